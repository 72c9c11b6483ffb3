"""The answers to a list of calls on one new house."""

from frozeneditions.acts import act
from frozeneditions.acts import is_act
from frozeneditions.forms import call_end
from frozeneditions.forms import is_as_told
from frozeneditions.forms import numbers_of
from frozeneditions.forms import row_of
from frozeneditions.house import House
from frozeneditions.refusals import NOT_AS_TOLD
from frozeneditions.telling import tell


def answer_of(house, call):
    if not is_as_told(call):
        return [NOT_AS_TOLD]
    if is_act(call[0]):
        return act(house, call[0], numbers_of(call), row_of(call))
    return tell(house, call[0], numbers_of(call), row_of(call))


def answers(calls):
    house = House()
    found = []
    start = 0
    while start < len(calls):
        end = call_end(calls, start)
        answer = answer_of(house, calls[start:end])
        found.append(len(answer))
        found.extend(answer)
        start = end
    return found
