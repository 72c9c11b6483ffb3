"""Editions: a dictionary that grows by acts, and is frozen, printed and compared."""
