import PyProof.Rows.All
import KE.KStrWords
import KE.KPairComp
import Open.SpecLaws
import KE.KTypeOf
import KE.OsHead
import KE.BitLaws
import KE.KFromBytes
import KE.KIntText
import KE.KRevIter
import KE.KDictOf
import KE.KStateDown
import PyVbdhag
import PySem.Challenge.RW_frozeneditions_s01_answers
set_option Elab.async false
set_option linter.all false
set_option maxRecDepth 100000
set_option maxHeartbeats 0
set_option bootstrap.genMatcherCode false
set_option compiler.extract_closed false
open List renaming length_map->ae9,length_append->afa,getElem?_eq_some_iff->afd,getElem?_eq_getElem->afi,mem_of_getElem?->afo,length_cons->afp,mem_cons_of_mem->afs,mem_cons->afv,getElem?_map->afw,map_append->afB,nodup_cons->afE,mem_map->afH,mem_append_right->afI,size_toArray->afJ,mem_append->afL,mem_filter->afM,replicate->afO,append_assoc->afQ,take_length->afR,filter_cons->afS,length_take->afW,mem_append_left->afY,mem_cons_self->af2,all_eq_true->af4,append_nil->af5,length_filter_le->af6,map_cons->af9,getElem?_of_mem->aga,flatMap_cons->agg,filter_append->agj,length_drop->agp,drop_of_length_le->agr,getElem?_append_right->agt,take_of_length_le->agu,flatMap_append->agF,getLast?_concat->agG,take_append_drop->agI,getElem?_append_left->agK,drop_eq_getElem_cons->agL,length_singleton->agR,nil_append->agT,replicate_succ->agZ,length_replicate->ag0,all_map->ag3,map_map->ag4,find?_cons->ag8,cons_append->ag9,map_congr_left->ahb,nodup_append->ahd,lookup_cons->ahr,take_zero->ahy,drop_drop->ahA,filter_nil->ahG,length->ahN,getD_eq_getElem?_getD->ahS,drop_zero->ahV,getElem?_drop->ahX,of_mem_zip->ah1,flatten_cons->ah5,append_cancel_left->aic,getLast?_eq_some_getLast->aie,foldl_cons->aij,take_left'->aim,any_cons->aio,getElem?_eq_none->aip,singleton_append->aiq,mem_range->aiv,lookup->aiw,erase_cons_tail->aiy,getElem?_zipIdx->aiA,drop_take->aiB,filterMap_cons->aiG,filter_eq_self->aiH,drop_succ_cons->aiI,map_take->aiK,length_nil->aiO,range->aiQ,eraseIdx_cons_succ->aiX,getElem?_set_self->ai2,find?_cons_of_neg->ajg,find?_cons_of_pos->ajh,filter_congr->ajk,concat_eq_append->ajn,getElem_inj->ajo,drop_length->ajs,map_drop->ajy,getElem?_set_ne->ajB,erase_cons_head->ajC,dropLast_concat->ajD,drop_left'->ajR,map_nil->ajZ,mem_filterMap->aj7,getElem?_eq_none_iff->akc,mem_or_eq_of_mem_set->akf,mem_of_find?_eq_some->akg,getElem?_zip_eq_some->akh,foldl_append->akl,getElem?_take_of_lt->akr,all_cons->aks,any_eq_true->akC,not_mem_nil->akD,drop_append->akJ,getElem_mem->akL,range_succ_eq_map->akT,length_set->ak3,filter_map->ak4,length_zip->ak5,perm_append_comm->ak9,eq_nil_or_concat->ala,nodup_nil->alo,take_succ_cons->alH,find?_eq_none->alS,set_cons_succ->alT,filter_filter->alV,map_inj_right->alW,any_eq_false->al2,take_sublist->al5,mem_flatMap->amm,flatMap_map->amt,forIn_cons->amA,foldl->amK,forIn_nil->amO,all_congr->amT,dropLast->anm,take_nil->anp,any_map->anw,map_set->anA,map_id->anO
open PySem renaming Addr->afb,Value->afe,wpAny_bind->afg,Program->afz,Shared->afA,FuncData->afC,Stmt->afP,wpAny_pure->afX,World->af3,Heap->age,boot_len->ago,mem_of_lookup->agv,NameKind->agJ,Expr->agP,wpAny_field->agV,wpAny_setField_rec->agY,wpAny_truthy_bool->ag1,wpAny_pyIter_list->aho,wpAny_seqItems->ahp,Around->ahD,wpAny_mono->ahF,Scope->ahM,wpAny_Call_Name_kw->ahR,wpAny_passesOwn->ahZ,wpAny_call_entry->ah9,wpAny_updateSeq->ail,wpAny_holding->ain,Result->aiF,call_meets->aiR,tupleKind_room_in1->aiS,wpAny_letGo->ai1,codeAny_mono->ai4,wpAny_newObj_type->ai7,wpAny_pyIter_enum->ai9,wpAny_tryCatch->ajj,CmpOp->ajA,codeAny_call_builtin->ajF,wpAny_execs_nil->ajH,pushCells_keeps->ajI,codeAny_builtin->ajM,call_meetsIn->aj0,Builtin->aj1,Model->aj4,wpAny_letOwnedTupleGo_enum->aka,wpAny_Call_method->akj,wpAny_standAt->akp,IsEnum->aku,plainId_quiet->akw,wpAny_attempt->akx,IsZip->akH,wpAny_pyIter_zip->akI,wpAny_pyNext_range_end->akO,wpAny_pyIter_rangeiter->akP,meets_dict_get_default->akU,wpAny_rule->akY,wpAny_nextOf_list_item->ak0,wpAny_isTrue_Compare1->ak6,wpAny_nextOf_list_end->alb,wpAny_loadName_local->ale,IsRangeIter->alf,sizeLine_eq->alg,wpAny_loadPart->ali,PyData->alk,Params->alu,Keyword->alz,wpAny_loadName_cell->alD,wpAny_Tuple_spliced->alE,wpAny_pyIter_tuple->alM,wpAny_pyIter_range->alN,wpAny_List_spliced->alO,wpAny_call->alP,Within->alY,Operator->al0,wpAny_assign_Name->al1,BindsTo->al4,seqIndex_neg->al6,slot_list_getitem->al7,OsState->amg,wpAny_execs_cons->amh,wpAny_getItem_of->aml,wpAny_isInstance->amo,seqIndex_of->amv,wpAny_of_eq->amx,wpAny_Name->amH,typeIs_int->amJ,Arguments->anr,IsEnumOut->anu,DictEntry->anv,call->an1
open PySem.Heap renaming get?_push_of_some->afk,get?_push_size->afG,lt_size->afT,size_push->agf,SameBut->agk,get?_update_other->agQ,get?_update_self->ahq,IsList->akn,ExtBut->amy
open Vbdhag renaming State->afl,Entry->afm,senseAt->afr,allSenses->afD,numberOf->afV,Book->af8,putBehind->agd,hasEntry->agl,book->agm,position->agn,changeTold->agq,entryNames->ags,entryOf->agx,bookOf->agA,run->agB,Act->agE,Change->agX,changesOf->ag5,Bytes->aha,putEntry->ahf,lengthOf->ahg,step->ahl,decimal->ahm,inEntry->ahv,stepNumbers->ahz,history->ahC,nameAt->ahI,hasSense->ahJ,cutAt->ahK,outOf->ait,empty->aiE,Sense->aiY,wrong->ai0,start->ajf,senseLine->aju,linesFrom->ajx,isSaying->ajQ,patched->akm,Shown->akz,Call->akE,corrected->akK,entryAt->alp,isSense->alr,printed->als,bytesOf->alA,isWord->alJ,EDITIONS->amD,changes->amS,guard->anx,doAct->anC,apply->anE,nats->anR
open Nat renaming le_refl->afn,le_trans->afu,zero_le->afF,le_succ_of_le->afK,lt_of_lt_of_le->agi,ne_of_lt->agw,le_of_lt->agC,le_add_right->agN,add_sub_cancel_left->ag6,lt_irrefl->ahn,le_succ->ahx,min_eq_left->ahH,add_sub_cancel->ahT,succ_ne_zero->ah8,ne_of_gt->aif,zero_add->aii,not_lt_zero->aik,lt_succ_of_lt->ais,add_comm->aiC,succ_pos->aiD,lt_of_le_of_lt->aiT,le_of_succ_le->ai6,succ_le_succ->ajq,min_eq_right->ajt,min_le_right->ajw,lt_succ_self->akA,succ_ne_self->akB,le_of_eq->akQ,lt_of_succ_lt_succ->akV,not_lt->akW,sub_self->akX,lt_trans->al9,sub_zero->amd,min_le_left->amC,max_zero->anB
open PySem.F renaming plainAttrs_list->afq,slot_list_extend->af0,type_list_extend->af7,slot_list_append->agc,type_list_append->agh,plain_max_loop->ahP,slot_tuple_iterator_next->ahU,slot_dict_get->ahY,slot_list_index->ah7,slot_list_remove->aid,slot_enumerate_next->air,type_list_remove->aiL,args_dict_get_3->aiV,plainAttrs_dict->aiW,type_list_index->aiZ,entry_dict_get->ai8,slot_list_insert->ajb,args_tuple_iterator_next_1->ajO,slot_zip_next->ajP,entry_tuple_iterator_next->aj3,slot_dict_delitem->akd,slot_dict_getitem->ake,type_list_insert->akv,entry_max_loop->akF,args_enumerate_next_1->akG,entry_enumerate_next->akZ,slot_dict_pop->ak7,type_dict_get->ak8,args_list_extend_2->alj,entry_list_extend->alG,args_zip_next_1->amc,entry_zip_next->amq,slot_int_rmul->amz,entry_zip_new->amB,owner_object->amR
open Option.some renaming inj->aft
open Sum renaming inl->afx,inr->alw
open Bool renaming and_eq_true->afy,false_ne_true->afN,noConfusion->agO,eq_iff_iff->ah0,false_and->ai3,true_and->ajz,and_eq_true_iff->alv,false_eq_true->alR,not_eq_false->ama,not_eq_true'->amf,and_false->amL,and_assoc->amQ
open PySem.W renaming Frag->afU,WData->ahB,instObj->ahE,methodCall_KW->ajm,length_le_weightAllW->ajU,plainGet_of->ajW,lookIn->aj8,callWith_K->aj9,methodObj->aki,mg_of->akM,cellsFrom_some->akR,WellAll->ak1,takerIn->ak2,callWith_K0->alF,handedIn->ami,WRecords->amu,SharedT->amG,WalkOS->amW
open PySem.Value renaming ref->afZ,int->ahO,none->ahQ,type->aiP,bool->aj5,str->alx,isStrOf->am7,isInt->anF,bytes->anG,float->anH
open PySem.PassesOwn renaming never->af1
open Classical renaming byContradiction->agy
open PySem.Str renaming ofString->agD,empty->ah6
open PySem.Builtin.SmallTypes renaming ownedTupleIsFree->agH,nextOf->agM,ownedTupleHandOut->ahc,fitsIndex->ajN
open Ne renaming symm->agU
open True renaming intro->agW
open PyProof.Rows renaming callWith_type1->ag2,subscriptTail_builtinR->akS,AllBare->aly,FormattedValue_plain->alX,boot_all->ame,callWith_builtin1->amj,boot_list->amn,iadd_int->amF,Subscript_->amI,boot_dict->ant
open PySem.PyData renaming int->ag7,eqvAll->ahw,depthAll->ah2,canLayAll0->aiu,eqv->amN,depth->anD
open PySem.Builtin.List renaming listTooLong->ahe,listFitsIndex->amP
open False renaming elim->ahh
open PySem.Calls renaming spliced_cons->ahi,spliced_nil->ah3,callWith_builtin->aih,evalArgs_plain->aix,Name_function_global->aj6
open PySem.Obj renaming mapSeq->ahj,data_mapFields->alU
open Int renaming natCast_nonneg->ahs,lt_of_le_of_lt->ahW,toNat_natCast->ah4,le_trans->aja,ofNat_le->anz
open Vbdhag.Change renaming dropEntry->ahu,moveEntry->aia,moveSense->aib,dropSense->ajv
open PySem.SeqAt renaming shaped->ahL,EqAt->anW
open PyVbdhag renaming shape->aiz,answers_asked->aji,answers->ajr,whole->alq
open PySem.NameKind renaming free->aiJ,cell->alI
open PySem.AutoSeq1 renaming wpAny_loadPart'->aiM
open List.cons renaming inj->aiN
open PySem.Builtin.Range renaming rangeSize->aiU,small->anS
open Option renaming map_eq_some_iff->ai5,map_some->ajK,isSome_iff_exists->akq,bind_eq_some_iff->akN,none->alm,isSome_some->alQ,isSome_map->al8,getD_none->amk
open List.Perm renaming refl->ajc,swap->ajd
open Iff renaming rfl->aje,trans->ams
open PySem.W.Codec renaming encAll->ajl,denoteAll->ajS,app->alC,withinAll->amE
open PySem.Around renaming under_plainId->ajE,under->al3
open PySem.Shared renaming heap->ajG
open ForInStep renaming yield->ajJ
open Vbdhag.Act renaming erratum->ajL
open PySem.W.WData renaming weightAll->ajT,int->an4
open Array renaming length_toList->ajV,size_setIfInBounds->aky,getElem?_toList->alc,mem_toList_iff->alh,toList->alZ
open PySem.Heap.SameBut renaming update->ajX
open PySem.Builtin.Builtins renaming bindParams->aj2
open Or renaming inl->akb,inr->anY
open PySem.Paired renaming length->ako,snoc->anM
open Sum.inl renaming inj->ald
open PySem.SeqAt.EqAt renaming int_str->alK,str_int->alL
open PyFlat renaming calls->amb,rows->amw,played->ano,call->anP,told->anQ,row->anZ
open PySem.Heap.IsList renaming push->amr
open PySem.Walks renaming list->amM,range->anJ
open PySem.Data renaming seq->amU
open PySem.Value.type renaming inj->amV
open PySem.EqNone renaming eq_none_none->amX,eq_none_bool->amY,eq_bool_none->amZ,ne_none_none->am2,ne_none_bool->am3,ne_bool_none->am4,eq_none_int->am8,eq_none_str->am9,eq_int_none->ana,eq_str_none->anc,ne_none_int->anf,ne_none_str->ang,ne_int_none->anh,ne_str_none->anj
open PySem.EqMixed renaming eq_bool_str->am0,eq_str_bool->am1,ne_bool_str->am5,ne_str_bool->am6,eq_int_str->anb,eq_str_int->ane,ne_int_str->ani,ne_str_int->ank
open List.Pairwise renaming imp_of_mem->anl
open Int.ofNat renaming inj->anq
open PySem.CmpOp renaming NotIn->anI
open PySem.IsRange renaming new->anK
open PySem.MeetsSeq.EqGives renaming int->anN
open VbdhagNeutral renaming start->anT,step->an0
open PySem.W.Looks renaming here->anU
open PySem.Heap.IsSliceOf renaming new->anV
open PySem.Within renaming cons->an2
open PySem.Heap.IsTuple renaming push->an3
abbrev afc:=@if_neg
abbrev aff:=@of_decide_eq_true
abbrev afh:=@if_pos
abbrev afj:=@decide_eq_true
abbrev agb:=@decide_eq_false
abbrev agz:=@decide_eq_decide
abbrev agS:=@beq_eq_false_iff_ne
abbrev ahk:=@decide_eq_true_iff
abbrev aht:=@beq_self_eq_true
abbrev ajp:=@beq_iff_eq
abbrev ajY:=@if_true
abbrev akk:=@not_false_eq_true
abbrev akt:=@not_or
abbrev aln:=@or_congr
abbrev alB:=@and_congr
namespace FM
open Vbdhag
def ZW:List (List (Nat×Nat)):=[[(0,20)],[(1,20),(0,50)],[(1,50)],[(1,50),(0,50)],[(1,50),(1,20),(0,50)],[(1,20),(0,20)],[(1,50)],[(1,20)],[(1,10),(1,50)],[],[(0,10)],[(1,10)],[(0,10),(0,10)],[(0,10)],[(0,10),(1,50)],[(0,10),(1,20),(1,50)],[(0,10),(1,20),(1,50),(0,10)],[(0,10)],[(0,10)],[(0,10),(1,50)],[],[(1,10)],[(1,200)],[(0,10)],[]]
def rg(p:Nat):List (Nat×Nat):=ZW.getD p []
def lp:List Nat:=[0,1,1,2,2,3,3,1,2]
def bk(p:Nat):List Nat:=if p=12 then [0,1]else if p=16 then [0,3]else if p=10\/p=11\/p=13\/p=14\/p=15\/p=17\/p=18\/p=19\/p=21\/p=23 then [0]else []
end FM
namespace L2
open PySem PySem.Spec PyProof.Rows
open PySem.W (Frag fnOf keepIn mg_of findIn nsIn emptyDict plainGet hasDictIn isFn makesIn codeIn plainOver)
def gM(s:afP):anr:=match s with
 | .FunctionDef _ a _ _ _ _ _ _ _ _=>a
 |_=>{posonlyargs:=[],args:=[],vararg:=none,kwonlyargs:=[],kw_defaults:=[],kwarg:=none,defaults:=[]}
def cq(s:afP):List afP:=match s with
 | .FunctionDef _ _ b _ _ _ _ _ _ _=>b
 |_=> []
def ai(s:afP):ahM:=match s with
 | .FunctionDef _ _ _ _ _ _ sc _ _ _=>sc
 |_=>{kind:= .function,names:=[],isGenerator:=false,isCoroutine:=false}
def bt(s:afP)(j:Nat):afP:=match s with
 | .ClassDef _ _ _ body _ _ _ _ _ _ _=>body.getD j (.Pass ⟨0,0,0,0⟩)
 |_=> .Pass ⟨0,0,0,0⟩
end L2
namespace FE
open PySem PySem.Spec PyProof.Rows L2 FM
open PySem.W (Frag fnOf keepIn mg_of findIn nsIn emptyDict plainGet hasDictIn isFn makesIn codeIn plainOver)
open Vbdhag (Book nat numberOf entryAt allSenses Change position putBehind bookOf hasEntry changeTold two entryOf decimal kept history lengthOf empty onSense outOf hasSense putEntry inEntry entryNames Sense Call wrong dead pair senseLine changesOf stepNumbers patched bytesOf changes cutAt)
def dC(i:Nat):afP:=PySem.Challenge.pw_frozeneditions_s01_answers.main.body.getD i (.Pass ⟨0,0,0,0⟩)
abbrev ip:afP:=dC 44
abbrev gm:afP:=dC 54
def cB(K:afU)(l:List (Str×Int)):Bool:=l.all fun p=>match nsIn K mainGlobals p.1 with
 |some (some (.int i _))=>decide (i=p.2)
 |_=>false
def oB(K:afU)(l:List Str):Bool:=l.all fun x=>match nsIn K mainGlobals x with
 |some none=>true
 |_=>false
def Cq(K:afU)(a:afb):Option (List afe):=match K.lookup a with
 |some ⟨.type t,_,.seq aR _,_⟩=>if t="tuple"/\aR.size<=1000 then some aR.toList else none
 |_=>none
def zA:List afe->Option (List Nat)
 | []=>some []
 |v::r=>match v with
  | .int (.ofNat n) _=>(zA r).map (n::·)
  |_=>none
def zD:List afe->Option (List afb)
 | []=>some []
 |v::r=>match v with
  | .ref a=>(zD r).map (a::·)
  |_=>none
def kN(K:afU)(a:afb):Option (List Nat):=(Cq K a).bind zA
def kR(K:afU)(a:afb):Option (List afb):=(Cq K a).bind zD
def IB(K:afU):List afb->List (Nat×Nat)->Bool
 | [],[]=>true
 |q::qs,x::xs=>decide (kN K q=some [x.1,x.2])&&IB K qs xs
 |_,_=>false
def CP(K:afU):List afb->Nat->Bool
 | [],_=>true
 |r::rs,p=>(match kR K r with
  |some qs=>IB K qs (rg p)
  |none=>false)&&CP K rs (p+1)
def Pp(K:afU)(R:afb):Bool:=match kR K R with
 |some rs=>decide (rs.length=25)&&CP K rs 0
 |none=>false
def rQ:List anv->Option (List (Int×afb))
 | []=>some []
 |e::r=>match e with
  |⟨hs,.int k _,.ref a⟩=>if hs=hashInt k then(rQ r).map ((k,a)::·)else none
  |_=>none
def kD(K:afU)(a:afb):Option (List (Int×afb)):=match K.lookup a with
 |some ⟨.type t,none,.dict es _,sl⟩=>if t="dict"/\sl.size=0/\(a==sysModules)=false then(match rQ es.toList with
  |some l=>if(l.map (·.1)).Nodup then some l else none
  |none=>none)else none
 |_=>none
def ve(l:List (Int×afb))(p:Nat):Option afb:=(l.find? fun q=>decide (q.1=(p:Int))).map (·.2)
def Jl(K:afU)(a:afb)(nm:List (Option Str)):Bool:=match kD K a with
 |some l=>(aiQ 25).all fun p=>match nm.getD p none with
  |none=>(ve l p).isNone
  |some g=>match ve l p,nsIn K mainGlobals g with
   |some r,some (some (.ref r'))=>decide (r=r')
   |_,_=>false
 |none=>false
def N7(K:afU)(a:afb):Bool:=match kD K a with
 |some l=>(aiQ 25).all fun p=>match ve l p with
  |none=>decide (bk p=[])
  |some r=>decide (kN K r=some (bk p))
 |none=>false
def CN(K:afU):List afb->List Str->Bool
 | [],[]=>true
 |r::rs,g::gs=>(match nsIn K mainGlobals g with
  |some (some (.ref r'))=>decide (r=r')
  |_=>false)&&CN K rs gs
 |_,_=>false
def N1(K:afU)(a:afb)(gs:List Str):Bool:=match kR K a with
 |some rs=>CN K rs gs
 |none=>false
def cs:List (Str×Int):=[("NOT_AS_TOLD",-1),("NO_CHANGES",-3),("FULL",-4),("NO_ENTRY",-5),("NO_SENSE",-6),("NO_PLACE",-7),("NO_EDITION",-8),("NO_LINE",-5),("MOST_ENTRIES",20),("MOST_SENSES",50),("MOST_LINES",200),("MOST_EDITIONS",10),("SENSE_MADE",1),("SENSE_MOVED_house",4),("ERRATUM",8),("ENTRY_DROPPED",1),("SENSE_DROPPED",2),("ENTRY_NEW",3),("ENTRY_MOVED",4),("SENSE_NEW",5),("SENSE_MOVED_kinds",6),("SAID",7),("POINTED",8),("LINE_END",10),("BLANK",32),("DASH",45),("DOT",46),("ZERO",48),("NINE",57),("GREATEST_reading",99),("GREATEST_patching",100)]
def os:List Str:=["list","dict","len","range","enumerate","zip","max","all","ord"]
def nA:List Str:=["entry","sense","say_acts","point_acts","movesense","moveentry","dropsense","dropentry","erratum"]
def nW:List (Option Str):=[some "is_word",some "is_text",some "is_text",none,none,none,none,none,some "is_text",none,none,none,none,some "may_be_changes",none,none,none,none,none,none,some "is_print",none,none,none,none]
def nD:List (Option Str):=[none,some "drop_entry",some "drop_sense",some "make_entry",some "move_entry",some "make_sense",some "move_sense",some "say_patching",some "point_patching",none,none,none,none,none,none,none,none,none,none,none,none,none,none,none,none]
def nT:List (Option Str):=[none,none,none,none,none,none,none,none,none,some "freeze",some "print_book",some "corrected",some "changes",some "patch",some "number",some "name",some "carry",some "pointers",some "dead",some "blame",some "check",some "errata",some "line",some "size",some "state"]
abbrev zN:Type:=Option (Str×Str×anr×FuncBody×ahM×afb×List (Str×afb)×afe×afb)
def ug(x q:Str)(st:afP):zN:=some (x,q,gM st,.stmts (cq st),ai st,mainGlobals,[],.none,builtinsNs)
def xT(K:List (afb×Obj))(f:afb)(q:Str):zN:=match K.lookup f with
 |some ⟨_,_,.func fd,_⟩=>if(codeIn K fd.code q&&keepIn K (.ref f))=true then some (fd.name,fd.qualname,fd.params,fd.body,fd.scope,fd.globals,fd.closure,fd.defaults,fd.builtins)else none
 |_=>none
def T2(K:List (afb×Obj))(p:Str×Str×Nat):zN:=match nsIn K mainGlobals p.1 with
 |some (some (.ref f))=>xT K f p.2.1
 |_=>none
def Ql(K:List (afb×Obj))(c:Str)(p:Str×Str×Nat):zN:=match nsIn K mainGlobals c with
 |some (some (.ref C))=>(match findIn K (.ref C) p.1 with
  |some (some (.ref f))=>if isFn K (.ref f)=true then xT K f p.2.1 else none
  |_=>none)
 |_=>none
def tG0:List (Str×Str×Nat):=[("is_place","is_place",9),("put_behind","put_behind",10),("places_of","places_of",11),("rising_lengths","rising_lengths",12),("those_that_stay","those_that_stay",13),("copied","copied",45),("entry","entry",15),("sense","sense",16),("say_acts","say",17),("point_acts","point",19),("movesense","movesense",21),("moveentry","moveentry",22),("dropsense","dropsense",23),("dropentry","dropentry",24),("erratum","erratum",25),("is_act","is_act",27),("act","act",28),("is_row","is_row",31),("is_word","is_word",32),("is_text","is_text",33)]
def tG1:List (Str×Str×Nat):=[("is_print","is_print",34),("may_be_changes","may_be_changes",35),("call_end","call_end",37),("numbers_of","numbers_of",38),("row_of","row_of",39),("numbers_are_told","numbers_are_told",40),("row_is_told","row_is_told",41),("is_as_told","is_as_told",42),("change","change",65),("entries_dropped","entries_dropped",66),("entries_placed","entries_placed",67),("senses_left","senses_left",68),("senses_dropped","senses_dropped",69),("senses_placed_in","senses_placed_in",70),("senses_placed","senses_placed",71),("senses_said","senses_said",72),("senses_pointed","senses_pointed",73),("changes_between","changes_between",74),("sense_numbers","sense_numbers",77),("number_among","number_among",78)]
def tG2:List (Str×Str×Nat):=[("number_in","number_in",79),("sense_at","sense_at",80),("pointers_of","pointers_of",81),("dead_pointers_of","dead_pointers_of",82),("is_head","is_head",85),("are_bytes_of","are_bytes_of",86),("change_end","change_end",87),("is_change","is_change",88),("are_changes","are_changes",89),("drop_entry","drop_entry",90),("drop_sense","drop_sense",91),("make_entry","make_entry",92),("move_entry","move_entry",93),("make_sense","make_sense",94),("move_sense","move_sense",95),("say_patching","say",96),("point_patching","point",98),("first_not_applied","first_not_applied",101),("bytes_of","bytes_of",103),("dotted","dotted",104)]
def tG3:List (Str×Str×Nat):=[("entry_head","entry_head",105),("sense_head","sense_head",106),("entry_line","entry_line",107),("sense_line","sense_line",108),("pointed_as","pointed_as",109),("printed","printed",110),("is_number","is_number",119),("is_pointer","is_pointer",120),("is_entry_line","is_entry_line",121),("is_sense_line","is_sense_line",122),("ended_lines","ended_lines",123),("read","read",124),("freeze","freeze",126),("print_book","print_book",127),("corrected","corrected",128),("changes","changes",129),("patch","patch",130),("number","number",131),("name","name",132),("carry","carry",133)]
def tG4:List (Str×Str×Nat):=[("pointers","pointers",134),("dead","dead",135),("blame","blame",136),("check","check",137),("errata","errata",138),("line","line",139),("size","size",140),("state","state",141),("books_are_there","books_are_there",144),("tell","tell",145),("answer_of","answer_of",147),("answers","answers",148)]
def tG:List (Str×Str×Nat):=(tG0.append (tG1.append (tG2.append (tG3.append tG4))))
def tB0:List (Str×Str×Nat):=[("__init__","Book.__init__",0),("has_entry","Book.has_entry",1),("has_sense","Book.has_sense",2),("senses","Book.senses",3),("make_entry","Book.make_entry",4),("make_sense","Book.make_sense",5),("say","Book.say",6),("point","Book.point",7),("move_entry","Book.move_entry",8),("home_of","Book.home_of",12),("take_out","Book.take_out",13),("forget","Book.forget",14),("move_sense","Book.move_sense",9),("drop_entry","Book.drop_entry",10),("drop_sense","Book.drop_sense",11)]
def tB:List (Str×Str×Nat):=tB0
def tH0:List (Str×Str×Nat):=[("__init__","House.__init__",0),("log_is_full","House.log_is_full",1),("no_more_entries","House.no_more_entries",2),("no_more_senses","House.no_more_senses",3),("no_more_editions","House.no_more_editions",4),("note","House.note",5),("freeze","House.freeze",6),("has_book","House.has_book",7),("book","House.book",8),("length","House.length",9),("errata","House.errata",10),("corrected","House.corrected",11),("blame","House.blame",12)]
def tH:List (Str×Str×Nat):=tH0
def rf(K:List (afb×Obj))(x:Str)(f:afb->Bool):Bool:=match nsIn K mainGlobals x with
 |some (some (.ref a))=>f a
 |_=>false
def ZQ(K:List (afb×Obj))(C:afb)(x:Str):Bool:=match findIn K (.ref C) x with
 |some none=>true
 |_=>false
def TR(K:List (afb×Obj))(fs:List Str)(C:afb):Bool:=plainGet K C ah6&&hasDictIn K C&&plainOver K C&&(match findIn K (.ref C) "__setattr__"with
 |some (some (.builtin b))=>decide (b="object.__setattr__")
 |_=>false)&&makesIn K C&&keepIn K (.ref C)&&fs.all (ZQ K C)
def fB:List Str:=["order","words","rows","texts","targets"]
def fH:List Str:=["now","log","editions","lengths","entries_made","senses_made"]
def Gx(K:List (afb×Obj)):Bool:=rf K "Book" (TR K fB)&&rf K "House" (TR K fH)&&rf K "ACTS" (fun r=>N1 K r nA)&&rf K "RANGES" (Pp K)&&rf K "ROWS" (fun r=>Jl K r nW)&&rf K "DOINGS" (fun r=>Jl K r nD)&&rf K "TELLINGS" (fun r=>Jl K r nT)&&rf K "BOOKS" (N7 K)&&rf K "NOT_THERE" (fun r=>decide (kN K r=some [0,0]))&&rf K "NUMBERS" (fun r=>decide (kN K r=some lp))&&cB K cs&&oB K os
abbrev xU:Type:=Bool×List zN×List zN×List zN
def rT(K:List (afb×Obj)):xU:=(Gx K,tG.map (T2 K),tB.map (Ql K "Book"),tH.map (Ql K "House"))
def r6:xU:=(true,tG.map (fun p=>ug p.2.1 p.2.1 (dC p.2.2)),tB.map (fun p=>ug p.1 p.2.1 (bt ip p.2.2)),tH.map (fun p=>ug p.1 p.2.1 (bt gm p.2.2)))
def z8(h:age):List (afb×Obj):=(h.objs.toList.zipIdx.filterMap fun p=>(PySem.W.alive p.1).map fun o=>(p.2,o)).reverse
section
open PySem.W PySem.Calls
def mi(tb:String->Option aj1)(p:afz)(w:af3)(n₀:Nat)(QT:Option afe):Nat->amG->Thread->Option amG
 |0,_,_=>none
 |n+1,s,t=>match through t with
  |true=>some s
  |false=>match stepOk n₀ QT t with
   |false=>none
   |true=>match stepT (denote tb) p w s t with
    |some r=>mi tb p w n₀ QT n r.1 r.2
    |none=>none
theorem vG{tb:String->Option aj1}{p:afz}{w:af3}{n₀:Nat}{QT:Option afe}:∀{n:Nat} {s:amG} {t:Thread} {s':amG},mi tb p w n₀ QT n s t=some s'->topRun tb p w n₀ QT n s.abs t=some s'.abs
 |0,_,_,_,h=>by simp[mi]at h
 |n+1,s,t,s',h=>by
  unfold mi at h;unfold topRun;split
  .rename_i e;rw[e]at h;cases h;rfl
  .rename_i e;rw[e]at h;split
   .rename_i e;rw[e]at h;cases h
   .rename_i e;rw[e]at h;cases hs:stepT (denote tb) p w s t with
    |none=>rw[hs]at h;cases h
    |some r=>obtain⟨s₂,t₂⟩:=r;rw[hs]at h;rw[stepT_spec hs];exact vG h
def pX:List Obj->Nat->BT->Option BT
 | [],_,t=>some t
 |o::l,n,t=>match((t.ins n o).get n).isSome with
  |true=>pX l (n+1) (t.ins n o)
  |false=>none
theorem tS{life:Life}:∀{l:List Obj} {n:Nat} {t t':BT},pX l n t=some t'->absHeap t' (n+l.length) life=⟨(absHeap t n life).objs++l.toArray,life⟩
 | [],n,t,t',h=>by
  cases h;simp[absHeap]
 |o::l,n,t,t',h=>by
  unfold pX at h;split at h
  .rename_i e;have q:=tS (life:=life) h;rw[absHeap_ins e]at q;rw[afp,show n+(l.length+1)=n+1+l.length by omega,q];simp[Heap.push]
  .cases h
def keep:List Nat:=(aiQ 149).filter fun i=> !([8,14,17,19,29,43,46,64,75,83,102,111,125,146]:List Nat).contains i
def vq(p:afz):afz:=view p keep
def lo:List Str:=["say_acts","point_acts","ACTS","ROWS","say_patching","point_patching","DOINGS","TELLINGS","BOOKS"]
def lw:List Str:=lo.append ["RANGES","NUMBERS","NOT_THERE"]
def Xt(p:afz)(s:afA):Bool:=xlAt (vq p) [] s&&recOk [] s
def Yf(s:afA):xU:=rT (z8 s.heap)
noncomputable def AM {α:Type} (f:amG->α) (p:afz) (h:age) (w:af3) (os:amg):Option α:=
 (pX h.objs.toList 0 .nil).bind fun t=>(mi treeTable p w h.objs.size (h.nsMap mainGlobals "__annotations__") 12000 ⟨t,h.objs.size,h.life,#[],boot_drawn,boot_toks,os⟩ (topStub p)).map f
def va(p:afz)(s:afA):=(seen ((recsOf (vq p)).map (·.name)) (ownsOf (vq p)) [] {s with gens:= #[]},plainSeenE (vq p) lw s)
def ga(p:afz):=some (expectedOf (vq p),plainGoodE (vq p) lw)
def vb(p:afz)(h:age)(s:afA):=(h.isNs mainGlobals,(staticsOk (importedModules p.main.body) h s.heap&&namesBound p s.heap&&gensDone s&&laidKept h s.heap),s.heap.bltView,pinSeenD (vq p) (drecsOf (vq p)) s,plainSeenD (vq p) lo s,wideSeen (vq p) s,clsSeenW (vq p) lo s)
def gb(p:afz):=some (true,true,bltViewBooted,pinGoodD (drecsOf (vq p)),plainGoodD (vq p) lo,wideGood (vq p),clsGoodW (vq p) lo)
def vc(p:afz)(s:afA):=s.heap.keysOk lw ((recsOf (vq p)).map (·.name)) ((litsOf (vq p)).map (·.1)) ((clssOf (vq p) lw).map (·.name))&&s.heap.accountedOkI (importedModules p.main.body)&&s.heap.isNs mainGlobals&&s.heap.isNs builtinsNs&&tablesOk (vq p) s.heap&&Xt p s&&(if true then s.gens.size==0 else !leftWithCleanup s.gens)
noncomputable def ra (p:afz) (h:age) (w:af3) (os:amg):=AM (fun s=>va p s.abs) p h w os
noncomputable def rb (p:afz) (h:age) (w:af3) (os:amg):=AM (fun s=>vb p h s.abs) p h w os
noncomputable def rc (p:afz) (h:age) (w:af3) (os:amg):=AM (fun s=>vc p s.abs) p h w os
noncomputable def rd (p:afz) (h:age) (w:af3) (os:amg):=AM (fun s=>tabsOk (vq p) s.abs) p h w os
noncomputable def re (p:afz) (h:age) (w:af3) (os:amg) (F:List (afb×Obj)->xU):=AM (fun s=>F (z8 s.abs.heap)) p h w os
def rl(p:afz):List Str:=looseW (vq p) lo
def q1(p:afz)(n:Str):=defOf (vq p) n
def q2(p:afz)(n:Str):=p.theDef n
def q4(p:afz)(n:Str)(a:List Codec)(r:Codec)(k:Codec.fn Bool a)(f:Codec.fn r.denote a):=(OpenSpec.mk p n a r k f).wellSaid
def q5(p:afz):=chainsOk (vq p)&&opensWell p
end
end FE
section
open PySem PySem.W PyProof.Rows
lay_quick FE.ra FE.rb FE.rc FE.rd FE.re FE.ga FE.gb FE.rl FE.q1 FE.q2 FE.q4 FE.q5
namespace FE
open PySem PySem.Spec PyProof.Rows L2 FM
open PySem.W (Frag fnOf keepIn mg_of findIn nsIn emptyDict plainGet hasDictIn isFn makesIn codeIn plainOver)
open Vbdhag (Book nat numberOf entryAt allSenses Change position putBehind bookOf hasEntry changeTold two entryOf decimal kept history lengthOf empty onSense outOf hasSense putEntry inEntry entryNames Sense Call wrong dead pair senseLine changesOf stepNumbers patched bytesOf changes cutAt)
variable{N N' e em i j n p sm:Nat}{P:Program}{x:Vbdhag.Entry}{pos:Pos}{w:World}{K:Frag}{mg:Str->Option Value}{base:Heap}{st:Stmt}{C CB CH D R a b c f fI fb fc fe fh fp h q u:Addr}{fd fR fZ fO f9 fX fY gg:FuncData}{ps:List Str}{ks ks' l t:List Nat}{ns r:List Int}{m p0 p1 p2:Str}{S:Vbdhag.State}{FZ cZ as rs ts:List Addr}{B B':Book}{z:Int}
abbrev pw:Program:=PySem.Challenge.pw_frozeneditions_s01_answers
abbrev wf(w:World)(b:Bool):World:=w.withFollow "special-get-raises" b
section
open PySem.W PySem.Calls
noncomputable def Pt (p:Program) (h:Heap) (w:World) (os:OsState):Option SharedT:=
 (pX h.objs.toList 0 .nil).bind fun t=>mi treeTable p w h.objs.size (h.nsMap mainGlobals "__annotations__") 12000 ⟨t,h.objs.size,h.life,#[],boot_drawn,boot_toks,os⟩ (topStub p)
theorem Lv{α:Type}{f:SharedT->α}{p:Program}{h:Heap}{os:OsState}:AM f p h w os=(Pt p h w os).map f:=by
 unfold AM Pt
 cases pX h.objs.toList 0 .nil<;>rfl
theorem Lu{p:Program}{h:Heap}{os:OsState}{s:SharedT}(e:Pt p h w os=some s):topRun treeTable p w h.objs.size (h.nsMap mainGlobals "__annotations__") 12000 ⟨h,#[],boot_drawn,boot_toks,os⟩ (topStub p)=some s.abs:=by
 obtain⟨t,h1,h2⟩:=Option.bind_eq_some_iff.mp e
 have q:=tS (life:=h.life) h1
 have z:absHeap t h.objs.size h.life=h:=by
  rw[Nat.zero_add,Array.length_toList]at q
  rw[q]
  show Heap.mk (#[]++h.objs.toList.toArray) h.life=h
  simp
 have k:=vG h2
 unfold SharedT.abs at k
 rw[z]at k
 exact k
theorem EY{p:Program}{h:Heap}{s:Shared}(hl:looseW (vq p) lo=lw)(A:some (va p s)=ga p)(B:some (vb p h s)=gb p)(C:vc p s=true)(T:tabsOk (vq p) s=true):openSeen (vq p) lo (importedModules p.main.body) (Xt p) true s=openGood (vq p) lo/\h.isNs mainGlobals=true/\(staticsOk (importedModules p.main.body) h s.heap&&namesBound p s.heap&&gensDone s&&laidKept h s.heap)=true:=by
 unfold va ga at A
 unfold vb gb at B
 unfold vc at C
 simp only[Option.some.injEq,Prod.mk.injEq]at A B
 obtain⟨a1,a2⟩:=A
 obtain⟨b1,b2,b3,b4,b5,b6,b7⟩:=B
 refine⟨?_,b1,b2⟩
 unfold openSeen openGood
 rw[hl,a1,a2,b3,b4,b5,b6,b7,T,C]
theorem G7{p:Program}{g:xU}(hb:∀w:World,(fencedOpening treeTable p w 12000).map (fun s=>(s.heap,s.gens,s.drawn,s.toks))=some (boot_heap w.params,Array.mk [],boot_drawn,boot_toks))(hl:looseW (vq p) lo=lw)
  (A:∀w os,ra p (boot_heap w.params) w os=ga p) (B:∀w os,rb p (boot_heap w.params) w os=gb p) (C:∀w os,rc p (boot_heap w.params) w os=some true) (T:∀w os,rd p (boot_heap w.params) w os=some true) (Y:∀w os,re p (boot_heap w.params) w os rT=some g):LeftO p (vq p) lo (Xt p) Yf (fun _=>g) 12000:=by
 intro w
 obtain⟨⟨hp,gn,dr,tk,os⟩,h0,e0⟩:=Option.map_eq_some_iff.mp (hb w)
 simp only[Prod.mk.injEq]at e0
 obtain⟨rfl,rfl,rfl,rfl⟩:=e0
 have a:=A w os
 have b:=B w os
 have c:=C w os
 have t:=T w os
 have y:=Y w os
 unfold ra at a
 unfold rb at b
 unfold rc at c
 unfold rd at t
 unfold re at y
 rw[Lv]at a b c t y
 obtain⟨s,hs,hy⟩:=Option.map_eq_some_iff.mp y
 have hy:Yf s.abs=g:=hy
 rw[hs]at a b c t
 obtain⟨k1,k2,k3⟩:=EY hl a b (Option.some.inj c) (Option.some.inj t)
 unfold openEnds
 rw[h0]
 show(topFrom treeTable p w 12000 _).map _=_
 unfold topFrom
 have k4:(boot_heap w.params).isNs mainGlobals&&(Array.mk ([]:List GenState)).size==0:=by rw[k2];rfl
 try dsimp only
 rw[show((boot_heap w.params).isNs mainGlobals&&(Array.mk ([]:List GenState)).size==0)=true from k4]
 try dsimp only
 rw[Lu hs]
 show Option.map _ (match _ with|true=>_|false=>_)=_
 rw[k3]
 show some (_,_)=some (_,_)
 rw[k1,hy]
theorem ra0(w:World)(os:OsState):ra pw (boot_heap (wf w false).params) (wf w false) os=ga pw:=by rw[PySem.W.Fast.te3079747556207907953,PySem.W.Fast.te16875336781647440174];kernel_rfl
theorem ra1(w:World)(os:OsState):ra pw (boot_heap (wf w true).params) (wf w true) os=ga pw:=by rw[PySem.W.Fast.te3079747556207907953,PySem.W.Fast.te16875336781647440174];kernel_rfl
theorem rb0(w:World)(os:OsState):rb pw (boot_heap (wf w false).params) (wf w false) os=gb pw:=by rw[PySem.W.Fast.te8647235550702580639,PySem.W.Fast.te8959733062528443320];kernel_rfl
theorem rb1(w:World)(os:OsState):rb pw (boot_heap (wf w true).params) (wf w true) os=gb pw:=by rw[PySem.W.Fast.te8647235550702580639,PySem.W.Fast.te8959733062528443320];kernel_rfl
theorem rc0(w:World)(os:OsState):rc pw (boot_heap (wf w false).params) (wf w false) os=some true:=by rw[PySem.W.Fast.te6313052545421538984];kernel_rfl
theorem rc1(w:World)(os:OsState):rc pw (boot_heap (wf w true).params) (wf w true) os=some true:=by rw[PySem.W.Fast.te6313052545421538984];kernel_rfl
theorem rd0(w:World)(os:OsState):rd pw (boot_heap (wf w false).params) (wf w false) os=some true:=by rw[PySem.W.Fast.te5331792242917149562];kernel_rfl
theorem rd1(w:World)(os:OsState):rd pw (boot_heap (wf w true).params) (wf w true) os=some true:=by rw[PySem.W.Fast.te5331792242917149562];kernel_rfl
theorem re0(w:World)(os:OsState):re pw (boot_heap (wf w false).params) (wf w false) os rT=some r6:=by rw[PySem.W.Fast.te13948418482544998226];kernel_rfl
theorem re1(w:World)(os:OsState):re pw (boot_heap (wf w true).params) (wf w true) os rT=some r6:=by rw[PySem.W.Fast.te13948418482544998226];kernel_rfl
theorem rl0:looseW (vq pw) lo=lw:=by
 show rl pw=lw
 rw[PySem.W.Fast.te15041504574805267189];kernel_rfl
theorem FH{Q:World->OsState->Prop}(a:∀(w:World) (os:OsState),Q (wf w false) os)(b:∀(w:World) (os:OsState),Q (wf w true) os):∀w os,Q w os:=fun w=>byRow2 "special-get-raises" (P:=fun w=>∀os,Q w os) a b w
theorem left:LeftO pw (vq pw) lo (Xt pw) Yf (fun _=>r6) 12000:=G7 (boot_open (by rfl) (by rfl) fun s=>by rfl) rl0 (FH (Q:=fun w os=>ra pw (boot_heap w.params) w os=ga pw) ra0 ra1) (FH (Q:=fun w os=>rb pw (boot_heap w.params) w os=gb pw) rb0 rb1) (FH (Q:=fun w os=>rc pw (boot_heap w.params) w os=some true) rc0 rc1) (FH (Q:=fun w os=>rd pw (boot_heap w.params) w os=some true) rd0 rd1) (FH (Q:=fun w os=>re pw (boot_heap w.params) w os rT=some r6) re0 re1)
abbrev rW:OpenSpec:=PySem.Challenge.rw_frozeneditions_s01_answers
abbrev dA:DefRec:=⟨"answers",gM (dC 148),cq (dC 148),ai (dC 148),⟨708,0,718,16⟩⟩
theorem h1:defOf (vq rW.prog) rW.name=some (dA,[]):=by show q1 pw _=_;rw[PySem.W.Fast.te8474772435350225282];kernel_rfl
theorem h2:rW.prog.theDef rW.name=some (dA.params,dA.body,dA.scope):=by show q2 pw _=_;rw[PySem.W.Fast.te12192584385701955813];kernel_rfl
theorem h3:kwWritten? dA.params.kwonlyargs dA.params.kw_defaults=some []:=by kernel_rfl
theorem h4:rW.wellSaid=true:=by show q4 pw _ _ _ _ _=true;rw[PySem.W.Fast.te18261938155868599882];kernel_rfl
theorem h5:(chainsOk (vq rW.prog)&&opensWell rW.prog)=true:=by show q5 pw=true;rw[PySem.W.Fast.te10330635098598714623];kernel_rfl
theorem h6:rW.prog.bare:=⟨rfl,rfl,rfl,rfl,rfl,by decide+kernel⟩
theorem h7:∃args,rW.pre args=true/\WData.layableAll args=true:=⟨[.list [.int 9]],by decide+kernel,by decide+kernel⟩
end
end FE
end
namespace FM
open Vbdhag
variable{a e f i n s x:Nat}{l:List Nat}{b:af8}{t:aha}{r:List Int}{p q:Prop}{S:afl}
theorem fV(a x:Nat):∀l:List Nat,(agd a x l).Perm (x::l)
 | []=>ajc _
 |y::l=>by
  unfold agd;split
  .exact ajc _
  .split
   .exact ajd _ _ _
   .exact((fV a x l).cons y).trans (ajd _ _ _)
theorem hC{z:Nat}:z∈agd a x l↔z=x\/z∈l:=by
 rw[(fV a x l).mem_iff,afv]
theorem kj(h:l.Nodup)(hx:¬x∈l):(agd a x l).Nodup:=
 (fV a x l).nodup_iff.mpr (afE.mpr ⟨hx,h⟩)
theorem sP(x:Nat)(l:List Nat):agd 0 x l=x::l:=by
 cases l with
 |nil=>rfl
 |cons y l=>unfold agd;rw[afh rfl]
theorem oM{a x:Nat}(h0:a≠0):∀{l:List Nat} {j:Nat},l[j]? =some a->(∀m z,m<j->l[m]? =some z->z≠a)->agd a x l=l.take (j+1)++x::l.drop (j+1)
 | [],j,h,_=>by simp at h
 |y::l,0,h,_=>by
  have e:y=a:=by simpa using h
  unfold agd;rw[afc h0,afh e];rfl
 |y::l,j+1,h,e9=>by
  have e:y≠a:=e9 0 y (aiD j) rfl;have ih:=oM (x:=x) h0 (l:=l) (j:=j) (by simpa using h) fun m z hm hz=>e9 (m+1) z (Nat.succ_lt_succ hm) (by simpa using hz)
  unfold agd;rw[afc h0,afc e,ih];rfl
theorem gj(a:Nat)(x:afm):∀l:List afm,(ahf a x l).Perm (x::l)
 | []=>ajc _
 |y::l=>by
  unfold ahf;split
  .exact ajc _
  .split
   .exact ajd _ _ _
   .exact((gj a x l).cons y).trans (ajd _ _ _)
theorem fu{x z:afm}{l:List afm}:z∈ahf a x l↔z=x\/z∈l:=by
 rw[(gj a x l).mem_iff,afv]
theorem gO(a:Nat)(x:afm):∀l:List afm,(ahf a x l).map (fun e=>e.name)=agd a x.name (l.map fun e=>e.name)
 | []=>rfl
 |y::l=>by
  unfold ahf;rw[af9];unfold agd;split
  .rfl
  .split
   .rfl
   .rw[af9,gO a x l]
def names(b:af8):List Nat:=b.entries.map fun e=>e.name
def aD(b:af8):List Nat:=b.senses.map fun s=>s.name
structure WF(b:af8):Prop where
 en:(names b).Nodup
 e0:¬0∈names b
 an:(afD b).Nodup
 sn:(aD b).Nodup
 s0:¬0∈aD b
 same:∀n,n∈afD b↔n∈aD b
theorem iR:agl b e=true↔e∈names b:=by
 unfold agl names;rw[akC,afH];constructor
 .rintro⟨x,h,q⟩;exact⟨x,h,by simpa using q⟩
 .rintro⟨x,h,q⟩;exact⟨x,h,by simpa using q⟩
theorem cg:agl b e=false↔¬e∈names b:=by
 rw[<-iR];simp
theorem eC:ahJ b n=true↔n∈aD b:=by
 unfold ahJ aD;rw[akC,afH];constructor
 .rintro⟨x,h,q⟩;exact⟨x,h,by simpa using q⟩
 .rintro⟨x,h,q⟩;exact⟨x,h,by simpa using q⟩
theorem dF:ahJ b n=false↔¬n∈aD b:=by
 rw[<-eC];simp
theorem dH:n∈afD b↔∃e∈b.entries,n∈e.senses:=by
 unfold afD;rw[amm]
theorem uP:∀{l:List afm} {x:afm},(l.map fun e=>e.name).Nodup->x∈l->l.find? (fun e=>e.name==x.name)=some x
 | [],_,_,h=>nomatch h
 |y::l,x,hn,h=>by
  rw[af9,afE]at hn;rw[ag8];rcases afv.mp h with e|h
  .subst e;rw[aht]
  .have:¬y.name=x.name:=fun e=>hn.1 (by rw[e];exact afH.mpr ⟨x,h,rfl⟩)
   rw[show(y.name==x.name)=false from by simpa using this];exact uP hn.2 h
theorem bp{x:afm}(w:WF b)(h:x∈b.entries):entryAt b x.name=x:=by
 unfold entryAt;rw[uP w.en h];rfl
theorem rX:∀{l:List aiY} {x:aiY},(l.map fun e=>e.name).Nodup->x∈l->l.find? (fun e=>e.name==x.name)=some x
 | [],_,_,h=>nomatch h
 |y::l,x,hn,h=>by
  rw[af9,afE]at hn;rw[ag8];rcases afv.mp h with e|h
  .subst e;rw[aht]
  .have:¬y.name=x.name:=fun e=>hn.1 (by rw[e];exact afH.mpr ⟨x,h,rfl⟩)
   rw[show(y.name==x.name)=false from by simpa using this];exact rX hn.2 h
theorem eL{x:aiY}(w:WF b)(h:x∈b.senses):senseAt b x.name=x:=by
 unfold senseAt;rw[rX w.sn h];rfl
theorem yq:∀{l:List afm} {x y:afm} {n:Nat},(l.flatMap fun e=>e.senses).Nodup->x∈l->y∈l->n∈x.senses->n∈y.senses->x=y
 | [],_,_,_,_,h,_,_,_=>nomatch h
 |z::l,x,y,n,hn,hx,hy,nx,ny=>by
  rw[agg,ahd]at hn;obtain⟨h1,h2,h3⟩:=hn;have mem:∀{w:afm},w∈l->n∈w.senses->n∈l.flatMap fun e=>e.senses:=fun hw hnw=>amm.mpr ⟨_,hw,hnw⟩
  rcases afv.mp hx with e|Zy
  .rcases afv.mp hy with e'|WV
   .rw[e,e']
   .rw[e]at nx;exact absurd rfl (h3 n nx n (mem WV ny))
  .rcases afv.mp hy with e'|WV
   .rw[e']at ny;exact absurd rfl (h3 n ny n (mem Zy nx))
   .exact yq h2 Zy WV nx ny
theorem BW:∀{l:List afm} {x:afm} {n:Nat},x∈l->n∈x.senses->(∀y∈l,n∈y.senses->y=x)->l.find? (fun e=>e.senses.contains n)=some x
 | [],_,_,h,_,_=>nomatch h
 |y::l,x,n,h,hn,xT=>by
  rw[ag8];by_cases e:n∈y.senses
  .rw[show y.senses.contains n=true from by simpa using e,xT y (af2) e]
  .rw[show y.senses.contains n=false from by simpa using e];rcases afv.mp h with e'|h
   .subst e';exact absurd hn e
   .exact BW h hn fun z hz=>xT z (afs _ hz)
theorem gv{x:afm}(w:WF b)(h:x∈b.entries)(hn:n∈x.senses):agx b n=x.name:=by
 unfold agx;rw[BW h hn fun y hy hny=>yq w.an hy h hny hn];rfl
theorem jV(h:¬n∈afD b):agx b n=0:=by
 unfold agx;have:b.entries.find? (fun e=>e.senses.contains n)=none:=by
  rw[alS];intro e he hc;exact h (dH.mpr ⟨e,he,by simpa using hc⟩)
 rw[this];rfl
theorem aY:e∈names b↔∃x∈b.entries,x.name=e:=afH
theorem dB:e∈aD b↔∃x∈b.senses,x.name=e:=afH
theorem iu(w:WF b)(h:n∈afD b):agx b n∈names b/\agx b n≠0/\n∈(entryAt b (agx b n)).senses:=by
 obtain⟨x,hx,hn⟩:=dH.mp h;rw[gv w hx hn,bp w hx];have m:x.name∈names b:=aY.mpr ⟨x,hx,rfl⟩;exact⟨m,fun e=>w.e0 (e▸m),hn⟩
theorem eZ(w:WF b)(h:e∈names b):entryAt b e∈b.entries/\(entryAt b e).name=e:=by
 obtain⟨x,hx,rfl⟩:=aY.mp h;rw[bp w hx];exact⟨hx,rfl⟩
theorem jn(w:WF b)(h:e∈aD b):senseAt b e∈b.senses/\(senseAt b e).name=e:=by
 obtain⟨x,hx,rfl⟩:=dB.mp h;rw[eL w hx];exact⟨hx,rfl⟩
theorem WF.empty:WF aiE:=⟨by simp[names,aiE],by simp[names,aiE],by simp[afD,aiE],by simp[aD,aiE],by simp[aD,aiE],by simp[afD,aD,aiE]⟩
theorem iW{l m:List afm}(h:l.Perm m):(l.flatMap fun e=>e.senses).Perm (m.flatMap fun e=>e.senses):=h.flatMap_right _
theorem WF.entry(w:WF b)(he:¬e∈names b)(h0:e≠0):WF {b with entries:=ahf a ⟨e,t,[]⟩ b.entries}:=by
 have hn:names {b with entries:=ahf a ⟨e,t,[]⟩ b.entries}=agd a e (names b):=gO a ⟨e,t,[]⟩ b.entries;have hp:(afD {b with entries:=ahf a ⟨e,t,[]⟩ b.entries}).Perm (afD b):=by
  have:=iW (gj a ⟨e,t,[]⟩ b.entries);rw[agg]at this;exact this
 refine⟨?_,?_,hp.nodup_iff.mpr w.an,w.sn,w.s0,fun n=>(hp.mem_iff).trans (w.same n)⟩
 .rw[hn];exact kj w.en he
 .rw[hn,hC];exact fun h=>h.elim (fun z=>h0 z.symm) w.e0
theorem fC(b:af8)(x:Nat)(g:List Nat->List Nat):names (ahv b x g)=names b:=by
 unfold names ahv;rw[ag4];refine ahb fun e _=> ?_
 show(if e.name=x then _ else _:afm).name=e.name;split<;>rfl
theorem dI(b:af8)(n:Nat):names (ait b n)=names b:=by
 unfold names ait;rw[ag4];rfl
theorem eR(b:af8)(n:Nat)(g:aiY->aiY)(hg:∀s,(g s).name=s.name):aD (onSense b n g)=aD b:=by
 unfold aD onSense;rw[ag4];refine ahb fun e _=> ?_
 show(if e.name=n then _ else _:aiY).name=e.name;split
 .exact hg e
 .rfl
theorem WF.onSense{g:aiY->aiY}(w:WF b)(hg:∀s,(g s).name=s.name):WF (onSense b n g):=by
 have h:=eR b n g hg;exact⟨w.en,w.e0,w.an,by rw[h];exact w.sn,by rw[h];exact w.s0,fun k=>by rw[h];exact w.same k⟩
theorem ox{g:List Nat->List Nat}:∀{l:List afm} {x:afm},(l.map fun e=>e.name).Nodup->x∈l->
  ∃rest,(l.flatMap fun e=>e.senses).Perm (x.senses++rest)/\((l.map fun e=>if e.name=x.name then{e with senses:=g e.senses}else e).flatMap fun e=>e.senses).Perm (g x.senses++rest)
 | [],_,_,h=>nomatch h
 |y::l,x,hn,h=>by
  rw[af9,afE]at hn;rw[af9,agg,agg];rcases afv.mp h with e|h
  .subst e;refine⟨l.flatMap fun e=>e.senses,ajc _,?_⟩;rw[afh rfl];have:(l.map fun e=>if e.name=x.name then{e with senses:=g e.senses}else e)=l:=by
    refine(ahb fun e he=> ?_).trans (anO l);rw[afc fun z=>hn.1 (by rw[<-z];exact afH.mpr ⟨e,he,rfl⟩)];rfl
   rw[this]
  .have gh:¬y.name=x.name:=fun e=>hn.1 (by rw[e];exact afH.mpr ⟨x,h,rfl⟩)
   obtain⟨rest,h1,h2⟩:=ox (g:=g) hn.2 h;refine⟨y.senses++rest,?_,?_⟩
   .exact((h1.append_left y.senses)).trans (by rw[<-afQ,<-afQ];exact ak9.append_right rest)
   .rw[afc gh];exact((h2.append_left y.senses)).trans (by rw[<-afQ,<-afQ];exact ak9.append_right rest)
theorem oN(hn:(names b).Nodup)(hx:x∈names b):(afD (ahv b x (agd a n))).Perm (n::afD b):=by
 obtain⟨y,hy,rfl⟩:=aY.mp hx;obtain⟨rest,h1,h2⟩:=ox (g:=agd a n) hn hy;exact h2.trans (((fV a n y.senses).append_right rest).trans (h1.symm.cons n))
theorem WF.sense(w:WF b)(hx:x∈names b)(hn:¬n∈aD b)(h0:n≠0):WF (ahv {b with senses:=b.senses++ [⟨n,t,0⟩]} x (agd a n)):=by
 have hp:(afD (ahv {b with senses:=b.senses++ [⟨n,t,0⟩]} x (agd a n))).Perm (n::afD b):=oN (b:={b with senses:=b.senses++ [⟨n,t,0⟩]}) w.en hx;have hs:aD (ahv {b with senses:=b.senses++ [⟨n,t,0⟩]} x (agd a n))=aD b++ [n]:=by
  show(b.senses++ [(⟨n,t,0⟩:aiY)]).map (fun s=>s.name)=_;rw[afB];rfl
 have jR:names (ahv {b with senses:=b.senses++ [⟨n,t,0⟩]} x (agd a n))=names b:=fC _ _ _;have uk:¬n∈afD b:=fun z=>hn ((w.same n).mp z)
 refine⟨by rw[jR];exact w.en,by rw[jR];exact w.e0,hp.nodup_iff.mpr (afE.mpr ⟨uk,w.an⟩),?_,?_,fun k=> ?_⟩
 .rw[hs,ahd];exact⟨w.sn,by simp,fun z hz y hy e=>hn (by have:y=n:=(by simpa using hy);rw[<-this,<-e];exact hz)⟩
 .rw[hs,afL];exact fun z=>z.elim w.s0 fun z=>h0 (by simpa using z:0=n).symm
 .rw[hp.mem_iff,hs,afv,afL,w.same k];constructor
  .exact fun z=>z.elim (fun e=> .inr (by simpa using e)) .inl
  .exact fun z=>z.elim .inr fun e=> .inl (by simpa using e)
theorem j4(b:af8)(n:Nat):afD (ait b n)=(afD b).filter fun y=>y !=n:=by
 unfold afD ait;show(b.entries.map fun x=>{x with senses:=x.senses.filter fun y=>y !=n}).flatMap (fun e=>e.senses)=_;generalize b.entries=l
 induction l with
 |nil=>rfl
 |cons y l ih=>rw[af9,agg,agg,agj,ih]
theorem WF.moveSense(w:WF b)(hs:s∈aD b)(hx:x∈names b):WF (ahv (ait b s) x (agd a s)):=by
 have jR:names (ahv (ait b s) x (agd a s))=names b:=(fC _ _ _).trans (dI _ _);have hp:(afD (ahv (ait b s) x (agd a s))).Perm (s::(afD b).filter fun y=>y !=s):=by
  have:=oN (b:=ait b s) (x:=x) (n:=s) (a:=a) (by rw[dI];exact w.en) (by rw[dI];exact hx);rw[j4]at this;exact this
 refine⟨by rw[jR];exact w.en,by rw[jR];exact w.e0,hp.nodup_iff.mpr (afE.mpr ⟨by simp,w.an.filter _⟩),w.sn,w.s0,fun k=> ?_⟩;rw[hp.mem_iff,afv,afM];show _↔k∈aD b;rw[<-w.same k];constructor
 .exact fun z=>z.elim (fun e=>by rw[e];exact(w.same s).mpr hs) fun z=>z.1
 .intro z;by_cases e:k=s
  .exact .inl e
  .exact .inr ⟨z,by simpa using e⟩
theorem kO{l:List afm}{x:afm}(hn:(l.map fun e=>e.name).Nodup)(hx:x∈l):(x::l.filter fun y=>y.name !=x.name).Perm l:=by
 induction l with
 |nil=>exact nomatch hx
 |cons y l ih=>
  rw[af9,afE]at hn;rcases afv.mp hx with e|h
  .subst e;rw[afS,afc (by simp)];have:(l.filter fun y=>y.name !=x.name)=l:=by
    rw[aiH];intro e he;have:¬e.name=x.name:=fun z=>hn.1 (by rw[<-z];exact afH.mpr ⟨e,he,rfl⟩)
    simpa using this
   rw[this]
  .have gh:¬y.name=x.name:=fun e=>hn.1 (by rw[e];exact afH.mpr ⟨x,h,rfl⟩)
   rw[afS,afh (by simpa using gh)];exact(ajd _ _ _).trans ((ih hn.2 h).cons y)
theorem lj(w:WF b)(hx:x∈names b):(ahf a (entryAt b x) (b.entries.filter fun y=>y.name !=x)).Perm b.entries:=by
 obtain⟨h1,h2⟩:=eZ w hx;refine(gj _ _ _).trans ?_;have:=kO w.en h1;rw[h2]at this;exact this
theorem WF.Xu{l:List afm}(w:WF b)(h:l.Perm b.entries):WF {b with entries:=l}:=by
 have hn:(names {b with entries:=l}).Perm (names b):=h.map _;have ha:(afD {b with entries:=l}).Perm (afD b):=iW h;exact⟨hn.nodup_iff.mpr w.en,fun z=>w.e0 (hn.mem_iff.mp z),ha.nodup_iff.mpr w.an,w.sn,w.s0,fun n=>ha.mem_iff.trans (w.same n)⟩
theorem WF.moveEntry(w:WF b)(hx:x∈names b):WF {b with entries:=ahf a (entryAt b x) (b.entries.filter fun y=>y.name !=x)}:=w.Xu (lj w hx)
theorem j1(b:af8)(x:Nat):(b.entries.filter fun y=>y.name !=x).map (fun e=>e.name)=(names b).filter fun y=>y !=x:=by
 unfold names;rw[ak4];rfl
theorem hZ(l:List aiY)(p:Nat->Bool):(l.filter fun y=>p y.name).map (fun e=>e.name)=(l.map fun e=>e.name).filter p:=by
 rw[ak4];rfl
theorem WF.dropSense(w:WF b):WF {ait b s with senses:=b.senses.filter fun x=>x.name !=s}:=by
 have hs:aD {ait b s with senses:=b.senses.filter fun x=>x.name !=s}=(aD b).filter fun y=>y !=s:=hZ b.senses fun y=>y !=s
 have ha:afD {ait b s with senses:=b.senses.filter fun x=>x.name !=s}=(afD b).filter fun y=>y !=s:=j4 b s
 have hn:names {ait b s with senses:=b.senses.filter fun x=>x.name !=s}=names b:=dI b s;refine⟨by rw[hn];exact w.en,by rw[hn];exact w.e0,by rw[ha];exact w.an.filter _,by rw[hs];exact w.sn.filter _,?_,fun n=> ?_⟩
 .rw[hs];exact fun z=>w.s0 (afM.mp z).1
 .rw[ha,hs,afM,afM,w.same n]
theorem WF.dropEntry(w:WF b)(hx:x∈names b):WF {b with entries:=b.entries.filter fun y=>y.name !=x,senses:=b.senses.filter fun y=> !(entryAt b x).senses.contains y.name}:=by
 obtain⟨h1,h2⟩:=eZ w hx;have hs:aD {b with entries:=b.entries.filter fun y=>y.name !=x,senses:=b.senses.filter fun y=> !(entryAt b x).senses.contains y.name}=(aD b).filter fun y=> !(entryAt b x).senses.contains y:=hZ b.senses fun y=> !(entryAt b x).senses.contains y
 have hn:names {b with entries:=b.entries.filter fun y=>y.name !=x,senses:=b.senses.filter fun y=> !(entryAt b x).senses.contains y.name}=(names b).filter fun y=>y !=x:=j1 b x
 have hp:((entryAt b x).senses++(b.entries.filter fun y=>y.name !=x).flatMap fun e=>e.senses).Perm (afD b):=by
  have:=iW (kO w.en h1);rw[h2,agg]at this;exact this
 have JE:=hp.nodup_iff.mpr w.an;rw[ahd]at JE;refine⟨by rw[hn];exact w.en.filter _,by rw[hn];exact fun z=>w.e0 (afM.mp z).1,JE.2.1,by rw[hs];exact w.sn.filter _,by rw[hs];exact fun z=>w.s0 (afM.mp z).1,fun n=> ?_⟩;rw[hs,afM,<-w.same n,<-hp.mem_iff,afL];show n∈(b.entries.filter fun y=>y.name !=x).flatMap (fun e=>e.senses)↔_;constructor
 .intro z;exact⟨.inr z,by
   have:¬n∈(entryAt b x).senses:=fun q=>JE.2.2 n q n z rfl
   simpa using this⟩
 .rintro⟨z,q⟩;rcases z with z|z
  .exact absurd z (by simpa using q)
  .exact z
def bz:Act->Nat
 | .entry _ _=>0
 | .sense _ _ _=>1
 | .say _ _=>2
 | .point _ _=>3
 | .moveSense _ _ _=>4
 | .moveEntry _ _=>5
 | .dropSense _=>6
 | .dropEntry _=>7
 | .erratum _ _ _=>8
def eO:Act->List Nat
 | .entry a _=> [a]
 | .sense e a _=> [e,a]
 | .say s _=> [s]
 | .point s t=> [s,t]
 | .moveSense n e a=> [n,e,a]
 | .moveEntry e a=> [e,a]
 | .dropSense n=> [n]
 | .dropEntry e=> [e]
 | .erratum k n _=> [k,n]
def ur:Act->List Nat
 | .entry _ w=>w
 | .sense _ _ t=>t
 | .say _ t=>t
 | .erratum _ _ t=>t
 |_=> []
def bK:akE->Nat
 | .act a=>bz a
 | .freeze=>9
 | .printed _=>10
 | .corrected _=>11
 | .changes _ _=>12
 | .patch _ _=>13
 | .number _ _=>14
 | .name _ _ _=>15
 | .carry _ _ _ _=>16
 | .pointers _=>17
 | .dead _=>18
 | .blame _ _=>19
 | .check _=>20
 | .errata _=>21
 | .line _=>22
 | .size _=>23
 | .state=>24
def fL:akE->List Nat
 | .act a=>eO a
 | .printed k=> [k]
 | .corrected k=> [k]
 | .changes k l=> [k,l]
 | .patch k _=> [k]
 | .number k n=> [k,n]
 | .name k e i=> [k,e,i]
 | .carry k e i l=> [k,e,i,l]
 | .pointers k=> [k]
 | .dead k=> [k]
 | .blame k n=> [k,n]
 | .errata k=> [k]
 | .line i=> [i]
 | .size k=> [k]
 |_=> []
def Pr:akE->List Int
 | .act a=>(ur a).map nat
 | .patch _ l=>l
 | .check t=>t
 |_=> []
def Mm:Act->Prop
 | .entry _ w=>w.length<=12
 | .sense _ _ t=>t.length<=30
 | .say _ t=>t.length<=30
 | .erratum k _ t=>1<=k/\t.length<=30
 | .moveSense n _ _=>1<=n
 | .moveEntry e _=>1<=e
 |_=>True
def UQ:akE->Prop
 | .act a=>Mm a
 | .corrected k=>1<=k
 | .errata k=>1<=k
 | .name _ e i=>1<=e/\1<=i
 | .carry _ e i _=>1<=e/\1<=i
 | .line i=>1<=i
 | .patch _ l=>l.length<=3000
 | .check t=>t.length<=3000/\∀c∈t,0<=c/\c<=255
 |_=>True
def p8(x:Int×Nat×Nat):Bool:=decide ((x.2.1:Int)<=x.1/\x.1<=(x.2.2:Int))
def iG(p:Nat)(ns:List Int):Bool:=(ns.zip (rg p)).all p8
def dG(r:List Int)(sh lo oy gr:Nat):Bool:=decide (sh<=r.length/\r.length<=lo)&&r.all fun c=>decide ((oy:Int)<=c/\c<=(gr:Int))
def fG(p:Nat):Bool:=p==0||p==1||p==2||p==8||p==13||p==20
def lE(p:Nat)(r:List Int):Bool:=if p=0 then dG r 1 12 97 122 else if p=1\/p=2\/p=8 then dG r 0 30 32 126 else if p=13 then decide (r.length<=3000)else if p=20 then dG r 0 3000 0 255 else true
theorem kU(t:List Int):(nats t).length=t.length:=ae9 _
theorem gW{n lo hi:Int}:inside n lo hi=true↔lo<=n/\n<=hi:=by
 unfold inside;rw[afy,ahk,ahk]
theorem ID{t:List Int}{b:Nat}(hb:b<=255):(t.all (fun c=>inside c 0 255)=true/\(nats t).all (fun c=>decide (a<=c/\c<=b))=true)↔t.all (fun c=>decide ((a:Int)<=c/\c<=(b:Int)))=true:=by
 unfold nats;rw[ag3,af4,af4,af4];constructor
 .rintro⟨h1,h2⟩ c hc;have e1:=gW.mp (h1 c hc);have e2:a<=c.toNat/\c.toNat<=b:=aff (h2 c hc);exact afj ⟨by omega,by omega⟩
 .intro h;refine⟨fun c hc=> ?_,fun c hc=> ?_⟩
  .have e:(a:Int)<=c/\c<=(b:Int):=aff (h c hc);exact gW.mpr ⟨by omega,by omega⟩
  .have e:(a:Int)<=c/\c<=(b:Int):=aff (h c hc);exact afj (show a<=c.toNat/\c.toNat<=b from⟨by omega,by omega⟩)
theorem lO(t:List Int):aWord t=dG t 1 12 97 122:=by
 rw[ah0];unfold aWord dG isWord;rw[afy,afy,afy,kU,<-ID (by decide:(122:Nat)<=255)];exact⟨fun⟨h1,h2,h3⟩=>⟨h2,h1,h3⟩,fun⟨h2,h1,h3⟩=>⟨h1,h2,h3⟩⟩
theorem ik(t:List Int):aSaying t=dG t 0 30 32 126:=by
 rw[ah0];unfold aSaying dG isSaying;rw[afy,afy,afy,kU,<-ID (by decide:(126:Nat)<=255),ahk,ahk];exact⟨fun⟨h1,h2,h3⟩=>⟨⟨afF _,h2⟩,h1,h3⟩,fun⟨h2,h1,h3⟩=>⟨h1,h2.2,h3⟩⟩
theorem vh{t:List Int}(h:∀c∈t,0<=c):(nats t).map nat=t:=by
 unfold nats;rw[ag4]
 conv=>rhs;rw[<-anO t]
 exact ahb fun c hc=>by
  have:=h c hc;show((c.toNat:Nat):Int)=c;omega
theorem qp{sh lo oy gr:Nat}(h:dG r sh lo oy gr=true):sh<=r.length/\r.length<=lo/\∀c∈r,(oy:Int)<=c/\c<=(gr:Int):=by
 unfold dG at h;rw[afy,ahk,af4]at h;exact⟨h.1.1,h.1.2,fun c hc=>aff (h.2 c hc)⟩
theorem sQ{sh lo oy gr:Nat}(h:dG r sh lo oy gr=true):(nats r).map nat=r/\(nats r).length<=lo:=by
 obtain⟨_,h2,h3⟩:=qp h;exact⟨vh fun c hc=>by have:=(h3 c hc).1;omega,by rw[kU];exact h2⟩
theorem oO(l:List Act)(a:Act):run (l++ [a])=(doAct (run l).1 ((run l).2.1+1) ((run l).2.2+1) a,if isEntry a=true then(run l).2.1+1 else(run l).2.1,if isSense a=true then(run l).2.2+1 else(run l).2.2):=by
 unfold run;rw[akl];rfl
theorem lQ(l:List Act)(a:Act):agA (l++ [a])=doAct (agA l) ((run l).2.1+1) ((run l).2.2+1) a:=by
 unfold agA;rw[oO]
theorem jN{α:Type}{P:List α->Prop}(h0:P [])(hs:∀l a,P l->P (l++ [a]))(l:List α):P l:=by
 rw[<-List.reverse_reverse l]
 induction l.reverse with
 |nil=>exact h0
 |cons a r ih=>rw[List.reverse_cons];exact hs _ _ ih
def rD(b:af8):Prop:=(∀e∈b.entries,e.word.length<=30)/\∀s∈b.senses,s.text.length<=30
theorem rD.entryAt{b:af8}(h:rD b)(e:Nat):(entryAt b e).word.length<=30:=by
 unfold alp;cases q:b.entries.find? fun x=>x.name==e with
 |none=>exact afF _
 |some x=>exact h.1 x (akg q)
theorem EZ{a:Act}(h:rD b)(ok:Mm a):rD (doAct b e n a):=by
 cases a with
 |entry x w=>
  refine⟨fun y hy=> ?_,h.2⟩;rcases fu.mp hy with q|q
  .rw[q];exact afu ok (by decide)
  .exact h.1 y q
 |sense x y t=>
  refine⟨fun z hz=> ?_,fun z hz=> ?_⟩
  .obtain⟨u,hu,q⟩:=afH.mp hz;have:z.word=u.word:=by rw[<-q];split<;>rfl
   rw[this];exact h.1 u hu
  .rcases afL.mp hz with q|q
   .exact h.2 z q
   .have:z=⟨n,t,0⟩:=by simpa using q
    rw[this];exact ok
 |say s t=>
  refine⟨h.1,fun z hz=> ?_⟩;obtain⟨u,hu,q⟩:=afH.mp hz;by_cases c:u.name=s
  .rw[afh c]at q;rw[<-q];exact ok
  .rw[afc c]at q;rw[<-q];exact h.2 u hu
 |point s t=>
  refine⟨h.1,fun z hz=> ?_⟩;obtain⟨u,hu,q⟩:=afH.mp hz;have:z.text=u.text:=by rw[<-q];split<;>rfl
  rw[this];exact h.2 u hu
 |moveSense s x y=>
  refine⟨fun z hz=> ?_,h.2⟩;obtain⟨u,hu,q⟩:=afH.mp hz;obtain⟨v,hv,q2⟩:=afH.mp hu;have:z.word=v.word:=by rw[<-q,<-q2];split<;>rfl
  rw[this];exact h.1 v hv
 |moveEntry x y=>
  refine⟨fun z hz=> ?_,h.2⟩;rcases fu.mp hz with q|q
  .rw[q];exact h.entryAt x
  .exact h.1 z (afM.mp q).1
 |dropSense s=>
  refine⟨fun z hz=> ?_,fun z hz=>h.2 z (afM.mp hz).1⟩;obtain⟨u,hu,q⟩:=afH.mp hz;rw[<-q];exact h.1 u hu
 |dropEntry x=>exact⟨fun z hz=>h.1 z (afM.mp hz).1,fun z hz=>h.2 z (afM.mp hz).1⟩
 |erratum _ _ _=>exact h
theorem E1(l:List Act):(∀a∈l,Mm a)->rD (agA l):=by
 refine jN (P:=fun l=>(∀a∈l,Mm a)->rD (agA l)) (fun _=>⟨fun e he=>(nomatch he),fun e he=>(nomatch he)⟩) (fun l a ih h=> ?_) l;rw[lQ];exact EZ (ih fun x hx=>h x (afY _ hx)) (h a (afI _ (by simp)))
theorem Nv(l:List Act):(∀e∈names (agA l),e<=(run l).2.1)/\∀n∈aD (agA l),n<=(run l).2.2:=by
 refine jN (P:=fun l=>(∀e∈names (agA l),e<=(run l).2.1)/\∀n∈aD (agA l),n<=(run l).2.2) ⟨fun e he=>(nomatch he),fun e he=>(nomatch he)⟩ (fun l a ih=> ?_) l;obtain⟨h1,h2⟩:=ih;rw[lQ,oO];have hE:∀x,(alp (agA l) x).name<=(run l).2.1:=fun x=>by
  unfold alp;cases q:(agA l).entries.find? fun y=>y.name==x with
  |none=>exact afF _
  |some y=>exact h1 _ (aY.mpr ⟨y,akg q,rfl⟩)
 cases a with
 |entry x w=>
  refine⟨fun e he=> ?_,h2⟩;obtain⟨y,hy,rfl⟩:=aY.mp he;show _<=(run l).2.1+1;rcases fu.mp hy with q|q
  .rw[q];exact afn _
  .exact afK (h1 _ (aY.mpr ⟨y,q,rfl⟩))
 |sense x y t=>
  refine⟨fun e he=>h1 e (by rw[<-fC];exact he),fun n hn=> ?_⟩;obtain⟨z,hz,rfl⟩:=dB.mp hn;show _<=(run l).2.2+1;rcases afL.mp hz with q|q
  .exact afK (h2 _ (dB.mpr ⟨z,q,rfl⟩))
  .have:z=⟨(run l).2.2+1,t,0⟩:=by simpa using q
   rw[this];exact afn _
 |say s t=>exact⟨h1,fun n hn=>h2 n (by rw[<-eR _ s (fun x=>{x with text:=t}) (fun x=>by rfl)];exact hn)⟩
 |point s t=>exact⟨h1,fun n hn=>h2 n (by rw[<-eR _ s (fun x=>{x with points:=t}) (fun x=>by rfl)];exact hn)⟩
 |moveSense s x y=>exact⟨fun e he=>h1 e (by rw[<-dI _ s,<-fC];exact he),h2⟩
 |moveEntry x y=>
  refine⟨fun e he=> ?_,h2⟩;obtain⟨z,hz,rfl⟩:=aY.mp he;rcases fu.mp hz with q|q
  .rw[q];exact hE x
  .exact h1 _ (aY.mpr ⟨z,(afM.mp q).1,rfl⟩)
 |dropSense s=>
  refine⟨fun e he=>h1 e (by rw[<-dI _ s];exact he),fun n hn=> ?_⟩;obtain⟨z,hz,rfl⟩:=dB.mp hn;exact h2 _ (dB.mpr ⟨z,(afM.mp hz).1,rfl⟩)
 |dropEntry x=>
  refine⟨fun e he=> ?_,fun n hn=> ?_⟩
  .obtain⟨z,hz,rfl⟩:=aY.mp he;exact h1 _ (aY.mpr ⟨z,(afM.mp hz).1,rfl⟩)
  .obtain⟨z,hz,rfl⟩:=dB.mp hn;exact h2 _ (dB.mpr ⟨z,(afM.mp hz).1,rfl⟩)
 |erratum _ _ _=>exact⟨h1,h2⟩
def sc(l:List Act):Nat:=(run l).2.2
theorem C6(l:List Act)(a:Act):sc (l++ [a])=if isSense a=true then sc l+1 else sc l:=by
 unfold sc;rw[oO]
theorem uW(s:Nat):∀(l:List Act) (a:Act) (i n:Nat),historyFrom i n s (l++ [a])=historyFrom i n s l++if(touches (n+(l.filter isSense).length+1) a).contains s=true then [(i+l.length,kindOf a)]else []
 | [],a,i,n=>by
  show(if(touches (n+1) a).contains s=true then [(i,kindOf a)]else [])++ []=_;rw[af5];rfl
 |b::l,a,i,n=>by
  rw[ag9,historyFrom,uW s l a,historyFrom,afQ];congr 2;have e:(if isSense b=true then n+1 else n)+(l.filter isSense).length=n+((b::l).filter isSense).length:=by
   by_cases q:isSense b=true
   .rw[afh q,afS,afh q,afp];omega
   .rw[afc q,afS,afc q]
  rw[e,afp,show i+1+l.length=i+(l.length+1) by omega]
theorem EX(l:List Act):sc l=(l.filter isSense).length:=by
 refine jN (P:=fun l=>sc l=(l.filter isSense).length) rfl (fun l a ih=> ?_) l;rw[C6,agj,afa,<-ih];by_cases q:isSense a=true
 .rw[afh q,afS,afh q];rfl
 .rw[afc q,afS,afc q];rfl
theorem uX(l:List Act)(a:Act)(s:Nat):ahC (l++ [a]) s=ahC l s++if(touches (sc l+1) a).contains s=true then [(l.length+1,kindOf a)]else []:=by
 unfold ahC;rw[uW,EX,aii,aiC 1]
def kI(m:Nat)(a:Act):Nat:=if bz a=1 then m else(eO a).headD 0
theorem vH(m s:Nat)(a:Act):(touches m a).contains s=true↔(1<=bz a/\bz a<=4)/\kI m a=s:=by
 cases a<;>simp[touches,bz,kI,eO,eq_comm]
theorem DY{a:Act}(h:1<=bz a/\bz a<=4):kindOf a=bz a:=by
 cases a<;>first|rfl|(simp[bz]at h)
def kT(h:List (Nat×Nat)):List Nat:=[lastOf h 1,lastOf h 2,lastOf h 3,lastOf h 4]
theorem l0(h:List (Nat×Nat))(i k j:Nat):lastOf (h++ [(i,k)]) j=if k=j then i else lastOf h j:=by
 unfold lastOf;rw[agj,afS];by_cases e:k=j
 .rw[afh (by simpa using e),afh e,ahG,agG];rfl
 .rw[afc (by simpa using e),afc e,ahG,af5]
theorem Aj{h:List (Nat×Nat)}{k:Nat}(hk:1<=k/\k<=4):kT (h++ [(i,k)])=(kT h).set (k-1) i:=by
 unfold kT;rw[l0,l0,l0,l0];have:k=1\/k=2\/k=3\/k=4:=by omega
 rcases this with e|e|e|e<;>subst e<;>rfl
def fj(k:Nat)(a:Act):Bool:=bz a==8&&(eO a).headD 0==k
def e8(a:Act):Nat×aha:=((eO a).getD 1 0,ur a)
theorem pH(s:afl)(k:Nat):errata s k=(s.log.filter (fj k)).map e8:=by
 unfold errata
 induction s.log with
 |nil=>rfl
 |cons a l ih=>
  cases a with
  |erratum e n t=>
   rw[aiG,afS,ih];by_cases q:e=k
   .subst q;have e1:fj e (.erratum e n t)=true:=by simp[fj,bz,eO]
    rw[afh e1];simp[e8,eO,ur]
   .have e1:¬fj k (.erratum e n t)=true:=by simp[fj,bz,eO,q]
    rw[afc e1];simp[q]
  |_=>exact ih
theorem Jm(a:Act):actTold a=nat (bz a)::((eO a).map nat++afO (3-(eO a).length) 0++ [nat (ur a).length]++(ur a).map nat):=by cases a<;>rfl
def kh:agX->Nat
 | .dropEntry _=>1
 | .dropSense _=>2
 | .newEntry _ _ _=>3
 | .moveEntry _ _=>4
 | .newSense _ _ _ _=>5
 | .moveSense _ _ _=>6
 | .say _ _=>7
 | .point _ _=>8
def ji:agX->List Nat
 | .dropEntry e=> [e,0,0]
 | .dropSense n=> [n,0,0]
 | .newEntry e a _=> [e,a,0]
 | .moveEntry e a=> [e,a,0]
 | .newSense n e a _=> [n,e,a]
 | .moveSense n e a=> [n,e,a]
 | .say n _=> [n,0,0]
 | .point n t=> [n,t,0]
def dj:agX->aha
 | .newEntry _ _ w=>w
 | .newSense _ _ _ t=>t
 | .say _ t=>t
 |_=> []
theorem Mh(d:agX):agq d=nat (kh d)::(ji d).map nat++nat (dj d).length::(dj d).map nat:=by cases d<;>rfl
theorem zt(d:agX):(agq d).length=5+(dj d).length:=by
 rw[Mh];have:(ji d).length=3:=by cases d<;>rfl
 simp[this];omega
def er(k:Int)(t:List Int):Prop:=if k=3 then dG t 1 12 97 122=true else if k=5\/k=7 then dG t 0 30 32 126=true else t=[]
structure NV(k a b c n:Int)(r:List Int):Prop where
 all:∀z∈ [k,a,b,c,n],0<=z/\z<=100
 kind:1<=k/\k<=8
 zero:∀z∈([a,b,c]:List Int).drop (lp.getD k.toNat 0),z=0
 len:n.toNat<=r.length
 bytes:er k (r.take n.toNat)
def TL(d:agX):Prop:=(∀z∈ji d,z<=100)/\(dj d).length<=30
theorem nt{z:Int}(h:0<=z):((z.toNat:Nat):Int)=z:=by omega
theorem Bj{k a b c n:Int}(h:NV k a b c n r):∃d,k::a::b::c::n::r=agq d++r.drop n.toNat/\TL d/\ag5 (f+1) (k::a::b::c::n::r)=(ag5 f (r.drop n.toNat)).map fun l=>d::l:=by
 have ha:=h.all a (by simp);have hb:=h.all b (by simp);have hc:=h.all c (by simp);have hn:=h.all n (by simp);have hk:=h.all k (by simp);have e5:([k,a,b,c,n].all fun v=>decide (0<=v/\v<=100))=true:=af4.mpr fun z hz=>afj (h.all z hz)
 have sf:(r.take n.toNat).length=n.toNat:=by rw[afW];exact ahH h.len
 have hl:¬r.length<n.toNat:=akW.mpr h.len;have fin:∀(d:agX),((r.take n.toNat).all fun v=>decide (0<=v/\v<=255))=true->agq d=k::a::b::c::n::r.take n.toNat->TL d->
   (if k=1/\b.toNat=0/\c.toNat=0/\n.toNat=0 then some (.dropEntry a.toNat)else if k=2/\b.toNat=0/\c.toNat=0/\n.toNat=0 then some (.dropSense a.toNat)else if k=3/\c.toNat=0/\isWord (nats (r.take n.toNat))=true then some (.newEntry a.toNat b.toNat (nats (r.take n.toNat)))
    else if k=4/\c.toNat=0/\n.toNat=0 then some (.moveEntry a.toNat b.toNat)else if k=5/\isSaying (nats (r.take n.toNat))=true then some (.newSense a.toNat b.toNat c.toNat (nats (r.take n.toNat)))else if k=6/\n.toNat=0 then some (.moveSense a.toNat b.toNat c.toNat)else if k=7/\b.toNat=0/\c.toNat=0/\isSaying (nats (r.take n.toNat))=true then some (.say a.toNat (nats (r.take n.toNat)))
    else if k=8/\c.toNat=0/\n.toNat=0 then some (.point a.toNat b.toNat)else none)=some d->
   ∃d,k::a::b::c::n::r=agq d++r.drop n.toNat/\TL d/\ag5 (f+1) (k::a::b::c::n::r)=(ag5 f (r.drop n.toNat)).map fun l=>d::l:=fun d h1 h2 h3 h4=>by
  refine⟨d,?_,h3,?_⟩
  .rw[h2];show _=k::a::b::c::n::(r.take n.toNat++r.drop n.toNat);rw[agI]
  .rw[ag5,afc (by rw[e5,h1];rintro(z|z|z);cases z;exact hl z;cases z),h4];rfl
 have no:n.toNat=0->r.take n.toNat=[]/\n=0:=fun z=>⟨by rw[z];rfl,by omega⟩
 have U4:∀{sh lo oy gr:Nat},gr<=255->dG (r.take n.toNat) sh lo oy gr=true->((r.take n.toNat).all fun v=>decide (0<=v/\v<=255))=true/\(nats (r.take n.toNat)).map nat=r.take n.toNat/\(nats (r.take n.toNat)).length<=lo/\nat (nats (r.take n.toNat)).length=n:=fun{sh lo oy gr} hg hr=>by
  obtain⟨q1,q2⟩:=sQ hr;obtain⟨_,_,q3⟩:=qp hr;refine⟨af4.mpr fun z hz=>afj ⟨by have:=q3 z hz;omega,by have:=q3 z hz;omega⟩,q1,q2,?_⟩;rw[kU,sf];exact nt hn.1
 have hz:=h.zero;have uU:=h.bytes;have hk8:k=1\/k=2\/k=3\/k=4\/k=5\/k=6\/k=7\/k=8:=by have:=h.kind;omega
 rcases hk8 with e|e|e|e|e|e|e|e<;>subst e<;>unfold er at uU
 .have z1:b=0:=hz b (by show b∈ [b,c];simp);have z2:c=0:=hz c (by show c∈ [b,c];simp);rw[afc (by decide),afc (by decide)]at uU;have n0:n.toNat=0:=by rw[<-sf,uU];rfl
  obtain⟨t0,rfl⟩:=no n0;subst z1;subst z2;refine fin (.dropEntry a.toNat) (by rw[t0];rfl) (by rw[t0];show [1,nat a.toNat,0,0,0]=_;rw[nat,nt ha.1]) ⟨fun z qo=> ?_,afF _⟩ (by rw[afh ⟨rfl,rfl,rfl,n0⟩]);have:z=a.toNat\/z=0:=by simpa [ji]using qo
  omega
 .have z1:b=0:=hz b (by show b∈ [b,c];simp);have z2:c=0:=hz c (by show c∈ [b,c];simp);rw[afc (by decide),afc (by decide)]at uU;have n0:n.toNat=0:=by rw[<-sf,uU];rfl
  obtain⟨t0,rfl⟩:=no n0;subst z1;subst z2;refine fin (.dropSense a.toNat) (by rw[t0];rfl) (by rw[t0];show [2,nat a.toNat,0,0,0]=_;rw[nat,nt ha.1]) ⟨fun z qo=> ?_,afF _⟩ (by rw[afc (fun z=>absurd z.1 (by decide)),afh ⟨rfl,rfl,rfl,n0⟩]);have:z=a.toNat\/z=0:=by simpa [ji]using qo
  omega
 .have z2:c=0:=hz c (by show c∈ [c];simp);rw[afh rfl]at uU;subst z2;obtain⟨q1,q2,q3,q4⟩:=U4 (by decide) uU;refine fin (.newEntry a.toNat b.toNat (nats (r.take n.toNat))) q1 (by show [3,nat a.toNat,nat b.toNat,0,nat _]++_=_;rw[q4,q2,nat,nat,nt ha.1,nt hb.1];rfl) ⟨fun z qo=> ?_,by show(nats _).length<=30;omega⟩ ?_
  .have:z=a.toNat\/z=b.toNat\/z=0:=by simpa [ji]using qo
   omega
  .rw[afc (fun z=>absurd z.1 (by decide)),afc (fun z=>absurd z.1 (by decide)),afh ⟨rfl,rfl,((afy _ _).mp ((lO _).trans uU)).2⟩]
 .have z2:c=0:=hz c (by show c∈ [c];simp);rw[afc (by decide),afc (by decide)]at uU;have n0:n.toNat=0:=by rw[<-sf,uU];rfl
  obtain⟨t0,rfl⟩:=no n0;subst z2;refine fin (.moveEntry a.toNat b.toNat) (by rw[t0];rfl) (by rw[t0];show [4,nat a.toNat,nat b.toNat,0,0]=_;rw[nat,nat,nt ha.1,nt hb.1]) ⟨fun z qo=> ?_,afF _⟩ (by rw[afc (fun z=>absurd z.1 (by decide)),afc (fun z=>absurd z.1 (by decide)),afc (fun z=>absurd z.1 (by decide)),afh ⟨rfl,rfl,n0⟩]);have:z=a.toNat\/z=b.toNat\/z=0:=by simpa [ji]using qo
  omega
 .rw[afc (by decide),afh (.inl rfl)]at uU;obtain⟨q1,q2,q3,q4⟩:=U4 (by decide) uU;refine fin (.newSense a.toNat b.toNat c.toNat (nats (r.take n.toNat))) q1 (by show [5,nat a.toNat,nat b.toNat,nat c.toNat,nat _]++_=_;rw[q4,q2,nat,nat,nat,nt ha.1,nt hb.1,nt hc.1];rfl) ⟨fun z qo=> ?_,q3⟩ ?_
  .have:z=a.toNat\/z=b.toNat\/z=c.toNat:=by simpa [ji]using qo
   omega
  .rw[afc (fun z=>absurd z.1 (by decide)),afc (fun z=>absurd z.1 (by decide)),afc (fun z=>absurd z.1 (by decide)),afc (fun z=>absurd z.1 (by decide)),afh ⟨rfl,((afy _ _).mp ((ik _).trans uU)).2⟩]
 .rw[afc (by decide),afc (by decide)]at uU;have n0:n.toNat=0:=by rw[<-sf,uU];rfl
  obtain⟨t0,rfl⟩:=no n0;refine fin (.moveSense a.toNat b.toNat c.toNat) (by rw[t0];rfl) (by rw[t0];show [6,nat a.toNat,nat b.toNat,nat c.toNat,0]=_;rw[nat,nat,nat,nt ha.1,nt hb.1,nt hc.1]) ⟨fun z qo=> ?_,afF _⟩ (by rw[afc (fun z=>absurd z.1 (by decide)),afc (fun z=>absurd z.1 (by decide)),afc (fun z=>absurd z.1 (by decide)),afc (fun z=>absurd z.1 (by decide)),afc (fun z=>absurd z.1 (by decide)),afh ⟨rfl,n0⟩]);have:z=a.toNat\/z=b.toNat\/z=c.toNat:=by simpa [ji]using qo
  omega
 .have z1:b=0:=hz b (by show b∈ [b,c];simp);have z2:c=0:=hz c (by show c∈ [b,c];simp);rw[afc (by decide),afh (.inr rfl)]at uU;subst z1;subst z2;obtain⟨q1,q2,q3,q4⟩:=U4 (by decide) uU;refine fin (.say a.toNat (nats (r.take n.toNat))) q1 (by show [7,nat a.toNat,0,0,nat _]++_=_;rw[q4,q2,nat,nt ha.1];rfl) ⟨fun z qo=> ?_,q3⟩ ?_
  .have:z=a.toNat\/z=0:=by simpa [ji]using qo
   omega
  .rw[afc (fun z=>absurd z.1 (by decide)),afc (fun z=>absurd z.1 (by decide)),afc (fun z=>absurd z.1 (by decide)),afc (fun z=>absurd z.1 (by decide)),afc (fun z=>absurd z.1 (by decide)),afc (fun z=>absurd z.1 (by decide)),afh ⟨rfl,rfl,rfl,((afy _ _).mp ((ik _).trans uU)).2⟩]
 .have z2:c=0:=hz c (by show c∈ [c];simp);rw[afc (by decide),afc (by decide)]at uU;have n0:n.toNat=0:=by rw[<-sf,uU];rfl
  obtain⟨t0,rfl⟩:=no n0;subst z2;refine fin (.point a.toNat b.toNat) (by rw[t0];rfl) (by rw[t0];show [8,nat a.toNat,nat b.toNat,0,0]=_;rw[nat,nat,nt ha.1,nt hb.1]) ⟨fun z qo=> ?_,afF _⟩ (by rw[afc (fun z=>absurd z.1 (by decide)),afc (fun z=>absurd z.1 (by decide)),afc (fun z=>absurd z.1 (by decide)),afc (fun z=>absurd z.1 (by decide)),afc (fun z=>absurd z.1 (by decide)),afc (fun z=>absurd z.1 (by decide)),afc (fun z=>absurd z.1 (by decide)),afh ⟨rfl,rfl,n0⟩]);have:z=a.toNat\/z=b.toNat\/z=0:=by simpa [ji]using qo
  omega
theorem JU{k a b c n:Int}(h:¬NV k a b c n r):ag5 (f+1) (k::a::b::c::n::r)=none:=by
 rw[ag5];split
 .rfl
 .rename_i q;rw[akt,akt]at q;obtain⟨q1,q2,q3⟩:=q;have h5:∀z∈ [k,a,b,c,n],0<=z/\z<=100:=fun z hz=>aff (af4.mp ((ama _).mp q1) z hz)
  have hb:=h5 b (by simp);have hc:=h5 c (by simp);have hn:=h5 n (by simp);have Rx:(r.take n.toNat).all (fun c=>inside c 0 255)=true:=af4.mpr fun z hz=>gW.mpr (aff (af4.mp ((ama _).mp q3) z hz))
  have ok:1<=k/\k<=8->(∀z∈([a,b,c]:List Int).drop (lp.getD k.toNat 0),z=0)->er k (r.take n.toNat)->False:=fun h1 h2 h3=>h ⟨h5,h1,h2,akW.mp q2,h3⟩
  have nil:n.toNat=0->r.take n.toNat=[]:=fun z=>by rw[z];rfl
  have w1:isWord (nats (r.take n.toNat))=true->dG (r.take n.toNat) 1 12 97 122=true:=fun z=>by rw[<-lO];unfold aWord;rw[Rx,z];rfl
  have w2:isSaying (nats (r.take n.toNat))=true->dG (r.take n.toNat) 0 30 32 126=true:=fun z=>by rw[<-ik];unfold aSaying;rw[Rx,z];rfl
  have two:b.toNat=0->c.toNat=0->∀z∈ [b,c],z=0:=fun z1 z2 z hz=>by
   have:z=b\/z=c:=by simpa using hz
   omega
  have bj:c.toNat=0->∀z∈ [c],z=0:=fun z2 z hz=>by
   have:z=c:=by simpa using hz
   omega
  rw[afc,afc,afc,afc,afc,afc,afc,afc]
  .rfl
  .rintro⟨rfl,z2,z3⟩;exact ok (by decide) (bj z2) (by unfold er;rw[afc (by decide),afc (by decide)];exact nil z3)
  .rintro⟨rfl,z1,z2,z3⟩;exact ok (by decide) (two z1 z2) (by unfold er;rw[afc (by decide),afh (.inr rfl)];exact w2 z3)
  .rintro⟨rfl,z3⟩;exact ok (by decide) (fun z hz=>nomatch hz) (by unfold er;rw[afc (by decide),afc (by decide)];exact nil z3)
  .rintro⟨rfl,z3⟩;exact ok (by decide) (fun z hz=>nomatch hz) (by unfold er;rw[afc (by decide),afh (.inl rfl)];exact w2 z3)
  .rintro⟨rfl,z2,z3⟩;exact ok (by decide) (bj z2) (by unfold er;rw[afc (by decide),afc (by decide)];exact nil z3)
  .rintro⟨rfl,z2,z3⟩;exact ok (by decide) (bj z2) (by unfold er;rw[afh rfl];exact w1 z3)
  .rintro⟨rfl,z1,z2,z3⟩;exact ok (by decide) (two z1 z2) (by unfold er;rw[afc (by decide),afc (by decide)];exact nil z3)
  .rintro⟨rfl,z1,z2,z3⟩;exact ok (by decide) (two z1 z2) (by unfold er;rw[afc (by decide),afc (by decide)];exact nil z3)
theorem FI{l:List Int}(h0:l≠ [])(h:l.length<5):ag5 (f+1) l=none:=by
 match l,h0,h with
 | [_],_,_=>rfl
 | [_,_],_,_=>rfl
 | [_,_,_],_,_=>rfl
 | [_,_,_,_],_,_=>rfl
theorem J2:∀n<100,natOf (ahm n)=some n:=by decide+kernel
theorem J8:∀c<58,48<=c->ahm (10*0+(c-48))=[c]:=by decide+kernel
theorem J9:∀c<58,49<=c->∀d<58,48<=d->ahm (10*(10*0+(c-48))+(d-48))=[c,d]:=by decide+kernel
theorem uK{c:Nat}:isDigit c=true↔48<=c/\c<=57:=ahk
def nX(a:aha):Prop:=(1<=a.length/\a.length<=2)/\(∀c∈a,48<=c/\c<=57)/\(a.length=1\/a.head?≠some 48)
theorem jG{a:aha}:(∃n,natOf a=some n)↔nX a:=by
 unfold natOf nX;constructor
 .rintro⟨n,h⟩;split at h
  .cases h
  .rename_i q;have q1:¬a.isEmpty=true:=fun z=>q (.inl z)
   have q2:¬2<a.length:=fun z=>q (.inr (.inl z))
   have q3:¬a.all isDigit=false:=fun z=>q (.inr (.inr (.inl z)))
   have q4:¬(a.head? =some 48/\1<a.length):=fun z=>q (.inr (.inr (.inr z)))
   have h1:1<=a.length:=by
    cases a with
    |nil=>exact absurd rfl q1
    |cons x r=>exact ajq (afF _)
   refine⟨⟨h1,by omega⟩,fun c hc=>uK.mp (af4.mp (by simpa using q3) c hc),?_⟩;by_cases e:a.length=1
   .exact .inl e
   .exact .inr fun z=>q4 ⟨z,by omega⟩
 .rintro⟨⟨h1,h2⟩,h3,h4⟩;rw[afc]
  .exact⟨_,rfl⟩
  .rintro(z|z|z|z)
   .cases a with
    |nil=>exact absurd h1 (by decide)
    |cons x r=>cases z
   .omega
   .have:a.all isDigit=true:=af4.mpr fun c hc=>uK.mpr (h3 c hc)
    rw[this]at z;cases z
   .rcases h4 with q|q
    .omega
    .exact q z.1
theorem pP{a:aha}(h:natOf a=some n):n<=99/\a=ahm n:=by
 obtain⟨⟨h1,h2⟩,h3,h4⟩:=jG.mp ⟨n,h⟩;have hv:n=a.foldl (fun a c=>10*a+(c-48)) 0:=by
  unfold natOf at h;split at h
  .cases h
  .exact(aft h).symm
 match a,h1,h2,h3,h4,hv with
 | [c],_,_,h3,_,hv=>
  have hc:=h3 c (by simp);have JG:n=10*0+(c-48):=hv;exact⟨by omega,by rw[JG,J8 c (by omega) hc.1]⟩
 | [c,d],_,_,h3,h4,hv=>
  have hc:=h3 c (by simp);have hd:=h3 d (by simp);have JG:n=10*(10*0+(c-48))+(d-48):=hv;have Y0:c≠48:=fun z=>by
   rcases h4 with q|q
   .exact absurd (show 2=1 from q) (by decide)
   .exact q (by rw[z];rfl)
  exact⟨by omega,by rw[JG,J9 c (by omega) (by omega) d (by omega) hd.1]⟩
theorem fD(h:n<=99):natOf (ahm n)=some n:=J2 n (by omega)
theorem sE{a:aha}(h:natOf a=some n):∀c∈a,48<=c/\c<=57:=(jG.mp ⟨n,h⟩).2.1
theorem mM(c:Nat)(r:aha):firstPiece (c::r)=if c=32 then some ([],r)else(firstPiece r).map fun x=>(c::x.1,x.2):=by
 by_cases h:c=32
 .subst h;rw[afh rfl,firstPiece]
 .rw[afc h,firstPiece];exact h
theorem iV:∀{a r:aha},¬32∈a->firstPiece (a++32::r)=some (a,r)
 | [],r,_=>by rw[agT,mM,afh rfl]
 |c::a,r,h=>by
  rw[afv,akt]at h;rw[ag9,mM,afc (fun z=>h.1 z.symm),iV h.2];rfl
theorem mP:∀{t a r:aha},firstPiece t=some (a,r)->t=a++32::r/\¬32∈a
 | [],_,_,h=>by cases h
 |c::t,a,r,h=>by
  rw[mM]at h;by_cases e:c=32
  .rw[afh e]at h;injection h with h;injection h with h1 h2
   subst h1;subst h2;subst e;exact⟨rfl,by simp⟩
  .rw[afc e]at h;cases q:firstPiece t with
   |none=>rw[q]at h;cases h
   |some x=>
    rw[q]at h;injection h with h;injection h with h1 h2
    obtain⟨h3,h4⟩:=mP (a:=x.1) (r:=x.2) q;subst h1;subst h2;refine⟨by rw[ag9,<-h3],fun z=> ?_⟩;rcases afv.mp z with z|z
    .exact e z.symm
    .exact h4 z
theorem pG(s:Nat):∀t:aha,∃w r,ahK s t=w::r
 | []=>⟨[],[],rfl⟩
 |c::t=>by
  obtain⟨w,r,h⟩:=pG s t;rw[ahK,h];by_cases e:c=s
  .exact⟨[],w::r,by dsimp only;rw[afh e]⟩
  .exact⟨c::w,r,by dsimp only;rw[afc e]⟩
theorem lT{s:Nat}:∀{a b:aha},¬s∈a->ahK s (a++s::b)=a::ahK s b
 | [],b,_=>by
  obtain⟨w,r,h⟩:=pG s b;rw[agT,ahK,h];dsimp only;rw[afh rfl]
 |c::a,b,h=>by
  rw[afv,akt]at h;rw[ag9,ahK,lT h.2];dsimp only;rw[afc fun z=>h.1 z.symm]
theorem vT{s:Nat}:∀{a:aha},¬s∈a->ahK s a=[a]
 | [],_=>rfl
 |c::a,h=>by
  rw[afv,akt]at h;rw[ahK,vT h.2];dsimp only;rw[afc fun z=>h.1 z.symm]
theorem lJ{s:Nat}:∀{t:aha},s∈t->∃a b,t=a++s::b/\¬s∈a
 | [],h=>nomatch h
 |c::t,h=>by
  by_cases e:c=s
  .exact⟨[],t,by rw[e];rfl,by simp⟩
  .obtain⟨a,b,h1,h2⟩:=lJ ((afv.mp h).resolve_left fun z=>e z.symm);refine⟨c::a,b,by rw[h1];rfl,fun z=> ?_⟩;rcases afv.mp z with z|z
   .exact e z.symm
   .exact h2 z
theorem ot(s c:Nat):∀t:aha,ahK s (t++ [c])=if c=s then ahK s t++ [[]]else(ahK s t).dropLast++ [((ahK s t).getLast?).getD []++ [c]]
 | []=>by
  by_cases e:c=s
  .rw[afh e,agT,ahK];dsimp only[ahK];rw[afh e];rfl
  .rw[afc e,agT,ahK];dsimp only[ahK];rw[afc e];rfl
 |d::t=>by
  have ih:=ot s c t;obtain⟨w,r,h⟩:=pG s t;rw[ag9,ahK,ih,ahK,h];by_cases e:c=s
  .rw[afh e,afh e];dsimp only[ag9];by_cases q:d=s
   .rw[afh q,afh q];rfl
   .rw[afc q,afc q];rfl
  .rw[afc e,afc e];cases r with
   |nil=>
    dsimp only[anm,agT,List.getLast?];by_cases q:d=s
    .rw[afh q,afh q];rfl
    .rw[afc q,afc q];rfl
   |cons v r=>
    dsimp only[anm,ag9];by_cases q:d=s
    .rw[afh q,afh q];rfl
    .rw[afc q,afc q];rfl
theorem KO{a:aha}(h:natOf a=some n):¬46∈a:=fun z=>by have:=sE h 46 z;omega
theorem O0{a:aha}(h:natOf a=some n):¬32∈a:=fun z=>by have:=sE h 32 z;omega
theorem vm{a b:aha}{y:Nat}(ha:natOf a=some x)(hb:natOf b=some y):pairOf (a++46::b)=some (x,y):=by
 unfold pairOf;rw[lT (KO ha),vT (KO hb)];dsimp only;rw[ha,hb];rfl
theorem qu{w:aha}{x:Nat×Nat}(h:pairOf w=some x):∃a b,w=a++46::b/\natOf a=some x.1/\natOf b=some x.2:=by
 unfold pairOf at h;split at h
 .rename_i a b hc;cases ha:natOf a with
  |none=>rw[ha]at h;cases h
  |some n=>
   cases hb:natOf b with
   |none=>rw[ha,hb]at h;cases h
   |some m=>
    rw[ha,hb]at h;have e:(n,m)=x:=aft h;subst e;refine⟨a,b,?_,ha,hb⟩;by_cases q:46∈w
    .obtain⟨u,v,rfl,hu⟩:=lJ q;rw[lT hu]at hc;injection hc with h1 h2
     subst h1;by_cases q2:46∈v
     .obtain⟨u2,v2,rfl,WQ⟩:=lJ q2;rw[lT WQ]at h2;injection h2 with h3 h4
      obtain⟨w3,r3,h5⟩:=pG 46 v2;rw[h5]at h4;cases h4
     .rw[vT q2]at h2;injection h2 with h3
      rw[h3]
    .rw[vT q]at hc;cases hc
 .cases h
theorem AE{w:aha}{x:Nat×Nat}(h:pairOf w=some x):x.1<=99/\x.2<=99/\w=pair x:=by
 obtain⟨a,b,rfl,ha,hb⟩:=qu h;obtain⟨h1,rfl⟩:=pP ha;obtain⟨h2,rfl⟩:=pP hb;exact⟨h1,h2,rfl⟩
theorem yX{x:Nat×Nat}(h1:x.1<=99)(h2:x.2<=99):pairOf (pair x)=some x:=vm (fD h1) (fD h2)
theorem Ao(x:Nat×Nat):natOf (pair x)=none:=by
 cases h:natOf (pair x)with
 |none=>rfl
 |some n=>exact absurd (show 46∈pair x by unfold pair;simp) (KO h)
def qe(p:aha):Prop:=p=[45]\/∃a b,p=a++46::b/\¬46∈a/\nX a/\nX b
theorem Iu{p:aha}:qe p↔p=[45]\/∃x,pairOf p=some x:=by
 constructor
 .rintro(h|⟨a,b,rfl,_,ha,hb⟩)
  .exact .inl h
  .obtain⟨n,hn⟩:=jG.mpr ha;obtain⟨m,hm⟩:=jG.mpr hb;exact .inr ⟨(n,m),vm hn hm⟩
 .rintro(h|⟨x,h⟩)
  .exact .inl h
  .obtain⟨a,b,rfl,ha,hb⟩:=qu h;exact .inr ⟨a,b,rfl,KO ha,jG.mp ⟨_,ha⟩,jG.mp ⟨_,hb⟩⟩
def rA(t:aha)(e:Nat):Prop:=e<=99/\∃r,t=ahm e++ [32]++r/\isWord r=true
def qf(t:aha)(e s:Nat):Prop:=s<=99/\∃p x,t=pair (e,s)++ [32]++(p++32::x)/\¬32∈p/\qe p/\isSaying x=true
def dD(l:List akz):Nat:=((l.getLast?).map fun y=>y.senses.length).getD 0
def km(l:List akz):Nat:=(l.map fun x=>x.senses.length).foldl (fun a b=>a+b) 0
theorem DI(l:List Nat)(a:Nat):l.foldl (fun a b=>a+b) a=a+l.foldl (fun a b=>a+b) 0:=by
 induction l generalizing a with
 |nil=>rfl
 |cons x l ih=>rw[aij,aij,ih,ih (0+x)];omega
theorem nI(l:List akz)(y:akz):km (l++ [y])=km l+y.senses.length:=by
 unfold km;rw[afB,akl,DI];show _+(0+y.senses.length)=_;omega
theorem Ed{x:Nat×Nat}(h1:x.1<=99)(h2:x.2<=99):¬32∈pair x:=fun z=>by
 rcases afL.mp z with q|q
 .exact O0 (fD h1) q
 .rcases afv.mp q with q|q
  .cases q
  .exact O0 (fD h2) q
theorem m9{α:Type}{l:List α}{y:α}(h:l.getLast? =some y):l=l.dropLast++ [y]:=by
 rcases ala l with rfl|⟨u,c,rfl⟩
 .cases h
 .rw[ajn,agG]at h;rw[ajn,ajD,aft h]
theorem Gq{l:List akz}(h:rA t (l.length+1)):∃r,doLine l t=some (l++ [⟨r,[]⟩]):=by
 obtain⟨h1,r,rfl,hw⟩:=h;refine⟨r,?_⟩;unfold doLine;rw[afQ,aiq,iV (O0 (fD h1))];dsimp only;rw[fD h1];dsimp only;rw[afh ⟨rfl,hw⟩]
theorem Gs{l:List akz}(hl:0<l.length)(h9:l.length<=99)(h:qf t l.length (dD l+1)):∃l',doLine l t=some l'/\l'.length=l.length/\dD l'=dD l+1/\km l'=km l+1:=by
 obtain⟨h1,p,x,rfl,hp,hpo,hx⟩:=h;cases hg:l.getLast? with
 |none=>rw[List.getLast?_eq_none_iff]at hg;subst hg;exact absurd hl (by decide)
 |some y=>
  have Ab:dD l=y.senses.length:=by unfold dD;rw[hg];rfl
  have DR:l=l.dropLast++ [y]:=by
   exact m9 hg
  have key:∀z:Option (Nat×Nat)×aha,(l.dropLast++ [{y with senses:=y.senses++ [z]}]).length=l.length/\dD (l.dropLast++ [{y with senses:=y.senses++ [z]}])=dD l+1/\km (l.dropLast++ [{y with senses:=y.senses++ [z]}])=km l+1:=fun z=>by
   refine⟨?_,?_,?_⟩
   .conv=>rhs;rw[DR]
    rw[afa,afa];rfl
   .rw[Ab];unfold dD;rw[agG];show(y.senses++ [z]).length=_;rw[afa];rfl
   .conv=>rhs;rw[DR]
    rw[nI,nI];show _+(y.senses++ [z]).length=_;rw[afa];rfl
  rw[Ab]at h1⊢;have e1:firstPiece (pair (l.length,y.senses.length+1)++ [32]++(p++32::x))=some (pair (l.length,y.senses.length+1),p++32::x):=by
   rw[afQ,aiq];exact iV (Ed h9 h1)
  unfold doLine;rw[e1];dsimp only;rw[Ao];dsimp only;rw[yX h9 h1,iV hp,hg];dsimp only;rw[afh ⟨rfl,hx⟩];rw[Ab]at key;rcases Iu.mp hpo with q|⟨u,q⟩
  .rw[afh q];exact⟨_,rfl,key _⟩
  .by_cases q1:p=[45]
   .rw[afh q1];exact⟨_,rfl,key _⟩
   .rw[afc q1,q];exact⟨_,rfl,key _⟩
theorem Kb{l:List akz}(h1:¬rA t (l.length+1))(h2:0<l.length->¬qf t l.length (dD l+1)):doLine l t=none:=by
 unfold doLine;cases ht:firstPiece t with
 |none=>rfl
 |some ar=>
  obtain⟨a,r⟩:=ar;obtain⟨rfl,ha⟩:=mP ht;dsimp only;cases hn:natOf a with
  |some n=>
   dsimp only;obtain⟨q1,q2⟩:=pP hn;rw[afc];rintro⟨rfl,hw⟩;exact h1 ⟨q1,r,by rw[q2,afQ,aiq],hw⟩
  |none=>
   dsimp only;split
   .rename_i x p t' y hx hr hg;obtain⟨q1,q2,rfl⟩:=AE hx;obtain⟨rfl,hp⟩:=mP hr;have hl:0<l.length:=by
     cases l with
     |nil=>cases hg
     |cons _ _=>exact aiD _
    have Ab:dD l=y.senses.length:=by unfold dD;rw[hg];rfl
    by_cases c:x=(l.length,y.senses.length+1)/\isSaying t'=true
    .rw[afh c];obtain⟨rfl,hs⟩:=c;have no:¬qe p:=fun z=>h2 hl ⟨by rw[Ab];exact q2,p,t',by rw[Ab,afQ,aiq],hp,z,hs⟩
     rw[Iu,akt]at no;rw[afc no.1];cases hpp:pairOf p with
     |none=>rfl
     |some u=>exact absurd ⟨u,hpp⟩ no.2
    .rw[afc c]
   .rfl
theorem sq{l m:List akz}{ts:List aha}(h:doLine l t=some m):linesFrom i l (t::ts)=linesFrom (i+1) m ts:=by rw[linesFrom,h]
theorem Ak{l:List akz}{ts:List aha}(h:doLine l t=none):linesFrom i l (t::ts)= .error i:=by rw[linesFrom,h]
def w9(t:aha):List Int:=match readPrint t with
 | .error i=> [1,nat i]
 | .ok l=> [0,nat l.length,nat ((l.map fun x=>x.senses.length).foldl (fun a b=>a+b) 0)]
theorem x6(t:aha):ahK 10 t=(ahK 10 t).dropLast++ [((ahK 10 t).getLast?).getD []]:=by
 obtain⟨w,r,h⟩:=pG 10 t;rw[h];have e:=aie (l:=w::r) (by simp);rw[e];exact m9 e
theorem Pl(h:linesFrom 1 [] (ahK 10 t).dropLast= .error i):w9 t=[1,nat i]:=by
 unfold w9 readPrint;dsimp only;rw[h]
theorem Lp{x:List akz}(h:linesFrom 1 [] (ahK 10 t).dropLast= .ok x)(hl:((ahK 10 t).getLast?).getD []≠ []):w9 t=[1,nat ((ahK 10 t).dropLast.length+1)]:=by
 unfold w9 readPrint;dsimp only;rw[h];dsimp only;rw[afc fun z=>hl (by rw[z];rfl)];dsimp only
 conv=>lhs;rw[x6 t]
 rw[afa];rfl
theorem S3{x:List akz}(h:linesFrom 1 [] (ahK 10 t).dropLast= .ok x)(hl:((ahK 10 t).getLast?).getD []=[]):w9 t=[0,nat x.length,nat (km x)]:=by
 unfold w9 readPrint;dsimp only;rw[h];dsimp only;rw[afh]
 .rfl
 .obtain⟨w,r,e⟩:=pG 10 t;rw[e,aie (by simp)]at hl⊢;exact congrArg some hl
theorem yL:((ahK 10 t).getLast?).getD []=[]↔t=[]\/t.getLast? =some 10:=by
 rcases ala t with rfl|⟨u,c,rfl⟩
 .exact⟨fun _=> .inl rfl,fun _=>rfl⟩
 .rw[ajn,ot];by_cases e:c=10
  .rw[afh e,agG,e,agG];exact⟨fun _=> .inr rfl,fun _=>rfl⟩
  .rw[afc e,agG,agG];constructor
   .intro h;have:((ahK 10 u).getLast?.getD []++ [c])=[]:=h;simp at this
   .rintro(h|h)
    .simp at h
    .exact absurd (aft h) e
theorem Du(S:afl):book S 0=agA S.log:=by
 unfold book ahg;rw[afh rfl,afR]
theorem om{j:Nat}(h:S.editions[i]? =some j):book S (i+1)=agA (S.log.take j):=by
 unfold book ahg;rw[afc (ah8 i),ahT,h];rfl
theorem DZ{j:Nat}(h:S.editions[i]? =some j):ahg S (i+1)=j:=by
 unfold ahg;rw[afc (ah8 i),ahT,h];rfl
structure n9(S:afl):Prop where
 len:S.log.length<=200
 BV:S.editions.length<=10
 ed:∀j∈S.editions,j<=S.log.length
 ok:∀a∈S.log,Mm a
 Rm:∀k n t,ajL k n t∈S.log->k<=S.editions.length/\n∈aD (book S k)
def y0(S:afl)(a:Act):afl:={S with log:=S.log++ [a]}
def jW(S:afl):afl:={S with editions:=S.editions++ [S.log.length]}
theorem uH(h:n9 S)(a:Act)(hi:i<S.editions.length):book (y0 S a) (i+1)=book S (i+1):=by
 have e:=afi hi;rw[om (S:=y0 S a) e,om e];show agA ((S.log++ [a]).take _)=_;rw[List.take_append_of_le_length (h.ed _ (afo e))]
theorem qh(hi:i<S.editions.length):book (jW S) (i+1)=book S (i+1):=by
 have e:=afi hi;rw[om (S:=jW S) (i:=i) (j:=S.editions[i]) (by show(S.editions++_)[i]? =_;rw[agK hi];exact e),om e];rfl
theorem FF(S:afl):book (jW S) (S.editions.length+1)=agA S.log:=by
 rw[om (S:=jW S) (i:=S.editions.length) (j:=S.log.length) (by show(S.editions++_)[_]? =_;rw[agt (afn _),akX];rfl)];show agA (S.log.take _)=_;rw[afR]
theorem n9.start:n9 ajf:=⟨by decide,by decide,fun j hj=>(nomatch hj),fun j hj=>(nomatch hj),fun k n t hj=>(nomatch hj)⟩
theorem n9.y0{S:afl}(h:n9 S){a:Act}(ok:Mm a)(hl:S.log.length<200)(he:∀k n t,a=ajL k n t->k<=S.editions.length/\n∈aD (book S k)):n9 (y0 S a):=by
 refine⟨by show(S.log++ [a]).length<=200;rw[afa];exact hl,h.BV,fun j hj=> ?_,fun x hx=> ?_,fun k n t hx=> ?_⟩
 .show j<=(S.log++ [a]).length;rw[afa];exact afK (h.ed j hj)
 .rcases afL.mp hx with q|q
  .exact h.ok x q
  .have:x=a:=by simpa using q
   rw[this];exact ok
 .have key:∀{k n:Nat},Mm (ajL k n t)->k<=S.editions.length/\n∈aD (book S k)->k<=S.editions.length/\n∈aD (book (FM.y0 S a) k):=fun{k n} o q=>by
   obtain⟨i,rfl⟩:∃i,k=i+1:=⟨k-1,by have:=o.1;omega⟩;exact⟨q.1,by rw[uH h a q.1];exact q.2⟩
  rcases afL.mp hx with q|q
  .exact key (h.ok _ q) (h.Rm k n t q)
  .have e:ajL k n t=a:=by simpa using q
   exact key (by rw[e];exact ok) (he k n t e.symm)
theorem n9.jW(h:n9 S)(hl:S.editions.length<10):n9 (jW S):=by
 refine⟨h.len,by show(S.editions++_).length<=10;rw[afa];exact hl,fun j hj=> ?_,h.ok,fun k n t hx=> ?_⟩
 .rcases afL.mp hj with q|q
  .exact h.ed j q
  .have:j=S.log.length:=by simpa using q
   rw[this];exact afn _
 .obtain⟨i,rfl⟩:∃i,k=i+1:=⟨k-1,by have:=(h.ok _ hx).1;omega⟩;obtain⟨q1,q2⟩:=h.Rm _ n t hx;exact⟨by show _<=(S.editions++_).length;rw[afa];exact afK q1,by rw[qh q1];exact q2⟩
theorem n9.short(h:n9 S)(k:Nat):rD (book S k):=E1 _ fun a ha=>h.ok a (List.mem_of_mem_take ha)
def dh(x:akE):List Nat:=(bk (bK x)).map fun i=>(fL x).getD i 0
theorem uS{k:Nat}{l:List (Bool×Int)}{r:Res}(h:k<=S.editions.length):guards (noEdition S k::l) r=guards l r:=by
 unfold guards noEdition isEdition;rw[ajg (by simp[h])]
theorem VW{k:Nat}{l:List (Bool×Int)}{r:Res}(h:¬k<=S.editions.length):guards (noEdition S k::l) r= .error (-8):=by
 unfold guards noEdition isEdition;rw[ajh (by simp[h])]
theorem VV{r:Res}:guards [] r=r:=rfl
theorem dX{T:afl}{x:akE}{l:List Int}(h:does S x= .ok (T,l)):step S x=(T,0::l):=by unfold step;rw[h]
theorem gS{x:akE}{e:Int}(h:does S x= .error e):step S x=(S,[e]):=by unfold step;rw[h]
theorem cw{a:Act}{e:Int}(h:ai0 S a=some e):step S (.act a)=(S,[e]):=gS (by simp only[does,h])
theorem Ji{a:Act}(h:ai0 S a=none):step S (.act a)=(y0 S a,0::answered S a):=dX (by simp only[does,h];rfl)
theorem zm{x:akE}(h:¬∀k∈dh x,k<=S.editions.length):step S x=(S,[-8]):=by
 have xT:∀{k:Nat},(¬∀j∈ [k],j<=S.editions.length)->¬k<=S.editions.length:=fun{k} q z=>q fun j hj=>by
  have:j=k:=by simpa using hj
  rw[this];exact z
 have two:∀{k m:Nat} {l:List (Bool×Int)} {r:Res},(¬∀j∈ [k,m],j<=S.editions.length)->guards (noEdition S k::noEdition S m::l) r= .error (-8):=fun{k m l r} q=>by
  by_cases h1:k<=S.editions.length
  .rw[uS h1,VW fun z=>q fun j hj=> ?_];have:j=k\/j=m:=by simpa using hj
   rcases this with e|e<;>rw[e]<;>assumption
  .exact VW h1
 cases x with
 |act a=>exact absurd (fun k hk=>by cases a<;>cases hk) h
 |freeze=>exact absurd (fun k hk=>nomatch hk) h
 |check t=>exact absurd (fun k hk=>nomatch hk) h
 |line i=>exact absurd (fun k hk=>nomatch hk) h
 |state=>exact absurd (fun k hk=>nomatch hk) h
 |changes k l=>exact gS (two h)
 |carry k e i l=>exact gS (two h)
 |_=>exact gS (VW (xT h))
theorem xN{k:Nat}(h:k<=S.editions.length):step S (.printed k)=(S,0::(printed (book S k)).map nat):=dX (uS h)
theorem tO{k:Nat}(h:k<=S.editions.length):step S (.corrected k)=(S,0::(printed (corrected S k)).map nat):=dX (uS h)
theorem xM{k l:Nat}(h:k<=S.editions.length)(h':l<=S.editions.length):step S (.changes k l)=(S,0::nat (changes (book S k) (book S l)).length::(changes (book S k) (book S l)).flatMap agq):=dX ((uS h).trans (uS h'))
theorem zo{k:Nat}(h:k<=S.editions.length):step S (.number k n)=(S,0::two (afV (book S k) n)):=dX (uS h)
theorem E8{k:Nat}(h:k<=S.editions.length):step S (.name k e i)=(S,[0,nat (ahI (book S k) e i)]):=dX (uS h)
theorem A5{k l:Nat}(h:k<=S.editions.length)(h':l<=S.editions.length):step S (.carry k e i l)=if ahI (book S k) e i=0 then(S,[-6])else(S,0::two (afV (book S l) (ahI (book S k) e i))):=by
 by_cases q:ahI (book S k) e i=0
 .rw[afh q];refine gS ((uS h).trans ((uS h').trans ?_));unfold guards;rw[ajh (by simp[q])]
 .rw[afc q];refine dX ((uS h).trans ((uS h').trans ?_));unfold guards;rw[ajg (by simp[q])];rfl
def iU(b:af8):List Nat:=(afD b).filter fun n=>(senseAt b n).points !=0
theorem uv{k:Nat}(h:k<=S.editions.length):step S (.pointers k)=(S,0::nat (iU (book S k)).length::(iU (book S k)).flatMap fun n=>two (afV (book S k) n)++two (afV (book S k) (senseAt (book S k) n).points)):=dX (uS h)
theorem E6{k:Nat}(h:k<=S.editions.length):step S (.dead k)=(S,0::nat (dead (book S k)).length::(dead (book S k)).flatMap fun n=>two (afV (book S k) n)):=dX (uS h)
theorem A4{k:Nat}(h:k<=S.editions.length):step S (.blame k n)=if n∈aD (book S k)then(S,0::((kT (ahC (S.log.take (ahg S k)) n)).map nat++ [nat (ahC (S.log.take (ahg S k)) n).length]))else(S,[-6]):=by
 by_cases q:n∈aD (book S k)
 .rw[afh q];refine dX ((uS h).trans ?_);unfold guards;rw[ajg (by simp[eC.mpr q])];rfl
 .rw[afc q];refine gS ((uS h).trans ?_);unfold guards;rw[ajh (by simp[dF.mpr q])]
theorem A6{t:List Int}:step S (.check t)=(S,0::w9 (nats t)):=by
 unfold w9;cases q:readPrint (nats t)with
 |error i=>exact dX (by simp only[does,q])
 |ok l=>exact dX (by simp only[does,q])
theorem zl{k:Nat}(h:k<=S.editions.length):step S (.errata k)=(S,0::nat (errata S k).length::(errata S k).flatMap fun x=>two (afV (book S k) x.1)++alA x.2):=dX (uS h)
theorem E7(hi:1<=i):step S (.line i)=match S.log[i-1]? with|none=>(S,[-5])|some a=>(S,0::actTold a):=by
 have e:¬i=0:=by omega
 cases q:S.log[i-1]? with
 |none=>exact gS (by simp only[does,afc e,q])
 |some a=>exact dX (by simp only[does,afc e,q])
theorem E9{k:Nat}(h:k<=S.editions.length):step S (.size k)=(S,[0,nat (ahg S k),nat (book S k).entries.length,nat (book S k).senses.length]):=dX (uS h)
def oG(b:af8)(l:List Int):List Int:=match ag5 l.length l with
 |none=> [-3]
 |some c=>match akm 1 c b with
  | .error i=> [0,1,nat i]
  | .ok b=>0::0::(printed b).map nat
theorem A7{k:Nat}{l:List Int}(h:k<=S.editions.length):step S (.patch k l)=(S,oG (book S k) l):=by
 unfold oG;cases q:ag5 l.length l with
 |none=>exact gS (by simp only[does,uS h,VV,q])
 |some c=>
  dsimp only;cases q2:akm 1 c (book S k)with
  |error i=>exact dX (by simp only[does,uS h,VV,q,q2])
  |ok b=>exact dX (by simp only[does,uS h,VV,q,q2])
def jL(p:Nat)(ns r:List Int):List (List Int):=if fG p=true then [(p:Int)::ns,r]else [(p:Int)::ns]
theorem my(a:Int)(lo hi:Nat):p8 (a,lo,hi)=inside a lo hi:=by
 rw[ah0,gW];exact ahk
structure X2(p:Nat)(ns r:List Int)(x:akE):Prop where
 code:bK x=p
 Xs:(fL x).map nat=ns
 row:Pr x=r
 ok:UQ x
def QG(p:Nat)(ns r:List Int)(o:Option akE):Prop:=((iG p ns&&lE p r)=true/\∃x,o=some x/\X2 p ns r x)\/((iG p ns&&lE p r)=false/\o=none)
theorem cJ{p:Nat}{ns:List Int}{b:Bool}{x:akE}(hb:b=(iG p ns&&lE p r))(hx:b=true->X2 p ns r x):QG p ns r (guard b x):=by
 cases q:b with
 |true=>exact .inl ⟨by rw[<-hb,q],x,by unfold anx;rw[afh rfl],hx q⟩
 |false=>exact .inr ⟨by rw[<-hb,q],by unfold anx;rw[afc (by decide)]⟩
theorem tn{a:Int}{lo:Nat}{hi:Int}(h:inside a lo hi=true):((a.toNat:Nat):Int)=a/\lo<=a.toNat:=by
 have:=gW.mp h;omega
theorem vO(h:aWord r=true):(nats r).map nat=r/\(nats r).length<=12:=sQ (by rw[<-lO];exact h)
theorem jM(h:aSaying r=true):(nats r).map nat=r/\(nats r).length<=30:=sQ (by rw[<-ik];exact h)
local macro_rules|`(tactic|trivial)=>`(tactic|(simp[iG,rg,ZW,my,isE0,isE,isN,isN0,isK,isK0,lE,lO,ik,amQ];done))
theorem Gn(p:Nat)(ns r:List Int)(hp:p<25)(hn:ns.length=(rg p).length)(hr:fG p=false->r=[]):QG p ns r (decode (jL p ns r)):=by
 match p,ns,hp,hn,hr with
 |0,[a],_,_,_=>
  refine cJ (b:=isE0 a&&aWord r) (x:= .act (.entry a.toNat (nats r))) (by trivial) fun h=> ?_
  rw[afy]at h;exact⟨rfl,by show [((a.toNat:Nat):Int)]=_;rw[(tn (lo:=0) h.1).1],(vO h.2).1,(vO h.2).2⟩
 |1,[a,b],_,_,_=>
  refine cJ (b:=isE a&&(isN0 b&&aSaying r)) (x:= .act (.sense a.toNat b.toNat (nats r))) (by trivial) fun h=> ?_
  rw[afy,afy]at h;exact⟨rfl,by show [((a.toNat:Nat):Int),((b.toNat:Nat):Int)]=_;rw[(tn (lo:=1) h.1).1,(tn (lo:=0) h.2.1).1],(jM h.2.2).1,(jM h.2.2).2⟩
 |2,[a],_,_,_=>
  refine cJ (b:=isN a&&aSaying r) (x:= .act (.say a.toNat (nats r))) (by trivial) fun h=> ?_
  rw[afy]at h;exact⟨rfl,by show [((a.toNat:Nat):Int)]=_;rw[(tn (lo:=1) h.1).1],(jM h.2).1,(jM h.2).2⟩
 |3,[a,b],_,_,hr=>
  obtain rfl:=hr rfl;refine cJ (b:=isN a&&isN0 b) (x:= .act (.point a.toNat b.toNat)) (by trivial) fun h=> ?_
  rw[afy]at h;exact⟨rfl,by show [((a.toNat:Nat):Int),((b.toNat:Nat):Int)]=_;rw[(tn (lo:=1) h.1).1,(tn (lo:=0) h.2).1],rfl,agW⟩
 |4,[a,b,c],_,_,hr=>
  obtain rfl:=hr rfl;refine cJ (b:=isN a&&(isE b&&isN0 c)) (x:= .act (.moveSense a.toNat b.toNat c.toNat)) (by trivial) fun h=> ?_
  rw[afy,afy]at h;exact⟨rfl,by show [((a.toNat:Nat):Int),((b.toNat:Nat):Int),((c.toNat:Nat):Int)]=_;rw[(tn (lo:=1) h.1).1,(tn (lo:=1) h.2.1).1,(tn (lo:=0) h.2.2).1],rfl,(tn (lo:=1) h.1).2⟩
 |5,[a,b],_,_,hr=>
  obtain rfl:=hr rfl;refine cJ (b:=isE a&&isE0 b) (x:= .act (.moveEntry a.toNat b.toNat)) (by trivial) fun h=> ?_
  rw[afy]at h;exact⟨rfl,by show [((a.toNat:Nat):Int),((b.toNat:Nat):Int)]=_;rw[(tn (lo:=1) h.1).1,(tn (lo:=0) h.2).1],rfl,(tn (lo:=1) h.1).2⟩
 |6,[a],_,_,hr=>
  obtain rfl:=hr rfl;refine cJ (b:=isN a) (x:= .act (.dropSense a.toNat)) (by trivial) fun h=> ?_
  exact⟨rfl,by show [((a.toNat:Nat):Int)]=_;rw[(tn (lo:=1) h).1],rfl,agW⟩
 |7,[a],_,_,hr=>
  obtain rfl:=hr rfl;refine cJ (b:=isE a) (x:= .act (.dropEntry a.toNat)) (by trivial) fun h=> ?_
  exact⟨rfl,by show [((a.toNat:Nat):Int)]=_;rw[(tn (lo:=1) h).1],rfl,agW⟩
 |8,[a,b],_,_,_=>
  refine cJ (b:=isK a&&(isN b&&aSaying r)) (x:= .act (.erratum a.toNat b.toNat (nats r))) (by trivial) fun h=> ?_
  rw[afy,afy]at h;exact⟨rfl,by show [((a.toNat:Nat):Int),((b.toNat:Nat):Int)]=_;rw[(tn (lo:=1) h.1).1,(tn (lo:=1) h.2.1).1],(jM h.2.2).1,(tn (lo:=1) h.1).2,(jM h.2.2).2⟩
 |9,[],_,_,hr=>
  obtain rfl:=hr rfl;exact .inl ⟨rfl,.freeze,rfl,rfl,rfl,rfl,agW⟩
 |10,[a],_,_,hr=>
  obtain rfl:=hr rfl;refine cJ (b:=isK0 a) (x:= .printed a.toNat) (by trivial) fun h=> ?_
  exact⟨rfl,by show [((a.toNat:Nat):Int)]=_;rw[(tn (lo:=0) h).1],rfl,agW⟩
 |11,[a],_,_,hr=>
  obtain rfl:=hr rfl;refine cJ (b:=isK a) (x:= .corrected a.toNat) (by trivial) fun h=> ?_
  exact⟨rfl,by show [((a.toNat:Nat):Int)]=_;rw[(tn (lo:=1) h).1],rfl,(tn (lo:=1) h).2⟩
 |12,[a,b],_,_,hr=>
  obtain rfl:=hr rfl;refine cJ (b:=isK0 a&&isK0 b) (x:= .changes a.toNat b.toNat) (by trivial) fun h=> ?_
  rw[afy]at h;exact⟨rfl,by show [((a.toNat:Nat):Int),((b.toNat:Nat):Int)]=_;rw[(tn (lo:=0) h.1).1,(tn (lo:=0) h.2).1],rfl,agW⟩
 |13,[a],_,_,_=>
  refine cJ (b:=isK0 a&&decide (r.length<=3000)) (x:= .patch a.toNat r) (by trivial) fun h=> ?_
  rw[afy]at h;exact⟨rfl,by show [((a.toNat:Nat):Int)]=_;rw[(tn (lo:=0) h.1).1],rfl,(aff h.2:r.length<=3000)⟩
 |14,[a,b],_,_,hr=>
  obtain rfl:=hr rfl;refine cJ (b:=isK0 a&&isN b) (x:= .number a.toNat b.toNat) (by trivial) fun h=> ?_
  rw[afy]at h;exact⟨rfl,by show [((a.toNat:Nat):Int),((b.toNat:Nat):Int)]=_;rw[(tn (lo:=0) h.1).1,(tn (lo:=1) h.2).1],rfl,agW⟩
 |15,[a,b,c],_,_,hr=>
  obtain rfl:=hr rfl;refine cJ (b:=isK0 a&&(isE b&&isN c)) (x:= .name a.toNat b.toNat c.toNat) (by trivial) fun h=> ?_
  rw[afy,afy]at h;exact⟨rfl,by show [((a.toNat:Nat):Int),((b.toNat:Nat):Int),((c.toNat:Nat):Int)]=_;rw[(tn (lo:=0) h.1).1,(tn (lo:=1) h.2.1).1,(tn (lo:=1) h.2.2).1],rfl,(tn (lo:=1) h.2.1).2,(tn (lo:=1) h.2.2).2⟩
 |16,[a,b,c,d],_,_,hr=>
  obtain rfl:=hr rfl;refine cJ (b:=isK0 a&&(isE b&&(isN c&&isK0 d))) (x:= .carry a.toNat b.toNat c.toNat d.toNat) (by trivial) fun h=> ?_
  rw[afy,afy,afy]at h;exact⟨rfl,by show [((a.toNat:Nat):Int),((b.toNat:Nat):Int),((c.toNat:Nat):Int),((d.toNat:Nat):Int)]=_;rw[(tn (lo:=0) h.1).1,(tn (lo:=1) h.2.1).1,(tn (lo:=1) h.2.2.1).1,(tn (lo:=0) h.2.2.2).1],rfl,(tn (lo:=1) h.2.1).2,(tn (lo:=1) h.2.2.1).2⟩
 |17,[a],_,_,hr=>
  obtain rfl:=hr rfl;refine cJ (b:=isK0 a) (x:= .pointers a.toNat) (by trivial) fun h=> ?_
  exact⟨rfl,by show [((a.toNat:Nat):Int)]=_;rw[(tn (lo:=0) h).1],rfl,agW⟩
 |18,[a],_,_,hr=>
  obtain rfl:=hr rfl;refine cJ (b:=isK0 a) (x:= .dead a.toNat) (by trivial) fun h=> ?_
  exact⟨rfl,by show [((a.toNat:Nat):Int)]=_;rw[(tn (lo:=0) h).1],rfl,agW⟩
 |19,[a,b],_,_,hr=>
  obtain rfl:=hr rfl;refine cJ (b:=isK0 a&&isN b) (x:= .blame a.toNat b.toNat) (by trivial) fun h=> ?_
  rw[afy]at h;exact⟨rfl,by show [((a.toNat:Nat):Int),((b.toNat:Nat):Int)]=_;rw[(tn (lo:=0) h.1).1,(tn (lo:=1) h.2).1],rfl,agW⟩
 |20,[],_,_,_=>
  refine cJ (b:=decide (r.length<=3000)&&r.all fun c=>inside c 0 255) (x:= .check r) ?_ fun h=> ?_
  .show _=(true&&(decide (0<=r.length/\r.length<=3000)&&r.all fun c=>p8 (c,0,255)));simp[my]
  .rw[afy,af4]at h;exact⟨rfl,rfl,rfl,aff h.1,fun c hc=>gW.mp (h.2 c hc)⟩
 |21,[a],_,_,hr=>
  obtain rfl:=hr rfl;refine cJ (b:=isK a) (x:= .errata a.toNat) (by trivial) fun h=> ?_
  exact⟨rfl,by show [((a.toNat:Nat):Int)]=_;rw[(tn (lo:=1) h).1],rfl,(tn (lo:=1) h).2⟩
 |22,[a],_,_,hr=>
  obtain rfl:=hr rfl;refine cJ (b:=inside a 1 200) (x:= .line a.toNat) (by trivial) fun h=> ?_
  exact⟨rfl,by show [((a.toNat:Nat):Int)]=_;rw[(tn (lo:=1) h).1],rfl,(tn (lo:=1) h).2⟩
 |23,[a],_,_,hr=>
  obtain rfl:=hr rfl;refine cJ (b:=isK0 a) (x:= .size a.toNat) (by trivial) fun h=> ?_
  exact⟨rfl,by show [((a.toNat:Nat):Int)]=_;rw[(tn (lo:=0) h).1],rfl,agW⟩
 |24,[],_,_,hr=>
  obtain rfl:=hr rfl;exact .inl ⟨rfl,.state,rfl,rfl,rfl,rfl,agW⟩
 |p+25,_,hp,_,_=>exact absurd hp (by omega)
theorem AQ{p:Int}{k:Nat}(h:aiz p=some (n,k)):∃q:Nat,q<25/\p=(q:Int)/\n=(rg q).length/\k=if fG q=true then 1 else 0:=by
 have h0:0<=p/\p<25:=by
  refine agy fun z=> ?_
  have hz:∀q:Nat,q<25->¬p=(q:Int):=fun q hq e=>z (by omega)
  have:aiz p=none:=by
   unfold aiz;rw[afc (show¬p=0 from hz 0 (by decide)),afc (show¬p=1 from hz 1 (by decide)),afc (show¬p=2 from hz 2 (by decide)),afc (show¬p=3 from hz 3 (by decide)),afc (show¬p=4 from hz 4 (by decide)),afc (show¬p=5 from hz 5 (by decide)),afc (show¬p=6 from hz 6 (by decide)),afc (show¬p=7 from hz 7 (by decide)),afc (show¬p=8 from hz 8 (by decide)),afc (show¬p=9 from hz 9 (by decide)),afc (show¬p=10 from hz 10 (by decide)),afc (show¬p=11 from hz 11 (by decide)),afc (show¬p=12 from hz 12 (by decide)),afc (show¬p=13 from hz 13 (by decide)),afc (show¬p=14 from hz 14 (by decide)),afc (show¬p=15 from hz 15 (by decide)),afc (show¬p=16 from hz 16 (by decide)),afc (show¬p=17 from hz 17 (by decide)),afc (show¬p=18 from hz 18 (by decide)),afc (show¬p=19 from hz 19 (by decide)),afc (show¬p=20 from hz 20 (by decide)),afc (show¬p=21 from hz 21 (by decide)),afc (show¬p=22 from hz 22 (by decide)),afc (show¬p=23 from hz 23 (by decide)),afc (show¬p=24 from hz 24 (by decide))]
  rw[this]at h;cases h
 obtain⟨q,rfl⟩:∃q:Nat,p=(q:Int):=⟨p.toNat,by omega⟩;have hq:q<25:=by omega
 refine⟨q,hq,rfl,?_⟩;have:∀q<25,aiz ((q:Nat):Int)=some ((rg q).length,if fG q=true then 1 else 0):=by decide+kernel
 rw[this q hq]at h;injection h with h
 injection h with h1 h2
 exact⟨h1.symm,h2.symm⟩
def df(p:Nat)(r:List Int):List Int:=if fG p=true then(r.length:Int)::r else []
structure jT(l:List Int)(p:Nat)(ns r t:List Int):Prop where
 lt:p<25
 len:ns.length=(rg p).length
 no:fG p=false->r=[]
 eq:l=(p:Int)::(ns++df p r++t)
theorem Dy{l t:List Int}{c:List (List Int)}(h:anP aiz l=some (c,t)):∃(p:Nat) (ns r:List Int),jT l p ns r t/\c=jL p ns r:=by
 cases l with
 |nil=>cases h
 |cons p l=>
  simp only[anP]at h;split at h
  .cases h
  .rename_i n k hs;obtain⟨q,hq,rfl,hn,hk⟩:=AQ hs;by_cases hl:l.length<n
   .rw[afh hl]at h;cases h
   .rw[afc hl]at h;have M8:(l.take n).length=(rg q).length:=by rw[afW];omega
    cases hb:fG q with
    |false=>
     rw[hb,afc (by decide)]at hk;subst hk;unfold amw at h;injection h with h
     injection h with h1 h2
     refine⟨q,l.take n,[],⟨hq,M8,fun _=>rfl,?_⟩,?_⟩
     .unfold df;rw[hb,afc (by decide),af5,<-h2,agI]
     .unfold jL;rw[hb,afc (by decide)];exact h1.symm
    |true=>
     rw[hb,afh rfl]at hk;subst hk;unfold amw at h;cases hd:l.drop n with
     |nil=>rw[hd]at h;cases h
     |cons m r=>
      rw[hd]at h;by_cases hm:0<=m/\m.toNat<=r.length
      .have:anZ (m::r)=some (r.take m.toNat,r.drop m.toNat):=by show(if _ then _ else _)=_;rw[afh hm]
       rw[this]at h;simp only[amw]at h;injection h with h
       injection h with h1 h2
       refine⟨q,l.take n,r.take m.toNat,⟨hq,M8,(by rw[hb];intro z;cases z),?_⟩,?_⟩
       .unfold df;rw[hb,afh rfl,<-h2,afW,ahH hm.2,show((m.toNat:Nat):Int)=m by omega,afQ,ag9,agI,<-hd,agI]
       .unfold jL;rw[hb,afh rfl];exact h1.symm
      .have:anZ (m::r)=none:=by show(if _ then _ else _)=_;rw[afc hm]
       rw[this]at h;cases h
inductive kG:List Int->List (List (List Int))->Prop
 |nil:kG [] []
 |cons {l t ns r:List Int} {p:Nat} {cs:List (List (List Int))}:jT l p ns r t->kG t cs->kG l (jL p ns r::cs)
theorem AF:∀{f:Nat} {l:List Int} {cs:List (List (List Int))},amb aiz f l=some cs->kG l cs
 |f,[],cs,h=>by
  unfold amb at h;injection h with h
  subst h;exact .nil
 |0,_::_,_,h=>by cases h
 |f+1,p::r,cs,h=>by
  simp only[amb]at h;split at h
  .cases h
  .rename_i c t hc;split at h
   .cases h
   .rename_i Yn hs;injection h with h
    subst h;obtain⟨q,ns,r',h1,rfl⟩:=Dy hc;exact .cons h1 (AF hs)
theorem Fj(p:Nat)(ns r:List Int)(hp:p<25)(hn:ns.length=(rg p).length):alq (jL p ns r)=jL p ns r:=match p,ns,hp,hn with
 |0,[_],_,_=>rfl
 |1,[_,_],_,_=>rfl
 |2,[_],_,_=>rfl
 |3,[_,_],_,_=>rfl
 |4,[_,_,_],_,_=>rfl
 |5,[_,_],_,_=>rfl
 |6,[_],_,_=>rfl
 |7,[_],_,_=>rfl
 |8,[_,_],_,_=>rfl
 |9,[],_,_=>rfl
 |10,[_],_,_=>rfl
 |11,[_],_,_=>rfl
 |12,[_,_],_,_=>rfl
 |13,[_],_,_=>rfl
 |14,[_,_],_,_=>rfl
 |15,[_,_,_],_,_=>rfl
 |16,[_,_,_,_],_,_=>rfl
 |17,[_],_,_=>rfl
 |18,[_],_,_=>rfl
 |19,[_,_],_,_=>rfl
 |20,[],_,_=>rfl
 |21,[_],_,_=>rfl
 |22,[_],_,_=>rfl
 |23,[_],_,_=>rfl
 |24,[],_,_=>rfl
 |p+25,_,hp,_=>absurd hp (by omega)
theorem kG.whole{l:List Int}{cs:List (List (List Int))}(h:kG l cs):cs.map alq=cs:=by
 induction h with
 |nil=>rfl
 |cons h _ ih=>rw[af9,ih,Fj _ _ _ h.lt h.len]
def iB(s:afl)(cs:List (List (List Int))):List Int:=anQ (ano ahz s cs)
theorem ux(s:afl)(c:List (List Int))(cs:List (List (List Int))):iB s (c::cs)=((ahz s c).2.length:Int)::(ahz s c).2++iB (ahz s c).1 cs:=rfl
theorem zT{l:List Int}(h:aji l=true):∃cs,kG l cs/\ajr l=iB start cs/\(iB start cs).length<=10000000:=by
 unfold aji at h;split at h
 .cases h
 .rename_i raw hr;rw[afy]at h;have e:ajr l=iB start raw:=by
   unfold ajr PyVbdhag.calls;rw[hr];show anQ (ano an0 anT (raw.map alq))=_;rw[(AF hr).whole];rfl
  exact⟨raw,AF hr,e,by rw[<-e];exact aff h.2⟩
def zP(l:List Int):Prop:=∃k a b c n r,l=k::a::b::c::n::r/\NV k a b c n r
theorem Hh{l:List Int}(h0:l≠ [])(h:¬zP l)(f:Nat):ag5 (f+1) l=none:=by
 by_cases h5:l.length<5
 .exact FI h0 h5
 .match l,h5,h with
  |k::a::b::c::n::r,_,h=>exact JU fun z=>h ⟨k,a,b,c,n,r,rfl,z⟩
  | [],h5,_=>exact absurd (by decide) h5
  | [_],h5,_=>exact absurd (show 1<5 by decide) h5
  | [_,_],h5,_=>exact absurd (show 2<5 by decide) h5
  | [_,_,_],h5,_=>exact absurd (show 3<5 by decide) h5
  | [_,_,_,_],h5,_=>exact absurd (show 4<5 by decide) h5
theorem Bi:∀{f:Nat} {l:List Int} {ds:List agX},ag5 f l=some ds->l=ds.flatMap agq/\∀d∈ds,TL d
 |f,[],ds,h=>by
  have:some []=some ds:=by rw[<-h];cases f<;>rfl
  injection this with this
  subst this;exact⟨rfl,fun d hd=>nomatch hd⟩
 |0,_::_,_,h=>by cases h
 |f+1,x::l,ds,h=>by
  by_cases q:zP (x::l)
  .obtain⟨k,a,b,c,n,r,e,ok⟩:=q;obtain⟨d,h1,h2,h3⟩:=Bj (f:=f) ok;rw[e,h3]at h;cases hr:ag5 f (r.drop n.toNat)with
   |none=>rw[hr]at h;cases h
   |some ds'=>
    rw[hr]at h;obtain⟨h4,h5⟩:=Bi hr;have h6:d::ds'=ds:=aft h;subst h6;refine⟨by rw[e,h1,agg,<-h4],fun y hy=> ?_⟩;rcases afv.mp hy with z|z
    .rw[z];exact h2
    .exact h5 y z
  .rw[Hh (by simp) q]at h;cases h
theorem uQ:∀ds:List agX,5*ds.length<=(ds.flatMap agq).length
 | []=>afn _
 |d::ds=>by
  have:=uQ ds;have:=zt d;rw[agg,afa,afp];omega
theorem Mg(d:agX)(t:List Int):∃a b c:Nat,ji d=[a,b,c]/\agq d++t=nat (kh d)::nat a::nat b::nat c::nat (dj d).length::((dj d).map nat++t):=by
 cases d<;>exact⟨_,_,_,rfl,rfl⟩
abbrev Ch:=Nat×List Nat
def ef(bj:Nat)(r:List Ch):Ch:=r.foldl (fun(a:Ch) c=>if bj<c.2.headD 0/\a.1<c.1 then c else a) (0,[])
theorem qi(x:Nat)(l:List Nat):chains (x::l)=((ef x (chains l)).1+1,x::(ef x (chains l)).2)::chains l:=rfl
theorem lP(bj:Nat):∀(r:List Ch) (a:Ch),r.foldl (fun(a:Ch) c=>if bj<c.2.headD 0/\a.1<c.1 then c else a) a=if a.1<(ef bj r).1 then ef bj r else a
 | [],a=>by
  show a=if a.1<0 then _ else a
  rw[afc (aik _)]
 |c::r,a=>by
  have e0:ef bj (c::r)=r.foldl (fun(a:Ch) c=>if bj<c.2.headD 0/\a.1<c.1 then c else a) (if bj<c.2.headD 0/\0<c.1 then c else(0,[])):=rfl;rw[aij,lP bj r,e0,lP bj r];clear e0;generalize ef bj r=t;generalize c.2.headD 0=q;by_cases h:bj<q<;>by_cases h1:a.1<c.1<;>by_cases h3:0<c.1<;>by_cases h2:c.1<t.1<;>by_cases h4:a.1<t.1<;>by_cases h5:0<t.1<;>first
   |(exfalso;omega)
   |simp[h,h1,h2,h3,h4,h5]
def pJ:Nat->Nat->List Nat->List Nat
 |_,_,[]=> []
 |w,bj,x::l=>if(ef x (chains l)).1+1=w/\bj<x then x::pJ (w-1) x l else pJ w bj l
theorem uC(bj x:Nat)(l:List Nat):ef bj (chains (x::l))=if bj<x/\¬(ef x (chains l)).1+1<(ef bj (chains l)).1 then((ef x (chains l)).1+1,x::(ef x (chains l)).2)else ef bj (chains l):=by
 rw[qi];have e0:ef bj (((ef x (chains l)).1+1,x::(ef x (chains l)).2)::chains l)=(chains l).foldl (fun(a:Ch) c=>if bj<c.2.headD 0/\a.1<c.1 then c else a) (if bj<x/\0<(ef x (chains l)).1+1 then((ef x (chains l)).1+1,x::(ef x (chains l)).2)else(0,[])):=rfl;rw[e0,lP];by_cases h:bj<x
 .rw[afh (show bj<x/\0<(ef x (chains l)).1+1 from⟨h,aiD _⟩)];by_cases h2:(ef x (chains l)).1+1<(ef bj (chains l)).1
  .rw[afh h2,afc (fun z=>z.2 h2)]
  .rw[afc h2,afh ⟨h,h2⟩]
 .rw[afc (show¬(bj<x/\0<(ef x (chains l)).1+1)from fun z=>h z.1),afc (show¬(bj<x/\¬(ef x (chains l)).1+1<(ef bj (chains l)).1)from fun z=>h z.1)];by_cases h2:0<(ef bj (chains l)).1
  .exact afh h2
  .have hz:ef bj (chains l)=(0,[]):=by
    have:=lP bj (chains l) (0,[]);rw[afc h2]at this;exact this
   rw[hz];rfl
theorem pK:∀(l:List Nat) (bj:Nat),pJ (ef bj (chains l)).1 bj l=(ef bj (chains l)).2
 | [],_=>rfl
 |x::l,bj=>by
  rw[uC];show(if(ef x (chains l)).1+1=_/\bj<x then _ else _)=_;by_cases h:bj<x/\¬(ef x (chains l)).1+1<(ef bj (chains l)).1
  .rw[afh h,afh (show(ef x (chains l)).1+1=((ef x (chains l)).1+1,x::(ef x (chains l)).2).1/\bj<x from⟨rfl,h.1⟩)];show x::pJ ((ef x (chains l)).1+1-1) x l=x::_;rw[ahT,pK l x]
  .rw[afc h,pK l bj,afc];rintro⟨h1,h2⟩;exact h ⟨h2,by omega⟩
theorem mI:∀(l:List Nat) (c:Ch),c∈chains l->c.2.headD 0∈l/\0<c.1
 | [],_,h=>nomatch h
 |x::l,c,h=>by
  rw[qi]at h;rcases afv.mp h with e|h
  .rw[e];exact⟨af2,aiD _⟩
  .exact⟨afs _ (mI l c h).1,(mI l c h).2⟩
theorem wG(h:∀x∈l,0<x):longest l=(ef 0 (chains l)).2:=by
 unfold longest ef;have:∀(r:List Ch) (a:Ch),(∀c∈r,0<c.2.headD 0)->r.foldl (fun(a:Ch) c=>if a.1<c.1 then c else a) a=r.foldl (fun(a:Ch) c=>if 0<c.2.headD 0/\a.1<c.1 then c else a) a:=by
  intro r
  induction r with
  |nil=>intro a _;rfl
  |cons c r ih=>
   intro a hr;rw[aij,aij];have hc:=hr c af2;have e:(if a.1<c.1 then c else a)=if 0<c.2.headD 0/\a.1<c.1 then c else a:=by
    by_cases q:a.1<c.1
    .rw[afh q,afh ⟨hc,q⟩]
    .rw[afc q,afc fun z=>q z.2]
   rw[e];exact ih _ fun c hc=>hr c (afs _ hc)
 rw[this (chains l) (0,[]) fun c hc=>h _ (mI l c hc).1]
theorem su(h:∀x∈l,0<x):longest l=pJ (ef 0 (chains l)).1 0 l:=by
 rw[wG h,pK]
def dZ(l:List Nat):List Nat:=(chains l).map (·.1)
theorem l7(x:Nat)(l:List Nat):dZ (x::l)=((ef x (chains l)).1+1)::dZ l:=rfl
theorem jh:∀l:List Nat,(dZ l).length=l.length
 | []=>rfl
 |x::l=>by rw[l7,afp,afp,jh l]
def ja(bj:Nat):List Nat->List Nat->Nat
 |x::l,n::ns=>if bj<x then max n (ja bj l ns)else ja bj l ns
 |_,_=>0
theorem rF(bj:Nat):∀l:List Nat,(ef bj (chains l)).1=ja bj l (dZ l)
 | []=>rfl
 |x::l=>by
  rw[uC,l7];show _=if bj<x then max _ (ja bj l (dZ l))else ja bj l (dZ l)
  rw[<-rF bj l];by_cases h:bj<x
  .rw[afh h];by_cases h2:(ef x (chains l)).1+1<(ef bj (chains l)).1
   .rw[afc (fun z=>z.2 h2)];omega
   .rw[afh ⟨h,h2⟩];show _+1=_;omega
  .rw[afc h,afc (fun z=>h z.1)]
theorem oz(x:Nat)(l:List Nat):dZ (x::l)=(ja x l (dZ l)+1)::dZ l:=by rw[l7,rF]
def iQ:Nat->Nat->List Nat->List Nat->List Nat
 |w,bj,x::l,n::ns=>if n=w/\bj<x then x::iQ (w-1) x l ns else iQ w bj l ns
 |_,_,_,_=> []
theorem mV:∀(l:List Nat) (w bj:Nat),iQ w bj l (dZ l)=pJ w bj l
 | [],_,_=>rfl
 |x::l,w,bj=>by
  rw[l7];show(if(ef x (chains l)).1+1=w/\bj<x then _ else _)=(if(ef x (chains l)).1+1=w/\bj<x then _ else _);rw[mV l,mV l]
theorem vF:∀(l ns:List Nat),(∀x∈l,0<x)->l.length=ns.length->ja 0 l ns=ns.foldr max 0
 | [],[],_,_=>rfl
 |x::l,n::ns,h,hl=>by
  show(if 0<x then max n _ else _)=max n (ns.foldr max 0);rw[afh (h x af2),vF l ns (fun y hy=>h y (afs _ hy)) (by simpa using hl)]
 | [],_::_,_,hl=>by simp at hl
 |_::_,[],_,hl=>by simp at hl
theorem D0(h:∀x∈l,0<x):longest l=iQ ((dZ l).foldr max 0) 0 l (dZ l):=by
 rw[mV,su h,rF,vF l (dZ l) h (jh l).symm]
theorem jk{new:List Nat}(hn:new.Nodup)(h:new[i]? =some n):agn new n=i+1:=by
 unfold agn;have:new.findIdx? (fun y=>y==n)=some i:=by
  rw[List.findIdx?_eq_some_iff_getElem];obtain⟨hi,e⟩:=afd.mp h;refine⟨hi,by simp[e],fun j hj=> ?_⟩;have hj':j<new.length:=by omega
  have:¬new[j]=n:=fun z=>by
   have:=(ajo hn).mp (z.trans e.symm);omega
  simpa using this
 rw[this]
theorem iS{new:List Nat}(hn:new.Nodup)(h:n∈new):new[agn new n-1]? =some n/\0<agn new n:=by
 obtain⟨i,hi⟩:=aga h;rw[jk hn hi];exact⟨by simpa using hi,aiD _⟩
def jo:Nat->Nat->List Nat->List Nat->List Nat->List Nat
 |w,bj,c::cs,x::l,n::ns=>if n=w/\bj<x then c::jo (w-1) x cs l ns else jo w bj cs l ns
 |_,_,_,_,_=> []
theorem tN(f:Nat->Nat)(g:Nat->Nat):∀(cs ns:List Nat) (w bj:Nat),(∀c∈cs,g (f c)=c)->(iQ w bj (cs.map f) ns).map g=jo w bj cs (cs.map f) ns
 | [],_,_,_,_=>by unfold iQ jo;rfl
 |c::cs,[],_,_,_=>by unfold iQ jo;rfl
 |c::cs,n::ns,w,bj,h=>by
  rw[af9];show(if n=w/\bj<f c then f c::iQ (w-1) (f c) (cs.map f) ns else iQ w bj (cs.map f) ns).map g=(if n=w/\bj<f c then c::jo (w-1) (f c) cs (cs.map f) ns else jo w bj cs (cs.map f) ns);have ht:∀c∈cs,g (f c)=c:=fun c hc=>h c (afs _ hc)
  split
  .rw[af9,h c af2,tN f g cs ns _ _ ht]
  .exact tN f g cs ns _ _ ht
theorem DV{old new:List Nat}(hn:new.Nodup):kept old new=jo ((dZ ((old.filter new.contains).map (agn new))).foldr max 0) 0 (old.filter new.contains) ((old.filter new.contains).map (agn new)) (dZ ((old.filter new.contains).map (agn new))):=by
 have hm:∀c∈old.filter new.contains,c∈new:=fun c hc=>by simpa using(afM.mp hc).2
 have Ad:∀x∈(old.filter new.contains).map (agn new),0<x:=fun x hx=>by
  obtain⟨c,hc,rfl⟩:=afH.mp hx;exact(iS hn (hm c hc)).2
 unfold kept;rw[D0 Ad];refine tN (agn new) (fun i=>(new[i-1]?).getD 0) (old.filter new.contains) _ _ _ fun c hc=> ?_
 show(new[agn new c-1]?).getD 0=c;rw[(iS hn (hm c hc)).1];rfl
theorem GP [Decidable p] [Decidable q]{α:Type}{x x' y y':α}(h:p↔q)(hx:x=x')(hy:y=y'):(if p then x else y)=if q then x' else y':=by
 by_cases z:p
 .rw[afh z,afh (h.mp z),hx]
 .rw[afc z,afc (fun y=>z (h.mpr y)),hy]
theorem Sm [Decidable p] [Decidable q]{α:Type}{x y:α}:(if p then x else if q then x else y)=if p\/q then x else y:=by
 by_cases z:p
 .rw[afh z,afh (.inl z)]
 .rw[afc z];exact GP ⟨.inr,fun h=>h.resolve_left z⟩ rfl rfl
theorem Uz [Decidable p] [Decidable q]{o o':Option Int}(c:Int)(h:p↔q)(ho:o=o'):((if p then some c else none:Option Int).orElse fun _=>o)=if q then some c else o':=by
 by_cases z:p
 .rw[afh z,afh (h.mp z)];rfl
 .rw[afc z,afc (fun y=>z (h.mpr y))];exact ho
theorem QW:(a≠0/\(¬p\/a=0))↔¬(a=0\/p):=by
 constructor
 .rintro⟨h1,h2|h2⟩ (z|z)
  .exact h1 z
  .exact h2 z
  .exact h1 h2
  .exact h1 h2
 .intro h;exact⟨fun z=>h (.inl z),.inl fun z=>h (.inr z)⟩
theorem QX(h0:n≠0):(a≠0/\(¬p\/a=n))↔(a=n\/¬(a=0\/p)):=by
 constructor
 .rintro⟨h1,h2|h2⟩
  .exact .inr fun z=>z.elim h1 h2
  .exact .inl h2
 .rintro(h|h)
  .exact⟨by omega,.inr h⟩
  .exact⟨fun z=>h (.inl z),.inl fun z=>h (.inr z)⟩
theorem pE:l.contains a=false↔¬a∈l:=by simp
section
variable(S:afl)
theorem tZ(a:Nat)(w:aha):ai0 S (.entry a w)=if¬(a=0\/a∈names (agA S.log))then some (-7)else if 20<=(run S.log).2.1\/200<=S.log.length then some (-4)else none:=
 Uz _ (ams (alB aje (aln cg aje)) QW) Sm
theorem pj(e a:Nat)(t:aha):ai0 S (.sense e a t)=if¬e∈names (agA S.log)then some (-5)else if¬(a=0\/a∈(entryAt (agA S.log) e).senses)then some (-7)else if 50<=(run S.log).2.2\/200<=S.log.length then some (-4)else none:=
 GP cg rfl (Uz _ (ams (alB aje (aln pE aje)) QW) Sm)
theorem Bf(n:Nat)(t:aha):ai0 S (.say n t)=if¬n∈aD (agA S.log)then some (-6)else if 200<=S.log.length then some (-4)else none:=GP dF rfl rfl
theorem ph(n t:Nat):ai0 S (.point n t)=if¬n∈aD (agA S.log)\/(t≠0/\¬t∈aD (agA S.log))then some (-6)else if 200<=S.log.length then some (-4)else none:=GP (aln dF (alB aje dF)) rfl rfl
theorem Jr(n e a:Nat)(n0:n≠0):ai0 S (.moveSense n e a)=if¬n∈aD (agA S.log)then some (-6)else if¬e∈names (agA S.log)then some (-5)else if a=n\/¬(a=0\/a∈(entryAt (agA S.log) e).senses)then some (-7)else if 200<=S.log.length then some (-4)else none:=
 GP dF rfl (GP cg rfl (Uz _ (ams (alB aje (aln pE aje)) (QX n0)) rfl))
theorem Jq(e a:Nat)(e0:e≠0):ai0 S (.moveEntry e a)=if¬e∈names (agA S.log)then some (-5)else if a=e\/¬(a=0\/a∈names (agA S.log))then some (-7)else if 200<=S.log.length then some (-4)else none:=
 GP cg rfl (Uz _ (ams (alB aje (aln cg aje)) (QX e0)) rfl)
theorem tY(n:Nat):ai0 S (.dropSense n)=if¬n∈aD (agA S.log)then some (-6)else if 200<=S.log.length then some (-4)else none:=GP dF rfl rfl
theorem tX(e:Nat):ai0 S (.dropEntry e)=if¬e∈names (agA S.log)then some (-5)else if 200<=S.log.length then some (-4)else none:=GP cg rfl rfl
theorem P8(k n:Nat)(t:aha):ai0 S (.erratum k n t)=if¬k<=S.editions.length then some (-8)else if¬n∈aD (book S k)then some (-6)else if 200<=S.log.length then some (-4)else none:=GP (by omega) rfl (GP dF rfl rfl)
end
def bg(a b:af8):List Nat:=(a.entries.filter fun x=>agl b x.name).flatMap fun x=>x.senses
theorem jg(a b:af8)(w:WF a):bg a b=(afD a).filter fun n=>agl b (agx a n):=by
 unfold bg afD;have:∀l:List afm,(∀x∈l,x∈a.entries)->(l.filter fun x=>agl b x.name).flatMap (fun x=>x.senses)=(l.flatMap fun x=>x.senses).filter fun n=>agl b (agx a n):=by
  intro l
  induction l with
  |nil=>intro _;rfl
  |cons x l ih=>
   intro h;have hx:=h x af2;rw[agg,agj,<-ih fun y hy=>h y (afs _ hy),afS];by_cases e:agl b x.name=true
   .rw[afh e,agg];have e2:(x.senses.filter fun n=>agl b (agx a n))=x.senses:=by
     rw[aiH];intro n hn;rw[gv w hx hn];exact e
    rw[e2]
   .rw[afc e];have e2:(x.senses.filter fun n=>agl b (agx a n))=[]:=by
     rw[List.filter_eq_nil_iff];intro n hn;rw[gv w hx hn];exact e
    rw[e2,agT]
 exact this a.entries fun x hx=>hx
theorem kZ{a:af8}(w:WF a)(wb:WF b):n∈bg a b↔ahJ a n=true/\agl b (agx a n)=true:=by
 rw[jg a b w,afM,eC,w.same n]
theorem gL:l.contains n=true↔n∈l:=by simp
def BZ(a b:af8)(k:List Nat):Nat->List afm->List agX
 |_,[]=> []
 |fQ,x::r=>(if k.contains x.name=true then []else [if agl a x.name=true then .moveEntry x.name fQ else .newEntry x.name fQ x.word])++BZ a b k x.name r
theorem GD(a b:af8)(wb:WF b)(k:List Nat):∀(l:List afm) (fQ:Nat),(∀x∈l,x∈b.entries)->
  (placed (ags a) (ags b) k fQ (l.map fun x=>x.name)).map (fun x=>if x.2.2=true then aia x.1 x.2.1 else .newEntry x.1 x.2.1 (entryAt b x.1).word)=BZ a b k fQ l
 | [],_,_=>rfl
 |x::l,fQ,h=>by
  have hx:=h x af2;have ih:=GD a b wb k l x.name fun y hy=>h y (afs _ hy)
  have hh:(ags a).contains x.name=agl a x.name:=by
   by_cases e:agl a x.name=true
   .rw[e];exact gL.mpr (iR.mp e)
   .have e':agl a x.name=false:=by simpa using e
    rw[e'];have:=cg.mp e';have h2:¬x.name∈ags a:=this;simpa using h2
  show((if k.contains x.name=true then []else [(x.name,fQ,(ags a).contains x.name)])++placed (ags a) (ags b) k x.name (l.map fun x=>x.name)).map _=_;rw[afB,ih,hh];show _=(if k.contains x.name=true then []else [if agl a x.name=true then aia x.name fQ else .newEntry x.name fQ x.word])++BZ a b k x.name l;by_cases e:k.contains x.name=true
  .rw[afh e,afh e];rfl
  .rw[afc e,afc e];show [if agl a x.name=true then aia x.name fQ else .newEntry x.name fQ (entryAt b x.name).word]++_=_;rw[bp wb hx]
def uT(a b:af8)(left k:List Nat)(e:Nat):Nat->List Nat->List agX
 |_,[]=> []
 |fQ,n::r=>(if k.contains n=true then []else [if left.contains n=true then .moveSense n e fQ else .newSense n e fQ (senseAt b n).text])++uT a b left k e n r
theorem GF(a b:af8)(w:WF a)(wb:WF b)(k:List Nat)(y:afm)(old:List Nat):∀(l:List Nat) (fQ:Nat),
  (placed (afD a) old k fQ l).map (fun x=>if x.2.2=true/\agl b (agx a x.1)=true then aib x.1 y.name x.2.1 else .newSense x.1 y.name x.2.1 (senseAt b x.1).text)=uT a b (bg a b) k y.name fQ l
 | [],_=>rfl
 |n::l,fQ=>by
  have ih:=GF a b w wb k y old l n;show((if k.contains n=true then []else [(n,fQ,(afD a).contains n)])++placed (afD a) old k n l).map _=(if k.contains n=true then []else [if(bg a b).contains n=true then aib n y.name fQ else .newSense n y.name fQ (senseAt b n).text])++uT a b (bg a b) k y.name n l;rw[afB,ih];by_cases e:k.contains n=true
  .rw[afh e,afh e];rfl
  .rw[afc e,afc e];show [if(afD a).contains n=true/\agl b (agx a n)=true then aib n y.name fQ else .newSense n y.name fQ (senseAt b n).text]++_=_;have hc:((afD a).contains n=true/\agl b (agx a n)=true)↔(bg a b).contains n=true:=by
    rw[gL,gL,jg a b w,afM]
   by_cases q:(bg a b).contains n=true
   .rw[afh (hc.mpr q),afh q]
   .rw[afc (fun z=>q (hc.mp z)),afc q]
def Ym(a b:af8):List agX:=
 ((a.entries.filter fun x=> !hasEntry b x.name).map fun x=>ahu x.name)++
 BZ a b (kept (ags a) (ags b)) 0 b.entries++
 (((bg a b).filter fun n=> !hasSense b n).map .dropSense)++
 (b.entries.flatMap fun y=>uT a b (bg a b) (kept (entryAt a y.name).senses y.senses) y.name 0 y.senses)++
 (((afD b).filter fun n=>(bg a b).contains n&&((senseAt a n).text !=(senseAt b n).text)).map fun n=> .say n (senseAt b n).text)++
 (((afD b).filter fun n=>(senseAt b n).points !=(if(bg a b).contains n=true then(senseAt a n).points else 0)).map fun n=> .point n (senseAt b n).points)
theorem Oa{a:af8}(w:WF a)(wb:WF b):amS a b=Ym a b:=by
 have hl:∀n,(bg a b).contains n=(ahJ a n&&agl b (agx a n)):=fun n=>by
  by_cases q:n∈bg a b
  .rw[gL.mpr q,((kZ w wb).mp q).1,((kZ w wb).mp q).2];rfl
  .have h1:(bg a b).contains n=false:=by simpa using q
   rw[h1];cases h2:ahJ a n with
   |false=>rfl
   |true=>
    cases h3:agl b (agx a n)with
    |false=>rfl
    |true=>exact absurd ((kZ w wb).mpr ⟨h2,h3⟩) q
 unfold amS Ym;dsimp only;have p1:((ags a).filter fun e=> !hasEntry b e).map ahu=(a.entries.filter fun x=> !hasEntry b x.name).map fun x=>ahu x.name:=by
  unfold ags;rw[ak4,ag4];rfl
 have p2:=GD a b wb (kept (ags a) (ags b)) b.entries 0 fun x hx=>hx
 have p3:((afD a).filter fun n=> !hasSense b n&& !((ags a).filter fun e=> !hasEntry b e).contains (agx a n))=(bg a b).filter fun n=> !hasSense b n:=by
  rw[jg a b w,alV];refine ajk fun n hn=> ?_
  have hm:=(iu w hn).1;have:((ags a).filter fun e=> !hasEntry b e).contains (agx a n)= !hasEntry b (agx a n):=by
   cases h3:agl b (agx a n)with
   |true=>
    have:¬agx a n∈(ags a).filter fun e=> !hasEntry b e:=fun z=>by
     have:=(afM.mp z).2;rw[h3]at this;exact afN this
    simpa using this
   |false=>
    exact gL.mpr (afM.mpr ⟨hm,by rw[h3];rfl⟩)
  rw[this,Bool.not_not]
 have p4:(b.entries.flatMap fun y=>(placed (afD a) y.senses (kept (entryAt a y.name).senses y.senses) 0 y.senses).map fun x=>if x.2.2=true/\agl b (agx a x.1)=true then aib x.1 y.name x.2.1 else .newSense x.1 y.name x.2.1 (senseAt b x.1).text)=b.entries.flatMap fun y=>uT a b (bg a b) (kept (entryAt a y.name).senses y.senses) y.name 0 y.senses:=by
  refine congrArg (fun f=>b.entries.flatMap f) (funext fun y=> ?_);exact GF a b w wb (kept (entryAt a y.name).senses y.senses) y y.senses y.senses 0
 have p5:((afD b).filter fun n=>ahJ a n&&(agl b (agx a n)&&(senseAt a n).text !=(senseAt b n).text))=(afD b).filter fun n=>(bg a b).contains n&&((senseAt a n).text !=(senseAt b n).text):=by
  refine ajk fun n _=> ?_
  rw[hl n,amQ]
 have p6:((afD b).filter fun n=>(if ahJ a n=true/\agl b (agx a n)=true then(senseAt a n).points else 0) !=(senseAt b n).points)=(afD b).filter fun n=>(senseAt b n).points !=(if(bg a b).contains n=true then(senseAt a n).points else 0):=by
  refine ajk fun n _=> ?_
  rw[hl n];have:(if ahJ a n=true/\agl b (agx a n)=true then(senseAt a n).points else 0)=(if(ahJ a n&&agl b (agx a n))=true then(senseAt a n).points else 0):=by
   by_cases q:ahJ a n=true/\agl b (agx a n)=true
   .rw[afh q,afh (by rw[q.1,q.2];rfl)]
   .rw[afc q,afc (fun z=>q ((afy _ _).mp z))]
  rw[this];exact bne_comm
 have p2':(placed (ags a) (ags b) (kept (ags a) (ags b)) 0 (ags b)).map (fun x=>if x.2.2=true then aia x.1 x.2.1 else .newEntry x.1 x.2.1 (entryAt b x.1).word)=BZ a b (kept (ags a) (ags b)) 0 b.entries:=p2;rw[p1,p2',p3,p4,p5,p6]
end FM
namespace L2
open PySem PySem.Spec PyProof.Rows
open PySem.W (Frag fnOf keepIn mg_of findIn nsIn emptyDict plainGet hasDictIn isFn makesIn codeIn plainOver)
variable{xs ys:List V}{aR us:List afe}{m name qual x:Str}{u v:afe}{H H' H1:Hp}{C a b dx it l z:afb}{o:Option V}{P prog:afz}{w:af3}{base h h':age}{c e e2 iter tg value:agP}{X:Cx}{pins:List (afb×Obj)}{σ:St}{s s':afA}{i j kk n t':Nat}{ch fp:List afb}{N ps:List Str}{M:aj4}{A:ahD}{E Q:afe->afA->Prop}{ta td te ty:TE}{tb:TS}{R:aiF->afA->Prop}{eI p pos iH jc:Pos}{op:ajA}{y:V}{K:afU}{D:iD}{st:afP}{js es nU:List agP}{g:TG}{body:List afP}{pl:Sem Bool}{wi:TI}{mA mg:Str->Option afe}{kw:List (Str×afe)}{env:Env}{fd:afC}{CX:uc}{ds:List ahB}{kindOf:Str->Option agJ}{scope:ahM}{T:String}{items:Array afe}{cells:List (Str×afb)}{own:List (Str×Nat)}{tt:TT}{aQ:List (List br×V)}
abbrev br:=Sum Int Str
def u6:br->afe->Bool
 | .inl k,v=>anF k v
 | .inr x,v=>am7 x v
def W8(w:af3):br->Int
 | .inl k=>hashInt k
 | .inr x=>hashStr w x
theorem eE:∀{k:br} {v:afe},u6 k v=true->(∃i t,k=afx i/\v=ahO i t)\/(∃x t,k=alw x/\v=alx x t)
 | .inl i,v,h=>by
  obtain⟨t,e⟩:=Value.isInt_shape (k:=i) (v:=v) h;exact .inl ⟨i,t,rfl,e⟩
 | .inr x,v,h=>by
  obtain⟨t,e⟩:=Value.isStrOf_shape (x:=x) (v:=v) h;exact .inr ⟨x,t,rfl,e⟩
theorem DW(i:Int)(t:Tok):u6 (.inl i) (.int i t)=true:=by simp[u6,anF]
theorem DX(x:Str)(t:Tok):u6 (.inr x) (.str x t)=true:=by simp[u6,am7]
theorem OL(a b:Int):decide ((afx a:br)=afx b)=(a==b):=by
 by_cases e:a=b
 .subst e;simp
 .have h:¬(afx a:br)=afx b:=fun q=>e (ald q)
  rw[agb h];exact(agS.mpr e).symm
theorem OO(a b:Str):decide ((alw a:br)=alw b)=decide (a=b):=by
 by_cases e:a=b
 .subst e;simp
 .have h:¬(alw a:br)=alw b:=fun q=>e (Sum.inr.inj q)
  rw[agb h,agb e]
theorem OM(a:Int)(b:Str):decide ((afx a:br)=alw b)=false:=agb (fun q=>nomatch q)
theorem ON(a:Str)(b:Int):decide ((alw a:br)=afx b)=false:=agb (fun q=>nomatch q)
def cO(prog:afz)(w:af3):PySem.KeyKind prog w br where
 is:=u6
 hash:=W8 w
 inj:=fun v a b ha hb=>by
  rcases eE ha with⟨i,t,rfl,rfl⟩|⟨x,t,rfl,rfl⟩
  .rcases eE hb with⟨j,u,rfl,e⟩|⟨y,u,rfl,e⟩
   .injection e with e1 _;rw[e1]
   .exact nomatch e
  .rcases eE hb with⟨j,u,rfl,e⟩|⟨y,u,rfl,e⟩
   .exact nomatch e
   .injection e with e1 _;rw[e1]
 byValue:=fun k v h=>by
  rcases eE h with⟨i,t,rfl,rfl⟩|⟨x,t,rfl,rfl⟩<;>rfl
 pyHash:=fun hv h=>by
  rcases eE hv with⟨i,t,rfl,rfl⟩|⟨x,t,rfl,rfl⟩
  .exact wpAny_pyHash_int h
  .exact wpAny_pyHash_str h
 eqBool:=fun hu hv h=>by
  rcases eE hu with⟨i,t,rfl,rfl⟩|⟨x,t,rfl,rfl⟩
  .rcases eE hv with⟨j,u,rfl,rfl⟩|⟨y,u,rfl,rfl⟩
   .rw[OL]at h;exact wpAny_eqBool_int h
   .rw[OM]at h;exact alK i t y u _ _ _ _ h
  .rcases eE hv with⟨j,u,rfl,rfl⟩|⟨y,u,rfl,rfl⟩
   .rw[ON]at h;exact alL x t j u _ _ _ _ h
   .rw[OO]at h;exact wpAny_eqBool_str h
 «strs»:=fun k x t v h=>by
  rcases eE h with⟨i,u,rfl,e⟩|⟨y,u,rfl,e⟩
  .exact nomatch e
  .injection e with e1 _
   subst e1;cases v<;>rfl
theorem lh(prog:afz)(w:af3)(i:Int)(t:Tok):(cO prog w).is (.inl i) (.int i t)=true:=DW i t
theorem yN(prog:afz)(w:af3)(x:Str)(t:Tok):(cO prog w).is (.inr x) (.str x t)=true:=DX x t
inductive V where
 |gw|bl (b:Bool)|int (i:Int)|str (x:Str)|zI (b:Array UInt8)|T1 (b:UInt64)|ref (a:afb)|ty (n:String)
 deriving DecidableEq
def bE:V->afe->Prop
 | .gw,u=>u=ahQ
 | .bl b,u=>u=aj5 b
 | .int i,u=>∃t,u=ahO i t
 | .str x,u=>∃t,u=alx x t
 | .zI b,u=>∃t,u=anG b t
 | .T1 b,u=>∃t,u=anH b t
 | .ref a,u=>u=afZ a
 | .ty n,u=>u=aiP n
abbrev bo:List V->List afe->Prop:=Paired bE
theorem bo.length{xs:List V}{us:List afe}(r:bo xs us):xs.length=us.length:=ako r
theorem bo.get:∀{xs:List V} {us:List afe} {i:Nat} {x:V},bo xs us->xs[i]? =some x->∃u,us[i]? =some u/\bE x u
 |_,_,_,_,.nil,e=>by simp at e
 |_,_,0,_,.cons r _,e=>by simp at e;subst e;exact⟨_,rfl,r⟩
 |_,_,i+1,x,.cons _ t,e=>by
  obtain⟨u,h1,h2⟩:=bo.get (i:=i) (x:=x) t (by simpa using e);exact⟨u,by simpa using h1,h2⟩
theorem bo.set{x:V}{u:afe}(r:bE x u):∀{xs:List V} {us:List afe} (i:Nat),bo xs us->bo (xs.set i x) (us.set i u)
 |_,_,_,.nil=> .nil
 |_,_,0,.cons _ t=> .cons r t
 |_,_,i+1,.cons q t=> .cons q (bo.set r i t)
theorem bo.append:∀{xs ys:List V} {us ws:List afe},bo xs us->bo ys ws->bo (xs++ys) (us++ws)
 |_,_,_,_,.nil,s=>s
 |_,_,_,_,.cons r t,s=> .cons r (bo.append t s)
theorem bo.take:∀{xs:List V} {us:List afe} (n:Nat),bo xs us->bo (xs.take n) (us.take n)
 |_,_,0,_=> .nil
 |_,_,_+1,.nil=> .nil
 |_,_,n+1,.cons r t=> .cons r (bo.take n t)
theorem bo.drop:∀{xs:List V} {us:List afe} (n:Nat),bo xs us->bo (xs.drop n) (us.drop n)
 |_,_,0,r=>r
 |_,_,_+1,.nil=> .nil
 |_,_,n+1,.cons _ t=>bo.drop n t
theorem bo.wQ:∀{xs:List V} {us:List afe} {i:Nat},bo xs us->xs[i]? =none->us[i]? =none:=fun{xs us i} r e=>by
 have h1:=r.length;have h2:xs.length<=i:=akc.mp e;exact akc.mpr (by omega)
def jy:Option V->Option afe->Prop
 |some v,some u=>bE v u
 |none,none=>True
 |_,_=>False
def KV{κ:Type}:List (κ×V)->List (κ×afe)->Prop:=Paired fun(p:κ×V) (q:κ×afe)=>p.1=q.1/\bE p.2 q.2
def kV:br->V
 | .inl i=> .int i
 | .inr x=> .str x
inductive HO where
 |ba (xs:List V)
 |dY (xs:List V)
 |dK (aQ:List (br×V))|dT (aQ:List (List br×V))
 |set (S:Int->Bool) (n:Nat)
 |ins (C dx:afb) (fs:List (Str×V))
 |own (x:afb)
 |xd (fs:List (Str×V))
 |Xc (f x:afb)
 |XD (lo hi:Int)
 |uh (o:Obj) (u:HO)
 |P4 (ps:Array afe)
 |ext (φ:age->Prop)
abbrev Hp:=afb->Option HO
def aE(H:Hp)(a:afb)(o:HO):Hp:=fun b=>if b=a then some o else H b
theorem aj{o:HO}:aE H a o a=some o:=by unfold aE;rw[afh rfl]
theorem ao{o:HO}(h:b≠a):aE H a o b=H b:=by unfold aE;rw[afc h]
theorem Nz{o u:HO}(h:H a=some o)(h':H b=some u)(d:o≠u):a≠b:=by
 intro e;subst e;rw[h]at h';exact d (aft h')
theorem ak{o:HO}(h:H a=some o)(h':H b=none):a≠b:=by
 intro e;subst e;rw[h]at h';cases h'
section
variable(P:afz)(w:af3)
def eP(H:Hp)(h:age)(a:afb):HO->Prop
 | .ba xs=>xs.length<=sizeLine/\∃(aR:List afe) (n:Nat),bo xs aR/\h.get? a=some {cls:= .type "list",data:= .seq aR.toArray n}
 | .dY xs=>xs.length<=sizeLine/\∃aR:List afe,bo xs aR/\IsTup h a aR.toArray
 | .dK aQ=>aQ.length<=sizeLine/\(a==sysModules)=false/\∃vs,KV aQ vs/\h.DictOf (cO P w) a vs
 | .dT aQ=>aQ.length<=sizeLine/\(a==sysModules)=false/\∃xs:List (List br×afb×afe),
   Paired (fun(p:List br×V) (q:List br×afb×afe)=>p.1=q.1/\H q.2.1=some (.dY (p.1.map kV))/\bE p.2 q.2.2) aQ xs/\
   ∃o es ep,h.get? a=some o/\o.ExactDict/\o.data= .dict es ep/\es.toList=xs.map (entryOfKey (tupleKind (cO P w)))/\(xs.map (·.1)).Nodup
 | .set S n=>h.SetOf (intKind P w) a S n
 | .ins C dx fs=>H dx=some (.own a)/\fs.length<=1000/\dx≠a/\h.get? a=some (ahE C dx)/\
   ∃mA,h.Ns1 dx mA/\(∀f,jy (fs.lookup f) (mA f))/\alY mA (fs.map (·.1))
 | .own _=>∃o,h.get? a=some o
 | .xd fs=>∃mA,h.Ns1 a mA/\∀f,jy (fs.lookup f) (mA f)
 | .XD lo hi=>∃t u v,h.get? a=some {cls:= .type "range",data:= .fields #[.int lo t,.int hi u,.int 1 v]}
 | .uh o u=>h.get? a=some o/\eP H h a u
 | .P4 ps=>h.get? a=some {cls:= .none,data:= .fields ps}
 | .Xc f x=>h.get? a=some (aki (.ref f) (.ref x))
 | .ext φ=>φ h/\(∃o,h.get? a=some o)/\∀h1 h2:age,φ h1->(∀o,h1.get? a=some o->h2.get? a=some o)->φ h2
def kE(H:Hp)(h:age):Prop:=∀a o,H a=some o->eP P w H h a o
end
section
variable{o:HO}
theorem eP.lt(x:eP P w H h a o):a<h.objs.size:=by
 cases o with
 |ba xs=>obtain⟨_,_,_,_,e⟩:=x;exact afT e
 |dY xs=>obtain⟨_,_,_,p⟩:=x;exact p.lt
 |dK aQ=>obtain⟨_,_,_,_,o,_,_,e,_⟩:=x;exact afT e
 |dT aQ=>obtain⟨_,_,_,_,o,_,_,e,_⟩:=x;exact afT e
 |set S n=>obtain⟨o,_,_,_,e,_⟩:=x;exact afT e
 |ins C dx fs=>obtain⟨_,_,_,e,_⟩:=x;exact afT e
 |own y=>obtain⟨_,e⟩:=x;exact afT e
 |xd fs=>obtain⟨_,⟨_,_,_,e,_⟩,_⟩:=x;exact afT e
 |XD lo hi=>obtain⟨_,_,_,e⟩:=x;exact afT e
 |uh ob u=>obtain⟨e,_⟩:=x;exact afT e
 |P4 ps=>exact afT (show h.get? a=some _ from x)
 |Xc f y=>exact afT (show h.get? a=some _ from x)
 |ext φ=>obtain⟨_,⟨_,e⟩,_⟩:=x;exact afT e
theorem Paired.OW{α β:Type}{F G:α->β->Prop}:∀{l₁:List α} {l₂:List β},Paired F l₁ l₂->(∀a b,F a b->G a b)->Paired G l₁ l₂
 |_,_,.nil,_=> .nil
 |_,_,.cons r t,f=> .cons (f _ _ r) (Paired.OW t f)
theorem eP.A3(x:eP P w H h a o)(k:∀b u,(b=a\/H b=some (.own a))->h.get? b=some u->h'.get? b=some u)
  (ho:∀b,H b=some (.own a)->H' b=some (.own a)) (ht:∀b xs,H b=some (.dY xs)->H' b=some (.dY xs)):eP P w H' h' a o:=by
 induction o with
 |ba xs=>obtain⟨z,aR,n,r,e⟩:=x;exact⟨z,aR,n,r,k _ _ (.inl rfl) e⟩
 |dY xs=>obtain⟨z,aR,r,ob,e,c⟩:=x;exact⟨z,aR,r,ob,k _ _ (.inl rfl) e,c⟩
 |dK aQ=>obtain⟨z,y,vs,r,ob,es,ep,e,c⟩:=x;exact⟨z,y,vs,r,ob,es,ep,k _ _ (.inl rfl) e,c⟩
 |dT aQ=>
  obtain⟨z,y,xs,r,ob,es,ep,e,c⟩:=x;exact⟨z,y,xs,Paired.OW r fun p q z=>⟨z.1,ht _ _ z.2.1,z.2.2⟩,ob,es,ep,k _ _ (.inl rfl) e,c⟩
 |set S n=>obtain⟨ob,es,ep,t,e,c⟩:=x;exact⟨ob,es,ep,t,k _ _ (.inl rfl) e,c⟩
 |ins C dx fs=>
  obtain⟨d,z,ne,e,mA,⟨od,es,ep,e2,c⟩,r⟩:=x;exact⟨ho _ d,z,ne,k _ _ (.inl rfl) e,mA,⟨od,es,ep,k _ _ (.inr d) e2,c⟩,r⟩
 |own y=>obtain⟨ob,e⟩:=x;exact⟨ob,k _ _ (.inl rfl) e⟩
 |xd fs=>obtain⟨mA,⟨od,es,ep,e,c⟩,r⟩:=x;exact⟨mA,⟨od,es,ep,k _ _ (.inl rfl) e,c⟩,r⟩
 |XD lo hi=>obtain⟨t,u,v,e⟩:=x;exact⟨t,u,v,k _ _ (.inl rfl) e⟩
 |uh ob u ih=>obtain⟨e,q⟩:=x;exact⟨k _ _ (.inl rfl) e,ih q⟩
 |P4 ps=>
  have e:h.get? a=some {cls:= .none,data:= .fields ps}:=x;show h'.get? a=some {cls:= .none,data:= .fields ps};exact k a _ (.inl rfl) e
 |Xc f y=>
  have e:h.get? a=some (aki (.ref f) (.ref y)):=x;show h'.get? a=some (aki (.ref f) (.ref y));exact k a _ (.inl rfl) e
 |ext φ=>obtain⟨p,⟨o,e⟩,st⟩:=x;exact⟨st _ _ p fun o q=>k _ _ (.inl rfl) q,⟨o,k _ _ (.inl rfl) e⟩,st⟩
theorem kE.lt(x:kE P w H h)(e:H a=some o):a<h.objs.size:=(x a o e).lt
theorem kE.fresh(x:kE P w H h)(e:h.objs.size<=a):H a=none:=by
 cases q:H a with
 |none=>rfl
 |some u=>exact absurd (agi (x.lt q) e) (ahn _)
theorem kE.kept(x:kE P w H h)(k:∀b u,h.get? b=some u->h'.get? b=some u):kE P w H h':=fun a o e=>
 (x a o e).A3 (fun b u _ q=>k b u q) (fun _ q=>q) fun _ _ q=>q
theorem kE.ml(x:kE P w H h)(k:∀b u,h.get? b=some u->h'.get? b=some u)(hp:h.objs.size<=a)(new:eP P w (aE H a o) h' a o):kE P w (aE H a o) h':=fun b u e=>by
 have hn:=x.fresh hp;by_cases hb:b=a
 .subst hb;rw[aj]at e;cases e;exact new
 .rw[ao hb]at e;exact(x b u e).A3 (fun c v _ q=>k c v q) (fun c q=>by rw[ao (ak q hn)];exact q) fun c xs q=>by rw[ao (ak q hn)];exact q
end
def Rd(H:Hp)(a:afb)(u:HO):Prop:=H a=some u\/∃o,H a=some (.uh o u)
theorem Rd.ok{u:HO}(r:Rd H a u)(x:kE P w H h):eP P w H h a u:=by
 rcases r with r|⟨o,r⟩
 .exact x a u r
 .obtain⟨_,q⟩:=x a _ r;exact q
def QN:Option HO->Prop
 |some (.ba _)=>True
 |some (.dK _)=>True
 |some (.dT _)=>True
 |some (.set _ _)=>True
 |some (.ins _ _ _)=>True
 |some (.ext _)=>True
 |_=>False
section
variable{x e:afb}{o':HO}
theorem kE.pk(ok:kE P w H h)(mu:QN (H x))(he:e=x\/H e=some (.own x))(k:∀b u,b≠e->h.get? b=some u->h'.get? b=some u)(Qs:∃u,h'.get? e=some u)
  (new:eP P w (aE H x o') h' x o'):kE P w (aE H x o') h':=fun b u q=>by
 have Sz:∀c y,H c=some (.own y)->c≠x:=fun c y r z=>by subst z;rw[r]at mu;exact mu
 have Xr:∀c xs,H c=some (.dY xs)->c≠x:=fun c xs r z=>by subst z;rw[r]at mu;exact mu
 by_cases hb:b=x
 .subst hb;rw[aj]at q;cases q;exact new
 .rw[ao hb]at q;by_cases Ow:b=e
  .have q':H b=some (.own x):=by
    rcases he with z|z
    .exact absurd (Ow.trans z) hb
    .rw[Ow];exact z
   rw[q]at q';cases q';obtain⟨v,hv⟩:=Qs;exact⟨v,by rw[Ow];exact hv⟩
  .refine(ok b u q).A3 (fun c v hc r=>k c v ?_ r) (fun c r=>by rw[ao (Sz c b r)];exact r) fun c xs r=>by rw[ao (Xr c xs r)];exact r
   rcases hc with rfl|hc
   .exact Ow
   .rintro rfl;rcases he with z|z
    .exact Sz c b hc z
    .rw[hc]at z;cases z;exact hb rfl
end
structure Un(fs ex:List afb)(H H':Hp)(h h':age):Prop where
 keep:∀b o,h.get? b=some o->H b=none->b∉fs->b∉ex->h'.get? b=some o
 slot:∀b o,h.get? b=some o->H b=none->b∈fs->b∉ex->∃sl,h'.get? b=some {o with slots:=sl}
 free:∀b o,h.get? b=some o->H b=none->b∉ex->H' b=none
 there:∀b o,h.get? b=some o->b∉ex->∃o',h'.get? b=some o'
 tups:∀b xs,H b=some (.dY xs)->H' b=some (.dY xs)
 frzs:∀b o u,H b=some (.uh o u)->H' b=some (.uh o u)
 tbls:∀b ps,H b=some (.P4 ps)->∃more,H' b=some (.P4 (ps++more))
section
variable{fs fs' ex ex':List afb}{H2:Hp}{h1 h2:age}{x e:afb}{o:HO}
theorem Un.any(u:Un fs ex H H1 h h1){ob:Obj}(q:h.get? b=some ob)(n:H b=none)(hx:b∉ex):∃sl,h1.get? b=some {ob with slots:=sl}:=by
 by_cases hb:b∈fs
 .exact u.slot b ob q n hb hx
 .exact⟨ob.slots,u.keep b ob q n hb hx⟩
theorem Un.kept(k:∀b u,h.get? b=some u->h'.get? b=some u):Un fs ex H H h h':=
 ⟨fun b ob q _ _ _=>k b ob q,fun b ob q _ _ _=>⟨ob.slots,k b ob q⟩,fun _ _ _ n _=>n,fun b ob q _=>⟨ob,k b ob q⟩,fun _ _ q=>q,fun _ _ _ q=>q,fun _ ps q=>⟨#[],by rw[q];simp⟩⟩
theorem Un.refl:Un fs ex H H h h:=Un.kept fun _ _ q=>q
theorem Un.ml(k:∀b u,h.get? b=some u->h'.get? b=some u)(hp:h.objs.size<=a)(hn:H a=none):Un fs ex H (aE H a o) h h' where
 keep:=fun b u q _ _ _=>k b u q
 slot:=fun b u q _ _ _=>⟨u.slots,k b u q⟩
 free:=fun b u q n _=>by rw[ao (agw (agi (afT q) hp))];exact n
 there:=fun b u q _=>⟨u,k b u q⟩
 tups:=fun b xs q=>by rw[ao (ak q hn)];exact q
 frzs:=fun b u xs q=>by rw[ao (ak q hn)];exact q
 tbls:=fun b ps q=>⟨#[],by rw[ao (ak q hn),q];simp⟩
theorem Un.pk(mu:QN (H x))(he:e=x\/H e=some (.own x))(k:∀b u,b≠e->h.get? b=some u->h'.get? b=some u)(Qs:∃u,h'.get? e=some u):Un fs ex H (aE H x o) h h':=by
 have hx:∀b,H b=none->b≠x:=fun b n z=>by subst z;rw[n]at mu;exact mu
 have hb:∀b,H b=none->b≠e:=fun b n z=>by
  subst z;rcases he with r|r
  .exact hx b n r
  .rw[n]at r;cases r
 have hm:∀b u,H b=some u->¬QN (some u)->b≠x:=fun b u q nm z=>by subst z;rw[q]at mu;exact nm mu
 refine⟨fun b u q n _ _=>k b u (hb b n) q,fun b u q n _ _=>⟨u.slots,k b u (hb b n) q⟩,fun b u q n _=>by rw[ao (hx b n)];exact n,fun b u q _=> ?_,
  fun b xs q=>by rw[ao (hm b _ q fun z=>z)];exact q,fun b u xs q=>by rw[ao (hm b _ q fun z=>z)];exact q,fun b ps q=>⟨#[],by rw[ao (hm b _ q fun z=>z),q];simp⟩⟩
 by_cases Ow:b=e
 .subst Ow;exact Qs
 .exact⟨u,k b u Ow q⟩
end
def UK(h:age)(H:Hp):List afb:=(aiQ h.objs.size).filter fun a=>(H a).isSome
def wu(h:age)(H:Hp):age:=PySem.W.hideAll h (UK h H)
theorem DP(h:age)(H:Hp):(wu h H).objs.size=h.objs.size:=PySem.W.hideAll_size _ _
theorem GH{o:Obj}(e:h.get? b=some o)(n:H b=none):(wu h H).get? b=some o:=
 PySem.W.hideAll_get _ e fun hm=>by
  have q:(H b).isSome=true:=(afM.mp hm).2;rw[n]at q;simp at q
theorem KR{o:Obj}(e:(wu h H).get? b=some o):h.get? b=some o/\H b=none:=by
 have e':h.get? b=some o:=PySem.W.of_hideAll (UK h H) e;refine⟨e',?_⟩;cases q:H b with
 |none=>rfl
 |some x=>
  have hm:b∈UK h H:=afM.mpr ⟨aiv.mpr (afT e'),by simp[q]⟩;have z:(wu h H).get? b=none:=PySem.W.hideAll_none (UK h H) hm;rw[z]at e;cases e
structure Mod(K:afU)(mg:Str->Option afe)(base:age):Prop where
 Sn:K.In base
 wj:base.Ns mainGlobals mg
 Qi:∃mb,base.Ns builtinsNs mb/\∀x:Str,x≠"__name__"->mb x=bootBuiltins x
 nolimit:base.NoLimit
structure Cx where
 prog:afz
 w:af3
 K:afU
 mg:Str->Option afe
 base:age
 A:ahD
 N:List Str
 s_0:afA
 H_0:Hp
 env:Env
 outer:List Env
 stack:List Env
 ex:List afb
 fn:Str->Bool
 calm:Bool
 pn:List (afb×Obj)
 xe:afe->afA->Prop
def GB(l:List Env):List afb:=l.filterMap (·.frame)
abbrev Cx.fs(X:Cx):List afb:=GB X.outer
def Qg(sc:ahM)(x:Str):Prop:=sc.names.lookup x=some .local\/sc.names.lookup x=some .cell\/sc.names.lookup x=some .free
def NX(sc:ahM)(x:Str):Prop:=sc.names.lookup x=some .local\/sc.names.lookup x=some .cell
def UO(env:Env)(h:age)(m:Str->Option afe)(x:Str)(u:afe):Prop:=
 (env.kindOf x=some .local/\m x=some u)\/((env.kindOf x=some .cell\/env.kindOf x=some .free)/\∃c,env.cells.lookup x=some c/\h.IsCell c (some u))
structure Cx.Ok(X:Cx):Prop where
 wJ:Mod X.K X.mg X.base
 kind:X.env.scope.kind= .function
 wj:X.env.globals=mainGlobals
 Qi:X.env.builtins=builtinsNs
 above:X.s_0.heap.objs.size<=X.env.locals
 inj:∀x y c,X.env.cells.lookup x=some c->X.env.cells.lookup y=some c->x=y
 has:∀x,(X.env.kindOf x=some .cell\/X.env.kindOf x=some .free)->∃c,X.env.cells.lookup x=some c
 Q3:∀x c,X.fn x=true->X.env.cells.lookup x=some c->X.s_0.heap.objs.size<=c
 hd:X.calm=true->X.A.handled=none
 frames:X.A.frames=some X.stack
 UE:X.stack=X.outer\/(X.stack=X.env::X.outer/\X.env.frame=some X.env.locals)
 TZ:∀b∈X.ex,b≠X.env.locals/\∀x c,X.env.cells.lookup x=some c->c≠b
 bs:∀b o,X.base.get? b=some o->X.s_0.heap.get? b=some o/\X.H_0 b=none
 Ju:X.base.objs.size<=X.s_0.heap.objs.size
 Hg:∀b o,X.base.get? b=some o->b∉X.ex
 Gv:∀b∈X.ex,b∉X.fs
 qC:X.s_0.heap.FunFrames X.base X.outer
 Om:∀b∈X.fs,X.H_0 b=none
structure bb(X:Cx)(pins:List (afb×Obj))(σ:List (Option V))(H:Hp)(s:afA):Prop where
 ok:X.Ok
 os:s.os=X.s_0.os
 bare:aly s.gens
 base:Un X.fs X.ex X.H_0 H X.s_0.heap s.heap
 loc:∃m,s.heap.Ns X.env.locals m/\∀(i:Nat) (x:Str) (v:V),X.N[i]? =some x->σ[i]? =some (some v)->Qg X.env.scope x->∃u,bE v u/\UO X.env s.heap m x u
 cell:∀x c,X.env.cells.lookup x=some c->∃v,s.heap.IsCell c v
 free:H X.env.locals=none
 kP:∀x c,X.env.cells.lookup x=some c->H c=none
 EN:∀p∈X.pn++pins,s.heap.get? p.1=some p.2/\H p.1=none/\p.1≠X.env.locals/\p.1∉X.fs/\∀v,p.2.data≠ .cell v
 dc:kE X.prog X.w H s.heap
 len:σ.length=X.N.length
section
variable{σ:List (Option V)}
theorem Cx.Ok.Xn(ok:X.Ok){o:Obj}(e:X.base.get? b=some o):b∉X.fs:=fun hb=>by
 have:=(ok.qC.mem hb).1;rw[e]at this;cases this
theorem bb.bs(I:bb X pins σ H s):∀b o,X.base.get? b=some o->s.heap.get? b=some o/\H b=none:=fun b o e=>
 ⟨I.base.keep b o (I.ok.bs b o e).1 (I.ok.bs b o e).2 (I.ok.Xn e) (I.ok.Hg b o e),I.base.free b o (I.ok.bs b o e).1 (I.ok.bs b o e).2 (I.ok.Hg b o e)⟩
theorem bb.bk(I:bb X pins σ H s):∀b o,X.base.get? b=some o->s.heap.get? b=some o:=fun b o e=>(I.bs b o e).1
theorem bb.wJ(I:bb X pins σ H s):Mod X.K X.mg X.base:=I.ok.wJ
theorem bb.u5(I:bb X pins σ H s):X.K.In s.heap:=I.ok.wJ.Sn.keeps I.bk
theorem bb.fr(I:bb X pins σ H s):∃m,Fr X.base X.env.locals s.heap m:=
 let⟨m,hn,_⟩:=I.loc
 ⟨m,hn,I.bk,afu I.ok.Ju I.ok.above⟩
theorem bb.lt(I:bb X pins σ H s):X.env.locals<s.heap.objs.size:=let⟨_,hn,_⟩:=I.loc;hn.lt
theorem bb.sz(I:bb X pins σ H s):X.s_0.heap.objs.size<=s.heap.objs.size:=afu I.ok.above (agC I.lt)
theorem bb.Xo(I:bb X pins σ H s)(h:s.heap.objs.size<=a):a∉X.fs:=fun hb=>by
 obtain⟨_,o,ho,_⟩:=I.ok.qC.mem hb;exact absurd (agi (afT ho) (afu I.sz h)) (ahn _)
theorem bb.Ob(I:bb X pins σ H s):∀x c,X.env.cells.lookup x=some c->c≠X.env.locals:=fun x c e z=>by
 obtain⟨v,o,ho,hd⟩:=I.cell x c e;obtain⟨m,⟨o',es,ep,Cc,RS,_⟩,_⟩:=I.loc;rw[z,Cc]at ho;cases ho;rw[RS]at hd;cases hd
theorem bb.qC(I:bb X pins σ H s):s.heap.FunFrames X.base X.outer:=by
 have all:∀(l:List Env),(∀b∈GB l,b∈X.fs)->X.s_0.heap.FunFrames X.base l->s.heap.FunFrames X.base l:=by
  intro l
  induction l with
  |nil=>intro _ _;trivial
  |cons env r ih=>
   intro hs hl;obtain⟨hk,⟨L,o,hf,hn,ho,hd⟩,hr⟩:=hl;have hL:L∈X.fs:=hs L (by unfold GB;rw[aiG,hf];exact af2);obtain⟨sl,e⟩:=I.base.slot L o ho (I.ok.Om L hL) hL fun z=>I.ok.Gv L z hL
   exact⟨hk,⟨L,_,hf,hn,e,hd⟩,ih (fun b hb=>hs b (by unfold GB;rw[aiG,hf];exact afs _ hb)) hr⟩
 exact all X.outer (fun _ hb=>hb) I.ok.qC
theorem bb.stack(I:bb X pins σ H s):s.heap.FunFrames X.base X.stack:=by
 rcases I.ok.UE with e|⟨e,hf⟩
 .rw[e];exact I.qC
 .rw[e];obtain⟨m,hn,_⟩:=I.loc;refine .cons (by rw[I.ok.kind];decide) hf hn ?_ I.qC;exact Heap.get?_none_of_le (afu I.ok.Ju I.ok.above)
theorem bb.A8(I:bb X pins σ H s):∀b∈GB X.stack,b∈X.env.locals::X.fs:=fun b hb=>by
 rcases I.ok.UE with e|⟨e,hf⟩
 .rw[e]at hb;exact afs _ hb
 .rw[e]at hb;unfold GB at hb;rw[aiG,hf]at hb;exact hb
theorem bb.Dc(I:bb X pins σ H s):∀b∈GB X.stack,H b=none:=fun b hb=>by
 rcases afv.mp (I.A8 b hb)with e|hb
 .rw[e];exact I.free
 .obtain⟨_,o,ho,_⟩:=I.ok.qC.mem hb;exact I.base.free b o ho (I.ok.Om b hb) fun z=>I.ok.Gv b z hb
theorem bb.step{g':Array GenState}{d':Drawn}(I:bb X pins σ H s)
  (JC:∀b∈ch,(b∈X.ex\/X.s_0.heap.objs.size<=b)/\b≠X.env.locals/\(∀x c,X.env.cells.lookup x=some c->c≠b)/\∀p∈X.pn++pins,p.1≠b)
  (keep:∀b o,b≠X.env.locals->b∉X.fs->b∉ch->s.heap.get? b=some o->H b=none->h'.get? b=some o)
  (slot:∀b o,b≠X.env.locals->b∈X.fs->b∉ch->s.heap.get? b=some o->H b=none->∃sl,h'.get? b=some {o with slots:=sl}) (free:∀b o,b∉ch->s.heap.get? b=some o->H b=none->H' b=none)
  (there:∀b o,b∉ch->s.heap.get? b=some o->∃o',h'.get? b=some o')
  (tups:∀b xs,H b=some (.dY xs)->H' b=some (.dY xs)) (frzs:∀b o u,H b=some (.uh o u)->H' b=some (.uh o u)) (tbls:∀b ps,H b=some (.P4 ps)->∃more,H' b=some (.P4 (ps++more)))
  (ns:∀m,s.heap.Ns X.env.locals m->h'.Ns X.env.locals m) (dc:kE X.prog X.w H' h') (hg:aly g'):
  bb X pins σ H' {s with heap:=h',gens:=g',drawn:=d',toks:=t'}:=by
 have ZM:∀b o,X.s_0.heap.get? b=some o->b≠X.env.locals:=fun b o e=>agw (agi (afT e) I.ok.above)
 have Uu:∀b o,X.s_0.heap.get? b=some o->b∉X.ex->b∉ch:=fun b o e hx hb=>by
  rcases(JC b hb).1 with z|z
  .exact hx z
  .exact absurd (agi (afT e) z) (ahn _)
 have Mr:∀x c,X.env.cells.lookup x=some c->∀v,s.heap.IsCell c v->h'.IsCell c v:=fun x c e v ⟨o,ho,hd⟩=>by
  have Sx:c∉ch:=fun z=>(JC c z).2.2.1 x c e rfl
  by_cases hc:c∈X.fs
  .obtain⟨sl,q⟩:=slot c o (I.Ob x c e) hc Sx ho (I.kP x c e);exact⟨_,q,hd⟩
  .exact⟨o,keep c o (I.Ob x c e) hc Sx ho (I.kP x c e),hd⟩
 refine⟨I.ok,I.os,hg,⟨fun b o e n hb hx=> ?_,fun b o e n hb hx=> ?_,fun b o e n hx=> ?_,fun b o e hx=> ?_,fun b xs e=>tups b xs (I.base.tups b xs e),fun b o xs e=>frzs b o xs (I.base.frzs b o xs e),fun b ps e=> ?_⟩,?_,fun x c e=> ?_,?_,fun x c e=> ?_,fun p hp=> ?_,dc,I.len⟩
 .exact keep b o (ZM b o e) hb (Uu b o e hx) (I.base.keep b o e n hb hx) (I.base.free b o e n hx)
 .obtain⟨sl,e1⟩:=I.base.slot b o e n hb hx;obtain⟨sl',e2⟩:=slot b _ (ZM b o e) hb (Uu b o e hx) e1 (I.base.free b o e n hx);exact⟨sl',e2⟩
 .obtain⟨o',e1⟩:=I.base.there b o e hx;exact free b o' (Uu b o e hx) e1 (I.base.free b o e n hx)
 .obtain⟨o',e1⟩:=I.base.there b o e hx;exact there b o' (Uu b o e hx) e1
 .obtain⟨m1,e1⟩:=I.base.tbls b ps e;obtain⟨m2,e2⟩:=tbls b _ e1;exact⟨m1++m2,by rw[e2,Array.append_assoc]⟩
 .obtain⟨m,hn,hl⟩:=I.loc;refine⟨m,ns m hn,fun i x v e1 e2 e3=> ?_⟩;obtain⟨u,r,l⟩:=hl i x v e1 e2 e3;refine⟨u,r,?_⟩;rcases l with l|⟨k,c,e,z⟩
  .exact .inl l
  .exact .inr ⟨k,c,e,Mr x c e _ z⟩
 .obtain⟨v,z⟩:=I.cell x c e;exact⟨v,Mr x c e v z⟩
 .obtain⟨m,⟨o,_,_,ho,_⟩,_⟩:=I.loc;exact free _ o (fun z=>(JC _ z).2.1 rfl) ho I.free
 .obtain⟨v,o,ho,hd⟩:=I.cell x c e;exact free c o (fun z=>(JC c z).2.2.1 x c e rfl) ho (I.kP x c e)
 .obtain⟨e,n,ne,nf,d⟩:=I.EN p hp;have Sx:p.1∉ch:=fun z=>(JC p.1 z).2.2.2 p hp rfl
  exact⟨keep p.1 p.2 ne nf Sx e n,free p.1 p.2 Sx e n,ne,nf,d⟩
theorem bb.un(I:bb X pins σ H s)(u:Un X.fs [] H H' s.heap h')(dc:kE X.prog X.w H' h'):bb X pins σ H' {s with heap:=h',toks:=t'}:=by
 obtain⟨m,⟨o,es,ep,ho,r⟩,_⟩:=id I.loc;obtain⟨sl,hL⟩:=u.any ho I.free (by simp);exact I.step (g':=s.gens) (d':=s.drawn) (ch:=[]) (fun _ z=>nomatch z) (fun b o _ hb _ e n=>u.keep b o e n hb (by simp)) (fun b o _ hb _ e n=>u.slot b o e n hb (by simp)) (fun b o _ e n=>u.free b o e n (by simp)) (fun b o _ e=>u.there b o e (by simp)) u.tups u.frzs u.tbls (fun m' hm=>by
  obtain⟨o',VN,VL,Cc,r'⟩:=hm;rw[ho]at Cc;cases Cc;exact⟨_,VN,VL,hL,r'⟩) dc I.bare
theorem bb.call{g':Array GenState}{d':Drawn}(I:bb X pins σ H s)(u:Un (GB X.stack) ch H H' s.heap h')(dc:kE X.prog X.w H' h')(hg:aly g')
  (JC:∀b∈ch,(b∈X.ex\/X.s_0.heap.objs.size<=b)/\b≠X.env.locals/\(∀x c,X.env.cells.lookup x=some c->c≠b)/\∀p∈X.pn++pins,p.1≠b):
  bb X pins σ H' {s with heap:=h',gens:=g',drawn:=d',toks:=t'}:=by
 obtain⟨m,⟨o,es,ep,ho,r⟩,_⟩:=id I.loc;obtain⟨sl,hL⟩:=u.any ho I.free fun z=>(JC _ z).2.1 rfl
 exact I.step (ch:=ch) JC (fun b o hL hb hc e n=>u.keep b o e n (fun z=>(afv.mp (I.A8 b z)).elim hL hb) hc) (fun b o _ _ hc e n=>u.any e n hc) (fun b o hc e n=>u.free b o e n hc) (fun b o hc e=>u.there b o e hc) u.tups u.frzs u.tbls (fun m' hm=>by
  obtain⟨o',VN,VL,Cc,r'⟩:=hm;rw[ho]at Cc;cases Cc;exact⟨_,VN,VL,hL,r'⟩) dc hg
theorem bb.gC(I:bb X pins σ H s)(k:∀b o,b≠it->s.heap.get? b=some o->h'.get? b=some o)(hn:H it=none)(hL:it≠X.env.locals)
  (h1:it∈X.ex\/X.s_0.heap.objs.size<=it) (h2:∀x c,X.env.cells.lookup x=some c->c≠it) (h3:∀p∈X.pn++pins,p.1≠it):bb X pins σ H {s with heap:=h',toks:=t'}:=by
 have NA:∀b u,H b=some u->b≠it:=fun b u e z=>by rw[z,hn]at e;cases e
 refine I.step (g':=s.gens) (d':=s.drawn) (ch:=[it]) (fun b hb=> ?_) (fun b o _ _ hc e _=>k b o (fun z=>hc (by simp[z])) e) (fun b o _ _ hc e _=>⟨o.slots,k b o (fun z=>hc (by simp[z])) e⟩) (fun _ _ _ _ n=>n)
  (fun b o hc e=>⟨o,k b o (fun z=>hc (by simp[z])) e⟩) (fun _ _ e=>e) (fun _ _ _ e=>e) (fun b ps e=>⟨#[],by rw[e];simp⟩) (fun m hm=> ?_) (fun b u e=> ?_) I.bare
 .have e:b=it:=by simpa using hb
  subst e;exact⟨h1,hL,h2,h3⟩
 .obtain⟨o,es,ep,ho,r⟩:=hm;exact⟨o,es,ep,k _ o (agU hL) ho,r⟩
 .refine(I.dc b u e).A3 (fun c v hc q=>k c v ?_ q) (fun _ q=>q) fun _ _ q=>q
  rcases hc with z|z
  .rw[z];exact NA b u e
  .exact NA c _ z
theorem bb.qM(I:bb X pins σ H s)(t:Nat):bb X pins σ H {s with toks:=t}:=I.un (h':=s.heap) (t':=t) Un.refl I.dc
theorem bb.kept{t':Nat}(I:bb X pins σ H s)(k:∀b u,s.heap.get? b=some u->h'.get? b=some u):bb X pins σ H {s with heap:=h',toks:=t'}:=I.un (Un.kept k) (I.dc.kept k)
theorem bb.ml{a:afb}{o:HO}{t':Nat}(I:bb X pins σ H s)(k:∀b u,s.heap.get? b=some u->h'.get? b=some u)(hp:s.heap.objs.size<=a)(new:eP X.prog X.w (aE H a o) h' a o):
  bb X pins σ (aE H a o) {s with heap:=h',toks:=t'}:=I.un (Un.ml k hp (I.dc.fresh hp)) (I.dc.ml k hp new)
theorem bb.pk{x e:afb}{o:HO}{t':Nat}(I:bb X pins σ H s)(mu:QN (H x))(he:e=x\/H e=some (.own x))(k:∀b u,b≠e->s.heap.get? b=some u->h'.get? b=some u)(Qs:∃u,h'.get? e=some u)
  (new:eP X.prog X.w (aE H x o) h' x o):bb X pins σ (aE H x o) {s with heap:=h',toks:=t'}:=I.un (Un.pk mu he k Qs) (I.dc.pk mu he k Qs new)
theorem bb.X1{σ':List (Option V)}(I:bb X pins σ H s)(hl:σ'.length=σ.length)(w:∀(i:Nat) v,σ'[i]? =some (some v)->σ[i]? =some (some v)):bb X pins σ' H s:=
 ⟨I.ok,I.os,I.bare,I.base,let⟨m,hn,uj⟩:=I.loc;⟨m,hn,fun i x v e1 e2 e3=>uj i x v e1 (w i v e2) e3⟩,I.cell,I.free,I.kP,I.EN,I.dc,hl.trans I.len⟩
theorem bb.CD{ND:List (afb×Obj)}(I:bb X pins σ H s)(h:∀p∈ND,s.heap.get? p.1=some p.2/\H p.1=none/\p.1≠X.env.locals/\p.1∉X.fs/\∀v,p.2.data≠ .cell v):bb X ND σ H s:=
 ⟨I.ok,I.os,I.bare,I.base,I.loc,I.cell,I.free,I.kP,fun p hp=>(afL.mp hp).elim (fun z=>I.EN p (afY _ z)) (h p),I.dc,I.len⟩
theorem sA(hN:N.Nodup)(a:N[i]? =some x)(b:N[j]? =some x):i=j:=by
 obtain⟨h1,e1⟩:=afd.mp a;obtain⟨h2,e2⟩:=afd.mp b;exact(ajo hN).mp (e1.trans e2.symm)
theorem vD{v:V}{Q:Unit->afA->Prop}(I:bb X pins σ H s)(hN:X.N.Nodup)(hi:X.N[i]? =some x)(hx:NX X.env.scope x)(r:bE v u)
  (h:∀s',bb X pins (σ.set i (some v)) H s'->(∃a,agk a s.heap s'.heap/\(a=X.env.locals\/X.env.cells.lookup x=some a))->Q () s') (hf:X.fn x=true\/X.env.scope.names.lookup x=some .local:=by first|exact .inl rfl|exact .inr rfl|assumption):wpAny M A (storeName X.env x u) Q E s:=by
 obtain⟨m,hn,hl⟩:=id I.loc;have Wd:(X.env.scope.kind== .class||(X.env.scope.kind== .module&&X.env.locals !=X.env.globals))=false:=by rw[I.ok.kind];rfl
 have Zf:i<σ.length:=by rw[I.len];exact(afd.mp hi).1
 have Ob:=I.Ob;have gd:∀{a:afb} {h':age},(∃o,s.heap.get? a=some o/\H a=none)->agk a s.heap h'->kE X.prog X.w H h':=fun{a h'} ha hs b ob e=>by
  obtain⟨_,_,uV⟩:=ha;refine(I.dc b ob e).A3 (fun c w' hc q=>(hs.2 c ?_).trans q) (fun _ q=>q) fun _ _ q=>q
  rintro rfl;rcases hc with rfl|hc
  .rw[uV]at e;cases e
  .rw[uV]at hc;cases hc
 rcases hx with hk|hk
 .refine wpAny_storeName_local hk hn (fun h' Uh hs=> ?_) Wd;obtain⟨oL,_,_,hoL,_⟩:=id hn;refine h _ ⟨I.ok,I.os,I.bare,⟨fun b o e n hb hx=> ?_,fun b o e n hb hx=> ?_,I.base.free,fun b o e hx=> ?_,I.base.tups,I.base.frzs,I.base.tbls⟩,⟨_,Uh,fun j y v' e1 e2 e3=> ?_⟩,fun y c e=> ?_,I.free,I.kP,fun p hp=> ?_,gd ⟨oL,hoL,I.free⟩ hs,by simpa using I.len⟩ ⟨_,hs,.inl rfl⟩
  .exact(hs.2 b (agw (agi (afT e) I.ok.above))).trans (I.base.keep b o e n hb hx)
  .obtain⟨sl,e1⟩:=I.base.slot b o e n hb hx;exact⟨sl,(hs.2 b (agw (agi (afT e) I.ok.above))).trans e1⟩
  .obtain⟨o',e1⟩:=I.base.there b o e hx;exact⟨o',(hs.2 b (agw (agi (afT e) I.ok.above))).trans e1⟩
  .by_cases hj:j=i
   .subst hj;rw[hi]at e1;cases e1;rw[ai2 Zf]at e2;cases e2;exact⟨u,r,.inl ⟨hk,by simp⟩⟩
   .rw[ajB (agU hj)]at e2;obtain⟨u',r',q⟩:=hl j y v' e1 e2 e3;refine⟨u',r',?_⟩;rcases q with⟨k,e⟩|⟨k,c,e,z⟩
    .refine .inl ⟨k,?_⟩;have:y≠x:=fun e=>hj (sA hN e1 (e▸hi))
     simp[this,e]
    .exact .inr ⟨k,c,e,z.sameBut hs (Ob y c e)⟩
  .obtain⟨w',z⟩:=I.cell y c e;exact⟨w',z.sameBut hs (Ob y c e)⟩
  .obtain⟨e,n,ne,nf,d⟩:=I.EN p hp;exact⟨(hs.2 p.1 ne).trans e,n,ne,nf,d⟩
 .have Wl:X.fn x=true:=by
   rcases hf with z|z
   .exact z
   .rw[z]at hk;cases hk
  obtain⟨c,hc⟩:=I.ok.has x (.inl hk);obtain⟨w',z⟩:=I.cell x c hc;refine wpAny_storeName_cell I.ok.kind hk hc z (fun h' ow hs=> ?_);obtain⟨oc,Zm,WG⟩:=id z;refine h {s with heap:=h'} ⟨I.ok,I.os,I.bare,⟨fun b o e n hb hx=> ?_,fun b o e n hb hx=> ?_,I.base.free,fun b o e hx=> ?_,I.base.tups,I.base.frzs,I.base.tbls⟩,⟨m,hn.sameBut hs (agU (Ob x c hc)),fun j y v' e1 e2 e3=> ?_⟩,fun y c' e=> ?_,I.free,I.kP,fun p hp=> ?_,gd ⟨oc,Zm,I.kP x c hc⟩ hs,by simpa using I.len⟩ ⟨c,hs,.inr hc⟩
  .exact(hs.2 b (agw (agi (afT e) (I.ok.Q3 x c Wl hc)))).trans (I.base.keep b o e n hb hx)
  .obtain⟨sl,e1⟩:=I.base.slot b o e n hb hx;exact⟨sl,(hs.2 b (agw (agi (afT e) (I.ok.Q3 x c Wl hc)))).trans e1⟩
  .obtain⟨o',e1⟩:=I.base.there b o e hx;exact⟨o',(hs.2 b (agw (agi (afT e) (I.ok.Q3 x c Wl hc)))).trans e1⟩
  .by_cases hj:j=i
   .subst hj;rw[hi]at e1;cases e1;rw[ai2 Zf]at e2;cases e2;exact⟨u,r,.inr ⟨.inl hk,c,hc,ow⟩⟩
   .rw[ajB (agU hj)]at e2;obtain⟨u',r',q⟩:=hl j y v' e1 e2 e3;refine⟨u',r',?_⟩;rcases q with q|⟨k,c',e,z'⟩
    .exact .inl q
    .refine .inr ⟨k,c',e,z'.sameBut hs ?_⟩;rintro rfl;exact hj (sA hN e1 (I.ok.inj _ _ _ e hc▸hi))
  .by_cases Y1:c'=c
   .subst Y1;exact⟨_,ow⟩
   .obtain⟨w2,z2⟩:=I.cell y c' e;exact⟨w2,z2.sameBut hs Y1⟩
  .obtain⟨e,n,ne,nf,d⟩:=I.EN p hp;refine⟨(hs.2 p.1 ?_).trans e,n,ne,nf,d⟩;intro q;rw[q,Zm]at e;have q':oc=p.2:=aft e;exact d w' (by rw[<-q'];exact WG)
theorem tP{v:V}{Q:Unit->afA->Prop}(I:bb X pins σ H s)(hN:X.N.Nodup)(hi:X.N[i]? =some x)(hx:NX X.env.scope x)(r:bE v u)
  (h:∀s',bb X pins (σ.set i (some v)) H s'->Q () s') (hf:X.fn x=true\/X.env.scope.names.lookup x=some .local:=by first|exact .inl rfl|exact .inr rfl|assumption):wpAny M A (storeName X.env x u) Q E s:=
 vD I hN hi hx r (fun s' I' _=>h s' I') hf
theorem bb.Q4(I:bb X pins σ H s)(ho:s'.os=s.os)(u:Un (GB X.stack) ch H H' s.heap s'.heap)(dc:kE X.prog X.w H' s'.heap)(hg:aly s'.gens)
  (JC:∀b∈ch,(b∈X.ex\/X.s_0.heap.objs.size<=b)/\b≠X.env.locals/\(∀x c,X.env.cells.lookup x=some c->c≠b)/\∀p∈X.pn++pins,p.1≠b):bb X pins σ H' s':=by
 obtain⟨h',g',d',t',o'⟩:=s';have e:o'=s.os:=ho;subst e;exact I.call (g':=g') (t':=t') (d':=d') u dc hg JC
end
abbrev XK:=afe->Option afb->Hp->Prop
abbrev St:=List (Option V)
abbrev VK:=V->Hp->Prop
abbrev TE:=St->Hp->VK->Prop
abbrev TT:=St->Hp->(Bool->Hp->Prop)->Prop
abbrev TA:=St->Hp->(List V->Hp->Prop)->Prop
structure iD where
 nx:St->Hp->Prop
 rt:VK
 bk:St->Hp->Prop:=fun _ _=>False
 ct:St->Hp->Prop:=fun _ _=>False
abbrev TS:=iD->St->Hp->Prop
def EP(X:Cx)(pins:List (afb×Obj))(σ:St)(Q:VK)(u:afe)(s':afA):Prop:=∃v H',bb X pins σ H' s'/\bE v u/\Q v H'
def TP(X:Cx)(pins:List (afb×Obj))(σ:St)(Q:Bool->Hp->Prop)(b:Bool)(s':afA):Prop:=∃H',bb X pins σ H' s'/\Q b H'
def AP(X:Cx)(pins:List (afb×Obj))(σ:St)(Q:List V->Hp->Prop)(us:List afe)(s':afA):Prop:=∃vs H',bb X pins σ H' s'/\bo vs us/\Q vs H'
def SP(X:Cx)(pins:List (afb×Obj))(D:iD)(f:Flow)(s':afA):Prop:=
 match f with
 | .next=>∃σ' H',bb X pins σ' H' s'/\D.nx σ' H'
 | .brk=>∃σ' H',bb X pins σ' H' s'/\D.bk σ' H'
 | .cont=>∃σ' H',bb X pins σ' H' s'/\D.ct σ' H'
 | .ret u=>∃v σ' H',bb X pins σ' H' s'/\bE v u/\D.rt v H'
def PE(X:Cx)(e:agP)(t:TE):Prop:=
 ∀(pins:List (afb×Obj)) (s:afA) (σ:St) (H:Hp) (Q:VK),bb X pins σ H s->t σ H Q->wpAny (model X.prog X.w) X.A (eval e X.env) (EP X pins σ Q) X.xe s
def PT(X:Cx)(e:agP)(t:TT):Prop:=
 ∀(pins:List (afb×Obj)) (s:afA) (σ:St) (H:Hp) (Q:Bool->Hp->Prop),bb X pins σ H s->t σ H Q->wpAny (model X.prog X.w) X.A (isTrue e X.env (eval e X.env)) (TP X pins σ Q) X.xe s
def PW(X:Cx)(e:agP)(t:TT):Prop:=
 ∀(whole:Sem afe) (pins:List (afb×Obj)) (s:afA) (σ:St) (H:Hp) (Q:Bool->Hp->Prop),bb X pins σ H s->t σ H Q->wpAny (model X.prog X.w) X.A (isTrue e X.env whole) (TP X pins σ Q) X.xe s
theorem PW.pt{t:TT}(h:PW X e t):PT X e t:=h _
def PA(X:Cx)(es:List agP)(t:TA):Prop:=
 ∀(pos:Pos) (pins:List (afb×Obj)) (s:afA) (σ:St) (H:Hp) (Q:List V->Hp->Prop),bb X pins σ H s->t σ H Q->wpAny (model X.prog X.w) X.A (spliced (backTo pos (starEach es X.env))) (AP X pins σ Q) X.xe s
def PS(X:Cx)(st:afP)(t:TS):Prop:=
 ∀(pins:List (afb×Obj)) (s:afA) (σ:St) (H:Hp) (D:iD),bb X pins σ H s->t D σ H->wpAny (model X.prog X.w) X.A (exec st X.env) (SP X pins D) X.xe s
def Bg(X:Cx)(st:List afP)(t:TS):Prop:=
 ∀(pins:List (afb×Obj)) (s:afA) (σ:St) (H:Hp) (D:iD),bb X pins σ H s->t D σ H->wpAny (model X.prog X.w) X.A (execs st X.env) (SP X pins D) X.xe s
theorem cK{α:Type}{t:Sem α}{Q Q':α->afA->Prop}(h:wpAny M A t Q E s)(hQ:∀a s,Q a s->Q' a s):wpAny M A t Q' E s:=ahF h hQ fun _ _ x=>x
section
theorem bin{a b:agP}{tb:TE}(ha:PE X a ta)(hb:PE X b tb){R:V->V->Hp->Prop}(I:bb X pins σ H s)(h:ta σ H fun x H1=>tb σ H1 fun y H2=>R x y H2)
  {α:Type} {Q:α->afA->Prop} {f:afe->afe->Sem α}
  (hf:∀v u s2 x y H2,bb X pins σ H2 s2->bE x v->bE y u->R x y H2->wpAny (model X.prog X.w) X.A (f v u) Q X.xe s2):
  wpAny (model X.prog X.w) X.A (eval a X.env) (fun v s₁=>wpAny (model X.prog X.w) X.A (eval b X.env) (fun u s₂=>wpAny (model X.prog X.w) X.A (f v u) Q X.xe s₂) X.xe s₁) X.xe s:=by
 refine cK (ha pins s σ H _ I h) fun v s1 ⟨x,H1,I1,r1,q1⟩=> ?_
 refine cK (hb pins s1 σ H1 _ I1 q1) fun u s2 ⟨y,H2,I2,r2,q2⟩=> ?_
 exact hf v u s2 x y H2 I2 r1 r2 q2
inductive P2(i:Nat)(σ:St)(H:Hp)(Q:VK):Prop|m:∀v,σ[i]? =some (some v)->Q v H->P2 i σ H Q
def tC(v:V):TE:=fun _ H Q=>Q v H
theorem Pg(hN:X.N[i]? =some x)(hv:Qg X.env.scope x)(hd:(x==("__debug__":Str))=false:=by decide)(JB:(x==("__classdict__":Str))=false:=by decide):PE X (.Name x pos) (P2 i):=by
 intro pins s σ H Q I h;obtain⟨v,e,h⟩:=h;obtain⟨m,hn,hl⟩:=I.loc;obtain⟨u,r,l⟩:=hl i x v hN e hv;have fin:EP X pins σ Q u s:=⟨v,H,I,r,h⟩;rcases l with⟨hk,hm⟩|⟨hk,c,hc,B8⟩
 .exact amH (ale I.ok.kind hk hn hm fin) hd
 .rcases hk with hk|hk
  .exact amH (alD I.ok.kind hk hc B8 fin) hd
  .exact amH (wpAny_loadName_free I.ok.kind hk hc B8 fin JB) hd
theorem ag{i j pos}:PE X (.Constant (.int i) j pos) (tC (.int i)):=fun _ _ _ H _ I h=>wpAny_Constant_int ⟨.int i,H,I.qM _,⟨_,rfl⟩,h⟩
theorem dy{b j pos}:PE X (.Constant (.bool b) j pos) (tC (.bl b)):=fun _ _ _ H _ I h=>Constant_bool ⟨.bl b,H,I,rfl,h⟩
theorem sM{x j pos}:PE X (.Constant (.str x) j pos) (tC (.str x)):=fun _ _ _ H _ I h=>Calls.Constant_str ⟨.str x,H,I.qM _,⟨_,rfl⟩,h⟩
def Gl(X:Cx)(x:Str):Prop:=X.env.kindOf x=some .globalImplicit
theorem wD(I:bb X pins σ H s)(hg:Gl X x)(hm:X.mg x=some u)(h:Q u s)
  (hd:(x==("__debug__":Str))=false:=by decide):wpAny (model X.prog X.w) X.A (eval (.Name x pos) X.env) Q E s:=
 aj6 I.ok.kind hg (Calls.loadGlobal_global (by rw[I.ok.wj];exact I.wJ.wj.keeps I.bk) hm h) hd
theorem j0(I:bb X pins σ H s)(hg:Gl X x)(hm:X.mg x=none)(hv:bootBuiltins x=some u)(h:Q u s)
  (hn:x≠"__name__":=by decide) (hd:(x==("__debug__":Str))=false:=by decide):wpAny (model X.prog X.w) X.A (eval (.Name x pos) X.env) Q E s:=by
 obtain⟨mb,h1,h2⟩:=I.wJ.Qi;exact aj6 I.ok.kind hg (Calls.loadGlobal_builtin (by rw[I.ok.wj];exact I.wJ.wj.keeps I.bk) hm (by rw[I.ok.Qi];exact h1.keeps I.bk) ((h2 x hn).trans hv) h) hd
theorem cu{v:V}(hg:Gl X x)(hm:X.mg x=some u)(r:bE v u)(hd:(x==("__debug__":Str))=false:=by decide):PE X (.Name x pos) (tC v):=
 fun _ _ _ H _ I h=>wD I hg hm ⟨v,H,I,r,h⟩ hd
variable{a b:agP}{tb:TE}
def PC(X:Cx)(op:ajA)(a b:agP)(t:TE):Prop:=
 ∀(pins:List (afb×Obj)) (s:afA) (σ:St) (H:Hp) (Q:VK),bb X pins σ H s->t σ H Q->
  wpAny (model X.prog X.w) X.A (eval a X.env) (fun v s₁=>wpAny (model X.prog X.w) X.A (eval b X.env) (fun u s₂=>wpAny (model X.prog X.w) X.A (compareOp op v u) (EP X pins σ Q) X.xe s₂) X.xe s₁) X.xe s
theorem yT(b:agP)(h:op≠ .In)(h2:op≠ .NotIn):behindInMarks op b=false:=by
 have e1:(op==CmpOp.In)=false:=by cases op<;>first|rfl|exact absurd rfl h
 have e2:(op==anI)=false:=by cases op<;>first|rfl|exact absurd rfl h2
 cases b<;>simp[behindInMarks,e1,e2]
inductive ZD(Q:Bool->Hp->Prop)(x:V)(H1:Hp):Prop|m:∀c,x= .bl c->Q c H1->ZD Q x H1
def tB(t:TE):TT:=fun σ H Q=>t σ H fun x H1=>ZD Q x H1
theorem Ii{t:TE}(h:PC X op a b t)(h1:behindInMarks op b=false:=by first|exact yT _ (by decide) (by decide)|rfl):PE X (.Compare a [op] [b] pos) t:=fun pins s σ H Q I hw=>wpAny_Compare1 (h pins s σ H Q I hw) h1
theorem AL{t:TE}(h:PC X op a b t)(h1:behindInMarks op b=false:=by first|exact yT _ (by decide) (by decide)|rfl):PT X (.Compare a [op] [b] pos) (tB t):=by
 intro pins s σ H Q I hw;refine ak6 (cK (h pins s σ H _ I hw) fun v s1 h1=>cK h1 fun u s2 h2=>cK h2 fun c s3 ⟨x,H1,I1,r1,q1⟩=> ?_) h1;obtain⟨d,rfl,q⟩:=q1;cases r1;exact ag1 ⟨H1,I1,q⟩
theorem bf{t:TE}(h:PE X e t)(he:∀whole,isTrue e X.env whole=(do let v<-whole;standAt e.pos;holding [v] (truthy v)):=by intro _;rfl):PT X e (tB t):=by
 intro pins s σ H Q I hw;refine isTrue_plain (cK (h pins s σ H _ I hw) fun v s1 ⟨x,H1,I1,r1,q1⟩=> ?_) (he _);obtain⟨d,rfl,q⟩:=q1;cases r1;exact ag1 ⟨H1,I1,q⟩
variable{tA UG:TT}{rest:List agP}
def XM(t u:TT):TT:=fun σ H Q=>t σ H fun c H1=>if c=true then u σ H1 Q else Q false H1
def tOr(t u:TT):TT:=fun σ H Q=>t σ H fun c H1=>if c=true then Q true H1 else u σ H1 Q
def XW(t:TT):TT:=fun σ H Q=>t σ H fun c H1=>Q (!c) H1
theorem j6(ha:PT X a tA):PW X (.BoolOp .And [a] pos) tA:=by
 intro wh pins s σ H Q I h;refine isTrue_and (cK (ha pins s σ H Q I h) fun c s1 e=> ?_);cases c with
 |true=>exact isTrue_and_nil e
 |false=>exact e
theorem iI(ha:PT X a tA):PW X (.BoolOp .Or [a] pos) tA:=by
 intro wh pins s σ H Q I h;refine isTrue_or (cK (ha pins s σ H Q I h) fun c s1 e=> ?_);cases c with
 |false=>exact isTrue_or_nil e
 |true=>exact e
theorem nj(ha:PT X a tA)(hb:PW X (.BoolOp .And (b::rest) pos) UG):PW X (.BoolOp .And (a::b::rest) pos) (XM tA UG):=by
 intro wh pins s σ H Q I h;refine isTrue_and (cK (ha pins s σ H _ I h) fun c s1 ⟨H1,I1,q1⟩=> ?_);cases c with
 |true=>exact hb wh pins s1 σ H1 Q I1 q1
 |false=>exact⟨H1,I1,q1⟩
theorem jl(ha:PT X a tA)(hb:PW X (.BoolOp .Or (b::rest) pos) UG):PW X (.BoolOp .Or (a::b::rest) pos) (tOr tA UG):=by
 intro wh pins s σ H Q I h;refine isTrue_or (cK (ha pins s σ H _ I h) fun c s1 ⟨H1,I1,q1⟩=> ?_);cases c with
 |true=>exact⟨H1,I1,q1⟩
 |false=>exact hb wh pins s1 σ H1 Q I1 q1
theorem bu(ha:PT X a tA):PT X (.UnaryOp .Not a pos) (XW tA):=by
 intro pins s σ H Q I h;exact isTrue_not (ha pins s σ H (fun c H1=>Q (!c) H1) I h)
def Tf(ta tb:TE):TE:=fun σ H Q=>ta σ H fun x H1=>∃c,x= .bl c/\if c=true then tb σ H1 Q else Q (.bl false) H1
def XX(ta tb:TE):TE:=fun σ H Q=>ta σ H fun x H1=>∃c,x= .bl c/\if c=true then Q (.bl true) H1 else tb σ H1 Q
theorem lu{op}{t:TE}(h:PE X a t):PE X (.BoolOp op [a] pos) t:=fun pins s σ H Q I hw=>BoolOp_one (h pins s σ H Q I hw)
theorem wZ(ha:PE X a ta)(hb:PE X (.BoolOp .And (b::rest) pos) tb):PE X (.BoolOp .And (a::b::rest) pos) (Tf ta tb):=by
 intro pins s σ H Q I h;refine BoolOp_and (cK (ha pins s σ H _ I h) fun v s1 ⟨x,H1,I1,r1,q1⟩=> ?_);obtain⟨c,rfl,q1⟩:=q1;cases r1;refine ag1 ?_;cases c with
 |true=>exact hb pins s1 σ H1 Q I1 q1
 |false=>exact⟨.bl false,H1,I1,rfl,q1⟩
theorem CA(ha:PE X a ta)(hb:PE X (.BoolOp .Or (b::rest) pos) tb):PE X (.BoolOp .Or (a::b::rest) pos) (XX ta tb):=by
 intro pins s σ H Q I h;refine BoolOp_or (cK (ha pins s σ H _ I h) fun v s1 ⟨x,H1,I1,r1,q1⟩=> ?_);obtain⟨c,rfl,q1⟩:=q1;cases r1;refine ag1 ?_;cases c with
 |false=>exact hb pins s1 σ H1 Q I1 q1
 |true=>exact⟨.bl true,H1,I1,rfl,q1⟩
def tIf(t:TT)(ta tb:TE):TE:=fun σ H Q=>t σ H fun c H1=>if c=true then ta σ H1 Q else tb σ H1 Q
theorem Ij(hc:PT X c tA)(ha:PE X a ta)(hb:PE X b tb):PE X (.IfExp c a b pos) (tIf tA ta tb):=by
 intro pins s σ H Q I h;refine wpAny_IfExp (cK (hc pins s σ H _ I h) fun d s1 ⟨H1,I1,q1⟩=> ?_);cases d with
 |true=>exact ha pins s1 σ H1 Q I1 q1
 |false=>exact hb pins s1 σ H1 Q I1 q1
end
def aJ(K:afU)(H:Hp)(a:afb)(xs:List V):Prop:=
 Rd H a (.ba xs)\/
  ∃(o:Obj) (aR:Array afe) (n:Nat),K.lookup a=some o/\o.cls= .type "list"/\o.dict=none/\o.data= .seq aR n/\aR.size<=sizeLine/\bo xs aR.toList
def gF(K:afU)(H:Hp)(a:afb)(xs:List V):Prop:=
 Rd H a (.dY xs)\/
  ∃(o:Obj) (aR:Array afe) (n:Nat),K.lookup a=some o/\o.cls= .type "tuple"/\o.data= .seq aR n/\aR.size<=sizeLine/\bo xs aR.toList
def UX:afe->Option V
 | .none=>some .gw
 | .bool b=>some (.bl b)
 | .int i _=>some (.int i)
 | .str x _=>some (.str x)
 | .bytes b _=>some (.zI b)
 | .float b _=>some (.T1 b)
 | .ref a=>some (.ref a)
 | .type n=>some (.ty n)
 |_=>none
theorem bE.abs{x:V}(r:bE x u):UX u=some x:=by
 cases x with
 |gw=>cases r;rfl
 |bl _=>cases r;rfl
 |int _=>obtain⟨t,rfl⟩:=r;rfl
 |str _=>obtain⟨t,rfl⟩:=r;rfl
 |zI _=>obtain⟨t,rfl⟩:=r;rfl
 |T1 _=>obtain⟨t,rfl⟩:=r;rfl
 |ref _=>cases r;rfl
 |ty _=>cases r;rfl
theorem bE.inj{x y:V}{u:afe}(r:bE x u)(q:bE y u):x=y:=aft (r.abs.symm.trans q.abs)
theorem bo.inj:∀{xs ys:List V} {us:List afe},bo xs us->bo ys us->xs=ys
 |_,_,_,.nil,.nil=>rfl
 |_,_,_,.cons r t,.cons r' t'=>by rw[r.inj r',bo.inj t t']
theorem aJ.of(h:H a=some (.ba xs)):aJ K H a xs:= .inl (.inl h)
theorem bb.list(I:bb X pins σ H s)(h:aJ X.K H a xs):∃aR:List afe,bo xs aR/\PlainL s.heap a aR.toArray/\xs.length<=sizeLine:=by
 rcases h with h|⟨o,aR,n,hk,hc,hd,hs,hz,r⟩
 .obtain⟨z,aR,n,r,e⟩:=h.ok I.dc;exact⟨aR,r,⟨_,n,e,rfl,rfl,rfl⟩,z⟩
 .refine⟨aR.toList,r,⟨o,n,I.u5 a o hk,hc,hd,by simpa using hs⟩,?_⟩;have e:=r.length;simp only[ajV]at e;omega
theorem bb.tuple(I:bb X pins σ H s)(h:gF X.K H a xs):∃aR:List afe,bo xs aR/\IsTup s.heap a aR.toArray/\xs.length<=sizeLine:=by
 rcases h with h|⟨o,aR,n,hk,hc,hs,hz,r⟩
 .obtain⟨z,aR,r,p⟩:=h.ok I.dc;exact⟨aR,r,p,z⟩
 .refine⟨aR.toList,r,⟨o,I.u5 a o hk,hc,n,by simpa using hs⟩,?_⟩;have e:=r.length;simp only[ajV]at e;omega
theorem bb.oA(I:bb X pins σ H s)(h:aJ X.K H a xs)(h':aJ X.K H a ys):xs=ys:=by
 obtain⟨aR,r,⟨o,n,e,_,_,d⟩,_⟩:=I.list h;obtain⟨its',r',⟨o',n',e',_,_,d'⟩,_⟩:=I.list h';rw[e]at e';cases e';rw[d]at d';injection d' with d1 _
 have:aR=its':=by simpa using congrArg alZ d1
 subst this;exact r.inj r'
theorem bb.vI(I:bb X pins σ H s)(h:gF X.K H a xs)(h':gF X.K H a ys):xs=ys:=by
 obtain⟨aR,r,⟨o,e,_,n,d⟩,_⟩:=I.tuple h;obtain⟨its',r',⟨o',e',_,n',d'⟩,_⟩:=I.tuple h';rw[e]at e';cases e';rw[d]at d';injection d' with d1 _
 have:aR=its':=by simpa using congrArg alZ d1
 subst this;exact r.inj r'
abbrev Cx.uA(X:Cx)(E:afe->afA->Prop):Cx:={X with xe:=E}
abbrev Cx.SA(X:Cx):Cx:=X.uA fun _ _=>False
theorem Cx.Ok.uA(ok:X.Ok)(E:afe->afA->Prop):(X.uA E).Ok:=
 ⟨ok.wJ,ok.kind,ok.wj,ok.Qi,ok.above,ok.inj,ok.has,ok.Q3,ok.hd,ok.frames,ok.UE,ok.TZ,ok.bs,ok.Ju,ok.Hg,ok.Gv,ok.qC,ok.Om⟩
theorem Cx.Ok.lK(ok:(X.uA E).Ok):X.Ok:=
 ⟨ok.wJ,ok.kind,ok.wj,ok.Qi,ok.above,ok.inj,ok.has,ok.Q3,ok.hd,ok.frames,ok.UE,ok.TZ,ok.bs,ok.Ju,ok.Hg,ok.Gv,ok.qC,ok.Om⟩
theorem bb.uA(I:bb X pins σ H s)(E:afe->afA->Prop):bb (X.uA E) pins σ H s:=⟨I.ok.uA E,I.os,I.bare,I.base,I.loc,I.cell,I.free,I.kP,I.EN,I.dc,I.len⟩
theorem bb.lK(I:bb (X.uA E) pins σ H s):bb X pins σ H s:=⟨I.ok.lK,I.os,I.bare,I.base,I.loc,I.cell,I.free,I.kP,I.EN,I.dc,I.len⟩
theorem SP.lK{D:iD}{f:Flow}{s':afA}(h:SP (X.uA E) pins D f s'):SP X pins D f s':=by
 cases f with
 |next=>obtain⟨σ',H',I,q⟩:=h;exact⟨σ',H',I.lK,q⟩
 |brk=>obtain⟨σ',H',I,q⟩:=h;exact⟨σ',H',I.lK,q⟩
 |cont=>obtain⟨σ',H',I,q⟩:=h;exact⟨σ',H',I.lK,q⟩
 |ret u=>obtain⟨v,σ',H',I,r,q⟩:=h;exact⟨v,σ',H',I.lK,r,q⟩
theorem Bg.SA{st:List afP}{t:TS}(h:Bg X.SA st t):Bg X st t:=fun pins s σ H D I hw=>
 ahF (h pins s σ H D (I.uA _) hw) (fun _ _ q=>q.lK) fun _ _ z=>ahh z
section
variable{rest:List afP}{t u:TS}
def NS:TS:=fun D σ H=>D.nx σ H
def XZ(t u:TS):TS:=fun D σ H=>t {D with nx:=u D} σ H
theorem aC:Bg X [] NS:=fun _ _ σ H _ I h=>ajH ⟨σ,H,I,h⟩
theorem ae(h1:PS X st t)(h2:Bg X rest u):Bg X (st::rest) (XZ t u):=by
 intro pins s σ H D I h;refine amh (cK (h1 pins s σ H {D with nx:=u D} I h) fun f s1 q=> ?_);cases f with
 |next=>
  obtain⟨σ',H',I',q⟩:=q;exact h2 pins s1 σ' H' D I' q
 |ret v=>exact q
 |brk=>exact q
 |cont=>exact q
theorem af(h1:PS X st t):Bg X [st] t:=by
 intro pins s σ H D I h;refine amh (cK (h1 pins s σ H D I h) fun f s1 q=> ?_);cases f with
 |next=>exact ajH q
 |ret v=>exact q
 |brk=>exact q
 |cont=>exact q
theorem bb.quiet(I:bb X pins σ H s):interactive X.env=false:=by simp[interactive,I.ok.kind]
def Tj(te:TE):TS:=fun D σ H=>te σ H fun _ H1=>D.nx σ H1
theorem aI(he:PE X e te)(hs:swapsWith e none pos.line X.env=pure false:=by rfl):PS X (.Expr e pos) (Tj te):=by
 intro pins s σ H D I h;exact wpAny_Expr_any (cK (he pins s σ H _ I h) fun v s1 ⟨x,H1,I1,r1,q1⟩=>⟨σ,H1,I1,q1⟩) I.quiet hs
def XY(te:TE):TS:=fun D σ H=>te σ H D.rt
theorem aq(he:PE X e te):PS X (.Return (some e) pos) (XY te):=by
 intro pins s σ H D I h;exact wpAny_Return_some (cK (he pins s σ H _ I h) fun v s1 ⟨x,H1,I1,r1,q1⟩=>⟨x,σ,H1,I1,r1,q1⟩)
def XS(c:TT)(t u:TS):TS:=fun D σ H=>c σ H fun b H1=>if b=true then t D σ H1 else u D σ H1
theorem aZ{a b:List afP}{tc:TT}(hc:PT X c tc)(ha:Bg X a t)(hb:Bg X b u):PS X (.If c a b pos) (XS tc t u):=by
 intro pins s σ H D I h;refine wpAny_If (cK (hc pins s σ H _ I h) fun d s1 ⟨H1,I1,q1⟩=> ?_);cases d with
 |true=>exact ha pins s1 σ H1 D I1 q1
 |false=>exact hb pins s1 σ H1 D I1 q1
end
abbrev TG:=V->St->Hp->(St->Hp->Prop)->Prop
abbrev Qe:=List V->St->Hp->(St->Hp->Prop)->Prop
def PG(X:Cx)(target:agP)(t:TG):Prop:=
 ∀(pins:List (afb×Obj)) (s:afA) (σ:St) (H:Hp) (v:V) (u:afe) (Q:St->Hp->Prop),bb X pins σ H s->bE v u->t v σ H Q->
  wpAny (model X.prog X.w) X.A (assign target X.env u) (fun _ s'=>∃σ' H',bb X pins σ' H' s'/\Q σ' H') X.xe s
def TM(X:Cx)(ts:List agP)(t:Qe):Prop:=
 ∀(pins:List (afb×Obj)) (s:afA) (σ:St) (H:Hp) (vs:List V) (us:List afe) (Q:St->Hp->Prop),bb X pins σ H s->bo vs us->t vs σ H Q->
  wpAny (model X.prog X.w) X.A (assignInOrder ((assignEach ts X.env).map (·.2)) us) (fun _ s'=>∃σ' H',bb X pins σ' H' s'/\Q σ' H') X.xe s
abbrev NZ:=V->V->V->Hp->(Hp->Prop)->Prop
def QO(X:Cx)(t:NZ):Prop:=
 ∀(pins:List (afb×Obj)) (s:afA) (σ:St) (H:Hp) (o i v:V) (ov iv u:afe) (Q:Hp->Prop),bb X pins σ H s->bE o ov->bE i iv->bE v u->t o i v H Q->
  wpAny (model X.prog X.w) X.A (setItem ov iv u) (fun _ s'=>∃H',bb X pins σ H' s'/\Q H') X.xe s
abbrev UU:=V->V->Hp->VK->Prop
def US(X:Cx)(op:al0)(t:UU):Prop:=
 ∀(pins:List (afb×Obj)) (s:afA) (σ:St) (H:Hp) (x y:V) (v u:afe) (Q:VK),bb X pins σ H s->bE x v->bE y u->t x y H Q->
  wpAny (model X.prog X.w) X.A (inplaceOp op v u) (EP X pins σ Q) X.xe s
def qk(i:Nat):TG:=fun v σ H Q=>Q (σ.set i (some v)) H
theorem Ll(hN:X.N.Nodup)(hi:X.N[i]? =some x)(hx:NX X.env.scope x)(hf:X.fn x=true\/X.env.scope.names.lookup x=some .local:=by first|exact .inl rfl|exact .inr rfl|assumption):PG X (.Name x pos) (qk i):=by
 intro pins s σ H v u Q I r h;exact al1 (tP I hN hi hx r (fun s' I'=>⟨_,H,I',h⟩) hf)
def VT:Qe:=fun vs σ H Q=>vs=[]/\Q σ H
inductive MV(t:TG)(u:Qe)(vs:List V)(σ:St)(H:Hp)(Q:St->Hp->Prop):Prop|m:∀v r,vs=v::r->(t v σ H fun σ' H'=>u r σ' H' Q)->MV t u vs σ H Q
theorem gN:TM X [] VT:=by
 intro pins s σ H vs us Q I r h;obtain⟨e,h⟩:=h;subst e;cases r;exact assignInOrder_nil ⟨σ,H,I,h⟩
theorem bH{t:TG}{u:Qe}(h1:PG X e t)(h2:TM X es u)
  (hs:(assignEach (e::es) X.env).map (·.2)=assign e X.env::(assignEach es X.env).map (·.2):=by rfl):TM X (e::es) (MV t u):=by
 intro pins s σ H vs us Q I r h;obtain⟨v,vr,e1,h⟩:=h;subst e1;cases r with
 |cons r rr=>
  rw[hs];refine assignInOrder_cons (cK (h1 pins s σ H _ _ _ I r h) fun _ s1 ⟨σ1,H1,I1,q1⟩=> ?_);exact h2 pins s1 σ1 H1 _ _ Q I1 rr q1
inductive Rq(K:afU)(n:Nat)(t:Qe)(v:V)(σ:St)(H:Hp)(Q:St->Hp->Prop):Prop|m:∀a xs,v= .ref a->gF K H a xs->xs.length=n->t xs σ H Q->Rq K n t v σ H Q
theorem i8{k:Nat}{t:Qe}(hc:X.calm=true)(h:TM X es t)
  (hn:(assignEach es X.env).length=n:=by rfl) (yE:(assignEach es X.env).findIdx? (·.1)=none:=by rfl):PG X (.Tuple es k pos) (Rq X.K n t):=by
 intro pins s σ H v u Q I r hw;obtain⟨a,xs,e1,hq,hl,hw⟩:=hw;subst e1;cases r;obtain⟨aR,rv,ht,hz⟩:=I.tuple hq;refine assign_Tuple_tuple (I.ok.hd hc) ht (by simp[hn,<-hl,rv.length]) yE fun h' hx=> ?_
 have I1:bb X pins σ H {s with heap:=h'}:=I.kept (t':=s.toks) fun b o e=>hx b o (agw (afT e)) e
 exact h pins _ σ H xs _ Q I1 (by simpa using rv) hw
def VU(to ti:TE)(t:NZ):TG:=fun v σ H Q=>to σ H fun o H1=>ti σ H1 fun i H2=>t o i v H2 fun H3=>Q σ H3
theorem Im{o i:agP}{to ti:TE}{t:NZ}(ho:PE X o to)(hi:PE X i ti)(hs:QO X t)
  (ha:∀v,assign (.Subscript o i pos) X.env v=(do
   let ov<-holding [v] (eval o X.env)
   let iv<-holding [v,ov] (eval i X.env)
   standAt pos
   holding [v,ov,iv] (setItem ov iv v)
   release [v,ov,iv] []):=by intro _;rfl):PG X (.Subscript o i pos) (VU to ti t):=by
 intro pins s σ H v u Q I r h;rw[ha];refine afg (ain (cK (ho pins s σ H _ I h) fun ov s1 ⟨x,H1,I1,r1,q1⟩=> ?_));refine afg (ain (cK (hi pins s1 σ H1 _ I1 q1) fun iv s2 ⟨y,H2,I2,r2,q2⟩=> ?_));refine afg (akp (afg (ain (cK (hs pins s2 σ H2 x y v ov iv u _ I2 r1 r2 r q2) fun _ s3 ⟨H3,I3,q3⟩=> ?_))));exact wpAny_release ⟨σ,H3,I3,q3⟩
def Mc(te:TE)(g:TG):TS:=fun D σ H=>te σ H fun x H1=>g x σ H1 D.nx
theorem Iq(he:PE X e te)(hg:PG X tg g)(hs:swapsWithSole [tg] e pos.line X.env=pure false:=by rfl)(hw:swappedStores [tg] e X.env=pure none:=by rfl)
  (h1:(assignEach [tg] X.env).map (·.2)=[assign tg X.env]:=by rfl):PS X (.Assign [tg] e pos) (Mc te g):=by
 intro pins s σ H D I h;refine wpAny_Assign_stores (cK (he pins s σ H _ I h) fun v s1 ⟨x,H1,I1,r1,q1⟩=> ?_) hs hw;rw[h1];exact cK (hg pins s1 σ H1 x v _ I1 r1 q1) fun _ s2 q=>q
theorem Ir(hN:X.N.Nodup)(hi:X.N[i]? =some x)(hx:NX X.env.scope x)(he:PE X e te)(hs:swapsWith e (some (.Name x iH)) pos.line X.env=pure false:=by rfl)(hf:X.fn x=true\/X.env.scope.names.lookup x=some .local:=by first|exact .inl rfl|exact .inr rfl|assumption):
  PS X (.Assign [.Name x iH] e pos) (Mc te (qk i)):=by
 intro pins s σ H D I h;refine wpAny_Assign_Name (cK (he pins s σ H _ I h) fun v s1 ⟨y,H1,I1,r1,q1⟩=> ?_) hs;exact tP I1 hN hi hx r1 (fun s2 I2=>⟨_,H1,I2,q1⟩) hf
inductive Tg(i:Nat)(te:TE)(ti:UU)(D:iD)(σ:St)(H:Hp):Prop|m:∀x,σ[i]? =some (some x)->(te σ H fun y H1=>ti x y H1 fun z H2=>D.nx (σ.set i (some z)) H2)->Tg i te ti D σ H
theorem lC{op:al0}{ti:UU}(hN:X.N.Nodup)(hi:X.N[i]? =some x)(hx:NX X.env.scope x)(he:PE X e te)(ho:US X op ti)(hf:X.fn x=true\/X.env.scope.names.lookup x=some .local:=by first|exact .inl rfl|exact .inr rfl|assumption):
  PS X (.AugAssign (.Name x iH) op e pos) (Tg i te ti):=by
 intro pins s σ H D I h;obtain⟨v,e1,h⟩:=h;obtain⟨m,hn,hl⟩:=I.loc;have vis:Qg X.env.scope x:=by rcases hx with k|k;exact .inl k;exact .inr (.inl k)
 obtain⟨u,r,l⟩:=hl i x v hi e1 vis;refine wpAny_AugAssign_Name ?_;have go:wpAny (model X.prog X.w) X.A (eval e X.env) (fun w s₂=>wpAny (model X.prog X.w) X.A (inplaceOp op u w) (fun r s₃=>wpAny (model X.prog X.w) X.A (storeName X.env x r) (fun _=>SP X pins D .next) X.xe s₃) X.xe s₂) X.xe s:=by
  refine cK (he pins s σ H _ I h) fun w s1 ⟨y,H1,I1,r1,q1⟩=> ?_
  refine cK (ho pins s1 σ H1 v y u w _ I1 r r1 q1) fun z s2 ⟨zv,H2,I2,r2,q2⟩=> ?_
  exact tP I2 hN hi hx r2 (fun s3 I3=>⟨_,H2,I3,q2⟩) hf
 rcases l with⟨hk,hm⟩|⟨hk,c,hc,B8⟩
 .exact ale I.ok.kind hk hn hm go
 .rcases hk with hk|hk
  .exact alD I.ok.kind hk hc B8 go
  .rcases hx with k|k
   .have:X.env.scope.names.lookup x=some .free:=hk;rw[k]at this;cases this
   .have:X.env.scope.names.lookup x=some .free:=hk;rw[k]at this;cases this
inductive W5(f:Int->Int->Int)(x:V)(y:V)(H:Hp)(Q:VK):Prop|m:∀i j,x= .int i->y= .int j->Q (.int (f i j)) H->W5 f x y H Q
theorem mZ:US X .Add (W5 fun i j=>i+j):=by
 intro pins s σ H x y v u Q I r1 r2 h;obtain⟨i,j,e1,e2,q⟩:=h;subst e1;subst e2;obtain⟨t,rfl⟩:=r1;obtain⟨t',rfl⟩:=r2;exact amF ⟨.int _,H,I.qM _,⟨_,rfl⟩,q⟩
theorem OK:US X .Sub (W5 fun i j=>i-j):=by
 intro pins s σ H x y v u Q I r1 r2 h;obtain⟨i,j,e1,e2,q⟩:=h;subst e1;subst e2;obtain⟨t,rfl⟩:=r1;obtain⟨t',rfl⟩:=r2;exact isub_int ⟨.int _,H,I.qM _,⟨_,rfl⟩,q⟩
def tQ(c:TT)(tb:TS):TS:=fun D σ H=>∃W:Nat->St->Hp->Prop,(∃m,W m σ H)/\∀m σ H,W m σ H->
 c σ H fun b H1=>if b=true then∃N:St->Hp->Prop,(∀σ' H',N σ' H'->∃m',m'<m/\W m' σ' H')/\tb {D with nx:=N,ct:=N,bk:=D.nx} σ H1 else D.nx σ H1
theorem sO{tc:TT}(hp:PassesOwn (model X.prog X.w) X.A X.env X.xe)(hc:PT X c tc)(hb:Bg X body tb):PS X (.While c body [] pos) (tQ tc tb):=by
 intro pins s σ H D I h;obtain⟨W,⟨m0,w0⟩,Ba⟩:=h;refine wpAny_While (codeAny_whileLoop (fun n s'=>∃σ' H',bb X pins σ' H' s'/\W n σ' H') ?_ m0 ⟨σ,H,I,w0⟩);rintro n s1 ⟨σ1,H1,I1,w1⟩;refine ahZ hp (cK (hc pins s1 σ1 H1 _ I1 (Ba n σ1 H1 w1)) fun b s2 ⟨H2,I2,q2⟩=> ?_);cases b with
 |true=>
  obtain⟨N,hN,q2⟩:=q2;rw[afh rfl];refine ahZ hp (cK (hb pins s2 σ1 H2 _ I2 q2) fun f s3 q3=> ?_);cases f with
  |next=>
   obtain⟨σ3,H3,I3,n3⟩:=q3;obtain⟨m',hm,w3⟩:=hN σ3 H3 n3;exact⟨m',hm,σ3,H3,I3,w3⟩
  |cont=>
   obtain⟨σ3,H3,I3,n3⟩:=q3;obtain⟨m',hm,w3⟩:=hN σ3 H3 n3;exact⟨m',hm,σ3,H3,I3,w3⟩
  |brk=>exact q3
  |ret v=>exact q3
 |false=>
  rw[afc afN];exact ajH ⟨σ1,H2,I2,q2⟩
structure It where
 go:Nat->Hp->Prop
 Dh:Nat->Hp->V->Hp->Prop
 ju:Nat->Hp->Prop
def qy(X:Cx)(pins:List (afb×Obj))(H:Hp)(b:afb):Prop:=
 H b=none/\b≠X.env.locals/\b∉X.fs/\(b∈X.ex\/X.s_0.heap.objs.size<=b)/\(∀x c,X.env.cells.lookup x=some c->c≠b)/\∀p∈X.pn++pins,p.1≠b
theorem bb.wg(I:bb X pins σ H s)(hb:s.heap.objs.size<=b)(hn:H' b=none):qy X pins H' b:=by
 refine⟨hn,aif (agi I.lt hb),I.Xo hb,.inr (afu I.sz hb),fun x c e z=> ?_,fun p hp z=> ?_⟩
 .obtain⟨v,q⟩:=I.cell x c e;exact absurd (agi q.lt (by rw[z];exact hb)) (ahn _)
 .exact absurd (agi (afT (I.EN p hp).1) (by rw[z];exact hb)) (ahn _)
structure uf(P:afz)(w:af3)(K:afU)(tg:agP)(J:It)(fp:List afb)(it:afb)(tn:Nat->age->Prop):Prop where
 mem:it∈fp
 obj:∀i h,tn i h->∀b∈fp,∃o,h.get? b=some o/\∀v,o.data≠ .cell v
 keep:∀i h h',tn i h->(∀b∈fp,∀o,h.get? b=some o->h'.get? b=some o)->tn i h'
 item:∀(X:Cx),X.prog=P->X.w=w->X.K=K->X.calm=true->∀(i:Nat) (pins:List (afb×Obj)) (s:afA) (σ:St) (H:Hp) (E:afe->afA->Prop),bb X pins σ H s->(∀b∈fp,qy X pins H b)->tn i s.heap->J.go i H->
  wpAny (model P w) X.A (pyNext (.ref it)) (fun r s1=>∃u,r=some u/\
   wpAny (model P w) X.A (letOwnedTupleGo tg (.ref it) u) (fun _ s2=>∃x H',bb X pins σ H' s2/\bE x u/\J.Dh i H x H'/\tn (i+1) s2.heap/\∀b∈fp,H' b=none) E s1) E s
 done:∀(X:Cx),X.prog=P->X.w=w->X.K=K->X.calm=true->∀(i:Nat) (pins:List (afb×Obj)) (s:afA) (σ:St) (H:Hp) (E:afe->afA->Prop),bb X pins σ H s->(∀b∈fp,qy X pins H b)->tn i s.heap->J.ju i H->
  wpAny (model P w) X.A (pyNext (.ref it)) (fun r s1=>r=none/\bb X pins σ H s1) E s
 self:∀(A:ahD) (i:Nat) (s:afA) (Q:afe->afA->Prop) (E:afe->afA->Prop),tn i s.heap->Q (.ref it) s->wpAny (model P w) A (pyIter (.ref it)) Q E s
abbrev TI:=St->Hp->(It->Hp->Prop)->Prop
def UR(X:Cx)(pins:List (afb×Obj))(σ:St)(tg:agP)(R:It->Hp->Prop)(W6:afe)(s2:afA):Prop:=
 ∃(it:afb) (fp:List afb) (tn:Nat->age->Prop) (J:It) (H':Hp),W6= .ref it/\bb X pins σ H' s2/\uf X.prog X.w X.K tg J fp it tn/\tn 0 s2.heap/\(∀b∈fp,qy X pins H' b)/\R J H'
def PI(X:Cx)(tg iter:agP)(wi:TI):Prop:=
 ∀(pins:List (afb×Obj)) (s:afA) (σ:St) (H:Hp) (R:It->Hp->Prop),bb X pins σ H s->wi σ H R->
  wpAny (model X.prog X.w) X.A (eval iter X.env) (fun v s1=>wpAny (model X.prog X.w) X.A (pyIter v) (UR X pins σ tg R) X.xe s1) X.xe s
theorem yu{o:Obj}{n:String}{vs:Array afe}{Q:Unit->afA->Prop}(ho:s.heap.get? it=some o)(hc:o.cls= .type n)(hd:o.data= .fields vs)
  (hn:["enumerate","zip","dict_itemiterator","dict_reverseitemiterator","odict_iterator","itertools.zip_longest","itertools.pairwise"].contains n=false) (hQ:Q () s):wpAny M A (letOwnedTupleGo tg (.ref it) u) Q E s:=by
 unfold letOwnedTupleGo;cases tg<;>first
  |exact afX hQ
  |(cases u<;>first
    |exact afX hQ
    |(refine afg (wpAny_load ho ?_)
      rw[hc,hd];show wpAny M A (if(["enumerate","zip","dict_itemiterator","dict_reverseitemiterator","odict_iterator","itertools.zip_longest","itertools.pairwise"].contains n&&vs[0]? ==some (rawInt _))=true then _ else _) Q E s;rw[afc (by intro h;rw[hn,ai3]at h;cases h)];exact afX hQ))
def Fw(K:afU)(a:afb):It:=
 ⟨fun i H=>∃xs x,aJ K H a xs/\xs[i]? =some x,fun i H x H'=>H'=H/\∀xs,aJ K H a xs->xs[i]? =some x,fun i H=>∃xs,aJ K H a xs/\xs.length<=i⟩
def QM(K:afU)(a:afb):It:=
 ⟨fun i H=>∃xs x,gF K H a xs/\xs[i]? =some x,fun i H x H'=>H'=H/\∀xs,gF K H a xs->xs[i]? =some x,fun i H=>∃xs,gF K H a xs/\xs.length<=i⟩
def Qb(lo:Int)(n:Nat):It:=⟨fun i _=>i<n,fun i H x H'=>H'=H/\x= .int (lo+i),fun i _=>n<=i⟩
theorem Fg(a it:afb):uf P w K tg (Fw K a) [it] it (fun i h=>h.IsListIter it a i)where
 mem:=by simp
 obj:=fun i h st b hb=>by
  have e:b=it:=by simpa using hb
  subst e;obtain⟨o,e,c,d⟩:=st;exact⟨o,e,fun v z=>by rw[d]at z;cases z⟩
 keep:=fun i h h' st k=>st.at fun o e=>k it (by simp) o e
 item:=by
  intro X hP hw hK hc i pins s σ H E I hf st hg;subst hP hw hK;obtain⟨xs,x,hq,hx⟩:=hg;obtain⟨aR,rv,p,hz⟩:=I.list hq;obtain⟨u,hu,ru⟩:=rv.get hx;obtain⟨f0,f1,f2,f3,f4,f5⟩:=hf it (by simp);refine wpAny_pyNext_list_item st p.isList (x:=u) (by simpa using hu) fun h' C9 sb=> ?_
  have I1:bb X pins σ H {s with heap:=h'}:=I.gC (t':=s.toks) (fun b o hb e=>(sb.2 b hb).trans e) f0 f1 f3 f4 f5;obtain⟨o,e,c,d⟩:=id C9;exact⟨u,rfl,yu (s:={s with heap:=h'}) e c d (by decide) ⟨x,H,I1,ru,⟨rfl,fun ys hy=>by rw[I.oA hy hq];exact hx⟩,C9,fun b hb=>(hf b hb).1⟩⟩
 done:=by
  intro X hP hw hK hc i pins s σ H E I hf st hg;subst hP hw hK;obtain⟨xs,hq,hx⟩:=hg;obtain⟨aR,rv,p,hz⟩:=I.list hq;obtain⟨f0,f1,f2,f3,f4,f5⟩:=hf it (by simp);have hl:=rv.length;exact wpAny_pyNext_list_end (I.ok.hd hc) st p.isList (by simp;omega) fun h' eb=>⟨rfl,I.gC (t':=s.toks) (fun b o hb e=>eb b o hb e) f0 f1 f3 f4 f5⟩
 self:=fun _ _ _ _ _ st h=>wpAny_pyIter_listiter st h
theorem Bd(a it:afb):uf P w K tg (QM K a) [it] it (fun i h=>h.IsTupleIter it a i)where
 mem:=by simp
 obj:=fun i h st b hb=>by
  have e:b=it:=by simpa using hb
  subst e;obtain⟨o,e,c,d⟩:=st;exact⟨o,e,fun v z=>by rw[d]at z;cases z⟩
 keep:=fun i h h' st k=>st.at fun o e=>k it (by simp) o e
 item:=by
  intro X hP hw hK hc i pins s σ H E I hf st hg;subst hP hw hK;obtain⟨xs,x,hq,hx⟩:=hg;obtain⟨aR,rv,p,hz⟩:=I.tuple hq;obtain⟨u,hu,ru⟩:=rv.get hx;obtain⟨f0,f1,f2,f3,f4,f5⟩:=hf it (by simp);refine wpAny_pyNext_tuple_item st (show s.heap.IsTuple a aR.toArray from p) (x:=u) (by simpa using hu) fun h' C9 sb=> ?_
  have I1:bb X pins σ H {s with heap:=h'}:=I.gC (t':=s.toks) (fun b o hb e=>(sb.2 b hb).trans e) f0 f1 f3 f4 f5;obtain⟨o,e,c,d⟩:=id C9;exact⟨u,rfl,yu (s:={s with heap:=h'}) e c d (by decide) ⟨x,H,I1,ru,⟨rfl,fun ys hy=>by rw[I.vI hy hq];exact hx⟩,C9,fun b hb=>(hf b hb).1⟩⟩
 done:=by
  intro X hP hw hK hc i pins s σ H E I hf st hg;subst hP hw hK;obtain⟨xs,hq,hx⟩:=hg;obtain⟨aR,rv,p,hz⟩:=I.tuple hq;obtain⟨f0,f1,f2,f3,f4,f5⟩:=hf it (by simp);have hl:=rv.length;exact wpAny_pyNext_tuple_end (I.ok.hd hc) st (show s.heap.IsTuple a aR.toArray from p) (by simp;omega) fun h' eb=>⟨rfl,I.gC (t':=s.toks) (fun b o hb e=>eb b o hb e) f0 f1 f3 f4 f5⟩
 self:=fun _ _ _ _ _ st h=>wpAny_pyIter_tupleiter st h
theorem Bc(it:afb)(lo:Int)(n:Nat):uf P w K tg (Qb lo n) [it] it (fun i h=>alf h it (lo+(i:Nat)*1) ((n:Int)-(i:Nat)) 1)where
 mem:=by simp
 obj:=fun i h st b hb=>by
  have e:b=it:=by simpa using hb
  subst e;exact⟨_,st,fun v z=>by
   have z':Data.fields _=Data.cell v:=z;cases z'⟩
 keep:=fun i h h' st k=>k it (by simp) _ st
 item:=by
  intro X hP hw hK hc i pins s σ H E I hf st hg;subst hP hw hK;obtain⟨f0,f1,f2,f3,f4,f5⟩:=hf it (by simp);have W:=anJ (prog:=X.prog) (w:=X.w) (I.ok.hd hc) it lo 1 n;refine W.item i s _ _ hg st fun v h' tk hv C9 kk=> ?_
  obtain⟨t,rfl⟩:=hv;have I1:bb X pins σ H {s with heap:=h',toks:=tk}:=I.gC (fun b o hb e=>kk b o (by simpa using hb) e) f0 f1 f3 f4 f5;refine⟨_,rfl,yu (s:={s with heap:=h',toks:=tk}) (n:="range_iterator") C9 rfl rfl (by decide) ⟨.int (lo+i),H,I1,⟨t,?_⟩,⟨rfl,rfl⟩,C9,fun b hb=>(hf b hb).1⟩⟩;rw[Int.mul_one]
 done:=by
  intro X hP hw hK hc i pins s σ H E I hf st hg;subst hP hw hK;obtain⟨f0,f1,f2,f3,f4,f5⟩:=hf it (by simp);exact akO (I.ok.hd hc) st (by have:n<=i:=hg;omega) fun h' eb=>⟨rfl,I.gC (t':=s.toks) (fun b o hb e=>eb b o hb e) f0 f1 f3 f4 f5⟩
 self:=fun _ _ _ _ _ st h=>akP st h
inductive GW(K:afU)(R:It->Hp->Prop)(x:V)(H1:Hp):Prop|m:∀a,x= .ref a->(∃xs,aJ K H1 a xs)->R (Fw K a) H1->GW K R x H1
def Si(K:afU)(tl:TE):TI:=fun σ H R=>tl σ H fun x H1=>GW K R x H1
inductive Nh(K:afU)(R:It->Hp->Prop)(x:V)(H1:Hp):Prop|m:∀a,x= .ref a->(∃xs,gF K H1 a xs)->R (QM K a) H1->Nh K R x H1
def W0(K:afU)(tl:TE):TI:=fun σ H R=>tl σ H fun x H1=>Nh K R x H1
theorem bO{l:agP}{tl:TE}(hl:PE X l tl):PI X tg l (Si X.K tl):=by
 intro pins s σ H R I h;refine cK (hl pins s σ H _ I h) fun v s1 ⟨x,H1,I1,r1,q1⟩=> ?_
 obtain⟨a,e,⟨xs,hq⟩,q⟩:=q1;subst e;cases r1;obtain⟨aR,rv,p,hz⟩:=I1.list hq;refine aho p.isList ?_;refine⟨s1.heap.objs.size,[s1.heap.objs.size],_,_,H1,rfl,I1.kept (t':=s1.toks) fun b o e=>afk _ e,Fg a _,⟨_,afG _ rfl,rfl,rfl⟩,fun b hb=> ?_,q⟩;have e:b=s1.heap.objs.size:=by simpa using hb
 subst e;exact I1.wg (afn _) (I1.dc.fresh (afn _))
theorem Pj{l:agP}{tl:TE}(hl:PE X l tl):PI X tg l (W0 X.K tl):=by
 intro pins s σ H R I h;refine cK (hl pins s σ H _ I h) fun v s1 ⟨x,H1,I1,r1,q1⟩=> ?_
 obtain⟨a,e,⟨xs,hq⟩,q⟩:=q1;subst e;cases r1;obtain⟨aR,rv,p,hz⟩:=I1.tuple hq;refine alM (show s1.heap.IsTuple a aR.toArray from p) ?_;refine⟨s1.heap.objs.size,[s1.heap.objs.size],_,_,H1,rfl,I1.kept (t':=s1.toks) fun b o e=>afk _ e,Bd a _,⟨_,afG _ rfl,rfl,rfl⟩,fun b hb=> ?_,q⟩;have e:b=s1.heap.objs.size:=by simpa using hb
 subst e;exact I1.wg (afn _) (I1.dc.fresh (afn _))
theorem Iy{R:It->Hp->Prop}{lo hi:Int}{t u v:Tok}{tk:Nat}(I:bb X pins σ H s)(h1: -(2^62)<=lo)(h2:lo<2^62)(h3: -(2^62)<=hi)(h4:hi<2^62)
  (q:R (Qb lo (hi-lo).toNat) H):wpAny (model X.prog X.w) X.A (pyIter (.ref s.heap.objs.size)) (UR X pins σ tg R) E {s with heap:=s.heap.push {cls:= .type "range",data:= .fields #[.int lo t,.int hi u,.int 1 v]},toks:=tk}:=by
 refine alN (anK ..) (small_one h1 h2 h3 h4) ?_;have I1:bb X pins σ H {s with heap:=s.heap.push {cls:= .type "range",data:= .fields #[.int lo t,.int hi u,.int 1 v]},toks:=tk}:=I.kept fun b o e=>afk _ e
 refine⟨(s.heap.push {cls:= .type "range",data:= .fields #[.int lo t,.int hi u,.int 1 v]}).objs.size,[(s.heap.push {cls:= .type "range",data:= .fields #[.int lo t,.int hi u,.int 1 v]}).objs.size],_,_,H,rfl,
  I1.kept (t':=tk) fun b o e=>afk _ e,Bc _ lo (hi-lo).toNat,?_,fun b hb=> ?_,q⟩
 .have e1:lo+((0:Nat):Int)*1=lo:=by simp
  have e2:(((hi-lo).toNat:Nat):Int)-((0:Nat):Int)=aiU lo hi 1:=by rw[rangeSize_one];split<;>omega
  show alf _ _ (lo+((0:Nat):Int)*1) ((((hi-lo).toNat:Nat):Int)-((0:Nat):Int)) 1;rw[e1,e2];exact afG _ rfl
 .have e:b=(s.heap.push {cls:= .type "range",data:= .fields #[.int lo t,.int hi u,.int 1 v]}).objs.size:=by simpa using hb
  subst e;exact I1.wg (afn _) (I1.dc.fresh (afn _))
inductive GX(R:It->Hp->Prop)(vs:List V)(H1:Hp):Prop|m:∀(i j:Int),vs=[.int i,.int j]->(-(2^62)<=i/\i<2^62/\-(2^62)<=j/\j<2^62)->R (Qb i (j-i).toNat) H1->GX R vs H1
def Sj(ta:TA):TI:=fun σ H R=>ta σ H fun vs H1=>GX R vs H1
theorem EL{a b:agP}{ta:TA}(hg:Gl X "range")(hm:X.mg "range"=none)(ha:PA X [a,b] ta)(hs:starEach [a,b] X.env=[(false,eval a X.env),(false,eval b X.env)]:=by rfl)(OE:starEach [b] X.env=[(false,eval b X.env)]:=by rfl):
  PI X tg (.Call (.Name "range" p) [a,b] [] pos) (Sj ta):=by
 intro pins s σ H R I h;refine Call_ (j0 I hg hm boot_range (ag2 (cK (ha pos pins s σ H _ I h) fun us s1 ⟨vs,H1,I1,r1,q1⟩=> ?_) (by rw[hs,OE]) (by rw[OE];rfl)));obtain⟨i,j,e,⟨q1,q2,q3,q4⟩,q⟩:=q1;subst e;cases r1 with
 |cons r rr=>
  cases rr with
  |cons r' rr=>
   cases rr;obtain⟨t,rfl⟩:=r;obtain⟨t',rfl⟩:=r';exact call_range_2 (Iy I1 q1 q2 q3 q4 q)
def XR(wi:TI)(g:TG)(tb:TS):TS:=fun D σ H=>wi σ H fun J H1=>∃W:Nat->Nat->St->Hp->Prop,(∃m,W 0 m σ H1)/\∀i m σ H,W i m σ H->
 (J.ju i H/\D.nx σ H)\/(J.go i H/\∃N:St->Hp->Prop,(∀σ' H',N σ' H'->∃m',m'<m/\W (i+1) m' σ' H')/\∀x H',J.Dh i H x H'->g x σ H' fun σ2 H2=>tb {D with nx:=N,ct:=N,bk:=D.nx} σ2 H2)
def sN(fp:List afb)(h:age):List (afb×Obj):=fp.filterMap fun b=>(h.get? b).map fun o=>(b,o)
theorem nh{o:Obj}(hb:b∈fp)(e:h.get? b=some o):(b,o)∈sN fp h:=aj7.mpr ⟨b,hb,by rw[e];rfl⟩
theorem Ee{p:afb×Obj}(hp:p∈sN fp h):p.1∈fp/\h.get? p.1=some p.2:=by
 obtain⟨b,hb,e⟩:=aj7.mp hp;cases q:h.get? b with
 |none=>rw[q]at e;cases e
 |some o=>
  rw[q]at e;have e':(b,o)=p:=aft e;subst e';exact⟨hb,q⟩
theorem bb.Ip(I:bb X pins σ H s)(hf:∀b∈fp,qy X pins H b)(ho:∀b∈fp,∃o,s.heap.get? b=some o/\∀v,o.data≠ .cell v):bb X (pins++sN fp s.heap) σ H s:=
 I.CD fun p hp=>(afL.mp hp).elim (fun z=>I.EN p (afI _ z)) fun z=>by
  obtain⟨hb,e⟩:=Ee z;obtain⟨f0,f1,f2,_⟩:=hf p.1 hb;obtain⟨o,e',d⟩:=ho p.1 hb;rw[e]at e';cases e';exact⟨e,f0,f1,f2,d⟩
theorem bb.o8{pl:List (afb×Obj)}(I:bb X (pins++pl) σ H s):bb X pins σ H s:=I.CD fun p hp=>I.EN p (afI _ (afY _ hp))
theorem cM(hp:PassesOwn (model X.prog X.w) X.A X.env X.xe)(hc:X.calm=true)(hi:PI X tg iter wi)(hg:PG X tg g)(hb:Bg X body tb)
  (hs:∀x,foldedSetIterable iter X.env x=pure x:=by intro _;rfl):PS X (.For tg iter body [] pos) (XR wi g tb):=by
 intro pins s σ H D I h;refine wpAny_For (cK (hi pins s σ H _ I h) fun v s1 h1=>cK h1 fun W6 s2 h2=> ?_) hs;obtain⟨it,fp,tn,J,H2,e,I2,T,NQ,f2,W,⟨m0,w0⟩,Ba⟩:=h2;subst e;have A2:∀{H':Hp},(∀b∈fp,H' b=none)->∀b∈fp,qy X pins H' b:=fun hn b hb=>⟨hn b hb,(f2 b hb).2⟩
 refine codeAny_forLoop_any (fun n s'=>∃i σ' H',bb X pins σ' H' s'/\tn i s'.heap/\(∀b∈fp,H' b=none)/\W i n σ' H') ?_ m0 ⟨0,σ,H2,I2,NQ,fun b hb=>(f2 b hb).1,w0⟩;rintro n s3 ⟨i,σ3,H3,I3,UD,Yz,w3⟩;rcases Ba i n σ3 H3 w3 with⟨ju,qn⟩|⟨go,N,hN,step⟩
 .refine ahZ hp (cK (T.done X rfl rfl rfl hc i pins s3 σ3 H3 X.xe I3 (A2 Yz) UD ju) fun r s4 ⟨hr,I4⟩=> ?_);subst hr;exact ajH ⟨σ3,H3,I4,qn⟩
 .refine ahZ hp (cK (T.item X rfl rfl rfl hc i pins s3 σ3 H3 X.xe I3 (A2 Yz) UD go) fun r s4 ⟨u,hr,h4⟩=> ?_);subst hr;refine ahZ hp (cK h4 fun _ s5 ⟨x,H5,I5,r5,y5,QE,fr5⟩=> ?_);have Z9:=I5.Ip (A2 fr5) (T.obj _ _ QE);refine ahZ hp (cK (hg _ s5 σ3 H5 x u _ Z9 r5 (step x H5 y5)) fun _ s6 ⟨σ6,H6,I6,q6⟩=> ?_);refine ahZ hp (cK (hb _ s6 σ6 H6 _ I6 q6) fun f s7 q7=> ?_);have again:∀{σ7:St} {H7:Hp},bb X (pins++sN fp s5.heap) σ7 H7 s7->N σ7 H7->∃m,m<n/\∃i σ' H',bb X pins σ' H' s7/\tn i s7.heap/\(∀b∈fp,H' b=none)/\W i m σ' H':=fun{σ7 H7} I7 n7=>by
   obtain⟨m',hm,w7⟩:=hN σ7 H7 n7;refine⟨m',hm,i+1,σ7,H7,I7.o8,T.keep _ _ _ QE fun b hb o e=>(I7.EN (b,o) (afI _ (afI _ (nh hb e)))).1,fun b hb=> ?_,w7⟩;obtain⟨o,e,d⟩:=T.obj _ _ QE b hb;exact(I7.EN (b,o) (afI _ (afI _ (nh hb e)))).2.1
  cases f with
  |next=>obtain⟨σ7,H7,I7,n7⟩:=q7;exact again I7 n7
  |cont=>obtain⟨σ7,H7,I7,n7⟩:=q7;exact again I7 n7
  |brk=>obtain⟨σ7,H7,I7,q7⟩:=q7;exact⟨σ7,H7,I7.o8,q7⟩
  |ret v=>obtain⟨x7,σ7,H7,I7,r7,q7⟩:=q7;exact⟨x7,σ7,H7,I7.o8,r7,q7⟩
theorem cV(Pv:Nat->St->Hp->Prop)(h0:Pv 0 σ H)(hl:∀i σ H,i<=xs.length->Pv i σ H->aJ K H a xs)
  (hs:∀i x σ H,xs[i]? =some x->Pv i σ H->g x σ H fun σ2 H2=>tb {D with nx:=Pv (i+1),ct:=Pv (i+1),bk:=D.nx} σ2 H2) (hd:∀σ H,Pv xs.length σ H->D.nx σ H):
  ∃W:Nat->Nat->St->Hp->Prop,(∃m,W 0 m σ H)/\∀i m σ H,W i m σ H->
   ((Fw K a).ju i H/\D.nx σ H)\/((Fw K a).go i H/\∃N:St->Hp->Prop,(∀σ' H',N σ' H'->∃m',m'<m/\W (i+1) m' σ' H')/\∀x H',(Fw K a).Dh i H x H'->g x σ H' fun σ2 H2=>tb {D with nx:=N,ct:=N,bk:=D.nx} σ2 H2):=by
 refine⟨fun i m σ H=>m=xs.length-i/\i<=xs.length/\Pv i σ H,⟨xs.length,by simp,afF _,h0⟩,?_⟩;rintro i m σ H ⟨rfl,hi,p⟩;have q:=hl i σ H hi p;by_cases iF:i<xs.length
 .refine .inr ⟨⟨xs,xs[i],q,by simp[iF]⟩,Pv (i+1),fun σ' H' p'=>⟨xs.length-(i+1),by omega,rfl,iF,p'⟩,fun x H' y=> ?_⟩;obtain⟨e,y⟩:=y;subst e;exact hs i x σ _ (y xs q) p
 .have e:i=xs.length:=by omega
  subst e;exact .inl ⟨⟨xs,q,afn _⟩,hd σ H p⟩
theorem DK{lo:Int}(Pv:Nat->St->Hp->Prop)(h0:Pv 0 σ H)
  (hs:∀i σ H,i<n->Pv i σ H->g (.int (lo+i)) σ H fun σ2 H2=>tb {D with nx:=Pv (i+1),ct:=Pv (i+1),bk:=D.nx} σ2 H2) (hd:∀σ H,Pv n σ H->D.nx σ H):
  ∃W:Nat->Nat->St->Hp->Prop,(∃m,W 0 m σ H)/\∀i m σ H,W i m σ H->
   ((Qb lo n).ju i H/\D.nx σ H)\/((Qb lo n).go i H/\∃N:St->Hp->Prop,(∀σ' H',N σ' H'->∃m',m'<m/\W (i+1) m' σ' H')/\∀x H',(Qb lo n).Dh i H x H'->g x σ H' fun σ2 H2=>tb {D with nx:=N,ct:=N,bk:=D.nx} σ2 H2):=by
 refine⟨fun i m σ H=>m=n-i/\i<=n/\Pv i σ H,⟨n,by simp,afF _,h0⟩,?_⟩;rintro i m σ H ⟨rfl,hi,p⟩;by_cases iF:i<n
 .refine .inr ⟨iF,Pv (i+1),fun σ' H' p'=>⟨n-(i+1),by omega,rfl,iF,p'⟩,fun x H' y=> ?_⟩;obtain⟨e,y⟩:=y;subst e y;exact hs i σ _ iF p
 .have e:i=n:=by omega
  subst e;exact .inl ⟨afn _,hd σ H p⟩
theorem tU{c:TT}(Pv:St->Hp->Prop)(μ:St->Hp->Nat)(h0:Pv σ H)
  (hs:∀σ H,Pv σ H->c σ H fun b H1=>if b=true then tb {D with nx:=fun σ' H'=>Pv σ' H'/\μ σ' H'<μ σ H,ct:=fun σ' H'=>Pv σ' H'/\μ σ' H'<μ σ H,bk:=D.nx} σ H1 else D.nx σ H1)
  (fJ:∀σ H Q Q',(∀b H1,Q b H1->Q' b H1)->c σ H Q->c σ H Q'):tQ c tb D σ H:=by
 refine⟨fun m σ H=>m=μ σ H/\Pv σ H,⟨_,rfl,h0⟩,?_⟩;rintro m σ H ⟨rfl,p⟩;refine fJ σ H _ _ (fun b H1 q=> ?_) (hs σ H p);cases b with
 |true=>exact⟨_,fun σ' H' ⟨p',l⟩=>⟨_,l,rfl,p'⟩,q⟩
 |false=>exact q
abbrev R2:=V->V->Hp->VK->Prop
def nY(X:Cx)(f:afe->afe->Sem afe)(r:R2):Prop:=
 ∀(pins:List (afb×Obj)) (s:afA) (σ:St) (H:Hp) (x y:V) (v u:afe) (Q:VK),bb X pins σ H s->bE x v->bE y u->r x y H Q->
  wpAny (model X.prog X.w) X.A (f v u) (EP X pins σ Q) X.xe s
def UW(X:Cx)(f:afe->Sem afe)(r:V->Hp->VK->Prop):Prop:=
 ∀(pins:List (afb×Obj)) (s:afA) (σ:St) (H:Hp) (x:V) (v:afe) (Q:VK),bb X pins σ H s->bE x v->r x H Q->
  wpAny (model X.prog X.w) X.A (f v) (EP X pins σ Q) X.xe s
def p9(X:Cx)(f:afe)(r:List V->Hp->VK->Prop):Prop:=
 ∀(pins:List (afb×Obj)) (s:afA) (σ:St) (H:Hp) (xs:List V) (us:List afe) (Q:VK),bb X pins σ H s->bo xs us->r xs H Q->
  wpAny (model X.prog X.w) X.A (call f us) (EP X pins σ Q) X.xe s
def UI(r:R2)(ta tb:TE):TE:=fun σ H Q=>ta σ H fun x H1=>tb σ H1 fun y H2=>r x y H2 Q
def tUn(r:V->Hp->VK->Prop)(ta:TE):TE:=fun σ H Q=>ta σ H fun x H1=>r x H1 Q
inductive Lo(g:Int->Int->V)(x:V)(y:V)(H:Hp)(Q:VK):Prop|m:∀i j,x= .int i->y= .int j->Q (g i j) H->Lo g x y H Q
inductive rU(g:Int->V)(x:V)(H:Hp)(Q:VK):Prop|m:∀i,x= .int i->Q (g i) H->rU g x H Q
section
variable{a b:agP}{tb tc:TE}
theorem N6(ha:PE X a ta)(hb:PE X b tb){R:V->V->Hp->Prop}(I:bb X pins σ H s)
  (h:ta σ H fun x H1=>tb σ H1 fun y H2=>R x y H2) {Q:afe->afA->Prop} {f:afe->afe->Sem afe}
  (hf:∀v u s2 x y H2,bb X pins σ H2 s2->bE x v->bE y u->R x y H2->wpAny (model X.prog X.w) X.A (f v u) Q X.xe s2):
  wpAny (model X.prog X.w) X.A (eval a X.env) (fun v s₁=>wpAny (model X.prog X.w) X.A (eval b X.env) (fun u s₂=>wpAny (model X.prog X.w) X.A (f v u) Q X.xe s₂) X.xe s₁) X.xe s:=by
 refine cK (ha pins s σ H _ I h) fun v s1 ⟨x,H1,I1,r1,q1⟩=> ?_
 refine cK (hb pins s1 σ H1 _ I1 q1) fun u s2 ⟨y,H2,I2,r2,q2⟩=> ?_
 exact hf v u s2 x y H2 I2 r1 r2 q2
theorem bx{op:al0}{r:R2}(ho:nY X (binaryOp op) r)(ha:PE X a ta)(hb:PE X b tb):PE X (.BinOp a op b pos) (UI r ta tb):=by
 intro pins s σ H Q I h;exact wpAny_BinOp (N6 ha hb I h fun v u s2 x y H2 I2 rx ry q=>ho pins s2 σ H2 x y v u Q I2 rx ry q)
theorem CC{op:UnaryOp}{r:V->Hp->VK->Prop}(ho:UW X (unaryOp op) r)(ha:PE X a ta):PE X (.UnaryOp op a pos) (tUn r ta):=by
 intro pins s σ H Q I h;exact UnaryOp_ (cK (ha pins s σ H _ I h) fun v s1 ⟨x,H1,I1,r1,q1⟩=>ho pins s1 σ H1 x v Q I1 r1 q1)
theorem SM{f:afe->afe->Sem afe}{g:Int->Int->Int}
  (rule:∀(i j:Int) (t u:Tok) (s:afA) (Q:afe->afA->Prop) (E:afe->afA->Prop),Q (.int (g i j) s.toks) {s with toks:=s.toks+1}->wpAny (model X.prog X.w) X.A (f (.int i t) (.int j u)) Q E s):
  nY X f (Lo fun i j=> .int (g i j)):=by
 intro pins s σ H x y v u Q I rx ry h;obtain⟨i,j,rfl,rfl,q⟩:=h;obtain⟨t,rfl⟩:=rx;obtain⟨t',rfl⟩:=ry;exact rule i j t t' s _ _ ⟨.int (g i j),H,I.qM _,⟨_,rfl⟩,q⟩
theorem Li{f:afe->afe->Sem afe}{g:Int->Int->Bool}
  (rule:∀(i j:Int) (t u:Tok) (s:afA) (Q:afe->afA->Prop) (E:afe->afA->Prop),Q (.bool (g i j)) s->wpAny (model X.prog X.w) X.A (f (.int i t) (.int j u)) Q E s):
  nY X f (Lo fun i j=> .bl (g i j)):=by
 intro pins s σ H x y v u Q I rx ry h;obtain⟨i,j,rfl,rfl,q⟩:=h;obtain⟨t,rfl⟩:=rx;obtain⟨t',rfl⟩:=ry;exact rule i j t t' s _ _ ⟨.bl (g i j),H,I,rfl,q⟩
theorem eh:nY X (binaryOp .Add) (Lo fun i j=> .int (i+j)):=SM fun _ _ _ _ _ _ _ q=>add_int q
theorem j3:nY X (binaryOp .Sub) (Lo fun i j=> .int (i-j)):=SM fun _ _ _ _ _ _ _ q=>sub_int q
theorem unI{f:afe->Sem afe}{g:Int->Int}
  (rule:∀(i:Int) (t:Tok) (s:afA) (Q:afe->afA->Prop) (E:afe->afA->Prop),Q (.int (g i) s.toks) {s with toks:=s.toks+1}->wpAny (model X.prog X.w) X.A (f (.int i t)) Q E s):
  UW X f (rU fun i=> .int (g i)):=by
 intro pins s σ H x v Q I rx h;obtain⟨i,rfl,q⟩:=h;obtain⟨t,rfl⟩:=rx;exact rule i t s _ _ ⟨.int (g i),H,I.qM _,⟨_,rfl⟩,q⟩
theorem xP:UW X (unaryOp .USub) (rU fun i=> .int (-i)):=unI fun _ _ _ _ _ q=>neg_int q
end
def Tb:V->V->Bool
 | .gw,.gw=>true| .gw,.int _=>true| .int _,.gw=>true| .gw,.bl _=>true| .bl _,.gw=>true| .gw,.str _=>true| .str _,.gw=>true
 | .int _,.int _=>true| .bl _,.bl _=>true| .str _,.str _=>true| .zI _,.zI _=>true
 | .int _,.str _=>true| .str _,.int _=>true| .bl _,.str _=>true| .str _,.bl _=>true
 |_,_=>false
def rEq:R2:=fun x y H Q=>Tb x y=true/\Q (.bl (decide (x=y))) H
def rNe:R2:=fun x y H Q=>Tb x y=true/\Q (.bl (!decide (x=y))) H
theorem BQ{i j:Int}:decide (V.int i=V.int j)=(i==j):=by
 rw[ah0];simp
theorem Gm{i j:Bool}:decide (V.bl i=V.bl j)=(i==j):=by
 rw[ah0];simp
theorem BR{i j:Str}:decide (V.str i=V.str j)=(i==j):=by
 rw[ah0];simp
theorem BP{i j:Array UInt8}:decide (V.zI i=V.zI j)=(i.toList==j.toList):=by
 rw[ah0];cases i;cases j;simp
section
variable{a b:agP}{tb tc:TE}
theorem cx{Q:VK}{k k':Bool}(I:bb X pins σ H s)(q:Q (.bl k) H)(e:k=k'):EP X pins σ Q (.bool k') s:=by
 subst e;exact⟨.bl k,H,I,rfl,q⟩
theorem fU:nY X (compareOp .Eq) rEq:=by
 intro pins s σ H x y v u Q I rx ry h;obtain⟨hs,q⟩:=h;cases x with
 |gw=>
  cases rx;cases y with
  |gw=>cases ry;exact amX (cx I q (by simp))
  |bl j=>cases ry;exact amY (cx I q (by simp))
  |int j=>obtain⟨t',rfl⟩:=ry;exact am8 (cx I q (by simp))
  |str j=>obtain⟨t',rfl⟩:=ry;exact am9 (cx I q (by simp))
  |_=>exact absurd (show false=true from hs) afN
 |bl i=>
  cases rx;cases y with
  |gw=>cases ry;exact amZ (cx I q (by simp))
  |bl j=>cases ry;exact eq_bool (cx I q Gm)
  |str j=>obtain⟨t',rfl⟩:=ry;exact am0 (cx I q (by simp))
  |_=>exact absurd (show false=true from hs) afN
 |int i=>
  obtain⟨t,rfl⟩:=rx;cases y with
  |gw=>cases ry;exact ana (cx I q (by simp))
  |int j=>obtain⟨t',rfl⟩:=ry;exact eq_int (cx I q BQ)
  |str j=>obtain⟨t',rfl⟩:=ry;exact anb (cx I q (by simp))
  |_=>exact absurd (show false=true from hs) afN
 |str i=>
  obtain⟨t,rfl⟩:=rx;cases y with
  |gw=>cases ry;exact anc (cx I q (by simp))
  |bl j=>cases ry;exact am1 (cx I q (by simp))
  |int j=>obtain⟨t',rfl⟩:=ry;exact ane (cx I q (by simp))
  |str j=>obtain⟨t',rfl⟩:=ry;exact eq_str (cx I q BR)
  |_=>exact absurd (show false=true from hs) afN
 |zI i=>
  obtain⟨t,rfl⟩:=rx;cases y with
  |zI j=>obtain⟨t',rfl⟩:=ry;exact PySem.W.eq_bytes (cx I q BP)
  |_=>exact absurd (show false=true from hs) afN
 |_=>cases y<;>exact absurd (show false=true from hs) afN
theorem yW:nY X (compareOp .NotEq) rNe:=by
 intro pins s σ H x y v u Q I rx ry h;obtain⟨hs,q⟩:=h;cases x with
 |gw=>
  cases rx;cases y with
  |gw=>cases ry;exact am2 (cx I q (by simp))
  |bl j=>cases ry;exact am3 (cx I q (by simp))
  |int j=>obtain⟨t',rfl⟩:=ry;exact anf (cx I q (by simp))
  |str j=>obtain⟨t',rfl⟩:=ry;exact ang (cx I q (by simp))
  |_=>exact absurd (show false=true from hs) afN
 |bl i=>
  cases rx;cases y with
  |gw=>cases ry;exact am4 (cx I q (by simp))
  |bl j=>cases ry;exact ne_bool (cx I q (congrArg not Gm))
  |str j=>obtain⟨t',rfl⟩:=ry;exact am5 (cx I q (by simp))
  |_=>exact absurd (show false=true from hs) afN
 |int i=>
  obtain⟨t,rfl⟩:=rx;cases y with
  |gw=>cases ry;exact anh (cx I q (by simp))
  |int j=>obtain⟨t',rfl⟩:=ry;exact ne_int (cx I q (congrArg not BQ))
  |str j=>obtain⟨t',rfl⟩:=ry;exact ani (cx I q (by simp))
  |_=>exact absurd (show false=true from hs) afN
 |str i=>
  obtain⟨t,rfl⟩:=rx;cases y with
  |gw=>cases ry;exact anj (cx I q (by simp))
  |bl j=>cases ry;exact am6 (cx I q (by simp))
  |int j=>obtain⟨t',rfl⟩:=ry;exact ank (cx I q (by simp))
  |str j=>obtain⟨t',rfl⟩:=ry;exact ne_str (cx I q (congrArg not BR))
  |_=>exact absurd (show false=true from hs) afN
 |zI i=>
  obtain⟨t,rfl⟩:=rx;cases y with
  |zI j=>obtain⟨t',rfl⟩:=ry;exact PySem.W.ne_bytes (cx I q (congrArg not BP))
  |_=>exact absurd (show false=true from hs) afN
 |_=>cases y<;>exact absurd (show false=true from hs) afN
theorem vj:nY X (compareOp .Lt) (Lo fun i j=> .bl (decide (i<j))):=Li fun _ _ _ _ _ _ _ q=>lt_int q
theorem gT:nY X (compareOp .LtE) (Lo fun i j=> .bl (decide (i<=j))):=Li fun _ _ _ _ _ _ _ q=>le_int q
theorem oF:nY X (compareOp .Gt) (Lo fun i j=> .bl (decide (j<i))):=Li fun _ _ _ _ _ _ _ q=>gt_int q
theorem Cz:nY X (compareOp .GtE) (Lo fun i j=> .bl (decide (j<=i))):=Li fun _ _ _ _ _ _ _ q=>ge_int q
theorem bc(b:agP)(h:op≠ .In:=by decide)(h2:op≠ .NotIn:=by decide):behindInMarks op b=false:=by
 have e1:(op==CmpOp.In)=false:=by cases op<;>first|rfl|exact absurd rfl h
 have e2:(op==anI)=false:=by cases op<;>first|rfl|exact absurd rfl h2
 cases b<;>simp[behindInMarks,e1,e2]
theorem fM{r:R2}(ho:nY X (compareOp op) r)(ha:PE X a ta)(hb:PE X b tb)(hm:behindInMarks op b=false):PE X (.Compare a [op] [b] pos) (UI r ta tb):=by
 intro pins s σ H Q I h;exact wpAny_Compare1 (N6 ha hb I h fun v u s2 x y H2 I2 rx ry q=>ho pins s2 σ H2 x y v u Q I2 rx ry q) hm
inductive G5(Q:Bool->Hp->Prop)(x:V)(H':Hp):Prop|m:∀k,x= .bl k->Q k H'->G5 Q x H'
def NT(t:TE):TT:=fun σ H Q=>t σ H fun x H'=>G5 Q x H'
theorem aX{r:R2}(ho:nY X (compareOp op) r)(ha:PE X a ta)(hb:PE X b tb)(hm:behindInMarks op b=false):PT X (.Compare a [op] [b] pos) (NT (UI r ta tb)):=by
 intro pins s σ H Q I h;refine ak6 (cK (ha pins s σ H _ I h) fun v s1 ⟨x,H1,I1,r1,q1⟩=>cK (hb pins s1 σ H1 _ I1 q1) fun u s2 ⟨y,H2,I2,r2,q2⟩=>
  cK (ho pins s2 σ H2 x y v u _ I2 r1 r2 q2) fun c s3 ⟨z,H3,I3,r3,k,e,q3⟩=> ?_) hm
 subst e;cases r3;exact ag1 ⟨H3,I3,q3⟩
def Jj(r r':R2)(ta tb tc:TE):TE:=fun σ H Q=>ta σ H fun x H1=>tb σ H1 fun y H2=>r x y H2 fun z H3=>∃k,z= .bl k/\
 (if k=true then tc σ H3 fun w' H4=>r' y w' H4 Q else Q (.bl false) H3)
theorem sI{Pd:ajA}{r r':R2}(ho:nY X (compareOp op) r)(Cc:nY X (compareOp Pd) r')(ha:PE X a ta)(hb:PE X b tb)(hc:PE X c tc)
  (hm:lastMarks [op,Pd] [b,c]=false:=by with_unfolding_all rfl):PE X (.Compare a [op,Pd] [b,c] pos) (Jj r r' ta tb tc):=by
 intro pins s σ H Q I h;refine Compare_chain (cK (ha pins s σ H _ I h) fun v s1 ⟨x,H1,I1,r1,q1⟩=>chain_link (cK (hb pins s1 σ H1 _ I1 q1) fun u s2 ⟨y,H2,I2,r2,q2⟩=>
  cK (ho pins s2 σ H2 x y v u _ I2 r1 r2 q2) fun d s3 ⟨z,H3,I3,r3,k,e,q3⟩=> ?_)) hm
 subst e;cases r3;refine ag1 ?_;cases k with
 |false=>exact ite_ff ⟨.bl false,H3,I3,rfl,q3⟩
 |true=>exact ite_tt (chain_last (cK (hc pins s3 σ H3 _ I3 q3) fun w' s4 ⟨z',H4,I4,r4,q4⟩=>Cc pins s4 σ H4 y z' u w' Q I4 r2 r4 q4))
theorem lD{Pd:ajA}{r r':R2}(ho:nY X (compareOp op) r)(Cc:nY X (compareOp Pd) r')(ha:PE X a ta)(hb:PE X b tb)(hc:PE X c tc)
  (hm:lastMarks [op,Pd] [b,c]=false:=by with_unfolding_all rfl):PT X (.Compare a [op,Pd] [b,c] pos) (NT (Jj r r' ta tb tc)):=by
 intro pins s σ H Q I h;refine isTrue_chain (cK (ha pins s σ H _ I h) fun v s1 ⟨x,H1,I1,r1,q1⟩=>test_link (cK (hb pins s1 σ H1 _ I1 q1) fun u s2 ⟨y,H2,I2,r2,q2⟩=>
  cK (ho pins s2 σ H2 x y v u _ I2 r1 r2 q2) fun d s3 ⟨z,H3,I3,r3,k,e,q3⟩=> ?_)) hm
 subst e;cases r3;refine ag1 ?_;cases k with
 |false=>
  obtain⟨k',e',q'⟩:=q3;cases e';exact ite_ff ⟨H3,I3,q'⟩
 |true=>
  refine ite_tt (test_last (cK (hc pins s3 σ H3 _ I3 q3) fun w' s4 ⟨z',H4,I4,r4,q4⟩=>cK (Cc pins s4 σ H4 y z' u w' _ I4 r2 r4 q4) fun d' s5 ⟨z2,H5,I5,r5,k2,e2,q5⟩=> ?_));subst e2;cases r5;exact ag1 ⟨H5,I5,q5⟩
theorem wF:(sizeLine:Nat)<2^63:=by rw[alg];decide
theorem NU{x:V}(r:bo [x] us):∃u,us=[u]/\bE x u:=by
 cases r with
 |cons r1 r2=>cases r2;exact⟨_,rfl,r1⟩
theorem TJ{x:V}(r:bo [x,y] us):∃u w',us=[u,w']/\bE x u/\bE y w':=by
 cases r with
 |cons r1 r2=>
  cases r2 with
  |cons r3 r4=>cases r4;exact⟨_,_,rfl,r1,r3⟩
theorem Dx(hc:X.calm=true):p9 X (.builtin "max") (fun xs H Q=>∃i j,xs=[.int i,.int j]/\Q (.int (if j>i then j else i)) H):=by
 intro pins s σ H xs us Q I r h;obtain⟨i,j,rfl,q⟩:=h;obtain⟨u,w',rfl,⟨t,rfl⟩,⟨t',rfl⟩⟩:=TJ r;refine max_two_ints (I.ok.hd hc) fun h' tk k=>⟨_,H,I.kept k,?_,q⟩
 by_cases hj:j>i
 .rw[afh hj,afh hj];exact⟨_,rfl⟩
 .rw[afc hj,afc hj];exact⟨_,rfl⟩
end
structure zQ(h:age)(x dx C:afb)(mA:Str->Option afe):Prop where
 obj:h.get? x=some (ahE C dx)
 ns:h.Ns1 dx mA
 ne:dx≠x
theorem D6(n:h.Ns1 dx mA):∃od,h.get? dx=some od/\∀name,aj8 name od=some (mA name):=by
 obtain⟨o,es,ep,ho,hd,hk,_,hm⟩:=n;refine⟨o,ho,fun name=> ?_⟩;have e:=hm name;unfold nsFind findBy at e;rw[<-Array.find?_toList]at e;unfold aj8;rw[hd];dsimp only;split
 .rename_i y q;rw[q]at e;exact congrArg some e
 .rename_i q;rw[q]at e;have a:es.toList.any (·.refKey)=false:=by
   rw[al2];intro y hy;obtain⟨z,t,Wq⟩:=hk y (alh.mp hy);simp[DictEntry.refKey,Wq]
  have a':¬es.toList.any (·.refKey)=true:=by rw[a];exact afN
  rw[afc a'];exact congrArg some e
theorem zQ.D5{x:afb}(I:zQ h x dx C mA):∃od,PySem.W.InstAt h x (ahE C dx) C (some od)/\∀name,aj8 name od=some (mA name):=
 let⟨od,ho,hl⟩:=D6 I.ns
 ⟨od,⟨I.obj,rfl,rfl,ho⟩,hl⟩
section
variable{x f:afb}
theorem Kf{expr:Bool}(X:K.In s.heap)(I:zQ s.heap x dx C mA)(hg:plainGet K C name=true)(hh:hasDictIn K C=true)
  (ha:findIn K (.ref C) name=some none) (hv:mA name=some v) (JG:ami v=true) (h:Q v {s with toks:=s.toks+1}):
  wpAny (model prog w) A (getAttr (.ref x) name expr) Q E s:=by
 obtain⟨od,J,hl⟩:=I.D5;exact PySem.W.get_value X J (ajW hg).1 (PySem.W.findObj_own hh ha rfl (by rw[hl,hv])) JG h
theorem GC{Q:afe×List afe->afA->Prop}(X:K.In s.heap)(I:zQ s.heap x dx C mA)(hg:plainGet K C name=true)
  (hf:findIn K (.ref C) name=some (some (.ref f))) (ht:isFn K (.ref f)=true) (hv:mA name=none) (h:Q (.ref f,[.ref x]) s):
  wpAny (model prog w) A (getMethod (.ref x) name pl) Q E s:=by
 obtain⟨od,J,hl⟩:=I.D5;exact PySem.W.method_fn X J (ajW hg).1 (ajW hg).2 hf (ajp.mp ht) (by show(aj8 name od).map (·.isSome)=some false;rw[hl,hv];rfl) h
theorem Mb{ns:List Str}{Q:Unit->afA->Prop}(X:K.In s.heap)(I:zQ s.heap x dx C mA)
  (hs:findIn K (.ref C) "__setattr__"=some (some (.builtin "object.__setattr__"))) (hp:plainOver K C=true) (ht:ak2 K C name=some none) (hh:hasDictIn K C=true)
  (hw:alY mA ns) (hsz:ns.length<=sizeLine)
  (h:∀h',zQ h' x dx C (fun y=>if y=name then some v else mA y)->agk dx s.heap h'->Q () {s with heap:=h',toks:=s.toks+2}):
  wpAny (model prog w) A (setAttr (.ref x) name v) Q E s:=by
 obtain⟨od,J,hl⟩:=I.D5;refine PySem.W.set_plain X J hs (PySem.W.osa_open (s:={s with toks:=s.toks+1}) (r:=none) X J hp ht fun b=> ?_);obtain⟨cd,hc,RS⟩:=PySem.W.any_some hh;have hx:s.heap.get? x=some ⟨.ref C,some dx,.plain,#[]⟩:=I.obj;refine afg (afX (afg (afg (ali hx (afg (anU (s:={s with toks:=s.toks+1}) (PySem.W.looks_clsIn X hc) ?_))))));rw[RS];refine afX (a:=some dx) (afg (afX (afg ?_)));refine wpAny_nsSet1 (s:={s with toks:=s.toks+1}) I.ns fun h' Ui OE=> ?_
 obtain⟨oD,esD,epD,hoD,hdD,hcD⟩:=Ui.count (an2 name v hw);refine afg (wpAny_lookBehind hoD (by rw[hdD];exact pastItsLine_dict (afu hcD (by rw[afp];omega))) ?_);exact afX (h _ ⟨(OE.2 _ (agU I.ne)).trans I.obj,Ui,I.ne⟩ OE)
theorem Hb{vs:List afe}(X:K.In s.heap)(hm:makesIn K C=true)
  (hi:findIn K (.ref C) "__init__"=some (some (.ref f))) (hf:PySem.W.typeIn K (.ref f)=some (.type "function"))
  (h:codeAny (model prog w) (A.under (.builtin "type.__call__" ⟨.ref C::vs,kw⟩)) (.call (.ref f) ⟨.ref (s.heap.objs.size+1)::vs,kw⟩) (PySem.W.InitBack (s.heap.objs.size+1) R)
   {s with heap:=(s.heap.push emptyDict).push (ahE C s.heap.objs.size)}):
  codeAny (model prog w) A (.call (.ref C) ⟨vs,kw⟩) R s:=by
 obtain⟨hh,g,d,t,os⟩:=s;exact PySem.W.make_core (PySem.W.makes_of X hm) (PySem.W.looks_findIn X hi) (fun self=>PySem.W.bind_fn X self hf) (.inl rfl) h
end
def bJ(f:Str)(v:V):List (Str×V)->List (Str×V)
 | []=> [(f,v)]
 |(g,x)::r=>if g=f then(g,v)::r else(g,x)::bJ f v r
theorem aP(f g:Str)(v:V):∀fs:List (Str×V),(bJ f v fs).lookup g=if g=f then some v else fs.lookup g
 | []=>by
  show aiw g [(f,v)]=_;by_cases h:g=f
  .have hb:(g==f)=true:=ajp.mpr h;simp only[aiw,hb,afh h]
  .have hb:(g==f)=false:=agS.mpr h;simp only[aiw,hb,afc h]
 |(k,x)::r=>by
  have ih:=aP f g v r;rw[show bJ f v ((k,x)::r)=(if k=f then(k,v)::r else(k,x)::bJ f v r)from rfl];by_cases hk:k=f
  .rw[afh hk];by_cases h:g=k
   .have hb:(g==k)=true:=ajp.mpr h;simp only[aiw,hb,afh (h.trans hk)]
   .have hb:(g==k)=false:=agS.mpr h;simp only[aiw,hb,afc (fun e:g=f=>h (e.trans hk.symm))]
  .rw[afc hk];by_cases h:g=k
   .have hb:(g==k)=true:=ajp.mpr h;simp only[aiw,hb,afc (fun e:g=f=>hk (h.symm.trans e))]
   .have hb:(g==k)=false:=agS.mpr h;simp only[aiw,hb];exact ih
theorem pM(f:Str)(v:V):∀fs:List (Str×V),f∈(bJ f v fs).map (·.1)/\∀g,g∈fs.map (·.1)->g∈(bJ f v fs).map (·.1)
 | []=>⟨by simp[bJ],fun g h=>by simp at h⟩
 |(k,x)::r=>by
  obtain⟨i1,i2⟩:=pM f v r;rw[show bJ f v ((k,x)::r)=(if k=f then(k,v)::r else(k,x)::bJ f v r)from rfl];by_cases hk:k=f
  .rw[afh hk];subst hk;exact⟨by simp,fun g h=>by simpa using h⟩
  .rw[afc hk];refine⟨?_,fun g h=> ?_⟩
   .rw[af9];exact afs _ i1
   .rw[af9]at h⊢;rcases afv.mp h with e|e
    .exact afv.mpr (.inl e)
    .exact afs _ (i2 g e)
theorem qr(f:Str)(v:V):∀fs:List (Str×V),(bJ f v fs).length<=fs.length+1
 | []=>by simp[bJ]
 |(k,x)::r=>by
  have ih:=qr f v r;rw[show bJ f v ((k,x)::r)=(if k=f then(k,v)::r else(k,x)::bJ f v r)from rfl];by_cases hk:k=f
  .rw[afh hk,afp,afp];omega
  .rw[afc hk,afp,afp];omega
theorem jy.oV{v:V}{o:Option afe}(r:jy (some v) o):∃u,o=some u/\bE v u:=by
 cases o with
 |none=>exact(show False from r).elim
 |some u=>exact⟨u,rfl,r⟩
theorem jy.wQ{o:Option afe}(r:jy none o):o=none:=by
 cases o with
 |none=>rfl
 |some u=>exact(show False from r).elim
theorem DM{v:V}(r:bE v u):ami u=true:=by
 cases v with
 |gw=>cases(show u=ahQ from r);rfl
 |bl b=>cases(show u=aj5 b from r);rfl
 |int i=>obtain⟨t,e⟩:=(show∃t,u=ahO i t from r);cases e;rfl
 |str x=>obtain⟨t,e⟩:=(show∃t,u=alx x t from r);cases e;rfl
 |zI b=>obtain⟨t,e⟩:=(show∃t,u=anG b t from r);cases e;rfl
 |T1 b=>obtain⟨t,e⟩:=(show∃t,u=anH b t from r);cases e;rfl
 |ref a=>cases(show u=afZ a from r);rfl
 |ty n=>cases(show u=aiP n from r);rfl
section
variable{fs fs':List (Str×V)}
theorem wA(dc:kE P w H h)(e:H a=some (.ins C dx fs)):∃mA,zQ h a dx C mA/\(∀f,jy (fs.lookup f) (mA f))/\alY mA (fs.map (·.1))/\fs.length<=1000/\H dx=some (.own a):=by
 obtain⟨d,z,ne,ob,mA,n,r,q⟩:=(show eP P w H h a (.ins C dx fs)from dc a _ e);exact⟨mA,⟨ob,n,ne⟩,r,q,z,d⟩
end
structure zF(K:afU)(C:afb):Prop where
 pg:plainGet K C ah6=true
 hd:hasDictIn K C=true
 po:plainOver K C=true
 sa:findIn K (.ref C) "__setattr__"=some (some (.builtin "object.__setattr__"))
theorem zF.get(c:zF K C)(f:Str):plainGet K C f=true:=c.pg
def fE(K:afU)(C:afb)(f:Str):Prop:=findIn K (.ref C) f=some none
theorem fE.Tt{f:Str}(n:fE K C f):ak2 K C f=some none:=by
 unfold ak2;rw[show findIn K (.ref C) f=some none from n];rfl
structure Dj(K:afU)(C:afb)(m:Str)(f:afb):Prop where
 cG:findIn K (.ref C) m=some (some (.ref f))
 fn:isFn K (.ref f)=true
 kp:keepIn K (.ref f)=true
section
variable{fs:List (Str×V)}{f:Str}{v:V}
theorem rZ{b:Bool}(I:bb X pins σ H s)(e:H a=some (.ins C dx fs))(c:zF X.K C)(n:fE X.K C f)(l:fs.lookup f=some v)
  (h:∀u s',bb X pins σ H s'->bE v u->Q u s'):wpAny (model X.prog X.w) A (getAttr (.ref a) f b) Q E s:=by
 obtain⟨mA,O,r,_,_,_⟩:=wA I.dc e;obtain⟨u,hu,ru⟩:=jy.oV (v:=v) (o:=mA f) (by rw[<-l];exact r f);exact Kf I.u5 O (c.get f) c.hd n hu (DM ru) (h u _ (I.qM _) ru)
theorem mQ{g:afb}{Q:afe×List afe->afA->Prop}(I:bb X pins σ H s)(e:H a=some (.ins C dx fs))(c:zF X.K C)(k:Dj X.K C m g)(l:fs.lookup m=none)
  (h:Q (.ref g,[.ref a]) s):wpAny (model X.prog X.w) A (getMethod (.ref a) m pl) Q E s:=by
 obtain⟨mA,O,r,_,_,_⟩:=wA I.dc e;have hn:mA m=none:=jy.wQ (by rw[<-l];exact r m);exact GC I.u5 O (c.get m) k.cG k.fn hn h
theorem tq{Q:Unit->afA->Prop}(I:bb X pins σ H s)(e:H a=some (.ins C dx fs))(c:zF X.K C)(n:fE X.K C f)(hl:fs.length<1000)(ry:bE y u)
  (h:∀s',bb X pins σ (aE H a (.ins C dx (bJ f y fs))) s'->Q () s'):wpAny (model X.prog X.w) A (setAttr (.ref a) f u) Q E s:=by
 obtain⟨mA,O,r,wi,_,ho⟩:=wA I.dc e;have hz:(fs.map (·.1)).length<=sizeLine:=by rw[ae9,alg];omega
 refine Mb I.u5 O c.sa c.po n.Tt c.hd wi hz fun h' O' sb=>h _ ?_
 have hd:∃o,h'.get? dx=some o:=let⟨o,_,_,e',_⟩:=O'.ns;⟨o,e'⟩
 refine I.pk (x:=a) (e:=dx) (by rw[e];exact agW) (.inr ho) (fun b q hb z=>(sb.2 b hb).trans z) hd ?_;refine⟨by rw[ao O.ne];exact ho,?_,O.ne,O'.obj,_,O'.ns,fun g=> ?_,fun g hg=> ?_⟩
 .have:=qr f y fs;omega
 .show jy ((bJ f y fs).lookup g) (if g=f then some u else mA g);rw[aP];by_cases q:g=f
  .rw[afh q,afh q];exact ry
  .rw[afc q,afc q];exact r g
 .by_cases q:g=f
  .rw[q];exact(pM f y fs).1
  .refine(pM f y fs).2 g (wi g fun z=>hg ?_);show(if g=f then some u else mA g)=none;rw[afc q];exact z
theorem bb.made(I:bb X pins σ H s):bb X pins σ (aE (aE H s.heap.objs.size (.own (s.heap.objs.size+1))) (s.heap.objs.size+1) (.ins C s.heap.objs.size []))
  {s with heap:=(s.heap.push emptyDict).push (ahE C s.heap.objs.size)}:=by
 have e1:(s.heap.push emptyDict).get? s.heap.objs.size=some emptyDict:=afG s.heap rfl;have e2:((s.heap.push emptyDict).push (ahE C s.heap.objs.size)).get? (s.heap.objs.size+1)=some (ahE C s.heap.objs.size):=by
  have:=afG (s.heap.push emptyDict) (o:=ahE C s.heap.objs.size) rfl
  rwa [agf]at this
 have e3:(s.heap.push emptyDict).Ns s.heap.objs.size (fun _=>none):=⟨emptyDict,#[],_,e1,rfl,(fun e he=>absurd he (by simp)),fun _=>rfl⟩;have I1:=I.ml (a:=s.heap.objs.size) (o:= .own (s.heap.objs.size+1)) (h':=s.heap.push emptyDict) (t':=s.toks) (fun b u q=>afk _ q) (afn _) ⟨_,e1⟩;refine I1.ml (a:=s.heap.objs.size+1) (o:= .ins C s.heap.objs.size []) (t':=s.toks) (fun b u q=>afk _ q) (akQ (agf _ _)) ?_;have ne:s.heap.objs.size≠s.heap.objs.size+1:=agw (akA _);refine⟨by rw[ao ne,aj],afF _,ne,e2,fun _=>none,(Heap.Ns1.of_empty e3).at fun o q=>afk _ q,fun _=>agW,fun y hy=>absurd rfl hy⟩
theorem JP{f:Str}(hb:attributeBase e f env (eval e env)=eval e env)
  (h:wpAny (model prog w) A (eval e env) (fun o s₁=>wpAny (model prog w) A (getAttr o f true) Q E s₁) E s):wpAny (model prog w) A (eval (.Attribute e f pos) env) Q E s:=
 Attribute_any_ h (by rw[arm_eval_Attribute,hb])
end
inductive Nk(K:afU)(f:Str)(Q:VK)(x:V)(H1:Hp):Prop|m:∀a C dx fs v,x= .ref a->H1 a=some (.ins C dx fs)->zF K C->fE K C f->fs.lookup f=some v->Q v H1->Nk K f Q x H1
def XO(K:afU)(ta:TE)(f:Str):TE:=fun σ H Q=>ta σ H fun x H1=>Nk K f Q x H1
inductive Ni(K:afU)(f:Str)(D:iD)(σ:St)(y:V)(x:V)(H2:Hp):Prop|m:∀a C dx fs,x= .ref a->H2 a=some (.ins C dx fs)->zF K C->fE K C f->fs.length<1000->D.nx σ (aE H2 a (.ins C dx (bJ f y fs)))->Ni K f D σ y x H2
def XH(K:afU)(ta tv:TE)(f:Str):TS:=fun D σ H=>tv σ H fun y H1=>ta σ H1 fun x H2=>Ni K f D σ y x H2
def QI(X:Cx)(op:al0)(rd:V->V->Hp->VK->Prop):Prop:=
 ∀(pins:List (afb×Obj)) (s:afA) (σ:St) (H:Hp) (x y:V) (u v:afe) (Q:VK),bb X pins σ H s->bE x u->bE y v->rd x y H Q->wpAny (model X.prog X.w) X.A (inplaceOp op u v) (EP X pins σ Q) X.xe s
inductive yG(K:afU)(tv:TE)(rd:V->V->Hp->VK->Prop)(f:Str)(D:iD)(σ:St)(x:V)(H1:Hp):Prop|m:∀a C dx fs v,x= .ref a->H1 a=some (.ins C dx fs)->zF K C->fE K C f->fs.lookup f=some v->(tv σ H1 fun y H2=>rd v y H2 fun z H3=>∃VC fs',H3 a=some (.ins C VC fs')/\fs'.length<1000/\D.nx σ (aE H3 a (.ins C VC (bJ f z fs'))))->yG K tv rd f D σ x H1
def Lw(K:afU)(ta tv:TE)(rd:V->V->Hp->VK->Prop)(f:Str):TS:=fun D σ H=>ta σ H fun x H1=>yG K tv rd f D σ x H1
section
variable{o:agP}{f:Str}{tv:TE}
theorem az(he:PE X e ta)(hb:attributeBase e f X.env (eval e X.env)=eval e X.env:=by rfl):PE X (.Attribute e f pos) (XO X.K ta f):=by
 intro pins s σ H Q I h;refine JP hb (cK (he pins s σ H _ I h) fun u s1 ⟨x,H1,I1,rx,a,C,dx,fs,v,ex,ea,c,n,l,q⟩=> ?_);subst ex;obtain rfl:u=afZ a:=rx;exact rZ I1 ea c n l fun u' s2 I2 ru=>⟨v,H1,I2,ru,q⟩
theorem gx(ha:PE X o ta)(hv:PE X value tv)(hs:swapsWith value (some (.Attribute o f iH)) pos.line X.env=pure false):PS X (.Assign [.Attribute o f iH] value pos) (XH X.K ta tv f):=by
 intro pins s σ H D I h;refine plainObj_wpAny_Assign_Attribute (cK (hv pins s σ H _ I h) fun u s1 ⟨y,H1,I1,ry,q⟩=>cK (ha pins s1 σ H1 _ I1 q) fun ov s2 ⟨x,H2,I2,rx,a,C,dx,fs,ex,ea,c,n,l,q2⟩=> ?_) hs;subst ex;obtain rfl:ov=afZ a:=rx;exact tq I2 ea c n l ry fun s3 I3=>⟨σ,_,I3,q2⟩
theorem vt{op:al0}{rd:V->V->Hp->VK->Prop}(ha:PE X o ta)(hv:PE X value tv)(hop:QI X op rd):PS X (.AugAssign (.Attribute o f jc) op value pos) (Lw X.K ta tv rd f):=by
 intro pins s σ H D I h;refine wpAny_AugAssign_AttributeAny (cK (ha pins s σ H _ I h) fun ov s1 ⟨x,H1,I1,rx,a,C,dx,fs,v,ex,ea,c,n,l,q⟩=> ?_);subst ex;obtain rfl:ov=afZ a:=rx;refine rZ I1 ea c n l fun u s2 I2 ru=>cK (hv pins s2 σ H1 _ I2 q) fun w3 s3 ⟨y,H2,I3,ry,q3⟩=>cK (hop pins s3 σ H2 v y u w3 _ I3 ru ry q3) fun w4 s4 ⟨z,H3,I4,rz,VC,fs',ea',l',q4⟩=> ?_
 exact tq I4 ea' c n l' rz fun s5 I5=>⟨σ,_,I5,q4⟩
inductive SO(x:V)(y:V)(H:Hp)(Q:VK):Prop|m:∀i j,x= .int i->y= .int j->Q (.int (i+j)) H->SO x y H Q
theorem GQ:QI X .Add SO:=by
 rintro pins s σ H x y u v Q I rx ry ⟨i,j,rfl,rfl,q⟩;obtain⟨t,rfl⟩:=(show∃t,u=ahO i t from rx);obtain⟨t',rfl⟩:=(show∃t',v=ahO j t' from ry);exact amF ⟨.int (i+j),H,I.qM _,⟨_,rfl⟩,q⟩
theorem Nr{args:List agP}(he:PE X e te)(I:bb X pins σ H s)
  (h:te σ H fun x H1=>∃a C dx fs g,x= .ref a/\H1 a=some (.ins C dx fs)/\zF X.K C/\Dj X.K C m g/\fs.lookup m=none/\
   ∀s1,bb X pins σ H1 s1->wpAny (model X.prog X.w) X.A (callWith pos (.ref g) [.ref a] (backTo pos (starEach args X.env)) (backToKw pos (keywordEach [] X.env))) Q X.xe s1)
  (ht:eval (.Call (.Attribute e m eI) args [] pos) X.env=(do
   let ov<-eval e X.env
   standAt eI.atName
   let(f,first)<-holding [ov] (getMethod ov m pl)
   callWith pos f first (backTo pos (starEach args X.env)) (backToKw pos (keywordEach [] X.env)))):
  wpAny (model X.prog X.w) X.A (eval (.Call (.Attribute e m eI) args [] pos) X.env) Q X.xe s:=by
 refine ajm (pl:=pl) (cK (he pins s σ H _ I h) fun u s1 ⟨x,H1,I1,rx,a,C,dx,fs,g,ex,ea,c,k,l,q⟩=> ?_) ht;subst ex;obtain rfl:u=afZ a:=rx;exact mQ I1 ea c k l (q s1 I1)
end
structure fF(k:Nat)(A:ahD):Prop where
 hd:A.handled=none
 dp:A.depth+3*k+5<recursionLimit
 un:A.units+16*k+200<cLine
theorem fF.fJ{k:Nat}(r:fF k A)(h:j<=k):fF j A:=⟨r.hd,by have:=r.dp;omega,by have:=r.un;omega⟩
theorem fF.deeper{k:Nat}(r:fF (k+1) A)(env:Env):fF k (A.deeper env):=
 ⟨r.hd,by have:=r.dp;show A.depth+1+3*k+5<_;omega,by have:=r.un;show A.units+3+16*k+200<_;omega⟩
theorem Al:(A.under (.builtin "type.__call__" ⟨.ref C::us,kw⟩)).depth=A.depth+1:=by
 first|rfl|simp[al3,Code.weight,Code.isCreation,Code.isGuard,Code.isCaller,Code.frames,Code.isFrame,guardIds]
theorem Am:(A.under (.builtin "type.__call__" ⟨.ref C::us,kw⟩)).units=A.units+1:=by
 first|rfl|simp[al3,Code.cUnits,Code.frames,Code.isFrame]
theorem fF.OV{k:Nat}(r:fF (k+1) A)(C:afb)(us:List afe)(kw:List (Str×afe)):fF k (A.under (.builtin "type.__call__" ⟨.ref C::us,kw⟩)):=
 ⟨r.hd,by have:=r.dp;rw[Al];omega,by have:=r.un;rw[Am];omega⟩
theorem fF.depth{k:Nat}(r:fF k A):A.depth<recursionLimit:=by have:=r.dp;omega
theorem fF.units{k:Nat}(r:fF k A):A.units+64<cLine:=by have:=r.un;omega
def Me:TA:=fun _ H Q=>Q [] H
def Th(ta:TE)(tr:TA):TA:=fun σ H Q=>ta σ H fun x H1=>tr σ H1 fun xs H2=>Q (x::xs) H2
section
variable{t:TA}
theorem ab:PA X [] Me:=fun _ _ _ _ H Q I h=>ah3 ⟨[],H,I,.nil,h⟩
theorem aa(ha:PE X e te)(hr:PA X es t)(hs:starEach (e::es) X.env=(false,eval e X.env)::starEach es X.env:=by rfl):PA X (e::es) (Th te t):=by
 intro pos pins s σ H Q I h;rw[hs];show wpAny _ _ (spliced ((false,eval e X.env)::backTo pos (starEach es X.env))) _ _ s;refine ahi (cK (ha pins s σ H _ I h) fun u s1 ⟨x,H1,I1,r1,q1⟩=> ?_);exact cK (hr pos pins s1 σ H1 _ I1 q1) fun us s2 ⟨xs,H2,I2,r2,q2⟩=>⟨x::xs,H2,I2,.cons r1 r2,q2⟩
def X0(t:TA):TE:=fun σ H Q=>t σ H fun xs H1=>xs.length<=sizeLine/\∀p,H1 p=none->Q (.ref p) (aE H1 p (.dY xs))
def XU(t:TA):TE:=fun σ H Q=>t σ H fun xs H1=>xs.length<=sizeLine/\∀p,H1 p=none->Q (.ref p) (aE H1 p (.ba xs))
theorem Il{x1}(h:PA X es t):PE X (.Tuple es x1 pos) (X0 t):=by
 intro pins s σ H Q I hq;refine alE (cK (h pos pins s σ H _ I hq) fun us s1 ⟨xs,H1,I1,r,z,q⟩=>⟨by rw[<-r.length];exact z,?_⟩);have hf:H1 s1.heap.objs.size=none:=I1.dc.fresh (afn _);refine⟨.ref s1.heap.objs.size,aE H1 s1.heap.objs.size (.dY xs),I1.ml (t':=s1.toks) (fun b u e=>afk _ e) (afn _) ?_,rfl,q _ hf⟩;exact⟨z,us,r,⟨_,afG _ rfl,rfl,_,rfl⟩⟩
theorem cp(h:PA X es t):PE X (.List es pos) (XU t):=by
 intro pins s σ H Q I hq;refine alO (cK (h pos pins s σ H _ I hq) fun us s1 ⟨xs,H1,I1,r,z,q⟩=>⟨by rw[<-r.length];exact z,?_⟩);have hf:H1 s1.heap.objs.size=none:=I1.dc.fresh (afn _);refine⟨.ref s1.heap.objs.size,aE H1 s1.heap.objs.size (.ba xs),I1.ml (t':=s1.toks) (fun b u e=>afk _ e) (afn _) ?_,rfl,q _ hf⟩;exact⟨z,us,0,r,afG _ rfl⟩
end
abbrev Sp:=List V->Hp->VK->XK->Prop
abbrev uc:=List Env->Hp->afA->XK->afe->afA->Prop
structure zO(P:afz)(w:af3)(K:afU)(mg:Str->Option afe)(base:age)(A:ahD)(outer:List Env)(s:afA)(H:Hp):Prop where
 frames:A.frames=some outer
 wJ:Mod K mg base
 bs:∀b o,base.get? b=some o->s.heap.get? b=some o/\H b=none
 Ju:base.objs.size<=s.heap.objs.size
 qC:s.heap.FunFrames base outer
 Om:∀b∈GB outer,H b=none
 dc:kE P w H s.heap
 bare:aly s.gens
def CE(outer:List Env)(P:afz)(w:af3)(H:Hp)(s:afA)(Q:VK)(u:afe)(s':afA):Prop:=
 ∃v H',s'.os=s.os/\aly s'.gens/\Un (GB outer) [] H H' s.heap s'.heap/\kE P w H' s'.heap/\bE v u/\Q v H'
def CR(CX:uc)(outer:List Env)(P:afz)(w:af3)(H:Hp)(s:afA)(Q:VK)(E:XK)(r:aiF)(s':afA):Prop:=
 match r with
 | .ok (.ret u)=>CE outer P w H s Q u s'
 | .ok _=>False
 | .error e=>CX outer H s E e s'
structure aT(P:afz)(w:af3)(K:afU)(mg:Str->Option afe)(base:age)(CX:uc)(k:Nat)(f:afb)(fd:afC)(ps:List Str)(sp:Sp):Prop where
 len:∀vs H Q E,sp vs H Q E->vs.length=ps.length
 run:∀(A:ahD) (outer:List Env) (s:afA) (H:Hp) (args:Args) (us:List afe) (vs:List V) (Q:VK) (E:XK),fF k A->zO P w K mg base A outer s H->al4 s fd args (ps.zip us)->bo vs us->sp vs H Q E->
  codeAny (model P w) A (.call (.ref f) args) (CR CX outer P w H s Q E) s
theorem zO.OV{outer:List Env}(e:zO P w K mg base A outer s H)(C:afb)(us:List afe)(kw:List (Str×afe)):
  zO P w K mg base (A.under (.builtin "type.__call__" ⟨.ref C::us,kw⟩)) outer s H:=⟨by first|exact e.frames|(simpa [al3,Code.abD,Code.isFrame,pushEnvs]using e.frames),e.wJ,e.bs,e.Ju,e.qC,e.Om,e.dc,e.bare⟩
theorem bb.Rl(I:bb X pins σ H s):zO X.prog X.w X.K X.mg X.base X.A X.stack s H:=
 ⟨I.ok.frames,I.ok.wJ,I.bs,afu I.ok.Ju I.sz,I.stack,I.Dc,I.dc,I.bare⟩
theorem bb.Mq{Q:VK}(I:bb X pins σ H s)(h:CE X.stack X.prog X.w H s Q u s'):EP X pins σ Q u s':=by
 obtain⟨v,H',os,bare,un,dc,r,q⟩:=h;obtain⟨hh,g,d,t,os'⟩:=s';obtain rfl:os'=s.os:=os;exact⟨v,H',I.call (h':=hh) (g':=g) (d':=d) (t':=t) (ch:=[]) un dc bare (fun b z=>absurd z (by simp)),r,q⟩
def NR(sp:Sp)(dvs:List V)(E:XK)(t:TA):TE:=fun σ H Q=>t σ H fun vs H1=>sp (vs++dvs) H1 Q E
inductive Ag(C:afb)(m:Str)(sp:Sp)(dvs:List V)(E:XK)(t:TA)(σ:St)(Q:VK)(x:V)(H1:Hp):Prop|m:∀a dx fs,x= .ref a->H1 a=some (.ins C dx fs)->fs.lookup m=none->(t σ H1 fun vs H2=>sp (x::(vs++dvs)) H2 Q E)->Ag C m sp dvs E t σ Q x H1
def De(C:afb)(m:Str)(sp:Sp)(dvs:List V)(E:XK)(ta:TE)(t:TA):TE:=fun σ H Q=>ta σ H fun x H1=>Ag C m sp dvs E t σ Q x H1
def Tp(C:afb)(sp:Sp)(dvs:List V)(E:XK)(t:TA):TE:=fun σ H Q=>t σ H fun vs H1=>∀x dx,H1 x=none->H1 dx=none->dx≠x->
 sp (.ref x::(vs++dvs)) (aE (aE H1 dx (.own x)) x (.ins C dx [])) (fun v H2=>v= .gw/\Q (.ref x) H2) E
def eY(K:afU)(fd:afC)(ps:List Str)(ds:List afe):Prop:=
 ∀(s:afA) (us:List afe),K.In s.heap->(us++ds).length=ps.length->al4 s fd ⟨us,[]⟩ (ps.zip (us++ds))
theorem eY.all(h:∀us:List afe,us.length=ps.length->bindArgs fd ⟨us,[]⟩=pure (ps.zip us)):eY K fd ps []:=fun s us _ hl=>by
 rw[af5]at hl⊢;exact .of_eq (h us hl)
def mz(CX:uc)(X:Cx)(E:XK):Prop:=∀(pins:List (afb×Obj)) (σ:St) (H:Hp) (s:afA) (e:afe) (s':afA),bb X pins σ H s->CX X.stack H s E e s'->X.xe e s'
section
variable{k:Nat}{f:afb}{sp:Sp}{dvs:List V}{ds:List afe}{E:XK}{o:agP}{t:TA}
theorem xa{Q:VK}{vs:List V}(F:aT X.prog X.w X.K X.mg X.base CX k f fd ps sp)(hr:fF k X.A)(hb:eY X.K fd ps ds)(hd:bo dvs ds)(hx:mz CX X E)
  (I:bb X pins σ H s) (r:bo vs us) (h:sp (vs++dvs) H Q E):wpAny (model X.prog X.w) X.A (call (.ref f) us) (EP X pins σ Q) X.xe s:=by
 have r2:bo (vs++dvs) (us++ds):=r.append hd;have hl:(us++ds).length=ps.length:=by rw[<-r2.length];exact F.len _ _ _ _ h
 refine alP (ai4 (F.run X.A X.stack s H ⟨us,[]⟩ (us++ds) (vs++dvs) Q E hr I.Rl (hb s us I.u5 hl) r2 h) fun r s' hq=> ?_);cases r with
 |error e=>exact hx pins σ H s e s' I hq
 |ok fl=>
  cases fl with
  |ret u=>exact I.Mq hq
  |next=>exact ahh hq
  |brk=>exact ahh hq
  |cont=>exact ahh hq
theorem bh(F:aT X.prog X.w X.K X.mg X.base CX k f fd ps sp)(hr:fF k X.A)(hg:Gl X x)(hm:X.mg x=some (.ref f))(hk:keepIn X.K (.ref f)=true)(hb:eY X.K fd ps ds)(hd:bo dvs ds)(hx:mz CX X E)
  (ha:PA X (e::es) t) (Km:(x==("__debug__":Str))=false:=by decide) (he:starEach (e::es) X.env=(false,eval e X.env)::starEach es X.env:=by rfl) (kf:(backTo pos (starEach es X.env)).any (·.1)=false:=by rfl):
  PE X (.Call (.Name x p) (e::es) [] pos) (NR sp dvs E t):=by
 intro pins s σ H Q I h;refine ahR (wD I hg hm ?_ Km);refine aj9 (h₀:=X.base) I.ok.wJ.Sn hk (cK (ha pos pins s σ H _ I h) fun us s1 ⟨vs,H1,I1,r,q⟩=>⟨I1.u5,?_⟩) he kf;exact xa F hr hb hd hx I1 r q
theorem hG(he:PE X o ta)(c:zF X.K C)(hm:Dj X.K C m f)(F:aT X.prog X.w X.K X.mg X.base CX k f fd ps sp)(hr:fF k X.A)(hb:eY X.K fd ps ds)(hd:bo dvs ds)(hx:mz CX X E)(ha:PA X (e::es) t)
  (yE:starEach (e::es) X.env=(false,eval e X.env)::starEach es X.env:=by rfl) (kf:(backTo pos (starEach es X.env)).any (·.1)=false:=by rfl)
  (ht:eval (.Call (.Attribute o m eI) (e::es) [] pos) X.env=(do
   let ov<-eval o X.env
   standAt eI.atName
   let(f,first)<-holding [ov] (getMethod ov m pl)
   callWith pos f first (backTo pos (starEach (e::es) X.env)) (backToKw pos (keywordEach [] X.env))):=by rfl):
  PE X (.Call (.Attribute o m eI) (e::es) [] pos) (De C m sp dvs E ta t):=by
 intro pins s σ H Q I h;refine ajm (pl:=pl) (cK (he pins s σ H _ I h) fun u s1 ⟨x,H1,I1,rx,a,dx,fs,ex,ea,l,q⟩=> ?_) ht;subst ex;obtain rfl:u=afZ a:=rx;refine mQ I1 ea c hm l ?_;refine aj9 (first:=[.ref a]) (h₀:=X.base) I.ok.wJ.Sn hm.kp (cK (ha pos pins s1 σ H1 _ I1 q) fun us s2 ⟨vs,H2,I2,r,q2⟩=>⟨I2.u5,?_⟩) yE kf;exact xa (us:= .ref a::us) (vs:= .ref a::vs) F hr hb hd hx I2 (.cons rfl r) q2
theorem lq(he:PE X o ta)(c:zF X.K C)(hm:Dj X.K C m f)(F:aT X.prog X.w X.K X.mg X.base CX k f fd ps sp)(hr:fF k X.A)(hb:eY X.K fd ps ds)(hd:bo dvs ds)(hx:mz CX X E)
  (ht:eval (.Call (.Attribute o m eI) [] [] pos) X.env=(do
   let ov<-eval o X.env
   standAt eI.atName
   let(f,first)<-holding [ov] (getMethod ov m pl)
   callWith pos f first (backTo pos (starEach [] X.env)) (backToKw pos (keywordEach [] X.env))):=by rfl):
  PE X (.Call (.Attribute o m eI) [] [] pos) (De C m sp dvs E ta Me):=by
 intro pins s σ H Q I h;refine ajm (pl:=pl) (cK (he pins s σ H _ I h) fun u s1 ⟨x,H1,I1,rx,a,dx,fs,ex,ea,l,q⟩=> ?_) ht;subst ex;obtain rfl:u=afZ a:=rx;refine mQ I1 ea c hm l ?_;exact alF (first:=[.ref a]) I1.u5 hm.kp (xa (us:=[.ref a]) (vs:=[.ref a]) F hr hb hd hx I1 (.cons rfl .nil) q)
structure Mk(K:afU)(C f:afb):Prop where
 Sr:makesIn K C=true
 init:findIn K (.ref C) "__init__"=some (some (.ref f))
 fn:isFn K (.ref f)=true
 kp:keepIn K (.ref C)=true
theorem IF{Q:VK}{vs:List V}(M:Mk X.K C f)(F:aT X.prog X.w X.K X.mg X.base CX k f fd ps sp)(hr:fF (k+1) X.A)(hb:eY X.K fd ps ds)(hd:bo dvs ds)
  (hx:mz CX X E) (I:bb X pins σ H s) (r:bo vs us)
  (h:∀x dx,H x=none->H dx=none->dx≠x->sp (.ref x::(vs++dvs)) (aE (aE H dx (.own x)) x (.ins C dx [])) (fun v H2=>v= .gw/\Q (.ref x) H2) E):
  wpAny (model X.prog X.w) X.A (call (.ref C) us) (EP X pins σ Q) X.xe s:=by
 have hq:=h (s.heap.objs.size+1) s.heap.objs.size (I.dc.fresh (ahx _)) (I.dc.fresh (afn _)) (agw (akA _));have I2:=bb.made (C:=C) I;have r2:bo (V.ref (s.heap.objs.size+1)::(vs++dvs)) (afZ (s.heap.objs.size+1)::(us++ds)):= .cons rfl (r.append hd);have hl:(afZ (s.heap.objs.size+1)::us++ds).length=ps.length:=by
  have e:=r2.length;rw[F.len _ _ _ _ hq]at e;exact e.symm
 refine alP (Hb (f:=f) I.u5 M.Sr M.init (ajp.mp M.fn) (ai4 (F.run _ X.stack _ _ ⟨afZ (s.heap.objs.size+1)::us,[]⟩ (afZ (s.heap.objs.size+1)::(us++ds)) _ _ E (hr.OV C us [])
  (I2.Rl.OV C us []) (hb _ (afZ (s.heap.objs.size+1)::us) I2.u5 hl) r2 hq) fun r s' Cd=> ?_))
 cases r with
 |error e=>exact hx pins σ _ _ e s' I2 Cd
 |ok fl=>
  cases fl with
  |ret u=>
   obtain⟨v,H',I3,rv,ev,q3⟩:=I2.Mq Cd;subst ev;exact⟨rv,⟨V.ref (s.heap.objs.size+1),H',I3,rfl,q3⟩⟩
  |next=>exact ahh Cd
  |brk=>exact ahh Cd
  |cont=>exact ahh Cd
theorem sL(M:Mk X.K C f)(F:aT X.prog X.w X.K X.mg X.base CX k f fd ps sp)(hr:fF (k+1) X.A)(hg:Gl X x)(hm:X.mg x=some (.ref C))(hb:eY X.K fd ps ds)(hd:bo dvs ds)(hx:mz CX X E)
  (Km:(x==("__debug__":Str))=false:=by decide):PE X (.Call (.Name x p) [] [] pos) (Tp C sp dvs E Me):=by
 intro pins s σ H Q I h;refine ahR (wD I hg hm ?_ Km);exact alF I.u5 M.kp (IF (us:=[]) M F hr hb hd hx I .nil h)
end
structure au(N P:List Str)(sc:ahM):Prop where
 kind:sc.kind= .function
 co:sc.isCoroutine=false
 gen:sc.isGenerator=false
 nd:N.Nodup
 pre:N.take P.length=P
 ZU:∀x∈P,sc.names.lookup x=some .local\/sc.names.lookup x=some .cell
 O1:∀y∈sc.names,y.2≠ .free
theorem uG{kindOf:Str->Option agJ}{x:Str}:∀{binds:List (Str×afe)} {m:Str->Option afe},(∀v,(x,v)∉binds)->bindL kindOf binds m x=m x
 | [],_,_=>rfl
 |(n,v)::r,m,h=>by
  unfold bindL;rw[uG fun w hw=>h w (afs _ hw)];split
  .have:x≠n:=by rintro rfl;exact h v af2
   simp[this]
  .rfl
theorem uE{kindOf:Str->Option agJ}{x:Str}:∀{binds:List (Str×afe)} {m:Str->Option afe},(∀v,(x,v)∉binds)->bindC kindOf binds m x=m x
 | [],_,_=>rfl
 |(n,v)::r,m,h=>by
  unfold bindC;rw[uE fun w hw=>h w (afs _ hw)];split
  .rfl
  .have:x≠n:=by rintro rfl;exact h v af2
   simp[this]
theorem uF{kindOf:Str->Option agJ}{x:Str}{v:afe}:∀{P:List Str} {vs:List afe} {i:Nat} {m:Str->Option afe},P.Nodup->P[i]? =some x->vs[i]? =some v->kindOf x=some .local->
  bindL kindOf (P.zip vs) m x=some v
 | [],_,_,_,_,h,_,_=>by simp at h
 |_::_,[],_,_,_,_,h,_=>by simp at h
 |p::P,w::vs,0,m,nd,h1,h2,hk=>by
  simp at h1 h2;subst h1;subst h2;show bindL kindOf ((p,w)::P.zip vs) m p=_;unfold bindL;rw[uG fun v hv=>(afE.mp nd).1 (ah1 hv).1,afh hk];simp
 |p::P,w::vs,i+1,m,nd,h1,h2,hk=>by
  show bindL kindOf ((p,w)::P.zip vs) m x=_;unfold bindL;exact uF (i:=i) (afE.mp nd).2 (by simpa using h1) (by simpa using h2) hk
theorem uD{kindOf:Str->Option agJ}{x:Str}{v:afe}:∀{P:List Str} {vs:List afe} {i:Nat} {m:Str->Option afe},P.Nodup->P[i]? =some x->vs[i]? =some v->kindOf x≠some .local->
  bindC kindOf (P.zip vs) m x=some v
 | [],_,_,_,_,h,_,_=>by simp at h
 |_::_,[],_,_,_,_,h,_=>by simp at h
 |p::P,w::vs,0,m,nd,h1,h2,hk=>by
  simp at h1 h2;subst h1;subst h2;show bindC kindOf ((p,w)::P.zip vs) m p=_;unfold bindC;rw[uE fun v hv=>(afE.mp nd).1 (ah1 hv).1,afc hk];simp
 |p::P,w::vs,i+1,m,nd,h1,h2,hk=>by
  show bindC kindOf ((p,w)::P.zip vs) m x=_;unfold bindC;exact uD (i:=i) (afE.mp nd).2 (by simpa using h1) (by simpa using h2) hk
def start(N:List Str)(vs:List V):St:=vs.map some++afO (N.length-vs.length) none
def zY(CX:uc)(P:afz)(w:af3)(K:afU)(mg:Str->Option afe)(base:age)(N:List Str)(qual:Str)(scope:ahM)(f:afb)(cd:afe)(A:ahD)(outer:List Env)(s:afA)(H:Hp)(E:XK):Cx where
 prog:=P
 w:=w
 K:=K
 mg:=mg
 base:=base
 A:=A.deeper (envOfC qual scope s.heap.objs.size f cd)
 N:=N
 s_0:=s
 H_0:=H
 env:=envOfC qual scope s.heap.objs.size f cd
 outer:=outer
 stack:=envOfC qual scope s.heap.objs.size f cd::outer
 ex:=[]
 calm:=true
 fn:=fun _=>true
 pn:=[]
 xe:=fun e s'=>wpAny (model P w) (A.deeper (envOfC qual scope s.heap.objs.size f cd)) (leaving (envOfC qual scope s.heap.objs.size f cd) e) (fun _ XF=>CX outer H s E e XF) (fun e' XF=>CX outer H s E e' XF) s'
theorem xZ{sc:ahM}(h:sc.names.lookup x=some .cell):∃c,(cellsFrom n sc.names []).lookup x=some c:=by
 have q:=akR sc.names n [] (.inl h);exact akq.mp q
theorem DU{f:afb}{cd:afe}{outer:List Env}{s1:afA}{E:XK}{vs:List V}
  (S:au N ps scope) (hd:A.handled=none) (e0:zO P w K mg base A outer s H) (hl:vs.length=ps.length) (r:bo vs us)
  (x:InCallC s s.heap.objs.size (bindL (envOfC qual scope s.heap.objs.size f cd).kindOf (ps.zip us) fun _=>none) (cellsFrom (s.heap.objs.size+1) scope.names []) (bindC (envOfC qual scope s.heap.objs.size f cd).kindOf (ps.zip us) fun _=>none) s1):
  bb (zY CX P w K mg base N qual scope f cd A outer s H E) [] (start N vs) H s1:=by
 have kf:ps.length<=N.length:=by have:=congrArg ahN S.pre;rw[afW]at this;omega
 obtain⟨h1,tk,rfl,hk⟩:=x.done;have QA:∀b:afb,b∉(zY CX P w K mg base N qual scope f cd A outer s H E).ex:=fun b z=>absurd (show b∈([]:List afb)from z) (by simp)
 refine⟨⟨e0.wJ,S.kind,rfl,rfl,afn _,fun y z c h1 h2=> ?_,fun y hy=> ?_,fun y c _ h=> ?_,fun _=>hd,Around.frames_deeper e0.frames,.inr ⟨rfl,rfl⟩,fun b z=>absurd z (QA b),e0.bs,e0.Ju,fun b _ _=>QA b,fun b z=>absurd z (QA b),e0.qC,e0.Om⟩,
  rfl,e0.bare,Un.kept hk,⟨_,x.toInCall.ns,fun i y v h1 h2 h3=> ?_⟩,fun y c h=>⟨_,x.cell y c h⟩,e0.dc.fresh (afn _),fun y c h=> ?_,fun p hp=>absurd (show p∈([]:List (afb×Obj))from hp) (by simp),e0.dc.kept hk,?_⟩
 .exact name_of_addr x.apart (agv h1) (agv h2)
 .have hy:scope.names.lookup y=some .cell\/scope.names.lookup y=some .free:=hy;rcases hy with hy|hy
  .exact xZ hy
  .exact absurd rfl (S.O1 _ (agv hy))
 .exact agC (x.above y c (agv h))
 .have hi:i<vs.length:=by
   unfold start at h2;by_cases hi:i<vs.length
   .exact hi
   .rw[agt (by simpa using hi)]at h2;rw[List.getElem?_replicate]at h2;split at h2<;>cases h2
  have ha:vs[i]? =some v:=by
   unfold start at h2;rw[agK (by simpa using hi),afw]at h2;cases e:vs[i]? with
   |none=>rw[e]at h2;cases h2
   |some a=>rw[e]at h2;cases h2;rfl
  obtain⟨u,hu,rv⟩:=r.get ha;have hp:ps[i]? =some y:=by
   rw[<-S.pre,akr (by omega)];exact h1
  have ZL:ps.Nodup:=by rw[<-S.pre];exact S.nd.sublist (al5 _ _)
  refine⟨u,rv,?_⟩;rcases S.ZU y (afo hp)with k|k
  .exact .inl ⟨k,uF ZL hp hu k⟩
  .obtain⟨c,e⟩:=xZ (n:=s.heap.objs.size+1) k;refine .inr ⟨.inl k,c,e,?_⟩;have q:=x.cell y c e;rw[uD ZL hp hu (by show scope.names.lookup y≠_;rw[k];decide)]at q;exact q
 .exact e0.dc.fresh (agC (x.above y c (agv h)))
 .unfold start;show _=N.length;rw[afa,ae9,ag0];omega
theorem Rn{k:Nat}{f:afb}{params:anr}{dV kV doc pm ke ct oc:afe}{an od:Option afb}
  {JH:Array (Option afe)} {N ps:List Str} {sp:Sp} (lk:K.lookup f=some ⟨oc,od,.func (fnOf name qual params body scope dV kV doc pm an ke ct),JH⟩) (JB:codeIn K ke qual=true) (S:au N ps scope)
  (len:∀vs H Q E,sp vs H Q E->vs.length=ps.length)
  (GG:∀(A:ahD) (outer:List Env) (s:afA) (H:Hp) (vs:List V) (Q:VK) (E:XK),fF k (A.deeper (envOfC qual scope s.heap.objs.size f ke))->sp vs H Q E->
   ∃t,Bg (zY CX P w K mg base N qual scope f ke A outer s H E) body t/\t {nx:=fun _ H'=>Q .gw H',rt:=Q} (start N vs) H):
  aT P w K mg base CX (k+1) f (fnOf name qual params body scope dV kV doc pm an ke ct) ps sp:=by
 refine⟨len,fun A outer s H args us vs Q E hr e0 hb r DR=> ?_⟩;have hl:=len _ _ _ _ DR;have KX:K.In s.heap:=e0.wJ.Sn.keeps fun b o e=>(e0.bs b o e).1
 have lim:s.heap.NoLimit:=e0.wJ.nolimit.keeps fun b o e=>(e0.bs b o e).1
 have RZ:∀y∈ps.zip us,scope.names.lookup y.1=some .local\/(scope.names.lookup y.1=some .cell/\((cellsFrom (s.heap.objs.size+1) scope.names []).lookup y.1).isSome=true):=fun⟨n,v⟩ hy=>by
  rcases S.ZU n (ah1 hy).1 with q|q
  .exact .inl q
  .exact .inr ⟨q,akR _ _ _ (.inl q)⟩
 refine codeAny_call_function hr.depth (KX _ _ lk) rfl S.co S.gen rfl (PySem.W.codeRec_of KX JB) (hb _ _ _ _ ?_);refine wpAny_newFunctionEnv_cells S.kind RZ fun env he s1 x=> ?_
 subst he;refine⟨lim.keeps x.toInCall.keep,codeAny_func ?_⟩;obtain⟨t,ht,hq⟩:=GG A outer s H vs Q E (hr.deeper _) DR;have I:bb (zY CX P w K mg base N qual scope f ke A outer s H E) [] (start N vs) H s1:=DU S hr.hd e0 hl r x;refine ahF (ht [] s1 (start N vs) H _ I hq) (fun fl s' hs=> ?_) fun e s' hs=>hs
 have fin:∀{σ':St} {H':Hp} {v:V} {u:afe},bb (zY CX P w K mg base N qual scope f ke A outer s H E) [] σ' H' s'->bE v u->Q v H'->CE outer P w H s Q u s':=
  fun{σ' H' v u} J rv q=>⟨v,H',J.os,J.bare,J.base,J.dc,rv,q⟩
 cases fl with
 |ret u=>
  obtain⟨v,σ',H',J,rv,q⟩:=hs;exact fin J rv q
 |next=>
  obtain⟨σ',H',J,q⟩:=hs;exact fin (v:=V.gw) (u:=ahQ) J rfl q
 |brk=>
  obtain⟨_,_,_,q⟩:=hs;exact ahh q
 |cont=>
  obtain⟨_,_,_,q⟩:=hs;exact ahh q
section
variable{t:TA}{id:String}{r:List V->Hp->VK->Prop}
def Z1(r:List V->Hp->VK->Prop)(t:TA):TE:=fun σ H Q=>t σ H fun vs H1=>r vs H1 Q
theorem aN(hc:p9 X (.builtin id) r)(hg:Gl X x)(hm:X.mg x=none)(hv:bootBuiltins x=some (.builtin id))(ha:PA X (e::es) t)(hn:x≠"__name__":=by decide)(Km:(x==("__debug__":Str))=false:=by decide)
  (he:starEach (e::es) X.env=(false,eval e X.env)::starEach es X.env:=by rfl) (kf:(backTo pos (starEach es X.env)).any (·.1)=false:=by rfl):PE X (.Call (.Name x p) (e::es) [] pos) (Z1 r t):=by
 intro pins s σ H Q I h;refine ahR (j0 I hg hm hv ?_ hn Km);exact amj (cK (ha pos pins s σ H _ I h) fun us s1 ⟨vs,H1,I1,r1,q1⟩=>hc pins s1 σ H1 vs us Q I1 r1 q1) he kf
theorem gX(hc:p9 X (.type T) r)(hg:Gl X x)(hm:X.mg x=none)(hv:bootBuiltins x=some (.type T))(ha:PA X (e::es) t)(hn:x≠"__name__":=by decide)(Km:(x==("__debug__":Str))=false:=by decide)
  (he:starEach (e::es) X.env=(false,eval e X.env)::starEach es X.env:=by rfl) (kf:(backTo pos (starEach es X.env)).any (·.1)=false:=by rfl):PE X (.Call (.Name x p) (e::es) [] pos) (Z1 r t):=by
 intro pins s σ H Q I h;refine ahR (j0 I hg hm hv ?_ hn Km);exact ag2 (cK (ha pos pins s σ H _ I h) fun us s1 ⟨vs,H1,I1,r1,q1⟩=>hc pins s1 σ H1 vs us Q I1 r1 q1) he kf
end
end L2
namespace HT
open PySem PyProof.Rows
def vv(n d:Nat):Option Int->Nat
 |none=>d
 |some v=>if v<0 then(v+(n:Int)).toNat else min v.toNat n
theorem sR(n d:Nat):vv n d none=d:=rfl
theorem oP(n d k:Nat):vv n d (some (k:Int))=min k n:=by
 show(if(k:Int)<0 then((k:Int)+(n:Int)).toNat else min (k:Int).toNat n)=min k n;rw[afc (by omega),ah4]
end HT
namespace L2
open PySem PySem.Spec PyProof.Rows
open PySem.W (Frag fnOf keepIn mg_of findIn nsIn emptyDict plainGet hasDictIn isFn makesIn codeIn plainOver)
variable{xs ys:List V}{aR us:List afe}{m name qual x:Str}{u v:afe}{H H' H1:Hp}{C a b dx it l z:afb}{o:Option V}{P prog:afz}{w:af3}{base h h':age}{c e e2 iter tg value:agP}{X:Cx}{pins:List (afb×Obj)}{σ:St}{s s':afA}{i j kk n t':Nat}{ch fp:List afb}{N ps:List Str}{M:aj4}{A:ahD}{E Q:afe->afA->Prop}{ta td te ty:TE}{tb:TS}{R:aiF->afA->Prop}{eI p pos iH jc:Pos}{op:ajA}{y:V}{K:afU}{D:iD}{st:afP}{js es nU:List agP}{g:TG}{body:List afP}{pl:Sem Bool}{wi:TI}{mA mg:Str->Option afe}{kw:List (Str×afe)}{env:Env}{fd:afC}{CX:uc}{ds:List ahB}{kindOf:Str->Option agJ}{scope:ahM}{T:String}{items:Array afe}{cells:List (Str×afb)}{own:List (Str×Nat)}{tt:TT}{aQ:List (List br×V)}
abbrev TO:=St->Hp->(Option Int->Hp->Prop)->Prop
def PO(X:Cx)(e:Option agP)(t:TO):Prop:=
 ∀(pins:List (afb×Obj)) (s:afA) (σ:St) (H:Hp) (Q:Option Int->Hp->Prop),bb X pins σ H s->t σ H Q->
  wpAny (model X.prog X.w) X.A (evalPart e X.env) (fun u s'=>∃o H',bb X pins σ H' s'/\IsPart u o/\Q o H') X.xe s
def Mf:TO:=fun _ H Q=>Q none H
inductive G4(Q:Option Int->Hp->Prop)(x:V)(H1:Hp):Prop|m:∀i,x= .int i->Q (some i) H1->G4 Q x H1
def Tr(t:TE):TO:=fun σ H Q=>t σ H fun x H1=>G4 Q x H1
section
variable{lo hi:Option agP}{tl th:TO}{p2:Pos}
theorem hX:PO X none Mf:=by
 intro pins s σ H Q I h;rw[evalPart_none];exact afX ⟨none,H,I,.none,h⟩
theorem cv(h:PE X e te):PO X (some e) (Tr te):=by
 intro pins s σ H Q I hw;rw[evalPart_some];refine cK (h pins s σ H _ I hw) fun u s1 ⟨x,H1,I1,r1,q1⟩=> ?_
 obtain⟨i,rfl,q⟩:=q1;obtain⟨t,rfl⟩:=r1;exact⟨some i,H1,I1,.int i t,q⟩
def UT(X:Cx)(r:V->Option Int->Option Int->Hp->VK->Prop):Prop:=
 ∀(pins:List (afb×Obj)) (s:afA) (σ:St) (H:Hp) (x:V) (v vl vu:afe) (lo hi:Option Int) (sl:afb) (Q:VK),bb X pins σ H s->bE x v->s.heap.IsSliceOf sl vl vu .none->IsPart vl lo->IsPart vu hi->r x lo hi H Q->
  ∃T id,typeLookup (.type T) "__getitem__"=pure (some (.builtin id))/\s.TypeIs v T/\wpAny (model X.prog X.w) X.A (getItem v (.ref sl)) (EP X pins σ Q) X.xe s
def tSl(r:V->Option Int->Option Int->Hp->VK->Prop)(te:TE)(tl th:TO):TE:=fun σ H Q=>te σ H fun x H1=>tl σ H1 fun l H2=>th σ H2 fun u H3=>r x l u H3 Q
theorem dq{r:V->Option Int->Option Int->Hp->VK->Prop}(hr:UT X r)(he:PE X e te)(hl:PO X lo tl)(hu:PO X hi th):PE X (.Subscript e (.Slice lo hi none p2) pos) (tSl r te tl th):=by
 intro pins s σ H Q I h;refine amI (cK (he pins s σ H _ I h) fun v s1 ⟨x,H1,I1,r1,q1⟩=> ?_);refine wpAny_Slice (cK (hl pins s1 σ H1 _ I1 q1) fun vl s2 ⟨l,H2,I2,pl,q2⟩=>cK (hu pins s2 σ H2 _ I2 q2) fun vu s3 ⟨u,H3,I3,pu,q3⟩=> ?_);rw[evalPart_none];refine afX ?_;have I4:bb X pins σ H3 {s3 with heap:=s3.heap.push {cls:= .type "slice",data:= .fields #[vl,vu,.none]}}:=I3.kept (t':=s3.toks) fun b ob q=>afk _ q
 obtain⟨T,id,hT,ht,hg⟩:=hr pins {s3 with heap:=s3.heap.push {cls:= .type "slice",data:= .fields #[vl,vu,.none]}} σ H3 x v vl vu l u s3.heap.objs.size Q I4 r1 (anV ..) pl pu q3;show wpAny (model X.prog X.w) X.A (subscriptTail e (.Slice lo hi none p2) v (.ref s3.heap.objs.size)) (EP X pins σ Q) X.xe {s3 with heap:=s3.heap.push {cls:= .type "slice",data:= .fields #[vl,vu,.none]}};exact tail_any (ops:=[.ref s3.heap.objs.size,v]) ht hT hg (by with_unfolding_all rfl)
def x4(xs:List V)(lo hi:Option Int):List V:=(xs.drop (HT.vv xs.length 0 lo)).take (HT.vv xs.length xs.length hi-HT.vv xs.length 0 lo)
theorem x5(xs:List V)(lo hi:Option Int):(x4 xs lo hi).length<=xs.length:=by
 unfold x4;rw[afW,agp];omega
end
def nV(n:Nat)(i:Int):Option Nat:=if 0<=i then(if i<n then some i.toNat else none)else if-(n:Int)<=i then some (i+n).toNat else none
def pB{α:Type}(xs:List α)(i:Int):Option α:=(nV xs.length i).bind fun j=>xs[j]?
theorem Cg{i:Int}(h:nV n i=some j):seqIndex? i n=some j/\j<n/\-(n:Int)<=i/\i<n:=by
 unfold nV at h;by_cases h0:0<=i
 .rw[afh h0]at h;by_cases h1:i<n
  .rw[afh h1]at h;have e:i.toNat=j:=aft h;exact⟨by rw[amv h0 h1,e],by omega,by omega,h1⟩
  .rw[afc h1]at h;cases h
 .rw[afc h0]at h;by_cases h1: -(n:Int)<=i
  .rw[afh h1]at h;have e:(i+n).toNat=j:=aft h;exact⟨by rw[al6 (by omega) h1,e],by omega,h1,by omega⟩
  .rw[afc h1]at h;cases h
theorem Bh{α:Type}{xs:List α}{i:Int}{v:α}(h:pB xs i=some v):∃j,seqIndex? i xs.length=some j/\xs[j]? =some v/\j<xs.length/\-(xs.length:Int)<=i/\i<xs.length:=by
 unfold pB at h;cases e:nV xs.length i with
 |none=>rw[e]at h;cases h
 |some j=>
  rw[e]at h;obtain⟨h1,h2,h3,h4⟩:=Cg e;exact⟨j,h1,h,h2,h3,h4⟩
theorem oh{α:Type}{xs:List α}{v:α}(h:xs[j]? =some v):pB xs (j:Int)=some v:=by
 have hj:j<xs.length:=(afd.mp h).1;have e:nV xs.length (j:Int)=some j:=by
  unfold nV;rw[afh (by omega),afh (by omega)];simp
 unfold pB;rw[e];exact h
theorem Fz{α:Type}(xs:List α)(v:α):pB (xs++ [v]) (-1)=some v:=by
 have hl:(xs++ [v]).length=xs.length+1:=by simp
 have e:nV (xs++ [v]).length (-1)=some xs.length:=by
  unfold nV;rw[hl,afc (by decide),afh (by omega)];congr 1;omega
 unfold pB;rw[e];show(xs++ [v])[xs.length]? =some v;simp
def JL(b:agP):Prop:=∀o i,subscripted b false o i=operate [o,i] (getItem o i)
def UN(X:Cx)(r:R2):Prop:=
 ∀(value oU:agP) (pins:List (afb×Obj)) (s:afA) (σ:St) (H:Hp) (x y:V) (v u:afe) (Q:VK),bb X pins σ H s->bE x v->bE y u->r x y H Q->
  subscripted oU false v u=operate [v,u] (getItem v u)->wpAny (model X.prog X.w) X.A (subscriptTail value oU v u) (EP X pins σ Q) X.xe s
def UP(X:Cx)(id:String)(r:V->List V->Hp->VK->Prop):Prop:=
 ∀(pins:List (afb×Obj)) (s:afA) (σ:St) (H:Hp) (x:V) (xs:List V) (v:afe) (us:List afe) (Q:VK),bb X pins σ H s->bE x v->bo xs us->r x xs H Q->
  wpAny (model X.prog X.w) X.A (call (.builtin id) (v::us)) (EP X pins σ Q) X.xe s
section
variable{a b:agP}{tb:TE}
theorem aG{r:R2}(hr:UN X r)(ha:PE X a ta)(hb:PE X b tb)(hs:JL b:=by exact fun _ _=>rfl):PE X (.Subscript a b pos) (UI r ta tb):=by
 intro pins s σ H Q I h;exact amI (N6 ha hb I h fun v u s2 x y H2 I2 rx ry q=>hr a b pins s2 σ H2 x y v u Q I2 rx ry q (hs _ _))
inductive EO(K:afU)(x:V)(y:V)(H:Hp)(Q:VK):Prop|m:∀p xs i v,x= .ref p->y= .int i->aJ K H p xs->pB xs i=some v->Q v H->EO K x y H Q
inductive ER(K:afU)(x:V)(y:V)(H:Hp)(Q:VK):Prop|m:∀p xs i v,x= .ref p->y= .int i->gF K H p xs->pB xs i=some v->Q v H->ER K x y H Q
theorem aA:UN X (EO X.K):=by
 intro value oU pins s σ H x y v u Q I rx ry h hs;obtain⟨p,xs,i,z,rfl,rfl,hq,he,q⟩:=h;cases rx;obtain⟨t,rfl⟩:=ry;obtain⟨aR,r,pl,hz⟩:=I.list hq;obtain⟨j,h1,h2,h3,h4,h5⟩:=Bh he;obtain⟨w,ew,xb⟩:=r.get h2;have hl:=r.length;have hn:=wF;have fin:EP X pins σ Q w s:=⟨z,H,I,xb,q⟩;by_cases h0:0<=i
 .have hj:i.toNat=j:=by
   rw[amv h0 h5]at h1;exact aft h1
  exact item_listR pl.isList h0 (by omega) (by rw[hj];simpa using ew) fin hs
 .have hj:(i+(aR.toArray.size:Int)).toNat=j:=by
   rw[al6 (by omega) h4]at h1;rw[afJ,<-hl];exact aft h1
  exact akS (x:=w) pl.isList.typeIs al7.lookup
   (wpAny_getItem_list_neg (Q:=fun r s'=>r=w/\EP X pins σ Q r s') pl.isList (by omega) (by rw[afJ]<;>omega) (by omega) (by rw[hj];simpa using ew) ⟨rfl,fin⟩) hs
theorem eJ:UN X (ER X.K):=by
 intro value oU pins s σ H x y v u Q I rx ry h hs;obtain⟨p,xs,i,z,rfl,rfl,hq,he,q⟩:=h;cases rx;obtain⟨t,rfl⟩:=ry;obtain⟨aR,r,pl,hz⟩:=I.tuple hq;obtain⟨j,h1,h2,h3,h4,h5⟩:=Bh he;obtain⟨w,ew,xb⟩:=r.get h2;have hl:=r.length;have hn:=wF;have fin:EP X pins σ Q w s:=⟨z,H,I,xb,q⟩;exact akS (x:=w) pl.typeIs slot_tuple_getitem.lookup
  (getItem_tuple (j:=j) (Q:=fun r s'=>r=w/\EP X pins σ Q r s') pl (by omega) (by omega) (by rw[afJ,<-hl];exact h1) (by simpa using ew) ⟨rfl,fin⟩) hs
theorem An(aR:List afe)(n j:Nat)(u:afe):ahj (·.setIfInBounds j u) {cls:= .type "list",data:= .seq aR.toArray n}={cls:= .type "list",data:= .seq (aR.set j u).toArray n}:=by
 simp[ahj]
theorem bb.ba{p:afb}(I:bb X pins σ H s)(h:H p=some (.ba xs)):
  ∃(aR:List afe) (n:Nat),bo xs aR/\s.heap.get? p=some {cls:= .type "list",data:= .seq aR.toArray n}/\xs.length<=sizeLine:=by
 obtain⟨z,aR,n,r,e⟩:=I.dc p _ h;exact⟨aR,n,r,e,z⟩
theorem bb.OU{p:afb}{its':List afe}{n':Nat}{f:Obj->Obj}(I:bb X pins σ H s)(h:H p=some (.ba xs))
  (ho:s.heap.get? p=some {cls:= .type "list",data:= .seq aR.toArray n}) (hf:f {cls:= .type "list",data:= .seq aR.toArray n}={cls:= .type "list",data:= .seq its'.toArray n'}) (r:bo ys its') (hz:ys.length<=sizeLine) (t:Nat):
  bb X pins σ (aE H p (.ba ys)) {s with heap:=s.heap.update p f,toks:=t}:=by
 have e:(s.heap.update p f).get? p=some {cls:= .type "list",data:= .seq its'.toArray n'}:=by
  rw[ahq f ho (by rw[hf]<;>rfl),hf]
 refine I.pk (x:=p) (e:=p) (by rw[h];trivial) (.inl rfl) (fun b u hb q=>(agQ _ _ (agU hb)).trans q) ⟨_,e⟩ ?_;exact⟨hz,its',n',r,e⟩
inductive NJ(o:V)(i:V)(v:V)(H:Hp)(Q:(Hp->Prop)):Prop|m:∀p xs k j,o= .ref p->i= .int k->H p=some (.ba xs)->nV xs.length k=some j->Q (aE H p (.ba (xs.set j v)))->NJ o i v H Q
theorem zi:QO X NJ:=by
 intro pins s σ H o i v ov iv u Q I ro ri rv h;obtain⟨p,xs,k,j,rfl,rfl,hp,hj,q⟩:=h;cases ro;obtain⟨t,rfl⟩:=ri;obtain⟨aR,n,r,ho,hz⟩:=I.ba hp;obtain⟨h1,h2,h3,h4⟩:=Cg hj;have hl:=r.length;have hn:=wF;have I':bb X pins σ (aE H p (.ba (xs.set j v))) {s with heap:=s.heap.update p (ahj (·.setIfInBounds j u))}:=
  I.OU hp ho (An aR n j u) (r.set rv j) (by rw[ak3];exact hz) s.toks
 by_cases h0:0<=k
 .have hk:k.toNat=j:=by
   rw[amv h0 h4]at h1;exact aft h1
  exact PySem.W.ki_setAt ho h0 (by omega) (by rw[afJ,<-hl];exact h4) (by rw[hk];exact⟨_,I',q⟩)
 .have hk:(k+(aR.toArray.size:Int)).toNat=j:=by
   rw[al6 (by omega) h3]at h1;rw[afJ,<-hl];exact aft h1
  exact PySem.W.ki_setBack ho (by omega) (by rw[afJ,<-hl];exact h3) (by omega) (by rw[hk];exact⟨_,I',q⟩)
theorem xk(lo hi:Option Int)(n:Nat):(sliceBounds lo hi none n).1=((HT.vv n 0 lo:Nat):Int)/\(sliceBounds lo hi none n).2.1=((HT.vv n n hi:Nat):Int)/\(sliceBounds lo hi none n).2.2=1:=by
 refine⟨?_,?_,rfl⟩
 .cases lo with
  |none=>simp[sliceBounds,HT.vv]
  |some i=>
   simp only[sliceBounds,HT.vv,amk,show(1:Int)>0 by decide,ajY];by_cases h:i<0
   .simp only[h,ajY]<;>omega
   .simp only[h,if_false]<;>omega
 .cases hi with
  |none=>simp[sliceBounds,HT.vv]
  |some i=>
   simp only[sliceBounds,HT.vv,amk,show(1:Int)>0 by decide,ajY];by_cases h:i<0
   .simp only[h,ajY]<;>omega
   .simp only[h,if_false]<;>omega
theorem uu(aR:List afe)(lo hi:Option Int):slicePick aR.toArray lo hi none=((aR.drop (HT.vv aR.length 0 lo)).take (HT.vv aR.length aR.length hi-HT.vv aR.length 0 lo)).toArray:=by
 obtain⟨h1,h2,h3⟩:=xk lo hi aR.toArray.size;unfold slicePick;rw[h1,h2,h3];simp only[sliceRange_one,pick_run,afJ]<;>rfl
inductive S2(K:afU)(x:V)(lo:Option Int)(hi:Option Int)(H:Hp)(Q:VK):Prop|m:∀a xs,x= .ref a->aJ K H a xs->(∀p,H p=none->Q (.ref p) (aE H p (.ba (x4 xs lo hi))))->S2 K x lo hi H Q
theorem C7:UT X (S2 X.K):=by
 intro pins s σ H x v vl vu lo hi sl Q I rx hs pl pu h;obtain⟨a,xs,rfl,hx,q⟩:=h;cases rx;obtain⟨aR,r,ht,hz⟩:=I.list hx;have bY:=r.length;refine⟨"list",_,al7.lookup,ht.isList.typeIs,?_⟩;refine wpAny_getItem_list_slice ht.isList hs pl pu .none (by simp) ?_ (by rw[afJ]<;>omega);rw[uu,<-bY];refine⟨.ref s.heap.objs.size,_,I.ml (t':=s.toks) (o:= .ba (x4 xs lo hi)) (fun b ob q=>afk _ q) (afn _) ?_,rfl,q _ (I.dc.fresh (afn _))⟩;exact⟨afu (x5 xs lo hi) hz,_,0,(r.drop (HT.vv xs.length 0 lo)).take (HT.vv xs.length xs.length hi-HT.vv xs.length 0 lo),afG _ rfl⟩
def jC:V->Bool
 | .gw=>true
 | .bl _=>true
 | .int _=>true
 | .str _=>true
 |_=>false
def Jy:V->V->Bool
 | .gw,.gw=>true
 | .bl a,.bl b=>a==b
 | .bl a,.int b=>(if a then 1 else 0)==b
 | .int a,.bl b=>a==(if b then 1 else 0)
 | .int a,.int b=>a==b
 | .str a,.str b=>a==b
 |_,_=>false
theorem Oj{x:V}(ry:bE y u)(rx:bE x v)(fy:jC y=true)(fx:jC x=true):anW A s u v (Jy y x):=by
 cases y with
 |gw=>
  cases ry;cases x with
  |gw=>cases rx;exact SeqAt.EqAt.same _
  |bl b=>cases rx;exact SeqAt.EqAt.none_bool b
  |int b=>obtain⟨t,rfl⟩:=rx;exact SeqAt.EqAt.none_int b t
  |str b=>obtain⟨t,rfl⟩:=rx;exact SeqAt.EqAt.none_str b t
  |_=>exact absurd (show false=true from fx) afN
 |bl a=>
  cases ry;cases x with
  |gw=>cases rx;exact SeqAt.EqAt.bool_none a
  |bl b=>cases rx;exact SeqAt.EqAt.bool_bool a b
  |int b=>obtain⟨t,rfl⟩:=rx;exact SeqAt.EqAt.bool_int a b t
  |str b=>obtain⟨t,rfl⟩:=rx;exact SeqAt.EqAt.bool_str a b t
  |_=>exact absurd (show false=true from fx) afN
 |int a=>
  obtain⟨t',rfl⟩:=ry;cases x with
  |gw=>cases rx;exact SeqAt.EqAt.int_none a t'
  |bl b=>cases rx;exact SeqAt.EqAt.int_bool a t' b
  |int b=>obtain⟨t,rfl⟩:=rx;exact SeqAt.EqAt.int_int a t' b t
  |str b=>obtain⟨t,rfl⟩:=rx;exact alK a t' b t
  |_=>exact absurd (show false=true from fx) afN
 |str a=>
  obtain⟨t',rfl⟩:=ry;cases x with
  |gw=>cases rx;exact SeqAt.EqAt.str_none a t'
  |bl b=>cases rx;exact SeqAt.EqAt.str_bool a t' b
  |int b=>obtain⟨t,rfl⟩:=rx;exact alL a t' b t
  |str b=>obtain⟨t,rfl⟩:=rx;exact SeqAt.EqAt.str_str a t' b t
  |_=>exact absurd (show false=true from fx) afN
 |_=>exact absurd (show false=true from fy) afN
def zK(x:V)(u:afe):Bool:=match u with
 | .none=>Jy .gw x
 | .bool b=>Jy (.bl b) x
 | .int i _=>Jy (.int i) x
 | .str z _=>Jy (.str z) x
 |_=>false
theorem we{x:V}(r:bE y u)(f:jC y=true):zK x u=Jy y x:=by
 cases y with
 |gw=>cases r;rfl
 |bl b=>cases r;rfl
 |int i=>obtain⟨t,rfl⟩:=r;rfl
 |str z=>obtain⟨t,rfl⟩:=r;rfl
 |_=>exact absurd (show false=true from f) afN
theorem oa{x:V}:∀{xs:List V} {us:List afe},bo xs us->xs.all jC=true->us.any (zK x)=xs.any fun y=>Jy y x
 |_,_,.nil,_=>rfl
 |y::xs,u::us,.cons r t,f=>by
  rw[aks,afy]at f;rw[aio,aio,we r f.1,oa t f.2]
theorem jF{A:ahD}{s:afA}{x:V}{v:afe}(rx:bE x v)(fx:jC x=true):∀{xs:List V} {us:List afe},bo xs us->xs.all jC=true->∀u∈us,anW A s u v (zK x u)
 |_,_,.nil,_=>fun u hu=>by cases hu
 |y::xs,u::us,.cons r t,f=>fun u' hu=>by
  rw[aks,afy]at f;rcases afv.mp hu with rfl|hu
  .rw[we r f.1];exact Oj r rx f.1 fx
  .exact jF rx fx t f.2 u' hu
def Fq(x:V)(xs:List V):Bool:=xs.any fun y=>Jy y x
inductive Xy(K:afU)(neg:Bool)(x:V)(y:V)(H:Hp)(Q:VK):Prop|m:∀p xs,y= .ref p->(aJ K H p xs\/gF K H p xs)->jC x=true->xs.all jC=true->Q (.bl (if neg then !Fq x xs else Fq x xs)) H->Xy K neg x y H Q
theorem jI:nY X (compareOp .In) (Xy X.K false):=by
 intro pins s σ H x y v u Q I rx ry h;obtain⟨p,xs,rfl,hq,fx,fs,q⟩:=h;cases ry;rcases hq with hq|hq
 .obtain⟨aR,r,pl,hz⟩:=I.list hq;refine SeqAt.in_listAt (zK x) pl.isList (fun w hw=>jF rx fx r fs w (by simpa using hw)) ⟨.bl _,H,I,rfl,?_⟩;rw[show aR.toArray.any (zK x)=aR.any (zK x) by simp,oa r fs];exact q
 .obtain⟨aR,r,pl,hz⟩:=I.tuple hq;refine SeqAt.in_tupleAt (zK x) pl (fun w hw=>jF rx fx r fs w (by simpa using hw)) ⟨.bl _,H,I,rfl,?_⟩;rw[show aR.toArray.any (zK x)=aR.any (zK x) by simp,oa r fs];exact q
theorem j2:nY X (compareOp .NotIn) (Xy X.K true):=by
 intro pins s σ H x y v u Q I rx ry h;obtain⟨p,xs,rfl,hq,fx,fs,q⟩:=h;cases ry;rcases hq with hq|hq
 .obtain⟨aR,r,pl,hz⟩:=I.list hq;refine SeqAt.notIn_listAt (zK x) pl.isList (fun w hw=>jF rx fx r fs w (by simpa using hw)) ⟨.bl _,H,I,rfl,?_⟩;rw[show aR.toArray.any (zK x)=aR.any (zK x) by simp,oa r fs];exact q
 .obtain⟨aR,r,pl,hz⟩:=I.tuple hq;refine SeqAt.notIn_tupleAt (zK x) pl (fun w hw=>jF rx fx r fs w (by simpa using hw)) ⟨.bl _,H,I,rfl,?_⟩;rw[show aR.toArray.any (zK x)=aR.any (zK x) by simp,oa r fs];exact q
theorem ay:p9 X (.builtin "len") (fun xs H Q=>∃p ys,xs=[.ref p]/\(aJ X.K H p ys\/gF X.K H p ys)/\Q (.int ys.length) H):=by
 intro pins s σ H xs us Q I r h;obtain⟨p,ys,rfl,hq,q⟩:=h;obtain⟨u,rfl,rx⟩:=NU r;cases rx;have hn:=wF;rcases hq with hq|hq
 .obtain⟨aR,r',pl,hz⟩:=I.list hq;have bY:=r'.length;exact Calls.call_len_list pl.isList (by simp only[afJ]<;>omega) ⟨.int ys.length,H,I.qM _,⟨s.toks+1,by rw[afJ,bY]⟩,q⟩
 .obtain⟨aR,r',pl,hz⟩:=I.tuple hq;have bY:=r'.length;exact len_tuple pl (by simp only[afJ]<;>omega) ⟨.int ys.length,H,I.qM _,⟨s.toks+1,by rw[afJ,bY]⟩,q⟩
theorem iO:p9 X (.type "list") (fun xs H Q=>∃p ys,xs=[.ref p]/\(aJ X.K H p ys\/gF X.K H p ys)/\∀l,H l=none->Q (.ref l) (aE H l (.ba ys))):=by
 intro pins s σ H xs us Q I r h;obtain⟨p,ys,rfl,hq,q⟩:=h;obtain⟨u,rfl,rx⟩:=NU r;cases rx;have fin:∀(aR:List afe),bo ys aR->ys.length<=sizeLine->∀(h':age) (c':Nat),(∀b o',s.heap.get? b=some o'->h'.get? b=some o')->
   h'.get? s.heap.objs.size=some {cls:= .type "list",dict:=none,data:= .seq aR.toArray c',slots:= #[]}->EP X pins σ Q (.ref s.heap.objs.size) {s with heap:=h'}:=fun aR r' hz h' c' kp e=>
  ⟨.ref s.heap.objs.size,_,I.ml (t':=s.toks) kp (afn _) (show eP X.prog X.w _ h' _ (.ba ys)from⟨hz,aR,c',r',e⟩),rfl,q _ (I.dc.fresh (afn _))⟩
 rcases hq with hq|hq
 .obtain⟨aR,r',pl,hz⟩:=I.list hq;have bY:=r'.length;obtain⟨o,ho,hc,n,hd⟩:=pl.isList;exact call_list_seq p (.inl rfl) ho hc hd (fun h' c' kp e=>fin aR r' hz h' c' kp e) (by simp only[afJ]<;>omega)
 .obtain⟨aR,r',pl,hz⟩:=I.tuple hq;have bY:=r'.length;obtain⟨o,ho,hc,n,hd⟩:=pl;exact call_list_seq p (.inr rfl) ho hc hd (fun h' c' kp e=>fin aR r' hz h' c' kp e) (by simp only[afJ]<;>omega)
def Z2(K:afU)(T:String)(x:V)(H:Hp):Prop:=match x with
 | .str _=>T="str"
 | .int _=>T="int"
 | .ref p=>(T="list"/\∃xs,aJ K H p xs)\/(T="tuple"/\∃o,K.lookup p=some o/\o.cls= .type "tuple"/\o.dict=none)\/
   (T="dict"/\((∃aQ,H p=some (.dK aQ))\/∃aQ,H p=some (.dT aQ)))\/(T="set"/\∃S n,H p=some (.set S n))
 |_=>False
theorem P6{x:V}(I:bb X pins σ H s)(r:bE x v)(ty:Z2 X.K T x H):
  s.TypeIs v T/\∀a,v= .ref a->∃ob,s.heap.get? a=some ob/\ob.dict=none:=by
 cases x with
 |str z=>
  obtain⟨t,rfl⟩:=r;cases(show T="str"from ty);exact⟨typeIs_str s z t,fun _ e=>nomatch e⟩
 |int i=>
  obtain⟨t,rfl⟩:=r;cases(show T="int"from ty);exact⟨amJ s i t,fun _ e=>nomatch e⟩
 |ref p=>
  cases r;rcases ty with⟨rfl,xs,hq⟩|⟨rfl,o,hk,hc,hd⟩|⟨rfl,hk⟩|⟨rfl,S,n,hk⟩
  .obtain⟨aR,_,pl,_⟩:=I.list hq;refine⟨pl.isList.typeIs,fun a e=> ?_⟩;cases e;obtain⟨o,n,e,c,hd,_⟩:=pl;exact⟨o,e,hd⟩
  .refine⟨⟨o,I.u5 p o hk,hc⟩,fun a e=> ?_⟩;cases e;exact⟨o,I.u5 _ o hk,hd⟩
  .have z:∃o,s.heap.get? p=some o/\o.ExactDict:=by
    rcases hk with⟨aQ,hk⟩|⟨aQ,hk⟩
    .obtain⟨_,_,_,_,o,_,_,e,ex,_⟩:=I.dc p _ hk;exact⟨o,e,ex⟩
    .obtain⟨_,_,_,_,o,_,_,e,ex,_⟩:=I.dc p _ hk;exact⟨o,e,ex⟩
   obtain⟨o,e,ex⟩:=z;refine⟨⟨o,e,ex.1⟩,fun a e2=> ?_⟩;cases e2;exact⟨o,e,ex.2.1⟩
  .obtain⟨o,_,_,_,e,ex,_⟩:=I.dc p _ hk;refine⟨⟨o,e,ex.1⟩,fun a e2=> ?_⟩;cases e2;exact⟨o,e,ex.2.1⟩
 |_=>exact ahh ty
def tBM(K:afU)(T:String)(r:V->List V->Hp->VK->Prop)(to:TE)(t:TA):TE:=fun σ H Q=>to σ H fun x H1=>Z2 K T x H1/\t σ H1 fun xs H2=>r x xs H2 Q
variable{o:agP}{to:TE}{t:TA}{iE:Pos}{id:String}{r:V->List V->Hp->VK->Prop}
theorem cy(pa:PlainAttrs T)(slot:Slot T name id)(Qy:typeOf (.builtin id)=pure (.type "method_descriptor"))(hm:UP X id r)(ho:PE X o to)(ha:PA X (e::es) t)
  (RK:attributeBase o name X.env (eval o X.env)=eval o X.env:=by rfl)
  (wt:((backTo iE (starEach (e::es) X.env)).all (fun x=> !x.1)&&(backToKw iE (keywordEach [] X.env)).all (fun x=>x.1.isSome)
   &&decide ((e::es).length+([]:List alz).length+(if([]:List alz).isEmpty then 0 else 1)<30))=true:=by rfl)
  (R1:(eI.endLine==iE.line)=true:=by rfl) (hs:starEach (e::es) X.env=(false,eval e X.env)::starEach es X.env:=by rfl) (OC:(backTo iE (starEach es X.env)).any (·.1)=false:=by rfl):
  PE X (.Call (.Attribute o name eI) (e::es) [] iE) (tBM X.K T r to t):=by
 intro pins s σ H Q I h;refine wpAny_Call_method_late RK wt R1 rfl (cK (ho pins s σ H _ I h) fun v s1 ⟨x,H1,I1,r1,ty,q1⟩=> ?_);obtain⟨h1,h2⟩:=P6 I1 r1 ty;refine⟨T,id,pa,slot,Qy,h1,h2,?_⟩;have hA:=ha iE pins s1 σ H1 _ I1 q1;rw[hs]at hA⊢;refine aih (by show(false||(backTo iE (starEach es X.env)).any (·.1))=false;rw[OC]<;>rfl) (aix ?_);exact cK hA fun us s2 ⟨vs,H2,I2,r2,q2⟩=>hm pins s2 σ H2 x vs v us Q I2 r1 r2 q2
end
def Qc(X:Cx)(id:String)(r:V->List V->Hp->VK->Prop):Prop:=
 ∀(pins:List (afb×Obj)) (s:afA) (σ:St) (H:Hp) (x:V) (xs:List V) (v:afe) (us:List afe) (Q:VK),bb X pins σ H s->bE x v->bo xs us->r x xs H Q->
  wpAny (model X.prog X.w) X.A (call (.builtin id) (v::us)) (EP X pins σ Q) X.xe s
theorem bo.xT:∀{x:V} {us:List afe},bo [x] us->∃u,us=[u]/\bE x u
 |_,_,.cons r .nil=>⟨_,rfl,r⟩
theorem bo.two:∀{x y:V} {us:List afe},bo [x,y] us->∃u v,us=[u,v]/\bE x u/\bE y v
 |_,_,_,.cons r (.cons q .nil)=>⟨_,_,rfl,r,q⟩
theorem bo.eraseIdx:∀{xs:List V} {us:List afe} (i:Nat),bo xs us->bo (xs.eraseIdx i) (us.eraseIdx i)
 |_,_,_,.nil=> .nil
 |_,_,0,.cons _ t=>t
 |_,_,i+1,.cons r t=> .cons r (bo.eraseIdx i t)
theorem bo.ZV{xs:List V}{us:List afe}(h:bo xs us):∀k:Nat,bo (afO k xs).flatten (afO k us).flatten
 |0=> .nil
 |k+1=>by
  rw[agZ,agZ,ah5,ah5];exact bo.append h (bo.ZV h k)
theorem vd{α:Type}:∀(l:List α) (i:Nat),(l.eraseIdx i).length<=l.length
 | [],_=>afn _
 |_::_,0=>ahx _
 |_::r,i+1=>ajq (vd r i)
theorem uR(aR:List afe):∀(k:Nat) (acc:List afe),
  amK (fun x1 x2=>x1++x2) acc.toArray (afO k aR.toArray)=(acc++(afO k aR).flatten).toArray
 |0,acc=>by simp
 |k+1,acc=>by
  have e:acc.toArray++aR.toArray=(acc++aR).toArray:=by simp
  have e2:(acc++aR)++(afO k aR).flatten=acc++(afO (k+1) aR).flatten:=by
   rw[agZ,ah5,afQ]
  rw[<-e2,<-uR aR k (acc++aR),<-e,agZ,aij]
section
variable{zs:List V}
theorem bb.Ha{its':List afe}{f:Array afe->Array afe}(I:bb X pins σ H s)(hH:H l=some (.ba xs))
  (e:s.heap.get? l=some {cls:= .type "list",data:= .seq aR.toArray n}) (hf:f aR.toArray=its'.toArray) (hv:bo ys its') (hz:ys.length<=sizeLine):
  bb X pins σ (aE H l (.ba ys)) {s with heap:=s.heap.update l (ahj f),toks:=t'}:=by
 have q:=PySem.IsL.update e f;rw[hf]at q;refine I.pk (x:=l) (e:=l) (by rw[hH];exact trivial) (.inl rfl) (fun b' u hb hu=>(agQ s.heap (ahj f) (agU hb)).trans hu) ⟨_,q⟩ ?_;exact⟨hz,its',_,hv,q⟩
theorem bb.Sq(I:bb X pins σ H s)(hv:bo ys aR)(hz:ys.length<=sizeLine):
  bb X pins σ (aE H s.heap.objs.size (.ba ys)) {s with heap:=s.heap.push {cls:= .type "list",data:= .seq aR.toArray},toks:=t'}:=
 I.ml (fun _ _ q=>afk _ q) (afn _) ⟨hz,aR,0,hv,afG _ rfl⟩
theorem bb.fresh(I:bb X pins σ H s):H s.heap.objs.size=none:=I.dc.fresh (afn _)
theorem bb.wH(I:bb X pins σ H s)(hH:H l=some (.ba xs)):xs.length<=sizeLine/\∃(aR:List afe) (n:Nat),bo xs aR/\xs.length=aR.length/\s.heap.get? l=some {cls:= .type "list",data:= .seq aR.toArray n}:=by
 obtain⟨z,aR,n,r,e⟩:=I.dc l _ hH;exact⟨z,aR,n,r,r.length,e⟩
theorem sC(h:n<=sizeLine):ahe n=false:=by
 unfold ahe;exact agb (by omega)
end
inductive CG(x:V)(vs:List V)(H:Hp)(Q:VK):Prop|m:∀l xs y,x= .ref l->vs=[y]->H l=some (.ba xs)->xs.length<sizeLine->Q .gw (aE H l (.ba (xs++ [y])))->CG x vs H Q
theorem de:Qc X "list.append" CG:=by
 intro pins s σ H x vs v us Q I rx rv h;obtain⟨l,xs,y,rfl,rfl,hH,hz,q⟩:=h;cases rx;obtain⟨u,rfl,ru⟩:=rv.xT;obtain⟨z,aR,n,r,hl,e⟩:=I.wH hH;refine aiR agc ⟨_,e,rfl⟩ F.entry_list_append (F.args_list_append_2 _ _) (PySem.list_append l aR.toArray n u (by rw[afJ];omega)) ⟨e,?_⟩;refine⟨.gw,_,I.Ha (its':=aR++ [u]) hH e (by simp) (r.append (.cons ru .nil)) ?_,rfl,q⟩;rw[afa,agR];omega
inductive CI(x:V)(vs:List V)(H:Hp)(Q:VK):Prop|m:∀l b xs zs,x= .ref l->vs=[.ref b]->H l=some (.ba xs)->H b=some (.ba zs)->xs.length+zs.length<=sizeLine->Q .gw (aE H l (.ba (xs++zs)))->CI x vs H Q
theorem dJ:Qc X "list.extend" CI:=by
 intro pins s σ H x vs v us Q I rx rv h;obtain⟨l,b,xs,zs,rfl,rfl,hH,hB,hz,q⟩:=h;cases rx;obtain⟨u,rfl,ru⟩:=rv.xT;cases ru;obtain⟨z,aR,n,r,hl,e⟩:=I.wH hH;obtain⟨z2,qJ,n2,r2,Cb,e2⟩:=I.wH hB;have hsz:aR.toArray.size+qJ.toArray.size<=sizeLine:=by rw[afJ,afJ];omega
 have yz:¬(!aR.toArray.isEmpty&&ahe (aR.toArray.size+qJ.toArray.size))=true:=by
  rw[sC hsz,amL];exact afN
 refine aiR af0 ⟨_,e,rfl⟩ alG (alj _ _)
  (AutoSeq1.list_extend_list_list_0 l aR.toArray n b qJ.toArray n2 yz (by rw[afJ];omega) (by omega)) ⟨e,e2,?_⟩
 refine⟨.gw,_,I.Ha (its':=aR++qJ) hH e (by simp) (r.append r2) ?_,rfl,q⟩;rw[afa];omega
inductive SS(x:V)(y:V)(H:Hp)(Q:VK):Prop|m:∀l b xs zs,x= .ref l->y= .ref b->H l=some (.ba xs)->H b=some (.ba zs)->xs.length+zs.length<=sizeLine->(∀p,H p=none->Q (.ref p) (aE H p (.ba (xs++zs))))->SS x y H Q
theorem sF:nY X (binaryOp .Add) SS:=by
 intro pins s σ H x y v u Q I rx ry h;obtain⟨l,b,xs,zs,rfl,rfl,hH,hB,hz,q⟩:=h;cases rx;cases ry;obtain⟨z,aR,n,r,hl,e⟩:=I.wH hH;obtain⟨z2,qJ,n2,r2,Cb,e2⟩:=I.wH hB;refine PySem.P.add_list e e2 ?_ (by rw[afJ,afJ];omega);have ea:aR.toArray++qJ.toArray=(aR++qJ).toArray:=by simp
 rw[ea];exact⟨.ref _,_,I.Sq (t':=s.toks) (r.append r2) (by rw[afa];omega),rfl,q _ I.fresh⟩
inductive SY(x:V)(y:V)(H:Hp)(Q:VK):Prop|m:∀l k xs,x= .ref l->y= .int k->H l=some (.ba xs)->-(2^63)<=k->k<2^63->xs.length*k.toNat<=sizeLine->(∀p,H p=none->Q (.ref p) (aE H p (.ba (afO k.toNat xs).flatten)))->SY x y H Q
theorem KJ{α:Type}(xs:List α)(k:Nat):(afO k xs).flatten.length=k*xs.length:=by
 induction k with
 |zero=>simp
 |succ k ih=>rw[agZ,ah5,afa,ih,Nat.succ_mul,aiC]
theorem AD:nY X (binaryOp .Mult) SY:=by
 intro pins s σ H x y v u Q I rx ry h;obtain⟨l,k,xs,rfl,rfl,hH,h1,h2,hz,q⟩:=h;cases rx;obtain⟨t,rfl⟩:=ry;obtain⟨z,aR,n,r,hl,e⟩:=I.wH hH;have bY:aR.toArray.size*k.toNat<=sizeLine:=by rw[afJ,<-hl];exact hz
 have Wc:¬aR.toArray.size*k.toNat>(2^63-1)/8:=by
  have:(sizeLine:Nat)<=(2^63-1)/8:=by decide
  omega
 have Wk:¬(!Builtin.List.listFitsIndex k)=true:=by
  rw[fitsIndex_both h1 h2];exact afN
 have yz:¬ahe (aR.toArray.size*k.toNat)=true:=by
  rw[sC bY];exact afN
 have WD:amK (fun x1 x2=>x1++x2) #[] (afO (if aR.toArray.isEmpty=true then 0 else k.toNat) aR.toArray)=(afO k.toNat aR).flatten.toArray:=by
  have f0:∀m:Nat,amK (fun x1 x2=>x1++x2) #[] (afO m aR.toArray)=(afO m aR).flatten.toArray:=fun m=>by
   have:=uR aR m [];rw[agT]at this;exact this
  rw[f0];cases aR with
  |nil=>simp
  |cons a r'=>rw[afc (by simp)]
 refine wpAny_binaryOp_repeat_ref (T:="list") (U:="int") (by decide) ⟨_,e,rfl⟩ (fun s'=>amJ s' k t) noFill_list_mul F.fills_int_mul amz repeat_list F.slot_int_index.lookup
  (aiR amz (amJ s k t) F.entry_int_rmul (F.args_int_rmul_2 _ _) (int___rmul___int_list k t l aR.toArray n)
   ⟨e,rfl,⟨_,e,rfl⟩,aiR F.slot_list_mul ⟨_,e,rfl⟩ F.entry_list_mul (F.args_list_mul_2 _ _) (AutoListH.list___mul___list_int_3 l aR.toArray n k t Wk Wc yz) ⟨e,?_⟩⟩)
 rw[WD];exact⟨.ref _,_,I.Sq (t':=s.toks) (r.ZV k.toNat) (by rw[KJ,Nat.mul_comm];exact hz),rfl,q _ I.fresh⟩
theorem bo.X9:∀{bs:List Bool} {us:List afe},bo (bs.map V.bl) us->us=bs.map aj5
 | [],us,h=>by
  rw[ajZ]at h;cases h;rfl
 |b::bs,us,h=>by
  rw[af9]at h;cases h with
  |cons r t=>
   cases r;rw[bo.X9 t,af9]
theorem bo.XA(r:bo [V.ref a] us):us=[afZ a]:=by
 cases r with
 |cons r t=>
  cases t;cases r;rfl
inductive Iw(K:afU)(x:V)(xs:List V)(H:Hp)(Q:VK):Prop|m:∀(a:afb) (ys:List V) (y:V) (j:Nat) (z:V),x=V.ref a->xs=[y]->aJ K H a ys->jC y=true->ys.all jC=true->ys[j]? =some z->Jy z y=true->(∀(m:Nat) (z':V),m<j->ys[m]? =some z'->Jy z' y=false)->Q (.int (j:Nat)) H->Iw K x xs H Q
theorem BX(f:ys.all jC=true){z:V}(h:ys[j]? =some z):jC z=true:=af4.mp f z (afo h)
theorem yO:UP X "list.index" (Iw X.K):=by
 intro pins s σ H x xs v us Q I rx XE h;obtain⟨a,ys,y,j,z,rfl,rfl,hs,fy,VS,hz,Up,e9,q⟩:=h;cases rx;cases XE with
 |cons ry rt=>
  rename_i uy ut;cases rt;obtain⟨aR,rv,⟨⟨cls,dd,data,sl⟩,n,ho,hc,hdn,hd⟩,bY⟩:=I.list hs;simp only at hc hd;subst hc hd;obtain⟨u,hu,ru⟩:=rv.get hz;obtain⟨Qu,Wo⟩:=afd.mp hu;have Kx:=rv.length;have hj:j<aR.toArray.size:=by simpa using Qu
  have qI:=alg;refine aiR ah7 ⟨_,ho,rfl⟩ PySem.F.entry_list_index (PySem.F.args_list_index_2 _ _)
   (SeqAt.list_indexAt a aR.toArray n dd sl uy (zK y) j hj (by omega) ?_ ?_) ⟨ho,fun u' Nd=>jF ry fy rv VS u' (by simpa using Nd),?_⟩
  .have e1:aR.toArray[j]=u:=by simpa using Wo
   rw[e1,we ru (BX VS hz)];exact Up
  .intro m hm Wy;have M9:m<aR.length:=by simpa using hm
   have hmy:m<ys.length:=by omega
   have Sg:ys[m]? =some ys[m]:=afi hmy;obtain⟨u2,WQ,ru2⟩:=rv.get Sg;obtain⟨_,hme⟩:=afd.mp WQ;have e1:aR.toArray[m]=u2:=by simpa using hme
   rw[e1,we ru2 (BX VS Sg)];exact e9 m _ Wy Sg
  .exact⟨.int (j:Nat),H,I.qM _,⟨_,rfl⟩,q⟩
theorem yF(hl:s.heap.IsList l items)
  (h:∀s₂:afA,s₂={s with heap:=s.heap.push {cls:= .type "list_iterator",data:= .fields #[.ref l,.int 0 0]}}->
   (s₂.heap.IsListIter s.heap.objs.size l 0/\s₂.heap.IsList l items)->l≠s.heap.objs.size->Q (.ref s.heap.objs.size) s₂):wpAny (model prog w) A (pyIter (.ref l)) Q E s:=by
 have iF:l<s.heap.objs.size:=by obtain⟨_,e,_⟩:=hl;exact afT e
 exact aho hl (h _ rfl ⟨⟨_,afG _ rfl,rfl,rfl⟩,hl.push _⟩ (agw iF))
theorem zw{bs:List Bool}(e:aR=bs.map aj5):
  TruthOf prog w A (fun i v=>aR.toArray[i]? =some v) (fun i=>bs.getD i false):=fun i v s Q E hv hq=>by
 have JG:aR[i]? =some v:=by simpa using hv
 rw[e,afw]at JG;obtain⟨b,hb,rfl⟩:=ai5.mp JG;have hg:bs.getD i false=b:=by rw[ahS,hb]<;>rfl
 have Cd:Q (bs.getD i false) s:=hq;rw[hg]at Cd;exact ag1 Cd
theorem Dq:∀bs:List Bool,(aiQ bs.length).any (fun i=>bs.getD i false)=bs.any id
 | []=>rfl
 |b::bs=>by
  rw[afp,akT,aio,anw,aio,<-Dq bs]
  all_goals rfl
theorem uB:∀bs:List Bool,(aiQ bs.length).all (fun i=>bs.getD i false)=bs.all id
 | []=>rfl
 |b::bs=>by
  rw[afp,akT,aks,ag3,aks,<-uB bs]
  all_goals rfl
inductive SQ(K:afU)(vs:List V)(H:Hp)(Q:VK):Prop|m:∀(a:afb) (bs:List Bool),vs=[V.ref a]->aJ K H a (bs.map V.bl)->Q (.bl (bs.all id)) H->SQ K vs H Q
theorem rH(hc:X.calm=true):p9 X (.builtin "all") (SQ X.K):=by
 intro pins s σ H vs us Q I r h;obtain⟨a,bs,rfl,hs,q⟩:=h;obtain⟨aR,rv,hl,_⟩:=I.list hs;rw[bo.XA r];have hb:=rv.X9;refine call_all_walk (yF hl.isList fun s₂ e2 st gh=> ?_);subst e2;refine⟨_,_,_,_,_,_,_,rfl,amM (A:=X.A.in1) (I.ok.hd hc) _ a gh aR.toArray,st,zw hb,fun h' tk hk=> ?_⟩;refine⟨.bl _,H,I.kept fun b o eo=>hk b o (fun eX=> ?_) (afk _ eo),?_,q⟩
 .rcases afv.mp eX with e1|eX
  .exact absurd (e1▸afT eo) (ahn _)
  .cases eX
 .show aj5 _=aj5 _;rw[<-uB,hb,afJ,ae9]
mutual
inductive Dp (K:afU) (H:Hp):V->alk->Prop
 |gw:Dp K H .gw .none
 |bl (b:Bool):Dp K H (.bl b) (.bool b)
 |int (i:Int):Dp K H (.int i) (.int i)
 |str (x:Str):Dp K H (.str x) (.str x)
 |ba {a:afb} {xs:List V} {ds:List alk}:aJ K H a xs->qc K H xs ds->Dp K H (.ref a) (.list ds)
 |dY {a:afb} {xs:List V} {ds:List alk}:gF K H a xs->qc K H xs ds->Dp K H (.ref a) (.tuple ds)
inductive qc (K:afU) (H:Hp):List V->List alk->Prop
 |nil:qc K H [] []
 |cons {v:V} {vs:List V} {d:alk} {ds:List alk}:Dp K H v d->qc K H vs ds->qc K H (v::vs) (d::ds)
end
mutual
theorem Dp.qv(I:bb X pins σ H s):∀(d:alk) (v:V) (u:afe),Dp X.K H v d->bE v u->∃as,Reads s.heap u d as
 | .none,_,_,h,r=>by
  cases h;cases r;exact⟨_,Reads.none⟩
 | .bool b,_,_,h,r=>by
  cases h;cases r;exact⟨_,Reads.bool b⟩
 | .int i,_,_,h,r=>by
  cases h;obtain⟨t,rfl⟩:=r;exact⟨_,Reads.int i t⟩
 | .str x,_,_,h,r=>by
  cases h;obtain⟨t,rfl⟩:=r;exact⟨_,Reads.str x t⟩
 | .list ds,_,_,h,r=>by
  cases h with
  |ba hs ha=>
   cases r;obtain⟨aR,rv,⟨o,n,ho,hc,_,hd⟩,_⟩:=I.list hs;obtain⟨as,hr⟩:=Dp.i9 I ds _ aR ha rv;exact⟨_,Reads.list ho hc hd hr⟩
 | .tuple ds,_,_,h,r=>by
  cases h with
  |dY hs ha=>
   cases r;obtain⟨aR,rv,⟨o,ho,hc,n,hd⟩,_⟩:=I.tuple hs;obtain⟨as,hr⟩:=Dp.i9 I ds _ aR ha rv;exact⟨_,Reads.tuple ho hc hd hr⟩
 | .dict _,_,_,h,_=>by cases h
theorem Dp.i9(I:bb X pins σ H s):∀(ds:List alk) (vs:List V) (us:List afe),qc X.K H vs ds->bo vs us->∃as,ReadsAll s.heap us ds as
 | [],_,_,h,r=>by
  cases h;cases r;exact⟨_,ReadsAll.nil⟩
 |d::ds,_,_,h,r=>by
  cases h with
  |cons h1 h2=>
   cases r with
   |cons r1 r2=>
    obtain⟨as,q1⟩:=Dp.qv I d _ _ h1 r1;obtain⟨bs,q2⟩:=Dp.i9 I ds _ _ h2 r2;exact⟨_,ReadsAll.cons q1 q2⟩
end
inductive SU(K:afU)(x:V)(y:V)(H:Hp)(Q:VK):Prop|m:∀d e,Dp K H x d->Dp K H y e->ahL d=true->ahL e=true->Q (.bl (amN d e)) H->SU K x y H Q
inductive SW(K:afU)(x:V)(y:V)(H:Hp)(Q:VK):Prop|m:∀d e,Dp K H x d->Dp K H y e->ahL d=true->ahL e=true->Q (.bl (!PyData.eqv d e)) H->SW K x y H Q
theorem Ic(hu:X.A.units+64<cLine):nY X (compareOp .Eq) (SU X.K):=by
 intro pins s σ H x y v u Q I rx ry h;obtain⟨d,e,hd,he,sd,se,q⟩:=h;obtain⟨as,r1⟩:=Dp.qv I d x v hd rx;obtain⟨bs,r2⟩:=Dp.qv I e y u he ry;exact SeqAt.compareEq_shaped r1 r2 sd se hu ⟨.bl _,H,I,rfl,q⟩
theorem Ig(hu:X.A.units+64<cLine):nY X (compareOp .NotEq) (SW X.K):=by
 intro pins s σ H x y v u Q I rx ry h;obtain⟨d,e,hd,he,sd,se,q⟩:=h;obtain⟨as,r1⟩:=Dp.qv I d x v hd rx;obtain⟨bs,r2⟩:=Dp.qv I e y u he ry;exact SeqAt.compareNe_shaped r1 r2 sd se hu ⟨.bl _,H,I,rfl,q⟩
abbrev Fu(h:age)(c:afb)(v:Option afe):Prop:=h.IsCell c v
def XB(scope sc:ahM):ahM:=
 {scope with names:=scope.names.map fun(n,k)=>if(k== .free&&sc.kind== .function&&sc.names.lookup n==some .cell)then(n,.cell)else(n,k)}
def di(cells:List (Str×afb)):List (Str×agJ)->List (Str×afb)->List (Str×afb)
 | [],acc=>acc
 |(n,k)::r,acc=>if k== .free then di cells r ((n,(cells.lookup n).getD 0)::acc)else di cells r acc
theorem oq(env:Env)(f:Str×agJ->List (Str×afb)->Sem (ForInStep (List (Str×afb))))
  (hf:∀n k c,f (n,k) c=if k== .free then(do let a<-cellOf env n;pure (.yield ((n,a)::c)))else pure (.yield c)):
  ∀(names:List (Str×agJ)) (acc:List (Str×afb)),(∀y∈names,y.2= .free->∃c,env.cells.lookup y.1=some c)->forIn names acc f=pure (di env.cells names acc)
 | [],acc,_=>by rw[amO];rfl
 |(n,k)::r,acc,h=>by
  rw[amA,hf];have ih:=fun acc=>oq env f hf r acc fun y hy=>h y (afs _ hy)
  unfold di;by_cases hk:(k==aiJ)=true
  .rw[afh hk,afh hk];obtain⟨c,hc⟩:=h (n,k) af2 (by simpa using hk);have e:cellOf env n=pure c:=by unfold cellOf;rw[hc]
   rw[e];have e2:(env.cells.lookup n).getD 0=c:=by rw[hc];rfl
   rw[e2];exact ih _
  .rw[afc hk,afc hk];exact ih _
theorem zW(h:∀y∈scope.names,y.2= .free->∃c,env.cells.lookup y.1=some c):closureFor scope env=pure (di env.cells scope.names []):=by
 simp only[closureFor];rw[oq env _ (fun n k c=>rfl) scope.names [] h];rfl
theorem ng{α:Type}:∀{l:List (Str×α)} {n:Str} {c:α},(n,c)∈l->∃c',l.lookup n=some c'
 |(k,v)::r,n,c,h=>by
  rw[ahr];cases hb:n==k with
  |true=>exact⟨_,rfl⟩
  |false=>
   rcases afv.mp h with e|h
   .cases e;simp at hb
   .exact ng h
theorem jd{cells:List (Str×afb)}:∀{names:List (Str×agJ)} {acc:List (Str×afb)} {n:Str} {c:afb},(n,c)∈di cells names acc->(n,c)∈acc\/((n,.free)∈names/\c=(cells.lookup n).getD 0)
 | [],_,_,_,h=> .inl h
 |(m,k)::r,acc,n,c,h=>by
  unfold di at h;split at h
  .rename_i hk;have hk:k= .free:=by simpa using hk
   rcases jd h with h|⟨h1,h2⟩
   .rcases afv.mp h with e|h
    .cases e;exact .inr ⟨hk▸af2,rfl⟩
    .exact .inl h
   .exact .inr ⟨afs _ h1,h2⟩
  .rcases jd h with h|⟨h1,h2⟩
   .exact .inl h
   .exact .inr ⟨afs _ h1,h2⟩
theorem kJ{cells:List (Str×afb)}:∀{names:List (Str×agJ)} {acc:List (Str×afb)} {p:Str×afb},p∈acc->p∈di cells names acc
 | [],_,_,h=>h
 |(m,k)::r,acc,p,h=>by
  unfold di;split
  .exact kJ (afs _ h)
  .exact kJ h
theorem kK{cells:List (Str×afb)}:∀{names:List (Str×agJ)} {acc:List (Str×afb)} {n:Str},(n,.free)∈names->(n,(cells.lookup n).getD 0)∈di cells names acc
 |(m,k)::r,acc,n,h=>by
  unfold di;rcases afv.mp h with e|h
  .cases e;exact kJ af2
  .split
   .exact kK h
   .exact kK h
theorem jB:∀{names:List (Str×agJ)} {h:age} {acc:List (Str×afb)} {x:Str} {c:afb},(x,c)∈cellsFrom h.objs.size names acc->
  (x,c)∈acc\/((x,.cell)∈names/\h.objs.size<=c/\Fu (pushCells h names) c none)
 | [],_,_,_,_,h=> .inl h
 |(n,k)::r,h,acc,x,c,hm=>by
  unfold cellsFrom at hm;unfold pushCells;split at hm
  .rename_i hk;rw[afh hk];have hk:k= .cell:=by simpa using hk
   rw[<-agf h {cls:= .type "cell",data:= .cell none}]at hm;rcases jB hm with hm|⟨h1,h2,h3⟩
   .rcases afv.mp hm with e|hm
    .cases e;exact .inr ⟨hk▸af2,afn _,_,ajI r _ _ _ (afG _ rfl),rfl⟩
    .exact .inl hm
   .rw[agf]at h2;exact .inr ⟨afs _ h1,ai6 h2,h3⟩
  .rename_i hk;rw[afc hk];rcases jB hm with hm|⟨h1,h2,h3⟩
   .exact .inl hm
   .exact .inr ⟨afs _ h1,h2,h3⟩
theorem lR:∀{names:List (Str×agJ)} {n:Nat} {acc:List (Str×afb)} {p:Str×afb},p∈acc->p∈cellsFrom n names acc
 | [],_,_,_,h=>h
 |(m,k)::r,n,acc,p,h=>by
  unfold cellsFrom;split
  .exact lR (afs _ h)
  .exact lR h
theorem pC:∀{names:List (Str×agJ)} {n:Nat} {acc:List (Str×afb)} {x:Str},(x,.cell)∈names->∃c,(x,c)∈cellsFrom n names acc
 |(m,k)::r,n,acc,x,h=>by
  unfold cellsFrom;rcases afv.mp h with e|h
  .cases e;exact⟨n,lR af2⟩
  .split
   .exact pC h
   .exact pC h
theorem pD:∀{names:List (Str×agJ)} {h:age} {acc:List (Str×afb)} {x y:Str} {c:afb},(∀p∈acc,p.2<h.objs.size)->(∀x y c,(x,c)∈acc->(y,c)∈acc->x=y)->
  (x,c)∈cellsFrom h.objs.size names acc->(y,c)∈cellsFrom h.objs.size names acc->x=y
 | [],_,_,_,_,_,_,hi,h1,h2=>hi _ _ _ h1 h2
 |(n,k)::r,h,acc,x,y,c,hl,hi,h1,h2=>by
  unfold cellsFrom at h1 h2;split at h1
  .rename_i hk;rw[afh hk]at h2;rw[<-agf h {cls:= .type "cell",data:= .cell none}]at h1 h2;refine pD (h:=h.push _) (fun p hp=> ?_) (fun x y c a b=> ?_) h1 h2
   .rw[agf];rcases afv.mp hp with rfl|hp
    .exact akA _
    .exact ais (hl p hp)
   .rcases afv.mp a with e|a<;>rcases afv.mp b with e'|b
    .cases e;cases e';rfl
    .cases e;exact absurd (hl _ b) (ahn _)
    .cases e';exact absurd (hl _ a) (ahn _)
    .exact hi _ _ _ a b
  .rename_i hk;rw[afc hk]at h2;exact pD hl hi h1 h2
theorem yS{globals:afb}{closure:List (Str×afb)}{func:Option afb}{code:afe}{around:Env}{builtins:afb}{Q:Env->afA->Prop}
  (h:Q (newEnv scope s.heap.objs.size globals (cellsFrom (s.heap.objs.size+1) scope.names closure) qual func code (some around) builtins)
   {s with heap:=pushCells (s.heap.push {cls:= .type "dict",data:= .dict #[]}) scope.names}):
  wpAny M A (newFunctionEnv scope globals closure [] qual func code (some around) builtins) Q E s:=by
 simp only[newFunctionEnv,alQ,ajY];refine afg (wpAny_alloc ?_);refine afg (wpAny_layCells _ (fun n k c=>rfl) scope.names closure _ _ ?_);rw[show({s with heap:=s.heap.push {cls:= .type "dict",data:= .dict #[]}}:afA).heap.objs.size=s.heap.objs.size+1 from agf ..];rw[amO];exact afg (afX (afX h))
theorem kW{sc:ahM}:∀{names:List (Str×agJ)} {x:Str} {k:agJ},
  (names.map fun(n,k)=>if(k==aiJ&&sc.kind== .function&&sc.names.lookup n==some .cell)then(n,alI)else(n,k)).lookup x=some k->
  ∃k',names.lookup x=some k'/\(k=k'\/(k'= .free/\k= .cell))
 | [],_,_,h=>by simp at h
 |(n,k₀)::r,x,k,h=>by
  have ih:=@kW sc r x k;have h':aiw x ((if(k₀==aiJ&&sc.kind== .function&&sc.names.lookup n==some .cell)=true then(n,alI)else(n,k₀))::(r.map _))=some k:=h;cases hx:x==n with
  |true=>
   simp only[ahr,hx];by_cases hc:(k₀==aiJ&&sc.kind== .function&&sc.names.lookup n==some .cell)=true
   .rw[afh hc]at h';simp only[ahr,hx]at h';cases h';simp only[afy,ajp]at hc;exact⟨k₀,rfl,.inr ⟨hc.1.1,rfl⟩⟩
   .rw[afc hc]at h';simp only[ahr,hx]at h';cases h';exact⟨_,rfl,.inl rfl⟩
  |false=>
   simp only[ahr,hx];by_cases hc:(k₀==aiJ&&sc.kind== .function&&sc.names.lookup n==some .cell)=true
   .rw[afh hc]at h';simp only[ahr,hx]at h';exact ih h'
   .rw[afc hc]at h';simp only[ahr,hx]at h';exact ih h'
structure iK(N:List Str)(sc scope:ahM)(own:List (Str×Nat)):Prop where
 kind:scope.kind= .function
 P7:∀y∈scope.names,scope.names.lookup y.1=some y.2
 ix:∀p∈own,N[p.2]? =some p.1
 free:∀y∈scope.names,y.2= .free->sc.names.lookup y.1=some .cell\/sc.names.lookup y.1=some .free
 own:∀y∈scope.names,y.2= .local\/y.2= .cell->y.1∈own.map (·.1)\/y.1∉N
def fK(σ:St):List Nat->St
 | []=>σ
 |v::vs=>(fK σ vs).set v none
theorem lM(σ:St):∀vs:List Nat,(fK σ vs).length=σ.length
 | []=>rfl
 |v::vs=>by unfold fK;rw[ak3,lM σ vs]
theorem p7{σ:St}{i:Nat}{x:V}:∀{vs:List Nat},(fK σ vs)[i]? =some (some x)->σ[i]? =some (some x)/\i∉vs
 | [],h=>⟨h,by simp⟩
 |v::vs,h=>by
  unfold fK at h;by_cases hi:v=i
  .subst hi;by_cases hv:v<(fK σ vs).length
   .rw[ai2 hv]at h;cases h
   .rw[aip (by simpa using hv)]at h;cases h
  .rw[ajB hi]at h;obtain⟨h1,h2⟩:=p7 h;exact⟨h1,by simp only[afv,akt];exact⟨fun e=>hi e.symm,h2⟩⟩
abbrev Cx.vQ(X:Cx)(s:afA)(H:Hp)(scope:ahM)(gH:Env)(fp:List afb):Cx:={X with s_0:=s,H_0:=H,env:=gH,outer:=X.stack,ex:=fp,fn:=fun x=>scope.names.lookup x==some .cell,pn:=[],xe:=fun _ _=>False}
theorem xY(I:bb X pins σ H s)(ok:iK X.N X.env.scope scope own)(hN:X.N.Nodup)(Qt:∀b∈fp,qy X pins H b/\b<s.heap.objs.size):
  bb (X.vQ s H scope (compEnvC scope (cellsFrom (s.heap.objs.size+1) scope.names (di X.env.cells scope.names [])) s.heap.objs.size X.env) fp) [] (fK σ (own.map (·.2))) H {s with heap:=pushCells (s.heap.push {cls:= .type "dict",data:= .dict #[]}) scope.names}:=by
 have uV:∀y∈scope.names,y.2= .free->∃c,X.env.cells.lookup y.1=some c:=fun y hy e=>by
  rcases ok.free y hy e with k|k
  .exact I.ok.has _ (.inl k)
  .exact I.ok.has _ (.inr k)
 generalize yy:compEnvC scope (cellsFrom (s.heap.objs.size+1) scope.names (di X.env.cells scope.names [])) s.heap.objs.size X.env=gH;have kp:∀b o,s.heap.get? b=some o->(pushCells (s.heap.push {cls:= .type "dict",data:= .dict #[]}) scope.names).get? b=some o:=fun b o e=>ajI _ _ _ _ (afk _ e)
 have hL:gH.locals=s.heap.objs.size:=by rw[<-yy];rfl
 have z9:gH.cells=cellsFrom (s.heap.objs.size+1) scope.names (di X.env.cells scope.names []):=by rw[<-yy];rfl
 have Qx:gH.scope=XB scope X.env.scope:=by rw[<-yy];rfl
 rw[<-agf s.heap {cls:= .type "dict",data:= .dict #[]}]at z9;have cm:∀{y c},(y,c)∈di X.env.cells scope.names []->X.env.cells.lookup y=some c/\c<s.heap.objs.size:=fun{y c} hm=>by
  rcases jd hm with hm|⟨h1,rfl⟩
  .cases hm
  .obtain⟨c,hc⟩:=uV _ h1 rfl;rw[hc];obtain⟨w,z⟩:=I.cell _ _ hc;exact⟨rfl,z.lt⟩
 have mem:∀{y c},gH.cells.lookup y=some c->(X.env.cells.lookup y=some c/\c<s.heap.objs.size)\/(s.heap.objs.size+1<=c/\Fu (pushCells (s.heap.push {cls:= .type "dict",data:= .dict #[]}) scope.names) c none):=fun{y c} e=>by
  rw[z9]at e;rcases jB (agv e)with hm|⟨_,h2,h3⟩
  .exact .inl (cm hm)
  .rw[agf]at h2;exact .inr ⟨h2,h3⟩
 have D5:∀{y},scope.names.lookup y=some .free->∃c,gH.cells.lookup y=some c/\X.env.cells.lookup y=some c:=fun{y} hl=>by
  have hy:(y,aiJ)∈scope.names:=agv hl;obtain⟨c',e'⟩:=ng (lR (names:=scope.names) (n:=(s.heap.push {cls:= .type "dict",data:= .dict #[]}).objs.size) (kK (cells:=X.env.cells) (acc:=[]) hy));rw[<-z9]at e';refine⟨c',e',?_⟩;rw[z9]at e';rcases jB (agv e')with hm|⟨h1,_,_⟩
  .exact(cm hm).1
  .have:=ok.P7 _ h1;rw[hl]at this;cases this
 have okB:(X.vQ s H scope gH fp).Ok:=by
  refine⟨I.ok.wJ,by show gH.scope.kind=_;rw[Qx];exact ok.kind,by show gH.globals=_;rw[<-yy];exact I.ok.wj,by show gH.builtins=_;rw[<-yy];exact I.ok.Qi,by show s.heap.objs.size<=gH.locals;rw[hL];exact afn _,
   fun y z c e1 e2=> ?_,fun y hy=> ?_,fun y c z e=> ?_,I.ok.hd,I.ok.frames,.inl rfl,fun b hb=>⟨?_,fun y c e z=> ?_⟩,I.bs,afu I.ok.Ju I.sz,fun b o e hb=> ?_,fun b hb z=> ?_,I.stack,I.Dc⟩
  .have e1:gH.cells.lookup y=some c:=e1;have e2:gH.cells.lookup z=some c:=e2;rw[z9]at e1 e2;refine pD (fun p hp=> ?_) (fun y z c a b=>I.ok.inj y z c (cm a).1 (cm b).1) (agv e1) (agv e2);rw[agf];exact ais (cm (y:=p.1) (c:=p.2) hp).2
  .show∃c,gH.cells.lookup y=some c;have key:∀k,gH.kindOf y=some k->(k= .cell\/k= .free)->∃c,gH.cells.lookup y=some c:=fun k hk Ue=>by
    unfold Env.kindOf at hk;rw[Qx]at hk;obtain⟨k',e,r⟩:=kW hk;have:k'= .cell\/k'= .free:=by
     rcases r with rfl|⟨rfl,_⟩
     .exact Ue
     .exact .inr rfl
    rcases this with rfl|rfl
    .obtain⟨c,hm⟩:=pC (n:=(s.heap.push {cls:= .type "dict",data:= .dict #[]}).objs.size) (acc:=di X.env.cells scope.names []) (agv e);obtain⟨c',e'⟩:=ng hm;exact⟨c',by rw[z9];exact e'⟩
    .obtain⟨c,h1,_⟩:=D5 e;exact⟨c,h1⟩
   rcases hy with hy|hy
   .exact key _ hy (.inl rfl)
   .exact key _ hy (.inr rfl)
  .have z:(scope.names.lookup y==some alI)=true:=z;have z:scope.names.lookup y=some .cell:=by simpa using z
   have e:gH.cells.lookup y=some c:=e;rw[z9]at e;rcases jB (agv e)with hm|⟨_,h2,_⟩
   .rcases jd hm with hm|⟨h1,_⟩
    .cases hm
    .have q:=ok.P7 _ h1;rw[z]at q;cases q
   .rw[agf]at h2;exact ai6 h2
  .show b≠gH.locals;rw[hL];exact agw (Qt b hb).2
  .have e:gH.cells.lookup y=some c:=e;rcases mem e with⟨h1,_⟩|⟨h1,_⟩
   .exact(Qt b hb).1.2.2.2.2.1 y c h1 z
   .have h2:s.heap.objs.size+1<=b:=by rw[<-z];exact h1
    exact absurd (agi (Qt b hb).2 (ai6 h2)) (ahn _)
  .rcases(Qt b hb).1.2.2.2.1 with z|z
   .exact I.ok.Hg b o e z
   .exact absurd (agi (afT e) (afu I.ok.Ju z)) (ahn _)
  .rcases afv.mp (I.A8 b z)with z|z
   .exact(Qt b hb).1.2.1 z
   .exact(Qt b hb).1.2.2.1 z
 refine⟨okB,rfl,I.bare,Un.kept kp,⟨fun _=>none,?_,fun i y av e1 e2 e3=> ?_⟩,fun y c e=> ?_,?_,fun y c e=> ?_,fun p hp=> ?_,I.dc.kept kp,by rw[lM];exact I.len⟩
 .show Heap.Ns _ gH.locals _;rw[hL];exact Heap.Ns.keeps (Heap.Ns.new ..) fun b o e=>ajI _ _ _ _ e
 .obtain⟨e2,gh⟩:=p7 e2;have Ua:scope.names.lookup y=some .free/\(gH.kindOf y=some .cell\/gH.kindOf y=some .free):=by
   have key:∀k,gH.scope.names.lookup y=some k->k= .local\/k= .cell\/k= .free->scope.names.lookup y=some .free/\(gH.kindOf y=some .cell\/gH.kindOf y=some .free):=fun k hk Ue=>by
    have Zg:=hk;rw[Qx]at hk;obtain⟨k',e,r⟩:=kW hk;have no:¬(k'= .local\/k'= .cell):=fun hh=>by
     rcases ok.own _ (agv e) hh with e'|e'
     .obtain⟨p,hp,hpy⟩:=afH.mp e';have e3:=ok.ix p hp;have:p.1=y:=hpy;rw[this]at e3;exact gh (afH.mpr ⟨p,hp,sA hN e3 e1⟩)
     .exact e' (afo e1)
    rcases r with rfl|⟨rfl,rfl⟩
    .rcases Ue with rfl|rfl|rfl
     .exact absurd (.inl rfl) no
     .exact absurd (.inr rfl) no
     .exact⟨e,.inr Zg⟩
    .exact⟨e,.inl Zg⟩
   have e3:Qg gH.scope y:=e3;rcases e3 with e3|e3|e3
   .exact key _ e3 (.inl rfl)
   .exact key _ e3 (.inr (.inl rfl))
   .exact key _ e3 (.inr (.inr rfl))
  obtain⟨m,hn,hl⟩:=I.loc;have WR:Qg X.env.scope y:=(ok.free _ (agv Ua.1) rfl).elim (fun k=> .inr (.inl k)) (fun k=> .inr (.inr k));obtain⟨w,r,q⟩:=hl i y av e1 e2 WR;refine⟨w,r,.inr ⟨Ua.2,?_⟩⟩;obtain⟨c,h1,h2⟩:=D5 Ua.1;rcases q with⟨k,_⟩|⟨_,c',e',z⟩
  .have k:X.env.scope.names.lookup y=some .local:=k;rcases ok.free _ (agv Ua.1) rfl with k'|k'<;>rw[show X.env.scope.names.lookup y=_ from k']at k<;>cases k
  .rw[h2]at e';cases e';exact⟨c,h1,z.keeps kp⟩
 .have e:gH.cells.lookup y=some c:=e;rcases mem e with⟨h1,_⟩|⟨_,z⟩
  .obtain⟨w,z⟩:=I.cell y c h1;exact⟨w,z.keeps kp⟩
  .exact⟨_,z⟩
 .show H gH.locals=none;rw[hL];exact I.dc.fresh (afn _)
 .have e:gH.cells.lookup y=some c:=e;rcases mem e with⟨h1,_⟩|⟨h1,_⟩
  .exact I.kP y c h1
  .exact I.dc.fresh (ai6 h1)
 .exact absurd (show p∈([]:List (afb×Obj))++ []from hp) (by simp)
theorem N5{D:afb}(I:bb X pins σ H s)(hD:H D=some (.ba xs))(hz:xs.length<sizeLine)(r:bE y v)
  (h:∀s',bb X pins σ (aE H D (.ba (xs++ [y]))) s'->Q .none s'):wpAny (model X.prog X.w) X.A (call (.builtin "list.append") [.ref D,v]) Q E s:=by
 obtain⟨qo,aR,n,ri,e⟩:=I.dc D _ hD;have hl:=ri.length;refine append_at (hsz:=by rw[afJ];omega) e fun h' sb Cc=> ?_
 refine h {s with heap:=h'} (I.pk (t':=s.toks) (by rw[hD];trivial) (.inl rfl) (fun b u hb q=>(sb.2 b hb).trans q) ⟨_,Cc⟩ ⟨by rw[afa];exact hz,aR++ [v],n+1,ri.append (.cons r .nil),?_⟩);rw[Cc];simp
def QP(X:Cx)(nU:List agP)(t:TT):Prop:=
 ∀(pins:List (afb×Obj)) (s:afA) (σ:St) (H:Hp) (Q:Bool->Hp->Prop),bb X pins σ H s->t σ H Q->
  wpAny (model X.prog X.w) X.A (forIn nU true fun c r=>if r=true then do let ok<-isTrue c X.env (eval c X.env);pure (ajJ ok)else pure (ajJ r)) (TP X pins σ Q) X.xe s
def Fb:TT:=fun _ H Q=>Q true H
theorem j5:QP X [] Fb:=fun _ _ _ H _ I h=>wpAny_tests_nil ⟨H,I,h⟩
theorem oK{t:TT}(h:PT X c t):QP X [c] t:=fun pins s σ H Q I hw=>wpAny_tests_one (h pins s σ H Q I hw)
theorem Fc{α:Type}{t:Sem α}{Q Q':α->afA->Prop}(h:wpAny M A t Q (fun _ _=>False) s)(hQ:∀a s,Q a s->Q' a s):wpAny M A t Q' E s:=ahF h hQ fun _ _ z=>ahh z
theorem vR{zJ target:agP}{it acc:afe}(I:Nat->afA->Prop)
  (Ba:∀n s,I n s->wpAny (model prog w) A (pyNext it) (fun r s₁=>match r with
   |none=>R (.ok .next) s₁
   |some v=>wpAny (model prog w) A (letOwnedTupleGo target it v) (fun _ Z0=>wpAny (model prog w) A (assign target env v) (fun _ s₂=>
     wpAny (model prog w) A (forIn nU true fun c r=>if r=true then do let ok<-isTrue c env (eval c env);pure (ajJ ok)else pure (ajJ r)) (fun ok s₃=>
      if ok=true then wpAny (model prog w) A (eval zJ env) (fun x s₄=>
       wpAny (model prog w) A (call (.builtin "list.append") [acc,x]) (fun _ s₅=>∃m,m<n/\I m s₅) (notedBy (model prog w) A env fun e s'=>R (.error e) s') s₄) (notedBy (model prog w) A env fun e s'=>R (.error e) s') s₃
      else∃m,m<n/\I m s₃) (notedBy (model prog w) A env fun e s'=>R (.error e) s') s₂) (notedBy (model prog w) A env fun e s'=>R (.error e) s') Z0) (notedBy (model prog w) A env fun e s'=>R (.error e) s') s₁) (notedBy (model prog w) A env fun e s'=>R (.error e) s') s)
  (n:Nat) (h:I n s):
  codeAny (model prog w) A (.compLoop (.ListComp zJ [⟨target,iter,nU,0⟩] scope pos) 0 it acc env) R s:=by
 refine codeAny_loop rfl I (fun n s hI=> ?_) n h;show wpAny _ A ((compTurn (.ListComp zJ [⟨target,iter,nU,0⟩] scope pos) 0 it acc env).onRaise (fun x=>do noteFrame x env;theTreesLotGoes x)) _ _ s;refine wpAny_noted ?_;rw[compTurn_list];refine afg (akp (afg (ahF (Ba n s hI) (fun r s₁ h₁=> ?_) fun _ _ h'=>h')));cases r with
 |none=>exact afX h₁
 |some v=>
  refine afg (ahF h₁ (fun _ Z0 h₁'=> ?_) fun _ _ h'=>h');refine afg (ahF h₁' (fun _ s₂ h₂=>afg (ahF h₂ (fun ok s₃ h₃=> ?_) fun _ _ h'=>h')) fun _ _ h'=>h');cases ok with
  |false=>exact afX ⟨rfl,h₃⟩
  |true=>
   exact afg (afg (ahF h₃ (fun x s₄ h₄=>afg (ahF h₄ (fun _ s₅ h₅=>afX (afX ⟨rfl,h₅⟩)) fun _ _ h'=>h')) fun _ _ h'=>h'))
def UH(wi:TI)(g:TG)(tt:TT)(te:TE)(vs:List Nat):TE:=fun σ H Q=>wi σ H fun J H1=>∀D,H1 D=none->∃W:Nat->Nat->Hp->Prop,(∃m,W 0 m (aE H1 D (.ba [])))/\∀i m H,W i m H->
 (J.ju i H/\Q (.ref D) H)\/(J.go i H/\∃Nx:Hp->Prop,(∀H',Nx H'->∃m',m'<m/\W (i+1) m' H')/\∀x H',J.Dh i H x H'->g x (fK σ vs) H' fun σ2 H2=>fK σ2 vs=fK σ vs/\tt σ2 H2 fun b H3=>
  if b=true then te σ2 H3 fun y H4=>∃acc,H4 D=some (.ba acc)/\acc.length<sizeLine/\Nx (aE H4 D (.ba (acc++ [y])))else Nx H3)
theorem Cs{Q:VK}{zJ:agP}{use:Option (afe->Sem Unit)}{Qf:afe->afA->Prop}
  (hc:X.calm=true) (hN:X.N.Nodup) (I:bb X pins σ H s) (hi:PI X tg iter wi) (ok:iK X.N X.env.scope scope own)
  (hg:∀(s:afA) (H:Hp) (C:afb) (cl:List (Str×afb)) (fp:List afb),PG (X.vQ s H scope (compEnvC scope cl C X.env) fp) tg g) (ht:∀(s:afA) (H:Hp) (C:afb) (cl:List (Str×afb)) (fp:List afb),QP (X.vQ s H scope (compEnvC scope cl C X.env) fp) nU tt)
  (he:∀(s:afA) (H:Hp) (C:afb) (cl:List (Str×afb)) (fp:List afb),PE (X.vQ s H scope (compEnvC scope cl C X.env) fp) zJ te) (hs:∀x,foldedSetIterable iter X.env x=pure x)
  (h:UH wi g tt te (own.map (·.2)) σ H Q)
  (hRR:∀D C s' m H',bb X pins σ H' s'->Q (.ref D) H'->s'.heap.Ns C m->qy X pins H' C->compPost (model X.prog X.w) X.A X.xe use Qf (.ref D) C (.ok .next) s'):
  wpAny (model X.prog X.w) X.A (comprehension (.ListComp zJ [⟨tg,iter,nU,0⟩] scope pos) scope X.env iH (newList []) false (eval iter X.env) use) Qf X.xe s:=by
 have uV:∀y∈scope.names,y.2= .free->∃c,X.env.cells.lookup y.1=some c:=fun y hy e=>by
  rcases ok.free y hy e with k|k
  .exact I.ok.has _ (.inl k)
  .exact I.ok.has _ (.inr k)
 refine wpAny_comprehension_free (use:=use) rfl hs (zW uV) ok.kind (fun y hy e=>by rw[ok.P7 y hy,e])
  (cK (hi pins s σ H _ I h) fun xv s1 hx=>cK hx fun W6 s2 h2=> ?_)
 obtain⟨it,fp,tn,J,H2,e,I2,T,NQ,f2,q⟩:=h2;subst e;refine ai7 (yS ?_) (by show 0<=sizeLine;decide);generalize hD:s2.heap.objs.size=D;have hDn:H2 D=none:=I2.dc.fresh (akQ hD);obtain⟨W,⟨m0,w0⟩,Ba⟩:=q D hDn;generalize Zu:({s2 with heap:=s2.heap.push {cls:= .type "list",data:= .seq ([]:List afe).toArray}}:afA)=s3;have I3:bb X pins σ (aE H2 D (.ba [])) s3:=by
  rw[<-Zu];refine I2.ml (t':=s2.toks) (fun b o e=>afk _ e) (akQ hD) ⟨afF _,[],0,.nil,?_⟩;rw[<-hD];exact afG _ rfl
 have h3:s3.heap=s2.heap.push {cls:= .type "list",data:= .seq ([]:List afe).toArray}:=by rw[<-Zu]
 have sz:∀b∈fp,b<s2.heap.objs.size:=fun b hb=>by
  obtain⟨o,e,_⟩:=T.obj _ _ NQ b hb;exact afT e
 have f3:∀b∈fp,qy X pins (aE H2 D (.ba [])) b/\b<s3.heap.objs.size:=fun b hb=>by
  have iF:=sz b hb;refine⟨⟨?_,(f2 b hb).2⟩,by rw[h3,agf];exact ais iF⟩;rw[ao (by rw[<-hD];exact agw iF)];exact(f2 b hb).1
 have UD:tn 0 s3.heap:=T.keep _ _ _ NQ fun b _ o e=>by rw[h3];exact afk _ e
 have I4:=xY I3 ok hN f3;have pg:=hg s3 (aE H2 D (.ba [])) s3.heap.objs.size (cellsFrom (s3.heap.objs.size+1) scope.names (di X.env.cells scope.names [])) fp;have pt:=ht s3 (aE H2 D (.ba [])) s3.heap.objs.size (cellsFrom (s3.heap.objs.size+1) scope.names (di X.env.cells scope.names [])) fp;have pe:=he s3 (aE H2 D (.ba [])) s3.heap.objs.size (cellsFrom (s3.heap.objs.size+1) scope.names (di X.env.cells scope.names [])) fp;show codeAny _ _ (.compStart (.ListComp zJ [⟨tg,iter,nU,0⟩] scope pos) 0 (.ref it) (.ref D) (compEnvC scope (cellsFrom (s3.heap.objs.size+1) scope.names (di X.env.cells scope.names [])) s3.heap.objs.size X.env)) (compPost (model X.prog X.w) X.A X.xe use Qf (.ref D) s3.heap.objs.size) {s3 with heap:=pushCells (s3.heap.push {cls:= .type "dict",data:= .dict #[]}) scope.names};have ZO:∀b∈fp,(aE H2 D (.ba [])) b=none:=fun b hb=>(f3 b hb).1.1
 generalize T9:compEnvC scope (cellsFrom (s3.heap.objs.size+1) scope.names (di X.env.cells scope.names [])) s3.heap.objs.size X.env=ce at I4 pg pt pe⊢;have cL:ce.locals=s3.heap.objs.size:=by subst T9;rfl
 generalize hH3:aE H2 D (.ba [])=H3 at I3 I4 pg pt pe w0 ZO f3;generalize hs4:({s3 with heap:=pushCells (s3.heap.push {cls:= .type "dict",data:= .dict #[]}) scope.names}:afA)=s4 at I4⊢;have ZZ:tn 0 s4.heap:=T.keep _ _ _ UD fun b _ o e=>by rw[<-hs4];exact ajI _ _ _ _ (afk _ e)
 have A2:∀{σ':St} {H':Hp} {s':afA},bb (X.vQ s3 H3 scope ce fp) [] σ' H' s'->(∀b∈fp,H' b=none)->∀b∈fp,qy (X.vQ s3 H3 scope ce fp) [] H' b:=fun{σ' H' s'} I' hn b hb=>
  ⟨hn b hb,(I'.ok.TZ b hb).1,I'.ok.Gv b hb,.inl hb,fun x c e=>(I'.ok.TZ b hb).2 x c e,fun p hp=>absurd (show p∈([]:List (afb×Obj))++ []from hp) (by simp)⟩
 have loop:codeAny (model X.prog X.w) X.A (.compLoop (.ListComp zJ [⟨tg,iter,nU,0⟩] scope pos) 0 (.ref it) (.ref D) ce) (compPost (model X.prog X.w) X.A X.xe use Qf (.ref D) s3.heap.objs.size) s4:=by
  refine vR (fun n s'=>∃i H',bb (X.vQ s3 H3 scope ce fp) [] (fK σ (own.map (·.2))) H' s'/\tn i s'.heap/\(∀b∈fp,H' b=none)/\W i n H') ?_ m0 ⟨0,H3,I4,ZZ,ZO,w0⟩;rintro n s5 ⟨i,H5,I5,QE,n5,w5⟩;rcases Ba i n H5 w5 with⟨ju,qq⟩|⟨go,Nx,hNx,step⟩
  .have td:=T.done (X.vQ s3 H3 scope ce fp) rfl rfl rfl hc i [] s5 _ H5 (fun _ _=>False) I5 (A2 I5 n5) QE ju;refine Fc td fun r s6 ⟨hr,I6⟩=> ?_
   subst hr;have I7:bb X pins σ H5 s6:=I3.Q4 (ch:=fp) I6.os I6.base I6.dc I6.bare fun b hb=>⟨(f3 b hb).1.2.2.2.1,(f3 b hb).1.2.1,(f3 b hb).1.2.2.2.2.1,(f3 b hb).1.2.2.2.2.2⟩
   have nC:H5 s3.heap.objs.size=none:=by
    have z:H5 ce.locals=none:=I6.free;rw[cL]at z;exact z
   obtain⟨m,hn,_⟩:=I6.loc;have hn:s6.heap.Ns ce.locals m:=hn;rw[cL]at hn;exact hRR D s3.heap.objs.size s6 m H5 I7 qq hn (I3.wg (afn _) nC)
  .have ti:=T.item (X.vQ s3 H3 scope ce fp) rfl rfl rfl hc i [] s5 _ H5 (fun _ _=>False) I5 (A2 I5 n5) QE go;refine Fc ti fun r s6 ⟨u,hr,h6⟩=> ?_
   subst hr;refine Fc h6 fun _ s7 ⟨x,H7,I7,r7,y7,XI,n7⟩=> ?_
   have I7':=I7.Ip (A2 I7 n7) (T.obj _ _ XI);refine Fc (pg _ s7 _ H7 x u _ I7' r7 (step x H7 y7)) fun _ s8 ⟨σ8,H8,I8,Zw,q8⟩=> ?_
   refine Fc (pt _ s8 σ8 H8 _ I8 q8) fun b s9 ⟨H9,I9,q9⟩=> ?_
   have fin:∀{s':afA} {H':Hp},bb (X.vQ s3 H3 scope ce fp) ([]++sN fp s7.heap) σ8 H' s'->Nx H'->∃m,m<n/\∃i H',bb (X.vQ s3 H3 scope ce fp) [] (fK σ (own.map (·.2))) H' s'/\tn i s'.heap/\(∀b∈fp,H' b=none)/\W i m H':=fun{s' H'} I' nx=>by
    obtain⟨m',hm,w'⟩:=hNx H' nx;have SN:∀b∈fp,∀o,s7.heap.get? b=some o->s'.heap.get? b=some o/\H' b=none:=fun b hb o e=>
     let z:=I'.EN (b,o) (afI _ (afI _ (nh hb e)))
     ⟨z.1,z.2.1⟩
    have hl:(fK σ (own.map (·.2))).length=σ8.length:=by rw[<-Zw,lM]
    refine⟨m',hm,i+1,H',(I'.o8 (pins:=[])).X1 hl (fun j v e=> ?_),T.keep _ _ _ XI fun b hb o e=>(SN b hb o e).1,fun b hb=> ?_,w'⟩
    .rw[<-Zw]at e;exact(p7 e).1
    .obtain⟨o,e,_⟩:=T.obj _ _ XI b hb;exact(SN b hb o e).2
   cases b with
   |false=>
    simp only[alR,if_false]at q9⊢;exact fin I9 q9
   |true=>
    simp only[ajY]at q9⊢;refine Fc (pe _ s9 σ8 H9 _ I9 q9) fun z s10 ⟨yv,H10,Z7,r10,acc,V3,WW,nx⟩=> ?_
    exact N5 (X:=X.vQ s3 H3 scope ce fp) Z7 V3 WW r10 fun s11 Z8=>fin Z8 nx
 exact codeAny_compStart_list loop (T.self X.A 0 _ _ _ ZZ loop)
theorem mv{zJ:agP}(hc:X.calm=true)(hN:X.N.Nodup)(hi:PI X tg iter wi)(ok:iK X.N X.env.scope scope own)
  (hg:∀(s:afA) (H:Hp) (C:afb) (cl:List (Str×afb)) (fp:List afb),PG (X.vQ s H scope (compEnvC scope cl C X.env) fp) tg g) (ht:∀(s:afA) (H:Hp) (C:afb) (cl:List (Str×afb)) (fp:List afb),QP (X.vQ s H scope (compEnvC scope cl C X.env) fp) nU tt)
  (he:∀(s:afA) (H:Hp) (C:afb) (cl:List (Str×afb)) (fp:List afb),PE (X.vQ s H scope (compEnvC scope cl C X.env) fp) zJ te) (hs:∀x,foldedSetIterable iter X.env x=pure x:=by intro _;rfl):
  PE X (.ListComp zJ [⟨tg,iter,nU,0⟩] scope pos) (UH wi g tt te (own.map (·.2))):=by
 intro pins s σ H Q I h;rw[eval_ListComp];refine Cs hc hN I hi ok hg ht he hs h fun D C s' m H' I' q hn f=>⟨m,hn,fun B6 sb=> ?_⟩
 obtain⟨f0,f1,f2,f3,f4,f5⟩:=f;exact⟨.ref D,H',I'.gC (t':=s'.toks) (fun b o hb e=>(sb.2 b hb).trans e) f0 f1 f3 f4 f5,rfl,q⟩
theorem y3{y:Str}{py:Pos}{zJ:agP}{Te:Pos}(hc:X.calm=true)(hN:X.N.Nodup)(hy:X.N[i]? =some y)(Uo:X.env.scope.names.lookup y=some .local)
  (hsw:swapsWith (.ListComp zJ [⟨tg,iter,nU,0⟩] scope pos) (some (.Name y py)) Te.line X.env=pure true) (hi:PI X tg iter wi) (ok:iK X.N X.env.scope scope own)
  (hg:∀(s:afA) (H:Hp) (C:afb) (cl:List (Str×afb)) (fp:List afb),PG (X.vQ s H scope (compEnvC scope cl C X.env) fp) tg g) (ht:∀(s:afA) (H:Hp) (C:afb) (cl:List (Str×afb)) (fp:List afb),QP (X.vQ s H scope (compEnvC scope cl C X.env) fp) nU tt)
  (he:∀(s:afA) (H:Hp) (C:afb) (cl:List (Str×afb)) (fp:List afb),PE (X.vQ s H scope (compEnvC scope cl C X.env) fp) zJ te) (hs:∀x,foldedSetIterable iter X.env x=pure x:=by intro _;rfl):
  PS X (.Assign [.Name y py] (.ListComp zJ [⟨tg,iter,nU,0⟩] scope pos) Te) (Mc (UH wi g tt te (own.map (·.2))) (qk i)):=by
 intro pins s σ H D I h;rw[exec_Assign_Name_used _ _ _ _ hsw];refine afg (akp (afg ?_));show wpAny _ X.A (do let _<-comprehension (.ListComp zJ [⟨tg,iter,nU,0⟩] scope pos) scope X.env (firstIterPos [⟨tg,iter,nU,0⟩] pos) (newList []) false (eval iter X.env) (some (assign (.Name y py) X.env))) _ _ s;have h:UH wi g tt te (own.map (·.2)) σ H (fun x H1=>qk i x σ H1 D.nx):=h;refine afg (cK (Cs (Qf:=fun _ s'=>SP X pins D .next s') hc hN I hi ok hg ht he hs h fun L C s' m H' I' q hn f=> ?_) fun _ s' hq=>afX (afX hq));show wpAny _ _ (assign (.Name y py) X.env (.ref L)) _ _ _;refine al1 (vD (v:=V.ref L) I' hN hy (.inl Uo) rfl (fun s2 I2 ⟨a,sb,ha⟩=> ?_) (.inr Uo));obtain⟨f0,f1,f2,f3,f4,f5⟩:=f;have haC:C≠a:=by
  rcases ha with z|z
  .rw[z];exact f1
  .exact fun e=>f4 y a z e.symm
 refine⟨m,hn.sameBut sb haC,fun h3 NM=> ?_⟩;exact⟨_,H',I2.gC (t':=s2.toks) (fun b o hb e=>(NM.2 b hb).trans e) f0 f1 f3 f4 f5,q⟩
theorem jZ{vs:List Nat}{D:afb}{Qd:Hp->Prop}(Pv:Nat->Hp->Prop)(h0:Pv 0 (aE H1 D (.ba [])))(hl:∀i H,i<=xs.length->Pv i H->aJ K H a xs)
  (hs:∀i x H,xs[i]? =some x->Pv i H->g x (fK σ vs) H fun σ2 H2=>fK σ2 vs=fK σ vs/\tt σ2 H2 fun b H3=>
   if b=true then te σ2 H3 fun y H4=>∃acc,H4 D=some (.ba acc)/\acc.length<sizeLine/\Pv (i+1) (aE H4 D (.ba (acc++ [y])))else Pv (i+1) H3) (hd:∀H,Pv xs.length H->Qd H):
  ∃W:Nat->Nat->Hp->Prop,(∃m,W 0 m (aE H1 D (.ba [])))/\∀i m H,W i m H->
   ((Fw K a).ju i H/\Qd H)\/((Fw K a).go i H/\∃Nx:Hp->Prop,(∀H',Nx H'->∃m',m'<m/\W (i+1) m' H')/\∀x H',(Fw K a).Dh i H x H'->g x (fK σ vs) H' fun σ2 H2=>fK σ2 vs=fK σ vs/\tt σ2 H2 fun b H3=>
    if b=true then te σ2 H3 fun y H4=>∃acc,H4 D=some (.ba acc)/\acc.length<sizeLine/\Nx (aE H4 D (.ba (acc++ [y])))else Nx H3):=by
 refine⟨fun i m H=>m=xs.length-i/\i<=xs.length/\Pv i H,⟨xs.length,by simp,afF _,h0⟩,?_⟩;rintro i m H ⟨rfl,hi,p⟩;have q:=hl i H hi p;by_cases iF:i<xs.length
 .refine .inr ⟨⟨xs,xs[i],q,by simp[iF]⟩,Pv (i+1),fun H' p'=>⟨xs.length-(i+1),by omega,rfl,iF,p'⟩,fun x H' y=> ?_⟩;obtain⟨e,y⟩:=y;subst e;exact hs i x _ (y xs q) p
 .have e:i=xs.length:=by omega
  subst e;exact .inl ⟨⟨xs,q,afn _⟩,hd H p⟩
theorem OR{vs:List Nat}{D:afb}{Qd:Hp->Prop}(Pv:Nat->Hp->Prop)(h0:Pv 0 (aE H1 D (.ba [])))(hl:∀i H,i<=xs.length->Pv i H->gF K H a xs)
  (hs:∀i x H,xs[i]? =some x->Pv i H->g x (fK σ vs) H fun σ2 H2=>fK σ2 vs=fK σ vs/\tt σ2 H2 fun b H3=>
   if b=true then te σ2 H3 fun y H4=>∃acc,H4 D=some (.ba acc)/\acc.length<sizeLine/\Pv (i+1) (aE H4 D (.ba (acc++ [y])))else Pv (i+1) H3) (hd:∀H,Pv xs.length H->Qd H):
  ∃W:Nat->Nat->Hp->Prop,(∃m,W 0 m (aE H1 D (.ba [])))/\∀i m H,W i m H->
   ((QM K a).ju i H/\Qd H)\/((QM K a).go i H/\∃Nx:Hp->Prop,(∀H',Nx H'->∃m',m'<m/\W (i+1) m' H')/\∀x H',(QM K a).Dh i H x H'->g x (fK σ vs) H' fun σ2 H2=>fK σ2 vs=fK σ vs/\tt σ2 H2 fun b H3=>
    if b=true then te σ2 H3 fun y H4=>∃acc,H4 D=some (.ba acc)/\acc.length<sizeLine/\Nx (aE H4 D (.ba (acc++ [y])))else Nx H3):=by
 refine⟨fun i m H=>m=xs.length-i/\i<=xs.length/\Pv i H,⟨xs.length,by simp,afF _,h0⟩,?_⟩;rintro i m H ⟨rfl,hi,p⟩;have q:=hl i H hi p;by_cases iF:i<xs.length
 .refine .inr ⟨⟨xs,xs[i],q,by simp[iF]⟩,Pv (i+1),fun H' p'=>⟨xs.length-(i+1),by omega,rfl,iF,p'⟩,fun x H' y=> ?_⟩;obtain⟨e,y⟩:=y;subst e;exact hs i x _ (y xs q) p
 .have e:i=xs.length:=by omega
  subst e;exact .inl ⟨⟨xs,q,afn _⟩,hd H p⟩
section
variable{κ:Type} [DecidableEq κ]
def ee(aQ:List (κ×V))(k:κ):Option V:=(aQ.find? fun kv=>decide (kv.1=k)).map (·.2)
def dR(aQ:List (κ×V))(k:κ)(v:V):List (κ×V):=
 if(aQ.any fun kv=>decide (kv.1=k))=true then aQ.map (fun kv=>if kv.1=k then(kv.1,v)else kv)else aQ++ [(k,v)]
def cU(aQ:List (κ×V))(k:κ):List (κ×V):=aQ.filter fun kv=>decide (kv.1≠k)
theorem eF{p:κ×V}{r:List (κ×V)}{k:κ}(e:p.1=k):ee (p::r) k=some p.2:=by simp[ee,ag8,e]
theorem dS{p:κ×V}{r:List (κ×V)}{k:κ}(e:¬p.1=k):ee (p::r) k=ee r k:=by simp[ee,ag8,e]
theorem o9(k:κ):∀aQ:List (κ×V),(aQ.any fun kv=>decide (kv.1=k))=(ee aQ k).isSome
 | []=>rfl
 |p::r=>by
  rw[aio];by_cases e:p.1=k
  .simp only[eF e,afj e,Bool.true_or,alQ]
  .rw[dS e,agb e,Bool.false_or];exact o9 k r
theorem zz(k j:κ)(y:V):∀aQ:List (κ×V),ee (aQ.map fun kv=>if kv.1=k then(kv.1,y)else kv) j=(ee aQ j).map fun x=>if j=k then y else x
 | []=>rfl
 |p::r=>by
  have ih:=zz k j y r;rw[af9];by_cases h:p.1=k
  .rw[afh h];by_cases e:p.1=j
   .rw[eF (p:=(p.1,y)) e,eF e,ajK,afh (e.symm.trans h)]
   .rw[dS (p:=(p.1,y)) e,dS e,ih]
  .rw[afc h];by_cases e:p.1=j
   .rw[eF (p:=p) e,eF e,ajK,afc (fun z=>h (e.trans z))]
   .rw[dS (p:=p) e,dS e,ih]
theorem vL(k j:κ)(y:V):∀aQ:List (κ×V),ee aQ k=none->ee (aQ++ [(k,y)]) j=if j=k then some y else ee aQ j
 | [],_=>by
  by_cases e:k=j
  .rw[afh e.symm];exact eF (p:=(k,y)) e
  .rw[afc (fun z=>e z.symm)];exact dS (p:=(k,y)) e
 |p::r,hn=>by
  rw[ag9];have hk:¬p.1=k:=fun z=>by rw[eF z]at hn;cases hn
  rw[dS hk]at hn;have ih:=vL k j y r hn;by_cases e:p.1=j
  .rw[eF e,eF e,afc (fun z=>hk (e.trans z))]
  .rw[dS e,dS e,ih]
theorem Jp(aQ:List (κ×V))(k j:κ)(y:V):ee (dR aQ k y) j=if j=k then some y else ee aQ j:=by
 unfold dR;by_cases a:(aQ.any fun kv=>decide (kv.1=k))=true
 .rw[afh a,zz];rw[o9]at a;by_cases e:j=k
  .obtain⟨x,hx⟩:=akq.mp a;rw[afh e,e,hx,ajK,afh rfl]
  .rw[afc e];cases ee aQ j with
   |none=>rfl
   |some x=>rw[ajK,afc e]
 .rw[afc a];refine vL k j y aQ ?_;rw[o9]at a;cases q:ee aQ k with
  |none=>rfl
  |some x=>rw[q]at a;exact(a rfl).elim
theorem dm(aQ:List (κ×V))(k:κ)(v:V):(dR aQ k v).length<=aQ.length+1:=by
 unfold dR;split
 .rw[ae9];omega
 .rw[afa,afp,aiO];omega
theorem jy.iY{u:Option afe}(r:jy o u):o.isSome=u.isSome:=by
 cases o with
 |none=>cases u with
  |none=>rfl
  |some _=>exact(show False from r).elim
 |some _=>cases u with
  |none=>exact(show False from r).elim
  |some _=>rfl
theorem jy.getD{u:Option afe}{d:V}{d':afe}(r:jy o u)(rd:bE d d'):bE (o.getD d) (u.getD d'):=by
 cases o with
 |none=>cases u with
  |none=>exact rd
  |some _=>exact(show False from r).elim
 |some _=>cases u with
  |none=>exact(show False from r).elim
  |some _=>exact r
theorem KV.val{aQ:List (κ×V)}{vs:List (κ×afe)}(r:KV aQ vs)(k:κ):jy (ee aQ k) (valueAt vs k):=by
 unfold KV at r
 induction r with
 |nil=>exact agW
 |@cons p q ps qs h t ih=>
  obtain⟨h1,h2⟩:=h;by_cases e:p.1=k
  .have e':q.1=k:=h1.symm.trans e;have b:valueAt (q::qs) k=some q.2:=by simp[valueAt,ag8,e']
   rw[eF e,b];exact h2
  .have e':¬q.1=k:=fun z=>e (h1.trans z)
   have b:valueAt (q::qs) k=valueAt qs k:=by simp[valueAt,ag8,e']
   rw[dS e,b];exact ih
theorem KV.any{aQ:List (κ×V)}{vs:List (κ×afe)}(r:KV aQ vs)(k:κ):(aQ.any fun kv=>decide (kv.1=k))=vs.any fun kv=>decide (kv.1=k):=by
 unfold KV at r
 induction r with
 |nil=>rfl
 |cons h t ih=>rw[aio,aio,ih,h.1]
theorem KV.Po{aQ:List (κ×V)}{vs:List (κ×afe)}(r:KV aQ vs)(k:κ)(ry:bE y u):
  KV (aQ.map fun kv=>if kv.1=k then(kv.1,y)else kv) (vs.map fun kv=>if kv.1=k then(kv.1,u)else kv):=by
 unfold KV at r⊢
 induction r with
 |nil=>exact .nil
 |@cons p q ps qs h t ih=>
  rw[af9,af9];refine .cons ?_ ih;obtain⟨h1,h2⟩:=h;by_cases e:p.1=k
  .rw[afh e,afh (h1.symm.trans e)];exact⟨h1,ry⟩
  .rw[afc e,afc (fun z=>e (h1.trans z))];exact⟨h1,h2⟩
theorem KV.gZ{aQ:List (κ×V)}{vs:List (κ×afe)}(r:KV aQ vs)(k:κ)(ry:bE y u):KV (dR aQ k y) (stored vs k u):=by
 unfold dR stored;rw[r.any k];by_cases e:(vs.any fun kv=>decide (kv.1=k))=true
 .rw[afh e,afh e];exact r.Po k ry
 .rw[afc e,afc e];exact anM r ⟨rfl,ry⟩
theorem KV.drop{aQ:List (κ×V)}{vs:List (κ×afe)}(r:KV aQ vs)(k:κ):KV (cU aQ k) (without vs k):=by
 unfold KV at r⊢;unfold cU without
 induction r with
 |nil=>exact .nil
 |@cons p q ps qs h t ih=>
  obtain⟨h1,h2⟩:=h;rw[afS,afS];by_cases e:p.1=k
  .have a:¬decide (p.1≠k)=true:=by simp[e]
   have b:¬decide (q.1≠k)=true:=by simp[h1.symm.trans e]
   rw[afc a,afc b];exact ih
  .have e':¬q.1=k:=fun z=>e (h1.trans z)
   have a:decide (p.1≠k)=true:=by simp[e]
   have b:decide (q.1≠k)=true:=by simp[e']
   rw[afh a,afh b];exact .cons ⟨h1,h2⟩ ih
theorem KV.length{aQ:List (κ×V)}{vs:List (κ×afe)}(r:KV aQ vs):aQ.length=vs.length:=ako r
theorem yk(aQ:List (κ×V))(k:κ):(cU aQ k).length<=aQ.length:=af6 _ _
end
theorem kS{k:br}(r:bE (kV k) u):(cO P w).is k u=true:=by
 cases k with
 |inl i=>obtain⟨t,e⟩:=(show∃t,u=ahO i t from r);subst e;exact lh P w i t
 |inr x=>obtain⟨t,e⟩:=(show∃t,u=alx x t from r);subst e;exact yN P w x t
theorem uZ{P:afz}{w:af3}:∀{ks:List br} {us:List afe},bo (ks.map kV) us->ItemsAre (cO P w) ks us
 | [],_,r=>by rw[ajZ]at r;cases r;exact .nil
 |k::ks,_,r=>by
  rw[af9]at r;cases r with
  |cons h t=>exact .cons (kS h) (uZ t)
abbrev KT(H:Hp):List (List br×V)->List (List br×afb×afe)->Prop:=Paired fun p q=>p.1=q.1/\H q.2.1=some (.dY (p.1.map kV))/\bE p.2 q.2.2
theorem KT.val{xs:List (List br×afb×afe)}(r:KT H aQ xs)(k:List br):jy (ee aQ k) ((atKey xs k).map (·.2)):=by
 induction r with
 |nil=>exact agW
 |@cons p q ps qs h t ih=>
  obtain⟨h1,_,h2⟩:=h;by_cases e:p.1=k
  .have e':q.1=k:=h1.symm.trans e;have b:atKey (q::qs) k=some q.2:=by simp[atKey,ag8,e']
   rw[eF e,b];exact h2
  .have e':¬q.1=k:=fun z=>e (h1.trans z)
   have b:atKey (q::qs) k=atKey qs k:=by simp[atKey,ag8,e']
   rw[dS e,b];exact ih
theorem KT.Po{xs:List (List br×afb×afe)}(r:KT H aQ xs)(k:List br)(ry:bE y u):
  KT H (aQ.map fun kv=>if kv.1=k then(kv.1,y)else kv) (xs.map (putAt k u)):=by
 induction r with
 |nil=>exact .nil
 |@cons p q ps qs h t ih=>
  rw[af9,af9];refine .cons ?_ ih;obtain⟨h1,h2,h3⟩:=h;unfold putAt;by_cases e:p.1=k
  .rw[afh e,afh (h1.symm.trans e)];exact⟨h1,h2,ry⟩
  .rw[afc e,afc (fun z=>e (h1.trans z))];exact⟨h1,h2,h3⟩
theorem KT.gZ{xs:List (List br×afb×afe)}(r:KT H aQ xs)(k:List br)(hb:H b=some (.dY (k.map kV)))(ry:bE y u):
  KT H (dR aQ k y) (storedH xs k b u):=by
 have e:(aQ.any fun kv=>decide (kv.1=k))=(atKey xs k).isSome:=by
  rw[o9,(r.val k).iY,al8]
 unfold dR storedH;rw[e];by_cases q:(atKey xs k).isSome=true
 .rw[afh q,afh q];exact r.Po k ry
 .rw[afc q,afc q];exact anM r ⟨rfl,hb,ry⟩
theorem KT.keeps{xs:List (List br×afb×afe)}(r:KT H aQ xs)(ht:∀b ys,H b=some (.dY ys)->H' b=some (.dY ys)):KT H' aQ xs:=
 Paired.OW r fun _ _ z=>⟨z.1,ht _ _ z.2.1,z.2.2⟩
theorem NK{u:HO}(ok:kE P w H h)(e:Rd H a u):eP P w H h a u:=e.ok ok
theorem uL{aQ:List (br×V)}(ok:kE P w H h)(e:Rd H a (.dK aQ)):aQ.length<=sizeLine/\(a==sysModules)=false/\∃vs,KV aQ vs/\h.DictOf (cO P w) a vs:=
 show eP P w H h a (.dK aQ)from NK ok e
theorem BS{aQ:List (br×V)}(ok:kE P w H h)(e:H a=some (.dK aQ)):aQ.length<=sizeLine/\(a==sysModules)=false/\∃vs,KV aQ vs/\h.DictOf (cO P w) a vs:=uL ok (.inl e)
theorem si{ks:List br}(ok:kE P w H h)(e:H a=some (.dY (ks.map kV))):(tupleKind (cO P w)).is h ks a:=by
 obtain⟨_,aR,r,o,h1,h2,n,h3⟩:=(show eP P w H h a (.dY (ks.map kV))from ok a _ e);exact⟨o,aR.toArray,n,h1,h2,h3,by simpa using uZ r⟩
theorem uN(ok:kE P w H h)(e:Rd H a (.dT aQ)):aQ.length<=sizeLine/\(a==sysModules)=false/\
  ∃xs,KT H aQ xs/\h.DictOfH (tupleKind (cO P w)) a xs:=by
 obtain⟨z,y,xs,r,o,es,ep,h1,h2,h3,h4,h5⟩:=(show eP P w H h a (.dT aQ)from NK ok e);refine⟨z,y,xs,r,o,es,ep,h1,h2,h3,h4,fun x hx=> ?_,h5⟩;have all:∀{l:List (List br×V)} {m:List (List br×afb×afe)},KT H l m->∀x∈m,(tupleKind (cO P w)).is h x.1 x.2.1:=by
  intro l m q
  induction q with
  |nil=>intro x hx;exact nomatch hx
  |@cons p q ps qs hq t ih=>
   intro x hx;rcases afv.mp hx with e|hx
   .subst e;exact si ok (by rw[<-hq.1];exact hq.2.1)
   .exact ih x hx
 exact all r x hx
theorem Rj(ok:kE P w H h)(e:H a=some (.dT aQ)):aQ.length<=sizeLine/\(a==sysModules)=false/\
  ∃xs,KT H aQ xs/\h.DictOfH (tupleKind (cO P w)) a xs:=uN ok (.inl e)
def ei(H:Hp)(a:afb)(y:V)(r:Option V):Prop:=
 (∃aQ k,Rd H a (.dK aQ)/\y=kV k/\r=ee aQ k)\/∃aQ k b,Rd H a (.dT aQ)/\y= .ref b/\H b=some (.dY (k.map kV))/\r=ee aQ k
def pA(H:Hp)(a:afb)(y v:V)(H':Hp):Prop:=
 (∃aQ k,H a=some (.dK aQ)/\y=kV k/\aQ.length<sizeLine/\H'=aE H a (.dK (dR aQ k v)))\/
 ∃aQ k b,H a=some (.dT aQ)/\y= .ref b/\H b=some (.dY (k.map kV))/\aQ.length<sizeLine/\H'=aE H a (.dT (dR aQ k v))
theorem ei.k{H:Hp}{a:afb}{aQ:List (br×V)}{k:br}(e:H a=some (.dK aQ)):ei H a (kV k) (ee aQ k):= .inl ⟨aQ,k,.inl e,rfl,rfl⟩
theorem pA.k{H:Hp}{a:afb}{aQ:List (br×V)}{k:br}{v:V}(e:H a=some (.dK aQ))(hl:aQ.length<sizeLine):pA H a (kV k) v (aE H a (.dK (dR aQ k v))):= .inl ⟨aQ,k,e,rfl,hl,rfl⟩
section
variable{v:V}{r:afe}
theorem bb.qg(I:bb X pins σ H s):sysModules<s.heap.objs.size:=by
 have h:mainGlobals<s.heap.objs.size:=(I.wJ.wj.keeps I.bk).lt;exact al9 (by decide) h
theorem DB(hu:A.units+1<cLine)(I:bb X pins σ H s)(g:ei H a y (some v))(ry:bE y u)(h:∀w' s',bb X pins σ H s'->bE v w'->Q w' s'):
  wpAny (model X.prog X.w) A (getItem (.ref a) u) Q E s:=by
 rcases g with⟨aQ,k,e,ey,l⟩|⟨aQ,k,b,e,ey,eb,l⟩
 .subst ey;obtain⟨z,hd,vs,kl,dd⟩:=uL I.dc e;obtain⟨w',hw,xb⟩:=jy.oV (v:=v) (o:=valueAt vs k) (by rw[l];exact kl.val k);exact aml (kS ry) dd.mapOf hw (h w' _ (I.qM _) xb)
 .subst ey;cases(show u=afZ b from ry);obtain⟨z,hd,xs,kl,dd⟩:=uN I.dc e;obtain⟨w',hw,xb⟩:=jy.oV (v:=v) (o:=(atKey xs k).map (·.2)) (by rw[l];exact kl.val k);obtain⟨p,hp,hp2⟩:=ai5.mp hw;refine wpAny_getItem_heap (aiS hu) (si I.dc eb) dd hp ?_;rw[hp2];exact h w' _ (I.qM _) xb
theorem VB(hu:A.units+1<cLine)(I:bb X pins σ H s)(g:ei H a y o)(ry:bE y u)(h:∀s',bb X pins σ H s'->Q (.bool o.isSome) s'):
  wpAny (model X.prog X.w) A (compareOp .In u (.ref a)) Q E s:=by
 rcases g with⟨aQ,k,e,ey,l⟩|⟨aQ,k,b,e,ey,eb,l⟩
 .subst ey;obtain⟨z,hd,vs,kl,dd⟩:=uL I.dc e;refine wpAny_in_of (kS ry) hd dd.mapOf ?_;rw[<-(kl.val k).iY,<-l];exact h _ (I.qM _)
 .subst ey;cases(show u=afZ b from ry);obtain⟨z,hd,xs,kl,dd⟩:=uN I.dc e;refine wpAny_in_heap (aiS hu) (si I.dc eb) hd dd ?_;have q:=(kl.val k).iY;rw[al8]at q;rw[<-q,<-l];exact h _ (I.qM _)
theorem qQ{ob:HO}(I:bb X pins σ H s)(mu:QN (H a))(hs:agk a s.heap h')(he:∃q,h'.get? a=some q)(new:eP X.prog X.w (aE H a ob) h' a ob):
  bb X pins σ (aE H a ob) {s with heap:=h',toks:=t'}:=
 I.pk (x:=a) (e:=a) mu (.inl rfl) (fun b q hb z=>(hs.2 b hb).trans z) he new
theorem vZ{aQ:List (br×V)}{vs:List (br×afe)}(z:aQ.length<=sizeLine)(hd:(a==sysModules)=false)(kl:KV aQ vs)(dd:h'.DictOf (cO P w) a vs):
  eP P w H' h' a (.dK aQ):=⟨z,hd,vs,kl,dd⟩
theorem DC{Q:Unit->afA->Prop}(hu:A.units+1<cLine)(I:bb X pins σ H s)(g:pA H a y v H')(ry:bE y u)(rv:bE v r)(h:∀s',bb X pins σ H' s'->Q () s'):
  wpAny (model X.prog X.w) A (setItem (.ref a) u r) Q E s:=by
 rcases g with⟨aQ,k,e,ey,l,eH⟩|⟨aQ,k,b,e,ey,eb,l,eH⟩
 .subst ey eH;obtain⟨z,hd,vs,kl,dd⟩:=BS I.dc e;have hz:vs.length<=sizeLine:=by rw[<-kl.length];exact z
  have hl:(dR aQ k v).length<=sizeLine:=by have:=dm aQ k v;omega
  refine wpAny_setItem_pairs (hsz:=hz) (kS ry) dd fun h' Jv hs=>h _ ?_
  have he:∃q,h'.get? a=some q:=let⟨q,_,_,hq,_⟩:=Jv;⟨q,hq⟩
  exact qQ I (by rw[e];exact agW) hs he (vZ hl hd (kl.gZ k rv) Jv)
 .subst ey eH;cases(show u=afZ b from ry);obtain⟨z,hd,xs,kl,dd⟩:=Rj I.dc e;have hz:xs.length<=sizeLine:=by rw[<-ako kl];exact z
  have hl:(dR aQ k v).length<=sizeLine:=by have:=dm aQ k v;omega
  refine wpAny_setItem_heap (hsz:=hz) (aiS hu) (si I.dc eb) dd fun h' Jv hs=>h _ ?_
  obtain⟨q,es,ep,hq,h2,h3,h4,_,h5⟩:=Jv;refine qQ I (by rw[e];exact agW) hs ⟨q,hq⟩ ⟨hl,hd,_,(kl.gZ k eb rv).keeps fun c ys ec=> ?_,q,es,ep,hq,h2,h3,h4,h5⟩;rw[ao (Nz ec e (fun z=>nomatch z))];exact ec
end
section
variable{aQ:List (br×V)}{k:br}
theorem Qk{Q:Unit->afA->Prop}(I:bb X pins σ H s)(e:H a=some (.dK aQ))(ry:bE (kV k) u)(l:(ee aQ k).isSome=true)(h:∀s',bb X pins σ (aE H a (.dK (cU aQ k))) s'->Q () s'):
  wpAny (model X.prog X.w) A (delItem (.ref a) u) Q E s:=by
 obtain⟨z,hd,vs,kl,dd⟩:=BS I.dc e;refine wpAny_delItem_slot dd.typeIs (by decide) akd
  (aj0 akd dd.typeIs PySem.F.entry_dict_delitem (PySem.F.args_dict_delitem_2 _ _) (meets_dict_delitem_pairs (cO X.prog X.w) a (kS ry)) ⟨vs,dd,by rw[<-kl.length];exact z,by rw[<-(kl.val k).iY];exact l,fun h' Jv hs=>h _ ?_⟩)
 have he:∃q,h'.get? a=some q:=let⟨q,_,_,hq,_⟩:=Jv;⟨q,hq⟩
 exact qQ I (by rw[e];exact agW) hs he (vZ (afu (yk aQ k) z) hd (kl.drop k) Jv)
theorem Rg{v:V}{more:List afe}(I:bb X pins σ H s)(e:H a=some (.dK aQ))(ry:bE (kV k) u)(l:ee aQ k=some v)(hm:more=[]\/∃x,more=[x])
  (h:∀w' s',bb X pins σ (aE H a (.dK (cU aQ k))) s'->bE v w'->Q w' s'):wpAny (model X.prog X.w) A (call (.builtin "dict.pop") (.ref a::u::more)) Q E s:=by
 obtain⟨z,hd,vs,kl,dd⟩:=BS I.dc e;obtain⟨w',hw,xb⟩:=jy.oV (v:=v) (o:=valueAt vs k) (by rw[<-l];exact kl.val k);have hp:(keyPart u).isSome=true:=by
  cases k with
  |inl i=>obtain⟨t,q⟩:=(show∃t,u=ahO i t from ry);subst q;rfl
  |inr x=>obtain⟨t,q⟩:=(show∃t,u=alx x t from ry);subst q;rfl
 have ha:argsOk "dict.pop" ⟨.ref a::u::more,[]⟩:=by
  rcases hm with q|⟨x,q⟩
  .subst q;exact PySem.F.args_dict_pop_2 _ _
  .subst q;exact PySem.F.args_dict_pop_3 _ _ _
 refine aj0 ak7 dd.typeIs PySem.F.entry_dict_pop ha (meets_dict_pop_there (cO X.prog X.w) a (kS ry) more hm hp)
  ⟨vs,w',dd,by rw[<-kl.length];exact z,hw,fun h' Jv hs=>h w' _ ?_ xb⟩
 have he:∃q,h'.get? a=some q:=let⟨q,_,_,hq,_⟩:=Jv;⟨q,hq⟩
 exact qQ I (by rw[e];exact agW) hs he (vZ (afu (yk aQ k) z) hd (kl.drop k) Jv)
end
def NY(i:agP):Prop:=∀ov iv,subscripted i false ov iv=operate [ov,iv] (getItem ov iv)
theorem Dd{oU:agP}{id:String}
  (hl:typeLookup (.type T) "__getitem__"=pure (some (.builtin id))) (hs:NY oU)
  (h:wpAny (model prog w) A (eval value env) (fun o s₁=>wpAny (model prog w) A (eval oU env) (fun i s₂=>s₂.TypeIs o T/\wpAny (model prog w) A (getItem o i) Q E s₂) E s₁) E s):
  wpAny (model prog w) A (eval (.Subscript value oU pos) env) Q E s:=by
 refine amI (ahF h (fun o s₁ h₁=>ahF h₁ (fun i s₂ h₂=> ?_) fun _ _ x=>x) fun _ _ x=>x);obtain⟨hT,h₂⟩:=h₂;unfold subscriptTail;refine afg ?_;rw[getitemInPython_of_ne hT.not_modules];refine afg (wpAny_specialOf hT hl ?_);have fin:wpAny (model prog w) A (subscripted oU false o i) (fun r s₃=>wpAny (model prog w) A (letTemporaryGo value o r>>=fun _=>pure r) Q E s₃) E s₂:=by
  rw[hs o i];exact wpAny_operating (ahF h₂ (fun r s₃ h₃=>afg (wpAny_letTemporaryGo (afX h₃))) fun _ _ x=>x)
 first
  |exact afX (afg fin)
  |exact afg (afX (afg fin))
  |exact afg fin
theorem yi(I:bb X pins σ H s)(g:ei H a y o):s.TypeIs (.ref a) "dict":=by
 rcases g with⟨aQ,k,e,_,_⟩|⟨aQ,k,b,e,_,_,_⟩
 .obtain⟨_,_,vs,_,dd⟩:=uL I.dc e;exact dd.typeIs
 .obtain⟨_,_,xs,_,dd⟩:=uN I.dc e;exact dd.typeIs
inductive G1(Q:VK)(x:V)(y:V)(H2:Hp):Prop|m:∀a v,x= .ref a->ei H2 a y (some v)->Q v H2->G1 Q x y H2
def Ti(td ty:TE):TE:=fun σ H Q=>td σ H fun x H1=>ty σ H1 fun y H2=>G1 Q x y H2
inductive Nj(Q:VK)(y:V)(x:V)(H2:Hp):Prop|m:∀a o,x= .ref a->ei H2 a y o->Q (.bl o.isSome) H2->Nj Q y x H2
def XN(ty td:TE):TE:=fun σ H Q=>ty σ H fun y H1=>td σ H1 fun x H2=>Nj Q y x H2
inductive G0(D:iD)(σ:St)(v:V)(x:V)(y:V)(H3:Hp):Prop|m:∀a H4,x= .ref a->pA H3 a y v H4->D.nx σ H4->G0 D σ v x y H3
def S5(td ty tv:TE):TS:=fun D σ H=>tv σ H fun v H1=>td σ H1 fun x H2=>ty σ H2 fun y H3=>G0 D σ v x y H3
section
variable{o i:agP}{tv:TE}
theorem bC(hu:X.A.units+1<cLine)(ho:PE X o td)(hi:PE X i ty)(hs:NY i:=by exact fun _ _=>rfl):PE X (.Subscript o i pos) (Ti td ty):=by
 intro pins s σ H Q I h;refine Dd ake.lookup hs (cK (ho pins s σ H _ I h) fun u s1 ⟨x,H1,I1,rx,q1⟩=>cK (hi pins s1 σ H1 _ I1 q1) fun iv s2 ⟨y,H2,I2,ry,a,v,ex,g,q2⟩=> ?_);subst ex;obtain rfl:u=afZ a:=rx;exact⟨yi I2 g,DB hu I2 g ry fun w' s3 I3 xb=>⟨v,H2,I3,xb,q2⟩⟩
theorem AG(hu:X.A.units+1<cLine)(hi:PE X i ty)(ho:PE X o td):PC X .In i o (XN ty td):=by
 intro pins s σ H Q I h;refine cK (hi pins s σ H _ I h) fun iv s1 ⟨y,H1,I1,ry,q1⟩=>cK (ho pins s1 σ H1 _ I1 q1) fun u s2 ⟨x,H2,I2,rx,a,ov,ex,g,q2⟩=> ?_
 subst ex;obtain rfl:u=afZ a:=rx;exact VB hu I2 g ry fun s3 I3=>⟨.bl ov.isSome,H2,I3,rfl,q2⟩
theorem iT(hu:X.A.units+1<cLine)(ho:PE X o td)(hi:PE X i ty)(hv:PE X value tv)(hs:swapsWith value (some (.Subscript o i iH)) pos.line X.env=pure false):
  PS X (.Assign [.Subscript o i iH] value pos) (S5 td ty tv):=by
 intro pins s σ H D I h;refine wpAny_Assign_Subscript (cK (hv pins s σ H _ I h) fun r s1 ⟨v,H1,I1,rv,q1⟩=>cK (ho pins s1 σ H1 _ I1 q1) fun u s2 ⟨x,H2,I2,rx,q2⟩=>cK (hi pins s2 σ H2 _ I2 q2) fun iv s3 ⟨y,H3,I3,ry,a,H4,ex,g,q3⟩=> ?_) hs;subst ex;obtain rfl:u=afZ a:=rx;exact DC hu I3 g ry rv fun s4 I4=>⟨σ,H4,I4,q3⟩
end
theorem Gp(h:age)(hb:sysModules<h.objs.size):eP P w H (h.push {cls:= .type "dict",data:= .dict #[]}) h.objs.size (.dK []):=
 ⟨afF _,agS.mpr (agU (agw hb)),[],.nil,Heap.DictOf.new h⟩
def PZ:TE:=fun _ H Q=>∀p,H p=none->Q (.ref p) (aE H p (.dK []))
theorem jJ:PE X (.Dict [] [] pos) PZ:=fun pins s σ H Q I h=>
 wpAny_Dict_empty ⟨.ref s.heap.objs.size,_,I.ml (a:=s.heap.objs.size) (o:= .dK []) (t':=s.toks) (fun _ _ q=>afk _ q) (afn _) (Gp s.heap I.qg),rfl,h _ (I.dc.fresh (afn _))⟩
structure M1(X:Cx)(o:agP)(m:Str)(eI:Pos)(e:agP)(iE:Pos):Prop where
 base:attributeBase o m X.env (eval o X.env)=eval o X.env
 Gy:((backTo iE (starEach [e] X.env)).all (fun x=> !x.1)&&(backToKw iE (keywordEach [] X.env)).all (fun x=>x.1.isSome)
  &&decide (([e]:List agP).length+([]:List alz).length+(if([]:List alz).isEmpty then 0 else 1)<30))=true
 line:(eI.endLine==iE.line)=true
 Dg:backTo iE (starEach [e] X.env)=[(false,eval e X.env)]
structure M2(X:Cx)(o:agP)(m:Str)(eI:Pos)(e f:agP)(iE:Pos):Prop where
 base:attributeBase o m X.env (eval o X.env)=eval o X.env
 Gy:((backTo iE (starEach [e,f] X.env)).all (fun x=> !x.1)&&(backToKw iE (keywordEach [] X.env)).all (fun x=>x.1.isSome)
  &&decide (([e,f]:List agP).length+([]:List alz).length+(if([]:List alz).isEmpty then 0 else 1)<30))=true
 line:(eI.endLine==iE.line)=true
 Dg:backTo iE (starEach [e,f] X.env)=[(false,eval e X.env),(false,eval f X.env)]
def UM(H:Hp)(a:afb):Prop:=(∃aQ,Rd H a (.dK aQ))\/∃aQ,Rd H a (.dT aQ)
theorem GU(I:bb X pins σ H s)(d:UM H a):
  s.TypeIs (.ref a) "dict"/\(∀b,afZ a= .ref b->∃ob,s.heap.get? b=some ob/\ob.dict=none)/\(a==sysModules)=false:=by
 rcases d with⟨aQ,e⟩|⟨aQ,e⟩
 .obtain⟨_,hd,vs,_,dd⟩:=uL I.dc e;refine⟨dd.typeIs,fun b q=> ?_,hd⟩;cases q;obtain⟨ob,_,_,h1,h2,_⟩:=dd;exact⟨ob,h1,h2.2.1⟩
 .obtain⟨_,hd,xs,_,dd⟩:=uN I.dc e;refine⟨dd.typeIs,fun b q=> ?_,hd⟩;cases q;obtain⟨ob,_,_,h1,h2,_⟩:=dd;exact⟨ob,h1,h2.2.1⟩
section
variable{d:V}{r:afe}
theorem Of(hu:A.units+1<cLine)(I:bb X pins σ H s)(g:ei H a y o)(ry:bE y u)(rd:bE d r)(h:∀w' s',bb X pins σ H s'->bE (o.getD d) w'->Q w' s'):
  wpAny (model X.prog X.w) A (call (.builtin "dict.get") [.ref a,u,r]) Q E s:=by
 rcases g with⟨aQ,k,e,ey,l⟩|⟨aQ,k,b,e,ey,eb,l⟩
 .subst ey;obtain⟨z,hd,vs,kl,dd⟩:=uL I.dc e;refine aj0 ahY dd.typeIs ai8 (aiV _ _ _) (akU (cO X.prog X.w) a (kS ry) hd r) ⟨_,dd.mapOf,h _ _ (I.qM _) ?_⟩;rw[l];exact(kl.val k).getD rd
 .subst ey;cases(show u=afZ b from ry);obtain⟨z,hd,xs,kl,dd⟩:=uN I.dc e;refine aj0 ahY dd.typeIs ai8 (aiV _ _ _) (meetsH_dict_get_default (tupleKind (cO X.prog X.w)) a b hd r) ⟨aiS hu,k,xs,si I.dc eb,dd,h _ _ (I.qM _) ?_⟩;rw[l];exact(kl.val k).getD rd
end
inductive Cm(ty:TE)(tx:TE)(σ:St)(Q:VK)(x:V)(H1:Hp):Prop|m:∀a,x= .ref a->UM H1 a->(ty σ H1 fun y H2=>tx σ H2 fun z H3=>∃o,ei H3 a y o/\Q (o.getD z) H3)->Cm ty tx σ Q x H1
def PY(td ty tx:TE):TE:=fun σ H Q=>td σ H fun x H1=>Cm ty tx σ Q x H1
inductive Cn(ty:TE)(σ:St)(Q:VK)(x:V)(H1:Hp):Prop|m:∀a,x= .ref a->UM H1 a->(ty σ H1 fun y H2=>∃aQ k v,H2 a=some (.dK aQ)/\y=kV k/\ee aQ k=some v/\Q v (aE H2 a (.dK (cU aQ k))))->Cn ty σ Q x H1
def P0(td ty:TE):TE:=fun σ H Q=>td σ H fun x H1=>Cn ty σ Q x H1
section
variable{o f:agP}{iE:Pos}{tx:TE}
theorem yY(hu:X.A.units+1<cLine)(ho:PE X o td)(he:PE X e ty)(hf:PE X f tx)(m:M2 X o "get" eI e f iE):PE X (.Call (.Attribute o "get" eI) [e,f] [] iE) (PY td ty tx):=by
 intro pins s σ H Q I h;refine akj m.base m.Gy m.line aiW ahY ak8 (cK (ho pins s σ H _ I h) fun u s1 ⟨x,H1,I1,rx,a,ex,d,q1⟩=> ?_);subst ex;obtain rfl:u=afZ a:=rx;obtain⟨t1,t2,_⟩:=GU I1 d;refine⟨t1,t2,?_⟩;rw[m.Dg];refine aih rfl (aix (ahi (cK (he pins s1 σ H1 _ I1 q1) fun iv s2 ⟨y,H2,I2,ry,q2⟩=>
  ahi (cK (hf pins s2 σ H2 _ I2 q2) fun fv s3 ⟨z,H3,I3,rz,ov,g,q3⟩=>ah3 ?_))))
 exact Of hu I3 g ry rz fun w' s4 I4 xb=>⟨_,H3,I4,xb,q3⟩
theorem oJ(ho:PE X o td)(he:PE X e ty)(m:M1 X o "pop" eI e iE):PE X (.Call (.Attribute o "pop" eI) [e] [] iE) (P0 td ty):=by
 intro pins s σ H Q I h;refine akj m.base m.Gy m.line aiW ak7 PySem.F.type_dict_pop (cK (ho pins s σ H _ I h) fun u s1 ⟨x,H1,I1,rx,a,ex,d,q1⟩=> ?_);subst ex;obtain rfl:u=afZ a:=rx;obtain⟨t1,t2,_⟩:=GU I1 d;refine⟨t1,t2,?_⟩;rw[m.Dg];refine aih rfl (aix (ahi (cK (he pins s1 σ H1 _ I1 q1) fun iv s2 ⟨y,H2,I2,ry,aQ,k,v,ea,ey,l,q2⟩=>ah3 ?_)));subst ey;exact Rg I2 ea ry l (.inl rfl) fun w' s3 I3 xb=>⟨v,_,I3,xb,q2⟩
end
theorem bb.Mi(I:bb X pins σ H s)(k:∀b o,b∉ch->s.heap.get? b=some o->h'.get? b=some o)(hf:∀b∈ch,qy X pins H b):bb X pins σ H {s with heap:=h',toks:=t'}:=by
 have NA:∀b u,H b=some u->b∉ch:=fun b u e z=>by
  have q:=(hf b z).1;rw[q]at e;cases e
 refine I.step (g':=s.gens) (d':=s.drawn) (ch:=ch) (fun b hb=>⟨(hf b hb).2.2.2.1,(hf b hb).2.1,(hf b hb).2.2.2.2.1,(hf b hb).2.2.2.2.2⟩) (fun b o _ _ hc e _=>k b o hc e) (fun b o _ _ hc e _=>⟨o.slots,k b o hc e⟩)
  (fun _ _ _ _ n=>n) (fun b o hc e=>⟨o,k b o hc e⟩) (fun _ _ e=>e) (fun _ _ _ e=>e) (fun b ps e=>⟨#[],by rw[e];simp⟩) (fun m hm=> ?_) (fun b u e=> ?_) I.bare
 .obtain⟨o,es,ep,ho,r⟩:=hm;exact⟨o,es,ep,k _ o (fun z=>(hf _ z).2.1 rfl) ho,r⟩
 .refine(I.dc b u e).A3 (fun c v hc q=>k c v ?_ q) (fun _ q=>q) fun _ _ q=>q
  rcases hc with z|z
  .rw[z];exact NA b u e
  .exact NA c _ z
theorem bb.pY{T:afb}{ob:HO}(I:bb X pins σ H s)(k:∀b o,b∉ch->s.heap.get? b=some o->h'.get? b=some o)(hf:∀b∈ch,qy X pins H b)(hT:s.heap.objs.size<=T)
  (new:eP X.prog X.w (aE H T ob) h' T ob):bb X pins σ (aE H T ob) {s with heap:=h',toks:=t'}:=by
 have hn:H T=none:=I.dc.fresh hT;have NA:∀b u,H b=some u->b∉ch:=fun b u e z=>by
  have q:=(hf b z).1;rw[q]at e;cases e
 refine I.step (g':=s.gens) (d':=s.drawn) (ch:=ch) (fun b hb=>⟨(hf b hb).2.2.2.1,(hf b hb).2.1,(hf b hb).2.2.2.2.1,(hf b hb).2.2.2.2.2⟩) (fun b o _ _ hc e _=>k b o hc e) (fun b o _ _ hc e _=>⟨o.slots,k b o hc e⟩)
  (fun b o _ e n=> ?_) (fun b o hc e=>⟨o,k b o hc e⟩) (fun b xs e=> ?_) (fun b o u e=> ?_) (fun b ps e=>⟨#[],?_⟩) (fun m hm=> ?_) (fun b u e=> ?_) I.bare
 .rw[ao (agw (agi (afT e) hT))];exact n
 .rw[ao (ak e hn)];exact e
 .rw[ao (ak e hn)];exact e
 .rw[ao (ak e hn),e];simp
 .obtain⟨o,es,ep,ho,r⟩:=hm;exact⟨o,es,ep,k _ o (fun z=>(hf _ z).2.1 rfl) ho,r⟩
 .by_cases hb:b=T
  .subst hb;rw[aj]at e;cases e;exact new
  .rw[ao hb]at e;refine(I.dc b u e).A3 (fun c v hc q=>k c v ?_ q) (fun c q=>by rw[ao (ak q hn)];exact q) fun c xs q=>by rw[ao (ak q hn)];exact q
   rcases hc with z|z
   .rw[z];exact NA b u e
   .exact NA c _ z
theorem AJ{R:It->Hp->Prop}{J:It}{tn:Nat->age->Prop}{tk:Nat}(I:bb X pins σ H s)(o:Obj)
  (T:uf X.prog X.w X.K tg J [s.heap.objs.size] s.heap.objs.size tn) (st:tn 0 (s.heap.push o)) (q:R J H):UR X pins σ tg R (.ref s.heap.objs.size) {s with heap:=s.heap.push o,toks:=tk}:=by
 refine⟨s.heap.objs.size,[s.heap.objs.size],tn,J,H,rfl,I.kept fun b ob e=>afk _ e,T,st,fun b hb=> ?_,q⟩;have e:b=s.heap.objs.size:=by simpa using hb
 subst e;exact I.wg (afn _) (I.dc.fresh (afn _))
def QJ(lo c:Int)(n:Nat):It:=⟨fun i _=>i<n,fun i H x H'=>H'=H/\x= .int (lo+(i:Nat)*c),fun i _=>n<=i⟩
theorem zx(it:afb)(lo c:Int)(n:Nat):uf P w K tg (QJ lo c n) [it] it (fun i h=>alf h it (lo+(i:Nat)*c) ((n:Int)-(i:Nat)) c)where
 mem:=by simp
 obj:=fun i h st b hb=>by
  have e:b=it:=by simpa using hb
  subst e;exact⟨_,st,fun v z=>nomatch z⟩
 keep:=fun i h h' st k=>k it (by simp) _ st
 item:=by
  intro X hP hw hK hc i pins s σ H E I hf st hg;subst hP hw hK;obtain⟨f0,f1,f2,f3,f4,f5⟩:=hf it (by simp);have W:=anJ (prog:=X.prog) (w:=X.w) (I.ok.hd hc) it lo c n;refine W.item i s _ _ hg st fun v h' tk hv C9 kk=> ?_
  obtain⟨t,rfl⟩:=hv;have I1:bb X pins σ H {s with heap:=h',toks:=tk}:=I.gC (fun b o hb e=>kk b o (by simpa using hb) e) f0 f1 f3 f4 f5;exact⟨_,rfl,yu (s:={s with heap:=h',toks:=tk}) (n:="range_iterator") C9 rfl rfl (by decide) ⟨.int (lo+(i:Nat)*c),H,I1,⟨t,rfl⟩,⟨rfl,rfl⟩,C9,fun b hb=>(hf b hb).1⟩⟩
 done:=by
  intro X hP hw hK hc i pins s σ H E I hf st hg;subst hP hw hK;obtain⟨f0,f1,f2,f3,f4,f5⟩:=hf it (by simp);exact akO (I.ok.hd hc) st (by have:n<=i:=hg;omega) fun h' eb=>⟨rfl,I.gC (t':=s.toks) (fun b o hb e=>eb b o hb e) f0 f1 f3 f4 f5⟩
 self:=fun A i s Q E st h=>akP st h
def TN(i j c:Int)(n:Nat):Prop:=c≠0/\c.natAbs<1073741824/\anS i j c=true/\aiU i j c=n
theorem TN.neg{i j:Int}(ha: -(2^62)<=i)(Kj:i<2^62)(hb: -(2^62)<=j)(yx:j<2^62):TN i j (-1) (i-j).toNat:=
 ⟨by decide,by decide,PySem.W.small_down ha Kj hb yx,PySem.W.rangeSize_downNat i j⟩
inductive GY(R:It->Hp->Prop)(vs:List V)(H1:Hp):Prop|m:∀(i j c:Int) (n:Nat),vs=[.int i,.int j,.int c]->TN i j c n->R (QJ i c n) H1->GY R vs H1
def Sk(ta:TA):TI:=fun σ H R=>ta σ H fun vs H1=>GY R vs H1
theorem EM{a b:agP}{ta:TA}(hg:Gl X "range")(hm:X.mg "range"=none)(ha:PA X [a,b,c] ta)
  (hs:starEach [a,b,c] X.env=(false,eval a X.env)::starEach [b,c] X.env:=by rfl) (kf:(backTo pos (starEach [b,c] X.env)).any (·.1)=false:=by rfl):
  PI X tg (.Call (.Name "range" p) [a,b,c] [] pos) (Sk ta):=by
 intro pins s σ H R I h;refine Call_ (j0 I hg hm boot_range (ag2 (cK (ha pos pins s σ H _ I h) fun us s1 ⟨vs,H1,I1,r1,q1⟩=> ?_) hs kf));obtain⟨i,j,k,n,e,⟨c0,c1,c2,c3⟩,q⟩:=q1;subst e;cases r1 with
 |cons r rr=>
  cases rr with
  |cons r' rr=>
   cases rr with
   |cons Xx rr=>
    cases rr;obtain⟨t,rfl⟩:=r;obtain⟨t',rfl⟩:=r';obtain⟨t'',rfl⟩:=Xx;refine call_range_3 c0 ?_ (.inl (PyProof.noPylong_small c1));refine alN (anK ..) c2 ?_;have I2:bb X pins σ H1 {s1 with heap:=s1.heap.push {cls:= .type "range",data:= .fields #[.int i t,.int j t',.int k t'']}}:=I1.kept (t':=s1.toks) fun b o e=>afk _ e
    refine AJ (tk:=s1.toks) I2 _ (zx _ i k n) ?_ q;have e1:i+((0:Nat):Int)*k=i:=by simp
    have e2:(n:Int)-((0:Nat):Int)=aiU i j k:=by rw[c3];simp
    show alf _ _ (i+((0:Nat):Int)*k) ((n:Int)-((0:Nat):Int)) k;rw[e1,e2];exact afG _ rfl
theorem z7{lo c:Int}(Pv:Nat->St->Hp->Prop)(h0:Pv 0 σ H)
  (hs:∀i σ H,i<n->Pv i σ H->g (.int (lo+(i:Nat)*c)) σ H fun σ2 H2=>tb {D with nx:=Pv (i+1),ct:=Pv (i+1),bk:=D.nx} σ2 H2) (hd:∀σ H,Pv n σ H->D.nx σ H):
  ∃W:Nat->Nat->St->Hp->Prop,(∃m,W 0 m σ H)/\∀i m σ H,W i m σ H->
   ((QJ lo c n).ju i H/\D.nx σ H)\/((QJ lo c n).go i H/\∃N:St->Hp->Prop,(∀σ' H',N σ' H'->∃m',m'<m/\W (i+1) m' σ' H')/\∀x H',(QJ lo c n).Dh i H x H'->g x σ H' fun σ2 H2=>tb {D with nx:=N,ct:=N,bk:=D.nx} σ2 H2):=by
 refine⟨fun i m σ H=>m=n-i/\i<=n/\Pv i σ H,⟨n,by simp,afF _,h0⟩,?_⟩;rintro i m σ H ⟨rfl,hi,p⟩;by_cases iF:i<n
 .refine .inr ⟨iF,Pv (i+1),fun σ' H' p'=>⟨n-(i+1),by omega,rfl,iF,p'⟩,fun x H' y=> ?_⟩;obtain⟨e,y⟩:=y;subst e y;exact hs i σ _ iF p
 .have e:i=n:=by omega
  subst e;exact .inl ⟨afn _,hd σ H p⟩
def QL(x:Str):It:=⟨fun i _=>i<x.cps.size,fun i H v H'=>H'=H/\∃c,x.cps[i]? =some c/\v= .str ⟨#[c]⟩,fun i _=>x.cps.size<=i⟩
theorem zy(it:afb)(x:Str)(t:Tok)(ty:String)(Qy:ty="str_ascii_iterator"\/ty="str_iterator"):
  uf P w K tg (QL x) [it] it (fun i h=>h.IsStrIter it ty x t i)where
 mem:=by simp
 obj:=fun i h st b hb=>by
  have e:b=it:=by simpa using hb
  subst e;obtain⟨o,e,c,d⟩:=st;exact⟨o,e,fun v z=>by rw[d]at z;cases z⟩
 keep:=fun i h h' st k=>let⟨o,ho,r⟩:=st;⟨o,k it (by simp) o ho,r⟩
 item:=by
  intro X hP hw hK hc i pins s σ H E I hf st hg;subst hP hw hK;obtain⟨f0,f1,f2,f3,f4,f5⟩:=hf it (by simp);have W:Walks X.prog X.w X.A it [it] [it] x.cps.size (SignAt x) (fun i h=>h.IsStrIter it ty x t i):=by
   rcases Qy with e|e
   .rw[e];exact Walks.strAscii (I.ok.hd hc) it x t
   .rw[e];exact Walks.strWide (I.ok.hd hc) it x t
  have e9:["enumerate","zip","dict_itemiterator","dict_reverseitemiterator","odict_iterator","itertools.zip_longest","itertools.pairwise"].contains ty=false:=by
   rcases Qy with e|e
   .rw[e];decide
   .rw[e];decide
  refine W.item i s _ _ hg st fun v h' tk hv C9 kk=> ?_
  obtain⟨c,u,hcx,rfl⟩:=hv;have I1:bb X pins σ H {s with heap:=h',toks:=tk}:=I.gC (fun b o hb e=>kk b o (by simpa using hb) e) f0 f1 f3 f4 f5;obtain⟨oi,e,cc,dd⟩:=id C9;exact⟨_,rfl,yu (s:={s with heap:=h',toks:=tk}) e cc dd e9 ⟨.str ⟨#[c]⟩,H,I1,⟨u,rfl⟩,⟨rfl,c,hcx,rfl⟩,C9,fun b hb=>(hf b hb).1⟩⟩
 done:=by
  intro X hP hw hK hc i pins s σ H E I hf st hg;subst hP hw hK;obtain⟨f0,f1,f2,f3,f4,f5⟩:=hf it (by simp);have hx:x.cps[i]? =none:=Array.getElem?_eq_none hg;rcases Qy with e|e
  .rw[e]at st;exact wpAny_pyNext_ascii_end (I.ok.hd hc) st hx fun h' eb=>⟨rfl,I.gC (t':=s.toks) (fun b o hb e=>eb b o hb e) f0 f1 f3 f4 f5⟩
  .rw[e]at st;exact wpAny_pyNext_wide_end (I.ok.hd hc) st hx fun h' eb=>⟨rfl,I.gC (t':=s.toks) (fun b o hb e=>eb b o hb e) f0 f1 f3 f4 f5⟩
 self:=fun A i s Q E st h=>by
  rcases Qy with e|e
  .rw[e]at st;exact wpAny_pyIter_striter_ascii st h
  .rw[e]at st;exact wpAny_pyIter_striter_wide st h
inductive Ng(R:It->Hp->Prop)(v:V)(H1:Hp):Prop|m:∀x,v= .str x->R (QL x) H1->Ng R v H1
def WZ(te:TE):TI:=fun σ H R=>te σ H fun v H1=>Ng R v H1
theorem Ph(he:PE X e te):PI X tg e (WZ te):=by
 intro pins s σ H R I h;refine cK (he pins s σ H _ I h) fun v s1 ⟨y,H1,I1,r1,x,ex,q⟩=> ?_
 subst ex;obtain⟨t,rfl⟩:=r1;cases ha:x.cps.all (·<128)
 .exact wpAny_pyIter_wide ha (AJ (tk:=s1.toks) I1 _ (zy _ x t "str_iterator" (.inr rfl)) ⟨_,afG _ rfl,rfl,rfl⟩ q)
 .exact wpAny_pyIter_ascii ha (AJ (tk:=s1.toks) I1 _ (zy _ x t "str_ascii_iterator" (.inl rfl)) ⟨_,afG _ rfl,rfl,rfl⟩ q)
def QK(K:afU)(a:afb):It:=
 ⟨fun i H=>∃(xs:List V) (x:V),aJ K H a xs/\xs[i]? =some x,fun i H v H'=>∃T x,v= .ref T/\H T=none/\H'=aE H T (.dY [.int (i:Nat),x])/\∀xs,aJ K H a xs->xs[i]? =some x,fun i H=>∃xs:List V,aJ K H a xs/\xs.length<=i⟩
theorem Ff(a e it:afb):
  uf P w K (.Tuple js kk jc) (QK K a) [e,it] e (fun i h=>(∃old,aku h e it ((i:Nat):Int) old)/\h.IsListIter it a i/\e≠it)where
 mem:=by simp
 obj:=fun i h st b hb=>by
  obtain⟨⟨old,he⟩,⟨o,ho,hc,hd⟩,_⟩:=st;have e':b=e\/b=it:=by simpa using hb
  rcases e' with z|z
  .rw[z];exact⟨_,he,fun v q=>nomatch q⟩
  .rw[z];exact⟨o,ho,fun v q=>by rw[hd]at q;cases q⟩
 keep:=fun i h h' st k=>let⟨⟨old,he⟩,hi,gh⟩:=st;⟨⟨old,k e (by simp) _ he⟩,hi.at fun o q=>k it (by simp) o q,gh⟩
 item:=by
  intro X hP hw hK hc i pins s σ H E I hf st hg;subst hP hw hK;obtain⟨⟨old,he⟩,mr,gh⟩:=st;obtain⟨xs,x,hq,hx⟩:=hg;obtain⟨aR,rv,p,hz⟩:=I.list hq;obtain⟨u,hu,ru⟩:=rv.get hx;have zM:e<s.heap.objs.size:=afT he;have gV:it<s.heap.objs.size:=by obtain⟨_,q,_⟩:=mr;exact afT q
  refine wpAny_pyNext_enum_item he mr p.isList (x:=u) (by simpa using hu) gh fun h' ho Oz hT hsz hk=> ?_
  refine⟨_,rfl,aka (s:={s with heap:=h',toks:=s.toks+1}) ho fun B6 Ox sb=> ?_⟩;have RC:B6.get? s.heap.objs.size=some {cls:= .type "tuple",data:= .seq #[.int i s.toks,u]}:=(sb.2 _ (aif zM)).trans hT;have new:eP X.prog X.w (aE H s.heap.objs.size (.dY [.int (i:Nat),x])) B6 s.heap.objs.size (.dY [.int (i:Nat),x]):=
   ⟨by show 2<=sizeLine;decide,[.int i s.toks,u],.cons ⟨_,rfl⟩ (.cons ru .nil),⟨_,RC,rfl,_,rfl⟩⟩
  have I1:bb X pins σ (aE H s.heap.objs.size (.dY [.int (i:Nat),x])) {s with heap:=B6,toks:=s.toks+1}:=
   I.pY (ch:=[e,it]) (fun b ob hb q=>(sb.2 b (fun z=>hb (by simp[z]))).trans (hk b ob (fun z=>hb (by simp[z])) (fun z=>hb (by simp[z])) q)) hf (afn _) new
  refine⟨.ref s.heap.objs.size,_,I1,rfl,⟨_,x,rfl,I.dc.fresh (afn _),rfl,fun ys hy=>by rw[I.oA hy hq];exact hx⟩,⟨⟨u,?_⟩,Oz.at fun o q=>(sb.2 it (agU gh)).trans q,gh⟩,fun b hb=> ?_⟩
  .have e1:((i+1:Nat):Int)=(i:Int)+1:=by omega
   rw[e1];exact Ox
  .have yx:b<s.heap.objs.size:=by
    have e':b=e\/b=it:=by simpa using hb
    rcases e' with z|z
    .rw[z];exact zM
    .rw[z];exact gV
   rw[ao (agw yx)];exact(hf b hb).1
 done:=by
  intro X hP hw hK hc i pins s σ H E I hf st hg;subst hP hw hK;obtain⟨⟨old,he⟩,mr,gh⟩:=st;obtain⟨xs,hq,hx⟩:=hg;obtain⟨aR,rv,p,hz⟩:=I.list hq;obtain⟨f0,f1,f2,f3,f4,f5⟩:=hf it (by simp);have hl:=rv.length;exact wpAny_pyNext_enum_end (I.ok.hd hc) he mr p.isList (by simp;omega) fun h' eb=>⟨rfl,I.gC (t':=s.toks) (fun b o hb q=>eb b o hb q) f0 f1 f3 f4 f5⟩
 self:=fun A i s Q E st h=>let⟨⟨_,he⟩,_⟩:=st;ai9 he h
inductive GV(K:afU)(R:It->Hp->Prop)(vs:List V)(H1:Hp):Prop|m:∀a xs,vs=[.ref a]->aJ K H1 a xs->R (QK K a) H1->GV K R vs H1
def Sh(K:afU)(ta:TA):TI:=fun σ H R=>ta σ H fun vs H1=>GV K R vs H1
theorem Lm{ta:TA}(hg:Gl X "enumerate")(hm:X.mg "enumerate"=none)(ha:PA X [e] ta)(hs:starEach [e] X.env=[(false,eval e X.env)]:=by rfl):
  PI X (.Tuple js kk jc) (.Call (.Name "enumerate" p) [e] [] pos) (Sh X.K ta):=by
 intro pins s σ H R I h;refine Call_ (j0 I hg hm boot_enumerate (ag2 (cK (ha pos pins s σ H _ I h) fun us s1 ⟨vs,H1,I1,r1,q1⟩=> ?_) hs rfl));obtain⟨a,xs,ex,hq,q⟩:=q1;subst ex;cases r1 with
 |cons r rr=>
  cases rr;cases r;obtain⟨aR,rv,p',hz⟩:=I1.list hq;refine call_enumerate_list p'.isList fun h' he mr hsz hk=>ai9 he ?_
  have I2:bb X pins σ H1 {s1 with heap:=h'}:=I1.kept (t':=s1.toks) hk;refine⟨s1.heap.objs.size+1,[s1.heap.objs.size+1,s1.heap.objs.size],_,_,H1,rfl,I2,Ff a (s1.heap.objs.size+1) s1.heap.objs.size,⟨⟨.none,he⟩,mr,akB _⟩,fun b hb=> ?_,q⟩;have e':b=s1.heap.objs.size+1\/b=s1.heap.objs.size:=by simpa using hb
  have qm:s1.heap.objs.size<=b:=by
   rcases e' with z|z
   .rw[z];exact agN _ _
   .rw[z];exact afn _
  exact I1.wg qm (I1.dc.fresh qm)
theorem uI:bootBuiltins "zip"=some (.type "zip"):=by decide+kernel
abbrev bX:uc:=fun _ _ _ _ _ _=>False
abbrev E0:XK:=fun _ _ _=>False
theorem bw:mz bX X E0:=fun _ _ _ _ _ _ _ h=>h.elim
structure b9(K:afU)(x qual:Str)(st:afP)(f:afb)(fd:afC):Prop where
 ex:∃(oc:afe) (od:Option afb) (kV doc pm:afe) (an:Option afb) (ke ct:afe) (JH:Array (Option afe)),
  fd=fnOf x qual (gM st) (cq st) (ai st) .none kV doc pm an ke ct/\K.lookup f=some ⟨oc,od,.func fd,JH⟩/\codeIn K ke qual=true
 kp:keepIn K (.ref f)=true
theorem b9.ok{f:afb}{k:Nat}{sp:Sp}(F:b9 K x qual st f fd)(S:au N ps (ai st))(len:∀vs H Q E,sp vs H Q E->vs.length=ps.length)
  (GG:∀(ke:afe) (A:ahD) (outer:List Env) (s:afA) (H:Hp) (vs:List V) (Q:VK) (E:XK),fF k (A.deeper (envOfC qual (ai st) s.heap.objs.size f ke))->sp vs H Q E->
   ∃t,Bg (zY bX P w K mg base N qual (ai st) f ke A outer s H E).SA (cq st) t/\t {nx:=fun _ H'=>Q .gw H',rt:=Q} (start N vs) H):aT P w K mg base bX (k+1) f fd ps sp:=by
 obtain⟨oc,od,kV,doc,pm,an,ke,ct,JH,rfl,lk,JB⟩:=F.ex;refine Rn lk JB S len fun A outer s H vs Q E hr DR=> ?_
 obtain⟨t,h,q⟩:=GG ke A outer s H vs Q E hr DR;exact⟨t,h.SA,q⟩
theorem b9.binds{f:afb}(F:b9 K x qual st f fd)
  (h:∀(kV doc pm:afe) (an:Option afb) (ke ct:afe) (us:List afe),us.length=ps.length->bindArgs (fnOf x qual (gM st) (cq st) (ai st) .none kV doc pm an ke ct) ⟨us,[]⟩=pure (ps.zip us)):eY K fd ps []:=by
 obtain⟨oc,od,kV,doc,pm,an,ke,ct,JH,rfl,lk,JB⟩:=F.ex;exact .all (h kV doc pm an ke ct)
theorem Oo{f:afb}{oc:afe}{od an:Option afb}{JH:Array (Option afe)}{kV doc pm ke ct:afe}(l:K.lookup f=some ⟨oc,od,.func (fnOf x qual (gM st) (cq st) (ai st) .none kV doc pm an ke ct),JH⟩)
  (c:codeIn K ke qual=true) (k:keepIn K (.ref f)=true):b9 K x qual st f (fnOf x qual (gM st) (cq st) (ai st) .none kV doc pm an ke ct):=⟨⟨oc,od,kV,doc,pm,an,ke,ct,JH,rfl,l,c⟩,k⟩
theorem bZ{k:Nat}(hr:fF k A):A.units+1<cLine:=aiT (Nat.add_le_add_left (by decide:1<=64) _) hr.units
theorem pv(i:Nat)(hN:X.N[i]? =some x:=by rfl)(hv:Qg X.env.scope x:=by first|exact akb rfl|exact anY (akb rfl)|exact anY (anY rfl))(hd:(x==("__debug__":Str))=false:=by decide)
  (JB:(x==("__classdict__":Str))=false:=by decide):PE X (.Name x pos) (P2 i):=Pg hN hv hd JB
theorem aW{c A B:Prop} [Decidable c](h1:c->A)(h2:¬c->B):if c then A else B:=by
 by_cases h:c
 .rw[afh h];exact h1 h
 .rw[afc h];exact h2 h
def ax(H H':Hp):Prop:=∀b o,H b=some o->H' b=some o
theorem ax.refl(H:Hp):ax H H:=fun _ _ h=>h
theorem ax.trans{H2:Hp}(a:ax H H1)(b:ax H1 H2):ax H H2:=fun c o h=>b c o (a c o h)
theorem ax.free(e:ax H H')(h:H' l=alm):H l=alm:=by
 cases q:H l with
 |none=>rfl
 |some o=>
  rw[e l o q]at h;cases h
theorem ax.seq(e:ax H H')(h:aJ K H a xs):aJ K H' a xs:=by
 rcases h with(h|⟨o,h⟩)|h
 .exact .inl (.inl (e _ _ h))
 .exact .inl (.inr ⟨o,e _ _ h⟩)
 .exact .inr h
section
variable{κ:Type} [DecidableEq κ]
theorem DE{p:κ×V}{r:List (κ×V)}{k:κ}(e:p.1=k):cU (p::r) k=cU r k:=by
 unfold cU;rw[afS,afc (by simp[e])]
theorem DD{p:κ×V}{r:List (κ×V)}{k:κ}(e:¬p.1=k):cU (p::r) k=p::cU r k:=by
 unfold cU;rw[afS,afh (by simp[e])]
end
theorem gE{z:Int}{v:V}(e:z=(j:Int))(h:xs[j]? =some v):pB xs z=some v:=by
 rw[e];exact oh h
theorem Nw{α:Type}{l:List α}(hN:l.Nodup){x:α}(a:l[i]? =some x)(b:l[j]? =some x):i=j:=by
 obtain⟨h1,e1⟩:=afd.mp a;obtain⟨h2,e2⟩:=afd.mp b;exact(ajo hN).mp (e1.trans e2.symm)
theorem ax.made{x:afb}(nx:H x=alm)(nd:H dx=alm)(k:∀b o,(aE (aE H dx (.own x)) x (.ins C dx [])) b=some o->b≠x->H1 b=some o):ax H H1:=fun b o e=>
 k b o (by rw[ao (ak e nx),ao (ak e nd)];exact e) (ak e nx)
inductive CK(x:V)(vs:List V)(H:Hp)(Q:VK):Prop|m:∀(l:afb) (xs:List V) (i:Int) (k:Nat) (y:V),x= .ref l->vs=[.int i,y]->i=(k:Int)->H l=some (.ba xs)->k<=xs.length->xs.length<sizeLine->Q .gw (aE H l (.ba (xs.take k++y::xs.drop k)))->CK x vs H Q
theorem Kz(aR:List afe)(w:afe)(k:Nat)(hk:k<=aR.length):(aR.toArray.extract 0 k).push w++aR.toArray.extract k=(aR.take k++w::aR.drop k).toArray:=by
 simp;exact agu (by rw[agp];omega)
theorem vg:Qc X "list.insert" CK:=by
 intro pins s σ H x vs v us Q I rx rv h;obtain⟨l,xs,i,k,y,rfl,rfl,hi,hH,hk,hz,q⟩:=h;cases rx;obtain⟨u,w,rfl,ru,xb⟩:=rv.two;obtain⟨t,rfl⟩:=ru;obtain⟨z,aR,n,r,hl,e⟩:=I.wH hH;have qI:=alg;have RX:k<16777216:=by rw[qI]at hz;omega
 have hf':¬(!Builtin.List.listFitsIndex i)=true:=by
  rw[show amP i=true from fitsIndex_both (by rw[hi];exact aja (by decide) (ahs k)) (by rw[hi];exact Int.lt_of_lt_of_le (Int.ofNat_lt.mpr RX) (by decide))];exact afN
 have hsz:aR.toArray.size<=sizeLine:=by rw[afJ];omega
 refine aiR ajb ⟨_,e,rfl⟩ F.entry_list_insert (F.args_list_insert_3 _ _ _) (AutoSeq1.list_insert_list_int_val_1 l aR.toArray n i t w hf' hsz) ⟨e,?_⟩;refine⟨.gw,_,I.Ha (its':=aR.take k++w::aR.drop k) hH e ?_ ((r.take k).append (.cons xb (r.drop k))) ?_,rfl,q⟩
 .have h0:¬i<0:=by omega
  have hm:min i.toNat aR.toArray.size=k:=by rw[afJ];omega
  show(aR.toArray.extract 0 (if i<0 then(i+(aR.toArray.size:Nat)).toNat else min i.toNat aR.toArray.size)).push w++aR.toArray.extract (if i<0 then(i+(aR.toArray.size:Nat)).toNat else min i.toNat aR.toArray.size)=_;rw[afc h0,hm];exact Kz aR w k (by omega)
 .rw[afa,afp,afW,agp];omega
theorem wB{ns:List Int}(r:bo (ns.map V.int) aR)(h:aR[j]? =some u):∃n t,ns[j]? =some n/\u= .int n t:=by
 cases e:ns[j]? with
 |none=>
  have:aR[j]? =none:=r.wQ (by rw[afw,e];rfl);rw[this]at h;cases h
 |some n=>
  obtain⟨u',h',t,rfl⟩:=r.get (i:=j) (x:=V.int n) (by rw[afw,e];rfl);rw[h']at h;cases h;exact⟨n,t,rfl,rfl⟩
def isI(n:Int):afe->Bool
 | .int i _=>i==n
 |_=>false
inductive CM(x:V)(vs:List V)(H:Hp)(Q:VK):Prop|m:∀(l:afb) (ns:List Int) (n:Int),x= .ref l->vs=[.int n]->H l=some (.ba (ns.map V.int))->n∈ns->Q .gw (aE H l (.ba ((ns.erase n).map V.int)))->CM x vs H Q
theorem yn{n:Int}:∀{ns:List Int},n∈ns->∃j,ns[j]? =some n/\(∀m x,m<j->ns[m]? =some x->x≠n)/\ns.erase n=ns.eraseIdx j
 | [],h=>nomatch h
 |a::r,h=>by
  by_cases e:a=n
  .subst e;exact⟨0,rfl,fun m _ h=>absurd h (aik m),by simp⟩
  .obtain⟨j,h1,h2,h3⟩:=yn (n:=n) (ns:=r) (by
    rcases afv.mp h with z|z
    .exact absurd z.symm e
    .exact z)
   refine⟨j+1,h1,fun m x hm hx=> ?_,?_⟩
   .cases m with
    |zero=>
     have:a=x:=by simpa using hx
     rw[<-this];exact e
    |succ m=>exact h2 m x (akV hm) (by simpa using hx)
   .rw[aiy (by simpa using e),h3,aiX]
theorem oC{α β:Type}(f:α->β):∀(l:List α) (j:Nat),(l.eraseIdx j).map f=(l.map f).eraseIdx j
 | [],_=>rfl
 |_::_,0=>rfl
 |a::r,j+1=>by
  rw[aiX,af9,af9,aiX,oC f r j]
theorem Ea:Qc X "list.remove" CM:=by
 intro pins s σ H x vs v us Q I rx rv h;obtain⟨l,ns,n,rfl,rfl,hH,hn,q⟩:=h;cases rx;obtain⟨u,rfl,ru⟩:=rv.xT;obtain⟨t,rfl⟩:=ru;obtain⟨z,aR,ep,r,hl,e⟩:=I.wH hH;obtain⟨j,hj,e9,Y8⟩:=yn hn;obtain⟨u',Nd,t',rfl⟩:=r.get (i:=j) (x:=V.int n) (by rw[afw,hj];rfl);obtain⟨Qu,Wo⟩:=afd.mp Nd;refine aiR aid ⟨_,e,rfl⟩ F.entry_list_remove (F.args_list_remove_2 _ _) (MeetsSeq.list_remove l aR.toArray ep (.int n t) (isI n) (fun y hy=> ?_) j (by simpa using Qu) ?_ (fun m hm Wy=> ?_) (by rw[afJ];omega)) ⟨e,?_⟩
 .obtain⟨m,hm⟩:=aga (show y∈aR by simpa using hy);obtain⟨n',t2,_,rfl⟩:=wB r hm;exact anN n' n t2 t
 .have e1:aR.toArray[j]=ahO n t':=by simpa using Wo
  rw[e1];exact aht n
 .have M9:m<aR.length:=by simpa using hm
  obtain⟨n',t2,h1,h2⟩:=wB r (afi M9);have e1:aR.toArray[m]=ahO n' t2:=by simpa using h2
  rw[e1];exact agS.mpr (e9 m n' Wy h1)
 .refine⟨.gw,_,I.Ha (its':=aR.eraseIdx j) hH e (by rw[List.eraseIdxIfInBounds_toArray]) ?_ ?_,rfl,q⟩
  .rw[Y8,oC];exact r.eraseIdx j
  .rw[ae9,Y8];have h1:=vd ns j;rw[ae9]at z;omega
theorem Od:p9 X (.builtin "ord") (fun xs H Q=>∃c:Nat,xs=[.str ⟨#[c]⟩]/\Q (.int (c:Nat)) H):=by
 intro pins s σ H vs us Q I r h;obtain⟨c,rfl,q⟩:=h;obtain⟨u,rfl,t,rfl⟩:=r.xT;exact PySem.P.ord_of_char ⟨.int c,H,I.qM _,⟨_,rfl⟩,q⟩
theorem mG:p9 X (.type "dict") (fun xs H Q=>∃(a:afb) (aQ:List (br×V)),xs=[.ref a]/\H a=some (.dK aQ)/\∀p,H p=none->Q (.ref p) (aE H p (.dK aQ))):=by
 intro pins s σ H vs us Q I r h;obtain⟨a,aQ,rfl,ha,q⟩:=h;obtain⟨u,rfl,ru⟩:=r.xT;cases ru;obtain⟨z,hS,vs,kl,hd⟩:=BS I.dc ha;refine kt_call_dict hS hd (by rw[<-ako kl];exact z) fun h' RS sb=> ?_
 have hf:H s.heap.objs.size=none:=I.dc.fresh (afn _);refine⟨.ref s.heap.objs.size,aE H s.heap.objs.size (.dK aQ),I.ml (t':=s.toks) (fun b u e=> ?_) (afn _) ?_,rfl,q _ hf⟩
 .rw[sb.2 b (agw (afT e))];exact afk _ e
 .refine vZ z ?_ kl RS;have hb:=I.qg;exact agS.mpr (fun e=>by rw[e]at hb;exact absurd hb (ahn _))
theorem Ds(a d:afe):argsOk "max" ⟨[a],[("default",d)]⟩:=by unfold argsOk;kernel_rfl
def pO:Int->List Int->Int
 |m,[]=>m
 |m,z::r=>pO (if z>m then z else m) r
section
variable{I S:afb}{ns:List Int}{dv:afe}
abbrev X5(I S:afb)(dv:afe):Code:= .builtin "max.loop" ⟨[.ref I,.none,.ref S],[("default",dv)]⟩
abbrev Ml(I S:afb)(h h':age):Prop:=∀b o,b≠I->b≠S->h.get? b=some o->h'.get? b=some o
theorem D9(W:Walks P w A.in1 I [I,a] [I] items.size (fun i v=>items[i]? =some v) (fun i h=>h.IsListIter I a i/\h.IsList a items))(hi:∀(i:Nat) (v:afe),items[i]? =some v->∃(z:Int) (t:Tok),ns[i]? =some z/\v=ahO z t)(hsz:items.size=ns.length)(Qq:S≠I)(T8:S≠a):
  ∀(k j:Nat) (s:afA) (m:Int) (u:Tok) (c:Nat),ns.length-j=k->j<=ns.length->(s.heap.IsListIter I a j/\s.heap.IsList a items)->s.heap.get? S=some {cls:= .type "list",data:= .seq #[.int m u,.int m u] c}->
   (∀(u':Tok) (h':age) (tk:Nat),Ml I S s.heap h'->R (.ok (.ret (.int (pO m (ns.drop j)) u'))) {s with heap:=h',toks:=tk})->codeAny (model P w) A (X5 I S dv) R s:=by
 intro k;have nm:(toString "max"++toString ".loop":String)="max.loop":=by decide
 have T6:S∉ [I]:=by simpa using Qq
 induction k with
 |zero=>
  intro j s m u c hk hj st hS hR;have ej:j=items.size:=by omega
  refine ajM akF ?_;rw[ajE ahP _];refine afg (m:=seqItems? (.ref S)) (ahp hS rfl ?_);refine afg (m:=tryCatch (pyNext (.ref I)) _) (ajj (W.done s _ _ (ej▸st) fun h1 tk kp=> ?_));have MW:=kp S _ T6 hS;refine afg (m:=updateSeq S _) (ail MW rfl (afg (ai1 (afX ?_))));have q:=hR u (h1.update S (ahj fun _=> #[])) tk fun b o hb DO e=>(agQ h1 _ (agU DO)).trans (kp b o (by simpa using hb) e)
  rw[agr (by omega)]at q;exact q
 |succ k ih=>
  intro j s m u c hk hj st hS hR;have iF:j<items.size:=by omega
  refine ajM akF ?_;rw[ajE ahP _];refine afg (m:=seqItems? (.ref S)) (ahp hS rfl ?_);refine afg (m:=tryCatch (pyNext (.ref I)) _) (ajj (W.item j s _ _ iF st fun v h1 tk hv QD kp=> ?_));have MW:=kp S _ T6 hS;obtain⟨z,t,hz,rfl⟩:=hi j v hv;have B9:ns.drop j=z::ns.drop (j+1):=by
   obtain⟨h1,h2⟩:=afd.mp hz;rw[agL h1,h2]
  show wpAny _ A.in1 (tryCatch (holding [ahO z t,ahO z t] (richCompare .Gt (.int z t) (.int m u)>>=_)) _>>=_) _ _ _;refine afg (ajj (ain (afg (gt_int ?_))));refine afg (ain (ag1 (afg (ai1 (afX ?_)))));rw[B9]at hR;by_cases Uc:z>m
  .rw[show(decide (z>m))=true from afj Uc];simp only[ajY];refine afg (ail MW rfl (afg (ai1 ?_)));rw[nm];refine afX ⟨akw ahP _,ih (j+1) _ z t _ (by omega) (by omega) (W.frame _ _ _ QD fun b hb o e=> ?_) (ahq _ MW rfl) fun u' h2 Tx k2=> ?_⟩
   .have DO:S≠b:=fun q=>by
     have:b=I\/b=a:=by simpa using hb
     rcases this with r|r
     .exact Qq (q.trans r)
     .exact T8 (q.trans r)
    exact(agQ _ _ DO).trans e
   .have q:=hR u' h2 Tx fun b o hb DO e=>k2 b o hb DO ((agQ _ _ (agU DO)).trans (kp b o (by simpa using hb) e))
    rw[show pO m (z::ns.drop (j+1))=pO z (ns.drop (j+1))from by show pO (if z>m then z else m) _=_;rw[afh Uc]]at q;exact q
  .rw[show(decide (z>m))=false from agb Uc];simp only[alR,if_false];refine afg (ai1 ?_);rw[nm];refine afX ⟨akw ahP _,ih (j+1) _ m u c (by omega) (by omega) QD MW fun u' h2 Tx k2=> ?_⟩;have q:=hR u' h2 Tx fun b o hb DO e=>k2 b o hb DO (kp b o (by simpa using hb) e)
   rw[show pO m (z::ns.drop (j+1))=pO m (ns.drop (j+1))from by show pO (if z>m then z else m) _=_;rw[afc Uc]]at q;exact q
theorem D8(W:Walks P w A.in1 I [I,a] [I] items.size (fun i v=>items[i]? =some v) (fun i h=>h.IsListIter I a i/\h.IsList a items))(hi:∀(i:Nat) (v:afe),items[i]? =some v->∃(z:Int) (t:Tok),ns[i]? =some z/\v=ahO z t)(hsz:items.size=ns.length)(Qq:S≠I)(T8:S≠a)
  {s:afA} {c:Nat} (st:s.heap.IsListIter I a 0/\s.heap.IsList a items) (hS:s.heap.get? S=some {cls:= .type "list",data:= .seq #[] c})
  (hR:∀(h':age) (tk:Nat),Ml I S s.heap h'->(ns=[]->R (.ok (.ret dv)) {s with heap:=h',toks:=tk})/\∀z r,ns=z::r->∀u',R (.ok (.ret (.int (pO z r) u'))) {s with heap:=h',toks:=tk}):codeAny (model P w) A (X5 I S dv) R s:=by
 have nm:(toString "max"++toString ".loop":String)="max.loop":=by decide
 have T6:S∉ [I]:=by simpa using Qq
 refine ajM akF ?_;rw[ajE ahP _];refine afg (m:=seqItems? (.ref S)) (ahp hS rfl ?_);cases e:ns with
 |nil=>
  have ej:items.size=0:=by rw[hsz,e];rfl
  refine afg (m:=tryCatch (pyNext (.ref I)) _) (ajj (W.done s _ _ (by rw[ej];exact st) fun h1 tk kp=> ?_));refine afg (akY (afX ?_));exact(hR h1 tk fun b o hb _ q=>kp b o (by simpa using hb) q).1 e
 |cons z0 r=>
  have iF:0<items.size:=by rw[hsz,e];exact aiD _
  refine afg (m:=tryCatch (pyNext (.ref I)) _) (ajj (W.item 0 s _ _ iF st fun v h1 tk hv QD kp=> ?_));have MW:=kp S _ T6 hS;obtain⟨z,t,hz,rfl⟩:=hi 0 v hv;have ez:z0=z:=by rw[e]at hz;exact aft hz
  subst ez;refine afg (m:=updateSeq S _) (ail MW rfl ?_);rw[nm];refine afX ⟨akw ahP _,D9 (dv:=dv) W hi hsz Qq T8 _ 1 _ z0 t _ rfl (by rw[<-hsz];exact iF) (W.frame _ _ _ QD fun b hb o q=> ?_) (ahq _ MW rfl) fun u' h2 Tx k2=> ?_⟩
  .have DO:S≠b:=fun q=>by
    have:b=I\/b=a:=by simpa using hb
    rcases this with r|r
    .exact Qq (q.trans r)
    .exact T8 (q.trans r)
   exact(agQ _ _ DO).trans q
  .have q:=(hR h2 Tx fun b o hb DO q=>k2 b o hb DO ((agQ _ _ (agU DO)).trans (kp b o (by simpa using hb) q))).2 z0 r e u';rw[show ns.drop 1=r by rw[e];rfl];exact q
theorem D7(hh:A.handled=none)(hl:s.heap.IsList a items)(hi:∀(i:Nat) (v:afe),items[i]? =some v->∃(z:Int) (t:Tok),ns[i]? =some z/\v=ahO z t)(hsz:items.size=ns.length)
  (h:∀(h':age) (tk:Nat),(∀b o,s.heap.get? b=some o->h'.get? b=some o)->(ns=[]->Q dv {s with heap:=h',toks:=tk})/\∀z r,ns=z::r->∀u',Q (.int (pO z r) u') {s with heap:=h',toks:=tk}):
  wpAny (model P w) A (call (.builtin "max") [.ref a] [("default",dv)]) Q E s:=by
 have nm:(toString "max"++toString ".loop":String)="max.loop":=by decide
 have la:a<s.heap.objs.size:=by obtain⟨_,e,_⟩:=hl;exact afT e
 refine alP (ajF F.plain_max F.entry_max ?_);have go:wpAny (model P w) A.in1 (aj1.«max» ⟨[.ref a],[("default",dv)]⟩) (fun fin s'=>match fin with
   | .done f=>(match(Except.ok f:aiF)with| .ok (.ret v)=>Q v s'| .ok _=>False| .error e=>E e s')
   | .again c'=>c'.quiet=true/\codeAny (model P w) A c' (fun r s'=>match r with| .ok (.ret v)=>Q v s'| .ok _=>False| .error e=>E e s') s') E s:=by
  refine afg (m:=aj2 "max" ["key","default"] 0 ⟨[],[("default",dv)]⟩) (amx (show aj2 "max" ["key","default"] 0 ⟨[],[("default",dv)]⟩=pure [none,some dv]from rfl) ?_);refine afg (afX ?_);refine afg (m:=pyIter (.ref a)) (yF hl fun s2 e2 st gh=> ?_);subst e2;refine afg (ai7 ?_);rw[nm];refine afX ⟨akw ahP _,?_⟩;have NQ:=(amM (prog:=P) (w:=w) (A:=A.in1) hh s.heap.objs.size a gh items).frame _ _ ((s.heap.push {cls:= .type "list_iterator",data:= .fields #[.ref a,.int 0 0]}).push {cls:= .type "list",data:= .seq #[]}) st fun b _ o e=>afk _ e
  refine D8 (ns:=ns) (dv:=dv) (c:=0) (amM (A:=A.in1) hh _ a gh items) hi hsz ?_ ?_ NQ (afG _ rfl) fun h' tk kp=> ?_
  .rw[agf];exact akB _
  .rw[agf];exact aif (ais la)
  .refine h h' tk fun b o e=>kp b o (agw (afT e)) ?_ (afk _ (afk _ e))
   rw[agf];exact agw (ais (afT e))
 have hk:=F.kind_max;simp only[checkBuiltinCall,hk];cases WL:Manifest.signature? "max"with
 |none=>exact afX go
 |some sig=>
  have Kj:Bind.checkArgs "max" sig ⟨[.ref a],[("default",dv)]⟩=pure ():=by simpa only[argsOk,WL]using Ds (.ref a) dv
  simp only[Kj];exact afX go
end
def ZJ(d:Int):List Int->Int
 | []=>d
 |z::r=>pO z r
inductive G3(K:afU)(Q:VK)(x:V)(y:V)(H2:Hp):Prop|m:∀(a:afb) (ns:List Int) (d:Int),x= .ref a->y= .int d->aJ K H2 a (ns.map V.int)->Q (.int (ZJ d ns)) H2->G3 K Q x y H2
def Tq(K:afU)(te td:TE):TE:=fun σ H Q=>te σ H fun x H1=>td σ H1 fun y H2=>G3 K Q x y H2
theorem Lk{ed:agP}{kp:Pos}(hc:X.calm=true)(hg:Gl X "max")(hm:X.mg "max"=none)(ha:PE X e te)(hd:PE X ed td)
  (he:starEach [e] X.env=[(false,eval e X.env)]:=by rfl):PE X (.Call (.Name "max" p) [e] [⟨some "default",ed,kp⟩] pos) (Tq X.K te td):=by
 intro pins s σ H Q I h;refine ahR (j0 I hg hm boot_max ?_);refine callWith_kw (by
  rw[he];refine ahi (cK (ha pins s σ H _ I h) fun u s1 ⟨x,H1,I1,r1,q1⟩=>ah3 ?_);refine kws_cons (cK (hd pins s1 σ H1 _ I1 q1) fun v s2 ⟨y,H2,I2,r2,q2⟩=>kws_nil ?_);obtain⟨a,ns,d,rfl,rfl,hs,q⟩:=q2;cases r1;obtain⟨t,rfl⟩:=r2;obtain⟨aR,rv,hl,_⟩:=I2.list hs;refine D7 (ns:=ns) (I2.ok.hd hc) hl.isList (fun i v hv=>wB rv (by simpa using hv)) (by have:=rv.length;rw[ae9]at this;rw[afJ,this]) fun h' tk kp=>⟨fun e=> ?_,fun z r e u'=> ?_⟩
  .subst e;exact⟨.int d,H2,I2.kept kp,⟨_,rfl⟩,q⟩
  .subst e;exact⟨.int _,H2,I2.kept kp,⟨_,rfl⟩,q⟩) (by rw[he]<;>rfl) (by rw[he]<;>rfl)
theorem yK(a b:afe):checkTypeCall "enumerate" ⟨[a],[("start",b)]⟩=pure ():=by kernel_rfl
theorem Ai(a b:afe):checkBuiltinCall "enumerate.__new__" ⟨[.type "enumerate",a],[("start",b)]⟩=pure ():=by kernel_rfl
theorem yJ(o a b:afe):argsOk "object.__init__" ⟨[o,a],[("start",b)]⟩:=by
 unfold argsOk;rw[signature?_of (id:="object.__init__") (n:=['_','_','t','i','n','i','_','_']) (o:=['t','c','e','j','b','o']) (by kernel_rfl) amR];kernel_rfl
abbrev Jx(h:age)(l:afb)(k:Int):age:=(h.push {cls:= .type "list_iterator",data:= .fields #[.ref l,.int 0 0]}).push {cls:= .type "enumerate",data:= .fields #[.none,.bool false,.ref h.objs.size,rawInt k,.none,.none]}
theorem DH(l:afb)(items:Array afe)(n:Nat)(Rh:Option afb)(sl:Array (Option afe))(k:Int)(t:Tok)(hk:ajN k=true):
  Meets (aj1.«enumerate.__new__» ⟨[.type "enumerate",.ref l],[("start",.int k t)]⟩) (fun _ R s=>s.heap.get? l=some {cls:= .type "list",dict:=Rh,data:= .seq items n,slots:=sl}/\
   R (.ok (.ret (.ref (s.heap.objs.size+1)))) {s with heap:=Jx s.heap l k}):=
 .of_wp fun prog w A R s h=>by
  obtain⟨hp,g,d,tk,os⟩:=s;obtain⟨hl,h⟩:=h;have OG:=sub_enumerate;have hL:akn (ajG ⟨hp,g,d,tk,os⟩) l items:=⟨_,hl,rfl,n,rfl⟩;have hz:(hp.push {cls:= .type "list_iterator",data:= .fields #[.ref l,.int 0 0]}).objs.size=hp.objs.size+1:=agf ..
  wp_walk using aiM hl
  have Ue:¬(!Builtin.SmallTypes.fitsIndex k)=true:=by rw[hk];exact afN
  rw[<-hz]at h;refine wpAny_stack_any fun st=>afX ?_
  split<;>first
   |(rename_i c _ _ _ _ _
     cases(c==aiP "enumerate")<;>(wp_walk using aiM hl,aho hL;exact⟨_,rfl,h⟩))
   |(wp_walk using aiM hl,aho hL;exact⟨_,rfl,h⟩)
theorem Ky{o a:afe}{k:Str}(hl:typeLookup (.type "enumerate") "__init__"=pure (some (.builtin "object.__init__")))(hm:Bind.madeBy (.type "enumerate")=pure (some "enumerate.__new__")):
  Meets (aj1.«object.__init__» ⟨[o,a],[(k,v)]⟩) (fun _ R s=>s.TypeIs o "enumerate"/\R (.ok (.ret .none)) s):=by
 refine Meets.of_wp fun prog w A R s hs=> ?_
 obtain⟨hT,hq⟩:=hs;have gh:(some "enumerate.__new__" !=some "object.__new__")=true:=by decide
 repeat (any_goals (first|assumption|wp_step))
 exact⟨_,rfl,hq⟩
theorem zU{k:Int}{t:Tok}(hL:s.heap.IsList l items)(hk:ajN k=true)
  (h:∀h',aku h' (s.heap.objs.size+1) s.heap.objs.size k .none->h'.IsListIter s.heap.objs.size l 0->(∀b o,s.heap.get? b=some o->h'.get? b=some o)->Q (.ref (s.heap.objs.size+1)) {s with heap:=h'}):
  wpAny (model P w) A (call (.type "enumerate") [.ref l] [("start",.int k t)]) Q E s:=by
 obtain⟨⟨c,Rh,dt,sl⟩,hl,hc,n,hd⟩:=hL;obtain rfl:c= .type "list":=hc;obtain rfl:dt= .seq items n:=hd;have ft:=F.called_enumerate;obtain⟨c1,tl,acC⟩:=ft.mro;have R4:=ft.made;have OG:=ft.sub;have hct:=yK (.ref l) (.int k t);refine alP (codeAny_of_tree ?_);show wpAny _ _ (callAny (.type "enumerate") _) _ _ _;refine afX ⟨Code.quiet_builtin _ (by decide+kernel),ajM F.entry_type_call ?_⟩;rw[Around.under_plain (weight_type_call_type "enumerate" [.ref l] [("start",.int k t)]) (units_type_call_type "enumerate" [.ref l] [("start",.int k t)])];have h1:=ft.notType;have h2:=ft.canCreate
 repeat (any_goals (first|assumption|wp_step))
 have hz:(s.heap.push {cls:= .type "list_iterator",data:= .fields #[.ref l,.int 0 0]}).objs.size=s.heap.objs.size+1:=agf ..;have hE:aku (Jx s.heap l k) (s.heap.objs.size+1) s.heap.objs.size k .none:=by rw[<-hz];exact afG _ rfl
 have hI:(Jx s.heap l k).IsListIter s.heap.objs.size l 0:=⟨_,afk _ (afG _ rfl),rfl,rfl⟩;have g:=DH l items n Rh sl k t hk;have QD:codeAny (model P w) A.in1 (.call (.builtin "enumerate.__new__") ⟨[.type "enumerate",.ref l],[("start",.int k t)]⟩) (fun r s1=>r= .ok (.ret (.ref (s.heap.objs.size+1)))/\s1={s with heap:=Jx s.heap l k}) s:=
  ajF ft.plain F.entry_enumerate_new (amx (Ai (.ref l) (.int k t)) (g P w A.in1 (fun r s1=>r= .ok (.ret (.ref (s.heap.objs.size+1)))/\s1={s with heap:=Jx s.heap l k}) s ⟨hl,rfl,rfl⟩))
 refine ai4 QD fun r s1 hr=> ?_
 obtain⟨rfl,rfl⟩:=hr;have hT:Shared.TypeIs {s with heap:=Jx s.heap l k} (.ref (s.heap.objs.size+1)) "enumerate":=⟨_,hE,rfl⟩;have Wu:=ft.init.lookup;have hbi:=ft.init.bind (.ref (s.heap.objs.size+1))
 repeat (any_goals (first|assumption|wp_step))
 have NQ:codeAny (model P w) A.in1 (.call (.builtin "object.__init__") ⟨[.ref (s.heap.objs.size+1),.ref l],[("start",.int k t)]⟩) (fun r s2=>r= .ok (.ret .none)/\s2={s with heap:=Jx s.heap l k}) {s with heap:=Jx s.heap l k}:=
  ajF ft.init.plain F.entry_object_init (ft.init.check _ _ _ _ _ _ _ _ hT (yJ _ _ _) (Ky Wu R4 P w A.in1 (fun r s2=>r= .ok (.ret .none)/\s2={s with heap:=Jx s.heap l k}) _ ⟨hT,rfl,rfl⟩))
 refine ai4 NQ fun r2 s2 Kt=> ?_
 obtain⟨rfl,rfl⟩:=Kt;have fin:=h (Jx s.heap l k) hE hI fun b o e=>afk _ (afk _ e)
 repeat (any_goals (first|assumption|wp_step))
theorem z6{e:afb}{z:Int}{x old:afe}{Q:Option afe->afA->Prop}
  (he:aku s.heap e it z old) (mr:s.heap.IsListIter it l i) (hl:s.heap.IsList l items) (hx:items[i]? =some x) (gh:e≠it)
  (hQ:∀h',anu h' e it (z+1) x s.heap.objs.size->h'.IsListIter it l (i+1)->h'.get? s.heap.objs.size=some {cls:= .type "tuple",data:= .seq #[.int z s.toks,x]}->
   (∀b o,b≠e->b≠it->s.heap.get? b=some o->h'.get? b=some o)->Q (some (.ref s.heap.objs.size)) {s with heap:=h',toks:=s.toks+1}):
  wpAny (model P w) A (pyNext (.ref e)) Q E s:=by
 have hT:s.TypeIs (.ref e) "enumerate":=⟨_,he,rfl⟩;obtain⟨hp,g,d,tk,os⟩:=s;have zM:e<hp.objs.size:=afT he;unfold pyNext;refine afg (akx (wpAny_callSpecial?_slot (name:=agD "__next__") hT air (ah9 air hT akZ ?_ (akG _))));refine afg (m:=field (.ref e) 2) (agV he rfl (x:= .ref it) rfl ?_);refine afg (ak0 mr hl hx fun g1 it1 CS=> ?_);have e1:aku g1 e it z old:=((show agk it hp g1 from CS).2 e gh).trans he;refine afg (m:=field (.ref e) 3) (agV e1 rfl (x:=rawInt z) rfl ?_);refine afg (m:=field (.ref e) 4) (agV e1 rfl (x:= .none) rfl ?_);refine afg (m:=mkInt z) (wpAny_mkInt ?_);refine afg (m:=setField (.ref e) 3 (rawInt (z+1))) (agY e1 (by simp) fun g2 e2 ES=> ?_);have MS:aku g2 e it (z+1) old:=e2;refine afg (m:=setField (.ref e) 4 .none) (agY MS (by simp) fun g3 e3 NM=> ?_);have VE:aku g3 e it (z+1) old:=e3;refine afg (m:=newTuple [.int z tk,x]) (wpAny_newTuple ?_);have sz:g3.objs.size=hp.objs.size:=by rw[(show agk e g2 g3 from NM).1,(show agk e g1 g2 from ES).1,(show agk it hp g1 from CS).1]
 have e4:aku (g3.push {cls:= .type "tuple",data:= .seq #[.int z tk,x]}) e it (z+1) old:=afk _ VE;have Qz:∀b o,b≠e->b≠it->hp.get? b=some o->(g3.push {cls:= .type "tuple",data:= .seq #[.int z tk,x]}).get? b=some o:=fun b o h1 h2 q=>
  afk _ ((show agk e g2 g3 from NM).extBut b o h1 ((show agk e g1 g2 from ES).extBut b o h1 ((show agk it hp g1 from CS).extBut b o h2 q)))
 have t4:(g3.push {cls:= .type "tuple",data:= .seq #[.int z tk,x]}).get? hp.objs.size=some {cls:= .type "tuple",data:= .seq #[.int z tk,x]}:=by rw[<-sz];exact afG _ rfl
 have i4:(g3.push {cls:= .type "tuple",data:= .seq #[.int z tk,x]}).IsListIter it l (i+1):=by
  obtain⟨o,ho,r⟩:=(it1.extBut (show agk e g1 g2 from ES).extBut (agU gh)).extBut (show agk e g2 g3 from NM).extBut (agU gh);exact⟨o,afk _ ho,r⟩
 refine afg (m:=agH (.ref e)) ?_;unfold agH;refine afg (agV e4 rfl (x:= .none) rfl (afX ?_));simp only[ajY];refine afg (akY (afg (agV e4 rfl (x:=old) rfl ?_)));refine afg (agY e4 (by simp) fun g5 e5 UC=> ?_);have e5':aku g5 e it (z+1) x:=e5;refine afg (m:=ahc (.ref e) _) ?_;unfold ahc;refine afg (agY e5' (by simp) fun g6 e6 sb6=> ?_);have e6':anu g6 e it (z+1) x g3.objs.size:=e6;refine agY e6' (by simp) fun g7 e7 sb7=> ?_
 have Yu:anu g7 e it (z+1) x g3.objs.size:=e7;have up:∀b o,b≠e->(g3.push {cls:= .type "tuple",data:= .seq #[.int z tk,x]}).get? b=some o->g7.get? b=some o:=fun b o hb q=>(show agk e g6 g7 from sb7).extBut b o hb ((show agk e g5 g6 from sb6).extBut b o hb ((show agk e _ g5 from UC).extBut b o hb q))
 rw[sz]at Yu;refine afg (ai1 (afX ⟨_,rfl,afX ?_⟩));show Q (some (.ref g3.objs.size)) _;rw[sz];exact hQ g7 Yu (i4.at fun o q=>up it o (agU gh) q) (up _ _ (aif zM) t4) fun b o h1 h2 q=>up b o h1 (Qz b o h1 h2 q)
theorem DG{e:afb}{z:Int}{old:afe}{Q:Option afe->afA->Prop}(hh:A.handled=none)
  (he:aku s.heap e it z old) (mr:s.heap.IsListIter it l i) (hl:s.heap.IsList l items) (hx:items[i]? =none) (hQ:∀h',amy it s.heap h'->Q none {s with heap:=h'}):wpAny (model P w) A (pyNext (.ref e)) Q E s:=by
 have hT:s.TypeIs (.ref e) "enumerate":=⟨_,he,rfl⟩;unfold pyNext;refine afg (akx (wpAny_callSpecial?_slot (name:=agD "__next__") hT air (ah9 air hT akZ ?_ (akG _))));refine afg (m:=field (.ref e) 2) (agV he rfl (x:= .ref it) rfl ?_);refine afg (alb hh mr hl hx fun h' x Ox hx'=> ?_);obtain⟨o,ho,hc⟩:=hx';exact afg (amo (T:="StopIteration") (b:=true) ⟨o,ho,hc⟩ isSubtype_stop (afX (hQ _ Ox)))
def Fv(K:afU)(a:afb)(c:Int):It:=
 ⟨fun i H=>∃(xs:List V) (x:V),aJ K H a xs/\xs[i]? =some x,fun i H v H'=>∃T x,v= .ref T/\H T=none/\H'=aE H T (.dY [.int (c+(i:Nat)),x])/\∀xs,aJ K H a xs->xs[i]? =some x,fun i H=>∃xs:List V,aJ K H a xs/\xs.length<=i⟩
theorem Bb(a e it:afb)(c:Int):
  uf P w K (.Tuple js kk jc) (Fv K a c) [e,it] e (fun i h=>(∃old,aku h e it (c+(i:Nat)) old)/\h.IsListIter it a i/\e≠it)where
 mem:=by simp
 obj:=fun i h st b hb=>by
  obtain⟨⟨old,he⟩,⟨o,ho,hc,hd⟩,_⟩:=st;have e':b=e\/b=it:=by simpa using hb
  rcases e' with z|z
  .rw[z];exact⟨_,he,fun v q=>nomatch q⟩
  .rw[z];exact⟨o,ho,fun v q=>by rw[hd]at q;cases q⟩
 keep:=fun i h h' st k=>let⟨⟨old,he⟩,hi,gh⟩:=st;⟨⟨old,k e (by simp) _ he⟩,hi.at fun o q=>k it (by simp) o q,gh⟩
 item:=by
  intro X hP hw hK hc i pins s σ H E I hf st hg;subst hP hw hK;obtain⟨⟨old,he⟩,mr,gh⟩:=st;obtain⟨xs,x,hq,hx⟩:=hg;obtain⟨aR,rv,p,hz⟩:=I.list hq;obtain⟨u,hu,ru⟩:=rv.get hx;have zM:e<s.heap.objs.size:=afT he;have gV:it<s.heap.objs.size:=by obtain⟨_,q,_⟩:=mr;exact afT q
  refine z6 he mr p.isList (x:=u) (by simpa using hu) gh fun h' ho Oz hT hk=> ?_
  refine⟨_,rfl,aka (s:={s with heap:=h',toks:=s.toks+1}) ho fun B6 Ox sb=> ?_⟩;have RC:B6.get? s.heap.objs.size=some {cls:= .type "tuple",data:= .seq #[.int (c+(i:Nat)) s.toks,u]}:=(sb.2 _ (aif zM)).trans hT;have new:eP X.prog X.w (aE H s.heap.objs.size (.dY [.int (c+(i:Nat)),x])) B6 s.heap.objs.size (.dY [.int (c+(i:Nat)),x]):=
   ⟨by show 2<=sizeLine;decide,[.int (c+(i:Nat)) s.toks,u],.cons ⟨_,rfl⟩ (.cons ru .nil),⟨_,RC,rfl,_,rfl⟩⟩
  have I1:bb X pins σ (aE H s.heap.objs.size (.dY [.int (c+(i:Nat)),x])) {s with heap:=B6,toks:=s.toks+1}:=
   I.pY (ch:=[e,it]) (fun b ob hb q=>(sb.2 b (fun z=>hb (by simp[z]))).trans (hk b ob (fun z=>hb (by simp[z])) (fun z=>hb (by simp[z])) q)) hf (afn _) new
  refine⟨.ref s.heap.objs.size,_,I1,rfl,⟨_,x,rfl,I.dc.fresh (afn _),rfl,fun ys hy=>by rw[I.oA hy hq];exact hx⟩,⟨⟨u,?_⟩,Oz.at fun o q=>(sb.2 it (agU gh)).trans q,gh⟩,fun b hb=> ?_⟩
  .have e1:c+((i+1:Nat):Int)=c+(i:Int)+1:=by omega
   rw[e1];exact Ox
  .have yx:b<s.heap.objs.size:=by
    have e':b=e\/b=it:=by simpa using hb
    rcases e' with z|z
    .rw[z];exact zM
    .rw[z];exact gV
   rw[ao (agw yx)];exact(hf b hb).1
 done:=by
  intro X hP hw hK hc i pins s σ H E I hf st hg;subst hP hw hK;obtain⟨⟨old,he⟩,mr,gh⟩:=st;obtain⟨xs,hq,hx⟩:=hg;obtain⟨aR,rv,p,hz⟩:=I.list hq;obtain⟨f0,f1,f2,f3,f4,f5⟩:=hf it (by simp);have hl:=rv.length;exact DG (I.ok.hd hc) he mr p.isList (by simp;omega) fun h' eb=>⟨rfl,I.gC (t':=s.toks) (fun b o hb q=>eb b o hb q) f0 f1 f3 f4 f5⟩
 self:=fun A i s Q E st h=>let⟨⟨_,he⟩,_⟩:=st;ai9 he h
theorem Fl{So:List alz}
  (h:wpAny M A (spliced (backTo pos (starEach [e] env))) (fun vs s1=>wpAny M A (evalAll ((backToKw pos (keywordEach So env)).map (·.2)))
   (fun aQ s2=>wpAny M A (call (.type T) vs (((backToKw pos (keywordEach So env)).filterMap (·.1)).zip aQ)) Q E s2) E s1) E s)
  (he:starEach [e] env=[(false,eval e env)]) (gI:(backToKw pos (keywordEach So env)).all (·.1.isSome)=true) (hkw:(backToKw pos (keywordEach So env)).any (·.1.isNone)=false):
  wpAny M A (callWith pos (.type T) [] (backTo pos (starEach [e] env)) (backToKw pos (keywordEach So env))) Q E s:=by
 have eb:backTo pos [(false,eval e env)]=[(false,eval e env)]:=rfl;rw[he,eb]at h⊢;have H:=evalArgs_kwB (f:= .type T) (x:=eval e env) (rest:=[]) (Q:=fun a s1=>wpAny M A (call (.type T) a.pos a.kw) Q E s1) gI h;unfold callWith;refine afg (ain (cK H fun a s1 h1=>afg (akp ?_)));rw[hkw];refine afg (afX ?_);exact afg (cK h1 fun r s2 hr=>afg (ain (wpAny_point (afX hr))))
inductive Ci(K:afU)(R:It->Hp->Prop)(x:V)(y:V)(H2:Hp):Prop|m:∀(a:afb) (xs:List V) (c:Int),x= .ref a->y= .int c->aJ K H2 a xs->-(2^63)<=c->c<2^63->R (Fv K a c) H2->Ci K R x y H2
def OH(K:afU)(te td:TE):TI:=fun σ H R=>te σ H fun x H1=>td σ H1 fun y H2=>Ci K R x y H2
theorem lx{ed:agP}{kp:Pos}(hg:Gl X "enumerate")(hm:X.mg "enumerate"=none)(ha:PE X e te)(hd:PE X ed td)(he:starEach [e] X.env=[(false,eval e X.env)]:=by rfl):
  PI X (.Tuple js kk jc) (.Call (.Name "enumerate" p) [e] [⟨some "start",ed,kp⟩] pos) (OH X.K te td):=by
 intro pins s σ H R I h;refine ahR (j0 I hg hm boot_enumerate (Fl ?_ he rfl rfl));rw[he];refine ahi (cK (ha pins s σ H _ I h) fun u s1 ⟨x,H1,I1,r1,q1⟩=>ah3 ?_);refine kws_cons (cK (hd pins s1 σ H1 _ I1 q1) fun v s2 ⟨y,H2,I2,r2,q2⟩=>kws_nil ?_);obtain⟨a,xs,c,rfl,rfl,hs,c1,c2,q⟩:=q2;cases r1;obtain⟨t,rfl⟩:=r2;obtain⟨aR,rv,hl,_⟩:=I2.list hs;refine zU (k:=c) (t:=t) hl.isList ?_ fun h' hE hI kp=>ai9 hE ?_
 .show(decide (-(2^63:Int)<=c)&&decide (c<2^63))=true;rw[afj c1,afj c2];rfl
 .have I3:bb X pins σ H2 {s2 with heap:=h'}:=I2.kept (t':=s2.toks) kp;refine⟨s2.heap.objs.size+1,[s2.heap.objs.size+1,s2.heap.objs.size],_,_,H2,rfl,I3,Bb a (s2.heap.objs.size+1) s2.heap.objs.size c,⟨⟨.none,?_⟩,hI,akB _⟩,fun b hb=> ?_,q⟩
  .rw[show c+((0:Nat):Int)=c by omega];exact hE
  .have e':b=s2.heap.objs.size+1\/b=s2.heap.objs.size:=by simpa using hb
   have qm:s2.heap.objs.size<=b:=by
    rcases e' with z|z
    .rw[z];exact agN _ _
    .rw[z];exact afn _
   exact I2.wg qm (I2.dc.fresh qm)
theorem jD{c:Int}(Pv:Nat->St->Hp->Prop)(h0:Pv 0 σ H)(hl:∀i σ H,i<=xs.length->Pv i σ H->aJ K H a xs)
  (hs:∀i x σ H T,xs[i]? =some x->Pv i σ H->H T=none->g (.ref T) σ (aE H T (.dY [.int (c+(i:Nat)),x])) fun σ2 H2=>tb {D with nx:=Pv (i+1),ct:=Pv (i+1),bk:=D.nx} σ2 H2) (hd:∀σ H,Pv xs.length σ H->D.nx σ H):
  ∃W:Nat->Nat->St->Hp->Prop,(∃m,W 0 m σ H)/\∀i m σ H,W i m σ H->
   ((Fv K a c).ju i H/\D.nx σ H)\/((Fv K a c).go i H/\∃N:St->Hp->Prop,(∀σ' H',N σ' H'->∃m',m'<m/\W (i+1) m' σ' H')/\∀x H',(Fv K a c).Dh i H x H'->g x σ H' fun σ2 H2=>tb {D with nx:=N,ct:=N,bk:=D.nx} σ2 H2):=by
 refine⟨fun i m σ H=>m=xs.length-i/\i<=xs.length/\Pv i σ H,⟨xs.length,by simp,afF _,h0⟩,?_⟩;rintro i m σ H ⟨rfl,hi,p⟩;have q:=hl i σ H hi p;by_cases iF:i<xs.length
 .refine .inr ⟨⟨xs,xs[i],q,by simp[iF]⟩,Pv (i+1),fun σ' H' p'=>⟨xs.length-(i+1),by omega,rfl,iF,p'⟩,fun v H' y=> ?_⟩;obtain⟨T,x,rfl,hT,rfl,y⟩:=y;exact hs i x σ H T (y xs q) p hT
 .have e:i=xs.length:=by omega
  subst e;exact .inl ⟨⟨xs,q,afn _⟩,hd σ H p⟩
theorem DJ(Pv:Nat->St->Hp->Prop)(h0:Pv 0 σ H)(hl:∀i σ H,i<=xs.length->Pv i σ H->aJ K H a xs)
  (hs:∀i x σ H T,xs[i]? =some x->Pv i σ H->H T=none->g (.ref T) σ (aE H T (.dY [.int (i:Nat),x])) fun σ2 H2=>tb {D with nx:=Pv (i+1),ct:=Pv (i+1),bk:=D.nx} σ2 H2) (hd:∀σ H,Pv xs.length σ H->D.nx σ H):
  ∃W:Nat->Nat->St->Hp->Prop,(∃m,W 0 m σ H)/\∀i m σ H,W i m σ H->
   ((QK K a).ju i H/\D.nx σ H)\/((QK K a).go i H/\∃N:St->Hp->Prop,(∀σ' H',N σ' H'->∃m',m'<m/\W (i+1) m' σ' H')/\∀x H',(QK K a).Dh i H x H'->g x σ H' fun σ2 H2=>tb {D with nx:=N,ct:=N,bk:=D.nx} σ2 H2):=by
 refine⟨fun i m σ H=>m=xs.length-i/\i<=xs.length/\Pv i σ H,⟨xs.length,by simp,afF _,h0⟩,?_⟩;rintro i m σ H ⟨rfl,hi,p⟩;have q:=hl i σ H hi p;by_cases iF:i<xs.length
 .refine .inr ⟨⟨xs,xs[i],q,by simp[iF]⟩,Pv (i+1),fun σ' H' p'=>⟨xs.length-(i+1),by omega,rfl,iF,p'⟩,fun v H' y=> ?_⟩;obtain⟨T,x,rfl,hT,rfl,y⟩:=y;exact hs i x σ H T (y xs q) p hT
 .have e:i=xs.length:=by omega
  subst e;exact .inl ⟨⟨xs,q,afn _⟩,hd σ H p⟩
def XQ(te:TE):TE:=fun σ H Q=>te σ H fun x H1=>(∃i:Int,x= .int i/\i.natAbs<2^64/\Q (.str (toString i)) H1)\/∃z,x= .str z/\z.length<=sizeLine/\Q (.str z) H1
theorem E2{i:Int}(h:i.natAbs<2^64):i.natAbs.log2<1920:=by
 by_cases h0:i.natAbs=0
 .rw[h0];decide
 .exact al9 ((Nat.log2_lt h0).mpr h) (by decide)
theorem sJ(he:PE X e te):PE X (.FormattedValue e (-1) none pos) (XQ te):=by
 intro pins s σ H Q I h;refine alX (cK (he pins s σ H _ I h) fun u s1 ⟨x,H1,I1,r,q⟩=> ?_);rcases q with⟨i,rfl,hi,q⟩|⟨z,rfl,hz,q⟩
 .obtain⟨t,rfl⟩:=r;exact formatField_int_small (E2 hi) ⟨.str (toString i),H1,I1.qM _,⟨_,rfl⟩,q⟩
 .obtain⟨t,rfl⟩:=r;exact formatField_str (fun t' tk=>⟨.str z,H1,I1.qM _,⟨_,rfl⟩,q⟩) hz
def Jk:List TE->Str->TE
 | [],acc=>fun _ H Q=>acc.length<=sizeLine/\Q (.str acc) H
 |t::ts,acc=>fun σ H Q=>t σ H fun x H1=>∃y,x= .str y/\(acc++y).length<=sizeLine/\Jk ts (acc++y) σ H1 Q
inductive PJ (X:Cx):List agP->List TE->Prop
 |nil:PJ X [] []
 |cons {e:agP} {t:TE} {es:List agP} {ts:List TE}:PE X e t->PJ X es ts->PJ X (e::es) (t::ts)
theorem KC{ts:List TE}(h:PJ X es ts):∀(acc:Str) (pins:List (afb×Obj)) (s:afA) (σ:St) (H:Hp) (Q:VK),bb X pins σ H s->Jk ts acc σ H Q->wpAny (model X.prog X.w) X.A (joinParts acc (evalEach es X.env)) (EP X pins σ Q) X.xe s:=by
 induction h with
 |nil=>
  intro acc pins s σ H Q I q;exact joinParts_nil ⟨.str acc,H,I.qM _,⟨_,rfl⟩,q.2⟩ q.1
 |cons he hr ih=>
  intro acc pins s σ H Q I q;refine joinParts_cons (cK (he pins s σ H _ I q) fun u s1 ⟨x,H1,I1,r,q1⟩=> ?_);obtain⟨y,rfl,hy,q2⟩:=q1;obtain⟨t,rfl⟩:=r;exact⟨hy,ih (acc++y) pins s1 σ H1 Q I1 q2⟩
theorem qY{ts:List TE}(h:PJ X (e::e2::es) ts):PE X (.JoinedStr (e::e2::es) pos) (Jk ts ah6):=by
 intro pins s σ H Q I q;exact JoinedStr_many (KC h ah6 pins s σ H Q I q)
inductive Ck(X:Cx)(t:TA)(σ:St)(Q:VK)(x:V)(H1:Hp):Prop|m:∀(f:afb) (fd:afC) (ps:List Str) (sp:Sp) (k:Nat),x= .ref f->keepIn X.K (.ref f)=true->aT X.prog X.w X.K X.mg X.base (fun _ _ _ _ _ _=>False) k f fd ps sp->fF k X.A->eY X.K fd ps []->(t σ H1 fun vs H2=>sp vs H2 Q (fun _ _ _=>False))->Ck X t σ Q x H1
def PX(X:Cx)(tf:TE)(t:TA):TE:=fun σ H Q=>tf σ H fun x H1=>Ck X t σ Q x H1
theorem oH{func:agP}{tf:TE}{t:TA}(hf:PE X func tf)(ha:PA X (e::es) t)
  (hc:eval (.Call func (e::es) [] pos) X.env=(do callWith pos (<-eval func X.env) [] (backTo pos (starEach (e::es) X.env)) (backToKw pos (keywordEach [] X.env))):=by rfl)
  (he:starEach (e::es) X.env=(false,eval e X.env)::starEach es X.env:=by rfl) (kf:(backTo pos (starEach es X.env)).any (·.1)=false:=by rfl):
  PE X (.Call func (e::es) [] pos) (PX X tf t):=by
 intro pins s σ H Q I h;refine Call_ (cK (hf pins s σ H _ I h) fun u s0 ⟨x,H1,I1,rx,f,fd,ps,sp,k,ex,hk,F,hr,hb,q⟩=> ?_) hc;subst ex;obtain rfl:u=afZ f:=rx;refine aj9 (h₀:=X.base) I1.ok.wJ.Sn hk (cK (ha pos pins s0 σ H1 _ I1 q) fun us s1 ⟨vs,H2,I2,r,q2⟩=>⟨I2.u5,?_⟩) he kf;refine xa (dvs:=[]) (E:=fun _ _ _=>False) F hr hb .nil (fun _ _ _ _ _ _ _ z=>z.elim) I2 r ?_;rw[af5];exact q2
def KD(P:afz)(w:af3)(K:afU)(a:afb)(aQ:List (br×V)):Prop:=(a==sysModules)=false/\∃vs:List (br×afe),KV aQ vs/\∀h:age,K.In h->h.DictOf (cO P w) a vs
inductive G2(P:afz)(w:af3)(K:afU)(Q:VK)(x:V)(y:V)(H2:Hp):Prop|m:∀(a:afb) (aQ:List (br×V)) (k:br) (v:V),x= .ref a->KD P w K a aQ->y=kV k->ee aQ k=some v->Q v H2->G2 P w K Q x y H2
def Tn(P:afz)(w:af3)(K:afU)(td ty:TE):TE:=fun σ H Q=>td σ H fun x H1=>ty σ H1 fun y H2=>G2 P w K Q x y H2
inductive Nl(P:afz)(w:af3)(K:afU)(Q:VK)(y:V)(x:V)(H2:Hp):Prop|m:∀(a:afb) (aQ:List (br×V)) (k:br),x= .ref a->KD P w K a aQ->y=kV k->Q (.bl (ee aQ k).isSome) H2->Nl P w K Q y x H2
def XT(P:afz)(w:af3)(K:afU)(ty td:TE):TE:=fun σ H Q=>ty σ H fun y H1=>td σ H1 fun x H2=>Nl P w K Q y x H2
inductive yH(P:afz)(w:af3)(K:afU)(Q:VK)(y:V)(x:V)(H2:Hp):Prop|m:∀(a:afb) (aQ:List (br×V)) (k:br),x= .ref a->KD P w K a aQ->y=kV k->Q (.bl (!(ee aQ k).isSome)) H2->yH P w K Q y x H2
def Md(P:afz)(w:af3)(K:afU)(ty td:TE):TE:=fun σ H Q=>ty σ H fun y H1=>td σ H1 fun x H2=>yH P w K Q y x H2
section
variable{o i:agP}
theorem w6(ho:PE X o td)(hi:PE X i ty)(hs:NY i):PE X (.Subscript o i pos) (Tn X.prog X.w X.K td ty):=by
 intro pins s σ H Q I h;refine Dd ake.lookup hs (cK (ho pins s σ H _ I h) fun u s1 ⟨x,H1,I1,rx,q1⟩=>cK (hi pins s1 σ H1 _ I1 q1) fun iv s2 ⟨y,H2,I2,ry,a,aQ,k,v,ex,⟨hd,vs,kl,dd⟩,ey,l,q2⟩=> ?_);subst ex;subst ey;obtain rfl:u=afZ a:=rx;have D:=dd s2.heap I2.u5;obtain⟨w',hw,xb⟩:=jy.oV (v:=v) (o:=valueAt vs k) (by rw[<-l];exact KV.val kl k);exact⟨D.typeIs,aml (kS ry) D.mapOf hw ⟨v,H2,I2.qM _,xb,q2⟩⟩
theorem Pf(hi:PE X i ty)(ho:PE X o td):PC X .In i o (XT X.prog X.w X.K ty td):=by
 intro pins s σ H Q I h;refine cK (hi pins s σ H _ I h) fun iv s1 ⟨y,H1,I1,ry,q1⟩=>cK (ho pins s1 σ H1 _ I1 q1) fun u s2 ⟨x,H2,I2,rx,a,aQ,k,ex,⟨hd,vs,kl,dd⟩,ey,q2⟩=> ?_
 subst ex;subst ey;obtain rfl:u=afZ a:=rx;refine wpAny_in_of (kS ry) hd (dd s2.heap I2.u5).mapOf ?_;rw[<-(KV.val kl k).iY];exact⟨.bl _,H2,I2.qM _,rfl,q2⟩
theorem EK(hi:PE X i ty)(ho:PE X o td):PC X .NotIn i o (Md X.prog X.w X.K ty td):=by
 intro pins s σ H Q I h;refine cK (hi pins s σ H _ I h) fun iv s1 ⟨y,H1,I1,ry,q1⟩=>cK (ho pins s1 σ H1 _ I1 q1) fun u s2 ⟨x,H2,I2,rx,a,aQ,k,ex,⟨hd,vs,kl,dd⟩,ey,q2⟩=> ?_
 subst ex;subst ey;obtain rfl:u=afZ a:=rx;refine wpAny_notIn_of (kS ry) hd (dd s2.heap I2.u5).mapOf ?_;rw[<-(KV.val kl k).iY];exact⟨.bl _,H2,I2.qM _,rfl,q2⟩
end
theorem Hf{t:afb}{x:afe}(mr:s.heap.IsTupleIter it t i)(ht:s.heap.IsTuple t items)(hx:items[i]? =some x)
  (hQ:∀h',h'.IsTupleIter it t (i+1)->agk it s.heap h'->Q x {s with heap:=h'}):wpAny (model P w) A (agM (.ref it)) Q E s:=by
 obtain⟨o,ho,hc,hd⟩:=id mr;obtain⟨o2,OB,_,n2,Kl⟩:=ht;have hn:¬((afZ t==ahQ)=true):=afN;unfold agM;refine afg (wpAny_callSpecial?_slot (name:=agD "__next__") mr.typeIs ahU (ah9 ahU mr.typeIs aj3 ?_ (ajO _)));refine afg (m:=field (.ref it) 0) (agV ho hd (x:= .ref t) rfl ?_);show wpAny _ _ (if(afZ t==ahQ)=true then _ else _) _ _ s;rw[afc hn];refine afg (m:=field (.ref it) 1) (agV ho hd (x:= .int i 0) rfl ?_);refine afg (m:=seqItems? (.ref t)) (ahp OB Kl ?_);simp only[ah4,hx];refine afg (wpAny_setField ho hd (by simp) (afX ⟨x,rfl,afX (hQ _ ⟨_,ahq _ ho (Obj.isFreed_of_fields (alU hd _)),(Obj.cls_mapFields ..).trans hc,?_⟩ (ajX ..))⟩));rw[alU hd];simp[rawInt]
theorem wO{t:afb}(hh:A.handled=none)(mr:s.heap.IsTupleIter it t i)(ht:s.heap.IsTuple t items)(hx:items[i]? =none)
  (hE:∀h' e,amy it s.heap h'->(∃o,h'.get? e=some o/\o.cls= .type "StopIteration")->E (.ref e) {s with heap:=h'}):wpAny (model P w) A (agM (.ref it)) Q E s:=by
 obtain⟨o,ho,hc,hd⟩:=id mr;obtain⟨o2,OB,_,n2,Kl⟩:=ht;have hn:¬((afZ t==ahQ)=true):=afN;unfold agM;refine afg (wpAny_callSpecial?_slot (name:=agD "__next__") mr.typeIs ahU (ah9 ahU mr.typeIs aj3 ?_ (ajO _)));refine afg (m:=field (.ref it) 0) (agV ho hd (x:= .ref t) rfl ?_);show wpAny _ _ (if(afZ t==ahQ)=true then _ else _) _ _ s;rw[afc hn];refine afg (m:=field (.ref it) 1) (agV ho hd (x:= .int i 0) rfl ?_);refine afg (m:=seqItems? (.ref t)) (ahp OB Kl ?_);simp only[ah4,hx];refine afg (akY (afg (wpAny_setField ho hd (by simp) (afg (m:=newExc (.type "StopIteration") []) ?_))));simp only[newExc,newTuple];refine afg (ai7 ?_ (by size_fits));refine afg (m:=firstArgMember _ _) (amx (a:=ahQ) (by first|rfl|(simp only[firstArgMember];rfl)) (ai7 ?_ (by size_fits)));simp only[raiseNew];refine afg (wpAny_handled ?_)
 first|rw[show A.in1.handled=none from hh]|rw[hh]
 exact afg (afX (wpAny_throw (hE _ _ (((ajX ..).extBut.push _).push _) ⟨_,afG _ rfl,rfl⟩)))
structure ue where
 it:afb
 JK:afb
 dY:Bool
 items:Array afe
def ue.At(c:ue)(h:age)(i:Nat):Prop:=c.it≠c.JK/\((c.dY=true/\h.IsTupleIter c.it c.JK i/\h.IsTuple c.JK c.items)\/(c.dY=false/\h.IsListIter c.it c.JK i/\h.IsList c.JK c.items))
section
variable{c:ue}
theorem ue.At.keep(x:c.At h i)(k1:∀o,h.get? c.it=some o->h'.get? c.it=some o)(k2:∀o,h.get? c.JK=some o->h'.get? c.JK=some o):c.At h' i:=by
 rcases x with⟨n,⟨t,⟨o,ho,r⟩,⟨o2,OB,r2⟩⟩|⟨t,⟨o,ho,r⟩,⟨o2,OB,r2⟩⟩⟩
 .exact⟨n,.inl ⟨t,⟨o,k1 o ho,r⟩,⟨o2,k2 o2 OB,r2⟩⟩⟩
 .exact⟨n,.inr ⟨t,⟨o,k1 o ho,r⟩,⟨o2,k2 o2 OB,r2⟩⟩⟩
theorem ue.item{x:afe}(a:c.At s.heap i)(hx:c.items[i]? =some x)(hQ:∀h',c.At h' (i+1)->agk c.it s.heap h'->Q x {s with heap:=h'}):
  wpAny (model P w) A (agM (.ref c.it)) Q E s:=by
 rcases a with⟨n,⟨t,h1,h2⟩|⟨t,h1,h2⟩⟩
 .exact Hf h1 h2 hx fun h' q sb=>hQ h' ⟨n,.inl ⟨t,q,h2.extBut sb.extBut (agU n)⟩⟩ sb
 .exact ak0 h1 h2 hx fun h' q sb=>hQ h' ⟨n,.inr ⟨t,q,h2.extBut sb.extBut (agU n)⟩⟩ sb
theorem ue.fin(hh:A.handled=none)(a:c.At s.heap i)(hx:c.items[i]? =none)
  (hE:∀h' e,amy c.it s.heap h'->(∃o,h'.get? e=some o/\o.cls= .type "StopIteration")->E (.ref e) {s with heap:=h'}):wpAny (model P w) A (agM (.ref c.it)) Q E s:=by
 rcases a with⟨n,⟨t,h1,h2⟩|⟨t,h1,h2⟩⟩
 .exact wO hh h1 h2 hx hE
 .exact alb hh h1 h2 hx hE
end
theorem tW{M:aj4}{A:ahD}{E:afe->afA->Prop}{α β:Type}{Q:β->afA->Prop}{f:α->β->Sem (ForInStep β)}(Iv:Nat->β->afA->Prop):
  ∀(l:List α) (n:Nat) (b:β) (s:afA),Iv n b s->(∀j a b s,l[j]? =some a->Iv (n+j) b s->wpAny M A (f a b) (fun r s'=>match r with| .yield b'=>Iv (n+j+1) b' s'| .done b'=>Q b' s') E s)->
   (∀b s,Iv (n+l.length) b s->Q b s)->wpAny M A (forIn l b f) Q E s
 | [],n,b,s,h0,_,hd=>afX (hd b s h0)
 |a::l,n,b,s,h0,hs,hd=>by
  rw[amA];refine afg (cK (hs 0 a b s rfl h0) fun r s' h=> ?_);cases r with
  |done b'=>exact afX h
  |yield b'=>
   refine tW Iv l (n+1) b' s' h (fun j a b s hj hi=> ?_) fun b s hi=>hd b s ?_
   .have:=hs (j+1) a b s (by simpa using hj) (by rw[show n+(j+1)=n+1+j by omega];exact hi);rw[show n+(j+1)+1=n+1+j+1 by omega]at this;exact this
   .rw[show n+(a::l).length=n+1+l.length by rw[afp];omega];exact hi
abbrev i5(h:age)(T:afb)(vs:List afe):Prop:=h.get? T=some {cls:= .type "tuple",data:= .seq vs.toArray}
structure JM(z TI TO:afb)(cs:List ue):Prop where
 nd:(z::TI::TO::cs.map (·.it)).Nodup
 sr:∀c∈cs,c.JK≠z/\c.JK≠TO/\∀c'∈cs,c.JK≠c'.it
theorem zj{α:Type}:∀{l old:List α} {j:Nat} {x:α},l[j]? =some x->j<old.length->(l.take j++old.drop j).set j x=l.take (j+1)++old.drop (j+1)
 | [],_,j,x,h,_=>by simp at h
 |a::l,[],j,x,_,h=>by simp at h
 |a::l,b::old,0,x,h,_=>by
  have:a=x:=by simpa using h
  subst this;rfl
 |a::l,b::old,j+1,x,h,hl=>by
  have:=zj (l:=l) (old:=old) (j:=j) (x:=x) (by simpa using h) (by simpa using hl);simp only[alH,ag9,aiI,alT];rw[this]
section
variable{TI TO:afb}{cs:List ue}{old xs:List afe}
theorem JM.tz(D:JM z TI TO cs):TO≠z/\TI≠z/\TI≠TO/\∀c∈cs,c.it≠z/\c.it≠TI/\c.it≠TO:=by
 have h:=D.nd;simp only[afE,afv,akt]at h;obtain⟨⟨h1,h2,h3⟩,⟨h4,h5⟩,h6,h7⟩:=h;refine⟨fun e=>h2 e.symm,fun e=>h1 e.symm,h4,fun c hc=>⟨fun e=>h3 (by rw[<-e];exact afH.mpr ⟨c,hc,rfl⟩),fun e=>h5 (by rw[<-e];exact afH.mpr ⟨c,hc,rfl⟩),fun e=>h6 (by rw[<-e];exact afH.mpr ⟨c,hc,rfl⟩)⟩⟩
theorem JM.ij(D:JM z TI TO cs){a b:Nat}{c c':ue}(ha:cs[a]? =some c)(hb:cs[b]? =some c')(hab:a≠b):c.it≠c'.it:=by
 have h:=D.nd;simp only[afE]at h;have h7:=h.2.2.2;exact fun e=>hab (nodup_ix2 h7 (by rw[afw,ha];rfl) (by rw[afw,hb];exact congrArg some e.symm))
where
 nodup_ix2 {N:List afb} (hN:N.Nodup) {i j:Nat} {x:afb} (a:N[i]? =some x) (b:N[j]? =some x):i=j:=by
  obtain⟨h1,e1⟩:=afd.mp a;obtain⟨h2,e2⟩:=afd.mp b;exact(ajo hN).mp (e1.trans e2.symm)
structure QR(h0:age)(z TI TO:afb)(cs:List ue)(old xs:List afe)(i j:Nat)(h:age):Prop where
 zp:akH h z TI TO .ellipsis
 tp:i5 h TO (xs.take j++old.drop j)
 lo:∀m c,m<j->cs[m]? =some c->c.At h (i+1)
 hi:∀m c,j<=m->cs[m]? =some c->c.At h i
 kp:∀b o,b≠z->b≠TO->(∀c∈cs,b≠c.it)->h0.get? b=some o->h.get? b=some o
 sz:h.objs.size=h0.objs.size
theorem Fn(D:JM z TI TO cs)(gh:cs≠ [])(wt:cs.length<=100)(hz:akH s.heap z TI TO .none)(yw:i5 s.heap TI (cs.map fun c=>afZ c.it))(zL:i5 s.heap TO old)(DQ:old.length=cs.length)(Um:xs.length=cs.length)
  (r8:∀c∈cs,c.At s.heap i) (hx:∀(m:Nat) (c:ue),cs[m]? =some c->∃x,xs[m]? =some x/\c.items[i]? =some x)
  (hQ:∀h',akH h' z TI TO (rawInt s.heap.objs.size)->(∃AA,AA.length=cs.length/\i5 h' TO AA)->(∀c∈cs,c.At h' (i+1))->i5 h' s.heap.objs.size xs->
   (∀b o,b≠z->b≠TO->(∀c∈cs,b≠c.it)->s.heap.get? b=some o->h'.get? b=some o)->Q (.ref s.heap.objs.size) {s with heap:=h'}):
  wpAny (model P w) A (aj1.«zip.__next__» ⟨[.ref z],[]⟩) (fun fin s'=>∃v,fin= .done (.ret v)/\Q v s') E s:=by
 obtain⟨t1,t2,t3,t4⟩:=D.tz;refine afg (m:=field (.ref z) 2) (agV hz rfl (x:= .bool false) rfl ?_);refine afg (m:=field (.ref z) 3) (agV hz rfl (x:= .ref TI) rfl ?_);refine afg (ahp yw rfl ?_);have Wi:¬((cs.map fun c=>afZ c.it).toArray.isEmpty=true):=by
  cases cs with
  |nil=>exact absurd rfl gh
  |cons c r=>simp
 show wpAny _ _ (if(cs.map fun c=>afZ c.it).toArray.isEmpty=true then _ else _) _ _ _;rw[afc Wi];refine afg (m:=agH (.ref z)) ?_;unfold agH;refine afg (agV hz rfl (x:= .none) rfl (afX ?_));simp only[ajY];refine afg (akY (afg (agV hz rfl (x:= .ref TO) rfl ?_)));refine afg (agY hz (by simp) fun h1 z1 CS=> ?_);have m0:QR s.heap z TI TO cs old xs i 0 h1:=by
  refine⟨z1,by rw[ahy,agT,ahV];exact CS.extBut _ _ t1 zL,fun m c hm=>absurd hm (aik m),fun m c _ hc=> ?_,fun b o hb _ _ e=>CS.extBut b o hb e,CS.1⟩;have hm:=afo hc;exact(r8 c hm).keep (fun o e=>CS.extBut _ o (t4 c hm).1 e) fun o e=>CS.extBut _ o (D.sr c hm).1 e
 refine afg (tW (fun j b s'=>b=(none,())/\∃h,s'={s with heap:=h}/\QR s.heap z TI TO cs old xs i j h) _ 0 _ _ ⟨rfl,h1,rfl,m0⟩ ?_ ?_)
 .rintro j ⟨it,k⟩ b s' hj ⟨rfl,h,rfl,M⟩;rw[aii]at M;obtain⟨c,hc,rfl,rfl⟩:∃c,cs[j]? =some c/\it=afZ c.it/\k=j:=by
   rw[aiA]at hj;cases q:cs[j]? with
   |none=>
    simp[q]at hj
   |some c=>
    simp[q]at hj;exact⟨c,rfl,hj.1.symm,hj.2.symm⟩
  have hm:=afo hc;obtain⟨x,hxj,Sf⟩:=hx k c hc;have hkl:k<cs.length:=(afd.mp hc).1;refine afg (wpAny_onRaise ?_);show wpAny _ _ (agM (.ref c.it)>>=_) _ _ _;refine afg (ue.item (M.hi k c (afn _) hc) Sf fun h2 a2 ES=>afX ?_);have P5:i5 h2 TO (xs.take k++old.drop k):=(show agk c.it h h2 from ES).extBut _ _ (agU (t4 c hm).2.2) M.tp;refine afg (ahp P5 rfl ?_);have sl:(xs.take k++old.drop k).length<=200:=by rw[afa,afW,agp];omega
  have s1:(xs.take k++old.drop k).toArray.size<=sizeLine:=by rw[afJ];exact afu sl (by decide)
  have s2:((xs.take k++old.drop k).toArray.setIfInBounds k x).size<=sizeLine+1:=by rw[aky];exact afK s1
  refine afg (ail (hz:=s1) (_hz':=s2) P5 rfl (afg (ai1 (afX ⟨rfl,_,rfl,?_⟩))));have up:∀b o,b≠TO->h2.get? b=some o->(h2.update TO (ahj fun y=>y.setIfInBounds k x)).get? b=some o:=fun b o hb e=>(agQ h2 _ (agU hb)).trans e
  have dn:∀b o,b≠c.it->h.get? b=some o->h2.get? b=some o:=fun b o hb e=>(show agk c.it h h2 from ES).extBut b o hb e
  have Cb:(h2.update TO (ahj fun y=>y.setIfInBounds k x)).objs.size=s.heap.objs.size:=by
   have e1:(h2.update TO (ahj fun y=>y.setIfInBounds k x)).objs.size=h2.objs.size:=(ajX h2 TO (ahj fun y=>y.setIfInBounds k x)).1;rw[e1,(show agk c.it h h2 from ES).1,M.sz]
  rw[aii];refine⟨up _ _ (agU t1) (dn _ _ (agU (t4 c hm).1) M.zp),?_,fun m c' iF ow=> ?_,fun m c' hge ow=> ?_,fun b o h3 h4 h5 e=>up b o h4 (dn b o (h5 c hm) (M.kp b o h3 h4 h5 e)),Cb⟩
  .rw[<-zj hxj (by omega)];show(h2.update TO (ahj fun y=>y.setIfInBounds k x)).get? TO=_;rw[ahq _ P5 rfl];simp[ahj]
  .have ua:=afo ow;by_cases q:m=k
   .subst q;rw[hc]at ow;cases ow;exact a2.keep (fun o e=>up _ o (t4 c hm).2.2 e) fun o e=>up _ o (D.sr c hm).2.1 e
   .exact(M.lo m c' (by omega) ow).keep (fun o e=>up _ o (t4 c' ua).2.2 (dn _ o (D.ij ow hc q) e)) fun o e=>up _ o (D.sr c' ua).2.1 (dn _ o ((D.sr c' ua).2.2 c hm) e)
  .have ua:=afo ow;exact(M.hi m c' (by omega) ow).keep (fun o e=>up _ o (t4 c' ua).2.2 (dn _ o (D.ij ow hc (by omega)) e)) fun o e=>up _ o (D.sr c' ua).2.1 (dn _ o ((D.sr c' ua).2.2 c hm) e)
 .rintro b s' ⟨rfl,h,rfl,M⟩;have bY:((cs.map fun c=>afZ c.it).toArray.toList.zipIdx).length=cs.length:=by simp
  rw[bY,aii]at M;have tp:=M.tp;rw[agu (by omega),agr (by omega),af5]at tp;show wpAny _ _ (seqItems? (.ref TO)>>=_) _ _ _;refine afg (ahp tp rfl ?_);have sx:xs.toArray.toList.length<=sizeLine:=by show xs.length<=sizeLine;rw[Um];exact afu wt (by decide)
  refine afg (wpAny_newTuple (hsz:=sx) ?_);have Z4:z<h.objs.size:=afT M.zp;have z3:akH (h.push {cls:= .type "tuple",data:= .seq xs.toArray}) z TI TO .ellipsis:=afk _ M.zp;refine afg (m:=ahc (.ref z) _) ?_;unfold ahc;refine afg (agY z3 (by simp) fun h4 z4 ZY=> ?_);have z4':akH h4 z TI TO (rawInt h.objs.size):=z4;refine agY z4' (by simp) fun h5 z5 UC=> ?_
  have Z3:akH h5 z TI TO (rawInt h.objs.size):=z5;rw[M.sz]at Z3;have up:∀b o,b≠z->h.get? b=some o->h5.get? b=some o:=fun b o hb e=>(show agk z h4 h5 from UC).extBut b o hb ((show agk z _ h4 from ZY).extBut b o hb (afk _ e))
  have tn:i5 h5 s.heap.objs.size xs:=by
   rw[<-M.sz];exact(show agk z h4 h5 from UC).extBut _ _ (aif Z4) ((show agk z _ h4 from ZY).extBut _ _ (aif Z4) (afG _ rfl))
  refine afX ⟨_,rfl,?_⟩;show Q (.ref h.objs.size) _;rw[M.sz];refine hQ h5 Z3 ⟨xs,Um,up _ _ t1 tp⟩ (fun c hc=> ?_) tn fun b o YK Kg Fo e=>up b o YK (M.kp b o YK Kg Fo e)
  obtain⟨m,hm⟩:=aga hc;exact(M.lo m c (afd.mp hm).1 hm).keep (fun o e=>up _ o (t4 c hc).1 e) fun o e=>up _ o (D.sr c hc).1 e
end
section
variable{TI TO:afb}{cs:List ue}{old xs:List afe}
structure X6(h0:age)(z TI TO:afb)(cs:List ue)(i j:Nat)(h:age):Prop where
 zp:akH h z TI TO .ellipsis
 tp:∃vs,vs.length=cs.length/\i5 h TO vs
 hi:∀m c,j<=m->cs[m]? =some c->c.At h i
 no:∀(m:Nat) (c:ue),m<j->cs[m]? =some c->c.items[i]?≠none
 kp:∀b o,b≠z->b≠TO->(∀c∈cs,b≠c.it)->h0.get? b=some o->h.get? b=some o
theorem Js{Q:Fin->afA->Prop}(hh:A.handled=none)(D:JM z TI TO cs)(wt:cs.length<=100)(hz:akH s.heap z TI TO .none)(yw:i5 s.heap TI (cs.map fun c=>afZ c.it))(zL:i5 s.heap TO old)(DQ:old.length=cs.length)
  (r8:∀c∈cs,c.At s.heap i) (hx:∃c∈cs,c.items[i]? =none)
  (hE:∀h' e,(∀b o,b≠z->b≠TO->(∀c∈cs,b≠c.it)->s.heap.get? b=some o->h'.get? b=some o)->(∃o,h'.get? e=some o/\o.cls= .type "StopIteration")->E (.ref e) {s with heap:=h'}):
  wpAny (model P w) A (aj1.«zip.__next__» ⟨[.ref z],[]⟩) Q E s:=by
 obtain⟨t1,t2,t3,t4⟩:=D.tz;refine afg (m:=field (.ref z) 2) (agV hz rfl (x:= .bool false) rfl ?_);refine afg (m:=field (.ref z) 3) (agV hz rfl (x:= .ref TI) rfl ?_);refine afg (ahp yw rfl ?_);have Wi:¬((cs.map fun c=>afZ c.it).toArray.isEmpty=true):=by
  cases cs with
  |nil=>obtain⟨c,hc,_⟩:=hx;exact nomatch hc
  |cons c r=>simp
 show wpAny _ _ (if(cs.map fun c=>afZ c.it).toArray.isEmpty=true then _ else _) _ _ _;rw[afc Wi];refine afg (m:=agH (.ref z)) ?_;unfold agH;refine afg (agV hz rfl (x:= .none) rfl (afX ?_));simp only[ajY];refine afg (akY (afg (agV hz rfl (x:= .ref TO) rfl ?_)));refine afg (agY hz (by simp) fun h1 z1 CS=> ?_);have m0:X6 s.heap z TI TO cs i 0 h1:=by
  refine⟨z1,⟨old,DQ,CS.extBut _ _ t1 zL⟩,fun m c _ hc=> ?_,fun m c hm=>absurd hm (aik m),fun b o hb _ _ e=>CS.extBut b o hb e⟩;have hm:=afo hc;exact(r8 c hm).keep (fun o e=>CS.extBut _ o (t4 c hm).1 e) fun o e=>CS.extBut _ o (D.sr c hm).1 e
 refine afg (tW (fun j b s'=>b=(none,())/\∃h,s'={s with heap:=h}/\X6 s.heap z TI TO cs i j h) _ 0 _ _ ⟨rfl,h1,rfl,m0⟩ ?_ ?_)
 .rintro j ⟨it,k⟩ b s' hj ⟨rfl,h,rfl,M⟩;rw[aii]at M;obtain⟨c,hc,rfl,rfl⟩:∃c,cs[j]? =some c/\it=afZ c.it/\k=j:=by
   rw[aiA]at hj;cases q:cs[j]? with
   |none=>simp[q]at hj
   |some c=>
    simp[q]at hj;exact⟨c,rfl,hj.1.symm,hj.2.symm⟩
  have hm:=afo hc;have hkl:k<cs.length:=(afd.mp hc).1;obtain⟨vs,Kx,tpv⟩:=M.tp;refine afg (wpAny_onRaise ?_);show wpAny _ _ (agM (.ref c.it)>>=_) _ _ _;cases Sf:c.items[i]? with
  |none=>
   refine afg (ue.fin hh (M.hi k c (afn _) hc) Sf fun h2 e ES he=> ?_);obtain⟨oe,WH,T9⟩:=he;have z2:akH h2 z TI TO .ellipsis:=ES _ _ (agU (t4 c hm).1) M.zp;have hez:e≠z:=fun q=>by subst q;rw[z2]at WH;cases WH;simp at T9
   exact agY z2 (by simp) fun h3 _ NM=>hE h3 e (fun b o b1 b2 b3 q=>(show agk z h2 h3 from NM).extBut _ _ b1 (ES _ _ (b3 c hm) (M.kp b o b1 b2 b3 q))) ⟨oe,(show agk z h2 h3 from NM).extBut _ _ hez WH,T9⟩
  |some x=>
   refine afg (ue.item (M.hi k c (afn _) hc) Sf fun h2 a2 ES=>afX ?_);have P5:i5 h2 TO vs:=(show agk c.it h h2 from ES).extBut _ _ (agU (t4 c hm).2.2) tpv;have s1:vs.toArray.size<=sizeLine:=by rw[afJ,Kx];exact afu wt (by decide)
   have s2:(vs.toArray.setIfInBounds k x).size<=sizeLine+1:=by rw[aky];exact afK s1
   refine afg (ahp P5 rfl ?_);refine afg (ail (hz:=s1) (_hz':=s2) P5 rfl (afg (ai1 (afX ⟨rfl,_,rfl,?_⟩))));have up:∀b o,b≠TO->h2.get? b=some o->(h2.update TO (ahj fun y=>y.setIfInBounds k x)).get? b=some o:=fun b o hb e=>(agQ h2 _ (agU hb)).trans e
   have dn:∀b o,b≠c.it->h.get? b=some o->h2.get? b=some o:=fun b o hb e=>(show agk c.it h h2 from ES).extBut b o hb e
   rw[aii];refine⟨up _ _ (agU t1) (dn _ _ (agU (t4 c hm).1) M.zp),⟨vs.set k x,by rw[ak3];exact Kx,?_⟩,fun m c' hge ow=> ?_,fun m c' iF ow=> ?_,fun b o h3 h4 h5 e=>up b o h4 (dn b o (h5 c hm) (M.kp b o h3 h4 h5 e))⟩
   .show(h2.update TO (ahj fun y=>y.setIfInBounds k x)).get? TO=_;rw[ahq _ P5 rfl];simp[ahj]
   .have ua:=afo ow;exact(M.hi m c' (by omega) ow).keep (fun o e=>up _ o (t4 c' ua).2.2 (dn _ o (D.ij ow hc (by omega)) e)) fun o e=>up _ o (D.sr c' ua).2.1 (dn _ o ((D.sr c' ua).2.2 c hm) e)
   .by_cases q:m=k
    .subst q;rw[hc]at ow;cases ow;rw[Sf];exact fun q=>nomatch q
    .exact M.no m c' (by omega) ow
 .rintro b s' ⟨rfl,h,rfl,M⟩;have bY:((cs.map fun c=>afZ c.it).toArray.toList.zipIdx).length=cs.length:=by simp
  rw[bY,aii]at M;obtain⟨c,hc,hn⟩:=hx;obtain⟨m,hm⟩:=aga hc;exact absurd hn (M.no m c (afd.mp hm).1 hm)
theorem Ec{Q:Option afe->afA->Prop}(D:JM z TI TO cs)(gh:cs≠ [])(wt:cs.length<=100)(hz:akH s.heap z TI TO .none)(yw:i5 s.heap TI (cs.map fun c=>afZ c.it))(zL:i5 s.heap TO old)(DQ:old.length=cs.length)(Um:xs.length=cs.length)
  (r8:∀c∈cs,c.At s.heap i) (hx:∀(m:Nat) (c:ue),cs[m]? =some c->∃x,xs[m]? =some x/\c.items[i]? =some x)
  (hQ:∀h',akH h' z TI TO (rawInt s.heap.objs.size)->(∃AA,AA.length=cs.length/\i5 h' TO AA)->(∀c∈cs,c.At h' (i+1))->i5 h' s.heap.objs.size xs->
   (∀b o,b≠z->b≠TO->(∀c∈cs,b≠c.it)->s.heap.get? b=some o->h'.get? b=some o)->Q (some (.ref s.heap.objs.size)) {s with heap:=h'}):wpAny (model P w) A (pyNext (.ref z)) Q E s:=by
 have hT:s.TypeIs (.ref z) "zip":=⟨_,hz,rfl⟩;unfold pyNext;exact afg (akx (wpAny_callSpecial?_slot (name:=agD "__next__") hT ajP (ah9 ajP hT amq
  (Fn D gh wt hz yw zL DQ Um r8 hx fun h' a1 a2 a3 a4 a5=>afX (hQ h' a1 a2 a3 a4 a5)) (amc _))))
theorem Gu{Q:Option afe->afA->Prop}(hh:A.handled=none)(D:JM z TI TO cs)(wt:cs.length<=100)(hz:akH s.heap z TI TO .none)(yw:i5 s.heap TI (cs.map fun c=>afZ c.it))(zL:i5 s.heap TO old)(DQ:old.length=cs.length)
  (r8:∀c∈cs,c.At s.heap i) (hx:∃c∈cs,c.items[i]? =none) (hQ:∀h',(∀b o,b≠z->b≠TO->(∀c∈cs,b≠c.it)->s.heap.get? b=some o->h'.get? b=some o)->Q none {s with heap:=h'}):wpAny (model P w) A (pyNext (.ref z)) Q E s:=by
 have hT:s.TypeIs (.ref z) "zip":=⟨_,hz,rfl⟩;unfold pyNext;refine afg (akx (wpAny_callSpecial?_slot (name:=agD "__next__") hT ajP (ah9 ajP hT amq
  (Js hh D wt hz yw zL DQ r8 hx fun h' e hk he=> ?_) (amc _))))
 obtain⟨o,ho,hc⟩:=he;exact afg (amo (T:="StopIteration") (b:=true) ⟨o,ho,hc⟩ isSubtype_stop (afX (hQ _ hk)))
end
abbrev ud:=Bool×afb
def Mn(K:afU)(H:Hp)(p:ud)(xs:List V):Prop:=(p.1=true/\gF K H p.2 xs)\/(p.1=false/\aJ K H p.2 xs)
def jf(h:age)(a:afb):Array afe:=match h.get? a with
 |some o=>(match o.data with| .seq aR _=>aR|_=> #[])
 |none=> #[]
def jS(h:age)(p:ud)(it:afb)(i:Nat):Prop:=(p.1=true/\h.IsTupleIter it p.2 i)\/(p.1=false/\h.IsListIter it p.2 i)
theorem jS.keep{p:ud}(x:jS h p it i)(k:∀o,h.get? it=some o->h'.get? it=some o):jS h' p it i:=by
 rcases x with⟨a,⟨o,ho,r⟩⟩|⟨a,⟨o,ho,r⟩⟩
 .exact .inl ⟨a,o,k o ho,r⟩
 .exact .inr ⟨a,o,k o ho,r⟩
theorem jS.obj{p:ud}(x:jS h p it i):∃o,h.get? it=some o/\∀v,o.data≠ .cell v:=by
 rcases x with⟨_,⟨o,ho,_,hd⟩⟩|⟨_,⟨o,ho,_,hd⟩⟩
 .exact⟨o,ho,fun v q=>by rw[hd]at q;cases q⟩
 .exact⟨o,ho,fun v q=>by rw[hd]at q;cases q⟩
def iN(h:age)(q:ud×afb):ue:=⟨q.2,q.1.2,q.1.1,jf h q.1.2⟩
theorem Mn.cG{p:ud}(I:bb X pins σ H s)(h:Mn X.K H p xs):∃aR:List afe,bo xs aR/\jf s.heap p.2=aR.toArray/\((p.1=true/\s.heap.IsTuple p.2 aR.toArray)\/(p.1=false/\s.heap.IsList p.2 aR.toArray)):=by
 rcases h with⟨e,h⟩|⟨e,h⟩
 .obtain⟨aR,rv,⟨o,ho,hc,n,hd⟩,_⟩:=I.tuple h;refine⟨aR,rv,?_,.inl ⟨e,o,ho,hc,n,hd⟩⟩;unfold jf;rw[ho];simp only[hd]
 .obtain⟨aR,rv,hl,_⟩:=I.list h;obtain⟨o,n,ho,hc,hdn,hd⟩:=id hl;refine⟨aR,rv,?_,.inr ⟨e,hl.isList⟩⟩;unfold jf;rw[ho];simp only[hd]
theorem Jh{p:ud}(I:bb X pins σ H s)(h:Mn X.K H p xs)(ia:jS s.heap p it i)(gh:it≠p.2):(iN s.heap (p,it)).At s.heap i:=by
 obtain⟨aR,rv,e,k⟩:=h.cG I;refine⟨gh,?_⟩;rcases k with⟨e1,k⟩|⟨e1,k⟩
 .rcases ia with⟨e2,ia⟩|⟨e2,ia⟩
  .refine .inl ⟨e1,ia,?_⟩;show s.heap.IsTuple p.2 (jf s.heap p.2);rw[e];exact k
  .rw[e1]at e2;cases e2
 .rcases ia with⟨e2,ia⟩|⟨e2,ia⟩
  .rw[e1]at e2;cases e2
  .refine .inr ⟨e1,ia,?_⟩;show s.heap.IsList p.2 (jf s.heap p.2);rw[e];exact k
def vP(K:afU)(ps:List ud):It:=
 ⟨fun i H=>∀p∈ps,∃(xs:List V) (x:V),Mn K H p xs/\xs[i]? =some x,
  fun i H v H'=>∃(T:afb) (vs:List V),v= .ref T/\H T=none/\H'=aE H T (.dY vs)/\vs.length=ps.length/\∀(m:Nat) (p:ud),ps[m]? =some p->∀xs,Mn K H p xs->∃x,xs[i]? =some x/\vs[m]? =some x,
  fun i H=>(∀p∈ps,∃xs:List V,Mn K H p xs)/\∃p∈ps,∃xs:List V,Mn K H p xs/\xs.length<=i⟩
structure QS(z TI TO:afb)(ps:List ud)(aR:List afb):Prop where
 len:aR.length=ps.length
 nd:(z::TI::TO::aR).Nodup
 sr:∀p∈ps,∀b∈z::TI::TO::aR,p.2≠b
 ne:ps≠ []
 Gy:ps.length<=100
theorem t9{ps:List ud}{aR:List afb}(hl:aR.length=ps.length){m:Nat}{q:ud×afb}:(ps.zip aR)[m]? =some q↔ps[m]? =some q.1/\aR[m]? =some q.2:=by
 rw[akh]
theorem xQ{ps:List ud}{aR:List afb}(hl:aR.length=ps.length):(ps.zip aR).map (·.2)=aR:=by
 rw[<-List.unzip_snd,List.unzip_zip hl.symm]
theorem QS.ap{TI TO:afb}{ps:List ud}{aR:List afb}(D:QS z TI TO ps aR)(h:age):JM z TI TO ((ps.zip aR).map (iN h)):=by
 have e:((ps.zip aR).map (iN h)).map (·.it)=aR:=by
  rw[ag4];exact xQ D.len
 refine⟨by rw[e];exact D.nd,fun c hc=> ?_⟩;obtain⟨q,hq,rfl⟩:=afH.mp hc;have hp:q.1∈ps:=(ah1 hq).1;refine⟨D.sr _ hp _ (by simp),D.sr _ hp _ (by simp),fun c' ow=> ?_⟩;obtain⟨q',Cd,rfl⟩:=afH.mp ow;exact D.sr _ hp _ (afs _ (afs _ (afs _ (ah1 Cd).2)))
theorem vJ{TI TO:afb}{ps:List ud}{aR:List afb}(D:QS z TI TO ps aR):
  uf P w K (.Tuple js kk jc) (vP K ps) (z::TI::TO::aR) z (fun i h=>akH h z TI TO .none/\i5 h TI (aR.map afZ)/\(∃old,old.length=ps.length/\i5 h TO old)/\∀(m:Nat) (p:ud) (it:afb),ps[m]? =some p->aR[m]? =some it->jS h p it i)where
 mem:=by simp
 obj:=fun i h st b hb=>by
  obtain⟨hz,yw,⟨old,DQ,zL⟩,mr⟩:=st;rcases afv.mp hb with e|hb
  .rw[e];exact⟨_,hz,fun v q=>nomatch q⟩
  .rcases afv.mp hb with e|hb
   .rw[e];exact⟨_,yw,fun v q=>nomatch q⟩
   .rcases afv.mp hb with e|hb
    .rw[e];exact⟨_,zL,fun v q=>nomatch q⟩
    .obtain⟨m,hm⟩:=aga hb;have M9:m<ps.length:=by rw[<-D.len];exact(afd.mp hm).1
     exact(mr m ps[m] b (afi M9) hm).obj
 keep:=fun i h h' st k=>by
  obtain⟨hz,yw,⟨old,DQ,zL⟩,mr⟩:=st;exact⟨k z (by simp) _ hz,k TI (by simp) _ yw,⟨old,DQ,k TO (by simp) _ zL⟩,fun m p it hp hi=>(mr m p it hp hi).keep fun o e=>k it (by simp[afo hi]) o e⟩
 item:=by
  intro X hP hw hK hc i pins s σ H E I hf st hg;subst hP hw hK;obtain⟨hz,yw,⟨old,DQ,zL⟩,mr⟩:=st;have MX:=D.ap s.heap;have GO:((ps.zip aR).map (iN s.heap)).length=ps.length:=by rw[ae9,ak5,D.len];omega
  have gh:(ps.zip aR).map (iN s.heap)≠ []:=fun e=>by
   rw[e]at GO;exact D.ne (List.length_eq_zero_iff.mp GO.symm)
  have Ou:i5 s.heap TI (((ps.zip aR).map (iN s.heap)).map fun c=>afZ c.it):=by
   rw[ag4];rw[show((fun c:ue=>afZ c.it)∘iN s.heap)=(fun q:ud×afb=>afZ q.2)from rfl,show((ps.zip aR).map fun q=>afZ q.2)=((ps.zip aR).map (·.2)).map afZ from by rw[ag4];rfl,xQ D.len];exact yw
  have r8:∀c∈(ps.zip aR).map (iN s.heap),c.At s.heap i:=fun c hc=>by
   obtain⟨q,hq,rfl⟩:=afH.mp hc;obtain⟨m,hm⟩:=aga hq;obtain⟨h1,h2⟩:=(t9 D.len).mp hm;obtain⟨xs,x,hs,_⟩:=hg q.1 (afo h1);exact Jh I hs (mr m q.1 q.2 h1 h2) (fun e=>D.sr q.1 (afo h1) q.2 (by simp[afo h2]) e.symm)
  have key:∀(l:List ud),(∀p∈l,p∈ps)->∃(vs:List V) (us:List afe),vs.length=l.length/\us.length=l.length/\bo vs us/\∀(m:Nat) (p:ud),l[m]? =some p->∃x u,vs[m]? =some x/\us[m]? =some u/\(jf s.heap p.2)[i]? =some u/\∀xs,Mn X.K H p xs->xs[i]? =some x:=by
   intro l
   induction l with
   |nil=>intro _;exact⟨[],[],rfl,rfl,.nil,fun m p h=>by simp at h⟩
   |cons p l ih=>
    intro hl;obtain⟨vs,us,l1,l2,rv,hk⟩:=ih fun q hq=>hl q (afs _ hq)
    obtain⟨xs,x,hs,hx⟩:=hg p (hl p af2);obtain⟨iv,rv2,e,_⟩:=hs.cG I;obtain⟨u,hu,ru⟩:=rv2.get hx;refine⟨x::vs,u::us,by rw[afp,afp,l1],by rw[afp,afp,l2],.cons ru rv,fun m q hm=> ?_⟩;cases m with
    |zero=>
     have:p=q:=by simpa using hm
     subst this;refine⟨x,u,rfl,rfl,by rw[e];simpa using hu,fun ys hy=> ?_⟩;have:ys=xs:=by
      rcases hs with⟨e1,hs⟩|⟨e1,hs⟩
      .rcases hy with⟨e2,hy⟩|⟨e2,hy⟩
       .exact I.vI hy hs
       .rw[e1]at e2;cases e2
      .rcases hy with⟨e2,hy⟩|⟨e2,hy⟩
       .rw[e1]at e2;cases e2
       .exact I.oA hy hs
     rw[this];exact hx
    |succ m=>
     obtain⟨x',u',h1,h2,h3,h4⟩:=hk m q (by simpa using hm);exact⟨x',u',by simpa using h1,by simpa using h2,h3,h4⟩
  obtain⟨vs,us,l1,l2,rv,hk⟩:=key ps fun p hp=>hp
  have WX:z<s.heap.objs.size:=afT hz;refine Ec (xs:=us) MX gh (by rw[GO];exact D.Gy) hz Ou zL (by rw[GO];exact DQ) (by rw[GO];exact l2) r8 (fun m c ui=> ?_) fun h' z' TO' at' hT Zh=> ?_
  .rw[afw]at ui;cases q:(ps.zip aR)[m]? with
   |none=>rw[q]at ui;cases ui
   |some y=>
    rw[q]at ui;cases ui;obtain⟨x,u,_,h2,h3,_⟩:=hk m y.1 ((t9 D.len).mp q).1;exact⟨u,h2,h3⟩
  .refine⟨_,rfl,wpAny_letOwnedTupleGo_zip (s:={s with heap:=h'}) z' fun B6 z'' sb=> ?_⟩;have RC:B6.get? s.heap.objs.size=some {cls:= .type "tuple",data:= .seq us.toArray}:=(sb.2 _ (aif WX)).trans hT;have Kx:vs.length<=sizeLine:=by rw[l1];exact afu D.Gy (by decide)
   have new:eP X.prog X.w (aE H s.heap.objs.size (.dY vs)) B6 s.heap.objs.size (.dY vs):=⟨Kx,us,rv,⟨_,RC,rfl,_,rfl⟩⟩;have RY:∀b o,b∉z::TI::TO::aR->s.heap.get? b=some o->B6.get? b=some o:=fun b o hb e=>by
    refine(sb.2 b (fun q=>hb (by simp[q]))).trans (Zh b o (fun q=>hb (by simp[q])) (fun q=>hb (by simp[q])) (fun c ui q=>hb ?_) e);obtain⟨y,hy,rfl⟩:=afH.mp ui;rw[q];exact afs _ (afs _ (afs _ (ah1 hy).2))
   have I1:bb X pins σ (aE H s.heap.objs.size (.dY vs)) {s with heap:=B6}:=I.pY (t':=s.toks) (ch:=z::TI::TO::aR) RY hf (afn _) new;obtain⟨t1,t2,t3,t4⟩:=MX.tz;obtain⟨AA,ol',V7⟩:=TO';refine⟨.ref s.heap.objs.size,_,I1,rfl,⟨_,vs,rfl,I.dc.fresh (afn _),rfl,l1,fun m p hp xs hxs=> ?_⟩,⟨z'',?_,⟨AA,by rw[<-GO];exact ol',(sb.2 _ t1).trans V7⟩,fun m p it hp hi=> ?_⟩,fun b hb=> ?_⟩
   .obtain⟨x,u,h1,_,_,h4⟩:=hk m p hp;exact⟨x,h4 xs hxs,h1⟩
   .refine(sb.2 _ t2).trans (Zh _ _ t2 t3 (fun c ui q=> ?_) yw);exact(t4 c ui).2.1 q.symm
   .have ui:iN s.heap (p,it)∈(ps.zip aR).map (iN s.heap):=afH.mpr ⟨(p,it),afo ((t9 D.len).mpr ⟨hp,hi⟩),rfl⟩;have a:=at' _ ui;have kk:∀o,h'.get? it=some o->B6.get? it=some o:=fun o e=>(sb.2 it (t4 _ ui).1).trans e
    rcases a with⟨_,⟨e1,a,_⟩|⟨e1,a,_⟩⟩
    .exact jS.keep (.inl ⟨e1,a⟩) kk
    .exact jS.keep (.inr ⟨e1,a⟩) kk
   .have yx:b<s.heap.objs.size:=by
     have hob:∃o,s.heap.get? b=some o:=by
      rcases afv.mp hb with e|hb
      .rw[e];exact⟨_,hz⟩
      .rcases afv.mp hb with e|hb
       .rw[e];exact⟨_,yw⟩
       .rcases afv.mp hb with e|hb
        .rw[e];exact⟨_,zL⟩
        .obtain⟨m,hm⟩:=aga hb;have M9:m<ps.length:=by rw[<-D.len];exact(afd.mp hm).1
         obtain⟨o,ho,_⟩:=(mr m ps[m] b (afi M9) hm).obj;exact⟨o,ho⟩
     obtain⟨o,ho⟩:=hob;exact afT ho
    rw[ao (agw yx)];exact(hf b hb).1
 done:=by
  intro X hP hw hK hc i pins s σ H E I hf st hg;subst hP hw hK;obtain⟨hz,yw,⟨old,DQ,zL⟩,mr⟩:=st;obtain⟨gI,p0,Qw,xs0,Zt,Zx⟩:=hg;have MX:=D.ap s.heap;have GO:((ps.zip aR).map (iN s.heap)).length=ps.length:=by rw[ae9,ak5,D.len];omega
  have Ou:i5 s.heap TI (((ps.zip aR).map (iN s.heap)).map fun c=>afZ c.it):=by
   rw[ag4];rw[show((fun c:ue=>afZ c.it)∘iN s.heap)=(fun q:ud×afb=>afZ q.2)from rfl,show((ps.zip aR).map fun q=>afZ q.2)=((ps.zip aR).map (·.2)).map afZ from by rw[ag4];rfl,xQ D.len];exact yw
  have r8:∀c∈(ps.zip aR).map (iN s.heap),c.At s.heap i:=fun c hc=>by
   obtain⟨q,hq,rfl⟩:=afH.mp hc;obtain⟨m,hm⟩:=aga hq;obtain⟨h1,h2⟩:=(t9 D.len).mp hm;obtain⟨xs,hs⟩:=gI q.1 (afo h1);exact Jh I hs (mr m q.1 q.2 h1 h2) (fun e=>D.sr q.1 (afo h1) q.2 (by simp[afo h2]) e.symm)
  have Wj:∃c∈(ps.zip aR).map (iN s.heap),c.items[i]? =none:=by
   obtain⟨m,hm⟩:=aga Qw;have M9:m<aR.length:=by rw[D.len];exact(afd.mp hm).1
   refine⟨iN s.heap (p0,aR[m]),afH.mpr ⟨(p0,aR[m]),afo ((t9 D.len).mpr ⟨hm,afi M9⟩),rfl⟩,?_⟩;obtain⟨iv,rv,e,_⟩:=Zt.cG I;show(jf s.heap p0.2)[i]? =none;rw[e];have:=rv.length;simp;omega
  refine Gu (I.ok.hd hc) MX (by rw[GO];exact D.Gy) hz Ou zL (by rw[GO];exact DQ) r8 Wj fun h' hk=>⟨rfl,I.Mi (t':=s.toks) (ch:=z::TI::TO::aR) (fun b o hb e=>hk b o (fun q=>hb (by simp[q])) (fun q=>hb (by simp[q])) (fun c ui q=>hb ?_) e) hf⟩
  obtain⟨y,hy,rfl⟩:=afH.mp ui;rw[q];exact afs _ (afs _ (afs _ (ah1 hy).2))
 self:=fun A i s Q E st h=>akI st.1 h
abbrev uq(l:afb):Obj:={cls:= .type "list_iterator",data:= .fields #[.ref l,.int 0 0]}
abbrev KA(l:afb):Obj:={cls:= .type "tuple_iterator",data:= .fields #[.ref l,.int 0 0]}
abbrev xR(h:age)(nk:List afe)(TI TO:afb):age:=((h.push {cls:= .type "tuple",data:= .seq nk.toArray}).push {cls:= .type "tuple",data:= .seq (nk.map fun _=>ahQ).toArray}).push {cls:= .type "zip",data:= .fields #[.none,.bool false,.bool false,.ref TI,.ref TO]}
theorem JX(a b c:afe):checkTypeCall "zip" ⟨[a,b,c],[]⟩=pure ():=by kernel_rfl
theorem JZ(a b c:afe):checkBuiltinCall "zip.__new__" ⟨[.type "zip",a,b,c],[]⟩=pure ():=by kernel_rfl
theorem JV(o a b c:afe):argsOk "object.__init__" ⟨[o,a,b,c],[]⟩:=by
 unfold argsOk;rw[signature?_of (id:="object.__init__") (n:=['_','_','t','i','n','i','_','_']) (o:=['t','c','e','j','b','o']) (by kernel_rfl) amR];kernel_rfl
abbrev Kh(h:age)(a b c:afb):age:=((h.push (uq a)).push (uq b)).push (uq c)
theorem He(a b c:afb)(xs ys zs:Array afe):
  Meets (aj1.«zip.__new__» ⟨[.type "zip",.ref a,.ref b,.ref c],[]⟩) (fun _ R s=>s.heap.IsList a xs/\s.heap.IsList b ys/\s.heap.IsList c zs/\
   R (.ok (.ret (.ref (s.heap.objs.size+5)))) {s with heap:=xR (Kh s.heap a b c) [.ref s.heap.objs.size,.ref (s.heap.objs.size+1),.ref (s.heap.objs.size+2)] (s.heap.objs.size+3) (s.heap.objs.size+4)}):=
 .of_wp fun prog w A R s h=>by
  obtain⟨hp,g,d,tk,os⟩:=s;obtain⟨h1,h2,h3,h⟩:=h;have OG:=sub_zip;have k1:akn (ajG ⟨hp,g,d,tk,os⟩) a xs:=h1;have k2:akn (ajG ⟨hp.push (uq a),g,d,tk,os⟩) b ys:=amr h2 _;have k3:akn (ajG ⟨(hp.push (uq a)).push (uq b),g,d,tk,os⟩) c zs:=(amr h3 _).push _
  wp_walk using aho k1,aho k2,aho k3
  refine⟨_,rfl,?_⟩;simp only[agf];exact h
theorem JW(a b:afe):checkTypeCall "zip" ⟨[a,b],[]⟩=pure ():=by kernel_rfl
theorem JY(a b:afe):checkBuiltinCall "zip.__new__" ⟨[.type "zip",a,b],[]⟩=pure ():=by kernel_rfl
theorem Eb(a b:afb)(xs ys:Array afe):
  Meets (aj1.«zip.__new__» ⟨[.type "zip",.ref a,.ref b],[]⟩) (fun _ R s=>s.heap.IsList a xs/\s.heap.IsTuple b ys/\
   R (.ok (.ret (.ref (s.heap.objs.size+4)))) {s with heap:=xR ((s.heap.push (uq a)).push (KA b)) [.ref s.heap.objs.size,.ref (s.heap.objs.size+1)] (s.heap.objs.size+2) (s.heap.objs.size+3)}):=
 .of_wp fun prog w A R s h=>by
  obtain⟨hp,g,d,tk,os⟩:=s;obtain⟨h1,h2,h⟩:=h;have OG:=sub_zip;have k1:akn (ajG ⟨hp,g,d,tk,os⟩) a xs:=h1;have k2:Heap.IsTuple (ajG ⟨hp.push (uq a),g,d,tk,os⟩) b ys:=an3 h2 _
  wp_walk using aho k1,alM k2
  refine⟨_,rfl,?_⟩;simp only[agf];exact h
theorem Di(h:age)(nk:List afe)(TI TO z n:afb)(hn:h.objs.size=n)(e1:TI=n)(e2:TO=n+1)(e3:z=n+2):akH (xR h nk TI TO) z TI TO .none/\i5 (xR h nk TI TO) TI nk/\i5 (xR h nk TI TO) TO (nk.map fun _=>ahQ):=by
 subst e1 e2 e3;subst hn;have z1:(h.push {cls:= .type "tuple",data:= .seq nk.toArray}).objs.size=h.objs.size+1:=agf ..;have z2:((h.push {cls:= .type "tuple",data:= .seq nk.toArray}).push {cls:= .type "tuple",data:= .seq (nk.map fun _=>ahQ).toArray}).objs.size=h.objs.size+2:=by rw[agf,z1]
 refine⟨?_,afk _ (afk _ (afG _ rfl)),?_⟩
 .show(xR h nk h.objs.size (h.objs.size+1)).get? (h.objs.size+2)=_;rw[<-z2];exact afG _ rfl
 .show(xR h nk h.objs.size (h.objs.size+1)).get? (h.objs.size+1)=_;rw[<-z1];exact afk _ (afG _ rfl)
theorem nP{nk:List afe}{TI TO:afb}{o:Obj}(e:h.get? b=some o):(xR h nk TI TO).get? b=some o:=afk _ (afk _ (afk _ e))
theorem Dz{c:afb}{xs ys zs:Array afe}(h1:s.heap.IsList a xs)(h2:s.heap.IsList b ys)(h3:s.heap.IsList c zs)
  (h:Q (.ref (s.heap.objs.size+5)) {s with heap:=xR (Kh s.heap a b c) [.ref s.heap.objs.size,.ref (s.heap.objs.size+1),.ref (s.heap.objs.size+2)] (s.heap.objs.size+3) (s.heap.objs.size+4)}):
  wpAny (model P w) A (call (.type "zip") [.ref a,.ref b,.ref c]) Q E s:=by
 have tz:=(Di (Kh s.heap a b c) [.ref s.heap.objs.size,.ref (s.heap.objs.size+1),.ref (s.heap.objs.size+2)] (s.heap.objs.size+3) (s.heap.objs.size+4) (s.heap.objs.size+5) (s.heap.objs.size+3) (by simp only[agf]) rfl rfl rfl).1;exact callType_new F.called_zip (by decide) (JX _ _ _) (JZ _ _ _) (fun obj=>JV obj _ _ _) amB (He a b c xs ys zs) ⟨h1,h2,h3,⟨_,tz,rfl⟩,h⟩
theorem zV{xs ys:Array afe}(h1:s.heap.IsList a xs)(h2:s.heap.IsTuple b ys)
  (h:Q (.ref (s.heap.objs.size+4)) {s with heap:=xR ((s.heap.push (uq a)).push (KA b)) [.ref s.heap.objs.size,.ref (s.heap.objs.size+1)] (s.heap.objs.size+2) (s.heap.objs.size+3)}):
  wpAny (model P w) A (call (.type "zip") [.ref a,.ref b]) Q E s:=by
 have tz:=(Di ((s.heap.push (uq a)).push (KA b)) [.ref s.heap.objs.size,.ref (s.heap.objs.size+1)] (s.heap.objs.size+2) (s.heap.objs.size+3) (s.heap.objs.size+4) (s.heap.objs.size+2) (by simp only[agf]) rfl rfl rfl).1;exact callType_new F.called_zip (by decide) (JW _ _) (JY _ _) (fun obj=>F.args_object_init_3 obj _ _) amB (Eb a b xs ys) ⟨h1,h2,⟨_,tz,rfl⟩,h⟩
inductive GZ(K:afU)(R:It->Hp->Prop)(vs:List V)(H1:Hp):Prop|m:∀a b c xs ys zs,vs=[.ref a,.ref b,.ref c]->aJ K H1 a xs->aJ K H1 b ys->aJ K H1 c zs->R (vP K [(false,a),(false,b),(false,c)]) H1->GZ K R vs H1
def Sl(K:afU)(ta:TA):TI:=fun σ H R=>ta σ H fun vs H1=>GZ K R vs H1
inductive Cj(K:afU)(R:It->Hp->Prop)(vs:List V)(H1:Hp):Prop|m:∀a b xs ys,vs=[.ref a,.ref b]->aJ K H1 a xs->gF K H1 b ys->R (vP K [(false,a),(true,b)]) H1->Cj K R vs H1
def OI(K:afU)(ta:TA):TI:=fun σ H R=>ta σ H fun vs H1=>Cj K R vs H1
section
variable{ta:TA}
theorem Ln{e3:agP}(hg:Gl X "zip")(hm:X.mg "zip"=none)(ha:PA X [e,e2,e3] ta)
  (hs:starEach [e,e2,e3] X.env=(false,eval e X.env)::starEach [e2,e3] X.env:=by rfl) (kf:(backTo pos (starEach [e2,e3] X.env)).any (·.1)=false:=by rfl):
  PI X (.Tuple js kk jc) (.Call (.Name "zip" p) [e,e2,e3] [] pos) (Sl X.K ta):=by
 intro pins s σ H R I h;refine Call_ (j0 I hg hm uI (ag2 (cK (ha pos pins s σ H _ I h) fun us s1 ⟨vs,H1,I1,r1,q1⟩=> ?_) hs kf));obtain⟨a,b,c,xs,ys,zs,rfl,ka,kb,kc,q⟩:=q1;obtain⟨ia,va,pa,_⟩:=I1.list ka;obtain⟨ib,vb,pb,_⟩:=I1.list kb;obtain⟨ic,vc,pc,_⟩:=I1.list kc;have la:a<s1.heap.objs.size:=pa.lt;have lb:b<s1.heap.objs.size:=pb.lt;have lc:c<s1.heap.objs.size:=pc.lt;cases r1 with
 |cons r rr=>
 cases rr with
 |cons r' rr=>
 cases rr with
 |cons Xx rr=>
 cases rr;cases r;cases r';cases Xx;obtain⟨z1,z2,z3⟩:=Di (Kh s1.heap a b c) [.ref s1.heap.objs.size,.ref (s1.heap.objs.size+1),.ref (s1.heap.objs.size+2)] (s1.heap.objs.size+3) (s1.heap.objs.size+4) (s1.heap.objs.size+5) (s1.heap.objs.size+3) (by simp only[agf]) rfl rfl rfl;refine Dz pa.isList pb.isList pc.isList (akI z1 ?_);have old:∀b' o,s1.heap.get? b'=some o->(xR (Kh s1.heap a b c) [.ref s1.heap.objs.size,.ref (s1.heap.objs.size+1),.ref (s1.heap.objs.size+2)] (s1.heap.objs.size+3) (s1.heap.objs.size+4)).get? b'=some o:=fun b' o e=>nP (afk _ (afk _ (afk _ e)))
 have i1:(xR (Kh s1.heap a b c) [.ref s1.heap.objs.size,.ref (s1.heap.objs.size+1),.ref (s1.heap.objs.size+2)] (s1.heap.objs.size+3) (s1.heap.objs.size+4)).IsListIter s1.heap.objs.size a 0:=⟨_,nP (afk _ (afk _ (afG _ rfl))),rfl,rfl⟩;have MS:(s1.heap.push (uq a)).objs.size=s1.heap.objs.size+1:=agf ..;have VE:((s1.heap.push (uq a)).push (uq b)).objs.size=s1.heap.objs.size+2:=by rw[agf,MS]
 have i2:(xR (Kh s1.heap a b c) [.ref s1.heap.objs.size,.ref (s1.heap.objs.size+1),.ref (s1.heap.objs.size+2)] (s1.heap.objs.size+3) (s1.heap.objs.size+4)).IsListIter (s1.heap.objs.size+1) b 0:=by
  refine⟨uq b,nP (afk _ ?_),rfl,rfl⟩;rw[<-MS];exact afG _ rfl
 have i3:(xR (Kh s1.heap a b c) [.ref s1.heap.objs.size,.ref (s1.heap.objs.size+1),.ref (s1.heap.objs.size+2)] (s1.heap.objs.size+3) (s1.heap.objs.size+4)).IsListIter (s1.heap.objs.size+2) c 0:=by
  refine⟨uq c,nP ?_,rfl,rfl⟩;rw[<-VE];exact afG _ rfl
 have I2:bb X pins σ H1 {s1 with heap:=xR (Kh s1.heap a b c) [.ref s1.heap.objs.size,.ref (s1.heap.objs.size+1),.ref (s1.heap.objs.size+2)] (s1.heap.objs.size+3) (s1.heap.objs.size+4)}:=I1.kept (t':=s1.toks) old;generalize hn:s1.heap.objs.size=n at*;have D:QS (n+5) (n+3) (n+4) [(false,a),(false,b),(false,c)] [n,n+1,n+2]:=by
  refine⟨rfl,?_,fun q hq b' yx=> ?_,by simp,by show 3<=100;decide⟩
  .simp only[afE,afv,akD,or_false,akt,akk,and_true,alo];simp
  .have Cd:q.2<n:=by
    have:q=(false,a)\/q=(false,b)\/q=(false,c):=by simpa using hq
    rcases this with e|e|e<;>rw[e]<;>assumption
   have Wb:n<=b':=by
    have:b'=n+5\/b'=n+3\/b'=n+4\/b'=n\/b'=n+1\/b'=n+2:=by simpa using yx
    rcases this with e|e|e|e|e|e<;>rw[e]<;>first|exact afn _|exact agN _ _
   exact agw (agi Cd Wb)
 refine⟨n+5,_,_,_,H1,rfl,I2,vJ D,⟨z1,z2,⟨_,rfl,z3⟩,fun m p it hp hi=> ?_⟩,fun c' ui=> ?_,q⟩
 .match m,hp,hi with
  |0,hp,hi=>cases(aft hp);cases(aft hi);exact .inr ⟨rfl,i1⟩
  |1,hp,hi=>cases(aft hp);cases(aft hi);exact .inr ⟨rfl,i2⟩
  |2,hp,hi=>cases(aft hp);cases(aft hi);exact .inr ⟨rfl,i3⟩
  |m+3,hp,hi=>simp at hp
 .have qm:s1.heap.objs.size<=c':=by
   rw[hn];have:c'=n+5\/c'=n+3\/c'=n+4\/c'=n\/c'=n+1\/c'=n+2:=by simpa using ui
   rcases this with e|e|e|e|e|e<;>rw[e]<;>first|exact afn _|exact agN _ _
  exact I1.wg qm (I1.dc.fresh qm)
theorem Io(hg:Gl X "zip")(hm:X.mg "zip"=none)(ha:PA X [e,e2] ta)
  (hs:starEach [e,e2] X.env=(false,eval e X.env)::starEach [e2] X.env:=by rfl) (kf:(backTo pos (starEach [e2] X.env)).any (·.1)=false:=by rfl):
  PI X (.Tuple js kk jc) (.Call (.Name "zip" p) [e,e2] [] pos) (OI X.K ta):=by
 intro pins s σ H R I h;refine Call_ (j0 I hg hm uI (ag2 (cK (ha pos pins s σ H _ I h) fun us s1 ⟨vs,H1,I1,r1,q1⟩=> ?_) hs kf));obtain⟨a,b,xs,ys,rfl,ka,kb,q⟩:=q1;obtain⟨ia,va,pa,_⟩:=I1.list ka;obtain⟨ib,vb,pb,_⟩:=I1.tuple kb;have la:a<s1.heap.objs.size:=pa.lt;have lb:b<s1.heap.objs.size:=by obtain⟨_,e,_⟩:=pb;exact afT e
 cases r1 with
 |cons r rr=>
 cases rr with
 |cons r' rr=>
 cases rr;cases r;cases r';obtain⟨z1,z2,z3⟩:=Di ((s1.heap.push (uq a)).push (KA b)) [.ref s1.heap.objs.size,.ref (s1.heap.objs.size+1)] (s1.heap.objs.size+2) (s1.heap.objs.size+3) (s1.heap.objs.size+4) (s1.heap.objs.size+2) (by simp only[agf]) rfl rfl rfl;refine zV (ys:=ib.toArray) pa.isList pb (akI z1 ?_);have old:∀b' o,s1.heap.get? b'=some o->(xR ((s1.heap.push (uq a)).push (KA b)) [.ref s1.heap.objs.size,.ref (s1.heap.objs.size+1)] (s1.heap.objs.size+2) (s1.heap.objs.size+3)).get? b'=some o:=fun b' o e=>nP (afk _ (afk _ e))
 have i1:(xR ((s1.heap.push (uq a)).push (KA b)) [.ref s1.heap.objs.size,.ref (s1.heap.objs.size+1)] (s1.heap.objs.size+2) (s1.heap.objs.size+3)).IsListIter s1.heap.objs.size a 0:=⟨_,nP (afk _ (afG _ rfl)),rfl,rfl⟩;have MS:(s1.heap.push (uq a)).objs.size=s1.heap.objs.size+1:=agf ..;have i2:(xR ((s1.heap.push (uq a)).push (KA b)) [.ref s1.heap.objs.size,.ref (s1.heap.objs.size+1)] (s1.heap.objs.size+2) (s1.heap.objs.size+3)).IsTupleIter (s1.heap.objs.size+1) b 0:=by
  refine⟨KA b,nP ?_,rfl,rfl⟩;rw[<-MS];exact afG _ rfl
 have I2:bb X pins σ H1 {s1 with heap:=xR ((s1.heap.push (uq a)).push (KA b)) [.ref s1.heap.objs.size,.ref (s1.heap.objs.size+1)] (s1.heap.objs.size+2) (s1.heap.objs.size+3)}:=I1.kept (t':=s1.toks) old;generalize hn:s1.heap.objs.size=n at*;have D:QS (n+4) (n+2) (n+3) [(false,a),(true,b)] [n,n+1]:=by
  refine⟨rfl,?_,fun q hq b' yx=> ?_,by simp,by show 2<=100;decide⟩
  .simp only[afE,afv,akD,or_false,akt,akk,and_true,alo];simp
  .have Cd:q.2<n:=by
    have:q=(false,a)\/q=(true,b):=by simpa using hq
    rcases this with e|e<;>rw[e]<;>assumption
   have Wb:n<=b':=by
    have:b'=n+4\/b'=n+2\/b'=n+3\/b'=n\/b'=n+1:=by simpa using yx
    rcases this with e|e|e|e|e<;>rw[e]<;>first|exact afn _|exact agN _ _
   exact agw (agi Cd Wb)
 refine⟨n+4,_,_,_,H1,rfl,I2,vJ D,⟨z1,z2,⟨_,rfl,z3⟩,fun m p it hp hi=> ?_⟩,fun c' ui=> ?_,q⟩
 .match m,hp,hi with
  |0,hp,hi=>cases(aft hp);cases(aft hi);exact .inr ⟨rfl,i1⟩
  |1,hp,hi=>cases(aft hp);cases(aft hi);exact .inl ⟨rfl,i2⟩
  |m+2,hp,hi=>simp at hp
 .have qm:s1.heap.objs.size<=c':=by
   rw[hn];have:c'=n+4\/c'=n+2\/c'=n+3\/c'=n\/c'=n+1:=by simpa using ui
   rcases this with e|e|e|e|e<;>rw[e]<;>first|exact afn _|exact agN _ _
  exact I1.wg qm (I1.dc.fresh qm)
end
open PySem.W (WData Codec OpenSpec Well WellAll ReadsW ReadsAllW)
mutual
inductive Dw (K:afU) (H:Hp):V->ahB->Prop
 |gw:Dw K H .gw .none
 |bl (b:Bool):Dw K H (.bl b) (.bool b)
 |int (i:Int):Dw K H (.int i) (.int i)
 |str (x:Str):Dw K H (.str x) (.str x)
 |zI (b:Array UInt8):Dw K H (.zI b) (.bytes b.toList)
 |ba {a:afb} {xs:List V} {ds:List ahB}:aJ K H a xs->j9 K H xs ds->Dw K H (.ref a) (.list ds)
 |dY {a:afb} {xs:List V} {ds:List ahB}:gF K H a xs->j9 K H xs ds->Dw K H (.ref a) (.tuple ds)
inductive j9 (K:afU) (H:Hp):List V->List ahB->Prop
 |nil:j9 K H [] []
 |cons {v:V} {vs:List V} {d:ahB} {ds:List ahB}:Dw K H v d->j9 K H vs ds->j9 K H (v::vs) (d::ds)
end
theorem BU{K:afU}{H:Hp}:∀ns:List Int,j9 K H (ns.map V.int) (ns.map an4)
 | []=> .nil
 |n::r=> .cons (.int n) (BU r)
theorem Cf{K:afU}{H:Hp}:∀(ns:List Int) (xs:List V),j9 K H xs (ns.map an4)->xs=ns.map V.int
 | [],xs,h=>by
  cases h;rfl
 |n::r,xs,h=>by
  cases h with
  |cons h1 h2=>
   cases h1;rw[Cf r _ h2]<;>rfl
section
variable{R:amu}{cl:Str->Option afb}
theorem PU(dc:kE P w H h)(KX:K.In h)(q:aJ K H a xs):∃(aR:List afe) (o:Obj) (n:Nat),bo xs aR/\h.get? a=some o/\o.cls= .type "list"/\o.data= .seq aR.toArray n:=by
 rcases q with q|⟨o,aR,n,e,hc,_,hd,_,hv⟩
 .obtain⟨_,aR,n,hv,e⟩:=(show eP P w H h a (.ba xs)from q.ok dc);exact⟨aR,_,n,hv,e,rfl,rfl⟩
 .exact⟨aR.toList,o,n,hv,KX _ _ e,hc,by simp[hd]⟩
theorem PV(dc:kE P w H h)(KX:K.In h)(q:gF K H a xs):∃(aR:List afe) (o:Obj) (n:Nat),bo xs aR/\h.get? a=some o/\o.cls= .type "tuple"/\o.data= .seq aR.toArray n:=by
 rcases q with q|⟨o,aR,n,e,hc,hd,_,hv⟩
 .obtain⟨_,aR,hv,o,e,hc,n,hd⟩:=(show eP P w H h a (.dY xs)from q.ok dc);exact⟨aR,o,n,hv,e,hc,hd⟩
 .exact⟨aR.toList,o,n,hv,KX _ _ e,hc,by simp[hd]⟩
mutual
theorem Dw.qv(dc:kE P w H h)(KX:K.In h):∀(d:ahB) (v:V) (u:afe),Dw K H v d->bE v u->∃as,ReadsW R cl h u d as
 | .none,_,_,x,r=>by
  cases x;cases r;exact⟨_,ReadsW.none⟩
 | .bool b,_,_,x,r=>by
  cases x;cases r;exact⟨_,ReadsW.bool b⟩
 | .int i,_,_,x,r=>by
  cases x;obtain⟨t,rfl⟩:=r;exact⟨_,ReadsW.int i t⟩
 | .str s,_,_,x,r=>by
  cases x;obtain⟨t,rfl⟩:=r;exact⟨_,ReadsW.str s t⟩
 | .bytes b,_,_,x,r=>by
  cases x;obtain⟨t,rfl⟩:=r;exact⟨_,ReadsW.bytes _ t⟩
 | .list ds,_,_,x,r=>by
  cases x with
  |ba hs ha=>
   cases r;obtain⟨aR,o,n,rv,ho,hc,hd⟩:=PU dc KX hs;obtain⟨as,hr⟩:=Dw.i9 dc KX ds _ aR ha rv;exact⟨_,ReadsW.list ho hc hd hr⟩
 | .tuple ds,_,_,x,r=>by
  cases x with
  |dY hs ha=>
   cases r;obtain⟨aR,o,n,rv,ho,hc,hd⟩:=PV dc KX hs;obtain⟨as,hr⟩:=Dw.i9 dc KX ds _ aR ha rv;exact⟨_,ReadsW.tuple ho hc hd hr⟩
 | .float _,_,_,x,_=>by cases x
 | .dict _,_,_,x,_=>by cases x
 | .bytearray _,_,_,x,_=>by cases x
 | .set _,_,_,x,_=>by cases x
 | .frozenset _,_,_,x,_=>by cases x
 | .obj _ _,_,_,x,_=>by cases x
theorem Dw.i9(dc:kE P w H h)(KX:K.In h):∀(ds:List ahB) (vs:List V) (us:List afe),j9 K H vs ds->bo vs us->∃as,ReadsAllW R cl h us ds as
 | [],_,_,x,r=>by
  cases x;cases r;exact⟨_,ReadsAllW.nil⟩
 |d::ds,_,_,x,r=>by
  cases x with
  |cons h1 h2=>
   cases r with
   |cons r1 r2=>
    obtain⟨as,q1⟩:=Dw.qv dc KX d _ _ h1 r1;obtain⟨bs,q2⟩:=Dw.i9 dc KX ds _ _ h2 r2;exact⟨_,ReadsAllW.cons q1 q2⟩
end
end
mutual
def CF:ahB->Bool
 | .none=>true
 | .bool _=>true
 | .int _=>true
 | .str _=>true
 | .bytes _=>true
 | .list xs=>qL xs
 | .tuple xs=>qL xs
 |_=>false
def qL:List ahB->Bool
 | []=>true
 |x::r=>CF x&&qL r
end
theorem yZ{α:Type}{f:α->ahB}(h:∀a,CF (f a)=true):∀l:List α,qL (l.map f)=true
 | []=>rfl
 |x::r=>by
  show(CF (f x)&&qL (r.map f))=true;rw[h x,yZ h r]<;>rfl
theorem lA:∀(c:Codec) (a:c.denote),CF (c.enc a)=true
 | .unit,_=>rfl
 | .bool,_=>rfl
 | .int _ _,_=>rfl
 | .nat _ _,_=>rfl
 | .u8,_=>rfl
 | .bytes _ _,_=>rfl
 | .text _ _ _ _,_=>rfl
 | .list _ _ c,a=>yZ (fun x=>lA c x) a
 | .pair c d,a=>by
  show(CF (c.enc a.1)&&(CF (d.enc a.2)&&true))=true;rw[lA c a.1,lA d a.2]<;>rfl
 | .triple c d e,a=>by
  show(CF (c.enc a.1)&&(CF (d.enc a.2.1)&&(CF (e.enc a.2.2)&&true)))=true;rw[lA c a.1,lA d a.2.1,lA e a.2.2]<;>rfl
 | .option c,none=>rfl
 | .option c,some x=>lA c x
theorem vp:∀(cs:List Codec) (a:ajS cs),qL (ajl cs a)=true
 | [],_=>rfl
 |c::cs,a=>by
  show(CF (c.enc a.1)&&qL (ajl cs a.2))=true;rw[lA c a.1,vp cs a.2]<;>rfl
theorem nJ:∀{xs:List ahB} {d:ahB},d∈xs->d.weight<=ajT xs
 | [],d,h=>absurd h (by simp)
 |x::r,d,h=>by
  show d.weight<=x.weight+1+ajT r;rcases afv.mp h with e|m
  .rw[e];omega
  .have z:=nJ m;omega
def zr:afe->V
 | .none=> .gw
 | .bool b=> .bl b
 | .int i _=> .int i
 | .str x _=> .str x
 | .bytes b _=> .zI b
 | .ref a=> .ref a
 |_=> .gw
def Dn(A:List afb):afe->Prop
 | .none=>True
 | .bool _=>True
 | .int _ _=>True
 | .str _ _=>True
 | .bytes _ _=>True
 | .ref a=>a∈A
 |_=>False
theorem Dn.fJ{A B:List afb}(h:∀a∈A,a∈B):∀{u:afe},Dn A u->Dn B u:=fun{u} x=>by
 cases u with
 |ref a=>exact h a x
 |none=>trivial
 |bool b=>trivial
 |int i t=>trivial
 |str s t=>trivial
 |bytes b t=>trivial
 |_=>exact ahh x
theorem Iz{A:List afb}(x:Dn A u):bE (zr u) u:=by
 cases u with
 |ref a=>rfl
 |none=>rfl
 |bool b=>rfl
 |int i t=>exact⟨t,rfl⟩
 |str s t=>exact⟨t,rfl⟩
 |bytes b t=>exact⟨t,rfl⟩
 |_=>exact ahh x
theorem jP{A:List afb}:∀{vs:List afe},(∀u∈vs,Dn A u)->bo (vs.map zr) vs
 | [],_=> .nil
 |u::r,h=> .cons (Iz (h u (af2 ..))) (jP fun x hx=>h x (afs _ hx))
def j8(h:age)(A:List afb)(a:afb):Prop:=∃vs:List afe,vs.length<=sizeLine/\(∀u∈vs,Dn A u)/\
 (h.get? a=some {cls:= .type "list",data:= .seq vs.toArray}\/h.get? a=some {cls:= .type "tuple",data:= .seq vs.toArray})
theorem j8.fJ{h:age}{A B:List afb}{a:afb}(k:∀a∈A,a∈B)(x:j8 h A a):j8 h B a:=by
 obtain⟨vs,h1,h2,h3⟩:=x;exact⟨vs,h1,fun u hu=>(h2 u hu).fJ k,h3⟩
theorem jq{P:alu}{h:age}:∀{vs:List afe} {ds:List ahB},ak1 P h vs ds->vs.length=ds.length
 |_,_,.nil=>rfl
 |_,_,.cons _ b=>by
  show _+1=_+1;rw[jq b]
theorem vN{P:alu}(x:Well P h v (.list ds)):∃(a:afb) (vs:List afe),v= .ref a/\h.get? a=some {cls:= .type "list",data:= .seq vs.toArray}/\ak1 P h vs ds:=by
 cases x with
 |list ho gI=>exact⟨_,_,rfl,ho,gI⟩
theorem tT{P:alu}(x:Well P h v (.tuple ds)):∃(a:afb) (vs:List afe),v= .ref a/\h.get? a=some {cls:= .type "tuple",data:= .seq vs.toArray}/\ak1 P h vs ds:=by
 cases x with
 |tuple ho gI=>exact⟨_,_,rfl,ho,gI⟩
theorem vM{P:alu}{d:ahB}(x:ak1 P h us (d::ds)):∃(v:afe) (vs:List afe),us=v::vs/\Well P h v d/\ak1 P h vs ds:=by
 cases x with
 |cons a b=>exact⟨_,_,rfl,a,b⟩
theorem Ct(h:n<=1048576):n<=sizeLine:=afu h (by decide)
section
variable{P:alu}
mutual
theorem Fy:∀(d:ahB) (v:afe),Well P h v d->CF d=true->d.weight<=1048576->∃A:List afb,Dn A v/\∀a∈A,j8 h A a
 | .none,_,x,_,_=>by
  cases x;exact⟨[],trivial,fun a m=>absurd m (by simp)⟩
 | .bool b,_,x,_,_=>by
  cases x;exact⟨[],trivial,fun a m=>absurd m (by simp)⟩
 | .int i,_,x,_,_=>by
  cases x;exact⟨[],trivial,fun a m=>absurd m (by simp)⟩
 | .str s,_,x,_,_=>by
  cases x;exact⟨[],trivial,fun a m=>absurd m (by simp)⟩
 | .bytes b,_,x,_,_=>by
  cases x;exact⟨[],trivial,fun a m=>absurd m (by simp)⟩
 | .list ds,_,x,p,z=>by
  obtain⟨a,vs,rfl,ho,gI⟩:=vN x;have z2:ajT ds<=1048576:=z;obtain⟨A,h1,h2⟩:=og ds _ gI p fun d hd=>afu (nJ hd) z2
  have k:∀b∈A,b∈a::A:=fun b hb=>afs _ hb
  refine⟨a::A,af2 ..,fun b hb=> ?_⟩;rcases afv.mp hb with e|m
  .rw[e];exact⟨vs,Ct (by rw[jq gI];exact afu (ajU ds) z2),fun u hu=>(h1 u hu).fJ k,.inl ho⟩
  .exact(h2 b m).fJ k
 | .tuple ds,_,x,p,z=>by
  obtain⟨a,vs,rfl,ho,gI⟩:=tT x;have z2:ajT ds<=1048576:=z;obtain⟨A,h1,h2⟩:=og ds _ gI p fun d hd=>afu (nJ hd) z2
  have k:∀b∈A,b∈a::A:=fun b hb=>afs _ hb
  refine⟨a::A,af2 ..,fun b hb=> ?_⟩;rcases afv.mp hb with e|m
  .rw[e];exact⟨vs,Ct (by rw[jq gI];exact afu (ajU ds) z2),fun u hu=>(h1 u hu).fJ k,.inr ho⟩
  .exact(h2 b m).fJ k
 | .float _,_,_,p,_=>agO (show false=true from p)
 | .dict _,_,_,p,_=>agO (show false=true from p)
 | .bytearray _,_,_,p,_=>agO (show false=true from p)
 | .set _,_,_,p,_=>agO (show false=true from p)
 | .frozenset _,_,_,p,_=>agO (show false=true from p)
 | .obj _ _,_,_,p,_=>agO (show false=true from p)
theorem og:∀(ds:List ahB) (vs:List afe),ak1 P h vs ds->qL ds=true->(∀d∈ds,d.weight<=1048576)->∃A:List afb,(∀u∈vs,Dn A u)/\∀a∈A,j8 h A a
 | [],_,x,_,_=>by
  cases x;exact⟨[],fun u m=>absurd m (by simp),fun a m=>absurd m (by simp)⟩
 |d::ds,_,x,p,z=>by
  obtain⟨v,vs,rfl,x1,x2⟩:=vM x;have q:CF d=true/\qL ds=true:=alv.mp p;obtain⟨A,a1,a2⟩:=Fy d v x1 q.1 (z d (af2 ..));obtain⟨B,b1,b2⟩:=og ds vs x2 q.2 fun e he=>z e (afs _ he)
  have kA:∀b∈A,b∈A++B:=fun b hb=>afL.mpr (.inl hb)
  have kB:∀b∈B,b∈A++B:=fun b hb=>afL.mpr (.inr hb)
  refine⟨A++B,fun u hu=> ?_,fun b hb=> ?_⟩
  .rcases afv.mp hu with e|m
   .rw[e];exact a1.fJ kA
   .exact(b1 u m).fJ kB
  .rcases afL.mp hb with m|m
   .exact(a2 b m).fJ kA
   .exact(b2 b m).fJ kB
end
end
def Kr(o:Obj):Option HO:=match o.data with
 | .seq vs _=>if(o.cls==aiP "list")=true then some (.uh o (.ba (vs.toList.map zr)))else some (.uh o (.dY (vs.toList.map zr)))
 |_=>none
def jU(K:afU)(h:age)(A:List afb):Hp:=fun b=>if b∈A then(if(K.lookup b).isNone=true then(h.get? b).bind Kr else none)else none
def xW(H:Hp):Prop:=∀b,H b=none\/∃o u,H b=some (.uh o u)
theorem yA(vs:List afe):Kr {cls:= .type "list",data:= .seq vs.toArray}=some (.uh {cls:= .type "list",data:= .seq vs.toArray} (.ba (vs.map zr))):=by
 show(if(aiP "list"==aiP "list")=true then some (HO.uh {cls:= .type "list",data:= .seq vs.toArray} (.ba (vs.toArray.toList.map zr)))else some (HO.uh {cls:= .type "list",data:= .seq vs.toArray} (.dY (vs.toArray.toList.map zr))))=_;rw[afh (aht _)]
theorem yB(vs:List afe):Kr {cls:= .type "tuple",data:= .seq vs.toArray}=some (.uh {cls:= .type "tuple",data:= .seq vs.toArray} (.dY (vs.map zr))):=by
 show(if(aiP "tuple"==aiP "list")=true then some (HO.uh {cls:= .type "tuple",data:= .seq vs.toArray} (.ba (vs.toArray.toList.map zr)))else some (HO.uh {cls:= .type "tuple",data:= .seq vs.toArray} (.dY (vs.toArray.toList.map zr))))=_;rw[afc (by decide)]
section
variable{A:List afb}
theorem qO{o:Obj}(hb:b∈A)(hk:K.lookup b=none)(e:h.get? b=some o):jU K h A b=Kr o:=by
 unfold jU;rw[afh hb,hk,afh (show(none:Option Obj).isNone=true from rfl),e]<;>rfl
theorem KQ{u:HO}(q:jU K h A b=some u):b∈A/\K.lookup b=none:=by
 unfold jU at q;by_cases hb:b∈A
 .rw[afh hb]at q;cases hk:K.lookup b with
  |none=>exact⟨hb,rfl⟩
  |some o=>
   rw[hk,afc (by simp)]at q;cases q
 .rw[afc hb]at q;cases q
theorem qP(ar:∀a∈A,j8 h A a){u:HO}(q:jU K h A b=some u):K.lookup b=none/\∃vs:List afe,vs.length<=sizeLine/\(∀u∈vs,Dn A u)/\
  ((h.get? b=some {cls:= .type "list",data:= .seq vs.toArray}/\u= .uh {cls:= .type "list",data:= .seq vs.toArray} (.ba (vs.map zr)))\/
   (h.get? b=some {cls:= .type "tuple",data:= .seq vs.toArray}/\u= .uh {cls:= .type "tuple",data:= .seq vs.toArray} (.dY (vs.map zr)))):=by
 obtain⟨hb,hk⟩:=KQ q;obtain⟨vs,h1,h2,h3⟩:=ar b hb;refine⟨hk,vs,h1,h2,?_⟩;rcases h3 with e|e
 .rw[qO hb hk e,yA]at q;exact .inl ⟨e,(aft q).symm⟩
 .rw[qO hb hk e,yB]at q;exact .inr ⟨e,(aft q).symm⟩
theorem Dr(ar:∀a∈A,j8 h A a):xW (jU K h A):=fun b=>by
 cases q:jU K h A b with
 |none=>exact .inl rfl
 |some u=>
  obtain⟨_,vs,_,_,⟨_,e⟩|⟨_,e⟩⟩:=qP ar q
  .exact .inr ⟨_,_,by rw[e]⟩
  .exact .inr ⟨_,_,by rw[e]⟩
theorem JN(ar:∀a∈A,j8 h A a):kE P w (jU K h A) h:=fun b u q=>by
 obtain⟨_,vs,h1,h2,⟨e,rfl⟩|⟨e,rfl⟩⟩:=qP ar q
 .exact⟨e,by rw[ae9];exact h1,vs,_,jP h2,e⟩
 .exact⟨e,by rw[ae9];exact h1,vs,jP h2,_,e,rfl,_,rfl⟩
theorem rh{c c':afe}{vs:List afe}(e:(some {cls:=c,data:= .seq vs.toArray}:Option Obj)=some {cls:=c',data:= .seq us.toArray}):c=c'/\vs=us:=by
 have e1:=aft e;have e2:c=c':=congrArg Obj.cls e1;have e3:amU vs.toArray=amU us.toArray:=congrArg Obj.data e1;injection e3 with e4
 refine⟨e2,?_⟩;have e5:=congrArg alZ e4;simpa using e5
theorem UY(KX:K.In h)(ar:∀a∈A,j8 h A a){vs:List afe}(ha:a∈A)(e:h.get? a=some {cls:= .type "list",data:= .seq vs.toArray}):(∀u∈vs,Dn A u)/\aJ K (jU K h A) a (vs.map zr):=by
 obtain⟨us,h1,h2,h3⟩:=ar a ha;have hu:us=vs:=by
  rcases h3 with q|q
  .rw[e]at q;exact(rh q).2.symm
  .rw[e]at q;exact absurd (amV (rh q).1) (by decide)
 subst hu;refine⟨h2,?_⟩;cases hk:K.lookup a with
 |none=>exact .inl (.inr ⟨_,by rw[qO ha hk e,yA]⟩)
 |some o=>
  have e2:=KX a o hk;rw[e]at e2;obtain rfl:=aft e2;exact .inr ⟨_,us.toArray,_,hk,rfl,rfl,rfl,by rw[afJ];exact h1,by simpa using jP h2⟩
theorem UZ(KX:K.In h)(ar:∀a∈A,j8 h A a){vs:List afe}(ha:a∈A)(e:h.get? a=some {cls:= .type "tuple",data:= .seq vs.toArray}):(∀u∈vs,Dn A u)/\gF K (jU K h A) a (vs.map zr):=by
 obtain⟨us,h1,h2,h3⟩:=ar a ha;have hu:us=vs:=by
  rcases h3 with q|q
  .rw[e]at q;exact absurd (amV (rh q).1) (by decide)
  .rw[e]at q;exact(rh q).2.symm
 subst hu;refine⟨h2,?_⟩;cases hk:K.lookup a with
 |none=>exact .inl (.inr ⟨_,by rw[qO ha hk e,yB]⟩)
 |some o=>
  have e2:=KX a o hk;rw[e]at e2;obtain rfl:=aft e2;exact .inr ⟨_,us.toArray,_,hk,rfl,rfl,by rw[afJ];exact h1,by simpa using jP h2⟩
mutual
theorem Oh{Pm:alu}(KX:K.In h)(ar:∀a∈A,j8 h A a):∀(d:ahB) (v:afe),Well Pm h v d->CF d=true->Dn A v->Dw K (jU K h A) (zr v) d
 | .none,_,x,_,_=>by
  cases x;exact .gw
 | .bool b,_,x,_,_=>by
  cases x;exact .bl b
 | .int i,_,x,_,_=>by
  cases x;exact .int i
 | .str s,_,x,_,_=>by
  cases x;exact .str s
 | .bytes b,_,x,_,_=>by
  cases x;have z:=Dw.zI (K:=K) (H:=jU K h A) b.toArray;exact z
 | .list ds,_,x,p,hu=>by
  obtain⟨a,vs,rfl,ho,gI⟩:=vN x;obtain⟨h2,hs⟩:=UY KX ar hu ho;exact .ba hs (wc KX ar ds _ gI p h2)
 | .tuple ds,_,x,p,hu=>by
  obtain⟨a,vs,rfl,ho,gI⟩:=tT x;obtain⟨h2,hs⟩:=UZ KX ar hu ho;exact .dY hs (wc KX ar ds _ gI p h2)
 | .float _,_,_,p,_=>agO (show false=true from p)
 | .dict _,_,_,p,_=>agO (show false=true from p)
 | .bytearray _,_,_,p,_=>agO (show false=true from p)
 | .set _,_,_,p,_=>agO (show false=true from p)
 | .frozenset _,_,_,p,_=>agO (show false=true from p)
 | .obj _ _,_,_,p,_=>agO (show false=true from p)
theorem wc{Pm:alu}(KX:K.In h)(ar:∀a∈A,j8 h A a):∀(ds:List ahB) (vs:List afe),ak1 Pm h vs ds->qL ds=true->(∀u∈vs,Dn A u)->j9 K (jU K h A) (vs.map zr) ds
 | [],_,x,_,_=>by
  cases x;exact .nil
 |d::ds,_,x,p,hu=>by
  obtain⟨v,vs,rfl,x1,x2⟩:=vM x;have q:CF d=true/\qL ds=true:=alv.mp p;exact .cons (Oh KX ar d v x1 q.1 (hu _ (af2 ..))) (wc KX ar ds vs x2 q.2 fun u m=>hu u (afs _ m))
end
end
theorem E4{mb:Str->Option afe}{k:Nat}{fa:afb}{sp:Sp}{s₁:afA}{uz:List afe}{R:amu}{cl:Str->Option afb}{d0:ahB}
  (KX:K.In s₁.heap) (qF:s₁.heap.Ns mainGlobals mg) (hb:s₁.heap.Ns builtinsNs mb) (hbb:∀x:Str,x≠"__name__"->mb x=bootBuiltins x) (Wv:s₁.heap.NoLimit) (hg:s₁.gens= #[])
  (DS:ak1 w.params s₁.heap uz ds) (kf:qL ds=true) (hwt:∀d∈ds,d.weight<=1048576) (hr:fF k callerA)
  (F:∀base:age,K.In base->base.Ns mainGlobals mg->aT P w K mg base CX k fa fd ps sp) (RL:∀(s:afA) (us:List afe),us.length=ps.length->al4 s fd ⟨us,[]⟩ (ps.zip us)) (bY:ds.length=ps.length)
  (DR:∀(H:Hp) (xs:List V),xW H->j9 K H xs ds->sp xs H (fun v H'=>Dw K H' v d0) fun _ _ _=>False)
  (Rz:∀H e s',CX [] H s₁ (fun _ _ _=>False) e s'->False):
  codeAny (model P w) callerA (.call (.ref fa) ⟨uz,[]⟩) (fun r s'=>∃u as,r= .ok (.ret u)/\ReadsW R cl s'.heap u d0 as/\OldK s₁.heap s'.heap/\s'.os=s₁.os/\aly s'.gens) s₁:=by
 obtain⟨A,ho,ar⟩:=og ds uz DS kf hwt;have hO:xW (jU K s₁.heap A):=Dr ar;have dc:kE P w (jU K s₁.heap A) s₁.heap:=JN ar;have hS:=wc KX ar ds uz DS kf ho;have hV:=jP ho;have hK:∀b u,jU K s₁.heap A b=some u->K.lookup b=none:=fun b u q=>(qP ar q).1
 have QA:∀{b:afb} {o:Obj} {es:Array anv} {ep:Nat},s₁.heap.get? b=some o->o.data= .dict es ep->jU K s₁.heap A b=none:=fun{b o es ep} e d=>by
  cases q:jU K s₁.heap A b with
  |none=>rfl
  |some u=>
   obtain⟨_,vs,_,_,⟨e2,_⟩|⟨e2,_⟩⟩:=qP ar q
   .rw[e2]at e;cases e;have d':amU vs.toArray _=Data.dict es ep:=d;cases d'
   .rw[e2]at e;cases e;have d':amU vs.toArray _=Data.dict es ep:=d;cases d'
 generalize jU K s₁.heap A=H at hO dc hS hK QA;have base_of:∀{b:afb} {o:Obj},s₁.heap.get? b=some o->H b=none->(wu s₁.heap H).get? b=some o:=fun e n=>GH e n
 have Ux:∀{b:afb} {m:Str->Option afe},s₁.heap.Ns b m->(wu s₁.heap H).Ns b m:=fun{b m} ⟨o,es,ep,e,d,r⟩=>⟨o,es,ep,base_of e (QA e d),d,r⟩
 have nK:∀b o,K.lookup b=some o->H b=none:=fun b o e=>by
  cases q:H b with
  |none=>rfl
  |some u=>
   rw[hK b u q]at e;cases e
 have YT:K.In (wu s₁.heap H):=fun b o e=>base_of (KX b o e) (nK b o e)
 have hM:Mod K mg (wu s₁.heap H):=⟨YT,Ux qF,⟨mb,Ux hb,hbb⟩,let⟨mc,h1,h2⟩:=Wv;⟨mc,Ux h1,h2⟩⟩;have e0:zO P w K mg (wu s₁.heap H) callerA [] s₁ H:=⟨rfl,hM,fun b o e=>KR e,akQ (DP _ _),trivial,fun b hb=>absurd (show b∈([]:List afb)from hb) (by simp),dc,.of_eq hg⟩;have hl:uz.length=ps.length:=by rw[jq DS];exact bY
 refine ai4 ((F _ YT (Ux qF)).run callerA [] s₁ H ⟨uz,[]⟩ uz (uz.map zr) _ _ hr e0 (RL s₁ uz hl) hV (DR H _ hO hS)) fun r s' x=> ?_
 cases r with
 |error e=>exact(Rz H e s' x).elim
 |ok fl=>
  cases fl with
  |next=>exact ahh x
  |brk=>exact ahh x
  |cont=>exact ahh x
  |ret u=>
   obtain⟨v,H',os,bare,un,R6,r',q⟩:=x;have kept:∀b o,s₁.heap.get? b=some o->s'.heap.get? b=some o:=fun b o e=>by
    cases q2:H b with
    |none=>exact un.keep b o e q2 (by intro z;exact absurd (show b∈([]:List afb)from z) (by simp)) (by simp)
    |some u2=>
     rcases hO b with z|⟨ob,u3,z⟩
     .rw[q2]at z;cases z
     .have z2:=un.frzs b ob _ z;obtain⟨e1,_⟩:=dc b _ z;obtain⟨e2,_⟩:=R6 b _ z2;rw[e]at e1;cases e1;exact e2
   have KX':K.In s'.heap:=fun b o e=>kept b o (KX b o e)
   obtain⟨as,Zq⟩:=Dw.qv (R:=R) (cl:=cl) R6 KX' d0 v u q r';exact⟨u,as,rfl,Zq,OldK.of_keep kept,os,bare⟩
theorem sk(h:WData.layableAll ds=true):∀d∈ds,d.weight<=1048576:=fun d hd=>
 (PySem.W.layableW_iff.mp (af4.mp h d hd)).2.2
theorem rR:∀(cs:List Codec) (a:ajS cs),(ajl cs a).length=cs.length
 | [],_=>rfl
 |c::cs,a=>by
  show(ajl cs a.2).length+1=cs.length+1;rw[rR cs a.2]
theorem Fi{r:OpenSpec}{k:Nat}{q:afz}{loose:List Str}{XP:(Str->Option afe)->age->Prop}{YP:af3->age->Prop}{d:DefRec}{K:alu->afU}{CX:af3->uc}{sp:af3->Sp}
  (GN:r.wellSaid=true) (Y6:d.params.defaults=[]) (bY:r.args.length=ps.length) (hr:fF k callerA)
  (hY:∀(w:af3) (h:age),YP w h->(K w.params).In h)
  (F:∀(w:af3) (mg:Str->Option afe) (fa:afb) (h:age),YP w h->(K w.params).In h->h.Ns mainGlobals mg->mg d.name=some (.ref fa)->
   ∃fd:afC,(∀(s:afA) (us:List afe),us.length=ps.length->al4 s fd ⟨us,[]⟩ (ps.zip us))/\
    ∀base:age,(K w.params).In base->base.Ns mainGlobals mg->aT r.prog w (K w.params) mg base (CX w) k fa fd ps (sp w))
  (DR:∀(w:af3) (H:Hp) (xs:List V) (a:ajS r.args),xW H->amE r.args a=true->alC r.args r.asked a=true->j9 (K w.params) H xs (ajl r.args a)->
   sp w xs H (fun v H'=>Dw (K w.params) H' v (r.ret.enc (alC r.args r.f a))) fun _ _ _=>False)
  (Rz:∀(w:af3) (H:Hp) (s:afA) (e:afe) (s':afA),CX w [] H s (fun _ _ _=>False) e s'->False):
  amW q loose XP YP r d [] (fun f vs=>an1 f vs):=by
 intro w s_0 s₁ mg mb G Y fa o pm cd doc dV kV ho hd JB hD Wx hg args uz as Ks Wt Zq DS hlo;obtain⟨a,e1,e2⟩:=PySem.W.os_pre_some Ks;obtain⟨e3,Ul⟩:=Codec.encAll_of_decAll r.args args a e1;subst e3;have KX:=hY w _ Y;obtain⟨fd,hb,hF⟩:=F w mg fa _ Y KX G.T.g Wx;refine PySem.W.enter_call (ai4 (E4 (R:=[]) (cl:=classAt s_0.heap) (d0:=r.ret.enc (alC r.args r.f a)) KX G.T.g G.T.b G.T.builtins G.T.nolimit hg DS (vp _ _) (sk Wt) hr hF hb (by rw[rR];exact bY)
  (fun H xs hO hS=>DR w H xs a hO Ul e2 hS) fun H e s'=>Rz w H s₁ e s') fun r' s' hq=> ?_)
 obtain⟨u,JO,rfl,h1,h2,h3,h4⟩:=hq;exact⟨.inl ⟨u,_,JO,rfl,fun _=>rfl,h1,(OpenSpec.post_iff GN Ul _ _).mpr rfl,fun z=>agO (show false=true from z)⟩,h2,h3,h4⟩
theorem Be{r:OpenSpec}{k:Nat}{q:afz}{loose:List Str}{XP:(Str->Option afe)->age->Prop}{YP:af3->age->Prop}{d:DefRec}{K:alu->afU}{sp:afU->Sp}
  (GN:r.wellSaid=true) (Y6:d.params.defaults=[]) (bY:r.args.length=ps.length) (hr:fF k callerA)
  (hY:∀(w:af3) (h:age),YP w h->(K w.params).In h)
  (F:∀(w:af3) (mg:Str->Option afe) (fa:afb) (h:age),YP w h->(K w.params).In h->h.Ns mainGlobals mg->mg d.name=some (.ref fa)->
   ∃fd:afC,(∀(s:afA) (us:List afe),us.length=ps.length->al4 s fd ⟨us,[]⟩ (ps.zip us))/\
    ∀base:age,(K w.params).In base->base.Ns mainGlobals mg->aT r.prog w (K w.params) mg base CX k fa fd ps (sp (K w.params)))
  (DR:∀(K:afU) (H:Hp) (xs:List V) (a:ajS r.args),xW H->amE r.args a=true->alC r.args r.asked a=true->j9 K H xs (ajl r.args a)->
   sp K xs H (fun v H'=>Dw K H' v (r.ret.enc (alC r.args r.f a))) fun _ _ _=>False)
  (Rz:∀(H:Hp) (s:afA) (e:afe) (s':afA),CX [] H s (fun _ _ _=>False) e s'->False):
  amW q loose XP YP r d [] (fun f vs=>an1 f vs):=
 Fi (K:=K) (CX:=fun _=>CX) (sp:=fun w=>sp (K w.params)) GN Y6 bY hr hY F (fun w H xs a h1 h2 h3 h4=>DR (K w.params) H xs a h1 h2 h3 h4) fun _ H s e s'=>Rz H s e s'
end L2
namespace FE
open PySem PySem.Spec PyProof.Rows L2 FM
open PySem.W (Frag fnOf keepIn mg_of findIn nsIn emptyDict plainGet hasDictIn isFn makesIn codeIn plainOver)
open Vbdhag (Book nat numberOf entryAt allSenses Change position putBehind bookOf hasEntry changeTold two entryOf decimal kept history lengthOf empty onSense outOf hasSense putEntry inEntry entryNames Sense Call wrong dead pair senseLine changesOf stepNumbers patched bytesOf changes cutAt)
variable{N N' e em i j n p sm:Nat}{P:afz}{X:Cx}{x:afm}{te:TE}{pos:Pos}{w:af3}{K:afU}{mg:Str->Option afe}{base:age}{st:afP}{C CB CH D R a b c f fI fb fc fe fh fp h q u:afb}{fd fR fZ fO f9 fX fY gg:afC}{ps:List Str}{sp:Sp}{ks ks' l t:List Nat}{o:HO}{ns r:List Int}{m p0 p1 p2:Str}{S:afl}{H H' H1 H2:Hp}{d d':BA}{FZ cZ as rs ts:List afb}{B B':af8}{aQ:List (br×V)}{f':Nat->V}{xs:List V}{σ:L2.St}{z:Int}
theorem cF{N P:List Str}{s:ahM}(a:s.kind= .function:=by rfl)(b:s.isCoroutine=false:=by rfl)(c:s.isGenerator=false:=by rfl)(d:N.Nodup:=by decide+kernel)(e:N.take P.length=P:=by rfl)(f:∀x∈P,s.names.lookup x=some .local\/s.names.lookup x=some .cell:=by decide+kernel)(g:∀y∈s.names,y.2≠ .free:=by decide+kernel):au N P s:=⟨a,b,c,d,e,f,g⟩
theorem cY(i:Nat){x:Str}{e:agP}{iH:Pos}(hN:X.N.Nodup)(he:PE X e te)(hi:X.N[i]? =some x:=by rfl)(hx:NX X.env.scope x:=by exact akb rfl)(hs:swapsWith e (some (.Name x iH)) pos.line X.env=pure false:=by rfl)(hf:X.fn x=true\/X.env.scope.names.lookup x=some .local:=by first|exact .inl rfl|exact .inr rfl|assumption):PS X (.Assign [.Name x iH] e pos) (Mc te (qk i)):=Ir hN hi hx he hs hf
theorem hJ(i:Nat){x:Str}(hN:X.N.Nodup)(hi:X.N[i]? =some x:=by rfl)(hx:NX X.env.scope x:=by exact akb rfl)(hf:X.fn x=true\/X.env.scope.names.lookup x=some .local:=by first|exact .inl rfl|exact .inr rfl|assumption):PG X (.Name x pos) (qk i):=Ll hN hi hx hf
theorem cz{x qual:Str}{N:List Str}{k:Nat}(F:b9 K x qual st f fd)(S:au N ps (ai st))
  (hb:∀(ke:afe) (A:ahD) (outer:List Env) (s:afA) (H:Hp) (vs:List V) (Q:VK) (E:XK),fF k (A.deeper (envOfC qual (ai st) s.heap.objs.size f ke))->sp vs H Q E->
   ∃t,Bg (zY bX P w K mg base N qual (ai st) f ke A outer s H E).SA (cq st) t/\t {nx:=fun _ H'=>Q .gw H',rt:=Q} (start N vs) H)
  (len:∀vs H Q E,sp vs H Q E->vs.length=ps.length:=by
   intro _ _ _ _ h;cases h;subst_vars;rfl):aT P w K mg base bX (k+1) f fd ps sp:=F.ok S len hb
abbrev vn(n:Nat):V:=V.int (n:Int)
abbrev NL(H:Hp)(a:afb)(l:List Nat):Prop:=H a=some (.ba (l.map vn))
abbrev IL(H:Hp)(a:afb)(l:List Int):Prop:=H a=some (.ba (l.map V.int))
theorem b8(h:n<=100000):n<sizeLine:=aiT h (by decide)
theorem wI(l:List Nat):l.map vn=(l.map fun n:Nat=>(n:Int)).map V.int:=by
 rw[ag4];rfl
theorem g9(l:List Nat):(l.map vn).all jC=true:=by
 rw[ag3];exact af4.mpr fun _ _=>rfl
theorem kQ:Fq (vn n) (l.map vn)=decide (n∈l):=by
 unfold Fq;rw[anw];by_cases h:n∈l
 .rw[afj h,akC];exact⟨n,h,by show((n:Int)==(n:Int))=true;exact aht _⟩
 .rw[agb h,al2];intro m hm q;have:(m:Int)=(n:Int):=eq_of_beq (show((m:Int)==(n:Int))=true from q);exact h (by rw[show n=m by omega];exact hm)
theorem yp{a:Nat}:∀{l:List Nat},a∈l->∃j:Nat,l[j]? =some a/\∀(m z:Nat),m<j->l[m]? =some z->z≠a
 | [],h=>nomatch h
 |y::l,h=>by
  by_cases e:y=a
  .exact⟨0,by rw[e];rfl,fun m _ hm=>absurd hm (aik m)⟩
  .obtain⟨j,h1,h2⟩:=yp (a:=a) (l:=l) ((afv.mp h).resolve_left fun z=>e z.symm);refine⟨j+1,h1,fun m z hm hz=> ?_⟩;cases m with
   |zero=>
    have:y=z:=by simpa using hz
    rw[<-this];exact e
   |succ m=>exact h2 m z (akV hm) (by simpa using hz)
abbrev Ra:afP:=dC 10
abbrev Ge:afP:=dC 9
inductive vC(vs:List V)(H:Hp)(Q:VK)(E:XK):Prop|m:∀(l:afb) (x a:Nat) (xs:List Nat),vs=[.ref l,vn x,vn a]->NL H l xs->(a≠0->a∈xs)->xs.length<sizeLine->Q .gw (aE H l (.ba ((agd a x xs).map vn)))->vC vs H Q E
inductive xG(K:afU)(vs:List V)(H:Hp)(Q:VK)(E:XK):Prop|m:∀(l:afb) (a:Nat) (xs:List Nat),vs=[.ref l,vn a]->aJ K H l (xs.map vn)->Q (.bl (decide (a=0\/a∈xs))) H->xG K vs H Q E
theorem S9:au ["row","name","behind"] ["row","name","behind"] (ai Ra):=cF
theorem O8(F:b9 K "put_behind" "put_behind" Ra f fd):aT P w K mg base bX 1 f fd ["row","name","behind"] vC:=by
 refine cz F S9 fun _ _ _ _ H _ Q E hr h=> ?_
 obtain⟨l,x,a,xs,rfl,hl,ha,hz,k⟩:=h;refine⟨_,af (aZ (aX fU (pv 2) ag (bc _))
  (af (aI (cy afq ajb akv vg (pv 0) (aa ag (aa (pv 1) ab)))))
  (af (aI (cy afq ajb akv vg (pv 0) (aa (bx eh (cy afq ah7 aiZ yO (pv 0) (aa (pv 2) ab)) ag) (aa (pv 1) ab)))))),?_⟩
 refine⟨_,rfl,rfl,_,rfl,?_⟩;refine aW (fun e=> ?_) (fun e=> ?_)
 .have e0:a=0:=by
   have:=aff e;injection this with this
   omega
  refine⟨_,rfl,.inl ⟨rfl,_,aJ.of hl⟩,_,rfl,l,_,0,0,_,rfl,rfl,rfl,hl,afF _,by rw[ae9];exact hz,?_⟩;rw[e0,sP]at k;exact k
 .have e0:a≠0:=fun z=>e (afj (by rw[z];rfl))
  obtain⟨j,hj,e9⟩:=yp (ha e0);have Qu:j<xs.length:=(afd.mp hj).1;refine⟨_,rfl,.inl ⟨rfl,_,aJ.of hl⟩,_,rfl,.inl ⟨rfl,_,aJ.of hl⟩,_,rfl,l,xs.map vn,vn a,j,vn a,rfl,rfl,aJ.of hl,rfl,g9 xs,by rw[afw,hj];rfl,aht _,fun m z' hm qo=> ?_,?_⟩
  .rw[afw]at qo;cases q:xs[m]? with
   |none=>rw[q]at qo;cases qo
   |some z=>
    rw[q]at qo;cases qo;have:=e9 m z hm q;exact agS.mpr (show(z:Int)≠(a:Int) by omega)
  .refine⟨_,_,rfl,rfl,_,rfl,l,_,_,j+1,_,rfl,rfl,by omega,hl,by rw[ae9];omega,by rw[ae9];exact hz,?_⟩;rw[oM e0 hj e9]at k;rw[<-aiK,<-ajy];rw[afB,af9]at k;exact k
theorem LR:au ["row","behind"] ["row","behind"] (ai Ge):=cF
theorem HS(F:b9 K "is_place" "is_place" Ge f fd):aT P w K mg base bX 1 f fd ["row","behind"] (xG K):=by
 refine cz F LR fun _ _ _ _ H _ Q E hr h=> ?_
 obtain⟨l,a,xs,rfl,hl,k⟩:=h;refine⟨_,af (aq (CA (fM fU (pv 1) ag (bc _)) (lu (fM jI (pv 1) (pv 0) (by with_unfolding_all rfl))))),?_⟩;refine⟨_,rfl,rfl,_,rfl,?_⟩;refine aW (fun e=> ?_) (fun e=> ?_)
 .have e0:a=0:=by
   have:=aff e;injection this with this
   omega
  rw[afj (show a=0\/a∈xs from .inl e0)]at k;exact k
 .have e0:a≠0:=fun z=>e (afj (by rw[z];rfl))
  refine⟨_,rfl,_,rfl,l,_,rfl,.inl hl,rfl,g9 xs,?_⟩;rw[show(decide (a=0\/a∈xs))=Fq (vn a) (xs.map vn) by rw[kQ];exact agz.mpr ⟨fun z=>z.resolve_left e0,.inr⟩]at k;exact k
def oj(o w r t g:afb):List (Str×V):=bJ "targets" (.ref g) (bJ "texts" (.ref t) (bJ "rows" (.ref r) (bJ "words" (.ref w) (bJ "order" (.ref o) []))))
section
variable{o w r t g:afb}
theorem bP:(oj o w r t g).lookup ("order":Str)=some (.ref o):=by
 unfold oj;rw[aP,afc (by decide+kernel),aP,afc (by decide+kernel),aP,afc (by decide+kernel),aP,afc (by decide+kernel),aP,afh rfl]
theorem jz:(oj o w r t g).lookup ("words":Str)=some (.ref w):=by
 unfold oj;rw[aP,afc (by decide+kernel),aP,afc (by decide+kernel),aP,afc (by decide+kernel),aP,afh rfl]
theorem du:(oj o w r t g).lookup ("rows":Str)=some (.ref r):=by
 unfold oj;rw[aP,afc (by decide+kernel),aP,afc (by decide+kernel),aP,afh rfl]
theorem gi:(oj o w r t g).lookup ("texts":Str)=some (.ref t):=by
 unfold oj;rw[aP,afc (by decide+kernel),aP,afh rfl]
theorem dN:(oj o w r t g).lookup ("targets":Str)=some (.ref g):=by
 unfold oj;rw[aP,afh rfl]
theorem bF(h:¬m="order"/\¬m="words"/\¬m="rows"/\¬m="texts"/\¬m="targets"):(oj o w r t g).lookup m=none:=by
 unfold oj;rw[aP,afc h.2.2.2.2,aP,afc h.2.2.2.1,aP,afc h.2.2.1,aP,afc h.2.1,aP,afc h.1]
 all_goals rfl
end
structure BA where
 dx:afb
 o:afb
 w:afb
 r:afb
 t:afb
 g:afb
 wk:List (br×V)
 rk:List (br×V)
 tk:List (br×V)
 gk:List (br×V)
 wa:Nat->afb
 ra:Nat->afb
 ta:Nat->afb
def pq(aQ:List (br×V))(ks:List Nat)(f:Nat->V):Prop:=∀n:Nat,ee aQ (afx (n:Int))=if n∈ks then some (f n)else none
abbrev eQ(b:afb)(d:BA):List afb:=[b,d.dx,d.o,d.w,d.r,d.t,d.g]
def bS(b:afb)(d:BA)(B:af8):List afb:=eQ b d++(names B).map d.ra
structure gf(C:afb)(H:Hp)(b:afb)(d:BA)(ord ks:List Nat)(row:Nat->List Nat)(FZ:List afb):Prop where
 ins:H b=some (.ins C d.dx (oj d.o d.w d.r d.t d.g))
 own:H d.dx=some (.own b)
 ord:NL H d.o ord
 hw:H d.w=some (.dK d.wk)
 hr:H d.r=some (.dK d.rk)
 ht:H d.t=some (.dK d.tk)
 hg:H d.g=some (.dK d.gk)
 row:∀e∈ks,NL H (d.ra e) (row e)
 nd:(eQ b d++ks.map d.ra).Nodup
 fz:∀a∈eQ b d++ks.map d.ra,a∉FZ
 fzt:∀a∈FZ,∃o,H a=some o
abbrev dz(B:af8)(e:Nat):List Nat:=(entryAt B e).senses
structure aV(C:afb)(H:Hp)(b:afb)(d:BA)(B:af8)(FZ:List afb)(N:Nat):Prop where
 wf:WF B
 bq:gf C H b d (names B) (names B) (dz B) FZ
 lw:d.wk.length<=N
 lr:d.rk.length<=N
 lt:d.tk.length<=N
 lg:d.gk.length<=N
 le:(names B).length<=N
 ls:(afD B).length<=N
 dw:pq d.wk (names B) (fun e=> .ref (d.wa e))
 dr:pq d.rk (names B) (fun e=> .ref (d.ra e))
 dt:pq d.tk (aD B) (fun n=> .ref (d.ta n))
 dg:pq d.gk (aD B) (fun n=>vn (afr B n).points)
 word:∀e∈B.entries,d.wa e.name∈FZ/\NL H (d.wa e.name) e.word
 text:∀s∈B.senses,d.ta s.name∈FZ/\NL H (d.ta s.name) s.text
def Kp(S:List afb)(H H':Hp):Prop:=∀a o,H a=some o->a∉S->H' a=some o
theorem Kp.refl(S:List afb)(H:Hp):Kp S H H:=fun _ _ h _=>h
theorem Kp.trans{S:List afb}(h1:Kp S H H1)(h2:Kp S H1 H2):Kp S H H2:=fun a o e n=>h2 a o (h1 a o e n) n
theorem Kp.fJ{S T:List afb}(h:Kp S H H1)(sub:∀a∈S,a∈T):Kp T H H1:=fun a o e n=>h a o e fun z=>n (sub a z)
theorem Kp.gZ{S:List afb}(h:a∈S):Kp S H (L2.aE H a o):=fun b _ e n=>by rw[ao (fun z=>n (by rw[z];exact h))];exact e
theorem Kp.new{S:List afb}(h:H a=none):Kp S H (L2.aE H a o):=fun b _ e _=>by rw[ao (ak e h)];exact e
def Gr(H:Hp)(S T:List afb):Prop:=∀a∈T,a∈S\/H a=none
theorem Ny{α:Type}{l:List α}{x y:α}(h:l.Nodup)(hx:l[i]? =some x)(hy:l[j]? =some y)(Ud:i≠j):x≠y:=fun e=>by
 subst e;exact Ud (Nw h hx hy)
section
variable{ord:List Nat}{row:Nat->List Nat}
theorem gf.ne(h:gf C H b d ord ks row FZ){x y:afb}(hx:(eQ b d)[i]? =some x)(hy:(eQ b d)[j]? =some y)(Ud:i≠j):x≠y:=
 Ny (ahd.mp h.nd).1 hx hy Ud
theorem gf.Hc(h:gf C H b d ord ks row FZ){x:afb}(hx:x∈eQ b d)(he:e∈ks):d.ra e≠x:=fun z=>
 (ahd.mp h.nd).2.2 x hx (d.ra e) (afH.mpr ⟨e,he,rfl⟩) z.symm
theorem gf.S4(h:gf C H b d ord ks row FZ){e':Nat}(he:e∈ks)(Ox:e'∈ks)(gh:e≠e'):d.ra e≠d.ra e':=by
 have hn:=(ahd.mp h.nd).2.1;obtain⟨i,hi⟩:=aga he;obtain⟨j,hj⟩:=aga Ox;exact Ny hn (i:=i) (j:=j) (by rw[afw,hi];rfl) (by rw[afw,hj];rfl) (fun z=>by
  subst z;exact gh (aft (hi.symm.trans hj)))
theorem gf.Kd(h:gf C H b d ord ks row FZ)(a:afb)(o:HO):∀c∈FZ,∃o',L2.aE H a o c=some o':=fun c hc=>by
 by_cases e:c=a
 .rw[e,aj];exact⟨_,rfl⟩
 .rw[ao e];exact h.fzt c hc
theorem gf.LY(h:gf C H b d ord ks row FZ)(l:List Nat):gf C (aE H d.o (.ba (l.map vn))) b d l ks row FZ where
 ins:=by rw[ao (h.ne (i:=0) (j:=2) rfl rfl (by decide))];exact h.ins
 own:=by rw[ao (h.ne (i:=1) (j:=2) rfl rfl (by decide))];exact h.own
 ord:=aj
 hw:=by rw[ao (h.ne (i:=3) (j:=2) rfl rfl (by decide))];exact h.hw
 hr:=by rw[ao (h.ne (i:=4) (j:=2) rfl rfl (by decide))];exact h.hr
 ht:=by rw[ao (h.ne (i:=5) (j:=2) rfl rfl (by decide))];exact h.ht
 hg:=by rw[ao (h.ne (i:=6) (j:=2) rfl rfl (by decide))];exact h.hg
 row:=fun e he=>by show L2.aE _ _ _ _=_;rw[ao (h.Hc (by simp) he)];exact h.row e he
 nd:=h.nd
 fz:=h.fz
 fzt:=h.Kd _ _
theorem gf.Tc(h:gf C H b d ord ks row FZ)(m:List (br×V)):gf C (aE H d.w (.dK m)) b {d with wk:=m} ord ks row FZ where
 ins:=by rw[ao (h.ne (i:=0) (j:=3) rfl rfl (by decide))];exact h.ins
 own:=by show L2.aE _ _ _ d.dx=_;rw[ao (h.ne (i:=1) (j:=3) rfl rfl (by decide))];exact h.own
 ord:=by show L2.aE _ _ _ d.o=_;rw[ao (h.ne (i:=2) (j:=3) rfl rfl (by decide))];exact h.ord
 hw:=aj
 hr:=by show L2.aE _ _ _ d.r=_;rw[ao (h.ne (i:=4) (j:=3) rfl rfl (by decide))];exact h.hr
 ht:=by show L2.aE _ _ _ d.t=_;rw[ao (h.ne (i:=5) (j:=3) rfl rfl (by decide))];exact h.ht
 hg:=by show L2.aE _ _ _ d.g=_;rw[ao (h.ne (i:=6) (j:=3) rfl rfl (by decide))];exact h.hg
 row:=fun e he=>by show L2.aE _ _ _ (d.ra e)=_;rw[ao (h.Hc (by simp) he)];exact h.row e he
 nd:=h.nd
 fz:=h.fz
 fzt:=h.Kd _ _
theorem gf.PQ(h:gf C H b d ord ks row FZ)(m:List (br×V)):gf C (aE H d.r (.dK m)) b {d with rk:=m} ord ks row FZ where
 ins:=by rw[ao (h.ne (i:=0) (j:=4) rfl rfl (by decide))];exact h.ins
 own:=by show L2.aE _ _ _ d.dx=_;rw[ao (h.ne (i:=1) (j:=4) rfl rfl (by decide))];exact h.own
 ord:=by show L2.aE _ _ _ d.o=_;rw[ao (h.ne (i:=2) (j:=4) rfl rfl (by decide))];exact h.ord
 hw:=by show L2.aE _ _ _ d.w=_;rw[ao (h.ne (i:=3) (j:=4) rfl rfl (by decide))];exact h.hw
 hr:=aj
 ht:=by show L2.aE _ _ _ d.t=_;rw[ao (h.ne (i:=5) (j:=4) rfl rfl (by decide))];exact h.ht
 hg:=by show L2.aE _ _ _ d.g=_;rw[ao (h.ne (i:=6) (j:=4) rfl rfl (by decide))];exact h.hg
 row:=fun e he=>by show L2.aE _ _ _ (d.ra e)=_;rw[ao (h.Hc (by simp) he)];exact h.row e he
 nd:=h.nd
 fz:=h.fz
 fzt:=h.Kd _ _
theorem gf.LZ(h:gf C H b d ord ks row FZ)(m:List (br×V)):gf C (aE H d.t (.dK m)) b {d with tk:=m} ord ks row FZ where
 ins:=by rw[ao (h.ne (i:=0) (j:=5) rfl rfl (by decide))];exact h.ins
 own:=by show L2.aE _ _ _ d.dx=_;rw[ao (h.ne (i:=1) (j:=5) rfl rfl (by decide))];exact h.own
 ord:=by show L2.aE _ _ _ d.o=_;rw[ao (h.ne (i:=2) (j:=5) rfl rfl (by decide))];exact h.ord
 hw:=by show L2.aE _ _ _ d.w=_;rw[ao (h.ne (i:=3) (j:=5) rfl rfl (by decide))];exact h.hw
 hr:=by show L2.aE _ _ _ d.r=_;rw[ao (h.ne (i:=4) (j:=5) rfl rfl (by decide))];exact h.hr
 ht:=aj
 hg:=by show L2.aE _ _ _ d.g=_;rw[ao (h.ne (i:=6) (j:=5) rfl rfl (by decide))];exact h.hg
 row:=fun e he=>by show L2.aE _ _ _ (d.ra e)=_;rw[ao (h.Hc (by simp) he)];exact h.row e he
 nd:=h.nd
 fz:=h.fz
 fzt:=h.Kd _ _
theorem gf.LX(h:gf C H b d ord ks row FZ)(m:List (br×V)):gf C (aE H d.g (.dK m)) b {d with gk:=m} ord ks row FZ where
 ins:=by rw[ao (h.ne (i:=0) (j:=6) rfl rfl (by decide))];exact h.ins
 own:=by show L2.aE _ _ _ d.dx=_;rw[ao (h.ne (i:=1) (j:=6) rfl rfl (by decide))];exact h.own
 ord:=by show L2.aE _ _ _ d.o=_;rw[ao (h.ne (i:=2) (j:=6) rfl rfl (by decide))];exact h.ord
 hw:=by show L2.aE _ _ _ d.w=_;rw[ao (h.ne (i:=3) (j:=6) rfl rfl (by decide))];exact h.hw
 hr:=by show L2.aE _ _ _ d.r=_;rw[ao (h.ne (i:=4) (j:=6) rfl rfl (by decide))];exact h.hr
 ht:=by show L2.aE _ _ _ d.t=_;rw[ao (h.ne (i:=5) (j:=6) rfl rfl (by decide))];exact h.ht
 hg:=aj
 row:=fun e he=>by show L2.aE _ _ _ (d.ra e)=_;rw[ao (h.Hc (by simp) he)];exact h.row e he
 nd:=h.nd
 fz:=h.fz
 fzt:=h.Kd _ _
theorem gf.f7(h:gf C H b d ord ks row FZ){x:afb}(he:e∈ks)(hx:x∈eQ b d):x≠d.ra e:=fun z=>h.Hc hx he z.symm
theorem gf.xj(h:gf C H b d ord ks row FZ)(he:e∈ks)(l:List Nat):gf C (aE H (d.ra e) (.ba (l.map vn))) b d ord ks (fun n=>if n=e then l else row n) FZ where
 ins:=by rw[ao (h.f7 he (by simp))];exact h.ins
 own:=by rw[ao (h.f7 he (by simp))];exact h.own
 ord:=by show L2.aE _ _ _ d.o=_;rw[ao (h.f7 he (by simp))];exact h.ord
 hw:=by rw[ao (h.f7 he (by simp))];exact h.hw
 hr:=by rw[ao (h.f7 he (by simp))];exact h.hr
 ht:=by rw[ao (h.f7 he (by simp))];exact h.ht
 hg:=by rw[ao (h.f7 he (by simp))];exact h.hg
 row:=fun n hn=>by
  show L2.aE _ _ _ _=_;by_cases q:n=e
  .rw[afh q,q,aj]
  .rw[afc q,ao (h.S4 hn he q)];exact h.row n hn
 nd:=h.nd
 fz:=h.fz
 fzt:=h.Kd _ _
theorem gf.Hd(h:gf C H b d ord ks row FZ){p:afb}(hp:H p=none)(he:¬e∈ks)(l:List Nat):gf C (aE H p (.ba (l.map vn))) b {d with ra:=fun n=>if n=e then p else d.ra n} ord (e::ks) (fun n=>if n=e then l else row n) FZ where
 ins:=by rw[ao (ak h.ins hp)];exact h.ins
 own:=by show L2.aE _ _ _ d.dx=_;rw[ao (ak h.own hp)];exact h.own
 ord:=by show L2.aE _ _ _ d.o=_;rw[ao (ak h.ord hp)];exact h.ord
 hw:=by show L2.aE _ _ _ d.w=_;rw[ao (ak h.hw hp)];exact h.hw
 hr:=by show L2.aE _ _ _ d.r=_;rw[ao (ak h.hr hp)];exact h.hr
 ht:=by show L2.aE _ _ _ d.t=_;rw[ao (ak h.ht hp)];exact h.ht
 hg:=by show L2.aE _ _ _ d.g=_;rw[ao (ak h.hg hp)];exact h.hg
 row:=fun n hn=>by
  show L2.aE _ _ _ (if n=e then p else d.ra n)=_;by_cases q:n=e
  .rw[afh q,afh q,aj]
  .have Uh:n∈ks:=(afv.mp hn).resolve_left q;rw[afc q,afc q,ao (ak (h.row n Uh) hp)];exact h.row n Uh
 nd:=by
  have e1:(e::ks).map (fun n=>if n=e then p else d.ra n)=p::ks.map d.ra:=by
   rw[af9,afh rfl];congr 1;exact ahb fun n hn=>afc (fun(q:n=e)=>he (by rw[<-q];exact hn))
  show(eQ b d++(e::ks).map (fun n=>if n=e then p else d.ra n)).Nodup;rw[e1];refine(List.perm_middle (a:=p) (l₁:=eQ b d) (l₂:=ks.map d.ra)).nodup_iff.mpr (afE.mpr ⟨fun z=> ?_,h.nd⟩);rcases afL.mp z with z|z
  .have:p=b\/p=d.dx\/p=d.o\/p=d.w\/p=d.r\/p=d.t\/p=d.g:=by simpa using z
   rcases this with q|q|q|q|q|q|q<;>rw[q]at hp
   .rw[h.ins]at hp;cases hp
   .rw[h.own]at hp;cases hp
   .rw[h.ord]at hp;cases hp
   .rw[h.hw]at hp;cases hp
   .rw[h.hr]at hp;cases hp
   .rw[h.ht]at hp;cases hp
   .rw[h.hg]at hp;cases hp
  .obtain⟨n,hn,rfl⟩:=afH.mp z;rw[h.row n hn]at hp;cases hp
 fz:=fun a ha=>by
  have Kj:a∈eQ b d\/a∈(e::ks).map (fun n=>if n=e then p else d.ra n):=afL.mp ha;rcases Kj with z|z
  .exact h.fz a (afY _ z)
  .obtain⟨n,hn,q⟩:=afH.mp z;by_cases gh:n=e
   .rw[afh gh]at q;intro hf;obtain⟨o,ho⟩:=h.fzt a hf;rw[<-q,hp]at ho;cases ho
   .rw[afc gh]at q;exact h.fz a (afI _ (afH.mpr ⟨n,(afv.mp hn).resolve_left gh,q⟩))
 fzt:=h.Kd _ _
theorem gf.sub(h:gf C H b d ord ks row FZ)(hn:ks'.Nodup)(hs:∀e∈ks',e∈ks):gf C H b d ord ks' row FZ:=
 {h with
  row:=fun e he=>h.row e (hs e he)
  nd:=by
   refine ahd.mpr ⟨(ahd.mp h.nd).1,?_,fun x hx y hy=> ?_⟩
   .refine List.pairwise_map.mpr (anl (fun{a c} ha hc gh=> ?_) hn);exact h.S4 (hs a ha) (hs c hc) gh
   .obtain⟨n,hn,rfl⟩:=afH.mp hy;exact(h.Hc hx (hs n hn)).symm
  fz:=fun a ha=>by
   rcases afL.mp ha with z|z
   .exact h.fz a (afY _ z)
   .obtain⟨n,hn,q⟩:=afH.mp z;exact h.fz a (afI _ (afH.mpr ⟨n,hs n hn,q⟩))}
theorem gf.rows(h:gf C H b d ord ks row FZ){row':Nat->List Nat}(e:∀n∈ks,row' n=row n):gf C H b d ord ks row' FZ:=
 {h with row:=fun n hn=>by rw[e n hn];exact h.row n hn}
theorem gf.keep{S:List afb}(h:gf C H b d ord ks row FZ)(k:Kp S H H')(h1:∀a∈eQ b d++ks.map d.ra,a∉S)(h2:∀a∈FZ,a∉S):gf C H' b d ord ks row FZ:=by
 have f7:∀a∈eQ b d,a∉S:=fun a ha=>h1 a (afY _ ha)
 exact⟨k _ _ h.ins (f7 _ (by simp)),k _ _ h.own (f7 _ (by simp)),k _ _ h.ord (f7 _ (by simp)),k _ _ h.hw (f7 _ (by simp)),k _ _ h.hr (f7 _ (by simp)),k _ _ h.ht (f7 _ (by simp)),k _ _ h.hg (f7 _ (by simp)),
  fun e he=>k _ _ (h.row e he) (h1 _ (afI _ (afH.mpr ⟨e,he,rfl⟩))),h.nd,h.fz,fun a ha=>let⟨o,ho⟩:=h.fzt a ha;⟨o,k a o ho (h2 a ha)⟩⟩
end
theorem sv:a∈bS b d B↔a∈eQ b d\/∃e∈B.entries,d.ra e.name=a:=by
 unfold bS;rw[afL,afH];refine aln aje ?_;constructor
 .rintro⟨n,hn,e⟩;obtain⟨x,hx,rfl⟩:=aY.mp hn;exact⟨x,hx,e⟩
 .rintro⟨x,hx,e⟩;exact⟨x.name,aY.mpr ⟨x,hx,rfl⟩,e⟩
theorem aV.keep{C:afb}{H H':Hp}{b:afb}{d:BA}{B:af8}{FZ:List afb}{N:Nat}{S:List afb}(h:aV C H b d B FZ N)(k:Kp S H H')(h1:∀a∈bS b d B,a∉S)(h2:∀a∈FZ,a∉S):aV C H' b d B FZ N:=
 {h with bq:=h.bq.keep k h1 h2,word:=fun e he=>⟨(h.word e he).1,k _ _ (h.word e he).2 (h2 _ (h.word e he).1)⟩,text:=fun s hs=>⟨(h.text s hs).1,k _ _ (h.text s hs).2 (h2 _ (h.text s hs).1)⟩}
theorem aV.more(h:aV C H b d B FZ N)(hN:N<=N')(hF:∀a∈FZ,a∈cZ)(hd:∀a∈bS b d B,a∉cZ)(ht:∀a∈cZ,∃o,H a=some o):aV C H b d B cZ N':=
 {h with bq:={h.bq with fz:=hd,fzt:=ht},lw:=afu h.lw hN,lr:=afu h.lr hN,lt:=afu h.lt hN,lg:=afu h.lg hN,le:=afu h.le hN,ls:=afu h.ls hN,word:=fun e he=>⟨hF _ (h.word e he).1,(h.word e he).2⟩,text:=fun s hs=>⟨hF _ (h.text s hs).1,(h.text s hs).2⟩}
structure mC(K:afU)(mg:Str->Option afe)(C:afb):Prop where
 cl:zF K C
 nO:fE K C "order"
 nW:fE K C "words"
 nR:fE K C "rows"
 nT:fE K C "texts"
 nG:fE K C "targets"
 ZI:mg "Book"=some (.ref C)
inductive pU(C:afb)(vs:List V)(H:Hp)(Q:VK)(E:XK):Prop|m:∀(b:afb) (d:BA) (B:af8) (FZ:List afb) (N e:Nat),vs=[.ref b,vn e]->aV C H b d B FZ N->Q (.bl (agl B e)) H->pU C vs H Q E
inductive xw(C:afb)(vs:List V)(H:Hp)(Q:VK)(E:XK):Prop|m:∀(b:afb) (d:BA) (B:af8) (FZ:List afb) (N e:Nat),vs=[.ref b,vn e]->aV C H b d B FZ N->Q (.bl (ahJ B e)) H->xw C vs H Q E
theorem pq.xl{f:Nat->V}(h:pq aQ ks f)(n:Nat):(ee aQ (afx (n:Int))).isSome=decide (n∈ks):=by
 rw[h n];by_cases e:n∈ks
 .rw[afh e,afj e];rfl
 .rw[afc e,agb e];rfl
theorem wo(B:af8)(e:Nat):agl B e=decide (e∈names B):=by
 by_cases h:e∈names B
 .rw[afj h];exact iR.mpr h
 .rw[agb h];exact cg.mpr h
theorem wq(B:af8)(e:Nat):ahJ B e=decide (e∈aD B):=by
 by_cases h:e∈aD B
 .rw[afj h];exact eC.mpr h
 .rw[agb h];exact dF.mpr h
abbrev Mz:afP:=bt ip 1
abbrev MA:afP:=bt ip 2
theorem PB:au ["self","entry"] ["self","entry"] (ai Mz):=cF
theorem PD:au ["self","sense"] ["self","sense"] (ai MA):=cF
theorem K2(F:b9 K "has_entry" "Book.has_entry" Mz f fd)(T:mC K mg C):aT P w K mg base bX 1 f fd ["self","entry"] (pU C):=by
 refine cz F PB fun _ _ _ _ H _ Q E hr h=> ?_
 obtain⟨b,d,B,FZ,N,e,rfl,hB,k⟩:=h;refine⟨_,af (aq (Ii (AG (bZ hr) (pv 1) (az (pv 0))) (by with_unfolding_all rfl))),?_⟩;refine⟨_,rfl,_,rfl,b,C,d.dx,_,_,rfl,hB.bq.ins,T.cl,T.nW,jz,d.w,_,rfl,ei.k (k:=afx (e:Int)) hB.bq.hw,?_⟩;rw[wo]at k;rw[hB.dw.xl];exact k
theorem K3(F:b9 K "has_sense" "Book.has_sense" MA f fd)(T:mC K mg C):aT P w K mg base bX 1 f fd ["self","sense"] (xw C):=by
 refine cz F PD fun _ _ _ _ H _ Q E hr h=> ?_
 obtain⟨b,d,B,FZ,N,e,rfl,hB,k⟩:=h;refine⟨_,af (aq (Ii (AG (bZ hr) (pv 1) (az (pv 0))) (by with_unfolding_all rfl))),?_⟩;refine⟨_,rfl,_,rfl,b,C,d.dx,_,_,rfl,hB.bq.ins,T.cl,T.nT,gi,d.t,_,rfl,ei.k (k:=afx (e:Int)) hB.bq.ht,?_⟩;rw[wq]at k;rw[hB.dt.xl];exact k
theorem qV{m:Nat}:((afx (m:Int):br)=afx (n:Int))↔m=n:=by
 constructor
 .intro h;have:=ald h;omega
 .intro h;rw[h]
theorem pq.gZ{f:Nat->V}{v:V}(h:pq aQ ks f)(hk:∀m,m∈ks'↔m=n\/m∈ks)(hv:f' n=v)(hf:∀m∈ks,m≠n->f' m=f m):pq (dR aQ (afx (n:Int)) v) ks' f':=fun m=>by
 rw[Jp];by_cases e:m=n
 .rw[afh (qV.mpr e),afh ((hk m).mpr (.inl e)),e,hv]
 .rw[afc (fun z=>e (qV.mp z)),h m];by_cases q:m∈ks
  .rw[afh q,afh ((hk m).mpr (.inr q)),hf m q e]
  .rw[afc q,afc (fun z=>((hk m).mp z).elim e q)]
theorem Fh(aQ:List (br×V))(k j:br):ee (cU aQ k) j=if j=k then none else ee aQ j:=by
 induction aQ with
 |nil=>split<;>rfl
 |cons p r ih=>
  by_cases e:p.1=k
  .rw[DE e,ih];by_cases q:j=k
   .rw[afh q,afh q]
   .rw[afc q,afc q,dS (fun z=>q (z.symm.trans e))]
  .rw[DD e];by_cases q:p.1=j
   .rw[eF q,eF q,afc (fun z=>e (q.trans z))]
   .rw[dS q,dS q,ih]
theorem iZ(aQ:List (br×V))(k:br):(cU aQ k).length<=aQ.length:=af6 _ _
theorem pq.drop{f:Nat->V}(h:pq aQ ks f)(hk:∀m,m∈ks'↔m≠n/\m∈ks)(hf:∀m∈ks',f' m=f m):pq (cU aQ (afx (n:Int))) ks' f':=fun m=>by
 rw[Fh];by_cases e:m=n
 .rw[afh (qV.mpr e),afc (fun z=>((hk m).mp z).1 e)]
 .rw[afc (fun z=>e (qV.mp z)),h m];by_cases q:m∈ks
  .rw[afh q,afh ((hk m).mpr ⟨e,q⟩),hf m ((hk m).mpr ⟨e,q⟩)]
  .rw[afc q,afc (fun z=>q ((hk m).mp z).2)]
theorem pq.same{f:Nat->V}(h:pq aQ ks f)(hk:∀m,m∈ks'↔m∈ks)(hf:∀m∈ks',f' m=f m):pq aQ ks' f':=fun m=>by
 rw[h m];by_cases q:m∈ks
 .rw[afh q,afh ((hk m).mpr q),hf m ((hk m).mpr q)]
 .rw[afc q,afc (fun z=>q ((hk m).mp z))]
theorem pq.get{f:Nat->V}(h:pq aQ ks f)(hn:n∈ks):ee aQ (afx (n:Int))=some (f n):=by rw[h n,afh hn]
theorem eV{p:afb}(h:L2.aE H a o p=none):H p=none:=by
 by_cases e:p=a
 .rw[e,aj]at h;cases h
 .rw[ao e]at h;exact h
def kx(C:afb)(H:Hp)(b:afb)(d:BA)(B B':af8)(FZ:List afb)(N:Nat)(Q:VK):Prop:=
 ∀(H':Hp) (d':BA),aV C H' b d' B' FZ N->Kp (bS b d B) H H'->Gr H (bS b d B) (bS b d' B')->Q .gw H'
inductive xB(C:afb)(vs:List V)(H:Hp)(Q:VK)(E:XK):Prop|m:∀(b:afb) (d:BA) (B:af8) (FZ:List afb) (N e a:Nat) (aw:afb) (wd:List Nat),vs=[.ref b,vn e,vn a,.ref aw]->aV C H b d B FZ N->N<100000->¬e∈names B->e≠0->(a≠0->a∈names B)->aw∈FZ->NL H aw wd->kx C H b d B {B with entries:=ahf a ⟨e,wd,[]⟩ B.entries} FZ (N+1) Q->xB C vs H Q E
abbrev F3:afP:=bt ip 4
theorem LI:au ["self","entry","behind","word"] ["self","entry","behind","word"] (ai F3):=cF
structure jw(P:afz)(w:af3)(K:afU)(mg:Str->Option afe)(base:age)(k:Nat)(x:Str)(ps:List Str)(sp:Sp)(f:afb)(fd:afC):Prop where
 ok:aT P w K mg base bX k f fd ps sp
 mg:mg x=some (.ref f)
 kp:keepIn K (.ref f)=true
 bi:eY K fd ps []
structure zG(P:afz)(w:af3)(K:afU)(mg:Str->Option afe)(base:age)(k:Nat)(C:afb)(x:Str)(ps:List Str)(sp:Sp)(f:afb)(fd:afC):Prop where
 ok:aT P w K mg base bX k f fd ps sp
 me:Dj K C x f
 bi:eY K fd ps []
theorem dQ{S:List afb}(h:Kp S H H1)(ha:a∈S\/H1 a=none):Kp S H (L2.aE H1 a o):=by
 rcases ha with ha|ha
 .exact h.trans (Kp.gZ ha)
 .exact h.trans (Kp.new ha)
theorem wz(h:a∈eQ b d):a∈bS b d B:=afY _ h
theorem OJ(h:e∈names B):d.ra e∈bS b d B:=afI _ (afH.mpr ⟨e,h,rfl⟩)
theorem HH(F:b9 K "make_entry" "Book.make_entry" F3 f fd)(T:mC K mg C)(cP:jw P w K mg base 1 "put_behind" ["row","name","behind"] vC fp fY):aT P w K mg base bX 2 f fd ["self","entry","behind","word"] (xB C):=by
 refine cz F LI fun _ _ _ _ H _ Q E hr h=> ?_
 obtain⟨b,d,B,FZ,N,e,a,aw,wd,rfl,hB,hN,he,Oy,ha,RI,Wa,k⟩:=h;refine⟨_,ae (aI (bh cP.ok hr rfl cP.mg cP.kp cP.bi .nil bw (aa (az (pv 0)) (aa (pv 1) (aa (pv 2) ab)))))
  (ae (iT (bZ hr) (az (pv 0)) (pv 1) (pv 3) rfl)
  (af (iT (bZ hr) (az (pv 0)) (pv 1) (cp ab) rfl))),?_⟩
 have L0:=hB.bq;refine⟨_,rfl,b,C,d.dx,_,_,rfl,L0.ins,T.cl,T.nO,bP,_,rfl,_,rfl,d.o,e,a,_,rfl,L0.ord,ha,b8 (by have:=hB.le;omega),?_⟩;have L1:=L0.LY (agd a e (names B));refine⟨_,rfl,_,rfl,b,C,d.dx,_,_,rfl,L1.ins,T.cl,T.nW,jz,_,rfl,d.w,_,rfl,pA.k (k:=afx (e:Int)) L1.hw (b8 (by have:=hB.lw;omega)),?_⟩;have mq:=L1.Tc (dR d.wk (afx (e:Int)) (.ref aw));refine⟨afF _,fun p hp=> ?_⟩;have L3:=mq.Hd hp (e:=e) he [];refine⟨_,rfl,b,C,d.dx,_,_,rfl,L3.ins,T.cl,T.nR,du,_,rfl,d.r,_,rfl,pA.k (k:=afx (e:Int)) L3.hr (b8 (by have:=hB.lr;show d.rk.length<=_;omega)),?_⟩;have L4:=L3.PQ (dR d.rk (afx (e:Int)) (.ref p));have jR:names {B with entries:=ahf a ⟨e,wd,[]⟩ B.entries}=agd a e (names B):=gO a ⟨e,wd,[]⟩ B.entries;have pZ:WF {B with entries:=ahf a ⟨e,wd,[]⟩ B.entries}:=hB.wf.entry he Oy;have u7:Kp (bS b d B) H (aE H d.o (.ba ((agd a e (names B)).map vn))):=Kp.gZ (wz (by simp));have fA:=dQ (o:= .dK (dR d.wk (afx (e:Int)) (.ref aw))) u7 (.inl (wz (B:=B) (b:=b) (d:=d) (a:=d.w) (by simp)));have Ah:=dQ (o:= .ba (([]:List Nat).map vn)) fA (.inr hp);have Qz:=dQ (o:= .dK (dR d.rk (afx (e:Int)) (.ref p))) Ah (.inl (wz (B:=B) (b:=b) (d:=d) (a:=d.r) (by simp)));have nF:∀c∈FZ,¬c∈bS b d B:=fun c hc z=>L0.fz c z hc
 refine k _ {d with wk:=dR d.wk (afx (e:Int)) (.ref aw),rk:=dR d.rk (afx (e:Int)) (.ref p),wa:=fun n=>if n=e then aw else d.wa n,ra:=fun n=>if n=e then p else d.ra n} ?_ Qz ?_
 .have bY:(agd a e (names B)).length=(names B).length+1:=(fV a e (names B)).length_eq;refine{wf:=pZ,bq:= ?_,lw:= ?_,lr:= ?_,lt:=afK hB.lt,lg:=afK hB.lg,le:= ?_,ls:= ?_,dw:= ?_,dr:= ?_,dt:=hB.dt,dg:=hB.dg,word:= ?_,text:= ?_}
  .rw[jR];have L5:=L4.sub (ks':=agd a e (names B)) (kj hB.wf.en he) (fun n hn=>by rw[afv];exact hC.mp hn);have L6:gf C _ b {d with wk:=dR d.wk (afx (e:Int)) (.ref aw),rk:=dR d.rk (afx (e:Int)) (.ref p),wa:=fun n=>if n=e then aw else d.wa n,ra:=fun n=>if n=e then p else d.ra n} _ _ _ FZ:=⟨L5.ins,L5.own,L5.ord,L5.hw,L5.hr,L5.ht,L5.hg,L5.row,L5.nd,L5.fz,L5.fzt⟩;refine L6.rows fun n hn=> ?_
   have hm:n∈names {B with entries:=ahf a ⟨e,wd,[]⟩ B.entries}:=by rw[jR];exact hn
   obtain⟨x,hx,rfl⟩:=aY.mp hm;show(entryAt _ x.name).senses=_;rw[bp pZ hx];rcases fu.mp hx with q|q
   .subst q;rw[afh rfl]
   .rw[afc (fun z=>he (by rw[<-z];exact aY.mpr ⟨x,q,rfl⟩))];show _=(entryAt B x.name).senses;rw[bp hB.wf q]
  .have:=dm d.wk (afx (e:Int):br) (.ref aw);have:=hB.lw;show(dR d.wk _ _).length<=_;omega
  .have:=dm d.rk (afx (e:Int):br) (.ref p);have:=hB.lr;show(dR d.rk _ _).length<=_;omega
  .rw[jR,bY];have:=hB.le;omega
  .have:(afD {B with entries:=ahf a ⟨e,wd,[]⟩ B.entries}).length=(afD B).length:=by
    have:=(iW (gj a ⟨e,wd,[]⟩ B.entries)).length_eq;rw[agg]at this;exact this
   rw[this];exact afK hB.ls
  .rw[jR];exact hB.dw.gZ (fun m=>hC) (by show V.ref (if e=e then aw else _)=_;rw[afh rfl]) fun m _ hm=>by show V.ref (if m=e then aw else _)=_;rw[afc hm]
  .rw[jR];exact hB.dr.gZ (fun m=>hC) (by show V.ref (if e=e then p else _)=_;rw[afh rfl]) fun m _ hm=>by show V.ref (if m=e then p else _)=_;rw[afc hm]
  .intro x hx;rcases fu.mp hx with q|q
   .subst q;show(if e=e then aw else _)∈FZ/\NL _ (if e=e then aw else _) _;rw[afh rfl];exact⟨RI,Qz _ _ Wa (nF _ RI)⟩
   .show(if x.name=e then aw else _)∈FZ/\NL _ (if x.name=e then aw else _) _;rw[afc (fun z=>he (by rw[<-z];exact aY.mpr ⟨x,q,rfl⟩))];exact⟨(hB.word x q).1,Qz _ _ (hB.word x q).2 (nF _ (hB.word x q).1)⟩
  .exact fun x hx=>⟨(hB.text x hx).1,Qz _ _ (hB.text x hx).2 (nF _ (hB.text x hx).1)⟩
 .intro c hc;rcases sv.mp hc with z|⟨x,hx,q⟩
  .exact .inl (wz z)
  .rcases fu.mp hx with r|r
   .subst r;have q':(if e=e then p else d.ra e)=c:=q;rw[afh rfl]at q';rw[<-q'];exact .inr (eV (eV hp))
   .have q':(if x.name=e then p else d.ra x.name)=c:=q;rw[afc (fun z=>he (by rw[<-z];exact aY.mpr ⟨x,r,rfl⟩))]at q';rw[<-q'];exact .inl (OJ (aY.mpr ⟨x,r,rfl⟩))
theorem k9{g:aiY->aiY}{y:aiY}:y∈(onSense B n g).senses↔∃z∈B.senses,(if z.name=n then g z else z)=y:=afH
theorem kY{x:Nat}{g:List Nat->List Nat}{y:afm}:y∈(ahv B x g).entries↔∃z∈B.entries,(if z.name=x then{z with senses:=g z.senses}else z)=y:=afH
theorem pN{y:afm}:y∈(ait B n).entries↔∃z∈B.entries,({z with senses:=z.senses.filter fun y=>y !=n}:afm)=y:=afH
theorem iJ{m:Nat}{g:aiY->aiY}(w:WF B)(hg:∀s,(g s).name=s.name)(hm:m∈aD B):afr (onSense B n g) m=if m=n then g (afr B m)else afr B m:=by
 obtain⟨z,hz,rfl⟩:=dB.mp hm;have w':WF (onSense B n g):=w.onSense hg;have hy:(if z.name=n then g z else z)∈(onSense B n g).senses:=k9.mpr ⟨z,hz,rfl⟩;have e:(if z.name=n then g z else z).name=z.name:=by
  split
  .exact hg z
  .rfl
 have:=eL w' hy;rw[e]at this;rw[this,eL w hz]
inductive Jg(C:afb)(vs:List V)(H:Hp)(Q:VK)(E:XK):Prop|m:∀(b:afb) (d:BA) (B:af8) (FZ:List afb) (N n:Nat) (a:afb) (t:List Nat),vs=[.ref b,vn n,.ref a]->aV C H b d B FZ N->N<100000->n∈aD B->a∈FZ->NL H a t->kx C H b d B (onSense B n fun x=>{x with text:=t}) FZ (N+1) Q->Jg C vs H Q E
inductive xH(C:afb)(vs:List V)(H:Hp)(Q:VK)(E:XK):Prop|m:∀(b:afb) (d:BA) (B:af8) (FZ:List afb) (N n t:Nat),vs=[.ref b,vn n,vn t]->aV C H b d B FZ N->N<100000->n∈aD B->kx C H b d B (onSense B n fun x=>{x with points:=t}) FZ (N+1) Q->xH C vs H Q E
abbrev Rf:afP:=bt ip 6
abbrev Gf:afP:=bt ip 7
theorem Ta:au ["self","sense","text"] ["self","sense","text"] (ai Rf):=cF
theorem LS:au ["self","sense","target"] ["self","sense","target"] (ai Gf):=cF
theorem Pa(F:b9 K "say" "Book.say" Rf f fd)(T:mC K mg C):aT P w K mg base bX 1 f fd ["self","sense","text"] (Jg C):=by
 refine cz F Ta fun _ _ _ _ H _ Q E hr h=> ?_
 obtain⟨b,d,B,FZ,N,n,a,t,rfl,hB,hN,hn,T7,ha,k⟩:=h;refine⟨_,af (iT (bZ hr) (az (pv 0)) (pv 1) (pv 2) rfl),?_⟩;have L0:=hB.bq;refine⟨_,rfl,_,rfl,b,C,d.dx,_,_,rfl,L0.ins,T.cl,T.nT,gi,_,rfl,d.t,_,rfl,pA.k (k:=afx (n:Int)) L0.ht (b8 (by have:=hB.lt;omega)),?_⟩;have L1:=L0.LZ (dR d.tk (afx (n:Int)) (.ref a));have hg:∀s:aiY,({s with text:=t}:aiY).name=s.name:=fun _=>rfl
 have pZ:=hB.wf.onSense (n:=n) hg;have qS:=eR B n _ hg;have u7:Kp (bS b d B) H (aE H d.t (.dK (dR d.tk (afx (n:Int)) (.ref a)))):=Kp.gZ (wz (by simp));have nF:∀c∈FZ,¬c∈bS b d B:=fun c hc z=>L0.fz c z hc
 refine k _ {d with tk:=dR d.tk (afx (n:Int)) (.ref a),ta:=fun m=>if m=n then a else d.ta m} ?_ u7 fun c hc=> .inl hc
 refine{wf:=pZ,bq:=⟨L1.ins,L1.own,L1.ord,L1.hw,L1.hr,L1.ht,L1.hg,L1.row,L1.nd,L1.fz,L1.fzt⟩,lw:=afK hB.lw,lr:=afK hB.lr,lt:= ?_,lg:=afK hB.lg,le:=afK hB.le,ls:=afK hB.ls,dw:=hB.dw,dr:=hB.dr,dt:= ?_,dg:= ?_,word:=fun x hx=>⟨(hB.word x hx).1,u7 _ _ (hB.word x hx).2 (nF _ (hB.word x hx).1)⟩,text:= ?_}
 .have:=dm d.tk (afx (n:Int):br) (.ref a);have:=hB.lt;show(dR d.tk _ _).length<=_;omega
 .rw[qS];exact hB.dt.gZ (fun m=>⟨.inr,fun z=>z.elim (fun q=>q▸hn) id⟩) (by show V.ref (if n=n then a else _)=_;rw[afh rfl]) fun m _ hm=>by show V.ref (if m=n then a else _)=_;rw[afc hm]
 .rw[qS];refine hB.dg.same (fun m=>aje) fun m hm=> ?_
  rw[iJ hB.wf hg hm];split<;>rfl
 .intro y hy;obtain⟨z,hz,e⟩:=k9.mp hy;by_cases q:z.name=n
  .rw[afh q]at e;subst e;show(if z.name=n then a else _)∈FZ/\NL _ (if z.name=n then a else _) t;rw[afh q];exact⟨T7,u7 _ _ ha (nF _ T7)⟩
  .rw[afc q]at e;subst e;show(if z.name=n then a else _)∈FZ/\NL _ (if z.name=n then a else _) _;rw[afc q];exact⟨(hB.text z hz).1,u7 _ _ (hB.text z hz).2 (nF _ (hB.text z hz).1)⟩
theorem HU(F:b9 K "point" "Book.point" Gf f fd)(T:mC K mg C):aT P w K mg base bX 1 f fd ["self","sense","target"] (xH C):=by
 refine cz F LS fun _ _ _ _ H _ Q E hr h=> ?_
 obtain⟨b,d,B,FZ,N,n,t,rfl,hB,hN,hn,k⟩:=h;refine⟨_,af (iT (bZ hr) (az (pv 0)) (pv 1) (pv 2) rfl),?_⟩;have L0:=hB.bq;refine⟨_,rfl,_,rfl,b,C,d.dx,_,_,rfl,L0.ins,T.cl,T.nG,dN,_,rfl,d.g,_,rfl,pA.k (k:=afx (n:Int)) L0.hg (b8 (by have:=hB.lg;omega)),?_⟩;have L1:=L0.LX (dR d.gk (afx (n:Int)) (vn t));have hg:∀s:aiY,({s with points:=t}:aiY).name=s.name:=fun _=>rfl
 have pZ:=hB.wf.onSense (n:=n) hg;have qS:=eR B n _ hg;have u7:Kp (bS b d B) H (aE H d.g (.dK (dR d.gk (afx (n:Int)) (vn t)))):=Kp.gZ (wz (by simp));have nF:∀c∈FZ,¬c∈bS b d B:=fun c hc z=>L0.fz c z hc
 refine k _ {d with gk:=dR d.gk (afx (n:Int)) (vn t)} ?_ u7 fun c hc=> .inl hc
 refine{wf:=pZ,bq:=L1,lw:=afK hB.lw,lr:=afK hB.lr,lt:=afK hB.lt,lg:= ?_,le:=afK hB.le,ls:=afK hB.ls,dw:=hB.dw,dr:=hB.dr,dt:= ?_,dg:= ?_,word:=fun x hx=>⟨(hB.word x hx).1,u7 _ _ (hB.word x hx).2 (nF _ (hB.word x hx).1)⟩,text:= ?_}
 .have:=dm d.gk (afx (n:Int):br) (vn t);have:=hB.lg;show(dR d.gk _ _).length<=_;omega
 .rw[qS];exact hB.dt
 .rw[qS];refine hB.dg.gZ (fun m=>⟨.inr,fun z=>z.elim (fun q=>q▸hn) id⟩) ?_ fun m hm gh=> ?_
  .show vn _=_;rw[iJ hB.wf hg hn,afh rfl]
  .show vn _=_;rw[iJ hB.wf hg hm,afc gh]
 .intro y hy;obtain⟨z,hz,e⟩:=k9.mp hy;have e1:y.name=z.name/\y.text=z.text:=by
   rw[<-e];split<;>exact⟨rfl,rfl⟩
  rw[e1.1,e1.2];exact⟨(hB.text z hz).1,u7 _ _ (hB.text z hz).2 (nF _ (hB.text z hz).1)⟩
theorem eg{x:V}(h:(l.map vn)[i]? =some x):∃n,l[i]? =some n/\x=vn n:=by
 rw[afw]at h;cases e:l[i]? with
 |none=>rw[e]at h;cases h
 |some n=>rw[e]at h;exact⟨n,rfl,(aft h).symm⟩
theorem aV.row{C:afb}{H:Hp}{b:afb}{d:BA}{B:af8}{FZ:List afb}{N:Nat}(h:aV C H b d B FZ N){x:afm}(hx:x∈B.entries):NL H (d.ra x.name) x.senses:=by
 have:=h.bq.row x.name (aY.mpr ⟨x,hx,rfl⟩);unfold dz at this;rw[bp h.wf hx]at this;exact this
theorem GA{l:List afm}(h:x∈l):x.senses.length<=(l.flatMap fun e=>e.senses).length:=by
 induction l with
 |nil=>exact nomatch h
 |cons y l ih=>
  rw[agg,afa];rcases afv.mp h with e|h
  .rw[e];omega
  .have:=ih h;omega
theorem aV.IA(h:aV C H b d B FZ N)(hx:x∈B.entries):x.senses.length<=N:=afu (GA hx) h.ls
inductive xC(C:afb)(vs:List V)(H:Hp)(Q:VK)(E:XK):Prop|m:∀(b:afb) (d:BA) (B:af8) (FZ:List afb) (N n x a:Nat) (cG:afb) (t:List Nat),vs=[.ref b,vn n,vn x,vn a,.ref cG]->aV C H b d B FZ N->N<100000->¬n∈aD B->n≠0->x∈names B->(a≠0->a∈dz B x)->cG∈FZ->NL H cG t->kx C H b d B (ahv {B with senses:=B.senses++ [⟨n,t,0⟩]} x (agd a n)) FZ (N+1) Q->xC C vs H Q E
inductive AW(C:afb)(vs:List V)(H:Hp)(Q:VK)(E:XK):Prop|m:∀(b:afb) (d:BA) (B:af8) (FZ:List afb) (N n:Nat),vs=[.ref b,vn n]->aV C H b d B FZ N->Q (vn (agx B n)) H->AW C vs H Q E
abbrev F4:afP:=bt ip 5
theorem LJ:au ["self","sense","entry","behind","text"] ["self","sense","entry","behind","text"] (ai F4):=cF
theorem HI(F:b9 K "make_sense" "Book.make_sense" F4 f fd)(T:mC K mg C)(cP:jw P w K mg base 1 "put_behind" ["row","name","behind"] vC fp fY):aT P w K mg base bX 2 f fd ["self","sense","entry","behind","text"] (xC C):=by
 refine cz F LJ fun _ _ _ _ H _ Q E hr h=> ?_
 obtain⟨b,d,B,FZ,N,n,x,a,cG,t,rfl,hB,hN,hn,Qv,hx,ha,RH,r8,k⟩:=h;refine⟨_,ae (aI (bh cP.ok hr rfl cP.mg cP.kp cP.bi .nil bw (aa (bC (bZ hr) (az (pv 0)) (pv 2)) (aa (pv 1) (aa (pv 3) ab)))))
  (ae (iT (bZ hr) (az (pv 0)) (pv 1) (pv 4) rfl)
  (af (iT (bZ hr) (az (pv 0)) (pv 1) ag rfl))),?_⟩
 have L0:=hB.bq;obtain⟨Nf,wy⟩:=eZ hB.wf hx;have gJ:(dz B x).length<=N:=hB.IA Nf;refine⟨_,rfl,b,C,d.dx,_,_,rfl,L0.ins,T.cl,T.nR,du,_,rfl,d.r,_,rfl,by
  have:=ei.k (k:=afx (x:Int)) L0.hr;rw[hB.dr.get hx]at this;exact this,_,rfl,_,rfl,d.ra x,n,a,_,rfl,L0.row x hx,ha,b8 (by omega),?_⟩
 have L1:=L0.xj hx (agd a n (dz B x));refine⟨_,rfl,_,rfl,b,C,d.dx,_,_,rfl,L1.ins,T.cl,T.nT,gi,_,rfl,d.t,_,rfl,pA.k (k:=afx (n:Int)) L1.ht (b8 (by have:=hB.lt;omega)),?_⟩;have mq:=L1.LZ (dR d.tk (afx (n:Int)) (.ref cG));refine⟨_,rfl,b,C,d.dx,_,_,rfl,mq.ins,T.cl,T.nG,dN,_,rfl,d.g,_,rfl,pA.k (k:=afx (n:Int)) mq.hg (b8 (by have:=hB.lg;show d.gk.length<=_;omega)),?_⟩;have L3:=mq.LX (dR d.gk (afx (n:Int)) (.int 0));have pZ:WF (ahv {B with senses:=B.senses++ [⟨n,t,0⟩]} x (agd a n)):=hB.wf.sense hx hn Qv;have jR:names (ahv {B with senses:=B.senses++ [⟨n,t,0⟩]} x (agd a n))=names B:=fC _ _ _;have qS:aD (ahv {B with senses:=B.senses++ [⟨n,t,0⟩]} x (agd a n))=aD B++ [n]:=by
  show(B.senses++ [(⟨n,t,0⟩:aiY)]).map (fun s=>s.name)=_;rw[afB];rfl
 have eX:∀m,m∈aD B++ [n]↔m=n\/m∈aD B:=fun m=>by
  rw[afL];exact⟨fun z=>z.elim .inr fun q=> .inl (by simpa using q),fun z=>z.elim (fun q=> .inr (by simpa using q)) .inl⟩
 have u7:Kp (bS b d B) H (aE H (d.ra x) (.ba ((agd a n (dz B x)).map vn))):=Kp.gZ (OJ hx);have fA:=dQ (o:= .dK (dR d.tk (afx (n:Int)) (.ref cG))) u7 (.inl (wz (B:=B) (b:=b) (d:=d) (a:=d.t) (by simp)));have Ah:=dQ (o:= .dK (dR d.gk (afx (n:Int)) (.int 0))) fA (.inl (wz (B:=B) (b:=b) (d:=d) (a:=d.g) (by simp)));have nF:∀c∈FZ,¬c∈bS b d B:=fun c hc z=>L0.fz c z hc
 refine k _ {d with tk:=dR d.tk (afx (n:Int)) (.ref cG),gk:=dR d.gk (afx (n:Int)) (.int 0),ta:=fun m=>if m=n then cG else d.ta m} ?_ Ah ?_
 .refine{wf:=pZ,bq:= ?_,lw:=afK hB.lw,lr:=afK hB.lr,lt:= ?_,lg:= ?_,le:=by rw[jR];exact afK hB.le,ls:= ?_,dw:=by rw[jR];exact hB.dw,dr:=by rw[jR];exact hB.dr,dt:= ?_,dg:= ?_,word:= ?_,text:= ?_}
  .rw[jR];have L6:gf C _ b {d with tk:=dR d.tk (afx (n:Int)) (.ref cG),gk:=dR d.gk (afx (n:Int)) (.int 0),ta:=fun m=>if m=n then cG else d.ta m} _ _ _ FZ:=⟨L3.ins,L3.own,L3.ord,L3.hw,L3.hr,L3.ht,L3.hg,L3.row,L3.nd,L3.fz,L3.fzt⟩;refine L6.rows fun m hm=> ?_
   have ua:m∈names (ahv {B with senses:=B.senses++ [⟨n,t,0⟩]} x (agd a n)):=by rw[jR];exact hm
   obtain⟨y,hy,rfl⟩:=aY.mp ua;show(entryAt _ y.name).senses=_;rw[bp pZ hy];obtain⟨z,hz,q⟩:=kY.mp hy;by_cases e:z.name=x
   .rw[afh e]at q;subst q;show agd a n z.senses=if z.name=x then _ else _
    rw[afh e];show _=agd a n (entryAt B x).senses;rw[<-e,bp hB.wf hz]
   .rw[afc e]at q;subst q;show z.senses=if z.name=x then _ else _
    rw[afc e];show _=(entryAt B z.name).senses;rw[bp hB.wf hz]
  .have:=dm d.tk (afx (n:Int):br) (.ref cG);have:=hB.lt;show(dR d.tk _ _).length<=_;omega
  .have:=dm d.gk (afx (n:Int):br) (.int 0);have:=hB.lg;show(dR d.gk _ _).length<=_;omega
  .rw[(oN (b:={B with senses:=B.senses++ [⟨n,t,0⟩]}) (a:=a) (n:=n) hB.wf.en hx).length_eq];exact ajq hB.ls
  .rw[qS];exact hB.dt.gZ eX (by show V.ref (if n=n then cG else _)=_;rw[afh rfl]) fun m _ hm=>by show V.ref (if m=n then cG else _)=_;rw[afc hm]
  .rw[qS];have Xb:∀y∈B.senses,y∈(ahv {B with senses:=B.senses++ [⟨n,t,0⟩]} x (agd a n)).senses:=fun y hy=>afY _ hy
   refine hB.dg.gZ eX ?_ fun m hm gh=> ?_
   .have:=eL pZ (x:=⟨n,t,0⟩) (afI _ (by simp));show vn (afr _ n).points=_;rw[this];rfl
   .obtain⟨y,hy,rfl⟩:=dB.mp hm;show vn (afr _ y.name).points=_;rw[eL pZ (Xb y hy),eL hB.wf hy]
  .intro y hy;obtain⟨z,hz,q⟩:=kY.mp hy;have e1:y.name=z.name/\y.word=z.word:=by
    rw[<-q];split<;>exact⟨rfl,rfl⟩
   rw[e1.1,e1.2];exact⟨(hB.word z hz).1,Ah _ _ (hB.word z hz).2 (nF _ (hB.word z hz).1)⟩
  .intro y hy;have Sg:y∈B.senses\/y∈ [(⟨n,t,0⟩:aiY)]:=afL.mp hy;rcases Sg with q|q
   .show(if y.name=n then cG else _)∈FZ/\NL _ (if y.name=n then cG else _) _;rw[afc (fun z=>hn (by rw[<-z];exact dB.mpr ⟨y,q,rfl⟩))];exact⟨(hB.text y q).1,Ah _ _ (hB.text y q).2 (nF _ (hB.text y q).1)⟩
   .have q':y=⟨n,t,0⟩:=by simpa using q
    subst q';show(if n=n then cG else _)∈FZ/\NL _ (if n=n then cG else _) _;rw[afh rfl];exact⟨RH,Ah _ _ r8 (nF _ RH)⟩
 .intro c hc;rcases sv.mp hc with z|⟨y,hy,q⟩
  .exact .inl (wz z)
  .have ua:y.name∈names (ahv {B with senses:=B.senses++ [⟨n,t,0⟩]} x (agd a n)):=aY.mpr ⟨y,hy,rfl⟩;rw[jR]at ua;rw[<-q];exact .inl (OJ ua)
abbrev MC:afP:=bt ip 12
theorem IM:au ["self","sense","entry"] ["self","sense"] (ai MC):=cF
theorem K4(F:b9 K "home_of" "Book.home_of" MC f fd)(T:mC K mg C):aT P w K mg base bX 1 f fd ["self","sense"] (AW C):=by
 refine cz F IM fun _ _ _ _ H _ Q E hr h=> ?_
 obtain⟨b,d,B,FZ,N,n,rfl,hB,k⟩:=h;refine⟨_,ae (cM af1 rfl (bO (az (pv 0))) (hJ 2 IM.nd)
   (af (aZ (aX jI (pv 1) (bC (bZ hr) (az (pv 0)) (pv 2)) (by with_unfolding_all rfl)) (af (aq (pv 2))) aC)))
  (af (aq ag)),?_⟩
 have L0:=hB.bq;refine⟨_,rfl,b,C,d.dx,_,_,rfl,L0.ins,T.cl,T.nO,bP,d.o,rfl,⟨_,aJ.of L0.ord⟩,cV (K:=K) (a:=d.o) (xs:=(names B).map vn) (fun i σ H'=>(∃v:Option V,σ=[some (.ref b),some (vn n),v])/\H'=H/\∀(j:Nat) (x:afm),j<i->B.entries[j]? =some x->¬n∈x.senses)
  ⟨⟨none,rfl⟩,rfl,fun j x hj=>absurd hj (aik j)⟩ (fun i σ H' _ ⟨_,e,_⟩=>by rw[e];exact aJ.of L0.ord) ?_ ?_⟩
 .rintro i y σ H' hi ⟨⟨v,rfl⟩,rfl,e9⟩;obtain⟨e,he,rfl⟩:=eg hi;obtain⟨x,hx,rfl⟩:∃x,B.entries[i]? =some x/\x.name=e:=by
   unfold names at he;rw[afw]at he;cases q:B.entries[i]? with
   |none=>rw[q]at he;cases he
   |some x=>rw[q]at he;exact⟨x,rfl,aft he⟩
  have px:x∈B.entries:=afo hx;have wy:x.name∈names B:=aY.mpr ⟨x,px,rfl⟩;refine⟨_,rfl,_,rfl,b,C,d.dx,_,_,rfl,L0.ins,T.cl,T.nR,du,_,rfl,d.r,_,rfl,by
   have:=ei.k (k:=afx (x.name:Int)) L0.hr;rw[hB.dr.get wy]at this;exact this,d.ra x.name,_,rfl,.inl (aJ.of (hB.row px)),rfl,g9 _,_,rfl,?_⟩
  show if Fq (vn n) (x.senses.map vn)=true then _ else _
  rw[kQ];refine aW (fun e=> ?_) (fun e=> ?_)
  .have hn:n∈x.senses:=aff e;refine⟨_,rfl,?_⟩;show Q (vn x.name) H';rw[<-gv hB.wf px hn];exact k
  .refine⟨⟨_,rfl⟩,rfl,fun j z hj hz=> ?_⟩;by_cases q:j<i
   .exact e9 j z q hz
   .have:j=i:=by omega
    subst this;rw[hx]at hz;cases hz;exact fun hn=>e (afj hn)
 .rintro σ H' ⟨⟨v,rfl⟩,rfl,e9⟩;have:agx B n=0:=jV fun hn=>by
   obtain⟨x,hx,OA⟩:=dH.mp hn;obtain⟨j,hj⟩:=aga hx;refine e9 j x ?_ hj OA;rw[ae9];unfold names;rw[ae9];exact(afd.mp hj).1
  rw[this]at k;exact k
theorem yo(n:Nat):∀l:List Nat,((l.map fun m:Nat=>(m:Int)).erase (n:Int)).map V.int=(l.erase n).map vn
 | []=>rfl
 |m::l=>by
  rw[af9];by_cases e:m=n
  .subst e;rw[ajC,ajC,wI]
  .rw[aiy (by simpa using(show¬(m:Int)=(n:Int) by omega)),aiy (by simpa using e),af9,af9,yo n l]
inductive NH(x:V)(vs:List V)(H:Hp)(Q:VK):Prop|m:∀(l:afb) (ns:List Nat) (n:Nat),x= .ref l->vs=[vn n]->NL H l ns->n∈ns->Q .gw (aE H l (.ba ((ns.erase n).map vn)))->NH x vs H Q
theorem wL:Qc X "list.remove" NH:=by
 intro pins s σ H x vs v us Q I rx rv h;obtain⟨l,ns,n,rfl,rfl,hH,hn,q⟩:=h;refine Ea pins s σ H _ _ v us Q I rx rv ⟨l,ns.map fun m:Nat=>(m:Int),n,rfl,rfl,by rw[hH,wI],afH.mpr ⟨n,hn,rfl⟩,?_⟩;rw[yo];exact q
theorem iP{n:Nat}:∀{l:List Nat},l.Nodup->l.erase n=l.filter fun y=>y !=n
 | [],_=>rfl
 |m::l,h=>by
  rw[afE]at h;by_cases e:m=n
  .subst e;rw[ajC,afS,afc (by simp),aiH.mpr];intro y hy;have:¬y=m:=fun z=>h.1 (by rw[<-z];exact hy)
   simpa using this
  .rw[aiy (by simpa using e),afS,afh (by simpa using e),iP h.2]
theorem qR{l:List afm}(h:(l.flatMap fun e=>e.senses).Nodup)(hx:x∈l):x.senses.Nodup:=by
 induction l with
 |nil=>exact nomatch hx
 |cons y l ih=>
  rw[agg,ahd]at h;rcases afv.mp hx with e|hx
  .rw[e];exact h.1
  .exact ih h.2.1 hx
inductive C8(C:afb)(vs:List V)(H:Hp)(Q:VK)(E:XK):Prop|m:∀(b:afb) (d:BA) (B:af8) (FZ:List afb) (N n:Nat),vs=[.ref b,vn n]->aV C H b d B FZ N->n∈aD B->Q .gw (aE H (d.ra (agx B n)) (.ba (((dz B (agx B n)).filter fun y=>y !=n).map vn)))->C8 C vs H Q E
inductive o5(C:afb)(vs:List V)(H:Hp)(Q:VK)(E:XK):Prop|m:∀(b dx o w r t g:afb) (tk gk:List (br×V)) (n:Nat) (v v':V),vs=[.ref b,vn n]->H b=some (.ins C dx (oj o w r t g))->b≠t->t≠g->H t=some (.dK tk)->H g=some (.dK gk)->ee tk (afx (n:Int))=some v->ee gk (afx (n:Int))=some v'->Q .gw (aE (aE H t (.dK (cU tk (afx (n:Int))))) g (.dK (cU gk (afx (n:Int)))))->o5 C vs H Q E
abbrev Q8:afP:=bt ip 13
theorem S7:au ["self","sense"] ["self","sense"] (ai Q8):=cF
theorem O6(F:b9 K "take_out" "Book.take_out" Q8 f fd)(T:mC K mg C)(mH:zG P w K mg base 1 C "home_of" ["self","sense"] (AW C) fh fX):aT P w K mg base bX 2 f fd ["self","sense"] (C8 C):=by
 refine cz F S7 fun _ _ _ _ H _ Q E hr h=> ?_
 obtain⟨b,d,B,FZ,N,n,rfl,hB,hn,k⟩:=h;refine⟨_,af (aI (cy afq aid aiL wL (bC (bZ hr) (az (pv 0)) (hG (pv 0) T.cl mH.me mH.ok hr mH.bi .nil bw (aa (pv 1) ab))) (aa (pv 1) ab))),?_⟩;have L0:=hB.bq;have uk:=(hB.wf.same n).mpr hn;obtain⟨h1,h2,h3⟩:=iu hB.wf uk;have Fp:=L0.row _ h1;refine⟨_,rfl,b,C,d.dx,_,_,rfl,L0.ins,T.cl,T.nR,du,_,rfl,b,d.dx,_,rfl,L0.ins,bF (by decide+kernel),_,rfl,b,d,B,FZ,N,n,rfl,hB,d.r,.ref (d.ra (agx B n)),rfl,by
  have:=ei.k (k:=afx (agx B n:Int)) L0.hr;rw[hB.dr.get h1]at this;exact this,.inl ⟨rfl,_,aJ.of Fp⟩,_,rfl,d.ra (agx B n),_,n,rfl,rfl,Fp,h3,?_⟩
 rw[iP (qR hB.wf.an (eZ hB.wf h1).1)];exact k
abbrev Bu:afP:=bt ip 14
theorem IJ:au ["self","sense"] ["self","sense"] (ai Bu):=cF
theorem En(F:b9 K "forget" "Book.forget" Bu f fd)(T:mC K mg C):aT P w K mg base bX 1 f fd ["self","sense"] (o5 C):=by
 refine cz F IJ fun _ _ _ _ H _ Q E hr h=> ?_
 obtain⟨b,dx,o,w,r,t,g,tk,gk,n,v,v',rfl,hb,hbt,htg,ht,hg,hv,JG,k⟩:=h;refine⟨_,ae (aI (oJ (az (pv 0)) (pv 1) ⟨rfl,rfl,rfl,rfl⟩)) (af (aI (oJ (az (pv 0)) (pv 1) ⟨rfl,rfl,rfl,rfl⟩))),?_⟩;refine⟨_,rfl,b,C,dx,_,_,rfl,hb,T.cl,T.nT,gi,t,rfl,.inl ⟨_,.inl ht⟩,_,rfl,tk,afx (n:Int),v,ht,rfl,hv,?_⟩;have hb1:aE H t (.dK (cU tk (afx (n:Int)))) b=some (.ins C dx (oj o w r t g)):=by rw[ao hbt];exact hb
 have Y9:aE H t (.dK (cU tk (afx (n:Int)))) g=some (.dK gk):=by rw[ao (agU htg)];exact hg
 exact⟨_,rfl,b,C,dx,_,_,rfl,hb1,T.cl,T.nG,dN,g,rfl,.inl ⟨_,.inl Y9⟩,_,rfl,gk,afx (n:Int),v',Y9,rfl,JG,k⟩
inductive xD(C:afb)(vs:List V)(H:Hp)(Q:VK)(E:XK):Prop|m:∀(b:afb) (d:BA) (B:af8) (FZ:List afb) (N e a:Nat),vs=[.ref b,vn e,vn a]->aV C H b d B FZ N->N<100000->e∈names B->(a≠0->a∈names B/\a≠e)->kx C H b d B {B with entries:=ahf a (entryAt B e) (B.entries.filter fun y=>y.name !=e)} FZ (N+1) Q->xD C vs H Q E
inductive xE(C:afb)(vs:List V)(H:Hp)(Q:VK)(E:XK):Prop|m:∀(b:afb) (d:BA) (B:af8) (FZ:List afb) (N n x a:Nat),vs=[.ref b,vn n,vn x,vn a]->aV C H b d B FZ N->N<100000->n∈aD B->x∈names B->(a≠0->a∈dz B x/\a≠n)->kx C H b d B (ahv (ait B n) x (agd a n)) FZ (N+1) Q->xE C vs H Q E
inductive xp(C:afb)(vs:List V)(H:Hp)(Q:VK)(E:XK):Prop|m:∀(b:afb) (d:BA) (B:af8) (FZ:List afb) (N n:Nat),vs=[.ref b,vn n]->aV C H b d B FZ N->n∈aD B->kx C H b d B {ait B n with senses:=B.senses.filter fun x=>x.name !=n} FZ N Q->xp C vs H Q E
theorem qZ(h:∀e,e∈names B'->e∈names B):Gr H (bS b d B) (bS b d B'):=fun c hc=>by
 rcases sv.mp hc with z|⟨x,hx,q⟩
 .exact .inl (wz z)
 .rw[<-q];exact .inl (OJ (h _ (aY.mpr ⟨x,hx,rfl⟩)))
theorem uO(h:¬n∈l):l.filter (fun y=>y !=n)=l:=aiH.mpr fun y hy=>by
 have:¬y=n:=fun z=>h (by rw[<-z];exact hy)
 simpa using this
abbrev F9:afP:=bt ip 8
theorem LO:au ["self","entry","behind"] ["self","entry","behind"] (ai F9):=cF
theorem HN(F:b9 K "move_entry" "Book.move_entry" F9 f fd)(T:mC K mg C)(cP:jw P w K mg base 1 "put_behind" ["row","name","behind"] vC fp fY):aT P w K mg base bX 2 f fd ["self","entry","behind"] (xD C):=by
 refine cz F LO fun _ _ _ _ H _ Q E hr h=> ?_
 obtain⟨b,d,B,FZ,N,e,a,rfl,hB,hN,he,ha,k⟩:=h;refine⟨_,ae (aI (cy afq aid aiL wL (az (pv 0)) (aa (pv 1) ab)))
  (af (aI (bh cP.ok hr rfl cP.mg cP.kp cP.bi .nil bw (aa (az (pv 0)) (aa (pv 1) (aa (pv 2) ab)))))),?_⟩
 have L0:=hB.bq;refine⟨_,rfl,b,C,d.dx,_,_,rfl,L0.ins,T.cl,T.nO,bP,.inl ⟨rfl,_,aJ.of L0.ord⟩,_,rfl,d.o,_,e,rfl,rfl,L0.ord,he,?_⟩;have L1:=L0.LY ((names B).erase e);have bY:((names B).erase e).length<=N:=afu (List.length_erase_le) hB.le;refine⟨_,rfl,b,C,d.dx,_,_,rfl,L1.ins,T.cl,T.nO,bP,_,rfl,_,rfl,d.o,e,a,_,rfl,L1.ord,fun h0=>(List.mem_erase_of_ne (ha h0).2).mpr (ha h0).1,b8 (by omega),?_⟩;have mq:=L1.LY (agd a e ((names B).erase e));have pZ:=hB.wf.moveEntry (a:=a) he;have hp:=lj (a:=a) hB.wf he;have R8:(names {B with entries:=ahf a (entryAt B e) (B.entries.filter fun y=>y.name !=e)}).Perm (names B):=hp.map _;have jR:names {B with entries:=ahf a (entryAt B e) (B.entries.filter fun y=>y.name !=e)}=agd a e ((names B).erase e):=by
  show(ahf a (entryAt B e) (B.entries.filter fun y=>y.name !=e)).map (fun e=>e.name)=_;rw[gO,(eZ hB.wf he).2,j1,iP hB.wf.en]
 have u7:Kp (bS b d B) H (aE H d.o (.ba (((names B).erase e).map vn))):=Kp.gZ (wz (by simp));have fA:=dQ (o:= .ba ((agd a e ((names B).erase e)).map vn)) u7 (.inl (wz (B:=B) (b:=b) (d:=d) (a:=d.o) (by simp)));have nF:∀c∈FZ,¬c∈bS b d B:=fun c hc z=>L0.fz c z hc
 refine k _ d ?_ fA (qZ fun m hm=>R8.mem_iff.mp hm);refine{wf:=pZ,bq:= ?_,lw:=afK hB.lw,lr:=afK hB.lr,lt:=afK hB.lt,lg:=afK hB.lg,le:=by rw[R8.length_eq];exact afK hB.le,ls:=by rw[show(afD {B with entries:=ahf a (entryAt B e) (B.entries.filter fun y=>y.name !=e)}).length=_ from(iW hp).length_eq];exact afK hB.ls,dw:=hB.dw.same (fun m=>R8.mem_iff) fun _ _=>rfl,dr:=hB.dr.same (fun m=>R8.mem_iff) fun _ _=>rfl,dt:=hB.dt,dg:=hB.dg,word:= ?_,text:= ?_}
 .have L3:=mq.sub (ks':=names {B with entries:=ahf a (entryAt B e) (B.entries.filter fun y=>y.name !=e)}) pZ.en fun m hm=>R8.mem_iff.mp hm
  have L4:=L3.rows (row':=dz {B with entries:=ahf a (entryAt B e) (B.entries.filter fun y=>y.name !=e)}) fun m hm=>by
   obtain⟨x,hx,rfl⟩:=aY.mp hm;show(entryAt _ x.name).senses=(entryAt B x.name).senses;rw[bp pZ hx,bp hB.wf (hp.mem_iff.mp hx)]
  exact{L4 with ord:=by rw[jR];exact L4.ord}
 .exact fun x hx=>⟨(hB.word x (hp.mem_iff.mp hx)).1,fA _ _ (hB.word x (hp.mem_iff.mp hx)).2 (nF _ (hB.word x (hp.mem_iff.mp hx)).1)⟩
 .exact fun x hx=>⟨(hB.text x hx).1,fA _ _ (hB.text x hx).2 (nF _ (hB.text x hx).1)⟩
abbrev Ga:afP:=bt ip 9
theorem LP:au ["self","sense","entry","behind"] ["self","sense","entry","behind"] (ai Ga):=cF
theorem HP{fo:afb}{VQ:afC}(F:b9 K "move_sense" "Book.move_sense" Ga f fd)(T:mC K mg C)(cP:jw P w K mg base 1 "put_behind" ["row","name","behind"] vC fp fY)(mO:zG P w K mg base 2 C "take_out" ["self","sense"] (C8 C) fo VQ):aT P w K mg base bX 3 f fd ["self","sense","entry","behind"] (xE C):=by
 refine cz F LP fun _ _ _ _ H _ Q E hr h=> ?_
 obtain⟨b,d,B,FZ,N,n,x,a,rfl,hB,hN,hn,hx,ha,k⟩:=h;refine⟨_,ae (aI (hG (pv 0) T.cl mO.me mO.ok hr mO.bi .nil bw (aa (pv 1) ab)))
  (af (aI (bh cP.ok (hr.fJ (by decide)) rfl cP.mg cP.kp cP.bi .nil bw (aa (bC (bZ hr) (az (pv 0)) (pv 2)) (aa (pv 1) (aa (pv 3) ab)))))),?_⟩
 have L0:=hB.bq;have uk:=(hB.wf.same n).mpr hn;obtain⟨h1,h2,h3⟩:=iu hB.wf uk;refine⟨_,rfl,b,d.dx,_,rfl,L0.ins,bF (by decide+kernel),_,rfl,b,d,B,FZ,N,n,rfl,hB,hn,?_⟩;have L1:=L0.xj h1 ((dz B (agx B n)).filter fun y=>y !=n);have jE:∀z∈B.entries,(if z.name=agx B n then(dz B (agx B n)).filter (fun y=>y !=n)else dz B z.name)=z.senses.filter fun y=>y !=n:=fun z hz=>by
  by_cases e:z.name=agx B n
  .rw[afh e,<-e];show((entryAt B z.name).senses).filter _=_;rw[bp hB.wf hz]
  .rw[afc e];show(entryAt B z.name).senses=_;rw[bp hB.wf hz,uO fun q=>e (gv hB.wf hz q).symm]
 obtain⟨Nf,wy⟩:=eZ hB.wf hx;have Zs:=jE _ Nf;rw[wy]at Zs;have bY:((dz B x).filter fun y=>y !=n).length<=N:=afu (af6 _ _) (hB.IA Nf);have Nc:=L1.row x hx;rw[Zs]at Nc;refine⟨_,rfl,b,C,d.dx,_,_,rfl,L1.ins,T.cl,T.nR,du,_,rfl,d.r,.ref (d.ra x),rfl,by
  have:=ei.k (k:=afx (x:Int)) L1.hr;rw[hB.dr.get hx]at this;exact this,_,rfl,_,rfl,d.ra x,n,a,_,rfl,Nc,fun h0=>afM.mpr ⟨(ha h0).1,by simpa using(ha h0).2⟩,b8 (by have:((entryAt B x).senses.filter fun y=>y !=n).length<=N:=bY;omega),?_⟩
 have mq:=L1.xj hx (agd a n ((dz B x).filter fun y=>y !=n));have pZ:=hB.wf.moveSense (a:=a) hn hx;have jR:names (ahv (ait B n) x (agd a n))=names B:=(fC _ _ _).trans (dI _ _);have u7:Kp (bS b d B) H (aE H (d.ra (agx B n)) (.ba (((dz B (agx B n)).filter fun y=>y !=n).map vn))):=Kp.gZ (OJ h1);have fA:=dQ (o:= .ba ((agd a n ((dz B x).filter fun y=>y !=n)).map vn)) u7 (.inl (OJ (b:=b) (d:=d) hx));have nF:∀c∈FZ,¬c∈bS b d B:=fun c hc z=>L0.fz c z hc
 have eX:∀{y},y∈(ahv (ait B n) x (agd a n)).entries->∃z∈B.entries,y.name=z.name/\y.word=z.word/\y.senses=if z.name=x then agd a n (z.senses.filter fun y=>y !=n)else z.senses.filter fun y=>y !=n:=fun{y} hy=>by
  obtain⟨z1,hz1,q1⟩:=kY.mp hy;obtain⟨z,hz,q⟩:=pN.mp hz1;refine⟨z,hz,?_⟩;subst q;subst q1;try dsimp only
  by_cases e:z.name=x
  .rw[afh e,afh e];exact⟨rfl,rfl,rfl⟩
  .rw[afc e,afc e];exact⟨rfl,rfl,rfl⟩
 refine k _ d ?_ fA (qZ fun m hm=>by rw[<-jR];exact hm);refine{wf:=pZ,bq:= ?_,lw:=afK hB.lw,lr:=afK hB.lr,lt:=afK hB.lt,lg:=afK hB.lg,le:=by rw[jR];exact afK hB.le,ls:= ?_,dw:=by rw[jR];exact hB.dw,dr:=by rw[jR];exact hB.dr,dt:=hB.dt,dg:=hB.dg,word:= ?_,text:= ?_}
 .rw[jR];refine mq.rows fun m hm=> ?_
  have ua:m∈names (ahv (ait B n) x (agd a n)):=by rw[jR];exact hm
  obtain⟨y,hy,rfl⟩:=aY.mp ua;show(entryAt _ y.name).senses=_;rw[bp pZ hy];obtain⟨z,hz,q1,_,q3⟩:=eX hy;rw[q3,q1];by_cases e:z.name=x
  .rw[afh e,afh e,<-e];show _=agd a n ((entryAt B z.name).senses.filter _);rw[bp hB.wf hz]
  .rw[afc e,afc e];exact(jE z hz).symm
 .have h4:=oN (b:=ait B n) (x:=x) (n:=n) (a:=a) (by rw[dI];exact hB.wf.en) (by rw[dI];exact hx);rw[h4.length_eq,afp,j4];exact ajq (afu (af6 _ _) hB.ls)
 .intro y hy;obtain⟨z,hz,q1,q2,_⟩:=eX hy;rw[q1,q2];exact⟨(hB.word z hz).1,fA _ _ (hB.word z hz).2 (nF _ (hB.word z hz).1)⟩
 .exact fun y hy=>⟨(hB.text y hy).1,fA _ _ (hB.text y hy).2 (nF _ (hB.text y hy).1)⟩
abbrev FP:afP:=bt ip 11
theorem Lz:au ["self","sense"] ["self","sense"] (ai FP):=cF
theorem Hs{fo fg:afb}{VQ VP:afC}(F:b9 K "drop_sense" "Book.drop_sense" FP f fd)(T:mC K mg C)(mO:zG P w K mg base 2 C "take_out" ["self","sense"] (C8 C) fo VQ)(mF:zG P w K mg base 1 C "forget" ["self","sense"] (o5 C) fg VP):aT P w K mg base bX 3 f fd ["self","sense"] (xp C):=by
 refine cz F Lz fun _ _ _ _ H _ Q E hr h=> ?_
 obtain⟨b,d,B,FZ,N,n,rfl,hB,hn,k⟩:=h;refine⟨_,ae (aI (hG (pv 0) T.cl mO.me mO.ok hr mO.bi .nil bw (aa (pv 1) ab)))
  (af (aI (hG (pv 0) T.cl mF.me mF.ok (hr.fJ (by decide)) mF.bi .nil bw (aa (pv 1) ab)))),?_⟩
 have L0:=hB.bq;have uk:=(hB.wf.same n).mpr hn;obtain⟨h1,h2,h3⟩:=iu hB.wf uk;refine⟨_,rfl,b,d.dx,_,rfl,L0.ins,bF (by decide+kernel),_,rfl,b,d,B,FZ,N,n,rfl,hB,hn,?_⟩;have L1:=L0.xj h1 ((dz B (agx B n)).filter fun y=>y !=n);refine⟨_,rfl,b,d.dx,_,rfl,L1.ins,bF (by decide+kernel),_,rfl,b,d.dx,d.o,d.w,d.r,d.t,d.g,d.tk,d.gk,n,_,_,rfl,L1.ins,L1.ne (i:=0) (j:=5) rfl rfl (by decide),L1.ne (i:=5) (j:=6) rfl rfl (by decide),L1.ht,L1.hg,hB.dt.get hn,hB.dg.get hn,?_⟩;have mq:=(L1.LZ (cU d.tk (afx (n:Int)))).LX (cU d.gk (afx (n:Int)));have pZ:=hB.wf.dropSense (s:=n);have jR:names {ait B n with senses:=B.senses.filter fun x=>x.name !=n}=names B:=dI B n;have qS:aD {ait B n with senses:=B.senses.filter fun x=>x.name !=n}=(aD B).filter fun y=>y !=n:=hZ B.senses fun y=>y !=n
 have eX:∀m,m∈aD {ait B n with senses:=B.senses.filter fun x=>x.name !=n}↔m≠n/\m∈aD B:=fun m=>by
  rw[qS,afM];exact⟨fun z=>⟨by simpa using z.2,z.1⟩,fun z=>⟨z.2,by simpa using z.1⟩⟩
 have u7:Kp (bS b d B) H (aE H (d.ra (agx B n)) (.ba (((dz B (agx B n)).filter fun y=>y !=n).map vn))):=Kp.gZ (OJ h1);have fA:=dQ (o:= .dK (cU d.tk (afx (n:Int)))) u7 (.inl (wz (B:=B) (b:=b) (d:=d) (a:=d.t) (by simp)));have Ah:=dQ (o:= .dK (cU d.gk (afx (n:Int)))) fA (.inl (wz (B:=B) (b:=b) (d:=d) (a:=d.g) (by simp)));have nF:∀c∈FZ,¬c∈bS b d B:=fun c hc z=>L0.fz c z hc
 refine k _ {d with tk:=cU d.tk (afx (n:Int)),gk:=cU d.gk (afx (n:Int))} ?_ Ah (fun c hc=>qZ (B':={ait B n with senses:=B.senses.filter fun x=>x.name !=n}) (fun m hm=>by rw[<-jR];exact hm) c hc);refine{wf:=pZ,bq:= ?_,lw:=hB.lw,lr:=hB.lr,lt:=afu (iZ _ _) hB.lt,lg:=afu (iZ _ _) hB.lg,le:=by rw[jR];exact hB.le,ls:= ?_,dw:=by rw[jR];exact hB.dw,dr:=by rw[jR];exact hB.dr,dt:=hB.dt.drop eX fun _ _=>rfl,dg:=hB.dg.drop eX fun m hm=> ?_,word:= ?_,text:= ?_}
 .rw[jR];refine mq.rows fun m hm=> ?_
  have ua:m∈names {ait B n with senses:=B.senses.filter fun x=>x.name !=n}:=by rw[jR];exact hm
  obtain⟨y,hy,rfl⟩:=aY.mp ua;show(entryAt _ y.name).senses=_;rw[bp pZ hy];obtain⟨z,hz,rfl⟩:=pN.mp hy;show z.senses.filter _=if z.name=_ then _ else _
  by_cases e:z.name=agx B n
  .rw[afh e,<-e];show _=((entryAt B z.name).senses).filter _;rw[bp hB.wf hz]
  .rw[afc e];show _=(entryAt B z.name).senses;rw[bp hB.wf hz,uO fun q=>e (gv hB.wf hz q).symm]
 .rw[show afD {ait B n with senses:=B.senses.filter fun x=>x.name !=n}=_ from j4 B n];exact afu (af6 _ _) hB.ls
 .obtain⟨y,hy,rfl⟩:=dB.mp hm;show vn (afr _ y.name).points=vn (afr B y.name).points;rw[eL pZ hy,eL hB.wf (afM.mp hy).1]
 .intro y hy;obtain⟨z,hz,rfl⟩:=pN.mp hy;exact⟨(hB.word z hz).1,Ah _ _ (hB.word z hz).2 (nF _ (hB.word z hz).1)⟩
 .intro y hy;have hz:=(afM.mp hy).1;exact⟨(hB.text y hz).1,Ah _ _ (hB.text y hz).2 (nF _ (hB.text y hz).1)⟩
inductive xo(C:afb)(vs:List V)(H:Hp)(Q:VK)(E:XK):Prop|m:∀(b:afb) (d:BA) (B:af8) (FZ:List afb) (N e:Nat),vs=[.ref b,vn e]->aV C H b d B FZ N->e∈names B->kx C H b d B {B with entries:=B.entries.filter fun y=>y.name !=e,senses:=B.senses.filter fun y=> !(entryAt B e).senses.contains y.name} FZ N Q->xo C vs H Q E
inductive jO(C:afb)(vs:List V)(H:Hp)(Q:VK)(E:XK):Prop|m:∀(b:afb) (d:BA) (B:af8) (FZ:List afb) (N:Nat),vs=[.ref b]->aV C H b d B FZ N->N<100000->(∀(H':Hp) (l:afb),H l=none->NL H' l (afD B)->ax H H'->Q (.ref l) H')->jO C vs H Q E
theorem aS{α:Type}:∀{l:List α} {i:Nat} {x:α},l[i]? =some x->l.take (i+1)=l.take i++ [x]
 | [],i,x,h=>by simp at h
 |a::l,0,x,h=>by
  have e:a=x:=aft h;subst e;rfl
 |a::l,i+1,x,h=>by
  have ih:=aS (l:=l) (i:=i) (x:=x) h;show a::l.take (i+1)=a::l.take i++ [x];rw[ih];rfl
theorem Cu(h:l.Nodup){x:Nat}(hx:l[i]? =some x):¬x∈l.take i:=fun z=>by
 obtain⟨j,hj⟩:=aga z;have Qu:j<(l.take i).length:=(afd.mp hj).1;rw[afW]at Qu;rw[akr (by omega)]at hj;have:=Nw h hj hx;omega
theorem entry_at(h:(names B)[i]? =some e):∃x,B.entries[i]? =some x/\x.name=e:=by
 unfold names at h;rw[afw]at h;cases q:B.entries[i]? with
 |none=>rw[q]at h;cases h
 |some x=>rw[q]at h;exact⟨x,rfl,aft h⟩
abbrev FO:afP:=bt ip 10
theorem xg:au ["self","entry","gone","sense"] ["self","entry"] (ai FO):=cF
theorem Hr{fg:afb}{VP:afC}(F:b9 K "drop_entry" "Book.drop_entry" FO f fd)(T:mC K mg C)(mF:zG P w K mg base 1 C "forget" ["self","sense"] (o5 C) fg VP):aT P w K mg base bX 2 f fd ["self","entry"] (xo C):=by
 refine cz F xg fun _ _ _ _ H _ Q E hr h=> ?_
 obtain⟨b,d,B,FZ,N,e,rfl,hB,he,k⟩:=h;refine⟨_,ae (aI (cy afq aid aiL wL (az (pv 0)) (aa (pv 1) ab)))
  (ae (aI (oJ (az (pv 0)) (pv 1) ⟨rfl,rfl,rfl,rfl⟩))
  (ae (cY 2 xg.nd (oJ (az (pv 0)) (pv 1) ⟨rfl,rfl,rfl,rfl⟩))
  (af (cM af1 rfl (bO (pv 2)) (hJ 3 xg.nd)
   (af (aI (hG (pv 0) T.cl mF.me mF.ok hr mF.bi .nil bw (aa (pv 3) ab)))))))),?_⟩
 have L0:=hB.bq;obtain⟨Nf,wy⟩:=eZ hB.wf he;have nF:∀c∈FZ,¬c∈bS b d B:=fun c hc z=>L0.fz c z hc
 refine⟨_,rfl,b,C,d.dx,_,_,rfl,L0.ins,T.cl,T.nO,bP,.inl ⟨rfl,_,aJ.of L0.ord⟩,_,rfl,d.o,_,e,rfl,rfl,L0.ord,he,?_⟩;have L1:=L0.LY ((names B).erase e);refine⟨_,rfl,b,C,d.dx,_,_,rfl,L1.ins,T.cl,T.nW,jz,d.w,rfl,.inl ⟨_,.inl L1.hw⟩,_,rfl,d.wk,afx (e:Int),_,L1.hw,rfl,hB.dw.get he,?_⟩;have mq:=L1.Tc (cU d.wk (afx (e:Int)));refine⟨_,rfl,b,C,d.dx,_,_,rfl,mq.ins,T.cl,T.nR,du,d.r,rfl,.inl ⟨_,.inl mq.hr⟩,_,rfl,d.rk,afx (e:Int),.ref (d.ra e),mq.hr,rfl,hB.dr.get he,?_⟩;have L3:=mq.PQ (cU d.rk (afx (e:Int)));have u7:Kp (bS b d B) H (aE H d.o (.ba (((names B).erase e).map vn))):=Kp.gZ (wz (by simp));have fA:=dQ (o:= .dK (cU d.wk (afx (e:Int)))) u7 (.inl (wz (B:=B) (b:=b) (d:=d) (a:=d.w) (by simp)));have Ah:=dQ (o:= .dK (cU d.rk (afx (e:Int)))) fA (.inl (wz (B:=B) (b:=b) (d:=d) (a:=d.r) (by simp)));have hrn:(dz B e).Nodup:=qR hB.wf.an Nf;refine⟨_,rfl,d.ra e,rfl,⟨_,aJ.of (L3.row e he)⟩,cV (K:=K) (a:=d.ra e) (xs:=(dz B e).map vn)
  (fun i σ H'=>∃(v:Option V) (tk gk:List (br×V)),σ=[some (.ref b),some (vn e),some (.ref (d.ra e)),v]/\gf C H' b {d with wk:=cU d.wk (afx (e:Int)),rk:=cU d.rk (afx (e:Int)),tk:=tk,gk:=gk} ((names B).erase e) (names B) (dz B) FZ/\
   pq tk ((aD B).filter fun m=> !((dz B e).take i).contains m) (fun n=> .ref (d.ta n))/\pq gk ((aD B).filter fun m=> !((dz B e).take i).contains m) (fun n=>vn (afr B n).points)/\tk.length<=N/\gk.length<=N/\Kp (bS b d B) H H')
  ⟨none,d.tk,d.gk,rfl,L3,?_,?_,hB.lt,hB.lg,Ah⟩ (fun i σ H' _ ⟨_,_,_,_,L,_⟩=>aJ.of (L.row e he)) ?_ ?_⟩
 .exact hB.dt.same (fun m=>by simp) fun _ _=>rfl
 .exact hB.dg.same (fun m=>by simp) fun _ _=>rfl
 .rintro i y σ H' hi ⟨v,tk,gk,rfl,L,dt,dg,lt,lg,kp⟩;obtain⟨n,hn,rfl⟩:=eg hi;have hnr:n∈dz B e:=afo hn;have qF:n∈aD B:=(hB.wf.same n).mp (dH.mpr ⟨_,Nf,hnr⟩);have JF:n∈(aD B).filter fun m=> !((dz B e).take i).contains m:=afM.mpr ⟨qF,by
   have:=Cu hrn hn;simpa using this⟩
  have hk:∀m,(m∈(aD B).filter fun m=> !((dz B e).take (i+1)).contains m)↔m≠n/\m∈(aD B).filter fun m=> !((dz B e).take i).contains m:=fun m=>by
   rw[aS hn,afM,afM];simp;constructor
   .rintro⟨h1,h2,h3⟩;exact⟨h3,h1,h2⟩
   .rintro⟨h3,h1,h2⟩;exact⟨h1,h2,h3⟩
  refine⟨_,rfl,b,d.dx,_,rfl,L.ins,bF (by decide+kernel),_,rfl,b,d.dx,d.o,d.w,d.r,d.t,d.g,tk,gk,n,_,_,rfl,L.ins,L.ne (i:=0) (j:=5) rfl rfl (by decide),L.ne (i:=5) (j:=6) rfl rfl (by decide),L.ht,L.hg,dt.get JF,dg.get JF,?_⟩;refine⟨_,cU tk (afx (n:Int)),cU gk (afx (n:Int)),rfl,(L.LZ (cU tk (afx (n:Int)))).LX (cU gk (afx (n:Int))),dt.drop hk fun _ _=>rfl,dg.drop hk fun _ _=>rfl,afu (iZ _ _) lt,afu (iZ _ _) lg,?_⟩;exact dQ (dQ kp (.inl (wz (B:=B) (b:=b) (d:=d) (a:=d.t) (by simp)))) (.inl (wz (B:=B) (b:=b) (d:=d) (a:=d.g) (by simp)))
 .rintro σ H' ⟨v,tk,gk,rfl,L,dt,dg,lt,lg,kp⟩;rw[ae9,afR]at dt dg;have pZ:=hB.wf.dropEntry he;have jR:names {B with entries:=B.entries.filter fun y=>y.name !=e,senses:=B.senses.filter fun y=> !(entryAt B e).senses.contains y.name}=(names B).filter fun y=>y !=e:=j1 B e
  have qS:aD {B with entries:=B.entries.filter fun y=>y.name !=e,senses:=B.senses.filter fun y=> !(entryAt B e).senses.contains y.name}=(aD B).filter fun y=> !(dz B e).contains y:=hZ B.senses fun y=> !(entryAt B e).senses.contains y
  have eX:∀m,m∈names {B with entries:=B.entries.filter fun y=>y.name !=e,senses:=B.senses.filter fun y=> !(entryAt B e).senses.contains y.name}↔m≠e/\m∈names B:=fun m=>by
   rw[jR,afM];exact⟨fun z=>⟨by simpa using z.2,z.1⟩,fun z=>⟨z.2,by simpa using z.1⟩⟩
  refine k _ {d with wk:=cU d.wk (afx (e:Int)),rk:=cU d.rk (afx (e:Int)),tk:=tk,gk:=gk} ?_ kp (fun c hc=>qZ (B':={B with entries:=B.entries.filter fun y=>y.name !=e,senses:=B.senses.filter fun y=> !(entryAt B e).senses.contains y.name}) (fun m hm=>((eX m).mp hm).2) c hc);refine{wf:=pZ,bq:= ?_,lw:=afu (iZ _ _) hB.lw,lr:=afu (iZ _ _) hB.lr,lt:=lt,lg:=lg,le:=by rw[jR];exact afu (af6 _ _) hB.le,ls:= ?_,dw:=hB.dw.drop eX fun _ _=>rfl,dr:=hB.dr.drop eX fun _ _=>rfl,dt:=by rw[qS];exact dt,dg:= ?_,word:= ?_,text:= ?_}
  .have L4:=L.sub pZ.en fun m hm=>((eX m).mp hm).2
   have L5:=L4.rows (row':=dz {B with entries:=B.entries.filter fun y=>y.name !=e,senses:=B.senses.filter fun y=> !(entryAt B e).senses.contains y.name}) fun m hm=>by
    obtain⟨x,hx,rfl⟩:=aY.mp hm;show(entryAt _ x.name).senses=(entryAt B x.name).senses;rw[bp pZ hx,bp hB.wf (afM.mp hx).1]
   exact{L5 with ord:=by rw[jR,<-iP hB.wf.en];exact L5.ord}
  .have hp:=iW (kO hB.wf.en Nf);rw[wy,agg]at hp;have:=hp.length_eq;rw[afa]at this;have h2:=hB.ls;show((B.entries.filter fun y=>y.name !=e).flatMap fun e=>e.senses).length<=N;have h3:(B.entries.flatMap fun e=>e.senses).length<=N:=h2;omega
  .rw[qS];refine dg.same (fun _=>aje) fun m hm=> ?_
   have ua:m∈aD {B with entries:=B.entries.filter fun y=>y.name !=e,senses:=B.senses.filter fun y=> !(entryAt B e).senses.contains y.name}:=by rw[qS];exact hm
   obtain⟨y,hy,rfl⟩:=dB.mp ua;show vn (afr _ y.name).points=vn (afr B y.name).points;rw[eL pZ hy,eL hB.wf (afM.mp hy).1]
  .intro y hy;have hz:=(afM.mp hy).1;exact⟨(hB.word y hz).1,kp _ _ (hB.word y hz).2 (nF _ (hB.word y hz).1)⟩
  .intro y hy;have hz:=(afM.mp hy).1;exact⟨(hB.text y hz).1,kp _ _ (hB.text y hz).2 (nF _ (hB.text y hz).1)⟩
abbrev BN:afP:=bt ip 3
theorem tj:au ["self","found","entry"] ["self"] (ai BN):=cF
theorem ax.new{l:afb}(h:H l=none):ax H (aE H l o):=fun b u e=>by rw[ao (ak e h)];exact e
theorem EI(F:b9 K "senses" "Book.senses" BN f fd)(T:mC K mg C):aT P w K mg base bX 1 f fd ["self"] (jO C):=by
 refine cz F tj fun _ _ _ _ H _ Q E hr h=> ?_
 obtain⟨b,d,B,FZ,N,rfl,hB,hN,k⟩:=h;refine⟨_,ae (cY 1 tj.nd (cp ab))
  (ae (cM af1 rfl (bO (az (pv 0))) (hJ 2 tj.nd)
   (af (aI (cy afq af0 af7 dJ (pv 1) (aa (bC (bZ hr) (az (pv 0)) (pv 2)) ab)))))
  (af (aq (pv 1)))),?_⟩
 refine⟨afF _,fun l hl=> ?_⟩;have s0:ax H (aE H l (.ba [])):=ax.new hl;have L0:=hB.bq;refine⟨_,rfl,b,C,d.dx,_,_,rfl,s0 _ _ L0.ins,T.cl,T.nO,bP,d.o,rfl,⟨_,aJ.of (s0 _ _ L0.ord)⟩,cV (K:=K) (a:=d.o) (xs:=(names B).map vn)
  (fun i σ H'=>∃(v:Option V),σ=[some (.ref b),some (.ref l),v]/\ax H H'/\NL H' l ((B.entries.take i).flatMap fun x=>x.senses))
  ⟨none,rfl,s0,aj⟩ (fun i σ H' _ ⟨_,_,s1,_⟩=>aJ.of (s1 _ _ L0.ord)) ?_ ?_⟩
 .rintro i y σ H' hi ⟨v,rfl,s1,uj⟩;obtain⟨e,he,rfl⟩:=eg hi;obtain⟨x,hx,rfl⟩:=entry_at he;have px:x∈B.entries:=afo hx;have wy:x.name∈names B:=aY.mpr ⟨x,px,rfl⟩;have qm:((B.entries.take (i+1)).flatMap fun x=>x.senses).length<=N:=by
   refine afu ?_ hB.ls;show _<=(B.entries.flatMap fun x=>x.senses).length
   conv=>rhs;rw[<-agI (i+1) B.entries,agF,afa]
   exact agN _ _
  rw[aS hx,agF,afa]at qm;have acy:((B.entries.take i).flatMap fun x=>x.senses).length+x.senses.length<=N:=by simpa using qm
  refine⟨_,rfl,.inl ⟨rfl,_,aJ.of uj⟩,_,rfl,b,C,d.dx,_,_,rfl,s1 _ _ L0.ins,T.cl,T.nR,du,_,rfl,d.r,.ref (d.ra x.name),rfl,by
   have:=ei.k (k:=afx (x.name:Int)) (s1 _ _ L0.hr);rw[hB.dr.get wy]at this;exact this,l,d.ra x.name,_,_,rfl,rfl,uj,s1 _ _ (hB.row px),by rw[ae9,ae9];exact agC (b8 (by omega)),?_⟩
  refine⟨_,rfl,fun c o ho=> ?_,?_⟩
  .rw[ao (ak ho hl)];exact s1 c o ho
  .rw[aS hx,agF];show L2.aE _ _ _ l=_;rw[aj,<-afB];simp
 .rintro σ H' ⟨v,rfl,s1,uj⟩;refine⟨_,rfl,?_⟩;have bY:((names B).map vn).length=B.entries.length:=by rw[ae9];unfold names;rw[ae9]
  rw[bY,afR]at uj;exact k H' l hl uj s1
inductive rn(C:afb)(vs:List V)(H:Hp)(Q:VK)(E:XK):Prop|m:∀(p dx:afb),vs=[.ref p]->H p=some (.ins C dx [])->H dx=some (.own p)->p≠dx->(∀(H':Hp) (d:BA),d.dx=dx->H' p=some (.ins C d.dx (oj d.o d.w d.r d.t d.g))->NL H' d.o []->H' d.w=some (.dK [])->H' d.r=some (.dK [])->H' d.t=some (.dK [])->H' d.g=some (.dK [])->d.wk=[]->d.rk=[]->d.tk=[]->d.gk=[]-> (∀a∈ [d.o,d.w,d.r,d.t,d.g],H a=none)->(eQ p d).Nodup->Kp [p] H H'->Q .gw H')->rn C vs H Q E
abbrev FW:afP:=bt ip 0
theorem LF:au ["self"] ["self"] (ai FW):=cF
theorem fA{p:afb}{i:HO}(hq:H q=none):Kp [p] H (aE (aE H q o) p i):=dQ (dQ (Kp.refl _ _) (.inr hq)) (.inl (by simp))
theorem yU{p x:afb}{i:HO}(h:aE (aE H q o) p i x=none):H x=none:=eV (eV h)
theorem Hy(F:b9 K "__init__" "Book.__init__" FW f fd)(T:mC K mg C):aT P w K mg base bX 1 f fd ["self"] (rn C):=by
 refine cz F LF fun _ _ _ _ H _ Q E hr h=> ?_
 obtain⟨p,dx,rfl,hp,hd,Uk,k⟩:=h;refine⟨_,ae (gx (pv 0) (cp ab) rfl) (ae (gx (pv 0) jJ rfl) (ae (gx (pv 0) jJ rfl) (ae (gx (pv 0) jJ rfl) (af (gx (pv 0) jJ rfl))))),?_⟩;refine⟨afF _,fun o ho=>⟨_,rfl,p,C,dx,[],rfl,(by rw[ao (ak hp ho)];exact hp),T.cl,T.nO,(by show 0<1000;decide),?_⟩⟩;intro w hw;have p1:aE (aE H o (.ba [])) p (.ins C dx (bJ "order" (.ref o) [])) p=some (.ins C dx (bJ "order" (.ref o) [])):=aj;refine⟨_,rfl,p,C,dx,_,rfl,(by rw[ao (ak p1 hw)];exact p1),T.cl,T.nW,(by show 1<1000;decide),?_⟩;intro r Fp;generalize e1:aE (aE H o (.ba [])) p (.ins C dx (bJ "order" (.ref o) []))=H1 at*;have p2:aE (aE H1 w (.dK [])) p (.ins C dx (bJ "words" (.ref w) (bJ "order" (.ref o) []))) p=some (.ins C dx (bJ "words" (.ref w) (bJ "order" (.ref o) []))):=aj;refine⟨_,rfl,p,C,dx,_,rfl,(by rw[ao (ak p2 Fp)];exact p2),T.cl,T.nR,(by show 2<1000;decide),?_⟩;intro t ht;generalize e2:aE (aE H1 w (.dK [])) p (.ins C dx (bJ "words" (.ref w) (bJ "order" (.ref o) [])))=H2 at*;have p3:aE (aE H2 r (.dK [])) p (.ins C dx (bJ "rows" (.ref r) (bJ "words" (.ref w) (bJ "order" (.ref o) [])))) p=some (.ins C dx (bJ "rows" (.ref r) (bJ "words" (.ref w) (bJ "order" (.ref o) [])))):=aj;refine⟨_,rfl,p,C,dx,_,rfl,(by rw[ao (ak p3 ht)];exact p3),T.cl,T.nT,(by show 3<1000;decide),?_⟩;intro g hg;generalize e3:aE (aE H2 r (.dK [])) p (.ins C dx (bJ "rows" (.ref r) (bJ "words" (.ref w) (bJ "order" (.ref o) []))))=H3 at*;have p4:aE (aE H3 t (.dK [])) p (.ins C dx (bJ "texts" (.ref t) (bJ "rows" (.ref r) (bJ "words" (.ref w) (bJ "order" (.ref o) []))))) p=some (.ins C dx (bJ "texts" (.ref t) (bJ "rows" (.ref r) (bJ "words" (.ref w) (bJ "order" (.ref o) []))))):=aj;refine⟨_,rfl,p,C,dx,_,rfl,(by rw[ao (ak p4 hg)];exact p4),T.cl,T.nG,(by show 4<1000;decide),?_⟩;generalize e4:aE (aE H3 t (.dK [])) p (.ins C dx (bJ "texts" (.ref t) (bJ "rows" (.ref r) (bJ "words" (.ref w) (bJ "order" (.ref o) [])))))=H4 at*;have c1:Kp [p] H H1:=e1▸fA ho;have c2:Kp [p] H1 H2:=e2▸fA hw;have c3:Kp [p] H2 H3:=e3▸fA Fp;have c4:Kp [p] H3 H4:=e4▸fA ht;have c5:Kp [p] H4 (aE (aE H4 g (.dK [])) p (.ins C dx (oj o w r t g))):=fA hg;have z1:∀x,H1 x=none->H x=none:=fun x hx=>by rw[<-e1]at hx;exact yU hx
 have z2:∀x,H2 x=none->H1 x=none:=fun x hx=>by rw[<-e2]at hx;exact yU hx
 have z3:∀x,H3 x=none->H2 x=none:=fun x hx=>by rw[<-e3]at hx;exact yU hx
 have z4:∀x,H4 x=none->H3 x=none:=fun x hx=>by rw[<-e4]at hx;exact yU hx
 have np:∀x,H x=none->x≠p:=fun x hx e=>by rw[e,hp]at hx;cases hx
 have nd:∀x,H x=none->x≠dx:=fun x hx e=>by rw[e,hd]at hx;cases hx
 have fo:=ho;have fw:=z1 w hw;have fr:=z1 r (z2 r Fp);have ft:=z1 t (z2 t (z3 t ht));have fg:=z1 g (z2 g (z3 g (z4 g hg)));have no:∀{x:afb},x≠p->¬x∈ [p]:=fun h=>by simpa using h
 have YB:H1 o=some (.ba []):=by rw[<-e1,ao (np o fo)];exact aj
 have YH:H2 w=some (.dK []):=by rw[<-e2,ao (np w fw)];exact aj
 have Rt:H3 r=some (.dK []):=by rw[<-e3,ao (np r fr)];exact aj
 have YG:H4 t=some (.dK []):=by rw[<-e4,ao (np t ft)];exact aj
 have YC:=c2 _ _ YB (no (np o fo));have YD:=c3 _ _ YC (no (np o fo));have YE:=c4 _ _ YD (no (np o fo));have YI:=c3 _ _ YH (no (np w fw));have YJ:=c4 _ _ YI (no (np w fw));have YF:=c4 _ _ Rt (no (np r fr));refine k _ ⟨dx,o,w,r,t,g,[],[],[],[],fun _=>0,fun _=>0,fun _=>0⟩ rfl aj (c5 _ _ YE (no (np o fo))) (c5 _ _ YJ (no (np w fw))) (c5 _ _ YF (no (np r fr))) (c5 _ _ YG (no (np t ft))) (by show L2.aE _ _ _ g=_;rw[ao (np g fg)];exact aj) rfl rfl rfl rfl ?_ ?_ ((((c1.trans c2).trans c3).trans c4).trans c5)
 .intro a ha;have:a=o\/a=w\/a=r\/a=t\/a=g:=by simpa using ha
  rcases this with e|e|e|e|e<;>rw[e]<;>assumption
 .have a1:=(np o fo).symm;have a2:=(np w fw).symm;have a3:=(np r fr).symm;have a4:=(np t ft).symm;have a5:=(np g fg).symm;have b1:=(nd o fo).symm;have b2:=(nd w fw).symm;have b3:=(nd r fr).symm;have b4:=(nd t ft).symm;have b5:=(nd g fg).symm;have d1:o≠w:=ak YB hw;have d2:o≠r:=ak YC Fp;have d3:o≠t:=ak YD ht;have d4:o≠g:=ak YE hg;have d5:w≠r:=ak YH Fp;have d6:w≠t:=ak YI ht;have d7:w≠g:=ak YJ hg;have d8:r≠t:=ak Rt ht;have d9:r≠g:=ak YF hg;have d0:t≠g:=ak YG hg;show [p,dx,o,w,r,t,g].Nodup;simp only[afE,afv,akD,or_false,akt,akk,and_true,alo];exact⟨⟨Uk,a1,a2,a3,a4,a5⟩,⟨b1,b2,b3,b4,b5⟩,⟨d1,d2,d3,d4⟩,⟨d5,d6,d7⟩,⟨d8,d9⟩,d0⟩
theorem jH{α:Type}:∀{l:List α} {i:Nat} {x:α},l.Nodup->¬x∈l->(l.set i x).Nodup
 | [],_,_,h,_=>h
 |a::l,0,x,h,hx=>by
  rw[List.set_cons_zero];rw[afE]at h⊢;exact⟨fun z=>hx (afs _ z),h.2⟩
 |a::l,i+1,x,h,hx=>by
  rw[alT];rw[afE]at h⊢;refine⟨fun z=> ?_,jH h.2 fun z=>hx (afs _ z)⟩;rcases akf z with q|q
  .exact h.1 q
  .exact hx (by rw[<-q];exact af2)
section
variable{ord:List Nat}{row:Nat->List Nat}
theorem gf.gd(h:gf C H b d ord ks row FZ)(ha:a∈eQ b d++ks.map d.ra):∃o,H a=some o:=by
 rcases afL.mp ha with z|z
 .have:a=b\/a=d.dx\/a=d.o\/a=d.w\/a=d.r\/a=d.t\/a=d.g:=by simpa using z
  rcases this with q|q|q|q|q|q|q<;>rw[q]
  .exact⟨_,h.ins⟩
  .exact⟨_,h.own⟩
  .exact⟨_,h.ord⟩
  .exact⟨_,h.hw⟩
  .exact⟨_,h.hr⟩
  .exact⟨_,h.ht⟩
  .exact⟨_,h.hg⟩
 .obtain⟨n,hn,rfl⟩:=afH.mp z;exact⟨_,h.row n hn⟩
theorem gf.KN(h:gf C H b d ord ks row FZ){x:afb}(hx:H x=none):¬x∈eQ b d++ks.map d.ra:=fun z=>by
 obtain⟨o,ho⟩:=h.gd z;rw[hx]at ho;cases ho
theorem gf.T3(h:gf C H b d ord ks row FZ){x:afb}(hx:H x=none):¬x∈FZ:=fun z=>by
 obtain⟨o,ho⟩:=h.fzt x z;rw[hx]at ho;cases ho
theorem pz{x:afb}{i u:HO}(hx:H x=none)(h:H c=some u)(hc:c≠b):L2.aE (L2.aE H x o) b i c=some u:=by
 rw[ao hc,ao (ak h hx)];exact h
theorem gf.nb(h:gf C H b d ord ks row FZ){x:afb}(hx:(eQ b d)[i]? =some x)(hi:i≠0):x≠b:=h.ne hx rfl hi
theorem gf.Ke(h:gf C H b d ord ks row FZ)(x:afb)(o i:HO):∀c∈FZ,∃o',L2.aE (L2.aE H x o) b i c=some o':=fun c hc=>by
 by_cases e:c=b
 .rw[e,aj];exact⟨_,rfl⟩
 .rw[ao e];exact h.Kd x o c hc
theorem rj{l:List afb}{x:afb}(h:a∈l.set i x):a=x\/a∈l:=(akf h).symm
theorem gf.Xh(h:gf C H b d ord ks row FZ){x:afb}(hx:H x=none)(l:List Nat):gf C (aE (aE H x (.ba (l.map vn))) b (.ins C d.dx (oj x d.w d.r d.t d.g))) b {d with o:=x} l ks row FZ where
 ins:=aj
 own:=pz hx h.own (h.nb (i:=1) rfl (by decide))
 ord:=by show L2.aE _ _ _ x=_;rw[ao (ak h.ins hx).symm];exact aj
 hw:=pz hx h.hw (h.nb (i:=3) rfl (by decide))
 hr:=pz hx h.hr (h.nb (i:=4) rfl (by decide))
 ht:=pz hx h.ht (h.nb (i:=5) rfl (by decide))
 hg:=pz hx h.hg (h.nb (i:=6) rfl (by decide))
 row:=fun e he=>pz hx (h.row e he) (h.Hc (by simp) he)
 nd:=jH (i:=2) h.nd (h.KN hx)
 fz:=fun a ha=>(rj (i:=2) (l:=eQ b d++ks.map d.ra) ha).elim (fun e=>by rw[e];exact h.T3 hx) (h.fz a)
 fzt:=h.Ke _ _ _
theorem gf.Xj(h:gf C H b d ord ks row FZ){x:afb}(hx:H x=none)(m:List (br×V)):gf C (aE (aE H x (.dK m)) b (.ins C d.dx (oj d.o x d.r d.t d.g))) b {d with w:=x,wk:=m} ord ks row FZ where
 ins:=aj
 own:=pz hx h.own (h.nb (i:=1) rfl (by decide))
 ord:=pz hx h.ord (h.nb (i:=2) rfl (by decide))
 hw:=by show L2.aE _ _ _ x=_;rw[ao (ak h.ins hx).symm];exact aj
 hr:=pz hx h.hr (h.nb (i:=4) rfl (by decide))
 ht:=pz hx h.ht (h.nb (i:=5) rfl (by decide))
 hg:=pz hx h.hg (h.nb (i:=6) rfl (by decide))
 row:=fun e he=>pz hx (h.row e he) (h.Hc (by simp) he)
 nd:=jH (i:=3) h.nd (h.KN hx)
 fz:=fun a ha=>(rj (i:=3) (l:=eQ b d++ks.map d.ra) ha).elim (fun e=>by rw[e];exact h.T3 hx) (h.fz a)
 fzt:=h.Ke _ _ _
theorem gf.Xi(h:gf C H b d ord ks row FZ){x:afb}(hx:H x=none)(m:List (br×V)):gf C (aE (aE H x (.dK m)) b (.ins C d.dx (oj d.o d.w d.r x d.g))) b {d with t:=x,tk:=m} ord ks row FZ where
 ins:=aj
 own:=pz hx h.own (h.nb (i:=1) rfl (by decide))
 ord:=pz hx h.ord (h.nb (i:=2) rfl (by decide))
 hw:=pz hx h.hw (h.nb (i:=3) rfl (by decide))
 hr:=pz hx h.hr (h.nb (i:=4) rfl (by decide))
 ht:=by show L2.aE _ _ _ x=_;rw[ao (ak h.ins hx).symm];exact aj
 hg:=pz hx h.hg (h.nb (i:=6) rfl (by decide))
 row:=fun e he=>pz hx (h.row e he) (h.Hc (by simp) he)
 nd:=jH (i:=5) h.nd (h.KN hx)
 fz:=fun a ha=>(rj (i:=5) (l:=eQ b d++ks.map d.ra) ha).elim (fun e=>by rw[e];exact h.T3 hx) (h.fz a)
 fzt:=h.Ke _ _ _
theorem gf.Xg(h:gf C H b d ord ks row FZ){x:afb}(hx:H x=none)(m:List (br×V)):gf C (aE (aE H x (.dK m)) b (.ins C d.dx (oj d.o d.w d.r d.t x))) b {d with g:=x,gk:=m} ord ks row FZ where
 ins:=aj
 own:=pz hx h.own (h.nb (i:=1) rfl (by decide))
 ord:=pz hx h.ord (h.nb (i:=2) rfl (by decide))
 hw:=pz hx h.hw (h.nb (i:=3) rfl (by decide))
 hr:=pz hx h.hr (h.nb (i:=4) rfl (by decide))
 ht:=pz hx h.ht (h.nb (i:=5) rfl (by decide))
 hg:=by show L2.aE _ _ _ x=_;rw[ao (ak h.ins hx).symm];exact aj
 row:=fun e he=>pz hx (h.row e he) (h.Hc (by simp) he)
 nd:=jH (i:=6) h.nd (h.KN hx)
 fz:=fun a ha=>(rj (i:=6) (l:=eQ b d++ks.map d.ra) ha).elim (fun e=>by rw[e];exact h.T3 hx) (h.fz a)
 fzt:=h.Ke _ _ _
end
theorem aV.same(h:aV C H b d B FZ N)(s:ax H H'):aV C H' b d B FZ N:=
 h.keep (S:=[]) (fun a o e _=>s a o e) (fun _ _=>by simp) (fun _ _=>by simp)
structure lN(mg:Str->Option afe):Prop where
 list:mg "list"=none
 dict:mg "dict"=none
 len:mg "len"=none
 range:mg "range"=none
 DF:mg "enumerate"=none
 zip:mg "zip"=none
 max:mg "max"=none
 all:mg "all"=none
 ord:mg "ord"=none
inductive lI(C:afb)(vs:List V)(H:Hp)(Q:VK)(E:XK):Prop|m:∀(b:afb) (d:BA) (B:af8) (FZ:List afb) (N:Nat),vs=[.ref b]->aV C H b d B FZ N->N<100000->(∀(H':Hp) (b':afb) (d':BA),aV C H' b' d' B FZ N->ax H H'->(∀a∈bS b' d' B,H a=none)->Q (.ref b') H')->lI C vs H Q E
abbrev Br:afP:=dC 45
theorem sT:au ["book","twin","entry"] ["book"] (ai Br):=cF
theorem El(F:b9 K "copied" "copied" Br f fd)(T:mC K mg C)(G:lN mg)(M:Mk K C fI)(oI:aT P w K mg base bX 1 fI fR ["self"] (rn C))(bI:eY K fR ["self"] []):aT P w K mg base bX 3 f fd ["book"] (lI C):=by
 refine cz F sT fun _ _ _ _ H _ Q E hr h=> ?_
 obtain⟨b,d,B,FZ,N,rfl,hB,hN,k⟩:=h;refine⟨_,ae (cY 1 sT.nd (sL M oI hr rfl T.ZI bI .nil bw))
  (ae (gx (pv 1) (gX iO rfl G.list amn (aa (az (pv 0)) ab)) rfl)
  (ae (gx (pv 1) (gX mG rfl G.dict ant (aa (az (pv 0)) ab)) rfl)
  (ae (cM af1 rfl (bO (az (pv 0))) (hJ 2 sT.nd)
   (af (iT (bZ hr) (az (pv 1)) (pv 2) (gX iO rfl G.list amn (aa (bC (bZ hr) (az (pv 0)) (pv 2)) ab)) rfl)))
  (ae (gx (pv 1) (gX mG rfl G.dict ant (aa (az (pv 0)) ab)) rfl)
  (ae (gx (pv 1) (gX mG rfl G.dict ant (aa (az (pv 0)) ab)) rfl)
  (af (aq (pv 1)))))))),?_⟩
 intro p dx np nd ne;refine⟨p,dx,rfl,aj,by rw[ao ne];exact aj,agU ne,fun H1 d1 e1 i1 io iw ir it ig kw kr kt kg fresh Xm kp=>⟨rfl,?_⟩⟩;have s1:ax H H1:=ax.made np nd fun x o h hx=>kp x o h (by simpa using hx)
 have OT:∀{x:afb},(aE (aE H dx (.own p)) p (.ins C dx [])) x=none->H x=none:=fun h=>eV (eV h)
 have n1:∀a∈eQ p d1,H a=none:=fun a ha=>by
  have:a=p\/a=d1.dx\/a=d1.o\/a=d1.w\/a=d1.r\/a=d1.t\/a=d1.g:=by simpa using ha
  rcases this with q|q|q|q|q|q|q
  .rw[q];exact np
  .rw[q,e1];exact nd
  .exact OT (fresh a (by rw[q];simp))
  .exact OT (fresh a (by rw[q];simp))
  .exact OT (fresh a (by rw[q];simp))
  .exact OT (fresh a (by rw[q];simp))
  .exact OT (fresh a (by rw[q];simp))
 have Ro:∀a∈FZ,∃o,H a=some o:=hB.bq.fzt;have L1:gf C H1 p d1 [] [] (dz B) FZ:=⟨i1,by
   rw[e1];exact kp dx _ (by rw[ao ne];exact aj) (by simpa using ne),io,by rw[kw];exact iw,by rw[kr];exact ir,by rw[kt];exact it,by rw[kg];exact ig,fun e he=>by simp at he,by rw[ajZ,af5];exact Xm,
   (fun a ha hz=>by
    rw[ajZ,af5]at ha;obtain⟨o,ho⟩:=Ro a hz;rw[n1 a ha]at ho;cases ho),fun a ha=>let⟨o,ho⟩:=Ro a ha;⟨o,s1 a o ho⟩⟩
 refine⟨_,rfl,b,C,d.dx,_,_,rfl,s1 _ _ hB.bq.ins,T.cl,T.nO,bP,d.o,_,rfl,.inl (aJ.of (s1 _ _ hB.bq.ord)),fun l hl=> ?_⟩;have mq:=L1.Xh hl (names B);have WB:p≠l:=ak i1 hl;refine⟨_,rfl,p,C,d1.dx,_,rfl,(by rw[ao WB];exact i1),T.cl,T.nO,(by show 5<1000;decide),?_⟩;have s2:ax H (aE (aE H1 l (.ba ((names B).map vn))) p (.ins C d1.dx (oj l d1.w d1.r d1.t d1.g))):=fun x o h=>pz hl (s1 x o h) (ak h np)
 refine⟨_,rfl,b,C,d.dx,_,_,rfl,s2 _ _ hB.bq.ins,T.cl,T.nW,jz,d.w,_,rfl,s2 _ _ hB.bq.hw,fun x hx=> ?_⟩;have L3:=mq.Xj hx d.wk;have WC:p≠x:=ak mq.ins hx;refine⟨_,rfl,p,C,d1.dx,_,rfl,(by rw[ao WC];exact mq.ins),T.cl,T.nW,(by show 5<1000;decide),?_⟩;have s3:ax H (aE (aE (aE (aE H1 l (.ba ((names B).map vn))) p (.ins C d1.dx (oj l d1.w d1.r d1.t d1.g))) x (.dK d.wk)) p (.ins C d1.dx (oj l x d1.r d1.t d1.g))):=fun y o h=>pz hx (s2 y o h) (ak h np)
 have hl0:H l=none:=s1.free hl;have Zx:H x=none:=s2.free hx;refine⟨_,rfl,b,C,d.dx,_,_,rfl,s3 _ _ hB.bq.ins,T.cl,T.nO,bP,d.o,rfl,⟨_,aJ.of (s3 _ _ hB.bq.ord)⟩,cV (K:=K) (a:=d.o) (xs:=(names B).map vn)
  (fun i σ H'=>∃(v:Option V) (d2:BA),σ=[some (.ref b),some (.ref p),v]/\ax H H'/\gf C H' p d2 (names B) ((names B).take i) (dz B) FZ/\pq d2.rk ((names B).take i) (fun e=> .ref (d2.ra e))/\d2.rk.length<=i/\d2.wk=d.wk/\(∀a∈eQ p d2++((names B).take i).map d2.ra,H a=none))
  ⟨none,{d1 with o:=l,w:=x,wk:=d.wk},rfl,s3,?_,?_,?_,rfl,?_⟩ (fun i σ H' _ ⟨_,_,_,s4,_⟩=>aJ.of (s4 _ _ hB.bq.ord)) ?_ ?_⟩
 .rw[ahy];exact L3
 .rw[ahy];show pq d1.rk [] _;rw[kr];intro n;rw[afc (by simp)];rfl
 .show d1.rk.length<=0;rw[kr];exact afn _
 .intro a ha;rw[ahy,ajZ,af5]at ha;have:a=p\/a=d1.dx\/a=l\/a=x\/a=d1.r\/a=d1.t\/a=d1.g:=by simpa using ha
  rcases this with q|q|q|q|q|q|q
  .rw[q];exact np
  .exact n1 a (by rw[q];simp)
  .rw[q];exact hl0
  .rw[q];exact Zx
  .exact n1 a (by rw[q];simp)
  .exact n1 a (by rw[q];simp)
  .exact n1 a (by rw[q];simp)
 .rintro i y σ H' hi ⟨v,d2,rfl,s4,L,dr,lr,TY,new⟩;obtain⟨e,he,rfl⟩:=eg hi;obtain⟨z,hz,rfl⟩:=entry_at he;have WY:z∈B.entries:=afo hz;have hzn:z.name∈names B:=aY.mpr ⟨z,WY,rfl⟩;have hnt:¬z.name∈(names B).take i:=Cu hB.wf.en he;refine⟨_,rfl,b,C,d.dx,_,_,rfl,s4 _ _ hB.bq.ins,T.cl,T.nR,du,_,rfl,d.r,.ref (d.ra z.name),rfl,by
   have:=ei.k (k:=afx (z.name:Int)) (s4 _ _ hB.bq.hr);rw[hB.dr.get hzn]at this;exact this,d.ra z.name,_,rfl,.inl (aJ.of (s4 _ _ (hB.row WY))),fun q hq=> ?_⟩
  have L5:=L.Hd hq hnt z.senses;have gV:i<(names B).length:=(afd.mp he).1;refine⟨_,rfl,p,C,d2.dx,_,_,rfl,L5.ins,T.cl,T.nR,du,_,rfl,d2.r,_,rfl,pA.k (k:=afx (z.name:Int)) L5.hr (b8 (by show d2.rk.length<=_;have:=hB.le;omega)),?_⟩;have L6:=L5.PQ (dR d2.rk (afx (z.name:Int)) (.ref q));have R9:H q=none:=s4.free hq;have eX:∀m,m∈(names B).take (i+1)↔m=z.name\/m∈(names B).take i:=fun m=>by
   rw[aS he,afL];exact⟨fun h=>h.elim .inr fun h=> .inl (by simpa using h),fun h=>h.elim (fun h=> .inr (by simpa using h)) .inl⟩
  refine⟨_,{d2 with rk:=dR d2.rk (afx (z.name:Int)) (.ref q),ra:=fun n=>if n=z.name then q else d2.ra n},rfl,fun c o h=> ?_,?_,?_,?_,TY,?_⟩
  .have Wf:c≠d2.r:=fun e2=>by
    have:=new d2.r (afY _ (by simp));rw[<-e2,h]at this;cases this
   show L2.aE _ d2.r _ c=_;rw[ao Wf,ao (ak h R9)];exact s4 c o h
  .have L7:=(L6.sub (ks':=(names B).take (i+1)) (hB.wf.en.sublist (al5 _ _)) fun m hm=>by rw[afv];exact(eX m).mp hm).rows (row':=dz B) fun m hm=>by
    by_cases e2:m=z.name
    .rw[afh e2,e2];show(entryAt B z.name).senses=_;rw[bp hB.wf WY]
    .rw[afc e2]
   exact⟨L7.ins,L7.own,L7.ord,L7.hw,L7.hr,L7.ht,L7.hg,L7.row,L7.nd,L7.fz,L7.fzt⟩
  .exact dr.gZ eX (by show V.ref (if z.name=z.name then q else _)=_;rw[afh rfl]) fun m _ hm=>by show V.ref (if m=z.name then q else _)=_;rw[afc hm]
  .have:=dm d2.rk (afx (z.name:Int):br) (.ref q);show(dR d2.rk _ _).length<=_;omega
  .intro a ha;rcases afL.mp ha with h|h
   .exact new a (afY _ h)
   .obtain⟨m,hm,q2⟩:=afH.mp h;by_cases e2:m=z.name
    .have q3:(if m=z.name then q else d2.ra m)=a:=q2;rw[afh e2]at q3;rw[<-q3];exact R9
    .have q3:(if m=z.name then q else d2.ra m)=a:=q2;rw[afc e2]at q3;exact new a (afI _ (afH.mpr ⟨m,((eX m).mp hm).resolve_left e2,q3⟩))
 .rintro σ H' ⟨v,d2,rfl,s4,L,dr,lr,TY,new⟩;rw[ae9]at lr;rw[ae9,afR]at L dr new;refine⟨_,rfl,b,C,d.dx,_,_,rfl,s4 _ _ hB.bq.ins,T.cl,T.nT,gi,d.t,_,rfl,s4 _ _ hB.bq.ht,fun y hy=> ?_⟩;have L8:=L.Xi hy d.tk;refine⟨_,rfl,p,C,d2.dx,_,rfl,(by rw[ao (ak L.ins hy)];exact L.ins),T.cl,T.nT,(by show 5<1000;decide),?_⟩;have s5:ax H (aE (aE H' y (.dK d.tk)) p (.ins C d2.dx (oj d2.o d2.w d2.r y d2.g))):=fun c o h=>pz hy (s4 c o h) (ak h np)
  refine⟨_,rfl,b,C,d.dx,_,_,rfl,s5 _ _ hB.bq.ins,T.cl,T.nG,dN,d.g,_,rfl,s5 _ _ hB.bq.hg,fun u hu=> ?_⟩;have L9:=L8.Xg hu d.gk;refine⟨_,rfl,p,C,d2.dx,_,rfl,(by rw[ao (ak L8.ins hu)];exact L8.ins),T.cl,T.nG,(by show 5<1000;decide),?_⟩;have s6:ax H (aE (aE (aE (aE H' y (.dK d.tk)) p (.ins C d2.dx (oj d2.o d2.w d2.r y d2.g))) u (.dK d.gk)) p (.ins C d2.dx (oj d2.o d2.w d2.r y u))):=fun c o h=>pz hu (s5 c o h) (ak h np)
  refine⟨_,rfl,?_⟩;have fin:aV C (aE (aE (aE (aE H' y (.dK d.tk)) p (.ins C d2.dx (oj d2.o d2.w d2.r y d2.g))) u (.dK d.gk)) p (.ins C d2.dx (oj d2.o d2.w d2.r y u))) p {d2 with t:=y,g:=u,tk:=d.tk,gk:=d.gk,wa:=d.wa,ta:=d.ta} B FZ N:=
   {wf:=hB.wf,bq:=⟨L9.ins,L9.own,L9.ord,L9.hw,L9.hr,L9.ht,L9.hg,L9.row,L9.nd,L9.fz,L9.fzt⟩,lw:=by show d2.wk.length<=N;rw[TY];exact hB.lw,lr:=afu lr hB.le,lt:=hB.lt,lg:=hB.lg,le:=hB.le,ls:=hB.ls,dw:=by show pq d2.wk _ _;rw[TY];exact hB.dw,dr:=dr,dt:=hB.dt,dg:=hB.dg,word:=fun e he=>⟨(hB.word e he).1,s6 _ _ (hB.word e he).2⟩,text:=fun e he=>⟨(hB.text e he).1,s6 _ _ (hB.text e he).2⟩}
  refine k _ p _ fin s6 fun a ha=> ?_
  have hy0:H y=none:=s4.free hy;have hu0:H u=none:=s5.free hu;rcases afL.mp ha with h|h
  .have:a=p\/a=d2.dx\/a=d2.o\/a=d2.w\/a=d2.r\/a=y\/a=u:=by simpa using h
   rcases this with q|q|q|q|q|q|q
   .exact new a (afY _ (by rw[q];simp))
   .exact new a (afY _ (by rw[q];simp))
   .exact new a (afY _ (by rw[q];simp))
   .exact new a (afY _ (by rw[q];simp))
   .exact new a (afY _ (by rw[q];simp))
   .rw[q];exact hy0
   .rw[q];exact hu0
  .exact new a (afI _ h)
def Af(nw lg ed ln:afb)(em sm:Nat):List (Str×V):=bJ "senses_made" (vn sm) (bJ "entries_made" (vn em) (bJ "lengths" (.ref ln) (bJ "editions" (.ref ed) (bJ "log" (.ref lg) (bJ "now" (.ref nw) [])))))
structure HA where
 dx:afb
 nw:afb
 lg:afb
 ed:afb
 ln:afb
 dn:BA
 eb:List (afb×BA)
 la:List (afb×afb×afb)
abbrev pI(h:afb)(D:HA):List afb:=[h,D.dx,D.lg,D.ed,D.ln]
structure i6(H:Hp)(FZ:List afb)(x:afb×afb×afb)(a:agE):Prop where
 f1:x.1∈FZ
 f2:x.2.1∈FZ
 f3:x.2.2∈FZ
 tu:H x.1=some (.dY [vn (bz a),.ref x.2.1,.ref x.2.2])
 nu:NL H x.2.1 (eO a)
 ro:NL H x.2.2 (ur a)
structure bM(CB CH:afb)(H:Hp)(h:afb)(D:HA)(em sm:Nat)(B:af8)(lg:List agE)(en:List Nat)(bs:List af8)(FZ:List afb)(N:Nat):Prop where
 ins:H h=some (.ins CH D.dx (Af D.nw D.lg D.ed D.ln em sm))
 own:H D.dx=some (.own h)
 hl:H D.lg=some (.ba (D.la.map fun x=>V.ref x.1))
 he:H D.ed=some (.ba (D.eb.map fun x=>V.ref x.1))
 hn:NL H D.ln en
 now:aV CB H D.nw D.dn B FZ N
 ll:D.la.length=lg.length
 ki:∀(i:Nat) (x:afb×afb×afb) (a:agE),D.la[i]? =some x->lg[i]? =some a->i6 H FZ x a
 el:D.eb.length=bs.length
 BV:∀(i:Nat) (x:afb×BA) (b:af8),D.eb[i]? =some x->bs[i]? =some b->aV CB H x.1 x.2 b FZ N/\∀a∈bS x.1 x.2 b,a∉pI h D/\a∉bS D.nw D.dn B
 nd:(pI h D).Nodup
 ff:∀a∈pI h D,a∉FZ/\a∉bS D.nw D.dn B
section
variable{D:HA}{lg:List agE}{en:List Nat}{bs:List af8}
theorem i6.keep{S:List afb}{x:afb×afb×afb}{a:agE}(L:i6 H FZ x a)(k:Kp S H H')(hs:∀a∈FZ,a∉S):i6 H' FZ x a:=
 ⟨L.f1,L.f2,L.f3,k _ _ L.tu (hs _ L.f1),k _ _ L.nu (hs _ L.f2),k _ _ L.ro (hs _ L.f3)⟩
theorem aV.gd{C:afb}{b:afb}{d:BA}(hB:aV C H b d B FZ N){a:afb}(ha:a∈bS b d B):∃o,H a=some o:=hB.bq.gd ha
theorem bM.UJ(W:bM CB CH H h D em sm B lg en bs FZ N)(ha:a∈pI h D):∃o,H a=some o:=by
 have:a=h\/a=D.dx\/a=D.lg\/a=D.ed\/a=D.ln:=by simpa using ha
 rcases this with q|q|q|q|q<;>rw[q]
 .exact⟨_,W.ins⟩
 .exact⟨_,W.own⟩
 .exact⟨_,W.hl⟩
 .exact⟨_,W.he⟩
 .exact⟨_,W.hn⟩
theorem bM.fz(W:bM CB CH H h D em sm B lg en bs FZ N):∀a∈FZ,a∉pI h D:=fun a ha z=>(W.ff a z).1 ha
theorem bM.re(W:bM CB CH H h D em sm B lg en bs FZ N){D':HA}{Rk Td:Nat}{W9:List agE}{Yv:List Nat}{U3:List af8}(k:Kp (pI h D) H H')(e5:pI h D'=pI h D)(VI:D'.nw=D.nw)(VJ:D'.dn=D.dn)
  (ins:H' h=some (.ins CH D'.dx (Af D'.nw D'.lg D'.ed D'.ln Rk Td))) (own:H' D'.dx=some (.own h)) (hl:H' D'.lg=some (.ba (D'.la.map fun x=>V.ref x.1))) (he:H' D'.ed=some (.ba (D'.eb.map fun x=>V.ref x.1))) (hn:NL H' D'.ln Yv)
  (hN:N<=N') (hF:∀a∈FZ,a∈cZ) (YR:∀a∈cZ,a∈FZ\/H a=none) (YS:∀a∈cZ,∃o,H' a=some o) (ll:D'.la.length=W9.length) (el:D'.eb.length=U3.length)
  (ki:∀(i:Nat) (x:afb×afb×afb) (a:agE),D'.la[i]? =some x->W9[i]? =some a->(D.la[i]? =some x/\lg[i]? =some a)\/i6 H' cZ x a)
  (BV:∀(i:Nat) (x:afb×BA) (b:af8),D'.eb[i]? =some x->U3[i]? =some b->(D.eb[i]? =some x/\bs[i]? =some b)\/(aV CB H' x.1 x.2 b cZ N'/\∀a∈bS x.1 x.2 b,H a=none)):bM CB CH H' h D' Rk Td B W9 Yv U3 cZ N':=by
 have nf:∀{b:afb} {d:BA} {X:af8},aV CB H b d X FZ N->∀a∈bS b d X,a∉cZ:=fun hB a ha z=>by
  rcases YR a z with q|q
  .exact hB.bq.fz a ha q
  .obtain⟨o,ho⟩:=hB.gd ha;rw[q]at ho;cases ho
 have n5:∀a∈pI h D,a∉cZ:=fun a ha z=>by
  rcases YR a z with q|q
  .exact(W.ff a ha).1 q
  .obtain⟨o,ho⟩:=W.UJ ha;rw[q]at ho;cases ho
 refine{ins:=ins,own:=own,hl:=hl,he:=he,hn:=hn,now:= ?_,ll:=ll,ki:=fun i x a h1 h2=> ?_,el:=el,BV:=fun i x b h1 h2=> ?_,nd:=by rw[e5];exact W.nd,ff:=fun a ha=> ?_}
 .rw[VI,VJ];exact(W.now.keep k (fun a ha z=>(W.ff a z).2 ha) W.fz).more hN hF (nf W.now) YS
 .rcases ki i x a h1 h2 with⟨q1,q2⟩|q
  .have:=(W.ki i x a q1 q2).keep k W.fz;exact⟨hF _ this.f1,hF _ this.f2,hF _ this.f3,this.tu,this.nu,this.ro⟩
  .exact q
 .rw[e5,VI,VJ];rcases BV i x b h1 h2 with⟨q1,q2⟩|⟨q1,q2⟩
  .obtain⟨q3,q4⟩:=W.BV i x b q1 q2;exact⟨(q3.keep k (fun a ha=>(q4 a ha).1) W.fz).more hN hF (nf q3) YS,q4⟩
  .refine⟨q1,fun a ha=>⟨fun z=> ?_,fun z=> ?_⟩⟩
   .obtain⟨o,ho⟩:=W.UJ z;rw[q2 a ha]at ho;cases ho
   .obtain⟨o,ho⟩:=W.now.gd z;rw[q2 a ha]at ho;cases ho
 .rw[e5]at ha;exact⟨n5 a ha,by rw[VI,VJ];exact(W.ff a ha).2⟩
theorem lZ{S:List afb}(s:ax H H'):Kp S H H':=fun a o e _=>s a o e
theorem bM.Ru(W:bM CB CH H h D em sm B lg en bs FZ N)(s:ax H H')(A:List afb)(hA:∀a∈A,H a=none/\∃o,H' a=some o):bM CB CH H' h D em sm B lg en bs (A++FZ) N:=
 W.re (lZ s) rfl rfl rfl (s _ _ W.ins) (s _ _ W.own) (s _ _ W.hl) (s _ _ W.he) (s _ _ W.hn) (afn _) (fun a ha=>afI _ ha) (fun a ha=>(afL.mp ha).elim (fun z=> .inr (hA a z).1) .inl)
  (fun a ha=>(afL.mp ha).elim (fun z=>(hA a z).2) fun z=>let⟨o,ho⟩:=W.now.bq.fzt a z;⟨o,s _ _ ho⟩) W.ll W.el (fun i x a h1 h2=> .inl ⟨h1,h2⟩) (fun i x b h1 h2=> .inl ⟨h1,h2⟩)
theorem bM.same(W:bM CB CH H h D em sm B lg en bs FZ N)(s:ax H H'):bM CB CH H' h D em sm B lg en bs FZ N:=W.Ru s [] (fun a ha=>nomatch ha)
theorem bM.count(W:bM CB CH H h D em sm B lg en bs FZ N)(Rk Td:Nat):bM CB CH (aE H h (.ins CH D.dx (Af D.nw D.lg D.ed D.ln Rk Td))) h D Rk Td B lg en bs FZ N:=by
 have n:=W.nd;have ne:∀{a:afb},a∈ [D.dx,D.lg,D.ed,D.ln]->a≠h:=fun ha z=>(afE.mp n).1 (z▸ha)
 refine W.re (D':=D) (Kp.gZ (by simp)) rfl rfl rfl aj ?_ ?_ ?_ ?_ (afn _) (fun a ha=>ha) (fun a ha=> .inl ha) (fun a ha=> ?_) W.ll W.el (fun i x a h1 h2=> .inl ⟨h1,h2⟩) (fun i x b h1 h2=> .inl ⟨h1,h2⟩)
 .rw[ao (ne (by simp))];exact W.own
 .rw[ao (ne (by simp))];exact W.hl
 .rw[ao (ne (by simp))];exact W.he
 .show L2.aE _ _ _ _=_;rw[ao (ne (by simp))];exact W.hn
 .exact W.now.bq.Kd _ _ a ha
theorem bM.act(W:bM CB CH H h D em sm B lg en bs FZ N)(hb:aV CB H' D.nw d' B' FZ N')(k:Kp (bS D.nw D.dn B) H H')(g:Gr H (bS D.nw D.dn B) (bS D.nw d' B'))(hN:N<=N'):bM CB CH H' h {D with dn:=d'} em sm B' lg en bs FZ N':=by
 have n5:∀{a:afb},a∈pI h D->a∉bS D.nw D.dn B:=fun ha=>(W.ff _ ha).2
 have fz:∀a∈FZ,a∉bS D.nw D.dn B:=fun a ha z=>W.now.bq.fz a z ha
 refine{ins:=k _ _ W.ins (n5 (by simp)),own:=k _ _ W.own (n5 (by simp)),hl:=k _ _ W.hl (n5 (by simp)),he:=k _ _ W.he (n5 (by simp)),hn:=k _ _ W.hn (n5 (by simp)),now:=hb,ll:=W.ll,ki:=fun i x a h1 h2=>(W.ki i x a h1 h2).keep k fz,el:=W.el,BV:=fun i x b h1 h2=> ?_,nd:=W.nd,ff:=fun a ha=>⟨(W.ff a ha).1,fun z=> ?_⟩}
 .obtain⟨q1,q2⟩:=W.BV i x b h1 h2;refine⟨(q1.keep k (fun a ha=>(q2 a ha).2) fz).more hN (fun _ z=>z) q1.bq.fz hb.bq.fzt,fun a ha=>⟨(q2 a ha).1,fun z=> ?_⟩⟩;rcases g a z with q|q
  .exact(q2 a ha).2 q
  .obtain⟨o,ho⟩:=q1.gd ha;rw[q]at ho;cases ho
 .rcases g a z with q|q
  .exact(W.ff a ha).2 q
  .obtain⟨o,ho⟩:=W.UJ ha;rw[q]at ho;cases ho
theorem dE{α:Type}{l:List α}{x y:α}(h:(l++ [y])[i]? =some x):l[i]? =some x\/(i=l.length/\x=y):=by
 by_cases q:i<l.length
 .rw[agK q]at h;exact .inl h
 .rw[agt (by omega)]at h;have:i-l.length=0:=by
   cases e:i-l.length with
   |zero=>rfl
   |succ n=>rw[e]at h;simp at h
  rw[this]at h;exact .inr ⟨by omega,by simpa using h.symm⟩
theorem bM.sD(W:bM CB CH H h D em sm B lg en bs FZ N){t nl rl:afb}(a:agE)(ht:H t=none)(f1:nl∈FZ)(f2:rl∈FZ)(h1:NL H nl (eO a))(h2:NL H rl (ur a))(hN:N<=N'):
  bM CB CH (aE (aE H t (.dY [vn (bz a),.ref nl,.ref rl])) D.lg (.ba ((D.la.map fun x=>V.ref x.1)++ [.ref t]))) h {D with la:=D.la++ [(t,nl,rl)]} em sm B (lg++ [a]) en bs (t::FZ) N':=by
 have n:=W.nd;have s:ax H (aE H t (.dY [vn (bz a),.ref nl,.ref rl])):=ax.new ht;have nf:∀a∈FZ,a≠D.lg:=fun a ha z=>W.fz a ha (by rw[z];simp)
 have n0:h≠D.lg:=fun z=>(afE.mp n).1 (by rw[z];simp)
 have n1:D.dx≠D.lg:=fun z=>(afE.mp (afE.mp n).2).1 (by rw[z];simp)
 have n2:D.ed≠D.lg:=fun z=>(afE.mp (afE.mp (afE.mp n).2).2).1 (by rw[z];simp)
 have n3:D.ln≠D.lg:=fun z=>(afE.mp (afE.mp (afE.mp n).2).2).1 (by rw[z];simp)
 have nt:t≠D.lg:=fun z=>by rw[z,W.hl]at ht;cases ht
 refine W.re (D':={D with la:=D.la++ [(t,nl,rl)]}) (dQ (lZ s) (.inl (by simp))) rfl rfl rfl ?_ ?_ ?_ ?_ ?_ hN (fun a ha=>afs _ ha) (fun a ha=>(afv.mp ha).elim (fun z=> .inr (z▸ht)) .inl) (fun a ha=> ?_) ?_ W.el (fun i x b q1 q2=> ?_) (fun i x b q1 q2=> .inl ⟨q1,q2⟩)
 .rw[ao n0];exact s _ _ W.ins
 .show L2.aE _ _ _ D.dx=_;rw[ao n1];exact s _ _ W.own
 .show L2.aE _ D.lg _ D.lg=_;rw[aj,afB];rfl
 .show L2.aE _ _ _ D.ed=_;rw[ao n2];exact s _ _ W.he
 .show L2.aE _ _ _ D.ln=_;rw[ao n3];exact s _ _ W.hn
 .rcases afv.mp ha with z|z
  .rw[z,ao nt,aj];exact⟨_,rfl⟩
  .obtain⟨o,ho⟩:=W.now.bq.fzt a z;rw[ao (nf a z)];exact⟨o,s _ _ ho⟩
 .show(D.la++_).length=_;rw[afa,afa,W.ll];rfl
 .rcases dE q1 with z1|⟨z1,z2⟩
  .rcases dE q2 with y1|⟨y1,y2⟩
   .exact .inl ⟨z1,y1⟩
   .have:=(afd.mp z1).1;have:=W.ll;omega
  .rcases dE q2 with y1|⟨y1,y2⟩
   .have:=(afd.mp y1).1;have:=W.ll;omega
   .subst z2;subst y2;refine .inr ⟨af2,afs _ f1,afs _ f2,?_,?_,?_⟩
    .show L2.aE _ _ _ t=_;rw[ao nt];exact aj
    .show L2.aE _ _ _ nl=_;rw[ao (nf nl f1)];exact s _ _ h1
    .show L2.aE _ _ _ rl=_;rw[ao (nf rl f2)];exact s _ _ h2
theorem bM.uh(W:bM CB CH H h D em sm B lg en bs FZ N)(hb:aV CB H' b d B FZ N)(s:ax H H')(fr:∀a∈bS b d B,H a=none):
  bM CB CH (aE (aE H' D.ed (.ba ((D.eb.map fun x=>V.ref x.1)++ [.ref b]))) D.ln (.ba ((en++ [lg.length]).map vn))) h {D with eb:=D.eb++ [(b,d)]} em sm B lg (en++ [lg.length]) (bs++ [B]) FZ N:=by
 have n:=W.nd;have nf:∀a∈FZ,a≠D.ed/\a≠D.ln:=fun a ha=>⟨fun z=>W.fz a ha (by rw[z];simp),fun z=>W.fz a ha (by rw[z];simp)⟩
 have n0:h≠D.ed/\h≠D.ln:=⟨fun z=>(afE.mp n).1 (by rw[z];simp),fun z=>(afE.mp n).1 (by rw[z];simp)⟩;have n':=(afE.mp n).2;have n1:D.dx≠D.ed/\D.dx≠D.ln:=⟨fun z=>(afE.mp n').1 (by rw[z];simp),fun z=>(afE.mp n').1 (by rw[z];simp)⟩;have Xd:=(afE.mp n').2;have n2:D.lg≠D.ed/\D.lg≠D.ln:=⟨fun z=>(afE.mp Xd).1 (by rw[z];simp),fun z=>(afE.mp Xd).1 (by rw[z];simp)⟩;have n3:D.ed≠D.ln:=fun z=>(afE.mp (afE.mp Xd).2).1 (by rw[z];simp)
 have nb:∀a∈bS b d B,a≠D.ed/\a≠D.ln:=fun a ha=>⟨fun z=>(by have:=fr a ha;rw[z,W.he]at this;cases this),fun z=>(by have:=fr a ha;rw[z,W.hn]at this;cases this)⟩
 have kp:Kp [D.ed,D.ln] H' (aE (aE H' D.ed (.ba ((D.eb.map fun x=>V.ref x.1)++ [.ref b]))) D.ln (.ba ((en++ [lg.length]).map vn))):=dQ (Kp.gZ (by simp)) (.inl (by simp));refine W.re (D':={D with eb:=D.eb++ [(b,d)]}) (dQ (dQ (lZ s) (.inl (by simp))) (.inl (by simp))) rfl rfl rfl ?_ ?_ ?_ ?_ ?_ (afn _) (fun a ha=>ha) (fun a ha=> .inl ha) (fun a ha=> ?_) W.ll ?_ (fun i x b q1 q2=> .inl ⟨q1,q2⟩) (fun i x c q1 q2=> ?_)
 .rw[ao n0.2,ao n0.1];exact s _ _ W.ins
 .show L2.aE _ _ _ D.dx=_;rw[ao n1.2,ao n1.1];exact s _ _ W.own
 .show L2.aE _ _ _ D.lg=_;rw[ao n2.2,ao n2.1];exact s _ _ W.hl
 .show L2.aE _ _ _ D.ed=_;rw[ao n3,aj,afB];rfl
 .exact aj
 .obtain⟨o,ho⟩:=hb.bq.fzt a ha;exact⟨o,kp a o ho (by simpa using nf a ha)⟩
 .show(D.eb++_).length=_;rw[afa,afa,W.el];rfl
 .rcases dE q1 with z1|⟨z1,z2⟩
  .rcases dE q2 with y1|⟨y1,y2⟩
   .exact .inl ⟨z1,y1⟩
   .have:=(afd.mp z1).1;have:=W.el;omega
  .rcases dE q2 with y1|⟨y1,y2⟩
   .have:=(afd.mp y1).1;have:=W.el;omega
   .subst z2;subst y2;exact .inr ⟨hb.keep kp (fun a ha=>by simpa using nb a ha) (fun a ha=>by simpa using nf a ha),fr⟩
end
def jA(S:afl):List af8:=(aiQ S.editions.length).map fun i=>agm S (i+1)
structure cb(CB CH:afb)(H:Hp)(h:afb)(D:HA)(S:afl)(FZ:List afb):Prop where
 w:bM CB CH H h D (agB S.log).2.1 (agB S.log).2.2 (agA S.log) S.log S.editions (jA S) FZ S.log.length
 st:n9 S
section
variable{D:HA}
theorem FG(hi:i<S.editions.length):(jA S)[i]? =some (agm S (i+1)):=by
 unfold jA;rw[afw,List.getElem?_range hi];rfl
theorem rG(st:n9 S)(a:agE):jA (y0 S a)=jA S:=by
 unfold jA;exact ahb fun i hi=>uH st a (aiv.mp hi)
theorem oo:jA (jW S)=jA S++ [agA S.log]:=by
 unfold jA;show(aiQ (S.editions++ [S.log.length]).length).map _=_;rw[afa,agR,List.range_succ,afB,List.map_singleton,FF];congr 1;exact ahb fun i hi=>qh (aiv.mp hi)
theorem cb.same(W:cb CB CH H h D S FZ)(s:ax H H'):cb CB CH H' h D S FZ:=⟨W.w.same s,W.st⟩
def bQ(D:HA)(k:Nat):afb×BA:=if k=0 then(D.nw,D.dn)else D.eb.getD (k-1) (0,D.dn)
theorem cb.book(W:cb CB CH H h D S FZ){k:Nat}(hk:k<=S.editions.length):aV CB H (bQ D k).1 (bQ D k).2 (agm S k) FZ S.log.length:=by
 cases k with
 |zero=>rw[Du];exact W.w.now
 |succ i=>
  have e:=FG (S:=S) hk;have hi:i<D.eb.length:=by rw[W.w.el];exact(afd.mp e).1
  have:=(W.w.BV i _ _ (afi hi) e).1;unfold bQ;rw[afc (ah8 i),ahT,ahS,afi hi];exact this
end
theorem gF.of(h:H a=some (.dY xs)):gF K H a xs:= .inl (.inl h)
inductive tI(K:afU)(vs:List V)(H:Hp)(Q:VK)(E:XK):Prop|m:∀(l:afb) (xs:List Nat),vs=[.ref l]->aJ K H l (xs.map vn)->xs.Nodup->xs.length<=100000->(∀(H':Hp) (p:afb) (kv:List (br×V)),H p=none->H' p=some (.dK kv)->pq kv xs (fun n=>vn (agn xs n-1))->ax H H'->Q (.ref p) H')->tI K vs H Q E
abbrev BJ:afP:=dC 11
theorem oS:au ["row","places","place","name"] ["row"] (ai BJ):=cF
theorem EE(F:b9 K "places_of" "places_of" BJ f fd)(G:lN mg):aT P w K mg base bX 1 f fd ["row"] (tI K):=by
 refine cz F oS fun _ _ _ _ H _ Q E hr h=> ?_
 obtain⟨l,xs,rfl,hl,JE,hN,k⟩:=h;refine⟨_,ae (cY 1 oS.nd jJ)
  (ae (cM af1 rfl (Lm rfl G.DF (aa (pv 0) ab)) (i8 rfl (bH (hJ 2 oS.nd) (bH (hJ 3 oS.nd) gN)))
   (af (iT (bZ hr) (pv 1) (pv 3) (pv 2) rfl)))
  (af (aq (pv 1)))),?_⟩
 intro p hp;have s0:ax H (aE H p (.dK [])):=ax.new hp;refine⟨_,rfl,l,_,rfl,s0.seq hl,DJ (K:=K) (a:=l) (xs:=xs.map vn)
  (fun i σ H'=>∃(v v':Option V) (kv:List (br×V)),σ=[some (.ref l),some (.ref p),v,v']/\ax H H'/\H' p=some (.dK kv)/\kv.length<=i/\pq kv (xs.take i) (fun n=>vn (agn xs n-1)))
  ⟨none,none,[],rfl,s0,aj,afn _,fun n=>by rw[ahy,afc (by simp)];rfl⟩ (fun i σ H' _ ⟨_,_,_,_,s1,_⟩=>s1.seq hl) ?_ ?_⟩
 .rintro i x σ H' T hi ⟨v,v',kv,rfl,s1,hk,qm,dk⟩ hT;obtain⟨n,hn,rfl⟩:=eg hi;have gV:i<xs.length:=(afd.mp hn).1;have hTp:p≠T:=ak hk hT;have M5:aE H' T (.dY [.int (i:Nat),vn n]) p=some (.dK kv):=by rw[ao hTp];exact hk
  refine⟨T,_,rfl,gF.of aj,rfl,_,_,rfl,_,_,rfl,rfl,_,rfl,_,rfl,_,rfl,p,_,rfl,pA.k (k:=afx (n:Int)) M5 (b8 (by omega)),?_⟩;have YW:H T=none:=s1.free hT;refine⟨_,_,dR kv (afx (n:Int)) (.int (i:Nat)),rfl,fun c o h=> ?_,aj,?_,?_⟩
  .rw[ao (ak h hp),ao (ak h YW)];exact s1 c o h
  .have:=dm kv (afx (n:Int):br) (.int (i:Nat));omega
  .refine dk.gZ (fun m=> ?_) ?_ fun m _ _=>rfl
   .rw[aS hn,afL];exact⟨fun z=>z.elim .inr fun q=> .inl (by simpa using q),fun z=>z.elim (fun q=> .inr (by simpa using q)) .inl⟩
   .rw[jk JE hn,ahT]
 .rintro σ H' ⟨v,v',kv,rfl,s1,hk,qm,dk⟩;rw[ae9,afR]at dk;exact⟨_,rfl,k H' p kv hp hk dk s1⟩
theorem vE(x y n:Nat):∀(l ns:List Nat),l.length=ns.length->ja x (l++ [y]) (ns++ [n])=max (ja x l ns) (if x<y then n else 0)
 | [],[],_=>by
  show(if x<y then max n 0 else 0)=max 0 (if x<y then n else 0);split<;>omega
 |a::l,b::ns,h=>by
  have ih:=vE x y n l ns (by simpa using h);show(if x<a then max b (ja x (l++ [y]) (ns++ [n]))else ja x (l++ [y]) (ns++ [n]))=max (if x<a then max b (ja x l ns)else ja x l ns) _;rw[ih];split<;>omega
 | [],_::_,h=>by simp at h
 |_::_,[],h=>by simp at h
theorem Lr(k c c':Nat)(r:List Nat):(afO k 1++c::r).set k c'=afO k 1++c'::r:=by
 rw[List.set_append,afc (by simp)];simp
theorem Pn(k c:Nat)(r:List Nat):(afO k 1++c::r)[k]? =some c:=by
 rw[agt (by simp)];simp
theorem Lq(k c j:Nat)(r:List Nat):(afO k 1++c::r)[k+1+j]? =r[j]? :=by
 rw[agt (by simp;omega)];have:k+1+j-(afO k 1).length=j+1:=by simp;omega
 rw[this];rfl
inductive tJ(K:afU)(vs:List V)(H:Hp)(Q:VK)(E:XK):Prop|m:∀(l:afb) (xs:List Nat),vs=[.ref l]->aJ K H l (xs.map vn)->xs.length<=100000->(∀(H':Hp) (p:afb),H p=none->NL H' p (dZ xs)->ax H H'->Q (.ref p) H')->tJ K vs H Q E
abbrev BM:afP:=dC 12
theorem oT:au ["places","lengths","start","later"] ["places"] (ai BM):=cF
theorem EH(F:b9 K "rising_lengths" "rising_lengths" BM f fd)(G:lN mg):aT P w K mg base bX 1 f fd ["places"] (tJ K):=by
 refine cz F oT fun _ _ _ _ H _ Q E hr h=> ?_
 obtain⟨l,xs,rfl,hl,hN,k⟩:=h;refine⟨_,ae (cY 1 oT.nd (bx AD (cp (aa ag ab)) (aN ay rfl G.len ago (aa (pv 0) ab))))
  (ae (cM af1 rfl (EM rfl G.range (aa (bx j3 (aN ay rfl G.len ago (aa (pv 0) ab)) ag) (aa (CC xP ag) (aa (CC xP ag) ab)))) (hJ 2 oT.nd)
   (af (cM af1 rfl (EL rfl G.range (aa (bx eh (pv 2) ag) (aa (aN ay rfl G.len ago (aa (pv 0) ab)) ab))) (hJ 3 oT.nd)
    (af (aZ (aX oF (aG aA (pv 0) (pv 3)) (aG aA (pv 0) (pv 2)) (bc _))
     (af (Iq (aN (Dx rfl) rfl G.max boot_max (aa (aG aA (pv 1) (pv 2)) (aa (bx eh (aG aA (pv 1) (pv 3)) ag) ab))) (Im (pv 1) (pv 2) zi)))
     aC)))))
  (af (aq (pv 1)))),?_⟩
 refine⟨by show 1<=sizeLine;decide,fun q hq=> ?_⟩;have s0:ax H (aE H q (.ba [.int 1])):=ax.new hq;have bY:(xs.map vn).length=xs.length:=ae9 _;have b63:((xs.map vn).length:Int)<2^63:=by rw[bY];exact ahW (anz.mpr hN) (by decide)
 refine⟨_,rfl,l,_,rfl,.inl (s0.seq hl),q,_,_,rfl,rfl,aj,aja (by decide) (ahs _),b63,?_,fun p hp=> ?_⟩
 .show 1*((xs.map vn).length:Int).toNat<=sizeLine;rw[bY];have:=b8 hN;omega
 have R9:H q=none:=hq;have Qw:H p=none:=s0.free hp;have s1:ax H (aE (aE H q (.ba [.int 1])) p (.ba (afO ((xs.map vn).length:Int).toNat [V.int 1]).flatten)):=s0.trans (ax.new hp);have e0:(afO ((xs.map vn).length:Int).toNat [V.int 1]).flatten=(afO (xs.length-0) 1++dZ (xs.drop (xs.length-0))).map vn:=by
  rw[amd,ajs];show _=(afO xs.length 1++ []).map vn;rw[af5,bY,ah4];generalize xs.length=n
  induction n with
  |zero=>rfl
  |succ n ih=>rw[agZ,ah5,agZ,af9,ih];rfl
 refine⟨_,rfl,l,_,rfl,.inl (s1.seq hl),_,_,rfl,rfl,_,rfl,_,rfl,_,_,_,_,rfl,TN.neg ?_ ?_ (by decide) (by decide),?_⟩
 .rw[bY];have:=ahs xs.length;exact aja (by decide) (show(-1:Int)<=(xs.length:Int)-1 by omega)
 .rw[bY];exact ahW (show(xs.length:Int)-1<=(100000:Int) by omega) (by decide)
 rw[bY]at s1 e0⊢;have en:((xs.length:Int)-1- -1).toNat=xs.length:=by omega
 rw[en];refine z7 (n:=xs.length) (fun i σ H'=>∃(v v':Option V),σ=[some (.ref l),some (.ref p),v,v']/\ax H H'/\NL H' p (afO (xs.length-i) 1++dZ (xs.drop (xs.length-i))))
  ⟨none,none,rfl,s1,?_⟩ ?_ ?_
 .show L2.aE _ p _ p=_;rw[aj,e0]
 .rintro i σ H' hi ⟨v,v',rfl,s2,kf⟩;obtain⟨st,yE⟩:∃st,xs.length-i=st+1:=⟨xs.length-i-1,by omega⟩;have est:((xs.length:Int)-1+(i:Nat)* -1)=(st:Int):=by omega
  have qI:st<xs.length:=by omega
  have hx:xs[st]? =some xs[st]:=afi qI;generalize xs[st]=x at hx;have WK:afO (xs.length-i) 1++dZ (xs.drop (xs.length-i))=afO st 1++1::dZ (xs.drop (st+1)):=by
   rw[yE,List.replicate_succ',afQ];rfl
  rw[WK]at kf;rw[est];refine⟨_,rfl,_,_,rfl,rfl,_,rfl,l,_,rfl,.inl (s2.seq hl),_,_,rfl,⟨?_,?_,?_,?_⟩,?_⟩
  .exact aja (by decide) (show(0:Int)<=(st:Int)+1 by omega)
  .exact ahW (show(st:Int)+1<=100000 by omega) (by decide)
  .rw[bY];exact aja (by decide) (ahs _)
  .rw[bY];exact ahW (anz.mpr hN) (by decide)
  rw[bY];have em:((xs.length:Int)-((st:Int)+1)).toNat=(xs.drop (st+1)).length:=by rw[agp];omega
  rw[em];have ll:(dZ (xs.drop (st+1))).length=(xs.drop (st+1)).length:=jh _;refine DK (lo:=(st:Int)+1) (n:=(xs.drop (st+1)).length) (fun j σ H'=>∃(v':Option V),σ=[some (.ref l),some (.ref p),some (vn st),v']/\ax H H'/\NL H' p (afO st 1++(ja x ((xs.drop (st+1)).take j) ((dZ (xs.drop (st+1))).take j)+1)::dZ (xs.drop (st+1))))
   ⟨v',rfl,s2,kf⟩ ?_ ?_
  .rintro j σ H2 hj ⟨v2,rfl,s3,GL⟩;have hy:(xs.drop (st+1))[j]? =some (xs.drop (st+1))[j]:=afi hj;generalize (xs.drop (st+1))[j]=y at hy;have Ww:(dZ (xs.drop (st+1)))[j]? =some ((dZ (xs.drop (st+1)))[j]'(by rw[ll];exact hj)):=afi _;generalize ((dZ (xs.drop (st+1)))[j]'(by rw[ll];exact hj))=n at Ww;have hyx:xs[st+1+j]? =some y:=by rw[<-hy,ahX]
   have ej:((st:Int)+1+(j:Nat))=((st+1+j:Nat):Int):=by omega
   rw[ej];have tk:=vE x y n ((xs.drop (st+1)).take j) ((dZ (xs.drop (st+1))).take j) (by rw[afW,afW,ll]);rw[<-aS hy,<-aS Ww]at tk;refine⟨_,rfl,_,rfl,l,_,_,_,rfl,rfl,s3.seq hl,oh (v:=vn y) (by rw[afw,hyx];rfl),_,rfl,_,rfl,l,_,_,_,rfl,rfl,s3.seq hl,oh (v:=vn x) (by rw[afw,hx];rfl),_,_,rfl,rfl,_,rfl,?_⟩;refine aW (fun e=> ?_) (fun e=> ?_)
   .have WU:x<y:=by have:=aff e;omega
    rw[afh WU]at tk;refine⟨_,rfl,_,rfl,p,_,_,_,rfl,rfl,aJ.of GL,oh (v:=vn (ja x ((xs.drop (st+1)).take j) ((dZ (xs.drop (st+1))).take j)+1)) (by rw[afw,Pn];rfl),_,rfl,_,rfl,p,_,_,_,rfl,rfl,aJ.of GL,oh (v:=vn n) (by rw[afw,Lq,Ww];rfl),_,_,rfl,rfl,_,_,rfl,_,rfl,_,rfl,p,_,_,st,rfl,rfl,GL,?_,?_⟩
    .unfold nV;rw[afh (ahs st),afh (by rw[ae9,afa,ag0,afp];omega)];rfl
    .refine⟨_,rfl,fun c o h=> ?_,?_⟩
     .rw[ao (ak h Qw)];exact s3 c o h
     .rw[tk];show L2.aE _ p _ p=_;rw[aj];refine congrArg (fun z=>some (HO.ba z)) ?_;rw[(Lr st (ja x ((xs.drop (st+1)).take j) ((dZ (xs.drop (st+1))).take j)+1) (max (ja x ((xs.drop (st+1)).take j) ((dZ (xs.drop (st+1))).take j)) n+1) (dZ (xs.drop (st+1)))).symm,anA];refine congrArg (fun z=>List.set _ st z) ?_;show V.int _=V.int _;refine congrArg V.int ?_;split<;>omega
   .have WU:¬x<y:=fun z=>e (afj (by omega))
    rw[afc WU,anB]at tk;refine⟨_,rfl,s3,?_⟩;rw[tk];exact GL
  .rintro σ H2 ⟨v2,rfl,s3,GL⟩;refine⟨_,_,rfl,s3,?_⟩;have e1:xs.length-(i+1)=st:=by omega
   have e2:xs.drop st=x::xs.drop (st+1):=by
    obtain⟨h1,h2⟩:=afd.mp hx;rw[agL h1,h2]
   rw[e1,e2,oz];rw[afR,<-ll,afR]at GL;exact GL
 .rintro σ H' ⟨v,v',rfl,s2,kf⟩;refine⟨_,rfl,k H' p Qw ?_ s2⟩;rw[akX,ahV]at kf;exact kf
theorem tR(x:Nat):∀(l ns:List Nat),ja (x+1) (l.map (·+1)) ns=ja x l ns
 | [],_=>by cases ‹List Nat›<;>rfl
 |a::l,[]=>rfl
 |a::l,n::ns=>by
  show(if x+1<a+1 then max n (ja (x+1) (l.map (·+1)) ns)else ja (x+1) (l.map (·+1)) ns)=(if x<a then max n (ja x l ns)else ja x l ns);rw[tR x l ns];by_cases h:x<a
  .rw[afh h,afh (by omega)]
  .rw[afc h,afc (by omega)]
theorem so:∀l:List Nat,dZ (l.map (·+1))=dZ l
 | []=>rfl
 |x::l=>by rw[af9,oz,oz,so l,tR]
theorem yM:∀{l:List Nat} {n:Nat},n∈dZ l->0<n
 | [],_,h=>nomatch h
 |x::l,n,h=>by
  rw[oz]at h;rcases afv.mp h with e|h
  .omega
  .exact yM h
theorem yP:∀(ns:List Nat) (m:Nat),pO (m:Int) (ns.map fun n:Nat=>(n:Int))=((max m (ns.foldr max 0):Nat):Int)
 | [],m=>by show(m:Int)=_;rw[show max m (([]:List Nat).foldr max 0)=m from anB m]
 |n::ns,m=>by
  show pO (if(n:Int)>(m:Int)then(n:Int)else(m:Int)) (ns.map fun n:Nat=>(n:Int))=((max m (max n (ns.foldr max 0)):Nat):Int);rw[show(if(n:Int)>(m:Int)then(n:Int)else(m:Int))=((max m n:Nat):Int) by split<;>omega,yP ns (max m n)];congr 1;omega
theorem KL(ns:List Nat):ZJ 0 (ns.map fun n:Nat=>(n:Int))=((ns.foldr max 0:Nat):Int):=by
 cases ns with
 |nil=>rfl
 |cons n ns=>exact yP ns n
theorem E5(w bj:Nat):jo w bj [] [] []=[]:=by unfold jo;rfl
theorem yr{ps:List ud}{g:TG}{tb:TS}{D:iD}(Pv:Nat->L2.St->Hp->Prop)(h0:Pv 0 σ H)(hgo:∀i σ H,i<n->Pv i σ H->(vP K ps).go i H)(yE:∀σ H,Pv n σ H->(vP K ps).ju n H)
  (hs:∀i σ H x H',i<n->Pv i σ H->(vP K ps).Dh i H x H'->g x σ H' fun σ2 H2=>tb {D with nx:=Pv (i+1),ct:=Pv (i+1),bk:=D.nx} σ2 H2) (hd:∀σ H,Pv n σ H->D.nx σ H):
  ∃W:Nat->Nat->L2.St->Hp->Prop,(∃m,W 0 m σ H)/\∀i m σ H,W i m σ H->
   ((vP K ps).ju i H/\D.nx σ H)\/((vP K ps).go i H/\∃N:L2.St->Hp->Prop,(∀σ' H',N σ' H'->∃m',m'<m/\W (i+1) m' σ' H')/\∀x H',(vP K ps).Dh i H x H'->g x σ H' fun σ2 H2=>tb {D with nx:=N,ct:=N,bk:=D.nx} σ2 H2):=by
 refine⟨fun i m σ H=>m=n-i/\i<=n/\Pv i σ H,⟨n,by simp,afF _,h0⟩,?_⟩;rintro i m σ H ⟨rfl,hi,p⟩;by_cases iF:i<n
 .exact .inr ⟨hgo i σ H iF p,Pv (i+1),fun σ' H' p'=>⟨n-(i+1),by omega,rfl,iF,p'⟩,fun v H' y=>hs i σ H v H' iF p y⟩
 .have e:i=n:=by omega
  subst e;exact .inl ⟨yE σ H p,hd σ H p⟩
inductive xK(K:afU)(vs:List V)(H:Hp)(Q:VK)(E:XK):Prop|m:∀(l m:afb) (old new:List Nat),vs=[.ref l,.ref m]->aJ K H l (old.map vn)->aJ K H m (new.map vn)->new.Nodup->old.length<=10000->new.length<=10000->(∀(H':Hp) (p:afb),H p=none->NL H' p (kept old new)->ax H H'->Q (.ref p) H')->xK K vs H Q E
abbrev uJ:afP:=dC 13
theorem gy:au ["old","new","new_places","common","places","lengths","wanted","last_place","stay","name","place","length"] ["old","new"] (ai uJ):=cF
def Cr(l:List afP)(i:Nat):ahM:=match l.getD i (.Pass ⟨0,0,0,0⟩)with
 | .Assign _ (.ListComp _ _ sc _) _=>sc
 |_=>{kind:= .function,names:=[],isGenerator:=false,isCoroutine:=false}
theorem U0:iK ["old","new","new_places","common","places","lengths","wanted","last_place","stay","name","place","length"] (ai uJ) (Cr (cq uJ) 1) [("name",9)]:=⟨rfl,by decide+kernel,by decide+kernel,by decide+kernel,by decide+kernel⟩
theorem U1:iK ["old","new","new_places","common","places","lengths","wanted","last_place","stay","name","place","length"] (ai uJ) (Cr (cq uJ) 2) [("name",9)]:=⟨rfl,by decide+kernel,by decide+kernel,by decide+kernel,by decide+kernel⟩
theorem Lf{fr:afb}{fdr:afC}(F:b9 K "those_that_stay" "those_that_stay" uJ f fd)(G:lN mg)(cP:jw P w K mg base 1 "places_of" ["row"] (tI K) fp fY)(cR:jw P w K mg base 1 "rising_lengths" ["places"] (tJ K) fr fdr):aT P w K mg base bX 2 f fd ["old","new"] (xK K):=by
 refine cz F gy fun _ _ _ _ H _ Q E hr h=> ?_
 obtain⟨l,m,old,new,rfl,hl,hm,JE,hlo,M8,k⟩:=h;refine⟨_,ae (Ir (i:=2) gy.nd rfl (anY rfl) (bh cP.ok hr rfl cP.mg cP.kp cP.bi .nil bw (aa (pv 1) ab)))
  (ae (y3 (i:=3) (own:=[("name",9)]) rfl gy.nd rfl rfl rfl (bO (pv 0)) U0
   (fun _ _ _ _ _=>hJ 9 gy.nd) (fun _ _ _ _ _=>oK (AL (AG (bZ hr) (pv 9) (pv 2)) (by with_unfolding_all rfl))) (fun _ _ _ _ _=>pv 9))
  (ae (y3 (i:=4) (own:=[("name",9)]) rfl gy.nd rfl rfl rfl (bO (pv 3)) U1
   (fun _ _ _ _ _=>hJ 9 gy.nd) (fun _ _ _ _ _=>j5) (fun _ _ _ _ _=>bC (bZ hr) (pv 2) (pv 9) (fun _ _=>rfl)))
  (ae (cY 5 gy.nd (bh cR.ok hr rfl cR.mg cR.kp cR.bi .nil bw (aa (pv 4) ab)))
  (ae (cY 6 gy.nd (Lk rfl rfl G.max (pv 5) ag))
  (ae (cY 7 gy.nd (CC xP ag))
  (ae (cY 8 gy.nd (cp ab))
  (ae (cM af1 rfl (Ln rfl G.zip (aa (pv 3) (aa (pv 4) (aa (pv 5) ab)))) (i8 rfl (bH (hJ 9 gy.nd) (bH (hJ 10 gy.nd) (bH (hJ 11 gy.nd) gN))))
   (af (aZ (nj (aX fU (pv 11) (pv 6) (bc _)) (j6 (aX oF (pv 10) (pv 7) (bc _)))).pt
    (ae (aI (cy afq agc agh de (pv 8) (aa (pv 9) ab)))
    (ae (cY 7 gy.nd (pv 10))
    (af (lC (i:=6) gy.nd rfl (akb rfl) ag OK))))
    aC)))
  (af (aq (pv 8)))))))))),?_⟩
 refine⟨_,rfl,m,new,rfl,hm,JE,by omega,fun H1 d kv hd hk dk s1=> ?_⟩;have z9:(old.filter new.contains).length<=old.length:=af6 _ _;refine⟨_,rfl,l,rfl,⟨_,s1.seq hl⟩,fun c hc=>jZ (K:=K) (a:=l) (xs:=old.map vn) (fun i H'=>ax H1 H'/\NL H' c ((old.take i).filter new.contains))
  ⟨ax.new hc,aj⟩ (fun i H' _ ⟨s2,_⟩=>s2.seq (s1.seq hl)) ?_ ?_⟩
 .rintro i x H' hi ⟨s2,ow⟩;obtain⟨n,hn,rfl⟩:=eg hi;have gV:i<old.length:=(afd.mp hn).1;refine⟨rfl,_,rfl,_,rfl,d,_,rfl,ei.k (k:=afx (n:Int)) (s2 _ _ hk),_,rfl,?_⟩;rw[dk.xl];refine aW (fun e=> ?_) (fun e=> ?_)
  .have eX:n∈new:=aff e;refine⟨_,rfl,_,ow,b8 (by rw[ae9];have:=af6 new.contains (old.take i);rw[afW]at this;omega),fun b o h=> ?_,?_⟩
   .rw[ao (ak h hc)];exact s2 b o h
   .rw[aS hn,agj,afS,afh (by simpa using eX),ahG];show L2.aE _ c _ c=_;rw[aj,afB];rfl
  .have eX:¬n∈new:=fun z=>e (afj z)
   refine⟨s2,?_⟩;rw[aS hn,agj,afS,afc (by simpa using eX),ahG,af5];exact ow
 rintro H2 ⟨s2,Qr⟩;rw[ae9,afR]at Qr;generalize ui:old.filter new.contains=cm at*;have We:∀n∈cm,n∈new:=fun n hn=>by rw[<-ui]at hn;simpa using(afM.mp hn).2
 refine⟨_,rfl,c,rfl,⟨_,aJ.of Qr⟩,fun pl kf=>jZ (K:=K) (a:=c) (xs:=cm.map vn) (fun i H'=>ax H2 H'/\NL H' pl ((cm.take i).map fun n=>agn new n-1))
  ⟨ax.new kf,aj⟩ (fun i H' _ ⟨s3,_⟩=>aJ.of (s3 _ _ Qr)) ?_ ?_⟩
 .rintro i x H' hi ⟨s3,WI⟩;obtain⟨n,hn,rfl⟩:=eg hi;have gV:i<cm.length:=(afd.mp hn).1;have eX:=We n (afo hn);refine⟨rfl,?_⟩;dsimp only[Fb];rw[afh rfl];refine⟨_,rfl,_,rfl,d,_,rfl,by
   have:=ei.k (k:=afx (n:Int)) (s3 _ _ (s2 _ _ hk));rw[dk.get eX]at this;exact this,_,WI,b8 (by rw[ae9,ae9,afW];omega),fun b o h=> ?_,?_⟩
  .rw[ao (ak h kf)];exact s3 b o h
  .rw[aS hn,afB];show L2.aE _ pl _ pl=_;rw[aj,afB];rfl
 rintro H3 ⟨s3,GL⟩;rw[ae9,afR]at GL;refine⟨_,rfl,pl,_,rfl,aJ.of GL,by rw[ae9];omega,fun H4 ln acz M6 s4=> ?_⟩;have Oi:dZ (cm.map fun n=>agn new n-1)=dZ (cm.map (agn new)):=by
  rw[<-so,ag4];congr 1;refine ahb fun n hn=> ?_
  have:=(iS JE (We n hn)).2;show agn new n-1+1=_;omega
 rw[Oi]at M6;refine⟨_,rfl,ln,(dZ (cm.map (agn new))).map (fun n:Nat=>(n:Int)),0,rfl,rfl,aJ.of (by rw[<-wI];exact M6),?_⟩;rw[KL];refine⟨_,rfl,afF _,fun st yE=> ?_⟩;have s5:ax H4 (aE H4 st (.ba [])):=ax.new yE;have Kk:NL H4 c cm:=s4 _ _ (s3 _ _ Qr);have Uj:=s4 _ _ GL;have OS:(dZ (cm.map (agn new))).length=cm.length:=by rw[jh,ae9]
 have ZG:=DV (old:=old) JE;rw[ui]at ZG;refine⟨_,rfl,_,rfl,_,rfl,c,pl,ln,_,_,_,rfl,aJ.of (s5 _ _ Kk),aJ.of (s5 _ _ Uj),aJ.of (s5 _ _ M6),yr (n:=cm.length)
  (fun i σ H'=>∃(w1 bj:Nat) (sl:List Nat) (v9 TC TF:Option V),σ=[some (.ref l),some (.ref m),some (.ref d),some (.ref c),some (.ref pl),some (.ref ln),some (vn w1),some (.int ((bj:Int)-1)),some (.ref st),v9,TC,TF]/\ax H4 H'/\NL H' st sl/\sl.length<=i/\
   kept old new=sl++jo w1 bj (cm.drop i) ((cm.map (agn new)).drop i) ((dZ (cm.map (agn new))).drop i))
  ⟨_,0,[],none,none,none,rfl,s5,aj,afn _,?_⟩ ?_ ?_ ?_ ?_⟩
 .rw[agT,ahV,ahV,ahV];exact ZG
 .rintro i σ H' hi ⟨w1,bj,sl,v9,TC,TF,rfl,s6,_⟩ p hp;have RQ:=s6 _ _ Kk;have WJ:=s6 _ _ Uj;have Ws:=s6 _ _ M6;have:p=(false,c)\/p=(false,pl)\/p=(false,ln):=by simpa using hp
  rcases this with e|e|e
  .subst e;exact⟨_,_,.inr ⟨rfl,aJ.of RQ⟩,afi (by rw[ae9];exact hi)⟩
  .subst e;exact⟨_,_,.inr ⟨rfl,aJ.of WJ⟩,afi (by rw[ae9,ae9];exact hi)⟩
  .subst e;exact⟨_,_,.inr ⟨rfl,aJ.of Ws⟩,afi (by rw[ae9,OS];exact hi)⟩
 .rintro σ H' ⟨w1,bj,sl,v9,TC,TF,rfl,s6,_⟩;refine⟨fun p hp=> ?_,(false,c),by simp,_,.inr ⟨rfl,aJ.of (s6 _ _ Kk)⟩,by rw[ae9];exact afn _⟩;have:p=(false,c)\/p=(false,pl)\/p=(false,ln):=by simpa using hp
  rcases this with e|e|e
  .subst e;exact⟨_,.inr ⟨rfl,aJ.of (s6 _ _ Kk)⟩⟩
  .subst e;exact⟨_,.inr ⟨rfl,aJ.of (s6 _ _ Uj)⟩⟩
  .subst e;exact⟨_,.inr ⟨rfl,aJ.of (s6 _ _ M6)⟩⟩
 .rintro i σ H' x H5 hi ⟨w1,bj,sl,v9,TC,TF,rfl,s6,qI,qm,JD⟩ ⟨T,vs,rfl,hT,rfl,Kx,hv⟩;have RQ:=s6 _ _ Kk;have WJ:=s6 _ _ Uj;have Ws:=s6 _ _ M6;have gc:cm[i]? =some cm[i]:=afi hi;generalize cm[i]=n at gc;have gV:i<(dZ (cm.map (agn new))).length:=by rw[OS];exact hi
  have gl:(dZ (cm.map (agn new)))[i]? =some ((dZ (cm.map (agn new)))[i]'gV):=afi gV;generalize ((dZ (cm.map (agn new)))[i]'gV)=z at gl;have hn:=We n (afo gc);have Ad:=(iS JE hn).2;have gp:(cm.map (agn new))[i]? =some (agn new n):=by rw[afw,gc];rfl
  obtain⟨x0,Rv,Oq⟩:=hv 0 (false,c) rfl _ (.inr ⟨rfl,aJ.of RQ⟩);obtain⟨x1,Rw,Ot⟩:=hv 1 (false,pl) rfl _ (.inr ⟨rfl,aJ.of WJ⟩);obtain⟨x2,YL,VY⟩:=hv 2 (false,ln) rfl _ (.inr ⟨rfl,aJ.of Ws⟩);have e0:x0=vn n:=by rw[afw,gc]at Rv;exact(aft Rv).symm
  have e1:x1=vn (agn new n-1):=by rw[afw,afw,gc]at Rw;exact(aft Rw).symm
  have e2:x2=vn z:=by rw[afw,gl]at YL;exact(aft YL).symm
  subst e0 e1 e2;obtain rfl:vs=[vn n,vn (agn new n-1),vn z]:=by
   match vs,Kx,Oq,Ot,VY with
   | [a,b,c],_,Oq,Ot,VY=>
    have q1:a=_:=aft Oq;have q2:b=_:=aft Ot;have q3:c=_:=aft VY;rw[q1,q2,q3]
  have dr:jo w1 bj (cm.drop i) ((cm.map (agn new)).drop i) ((dZ (cm.map (agn new))).drop i)=if z=w1/\bj<agn new n then n::jo (w1-1) (agn new n) (cm.drop (i+1)) ((cm.map (agn new)).drop (i+1)) ((dZ (cm.map (agn new))).drop (i+1))else jo w1 bj (cm.drop (i+1)) ((cm.map (agn new)).drop (i+1)) ((dZ (cm.map (agn new))).drop (i+1)):=by
   obtain⟨a1,a2⟩:=afd.mp gc;obtain⟨b1,b2⟩:=afd.mp gp;obtain⟨c1,c2⟩:=afd.mp gl;rw[agL a1,a2,agL b1,b2,agL c1,c2];rfl
  rw[dr]at JD;have V8:st≠T:=ak qI hT;have Ku:aE H' T (.dY [vn n,vn (agn new n-1),vn z]) st=some (.ba (sl.map vn)):=by rw[ao V8];exact qI
  have hT4:H4 T=none:=s6.free hT;have s7:ax H4 (aE H' T (.dY [vn n,vn (agn new n-1),vn z])):=s6.trans (ax.new hT);have hz0:0<z:=yM (afo gl);refine⟨T,_,rfl,gF.of aj,rfl,_,_,rfl,_,_,rfl,_,_,rfl,rfl,_,rfl,_,rfl,rfl,_,rfl,?_⟩;refine aW (fun e=> ?_) (fun e=> ?_)
  .have ez:z=w1:=by
    have:=aff e;injection this with this
    omega
   refine⟨_,rfl,_,rfl,_,_,rfl,rfl,_,rfl,?_⟩;refine aW (fun e2=> ?_) (fun e2=> ?_)
   .have iF:bj<agn new n:=by have:=aff e2;omega
    rw[afh ⟨ez,iF⟩]at JD;refine⟨_,rfl,.inl ⟨rfl,_,aJ.of Ku⟩,_,rfl,st,_,_,rfl,rfl,Ku,b8 (by rw[ae9];omega),?_⟩;refine⟨_,rfl,_,rfl,_,_,rfl,rfl,w1-1,agn new n,sl++ [n],some (vn n),some (vn (agn new n-1)),some (vn z),?_,fun b o h=> ?_,?_,?_,?_⟩
    .have q1:((w1:Int)-1)=((w1-1:Nat):Int):=by omega
     have q2:((agn new n-1:Nat):Int)=(agn new n:Int)-1:=by omega
     show [some (V.ref l),some (V.ref m),some (V.ref d),some (V.ref c),some (V.ref pl),some (V.ref ln),some (V.int ((w1:Int)-1)),some (V.int ((agn new n-1:Nat):Int)),some (V.ref st),some (vn n),some (vn (agn new n-1)),some (vn z)]=_;rw[q1,q2]
    .rw[ao (ak h yE)];exact s7 b o h
    .show L2.aE _ st _ st=_;rw[aj,afB];rfl
    .rw[afa,agR];omega
    .rw[JD,afQ];rfl
   .have iF:¬bj<agn new n:=fun q=>e2 (afj (by omega))
    rw[afc (fun q=>iF q.2)]at JD;exact⟨w1,bj,sl,_,_,_,rfl,s7,Ku,by omega,JD⟩
  .have ez:¬z=w1:=fun q=>e (afj (by rw[q]))
   rw[afc (fun q=>ez q.1)]at JD;exact aW (fun q=>nomatch q) fun _=>⟨w1,bj,sl,_,_,_,rfl,s7,Ku,by omega,JD⟩
 .rintro σ H' ⟨w1,bj,sl,v9,TC,TF,rfl,s6,qI,qm,JD⟩;rw[ajs,agr (by rw[ae9];exact afn _),agr (by rw[OS];exact afn _),E5,af5]at JD;refine⟨_,rfl,k H' st ?_ ?_ ?_⟩
  .exact s1.free (s2.free (s3.free (s4.free yE)))
  .rw[JD];exact qI
  .exact s1.trans (s2.trans (s3.trans (s4.trans s6)))
theorem l8(w:WF B)(hi:B.entries[i]? =some x)(hj:x.senses[j]? =some n):afV B n=(i+1,j+1):=by
 have hx:=afo hi;have hn:=afo hj;have e:=gv w hx hn;have h0:x.name≠0:=fun z=>w.e0 (z▸aY.mpr ⟨x,hx,rfl⟩)
 unfold afV;rw[e,afc h0,bp w hx,jk (qR w.an hx) hj];have hp:agn (ags B) x.name=i+1:=jk (new:=ags B) w.en (by show(B.entries.map fun x=>x.name)[i]? =_;rw[afw,hi];rfl);rw[hp]
def lL(B:af8)(i:Nat):List Nat:=(B.entries.take i).flatMap fun x=>x.senses
inductive tF(C:afb)(vs:List V)(H:Hp)(Q:VK)(E:XK):Prop|m:∀(b:afb) (d:BA) (B:af8) (FZ:List afb) (N:Nat),vs=[.ref b]->aV C H b d B FZ N->N<100000->(∀(H':Hp) (p:afb) (kv:List (br×V)) (na:Nat->afb),H p=none->H' p=some (.dK kv)->pq kv (afD B) (fun n=> .ref (na n))-> (∀n∈afD B,H' (na n)=some (.dY [vn (afV B n).1,vn (afV B n).2]))->ax H H'->Q (.ref p) H')->tF C vs H Q E
theorem Jo:(lL B i).length<=(afD B).length:=by
 unfold lL afD
 conv=>rhs;rw[<-agI i B.entries,agF,afa]
 exact agN _ _
theorem vK(h:B.entries[i]? =some x):lL B (i+1)=lL B i++x.senses:=by
 unfold lL;rw[aS h,agF];simp
structure Fx(H':Hp)(p:afb)(B:af8)(ks:List Nat)(kv:List (br×V))(na:Nat->afb):Prop where
 cG:H' p=some (.dK kv)
 len:kv.length<=ks.length
 Og:pq kv ks (fun n=> .ref (na n))
 dY:∀n∈ks,H' (na n)=some (.dY [vn (afV B n).1,vn (afV B n).2])
abbrev MI:afP:=dC 77
theorem pR:au ["book","numbers","entry_place","entry","sense_place","sense"] ["book"] (ai MI):=cF
theorem K9(F:b9 K "sense_numbers" "sense_numbers" MI f fd)(T:mC K mg C)(G:lN mg):aT P w K mg base bX 1 f fd ["book"] (tF C):=by
 refine cz F pR fun _ _ _ _ H _ Q E hr h=> ?_
 obtain⟨b,d,B,FZ,N,rfl,hB,hN,k⟩:=h;refine⟨_,ae (cY 1 pR.nd jJ)
  (ae (cM af1 rfl (lx rfl G.DF (az (pv 0)) ag) (i8 rfl (bH (hJ 2 pR.nd) (bH (hJ 3 pR.nd) gN)))
   (af (cM af1 rfl (lx rfl G.DF (bC (bZ hr) (az (pv 0)) (pv 3)) ag) (i8 rfl (bH (hJ 4 pR.nd) (bH (hJ 5 pR.nd) gN)))
    (af (iT (bZ hr) (pv 1) (pv 5) (Il (aa (pv 2) (aa (pv 4) ab))) rfl)))))
  (af (aq (pv 1)))),?_⟩
 intro p hp;have s0:ax H (aE H p (.dK [])):=ax.new hp;have L0:=hB.bq;refine⟨_,rfl,b,C,d.dx,_,_,rfl,s0 _ _ L0.ins,T.cl,T.nO,bP,d.o,_,_,rfl,rfl,aJ.of (s0 _ _ L0.ord),by decide,by decide,jD (K:=K) (a:=d.o) (xs:=(names B).map vn) (c:=1)
  (fun i σ H'=>∃(v2 v3 v4 v5:Option V) (kv:List (br×V)) (na:Nat->afb),σ=[some (.ref b),some (.ref p),v2,v3,v4,v5]/\ax H H'/\Fx H' p B (lL B i) kv na)
  ⟨none,none,none,none,[],fun _=>0,rfl,s0,⟨aj,afF _,fun n=>by rw[afc (by simp[lL])];rfl,fun n hn=>by simp[lL]at hn⟩⟩ (fun i σ H' _ ⟨_,_,_,_,_,_,_,s1,_⟩=>aJ.of (s1 _ _ L0.ord)) ?_ ?_⟩
 .rintro i y σ H' Tu hi ⟨v2,v3,v4,v5,kv,na,rfl,s1,hM⟩ hT;obtain⟨e,he,rfl⟩:=eg hi;obtain⟨x,hx,rfl⟩:=entry_at he;have px:x∈B.entries:=afo hx;have wy:x.name∈names B:=aY.mpr ⟨x,px,rfl⟩;have YW:H Tu=none:=s1.free hT;have s2:ax H (aE H' Tu (.dY [.int (1+(i:Nat)),vn x.name])):=s1.trans (ax.new hT);have ZX:ax H' (aE H' Tu (.dY [.int (1+(i:Nat)),vn x.name])):=ax.new hT;refine⟨Tu,_,rfl,gF.of aj,rfl,_,_,rfl,_,_,rfl,rfl,?_⟩;refine⟨_,rfl,b,C,d.dx,_,_,rfl,s2 _ _ L0.ins,T.cl,T.nR,du,_,rfl,d.r,.ref (d.ra x.name),rfl,by
   have:=ei.k (k:=afx (x.name:Int)) (s2 _ _ L0.hr);rw[hB.dr.get wy]at this;exact this,d.ra x.name,_,_,rfl,rfl,aJ.of (s2 _ _ (hB.row px)),by decide,by decide,jD (K:=K) (a:=d.ra x.name) (xs:=x.senses.map vn) (c:=1)
   (fun j σ H'=>∃(v4 v5:Option V) (kv:List (br×V)) (na:Nat->afb),σ=[some (.ref b),some (.ref p),some (.int (1+(i:Nat))),some (vn x.name),v4,v5]/\ax H H'/\Fx H' p B (lL B i++x.senses.take j) kv na)
   ⟨v4,v5,kv,na,rfl,s2,⟨ZX _ _ hM.cG,by rw[ahy,af5];exact hM.len,by rw[ahy,af5];exact hM.Og,fun n hn=>by rw[ahy,af5]at hn;exact ZX _ _ (hM.dY n hn)⟩⟩ (fun j σ H' _ ⟨_,_,_,_,_,s3,_⟩=>aJ.of (s3 _ _ (hB.row px))) ?_ ?_⟩
  .rintro j y σ H3 Tv hj ⟨v4,v5,kv,na,rfl,s3,M3⟩ hTv;obtain⟨n,hn,rfl⟩:=eg hj;have s4:ax H3 (aE H3 Tv (.dY [.int (1+(j:Nat)),vn n])):=ax.new hTv;refine⟨Tv,_,rfl,gF.of aj,rfl,_,_,rfl,_,_,rfl,rfl,?_⟩;refine⟨_,rfl,_,rfl,by show 2<=sizeLine;decide,fun Tw V9=> ?_⟩;have s5:ax H3 (aE (aE H3 Tv (.dY [.int (1+(j:Nat)),vn n])) Tw (.dY [.int (1+(i:Nat)),.int (1+(j:Nat))])):=s4.trans (ax.new V9);have Zn:=s5 _ _ M3.cG;have Kq:=l8 hB.wf hx hn;have hfl:(lL B i++x.senses.take (j+1)).length<=N:=by
    have h1:(lL B (i+1)).length<=N:=afu Jo hB.ls;rw[vK hx,afa]at h1;rw[afa,afW];omega
   have Ab:(lL B i++x.senses.take (j+1)).length=(lL B i++x.senses.take j).length+1:=by
    rw[aS hn,<-afQ,afa];rfl
   refine⟨_,rfl,_,rfl,p,_,rfl,pA.k (k:=afx (n:Int)) Zn (b8 (by have:=M3.len;omega)),?_⟩;have hpT:∀{a o},H a=some o->a≠p:=fun h=>ak h hp
   have ab3:H Tw=none:=s3.free (s4.free V9);have eX:∀m,m∈lL B i++x.senses.take (j+1)↔m=n\/m∈lL B i++x.senses.take j:=fun m=>by
    rw[aS hn,<-afQ,afL];exact⟨fun z=>z.elim .inr fun q=> .inl (by simpa using q),fun z=>z.elim (fun q=> .inr (by simpa using q)) .inl⟩
   refine⟨_,_,dR kv (afx (n:Int)) (.ref Tw),fun m=>if m=n then Tw else na m,rfl,fun a o h=> ?_,⟨aj,?_,?_,fun m hm=> ?_⟩⟩
   .rw[ao (hpT h)];exact s5 a o (s3 a o h)
   .have:=dm kv (afx (n:Int):br) (.ref Tw);have:=M3.len;omega
   .refine M3.Og.gZ eX ?_ fun m _ gh=> ?_
    .show V.ref (if n=n then Tw else _)=_;rw[afh rfl]
    .show V.ref (if m=n then Tw else _)=_;rw[afc gh]
   .show L2.aE _ p _ (if m=n then Tw else na m)=_;by_cases q:m=n
    .rw[afh q,q,Kq,ao (agU (ak (s4 _ _ M3.cG) V9)),aj];show some (HO.dY [V.int (1+(i:Nat)),V.int (1+(j:Nat))])=some (HO.dY [V.int ((i+1:Nat):Int),V.int ((j+1:Nat):Int)]);rw[show((i+1:Nat):Int)=1+(i:Int) by omega,show((j+1:Nat):Int)=1+(j:Int) by omega]
    .rw[afc q];have Wz:=((eX m).mp hm).resolve_left q;have ht:=s5 _ _ (M3.dY m Wz);rw[ao (Nz ht Zn (by intro z;cases z))];exact ht
  .rintro σ H3 ⟨v4,v5,kv,na,rfl,s3,M3⟩;refine⟨_,_,_,_,kv,na,rfl,s3,?_⟩;rw[ae9,afR]at M3;rw[vK hx];exact M3
 .rintro σ H' ⟨v2,v3,v4,v5,kv,na,rfl,s1,M⟩;have bY:((names B).map vn).length=B.entries.length:=by rw[ae9];unfold names;rw[ae9]
  have VG:lL B ((names B).map vn).length=afD B:=by rw[bY];unfold lL;rw[afR];rfl
  rw[VG]at M;exact⟨_,rfl,k H' p kv na hp M.cG M.Og M.dY s1⟩
theorem lS(n:Nat):(agD (toString ((n:Nat):Int))).cps.toList=ahm n:=by
 rw[Str.ofString_eq_toList];rfl
theorem fk(a b:Str):(a++b).cps.toList=a.cps.toList++b.cps.toList:=by
 show(a.cps++b.cps).toList=_;simp
theorem bL(a:Str):a.length=a.cps.toList.length:=by show a.cps.size=_;simp
theorem lV(h:n<1000000):(ahm n).length<=7:=by
 unfold ahm Vbdhag.str;rw[ae9];show(String.ofList (Nat.toDigits 10 n)).toList.length<=7;rw[String.toList_ofList];exact(Nat.length_toDigits_le_iff (by decide) (by decide)).mpr (al9 h (by decide))
theorem OQ{x:Str}{g:TG}{tt:TT}{vs:List Nat}{Qd:Hp->Prop}(Pv:Nat->Hp->Prop)(h0:Pv 0 (aE H1 D (.ba [])))
  (hs:∀i c H,x.cps[i]? =some c->Pv i H->g (.str ⟨#[c]⟩) (fK σ vs) H fun σ2 H2=>fK σ2 vs=fK σ vs/\tt σ2 H2 fun b H3=>
   if b=true then te σ2 H3 fun y H4=>∃acc,H4 D=some (.ba acc)/\acc.length<sizeLine/\Pv (i+1) (aE H4 D (.ba (acc++ [y])))else Pv (i+1) H3) (hd:∀H,Pv x.cps.size H->Qd H):
  ∃W:Nat->Nat->Hp->Prop,(∃m,W 0 m (aE H1 D (.ba [])))/\∀i m H,W i m H->
   ((QL x).ju i H/\Qd H)\/((QL x).go i H/\∃Nx:Hp->Prop,(∀H',Nx H'->∃m',m'<m/\W (i+1) m' H')/\∀v H',(QL x).Dh i H v H'->g v (fK σ vs) H' fun σ2 H2=>fK σ2 vs=fK σ vs/\tt σ2 H2 fun b H3=>
    if b=true then te σ2 H3 fun y H4=>∃acc,H4 D=some (.ba acc)/\acc.length<sizeLine/\Nx (aE H4 D (.ba (acc++ [y])))else Nx H3):=by
 refine⟨fun i m H=>m=x.cps.size-i/\i<=x.cps.size/\Pv i H,⟨x.cps.size,by simp,afF _,h0⟩,?_⟩;rintro i m H ⟨rfl,hi,p⟩;by_cases iF:i<x.cps.size
 .refine .inr ⟨iF,Pv (i+1),fun H' p'=>⟨x.cps.size-(i+1),by omega,rfl,iF,p'⟩,fun v H' y=> ?_⟩;obtain⟨e,c,hc,rfl⟩:=y;subst e;exact hs i c _ hc p
 .have e:i=x.cps.size:=by omega
  subst e;exact .inl ⟨afn _,hd H p⟩
inductive oX(vs:List V)(H:Hp)(Q:VK)(E:XK):Prop|m:∀(z:Str),vs=[.str z]->z.length<=100000->(∀l,H l=none->Q (.ref l) (aE H l (.ba (z.cps.toList.map vn))))->oX vs H Q E
inductive oZ(K:afU)(vs:List V)(H:Hp)(Q:VK)(E:XK):Prop|m:∀(t:afb) (a b:Nat),vs=[.ref t]->gF K H t [vn a,vn b]->a<1000000->b<1000000->(∀z:Str,z.cps.toList=pair (a,b)->Q (.str z) H)->oZ K vs H Q E
inductive xq(vs:List V)(H:Hp)(Q:VK)(E:XK):Prop|m:∀(pl:Nat) (aw:afb) (wd:List Nat),vs=[vn pl,.ref aw]->pl<1000000->NL H aw wd->wd.length<=10000000->(∀(H':Hp) (l:afb),H l=none->NL H' l (ahm pl++32::(wd++ [10]))->ax H H'->Q (.ref l) H')->xq vs H Q E
inductive xJ(K:afU)(vs:List V)(H:Hp)(Q:VK)(E:XK):Prop|m:∀(t:afb) (a b:Nat) (z:Str) (cG:afb) (tx:List Nat),vs=[.ref t,.str z,.ref cG]->gF K H t [vn a,vn b]->a<1000000->b<1000000->z.length<=1000->NL H cG tx->tx.length<=10000000->(∀(H':Hp) (l:afb),H l=none->NL H' l (pair (a,b)++32::(z.cps.toList++32::(tx++ [10])))->ax H H'->Q (.ref l) H')->xJ K vs H Q E
abbrev vV:afP:=dC 103
theorem xc:au ["text","sign"] ["text"] (ai vV):=cF
def w8(l:List afP)(i:Nat):ahM:=match l.getD i (.Pass ⟨0,0,0,0⟩)with
 | .Return (some (.ListComp _ _ sc _)) _=>sc
 |_=>{kind:= .function,names:=[],isGenerator:=false,isCoroutine:=false}
theorem U2:iK ["text","sign"] (ai vV) (w8 (cq vV) 0) [("sign",1)]:=⟨rfl,by decide+kernel,by decide+kernel,by decide+kernel,by decide+kernel⟩
theorem Hl(F:b9 K "bytes_of" "bytes_of" vV f fd)(G:lN mg):aT P w K mg base bX 1 f fd ["text"] oX:=by
 refine cz F xc fun _ _ _ _ H _ Q E hr h=> ?_
 obtain⟨z,rfl,hz,k⟩:=h;refine⟨_,af (aq (mv (own:=[("sign",1)]) rfl xc.nd (Ph (pv 0)) U2 (fun _ _ _ _ _=>hJ 1 xc.nd) (fun _ _ _ _ _=>j5) (fun _ _ _ _ _=>aN Od rfl G.ord boot_ord (aa (pv 1) ab)))),?_⟩;refine⟨_,rfl,z,rfl,fun D hD=>OQ (fun i H'=>H'=aE H D (.ba ((z.cps.toList.take i).map vn))) rfl ?_ ?_⟩
 .rintro i c H' hc rfl;refine⟨rfl,?_⟩;dsimp only[Fb];rw[afh rfl];have ow:z.cps.toList[i]? =some c:=by rw[alc];exact hc
  refine⟨_,rfl,c,rfl,_,aj,b8 (by rw[ae9,afW];rw[bL]at hz;omega),?_⟩;rw[aS ow,afB];funext b;unfold L2.aE;by_cases e:b=D
  .rw[afh e,afh e];rfl
  .rw[afc e,afc e,afc e]
 .rintro H' rfl;have:z.cps.toList.take z.cps.size=z.cps.toList:=by rw[<-ajV];exact afR
  rw[this];exact k D hD
abbrev Bs:afP:=dC 104
theorem sV:au ["number","entry_place","sense_place"] ["number"] (ai Bs):=cF
theorem Em(F:b9 K "dotted" "dotted" Bs f fd):aT P w K mg base bX 1 f fd ["number"] (oZ K):=by
 refine cz F sV fun _ _ _ _ H _ Q E hr h=> ?_
 obtain⟨t,a,b,rfl,ht,ha,hb,k⟩:=h;refine⟨_,ae (cY 1 sV.nd (aG eJ (pv 0) ag))
  (ae (cY 2 sV.nd (aG eJ (pv 0) ag))
  (af (aq (qY (PJ.cons (sJ (pv 1)) (PJ.cons sM (PJ.cons (sJ (pv 2)) PJ.nil))))))),?_⟩
 have da:=lV ha;have db:=lV hb;have la:(agD (toString ((a:Nat):Int))).length<=7:=by rw[bL,lS];exact da
 have lb:(agD (toString ((b:Nat):Int))).length<=7:=by rw[bL,lS];exact db
 have l1:(ah6++agD (toString ((a:Nat):Int))).length<=7:=by rw[bL,fk,afa,<-bL,<-bL];show 0+_<=7;omega
 have l2:(ah6++agD (toString ((a:Nat):Int))++agD ".").length<=8:=by rw[bL,fk,afa,<-bL,<-bL];show _+1<=8;omega
 have l3:(ah6++agD (toString ((a:Nat):Int))++agD "."++agD (toString ((b:Nat):Int))).length<=15:=by rw[bL,fk,afa,<-bL,<-bL];omega
 have qg:∀{n:Nat},n<=1000->n<=sizeLine:=fun h=>afu h (by decide)
 refine⟨_,rfl,t,_,_,_,rfl,rfl,ht,(show pB [vn a,vn b] (0:Int)=some (vn a)from rfl),_,rfl,t,_,_,_,rfl,rfl,ht,(show pB [vn a,vn b] (1:Int)=some (vn b)from rfl),?_⟩;refine⟨_,rfl,.inl ⟨(a:Int),rfl,?_,_,rfl,qg (by omega),_,rfl,qg (by omega),_,rfl,.inl ⟨(b:Int),rfl,?_,_,rfl,qg (by omega),qg (by omega),k _ ?_⟩⟩⟩
 .show a<2^64;omega
 .show b<2^64;omega
 .rw[fk,fk,fk,lS,lS];show []++ahm a++ [46]++ahm b=ahm a++46::ahm b;rw[agT,afQ];rfl
theorem ZA{v:V}{Q:VK}(h:H a=some (.ba xs))(e:xs[i]? =some v)(q:Q v H)(hz:z=(i:Int):=by rfl):EO K (.ref a) (.int z) H Q:=⟨a,xs,z,v,rfl,rfl,aJ.of h,gE hz e,q⟩
theorem nV{Q:VK}(h:NL H a l)(e:l[i]? =some n)(q:Q (vn n) H)(hz:z=(i:Int):=by rfl):EO K (.ref a) (.int z) H Q:=ZA h (by rw[afw,e];rfl) q hz
section
variable{es:List agP}{t:TA}
def To(t:TA):TE:=fun σ H Q=>t σ H fun xs H1=>xs.length<=sizeLine/\∀(H':Hp) (p:afb),H1 p=none->ax H1 H'->H' p=some (.ba xs)->Q (.ref p) H'
theorem fN(h:PA X es t):PE X (.List es pos) (To t):=by
 intro pins s σ H Q I hq;refine alO (cK (h pos pins s σ H _ I hq) fun us s1 ⟨xs,H1,I1,r,z,q⟩=>⟨by rw[<-r.length];exact z,?_⟩);have hf:H1 s1.heap.objs.size=none:=I1.dc.fresh (afn _);refine⟨.ref s1.heap.objs.size,aE H1 s1.heap.objs.size (.ba xs),I1.ml (t':=s1.toks) (fun b u e=>afk _ e) (afn _) ?_,rfl,q _ _ hf (ax.new hf) aj⟩;exact⟨z,us,0,r,afG _ rfl⟩
def Ts(t:TA):TE:=fun σ H Q=>t σ H fun xs H1=>xs.length<=sizeLine/\∀(H':Hp) (p:afb),H1 p=none->ax H1 H'->H' p=some (.dY xs)->Q (.ref p) H'
theorem Xv{x1}(h:PA X es t):PE X (.Tuple es x1 pos) (Ts t):=by
 intro pins s σ H Q I hq;refine alE (cK (h pos pins s σ H _ I hq) fun us s1 ⟨xs,H1,I1,r,z,q⟩=>⟨by rw[<-r.length];exact z,?_⟩);have hf:H1 s1.heap.objs.size=none:=I1.dc.fresh (afn _);refine⟨.ref s1.heap.objs.size,aE H1 s1.heap.objs.size (.dY xs),I1.ml (t':=s1.toks) (fun b u e=>afk _ e) (afn _) ?_,rfl,q _ _ hf (ax.new hf) aj⟩;exact⟨z,us,r,⟨_,afG _ rfl,rfl,_,rfl⟩⟩
inductive NF(x:V)(y:V)(H:Hp)(Q:VK):Prop|m:∀(a b:afb) (l m:List Int),x= .ref a->y= .ref b->IL H a l->IL H b m->l.length+m.length<=16000000->(∀(H':Hp) (p:afb),H p=none->ax H H'->IL H' p (l++m)->Q (.ref p) H')->NF x y H Q
theorem dW:nY X (binaryOp .Add) NF:=by
 intro pins s σ H x y u v Q I rx ry ⟨a,b,l,m,e1,e2,h1,h2,hz,q⟩;exact sF pins s σ H x y u v Q I rx ry ⟨a,b,_,_,e1,e2,h1,h2,by rw[ae9,ae9];exact agC (aiT hz (by decide)),fun p hp=>q _ p hp (ax.new hp) (by show L2.aE _ p _ p=_;rw[aj,afB])⟩
def iq(xs:List Int)(lo hi:Option Int):List Int:=(xs.drop (HT.vv xs.length 0 lo)).take (HT.vv xs.length xs.length hi-HT.vv xs.length 0 lo)
theorem J0(xs:List Int)(lo hi:Option Int):x4 (xs.map V.int) lo hi=(iq xs lo hi).map V.int:=by
 unfold x4 iq;rw[ae9,aiK,ajy]
inductive S1(K:afU)(x:V)(lo:Option Int)(hi:Option Int)(H:Hp)(Q:VK):Prop|m:∀(a:afb) (xs:List Int),x= .ref a->aJ K H a (xs.map V.int)->(∀(H':Hp) (p:afb),H p=none->ax H H'->IL H' p (iq xs lo hi)->Q (.ref p) H')->S1 K x lo hi H Q
theorem mn:UT X (S1 X.K):=by
 intro pins s σ H x v vl vu lo hi sl Q I rx e0 e1 e2 ⟨a,xs,ex,hl,q⟩;exact C7 pins s σ H x v vl vu lo hi sl Q I rx e0 e1 e2 ⟨a,_,ex,hl,fun p hp=>q _ p hp (ax.new hp) (by show L2.aE _ p _ p=_;rw[aj,J0])⟩
end
theorem yl(xs:List Int)(i:Nat):xs.drop (min i xs.length)=xs.drop i:=by
 by_cases h:i<=xs.length
 .rw[ahH h]
 .rw[ajt (by omega),ajs,agr (by omega)]
theorem mJ(xs:List Int)(i j:Nat):iq xs (some (i:Int)) (some (j:Int))=(xs.take j).drop i:=by
 unfold iq;rw[HT.oP,HT.oP,yl,aiB];by_cases h:i<=xs.length
 .rw[ahH h];by_cases q:j<=xs.length
  .rw[ahH q]
  .rw[ajt (by omega),agu (by rw[agp];omega),agu (by rw[agp];omega)]
 .rw[agr (by omega),anp,anp]
theorem rJ(xs:List Int)(i:Nat):iq xs (some (i:Int)) none=xs.drop i:=by
 unfold iq;rw[HT.oP,HT.sR,yl];exact agu (by rw[agp];omega)
theorem vS(xs:List Int)(j:Nat):iq xs none (some (j:Int))=xs.take j:=by
 unfold iq;rw[HT.oP,HT.sR,ahV,amd];by_cases q:j<=xs.length
 .rw[ahH q]
 .rw[ajt (by omega),afR,agu (by omega)]
theorem jx(h:NL H a l):IL H a (l.map nat):=by
 show H a=_;rw[h,ag4];rfl
theorem gD(h:IL H a (l.map nat)):NL H a l:=by
 show H a=_;rw[h,ag4];rfl
section
variable{Q:VK}
theorem aV.gR(hB:aV C H b d B FZ N)(he:e∈names B):ei H d.r (vn e) (some (.ref (d.ra e))):=by
 have:=ei.k (k:=afx (e:Int)) hB.bq.hr;rw[hB.dr.get he]at this;exact this
theorem aV.gG(hB:aV C H b d B FZ N)(hn:n∈aD B):ei H d.g (vn n) (some (vn (afr B n).points)):=by
 have:=ei.k (k:=afx (n:Int)) hB.bq.hg;rw[hB.dg.get hn]at this;exact this
end
section
variable{nw lg ed ln:afb}
theorem dP:(Af nw lg ed ln em sm).lookup ("now":Str)=some (.ref nw):=by rfl
theorem i7:(Af nw lg ed ln em sm).lookup ("log":Str)=some (.ref lg):=by rfl
theorem pL:(Af nw lg ed ln em sm).lookup ("editions":Str)=some (.ref ed):=by rfl
theorem Ae:(Af nw lg ed ln em sm).lookup ("lengths":Str)=some (.ref ln):=by rfl
theorem yC:(Af nw lg ed ln em sm).lookup ("entries_made":Str)=some (vn em):=by rfl
theorem yD:(Af nw lg ed ln em sm).lookup ("senses_made":Str)=some (vn sm):=by rfl
end
structure zS(K:afU)(mg:Str->Option afe)(C:afb):Prop where
 cl:zF K C
 nN:fE K C "now"
 nL:fE K C "log"
 nE:fE K C "editions"
 nS:fE K C "lengths"
 nM:fE K C "entries_made"
 nT:fE K C "senses_made"
 mgH:mg "House"=some (.ref C)
theorem wC{g:TG}{vs:List Nat}{Qd:Hp->Prop}(p:Int->Bool)(hD:H1 D=none)(hl:aJ K H1 a (ns.map V.int))(hz:ns.length<=100000)
  (hs:∀(z:Int) (H':Hp) (R:VK),R (.bl (p z)) H'->g (.int z) (fK σ vs) H' fun σ2 H2=>fK σ2 vs=fK σ vs/\te σ2 H2 R)
  (hd:∀H',ax H1 H'->H' D=some (.ba ((ns.map p).map V.bl))->Qd H') (fJ:∀(v:V) (σ:L2.St) (H':Hp) (R R':L2.St->Hp->Prop),(∀σ2 H2,R σ2 H2->R' σ2 H2)->g v σ H' R->g v σ H' R'):
  ∃W:Nat->Nat->Hp->Prop,(∃m,W 0 m (aE H1 D (.ba [])))/\∀i m H,W i m H->
   ((Fw K a).ju i H/\Qd H)\/((Fw K a).go i H/\∃Nx:Hp->Prop,(∀H',Nx H'->∃m',m'<m/\W (i+1) m' H')/\∀x H',(Fw K a).Dh i H x H'->g x (fK σ vs) H' fun σ2 H2=>fK σ2 vs=fK σ vs/\Fb σ2 H2 fun b H3=>
    if b=true then te σ2 H3 fun y H4=>∃acc,H4 D=some (.ba acc)/\acc.length<sizeLine/\Nx (aE H4 D (.ba (acc++ [y])))else Nx H3):=by
 refine jZ (K:=K) (a:=a) (xs:=ns.map V.int) (fun i H'=>ax H1 H'/\H' D=some (.ba (((ns.take i).map p).map V.bl))) ⟨ax.new hD,aj⟩ (fun i H' _ h=>h.1.seq hl) ?_ ?_
 .rintro i x H' hi ⟨s1,h1⟩;obtain⟨z,qo,rfl⟩:∃z,ns[i]? =some z/\x=V.int z:=by
   rw[afw]at hi;cases e:ns[i]? with
   |none=>rw[e]at hi;cases hi
   |some z=>rw[e]at hi;exact⟨z,rfl,(aft hi).symm⟩
  refine fJ _ _ _ _ _ (fun σ2 H2 q=>⟨q.1,by dsimp only[Fb];rw[afh rfl];exact q.2⟩) (hs z H' (fun y H4=>∃acc,H4 D=some (.ba acc)/\acc.length<sizeLine/\ax H1 (aE H4 D (.ba (acc++ [y])))/\L2.aE H4 D (.ba (acc++ [y])) D=some (.ba (((ns.take (i+1)).map p).map V.bl))) ⟨_,h1,?_,?_,?_⟩)
  .rw[ae9,ae9,afW];exact b8 (by omega)
  .exact fun b o e=>by rw[ao (ak e hD)];exact s1 b o e
  .rw[aj,aS qo,afB,afB];rfl
 .rintro H' ⟨s1,h1⟩;rw[ae9,afR]at h1;exact hd H' s1 h1
theorem BY:∀(v:V) (σ:L2.St) (H':Hp) (R R':L2.St->Hp->Prop),(∀σ2 H2,R σ2 H2->R' σ2 H2)->qk i v σ H' R->qk i v σ H' R':=fun _ _ _ _ _ h z=>h _ _ z
inductive o6(K:afU)(vs:List V)(H:Hp)(Q:VK)(E:XK):Prop|m:∀(a:afb) (r:List Int) (sh lo le gr:Nat),vs=[.ref a,vn sh,vn lo,vn le,vn gr]->aJ K H a (r.map V.int)->r.length<=100000->(∀H',ax H H'->Q (.bl (dG r sh lo le gr)) H')->o6 K vs H Q E
inductive JJ(K:afU)(p:List Int->Bool)(vs:List V)(H:Hp)(Q:VK)(E:XK):Prop|m:∀(a:afb) (r:List Int),vs=[.ref a]->aJ K H a (r.map V.int)->r.length<=100000->(∀H',ax H H'->Q (.bl (p r)) H')->JJ K p vs H Q E
def Cy:ahM:={kind:= .function,names:=[],isGenerator:=false,isCoroutine:=false}
def ZH:agP->ahM
 | .ListComp _ _ sc _=>sc
 | .Call _ [.ListComp _ _ sc _] _ _=>sc
 | .UnaryOp _ (.Call _ [.ListComp _ _ sc _] _ _) _=>sc
 | .BoolOp _ [_,.UnaryOp _ (.Call _ [.ListComp _ _ sc _] _ _) _] _=>sc
 |_=>Cy
def OP(l:List afP)(i:Nat):ahM:=match l.getD i (.Pass ⟨0,0,0,0⟩)with
 | .Return (some e) _=>ZH e
 | .If e _ _ _=>ZH e
 |_=>Cy
abbrev vY:afP:=dC 31
theorem xh:au ["row","shortest","longest","least","greatest","number"] ["row","shortest","longest","least","greatest"] (ai vY):=cF
theorem JT:iK ["row","shortest","longest","least","greatest","number"] (ai vY) (OP (cq vY) 1) [("number",5)]:=⟨rfl,by decide+kernel,by decide+kernel,by decide+kernel,by decide+kernel⟩
theorem HE(F:b9 K "is_row" "is_row" vY f fd)(G:lN mg):aT P w K mg base bX 1 f fd ["row","shortest","longest","least","greatest"] (o6 K):=by
 refine cz F xh fun _ _ _ _ H _ Q E hr h=> ?_
 obtain⟨a,r,sh,lo,le,gr,rfl,hl,hz,k⟩:=h;refine⟨_,ae (aZ (bu (lD gT gT (pv 1) (aN ay rfl G.len ago (aa (pv 0) ab)) (pv 2))) (af (aq dy)) aC)
  (af (aq (aN (rH rfl) rfl G.all ame (aa (mv (own:=[("number",5)]) rfl xh.nd (bO (pv 0)) JT (fun _ _ _ _ _=>hJ 5 xh.nd) (fun _ _ _ _ _=>j5) (fun _ _ _ _ _=>sI gT gT (pv 3) (pv 5) (pv 4))) ab)))),?_⟩
 have e1:((r.map V.int).length:Int)=r.length:=by rw[ae9]
 have fin:∀{H'},ax H H'->decide (sh<=r.length/\r.length<=lo)=false->Q (.bl false) H':=fun s q=>by
  have:=k _ s;unfold dG at this;rw[q,ai3]at this;exact this
 refine⟨_,rfl,_,rfl,a,_,rfl,.inl hl,_,_,rfl,rfl,_,rfl,?_⟩;refine aW (fun c1=> ?_) (fun c1=> ?_)
 .refine⟨_,rfl,_,_,rfl,rfl,_,rfl,?_⟩;refine aW (fun c2=> ?_) (fun c2=> ?_)
  .refine fin (ax.refl H) (agb fun q=> ?_);rw[e1]at c2;simp at c2;omega
  .rw[e1]at c1 c2;have c3:decide (sh<=r.length/\r.length<=lo)=true:=by
    simp at c1 c2;exact afj ⟨by omega,by omega⟩
   refine⟨_,rfl,a,rfl,⟨_,hl⟩,fun D hD=>wC (fun z=>decide ((le:Int)<=z/\z<=(gr:Int))) hD hl hz (fun z H' R q=>⟨rfl,_,rfl,_,rfl,_,_,rfl,rfl,_,rfl,?_⟩) (fun H' s1 h1=>⟨D,_,rfl,aJ.of h1,?_⟩) BY⟩
   .refine aW (fun d1=>⟨_,rfl,_,_,rfl,rfl,?_⟩) (fun d1=> ?_)
    .have e:decide (z<=(gr:Int))=decide ((le:Int)<=z/\z<=(gr:Int)):=agz.mpr ⟨fun q=>⟨aff d1,q⟩,fun q=>q.2⟩;show R (V.bl (decide (z<=(gr:Int)))) H';rw[e];exact q
    .have e:false=decide ((le:Int)<=z/\z<=(gr:Int)):=(agb fun q=>d1 (afj q.1)).symm;rw[e];exact q
   .have:=k _ s1;unfold dG at this;rw[c3,ajz]at this;rw[ag3];exact this
 .refine⟨_,rfl,fin (ax.refl H) (agb fun q=>c1 (afj ?_))⟩;rw[e1];omega
theorem gY{x:Str}{n:Int}(hg:Gl X x)(h:∃t,X.mg x=some (.int n t))(hd:(x==("__debug__":Str))=false:=by decide):PE X (.Name x pos) (tC (.int n)):=
 let⟨t,m⟩:=h;cu hg m ⟨t,rfl⟩ hd
theorem qb(Q:VK){a b:Bool}(e:a=b)(q:Q (.bl b) H):Q (.bl a) H:=e▸q
theorem GR{k:Nat}(c:decide ((V.int (k:Int))=V.int 0)=true):k=0:=by
 have:=aff c;injection this with this
 omega
theorem GS{k:Nat}(c:¬decide ((V.int (k:Int))=V.int 0)=true):k≠0:=fun z=>c (afj (by rw[z];rfl))
theorem bM.mt{D:HA}{lg:List agE}{en:List Nat}{bs:List af8}(W:bM CB CH H h D em sm B lg en bs FZ N){dvs:List V}{E:XK}{t:TA}{Q:VK}(hm:¬m="now"/\¬m="log"/\¬m="editions"/\¬m="lengths"/\¬m="entries_made"/\¬m="senses_made")(q:t σ H fun vs H2=>sp (.ref h::(vs++dvs)) H2 Q E):Ag CH m sp dvs E t σ Q (.ref h) H:=by
 refine⟨h,D.dx,_,rfl,W.ins,?_,q⟩;unfold Af;rw[aP,afc hm.2.2.2.2.2,aP,afc hm.2.2.2.2.1,aP,afc hm.2.2.2.1,aP,afc hm.2.2.1,aP,afc hm.2.1,aP,afc hm.1];rfl
structure Jt(mg:Str->Option afe):Prop where
 told:∃t,mg "NOT_AS_TOLD"=some (.int (-1) t)
 Xl:∃t,mg "NO_CHANGES"=some (.int (-3) t)
 full:∃t,mg "FULL"=some (.int (-4) t)
 Uv:∃t,mg "NO_ENTRY"=some (.int (-5) t)
 NB:∃t,mg "NO_SENSE"=some (.int (-6) t)
 Uw:∃t,mg "NO_PLACE"=some (.int (-7) t)
 ZR:∃t,mg "NO_EDITION"=some (.int (-8) t)
 noL:∃t,mg "NO_LINE"=some (.int (-5) t)
 mE:∃t,mg "MOST_ENTRIES"=some (.int 20 t)
 mS:∃t,mg "MOST_SENSES"=some (.int 50 t)
 mL:∃t,mg "MOST_LINES"=some (.int 200 t)
 mK:∃t,mg "MOST_EDITIONS"=some (.int 10 t)
 made:∃t,mg "SENSE_MADE"=some (.int 1 t)
 Sw:∃t,mg "SENSE_MOVED_house"=some (.int 4 t)
 Rm:∃t,mg "ERRATUM"=some (.int 8 t)
inductive tD(CB:afb)(CH:afb)(r:Nat->Nat->List agE->List af8->V)(vs:List V)(H:Hp)(Q:VK)(E:XK):Prop|m:∀(h:afb) (D:HA) (em sm:Nat) (B:af8) (lg:List agE) (en:List Nat) (bs:List af8) (FZ:List afb) (N:Nat),vs=[.ref h]->bM CB CH H h D em sm B lg en bs FZ N->Q (r em sm lg bs) H->tD CB CH r vs H Q E
abbrev My:afP:=bt gm 1
theorem Pz:au ["self"] ["self"] (ai My):=cF
theorem K1(F:b9 K "log_is_full" "House.log_is_full" My f fd)(T:zS K mg CH)(G:lN mg)(X:Jt mg):aT P w K mg base bX 1 f fd ["self"] (tD CB CH fun _ _ lg _=> .bl (decide (200<=lg.length))):=by
 refine cz F Pz fun _ _ _ _ H _ Q E hr h=> ?_
 obtain⟨h,D,em,sm,B,lg,en,bs,FZ,N,rfl,W,k⟩:=h;refine⟨_,af (aq (fM Cz (aN ay rfl G.len ago (aa (az (pv 0)) ab)) (gY rfl X.mL) (bc _))),?_⟩;refine⟨_,rfl,h,CH,D.dx,_,_,rfl,W.ins,T.cl,T.nL,i7,D.lg,_,rfl,.inl (aJ.of W.hl),_,_,rfl,rfl,?_⟩;have e:decide ((200:Int)<=((D.la.map fun x=>V.ref x.1).length:Nat))=decide (200<=lg.length):=by
  rw[ae9,W.ll];exact agz.mpr ⟨fun q=>by omega,fun q=>by omega⟩
 exact qb Q e k
abbrev F6:afP:=bt gm 2
theorem LL:au ["self"] ["self"] (ai F6):=cF
theorem HK{ff:afb}{VO:afC}(F:b9 K "no_more_entries" "House.no_more_entries" F6 f fd)(T:zS K mg CH)(X:Jt mg)(mF:zG P w K mg base 1 CH "log_is_full" ["self"] (tD CB CH fun _ _ lg _=> .bl (decide (200<=lg.length))) ff VO):aT P w K mg base bX 2 f fd ["self"] (tD CB CH fun em _ lg _=> .bl (decide (20<=em\/200<=lg.length))):=by
 refine cz F LL fun _ _ _ _ H _ Q E hr h=> ?_
 obtain⟨h,D,em,sm,B,lg,en,bs,FZ,N,rfl,W,k⟩:=h;refine⟨_,af (aq (CA (fM Cz (az (pv 0)) (gY rfl X.mE) (bc _)) (lu (lq (pv 0) T.cl mF.me mF.ok hr mF.bi .nil bw)))),?_⟩;refine⟨_,rfl,h,CH,D.dx,_,_,rfl,W.ins,T.cl,T.nM,yC,_,_,rfl,rfl,_,rfl,aW (fun c=> ?_) (fun c=> ?_)⟩
 .have c':(20:Int)<=(em:Int):=aff c;exact qb Q (afj (show 20<=em\/200<=lg.length by omega)).symm k
 .have c':¬(20:Int)<=(em:Int):=fun z=>c (afj z)
  exact⟨_,rfl,W.mt (by decide+kernel) ⟨h,D,em,sm,B,lg,en,bs,FZ,N,rfl,W,qb Q (agz.mpr ⟨.inr,fun z=>z.resolve_left (by omega)⟩) k⟩⟩
abbrev F8:afP:=bt gm 3
theorem LN:au ["self"] ["self"] (ai F8):=cF
theorem HM{ff:afb}{VO:afC}(F:b9 K "no_more_senses" "House.no_more_senses" F8 f fd)(T:zS K mg CH)(X:Jt mg)(mF:zG P w K mg base 1 CH "log_is_full" ["self"] (tD CB CH fun _ _ lg _=> .bl (decide (200<=lg.length))) ff VO):aT P w K mg base bX 2 f fd ["self"] (tD CB CH fun _ sm lg _=> .bl (decide (50<=sm\/200<=lg.length))):=by
 refine cz F LN fun _ _ _ _ H _ Q E hr h=> ?_
 obtain⟨h,D,em,sm,B,lg,en,bs,FZ,N,rfl,W,k⟩:=h;refine⟨_,af (aq (CA (fM Cz (az (pv 0)) (gY rfl X.mS) (bc _)) (lu (lq (pv 0) T.cl mF.me mF.ok hr mF.bi .nil bw)))),?_⟩;refine⟨_,rfl,h,CH,D.dx,_,_,rfl,W.ins,T.cl,T.nT,yD,_,_,rfl,rfl,_,rfl,aW (fun c=> ?_) (fun c=> ?_)⟩
 .have c':(50:Int)<=(sm:Int):=aff c;exact qb Q (afj (show 50<=sm\/200<=lg.length by omega)).symm k
 .have c':¬(50:Int)<=(sm:Int):=fun z=>c (afj z)
  exact⟨_,rfl,W.mt (by decide+kernel) ⟨h,D,em,sm,B,lg,en,bs,FZ,N,rfl,W,qb Q (agz.mpr ⟨.inr,fun z=>z.resolve_left (by omega)⟩) k⟩⟩
abbrev F7:afP:=bt gm 4
theorem LM:au ["self"] ["self"] (ai F7):=cF
theorem HL(F:b9 K "no_more_editions" "House.no_more_editions" F7 f fd)(T:zS K mg CH)(G:lN mg)(X:Jt mg):aT P w K mg base bX 1 f fd ["self"] (tD CB CH fun _ _ _ bs=> .bl (decide (10<=bs.length))):=by
 refine cz F LM fun _ _ _ _ H _ Q E hr h=> ?_
 obtain⟨h,D,em,sm,B,lg,en,bs,FZ,N,rfl,W,k⟩:=h;refine⟨_,af (aq (fM Cz (aN ay rfl G.len ago (aa (az (pv 0)) ab)) (gY rfl X.mK) (bc _))),?_⟩;refine⟨_,rfl,h,CH,D.dx,_,_,rfl,W.ins,T.cl,T.nE,pL,D.ed,_,rfl,.inl (aJ.of W.he),_,_,rfl,rfl,qb Q ?_ k⟩;rw[ae9,W.el];exact agz.mpr ⟨fun q=>by omega,fun q=>by omega⟩
inductive xu(CB:afb)(CH:afb)(vs:List V)(H:Hp)(Q:VK)(E:XK):Prop|m:∀(h:afb) (D:HA) (S:afl) (FZ:List afb) (k:Nat),vs=[.ref h,vn k]->cb CB CH H h D S FZ->Q (.bl (decide (k<=S.editions.length))) H->xu CB CH vs H Q E
inductive E3(CB:afb)(CH:afb)(r:HA->afl->Nat->V)(vs:List V)(H:Hp)(Q:VK)(E:XK):Prop|m:∀(h:afb) (D:HA) (S:afl) (FZ:List afb) (k:Nat),vs=[.ref h,vn k]->cb CB CH H h D S FZ->k<=S.editions.length->Q (r D S k) H->E3 CB CH r vs H Q E
theorem gU(S:afl):(jA S).length=S.editions.length:=by unfold jA;rw[ae9,List.length_range]
abbrev FV:afP:=bt gm 7
theorem LD:au ["self","number"] ["self","number"] (ai FV):=cF
theorem Hx(F:b9 K "has_book" "House.has_book" FV f fd)(T:zS K mg CH)(G:lN mg):aT P w K mg base bX 1 f fd ["self","number"] (xu CB CH):=by
 refine cz F LD fun _ _ _ _ H _ Q E hr h=> ?_
 obtain⟨h,D,S,FZ,k,rfl,W,q⟩:=h;refine⟨_,af (aq (fM gT (pv 1) (aN ay rfl G.len ago (aa (az (pv 0)) ab)) (bc _))),?_⟩;refine⟨_,rfl,_,rfl,h,CH,D.dx,_,_,rfl,W.w.ins,T.cl,T.nE,pL,D.ed,_,rfl,.inl (aJ.of W.w.he),_,_,rfl,rfl,qb Q ?_ q⟩;rw[ae9,W.w.el,gU];exact agz.mpr ⟨fun q=>by omega,fun q=>by omega⟩
abbrev Mu:afP:=bt gm 8
theorem Pw:au ["self","number"] ["self","number"] (ai Mu):=cF
theorem KU(F:b9 K "book" "House.book" Mu f fd)(T:zS K mg CH):aT P w K mg base bX 1 f fd ["self","number"] (E3 CB CH fun D _ k=> .ref (bQ D k).1):=by
 refine cz F Pw fun _ _ _ _ H _ Q E hr h=> ?_
 obtain⟨h,D,S,FZ,k,rfl,W,hk,q⟩:=h;refine⟨_,ae (aZ (aX fU (pv 1) ag (bc _)) (af (aq (az (pv 0)))) aC)
  (af (aq (aG aA (az (pv 0)) (bx j3 (pv 1) ag)))),?_⟩
 refine⟨_,rfl,rfl,_,rfl,aW (fun c=> ?_) (fun c=> ?_)⟩
 .have c':k=0:=GR c;subst c';exact⟨_,rfl,h,CH,D.dx,_,_,rfl,W.w.ins,T.cl,T.nN,dP,q⟩
 .obtain⟨i,rfl⟩:∃i,k=i+1:=⟨k-1,by have:=GS c;omega⟩;have hi:i<D.eb.length:=by rw[W.w.el,gU];exact hk
  refine⟨_,rfl,h,CH,D.dx,_,_,rfl,W.w.ins,T.cl,T.nE,pL,_,rfl,_,_,rfl,rfl,ZA (i:=i) (v:= .ref (D.eb[i]).1) W.w.he ?_ ?_ (by omega)⟩
  .rw[afw,afi hi];rfl
  .have e:(bQ D (i+1)).1=(D.eb[i]).1:=by
    unfold bQ;rw[afc (ah8 i),ahT,ahS,afi hi];rfl
   try dsimp only at q
   rw[e]at q;exact q
abbrev By:afP:=bt gm 9
theorem IT:au ["self","number"] ["self","number"] (ai By):=cF
theorem Et(F:b9 K "length" "House.length" By f fd)(T:zS K mg CH)(G:lN mg):aT P w K mg base bX 1 f fd ["self","number"] (E3 CB CH fun _ S k=>vn (ahg S k)):=by
 refine cz F IT fun _ _ _ _ H _ Q E hr h=> ?_
 obtain⟨h,D,S,FZ,k,rfl,W,hk,q⟩:=h;refine⟨_,ae (aZ (aX fU (pv 1) ag (bc _)) (af (aq (aN ay rfl G.len ago (aa (az (pv 0)) ab)))) aC)
  (af (aq (aG aA (az (pv 0)) (bx j3 (pv 1) ag)))),?_⟩
 refine⟨_,rfl,rfl,_,rfl,aW (fun c=> ?_) (fun c=> ?_)⟩
 .have c':k=0:=GR c;subst c';refine⟨_,rfl,h,CH,D.dx,_,_,rfl,W.w.ins,T.cl,T.nL,i7,D.lg,_,rfl,.inl (aJ.of W.w.hl),?_⟩;rw[ae9,W.w.ll];exact q
 .obtain⟨i,rfl⟩:∃i,k=i+1:=⟨k-1,by have:=GS c;omega⟩;refine⟨_,rfl,h,CH,D.dx,_,_,rfl,W.w.ins,T.cl,T.nS,Ae,_,rfl,_,_,rfl,rfl,nV (i:=i) (n:=S.editions[i]) W.w.hn (afi hk) ?_ (by omega)⟩;try dsimp only at q
  rw[DZ (afi hk)]at q;exact q
inductive AZ(CB:afb)(CH:afb)(vs:List V)(H:Hp)(Q:VK)(E:XK):Prop|m:∀(h nl rl:afb) (D:HA) (em sm:Nat) (B:af8) (lg:List agE) (en:List Nat) (bs:List af8) (FZ:List afb) (N N':Nat) (a:agE),vs=[.ref h,vn (bz a),.ref nl,.ref rl]->bM CB CH H h D em sm B lg en bs FZ N->N<=N'->nl∈FZ->rl∈FZ->NL H nl (eO a)->NL H rl (ur a)->lg.length<=200->(∀(H':Hp) (t:afb),H t=none->bM CB CH H' h {D with la:=D.la++ [(t,nl,rl)]} em sm B (lg++ [a]) en bs (t::FZ) N'->Kp [D.lg] H H'->Q (vn (lg.length+1)) H')->AZ CB CH vs H Q E
inductive tw(CB:afb)(CH:afb)(vs:List V)(H:Hp)(Q:VK)(E:XK):Prop|m:∀(h:afb) (D:HA) (em sm:Nat) (B:af8) (lg:List agE) (en:List Nat) (bs:List af8) (FZ:List afb) (N:Nat),vs=[.ref h]->bM CB CH H h D em sm B lg en bs FZ N->N<100000->bs.length<=10->en.length<=10->(∀(H':Hp) (b:afb) (d:BA),(∀a∈bS b d B,H a=none)->bM CB CH H' h {D with eb:=D.eb++ [(b,d)]} em sm B lg (en++ [lg.length]) (bs++ [B]) FZ N->Kp [D.ed,D.ln] H H'->Q .gw H')->tw CB CH vs H Q E
inductive xx(CB:afb)(CH:afb)(vs:List V)(H:Hp)(Q:VK)(E:XK):Prop|m:∀(p dx:afb),vs=[.ref p]->H p=some (.ins CH dx [])->H dx=some (.own p)->p≠dx->(∀(H':Hp) (D:HA),bM CB CH H' p D 0 0 empty [] [] [] [] 0->Kp [p] H H'->(∀a∈pI p D++bS D.nw D.dn empty,a=p\/a=dx\/H a=none)->Q .gw H')->xx CB CH vs H Q E
theorem XJ{p dx:afb}{fs fs':List (Str×V)}(hp:H p=some (.ins C dx fs))(hq:H q=none):∃H',aE (aE H q (.ba [])) p (.ins C dx fs')=H'/\Kp [p] H H'/\H' p=some (.ins C dx fs')/\H' q=some (.ba [])/\q≠p/\∀x,H' x=none->H x=none:=by
 have n:q≠p:=fun z=>by rw[z,hp]at hq;cases hq
 exact⟨_,rfl,fA hq,aj,by rw[ao n];exact aj,n,fun x hx=>yU hx⟩
abbrev MF:afP:=bt gm 5
theorem PF:au ["self","call","numbers","row"] ["self","call","numbers","row"] (ai MF):=cF
theorem K7(F:b9 K "note" "House.note" MF f fd)(T:zS K mg CH)(G:lN mg):aT P w K mg base bX 1 f fd ["self","call","numbers","row"] (AZ CB CH):=by
 refine cz F PF fun _ _ _ _ H _ Q E hr h=> ?_
 obtain⟨h,nl,rl,D,em,sm,B,lg,en,bs,FZ,N,N',a,rfl,W,hN,f1,f2,h1,h2,hz,k⟩:=h;refine⟨_,ae (aI (cy afq agc agh de (az (pv 0)) (aa (Il (aa (pv 1) (aa (pv 2) (aa (pv 3) ab)))) ab)))
  (af (aq (aN ay rfl G.len ago (aa (az (pv 0)) ab)))),?_⟩
 refine⟨_,rfl,h,CH,D.dx,_,_,rfl,W.ins,T.cl,T.nL,i7,.inl ⟨rfl,_,aJ.of W.hl⟩,_,rfl,_,rfl,_,rfl,by show 3<=sizeLine;decide,fun t ht=> ?_⟩;have s1:ax H (aE H t (.dY [vn (bz a),.ref nl,.ref rl])):=ax.new ht;refine⟨D.lg,_,_,rfl,rfl,s1 _ _ W.hl,by rw[ae9,W.ll];exact b8 (by omega),?_⟩;have W':=W.sD a ht f1 f2 h1 h2 hN;refine⟨_,rfl,h,CH,D.dx,_,_,rfl,W'.ins,T.cl,T.nL,i7,D.lg,_,rfl,.inl (aJ.of W'.hl),?_⟩;have e:((({D with la:=D.la++ [(t,nl,rl)]}:HA).la.map fun x=>V.ref x.1).length:Int)=((lg.length+1:Nat):Int):=by
  rw[ae9,W'.ll,afa];rfl
 have:=k _ t ht W' (dQ (lZ s1) (.inl (by simp)));show Q (V.int _) _;rw[e];exact this
abbrev Bv:afP:=bt gm 6
theorem IK:au ["self"] ["self"] (ai Bv):=cF
theorem Eo(F:b9 K "freeze" "House.freeze" Bv f fd)(T:zS K mg CH)(G:lN mg)(cC:jw P w K mg base 3 "copied" ["book"] (lI CB) fc fO):aT P w K mg base bX 4 f fd ["self"] (tw CB CH):=by
 refine cz F IK fun _ _ _ _ H _ Q E hr h=> ?_
 obtain⟨h,D,em,sm,B,lg,en,bs,FZ,N,rfl,W,hN,hb,he,k⟩:=h;refine⟨_,ae (aI (cy afq agc agh de (az (pv 0)) (aa (bh cC.ok hr rfl cC.mg cC.kp cC.bi .nil bw (aa (az (pv 0)) ab)) ab)))
  (af (aI (cy afq agc agh de (az (pv 0)) (aa (aN ay rfl G.len ago (aa (az (pv 0)) ab)) ab)))),?_⟩
 refine⟨_,rfl,h,CH,D.dx,_,_,rfl,W.ins,T.cl,T.nE,pL,.inl ⟨rfl,_,aJ.of W.he⟩,_,rfl,h,CH,D.dx,_,_,rfl,W.ins,T.cl,T.nN,dP,D.nw,D.dn,B,FZ,N,rfl,W.now,hN,fun H1 b d hB s1 fr=> ?_⟩;have W1:=W.same s1;refine⟨D.ed,_,_,rfl,rfl,W1.he,by rw[ae9,W.el];exact b8 (by omega),?_⟩;have n:=W.nd;have n0:h≠D.ed:=fun z=>(afE.mp n).1 (by rw[z];simp)
 have n':=(afE.mp (afE.mp n).2).2;have n2:D.lg≠D.ed:=fun z=>(afE.mp n').1 (by rw[z];simp)
 have n3:D.ln≠D.ed:=fun z=>(afE.mp (afE.mp n').2).1 (by rw[<-z];simp)
 refine⟨_,rfl,h,CH,D.dx,_,_,rfl,by rw[ao n0];exact W1.ins,T.cl,T.nS,Ae,.inl ⟨rfl,_,aJ.of (by rw[ao n3];exact W1.hn)⟩,_,rfl,h,CH,D.dx,_,_,rfl,by rw[ao n0];exact W1.ins,T.cl,T.nL,i7,D.lg,_,rfl,.inl (aJ.of (by rw[ao n2];exact W1.hl)),D.ln,_,_,rfl,rfl,(by rw[ao n3];exact W1.hn),by rw[ae9];exact b8 (by omega),?_⟩;have W':=W.uh hB s1 fr;have e:(en.map vn++ [V.int ((D.la.map fun x=>V.ref x.1).length:Nat)])=(en++ [lg.length]).map vn:=by
  rw[ae9,W.ll,afB];rfl
 rw[e];exact k _ b d fr W' (dQ (dQ (lZ s1) (.inl (by simp))) (.inl (by simp)))
abbrev FX:afP:=bt gm 0
theorem LG:au ["self"] ["self"] (ai FX):=cF
theorem Hz(F:b9 K "__init__" "House.__init__" FX f fd)(T:zS K mg CH)(TB:mC K mg CB)(M:Mk K CB fI)(oI:aT P w K mg base bX 1 fI fR ["self"] (rn CB))(bI:eY K fR ["self"] []):aT P w K mg base bX 3 f fd ["self"] (xx CB CH):=by
 refine cz F LG fun _ _ _ _ H _ Q E hr h=> ?_
 obtain⟨p,dx,rfl,hp,hd,Uk,k⟩:=h;refine⟨_,ae (gx (pv 0) (sL M oI hr rfl TB.ZI bI .nil bw) rfl) (ae (gx (pv 0) (cp ab) rfl) (ae (gx (pv 0) (cp ab) rfl) (ae (gx (pv 0) (cp ab) rfl) (ae (gx (pv 0) ag rfl) (af (gx (pv 0) ag rfl)))))),?_⟩;intro x TX nx Sy OY;refine⟨x,TX,rfl,aj,by rw[ao OY];exact aj,agU OY,fun H1 d e1 i1 io iw ir it ig kw kr kt kg fresh Xm kp=>⟨rfl,?_⟩⟩;have s1:ax H H1:=ax.made nx Sy fun y o h hy=>kp y o h (by simpa using hy)
 have OT:∀{y:afb},(aE (aE H TX (.own x)) x (.ins CB TX [])) y=none->H y=none:=fun h=>eV (eV h)
 have n1:∀a∈eQ x d,H a=none:=fun a ha=>by
  have:a=x\/a=d.dx\/a=d.o\/a=d.w\/a=d.r\/a=d.t\/a=d.g:=by simpa using ha
  rcases this with q|q|q|q|q|q|q
  .rw[q];exact nx
  .rw[q,e1];exact Sy
  all_goals exact OT (fresh a (by rw[q];simp))
 have YO:aV CB H1 x d empty [] 0:=by
  have dn:∀(f:Nat->V),pq [] [] f:=fun f n=>by rw[afc (by simp)];rfl
  refine{wf:=WF.empty,bq:=⟨i1,by rw[e1];exact kp TX _ (by rw[ao OY];exact aj) (by simpa using OY),io,by rw[kw];exact iw,by rw[kr];exact ir,by rw[kt];exact it,by rw[kg];exact ig,fun e he=>(nomatch he),?_,fun a _ z=>(nomatch z),fun a z=>(nomatch z)⟩,lw:=by rw[kw];exact afn _,lr:=by rw[kr];exact afn _,lt:=by rw[kt];exact afn _,lg:=by rw[kg];exact afn _,le:=afn _,ls:=afn _,dw:=by rw[kw];exact dn _,dr:=by rw[kr];exact dn _,dt:=by rw[kt];exact dn _,dg:=by rw[kg];exact dn _,word:=fun e he=>(nomatch he),text:=fun e he=>(nomatch he)};show(eQ x d++ []).Nodup;rw[af5];exact Xm
 refine⟨_,rfl,p,CH,dx,_,rfl,s1 _ _ hp,T.cl,T.nN,(by show 0<1000;decide),?_⟩;have p2:L2.aE H1 p (.ins CH dx (bJ "now" (.ref x) [])) p=some (.ins CH dx (bJ "now" (.ref x) [])):=aj;have k2:Kp [p] H1 (aE H1 p (.ins CH dx (bJ "now" (.ref x) []))):=Kp.gZ (by simp);have z2:∀y,L2.aE H1 p (.ins CH dx (bJ "now" (.ref x) [])) y=none->H y=none:=fun y hy=>s1.free (eV hy)
 generalize L2.aE H1 p (.ins CH dx (bJ "now" (.ref x) []))=H2 at p2 k2 z2⊢;refine⟨afF _,fun q1 f1=>⟨_,rfl,p,CH,dx,_,rfl,(by rw[ao (ak p2 f1)];exact p2),T.cl,T.nL,(by show 1<1000;decide),?_⟩⟩;obtain⟨H3,e3,k3,p3,g3,m3,z3⟩:=XJ (fs':=bJ "log" (.ref q1) (bJ "now" (.ref x) [])) p2 f1;rw[e3];refine⟨afF _,fun q2 f2=>⟨_,rfl,p,CH,dx,_,rfl,(by rw[ao (ak p3 f2)];exact p3),T.cl,T.nE,(by show 2<1000;decide),?_⟩⟩;obtain⟨H4,e4,k4,p4,g4,m4,z4⟩:=XJ (fs':=bJ "editions" (.ref q2) (bJ "log" (.ref q1) (bJ "now" (.ref x) []))) p3 f2;rw[e4];refine⟨afF _,fun q3 f3=>⟨_,rfl,p,CH,dx,_,rfl,(by rw[ao (ak p4 f3)];exact p4),T.cl,T.nS,(by show 3<1000;decide),?_⟩⟩;obtain⟨H5,e5,k5,p5,g5,m5,z5⟩:=XJ (fs':=bJ "lengths" (.ref q3) (bJ "editions" (.ref q2) (bJ "log" (.ref q1) (bJ "now" (.ref x) [])))) p4 f3;rw[e5];refine⟨_,rfl,p,CH,dx,_,rfl,p5,T.cl,T.nM,(by show 4<1000;decide),_,rfl,p,CH,dx,_,rfl,aj,T.cl,T.nT,(by show 5<1000;decide),?_⟩;have k6:Kp [p] H5 (aE (aE H5 p (.ins CH dx (bJ "entries_made" (.int 0) (bJ "lengths" (.ref q3) (bJ "editions" (.ref q2) (bJ "log" (.ref q1) (bJ "now" (.ref x) []))))))) p (.ins CH dx (Af x q1 q2 q3 0 0))):=dQ (Kp.gZ (by simp)) (.inl (by simp));have WT:=((((k2.trans k3).trans k4).trans k5).trans k6);have hp1:H1 p=some (.ins CH dx []):=s1 _ _ hp;have np:∀{y:afb},H y=none->y∉ [p]:=fun{y} hy z=>by
  have:y=p:=by simpa using z
  rw[this,hp]at hy;cases hy
 have n0:∀{y:afb},y≠p->y∉ [p]:=fun hy z=>hy (by simpa using z)
 have Yw:H q1=none:=z2 _ f1;have Yx:H q2=none:=z2 _ (z3 _ f2);have Yy:H q3=none:=z2 _ (z3 _ (z4 _ f3));have hd1:=s1 _ _ hd;refine k _ ⟨dx,x,q1,q2,q3,d,[],[]⟩ {ins:=aj,own:=WT _ _ hd1 (n0 Uk.symm),hl:=((k4.trans k5).trans k6) _ _ g3 (n0 m3),he:=(k5.trans k6) _ _ g4 (n0 m4),hn:=k6 _ _ g5 (n0 m5),now:=YO.keep WT (fun a ha=> ?_) (fun a ha=>(nomatch ha)),ll:=rfl,ki:=fun i y a h1=>by simp at h1,el:=rfl,BV:=fun i y b h1=>by simp at h1,nd:= ?_,ff:=fun a ha=>⟨by simp,fun z=> ?_⟩} (fun a o h1 h2=>WT a o (s1 a o h1) h2) (fun a ha=> ?_)
 .exact np (n1 a (by simpa [bS,names,empty]using ha))
 .have a1:q1≠q2:=ak g3 f2;have a2:q1≠q3:=ak (k4 _ _ g3 (n0 m3)) f3;have a3:q2≠q3:=ak g4 f3;have b0:∀{y:afb},H y=none->p≠y/\dx≠y:=fun hy=>⟨ak hp hy,ak hd hy⟩
  simp[Uk,(b0 Yw).1,(b0 Yx).1,(b0 Yy).1,(b0 Yw).2,(b0 Yx).2,(b0 Yy).2,a1,a2,a3]
 .have z':a∈eQ x d:=by simpa [bS,names,empty]using z
  obtain⟨o,ho⟩:=YO.gd (a:=a) (by simpa [bS,names,empty]using z);have:=n1 a z';have c:a=p\/a=dx\/a=q1\/a=q2\/a=q3:=by simpa using ha
  have o2:=k2 a o ho (np this);have o3:=k3 a o o2 (np this);have o4:=k4 a o o3 (np this);rcases c with e|e|e|e|e
  .rw[e,hp]at this;cases this
  .rw[e,hd]at this;cases this
  .rw[e,f1]at o2;cases o2
  .rw[e,f2]at o3;cases o3
  .rw[e,f3]at o4;cases o4
 .rcases afL.mp ha with z|z
  .have c:a=p\/a=dx\/a=q1\/a=q2\/a=q3:=by simpa using z
   rcases c with e|e|e|e|e
   .exact .inl e
   .exact .inr (.inl e)
   all_goals (rw[e];exact .inr (.inr (by assumption)))
  .exact .inr (.inr (n1 a (by simpa [bS,names,empty]using z)))
def Ca(P:afz)(w:af3)(K:afU)(mg:Str->Option afe)(base:age)(k:Nat)(x:Str)(ps:List Str)(sp:Sp):Prop:=∃f fd,jw P w K mg base k x ps sp f fd
def Ma(P:afz)(w:af3)(K:afU)(mg:Str->Option afe)(base:age)(k:Nat)(C:afb)(x:Str)(ps:List Str)(sp:Sp):Prop:=∃f fd,zG P w K mg base k C x ps sp f fd
section
variable{k:Nat}{x:Str}{e o:agP}{es:List agP}{t:TA}{ta:TE}{p eI:Pos}
theorem cn(c:Ca X.prog X.w X.K X.mg X.base k x ps sp)(hr:fF n X.A)(hg:Gl X x)(ha:PA X (e::es) t)(hk:k<=n:=by decide)(Km:(x==("__debug__":Str))=false:=by decide)(he:starEach (e::es) X.env=(false,eval e X.env)::starEach es X.env:=by rfl)(kf:(backTo pos (starEach es X.env)).any (·.1)=false:=by rfl):
  PE X (.Call (.Name x p) (e::es) [] pos) (NR sp [] E0 t):=let⟨_,_,c⟩:=c;bh c.ok (hr.fJ hk) hg c.mg c.kp c.bi .nil bw ha Km he kf
theorem bR{pl:Sem Bool}(he:PE X o ta)(c:zF X.K C)(c:Ma X.prog X.w X.K X.mg X.base k C m ps sp)(hr:fF n X.A)(ha:PA X (e::es) t)(hk:k<=n:=by decide)
  (yE:starEach (e::es) X.env=(false,eval e X.env)::starEach es X.env:=by rfl) (kf:(backTo pos (starEach es X.env)).any (·.1)=false:=by rfl)
  (ht:eval (.Call (.Attribute o m eI) (e::es) [] pos) X.env=(do
   let ov<-eval o X.env
   standAt eI.atName
   let(f,first)<-holding [ov] (getMethod ov m pl)
   callWith pos f first (backTo pos (starEach (e::es) X.env)) (backToKw pos (keywordEach [] X.env))):=by rfl):
  PE X (.Call (.Attribute o m eI) (e::es) [] pos) (De C m sp [] E0 ta t):=let⟨_,_,d⟩:=c;hG he (by assumption) d.me d.ok (hr.fJ hk) d.bi .nil bw ha yE kf ht
theorem jK{pl:Sem Bool}(he:PE X o ta)(c:zF X.K C)(c:Ma X.prog X.w X.K X.mg X.base k C m ps sp)(hr:fF n X.A)(hk:k<=n:=by decide)
  (ht:eval (.Call (.Attribute o m eI) [] [] pos) X.env=(do
   let ov<-eval o X.env
   standAt eI.atName
   let(f,first)<-holding [ov] (getMethod ov m pl)
   callWith pos f first (backTo pos (starEach [] X.env)) (backToKw pos (keywordEach [] X.env))):=by rfl):
  PE X (.Call (.Attribute o m eI) [] [] pos) (De C m sp [] E0 ta Me):=let⟨_,_,d⟩:=c;lq he (by assumption) d.me d.ok (hr.fJ hk) d.bi .nil bw ht
end
structure jr(P:afz)(w:af3)(K:afU)(mg:Str->Option afe)(base:age)(CB CH:afb):Prop where
 b:mC K mg CB
 h:zS K mg CH
 g:lN mg
 v:Jt mg
 place:Ca P w K mg base 1 "is_place" ["row","behind"] (xG K)
 wm:Ma P w K mg base 1 CB "has_entry" ["self","entry"] (pU CB)
 qE:Ma P w K mg base 1 CB "has_sense" ["self","sense"] (xw CB)
 Np:Ma P w K mg base 2 CB "make_entry" ["self","entry","behind","word"] (xB CB)
 Nq:Ma P w K mg base 2 CB "make_sense" ["self","sense","entry","behind","text"] (xC CB)
 say:Ma P w K mg base 1 CB "say" ["self","sense","text"] (Jg CB)
 point:Ma P w K mg base 1 CB "point" ["self","sense","target"] (xH CB)
 Nu:Ma P w K mg base 3 CB "move_sense" ["self","sense","entry","behind"] (xE CB)
 Nt:Ma P w K mg base 2 CB "move_entry" ["self","entry","behind"] (xD CB)
 MQ:Ma P w K mg base 3 CB "drop_sense" ["self","sense"] (xp CB)
 MP:Ma P w K mg base 2 CB "drop_entry" ["self","entry"] (xo CB)
 Ss:Ma P w K mg base 2 CH "no_more_entries" ["self"] (tD CB CH fun em _ lg _=> .bl (decide (20<=em\/200<=lg.length)))
 Sv:Ma P w K mg base 2 CH "no_more_senses" ["self"] (tD CB CH fun _ sm lg _=> .bl (decide (50<=sm\/200<=lg.length)))
 full:Ma P w K mg base 1 CH "log_is_full" ["self"] (tD CB CH fun _ _ lg _=> .bl (decide (200<=lg.length)))
 sD:Ma P w K mg base 1 CH "note" ["self","call","numbers","row"] (AZ CB CH)
 MY:Ma P w K mg base 1 CH "has_book" ["self","number"] (xu CB CH)
 book:Ma P w K mg base 1 CH "book" ["self","number"] (E3 CB CH fun D _ k=> .ref (bQ D k).1)
def je(h:afb)(D:HA)(S:afl):List afb:=pI h D++bS D.nw D.dn (agA S.log)
def QQ(D:HA)(S:afl)(FZ:List afb)(b:afb):Prop:=b∈FZ\/∃(i:Nat) (x:afb×BA) (B:af8),D.eb[i]? =some x/\(jA S)[i]? =some B/\b∈bS x.1 x.2 B
def kz(H:Hp)(h:afb)(D:HA)(S:afl)(l:afb):Prop:=∀(b:afb) (o:HO),H b=some o->b∉je h D S->b≠l
structure qz(CB CH:afb)(H H':Hp)(h:afb)(D D':HA)(S S':afl)(FZ cZ:List afb):Prop where
 is:cb CB CH H' h D' S' cZ
 kp:Kp (je h D S) H H'
 gr:Gr H (je h D S) (je h D' S')
 rc:∀b,QQ D' S' cZ b->QQ D S FZ b\/kz H h D S b
theorem kz.new{D:HA}{l:afb}(n:H l=none):kz H h D S l:=fun b o e _=>ak e n
def Fm(p:Nat):akE->Prop:=([fun x=>∃a b,x= .act (.entry a b),fun x=>∃a b c,x= .act (.sense a b c),fun x=>∃a b,x= .act (.say a b),fun x=>∃a b,x= .act (.point a b),fun x=>∃a b c,x= .act (.moveSense a b c),fun x=>∃a b,x= .act (.moveEntry a b),fun x=>∃a,x= .act (.dropSense a),fun x=>∃a,x= .act (.dropEntry a),fun x=>∃a b c,x= .act (.erratum a b c),fun x=>x= .freeze,fun x=>∃a,x= .printed a,fun x=>∃a,x= .corrected a,fun x=>∃a b,x= .changes a b,fun x=>∃a b,x= .patch a b,fun x=>∃a b,x= .number a b,fun x=>∃a b c,x= .name a b c,fun x=>∃a b c d,x= .carry a b c d,fun x=>∃a,x= .pointers a,fun x=>∃a,x= .dead a,fun x=>∃a b,x= .blame a b,fun x=>∃a,x= .check a,fun x=>∃a,x= .errata a,fun x=>∃a,x= .line a,fun x=>∃a,x= .size a,fun x=>x= .state]:List (akE->Prop)).getD p fun _=>True
theorem fm{x:akE}(h:bK x=p):Fm p x:=by
 subst h;cases x with
 |act a=>cases a<;>first|exact⟨_,rfl⟩|exact⟨_,_,rfl⟩|exact⟨_,_,_,rfl⟩
 |_=>first|exact rfl|exact⟨_,rfl⟩|exact⟨_,_,rfl⟩|exact⟨_,_,_,rfl⟩|exact⟨_,_,_,_,rfl⟩
inductive gQ(CB:afb)(CH:afb)(p:Nat)(vs:List V)(H:Hp)(Q:VK)(E:XK):Prop|m:∀(h nl rl:afb) (D:HA) (S:afl) (FZ:List afb) (x:akE),vs=[.ref h,.ref nl,.ref rl]->bK x=p->UQ x->cb CB CH H h D S FZ->nl∈FZ->rl∈FZ->NL H nl (fL x)->IL H rl (Pr x)->(∀k∈dh x,k<=S.editions.length)->(ahl S x).2.length<=10000000->(∀(H':Hp) (l:afb) (D':HA) (cZ:List afb),qz CB CH H H' h D D' S (ahl S x).1 FZ cZ->kz H h D S l->IL H' l (ahl S x).2->Q (.ref l) H')->gQ CB CH p vs H Q E
section
variable{l:afb}{D:HA}{x:akE}{X7:List Int}{Q:VK}
theorem qz.same(W:cb CB CH H h D S FZ)(s:ax H H'):qz CB CH H H' h D D S S FZ FZ:=⟨W.same s,lZ s,fun a ha=> .inl ha,fun b z=> .inl z⟩
theorem aO(W:cb CB CH H h D S FZ)(k:∀(H':Hp) (l:afb) (D':HA) (cZ:List afb),qz CB CH H H' h D D' S (ahl S x).1 FZ cZ->kz H h D S l->IL H' l (ahl S x).2->Q (.ref l) H')(e:ahl S x=(S,X7))(hn:H l=none)(s:ax H H')(h1:IL H' l X7):Q (.ref l) H':=by
 rw[e]at k;exact k _ l D FZ (qz.same W s) (.new hn) h1
end
theorem cb.T4{D:HA}(W:cb CB CH H h D S FZ):∀a∈FZ,a∉je h D S:=fun a ha z=>(afL.mp z).elim (W.w.fz a ha) fun q=>W.w.now.bq.fz a q ha
theorem cj{nw lg ed ln:afb}(hm:¬m="now"/\¬m="log"/\¬m="editions"/\¬m="lengths"/\¬m="entries_made"/\¬m="senses_made"):(Af nw lg ed ln em sm).lookup m=none:=by
 unfold Af;rw[aP,afc hm.2.2.2.2.2,aP,afc hm.2.2.2.2.1,aP,afc hm.2.2.2.1,aP,afc hm.2.2.1,aP,afc hm.2.1,aP,afc hm.1];rfl
theorem e9:∀m∈(["no_more_entries","no_more_senses","log_is_full","note","has_book","book","length","errata","corrected","blame","freeze","no_more_editions"]:List Str),¬m="now"/\¬m="log"/\¬m="editions"/\¬m="lengths"/\¬m="entries_made"/\¬m="senses_made":=by decide+kernel
theorem ne_int{t:Nat}(z:t≠0):(!decide (vn t=V.int 0))=true:=by
 rw[agb fun q=>z (by injection q with q;omega)];rfl
theorem jv:1<=sizeLine:=by decide
theorem xO:2<=sizeLine:=by decide
theorem QF:3<=sizeLine:=by decide
theorem gK{H3:Hp}{t nl rl l:afb}{D:HA}{a:agE}{Q:VK}(W:cb CB CH H h D S FZ)(hn:ai0 S a=none)(ok:Mm a)(hl:S.log.length<200)
  (he:∀k n t,a=ajL k n t->k<=S.editions.length/\n∈aD (agm S k))
  (k:∀(H':Hp) (l:afb) (D':HA) (cZ:List afb),qz CB CH H H' h D D' S (ahl S (.act a)).1 FZ cZ->kz H h D S l->IL H' l (ahl S (.act a)).2->Q (.ref l) H')
  (k1:Kp (je h D S) H H1) (g1:Gr H (bS D.nw D.dn (agA S.log)) (bS D.nw d' (anC (agA S.log) ((agB S.log).2.1+1) ((agB S.log).2.2+1) a))) (k2:Kp [D.lg] H1 H2) (nt:H1 t=none) (n2:H2 l=none) (s3:ax H2 H3)
  (W2:bM CB CH H2 h {D with dn:=d',la:=D.la++ [(t,nl,rl)]} (if Vbdhag.isEntry a=true then(agB S.log).2.1+1 else(agB S.log).2.1) (if alr a=true then(agB S.log).2.2+1 else(agB S.log).2.2) (anC (agA S.log) ((agB S.log).2.1+1) ((agB S.log).2.2+1) a) (S.log++ [a]) S.editions (jA S) (t::FZ) (S.log.length+1))
  (h3:IL H3 l (0::Vbdhag.answered S a)):Q (.ref l) H3:=by
 rw[Ji hn]at k;have st:=W.st.y0 ok hl he;refine k _ l {D with dn:=d',la:=D.la++ [(t,nl,rl)]} (t::FZ) ⟨⟨?_,st⟩,?_,?_,?_⟩ (fun b o e n=> ?_) h3
 .have:=W2.same s3;rw[rG W.st];show bM CB CH H3 h _ (agB (S.log++ [a])).2.1 (agB (S.log++ [a])).2.2 (agA (S.log++ [a])) _ _ _ _ (S.log++ [a]).length;rw[afa,oO,lQ];exact this
 .intro b o e n;refine s3 _ _ (k2 _ _ (k1 b o e n) fun z=>n ?_);have:b=D.lg:=by simpa using z
  rw[this];exact afY _ (by simp)
 .intro b hb;rcases afL.mp hb with z|z
  .exact .inl (afY _ z)
  .have z':b∈bS D.nw d' (agA (S.log++ [a])):=z;rw[lQ]at z';rcases g1 b z' with q|q
   .exact .inl (afI _ q)
   .exact .inr q
 .rintro b (z|⟨i,x,B,e1,e2,e3⟩)
  .rcases afv.mp z with q|q
   .exact .inr (fun c o e n=>by rw[q];exact ak (k1 c o e n) nt)
   .exact .inl (.inl q)
  .rw[rG W.st]at e2;exact .inl (.inr ⟨i,x,B,e1,e2,e3⟩)
 .refine ak (k2 _ _ (k1 b o e n) fun z=>n ?_) n2;have:b=D.lg:=by simpa using z
  rw[this];exact afY _ (by simp)
theorem uw(h:n<=16000000):n<sizeLine:=aiT h (by decide)
theorem sG{a b:Nat}(ha:a<1000000)(hb:b<1000000):(pair (a,b)).length<=15:=by
 show(ahm a++46::ahm b).length<=15;rw[afa,afp];have:=lV ha;have:=lV hb;omega
def UA(B:af8)(g:Nat):List Nat:=if g=0 then [45]else pair (afV B g)
abbrev FQ:afP:=dC 105
theorem LB:au ["place"] ["place"] (ai FQ):=cF
inductive rm(vs:List V)(H:Hp)(Q:VK)(E:XK):Prop|m:∀(pl:Nat),vs=[vn pl]->pl<1000000->(∀(H':Hp) (l:afb),H l=none->NL H' l (ahm pl++ [32])->ax H H'->Q (.ref l) H')->rm vs H Q E
inductive rq(K:afU)(vs:List V)(H:Hp)(Q:VK)(E:XK):Prop|m:∀(t:afb) (a b:Nat),vs=[.ref t]->gF K H t [vn a,vn b]->a<1000000->b<1000000->(∀(H':Hp) (l:afb),H l=none->NL H' l (pair (a,b)++ [32])->ax H H'->Q (.ref l) H')->rq K vs H Q E
theorem Ht(F:b9 K "entry_head" "entry_head" FQ f fd)(cB:jw P w K mg base 1 "bytes_of" ["text"] oX fb fZ):aT P w K mg base bX 2 f fd ["place"] rm:=by
 refine cz F LB fun _ _ _ _ H _ Q E hr h=> ?_
 obtain⟨pl,rfl,kf,k⟩:=h;refine⟨_,af (aq (bh cB.ok hr rfl cB.mg cB.kp cB.bi .nil bw (aa (qY (PJ.cons (sJ (pv 0)) (PJ.cons sM PJ.nil))) ab))),?_⟩;have da:=lV kf;have la:(agD (toString ((pl:Nat):Int))).length<=7:=by rw[bL,lS];exact da
 have l1:(ah6++agD (toString ((pl:Nat):Int))).length<=7:=by rw[bL,fk,afa,<-bL,<-bL];show 0+_<=7;omega
 have l2:(ah6++agD (toString ((pl:Nat):Int))++agD " ").length<=8:=by rw[bL,fk,afa,<-bL,<-bL];show _+1<=8;omega
 have qg:∀{n:Nat},n<=1000->n<=sizeLine:=fun h=>afu h (by decide)
 refine⟨_,rfl,.inl ⟨(pl:Int),rfl,by show pl<2^64;omega,_,rfl,qg (by omega),_,rfl,qg (by omega),qg (by omega),_,rfl,by omega,fun l hl=>k _ l hl ?_ (ax.new hl)⟩⟩;show L2.aE _ l _ l=_;rw[aj,fk,fk,lS];rfl
theorem xX{y:Str}(h:y.length<=n):(ah6++y).length<=n/\(ah6++y++agD " ").length<=n+1/\(ah6++y++agD " ").cps.toList=y.cps.toList++ [32]:=by
 refine⟨?_,?_,?_⟩
 .rw[bL,fk,afa,<-bL,<-bL];show 0+_<=n;omega
 .rw[bL,fk,fk,afa,afa,<-bL,<-bL,<-bL];show 0+_+1<=n+1;omega
 .rw[fk,fk];rfl
abbrev Gh:afP:=dC 106
theorem C4:au ["number","place"] ["number"] (ai Gh):=cF
theorem HX(F:b9 K "sense_head" "sense_head" Gh f fd)(cB:jw P w K mg base 1 "bytes_of" ["text"] oX fb fZ)(cD:jw P w K mg base 1 "dotted" ["number"] (oZ K) fe f9):aT P w K mg base bX 2 f fd ["number"] (rq K):=by
 refine cz F C4 fun _ _ _ _ H _ Q E hr h=> ?_
 obtain⟨t,a,b,rfl,ht,ha,hb,k⟩:=h;refine⟨_,ae (cY 1 C4.nd (bh cD.ok hr rfl cD.mg cD.kp cD.bi .nil bw (aa (pv 0) ab)))
  (af (aq (bh cB.ok hr rfl cB.mg cB.kp cB.bi .nil bw (aa (qY (PJ.cons (sJ (pv 1)) (PJ.cons sM PJ.nil))) ab)))),?_⟩
 refine⟨_,rfl,t,a,b,rfl,ht,ha,hb,fun y hy=> ?_⟩;have ly:y.length<=15:=by rw[bL,hy];exact sG ha hb
 obtain⟨l1,l2,ec⟩:=xX ly;have qg:∀{n:Nat},n<=1000->n<=sizeLine:=fun h=>afu h (by decide)
 refine⟨_,rfl,.inr ⟨y,rfl,qg (by omega),_,rfl,qg (by omega),_,rfl,qg (by omega),qg (by omega),_,rfl,by omega,fun l hl=>k _ l hl ?_ (ax.new hl)⟩⟩;show L2.aE _ l _ l=_;rw[aj,ec,hy]
abbrev FR:afP:=dC 107
theorem LC:au ["place","word"] ["place","word"] (ai FR):=cF
theorem Hu(F:b9 K "entry_line" "entry_line" FR f fd)(cH:jw P w K mg base 2 "entry_head" ["place"] rm fb fZ):aT P w K mg base bX 3 f fd ["place","word"] xq:=by
 refine cz F LC fun _ _ _ _ H _ Q E hr h=> ?_
 obtain⟨pl,aw,wd,rfl,kf,Wa,DS,k⟩:=h;refine⟨_,af (aq (bx dW (bx dW (bh cH.ok hr rfl cH.mg cH.kp cH.bi .nil bw (aa (pv 0) ab)) (pv 1)) (fN (aa ag ab)))),?_⟩;have da:=lV kf;refine⟨_,rfl,pl,rfl,kf,fun H1 l1 n1 h1 s1=>⟨_,rfl,l1,aw,_,_,rfl,rfl,jx h1,jx (s1 _ _ Wa),?_,fun H2 l2 n2 s2 h2=>⟨by show 1<=sizeLine;decide,fun H3 l3 n3 s3 h3=>⟨l2,l3,_,[10],rfl,rfl,s3 _ _ h2,h3,?_,fun H4 l4 n4 s4 h4=> ?_⟩⟩⟩⟩
 .simp only[ae9,afa,agR];omega
 .simp only[ae9,afa,agR];omega
 refine k _ l4 (s1.free (s2.free (s3.free n4))) (gD ?_) (s1.trans (s2.trans (s3.trans s4)));rw[show ahm pl++32::(wd++ [10])=ahm pl++ [32]++wd++ [10] by simp,afB (l₂:=[10]),afB (l₂:=wd)];exact h4
abbrev Gi:afP:=dC 108
theorem LV:au ["number","pointed","text"] ["number","pointed","text"] (ai Gi):=cF
theorem HZ(F:b9 K "sense_line" "sense_line" Gi f fd)(cB:jw P w K mg base 1 "bytes_of" ["text"] oX fb fZ)(cH:jw P w K mg base 2 "sense_head" ["number"] (rq K) fe f9):aT P w K mg base bX 3 f fd ["number","pointed","text"] (xJ K):=by
 refine cz F LV fun _ _ _ _ H _ Q E hr h=> ?_
 obtain⟨t,a,b,z,cG,tx,rfl,ht,ha,hb,hz,r8,sf,k⟩:=h;refine⟨_,af (aq (bx dW (bx dW (bx dW (bh cH.ok hr rfl cH.mg cH.kp cH.bi .nil bw (aa (pv 0) ab)) (bh cB.ok (hr.fJ (by decide)) rfl cB.mg cB.kp cB.bi .nil bw (aa (qY (PJ.cons (sJ (pv 1)) (PJ.cons sM PJ.nil))) ab))) (pv 2)) (fN (aa ag ab)))),?_⟩;obtain⟨l1,l2,ec⟩:=xX hz;have qg:∀{n:Nat},n<=10000->n<=sizeLine:=fun h=>afu h (by decide)
 have kf:=sG ha hb;have lz:z.cps.toList.length<=1000:=by rw[<-bL];exact hz
 refine⟨_,rfl,t,a,b,rfl,ht,ha,hb,fun H1 a1 n1 h1 s1=>⟨_,rfl,.inr ⟨z,rfl,qg (by omega),_,rfl,qg (by omega),_,rfl,qg (by omega),qg (by omega),_,rfl,by omega,fun a2 n2=> ?_⟩⟩⟩;rw[ec];have s2:ax H1 (aE H1 a2 (.ba ((z.cps.toList++ [32]).map vn))):=ax.new n2;refine⟨a1,a2,_,_,rfl,rfl,jx (s2 _ _ h1),jx aj,?_,fun H3 a3 n3 s3 h3=>⟨_,rfl,a3,cG,_,_,rfl,rfl,h3,jx (s3 _ _ (s2 _ _ (s1 _ _ r8))),?_,fun H4 a4 n4 s4 h4=>⟨by show 1<=sizeLine;decide,fun H5 a5 n5 s5 h5=>⟨a4,a5,_,[10],rfl,rfl,s5 _ _ h4,h5,?_,fun H6 a6 n6 s6 h6=> ?_⟩⟩⟩⟩
 .simp only[ae9,afa,agR];omega
 .simp only[ae9,afa,agR];omega
 .simp only[ae9,afa,agR];omega
 refine k _ a6 (s1.free (s2.free (s3.free (s4.free (s5.free n6))))) (gD ?_) (s1.trans (s2.trans (s3.trans (s4.trans (s5.trans s6)))));rw[show pair (a,b)++32::(z.cps.toList++32::(tx++ [10]))=pair (a,b)++ [32]++(z.cps.toList++ [32])++tx++ [10] by simp,afB (l₂:=[10]),afB (l₂:=tx),afB (l₂:=z.cps.toList++ [32])];exact h6
abbrev FJ:afP:=dC 78
theorem Lx:au ["numbers","sense"] ["numbers","sense"] (ai FJ):=cF
structure Dl(H:Hp)(p:afb)(B:af8)(kv:List (br×V))(na:Nat->afb):Prop where
 cG:H p=some (.dK kv)
 Og:pq kv (afD B) (fun n=> .ref (na n))
 dY:∀n∈afD B,H (na n)=some (.dY [vn (afV B n).1,vn (afV B n).2])
theorem Dl.same{p:afb}{kv:List (br×V)}{na:Nat->afb}(h:Dl H p B kv na)(s:ax H H'):Dl H' p B kv na:=⟨s _ _ h.cG,h.Og,fun n hn=>s _ _ (h.dY n hn)⟩
inductive oW(K:afU)(vs:List V)(H:Hp)(Q:VK)(E:XK):Prop|m:∀(n:Nat) (p:afb) (B:af8) (kv:List (br×V)) (na:Nat->afb),vs=[.ref p,vn n]->Dl H p B kv na->(∀t,gF K H t [vn (afV B n).1,vn (afV B n).2]->Q (.ref t) H)->oW K vs H Q E
def ko(K:afU)(a:afb)(xs:List V):Prop:=∃(o:Obj) (aR:Array afe) (n:Nat),K.lookup a=some o/\o.cls= .type "tuple"/\o.data= .seq aR n/\aR.size<=sizeLine/\bo xs aR.toList
theorem Hj{nt:afb}(F:b9 K "number_among" "number_among" FJ f fd)(m:mg "NOT_THERE"=some (.ref nt))(hk:ko K nt [vn 0,vn 0]):aT P w K mg base bX 1 f fd ["numbers","sense"] (oW K):=by
 refine cz F Lx fun _ _ _ _ H _ Q E hr h=> ?_
 obtain⟨n,p,B,kv,na,rfl,hN,k⟩:=h;refine⟨_,af (aq (yY (bZ hr) (pv 0) (pv 1) (cu (v:= .ref nt) rfl m rfl) ⟨rfl,rfl,rfl,rfl⟩)),?_⟩;have hg:=ei.k (k:=afx (n:Int)) hN.cG;refine⟨_,rfl,p,rfl,.inl ⟨_,.inl hN.cG⟩,_,rfl,_,hg,?_⟩;by_cases hm:n∈afD B
 .rw[hN.Og.get hm];exact k _ (gF.of (hN.dY n hm))
 .rw[hN.Og n,afc hm];refine k nt (.inr ?_);rw[show afV B n=(0,0)from by unfold afV;rw[afh (jV hm)]];exact hk
inductive Jd(vs:List V)(H:Hp)(Q:VK)(E:XK):Prop|m:∀(g:Nat) (p:afb) (B:af8) (kv:List (br×V)) (na:Nat->afb),vs=[vn g,.ref p]->Dl H p B kv na->(∀n∈afD B,(afV B n).1<1000000/\(afV B n).2<1000000)->(∀z:Str,z.cps.toList=UA B g->z.length<=1000->Q (.str z) H)->Jd vs H Q E
abbrev Q9:afP:=dC 109
theorem S8:au ["target","numbers"] ["target","numbers"] (ai Q9):=cF
theorem O7{fa:afb}{fda:afC}(F:b9 K "pointed_as" "pointed_as" Q9 f fd)(cD:jw P w K mg base 1 "dotted" ["number"] (oZ K) fe f9)(cA:jw P w K mg base 1 "number_among" ["numbers","sense"] (oW K) fa fda):aT P w K mg base bX 2 f fd ["target","numbers"] Jd:=by
 refine cz F S8 fun _ _ _ _ H _ Q E hr h=> ?_
 obtain⟨g,p,B,kv,na,rfl,hN,iF,k⟩:=h;refine⟨_,ae (aZ (aX fU (pv 0) ag (bc _)) (af (aq sM)) aC)
  (af (aq (bh cD.ok hr rfl cD.mg cD.kp cD.bi .nil bw (aa (bh cA.ok hr rfl cA.mg cA.kp cA.bi .nil bw (aa (pv 1) (aa (pv 0) ab))) ab)))),?_⟩
 refine⟨_,rfl,rfl,_,rfl,?_⟩;refine aW (fun e=> ?_) (fun e=> ?_)
 .have e0:g=0:=by
   have:=aff e;injection this with this
   omega
  refine k (agD "-") ?_ (by show 1<=1000;decide);unfold UA;rw[afh e0];rfl
 .have e0:g≠0:=fun z=>e (afj (by rw[z];rfl))
  have T5:(afV B g).1<1000000/\(afV B g).2<1000000:=by
   by_cases hm:g∈afD B
   .exact iF g hm
   .rw[show afV B g=(0,0)from by unfold afV;rw[afh (jV hm)]];decide
  refine⟨_,rfl,_,rfl,g,p,B,kv,na,rfl,hN,fun t ht=>⟨t,_,_,rfl,ht,T5.1,T5.2,fun z hz=>k z ?_ ?_⟩⟩
  .unfold UA;rw[afc e0];exact hz
  .rw[bL,hz];exact afu (sG T5.1 T5.2) (by decide)
def ym(B:af8)(x:afm×Nat):List Nat:=ahm x.2++32::(x.1.word++ [10])++(x.1.senses.zipIdx 1).flatMap fun y=>aju B x.2 y.2 y.1
theorem AK(B:af8):als B=(B.entries.zipIdx 1).flatMap (ym B):=rfl
theorem lX{α β:Type}(f:α->List β)(l:List α)(i:Nat):((l.take i).flatMap f).length<=(l.flatMap f).length:=by
 conv=>rhs;rw[<-agI i l,agF,afa]
 exact agN _ _
theorem iX{α β:Type}(f:α->List β){l:List α}{x:α}(h:l[i]? =some x):(l.take (i+1)).flatMap f=(l.take i).flatMap f++f x:=by
 rw[aS h,agF];simp
inductive pV(C:afb)(vs:List V)(H:Hp)(Q:VK)(E:XK):Prop|m:∀(b:afb) (d:BA) (B:af8) (FZ:List afb) (N:Nat),vs=[.ref b]->aV C H b d B FZ N->N<100000->(als B).length<=10000000->(∀(H':Hp) (l:afb),H l=none->NL H' l (als B)->ax H H'->Q (.ref l) H')->pV C vs H Q E
abbrev yf:afP:=dC 110
theorem g8:au ["book","numbers","lines","place","entry","sense","pointed"] ["book"] (ai yf):=cF
theorem Ax{fn fs fq:afb}{fdn fdq:afC}(F:b9 K "printed" "printed" yf f fd)(T:mC K mg C)(G:lN mg)(cN:jw P w K mg base 1 "sense_numbers" ["book"] (tF C) fn fdn)(cE:jw P w K mg base 3 "entry_line" ["place","word"] xq fe f9)
  (cS:jw P w K mg base 3 "sense_line" ["number","pointed","text"] (xJ K) fs gg) (cQ:jw P w K mg base 2 "pointed_as" ["target","numbers"] Jd fq fdq):aT P w K mg base bX 4 f fd ["book"] (pV C):=by
 refine cz F g8 fun _ _ _ _ H _ Q E hr h=> ?_
 obtain⟨b,d,B,FZ,N,rfl,hB,hN,bY,k⟩:=h;have Ce:fF 1 _:=hr.fJ (by decide);have Kt:fF 2 _:=hr.fJ (by decide);refine⟨_,ae (cY 1 g8.nd (bh cN.ok Ce rfl cN.mg cN.kp cN.bi .nil bw (aa (pv 0) ab)))
  (ae (cY 2 g8.nd (cp ab))
  (ae (cM af1 rfl (lx rfl G.DF (az (pv 0)) ag) (i8 rfl (bH (hJ 3 g8.nd) (bH (hJ 4 g8.nd) gN)))
   (ae (aI (cy afq af0 af7 dJ (pv 2) (aa (bh cE.ok hr rfl cE.mg cE.kp cE.bi .nil bw (aa (pv 3) (aa (bC (bZ hr) (az (pv 0)) (pv 4)) ab))) ab)))
   (af (cM af1 rfl (bO (bC (bZ hr) (az (pv 0)) (pv 4))) (hJ 5 g8.nd)
    (ae (cY 6 g8.nd (bh cQ.ok Kt rfl cQ.mg cQ.kp cQ.bi .nil bw (aa (bC (bZ hr) (az (pv 0)) (pv 5)) (aa (pv 1) ab))))
    (af (aI (cy afq af0 af7 dJ (pv 2) (aa (bh cS.ok hr rfl cS.mg cS.kp cS.bi .nil bw (aa (bC (bZ hr) (pv 1) (pv 5)) (aa (pv 6) (aa (bC (bZ hr) (az (pv 0)) (pv 5)) ab)))) ab)))))))))
  (af (aq (pv 2))))),?_⟩
 have L0:=hB.bq;refine⟨_,rfl,b,d,B,FZ,N,rfl,hB,hN,fun H1 p kv na hp hk dk uk s1=> ?_⟩;refine⟨afF _,fun q hq=> ?_⟩;have s2:ax H1 (aE H1 q (.ba [])):=ax.new hq;have R9:H q=none:=s1.free hq;rw[AK]at bY k;have Kq:∀(i j n:Nat) (x:afm),B.entries[i]? =some x->x.senses[j]? =some n->i<100001/\j<100001:=fun i j n x hi hj=>by
  have h1:i<B.entries.length:=(afd.mp hi).1;have h2:B.entries.length<=N:=by have:=hB.le;unfold names at this;rw[ae9]at this;exact this
  have h3:j<x.senses.length:=(afd.mp hj).1;have h4:=hB.IA (afo hi);omega
 have WA:∀n∈afD B,(afV B n).1<1000000/\(afV B n).2<1000000:=fun n hn=>by
  obtain⟨x,hx,OA⟩:=dH.mp hn;obtain⟨i,hi⟩:=aga hx;obtain⟨j,hj⟩:=aga OA;have:=Kq i j n x hi hj;rw[l8 hB.wf hi hj];exact⟨by show i+1<_;omega,by show j+1<_;omega⟩
 refine⟨_,rfl,b,C,d.dx,_,_,rfl,s2 _ _ (s1 _ _ L0.ins),T.cl,T.nO,bP,d.o,_,_,rfl,rfl,aJ.of (s2 _ _ (s1 _ _ L0.ord)),by decide,by decide,jD (K:=K) (a:=d.o) (xs:=(names B).map vn) (c:=1)
  (fun i σ H'=>∃(v3 v4 v5 v6:Option V),σ=[some (.ref b),some (.ref p),some (.ref q),v3,v4,v5,v6]/\ax H1 H'/\NL H' q (((B.entries.zipIdx 1).take i).flatMap (ym B)))
  ⟨none,none,none,none,rfl,s2,aj⟩ (fun i σ H' _ ⟨_,_,_,_,_,s3,_⟩=>aJ.of (s3 _ _ (s1 _ _ L0.ord))) ?_ ?_⟩
 .rintro i y σ H' Tu hi ⟨v3,v4,v5,v6,rfl,s3,Kn⟩ hT;obtain⟨e,he,rfl⟩:=eg hi;obtain⟨x,hx,rfl⟩:=entry_at he;have px:x∈B.entries:=afo hx;have wy:x.name∈names B:=aY.mpr ⟨x,px,rfl⟩;have hz:(B.entries.zipIdx 1)[i]? =some (x,i+1):=by rw[aiA,hx];simp[aiC]
  have gV:i<100000:=by
   have h1:i<B.entries.length:=(afd.mp hx).1;have h2:B.entries.length<=N:=by have:=hB.le;unfold names at this;rw[ae9]at this;exact this
   omega
  have Fs:=lX (ym B) (B.entries.zipIdx 1) (i+1);rw[iX (ym B) hz,afa]at Fs;have eA:ym B (x,i+1)=ahm (i+1)++32::(x.word++ [10])++(x.senses.zipIdx 1).flatMap fun y=>aju B (i+1) y.2 y.1:=rfl
  rw[eA,afa]at Fs;have DS:x.word.length<=(ahm (i+1)++32::(x.word++ [10])).length:=by rw[afa,afp,afa];omega
  have s4:ax H' (aE H' Tu (.dY [.int (1+(i:Nat)),vn x.name])):=ax.new hT;have QC:ax H (aE H' Tu (.dY [.int (1+(i:Nat)),vn x.name])):=s1.trans (s3.trans s4);obtain⟨hwF,WS⟩:=hB.word x px;have VD:(1+(i:Nat):Int)=((i+1:Nat):Int):=by omega
  refine⟨Tu,_,rfl,gF.of aj,rfl,_,_,rfl,_,_,rfl,rfl,?_⟩;refine⟨_,rfl,.inl ⟨rfl,_,aJ.of (s4 _ _ Kn)⟩,_,rfl,_,rfl,b,C,d.dx,_,_,rfl,QC _ _ L0.ins,T.cl,T.nW,jz,_,rfl,d.w,.ref (d.wa x.name),rfl,by
   have:=ei.k (k:=afx (x.name:Int)) (QC _ _ L0.hw);rw[hB.dw.get wy]at this;exact this,i+1,d.wa x.name,x.word,by rw[VD];rfl,by omega,QC _ _ WS,by omega,fun H5 l5 wx ub s5=> ?_⟩
  have Sa:=s5 _ _ (s4 _ _ Kn);refine⟨q,l5,_,_,rfl,rfl,Sa,ub,by rw[ae9,ae9];exact agC (uw (by omega)),?_⟩;have Sb:∀{a o},H1 a=some o->a≠q:=fun h=>ak h hq
  have s6:ax H1 (aE H5 q (.ba ((((B.entries.zipIdx 1).take i).flatMap (ym B)).map vn++(ahm (i+1)++32::(x.word++ [10])).map vn))):=fun a o h=>by
   rw[ao (Sb h)];exact s5 _ _ (s4 _ _ (s3 _ _ h))
  have XG:ax H _:=s1.trans s6;refine⟨_,rfl,b,C,d.dx,_,_,rfl,XG _ _ L0.ins,T.cl,T.nR,du,_,rfl,d.r,.ref (d.ra x.name),rfl,by
   have:=ei.k (k:=afx (x.name:Int)) (XG _ _ L0.hr);rw[hB.dr.get wy]at this;exact this,d.ra x.name,rfl,⟨_,aJ.of (XG _ _ (hB.row px))⟩,cV (K:=K) (a:=d.ra x.name) (xs:=x.senses.map vn)
   (fun j σ H'=>∃(v5 v6:Option V),σ=[some (.ref b),some (.ref p),some (.ref q),some (.int (1+(i:Nat))),some (vn x.name),v5,v6]/\ax H1 H'/\NL H' q (((B.entries.zipIdx 1).take i).flatMap (ym B)++(ahm (i+1)++32::(x.word++ [10]))++((x.senses.zipIdx 1).take j).flatMap fun y=>aju B (i+1) y.2 y.1))
   ⟨v5,v6,rfl,s6,?_⟩ (fun j σ H' _ ⟨_,_,_,s7,_⟩=>aJ.of (s7 _ _ (s1 _ _ (hB.row px)))) ?_ ?_⟩
  .show L2.aE _ q _ q=_;rw[aj,ahy,<-afB];simp
  .rintro j y σ H7 hj ⟨v5,v6,rfl,s7,R0⟩;obtain⟨n,hn,rfl⟩:=eg hj;have OA:n∈x.senses:=afo hn;have Ac:n∈afD B:=dH.mpr ⟨x,px,OA⟩;have qF:n∈aD B:=(hB.wf.same n).mp Ac;obtain⟨OF,qS⟩:=jn hB.wf qF;have Up:(x.senses.zipIdx 1)[j]? =some (n,j+1):=by rw[aiA,hn];simp[aiC]
   have Ud:=Kq i j n x hx hn;have e9:=l8 hB.wf hx hn;have JI:=s1.trans s7;have Tz:=lX (fun y:Nat×Nat=>aju B (i+1) y.2 y.1) (x.senses.zipIdx 1) (j+1);rw[iX (fun y:Nat×Nat=>aju B (i+1) y.2 y.1) Up,afa]at Tz;have eS:aju B (i+1) (j+1) n=pair (i+1,j+1)++32::(UA B (afr B n).points++32::((afr B n).text++ [10])):=rfl;try dsimp only at Tz
   have sf:(afr B n).text.length<=(aju B (i+1) (j+1) n).length:=by
    rw[eS,afa,afp,afa,afp,afa];omega
   obtain⟨Sd,Kw⟩:=hB.text _ OF;rw[qS]at Sd Kw;refine⟨_,rfl,b,C,d.dx,_,_,rfl,JI _ _ L0.ins,T.cl,T.nG,dN,_,rfl,d.g,vn (afr B n).points,rfl,by
    have:=ei.k (k:=afx (n:Int)) (JI _ _ L0.hg);rw[hB.dg.get qF]at this;exact this,_,rfl,(afr B n).points,p,B,kv,na,rfl,⟨s7 _ _ hk,dk,fun m hm=>s7 _ _ (uk m hm)⟩,WA,fun z hz8 GO=> ?_⟩
   refine⟨_,rfl,.inl ⟨rfl,_,aJ.of R0⟩,_,rfl,_,rfl,p,.ref (na n),rfl,by
    have:=ei.k (k:=afx (n:Int)) (s7 _ _ hk);rw[dk.get Ac]at this;exact this,_,rfl,_,rfl,b,C,d.dx,_,_,rfl,JI _ _ L0.ins,T.cl,T.nT,gi,_,rfl,d.t,.ref (d.ta n),rfl,by
    have:=ei.k (k:=afx (n:Int)) (JI _ _ L0.ht);rw[hB.dt.get qF]at this;exact this,na n,i+1,j+1,z,d.ta n,(afr B n).text,rfl,gF.of ?_,by omega,by omega,GO,JI _ _ Kw,by omega,fun H9 l9 hl9 Zl s9=> ?_⟩
   .have:=s7 _ _ (uk n Ac);rw[e9]at this;exact this
   .rw[hz8,<-eS]at Zl;have hq9:=s9 _ _ R0;refine⟨q,l9,_,_,rfl,rfl,hq9,Zl,?_,?_⟩
    .rw[ae9,ae9,afa,afa];exact agC (uw (by omega))
    .refine⟨_,_,rfl,fun a o h=> ?_,?_⟩
     .rw[ao (Sb h)];exact s9 _ _ (s7 _ _ h)
     .rw[iX (fun y:Nat×Nat=>aju B (i+1) y.2 y.1) Up];show L2.aE _ q _ q=_;rw[aj,<-afB,afQ]
  .rintro σ H7 ⟨v5,v6,rfl,s7,R0⟩;refine⟨_,_,_,_,rfl,s7,?_⟩;have:(x.senses.zipIdx 1).take (x.senses.map vn).length=x.senses.zipIdx 1:=agu (by simp);rw[this]at R0;rw[iX (ym B) hz,eA,<-afQ];exact R0
 .rintro σ H' ⟨v3,v4,v5,v6,rfl,s3,Kn⟩;have:(B.entries.zipIdx 1).take ((names B).map vn).length=B.entries.zipIdx 1:=agu (by simp[names]);rw[this]at Kn;exact⟨_,rfl,k H' q R9 Kn (s1.trans s3)⟩
structure xS(H:Hp)(as:List afb)(cs:List agX):Prop where
 len:as.length=cs.length
 cG:∀(i:Nat) (a:afb) (c:agX),as[i]? =some a->cs[i]? =some c->IL H a (agq c)
theorem xS.nil:xS H [] []:=⟨rfl,fun i a c h=>by simp at h⟩
theorem xS.same{cs:List agX}(h:xS H as cs)(s:ax H H'):xS H' as cs:=⟨h.len,fun i a c h1 h2=>s _ _ (h.cG i a c h1 h2)⟩
theorem xS.append{bs:List afb}{cs ds:List agX}(h:xS H as cs)(g:xS H bs ds):xS H (as++bs) (cs++ds):=by
 refine⟨by rw[afa,afa,h.len,g.len],fun i a c h1 h2=> ?_⟩;by_cases q:i<as.length
 .rw[agK q]at h1;rw[agK (by rw[<-h.len];exact q)]at h2;exact h.cG i a c h1 h2
 .rw[agt (by omega)]at h1;rw[agt (by rw[<-h.len];omega),<-h.len]at h2;exact g.cG _ a c h1 h2
theorem xS.xT{c:agX}(h:IL H a (agq c)):xS H [a] [c]:=by
 refine⟨rfl,fun i b e h1 h2=> ?_⟩;cases i with
 |zero=>
  have e1:a=b:=by simpa using h1
  have e2:c=e:=by simpa using h2
  rw[<-e1,<-e2];exact h
 |succ i=>simp at h1
def Qa(H:Hp)(l:afb)(cs:List agX):Prop:=∃as:List afb,H l=some (.ba (as.map V.ref))/\xS H as cs
def zq(k:Int)(ns row:List Int):List Int:=[k]++ns++afO (3-ns.length) 0++ [(row.length:Int)]++row
inductive iA(vs:List V)(H:Hp)(Q:VK)(E:XK):Prop|m:∀(k:Int) (nl r:afb) (ns row:List Int),vs=[.int k,.ref nl,.ref r]->IL H nl ns->IL H r row->ns.length<=3->row.length<=10000000->(∀(H':Hp) (l:afb),H l=none->IL H' l (zq k ns row)->ax H H'->Q (.ref l) H')->iA vs H Q E
abbrev Bp:afP:=dC 65
theorem zb:au ["kind","numbers","row","missing"] ["kind","numbers","row"] (ai Bp):=cF
theorem CO(n:Nat)(z:Int):(afO n [V.int z]).flatten=(afO n z).map V.int:=by
 induction n with
 |zero=>rfl
 |succ n ih=>rw[agZ,ah5,agZ,af9,ih];rfl
theorem Ej(F:b9 K "change" "change" Bp f fd)(G:lN mg):aT P w K mg base bX 1 f fd ["kind","numbers","row"] iA:=by
 refine cz F zb fun _ _ _ _ H _ Q E hr h=> ?_
 obtain⟨k,nl,r,ns,row,rfl,hn,Zr,h3,gJ,kk⟩:=h;refine⟨_,ae (cY 3 zb.nd (bx AD (cp (aa ag ab)) (bx j3 ag (aN ay rfl G.len ago (aa (pv 1) ab)))))
  (af (aq (bx sF (bx sF (bx sF (bx sF (cp (aa (pv 0) ab)) (pv 1)) (pv 3)) (cp (aa (aN ay rfl G.len ago (aa (pv 2) ab)) ab))) (pv 2)))),?_⟩
 refine⟨by show 1<=sizeLine;decide,fun q hq=> ?_⟩;have s0:ax H (aE H q (.ba [.int 0])):=ax.new hq;have el:(3:Int)-((ns.map V.int).length:Nat)=((3-ns.length:Nat):Int):=by rw[ae9];omega
 refine⟨_,rfl,nl,_,rfl,.inl (aJ.of (s0 _ _ hn)),_,_,rfl,rfl,q,_,_,rfl,rfl,aj,?_,?_,?_,fun m hm=> ?_⟩
 .rw[el];exact aja (by decide) (ahs _)
 .rw[el];exact ahW (show((3-ns.length:Nat):Int)<=3 by omega) (by decide)
 .rw[el];show 1*(3-ns.length)<=sizeLine;exact afu (show 1*(3-ns.length)<=3 by omega) (by decide)
 rw[el,ah4,CO];have s1:=s0.trans (ax.new (o:= .ba ((afO (3-ns.length) (0:Int)).map V.int)) hm);refine⟨_,rfl,by show 1<=sizeLine;decide,fun a1 h1=> ?_⟩;have s2:=s1.trans (ax.new (o:= .ba [.int k]) h1);have qg:∀{n:Nat},n<=16000000->n<=sizeLine:=fun h=>agC (uw h)
 refine⟨_,rfl,a1,nl,_,_,rfl,rfl,aj,s2 _ _ hn,by rw[ae9];exact qg (by show 1+_<=_;omega),fun a2 h2=> ?_⟩;have s3:=s2.trans (ax.new (o:= .ba ([.int k]++ns.map V.int)) h2);have Wz:aE (aE (aE (aE H q (.ba [.int 0])) m (.ba ((afO (3-ns.length) (0:Int)).map V.int))) a1 (.ba [.int k])) a2 (.ba ([.int k]++ns.map V.int)) m=some (.ba ((afO (3-ns.length) (0:Int)).map V.int)):=by
  have t1:aE (aE H q (.ba [.int 0])) m (.ba ((afO (3-ns.length) (0:Int)).map V.int)) m=some (.ba ((afO (3-ns.length) (0:Int)).map V.int)):=aj;have t2:aE (aE (aE H q (.ba [.int 0])) m (.ba ((afO (3-ns.length) (0:Int)).map V.int))) a1 (.ba [.int k]) m=some (.ba ((afO (3-ns.length) (0:Int)).map V.int)):=by rw[ao (ak t1 h1)];exact t1
  rw[ao (ak t2 h2)];exact t2
 refine⟨_,rfl,a2,m,_,_,rfl,rfl,aj,Wz,?_,fun a3 h4=> ?_⟩
 .rw[afa,ae9,ae9,ag0];exact qg (by show 1+_+_<=_;omega)
 have s4:=s3.trans (ax.new (o:= .ba ([.int k]++ns.map V.int++(afO (3-ns.length) (0:Int)).map V.int)) h4);refine⟨_,rfl,r,_,rfl,.inl (aJ.of (s4 _ _ Zr)),by show 1<=sizeLine;decide,fun a4 h5=> ?_⟩;have s5:=s4.trans (ax.new (o:= .ba [.int (row.map V.int).length]) h5);refine⟨a3,a4,_,_,rfl,rfl,by rw[ao (ak aj h5)];exact aj,aj,?_,fun a5 h6=> ?_⟩
 .rw[afa,afa,ae9,ae9,ag0];exact qg (by show 1+_+_+1<=_;omega)
 have s6:=s5.trans (ax.new (o:= .ba ([.int k]++ns.map V.int++(afO (3-ns.length) (0:Int)).map V.int++ [.int (row.map V.int).length])) h6);refine⟨_,rfl,a5,r,_,_,rfl,rfl,aj,s6 _ _ Zr,?_,fun a6 h7=> ?_⟩
 .rw[afa,afa,afa,ae9,ae9,ae9,ag0];exact qg (by show 1+_+_+1+_<=_;omega)
 refine kk _ a6 (s6.free h7) ?_ (s6.trans (ax.new h7));show L2.aE _ a6 _ a6=_;rw[aj];refine congrArg (fun z=>some (HO.ba z)) ?_;unfold zq;rw[afB,afB,afB,afB,ae9];rfl
structure Mp(mg:Str->Option afe):Prop where
 k1:∃t,mg "ENTRY_DROPPED"=some (.int 1 t)
 k2:∃t,mg "SENSE_DROPPED"=some (.int 2 t)
 k3:∃t,mg "ENTRY_NEW"=some (.int 3 t)
 k4:∃t,mg "ENTRY_MOVED"=some (.int 4 t)
 k5:∃t,mg "SENSE_NEW"=some (.int 5 t)
 k6:∃t,mg "SENSE_MOVED_kinds"=some (.int 6 t)
 k7:∃t,mg "SAID"=some (.int 7 t)
 k8:∃t,mg "POINTED"=some (.int 8 t)
structure fP(H:Hp)(D:afb)(H':Hp)(cs:List agX):Prop where
 same:ax H H'
 ex:∃as:List afb,H' D=some (.ba (as.map V.ref))/\xS H' as cs/\∀a∈as,a≠D
theorem fP.start(h:H D=none):fP H D (aE H D (.ba [])) []:=⟨ax.new h,[],aj,xS.nil,fun _ h=>nomatch h⟩
theorem fP.keep{cs:List agX}(g:fP H D H1 cs)(s:ax H1 H2):fP H D H2 cs:=by
 obtain⟨as,h1,h2,h3⟩:=g.ex;exact⟨g.same.trans s,as,s _ _ h1,h2.same s,h3⟩
theorem fP.len{H H1:Hp}{D:afb}{cs:List agX}(g:fP H D H1 cs):∃as:List afb,H1 D=some (.ba (as.map V.ref))/\as.length=cs.length:=by
 obtain⟨as,h1,h2,_⟩:=g.ex;exact⟨as,h1,h2.len⟩
theorem fP.gZ{l:afb}{cs:List agX}{c:agX}(g:fP H D H1 cs)(hD:H D=none)(s:ax H1 H2)(hl:H1 l=none)(h:IL H2 l (agq c))(as:List afb)(ha:H2 D=some (.ba (as.map V.ref))):
  fP H D (aE H2 D (.ba (as.map V.ref++ [.ref l]))) (cs++ [c]):=by
 obtain⟨JO,h1,h2,h3⟩:=g.ex;have e:JO=as:=by
  have:=(s _ _ h1).symm.trans ha;injection this with this
  injection this with this
  exact(alW (fun x y h=>by injection h)).mp this
 subst e;have Zi:l≠D:=fun z=>by rw[z,h1]at hl;cases hl
 refine⟨fun a o q=> ?_,JO++ [l],?_,?_,fun a q=> ?_⟩
 .rw[ao (ak q hD)];exact s _ _ (g.same _ _ q)
 .rw[aj,afB];rfl
 .have h4:xS H2 (JO++ [l]) (cs++ [c]):=(h2.same s).append (xS.xT h);refine⟨h4.len,fun i a d q1 q2=> ?_⟩;have hm:=afo q1;have gh:a≠D:=by
   rcases afL.mp hm with z|z
   .exact h3 a z
   .have:a=l:=by simpa using z
    rw[this];exact Zi
  show L2.aE _ D _ a=_;rw[ao gh];exact h4.cG i a d q1 q2
 .rcases afL.mp q with z|z
  .exact h3 a z
  .have:a=l:=by simpa using z
   rw[this];exact Zi
theorem fP.NC{cs:List agX}(g:fP H D H1 cs):Qa H1 D cs:=by
 obtain⟨as,h1,h2,_⟩:=g.ex;exact⟨as,h1,h2⟩
inductive tL(C:afb)(cs:af8->af8->List agX)(vs:List V)(H:Hp)(Q:VK)(E:XK):Prop|m:∀(b1 b2:afb) (d1 d2:BA) (B1 B2:af8) (FZ:List afb) (N:Nat),vs=[.ref b1,.ref b2]->aV C H b1 d1 B1 FZ N->aV C H b2 d2 B2 FZ N->N<10000->(∀e∈B2.entries,e.word.length<=10000000)->(∀e∈B2.senses,e.text.length<=10000000)->(∀(H':Hp) (l:afb),H l=none->Qa H' l (cs B1 B2)->ax H H'->Q (.ref l) H')->tL C cs vs H Q E
abbrev TU:afP:=dC 66
theorem Py:au ["first","second","entry"] ["first","second"] (ai TU):=cF
theorem QZ:iK ["first","second","entry"] (ai TU) (w8 (cq TU) 0) [("entry",2)]:=⟨rfl,by decide+kernel,by decide+kernel,by decide+kernel,by decide+kernel⟩
theorem SF(F:b9 K "entries_dropped" "entries_dropped" TU f fd)(T:mC K mg C)(X:Mp mg)(mH:zG P w K mg base 1 C "has_entry" ["self","entry"] (pU C) fh fX)(cC:jw P w K mg base 1 "change" ["kind","numbers","row"] iA fc fO):
  aT P w K mg base bX 2 f fd ["first","second"] (tL C fun a b=>(a.entries.filter fun x=> !hasEntry b x.name).map fun x=>ahu x.name):=by
 refine cz F Py fun _ _ _ _ H _ Q E hr h=> ?_
 obtain⟨b1,b2,d1,d2,B1,B2,FZ,N,rfl,hA,hB,hN,DS,sf,k⟩:=h;obtain⟨t1,k1⟩:=X.k1;refine⟨_,af (aq (mv (own:=[("entry",2)]) rfl Py.nd (bO (az (pv 0))) QZ (fun _ _ _ _ _=>hJ 2 Py.nd)
  (fun _ _ _ _ _=>oK (bu (bf (hG (pv 1) T.cl mH.me mH.ok hr mH.bi .nil bw (aa (pv 2) ab)))))
  (fun _ _ _ _ _=>bh cC.ok hr rfl cC.mg cC.kp cC.bi .nil bw (aa (cu (v:= .int 1) rfl k1 ⟨_,rfl⟩) (aa (cp (aa (pv 2) ab)) (aa (cp ab) ab)))))),?_⟩
 refine⟨_,rfl,b1,C,d1.dx,_,_,rfl,hA.bq.ins,T.cl,T.nO,bP,d1.o,rfl,⟨_,aJ.of hA.bq.ord⟩,fun D hD=>jZ (K:=K) (a:=d1.o) (xs:=(names B1).map vn)
  (fun i H'=>fP H D H' (((B1.entries.take i).filter fun x=> !hasEntry B2 x.name).map fun x=>ahu x.name)) (fP.start hD) (fun i H' _ g=>aJ.of (g.same _ _ hA.bq.ord)) ?_ ?_⟩
 .rintro i y H' hi g;obtain⟨e,he,rfl⟩:=eg hi;obtain⟨x,hx,rfl⟩:=entry_at he;have gV:i<B1.entries.length:=(afd.mp hx).1;have qm:B1.entries.length<=N:=by have:=hA.le;unfold names at this;rw[ae9]at this;exact this
  have B7:=hB.same g.same;refine⟨rfl,_,rfl,b2,d2.dx,_,rfl,B7.bq.ins,bF (by decide+kernel),_,rfl,b2,d2,B2,FZ,N,x.name,rfl,B7,_,rfl,?_⟩;refine aW (fun q=> ?_) (fun q=> ?_)
  .refine⟨_,rfl,by show 1<=sizeLine;decide,fun a1 h1=>⟨afF _,fun a2 h2=> ?_⟩⟩;have s1:ax H' (aE H' a1 (.ba [vn x.name])):=ax.new h1;have s2:=s1.trans (ax.new (o:= .ba []) h2);refine⟨1,a1,a2,[(x.name:Int)],[],rfl,by show L2.aE _ a2 _ a1=_;rw[ao (ak aj h2)];exact aj,aj,by show 1<=3;decide,afF _,fun H5 l5 wx ub s5=> ?_⟩;have mm:=s2.trans s5;have ql:H' l5=none:=s2.free wx;obtain⟨as,ha,bY⟩:=(g.keep mm).len;refine⟨_,ha,?_,?_⟩
   .rw[ae9,bY,ae9];have:=af6 (fun x:afm=> !hasEntry B2 x.name) (B1.entries.take i);rw[afW]at this;exact b8 (by omega)
   .have hc:IL H5 l5 (agq (ahu x.name)):=ub;have:=g.gZ hD mm ql hc as ha;rw[aS hx,agj,afB,afS,afh q];exact this
  .rw[aS hx,agj,afB,afS,afc q];show fP H D H' (_++ []);rw[af5];exact g
 .rintro H' g;have:B1.entries.take ((names B1).map vn).length=B1.entries:=agu (by simp[names]);rw[this]at g;exact k H' D hD g.NC g.same
abbrev jQ(l:List Nat):List Int:=l.map fun n:Nat=>(n:Int)
theorem NL.il(h:NL H a l):IL H a (jQ l):=by
 show H a=_;rw[h,wI]
theorem Fd(e a:Nat)(wd:List Nat):zq 3 [(e:Int),(a:Int)] (jQ wd)=agq (.newEntry e a wd):=by
 show [3,(e:Int),(a:Int),0,((jQ wd).length:Int)]++jQ wd=[3,(e:Int),(a:Int),0,(wd.length:Int)]++wd.map nat;rw[ae9];rfl
theorem Fe(n e a:Nat)(t:List Nat):zq 5 [(n:Int),(e:Int),(a:Int)] (jQ t)=agq (.newSense n e a t):=by
 show [5,(n:Int),(e:Int),(a:Int),((jQ t).length:Int)]++jQ t=[5,(n:Int),(e:Int),(a:Int),(t.length:Int)]++t.map nat;rw[ae9];rfl
theorem Jn(n:Nat)(t:List Nat):zq 7 [(n:Int)] (jQ t)=agq (.say n t):=by
 show [7,(n:Int),0,0,((jQ t).length:Int)]++jQ t=[7,(n:Int),0,0,(t.length:Int)]++t.map nat;rw[ae9];rfl
abbrev Yq:afP:=dC 67
theorem EU:au ["first","second","stay","found","ahead","entry"] ["first","second"] (ai Yq):=cF
theorem KG(a b:af8):kept (names a) (names b)=kept (ags a) (ags b):=rfl
theorem B0(a b:af8)(k:List Nat):∀(l:List afm) (ah:Nat),(BZ a b k ah l).length<=l.length
 | [],_=>afn _
 |x::l,ah=>by
  have ih:=B0 a b k l x.name;show((if k.contains x.name=true then []else [_])++BZ a b k x.name l).length<=_;rw[afa,afp];split
  .show 0+_<=_;omega
  .show 1+_<=_;omega
theorem SG{ft:afb}{VR:afC}(F:b9 K "entries_placed" "entries_placed" Yq f fd)(T:mC K mg C)(X:Mp mg)(mH:zG P w K mg base 1 C "has_entry" ["self","entry"] (pU C) fh fX)(cC:jw P w K mg base 1 "change" ["kind","numbers","row"] iA fc fO)
  (cT:jw P w K mg base 2 "those_that_stay" ["old","new"] (xK K) ft VR):aT P w K mg base bX 3 f fd ["first","second"] (tL C fun a b=>BZ a b (kept (ags a) (ags b)) 0 b.entries):=by
 refine cz F EU fun _ _ _ _ H _ Q E hr h=> ?_
 obtain⟨b1,b2,d1,d2,B1,B2,FZ,N,rfl,hA,hB,hN,DS,sf,k⟩:=h;obtain⟨t3,k3⟩:=X.k3;obtain⟨t4,k4⟩:=X.k4;have Ce:fF 1 _:=hr.fJ (by decide);refine⟨_,ae (cY 2 EU.nd (bh cT.ok hr rfl cT.mg cT.kp cT.bi .nil bw (aa (az (pv 0)) (aa (az (pv 1)) ab))))
  (ae (cY 3 EU.nd (cp ab))
  (ae (cY 4 EU.nd ag)
  (ae (cM af1 rfl (bO (az (pv 1))) (hJ 5 EU.nd)
   (ae (aZ (aX j2 (pv 5) (pv 2) (by with_unfolding_all rfl))
    (af (aZ (bf (hG (pv 0) T.cl mH.me mH.ok Ce mH.bi .nil bw (aa (pv 5) ab)))
     (af (aI (cy afq agc agh de (pv 3) (aa (bh cC.ok Ce rfl cC.mg cC.kp cC.bi .nil bw (aa (cu (v:= .int 4) rfl k4 ⟨_,rfl⟩) (aa (cp (aa (pv 5) (aa (pv 4) ab))) (aa (cp ab) ab)))) ab))))
     (af (aI (cy afq agc agh de (pv 3) (aa (bh cC.ok Ce rfl cC.mg cC.kp cC.bi .nil bw (aa (cu (v:= .int 3) rfl k3 ⟨_,rfl⟩) (aa (cp (aa (pv 5) (aa (pv 4) ab))) (aa (bC (bZ hr) (az (pv 1)) (pv 5)) ab)))) ab))))))
    aC)
   (af (cY 4 EU.nd (pv 5)))))
  (af (aq (pv 3)))))),?_⟩
 have YU:(names B1).length<=10000:=by have:=hA.le;omega
 have YV:(names B2).length<=10000:=by have:=hB.le;omega
 refine⟨_,rfl,b1,C,d1.dx,_,_,rfl,hA.bq.ins,T.cl,T.nO,bP,_,rfl,b2,C,d2.dx,_,_,rfl,hB.bq.ins,T.cl,T.nO,bP,d1.o,d2.o,names B1,names B2,rfl,aJ.of hA.bq.ord,aJ.of hB.bq.ord,hB.wf.en,YU,YV,fun H1 sy hsy M5 s1=> ?_⟩;rw[KG]at M5;generalize Wr:kept (ags B1) (ags B2)=kk at M5 k;refine⟨afF _,fun D hD=> ?_⟩;have g0:=fP.start hD;have V2:H D=none:=s1.free hD;have zM:B2.entries.length<=N:=by have:=hB.le;unfold names at this;rw[ae9]at this;exact this
 have Qm:=s1.trans g0.same;refine⟨_,rfl,b2,C,d2.dx,_,_,rfl,Qm _ _ hB.bq.ins,T.cl,T.nO,bP,d2.o,rfl,⟨_,aJ.of (Qm _ _ hB.bq.ord)⟩,cV (K:=K) (a:=d2.o) (xs:=(names B2).map vn)
  (fun i σ H'=>∃(v5:Option V) (ah:Nat) (cs:List agX),σ=[some (.ref b1),some (.ref b2),some (.ref sy),some (.ref D),some (vn ah),v5]/\fP H1 D H' cs/\cs.length<=i/\BZ B1 B2 kk 0 B2.entries=cs++BZ B1 B2 kk ah (B2.entries.drop i))
  ⟨none,0,[],rfl,g0,afn _,rfl⟩ (fun i σ H' _ ⟨_,_,_,_,g,_⟩=>aJ.of (g.same _ _ (s1 _ _ hB.bq.ord))) ?_ ?_⟩
 .rintro i y σ H' hi ⟨v5,ah,cs,rfl,g,z9,Aa⟩;obtain⟨e,he,rfl⟩:=eg hi;obtain⟨x,hx,rfl⟩:=entry_at he;have px:x∈B2.entries:=afo hx;have wy:x.name∈names B2:=aY.mpr ⟨x,px,rfl⟩;have gV:i<B2.entries.length:=(afd.mp hx).1;have B9:B2.entries.drop i=x::B2.entries.drop (i+1):=by
   obtain⟨h1,h2⟩:=afd.mp hx;rw[agL h1,h2]
  have jY:BZ B1 B2 kk 0 B2.entries=cs++((if kk.contains x.name=true then []else [if agl B1 x.name=true then aia x.name ah else .newEntry x.name ah x.word])++BZ B1 B2 kk x.name (B2.entries.drop (i+1))):=by
   rw[Aa,B9];rfl
  have sH:=s1.trans g.same;refine⟨_,rfl,_,rfl,sy,_,rfl,.inl (aJ.of (g.same _ _ M5)),rfl,g9 _,_,rfl,?_⟩;show if(!Fq (vn x.name) (kk.map vn))=true then _ else _
  rw[kQ];refine aW (fun q=> ?_) (fun q=> ?_)
  .have JF:¬x.name∈kk:=by simpa using q
   rw[afc (by simpa using JF)]at jY;have YN:=hA.same sH;have B7:=hB.same sH;refine⟨_,rfl,b1,d1.dx,_,rfl,YN.bq.ins,bF (by decide+kernel),_,rfl,b1,d1,B1,FZ,N,x.name,rfl,YN,_,rfl,?_⟩;obtain⟨QU,DL,_⟩:=g.len;refine aW (fun q2=> ?_) (fun q2=> ?_)
   .rw[afh q2]at jY;refine⟨_,rfl,.inl ⟨rfl,_,aJ.of DL⟩,_,rfl,_,rfl,by show 2<=sizeLine;decide,fun a1 h1=>⟨afF _,fun a2 h2=> ?_⟩⟩;have s3:ax H' (aE H' a1 (.ba [vn x.name,vn ah])):=ax.new h1;have s4:=s3.trans (ax.new (o:= .ba []) h2);refine⟨4,a1,a2,[(x.name:Int),(ah:Int)],[],rfl,by show L2.aE _ a2 _ a1=_;rw[ao (ak aj h2)];exact aj,aj,by show 2<=3;decide,afF _,fun H5 l5 wx ub s5=> ?_⟩;have mm:=s4.trans s5;obtain⟨as,ha,bY⟩:=(g.keep mm).len;have hc:IL H5 l5 (agq (.moveEntry x.name ah)):=ub;refine⟨D,_,_,rfl,rfl,ha,by rw[ae9,bY];exact b8 (by omega),_,rfl,_,x.name,cs++ [aia x.name ah],rfl,g.gZ hD mm (s4.free wx) hc as ha,by rw[afa];show _+1<=_;omega,?_⟩;rw[jY,afQ]
   .rw[afc q2]at jY;refine⟨_,rfl,.inl ⟨rfl,_,aJ.of DL⟩,_,rfl,_,rfl,by show 2<=sizeLine;decide,fun a1 h1=> ?_⟩;have s3:ax H' (aE H' a1 (.ba [vn x.name,vn ah])):=ax.new h1;have mx:=sH.trans s3;obtain⟨hwF,WS⟩:=hB.word x px;refine⟨_,rfl,b2,C,d2.dx,_,_,rfl,mx _ _ hB.bq.ins,T.cl,T.nW,jz,_,rfl,d2.w,.ref (d2.wa x.name),rfl,by
     have:=ei.k (k:=afx (x.name:Int)) (mx _ _ hB.bq.hw);rw[hB.dw.get wy]at this;exact this,3,a1,d2.wa x.name,[(x.name:Int),(ah:Int)],jQ x.word,rfl,aj,NL.il (mx _ _ WS),by show 2<=3;decide,by rw[ae9];exact DS x px,fun H5 l5 wx ub s5=> ?_⟩
    rw[Fd]at ub;have mm:=s3.trans s5;obtain⟨as,ha,bY⟩:=(g.keep mm).len;refine⟨D,_,_,rfl,rfl,ha,by rw[ae9,bY];exact b8 (by omega),_,rfl,_,x.name,cs++ [Change.newEntry x.name ah x.word],rfl,g.gZ hD mm (s3.free wx) ub as ha,by rw[afa];show _+1<=_;omega,?_⟩;rw[jY,afQ]
  .have JF:x.name∈kk:=by simpa using q
   rw[afh (by simpa using JF)]at jY;exact⟨_,rfl,_,x.name,cs,rfl,g,by omega,jY⟩
 .rintro σ H' ⟨v5,ah,cs,rfl,g,z9,Aa⟩;have Wg:B2.entries.drop ((names B2).map vn).length=[]:=agr (by simp[names]);rw[Wg]at Aa;have jY:BZ B1 B2 kk 0 B2.entries=cs:=by rw[Aa];exact af5 _
  refine⟨_,rfl,k H' D V2 ?_ (s1.trans g.same)⟩;rw[jY];exact g.NC
inductive AY(C:afb)(vs:List V)(H:Hp)(Q:VK)(E:XK):Prop|m:∀(b1 b2:afb) (d1 d2:BA) (B1 B2:af8) (FZ:List afb) (N:Nat),vs=[.ref b1,.ref b2]->aV C H b1 d1 B1 FZ N->aV C H b2 d2 B2 FZ N->N<10000->(∀(H':Hp) (l:afb),H l=none->NL H' l (bg B1 B2)->ax H H'->Q (.ref l) H')->AY C vs H Q E
inductive PR(C:afb)(vs:List V)(H:Hp)(Q:VK)(E:XK):Prop|m:∀(l b2:afb) (d2:BA) (ls:List Nat) (B2:af8) (FZ:List afb) (N:Nat),vs=[.ref l,.ref b2]->NL H l ls->ls.length<=10000->aV C H b2 d2 B2 FZ N->N<10000->(∀(H':Hp) (D:afb),H D=none->Qa H' D ((ls.filter fun n=> !hasSense B2 n).map ajv)->ax H H'->Q (.ref D) H')->PR C vs H Q E
theorem G8(a b:af8)(w:WF a):(bg a b).length<=(afD a).length:=by
 rw[jg a b w];exact af6 _ _
abbrev ME:afP:=dC 68
theorem AO:au ["first","second","left","entry"] ["first","second"] (ai ME):=cF
theorem G9(b:af8)(l:List afm)(i:Nat):(((l.take i).filter fun x=>agl b x.name).flatMap fun x=>x.senses).length<=(l.flatMap fun x=>x.senses).length:=by
 have h:∀m:List afm,((m.filter fun x=>agl b x.name).flatMap fun x=>x.senses).length<=(m.flatMap fun x=>x.senses).length:=by
  intro m
  induction m with
  |nil=>exact afn _
  |cons x m ih=>
   rw[afS,agg,afa];split
   .rw[agg,afa];omega
   .omega
 exact afu (h _) (lX (fun x:afm=>x.senses) l i)
theorem K6(F:b9 K "senses_left" "senses_left" ME f fd)(T:mC K mg C)(mH:zG P w K mg base 1 C "has_entry" ["self","entry"] (pU C) fh fX):aT P w K mg base bX 2 f fd ["first","second"] (AY C):=by
 refine cz F AO fun _ _ _ _ H _ Q E hr h=> ?_
 obtain⟨b1,b2,d1,d2,B1,B2,FZ,N,rfl,hA,hB,hN,k⟩:=h;refine⟨_,ae (cY 2 AO.nd (cp ab))
  (ae (cM af1 rfl (bO (az (pv 0))) (hJ 3 AO.nd)
   (af (aZ (bf (hG (pv 1) T.cl mH.me mH.ok hr mH.bi .nil bw (aa (pv 3) ab)))
    (af (aI (cy afq af0 af7 dJ (pv 2) (aa (bC (bZ hr) (az (pv 0)) (pv 3)) ab))))
    aC)))
  (af (aq (pv 2)))),?_⟩
 refine⟨afF _,fun D hD=> ?_⟩;have s0:ax H (aE H D (.ba [])):=ax.new hD;refine⟨_,rfl,b1,C,d1.dx,_,_,rfl,s0 _ _ hA.bq.ins,T.cl,T.nO,bP,d1.o,rfl,⟨_,aJ.of (s0 _ _ hA.bq.ord)⟩,cV (K:=K) (a:=d1.o) (xs:=(names B1).map vn)
  (fun i σ H'=>∃(v3:Option V),σ=[some (.ref b1),some (.ref b2),some (.ref D),v3]/\ax H H'/\NL H' D (((B1.entries.take i).filter fun x=>agl B2 x.name).flatMap fun x=>x.senses))
  ⟨none,rfl,s0,aj⟩ (fun i σ H' _ ⟨_,_,s1,_⟩=>aJ.of (s1 _ _ hA.bq.ord)) ?_ ?_⟩
 .rintro i y σ H' hi ⟨v3,rfl,s1,Qp⟩;obtain⟨e,he,rfl⟩:=eg hi;obtain⟨x,hx,rfl⟩:=entry_at he;have px:x∈B1.entries:=afo hx;have wy:x.name∈names B1:=aY.mpr ⟨x,px,rfl⟩;have B7:=hB.same s1;refine⟨_,rfl,b2,d2.dx,_,rfl,B7.bq.ins,bF (by decide+kernel),_,rfl,b2,d2,B2,FZ,N,x.name,rfl,B7,_,rfl,?_⟩;refine aW (fun q=> ?_) (fun q=> ?_)
  .have Ks:=G9 B2 B1.entries (i+1);rw[aS hx,agj,agF,afS,afh q,ahG,agg,List.flatMap_nil,af5]at Ks;have Zo:(((B1.entries.take i).filter fun x=>agl B2 x.name).flatMap fun x=>x.senses).length+x.senses.length<=N:=by
    have:=hA.ls;have h2:(B1.entries.flatMap fun x=>x.senses).length<=N:=this;rw[afa]at Ks;omega
   refine⟨_,rfl,.inl ⟨rfl,_,aJ.of Qp⟩,_,rfl,b1,C,d1.dx,_,_,rfl,s1 _ _ hA.bq.ins,T.cl,T.nR,du,_,rfl,d1.r,.ref (d1.ra x.name),rfl,by
    have:=ei.k (k:=afx (x.name:Int)) (s1 _ _ hA.bq.hr);rw[hA.dr.get wy]at this;exact this,D,d1.ra x.name,_,_,rfl,rfl,Qp,s1 _ _ (hA.row px),by rw[ae9,ae9];exact agC (b8 (by omega)),_,rfl,fun a o h=> ?_,?_⟩
   .rw[ao (ak h hD)];exact s1 a o h
   .rw[aS hx,agj,agF,afS,afh q];show L2.aE _ D _ D=_;rw[aj,<-afB];simp
  .refine⟨_,rfl,s1,?_⟩;rw[aS hx,agj,agF,afS,afc q];simpa using Qp
 .rintro σ H' ⟨v3,rfl,s1,Qp⟩;have:B1.entries.take ((names B1).map vn).length=B1.entries:=agu (by simp[names]);rw[this]at Qp;exact⟨_,rfl,k H' D hD Qp s1⟩
abbrev TV:afP:=dC 69
theorem PK:au ["left","second","sense"] ["left","second"] (ai TV):=cF
theorem Q0:iK ["left","second","sense"] (ai TV) (w8 (cq TV) 0) [("sense",2)]:=⟨rfl,by decide+kernel,by decide+kernel,by decide+kernel,by decide+kernel⟩
theorem SH(F:b9 K "senses_dropped" "senses_dropped" TV f fd)(T:mC K mg C)(X:Mp mg)(mH:zG P w K mg base 1 C "has_sense" ["self","sense"] (xw C) fh fX)(cC:jw P w K mg base 1 "change" ["kind","numbers","row"] iA fc fO):
  aT P w K mg base bX 2 f fd ["left","second"] (PR C):=by
 refine cz F PK fun _ _ _ _ H _ Q E hr h=> ?_
 obtain⟨l,b2,d2,ls,B2,FZ,N,rfl,hl,Ab,hB,hN,k⟩:=h;obtain⟨t1,k1⟩:=X.k2;refine⟨_,af (aq (mv (own:=[("sense",2)]) rfl PK.nd (bO (pv 0)) Q0 (fun _ _ _ _ _=>hJ 2 PK.nd)
  (fun _ _ _ _ _=>oK (bu (bf (hG (pv 1) T.cl mH.me mH.ok hr mH.bi .nil bw (aa (pv 2) ab)))))
  (fun _ _ _ _ _=>bh cC.ok hr rfl cC.mg cC.kp cC.bi .nil bw (aa (cu (v:= .int 2) rfl k1 ⟨_,rfl⟩) (aa (cp (aa (pv 2) ab)) (aa (cp ab) ab)))))),?_⟩
 refine⟨_,rfl,l,rfl,⟨_,aJ.of hl⟩,fun D hD=>jZ (K:=K) (a:=l) (xs:=ls.map vn)
  (fun i H'=>fP H D H' (((ls.take i).filter fun n=> !hasSense B2 n).map ajv)) (fP.start hD) (fun i H' _ g=>aJ.of (g.same _ _ hl)) ?_ ?_⟩
 .rintro i y H' hi g;obtain⟨n,hn,rfl⟩:=eg hi;have gV:i<ls.length:=(afd.mp hn).1;have B7:=hB.same g.same;refine⟨rfl,_,rfl,b2,d2.dx,_,rfl,B7.bq.ins,bF (by decide+kernel),_,rfl,b2,d2,B2,FZ,N,n,rfl,B7,_,rfl,?_⟩;refine aW (fun q=> ?_) (fun q=> ?_)
  .refine⟨_,rfl,by show 1<=sizeLine;decide,fun a1 h1=>⟨afF _,fun a2 h2=> ?_⟩⟩;have s1:ax H' (aE H' a1 (.ba [vn n])):=ax.new h1;have s2:=s1.trans (ax.new (o:= .ba []) h2);refine⟨2,a1,a2,[(n:Int)],[],rfl,by show L2.aE _ a2 _ a1=_;rw[ao (ak aj h2)];exact aj,aj,by show 1<=3;decide,afF _,fun H5 l5 wx ub s5=> ?_⟩;have mm:=s2.trans s5;obtain⟨as,ha,bY⟩:=(g.keep mm).len;refine⟨_,ha,?_,?_⟩
   .rw[ae9,bY,ae9];have:=af6 (fun n=> !hasSense B2 n) (ls.take i);rw[afW]at this;exact b8 (by omega)
   .have hc:IL H5 l5 (agq (ajv n)):=ub;have:=g.gZ hD mm (s2.free wx) hc as ha;rw[aS hn,agj,afB,afS,afh q];exact this
  .rw[aS hn,agj,afB,afS,afc q];show fP H D H' (_++ []);rw[af5];exact g
 .rintro H' g;rw[ae9,afR]at g;exact k H' D hD g.NC g.same
theorem rS(h:¬e∈names B):(entryAt B e).senses=[]:=by
 unfold entryAt;have:B.entries.find? (fun x=>x.name==e)=none:=by
  rw[alS];intro x hx q;exact h (aY.mpr ⟨x,hx,by simpa using q⟩)
 rw[this];rfl
theorem B4(a b:af8)(left k:List Nat)(e:Nat):∀(l:List Nat) (ah:Nat),(uT a b left k e ah l).length<=l.length
 | [],_=>afn _
 |n::l,ah=>by
  have ih:=B4 a b left k e l n;show((if k.contains n=true then []else [_])++uT a b left k e n l).length<=_;rw[afa,afp];split
  .show 0+_<=_;omega
  .show 1+_<=_;omega
inductive Jf(C:afb)(vs:List V)(H:Hp)(Q:VK)(E:XK):Prop|m:∀(y:afm) (b1 b2 l:afb) (d1 d2:BA) (ls:List Nat) (B1 B2:af8) (FZ:List afb) (N:Nat),vs=[vn y.name,.ref b1,.ref b2,.ref l]->y∈B2.entries->NL H l ls->aV C H b1 d1 B1 FZ N->aV C H b2 d2 B2 FZ N->N<10000->(∀e∈B2.senses,e.text.length<=10000000)->(∀(H':Hp) (D:afb),H D=none->Qa H' D (uT B1 B2 ls (kept (entryAt B1 y.name).senses y.senses) y.name 0 y.senses)->ax H H'->Q (.ref D) H')->Jf C vs H Q E
abbrev Rc:afP:=dC 70
theorem vz:au ["entry","first","second","left","stay","found","ahead","sense"] ["entry","first","second","left"] (ai Rc):=cF
theorem Pb{ft:afb}{VR:afC}(F:b9 K "senses_placed_in" "senses_placed_in" Rc f fd)(T:mC K mg C)(X:Mp mg)(cC:jw P w K mg base 1 "change" ["kind","numbers","row"] iA fc fO)
  (cT:jw P w K mg base 2 "those_that_stay" ["old","new"] (xK K) ft VR):aT P w K mg base bX 3 f fd ["entry","first","second","left"] (Jf C):=by
 refine cz F vz fun _ _ _ _ H _ Q E hr h=> ?_
 obtain⟨y,b1,b2,l,d1,d2,ls,B1,B2,FZ,N,rfl,hy,hl,hA,hB,hN,sf,k⟩:=h;obtain⟨t5,k5⟩:=X.k5;obtain⟨t6,k6⟩:=X.k6;have Ce:fF 1 _:=hr.fJ (by decide);refine⟨_,ae (cY 4 vz.nd (bh cT.ok hr rfl cT.mg cT.kp cT.bi .nil bw (aa (yY (bZ hr) (az (pv 1)) (pv 0) (cp ab) ⟨rfl,rfl,rfl,rfl⟩) (aa (bC (bZ hr) (az (pv 2)) (pv 0)) ab))))
  (ae (cY 5 vz.nd (cp ab))
  (ae (cY 6 vz.nd ag)
  (ae (cM af1 rfl (bO (bC (bZ hr) (az (pv 2)) (pv 0))) (hJ 7 vz.nd)
   (ae (aZ (aX j2 (pv 7) (pv 4) (by with_unfolding_all rfl))
    (af (aZ (aX jI (pv 7) (pv 3) (by with_unfolding_all rfl))
     (af (aI (cy afq agc agh de (pv 5) (aa (bh cC.ok Ce rfl cC.mg cC.kp cC.bi .nil bw (aa (cu (v:= .int 6) rfl k6 ⟨_,rfl⟩) (aa (cp (aa (pv 7) (aa (pv 0) (aa (pv 6) ab)))) (aa (cp ab) ab)))) ab))))
     (af (aI (cy afq agc agh de (pv 5) (aa (bh cC.ok Ce rfl cC.mg cC.kp cC.bi .nil bw (aa (cu (v:= .int 5) rfl k5 ⟨_,rfl⟩) (aa (cp (aa (pv 7) (aa (pv 0) (aa (pv 6) ab)))) (aa (bC (bZ hr) (az (pv 2)) (pv 7)) ab)))) ab))))))
    aC)
   (af (cY 6 vz.nd (pv 7)))))
  (af (aq (pv 5)))))),?_⟩
 have Zz:y.name∈names B2:=aY.mpr ⟨y,hy,rfl⟩;refine⟨_,rfl,b1,C,d1.dx,_,_,rfl,hA.bq.ins,T.cl,T.nR,du,d1.r,rfl,.inl ⟨_,.inl hA.bq.hr⟩,_,rfl,afF _,fun e0 Oy=> ?_⟩;have s0:ax H (aE H e0 (.ba [])):=ax.new Oy;have Uo:y.senses.length<=10000:=by have:=hB.IA hy;omega
 obtain⟨o,a0,hg,ho,hs,qm⟩:∃(o:Option V) (a0:afb),ei (aE H e0 (.ba [])) d1.r (vn y.name) o/\o.getD (.ref e0)= .ref a0/\aJ K (aE H e0 (.ba [])) a0 ((entryAt B1 y.name).senses.map vn)/\(entryAt B1 y.name).senses.length<=10000:=by
  have Ub:=ei.k (k:=afx (y.name:Int)) (s0 _ _ hA.bq.hr);by_cases hm:y.name∈names B1
  .rw[hA.dr.get hm]at Ub;exact⟨_,d1.ra y.name,Ub,rfl,aJ.of (s0 _ _ (hA.bq.row y.name hm)),by have:=hA.IA (eZ hA.wf hm).1;omega⟩
  .have e9:ee d1.rk (afx (y.name:Int))=none:=by rw[hA.dr y.name,afc hm]
   rw[e9]at Ub;exact⟨_,e0,Ub,rfl,by rw[rS hm];exact aJ.of aj,by rw[rS hm];exact afF _⟩
 refine⟨o,hg,?_⟩;rw[ho];refine⟨_,rfl,b2,C,d2.dx,_,_,rfl,s0 _ _ hB.bq.ins,T.cl,T.nR,du,_,rfl,d2.r,.ref (d2.ra y.name),rfl,by
  have:=ei.k (k:=afx (y.name:Int)) (s0 _ _ hB.bq.hr);rw[hB.dr.get Zz]at this;exact this,a0,d2.ra y.name,(entryAt B1 y.name).senses,y.senses,rfl,hs,aJ.of (s0 _ _ (hB.row hy)),qR hB.wf.an hy,qm,Uo,fun H1 sy hsy M5 UB=> ?_⟩
 have s1:=s0.trans UB;generalize Wr:kept (entryAt B1 y.name).senses y.senses=kk at M5 k;refine⟨afF _,fun D hD=> ?_⟩;have g0:=fP.start hD;have V2:H D=none:=s1.free hD;have Qm:=s1.trans g0.same;refine⟨_,rfl,b2,C,d2.dx,_,_,rfl,Qm _ _ hB.bq.ins,T.cl,T.nR,du,_,rfl,d2.r,.ref (d2.ra y.name),rfl,by
  have:=ei.k (k:=afx (y.name:Int)) (Qm _ _ hB.bq.hr);rw[hB.dr.get Zz]at this;exact this,d2.ra y.name,rfl,⟨_,aJ.of (Qm _ _ (hB.row hy))⟩,cV (K:=K) (a:=d2.ra y.name) (xs:=y.senses.map vn)
  (fun i σ H'=>∃(v7:Option V) (ah:Nat) (cs:List agX),σ=[some (vn y.name),some (.ref b1),some (.ref b2),some (.ref l),some (.ref sy),some (.ref D),some (vn ah),v7]/\fP H1 D H' cs/\cs.length<=i/\uT B1 B2 ls kk y.name 0 y.senses=cs++uT B1 B2 ls kk y.name ah (y.senses.drop i))
  ⟨none,0,[],rfl,g0,afn _,rfl⟩ (fun i σ H' _ ⟨_,_,_,_,g,_⟩=>aJ.of (g.same _ _ (s1 _ _ (hB.row hy)))) ?_ ?_⟩
 .rintro i z σ H' hi ⟨v7,ah,cs,rfl,g,z9,Aa⟩;obtain⟨n,hn,rfl⟩:=eg hi;have OA:n∈y.senses:=afo hn;have qF:n∈aD B2:=(hB.wf.same n).mp (dH.mpr ⟨y,hy,OA⟩);obtain⟨OF,qS⟩:=jn hB.wf qF;have gV:i<y.senses.length:=(afd.mp hn).1;have B9:y.senses.drop i=n::y.senses.drop (i+1):=by
   obtain⟨h1,h2⟩:=afd.mp hn;rw[agL h1,h2]
  have jY:uT B1 B2 ls kk y.name 0 y.senses=cs++((if kk.contains n=true then []else [if ls.contains n=true then aib n y.name ah else .newSense n y.name ah (afr B2 n).text])++uT B1 B2 ls kk y.name n (y.senses.drop (i+1))):=by
   rw[Aa,B9];rfl
  have sH:=s1.trans g.same;refine⟨_,rfl,_,rfl,sy,_,rfl,.inl (aJ.of (g.same _ _ M5)),rfl,g9 _,_,rfl,?_⟩;show if(!Fq (vn n) (kk.map vn))=true then _ else _
  rw[kQ];refine aW (fun q=> ?_) (fun q=> ?_)
  .have JF:¬n∈kk:=by simpa using q
   rw[afc (by simpa using JF)]at jY;refine⟨_,rfl,_,rfl,l,_,rfl,.inl (aJ.of (sH _ _ hl)),rfl,g9 _,_,rfl,?_⟩;show if Fq (vn n) (ls.map vn)=true then _ else _
   rw[kQ];obtain⟨QU,DL,_⟩:=g.len;refine aW (fun q2=> ?_) (fun q2=> ?_)
   .have Xw:n∈ls:=aff q2;rw[afh (by simpa using Xw)]at jY;refine⟨_,rfl,.inl ⟨rfl,_,aJ.of DL⟩,_,rfl,_,rfl,_,rfl,by show 3<=sizeLine;decide,fun a1 h1=>⟨afF _,fun a2 h2=> ?_⟩⟩;have s3:ax H' (aE H' a1 (.ba [vn n,vn y.name,vn ah])):=ax.new h1;have s4:=s3.trans (ax.new (o:= .ba []) h2);refine⟨6,a1,a2,[(n:Int),(y.name:Int),(ah:Int)],[],rfl,by show L2.aE _ a2 _ a1=_;rw[ao (ak aj h2)];exact aj,aj,by show 3<=3;decide,afF _,fun H5 l5 wx ub s5=> ?_⟩;have mm:=s4.trans s5;obtain⟨as,ha,bY⟩:=(g.keep mm).len;have hc:IL H5 l5 (agq (.moveSense n y.name ah)):=ub;refine⟨D,_,_,rfl,rfl,ha,by rw[ae9,bY];exact b8 (by omega),_,rfl,_,n,cs++ [aib n y.name ah],rfl,g.gZ hD mm (s4.free wx) hc as ha,by rw[afa];show _+1<=_;omega,?_⟩;rw[jY,afQ]
   .have Xw:¬n∈ls:=fun z=>q2 (afj z)
    rw[afc (by simpa using Xw)]at jY;refine⟨_,rfl,.inl ⟨rfl,_,aJ.of DL⟩,_,rfl,_,rfl,_,rfl,by show 3<=sizeLine;decide,fun a1 h1=> ?_⟩;have s3:ax H' (aE H' a1 (.ba [vn n,vn y.name,vn ah])):=ax.new h1;have mx:=sH.trans s3;obtain⟨Sd,Kw⟩:=hB.text _ OF;have iF:=sf _ OF;rw[qS]at Sd Kw;refine⟨_,rfl,b2,C,d2.dx,_,_,rfl,mx _ _ hB.bq.ins,T.cl,T.nT,gi,_,rfl,d2.t,.ref (d2.ta n),rfl,by
     have:=ei.k (k:=afx (n:Int)) (mx _ _ hB.bq.ht);rw[hB.dt.get qF]at this;exact this,5,a1,d2.ta n,[(n:Int),(y.name:Int),(ah:Int)],jQ (afr B2 n).text,rfl,aj,NL.il (mx _ _ Kw),by show 3<=3;decide,by rw[ae9];exact iF,fun H5 l5 wx ub s5=> ?_⟩
    rw[Fe]at ub;have mm:=s3.trans s5;obtain⟨as,ha,bY⟩:=(g.keep mm).len;refine⟨D,_,_,rfl,rfl,ha,by rw[ae9,bY];exact b8 (by omega),_,rfl,_,n,cs++ [Change.newSense n y.name ah (afr B2 n).text],rfl,g.gZ hD mm (s3.free wx) ub as ha,by rw[afa];show _+1<=_;omega,?_⟩;rw[jY,afQ]
  .have JF:n∈kk:=by simpa using q
   rw[afh (by simpa using JF)]at jY;exact⟨_,rfl,_,n,cs,rfl,g,by omega,jY⟩
 .rintro σ H' ⟨v7,ah,cs,rfl,g,z9,Aa⟩;have Wg:y.senses.drop (y.senses.map vn).length=[]:=agr (by simp);rw[Wg]at Aa;have jY:uT B1 B2 ls kk y.name 0 y.senses=cs:=by rw[Aa];exact af5 _
  refine⟨_,rfl,k H' D V2 ?_ (s1.trans g.same)⟩;rw[jY];exact g.NC
abbrev pd(l:List Nat):List alk:=l.map fun n:Nat=>ag7 (n:Int)
theorem Ih:∀xs ys:List Nat,ahw (pd xs) (pd ys)=decide (xs=ys)
 | [],[]=>by simp[ahw]
 | [],_::_=>by simp[ahw]
 |_::_,[]=>by simp[ahw]
 |a::r,b::t=>by
  have ih:=Ih r t;show ahw (ag7 (a:Int)::pd r) (ag7 (b:Int)::pd t)=_;rw[ahw,amN,ih];by_cases h:a=b
  .subst h;by_cases h':r=t<;>simp[h']
  .have h2:((a:Int)==(b:Int))=false:=by simpa using(show¬(a:Int)=(b:Int) by omega)
   rw[h2];simp[h]
theorem AI:∀xs:List Nat,aiu (pd xs)=true/\ah2 (pd xs)=0
 | []=>⟨rfl,rfl⟩
 |a::r=>by
  have ih:=AI r;refine⟨?_,?_⟩
  .show aiu (ag7 (a:Int)::pd r)=true;rw[aiu,ih.1];rfl
  .show ah2 (ag7 (a:Int)::pd r)=0;rw[ah2,ih.2];rfl
theorem vo(xs:List Nat):ahL (.list (pd xs))=true:=by
 unfold ahL;rw[PyData.canLay0,(AI xs).1,anD,(AI xs).2];rfl
theorem AH{K:afU}{H:Hp}:∀xs:List Nat,qc K H (xs.map vn) (pd xs)
 | []=> .nil
 |a::r=> .cons (.int _) (AH r)
theorem zu(c:agX)(as:List afb):(agq c).map V.int≠as.map V.ref:=fun e=>by
 have h:∃k r,agq c=k::r:=by
  cases c<;>exact⟨_,_,rfl⟩
 obtain⟨k,r,h⟩:=h;rw[h]at e;cases as with
 |nil=>simp at e
 |cons a as=>rw[af9,af9]at e;injection e with e1;cases e1
theorem fP.ext{l:afb}{cs ds:List agX}(g:fP H D H1 cs)(hD:H D=none)(s:ax H1 H2)(as bs:List afb)(ha:H2 D=some (.ba (as.map V.ref)))(hb:H2 l=some (.ba (bs.map V.ref)))(hd:xS H2 bs ds):
  fP H D (aE H2 D (.ba (as.map V.ref++bs.map V.ref))) (cs++ds):=by
 obtain⟨JO,h1,h2,h3⟩:=g.ex;have e:JO=as:=by
  have:=(s _ _ h1).symm.trans ha;injection this with this
  injection this with this
  exact(alW (fun x y h=>by injection h)).mp this
 subst e;have YZ:∀b∈bs,b≠D:=fun b hm z=>by
  obtain⟨i,hi⟩:=aga hm;have gV:i<ds.length:=by rw[<-hd.len];exact(afd.mp hi).1
  have:=hd.cG i b ds[i] hi (afi gV);have h4:H2 b=some (.ba ((agq ds[i]).map V.int)):=this;rw[z,ha]at h4;injection h4 with h4
  injection h4 with h4
  exact zu _ _ h4.symm
 refine⟨fun a o q=> ?_,JO++bs,?_,?_,fun a q=> ?_⟩
 .rw[ao (ak q hD)];exact s _ _ (g.same _ _ q)
 .rw[aj,afB]
 .have h4:xS H2 (JO++bs) (cs++ds):=(h2.same s).append hd;refine⟨h4.len,fun i a d q1 q2=> ?_⟩;have hm:=afo q1;have gh:a≠D:=by
   rcases afL.mp hm with z|z
   .exact h3 a z
   .exact YZ a z
  show L2.aE _ D _ a=_;rw[ao gh];exact h4.cG i a d q1 q2
 .rcases afL.mp q with z|z
  .exact h3 a z
  .exact YZ a z
inductive j7(C:afb)(cs:af8->af8->List Nat->List agX)(vs:List V)(H:Hp)(Q:VK)(E:XK):Prop|m:∀(b1 b2 l:afb) (d1 d2:BA) (B1 B2:af8) (FZ:List afb) (N:Nat),vs=[.ref b1,.ref b2,.ref l]->NL H l (bg B1 B2)->aV C H b1 d1 B1 FZ N->aV C H b2 d2 B2 FZ N->N<10000->(∀e∈B2.senses,e.text.length<=10000000)->(∀(H':Hp) (D:afb),H D=none->Qa H' D (cs B1 B2 (bg B1 B2))->ax H H'->Q (.ref D) H')->j7 C cs vs H Q E
abbrev Yr:afP:=dC 71
theorem PL:au ["first","second","left","found","entry"] ["first","second","left"] (ai Yr):=cF
theorem yt(a b:af8)(ls:List Nat)(i:Nat):(((b.entries.take i).flatMap fun y=>uT a b ls (kept (entryAt a y.name).senses y.senses) y.name 0 y.senses)).length<=(afD b).length:=by
 have h:∀m:List afm,(m.flatMap fun y=>uT a b ls (kept (entryAt a y.name).senses y.senses) y.name 0 y.senses).length<=(m.flatMap fun y=>y.senses).length:=by
  intro m
  induction m with
  |nil=>exact afn _
  |cons y m ih=>
   rw[agg,agg,afa,afa];have:=B4 a b ls (kept (entryAt a y.name).senses y.senses) y.name y.senses 0;omega
 exact afu (h _) (lX (fun x:afm=>x.senses) b.entries i)
theorem SI{fi:afb}{fdi:afC}(F:b9 K "senses_placed" "senses_placed" Yr f fd)(T:mC K mg C)(cI:jw P w K mg base 3 "senses_placed_in" ["entry","first","second","left"] (Jf C) fi fdi):
  aT P w K mg base bX 4 f fd ["first","second","left"] (j7 C fun a b ls=>b.entries.flatMap fun y=>uT a b ls (kept (entryAt a y.name).senses y.senses) y.name 0 y.senses):=by
 refine cz F PL fun _ _ _ _ H _ Q E hr h=> ?_
 obtain⟨b1,b2,l,d1,d2,B1,B2,FZ,N,rfl,hl,hA,hB,hN,sf,k⟩:=h;refine⟨_,ae (cY 3 PL.nd (cp ab))
  (ae (cM af1 rfl (bO (az (pv 1))) (hJ 4 PL.nd)
   (af (aI (cy afq af0 af7 dJ (pv 3) (aa (bh cI.ok hr rfl cI.mg cI.kp cI.bi .nil bw (aa (pv 4) (aa (pv 0) (aa (pv 1) (aa (pv 2) ab))))) ab)))))
  (af (aq (pv 3)))),?_⟩
 refine⟨afF _,fun D hD=> ?_⟩;have g0:=fP.start hD;refine⟨_,rfl,b2,C,d2.dx,_,_,rfl,g0.same _ _ hB.bq.ins,T.cl,T.nO,bP,d2.o,rfl,⟨_,aJ.of (g0.same _ _ hB.bq.ord)⟩,cV (K:=K) (a:=d2.o) (xs:=(names B2).map vn)
  (fun i σ H'=>∃(v4:Option V),σ=[some (.ref b1),some (.ref b2),some (.ref l),some (.ref D),v4]/\fP H D H' ((B2.entries.take i).flatMap fun y=>uT B1 B2 (bg B1 B2) (kept (entryAt B1 y.name).senses y.senses) y.name 0 y.senses))
  ⟨none,rfl,g0⟩ (fun i σ H' _ ⟨_,_,g⟩=>aJ.of (g.same _ _ hB.bq.ord)) ?_ ?_⟩
 .rintro i z σ H' hi ⟨v4,rfl,g⟩;obtain⟨e,he,rfl⟩:=eg hi;obtain⟨x,hx,rfl⟩:=entry_at he;have px:x∈B2.entries:=afo hx;obtain⟨QU,DL,_⟩:=g.len;refine⟨_,rfl,.inl ⟨rfl,_,aJ.of DL⟩,_,rfl,_,rfl,_,rfl,_,rfl,x,b1,b2,l,d1,d2,bg B1 B2,B1,B2,FZ,N,rfl,px,g.same _ _ hl,hA.same g.same,hB.same g.same,hN,sf,fun H5 l5 wx RP s5=> ?_⟩;obtain⟨bs,DN,RV⟩:=RP;obtain⟨as,ha,bY⟩:=(g.keep s5).len;have hsz:=yt B1 B2 (bg B1 B2) (i+1);rw[iX (fun y:afm=>uT B1 B2 (bg B1 B2) (kept (entryAt B1 y.name).senses y.senses) y.name 0 y.senses) hx,afa]at hsz;have Zj:=hB.ls;refine⟨D,l5,_,_,rfl,rfl,ha,DN,?_,_,rfl,?_⟩
  .rw[ae9,ae9,bY,RV.len];exact agC (b8 (by omega))
  .rw[iX (fun y:afm=>uT B1 B2 (bg B1 B2) (kept (entryAt B1 y.name).senses y.senses) y.name 0 y.senses) hx];exact g.ext hD s5 as bs ha DN RV
 .rintro σ H' ⟨v4,rfl,g⟩;have:B2.entries.take ((names B2).map vn).length=B2.entries:=agu (by simp[names]);rw[this]at g;exact⟨_,rfl,k H' D hD g.NC g.same⟩
def kL(a b:af8)(ls:List Nat)(l:List Nat):List agX:=(l.filter fun n=>ls.contains n&&((afr a n).text !=(afr b n).text)).map fun n=> .say n (afr b n).text
def qj(a b:af8)(ls:List Nat)(l:List Nat):List agX:=(l.filter fun n=>(afr b n).points !=(if ls.contains n=true then(afr a n).points else 0)).map fun n=> .point n (afr b n).points
theorem rI(a b:af8)(ls l:List Nat)(i:Nat):(kL a b ls (l.take i)).length<=i:=by
 unfold kL;rw[ae9];refine afu (af6 _ _) ?_;rw[afW];omega
theorem pF(a b:af8)(ls l:List Nat)(i:Nat):(qj a b ls (l.take i)).length<=i:=by
 unfold qj;rw[ae9];refine afu (af6 _ _) ?_;rw[afW];omega
theorem x3(a b:af8)(ls:List Nat)(h:l[i]? =some n):kL a b ls (l.take (i+1))=kL a b ls (l.take i)++if(ls.contains n&&((afr a n).text !=(afr b n).text))=true then [.say n (afr b n).text]else []:=by
 unfold kL;rw[aS h,agj,afB,afS];split<;>rfl
theorem zX(a b:af8)(ls:List Nat)(h:l[i]? =some n):qj a b ls (l.take (i+1))=qj a b ls (l.take i)++if((afr b n).points !=(if ls.contains n=true then(afr a n).points else 0))=true then [.point n (afr b n).points]else []:=by
 unfold qj;rw[aS h,agj,afB,afS];by_cases q:((afr b n).points !=(if ls.contains n=true then(afr a n).points else 0))=true
 .rw[afh q,afh q];rfl
 .rw[afc q,afc q];rfl
abbrev Yt:afP:=dC 72
theorem PM:au ["first","second","left","found","sense"] ["first","second","left"] (ai Yt):=cF
theorem SK{fs:afb}(F:b9 K "senses_said" "senses_said" Yt f fd)(T:mC K mg C)(X:Mp mg)(mS:zG P w K mg base 1 C "senses" ["self"] (jO C) fs gg)(cC:jw P w K mg base 1 "change" ["kind","numbers","row"] iA fc fO):
  aT P w K mg base bX 2 f fd ["first","second","left"] (j7 C fun a b ls=>kL a b ls (afD b)):=by
 refine cz F PM fun _ _ _ _ H _ Q E hr h=> ?_
 obtain⟨b1,b2,l,d1,d2,B1,B2,FZ,N,rfl,hl,hA,hB,hN,sf,k⟩:=h;obtain⟨t7,k7⟩:=X.k7;refine⟨_,ae (cY 3 PM.nd (cp ab))
  (ae (cM af1 rfl (bO (lq (pv 1) T.cl mS.me mS.ok hr mS.bi .nil bw)) (hJ 4 PM.nd)
   (af (aZ (nj (aX jI (pv 4) (pv 2) (by with_unfolding_all rfl)) (j6 (aX (Ig hr.units) (bC (bZ hr) (az (pv 0)) (pv 4)) (bC (bZ hr) (az (pv 1)) (pv 4)) (bc _)))).pt
    (af (aI (cy afq agc agh de (pv 3) (aa (bh cC.ok hr rfl cC.mg cC.kp cC.bi .nil bw (aa (cu (v:= .int 7) rfl k7 ⟨_,rfl⟩) (aa (cp (aa (pv 4) ab)) (aa (bC (bZ hr) (az (pv 1)) (pv 4)) ab)))) ab))))
    aC)))
  (af (aq (pv 3)))),?_⟩
 refine⟨afF _,fun D hD=> ?_⟩;have g0:=fP.start hD;have Ry:=hB.same g0.same;refine⟨_,rfl,b2,d2.dx,_,rfl,Ry.bq.ins,bF (by decide+kernel),b2,d2,B2,FZ,N,rfl,Ry,by omega,fun H1 sl qI GK s1=> ?_⟩;refine⟨sl,rfl,⟨_,aJ.of GK⟩,cV (K:=K) (a:=sl) (xs:=(afD B2).map vn)
  (fun i σ H'=>∃(v4:Option V),σ=[some (.ref b1),some (.ref b2),some (.ref l),some (.ref D),v4]/\NL H' sl (afD B2)/\fP H D H' (kL B1 B2 (bg B1 B2) ((afD B2).take i)))
  ⟨none,rfl,GK,g0.keep s1⟩ (fun i σ H' _ ⟨_,_,h,_⟩=>aJ.of h) ?_ ?_⟩
 .rintro i z σ H' hi ⟨v4,rfl,um,g⟩;obtain⟨n,hn,rfl⟩:=eg hi;have uk:n∈afD B2:=afo hn;have qF:n∈aD B2:=(hB.wf.same n).mp uk;have gV:i<(afD B2).length:=(afd.mp hn).1;have Zj:=hB.ls;obtain⟨OF,qS⟩:=jn hB.wf qF;obtain⟨Sd,Kw⟩:=hB.text _ OF;have iF:=sf _ OF;rw[qS]at Sd Kw;have Kv:sl≠D:=fun q=>by
   have:=g0.len;obtain⟨as,ha,_⟩:=this;rw[q]at qI;rw[ha]at qI;cases qI
  have succ:=x3 B1 B2 (bg B1 B2) hn;refine⟨_,rfl,_,rfl,l,_,rfl,.inl (aJ.of (g.same _ _ hl)),rfl,g9 _,_,rfl,?_⟩;show if Fq (vn n) ((bg B1 B2).map vn)=true then _ else _
  rw[kQ];refine aW (fun q=> ?_) (fun q=> ?_)
  .have eX:n∈bg B1 B2:=aff q;have Ug:n∈aD B1:=eC.mp ((kZ hA.wf hB.wf).mp eX).1;obtain⟨WM,WN⟩:=jn hA.wf Ug;obtain⟨WO,Se⟩:=hA.text _ WM;rw[WN]at WO Se;refine⟨_,rfl,b1,C,d1.dx,_,_,rfl,g.same _ _ hA.bq.ins,T.cl,T.nT,gi,_,rfl,d1.t,.ref (d1.ta n),rfl,by
    have:=ei.k (k:=afx (n:Int)) (g.same _ _ hA.bq.ht);rw[hA.dt.get Ug]at this;exact this,_,rfl,b2,C,d2.dx,_,_,rfl,g.same _ _ hB.bq.ins,T.cl,T.nT,gi,_,rfl,d2.t,.ref (d2.ta n),rfl,by
    have:=ei.k (k:=afx (n:Int)) (g.same _ _ hB.bq.ht);rw[hB.dt.get qF]at this;exact this,.list (pd (afr B1 n).text),.list (pd (afr B2 n).text),.ba (aJ.of (g.same _ _ Se)) (AH _),.ba (aJ.of (g.same _ _ Kw)) (AH _),vo _,vo _,_,rfl,?_⟩
   rw[amN,Ih];obtain⟨QU,DL,_⟩:=g.len;have r9:(bg B1 B2).contains n=true:=by simpa using eX
   rw[r9,ajz]at succ;refine aW (fun q2=> ?_) (fun q2=> ?_)
   .have gh:¬(afr B1 n).text=(afr B2 n).text:=by simpa using q2
    rw[afh (by simpa using gh)]at succ;refine⟨_,rfl,.inl ⟨rfl,_,aJ.of DL⟩,_,rfl,by show 1<=sizeLine;decide,fun a1 h1=> ?_⟩;have s3:ax H' (aE H' a1 (.ba [vn n])):=ax.new h1;have mx:=g.same.trans s3;refine⟨_,rfl,b2,C,d2.dx,_,_,rfl,mx _ _ hB.bq.ins,T.cl,T.nT,gi,_,rfl,d2.t,.ref (d2.ta n),rfl,by
     have:=ei.k (k:=afx (n:Int)) (mx _ _ hB.bq.ht);rw[hB.dt.get qF]at this;exact this,7,a1,d2.ta n,[(n:Int)],jQ (afr B2 n).text,rfl,aj,NL.il (mx _ _ Kw),by show 1<=3;decide,by rw[ae9];exact iF,fun H5 l5 wx ub s5=> ?_⟩
    rw[Jn]at ub;have mm:=s3.trans s5;obtain⟨as,ha,bY⟩:=(g.keep mm).len;have z9:=rI B1 B2 (bg B1 B2) (afD B2) i;refine⟨D,_,_,rfl,rfl,ha,by rw[ae9,bY];exact b8 (by omega),_,rfl,?_,?_⟩
    .show L2.aE _ D _ sl=_;rw[ao Kv];exact mm _ _ um
    .rw[succ];exact g.gZ hD mm (s3.free wx) ub as ha
   .have Aa:(afr B1 n).text=(afr B2 n).text:=by simpa using q2
    rw[afc (by simpa using Aa),af5]at succ;refine⟨_,rfl,um,?_⟩;rw[succ];exact g
  .have eX:¬n∈bg B1 B2:=fun z=>q (afj z)
   have r9:(bg B1 B2).contains n=false:=by simpa using eX
   rw[r9,ai3,afc afN,af5]at succ;refine aW (fun q=>nomatch q) fun _=>⟨_,rfl,um,?_⟩
   rw[succ];exact g
 .rintro σ H' ⟨v4,rfl,um,g⟩;rw[ae9,afR]at g;exact⟨_,rfl,k H' D hD g.NC g.same⟩
abbrev Ys:afP:=dC 73
theorem LW:au ["first","second","left","found","sense","target_by_now"] ["first","second","left"] (ai Ys):=cF
theorem SJ{fs:afb}(F:b9 K "senses_pointed" "senses_pointed" Ys f fd)(T:mC K mg C)(X:Mp mg)(mS:zG P w K mg base 1 C "senses" ["self"] (jO C) fs gg)(cC:jw P w K mg base 1 "change" ["kind","numbers","row"] iA fc fO):
  aT P w K mg base bX 2 f fd ["first","second","left"] (j7 C fun a b ls=>qj a b ls (afD b)):=by
 refine cz F LW fun _ _ _ _ H _ Q E hr h=> ?_
 obtain⟨b1,b2,l,d1,d2,B1,B2,FZ,N,rfl,hl,hA,hB,hN,sf,k⟩:=h;obtain⟨t8,k8⟩:=X.k8;refine⟨_,ae (cY 3 LW.nd (cp ab))
  (ae (cM af1 rfl (bO (lq (pv 1) T.cl mS.me mS.ok hr mS.bi .nil bw)) (hJ 4 LW.nd)
   (ae (cY 5 LW.nd (Ij (aX jI (pv 4) (pv 2) (by with_unfolding_all rfl)) (bC (bZ hr) (az (pv 0)) (pv 4)) ag))
   (af (aZ (aX yW (bC (bZ hr) (az (pv 1)) (pv 4)) (pv 5) (bc _))
    (af (aI (cy afq agc agh de (pv 3) (aa (bh cC.ok hr rfl cC.mg cC.kp cC.bi .nil bw (aa (cu (v:= .int 8) rfl k8 ⟨_,rfl⟩) (aa (cp (aa (pv 4) (aa (bC (bZ hr) (az (pv 1)) (pv 4)) ab))) (aa (cp ab) ab)))) ab))))
    aC))))
  (af (aq (pv 3)))),?_⟩
 refine⟨afF _,fun D hD=> ?_⟩;have g0:=fP.start hD;have Ry:=hB.same g0.same;refine⟨_,rfl,b2,d2.dx,_,rfl,Ry.bq.ins,bF (by decide+kernel),b2,d2,B2,FZ,N,rfl,Ry,by omega,fun H1 sl qI GK s1=> ?_⟩;refine⟨sl,rfl,⟨_,aJ.of GK⟩,cV (K:=K) (a:=sl) (xs:=(afD B2).map vn)
  (fun i σ H'=>∃(v4 v5:Option V),σ=[some (.ref b1),some (.ref b2),some (.ref l),some (.ref D),v4,v5]/\NL H' sl (afD B2)/\fP H D H' (qj B1 B2 (bg B1 B2) ((afD B2).take i)))
  ⟨none,none,rfl,GK,g0.keep s1⟩ (fun i σ H' _ ⟨_,_,_,h,_⟩=>aJ.of h) ?_ ?_⟩
 .rintro i z σ H' hi ⟨v4,v5,rfl,um,g⟩;obtain⟨n,hn,rfl⟩:=eg hi;have uk:n∈afD B2:=afo hn;have qF:n∈aD B2:=(hB.wf.same n).mp uk;have gV:i<(afD B2).length:=(afd.mp hn).1;have Zj:=hB.ls;have Kv:sl≠D:=fun q=>by
   obtain⟨as,ha,_⟩:=g0.len;rw[q]at qI;rw[ha]at qI;cases qI
  have succ:=zX B1 B2 (bg B1 B2) hn;have gB:=fun(H2:Hp) (s2:ax H H2)=>by
   have:=ei.k (k:=afx (n:Int)) (s2 _ _ hB.bq.hg);rw[hB.dg.get qF]at this;exact this
  refine⟨_,rfl,_,rfl,l,_,rfl,.inl (aJ.of (g.same _ _ hl)),rfl,g9 _,_,rfl,?_⟩;show if Fq (vn n) ((bg B1 B2).map vn)=true then _ else _
  rw[kQ];refine aW (fun q=> ?_) (fun q=> ?_)
  .have eX:n∈bg B1 B2:=aff q;have Ug:n∈aD B1:=eC.mp ((kZ hA.wf hB.wf).mp eX).1;have gA:=ei.k (k:=afx (n:Int)) (g.same _ _ hA.bq.hg);rw[hA.dg.get Ug]at gA;have r9:(bg B1 B2).contains n=true:=by simpa using eX
   rw[afh r9]at succ;refine⟨_,rfl,b1,C,d1.dx,_,_,rfl,g.same _ _ hA.bq.ins,T.cl,T.nG,dN,_,rfl,d1.g,_,rfl,gA,?_⟩;have Rp:=gB H' g.same;obtain⟨QU,DL,_⟩:=g.len;refine⟨_,rfl,b2,C,d2.dx,_,_,rfl,g.same _ _ hB.bq.ins,T.cl,T.nG,dN,_,rfl,d2.g,_,rfl,Rp,_,rfl,rfl,_,rfl,?_⟩;refine aW (fun q2=> ?_) (fun q2=> ?_)
   .have gh:¬(afr B2 n).points=(afr B1 n).points:=fun z=>by
     rw[z]at q2;simp at q2
    rw[afh (by simpa using gh)]at succ;refine⟨_,rfl,.inl ⟨rfl,_,aJ.of DL⟩,_,rfl,_,rfl,b2,C,d2.dx,_,_,rfl,g.same _ _ hB.bq.ins,T.cl,T.nG,dN,_,rfl,d2.g,_,rfl,Rp,by show 2<=sizeLine;decide,fun a1 h1=>⟨afF _,fun a2 h2=> ?_⟩⟩;have s3:ax H' (aE H' a1 (.ba [vn n,vn (afr B2 n).points])):=ax.new h1;have s4:=s3.trans (ax.new (o:= .ba []) h2);refine⟨8,a1,a2,[(n:Int),((afr B2 n).points:Int)],[],rfl,by show L2.aE _ a2 _ a1=_;rw[ao (ak aj h2)];exact aj,aj,by show 2<=3;decide,afF _,fun H5 l5 wx ub s5=> ?_⟩;have mm:=s4.trans s5;obtain⟨as,ha,bY⟩:=(g.keep mm).len;have hc:IL H5 l5 (agq (.point n (afr B2 n).points)):=ub;have z9:=pF B1 B2 (bg B1 B2) (afD B2) i;refine⟨D,_,_,rfl,rfl,ha,by rw[ae9,bY];exact b8 (by omega),_,_,rfl,?_,?_⟩
    .show L2.aE _ D _ sl=_;rw[ao Kv];exact mm _ _ um
    .rw[succ];exact g.gZ hD mm (s4.free wx) hc as ha
   .have Aa:(afr B2 n).points=(afr B1 n).points:=agy fun z=>q2 (by
     apply amf _|>.mpr
     exact agb fun w=>z (anq (V.int.inj w)))
    rw[afc (by simpa using Aa),af5]at succ;refine⟨_,_,rfl,um,?_⟩;rw[succ];exact g
  .have eX:¬n∈bg B1 B2:=fun z=>q (afj z)
   have r9:¬(bg B1 B2).contains n=true:=by simpa using eX
   rw[afc r9]at succ;have Rp:=gB H' g.same;obtain⟨QU,DL,_⟩:=g.len;refine⟨_,rfl,b2,C,d2.dx,_,_,rfl,g.same _ _ hB.bq.ins,T.cl,T.nG,dN,_,rfl,d2.g,_,rfl,Rp,_,rfl,rfl,_,rfl,?_⟩;refine aW (fun q2=> ?_) (fun q2=> ?_)
   .have gh:¬(afr B2 n).points=0:=fun z=>by
     rw[z]at q2;simp at q2
    rw[afh (by simpa using gh)]at succ;refine⟨_,rfl,.inl ⟨rfl,_,aJ.of DL⟩,_,rfl,_,rfl,b2,C,d2.dx,_,_,rfl,g.same _ _ hB.bq.ins,T.cl,T.nG,dN,_,rfl,d2.g,_,rfl,Rp,by show 2<=sizeLine;decide,fun a1 h1=>⟨afF _,fun a2 h2=> ?_⟩⟩;have s3:ax H' (aE H' a1 (.ba [vn n,vn (afr B2 n).points])):=ax.new h1;have s4:=s3.trans (ax.new (o:= .ba []) h2);refine⟨8,a1,a2,[(n:Int),((afr B2 n).points:Int)],[],rfl,by show L2.aE _ a2 _ a1=_;rw[ao (ak aj h2)];exact aj,aj,by show 2<=3;decide,afF _,fun H5 l5 wx ub s5=> ?_⟩;have mm:=s4.trans s5;obtain⟨as,ha,bY⟩:=(g.keep mm).len;have hc:IL H5 l5 (agq (.point n (afr B2 n).points)):=ub;have z9:=pF B1 B2 (bg B1 B2) (afD B2) i;refine⟨D,_,_,rfl,rfl,ha,by rw[ae9,bY];exact b8 (by omega),_,_,rfl,?_,?_⟩
    .show L2.aE _ D _ sl=_;rw[ao Kv];exact mm _ _ um
    .rw[succ];exact g.gZ hD mm (s4.free wx) hc as ha
   .have Aa:(afr B2 n).points=0:=agy fun z=>q2 (by
     apply amf _|>.mpr
     exact agb fun w=>z (anq (V.int.inj w)))
    rw[afc (by simpa using Aa),af5]at succ;refine⟨_,_,rfl,um,?_⟩;rw[succ];exact g
 .rintro σ H' ⟨v4,v5,rfl,um,g⟩;rw[ae9,afR]at g;exact⟨_,rfl,k H' D hD g.NC g.same⟩
theorem fP.of{cs:List agX}(s:ax H H1)(h:Qa H1 D cs):fP H D H1 cs:=by
 obtain⟨as,ha,hc⟩:=h;refine⟨s,as,ha,hc,fun b hm z=> ?_⟩;obtain⟨i,hi⟩:=aga hm;have gV:i<cs.length:=by rw[<-hc.len];exact(afd.mp hi).1
 have h4:H1 b=some (.ba ((agq cs[i]).map V.int)):=hc.cG i b cs[i] hi (afi gV);rw[z,ha]at h4;injection h4 with h4
 injection h4 with h4
 exact zu _ _ h4.symm
abbrev Yp:afP:=dC 74
theorem Px:au ["first","second","left","found"] ["first","second"] (ai Yp):=cF
theorem SE{f1 f2 f3 f4 f5 f6 f7:afb}{e1 e2 e3 e4 e5 e6 e7:afC}(F:b9 K "changes_between" "changes_between" Yp f fd)
  (c1:jw P w K mg base 2 "senses_left" ["first","second"] (AY C) f1 e1)
  (c2:jw P w K mg base 2 "entries_dropped" ["first","second"] (tL C fun a b=>(a.entries.filter fun x=> !hasEntry b x.name).map fun x=>ahu x.name) f2 e2)
  (c3:jw P w K mg base 3 "entries_placed" ["first","second"] (tL C fun a b=>BZ a b (kept (ags a) (ags b)) 0 b.entries) f3 e3)
  (c4:jw P w K mg base 2 "senses_dropped" ["left","second"] (PR C) f4 e4)
  (c5:jw P w K mg base 4 "senses_placed" ["first","second","left"] (j7 C fun a b ls=>b.entries.flatMap fun y=>uT a b ls (kept (entryAt a y.name).senses y.senses) y.name 0 y.senses) f5 e5)
  (c6:jw P w K mg base 2 "senses_said" ["first","second","left"] (j7 C fun a b ls=>kL a b ls (afD b)) f6 e6)
  (c7:jw P w K mg base 2 "senses_pointed" ["first","second","left"] (j7 C fun a b ls=>qj a b ls (afD b)) f7 e7):
  aT P w K mg base bX 5 f fd ["first","second"] (tL C changes):=by
 refine cz F Px fun _ _ _ _ H _ Q E hr h=> ?_
 obtain⟨b1,b2,d1,d2,B1,B2,FZ,N,rfl,hA,hB,hN,DS,sf,k⟩:=h;have hr3:fF 3 _:=hr.fJ (by decide);have Kt:fF 2 _:=hr.fJ (by decide);refine⟨_,ae (cY 2 Px.nd (bh c1.ok Kt rfl c1.mg c1.kp c1.bi .nil bw (aa (pv 0) (aa (pv 1) ab))))
  (ae (cY 3 Px.nd (bh c2.ok Kt rfl c2.mg c2.kp c2.bi .nil bw (aa (pv 0) (aa (pv 1) ab))))
  (ae (aI (cy afq af0 af7 dJ (pv 3) (aa (bh c3.ok hr3 rfl c3.mg c3.kp c3.bi .nil bw (aa (pv 0) (aa (pv 1) ab))) ab)))
  (ae (aI (cy afq af0 af7 dJ (pv 3) (aa (bh c4.ok Kt rfl c4.mg c4.kp c4.bi .nil bw (aa (pv 2) (aa (pv 1) ab))) ab)))
  (ae (aI (cy afq af0 af7 dJ (pv 3) (aa (bh c5.ok hr rfl c5.mg c5.kp c5.bi .nil bw (aa (pv 0) (aa (pv 1) (aa (pv 2) ab)))) ab)))
  (ae (aI (cy afq af0 af7 dJ (pv 3) (aa (bh c6.ok Kt rfl c6.mg c6.kp c6.bi .nil bw (aa (pv 0) (aa (pv 1) (aa (pv 2) ab)))) ab)))
  (ae (aI (cy afq af0 af7 dJ (pv 3) (aa (bh c7.ok Kt rfl c7.mg c7.kp c7.bi .nil bw (aa (pv 0) (aa (pv 1) (aa (pv 2) ab)))) ab)))
  (af (aq (pv 3))))))))),?_⟩
 have YU:(afD B1).length<=N:=hA.ls;have YV:(afD B2).length<=N:=hB.ls;have hEA:B1.entries.length<=N:=by have:=hA.le;rwa [names,ae9]at this
 have hEB:B2.entries.length<=N:=by have:=hB.le;rwa [names,ae9]at this
 have M7:=G8 B1 B2 hA.wf;have l1:((B1.entries.filter fun x=> !hasEntry B2 x.name).map fun x=>ahu x.name).length<=N:=by
  rw[ae9];exact afu (af6 _ _) hEA
 have l2:=B0 B1 B2 (kept (ags B1) (ags B2)) B2.entries 0;have l3:(((bg B1 B2).filter fun n=> !hasSense B2 n).map ajv).length<=N:=by
  rw[ae9];exact afu (af6 _ _) (by omega)
 have l4:=yt B1 B2 (bg B1 B2) B2.entries.length;rw[afR]at l4;have l5:=rI B1 B2 (bg B1 B2) (afD B2) (afD B2).length;rw[afR]at l5;have l6:=pF B1 B2 (bg B1 B2) (afD B2) (afD B2).length;rw[afR]at l6;refine⟨_,rfl,_,rfl,b1,b2,d1,d2,B1,B2,FZ,N,rfl,hA,hB,hN,fun H1 l hl Na s1=> ?_⟩;refine⟨_,rfl,_,rfl,b1,b2,d1,d2,B1,B2,FZ,N,rfl,hA.same s1,hB.same s1,hN,DS,sf,fun H2 D hD Qr s2=> ?_⟩;have g2:fP H1 D H2 _:=fP.of s2 Qr;obtain⟨as3,ha3,hz3⟩:=g2.len;refine⟨_,rfl,.inl ⟨rfl,_,aJ.of ha3⟩,_,rfl,_,rfl,b1,b2,d1,d2,B1,B2,FZ,N,rfl,(hA.same s1).same g2.same,(hB.same s1).same g2.same,hN,DS,sf,fun J3 m3 _ RO t3=> ?_⟩;obtain⟨bs3,RJ,Y2⟩:=RO;obtain⟨cs3,Za,hy3⟩:=(g2.keep t3).len;refine⟨D,m3,_,_,rfl,rfl,Za,RJ,(by
  rw[ae9,ae9,hy3,Y2.len];exact agC (b8 (by first|omega|(simp only[afa];omega)))),?_⟩
 have g3:=g2.ext hD t3 cs3 bs3 Za RJ Y2;obtain⟨as4,ha4,hz4⟩:=g3.len;refine⟨_,rfl,.inl ⟨rfl,_,aJ.of ha4⟩,_,rfl,_,rfl,l,b2,d2,bg B1 B2,B2,FZ,N,rfl,g3.same _ _ Na,by omega,(hB.same s1).same g3.same,hN,fun J4 m4 _ Kk t4=> ?_⟩;obtain⟨bs4,MZ,Y3⟩:=Kk;obtain⟨cs4,Zb,hy4⟩:=(g3.keep t4).len;refine⟨D,m4,_,_,rfl,rfl,Zb,MZ,(by
  rw[ae9,ae9,hy4,Y3.len];exact agC (b8 (by first|omega|(simp only[afa];omega)))),?_⟩
 have g4:=g3.ext hD t4 cs4 bs4 Zb MZ Y3;obtain⟨as5,ha5,hz5⟩:=g4.len;refine⟨_,rfl,.inl ⟨rfl,_,aJ.of ha5⟩,_,rfl,_,rfl,_,rfl,b1,b2,l,d1,d2,B1,B2,FZ,N,rfl,g4.same _ _ Na,(hA.same s1).same g4.same,(hB.same s1).same g4.same,hN,sf,fun J5 m5 _ RP t5=> ?_⟩;obtain⟨bs5,DN,RV⟩:=RP;obtain⟨cs5,Zc,hy5⟩:=(g4.keep t5).len;refine⟨D,m5,_,_,rfl,rfl,Zc,DN,(by
  rw[ae9,ae9,hy5,RV.len];exact agC (b8 (by first|omega|(simp only[afa];omega)))),?_⟩
 have g5:=g4.ext hD t5 cs5 bs5 Zc DN RV;obtain⟨as6,ha6,hz6⟩:=g5.len;refine⟨_,rfl,.inl ⟨rfl,_,aJ.of ha6⟩,_,rfl,_,rfl,_,rfl,b1,b2,l,d1,d2,B1,B2,FZ,N,rfl,g5.same _ _ Na,(hA.same s1).same g5.same,(hB.same s1).same g5.same,hN,sf,fun J6 m6 _ RQ t6=> ?_⟩;obtain⟨bs6,YX,Y4⟩:=RQ;obtain⟨cs6,Zd,hy6⟩:=(g5.keep t6).len;refine⟨D,m6,_,_,rfl,rfl,Zd,YX,(by
  rw[ae9,ae9,hy6,Y4.len];exact agC (b8 (by first|omega|(simp only[afa];omega)))),?_⟩
 have g6:=g5.ext hD t6 cs6 bs6 Zd YX Y4;obtain⟨as7,ha7,hz7⟩:=g6.len;refine⟨_,rfl,.inl ⟨rfl,_,aJ.of ha7⟩,_,rfl,_,rfl,_,rfl,b1,b2,l,d1,d2,B1,B2,FZ,N,rfl,g6.same _ _ Na,(hA.same s1).same g6.same,(hB.same s1).same g6.same,hN,sf,fun J7 m7 _ hc7 t7=> ?_⟩;obtain⟨bs7,YY,Y5⟩:=hc7;obtain⟨cs7,Ze,hy7⟩:=(g6.keep t7).len;refine⟨D,m7,_,_,rfl,rfl,Ze,YY,(by
  rw[ae9,ae9,hy7,Y5.len];exact agC (b8 (by first|omega|(simp only[afa];omega)))),?_⟩
 have g7:=g6.ext hD t7 cs7 bs7 Ze YY Y5;refine⟨_,rfl,k _ D (s1.free hD) ?_ (s1.trans g7.same)⟩;rw[Oa hA.wf hB.wf];exact g7.NC
structure rC(K:afU)(R:afb)(rs:List afb):Prop where
 cG:ko K R (rs.map V.ref)
 len:rs.length=25
 of:∀(p:Nat) (r:afb),rs[p]? =some r->∃qs:List afb,ko K r (qs.map V.ref)/\qs.length=(rg p).length/\∀(j:Nat) (q:afb) (x:Nat×Nat),qs[j]? =some q->(rg p)[j]? =some x->ko K q [vn x.1,vn x.2]
structure i0(H:Hp)(c:afb)(p:Nat)(ns r:List Int):Prop where
 lt:p<25
 len:ns.length=(rg p).length
 no:fG p=false->r=[]
 cG:IL H c ((p:Int)::(ns++df p r))
 Gy:ns.length+r.length<=20000
theorem i0.same(h:i0 H c p ns r)(s:ax H H'):i0 H' c p ns r:=⟨h.lt,h.len,h.no,s _ _ h.cG,h.Gy⟩
theorem i0.Vz(h:i0 H c p ns r):iq ((p:Int)::(ns++df p r)) (some ((1:Nat):Int)) (some (((1+(rg p).length:Nat)):Int))=ns:=by
 rw[mJ,aiC,alH,aiI,ahV,<-h.len,aim];rfl
theorem i0.VA(h:i0 H c p ns r):iq ((p:Int)::(ns++df p r)) (some (((2+(rg p).length:Nat)):Int)) none=r:=by
 rw[rJ,show 2+(rg p).length=ns.length+1+1 by rw[h.len];omega,aiI,akJ,agr (by omega),agT,ag6];unfold df;cases q:fG p with
 |true=>rw[afh rfl];rfl
 |false=>rw[afc (by decide),h.no q];rfl
theorem rC.get(h:rC K R rs)(hp:p<25):∃(r:afb) (qs:List afb),rs[p]? =some r/\ko K r (qs.map V.ref)/\qs.length=(rg p).length/\∀(j:Nat) (q:afb) (x:Nat×Nat),qs[j]? =some q->(rg p)[j]? =some x->ko K q [vn x.1,vn x.2]:=by
 have e:=afi (l:=rs) (i:=p) (by rw[h.len];exact hp);obtain⟨qs,h1,h2,h3⟩:=h.of p _ e;exact⟨_,qs,e,h1,h2,h3⟩
theorem QV{r:afb}(e:rs[i]? =some r)(hz:z=(i:Int):=by rfl):pB (rs.map V.ref) z=some (V.ref r):=gE hz (by rw[afw,e];rfl)
inductive o7(vs:List V)(H:Hp)(Q:VK)(E:XK):Prop|m:∀(c:afb) (p:Nat) (ns r:List Int),vs=[.ref c]->i0 H c p ns r->(∀(H':Hp) (l:afb),H l=none->ax H H'->IL H' l ns->Q (.ref l) H')->o7 vs H Q E
inductive rp(vs:List V)(H:Hp)(Q:VK)(E:XK):Prop|m:∀(c:afb) (p:Nat) (ns r:List Int),vs=[.ref c]->i0 H c p ns r->(∀(H':Hp) (l:afb),H l=none->ax H H'->IL H' l r->Q (.ref l) H')->rp vs H Q E
inductive nv(t:Nat->List Int->List Int->Bool)(vs:List V)(H:Hp)(Q:VK)(E:XK):Prop|m:∀(c:afb) (p:Nat) (ns r:List Int),vs=[.ref c]->i0 H c p ns r->(∀H',ax H H'->Q (.bl (t p ns r)) H')->nv t vs H Q E
inductive pT(K:afU)(vs:List V)(H:Hp)(Q:VK)(E:XK):Prop|m:∀(c:afb) (l:List Int) (st p:Nat) (ns r t:List Int),vs=[.ref c,vn st]->aJ K H c (l.map V.int)->jT (l.drop st) p ns r t->Q (vn (st+(1+ns.length+(df p r).length))) H->pT K vs H Q E
abbrev Bx:afP:=dC 32
theorem IS:au ["row"] ["row"] (ai Bx):=cF
theorem Es(F:b9 K "is_word" "is_word" Bx f fd)(c:Ca P w K mg base 1 "is_row" ["row","shortest","longest","least","greatest"] (o6 K)):aT P w K mg base bX 2 f fd ["row"] (JJ K fun r=>dG r 1 12 97 122):=by
 refine cz F IS fun _ _ _ _ H _ Q E hr h=> ?_
 obtain⟨a,r,rfl,hl,hz,k⟩:=h;exact⟨_,af (aq (cn c hr rfl (aa (pv 0) (aa ag (aa ag (aa ag (aa ag ab))))))),_,rfl,a,r,1,12,97,122,rfl,hl,hz,k⟩
abbrev Bw:afP:=dC 33
theorem IQ:au ["row"] ["row"] (ai Bw):=cF
theorem Er(F:b9 K "is_text" "is_text" Bw f fd)(c:Ca P w K mg base 1 "is_row" ["row","shortest","longest","least","greatest"] (o6 K)):aT P w K mg base bX 2 f fd ["row"] (JJ K fun r=>dG r 0 30 32 126):=by
 refine cz F IQ fun _ _ _ _ H _ Q E hr h=> ?_
 obtain⟨a,r,rfl,hl,hz,k⟩:=h;exact⟨_,af (aq (cn c hr rfl (aa (pv 0) (aa ag (aa ag (aa ag (aa ag ab))))))),_,rfl,a,r,0,30,32,126,rfl,hl,hz,k⟩
abbrev yd:afP:=dC 34
theorem EV:au ["row"] ["row"] (ai yd):=cF
theorem Av(F:b9 K "is_print" "is_print" yd f fd)(c:Ca P w K mg base 1 "is_row" ["row","shortest","longest","least","greatest"] (o6 K)):aT P w K mg base bX 2 f fd ["row"] (JJ K fun r=>dG r 0 3000 0 255):=by
 refine cz F EV fun _ _ _ _ H _ Q E hr h=> ?_
 obtain⟨a,r,rfl,hl,hz,k⟩:=h;exact⟨_,af (aq (cn c hr rfl (aa (pv 0) (aa ag (aa ag (aa ag (aa ag ab))))))),_,rfl,a,r,0,3000,0,255,rfl,hl,hz,k⟩
abbrev F5:afP:=dC 35
theorem LK:au ["row"] ["row"] (ai F5):=cF
theorem HJ(F:b9 K "may_be_changes" "may_be_changes" F5 f fd)(G:lN mg):aT P w K mg base bX 2 f fd ["row"] (JJ K fun r=>decide (r.length<=3000)):=by
 refine cz F LK fun _ _ _ _ H _ Q E hr h=> ?_
 obtain⟨a,r,rfl,hl,hz,k⟩:=h;refine⟨_,af (aq (fM gT (aN ay rfl G.len ago (aa (pv 0) ab)) ag (bc _))),_,rfl,a,_,rfl,.inl hl,_,_,rfl,rfl,qb Q ?_ (k H (ax.refl H))⟩;rw[ae9];exact agz.mpr ⟨fun q=>by omega,fun q=>by omega⟩
abbrev Bz:afP:=dC 38
theorem IV:au ["call"] ["call"] (ai Bz):=cF
theorem Eu(F:b9 K "numbers_of" "numbers_of" Bz f fd)(G:lN mg)(mR:mg "RANGES"=some (.ref R))(hR:rC K R rs):aT P w K mg base bX 1 f fd ["call"] o7:=by
 refine cz F IV fun _ _ _ _ H _ Q E hr h=> ?_
 obtain⟨c,p,ns,r,rfl,hc,k⟩:=h;refine⟨_,af (aq (dq mn (pv 0) (cv ag) (cv (bx eh ag (aN ay rfl G.len ago (aa (aG eJ (cu (v:= .ref R) rfl mR rfl) (aG aA (pv 0) ag)) ab)))))),?_⟩;obtain⟨r0,qs,h1,h2,h3,_⟩:=hR.get hc.lt;refine⟨_,rfl,_,rfl,_,rfl,c,_,_,.int (p:Int),rfl,rfl,aJ.of hc.cG,gE (j:=0) rfl rfl,R,_,_,.ref r0,rfl,rfl,.inr hR.cG,QV h1,r0,_,rfl,.inr (.inr h2),_,_,rfl,rfl,_,rfl,c,_,rfl,aJ.of hc.cG,fun H' l nl s1 h=>k H' l nl s1 ?_⟩;rw[ae9,h3]at h;have e:=hc.Vz;rw[show(((1+(rg p).length:Nat)):Int)=1+((rg p).length:Nat) by omega]at e;rw[show iq ((p:Int)::(ns++df p r)) (some 1) (some (1+((rg p).length:Nat)))=ns from e]at h;exact h
abbrev Gg:afP:=dC 39
theorem LU:au ["call"] ["call"] (ai Gg):=cF
theorem HV(F:b9 K "row_of" "row_of" Gg f fd)(G:lN mg)(mR:mg "RANGES"=some (.ref R))(hR:rC K R rs):aT P w K mg base bX 1 f fd ["call"] rp:=by
 refine cz F LU fun _ _ _ _ H _ Q E hr h=> ?_
 obtain⟨c,p,ns,r,rfl,hc,k⟩:=h;refine⟨_,af (aq (dq mn (pv 0) (cv (bx eh ag (aN ay rfl G.len ago (aa (aG eJ (cu (v:= .ref R) rfl mR rfl) (aG aA (pv 0) ag)) ab)))) hX)),?_⟩;obtain⟨r0,qs,h1,h2,h3,_⟩:=hR.get hc.lt;refine⟨_,rfl,_,rfl,c,_,_,.int (p:Int),rfl,rfl,aJ.of hc.cG,gE (j:=0) rfl rfl,R,_,_,.ref r0,rfl,rfl,.inr hR.cG,QV h1,r0,_,rfl,.inr (.inr h2),_,_,rfl,rfl,_,rfl,c,_,rfl,aJ.of hc.cG,fun H' l nl s1 h=>k H' l nl s1 ?_⟩;rw[ae9,h3]at h;have e:=hc.VA;rw[show(((2+(rg p).length:Nat)):Int)=2+((rg p).length:Nat) by omega]at e;rw[show iq ((p:Int)::(ns++df p r)) (some (2+((rg p).length:Nat))) none=r from e]at h;exact h
theorem dU{p:Prop} [Decidable p](c:(!decide p)=true):¬p:=fun z=>by rw[afj z]at c;cases c
theorem cX{p:Prop} [Decidable p](c:¬(!decide p)=true):p:=by
 by_cases z:p
 .exact z
 .exact absurd (by rw[agb z];rfl) c
abbrev FT:afP:=dC 15
theorem CW:au ["house","numbers","word","behind"] ["house","numbers","word"] (ai FT):=cF
theorem Hv(F:b9 K "entry" "entry" FT f fd)(L:jr P w K mg base CB CH):aT P w K mg base bX 4 f fd ["house","numbers","word"] (gQ CB CH 0):=by
 refine cz F CW fun _ _ _ _ H _ Q E hr h=> ?_
 obtain⟨h,nl,rl,D,S,FZ,x,rfl,hc,ok,W,fn,fr,hn,gJ,_,_,k⟩:=h;obtain⟨a,wd,rfl⟩:=fm hc;refine⟨_,ae (cY 3 CW.nd (aG aA (pv 1) ag))
  (ae (aZ (bu (bf (cn L.place hr rfl (aa (az (az (pv 0))) (aa (pv 3) ab))))) (af (aq (fN (aa (gY rfl L.v.Uw) ab)))) aC)
  (ae (aZ (bf (jK (pv 0) L.h.cl L.Ss hr)) (af (aq (fN (aa (gY rfl L.v.full) ab)))) aC)
  (ae (vt (pv 0) ag GQ)
  (ae (aI (bR (az (pv 0)) L.b.cl L.Np hr (aa (az (pv 0)) (aa (pv 3) (aa (pv 2) ab)))))
  (af (aq (fN (aa ag (aa (bR (pv 0) L.h.cl L.sD hr (aa ag (aa (pv 1) (aa (pv 2) ab)))) (aa (az (pv 0)) ab)))))))))),?_⟩
 have nw:=W.w.now;have hz:=W.st.len;refine⟨_,rfl,nV (i:=0) hn rfl ?_⟩;refine⟨_,rfl,h,CH,D.dx,_,_,rfl,W.w.ins,L.h.cl,L.h.nN,dP,D.nw,CB,D.dn.dx,_,_,rfl,nw.bq.ins,L.b.cl,L.b.nO,bP,_,rfl,D.dn.o,a,_,rfl,aJ.of nw.bq.ord,_,rfl,aW (fun c=> ?_) (fun c=> ?_)⟩
 .have c':¬(a=0\/a∈names (agA S.log)):=dU c;exact⟨jv,fun H1 l n1 s1 h1=>aO W k (cw ((tZ S a wd).trans (afh c'))) n1 s1 h1⟩
 have c':a=0\/a∈names (agA S.log):=cX c;refine⟨_,rfl,h,D.dx,_,rfl,W.w.ins,cj (e9 _ (by simp)),h,D,_,_,_,_,_,_,FZ,_,rfl,W.w,_,rfl,aW (fun c2=> ?_) (fun c2=> ?_)⟩
 .have d':=aff c2;exact⟨jv,fun H1 l n1 s1 h1=>aO W k (cw ((tZ S a wd).trans ((afc (fun z=>z c')).trans (afh d')))) n1 s1 h1⟩
 have d':¬(20<=(agB S.log).2.1\/200<=S.log.length):=fun z=>c2 (afj z)
 have hw:ai0 S (.entry a wd)=none:=(tZ S a wd).trans ((afc (fun z=>z c')).trans (afc d'));refine⟨_,rfl,h,CH,D.dx,_,_,rfl,W.w.ins,L.h.cl,L.h.nM,yC,_,_,rfl,rfl,D.dx,_,W.w.ins,by show 6<1000;decide,?_⟩;have W1:=W.w.count ((agB S.log).2.1+1) (agB S.log).2.2;have k1:Kp (je h D S) H (aE H h (.ins CH D.dx (Af D.nw D.lg D.ed D.ln ((agB S.log).2.1+1) (agB S.log).2.2))):=Kp.gZ (afY _ (by simp));have Ce:NL _ rl wd:=gD (k1 _ _ gJ (W.T4 rl fr));have Na:=k1 _ _ hn (W.T4 nl fn);refine⟨_,rfl,h,CH,D.dx,_,_,rfl,W1.ins,L.h.cl,L.h.nN,dP,D.nw,D.dn.dx,_,rfl,W1.now.bq.ins,bF (by decide+kernel),_,rfl,h,CH,D.dx,_,_,rfl,W1.ins,L.h.cl,L.h.nM,yC,_,rfl,_,rfl,D.nw,D.dn,_,FZ,_,(agB S.log).2.1+1,a,rl,wd,rfl,W1.now,by omega,fun z=> ?_,ah8 _,fun z=>c'.resolve_left z,fr,Ce,fun H2 d2 lY fA jX=> ?_⟩
 .have:=(Nv S.log).1 _ z;omega
 have W2:=W1.act lY fA jX (ahx _);have rY:∀c∈FZ,c∉bS D.nw D.dn (agA S.log):=fun c hc z=>W.w.now.bq.fz c z hc
 refine⟨_,rfl,h,D.dx,_,rfl,W2.ins,cj (e9 _ (by simp)),_,rfl,_,rfl,h,nl,rl,_,_,_,_,_,_,_,FZ,_,_,.entry a wd,rfl,W2,afn _,fn,fr,fA _ _ Na (rY nl fn),fA _ _ Ce (rY rl fr),hz,fun H3 t nt W3 k3=> ?_⟩;refine⟨_,rfl,h,CH,D.dx,_,_,rfl,W3.ins,L.h.cl,L.h.nM,yC,QF,fun H4 l n4 s4 h4=> ?_⟩;refine gK W hw ok (by omega) (fun _ _ _ z=>nomatch z) k (k1.trans (fA.fJ fun c hc=>afI _ hc)) (fun c hc=>(jX c hc).imp id fun z=>eV z) k3 nt n4 s4 W3 h4
structure zR(P:afz)(w:af3)(K:afU)(mg:Str->Option afe)(base:age)(a:afb)(aQ:List (br×V)):Prop where
 kd:KD P w K a aQ
 no:∀p:Nat,p<25->fG p=false->ee aQ (afx (p:Int))=none
 P9:∀p:Nat,p<25->fG p=true->∃(f:afb) (fd:afC),ee aQ (afx (p:Int))=some (.ref f)/\keepIn K (.ref f)=true/\aT P w K mg base bX 2 f fd ["row"] (JJ K (lE p))/\eY K fd ["row"] []
abbrev ye:afP:=dC 40
theorem pQ:au ["call","number","bounds"] ["call"] (ai ye):=cF
theorem Aw(F:b9 K "numbers_are_told" "numbers_are_told" ye f fd)(G:lN mg)(mR:mg "RANGES"=some (.ref R))(hR:rC K R rs)(cN:Ca P w K mg base 1 "numbers_of" ["call"] o7):aT P w K mg base bX 2 f fd ["call"] (nv fun p ns _=>iG p ns):=by
 refine cz F pQ fun _ _ _ _ H _ Q E hr h=> ?_
 obtain⟨c,p,ns,r,rfl,hc,k⟩:=h;refine⟨_,ae (cM af1 rfl (Io rfl G.zip (aa (cn cN hr rfl (aa (pv 0) ab)) (aa (aG eJ (cu (v:= .ref R) rfl mR rfl) (aG aA (pv 0) ag)) ab))) (i8 rfl (bH (hJ 1 pQ.nd) (bH (hJ 2 pQ.nd) gN)))
   (af (aZ (bu (lD gT gT (aG eJ (pv 2) ag) (pv 1) (aG eJ (pv 2) ag))) (af (aq dy)) aC)))
  (af (aq dy)),?_⟩
 obtain⟨r0,qs,h1,h2,h3,h4⟩:=hR.get hc.lt;have hql:qs.length=ns.length:=by rw[h3,hc.len]
 refine⟨_,rfl,c,p,ns,r,rfl,hc,fun H1 nl OZ s1 Ko=> ?_⟩;refine⟨_,rfl,c,_,_,.int (p:Int),rfl,rfl,aJ.of (s1 _ _ hc.cG),gE (j:=0) rfl rfl,R,_,_,.ref r0,rfl,rfl,.inr hR.cG,QV h1,nl,r0,_,_,rfl,aJ.of Ko,.inr h2,yr (n:=ns.length)
  (fun i σ H'=>∃(v1 v2:Option V),σ=[some (.ref c),v1,v2]/\ax H1 H'/\((ns.zip (rg p)).take i).all p8=true)
  ⟨none,none,rfl,ax.refl _,rfl⟩ ?_ ?_ ?_ ?_⟩
 .rintro i σ H' hi ⟨v1,v2,rfl,s2,_⟩ q hq;have:q=(false,nl)\/q=(true,r0):=by simpa using hq
  rcases this with e|e
  .subst e;exact⟨_,_,.inr ⟨rfl,aJ.of (s2 _ _ Ko)⟩,afi (by rw[ae9];exact hi)⟩
  .subst e;exact⟨_,_,.inl ⟨rfl,.inr h2⟩,afi (by rw[ae9,hql];exact hi)⟩
 .rintro σ H' ⟨v1,v2,rfl,s2,_⟩;refine⟨fun q hq=> ?_,(false,nl),by simp,_,.inr ⟨rfl,aJ.of (s2 _ _ Ko)⟩,by rw[ae9];exact afn _⟩;have:q=(false,nl)\/q=(true,r0):=by simpa using hq
  rcases this with e|e
  .subst e;exact⟨_,.inr ⟨rfl,aJ.of (s2 _ _ Ko)⟩⟩
  .subst e;exact⟨_,.inl ⟨rfl,.inr h2⟩⟩
 .rintro i σ H' x H5 hi ⟨v1,v2,rfl,s2,gI⟩ ⟨T,vs,rfl,hT,rfl,Kx,hv⟩;have gn:ns[i]? =some ns[i]:=afi hi;generalize ns[i]=z at gn;have Zp:i<qs.length:=by omega
  have gq:qs[i]? =some qs[i]:=afi Zp;generalize qs[i]=qa at gq;have hgi:i<(rg p).length:=by rw[<-h3];exact Zp
  have gr:(rg p)[i]? =some (rg p)[i]:=afi hgi;generalize (rg p)[i]=y at gr;have kq:=h4 i qa y gq gr;have gz:(ns.zip (rg p))[i]? =some (z,y):=by rw[akh];exact⟨gn,gr⟩
  obtain⟨x0,Rv,Oq⟩:=hv 0 (false,nl) rfl _ (.inr ⟨rfl,aJ.of (s2 _ _ Ko)⟩);obtain⟨x1,Rw,Ot⟩:=hv 1 (true,r0) rfl _ (.inl ⟨rfl,.inr h2⟩);have e0:x0= .int z:=by rw[afw,gn]at Rv;exact(aft Rv).symm
  have e1:x1= .ref qa:=by rw[afw,gq]at Rw;exact(aft Rw).symm
  subst e0;subst e1;have ev:vs=[.int z,.ref qa]:=by
   match vs,Kx,Oq,Ot with
   | [a,b],_,Oq,Ot=>
    have q1:a= .int z:=aft Oq;have q2:b= .ref qa:=aft Ot;rw[q1,q2]
  subst ev;have s3:=s2.trans (ax.new (o:= .dY [.int z,.ref qa]) hT);have fin:∀{H'},ax H H'->p8 (z,y)=false->Q (.bl false) H':=fun s' q=>by
   have e:iG p ns=false:=by
    unfold iG;rw[List.all_eq_false];exact⟨(z,y),afo gz,by rw[q];decide⟩
   have:=k _ s';try dsimp only at this
   rw[e]at this;exact this
  refine⟨T,_,rfl,gF.of aj,rfl,_,_,rfl,_,_,rfl,rfl,?_⟩;refine⟨_,rfl,qa,_,_,_,rfl,rfl,.inr kq,(show pB [vn y.1,vn y.2] (0:Int)=some (vn y.1)from rfl),_,rfl,_,_,rfl,rfl,_,rfl,aW (fun c1=> ?_) (fun c1=> ?_)⟩
  .refine⟨_,rfl,qa,_,_,_,rfl,rfl,.inr kq,(show pB [vn y.1,vn y.2] (1:Int)=some (vn y.2)from rfl),_,_,rfl,rfl,_,rfl,aW (fun c2=> ?_) (fun c2=> ?_)⟩
   .refine fin (s1.trans s3) (agb fun q=>dU c2 q.2)
   .refine⟨_,_,rfl,s3,?_⟩;rw[aS gz,List.all_append,gI,ajz];show(p8 (z,y)&&true)=true;rw[Bool.and_true];exact afj ⟨aff c1,cX c2⟩
  .exact⟨_,rfl,fin (s1.trans s3) (agb fun q=>c1 (afj q.1))⟩
 .rintro σ H' ⟨v1,v2,rfl,s2,gI⟩;have:=k _ (s1.trans s2);have e:iG p ns=true:=by
   unfold iG;rw[<-gI,agu];rw[ak5];exact amC _ _
  try dsimp only at this
  rw[e]at this;exact this
abbrev yg:afP:=dC 41
theorem EW:au ["call"] ["call"] (ai yg):=cF
theorem IC(h:fG p=false):lE p r=true:=by
 have h':((((¬p=0/\¬p=1)/\¬p=2)/\¬p=8)/\¬p=13)/\¬p=20:=by simpa [fG]using h
 have:p≠0/\p≠1/\p≠2/\p≠8/\p≠13/\p≠20:=by omega
 unfold lE;rw[afc this.1,afc (by omega),afc (by omega),afc (by omega)]
theorem Ay(F:b9 K "row_is_told" "row_is_told" yg f fd)(mR:mg "ROWS"=some (.ref R))(hR:zR P w K mg base R aQ)(cR:Ca P w K mg base 1 "row_of" ["call"] rp):aT P w K mg base bX 3 f fd ["call"] (nv fun p _ r=>lE p r):=by
 refine cz F EW fun _ _ _ _ H _ Q E hr h=> ?_
 obtain⟨c,p,ns,r,rfl,hc,k⟩:=h;refine⟨_,ae (aZ (AL (EK (aG aA (pv 0) ag) (cu (v:= .ref R) rfl mR rfl))) (af (aq dy)) aC)
  (af (aq (oH (w6 (cu (v:= .ref R) rfl mR rfl) (aG aA (pv 0) ag) (fun _ _=>rfl)) (aa (cn cR hr rfl (aa (pv 0) ab)) ab)))),?_⟩
 refine⟨_,rfl,c,_,_,.int (p:Int),rfl,rfl,aJ.of hc.cG,gE (j:=0) rfl rfl,R,aQ,afx (p:Int),rfl,hR.kd,rfl,_,rfl,?_⟩;cases q:fG p with
 |false=>
  rw[hR.no p hc.lt q];have:=k H (ax.refl H);try dsimp only at this
  rw[IC q]at this;exact this
 |true=>
  obtain⟨fa,MT,e1,e2,e3,e4⟩:=hR.P9 p hc.lt q;rw[e1];refine⟨_,rfl,c,_,_,.int (p:Int),rfl,rfl,aJ.of hc.cG,gE (j:=0) rfl rfl,R,aQ,afx (p:Int),.ref fa,rfl,hR.kd,rfl,e1,fa,MT,["row"],_,2,rfl,e2,e3,hr,e4,?_⟩;refine⟨_,rfl,c,p,ns,r,rfl,hc,fun H1 l nl s1 hl=>⟨l,r,rfl,aJ.of hl,by have:=hc.Gy;omega,fun H2 s2=>k H2 (s1.trans s2)⟩⟩
abbrev Bl:afP:=dC 42
theorem IG:au ["call"] ["call"] (ai Bl):=cF
theorem Ef(F:b9 K "is_as_told" "is_as_told" Bl f fd)(cN:Ca P w K mg base 2 "numbers_are_told" ["call"] (nv fun p ns _=>iG p ns))(cR:Ca P w K mg base 3 "row_is_told" ["call"] (nv fun p _ r=>lE p r)):aT P w K mg base bX 4 f fd ["call"] (nv fun p ns r=>iG p ns&&lE p r):=by
 refine cz F IG fun _ _ _ _ H _ Q E hr h=> ?_
 obtain⟨c,p,ns,r,rfl,hc,k⟩:=h;refine⟨_,af (aq (wZ (cn cN hr rfl (aa (pv 0) ab)) (lu (cn cR hr rfl (aa (pv 0) ab))))),?_⟩;refine⟨_,rfl,c,p,ns,r,rfl,hc,fun H1 s1=>⟨_,rfl,aW (fun e=> ?_) (fun e=> ?_)⟩⟩
 .refine⟨_,rfl,c,p,ns,r,rfl,hc.same s1,fun H2 s2=> ?_⟩;have:=k H2 (s1.trans s2);try dsimp only at this e
  rw[e,ajz]at this;exact this
 .have:=k H1 s1;try dsimp only at this e
  rw[(Bool.not_eq_true _).mp e,ai3]at this;exact this
abbrev ya:afP:=dC 37
theorem md:au ["calls","start","call","end"] ["calls","start"] (ai ya):=cF
theorem Ar{R2:afb}(F:b9 K "call_end" "call_end" ya f fd)(G:lN mg)(mR:mg "RANGES"=some (.ref R))(hR:rC K R rs)(mR2:mg "ROWS"=some (.ref R2))(V6:zR P w K mg base R2 aQ):aT P w K mg base bX 1 f fd ["calls","start"] (pT K):=by
 refine cz F md fun _ _ _ _ H _ Q E hr h=> ?_
 obtain⟨c,l,st,p,ns,r,t,rfl,hl,oc,k⟩:=h;refine⟨_,ae (cY 2 md.nd (aG aA (pv 0) (pv 1)))
  (ae (cY 3 md.nd (bx eh (bx eh (pv 1) ag) (aN ay rfl G.len ago (aa (aG eJ (cu (v:= .ref R) rfl mR rfl) (pv 2)) ab))))
  (ae (aZ (AL (Pf (pv 2) (cu (v:= .ref R2) rfl mR2 rfl))) (af (lC (i:=3) md.nd rfl (akb rfl) (bx eh ag (aG aA (pv 0) (pv 3))) mZ)) aC)
  (af (aq (pv 3))))),?_⟩
 obtain⟨r0,qs,h1,h2,h3,_⟩:=hR.get oc.lt;have e0:l[st]? =some (p:Int):=by
  have:=congrArg (fun z=>z[0]?) oc.eq;simp only[ahX,Nat.add_zero]at this;exact this
 refine⟨_,rfl,_,rfl,c,_,_,.int (p:Int),rfl,rfl,hl,gE (j:=st) rfl (by rw[afw,e0];rfl),?_⟩;refine⟨_,rfl,_,_,rfl,rfl,_,rfl,R,_,_,.ref r0,rfl,rfl,.inr hR.cG,QV h1,r0,_,rfl,.inr (.inr h2),_,_,rfl,rfl,?_⟩;rw[ae9,h3,<-oc.len];refine⟨_,rfl,R2,aQ,afx (p:Int),rfl,V6.kd,rfl,_,rfl,?_⟩;cases q:fG p with
 |false=>
  rw[V6.no p oc.lt q];refine⟨_,rfl,?_⟩;have e:(df p r).length=0:=by unfold df;rw[q];rfl
  rw[e]at k;have e2:((st:Int)+1+(ns.length:Int))=((st+(1+ns.length+0):Nat):Int):=by omega
  show Q (.int ((st:Int)+1+(ns.length:Int))) H;rw[e2];exact k
 |true=>
  obtain⟨fa,MT,e1,_⟩:=V6.P9 p oc.lt q;rw[e1];have et:df p r=(r.length:Int)::r:=by unfold df;rw[q];rfl
  have e3:l[st+1+ns.length]? =some (r.length:Int):=by
   have:=congrArg (fun z=>z[1+ns.length]?) oc.eq;simp only[ahX]at this;rw[<-Nat.add_assoc]at this;rw[this,aiC 1,List.getElem?_cons_succ,et,afQ,agt (afn _),akX];rfl
  refine⟨_,rfl,_,rfl,_,rfl,c,_,_,.int (r.length:Int),rfl,rfl,hl,gE (j:=st+1+ns.length) (by show(st:Int)+1+(ns.length:Int)=_;omega) (by rw[afw,e3];rfl),_,_,rfl,rfl,_,_,rfl,rfl,_,rfl,?_⟩;rw[et,afp]at k;have e2:((st:Int)+1+(ns.length:Int)+(1+(r.length:Int)))=((st+(1+ns.length+(r.length+1)):Nat):Int):=by omega
  show Q (.int ((st:Int)+1+(ns.length:Int)+(1+(r.length:Int)))) H;rw[e2];exact k
theorem sj:∀l:List Int,aiu (l.map ag7)=true
 | []=>rfl
 |x::l=>by
  show(true&&aiu (l.map ag7))=true;rw[sj l];rfl
theorem rO:∀l:List Int,ah2 (l.map ag7)<=1
 | []=>afF _
 |x::l=>by
  show max (anD (.int x)) (ah2 (l.map ag7))<=1;exact Nat.max_le.mpr ⟨afF _,rO l⟩
theorem mf(l:List Int):ahL (.list (l.map ag7))=true:=by
 unfold ahL;rw[afy];refine⟨sj l,afj ?_⟩;show ah2 (l.map ag7)+1<=64;have:=rO l;omega
theorem vB(l:List Int):ahL (.tuple (l.map ag7))=true:=by
 unfold ahL;rw[afy];refine⟨sj l,afj ?_⟩;show ah2 (l.map ag7)+1<=64;have:=rO l;omega
theorem ou:∀l m:List Int,ahw (l.map ag7) (m.map ag7)=decide (l=m)
 | [],[]=>rfl
 | [],_::_=>rfl
 |_::_,[]=>rfl
 |x::l,y::m=>by
  show(x==y&&ahw (l.map ag7) (m.map ag7))=_;rw[ou l m];by_cases h:x=y
  .subst h;rw[aht,ajz];exact agz.mpr ⟨fun q=>by rw[q],fun q=>(aiN q).2⟩
  .rw[agS.mpr h,ai3];exact(agb fun q=>h (aiN q).1).symm
theorem gu{K:afU}{H:Hp}:∀l:List Int,qc K H (l.map V.int) (l.map ag7)
 | []=> .nil
 |x::l=> .cons (.int x) (gu l)
inductive SV(K:afU)(x:V)(y:V)(H:Hp)(Q:VK):Prop|m:∀(a b:afb) (l m:List Int),x= .ref a->y= .ref b->aJ K H a (l.map V.int)->aJ K H b (m.map V.int)->Q (.bl (decide (l=m))) H->SV K x y H Q
inductive SX(K:afU)(x:V)(y:V)(H:Hp)(Q:VK):Prop|m:∀(a b:afb) (l m:List Int),x= .ref a->y= .ref b->aJ K H a (l.map V.int)->aJ K H b (m.map V.int)->Q (.bl (!decide (l=m))) H->SX K x y H Q
inductive Pk(K:afU)(x:V)(y:V)(H:Hp)(Q:VK):Prop|m:∀(a b:afb) (l m:List Int),x= .ref a->y= .ref b->gF K H a (l.map V.int)->gF K H b (m.map V.int)->Q (.bl (decide (l=m))) H->Pk K x y H Q
theorem Ie(hu:X.A.units+64<cLine):nY X (compareOp .Eq) (SV X.K):=by
 intro pins s σ H x y u v Q I rx ry ⟨a,b,l,m,e1,e2,h1,h2,q⟩;subst e1;subst e2;refine Ic hu pins s σ H _ _ u v Q I rx ry ⟨.list (l.map .int),.list (m.map .int),.ba h1 (gu l),.ba h2 (gu m),mf l,mf m,?_⟩;show Q (.bl (ahw _ _)) H;rw[ou];exact q
theorem AB(hu:X.A.units+64<cLine):nY X (compareOp .NotEq) (SX X.K):=by
 intro pins s σ H x y u v Q I rx ry ⟨a,b,l,m,e1,e2,h1,h2,q⟩;subst e1;subst e2;refine Ig hu pins s σ H _ _ u v Q I rx ry ⟨.list (l.map .int),.list (m.map .int),.ba h1 (gu l),.ba h2 (gu m),mf l,mf m,?_⟩;show Q (.bl (!PyData.eqvAll _ _)) H;rw[ou];exact q
theorem Pe(hu:X.A.units+64<cLine):nY X (compareOp .Eq) (Pk X.K):=by
 intro pins s σ H x y u v Q I rx ry ⟨a,b,l,m,e1,e2,h1,h2,q⟩;subst e1;subst e2;refine Ic hu pins s σ H _ _ u v Q I rx ry ⟨.tuple (l.map .int),.tuple (m.map .int),.dY h1 (gu l),.dY h2 (gu m),vB l,vB m,?_⟩;show Q (.bl (ahw _ _)) H;rw[ou];exact q
end FE
namespace PySem
open PySem.AutoSeq1
set_option maxRecDepth 8000 in
theorem Ol(l:afb)(items:Array afe)(n:Nat)(b:afb)(sg:Array afe)(n2:Nat)(Rh:Option afb)(sl:Array (Option afe))(Zt:¬(!items.isEmpty&&ahe (items.size+sg.size))=true)(hs1:items.size<=sizeLine)(OE:items.size+sg.size<=sizeLine+1):
  Meets (aj1.«list.extend» ⟨[.ref l,.ref b],[]⟩) (fun _ R s=>s.heap.get? l=some {cls:= .type "list",dict:=none,data:= .seq items n,slots:= #[]}/\s.heap.get? b=some {cls:= .type "tuple",dict:=Rh,data:= .seq sg n2,slots:=sl}/\R (.ok (.ret ahQ)) {s with heap:=s.heap.update l (ahj fun x=>x++sg),toks:=s.toks}):=
 .of_wp fun prog w A R s h=>by
  obtain⟨hp,g,d,tk,os⟩:=s;obtain⟨hl,hb,h⟩:=h;have qo:(items++sg).size<=sizeLine+1:=by rw[Array.size_append];exact OE
  wp_walk using(ail hl rfl (hz:=hs1) (_hz':=qo)),ali' hl,ali' hb
  exact⟨_,rfl,h⟩
end PySem
namespace FE
open PySem PySem.Spec PyProof.Rows L2 FM
open PySem.W (Frag fnOf keepIn mg_of findIn nsIn emptyDict plainGet hasDictIn isFn makesIn codeIn plainOver)
open Vbdhag (Book nat numberOf entryAt allSenses Change position putBehind bookOf hasEntry changeTold two entryOf decimal kept history lengthOf empty onSense outOf hasSense putEntry inEntry entryNames Sense Call wrong dead pair senseLine changesOf stepNumbers patched bytesOf changes cutAt)
variable{N N' e em i j n p sm:Nat}{P:afz}{X:Cx}{x:afm}{te:TE}{pos:Pos}{w:af3}{K:afU}{mg:Str->Option afe}{base:age}{st:afP}{C CB CH D R a b c f fI fb fc fe fh fp h q u:afb}{fd fR fZ fO f9 fX fY gg:afC}{ps:List Str}{sp:Sp}{ks ks' l t:List Nat}{o:HO}{ns r:List Int}{m p0 p1 p2:Str}{S:afl}{H H' H1 H2:Hp}{d d':BA}{FZ cZ as rs ts:List afb}{B B':af8}{aQ:List (br×V)}{f':Nat->V}{xs:List V}{σ:L2.St}{z:Int}
inductive NG(K:afU)(x:V)(vs:List V)(H:Hp)(Q:VK):Prop|m:∀(l b:afb) (xs zs:List V),x= .ref l->vs=[.ref b]->H l=some (.ba xs)->gF K H b zs->xs.length+zs.length<=sizeLine->Q .gw (aE H l (.ba (xs++zs)))->NG K x vs H Q
theorem qX:Qc X "list.extend" (NG X.K):=by
 intro pins s σ H x vs v us Q I rx rv h;obtain⟨l,b,xs,zs,rfl,rfl,hH,hB,hz,q⟩:=h;cases rx;obtain⟨u,rfl,ru⟩:=rv.xT;cases ru;obtain⟨z,aR,n,r,hl,e⟩:=I.wH hH;obtain⟨qJ,r2,⟨o,e2,hc,n2,hd⟩,z2⟩:=I.tuple hB;have Cb:=r2.length;obtain⟨oc,od,odt,os⟩:=o;try dsimp only at hc hd
 subst hc;subst hd;have hsz:aR.toArray.size+qJ.toArray.size<=sizeLine:=by rw[afJ,afJ];omega
 have yz:¬(!aR.toArray.isEmpty&&ahe (aR.toArray.size+qJ.toArray.size))=true:=by
  rw[sC hsz,amL];exact afN
 refine aiR af0 ⟨_,e,rfl⟩ alG (alj _ _)
  (PySem.Ol l aR.toArray n b qJ.toArray n2 od os yz (by rw[afJ];omega) (by omega)) ⟨e,e2,?_⟩
 refine⟨.gw,_,I.Ha (its':=aR++qJ) hH e (by simp) (r.append r2) ?_,rfl,q⟩;rw[afa];omega
theorem iL(e:l[i]? =some n)(hz:z=(i:Int):=by rfl):pB (l.map vn) z=some (vn n):=gE hz (by rw[afw,e];rfl)
structure xV(H:Hp)(FZ:List afb)(ls:List (afb×afb×afb))(as:List agE):Prop where
 len:ls.length=as.length
 cG:∀(i:Nat) (x:afb×afb×afb) (a:agE),ls[i]? =some x->as[i]? =some a->i6 H FZ x a
theorem xV.snoc{ls:List (afb×afb×afb)}{as:List agE}{x:afb×afb×afb}{a:agE}(h:xV H FZ ls as)(hx:i6 H FZ x a):xV H FZ (ls++ [x]) (as++ [a]):=by
 refine⟨by rw[afa,afa,h.len];rfl,fun i y b h1 h2=> ?_⟩;rcases dE h1 with z1|⟨z1,z2⟩
 .rcases dE h2 with y1|⟨y1,y2⟩
  .exact h.cG i y b z1 y1
  .have:=(afd.mp z1).1;have:=h.len;omega
 .rcases dE h2 with y1|⟨y1,y2⟩
  .have:=(afd.mp y1).1;have:=h.len;omega
  .subst z2;subst y2;exact hx
theorem i6.same{x:afb×afb×afb}{a:agE}(h:i6 H FZ x a)(s:ax H H'):i6 H' FZ x a:=⟨h.f1,h.f2,h.f3,s _ _ h.tu,s _ _ h.nu,s _ _ h.ro⟩
theorem kX{α:Type}{f:α->V}{l:List α}{y:V}(h:(l.map f)[i]? =some y):∃x,l[i]? =some x/\y=f x:=by
 rw[afw]at h;cases e:l[i]? with
 |none=>rw[e]at h;cases h
 |some x=>rw[e]at h;exact⟨x,rfl,(aft h).symm⟩
theorem vi(a:agE):(eO a)[0]? =some ((eO a).headD 0):=by cases a<;>rfl
inductive xr(CB:afb)(CH:afb)(vs:List V)(H:Hp)(Q:VK)(E:XK):Prop|m:∀(h:afb) (D:HA) (S:afl) (FZ:List afb) (k:Nat),vs=[.ref h,vn k]->cb CB CH H h D S FZ->(∀(H':Hp) (l:afb) (ls:List (afb×afb×afb)),H l=none->ax H H'->H' l=some (.ba (ls.map fun x=>V.ref x.1))->xV H' FZ ls (S.log.filter (fj k))->Q (.ref l) H')->xr CB CH vs H Q E
structure nZ(C:afb)(H H':Hp)(b:afb)(d:BA)(B:af8)(FZ:List afb)(N:Nat):Prop where
 is:aV C H' b d B FZ N
 same:ax H H'
 fr:∀a∈bS b d B,H a=none
theorem nZ.act(p:nZ C H H1 b d B FZ N)(hb:aV C H2 b d' B' FZ N')(k:Kp (bS b d B) H1 H2)(g:Gr H1 (bS b d B) (bS b d' B')):nZ C H H2 b d' B' FZ N':=
 ⟨hb,fun a o e=>k a o (p.same a o e) fun z=>(by rw[p.fr a z]at e;cases e),fun a ha=>(g a ha).elim (p.fr a) p.same.free⟩
theorem nZ.more(p:nZ C H H1 b d B FZ N)(s:ax H1 H2):nZ C H H2 b d B FZ N:=⟨p.is.same s,p.same.trans s,p.fr⟩
inductive AS(CB:afb)(CH:afb)(vs:List V)(H:Hp)(Q:VK)(E:XK):Prop|m:∀(h:afb) (D:HA) (S:afl) (FZ:List afb) (k:Nat),vs=[.ref h,vn k]->cb CB CH H h D S FZ->1<=k->k<=S.editions.length->(∀(H':Hp) (b:afb) (d:BA) (N:Nat),N<100000->aV CB H' b d (akK S k) FZ N->ax H H'->Q (.ref b) H')->AS CB CH vs H Q E
abbrev Bt:afP:=bt gm 10
theorem AN:au ["self","edition","line"] ["self","edition"] (ai Bt):=cF
theorem N9:iK ["self","edition","line"] (ai Bt) (OP (cq Bt) 0) [("line",2)]:=⟨rfl,by decide+kernel,by decide+kernel,by decide+kernel,by decide+kernel⟩
theorem K0(F:b9 K "errata" "House.errata" Bt f fd)(T:zS K mg CH)(X:Jt mg):aT P w K mg base bX 1 f fd ["self","edition"] (xr CB CH):=by
 refine cz F AN fun _ _ _ _ H _ Q E hr h=> ?_
 obtain⟨h,D,S,FZ,k,rfl,W,q⟩:=h;refine⟨_,af (aq (mv (own:=[("line",2)]) rfl AN.nd (bO (az (pv 0))) N9 (fun _ _ _ _ _=>hJ 2 AN.nd)
  (fun _ _ _ _ _=>oK (PW.pt (nj (aX fU (aG (r:=ER K) eJ (pv 2) ag) (gY rfl X.Rm) (bc _)) (j6 (aX fU (aG (r:=EO K) aA (aG (r:=ER K) eJ (pv 2) ag) ag) (pv 1) (bc _)))))) (fun _ _ _ _ _=>pv 2))),?_⟩
 have hz:=W.st.len;refine⟨_,rfl,h,CH,D.dx,_,_,rfl,W.w.ins,T.cl,T.nL,i7,D.lg,rfl,⟨_,aJ.of W.w.hl⟩,fun N hN=>jZ (K:=K) (a:=D.lg) (xs:=D.la.map fun x=>V.ref x.1) (fun i H'=>ax H H'/\∃ls,H' N=some (.ba (ls.map fun x=>V.ref x.1))/\xV H' FZ ls ((S.log.take i).filter (fj k)))
  ⟨ax.new hN,[],aj,⟨rfl,fun i u n h1=>by simp at h1⟩⟩ (fun i H' _ h=>aJ.of (h.1 _ _ W.w.hl)) ?_ ?_⟩
 .rintro i y H' hi ⟨s2,ls,h2,li⟩;obtain⟨x,hx,rfl⟩:=kX hi;have gV:i<S.log.length:=by rw[<-W.w.ll];exact(afd.mp hx).1
  have ha:=afi gV;have L1:=(W.w.ki i x _ hx ha).same s2;have ht:=gF.of (K:=K) L1.tu;have done:∀{H'},ax H H'->(∃ls,H' N=some (.ba (ls.map fun x=>V.ref x.1))/\xV H' FZ ls ((S.log.take i).filter (fj k)))->¬fj k S.log[i]=true->ax H H'/\∃ls,H' N=some (.ba (ls.map fun x=>V.ref x.1))/\xV H' FZ ls ((S.log.take (i+1)).filter (fj k)):=fun s' h' n=>by
   rw[aS ha,agj,afS,afc n,ahG,af5];exact⟨s',h'⟩
  refine⟨rfl,_,rfl,x.1,_,_,_,rfl,rfl,ht,(show pB [vn (bz S.log[i]),V.ref x.2.1,V.ref x.2.2] (0:Int)=some (vn (bz S.log[i]))from rfl),rfl,_,rfl,aW (fun c=> ?_) (fun c=> ?_)⟩
  .have c8:bz S.log[i]=8:=by
    have:=aff c;injection this with this
    omega
   refine⟨_,rfl,x.1,_,_,_,rfl,rfl,ht,(show pB [vn (bz S.log[i]),V.ref x.2.1,V.ref x.2.2] (1:Int)=some (V.ref x.2.1)from rfl),x.2.1,_,_,vn ((eO S.log[i]).headD 0),rfl,rfl,aJ.of L1.nu,gE (j:=0) rfl (by rw[afw,vi];rfl),_,rfl,rfl,_,rfl,aW (fun c1=> ?_) (fun c1=> ?_)⟩
   .have ck:(eO S.log[i]).headD 0=k:=by
     have:=aff c1;injection this with this
     omega
    have e:fj k S.log[i]=true:=by unfold fj;rw[c8,ck];simp
    have hul:ls.length<=200:=by
     rw[li.len];exact afu (af6 _ _) (afu (by rw[afW];exact ajw _ _) hz)
    refine⟨_,rfl,_,h2,by rw[ae9];exact b8 (by omega),fun a o e=>by rw[ao (ak e hN)];exact s2 a o e,ls++ [x],by rw[aj,afB];rfl,?_⟩;rw[aS ha,agj,afS,afh e];have kp:Kp [N] H' (aE H' N (.ba ((ls.map fun x=>V.ref x.1)++ [V.ref x.1]))):=Kp.gZ (by simp);have nz:∀a∈FZ,a∉ [N]:=fun a ha z=>by
     obtain⟨o,ho⟩:=W.w.now.bq.fzt a ha;have:a=N:=by simpa using z
     rw[this,hN]at ho;cases ho
    exact xV.snoc ⟨li.len,fun j y b q1 q2=>(li.cG j y b q1 q2).keep kp nz⟩ (L1.keep kp nz)
   .refine done s2 ⟨ls,h2,li⟩ fun z=>c1 (afj ?_)
    have:=((afy _ _).mp z).2;rw[eq_of_beq this]
  .refine done s2 ⟨ls,h2,li⟩ fun z=>c (afj ?_)
   have:=((afy _ _).mp z).1;rw[eq_of_beq this];rfl
 .rintro H' ⟨s2,ls,h2,li⟩;rw[ae9,W.w.ll,afR]at li;exact q H' N ls hN s2 h2 li
abbrev Mw:afP:=bt gm 11
theorem sU:au ["self","edition","book","call","numbers","text"] ["self","edition"] (ai Mw):=cF
theorem KY(F:b9 K "corrected" "House.corrected" Mw f fd)(L:jr P w K mg base CB CH)(cC:Ca P w K mg base 3 "copied" ["book"] (lI CB))(mE:Ma P w K mg base 1 CH "errata" ["self","edition"] (xr CB CH)):aT P w K mg base bX 4 f fd ["self","edition"] (AS CB CH):=by
 refine cz F sU fun _ _ _ _ H _ Q E hr h=> ?_
 obtain⟨h,D,S,FZ,k,rfl,W,h1,hk,q⟩:=h;refine⟨_,ae (cY 2 sU.nd (cn cC hr rfl (aa (bR (pv 0) L.h.cl L.book hr (aa (pv 1) ab)) ab)))
  (ae (cM af1 rfl (bO (bR (pv 0) L.h.cl mE hr (aa (pv 1) ab))) (i8 rfl (bH (hJ 3 sU.nd) (bH (hJ 4 sU.nd) (bH (hJ 5 sU.nd) gN))))
   (af (aI (bR (pv 2) L.b.cl L.say hr (aa (aG aA (pv 4) ag) (aa (pv 5) ab))))))
  (af (aq (pv 2)))),?_⟩
 have hz:=W.st.len;refine⟨_,rfl,h,D.dx,_,rfl,W.w.ins,cj (e9 _ (by simp)),_,rfl,h,D,S,FZ,k,rfl,W,hk,(bQ D k).1,(bQ D k).2,_,FZ,_,rfl,W.book hk,by omega,fun H1 b d hB s1 fr=> ?_⟩;have W1:=W.same s1;refine⟨_,rfl,h,D.dx,_,rfl,W1.w.ins,cj (e9 _ (by simp)),_,rfl,h,D,S,FZ,k,rfl,W1,fun H2 l ls nl s2 hl li=> ?_⟩;have p2:nZ CB H H2 b d (agm S k) FZ S.log.length:=nZ.more ⟨hB,s1,fr⟩ s2;have e1:akK S k=(S.log.filter (fj k)).foldl (fun b x=>onSense b (e8 x).1 fun y=>{y with text:=(e8 x).2}) (agm S k):=by
  unfold akK;rw[pH,List.foldl_map]
 have zM:(S.log.filter (fj k)).length<=200:=afu (af6 _ _) hz;refine⟨l,rfl,⟨_,aJ.of hl⟩,cV (K:=K) (a:=l) (xs:=ls.map fun x=>V.ref x.1) (fun i σ H'=>∃(v3 v4 v5:Option V) (d':BA),σ=[some (.ref h),some (vn k),some (.ref b),v3,v4,v5]/\H' l=some (.ba (ls.map fun x=>V.ref x.1))/\l∉bS b d' (((S.log.filter (fj k)).take i).foldl (fun b x=>onSense b (e8 x).1 fun y=>{y with text:=(e8 x).2}) (agm S k))/\aD (((S.log.filter (fj k)).take i).foldl (fun b x=>onSense b (e8 x).1 fun y=>{y with text:=(e8 x).2}) (agm S k))=aD (agm S k)/\
   nZ CB H H' b d' (((S.log.filter (fj k)).take i).foldl (fun b x=>onSense b (e8 x).1 fun y=>{y with text:=(e8 x).2}) (agm S k)) FZ (S.log.length+i))
  ⟨none,none,none,d,rfl,hl,fun z=> ?_,rfl,p2⟩ (fun i σ H' _ ⟨_,_,_,_,_,h,_⟩=>aJ.of h) ?_ ?_⟩
 .obtain⟨o,ho⟩:=hB.gd z;rw[nl]at ho;cases ho
 .rintro i y σ H' hi ⟨v3,v4,v5,d',rfl,uj,nf,qS,pv⟩;obtain⟨x,hx,rfl⟩:=kX hi;have gV:i<(S.log.filter (fj k)).length:=by rw[<-li.len];exact(afd.mp hx).1
  have ha:=afi gV;have mq:=li.cG i x _ hx ha;have hm:(S.log.filter (fj k))[i]∈S.log/\fj k (S.log.filter (fj k))[i]=true:=afM.mp (akL gV);generalize (S.log.filter (fj k))[i]=a at ha mq hm
  match a,hm with
  | .erratum kk n t,hm=>
  have ek:kk=k:=by have:=((afy _ _).mp hm.2).2;exact eq_of_beq this
  subst ek;obtain⟨q1,q2⟩:=W.st.Rm kk n t hm.1;have t1:∀{a o},H2 a=some o->a∈FZ->H' a=some o:=fun{a o} e hf=>by
   obtain⟨o',ho⟩:=W.w.now.bq.fzt a hf;rw[s2 _ _ (s1 _ _ ho)]at e;rw[<-e];exact pv.same _ _ ho
  refine⟨x.1,_,rfl,gF.of (t1 mq.tu mq.f1),rfl,_,_,rfl,_,_,rfl,_,_,rfl,rfl,?_⟩;have B7:=pv.is;refine⟨_,rfl,b,d'.dx,_,rfl,B7.bq.ins,bF (by decide+kernel),_,rfl,x.2.1,_,_,vn n,rfl,rfl,aJ.of (t1 mq.nu mq.f2),iL (i:=1) rfl,_,rfl,b,d',_,FZ,_,n,x.2.2,t,rfl,B7,by omega,by rw[qS];exact q2,mq.f3,t1 mq.ro mq.f3,fun H3 d3 V1 Ah Rt=> ?_⟩;have e2:((S.log.filter (fj kk)).take (i+1)).foldl (fun b x=>onSense b (e8 x).1 fun y=>{y with text:=(e8 x).2}) (agm S kk)=onSense (((S.log.filter (fj kk)).take i).foldl (fun b x=>onSense b (e8 x).1 fun y=>{y with text:=(e8 x).2}) (agm S kk)) n fun y=>{y with text:=t}:=by
   rw[aS ha,akl];rfl
  rw[e2];refine⟨_,_,_,d3,rfl,Ah _ _ uj nf,fun z=>(Rt l z).elim nf fun q=>(by rw[uj]at q;cases q),?_,pv.act V1 Ah Rt⟩;rw[eR _ n (fun y=>{y with text:=t}) (fun _=>rfl)];exact qS
 .rintro σ H' ⟨v3,v4,v5,d',rfl,uj,nf,qS,pv⟩;rw[ae9,li.len,afR,<-e1]at pv;exact⟨_,rfl,q H' b d' _ (by omega) pv.is pv.same⟩
structure NW(hd:List Int):Prop where
 ex:∃k a b c n,hd=[k,a,b,c,n]/\(∀z∈ [k,a,b,c,n],0<=z/\z<=100)/\(1<=k/\k<=8)/\∀z∈([a,b,c]:List Int).drop (lp.getD k.toNat 0),z=0
inductive AV(K:afU)(vs:List V)(H:Hp)(Q:VK)(E:XK):Prop|m:∀(a:afb) (l:List Int),vs=[.ref a]->aJ K H a (l.map V.int)->l.length<=5->(∀(b:Bool) (H':Hp),(b=true↔NW l)->ax H H'->Q (.bl b) H')->AV K vs H Q E
inductive pS(K:afU)(vs:List V)(H:Hp)(Q:VK)(E:XK):Prop|m:∀(k:Int) (a:afb) (l:List Int),vs=[.int k,.ref a]->aJ K H a (l.map V.int)->l.length<=20000->(∀(b:Bool) (H':Hp),(b=true↔er k l)->ax H H'->Q (.bl b) H')->pS K vs H Q E
inductive oY(K:afU)(vs:List V)(H:Hp)(Q:VK)(E:XK):Prop|m:∀(a:afb) (l:List Int) (st:Nat) (z:Int),vs=[.ref a,vn st]->aJ K H a (l.map V.int)->l[st+4]? =some z->Q (.int ((st:Int)+5+z)) H->oY K vs H Q E
inductive AX(K:afU)(vs:List V)(H:Hp)(Q:VK)(E:XK):Prop|m:∀(a:afb) (l:List Int) (st:Nat),vs=[.ref a,vn st]->aJ K H a (l.map V.int)->l.length<=20000->(∀(b:Bool) (H':Hp),(b=true↔zP (l.drop st))->ax H H'->Q (.bl b) H')->AX K vs H Q E
abbrev lU:afP:=dC 85
theorem zd:au ["head","kind","unused","number"] ["head"] (ai lU):=cF
theorem FC:iK ["head","kind","unused","number"] (ai lU) (OP (cq lU) 0) [("number",3)]:=⟨rfl,by decide+kernel,by decide+kernel,by decide+kernel,by decide+kernel⟩
theorem Dt:iK ["head","kind","unused","number"] (ai lU) (OP (cq lU) 4) [("number",3)]:=⟨rfl,by decide+kernel,by decide+kernel,by decide+kernel,by decide+kernel⟩
theorem Ep{Nn:afb}(F:b9 K "is_head" "is_head" lU f fd)(G:lN mg)(gr:∃t,mg "GREATEST_patching"=some (.int 100 t))(mN:mg "NUMBERS"=some (.ref Nn))(hN:ko K Nn (lp.map vn)):aT P w K mg base bX 1 f fd ["head"] (AV K):=by
 refine cz F zd fun _ _ _ _ H _ Q E hr h=> ?_
 obtain⟨a,l,rfl,hl,hz,k⟩:=h;have nd:=zd.nd;refine⟨_,ae (aZ (PW.pt (jl (aX vj (aN ay rfl G.len ago (aa (pv 0) ab)) ag (bc _)) (iI (bu (bf (aN (rH rfl) rfl G.all ame (aa (mv (own:=[("number",3)]) rfl nd (bO (pv 0)) FC (fun _ _ _ _ _=>hJ 3 nd) (fun _ _ _ _ _=>j5) (fun _ _ _ _ _=>sI gT gT ag (pv 3) (gY rfl gr))) ab))))))) (af (aq dy)) aC)
  (ae (cY 1 nd (aG aA (pv 0) ag))
  (ae (aZ (bu (lD gT vj ag (pv 1) (aN ay rfl G.len ago (aa (cu (v:= .ref Nn) rfl mN rfl) ab)))) (af (aq dy)) aC)
  (ae (cY 2 nd (dq mn (pv 0) (cv (bx eh ag (aG eJ (cu (v:= .ref Nn) rfl mN rfl) (pv 1)))) (cv ag)))
  (af (aq (aN (rH rfl) rfl G.all ame (aa (mv (own:=[("number",3)]) rfl nd (bO (pv 2)) Dt (fun _ _ _ _ _=>hJ 3 nd) (fun _ _ _ _ _=>j5) (fun _ _ _ _ _=>fM fU (pv 3) ag (bc _))) ab))))))),?_⟩
 have no:∀(H':Hp),ax H H'->¬NW l->Q (.bl false) H':=fun H' s1 z=>k false _ ⟨fun q=>(by cases q),fun q=>absurd q z⟩ s1
 refine⟨_,rfl,a,_,rfl,.inl hl,_,_,rfl,rfl,_,rfl,aW (fun c=> ?_) (fun c=> ?_)⟩
 .refine no _ (ax.refl H) fun z=> ?_
  obtain⟨k0,a0,b0,c0,n0,e,_⟩:=z.ex;have:=aff c;rw[ae9,e]at this;exact absurd (show(5:Int)<5 from this) (by decide)
 have h5:l.length=5:=by
  have:¬(((l.map V.int).length:Nat):Int)<5:=fun z=>c (afj z)
  rw[ae9]at this;omega
 refine⟨_,rfl,a,rfl,⟨_,hl⟩,fun D hD=>wC (fun z=>decide (0<=z/\z<=100)) hD hl (by omega) (fun z H' R q=>⟨rfl,_,rfl,_,_,rfl,rfl,_,rfl,aW (fun d1=>⟨_,_,rfl,rfl,?_⟩) (fun d1=> ?_)⟩) (fun H1 s1 h1=>⟨D,_,rfl,aJ.of h1,_,rfl,aW (fun c2=> ?_) (fun c2=> ?_)⟩) BY⟩
 .show R (V.bl (decide (z<=100))) H';rw[show decide (z<=100)=decide (0<=z/\z<=100)from agz.mpr ⟨fun q=>⟨aff d1,q⟩,fun q=>q.2⟩];exact q
 .rw[show false=decide (0<=z/\z<=100)from(agb fun q=>d1 (afj q.1)).symm];exact q
 .refine no _ s1 fun z=> ?_
  obtain⟨k0,a0,b0,c0,n0,e,h0,_⟩:=z.ex;have:((l.map fun z=>decide (0<=z/\z<=100)).all id)=true:=by
   rw[ag3,af4];intro z hz;exact afj (h0 z (by rw[<-e];exact hz))
  rw[this]at c2;cases c2
 have gI:∀z∈l,0<=z/\z<=100:=fun z hz=>by
  have:((l.map fun z=>decide (0<=z/\z<=100)).all id)=true:=by
   cases q:((l.map fun z=>decide (0<=z/\z<=100)).all id)with
   |true=>rfl
   |false=>exact absurd (by rw[q];rfl) c2
  rw[ag3,af4]at this;exact aff (this z hz)
 have ql:=s1.seq hl
 match l,h5,gI,ql,hl,no,k with
 | [k0,a0,b0,c0,n0],_,gI,ql,hl,no,k=>
 refine⟨_,rfl,a,_,_,.int k0,rfl,rfl,ql,gE (j:=0) rfl rfl,?_⟩;refine⟨_,rfl,_,_,rfl,rfl,_,rfl,aW (fun d1=>⟨Nn,_,rfl,.inr (.inr hN),_,_,rfl,rfl,_,rfl,aW (fun d2=> ?_) (fun d2=> ?_)⟩) (fun d1=>⟨_,rfl,?_⟩)⟩
 .refine no _ s1 fun z=>dU d2 ?_
  obtain⟨_,_,_,_,_,e,_,h0,_⟩:=z.ex;have ek:=(aiN e).1;show k0<9;rw[ek];omega
 .have hk:1<=k0/\k0<=8:=⟨aff d1,by have:k0<9:=cX d2;omega⟩;have r8:lp[k0.toNat]? =some (lp.getD k0.toNat 0):=by
   have:k0.toNat<9:=by omega
   rw[ahS,afi (show k0.toNat<lp.length from this)];rfl
  refine⟨_,rfl,_,rfl,Nn,_,_,vn (lp.getD k0.toNat 0),rfl,rfl,.inr hN,iL (i:=k0.toNat) r8 (by omega),_,_,rfl,rfl,_,rfl,_,rfl,a,_,rfl,ql,fun H2 u nu s2 hu=> ?_⟩;have VH:iq [k0,a0,b0,c0,n0] (some (1+((lp.getD k0.toNat 0:Nat):Int))) (some 4)=([a0,b0,c0]:List Int).drop (lp.getD k0.toNat 0):=by
   have:=mJ [k0,a0,b0,c0,n0] (1+lp.getD k0.toNat 0) 4;rw[show(((1+lp.getD k0.toNat 0:Nat)):Int)=1+((lp.getD k0.toNat 0:Nat):Int) by omega]at this;refine this.trans ?_;show([k0,a0,b0,c0]:List Int).drop (1+lp.getD k0.toNat 0)=_;rw[aiC,aiI]
  have Nd:IL H2 u (([a0,b0,c0]:List Int).drop (lp.getD k0.toNat 0)):=by rw[<-VH];exact hu
  refine⟨_,rfl,u,rfl,⟨_,aJ.of Nd⟩,fun D2 hD2=>wC (fun z=>decide (z=0)) hD2 (aJ.of Nd) (by rw[agp];show 3-_<=_;omega) (fun z H' R q=>⟨rfl,_,rfl,rfl,?_⟩) (fun H3 s3 h3=>⟨D2,_,rfl,aJ.of h3,k _ H3 ⟨fun q=> ?_,fun q=> ?_⟩ (s1.trans (s2.trans s3))⟩) BY⟩
  .show R (V.bl (decide (V.int z=V.int 0))) H';rw[show decide (V.int z=V.int 0)=decide (z=0)from agz.mpr ⟨fun q=>by injection q,fun q=>by rw[q]⟩];exact q
  .rw[ag3,af4]at q;exact⟨k0,a0,b0,c0,n0,rfl,gI,hk,fun z hz=>aff (q z hz)⟩
  .rw[ag3,af4];intro z hz;obtain⟨_,_,_,_,_,e,_,_,h0⟩:=q.ex;injection e with e1 e;injection e with e2 e;injection e with e3 e;injection e with e4 e;injection e with e5 e
   subst e1;subst e2;subst e3;subst e4;subst e5;exact afj (h0 z hz)
 .refine no _ s1 fun z=>d1 (afj ?_)
  obtain⟨_,_,_,_,_,e,_,h0,_⟩:=z.ex;have ek:=(aiN e).1;rw[ek];exact h0.1
inductive Jb(K:afU)(vs:List V)(H:Hp)(Q:VK)(E:XK):Prop|m:∀(a:afb) (l:List Int),vs=[.ref a]->aJ K H a (l.map V.int)->l.length<=20000->(∀H',ax H H'->Q (.bl (ag5 l.length l).isSome) H')->Jb K vs H Q E
theorem mY{k m:Int}(c:¬decide (V.int k=V.int m)=true):k≠m:=fun z=>c (afj (by rw[z]))
theorem mX{k m:Int}(c:decide (V.int k=V.int m)=true):k=m:=by
 have:=aff c;injection this
theorem M0{l:List Int}:zP l↔∃k a b c n r,l=k::a::b::c::n::r/\NW [k,a,b,c,n]/\n.toNat<=r.length/\er k (r.take n.toNat):=by
 constructor
 .rintro⟨k,a,b,c,n,r,e,h⟩;exact⟨k,a,b,c,n,r,e,⟨k,a,b,c,n,rfl,h.all,h.kind,h.zero⟩,h.len,h.bytes⟩
 .rintro⟨k,a,b,c,n,r,e,h,h1,h2⟩;obtain⟨_,_,_,_,_,e',h3,h4,h5⟩:=h.ex;injection e' with e1 e';injection e' with e2 e';injection e' with e3 e';injection e' with e4 e';injection e' with e5 e'
  subst e1;subst e2;subst e3;subst e4;subst e5;exact⟨k,a,b,c,n,r,e,h3,h4,h5,h1,h2⟩
abbrev x9:afP:=dC 86
theorem ET:au ["kind","row"] ["kind","row"] (ai x9):=cF
theorem Aq(F:b9 K "are_bytes_of" "are_bytes_of" x9 f fd)(X:Mp mg)(cW:Ca P w K mg base 2 "is_word" ["row"] (JJ K fun r=>dG r 1 12 97 122))(cT:Ca P w K mg base 2 "is_text" ["row"] (JJ K fun r=>dG r 0 30 32 126)):aT P w K mg base bX 3 f fd ["kind","row"] (pS K):=by
 refine cz F ET fun _ _ _ _ H _ Q E hr h=> ?_
 obtain⟨z,a,l,rfl,hl,hz,k⟩:=h;refine⟨_,ae (aZ (aX fU (pv 0) (gY rfl X.k3) (bc _)) (af (aq (cn cW hr rfl (aa (pv 1) ab)))) aC)
  (ae (aZ (PW.pt (jl (aX fU (pv 0) (gY rfl X.k5) (bc _)) (iI (aX fU (pv 0) (gY rfl X.k7) (bc _))))) (af (aq (cn cT hr rfl (aa (pv 1) ab)))) aC)
  (af (aq (fM (Ie hr.units) (pv 1) (fN ab) (bc _))))),?_⟩
 refine⟨_,rfl,rfl,_,rfl,aW (fun c=> ?_) (fun c=> ?_)⟩
 .exact⟨_,rfl,a,l,rfl,hl,by omega,fun H1 s1=>k _ H1 (by unfold er;rw[afh (mX c)]) s1⟩
 have n3:=mY c
 suffices hk:¬(z=5\/z=7)->_ by
  have tx:(z=5\/z=7)->∀H1,ax H H1->Q (.bl (dG l 0 30 32 126)) H1:=fun q H1 s1=>k _ H1 (by unfold er;rw[afc n3,afh q]) s1
  refine⟨_,rfl,rfl,_,rfl,aW (fun c1=> ?_) (fun c1=> ?_)⟩
  .exact⟨_,rfl,a,l,rfl,hl,by omega,tx (.inl (mX c1))⟩
  .refine⟨_,rfl,rfl,_,rfl,aW (fun c2=> ?_) (fun c2=>hk fun q=>q.elim (mY c1) (mY c2))⟩;exact⟨_,rfl,a,l,rfl,hl,by omega,tx (.inr (mX c2))⟩
 intro n57;refine⟨_,rfl,afF _,fun H1 m nm s1 h1=>⟨a,m,l,[],rfl,rfl,s1.seq hl,aJ.of h1,k _ H1 ?_ s1⟩⟩;unfold er;rw[afc n3,afc n57,ahk]
abbrev FK:afP:=dC 87
theorem Ly:au ["row","start"] ["row","start"] (ai FK):=cF
theorem Hm(F:b9 K "change_end" "change_end" FK f fd):aT P w K mg base bX 1 f fd ["row","start"] (oY K):=by
 refine cz F Ly fun _ _ _ _ H _ Q E hr h=> ?_
 obtain⟨a,l,st,z,rfl,hl,r8,k⟩:=h;exact⟨_,af (aq (bx eh (bx eh (pv 1) ag) (aG aA (pv 0) (bx eh (pv 1) ag)))),_,rfl,_,_,rfl,rfl,_,rfl,_,rfl,_,_,rfl,rfl,a,_,_,.int z,rfl,rfl,hl,gE (j:=st+4) (by show(st:Int)+4=_;omega) (by rw[afw,r8];rfl),_,_,rfl,rfl,k⟩
abbrev MD:afP:=dC 88
theorem IP:au ["row","start","end"] ["row","start"] (ai MD):=cF
theorem K5(F:b9 K "is_change" "is_change" MD f fd)(G:lN mg)(cH:Ca P w K mg base 1 "is_head" ["head"] (AV K))(cE:Ca P w K mg base 1 "change_end" ["row","start"] (oY K))(cB:Ca P w K mg base 3 "are_bytes_of" ["kind","row"] (pS K)):aT P w K mg base bX 4 f fd ["row","start"] (AX K):=by
 refine cz F IP fun _ _ _ _ H _ Q E hr h=> ?_
 obtain⟨a,l,st,rfl,hl,hz,k⟩:=h;have nd:=IP.nd;refine⟨_,ae (aZ (bu (bf (cn cH hr rfl (aa (dq mn (pv 0) (cv (pv 1)) (cv (bx eh (pv 1) ag))) ab)))) (af (aq dy)) aC)
  (ae (cY 2 nd (cn cE hr rfl (aa (pv 0) (aa (pv 1) ab))))
  (af (aq (wZ (fM gT (pv 2) (aN ay rfl G.len ago (aa (pv 0) ab)) (bc _)) (lu (cn cB hr rfl (aa (aG aA (pv 0) (pv 1)) (aa (dq mn (pv 0) (cv (bx eh (pv 1) ag)) (cv (pv 2))) ab)))))))),?_⟩
 refine⟨_,rfl,_,rfl,_,rfl,_,rfl,_,_,rfl,rfl,_,rfl,a,l,rfl,hl,fun H1 m nm s1 h1=> ?_⟩;have e1:iq l (some (st:Int)) (some ((st:Int)+5))=(l.drop st).take 5:=by
  have:=mJ l st (st+5);rw[show((st+5:Nat):Int)=(st:Int)+5 by omega]at this;rw[this,aiB,ag6]
 rw[show iq l (some (st:Int)) (some ((st:Int)+5))=_ from e1]at h1;have no:∀(H':Hp),ax H H'->¬zP (l.drop st)->Q (.bl false) H':=fun H' s1 z=>k false _ ⟨fun q=>(by cases q),fun q=>absurd q z⟩ s1
 refine⟨m,_,rfl,aJ.of h1,by rw[afW];exact amC _ _,fun b H2 hb s2=>⟨_,rfl,aW (fun c=> ?_) (fun c=> ?_)⟩⟩
 .refine no _ (s1.trans s2) fun z=> ?_
  obtain⟨k0,a0,b0,c0,n0,r0,e,hh,_⟩:=M0.mp z;rw[e]at hb;rw[hb.mpr hh]at c;cases c
 have yx:b=true:=by
  cases q:b with
  |true=>rfl
  |false=>exact absurd (by rw[q];rfl) c
 have hh:=hb.mp yx;obtain⟨k0,a0,b0,c0,n0,e5,VX,_⟩:=hh.ex;have ed:∃r0,l.drop st=k0::a0::b0::c0::n0::r0:=⟨(l.drop st).drop 5,by
  have:=agI 5 (l.drop st);rw[e5]at this;exact this.symm⟩
 obtain⟨r0,ed⟩:=ed;have cG:∀j:Nat,l[st+j]? =(k0::a0::b0::c0::n0::r0)[j]? :=fun j=>by rw[<-ed,ahX]
 have Qv:0<=n0:=(VX n0 (by simp)).1;have bY:l.length=st+5+r0.length:=by
  have:=congrArg ahN ed;rw[agp]at this;simp only[afp]at this;omega
 rw[e5]at hh;have uo:zP (l.drop st)↔n0.toNat<=r0.length/\er k0 (r0.take n0.toNat):=by
  rw[M0];constructor
  .rintro⟨_,_,_,_,_,_,e,_,h1,h2⟩;rw[ed]at e;injection e with e1 e;injection e with e2 e;injection e with e3 e;injection e with e4 e;injection e with e5 e
   subst e1;subst e5;subst e;exact⟨h1,h2⟩
  .rintro⟨h1,h2⟩;exact⟨_,_,_,_,_,_,ed,hh,h1,h2⟩
 have QB:=s1.trans s2;have Cb:=QB.seq hl;refine⟨_,rfl,_,rfl,a,l,st,n0,rfl,Cb,cG 4,?_⟩;refine⟨_,rfl,_,rfl,a,_,rfl,.inl Cb,_,_,rfl,rfl,_,rfl,aW (fun c1=> ?_) (fun c1=> ?_)⟩
 .have U5:=aff c1;rw[ae9]at U5;have qm:n0.toNat<=r0.length:=by omega
  refine⟨_,rfl,_,rfl,a,_,_,.int k0,rfl,rfl,Cb,gE (j:=st) rfl (by rw[afw,show l[st]? =some k0 from cG 0];rfl),?_⟩;refine⟨_,rfl,_,rfl,_,_,rfl,rfl,_,rfl,_,rfl,_,rfl,a,l,rfl,Cb,fun H3 m3 Xk s3 h3=> ?_⟩;have e2:iq l (some ((st:Int)+5)) (some ((st:Int)+5+n0))=r0.take n0.toNat:=by
   have:=mJ l (st+5) (st+5+n0.toNat);rw[show((st+5:Nat):Int)=(st:Int)+5 by omega,show((st+5+n0.toNat:Nat):Int)=(st:Int)+5+n0 by omega]at this;rw[this,aiB,ag6,<-ahA,ed];rfl
  rw[show iq l (some ((st:Int)+5)) (some ((st:Int)+5+n0))=_ from e2]at h3;exact⟨k0,m3,_,rfl,aJ.of h3,by rw[afW];omega,fun b4 H4 MZ s4=>k b4 H4 (MZ.trans ⟨fun q=>uo.mpr ⟨qm,q⟩,fun q=>(uo.mp q).2⟩) (QB.trans (s3.trans s4))⟩
 .refine no _ QB fun z=>c1 (afj ?_)
  have:=(uo.mp z).1;rw[ae9];show(st:Int)+5+n0<=_;omega
abbrev Q6:afP:=dC 89
theorem NN:au ["row","start"] ["row"] (ai Q6):=cF
theorem O4(F:b9 K "are_changes" "are_changes" Q6 f fd)(G:lN mg)(cI:Ca P w K mg base 4 "is_change" ["row","start"] (AX K))(cE:Ca P w K mg base 1 "change_end" ["row","start"] (oY K)):aT P w K mg base bX 5 f fd ["row"] (Jb K):=by
 refine cz F NN fun _ _ _ _ H _ Q E hr h=> ?_
 obtain⟨a,l,rfl,hl,hz,k⟩:=h;have nd:=NN.nd;refine⟨_,ae (cY 1 nd ag)
  (ae (sO af1 (aX vj (pv 1) (aN ay rfl G.len ago (aa (pv 0) ab)) (bc _))
   (ae (aZ (bu (bf (cn cI hr rfl (aa (pv 0) (aa (pv 1) ab))))) (af (aq dy)) aC)
   (af (cY 1 nd (cn cE hr rfl (aa (pv 0) (aa (pv 1) ab)))))))
  (af (aq dy))),?_⟩
 show tQ _ _ _ [some (.ref a),some (.int 0)] H;refine tU (fun σ H'=>∃(st f:Nat),σ=[some (.ref a),some (vn st)]/\ax H H'/\st<=l.length/\(l.drop st).length<=f/\(ag5 l.length l).isSome=(ag5 f (l.drop st)).isSome) (fun σ _=>match σ with| [_,some (.int z)]=>l.length-z.toNat|_=>0) ⟨0,l.length,rfl,ax.refl H,afF _,afn _,rfl⟩ ?_ (fun σ H Q Q' f ⟨v,h1,w,h2,p,ys,h3,h4,i,j,h5,h6,kk,h7,q⟩=>⟨v,h1,w,h2,p,ys,h3,h4,i,j,h5,h6,kk,h7,f _ _ q⟩);rintro σ H' ⟨st,f,rfl,s1,yE,hf,he⟩;have ql:=s1.seq hl;refine⟨_,rfl,_,rfl,a,_,rfl,.inl ql,_,_,rfl,rfl,_,rfl,aW (fun c=> ?_) (fun c=> ?_)⟩
 .have c':=aff c;rw[ae9]at c';have gh:l.drop st≠ []:=fun z=>by
   have:=congrArg ahN z;rw[agp]at this;simp at this;omega
  have hf0:0<f:=by rw[agp]at hf;omega
  obtain⟨f',rfl⟩:∃f',f=f'+1:=⟨f-1,by omega⟩;refine⟨_,rfl,_,rfl,a,l,st,rfl,ql,hz,fun b H2 hb s2=>⟨_,rfl,aW (fun c1=> ?_) (fun c1=> ?_)⟩⟩
  .have e9:¬zP (l.drop st):=fun z=>by rw[hb.mpr z]at c1;cases c1
   have:=k _ (s1.trans s2);rw[he,Hh gh e9]at this;exact this
  .have yx:b=true:=by
    cases q:b with
    |true=>rfl
    |false=>exact absurd (by rw[q];rfl) c1
   obtain⟨k0,a0,b0,c0,n0,r0,ed,ok⟩:=hb.mp yx;obtain⟨d,h1,_,h3⟩:=Bj (f:=f') ok;have cG:l[st+4]? =some n0:=by
    have:l[st+4]? =(l.drop st)[4]? :=by rw[ahX]
    rw[this,ed];rfl
   have Qv:0<=n0:=(ok.all n0 (by simp)).1;refine⟨_,rfl,_,rfl,a,l,st,n0,rfl,(s1.trans s2).seq hl,cG,?_⟩;have bY:l.length=st+5+r0.length:=by
    have:=congrArg ahN ed;rw[agp]at this;simp only[afp]at this;omega
   have B9:l.drop (st+5+n0.toNat)=r0.drop n0.toNat:=by
    rw[<-ahA,<-ahA,ed];rfl
   have qm:=ok.len;refine⟨⟨st+5+n0.toNat,f',?_,s1.trans s2,by omega,?_,?_⟩,?_⟩
   .show [some (V.ref a),some (V.int ((st:Int)+5+n0))]=_;rw[show(st:Int)+5+n0=((st+5+n0.toNat:Nat):Int) by omega]
   .rw[agp]at hf⊢;omega
   .rw[he,ed,h3,B9];cases ag5 f' (r0.drop n0.toNat)<;>rfl
   .show l.length-((st:Int)+5+n0).toNat<l.length-((st:Nat):Int).toNat;omega
 .have c':¬((st:Int)<((l.map V.int).length:Nat)):=fun z=>c (afj z)
  rw[ae9]at c';have:l.drop st=[]:=agr (by omega);rw[this]at he;have hk:=k _ s1;rw[he]at hk;cases f<;>exact hk
structure N0(mg:Str->Option afe):Prop where
 le:∃t,mg "LINE_END"=some (.int 10 t)
 bl:∃t,mg "BLANK"=some (.int 32 t)
 da:∃t,mg "DASH"=some (.int 45 t)
 dt:∃t,mg "DOT"=some (.int 46 t)
 ze:∃t,mg "ZERO"=some (.int 48 t)
 ni:∃t,mg "NINE"=some (.int 57 t)
 gr:∃t,mg "GREATEST_reading"=some (.int 99 t)
inductive CL(K:afU)(x:V)(y:V)(H:Hp)(Q:VK):Prop|m:∀(c:Nat) (a:afb) (l:List Nat),x=vn c->y= .ref a->aJ K H a (l.map vn)->Q (.bl (!decide (c∈l))) H->CL K x y H Q
theorem vk:nY X (compareOp .NotIn) (CL X.K):=by
 intro pins s σ H x y u v Q I rx ry ⟨c,a,l,e1,e2,h1,q⟩;subst e1;subst e2;refine j2 pins s σ H _ _ u v Q I rx ry ⟨a,_,rfl,.inl h1,rfl,g9 l,?_⟩;show Q (.bl (!Fq (vn c) (l.map vn))) H;rw[kQ];exact q
inductive CJ(K:afU)(x:V)(xs:List V)(H:Hp)(Q:VK):Prop|m:∀(a:afb) (c:Nat) (u v:List Nat),x= .ref a->xs=[vn c]->aJ K H a ((u++c::v).map vn)->¬c∈u->Q (vn u.length) H->CJ K x xs H Q
theorem vf:UP X "list.index" (CJ X.K):=by
 intro pins s σ H x xs v us Q I rx XE ⟨a,c,u,w,e1,e2,h1,hn,q⟩;subst e1;subst e2;refine yO pins s σ H _ _ v us Q I rx XE ⟨a,_,vn c,u.length,vn c,rfl,rfl,h1,rfl,g9 _,?_,aht _,fun m z' hm hz=> ?_,q⟩
 .rw[afw,agt (afn _),akX];rfl
 .rw[afw,agK hm]at hz;obtain⟨y,hy,e⟩:∃y,u[m]? =some y/\vn y=z':=by
   cases q:u[m]? with
   |none=>rw[q]at hz;cases hz
   |some y=>rw[q]at hz;exact⟨y,rfl,aft hz⟩
  rw[<-e];refine agS.mpr (show(y:Int)≠(c:Int)from fun z=>hn ?_);have:y=c:=by omega
  rw[<-this];exact afo hy
theorem iy{m:List Nat}:l.map nat=m.map nat↔l=m:=by
 constructor
 .intro h;have:=congrArg (fun z=>z.map Int.toNat) h;simpa [nat,Function.comp_def]using this
 .intro h;rw[h]
inductive tE(p:List Nat->Prop)(vs:List V)(H:Hp)(Q:VK)(E:XK):Prop|m:∀(a:afb) (l:List Nat),vs=[.ref a]->NL H a l->l.length<=20000->(∀(b:Bool) (H':Hp),(b=true↔p l)->ax H H'->Q (.bl b) H')->tE p vs H Q E
theorem A1(h:NL H a l):aJ K H a ((l.map nat).map V.int):=aJ.of (jx h)
theorem Cw(h:IL H a ((l.map nat).take j)):NL H a (l.take j):=gD (by rw[aiK];exact h)
theorem Cv(h:IL H a ((l.map nat).drop j)):NL H a (l.drop j):=gD (by rw[ajy];exact h)
abbrev vX:afP:=dC 119
theorem CZ:au ["row","sign"] ["row"] (ai vX):=cF
theorem JS:iK ["row","sign"] (ai vX) (OP (cq vX) 1) [("sign",1)]:=⟨rfl,by decide+kernel,by decide+kernel,by decide+kernel,by decide+kernel⟩
theorem HC(F:b9 K "is_number" "is_number" vX f fd)(G:lN mg)(X:N0 mg):aT P w K mg base bX 1 f fd ["row"] (tE nX):=by
 refine cz F CZ fun _ _ _ _ H _ Q E hr h=> ?_
 obtain⟨a,l,rfl,hl,hz,k⟩:=h;have nd:=CZ.nd;refine⟨_,ae (aZ (bu (lD gT gT ag (aN ay rfl G.len ago (aa (pv 0) ab)) ag)) (af (aq dy)) aC)
  (ae (aZ (bu (bf (aN (rH rfl) rfl G.all ame (aa (mv (own:=[("sign",1)]) rfl nd (bO (pv 0)) JS (fun _ _ _ _ _=>hJ 1 nd) (fun _ _ _ _ _=>j5) (fun _ _ _ _ _=>sI gT gT (gY rfl X.ze) (pv 1) (gY rfl X.ni))) ab)))) (af (aq dy)) aC)
  (af (aq (CA (fM fU (aN ay rfl G.len ago (aa (pv 0) ab)) ag (bc _)) (lu (fM yW (aG aA (pv 0) ag) (gY rfl X.ze) (bc _))))))),?_⟩
 have no:∀(H':Hp),ax H H'->¬nX l->Q (.bl false) H':=fun H' s1 z=>k false _ ⟨fun q=>(by cases q),fun q=>absurd q z⟩ s1
 have el:((l.map vn).length:Int)=(l.length:Int):=by rw[ae9]
 refine⟨_,rfl,a,_,rfl,.inl (aJ.of hl),_,_,rfl,rfl,_,rfl,aW (fun c1=> ?_) (fun c1=>⟨_,rfl,no _ (ax.refl H) fun z=>c1 (afj ?_)⟩)⟩
 case refine_2=>rw[el];have:=z.1.1;omega
 have U5:=aff c1;rw[el]at U5;refine⟨_,_,rfl,rfl,_,rfl,aW (fun c2=>no _ (ax.refl H) fun z=>dU c2 ?_) (fun c2=> ?_)⟩
 .rw[el];have:=z.1.2;omega
 have c2':=cX c2;rw[el]at c2';have Qn:1<=l.length/\l.length<=2:=⟨by omega,by omega⟩;refine⟨_,rfl,a,rfl,⟨_,A1 hl⟩,fun D hD=>wC (fun z=>decide (48<=z/\z<=57)) hD (A1 hl) (by rw[ae9];omega) (fun z H' R q=>⟨rfl,_,rfl,_,_,rfl,rfl,_,rfl,aW (fun d1=>⟨_,_,rfl,rfl,?_⟩) (fun d1=> ?_)⟩) (fun H1 s1 h1=>⟨D,_,rfl,aJ.of h1,_,rfl,aW (fun c3=> ?_) (fun c3=> ?_)⟩) BY⟩
 .show R (V.bl (decide (z<=57))) H';rw[show decide (z<=57)=decide (48<=z/\z<=57)from agz.mpr ⟨fun q=>⟨aff d1,q⟩,fun q=>q.2⟩];exact q
 .rw[show false=decide (48<=z/\z<=57)from(agb fun q=>d1 (afj q.1)).symm];exact q
 .refine no _ s1 fun z=> ?_
  have:(((l.map nat).map fun z=>decide (48<=z/\z<=57)).all id)=true:=by
   rw[ag3,ag3,af4];intro y hy;have:=z.2.1 y hy;exact afj (show(48:Int)<=(y:Int)/\(y:Int)<=57 by omega)
  rw[this]at c3;cases c3
 have gI:∀y∈l,48<=y/\y<=57:=fun y hy=>by
  have:(((l.map nat).map fun z=>decide (48<=z/\z<=57)).all id)=true:=by
   cases q:(((l.map nat).map fun z=>decide (48<=z/\z<=57)).all id)with
   |true=>rfl
   |false=>exact absurd (by rw[q];rfl) c3
  rw[ag3,ag3,af4]at this;have q:(48:Int)<=(y:Int)/\(y:Int)<=57:=aff (this y hy);omega
 have ql:=s1 _ _ hl;refine⟨_,rfl,a,_,rfl,.inl (aJ.of ql),rfl,_,rfl,aW (fun c4=> ?_) (fun c4=> ?_)⟩
 .have c5:=mX c4;rw[el]at c5;exact k true _ ⟨fun _=>⟨Qn,gI,.inl (by omega)⟩,fun _=>rfl⟩ s1
 .have c5:=mY c4;rw[el]at c5
  match l,Qn,gI,ql,c5,k with
  | [x,y],Qn,gI,ql,c5,k=>
   refine⟨_,rfl,a,_,_,vn x,rfl,rfl,aJ.of ql,gE (j:=0) rfl rfl,rfl,k _ _ ⟨fun q=>⟨Qn,gI,.inr fun z=> ?_⟩,fun q=> ?_⟩ s1⟩
   .have:x=48:=aft z;rw[this]at q;exact absurd q (by decide)
   .rcases q.2.2 with z|z
    .exact absurd (show 2=1 from z) (by decide)
    .rw[agb fun q=>z (show some x=some 48 by injection q with q;rw[show x=48 by omega])];rfl
  | [x],_,_,_,c5,_=>exact absurd rfl c5
  | [],Qn,_,_,_,_=>exact absurd Qn.1 (by decide)
abbrev F0:afP:=dC 120
theorem C0:au ["row","dot"] ["row"] (ai F0):=cF
theorem HD(F:b9 K "is_pointer" "is_pointer" F0 f fd)(X:N0 mg)(cN:Ca P w K mg base 1 "is_number" ["row"] (tE nX)):aT P w K mg base bX 2 f fd ["row"] (tE qe):=by
 refine cz F C0 fun _ _ _ _ H _ Q E hr h=> ?_
 obtain⟨a,l,rfl,hl,hz,k⟩:=h;have nd:=C0.nd;refine⟨_,ae (aZ (aX (Ie hr.units) (pv 0) (fN (aa (gY rfl X.da) ab)) (bc _)) (af (aq dy)) aC)
  (ae (aZ (aX vk (gY rfl X.dt) (pv 0) (by with_unfolding_all rfl)) (af (aq dy)) aC)
  (ae (cY 1 nd (cy afq ah7 aiZ vf (pv 0) (aa (gY rfl X.dt) ab)))
  (af (aq (wZ (cn cN hr rfl (aa (dq mn (pv 0) hX (cv (pv 1))) ab)) (lu (cn cN hr rfl (aa (dq mn (pv 0) (cv (bx eh (pv 1) ag)) hX) ab)))))))),?_⟩
 refine⟨_,rfl,jv,fun H1 m nm s1 h1=>⟨a,m,l.map nat,[45],rfl,rfl,A1 (s1 _ _ hl),aJ.of h1,_,rfl,aW (fun c=> ?_) (fun c=> ?_)⟩⟩
 .have e:l=[45]:=iy.mp (aff c);exact k true _ ⟨fun _=> .inl e,fun _=>rfl⟩ s1
 have gh:l≠ [45]:=fun z=>c (afj (by rw[z];rfl))
 have ql:=s1 _ _ hl;refine⟨_,rfl,46,a,l,rfl,rfl,aJ.of ql,_,rfl,aW (fun c1=> ?_) (fun c1=> ?_)⟩
 .refine k false _ ⟨fun q=>(by cases q),fun q=> ?_⟩ s1;rcases q with z|⟨u,v,e,_⟩
  .exact absurd z gh
  .exact absurd (by rw[e];simp) (dU c1)
 have h46:=cX c1;obtain⟨u,v,rfl,hu⟩:=lJ h46;refine⟨_,rfl,.inl ⟨rfl,_,aJ.of ql⟩,a,46,u,v,rfl,rfl,aJ.of ql,hu,?_⟩;have uo:qe (u++46::v)↔nX u/\nX v:=by
  constructor
  .rintro(z|⟨u',v',e,Nd,h1,h2⟩)
   .exact absurd z gh
   .have:u=u'/\v=v':=by
     have q:=lT (s:=46) (b:=v) hu;rw[e,lT (s:=46) (b:=v') Nd]at q;have e1:=(aiN q).1;subst e1;exact⟨rfl,(aiN (aic e)).2⟩
    rw[this.1,this.2];exact⟨h1,h2⟩
  .rintro⟨h1,h2⟩;exact .inr ⟨u,v,rfl,hu,h1,h2⟩
 have bY:(u++46::v).length=u.length+1+v.length:=by rw[afa,afp];omega
 refine⟨_,rfl,_,rfl,_,rfl,a,_,rfl,A1 ql,fun H2 m2 ZP s2 h2=> ?_⟩;rw[vS]at h2;have Kg:=Cw h2;rw[aim rfl]at Kg;refine⟨m2,u,rfl,Kg,by omega,fun b3 H3 RJ s3=>⟨_,rfl,aW (fun c3=> ?_) (fun c3=> ?_)⟩⟩
 .refine⟨_,rfl,_,rfl,_,_,rfl,rfl,_,rfl,a,_,rfl,A1 (s3 _ _ (s2 _ _ ql)),fun H4 m4 nm4 s4 h4=> ?_⟩;have e4:=rJ ((u++46::v).map nat) (u.length+1);rw[show((u.length+1:Nat):Int)=(u.length:Int)+1 by omega]at e4;rw[show iq ((u++46::v).map nat) (some ((u.length:Int)+1)) none=_ from e4]at h4;have Ki:=Cv h4;rw[akJ,agr (by omega),agT,ag6]at Ki;exact⟨m4,v,rfl,Ki,by omega,fun b5 H5 DN s5=>k b5 H5 (DN.trans ⟨fun q=>uo.mpr ⟨RJ.mp c3,q⟩,fun q=>(uo.mp q).2⟩) (s1.trans (s2.trans (s3.trans (s4.trans s5))))⟩
 .exact k false _ ⟨fun q=>(by cases q),fun q=>absurd (RJ.mpr (uo.mp q).1) c3⟩ (s1.trans (s2.trans s3))
theorem IE(r:List Nat):dG (r.map nat) 1 12 97 122=alJ r:=by
 unfold dG alJ;rw[ae9,ag3];congr 1;refine amT rfl fun c=> ?_
 exact agz.mpr ⟨fun q=>⟨by have:=q.1;show 97<=c;simp[nat]at this;omega,by have:=q.2;show c<=122;simp[nat]at this;omega⟩,fun q=>⟨by simp[nat];omega,by simp[nat];omega⟩⟩
theorem Ls(r:List Nat):dG (r.map nat) 0 30 32 126=ajQ r:=by
 unfold dG ajQ;rw[ae9,ag3];congr 1
 .exact agz.mpr ⟨fun q=>q.2,fun q=>⟨afF _,q⟩⟩
 refine amT rfl fun c=> ?_
 exact agz.mpr ⟨fun q=>⟨by have:=q.1;simp[nat]at this;omega,by have:=q.2;simp[nat]at this;omega⟩,fun q=>⟨by simp[nat];omega,by simp[nat];omega⟩⟩
inductive Jc(vs:List V)(H:Hp)(Q:VK)(E:XK):Prop|m:∀(a:afb) (t:List Nat) (e:Nat),vs=[.ref a,vn e]->NL H a t->t.length<=20000->e<1000000->(∀(b:Bool) (H':Hp),(b=true↔rA t e)->ax H H'->Q (.bl b) H')->Jc vs H Q E
inductive Je(vs:List V)(H:Hp)(Q:VK)(E:XK):Prop|m:∀(a:afb) (t:List Nat) (e i:Nat),vs=[.ref a,vn e,vn i]->NL H a t->t.length<=20000->e<1000000->i<1000000->(∀(b:Bool) (H':Hp),(b=true↔qf t e i)->ax H H'->Q (.bl b) H')->Je vs H Q E
theorem q0{hd:List Nat}:t.take hd.length=hd↔∃r,t=hd++r:=by
 constructor
 .intro h;exact⟨t.drop hd.length,by conv=>lhs;rw[<-agI hd.length t,h]⟩
 .rintro⟨r,rfl⟩;exact aim rfl
abbrev Q7:afP:=dC 121
theorem NO:au ["line","place","head"] ["line","place"] (ai Q7):=cF
theorem O5(F:b9 K "is_entry_line" "is_entry_line" Q7 f fd)(G:lN mg)(X:N0 mg)(cE:Ca P w K mg base 2 "entry_head" ["place"] rm)(cW:Ca P w K mg base 2 "is_word" ["row"] (JJ K fun r=>dG r 1 12 97 122)):aT P w K mg base bX 3 f fd ["line","place"] Jc:=by
 refine cz F NO fun _ _ _ _ H _ Q E hr h=> ?_
 obtain⟨a,t,e,rfl,hl,hz,he,k⟩:=h;have nd:=NO.nd;refine⟨_,ae (cY 2 nd (cn cE hr rfl (aa (pv 1) ab)))
  (ae (aZ (PW.pt (jl (aX oF (pv 1) (gY rfl X.gr) (bc _)) (iI (aX (AB hr.units) (dq mn (pv 0) hX (cv (aN ay rfl G.len ago (aa (pv 2) ab)))) (pv 2) (bc _))))) (af (aq dy)) aC)
  (af (aq (cn cW hr rfl (aa (dq mn (pv 0) (cv (aN ay rfl G.len ago (aa (pv 2) ab))) hX) ab))))),?_⟩
 refine⟨_,rfl,e,rfl,he,fun H1 m nm hm s1=> ?_⟩;have ql:=s1 _ _ hl;have no:∀(H':Hp),ax H H'->¬rA t e->Q (.bl false) H':=fun H' s1 z=>k false _ ⟨fun q=>(by cases q),fun q=>absurd q z⟩ s1
 refine⟨_,rfl,_,_,rfl,rfl,_,rfl,aW (fun c=> ?_) (fun c=> ?_)⟩
 .refine no _ s1 fun z=> ?_
  have c':=aff c;have:=z.1;omega
 have Qo:e<=99:=by
  have:¬(99:Int)<(e:Int):=fun z=>c (afj z)
  omega
 generalize Wn:ahm e++ [32]=hd at hm;have DT:rA t e↔∃r,t=hd++r/\alJ r=true:=by
  unfold rA;rw[Wn];exact⟨fun q=>q.2,fun q=>⟨Qo,q⟩⟩
 refine⟨_,rfl,_,rfl,m,_,rfl,.inl (aJ.of hm),_,rfl,a,_,rfl,A1 ql,fun H2 m2 ZP s2 h2=> ?_⟩;rw[show(((hd.map vn).length:Nat):Int)=((hd.length:Nat):Int) by rw[ae9],vS]at h2;refine⟨_,rfl,m2,m,(t.take hd.length).map nat,hd.map nat,rfl,rfl,by rw[aiK];exact aJ.of h2,A1 (s2 _ _ hm),_,rfl,aW (fun c1=> ?_) (fun c1=> ?_)⟩
 .refine no _ (s1.trans s2) fun z=>dU c1 (iy.mpr (q0.mpr ?_))
  obtain⟨r,Fp,_⟩:=DT.mp z;exact⟨r,Fp⟩
 obtain⟨r,rfl⟩:=q0.mp (iy.mp (cX c1));refine⟨_,rfl,_,rfl,m,_,rfl,.inl (aJ.of (s2 _ _ hm)),_,rfl,a,_,rfl,A1 (s2 _ _ ql),fun H3 m3 Xk s3 h3=> ?_⟩;rw[show(((hd.map vn).length:Nat):Int)=((hd.length:Nat):Int) by rw[ae9],rJ,<-ajy,ajR rfl]at h3;refine⟨m3,_,rfl,aJ.of h3,by rw[ae9];rw[afa]at hz;omega,fun H4 s4=>k _ H4 ?_ (s1.trans (s2.trans (s3.trans s4)))⟩;show dG (r.map nat) 1 12 97 122=true↔_;rw[IE,DT];exact⟨fun q=>⟨r,rfl,q⟩,fun⟨r',e',q⟩=>by rw[aic e'];exact q⟩
abbrev Rb:afP:=dC 122
theorem NP:au ["line","entry_place","sense_place","head","rest","blank"] ["line","entry_place","sense_place"] (ai Rb):=cF
theorem O9(F:b9 K "is_sense_line" "is_sense_line" Rb f fd)(G:lN mg)(X:N0 mg)(cS:Ca P w K mg base 2 "sense_head" ["number"] (rq K))(cP:Ca P w K mg base 2 "is_pointer" ["row"] (tE qe))(cT:Ca P w K mg base 2 "is_text" ["row"] (JJ K fun r=>dG r 0 30 32 126)):aT P w K mg base bX 3 f fd ["line","entry_place","sense_place"] Je:=by
 refine cz F NP fun _ _ _ _ H _ Q E hr h=> ?_
 obtain⟨a,t,e,i,rfl,hl,hz,he,hi,k⟩:=h;have nd:=NP.nd;refine⟨_,ae (cY 3 nd (cn cS hr rfl (aa (Xv (aa (pv 1) (aa (pv 2) ab))) ab)))
  (ae (aZ (PW.pt (jl (aX oF (pv 2) (gY rfl X.gr) (bc _)) (iI (aX (AB hr.units) (dq mn (pv 0) hX (cv (aN ay rfl G.len ago (aa (pv 3) ab)))) (pv 3) (bc _))))) (af (aq dy)) aC)
  (ae (cY 4 nd (dq mn (pv 0) (cv (aN ay rfl G.len ago (aa (pv 3) ab))) hX))
  (ae (aZ (aX vk (gY rfl X.bl) (pv 4) (by with_unfolding_all rfl)) (af (aq dy)) aC)
  (ae (cY 5 nd (cy afq ah7 aiZ vf (pv 4) (aa (gY rfl X.bl) ab)))
  (af (aq (wZ (cn cP hr rfl (aa (dq mn (pv 4) hX (cv (pv 5))) ab)) (lu (cn cT hr rfl (aa (dq mn (pv 4) (cv (bx eh (pv 5) ag)) hX) ab)))))))))),?_⟩
 refine⟨_,rfl,_,rfl,xO,fun H0 tu Xq s0 htu=>⟨tu,e,i,rfl,gF.of htu,he,hi,fun H1 m nm hm s01=> ?_⟩⟩;have s1:=s0.trans s01;have ql:=s1 _ _ hl;have no:∀(H':Hp),ax H H'->¬qf t e i->Q (.bl false) H':=fun H' s1 z=>k false _ ⟨fun q=>(by cases q),fun q=>absurd q z⟩ s1
 refine⟨_,rfl,_,_,rfl,rfl,_,rfl,aW (fun c=> ?_) (fun c=> ?_)⟩
 .refine no _ s1 fun z=> ?_
  have c':=aff c;have:=z.1;omega
 have Qo:i<=99:=by
  have:¬(99:Int)<(i:Int):=fun z=>c (afj z)
  omega
 generalize Wn:pair (e,i)++ [32]=hd at hm;have DT:qf t e i↔∃p x,t=hd++(p++32::x)/\¬32∈p/\qe p/\ajQ x=true:=by
  unfold qf;rw[Wn];exact⟨fun q=>q.2,fun q=>⟨Qo,q⟩⟩
 refine⟨_,rfl,_,rfl,m,_,rfl,.inl (aJ.of hm),_,rfl,a,_,rfl,A1 ql,fun H2 m2 ZP s2 h2=> ?_⟩;rw[show(((hd.map vn).length:Nat):Int)=((hd.length:Nat):Int) by rw[ae9],vS]at h2;refine⟨_,rfl,m2,m,(t.take hd.length).map nat,hd.map nat,rfl,rfl,by rw[aiK];exact aJ.of h2,A1 (s2 _ _ hm),_,rfl,aW (fun c1=> ?_) (fun c1=> ?_)⟩
 .refine no _ (s1.trans s2) fun z=>dU c1 (iy.mpr (q0.mpr ?_))
  obtain⟨p,x,Fp,_⟩:=DT.mp z;exact⟨_,Fp⟩
 obtain⟨r,rfl⟩:=q0.mp (iy.mp (cX c1));refine⟨_,rfl,_,rfl,m,_,rfl,.inl (aJ.of (s2 _ _ hm)),_,rfl,a,_,rfl,A1 (s2 _ _ ql),fun H3 m3 Xk s3 h3=> ?_⟩;rw[show(((hd.map vn).length:Nat):Int)=((hd.length:Nat):Int) by rw[ae9],rJ,<-ajy,ajR rfl]at h3;have Fo:NL H3 m3 r:=gD h3;have mx:=s1.trans (s2.trans s3);refine⟨_,rfl,32,m3,r,rfl,rfl,aJ.of Fo,_,rfl,aW (fun c2=> ?_) (fun c2=> ?_)⟩
 .refine no _ mx fun z=>dU c2 ?_
  obtain⟨p,x,e',_⟩:=DT.mp z;rw[aic e'];simp
 obtain⟨u,v,rfl,hu⟩:=lJ (cX c2);have uo:qf (hd++(u++32::v)) e i↔qe u/\ajQ v=true:=by
  rw[DT];constructor
  .rintro⟨p,x,e',hp,h1,h2⟩;have e2:=aic e';have q:=iV (r:=v) hu;rw[e2,iV (r:=x) hp]at q;injection q with q;injection q with q1 q2
   rw[<-q1,<-q2];exact⟨h1,h2⟩
  .rintro⟨h1,h2⟩;exact⟨u,v,rfl,hu,h1,h2⟩
 have bY:(hd++(u++32::v)).length=hd.length+(u.length+1+v.length):=by rw[afa,afa,afp];omega
 refine⟨_,rfl,.inl ⟨rfl,_,aJ.of Fo⟩,m3,32,u,v,rfl,rfl,aJ.of Fo,hu,?_⟩;refine⟨_,rfl,_,rfl,_,rfl,m3,_,rfl,A1 Fo,fun H4 m4 nm4 s4 h4=> ?_⟩;rw[vS]at h4;have Ki:=Cw h4;rw[aim rfl]at Ki;refine⟨m4,u,rfl,Ki,by omega,fun b5 H5 DN s5=>⟨_,rfl,aW (fun c5=> ?_) (fun c5=> ?_)⟩⟩
 .refine⟨_,rfl,_,rfl,_,_,rfl,rfl,_,rfl,m3,_,rfl,A1 (s5 _ _ (s4 _ _ Fo)),fun H6 m6 nm6 s6 h6=> ?_⟩;have e6:=rJ ((u++32::v).map nat) (u.length+1);rw[show((u.length+1:Nat):Int)=(u.length:Int)+1 by omega]at e6;rw[show iq ((u++32::v).map nat) (some ((u.length:Int)+1)) none=_ from e6]at h6;have YM:=Cv h6;rw[akJ,agr (by omega),agT,ag6]at YM;refine⟨m6,_,rfl,A1 YM,by rw[ae9];show v.length<=_;omega,fun H7 s7=>k _ H7 ?_ (mx.trans (s4.trans (s5.trans (s6.trans s7))))⟩;show dG (v.map nat) 0 30 32 126=true↔_;rw[Ls,uo];exact⟨fun q=>⟨DN.mp c5,q⟩,fun q=>q.2⟩
 .exact k false _ ⟨fun q=>(by cases q),fun q=>absurd (DN.mpr (uo.mp q).1) c5⟩ (mx.trans (s4.trans s5))
structure qd(H:Hp)(as:List afb)(ls:List (List Nat)):Prop where
 len:as.length=ls.length
 cG:∀(i:Nat) (a:afb) (l:List Nat),as[i]? =some a->ls[i]? =some l->NL H a l
theorem qd.keep{S:List afb}{ls:List (List Nat)}(h:qd H as ls)(k:Kp S H H')(hs:∀a∈as,a∉S):qd H' as ls:=⟨h.len,fun i a l h1 h2=>k _ _ (h.cG i a l h1 h2) (hs a (afo h1))⟩
theorem qd.snoc{ls:List (List Nat)}(h:qd H as ls)(hx:NL H a l):qd H (as++ [a]) (ls++ [l]):=by
 refine⟨by rw[afa,afa,h.len];rfl,fun i y b h1 h2=> ?_⟩;rcases dE h1 with z1|⟨z1,z2⟩
 .rcases dE h2 with y1|⟨y1,y2⟩
  .exact h.cG i y b z1 y1
  .have:=(afd.mp z1).1;have:=h.len;omega
 .rcases dE h2 with y1|⟨y1,y2⟩
  .have:=(afd.mp y1).1;have:=h.len;omega
  .subst z2;subst y2;exact hx
inductive xA(vs:List V)(H:Hp)(Q:VK)(E:XK):Prop|m:∀(a:afb) (t:List Nat),vs=[.ref a]->NL H a t->t.length<=20000->(∀(H':Hp) (L:afb) (as:List afb),ax H H'->H' L=some (.ba (as.map V.ref))->qd H' as (ahK 10 t).dropLast->Q (.ref L) H')->xA vs H Q E
abbrev dn(t:List Nat):List (List Nat):=(ahK 10 t).dropLast
abbrev cr(t:List Nat):List Nat:=((ahK 10 t).getLast?).getD []
theorem rP:dn (t++ [10])=dn t++ [cr t]/\cr (t++ [10])=[]:=by
 unfold dn cr;rw[ot,afh rfl,ajD,agG];exact⟨x6 t,rfl⟩
theorem yj{c:Nat}(h:c≠10):dn (t++ [c])=dn t/\cr (t++ [c])=cr t++ [c]:=by
 unfold dn cr;rw[ot,afc h,ajD,agG];exact⟨rfl,rfl⟩
theorem zZ(t:List Nat):(dn t).length+(cr t).length<=t.length:=by
 refine jN (P:=fun t=>(dn t).length+(cr t).length<=t.length) (afn _) (fun t c ih=> ?_) t;by_cases h:c=10
 .subst h;rw[rP.1,rP.2,afa,afa];show(dn t).length+1+0<=t.length+1;omega
 .rw[(yj h).1,(yj h).2,afa,afa];show _<=t.length+1;show(dn t).length+((cr t).length+1)<=_;omega
abbrev F2:afP:=dC 123
theorem C2:au ["row","lines","line","sign"] ["row"] (ai F2):=cF
theorem HG(F:b9 K "ended_lines" "ended_lines" F2 f fd)(X:N0 mg):aT P w K mg base bX 1 f fd ["row"] xA:=by
 refine cz F C2 fun _ _ _ _ H _ Q E hr h=> ?_
 obtain⟨a,t,rfl,hl,hz,k⟩:=h;have nd:=C2.nd;refine⟨_,ae (cY 1 nd (fN ab)) (ae (cY 2 nd (fN ab))
  (ae (cM af1 rfl (bO (pv 0)) (hJ 3 nd)
   (af (aZ (aX fU (pv 3) (gY rfl X.le) (bc _))
    (ae (aI (cy afq agc agh de (pv 1) (aa (pv 2) ab))) (af (cY 2 nd (fN ab))))
    (af (aI (cy afq agc agh de (pv 2) (aa (pv 3) ab)))))))
  (af (aq (pv 1))))),?_⟩
 refine⟨afF _,fun H1 L nL s1 hL=>⟨afF _,fun H2 c0 Xf s2 Y0=> ?_⟩⟩;have hnc:H c0=none:=s1.free Xf;refine⟨_,rfl,a,rfl,⟨_,aJ.of (s2 _ _ (s1 _ _ hl))⟩,cV (K:=K) (a:=a) (xs:=t.map vn) (fun i σ H'=>∃(v3:Option V) (c:afb) (as:List afb),σ=[some (.ref a),some (.ref L),some (.ref c),v3]/\ax H H'/\H' L=some (.ba (as.map V.ref))/\qd H' as (dn (t.take i))/\NL H' c (cr (t.take i))/\H c=none/\c≠L/\c∉as/\L∉as)
  ⟨none,c0,[],rfl,s1.trans s2,s2 _ _ hL,⟨rfl,fun i a l h1=>by simp at h1⟩,Y0,hnc,fun z=>(by rw[z,hL]at Xf;cases Xf),by simp,by simp⟩ (fun i σ H' _ ⟨_,_,_,_,s3,_⟩=>aJ.of (s3 _ _ hl)) ?_ ?_⟩
 .rintro i y σ H' hi ⟨v3,c,as,rfl,s3,Jz,la,RO,nc,Ut,ZK,Xe⟩;obtain⟨x,hx,rfl⟩:=eg hi;have bY:=zZ (t.take i);have gV:(t.take i).length<=20000:=by rw[afW];omega
  rw[aS hx];refine⟨_,rfl,rfl,_,rfl,aW (fun e=> ?_) (fun e=> ?_)⟩
  .have ex:x=10:=by have:=mX e;omega
   subst ex;rw[rP.1,rP.2];refine⟨_,rfl,.inl ⟨rfl,_,aJ.of Jz⟩,_,rfl,L,_,_,rfl,rfl,Jz,by rw[ae9,la.len];exact b8 (by omega),?_⟩;have kp:Kp [L] H' (aE H' L (.ba (as.map V.ref++ [.ref c]))):=Kp.gZ (by simp);have hu:aE H' L (.ba (as.map V.ref++ [.ref c])) L=some (.ba ((as++ [c]).map V.ref)):=by rw[aj,afB];rfl
   generalize aE H' L (.ba (as.map V.ref++ [.ref c]))=H4 at kp hu⊢;have s4:ax H H4:=fun b o q=>kp _ _ (s3 b o q) fun z=>(by rw[show b=L by simpa using z,nL]at q;cases q)
   have Kk:=kp _ _ RO (by simpa using Ut);have Ur:=(la.keep kp fun a ha z=>Xe (by rw[<-show a=L by simpa using z];exact ha)).snoc Kk;refine⟨afF _,fun H5 c5 Us s5 RP=>⟨_,c5,as++ [c],rfl,s4.trans s5,s5 _ _ hu,⟨Ur.len,fun j b l q1 q2=>s5 _ _ (Ur.cG j b l q1 q2)⟩,RP,s4.free Us,fun z=>(by rw[z,hu]at Us;cases Us),fun z=> ?_,fun z=> ?_⟩⟩
   .obtain⟨j,hj⟩:=aga z;have hj2:j<(dn (t.take i)++ [cr (t.take i)]).length:=by rw[<-Ur.len];exact(afd.mp hj).1
    have q:H4 c5=_:=Ur.cG j c5 _ hj (afi hj2);rw[Us]at q;cases q
   .rcases afL.mp z with q|q
    .exact Xe q
    .exact Ut (show L=c by simpa using q).symm
  .have ex:x≠10:=fun z=>mY e (by rw[z];rfl)
   rw[(yj ex).1,(yj ex).2];refine⟨_,rfl,.inl ⟨rfl,_,aJ.of RO⟩,_,rfl,c,_,_,rfl,rfl,RO,by rw[ae9];exact b8 (by omega),?_⟩;have kp:Kp [c] H' (aE H' c (.ba ((cr (t.take i)).map vn++ [vn x]))):=Kp.gZ (by simp);refine⟨_,c,as,rfl,fun b o q=>kp _ _ (s3 b o q) fun z=>(by rw[show b=c by simpa using z,nc]at q;cases q),kp _ _ Jz (by simpa using Ut.symm),la.keep kp fun a ha z=>ZK (by rw[<-show a=c by simpa using z];exact ha),?_,nc,Ut,ZK,Xe⟩;show L2.aE _ c _ c=_;rw[aj,afB];rfl
 .rintro σ H' ⟨v3,c,as,rfl,s3,Jz,la,_⟩;rw[ae9,afR]at la;exact⟨_,rfl,k H' L as s3 Jz la⟩
inductive A0(vs:List V)(H:Hp)(Q:VK)(E:XK):Prop|m:∀(a:afb) (t:List Nat),vs=[.ref a]->NL H a t->t.length<=20000->(∀(H':Hp) (m:afb),H m=none->ax H H'->IL H' m (w9 t)->Q (.ref m) H')->A0 vs H Q E
theorem KI{c:Nat}(h:t.getLast? =some c):pB (t.map vn) (-1)=some (vn c):=by
 have e:=m9 h;rw[e,afB];exact Fz _ _
theorem Ka(h:(dn t)[i]? =some l):l.length<=t.length:=by
 revert i l;refine jN (P:=fun t=>∀{i:Nat} {l:List Nat},(dn t)[i]? =some l->l.length<=t.length) (fun h=>by simp[dn,ahK]at h) (fun t c ih i l h=> ?_) t;rw[afa];by_cases e:c=10
 .subst e;rw[rP.1]at h;rcases dE h with z|⟨_,z⟩
  .exact afu (ih z) (agN _ _)
  .rw[z];have:=zZ t;omega
 .rw[(yj e).1]at h;exact afu (ih h) (agN _ _)
abbrev MM:afP:=dC 124
theorem I0:au ["row","lines","entries","senses","senses_here","place","line"] ["row"] (ai MM):=cF
theorem Ld(F:b9 K "read" "read" MM f fd)(G:lN mg)(X:N0 mg)(cL:Ca P w K mg base 1 "ended_lines" ["row"] xA)(cE:Ca P w K mg base 3 "is_entry_line" ["line","place"] Jc)(cS:Ca P w K mg base 3 "is_sense_line" ["line","entry_place","sense_place"] Je):aT P w K mg base bX 4 f fd ["row"] A0:=by
 refine cz F I0 fun _ _ _ _ H _ Q E hr h=> ?_
 obtain⟨a,t,rfl,hl,hz,k⟩:=h;have nd:=I0.nd;refine⟨_,ae (cY 1 nd (cn cL hr rfl (aa (pv 0) ab))) (ae (cY 2 nd ag) (ae (cY 3 nd ag) (ae (cY 4 nd ag)
  (ae (cM af1 rfl (lx rfl G.DF (pv 1) ag) (i8 rfl (bH (hJ 5 nd) (bH (hJ 6 nd) gN)))
   (af (aZ (bf (cn cE hr rfl (aa (pv 6) (aa (bx eh (pv 2) ag) ab))))
    (ae (lC (i:=2) nd rfl (akb rfl) ag mZ) (af (cY 4 nd ag)))
    (af (aZ (PW.pt (nj (aX oF (pv 2) ag (bc _)) (j6 (bf (cn cS hr rfl (aa (pv 6) (aa (pv 2) (aa (bx eh (pv 4) ag) ab))))))))
     (ae (lC (i:=3) nd rfl (akb rfl) ag mZ) (af (lC (i:=4) nd rfl (akb rfl) ag mZ)))
     (af (aq (fN (aa ag (aa (pv 5) ab))))))))))
  (ae (aZ (PW.pt (nj (aX (AB hr.units) (pv 0) (fN ab) (bc _)) (j6 (aX yW (aG aA (pv 0) (CC xP ag)) (gY rfl X.le) (bc _))))) (af (aq (fN (aa ag (aa (bx eh (aN ay rfl G.len ago (aa (pv 1) ab)) ag) ab))))) aC)
  (af (aq (fN (aa ag (aa (pv 2) (aa (pv 3) ab))))))))))),?_⟩
 refine⟨_,rfl,a,t,rfl,hl,hz,fun H1 L as s1 hL la=> ?_⟩;have hdl:=zZ t;have VF:as.length=(dn t).length:=la.len;refine⟨_,rfl,L,_,_,rfl,rfl,aJ.of hL,by decide,by decide,jD (K:=K) (a:=L) (xs:=as.map V.ref) (c:=1)
  (fun i σ H'=>∃(v5 v6:Option V) (l:List akz),σ=[some (.ref a),some (.ref L),some (vn l.length),some (vn (km l)),some (vn (dD l)),v5,v6]/\ax H1 H'/\ajx 1 [] (dn t)=ajx (i+1) l ((dn t).drop i)/\l.length<=99/\dD l<=i)
  ⟨none,none,[],rfl,ax.refl _,rfl,by decide,afn _⟩ (fun i σ H' _ ⟨_,_,_,_,s2,_⟩=>aJ.of (s2 _ _ hL)) ?_ ?_⟩
 .rintro i y σ H' Tu hi ⟨v5,v6,l,rfl,s2,M7,Qo,Wu⟩ hT;obtain⟨x,hx,rfl⟩:=kX hi;have gV:i<(dn t).length:=by rw[<-VF];exact(afd.mp hx).1
  have hg:=afi gV;have M4:(dn t).drop i=(dn t)[i]::(dn t).drop (i+1):=(agL gV);generalize (dn t)[i]=ln at hg M4;have M8:=la.cG i x ln hx hg;have R3:ln.length<=20000:=afu (Ka hg) hz;rw[M4]at M7;have s3:ax H' (aE H' Tu (.dY [.int (1+(i:Nat)),V.ref x])):=ax.new hT;have RE:aE H' Tu (.dY [.int (1+(i:Nat)),V.ref x]) Tu=some (.dY [.int (1+(i:Nat)),V.ref x]):=aj;generalize aE H' Tu (.dY [.int (1+(i:Nat)),V.ref x])=H3 at s3 RE⊢;have mx:=s2.trans s3;refine⟨Tu,_,rfl,gF.of RE,rfl,_,_,rfl,_,_,rfl,rfl,?_⟩;refine⟨_,rfl,_,rfl,_,_,rfl,rfl,x,ln,l.length+1,rfl,mx _ _ M8,R3,by omega,fun b4 H4 MZ s4=>⟨_,rfl,aW (fun c=> ?_) (fun c=> ?_)⟩⟩
  .obtain⟨r,Wh⟩:=Gq (MZ.mp c);have h9:=(MZ.mp c).1;refine⟨_,rfl,_,_,rfl,rfl,some (.int (1+(i:Nat))),some (.ref x),l++ [⟨r,[]⟩],?_,mx.trans s4,M7.trans (sq Wh),by rw[afa];exact h9,?_⟩
   .have e1:km (l++ [⟨r,[]⟩])=km l:=by rw[nI];rfl
    have e2:dD (l++ [⟨r,[]⟩])=0:=by unfold dD;rw[agG];rfl
    rw[e1,e2,afa];rfl
   .have e2:dD (l++ [⟨r,[]⟩])=0:=by unfold dD;rw[agG];rfl
    rw[e2];exact afF _
  have hnE:¬rA ln (l.length+1):=fun z=>c (MZ.mpr z)
  have ju:∀(H5:Hp),ax H4 H5->(0<l.length->¬qf ln l.length (dD l+1))->∀(H6:Hp) (m:afb),H5 m=none->ax H5 H6->H6 m=some (.ba [.int 1,.int (1+(i:Nat))])->Q (.ref m) H6:=fun H5 s5 hS H6 m nm s6 h6=>by
   refine k H6 m (s1.free (mx.free (s4.free (s5.free nm)))) (s1.trans (mx.trans (s4.trans (s5.trans s6)))) ?_;rw[Pl (M7.trans (Ak (Kb hnE hS)))];show H6 m=some (.ba [.int 1,.int ((i+1:Nat):Int)]);rw[h6,show(1+(i:Nat):Int)=((i+1:Nat):Int) by omega]
  refine⟨_,rfl,_,_,rfl,rfl,_,rfl,aW (fun c1=> ?_) (fun c1=> ?_)⟩
  .have Ad:0<l.length:=by have:=aff c1;omega
   refine⟨_,rfl,_,rfl,_,rfl,_,_,rfl,rfl,x,ln,l.length,dD l+1,rfl,s4 _ _ (mx _ _ M8),R3,by omega,by omega,fun b5 H5 DN s5=>⟨_,rfl,aW (fun c2=> ?_) (fun c2=> ?_)⟩⟩
   .obtain⟨l',Wh,q1,q2,q3⟩:=Gs Ad Qo (DN.mp c2);refine⟨_,rfl,_,_,rfl,rfl,_,rfl,_,_,rfl,rfl,some (.int (1+(i:Nat))),some (.ref x),l',?_,mx.trans (s4.trans s5),M7.trans (sq Wh),by omega,by omega⟩;rw[q1,q2,q3];rfl
   .exact⟨_,rfl,xO,fun H6 m nm s6 h6=>ju H5 s5 (fun _ z=>c2 (DN.mpr z)) H6 m nm s6 h6⟩
  .have Ad:¬0<l.length:=fun z=>c1 (afj (show(0:Int)<(l.length:Int) by omega))
   exact⟨_,rfl,xO,fun H6 m nm s6 h6=>ju H4 (ax.refl _) (fun z=>absurd z Ad) H6 m nm s6 h6⟩
 .rintro σ H' ⟨v5,v6,l,rfl,s2,M7,Qo,Wu⟩;rw[ae9,VF,ajs]at M7;have dc:ajx 1 [] (ahK 10 t).dropLast= .ok l:=M7.trans (by rw[ajx]);have Cb:=s2 _ _ (s1 _ _ hl);refine⟨_,rfl,afF _,fun H3 m3 Xk s3 h3=>⟨a,m3,t.map nat,[],rfl,rfl,A1 (s3 _ _ Cb),aJ.of h3,_,rfl,?_⟩⟩;have Rr:cr t=[]->∀(H4:Hp) (m:afb),H3 m=none->ax H3 H4->H4 m=some (.ba [.int 0,vn l.length,vn (km l)])->Q (.ref m) H4:=fun e H4 m nm s4 h4=>by
   refine k H4 m (s1.free (s2.free (s3.free nm))) (s1.trans (s2.trans (s3.trans s4))) ?_;rw[S3 dc e];exact h4
  by_cases ht:t=[]
  .rw[ht];refine⟨_,rfl,_,rfl,QF,fun H4 m nm s4 h4=>Rr (by rw[ht];rfl) H4 m nm s4 h4⟩
  .rw[agb (show¬t.map nat=[]from fun z=>ht (List.map_eq_nil_iff.mp z))];obtain⟨c,hc⟩:∃c,t.getLast? =some c:=⟨_,aie ht⟩;refine⟨_,rfl,_,rfl,a,_,_,vn c,rfl,rfl,aJ.of (s3 _ _ Cb),KI hc,rfl,_,rfl,aW (fun q=> ?_) (fun q=> ?_)⟩
   .have Q1:c≠10:=fun z=>by rw[z]at q;exact absurd q (by decide)
    have Wf:cr t≠ []:=fun z=>(yL.mp z).elim ht fun q=>Q1 (by rw[hc]at q;exact aft q)
    refine⟨_,rfl,L,_,rfl,.inl (aJ.of (s3 _ _ (s2 _ _ hL))),_,_,rfl,rfl,xO,fun H4 m nm s4 h4=> ?_⟩;refine k H4 m (s1.free (s2.free (s3.free nm))) (s1.trans (s2.trans (s3.trans s4))) ?_;rw[Lp dc Wf];show H4 m=some (.ba [.int 1,.int (((dn t).length+1:Nat):Int)]);rw[h4,ae9,VF];rfl
   .have Q1:c=10:=agy fun z=>q (by
     show(!decide (vn c=V.int 10))=true;rw[agb fun y=>z (by injection y with y;omega)];rfl)
    exact⟨_,rfl,_,rfl,QF,fun H4 m nm s4 h4=>Rr (yL.mpr (.inr (by rw[hc,Q1]))) H4 m nm s4 h4⟩
theorem iz(c:(!hasEntry B e)=true):¬e∈names B:=by rw[wo]at c;exact dU c
theorem iC(c:¬(!hasEntry B e)=true):e∈names B:=by rw[wo]at c;exact cX c
theorem fT(c:(!hasSense B e)=true):¬e∈aD B:=by rw[wq]at c;exact dU c
theorem fW(c:¬(!hasSense B e)=true):e∈aD B:=by rw[wq]at c;exact cX c
abbrev Gj:afP:=dC 16
theorem xi:au ["house","numbers","text","home","behind"] ["house","numbers","text"] (ai Gj):=cF
theorem HW(F:b9 K "sense" "sense" Gj f fd)(L:jr P w K mg base CB CH):aT P w K mg base bX 4 f fd ["house","numbers","text"] (gQ CB CH 1):=by
 refine cz F xi fun _ _ _ _ H _ Q E hr h=> ?_
 obtain⟨h,nl,rl,D,S,FZ,x,rfl,hc,ok,W,fn,fr,hn,gJ,ku,iM,k⟩:=h;obtain⟨e,a,tx,rfl⟩:=fm hc;have nw:=W.w.now;have hz:=W.st.len;refine⟨_,ae (cY 3 xi.nd (aG aA (pv 1) ag))
  (ae (cY 4 xi.nd (aG aA (pv 1) ag))
  (ae (aZ (bu (bf (bR (az (pv 0)) L.b.cl L.wm hr (aa (pv 3) ab)))) (af (aq (fN (aa (gY rfl L.v.Uv) ab)))) aC)
  (ae (aZ (bu (bf (cn L.place hr rfl (aa (bC (bZ hr) (az (az (pv 0))) (pv 3)) (aa (pv 4) ab))))) (af (aq (fN (aa (gY rfl L.v.Uw) ab)))) aC)
  (ae (aZ (bf (jK (pv 0) L.h.cl L.Sv hr)) (af (aq (fN (aa (gY rfl L.v.full) ab)))) aC)
  (ae (vt (pv 0) ag GQ)
  (ae (aI (bR (az (pv 0)) L.b.cl L.Nq hr (aa (az (pv 0)) (aa (pv 3) (aa (pv 4) (aa (pv 2) ab))))))
  (af (aq (fN (aa ag (aa (bR (pv 0) L.h.cl L.sD hr (aa ag (aa (pv 1) (aa (pv 2) ab)))) (aa (az (pv 0)) ab)))))))))))),?_⟩
 refine⟨_,rfl,nV (i:=0) hn rfl ⟨_,rfl,nV (i:=1) hn rfl ?_⟩⟩;refine⟨_,rfl,h,CH,D.dx,_,_,rfl,W.w.ins,L.h.cl,L.h.nN,dP,D.nw,D.dn.dx,_,rfl,nw.bq.ins,bF (by decide+kernel),_,rfl,D.nw,D.dn,_,FZ,_,e,rfl,nw,_,rfl,aW (fun c=> ?_) (fun c=> ?_)⟩
 .exact⟨jv,fun H1 l n1 s1 h1=>aO W k (cw ((pj S e a tx).trans (afh (iz c)))) n1 s1 h1⟩
 have he:=iC c;refine⟨_,rfl,h,CH,D.dx,_,_,rfl,W.w.ins,L.h.cl,L.h.nN,dP,D.nw,CB,D.dn.dx,_,_,rfl,nw.bq.ins,L.b.cl,L.b.nR,du,_,rfl,D.dn.r,_,rfl,nw.gR he,_,rfl,D.dn.ra e,a,_,rfl,aJ.of (nw.bq.row e he),_,rfl,aW (fun c1=> ?_) (fun c1=> ?_)⟩
 .exact⟨jv,fun H1 l n1 s1 h1=>aO W k (cw ((pj S e a tx).trans ((afc (fun z=>z he)).trans (afh (dU c1))))) n1 s1 h1⟩
 have ha:=cX c1;refine⟨_,rfl,h,D.dx,_,rfl,W.w.ins,cj (e9 _ (by simp)),h,D,_,_,_,_,_,_,FZ,_,rfl,W.w,_,rfl,aW (fun c2=> ?_) (fun c2=> ?_)⟩
 .exact⟨jv,fun H1 l n1 s1 h1=>aO W k (cw ((pj S e a tx).trans ((afc (fun z=>z he)).trans ((afc (fun z=>z ha)).trans (afh (aff c2)))))) n1 s1 h1⟩
 have d':¬(50<=(agB S.log).2.2\/200<=S.log.length):=fun z=>c2 (afj z)
 have hw:ai0 S (.sense e a tx)=none:=(pj S e a tx).trans ((afc (fun z=>z he)).trans ((afc (fun z=>z ha)).trans (afc d')));refine⟨_,rfl,h,CH,D.dx,_,_,rfl,W.w.ins,L.h.cl,L.h.nT,yD,_,_,rfl,rfl,D.dx,_,W.w.ins,by show 6<1000;decide,?_⟩;have W1:=W.w.count (agB S.log).2.1 ((agB S.log).2.2+1);have k1:Kp (je h D S) H (aE H h (.ins CH D.dx (Af D.nw D.lg D.ed D.ln (agB S.log).2.1 ((agB S.log).2.2+1)))):=Kp.gZ (afY _ (by simp));have Ce:NL _ rl tx:=gD (k1 _ _ gJ (W.T4 rl fr));have Na:=k1 _ _ hn (W.T4 nl fn);refine⟨_,rfl,h,CH,D.dx,_,_,rfl,W1.ins,L.h.cl,L.h.nN,dP,D.nw,D.dn.dx,_,rfl,W1.now.bq.ins,bF (by decide+kernel),_,rfl,h,CH,D.dx,_,_,rfl,W1.ins,L.h.cl,L.h.nT,yD,_,rfl,_,rfl,_,rfl,D.nw,D.dn,_,FZ,_,(agB S.log).2.2+1,e,a,rl,tx,rfl,W1.now,by omega,fun z=> ?_,ah8 _,he,fun z=>ha.resolve_left z,fr,Ce,fun H2 d2 lY fA jX=> ?_⟩
 .have:=(Nv S.log).2 _ z;omega
 have W2:=W1.act lY fA jX (ahx _);have rY:∀c∈FZ,c∉bS D.nw D.dn (agA S.log):=fun c hc z=>W.w.now.bq.fz c z hc
 refine⟨_,rfl,h,D.dx,_,rfl,W2.ins,cj (e9 _ (by simp)),_,rfl,_,rfl,h,nl,rl,_,_,_,_,_,_,_,FZ,_,_,.sense e a tx,rfl,W2,afn _,fn,fr,fA _ _ Na (rY nl fn),fA _ _ Ce (rY rl fr),hz,fun H3 t nt W3 k3=> ?_⟩;refine⟨_,rfl,h,CH,D.dx,_,_,rfl,W3.ins,L.h.cl,L.h.nT,yD,QF,fun H4 l n4 s4 h4=> ?_⟩;exact gK W hw ok (by omega) (fun _ _ _ z=>nomatch z) k (k1.trans (fA.fJ fun c hc=>afI _ hc)) (fun c hc=>(jX c hc).imp id fun z=>eV z) k3 nt n4 s4 W3 h4
abbrev MN:afP:=dC 17
theorem Ja:au ["house","numbers","text","name"] ["house","numbers","text"] (ai MN):=cF
theorem Le(F:b9 K "say" "say" MN f fd)(L:jr P w K mg base CB CH):aT P w K mg base bX 4 f fd ["house","numbers","text"] (gQ CB CH 2):=by
 refine cz F Ja fun _ _ _ _ H _ Q E hr h=> ?_
 obtain⟨h,nl,rl,D,S,FZ,x,rfl,hc,ok,W,fn,fr,hn,gJ,ku,iM,k⟩:=h;obtain⟨n,tx,rfl⟩:=fm hc;have nw:=W.w.now;have hz:=W.st.len;refine⟨_,ae (cY 3 Ja.nd (aG aA (pv 1) ag))
  (ae (aZ (bu (bf (bR (az (pv 0)) L.b.cl L.qE hr (aa (pv 3) ab)))) (af (aq (fN (aa (gY rfl L.v.NB) ab)))) aC)
  (ae (aZ (bf (jK (pv 0) L.h.cl L.full hr)) (af (aq (fN (aa (gY rfl L.v.full) ab)))) aC)
  (ae (aI (bR (az (pv 0)) L.b.cl L.say hr (aa (pv 3) (aa (pv 2) ab))))
  (af (aq (fN (aa ag (aa (bR (pv 0) L.h.cl L.sD hr (aa ag (aa (pv 1) (aa (pv 2) ab)))) ab)))))))),?_⟩
 refine⟨_,rfl,nV (i:=0) hn rfl ?_⟩;refine⟨_,rfl,h,CH,D.dx,_,_,rfl,W.w.ins,L.h.cl,L.h.nN,dP,D.nw,D.dn.dx,_,rfl,nw.bq.ins,bF (by decide+kernel),_,rfl,D.nw,D.dn,_,FZ,_,n,rfl,nw,_,rfl,aW (fun c=> ?_) (fun c=> ?_)⟩
 .exact⟨jv,fun H1 l n1 s1 h1=>aO W k (cw ((Bf S n tx).trans (afh (fT c)))) n1 s1 h1⟩
 have hs:=fW c;refine⟨_,rfl,h,D.dx,_,rfl,W.w.ins,cj (e9 _ (by simp)),h,D,_,_,_,_,_,_,FZ,_,rfl,W.w,_,rfl,aW (fun cf=> ?_) (fun cf=> ?_)⟩
 .exact⟨jv,fun H1 l n1 s1 h1=>aO W k (cw ((Bf S n tx).trans ((afc (fun z=>z hs)).trans (afh (aff cf))))) n1 s1 h1⟩
 have DA:¬200<=S.log.length:=fun z=>cf (afj z)
 have hw:ai0 S (.say n tx)=none:=(Bf S n tx).trans ((afc (fun z=>z hs)).trans (afc DA));refine⟨_,rfl,h,CH,D.dx,_,_,rfl,W.w.ins,L.h.cl,L.h.nN,dP,D.nw,D.dn.dx,_,rfl,nw.bq.ins,bF (by decide+kernel),_,rfl,_,rfl,D.nw,D.dn,_,FZ,_,n,rl,tx,rfl,nw,by omega,hs,fr,gD gJ,fun H2 d2 lY fA jX=> ?_⟩;have W2:=W.w.act lY fA jX (ahx _);have rY:∀c∈FZ,c∉bS D.nw D.dn (agA S.log):=fun c hc z=>nw.bq.fz c z hc
 refine⟨_,rfl,h,D.dx,_,rfl,W2.ins,cj (e9 _ (by simp)),_,rfl,_,rfl,h,nl,rl,_,_,_,_,_,_,_,FZ,_,_,.say n tx,rfl,W2,afn _,fn,fr,fA _ _ hn (rY nl fn),fA _ _ (gD gJ) (rY rl fr),hz,fun H3 t nt W3 k3=>⟨xO,fun H4 l n4 s4 h4=> ?_⟩⟩;exact gK W hw ok (by omega) (fun _ _ _ z=>nomatch z) k (fA.fJ fun c hc=>afI _ hc) jX k3 nt n4 s4 W3 h4
abbrev BK:afP:=dC 19
theorem sY:au ["house","numbers","row","name","target"] ["house","numbers","row"] (ai BK):=cF
theorem EF(F:b9 K "point" "point" BK f fd)(L:jr P w K mg base CB CH):aT P w K mg base bX 4 f fd ["house","numbers","row"] (gQ CB CH 3):=by
 refine cz F sY fun _ _ _ _ H _ Q E hr h=> ?_
 obtain⟨h,nl,rl,D,S,FZ,x,rfl,hc,ok,W,fn,fr,hn,gJ,ku,iM,k⟩:=h;obtain⟨n,t,rfl⟩:=fm hc;have nw:=W.w.now;have hz:=W.st.len;refine⟨_,ae (cY 3 sY.nd (aG aA (pv 1) ag))
  (ae (cY 4 sY.nd (aG aA (pv 1) ag))
  (ae (aZ (bu (bf (bR (az (pv 0)) L.b.cl L.qE hr (aa (pv 3) ab)))) (af (aq (fN (aa (gY rfl L.v.NB) ab)))) aC)
  (ae (aZ (PW.pt (nj (aX yW (pv 4) ag (bc _)) (j6 (bu (bf (bR (az (pv 0)) L.b.cl L.qE hr (aa (pv 4) ab))))))) (af (aq (fN (aa (gY rfl L.v.NB) ab)))) aC)
  (ae (aZ (bf (jK (pv 0) L.h.cl L.full hr)) (af (aq (fN (aa (gY rfl L.v.full) ab)))) aC)
  (ae (aI (bR (az (pv 0)) L.b.cl L.point hr (aa (pv 3) (aa (pv 4) ab))))
  (af (aq (fN (aa ag (aa (bR (pv 0) L.h.cl L.sD hr (aa ag (aa (pv 1) (aa (pv 2) ab)))) ab)))))))))),?_⟩
 refine⟨_,rfl,nV (i:=0) hn rfl ⟨_,rfl,nV (i:=1) hn rfl ?_⟩⟩;refine⟨_,rfl,h,CH,D.dx,_,_,rfl,W.w.ins,L.h.cl,L.h.nN,dP,D.nw,D.dn.dx,_,rfl,nw.bq.ins,bF (by decide+kernel),_,rfl,D.nw,D.dn,_,FZ,_,n,rfl,nw,_,rfl,aW (fun c=> ?_) (fun c=> ?_)⟩
 .exact⟨jv,fun H1 l n1 s1 h1=>aO W k (cw ((ph S n t).trans (afh (.inl (fT c))))) n1 s1 h1⟩
 have hs:=fW c
 suffices hk:(t≠0->t∈aD (agA S.log))->_ by
  refine⟨_,rfl,rfl,_,rfl,aW (fun c1=> ?_) (fun c1=> ?_)⟩
  .have t0:t≠0:=fun z=>by rw[z]at c1;exact absurd c1 (by decide)
   refine⟨_,rfl,h,CH,D.dx,_,_,rfl,W.w.ins,L.h.cl,L.h.nN,dP,D.nw,D.dn.dx,_,rfl,nw.bq.ins,bF (by decide+kernel),_,rfl,D.nw,D.dn,_,FZ,_,t,rfl,nw,_,rfl,aW (fun c2=> ?_) (fun c2=>hk fun _=>fW c2)⟩;exact⟨jv,fun H1 l n1 s1 h1=>aO W k (cw ((ph S n t).trans (afh (.inr ⟨t0,fT c2⟩)))) n1 s1 h1⟩
  .refine hk fun z=>absurd ?_ c1
   exact ne_int z
 intro ht;have Zv:¬(¬n∈aD (agA S.log)\/(t≠0/\¬t∈aD (agA S.log))):=fun z=>z.elim (fun q=>q hs) fun q=>q.2 (ht q.1)
 refine⟨_,rfl,h,D.dx,_,rfl,W.w.ins,cj (e9 _ (by simp)),h,D,_,_,_,_,_,_,FZ,_,rfl,W.w,_,rfl,aW (fun cf=> ?_) (fun cf=> ?_)⟩
 .exact⟨jv,fun H1 l n1 s1 h1=>aO W k (cw ((ph S n t).trans ((afc Zv).trans (afh (aff cf))))) n1 s1 h1⟩
 have DA:¬200<=S.log.length:=fun z=>cf (afj z)
 have hw:ai0 S (.point n t)=none:=(ph S n t).trans ((afc Zv).trans (afc DA));refine⟨_,rfl,h,CH,D.dx,_,_,rfl,W.w.ins,L.h.cl,L.h.nN,dP,D.nw,D.dn.dx,_,rfl,nw.bq.ins,bF (by decide+kernel),_,rfl,_,rfl,D.nw,D.dn,_,FZ,_,n,t,rfl,nw,by omega,hs,fun H2 d2 lY fA jX=> ?_⟩;have W2:=W.w.act lY fA jX (ahx _);have rY:∀c∈FZ,c∉bS D.nw D.dn (agA S.log):=fun c hc z=>nw.bq.fz c z hc
 refine⟨_,rfl,h,D.dx,_,rfl,W2.ins,cj (e9 _ (by simp)),_,rfl,_,rfl,h,nl,rl,_,_,_,_,_,_,_,FZ,_,_,.point n t,rfl,W2,afn _,fn,fr,fA _ _ hn (rY nl fn),fA _ _ (gD gJ) (rY rl fr),hz,fun H3 t nt W3 k3=>⟨xO,fun H4 l n4 s4 h4=> ?_⟩⟩;exact gK W hw ok (by omega) (fun _ _ _ z=>nomatch z) k (fA.fJ fun c hc=>afI _ hc) jX k3 nt n4 s4 W3 h4
def Z6(p:Nat):agX->Prop:=([fun _=>True,fun x=>∃a,x= .dropEntry a,fun x=>∃a,x= .dropSense a,fun x=>∃a b c,x= .newEntry a b c,fun x=>∃a b,x= .moveEntry a b,fun x=>∃a b c d,x= .newSense a b c d,fun x=>∃a b c,x= .moveSense a b c,fun x=>∃a b,x= .say a b,fun x=>∃a b,x= .point a b]:List (agX->Prop)).getD p fun _=>True
theorem MU{x:agX}(h:kh x=p):Z6 p x:=by
 subst h;cases x<;>first|exact⟨_,rfl⟩|exact⟨_,_,rfl⟩|exact⟨_,_,_,rfl⟩|exact⟨_,_,_,_,rfl⟩
inductive ie(CB:afb)(p:Nat)(vs:List V)(H:Hp)(Q:VK)(E:XK):Prop|m:∀(b nl rl:afb) (d:BA) (B:af8) (FZ:List afb) (N:Nat) (x:agX),vs=[.ref b,.ref nl,.ref rl]->kh x=p->aV CB H b d B FZ N->N<50000->NL H nl (ji x)->NL H rl (dj x)->rl∈FZ->(∀(H':Hp) (d':BA) (B':af8),anE B x=some B'->aV CB H' b d' B' FZ (N+1)->Kp (bS b d B) H H'->Gr H (bS b d B) (bS b d' B')->Q (.bl true) H')->(anE B x=none->Q (.bl false) H)->ie CB p vs H Q E
theorem aV.up(h:aV C H b d B FZ N):aV C H b d B FZ (N+1):=h.more (ahx _) (fun _ z=>z) h.bq.fz h.bq.fzt
theorem wR(h:¬e∈names B):agl B e=false:=cg.mpr h
theorem KP(h:¬e∈aD B):ahJ B e=false:=dF.mpr h
theorem isE(h:e∈names B):agl B e=true:=iR.mpr h
theorem Uq(h:e∈aD B):ahJ B e=true:=eC.mpr h
abbrev BB:afP:=dC 90
theorem IW:au ["book","numbers","row"] ["book","numbers","row"] (ai BB):=cF
theorem Ew(F:b9 K "drop_entry" "drop_entry" BB f fd)(L:jr P w K mg base CB CH):aT P w K mg base bX 4 f fd ["book","numbers","row"] (ie CB 1):=by
 refine cz F IW fun _ _ _ _ H _ Q E hr h=> ?_
 obtain⟨b,nl,rl,d,B,FZ,N,x,rfl,hc,hB,hN,hn,gJ,fr,ky,kn⟩:=h;obtain⟨e,rfl⟩:=MU hc;refine⟨_,ae (aZ (bu (bf (bR (pv 0) L.b.cl L.wm hr (aa (aG aA (pv 1) ag) ab)))) (af (aq dy)) aC)
  (ae (aI (bR (pv 0) L.b.cl L.MP hr (aa (aG aA (pv 1) ag) ab)))
  (af (aq dy))),?_⟩
 refine⟨_,rfl,b,d.dx,_,rfl,hB.bq.ins,bF (by decide+kernel),_,rfl,nl,_,_,vn e,rfl,rfl,aJ.of hn,iL (i:=0) rfl,b,d,B,FZ,N,e,rfl,hB,_,rfl,aW (fun c=> ?_) (fun c=> ?_)⟩
 .refine kn ?_;exact afc (by rw[wR (iz c)];decide)
 have he:=iC c;refine⟨_,rfl,b,d.dx,_,rfl,hB.bq.ins,bF (by decide+kernel),_,rfl,nl,_,_,vn e,rfl,rfl,aJ.of hn,iL (i:=0) rfl,b,d,B,FZ,N,e,rfl,hB,he,fun H2 d2 lY fA jX=> ?_⟩;refine ky H2 d2 _ ?_ lY.up fA jX;exact afh (isE he)
abbrev BC:afP:=dC 91
theorem IX:au ["book","numbers","row"] ["book","numbers","row"] (ai BC):=cF
theorem Ex(F:b9 K "drop_sense" "drop_sense" BC f fd)(L:jr P w K mg base CB CH):aT P w K mg base bX 4 f fd ["book","numbers","row"] (ie CB 2):=by
 refine cz F IX fun _ _ _ _ H _ Q E hr h=> ?_
 obtain⟨b,nl,rl,d,B,FZ,N,x,rfl,hc,hB,hN,hn,gJ,fr,ky,kn⟩:=h;obtain⟨e,rfl⟩:=MU hc;refine⟨_,ae (aZ (bu (bf (bR (pv 0) L.b.cl L.qE hr (aa (aG aA (pv 1) ag) ab)))) (af (aq dy)) aC)
  (ae (aI (bR (pv 0) L.b.cl L.MQ hr (aa (aG aA (pv 1) ag) ab)))
  (af (aq dy))),?_⟩
 refine⟨_,rfl,b,d.dx,_,rfl,hB.bq.ins,bF (by decide+kernel),_,rfl,nl,_,_,vn e,rfl,rfl,aJ.of hn,iL (i:=0) rfl,b,d,B,FZ,N,e,rfl,hB,_,rfl,aW (fun c=> ?_) (fun c=> ?_)⟩
 .refine kn ?_;exact afc (by rw[KP (fT c)];decide)
 have he:=fW c;refine⟨_,rfl,b,d.dx,_,rfl,hB.bq.ins,bF (by decide+kernel),_,rfl,nl,_,_,vn e,rfl,rfl,aJ.of hn,iL (i:=0) rfl,b,d,B,FZ,N,e,rfl,hB,he,fun H2 d2 lY fA jX=> ?_⟩;refine ky H2 d2 _ ?_ lY.up fA jX;exact afh (Uq he)
abbrev MJ:afP:=dC 96
theorem PH:au ["book","numbers","row"] ["book","numbers","row"] (ai MJ):=cF
theorem La(F:b9 K "say" "say" MJ f fd)(L:jr P w K mg base CB CH):aT P w K mg base bX 4 f fd ["book","numbers","row"] (ie CB 7):=by
 refine cz F PH fun _ _ _ _ H _ Q E hr h=> ?_
 obtain⟨b,nl,rl,d,B,FZ,N,x,rfl,hc,hB,hN,hn,gJ,fr,ky,kn⟩:=h;obtain⟨e,t,rfl⟩:=MU hc;refine⟨_,ae (aZ (bu (bf (bR (pv 0) L.b.cl L.qE hr (aa (aG aA (pv 1) ag) ab)))) (af (aq dy)) aC)
  (ae (aI (bR (pv 0) L.b.cl L.say hr (aa (aG aA (pv 1) ag) (aa (pv 2) ab))))
  (af (aq dy))),?_⟩
 refine⟨_,rfl,b,d.dx,_,rfl,hB.bq.ins,bF (by decide+kernel),_,rfl,nl,_,_,vn e,rfl,rfl,aJ.of hn,iL (i:=0) rfl,b,d,B,FZ,N,e,rfl,hB,_,rfl,aW (fun c=> ?_) (fun c=> ?_)⟩
 .refine kn ?_;exact afc (by rw[KP (fT c)];decide)
 have he:=fW c;refine⟨_,rfl,b,d.dx,_,rfl,hB.bq.ins,bF (by decide+kernel),_,rfl,nl,_,_,vn e,rfl,rfl,aJ.of hn,iL (i:=0) rfl,_,rfl,b,d,B,FZ,N,e,rl,t,rfl,hB,by omega,he,fr,gJ,fun H2 d2 lY fA jX=> ?_⟩;refine ky H2 d2 _ ?_ lY fA jX;exact afh (Uq he)
abbrev BH:afP:=dC 98
theorem IY:au ["book","numbers","row"] ["book","numbers","row"] (ai BH):=cF
theorem EC(F:b9 K "point" "point" BH f fd)(L:jr P w K mg base CB CH):aT P w K mg base bX 4 f fd ["book","numbers","row"] (ie CB 8):=by
 refine cz F IY fun _ _ _ _ H _ Q E hr h=> ?_
 obtain⟨b,nl,rl,d,B,FZ,N,x,rfl,hc,hB,hN,hn,gJ,fr,ky,kn⟩:=h;obtain⟨e,t,rfl⟩:=MU hc;refine⟨_,ae (aZ (bu (bf (bR (pv 0) L.b.cl L.qE hr (aa (aG aA (pv 1) ag) ab)))) (af (aq dy)) aC)
  (ae (aI (bR (pv 0) L.b.cl L.point hr (aa (aG aA (pv 1) ag) (aa (aG aA (pv 1) ag) ab))))
  (af (aq dy))),?_⟩
 refine⟨_,rfl,b,d.dx,_,rfl,hB.bq.ins,bF (by decide+kernel),_,rfl,nl,_,_,vn e,rfl,rfl,aJ.of hn,iL (i:=0) rfl,b,d,B,FZ,N,e,rfl,hB,_,rfl,aW (fun c=> ?_) (fun c=> ?_)⟩
 .refine kn ?_;exact afc (by rw[KP (fT c)];decide)
 have he:=fW c;refine⟨_,rfl,b,d.dx,_,rfl,hB.bq.ins,bF (by decide+kernel),_,rfl,nl,_,_,vn e,rfl,rfl,aJ.of hn,iL (i:=0) rfl,_,rfl,nl,_,_,vn t,rfl,rfl,aJ.of hn,iL (i:=1) rfl,b,d,B,FZ,N,e,t,rfl,hB,by omega,he,fun H2 d2 lY fA jX=> ?_⟩;refine ky H2 d2 _ ?_ lY fA jX;exact afh (Uq he)
abbrev BD:afP:=dC 92
theorem sW:au ["book","numbers","row","entry","behind"] ["book","numbers","row"] (ai BD):=cF
theorem Ey(F:b9 K "make_entry" "make_entry" BD f fd)(L:jr P w K mg base CB CH):aT P w K mg base bX 4 f fd ["book","numbers","row"] (ie CB 3):=by
 refine cz F sW fun _ _ _ _ H _ Q E hr h=> ?_
 obtain⟨b,nl,rl,d,B,FZ,N,x,rfl,hc,hB,hN,hn,gJ,fr,ky,kn⟩:=h;obtain⟨e,a,wd,rfl⟩:=MU hc;refine⟨_,ae (cY 3 sW.nd (aG aA (pv 1) ag))
  (ae (cY 4 sW.nd (aG aA (pv 1) ag))
  (ae (aZ (PW.pt (jl (aX fU (pv 3) ag (bc _)) (jl (bf (bR (pv 0) L.b.cl L.wm hr (aa (pv 3) ab))) (iI (bu (bf (cn L.place hr rfl (aa (az (pv 0)) (aa (pv 4) ab))))))))) (af (aq dy)) aC)
  (ae (aI (bR (pv 0) L.b.cl L.Np hr (aa (pv 3) (aa (pv 4) (aa (pv 2) ab)))))
  (af (aq dy))))),?_⟩
 have rE:(agl B e=true\/e=0\/(a≠0/\agl B a=false))->Q (.bl false) H:=fun z=>kn (afh z)
 refine⟨_,rfl,nl,_,_,vn e,rfl,rfl,aJ.of hn,iL (i:=0) rfl,_,rfl,nl,_,_,vn a,rfl,rfl,aJ.of hn,iL (i:=1) rfl,?_⟩
 suffices hk:¬(agl B e=true\/e=0\/(a≠0/\agl B a=false))->_ by
  refine⟨_,rfl,rfl,_,rfl,aW (fun c=>rE (.inr (.inl (GR c)))) (fun c=> ?_)⟩;refine⟨_,rfl,b,d.dx,_,rfl,hB.bq.ins,bF (by decide+kernel),_,rfl,b,d,B,FZ,N,e,rfl,hB,_,rfl,aW (fun c1=>rE (.inl c1)) (fun c1=> ?_)⟩;refine⟨_,rfl,b,CB,d.dx,_,_,rfl,hB.bq.ins,L.b.cl,L.b.nO,bP,_,rfl,d.o,a,_,rfl,aJ.of hB.bq.ord,_,rfl,aW (fun c2=> ?_) (fun c2=> ?_)⟩
  .have:=dU c2;exact rE (.inr (.inr ⟨fun z=>this (.inl z),wR fun z=>this (.inr z)⟩))
  .have:=cX c2;refine hk ?_;rintro(z|z|⟨z1,z2⟩)
   .exact c1 z
   .exact GS c z
   .exact cg.mp z2 (this.resolve_left z1)
 intro e9;have he:¬e∈names B:=fun z=>e9 (.inl (isE z))
 have Oy:e≠0:=fun z=>e9 (.inr (.inl z))
 have ha:a≠0->a∈names B:=fun z=>agy fun q=>e9 (.inr (.inr ⟨z,wR q⟩))
 refine⟨_,rfl,b,d.dx,_,rfl,hB.bq.ins,bF (by decide+kernel),_,rfl,_,rfl,_,rfl,b,d,B,FZ,N,e,a,rl,wd,rfl,hB,by omega,he,Oy,ha,fr,gJ,fun H2 d2 lY fA jX=> ?_⟩;refine ky H2 d2 _ ?_ lY fA jX;exact afc e9
abbrev BF:afP:=dC 93
theorem sX:au ["book","numbers","row","entry","behind"] ["book","numbers","row"] (ai BF):=cF
theorem EA(F:b9 K "move_entry" "move_entry" BF f fd)(L:jr P w K mg base CB CH):aT P w K mg base bX 4 f fd ["book","numbers","row"] (ie CB 4):=by
 refine cz F sX fun _ _ _ _ H _ Q E hr h=> ?_
 obtain⟨b,nl,rl,d,B,FZ,N,x,rfl,hc,hB,hN,hn,gJ,fr,ky,kn⟩:=h;obtain⟨e,a,rfl⟩:=MU hc;refine⟨_,ae (cY 3 sX.nd (aG aA (pv 1) ag))
  (ae (cY 4 sX.nd (aG aA (pv 1) ag))
  (ae (aZ (PW.pt (jl (bu (bf (bR (pv 0) L.b.cl L.wm hr (aa (pv 3) ab)))) (jl (aX fU (pv 4) (pv 3) (bc _)) (iI (bu (bf (cn L.place hr rfl (aa (az (pv 0)) (aa (pv 4) ab))))))))) (af (aq dy)) aC)
  (ae (aI (bR (pv 0) L.b.cl L.Nt hr (aa (pv 3) (aa (pv 4) ab))))
  (af (aq dy))))),?_⟩
 have rE:(agl B e=false\/e=a\/(a≠0/\agl B a=false))->Q (.bl false) H:=fun z=>kn (afh z)
 refine⟨_,rfl,nl,_,_,vn e,rfl,rfl,aJ.of hn,iL (i:=0) rfl,_,rfl,nl,_,_,vn a,rfl,rfl,aJ.of hn,iL (i:=1) rfl,?_⟩
 suffices hk:¬(agl B e=false\/e=a\/(a≠0/\agl B a=false))->_ by
  refine⟨_,rfl,b,d.dx,_,rfl,hB.bq.ins,bF (by decide+kernel),_,rfl,b,d,B,FZ,N,e,rfl,hB,_,rfl,aW (fun c1=>rE (.inl (wR (iz c1)))) (fun c1=> ?_)⟩;refine⟨_,rfl,_,rfl,rfl,_,rfl,aW (fun c=>rE (.inr (.inl (by have:=mX c;omega)))) (fun c=> ?_)⟩;refine⟨_,rfl,b,CB,d.dx,_,_,rfl,hB.bq.ins,L.b.cl,L.b.nO,bP,_,rfl,d.o,a,_,rfl,aJ.of hB.bq.ord,_,rfl,aW (fun c2=> ?_) (fun c2=> ?_)⟩
  .have:=dU c2;exact rE (.inr (.inr ⟨fun z=>this (.inl z),wR fun z=>this (.inr z)⟩))
  .have:=cX c2;refine hk ?_;rintro(z|z|⟨z1,z2⟩)
   .exact cg.mp z (iC c1)
   .exact mY c (by rw[z])
   .exact cg.mp z2 (this.resolve_left z1)
 intro e9;have he:e∈names B:=agy fun z=>e9 (.inl (wR z))
 have ha:a≠0->a∈names B/\a≠e:=fun z=>⟨agy fun q=>e9 (.inr (.inr ⟨z,wR q⟩)),fun q=>e9 (.inr (.inl q.symm))⟩
 refine⟨_,rfl,b,d.dx,_,rfl,hB.bq.ins,bF (by decide+kernel),_,rfl,_,rfl,b,d,B,FZ,N,e,a,rfl,hB,by omega,he,ha,fun H2 d2 lY fA jX=> ?_⟩;refine ky H2 d2 _ ?_ lY fA jX;exact afc e9
abbrev BE:afP:=dC 94
theorem oQ:au ["book","numbers","row","sense","entry","behind"] ["book","numbers","row"] (ai BE):=cF
theorem Ez(F:b9 K "make_sense" "make_sense" BE f fd)(L:jr P w K mg base CB CH):aT P w K mg base bX 4 f fd ["book","numbers","row"] (ie CB 5):=by
 refine cz F oQ fun _ _ _ _ H _ Q E hr h=> ?_
 obtain⟨b,nl,rl,d,B,FZ,N,x,rfl,hc,hB,hN,hn,gJ,fr,ky,kn⟩:=h;obtain⟨n,e,a,t,rfl⟩:=MU hc;refine⟨_,ae (cY 3 oQ.nd (aG aA (pv 1) ag))
  (ae (cY 4 oQ.nd (aG aA (pv 1) ag))
  (ae (cY 5 oQ.nd (aG aA (pv 1) ag))
  (ae (aZ (PW.pt (jl (aX fU (pv 3) ag (bc _)) (iI (bf (bR (pv 0) L.b.cl L.qE hr (aa (pv 3) ab)))))) (af (aq dy)) aC)
  (ae (aZ (PW.pt (jl (bu (bf (bR (pv 0) L.b.cl L.wm hr (aa (pv 4) ab)))) (iI (bu (bf (cn L.place hr rfl (aa (bC (bZ hr) (az (pv 0)) (pv 4)) (aa (pv 5) ab)))))))) (af (aq dy)) aC)
  (ae (aI (bR (pv 0) L.b.cl L.Nq hr (aa (pv 3) (aa (pv 4) (aa (pv 5) (aa (pv 2) ab))))))
  (af (aq dy))))))),?_⟩
 have rE:(ahJ B n=true\/n=0\/agl B e=false\/(a≠0/\(entryAt B e).senses.contains a=false))->Q (.bl false) H:=fun z=>kn (afh z)
 refine⟨_,rfl,nl,_,_,vn n,rfl,rfl,aJ.of hn,iL (i:=0) rfl,_,rfl,nl,_,_,vn e,rfl,rfl,aJ.of hn,iL (i:=1) rfl,_,rfl,nl,_,_,vn a,rfl,rfl,aJ.of hn,iL (i:=2) rfl,?_⟩
 suffices hk:¬(n=0\/n∈aD B)->_ by
  refine⟨_,rfl,rfl,_,rfl,aW (fun c=>rE (.inr (.inl (GR c)))) (fun c=> ?_)⟩;refine⟨_,rfl,b,d.dx,_,rfl,hB.bq.ins,bF (by decide+kernel),_,rfl,b,d,B,FZ,N,n,rfl,hB,_,rfl,aW (fun c1=>rE (.inl c1)) (fun c1=> ?_)⟩;exact hk fun z=>z.elim (GS c) fun q=>c1 (Uq q)
 intro e9;have Qv:n≠0:=fun z=>e9 (.inl z)
 have qF:¬n∈aD B:=fun z=>e9 (.inr z)
 suffices RX:e∈names B->(a=0\/a∈dz B e)->_ by
  refine⟨_,rfl,b,d.dx,_,rfl,hB.bq.ins,bF (by decide+kernel),_,rfl,b,d,B,FZ,N,e,rfl,hB,_,rfl,aW (fun c1=>rE (.inr (.inr (.inl (wR (iz c1)))))) (fun c1=> ?_)⟩;have he:=iC c1;refine⟨_,rfl,b,CB,d.dx,_,_,rfl,hB.bq.ins,L.b.cl,L.b.nR,du,_,rfl,d.r,_,rfl,hB.gR he,_,rfl,d.ra e,a,_,rfl,aJ.of (hB.bq.row e he),_,rfl,aW (fun c2=> ?_) (fun c2=>RX he (cX c2))⟩;have:=dU c2;exact rE (.inr (.inr (.inr ⟨fun z=>this (.inl z),pE.mpr fun z=>this (.inr z)⟩)))
 intro he ha;refine⟨_,rfl,b,d.dx,_,rfl,hB.bq.ins,bF (by decide+kernel),_,rfl,_,rfl,_,rfl,_,rfl,b,d,B,FZ,N,n,e,a,rl,t,rfl,hB,by omega,qF,Qv,he,fun z=>ha.resolve_left z,fr,gJ,fun H2 d2 lY fA jX=> ?_⟩;refine ky H2 d2 _ ?_ lY fA jX;refine afc ?_
 .rintro(z|z|z|⟨z1,z2⟩)
  .exact qF (eC.mp z)
  .exact Qv z
  .exact cg.mp z he
  .exact pE.mp z2 (ha.resolve_left z1)
abbrev BG:afP:=dC 95
theorem oR:au ["book","numbers","row","sense","entry","behind"] ["book","numbers","row"] (ai BG):=cF
theorem EB(F:b9 K "move_sense" "move_sense" BG f fd)(L:jr P w K mg base CB CH):aT P w K mg base bX 4 f fd ["book","numbers","row"] (ie CB 6):=by
 refine cz F oR fun _ _ _ _ H _ Q E hr h=> ?_
 obtain⟨b,nl,rl,d,B,FZ,N,x,rfl,hc,hB,hN,hn,gJ,fr,ky,kn⟩:=h;obtain⟨n,e,a,rfl⟩:=MU hc;refine⟨_,ae (cY 3 oR.nd (aG aA (pv 1) ag))
  (ae (cY 4 oR.nd (aG aA (pv 1) ag))
  (ae (cY 5 oR.nd (aG aA (pv 1) ag))
  (ae (aZ (PW.pt (jl (bu (bf (bR (pv 0) L.b.cl L.qE hr (aa (pv 3) ab)))) (iI (aX fU (pv 5) (pv 3) (bc _))))) (af (aq dy)) aC)
  (ae (aZ (PW.pt (jl (bu (bf (bR (pv 0) L.b.cl L.wm hr (aa (pv 4) ab)))) (iI (bu (bf (cn L.place hr rfl (aa (bC (bZ hr) (az (pv 0)) (pv 4)) (aa (pv 5) ab)))))))) (af (aq dy)) aC)
  (ae (aI (bR (pv 0) L.b.cl L.Nu hr (aa (pv 3) (aa (pv 4) (aa (pv 5) ab)))))
  (af (aq dy))))))),?_⟩
 have rE:(ahJ B n=false\/agl B e=false\/n=a\/(a≠0/\(entryAt B e).senses.contains a=false))->Q (.bl false) H:=fun z=>kn (afh z)
 refine⟨_,rfl,nl,_,_,vn n,rfl,rfl,aJ.of hn,iL (i:=0) rfl,_,rfl,nl,_,_,vn e,rfl,rfl,aJ.of hn,iL (i:=1) rfl,_,rfl,nl,_,_,vn a,rfl,rfl,aJ.of hn,iL (i:=2) rfl,?_⟩
 suffices hk:n∈aD B->n≠a->_ by
  refine⟨_,rfl,b,d.dx,_,rfl,hB.bq.ins,bF (by decide+kernel),_,rfl,b,d,B,FZ,N,n,rfl,hB,_,rfl,aW (fun c1=>rE (.inl (KP (fT c1)))) (fun c1=> ?_)⟩;refine⟨_,rfl,_,rfl,rfl,_,rfl,aW (fun c=>rE (.inr (.inr (.inl (by have:=mX c;omega))))) (fun c=> ?_)⟩;exact hk (fW c1) fun z=>mY c (by rw[z])
 intro qF uk
 suffices RX:e∈names B->(a=0\/a∈dz B e)->_ by
  refine⟨_,rfl,b,d.dx,_,rfl,hB.bq.ins,bF (by decide+kernel),_,rfl,b,d,B,FZ,N,e,rfl,hB,_,rfl,aW (fun c1=>rE (.inr (.inl (wR (iz c1))))) (fun c1=> ?_)⟩;have he:=iC c1;refine⟨_,rfl,b,CB,d.dx,_,_,rfl,hB.bq.ins,L.b.cl,L.b.nR,du,_,rfl,d.r,_,rfl,hB.gR he,_,rfl,d.ra e,a,_,rfl,aJ.of (hB.bq.row e he),_,rfl,aW (fun c2=> ?_) (fun c2=>RX he (cX c2))⟩;have:=dU c2;exact rE (.inr (.inr (.inr ⟨fun z=>this (.inl z),pE.mpr fun z=>this (.inr z)⟩)))
 intro he ha;refine⟨_,rfl,b,d.dx,_,rfl,hB.bq.ins,bF (by decide+kernel),_,rfl,_,rfl,_,rfl,b,d,B,FZ,N,n,e,a,rfl,hB,by omega,qF,he,fun z=>⟨ha.resolve_left z,fun q=>uk q.symm⟩,fun H2 d2 lY fA jX=> ?_⟩;refine ky H2 d2 _ ?_ lY fA jX;refine afc ?_
 .rintro(z|z|z|⟨z1,z2⟩)
  .exact dF.mp z qF
  .exact cg.mp z he
  .exact uk z
  .exact pE.mp z2 (ha.resolve_left z1)
structure QH(P:afz)(w:af3)(K:afU)(mg:Str->Option afe)(base:age)(CB:afb)(a:afb)(aQ:List (br×V)):Prop where
 kd:KD P w K a aQ
 P9:∀p:Nat,1<=p/\p<=8->∃(f:afb) (fd:afC),ee aQ (afx (p:Int))=some (.ref f)/\keepIn K (.ref f)=true/\aT P w K mg base bX 4 f fd ["book","numbers","row"] (ie CB p)/\eY K fd ["book","numbers","row"] []
inductive xt(CB:afb)(vs:List V)(H:Hp)(Q:VK)(E:XK):Prop|m:∀(H0:Hp) (b a:afb) (d:BA) (B:af8) (FZ:List afb) (N:Nat) (l:List Int) (ds:List agX),vs=[.ref b,.ref a]->nZ CB H0 H b d B FZ N->N<=1000->IL H a l->a∈FZ->l=ds.flatMap agq->l.length<=20000->(∀(H':Hp) (i:Nat),akm 1 ds B= .error i->0<i->ax H0 H'->Q (vn i) H')->(∀(H':Hp) (d':BA) (B':af8) (cZ:List afb) (N':Nat),akm 1 ds B= .ok B'->N'<100000->aV CB H' b d' B' cZ N'->ax H0 H'->Q (vn 0) H')->xt CB vs H Q E
theorem nZ.add{r:afb}(p:nZ C H H1 b d B FZ N)(s:ax H1 H2)(hr:H1 r=none)(h2:H2 r=some o):nZ C H H2 b d B (r::FZ) N:=by
 refine⟨(p.is.same s).more (afn _) (fun _ z=>afs _ z) (fun a ha z=> ?_) (fun a ha=> ?_),p.same.trans s,p.fr⟩
 .rcases afv.mp z with q|q
  .obtain⟨o',ho⟩:=p.is.gd ha;rw[q,hr]at ho;cases ho
  .exact p.is.bq.fz a ha q
 .rcases afv.mp ha with q|q
  .exact⟨o,by rw[q];exact h2⟩
  .obtain⟨o',ho⟩:=p.is.bq.fzt a q;exact⟨o',s _ _ ho⟩
theorem KH(x:agX):1<=kh x/\kh x<=8:=by cases x<;>exact⟨by simp[kh],by simp[kh]⟩
abbrev FU:afP:=dC 101
theorem CY:au ["book","row","count","start","end"] ["book","row"] (ai FU):=cF
theorem Hw(F:b9 K "first_not_applied" "first_not_applied" FU f fd)(G:lN mg)(mR:mg "DOINGS"=some (.ref R))(hR:QH P w K mg base CB R aQ)(cE:Ca P w K mg base 1 "change_end" ["row","start"] (oY K)):aT P w K mg base bX 5 f fd ["book","row"] (xt CB):=by
 refine cz F CY fun _ _ _ _ H _ Q E hr h=> ?_
 obtain⟨H0,b,a,d,B,FZ,N,l,ds,rfl,hP,hN,hl,T7,Y7,hz,W7,kok⟩:=h;have nd:=CY.nd;refine⟨_,ae (cY 2 nd ag) (ae (cY 3 nd ag)
  (ae (sO af1 (aX vj (pv 3) (aN ay rfl G.len ago (aa (pv 1) ab)) (bc _))
   (ae (lC (i:=2) nd rfl (akb rfl) ag mZ)
   (ae (cY 4 nd (cn cE hr rfl (aa (pv 1) (aa (pv 3) ab))))
   (ae (aZ (bu (bf (oH (w6 (cu (v:= .ref R) rfl mR rfl) (aG aA (pv 1) (pv 3)) (fun _ _=>rfl)) (aa (pv 0) (aa (dq mn (pv 1) (cv (bx eh (pv 3) ag)) (cv (bx eh (pv 3) ag))) (aa (dq mn (pv 1) (cv (bx eh (pv 3) ag)) (cv (pv 4))) ab)))))) (af (aq (pv 2))) aC)
   (af (cY 3 nd (pv 4)))))))
  (af (aq ag)))),?_⟩
 show tQ _ _ _ [some (.ref b),some (.ref a),some (.int 0),some (.int 0),none] H;have h5:=uQ ds;rw[<-Y7]at h5;refine tU (fun σ H'=>∃(i st:Nat) (v4:Option V) (d':BA) (B':af8) (cZ:List afb),σ=[some (.ref b),some (.ref a),some (vn i),some (vn st),v4]/\nZ CB H0 H' b d' B' cZ (N+i)/\a∈cZ/\IL H' a l/\i<=ds.length/\st<=l.length/\l.drop st=(ds.drop i).flatMap agq/\akm 1 ds B=akm (i+1) (ds.drop i) B')
  (fun σ _=>match σ with| [_,_,_,some (.int z),_]=>l.length-z.toNat|_=>0) ⟨0,0,none,d,B,FZ,rfl,hP,T7,hl,afF _,afF _,Y7,rfl⟩ ?_ (fun σ H Q Q' f ⟨v,h1,w,h2,p,ys,h3,h4,i,j,h5,h6,kk,h7,q⟩=>⟨v,h1,w,h2,p,ys,h3,h4,i,j,h5,h6,kk,h7,f _ _ q⟩)
 rintro σ H' ⟨i,st,v4,d',B',cZ,rfl,pv,RF,uj,hi,yE,B9,R7⟩;refine⟨_,rfl,_,rfl,a,_,rfl,.inl (aJ.of uj),_,_,rfl,rfl,_,rfl,aW (fun c=> ?_) (fun c=> ?_)⟩
 .have c':=aff c;rw[ae9]at c';cases hx:ds.drop i with
  |nil=>
   rw[hx]at B9;have:=congrArg ahN B9;rw[agp]at this;simp at this;omega
  |cons x rest=>
   rw[hx,agg]at B9;rw[hx]at R7;have gV:i<ds.length:=by
    have:=congrArg ahN hx;rw[agp,afp]at this;omega
   have Nb:ds.drop (i+1)=rest:=by rw[<-ahA,hx];rfl
   obtain⟨a0,b0,c0,R5,ht⟩:=Mg x (rest.flatMap agq);have Kl:=B9.trans ht;have cG:∀j:Nat,l[st+j]? =(nat (kh x)::nat a0::nat b0::nat c0::nat (dj x).length::((dj x).map nat++rest.flatMap agq))[j]? :=fun j=>by rw[<-Kl,ahX]
   have bY:l.length=st+5+(dj x).length+(rest.flatMap agq).length:=by
    have:=congrArg ahN Kl;rw[agp]at this;simp only[afp,afa,ae9]at this;omega
   obtain⟨fa,MT,e1,e2,e3,e4⟩:=hR.P9 (kh x) (KH x);refine⟨_,rfl,_,_,rfl,rfl,_,rfl,_,rfl,a,l,st,nat (dj x).length,rfl,aJ.of uj,cG 4,?_⟩;refine⟨_,rfl,_,rfl,a,_,_,.int (kh x:Int),rfl,rfl,aJ.of uj,gE (j:=st) rfl (by rw[afw,show l[st]? =some _ from cG 0];rfl),R,aQ,afx (kh x:Int),.ref fa,rfl,hR.kd,rfl,e1,fa,MT,["book","numbers","row"],_,4,rfl,e2,e3,hr,e4,?_⟩;refine⟨_,rfl,_,rfl,_,rfl,_,_,rfl,rfl,_,rfl,_,rfl,_,_,rfl,rfl,_,rfl,a,l,rfl,aJ.of uj,fun H3 nl OZ s3 h3=> ?_⟩;have e5:iq l (some ((st:Int)+1)) (some ((st:Int)+4))=(ji x).map nat:=by
    have:=mJ l (st+1) (st+4);rw[show((st+1:Nat):Int)=(st:Int)+1 by omega,show((st+4:Nat):Int)=(st:Int)+4 by omega]at this;rw[this,aiB,show st+4-(st+1)=3 by omega,<-ahA,Kl,R5];rfl
   rw[show iq l (some ((st:Int)+1)) (some ((st:Int)+4))=_ from e5]at h3;have Kn:=s3 _ _ uj;refine⟨_,rfl,_,rfl,_,_,rfl,rfl,_,rfl,_,rfl,_,rfl,a,l,rfl,aJ.of Kn,fun H4 rl O2 s4 h4=> ?_⟩;have e6:iq l (some ((st:Int)+5)) (some ((st:Int)+5+nat (dj x).length))=(dj x).map nat:=by
    have:=mJ l (st+5) (st+5+(dj x).length);rw[show((st+5:Nat):Int)=(st:Int)+5 by omega,show((st+5+(dj x).length:Nat):Int)=(st:Int)+5+((dj x).length:Nat) by omega]at this;refine this.trans ?_;rw[aiB,ag6,<-ahA,Kl];show((dj x).map nat++_).take _=_;rw[aim (by rw[ae9])]
   rw[show iq l (some ((st:Int)+5)) (some ((st:Int)+5+nat (dj x).length))=_ from e6]at h4;have p4:=(pv.more s3).add s4 O2 h4;have M6:=s4 _ _ Kn;refine⟨b,nl,rl,d',B',rl::cZ,N+i,x,rfl,rfl,p4.is,by omega,gD (s4 _ _ h3),gD h4,af2,fun H5 d5 B5 MX hB5 ZF gr5=> ?_,fun MX=> ?_⟩
   .refine⟨_,rfl,_,rfl,⟨i+1,st+5+(dj x).length,some (vn (st+5+(dj x).length)),d5,B5,rl::cZ,?_,p4.act hB5 ZF gr5,afs _ RF,ZF _ _ M6 (fun z=>p4.is.bq.fz a z (afs _ RF)),gV,by omega,?_,?_⟩,?_⟩
    .show [some (V.ref b),some (V.ref a),some (V.int ((i:Int)+1)),some (V.int ((st:Int)+5+((dj x).length:Nat))),some (V.int ((st:Int)+5+((dj x).length:Nat)))]=_;rw[show(st:Int)+5+((dj x).length:Nat)=((st+5+(dj x).length:Nat):Int) by omega];rfl
    .rw[Nb,<-ahA,<-ahA,Kl];show((dj x).map nat++_).drop _=_;rw[ajR (by rw[ae9])]
    .rw[R7,Nb,akm,MX]
    .show l.length-((st:Int)+5+((dj x).length:Nat)).toNat<l.length-((st:Nat):Int).toNat;omega
   .refine⟨_,rfl,_,rfl,W7 _ (i+1) ?_ (aiD _) p4.same⟩;rw[R7,akm,MX]
 .have c':¬((st:Int)<((l.map V.int).length:Nat)):=fun z=>c (afj z)
  rw[ae9]at c';have e:l.drop st=[]:=agr (by omega);have WE:ds.drop i=[]:=by
   cases q:ds.drop i with
   |nil=>rfl
   |cons x rest=>
    rw[q,e,agg]at B9;have:=congrArg ahN B9;rw[afa,zt,aiO]at this;omega
  rw[WE]at R7;exact kok H' d' B' cZ (N+i) (by rw[R7,akm]) (by omega) pv.is pv.same
inductive xF(K:afU)(C:afb)(vs:List V)(H:Hp)(Q:VK)(E:XK):Prop|m:∀(b:afb) (d:BA) (B:af8) (FZ:List afb) (N n:Nat),vs=[.ref b,vn n]->aV C H b d B FZ N->N<100000->(∀(H':Hp) (t:afb),ax H H'->gF K H' t [vn (afV B n).1,vn (afV B n).2]->Q (.ref t) H')->xF K C vs H Q E
inductive pW(C:afb)(vs:List V)(H:Hp)(Q:VK)(E:XK):Prop|m:∀(b:afb) (d:BA) (B:af8) (FZ:List afb) (N e i:Nat),vs=[.ref b,vn e,vn i]->aV C H b d B FZ N->1<=e->1<=i->Q (vn (ahI B e i)) H->pW C vs H Q E
theorem yQ(h:B.entries[e-1]? =none):ahI B e i=0:=by
 unfold ahI;split
 .rfl
 .rw[h];rfl
theorem qt(he:1<=e)(hi:1<=i)(h:B.entries[e-1]? =some x):ahI B e i=(x.senses[i-1]?).getD 0:=by
 unfold ahI;rw[afc (by omega),h];rfl
abbrev Gd:afP:=dC 79
theorem LQ:au ["book","sense"] ["book","sense"] (ai Gd):=cF
theorem HR(F:b9 K "number_in" "number_in" Gd f fd)(cN:Ca P w K mg base 1 "sense_numbers" ["book"] (tF C))(cA:Ca P w K mg base 1 "number_among" ["numbers","sense"] (oW K)):aT P w K mg base bX 2 f fd ["book","sense"] (xF K C):=by
 refine cz F LQ fun _ _ _ _ H _ Q E hr h=> ?_
 obtain⟨b,d,B,FZ,N,n,rfl,hB,hN,k⟩:=h;refine⟨_,af (aq (cn cA hr rfl (aa (cn cN hr rfl (aa (pv 0) ab)) (aa (pv 1) ab)))),?_⟩;exact⟨_,rfl,b,d,B,FZ,N,rfl,hB,hN,fun H1 p kv na hp hk dk uk s1=>⟨_,rfl,n,p,B,kv,na,rfl,⟨hk,dk,uk⟩,fun t ht=>k H1 t s1 ht⟩⟩
abbrev yh:afP:=dC 80
theorem vA:au ["book","entry_place","sense_place","row"] ["book","entry_place","sense_place"] (ai yh):=cF
theorem Az(F:b9 K "sense_at" "sense_at" yh f fd)(T:mC K mg C)(G:lN mg):aT P w K mg base bX 1 f fd ["book","entry_place","sense_place"] (pW C):=by
 refine cz F vA fun _ _ _ _ H _ Q E hr h=> ?_
 obtain⟨b,d,B,FZ,N,e,i,rfl,hB,he,hi,k⟩:=h;refine⟨_,ae (aZ (aX oF (pv 1) (aN ay rfl G.len ago (aa (az (pv 0)) ab)) (bc _)) (af (aq ag)) aC)
  (ae (cY 3 vA.nd (bC (bZ hr) (az (pv 0)) (aG aA (az (pv 0)) (bx j3 (pv 1) ag))))
  (ae (aZ (aX oF (pv 2) (aN ay rfl G.len ago (aa (pv 3) ab)) (bc _)) (af (aq ag)) aC)
  (af (aq (aG aA (pv 3) (bx j3 (pv 2) ag)))))),?_⟩
 have L0:=hB.bq;have el:((names B).map vn).length=B.entries.length:=by rw[ae9,names,ae9]
 refine⟨_,rfl,_,rfl,b,C,d.dx,_,_,rfl,L0.ins,T.cl,T.nO,bP,d.o,_,rfl,.inl (aJ.of L0.ord),_,_,rfl,rfl,_,rfl,aW (fun c=> ?_) (fun c=> ?_)⟩
 .have c':=aff c;rw[el]at c';rw[yQ (aip (by omega))]at k;exact k
 .have c':¬((((names B).map vn).length:Nat):Int)<(e:Int):=fun z=>c (afj z)
  rw[el]at c';have zM:e-1<B.entries.length:=by omega
  have hx:=afi zM;have px:B.entries[e-1]∈B.entries:=akL zM;have wy:(B.entries[e-1]).name∈names B:=aY.mpr ⟨_,px,rfl⟩;have jR:(names B)[e-1]? =some (B.entries[e-1]).name:=by rw[names,afw,hx];rfl
  refine⟨_,rfl,b,C,d.dx,_,_,rfl,L0.ins,T.cl,T.nR,du,_,rfl,b,C,d.dx,_,_,rfl,L0.ins,T.cl,T.nO,bP,_,rfl,_,_,rfl,rfl,nV (i:=e-1) L0.ord jR ⟨d.r,_,rfl,hB.gR wy,?_⟩ (by omega)⟩;have jE:=hB.row px;refine⟨_,rfl,_,rfl,d.ra _,_,rfl,.inl (aJ.of jE),_,_,rfl,rfl,_,rfl,aW (fun c2=> ?_) (fun c2=> ?_)⟩
  .have c3:=aff c2;rw[ae9]at c3;rw[qt he hi hx,aip (by omega)]at k;exact k
  .have c3:¬((((B.entries[e-1]).senses.map vn).length:Nat):Int)<(i:Int):=fun z=>c2 (afj z)
   rw[ae9]at c3;have gV:i-1<(B.entries[e-1]).senses.length:=by omega
   have hn:=afi gV;rw[qt he hi hx,hn]at k;exact⟨_,rfl,_,rfl,_,_,rfl,rfl,nV (i:=i-1) jE hn k (by omega)⟩
abbrev n2(x:Nat×Nat):List V:=[vn x.1,vn x.2]
theorem jt{ys:List V}(h:gF K H u xs)(k:Kp [q] H H')(hq:H q=some (.ba ys)):gF K H' u xs:=by
 have ne:∀{o:HO},H u=some o->o≠ .ba ys->u∉ [q]:=fun{o} e n z=>by
  have:u=q:=by simpa using z
  rw[this,hq]at e;exact n (aft e).symm
 rcases h with(h|⟨o,h⟩)|h
 .exact .inl (.inl (k _ _ h (ne h (by intro z;cases z))))
 .exact .inl (.inr ⟨o,k _ _ h (ne h (by intro z;cases z))⟩)
 .exact .inr h
theorem gP(e:ax H H')(h:gF K H a xs):gF K H' a xs:=by
 rcases h with(h|⟨o,h⟩)|h
 .exact .inl (.inl (e _ _ h))
 .exact .inl (.inr ⟨o,e _ _ h⟩)
 .exact .inr h
structure rB(K:afU)(H:Hp)(B:af8)(ts:List afb)(ns:List Nat):Prop where
 len:ts.length=ns.length
 cG:∀(i:Nat) (t:afb) (n:Nat),ts[i]? =some t->ns[i]? =some n->∃u v,H t=some (.dY [.ref u,.ref v])/\gF K H u (n2 (afV B n))/\gF K H v (n2 (afV B (afr B n).points))
theorem rB.kp{ns:List Nat}{ys:List V}(h:rB K H B ts ns)(k:Kp [q] H H')(hq:H q=some (.ba ys)):rB K H' B ts ns:=⟨h.len,fun i t n h1 h2=>by
 obtain⟨u,v,h3,h4,h5⟩:=h.cG i t n h1 h2;refine⟨u,v,k _ _ h3 fun z=> ?_,jt h4 k hq,jt h5 k hq⟩;have:t=q:=by simpa using z
 rw[this,hq]at h3;cases h3⟩
theorem rB.same{ns:List Nat}(h:rB K H B ts ns)(s:ax H H'):rB K H' B ts ns:=⟨h.len,fun i t n h1 h2=>by
 obtain⟨u,v,h3,h4,h5⟩:=h.cG i t n h1 h2;exact⟨u,v,s _ _ h3,gP s h4,gP s h5⟩⟩
theorem rB.snoc{ns:List Nat}{t v:afb}(h:rB K H B ts ns)(h3:H t=some (.dY [.ref u,.ref v]))(h4:gF K H u (n2 (afV B n)))(h5:gF K H v (n2 (afV B (afr B n).points))):rB K H B (ts++ [t]) (ns++ [n]):=by
 refine⟨by rw[afa,afa,h.len];rfl,fun i t' n' h1 h2=> ?_⟩;rcases dE h1 with z1|⟨z1,z2⟩
 .rcases dE h2 with y1|⟨y1,y2⟩
  .exact h.cG i t' n' z1 y1
  .have:=(afd.mp z1).1;have:=h.len;omega
 .rcases dE h2 with y1|⟨y1,y2⟩
  .have:=(afd.mp y1).1;have:=h.len;omega
  .subst z2;subst y2;exact⟨u,v,h3,h4,h5⟩
inductive xI(K:afU)(C:afb)(vs:List V)(H:Hp)(Q:VK)(E:XK):Prop|m:∀(b:afb) (d:BA) (B:af8) (FZ:List afb) (N:Nat),vs=[.ref b]->aV C H b d B FZ N->N<100000->(∀(H':Hp) (l:afb) (ts:List afb),ax H H'->H' l=some (.ba (ts.map V.ref))->rB K H' B ts (iU B)->Q (.ref l) H')->xI K C vs H Q E
abbrev ML:afP:=dC 81
theorem sZ:au ["book","numbers","found","sense","target"] ["book"] (ai ML):=cF
theorem Lc(F:b9 K "pointers_of" "pointers_of" ML f fd)(T:mC K mg C)(cN:Ca P w K mg base 1 "sense_numbers" ["book"] (tF C))(cA:Ca P w K mg base 1 "number_among" ["numbers","sense"] (oW K))(mS:Ma P w K mg base 1 C "senses" ["self"] (jO C)):aT P w K mg base bX 2 f fd ["book"] (xI K C):=by
 refine cz F sZ fun _ _ _ _ H _ Q E hr h=> ?_
 obtain⟨b,d,B,FZ,N,rfl,hB,hN,k⟩:=h;refine⟨_,ae (cY 1 sZ.nd (cn cN hr rfl (aa (pv 0) ab)))
  (ae (cY 2 sZ.nd (fN ab))
  (ae (cM af1 rfl (bO (jK (pv 0) T.cl mS hr)) (hJ 3 sZ.nd)
   (ae (cY 4 sZ.nd (bC (bZ hr) (az (pv 0)) (pv 3)))
   (af (aZ (aX yW (pv 4) ag (bc _)) (af (aI (cy afq agc agh de (pv 2) (aa (Xv (aa (bC (bZ hr) (pv 1) (pv 3)) (aa (cn cA hr rfl (aa (pv 1) (aa (pv 4) ab))) ab))) ab)))) aC))))
  (af (aq (pv 2))))),?_⟩
 refine⟨_,rfl,b,d,B,FZ,N,rfl,hB,hN,fun H1 p kv na hp hk dk uk s1=>⟨afF _,fun H2 q nq s2 h2=> ?_⟩⟩;have lY:=hB.same (s1.trans s2);refine⟨_,rfl,b,d.dx,_,rfl,lY.bq.ins,bF (by decide+kernel),b,d,B,FZ,N,rfl,lY,hN,fun H3 sl ns qI s3=> ?_⟩;have n1:Dl H1 p B kv na:=⟨hk,dk,uk⟩;have ZS:∀{a:afb} {o:HO},H1 a=some o->a∉ [q]:=fun e z=>(ak e nq) (by simpa using z)
 have e0:(afD B).length<=N:=hB.ls;refine⟨sl,rfl,⟨_,aJ.of qI⟩,cV (K:=K) (a:=sl) (xs:=(afD B).map vn) (fun i σ H'=>∃(v3 v4:Option V) (ts:List afb),σ=[some (.ref b),some (.ref p),some (.ref q),v3,v4]/\Kp [q] H3 H'/\H' q=some (.ba (ts.map V.ref))/\rB K H' B ts (((afD B).take i).filter fun n=>(afr B n).points !=0))
  ⟨none,none,[],rfl,Kp.refl _ _,s3 _ _ h2,⟨rfl,fun i t n h1=>by simp at h1⟩⟩ (fun i σ H' _ ⟨_,_,_,_,k4,_,_⟩=>aJ.of (k4 _ _ qI fun z=> ?_)) ?_ ?_⟩
 .have:sl=q:=by simpa using z
  rw[this,h2]at ns;cases ns
 .rintro i y σ H' hi ⟨v3,v4,ts,rfl,k4,OD,pa⟩;obtain⟨n,hn,rfl⟩:=eg hi;have Ac:n∈afD B:=afo hn;have qF:n∈aD B:=(hB.wf.same n).mp Ac;have QC:ax H1 H':=fun a o e=>k4 _ _ (s3 _ _ (s2 _ _ e)) (ZS e)
  have YQ:=hB.same (s1.trans QC);refine⟨_,rfl,b,C,d.dx,_,_,rfl,YQ.bq.ins,T.cl,T.nG,dN,_,rfl,d.g,_,rfl,YQ.gG qF,?_⟩;rw[aS hn,agj,afS];refine⟨_,rfl,rfl,_,rfl,aW (fun c=> ?_) (fun c=> ?_)⟩
  .have c0:(afr B n).points≠0:=fun z=>by rw[z]at c;exact absurd c (by decide)
   rw[afh (by simpa using c0)];have n4:=n1.same QC;have hg:ei H' p (vn n) (some (.ref (na n))):=by
    have:=ei.k (k:=afx (n:Int)) n4.cG;rw[dk.get Ac]at this;exact this
   refine⟨_,rfl,.inl ⟨rfl,_,aJ.of OD⟩,_,rfl,_,rfl,p,_,rfl,hg,_,rfl,_,rfl,(afr B n).points,p,B,kv,na,rfl,n4,fun t ht=>⟨xO,fun H5 tu Xq s5 h5=> ?_⟩⟩;have hl:ts.length<=N:=by
    rw[pa.len];refine afu (af6 _ _) ?_;rw[afW];omega
   refine⟨q,_,_,rfl,rfl,s5 _ _ OD,by rw[ae9];exact b8 (by omega),?_⟩;have k6:Kp [q] H5 (aE H5 q (.ba (ts.map V.ref++ [.ref tu]))):=Kp.gZ (by simp);have Sa:=s5 _ _ OD;refine⟨_,_,ts++ [tu],rfl,fun a o e ne=>k6 _ _ (s5 _ _ (k4 a o e ne)) ne,?_,((pa.same s5).kp k6 Sa).snoc (u:=na n) (v:=t) (k6 _ _ h5 fun z=> ?_) (jt (gF.of (s5 _ _ (n4.dY n Ac))) k6 Sa) (jt (gP s5 ht) k6 Sa)⟩
   .rw[aj,afB];rfl
   .have:tu=q:=by simpa using z
    rw[this,OD]at Xq;cases Xq
  .have c0:(afr B n).points=0:=agy fun z=>c (ne_int z)
   rw[afc (by simp[c0])];exact⟨_,_,ts,rfl,k4,OD,by rw[ahG,af5];exact pa⟩
 .rintro σ H' ⟨v3,v4,ts,rfl,k4,OD,pa⟩;rw[ae9,afR]at pa;exact⟨_,rfl,k H' q ts (fun a o e=>k4 _ _ (s3 _ _ (s2 _ _ (s1 _ _ e))) (ZS (s1 _ _ e))) OD pa⟩
theorem yV(w:WF B)(p:Nat):afV B p=(0,0)↔agx B p=0:=by
 by_cases h:p∈afD B
 .obtain⟨x,hx,hn⟩:=dH.mp h;obtain⟨i,hi⟩:=aga hx;obtain⟨j,hj⟩:=aga hn;rw[l8 w hi hj];exact⟨fun z=>by injection z with z;omega,fun z=>absurd z (iu w h).2.1⟩
 .have e:=jV h;exact⟨fun _=>e,fun _=>by unfold afV;rw[afh e]⟩
theorem J1(B:af8):dead B=(iU B).filter fun n=>agx B (afr B n).points==0:=by
 unfold dead iU;rw[alV];refine ajk fun n _=> ?_
 rw[Bool.and_comm]
structure Dk(K:afU)(H:Hp)(B:af8)(us:List afb)(ns:List Nat):Prop where
 len:us.length=ns.length
 cG:∀(i:Nat) (u:afb) (n:Nat),us[i]? =some u->ns[i]? =some n->gF K H u (n2 (afV B n))
theorem Dk.snoc{us:List afb}{ns:List Nat}(h:Dk K H B us ns)(h4:gF K H u (n2 (afV B n))):Dk K H B (us++ [u]) (ns++ [n]):=by
 refine⟨by rw[afa,afa,h.len];rfl,fun i t' n' h1 h2=> ?_⟩;rcases dE h1 with z1|⟨z1,z2⟩
 .rcases dE h2 with y1|⟨y1,y2⟩
  .exact h.cG i t' n' z1 y1
  .have:=(afd.mp z1).1;have:=h.len;omega
 .rcases dE h2 with y1|⟨y1,y2⟩
  .have:=(afd.mp y1).1;have:=h.len;omega
  .subst z2;subst y2;exact h4
inductive AU(K:afU)(C:afb)(vs:List V)(H:Hp)(Q:VK)(E:XK):Prop|m:∀(b:afb) (d:BA) (B:af8) (FZ:List afb) (N:Nat),vs=[.ref b]->aV C H b d B FZ N->N<100000->(∀(H':Hp) (l:afb) (us:List afb),ax H H'->H' l=some (.ba (us.map V.ref))->Dk K H' B us (dead B)->Q (.ref l) H')->AU K C vs H Q E
abbrev vW:afP:=dC 82
theorem xf:au ["book","pointer"] ["book"] (ai vW):=cF
theorem JR:iK ["book","pointer"] (ai vW) (OP (cq vW) 0) [("pointer",1)]:=⟨rfl,by decide+kernel,by decide+kernel,by decide+kernel,by decide+kernel⟩
theorem Ho{nt:afb}(F:b9 K "dead_pointers_of" "dead_pointers_of" vW f fd)(m:mg "NOT_THERE"=some (.ref nt))(hk:ko K nt [vn 0,vn 0])(cP:Ca P w K mg base 2 "pointers_of" ["book"] (xI K C)):aT P w K mg base bX 3 f fd ["book"] (AU K C):=by
 refine cz F xf fun _ _ _ _ H _ Q E hr h=> ?_
 obtain⟨b,d,B,FZ,N,rfl,hB,hN,k⟩:=h;refine⟨_,af (aq (mv (own:=[("pointer",1)]) rfl xf.nd (bO (cn cP hr rfl (aa (pv 0) ab))) JR (fun _ _ _ _ _=>hJ 1 xf.nd)
  (fun _ _ _ _ _=>oK (aX (r:=Pk K) (Pe hr.units) (aG (r:=ER K) eJ (pv 1) ag) (cu (v:= .ref nt) rfl m rfl) (bc _))) (fun _ _ _ _ _=>aG (r:=ER K) eJ (pv 1) ag (fun _ _=>rfl)))),?_⟩
 refine⟨_,rfl,b,d,B,FZ,N,rfl,hB,hN,fun H1 l ts s1 hl pa=>⟨l,rfl,⟨_,aJ.of hl⟩,fun D hD=>jZ (K:=K) (a:=l) (xs:=ts.map V.ref) (fun i H'=>ax H1 H'/\∃us,H' D=some (.ba (us.map V.ref))/\Dk K H' B us (((iU B).take i).filter fun n=>agx B (afr B n).points==0))
  ⟨ax.new hD,[],aj,⟨rfl,fun i u n h1=>by simp at h1⟩⟩ (fun i H' _ h=>aJ.of (h.1 _ _ hl)) ?_ ?_⟩⟩
 .rintro i x H' hi ⟨s2,us,h2,na⟩;obtain⟨t,ht,rfl⟩:∃t,ts[i]? =some t/\x=V.ref t:=by
   rw[afw]at hi;cases e:ts[i]? with
   |none=>rw[e]at hi;cases hi
   |some z=>rw[e]at hi;exact⟨z,rfl,(aft hi).symm⟩
  have gV:i<(iU B).length:=by rw[<-pa.len];exact(afd.mp ht).1
  have hn:=afi gV;obtain⟨u,v,h3,h4,h5⟩:=pa.cG i t _ ht hn;have Fo:=gF.of (K:=K) (s2 _ _ h3);rw[aS hn,agj,afS];refine⟨rfl,_,rfl,t,_,_,_,rfl,rfl,Fo,(show pB [V.ref u,V.ref v] (1:Int)=some (V.ref v)from rfl),v,nt,[_,_],[0,0],rfl,rfl,gP s2 h5,.inr hk,_,rfl,aW (fun c=> ?_) (fun c=> ?_)⟩
  .have c0:afV B (afr B (iU B)[i]).points=(0,0):=by
    have:=aff c;injection this with z1 z2
    injection z2 with z2
    exact Prod.ext (by show(afV B _).1=0;omega) (by show(afV B _).2=0;omega)
   rw[afh (by simpa using(yV hB.wf _).mp c0)];have hul:us.length<=N:=by
    rw[na.len];refine afu (af6 _ _) (afu (by rw[afW];exact ajw _ _) (afu (af6 _ _) hB.ls))
   refine⟨_,rfl,t,_,_,_,rfl,rfl,Fo,(show pB [V.ref u,V.ref v] (0:Int)=some (V.ref u)from rfl),_,h2,by rw[ae9];exact b8 (by omega),?_⟩;have k6:Kp [D] H' (aE H' D (.ba (us.map V.ref++ [.ref u]))):=Kp.gZ (by simp);refine⟨fun a o e=>k6 _ _ (s2 a o e) fun z=>(ak e hD) (by simpa using z),us++ [u],by rw[aj,afB];rfl,Dk.snoc ⟨na.len,fun j u' n' q1 q2=>jt (na.cG j u' n' q1 q2) k6 h2⟩ (jt (gP s2 h4) k6 h2)⟩
  .have c0:¬afV B (afr B (iU B)[i]).points=(0,0):=fun z=>c (afj (by rw[z];rfl))
   rw[afc (by simpa using fun z=>c0 ((yV hB.wf _).mpr z)),ahG,af5];exact⟨s2,us,h2,na⟩
 .rintro H' ⟨s2,us,h2,na⟩;rw[ae9,pa.len,afR,<-J1]at na;exact k H' D us (s1.trans s2) h2 na
def FD(l:List agE)(n:Nat):List Int:=(kT (ahC l n)).map nat++ [nat (ahC l n).length]
inductive xm(CB:afb)(CH:afb)(vs:List V)(H:Hp)(Q:VK)(E:XK):Prop|m:∀(h:afb) (D:HA) (S:afl) (FZ:List afb) (k n:Nat),vs=[.ref h,vn k,vn n]->cb CB CH H h D S FZ->k<=S.editions.length->(∀(H':Hp) (l:afb),ax H H'->IL H' l (FD (S.log.take (ahg S k)) n)->Q (.ref l) H')->xm CB CH vs H Q E
theorem Oe(xs:List V)(j:Nat):x4 xs none (some (j:Int))=xs.take j:=by
 unfold x4;rw[HT.oP,HT.sR,ahV,amd];by_cases q:j<=xs.length
 .rw[ahH q]
 .rw[ajt (by omega),afR,agu (by omega)]
theorem GI(l:List agE)(n:Nat):(ahC l n).length<=l.length:=by
 refine jN (P:=fun l=>(ahC l n).length<=l.length) (afn _) (fun l a ih=> ?_) l;rw[uX,afa,afa];split
 .exact Nat.add_le_add ih (afn _)
 .exact afu ih (agN _ _)
theorem tm(a:agE):alr a=true↔bz a=1:=by cases a<;>simp[alr,bz]
theorem ZC{l:List V}{c:Nat}(h:1<=c/\c<=4)(hl:l.length=4:=by rfl):L2.nV l.length ((c:Int)-1)=some (c-1):=by
 rw[hl];have:c=1\/c=2\/c=3\/c=4:=by omega
 rcases this with e|e|e|e<;>subst e<;>rfl
abbrev Bm:afP:=bt gm 12
theorem y8:au ["self","number","sense","last_lines","count","senses_made","place","line","call","blamed"] ["self","number","sense"] (ai Bm):=cF
theorem Eg(F:b9 K "blame" "House.blame" Bm f fd)(T:zS K mg CH)(G:lN mg)(X:Jt mg)(mL:Ma P w K mg base 1 CH "length" ["self","number"] (E3 CB CH fun _ S k=>vn (ahg S k))):aT P w K mg base bX 2 f fd ["self","number","sense"] (xm CB CH):=by
 refine cz F y8 fun _ _ _ _ H _ Q E hr h=> ?_
 obtain⟨h,D,S,FZ,k,n,rfl,W,hk,q⟩:=h;have nd:=y8.nd;refine⟨_,ae (cY 3 nd (fN (aa ag (aa ag (aa ag (aa ag ab))))))
  (ae (cY 4 nd ag) (ae (cY 5 nd ag)
  (ae (cM af1 rfl (lx rfl G.DF (dq C7 (az (pv 0)) hX (cv (bR (pv 0) T.cl mL hr (aa (pv 1) ab)))) ag) (i8 rfl (bH (hJ 6 nd) (bH (hJ 7 nd) gN)))
   (ae (cY 8 nd (aG eJ (pv 7) ag))
   (ae (aZ (aX fU (pv 8) (gY rfl X.made) (bc _))
    (ae (lC (i:=5) nd rfl (akb rfl) ag mZ) (af (cY 9 nd (pv 5))))
    (af (cY 9 nd (aG aA (aG eJ (pv 7) ag) ag))))
   (af (aZ (PW.pt (nj (lD gT gT (gY rfl X.made) (pv 8) (gY rfl X.Sw)) (j6 (aX fU (pv 9) (pv 2) (bc _)))))
    (ae (Iq (pv 6) (Im (pv 3) (bx j3 (pv 8) ag) zi)) (af (lC (i:=4) nd rfl (akb rfl) ag mZ))) aC)))))
  (af (aq (bx dW (pv 3) (fN (aa (pv 4) ab)))))))),?_⟩
 have hz:=W.st.len;refine⟨by show 4<=sizeLine;decide,fun H1 L nL s1 hL=> ?_⟩;have W1:=W.same s1;refine⟨_,rfl,h,CH,D.dx,_,_,rfl,W1.w.ins,T.cl,T.nL,i7,_,rfl,h,D.dx,_,rfl,W1.w.ins,cj (e9 _ (by simp)),_,rfl,h,D,S,FZ,k,rfl,W1,hk,_,rfl,D.lg,_,rfl,aJ.of W1.w.hl,fun sl Xp=> ?_⟩;rw[Oe,<-aiK];have s2:ax H1 (aE H1 sl (.ba ((D.la.take (ahg S k)).map fun x=>V.ref x.1))):=ax.new Xp;have qI:aE H1 sl (.ba ((D.la.take (ahg S k)).map fun x=>V.ref x.1)) sl=some (.ba ((D.la.take (ahg S k)).map fun x=>V.ref x.1)):=aj;generalize aE H1 sl (.ba ((D.la.take (ahg S k)).map fun x=>V.ref x.1))=H2 at s2 qI⊢;have nLs:sl∉ [L]:=fun z=>by
  have:sl=L:=by simpa using z
  rw[this,hL]at Xp;cases Xp
 have Ab:(D.la.take (ahg S k)).length=(S.log.take (ahg S k)).length:=by rw[afW,afW,W.w.ll]
 have Cb:(S.log.take (ahg S k)).length<=200:=afu (by rw[afW];exact ajw _ _) hz;have Xa:∀(i:Nat) (x:afb×afb×afb) (a:agE),(D.la.take (ahg S k))[i]? =some x->(S.log.take (ahg S k))[i]? =some a->i6 H FZ x a:=fun i x a h1 h2=>by
  rw[List.getElem?_take]at h1 h2;split at h1
  .rename_i z;rw[afh z]at h2;exact W.w.ki i x a h1 h2
  .cases h1
 generalize D.la.take (ahg S k)=la at qI Ab Xa⊢;generalize S.log.take (ahg S k)=lg at q Ab Cb Xa;refine⟨sl,_,_,rfl,rfl,aJ.of qI,by decide,by decide,jD (K:=K) (a:=sl) (xs:=la.map fun x=>V.ref x.1) (c:=1)
  (fun i σ H'=>∃(v6 v7 v8 v9:Option V),σ=[some (.ref h),some (vn k),some (vn n),some (.ref L),some (vn (ahC (lg.take i) n).length),some (vn (sc (lg.take i))),v6,v7,v8,v9]/\Kp [L] H2 H'/\NL H' L (kT (ahC (lg.take i) n)))
  ⟨none,none,none,none,rfl,Kp.refl _ _,s2 _ _ hL⟩ (fun i σ H' _ ⟨_,_,_,_,_,k3,_⟩=>aJ.of (k3 _ _ qI nLs)) ?_ ?_⟩
 .rintro i y σ H' Tu hi ⟨v6,v7,v8,v9,rfl,k3,Jz⟩ hT;obtain⟨x,hx,rfl⟩:=kX hi;have gV:i<lg.length:=by rw[<-Ab];exact(afd.mp hx).1
  have ha:=afi gV;have L1:=Xa i x _ hx ha;generalize lg[i]=a at ha L1;have VD:(1+(i:Nat):Int)=((i+1:Nat):Int):=by omega
  have s4:ax H' (aE H' Tu (.dY [.int (1+(i:Nat)),V.ref x.1])):=ax.new hT;have RE:aE H' Tu (.dY [.int (1+(i:Nat)),V.ref x.1]) Tu=some (.dY [.int (1+(i:Nat)),V.ref x.1]):=aj;generalize aE H' Tu (.dY [.int (1+(i:Nat)),V.ref x.1])=H4 at s4 RE⊢;have s04:ax H H4:=fun b o e=>s4 _ _ (k3 _ _ (s2 _ _ (s1 _ _ e)) fun z=>(ak e nL) (by simpa using z))
  have L4:=L1.same s04;have V5:=s4 _ _ Jz;have ht:=gF.of (K:=K) L4.tu;have hs:=uX (lg.take i) a n;have Qx:=C6 (lg.take i) a;have Oi:(lg.take i).length=i:=by rw[afW];exact ahH (agC gV)
  have bY:(kT (ahC (lg.take i) n)).length=4:=rfl;refine⟨Tu,_,rfl,gF.of RE,rfl,_,_,rfl,_,_,rfl,rfl,?_⟩;refine⟨_,rfl,x.1,_,_,_,rfl,rfl,ht,(show pB [vn (bz a),V.ref x.2.1,V.ref x.2.2] (0:Int)=some (vn (bz a))from rfl),?_⟩;have no:∀{u9:V} {m:Nat},¬((1<=bz a/\bz a<=4)/\kI (sc (lg.take i)+1) a=n)->m=sc (lg.take (i+1))->(∃(v6 v7 v8 v9:Option V),([some (.ref h),some (vn k),some (vn n),some (.ref L),some (vn (ahC (lg.take i) n).length),some (vn m),some (.int (1+(i:Nat))),some (V.ref x.1),some (vn (bz a)),some u9]:L2.St)=[some (.ref h),some (vn k),some (vn n),some (.ref L),some (vn (ahC (lg.take (i+1)) n).length),some (vn (sc (lg.take (i+1)))),v6,v7,v8,v9]/\Kp [L] H2 H4/\NL H4 L (kT (ahC (lg.take (i+1)) n))):=fun{u9 m} z em=>by
   rw[aS ha,hs,afc (fun y=>z ((vH _ _ _).mp y)),af5,<-aS ha,<-em];exact⟨_,_,_,_,rfl,fun b o e ne=>s4 _ _ (k3 b o e ne),V5⟩
  have P9:∀{u9:V} {m:Nat},(1<=bz a/\bz a<=4)->kI (sc (lg.take i)+1) a=n->m=sc (lg.take (i+1))->(∃(v6 v7 v8 v9:Option V),([some (.ref h),some (vn k),some (vn n),some (.ref L),some (.int ((ahC (lg.take i) n).length+1)),some (vn m),some (.int (1+(i:Nat))),some (V.ref x.1),some (vn (bz a)),some u9]:L2.St)=[some (.ref h),some (vn k),some (vn n),some (.ref L),some (vn (ahC (lg.take (i+1)) n).length),some (vn (sc (lg.take (i+1)))),v6,v7,v8,v9]/\Kp [L] H2 (aE H4 L (.ba (((kT (ahC (lg.take i) n)).map vn).set (bz a-1) (.int (1+(i:Nat))))))/\NL (aE H4 L (.ba (((kT (ahC (lg.take i) n)).map vn).set (bz a-1) (.int (1+(i:Nat)))))) L (kT (ahC (lg.take (i+1)) n))):=fun{u9 m} b1 b2 em=>by
   rw[aS ha,hs,afh ((vH _ _ _).mpr ⟨b1,b2⟩),<-aS ha,<-em,afa,DY b1,Aj b1,Oi];refine⟨_,_,_,_,rfl,fun b o e ne=> ?_,?_⟩
   .rw[ao (fun z=>ne (by rw[z];simp))];exact s4 _ _ (k3 b o e ne)
   .show L2.aE _ L _ L=_;rw[aj,anA,VD]
  refine⟨_,rfl,rfl,_,rfl,aW (fun c0=> ?_) (fun c0=> ?_)⟩
  .have h1:bz a=1:=by
    have:=aff c0;injection this with this
    omega
   have eb:kI (sc (lg.take i)+1) a=sc (lg.take i)+1:=by unfold kI;rw[afh h1]
   have em:sc (lg.take i)+1=sc (lg.take (i+1)):=by rw[aS ha,Qx,afh ((tm a).mpr h1)]
   refine⟨_,rfl,_,_,rfl,rfl,_,rfl,?_⟩;refine⟨_,rfl,_,_,rfl,rfl,_,rfl,aW (fun c1=> ?_) (fun c1=> ?_)⟩
   .refine⟨_,_,rfl,rfl,_,rfl,aW (fun c2=> ?_) (fun c2=> ?_)⟩
    .refine⟨_,rfl,_,rfl,rfl,_,rfl,aW (fun c3=> ?_) (fun c3=> ?_)⟩
     .have b1:1<=bz a/\bz a<=4:=⟨by have:=aff c1;omega,by have:=aff c2;omega⟩;have b2:sc (lg.take i)+1=n:=by
       have:V.int (((sc (lg.take i)+1:Nat)):Int)=vn n:=aff c3;injection this with this
       omega
      refine⟨_,rfl,_,rfl,_,rfl,_,_,rfl,rfl,L,_,_,bz a-1,rfl,rfl,V5,ZC b1,_,rfl,_,_,rfl,rfl,?_⟩;exact P9 b1 (eb.trans b2) em
     .exact no (fun z=>c3 (afj (show V.int (((sc (lg.take i)+1:Nat)):Int)=vn n by rw[show sc (lg.take i)+1=n from eb.symm.trans z.2]))) em
    .exact no (fun z=>c2 (afj (by have:=z.1.2;omega))) em
   .exact⟨_,rfl,no (fun z=>c1 (afj (by have:=z.1.1;omega))) em⟩
  .have h1:¬bz a=1:=fun z=>c0 (afj (by rw[z];rfl))
   have eb:kI (sc (lg.take i)+1) a=(eO a).headD 0:=by unfold kI;rw[afc h1]
   have em:sc (lg.take i)=sc (lg.take (i+1)):=by rw[aS ha,Qx,afc (fun z=>h1 ((tm a).mp z))]
   refine⟨_,rfl,x.1,_,_,_,rfl,rfl,ht,(show pB [vn (bz a),V.ref x.2.1,V.ref x.2.2] (1:Int)=some (V.ref x.2.1)from rfl),x.2.1,_,_,vn ((eO a).headD 0),rfl,rfl,aJ.of L4.nu,iL (i:=0) (vi a),?_⟩;refine⟨_,rfl,_,_,rfl,rfl,_,rfl,aW (fun c1=> ?_) (fun c1=> ?_)⟩
   .refine⟨_,_,rfl,rfl,_,rfl,aW (fun c2=> ?_) (fun c2=> ?_)⟩
    .refine⟨_,rfl,_,rfl,rfl,_,rfl,aW (fun c3=> ?_) (fun c3=> ?_)⟩
     .have b1:1<=bz a/\bz a<=4:=⟨by have:=aff c1;omega,by have:=aff c2;omega⟩;have b2:(eO a).headD 0=n:=by
       have:V.int ((((eO a).headD 0:Nat)):Int)=vn n:=aff c3;injection this with this
       omega
      refine⟨_,rfl,_,rfl,_,rfl,_,_,rfl,rfl,L,_,_,bz a-1,rfl,rfl,V5,ZC b1,_,rfl,_,_,rfl,rfl,?_⟩;exact P9 b1 (eb.trans b2) em
     .exact no (fun z=>c3 (afj (show V.int ((((eO a).headD 0:Nat)):Int)=vn n by rw[show(eO a).headD 0=n from eb.symm.trans z.2]))) em
    .exact no (fun z=>c2 (afj (by have:=z.1.2;omega))) em
   .exact⟨_,rfl,no (fun z=>c1 (afj (by have:=z.1.1;omega))) em⟩
 .rintro σ H' ⟨v6,v7,v8,v9,rfl,k3,Jz⟩;rw[ae9,Ab,afR]at Jz⊢;have hh:=GI lg n;refine⟨_,rfl,_,rfl,jv,fun H5 m5 n5 s5 h5=>⟨L,m5,_,[nat (ahC lg n).length],rfl,rfl,jx (s5 _ _ Jz),h5,?_,fun H6 m6 n6 s6 h6=> ?_⟩⟩
  .show 4+1<=_
   decide
  .exact q H6 m6 (fun b o e=>s6 _ _ (s5 _ _ (k3 _ _ (s2 _ _ (s1 _ _ e)) fun z=>(ak e nL) (by simpa using z)))) h6
structure kF(P:afz)(w:af3)(K:afU)(mg:Str->Option afe)(base:age)(CB CH:afb):Prop where
 a:jr P w K mg base CB CH
 Oc:Ca P w K mg base 3 "copied" ["book"] (lI CB)
 printed:Ca P w K mg base 4 "printed" ["book"] (pV CB)
 chb:Ca P w K mg base 5 "changes_between" ["first","second"] (tL CB changes)
 Hi:Ca P w K mg base 2 "number_in" ["book","sense"] (xF K CB)
 senseAt:Ca P w K mg base 1 "sense_at" ["book","entry_place","sense_place"] (pW CB)
 iU:Ca P w K mg base 2 "pointers_of" ["book"] (xI K CB)
 Ri:Ca P w K mg base 3 "dead_pointers_of" ["book"] (AU K CB)
 are:Ca P w K mg base 5 "are_changes" ["row"] (Jb K)
 first:Ca P w K mg base 5 "first_not_applied" ["book","row"] (xt CB)
 Xz:Ca P w K mg base 4 "read" ["row"] A0
 Su:Ma P w K mg base 1 CH "no_more_editions" ["self"] (tD CB CH fun _ _ _ bs=> .bl (decide (10<=bs.length)))
 freeze:Ma P w K mg base 4 CH "freeze" ["self"] (tw CB CH)
 length:Ma P w K mg base 1 CH "length" ["self","number"] (E3 CB CH fun _ S k=>vn (ahg S k))
 VM:Ma P w K mg base 1 CH "errata" ["self","edition"] (xr CB CH)
 Vy:Ma P w K mg base 4 CH "corrected" ["self","edition"] (AS CB CH)
 blame:Ma P w K mg base 2 CH "blame" ["self","number","sense"] (xm CB CH)
 senses:Ma P w K mg base 1 CB "senses" ["self"] (jO CB)
abbrev BL:afP:=dC 127
theorem zg:au ["house","numbers","row"] ["house","numbers","row"] (ai BL):=cF
theorem EG(F:b9 K "print_book" "print_book" BL f fd)(L:kF P w K mg base CB CH):aT P w K mg base bX 6 f fd ["house","numbers","row"] (gQ CB CH 10):=by
 refine cz F zg fun _ _ _ _ H _ Q E hr h=> ?_
 obtain⟨h,nl,rl,D,S,FZ,x,rfl,hc,ok,W,fn,fr,hn,gJ,ku,iM,k⟩:=h;obtain⟨kk,rfl⟩:=fm hc;have hz:=W.st.len;have nd:=zg.nd;have hk:kk<=S.editions.length:=ku kk (by simp[dh,bk,bK,fL]);have st:=xN hk;refine⟨_,af (aq (bx dW (fN (aa ag ab)) (cn L.printed hr rfl (aa (bR (pv 0) L.a.h.cl L.a.book hr (aa (aG aA (pv 1) ag) ab)) ab)))),?_⟩;rw[st,afp,ae9]at iM;refine⟨jv,fun H1 l1 n1 s1 h1=> ?_⟩;have W1:=W.same s1;refine⟨_,rfl,h,D.dx,_,rfl,W1.w.ins,cj (e9 _ (by simp)),_,rfl,nl,_,_,vn kk,rfl,rfl,aJ.of (s1 _ _ hn),iL (i:=0) rfl,h,D,S,FZ,kk,rfl,W1,hk,(bQ D kk).1,(bQ D kk).2,_,FZ,_,rfl,W1.book hk,by omega,by omega,fun H2 l2 n2 h2 s2=>⟨l1,l2,[0],_,rfl,rfl,s2 _ _ h1,jx h2,by rw[ae9];show 1+_<=_;omega,fun H3 l3 n3 s3 h3=> ?_⟩⟩;exact aO W k st ((s1.trans s2).free n3) (s1.trans (s2.trans s3)) h3
abbrev FL:afP:=dC 128
theorem CU:au ["house","numbers","row"] ["house","numbers","row"] (ai FL):=cF
theorem Hn(F:b9 K "corrected" "corrected" FL f fd)(L:kF P w K mg base CB CH):aT P w K mg base bX 6 f fd ["house","numbers","row"] (gQ CB CH 11):=by
 refine cz F CU fun _ _ _ _ H _ Q E hr h=> ?_
 obtain⟨h,nl,rl,D,S,FZ,x,rfl,hc,ok,W,fn,fr,hn,gJ,ku,iM,k⟩:=h;obtain⟨kk,rfl⟩:=fm hc;have hz:=W.st.len;have nd:=CU.nd;have hk:kk<=S.editions.length:=ku kk (by simp[dh,bk,bK,fL]);have st:=tO hk;refine⟨_,af (aq (bx dW (fN (aa ag ab)) (cn L.printed hr rfl (aa (bR (pv 0) L.a.h.cl L.Vy hr (aa (aG aA (pv 1) ag) ab)) ab)))),?_⟩;rw[st,afp,ae9]at iM;refine⟨jv,fun H1 l1 n1 s1 h1=> ?_⟩;have W1:=W.same s1;refine⟨_,rfl,h,D.dx,_,rfl,W1.w.ins,cj (e9 _ (by simp)),_,rfl,nl,_,_,vn kk,rfl,rfl,aJ.of (s1 _ _ hn),iL (i:=0) rfl,h,D,S,FZ,kk,rfl,W1,ok,hk,fun H2 b d N hN hB s2=>⟨b,d,_,FZ,N,rfl,hB,by omega,by omega,fun H3 l3 n3 h3 s3=>⟨l1,l3,[0],_,rfl,rfl,s3 _ _ (s2 _ _ h1),jx h3,by rw[ae9];show 1+_<=_;omega,fun H4 l4 n4 s4 h4=> ?_⟩⟩⟩;exact aO W k st ((s1.trans (s2.trans s3)).free n4) (s1.trans (s2.trans (s3.trans s4))) h4
abbrev MG:afP:=dC 131
theorem IU:au ["house","numbers","row"] ["house","numbers","row"] (ai MG):=cF
theorem K8(F:b9 K "number" "number" MG f fd)(L:kF P w K mg base CB CH):aT P w K mg base bX 6 f fd ["house","numbers","row"] (gQ CB CH 14):=by
 refine cz F IU fun _ _ _ _ H _ Q E hr h=> ?_
 obtain⟨h,nl,rl,D,S,FZ,x,rfl,hc,ok,W,fn,fr,hn,gJ,ku,iM,k⟩:=h;obtain⟨kk,n,rfl⟩:=fm hc;have hz:=W.st.len;have nd:=IU.nd;have hk:kk<=S.editions.length:=ku kk (by simp[dh,bk,bK,fL]);have st:=zo (n:=n) hk;refine⟨_,af (aq (bx dW (fN (aa ag ab)) (gX iO rfl L.a.g.list amn (aa (cn L.Hi hr rfl (aa (bR (pv 0) L.a.h.cl L.a.book hr (aa (aG aA (pv 1) ag) ab)) (aa (aG aA (pv 1) ag) ab))) ab)))),?_⟩;refine⟨jv,fun H1 l1 n1 s1 h1=> ?_⟩;have W1:=W.same s1;refine⟨_,rfl,h,D.dx,_,rfl,W1.w.ins,cj (e9 _ (by simp)),_,rfl,nl,_,_,vn kk,rfl,rfl,aJ.of (s1 _ _ hn),iL (i:=0) rfl,h,D,S,FZ,kk,rfl,W1,hk,_,rfl,nl,_,_,vn n,rfl,rfl,aJ.of (s1 _ _ hn),iL (i:=1) rfl,(bQ D kk).1,(bQ D kk).2,_,FZ,_,n,rfl,W1.book hk,by omega,fun H2 t s2 ht=>⟨t,_,rfl,.inr ht,fun l3 n3=> ?_⟩⟩;have s3:ax H2 (aE H2 l3 (.ba [vn (afV (agm S kk) n).1,vn (afV (agm S kk) n).2])):=ax.new n3;refine⟨l1,l3,[0],two (afV (agm S kk) n),rfl,rfl,s3 _ _ (s2 _ _ h1),aj,by show 1+2<=_;decide,fun H4 l4 n4 s4 h4=> ?_⟩;exact aO W k st ((s1.trans (s2.trans s3)).free n4) (s1.trans (s2.trans (s3.trans s4))) h4
abbrev Gb:afP:=dC 132
theorem C3:au ["house","numbers","row"] ["house","numbers","row"] (ai Gb):=cF
theorem HQ(F:b9 K "name" "name" Gb f fd)(L:kF P w K mg base CB CH):aT P w K mg base bX 6 f fd ["house","numbers","row"] (gQ CB CH 15):=by
 refine cz F C3 fun _ _ _ _ H _ Q E hr h=> ?_
 obtain⟨h,nl,rl,D,S,FZ,x,rfl,hc,ok,W,fn,fr,hn,gJ,ku,iM,k⟩:=h;obtain⟨kk,e,i,rfl⟩:=fm hc;have hz:=W.st.len;have nd:=C3.nd;have hk:kk<=S.editions.length:=ku kk (by simp[dh,bk,bK,fL]);have st:=E8 (e:=e) (i:=i) hk;refine⟨_,af (aq (fN (aa ag (aa (cn L.senseAt hr rfl (aa (bR (pv 0) L.a.h.cl L.a.book hr (aa (aG aA (pv 1) ag) ab)) (aa (aG aA (pv 1) ag) (aa (aG aA (pv 1) ag) ab)))) ab)))),?_⟩;refine⟨_,rfl,h,D.dx,_,rfl,W.w.ins,cj (e9 _ (by simp)),_,rfl,nl,_,_,vn kk,rfl,rfl,aJ.of hn,iL (i:=0) rfl,h,D,S,FZ,kk,rfl,W,hk,_,rfl,nl,_,_,vn e,rfl,rfl,aJ.of hn,iL (i:=1) rfl,_,rfl,nl,_,_,vn i,rfl,rfl,aJ.of hn,iL (i:=2) rfl,(bQ D kk).1,(bQ D kk).2,_,FZ,_,e,i,rfl,W.book hk,ok.1,ok.2,xO,fun H1 l1 n1 s1 h1=> ?_⟩;exact aO W k st n1 s1 h1
abbrev Bo:afP:=dC 133
theorem za:au ["house","numbers","row","sense"] ["house","numbers","row"] (ai Bo):=cF
theorem Ei(F:b9 K "carry" "carry" Bo f fd)(L:kF P w K mg base CB CH):aT P w K mg base bX 6 f fd ["house","numbers","row"] (gQ CB CH 16):=by
 refine cz F za fun _ _ _ _ H _ Q E hr h=> ?_
 obtain⟨h,nl,rl,D,S,FZ,x,rfl,hc,ok,W,fn,fr,hn,gJ,ku,iM,k⟩:=h;obtain⟨kk,e,i,jj,rfl⟩:=fm hc;have hz:=W.st.len;have nd:=za.nd;have hk:kk<=S.editions.length:=ku kk (by simp[dh,bk,bK,fL]);have hj:jj<=S.editions.length:=ku jj (by simp[dh,bk,bK,fL]);have st:=A5 (e:=e) (i:=i) hk hj;refine⟨_,ae (cY 3 nd (cn L.senseAt hr rfl (aa (bR (pv 0) L.a.h.cl L.a.book hr (aa (aG aA (pv 1) ag) ab)) (aa (aG aA (pv 1) ag) (aa (aG aA (pv 1) ag) ab)))))
  (ae (aZ (aX fU (pv 3) ag (bc _)) (af (aq (fN (aa (gY rfl L.a.v.NB) ab)))) aC)
  (af (aq (bx dW (fN (aa ag ab)) (gX iO rfl L.a.g.list amn (aa (cn L.Hi hr rfl (aa (bR (pv 0) L.a.h.cl L.a.book hr (aa (aG aA (pv 1) ag) ab)) (aa (pv 3) ab))) ab)))))),?_⟩
 refine⟨_,rfl,h,D.dx,_,rfl,W.w.ins,cj (e9 _ (by simp)),_,rfl,nl,_,_,vn kk,rfl,rfl,aJ.of hn,iL (i:=0) rfl,h,D,S,FZ,kk,rfl,W,hk,_,rfl,nl,_,_,vn e,rfl,rfl,aJ.of hn,iL (i:=1) rfl,_,rfl,nl,_,_,vn i,rfl,rfl,aJ.of hn,iL (i:=2) rfl,(bQ D kk).1,(bQ D kk).2,_,FZ,_,e,i,rfl,W.book hk,ok.1,ok.2,?_⟩;refine⟨_,rfl,rfl,_,rfl,aW (fun c=> ?_) (fun c=> ?_)⟩
 .rw[afh (GR c)]at st;exact⟨jv,fun H1 l n1 s1 h1=>aO W k st n1 s1 h1⟩
 rw[afc (GS c)]at st;refine⟨jv,fun H1 l1 n1 s1 h1=> ?_⟩;have W1:=W.same s1;refine⟨_,rfl,h,D.dx,_,rfl,W1.w.ins,cj (e9 _ (by simp)),_,rfl,nl,_,_,vn jj,rfl,rfl,aJ.of (s1 _ _ hn),iL (i:=3) rfl,h,D,S,FZ,jj,rfl,W1,hj,_,rfl,(bQ D jj).1,(bQ D jj).2,_,FZ,_,_,rfl,W1.book hj,by omega,fun H2 t s2 ht=>⟨t,_,rfl,.inr ht,fun l3 n3=> ?_⟩⟩;have s3:=ax.new (o:= .ba [vn (afV (agm S jj) (ahI (agm S kk) e i)).1,vn (afV (agm S jj) (ahI (agm S kk) e i)).2]) n3;refine⟨l1,l3,[0],two (afV (agm S jj) (ahI (agm S kk) e i)),rfl,rfl,s3 _ _ (s2 _ _ h1),aj,by show 1+2<=_;decide,fun H4 l4 n4 s4 h4=> ?_⟩;exact aO W k st ((s1.trans (s2.trans s3)).free n4) (s1.trans (s2.trans (s3.trans s4))) h4
abbrev Bn:afP:=dC 136
theorem y9:au ["house","numbers","row"] ["house","numbers","row"] (ai Bn):=cF
theorem Eh(F:b9 K "blame" "blame" Bn f fd)(L:kF P w K mg base CB CH):aT P w K mg base bX 6 f fd ["house","numbers","row"] (gQ CB CH 19):=by
 refine cz F y9 fun _ _ _ _ H _ Q E hr h=> ?_
 obtain⟨h,nl,rl,D,S,FZ,x,rfl,hc,ok,W,fn,fr,hn,gJ,ku,iM,k⟩:=h;obtain⟨kk,n,rfl⟩:=fm hc;have hz:=W.st.len;have nd:=y9.nd;have hk:kk<=S.editions.length:=ku kk (by simp[dh,bk,bK,fL]);have st:=A4 (n:=n) hk;refine⟨_,ae (aZ (bu (bf (bR (bR (pv 0) L.a.h.cl L.a.book hr (aa (aG aA (pv 1) ag) ab)) L.a.b.cl L.a.qE hr (aa (aG aA (pv 1) ag) ab)))) (af (aq (fN (aa (gY rfl L.a.v.NB) ab)))) aC)
  (af (aq (bx dW (fN (aa ag ab)) (bR (pv 0) L.a.h.cl L.blame hr (aa (aG aA (pv 1) ag) (aa (aG aA (pv 1) ag) ab)))))),?_⟩
 have hB:=W.book hk;refine⟨_,rfl,h,D.dx,_,rfl,W.w.ins,cj (e9 _ (by simp)),_,rfl,nl,_,_,vn kk,rfl,rfl,aJ.of hn,iL (i:=0) rfl,h,D,S,FZ,kk,rfl,W,hk,(bQ D kk).1,(bQ D kk).2.dx,_,rfl,hB.bq.ins,bF (by decide+kernel),_,rfl,nl,_,_,vn n,rfl,rfl,aJ.of hn,iL (i:=1) rfl,(bQ D kk).1,(bQ D kk).2,_,FZ,_,n,rfl,hB,_,rfl,aW (fun c=> ?_) (fun c=> ?_)⟩
 .rw[afc (fT c)]at st;exact⟨jv,fun H1 l n1 s1 h1=>aO W k st n1 s1 h1⟩
 rw[afh (fW c)]at st;refine⟨jv,fun H1 l1 n1 s1 h1=> ?_⟩;have W1:=W.same s1;refine⟨_,rfl,h,D.dx,_,rfl,W1.w.ins,cj (e9 _ (by simp)),_,rfl,nl,_,_,vn kk,rfl,rfl,aJ.of (s1 _ _ hn),iL (i:=0) rfl,_,rfl,nl,_,_,vn n,rfl,rfl,aJ.of (s1 _ _ hn),iL (i:=1) rfl,h,D,S,FZ,kk,n,rfl,W1,hk,fun H2 l2 s2 h2=>⟨l1,l2,[0],_,rfl,rfl,s2 _ _ h1,h2,by show 1+5<=_;decide,fun H3 l3 n3 s3 h3=> ?_⟩⟩;exact aO W k st ((s1.trans s2).free n3) (s1.trans (s2.trans s3)) h3
abbrev Bq:afP:=dC 137
theorem zc:au ["house","numbers","row"] ["house","numbers","row"] (ai Bq):=cF
theorem Ek(F:b9 K "check" "check" Bq f fd)(L:kF P w K mg base CB CH):aT P w K mg base bX 6 f fd ["house","numbers","row"] (gQ CB CH 20):=by
 refine cz F zc fun _ _ _ _ H _ Q E hr h=> ?_
 obtain⟨h,nl,rl,D,S,FZ,x,rfl,hc,ok,W,fn,fr,hn,gJ,ku,iM,k⟩:=h;obtain⟨t,rfl⟩:=fm hc;have hz:=W.st.len;have nd:=zc.nd;refine⟨_,af (aq (bx dW (fN (aa ag ab)) (cn L.Xz hr rfl (aa (pv 2) ab)))),?_⟩;have st:=A6 (S:=S) (t:=t);rw[st,afp]at iM;refine⟨jv,fun H1 l1 n1 s1 h1=> ?_⟩;have e:(anR t).map nat=t:=vh fun c hc=>(ok.2 c hc).1
 refine⟨_,rfl,rl,anR t,rfl,gD (by rw[e];exact s1 _ _ gJ),by rw[kU];have:=ok.1;omega,fun H2 l2 n2 s2 h2=>⟨l1,l2,[0],_,rfl,rfl,s2 _ _ h1,h2,by show 1+_<=_;omega,fun H3 l3 n3 s3 h3=> ?_⟩⟩;exact aO W k st ((s1.trans s2).free n3) (s1.trans (s2.trans s3)) h3
abbrev Gk:afP:=dC 140
theorem C5:au ["house","numbers","row","book"] ["house","numbers","row"] (ai Gk):=cF
theorem HY(F:b9 K "size" "size" Gk f fd)(L:kF P w K mg base CB CH):aT P w K mg base bX 6 f fd ["house","numbers","row"] (gQ CB CH 23):=by
 refine cz F C5 fun _ _ _ _ H _ Q E hr h=> ?_
 obtain⟨h,nl,rl,D,S,FZ,x,rfl,hc,ok,W,fn,fr,hn,gJ,ku,iM,k⟩:=h;obtain⟨kk,rfl⟩:=fm hc;have hz:=W.st.len;have nd:=C5.nd;have hk:kk<=S.editions.length:=ku kk (by simp[dh,bk,bK,fL]);have st:=E9 hk;refine⟨_,ae (cY 3 nd (bR (pv 0) L.a.h.cl L.a.book hr (aa (aG aA (pv 1) ag) ab)))
  (af (aq (fN (aa ag (aa (bR (pv 0) L.a.h.cl L.length hr (aa (aG aA (pv 1) ag) ab)) (aa (aN ay rfl L.a.g.len ago (aa (az (pv 3)) ab)) (aa (aN ay rfl L.a.g.len ago (aa (jK (pv 3) L.a.b.cl L.senses hr) ab)) ab))))))),?_⟩
 have hB:=W.book hk;refine⟨_,rfl,h,D.dx,_,rfl,W.w.ins,cj (e9 _ (by simp)),_,rfl,nl,_,_,vn kk,rfl,rfl,aJ.of hn,iL (i:=0) rfl,h,D,S,FZ,kk,rfl,W,hk,_,rfl,h,D.dx,_,rfl,W.w.ins,cj (e9 _ (by simp)),_,rfl,nl,_,_,vn kk,rfl,rfl,aJ.of hn,iL (i:=0) rfl,h,D,S,FZ,kk,rfl,W,hk,_,rfl,(bQ D kk).1,CB,(bQ D kk).2.dx,_,_,rfl,hB.bq.ins,L.a.b.cl,L.a.b.nO,bP,(bQ D kk).2.o,_,rfl,.inl (aJ.of hB.bq.ord),_,rfl,(bQ D kk).1,(bQ D kk).2.dx,_,rfl,hB.bq.ins,bF (by decide+kernel),(bQ D kk).1,(bQ D kk).2,_,FZ,_,rfl,hB,by omega,fun H1 l1 n1 h1 s1=>⟨l1,_,rfl,.inl (aJ.of h1),by show 4<=sizeLine;decide,fun H2 l2 n2 s2 h2=> ?_⟩⟩;refine aO W k st (s1.free n2) (s1.trans s2) ?_;have e1:((names (agm S kk)).map vn).length=(agm S kk).entries.length:=by rw[ae9,names,ae9]
 have e2:((afD (agm S kk)).map vn).length=(agm S kk).senses.length:=by
  have p:(afD (agm S kk)).Perm (aD (agm S kk)):=(List.perm_ext_iff_of_nodup hB.wf.an hB.wf.sn).mpr hB.wf.same;rw[ae9,p.length_eq,aD,ae9]
 rw[e1,e2]at h2;exact h2
abbrev BO:afP:=dC 141
theorem zh:au ["house","numbers","row"] ["house","numbers","row"] (ai BO):=cF
theorem EJ(F:b9 K "state" "state" BO f fd)(L:kF P w K mg base CB CH):aT P w K mg base bX 6 f fd ["house","numbers","row"] (gQ CB CH 24):=by
 refine cz F zh fun _ _ _ _ H _ Q E hr h=> ?_
 obtain⟨h,nl,rl,D,S,FZ,x,rfl,hc,ok,W,fn,fr,hn,gJ,ku,iM,k⟩:=h;obtain rfl:=fm hc;have hz:=W.st.len;have nd:=zh.nd;refine⟨_,af (aq (bx dW (fN (aa ag (aa (aN ay rfl L.a.g.len ago (aa (az (pv 0)) ab)) (aa (az (pv 0)) (aa (az (pv 0)) (aa (aN ay rfl L.a.g.len ago (aa (az (pv 0)) ab)) ab)))))) (az (pv 0)))),?_⟩;have st:ahl S .state=(S,[0,nat S.log.length,nat (agB S.log).2.1,nat (agB S.log).2.2,nat S.editions.length]++S.editions.map nat):=rfl;have he:=W.st.BV;refine⟨_,rfl,h,CH,D.dx,_,_,rfl,W.w.ins,L.a.h.cl,L.a.h.nL,i7,D.lg,_,rfl,.inl (aJ.of W.w.hl),_,rfl,h,CH,D.dx,_,_,rfl,W.w.ins,L.a.h.cl,L.a.h.nM,yC,_,rfl,h,CH,D.dx,_,_,rfl,W.w.ins,L.a.h.cl,L.a.h.nT,yD,_,rfl,h,CH,D.dx,_,_,rfl,W.w.ins,L.a.h.cl,L.a.h.nE,pL,D.ed,_,rfl,.inl (aJ.of W.w.he),by show 5<=sizeLine;decide,fun H1 l1 n1 s1 h1=> ?_⟩;have W1:=W.same s1;rw[ae9,W.w.ll,ae9,W.w.el,gU]at h1;refine⟨_,rfl,h,CH,D.dx,_,_,rfl,W1.w.ins,L.a.h.cl,L.a.h.nS,Ae,l1,D.ln,[0,nat S.log.length,nat (agB S.log).2.1,nat (agB S.log).2.2,nat S.editions.length],_,rfl,rfl,h1,jx W1.w.hn,by rw[ae9];show 5+_<=_;omega,fun H2 l2 n2 s2 h2=> ?_⟩;exact aO W k st (s1.free n2) (s1.trans s2) h2
theorem lW{α:Type}(f:α->List Int)(l:List α)(i:Nat):((l.take i).flatMap f).length<=(l.flatMap f).length:=by
 conv=>rhs;rw[<-agI i l,agF,afa]
 exact agN _ _
theorem fS{α:Type}(f:α->List Int){l:List α}{x:α}(h:l[i]? =some x):(l.take (i+1)).flatMap f=(l.take i).flatMap f++f x:=by
 rw[aS h,agF];simp
structure Gw(H:Hp)(m:afb)(H':Hp)(l:List Int):Prop where
 kp:Kp [m] H H'
 cG:IL H' m l
theorem Gw.gZ{m:afb}{l:List Int}(g:Gw H m H' l)(s:ax H' H2):Gw H m (aE H2 m (.ba (l.map V.int++r.map V.int))) (l++r):=by
 refine⟨fun a o e n=> ?_,?_⟩
 .rw[ao (fun z=>n (by rw[z];simp))];exact s _ _ (g.kp a o e n)
 .show L2.aE _ m _ m=_;rw[aj,afB]
theorem Gw.same{H0:Hp}{m:afb}{l:List Int}(g:Gw H m H' l)(s:ax H0 H)(n:H0 m=none):ax H0 H':=fun a o e=>g.kp a o (s a o e) fun z=>(ak e n) (by simpa using z)
abbrev Mv:afP:=dC 129
theorem IH:au ["house","numbers","row","found","answer","change"] ["house","numbers","row"] (ai Mv):=cF
theorem KW(F:b9 K "changes" "changes" Mv f fd)(L:kF P w K mg base CB CH):aT P w K mg base bX 6 f fd ["house","numbers","row"] (gQ CB CH 12):=by
 refine cz F IH fun _ _ _ _ H _ Q E hr h=> ?_
 obtain⟨h,nl,rl,D,S,FZ,x,rfl,hc,ok,W,fn,fr,hn,gJ,ku,iM,k⟩:=h;obtain⟨kk,jj,rfl⟩:=fm hc;have hz:=W.st.len;have nd:=IH.nd;refine⟨_,ae (cY 3 nd (cn L.chb hr rfl (aa (bR (pv 0) L.a.h.cl L.a.book hr (aa (aG aA (pv 1) ag) ab)) (aa (bR (pv 0) L.a.h.cl L.a.book hr (aa (aG aA (pv 1) ag) ab)) ab))))
  (ae (cY 4 nd (fN (aa ag (aa (aN ay rfl L.a.g.len ago (aa (pv 3) ab)) ab))))
  (ae (cM af1 rfl (bO (pv 3)) (hJ 5 nd) (af (aI (cy afq af0 af7 dJ (pv 4) (aa (pv 5) ab)))))
  (af (aq (pv 4))))),?_⟩
 have hk:kk<=S.editions.length:=ku kk (by simp[dh,bk,bK,fL]);have hj:jj<=S.editions.length:=ku jj (by simp[dh,bk,bK,fL]);have st:=xM hk hj;have sh:=W.st.short jj;rw[st,afp,afp]at iM;refine⟨_,rfl,h,D.dx,_,rfl,W.w.ins,cj (e9 _ (by simp)),_,rfl,nl,_,_,vn kk,rfl,rfl,aJ.of hn,iL (i:=0) rfl,h,D,S,FZ,kk,rfl,W,hk,_,rfl,h,D.dx,_,rfl,W.w.ins,cj (e9 _ (by simp)),_,rfl,nl,_,_,vn jj,rfl,rfl,aJ.of hn,iL (i:=1) rfl,h,D,S,FZ,jj,rfl,W,hj,(bQ D kk).1,(bQ D jj).1,(bQ D kk).2,(bQ D jj).2,_,_,FZ,_,rfl,W.book hk,W.book hj,by omega,fun e he=>afu (sh.1 e he) (by decide),fun e he=>afu (sh.2 e he) (by decide),fun H1 F nF hF s1=> ?_⟩;obtain⟨as,hA,ca⟩:=hF;generalize changes (agm S kk) (agm S jj)=cs at iM st ca;refine⟨_,rfl,F,_,rfl,.inl (aJ.of hA),xO,fun H2 m nm s2 h2=> ?_⟩;rw[ae9,ca.len]at h2;have OX:F∉ [m]:=fun z=>by rw[<-show F=m by simpa using z,hA]at nm;cases nm
 refine⟨_,rfl,F,rfl,⟨_,aJ.of (s2 _ _ hA)⟩,cV (K:=K) (a:=F) (xs:=as.map V.ref) (fun i σ H'=>∃v5:Option V,σ=[some (.ref h),some (.ref nl),some (.ref rl),some (.ref F),some (.ref m),v5]/\Gw H2 m H' ([0,nat cs.length]++(cs.take i).flatMap agq))
  ⟨none,rfl,Kp.refl _ _,h2⟩ (fun i σ H' _ ⟨_,_,g⟩=>aJ.of (g.kp _ _ (s2 _ _ hA) OX)) ?_ ?_⟩
 .rintro i y σ H' hi ⟨v5,rfl,g⟩;obtain⟨x,hx,rfl⟩:=kX hi;have gV:i<cs.length:=by rw[<-ca.len];exact(afd.mp hx).1
  have hg:=afi gV;have hc:=ca.cG i x _ hx hg;have ow:IL H' x (agq cs[i]):=g.kp _ _ (s2 _ _ hc) fun z=>by rw[<-show x=m by simpa using z,hc]at nm;cases nm
  have Fs:=lW agq cs (i+1);rw[fS agq hg,afa]at Fs;refine⟨_,rfl,.inl ⟨rfl,_,aJ.of g.cG⟩,_,rfl,m,x,_,_,rfl,rfl,g.cG,ow,?_,?_⟩
  .rw[ae9,ae9,afa];exact agC (uw (by show 2+_+_<=_;omega))
  .refine⟨_,rfl,?_⟩;rw[fS agq hg,<-afQ];exact g.gZ (ax.refl _)
 .rintro σ H' ⟨v5,rfl,g⟩;rw[ae9,ca.len,afR]at g;exact⟨_,rfl,aO W k st (s1.free nm) (g.same (s1.trans s2) (s1.free nm)) g.cG⟩
abbrev MK:afP:=dC 134
theorem IZ:au ["house","numbers","row","found","answer","sense_number","target_number"] ["house","numbers","row"] (ai MK):=cF
theorem Lb(F:b9 K "pointers" "pointers" MK f fd)(L:kF P w K mg base CB CH):aT P w K mg base bX 6 f fd ["house","numbers","row"] (gQ CB CH 17):=by
 refine cz F IZ fun _ _ _ _ H _ Q E hr h=> ?_
 obtain⟨h,nl,rl,D,S,FZ,x,rfl,hc,ok,W,fn,fr,hn,gJ,ku,iM,k⟩:=h;obtain⟨kk,rfl⟩:=fm hc;have hz:=W.st.len;have nd:=IZ.nd;refine⟨_,ae (cY 3 nd (cn L.iU hr rfl (aa (bR (pv 0) L.a.h.cl L.a.book hr (aa (aG aA (pv 1) ag) ab)) ab)))
  (ae (cY 4 nd (fN (aa ag (aa (aN ay rfl L.a.g.len ago (aa (pv 3) ab)) ab))))
  (ae (cM af1 rfl (bO (pv 3)) (i8 rfl (bH (hJ 5 nd) (bH (hJ 6 nd) gN))) (ae (aI (cy afq af0 af7 qX (pv 4) (aa (pv 5) ab))) (af (aI (cy afq af0 af7 qX (pv 4) (aa (pv 6) ab))))))
  (af (aq (pv 4))))),?_⟩
 have hk:kk<=S.editions.length:=ku kk (by simp[dh,bk,bK,fL]);have st:=uv hk;rw[st,afp,afp]at iM;refine⟨_,rfl,h,D.dx,_,rfl,W.w.ins,cj (e9 _ (by simp)),_,rfl,nl,_,_,vn kk,rfl,rfl,aJ.of hn,iL (i:=0) rfl,h,D,S,FZ,kk,rfl,W,hk,(bQ D kk).1,(bQ D kk).2,_,FZ,_,rfl,W.book hk,by omega,fun H1 F ts s1 hF pa=> ?_⟩;generalize agm S kk=B at iM st pa;refine⟨_,rfl,F,_,rfl,.inl (aJ.of hF),xO,fun H2 m nm s2 h2=> ?_⟩;rw[ae9,pa.len]at h2;have OX:F∉ [m]:=fun z=>by rw[<-show F=m by simpa using z,hF]at nm;cases nm
 refine⟨_,rfl,F,rfl,⟨_,aJ.of (s2 _ _ hF)⟩,cV (K:=K) (a:=F) (xs:=ts.map V.ref) (fun i σ H'=>∃v5 v6:Option V,σ=[some (.ref h),some (.ref nl),some (.ref rl),some (.ref F),some (.ref m),v5,v6]/\Gw H2 m H' ([0,nat (iU B).length]++((iU B).take i).flatMap fun n=>two (afV B n)++two (afV B (afr B n).points)))
  ⟨none,none,rfl,Kp.refl _ _,h2⟩ (fun i σ H' _ ⟨_,_,_,g⟩=>aJ.of (g.kp _ _ (s2 _ _ hF) OX)) ?_ ?_⟩
 .rintro i y σ H' hi ⟨v5,v6,rfl,g⟩;obtain⟨x,hx,rfl⟩:=kX hi;have gV:i<(iU B).length:=by rw[<-pa.len];exact(afd.mp hx).1
  have hg:=afi gV;obtain⟨u,v,h3,h4,h5⟩:=pa.cG i x _ hx hg;have Fo:H' x=some (.dY [.ref u,.ref v]):=g.kp _ _ (s2 _ _ h3) fun z=>by rw[<-show x=m by simpa using z,h3]at nm;cases nm
  have Kg:H2 m=some (.ba ([0,nat (iU B).length].map V.int)):=h2;have Ki:=jt (gP s2 h4) g.kp Kg;have h5':=jt (gP s2 h5) g.kp Kg;have Fs:=lW (fun n=>two (afV B n)++two (afV B (afr B n).points)) (iU B) (i+1);rw[fS _ hg,afa,afa]at Fs;refine⟨x,_,rfl,gF.of Fo,rfl,_,_,rfl,_,_,rfl,rfl,?_⟩;refine⟨_,rfl,.inl ⟨rfl,_,aJ.of g.cG⟩,_,rfl,m,u,_,_,rfl,rfl,g.cG,Ki,?_,?_⟩
  .rw[ae9,afa];exact agC (uw (by show 2+_+2<=_;have:(two (afV B (iU B)[i])).length=2:=rfl;omega))
  have g1:=g.gZ (r:=two (afV B (iU B)[i])) (ax.refl _);have VZ:=jt h5' (show Kp [m] H' (aE H' m (.ba (([0,nat (iU B).length]++((iU B).take i).flatMap fun n=>two (afV B n)++two (afV B (afr B n).points)).map V.int++(two (afV B (iU B)[i])).map V.int)))from Kp.gZ (by simp)) g.cG;refine⟨_,rfl,.inl ⟨rfl,_,aJ.of g1.cG⟩,_,rfl,m,v,_,_,rfl,rfl,g1.cG,VZ,?_,?_⟩
  .rw[ae9,afa,afa];exact agC (uw (by show 2+_+2+2<=_;have:(two (afV B (iU B)[i])).length=2:=rfl;have:(two (afV B (afr B (iU B)[i]).points)).length=2:=rfl;omega))
  .refine⟨_,_,rfl,?_⟩;rw[fS _ hg,<-afQ,<-afQ];exact g1.gZ (r:=two (afV B (afr B (iU B)[i]).points)) (ax.refl _)
 .rintro σ H' ⟨v5,v6,rfl,g⟩;rw[ae9,pa.len,afR]at g;exact⟨_,rfl,aO W k st (s1.free nm) (g.same (s1.trans s2) (s1.free nm)) g.cG⟩
abbrev FN:afP:=dC 135
theorem CV:au ["house","numbers","row","found","answer","sense_number"] ["house","numbers","row"] (ai FN):=cF
theorem Hq(F:b9 K "dead" "dead" FN f fd)(L:kF P w K mg base CB CH):aT P w K mg base bX 6 f fd ["house","numbers","row"] (gQ CB CH 18):=by
 refine cz F CV fun _ _ _ _ H _ Q E hr h=> ?_
 obtain⟨h,nl,rl,D,S,FZ,x,rfl,hc,ok,W,fn,fr,hn,gJ,ku,iM,k⟩:=h;obtain⟨kk,rfl⟩:=fm hc;have hz:=W.st.len;have nd:=CV.nd;refine⟨_,ae (cY 3 nd (cn L.Ri hr rfl (aa (bR (pv 0) L.a.h.cl L.a.book hr (aa (aG aA (pv 1) ag) ab)) ab)))
  (ae (cY 4 nd (fN (aa ag (aa (aN ay rfl L.a.g.len ago (aa (pv 3) ab)) ab))))
  (ae (cM af1 rfl (bO (pv 3)) (hJ 5 nd) (af (aI (cy afq af0 af7 qX (pv 4) (aa (pv 5) ab)))))
  (af (aq (pv 4))))),?_⟩
 have hk:kk<=S.editions.length:=ku kk (by simp[dh,bk,bK,fL]);have st:=E6 hk;rw[st,afp,afp]at iM;refine⟨_,rfl,h,D.dx,_,rfl,W.w.ins,cj (e9 _ (by simp)),_,rfl,nl,_,_,vn kk,rfl,rfl,aJ.of hn,iL (i:=0) rfl,h,D,S,FZ,kk,rfl,W,hk,(bQ D kk).1,(bQ D kk).2,_,FZ,_,rfl,W.book hk,by omega,fun H1 F us s1 hF pa=> ?_⟩;generalize agm S kk=B at iM st pa;refine⟨_,rfl,F,_,rfl,.inl (aJ.of hF),xO,fun H2 m nm s2 h2=> ?_⟩;rw[ae9,pa.len]at h2;have OX:F∉ [m]:=fun z=>by rw[<-show F=m by simpa using z,hF]at nm;cases nm
 refine⟨_,rfl,F,rfl,⟨_,aJ.of (s2 _ _ hF)⟩,cV (K:=K) (a:=F) (xs:=us.map V.ref) (fun i σ H'=>∃v5:Option V,σ=[some (.ref h),some (.ref nl),some (.ref rl),some (.ref F),some (.ref m),v5]/\Gw H2 m H' ([0,nat (dead B).length]++((dead B).take i).flatMap fun n=>two (afV B n)))
  ⟨none,rfl,Kp.refl _ _,h2⟩ (fun i σ H' _ ⟨_,_,g⟩=>aJ.of (g.kp _ _ (s2 _ _ hF) OX)) ?_ ?_⟩
 .rintro i y σ H' hi ⟨v5,rfl,g⟩;obtain⟨x,hx,rfl⟩:=kX hi;have gV:i<(dead B).length:=by rw[<-pa.len];exact(afd.mp hx).1
  have hg:=afi gV;have h4:=pa.cG i x _ hx hg;have Kg:H2 m=some (.ba ([0,nat (dead B).length].map V.int)):=h2;have Ki:=jt (gP s2 h4) g.kp Kg;have Fs:=lW (fun n=>two (afV B n)) (dead B) (i+1);rw[fS _ hg,afa]at Fs;refine⟨_,rfl,.inl ⟨rfl,_,aJ.of g.cG⟩,_,rfl,m,x,_,_,rfl,rfl,g.cG,Ki,?_,?_⟩
  .rw[ae9,afa];exact agC (uw (by show 2+_+2<=_;have:(two (afV B (dead B)[i])).length=2:=rfl;omega))
  .refine⟨_,rfl,?_⟩;rw[fS _ hg,<-afQ];exact g.gZ (r:=two (afV B (dead B)[i])) (ax.refl _)
 .rintro σ H' ⟨v5,rfl,g⟩;rw[ae9,pa.len,afR]at g;exact⟨_,rfl,aO W k st (s1.free nm) (g.same (s1.trans s2) (s1.free nm)) g.cG⟩
abbrev Mx:afP:=dC 138
theorem II:au ["house","numbers","row","found","book","answer","call","told","text"] ["house","numbers","row"] (ai Mx):=cF
theorem KZ(F:b9 K "errata" "errata" Mx f fd)(L:kF P w K mg base CB CH):aT P w K mg base bX 6 f fd ["house","numbers","row"] (gQ CB CH 21):=by
 refine cz F II fun _ _ _ _ H _ Q E hr h=> ?_
 obtain⟨h,nl,rl,D,S,FZ,x,rfl,hc,ok,W,fn,fr,hn,gJ,ku,iM,k⟩:=h;obtain⟨kk,rfl⟩:=fm hc;have hz:=W.st.len;have nd:=II.nd;refine⟨_,ae (cY 3 nd (bR (pv 0) L.a.h.cl L.VM hr (aa (aG aA (pv 1) ag) ab)))
  (ae (cY 4 nd (bR (pv 0) L.a.h.cl L.a.book hr (aa (aG aA (pv 1) ag) ab)))
  (ae (cY 5 nd (fN (aa ag (aa (aN ay rfl L.a.g.len ago (aa (pv 3) ab)) ab))))
  (ae (cM af1 rfl (bO (pv 3)) (i8 rfl (bH (hJ 6 nd) (bH (hJ 7 nd) (bH (hJ 8 nd) gN)))) (ae (aI (cy afq af0 af7 qX (pv 5) (aa (cn L.Hi hr rfl (aa (pv 4) (aa (aG aA (pv 7) ag) ab))) ab))) (ae (aI (cy afq agc agh de (pv 5) (aa (aN ay rfl L.a.g.len ago (aa (pv 8) ab)) ab))) (af (aI (cy afq af0 af7 dJ (pv 5) (aa (pv 8) ab)))))))
  (af (aq (pv 5)))))),?_⟩
 have hk:kk<=S.editions.length:=ku kk (by simp[dh,bk,bK,fL]);have st:=zl hk;rw[st,afp,afp]at iM;refine⟨_,rfl,h,D.dx,_,rfl,W.w.ins,cj (e9 _ (by simp)),_,rfl,nl,_,_,vn kk,rfl,rfl,aJ.of hn,iL (i:=0) rfl,h,D,S,FZ,kk,rfl,W,fun H1 F ls nF s1 hF li=> ?_⟩;have W1:=W.same s1;have hB:=W1.book hk;refine⟨_,rfl,h,D.dx,_,rfl,W1.w.ins,cj (e9 _ (by simp)),_,rfl,nl,_,_,vn kk,rfl,rfl,aJ.of (s1 _ _ hn),iL (i:=0) rfl,h,D,S,FZ,kk,rfl,W1,hk,?_⟩;have hm:∀a∈S.log.filter (fj kk),bz a=8:=fun a ha=>by
  have:=(afM.mp ha).2;exact eq_of_beq ((afy _ _).mp this).1
 rw[pH,ae9,amt]at st;rw[pH,amt]at iM;generalize S.log.filter (fj kk)=as at iM st li hm;generalize agm S kk=B at iM st hB;refine⟨_,rfl,F,_,rfl,.inl (aJ.of hF),xO,fun H2 m nm s2 h2=> ?_⟩;rw[ae9,li.len]at h2;have OX:F∉ [m]:=fun z=>by rw[<-show F=m by simpa using z,hF]at nm;cases nm
 refine⟨_,rfl,F,rfl,⟨_,aJ.of (s2 _ _ hF)⟩,cV (K:=K) (a:=F) (xs:=ls.map fun x=>V.ref x.1) (fun i σ H'=>∃v6 v7 v8:Option V,σ=[some (.ref h),some (.ref nl),some (.ref rl),some (.ref F),some (.ref (bQ D kk).1),some (.ref m),v6,v7,v8]/\Gw H2 m H' ([0,nat as.length]++(as.take i).flatMap fun a=>two (afV B (e8 a).1)++alA (e8 a).2))
  ⟨none,none,none,rfl,Kp.refl _ _,h2⟩ (fun i σ H' _ ⟨_,_,_,_,g⟩=>aJ.of (g.kp _ _ (s2 _ _ hF) OX)) ?_ ?_⟩
 .rintro i y σ H' hi ⟨v6,v7,v8,rfl,g⟩;obtain⟨x,hx,rfl⟩:=kX hi;have gV:i<as.length:=by rw[<-li.len];exact(afd.mp hx).1
  have hg:=afi gV;have L1:=li.cG i x _ hx hg;have Zk:=hm _ (akL gV);have UB:=g.same s2 nm;have Fs:=lW (fun a=>two (afV B (e8 a).1)++alA (e8 a).2) as (i+1);rw[fS _ hg,afa,afa]at Fs;rw[fS _ hg];generalize as[i]=a at hg L1 Zk Fs
  match a,Zk with
  | .erratum k2 n t,_=>
  have t2:(two (afV B (e8 (.erratum k2 n t)).1)).length=2:=rfl;have t3:(alA (e8 (.erratum k2 n t)).2).length=t.length+1:=by show(t.map nat).length+1=_;rw[ae9]
  rw[t2,t3]at Fs;have mq:=L1.same UB;have B7:=hB.same UB;refine⟨x.1,_,rfl,gF.of mq.tu,rfl,_,_,rfl,_,_,rfl,_,_,rfl,rfl,?_⟩;refine⟨_,rfl,.inl ⟨rfl,_,aJ.of g.cG⟩,_,rfl,_,rfl,x.2.1,_,_,vn n,rfl,rfl,aJ.of mq.nu,iL (i:=1) rfl,(bQ D kk).1,(bQ D kk).2,B,FZ,_,n,rfl,B7,by omega,fun H3 t3 s3 ht3=>⟨m,t3,_,_,rfl,rfl,s3 _ _ g.cG,ht3,?_,?_⟩⟩
  .rw[ae9,afa];exact agC (uw (by show 2+_+2<=_;omega))
  have g1:=g.gZ (r:=two (afV B n)) s3;have s1s:=g1.same s2 nm;have ro1:=s1s _ _ L1.ro;refine⟨_,rfl,.inl ⟨rfl,_,aJ.of g1.cG⟩,_,rfl,x.2.2,_,rfl,.inl (aJ.of ro1),m,_,_,rfl,rfl,g1.cG,?_,?_⟩
  .rw[ae9,afa,afa];exact uw (by show 2+_+2<=_;omega)
  have g2:=g1.gZ (r:=[nat t.length]) (ax.refl _);have s1t:=g2.same s2 nm;have ro2:=s1t _ _ L1.ro;rw[ae9];refine⟨_,rfl,.inl ⟨rfl,_,aJ.of g2.cG⟩,_,rfl,m,x.2.2,_,_,rfl,rfl,g2.cG,ro2,?_,?_⟩
  .rw[ae9,ae9,afa,afa,afa];exact agC (uw (by show 2+_+2+1+t.length<=_;omega))
  .refine⟨_,_,_,rfl,?_⟩;have g3:=g2.gZ (r:=t.map nat) (ax.refl _);have e:[0,nat as.length]++((as.take i).flatMap (fun a=>two (afV B (e8 a).1)++alA (e8 a).2)++(two (afV B (e8 (.erratum k2 n t)).1)++alA (e8 (.erratum k2 n t)).2))=[0,nat as.length]++(as.take i).flatMap (fun a=>two (afV B (e8 a).1)++alA (e8 a).2)++two (afV B n)++ [nat t.length]++t.map nat:=by
    rw[<-afQ,<-afQ,afQ (bs:=[nat t.length])];rfl
   rw[e];have e2:(t.map nat).map V.int=t.map vn:=by rw[ag4];rfl
   rw[e2]at g3;exact g3
 .rintro σ H' ⟨v6,v7,v8,rfl,g⟩;rw[ae9,li.len,afR]at g;exact⟨_,rfl,aO W k st (s1.free nm) (g.same (s1.trans s2) (s1.free nm)) g.cG⟩
abbrev BI:afP:=dC 130
theorem zf:au ["house","numbers","row","book","wrong"] ["house","numbers","row"] (ai BI):=cF
theorem ED(F:b9 K "patch" "patch" BI f fd)(L:kF P w K mg base CB CH):aT P w K mg base bX 6 f fd ["house","numbers","row"] (gQ CB CH 13):=by
 refine cz F zf fun _ _ _ _ H _ Q E hr h=> ?_
 obtain⟨h,nl,rl,D,S,FZ,x,rfl,hc,ok,W,fn,fr,hn,gJ,ku,iM,k⟩:=h;obtain⟨kk,l,rfl⟩:=fm hc;have hz:=W.st.len;have nd:=zf.nd;refine⟨_,ae (aZ (bu (bf (cn L.are hr rfl (aa (pv 2) ab)))) (af (aq (fN (aa (gY rfl L.a.v.Xl) ab)))) aC)
  (ae (cY 3 nd (cn L.Oc hr rfl (aa (bR (pv 0) L.a.h.cl L.a.book hr (aa (aG aA (pv 1) ag) ab)) ab)))
  (ae (cY 4 nd (cn L.first hr rfl (aa (pv 3) (aa (pv 2) ab))))
  (ae (aZ (aX oF (pv 4) ag (bc _)) (af (aq (fN (aa ag (aa ag (aa (pv 4) ab)))))) aC)
  (af (aq (bx dW (fN (aa ag (aa ag ab))) (cn L.printed hr rfl (aa (pv 3) ab)))))))),?_⟩
 have hk:kk<=S.editions.length:=ku kk (by simp[dh,bk,bK,fL]);have st:=A7 (l:=l) hk;have Kn:l.length<=3000:=ok;rw[st]at iM;refine⟨_,rfl,rl,l,rfl,aJ.of gJ,by omega,fun H1 s1=>⟨_,rfl,aW (fun c=> ?_) (fun c=> ?_)⟩⟩
 .have e:ag5 l.length l=none:=by
   cases q:ag5 l.length l with
   |none=>rfl
   |some _=>rw[q]at c;cases c
  unfold oG at st;rw[e]at st;exact⟨jv,fun H2 m n2 s2 h2=>aO W k st (s1.free n2) (s1.trans s2) h2⟩
 obtain⟨ds,e⟩:∃ds,ag5 l.length l=some ds:=by
  cases q:ag5 l.length l with
  |none=>rw[q]at c;exact absurd rfl c
  |some ds=>exact⟨ds,rfl⟩
 unfold oG at st iM;rw[e]at st iM;try dsimp only at st iM
 have W1:=W.same s1;refine⟨_,rfl,h,D.dx,_,rfl,W1.w.ins,cj (e9 _ (by simp)),_,rfl,nl,_,_,vn kk,rfl,rfl,aJ.of (s1 _ _ hn),iL (i:=0) rfl,h,D,S,FZ,kk,rfl,W1,hk,(bQ D kk).1,(bQ D kk).2,_,FZ,_,rfl,W1.book hk,by omega,fun H2 b d hB s2 fr2=> ?_⟩;refine⟨_,rfl,_,rfl,H1,b,rl,d,_,FZ,_,l,ds,rfl,⟨hB,s2,fr2⟩,by omega,s2 _ _ (s1 _ _ gJ),fr,(Bi e).1,by omega,fun H3 i he Ad s3=> ?_,fun H3 d3 B3 Z5 N3 dc hN3 V1 s3=> ?_⟩
 .rw[he]at st;refine⟨_,rfl,_,_,rfl,rfl,_,rfl,aW (fun c1=> ?_) (fun c1=>absurd (afj (show(0:Int)<(i:Int) by omega)) c1)⟩;exact⟨_,rfl,QF,fun H4 m n4 s4 h4=>aO W k st ((s1.trans s3).free n4) (s1.trans (s3.trans s4)) h4⟩
 .rw[dc]at st iM;rw[afp,afp,ae9]at iM;refine⟨_,rfl,_,_,rfl,rfl,_,rfl,aW (fun c1=>absurd (aff c1) (by decide)) (fun c1=> ?_)⟩;refine⟨xO,fun H4 m n4 s4 h4=>⟨_,rfl,b,d3,B3,Z5,N3,rfl,V1.same s4,hN3,by omega,fun H5 m5 n5 h5 s5=>⟨m,m5,[0,0],_,rfl,rfl,s5 _ _ h4,jx h5,by rw[ae9];show 2+_<=_;omega,fun H6 m6 n6 s6 h6=> ?_⟩⟩⟩;exact aO W k st ((s1.trans (s3.trans (s4.trans s5))).free n6) (s1.trans (s3.trans (s4.trans (s5.trans s6)))) h6
abbrev rL:afP:=dC 23
theorem qx:au ["house","numbers","row","name"] ["house","numbers","row"] (ai rL):=cF
theorem wW(F:b9 K "dropsense" "dropsense" rL f fd)(L:jr P w K mg base CB CH):aT P w K mg base bX 4 f fd ["house","numbers","row"] (gQ CB CH 6):=by
 refine cz F qx fun _ _ _ _ H _ Q E hr h=> ?_
 obtain⟨h,nl,rl,D,S,FZ,x,rfl,hc,ok,W,fn,fr,hn,gJ,ku,iM,k⟩:=h;obtain⟨n,rfl⟩:=fm hc;have nw:=W.w.now;have hz:=W.st.len;refine⟨_,ae (cY 3 qx.nd (aG aA (pv 1) ag))
  (ae (aZ (bu (bf (bR (az (pv 0)) L.b.cl L.qE hr (aa (pv 3) ab)))) (af (aq (fN (aa (gY rfl L.v.NB) ab)))) aC)
  (ae (aZ (bf (jK (pv 0) L.h.cl L.full hr)) (af (aq (fN (aa (gY rfl L.v.full) ab)))) aC)
  (ae (aI (bR (az (pv 0)) L.b.cl L.MQ hr (aa (pv 3) ab)))
  (af (aq (fN (aa ag (aa (bR (pv 0) L.h.cl L.sD hr (aa ag (aa (pv 1) (aa (pv 2) ab)))) ab)))))))),?_⟩
 refine⟨_,rfl,nV (i:=0) hn rfl ?_⟩;refine⟨_,rfl,h,CH,D.dx,_,_,rfl,W.w.ins,L.h.cl,L.h.nN,dP,D.nw,D.dn.dx,_,rfl,nw.bq.ins,bF (by decide+kernel),_,rfl,D.nw,D.dn,_,FZ,_,n,rfl,nw,_,rfl,aW (fun c=> ?_) (fun c=> ?_)⟩
 .exact⟨jv,fun H1 l n1 s1 h1=>aO W k (cw ((tY S n).trans (afh (fT c)))) n1 s1 h1⟩
 have hs:=fW c;refine⟨_,rfl,h,D.dx,_,rfl,W.w.ins,cj (e9 _ (by simp)),h,D,_,_,_,_,_,_,FZ,_,rfl,W.w,_,rfl,aW (fun cf=> ?_) (fun cf=> ?_)⟩
 .exact⟨jv,fun H1 l n1 s1 h1=>aO W k (cw ((tY S n).trans ((afc (fun z=>z hs)).trans (afh (aff cf))))) n1 s1 h1⟩
 have DA:¬200<=S.log.length:=fun z=>cf (afj z)
 have hw:ai0 S (.dropSense n)=none:=(tY S n).trans ((afc (fun z=>z hs)).trans (afc DA));refine⟨_,rfl,h,CH,D.dx,_,_,rfl,W.w.ins,L.h.cl,L.h.nN,dP,D.nw,D.dn.dx,_,rfl,nw.bq.ins,bF (by decide+kernel),_,rfl,D.nw,D.dn,_,FZ,_,n,rfl,nw,hs,fun H2 d2 lY fA jX=> ?_⟩;have W2:=W.w.act lY fA jX (afn _);have rY:∀c∈FZ,c∉bS D.nw D.dn (agA S.log):=fun c hc z=>nw.bq.fz c z hc
 refine⟨_,rfl,h,D.dx,_,rfl,W2.ins,cj (e9 _ (by simp)),_,rfl,_,rfl,h,nl,rl,_,_,_,_,_,_,_,FZ,_,_,.dropSense n,rfl,W2,ahx _,fn,fr,fA _ _ hn (rY nl fn),fA _ _ (gD gJ) (rY rl fr),hz,fun H3 t nt W3 k3=>⟨xO,fun H4 l n4 s4 h4=> ?_⟩⟩;exact gK W hw ok (by omega) (fun _ _ _ z=>nomatch z) k (fA.fJ fun c hc=>afI _ hc) jX k3 nt n4 s4 W3 h4
abbrev rK:afP:=dC 24
theorem qw:au ["house","numbers","row","name"] ["house","numbers","row"] (ai rK):=cF
theorem wU(F:b9 K "dropentry" "dropentry" rK f fd)(L:jr P w K mg base CB CH):aT P w K mg base bX 4 f fd ["house","numbers","row"] (gQ CB CH 7):=by
 refine cz F qw fun _ _ _ _ H _ Q E hr h=> ?_
 obtain⟨h,nl,rl,D,S,FZ,x,rfl,hc,ok,W,fn,fr,hn,gJ,ku,iM,k⟩:=h;obtain⟨e,rfl⟩:=fm hc;have nw:=W.w.now;have hz:=W.st.len;refine⟨_,ae (cY 3 qw.nd (aG aA (pv 1) ag))
  (ae (aZ (bu (bf (bR (az (pv 0)) L.b.cl L.wm hr (aa (pv 3) ab)))) (af (aq (fN (aa (gY rfl L.v.Uv) ab)))) aC)
  (ae (aZ (bf (jK (pv 0) L.h.cl L.full hr)) (af (aq (fN (aa (gY rfl L.v.full) ab)))) aC)
  (ae (aI (bR (az (pv 0)) L.b.cl L.MP hr (aa (pv 3) ab)))
  (af (aq (fN (aa ag (aa (bR (pv 0) L.h.cl L.sD hr (aa ag (aa (pv 1) (aa (pv 2) ab)))) ab)))))))),?_⟩
 refine⟨_,rfl,nV (i:=0) hn rfl ?_⟩;refine⟨_,rfl,h,CH,D.dx,_,_,rfl,W.w.ins,L.h.cl,L.h.nN,dP,D.nw,D.dn.dx,_,rfl,nw.bq.ins,bF (by decide+kernel),_,rfl,D.nw,D.dn,_,FZ,_,e,rfl,nw,_,rfl,aW (fun c=> ?_) (fun c=> ?_)⟩
 .exact⟨jv,fun H1 l n1 s1 h1=>aO W k (cw ((tX S e).trans (afh (iz c)))) n1 s1 h1⟩
 have he:=iC c;refine⟨_,rfl,h,D.dx,_,rfl,W.w.ins,cj (e9 _ (by simp)),h,D,_,_,_,_,_,_,FZ,_,rfl,W.w,_,rfl,aW (fun cf=> ?_) (fun cf=> ?_)⟩
 .exact⟨jv,fun H1 l n1 s1 h1=>aO W k (cw ((tX S e).trans ((afc (fun z=>z he)).trans (afh (aff cf))))) n1 s1 h1⟩
 have DA:¬200<=S.log.length:=fun z=>cf (afj z)
 have hw:ai0 S (.dropEntry e)=none:=(tX S e).trans ((afc (fun z=>z he)).trans (afc DA));refine⟨_,rfl,h,CH,D.dx,_,_,rfl,W.w.ins,L.h.cl,L.h.nN,dP,D.nw,D.dn.dx,_,rfl,nw.bq.ins,bF (by decide+kernel),_,rfl,D.nw,D.dn,_,FZ,_,e,rfl,nw,he,fun H2 d2 lY fA jX=> ?_⟩;have W2:=W.w.act lY fA jX (afn _);have rY:∀c∈FZ,c∉bS D.nw D.dn (agA S.log):=fun c hc z=>nw.bq.fz c z hc
 refine⟨_,rfl,h,D.dx,_,rfl,W2.ins,cj (e9 _ (by simp)),_,rfl,_,rfl,h,nl,rl,_,_,_,_,_,_,_,FZ,_,_,.dropEntry e,rfl,W2,ahx _,fn,fr,fA _ _ hn (rY nl fn),fA _ _ (gD gJ) (rY rl fr),hz,fun H3 t nt W3 k3=>⟨xO,fun H4 l n4 s4 h4=> ?_⟩⟩;exact gK W hw ok (by omega) (fun _ _ _ z=>nomatch z) k (fA.fJ fun c hc=>afI _ hc) jX k3 nt n4 s4 W3 h4
abbrev yb:afP:=dC 25
theorem vx:au ["house","numbers","text","edition"] ["house","numbers","text"] (ai yb):=cF
theorem As(F:b9 K "erratum" "erratum" yb f fd)(L:jr P w K mg base CB CH):aT P w K mg base bX 4 f fd ["house","numbers","text"] (gQ CB CH 8):=by
 refine cz F vx fun _ _ _ _ H _ Q E hr h=> ?_
 obtain⟨h,nl,rl,D,S,FZ,x,rfl,hc,ok,W,fn,fr,hn,gJ,ku,iM,k⟩:=h;obtain⟨kk,n,tx,rfl⟩:=fm hc;have nw:=W.w.now;have hz:=W.st.len;refine⟨_,ae (cY 3 vx.nd (aG aA (pv 1) ag))
  (ae (aZ (bu (bf (bR (pv 0) L.h.cl L.MY hr (aa (pv 3) ab)))) (af (aq (fN (aa (gY rfl L.v.ZR) ab)))) aC)
  (ae (aZ (bu (bf (bR (bR (pv 0) L.h.cl L.book hr (aa (pv 3) ab)) L.b.cl L.qE hr (aa (aG aA (pv 1) ag) ab)))) (af (aq (fN (aa (gY rfl L.v.NB) ab)))) aC)
  (ae (aZ (bf (jK (pv 0) L.h.cl L.full hr)) (af (aq (fN (aa (gY rfl L.v.full) ab)))) aC)
  (af (aq (fN (aa ag (aa (bR (pv 0) L.h.cl L.sD hr (aa ag (aa (pv 1) (aa (pv 2) ab)))) ab)))))))),?_⟩
 have wr:=P8 S kk n tx;refine⟨_,rfl,nV (i:=0) hn rfl ?_⟩;refine⟨_,rfl,h,D.dx,_,rfl,W.w.ins,cj (e9 _ (by simp)),_,rfl,h,D,S,FZ,kk,rfl,W,_,rfl,aW (fun c=> ?_) (fun c=> ?_)⟩
 .exact⟨jv,fun H1 l n1 s1 h1=>aO W k (cw (wr.trans (afh (dU c)))) n1 s1 h1⟩
 have hk:=cX c;have hB:=W.book hk;refine⟨_,rfl,h,D.dx,_,rfl,W.w.ins,cj (e9 _ (by simp)),_,rfl,h,D,S,FZ,kk,rfl,W,hk,(bQ D kk).1,(bQ D kk).2.dx,_,rfl,hB.bq.ins,bF (by decide+kernel),_,rfl,nV (i:=1) hn rfl ⟨(bQ D kk).1,(bQ D kk).2,_,FZ,_,n,rfl,hB,_,rfl,aW (fun c=> ?_) (fun c=> ?_)⟩⟩
 .exact⟨jv,fun H1 l n1 s1 h1=>aO W k (cw (wr.trans ((afc (fun z=>z hk)).trans (afh (fT c))))) n1 s1 h1⟩
 have hs:=fW c;refine⟨_,rfl,h,D.dx,_,rfl,W.w.ins,cj (e9 _ (by simp)),h,D,_,_,_,_,_,_,FZ,_,rfl,W.w,_,rfl,aW (fun cf=> ?_) (fun cf=> ?_)⟩
 .exact⟨jv,fun H1 l n1 s1 h1=>aO W k (cw (wr.trans ((afc (fun z=>z hk)).trans ((afc (fun z=>z hs)).trans (afh (aff cf)))))) n1 s1 h1⟩
 have DA:¬200<=S.log.length:=fun z=>cf (afj z)
 have hw:ai0 S (.erratum kk n tx)=none:=wr.trans ((afc (fun z=>z hk)).trans ((afc (fun z=>z hs)).trans (afc DA)));refine⟨_,rfl,h,D.dx,_,rfl,W.w.ins,cj (e9 _ (by simp)),_,rfl,_,rfl,h,nl,rl,_,_,_,_,_,_,_,FZ,_,_,.erratum kk n tx,rfl,W.w,ahx _,fn,fr,hn,gD gJ,hz,fun H3 t nt W3 k3=>⟨xO,fun H4 l n4 s4 h4=> ?_⟩⟩;exact gK (d':=D.dn) W hw ok (by omega) (fun _ _ _ z=>by injection z with z1 z2 z3;subst z1;subst z2;exact⟨hk,hs⟩) k (Kp.refl _ _) (fun c hc=> .inl hc) k3 nt n4 s4 W3 h4
abbrev rN:afP:=dC 21
theorem jm:au ["house","numbers","row","name","home","behind"] ["house","numbers","row"] (ai rN):=cF
theorem wY(F:b9 K "movesense" "movesense" rN f fd)(L:jr P w K mg base CB CH):aT P w K mg base bX 4 f fd ["house","numbers","row"] (gQ CB CH 4):=by
 refine cz F jm fun _ _ _ _ H _ Q E hr h=> ?_
 obtain⟨h,nl,rl,D,S,FZ,x,rfl,hc,ok,W,fn,fr,hn,gJ,ku,iM,k⟩:=h;obtain⟨n,e,a,rfl⟩:=fm hc;have nw:=W.w.now;have hz:=W.st.len;refine⟨_,ae (cY 3 jm.nd (aG aA (pv 1) ag))
  (ae (cY 4 jm.nd (aG aA (pv 1) ag))
  (ae (cY 5 jm.nd (aG aA (pv 1) ag))
  (ae (aZ (bu (bf (bR (az (pv 0)) L.b.cl L.qE hr (aa (pv 3) ab)))) (af (aq (fN (aa (gY rfl L.v.NB) ab)))) aC)
  (ae (aZ (bu (bf (bR (az (pv 0)) L.b.cl L.wm hr (aa (pv 4) ab)))) (af (aq (fN (aa (gY rfl L.v.Uv) ab)))) aC)
  (ae (aZ (PW.pt (jl (aX fU (pv 5) (pv 3) (bc _)) (iI (bu (bf (cn L.place hr rfl (aa (bC (bZ hr) (az (az (pv 0))) (pv 4)) (aa (pv 5) ab)))))))) (af (aq (fN (aa (gY rfl L.v.Uw) ab)))) aC)
  (ae (aZ (bf (jK (pv 0) L.h.cl L.full hr)) (af (aq (fN (aa (gY rfl L.v.full) ab)))) aC)
  (ae (aI (bR (az (pv 0)) L.b.cl L.Nu hr (aa (pv 3) (aa (pv 4) (aa (pv 5) ab)))))
  (af (aq (fN (aa ag (aa (bR (pv 0) L.h.cl L.sD hr (aa ag (aa (pv 1) (aa (pv 2) ab)))) ab)))))))))))),?_⟩
 have wr:=Jr S n e a (show n≠0 by have:1<=n:=ok;omega);refine⟨_,rfl,nV (i:=0) hn rfl ⟨_,rfl,nV (i:=1) hn rfl ⟨_,rfl,nV (i:=2) hn rfl ?_⟩⟩⟩;refine⟨_,rfl,h,CH,D.dx,_,_,rfl,W.w.ins,L.h.cl,L.h.nN,dP,D.nw,D.dn.dx,_,rfl,nw.bq.ins,bF (by decide+kernel),_,rfl,D.nw,D.dn,_,FZ,_,n,rfl,nw,_,rfl,aW (fun c=> ?_) (fun c=> ?_)⟩
 .exact⟨jv,fun H1 l n1 s1 h1=>aO W k (cw (wr.trans (afh (fT c)))) n1 s1 h1⟩
 have hs:=fW c;refine⟨_,rfl,h,CH,D.dx,_,_,rfl,W.w.ins,L.h.cl,L.h.nN,dP,D.nw,D.dn.dx,_,rfl,nw.bq.ins,bF (by decide+kernel),_,rfl,D.nw,D.dn,_,FZ,_,e,rfl,nw,_,rfl,aW (fun c=> ?_) (fun c=> ?_)⟩
 .exact⟨jv,fun H1 l n1 s1 h1=>aO W k (cw (wr.trans ((afc (fun z=>z hs)).trans (afh (iz c))))) n1 s1 h1⟩
 have he:=iC c;have rE:(a=n\/¬(a=0\/a∈(entryAt (agA S.log) e).senses))->∀(H1:Hp) (l:afb),H l=none->ax H H1->H1 l=some (.ba [.int (-7)])->Q (.ref l) H1:=fun z H1 l n1 s1 h1=>aO W k (cw (wr.trans ((afc (fun z=>z hs)).trans ((afc (fun z=>z he)).trans (afh z))))) n1 s1 h1
 suffices hk:¬(a=n\/¬(a=0\/a∈(entryAt (agA S.log) e).senses))->_ by
  refine⟨_,rfl,_,rfl,rfl,_,rfl,aW (fun c1=>⟨jv,rE (.inl (by have:=aff c1;injection this with this;omega))⟩) (fun c1=> ?_)⟩;have an:a≠n:=fun z=>c1 (afj (by rw[z]))
  refine⟨_,rfl,h,CH,D.dx,_,_,rfl,W.w.ins,L.h.cl,L.h.nN,dP,D.nw,CB,D.dn.dx,_,_,rfl,nw.bq.ins,L.b.cl,L.b.nR,du,_,rfl,D.dn.r,_,rfl,nw.gR he,_,rfl,D.dn.ra e,a,_,rfl,aJ.of (nw.bq.row e he),_,rfl,aW (fun c2=>⟨jv,rE (.inr (dU c2))⟩) (fun c2=>hk fun z=>z.elim an fun q=>q (cX c2))⟩
 intro ha;have Kj:a=0\/a∈(entryAt (agA S.log) e).senses:=agy fun z=>ha (.inr z)
 refine⟨_,rfl,h,D.dx,_,rfl,W.w.ins,cj (e9 _ (by simp)),h,D,_,_,_,_,_,_,FZ,_,rfl,W.w,_,rfl,aW (fun cf=> ?_) (fun cf=> ?_)⟩
 .exact⟨jv,fun H1 l n1 s1 h1=>aO W k (cw (wr.trans ((afc (fun z=>z hs)).trans ((afc (fun z=>z he)).trans ((afc ha).trans (afh (aff cf))))))) n1 s1 h1⟩
 have DA:¬200<=S.log.length:=fun z=>cf (afj z)
 have hw:ai0 S (.moveSense n e a)=none:=wr.trans ((afc (fun z=>z hs)).trans ((afc (fun z=>z he)).trans ((afc ha).trans (afc DA))));refine⟨_,rfl,h,CH,D.dx,_,_,rfl,W.w.ins,L.h.cl,L.h.nN,dP,D.nw,D.dn.dx,_,rfl,nw.bq.ins,bF (by decide+kernel),_,rfl,_,rfl,_,rfl,D.nw,D.dn,_,FZ,_,n,e,a,rfl,nw,by omega,hs,he,fun z=>⟨Kj.resolve_left z,fun q=>ha (.inl q)⟩,fun H2 d2 lY fA jX=> ?_⟩;have W2:=W.w.act lY fA jX (ahx _);have rY:∀c∈FZ,c∉bS D.nw D.dn (agA S.log):=fun c hc z=>nw.bq.fz c z hc
 refine⟨_,rfl,h,D.dx,_,rfl,W2.ins,cj (e9 _ (by simp)),_,rfl,_,rfl,h,nl,rl,_,_,_,_,_,_,_,FZ,_,_,.moveSense n e a,rfl,W2,afn _,fn,fr,fA _ _ hn (rY nl fn),fA _ _ (gD gJ) (rY rl fr),hz,fun H3 t nt W3 k3=>⟨xO,fun H4 l n4 s4 h4=> ?_⟩⟩;exact gK W hw ok (by omega) (fun _ _ _ z=>nomatch z) k (fA.fJ fun c hc=>afI _ hc) jX k3 nt n4 s4 W3 h4
abbrev rM:afP:=dC 22
theorem lF:au ["house","numbers","row","name","behind"] ["house","numbers","row"] (ai rM):=cF
theorem wX(F:b9 K "moveentry" "moveentry" rM f fd)(L:jr P w K mg base CB CH):aT P w K mg base bX 4 f fd ["house","numbers","row"] (gQ CB CH 5):=by
 refine cz F lF fun _ _ _ _ H _ Q E hr h=> ?_
 obtain⟨h,nl,rl,D,S,FZ,x,rfl,hc,ok,W,fn,fr,hn,gJ,ku,iM,k⟩:=h;obtain⟨e,a,rfl⟩:=fm hc;have nw:=W.w.now;have hz:=W.st.len;refine⟨_,ae (cY 3 lF.nd (aG aA (pv 1) ag))
  (ae (cY 4 lF.nd (aG aA (pv 1) ag))
  (ae (aZ (bu (bf (bR (az (pv 0)) L.b.cl L.wm hr (aa (pv 3) ab)))) (af (aq (fN (aa (gY rfl L.v.Uv) ab)))) aC)
  (ae (aZ (PW.pt (jl (aX fU (pv 4) (pv 3) (bc _)) (iI (bu (bf (cn L.place hr rfl (aa (az (az (pv 0))) (aa (pv 4) ab)))))))) (af (aq (fN (aa (gY rfl L.v.Uw) ab)))) aC)
  (ae (aZ (bf (jK (pv 0) L.h.cl L.full hr)) (af (aq (fN (aa (gY rfl L.v.full) ab)))) aC)
  (ae (aI (bR (az (pv 0)) L.b.cl L.Nt hr (aa (pv 3) (aa (pv 4) ab))))
  (af (aq (fN (aa ag (aa (bR (pv 0) L.h.cl L.sD hr (aa ag (aa (pv 1) (aa (pv 2) ab)))) ab)))))))))),?_⟩
 have wr:=Jq S e a (show e≠0 by have:1<=e:=ok;omega);refine⟨_,rfl,nV (i:=0) hn rfl ⟨_,rfl,nV (i:=1) hn rfl ?_⟩⟩;refine⟨_,rfl,h,CH,D.dx,_,_,rfl,W.w.ins,L.h.cl,L.h.nN,dP,D.nw,D.dn.dx,_,rfl,nw.bq.ins,bF (by decide+kernel),_,rfl,D.nw,D.dn,_,FZ,_,e,rfl,nw,_,rfl,aW (fun c=> ?_) (fun c=> ?_)⟩
 .exact⟨jv,fun H1 l n1 s1 h1=>aO W k (cw (wr.trans (afh (iz c)))) n1 s1 h1⟩
 have he:=iC c;have rE:(a=e\/¬(a=0\/a∈names (agA S.log)))->∀(H1:Hp) (l:afb),H l=none->ax H H1->H1 l=some (.ba [.int (-7)])->Q (.ref l) H1:=fun z H1 l n1 s1 h1=>aO W k (cw (wr.trans ((afc (fun z=>z he)).trans (afh z)))) n1 s1 h1
 suffices hk:¬(a=e\/¬(a=0\/a∈names (agA S.log)))->_ by
  refine⟨_,rfl,_,rfl,rfl,_,rfl,aW (fun c1=>⟨jv,rE (.inl (by have:=aff c1;injection this with this;omega))⟩) (fun c1=> ?_)⟩;have an:a≠e:=fun z=>c1 (afj (by rw[z]))
  refine⟨_,rfl,h,CH,D.dx,_,_,rfl,W.w.ins,L.h.cl,L.h.nN,dP,D.nw,CB,D.dn.dx,_,_,rfl,nw.bq.ins,L.b.cl,L.b.nO,bP,_,rfl,D.dn.o,a,_,rfl,aJ.of nw.bq.ord,_,rfl,aW (fun c2=>⟨jv,rE (.inr (dU c2))⟩) (fun c2=>hk fun z=>z.elim an fun q=>q (cX c2))⟩
 intro ha;have Kj:a=0\/a∈names (agA S.log):=agy fun z=>ha (.inr z)
 refine⟨_,rfl,h,D.dx,_,rfl,W.w.ins,cj (e9 _ (by simp)),h,D,_,_,_,_,_,_,FZ,_,rfl,W.w,_,rfl,aW (fun cf=> ?_) (fun cf=> ?_)⟩
 .exact⟨jv,fun H1 l n1 s1 h1=>aO W k (cw (wr.trans ((afc (fun z=>z he)).trans ((afc ha).trans (afh (aff cf)))))) n1 s1 h1⟩
 have DA:¬200<=S.log.length:=fun z=>cf (afj z)
 have hw:ai0 S (.moveEntry e a)=none:=wr.trans ((afc (fun z=>z he)).trans ((afc ha).trans (afc DA)));refine⟨_,rfl,h,CH,D.dx,_,_,rfl,W.w.ins,L.h.cl,L.h.nN,dP,D.nw,D.dn.dx,_,rfl,nw.bq.ins,bF (by decide+kernel),_,rfl,_,rfl,D.nw,D.dn,_,FZ,_,e,a,rfl,nw,by omega,he,fun z=>⟨Kj.resolve_left z,fun q=>ha (.inl q)⟩,fun H2 d2 lY fA jX=> ?_⟩;have W2:=W.w.act lY fA jX (ahx _);have rY:∀c∈FZ,c∉bS D.nw D.dn (agA S.log):=fun c hc z=>nw.bq.fz c z hc
 refine⟨_,rfl,h,D.dx,_,rfl,W2.ins,cj (e9 _ (by simp)),_,rfl,_,rfl,h,nl,rl,_,_,_,_,_,_,_,FZ,_,_,.moveEntry e a,rfl,W2,afn _,fn,fr,fA _ _ hn (rY nl fn),fA _ _ (gD gJ) (rY rl fr),hz,fun H3 t nt W3 k3=>⟨xO,fun H4 l n4 s4 h4=> ?_⟩⟩;exact gK W hw ok (by omega) (fun _ _ _ z=>nomatch z) k (fA.fJ fun c hc=>afI _ hc) jX k3 nt n4 s4 W3 h4
end FE
namespace L2
open PySem PySem.Spec PyProof.Rows
inductive Co(P:afz)(w:af3)(K:afU)(ty:TE)(tx:TE)(σ:St)(Q:VK)(x:V)(H1:Hp):Prop|m:∀(a:afb) (aQ:List (br×V)),x= .ref a->KD P w K a aQ->(ty σ H1 fun y H2=>tx σ H2 fun z H3=>∃k,y=kV k/\Q ((ee aQ k).getD z) H3)->Co P w K ty tx σ Q x H1
def P1(P:afz)(w:af3)(K:afU)(td ty tx:TE):TE:=fun σ H Q=>td σ H fun x H1=>Co P w K ty tx σ Q x H1
theorem Ik{o e f:agP}{eI iE:Pos}{td ty tx:TE}(ho:PE X o td)(he:PE X e ty)(hf:PE X f tx)(m:M2 X o "get" eI e f iE):PE X (.Call (.Attribute o "get" eI) [e,f] [] iE) (P1 X.prog X.w X.K td ty tx):=by
 intro pins s σ H Q I h;refine akj m.base m.Gy m.line aiW ahY ak8 (cK (ho pins s σ H _ I h) fun u s1 ⟨x,H1,I1,rx,a,aQ,ex,⟨hd,vs,kl,dd⟩,q1⟩=> ?_);subst ex;obtain rfl:u=afZ a:=rx;have D1:=dd s1.heap I1.u5;refine⟨D1.typeIs,fun b q=> ?_,?_⟩
 .cases q;obtain⟨ob,_,_,h1,h2,_⟩:=D1;exact⟨ob,h1,h2.2.1⟩
 rw[m.Dg];refine aih rfl (aix (ahi (cK (he pins s1 σ H1 _ I1 q1) fun iv s2 ⟨y,H2,I2,ry,q2⟩=>
  ahi (cK (hf pins s2 σ H2 _ I2 q2) fun fv s3 ⟨z,H3,I3,rz,k,ey,q3⟩=>ah3 ?_))))
 subst ey;have D3:=dd s3.heap I3.u5;refine aj0 ahY D3.typeIs ai8 (aiV _ _ _) (akU (cO X.prog X.w) a (kS ry) hd fv) ⟨_,D3.mapOf,⟨_,H3,I3.qM _,?_,q3⟩⟩;exact(KV.val kl k).getD rz
end L2
namespace FE
open PySem PySem.Spec PyProof.Rows L2 FM
open PySem.W (Frag fnOf keepIn mg_of findIn nsIn emptyDict plainGet hasDictIn isFn makesIn codeIn plainOver)
open Vbdhag (Book nat numberOf entryAt allSenses Change position putBehind bookOf hasEntry changeTold two entryOf decimal kept history lengthOf empty onSense outOf hasSense putEntry inEntry entryNames Sense Call wrong dead pair senseLine changesOf stepNumbers patched bytesOf changes cutAt)
variable{N N' e em i j n p sm:Nat}{P:afz}{X:Cx}{x:afm}{te:TE}{pos:Pos}{w:af3}{K:afU}{mg:Str->Option afe}{base:age}{st:afP}{C CB CH D R a b c f fI fb fc fe fh fp h q u:afb}{fd fR fZ fO f9 fX fY gg:afC}{ps:List Str}{sp:Sp}{ks ks' l t:List Nat}{o:HO}{ns r:List Int}{m p0 p1 p2:Str}{S:afl}{H H' H1 H2:Hp}{d d':BA}{FZ cZ as rs ts:List afb}{B B':af8}{aQ:List (br×V)}{f':Nat->V}{xs:List V}{σ:L2.St}{z:Int}
structure Mj(P:afz)(w:af3)(K:afU)(a:afb)(aQ:List (br×V)):Prop where
 kd:KD P w K a aQ
 of:∀p:Nat,p<25->(bk p=[]/\ee aQ (afx (p:Int))=none)\/∃t,ee aQ (afx (p:Int))=some (.ref t)/\ko K t ((bk p).map vn)
inductive xn(CB:afb)(CH:afb)(vs:List V)(H:Hp)(Q:VK)(E:XK):Prop|m:∀(h nl:afb) (D:HA) (S:afl) (FZ:List afb) (x:akE),vs=[.ref h,vn (bK x),.ref nl]->cb CB CH H h D S FZ->NL H nl (fL x)->(∀(b:Bool) (H':Hp),(b=true↔∀k∈dh x,k<=S.editions.length)->ax H H'->Q (.bl b) H')->xn CB CH vs H Q E
theorem Bk(x:akE):bK x<25:=by
 cases x with
 |act a=>cases a<;>simp[bK,bz]
 |_=>simp[bK]
theorem QY(x:akE)(h:(bk (bK x))[j]? =some i):(fL x)[i]? =some ((fL x).getD i 0):=by
 have hi:=afo h;cases x with
 |act a=>cases a<;>simp[bK,bz,bk]at hi
 |_=>simp[bK,bk]at hi<;>(try rcases hi with e|e)<;>(try subst hi)<;>(try subst e)<;>rfl
abbrev vU:afP:=dC 144
theorem CT:au ["house","call","numbers","place"] ["house","call","numbers"] (ai vU):=cF
theorem JQ:iK ["house","call","numbers","place"] (ai vU) (OP (cq vU) 0) [("place",3)]:=⟨rfl,by decide+kernel,by decide+kernel,by decide+kernel,by decide+kernel⟩
theorem Hk(F:b9 K "books_are_there" "books_are_there" vU f fd)(L:jr P w K mg base CB CH)(mR:mg "BOOKS"=some (.ref R))(hR:Mj P w K R aQ):aT P w K mg base bX 2 f fd ["house","call","numbers"] (xn CB CH):=by
 refine cz F CT fun _ _ _ _ H _ Q E hr h=> ?_
 obtain⟨h,nl,D,S,FZ,x,rfl,W,hn,k⟩:=h;have nd:=CT.nd;refine⟨_,af (aq (aN (rH rfl) rfl L.g.all ame (aa (mv (own:=[("place",3)]) rfl nd (Pj (Ik (cu (v:= .ref R) rfl mR rfl) (pv 1) (Xv ab) ⟨rfl,rfl,rfl,rfl⟩)) JQ (fun _ _ _ _ _=>hJ 3 nd) (fun _ _ _ _ _=>j5) (fun _ _ _ _ _=>bR (pv 0) L.h.cl L.MY hr (aa (aG (r:=EO K) aA (pv 2) (pv 3)) ab))) ab))),?_⟩;refine⟨R,aQ,rfl,hR.kd,_,rfl,afF _,fun H1 e0 ne0 s1 Oy=>⟨afx (bK x:Int),rfl,?_⟩⟩;obtain⟨t,ht,hv⟩:∃t,gF K H1 t ((bk (bK x)).map vn)/\(ee aQ (afx (bK x:Int))).getD (.ref e0)= .ref t:=by
  rcases hR.of (bK x) (Bk x)with⟨h1,h2⟩|⟨t,h1,h2⟩
  .exact⟨e0,by rw[h1];exact gF.of Oy,by rw[h2];rfl⟩
  .exact⟨t,.inr h2,by rw[h1];rfl⟩
 rw[hv];refine⟨t,rfl,⟨_,ht⟩,fun N hN=>OR (K:=K) (a:=t) (xs:=(bk (bK x)).map vn) (fun i H'=>ax H1 H'/\H' N=some (.ba ((((bk (bK x)).take i).map fun i=>decide ((fL x).getD i 0<=S.editions.length)).map V.bl))) ⟨ax.new hN,aj⟩ (fun i H' _ h=>gP h.1 ht) ?_ ?_⟩
 .rintro i y H' hi ⟨s2,h2⟩;obtain⟨j,hj,rfl⟩:=eg hi;have W2:=W.same (s1.trans s2);have Ui:=(s1.trans s2) _ _ hn;refine⟨rfl,?_⟩;dsimp only[Fb];rw[afh rfl];refine⟨_,rfl,h,D.dx,_,rfl,W2.w.ins,cj (e9 _ (by simp)),_,rfl,_,rfl,nl,_,_,vn ((fL x).getD j 0),rfl,rfl,aJ.of Ui,iL (i:=j) (QY x hj),h,D,S,FZ,_,rfl,W2,_,h2,?_,?_,?_⟩
  .rw[ae9,ae9];refine b8 (afu (afu (by rw[afW];exact ajw _ _) (show(bk (bK x)).length<=2 from ?_)) (by decide));unfold bk;split
   .decide
   .split
    .decide
    .split<;>decide
  .exact fun b o e=>by rw[ao (ak e hN)];exact s2 b o e
  .rw[aj,aS hj,afB,afB];rfl
 .rintro H' ⟨s2,h2⟩;rw[ae9,afR]at h2;refine⟨N,_,rfl,aJ.of h2,k _ _ ?_ (s1.trans s2)⟩;rw[ag3,af4];unfold dh;constructor
  .intro q kk hk;obtain⟨j,hj,rfl⟩:=afH.mp hk;exact aff (q j hj)
  .intro q j hj;exact afj (q _ (afH.mpr ⟨j,hj,rfl⟩))
def TK(P:afz)(w:af3)(K:afU)(mg:Str->Option afe)(base:age)(CB CH:afb)(n p:Nat)(f:afb):Prop:=∃(fd:afC) (ps:List Str),keepIn K (.ref f)=true/\aT P w K mg base bX n f fd ps (gQ CB CH p)/\eY K fd ps []
structure Mo(P:afz)(w:af3)(K:afU)(mg:Str->Option afe)(base:age)(CB CH:afb)(a:afb)(aQ:List (br×V)):Prop where
 kd:KD P w K a aQ
 of:∀p:Nat,9<=p->p<25->∃f,ee aQ (afx (p:Int))=some (.ref f)/\TK P w K mg base CB CH 6 p f
structure Ft(P:afz)(w:af3)(K:afU)(mg:Str->Option afe)(base:age)(CB CH:afb)(a:afb)(fs:List afb):Prop where
 cG:ko K a (fs.map V.ref)
 len:fs.length=9
 of:∀(p:Nat) (f:afb),fs[p]? =some f->TK P w K mg base CB CH 4 p f
inductive zk(CB:afb)(CH:afb)(r:Nat->Prop)(vs:List V)(H:Hp)(Q:VK)(E:XK):Prop|m:∀(h nl rl:afb) (D:HA) (S:afl) (FZ:List afb) (x:akE),vs=[.ref h,vn (bK x),.ref nl,.ref rl]->r (bK x)->UQ x->cb CB CH H h D S FZ->nl∈FZ->rl∈FZ->NL H nl (fL x)->IL H rl (Pr x)->(ahl S x).2.length<=10000000->(∀(H':Hp) (l:afb) (D':HA) (cZ:List afb),qz CB CH H H' h D D' S (ahl S x).1 FZ cZ->kz H h D S l->IL H' l (ahl S x).2->Q (.ref l) H')->zk CB CH r vs H Q E
theorem qz.from{D D':HA}{S':afl}{X3:List afb}(p:qz CB CH H1 H' h D D' S S' X3 cZ)(s:ax H H1)(hF:∀b∈X3,b∈FZ\/H b=none):qz CB CH H H' h D D' S S' FZ cZ:=⟨p.is,fun a o e n=>p.kp a o (s a o e) n,fun a ha=>(p.gr a ha).imp id s.free,fun b z=>(p.rc b z).elim (fun y=>y.elim (fun q=>(hF b q).imp .inl .new) fun q=> .inl (.inr q)) fun y=> .inr fun c o e n=>y c o (s c o e) n⟩
theorem kz.from{D:HA}{l:afb}(f:kz H1 h D S l)(s:ax H H1):kz H h D S l:=fun b o e n=>f b o (s b o e) n
theorem Dv{x:akE}(h:bK x<9):∀k∈dh x,k<=0:=by
 cases x with
 |act a=>cases a<;>simp[dh,bK,bz,bk]
 |_=>simp[bK]at h
abbrev MO:afP:=dC 145
theorem PN:au ["house","call","numbers","row"] ["house","call","numbers","row"] (ai MO):=cF
theorem Lg(F:b9 K "tell" "tell" MO f fd)(V0:Jt mg)(mR:mg "TELLINGS"=some (.ref R))(hR:Mo P w K mg base CB CH R aQ)(cB:Ca P w K mg base 2 "books_are_there" ["house","call","numbers"] (xn CB CH)):aT P w K mg base bX 7 f fd ["house","call","numbers","row"] (zk CB CH fun p=>9<=p):=by
 refine cz F PN fun _ _ _ _ H _ Q E hr h=> ?_
 obtain⟨h,nl,rl,D,S,FZ,x,rfl,h9,ok,W,fn,fr,hn,gJ,iM,k⟩:=h;refine⟨_,ae (aZ (bu (bf (cn cB hr rfl (aa (pv 0) (aa (pv 1) (aa (pv 2) ab)))))) (af (aq (fN (aa (gY rfl V0.ZR) ab)))) aC)
  (af (aq (oH (w6 (cu (v:= .ref R) rfl mR rfl) (pv 1) (fun _ _=>rfl)) (aa (pv 0) (aa (pv 2) (aa (pv 3) ab)))))),?_⟩
 refine⟨_,rfl,_,rfl,_,rfl,h,nl,D,S,FZ,x,rfl,W,hn,fun b H1 hb s1=>⟨_,rfl,aW (fun c=> ?_) (fun c=> ?_)⟩⟩
 .have e9:¬∀k∈dh x,k<=S.editions.length:=fun z=>by rw[hb.mpr z]at c;cases c
  exact⟨jv,fun H2 l n2 s2 h2=>aO W k (zm e9) (s1.free n2) (s1.trans s2) h2⟩
 have yx:b=true:=by
  cases q:b with
  |true=>rfl
  |false=>exact absurd (by rw[q];rfl) c
 obtain⟨fa,e1,MT,ps,e2,e3,e4⟩:=hR.of (bK x) h9 (Bk x);refine⟨_,rfl,R,aQ,afx (bK x:Int),.ref fa,rfl,hR.kd,rfl,e1,fa,MT,ps,_,6,rfl,e2,e3,hr,e4,?_⟩;exact⟨_,rfl,_,rfl,_,rfl,h,nl,rl,D,S,FZ,x,rfl,rfl,ok,W.same s1,fn,fr,s1 _ _ hn,s1 _ _ gJ,hb.mp yx,iM,fun H' l D' cZ p fl hl=>k H' l D' cZ (p.from s1 fun b z=> .inl z) (fl.from s1) hl⟩
abbrev FY:afP:=dC 27
theorem LH:au ["call"] ["call"] (ai FY):=cF
inductive xy(vs:List V)(H:Hp)(Q:VK)(E:XK):Prop|m:∀(p:Nat),vs=[vn p]->Q (.bl (decide (p<9))) H->xy vs H Q E
theorem HB{fs:List afb}(F:b9 K "is_act" "is_act" FY f fd)(G:lN mg)(mR:mg "ACTS"=some (.ref R))(hR:Ft P w K mg base CB CH R fs):aT P w K mg base bX 1 f fd ["call"] xy:=by
 refine cz F LH fun _ _ _ _ H _ Q E hr h=> ?_
 obtain⟨p,rfl,k⟩:=h;refine⟨_,af (aq (fM vj (pv 0) (aN ay rfl G.len ago (aa (cu (v:= .ref R) rfl mR rfl) ab)) (bc _))),?_⟩;refine⟨_,rfl,R,_,rfl,.inr (.inr hR.cG),_,_,rfl,rfl,qb Q ?_ k⟩;rw[ae9,hR.len];exact agz.mpr ⟨fun q=>by omega,fun q=>by omega⟩
abbrev Q5:afP:=dC 28
theorem S6:au ["house","call","numbers","row"] ["house","call","numbers","row"] (ai Q5):=cF
theorem O3{fs:List afb}(F:b9 K "act" "act" Q5 f fd)(mR:mg "ACTS"=some (.ref R))(hR:Ft P w K mg base CB CH R fs):aT P w K mg base bX 5 f fd ["house","call","numbers","row"] (zk CB CH fun p=>p<9):=by
 refine cz F S6 fun _ _ _ _ H _ Q E hr h=> ?_
 obtain⟨h,nl,rl,D,S,FZ,x,rfl,h9,ok,W,fn,fr,hn,gJ,iM,k⟩:=h;refine⟨_,af (aq (oH (aG eJ (cu (v:= .ref R) rfl mR rfl) (pv 1)) (aa (pv 0) (aa (pv 2) (aa (pv 3) ab))))),?_⟩;have gV:bK x<fs.length:=by rw[hR.len];exact h9
 have e1:=afi gV;obtain⟨MT,ps,e2,e3,e4⟩:=hR.of (bK x) _ e1;refine⟨_,rfl,R,_,_,.ref fs[bK x],rfl,rfl,.inr hR.cG,QV e1,_,MT,ps,_,4,rfl,e2,e3,hr,e4,?_⟩;exact⟨_,rfl,_,rfl,_,rfl,h,nl,rl,D,S,FZ,x,rfl,rfl,ok,W,fn,fr,hn,gJ,fun kk Wr=>afu (Dv h9 kk Wr) (afF _),iM,k⟩
inductive AR(CB:afb)(CH:afb)(vs:List V)(H:Hp)(Q:VK)(E:XK):Prop|m:∀(h c:afb) (D:HA) (S:afl) (FZ:List afb) (p:Nat) (ns r:List Int),vs=[.ref h,.ref c]->cb CB CH H h D S FZ->i0 H c p ns r->(ahz S (jL p ns r)).2.length<=10000000->(∀(H':Hp) (l:afb) (D':HA) (cZ:List afb),qz CB CH H H' h D D' S (ahz S (jL p ns r)).1 FZ cZ->kz H h D S l->IL H' l (ahz S (jL p ns r)).2->Q (.ref l) H')->AR CB CH vs H Q E
abbrev Mt:afP:=dC 147
theorem Pu:au ["house","call"] ["house","call"] (ai Mt):=cF
theorem KS(F:b9 K "answer_of" "answer_of" Mt f fd)(V0:Jt mg)(cT:Ca P w K mg base 4 "is_as_told" ["call"] (nv fun p ns r=>iG p ns&&lE p r))(cI:Ca P w K mg base 1 "is_act" ["call"] xy)(cN:Ca P w K mg base 1 "numbers_of" ["call"] o7)(cR:Ca P w K mg base 1 "row_of" ["call"] rp)
  (cA:Ca P w K mg base 5 "act" ["house","call","numbers","row"] (zk CB CH fun p=>p<9)) (cL:Ca P w K mg base 7 "tell" ["house","call","numbers","row"] (zk CB CH fun p=>9<=p)):aT P w K mg base bX 8 f fd ["house","call"] (AR CB CH):=by
 refine cz F Pu fun _ _ _ _ H _ Q E hr h=> ?_
 obtain⟨h,c,D,S,FZ,p,ns,r,rfl,W,hc,iM,k⟩:=h;refine⟨_,ae (aZ (bu (bf (cn cT hr rfl (aa (pv 1) ab)))) (af (aq (fN (aa (gY rfl V0.told) ab)))) aC)
  (ae (aZ (bf (cn cI hr rfl (aa (aG aA (pv 1) ag) ab))) (af (aq (cn cA hr rfl (aa (pv 0) (aa (aG aA (pv 1) ag) (aa (cn cN hr rfl (aa (pv 1) ab)) (aa (cn cR hr rfl (aa (pv 1) ab)) ab))))))) aC)
  (af (aq (cn cL hr rfl (aa (pv 0) (aa (aG aA (pv 1) ag) (aa (cn cN hr rfl (aa (pv 1) ab)) (aa (cn cR hr rfl (aa (pv 1) ab)) ab)))))))),?_⟩
 refine⟨_,rfl,c,p,ns,r,rfl,hc,fun H1 s1=>⟨_,rfl,?_⟩⟩;rcases Gn p ns r hc.lt hc.len hc.no with⟨ht,x,hx,dx⟩|⟨ht,hx⟩
 .have e:ahz S (jL p ns r)=ahl S x:=by unfold ahz;rw[hx]
  rw[e]at k iM;rw[ht];show NS _ _ _;have RM:=hc.same s1;have RR:=dx.code;subst RR;have r8:aJ K H1 c (((bK x:Int)::(ns++df (bK x) r)).map V.int):=aJ.of RM.cG;have go:∀(H3:Hp) (nl rl:afb),ax H1 H3->H1 nl=none->H1 rl=none->IL H3 nl ns->IL H3 rl r->cb CB CH H3 h D S ([nl,rl]++FZ):=fun H3 nl rl s3 n1 n2 h1 h2=>⟨W.w.Ru (s1.trans s3) [nl,rl] (fun a ha=>by
   have:a=nl\/a=rl:=by simpa using ha
   rcases this with q|q<;>rw[q]
   .exact⟨s1.free n1,_,h1⟩
   .exact⟨s1.free n2,_,h2⟩),W.st⟩
  have YA:∀(nl rl:afb),H1 nl=none->H1 rl=none->∀b∈ [nl,rl]++FZ,b∈FZ\/H b=none:=fun nl rl n1 n2 b hb=>by
   rcases afL.mp hb with z|z
   .have:b=nl\/b=rl:=by simpa using z
    rcases this with q|q<;>rw[q]
    .exact .inr (s1.free n1)
    .exact .inr (s1.free n2)
   .exact .inl z
  have nn:(fL x).map nat=ns:=dx.Xs;refine⟨_,rfl,c,_,_,.int (bK x:Int),rfl,rfl,r8,gE (j:=0) rfl rfl,bK x,rfl,_,rfl,aW (fun q=> ?_) (fun q=> ?_)⟩
  .refine⟨_,rfl,_,rfl,c,_,_,.int (bK x:Int),rfl,rfl,r8,gE (j:=0) rfl rfl,_,rfl,c,_,ns,r,rfl,RM,fun H2 nl OZ s2 Ko=> ?_⟩;refine⟨_,rfl,c,_,ns,r,rfl,RM.same s2,fun H3 rl O2 s3 gJ=> ?_⟩;have GJ:=s3 _ _ Ko;have mx:=s1.trans (s2.trans s3);refine⟨h,nl,rl,D,S,[nl,rl]++FZ,x,rfl,aff q,dx.ok,go H3 nl rl (s2.trans s3) OZ (s2.free O2) GJ gJ,by simp,by simp,gD (by rw[nn];exact GJ),by rw[dx.row];exact gJ,iM,fun H' l D' cZ po fl hl=>k H' l D' cZ (po.from mx (YA nl rl OZ (s2.free O2))) (fl.from mx) hl⟩
  .refine⟨_,rfl,_,rfl,c,_,_,.int (bK x:Int),rfl,rfl,r8,gE (j:=0) rfl rfl,_,rfl,c,_,ns,r,rfl,RM,fun H2 nl OZ s2 Ko=> ?_⟩;refine⟨_,rfl,c,_,ns,r,rfl,RM.same s2,fun H3 rl O2 s3 gJ=> ?_⟩;have GJ:=s3 _ _ Ko;have mx:=s1.trans (s2.trans s3);have h9:9<=bK x:=akW.mp fun z=>q (afj z)
   refine⟨h,nl,rl,D,S,[nl,rl]++FZ,x,rfl,h9,dx.ok,go H3 nl rl (s2.trans s3) OZ (s2.free O2) GJ gJ,by simp,by simp,gD (by rw[nn];exact GJ),by rw[dx.row];exact gJ,iM,fun H' l D' cZ po fl hl=>k H' l D' cZ (po.from mx (YA nl rl OZ (s2.free O2))) (fl.from mx) hl⟩
 .have e:ahz S (jL p ns r)=(S,[-1]):=by unfold ahz;rw[hx]
  rw[e]at k;rw[ht];exact⟨jv,fun H2 l n2 s2 h2=>k _ l D FZ (qz.same W (s1.trans s2)) (.new (s1.free n2)) h2⟩
inductive mh(K:afU)(vs:List V)(H:Hp)(Q:VK)(E:XK):Prop|m:∀(a:afb) (l:List Int),vs=[.ref a]->aJ K H a (l.map V.int)->aji l=true->l.length<=17000->(∀(H':Hp) (p:afb),H' p=some (.ba ((ajr l).map V.int))->Q (.ref p) H')->mh K vs H Q E
structure bb(CB CH:afb)(H H':Hp)(h f:afb)(D:HA)(S:afl)(FZ:List afb)(done:List Int):Prop where
 sm:ax H H'
 fr:∀b∈je h D S,H b=none
 fn:H f=none
 nf:f∉je h D S
 nr:¬QQ D S FZ f
 cG:IL H' f done
 is:cb CB CH H' h D S FZ
theorem cb.keep{CB CH:afb}{H H':Hp}{h:afb}{D:HA}{S:afl}{FZ S0:List afb}(W:cb CB CH H h D S FZ)(k:Kp S0 H H')(h1:∀a∈je h D S,a∉S0)(h2:∀a,QQ D S FZ a->a∉S0):cb CB CH H' h D S FZ:=by
 have n5:∀{a:afb},a∈pI h D->a∉S0:=fun ha=>h1 _ (afY _ ha)
 exact⟨{W.w with ins:=k _ _ W.w.ins (n5 (by simp)),own:=k _ _ W.w.own (n5 (by simp)),hl:=k _ _ W.w.hl (n5 (by simp)),he:=k _ _ W.w.he (n5 (by simp)),hn:=k _ _ W.w.hn (n5 (by simp)),now:=W.w.now.keep k (fun a ha=>h1 _ (afI _ ha)) (fun a ha=>h2 _ (.inl ha)),ki:=fun i x a q1 q2=>(W.w.ki i x a q1 q2).keep k (fun a ha=>h2 _ (.inl ha)),BV:=fun i x b q1 q2=>⟨(W.w.BV i x b q1 q2).1.keep k (fun a ha=>h2 _ (.inr ⟨i,x,b,q1,q2,ha⟩)) (fun a ha=>h2 _ (.inl ha)),(W.w.BV i x b q1 q2).2⟩},W.st⟩
theorem Gz{l:List Int}{t:List Int}(o:jT l p ns r t):ns.length+r.length<=l.length:=by
 rw[o.eq,afp,afa,afa];unfold df;by_cases q:fG p=true
 .rw[afh q,afp];omega
 .rw[afc q,o.no (by simpa using q)];simp;omega
theorem Lh{l:List Int}{st:Nat}{t:List Int}(o:jT (l.drop st) p ns r t):iq l (some (st:Int)) (some ((st+(1+ns.length+(df p r).length):Nat):Int))=(p:Int)::(ns++df p r):=by
 rw[mJ,aiB,ag6,o.eq,show 1+ns.length+(df p r).length=((p:Int)::(ns++df p r)).length by rw[afp,afa];omega];exact aim rfl
theorem Ib{l:List Int}{st:Nat}{t:List Int}(o:jT (l.drop st) p ns r t):l.drop (st+(1+ns.length+(df p r).length))=t:=by
 rw[<-ahA,o.eq,show 1+ns.length+(df p r).length=((p:Int)::(ns++df p r)).length by rw[afp,afa];omega];exact ajR rfl
theorem Pc{l:List Int}{st:Nat}{t:List Int}(o:jT (l.drop st) p ns r t)(h:st<=l.length):st+(1+ns.length+(df p r).length)<=l.length:=by
 have:=congrArg ahN o.eq;rw[agp,afp,afa,afa]at this;omega
abbrev x8:afP:=dC 148
theorem vw:au ["calls","house","found","start","end","answer"] ["calls"] (ai x8):=cF
theorem Ap(F:b9 K "answers" "answers" x8 f fd)(G:lN mg)(T:zS K mg CH)(M:Mk K CH fI)(oI:aT P w K mg base bX 3 fI fR ["self"] (xx CB CH))(bI:eY K fR ["self"] [])(cE:Ca P w K mg base 1 "call_end" ["calls","start"] (pT K))(cA:Ca P w K mg base 8 "answer_of" ["house","call"] (AR CB CH)):aT P w K mg base bX 9 f fd ["calls"] (mh K):=by
 refine cz F vw fun _ _ _ _ H _ Q E hr h=> ?_
 obtain⟨a,l,rfl,hl,Ov,hsz,k⟩:=h;have nd:=vw.nd;obtain⟨Yo,Qw,e0,adw⟩:=zT Ov;rw[e0]at k;refine⟨_,ae (cY 1 nd (sL M oI (hr.fJ (by decide)) rfl T.mgH bI .nil bw)) (ae (cY 2 nd (fN ab)) (ae (cY 3 nd ag)
  (ae (sO af1 (aX vj (pv 3) (aN ay rfl G.len ago (aa (pv 0) ab)) (bc _))
   (ae (cY 4 nd (cn cE hr rfl (aa (pv 0) (aa (pv 3) ab))))
   (ae (cY 5 nd (cn cA hr rfl (aa (pv 1) (aa (dq mn (pv 0) (cv (pv 3)) (cv (pv 4))) ab))))
   (ae (aI (cy afq agc agh de (pv 2) (aa (aN ay rfl G.len ago (aa (pv 5) ab)) ab)))
   (ae (aI (cy afq af0 af7 dJ (pv 2) (aa (pv 5) ab)))
   (af (cY 3 nd (pv 4))))))))
  (af (aq (pv 2)))))),?_⟩
 intro x dx nx Sy OY;refine⟨x,dx,rfl,aj,by rw[ao OY];exact aj,agU OY,fun H1 D hW kp new=>⟨rfl,?_⟩⟩;have s1:ax H H1:=ax.made nx Sy fun y o h hy=>kp y o h (by simpa using hy)
 have V4:cb CB CH H1 x D ajf []:=⟨hW,n9.start⟩;have fr1:∀b∈je x D ajf,H b=none:=fun b hb=>by
  rcases new b hb with q|q|q
  .rw[q];exact nx
  .rw[q];exact Sy
  .exact eV (eV q)
 refine⟨afF _,fun H2 m nm s2 h2=> ?_⟩;have hI2:=V4.same s2;have iv:bb CB CH H H2 x m D ajf [] []:=⟨s1.trans s2,fr1,s1.free nm,(fun z=>by
  rcases afL.mp z with q|q
  .obtain⟨o,ho⟩:=V4.w.UJ q;rw[nm]at ho;cases ho
  .obtain⟨o,ho⟩:=V4.w.now.gd q;rw[nm]at ho;cases ho),(by
  rintro(z|⟨i,y,B,e1,e2,e3⟩)
  .cases z
  .have MS:([]:List af8)[i]? =some B:=e2;simp at MS),h2,hI2⟩
 show tQ _ _ _ [some (.ref a),some (.ref x),some (.ref m),some (.int 0),none,none] H2;refine tU (fun σ H'=>∃(st:Nat) (v4 v5:Option V) (D':HA) (S':afl) (cZ:List afb) (cs:List (List (List Int))) (done:List Int),σ=[some (.ref a),some (.ref x),some (.ref m),some (vn st),v4,v5]/\bb CB CH H H' x m D' S' cZ done/\kG (l.drop st) cs/\iB ajf Yo=done++iB S' cs/\st<=l.length)
  (fun σ _=>match σ with| [_,_,_,some (.int z),_,_]=>l.length-z.toNat|_=>0) ⟨0,none,none,D,ajf,[],Yo,[],rfl,iv,Qw,rfl,afF _⟩ ?_ (fun σ H Q Q' f ⟨v,h1,w,h2,p,ys,h3,h4,i,j,h5,h6,kk,h7,q⟩=>⟨v,h1,w,h2,p,ys,h3,h4,i,j,h5,h6,kk,h7,f _ _ q⟩)
 rintro σ H' ⟨st,v4,v5,D',S',cZ,cs,done,rfl,iv,hp,ht,yE⟩;have uj:aJ K H' a (l.map V.int):=hl.elim (fun z=> .inl (z.elim (fun y=> .inl (iv.sm _ _ y)) fun⟨o,y⟩=> .inr ⟨o,iv.sm _ _ y⟩)) .inr;refine⟨_,rfl,_,rfl,a,_,rfl,.inl uj,_,_,rfl,rfl,_,rfl,aW (fun c=> ?_) (fun c=> ?_)⟩
 .have c':=aff c;rw[ae9]at c';generalize hd:l.drop st=ld at hp;cases hp with
  |nil=>
   have:=congrArg ahN hd;rw[agp]at this;simp at this;omega
  |@cons _ t ns r p Yn o WI=>
   rw[<-hd]at o;rw[ux]at ht;have M8:=congrArg ahN ht;rw[afa,afa,afp]at M8;refine⟨_,rfl,_,rfl,a,l,st,p,ns,r,t,rfl,uj,o,?_⟩;refine⟨_,rfl,_,rfl,_,rfl,_,rfl,_,rfl,_,rfl,a,l,rfl,uj,fun H3 c3 n3 s3 h3=> ?_⟩;rw[show iq l (some (st:Int)) (some ((st+(1+ns.length+(df p r).length):Nat):Int))=_ from Lh o]at h3;have fw:=Gz o;rw[agp]at fw;refine⟨x,c3,D',S',cZ,p,ns,r,rfl,iv.is.same s3,⟨o.lt,o.len,o.no,h3,by omega⟩,by omega,fun H4 q D4 X4 po fl hq=> ?_⟩;generalize ahz S' (jL p ns r)=SR at*;have m3:=s3 _ _ iv.cG;have m4:=po.kp _ _ m3 iv.nf;have nq:m≠q:=fl m _ m3 iv.nf;have sm4:ax H H4:=fun b ob hb=>po.kp b ob (s3 _ _ (iv.sm b ob hb)) fun z=>by
    have:=iv.fr b z;rw[hb]at this;cases this
   have ZN:m∉je x D4 SR.1:=fun z=>by
    rcases po.gr m z with y|y
    .exact iv.nf y
    .rw[m3]at y;cases y
   have ZT:¬QQ D4 SR.1 X4 m:=fun z=>(po.rc m z).elim iv.nr fun y=>y m _ m3 iv.nf rfl
   have fr4:∀b∈je x D4 SR.1,H b=none:=fun b z=>by
    rcases po.gr b z with y|y
    .exact iv.fr b y
    .exact iv.sm.free (s3.free y)
   refine⟨_,rfl,.inl ⟨rfl,_,aJ.of m4⟩,_,rfl,q,_,rfl,.inl (aJ.of hq),m,_,_,rfl,rfl,m4,?_,?_⟩
   .refine agi ?_ (show 10000000<=sizeLine by decide);rw[ae9];omega
   have m5:aE H4 m (.ba (done.map V.int++ [V.int ((SR.2.map V.int).length:Nat)])) m=some (.ba ((done++ [(SR.2.length:Int)]).map V.int)):=by rw[aj,afB,ae9];rfl
   have k5:Kp [m] H4 (aE H4 m (.ba (done.map V.int++ [V.int ((SR.2.map V.int).length:Nat)]))):=Kp.gZ (by simp);refine⟨_,rfl,.inl ⟨rfl,_,aJ.of m5⟩,_,rfl,m,q,_,_,rfl,rfl,m5,k5 _ _ hq (by simpa using agU nq),?_,?_⟩
   .refine afu ?_ (show 10000000<=sizeLine by decide);rw[ae9,ae9,afa,agR];omega
   generalize aE H4 m (.ba (done.map V.int++ [V.int ((SR.2.map V.int).length:Nat)]))=H5 at m5 k5⊢;have k6:Kp [m] H5 (aE H5 m (.ba ((done++ [(SR.2.length:Int)]).map V.int++SR.2.map V.int))):=Kp.gZ (by simp);have m6:aE H5 m (.ba ((done++ [(SR.2.length:Int)]).map V.int++SR.2.map V.int)) m=some (.ba ((done++ [(SR.2.length:Int)]++SR.2).map V.int)):=by rw[aj,afB (l₁:=done++_)]
   generalize aE H5 m (.ba ((done++ [(SR.2.length:Int)]).map V.int++SR.2.map V.int))=H6 at m6 k6⊢;have ZE:=k5.trans k6;refine⟨_,rfl,⟨st+(1+ns.length+(df p r).length),_,_,D4,SR.1,X4,Yn,done++ [(SR.2.length:Int)]++SR.2,rfl,⟨?_,fr4,iv.fn,ZN,ZT,m6,?_⟩,?_,?_,Pc o yE⟩,?_⟩
   .exact fun b ob hb=>ZE _ _ (sm4 _ _ hb) fun z=>by
     rw[show b=m by simpa using z,iv.fn]at hb;cases hb
   .exact po.is.keep ZE (fun a ha z=>ZN ((show a=m by simpa using z)▸ha)) (fun a ha z=>ZT ((show a=m by simpa using z)▸ha))
   .rw[Ib o];exact WI
   .rw[ht];simp
   .show l.length-((st+(1+ns.length+(df p r).length):Nat):Int).toNat<l.length-((st:Nat):Int).toNat;omega
 .have c':¬((st:Int)<((l.map V.int).length:Nat)):=fun z=>c (afj z)
  rw[ae9]at c';have e:l.drop st=[]:=agr (by omega);rw[e]at hp;cases hp with
  |nil=>
   rw[show iB S' []=[]from rfl,af5]at ht;exact⟨_,rfl,k H' m (by rw[ht];exact iv.cG)⟩
  |cons o _=>cases o.eq
def Df(K:afU)(mg:Str->Option afe)(g x:Str)(st:afP):Prop:=∃f fd,b9 K x x st f fd/\mg g=some (.ref f)
def Dm(K:afU)(C:afb)(x q:Str)(st:afP):Prop:=∃f fd,b9 K x q st f fd/\Dj K C x f
section
variable{h:age}
theorem jw.ca{k:Nat}{x:Str}(c:jw P w K mg base k x ps sp f fd):Ca P w K mg base k x ps sp:=⟨f,fd,c⟩
theorem zG.ma{k:Nat}{x:Str}(c:zG P w K mg base k C x ps sp f fd):Ma P w K mg base k C x ps sp:=⟨f,fd,c⟩
theorem dO{l:List (Str×Int)}(X:K.In h)(G:h.Ns mainGlobals mg)(e:cB K l=true)(i:Nat){x:Str}{v:Int}(hi:l[i]? =some (x,v):=by rfl):∃t,mg x=some (.int v t):=by
 have q:=af4.mp e _ (afo hi);revert q;try dsimp only
 split
 .rename_i i' t q;intro z;have z':i'=v:=aff z;subst z';exact⟨t,akM X G q⟩
 .intro z;cases z
theorem oE{l:List Str}(X:K.In h)(G:h.Ns mainGlobals mg)(e:oB K l=true)(i:Nat){x:Str}(hi:l[i]? =some x:=by rfl):mg x=none:=by
 have q:=af4.mp e _ (afo hi);revert q;try dsimp only
 split
 .rename_i q;intro _;exact PySem.W.mg_none_of X G q
 .intro z;cases z
theorem yI{us:List afe}(e:Cq K a=some us):∃(o:Obj) (aR:Array afe) (n:Nat),K.lookup a=some o/\o.cls= .type "tuple"/\o.data= .seq aR n/\aR.size<=sizeLine/\aR.toList=us:=by
 unfold Cq at e;split at e
 .rename_i t d aR n sl q;split at e
  .rename_i c;obtain⟨c1,c2⟩:=c;subst c1;cases e;exact⟨_,aR,n,q,rfl,rfl,afu c2 (by decide),rfl⟩
  .cases e
 .cases e
theorem zC:∀{us:List afe} {ns:List Nat},zA us=some ns->bo (ns.map vn) us
 | [],ns,e=>by
  have e':some []=some ns:=e;cases e';exact .nil
 |v::r,ns,e=>by
  unfold zA at e;split at e
  .rename_i n t;cases q:zA r with
   |none=>rw[q]at e;cases e
   |some m=>
    rw[q]at e;cases e;exact .cons ⟨t,rfl⟩ (zC q)
  .cases e
theorem zE:∀{us:List afe} {ns:List afb},zD us=some ns->bo (ns.map V.ref) us
 | [],ns,e=>by
  have e':some []=some ns:=e;cases e';exact .nil
 |v::r,ns,e=>by
  unfold zD at e;split at e
  .rename_i a;cases q:zD r with
   |none=>rw[q]at e;cases e
   |some m=>
    rw[q]at e;cases e;exact .cons rfl (zE q)
  .cases e
theorem Cp{ns:List Nat}(e:kN K a=some ns):ko K a (ns.map vn):=by
 obtain⟨us,q,q2⟩:=akN.mp e;obtain⟨o,aR,n,h1,h2,h3,h4,h5⟩:=yI q;exact⟨o,aR,n,h1,h2,h3,h4,by rw[h5];exact zC q2⟩
theorem G6{ns:List afb}(e:kR K a=some ns):ko K a (ns.map V.ref):=by
 obtain⟨us,q,q2⟩:=akN.mp e;obtain⟨o,aR,n,h1,h2,h3,h4,h5⟩:=yI q;exact⟨o,aR,n,h1,h2,h3,h4,by rw[h5];exact zE q2⟩
theorem CQ:∀{qs:List afb} {xs:List (Nat×Nat)},IB K qs xs=true->qs.length=xs.length/\∀(j:Nat) (q:afb) (x:Nat×Nat),qs[j]? =some q->xs[j]? =some x->ko K q [vn x.1,vn x.2]
 | [],[],_=>⟨rfl,fun j q x e=>by simp at e⟩
 |q::qs,x::xs,e=>by
  have e':(decide (kN K q=some [x.1,x.2])&&IB K qs xs)=true:=e;rw[afy]at e';obtain⟨l,r⟩:=CQ e'.2;refine⟨by rw[afp,afp,l],fun j q' x' h1 h2=> ?_⟩;cases j with
  |zero=>
   obtain rfl:q=q':=aft h1;obtain rfl:x=x':=aft h2;exact Cp (aff e'.1)
  |succ j=>exact r j q' x' h1 h2
 | [],_::_,e=>by cases e
 |_::_,[],e=>by cases e
theorem y6:∀{rs:List afb} {p0:Nat},CP K rs p0=true->∀(p:Nat) (r:afb),rs[p]? =some r->∃qs:List afb,ko K r (qs.map V.ref)/\qs.length=(rg (p0+p)).length/\∀(j:Nat) (q:afb) (x:Nat×Nat),qs[j]? =some q->(rg (p0+p))[j]? =some x->ko K q [vn x.1,vn x.2]
 | [],_,_,p,r,h=>by simp at h
 |r0::rs,p0,e,p,r,h=>by
  have e':((match kR K r0 with
  |some qs=>IB K qs (rg p0)
  |none=>false)&&CP K rs (p0+1))=true:=e
  rw[afy]at e';cases p with
  |zero=>
   obtain rfl:r0=r:=aft h;have z:=e'.1;cases q:kR K r0 with
   |none=>rw[q]at z;cases z
   |some qs=>
    rw[q]at z;exact⟨qs,G6 q,CQ z⟩
  |succ p=>
   have:=y6 e'.2 p r h;rw[show p0+1+p=p0+(p+1) by omega]at this;exact this
theorem Pq(e:Pp K R=true):∃rs,rC K R rs:=by
 unfold Pp at e;split at e
 .rename_i rs q;rw[afy]at e;refine⟨rs,G6 q,aff e.1,fun p r h=> ?_⟩;have:=y6 e.2 p r h;rw[aii]at this;exact this
 .cases e
theorem uM:∀{es:List anv} {l:List (Int×afb)},rQ es=some l->(∀e∈es,∃k:br,(cO P w).is k e.key=true/\e.hash=(cO P w).hash k)/\Pairs (cO P w) es (l.map fun p=>((afx p.1:br),afZ p.2))
 | [],l,e=>by
  have e':some []=some l:=e;cases e';exact⟨fun e he=>by simp at he,.nil⟩
 |e::r,l,q=>by
  unfold rQ at q;split at q
  .rename_i hs k t a;split at q
   .rename_i c;cases z:rQ r with
    |none=>rw[z]at q;cases q
    |some m=>
     rw[z]at q;cases q;obtain⟨h1,h2⟩:=uM z;refine⟨fun e he=> ?_,.cons (lh P w k t) rfl h2⟩;rcases afv.mp he with y|y
     .subst y;exact⟨.inl k,lh P w k t,c⟩
     .exact h1 e y
   .cases q
  .cases q
abbrev dv(l:List (Int×afb)):List (br×V):=l.map fun p=>(afx p.1,V.ref p.2)
theorem MR:∀l:List (Int×afb),KV (dv l) (l.map fun p=>((afx p.1:br),afZ p.2))
 | []=> .nil
 |_::l=> .cons ⟨rfl,rfl⟩ (MR l)
theorem uY:∀{l:List (Int×afb)},(l.map (·.1)).Nodup->((l.map fun p=>((afx p.1:br),afZ p.2)).map (·.1)).Nodup
 | [],_=> .nil
 |p::l,e=>by
  have e':=afE.mp (show(p.1::l.map (·.1)).Nodup from e);refine afE.mpr ⟨fun z=>e'.1 ?_,uY e'.2⟩;obtain⟨y,hy,ey⟩:=afH.mp z;obtain⟨u,hu,eu⟩:=afH.mp hy;subst eu;have:u.1=p.1:=ald ey;exact afH.mpr ⟨u,hu,this⟩
theorem Nm{l:List (Int×afb)}(e:kD K a=some l):KD P w K a (dv l):=by
 unfold kD at e;split at e
 .rename_i t es ep sl q;split at e
  .rename_i c;obtain⟨c1,c2,c3⟩:=c;subst c1;split at e
   .rename_i l' z;split at e
    .rename_i nd;cases e;obtain⟨h1,h2⟩:=uM (P:=P) (w:=w) z;exact⟨c3,_,MR l,fun h' X=>⟨_,es,ep,X _ _ q,⟨rfl,rfl,Array.eq_empty_of_size_eq_zero c2⟩,rfl,fun e he=>h1 e (alh.mpr he),h2,uY nd⟩⟩
    .cases e
   .cases e
  .cases e
 .cases e
theorem pf(p:Nat):∀l:List (Int×afb),ee (dv l) (afx (p:Int))=(ve l p).map V.ref
 | []=>rfl
 |q::l=>by
  show ee ((afx q.1,V.ref q.2)::dv l) _=_;by_cases e:q.1=(p:Int)
  .rw[eF (by rw[e])];simp[ve,ag8,e]
  .rw[dS (fun z=>e (ald z)),pf p l];simp[ve,ag8,e]
theorem A9{nm:List (Option Str)}(X:K.In h)(G:h.Ns mainGlobals mg)(e:Jl K a nm=true):∃aQ,KD P w K a aQ/\(∀p:Nat,p<25->nm.getD p none=none->ee aQ (afx (p:Int))=none)/\∀(p:Nat) (g:Str),p<25->nm.getD p none=some g->∃r,ee aQ (afx (p:Int))=some (.ref r)/\mg g=some (.ref r):=by
 unfold Jl at e;split at e
 .rename_i l q;refine⟨dv l,Nm q,fun p hp hn=> ?_,fun p g hp hn=> ?_⟩
  .have z:=af4.mp e p (aiv.mpr hp);rw[hn]at z;rw[pf,Option.isNone_iff_eq_none.mp z];rfl
  .have z:=af4.mp e p (aiv.mpr hp);rw[hn]at z;revert z;try dsimp only
   split
   .rename_i r r' q1 q2;intro z;have z':r=r':=aff z;subst z';exact⟨r,by rw[pf,q1];rfl,akM X G q2⟩
   .intro z;cases z
 .cases e
theorem N8(e:N7 K a=true):∃aQ,Mj P w K a aQ:=by
 unfold N7 at e;split at e
 .rename_i l q;refine⟨dv l,Nm q,fun p hp=> ?_⟩;have z:=af4.mp e p (aiv.mpr hp);revert z;try dsimp only
  split
  .rename_i y;exact fun z=> .inl ⟨aff z,by rw[pf,y];rfl⟩
  .rename_i r y;exact fun z=> .inr ⟨r,by rw[pf,y];rfl,Cp (aff z)⟩
 .cases e
theorem y4(X:K.In h)(G:h.Ns mainGlobals mg):∀{rs:List afb} {gs:List Str},CN K rs gs=true->rs.length=gs.length/\∀(p:Nat) (r:afb) (g:Str),rs[p]? =some r->gs[p]? =some g->mg g=some (.ref r)
 | [],[],_=>⟨rfl,fun p r g e=>by simp at e⟩
 |r::rs,g::gs,e=>by
  have e':((match nsIn K mainGlobals g with
  |some (some (.ref r'))=>decide (r=r')
  |_=>false)&&CN K rs gs)=true:=e
  rw[afy]at e';obtain⟨l,q⟩:=y4 X G e'.2;refine⟨by rw[afp,afp,l],fun p r' g' h1 h2=> ?_⟩;cases p with
  |zero=>
   obtain rfl:r=r':=aft h1;obtain rfl:g=g':=aft h2;have z:=e'.1;revert z;split
   .rename_i r' y;intro z;have z':r=r':=aff z;subst z';exact akM X G y
   .intro z;cases z
  |succ p=>exact q p r' g' h1 h2
 | [],_::_,e=>by cases e
 |_::_,[],e=>by cases e
theorem N2{gs:List Str}(X:K.In h)(G:h.Ns mainGlobals mg)(e:N1 K a gs=true):∃fs:List afb,ko K a (fs.map V.ref)/\fs.length=gs.length/\∀(p:Nat) (r:afb) (g:Str),fs[p]? =some r->gs[p]? =some g->mg g=some (.ref r):=by
 unfold N1 at e;split at e
 .rename_i rs q;exact⟨rs,G6 q,y4 X G e⟩
 .cases e
end
theorem SD(a:agE):(eO a).length<=3:=by cases a<;>simp[eO]
inductive NI(x:V)(y:V)(H:Hp)(Q:VK):Prop|m:∀(a:afb) (z:Int) (m:Nat),x= .ref a->y= .int (m:Int)->IL H a [z]->m<=1000->(∀(H':Hp) (p:afb),H p=none->ax H H'->IL H' p (afO m z)->Q (.ref p) H')->NI x y H Q
theorem Lj:nY X (binaryOp .Mult) NI:=by
 intro pins s σ H x y u v Q I rx ry ⟨a,z,m,e1,e2,h1,hz,q⟩;refine AD pins s σ H x y u v Q I rx ry ⟨a,_,_,e1,e2,h1,ahs _,ahW (show(m:Int)<=1000 by omega) (by decide),?_,fun p hp=>q _ p hp (ax.new hp) ?_⟩
 .show 1*(m:Int).toNat<=sizeLine;exact afu (show 1*(m:Int).toNat<=1000 by omega) (by decide)
 .show L2.aE _ p _ p=_;rw[aj,ah4];exact congrArg (fun z=>some (HO.ba z)) (CO m z)
abbrev yc:afP:=dC 126
theorem vy:au ["house","numbers","row"] ["house","numbers","row"] (ai yc):=cF
theorem Au(F:b9 K "freeze" "freeze" yc f fd)(L:kF P w K mg base CB CH):aT P w K mg base bX 6 f fd ["house","numbers","row"] (gQ CB CH 9):=by
 refine cz F vy fun _ _ _ _ H _ Q E hr h=> ?_
 obtain⟨h,nl,rl,D,S,FZ,x,rfl,hc,ok,W,fn,fr,hn,gJ,ku,iM,k⟩:=h;obtain rfl:=fm hc;have hz:=W.st.len;have nd:=vy.nd;refine⟨_,ae (aZ (bf (jK (pv 0) L.a.h.cl L.Su hr)) (af (aq (fN (aa (gY rfl L.a.v.full) ab)))) aC)
  (ae (aI (jK (pv 0) L.a.h.cl L.freeze hr))
  (af (aq (fN (aa ag (aa (aN ay rfl L.a.g.len ago (aa (az (pv 0)) ab)) (aa (aN ay rfl L.a.g.len ago (aa (az (pv 0)) ab)) ab))))))),?_⟩
 refine⟨_,rfl,h,D.dx,_,rfl,W.w.ins,cj (e9 _ (by simp)),h,D,_,_,_,_,_,_,FZ,_,rfl,W.w,_,rfl,aW (fun c=> ?_) (fun c=> ?_)⟩
 .have c':=aff c;rw[gU]at c';exact⟨jv,fun H1 l n1 s1 h1=>aO W k (gS (show(if amD<=S.editions.length then _ else _)=_ from afh c')) n1 s1 h1⟩
 have c':¬10<=S.editions.length:=fun z=>c (afj (by rw[gU];exact z))
 have st:ahl S .freeze=(jW S,[0,nat (S.editions.length+1),nat S.log.length]):=dX (show(if amD<=S.editions.length then _ else _)=_ from afc c');refine⟨_,rfl,h,D.dx,_,rfl,W.w.ins,cj (e9 _ (by simp)),h,D,_,_,_,_,_,_,FZ,_,rfl,W.w,by omega,by rw[gU];omega,by omega,fun H1 b d fr W1 k1=> ?_⟩;refine⟨_,rfl,h,CH,D.dx,_,_,rfl,W1.ins,L.a.h.cl,L.a.h.nE,pL,D.ed,_,rfl,.inl (aJ.of W1.he),_,rfl,h,CH,D.dx,_,_,rfl,W1.ins,L.a.h.cl,L.a.h.nL,i7,D.lg,_,rfl,.inl (aJ.of W1.hl),QF,fun H2 l n2 s2 h2=> ?_⟩;have qm:=W1.el;have Ab:=W1.ll;rw[ae9,ae9,qm,Ab,afa,gU]at h2;rw[st]at k;refine k H2 l {D with eb:=D.eb++ [(b,d)]} FZ ⟨⟨?_,W.st.jW (by omega)⟩,fun a o e ne=>s2 _ _ (k1 a o e fun z=>ne ?_),fun a ha=> .inl ha,?_⟩ (fun b' o e ne=>ak (k1 b' o e fun z=>ne ?_) n2) h2
 .rw[oo];exact W1.same s2
 .have:a=D.ed\/a=D.ln:=by simpa using z
  refine afY _ ?_;rcases this with e|e<;>rw[e]<;>simp
 .rintro c (z|⟨i,x,B,e1,e2,e3⟩)
  .exact .inl (.inl z)
  .rw[oo]at e2;have zM:=W.w.el;by_cases q:i<D.eb.length
   .have Jw:(D.eb++ [(b,d)])[i]? =some x:=e1;rw[agK q]at Jw;rw[agK (by rw[<-zM];exact q)]at e2;exact .inl (.inr ⟨i,x,B,Jw,e2,e3⟩)
   .have Jw:(D.eb++ [(b,d)])[i]? =some x:=e1;rw[agt (akW.mp q)]at Jw;rw[agt (by rw[<-zM];exact akW.mp q)]at e2;cases hj:i-D.eb.length with
    |zero=>
     rw[hj]at Jw;rw[<-zM,hj]at e2;injection Jw with Jw
     injection e2 with e2
     subst Jw;subst e2;exact .inr (.new (fr c e3))
    |succ j=>rw[hj]at Jw;cases Jw
 .have:b'=D.ed\/b'=D.ln:=by simpa using z
  refine afY _ ?_;rcases this with e|e<;>rw[e]<;>simp
abbrev F1:afP:=dC 139
theorem C1:au ["house","numbers","row","noted","missing"] ["house","numbers","row"] (ai F1):=cF
theorem HF(F:b9 K "line" "line" F1 f fd)(L:kF P w K mg base CB CH):aT P w K mg base bX 6 f fd ["house","numbers","row"] (gQ CB CH 22):=by
 refine cz F C1 fun _ _ _ _ H _ Q E hr h=> ?_
 obtain⟨h,nl,rl,D,S,FZ,x,rfl,hc,ok,W,fn,fr,hn,gJ,ku,iM,k⟩:=h;obtain⟨i,rfl⟩:=fm hc;have hz:=W.st.len;have nd:=C1.nd;refine⟨_,ae (aZ (aX oF (aG aA (pv 1) ag) (aN ay rfl L.a.g.len ago (aa (az (pv 0)) ab)) (bc _)) (af (aq (fN (aa (gY rfl L.a.v.noL) ab)))) aC)
  (ae (cY 3 nd (aG aA (az (pv 0)) (bx j3 (aG aA (pv 1) ag) ag)))
  (ae (cY 4 nd (bx Lj (fN (aa ag ab)) (bx j3 ag (aN ay rfl L.a.g.len ago (aa (aG eJ (pv 3) ag) ab)))))
  (af (aq (bx dW (bx dW (bx dW (bx dW (fN (aa ag (aa (aG eJ (pv 3) ag) ab))) (aG eJ (pv 3) ag)) (pv 4)) (fN (aa (aN ay rfl L.a.g.len ago (aa (aG eJ (pv 3) ag) ab)) ab))) (aG eJ (pv 3) ag)))))),?_⟩
 have st:=E7 (S:=S) ok;have i1:1<=i:=ok;refine⟨_,rfl,nl,_,_,vn i,rfl,rfl,aJ.of hn,iL (i:=0) rfl,_,rfl,h,CH,D.dx,_,_,rfl,W.w.ins,L.a.h.cl,L.a.h.nL,i7,D.lg,_,rfl,.inl (aJ.of W.w.hl),_,_,rfl,rfl,_,rfl,aW (fun c=> ?_) (fun c=> ?_)⟩
 .have c':=aff c;rw[ae9,W.w.ll]at c';rw[aip (by omega)]at st;exact⟨jv,fun H1 l n1 s1 h1=>aO W k st n1 s1 h1⟩
 have c':¬(((D.la.map fun x=>V.ref x.1).length:Nat):Int)<(i:Int):=fun z=>c (afj z)
 rw[ae9,W.w.ll]at c';have gV:i-1<S.log.length:=by omega
 have hg:=afi gV;have Wm:D.la[i-1]? =some (D.la[i-1]'(by rw[W.w.ll];exact gV)):=afi _;generalize (D.la[i-1]'(by rw[W.w.ll];exact gV))=y at Wm;rw[hg]at st;generalize S.log[i-1]=a at hg st;have L1:=W.w.ki (i-1) y a Wm hg;have Uy:=W.st.ok a (afo hg);have acW:(ur a).length<=30:=by
  cases a with
  |entry _ _=>exact afu Uy (by decide)
  |sense _ _ _=>exact Uy
  |say _ _=>exact Uy
  |erratum _ _ _=>exact Uy.2
  |_=>exact afF _
 have hn3:=SD a;refine⟨_,rfl,h,CH,D.dx,_,_,rfl,W.w.ins,L.a.h.cl,L.a.h.nL,i7,_,rfl,nl,_,_,vn i,rfl,rfl,aJ.of hn,iL (i:=0) rfl,_,_,rfl,rfl,D.lg,_,_,.ref y.1,rfl,rfl,aJ.of W.w.hl,gE (j:=i-1) (by show(i:Int)-1=_;omega) (by rw[afw,Wm];rfl),?_⟩;have ix:∀{H':Hp},ax H H'->gF K H' y.1 [vn (bz a),V.ref y.2.1,V.ref y.2.2]:=fun s=>gF.of (s _ _ L1.tu)
 refine⟨jv,fun H1 m1 n1 s1 h1=>⟨_,rfl,y.1,_,_,_,rfl,rfl,ix s1,(show pB [vn (bz a),V.ref y.2.1,V.ref y.2.2] (1:Int)=some (V.ref y.2.1)from rfl),y.2.1,_,rfl,.inl (aJ.of (s1 _ _ L1.nu)),_,_,rfl,rfl,m1,0,3-(eO a).length,rfl,?_,h1,by omega,fun H2 m2 n2 s2 h2=> ?_⟩⟩
 .rw[ae9];exact congrArg V.int (show(3:Int)-((eO a).length:Nat)=((3-(eO a).length:Nat):Int) by omega)
 have QB:=s1.trans s2;refine⟨_,rfl,y.1,_,_,_,rfl,rfl,ix QB,(show pB [vn (bz a),V.ref y.2.1,V.ref y.2.2] (0:Int)=some (vn (bz a))from rfl),xO,fun H3 m3 n3 s3 h3=> ?_⟩;have mx:=QB.trans s3;refine⟨_,rfl,y.1,_,_,_,rfl,rfl,ix mx,(show pB [vn (bz a),V.ref y.2.1,V.ref y.2.2] (1:Int)=some (V.ref y.2.1)from rfl),m3,y.2.1,[0,nat (bz a)],_,rfl,rfl,h3,jx (mx _ _ L1.nu),by rw[ae9];show 2+_<=_;omega,fun H4 m4 n4 s4 h4=> ?_⟩;refine⟨_,rfl,m4,m2,_,_,rfl,rfl,h4,s4 _ _ (s3 _ _ h2),by simp only[afa,ae9,ag0,afp,aiO];omega,fun H5 m5 n5 s5 h5=> ?_⟩;have mm:=mx.trans (s4.trans s5);refine⟨_,rfl,y.1,_,_,_,rfl,rfl,ix mm,(show pB [vn (bz a),V.ref y.2.1,V.ref y.2.2] (2:Int)=some (V.ref y.2.2)from rfl),y.2.2,_,rfl,.inl (aJ.of (mm _ _ L1.ro)),jv,fun H6 m6 n6 s6 h6=> ?_⟩;rw[ae9]at h6;refine⟨m5,m6,_,[nat (ur a).length],rfl,rfl,s6 _ _ h5,h6,by simp only[afa,ae9,ag0,afp,aiO];omega,fun H7 m7 n7 s7 h7=> ?_⟩;have JI:=mm.trans (s6.trans s7);refine⟨_,rfl,y.1,_,_,_,rfl,rfl,ix JI,(show pB [vn (bz a),V.ref y.2.1,V.ref y.2.2] (2:Int)=some (V.ref y.2.2)from rfl),m7,y.2.2,_,_,rfl,rfl,h7,jx (JI _ _ L1.ro),by simp only[afa,ae9,ag0,afp,aiO];omega,fun H8 m8 n8 s8 h8=> ?_⟩;refine aO W k st (JI.free n8) (JI.trans s8) ?_;rw[Jm];show H8 m8=_;rw[h8];simp[afQ]
theorem nR:∀p,p<25->fG p=false->nW.getD p none=none:=by decide+kernel
theorem yR:∀p,p<25->fG p=true->p=0\/p=1\/p=2\/p=8\/p=13\/p=20:=by decide+kernel
theorem lt9(h:p<9):p=0\/p=1\/p=2\/p=3\/p=4\/p=5\/p=6\/p=7\/p=8:=by revert p;decide+kernel
theorem in8(h:1<=p)(k:p<=8):p=1\/p=2\/p=3\/p=4\/p=5\/p=6\/p=7\/p=8:=by
 have q:∀p,p<9->1<=p->p=1\/p=2\/p=3\/p=4\/p=5\/p=6\/p=7\/p=8:=by decide+kernel
 exact q p (Nat.lt_succ_of_le k) h
theorem W4(h:9<=p)(k:p<25):(p=9\/p=10\/p=11\/p=12\/p=13\/p=14\/p=15\/p=16)\/p=17\/p=18\/p=19\/p=20\/p=21\/p=22\/p=23\/p=24:=by
 have q:∀p,p<17->9<=p->p=9\/p=10\/p=11\/p=12\/p=13\/p=14\/p=15\/p=16:=by decide+kernel
 have r:∀p,p<25->17<=p->p=17\/p=18\/p=19\/p=20\/p=21\/p=22\/p=23\/p=24:=by decide+kernel
 exact(Nat.lt_or_ge p 17).imp (fun z=>q p z h) fun z=>r p k z
structure UL(P:afz)(w:af3)(K:afU)(mg:Str->Option afe)(base:age):Prop where
section
variable{h:age}
section
variable{k:Nat}{x q g:Str}
theorem kC(Z:UL P w K mg base)(d:Df K mg g x st)(o:∀{f:afb} {fd:afC},b9 K x x st f fd->aT P w K mg base bX k f fd ps sp/\eY K fd ps []):Ca P w K mg base k g ps sp:=let⟨f,fd,F,m⟩:=d;⟨f,fd,(o F).1,m,F.kp,(o F).2⟩
theorem kM(Z:UL P w K mg base)(d:Dm K C x q st)(o:∀{f:afb} {fd:afC},b9 K x q st f fd->aT P w K mg base bX k f fd ps sp/\eY K fd ps []):Ma P w K mg base k C x ps sp:=let⟨f,fd,F,m⟩:=d;⟨f,fd,(o F).1,m,(o F).2⟩
theorem kH(F:b9 K x q st f fd)(h:∀(kV doc pm:afe) (an:Option afb) (ke ct u0:afe),bindArgs (fnOf x q (gM st) (cq st) (ai st) .none kV doc pm an ke ct) ⟨[u0],[]⟩=pure (([p0]:List Str).zip [u0]):=by intros;kernel_rfl):eY K fd [p0] []:=F.binds fun a b c d e f us hl=>by
 rcases us with _|⟨u0,us⟩
 .cases hl
 rcases us with _|⟨v,us⟩
 .exact h a b c d e f u0
 .simp at hl
theorem nQ(F:b9 K x q st f fd)(h:∀(kV doc pm:afe) (an:Option afb) (ke ct u0 u1:afe),bindArgs (fnOf x q (gM st) (cq st) (ai st) .none kV doc pm an ke ct) ⟨[u0,u1],[]⟩=pure (([p0,p1]:List Str).zip [u0,u1]):=by intros;kernel_rfl):eY K fd [p0,p1] []:=F.binds fun a b c d e f us hl=>by
 rcases us with _|⟨u0,us⟩
 .cases hl
 rcases us with _|⟨u1,us⟩
 .cases hl
 rcases us with _|⟨v,us⟩
 .exact h a b c d e f u0 u1
 .simp at hl
theorem jb(F:b9 K x q st f fd)(h:∀(kV doc pm:afe) (an:Option afb) (ke ct u0 u1 u2:afe),bindArgs (fnOf x q (gM st) (cq st) (ai st) .none kV doc pm an ke ct) ⟨[u0,u1,u2],[]⟩=pure (([p0,p1,p2]:List Str).zip [u0,u1,u2]):=by intros;kernel_rfl):eY K fd [p0,p1,p2] []:=F.binds fun a b c d e f us hl=>by
 rcases us with _|⟨u0,us⟩
 .cases hl
 rcases us with _|⟨u1,us⟩
 .cases hl
 rcases us with _|⟨u2,us⟩
 .cases hl
 rcases us with _|⟨v,us⟩
 .exact h a b c d e f u0 u1 u2
 .simp at hl
theorem Qh{p3:Str}(F:b9 K x q st f fd)(h:∀(kV doc pm:afe) (an:Option afb) (ke ct u0 u1 u2 u3:afe),bindArgs (fnOf x q (gM st) (cq st) (ai st) .none kV doc pm an ke ct) ⟨[u0,u1,u2,u3],[]⟩=pure (([p0,p1,p2,p3]:List Str).zip [u0,u1,u2,u3]):=by intros;kernel_rfl):eY K fd [p0,p1,p2,p3] []:=F.binds fun a b c d e f us hl=>by
 rcases us with _|⟨u0,us⟩
 .cases hl
 rcases us with _|⟨u1,us⟩
 .cases hl
 rcases us with _|⟨u2,us⟩
 .cases hl
 rcases us with _|⟨u3,us⟩
 .cases hl
 rcases us with _|⟨v,us⟩
 .exact h a b c d e f u0 u1 u2 u3
 .simp at hl
theorem X8{p3 p4:Str}(F:b9 K x q st f fd)(h:∀(kV doc pm:afe) (an:Option afb) (ke ct u0 u1 u2 u3 u4:afe),bindArgs (fnOf x q (gM st) (cq st) (ai st) .none kV doc pm an ke ct) ⟨[u0,u1,u2,u3,u4],[]⟩=pure (([p0,p1,p2,p3,p4]:List Str).zip [u0,u1,u2,u3,u4]):=by intros;kernel_rfl):eY K fd [p0,p1,p2,p3,p4] []:=F.binds fun a b c d e f us hl=>by
 rcases us with _|⟨u0,us⟩
 .cases hl
 rcases us with _|⟨u1,us⟩
 .cases hl
 rcases us with _|⟨u2,us⟩
 .cases hl
 rcases us with _|⟨u3,us⟩
 .cases hl
 rcases us with _|⟨u4,us⟩
 .cases hl
 rcases us with _|⟨v,us⟩
 .exact h a b c d e f u0 u1 u2 u3 u4
 .simp at hl
end
section
variable{g:Str}{r:afb}{o:Option V}
theorem sS(a:mg g=some (.ref f))(b:mg g=some (.ref r)):f=r:=by
 rw[a]at b;cases b;rfl
theorem JA(c:jw P w K mg base n g ps (gQ CB CH p) f fd)(e:mg g=some (.ref r)):TK P w K mg base CB CH n p r:=by
 obtain rfl:=sS c.mg e;exact⟨fd,ps,c.kp,c.ok,c.bi⟩
theorem mj(c:jw P w K mg base n g ps (gQ CB CH p) f fd)(e:∃r,o=some (.ref r)/\mg g=some (.ref r)):∃r,o=some (.ref r)/\TK P w K mg base CB CH n p r:=by
 obtain⟨r,e1,e2⟩:=e;exact⟨r,e1,JA c e2⟩
theorem jE(c:jw P w K mg base n g ps sp f fd)(e:∃r,o=some (.ref r)/\mg g=some (.ref r)):∃(r:afb) (fd:afC),o=some (.ref r)/\keepIn K (.ref r)=true/\aT P w K mg base bX n r fd ps sp/\eY K fd ps []:=by
 obtain⟨r,e1,e2⟩:=e;obtain rfl:=sS c.mg e2;exact⟨f,fd,e1,c.kp,c.ok,c.bi⟩
end
theorem Ia{x q:Str}(e:xT K f q=ug x q st):∃fd,b9 K x q st f fd:=by
 unfold xT ug at e;split at e
 .rename_i oc od fd JH hl;split at e
  .rename_i c;rw[afy]at c;obtain⟨a1,a2,a3,a4,a5,a6,a7,a8,a9,a10,a11,a12,a13,a14,a15⟩:=fd;simp only[Option.some.injEq,Prod.mk.injEq]at e;obtain⟨rfl,rfl,rfl,rfl,rfl,rfl,rfl,rfl,rfl⟩:=e;exact⟨_,Oo hl c.1 c.2⟩
  .cases e
 .cases e
theorem aU(X:K.In h)(N:h.Ns mainGlobals mg){l:List (Str×Str×Nat)}(e:l.map (T2 K)=l.map fun p=>ug p.2.1 p.2.1 (dC p.2.2))(i:Nat){g x:Str}(hi:l[i]? =some (g,x,n):=by rfl):Df K mg g x (dC n):=by
 have q:=congrArg (fun z=>z[i]?) e;try dsimp only at q
 rw[afw,afw,hi]at q;have q:=aft q;unfold T2 at q;try dsimp only at q
 split at q
 .rename_i f hf;obtain⟨fd,F⟩:=Ia q;exact⟨f,fd,F,akM X N hf⟩
 .cases q
theorem eM{c:Str}{s:afP}(a:nsIn K mainGlobals c=some (some (.ref C))){l:List (Str×Str×Nat)}(e:l.map (Ql K c)=l.map fun p=>ug p.1 p.2.1 (bt s p.2.2))(i:Nat){x q:Str}(hi:l[i]? =some (x,q,n):=by rfl):Dm K C x q (bt s n):=by
 have q:=congrArg (fun z=>z[i]?) e;try dsimp only at q
 rw[afw,afw,hi]at q;have q:=aft q;unfold Ql at q;rw[a]at q;try dsimp only at q
 split at q
 .rename_i f hf;split at q
  .rename_i i;obtain⟨fd,F⟩:=Ia q;exact⟨f,fd,F,⟨hf,i,F.kp⟩⟩
  .cases q
 .cases q
theorem mw{x:Str}{f:afb->Bool}(e:rf K x f=true):∃a,nsIn K mainGlobals x=some (some (.ref a))/\f a=true:=by
 unfold rf at e;split at e
 .rename_i a q;exact⟨a,q,e⟩
 .cases e
theorem Ms{fs:List Str}(e:TR K fs C=true):zF K C/\makesIn K C=true/\keepIn K (.ref C)=true/\∀(i:Nat) {x:Str},fs[i]? =some x->findIn K (.ref C) x=some none:=by
 unfold TR at e;simp only[afy]at e;obtain⟨⟨⟨⟨⟨⟨e1,e2⟩,e3⟩,e4⟩,e5⟩,e6⟩,e7⟩:=e;refine⟨⟨e1,e2,e3,?_⟩,e5,e6,fun i x hx=> ?_⟩
 .split at e4
  .rename_i b q;rw[q,aff e4]
  .cases e4
 .have z:=af4.mp e7 x (afo hx);unfold ZQ at z;split at z
  .rename_i q;exact q
  .cases z
theorem N4{fa:afb}(X:K.In h)(N:h.Ns mainGlobals mg)(hfa:mg "answers"=some (.ref fa))(e:rT K=r6):∃fd:afC,(∀(s:afA) (us:List afe),us.length=(["calls"]:List Str).length->al4 s fd ⟨us,[]⟩ ((["calls"]:List Str).zip us))/\∀base:age,K.In base->base.Ns mainGlobals mg->aT P w K mg base bX 9 fa fd ["calls"] (mh K):=by
 have e0:Gx K=true:=congrArg (fun z=>z.1) e;have lG:tG.map (T2 K)=tG.map fun p=>ug p.2.1 p.2.1 (dC p.2.2):=congrArg (fun z=>z.2.1) e
 have lB:tB.map (Ql K "Book")=tB.map fun p=>ug p.1 p.2.1 (bt ip p.2.2):=congrArg (fun z=>z.2.2.1) e
 have lH:tH.map (Ql K "House")=tH.map fun p=>ug p.1 p.2.1 (bt gm p.2.2):=congrArg (fun z=>z.2.2.2) e
 clear e;simp only[Gx,afy]at e0;obtain⟨⟨⟨⟨⟨⟨⟨⟨⟨⟨⟨qB,qH⟩,qA⟩,qG⟩,qW⟩,qD⟩,qT⟩,qK⟩,qN⟩,qU⟩,ec⟩,eo⟩:=e0;obtain⟨CB,aB,eB⟩:=mw qB;obtain⟨CH,aH,eH⟩:=mw qH;obtain⟨RA,bA,eA⟩:=mw qA;obtain⟨RG,bG,eG⟩:=mw qG;obtain⟨RW,bW,eW⟩:=mw qW;obtain⟨RD,bD,eD⟩:=mw qD;obtain⟨RT,bT,eT⟩:=mw qT;obtain⟨RB,bB,eK⟩:=mw qK;obtain⟨RN,bN,eN⟩:=mw qN;obtain⟨RU,bU,eU⟩:=mw qU;obtain⟨zB,mkB,kcB,nB⟩:=Ms eB;obtain⟨zH,mkH,kcH,nH⟩:=Ms eH;have TB:mC K mg CB:=⟨zB,nB 0 rfl,nB 1 rfl,nB 2 rfl,nB 3 rfl,nB 4 rfl,akM X N aB⟩;have TH:zS K mg CH:=⟨zH,nH 0 rfl,nH 1 rfl,nH 2 rfl,nH 3 rfl,nH 4 rfl,nH 5 rfl,akM X N aH⟩;have G:lN mg:=⟨oE X N eo 0,oE X N eo 1,oE X N eo 2,oE X N eo 3,oE X N eo 4,oE X N eo 5,oE X N eo 6,oE X N eo 7,oE X N eo 8⟩;have V0:Jt mg:=⟨dO X N ec 0,dO X N ec 1,dO X N ec 2,dO X N ec 3,dO X N ec 4,dO X N ec 5,dO X N ec 6,dO X N ec 7,dO X N ec 8,dO X N ec 9,dO X N ec 10,dO X N ec 11,dO X N ec 12,dO X N ec 13,dO X N ec 14⟩;have XC:Mp mg:=⟨dO X N ec 15,dO X N ec 16,dO X N ec 17,dO X N ec 18,dO X N ec 19,dO X N ec 20,dO X N ec 21,dO X N ec 22⟩;have XP:N0 mg:=⟨dO X N ec 23,dO X N ec 24,dO X N ec 25,dO X N ec 26,dO X N ec 27,dO X N ec 28,dO X N ec 29⟩;have gr:∃t,mg "GREATEST_patching"=some (.int 100 t):=dO X N ec 30;have mA:=akM X N bA;have mR:=akM X N bG;have mW:=akM X N bW;have mD:=akM X N bD;have mT:=akM X N bT;have mB:=akM X N bB;have mN:=akM X N bN;have mU:=akM X N bU;have hN:ko K RN [vn 0,vn 0]:=Cp (aff eN);have hU:ko K RU (lp.map vn):=Cp (aff eU);obtain⟨rV,hR⟩:=Pq eG;obtain⟨bV,hB⟩:=N8 (P:=P) (w:=w) eK;obtain⟨_,fdA,FA,mAn⟩:=aU X N lG 91;obtain rfl:=sS mAn hfa;refine⟨fdA,fun s us hu=> ?_,fun base _ _=> ?_⟩
 .obtain⟨oc,od,kV,doc,pm,an,ke,ct,JH,rfl,lk,JB⟩:=FA.ex;rcases us with _|⟨u,us⟩
  .cases hu
  rcases us with _|⟨v,us⟩
  .exact .of_eq rfl
  .simp at hu
 have Z:UL P w K mg base:=⟨⟩;obtain⟨_,_,c1⟩:=kC Z (aU X N lG 0) fun F=>⟨HS F,nQ F⟩
 obtain⟨_,_,c2⟩:=kC Z (aU X N lG 1) fun F=>⟨O8 F,jb F⟩
 obtain⟨_,_,c3⟩:=kC Z (aU X N lG 2) fun F=>⟨EE F G,kH F⟩
 obtain⟨_,_,c4⟩:=kC Z (aU X N lG 3) fun F=>⟨EH F G,kH F⟩
 obtain⟨_,_,c5⟩:=kC Z (aU X N lG 4) fun F=>⟨Lf F G c3 c4,nQ F⟩
 obtain⟨_,_,c6⟩:=kM Z (eM aB lB 0) fun F=>⟨Hy F TB,kH F⟩
 obtain⟨_,_,c7⟩:=kM Z (eM aB lB 1) fun F=>⟨K2 F TB,nQ F⟩
 obtain⟨_,_,c8⟩:=kM Z (eM aB lB 2) fun F=>⟨K3 F TB,nQ F⟩
 obtain⟨_,_,c9⟩:=kM Z (eM aB lB 3) fun F=>⟨EI F TB,kH F⟩
 obtain⟨_,_,Q1⟩:=kM Z (eM aB lB 4) fun F=>⟨HH F TB c2,Qh F⟩
 obtain⟨_,_,c11⟩:=kM Z (eM aB lB 5) fun F=>⟨HI F TB c2,X8 F⟩
 obtain⟨_,_,c12⟩:=kM Z (eM aB lB 6) fun F=>⟨Pa F TB,jb F⟩
 obtain⟨_,_,c13⟩:=kM Z (eM aB lB 7) fun F=>⟨HU F TB,jb F⟩
 obtain⟨_,_,c14⟩:=kM Z (eM aB lB 8) fun F=>⟨HN F TB c2,jb F⟩
 obtain⟨_,_,c15⟩:=kM Z (eM aB lB 9) fun F=>⟨K4 F TB,nQ F⟩
 obtain⟨_,_,Yb⟩:=kM Z (eM aB lB 10) fun F=>⟨O6 F TB c15,nQ F⟩
 obtain⟨_,_,Yc⟩:=kM Z (eM aB lB 11) fun F=>⟨En F TB,nQ F⟩
 obtain⟨_,_,c18⟩:=kM Z (eM aB lB 12) fun F=>⟨HP F TB c2 Yb,Qh F⟩
 obtain⟨_,_,c19⟩:=kM Z (eM aB lB 13) fun F=>⟨Hr F TB Yc,nQ F⟩
 obtain⟨_,_,c20⟩:=kM Z (eM aB lB 14) fun F=>⟨Hs F TB Yb Yc,nQ F⟩
 have MB:Mk K CB _:=⟨mkB,c6.me.cG,c6.me.fn,kcB⟩;obtain⟨_,_,Vq⟩:=kC Z (aU X N lG 5) fun F=>⟨El F TB G MB c6.ok c6.bi,kH F⟩
 obtain⟨_,_,TQ⟩:=kM Z (eM aH lH 0) fun F=>⟨Hz F TH TB MB c6.ok c6.bi,kH F⟩
 obtain⟨_,_,Vr⟩:=kM Z (eM aH lH 1) fun F=>⟨K1 (CB:=CB) F TH G V0,kH F⟩
 obtain⟨_,_,c24⟩:=kM Z (eM aH lH 2) fun F=>⟨HK F TH V0 Vr,kH F⟩
 obtain⟨_,_,c25⟩:=kM Z (eM aH lH 3) fun F=>⟨HM F TH V0 Vr,kH F⟩
 obtain⟨_,_,c26⟩:=kM Z (eM aH lH 4) fun F=>⟨HL (CB:=CB) F TH G V0,kH F⟩
 obtain⟨_,_,c27⟩:=kM Z (eM aH lH 5) fun F=>⟨K7 (CB:=CB) F TH G,Qh F⟩
 obtain⟨_,_,c28⟩:=kM Z (eM aH lH 6) fun F=>⟨Eo F TH G Vq,kH F⟩
 obtain⟨_,_,c29⟩:=kM Z (eM aH lH 7) fun F=>⟨Hx (CB:=CB) F TH G,nQ F⟩
 obtain⟨_,_,c30⟩:=kM Z (eM aH lH 8) fun F=>⟨KU (CB:=CB) F TH,nQ F⟩
 obtain⟨_,_,Yd⟩:=kM Z (eM aH lH 9) fun F=>⟨Et (CB:=CB) F TH G,nQ F⟩
 obtain⟨_,_,Ye⟩:=kM Z (eM aH lH 10) fun F=>⟨K0 (CB:=CB) F TH V0,nQ F⟩
 have LA:jr P w K mg base CB CH:=⟨TB,TH,G,V0,c1.ca,c7.ma,c8.ma,Q1.ma,c11.ma,c12.ma,c13.ma,c18.ma,c14.ma,c20.ma,c19.ma,c24.ma,c25.ma,Vr.ma,c27.ma,c29.ma,c30.ma⟩;obtain⟨_,_,c33⟩:=kM Z (eM aH lH 11) fun F=>⟨KY F LA Vq.ca Ye.ma,nQ F⟩
 obtain⟨_,_,c34⟩:=kM Z (eM aH lH 12) fun F=>⟨Eg F TH G V0 Yd.ma,jb F⟩
 obtain⟨_,_,c35⟩:=kC Z (aU X N lG 6) fun F=>⟨Hv F LA,jb F⟩
 obtain⟨_,_,c36⟩:=kC Z (aU X N lG 7) fun F=>⟨HW F LA,jb F⟩
 obtain⟨_,_,c37⟩:=kC Z (aU X N lG 8) fun F=>⟨Le F LA,jb F⟩
 obtain⟨_,_,c38⟩:=kC Z (aU X N lG 9) fun F=>⟨EF F LA,jb F⟩
 obtain⟨_,_,c39⟩:=kC Z (aU X N lG 10) fun F=>⟨wY F LA,jb F⟩
 obtain⟨_,_,c40⟩:=kC Z (aU X N lG 11) fun F=>⟨wX F LA,jb F⟩
 obtain⟨_,_,c41⟩:=kC Z (aU X N lG 12) fun F=>⟨wW F LA,jb F⟩
 obtain⟨_,_,c42⟩:=kC Z (aU X N lG 13) fun F=>⟨wU F LA,jb F⟩
 obtain⟨_,_,c43⟩:=kC Z (aU X N lG 14) fun F=>⟨As F LA,jb F⟩
 obtain⟨aF,aK,aL,aM⟩:=N2 X N eA;have hA:Ft P w K mg base CB CH RA aF:=by
  refine⟨aK,aL,fun p f hp=> ?_⟩;have lt:p<9:=by
   rw[<-show aF.length=9 from aL];exact(afd.mp hp).1
  have q:=lt9 lt;rcases q with q|q|q|q|q|q|q|q|q<;>subst q
  .exact JA c35 (aM 0 f _ hp rfl)
  .exact JA c36 (aM 1 f _ hp rfl)
  .exact JA c37 (aM 2 f _ hp rfl)
  .exact JA c38 (aM 3 f _ hp rfl)
  .exact JA c39 (aM 4 f _ hp rfl)
  .exact JA c40 (aM 5 f _ hp rfl)
  .exact JA c41 (aM 6 f _ hp rfl)
  .exact JA c42 (aM 7 f _ hp rfl)
  .exact JA c43 (aM 8 f _ hp rfl)
 obtain⟨_,_,c44⟩:=kC Z (aU X N lG 15) fun F=>⟨HB F G mA hA,kH F⟩
 obtain⟨_,_,c45⟩:=kC Z (aU X N lG 16) fun F=>⟨O3 F mA hA,Qh F⟩
 obtain⟨_,_,Vs⟩:=kC Z (aU X N lG 17) fun F=>⟨HE F G,X8 F⟩
 obtain⟨_,_,Vt⟩:=kC Z (aU X N lG 18) fun F=>⟨Es F Vs.ca,kH F⟩
 obtain⟨_,_,Q2⟩:=kC Z (aU X N lG 19) fun F=>⟨Er F Vs.ca,kH F⟩
 obtain⟨_,_,c49⟩:=kC Z (aU X N lG 20) fun F=>⟨Av F Vs.ca,kH F⟩
 obtain⟨_,_,c50⟩:=kC Z (aU X N lG 21) fun F=>⟨HJ F G,kH F⟩
 obtain⟨wV,wK,wN,wM⟩:=A9 (P:=P) (w:=w) X N eW;have hW:zR P w K mg base RW wV:=by
  refine⟨wK,fun p hp hn=>wN p hp (nR p hp hn),fun p hp hn=> ?_⟩;have q:=yR p hp hn;rcases q with q|q|q|q|q|q<;>subst q
  .exact jE Vt (wM 0 _ (by decide) rfl)
  .exact jE Q2 (wM 1 _ (by decide) rfl)
  .exact jE Q2 (wM 2 _ (by decide) rfl)
  .exact jE Q2 (wM 8 _ (by decide) rfl)
  .exact jE c50 (wM 13 _ (by decide) rfl)
  .exact jE c49 (wM 20 _ (by decide) rfl)
 obtain⟨_,_,c51⟩:=kC Z (aU X N lG 22) fun F=>⟨Ar F G mR hR mW hW,nQ F⟩
 obtain⟨_,_,Yg⟩:=kC Z (aU X N lG 23) fun F=>⟨Eu F G mR hR,kH F⟩
 obtain⟨_,_,Yh⟩:=kC Z (aU X N lG 24) fun F=>⟨HV F G mR hR,kH F⟩
 obtain⟨_,_,c54⟩:=kC Z (aU X N lG 25) fun F=>⟨Aw F G mR hR Yg.ca,kH F⟩
 obtain⟨_,_,c55⟩:=kC Z (aU X N lG 26) fun F=>⟨Ay F mW hW Yh.ca,kH F⟩
 obtain⟨_,_,c56⟩:=kC Z (aU X N lG 27) fun F=>⟨Ef F c54.ca c55.ca,kH F⟩
 obtain⟨_,_,Qj⟩:=kC Z (aU X N lG 28) fun F=>⟨Ej F G,jb F⟩
 obtain⟨_,_,c58⟩:=kC Z (aU X N lG 29) fun F=>⟨SF F TB XC c7 Qj,nQ F⟩
 obtain⟨_,_,c59⟩:=kC Z (aU X N lG 30) fun F=>⟨SG F TB XC c7 Qj c5,nQ F⟩
 obtain⟨_,_,c60⟩:=kC Z (aU X N lG 31) fun F=>⟨K6 F TB c7,nQ F⟩
 obtain⟨_,_,c61⟩:=kC Z (aU X N lG 32) fun F=>⟨SH F TB XC c8 Qj,nQ F⟩
 obtain⟨_,_,c62⟩:=kC Z (aU X N lG 33) fun F=>⟨Pb F TB XC Qj c5,Qh F⟩
 obtain⟨_,_,c63⟩:=kC Z (aU X N lG 34) fun F=>⟨SI F TB c62,jb F⟩
 obtain⟨_,_,c64⟩:=kC Z (aU X N lG 35) fun F=>⟨SK F TB XC c9 Qj,jb F⟩
 obtain⟨_,_,c65⟩:=kC Z (aU X N lG 36) fun F=>⟨SJ F TB XC c9 Qj,jb F⟩
 obtain⟨_,_,c66⟩:=kC Z (aU X N lG 37) fun F=>⟨SE F c60 c58 c59 c61 c63 c64 c65,nQ F⟩
 obtain⟨_,_,Vu⟩:=kC Z (aU X N lG 38) fun F=>⟨K9 F TB G,kH F⟩
 obtain⟨_,_,Vv⟩:=kC Z (aU X N lG 39) fun F=>⟨Hj F mN hN,nQ F⟩
 obtain⟨_,_,c69⟩:=kC Z (aU X N lG 40) fun F=>⟨HR F Vu.ca Vv.ca,nQ F⟩
 obtain⟨_,_,c70⟩:=kC Z (aU X N lG 41) fun F=>⟨Az F TB G,jb F⟩
 obtain⟨_,_,Yi⟩:=kC Z (aU X N lG 42) fun F=>⟨Lc F TB Vu.ca Vv.ca c9.ma,kH F⟩
 obtain⟨_,_,c72⟩:=kC Z (aU X N lG 43) fun F=>⟨Ho F mN hN Yi.ca,kH F⟩
 obtain⟨_,_,c73⟩:=kC Z (aU X N lG 44) fun F=>⟨Ep F G gr mU hU,kH F⟩
 obtain⟨_,_,c74⟩:=kC Z (aU X N lG 45) fun F=>⟨Aq F XC Vt.ca Q2.ca,nQ F⟩
 obtain⟨_,_,Vw⟩:=kC Z (aU X N lG 46) fun F=>⟨Hm F,nQ F⟩
 obtain⟨_,_,c76⟩:=kC Z (aU X N lG 47) fun F=>⟨K5 F G c73.ca Vw.ca c74.ca,nQ F⟩
 obtain⟨_,_,c77⟩:=kC Z (aU X N lG 48) fun F=>⟨O4 F G c76.ca Vw.ca,kH F⟩
 obtain⟨_,_,c78⟩:=kC Z (aU X N lG 49) fun F=>⟨Ew F LA,jb F⟩
 obtain⟨_,_,c79⟩:=kC Z (aU X N lG 50) fun F=>⟨Ex F LA,jb F⟩
 obtain⟨_,_,c80⟩:=kC Z (aU X N lG 51) fun F=>⟨Ey F LA,jb F⟩
 obtain⟨_,_,c81⟩:=kC Z (aU X N lG 52) fun F=>⟨EA F LA,jb F⟩
 obtain⟨_,_,c82⟩:=kC Z (aU X N lG 53) fun F=>⟨Ez F LA,jb F⟩
 obtain⟨_,_,c83⟩:=kC Z (aU X N lG 54) fun F=>⟨EB F LA,jb F⟩
 obtain⟨_,_,c84⟩:=kC Z (aU X N lG 55) fun F=>⟨La F LA,jb F⟩
 obtain⟨_,_,c85⟩:=kC Z (aU X N lG 56) fun F=>⟨EC F LA,jb F⟩
 obtain⟨dV,dK,_,dM⟩:=A9 (P:=P) (w:=w) X N eD;have hD:QH P w K mg base CB RD dV:=by
  refine⟨dK,fun p hp=> ?_⟩;have q:=in8 hp.1 hp.2;rcases q with q|q|q|q|q|q|q|q<;>subst q
  .exact jE c78 (dM 1 _ (by decide) rfl)
  .exact jE c79 (dM 2 _ (by decide) rfl)
  .exact jE c80 (dM 3 _ (by decide) rfl)
  .exact jE c81 (dM 4 _ (by decide) rfl)
  .exact jE c82 (dM 5 _ (by decide) rfl)
  .exact jE c83 (dM 6 _ (by decide) rfl)
  .exact jE c84 (dM 7 _ (by decide) rfl)
  .exact jE c85 (dM 8 _ (by decide) rfl)
 obtain⟨_,_,c86⟩:=kC Z (aU X N lG 57) fun F=>⟨Hw F G mD hD Vw.ca,nQ F⟩
 obtain⟨_,_,Vx⟩:=kC Z (aU X N lG 58) fun F=>⟨Hl F G,kH F⟩
 obtain⟨_,_,Yj⟩:=kC Z (aU X N lG 59) fun F=>⟨Em F,kH F⟩
 obtain⟨_,_,Yk⟩:=kC Z (aU X N lG 60) fun F=>⟨Ht F Vx,kH F⟩
 obtain⟨_,_,Yl⟩:=kC Z (aU X N lG 61) fun F=>⟨HX F Vx Yj,kH F⟩
 obtain⟨_,_,c91⟩:=kC Z (aU X N lG 62) fun F=>⟨Hu F Yk,nQ F⟩
 obtain⟨_,_,c92⟩:=kC Z (aU X N lG 63) fun F=>⟨HZ F Vx Yl,jb F⟩
 obtain⟨_,_,c93⟩:=kC Z (aU X N lG 64) fun F=>⟨O7 F Yj Vv,nQ F⟩
 obtain⟨_,_,c94⟩:=kC Z (aU X N lG 65) fun F=>⟨Ax F TB G Vu c91 c92 c93,kH F⟩
 obtain⟨_,_,c95⟩:=kC Z (aU X N lG 66) fun F=>⟨HC F G XP,kH F⟩
 obtain⟨_,_,c96⟩:=kC Z (aU X N lG 67) fun F=>⟨HD F XP c95.ca,kH F⟩
 obtain⟨_,_,c97⟩:=kC Z (aU X N lG 68) fun F=>⟨O5 F G XP Yk.ca Vt.ca,nQ F⟩
 obtain⟨_,_,c98⟩:=kC Z (aU X N lG 69) fun F=>⟨O9 F G XP Yl.ca c96.ca Q2.ca,jb F⟩
 obtain⟨_,_,c99⟩:=kC Z (aU X N lG 70) fun F=>⟨HG F XP,kH F⟩
 obtain⟨_,_,U6⟩:=kC Z (aU X N lG 71) fun F=>⟨Ld F G XP c99.ca c97.ca c98.ca,kH F⟩
 have LT:kF P w K mg base CB CH:=⟨LA,Vq.ca,c94.ca,c66.ca,c69.ca,c70.ca,Yi.ca,c72.ca,c77.ca,c86.ca,U6.ca,c26.ma,c28.ma,Yd.ma,Ye.ma,c33.ma,c34.ma,c9.ma⟩;obtain⟨_,_,U7⟩:=kC Z (aU X N lG 72) fun F=>⟨Au F LT,jb F⟩
 obtain⟨_,_,U8⟩:=kC Z (aU X N lG 73) fun F=>⟨EG F LT,jb F⟩
 obtain⟨_,_,U9⟩:=kC Z (aU X N lG 74) fun F=>⟨Hn F LT,jb F⟩
 obtain⟨_,_,Va⟩:=kC Z (aU X N lG 75) fun F=>⟨KW F LT,jb F⟩
 obtain⟨_,_,Vb⟩:=kC Z (aU X N lG 76) fun F=>⟨ED F LT,jb F⟩
 obtain⟨_,_,Vc⟩:=kC Z (aU X N lG 77) fun F=>⟨K8 F LT,jb F⟩
 obtain⟨_,_,Vd⟩:=kC Z (aU X N lG 78) fun F=>⟨HQ F LT,jb F⟩
 obtain⟨_,_,Ve⟩:=kC Z (aU X N lG 79) fun F=>⟨Ei F LT,jb F⟩
 obtain⟨_,_,Vf⟩:=kC Z (aU X N lG 80) fun F=>⟨Lb F LT,jb F⟩
 obtain⟨_,_,Vg⟩:=kC Z (aU X N lG 81) fun F=>⟨Hq F LT,jb F⟩
 obtain⟨_,_,Vh⟩:=kC Z (aU X N lG 82) fun F=>⟨Eh F LT,jb F⟩
 obtain⟨_,_,Vi⟩:=kC Z (aU X N lG 83) fun F=>⟨Ek F LT,jb F⟩
 obtain⟨_,_,Vj⟩:=kC Z (aU X N lG 84) fun F=>⟨KZ F LT,jb F⟩
 obtain⟨_,_,Vk⟩:=kC Z (aU X N lG 85) fun F=>⟨HF F LT,jb F⟩
 obtain⟨_,_,Vl⟩:=kC Z (aU X N lG 86) fun F=>⟨HY F LT,jb F⟩
 obtain⟨_,_,Vm⟩:=kC Z (aU X N lG 87) fun F=>⟨EJ F LT,jb F⟩
 obtain⟨tV,tK,_,tM⟩:=A9 (P:=P) (w:=w) X N eT;have hT:Mo P w K mg base CB CH RT tV:=by
  refine⟨tK,fun p h1 h2=> ?_⟩;have q:=W4 h1 h2;rcases q with(q|q|q|q|q|q|q|q)|q|q|q|q|q|q|q|q<;>subst q
  .exact mj U7 (tM 9 _ (by decide) rfl)
  .exact mj U8 (tM 10 _ (by decide) rfl)
  .exact mj U9 (tM 11 _ (by decide) rfl)
  .exact mj Va (tM 12 _ (by decide) rfl)
  .exact mj Vb (tM 13 _ (by decide) rfl)
  .exact mj Vc (tM 14 _ (by decide) rfl)
  .exact mj Vd (tM 15 _ (by decide) rfl)
  .exact mj Ve (tM 16 _ (by decide) rfl)
  .exact mj Vf (tM 17 _ (by decide) rfl)
  .exact mj Vg (tM 18 _ (by decide) rfl)
  .exact mj Vh (tM 19 _ (by decide) rfl)
  .exact mj Vi (tM 20 _ (by decide) rfl)
  .exact mj Vj (tM 21 _ (by decide) rfl)
  .exact mj Vk (tM 22 _ (by decide) rfl)
  .exact mj Vl (tM 23 _ (by decide) rfl)
  .exact mj Vm (tM 24 _ (by decide) rfl)
 obtain⟨_,_,Vn⟩:=kC Z (aU X N lG 88) fun F=>⟨Hk F LA mB hB,jb F⟩
 obtain⟨_,_,Vo⟩:=kC Z (aU X N lG 89) fun F=>⟨Lg F V0 mT hT Vn.ca,Qh F⟩
 obtain⟨_,_,Vp⟩:=kC Z (aU X N lG 90) fun F=>⟨KS F V0 c56.ca c44.ca Yg.ca Yh.ca c45.ca Vo.ca,nQ F⟩
 have MH:Mk K CH _:=⟨mkH,TQ.me.cG,TQ.me.fn,kcH⟩;exact Ap FA G TH MH TQ.ok TQ.bi c51.ca Vp.ca
theorem Kc(h:age):Frag.In (z8 h) h:=by
 intro a o e;have m:(a,o)∈z8 h:=by
  revert e;generalize z8 h=l
  induction l with
  |nil=>intro e;cases e
  |cons y l ih=>
   intro e;obtain⟨b,p⟩:=y;rw[ahr]at e;split at e
   .rename_i q;cases e;rw[ajp.mp q];exact af2
   .exact afs _ (ih e)
 unfold z8 at m;rw[List.mem_reverse,aj7]at m;obtain⟨⟨o1,b⟩,h1,h2⟩:=m;obtain⟨o2,h3,h4⟩:=ai5.mp h2;cases h4;have h5:=List.mem_zipIdx_iff_getElem?.mp h1;rw[alc]at h5;unfold Heap.get?;rw[h5];revert h3;obtain⟨c,d,dt,sl⟩:=o1;cases dt<;>intro h3<;>first|exact h3|cases h3
end
end FE
open PySem PySem.W PyProof.Rows
theorem PySem.Challenge.cw_frozeneditions_s01_answers_holds : PySem.Challenge.rw_frozeneditions_s01_answers.Holds := by
 refine holds_os (q:=FE.vq FE.pw) (loose:=FE.lo) (Xt:=FE.Xt FE.pw) (XP:=XL (FE.vq FE.pw) []) (Yf:=FE.Yf) (Ya:=fun _=>FE.r6) (YP:=fun _ h=>∃K:Frag,FE.rT K=FE.r6/\K.In h) (d:=FE.dA) (kwd:=[]) (N:=12000) FE.left (fun w s e=>⟨FE.z8 s.heap,e,FE.Kc _⟩) (fun w h h' ⟨K,e,k⟩ f=>⟨K,e,fun a o q=>f a o (k a o q)⟩) (fun s e=>xl_of s (Bool.and_eq_true_iff.mp e).1) XL.keeps FE.h1 FE.h2 FE.h3 (fun s e=>recFacts_of (Bool.and_eq_true_iff.mp e).2) os_shapes FE.h4 FE.h5 FE.h6 FE.h7 ?_
 intro w s₀ s₁ mg mb G ⟨K,e,KX⟩
 refine L2.Be (K:=fun _=>K) (YP:=fun _ h=>K.In h) (r:=PySem.Challenge.rw_frozeneditions_s01_answers) (k:=9) (CX:=L2.bX) (ps:=["calls"]) (sp:=FE.mh) FE.h4 rfl rfl ⟨rfl,by decide,by decide⟩ (fun w h Y=>Y) ?F ?S (fun _ _ _ _ z=>z) w s₀ s₁ mg mb G KX
 case F=>
  intro w mg fa h Y KX G Wx
  exact FE.N4 KX G Wx e
 case S=>
  intro K H xs a hO Ul Ov hx
  cases hx with
  |cons h1 h2=>
   cases h2
   cases h1 with
   |ba hs ha=>
    have e:=L2.Cf a.1 _ ha
    subst e
    have q:((Codec.inLen 0 17000 a.1&&a.1.all (Codec.inInt (-1000000000000000000) 1000000000000000000))&&true)=true:=Ul
    rw[Bool.and_eq_true,Bool.and_eq_true]at q
    exact⟨_,a.1,rfl,hs,Ov,(Codec.inNat_iff.mp q.1.1).2,fun H' p hp=> .ba (L2.aJ.of hp) (L2.BU _)⟩
