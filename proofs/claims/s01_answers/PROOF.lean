import PyProof.Rows.All
import KE.KStrWords
import KE.KPairComp
import Open.SpecLaws
import KE.KTypeOf
import KE.OsHead
import KE.BitLaws
import KE.KFromBytes
import KE.KIntText
import KE.KRevIter
import KE.KDictOf
import KE.KStateDown
import PyVbdhag
import PySem.Challenge.RW_frozeneditions_s01_answers
set_option Elab.async false
set_option linter.all false
set_option maxRecDepth 100000
set_option maxHeartbeats 0
set_option bootstrap.genMatcherCode false
set_option compiler.extract_closed false
open List renaming length_map->afb,length_append->afc,getElem?_eq_some_iff->aff,getElem?_eq_getElem->afk,mem_of_getElem?->afq,length_cons->afr,mem_cons_of_mem->afu,mem_cons->afx,getElem?_map->afy,map_append->afD,nodup_cons->afG,mem_map->afJ,mem_append_right->afK,size_toArray->afL,mem_append->afN,mem_filter->afO,replicate->afQ,append_assoc->afS,take_length->afT,filter_cons->afU,length_take->afY,mem_append_left->af0,mem_cons_self->af5,all_eq_true->af6,append_nil->af7,length_filter_le->af8,map_cons->agb,getElem?_of_mem->agc,flatMap_cons->agi,filter_append->agl,length_drop->agr,drop_of_length_le->agt,getElem?_append_right->agv,take_of_length_le->agw,flatMap_append->agH,getLast?_concat->agI,take_append_drop->agK,getElem?_append_left->agM,drop_eq_getElem_cons->agN,length_singleton->agT,nil_append->agV,replicate_succ->ag1,length_replicate->ag2,all_map->ag5,map_map->ag6,find?_cons->aha,cons_append->ahb,map_congr_left->ahd,nodup_append->ahf,lookup_cons->aht,take_zero->ahA,drop_drop->ahC,filter_nil->ahI,length->ahP,getD_eq_getElem?_getD->ahU,drop_zero->ahX,getElem?_drop->ahZ,of_mem_zip->ah3,flatten_cons->ah7,append_cancel_left->aie,getLast?_eq_some_getLast->aih,foldl_cons->ail,take_left'->aio,any_cons->aiq,getElem?_eq_none->air,singleton_append->ais,mem_range->aix,lookup->aiy,erase_cons_tail->aiA,getElem?_zipIdx->aiC,drop_take->aiD,filterMap_cons->aiI,filter_eq_self->aiJ,drop_succ_cons->aiK,map_take->aiM,length_nil->aiQ,range->aiS,eraseIdx_cons_succ->aiZ,getElem?_set_self->ai4,find?_cons_of_neg->aji,find?_cons_of_pos->ajj,filter_congr->ajm,concat_eq_append->ajp,getElem_inj->ajq,drop_length->aju,map_drop->ajA,getElem?_set_ne->ajD,erase_cons_head->ajE,dropLast_concat->ajF,drop_left'->ajT,map_nil->aj1,mem_filterMap->aj9,getElem?_eq_none_iff->ake,mem_or_eq_of_mem_set->akh,mem_of_find?_eq_some->aki,getElem?_zip_eq_some->akj,foldl_append->akn,getElem?_take_of_lt->akt,all_cons->aku,any_eq_true->akE,not_mem_nil->akF,drop_append->akL,getElem_mem->akN,range_succ_eq_map->akV,length_set->ak5,filter_map->ak6,length_zip->ak7,perm_append_comm->alb,eq_nil_or_concat->alc,nodup_nil->alq,take_succ_cons->alK,find?_eq_none->alV,set_cons_succ->alW,filter_filter->alY,map_inj_right->alZ,any_eq_false->al5,take_sublist->al8,mem_flatMap->amo,flatMap_map->amv,forIn_cons->amC,foldl->amM,forIn_nil->amQ,all_congr->amV,dropLast->anp,take_nil->anr,any_map->anz,map_set->anC,map_id->anQ
open PySem renaming Addr->afd,Value->afg,wpAny_bind->afi,Program->afA,Shared->afC,FuncData->afE,Stmt->afR,wpAny_pure->afZ,World->af4,Heap->agg,boot_len->agq,mem_of_lookup->agx,NameKind->agL,Expr->agR,wpAny_field->agX,wpAny_setField_rec->ag0,wpAny_truthy_bool->ag3,wpAny_pyIter_list->ahq,wpAny_seqItems->ahr,Around->ahF,wpAny_mono->ahH,Scope->ahO,wpAny_Call_Name_kw->ahT,wpAny_passesOwn->ah1,wpAny_call_entry->aib,wpAny_updateSeq->ain,wpAny_holding->aip,Result->aiH,call_meets->aiT,tupleKind_room_in1->aiU,wpAny_letGo->ai3,codeAny_mono->ai6,wpAny_newObj_type->ai9,wpAny_pyIter_enum->ajb,wpAny_tryCatch->ajl,CmpOp->ajC,codeAny_call_builtin->ajH,wpAny_execs_nil->ajJ,pushCells_keeps->ajK,codeAny_builtin->ajO,call_meetsIn->aj2,Builtin->aj3,Model->aj6,wpAny_letOwnedTupleGo_enum->akc,wpAny_Call_method->akl,wpAny_standAt->akr,IsEnum->akw,plainId_quiet->aky,wpAny_attempt->akz,IsZip->akJ,wpAny_pyIter_zip->akK,wpAny_pyNext_range_end->akQ,wpAny_pyIter_rangeiter->akR,meets_dict_get_default->akW,wpAny_rule->ak0,wpAny_nextOf_list_item->ak2,wpAny_isTrue_Compare1->ak8,wpAny_nextOf_list_end->ald,wpAny_loadName_local->alg,IsRangeIter->alh,sizeLine_eq->ali,wpAny_loadPart->alk,PyData->aln,Params->alw,Keyword->alB,OsState->alF,wpAny_loadName_cell->alG,wpAny_Tuple_spliced->alH,wpAny_pyIter_tuple->alP,wpAny_pyIter_range->alQ,wpAny_List_spliced->alR,wpAny_call->alS,Within->al1,Operator->al3,wpAny_assign_Name->al4,BindsTo->al7,seqIndex_neg->al9,slot_list_getitem->ama,wpAny_execs_cons->amj,wpAny_getItem_of->amn,wpAny_isInstance->amr,seqIndex_of->amx,wpAny_of_eq->amz,wpAny_Name->amJ,typeIs_int->amL,Arguments->anu,IsEnumOut->anw,DictEntry->anx,call->an3
open PySem.Heap renaming get?_push_of_some->afm,get?_push_size->afI,lt_size->afV,size_push->agh,SameBut->agm,get?_update_other->agS,get?_update_self->ahs,IsList->akp,ExtBut->amA
open Vbdhag renaming State->afn,Entry->afo,senseAt->aft,allSenses->afF,numberOf->afX,Book->aga,putBehind->agf,hasEntry->agn,book->ago,position->agp,changeTold->ags,entryNames->agu,entryOf->agz,bookOf->agC,run->agD,Act->agG,Change->agZ,changesOf->ag7,Bytes->ahc,putEntry->ahh,lengthOf->ahi,step->ahn,decimal->aho,inEntry->ahx,stepNumbers->ahB,history->ahE,nameAt->ahK,hasSense->ahL,cutAt->ahM,outOf->aiv,empty->aiG,Sense->ai0,wrong->ai2,start->ajh,senseLine->ajw,linesFrom->ajz,isSaying->ajS,patched->ako,Shown->akB,Call->akG,corrected->akM,entryAt->alr,isSense->alu,printed->alv,bytesOf->alC,isWord->alM,EDITIONS->amF,changes->amU,guard->anA,doAct->anE,apply->anG,nats->anT
open Nat renaming le_refl->afp,le_trans->afw,zero_le->afH,le_succ_of_le->afM,lt_of_lt_of_le->agk,ne_of_lt->agy,le_of_lt->agE,le_add_right->agP,add_sub_cancel_left->ag8,lt_irrefl->ahp,le_succ->ahz,min_eq_left->ahJ,add_sub_cancel->ahV,succ_ne_zero->aia,ne_of_gt->aii,zero_add->aik,not_lt_zero->aim,lt_succ_of_lt->aiu,add_comm->aiE,succ_pos->aiF,lt_of_le_of_lt->aiV,le_of_succ_le->ai8,succ_le_succ->ajs,min_eq_right->ajv,min_le_right->ajy,lt_succ_self->akC,succ_ne_self->akD,le_of_eq->akS,lt_of_succ_lt_succ->akX,not_lt->akY,sub_self->akZ,lt_trans->amc,sub_zero->amg,min_le_left->amE,max_zero->anD
open PySem.F renaming plainAttrs_list->afs,slot_list_extend->af2,type_list_extend->af9,slot_list_append->age,type_list_append->agj,plain_max_loop->ahR,slot_tuple_iterator_next->ahW,slot_dict_get->ah0,slot_list_index->ah9,slot_list_remove->aif,slot_enumerate_next->ait,type_list_remove->aiN,args_dict_get_3->aiX,plainAttrs_dict->aiY,type_list_index->ai1,entry_dict_get->aja,slot_list_insert->ajd,args_tuple_iterator_next_1->ajQ,slot_zip_next->ajR,entry_tuple_iterator_next->aj5,slot_dict_delitem->akf,slot_dict_getitem->akg,type_list_insert->akx,entry_max_loop->akH,args_enumerate_next_1->akI,entry_enumerate_next->ak1,slot_dict_pop->ak9,type_dict_get->ala,args_list_extend_2->alm,entry_list_extend->alJ,args_zip_next_1->amf,entry_zip_next->ams,slot_int_rmul->amB,entry_zip_new->amD,owner_object->amT
open Option.some renaming inj->afv
open Sum renaming inl->afz,inr->aly
open Bool renaming and_eq_true->afB,false_ne_true->afP,noConfusion->agQ,eq_iff_iff->ah2,false_and->ai5,true_and->ajB,and_eq_true_iff->alx,false_eq_true->alU,not_eq_false->amd,not_eq_true'->ami,and_false->amN,and_assoc->amS
open PySem.W renaming Frag->afW,WData->ahD,instObj->ahG,methodCall_KW->ajo,length_le_weightAllW->ajW,plainGet_of->ajY,lookIn->aka,callWith_K->akb,methodObj->akk,mg_of->akO,cellsFrom_some->akT,WellAll->ak3,takerIn->ak4,callWith_K0->alI,handedIn->amk,WRecords->amw,SharedT->amI,WalkOS->amY
open PySem.Value renaming ref->af1,int->ahQ,none->ahS,type->aiR,bool->aj7,str->alz,isStrOf->am9,isInt->anH,bytes->anI,float->anJ
open PySem.PassesOwn renaming never->af3
open Classical renaming byContradiction->agA
open PySem.Str renaming ofString->agF,empty->ah8
open PySem.Builtin.SmallTypes renaming ownedTupleIsFree->agJ,nextOf->agO,ownedTupleHandOut->ahe,fitsIndex->ajP
open Ne renaming symm->agW
open True renaming intro->agY
open PyProof.Rows renaming callWith_type1->ag4,subscriptTail_builtinR->akU,AllBare->alA,FormattedValue_plain->al0,boot_all->amh,callWith_builtin1->aml,boot_list->amq,iadd_int->amH,Subscript_->amK,boot_dict->anv
open PySem.PyData renaming int->ag9,eqvAll->ahy,depthAll->ah4,canLayAll0->aiw,eqv->amP,depth->anF
open PySem.Builtin.List renaming listTooLong->ahg,listFitsIndex->amR
open False renaming elim->ahj
open PySem.Calls renaming spliced_cons->ahk,spliced_nil->ah5,callWith_builtin->aij,evalArgs_plain->aiz,Name_function_global->aj8
open PySem.Obj renaming mapSeq->ahl,data_mapFields->alX
open Int renaming natCast_nonneg->ahu,lt_of_le_of_lt->ahY,toNat_natCast->ah6,le_trans->ajc,ofNat_le->anB
open Vbdhag.Change renaming dropEntry->ahw,moveEntry->aic,moveSense->aid,dropSense->ajx
open PySem.SeqAt renaming shaped->ahN,EqAt->anZ
open PyVbdhag renaming shape->aiB,answers_asked->ajk,answers->ajt,whole->als
open PySem.NameKind renaming free->aiL,cell->alL
open PySem.AutoSeq1 renaming wpAny_loadPart'->aiO
open List.cons renaming inj->aiP
open PySem.Builtin.Range renaming rangeSize->aiW,small->anU
open Option renaming map_eq_some_iff->ai7,map_some->ajM,isSome_iff_exists->aks,bind_eq_some_iff->akP,none->alo,isSome_some->alT,isSome_map->amb,getD_none->amm
open List.Perm renaming refl->aje,swap->ajf
open Iff renaming rfl->ajg,trans->amu
open PySem.W.Codec renaming encAll->ajn,denoteAll->ajU,app->alE,withinAll->amG
open PySem.Around renaming under_plainId->ajG,under->al6
open PySem.Shared renaming heap->ajI
open ForInStep renaming yield->ajL
open Vbdhag.Act renaming erratum->ajN
open PySem.W.WData renaming weightAll->ajV,int->an6
open Array renaming length_toList->ajX,size_setIfInBounds->akA,getElem?_toList->ale,mem_toList_iff->alj,toList->al2
open PySem.Heap.SameBut renaming update->ajZ
open PySem.Builtin.Builtins renaming bindParams->aj4
open Or renaming inl->akd,inr->an0
open PySem.Paired renaming length->akq,snoc->anO
open Sum.inl renaming inj->alf
open PySem.SeqAt.EqAt renaming int_str->alN,str_int->alO
open PyFlat renaming calls->ame,rows->amy,played->anq,call->anR,told->anS,row->an1
open PySem.Heap.IsList renaming push->amt
open PySem.Walks renaming list->amO,range->anL
open PySem.Data renaming seq->amW
open PySem.Value.type renaming inj->amX
open PySem.EqNone renaming eq_none_none->amZ,eq_none_bool->am0,eq_bool_none->am1,ne_none_none->am4,ne_none_bool->am5,ne_bool_none->am6,eq_none_int->ana,eq_none_str->anb,eq_int_none->anc,eq_str_none->anf,ne_none_int->anh,ne_none_str->ani,ne_int_none->anj,ne_str_none->anl
open PySem.EqMixed renaming eq_bool_str->am2,eq_str_bool->am3,ne_bool_str->am7,ne_str_bool->am8,eq_int_str->ane,eq_str_int->ang,ne_int_str->ank,ne_str_int->anm
open List.Pairwise renaming imp_of_mem->ano
open Int.ofNat renaming inj->ant
open PySem.CmpOp renaming NotIn->anK
open PySem.IsRange renaming new->anM
open PySem.MeetsSeq.EqGives renaming int->anP
open VbdhagNeutral renaming start->anV,step->an2
open PySem.W.Looks renaming here->anW
open PySem.Heap.IsSliceOf renaming new->anY
open PySem.Within renaming cons->an4
open PySem.Heap.IsTuple renaming push->an5
abbrev afe:=@if_neg
abbrev afh:=@of_decide_eq_true
abbrev afj:=@if_pos
abbrev afl:=@decide_eq_true
abbrev agd:=@decide_eq_false
abbrev agB:=@decide_eq_decide
abbrev agU:=@beq_eq_false_iff_ne
abbrev ahm:=@decide_eq_true_iff
abbrev ahv:=@beq_self_eq_true
abbrev ajr:=@beq_iff_eq
abbrev aj0:=@if_true
abbrev akm:=@not_false_eq_true
abbrev akv:=@not_or
abbrev alp:=@or_congr
abbrev alD:=@and_congr
namespace FM
open Vbdhag
def Z3:List (List (Nat×Nat)):=[[(0,20)],[(1,20),(0,50)],[(1,50)],[(1,50),(0,50)],[(1,50),(1,20),(0,50)],[(1,20),(0,20)],[(1,50)],[(1,20)],[(1,10),(1,50)],[],[(0,10)],[(1,10)],[(0,10),(0,10)],[(0,10)],[(0,10),(1,50)],[(0,10),(1,20),(1,50)],[(0,10),(1,20),(1,50),(0,10)],[(0,10)],[(0,10)],[(0,10),(1,50)],[],[(1,10)],[(1,200)],[(0,10)],[]]
def rg(p:Nat):List (Nat×Nat):=Z3.getD p []
def lp:List Nat:=[0,1,1,2,2,3,3,1,2]
def bk(p:Nat):List Nat:=if p=12 then [0,1]else if p=16 then [0,3]else if p=10\/p=11\/p=13\/p=14\/p=15\/p=17\/p=18\/p=19\/p=21\/p=23 then [0]else []
end FM
namespace L2
open PySem PySem.Spec PyProof.Rows
open PySem.W (Frag fnOf keepIn mg_of findIn nsIn emptyDict plainGet hasDictIn isFn makesIn codeIn plainOver)
def gM(s:afR):anu:=match s with
 | .FunctionDef _ a _ _ _ _ _ _ _ _=>a
 |_=>{posonlyargs:=[],args:=[],vararg:=none,kwonlyargs:=[],kw_defaults:=[],kwarg:=none,defaults:=[]}
def cq(s:afR):List afR:=match s with
 | .FunctionDef _ _ b _ _ _ _ _ _ _=>b
 |_=> []
def ai(s:afR):ahO:=match s with
 | .FunctionDef _ _ _ _ _ _ sc _ _ _=>sc
 |_=>{kind:= .function,names:=[],isGenerator:=false,isCoroutine:=false}
def bt(s:afR)(j:Nat):afR:=match s with
 | .ClassDef _ _ _ body _ _ _ _ _ _ _=>body.getD j (.Pass ⟨0,0,0,0⟩)
 |_=> .Pass ⟨0,0,0,0⟩
end L2
namespace FE
open PySem PySem.Spec PyProof.Rows L2 FM
open PySem.W (Frag fnOf keepIn mg_of findIn nsIn emptyDict plainGet hasDictIn isFn makesIn codeIn plainOver)
open Vbdhag (Book nat numberOf entryAt allSenses Change position putBehind bookOf hasEntry changeTold two entryOf decimal kept history lengthOf empty onSense outOf hasSense putEntry inEntry entryNames Sense Call wrong dead pair senseLine changesOf stepNumbers patched bytesOf changes cutAt)
def dC(i:Nat):afR:=PySem.Challenge.pw_frozeneditions_s01_answers.main.body.getD i (.Pass ⟨0,0,0,0⟩)
abbrev ip:afR:=dC 44
abbrev gm:afR:=dC 54
def cB(K:afW)(l:List (Str×Int)):Bool:=l.all fun p=>match nsIn K mainGlobals p.1 with
 |some (some (.int i _))=>decide (i=p.2)
 |_=>false
def oB(K:afW)(l:List Str):Bool:=l.all fun x=>match nsIn K mainGlobals x with
 |some none=>true
 |_=>false
def Cr(K:afW)(a:afd):Option (List afg):=match K.lookup a with
 |some ⟨.type t,_,.seq aR _,_⟩=>if t="tuple"/\aR.size<=1000 then some aR.toList else none
 |_=>none
def zD:List afg->Option (List Nat)
 | []=>some []
 |v::r=>match v with
  | .int (.ofNat n) _=>(zD r).map (n::·)
  |_=>none
def zF:List afg->Option (List afd)
 | []=>some []
 |v::r=>match v with
  | .ref a=>(zF r).map (a::·)
  |_=>none
def kN(K:afW)(a:afd):Option (List Nat):=(Cr K a).bind zD
def kR(K:afW)(a:afd):Option (List afd):=(Cr K a).bind zF
def IC(K:afW):List afd->List (Nat×Nat)->Bool
 | [],[]=>true
 |q::qs,x::xs=>decide (kN K q=some [x.1,x.2])&&IC K qs xs
 |_,_=>false
def CQ(K:afW):List afd->Nat->Bool
 | [],_=>true
 |r::rs,p=>(match kR K r with
  |some qs=>IC K qs (rg p)
  |none=>false)&&CQ K rs (p+1)
def Pp(K:afW)(R:afd):Bool:=match kR K R with
 |some rs=>decide (rs.length=25)&&CQ K rs 0
 |none=>false
def rR:List anx->Option (List (Int×afd))
 | []=>some []
 |e::r=>match e with
  |⟨hs,.int k _,.ref a⟩=>if hs=hashInt k then(rR r).map ((k,a)::·)else none
  |_=>none
def kD(K:afW)(a:afd):Option (List (Int×afd)):=match K.lookup a with
 |some ⟨.type t,none,.dict es _,sl⟩=>if t="dict"/\sl.size=0/\(a==sysModules)=false then(match rR es.toList with
  |some l=>if(l.map (·.1)).Nodup then some l else none
  |none=>none)else none
 |_=>none
def vg(l:List (Int×afd))(p:Nat):Option afd:=(l.find? fun q=>decide (q.1=(p:Int))).map (·.2)
def Jm(K:afW)(a:afd)(nm:List (Option Str)):Bool:=match kD K a with
 |some l=>(aiS 25).all fun p=>match nm.getD p none with
  |none=>(vg l p).isNone
  |some g=>match vg l p,nsIn K mainGlobals g with
   |some r,some (some (.ref r'))=>decide (r=r')
   |_,_=>false
 |none=>false
def N7(K:afW)(a:afd):Bool:=match kD K a with
 |some l=>(aiS 25).all fun p=>match vg l p with
  |none=>decide (bk p=[])
  |some r=>decide (kN K r=some (bk p))
 |none=>false
def CO(K:afW):List afd->List Str->Bool
 | [],[]=>true
 |r::rs,g::gs=>(match nsIn K mainGlobals g with
  |some (some (.ref r'))=>decide (r=r')
  |_=>false)&&CO K rs gs
 |_,_=>false
def N1(K:afW)(a:afd)(gs:List Str):Bool:=match kR K a with
 |some rs=>CO K rs gs
 |none=>false
def cs:List (Str×Int):=[("NOT_AS_TOLD",-1),("NO_CHANGES",-3),("FULL",-4),("NO_ENTRY",-5),("NO_SENSE",-6),("NO_PLACE",-7),("NO_EDITION",-8),("NO_LINE",-5),("MOST_ENTRIES",20),("MOST_SENSES",50),("MOST_LINES",200),("MOST_EDITIONS",10),("SENSE_MADE",1),("SENSE_MOVED_house",4),("ERRATUM",8),("ENTRY_DROPPED",1),("SENSE_DROPPED",2),("ENTRY_NEW",3),("ENTRY_MOVED",4),("SENSE_NEW",5),("SENSE_MOVED_kinds",6),("SAID",7),("POINTED",8),("LINE_END",10),("BLANK",32),("DASH",45),("DOT",46),("ZERO",48),("NINE",57),("GREATEST_reading",99),("GREATEST_patching",100)]
def os:List Str:=["list","dict","len","range","enumerate","zip","max","all","ord"]
def nA:List Str:=["entry","sense","say_acts","point_acts","movesense","moveentry","dropsense","dropentry","erratum"]
def nW:List (Option Str):=[some "is_word",some "is_text",some "is_text",none,none,none,none,none,some "is_text",none,none,none,none,some "may_be_changes",none,none,none,none,none,none,some "is_print",none,none,none,none]
def nD:List (Option Str):=[none,some "drop_entry",some "drop_sense",some "make_entry",some "move_entry",some "make_sense",some "move_sense",some "say_patching",some "point_patching",none,none,none,none,none,none,none,none,none,none,none,none,none,none,none,none]
def nT:List (Option Str):=[none,none,none,none,none,none,none,none,none,some "freeze",some "print_book",some "corrected",some "changes",some "patch",some "number",some "name",some "carry",some "pointers",some "dead",some "blame",some "check",some "errata",some "line",some "size",some "state"]
abbrev zP:Type:=Option (Str×Str×anu×FuncBody×ahO×afd×List (Str×afd)×afg×afd)
def ui(x q:Str)(st:afR):zP:=some (x,q,gM st,.stmts (cq st),ai st,mainGlobals,[],.none,builtinsNs)
def xV(K:List (afd×Obj))(f:afd)(q:Str):zP:=match K.lookup f with
 |some ⟨_,_,.func fd,_⟩=>if(codeIn K fd.code q&&keepIn K (.ref f))=true then some (fd.name,fd.qualname,fd.params,fd.body,fd.scope,fd.globals,fd.closure,fd.defaults,fd.builtins)else none
 |_=>none
def T3(K:List (afd×Obj))(p:Str×Str×Nat):zP:=match nsIn K mainGlobals p.1 with
 |some (some (.ref f))=>xV K f p.2.1
 |_=>none
def Ql(K:List (afd×Obj))(c:Str)(p:Str×Str×Nat):zP:=match nsIn K mainGlobals c with
 |some (some (.ref C))=>(match findIn K (.ref C) p.1 with
  |some (some (.ref f))=>if isFn K (.ref f)=true then xV K f p.2.1 else none
  |_=>none)
 |_=>none
def tG0:List (Str×Str×Nat):=[("is_place","is_place",9),("put_behind","put_behind",10),("places_of","places_of",11),("rising_lengths","rising_lengths",12),("those_that_stay","those_that_stay",13),("copied","copied",45),("entry","entry",15),("sense","sense",16),("say_acts","say",17),("point_acts","point",19),("movesense","movesense",21),("moveentry","moveentry",22),("dropsense","dropsense",23),("dropentry","dropentry",24),("erratum","erratum",25),("is_act","is_act",27),("act","act",28),("is_row","is_row",31),("is_word","is_word",32),("is_text","is_text",33)]
def tG1:List (Str×Str×Nat):=[("is_print","is_print",34),("may_be_changes","may_be_changes",35),("call_end","call_end",37),("numbers_of","numbers_of",38),("row_of","row_of",39),("numbers_are_told","numbers_are_told",40),("row_is_told","row_is_told",41),("is_as_told","is_as_told",42),("change","change",65),("entries_dropped","entries_dropped",66),("entries_placed","entries_placed",67),("senses_left","senses_left",68),("senses_dropped","senses_dropped",69),("senses_placed_in","senses_placed_in",70),("senses_placed","senses_placed",71),("senses_said","senses_said",72),("senses_pointed","senses_pointed",73),("changes_between","changes_between",74),("sense_numbers","sense_numbers",77),("number_among","number_among",78)]
def tG2:List (Str×Str×Nat):=[("number_in","number_in",79),("sense_at","sense_at",80),("pointers_of","pointers_of",81),("dead_pointers_of","dead_pointers_of",82),("is_head","is_head",85),("are_bytes_of","are_bytes_of",86),("change_end","change_end",87),("is_change","is_change",88),("are_changes","are_changes",89),("drop_entry","drop_entry",90),("drop_sense","drop_sense",91),("make_entry","make_entry",92),("move_entry","move_entry",93),("make_sense","make_sense",94),("move_sense","move_sense",95),("say_patching","say",96),("point_patching","point",98),("first_not_applied","first_not_applied",101),("bytes_of","bytes_of",103),("dotted","dotted",104)]
def tG3:List (Str×Str×Nat):=[("entry_head","entry_head",105),("sense_head","sense_head",106),("entry_line","entry_line",107),("sense_line","sense_line",108),("pointed_as","pointed_as",109),("printed","printed",110),("is_number","is_number",119),("is_pointer","is_pointer",120),("is_entry_line","is_entry_line",121),("is_sense_line","is_sense_line",122),("ended_lines","ended_lines",123),("read","read",124),("freeze","freeze",126),("print_book","print_book",127),("corrected","corrected",128),("changes","changes",129),("patch","patch",130),("number","number",131),("name","name",132),("carry","carry",133)]
def tG4:List (Str×Str×Nat):=[("pointers","pointers",134),("dead","dead",135),("blame","blame",136),("check","check",137),("errata","errata",138),("line","line",139),("size","size",140),("state","state",141),("books_are_there","books_are_there",144),("tell","tell",145),("answer_of","answer_of",147),("answers","answers",148)]
def tG:List (Str×Str×Nat):=(tG0.append (tG1.append (tG2.append (tG3.append tG4))))
def tB0:List (Str×Str×Nat):=[("__init__","Book.__init__",0),("has_entry","Book.has_entry",1),("has_sense","Book.has_sense",2),("senses","Book.senses",3),("make_entry","Book.make_entry",4),("make_sense","Book.make_sense",5),("say","Book.say",6),("point","Book.point",7),("move_entry","Book.move_entry",8),("home_of","Book.home_of",12),("take_out","Book.take_out",13),("forget","Book.forget",14),("move_sense","Book.move_sense",9),("drop_entry","Book.drop_entry",10),("drop_sense","Book.drop_sense",11)]
def tB:List (Str×Str×Nat):=tB0
def tH0:List (Str×Str×Nat):=[("__init__","House.__init__",0),("log_is_full","House.log_is_full",1),("no_more_entries","House.no_more_entries",2),("no_more_senses","House.no_more_senses",3),("no_more_editions","House.no_more_editions",4),("note","House.note",5),("freeze","House.freeze",6),("has_book","House.has_book",7),("book","House.book",8),("length","House.length",9),("errata","House.errata",10),("corrected","House.corrected",11),("blame","House.blame",12)]
def tH:List (Str×Str×Nat):=tH0
def rf(K:List (afd×Obj))(x:Str)(f:afd->Bool):Bool:=match nsIn K mainGlobals x with
 |some (some (.ref a))=>f a
 |_=>false
def ZS(K:List (afd×Obj))(C:afd)(x:Str):Bool:=match findIn K (.ref C) x with
 |some none=>true
 |_=>false
def TU(K:List (afd×Obj))(fs:List Str)(C:afd):Bool:=plainGet K C ah8&&hasDictIn K C&&plainOver K C&&(match findIn K (.ref C) "__setattr__"with
 |some (some (.builtin b))=>decide (b="object.__setattr__")
 |_=>false)&&makesIn K C&&keepIn K (.ref C)&&fs.all (ZS K C)
def fB:List Str:=["order","words","rows","texts","targets"]
def fH:List Str:=["now","log","editions","lengths","entries_made","senses_made"]
def Gy(K:List (afd×Obj)):Bool:=rf K "Book" (TU K fB)&&rf K "House" (TU K fH)&&rf K "ACTS" (fun r=>N1 K r nA)&&rf K "RANGES" (Pp K)&&rf K "ROWS" (fun r=>Jm K r nW)&&rf K "DOINGS" (fun r=>Jm K r nD)&&rf K "TELLINGS" (fun r=>Jm K r nT)&&rf K "BOOKS" (N7 K)&&rf K "NOT_THERE" (fun r=>decide (kN K r=some [0,0]))&&rf K "NUMBERS" (fun r=>decide (kN K r=some lp))&&cB K cs&&oB K os
abbrev xW:Type:=Bool×List zP×List zP×List zP
def rX(K:List (afd×Obj)):xW:=(Gy K,tG.map (T3 K),tB.map (Ql K "Book"),tH.map (Ql K "House"))
def r8:xW:=(true,tG.map (fun p=>ui p.2.1 p.2.1 (dC p.2.2)),tB.map (fun p=>ui p.1 p.2.1 (bt ip p.2.2)),tH.map (fun p=>ui p.1 p.2.1 (bt gm p.2.2)))
def Aa(h:agg):List (afd×Obj):=(h.objs.toList.zipIdx.filterMap fun p=>(PySem.W.alive p.1).map fun o=>(p.2,o)).reverse
section
open PySem.W PySem.Calls
def mi(tb:String->Option aj3)(p:afA)(w:af4)(n₀:Nat)(QT:Option afg):Nat->amI->Thread->Option amI
 |0,_,_=>none
 |n+1,s,t=>match through t with
  |true=>some s
  |false=>match stepOk n₀ QT t with
   |false=>none
   |true=>match stepT (denote tb) p w s t with
    |some r=>mi tb p w n₀ QT n r.1 r.2
    |none=>none
theorem vI{tb:String->Option aj3}{p:afA}{w:af4}{n₀:Nat}{QT:Option afg}:∀{n:Nat} {s:amI} {t:Thread} {s':amI},mi tb p w n₀ QT n s t=some s'->topRun tb p w n₀ QT n s.abs t=some s'.abs
 |0,_,_,_,h=>by simp[mi]at h
 |n+1,s,t,s',h=>by
  unfold mi at h;unfold topRun;split
  .rename_i e;rw[e]at h;cases h;rfl
  .rename_i e;rw[e]at h;split
   .rename_i e;rw[e]at h;cases h
   .rename_i e;rw[e]at h;cases hs:stepT (denote tb) p w s t with
    |none=>rw[hs]at h;cases h
    |some r=>obtain⟨s₂,t₂⟩:=r;rw[hs]at h;rw[stepT_spec hs];exact vI h
def pX:List Obj->Nat->BT->Option BT
 | [],_,t=>some t
 |o::l,n,t=>match((t.ins n o).get n).isSome with
  |true=>pX l (n+1) (t.ins n o)
  |false=>none
theorem tU{life:Life}:∀{l:List Obj} {n:Nat} {t t':BT},pX l n t=some t'->absHeap t' (n+l.length) life=⟨(absHeap t n life).objs++l.toArray,life⟩
 | [],n,t,t',h=>by
  cases h;simp[absHeap]
 |o::l,n,t,t',h=>by
  unfold pX at h;split at h
  .rename_i e;have q:=tU (life:=life) h;rw[absHeap_ins e]at q;rw[afr,show n+(l.length+1)=n+1+l.length by omega,q];simp[Heap.push]
  .cases h
def keep:List Nat:=(aiS 149).filter fun i=> !([8,14,17,19,29,43,46,64,75,83,102,111,125,146]:List Nat).contains i
def vq(p:afA):afA:=view p keep
def lo:List Str:=["say_acts","point_acts","ACTS","ROWS","say_patching","point_patching","DOINGS","TELLINGS","BOOKS"]
def lw:List Str:=lo.append ["RANGES","NUMBERS","NOT_THERE"]
def Xt(p:afA)(s:afC):Bool:=xlAt (vq p) [] s&&recOk [] s
def Yf(s:afC):xW:=rX (Aa s.heap)
noncomputable def sS {α:Type} (f:amI->α) (p:afA) (h:agg) (w:af4) (os:alF):Option α:=
 (pX h.objs.toList 0 .nil).bind fun t=>(mi treeTable p w h.objs.size (h.nsMap mainGlobals "__annotations__") 12000 ⟨t,h.objs.size,h.life,#[],boot_drawn,boot_toks,os⟩ (topStub p)).map f
def va(p:afA)(s:afC):=(seen ((recsOf (vq p)).map (·.name)) (ownsOf (vq p)) [] {s with gens:= #[]},plainSeenE (vq p) lw s)
def ga(p:afA):=some (expectedOf (vq p),plainGoodE (vq p) lw)
def vb(p:afA)(h:agg)(s:afC):=(h.isNs mainGlobals,(staticsOk (importedModules p.main.body) h s.heap&&namesBound p s.heap&&gensDone s&&laidKept h s.heap),s.heap.bltView,pinSeenD (vq p) (drecsOf (vq p)) s,plainSeenD (vq p) lo s,wideSeen (vq p) s,clsSeenW (vq p) lo s)
def gb(p:afA):=some (true,true,bltViewBooted,pinGoodD (drecsOf (vq p)),plainGoodD (vq p) lo,wideGood (vq p),clsGoodW (vq p) lo)
def vc(p:afA)(s:afC):=s.heap.keysOk lw ((recsOf (vq p)).map (·.name)) ((litsOf (vq p)).map (·.1)) ((clssOf (vq p) lw).map (·.name))&&s.heap.accountedOkI (importedModules p.main.body)&&s.heap.isNs mainGlobals&&s.heap.isNs builtinsNs&&tablesOk (vq p) s.heap&&Xt p s&&(if true then s.gens.size==0 else !leftWithCleanup s.gens)
noncomputable def ru (p:afA) (h:agg) (w:af4) (os:alF):=sS (fun s=>s) p h w os
noncomputable def ra (p:afA) (h:agg) (w:af4) (os:alF):=sS (fun s=>va p s.abs) p h w os
noncomputable def rb (p:afA) (h:agg) (w:af4) (os:alF):=sS (fun s=>vb p h s.abs) p h w os
noncomputable def rc (p:afA) (h:agg) (w:af4) (os:alF):=sS (fun s=>vc p s.abs) p h w os
noncomputable def rd (p:afA) (h:agg) (w:af4) (os:alF):=sS (fun s=>tabsOk (vq p) s.abs) p h w os
noncomputable def re (p:afA) (h:agg) (w:af4) (os:alF) (F:List (afd×Obj)->xW):=sS (fun s=>F (Aa s.abs.heap)) p h w os
def rl(p:afA):List Str:=looseW (vq p) lo
def q1(p:afA)(n:Str):=defOf (vq p) n
def q2(p:afA)(n:Str):=p.theDef n
def q4(p:afA)(n:Str)(a:List Codec)(r:Codec)(k:Codec.fn Bool a)(f:Codec.fn r.denote a):=(OpenSpec.mk p n a r k f).wellSaid
def q5(p:afA):=chainsOk (vq p)&&opensWell p
end
end FE
section
open PySem PySem.W PyProof.Rows
lay_quick FE.ru FE.ra FE.rb FE.rc FE.rd FE.re FE.ga FE.gb FE.rl FE.q1 FE.q2 FE.q4 FE.q5
namespace FE
open PySem PySem.Spec PyProof.Rows L2 FM
open PySem.W (Frag fnOf keepIn mg_of findIn nsIn emptyDict plainGet hasDictIn isFn makesIn codeIn plainOver)
open Vbdhag (Book nat numberOf entryAt allSenses Change position putBehind bookOf hasEntry changeTold two entryOf decimal kept history lengthOf empty onSense outOf hasSense putEntry inEntry entryNames Sense Call wrong dead pair senseLine changesOf stepNumbers patched bytesOf changes cutAt)
variable{N N' e em i j n p sm:Nat}{P:Program}{x:Vbdhag.Entry}{pos:Pos}{w:World}{K:Frag}{mg:Str->Option Value}{base:Heap}{st:Stmt}{C CB CH D R a b c f fI fb fc fe fh fp h q u:Addr}{fd fR fZ fO f9 fX fY gg:FuncData}{ps:List Str}{ks ks' l t:List Nat}{ns r:List Int}{m p0 p1 p2:Str}{S:Vbdhag.State}{FZ cZ as rs ts:List Addr}{B B':Book}{z:Int}
abbrev pw:Program:=PySem.Challenge.pw_frozeneditions_s01_answers
abbrev wf(w:World)(b:Bool):World:=w.withFollow "special-get-raises" b
section
open PySem.W PySem.Calls
noncomputable def Pt (p:Program) (h:Heap) (w:World) (os:OsState):Option SharedT:=
 (pX h.objs.toList 0 .nil).bind fun t=>mi treeTable p w h.objs.size (h.nsMap mainGlobals "__annotations__") 12000 ⟨t,h.objs.size,h.life,#[],boot_drawn,boot_toks,os⟩ (topStub p)
theorem rh{α:Type}{f:SharedT->α}{p:Program}{h:Heap}{os:OsState}:sS f p h w os=(Pt p h w os).map f:=by
 unfold sS Pt
 cases pX h.objs.toList 0 .nil<;>rfl
theorem Lv{p:Program}{h:Heap}{os:OsState}{s:SharedT}(e:Pt p h w os=some s):topRun treeTable p w h.objs.size (h.nsMap mainGlobals "__annotations__") 12000 ⟨h,#[],boot_drawn,boot_toks,os⟩ (topStub p)=some s.abs:=by
 obtain⟨t,h1,h2⟩:=Option.bind_eq_some_iff.mp e
 have q:=tU (life:=h.life) h1
 have z:absHeap t h.objs.size h.life=h:=by
  rw[Nat.zero_add,Array.length_toList]at q
  rw[q]
  show Heap.mk (#[]++h.objs.toList.toArray) h.life=h
  simp
 have k:=vI h2
 unfold SharedT.abs at k
 rw[z]at k
 exact k
theorem EZ{p:Program}{h:Heap}{s:Shared}(hl:looseW (vq p) lo=lw)(A:some (va p s)=ga p)(B:some (vb p h s)=gb p)(C:vc p s=true)(T:tabsOk (vq p) s=true):openSeen (vq p) lo (importedModules p.main.body) (Xt p) true s=openGood (vq p) lo/\h.isNs mainGlobals=true/\(staticsOk (importedModules p.main.body) h s.heap&&namesBound p s.heap&&gensDone s&&laidKept h s.heap)=true:=by
 unfold va ga at A
 unfold vb gb at B
 unfold vc at C
 simp only[Option.some.injEq,Prod.mk.injEq]at A B
 obtain⟨a1,a2⟩:=A
 obtain⟨b1,b2,b3,b4,b5,b6,b7⟩:=B
 refine⟨?_,b1,b2⟩
 unfold openSeen openGood
 rw[hl,a1,a2,b3,b4,b5,b6,b7,T,C]
theorem G8{p:Program}{g:xW}(hb:∀w:World,(fencedOpening treeTable p w 12000).map (fun s=>(s.heap,s.gens,s.drawn,s.toks))=some (boot_heap w.params,Array.mk [],boot_drawn,boot_toks))(hl:looseW (vq p) lo=lw)
  (A:∀w os,ra p (boot_heap w.params) w os=ga p) (B:∀w os,rb p (boot_heap w.params) w os=gb p) (C:∀w os,rc p (boot_heap w.params) w os=some true) (T:∀w os,rd p (boot_heap w.params) w os=some true) (Y:∀w os,re p (boot_heap w.params) w os rX=some g):LeftO p (vq p) lo (Xt p) Yf (fun _=>g) 12000:=by
 intro w
 obtain⟨⟨hp,gn,dr,tk,os⟩,h0,e0⟩:=Option.map_eq_some_iff.mp (hb w)
 simp only[Prod.mk.injEq]at e0
 obtain⟨rfl,rfl,rfl,rfl⟩:=e0
 have a:=A w os
 have b:=B w os
 have c:=C w os
 have t:=T w os
 have y:=Y w os
 unfold ra at a
 unfold rb at b
 unfold rc at c
 unfold rd at t
 unfold re at y
 rw[rh]at a b c t y
 obtain⟨s,hs,hy⟩:=Option.map_eq_some_iff.mp y
 have hy:Yf s.abs=g:=hy
 rw[hs]at a b c t
 obtain⟨k1,k2,k3⟩:=EZ hl a b (Option.some.inj c) (Option.some.inj t)
 unfold openEnds
 rw[h0]
 show(topFrom treeTable p w 12000 _).map _=_
 unfold topFrom
 have k4:(boot_heap w.params).isNs mainGlobals&&(Array.mk ([]:List GenState)).size==0:=by rw[k2];rfl
 try dsimp only
 rw[show((boot_heap w.params).isNs mainGlobals&&(Array.mk ([]:List GenState)).size==0)=true from k4]
 try dsimp only
 rw[Lv hs]
 show Option.map _ (match _ with|true=>_|false=>_)=_
 rw[k3]
 show some (_,_)=some (_,_)
 rw[k1,hy]
theorem ru0(w:World)(os:OsState):ru pw (boot_heap (wf w false).params) (wf w false) os=ru pw (boot_heap (wf w true).params) (wf w true) os:=by rw[PySem.W.Fast.te964353635767325132];kernel_rfl
theorem WR(w:World):boot_heap (wf w true).params=boot_heap (wf w false).params:=by kernel_rfl
theorem S5{α:Type}{f:SharedT->α}{x:Option α}{os:OsState}(e:sS f pw (boot_heap (wf w false).params) (wf w false) os=x):sS f pw (boot_heap (wf w true).params) (wf w true) os=x:=by
 have q:=ru0 w os
 unfold ru at q
 rw[rh,rh,Option.map_id',Option.map_id']at q
 rw[rh]at e⊢
 rw[<-q];exact e
theorem ZX(w:World)(os:OsState):ra pw (boot_heap (wf w false).params) (wf w false) os=ga pw:=by rw[PySem.W.Fast.te3079747556207907953,PySem.W.Fast.te16875336781647440174];kernel_rfl
theorem ra1(w:World)(os:OsState):ra pw (boot_heap (wf w true).params) (wf w true) os=ga pw:=S5 (ZX w os)
theorem ZY(w:World)(os:OsState):rb pw (boot_heap (wf w false).params) (wf w false) os=gb pw:=by rw[PySem.W.Fast.te8647235550702580639,PySem.W.Fast.te8959733062528443320];kernel_rfl
theorem rb1(w:World)(os:OsState):rb pw (boot_heap (wf w true).params) (wf w true) os=gb pw:=S5 (f:=fun s=>vb pw _ s.abs) ((congrArg (fun z=>sS (fun s=>vb pw z s.abs) pw (boot_heap (wf w false).params) (wf w false) os) (WR w)).trans (ZY w os))
theorem ZZ(w:World)(os:OsState):rc pw (boot_heap (wf w false).params) (wf w false) os=some true:=by rw[PySem.W.Fast.te6313052545421538984];kernel_rfl
theorem rc1(w:World)(os:OsState):rc pw (boot_heap (wf w true).params) (wf w true) os=some true:=S5 (ZZ w os)
theorem Z0(w:World)(os:OsState):rd pw (boot_heap (wf w false).params) (wf w false) os=some true:=by rw[PySem.W.Fast.te5331792242917149562];kernel_rfl
theorem rd1(w:World)(os:OsState):rd pw (boot_heap (wf w true).params) (wf w true) os=some true:=S5 (Z0 w os)
theorem Z1(w:World)(os:OsState):re pw (boot_heap (wf w false).params) (wf w false) os rX=some r8:=by rw[PySem.W.Fast.te13948418482544998226];kernel_rfl
theorem re1(w:World)(os:OsState):re pw (boot_heap (wf w true).params) (wf w true) os rX=some r8:=S5 (Z1 w os)
theorem rl0:looseW (vq pw) lo=lw:=by
 show rl pw=lw
 rw[PySem.W.Fast.te15041504574805267189];kernel_rfl
theorem FI{Q:World->OsState->Prop}(a:∀(w:World) (os:OsState),Q (wf w false) os)(b:∀(w:World) (os:OsState),Q (wf w true) os):∀w os,Q w os:=fun w=>byRow2 "special-get-raises" (P:=fun w=>∀os,Q w os) a b w
theorem left:LeftO pw (vq pw) lo (Xt pw) Yf (fun _=>r8) 12000:=G8 (boot_open (by rfl) (by rfl) fun s=>by rfl) rl0 (FI (Q:=fun w os=>ra pw (boot_heap w.params) w os=ga pw) ZX ra1) (FI (Q:=fun w os=>rb pw (boot_heap w.params) w os=gb pw) ZY rb1) (FI (Q:=fun w os=>rc pw (boot_heap w.params) w os=some true) ZZ rc1) (FI (Q:=fun w os=>rd pw (boot_heap w.params) w os=some true) Z0 rd1) (FI (Q:=fun w os=>re pw (boot_heap w.params) w os rX=some r8) Z1 re1)
abbrev rW:OpenSpec:=PySem.Challenge.rw_frozeneditions_s01_answers
abbrev dA:DefRec:=⟨"answers",gM (dC 148),cq (dC 148),ai (dC 148),⟨708,0,718,16⟩⟩
theorem h1:defOf (vq rW.prog) rW.name=some (dA,[]):=by show q1 pw _=_;rw[PySem.W.Fast.te8474772435350225282];kernel_rfl
theorem h2:rW.prog.theDef rW.name=some (dA.params,dA.body,dA.scope):=by show q2 pw _=_;rw[PySem.W.Fast.te12192584385701955813];kernel_rfl
theorem h3:kwWritten? dA.params.kwonlyargs dA.params.kw_defaults=some []:=by kernel_rfl
theorem h4:rW.wellSaid=true:=by show q4 pw _ _ _ _ _=true;rw[PySem.W.Fast.te18261938155868599882];kernel_rfl
theorem h5:(chainsOk (vq rW.prog)&&opensWell rW.prog)=true:=by show q5 pw=true;rw[PySem.W.Fast.te10330635098598714623];kernel_rfl
theorem h6:rW.prog.bare:=⟨rfl,rfl,rfl,rfl,rfl,by decide+kernel⟩
theorem h7:∃args,rW.pre args=true/\WData.layableAll args=true:=⟨[.list [.int 9]],by decide+kernel,by decide+kernel⟩
end
end FE
end
namespace FM
open Vbdhag
variable{a e f i n s x:Nat}{l:List Nat}{b:aga}{t:ahc}{r:List Int}{p q:Prop}{S:afn}
theorem fV(a x:Nat):∀l:List Nat,(agf a x l).Perm (x::l)
 | []=>aje _
 |y::l=>by
  unfold agf;split
  .exact aje _
  .split
   .exact ajf _ _ _
   .exact((fV a x l).cons y).trans (ajf _ _ _)
theorem hC{z:Nat}:z∈agf a x l↔z=x\/z∈l:=by
 rw[(fV a x l).mem_iff,afx]
theorem kj(h:l.Nodup)(hx:¬x∈l):(agf a x l).Nodup:=
 (fV a x l).nodup_iff.mpr (afG.mpr ⟨hx,h⟩)
theorem sQ(x:Nat)(l:List Nat):agf 0 x l=x::l:=by
 cases l with
 |nil=>rfl
 |cons y l=>unfold agf;rw[afj rfl]
theorem oM{a x:Nat}(h0:a≠0):∀{l:List Nat} {j:Nat},l[j]? =some a->(∀m z,m<j->l[m]? =some z->z≠a)->agf a x l=l.take (j+1)++x::l.drop (j+1)
 | [],j,h,_=>by simp at h
 |y::l,0,h,_=>by
  have e:y=a:=by simpa using h
  unfold agf;rw[afe h0,afj e];rfl
 |y::l,j+1,h,e9=>by
  have e:y≠a:=e9 0 y (aiF j) rfl;have ih:=oM (x:=x) h0 (l:=l) (j:=j) (by simpa using h) fun m z hm hz=>e9 (m+1) z (Nat.succ_lt_succ hm) (by simpa using hz)
  unfold agf;rw[afe h0,afe e,ih];rfl
theorem gj(a:Nat)(x:afo):∀l:List afo,(ahh a x l).Perm (x::l)
 | []=>aje _
 |y::l=>by
  unfold ahh;split
  .exact aje _
  .split
   .exact ajf _ _ _
   .exact((gj a x l).cons y).trans (ajf _ _ _)
theorem fu{x z:afo}{l:List afo}:z∈ahh a x l↔z=x\/z∈l:=by
 rw[(gj a x l).mem_iff,afx]
theorem gO(a:Nat)(x:afo):∀l:List afo,(ahh a x l).map (fun e=>e.name)=agf a x.name (l.map fun e=>e.name)
 | []=>rfl
 |y::l=>by
  unfold ahh;rw[agb];unfold agf;split
  .rfl
  .split
   .rfl
   .rw[agb,gO a x l]
def names(b:aga):List Nat:=b.entries.map fun e=>e.name
def aD(b:aga):List Nat:=b.senses.map fun s=>s.name
structure WF(b:aga):Prop where
 en:(names b).Nodup
 e0:¬0∈names b
 an:(afF b).Nodup
 sn:(aD b).Nodup
 s0:¬0∈aD b
 same:∀n,n∈afF b↔n∈aD b
theorem iR:agn b e=true↔e∈names b:=by
 unfold agn names;rw[akE,afJ];constructor
 .rintro⟨x,h,q⟩;exact⟨x,h,by simpa using q⟩
 .rintro⟨x,h,q⟩;exact⟨x,h,by simpa using q⟩
theorem cg:agn b e=false↔¬e∈names b:=by
 rw[<-iR];simp
theorem eC:ahL b n=true↔n∈aD b:=by
 unfold ahL aD;rw[akE,afJ];constructor
 .rintro⟨x,h,q⟩;exact⟨x,h,by simpa using q⟩
 .rintro⟨x,h,q⟩;exact⟨x,h,by simpa using q⟩
theorem dF:ahL b n=false↔¬n∈aD b:=by
 rw[<-eC];simp
theorem dH:n∈afF b↔∃e∈b.entries,n∈e.senses:=by
 unfold afF;rw[amo]
theorem uR:∀{l:List afo} {x:afo},(l.map fun e=>e.name).Nodup->x∈l->l.find? (fun e=>e.name==x.name)=some x
 | [],_,_,h=>nomatch h
 |y::l,x,hn,h=>by
  rw[agb,afG]at hn;rw[aha];rcases afx.mp h with e|h
  .subst e;rw[ahv]
  .have:¬y.name=x.name:=fun e=>hn.1 (by rw[e];exact afJ.mpr ⟨x,h,rfl⟩)
   rw[show(y.name==x.name)=false from by simpa using this];exact uR hn.2 h
theorem bp{x:afo}(w:WF b)(h:x∈b.entries):entryAt b x.name=x:=by
 unfold entryAt;rw[uR w.en h];rfl
theorem rY:∀{l:List ai0} {x:ai0},(l.map fun e=>e.name).Nodup->x∈l->l.find? (fun e=>e.name==x.name)=some x
 | [],_,_,h=>nomatch h
 |y::l,x,hn,h=>by
  rw[agb,afG]at hn;rw[aha];rcases afx.mp h with e|h
  .subst e;rw[ahv]
  .have:¬y.name=x.name:=fun e=>hn.1 (by rw[e];exact afJ.mpr ⟨x,h,rfl⟩)
   rw[show(y.name==x.name)=false from by simpa using this];exact rY hn.2 h
theorem eL{x:ai0}(w:WF b)(h:x∈b.senses):senseAt b x.name=x:=by
 unfold senseAt;rw[rY w.sn h];rfl
theorem yt:∀{l:List afo} {x y:afo} {n:Nat},(l.flatMap fun e=>e.senses).Nodup->x∈l->y∈l->n∈x.senses->n∈y.senses->x=y
 | [],_,_,_,_,h,_,_,_=>nomatch h
 |z::l,x,y,n,hn,hx,hy,nx,ny=>by
  rw[agi,ahf]at hn;obtain⟨h1,h2,h3⟩:=hn;have mem:∀{w:afo},w∈l->n∈w.senses->n∈l.flatMap fun e=>e.senses:=fun hw hnw=>amo.mpr ⟨_,hw,hnw⟩
  rcases afx.mp hx with e|ZA
  .rcases afx.mp hy with e'|WX
   .rw[e,e']
   .rw[e]at nx;exact absurd rfl (h3 n nx n (mem WX ny))
  .rcases afx.mp hy with e'|WX
   .rw[e']at ny;exact absurd rfl (h3 n ny n (mem ZA nx))
   .exact yt h2 ZA WX nx ny
theorem BX:∀{l:List afo} {x:afo} {n:Nat},x∈l->n∈x.senses->(∀y∈l,n∈y.senses->y=x)->l.find? (fun e=>e.senses.contains n)=some x
 | [],_,_,h,_,_=>nomatch h
 |y::l,x,n,h,hn,xV=>by
  rw[aha];by_cases e:n∈y.senses
  .rw[show y.senses.contains n=true from by simpa using e,xV y (af5) e]
  .rw[show y.senses.contains n=false from by simpa using e];rcases afx.mp h with e'|h
   .subst e';exact absurd hn e
   .exact BX h hn fun z hz=>xV z (afu _ hz)
theorem gv{x:afo}(w:WF b)(h:x∈b.entries)(hn:n∈x.senses):agz b n=x.name:=by
 unfold agz;rw[BX h hn fun y hy hny=>yt w.an hy h hny hn];rfl
theorem jV(h:¬n∈afF b):agz b n=0:=by
 unfold agz;have:b.entries.find? (fun e=>e.senses.contains n)=none:=by
  rw[alV];intro e he hc;exact h (dH.mpr ⟨e,he,by simpa using hc⟩)
 rw[this];rfl
theorem aY:e∈names b↔∃x∈b.entries,x.name=e:=afJ
theorem dB:e∈aD b↔∃x∈b.senses,x.name=e:=afJ
theorem iu(w:WF b)(h:n∈afF b):agz b n∈names b/\agz b n≠0/\n∈(entryAt b (agz b n)).senses:=by
 obtain⟨x,hx,hn⟩:=dH.mp h;rw[gv w hx hn,bp w hx];have m:x.name∈names b:=aY.mpr ⟨x,hx,rfl⟩;exact⟨m,fun e=>w.e0 (e▸m),hn⟩
theorem eZ(w:WF b)(h:e∈names b):entryAt b e∈b.entries/\(entryAt b e).name=e:=by
 obtain⟨x,hx,rfl⟩:=aY.mp h;rw[bp w hx];exact⟨hx,rfl⟩
theorem jn(w:WF b)(h:e∈aD b):senseAt b e∈b.senses/\(senseAt b e).name=e:=by
 obtain⟨x,hx,rfl⟩:=dB.mp h;rw[eL w hx];exact⟨hx,rfl⟩
theorem WF.empty:WF aiG:=⟨by simp[names,aiG],by simp[names,aiG],by simp[afF,aiG],by simp[aD,aiG],by simp[aD,aiG],by simp[afF,aD,aiG]⟩
theorem iW{l m:List afo}(h:l.Perm m):(l.flatMap fun e=>e.senses).Perm (m.flatMap fun e=>e.senses):=h.flatMap_right _
theorem WF.entry(w:WF b)(he:¬e∈names b)(h0:e≠0):WF {b with entries:=ahh a ⟨e,t,[]⟩ b.entries}:=by
 have hn:names {b with entries:=ahh a ⟨e,t,[]⟩ b.entries}=agf a e (names b):=gO a ⟨e,t,[]⟩ b.entries;have hp:(afF {b with entries:=ahh a ⟨e,t,[]⟩ b.entries}).Perm (afF b):=by
  have:=iW (gj a ⟨e,t,[]⟩ b.entries);rw[agi]at this;exact this
 refine⟨?_,?_,hp.nodup_iff.mpr w.an,w.sn,w.s0,fun n=>(hp.mem_iff).trans (w.same n)⟩
 .rw[hn];exact kj w.en he
 .rw[hn,hC];exact fun h=>h.elim (fun z=>h0 z.symm) w.e0
theorem fC(b:aga)(x:Nat)(g:List Nat->List Nat):names (ahx b x g)=names b:=by
 unfold names ahx;rw[ag6];refine ahd fun e _=> ?_
 show(if e.name=x then _ else _:afo).name=e.name;split<;>rfl
theorem dI(b:aga)(n:Nat):names (aiv b n)=names b:=by
 unfold names aiv;rw[ag6];rfl
theorem eR(b:aga)(n:Nat)(g:ai0->ai0)(hg:∀s,(g s).name=s.name):aD (onSense b n g)=aD b:=by
 unfold aD onSense;rw[ag6];refine ahd fun e _=> ?_
 show(if e.name=n then _ else _:ai0).name=e.name;split
 .exact hg e
 .rfl
theorem WF.onSense{g:ai0->ai0}(w:WF b)(hg:∀s,(g s).name=s.name):WF (onSense b n g):=by
 have h:=eR b n g hg;exact⟨w.en,w.e0,w.an,by rw[h];exact w.sn,by rw[h];exact w.s0,fun k=>by rw[h];exact w.same k⟩
theorem ox{g:List Nat->List Nat}:∀{l:List afo} {x:afo},(l.map fun e=>e.name).Nodup->x∈l->
  ∃rest,(l.flatMap fun e=>e.senses).Perm (x.senses++rest)/\((l.map fun e=>if e.name=x.name then{e with senses:=g e.senses}else e).flatMap fun e=>e.senses).Perm (g x.senses++rest)
 | [],_,_,h=>nomatch h
 |y::l,x,hn,h=>by
  rw[agb,afG]at hn;rw[agb,agi,agi];rcases afx.mp h with e|h
  .subst e;refine⟨l.flatMap fun e=>e.senses,aje _,?_⟩;rw[afj rfl];have:(l.map fun e=>if e.name=x.name then{e with senses:=g e.senses}else e)=l:=by
    refine(ahd fun e he=> ?_).trans (anQ l);rw[afe fun z=>hn.1 (by rw[<-z];exact afJ.mpr ⟨e,he,rfl⟩)];rfl
   rw[this]
  .have gh:¬y.name=x.name:=fun e=>hn.1 (by rw[e];exact afJ.mpr ⟨x,h,rfl⟩)
   obtain⟨rest,h1,h2⟩:=ox (g:=g) hn.2 h;refine⟨y.senses++rest,?_,?_⟩
   .exact((h1.append_left y.senses)).trans (by rw[<-afS,<-afS];exact alb.append_right rest)
   .rw[afe gh];exact((h2.append_left y.senses)).trans (by rw[<-afS,<-afS];exact alb.append_right rest)
theorem oN(hn:(names b).Nodup)(hx:x∈names b):(afF (ahx b x (agf a n))).Perm (n::afF b):=by
 obtain⟨y,hy,rfl⟩:=aY.mp hx;obtain⟨rest,h1,h2⟩:=ox (g:=agf a n) hn hy;exact h2.trans (((fV a n y.senses).append_right rest).trans (h1.symm.cons n))
theorem WF.sense(w:WF b)(hx:x∈names b)(hn:¬n∈aD b)(h0:n≠0):WF (ahx {b with senses:=b.senses++ [⟨n,t,0⟩]} x (agf a n)):=by
 have hp:(afF (ahx {b with senses:=b.senses++ [⟨n,t,0⟩]} x (agf a n))).Perm (n::afF b):=oN (b:={b with senses:=b.senses++ [⟨n,t,0⟩]}) w.en hx;have hs:aD (ahx {b with senses:=b.senses++ [⟨n,t,0⟩]} x (agf a n))=aD b++ [n]:=by
  show(b.senses++ [(⟨n,t,0⟩:ai0)]).map (fun s=>s.name)=_;rw[afD];rfl
 have jR:names (ahx {b with senses:=b.senses++ [⟨n,t,0⟩]} x (agf a n))=names b:=fC _ _ _;have uo:¬n∈afF b:=fun z=>hn ((w.same n).mp z)
 refine⟨by rw[jR];exact w.en,by rw[jR];exact w.e0,hp.nodup_iff.mpr (afG.mpr ⟨uo,w.an⟩),?_,?_,fun k=> ?_⟩
 .rw[hs,ahf];exact⟨w.sn,by simp,fun z hz y hy e=>hn (by have:y=n:=(by simpa using hy);rw[<-this,<-e];exact hz)⟩
 .rw[hs,afN];exact fun z=>z.elim w.s0 fun z=>h0 (by simpa using z:0=n).symm
 .rw[hp.mem_iff,hs,afx,afN,w.same k];constructor
  .exact fun z=>z.elim (fun e=> .inr (by simpa using e)) .inl
  .exact fun z=>z.elim .inr fun e=> .inl (by simpa using e)
theorem j4(b:aga)(n:Nat):afF (aiv b n)=(afF b).filter fun y=>y !=n:=by
 unfold afF aiv;show(b.entries.map fun x=>{x with senses:=x.senses.filter fun y=>y !=n}).flatMap (fun e=>e.senses)=_;generalize b.entries=l
 induction l with
 |nil=>rfl
 |cons y l ih=>rw[agb,agi,agi,agl,ih]
theorem WF.moveSense(w:WF b)(hs:s∈aD b)(hx:x∈names b):WF (ahx (aiv b s) x (agf a s)):=by
 have jR:names (ahx (aiv b s) x (agf a s))=names b:=(fC _ _ _).trans (dI _ _);have hp:(afF (ahx (aiv b s) x (agf a s))).Perm (s::(afF b).filter fun y=>y !=s):=by
  have:=oN (b:=aiv b s) (x:=x) (n:=s) (a:=a) (by rw[dI];exact w.en) (by rw[dI];exact hx);rw[j4]at this;exact this
 refine⟨by rw[jR];exact w.en,by rw[jR];exact w.e0,hp.nodup_iff.mpr (afG.mpr ⟨by simp,w.an.filter _⟩),w.sn,w.s0,fun k=> ?_⟩;rw[hp.mem_iff,afx,afO];show _↔k∈aD b;rw[<-w.same k];constructor
 .exact fun z=>z.elim (fun e=>by rw[e];exact(w.same s).mpr hs) fun z=>z.1
 .intro z;by_cases e:k=s
  .exact .inl e
  .exact .inr ⟨z,by simpa using e⟩
theorem kO{l:List afo}{x:afo}(hn:(l.map fun e=>e.name).Nodup)(hx:x∈l):(x::l.filter fun y=>y.name !=x.name).Perm l:=by
 induction l with
 |nil=>exact nomatch hx
 |cons y l ih=>
  rw[agb,afG]at hn;rcases afx.mp hx with e|h
  .subst e;rw[afU,afe (by simp)];have:(l.filter fun y=>y.name !=x.name)=l:=by
    rw[aiJ];intro e he;have:¬e.name=x.name:=fun z=>hn.1 (by rw[<-z];exact afJ.mpr ⟨e,he,rfl⟩)
    simpa using this
   rw[this]
  .have gh:¬y.name=x.name:=fun e=>hn.1 (by rw[e];exact afJ.mpr ⟨x,h,rfl⟩)
   rw[afU,afj (by simpa using gh)];exact(ajf _ _ _).trans ((ih hn.2 h).cons y)
theorem lj(w:WF b)(hx:x∈names b):(ahh a (entryAt b x) (b.entries.filter fun y=>y.name !=x)).Perm b.entries:=by
 obtain⟨h1,h2⟩:=eZ w hx;refine(gj _ _ _).trans ?_;have:=kO w.en h1;rw[h2]at this;exact this
theorem WF.Xw{l:List afo}(w:WF b)(h:l.Perm b.entries):WF {b with entries:=l}:=by
 have hn:(names {b with entries:=l}).Perm (names b):=h.map _;have ha:(afF {b with entries:=l}).Perm (afF b):=iW h;exact⟨hn.nodup_iff.mpr w.en,fun z=>w.e0 (hn.mem_iff.mp z),ha.nodup_iff.mpr w.an,w.sn,w.s0,fun n=>ha.mem_iff.trans (w.same n)⟩
theorem WF.moveEntry(w:WF b)(hx:x∈names b):WF {b with entries:=ahh a (entryAt b x) (b.entries.filter fun y=>y.name !=x)}:=w.Xw (lj w hx)
theorem j1(b:aga)(x:Nat):(b.entries.filter fun y=>y.name !=x).map (fun e=>e.name)=(names b).filter fun y=>y !=x:=by
 unfold names;rw[ak6];rfl
theorem hZ(l:List ai0)(p:Nat->Bool):(l.filter fun y=>p y.name).map (fun e=>e.name)=(l.map fun e=>e.name).filter p:=by
 rw[ak6];rfl
theorem WF.dropSense(w:WF b):WF {aiv b s with senses:=b.senses.filter fun x=>x.name !=s}:=by
 have hs:aD {aiv b s with senses:=b.senses.filter fun x=>x.name !=s}=(aD b).filter fun y=>y !=s:=hZ b.senses fun y=>y !=s
 have ha:afF {aiv b s with senses:=b.senses.filter fun x=>x.name !=s}=(afF b).filter fun y=>y !=s:=j4 b s
 have hn:names {aiv b s with senses:=b.senses.filter fun x=>x.name !=s}=names b:=dI b s;refine⟨by rw[hn];exact w.en,by rw[hn];exact w.e0,by rw[ha];exact w.an.filter _,by rw[hs];exact w.sn.filter _,?_,fun n=> ?_⟩
 .rw[hs];exact fun z=>w.s0 (afO.mp z).1
 .rw[ha,hs,afO,afO,w.same n]
theorem WF.dropEntry(w:WF b)(hx:x∈names b):WF {b with entries:=b.entries.filter fun y=>y.name !=x,senses:=b.senses.filter fun y=> !(entryAt b x).senses.contains y.name}:=by
 obtain⟨h1,h2⟩:=eZ w hx;have hs:aD {b with entries:=b.entries.filter fun y=>y.name !=x,senses:=b.senses.filter fun y=> !(entryAt b x).senses.contains y.name}=(aD b).filter fun y=> !(entryAt b x).senses.contains y:=hZ b.senses fun y=> !(entryAt b x).senses.contains y
 have hn:names {b with entries:=b.entries.filter fun y=>y.name !=x,senses:=b.senses.filter fun y=> !(entryAt b x).senses.contains y.name}=(names b).filter fun y=>y !=x:=j1 b x
 have hp:((entryAt b x).senses++(b.entries.filter fun y=>y.name !=x).flatMap fun e=>e.senses).Perm (afF b):=by
  have:=iW (kO w.en h1);rw[h2,agi]at this;exact this
 have JF:=hp.nodup_iff.mpr w.an;rw[ahf]at JF;refine⟨by rw[hn];exact w.en.filter _,by rw[hn];exact fun z=>w.e0 (afO.mp z).1,JF.2.1,by rw[hs];exact w.sn.filter _,by rw[hs];exact fun z=>w.s0 (afO.mp z).1,fun n=> ?_⟩;rw[hs,afO,<-w.same n,<-hp.mem_iff,afN];show n∈(b.entries.filter fun y=>y.name !=x).flatMap (fun e=>e.senses)↔_;constructor
 .intro z;exact⟨.inr z,by
   have:¬n∈(entryAt b x).senses:=fun q=>JF.2.2 n q n z rfl
   simpa using this⟩
 .rintro⟨z,q⟩;rcases z with z|z
  .exact absurd z (by simpa using q)
  .exact z
def bz:Act->Nat
 | .entry _ _=>0
 | .sense _ _ _=>1
 | .say _ _=>2
 | .point _ _=>3
 | .moveSense _ _ _=>4
 | .moveEntry _ _=>5
 | .dropSense _=>6
 | .dropEntry _=>7
 | .erratum _ _ _=>8
def eO:Act->List Nat
 | .entry a _=> [a]
 | .sense e a _=> [e,a]
 | .say s _=> [s]
 | .point s t=> [s,t]
 | .moveSense n e a=> [n,e,a]
 | .moveEntry e a=> [e,a]
 | .dropSense n=> [n]
 | .dropEntry e=> [e]
 | .erratum k n _=> [k,n]
def uv:Act->List Nat
 | .entry _ w=>w
 | .sense _ _ t=>t
 | .say _ t=>t
 | .erratum _ _ t=>t
 |_=> []
def bK:akG->Nat
 | .act a=>bz a
 | .freeze=>9
 | .printed _=>10
 | .corrected _=>11
 | .changes _ _=>12
 | .patch _ _=>13
 | .number _ _=>14
 | .name _ _ _=>15
 | .carry _ _ _ _=>16
 | .pointers _=>17
 | .dead _=>18
 | .blame _ _=>19
 | .check _=>20
 | .errata _=>21
 | .line _=>22
 | .size _=>23
 | .state=>24
def fL:akG->List Nat
 | .act a=>eO a
 | .printed k=> [k]
 | .corrected k=> [k]
 | .changes k l=> [k,l]
 | .patch k _=> [k]
 | .number k n=> [k,n]
 | .name k e i=> [k,e,i]
 | .carry k e i l=> [k,e,i,l]
 | .pointers k=> [k]
 | .dead k=> [k]
 | .blame k n=> [k,n]
 | .errata k=> [k]
 | .line i=> [i]
 | .size k=> [k]
 |_=> []
def Pr:akG->List Int
 | .act a=>(uv a).map nat
 | .patch _ l=>l
 | .check t=>t
 |_=> []
def Mm:Act->Prop
 | .entry _ w=>w.length<=12
 | .sense _ _ t=>t.length<=30
 | .say _ t=>t.length<=30
 | .erratum k _ t=>1<=k/\t.length<=30
 | .moveSense n _ _=>1<=n
 | .moveEntry e _=>1<=e
 |_=>True
def UR:akG->Prop
 | .act a=>Mm a
 | .corrected k=>1<=k
 | .errata k=>1<=k
 | .name _ e i=>1<=e/\1<=i
 | .carry _ e i _=>1<=e/\1<=i
 | .line i=>1<=i
 | .patch _ l=>l.length<=3000
 | .check t=>t.length<=3000/\∀c∈t,0<=c/\c<=255
 |_=>True
def p8(x:Int×Nat×Nat):Bool:=decide ((x.2.1:Int)<=x.1/\x.1<=(x.2.2:Int))
def iG(p:Nat)(ns:List Int):Bool:=(ns.zip (rg p)).all p8
def dG(r:List Int)(sh lo oy gr:Nat):Bool:=decide (sh<=r.length/\r.length<=lo)&&r.all fun c=>decide ((oy:Int)<=c/\c<=(gr:Int))
def fG(p:Nat):Bool:=p==0||p==1||p==2||p==8||p==13||p==20
def lE(p:Nat)(r:List Int):Bool:=if p=0 then dG r 1 12 97 122 else if p=1\/p=2\/p=8 then dG r 0 30 32 126 else if p=13 then decide (r.length<=3000)else if p=20 then dG r 0 3000 0 255 else true
theorem kU(t:List Int):(nats t).length=t.length:=afb _
theorem gW{n lo hi:Int}:inside n lo hi=true↔lo<=n/\n<=hi:=by
 unfold inside;rw[afB,ahm,ahm]
theorem IE{t:List Int}{b:Nat}(hb:b<=255):(t.all (fun c=>inside c 0 255)=true/\(nats t).all (fun c=>decide (a<=c/\c<=b))=true)↔t.all (fun c=>decide ((a:Int)<=c/\c<=(b:Int)))=true:=by
 unfold nats;rw[ag5,af6,af6,af6];constructor
 .rintro⟨h1,h2⟩ c hc;have e1:=gW.mp (h1 c hc);have e2:a<=c.toNat/\c.toNat<=b:=afh (h2 c hc);exact afl ⟨by omega,by omega⟩
 .intro h;refine⟨fun c hc=> ?_,fun c hc=> ?_⟩
  .have e:(a:Int)<=c/\c<=(b:Int):=afh (h c hc);exact gW.mpr ⟨by omega,by omega⟩
  .have e:(a:Int)<=c/\c<=(b:Int):=afh (h c hc);exact afl (show a<=c.toNat/\c.toNat<=b from⟨by omega,by omega⟩)
theorem lO(t:List Int):aWord t=dG t 1 12 97 122:=by
 rw[ah2];unfold aWord dG isWord;rw[afB,afB,afB,kU,<-IE (by decide:(122:Nat)<=255)];exact⟨fun⟨h1,h2,h3⟩=>⟨h2,h1,h3⟩,fun⟨h2,h1,h3⟩=>⟨h1,h2,h3⟩⟩
theorem ik(t:List Int):aSaying t=dG t 0 30 32 126:=by
 rw[ah2];unfold aSaying dG isSaying;rw[afB,afB,afB,kU,<-IE (by decide:(126:Nat)<=255),ahm,ahm];exact⟨fun⟨h1,h2,h3⟩=>⟨⟨afH _,h2⟩,h1,h3⟩,fun⟨h2,h1,h3⟩=>⟨h1,h2.2,h3⟩⟩
theorem vj{t:List Int}(h:∀c∈t,0<=c):(nats t).map nat=t:=by
 unfold nats;rw[ag6]
 conv=>rhs;rw[<-anQ t]
 exact ahd fun c hc=>by
  have:=h c hc;show((c.toNat:Nat):Int)=c;omega
theorem qp{sh lo oy gr:Nat}(h:dG r sh lo oy gr=true):sh<=r.length/\r.length<=lo/\∀c∈r,(oy:Int)<=c/\c<=(gr:Int):=by
 unfold dG at h;rw[afB,ahm,af6]at h;exact⟨h.1.1,h.1.2,fun c hc=>afh (h.2 c hc)⟩
theorem sR{sh lo oy gr:Nat}(h:dG r sh lo oy gr=true):(nats r).map nat=r/\(nats r).length<=lo:=by
 obtain⟨_,h2,h3⟩:=qp h;exact⟨vj fun c hc=>by have:=(h3 c hc).1;omega,by rw[kU];exact h2⟩
theorem oO(l:List Act)(a:Act):run (l++ [a])=(doAct (run l).1 ((run l).2.1+1) ((run l).2.2+1) a,if isEntry a=true then(run l).2.1+1 else(run l).2.1,if isSense a=true then(run l).2.2+1 else(run l).2.2):=by
 unfold run;rw[akn];rfl
theorem lQ(l:List Act)(a:Act):agC (l++ [a])=doAct (agC l) ((run l).2.1+1) ((run l).2.2+1) a:=by
 unfold agC;rw[oO]
theorem jN{α:Type}{P:List α->Prop}(h0:P [])(hs:∀l a,P l->P (l++ [a]))(l:List α):P l:=by
 rw[<-List.reverse_reverse l]
 induction l.reverse with
 |nil=>exact h0
 |cons a r ih=>rw[List.reverse_cons];exact hs _ _ ih
def rE(b:aga):Prop:=(∀e∈b.entries,e.word.length<=30)/\∀s∈b.senses,s.text.length<=30
theorem rE.entryAt{b:aga}(h:rE b)(e:Nat):(entryAt b e).word.length<=30:=by
 unfold alr;cases q:b.entries.find? fun x=>x.name==e with
 |none=>exact afH _
 |some x=>exact h.1 x (aki q)
theorem E1{a:Act}(h:rE b)(ok:Mm a):rE (doAct b e n a):=by
 cases a with
 |entry x w=>
  refine⟨fun y hy=> ?_,h.2⟩;rcases fu.mp hy with q|q
  .rw[q];exact afw ok (by decide)
  .exact h.1 y q
 |sense x y t=>
  refine⟨fun z hz=> ?_,fun z hz=> ?_⟩
  .obtain⟨u,hu,q⟩:=afJ.mp hz;have:z.word=u.word:=by rw[<-q];split<;>rfl
   rw[this];exact h.1 u hu
  .rcases afN.mp hz with q|q
   .exact h.2 z q
   .have:z=⟨n,t,0⟩:=by simpa using q
    rw[this];exact ok
 |say s t=>
  refine⟨h.1,fun z hz=> ?_⟩;obtain⟨u,hu,q⟩:=afJ.mp hz;by_cases c:u.name=s
  .rw[afj c]at q;rw[<-q];exact ok
  .rw[afe c]at q;rw[<-q];exact h.2 u hu
 |point s t=>
  refine⟨h.1,fun z hz=> ?_⟩;obtain⟨u,hu,q⟩:=afJ.mp hz;have:z.text=u.text:=by rw[<-q];split<;>rfl
  rw[this];exact h.2 u hu
 |moveSense s x y=>
  refine⟨fun z hz=> ?_,h.2⟩;obtain⟨u,hu,q⟩:=afJ.mp hz;obtain⟨v,hv,q2⟩:=afJ.mp hu;have:z.word=v.word:=by rw[<-q,<-q2];split<;>rfl
  rw[this];exact h.1 v hv
 |moveEntry x y=>
  refine⟨fun z hz=> ?_,h.2⟩;rcases fu.mp hz with q|q
  .rw[q];exact h.entryAt x
  .exact h.1 z (afO.mp q).1
 |dropSense s=>
  refine⟨fun z hz=> ?_,fun z hz=>h.2 z (afO.mp hz).1⟩;obtain⟨u,hu,q⟩:=afJ.mp hz;rw[<-q];exact h.1 u hu
 |dropEntry x=>exact⟨fun z hz=>h.1 z (afO.mp hz).1,fun z hz=>h.2 z (afO.mp hz).1⟩
 |erratum _ _ _=>exact h
theorem E2(l:List Act):(∀a∈l,Mm a)->rE (agC l):=by
 refine jN (P:=fun l=>(∀a∈l,Mm a)->rE (agC l)) (fun _=>⟨fun e he=>(nomatch he),fun e he=>(nomatch he)⟩) (fun l a ih h=> ?_) l;rw[lQ];exact E1 (ih fun x hx=>h x (af0 _ hx)) (h a (afK _ (by simp)))
theorem Nv(l:List Act):(∀e∈names (agC l),e<=(run l).2.1)/\∀n∈aD (agC l),n<=(run l).2.2:=by
 refine jN (P:=fun l=>(∀e∈names (agC l),e<=(run l).2.1)/\∀n∈aD (agC l),n<=(run l).2.2) ⟨fun e he=>(nomatch he),fun e he=>(nomatch he)⟩ (fun l a ih=> ?_) l;obtain⟨h1,h2⟩:=ih;rw[lQ,oO];have hE:∀x,(alr (agC l) x).name<=(run l).2.1:=fun x=>by
  unfold alr;cases q:(agC l).entries.find? fun y=>y.name==x with
  |none=>exact afH _
  |some y=>exact h1 _ (aY.mpr ⟨y,aki q,rfl⟩)
 cases a with
 |entry x w=>
  refine⟨fun e he=> ?_,h2⟩;obtain⟨y,hy,rfl⟩:=aY.mp he;show _<=(run l).2.1+1;rcases fu.mp hy with q|q
  .rw[q];exact afp _
  .exact afM (h1 _ (aY.mpr ⟨y,q,rfl⟩))
 |sense x y t=>
  refine⟨fun e he=>h1 e (by rw[<-fC];exact he),fun n hn=> ?_⟩;obtain⟨z,hz,rfl⟩:=dB.mp hn;show _<=(run l).2.2+1;rcases afN.mp hz with q|q
  .exact afM (h2 _ (dB.mpr ⟨z,q,rfl⟩))
  .have:z=⟨(run l).2.2+1,t,0⟩:=by simpa using q
   rw[this];exact afp _
 |say s t=>exact⟨h1,fun n hn=>h2 n (by rw[<-eR _ s (fun x=>{x with text:=t}) (fun x=>by rfl)];exact hn)⟩
 |point s t=>exact⟨h1,fun n hn=>h2 n (by rw[<-eR _ s (fun x=>{x with points:=t}) (fun x=>by rfl)];exact hn)⟩
 |moveSense s x y=>exact⟨fun e he=>h1 e (by rw[<-dI _ s,<-fC];exact he),h2⟩
 |moveEntry x y=>
  refine⟨fun e he=> ?_,h2⟩;obtain⟨z,hz,rfl⟩:=aY.mp he;rcases fu.mp hz with q|q
  .rw[q];exact hE x
  .exact h1 _ (aY.mpr ⟨z,(afO.mp q).1,rfl⟩)
 |dropSense s=>
  refine⟨fun e he=>h1 e (by rw[<-dI _ s];exact he),fun n hn=> ?_⟩;obtain⟨z,hz,rfl⟩:=dB.mp hn;exact h2 _ (dB.mpr ⟨z,(afO.mp hz).1,rfl⟩)
 |dropEntry x=>
  refine⟨fun e he=> ?_,fun n hn=> ?_⟩
  .obtain⟨z,hz,rfl⟩:=aY.mp he;exact h1 _ (aY.mpr ⟨z,(afO.mp hz).1,rfl⟩)
  .obtain⟨z,hz,rfl⟩:=dB.mp hn;exact h2 _ (dB.mpr ⟨z,(afO.mp hz).1,rfl⟩)
 |erratum _ _ _=>exact⟨h1,h2⟩
def sc(l:List Act):Nat:=(run l).2.2
theorem C7(l:List Act)(a:Act):sc (l++ [a])=if isSense a=true then sc l+1 else sc l:=by
 unfold sc;rw[oO]
theorem uY(s:Nat):∀(l:List Act) (a:Act) (i n:Nat),historyFrom i n s (l++ [a])=historyFrom i n s l++if(touches (n+(l.filter isSense).length+1) a).contains s=true then [(i+l.length,kindOf a)]else []
 | [],a,i,n=>by
  show(if(touches (n+1) a).contains s=true then [(i,kindOf a)]else [])++ []=_;rw[af7];rfl
 |b::l,a,i,n=>by
  rw[ahb,historyFrom,uY s l a,historyFrom,afS];congr 2;have e:(if isSense b=true then n+1 else n)+(l.filter isSense).length=n+((b::l).filter isSense).length:=by
   by_cases q:isSense b=true
   .rw[afj q,afU,afj q,afr];omega
   .rw[afe q,afU,afe q]
  rw[e,afr,show i+1+l.length=i+(l.length+1) by omega]
theorem EY(l:List Act):sc l=(l.filter isSense).length:=by
 refine jN (P:=fun l=>sc l=(l.filter isSense).length) rfl (fun l a ih=> ?_) l;rw[C7,agl,afc,<-ih];by_cases q:isSense a=true
 .rw[afj q,afU,afj q];rfl
 .rw[afe q,afU,afe q];rfl
theorem uZ(l:List Act)(a:Act)(s:Nat):ahE (l++ [a]) s=ahE l s++if(touches (sc l+1) a).contains s=true then [(l.length+1,kindOf a)]else []:=by
 unfold ahE;rw[uY,EY,aik,aiE 1]
def kI(m:Nat)(a:Act):Nat:=if bz a=1 then m else(eO a).headD 0
theorem vJ(m s:Nat)(a:Act):(touches m a).contains s=true↔(1<=bz a/\bz a<=4)/\kI m a=s:=by
 cases a<;>simp[touches,bz,kI,eO,eq_comm]
theorem DZ{a:Act}(h:1<=bz a/\bz a<=4):kindOf a=bz a:=by
 cases a<;>first|rfl|(simp[bz]at h)
def kT(h:List (Nat×Nat)):List Nat:=[lastOf h 1,lastOf h 2,lastOf h 3,lastOf h 4]
theorem l0(h:List (Nat×Nat))(i k j:Nat):lastOf (h++ [(i,k)]) j=if k=j then i else lastOf h j:=by
 unfold lastOf;rw[agl,afU];by_cases e:k=j
 .rw[afj (by simpa using e),afj e,ahI,agI];rfl
 .rw[afe (by simpa using e),afe e,ahI,af7]
theorem Al{h:List (Nat×Nat)}{k:Nat}(hk:1<=k/\k<=4):kT (h++ [(i,k)])=(kT h).set (k-1) i:=by
 unfold kT;rw[l0,l0,l0,l0];have:k=1\/k=2\/k=3\/k=4:=by omega
 rcases this with e|e|e|e<;>subst e<;>rfl
def fj(k:Nat)(a:Act):Bool:=bz a==8&&(eO a).headD 0==k
def e8(a:Act):Nat×ahc:=((eO a).getD 1 0,uv a)
theorem pH(s:afn)(k:Nat):errata s k=(s.log.filter (fj k)).map e8:=by
 unfold errata
 induction s.log with
 |nil=>rfl
 |cons a l ih=>
  cases a with
  |erratum e n t=>
   rw[aiI,afU,ih];by_cases q:e=k
   .subst q;have e1:fj e (.erratum e n t)=true:=by simp[fj,bz,eO]
    rw[afj e1];simp[e8,eO,uv]
   .have e1:¬fj k (.erratum e n t)=true:=by simp[fj,bz,eO,q]
    rw[afe e1];simp[q]
  |_=>exact ih
theorem Jn(a:Act):actTold a=nat (bz a)::((eO a).map nat++afQ (3-(eO a).length) 0++ [nat (uv a).length]++(uv a).map nat):=by cases a<;>rfl
def kh:agZ->Nat
 | .dropEntry _=>1
 | .dropSense _=>2
 | .newEntry _ _ _=>3
 | .moveEntry _ _=>4
 | .newSense _ _ _ _=>5
 | .moveSense _ _ _=>6
 | .say _ _=>7
 | .point _ _=>8
def ji:agZ->List Nat
 | .dropEntry e=> [e,0,0]
 | .dropSense n=> [n,0,0]
 | .newEntry e a _=> [e,a,0]
 | .moveEntry e a=> [e,a,0]
 | .newSense n e a _=> [n,e,a]
 | .moveSense n e a=> [n,e,a]
 | .say n _=> [n,0,0]
 | .point n t=> [n,t,0]
def dj:agZ->ahc
 | .newEntry _ _ w=>w
 | .newSense _ _ _ t=>t
 | .say _ t=>t
 |_=> []
theorem Mh(d:agZ):ags d=nat (kh d)::(ji d).map nat++nat (dj d).length::(dj d).map nat:=by cases d<;>rfl
theorem zw(d:agZ):(ags d).length=5+(dj d).length:=by
 rw[Mh];have:(ji d).length=3:=by cases d<;>rfl
 simp[this];omega
def er(k:Int)(t:List Int):Prop:=if k=3 then dG t 1 12 97 122=true else if k=5\/k=7 then dG t 0 30 32 126=true else t=[]
structure NV(k a b c n:Int)(r:List Int):Prop where
 all:∀z∈ [k,a,b,c,n],0<=z/\z<=100
 kind:1<=k/\k<=8
 zero:∀z∈([a,b,c]:List Int).drop (lp.getD k.toNat 0),z=0
 len:n.toNat<=r.length
 bytes:er k (r.take n.toNat)
def TM(d:agZ):Prop:=(∀z∈ji d,z<=100)/\(dj d).length<=30
theorem nt{z:Int}(h:0<=z):((z.toNat:Nat):Int)=z:=by omega
theorem Bk{k a b c n:Int}(h:NV k a b c n r):∃d,k::a::b::c::n::r=ags d++r.drop n.toNat/\TM d/\ag7 (f+1) (k::a::b::c::n::r)=(ag7 f (r.drop n.toNat)).map fun l=>d::l:=by
 have ha:=h.all a (by simp);have hb:=h.all b (by simp);have hc:=h.all c (by simp);have hn:=h.all n (by simp);have hk:=h.all k (by simp);have e5:([k,a,b,c,n].all fun v=>decide (0<=v/\v<=100))=true:=af6.mpr fun z hz=>afl (h.all z hz)
 have sg:(r.take n.toNat).length=n.toNat:=by rw[afY];exact ahJ h.len
 have hl:¬r.length<n.toNat:=akY.mpr h.len;have fin:∀(d:agZ),((r.take n.toNat).all fun v=>decide (0<=v/\v<=255))=true->ags d=k::a::b::c::n::r.take n.toNat->TM d->
   (if k=1/\b.toNat=0/\c.toNat=0/\n.toNat=0 then some (.dropEntry a.toNat)else if k=2/\b.toNat=0/\c.toNat=0/\n.toNat=0 then some (.dropSense a.toNat)else if k=3/\c.toNat=0/\isWord (nats (r.take n.toNat))=true then some (.newEntry a.toNat b.toNat (nats (r.take n.toNat)))
    else if k=4/\c.toNat=0/\n.toNat=0 then some (.moveEntry a.toNat b.toNat)else if k=5/\isSaying (nats (r.take n.toNat))=true then some (.newSense a.toNat b.toNat c.toNat (nats (r.take n.toNat)))else if k=6/\n.toNat=0 then some (.moveSense a.toNat b.toNat c.toNat)else if k=7/\b.toNat=0/\c.toNat=0/\isSaying (nats (r.take n.toNat))=true then some (.say a.toNat (nats (r.take n.toNat)))
    else if k=8/\c.toNat=0/\n.toNat=0 then some (.point a.toNat b.toNat)else none)=some d->
   ∃d,k::a::b::c::n::r=ags d++r.drop n.toNat/\TM d/\ag7 (f+1) (k::a::b::c::n::r)=(ag7 f (r.drop n.toNat)).map fun l=>d::l:=fun d h1 h2 h3 h4=>by
  refine⟨d,?_,h3,?_⟩
  .rw[h2];show _=k::a::b::c::n::(r.take n.toNat++r.drop n.toNat);rw[agK]
  .rw[ag7,afe (by rw[e5,h1];rintro(z|z|z);cases z;exact hl z;cases z),h4];rfl
 have no:n.toNat=0->r.take n.toNat=[]/\n=0:=fun z=>⟨by rw[z];rfl,by omega⟩
 have U5:∀{sh lo oy gr:Nat},gr<=255->dG (r.take n.toNat) sh lo oy gr=true->((r.take n.toNat).all fun v=>decide (0<=v/\v<=255))=true/\(nats (r.take n.toNat)).map nat=r.take n.toNat/\(nats (r.take n.toNat)).length<=lo/\nat (nats (r.take n.toNat)).length=n:=fun{sh lo oy gr} hg hr=>by
  obtain⟨q1,q2⟩:=sR hr;obtain⟨_,_,q3⟩:=qp hr;refine⟨af6.mpr fun z hz=>afl ⟨by have:=q3 z hz;omega,by have:=q3 z hz;omega⟩,q1,q2,?_⟩;rw[kU,sg];exact nt hn.1
 have hz:=h.zero;have uW:=h.bytes;have hk8:k=1\/k=2\/k=3\/k=4\/k=5\/k=6\/k=7\/k=8:=by have:=h.kind;omega
 rcases hk8 with e|e|e|e|e|e|e|e<;>subst e<;>unfold er at uW
 .have z1:b=0:=hz b (by show b∈ [b,c];simp);have z2:c=0:=hz c (by show c∈ [b,c];simp);rw[afe (by decide),afe (by decide)]at uW;have n0:n.toNat=0:=by rw[<-sg,uW];rfl
  obtain⟨t0,rfl⟩:=no n0;subst z1;subst z2;refine fin (.dropEntry a.toNat) (by rw[t0];rfl) (by rw[t0];show [1,nat a.toNat,0,0,0]=_;rw[nat,nt ha.1]) ⟨fun z qo=> ?_,afH _⟩ (by rw[afj ⟨rfl,rfl,rfl,n0⟩]);have:z=a.toNat\/z=0:=by simpa [ji]using qo
  omega
 .have z1:b=0:=hz b (by show b∈ [b,c];simp);have z2:c=0:=hz c (by show c∈ [b,c];simp);rw[afe (by decide),afe (by decide)]at uW;have n0:n.toNat=0:=by rw[<-sg,uW];rfl
  obtain⟨t0,rfl⟩:=no n0;subst z1;subst z2;refine fin (.dropSense a.toNat) (by rw[t0];rfl) (by rw[t0];show [2,nat a.toNat,0,0,0]=_;rw[nat,nt ha.1]) ⟨fun z qo=> ?_,afH _⟩ (by rw[afe (fun z=>absurd z.1 (by decide)),afj ⟨rfl,rfl,rfl,n0⟩]);have:z=a.toNat\/z=0:=by simpa [ji]using qo
  omega
 .have z2:c=0:=hz c (by show c∈ [c];simp);rw[afj rfl]at uW;subst z2;obtain⟨q1,q2,q3,q4⟩:=U5 (by decide) uW;refine fin (.newEntry a.toNat b.toNat (nats (r.take n.toNat))) q1 (by show [3,nat a.toNat,nat b.toNat,0,nat _]++_=_;rw[q4,q2,nat,nat,nt ha.1,nt hb.1];rfl) ⟨fun z qo=> ?_,by show(nats _).length<=30;omega⟩ ?_
  .have:z=a.toNat\/z=b.toNat\/z=0:=by simpa [ji]using qo
   omega
  .rw[afe (fun z=>absurd z.1 (by decide)),afe (fun z=>absurd z.1 (by decide)),afj ⟨rfl,rfl,((afB _ _).mp ((lO _).trans uW)).2⟩]
 .have z2:c=0:=hz c (by show c∈ [c];simp);rw[afe (by decide),afe (by decide)]at uW;have n0:n.toNat=0:=by rw[<-sg,uW];rfl
  obtain⟨t0,rfl⟩:=no n0;subst z2;refine fin (.moveEntry a.toNat b.toNat) (by rw[t0];rfl) (by rw[t0];show [4,nat a.toNat,nat b.toNat,0,0]=_;rw[nat,nat,nt ha.1,nt hb.1]) ⟨fun z qo=> ?_,afH _⟩ (by rw[afe (fun z=>absurd z.1 (by decide)),afe (fun z=>absurd z.1 (by decide)),afe (fun z=>absurd z.1 (by decide)),afj ⟨rfl,rfl,n0⟩]);have:z=a.toNat\/z=b.toNat\/z=0:=by simpa [ji]using qo
  omega
 .rw[afe (by decide),afj (.inl rfl)]at uW;obtain⟨q1,q2,q3,q4⟩:=U5 (by decide) uW;refine fin (.newSense a.toNat b.toNat c.toNat (nats (r.take n.toNat))) q1 (by show [5,nat a.toNat,nat b.toNat,nat c.toNat,nat _]++_=_;rw[q4,q2,nat,nat,nat,nt ha.1,nt hb.1,nt hc.1];rfl) ⟨fun z qo=> ?_,q3⟩ ?_
  .have:z=a.toNat\/z=b.toNat\/z=c.toNat:=by simpa [ji]using qo
   omega
  .rw[afe (fun z=>absurd z.1 (by decide)),afe (fun z=>absurd z.1 (by decide)),afe (fun z=>absurd z.1 (by decide)),afe (fun z=>absurd z.1 (by decide)),afj ⟨rfl,((afB _ _).mp ((ik _).trans uW)).2⟩]
 .rw[afe (by decide),afe (by decide)]at uW;have n0:n.toNat=0:=by rw[<-sg,uW];rfl
  obtain⟨t0,rfl⟩:=no n0;refine fin (.moveSense a.toNat b.toNat c.toNat) (by rw[t0];rfl) (by rw[t0];show [6,nat a.toNat,nat b.toNat,nat c.toNat,0]=_;rw[nat,nat,nat,nt ha.1,nt hb.1,nt hc.1]) ⟨fun z qo=> ?_,afH _⟩ (by rw[afe (fun z=>absurd z.1 (by decide)),afe (fun z=>absurd z.1 (by decide)),afe (fun z=>absurd z.1 (by decide)),afe (fun z=>absurd z.1 (by decide)),afe (fun z=>absurd z.1 (by decide)),afj ⟨rfl,n0⟩]);have:z=a.toNat\/z=b.toNat\/z=c.toNat:=by simpa [ji]using qo
  omega
 .have z1:b=0:=hz b (by show b∈ [b,c];simp);have z2:c=0:=hz c (by show c∈ [b,c];simp);rw[afe (by decide),afj (.inr rfl)]at uW;subst z1;subst z2;obtain⟨q1,q2,q3,q4⟩:=U5 (by decide) uW;refine fin (.say a.toNat (nats (r.take n.toNat))) q1 (by show [7,nat a.toNat,0,0,nat _]++_=_;rw[q4,q2,nat,nt ha.1];rfl) ⟨fun z qo=> ?_,q3⟩ ?_
  .have:z=a.toNat\/z=0:=by simpa [ji]using qo
   omega
  .rw[afe (fun z=>absurd z.1 (by decide)),afe (fun z=>absurd z.1 (by decide)),afe (fun z=>absurd z.1 (by decide)),afe (fun z=>absurd z.1 (by decide)),afe (fun z=>absurd z.1 (by decide)),afe (fun z=>absurd z.1 (by decide)),afj ⟨rfl,rfl,rfl,((afB _ _).mp ((ik _).trans uW)).2⟩]
 .have z2:c=0:=hz c (by show c∈ [c];simp);rw[afe (by decide),afe (by decide)]at uW;have n0:n.toNat=0:=by rw[<-sg,uW];rfl
  obtain⟨t0,rfl⟩:=no n0;subst z2;refine fin (.point a.toNat b.toNat) (by rw[t0];rfl) (by rw[t0];show [8,nat a.toNat,nat b.toNat,0,0]=_;rw[nat,nat,nt ha.1,nt hb.1]) ⟨fun z qo=> ?_,afH _⟩ (by rw[afe (fun z=>absurd z.1 (by decide)),afe (fun z=>absurd z.1 (by decide)),afe (fun z=>absurd z.1 (by decide)),afe (fun z=>absurd z.1 (by decide)),afe (fun z=>absurd z.1 (by decide)),afe (fun z=>absurd z.1 (by decide)),afe (fun z=>absurd z.1 (by decide)),afj ⟨rfl,rfl,n0⟩]);have:z=a.toNat\/z=b.toNat\/z=0:=by simpa [ji]using qo
  omega
theorem JV{k a b c n:Int}(h:¬NV k a b c n r):ag7 (f+1) (k::a::b::c::n::r)=none:=by
 rw[ag7];split
 .rfl
 .rename_i q;rw[akv,akv]at q;obtain⟨q1,q2,q3⟩:=q;have h5:∀z∈ [k,a,b,c,n],0<=z/\z<=100:=fun z hz=>afh (af6.mp ((amd _).mp q1) z hz)
  have hb:=h5 b (by simp);have hc:=h5 c (by simp);have hn:=h5 n (by simp);have Rx:(r.take n.toNat).all (fun c=>inside c 0 255)=true:=af6.mpr fun z hz=>gW.mpr (afh (af6.mp ((amd _).mp q3) z hz))
  have ok:1<=k/\k<=8->(∀z∈([a,b,c]:List Int).drop (lp.getD k.toNat 0),z=0)->er k (r.take n.toNat)->False:=fun h1 h2 h3=>h ⟨h5,h1,h2,akY.mp q2,h3⟩
  have nil:n.toNat=0->r.take n.toNat=[]:=fun z=>by rw[z];rfl
  have w1:isWord (nats (r.take n.toNat))=true->dG (r.take n.toNat) 1 12 97 122=true:=fun z=>by rw[<-lO];unfold aWord;rw[Rx,z];rfl
  have w2:isSaying (nats (r.take n.toNat))=true->dG (r.take n.toNat) 0 30 32 126=true:=fun z=>by rw[<-ik];unfold aSaying;rw[Rx,z];rfl
  have two:b.toNat=0->c.toNat=0->∀z∈ [b,c],z=0:=fun z1 z2 z hz=>by
   have:z=b\/z=c:=by simpa using hz
   omega
  have bj:c.toNat=0->∀z∈ [c],z=0:=fun z2 z hz=>by
   have:z=c:=by simpa using hz
   omega
  rw[afe,afe,afe,afe,afe,afe,afe,afe]
  .rfl
  .rintro⟨rfl,z2,z3⟩;exact ok (by decide) (bj z2) (by unfold er;rw[afe (by decide),afe (by decide)];exact nil z3)
  .rintro⟨rfl,z1,z2,z3⟩;exact ok (by decide) (two z1 z2) (by unfold er;rw[afe (by decide),afj (.inr rfl)];exact w2 z3)
  .rintro⟨rfl,z3⟩;exact ok (by decide) (fun z hz=>nomatch hz) (by unfold er;rw[afe (by decide),afe (by decide)];exact nil z3)
  .rintro⟨rfl,z3⟩;exact ok (by decide) (fun z hz=>nomatch hz) (by unfold er;rw[afe (by decide),afj (.inl rfl)];exact w2 z3)
  .rintro⟨rfl,z2,z3⟩;exact ok (by decide) (bj z2) (by unfold er;rw[afe (by decide),afe (by decide)];exact nil z3)
  .rintro⟨rfl,z2,z3⟩;exact ok (by decide) (bj z2) (by unfold er;rw[afj rfl];exact w1 z3)
  .rintro⟨rfl,z1,z2,z3⟩;exact ok (by decide) (two z1 z2) (by unfold er;rw[afe (by decide),afe (by decide)];exact nil z3)
  .rintro⟨rfl,z1,z2,z3⟩;exact ok (by decide) (two z1 z2) (by unfold er;rw[afe (by decide),afe (by decide)];exact nil z3)
theorem FJ{l:List Int}(h0:l≠ [])(h:l.length<5):ag7 (f+1) l=none:=by
 match l,h0,h with
 | [_],_,_=>rfl
 | [_,_],_,_=>rfl
 | [_,_,_],_,_=>rfl
 | [_,_,_,_],_,_=>rfl
theorem J8:∀n<100,natOf (aho n)=some n:=by decide+kernel
theorem J9:∀c<58,48<=c->aho (10*0+(c-48))=[c]:=by decide+kernel
theorem Ka:∀c<58,49<=c->∀d<58,48<=d->aho (10*(10*0+(c-48))+(d-48))=[c,d]:=by decide+kernel
theorem uM{c:Nat}:isDigit c=true↔48<=c/\c<=57:=ahm
def nX(a:ahc):Prop:=(1<=a.length/\a.length<=2)/\(∀c∈a,48<=c/\c<=57)/\(a.length=1\/a.head?≠some 48)
theorem jG{a:ahc}:(∃n,natOf a=some n)↔nX a:=by
 unfold natOf nX;constructor
 .rintro⟨n,h⟩;split at h
  .cases h
  .rename_i q;have q1:¬a.isEmpty=true:=fun z=>q (.inl z)
   have q2:¬2<a.length:=fun z=>q (.inr (.inl z))
   have q3:¬a.all isDigit=false:=fun z=>q (.inr (.inr (.inl z)))
   have q4:¬(a.head? =some 48/\1<a.length):=fun z=>q (.inr (.inr (.inr z)))
   have h1:1<=a.length:=by
    cases a with
    |nil=>exact absurd rfl q1
    |cons x r=>exact ajs (afH _)
   refine⟨⟨h1,by omega⟩,fun c hc=>uM.mp (af6.mp (by simpa using q3) c hc),?_⟩;by_cases e:a.length=1
   .exact .inl e
   .exact .inr fun z=>q4 ⟨z,by omega⟩
 .rintro⟨⟨h1,h2⟩,h3,h4⟩;rw[afe]
  .exact⟨_,rfl⟩
  .rintro(z|z|z|z)
   .cases a with
    |nil=>exact absurd h1 (by decide)
    |cons x r=>cases z
   .omega
   .have:a.all isDigit=true:=af6.mpr fun c hc=>uM.mpr (h3 c hc)
    rw[this]at z;cases z
   .rcases h4 with q|q
    .omega
    .exact q z.1
theorem pP{a:ahc}(h:natOf a=some n):n<=99/\a=aho n:=by
 obtain⟨⟨h1,h2⟩,h3,h4⟩:=jG.mp ⟨n,h⟩;have hv:n=a.foldl (fun a c=>10*a+(c-48)) 0:=by
  unfold natOf at h;split at h
  .cases h
  .exact(afv h).symm
 match a,h1,h2,h3,h4,hv with
 | [c],_,_,h3,_,hv=>
  have hc:=h3 c (by simp);have JH:n=10*0+(c-48):=hv;exact⟨by omega,by rw[JH,J9 c (by omega) hc.1]⟩
 | [c,d],_,_,h3,h4,hv=>
  have hc:=h3 c (by simp);have hd:=h3 d (by simp);have JH:n=10*(10*0+(c-48))+(d-48):=hv;have Y2:c≠48:=fun z=>by
   rcases h4 with q|q
   .exact absurd (show 2=1 from q) (by decide)
   .exact q (by rw[z];rfl)
  exact⟨by omega,by rw[JH,Ka c (by omega) (by omega) d (by omega) hd.1]⟩
theorem fD(h:n<=99):natOf (aho n)=some n:=J8 n (by omega)
theorem sF{a:ahc}(h:natOf a=some n):∀c∈a,48<=c/\c<=57:=(jG.mp ⟨n,h⟩).2.1
theorem mM(c:Nat)(r:ahc):firstPiece (c::r)=if c=32 then some ([],r)else(firstPiece r).map fun x=>(c::x.1,x.2):=by
 by_cases h:c=32
 .subst h;rw[afj rfl,firstPiece]
 .rw[afe h,firstPiece];exact h
theorem iV:∀{a r:ahc},¬32∈a->firstPiece (a++32::r)=some (a,r)
 | [],r,_=>by rw[agV,mM,afj rfl]
 |c::a,r,h=>by
  rw[afx,akv]at h;rw[ahb,mM,afe (fun z=>h.1 z.symm),iV h.2];rfl
theorem mP:∀{t a r:ahc},firstPiece t=some (a,r)->t=a++32::r/\¬32∈a
 | [],_,_,h=>by cases h
 |c::t,a,r,h=>by
  rw[mM]at h;by_cases e:c=32
  .rw[afj e]at h;injection h with h;injection h with h1 h2
   subst h1;subst h2;subst e;exact⟨rfl,by simp⟩
  .rw[afe e]at h;cases q:firstPiece t with
   |none=>rw[q]at h;cases h
   |some x=>
    rw[q]at h;injection h with h;injection h with h1 h2
    obtain⟨h3,h4⟩:=mP (a:=x.1) (r:=x.2) q;subst h1;subst h2;refine⟨by rw[ahb,<-h3],fun z=> ?_⟩;rcases afx.mp z with z|z
    .exact e z.symm
    .exact h4 z
theorem pG(s:Nat):∀t:ahc,∃w r,ahM s t=w::r
 | []=>⟨[],[],rfl⟩
 |c::t=>by
  obtain⟨w,r,h⟩:=pG s t;rw[ahM,h];by_cases e:c=s
  .exact⟨[],w::r,by dsimp only;rw[afj e]⟩
  .exact⟨c::w,r,by dsimp only;rw[afe e]⟩
theorem lT{s:Nat}:∀{a b:ahc},¬s∈a->ahM s (a++s::b)=a::ahM s b
 | [],b,_=>by
  obtain⟨w,r,h⟩:=pG s b;rw[agV,ahM,h];dsimp only;rw[afj rfl]
 |c::a,b,h=>by
  rw[afx,akv]at h;rw[ahb,ahM,lT h.2];dsimp only;rw[afe fun z=>h.1 z.symm]
theorem vV{s:Nat}:∀{a:ahc},¬s∈a->ahM s a=[a]
 | [],_=>rfl
 |c::a,h=>by
  rw[afx,akv]at h;rw[ahM,vV h.2];dsimp only;rw[afe fun z=>h.1 z.symm]
theorem lJ{s:Nat}:∀{t:ahc},s∈t->∃a b,t=a++s::b/\¬s∈a
 | [],h=>nomatch h
 |c::t,h=>by
  by_cases e:c=s
  .exact⟨[],t,by rw[e];rfl,by simp⟩
  .obtain⟨a,b,h1,h2⟩:=lJ ((afx.mp h).resolve_left fun z=>e z.symm);refine⟨c::a,b,by rw[h1];rfl,fun z=> ?_⟩;rcases afx.mp z with z|z
   .exact e z.symm
   .exact h2 z
theorem ot(s c:Nat):∀t:ahc,ahM s (t++ [c])=if c=s then ahM s t++ [[]]else(ahM s t).dropLast++ [((ahM s t).getLast?).getD []++ [c]]
 | []=>by
  by_cases e:c=s
  .rw[afj e,agV,ahM];dsimp only[ahM];rw[afj e];rfl
  .rw[afe e,agV,ahM];dsimp only[ahM];rw[afe e];rfl
 |d::t=>by
  have ih:=ot s c t;obtain⟨w,r,h⟩:=pG s t;rw[ahb,ahM,ih,ahM,h];by_cases e:c=s
  .rw[afj e,afj e];dsimp only[ahb];by_cases q:d=s
   .rw[afj q,afj q];rfl
   .rw[afe q,afe q];rfl
  .rw[afe e,afe e];cases r with
   |nil=>
    dsimp only[anp,agV,List.getLast?];by_cases q:d=s
    .rw[afj q,afj q];rfl
    .rw[afe q,afe q];rfl
   |cons v r=>
    dsimp only[anp,ahb];by_cases q:d=s
    .rw[afj q,afj q];rfl
    .rw[afe q,afe q];rfl
theorem KP{a:ahc}(h:natOf a=some n):¬46∈a:=fun z=>by have:=sF h 46 z;omega
theorem O0{a:ahc}(h:natOf a=some n):¬32∈a:=fun z=>by have:=sF h 32 z;omega
theorem vp{a b:ahc}{y:Nat}(ha:natOf a=some x)(hb:natOf b=some y):pairOf (a++46::b)=some (x,y):=by
 unfold pairOf;rw[lT (KP ha),vV (KP hb)];dsimp only;rw[ha,hb];rfl
theorem qu{w:ahc}{x:Nat×Nat}(h:pairOf w=some x):∃a b,w=a++46::b/\natOf a=some x.1/\natOf b=some x.2:=by
 unfold pairOf at h;split at h
 .rename_i a b hc;cases ha:natOf a with
  |none=>rw[ha]at h;cases h
  |some n=>
   cases hb:natOf b with
   |none=>rw[ha,hb]at h;cases h
   |some m=>
    rw[ha,hb]at h;have e:(n,m)=x:=afv h;subst e;refine⟨a,b,?_,ha,hb⟩;by_cases q:46∈w
    .obtain⟨u,v,rfl,hu⟩:=lJ q;rw[lT hu]at hc;injection hc with h1 h2
     subst h1;by_cases q2:46∈v
     .obtain⟨u2,v2,rfl,WS⟩:=lJ q2;rw[lT WS]at h2;injection h2 with h3 h4
      obtain⟨w3,r3,h5⟩:=pG 46 v2;rw[h5]at h4;cases h4
     .rw[vV q2]at h2;injection h2 with h3
      rw[h3]
    .rw[vV q]at hc;cases hc
 .cases h
theorem AG{w:ahc}{x:Nat×Nat}(h:pairOf w=some x):x.1<=99/\x.2<=99/\w=pair x:=by
 obtain⟨a,b,rfl,ha,hb⟩:=qu h;obtain⟨h1,rfl⟩:=pP ha;obtain⟨h2,rfl⟩:=pP hb;exact⟨h1,h2,rfl⟩
theorem yZ{x:Nat×Nat}(h1:x.1<=99)(h2:x.2<=99):pairOf (pair x)=some x:=vp (fD h1) (fD h2)
theorem Aq(x:Nat×Nat):natOf (pair x)=none:=by
 cases h:natOf (pair x)with
 |none=>rfl
 |some n=>exact absurd (show 46∈pair x by unfold pair;simp) (KP h)
def qe(p:ahc):Prop:=p=[45]\/∃a b,p=a++46::b/\¬46∈a/\nX a/\nX b
theorem Iw{p:ahc}:qe p↔p=[45]\/∃x,pairOf p=some x:=by
 constructor
 .rintro(h|⟨a,b,rfl,_,ha,hb⟩)
  .exact .inl h
  .obtain⟨n,hn⟩:=jG.mpr ha;obtain⟨m,hm⟩:=jG.mpr hb;exact .inr ⟨(n,m),vp hn hm⟩
 .rintro(h|⟨x,h⟩)
  .exact .inl h
  .obtain⟨a,b,rfl,ha,hb⟩:=qu h;exact .inr ⟨a,b,rfl,KP ha,jG.mp ⟨_,ha⟩,jG.mp ⟨_,hb⟩⟩
def rB(t:ahc)(e:Nat):Prop:=e<=99/\∃r,t=aho e++ [32]++r/\isWord r=true
def qf(t:ahc)(e s:Nat):Prop:=s<=99/\∃p x,t=pair (e,s)++ [32]++(p++32::x)/\¬32∈p/\qe p/\isSaying x=true
def dD(l:List akB):Nat:=((l.getLast?).map fun y=>y.senses.length).getD 0
def km(l:List akB):Nat:=(l.map fun x=>x.senses.length).foldl (fun a b=>a+b) 0
theorem DJ(l:List Nat)(a:Nat):l.foldl (fun a b=>a+b) a=a+l.foldl (fun a b=>a+b) 0:=by
 induction l generalizing a with
 |nil=>rfl
 |cons x l ih=>rw[ail,ail,ih,ih (0+x)];omega
theorem nI(l:List akB)(y:akB):km (l++ [y])=km l+y.senses.length:=by
 unfold km;rw[afD,akn,DJ];show _+(0+y.senses.length)=_;omega
theorem Ee{x:Nat×Nat}(h1:x.1<=99)(h2:x.2<=99):¬32∈pair x:=fun z=>by
 rcases afN.mp z with q|q
 .exact O0 (fD h1) q
 .rcases afx.mp q with q|q
  .cases q
  .exact O0 (fD h2) q
theorem m9{α:Type}{l:List α}{y:α}(h:l.getLast? =some y):l=l.dropLast++ [y]:=by
 rcases alc l with rfl|⟨u,c,rfl⟩
 .cases h
 .rw[ajp,agI]at h;rw[ajp,ajF,afv h]
theorem Gs{l:List akB}(h:rB t (l.length+1)):∃r,doLine l t=some (l++ [⟨r,[]⟩]):=by
 obtain⟨h1,r,rfl,hw⟩:=h;refine⟨r,?_⟩;unfold doLine;rw[afS,ais,iV (O0 (fD h1))];dsimp only;rw[fD h1];dsimp only;rw[afj ⟨rfl,hw⟩]
theorem Gu{l:List akB}(hl:0<l.length)(h9:l.length<=99)(h:qf t l.length (dD l+1)):∃l',doLine l t=some l'/\l'.length=l.length/\dD l'=dD l+1/\km l'=km l+1:=by
 obtain⟨h1,p,x,rfl,hp,hpo,hx⟩:=h;cases hg:l.getLast? with
 |none=>rw[List.getLast?_eq_none_iff]at hg;subst hg;exact absurd hl (by decide)
 |some y=>
  have Ad:dD l=y.senses.length:=by unfold dD;rw[hg];rfl
  have DS:l=l.dropLast++ [y]:=by
   exact m9 hg
  have key:∀z:Option (Nat×Nat)×ahc,(l.dropLast++ [{y with senses:=y.senses++ [z]}]).length=l.length/\dD (l.dropLast++ [{y with senses:=y.senses++ [z]}])=dD l+1/\km (l.dropLast++ [{y with senses:=y.senses++ [z]}])=km l+1:=fun z=>by
   refine⟨?_,?_,?_⟩
   .conv=>rhs;rw[DS]
    rw[afc,afc];rfl
   .rw[Ad];unfold dD;rw[agI];show(y.senses++ [z]).length=_;rw[afc];rfl
   .conv=>rhs;rw[DS]
    rw[nI,nI];show _+(y.senses++ [z]).length=_;rw[afc];rfl
  rw[Ad]at h1⊢;have e1:firstPiece (pair (l.length,y.senses.length+1)++ [32]++(p++32::x))=some (pair (l.length,y.senses.length+1),p++32::x):=by
   rw[afS,ais];exact iV (Ee h9 h1)
  unfold doLine;rw[e1];dsimp only;rw[Aq];dsimp only;rw[yZ h9 h1,iV hp,hg];dsimp only;rw[afj ⟨rfl,hx⟩];rw[Ad]at key;rcases Iw.mp hpo with q|⟨u,q⟩
  .rw[afj q];exact⟨_,rfl,key _⟩
  .by_cases q1:p=[45]
   .rw[afj q1];exact⟨_,rfl,key _⟩
   .rw[afe q1,q];exact⟨_,rfl,key _⟩
theorem Kc{l:List akB}(h1:¬rB t (l.length+1))(h2:0<l.length->¬qf t l.length (dD l+1)):doLine l t=none:=by
 unfold doLine;cases ht:firstPiece t with
 |none=>rfl
 |some ar=>
  obtain⟨a,r⟩:=ar;obtain⟨rfl,ha⟩:=mP ht;dsimp only;cases hn:natOf a with
  |some n=>
   dsimp only;obtain⟨q1,q2⟩:=pP hn;rw[afe];rintro⟨rfl,hw⟩;exact h1 ⟨q1,r,by rw[q2,afS,ais],hw⟩
  |none=>
   dsimp only;split
   .rename_i x p t' y hx hr hg;obtain⟨q1,q2,rfl⟩:=AG hx;obtain⟨rfl,hp⟩:=mP hr;have hl:0<l.length:=by
     cases l with
     |nil=>cases hg
     |cons _ _=>exact aiF _
    have Ad:dD l=y.senses.length:=by unfold dD;rw[hg];rfl
    by_cases c:x=(l.length,y.senses.length+1)/\isSaying t'=true
    .rw[afj c];obtain⟨rfl,hs⟩:=c;have no:¬qe p:=fun z=>h2 hl ⟨by rw[Ad];exact q2,p,t',by rw[Ad,afS,ais],hp,z,hs⟩
     rw[Iw,akv]at no;rw[afe no.1];cases hpp:pairOf p with
     |none=>rfl
     |some u=>exact absurd ⟨u,hpp⟩ no.2
    .rw[afe c]
   .rfl
theorem su{l m:List akB}{ts:List ahc}(h:doLine l t=some m):linesFrom i l (t::ts)=linesFrom (i+1) m ts:=by rw[linesFrom,h]
theorem Am{l:List akB}{ts:List ahc}(h:doLine l t=none):linesFrom i l (t::ts)= .error i:=by rw[linesFrom,h]
def xb(t:ahc):List Int:=match readPrint t with
 | .error i=> [1,nat i]
 | .ok l=> [0,nat l.length,nat ((l.map fun x=>x.senses.length).foldl (fun a b=>a+b) 0)]
theorem x9(t:ahc):ahM 10 t=(ahM 10 t).dropLast++ [((ahM 10 t).getLast?).getD []]:=by
 obtain⟨w,r,h⟩:=pG 10 t;rw[h];have e:=aih (l:=w::r) (by simp);rw[e];exact m9 e
theorem Pl(h:linesFrom 1 [] (ahM 10 t).dropLast= .error i):xb t=[1,nat i]:=by
 unfold xb readPrint;dsimp only;rw[h]
theorem Lq{x:List akB}(h:linesFrom 1 [] (ahM 10 t).dropLast= .ok x)(hl:((ahM 10 t).getLast?).getD []≠ []):xb t=[1,nat ((ahM 10 t).dropLast.length+1)]:=by
 unfold xb readPrint;dsimp only;rw[h];dsimp only;rw[afe fun z=>hl (by rw[z];rfl)];dsimp only
 conv=>lhs;rw[x9 t]
 rw[afc];rfl
theorem S3{x:List akB}(h:linesFrom 1 [] (ahM 10 t).dropLast= .ok x)(hl:((ahM 10 t).getLast?).getD []=[]):xb t=[0,nat x.length,nat (km x)]:=by
 unfold xb readPrint;dsimp only;rw[h];dsimp only;rw[afj]
 .rfl
 .obtain⟨w,r,e⟩:=pG 10 t;rw[e,aih (by simp)]at hl⊢;exact congrArg some hl
theorem yN:((ahM 10 t).getLast?).getD []=[]↔t=[]\/t.getLast? =some 10:=by
 rcases alc t with rfl|⟨u,c,rfl⟩
 .exact⟨fun _=> .inl rfl,fun _=>rfl⟩
 .rw[ajp,ot];by_cases e:c=10
  .rw[afj e,agI,e,agI];exact⟨fun _=> .inr rfl,fun _=>rfl⟩
  .rw[afe e,agI,agI];constructor
   .intro h;have:((ahM 10 u).getLast?.getD []++ [c])=[]:=h;simp at this
   .rintro(h|h)
    .simp at h
    .exact absurd (afv h) e
theorem Dv(S:afn):book S 0=agC S.log:=by
 unfold book ahi;rw[afj rfl,afT]
theorem om{j:Nat}(h:S.editions[i]? =some j):book S (i+1)=agC (S.log.take j):=by
 unfold book ahi;rw[afe (aia i),ahV,h];rfl
theorem D0{j:Nat}(h:S.editions[i]? =some j):ahi S (i+1)=j:=by
 unfold ahi;rw[afe (aia i),ahV,h];rfl
structure n9(S:afn):Prop where
 len:S.log.length<=200
 BW:S.editions.length<=10
 ed:∀j∈S.editions,j<=S.log.length
 ok:∀a∈S.log,Mm a
 Rm:∀k n t,ajN k n t∈S.log->k<=S.editions.length/\n∈aD (book S k)
def y4(S:afn)(a:Act):afn:={S with log:=S.log++ [a]}
def jW(S:afn):afn:={S with editions:=S.editions++ [S.log.length]}
theorem uJ(h:n9 S)(a:Act)(hi:i<S.editions.length):book (y4 S a) (i+1)=book S (i+1):=by
 have e:=afk hi;rw[om (S:=y4 S a) e,om e];show agC ((S.log++ [a]).take _)=_;rw[List.take_append_of_le_length (h.ed _ (afq e))]
theorem qh(hi:i<S.editions.length):book (jW S) (i+1)=book S (i+1):=by
 have e:=afk hi;rw[om (S:=jW S) (i:=i) (j:=S.editions[i]) (by show(S.editions++_)[i]? =_;rw[agM hi];exact e),om e];rfl
theorem FG(S:afn):book (jW S) (S.editions.length+1)=agC S.log:=by
 rw[om (S:=jW S) (i:=S.editions.length) (j:=S.log.length) (by show(S.editions++_)[_]? =_;rw[agv (afp _),akZ];rfl)];show agC (S.log.take _)=_;rw[afT]
theorem n9.start:n9 ajh:=⟨by decide,by decide,fun j hj=>(nomatch hj),fun j hj=>(nomatch hj),fun k n t hj=>(nomatch hj)⟩
theorem n9.y4{S:afn}(h:n9 S){a:Act}(ok:Mm a)(hl:S.log.length<200)(he:∀k n t,a=ajN k n t->k<=S.editions.length/\n∈aD (book S k)):n9 (y4 S a):=by
 refine⟨by show(S.log++ [a]).length<=200;rw[afc];exact hl,h.BW,fun j hj=> ?_,fun x hx=> ?_,fun k n t hx=> ?_⟩
 .show j<=(S.log++ [a]).length;rw[afc];exact afM (h.ed j hj)
 .rcases afN.mp hx with q|q
  .exact h.ok x q
  .have:x=a:=by simpa using q
   rw[this];exact ok
 .have key:∀{k n:Nat},Mm (ajN k n t)->k<=S.editions.length/\n∈aD (book S k)->k<=S.editions.length/\n∈aD (book (FM.y4 S a) k):=fun{k n} o q=>by
   obtain⟨i,rfl⟩:∃i,k=i+1:=⟨k-1,by have:=o.1;omega⟩;exact⟨q.1,by rw[uJ h a q.1];exact q.2⟩
  rcases afN.mp hx with q|q
  .exact key (h.ok _ q) (h.Rm k n t q)
  .have e:ajN k n t=a:=by simpa using q
   exact key (by rw[e];exact ok) (he k n t e.symm)
theorem n9.jW(h:n9 S)(hl:S.editions.length<10):n9 (jW S):=by
 refine⟨h.len,by show(S.editions++_).length<=10;rw[afc];exact hl,fun j hj=> ?_,h.ok,fun k n t hx=> ?_⟩
 .rcases afN.mp hj with q|q
  .exact h.ed j q
  .have:j=S.log.length:=by simpa using q
   rw[this];exact afp _
 .obtain⟨i,rfl⟩:∃i,k=i+1:=⟨k-1,by have:=(h.ok _ hx).1;omega⟩;obtain⟨q1,q2⟩:=h.Rm _ n t hx;exact⟨by show _<=(S.editions++_).length;rw[afc];exact afM q1,by rw[qh q1];exact q2⟩
theorem n9.short(h:n9 S)(k:Nat):rE (book S k):=E2 _ fun a ha=>h.ok a (List.mem_of_mem_take ha)
def dh(x:akG):List Nat:=(bk (bK x)).map fun i=>(fL x).getD i 0
theorem uU{k:Nat}{l:List (Bool×Int)}{r:Res}(h:k<=S.editions.length):guards (noEdition S k::l) r=guards l r:=by
 unfold guards noEdition isEdition;rw[aji (by simp[h])]
theorem VX{k:Nat}{l:List (Bool×Int)}{r:Res}(h:¬k<=S.editions.length):guards (noEdition S k::l) r= .error (-8):=by
 unfold guards noEdition isEdition;rw[ajj (by simp[h])]
theorem VW{r:Res}:guards [] r=r:=rfl
theorem dX{T:afn}{x:akG}{l:List Int}(h:does S x= .ok (T,l)):step S x=(T,0::l):=by unfold step;rw[h]
theorem gS{x:akG}{e:Int}(h:does S x= .error e):step S x=(S,[e]):=by unfold step;rw[h]
theorem cw{a:Act}{e:Int}(h:ai2 S a=some e):step S (.act a)=(S,[e]):=gS (by simp only[does,h])
theorem Jj{a:Act}(h:ai2 S a=none):step S (.act a)=(y4 S a,0::answered S a):=dX (by simp only[does,h];rfl)
theorem zq{x:akG}(h:¬∀k∈dh x,k<=S.editions.length):step S x=(S,[-8]):=by
 have xV:∀{k:Nat},(¬∀j∈ [k],j<=S.editions.length)->¬k<=S.editions.length:=fun{k} q z=>q fun j hj=>by
  have:j=k:=by simpa using hj
  rw[this];exact z
 have two:∀{k m:Nat} {l:List (Bool×Int)} {r:Res},(¬∀j∈ [k,m],j<=S.editions.length)->guards (noEdition S k::noEdition S m::l) r= .error (-8):=fun{k m l r} q=>by
  by_cases h1:k<=S.editions.length
  .rw[uU h1,VX fun z=>q fun j hj=> ?_];have:j=k\/j=m:=by simpa using hj
   rcases this with e|e<;>rw[e]<;>assumption
  .exact VX h1
 cases x with
 |act a=>exact absurd (fun k hk=>by cases a<;>cases hk) h
 |freeze=>exact absurd (fun k hk=>nomatch hk) h
 |check t=>exact absurd (fun k hk=>nomatch hk) h
 |line i=>exact absurd (fun k hk=>nomatch hk) h
 |state=>exact absurd (fun k hk=>nomatch hk) h
 |changes k l=>exact gS (two h)
 |carry k e i l=>exact gS (two h)
 |_=>exact gS (VX (xV h))
theorem xP{k:Nat}(h:k<=S.editions.length):step S (.printed k)=(S,0::(printed (book S k)).map nat):=dX (uU h)
theorem tQ{k:Nat}(h:k<=S.editions.length):step S (.corrected k)=(S,0::(printed (corrected S k)).map nat):=dX (uU h)
theorem xO{k l:Nat}(h:k<=S.editions.length)(h':l<=S.editions.length):step S (.changes k l)=(S,0::nat (changes (book S k) (book S l)).length::(changes (book S k) (book S l)).flatMap ags):=dX ((uU h).trans (uU h'))
theorem zr{k:Nat}(h:k<=S.editions.length):step S (.number k n)=(S,0::two (afX (book S k) n)):=dX (uU h)
theorem E9{k:Nat}(h:k<=S.editions.length):step S (.name k e i)=(S,[0,nat (ahK (book S k) e i)]):=dX (uU h)
theorem A6{k l:Nat}(h:k<=S.editions.length)(h':l<=S.editions.length):step S (.carry k e i l)=if ahK (book S k) e i=0 then(S,[-6])else(S,0::two (afX (book S l) (ahK (book S k) e i))):=by
 by_cases q:ahK (book S k) e i=0
 .rw[afj q];refine gS ((uU h).trans ((uU h').trans ?_));unfold guards;rw[ajj (by simp[q])]
 .rw[afe q];refine dX ((uU h).trans ((uU h').trans ?_));unfold guards;rw[aji (by simp[q])];rfl
def iU(b:aga):List Nat:=(afF b).filter fun n=>(senseAt b n).points !=0
theorem ux{k:Nat}(h:k<=S.editions.length):step S (.pointers k)=(S,0::nat (iU (book S k)).length::(iU (book S k)).flatMap fun n=>two (afX (book S k) n)++two (afX (book S k) (senseAt (book S k) n).points)):=dX (uU h)
theorem E7{k:Nat}(h:k<=S.editions.length):step S (.dead k)=(S,0::nat (dead (book S k)).length::(dead (book S k)).flatMap fun n=>two (afX (book S k) n)):=dX (uU h)
theorem A5{k:Nat}(h:k<=S.editions.length):step S (.blame k n)=if n∈aD (book S k)then(S,0::((kT (ahE (S.log.take (ahi S k)) n)).map nat++ [nat (ahE (S.log.take (ahi S k)) n).length]))else(S,[-6]):=by
 by_cases q:n∈aD (book S k)
 .rw[afj q];refine dX ((uU h).trans ?_);unfold guards;rw[aji (by simp[eC.mpr q])];rfl
 .rw[afe q];refine gS ((uU h).trans ?_);unfold guards;rw[ajj (by simp[dF.mpr q])]
theorem A7{t:List Int}:step S (.check t)=(S,0::xb (nats t)):=by
 unfold xb;cases q:readPrint (nats t)with
 |error i=>exact dX (by simp only[does,q])
 |ok l=>exact dX (by simp only[does,q])
theorem zo{k:Nat}(h:k<=S.editions.length):step S (.errata k)=(S,0::nat (errata S k).length::(errata S k).flatMap fun x=>two (afX (book S k) x.1)++alC x.2):=dX (uU h)
theorem E8(hi:1<=i):step S (.line i)=match S.log[i-1]? with|none=>(S,[-5])|some a=>(S,0::actTold a):=by
 have e:¬i=0:=by omega
 cases q:S.log[i-1]? with
 |none=>exact gS (by simp only[does,afe e,q])
 |some a=>exact dX (by simp only[does,afe e,q])
theorem Fb{k:Nat}(h:k<=S.editions.length):step S (.size k)=(S,[0,nat (ahi S k),nat (book S k).entries.length,nat (book S k).senses.length]):=dX (uU h)
def oG(b:aga)(l:List Int):List Int:=match ag7 l.length l with
 |none=> [-3]
 |some c=>match ako 1 c b with
  | .error i=> [0,1,nat i]
  | .ok b=>0::0::(printed b).map nat
theorem A8{k:Nat}{l:List Int}(h:k<=S.editions.length):step S (.patch k l)=(S,oG (book S k) l):=by
 unfold oG;cases q:ag7 l.length l with
 |none=>exact gS (by simp only[does,uU h,VW,q])
 |some c=>
  dsimp only;cases q2:ako 1 c (book S k)with
  |error i=>exact dX (by simp only[does,uU h,VW,q,q2])
  |ok b=>exact dX (by simp only[does,uU h,VW,q,q2])
def jL(p:Nat)(ns r:List Int):List (List Int):=if fG p=true then [(p:Int)::ns,r]else [(p:Int)::ns]
theorem my(a:Int)(lo hi:Nat):p8 (a,lo,hi)=inside a lo hi:=by
 rw[ah2,gW];exact ahm
structure X4(p:Nat)(ns r:List Int)(x:akG):Prop where
 code:bK x=p
 Xv:(fL x).map nat=ns
 row:Pr x=r
 ok:UR x
def QG(p:Nat)(ns r:List Int)(o:Option akG):Prop:=((iG p ns&&lE p r)=true/\∃x,o=some x/\X4 p ns r x)\/((iG p ns&&lE p r)=false/\o=none)
theorem cJ{p:Nat}{ns:List Int}{b:Bool}{x:akG}(hb:b=(iG p ns&&lE p r))(hx:b=true->X4 p ns r x):QG p ns r (guard b x):=by
 cases q:b with
 |true=>exact .inl ⟨by rw[<-hb,q],x,by unfold anA;rw[afj rfl],hx q⟩
 |false=>exact .inr ⟨by rw[<-hb,q],by unfold anA;rw[afe (by decide)]⟩
theorem tn{a:Int}{lo:Nat}{hi:Int}(h:inside a lo hi=true):((a.toNat:Nat):Int)=a/\lo<=a.toNat:=by
 have:=gW.mp h;omega
theorem vQ(h:aWord r=true):(nats r).map nat=r/\(nats r).length<=12:=sR (by rw[<-lO];exact h)
theorem jM(h:aSaying r=true):(nats r).map nat=r/\(nats r).length<=30:=sR (by rw[<-ik];exact h)
local macro_rules|`(tactic|trivial)=>`(tactic|(simp[iG,rg,Z3,my,isE0,isE,isN,isN0,isK,isK0,lE,lO,ik,amS];done))
theorem Gp(p:Nat)(ns r:List Int)(hp:p<25)(hn:ns.length=(rg p).length)(hr:fG p=false->r=[]):QG p ns r (decode (jL p ns r)):=by
 match p,ns,hp,hn,hr with
 |0,[a],_,_,_=>
  refine cJ (b:=isE0 a&&aWord r) (x:= .act (.entry a.toNat (nats r))) (by trivial) fun h=> ?_
  rw[afB]at h;exact⟨rfl,by show [((a.toNat:Nat):Int)]=_;rw[(tn (lo:=0) h.1).1],(vQ h.2).1,(vQ h.2).2⟩
 |1,[a,b],_,_,_=>
  refine cJ (b:=isE a&&(isN0 b&&aSaying r)) (x:= .act (.sense a.toNat b.toNat (nats r))) (by trivial) fun h=> ?_
  rw[afB,afB]at h;exact⟨rfl,by show [((a.toNat:Nat):Int),((b.toNat:Nat):Int)]=_;rw[(tn (lo:=1) h.1).1,(tn (lo:=0) h.2.1).1],(jM h.2.2).1,(jM h.2.2).2⟩
 |2,[a],_,_,_=>
  refine cJ (b:=isN a&&aSaying r) (x:= .act (.say a.toNat (nats r))) (by trivial) fun h=> ?_
  rw[afB]at h;exact⟨rfl,by show [((a.toNat:Nat):Int)]=_;rw[(tn (lo:=1) h.1).1],(jM h.2).1,(jM h.2).2⟩
 |3,[a,b],_,_,hr=>
  obtain rfl:=hr rfl;refine cJ (b:=isN a&&isN0 b) (x:= .act (.point a.toNat b.toNat)) (by trivial) fun h=> ?_
  rw[afB]at h;exact⟨rfl,by show [((a.toNat:Nat):Int),((b.toNat:Nat):Int)]=_;rw[(tn (lo:=1) h.1).1,(tn (lo:=0) h.2).1],rfl,agY⟩
 |4,[a,b,c],_,_,hr=>
  obtain rfl:=hr rfl;refine cJ (b:=isN a&&(isE b&&isN0 c)) (x:= .act (.moveSense a.toNat b.toNat c.toNat)) (by trivial) fun h=> ?_
  rw[afB,afB]at h;exact⟨rfl,by show [((a.toNat:Nat):Int),((b.toNat:Nat):Int),((c.toNat:Nat):Int)]=_;rw[(tn (lo:=1) h.1).1,(tn (lo:=1) h.2.1).1,(tn (lo:=0) h.2.2).1],rfl,(tn (lo:=1) h.1).2⟩
 |5,[a,b],_,_,hr=>
  obtain rfl:=hr rfl;refine cJ (b:=isE a&&isE0 b) (x:= .act (.moveEntry a.toNat b.toNat)) (by trivial) fun h=> ?_
  rw[afB]at h;exact⟨rfl,by show [((a.toNat:Nat):Int),((b.toNat:Nat):Int)]=_;rw[(tn (lo:=1) h.1).1,(tn (lo:=0) h.2).1],rfl,(tn (lo:=1) h.1).2⟩
 |6,[a],_,_,hr=>
  obtain rfl:=hr rfl;refine cJ (b:=isN a) (x:= .act (.dropSense a.toNat)) (by trivial) fun h=> ?_
  exact⟨rfl,by show [((a.toNat:Nat):Int)]=_;rw[(tn (lo:=1) h).1],rfl,agY⟩
 |7,[a],_,_,hr=>
  obtain rfl:=hr rfl;refine cJ (b:=isE a) (x:= .act (.dropEntry a.toNat)) (by trivial) fun h=> ?_
  exact⟨rfl,by show [((a.toNat:Nat):Int)]=_;rw[(tn (lo:=1) h).1],rfl,agY⟩
 |8,[a,b],_,_,_=>
  refine cJ (b:=isK a&&(isN b&&aSaying r)) (x:= .act (.erratum a.toNat b.toNat (nats r))) (by trivial) fun h=> ?_
  rw[afB,afB]at h;exact⟨rfl,by show [((a.toNat:Nat):Int),((b.toNat:Nat):Int)]=_;rw[(tn (lo:=1) h.1).1,(tn (lo:=1) h.2.1).1],(jM h.2.2).1,(tn (lo:=1) h.1).2,(jM h.2.2).2⟩
 |9,[],_,_,hr=>
  obtain rfl:=hr rfl;exact .inl ⟨rfl,.freeze,rfl,rfl,rfl,rfl,agY⟩
 |10,[a],_,_,hr=>
  obtain rfl:=hr rfl;refine cJ (b:=isK0 a) (x:= .printed a.toNat) (by trivial) fun h=> ?_
  exact⟨rfl,by show [((a.toNat:Nat):Int)]=_;rw[(tn (lo:=0) h).1],rfl,agY⟩
 |11,[a],_,_,hr=>
  obtain rfl:=hr rfl;refine cJ (b:=isK a) (x:= .corrected a.toNat) (by trivial) fun h=> ?_
  exact⟨rfl,by show [((a.toNat:Nat):Int)]=_;rw[(tn (lo:=1) h).1],rfl,(tn (lo:=1) h).2⟩
 |12,[a,b],_,_,hr=>
  obtain rfl:=hr rfl;refine cJ (b:=isK0 a&&isK0 b) (x:= .changes a.toNat b.toNat) (by trivial) fun h=> ?_
  rw[afB]at h;exact⟨rfl,by show [((a.toNat:Nat):Int),((b.toNat:Nat):Int)]=_;rw[(tn (lo:=0) h.1).1,(tn (lo:=0) h.2).1],rfl,agY⟩
 |13,[a],_,_,_=>
  refine cJ (b:=isK0 a&&decide (r.length<=3000)) (x:= .patch a.toNat r) (by trivial) fun h=> ?_
  rw[afB]at h;exact⟨rfl,by show [((a.toNat:Nat):Int)]=_;rw[(tn (lo:=0) h.1).1],rfl,(afh h.2:r.length<=3000)⟩
 |14,[a,b],_,_,hr=>
  obtain rfl:=hr rfl;refine cJ (b:=isK0 a&&isN b) (x:= .number a.toNat b.toNat) (by trivial) fun h=> ?_
  rw[afB]at h;exact⟨rfl,by show [((a.toNat:Nat):Int),((b.toNat:Nat):Int)]=_;rw[(tn (lo:=0) h.1).1,(tn (lo:=1) h.2).1],rfl,agY⟩
 |15,[a,b,c],_,_,hr=>
  obtain rfl:=hr rfl;refine cJ (b:=isK0 a&&(isE b&&isN c)) (x:= .name a.toNat b.toNat c.toNat) (by trivial) fun h=> ?_
  rw[afB,afB]at h;exact⟨rfl,by show [((a.toNat:Nat):Int),((b.toNat:Nat):Int),((c.toNat:Nat):Int)]=_;rw[(tn (lo:=0) h.1).1,(tn (lo:=1) h.2.1).1,(tn (lo:=1) h.2.2).1],rfl,(tn (lo:=1) h.2.1).2,(tn (lo:=1) h.2.2).2⟩
 |16,[a,b,c,d],_,_,hr=>
  obtain rfl:=hr rfl;refine cJ (b:=isK0 a&&(isE b&&(isN c&&isK0 d))) (x:= .carry a.toNat b.toNat c.toNat d.toNat) (by trivial) fun h=> ?_
  rw[afB,afB,afB]at h;exact⟨rfl,by show [((a.toNat:Nat):Int),((b.toNat:Nat):Int),((c.toNat:Nat):Int),((d.toNat:Nat):Int)]=_;rw[(tn (lo:=0) h.1).1,(tn (lo:=1) h.2.1).1,(tn (lo:=1) h.2.2.1).1,(tn (lo:=0) h.2.2.2).1],rfl,(tn (lo:=1) h.2.1).2,(tn (lo:=1) h.2.2.1).2⟩
 |17,[a],_,_,hr=>
  obtain rfl:=hr rfl;refine cJ (b:=isK0 a) (x:= .pointers a.toNat) (by trivial) fun h=> ?_
  exact⟨rfl,by show [((a.toNat:Nat):Int)]=_;rw[(tn (lo:=0) h).1],rfl,agY⟩
 |18,[a],_,_,hr=>
  obtain rfl:=hr rfl;refine cJ (b:=isK0 a) (x:= .dead a.toNat) (by trivial) fun h=> ?_
  exact⟨rfl,by show [((a.toNat:Nat):Int)]=_;rw[(tn (lo:=0) h).1],rfl,agY⟩
 |19,[a,b],_,_,hr=>
  obtain rfl:=hr rfl;refine cJ (b:=isK0 a&&isN b) (x:= .blame a.toNat b.toNat) (by trivial) fun h=> ?_
  rw[afB]at h;exact⟨rfl,by show [((a.toNat:Nat):Int),((b.toNat:Nat):Int)]=_;rw[(tn (lo:=0) h.1).1,(tn (lo:=1) h.2).1],rfl,agY⟩
 |20,[],_,_,_=>
  refine cJ (b:=decide (r.length<=3000)&&r.all fun c=>inside c 0 255) (x:= .check r) ?_ fun h=> ?_
  .show _=(true&&(decide (0<=r.length/\r.length<=3000)&&r.all fun c=>p8 (c,0,255)));simp[my]
  .rw[afB,af6]at h;exact⟨rfl,rfl,rfl,afh h.1,fun c hc=>gW.mp (h.2 c hc)⟩
 |21,[a],_,_,hr=>
  obtain rfl:=hr rfl;refine cJ (b:=isK a) (x:= .errata a.toNat) (by trivial) fun h=> ?_
  exact⟨rfl,by show [((a.toNat:Nat):Int)]=_;rw[(tn (lo:=1) h).1],rfl,(tn (lo:=1) h).2⟩
 |22,[a],_,_,hr=>
  obtain rfl:=hr rfl;refine cJ (b:=inside a 1 200) (x:= .line a.toNat) (by trivial) fun h=> ?_
  exact⟨rfl,by show [((a.toNat:Nat):Int)]=_;rw[(tn (lo:=1) h).1],rfl,(tn (lo:=1) h).2⟩
 |23,[a],_,_,hr=>
  obtain rfl:=hr rfl;refine cJ (b:=isK0 a) (x:= .size a.toNat) (by trivial) fun h=> ?_
  exact⟨rfl,by show [((a.toNat:Nat):Int)]=_;rw[(tn (lo:=0) h).1],rfl,agY⟩
 |24,[],_,_,hr=>
  obtain rfl:=hr rfl;exact .inl ⟨rfl,.state,rfl,rfl,rfl,rfl,agY⟩
 |p+25,_,hp,_,_=>exact absurd hp (by omega)
theorem AR{p:Int}{k:Nat}(h:aiB p=some (n,k)):∃q:Nat,q<25/\p=(q:Int)/\n=(rg q).length/\k=if fG q=true then 1 else 0:=by
 have h0:0<=p/\p<25:=by
  refine agA fun z=> ?_
  have hz:∀q:Nat,q<25->¬p=(q:Int):=fun q hq e=>z (by omega)
  have:aiB p=none:=by
   unfold aiB;rw[afe (show¬p=0 from hz 0 (by decide)),afe (show¬p=1 from hz 1 (by decide)),afe (show¬p=2 from hz 2 (by decide)),afe (show¬p=3 from hz 3 (by decide)),afe (show¬p=4 from hz 4 (by decide)),afe (show¬p=5 from hz 5 (by decide)),afe (show¬p=6 from hz 6 (by decide)),afe (show¬p=7 from hz 7 (by decide)),afe (show¬p=8 from hz 8 (by decide)),afe (show¬p=9 from hz 9 (by decide)),afe (show¬p=10 from hz 10 (by decide)),afe (show¬p=11 from hz 11 (by decide)),afe (show¬p=12 from hz 12 (by decide)),afe (show¬p=13 from hz 13 (by decide)),afe (show¬p=14 from hz 14 (by decide)),afe (show¬p=15 from hz 15 (by decide)),afe (show¬p=16 from hz 16 (by decide)),afe (show¬p=17 from hz 17 (by decide)),afe (show¬p=18 from hz 18 (by decide)),afe (show¬p=19 from hz 19 (by decide)),afe (show¬p=20 from hz 20 (by decide)),afe (show¬p=21 from hz 21 (by decide)),afe (show¬p=22 from hz 22 (by decide)),afe (show¬p=23 from hz 23 (by decide)),afe (show¬p=24 from hz 24 (by decide))]
  rw[this]at h;cases h
 obtain⟨q,rfl⟩:∃q:Nat,p=(q:Int):=⟨p.toNat,by omega⟩;have hq:q<25:=by omega
 refine⟨q,hq,rfl,?_⟩;have:∀q<25,aiB ((q:Nat):Int)=some ((rg q).length,if fG q=true then 1 else 0):=by decide+kernel
 rw[this q hq]at h;injection h with h
 injection h with h1 h2
 exact⟨h1.symm,h2.symm⟩
def df(p:Nat)(r:List Int):List Int:=if fG p=true then(r.length:Int)::r else []
structure jT(l:List Int)(p:Nat)(ns r t:List Int):Prop where
 lt:p<25
 len:ns.length=(rg p).length
 no:fG p=false->r=[]
 eq:l=(p:Int)::(ns++df p r++t)
theorem Dz{l t:List Int}{c:List (List Int)}(h:anR aiB l=some (c,t)):∃(p:Nat) (ns r:List Int),jT l p ns r t/\c=jL p ns r:=by
 cases l with
 |nil=>cases h
 |cons p l=>
  simp only[anR]at h;split at h
  .cases h
  .rename_i n k hs;obtain⟨q,hq,rfl,hn,hk⟩:=AR hs;by_cases hl:l.length<n
   .rw[afj hl]at h;cases h
   .rw[afe hl]at h;have M8:(l.take n).length=(rg q).length:=by rw[afY];omega
    cases hb:fG q with
    |false=>
     rw[hb,afe (by decide)]at hk;subst hk;unfold amy at h;injection h with h
     injection h with h1 h2
     refine⟨q,l.take n,[],⟨hq,M8,fun _=>rfl,?_⟩,?_⟩
     .unfold df;rw[hb,afe (by decide),af7,<-h2,agK]
     .unfold jL;rw[hb,afe (by decide)];exact h1.symm
    |true=>
     rw[hb,afj rfl]at hk;subst hk;unfold amy at h;cases hd:l.drop n with
     |nil=>rw[hd]at h;cases h
     |cons m r=>
      rw[hd]at h;by_cases hm:0<=m/\m.toNat<=r.length
      .have:an1 (m::r)=some (r.take m.toNat,r.drop m.toNat):=by show(if _ then _ else _)=_;rw[afj hm]
       rw[this]at h;simp only[amy]at h;injection h with h
       injection h with h1 h2
       refine⟨q,l.take n,r.take m.toNat,⟨hq,M8,(by rw[hb];intro z;cases z),?_⟩,?_⟩
       .unfold df;rw[hb,afj rfl,<-h2,afY,ahJ hm.2,show((m.toNat:Nat):Int)=m by omega,afS,ahb,agK,<-hd,agK]
       .unfold jL;rw[hb,afj rfl];exact h1.symm
      .have:an1 (m::r)=none:=by show(if _ then _ else _)=_;rw[afe hm]
       rw[this]at h;cases h
inductive kG:List Int->List (List (List Int))->Prop
 |nil:kG [] []
 |cons {l t ns r:List Int} {p:Nat} {cs:List (List (List Int))}:jT l p ns r t->kG t cs->kG l (jL p ns r::cs)
theorem AH:∀{f:Nat} {l:List Int} {cs:List (List (List Int))},ame aiB f l=some cs->kG l cs
 |f,[],cs,h=>by
  unfold ame at h;injection h with h
  subst h;exact .nil
 |0,_::_,_,h=>by cases h
 |f+1,p::r,cs,h=>by
  simp only[ame]at h;split at h
  .cases h
  .rename_i c t hc;split at h
   .cases h
   .rename_i Yp hs;injection h with h
    subst h;obtain⟨q,ns,r',h1,rfl⟩:=Dz hc;exact .cons h1 (AH hs)
theorem Fl(p:Nat)(ns r:List Int)(hp:p<25)(hn:ns.length=(rg p).length):als (jL p ns r)=jL p ns r:=match p,ns,hp,hn with
 |0,[_],_,_=>rfl
 |1,[_,_],_,_=>rfl
 |2,[_],_,_=>rfl
 |3,[_,_],_,_=>rfl
 |4,[_,_,_],_,_=>rfl
 |5,[_,_],_,_=>rfl
 |6,[_],_,_=>rfl
 |7,[_],_,_=>rfl
 |8,[_,_],_,_=>rfl
 |9,[],_,_=>rfl
 |10,[_],_,_=>rfl
 |11,[_],_,_=>rfl
 |12,[_,_],_,_=>rfl
 |13,[_],_,_=>rfl
 |14,[_,_],_,_=>rfl
 |15,[_,_,_],_,_=>rfl
 |16,[_,_,_,_],_,_=>rfl
 |17,[_],_,_=>rfl
 |18,[_],_,_=>rfl
 |19,[_,_],_,_=>rfl
 |20,[],_,_=>rfl
 |21,[_],_,_=>rfl
 |22,[_],_,_=>rfl
 |23,[_],_,_=>rfl
 |24,[],_,_=>rfl
 |p+25,_,hp,_=>absurd hp (by omega)
theorem kG.whole{l:List Int}{cs:List (List (List Int))}(h:kG l cs):cs.map als=cs:=by
 induction h with
 |nil=>rfl
 |cons h _ ih=>rw[agb,ih,Fl _ _ _ h.lt h.len]
def iB(s:afn)(cs:List (List (List Int))):List Int:=anS (anq ahB s cs)
theorem uA(s:afn)(c:List (List Int))(cs:List (List (List Int))):iB s (c::cs)=((ahB s c).2.length:Int)::(ahB s c).2++iB (ahB s c).1 cs:=rfl
theorem zV{l:List Int}(h:ajk l=true):∃cs,kG l cs/\ajt l=iB start cs/\(iB start cs).length<=10000000:=by
 unfold ajk at h;split at h
 .cases h
 .rename_i raw hr;rw[afB]at h;have e:ajt l=iB start raw:=by
   unfold ajt PyVbdhag.calls;rw[hr];show anS (anq an2 anV (raw.map als))=_;rw[(AH hr).whole];rfl
  exact⟨raw,AH hr,e,by rw[<-e];exact afh h.2⟩
def zR(l:List Int):Prop:=∃k a b c n r,l=k::a::b::c::n::r/\NV k a b c n r
theorem Hi{l:List Int}(h0:l≠ [])(h:¬zR l)(f:Nat):ag7 (f+1) l=none:=by
 by_cases h5:l.length<5
 .exact FJ h0 h5
 .match l,h5,h with
  |k::a::b::c::n::r,_,h=>exact JV fun z=>h ⟨k,a,b,c,n,r,rfl,z⟩
  | [],h5,_=>exact absurd (by decide) h5
  | [_],h5,_=>exact absurd (show 1<5 by decide) h5
  | [_,_],h5,_=>exact absurd (show 2<5 by decide) h5
  | [_,_,_],h5,_=>exact absurd (show 3<5 by decide) h5
  | [_,_,_,_],h5,_=>exact absurd (show 4<5 by decide) h5
theorem Bj:∀{f:Nat} {l:List Int} {ds:List agZ},ag7 f l=some ds->l=ds.flatMap ags/\∀d∈ds,TM d
 |f,[],ds,h=>by
  have:some []=some ds:=by rw[<-h];cases f<;>rfl
  injection this with this
  subst this;exact⟨rfl,fun d hd=>nomatch hd⟩
 |0,_::_,_,h=>by cases h
 |f+1,x::l,ds,h=>by
  by_cases q:zR (x::l)
  .obtain⟨k,a,b,c,n,r,e,ok⟩:=q;obtain⟨d,h1,h2,h3⟩:=Bk (f:=f) ok;rw[e,h3]at h;cases hr:ag7 f (r.drop n.toNat)with
   |none=>rw[hr]at h;cases h
   |some ds'=>
    rw[hr]at h;obtain⟨h4,h5⟩:=Bj hr;have h6:d::ds'=ds:=afv h;subst h6;refine⟨by rw[e,h1,agi,<-h4],fun y hy=> ?_⟩;rcases afx.mp hy with z|z
    .rw[z];exact h2
    .exact h5 y z
  .rw[Hi (by simp) q]at h;cases h
theorem uS:∀ds:List agZ,5*ds.length<=(ds.flatMap ags).length
 | []=>afp _
 |d::ds=>by
  have:=uS ds;have:=zw d;rw[agi,afc,afr];omega
theorem Mg(d:agZ)(t:List Int):∃a b c:Nat,ji d=[a,b,c]/\ags d++t=nat (kh d)::nat a::nat b::nat c::nat (dj d).length::((dj d).map nat++t):=by
 cases d<;>exact⟨_,_,_,rfl,rfl⟩
abbrev Ch:=Nat×List Nat
def ef(bj:Nat)(r:List Ch):Ch:=r.foldl (fun(a:Ch) c=>if bj<c.2.headD 0/\a.1<c.1 then c else a) (0,[])
theorem qi(x:Nat)(l:List Nat):chains (x::l)=((ef x (chains l)).1+1,x::(ef x (chains l)).2)::chains l:=rfl
theorem lP(bj:Nat):∀(r:List Ch) (a:Ch),r.foldl (fun(a:Ch) c=>if bj<c.2.headD 0/\a.1<c.1 then c else a) a=if a.1<(ef bj r).1 then ef bj r else a
 | [],a=>by
  show a=if a.1<0 then _ else a
  rw[afe (aim _)]
 |c::r,a=>by
  have e0:ef bj (c::r)=r.foldl (fun(a:Ch) c=>if bj<c.2.headD 0/\a.1<c.1 then c else a) (if bj<c.2.headD 0/\0<c.1 then c else(0,[])):=rfl;rw[ail,lP bj r,e0,lP bj r];clear e0;generalize ef bj r=t;generalize c.2.headD 0=q;by_cases h:bj<q<;>by_cases h1:a.1<c.1<;>by_cases h3:0<c.1<;>by_cases h2:c.1<t.1<;>by_cases h4:a.1<t.1<;>by_cases h5:0<t.1<;>first
   |(exfalso;omega)
   |simp[h,h1,h2,h3,h4,h5]
def pJ:Nat->Nat->List Nat->List Nat
 |_,_,[]=> []
 |w,bj,x::l=>if(ef x (chains l)).1+1=w/\bj<x then x::pJ (w-1) x l else pJ w bj l
theorem uE(bj x:Nat)(l:List Nat):ef bj (chains (x::l))=if bj<x/\¬(ef x (chains l)).1+1<(ef bj (chains l)).1 then((ef x (chains l)).1+1,x::(ef x (chains l)).2)else ef bj (chains l):=by
 rw[qi];have e0:ef bj (((ef x (chains l)).1+1,x::(ef x (chains l)).2)::chains l)=(chains l).foldl (fun(a:Ch) c=>if bj<c.2.headD 0/\a.1<c.1 then c else a) (if bj<x/\0<(ef x (chains l)).1+1 then((ef x (chains l)).1+1,x::(ef x (chains l)).2)else(0,[])):=rfl;rw[e0,lP];by_cases h:bj<x
 .rw[afj (show bj<x/\0<(ef x (chains l)).1+1 from⟨h,aiF _⟩)];by_cases h2:(ef x (chains l)).1+1<(ef bj (chains l)).1
  .rw[afj h2,afe (fun z=>z.2 h2)]
  .rw[afe h2,afj ⟨h,h2⟩]
 .rw[afe (show¬(bj<x/\0<(ef x (chains l)).1+1)from fun z=>h z.1),afe (show¬(bj<x/\¬(ef x (chains l)).1+1<(ef bj (chains l)).1)from fun z=>h z.1)];by_cases h2:0<(ef bj (chains l)).1
  .exact afj h2
  .have hz:ef bj (chains l)=(0,[]):=by
    have:=lP bj (chains l) (0,[]);rw[afe h2]at this;exact this
   rw[hz];rfl
theorem pK:∀(l:List Nat) (bj:Nat),pJ (ef bj (chains l)).1 bj l=(ef bj (chains l)).2
 | [],_=>rfl
 |x::l,bj=>by
  rw[uE];show(if(ef x (chains l)).1+1=_/\bj<x then _ else _)=_;by_cases h:bj<x/\¬(ef x (chains l)).1+1<(ef bj (chains l)).1
  .rw[afj h,afj (show(ef x (chains l)).1+1=((ef x (chains l)).1+1,x::(ef x (chains l)).2).1/\bj<x from⟨rfl,h.1⟩)];show x::pJ ((ef x (chains l)).1+1-1) x l=x::_;rw[ahV,pK l x]
  .rw[afe h,pK l bj,afe];rintro⟨h1,h2⟩;exact h ⟨h2,by omega⟩
theorem mI:∀(l:List Nat) (c:Ch),c∈chains l->c.2.headD 0∈l/\0<c.1
 | [],_,h=>nomatch h
 |x::l,c,h=>by
  rw[qi]at h;rcases afx.mp h with e|h
  .rw[e];exact⟨af5,aiF _⟩
  .exact⟨afu _ (mI l c h).1,(mI l c h).2⟩
theorem wI(h:∀x∈l,0<x):longest l=(ef 0 (chains l)).2:=by
 unfold longest ef;have:∀(r:List Ch) (a:Ch),(∀c∈r,0<c.2.headD 0)->r.foldl (fun(a:Ch) c=>if a.1<c.1 then c else a) a=r.foldl (fun(a:Ch) c=>if 0<c.2.headD 0/\a.1<c.1 then c else a) a:=by
  intro r
  induction r with
  |nil=>intro a _;rfl
  |cons c r ih=>
   intro a hr;rw[ail,ail];have hc:=hr c af5;have e:(if a.1<c.1 then c else a)=if 0<c.2.headD 0/\a.1<c.1 then c else a:=by
    by_cases q:a.1<c.1
    .rw[afj q,afj ⟨hc,q⟩]
    .rw[afe q,afe fun z=>q z.2]
   rw[e];exact ih _ fun c hc=>hr c (afu _ hc)
 rw[this (chains l) (0,[]) fun c hc=>h _ (mI l c hc).1]
theorem sv(h:∀x∈l,0<x):longest l=pJ (ef 0 (chains l)).1 0 l:=by
 rw[wI h,pK]
def dZ(l:List Nat):List Nat:=(chains l).map (·.1)
theorem l7(x:Nat)(l:List Nat):dZ (x::l)=((ef x (chains l)).1+1)::dZ l:=rfl
theorem jh:∀l:List Nat,(dZ l).length=l.length
 | []=>rfl
 |x::l=>by rw[l7,afr,afr,jh l]
def ja(bj:Nat):List Nat->List Nat->Nat
 |x::l,n::ns=>if bj<x then max n (ja bj l ns)else ja bj l ns
 |_,_=>0
theorem rG(bj:Nat):∀l:List Nat,(ef bj (chains l)).1=ja bj l (dZ l)
 | []=>rfl
 |x::l=>by
  rw[uE,l7];show _=if bj<x then max _ (ja bj l (dZ l))else ja bj l (dZ l)
  rw[<-rG bj l];by_cases h:bj<x
  .rw[afj h];by_cases h2:(ef x (chains l)).1+1<(ef bj (chains l)).1
   .rw[afe (fun z=>z.2 h2)];omega
   .rw[afj ⟨h,h2⟩];show _+1=_;omega
  .rw[afe h,afe (fun z=>h z.1)]
theorem oz(x:Nat)(l:List Nat):dZ (x::l)=(ja x l (dZ l)+1)::dZ l:=by rw[l7,rG]
def iQ:Nat->Nat->List Nat->List Nat->List Nat
 |w,bj,x::l,n::ns=>if n=w/\bj<x then x::iQ (w-1) x l ns else iQ w bj l ns
 |_,_,_,_=> []
theorem mV:∀(l:List Nat) (w bj:Nat),iQ w bj l (dZ l)=pJ w bj l
 | [],_,_=>rfl
 |x::l,w,bj=>by
  rw[l7];show(if(ef x (chains l)).1+1=w/\bj<x then _ else _)=(if(ef x (chains l)).1+1=w/\bj<x then _ else _);rw[mV l,mV l]
theorem vH:∀(l ns:List Nat),(∀x∈l,0<x)->l.length=ns.length->ja 0 l ns=ns.foldr max 0
 | [],[],_,_=>rfl
 |x::l,n::ns,h,hl=>by
  show(if 0<x then max n _ else _)=max n (ns.foldr max 0);rw[afj (h x af5),vH l ns (fun y hy=>h y (afu _ hy)) (by simpa using hl)]
 | [],_::_,_,hl=>by simp at hl
 |_::_,[],_,hl=>by simp at hl
theorem D5(h:∀x∈l,0<x):longest l=iQ ((dZ l).foldr max 0) 0 l (dZ l):=by
 rw[mV,sv h,rG,vH l (dZ l) h (jh l).symm]
theorem jk{new:List Nat}(hn:new.Nodup)(h:new[i]? =some n):agp new n=i+1:=by
 unfold agp;have:new.findIdx? (fun y=>y==n)=some i:=by
  rw[List.findIdx?_eq_some_iff_getElem];obtain⟨hi,e⟩:=aff.mp h;refine⟨hi,by simp[e],fun j hj=> ?_⟩;have hj':j<new.length:=by omega
  have:¬new[j]=n:=fun z=>by
   have:=(ajq hn).mp (z.trans e.symm);omega
  simpa using this
 rw[this]
theorem iS{new:List Nat}(hn:new.Nodup)(h:n∈new):new[agp new n-1]? =some n/\0<agp new n:=by
 obtain⟨i,hi⟩:=agc h;rw[jk hn hi];exact⟨by simpa using hi,aiF _⟩
def jo:Nat->Nat->List Nat->List Nat->List Nat->List Nat
 |w,bj,c::cs,x::l,n::ns=>if n=w/\bj<x then c::jo (w-1) x cs l ns else jo w bj cs l ns
 |_,_,_,_,_=> []
theorem tP(f:Nat->Nat)(g:Nat->Nat):∀(cs ns:List Nat) (w bj:Nat),(∀c∈cs,g (f c)=c)->(iQ w bj (cs.map f) ns).map g=jo w bj cs (cs.map f) ns
 | [],_,_,_,_=>by unfold iQ jo;rfl
 |c::cs,[],_,_,_=>by unfold iQ jo;rfl
 |c::cs,n::ns,w,bj,h=>by
  rw[agb];show(if n=w/\bj<f c then f c::iQ (w-1) (f c) (cs.map f) ns else iQ w bj (cs.map f) ns).map g=(if n=w/\bj<f c then c::jo (w-1) (f c) cs (cs.map f) ns else jo w bj cs (cs.map f) ns);have ht:∀c∈cs,g (f c)=c:=fun c hc=>h c (afu _ hc)
  split
  .rw[agb,h c af5,tP f g cs ns _ _ ht]
  .exact tP f g cs ns _ _ ht
theorem DW{old new:List Nat}(hn:new.Nodup):kept old new=jo ((dZ ((old.filter new.contains).map (agp new))).foldr max 0) 0 (old.filter new.contains) ((old.filter new.contains).map (agp new)) (dZ ((old.filter new.contains).map (agp new))):=by
 have hm:∀c∈old.filter new.contains,c∈new:=fun c hc=>by simpa using(afO.mp hc).2
 have Af:∀x∈(old.filter new.contains).map (agp new),0<x:=fun x hx=>by
  obtain⟨c,hc,rfl⟩:=afJ.mp hx;exact(iS hn (hm c hc)).2
 unfold kept;rw[D5 Af];refine tP (agp new) (fun i=>(new[i-1]?).getD 0) (old.filter new.contains) _ _ _ fun c hc=> ?_
 show(new[agp new c-1]?).getD 0=c;rw[(iS hn (hm c hc)).1];rfl
theorem GQ [Decidable p] [Decidable q]{α:Type}{x x' y y':α}(h:p↔q)(hx:x=x')(hy:y=y'):(if p then x else y)=if q then x' else y':=by
 by_cases z:p
 .rw[afj z,afj (h.mp z),hx]
 .rw[afe z,afe (fun y=>z (h.mpr y)),hy]
theorem Sm [Decidable p] [Decidable q]{α:Type}{x y:α}:(if p then x else if q then x else y)=if p\/q then x else y:=by
 by_cases z:p
 .rw[afj z,afj (.inl z)]
 .rw[afe z];exact GQ ⟨.inr,fun h=>h.resolve_left z⟩ rfl rfl
theorem UA [Decidable p] [Decidable q]{o o':Option Int}(c:Int)(h:p↔q)(ho:o=o'):((if p then some c else none:Option Int).orElse fun _=>o)=if q then some c else o':=by
 by_cases z:p
 .rw[afj z,afj (h.mp z)];rfl
 .rw[afe z,afe (fun y=>z (h.mpr y))];exact ho
theorem QW:(a≠0/\(¬p\/a=0))↔¬(a=0\/p):=by
 constructor
 .rintro⟨h1,h2|h2⟩ (z|z)
  .exact h1 z
  .exact h2 z
  .exact h1 h2
  .exact h1 h2
 .intro h;exact⟨fun z=>h (.inl z),.inl fun z=>h (.inr z)⟩
theorem QX(h0:n≠0):(a≠0/\(¬p\/a=n))↔(a=n\/¬(a=0\/p)):=by
 constructor
 .rintro⟨h1,h2|h2⟩
  .exact .inr fun z=>z.elim h1 h2
  .exact .inl h2
 .rintro(h|h)
  .exact⟨by omega,.inr h⟩
  .exact⟨fun z=>h (.inl z),.inl fun z=>h (.inr z)⟩
theorem pE:l.contains a=false↔¬a∈l:=by simp
section
variable(S:afn)
theorem ua(a:Nat)(w:ahc):ai2 S (.entry a w)=if¬(a=0\/a∈names (agC S.log))then some (-7)else if 20<=(run S.log).2.1\/200<=S.log.length then some (-4)else none:=
 UA _ (amu (alD ajg (alp cg ajg)) QW) Sm
theorem pj(e a:Nat)(t:ahc):ai2 S (.sense e a t)=if¬e∈names (agC S.log)then some (-5)else if¬(a=0\/a∈(entryAt (agC S.log) e).senses)then some (-7)else if 50<=(run S.log).2.2\/200<=S.log.length then some (-4)else none:=
 GQ cg rfl (UA _ (amu (alD ajg (alp pE ajg)) QW) Sm)
theorem Bg(n:Nat)(t:ahc):ai2 S (.say n t)=if¬n∈aD (agC S.log)then some (-6)else if 200<=S.log.length then some (-4)else none:=GQ dF rfl rfl
theorem ph(n t:Nat):ai2 S (.point n t)=if¬n∈aD (agC S.log)\/(t≠0/\¬t∈aD (agC S.log))then some (-6)else if 200<=S.log.length then some (-4)else none:=GQ (alp dF (alD ajg dF)) rfl rfl
theorem Js(n e a:Nat)(n0:n≠0):ai2 S (.moveSense n e a)=if¬n∈aD (agC S.log)then some (-6)else if¬e∈names (agC S.log)then some (-5)else if a=n\/¬(a=0\/a∈(entryAt (agC S.log) e).senses)then some (-7)else if 200<=S.log.length then some (-4)else none:=
 GQ dF rfl (GQ cg rfl (UA _ (amu (alD ajg (alp pE ajg)) (QX n0)) rfl))
theorem Jr(e a:Nat)(e0:e≠0):ai2 S (.moveEntry e a)=if¬e∈names (agC S.log)then some (-5)else if a=e\/¬(a=0\/a∈names (agC S.log))then some (-7)else if 200<=S.log.length then some (-4)else none:=
 GQ cg rfl (UA _ (amu (alD ajg (alp cg ajg)) (QX e0)) rfl)
theorem t9(n:Nat):ai2 S (.dropSense n)=if¬n∈aD (agC S.log)then some (-6)else if 200<=S.log.length then some (-4)else none:=GQ dF rfl rfl
theorem tZ(e:Nat):ai2 S (.dropEntry e)=if¬e∈names (agC S.log)then some (-5)else if 200<=S.log.length then some (-4)else none:=GQ cg rfl rfl
theorem P8(k n:Nat)(t:ahc):ai2 S (.erratum k n t)=if¬k<=S.editions.length then some (-8)else if¬n∈aD (book S k)then some (-6)else if 200<=S.log.length then some (-4)else none:=GQ (by omega) rfl (GQ dF rfl rfl)
end
def bg(a b:aga):List Nat:=(a.entries.filter fun x=>agn b x.name).flatMap fun x=>x.senses
theorem jg(a b:aga)(w:WF a):bg a b=(afF a).filter fun n=>agn b (agz a n):=by
 unfold bg afF;have:∀l:List afo,(∀x∈l,x∈a.entries)->(l.filter fun x=>agn b x.name).flatMap (fun x=>x.senses)=(l.flatMap fun x=>x.senses).filter fun n=>agn b (agz a n):=by
  intro l
  induction l with
  |nil=>intro _;rfl
  |cons x l ih=>
   intro h;have hx:=h x af5;rw[agi,agl,<-ih fun y hy=>h y (afu _ hy),afU];by_cases e:agn b x.name=true
   .rw[afj e,agi];have e2:(x.senses.filter fun n=>agn b (agz a n))=x.senses:=by
     rw[aiJ];intro n hn;rw[gv w hx hn];exact e
    rw[e2]
   .rw[afe e];have e2:(x.senses.filter fun n=>agn b (agz a n))=[]:=by
     rw[List.filter_eq_nil_iff];intro n hn;rw[gv w hx hn];exact e
    rw[e2,agV]
 exact this a.entries fun x hx=>hx
theorem kZ{a:aga}(w:WF a)(wb:WF b):n∈bg a b↔ahL a n=true/\agn b (agz a n)=true:=by
 rw[jg a b w,afO,eC,w.same n]
theorem gL:l.contains n=true↔n∈l:=by simp
def B0(a b:aga)(k:List Nat):Nat->List afo->List agZ
 |_,[]=> []
 |fQ,x::r=>(if k.contains x.name=true then []else [if agn a x.name=true then .moveEntry x.name fQ else .newEntry x.name fQ x.word])++B0 a b k x.name r
theorem GF(a b:aga)(wb:WF b)(k:List Nat):∀(l:List afo) (fQ:Nat),(∀x∈l,x∈b.entries)->
  (placed (agu a) (agu b) k fQ (l.map fun x=>x.name)).map (fun x=>if x.2.2=true then aic x.1 x.2.1 else .newEntry x.1 x.2.1 (entryAt b x.1).word)=B0 a b k fQ l
 | [],_,_=>rfl
 |x::l,fQ,h=>by
  have hx:=h x af5;have ih:=GF a b wb k l x.name fun y hy=>h y (afu _ hy)
  have hh:(agu a).contains x.name=agn a x.name:=by
   by_cases e:agn a x.name=true
   .rw[e];exact gL.mpr (iR.mp e)
   .have e':agn a x.name=false:=by simpa using e
    rw[e'];have:=cg.mp e';have h2:¬x.name∈agu a:=this;simpa using h2
  show((if k.contains x.name=true then []else [(x.name,fQ,(agu a).contains x.name)])++placed (agu a) (agu b) k x.name (l.map fun x=>x.name)).map _=_;rw[afD,ih,hh];show _=(if k.contains x.name=true then []else [if agn a x.name=true then aic x.name fQ else .newEntry x.name fQ x.word])++B0 a b k x.name l;by_cases e:k.contains x.name=true
  .rw[afj e,afj e];rfl
  .rw[afe e,afe e];show [if agn a x.name=true then aic x.name fQ else .newEntry x.name fQ (entryAt b x.name).word]++_=_;rw[bp wb hx]
def uV(a b:aga)(left k:List Nat)(e:Nat):Nat->List Nat->List agZ
 |_,[]=> []
 |fQ,n::r=>(if k.contains n=true then []else [if left.contains n=true then .moveSense n e fQ else .newSense n e fQ (senseAt b n).text])++uV a b left k e n r
theorem GG(a b:aga)(w:WF a)(wb:WF b)(k:List Nat)(y:afo)(old:List Nat):∀(l:List Nat) (fQ:Nat),
  (placed (afF a) old k fQ l).map (fun x=>if x.2.2=true/\agn b (agz a x.1)=true then aid x.1 y.name x.2.1 else .newSense x.1 y.name x.2.1 (senseAt b x.1).text)=uV a b (bg a b) k y.name fQ l
 | [],_=>rfl
 |n::l,fQ=>by
  have ih:=GG a b w wb k y old l n;show((if k.contains n=true then []else [(n,fQ,(afF a).contains n)])++placed (afF a) old k n l).map _=(if k.contains n=true then []else [if(bg a b).contains n=true then aid n y.name fQ else .newSense n y.name fQ (senseAt b n).text])++uV a b (bg a b) k y.name n l;rw[afD,ih];by_cases e:k.contains n=true
  .rw[afj e,afj e];rfl
  .rw[afe e,afe e];show [if(afF a).contains n=true/\agn b (agz a n)=true then aid n y.name fQ else .newSense n y.name fQ (senseAt b n).text]++_=_;have hc:((afF a).contains n=true/\agn b (agz a n)=true)↔(bg a b).contains n=true:=by
    rw[gL,gL,jg a b w,afO]
   by_cases q:(bg a b).contains n=true
   .rw[afj (hc.mpr q),afj q]
   .rw[afe (fun z=>q (hc.mp z)),afe q]
def Yo(a b:aga):List agZ:=
 ((a.entries.filter fun x=> !hasEntry b x.name).map fun x=>ahw x.name)++
 B0 a b (kept (agu a) (agu b)) 0 b.entries++
 (((bg a b).filter fun n=> !hasSense b n).map .dropSense)++
 (b.entries.flatMap fun y=>uV a b (bg a b) (kept (entryAt a y.name).senses y.senses) y.name 0 y.senses)++
 (((afF b).filter fun n=>(bg a b).contains n&&((senseAt a n).text !=(senseAt b n).text)).map fun n=> .say n (senseAt b n).text)++
 (((afF b).filter fun n=>(senseAt b n).points !=(if(bg a b).contains n=true then(senseAt a n).points else 0)).map fun n=> .point n (senseAt b n).points)
theorem Oa{a:aga}(w:WF a)(wb:WF b):amU a b=Yo a b:=by
 have hl:∀n,(bg a b).contains n=(ahL a n&&agn b (agz a n)):=fun n=>by
  by_cases q:n∈bg a b
  .rw[gL.mpr q,((kZ w wb).mp q).1,((kZ w wb).mp q).2];rfl
  .have h1:(bg a b).contains n=false:=by simpa using q
   rw[h1];cases h2:ahL a n with
   |false=>rfl
   |true=>
    cases h3:agn b (agz a n)with
    |false=>rfl
    |true=>exact absurd ((kZ w wb).mpr ⟨h2,h3⟩) q
 unfold amU Yo;dsimp only;have p1:((agu a).filter fun e=> !hasEntry b e).map ahw=(a.entries.filter fun x=> !hasEntry b x.name).map fun x=>ahw x.name:=by
  unfold agu;rw[ak6,ag6];rfl
 have p2:=GF a b wb (kept (agu a) (agu b)) b.entries 0 fun x hx=>hx
 have p3:((afF a).filter fun n=> !hasSense b n&& !((agu a).filter fun e=> !hasEntry b e).contains (agz a n))=(bg a b).filter fun n=> !hasSense b n:=by
  rw[jg a b w,alY];refine ajm fun n hn=> ?_
  have hm:=(iu w hn).1;have:((agu a).filter fun e=> !hasEntry b e).contains (agz a n)= !hasEntry b (agz a n):=by
   cases h3:agn b (agz a n)with
   |true=>
    have:¬agz a n∈(agu a).filter fun e=> !hasEntry b e:=fun z=>by
     have:=(afO.mp z).2;rw[h3]at this;exact afP this
    simpa using this
   |false=>
    exact gL.mpr (afO.mpr ⟨hm,by rw[h3];rfl⟩)
  rw[this,Bool.not_not]
 have p4:(b.entries.flatMap fun y=>(placed (afF a) y.senses (kept (entryAt a y.name).senses y.senses) 0 y.senses).map fun x=>if x.2.2=true/\agn b (agz a x.1)=true then aid x.1 y.name x.2.1 else .newSense x.1 y.name x.2.1 (senseAt b x.1).text)=b.entries.flatMap fun y=>uV a b (bg a b) (kept (entryAt a y.name).senses y.senses) y.name 0 y.senses:=by
  refine congrArg (fun f=>b.entries.flatMap f) (funext fun y=> ?_);exact GG a b w wb (kept (entryAt a y.name).senses y.senses) y y.senses y.senses 0
 have p5:((afF b).filter fun n=>ahL a n&&(agn b (agz a n)&&(senseAt a n).text !=(senseAt b n).text))=(afF b).filter fun n=>(bg a b).contains n&&((senseAt a n).text !=(senseAt b n).text):=by
  refine ajm fun n _=> ?_
  rw[hl n,amS]
 have p6:((afF b).filter fun n=>(if ahL a n=true/\agn b (agz a n)=true then(senseAt a n).points else 0) !=(senseAt b n).points)=(afF b).filter fun n=>(senseAt b n).points !=(if(bg a b).contains n=true then(senseAt a n).points else 0):=by
  refine ajm fun n _=> ?_
  rw[hl n];have:(if ahL a n=true/\agn b (agz a n)=true then(senseAt a n).points else 0)=(if(ahL a n&&agn b (agz a n))=true then(senseAt a n).points else 0):=by
   by_cases q:ahL a n=true/\agn b (agz a n)=true
   .rw[afj q,afj (by rw[q.1,q.2];rfl)]
   .rw[afe q,afe (fun z=>q ((afB _ _).mp z))]
  rw[this];exact bne_comm
 have p2':(placed (agu a) (agu b) (kept (agu a) (agu b)) 0 (agu b)).map (fun x=>if x.2.2=true then aic x.1 x.2.1 else .newEntry x.1 x.2.1 (entryAt b x.1).word)=B0 a b (kept (agu a) (agu b)) 0 b.entries:=p2;rw[p1,p2',p3,p4,p5,p6]
end FM
namespace L2
open PySem PySem.Spec PyProof.Rows
open PySem.W (Frag fnOf keepIn mg_of findIn nsIn emptyDict plainGet hasDictIn isFn makesIn codeIn plainOver)
variable{xs ys:List V}{aR us:List afg}{m name qual x:Str}{u v:afg}{H H' H1:Hp}{C a b dx it l z:afd}{o:Option V}{P prog:afA}{w:af4}{base h h':agg}{c e e2 iter tg value:agR}{X:Cx}{pins:List (afd×Obj)}{σ:St}{s s':afC}{i j kk n t':Nat}{ch fp:List afd}{N ps:List Str}{M:aj6}{A:ahF}{E Q:afg->afC->Prop}{ta td te ty:TE}{tb:TS}{R:aiH->afC->Prop}{eI p pos iH jc:Pos}{op:ajC}{y:V}{K:afW}{D:iD}{st:afR}{js es nU:List agR}{g:TG}{body:List afR}{pl:Sem Bool}{wi:TI}{mA mg:Str->Option afg}{kw:List (Str×afg)}{env:Env}{fd:afE}{CX:ue}{ds:List ahD}{kindOf:Str->Option agL}{scope:ahO}{T:String}{items:Array afg}{cells:List (Str×afd)}{own:List (Str×Nat)}{tt:TT}{aQ:List (List br×V)}
abbrev br:=Sum Int Str
def vd:br->afg->Bool
 | .inl k,v=>anH k v
 | .inr x,v=>am9 x v
def Xa(w:af4):br->Int
 | .inl k=>hashInt k
 | .inr x=>hashStr w x
theorem eE:∀{k:br} {v:afg},vd k v=true->(∃i t,k=afz i/\v=ahQ i t)\/(∃x t,k=aly x/\v=alz x t)
 | .inl i,v,h=>by
  obtain⟨t,e⟩:=Value.isInt_shape (k:=i) (v:=v) h;exact .inl ⟨i,t,rfl,e⟩
 | .inr x,v,h=>by
  obtain⟨t,e⟩:=Value.isStrOf_shape (x:=x) (v:=v) h;exact .inr ⟨x,t,rfl,e⟩
theorem DX(i:Int)(t:Tok):vd (.inl i) (.int i t)=true:=by simp[vd,anH]
theorem DY(x:Str)(t:Tok):vd (.inr x) (.str x t)=true:=by simp[vd,am9]
theorem OL(a b:Int):decide ((afz a:br)=afz b)=(a==b):=by
 by_cases e:a=b
 .subst e;simp
 .have h:¬(afz a:br)=afz b:=fun q=>e (alf q)
  rw[agd h];exact(agU.mpr e).symm
theorem OO(a b:Str):decide ((aly a:br)=aly b)=decide (a=b):=by
 by_cases e:a=b
 .subst e;simp
 .have h:¬(aly a:br)=aly b:=fun q=>e (Sum.inr.inj q)
  rw[agd h,agd e]
theorem OM(a:Int)(b:Str):decide ((afz a:br)=aly b)=false:=agd (fun q=>nomatch q)
theorem ON(a:Str)(b:Int):decide ((aly a:br)=afz b)=false:=agd (fun q=>nomatch q)
def cO(prog:afA)(w:af4):PySem.KeyKind prog w br where
 is:=vd
 hash:=Xa w
 inj:=fun v a b ha hb=>by
  rcases eE ha with⟨i,t,rfl,rfl⟩|⟨x,t,rfl,rfl⟩
  .rcases eE hb with⟨j,u,rfl,e⟩|⟨y,u,rfl,e⟩
   .injection e with e1 _;rw[e1]
   .exact nomatch e
  .rcases eE hb with⟨j,u,rfl,e⟩|⟨y,u,rfl,e⟩
   .exact nomatch e
   .injection e with e1 _;rw[e1]
 byValue:=fun k v h=>by
  rcases eE h with⟨i,t,rfl,rfl⟩|⟨x,t,rfl,rfl⟩<;>rfl
 pyHash:=fun hv h=>by
  rcases eE hv with⟨i,t,rfl,rfl⟩|⟨x,t,rfl,rfl⟩
  .exact wpAny_pyHash_int h
  .exact wpAny_pyHash_str h
 eqBool:=fun hu hv h=>by
  rcases eE hu with⟨i,t,rfl,rfl⟩|⟨x,t,rfl,rfl⟩
  .rcases eE hv with⟨j,u,rfl,rfl⟩|⟨y,u,rfl,rfl⟩
   .rw[OL]at h;exact wpAny_eqBool_int h
   .rw[OM]at h;exact alN i t y u _ _ _ _ h
  .rcases eE hv with⟨j,u,rfl,rfl⟩|⟨y,u,rfl,rfl⟩
   .rw[ON]at h;exact alO x t j u _ _ _ _ h
   .rw[OO]at h;exact wpAny_eqBool_str h
 «strs»:=fun k x t v h=>by
  rcases eE h with⟨i,u,rfl,e⟩|⟨y,u,rfl,e⟩
  .exact nomatch e
  .injection e with e1 _
   subst e1;cases v<;>rfl
theorem lh(prog:afA)(w:af4)(i:Int)(t:Tok):(cO prog w).is (.inl i) (.int i t)=true:=DX i t
theorem yP(prog:afA)(w:af4)(x:Str)(t:Tok):(cO prog w).is (.inr x) (.str x t)=true:=DY x t
inductive V where
 |gw|bl (b:Bool)|int (i:Int)|str (x:Str)|zK (b:Array UInt8)|T2 (b:UInt64)|ref (a:afd)|ty (n:String)
 deriving DecidableEq
def bE:V->afg->Prop
 | .gw,u=>u=ahS
 | .bl b,u=>u=aj7 b
 | .int i,u=>∃t,u=ahQ i t
 | .str x,u=>∃t,u=alz x t
 | .zK b,u=>∃t,u=anI b t
 | .T2 b,u=>∃t,u=anJ b t
 | .ref a,u=>u=af1 a
 | .ty n,u=>u=aiR n
abbrev bo:List V->List afg->Prop:=Paired bE
theorem bo.length{xs:List V}{us:List afg}(r:bo xs us):xs.length=us.length:=akq r
theorem bo.get:∀{xs:List V} {us:List afg} {i:Nat} {x:V},bo xs us->xs[i]? =some x->∃u,us[i]? =some u/\bE x u
 |_,_,_,_,.nil,e=>by simp at e
 |_,_,0,_,.cons r _,e=>by simp at e;subst e;exact⟨_,rfl,r⟩
 |_,_,i+1,x,.cons _ t,e=>by
  obtain⟨u,h1,h2⟩:=bo.get (i:=i) (x:=x) t (by simpa using e);exact⟨u,by simpa using h1,h2⟩
theorem bo.set{x:V}{u:afg}(r:bE x u):∀{xs:List V} {us:List afg} (i:Nat),bo xs us->bo (xs.set i x) (us.set i u)
 |_,_,_,.nil=> .nil
 |_,_,0,.cons _ t=> .cons r t
 |_,_,i+1,.cons q t=> .cons q (bo.set r i t)
theorem bo.append:∀{xs ys:List V} {us ws:List afg},bo xs us->bo ys ws->bo (xs++ys) (us++ws)
 |_,_,_,_,.nil,s=>s
 |_,_,_,_,.cons r t,s=> .cons r (bo.append t s)
theorem bo.take:∀{xs:List V} {us:List afg} (n:Nat),bo xs us->bo (xs.take n) (us.take n)
 |_,_,0,_=> .nil
 |_,_,_+1,.nil=> .nil
 |_,_,n+1,.cons r t=> .cons r (bo.take n t)
theorem bo.drop:∀{xs:List V} {us:List afg} (n:Nat),bo xs us->bo (xs.drop n) (us.drop n)
 |_,_,0,r=>r
 |_,_,_+1,.nil=> .nil
 |_,_,n+1,.cons _ t=>bo.drop n t
theorem bo.wU:∀{xs:List V} {us:List afg} {i:Nat},bo xs us->xs[i]? =none->us[i]? =none:=fun{xs us i} r e=>by
 have h1:=r.length;have h2:xs.length<=i:=ake.mp e;exact ake.mpr (by omega)
def jy:Option V->Option afg->Prop
 |some v,some u=>bE v u
 |none,none=>True
 |_,_=>False
def KV{κ:Type}:List (κ×V)->List (κ×afg)->Prop:=Paired fun(p:κ×V) (q:κ×afg)=>p.1=q.1/\bE p.2 q.2
def kV:br->V
 | .inl i=> .int i
 | .inr x=> .str x
inductive HO where
 |ba (xs:List V)
 |dY (xs:List V)
 |dK (aQ:List (br×V))|dT (aQ:List (List br×V))
 |set (S:Int->Bool) (n:Nat)
 |ins (C dx:afd) (fs:List (Str×V))
 |own (x:afd)
 |xd (fs:List (Str×V))
 |Xe (f x:afd)
 |XF (lo hi:Int)
 |uj (o:Obj) (u:HO)
 |P4 (ps:Array afg)
 |ext (φ:agg->Prop)
abbrev Hp:=afd->Option HO
def aE(H:Hp)(a:afd)(o:HO):Hp:=fun b=>if b=a then some o else H b
theorem aj{o:HO}:aE H a o a=some o:=by unfold aE;rw[afj rfl]
theorem ao{o:HO}(h:b≠a):aE H a o b=H b:=by unfold aE;rw[afe h]
theorem Nz{o u:HO}(h:H a=some o)(h':H b=some u)(d:o≠u):a≠b:=by
 intro e;subst e;rw[h]at h';exact d (afv h')
theorem ak{o:HO}(h:H a=some o)(h':H b=none):a≠b:=by
 intro e;subst e;rw[h]at h';cases h'
section
variable(P:afA)(w:af4)
def eP(H:Hp)(h:agg)(a:afd):HO->Prop
 | .ba xs=>xs.length<=sizeLine/\∃(aR:List afg) (n:Nat),bo xs aR/\h.get? a=some {cls:= .type "list",data:= .seq aR.toArray n}
 | .dY xs=>xs.length<=sizeLine/\∃aR:List afg,bo xs aR/\IsTup h a aR.toArray
 | .dK aQ=>aQ.length<=sizeLine/\(a==sysModules)=false/\∃vs,KV aQ vs/\h.DictOf (cO P w) a vs
 | .dT aQ=>aQ.length<=sizeLine/\(a==sysModules)=false/\∃xs:List (List br×afd×afg),
   Paired (fun(p:List br×V) (q:List br×afd×afg)=>p.1=q.1/\H q.2.1=some (.dY (p.1.map kV))/\bE p.2 q.2.2) aQ xs/\
   ∃o es ep,h.get? a=some o/\o.ExactDict/\o.data= .dict es ep/\es.toList=xs.map (entryOfKey (tupleKind (cO P w)))/\(xs.map (·.1)).Nodup
 | .set S n=>h.SetOf (intKind P w) a S n
 | .ins C dx fs=>H dx=some (.own a)/\fs.length<=1000/\dx≠a/\h.get? a=some (ahG C dx)/\
   ∃mA,h.Ns1 dx mA/\(∀f,jy (fs.lookup f) (mA f))/\al1 mA (fs.map (·.1))
 | .own _=>∃o,h.get? a=some o
 | .xd fs=>∃mA,h.Ns1 a mA/\∀f,jy (fs.lookup f) (mA f)
 | .XF lo hi=>∃t u v,h.get? a=some {cls:= .type "range",data:= .fields #[.int lo t,.int hi u,.int 1 v]}
 | .uj o u=>h.get? a=some o/\eP H h a u
 | .P4 ps=>h.get? a=some {cls:= .none,data:= .fields ps}
 | .Xe f x=>h.get? a=some (akk (.ref f) (.ref x))
 | .ext φ=>φ h/\(∃o,h.get? a=some o)/\∀h1 h2:agg,φ h1->(∀o,h1.get? a=some o->h2.get? a=some o)->φ h2
def kE(H:Hp)(h:agg):Prop:=∀a o,H a=some o->eP P w H h a o
end
section
variable{o:HO}
theorem eP.lt(x:eP P w H h a o):a<h.objs.size:=by
 cases o with
 |ba xs=>obtain⟨_,_,_,_,e⟩:=x;exact afV e
 |dY xs=>obtain⟨_,_,_,p⟩:=x;exact p.lt
 |dK aQ=>obtain⟨_,_,_,_,o,_,_,e,_⟩:=x;exact afV e
 |dT aQ=>obtain⟨_,_,_,_,o,_,_,e,_⟩:=x;exact afV e
 |set S n=>obtain⟨o,_,_,_,e,_⟩:=x;exact afV e
 |ins C dx fs=>obtain⟨_,_,_,e,_⟩:=x;exact afV e
 |own y=>obtain⟨_,e⟩:=x;exact afV e
 |xd fs=>obtain⟨_,⟨_,_,_,e,_⟩,_⟩:=x;exact afV e
 |XF lo hi=>obtain⟨_,_,_,e⟩:=x;exact afV e
 |uj ob u=>obtain⟨e,_⟩:=x;exact afV e
 |P4 ps=>exact afV (show h.get? a=some _ from x)
 |Xe f y=>exact afV (show h.get? a=some _ from x)
 |ext φ=>obtain⟨_,⟨_,e⟩,_⟩:=x;exact afV e
theorem Paired.OW{α β:Type}{F G:α->β->Prop}:∀{l₁:List α} {l₂:List β},Paired F l₁ l₂->(∀a b,F a b->G a b)->Paired G l₁ l₂
 |_,_,.nil,_=> .nil
 |_,_,.cons r t,f=> .cons (f _ _ r) (Paired.OW t f)
theorem eP.A4(x:eP P w H h a o)(k:∀b u,(b=a\/H b=some (.own a))->h.get? b=some u->h'.get? b=some u)
  (ho:∀b,H b=some (.own a)->H' b=some (.own a)) (ht:∀b xs,H b=some (.dY xs)->H' b=some (.dY xs)):eP P w H' h' a o:=by
 induction o with
 |ba xs=>obtain⟨z,aR,n,r,e⟩:=x;exact⟨z,aR,n,r,k _ _ (.inl rfl) e⟩
 |dY xs=>obtain⟨z,aR,r,ob,e,c⟩:=x;exact⟨z,aR,r,ob,k _ _ (.inl rfl) e,c⟩
 |dK aQ=>obtain⟨z,y,vs,r,ob,es,ep,e,c⟩:=x;exact⟨z,y,vs,r,ob,es,ep,k _ _ (.inl rfl) e,c⟩
 |dT aQ=>
  obtain⟨z,y,xs,r,ob,es,ep,e,c⟩:=x;exact⟨z,y,xs,Paired.OW r fun p q z=>⟨z.1,ht _ _ z.2.1,z.2.2⟩,ob,es,ep,k _ _ (.inl rfl) e,c⟩
 |set S n=>obtain⟨ob,es,ep,t,e,c⟩:=x;exact⟨ob,es,ep,t,k _ _ (.inl rfl) e,c⟩
 |ins C dx fs=>
  obtain⟨d,z,ne,e,mA,⟨od,es,ep,e2,c⟩,r⟩:=x;exact⟨ho _ d,z,ne,k _ _ (.inl rfl) e,mA,⟨od,es,ep,k _ _ (.inr d) e2,c⟩,r⟩
 |own y=>obtain⟨ob,e⟩:=x;exact⟨ob,k _ _ (.inl rfl) e⟩
 |xd fs=>obtain⟨mA,⟨od,es,ep,e,c⟩,r⟩:=x;exact⟨mA,⟨od,es,ep,k _ _ (.inl rfl) e,c⟩,r⟩
 |XF lo hi=>obtain⟨t,u,v,e⟩:=x;exact⟨t,u,v,k _ _ (.inl rfl) e⟩
 |uj ob u ih=>obtain⟨e,q⟩:=x;exact⟨k _ _ (.inl rfl) e,ih q⟩
 |P4 ps=>
  have e:h.get? a=some {cls:= .none,data:= .fields ps}:=x;show h'.get? a=some {cls:= .none,data:= .fields ps};exact k a _ (.inl rfl) e
 |Xe f y=>
  have e:h.get? a=some (akk (.ref f) (.ref y)):=x;show h'.get? a=some (akk (.ref f) (.ref y));exact k a _ (.inl rfl) e
 |ext φ=>obtain⟨p,⟨o,e⟩,st⟩:=x;exact⟨st _ _ p fun o q=>k _ _ (.inl rfl) q,⟨o,k _ _ (.inl rfl) e⟩,st⟩
theorem kE.lt(x:kE P w H h)(e:H a=some o):a<h.objs.size:=(x a o e).lt
theorem kE.fresh(x:kE P w H h)(e:h.objs.size<=a):H a=none:=by
 cases q:H a with
 |none=>rfl
 |some u=>exact absurd (agk (x.lt q) e) (ahp _)
theorem kE.kept(x:kE P w H h)(k:∀b u,h.get? b=some u->h'.get? b=some u):kE P w H h':=fun a o e=>
 (x a o e).A4 (fun b u _ q=>k b u q) (fun _ q=>q) fun _ _ q=>q
theorem kE.ml(x:kE P w H h)(k:∀b u,h.get? b=some u->h'.get? b=some u)(hp:h.objs.size<=a)(new:eP P w (aE H a o) h' a o):kE P w (aE H a o) h':=fun b u e=>by
 have hn:=x.fresh hp;by_cases hb:b=a
 .subst hb;rw[aj]at e;cases e;exact new
 .rw[ao hb]at e;exact(x b u e).A4 (fun c v _ q=>k c v q) (fun c q=>by rw[ao (ak q hn)];exact q) fun c xs q=>by rw[ao (ak q hn)];exact q
end
def Rd(H:Hp)(a:afd)(u:HO):Prop:=H a=some u\/∃o,H a=some (.uj o u)
theorem Rd.ok{u:HO}(r:Rd H a u)(x:kE P w H h):eP P w H h a u:=by
 rcases r with r|⟨o,r⟩
 .exact x a u r
 .obtain⟨_,q⟩:=x a _ r;exact q
def QN:Option HO->Prop
 |some (.ba _)=>True
 |some (.dK _)=>True
 |some (.dT _)=>True
 |some (.set _ _)=>True
 |some (.ins _ _ _)=>True
 |some (.ext _)=>True
 |_=>False
section
variable{x e:afd}{o':HO}
theorem kE.pk(ok:kE P w H h)(mu:QN (H x))(he:e=x\/H e=some (.own x))(k:∀b u,b≠e->h.get? b=some u->h'.get? b=some u)(Qs:∃u,h'.get? e=some u)
  (new:eP P w (aE H x o') h' x o'):kE P w (aE H x o') h':=fun b u q=>by
 have Sz:∀c y,H c=some (.own y)->c≠x:=fun c y r z=>by subst z;rw[r]at mu;exact mu
 have Xu:∀c xs,H c=some (.dY xs)->c≠x:=fun c xs r z=>by subst z;rw[r]at mu;exact mu
 by_cases hb:b=x
 .subst hb;rw[aj]at q;cases q;exact new
 .rw[ao hb]at q;by_cases Ow:b=e
  .have q':H b=some (.own x):=by
    rcases he with z|z
    .exact absurd (Ow.trans z) hb
    .rw[Ow];exact z
   rw[q]at q';cases q';obtain⟨v,hv⟩:=Qs;exact⟨v,by rw[Ow];exact hv⟩
  .refine(ok b u q).A4 (fun c v hc r=>k c v ?_ r) (fun c r=>by rw[ao (Sz c b r)];exact r) fun c xs r=>by rw[ao (Xu c xs r)];exact r
   rcases hc with rfl|hc
   .exact Ow
   .rintro rfl;rcases he with z|z
    .exact Sz c b hc z
    .rw[hc]at z;cases z;exact hb rfl
end
structure Un(fs ex:List afd)(H H':Hp)(h h':agg):Prop where
 keep:∀b o,h.get? b=some o->H b=none->b∉fs->b∉ex->h'.get? b=some o
 slot:∀b o,h.get? b=some o->H b=none->b∈fs->b∉ex->∃sl,h'.get? b=some {o with slots:=sl}
 free:∀b o,h.get? b=some o->H b=none->b∉ex->H' b=none
 there:∀b o,h.get? b=some o->b∉ex->∃o',h'.get? b=some o'
 tups:∀b xs,H b=some (.dY xs)->H' b=some (.dY xs)
 frzs:∀b o u,H b=some (.uj o u)->H' b=some (.uj o u)
 tbls:∀b ps,H b=some (.P4 ps)->∃more,H' b=some (.P4 (ps++more))
section
variable{fs fs' ex ex':List afd}{H2:Hp}{h1 h2:agg}{x e:afd}{o:HO}
theorem Un.any(u:Un fs ex H H1 h h1){ob:Obj}(q:h.get? b=some ob)(n:H b=none)(hx:b∉ex):∃sl,h1.get? b=some {ob with slots:=sl}:=by
 by_cases hb:b∈fs
 .exact u.slot b ob q n hb hx
 .exact⟨ob.slots,u.keep b ob q n hb hx⟩
theorem Un.kept(k:∀b u,h.get? b=some u->h'.get? b=some u):Un fs ex H H h h':=
 ⟨fun b ob q _ _ _=>k b ob q,fun b ob q _ _ _=>⟨ob.slots,k b ob q⟩,fun _ _ _ n _=>n,fun b ob q _=>⟨ob,k b ob q⟩,fun _ _ q=>q,fun _ _ _ q=>q,fun _ ps q=>⟨#[],by rw[q];simp⟩⟩
theorem Un.refl:Un fs ex H H h h:=Un.kept fun _ _ q=>q
theorem Un.ml(k:∀b u,h.get? b=some u->h'.get? b=some u)(hp:h.objs.size<=a)(hn:H a=none):Un fs ex H (aE H a o) h h' where
 keep:=fun b u q _ _ _=>k b u q
 slot:=fun b u q _ _ _=>⟨u.slots,k b u q⟩
 free:=fun b u q n _=>by rw[ao (agy (agk (afV q) hp))];exact n
 there:=fun b u q _=>⟨u,k b u q⟩
 tups:=fun b xs q=>by rw[ao (ak q hn)];exact q
 frzs:=fun b u xs q=>by rw[ao (ak q hn)];exact q
 tbls:=fun b ps q=>⟨#[],by rw[ao (ak q hn),q];simp⟩
theorem Un.pk(mu:QN (H x))(he:e=x\/H e=some (.own x))(k:∀b u,b≠e->h.get? b=some u->h'.get? b=some u)(Qs:∃u,h'.get? e=some u):Un fs ex H (aE H x o) h h':=by
 have hx:∀b,H b=none->b≠x:=fun b n z=>by subst z;rw[n]at mu;exact mu
 have hb:∀b,H b=none->b≠e:=fun b n z=>by
  subst z;rcases he with r|r
  .exact hx b n r
  .rw[n]at r;cases r
 have hm:∀b u,H b=some u->¬QN (some u)->b≠x:=fun b u q nm z=>by subst z;rw[q]at mu;exact nm mu
 refine⟨fun b u q n _ _=>k b u (hb b n) q,fun b u q n _ _=>⟨u.slots,k b u (hb b n) q⟩,fun b u q n _=>by rw[ao (hx b n)];exact n,fun b u q _=> ?_,
  fun b xs q=>by rw[ao (hm b _ q fun z=>z)];exact q,fun b u xs q=>by rw[ao (hm b _ q fun z=>z)];exact q,fun b ps q=>⟨#[],by rw[ao (hm b _ q fun z=>z),q];simp⟩⟩
 by_cases Ow:b=e
 .subst Ow;exact Qs
 .exact⟨u,k b u Ow q⟩
end
def UL(h:agg)(H:Hp):List afd:=(aiS h.objs.size).filter fun a=>(H a).isSome
def wy(h:agg)(H:Hp):agg:=PySem.W.hideAll h (UL h H)
theorem DQ(h:agg)(H:Hp):(wy h H).objs.size=h.objs.size:=PySem.W.hideAll_size _ _
theorem GI{o:Obj}(e:h.get? b=some o)(n:H b=none):(wy h H).get? b=some o:=
 PySem.W.hideAll_get _ e fun hm=>by
  have q:(H b).isSome=true:=(afO.mp hm).2;rw[n]at q;simp at q
theorem KS{o:Obj}(e:(wy h H).get? b=some o):h.get? b=some o/\H b=none:=by
 have e':h.get? b=some o:=PySem.W.of_hideAll (UL h H) e;refine⟨e',?_⟩;cases q:H b with
 |none=>rfl
 |some x=>
  have hm:b∈UL h H:=afO.mpr ⟨aix.mpr (afV e'),by simp[q]⟩;have z:(wy h H).get? b=none:=PySem.W.hideAll_none (UL h H) hm;rw[z]at e;cases e
structure Mod(K:afW)(mg:Str->Option afg)(base:agg):Prop where
 Sn:K.In base
 wo:base.Ns mainGlobals mg
 Qi:∃mb,base.Ns builtinsNs mb/\∀x:Str,x≠"__name__"->mb x=bootBuiltins x
 nolimit:base.NoLimit
structure Cx where
 prog:afA
 w:af4
 K:afW
 mg:Str->Option afg
 base:agg
 A:ahF
 N:List Str
 s_0:afC
 H_0:Hp
 env:Env
 outer:List Env
 stack:List Env
 ex:List afd
 fn:Str->Bool
 calm:Bool
 pn:List (afd×Obj)
 xe:afg->afC->Prop
def GC(l:List Env):List afd:=l.filterMap (·.frame)
abbrev Cx.fs(X:Cx):List afd:=GC X.outer
def Qg(sc:ahO)(x:Str):Prop:=sc.names.lookup x=some .local\/sc.names.lookup x=some .cell\/sc.names.lookup x=some .free
def NX(sc:ahO)(x:Str):Prop:=sc.names.lookup x=some .local\/sc.names.lookup x=some .cell
def UP(env:Env)(h:agg)(m:Str->Option afg)(x:Str)(u:afg):Prop:=
 (env.kindOf x=some .local/\m x=some u)\/((env.kindOf x=some .cell\/env.kindOf x=some .free)/\∃c,env.cells.lookup x=some c/\h.IsCell c (some u))
structure Cx.Ok(X:Cx):Prop where
 wO:Mod X.K X.mg X.base
 kind:X.env.scope.kind= .function
 wo:X.env.globals=mainGlobals
 Qi:X.env.builtins=builtinsNs
 above:X.s_0.heap.objs.size<=X.env.locals
 inj:∀x y c,X.env.cells.lookup x=some c->X.env.cells.lookup y=some c->x=y
 has:∀x,(X.env.kindOf x=some .cell\/X.env.kindOf x=some .free)->∃c,X.env.cells.lookup x=some c
 Q3:∀x c,X.fn x=true->X.env.cells.lookup x=some c->X.s_0.heap.objs.size<=c
 hd:X.calm=true->X.A.handled=none
 frames:X.A.frames=some X.stack
 UG:X.stack=X.outer\/(X.stack=X.env::X.outer/\X.env.frame=some X.env.locals)
 T1:∀b∈X.ex,b≠X.env.locals/\∀x c,X.env.cells.lookup x=some c->c≠b
 bs:∀b o,X.base.get? b=some o->X.s_0.heap.get? b=some o/\X.H_0 b=none
 Jv:X.base.objs.size<=X.s_0.heap.objs.size
 Hh:∀b o,X.base.get? b=some o->b∉X.ex
 Gx:∀b∈X.ex,b∉X.fs
 qC:X.s_0.heap.FunFrames X.base X.outer
 Om:∀b∈X.fs,X.H_0 b=none
structure bb(X:Cx)(pins:List (afd×Obj))(σ:List (Option V))(H:Hp)(s:afC):Prop where
 ok:X.Ok
 os:s.os=X.s_0.os
 bare:alA s.gens
 base:Un X.fs X.ex X.H_0 H X.s_0.heap s.heap
 loc:∃m,s.heap.Ns X.env.locals m/\∀(i:Nat) (x:Str) (v:V),X.N[i]? =some x->σ[i]? =some (some v)->Qg X.env.scope x->∃u,bE v u/\UP X.env s.heap m x u
 cell:∀x c,X.env.cells.lookup x=some c->∃v,s.heap.IsCell c v
 free:H X.env.locals=none
 kP:∀x c,X.env.cells.lookup x=some c->H c=none
 EO:∀p∈X.pn++pins,s.heap.get? p.1=some p.2/\H p.1=none/\p.1≠X.env.locals/\p.1∉X.fs/\∀v,p.2.data≠ .cell v
 dc:kE X.prog X.w H s.heap
 len:σ.length=X.N.length
section
variable{σ:List (Option V)}
theorem Cx.Ok.Xp(ok:X.Ok){o:Obj}(e:X.base.get? b=some o):b∉X.fs:=fun hb=>by
 have:=(ok.qC.mem hb).1;rw[e]at this;cases this
theorem bb.bs(I:bb X pins σ H s):∀b o,X.base.get? b=some o->s.heap.get? b=some o/\H b=none:=fun b o e=>
 ⟨I.base.keep b o (I.ok.bs b o e).1 (I.ok.bs b o e).2 (I.ok.Xp e) (I.ok.Hh b o e),I.base.free b o (I.ok.bs b o e).1 (I.ok.bs b o e).2 (I.ok.Hh b o e)⟩
theorem bb.bk(I:bb X pins σ H s):∀b o,X.base.get? b=some o->s.heap.get? b=some o:=fun b o e=>(I.bs b o e).1
theorem bb.wO(I:bb X pins σ H s):Mod X.K X.mg X.base:=I.ok.wO
theorem bb.u7(I:bb X pins σ H s):X.K.In s.heap:=I.ok.wO.Sn.keeps I.bk
theorem bb.fr(I:bb X pins σ H s):∃m,Fr X.base X.env.locals s.heap m:=
 let⟨m,hn,_⟩:=I.loc
 ⟨m,hn,I.bk,afw I.ok.Jv I.ok.above⟩
theorem bb.lt(I:bb X pins σ H s):X.env.locals<s.heap.objs.size:=let⟨_,hn,_⟩:=I.loc;hn.lt
theorem bb.sz(I:bb X pins σ H s):X.s_0.heap.objs.size<=s.heap.objs.size:=afw I.ok.above (agE I.lt)
theorem bb.Xq(I:bb X pins σ H s)(h:s.heap.objs.size<=a):a∉X.fs:=fun hb=>by
 obtain⟨_,o,ho,_⟩:=I.ok.qC.mem hb;exact absurd (agk (afV ho) (afw I.sz h)) (ahp _)
theorem bb.Ob(I:bb X pins σ H s):∀x c,X.env.cells.lookup x=some c->c≠X.env.locals:=fun x c e z=>by
 obtain⟨v,o,ho,hd⟩:=I.cell x c e;obtain⟨m,⟨o',es,ep,Cd,RS,_⟩,_⟩:=I.loc;rw[z,Cd]at ho;cases ho;rw[RS]at hd;cases hd
theorem bb.qC(I:bb X pins σ H s):s.heap.FunFrames X.base X.outer:=by
 have all:∀(l:List Env),(∀b∈GC l,b∈X.fs)->X.s_0.heap.FunFrames X.base l->s.heap.FunFrames X.base l:=by
  intro l
  induction l with
  |nil=>intro _ _;trivial
  |cons env r ih=>
   intro hs hl;obtain⟨hk,⟨L,o,hf,hn,ho,hd⟩,hr⟩:=hl;have hL:L∈X.fs:=hs L (by unfold GC;rw[aiI,hf];exact af5);obtain⟨sl,e⟩:=I.base.slot L o ho (I.ok.Om L hL) hL fun z=>I.ok.Gx L z hL
   exact⟨hk,⟨L,_,hf,hn,e,hd⟩,ih (fun b hb=>hs b (by unfold GC;rw[aiI,hf];exact afu _ hb)) hr⟩
 exact all X.outer (fun _ hb=>hb) I.ok.qC
theorem bb.stack(I:bb X pins σ H s):s.heap.FunFrames X.base X.stack:=by
 rcases I.ok.UG with e|⟨e,hf⟩
 .rw[e];exact I.qC
 .rw[e];obtain⟨m,hn,_⟩:=I.loc;refine .cons (by rw[I.ok.kind];decide) hf hn ?_ I.qC;exact Heap.get?_none_of_le (afw I.ok.Jv I.ok.above)
theorem bb.A9(I:bb X pins σ H s):∀b∈GC X.stack,b∈X.env.locals::X.fs:=fun b hb=>by
 rcases I.ok.UG with e|⟨e,hf⟩
 .rw[e]at hb;exact afu _ hb
 .rw[e]at hb;unfold GC at hb;rw[aiI,hf]at hb;exact hb
theorem bb.Dd(I:bb X pins σ H s):∀b∈GC X.stack,H b=none:=fun b hb=>by
 rcases afx.mp (I.A9 b hb)with e|hb
 .rw[e];exact I.free
 .obtain⟨_,o,ho,_⟩:=I.ok.qC.mem hb;exact I.base.free b o ho (I.ok.Om b hb) fun z=>I.ok.Gx b z hb
theorem bb.step{g':Array GenState}{d':Drawn}(I:bb X pins σ H s)
  (JD:∀b∈ch,(b∈X.ex\/X.s_0.heap.objs.size<=b)/\b≠X.env.locals/\(∀x c,X.env.cells.lookup x=some c->c≠b)/\∀p∈X.pn++pins,p.1≠b)
  (keep:∀b o,b≠X.env.locals->b∉X.fs->b∉ch->s.heap.get? b=some o->H b=none->h'.get? b=some o)
  (slot:∀b o,b≠X.env.locals->b∈X.fs->b∉ch->s.heap.get? b=some o->H b=none->∃sl,h'.get? b=some {o with slots:=sl}) (free:∀b o,b∉ch->s.heap.get? b=some o->H b=none->H' b=none)
  (there:∀b o,b∉ch->s.heap.get? b=some o->∃o',h'.get? b=some o')
  (tups:∀b xs,H b=some (.dY xs)->H' b=some (.dY xs)) (frzs:∀b o u,H b=some (.uj o u)->H' b=some (.uj o u)) (tbls:∀b ps,H b=some (.P4 ps)->∃more,H' b=some (.P4 (ps++more)))
  (ns:∀m,s.heap.Ns X.env.locals m->h'.Ns X.env.locals m) (dc:kE X.prog X.w H' h') (hg:alA g'):
  bb X pins σ H' {s with heap:=h',gens:=g',drawn:=d',toks:=t'}:=by
 have ZO:∀b o,X.s_0.heap.get? b=some o->b≠X.env.locals:=fun b o e=>agy (agk (afV e) I.ok.above)
 have Uv:∀b o,X.s_0.heap.get? b=some o->b∉X.ex->b∉ch:=fun b o e hx hb=>by
  rcases(JD b hb).1 with z|z
  .exact hx z
  .exact absurd (agk (afV e) z) (ahp _)
 have Mr:∀x c,X.env.cells.lookup x=some c->∀v,s.heap.IsCell c v->h'.IsCell c v:=fun x c e v ⟨o,ho,hd⟩=>by
  have Sx:c∉ch:=fun z=>(JD c z).2.2.1 x c e rfl
  by_cases hc:c∈X.fs
  .obtain⟨sl,q⟩:=slot c o (I.Ob x c e) hc Sx ho (I.kP x c e);exact⟨_,q,hd⟩
  .exact⟨o,keep c o (I.Ob x c e) hc Sx ho (I.kP x c e),hd⟩
 refine⟨I.ok,I.os,hg,⟨fun b o e n hb hx=> ?_,fun b o e n hb hx=> ?_,fun b o e n hx=> ?_,fun b o e hx=> ?_,fun b xs e=>tups b xs (I.base.tups b xs e),fun b o xs e=>frzs b o xs (I.base.frzs b o xs e),fun b ps e=> ?_⟩,?_,fun x c e=> ?_,?_,fun x c e=> ?_,fun p hp=> ?_,dc,I.len⟩
 .exact keep b o (ZO b o e) hb (Uv b o e hx) (I.base.keep b o e n hb hx) (I.base.free b o e n hx)
 .obtain⟨sl,e1⟩:=I.base.slot b o e n hb hx;obtain⟨sl',e2⟩:=slot b _ (ZO b o e) hb (Uv b o e hx) e1 (I.base.free b o e n hx);exact⟨sl',e2⟩
 .obtain⟨o',e1⟩:=I.base.there b o e hx;exact free b o' (Uv b o e hx) e1 (I.base.free b o e n hx)
 .obtain⟨o',e1⟩:=I.base.there b o e hx;exact there b o' (Uv b o e hx) e1
 .obtain⟨m1,e1⟩:=I.base.tbls b ps e;obtain⟨m2,e2⟩:=tbls b _ e1;exact⟨m1++m2,by rw[e2,Array.append_assoc]⟩
 .obtain⟨m,hn,hl⟩:=I.loc;refine⟨m,ns m hn,fun i x v e1 e2 e3=> ?_⟩;obtain⟨u,r,l⟩:=hl i x v e1 e2 e3;refine⟨u,r,?_⟩;rcases l with l|⟨k,c,e,z⟩
  .exact .inl l
  .exact .inr ⟨k,c,e,Mr x c e _ z⟩
 .obtain⟨v,z⟩:=I.cell x c e;exact⟨v,Mr x c e v z⟩
 .obtain⟨m,⟨o,_,_,ho,_⟩,_⟩:=I.loc;exact free _ o (fun z=>(JD _ z).2.1 rfl) ho I.free
 .obtain⟨v,o,ho,hd⟩:=I.cell x c e;exact free c o (fun z=>(JD c z).2.2.1 x c e rfl) ho (I.kP x c e)
 .obtain⟨e,n,ne,nf,d⟩:=I.EO p hp;have Sx:p.1∉ch:=fun z=>(JD p.1 z).2.2.2 p hp rfl
  exact⟨keep p.1 p.2 ne nf Sx e n,free p.1 p.2 Sx e n,ne,nf,d⟩
theorem bb.un(I:bb X pins σ H s)(u:Un X.fs [] H H' s.heap h')(dc:kE X.prog X.w H' h'):bb X pins σ H' {s with heap:=h',toks:=t'}:=by
 obtain⟨m,⟨o,es,ep,ho,r⟩,_⟩:=id I.loc;obtain⟨sl,hL⟩:=u.any ho I.free (by simp);exact I.step (g':=s.gens) (d':=s.drawn) (ch:=[]) (fun _ z=>nomatch z) (fun b o _ hb _ e n=>u.keep b o e n hb (by simp)) (fun b o _ hb _ e n=>u.slot b o e n hb (by simp)) (fun b o _ e n=>u.free b o e n (by simp)) (fun b o _ e=>u.there b o e (by simp)) u.tups u.frzs u.tbls (fun m' hm=>by
  obtain⟨o',VO,VM,Cd,r'⟩:=hm;rw[ho]at Cd;cases Cd;exact⟨_,VO,VM,hL,r'⟩) dc I.bare
theorem bb.call{g':Array GenState}{d':Drawn}(I:bb X pins σ H s)(u:Un (GC X.stack) ch H H' s.heap h')(dc:kE X.prog X.w H' h')(hg:alA g')
  (JD:∀b∈ch,(b∈X.ex\/X.s_0.heap.objs.size<=b)/\b≠X.env.locals/\(∀x c,X.env.cells.lookup x=some c->c≠b)/\∀p∈X.pn++pins,p.1≠b):
  bb X pins σ H' {s with heap:=h',gens:=g',drawn:=d',toks:=t'}:=by
 obtain⟨m,⟨o,es,ep,ho,r⟩,_⟩:=id I.loc;obtain⟨sl,hL⟩:=u.any ho I.free fun z=>(JD _ z).2.1 rfl
 exact I.step (ch:=ch) JD (fun b o hL hb hc e n=>u.keep b o e n (fun z=>(afx.mp (I.A9 b z)).elim hL hb) hc) (fun b o _ _ hc e n=>u.any e n hc) (fun b o hc e n=>u.free b o e n hc) (fun b o hc e=>u.there b o e hc) u.tups u.frzs u.tbls (fun m' hm=>by
  obtain⟨o',VO,VM,Cd,r'⟩:=hm;rw[ho]at Cd;cases Cd;exact⟨_,VO,VM,hL,r'⟩) dc hg
theorem bb.gC(I:bb X pins σ H s)(k:∀b o,b≠it->s.heap.get? b=some o->h'.get? b=some o)(hn:H it=none)(hL:it≠X.env.locals)
  (h1:it∈X.ex\/X.s_0.heap.objs.size<=it) (h2:∀x c,X.env.cells.lookup x=some c->c≠it) (h3:∀p∈X.pn++pins,p.1≠it):bb X pins σ H {s with heap:=h',toks:=t'}:=by
 have NA:∀b u,H b=some u->b≠it:=fun b u e z=>by rw[z,hn]at e;cases e
 refine I.step (g':=s.gens) (d':=s.drawn) (ch:=[it]) (fun b hb=> ?_) (fun b o _ _ hc e _=>k b o (fun z=>hc (by simp[z])) e) (fun b o _ _ hc e _=>⟨o.slots,k b o (fun z=>hc (by simp[z])) e⟩) (fun _ _ _ _ n=>n)
  (fun b o hc e=>⟨o,k b o (fun z=>hc (by simp[z])) e⟩) (fun _ _ e=>e) (fun _ _ _ e=>e) (fun b ps e=>⟨#[],by rw[e];simp⟩) (fun m hm=> ?_) (fun b u e=> ?_) I.bare
 .have e:b=it:=by simpa using hb
  subst e;exact⟨h1,hL,h2,h3⟩
 .obtain⟨o,es,ep,ho,r⟩:=hm;exact⟨o,es,ep,k _ o (agW hL) ho,r⟩
 .refine(I.dc b u e).A4 (fun c v hc q=>k c v ?_ q) (fun _ q=>q) fun _ _ q=>q
  rcases hc with z|z
  .rw[z];exact NA b u e
  .exact NA c _ z
theorem bb.qM(I:bb X pins σ H s)(t:Nat):bb X pins σ H {s with toks:=t}:=I.un (h':=s.heap) (t':=t) Un.refl I.dc
theorem bb.kept{t':Nat}(I:bb X pins σ H s)(k:∀b u,s.heap.get? b=some u->h'.get? b=some u):bb X pins σ H {s with heap:=h',toks:=t'}:=I.un (Un.kept k) (I.dc.kept k)
theorem bb.ml{a:afd}{o:HO}{t':Nat}(I:bb X pins σ H s)(k:∀b u,s.heap.get? b=some u->h'.get? b=some u)(hp:s.heap.objs.size<=a)(new:eP X.prog X.w (aE H a o) h' a o):
  bb X pins σ (aE H a o) {s with heap:=h',toks:=t'}:=I.un (Un.ml k hp (I.dc.fresh hp)) (I.dc.ml k hp new)
theorem bb.pk{x e:afd}{o:HO}{t':Nat}(I:bb X pins σ H s)(mu:QN (H x))(he:e=x\/H e=some (.own x))(k:∀b u,b≠e->s.heap.get? b=some u->h'.get? b=some u)(Qs:∃u,h'.get? e=some u)
  (new:eP X.prog X.w (aE H x o) h' x o):bb X pins σ (aE H x o) {s with heap:=h',toks:=t'}:=I.un (Un.pk mu he k Qs) (I.dc.pk mu he k Qs new)
theorem bb.X3{σ':List (Option V)}(I:bb X pins σ H s)(hl:σ'.length=σ.length)(w:∀(i:Nat) v,σ'[i]? =some (some v)->σ[i]? =some (some v)):bb X pins σ' H s:=
 ⟨I.ok,I.os,I.bare,I.base,let⟨m,hn,um⟩:=I.loc;⟨m,hn,fun i x v e1 e2 e3=>um i x v e1 (w i v e2) e3⟩,I.cell,I.free,I.kP,I.EO,I.dc,hl.trans I.len⟩
theorem bb.CF{ND:List (afd×Obj)}(I:bb X pins σ H s)(h:∀p∈ND,s.heap.get? p.1=some p.2/\H p.1=none/\p.1≠X.env.locals/\p.1∉X.fs/\∀v,p.2.data≠ .cell v):bb X ND σ H s:=
 ⟨I.ok,I.os,I.bare,I.base,I.loc,I.cell,I.free,I.kP,fun p hp=>(afN.mp hp).elim (fun z=>I.EO p (af0 _ z)) (h p),I.dc,I.len⟩
theorem sC(hN:N.Nodup)(a:N[i]? =some x)(b:N[j]? =some x):i=j:=by
 obtain⟨h1,e1⟩:=aff.mp a;obtain⟨h2,e2⟩:=aff.mp b;exact(ajq hN).mp (e1.trans e2.symm)
theorem vF{v:V}{Q:Unit->afC->Prop}(I:bb X pins σ H s)(hN:X.N.Nodup)(hi:X.N[i]? =some x)(hx:NX X.env.scope x)(r:bE v u)
  (h:∀s',bb X pins (σ.set i (some v)) H s'->(∃a,agm a s.heap s'.heap/\(a=X.env.locals\/X.env.cells.lookup x=some a))->Q () s') (hf:X.fn x=true\/X.env.scope.names.lookup x=some .local:=by first|exact .inl rfl|exact .inr rfl|assumption):wpAny M A (storeName X.env x u) Q E s:=by
 obtain⟨m,hn,hl⟩:=id I.loc;have We:(X.env.scope.kind== .class||(X.env.scope.kind== .module&&X.env.locals !=X.env.globals))=false:=by rw[I.ok.kind];rfl
 have Zh:i<σ.length:=by rw[I.len];exact(aff.mp hi).1
 have Ob:=I.Ob;have gd:∀{a:afd} {h':agg},(∃o,s.heap.get? a=some o/\H a=none)->agm a s.heap h'->kE X.prog X.w H h':=fun{a h'} ha hs b ob e=>by
  obtain⟨_,_,uX⟩:=ha;refine(I.dc b ob e).A4 (fun c w' hc q=>(hs.2 c ?_).trans q) (fun _ q=>q) fun _ _ q=>q
  rintro rfl;rcases hc with rfl|hc
  .rw[uX]at e;cases e
  .rw[uX]at hc;cases hc
 rcases hx with hk|hk
 .refine wpAny_storeName_local hk hn (fun h' Ui hs=> ?_) We;obtain⟨oL,_,_,hoL,_⟩:=id hn;refine h _ ⟨I.ok,I.os,I.bare,⟨fun b o e n hb hx=> ?_,fun b o e n hb hx=> ?_,I.base.free,fun b o e hx=> ?_,I.base.tups,I.base.frzs,I.base.tbls⟩,⟨_,Ui,fun j y v' e1 e2 e3=> ?_⟩,fun y c e=> ?_,I.free,I.kP,fun p hp=> ?_,gd ⟨oL,hoL,I.free⟩ hs,by simpa using I.len⟩ ⟨_,hs,.inl rfl⟩
  .exact(hs.2 b (agy (agk (afV e) I.ok.above))).trans (I.base.keep b o e n hb hx)
  .obtain⟨sl,e1⟩:=I.base.slot b o e n hb hx;exact⟨sl,(hs.2 b (agy (agk (afV e) I.ok.above))).trans e1⟩
  .obtain⟨o',e1⟩:=I.base.there b o e hx;exact⟨o',(hs.2 b (agy (agk (afV e) I.ok.above))).trans e1⟩
  .by_cases hj:j=i
   .subst hj;rw[hi]at e1;cases e1;rw[ai4 Zh]at e2;cases e2;exact⟨u,r,.inl ⟨hk,by simp⟩⟩
   .rw[ajD (agW hj)]at e2;obtain⟨u',r',q⟩:=hl j y v' e1 e2 e3;refine⟨u',r',?_⟩;rcases q with⟨k,e⟩|⟨k,c,e,z⟩
    .refine .inl ⟨k,?_⟩;have:y≠x:=fun e=>hj (sC hN e1 (e▸hi))
     simp[this,e]
    .exact .inr ⟨k,c,e,z.sameBut hs (Ob y c e)⟩
  .obtain⟨w',z⟩:=I.cell y c e;exact⟨w',z.sameBut hs (Ob y c e)⟩
  .obtain⟨e,n,ne,nf,d⟩:=I.EO p hp;exact⟨(hs.2 p.1 ne).trans e,n,ne,nf,d⟩
 .have Wm:X.fn x=true:=by
   rcases hf with z|z
   .exact z
   .rw[z]at hk;cases hk
  obtain⟨c,hc⟩:=I.ok.has x (.inl hk);obtain⟨w',z⟩:=I.cell x c hc;refine wpAny_storeName_cell I.ok.kind hk hc z (fun h' ow hs=> ?_);obtain⟨oc,Zo,WH⟩:=id z;refine h {s with heap:=h'} ⟨I.ok,I.os,I.bare,⟨fun b o e n hb hx=> ?_,fun b o e n hb hx=> ?_,I.base.free,fun b o e hx=> ?_,I.base.tups,I.base.frzs,I.base.tbls⟩,⟨m,hn.sameBut hs (agW (Ob x c hc)),fun j y v' e1 e2 e3=> ?_⟩,fun y c' e=> ?_,I.free,I.kP,fun p hp=> ?_,gd ⟨oc,Zo,I.kP x c hc⟩ hs,by simpa using I.len⟩ ⟨c,hs,.inr hc⟩
  .exact(hs.2 b (agy (agk (afV e) (I.ok.Q3 x c Wm hc)))).trans (I.base.keep b o e n hb hx)
  .obtain⟨sl,e1⟩:=I.base.slot b o e n hb hx;exact⟨sl,(hs.2 b (agy (agk (afV e) (I.ok.Q3 x c Wm hc)))).trans e1⟩
  .obtain⟨o',e1⟩:=I.base.there b o e hx;exact⟨o',(hs.2 b (agy (agk (afV e) (I.ok.Q3 x c Wm hc)))).trans e1⟩
  .by_cases hj:j=i
   .subst hj;rw[hi]at e1;cases e1;rw[ai4 Zh]at e2;cases e2;exact⟨u,r,.inr ⟨.inl hk,c,hc,ow⟩⟩
   .rw[ajD (agW hj)]at e2;obtain⟨u',r',q⟩:=hl j y v' e1 e2 e3;refine⟨u',r',?_⟩;rcases q with q|⟨k,c',e,z'⟩
    .exact .inl q
    .refine .inr ⟨k,c',e,z'.sameBut hs ?_⟩;rintro rfl;exact hj (sC hN e1 (I.ok.inj _ _ _ e hc▸hi))
  .by_cases Y3:c'=c
   .subst Y3;exact⟨_,ow⟩
   .obtain⟨w2,z2⟩:=I.cell y c' e;exact⟨w2,z2.sameBut hs Y3⟩
  .obtain⟨e,n,ne,nf,d⟩:=I.EO p hp;refine⟨(hs.2 p.1 ?_).trans e,n,ne,nf,d⟩;intro q;rw[q,Zo]at e;have q':oc=p.2:=afv e;exact d w' (by rw[<-q'];exact WH)
theorem tR{v:V}{Q:Unit->afC->Prop}(I:bb X pins σ H s)(hN:X.N.Nodup)(hi:X.N[i]? =some x)(hx:NX X.env.scope x)(r:bE v u)
  (h:∀s',bb X pins (σ.set i (some v)) H s'->Q () s') (hf:X.fn x=true\/X.env.scope.names.lookup x=some .local:=by first|exact .inl rfl|exact .inr rfl|assumption):wpAny M A (storeName X.env x u) Q E s:=
 vF I hN hi hx r (fun s' I' _=>h s' I') hf
theorem bb.Q4(I:bb X pins σ H s)(ho:s'.os=s.os)(u:Un (GC X.stack) ch H H' s.heap s'.heap)(dc:kE X.prog X.w H' s'.heap)(hg:alA s'.gens)
  (JD:∀b∈ch,(b∈X.ex\/X.s_0.heap.objs.size<=b)/\b≠X.env.locals/\(∀x c,X.env.cells.lookup x=some c->c≠b)/\∀p∈X.pn++pins,p.1≠b):bb X pins σ H' s':=by
 obtain⟨h',g',d',t',o'⟩:=s';have e:o'=s.os:=ho;subst e;exact I.call (g':=g') (t':=t') (d':=d') u dc hg JD
end
abbrev XK:=afg->Option afd->Hp->Prop
abbrev St:=List (Option V)
abbrev VK:=V->Hp->Prop
abbrev TE:=St->Hp->VK->Prop
abbrev TT:=St->Hp->(Bool->Hp->Prop)->Prop
abbrev TA:=St->Hp->(List V->Hp->Prop)->Prop
structure iD where
 nx:St->Hp->Prop
 rt:VK
 bk:St->Hp->Prop:=fun _ _=>False
 ct:St->Hp->Prop:=fun _ _=>False
abbrev TS:=iD->St->Hp->Prop
def EP(X:Cx)(pins:List (afd×Obj))(σ:St)(Q:VK)(u:afg)(s':afC):Prop:=∃v H',bb X pins σ H' s'/\bE v u/\Q v H'
def TP(X:Cx)(pins:List (afd×Obj))(σ:St)(Q:Bool->Hp->Prop)(b:Bool)(s':afC):Prop:=∃H',bb X pins σ H' s'/\Q b H'
def AP(X:Cx)(pins:List (afd×Obj))(σ:St)(Q:List V->Hp->Prop)(us:List afg)(s':afC):Prop:=∃vs H',bb X pins σ H' s'/\bo vs us/\Q vs H'
def SP(X:Cx)(pins:List (afd×Obj))(D:iD)(f:Flow)(s':afC):Prop:=
 match f with
 | .next=>∃σ' H',bb X pins σ' H' s'/\D.nx σ' H'
 | .brk=>∃σ' H',bb X pins σ' H' s'/\D.bk σ' H'
 | .cont=>∃σ' H',bb X pins σ' H' s'/\D.ct σ' H'
 | .ret u=>∃v σ' H',bb X pins σ' H' s'/\bE v u/\D.rt v H'
def PE(X:Cx)(e:agR)(t:TE):Prop:=
 ∀(pins:List (afd×Obj)) (s:afC) (σ:St) (H:Hp) (Q:VK),bb X pins σ H s->t σ H Q->wpAny (model X.prog X.w) X.A (eval e X.env) (EP X pins σ Q) X.xe s
def PT(X:Cx)(e:agR)(t:TT):Prop:=
 ∀(pins:List (afd×Obj)) (s:afC) (σ:St) (H:Hp) (Q:Bool->Hp->Prop),bb X pins σ H s->t σ H Q->wpAny (model X.prog X.w) X.A (isTrue e X.env (eval e X.env)) (TP X pins σ Q) X.xe s
def PW(X:Cx)(e:agR)(t:TT):Prop:=
 ∀(whole:Sem afg) (pins:List (afd×Obj)) (s:afC) (σ:St) (H:Hp) (Q:Bool->Hp->Prop),bb X pins σ H s->t σ H Q->wpAny (model X.prog X.w) X.A (isTrue e X.env whole) (TP X pins σ Q) X.xe s
theorem PW.pt{t:TT}(h:PW X e t):PT X e t:=h _
def PA(X:Cx)(es:List agR)(t:TA):Prop:=
 ∀(pos:Pos) (pins:List (afd×Obj)) (s:afC) (σ:St) (H:Hp) (Q:List V->Hp->Prop),bb X pins σ H s->t σ H Q->wpAny (model X.prog X.w) X.A (spliced (backTo pos (starEach es X.env))) (AP X pins σ Q) X.xe s
def PS(X:Cx)(st:afR)(t:TS):Prop:=
 ∀(pins:List (afd×Obj)) (s:afC) (σ:St) (H:Hp) (D:iD),bb X pins σ H s->t D σ H->wpAny (model X.prog X.w) X.A (exec st X.env) (SP X pins D) X.xe s
def Bh(X:Cx)(st:List afR)(t:TS):Prop:=
 ∀(pins:List (afd×Obj)) (s:afC) (σ:St) (H:Hp) (D:iD),bb X pins σ H s->t D σ H->wpAny (model X.prog X.w) X.A (execs st X.env) (SP X pins D) X.xe s
theorem cK{α:Type}{t:Sem α}{Q Q':α->afC->Prop}(h:wpAny M A t Q E s)(hQ:∀a s,Q a s->Q' a s):wpAny M A t Q' E s:=ahH h hQ fun _ _ x=>x
section
theorem bin{a b:agR}{tb:TE}(ha:PE X a ta)(hb:PE X b tb){R:V->V->Hp->Prop}(I:bb X pins σ H s)(h:ta σ H fun x H1=>tb σ H1 fun y H2=>R x y H2)
  {α:Type} {Q:α->afC->Prop} {f:afg->afg->Sem α}
  (hf:∀v u s2 x y H2,bb X pins σ H2 s2->bE x v->bE y u->R x y H2->wpAny (model X.prog X.w) X.A (f v u) Q X.xe s2):
  wpAny (model X.prog X.w) X.A (eval a X.env) (fun v s₁=>wpAny (model X.prog X.w) X.A (eval b X.env) (fun u s₂=>wpAny (model X.prog X.w) X.A (f v u) Q X.xe s₂) X.xe s₁) X.xe s:=by
 refine cK (ha pins s σ H _ I h) fun v s1 ⟨x,H1,I1,r1,q1⟩=> ?_
 refine cK (hb pins s1 σ H1 _ I1 q1) fun u s2 ⟨y,H2,I2,r2,q2⟩=> ?_
 exact hf v u s2 x y H2 I2 r1 r2 q2
inductive P2(i:Nat)(σ:St)(H:Hp)(Q:VK):Prop|m:∀v,σ[i]? =some (some v)->Q v H->P2 i σ H Q
def tC(v:V):TE:=fun _ H Q=>Q v H
theorem Pg(hN:X.N[i]? =some x)(hv:Qg X.env.scope x)(hd:(x==("__debug__":Str))=false:=by decide)(JC:(x==("__classdict__":Str))=false:=by decide):PE X (.Name x pos) (P2 i):=by
 intro pins s σ H Q I h;obtain⟨v,e,h⟩:=h;obtain⟨m,hn,hl⟩:=I.loc;obtain⟨u,r,l⟩:=hl i x v hN e hv;have fin:EP X pins σ Q u s:=⟨v,H,I,r,h⟩;rcases l with⟨hk,hm⟩|⟨hk,c,hc,B9⟩
 .exact amJ (alg I.ok.kind hk hn hm fin) hd
 .rcases hk with hk|hk
  .exact amJ (alG I.ok.kind hk hc B9 fin) hd
  .exact amJ (wpAny_loadName_free I.ok.kind hk hc B9 fin JC) hd
theorem ag{i j pos}:PE X (.Constant (.int i) j pos) (tC (.int i)):=fun _ _ _ H _ I h=>wpAny_Constant_int ⟨.int i,H,I.qM _,⟨_,rfl⟩,h⟩
theorem dy{b j pos}:PE X (.Constant (.bool b) j pos) (tC (.bl b)):=fun _ _ _ H _ I h=>Constant_bool ⟨.bl b,H,I,rfl,h⟩
theorem sN{x j pos}:PE X (.Constant (.str x) j pos) (tC (.str x)):=fun _ _ _ H _ I h=>Calls.Constant_str ⟨.str x,H,I.qM _,⟨_,rfl⟩,h⟩
def Gl(X:Cx)(x:Str):Prop:=X.env.kindOf x=some .globalImplicit
theorem wG(I:bb X pins σ H s)(hg:Gl X x)(hm:X.mg x=some u)(h:Q u s)
  (hd:(x==("__debug__":Str))=false:=by decide):wpAny (model X.prog X.w) X.A (eval (.Name x pos) X.env) Q E s:=
 aj8 I.ok.kind hg (Calls.loadGlobal_global (by rw[I.ok.wo];exact I.wO.wo.keeps I.bk) hm h) hd
theorem j0(I:bb X pins σ H s)(hg:Gl X x)(hm:X.mg x=none)(hv:bootBuiltins x=some u)(h:Q u s)
  (hn:x≠"__name__":=by decide) (hd:(x==("__debug__":Str))=false:=by decide):wpAny (model X.prog X.w) X.A (eval (.Name x pos) X.env) Q E s:=by
 obtain⟨mb,h1,h2⟩:=I.wO.Qi;exact aj8 I.ok.kind hg (Calls.loadGlobal_builtin (by rw[I.ok.wo];exact I.wO.wo.keeps I.bk) hm (by rw[I.ok.Qi];exact h1.keeps I.bk) ((h2 x hn).trans hv) h) hd
theorem cu{v:V}(hg:Gl X x)(hm:X.mg x=some u)(r:bE v u)(hd:(x==("__debug__":Str))=false:=by decide):PE X (.Name x pos) (tC v):=
 fun _ _ _ H _ I h=>wG I hg hm ⟨v,H,I,r,h⟩ hd
variable{a b:agR}{tb:TE}
def PC(X:Cx)(op:ajC)(a b:agR)(t:TE):Prop:=
 ∀(pins:List (afd×Obj)) (s:afC) (σ:St) (H:Hp) (Q:VK),bb X pins σ H s->t σ H Q->
  wpAny (model X.prog X.w) X.A (eval a X.env) (fun v s₁=>wpAny (model X.prog X.w) X.A (eval b X.env) (fun u s₂=>wpAny (model X.prog X.w) X.A (compareOp op v u) (EP X pins σ Q) X.xe s₂) X.xe s₁) X.xe s
theorem yV(b:agR)(h:op≠ .In)(h2:op≠ .NotIn):behindInMarks op b=false:=by
 have e1:(op==CmpOp.In)=false:=by cases op<;>first|rfl|exact absurd rfl h
 have e2:(op==anK)=false:=by cases op<;>first|rfl|exact absurd rfl h2
 cases b<;>simp[behindInMarks,e1,e2]
inductive ZF(Q:Bool->Hp->Prop)(x:V)(H1:Hp):Prop|m:∀c,x= .bl c->Q c H1->ZF Q x H1
def tB(t:TE):TT:=fun σ H Q=>t σ H fun x H1=>ZF Q x H1
theorem Ij{t:TE}(h:PC X op a b t)(h1:behindInMarks op b=false:=by first|exact yV _ (by decide) (by decide)|rfl):PE X (.Compare a [op] [b] pos) t:=fun pins s σ H Q I hw=>wpAny_Compare1 (h pins s σ H Q I hw) h1
theorem AN{t:TE}(h:PC X op a b t)(h1:behindInMarks op b=false:=by first|exact yV _ (by decide) (by decide)|rfl):PT X (.Compare a [op] [b] pos) (tB t):=by
 intro pins s σ H Q I hw;refine ak8 (cK (h pins s σ H _ I hw) fun v s1 h1=>cK h1 fun u s2 h2=>cK h2 fun c s3 ⟨x,H1,I1,r1,q1⟩=> ?_) h1;obtain⟨d,rfl,q⟩:=q1;cases r1;exact ag3 ⟨H1,I1,q⟩
theorem bf{t:TE}(h:PE X e t)(he:∀whole,isTrue e X.env whole=(do let v<-whole;standAt e.pos;holding [v] (truthy v)):=by intro _;rfl):PT X e (tB t):=by
 intro pins s σ H Q I hw;refine isTrue_plain (cK (h pins s σ H _ I hw) fun v s1 ⟨x,H1,I1,r1,q1⟩=> ?_) (he _);obtain⟨d,rfl,q⟩:=q1;cases r1;exact ag3 ⟨H1,I1,q⟩
variable{tA UH:TT}{rest:List agR}
def XO(t u:TT):TT:=fun σ H Q=>t σ H fun c H1=>if c=true then u σ H1 Q else Q false H1
def tOr(t u:TT):TT:=fun σ H Q=>t σ H fun c H1=>if c=true then Q true H1 else u σ H1 Q
def XY(t:TT):TT:=fun σ H Q=>t σ H fun c H1=>Q (!c) H1
theorem j6(ha:PT X a tA):PW X (.BoolOp .And [a] pos) tA:=by
 intro wh pins s σ H Q I h;refine isTrue_and (cK (ha pins s σ H Q I h) fun c s1 e=> ?_);cases c with
 |true=>exact isTrue_and_nil e
 |false=>exact e
theorem iI(ha:PT X a tA):PW X (.BoolOp .Or [a] pos) tA:=by
 intro wh pins s σ H Q I h;refine isTrue_or (cK (ha pins s σ H Q I h) fun c s1 e=> ?_);cases c with
 |false=>exact isTrue_or_nil e
 |true=>exact e
theorem nj(ha:PT X a tA)(hb:PW X (.BoolOp .And (b::rest) pos) UH):PW X (.BoolOp .And (a::b::rest) pos) (XO tA UH):=by
 intro wh pins s σ H Q I h;refine isTrue_and (cK (ha pins s σ H _ I h) fun c s1 ⟨H1,I1,q1⟩=> ?_);cases c with
 |true=>exact hb wh pins s1 σ H1 Q I1 q1
 |false=>exact⟨H1,I1,q1⟩
theorem jl(ha:PT X a tA)(hb:PW X (.BoolOp .Or (b::rest) pos) UH):PW X (.BoolOp .Or (a::b::rest) pos) (tOr tA UH):=by
 intro wh pins s σ H Q I h;refine isTrue_or (cK (ha pins s σ H _ I h) fun c s1 ⟨H1,I1,q1⟩=> ?_);cases c with
 |true=>exact⟨H1,I1,q1⟩
 |false=>exact hb wh pins s1 σ H1 Q I1 q1
theorem bu(ha:PT X a tA):PT X (.UnaryOp .Not a pos) (XY tA):=by
 intro pins s σ H Q I h;exact isTrue_not (ha pins s σ H (fun c H1=>Q (!c) H1) I h)
def Tg(ta tb:TE):TE:=fun σ H Q=>ta σ H fun x H1=>∃c,x= .bl c/\if c=true then tb σ H1 Q else Q (.bl false) H1
def XZ(ta tb:TE):TE:=fun σ H Q=>ta σ H fun x H1=>∃c,x= .bl c/\if c=true then Q (.bl true) H1 else tb σ H1 Q
theorem lu{op}{t:TE}(h:PE X a t):PE X (.BoolOp op [a] pos) t:=fun pins s σ H Q I hw=>BoolOp_one (h pins s σ H Q I hw)
theorem w8(ha:PE X a ta)(hb:PE X (.BoolOp .And (b::rest) pos) tb):PE X (.BoolOp .And (a::b::rest) pos) (Tg ta tb):=by
 intro pins s σ H Q I h;refine BoolOp_and (cK (ha pins s σ H _ I h) fun v s1 ⟨x,H1,I1,r1,q1⟩=> ?_);obtain⟨c,rfl,q1⟩:=q1;cases r1;refine ag3 ?_;cases c with
 |true=>exact hb pins s1 σ H1 Q I1 q1
 |false=>exact⟨.bl false,H1,I1,rfl,q1⟩
theorem CC(ha:PE X a ta)(hb:PE X (.BoolOp .Or (b::rest) pos) tb):PE X (.BoolOp .Or (a::b::rest) pos) (XZ ta tb):=by
 intro pins s σ H Q I h;refine BoolOp_or (cK (ha pins s σ H _ I h) fun v s1 ⟨x,H1,I1,r1,q1⟩=> ?_);obtain⟨c,rfl,q1⟩:=q1;cases r1;refine ag3 ?_;cases c with
 |false=>exact hb pins s1 σ H1 Q I1 q1
 |true=>exact⟨.bl true,H1,I1,rfl,q1⟩
def tIf(t:TT)(ta tb:TE):TE:=fun σ H Q=>t σ H fun c H1=>if c=true then ta σ H1 Q else tb σ H1 Q
theorem Ik(hc:PT X c tA)(ha:PE X a ta)(hb:PE X b tb):PE X (.IfExp c a b pos) (tIf tA ta tb):=by
 intro pins s σ H Q I h;refine wpAny_IfExp (cK (hc pins s σ H _ I h) fun d s1 ⟨H1,I1,q1⟩=> ?_);cases d with
 |true=>exact ha pins s1 σ H1 Q I1 q1
 |false=>exact hb pins s1 σ H1 Q I1 q1
end
def aJ(K:afW)(H:Hp)(a:afd)(xs:List V):Prop:=
 Rd H a (.ba xs)\/
  ∃(o:Obj) (aR:Array afg) (n:Nat),K.lookup a=some o/\o.cls= .type "list"/\o.dict=none/\o.data= .seq aR n/\aR.size<=sizeLine/\bo xs aR.toList
def gF(K:afW)(H:Hp)(a:afd)(xs:List V):Prop:=
 Rd H a (.dY xs)\/
  ∃(o:Obj) (aR:Array afg) (n:Nat),K.lookup a=some o/\o.cls= .type "tuple"/\o.data= .seq aR n/\aR.size<=sizeLine/\bo xs aR.toList
def UY:afg->Option V
 | .none=>some .gw
 | .bool b=>some (.bl b)
 | .int i _=>some (.int i)
 | .str x _=>some (.str x)
 | .bytes b _=>some (.zK b)
 | .float b _=>some (.T2 b)
 | .ref a=>some (.ref a)
 | .type n=>some (.ty n)
 |_=>none
theorem bE.abs{x:V}(r:bE x u):UY u=some x:=by
 cases x with
 |gw=>cases r;rfl
 |bl _=>cases r;rfl
 |int _=>obtain⟨t,rfl⟩:=r;rfl
 |str _=>obtain⟨t,rfl⟩:=r;rfl
 |zK _=>obtain⟨t,rfl⟩:=r;rfl
 |T2 _=>obtain⟨t,rfl⟩:=r;rfl
 |ref _=>cases r;rfl
 |ty _=>cases r;rfl
theorem bE.inj{x y:V}{u:afg}(r:bE x u)(q:bE y u):x=y:=afv (r.abs.symm.trans q.abs)
theorem bo.inj:∀{xs ys:List V} {us:List afg},bo xs us->bo ys us->xs=ys
 |_,_,_,.nil,.nil=>rfl
 |_,_,_,.cons r t,.cons r' t'=>by rw[r.inj r',bo.inj t t']
theorem aJ.of(h:H a=some (.ba xs)):aJ K H a xs:= .inl (.inl h)
theorem bb.list(I:bb X pins σ H s)(h:aJ X.K H a xs):∃aR:List afg,bo xs aR/\PlainL s.heap a aR.toArray/\xs.length<=sizeLine:=by
 rcases h with h|⟨o,aR,n,hk,hc,hd,hs,hz,r⟩
 .obtain⟨z,aR,n,r,e⟩:=h.ok I.dc;exact⟨aR,r,⟨_,n,e,rfl,rfl,rfl⟩,z⟩
 .refine⟨aR.toList,r,⟨o,n,I.u7 a o hk,hc,hd,by simpa using hs⟩,?_⟩;have e:=r.length;simp only[ajX]at e;omega
theorem bb.tuple(I:bb X pins σ H s)(h:gF X.K H a xs):∃aR:List afg,bo xs aR/\IsTup s.heap a aR.toArray/\xs.length<=sizeLine:=by
 rcases h with h|⟨o,aR,n,hk,hc,hs,hz,r⟩
 .obtain⟨z,aR,r,p⟩:=h.ok I.dc;exact⟨aR,r,p,z⟩
 .refine⟨aR.toList,r,⟨o,I.u7 a o hk,hc,n,by simpa using hs⟩,?_⟩;have e:=r.length;simp only[ajX]at e;omega
theorem bb.oA(I:bb X pins σ H s)(h:aJ X.K H a xs)(h':aJ X.K H a ys):xs=ys:=by
 obtain⟨aR,r,⟨o,n,e,_,_,d⟩,_⟩:=I.list h;obtain⟨its',r',⟨o',n',e',_,_,d'⟩,_⟩:=I.list h';rw[e]at e';cases e';rw[d]at d';injection d' with d1 _
 have:aR=its':=by simpa using congrArg al2 d1
 subst this;exact r.inj r'
theorem bb.vK(I:bb X pins σ H s)(h:gF X.K H a xs)(h':gF X.K H a ys):xs=ys:=by
 obtain⟨aR,r,⟨o,e,_,n,d⟩,_⟩:=I.tuple h;obtain⟨its',r',⟨o',e',_,n',d'⟩,_⟩:=I.tuple h';rw[e]at e';cases e';rw[d]at d';injection d' with d1 _
 have:aR=its':=by simpa using congrArg al2 d1
 subst this;exact r.inj r'
abbrev Cx.uC(X:Cx)(E:afg->afC->Prop):Cx:={X with xe:=E}
abbrev Cx.SA(X:Cx):Cx:=X.uC fun _ _=>False
theorem Cx.Ok.uC(ok:X.Ok)(E:afg->afC->Prop):(X.uC E).Ok:=
 ⟨ok.wO,ok.kind,ok.wo,ok.Qi,ok.above,ok.inj,ok.has,ok.Q3,ok.hd,ok.frames,ok.UG,ok.T1,ok.bs,ok.Jv,ok.Hh,ok.Gx,ok.qC,ok.Om⟩
theorem Cx.Ok.lK(ok:(X.uC E).Ok):X.Ok:=
 ⟨ok.wO,ok.kind,ok.wo,ok.Qi,ok.above,ok.inj,ok.has,ok.Q3,ok.hd,ok.frames,ok.UG,ok.T1,ok.bs,ok.Jv,ok.Hh,ok.Gx,ok.qC,ok.Om⟩
theorem bb.uC(I:bb X pins σ H s)(E:afg->afC->Prop):bb (X.uC E) pins σ H s:=⟨I.ok.uC E,I.os,I.bare,I.base,I.loc,I.cell,I.free,I.kP,I.EO,I.dc,I.len⟩
theorem bb.lK(I:bb (X.uC E) pins σ H s):bb X pins σ H s:=⟨I.ok.lK,I.os,I.bare,I.base,I.loc,I.cell,I.free,I.kP,I.EO,I.dc,I.len⟩
theorem SP.lK{D:iD}{f:Flow}{s':afC}(h:SP (X.uC E) pins D f s'):SP X pins D f s':=by
 cases f with
 |next=>obtain⟨σ',H',I,q⟩:=h;exact⟨σ',H',I.lK,q⟩
 |brk=>obtain⟨σ',H',I,q⟩:=h;exact⟨σ',H',I.lK,q⟩
 |cont=>obtain⟨σ',H',I,q⟩:=h;exact⟨σ',H',I.lK,q⟩
 |ret u=>obtain⟨v,σ',H',I,r,q⟩:=h;exact⟨v,σ',H',I.lK,r,q⟩
theorem Bh.SA{st:List afR}{t:TS}(h:Bh X.SA st t):Bh X st t:=fun pins s σ H D I hw=>
 ahH (h pins s σ H D (I.uC _) hw) (fun _ _ q=>q.lK) fun _ _ z=>ahj z
section
variable{rest:List afR}{t u:TS}
def NS:TS:=fun D σ H=>D.nx σ H
def X1(t u:TS):TS:=fun D σ H=>t {D with nx:=u D} σ H
theorem aC:Bh X [] NS:=fun _ _ σ H _ I h=>ajJ ⟨σ,H,I,h⟩
theorem ae(h1:PS X st t)(h2:Bh X rest u):Bh X (st::rest) (X1 t u):=by
 intro pins s σ H D I h;refine amj (cK (h1 pins s σ H {D with nx:=u D} I h) fun f s1 q=> ?_);cases f with
 |next=>
  obtain⟨σ',H',I',q⟩:=q;exact h2 pins s1 σ' H' D I' q
 |ret v=>exact q
 |brk=>exact q
 |cont=>exact q
theorem af(h1:PS X st t):Bh X [st] t:=by
 intro pins s σ H D I h;refine amj (cK (h1 pins s σ H D I h) fun f s1 q=> ?_);cases f with
 |next=>exact ajJ q
 |ret v=>exact q
 |brk=>exact q
 |cont=>exact q
theorem bb.quiet(I:bb X pins σ H s):interactive X.env=false:=by simp[interactive,I.ok.kind]
def Tn(te:TE):TS:=fun D σ H=>te σ H fun _ H1=>D.nx σ H1
theorem aI(he:PE X e te)(hs:swapsWith e none pos.line X.env=pure false:=by rfl):PS X (.Expr e pos) (Tn te):=by
 intro pins s σ H D I h;exact wpAny_Expr_any (cK (he pins s σ H _ I h) fun v s1 ⟨x,H1,I1,r1,q1⟩=>⟨σ,H1,I1,q1⟩) I.quiet hs
def X0(te:TE):TS:=fun D σ H=>te σ H D.rt
theorem aq(he:PE X e te):PS X (.Return (some e) pos) (X0 te):=by
 intro pins s σ H D I h;exact wpAny_Return_some (cK (he pins s σ H _ I h) fun v s1 ⟨x,H1,I1,r1,q1⟩=>⟨x,σ,H1,I1,r1,q1⟩)
def XU(c:TT)(t u:TS):TS:=fun D σ H=>c σ H fun b H1=>if b=true then t D σ H1 else u D σ H1
theorem aZ{a b:List afR}{tc:TT}(hc:PT X c tc)(ha:Bh X a t)(hb:Bh X b u):PS X (.If c a b pos) (XU tc t u):=by
 intro pins s σ H D I h;refine wpAny_If (cK (hc pins s σ H _ I h) fun d s1 ⟨H1,I1,q1⟩=> ?_);cases d with
 |true=>exact ha pins s1 σ H1 D I1 q1
 |false=>exact hb pins s1 σ H1 D I1 q1
end
abbrev TG:=V->St->Hp->(St->Hp->Prop)->Prop
abbrev Qe:=List V->St->Hp->(St->Hp->Prop)->Prop
def PG(X:Cx)(target:agR)(t:TG):Prop:=
 ∀(pins:List (afd×Obj)) (s:afC) (σ:St) (H:Hp) (v:V) (u:afg) (Q:St->Hp->Prop),bb X pins σ H s->bE v u->t v σ H Q->
  wpAny (model X.prog X.w) X.A (assign target X.env u) (fun _ s'=>∃σ' H',bb X pins σ' H' s'/\Q σ' H') X.xe s
def TN(X:Cx)(ts:List agR)(t:Qe):Prop:=
 ∀(pins:List (afd×Obj)) (s:afC) (σ:St) (H:Hp) (vs:List V) (us:List afg) (Q:St->Hp->Prop),bb X pins σ H s->bo vs us->t vs σ H Q->
  wpAny (model X.prog X.w) X.A (assignInOrder ((assignEach ts X.env).map (·.2)) us) (fun _ s'=>∃σ' H',bb X pins σ' H' s'/\Q σ' H') X.xe s
abbrev NZ:=V->V->V->Hp->(Hp->Prop)->Prop
def QO(X:Cx)(t:NZ):Prop:=
 ∀(pins:List (afd×Obj)) (s:afC) (σ:St) (H:Hp) (o i v:V) (ov iv u:afg) (Q:Hp->Prop),bb X pins σ H s->bE o ov->bE i iv->bE v u->t o i v H Q->
  wpAny (model X.prog X.w) X.A (setItem ov iv u) (fun _ s'=>∃H',bb X pins σ H' s'/\Q H') X.xe s
abbrev UW:=V->V->Hp->VK->Prop
def UT(X:Cx)(op:al3)(t:UW):Prop:=
 ∀(pins:List (afd×Obj)) (s:afC) (σ:St) (H:Hp) (x y:V) (v u:afg) (Q:VK),bb X pins σ H s->bE x v->bE y u->t x y H Q->
  wpAny (model X.prog X.w) X.A (inplaceOp op v u) (EP X pins σ Q) X.xe s
def qk(i:Nat):TG:=fun v σ H Q=>Q (σ.set i (some v)) H
theorem Lm(hN:X.N.Nodup)(hi:X.N[i]? =some x)(hx:NX X.env.scope x)(hf:X.fn x=true\/X.env.scope.names.lookup x=some .local:=by first|exact .inl rfl|exact .inr rfl|assumption):PG X (.Name x pos) (qk i):=by
 intro pins s σ H v u Q I r h;exact al4 (tR I hN hi hx r (fun s' I'=>⟨_,H,I',h⟩) hf)
def VU:Qe:=fun vs σ H Q=>vs=[]/\Q σ H
inductive MV(t:TG)(u:Qe)(vs:List V)(σ:St)(H:Hp)(Q:St->Hp->Prop):Prop|m:∀v r,vs=v::r->(t v σ H fun σ' H'=>u r σ' H' Q)->MV t u vs σ H Q
theorem gN:TN X [] VU:=by
 intro pins s σ H vs us Q I r h;obtain⟨e,h⟩:=h;subst e;cases r;exact assignInOrder_nil ⟨σ,H,I,h⟩
theorem bH{t:TG}{u:Qe}(h1:PG X e t)(h2:TN X es u)
  (hs:(assignEach (e::es) X.env).map (·.2)=assign e X.env::(assignEach es X.env).map (·.2):=by rfl):TN X (e::es) (MV t u):=by
 intro pins s σ H vs us Q I r h;obtain⟨v,vr,e1,h⟩:=h;subst e1;cases r with
 |cons r rr=>
  rw[hs];refine assignInOrder_cons (cK (h1 pins s σ H _ _ _ I r h) fun _ s1 ⟨σ1,H1,I1,q1⟩=> ?_);exact h2 pins s1 σ1 H1 _ _ Q I1 rr q1
inductive Rq(K:afW)(n:Nat)(t:Qe)(v:V)(σ:St)(H:Hp)(Q:St->Hp->Prop):Prop|m:∀a xs,v= .ref a->gF K H a xs->xs.length=n->t xs σ H Q->Rq K n t v σ H Q
theorem i8{k:Nat}{t:Qe}(hc:X.calm=true)(h:TN X es t)
  (hn:(assignEach es X.env).length=n:=by rfl) (yG:(assignEach es X.env).findIdx? (·.1)=none:=by rfl):PG X (.Tuple es k pos) (Rq X.K n t):=by
 intro pins s σ H v u Q I r hw;obtain⟨a,xs,e1,hq,hl,hw⟩:=hw;subst e1;cases r;obtain⟨aR,rv,ht,hz⟩:=I.tuple hq;refine assign_Tuple_tuple (I.ok.hd hc) ht (by simp[hn,<-hl,rv.length]) yG fun h' hx=> ?_
 have I1:bb X pins σ H {s with heap:=h'}:=I.kept (t':=s.toks) fun b o e=>hx b o (agy (afV e)) e
 exact h pins _ σ H xs _ Q I1 (by simpa using rv) hw
def VV(to ti:TE)(t:NZ):TG:=fun v σ H Q=>to σ H fun o H1=>ti σ H1 fun i H2=>t o i v H2 fun H3=>Q σ H3
theorem Io{o i:agR}{to ti:TE}{t:NZ}(ho:PE X o to)(hi:PE X i ti)(hs:QO X t)
  (ha:∀v,assign (.Subscript o i pos) X.env v=(do
   let ov<-holding [v] (eval o X.env)
   let iv<-holding [v,ov] (eval i X.env)
   standAt pos
   holding [v,ov,iv] (setItem ov iv v)
   release [v,ov,iv] []):=by intro _;rfl):PG X (.Subscript o i pos) (VV to ti t):=by
 intro pins s σ H v u Q I r h;rw[ha];refine afi (aip (cK (ho pins s σ H _ I h) fun ov s1 ⟨x,H1,I1,r1,q1⟩=> ?_));refine afi (aip (cK (hi pins s1 σ H1 _ I1 q1) fun iv s2 ⟨y,H2,I2,r2,q2⟩=> ?_));refine afi (akr (afi (aip (cK (hs pins s2 σ H2 x y v ov iv u _ I2 r1 r2 r q2) fun _ s3 ⟨H3,I3,q3⟩=> ?_))));exact wpAny_release ⟨σ,H3,I3,q3⟩
def Mc(te:TE)(g:TG):TS:=fun D σ H=>te σ H fun x H1=>g x σ H1 D.nx
theorem Ir(he:PE X e te)(hg:PG X tg g)(hs:swapsWithSole [tg] e pos.line X.env=pure false:=by rfl)(hw:swappedStores [tg] e X.env=pure none:=by rfl)
  (h1:(assignEach [tg] X.env).map (·.2)=[assign tg X.env]:=by rfl):PS X (.Assign [tg] e pos) (Mc te g):=by
 intro pins s σ H D I h;refine wpAny_Assign_stores (cK (he pins s σ H _ I h) fun v s1 ⟨x,H1,I1,r1,q1⟩=> ?_) hs hw;rw[h1];exact cK (hg pins s1 σ H1 x v _ I1 r1 q1) fun _ s2 q=>q
theorem Iu(hN:X.N.Nodup)(hi:X.N[i]? =some x)(hx:NX X.env.scope x)(he:PE X e te)(hs:swapsWith e (some (.Name x iH)) pos.line X.env=pure false:=by rfl)(hf:X.fn x=true\/X.env.scope.names.lookup x=some .local:=by first|exact .inl rfl|exact .inr rfl|assumption):
  PS X (.Assign [.Name x iH] e pos) (Mc te (qk i)):=by
 intro pins s σ H D I h;refine wpAny_Assign_Name (cK (he pins s σ H _ I h) fun v s1 ⟨y,H1,I1,r1,q1⟩=> ?_) hs;exact tR I1 hN hi hx r1 (fun s2 I2=>⟨_,H1,I2,q1⟩) hf
inductive Th(i:Nat)(te:TE)(ti:UW)(D:iD)(σ:St)(H:Hp):Prop|m:∀x,σ[i]? =some (some x)->(te σ H fun y H1=>ti x y H1 fun z H2=>D.nx (σ.set i (some z)) H2)->Th i te ti D σ H
theorem lC{op:al3}{ti:UW}(hN:X.N.Nodup)(hi:X.N[i]? =some x)(hx:NX X.env.scope x)(he:PE X e te)(ho:UT X op ti)(hf:X.fn x=true\/X.env.scope.names.lookup x=some .local:=by first|exact .inl rfl|exact .inr rfl|assumption):
  PS X (.AugAssign (.Name x iH) op e pos) (Th i te ti):=by
 intro pins s σ H D I h;obtain⟨v,e1,h⟩:=h;obtain⟨m,hn,hl⟩:=I.loc;have vis:Qg X.env.scope x:=by rcases hx with k|k;exact .inl k;exact .inr (.inl k)
 obtain⟨u,r,l⟩:=hl i x v hi e1 vis;refine wpAny_AugAssign_Name ?_;have go:wpAny (model X.prog X.w) X.A (eval e X.env) (fun w s₂=>wpAny (model X.prog X.w) X.A (inplaceOp op u w) (fun r s₃=>wpAny (model X.prog X.w) X.A (storeName X.env x r) (fun _=>SP X pins D .next) X.xe s₃) X.xe s₂) X.xe s:=by
  refine cK (he pins s σ H _ I h) fun w s1 ⟨y,H1,I1,r1,q1⟩=> ?_
  refine cK (ho pins s1 σ H1 v y u w _ I1 r r1 q1) fun z s2 ⟨zv,H2,I2,r2,q2⟩=> ?_
  exact tR I2 hN hi hx r2 (fun s3 I3=>⟨_,H2,I3,q2⟩) hf
 rcases l with⟨hk,hm⟩|⟨hk,c,hc,B9⟩
 .exact alg I.ok.kind hk hn hm go
 .rcases hk with hk|hk
  .exact alG I.ok.kind hk hc B9 go
  .rcases hx with k|k
   .have:X.env.scope.names.lookup x=some .free:=hk;rw[k]at this;cases this
   .have:X.env.scope.names.lookup x=some .free:=hk;rw[k]at this;cases this
inductive W7(f:Int->Int->Int)(x:V)(y:V)(H:Hp)(Q:VK):Prop|m:∀i j,x= .int i->y= .int j->Q (.int (f i j)) H->W7 f x y H Q
theorem mZ:UT X .Add (W7 fun i j=>i+j):=by
 intro pins s σ H x y v u Q I r1 r2 h;obtain⟨i,j,e1,e2,q⟩:=h;subst e1;subst e2;obtain⟨t,rfl⟩:=r1;obtain⟨t',rfl⟩:=r2;exact amH ⟨.int _,H,I.qM _,⟨_,rfl⟩,q⟩
theorem OK:UT X .Sub (W7 fun i j=>i-j):=by
 intro pins s σ H x y v u Q I r1 r2 h;obtain⟨i,j,e1,e2,q⟩:=h;subst e1;subst e2;obtain⟨t,rfl⟩:=r1;obtain⟨t',rfl⟩:=r2;exact isub_int ⟨.int _,H,I.qM _,⟨_,rfl⟩,q⟩
def tS(c:TT)(tb:TS):TS:=fun D σ H=>∃W:Nat->St->Hp->Prop,(∃m,W m σ H)/\∀m σ H,W m σ H->
 c σ H fun b H1=>if b=true then∃N:St->Hp->Prop,(∀σ' H',N σ' H'->∃m',m'<m/\W m' σ' H')/\tb {D with nx:=N,ct:=N,bk:=D.nx} σ H1 else D.nx σ H1
theorem sP{tc:TT}(hp:PassesOwn (model X.prog X.w) X.A X.env X.xe)(hc:PT X c tc)(hb:Bh X body tb):PS X (.While c body [] pos) (tS tc tb):=by
 intro pins s σ H D I h;obtain⟨W,⟨m0,w0⟩,Bb⟩:=h;refine wpAny_While (codeAny_whileLoop (fun n s'=>∃σ' H',bb X pins σ' H' s'/\W n σ' H') ?_ m0 ⟨σ,H,I,w0⟩);rintro n s1 ⟨σ1,H1,I1,w1⟩;refine ah1 hp (cK (hc pins s1 σ1 H1 _ I1 (Bb n σ1 H1 w1)) fun b s2 ⟨H2,I2,q2⟩=> ?_);cases b with
 |true=>
  obtain⟨N,hN,q2⟩:=q2;rw[afj rfl];refine ah1 hp (cK (hb pins s2 σ1 H2 _ I2 q2) fun f s3 q3=> ?_);cases f with
  |next=>
   obtain⟨σ3,H3,I3,n3⟩:=q3;obtain⟨m',hm,w3⟩:=hN σ3 H3 n3;exact⟨m',hm,σ3,H3,I3,w3⟩
  |cont=>
   obtain⟨σ3,H3,I3,n3⟩:=q3;obtain⟨m',hm,w3⟩:=hN σ3 H3 n3;exact⟨m',hm,σ3,H3,I3,w3⟩
  |brk=>exact q3
  |ret v=>exact q3
 |false=>
  rw[afe afP];exact ajJ ⟨σ1,H2,I2,q2⟩
structure It where
 go:Nat->Hp->Prop
 Di:Nat->Hp->V->Hp->Prop
 ju:Nat->Hp->Prop
def qy(X:Cx)(pins:List (afd×Obj))(H:Hp)(b:afd):Prop:=
 H b=none/\b≠X.env.locals/\b∉X.fs/\(b∈X.ex\/X.s_0.heap.objs.size<=b)/\(∀x c,X.env.cells.lookup x=some c->c≠b)/\∀p∈X.pn++pins,p.1≠b
theorem bb.wm(I:bb X pins σ H s)(hb:s.heap.objs.size<=b)(hn:H' b=none):qy X pins H' b:=by
 refine⟨hn,aii (agk I.lt hb),I.Xq hb,.inr (afw I.sz hb),fun x c e z=> ?_,fun p hp z=> ?_⟩
 .obtain⟨v,q⟩:=I.cell x c e;exact absurd (agk q.lt (by rw[z];exact hb)) (ahp _)
 .exact absurd (agk (afV (I.EO p hp).1) (by rw[z];exact hb)) (ahp _)
structure uh(P:afA)(w:af4)(K:afW)(tg:agR)(J:It)(fp:List afd)(it:afd)(tn:Nat->agg->Prop):Prop where
 mem:it∈fp
 obj:∀i h,tn i h->∀b∈fp,∃o,h.get? b=some o/\∀v,o.data≠ .cell v
 keep:∀i h h',tn i h->(∀b∈fp,∀o,h.get? b=some o->h'.get? b=some o)->tn i h'
 item:∀(X:Cx),X.prog=P->X.w=w->X.K=K->X.calm=true->∀(i:Nat) (pins:List (afd×Obj)) (s:afC) (σ:St) (H:Hp) (E:afg->afC->Prop),bb X pins σ H s->(∀b∈fp,qy X pins H b)->tn i s.heap->J.go i H->
  wpAny (model P w) X.A (pyNext (.ref it)) (fun r s1=>∃u,r=some u/\
   wpAny (model P w) X.A (letOwnedTupleGo tg (.ref it) u) (fun _ s2=>∃x H',bb X pins σ H' s2/\bE x u/\J.Di i H x H'/\tn (i+1) s2.heap/\∀b∈fp,H' b=none) E s1) E s
 done:∀(X:Cx),X.prog=P->X.w=w->X.K=K->X.calm=true->∀(i:Nat) (pins:List (afd×Obj)) (s:afC) (σ:St) (H:Hp) (E:afg->afC->Prop),bb X pins σ H s->(∀b∈fp,qy X pins H b)->tn i s.heap->J.ju i H->
  wpAny (model P w) X.A (pyNext (.ref it)) (fun r s1=>r=none/\bb X pins σ H s1) E s
 self:∀(A:ahF) (i:Nat) (s:afC) (Q:afg->afC->Prop) (E:afg->afC->Prop),tn i s.heap->Q (.ref it) s->wpAny (model P w) A (pyIter (.ref it)) Q E s
abbrev TI:=St->Hp->(It->Hp->Prop)->Prop
def US(X:Cx)(pins:List (afd×Obj))(σ:St)(tg:agR)(R:It->Hp->Prop)(W8:afg)(s2:afC):Prop:=
 ∃(it:afd) (fp:List afd) (tn:Nat->agg->Prop) (J:It) (H':Hp),W8= .ref it/\bb X pins σ H' s2/\uh X.prog X.w X.K tg J fp it tn/\tn 0 s2.heap/\(∀b∈fp,qy X pins H' b)/\R J H'
def PI(X:Cx)(tg iter:agR)(wi:TI):Prop:=
 ∀(pins:List (afd×Obj)) (s:afC) (σ:St) (H:Hp) (R:It->Hp->Prop),bb X pins σ H s->wi σ H R->
  wpAny (model X.prog X.w) X.A (eval iter X.env) (fun v s1=>wpAny (model X.prog X.w) X.A (pyIter v) (US X pins σ tg R) X.xe s1) X.xe s
theorem yx{o:Obj}{n:String}{vs:Array afg}{Q:Unit->afC->Prop}(ho:s.heap.get? it=some o)(hc:o.cls= .type n)(hd:o.data= .fields vs)
  (hn:["enumerate","zip","dict_itemiterator","dict_reverseitemiterator","odict_iterator","itertools.zip_longest","itertools.pairwise"].contains n=false) (hQ:Q () s):wpAny M A (letOwnedTupleGo tg (.ref it) u) Q E s:=by
 unfold letOwnedTupleGo;cases tg<;>first
  |exact afZ hQ
  |(cases u<;>first
    |exact afZ hQ
    |(refine afi (wpAny_load ho ?_)
      rw[hc,hd];show wpAny M A (if(["enumerate","zip","dict_itemiterator","dict_reverseitemiterator","odict_iterator","itertools.zip_longest","itertools.pairwise"].contains n&&vs[0]? ==some (rawInt _))=true then _ else _) Q E s;rw[afe (by intro h;rw[hn,ai5]at h;cases h)];exact afZ hQ))
def Fx(K:afW)(a:afd):It:=
 ⟨fun i H=>∃xs x,aJ K H a xs/\xs[i]? =some x,fun i H x H'=>H'=H/\∀xs,aJ K H a xs->xs[i]? =some x,fun i H=>∃xs,aJ K H a xs/\xs.length<=i⟩
def QM(K:afW)(a:afd):It:=
 ⟨fun i H=>∃xs x,gF K H a xs/\xs[i]? =some x,fun i H x H'=>H'=H/\∀xs,gF K H a xs->xs[i]? =some x,fun i H=>∃xs,gF K H a xs/\xs.length<=i⟩
def Qb(lo:Int)(n:Nat):It:=⟨fun i _=>i<n,fun i H x H'=>H'=H/\x= .int (lo+i),fun i _=>n<=i⟩
theorem Fh(a it:afd):uh P w K tg (Fx K a) [it] it (fun i h=>h.IsListIter it a i)where
 mem:=by simp
 obj:=fun i h st b hb=>by
  have e:b=it:=by simpa using hb
  subst e;obtain⟨o,e,c,d⟩:=st;exact⟨o,e,fun v z=>by rw[d]at z;cases z⟩
 keep:=fun i h h' st k=>st.at fun o e=>k it (by simp) o e
 item:=by
  intro X hP hw hK hc i pins s σ H E I hf st hg;subst hP hw hK;obtain⟨xs,x,hq,hx⟩:=hg;obtain⟨aR,rv,p,hz⟩:=I.list hq;obtain⟨u,hu,ru⟩:=rv.get hx;obtain⟨f0,f1,f2,f3,f4,f5⟩:=hf it (by simp);refine wpAny_pyNext_list_item st p.isList (x:=u) (by simpa using hu) fun h' Dc sb=> ?_
  have I1:bb X pins σ H {s with heap:=h'}:=I.gC (t':=s.toks) (fun b o hb e=>(sb.2 b hb).trans e) f0 f1 f3 f4 f5;obtain⟨o,e,c,d⟩:=id Dc;exact⟨u,rfl,yx (s:={s with heap:=h'}) e c d (by decide) ⟨x,H,I1,ru,⟨rfl,fun ys hy=>by rw[I.oA hy hq];exact hx⟩,Dc,fun b hb=>(hf b hb).1⟩⟩
 done:=by
  intro X hP hw hK hc i pins s σ H E I hf st hg;subst hP hw hK;obtain⟨xs,hq,hx⟩:=hg;obtain⟨aR,rv,p,hz⟩:=I.list hq;obtain⟨f0,f1,f2,f3,f4,f5⟩:=hf it (by simp);have hl:=rv.length;exact wpAny_pyNext_list_end (I.ok.hd hc) st p.isList (by simp;omega) fun h' eb=>⟨rfl,I.gC (t':=s.toks) (fun b o hb e=>eb b o hb e) f0 f1 f3 f4 f5⟩
 self:=fun _ _ _ _ _ st h=>wpAny_pyIter_listiter st h
theorem Be(a it:afd):uh P w K tg (QM K a) [it] it (fun i h=>h.IsTupleIter it a i)where
 mem:=by simp
 obj:=fun i h st b hb=>by
  have e:b=it:=by simpa using hb
  subst e;obtain⟨o,e,c,d⟩:=st;exact⟨o,e,fun v z=>by rw[d]at z;cases z⟩
 keep:=fun i h h' st k=>st.at fun o e=>k it (by simp) o e
 item:=by
  intro X hP hw hK hc i pins s σ H E I hf st hg;subst hP hw hK;obtain⟨xs,x,hq,hx⟩:=hg;obtain⟨aR,rv,p,hz⟩:=I.tuple hq;obtain⟨u,hu,ru⟩:=rv.get hx;obtain⟨f0,f1,f2,f3,f4,f5⟩:=hf it (by simp);refine wpAny_pyNext_tuple_item st (show s.heap.IsTuple a aR.toArray from p) (x:=u) (by simpa using hu) fun h' Dc sb=> ?_
  have I1:bb X pins σ H {s with heap:=h'}:=I.gC (t':=s.toks) (fun b o hb e=>(sb.2 b hb).trans e) f0 f1 f3 f4 f5;obtain⟨o,e,c,d⟩:=id Dc;exact⟨u,rfl,yx (s:={s with heap:=h'}) e c d (by decide) ⟨x,H,I1,ru,⟨rfl,fun ys hy=>by rw[I.vK hy hq];exact hx⟩,Dc,fun b hb=>(hf b hb).1⟩⟩
 done:=by
  intro X hP hw hK hc i pins s σ H E I hf st hg;subst hP hw hK;obtain⟨xs,hq,hx⟩:=hg;obtain⟨aR,rv,p,hz⟩:=I.tuple hq;obtain⟨f0,f1,f2,f3,f4,f5⟩:=hf it (by simp);have hl:=rv.length;exact wpAny_pyNext_tuple_end (I.ok.hd hc) st (show s.heap.IsTuple a aR.toArray from p) (by simp;omega) fun h' eb=>⟨rfl,I.gC (t':=s.toks) (fun b o hb e=>eb b o hb e) f0 f1 f3 f4 f5⟩
 self:=fun _ _ _ _ _ st h=>wpAny_pyIter_tupleiter st h
theorem Bd(it:afd)(lo:Int)(n:Nat):uh P w K tg (Qb lo n) [it] it (fun i h=>alh h it (lo+(i:Nat)*1) ((n:Int)-(i:Nat)) 1)where
 mem:=by simp
 obj:=fun i h st b hb=>by
  have e:b=it:=by simpa using hb
  subst e;exact⟨_,st,fun v z=>by
   have z':Data.fields _=Data.cell v:=z;cases z'⟩
 keep:=fun i h h' st k=>k it (by simp) _ st
 item:=by
  intro X hP hw hK hc i pins s σ H E I hf st hg;subst hP hw hK;obtain⟨f0,f1,f2,f3,f4,f5⟩:=hf it (by simp);have W:=anL (prog:=X.prog) (w:=X.w) (I.ok.hd hc) it lo 1 n;refine W.item i s _ _ hg st fun v h' tk hv Dc kk=> ?_
  obtain⟨t,rfl⟩:=hv;have I1:bb X pins σ H {s with heap:=h',toks:=tk}:=I.gC (fun b o hb e=>kk b o (by simpa using hb) e) f0 f1 f3 f4 f5;refine⟨_,rfl,yx (s:={s with heap:=h',toks:=tk}) (n:="range_iterator") Dc rfl rfl (by decide) ⟨.int (lo+i),H,I1,⟨t,?_⟩,⟨rfl,rfl⟩,Dc,fun b hb=>(hf b hb).1⟩⟩;rw[Int.mul_one]
 done:=by
  intro X hP hw hK hc i pins s σ H E I hf st hg;subst hP hw hK;obtain⟨f0,f1,f2,f3,f4,f5⟩:=hf it (by simp);exact akQ (I.ok.hd hc) st (by have:n<=i:=hg;omega) fun h' eb=>⟨rfl,I.gC (t':=s.toks) (fun b o hb e=>eb b o hb e) f0 f1 f3 f4 f5⟩
 self:=fun _ _ _ _ _ st h=>akR st h
inductive GX(K:afW)(R:It->Hp->Prop)(x:V)(H1:Hp):Prop|m:∀a,x= .ref a->(∃xs,aJ K H1 a xs)->R (Fx K a) H1->GX K R x H1
def Si(K:afW)(tl:TE):TI:=fun σ H R=>tl σ H fun x H1=>GX K R x H1
inductive Nh(K:afW)(R:It->Hp->Prop)(x:V)(H1:Hp):Prop|m:∀a,x= .ref a->(∃xs,gF K H1 a xs)->R (QM K a) H1->Nh K R x H1
def W5(K:afW)(tl:TE):TI:=fun σ H R=>tl σ H fun x H1=>Nh K R x H1
theorem bO{l:agR}{tl:TE}(hl:PE X l tl):PI X tg l (Si X.K tl):=by
 intro pins s σ H R I h;refine cK (hl pins s σ H _ I h) fun v s1 ⟨x,H1,I1,r1,q1⟩=> ?_
 obtain⟨a,e,⟨xs,hq⟩,q⟩:=q1;subst e;cases r1;obtain⟨aR,rv,p,hz⟩:=I1.list hq;refine ahq p.isList ?_;refine⟨s1.heap.objs.size,[s1.heap.objs.size],_,_,H1,rfl,I1.kept (t':=s1.toks) fun b o e=>afm _ e,Fh a _,⟨_,afI _ rfl,rfl,rfl⟩,fun b hb=> ?_,q⟩;have e:b=s1.heap.objs.size:=by simpa using hb
 subst e;exact I1.wm (afp _) (I1.dc.fresh (afp _))
theorem Pj{l:agR}{tl:TE}(hl:PE X l tl):PI X tg l (W5 X.K tl):=by
 intro pins s σ H R I h;refine cK (hl pins s σ H _ I h) fun v s1 ⟨x,H1,I1,r1,q1⟩=> ?_
 obtain⟨a,e,⟨xs,hq⟩,q⟩:=q1;subst e;cases r1;obtain⟨aR,rv,p,hz⟩:=I1.tuple hq;refine alP (show s1.heap.IsTuple a aR.toArray from p) ?_;refine⟨s1.heap.objs.size,[s1.heap.objs.size],_,_,H1,rfl,I1.kept (t':=s1.toks) fun b o e=>afm _ e,Be a _,⟨_,afI _ rfl,rfl,rfl⟩,fun b hb=> ?_,q⟩;have e:b=s1.heap.objs.size:=by simpa using hb
 subst e;exact I1.wm (afp _) (I1.dc.fresh (afp _))
theorem Iz{R:It->Hp->Prop}{lo hi:Int}{t u v:Tok}{tk:Nat}(I:bb X pins σ H s)(h1: -(2^62)<=lo)(h2:lo<2^62)(h3: -(2^62)<=hi)(h4:hi<2^62)
  (q:R (Qb lo (hi-lo).toNat) H):wpAny (model X.prog X.w) X.A (pyIter (.ref s.heap.objs.size)) (US X pins σ tg R) E {s with heap:=s.heap.push {cls:= .type "range",data:= .fields #[.int lo t,.int hi u,.int 1 v]},toks:=tk}:=by
 refine alQ (anM ..) (small_one h1 h2 h3 h4) ?_;have I1:bb X pins σ H {s with heap:=s.heap.push {cls:= .type "range",data:= .fields #[.int lo t,.int hi u,.int 1 v]},toks:=tk}:=I.kept fun b o e=>afm _ e
 refine⟨(s.heap.push {cls:= .type "range",data:= .fields #[.int lo t,.int hi u,.int 1 v]}).objs.size,[(s.heap.push {cls:= .type "range",data:= .fields #[.int lo t,.int hi u,.int 1 v]}).objs.size],_,_,H,rfl,
  I1.kept (t':=tk) fun b o e=>afm _ e,Bd _ lo (hi-lo).toNat,?_,fun b hb=> ?_,q⟩
 .have e1:lo+((0:Nat):Int)*1=lo:=by simp
  have e2:(((hi-lo).toNat:Nat):Int)-((0:Nat):Int)=aiW lo hi 1:=by rw[rangeSize_one];split<;>omega
  show alh _ _ (lo+((0:Nat):Int)*1) ((((hi-lo).toNat:Nat):Int)-((0:Nat):Int)) 1;rw[e1,e2];exact afI _ rfl
 .have e:b=(s.heap.push {cls:= .type "range",data:= .fields #[.int lo t,.int hi u,.int 1 v]}).objs.size:=by simpa using hb
  subst e;exact I1.wm (afp _) (I1.dc.fresh (afp _))
inductive GY(R:It->Hp->Prop)(vs:List V)(H1:Hp):Prop|m:∀(i j:Int),vs=[.int i,.int j]->(-(2^62)<=i/\i<2^62/\-(2^62)<=j/\j<2^62)->R (Qb i (j-i).toNat) H1->GY R vs H1
def Sj(ta:TA):TI:=fun σ H R=>ta σ H fun vs H1=>GY R vs H1
theorem EM{a b:agR}{ta:TA}(hg:Gl X "range")(hm:X.mg "range"=none)(ha:PA X [a,b] ta)(hs:starEach [a,b] X.env=[(false,eval a X.env),(false,eval b X.env)]:=by rfl)(OE:starEach [b] X.env=[(false,eval b X.env)]:=by rfl):
  PI X tg (.Call (.Name "range" p) [a,b] [] pos) (Sj ta):=by
 intro pins s σ H R I h;refine Call_ (j0 I hg hm boot_range (ag4 (cK (ha pos pins s σ H _ I h) fun us s1 ⟨vs,H1,I1,r1,q1⟩=> ?_) (by rw[hs,OE]) (by rw[OE];rfl)));obtain⟨i,j,e,⟨q1,q2,q3,q4⟩,q⟩:=q1;subst e;cases r1 with
 |cons r rr=>
  cases rr with
  |cons r' rr=>
   cases rr;obtain⟨t,rfl⟩:=r;obtain⟨t',rfl⟩:=r';exact call_range_2 (Iz I1 q1 q2 q3 q4 q)
def XT(wi:TI)(g:TG)(tb:TS):TS:=fun D σ H=>wi σ H fun J H1=>∃W:Nat->Nat->St->Hp->Prop,(∃m,W 0 m σ H1)/\∀i m σ H,W i m σ H->
 (J.ju i H/\D.nx σ H)\/(J.go i H/\∃N:St->Hp->Prop,(∀σ' H',N σ' H'->∃m',m'<m/\W (i+1) m' σ' H')/\∀x H',J.Di i H x H'->g x σ H' fun σ2 H2=>tb {D with nx:=N,ct:=N,bk:=D.nx} σ2 H2)
def sO(fp:List afd)(h:agg):List (afd×Obj):=fp.filterMap fun b=>(h.get? b).map fun o=>(b,o)
theorem nh{o:Obj}(hb:b∈fp)(e:h.get? b=some o):(b,o)∈sO fp h:=aj9.mpr ⟨b,hb,by rw[e];rfl⟩
theorem Ef{p:afd×Obj}(hp:p∈sO fp h):p.1∈fp/\h.get? p.1=some p.2:=by
 obtain⟨b,hb,e⟩:=aj9.mp hp;cases q:h.get? b with
 |none=>rw[q]at e;cases e
 |some o=>
  rw[q]at e;have e':(b,o)=p:=afv e;subst e';exact⟨hb,q⟩
theorem bb.Iq(I:bb X pins σ H s)(hf:∀b∈fp,qy X pins H b)(ho:∀b∈fp,∃o,s.heap.get? b=some o/\∀v,o.data≠ .cell v):bb X (pins++sO fp s.heap) σ H s:=
 I.CF fun p hp=>(afN.mp hp).elim (fun z=>I.EO p (afK _ z)) fun z=>by
  obtain⟨hb,e⟩:=Ef z;obtain⟨f0,f1,f2,_⟩:=hf p.1 hb;obtain⟨o,e',d⟩:=ho p.1 hb;rw[e]at e';cases e';exact⟨e,f0,f1,f2,d⟩
theorem bb.o8{pl:List (afd×Obj)}(I:bb X (pins++pl) σ H s):bb X pins σ H s:=I.CF fun p hp=>I.EO p (afK _ (af0 _ hp))
theorem cM(hp:PassesOwn (model X.prog X.w) X.A X.env X.xe)(hc:X.calm=true)(hi:PI X tg iter wi)(hg:PG X tg g)(hb:Bh X body tb)
  (hs:∀x,foldedSetIterable iter X.env x=pure x:=by intro _;rfl):PS X (.For tg iter body [] pos) (XT wi g tb):=by
 intro pins s σ H D I h;refine wpAny_For (cK (hi pins s σ H _ I h) fun v s1 h1=>cK h1 fun W8 s2 h2=> ?_) hs;obtain⟨it,fp,tn,J,H2,e,I2,T,NQ,f2,W,⟨m0,w0⟩,Bb⟩:=h2;subst e;have A3:∀{H':Hp},(∀b∈fp,H' b=none)->∀b∈fp,qy X pins H' b:=fun hn b hb=>⟨hn b hb,(f2 b hb).2⟩
 refine codeAny_forLoop_any (fun n s'=>∃i σ' H',bb X pins σ' H' s'/\tn i s'.heap/\(∀b∈fp,H' b=none)/\W i n σ' H') ?_ m0 ⟨0,σ,H2,I2,NQ,fun b hb=>(f2 b hb).1,w0⟩;rintro n s3 ⟨i,σ3,H3,I3,UE,YB,w3⟩;rcases Bb i n σ3 H3 w3 with⟨ju,qn⟩|⟨go,N,hN,step⟩
 .refine ah1 hp (cK (T.done X rfl rfl rfl hc i pins s3 σ3 H3 X.xe I3 (A3 YB) UE ju) fun r s4 ⟨hr,I4⟩=> ?_);subst hr;exact ajJ ⟨σ3,H3,I4,qn⟩
 .refine ah1 hp (cK (T.item X rfl rfl rfl hc i pins s3 σ3 H3 X.xe I3 (A3 YB) UE go) fun r s4 ⟨u,hr,h4⟩=> ?_);subst hr;refine ah1 hp (cK h4 fun _ s5 ⟨x,H5,I5,r5,y5,QE,fr5⟩=> ?_);have I5':=I5.Iq (A3 fr5) (T.obj _ _ QE);refine ah1 hp (cK (hg _ s5 σ3 H5 x u _ I5' r5 (step x H5 y5)) fun _ s6 ⟨σ6,H6,I6,q6⟩=> ?_);refine ah1 hp (cK (hb _ s6 σ6 H6 _ I6 q6) fun f s7 q7=> ?_);have again:∀{σ7:St} {H7:Hp},bb X (pins++sO fp s5.heap) σ7 H7 s7->N σ7 H7->∃m,m<n/\∃i σ' H',bb X pins σ' H' s7/\tn i s7.heap/\(∀b∈fp,H' b=none)/\W i m σ' H':=fun{σ7 H7} I7 n7=>by
   obtain⟨m',hm,w7⟩:=hN σ7 H7 n7;refine⟨m',hm,i+1,σ7,H7,I7.o8,T.keep _ _ _ QE fun b hb o e=>(I7.EO (b,o) (afK _ (afK _ (nh hb e)))).1,fun b hb=> ?_,w7⟩;obtain⟨o,e,d⟩:=T.obj _ _ QE b hb;exact(I7.EO (b,o) (afK _ (afK _ (nh hb e)))).2.1
  cases f with
  |next=>obtain⟨σ7,H7,I7,n7⟩:=q7;exact again I7 n7
  |cont=>obtain⟨σ7,H7,I7,n7⟩:=q7;exact again I7 n7
  |brk=>obtain⟨σ7,H7,I7,q7⟩:=q7;exact⟨σ7,H7,I7.o8,q7⟩
  |ret v=>obtain⟨x7,σ7,H7,I7,r7,q7⟩:=q7;exact⟨x7,σ7,H7,I7.o8,r7,q7⟩
theorem cV(Pv:Nat->St->Hp->Prop)(h0:Pv 0 σ H)(hl:∀i σ H,i<=xs.length->Pv i σ H->aJ K H a xs)
  (hs:∀i x σ H,xs[i]? =some x->Pv i σ H->g x σ H fun σ2 H2=>tb {D with nx:=Pv (i+1),ct:=Pv (i+1),bk:=D.nx} σ2 H2) (hd:∀σ H,Pv xs.length σ H->D.nx σ H):
  ∃W:Nat->Nat->St->Hp->Prop,(∃m,W 0 m σ H)/\∀i m σ H,W i m σ H->
   ((Fx K a).ju i H/\D.nx σ H)\/((Fx K a).go i H/\∃N:St->Hp->Prop,(∀σ' H',N σ' H'->∃m',m'<m/\W (i+1) m' σ' H')/\∀x H',(Fx K a).Di i H x H'->g x σ H' fun σ2 H2=>tb {D with nx:=N,ct:=N,bk:=D.nx} σ2 H2):=by
 refine⟨fun i m σ H=>m=xs.length-i/\i<=xs.length/\Pv i σ H,⟨xs.length,by simp,afH _,h0⟩,?_⟩;rintro i m σ H ⟨rfl,hi,p⟩;have q:=hl i σ H hi p;by_cases iF:i<xs.length
 .refine .inr ⟨⟨xs,xs[i],q,by simp[iF]⟩,Pv (i+1),fun σ' H' p'=>⟨xs.length-(i+1),by omega,rfl,iF,p'⟩,fun x H' y=> ?_⟩;obtain⟨e,y⟩:=y;subst e;exact hs i x σ _ (y xs q) p
 .have e:i=xs.length:=by omega
  subst e;exact .inl ⟨⟨xs,q,afp _⟩,hd σ H p⟩
theorem DL{lo:Int}(Pv:Nat->St->Hp->Prop)(h0:Pv 0 σ H)
  (hs:∀i σ H,i<n->Pv i σ H->g (.int (lo+i)) σ H fun σ2 H2=>tb {D with nx:=Pv (i+1),ct:=Pv (i+1),bk:=D.nx} σ2 H2) (hd:∀σ H,Pv n σ H->D.nx σ H):
  ∃W:Nat->Nat->St->Hp->Prop,(∃m,W 0 m σ H)/\∀i m σ H,W i m σ H->
   ((Qb lo n).ju i H/\D.nx σ H)\/((Qb lo n).go i H/\∃N:St->Hp->Prop,(∀σ' H',N σ' H'->∃m',m'<m/\W (i+1) m' σ' H')/\∀x H',(Qb lo n).Di i H x H'->g x σ H' fun σ2 H2=>tb {D with nx:=N,ct:=N,bk:=D.nx} σ2 H2):=by
 refine⟨fun i m σ H=>m=n-i/\i<=n/\Pv i σ H,⟨n,by simp,afH _,h0⟩,?_⟩;rintro i m σ H ⟨rfl,hi,p⟩;by_cases iF:i<n
 .refine .inr ⟨iF,Pv (i+1),fun σ' H' p'=>⟨n-(i+1),by omega,rfl,iF,p'⟩,fun x H' y=> ?_⟩;obtain⟨e,y⟩:=y;subst e y;exact hs i σ _ iF p
 .have e:i=n:=by omega
  subst e;exact .inl ⟨afp _,hd σ H p⟩
theorem tX{c:TT}(Pv:St->Hp->Prop)(μ:St->Hp->Nat)(h0:Pv σ H)
  (hs:∀σ H,Pv σ H->c σ H fun b H1=>if b=true then tb {D with nx:=fun σ' H'=>Pv σ' H'/\μ σ' H'<μ σ H,ct:=fun σ' H'=>Pv σ' H'/\μ σ' H'<μ σ H,bk:=D.nx} σ H1 else D.nx σ H1)
  (fJ:∀σ H Q Q',(∀b H1,Q b H1->Q' b H1)->c σ H Q->c σ H Q'):tS c tb D σ H:=by
 refine⟨fun m σ H=>m=μ σ H/\Pv σ H,⟨_,rfl,h0⟩,?_⟩;rintro m σ H ⟨rfl,p⟩;refine fJ σ H _ _ (fun b H1 q=> ?_) (hs σ H p);cases b with
 |true=>exact⟨_,fun σ' H' ⟨p',l⟩=>⟨_,l,rfl,p'⟩,q⟩
 |false=>exact q
abbrev R2:=V->V->Hp->VK->Prop
def nY(X:Cx)(f:afg->afg->Sem afg)(r:R2):Prop:=
 ∀(pins:List (afd×Obj)) (s:afC) (σ:St) (H:Hp) (x y:V) (v u:afg) (Q:VK),bb X pins σ H s->bE x v->bE y u->r x y H Q->
  wpAny (model X.prog X.w) X.A (f v u) (EP X pins σ Q) X.xe s
def UX(X:Cx)(f:afg->Sem afg)(r:V->Hp->VK->Prop):Prop:=
 ∀(pins:List (afd×Obj)) (s:afC) (σ:St) (H:Hp) (x:V) (v:afg) (Q:VK),bb X pins σ H s->bE x v->r x H Q->
  wpAny (model X.prog X.w) X.A (f v) (EP X pins σ Q) X.xe s
def p9(X:Cx)(f:afg)(r:List V->Hp->VK->Prop):Prop:=
 ∀(pins:List (afd×Obj)) (s:afC) (σ:St) (H:Hp) (xs:List V) (us:List afg) (Q:VK),bb X pins σ H s->bo xs us->r xs H Q->
  wpAny (model X.prog X.w) X.A (call f us) (EP X pins σ Q) X.xe s
def UJ(r:R2)(ta tb:TE):TE:=fun σ H Q=>ta σ H fun x H1=>tb σ H1 fun y H2=>r x y H2 Q
def tUn(r:V->Hp->VK->Prop)(ta:TE):TE:=fun σ H Q=>ta σ H fun x H1=>r x H1 Q
inductive Lp(g:Int->Int->V)(x:V)(y:V)(H:Hp)(Q:VK):Prop|m:∀i j,x= .int i->y= .int j->Q (g i j) H->Lp g x y H Q
inductive rU(g:Int->V)(x:V)(H:Hp)(Q:VK):Prop|m:∀i,x= .int i->Q (g i) H->rU g x H Q
section
variable{a b:agR}{tb tc:TE}
theorem N6(ha:PE X a ta)(hb:PE X b tb){R:V->V->Hp->Prop}(I:bb X pins σ H s)
  (h:ta σ H fun x H1=>tb σ H1 fun y H2=>R x y H2) {Q:afg->afC->Prop} {f:afg->afg->Sem afg}
  (hf:∀v u s2 x y H2,bb X pins σ H2 s2->bE x v->bE y u->R x y H2->wpAny (model X.prog X.w) X.A (f v u) Q X.xe s2):
  wpAny (model X.prog X.w) X.A (eval a X.env) (fun v s₁=>wpAny (model X.prog X.w) X.A (eval b X.env) (fun u s₂=>wpAny (model X.prog X.w) X.A (f v u) Q X.xe s₂) X.xe s₁) X.xe s:=by
 refine cK (ha pins s σ H _ I h) fun v s1 ⟨x,H1,I1,r1,q1⟩=> ?_
 refine cK (hb pins s1 σ H1 _ I1 q1) fun u s2 ⟨y,H2,I2,r2,q2⟩=> ?_
 exact hf v u s2 x y H2 I2 r1 r2 q2
theorem bx{op:al3}{r:R2}(ho:nY X (binaryOp op) r)(ha:PE X a ta)(hb:PE X b tb):PE X (.BinOp a op b pos) (UJ r ta tb):=by
 intro pins s σ H Q I h;exact wpAny_BinOp (N6 ha hb I h fun v u s2 x y H2 I2 rx ry q=>ho pins s2 σ H2 x y v u Q I2 rx ry q)
theorem CD{op:UnaryOp}{r:V->Hp->VK->Prop}(ho:UX X (unaryOp op) r)(ha:PE X a ta):PE X (.UnaryOp op a pos) (tUn r ta):=by
 intro pins s σ H Q I h;exact UnaryOp_ (cK (ha pins s σ H _ I h) fun v s1 ⟨x,H1,I1,r1,q1⟩=>ho pins s1 σ H1 x v Q I1 r1 q1)
theorem SM{f:afg->afg->Sem afg}{g:Int->Int->Int}
  (rule:∀(i j:Int) (t u:Tok) (s:afC) (Q:afg->afC->Prop) (E:afg->afC->Prop),Q (.int (g i j) s.toks) {s with toks:=s.toks+1}->wpAny (model X.prog X.w) X.A (f (.int i t) (.int j u)) Q E s):
  nY X f (Lp fun i j=> .int (g i j)):=by
 intro pins s σ H x y v u Q I rx ry h;obtain⟨i,j,rfl,rfl,q⟩:=h;obtain⟨t,rfl⟩:=rx;obtain⟨t',rfl⟩:=ry;exact rule i j t t' s _ _ ⟨.int (g i j),H,I.qM _,⟨_,rfl⟩,q⟩
theorem Lj{f:afg->afg->Sem afg}{g:Int->Int->Bool}
  (rule:∀(i j:Int) (t u:Tok) (s:afC) (Q:afg->afC->Prop) (E:afg->afC->Prop),Q (.bool (g i j)) s->wpAny (model X.prog X.w) X.A (f (.int i t) (.int j u)) Q E s):
  nY X f (Lp fun i j=> .bl (g i j)):=by
 intro pins s σ H x y v u Q I rx ry h;obtain⟨i,j,rfl,rfl,q⟩:=h;obtain⟨t,rfl⟩:=rx;obtain⟨t',rfl⟩:=ry;exact rule i j t t' s _ _ ⟨.bl (g i j),H,I,rfl,q⟩
theorem eh:nY X (binaryOp .Add) (Lp fun i j=> .int (i+j)):=SM fun _ _ _ _ _ _ _ q=>add_int q
theorem j3:nY X (binaryOp .Sub) (Lp fun i j=> .int (i-j)):=SM fun _ _ _ _ _ _ _ q=>sub_int q
theorem unI{f:afg->Sem afg}{g:Int->Int}
  (rule:∀(i:Int) (t:Tok) (s:afC) (Q:afg->afC->Prop) (E:afg->afC->Prop),Q (.int (g i) s.toks) {s with toks:=s.toks+1}->wpAny (model X.prog X.w) X.A (f (.int i t)) Q E s):
  UX X f (rU fun i=> .int (g i)):=by
 intro pins s σ H x v Q I rx h;obtain⟨i,rfl,q⟩:=h;obtain⟨t,rfl⟩:=rx;exact rule i t s _ _ ⟨.int (g i),H,I.qM _,⟨_,rfl⟩,q⟩
theorem xR:UX X (unaryOp .USub) (rU fun i=> .int (-i)):=unI fun _ _ _ _ _ q=>neg_int q
end
def Tc:V->V->Bool
 | .gw,.gw=>true| .gw,.int _=>true| .int _,.gw=>true| .gw,.bl _=>true| .bl _,.gw=>true| .gw,.str _=>true| .str _,.gw=>true
 | .int _,.int _=>true| .bl _,.bl _=>true| .str _,.str _=>true| .zK _,.zK _=>true
 | .int _,.str _=>true| .str _,.int _=>true| .bl _,.str _=>true| .str _,.bl _=>true
 |_,_=>false
def rEq:R2:=fun x y H Q=>Tc x y=true/\Q (.bl (decide (x=y))) H
def rNe:R2:=fun x y H Q=>Tc x y=true/\Q (.bl (!decide (x=y))) H
theorem BR{i j:Int}:decide (V.int i=V.int j)=(i==j):=by
 rw[ah2];simp
theorem Gn{i j:Bool}:decide (V.bl i=V.bl j)=(i==j):=by
 rw[ah2];simp
theorem BS{i j:Str}:decide (V.str i=V.str j)=(i==j):=by
 rw[ah2];simp
theorem BQ{i j:Array UInt8}:decide (V.zK i=V.zK j)=(i.toList==j.toList):=by
 rw[ah2];cases i;cases j;simp
section
variable{a b:agR}{tb tc:TE}
theorem cx{Q:VK}{k k':Bool}(I:bb X pins σ H s)(q:Q (.bl k) H)(e:k=k'):EP X pins σ Q (.bool k') s:=by
 subst e;exact⟨.bl k,H,I,rfl,q⟩
theorem fU:nY X (compareOp .Eq) rEq:=by
 intro pins s σ H x y v u Q I rx ry h;obtain⟨hs,q⟩:=h;cases x with
 |gw=>
  cases rx;cases y with
  |gw=>cases ry;exact amZ (cx I q (by simp))
  |bl j=>cases ry;exact am0 (cx I q (by simp))
  |int j=>obtain⟨t',rfl⟩:=ry;exact ana (cx I q (by simp))
  |str j=>obtain⟨t',rfl⟩:=ry;exact anb (cx I q (by simp))
  |_=>exact absurd (show false=true from hs) afP
 |bl i=>
  cases rx;cases y with
  |gw=>cases ry;exact am1 (cx I q (by simp))
  |bl j=>cases ry;exact eq_bool (cx I q Gn)
  |str j=>obtain⟨t',rfl⟩:=ry;exact am2 (cx I q (by simp))
  |_=>exact absurd (show false=true from hs) afP
 |int i=>
  obtain⟨t,rfl⟩:=rx;cases y with
  |gw=>cases ry;exact anc (cx I q (by simp))
  |int j=>obtain⟨t',rfl⟩:=ry;exact eq_int (cx I q BR)
  |str j=>obtain⟨t',rfl⟩:=ry;exact ane (cx I q (by simp))
  |_=>exact absurd (show false=true from hs) afP
 |str i=>
  obtain⟨t,rfl⟩:=rx;cases y with
  |gw=>cases ry;exact anf (cx I q (by simp))
  |bl j=>cases ry;exact am3 (cx I q (by simp))
  |int j=>obtain⟨t',rfl⟩:=ry;exact ang (cx I q (by simp))
  |str j=>obtain⟨t',rfl⟩:=ry;exact eq_str (cx I q BS)
  |_=>exact absurd (show false=true from hs) afP
 |zK i=>
  obtain⟨t,rfl⟩:=rx;cases y with
  |zK j=>obtain⟨t',rfl⟩:=ry;exact PySem.W.eq_bytes (cx I q BQ)
  |_=>exact absurd (show false=true from hs) afP
 |_=>cases y<;>exact absurd (show false=true from hs) afP
theorem yY:nY X (compareOp .NotEq) rNe:=by
 intro pins s σ H x y v u Q I rx ry h;obtain⟨hs,q⟩:=h;cases x with
 |gw=>
  cases rx;cases y with
  |gw=>cases ry;exact am4 (cx I q (by simp))
  |bl j=>cases ry;exact am5 (cx I q (by simp))
  |int j=>obtain⟨t',rfl⟩:=ry;exact anh (cx I q (by simp))
  |str j=>obtain⟨t',rfl⟩:=ry;exact ani (cx I q (by simp))
  |_=>exact absurd (show false=true from hs) afP
 |bl i=>
  cases rx;cases y with
  |gw=>cases ry;exact am6 (cx I q (by simp))
  |bl j=>cases ry;exact ne_bool (cx I q (congrArg not Gn))
  |str j=>obtain⟨t',rfl⟩:=ry;exact am7 (cx I q (by simp))
  |_=>exact absurd (show false=true from hs) afP
 |int i=>
  obtain⟨t,rfl⟩:=rx;cases y with
  |gw=>cases ry;exact anj (cx I q (by simp))
  |int j=>obtain⟨t',rfl⟩:=ry;exact ne_int (cx I q (congrArg not BR))
  |str j=>obtain⟨t',rfl⟩:=ry;exact ank (cx I q (by simp))
  |_=>exact absurd (show false=true from hs) afP
 |str i=>
  obtain⟨t,rfl⟩:=rx;cases y with
  |gw=>cases ry;exact anl (cx I q (by simp))
  |bl j=>cases ry;exact am8 (cx I q (by simp))
  |int j=>obtain⟨t',rfl⟩:=ry;exact anm (cx I q (by simp))
  |str j=>obtain⟨t',rfl⟩:=ry;exact ne_str (cx I q (congrArg not BS))
  |_=>exact absurd (show false=true from hs) afP
 |zK i=>
  obtain⟨t,rfl⟩:=rx;cases y with
  |zK j=>obtain⟨t',rfl⟩:=ry;exact PySem.W.ne_bytes (cx I q (congrArg not BQ))
  |_=>exact absurd (show false=true from hs) afP
 |_=>cases y<;>exact absurd (show false=true from hs) afP
theorem vm:nY X (compareOp .Lt) (Lp fun i j=> .bl (decide (i<j))):=Lj fun _ _ _ _ _ _ _ q=>lt_int q
theorem gT:nY X (compareOp .LtE) (Lp fun i j=> .bl (decide (i<=j))):=Lj fun _ _ _ _ _ _ _ q=>le_int q
theorem oF:nY X (compareOp .Gt) (Lp fun i j=> .bl (decide (j<i))):=Lj fun _ _ _ _ _ _ _ q=>gt_int q
theorem CA:nY X (compareOp .GtE) (Lp fun i j=> .bl (decide (j<=i))):=Lj fun _ _ _ _ _ _ _ q=>ge_int q
theorem bc(b:agR)(h:op≠ .In:=by decide)(h2:op≠ .NotIn:=by decide):behindInMarks op b=false:=by
 have e1:(op==CmpOp.In)=false:=by cases op<;>first|rfl|exact absurd rfl h
 have e2:(op==anK)=false:=by cases op<;>first|rfl|exact absurd rfl h2
 cases b<;>simp[behindInMarks,e1,e2]
theorem fM{r:R2}(ho:nY X (compareOp op) r)(ha:PE X a ta)(hb:PE X b tb)(hm:behindInMarks op b=false):PE X (.Compare a [op] [b] pos) (UJ r ta tb):=by
 intro pins s σ H Q I h;exact wpAny_Compare1 (N6 ha hb I h fun v u s2 x y H2 I2 rx ry q=>ho pins s2 σ H2 x y v u Q I2 rx ry q) hm
inductive G6(Q:Bool->Hp->Prop)(x:V)(H':Hp):Prop|m:∀k,x= .bl k->Q k H'->G6 Q x H'
def NT(t:TE):TT:=fun σ H Q=>t σ H fun x H'=>G6 Q x H'
theorem aX{r:R2}(ho:nY X (compareOp op) r)(ha:PE X a ta)(hb:PE X b tb)(hm:behindInMarks op b=false):PT X (.Compare a [op] [b] pos) (NT (UJ r ta tb)):=by
 intro pins s σ H Q I h;refine ak8 (cK (ha pins s σ H _ I h) fun v s1 ⟨x,H1,I1,r1,q1⟩=>cK (hb pins s1 σ H1 _ I1 q1) fun u s2 ⟨y,H2,I2,r2,q2⟩=>
  cK (ho pins s2 σ H2 x y v u _ I2 r1 r2 q2) fun c s3 ⟨z,H3,I3,r3,k,e,q3⟩=> ?_) hm
 subst e;cases r3;exact ag3 ⟨H3,I3,q3⟩
def Jk(r r':R2)(ta tb tc:TE):TE:=fun σ H Q=>ta σ H fun x H1=>tb σ H1 fun y H2=>r x y H2 fun z H3=>∃k,z= .bl k/\
 (if k=true then tc σ H3 fun w' H4=>r' y w' H4 Q else Q (.bl false) H3)
theorem sJ{Pd:ajC}{r r':R2}(ho:nY X (compareOp op) r)(Cd:nY X (compareOp Pd) r')(ha:PE X a ta)(hb:PE X b tb)(hc:PE X c tc)
  (hm:lastMarks [op,Pd] [b,c]=false:=by with_unfolding_all rfl):PE X (.Compare a [op,Pd] [b,c] pos) (Jk r r' ta tb tc):=by
 intro pins s σ H Q I h;refine Compare_chain (cK (ha pins s σ H _ I h) fun v s1 ⟨x,H1,I1,r1,q1⟩=>chain_link (cK (hb pins s1 σ H1 _ I1 q1) fun u s2 ⟨y,H2,I2,r2,q2⟩=>
  cK (ho pins s2 σ H2 x y v u _ I2 r1 r2 q2) fun d s3 ⟨z,H3,I3,r3,k,e,q3⟩=> ?_)) hm
 subst e;cases r3;refine ag3 ?_;cases k with
 |false=>exact ite_ff ⟨.bl false,H3,I3,rfl,q3⟩
 |true=>exact ite_tt (chain_last (cK (hc pins s3 σ H3 _ I3 q3) fun w' s4 ⟨z',H4,I4,r4,q4⟩=>Cd pins s4 σ H4 y z' u w' Q I4 r2 r4 q4))
theorem lD{Pd:ajC}{r r':R2}(ho:nY X (compareOp op) r)(Cd:nY X (compareOp Pd) r')(ha:PE X a ta)(hb:PE X b tb)(hc:PE X c tc)
  (hm:lastMarks [op,Pd] [b,c]=false:=by with_unfolding_all rfl):PT X (.Compare a [op,Pd] [b,c] pos) (NT (Jk r r' ta tb tc)):=by
 intro pins s σ H Q I h;refine isTrue_chain (cK (ha pins s σ H _ I h) fun v s1 ⟨x,H1,I1,r1,q1⟩=>test_link (cK (hb pins s1 σ H1 _ I1 q1) fun u s2 ⟨y,H2,I2,r2,q2⟩=>
  cK (ho pins s2 σ H2 x y v u _ I2 r1 r2 q2) fun d s3 ⟨z,H3,I3,r3,k,e,q3⟩=> ?_)) hm
 subst e;cases r3;refine ag3 ?_;cases k with
 |false=>
  obtain⟨k',e',q'⟩:=q3;cases e';exact ite_ff ⟨H3,I3,q'⟩
 |true=>
  refine ite_tt (test_last (cK (hc pins s3 σ H3 _ I3 q3) fun w' s4 ⟨z',H4,I4,r4,q4⟩=>cK (Cd pins s4 σ H4 y z' u w' _ I4 r2 r4 q4) fun d' s5 ⟨z2,H5,I5,r5,k2,e2,q5⟩=> ?_));subst e2;cases r5;exact ag3 ⟨H5,I5,q5⟩
theorem wH:(sizeLine:Nat)<2^63:=by rw[ali];decide
theorem NU{x:V}(r:bo [x] us):∃u,us=[u]/\bE x u:=by
 cases r with
 |cons r1 r2=>cases r2;exact⟨_,rfl,r1⟩
theorem TK{x:V}(r:bo [x,y] us):∃u w',us=[u,w']/\bE x u/\bE y w':=by
 cases r with
 |cons r1 r2=>
  cases r2 with
  |cons r3 r4=>cases r4;exact⟨_,_,rfl,r1,r3⟩
theorem Dy(hc:X.calm=true):p9 X (.builtin "max") (fun xs H Q=>∃i j,xs=[.int i,.int j]/\Q (.int (if j>i then j else i)) H):=by
 intro pins s σ H xs us Q I r h;obtain⟨i,j,rfl,q⟩:=h;obtain⟨u,w',rfl,⟨t,rfl⟩,⟨t',rfl⟩⟩:=TK r;refine max_two_ints (I.ok.hd hc) fun h' tk k=>⟨_,H,I.kept k,?_,q⟩
 by_cases hj:j>i
 .rw[afj hj,afj hj];exact⟨_,rfl⟩
 .rw[afe hj,afe hj];exact⟨_,rfl⟩
end
structure zS(h:agg)(x dx C:afd)(mA:Str->Option afg):Prop where
 obj:h.get? x=some (ahG C dx)
 ns:h.Ns1 dx mA
 ne:dx≠x
theorem D7(n:h.Ns1 dx mA):∃od,h.get? dx=some od/\∀name,aka name od=some (mA name):=by
 obtain⟨o,es,ep,ho,hd,hk,_,hm⟩:=n;refine⟨o,ho,fun name=> ?_⟩;have e:=hm name;unfold nsFind findBy at e;rw[<-Array.find?_toList]at e;unfold aka;rw[hd];dsimp only;split
 .rename_i y q;rw[q]at e;exact congrArg some e
 .rename_i q;rw[q]at e;have a:es.toList.any (·.refKey)=false:=by
   rw[al5];intro y hy;obtain⟨z,t,Wr⟩:=hk y (alj.mp hy);simp[DictEntry.refKey,Wr]
  have a':¬es.toList.any (·.refKey)=true:=by rw[a];exact afP
  rw[afe a'];exact congrArg some e
theorem zS.D6{x:afd}(I:zS h x dx C mA):∃od,PySem.W.InstAt h x (ahG C dx) C (some od)/\∀name,aka name od=some (mA name):=
 let⟨od,ho,hl⟩:=D7 I.ns
 ⟨od,⟨I.obj,rfl,rfl,ho⟩,hl⟩
section
variable{x f:afd}
theorem Kg{expr:Bool}(X:K.In s.heap)(I:zS s.heap x dx C mA)(hg:plainGet K C name=true)(hh:hasDictIn K C=true)
  (ha:findIn K (.ref C) name=some none) (hv:mA name=some v) (JH:amk v=true) (h:Q v {s with toks:=s.toks+1}):
  wpAny (model prog w) A (getAttr (.ref x) name expr) Q E s:=by
 obtain⟨od,J,hl⟩:=I.D6;exact PySem.W.get_value X J (ajY hg).1 (PySem.W.findObj_own hh ha rfl (by rw[hl,hv])) JH h
theorem GD{Q:afg×List afg->afC->Prop}(X:K.In s.heap)(I:zS s.heap x dx C mA)(hg:plainGet K C name=true)
  (hf:findIn K (.ref C) name=some (some (.ref f))) (ht:isFn K (.ref f)=true) (hv:mA name=none) (h:Q (.ref f,[.ref x]) s):
  wpAny (model prog w) A (getMethod (.ref x) name pl) Q E s:=by
 obtain⟨od,J,hl⟩:=I.D6;exact PySem.W.method_fn X J (ajY hg).1 (ajY hg).2 hf (ajr.mp ht) (by show(aka name od).map (·.isSome)=some false;rw[hl,hv];rfl) h
theorem Mb{ns:List Str}{Q:Unit->afC->Prop}(X:K.In s.heap)(I:zS s.heap x dx C mA)
  (hs:findIn K (.ref C) "__setattr__"=some (some (.builtin "object.__setattr__"))) (hp:plainOver K C=true) (ht:ak4 K C name=some none) (hh:hasDictIn K C=true)
  (hw:al1 mA ns) (hsz:ns.length<=sizeLine)
  (h:∀h',zS h' x dx C (fun y=>if y=name then some v else mA y)->agm dx s.heap h'->Q () {s with heap:=h',toks:=s.toks+2}):
  wpAny (model prog w) A (setAttr (.ref x) name v) Q E s:=by
 obtain⟨od,J,hl⟩:=I.D6;refine PySem.W.set_plain X J hs (PySem.W.osa_open (s:={s with toks:=s.toks+1}) (r:=none) X J hp ht fun b=> ?_);obtain⟨cd,hc,RS⟩:=PySem.W.any_some hh;have hx:s.heap.get? x=some ⟨.ref C,some dx,.plain,#[]⟩:=I.obj;refine afi (afZ (afi (afi (alk hx (afi (anW (s:={s with toks:=s.toks+1}) (PySem.W.looks_clsIn X hc) ?_))))));rw[RS];refine afZ (a:=some dx) (afi (afZ (afi ?_)));refine wpAny_nsSet1 (s:={s with toks:=s.toks+1}) I.ns fun h' Uj OE=> ?_
 obtain⟨oD,esD,epD,hoD,hdD,hcD⟩:=Uj.count (an4 name v hw);refine afi (wpAny_lookBehind hoD (by rw[hdD];exact pastItsLine_dict (afw hcD (by rw[afr];omega))) ?_);exact afZ (h _ ⟨(OE.2 _ (agW I.ne)).trans I.obj,Uj,I.ne⟩ OE)
theorem Hc{vs:List afg}(X:K.In s.heap)(hm:makesIn K C=true)
  (hi:findIn K (.ref C) "__init__"=some (some (.ref f))) (hf:PySem.W.typeIn K (.ref f)=some (.type "function"))
  (h:codeAny (model prog w) (A.under (.builtin "type.__call__" ⟨.ref C::vs,kw⟩)) (.call (.ref f) ⟨.ref (s.heap.objs.size+1)::vs,kw⟩) (PySem.W.InitBack (s.heap.objs.size+1) R)
   {s with heap:=(s.heap.push emptyDict).push (ahG C s.heap.objs.size)}):
  codeAny (model prog w) A (.call (.ref C) ⟨vs,kw⟩) R s:=by
 obtain⟨hh,g,d,t,os⟩:=s;exact PySem.W.make_core (PySem.W.makes_of X hm) (PySem.W.looks_findIn X hi) (fun self=>PySem.W.bind_fn X self hf) (.inl rfl) h
end
def bJ(f:Str)(v:V):List (Str×V)->List (Str×V)
 | []=> [(f,v)]
 |(g,x)::r=>if g=f then(g,v)::r else(g,x)::bJ f v r
theorem aP(f g:Str)(v:V):∀fs:List (Str×V),(bJ f v fs).lookup g=if g=f then some v else fs.lookup g
 | []=>by
  show aiy g [(f,v)]=_;by_cases h:g=f
  .have hb:(g==f)=true:=ajr.mpr h;simp only[aiy,hb,afj h]
  .have hb:(g==f)=false:=agU.mpr h;simp only[aiy,hb,afe h]
 |(k,x)::r=>by
  have ih:=aP f g v r;rw[show bJ f v ((k,x)::r)=(if k=f then(k,v)::r else(k,x)::bJ f v r)from rfl];by_cases hk:k=f
  .rw[afj hk];by_cases h:g=k
   .have hb:(g==k)=true:=ajr.mpr h;simp only[aiy,hb,afj (h.trans hk)]
   .have hb:(g==k)=false:=agU.mpr h;simp only[aiy,hb,afe (fun e:g=f=>h (e.trans hk.symm))]
  .rw[afe hk];by_cases h:g=k
   .have hb:(g==k)=true:=ajr.mpr h;simp only[aiy,hb,afe (fun e:g=f=>hk (h.symm.trans e))]
   .have hb:(g==k)=false:=agU.mpr h;simp only[aiy,hb];exact ih
theorem pM(f:Str)(v:V):∀fs:List (Str×V),f∈(bJ f v fs).map (·.1)/\∀g,g∈fs.map (·.1)->g∈(bJ f v fs).map (·.1)
 | []=>⟨by simp[bJ],fun g h=>by simp at h⟩
 |(k,x)::r=>by
  obtain⟨i1,i2⟩:=pM f v r;rw[show bJ f v ((k,x)::r)=(if k=f then(k,v)::r else(k,x)::bJ f v r)from rfl];by_cases hk:k=f
  .rw[afj hk];subst hk;exact⟨by simp,fun g h=>by simpa using h⟩
  .rw[afe hk];refine⟨?_,fun g h=> ?_⟩
   .rw[agb];exact afu _ i1
   .rw[agb]at h⊢;rcases afx.mp h with e|e
    .exact afx.mpr (.inl e)
    .exact afu _ (i2 g e)
theorem qr(f:Str)(v:V):∀fs:List (Str×V),(bJ f v fs).length<=fs.length+1
 | []=>by simp[bJ]
 |(k,x)::r=>by
  have ih:=qr f v r;rw[show bJ f v ((k,x)::r)=(if k=f then(k,v)::r else(k,x)::bJ f v r)from rfl];by_cases hk:k=f
  .rw[afj hk,afr,afr];omega
  .rw[afe hk,afr,afr];omega
theorem jy.oV{v:V}{o:Option afg}(r:jy (some v) o):∃u,o=some u/\bE v u:=by
 cases o with
 |none=>exact(show False from r).elim
 |some u=>exact⟨u,rfl,r⟩
theorem jy.wU{o:Option afg}(r:jy none o):o=none:=by
 cases o with
 |none=>rfl
 |some u=>exact(show False from r).elim
theorem DN{v:V}(r:bE v u):amk u=true:=by
 cases v with
 |gw=>cases(show u=ahS from r);rfl
 |bl b=>cases(show u=aj7 b from r);rfl
 |int i=>obtain⟨t,e⟩:=(show∃t,u=ahQ i t from r);cases e;rfl
 |str x=>obtain⟨t,e⟩:=(show∃t,u=alz x t from r);cases e;rfl
 |zK b=>obtain⟨t,e⟩:=(show∃t,u=anI b t from r);cases e;rfl
 |T2 b=>obtain⟨t,e⟩:=(show∃t,u=anJ b t from r);cases e;rfl
 |ref a=>cases(show u=af1 a from r);rfl
 |ty n=>cases(show u=aiR n from r);rfl
section
variable{fs fs':List (Str×V)}
theorem wC(dc:kE P w H h)(e:H a=some (.ins C dx fs)):∃mA,zS h a dx C mA/\(∀f,jy (fs.lookup f) (mA f))/\al1 mA (fs.map (·.1))/\fs.length<=1000/\H dx=some (.own a):=by
 obtain⟨d,z,ne,ob,mA,n,r,q⟩:=(show eP P w H h a (.ins C dx fs)from dc a _ e);exact⟨mA,⟨ob,n,ne⟩,r,q,z,d⟩
end
structure zI(K:afW)(C:afd):Prop where
 pg:plainGet K C ah8=true
 hd:hasDictIn K C=true
 po:plainOver K C=true
 sa:findIn K (.ref C) "__setattr__"=some (some (.builtin "object.__setattr__"))
theorem zI.get(c:zI K C)(f:Str):plainGet K C f=true:=c.pg
def fE(K:afW)(C:afd)(f:Str):Prop:=findIn K (.ref C) f=some none
theorem fE.Tx{f:Str}(n:fE K C f):ak4 K C f=some none:=by
 unfold ak4;rw[show findIn K (.ref C) f=some none from n];rfl
structure Dk(K:afW)(C:afd)(m:Str)(f:afd):Prop where
 cG:findIn K (.ref C) m=some (some (.ref f))
 fn:isFn K (.ref f)=true
 kp:keepIn K (.ref f)=true
section
variable{fs:List (Str×V)}{f:Str}{v:V}
theorem r6{b:Bool}(I:bb X pins σ H s)(e:H a=some (.ins C dx fs))(c:zI X.K C)(n:fE X.K C f)(l:fs.lookup f=some v)
  (h:∀u s',bb X pins σ H s'->bE v u->Q u s'):wpAny (model X.prog X.w) A (getAttr (.ref a) f b) Q E s:=by
 obtain⟨mA,O,r,_,_,_⟩:=wC I.dc e;obtain⟨u,hu,ru⟩:=jy.oV (v:=v) (o:=mA f) (by rw[<-l];exact r f);exact Kg I.u7 O (c.get f) c.hd n hu (DN ru) (h u _ (I.qM _) ru)
theorem mQ{g:afd}{Q:afg×List afg->afC->Prop}(I:bb X pins σ H s)(e:H a=some (.ins C dx fs))(c:zI X.K C)(k:Dk X.K C m g)(l:fs.lookup m=none)
  (h:Q (.ref g,[.ref a]) s):wpAny (model X.prog X.w) A (getMethod (.ref a) m pl) Q E s:=by
 obtain⟨mA,O,r,_,_,_⟩:=wC I.dc e;have hn:mA m=none:=jy.wU (by rw[<-l];exact r m);exact GD I.u7 O (c.get m) k.cG k.fn hn h
theorem tD{Q:Unit->afC->Prop}(I:bb X pins σ H s)(e:H a=some (.ins C dx fs))(c:zI X.K C)(n:fE X.K C f)(hl:fs.length<1000)(ry:bE y u)
  (h:∀s',bb X pins σ (aE H a (.ins C dx (bJ f y fs))) s'->Q () s'):wpAny (model X.prog X.w) A (setAttr (.ref a) f u) Q E s:=by
 obtain⟨mA,O,r,wi,_,ho⟩:=wC I.dc e;have hz:(fs.map (·.1)).length<=sizeLine:=by rw[afb,ali];omega
 refine Mb I.u7 O c.sa c.po n.Tx c.hd wi hz fun h' O' sb=>h _ ?_
 have hd:∃o,h'.get? dx=some o:=let⟨o,_,_,e',_⟩:=O'.ns;⟨o,e'⟩
 refine I.pk (x:=a) (e:=dx) (by rw[e];exact agY) (.inr ho) (fun b q hb z=>(sb.2 b hb).trans z) hd ?_;refine⟨by rw[ao O.ne];exact ho,?_,O.ne,O'.obj,_,O'.ns,fun g=> ?_,fun g hg=> ?_⟩
 .have:=qr f y fs;omega
 .show jy ((bJ f y fs).lookup g) (if g=f then some u else mA g);rw[aP];by_cases q:g=f
  .rw[afj q,afj q];exact ry
  .rw[afe q,afe q];exact r g
 .by_cases q:g=f
  .rw[q];exact(pM f y fs).1
  .refine(pM f y fs).2 g (wi g fun z=>hg ?_);show(if g=f then some u else mA g)=none;rw[afe q];exact z
theorem bb.made(I:bb X pins σ H s):bb X pins σ (aE (aE H s.heap.objs.size (.own (s.heap.objs.size+1))) (s.heap.objs.size+1) (.ins C s.heap.objs.size []))
  {s with heap:=(s.heap.push emptyDict).push (ahG C s.heap.objs.size)}:=by
 have e1:(s.heap.push emptyDict).get? s.heap.objs.size=some emptyDict:=afI s.heap rfl;have e2:((s.heap.push emptyDict).push (ahG C s.heap.objs.size)).get? (s.heap.objs.size+1)=some (ahG C s.heap.objs.size):=by
  have:=afI (s.heap.push emptyDict) (o:=ahG C s.heap.objs.size) rfl
  rwa [agh]at this
 have e3:(s.heap.push emptyDict).Ns s.heap.objs.size (fun _=>none):=⟨emptyDict,#[],_,e1,rfl,(fun e he=>absurd he (by simp)),fun _=>rfl⟩;have I1:=I.ml (a:=s.heap.objs.size) (o:= .own (s.heap.objs.size+1)) (h':=s.heap.push emptyDict) (t':=s.toks) (fun b u q=>afm _ q) (afp _) ⟨_,e1⟩;refine I1.ml (a:=s.heap.objs.size+1) (o:= .ins C s.heap.objs.size []) (t':=s.toks) (fun b u q=>afm _ q) (akS (agh _ _)) ?_;have ne:s.heap.objs.size≠s.heap.objs.size+1:=agy (akC _);refine⟨by rw[ao ne,aj],afH _,ne,e2,fun _=>none,(Heap.Ns1.of_empty e3).at fun o q=>afm _ q,fun _=>agY,fun y hy=>absurd rfl hy⟩
theorem JQ{f:Str}(hb:attributeBase e f env (eval e env)=eval e env)
  (h:wpAny (model prog w) A (eval e env) (fun o s₁=>wpAny (model prog w) A (getAttr o f true) Q E s₁) E s):wpAny (model prog w) A (eval (.Attribute e f pos) env) Q E s:=
 Attribute_any_ h (by rw[arm_eval_Attribute,hb])
end
inductive Nk(K:afW)(f:Str)(Q:VK)(x:V)(H1:Hp):Prop|m:∀a C dx fs v,x= .ref a->H1 a=some (.ins C dx fs)->zI K C->fE K C f->fs.lookup f=some v->Q v H1->Nk K f Q x H1
def XR(K:afW)(ta:TE)(f:Str):TE:=fun σ H Q=>ta σ H fun x H1=>Nk K f Q x H1
inductive Ni(K:afW)(f:Str)(D:iD)(σ:St)(y:V)(x:V)(H2:Hp):Prop|m:∀a C dx fs,x= .ref a->H2 a=some (.ins C dx fs)->zI K C->fE K C f->fs.length<1000->D.nx σ (aE H2 a (.ins C dx (bJ f y fs)))->Ni K f D σ y x H2
def XJ(K:afW)(ta tv:TE)(f:Str):TS:=fun D σ H=>tv σ H fun y H1=>ta σ H1 fun x H2=>Ni K f D σ y x H2
def QI(X:Cx)(op:al3)(rd:V->V->Hp->VK->Prop):Prop:=
 ∀(pins:List (afd×Obj)) (s:afC) (σ:St) (H:Hp) (x y:V) (u v:afg) (Q:VK),bb X pins σ H s->bE x u->bE y v->rd x y H Q->wpAny (model X.prog X.w) X.A (inplaceOp op u v) (EP X pins σ Q) X.xe s
inductive yI(K:afW)(tv:TE)(rd:V->V->Hp->VK->Prop)(f:Str)(D:iD)(σ:St)(x:V)(H1:Hp):Prop|m:∀a C dx fs v,x= .ref a->H1 a=some (.ins C dx fs)->zI K C->fE K C f->fs.lookup f=some v->(tv σ H1 fun y H2=>rd v y H2 fun z H3=>∃VD fs',H3 a=some (.ins C VD fs')/\fs'.length<1000/\D.nx σ (aE H3 a (.ins C VD (bJ f z fs'))))->yI K tv rd f D σ x H1
def Lw(K:afW)(ta tv:TE)(rd:V->V->Hp->VK->Prop)(f:Str):TS:=fun D σ H=>ta σ H fun x H1=>yI K tv rd f D σ x H1
section
variable{o:agR}{f:Str}{tv:TE}
theorem az(he:PE X e ta)(hb:attributeBase e f X.env (eval e X.env)=eval e X.env:=by rfl):PE X (.Attribute e f pos) (XR X.K ta f):=by
 intro pins s σ H Q I h;refine JQ hb (cK (he pins s σ H _ I h) fun u s1 ⟨x,H1,I1,rx,a,C,dx,fs,v,ex,ea,c,n,l,q⟩=> ?_);subst ex;obtain rfl:u=af1 a:=rx;exact r6 I1 ea c n l fun u' s2 I2 ru=>⟨v,H1,I2,ru,q⟩
theorem gx(ha:PE X o ta)(hv:PE X value tv)(hs:swapsWith value (some (.Attribute o f iH)) pos.line X.env=pure false):PS X (.Assign [.Attribute o f iH] value pos) (XJ X.K ta tv f):=by
 intro pins s σ H D I h;refine plainObj_wpAny_Assign_Attribute (cK (hv pins s σ H _ I h) fun u s1 ⟨y,H1,I1,ry,q⟩=>cK (ha pins s1 σ H1 _ I1 q) fun ov s2 ⟨x,H2,I2,rx,a,C,dx,fs,ex,ea,c,n,l,q2⟩=> ?_) hs;subst ex;obtain rfl:ov=af1 a:=rx;exact tD I2 ea c n l ry fun s3 I3=>⟨σ,_,I3,q2⟩
theorem vw{op:al3}{rd:V->V->Hp->VK->Prop}(ha:PE X o ta)(hv:PE X value tv)(hop:QI X op rd):PS X (.AugAssign (.Attribute o f jc) op value pos) (Lw X.K ta tv rd f):=by
 intro pins s σ H D I h;refine wpAny_AugAssign_AttributeAny (cK (ha pins s σ H _ I h) fun ov s1 ⟨x,H1,I1,rx,a,C,dx,fs,v,ex,ea,c,n,l,q⟩=> ?_);subst ex;obtain rfl:ov=af1 a:=rx;refine r6 I1 ea c n l fun u s2 I2 ru=>cK (hv pins s2 σ H1 _ I2 q) fun w3 s3 ⟨y,H2,I3,ry,q3⟩=>cK (hop pins s3 σ H2 v y u w3 _ I3 ru ry q3) fun w4 s4 ⟨z,H3,I4,rz,VD,fs',ea',l',q4⟩=> ?_
 exact tD I4 ea' c n l' rz fun s5 I5=>⟨σ,_,I5,q4⟩
inductive SO(x:V)(y:V)(H:Hp)(Q:VK):Prop|m:∀i j,x= .int i->y= .int j->Q (.int (i+j)) H->SO x y H Q
theorem GR:QI X .Add SO:=by
 rintro pins s σ H x y u v Q I rx ry ⟨i,j,rfl,rfl,q⟩;obtain⟨t,rfl⟩:=(show∃t,u=ahQ i t from rx);obtain⟨t',rfl⟩:=(show∃t',v=ahQ j t' from ry);exact amH ⟨.int (i+j),H,I.qM _,⟨_,rfl⟩,q⟩
theorem Nr{args:List agR}(he:PE X e te)(I:bb X pins σ H s)
  (h:te σ H fun x H1=>∃a C dx fs g,x= .ref a/\H1 a=some (.ins C dx fs)/\zI X.K C/\Dk X.K C m g/\fs.lookup m=none/\
   ∀s1,bb X pins σ H1 s1->wpAny (model X.prog X.w) X.A (callWith pos (.ref g) [.ref a] (backTo pos (starEach args X.env)) (backToKw pos (keywordEach [] X.env))) Q X.xe s1)
  (ht:eval (.Call (.Attribute e m eI) args [] pos) X.env=(do
   let ov<-eval e X.env
   standAt eI.atName
   let(f,first)<-holding [ov] (getMethod ov m pl)
   callWith pos f first (backTo pos (starEach args X.env)) (backToKw pos (keywordEach [] X.env)))):
  wpAny (model X.prog X.w) X.A (eval (.Call (.Attribute e m eI) args [] pos) X.env) Q X.xe s:=by
 refine ajo (pl:=pl) (cK (he pins s σ H _ I h) fun u s1 ⟨x,H1,I1,rx,a,C,dx,fs,g,ex,ea,c,k,l,q⟩=> ?_) ht;subst ex;obtain rfl:u=af1 a:=rx;exact mQ I1 ea c k l (q s1 I1)
end
structure fF(k:Nat)(A:ahF):Prop where
 hd:A.handled=none
 dp:A.depth+3*k+5<recursionLimit
 un:A.units+16*k+200<cLine
theorem fF.fJ{k:Nat}(r:fF k A)(h:j<=k):fF j A:=⟨r.hd,by have:=r.dp;omega,by have:=r.un;omega⟩
theorem fF.deeper{k:Nat}(r:fF (k+1) A)(env:Env):fF k (A.deeper env):=
 ⟨r.hd,by have:=r.dp;show A.depth+1+3*k+5<_;omega,by have:=r.un;show A.units+3+16*k+200<_;omega⟩
theorem An:(A.under (.builtin "type.__call__" ⟨.ref C::us,kw⟩)).depth=A.depth+1:=by
 first|rfl|simp[al6,Code.weight,Code.isCreation,Code.isGuard,Code.isCaller,Code.frames,Code.isFrame,guardIds]
theorem Ao:(A.under (.builtin "type.__call__" ⟨.ref C::us,kw⟩)).units=A.units+1:=by
 first|rfl|simp[al6,Code.cUnits,Code.frames,Code.isFrame]
theorem fF.OV{k:Nat}(r:fF (k+1) A)(C:afd)(us:List afg)(kw:List (Str×afg)):fF k (A.under (.builtin "type.__call__" ⟨.ref C::us,kw⟩)):=
 ⟨r.hd,by have:=r.dp;rw[An];omega,by have:=r.un;rw[Ao];omega⟩
theorem fF.depth{k:Nat}(r:fF k A):A.depth<recursionLimit:=by have:=r.dp;omega
theorem fF.units{k:Nat}(r:fF k A):A.units+64<cLine:=by have:=r.un;omega
def Me:TA:=fun _ H Q=>Q [] H
def Ti(ta:TE)(tr:TA):TA:=fun σ H Q=>ta σ H fun x H1=>tr σ H1 fun xs H2=>Q (x::xs) H2
section
variable{t:TA}
theorem ab:PA X [] Me:=fun _ _ _ _ H Q I h=>ah5 ⟨[],H,I,.nil,h⟩
theorem aa(ha:PE X e te)(hr:PA X es t)(hs:starEach (e::es) X.env=(false,eval e X.env)::starEach es X.env:=by rfl):PA X (e::es) (Ti te t):=by
 intro pos pins s σ H Q I h;rw[hs];show wpAny _ _ (spliced ((false,eval e X.env)::backTo pos (starEach es X.env))) _ _ s;refine ahk (cK (ha pins s σ H _ I h) fun u s1 ⟨x,H1,I1,r1,q1⟩=> ?_);exact cK (hr pos pins s1 σ H1 _ I1 q1) fun us s2 ⟨xs,H2,I2,r2,q2⟩=>⟨x::xs,H2,I2,.cons r1 r2,q2⟩
def X2(t:TA):TE:=fun σ H Q=>t σ H fun xs H1=>xs.length<=sizeLine/\∀p,H1 p=none->Q (.ref p) (aE H1 p (.dY xs))
def XX(t:TA):TE:=fun σ H Q=>t σ H fun xs H1=>xs.length<=sizeLine/\∀p,H1 p=none->Q (.ref p) (aE H1 p (.ba xs))
theorem Im{x1}(h:PA X es t):PE X (.Tuple es x1 pos) (X2 t):=by
 intro pins s σ H Q I hq;refine alH (cK (h pos pins s σ H _ I hq) fun us s1 ⟨xs,H1,I1,r,z,q⟩=>⟨by rw[<-r.length];exact z,?_⟩);have hf:H1 s1.heap.objs.size=none:=I1.dc.fresh (afp _);refine⟨.ref s1.heap.objs.size,aE H1 s1.heap.objs.size (.dY xs),I1.ml (t':=s1.toks) (fun b u e=>afm _ e) (afp _) ?_,rfl,q _ hf⟩;exact⟨z,us,r,⟨_,afI _ rfl,rfl,_,rfl⟩⟩
theorem cp(h:PA X es t):PE X (.List es pos) (XX t):=by
 intro pins s σ H Q I hq;refine alR (cK (h pos pins s σ H _ I hq) fun us s1 ⟨xs,H1,I1,r,z,q⟩=>⟨by rw[<-r.length];exact z,?_⟩);have hf:H1 s1.heap.objs.size=none:=I1.dc.fresh (afp _);refine⟨.ref s1.heap.objs.size,aE H1 s1.heap.objs.size (.ba xs),I1.ml (t':=s1.toks) (fun b u e=>afm _ e) (afp _) ?_,rfl,q _ hf⟩;exact⟨z,us,0,r,afI _ rfl⟩
end
abbrev Sp:=List V->Hp->VK->XK->Prop
abbrev ue:=List Env->Hp->afC->XK->afg->afC->Prop
structure zQ(P:afA)(w:af4)(K:afW)(mg:Str->Option afg)(base:agg)(A:ahF)(outer:List Env)(s:afC)(H:Hp):Prop where
 frames:A.frames=some outer
 wO:Mod K mg base
 bs:∀b o,base.get? b=some o->s.heap.get? b=some o/\H b=none
 Jv:base.objs.size<=s.heap.objs.size
 qC:s.heap.FunFrames base outer
 Om:∀b∈GC outer,H b=none
 dc:kE P w H s.heap
 bare:alA s.gens
def CE(outer:List Env)(P:afA)(w:af4)(H:Hp)(s:afC)(Q:VK)(u:afg)(s':afC):Prop:=
 ∃v H',s'.os=s.os/\alA s'.gens/\Un (GC outer) [] H H' s.heap s'.heap/\kE P w H' s'.heap/\bE v u/\Q v H'
def CR(CX:ue)(outer:List Env)(P:afA)(w:af4)(H:Hp)(s:afC)(Q:VK)(E:XK)(r:aiH)(s':afC):Prop:=
 match r with
 | .ok (.ret u)=>CE outer P w H s Q u s'
 | .ok _=>False
 | .error e=>CX outer H s E e s'
structure aT(P:afA)(w:af4)(K:afW)(mg:Str->Option afg)(base:agg)(CX:ue)(k:Nat)(f:afd)(fd:afE)(ps:List Str)(sp:Sp):Prop where
 len:∀vs H Q E,sp vs H Q E->vs.length=ps.length
 run:∀(A:ahF) (outer:List Env) (s:afC) (H:Hp) (args:Args) (us:List afg) (vs:List V) (Q:VK) (E:XK),fF k A->zQ P w K mg base A outer s H->al7 s fd args (ps.zip us)->bo vs us->sp vs H Q E->
  codeAny (model P w) A (.call (.ref f) args) (CR CX outer P w H s Q E) s
theorem zQ.OV{outer:List Env}(e:zQ P w K mg base A outer s H)(C:afd)(us:List afg)(kw:List (Str×afg)):
  zQ P w K mg base (A.under (.builtin "type.__call__" ⟨.ref C::us,kw⟩)) outer s H:=⟨by first|exact e.frames|(simpa [al6,Code.abK,Code.isFrame,pushEnvs]using e.frames),e.wO,e.bs,e.Jv,e.qC,e.Om,e.dc,e.bare⟩
theorem bb.Rl(I:bb X pins σ H s):zQ X.prog X.w X.K X.mg X.base X.A X.stack s H:=
 ⟨I.ok.frames,I.ok.wO,I.bs,afw I.ok.Jv I.sz,I.stack,I.Dd,I.dc,I.bare⟩
theorem bb.Mq{Q:VK}(I:bb X pins σ H s)(h:CE X.stack X.prog X.w H s Q u s'):EP X pins σ Q u s':=by
 obtain⟨v,H',os,bare,un,dc,r,q⟩:=h;obtain⟨hh,g,d,t,os'⟩:=s';obtain rfl:os'=s.os:=os;exact⟨v,H',I.call (h':=hh) (g':=g) (d':=d) (t':=t) (ch:=[]) un dc bare (fun b z=>absurd z (by simp)),r,q⟩
def NR(sp:Sp)(dvs:List V)(E:XK)(t:TA):TE:=fun σ H Q=>t σ H fun vs H1=>sp (vs++dvs) H1 Q E
inductive Ai(C:afd)(m:Str)(sp:Sp)(dvs:List V)(E:XK)(t:TA)(σ:St)(Q:VK)(x:V)(H1:Hp):Prop|m:∀a dx fs,x= .ref a->H1 a=some (.ins C dx fs)->fs.lookup m=none->(t σ H1 fun vs H2=>sp (x::(vs++dvs)) H2 Q E)->Ai C m sp dvs E t σ Q x H1
def Dg(C:afd)(m:Str)(sp:Sp)(dvs:List V)(E:XK)(ta:TE)(t:TA):TE:=fun σ H Q=>ta σ H fun x H1=>Ai C m sp dvs E t σ Q x H1
def Tq(C:afd)(sp:Sp)(dvs:List V)(E:XK)(t:TA):TE:=fun σ H Q=>t σ H fun vs H1=>∀x dx,H1 x=none->H1 dx=none->dx≠x->
 sp (.ref x::(vs++dvs)) (aE (aE H1 dx (.own x)) x (.ins C dx [])) (fun v H2=>v= .gw/\Q (.ref x) H2) E
def eY(K:afW)(fd:afE)(ps:List Str)(ds:List afg):Prop:=
 ∀(s:afC) (us:List afg),K.In s.heap->(us++ds).length=ps.length->al7 s fd ⟨us,[]⟩ (ps.zip (us++ds))
theorem eY.all(h:∀us:List afg,us.length=ps.length->bindArgs fd ⟨us,[]⟩=pure (ps.zip us)):eY K fd ps []:=fun s us _ hl=>by
 rw[af7]at hl⊢;exact .of_eq (h us hl)
def mz(CX:ue)(X:Cx)(E:XK):Prop:=∀(pins:List (afd×Obj)) (σ:St) (H:Hp) (s:afC) (e:afg) (s':afC),bb X pins σ H s->CX X.stack H s E e s'->X.xe e s'
section
variable{k:Nat}{f:afd}{sp:Sp}{dvs:List V}{ds:List afg}{E:XK}{o:agR}{t:TA}
theorem xc{Q:VK}{vs:List V}(F:aT X.prog X.w X.K X.mg X.base CX k f fd ps sp)(hr:fF k X.A)(hb:eY X.K fd ps ds)(hd:bo dvs ds)(hx:mz CX X E)
  (I:bb X pins σ H s) (r:bo vs us) (h:sp (vs++dvs) H Q E):wpAny (model X.prog X.w) X.A (call (.ref f) us) (EP X pins σ Q) X.xe s:=by
 have r2:bo (vs++dvs) (us++ds):=r.append hd;have hl:(us++ds).length=ps.length:=by rw[<-r2.length];exact F.len _ _ _ _ h
 refine alS (ai6 (F.run X.A X.stack s H ⟨us,[]⟩ (us++ds) (vs++dvs) Q E hr I.Rl (hb s us I.u7 hl) r2 h) fun r s' hq=> ?_);cases r with
 |error e=>exact hx pins σ H s e s' I hq
 |ok fl=>
  cases fl with
  |ret u=>exact I.Mq hq
  |next=>exact ahj hq
  |brk=>exact ahj hq
  |cont=>exact ahj hq
theorem bh(F:aT X.prog X.w X.K X.mg X.base CX k f fd ps sp)(hr:fF k X.A)(hg:Gl X x)(hm:X.mg x=some (.ref f))(hk:keepIn X.K (.ref f)=true)(hb:eY X.K fd ps ds)(hd:bo dvs ds)(hx:mz CX X E)
  (ha:PA X (e::es) t) (Kn:(x==("__debug__":Str))=false:=by decide) (he:starEach (e::es) X.env=(false,eval e X.env)::starEach es X.env:=by rfl) (kf:(backTo pos (starEach es X.env)).any (·.1)=false:=by rfl):
  PE X (.Call (.Name x p) (e::es) [] pos) (NR sp dvs E t):=by
 intro pins s σ H Q I h;refine ahT (wG I hg hm ?_ Kn);refine akb (h₀:=X.base) I.ok.wO.Sn hk (cK (ha pos pins s σ H _ I h) fun us s1 ⟨vs,H1,I1,r,q⟩=>⟨I1.u7,?_⟩) he kf;exact xc F hr hb hd hx I1 r q
theorem hG(he:PE X o ta)(c:zI X.K C)(hm:Dk X.K C m f)(F:aT X.prog X.w X.K X.mg X.base CX k f fd ps sp)(hr:fF k X.A)(hb:eY X.K fd ps ds)(hd:bo dvs ds)(hx:mz CX X E)(ha:PA X (e::es) t)
  (yG:starEach (e::es) X.env=(false,eval e X.env)::starEach es X.env:=by rfl) (kf:(backTo pos (starEach es X.env)).any (·.1)=false:=by rfl)
  (ht:eval (.Call (.Attribute o m eI) (e::es) [] pos) X.env=(do
   let ov<-eval o X.env
   standAt eI.atName
   let(f,first)<-holding [ov] (getMethod ov m pl)
   callWith pos f first (backTo pos (starEach (e::es) X.env)) (backToKw pos (keywordEach [] X.env))):=by rfl):
  PE X (.Call (.Attribute o m eI) (e::es) [] pos) (Dg C m sp dvs E ta t):=by
 intro pins s σ H Q I h;refine ajo (pl:=pl) (cK (he pins s σ H _ I h) fun u s1 ⟨x,H1,I1,rx,a,dx,fs,ex,ea,l,q⟩=> ?_) ht;subst ex;obtain rfl:u=af1 a:=rx;refine mQ I1 ea c hm l ?_;refine akb (first:=[.ref a]) (h₀:=X.base) I.ok.wO.Sn hm.kp (cK (ha pos pins s1 σ H1 _ I1 q) fun us s2 ⟨vs,H2,I2,r,q2⟩=>⟨I2.u7,?_⟩) yG kf;exact xc (us:= .ref a::us) (vs:= .ref a::vs) F hr hb hd hx I2 (.cons rfl r) q2
theorem lq(he:PE X o ta)(c:zI X.K C)(hm:Dk X.K C m f)(F:aT X.prog X.w X.K X.mg X.base CX k f fd ps sp)(hr:fF k X.A)(hb:eY X.K fd ps ds)(hd:bo dvs ds)(hx:mz CX X E)
  (ht:eval (.Call (.Attribute o m eI) [] [] pos) X.env=(do
   let ov<-eval o X.env
   standAt eI.atName
   let(f,first)<-holding [ov] (getMethod ov m pl)
   callWith pos f first (backTo pos (starEach [] X.env)) (backToKw pos (keywordEach [] X.env))):=by rfl):
  PE X (.Call (.Attribute o m eI) [] [] pos) (Dg C m sp dvs E ta Me):=by
 intro pins s σ H Q I h;refine ajo (pl:=pl) (cK (he pins s σ H _ I h) fun u s1 ⟨x,H1,I1,rx,a,dx,fs,ex,ea,l,q⟩=> ?_) ht;subst ex;obtain rfl:u=af1 a:=rx;refine mQ I1 ea c hm l ?_;exact alI (first:=[.ref a]) I1.u7 hm.kp (xc (us:=[.ref a]) (vs:=[.ref a]) F hr hb hd hx I1 (.cons rfl .nil) q)
structure Mk(K:afW)(C f:afd):Prop where
 Sr:makesIn K C=true
 init:findIn K (.ref C) "__init__"=some (some (.ref f))
 fn:isFn K (.ref f)=true
 kp:keepIn K (.ref C)=true
theorem IG{Q:VK}{vs:List V}(M:Mk X.K C f)(F:aT X.prog X.w X.K X.mg X.base CX k f fd ps sp)(hr:fF (k+1) X.A)(hb:eY X.K fd ps ds)(hd:bo dvs ds)
  (hx:mz CX X E) (I:bb X pins σ H s) (r:bo vs us)
  (h:∀x dx,H x=none->H dx=none->dx≠x->sp (.ref x::(vs++dvs)) (aE (aE H dx (.own x)) x (.ins C dx [])) (fun v H2=>v= .gw/\Q (.ref x) H2) E):
  wpAny (model X.prog X.w) X.A (call (.ref C) us) (EP X pins σ Q) X.xe s:=by
 have hq:=h (s.heap.objs.size+1) s.heap.objs.size (I.dc.fresh (ahz _)) (I.dc.fresh (afp _)) (agy (akC _));have I2:=bb.made (C:=C) I;have r2:bo (V.ref (s.heap.objs.size+1)::(vs++dvs)) (af1 (s.heap.objs.size+1)::(us++ds)):= .cons rfl (r.append hd);have hl:(af1 (s.heap.objs.size+1)::us++ds).length=ps.length:=by
  have e:=r2.length;rw[F.len _ _ _ _ hq]at e;exact e.symm
 refine alS (Hc (f:=f) I.u7 M.Sr M.init (ajr.mp M.fn) (ai6 (F.run _ X.stack _ _ ⟨af1 (s.heap.objs.size+1)::us,[]⟩ (af1 (s.heap.objs.size+1)::(us++ds)) _ _ E (hr.OV C us [])
  (I2.Rl.OV C us []) (hb _ (af1 (s.heap.objs.size+1)::us) I2.u7 hl) r2 hq) fun r s' Ce=> ?_))
 cases r with
 |error e=>exact hx pins σ _ _ e s' I2 Ce
 |ok fl=>
  cases fl with
  |ret u=>
   obtain⟨v,H',I3,rv,ev,q3⟩:=I2.Mq Ce;subst ev;exact⟨rv,⟨V.ref (s.heap.objs.size+1),H',I3,rfl,q3⟩⟩
  |next=>exact ahj Ce
  |brk=>exact ahj Ce
  |cont=>exact ahj Ce
theorem sM(M:Mk X.K C f)(F:aT X.prog X.w X.K X.mg X.base CX k f fd ps sp)(hr:fF (k+1) X.A)(hg:Gl X x)(hm:X.mg x=some (.ref C))(hb:eY X.K fd ps ds)(hd:bo dvs ds)(hx:mz CX X E)
  (Kn:(x==("__debug__":Str))=false:=by decide):PE X (.Call (.Name x p) [] [] pos) (Tq C sp dvs E Me):=by
 intro pins s σ H Q I h;refine ahT (wG I hg hm ?_ Kn);exact alI I.u7 M.kp (IG (us:=[]) M F hr hb hd hx I .nil h)
end
structure au(N P:List Str)(sc:ahO):Prop where
 kind:sc.kind= .function
 co:sc.isCoroutine=false
 gen:sc.isGenerator=false
 nd:N.Nodup
 pre:N.take P.length=P
 ZW:∀x∈P,sc.names.lookup x=some .local\/sc.names.lookup x=some .cell
 O1:∀y∈sc.names,y.2≠ .free
theorem uI{kindOf:Str->Option agL}{x:Str}:∀{binds:List (Str×afg)} {m:Str->Option afg},(∀v,(x,v)∉binds)->bindL kindOf binds m x=m x
 | [],_,_=>rfl
 |(n,v)::r,m,h=>by
  unfold bindL;rw[uI fun w hw=>h w (afu _ hw)];split
  .have:x≠n:=by rintro rfl;exact h v af5
   simp[this]
  .rfl
theorem uG{kindOf:Str->Option agL}{x:Str}:∀{binds:List (Str×afg)} {m:Str->Option afg},(∀v,(x,v)∉binds)->bindC kindOf binds m x=m x
 | [],_,_=>rfl
 |(n,v)::r,m,h=>by
  unfold bindC;rw[uG fun w hw=>h w (afu _ hw)];split
  .rfl
  .have:x≠n:=by rintro rfl;exact h v af5
   simp[this]
theorem uH{kindOf:Str->Option agL}{x:Str}{v:afg}:∀{P:List Str} {vs:List afg} {i:Nat} {m:Str->Option afg},P.Nodup->P[i]? =some x->vs[i]? =some v->kindOf x=some .local->
  bindL kindOf (P.zip vs) m x=some v
 | [],_,_,_,_,h,_,_=>by simp at h
 |_::_,[],_,_,_,_,h,_=>by simp at h
 |p::P,w::vs,0,m,nd,h1,h2,hk=>by
  simp at h1 h2;subst h1;subst h2;show bindL kindOf ((p,w)::P.zip vs) m p=_;unfold bindL;rw[uI fun v hv=>(afG.mp nd).1 (ah3 hv).1,afj hk];simp
 |p::P,w::vs,i+1,m,nd,h1,h2,hk=>by
  show bindL kindOf ((p,w)::P.zip vs) m x=_;unfold bindL;exact uH (i:=i) (afG.mp nd).2 (by simpa using h1) (by simpa using h2) hk
theorem uF{kindOf:Str->Option agL}{x:Str}{v:afg}:∀{P:List Str} {vs:List afg} {i:Nat} {m:Str->Option afg},P.Nodup->P[i]? =some x->vs[i]? =some v->kindOf x≠some .local->
  bindC kindOf (P.zip vs) m x=some v
 | [],_,_,_,_,h,_,_=>by simp at h
 |_::_,[],_,_,_,_,h,_=>by simp at h
 |p::P,w::vs,0,m,nd,h1,h2,hk=>by
  simp at h1 h2;subst h1;subst h2;show bindC kindOf ((p,w)::P.zip vs) m p=_;unfold bindC;rw[uG fun v hv=>(afG.mp nd).1 (ah3 hv).1,afe hk];simp
 |p::P,w::vs,i+1,m,nd,h1,h2,hk=>by
  show bindC kindOf ((p,w)::P.zip vs) m x=_;unfold bindC;exact uF (i:=i) (afG.mp nd).2 (by simpa using h1) (by simpa using h2) hk
def start(N:List Str)(vs:List V):St:=vs.map some++afQ (N.length-vs.length) none
def z6(CX:ue)(P:afA)(w:af4)(K:afW)(mg:Str->Option afg)(base:agg)(N:List Str)(qual:Str)(scope:ahO)(f:afd)(cd:afg)(A:ahF)(outer:List Env)(s:afC)(H:Hp)(E:XK):Cx where
 prog:=P
 w:=w
 K:=K
 mg:=mg
 base:=base
 A:=A.deeper (envOfC qual scope s.heap.objs.size f cd)
 N:=N
 s_0:=s
 H_0:=H
 env:=envOfC qual scope s.heap.objs.size f cd
 outer:=outer
 stack:=envOfC qual scope s.heap.objs.size f cd::outer
 ex:=[]
 calm:=true
 fn:=fun _=>true
 pn:=[]
 xe:=fun e s'=>wpAny (model P w) (A.deeper (envOfC qual scope s.heap.objs.size f cd)) (leaving (envOfC qual scope s.heap.objs.size f cd) e) (fun _ XH=>CX outer H s E e XH) (fun e' XH=>CX outer H s E e' XH) s'
theorem x4{sc:ahO}(h:sc.names.lookup x=some .cell):∃c,(cellsFrom n sc.names []).lookup x=some c:=by
 have q:=akT sc.names n [] (.inl h);exact aks.mp q
theorem DV{f:afd}{cd:afg}{outer:List Env}{s1:afC}{E:XK}{vs:List V}
  (S:au N ps scope) (hd:A.handled=none) (e0:zQ P w K mg base A outer s H) (hl:vs.length=ps.length) (r:bo vs us)
  (x:InCallC s s.heap.objs.size (bindL (envOfC qual scope s.heap.objs.size f cd).kindOf (ps.zip us) fun _=>none) (cellsFrom (s.heap.objs.size+1) scope.names []) (bindC (envOfC qual scope s.heap.objs.size f cd).kindOf (ps.zip us) fun _=>none) s1):
  bb (z6 CX P w K mg base N qual scope f cd A outer s H E) [] (start N vs) H s1:=by
 have kf:ps.length<=N.length:=by have:=congrArg ahP S.pre;rw[afY]at this;omega
 obtain⟨h1,tk,rfl,hk⟩:=x.done;have QA:∀b:afd,b∉(z6 CX P w K mg base N qual scope f cd A outer s H E).ex:=fun b z=>absurd (show b∈([]:List afd)from z) (by simp)
 refine⟨⟨e0.wO,S.kind,rfl,rfl,afp _,fun y z c h1 h2=> ?_,fun y hy=> ?_,fun y c _ h=> ?_,fun _=>hd,Around.frames_deeper e0.frames,.inr ⟨rfl,rfl⟩,fun b z=>absurd z (QA b),e0.bs,e0.Jv,fun b _ _=>QA b,fun b z=>absurd z (QA b),e0.qC,e0.Om⟩,
  rfl,e0.bare,Un.kept hk,⟨_,x.toInCall.ns,fun i y v h1 h2 h3=> ?_⟩,fun y c h=>⟨_,x.cell y c h⟩,e0.dc.fresh (afp _),fun y c h=> ?_,fun p hp=>absurd (show p∈([]:List (afd×Obj))from hp) (by simp),e0.dc.kept hk,?_⟩
 .exact name_of_addr x.apart (agx h1) (agx h2)
 .have hy:scope.names.lookup y=some .cell\/scope.names.lookup y=some .free:=hy;rcases hy with hy|hy
  .exact x4 hy
  .exact absurd rfl (S.O1 _ (agx hy))
 .exact agE (x.above y c (agx h))
 .have hi:i<vs.length:=by
   unfold start at h2;by_cases hi:i<vs.length
   .exact hi
   .rw[agv (by simpa using hi)]at h2;rw[List.getElem?_replicate]at h2;split at h2<;>cases h2
  have ha:vs[i]? =some v:=by
   unfold start at h2;rw[agM (by simpa using hi),afy]at h2;cases e:vs[i]? with
   |none=>rw[e]at h2;cases h2
   |some a=>rw[e]at h2;cases h2;rfl
  obtain⟨u,hu,rv⟩:=r.get ha;have hp:ps[i]? =some y:=by
   rw[<-S.pre,akt (by omega)];exact h1
  have ZN:ps.Nodup:=by rw[<-S.pre];exact S.nd.sublist (al8 _ _)
  refine⟨u,rv,?_⟩;rcases S.ZW y (afq hp)with k|k
  .exact .inl ⟨k,uH ZN hp hu k⟩
  .obtain⟨c,e⟩:=x4 (n:=s.heap.objs.size+1) k;refine .inr ⟨.inl k,c,e,?_⟩;have q:=x.cell y c e;rw[uF ZN hp hu (by show scope.names.lookup y≠_;rw[k];decide)]at q;exact q
 .exact e0.dc.fresh (agE (x.above y c (agx h)))
 .unfold start;show _=N.length;rw[afc,afb,ag2];omega
theorem Rn{k:Nat}{f:afd}{params:anu}{dV kV doc pm ke ct oc:afg}{an od:Option afd}
  {JI:Array (Option afg)} {N ps:List Str} {sp:Sp} (lk:K.lookup f=some ⟨oc,od,.func (fnOf name qual params body scope dV kV doc pm an ke ct),JI⟩) (JC:codeIn K ke qual=true) (S:au N ps scope)
  (len:∀vs H Q E,sp vs H Q E->vs.length=ps.length)
  (GH:∀(A:ahF) (outer:List Env) (s:afC) (H:Hp) (vs:List V) (Q:VK) (E:XK),fF k (A.deeper (envOfC qual scope s.heap.objs.size f ke))->sp vs H Q E->
   ∃t,Bh (z6 CX P w K mg base N qual scope f ke A outer s H E) body t/\t {nx:=fun _ H'=>Q .gw H',rt:=Q} (start N vs) H):
  aT P w K mg base CX (k+1) f (fnOf name qual params body scope dV kV doc pm an ke ct) ps sp:=by
 refine⟨len,fun A outer s H args us vs Q E hr e0 hb r DS=> ?_⟩;have hl:=len _ _ _ _ DS;have KX:K.In s.heap:=e0.wO.Sn.keeps fun b o e=>(e0.bs b o e).1
 have lim:s.heap.NoLimit:=e0.wO.nolimit.keeps fun b o e=>(e0.bs b o e).1
 have RZ:∀y∈ps.zip us,scope.names.lookup y.1=some .local\/(scope.names.lookup y.1=some .cell/\((cellsFrom (s.heap.objs.size+1) scope.names []).lookup y.1).isSome=true):=fun⟨n,v⟩ hy=>by
  rcases S.ZW n (ah3 hy).1 with q|q
  .exact .inl q
  .exact .inr ⟨q,akT _ _ _ (.inl q)⟩
 refine codeAny_call_function hr.depth (KX _ _ lk) rfl S.co S.gen rfl (PySem.W.codeRec_of KX JC) (hb _ _ _ _ ?_);refine wpAny_newFunctionEnv_cells S.kind RZ fun env he s1 x=> ?_
 subst he;refine⟨lim.keeps x.toInCall.keep,codeAny_func ?_⟩;obtain⟨t,ht,hq⟩:=GH A outer s H vs Q E (hr.deeper _) DS;have I:bb (z6 CX P w K mg base N qual scope f ke A outer s H E) [] (start N vs) H s1:=DV S hr.hd e0 hl r x;refine ahH (ht [] s1 (start N vs) H _ I hq) (fun fl s' hs=> ?_) fun e s' hs=>hs
 have fin:∀{σ':St} {H':Hp} {v:V} {u:afg},bb (z6 CX P w K mg base N qual scope f ke A outer s H E) [] σ' H' s'->bE v u->Q v H'->CE outer P w H s Q u s':=
  fun{σ' H' v u} J rv q=>⟨v,H',J.os,J.bare,J.base,J.dc,rv,q⟩
 cases fl with
 |ret u=>
  obtain⟨v,σ',H',J,rv,q⟩:=hs;exact fin J rv q
 |next=>
  obtain⟨σ',H',J,q⟩:=hs;exact fin (v:=V.gw) (u:=ahS) J rfl q
 |brk=>
  obtain⟨_,_,_,q⟩:=hs;exact ahj q
 |cont=>
  obtain⟨_,_,_,q⟩:=hs;exact ahj q
section
variable{t:TA}{id:String}{r:List V->Hp->VK->Prop}
def Z8(r:List V->Hp->VK->Prop)(t:TA):TE:=fun σ H Q=>t σ H fun vs H1=>r vs H1 Q
theorem aN(hc:p9 X (.builtin id) r)(hg:Gl X x)(hm:X.mg x=none)(hv:bootBuiltins x=some (.builtin id))(ha:PA X (e::es) t)(hn:x≠"__name__":=by decide)(Kn:(x==("__debug__":Str))=false:=by decide)
  (he:starEach (e::es) X.env=(false,eval e X.env)::starEach es X.env:=by rfl) (kf:(backTo pos (starEach es X.env)).any (·.1)=false:=by rfl):PE X (.Call (.Name x p) (e::es) [] pos) (Z8 r t):=by
 intro pins s σ H Q I h;refine ahT (j0 I hg hm hv ?_ hn Kn);exact aml (cK (ha pos pins s σ H _ I h) fun us s1 ⟨vs,H1,I1,r1,q1⟩=>hc pins s1 σ H1 vs us Q I1 r1 q1) he kf
theorem gX(hc:p9 X (.type T) r)(hg:Gl X x)(hm:X.mg x=none)(hv:bootBuiltins x=some (.type T))(ha:PA X (e::es) t)(hn:x≠"__name__":=by decide)(Kn:(x==("__debug__":Str))=false:=by decide)
  (he:starEach (e::es) X.env=(false,eval e X.env)::starEach es X.env:=by rfl) (kf:(backTo pos (starEach es X.env)).any (·.1)=false:=by rfl):PE X (.Call (.Name x p) (e::es) [] pos) (Z8 r t):=by
 intro pins s σ H Q I h;refine ahT (j0 I hg hm hv ?_ hn Kn);exact ag4 (cK (ha pos pins s σ H _ I h) fun us s1 ⟨vs,H1,I1,r1,q1⟩=>hc pins s1 σ H1 vs us Q I1 r1 q1) he kf
end
end L2
namespace HT
open PySem PyProof.Rows
def vx(n d:Nat):Option Int->Nat
 |none=>d
 |some v=>if v<0 then(v+(n:Int)).toNat else min v.toNat n
theorem sT(n d:Nat):vx n d none=d:=rfl
theorem oP(n d k:Nat):vx n d (some (k:Int))=min k n:=by
 show(if(k:Int)<0 then((k:Int)+(n:Int)).toNat else min (k:Int).toNat n)=min k n;rw[afe (by omega),ah6]
end HT
namespace L2
open PySem PySem.Spec PyProof.Rows
open PySem.W (Frag fnOf keepIn mg_of findIn nsIn emptyDict plainGet hasDictIn isFn makesIn codeIn plainOver)
variable{xs ys:List V}{aR us:List afg}{m name qual x:Str}{u v:afg}{H H' H1:Hp}{C a b dx it l z:afd}{o:Option V}{P prog:afA}{w:af4}{base h h':agg}{c e e2 iter tg value:agR}{X:Cx}{pins:List (afd×Obj)}{σ:St}{s s':afC}{i j kk n t':Nat}{ch fp:List afd}{N ps:List Str}{M:aj6}{A:ahF}{E Q:afg->afC->Prop}{ta td te ty:TE}{tb:TS}{R:aiH->afC->Prop}{eI p pos iH jc:Pos}{op:ajC}{y:V}{K:afW}{D:iD}{st:afR}{js es nU:List agR}{g:TG}{body:List afR}{pl:Sem Bool}{wi:TI}{mA mg:Str->Option afg}{kw:List (Str×afg)}{env:Env}{fd:afE}{CX:ue}{ds:List ahD}{kindOf:Str->Option agL}{scope:ahO}{T:String}{items:Array afg}{cells:List (Str×afd)}{own:List (Str×Nat)}{tt:TT}{aQ:List (List br×V)}
abbrev TO:=St->Hp->(Option Int->Hp->Prop)->Prop
def PO(X:Cx)(e:Option agR)(t:TO):Prop:=
 ∀(pins:List (afd×Obj)) (s:afC) (σ:St) (H:Hp) (Q:Option Int->Hp->Prop),bb X pins σ H s->t σ H Q->
  wpAny (model X.prog X.w) X.A (evalPart e X.env) (fun u s'=>∃o H',bb X pins σ H' s'/\IsPart u o/\Q o H') X.xe s
def Mf:TO:=fun _ H Q=>Q none H
inductive G5(Q:Option Int->Hp->Prop)(x:V)(H1:Hp):Prop|m:∀i,x= .int i->Q (some i) H1->G5 Q x H1
def Ts(t:TE):TO:=fun σ H Q=>t σ H fun x H1=>G5 Q x H1
section
variable{lo hi:Option agR}{tl th:TO}{p2:Pos}
theorem hX:PO X none Mf:=by
 intro pins s σ H Q I h;rw[evalPart_none];exact afZ ⟨none,H,I,.none,h⟩
theorem cv(h:PE X e te):PO X (some e) (Ts te):=by
 intro pins s σ H Q I hw;rw[evalPart_some];refine cK (h pins s σ H _ I hw) fun u s1 ⟨x,H1,I1,r1,q1⟩=> ?_
 obtain⟨i,rfl,q⟩:=q1;obtain⟨t,rfl⟩:=r1;exact⟨some i,H1,I1,.int i t,q⟩
def UU(X:Cx)(r:V->Option Int->Option Int->Hp->VK->Prop):Prop:=
 ∀(pins:List (afd×Obj)) (s:afC) (σ:St) (H:Hp) (x:V) (v vl vu:afg) (lo hi:Option Int) (sl:afd) (Q:VK),bb X pins σ H s->bE x v->s.heap.IsSliceOf sl vl vu .none->IsPart vl lo->IsPart vu hi->r x lo hi H Q->
  ∃T id,typeLookup (.type T) "__getitem__"=pure (some (.builtin id))/\s.TypeIs v T/\wpAny (model X.prog X.w) X.A (getItem v (.ref sl)) (EP X pins σ Q) X.xe s
def tSl(r:V->Option Int->Option Int->Hp->VK->Prop)(te:TE)(tl th:TO):TE:=fun σ H Q=>te σ H fun x H1=>tl σ H1 fun l H2=>th σ H2 fun u H3=>r x l u H3 Q
theorem dq{r:V->Option Int->Option Int->Hp->VK->Prop}(hr:UU X r)(he:PE X e te)(hl:PO X lo tl)(hu:PO X hi th):PE X (.Subscript e (.Slice lo hi none p2) pos) (tSl r te tl th):=by
 intro pins s σ H Q I h;refine amK (cK (he pins s σ H _ I h) fun v s1 ⟨x,H1,I1,r1,q1⟩=> ?_);refine wpAny_Slice (cK (hl pins s1 σ H1 _ I1 q1) fun vl s2 ⟨l,H2,I2,pl,q2⟩=>cK (hu pins s2 σ H2 _ I2 q2) fun vu s3 ⟨u,H3,I3,pu,q3⟩=> ?_);rw[evalPart_none];refine afZ ?_;have I4:bb X pins σ H3 {s3 with heap:=s3.heap.push {cls:= .type "slice",data:= .fields #[vl,vu,.none]}}:=I3.kept (t':=s3.toks) fun b ob q=>afm _ q
 obtain⟨T,id,hT,ht,hg⟩:=hr pins {s3 with heap:=s3.heap.push {cls:= .type "slice",data:= .fields #[vl,vu,.none]}} σ H3 x v vl vu l u s3.heap.objs.size Q I4 r1 (anY ..) pl pu q3;show wpAny (model X.prog X.w) X.A (subscriptTail e (.Slice lo hi none p2) v (.ref s3.heap.objs.size)) (EP X pins σ Q) X.xe {s3 with heap:=s3.heap.push {cls:= .type "slice",data:= .fields #[vl,vu,.none]}};exact tail_any (ops:=[.ref s3.heap.objs.size,v]) ht hT hg (by with_unfolding_all rfl)
def x6(xs:List V)(lo hi:Option Int):List V:=(xs.drop (HT.vx xs.length 0 lo)).take (HT.vx xs.length xs.length hi-HT.vx xs.length 0 lo)
theorem x8(xs:List V)(lo hi:Option Int):(x6 xs lo hi).length<=xs.length:=by
 unfold x6;rw[afY,agr];omega
end
def nV(n:Nat)(i:Int):Option Nat:=if 0<=i then(if i<n then some i.toNat else none)else if-(n:Int)<=i then some (i+n).toNat else none
def pB{α:Type}(xs:List α)(i:Int):Option α:=(nV xs.length i).bind fun j=>xs[j]?
theorem Ci{i:Int}(h:nV n i=some j):seqIndex? i n=some j/\j<n/\-(n:Int)<=i/\i<n:=by
 unfold nV at h;by_cases h0:0<=i
 .rw[afj h0]at h;by_cases h1:i<n
  .rw[afj h1]at h;have e:i.toNat=j:=afv h;exact⟨by rw[amx h0 h1,e],by omega,by omega,h1⟩
  .rw[afe h1]at h;cases h
 .rw[afe h0]at h;by_cases h1: -(n:Int)<=i
  .rw[afj h1]at h;have e:(i+n).toNat=j:=afv h;exact⟨by rw[al9 (by omega) h1,e],by omega,h1,by omega⟩
  .rw[afe h1]at h;cases h
theorem Bi{α:Type}{xs:List α}{i:Int}{v:α}(h:pB xs i=some v):∃j,seqIndex? i xs.length=some j/\xs[j]? =some v/\j<xs.length/\-(xs.length:Int)<=i/\i<xs.length:=by
 unfold pB at h;cases e:nV xs.length i with
 |none=>rw[e]at h;cases h
 |some j=>
  rw[e]at h;obtain⟨h1,h2,h3,h4⟩:=Ci e;exact⟨j,h1,h,h2,h3,h4⟩
theorem oh{α:Type}{xs:List α}{v:α}(h:xs[j]? =some v):pB xs (j:Int)=some v:=by
 have hj:j<xs.length:=(aff.mp h).1;have e:nV xs.length (j:Int)=some j:=by
  unfold nV;rw[afj (by omega),afj (by omega)];simp
 unfold pB;rw[e];exact h
theorem FC{α:Type}(xs:List α)(v:α):pB (xs++ [v]) (-1)=some v:=by
 have hl:(xs++ [v]).length=xs.length+1:=by simp
 have e:nV (xs++ [v]).length (-1)=some xs.length:=by
  unfold nV;rw[hl,afe (by decide),afj (by omega)];congr 1;omega
 unfold pB;rw[e];show(xs++ [v])[xs.length]? =some v;simp
def JM(b:agR):Prop:=∀o i,subscripted b false o i=operate [o,i] (getItem o i)
def UO(X:Cx)(r:R2):Prop:=
 ∀(value oU:agR) (pins:List (afd×Obj)) (s:afC) (σ:St) (H:Hp) (x y:V) (v u:afg) (Q:VK),bb X pins σ H s->bE x v->bE y u->r x y H Q->
  subscripted oU false v u=operate [v,u] (getItem v u)->wpAny (model X.prog X.w) X.A (subscriptTail value oU v u) (EP X pins σ Q) X.xe s
def UQ(X:Cx)(id:String)(r:V->List V->Hp->VK->Prop):Prop:=
 ∀(pins:List (afd×Obj)) (s:afC) (σ:St) (H:Hp) (x:V) (xs:List V) (v:afg) (us:List afg) (Q:VK),bb X pins σ H s->bE x v->bo xs us->r x xs H Q->
  wpAny (model X.prog X.w) X.A (call (.builtin id) (v::us)) (EP X pins σ Q) X.xe s
section
variable{a b:agR}{tb:TE}
theorem aG{r:R2}(hr:UO X r)(ha:PE X a ta)(hb:PE X b tb)(hs:JM b:=by exact fun _ _=>rfl):PE X (.Subscript a b pos) (UJ r ta tb):=by
 intro pins s σ H Q I h;exact amK (N6 ha hb I h fun v u s2 x y H2 I2 rx ry q=>hr a b pins s2 σ H2 x y v u Q I2 rx ry q (hs _ _))
inductive ER(K:afW)(x:V)(y:V)(H:Hp)(Q:VK):Prop|m:∀p xs i v,x= .ref p->y= .int i->aJ K H p xs->pB xs i=some v->Q v H->ER K x y H Q
inductive ES(K:afW)(x:V)(y:V)(H:Hp)(Q:VK):Prop|m:∀p xs i v,x= .ref p->y= .int i->gF K H p xs->pB xs i=some v->Q v H->ES K x y H Q
theorem aA:UO X (ER X.K):=by
 intro value oU pins s σ H x y v u Q I rx ry h hs;obtain⟨p,xs,i,z,rfl,rfl,hq,he,q⟩:=h;cases rx;obtain⟨t,rfl⟩:=ry;obtain⟨aR,r,pl,hz⟩:=I.list hq;obtain⟨j,h1,h2,h3,h4,h5⟩:=Bi he;obtain⟨w,ew,xf⟩:=r.get h2;have hl:=r.length;have hn:=wH;have fin:EP X pins σ Q w s:=⟨z,H,I,xf,q⟩;by_cases h0:0<=i
 .have hj:i.toNat=j:=by
   rw[amx h0 h5]at h1;exact afv h1
  exact item_listR pl.isList h0 (by omega) (by rw[hj];simpa using ew) fin hs
 .have hj:(i+(aR.toArray.size:Int)).toNat=j:=by
   rw[al9 (by omega) h4]at h1;rw[afL,<-hl];exact afv h1
  exact akU (x:=w) pl.isList.typeIs ama.lookup
   (wpAny_getItem_list_neg (Q:=fun r s'=>r=w/\EP X pins σ Q r s') pl.isList (by omega) (by rw[afL]<;>omega) (by omega) (by rw[hj];simpa using ew) ⟨rfl,fin⟩) hs
theorem eJ:UO X (ES X.K):=by
 intro value oU pins s σ H x y v u Q I rx ry h hs;obtain⟨p,xs,i,z,rfl,rfl,hq,he,q⟩:=h;cases rx;obtain⟨t,rfl⟩:=ry;obtain⟨aR,r,pl,hz⟩:=I.tuple hq;obtain⟨j,h1,h2,h3,h4,h5⟩:=Bi he;obtain⟨w,ew,xf⟩:=r.get h2;have hl:=r.length;have hn:=wH;have fin:EP X pins σ Q w s:=⟨z,H,I,xf,q⟩;exact akU (x:=w) pl.typeIs slot_tuple_getitem.lookup
  (getItem_tuple (j:=j) (Q:=fun r s'=>r=w/\EP X pins σ Q r s') pl (by omega) (by omega) (by rw[afL,<-hl];exact h1) (by simpa using ew) ⟨rfl,fin⟩) hs
theorem Ap(aR:List afg)(n j:Nat)(u:afg):ahl (·.setIfInBounds j u) {cls:= .type "list",data:= .seq aR.toArray n}={cls:= .type "list",data:= .seq (aR.set j u).toArray n}:=by
 simp[ahl]
theorem bb.ba{p:afd}(I:bb X pins σ H s)(h:H p=some (.ba xs)):
  ∃(aR:List afg) (n:Nat),bo xs aR/\s.heap.get? p=some {cls:= .type "list",data:= .seq aR.toArray n}/\xs.length<=sizeLine:=by
 obtain⟨z,aR,n,r,e⟩:=I.dc p _ h;exact⟨aR,n,r,e,z⟩
theorem bb.OU{p:afd}{its':List afg}{n':Nat}{f:Obj->Obj}(I:bb X pins σ H s)(h:H p=some (.ba xs))
  (ho:s.heap.get? p=some {cls:= .type "list",data:= .seq aR.toArray n}) (hf:f {cls:= .type "list",data:= .seq aR.toArray n}={cls:= .type "list",data:= .seq its'.toArray n'}) (r:bo ys its') (hz:ys.length<=sizeLine) (t:Nat):
  bb X pins σ (aE H p (.ba ys)) {s with heap:=s.heap.update p f,toks:=t}:=by
 have e:(s.heap.update p f).get? p=some {cls:= .type "list",data:= .seq its'.toArray n'}:=by
  rw[ahs f ho (by rw[hf]<;>rfl),hf]
 refine I.pk (x:=p) (e:=p) (by rw[h];trivial) (.inl rfl) (fun b u hb q=>(agS _ _ (agW hb)).trans q) ⟨_,e⟩ ?_;exact⟨hz,its',n',r,e⟩
inductive NJ(o:V)(i:V)(v:V)(H:Hp)(Q:(Hp->Prop)):Prop|m:∀p xs k j,o= .ref p->i= .int k->H p=some (.ba xs)->nV xs.length k=some j->Q (aE H p (.ba (xs.set j v)))->NJ o i v H Q
theorem zk:QO X NJ:=by
 intro pins s σ H o i v ov iv u Q I ro ri rv h;obtain⟨p,xs,k,j,rfl,rfl,hp,hj,q⟩:=h;cases ro;obtain⟨t,rfl⟩:=ri;obtain⟨aR,n,r,ho,hz⟩:=I.ba hp;obtain⟨h1,h2,h3,h4⟩:=Ci hj;have hl:=r.length;have hn:=wH;have I':bb X pins σ (aE H p (.ba (xs.set j v))) {s with heap:=s.heap.update p (ahl (·.setIfInBounds j u))}:=
  I.OU hp ho (Ap aR n j u) (r.set rv j) (by rw[ak5];exact hz) s.toks
 by_cases h0:0<=k
 .have hk:k.toNat=j:=by
   rw[amx h0 h4]at h1;exact afv h1
  exact PySem.W.ki_setAt ho h0 (by omega) (by rw[afL,<-hl];exact h4) (by rw[hk];exact⟨_,I',q⟩)
 .have hk:(k+(aR.toArray.size:Int)).toNat=j:=by
   rw[al9 (by omega) h3]at h1;rw[afL,<-hl];exact afv h1
  exact PySem.W.ki_setBack ho (by omega) (by rw[afL,<-hl];exact h3) (by omega) (by rw[hk];exact⟨_,I',q⟩)
theorem xm(lo hi:Option Int)(n:Nat):(sliceBounds lo hi none n).1=((HT.vx n 0 lo:Nat):Int)/\(sliceBounds lo hi none n).2.1=((HT.vx n n hi:Nat):Int)/\(sliceBounds lo hi none n).2.2=1:=by
 refine⟨?_,?_,rfl⟩
 .cases lo with
  |none=>simp[sliceBounds,HT.vx]
  |some i=>
   simp only[sliceBounds,HT.vx,amm,show(1:Int)>0 by decide,aj0];by_cases h:i<0
   .simp only[h,aj0]<;>omega
   .simp only[h,if_false]<;>omega
 .cases hi with
  |none=>simp[sliceBounds,HT.vx]
  |some i=>
   simp only[sliceBounds,HT.vx,amm,show(1:Int)>0 by decide,aj0];by_cases h:i<0
   .simp only[h,aj0]<;>omega
   .simp only[h,if_false]<;>omega
theorem uw(aR:List afg)(lo hi:Option Int):slicePick aR.toArray lo hi none=((aR.drop (HT.vx aR.length 0 lo)).take (HT.vx aR.length aR.length hi-HT.vx aR.length 0 lo)).toArray:=by
 obtain⟨h1,h2,h3⟩:=xm lo hi aR.toArray.size;unfold slicePick;rw[h1,h2,h3];simp only[sliceRange_one,pick_run,afL]<;>rfl
inductive S2(K:afW)(x:V)(lo:Option Int)(hi:Option Int)(H:Hp)(Q:VK):Prop|m:∀a xs,x= .ref a->aJ K H a xs->(∀p,H p=none->Q (.ref p) (aE H p (.ba (x6 xs lo hi))))->S2 K x lo hi H Q
theorem C8:UU X (S2 X.K):=by
 intro pins s σ H x v vl vu lo hi sl Q I rx hs pl pu h;obtain⟨a,xs,rfl,hx,q⟩:=h;cases rx;obtain⟨aR,r,ht,hz⟩:=I.list hx;have bY:=r.length;refine⟨"list",_,ama.lookup,ht.isList.typeIs,?_⟩;refine wpAny_getItem_list_slice ht.isList hs pl pu .none (by simp) ?_ (by rw[afL]<;>omega);rw[uw,<-bY];refine⟨.ref s.heap.objs.size,_,I.ml (t':=s.toks) (o:= .ba (x6 xs lo hi)) (fun b ob q=>afm _ q) (afp _) ?_,rfl,q _ (I.dc.fresh (afp _))⟩;exact⟨afw (x8 xs lo hi) hz,_,0,(r.drop (HT.vx xs.length 0 lo)).take (HT.vx xs.length xs.length hi-HT.vx xs.length 0 lo),afI _ rfl⟩
def jC:V->Bool
 | .gw=>true
 | .bl _=>true
 | .int _=>true
 | .str _=>true
 |_=>false
def Jz:V->V->Bool
 | .gw,.gw=>true
 | .bl a,.bl b=>a==b
 | .bl a,.int b=>(if a then 1 else 0)==b
 | .int a,.bl b=>a==(if b then 1 else 0)
 | .int a,.int b=>a==b
 | .str a,.str b=>a==b
 |_,_=>false
theorem Oj{x:V}(ry:bE y u)(rx:bE x v)(fy:jC y=true)(fx:jC x=true):anZ A s u v (Jz y x):=by
 cases y with
 |gw=>
  cases ry;cases x with
  |gw=>cases rx;exact SeqAt.EqAt.same _
  |bl b=>cases rx;exact SeqAt.EqAt.none_bool b
  |int b=>obtain⟨t,rfl⟩:=rx;exact SeqAt.EqAt.none_int b t
  |str b=>obtain⟨t,rfl⟩:=rx;exact SeqAt.EqAt.none_str b t
  |_=>exact absurd (show false=true from fx) afP
 |bl a=>
  cases ry;cases x with
  |gw=>cases rx;exact SeqAt.EqAt.bool_none a
  |bl b=>cases rx;exact SeqAt.EqAt.bool_bool a b
  |int b=>obtain⟨t,rfl⟩:=rx;exact SeqAt.EqAt.bool_int a b t
  |str b=>obtain⟨t,rfl⟩:=rx;exact SeqAt.EqAt.bool_str a b t
  |_=>exact absurd (show false=true from fx) afP
 |int a=>
  obtain⟨t',rfl⟩:=ry;cases x with
  |gw=>cases rx;exact SeqAt.EqAt.int_none a t'
  |bl b=>cases rx;exact SeqAt.EqAt.int_bool a t' b
  |int b=>obtain⟨t,rfl⟩:=rx;exact SeqAt.EqAt.int_int a t' b t
  |str b=>obtain⟨t,rfl⟩:=rx;exact alN a t' b t
  |_=>exact absurd (show false=true from fx) afP
 |str a=>
  obtain⟨t',rfl⟩:=ry;cases x with
  |gw=>cases rx;exact SeqAt.EqAt.str_none a t'
  |bl b=>cases rx;exact SeqAt.EqAt.str_bool a t' b
  |int b=>obtain⟨t,rfl⟩:=rx;exact alO a t' b t
  |str b=>obtain⟨t,rfl⟩:=rx;exact SeqAt.EqAt.str_str a t' b t
  |_=>exact absurd (show false=true from fx) afP
 |_=>exact absurd (show false=true from fy) afP
def zM(x:V)(u:afg):Bool:=match u with
 | .none=>Jz .gw x
 | .bool b=>Jz (.bl b) x
 | .int i _=>Jz (.int i) x
 | .str z _=>Jz (.str z) x
 |_=>false
theorem wj{x:V}(r:bE y u)(f:jC y=true):zM x u=Jz y x:=by
 cases y with
 |gw=>cases r;rfl
 |bl b=>cases r;rfl
 |int i=>obtain⟨t,rfl⟩:=r;rfl
 |str z=>obtain⟨t,rfl⟩:=r;rfl
 |_=>exact absurd (show false=true from f) afP
theorem oa{x:V}:∀{xs:List V} {us:List afg},bo xs us->xs.all jC=true->us.any (zM x)=xs.any fun y=>Jz y x
 |_,_,.nil,_=>rfl
 |y::xs,u::us,.cons r t,f=>by
  rw[aku,afB]at f;rw[aiq,aiq,wj r f.1,oa t f.2]
theorem jF{A:ahF}{s:afC}{x:V}{v:afg}(rx:bE x v)(fx:jC x=true):∀{xs:List V} {us:List afg},bo xs us->xs.all jC=true->∀u∈us,anZ A s u v (zM x u)
 |_,_,.nil,_=>fun u hu=>by cases hu
 |y::xs,u::us,.cons r t,f=>fun u' hu=>by
  rw[aku,afB]at f;rcases afx.mp hu with rfl|hu
  .rw[wj r f.1];exact Oj r rx f.1 fx
  .exact jF rx fx t f.2 u' hu
def Fs(x:V)(xs:List V):Bool:=xs.any fun y=>Jz y x
inductive XA(K:afW)(neg:Bool)(x:V)(y:V)(H:Hp)(Q:VK):Prop|m:∀p xs,y= .ref p->(aJ K H p xs\/gF K H p xs)->jC x=true->xs.all jC=true->Q (.bl (if neg then !Fs x xs else Fs x xs)) H->XA K neg x y H Q
theorem jI:nY X (compareOp .In) (XA X.K false):=by
 intro pins s σ H x y v u Q I rx ry h;obtain⟨p,xs,rfl,hq,fx,fs,q⟩:=h;cases ry;rcases hq with hq|hq
 .obtain⟨aR,r,pl,hz⟩:=I.list hq;refine SeqAt.in_listAt (zM x) pl.isList (fun w hw=>jF rx fx r fs w (by simpa using hw)) ⟨.bl _,H,I,rfl,?_⟩;rw[show aR.toArray.any (zM x)=aR.any (zM x) by simp,oa r fs];exact q
 .obtain⟨aR,r,pl,hz⟩:=I.tuple hq;refine SeqAt.in_tupleAt (zM x) pl (fun w hw=>jF rx fx r fs w (by simpa using hw)) ⟨.bl _,H,I,rfl,?_⟩;rw[show aR.toArray.any (zM x)=aR.any (zM x) by simp,oa r fs];exact q
theorem j2:nY X (compareOp .NotIn) (XA X.K true):=by
 intro pins s σ H x y v u Q I rx ry h;obtain⟨p,xs,rfl,hq,fx,fs,q⟩:=h;cases ry;rcases hq with hq|hq
 .obtain⟨aR,r,pl,hz⟩:=I.list hq;refine SeqAt.notIn_listAt (zM x) pl.isList (fun w hw=>jF rx fx r fs w (by simpa using hw)) ⟨.bl _,H,I,rfl,?_⟩;rw[show aR.toArray.any (zM x)=aR.any (zM x) by simp,oa r fs];exact q
 .obtain⟨aR,r,pl,hz⟩:=I.tuple hq;refine SeqAt.notIn_tupleAt (zM x) pl (fun w hw=>jF rx fx r fs w (by simpa using hw)) ⟨.bl _,H,I,rfl,?_⟩;rw[show aR.toArray.any (zM x)=aR.any (zM x) by simp,oa r fs];exact q
theorem ay:p9 X (.builtin "len") (fun xs H Q=>∃p ys,xs=[.ref p]/\(aJ X.K H p ys\/gF X.K H p ys)/\Q (.int ys.length) H):=by
 intro pins s σ H xs us Q I r h;obtain⟨p,ys,rfl,hq,q⟩:=h;obtain⟨u,rfl,rx⟩:=NU r;cases rx;have hn:=wH;rcases hq with hq|hq
 .obtain⟨aR,r',pl,hz⟩:=I.list hq;have bY:=r'.length;exact Calls.call_len_list pl.isList (by simp only[afL]<;>omega) ⟨.int ys.length,H,I.qM _,⟨s.toks+1,by rw[afL,bY]⟩,q⟩
 .obtain⟨aR,r',pl,hz⟩:=I.tuple hq;have bY:=r'.length;exact len_tuple pl (by simp only[afL]<;>omega) ⟨.int ys.length,H,I.qM _,⟨s.toks+1,by rw[afL,bY]⟩,q⟩
theorem iO:p9 X (.type "list") (fun xs H Q=>∃p ys,xs=[.ref p]/\(aJ X.K H p ys\/gF X.K H p ys)/\∀l,H l=none->Q (.ref l) (aE H l (.ba ys))):=by
 intro pins s σ H xs us Q I r h;obtain⟨p,ys,rfl,hq,q⟩:=h;obtain⟨u,rfl,rx⟩:=NU r;cases rx;have fin:∀(aR:List afg),bo ys aR->ys.length<=sizeLine->∀(h':agg) (c':Nat),(∀b o',s.heap.get? b=some o'->h'.get? b=some o')->
   h'.get? s.heap.objs.size=some {cls:= .type "list",dict:=none,data:= .seq aR.toArray c',slots:= #[]}->EP X pins σ Q (.ref s.heap.objs.size) {s with heap:=h'}:=fun aR r' hz h' c' kp e=>
  ⟨.ref s.heap.objs.size,_,I.ml (t':=s.toks) kp (afp _) (show eP X.prog X.w _ h' _ (.ba ys)from⟨hz,aR,c',r',e⟩),rfl,q _ (I.dc.fresh (afp _))⟩
 rcases hq with hq|hq
 .obtain⟨aR,r',pl,hz⟩:=I.list hq;have bY:=r'.length;obtain⟨o,ho,hc,n,hd⟩:=pl.isList;exact call_list_seq p (.inl rfl) ho hc hd (fun h' c' kp e=>fin aR r' hz h' c' kp e) (by simp only[afL]<;>omega)
 .obtain⟨aR,r',pl,hz⟩:=I.tuple hq;have bY:=r'.length;obtain⟨o,ho,hc,n,hd⟩:=pl;exact call_list_seq p (.inr rfl) ho hc hd (fun h' c' kp e=>fin aR r' hz h' c' kp e) (by simp only[afL]<;>omega)
def Z9(K:afW)(T:String)(x:V)(H:Hp):Prop:=match x with
 | .str _=>T="str"
 | .int _=>T="int"
 | .ref p=>(T="list"/\∃xs,aJ K H p xs)\/(T="tuple"/\∃o,K.lookup p=some o/\o.cls= .type "tuple"/\o.dict=none)\/
   (T="dict"/\((∃aQ,H p=some (.dK aQ))\/∃aQ,H p=some (.dT aQ)))\/(T="set"/\∃S n,H p=some (.set S n))
 |_=>False
theorem P6{x:V}(I:bb X pins σ H s)(r:bE x v)(ty:Z9 X.K T x H):
  s.TypeIs v T/\∀a,v= .ref a->∃ob,s.heap.get? a=some ob/\ob.dict=none:=by
 cases x with
 |str z=>
  obtain⟨t,rfl⟩:=r;cases(show T="str"from ty);exact⟨typeIs_str s z t,fun _ e=>nomatch e⟩
 |int i=>
  obtain⟨t,rfl⟩:=r;cases(show T="int"from ty);exact⟨amL s i t,fun _ e=>nomatch e⟩
 |ref p=>
  cases r;rcases ty with⟨rfl,xs,hq⟩|⟨rfl,o,hk,hc,hd⟩|⟨rfl,hk⟩|⟨rfl,S,n,hk⟩
  .obtain⟨aR,_,pl,_⟩:=I.list hq;refine⟨pl.isList.typeIs,fun a e=> ?_⟩;cases e;obtain⟨o,n,e,c,hd,_⟩:=pl;exact⟨o,e,hd⟩
  .refine⟨⟨o,I.u7 p o hk,hc⟩,fun a e=> ?_⟩;cases e;exact⟨o,I.u7 _ o hk,hd⟩
  .have z:∃o,s.heap.get? p=some o/\o.ExactDict:=by
    rcases hk with⟨aQ,hk⟩|⟨aQ,hk⟩
    .obtain⟨_,_,_,_,o,_,_,e,ex,_⟩:=I.dc p _ hk;exact⟨o,e,ex⟩
    .obtain⟨_,_,_,_,o,_,_,e,ex,_⟩:=I.dc p _ hk;exact⟨o,e,ex⟩
   obtain⟨o,e,ex⟩:=z;refine⟨⟨o,e,ex.1⟩,fun a e2=> ?_⟩;cases e2;exact⟨o,e,ex.2.1⟩
  .obtain⟨o,_,_,_,e,ex,_⟩:=I.dc p _ hk;refine⟨⟨o,e,ex.1⟩,fun a e2=> ?_⟩;cases e2;exact⟨o,e,ex.2.1⟩
 |_=>exact ahj ty
def tBM(K:afW)(T:String)(r:V->List V->Hp->VK->Prop)(to:TE)(t:TA):TE:=fun σ H Q=>to σ H fun x H1=>Z9 K T x H1/\t σ H1 fun xs H2=>r x xs H2 Q
variable{o:agR}{to:TE}{t:TA}{iE:Pos}{id:String}{r:V->List V->Hp->VK->Prop}
theorem cy(pa:PlainAttrs T)(slot:Slot T name id)(Qy:typeOf (.builtin id)=pure (.type "method_descriptor"))(hm:UQ X id r)(ho:PE X o to)(ha:PA X (e::es) t)
  (RK:attributeBase o name X.env (eval o X.env)=eval o X.env:=by rfl)
  (wx:((backTo iE (starEach (e::es) X.env)).all (fun x=> !x.1)&&(backToKw iE (keywordEach [] X.env)).all (fun x=>x.1.isSome)
   &&decide ((e::es).length+([]:List alB).length+(if([]:List alB).isEmpty then 0 else 1)<30))=true:=by rfl)
  (R1:(eI.endLine==iE.line)=true:=by rfl) (hs:starEach (e::es) X.env=(false,eval e X.env)::starEach es X.env:=by rfl) (OC:(backTo iE (starEach es X.env)).any (·.1)=false:=by rfl):
  PE X (.Call (.Attribute o name eI) (e::es) [] iE) (tBM X.K T r to t):=by
 intro pins s σ H Q I h;refine wpAny_Call_method_late RK wx R1 rfl (cK (ho pins s σ H _ I h) fun v s1 ⟨x,H1,I1,r1,ty,q1⟩=> ?_);obtain⟨h1,h2⟩:=P6 I1 r1 ty;refine⟨T,id,pa,slot,Qy,h1,h2,?_⟩;have hA:=ha iE pins s1 σ H1 _ I1 q1;rw[hs]at hA⊢;refine aij (by show(false||(backTo iE (starEach es X.env)).any (·.1))=false;rw[OC]<;>rfl) (aiz ?_);exact cK hA fun us s2 ⟨vs,H2,I2,r2,q2⟩=>hm pins s2 σ H2 x vs v us Q I2 r1 r2 q2
end
def Qc(X:Cx)(id:String)(r:V->List V->Hp->VK->Prop):Prop:=
 ∀(pins:List (afd×Obj)) (s:afC) (σ:St) (H:Hp) (x:V) (xs:List V) (v:afg) (us:List afg) (Q:VK),bb X pins σ H s->bE x v->bo xs us->r x xs H Q->
  wpAny (model X.prog X.w) X.A (call (.builtin id) (v::us)) (EP X pins σ Q) X.xe s
theorem bo.xV:∀{x:V} {us:List afg},bo [x] us->∃u,us=[u]/\bE x u
 |_,_,.cons r .nil=>⟨_,rfl,r⟩
theorem bo.two:∀{x y:V} {us:List afg},bo [x,y] us->∃u v,us=[u,v]/\bE x u/\bE y v
 |_,_,_,.cons r (.cons q .nil)=>⟨_,_,rfl,r,q⟩
theorem bo.eraseIdx:∀{xs:List V} {us:List afg} (i:Nat),bo xs us->bo (xs.eraseIdx i) (us.eraseIdx i)
 |_,_,_,.nil=> .nil
 |_,_,0,.cons _ t=>t
 |_,_,i+1,.cons r t=> .cons r (bo.eraseIdx i t)
theorem bo.Z2{xs:List V}{us:List afg}(h:bo xs us):∀k:Nat,bo (afQ k xs).flatten (afQ k us).flatten
 |0=> .nil
 |k+1=>by
  rw[ag1,ag1,ah7,ah7];exact bo.append h (bo.Z2 h k)
theorem vf{α:Type}:∀(l:List α) (i:Nat),(l.eraseIdx i).length<=l.length
 | [],_=>afp _
 |_::_,0=>ahz _
 |_::r,i+1=>ajs (vf r i)
theorem uT(aR:List afg):∀(k:Nat) (acc:List afg),
  amM (fun x1 x2=>x1++x2) acc.toArray (afQ k aR.toArray)=(acc++(afQ k aR).flatten).toArray
 |0,acc=>by simp
 |k+1,acc=>by
  have e:acc.toArray++aR.toArray=(acc++aR).toArray:=by simp
  have e2:(acc++aR)++(afQ k aR).flatten=acc++(afQ (k+1) aR).flatten:=by
   rw[ag1,ah7,afS]
  rw[<-e2,<-uT aR k (acc++aR),<-e,ag1,ail]
section
variable{zs:List V}
theorem bb.Hb{its':List afg}{f:Array afg->Array afg}(I:bb X pins σ H s)(hH:H l=some (.ba xs))
  (e:s.heap.get? l=some {cls:= .type "list",data:= .seq aR.toArray n}) (hf:f aR.toArray=its'.toArray) (hv:bo ys its') (hz:ys.length<=sizeLine):
  bb X pins σ (aE H l (.ba ys)) {s with heap:=s.heap.update l (ahl f),toks:=t'}:=by
 have q:=PySem.IsL.update e f;rw[hf]at q;refine I.pk (x:=l) (e:=l) (by rw[hH];exact trivial) (.inl rfl) (fun b' u hb hu=>(agS s.heap (ahl f) (agW hb)).trans hu) ⟨_,q⟩ ?_;exact⟨hz,its',_,hv,q⟩
theorem bb.Sq(I:bb X pins σ H s)(hv:bo ys aR)(hz:ys.length<=sizeLine):
  bb X pins σ (aE H s.heap.objs.size (.ba ys)) {s with heap:=s.heap.push {cls:= .type "list",data:= .seq aR.toArray},toks:=t'}:=
 I.ml (fun _ _ q=>afm _ q) (afp _) ⟨hz,aR,0,hv,afI _ rfl⟩
theorem bb.fresh(I:bb X pins σ H s):H s.heap.objs.size=none:=I.dc.fresh (afp _)
theorem bb.wJ(I:bb X pins σ H s)(hH:H l=some (.ba xs)):xs.length<=sizeLine/\∃(aR:List afg) (n:Nat),bo xs aR/\xs.length=aR.length/\s.heap.get? l=some {cls:= .type "list",data:= .seq aR.toArray n}:=by
 obtain⟨z,aR,n,r,e⟩:=I.dc l _ hH;exact⟨z,aR,n,r,r.length,e⟩
theorem sD(h:n<=sizeLine):ahg n=false:=by
 unfold ahg;exact agd (by omega)
end
inductive CI(x:V)(vs:List V)(H:Hp)(Q:VK):Prop|m:∀l xs y,x= .ref l->vs=[y]->H l=some (.ba xs)->xs.length<sizeLine->Q .gw (aE H l (.ba (xs++ [y])))->CI x vs H Q
theorem de:Qc X "list.append" CI:=by
 intro pins s σ H x vs v us Q I rx rv h;obtain⟨l,xs,y,rfl,rfl,hH,hz,q⟩:=h;cases rx;obtain⟨u,rfl,ru⟩:=rv.xV;obtain⟨z,aR,n,r,hl,e⟩:=I.wJ hH;refine aiT age ⟨_,e,rfl⟩ F.entry_list_append (F.args_list_append_2 _ _) (PySem.list_append l aR.toArray n u (by rw[afL];omega)) ⟨e,?_⟩;refine⟨.gw,_,I.Hb (its':=aR++ [u]) hH e (by simp) (r.append (.cons ru .nil)) ?_,rfl,q⟩;rw[afc,agT];omega
inductive CJ(x:V)(vs:List V)(H:Hp)(Q:VK):Prop|m:∀l b xs zs,x= .ref l->vs=[.ref b]->H l=some (.ba xs)->H b=some (.ba zs)->xs.length+zs.length<=sizeLine->Q .gw (aE H l (.ba (xs++zs)))->CJ x vs H Q
theorem dJ:Qc X "list.extend" CJ:=by
 intro pins s σ H x vs v us Q I rx rv h;obtain⟨l,b,xs,zs,rfl,rfl,hH,hB,hz,q⟩:=h;cases rx;obtain⟨u,rfl,ru⟩:=rv.xV;cases ru;obtain⟨z,aR,n,r,hl,e⟩:=I.wJ hH;obtain⟨z2,qJ,n2,r2,Cc,e2⟩:=I.wJ hB;have hsz:aR.toArray.size+qJ.toArray.size<=sizeLine:=by rw[afL,afL];omega
 have yB:¬(!aR.toArray.isEmpty&&ahg (aR.toArray.size+qJ.toArray.size))=true:=by
  rw[sD hsz,amN];exact afP
 refine aiT af2 ⟨_,e,rfl⟩ alJ (alm _ _)
  (AutoSeq1.list_extend_list_list_0 l aR.toArray n b qJ.toArray n2 yB (by rw[afL];omega) (by omega)) ⟨e,e2,?_⟩
 refine⟨.gw,_,I.Hb (its':=aR++qJ) hH e (by simp) (r.append r2) ?_,rfl,q⟩;rw[afc];omega
inductive SS(x:V)(y:V)(H:Hp)(Q:VK):Prop|m:∀l b xs zs,x= .ref l->y= .ref b->H l=some (.ba xs)->H b=some (.ba zs)->xs.length+zs.length<=sizeLine->(∀p,H p=none->Q (.ref p) (aE H p (.ba (xs++zs))))->SS x y H Q
theorem sG:nY X (binaryOp .Add) SS:=by
 intro pins s σ H x y v u Q I rx ry h;obtain⟨l,b,xs,zs,rfl,rfl,hH,hB,hz,q⟩:=h;cases rx;cases ry;obtain⟨z,aR,n,r,hl,e⟩:=I.wJ hH;obtain⟨z2,qJ,n2,r2,Cc,e2⟩:=I.wJ hB;refine PySem.P.add_list e e2 ?_ (by rw[afL,afL];omega);have ea:aR.toArray++qJ.toArray=(aR++qJ).toArray:=by simp
 rw[ea];exact⟨.ref _,_,I.Sq (t':=s.toks) (r.append r2) (by rw[afc];omega),rfl,q _ I.fresh⟩
inductive SY(x:V)(y:V)(H:Hp)(Q:VK):Prop|m:∀l k xs,x= .ref l->y= .int k->H l=some (.ba xs)->-(2^63)<=k->k<2^63->xs.length*k.toNat<=sizeLine->(∀p,H p=none->Q (.ref p) (aE H p (.ba (afQ k.toNat xs).flatten)))->SY x y H Q
theorem KL{α:Type}(xs:List α)(k:Nat):(afQ k xs).flatten.length=k*xs.length:=by
 induction k with
 |zero=>simp
 |succ k ih=>rw[ag1,ah7,afc,ih,Nat.succ_mul,aiE]
theorem AF:nY X (binaryOp .Mult) SY:=by
 intro pins s σ H x y v u Q I rx ry h;obtain⟨l,k,xs,rfl,rfl,hH,h1,h2,hz,q⟩:=h;cases rx;obtain⟨t,rfl⟩:=ry;obtain⟨z,aR,n,r,hl,e⟩:=I.wJ hH;have bY:aR.toArray.size*k.toNat<=sizeLine:=by rw[afL,<-hl];exact hz
 have Wd:¬aR.toArray.size*k.toNat>(2^63-1)/8:=by
  have:(sizeLine:Nat)<=(2^63-1)/8:=by decide
  omega
 have Wl:¬(!Builtin.List.listFitsIndex k)=true:=by
  rw[fitsIndex_both h1 h2];exact afP
 have yB:¬ahg (aR.toArray.size*k.toNat)=true:=by
  rw[sD bY];exact afP
 have WE:amM (fun x1 x2=>x1++x2) #[] (afQ (if aR.toArray.isEmpty=true then 0 else k.toNat) aR.toArray)=(afQ k.toNat aR).flatten.toArray:=by
  have f0:∀m:Nat,amM (fun x1 x2=>x1++x2) #[] (afQ m aR.toArray)=(afQ m aR).flatten.toArray:=fun m=>by
   have:=uT aR m [];rw[agV]at this;exact this
  rw[f0];cases aR with
  |nil=>simp
  |cons a r'=>rw[afe (by simp)]
 refine wpAny_binaryOp_repeat_ref (T:="list") (U:="int") (by decide) ⟨_,e,rfl⟩ (fun s'=>amL s' k t) noFill_list_mul F.fills_int_mul amB repeat_list F.slot_int_index.lookup
  (aiT amB (amL s k t) F.entry_int_rmul (F.args_int_rmul_2 _ _) (int___rmul___int_list k t l aR.toArray n)
   ⟨e,rfl,⟨_,e,rfl⟩,aiT F.slot_list_mul ⟨_,e,rfl⟩ F.entry_list_mul (F.args_list_mul_2 _ _) (AutoListH.list___mul___list_int_3 l aR.toArray n k t Wl Wd yB) ⟨e,?_⟩⟩)
 rw[WE];exact⟨.ref _,_,I.Sq (t':=s.toks) (r.Z2 k.toNat) (by rw[KL,Nat.mul_comm];exact hz),rfl,q _ I.fresh⟩
theorem bo.Yc:∀{bs:List Bool} {us:List afg},bo (bs.map V.bl) us->us=bs.map aj7
 | [],us,h=>by
  rw[aj1]at h;cases h;rfl
 |b::bs,us,h=>by
  rw[agb]at h;cases h with
  |cons r t=>
   cases r;rw[bo.Yc t,agb]
theorem bo.XD(r:bo [V.ref a] us):us=[af1 a]:=by
 cases r with
 |cons r t=>
  cases t;cases r;rfl
inductive Iy(K:afW)(x:V)(xs:List V)(H:Hp)(Q:VK):Prop|m:∀(a:afd) (ys:List V) (y:V) (j:Nat) (z:V),x=V.ref a->xs=[y]->aJ K H a ys->jC y=true->ys.all jC=true->ys[j]? =some z->Jz z y=true->(∀(m:Nat) (z':V),m<j->ys[m]? =some z'->Jz z' y=false)->Q (.int (j:Nat)) H->Iy K x xs H Q
theorem BY(f:ys.all jC=true){z:V}(h:ys[j]? =some z):jC z=true:=af6.mp f z (afq h)
theorem yQ:UQ X "list.index" (Iy X.K):=by
 intro pins s σ H x xs v us Q I rx XG h;obtain⟨a,ys,y,j,z,rfl,rfl,hs,fy,VT,hz,Uq,e9,q⟩:=h;cases rx;cases XG with
 |cons ry rt=>
  rename_i uy ut;cases rt;obtain⟨aR,rv,⟨⟨cls,dd,data,sl⟩,n,ho,hc,hdn,hd⟩,bY⟩:=I.list hs;simp only at hc hd;subst hc hd;obtain⟨u,hu,ru⟩:=rv.get hz;obtain⟨Qu,Wq⟩:=aff.mp hu;have Ky:=rv.length;have hj:j<aR.toArray.size:=by simpa using Qu
  have qI:=ali;refine aiT ah9 ⟨_,ho,rfl⟩ PySem.F.entry_list_index (PySem.F.args_list_index_2 _ _)
   (SeqAt.list_indexAt a aR.toArray n dd sl uy (zM y) j hj (by omega) ?_ ?_) ⟨ho,fun u' Nd=>jF ry fy rv VT u' (by simpa using Nd),?_⟩
  .have e1:aR.toArray[j]=u:=by simpa using Wq
   rw[e1,wj ru (BY VT hz)];exact Uq
  .intro m hm Wz;have M9:m<aR.length:=by simpa using hm
   have hmy:m<ys.length:=by omega
   have Sg:ys[m]? =some ys[m]:=afk hmy;obtain⟨u2,WS,ru2⟩:=rv.get Sg;obtain⟨_,hme⟩:=aff.mp WS;have e1:aR.toArray[m]=u2:=by simpa using hme
   rw[e1,wj ru2 (BY VT Sg)];exact e9 m _ Wz Sg
  .exact⟨.int (j:Nat),H,I.qM _,⟨_,rfl⟩,q⟩
theorem yH(hl:s.heap.IsList l items)
  (h:∀s₂:afC,s₂={s with heap:=s.heap.push {cls:= .type "list_iterator",data:= .fields #[.ref l,.int 0 0]}}->
   (s₂.heap.IsListIter s.heap.objs.size l 0/\s₂.heap.IsList l items)->l≠s.heap.objs.size->Q (.ref s.heap.objs.size) s₂):wpAny (model prog w) A (pyIter (.ref l)) Q E s:=by
 have iF:l<s.heap.objs.size:=by obtain⟨_,e,_⟩:=hl;exact afV e
 exact ahq hl (h _ rfl ⟨⟨_,afI _ rfl,rfl,rfl⟩,hl.push _⟩ (agy iF))
theorem zy{bs:List Bool}(e:aR=bs.map aj7):
  TruthOf prog w A (fun i v=>aR.toArray[i]? =some v) (fun i=>bs.getD i false):=fun i v s Q E hv hq=>by
 have JH:aR[i]? =some v:=by simpa using hv
 rw[e,afy]at JH;obtain⟨b,hb,rfl⟩:=ai7.mp JH;have hg:bs.getD i false=b:=by rw[ahU,hb]<;>rfl
 have Ce:Q (bs.getD i false) s:=hq;rw[hg]at Ce;exact ag3 Ce
theorem Dr:∀bs:List Bool,(aiS bs.length).any (fun i=>bs.getD i false)=bs.any id
 | []=>rfl
 |b::bs=>by
  rw[afr,akV,aiq,anz,aiq,<-Dr bs]
  all_goals rfl
theorem uD:∀bs:List Bool,(aiS bs.length).all (fun i=>bs.getD i false)=bs.all id
 | []=>rfl
 |b::bs=>by
  rw[afr,akV,aku,ag5,aku,<-uD bs]
  all_goals rfl
inductive SQ(K:afW)(vs:List V)(H:Hp)(Q:VK):Prop|m:∀(a:afd) (bs:List Bool),vs=[V.ref a]->aJ K H a (bs.map V.bl)->Q (.bl (bs.all id)) H->SQ K vs H Q
theorem rI(hc:X.calm=true):p9 X (.builtin "all") (SQ X.K):=by
 intro pins s σ H vs us Q I r h;obtain⟨a,bs,rfl,hs,q⟩:=h;obtain⟨aR,rv,hl,_⟩:=I.list hs;rw[bo.XD r];have hb:=rv.Yc;refine call_all_walk (yH hl.isList fun s₂ e2 st gh=> ?_);subst e2;refine⟨_,_,_,_,_,_,_,rfl,amO (A:=X.A.in1) (I.ok.hd hc) _ a gh aR.toArray,st,zy hb,fun h' tk hk=> ?_⟩;refine⟨.bl _,H,I.kept fun b o eo=>hk b o (fun eX=> ?_) (afm _ eo),?_,q⟩
 .rcases afx.mp eX with e1|eX
  .exact absurd (e1▸afV eo) (ahp _)
  .cases eX
 .show aj7 _=aj7 _;rw[<-uD,hb,afL,afb]
mutual
inductive Dp (K:afW) (H:Hp):V->aln->Prop
 |gw:Dp K H .gw .none
 |bl (b:Bool):Dp K H (.bl b) (.bool b)
 |int (i:Int):Dp K H (.int i) (.int i)
 |str (x:Str):Dp K H (.str x) (.str x)
 |ba {a:afd} {xs:List V} {ds:List aln}:aJ K H a xs->qc K H xs ds->Dp K H (.ref a) (.list ds)
 |dY {a:afd} {xs:List V} {ds:List aln}:gF K H a xs->qc K H xs ds->Dp K H (.ref a) (.tuple ds)
inductive qc (K:afW) (H:Hp):List V->List aln->Prop
 |nil:qc K H [] []
 |cons {v:V} {vs:List V} {d:aln} {ds:List aln}:Dp K H v d->qc K H vs ds->qc K H (v::vs) (d::ds)
end
mutual
theorem Dp.qv(I:bb X pins σ H s):∀(d:aln) (v:V) (u:afg),Dp X.K H v d->bE v u->∃as,Reads s.heap u d as
 | .none,_,_,h,r=>by
  cases h;cases r;exact⟨_,Reads.none⟩
 | .bool b,_,_,h,r=>by
  cases h;cases r;exact⟨_,Reads.bool b⟩
 | .int i,_,_,h,r=>by
  cases h;obtain⟨t,rfl⟩:=r;exact⟨_,Reads.int i t⟩
 | .str x,_,_,h,r=>by
  cases h;obtain⟨t,rfl⟩:=r;exact⟨_,Reads.str x t⟩
 | .list ds,_,_,h,r=>by
  cases h with
  |ba hs ha=>
   cases r;obtain⟨aR,rv,⟨o,n,ho,hc,_,hd⟩,_⟩:=I.list hs;obtain⟨as,hr⟩:=Dp.i9 I ds _ aR ha rv;exact⟨_,Reads.list ho hc hd hr⟩
 | .tuple ds,_,_,h,r=>by
  cases h with
  |dY hs ha=>
   cases r;obtain⟨aR,rv,⟨o,ho,hc,n,hd⟩,_⟩:=I.tuple hs;obtain⟨as,hr⟩:=Dp.i9 I ds _ aR ha rv;exact⟨_,Reads.tuple ho hc hd hr⟩
 | .dict _,_,_,h,_=>by cases h
theorem Dp.i9(I:bb X pins σ H s):∀(ds:List aln) (vs:List V) (us:List afg),qc X.K H vs ds->bo vs us->∃as,ReadsAll s.heap us ds as
 | [],_,_,h,r=>by
  cases h;cases r;exact⟨_,ReadsAll.nil⟩
 |d::ds,_,_,h,r=>by
  cases h with
  |cons h1 h2=>
   cases r with
   |cons r1 r2=>
    obtain⟨as,q1⟩:=Dp.qv I d _ _ h1 r1;obtain⟨bs,q2⟩:=Dp.i9 I ds _ _ h2 r2;exact⟨_,ReadsAll.cons q1 q2⟩
end
inductive SU(K:afW)(x:V)(y:V)(H:Hp)(Q:VK):Prop|m:∀d e,Dp K H x d->Dp K H y e->ahN d=true->ahN e=true->Q (.bl (amP d e)) H->SU K x y H Q
inductive SW(K:afW)(x:V)(y:V)(H:Hp)(Q:VK):Prop|m:∀d e,Dp K H x d->Dp K H y e->ahN d=true->ahN e=true->Q (.bl (!PyData.eqv d e)) H->SW K x y H Q
theorem Ie(hu:X.A.units+64<cLine):nY X (compareOp .Eq) (SU X.K):=by
 intro pins s σ H x y v u Q I rx ry h;obtain⟨d,e,hd,he,sd,se,q⟩:=h;obtain⟨as,r1⟩:=Dp.qv I d x v hd rx;obtain⟨bs,r2⟩:=Dp.qv I e y u he ry;exact SeqAt.compareEq_shaped r1 r2 sd se hu ⟨.bl _,H,I,rfl,q⟩
theorem Ih(hu:X.A.units+64<cLine):nY X (compareOp .NotEq) (SW X.K):=by
 intro pins s σ H x y v u Q I rx ry h;obtain⟨d,e,hd,he,sd,se,q⟩:=h;obtain⟨as,r1⟩:=Dp.qv I d x v hd rx;obtain⟨bs,r2⟩:=Dp.qv I e y u he ry;exact SeqAt.compareNe_shaped r1 r2 sd se hu ⟨.bl _,H,I,rfl,q⟩
abbrev Fv(h:agg)(c:afd)(v:Option afg):Prop:=h.IsCell c v
def XE(scope sc:ahO):ahO:=
 {scope with names:=scope.names.map fun(n,k)=>if(k== .free&&sc.kind== .function&&sc.names.lookup n==some .cell)then(n,.cell)else(n,k)}
def di(cells:List (Str×afd)):List (Str×agL)->List (Str×afd)->List (Str×afd)
 | [],acc=>acc
 |(n,k)::r,acc=>if k== .free then di cells r ((n,(cells.lookup n).getD 0)::acc)else di cells r acc
theorem oq(env:Env)(f:Str×agL->List (Str×afd)->Sem (ForInStep (List (Str×afd))))
  (hf:∀n k c,f (n,k) c=if k== .free then(do let a<-cellOf env n;pure (.yield ((n,a)::c)))else pure (.yield c)):
  ∀(names:List (Str×agL)) (acc:List (Str×afd)),(∀y∈names,y.2= .free->∃c,env.cells.lookup y.1=some c)->forIn names acc f=pure (di env.cells names acc)
 | [],acc,_=>by rw[amQ];rfl
 |(n,k)::r,acc,h=>by
  rw[amC,hf];have ih:=fun acc=>oq env f hf r acc fun y hy=>h y (afu _ hy)
  unfold di;by_cases hk:(k==aiL)=true
  .rw[afj hk,afj hk];obtain⟨c,hc⟩:=h (n,k) af5 (by simpa using hk);have e:cellOf env n=pure c:=by unfold cellOf;rw[hc]
   rw[e];have e2:(env.cells.lookup n).getD 0=c:=by rw[hc];rfl
   rw[e2];exact ih _
  .rw[afe hk,afe hk];exact ih _
theorem zY(h:∀y∈scope.names,y.2= .free->∃c,env.cells.lookup y.1=some c):closureFor scope env=pure (di env.cells scope.names []):=by
 simp only[closureFor];rw[oq env _ (fun n k c=>rfl) scope.names [] h];rfl
theorem ng{α:Type}:∀{l:List (Str×α)} {n:Str} {c:α},(n,c)∈l->∃c',l.lookup n=some c'
 |(k,v)::r,n,c,h=>by
  rw[aht];cases hb:n==k with
  |true=>exact⟨_,rfl⟩
  |false=>
   rcases afx.mp h with e|h
   .cases e;simp at hb
   .exact ng h
theorem jd{cells:List (Str×afd)}:∀{names:List (Str×agL)} {acc:List (Str×afd)} {n:Str} {c:afd},(n,c)∈di cells names acc->(n,c)∈acc\/((n,.free)∈names/\c=(cells.lookup n).getD 0)
 | [],_,_,_,h=> .inl h
 |(m,k)::r,acc,n,c,h=>by
  unfold di at h;split at h
  .rename_i hk;have hk:k= .free:=by simpa using hk
   rcases jd h with h|⟨h1,h2⟩
   .rcases afx.mp h with e|h
    .cases e;exact .inr ⟨hk▸af5,rfl⟩
    .exact .inl h
   .exact .inr ⟨afu _ h1,h2⟩
  .rcases jd h with h|⟨h1,h2⟩
   .exact .inl h
   .exact .inr ⟨afu _ h1,h2⟩
theorem kJ{cells:List (Str×afd)}:∀{names:List (Str×agL)} {acc:List (Str×afd)} {p:Str×afd},p∈acc->p∈di cells names acc
 | [],_,_,h=>h
 |(m,k)::r,acc,p,h=>by
  unfold di;split
  .exact kJ (afu _ h)
  .exact kJ h
theorem kK{cells:List (Str×afd)}:∀{names:List (Str×agL)} {acc:List (Str×afd)} {n:Str},(n,.free)∈names->(n,(cells.lookup n).getD 0)∈di cells names acc
 |(m,k)::r,acc,n,h=>by
  unfold di;rcases afx.mp h with e|h
  .cases e;exact kJ af5
  .split
   .exact kK h
   .exact kK h
theorem jB:∀{names:List (Str×agL)} {h:agg} {acc:List (Str×afd)} {x:Str} {c:afd},(x,c)∈cellsFrom h.objs.size names acc->
  (x,c)∈acc\/((x,.cell)∈names/\h.objs.size<=c/\Fv (pushCells h names) c none)
 | [],_,_,_,_,h=> .inl h
 |(n,k)::r,h,acc,x,c,hm=>by
  unfold cellsFrom at hm;unfold pushCells;split at hm
  .rename_i hk;rw[afj hk];have hk:k= .cell:=by simpa using hk
   rw[<-agh h {cls:= .type "cell",data:= .cell none}]at hm;rcases jB hm with hm|⟨h1,h2,h3⟩
   .rcases afx.mp hm with e|hm
    .cases e;exact .inr ⟨hk▸af5,afp _,_,ajK r _ _ _ (afI _ rfl),rfl⟩
    .exact .inl hm
   .rw[agh]at h2;exact .inr ⟨afu _ h1,ai8 h2,h3⟩
  .rename_i hk;rw[afe hk];rcases jB hm with hm|⟨h1,h2,h3⟩
   .exact .inl hm
   .exact .inr ⟨afu _ h1,h2,h3⟩
theorem lR:∀{names:List (Str×agL)} {n:Nat} {acc:List (Str×afd)} {p:Str×afd},p∈acc->p∈cellsFrom n names acc
 | [],_,_,_,h=>h
 |(m,k)::r,n,acc,p,h=>by
  unfold cellsFrom;split
  .exact lR (afu _ h)
  .exact lR h
theorem pC:∀{names:List (Str×agL)} {n:Nat} {acc:List (Str×afd)} {x:Str},(x,.cell)∈names->∃c,(x,c)∈cellsFrom n names acc
 |(m,k)::r,n,acc,x,h=>by
  unfold cellsFrom;rcases afx.mp h with e|h
  .cases e;exact⟨n,lR af5⟩
  .split
   .exact pC h
   .exact pC h
theorem pD:∀{names:List (Str×agL)} {h:agg} {acc:List (Str×afd)} {x y:Str} {c:afd},(∀p∈acc,p.2<h.objs.size)->(∀x y c,(x,c)∈acc->(y,c)∈acc->x=y)->
  (x,c)∈cellsFrom h.objs.size names acc->(y,c)∈cellsFrom h.objs.size names acc->x=y
 | [],_,_,_,_,_,_,hi,h1,h2=>hi _ _ _ h1 h2
 |(n,k)::r,h,acc,x,y,c,hl,hi,h1,h2=>by
  unfold cellsFrom at h1 h2;split at h1
  .rename_i hk;rw[afj hk]at h2;rw[<-agh h {cls:= .type "cell",data:= .cell none}]at h1 h2;refine pD (h:=h.push _) (fun p hp=> ?_) (fun x y c a b=> ?_) h1 h2
   .rw[agh];rcases afx.mp hp with rfl|hp
    .exact akC _
    .exact aiu (hl p hp)
   .rcases afx.mp a with e|a<;>rcases afx.mp b with e'|b
    .cases e;cases e';rfl
    .cases e;exact absurd (hl _ b) (ahp _)
    .cases e';exact absurd (hl _ a) (ahp _)
    .exact hi _ _ _ a b
  .rename_i hk;rw[afe hk]at h2;exact pD hl hi h1 h2
theorem yU{globals:afd}{closure:List (Str×afd)}{func:Option afd}{code:afg}{around:Env}{builtins:afd}{Q:Env->afC->Prop}
  (h:Q (newEnv scope s.heap.objs.size globals (cellsFrom (s.heap.objs.size+1) scope.names closure) qual func code (some around) builtins)
   {s with heap:=pushCells (s.heap.push {cls:= .type "dict",data:= .dict #[]}) scope.names}):
  wpAny M A (newFunctionEnv scope globals closure [] qual func code (some around) builtins) Q E s:=by
 simp only[newFunctionEnv,alT,aj0];refine afi (wpAny_alloc ?_);refine afi (wpAny_layCells _ (fun n k c=>rfl) scope.names closure _ _ ?_);rw[show({s with heap:=s.heap.push {cls:= .type "dict",data:= .dict #[]}}:afC).heap.objs.size=s.heap.objs.size+1 from agh ..];rw[amQ];exact afi (afZ (afZ h))
theorem kW{sc:ahO}:∀{names:List (Str×agL)} {x:Str} {k:agL},
  (names.map fun(n,k)=>if(k==aiL&&sc.kind== .function&&sc.names.lookup n==some .cell)then(n,alL)else(n,k)).lookup x=some k->
  ∃k',names.lookup x=some k'/\(k=k'\/(k'= .free/\k= .cell))
 | [],_,_,h=>by simp at h
 |(n,k₀)::r,x,k,h=>by
  have ih:=@kW sc r x k;have h':aiy x ((if(k₀==aiL&&sc.kind== .function&&sc.names.lookup n==some .cell)=true then(n,alL)else(n,k₀))::(r.map _))=some k:=h;cases hx:x==n with
  |true=>
   simp only[aht,hx];by_cases hc:(k₀==aiL&&sc.kind== .function&&sc.names.lookup n==some .cell)=true
   .rw[afj hc]at h';simp only[aht,hx]at h';cases h';simp only[afB,ajr]at hc;exact⟨k₀,rfl,.inr ⟨hc.1.1,rfl⟩⟩
   .rw[afe hc]at h';simp only[aht,hx]at h';cases h';exact⟨_,rfl,.inl rfl⟩
  |false=>
   simp only[aht,hx];by_cases hc:(k₀==aiL&&sc.kind== .function&&sc.names.lookup n==some .cell)=true
   .rw[afj hc]at h';simp only[aht,hx]at h';exact ih h'
   .rw[afe hc]at h';simp only[aht,hx]at h';exact ih h'
structure iK(N:List Str)(sc scope:ahO)(own:List (Str×Nat)):Prop where
 kind:scope.kind= .function
 P7:∀y∈scope.names,scope.names.lookup y.1=some y.2
 ix:∀p∈own,N[p.2]? =some p.1
 free:∀y∈scope.names,y.2= .free->sc.names.lookup y.1=some .cell\/sc.names.lookup y.1=some .free
 own:∀y∈scope.names,y.2= .local\/y.2= .cell->y.1∈own.map (·.1)\/y.1∉N
def fK(σ:St):List Nat->St
 | []=>σ
 |v::vs=>(fK σ vs).set v none
theorem lM(σ:St):∀vs:List Nat,(fK σ vs).length=σ.length
 | []=>rfl
 |v::vs=>by unfold fK;rw[ak5,lM σ vs]
theorem p7{σ:St}{i:Nat}{x:V}:∀{vs:List Nat},(fK σ vs)[i]? =some (some x)->σ[i]? =some (some x)/\i∉vs
 | [],h=>⟨h,by simp⟩
 |v::vs,h=>by
  unfold fK at h;by_cases hi:v=i
  .subst hi;by_cases hv:v<(fK σ vs).length
   .rw[ai4 hv]at h;cases h
   .rw[air (by simpa using hv)]at h;cases h
  .rw[ajD hi]at h;obtain⟨h1,h2⟩:=p7 h;exact⟨h1,by simp only[afx,akv];exact⟨fun e=>hi e.symm,h2⟩⟩
abbrev Cx.vS(X:Cx)(s:afC)(H:Hp)(scope:ahO)(gH:Env)(fp:List afd):Cx:={X with s_0:=s,H_0:=H,env:=gH,outer:=X.stack,ex:=fp,fn:=fun x=>scope.names.lookup x==some .cell,pn:=[],xe:=fun _ _=>False}
theorem x3(I:bb X pins σ H s)(ok:iK X.N X.env.scope scope own)(hN:X.N.Nodup)(Qt:∀b∈fp,qy X pins H b/\b<s.heap.objs.size):
  bb (X.vS s H scope (compEnvC scope (cellsFrom (s.heap.objs.size+1) scope.names (di X.env.cells scope.names [])) s.heap.objs.size X.env) fp) [] (fK σ (own.map (·.2))) H {s with heap:=pushCells (s.heap.push {cls:= .type "dict",data:= .dict #[]}) scope.names}:=by
 have uX:∀y∈scope.names,y.2= .free->∃c,X.env.cells.lookup y.1=some c:=fun y hy e=>by
  rcases ok.free y hy e with k|k
  .exact I.ok.has _ (.inl k)
  .exact I.ok.has _ (.inr k)
 generalize yA:compEnvC scope (cellsFrom (s.heap.objs.size+1) scope.names (di X.env.cells scope.names [])) s.heap.objs.size X.env=gH;have kp:∀b o,s.heap.get? b=some o->(pushCells (s.heap.push {cls:= .type "dict",data:= .dict #[]}) scope.names).get? b=some o:=fun b o e=>ajK _ _ _ _ (afm _ e)
 have hL:gH.locals=s.heap.objs.size:=by rw[<-yA];rfl
 have Ab:gH.cells=cellsFrom (s.heap.objs.size+1) scope.names (di X.env.cells scope.names []):=by rw[<-yA];rfl
 have Qx:gH.scope=XE scope X.env.scope:=by rw[<-yA];rfl
 rw[<-agh s.heap {cls:= .type "dict",data:= .dict #[]}]at Ab;have cm:∀{y c},(y,c)∈di X.env.cells scope.names []->X.env.cells.lookup y=some c/\c<s.heap.objs.size:=fun{y c} hm=>by
  rcases jd hm with hm|⟨h1,rfl⟩
  .cases hm
  .obtain⟨c,hc⟩:=uX _ h1 rfl;rw[hc];obtain⟨w,z⟩:=I.cell _ _ hc;exact⟨rfl,z.lt⟩
 have mem:∀{y c},gH.cells.lookup y=some c->(X.env.cells.lookup y=some c/\c<s.heap.objs.size)\/(s.heap.objs.size+1<=c/\Fv (pushCells (s.heap.push {cls:= .type "dict",data:= .dict #[]}) scope.names) c none):=fun{y c} e=>by
  rw[Ab]at e;rcases jB (agx e)with hm|⟨_,h2,h3⟩
  .exact .inl (cm hm)
  .rw[agh]at h2;exact .inr ⟨h2,h3⟩
 have D6:∀{y},scope.names.lookup y=some .free->∃c,gH.cells.lookup y=some c/\X.env.cells.lookup y=some c:=fun{y} hl=>by
  have hy:(y,aiL)∈scope.names:=agx hl;obtain⟨c',e'⟩:=ng (lR (names:=scope.names) (n:=(s.heap.push {cls:= .type "dict",data:= .dict #[]}).objs.size) (kK (cells:=X.env.cells) (acc:=[]) hy));rw[<-Ab]at e';refine⟨c',e',?_⟩;rw[Ab]at e';rcases jB (agx e')with hm|⟨h1,_,_⟩
  .exact(cm hm).1
  .have:=ok.P7 _ h1;rw[hl]at this;cases this
 have okB:(X.vS s H scope gH fp).Ok:=by
  refine⟨I.ok.wO,by show gH.scope.kind=_;rw[Qx];exact ok.kind,by show gH.globals=_;rw[<-yA];exact I.ok.wo,by show gH.builtins=_;rw[<-yA];exact I.ok.Qi,by show s.heap.objs.size<=gH.locals;rw[hL];exact afp _,
   fun y z c e1 e2=> ?_,fun y hy=> ?_,fun y c z e=> ?_,I.ok.hd,I.ok.frames,.inl rfl,fun b hb=>⟨?_,fun y c e z=> ?_⟩,I.bs,afw I.ok.Jv I.sz,fun b o e hb=> ?_,fun b hb z=> ?_,I.stack,I.Dd⟩
  .have e1:gH.cells.lookup y=some c:=e1;have e2:gH.cells.lookup z=some c:=e2;rw[Ab]at e1 e2;refine pD (fun p hp=> ?_) (fun y z c a b=>I.ok.inj y z c (cm a).1 (cm b).1) (agx e1) (agx e2);rw[agh];exact aiu (cm (y:=p.1) (c:=p.2) hp).2
  .show∃c,gH.cells.lookup y=some c;have key:∀k,gH.kindOf y=some k->(k= .cell\/k= .free)->∃c,gH.cells.lookup y=some c:=fun k hk Ug=>by
    unfold Env.kindOf at hk;rw[Qx]at hk;obtain⟨k',e,r⟩:=kW hk;have:k'= .cell\/k'= .free:=by
     rcases r with rfl|⟨rfl,_⟩
     .exact Ug
     .exact .inr rfl
    rcases this with rfl|rfl
    .obtain⟨c,hm⟩:=pC (n:=(s.heap.push {cls:= .type "dict",data:= .dict #[]}).objs.size) (acc:=di X.env.cells scope.names []) (agx e);obtain⟨c',e'⟩:=ng hm;exact⟨c',by rw[Ab];exact e'⟩
    .obtain⟨c,h1,_⟩:=D6 e;exact⟨c,h1⟩
   rcases hy with hy|hy
   .exact key _ hy (.inl rfl)
   .exact key _ hy (.inr rfl)
  .have z:(scope.names.lookup y==some alL)=true:=z;have z:scope.names.lookup y=some .cell:=by simpa using z
   have e:gH.cells.lookup y=some c:=e;rw[Ab]at e;rcases jB (agx e)with hm|⟨_,h2,_⟩
   .rcases jd hm with hm|⟨h1,_⟩
    .cases hm
    .have q:=ok.P7 _ h1;rw[z]at q;cases q
   .rw[agh]at h2;exact ai8 h2
  .show b≠gH.locals;rw[hL];exact agy (Qt b hb).2
  .have e:gH.cells.lookup y=some c:=e;rcases mem e with⟨h1,_⟩|⟨h1,_⟩
   .exact(Qt b hb).1.2.2.2.2.1 y c h1 z
   .have h2:s.heap.objs.size+1<=b:=by rw[<-z];exact h1
    exact absurd (agk (Qt b hb).2 (ai8 h2)) (ahp _)
  .rcases(Qt b hb).1.2.2.2.1 with z|z
   .exact I.ok.Hh b o e z
   .exact absurd (agk (afV e) (afw I.ok.Jv z)) (ahp _)
  .rcases afx.mp (I.A9 b z)with z|z
   .exact(Qt b hb).1.2.1 z
   .exact(Qt b hb).1.2.2.1 z
 refine⟨okB,rfl,I.bare,Un.kept kp,⟨fun _=>none,?_,fun i y av e1 e2 e3=> ?_⟩,fun y c e=> ?_,?_,fun y c e=> ?_,fun p hp=> ?_,I.dc.kept kp,by rw[lM];exact I.len⟩
 .show Heap.Ns _ gH.locals _;rw[hL];exact Heap.Ns.keeps (Heap.Ns.new ..) fun b o e=>ajK _ _ _ _ e
 .obtain⟨e2,gh⟩:=p7 e2;have Ub:scope.names.lookup y=some .free/\(gH.kindOf y=some .cell\/gH.kindOf y=some .free):=by
   have key:∀k,gH.scope.names.lookup y=some k->k= .local\/k= .cell\/k= .free->scope.names.lookup y=some .free/\(gH.kindOf y=some .cell\/gH.kindOf y=some .free):=fun k hk Ug=>by
    have Zi:=hk;rw[Qx]at hk;obtain⟨k',e,r⟩:=kW hk;have no:¬(k'= .local\/k'= .cell):=fun hh=>by
     rcases ok.own _ (agx e) hh with e'|e'
     .obtain⟨p,hp,hpy⟩:=afJ.mp e';have e3:=ok.ix p hp;have:p.1=y:=hpy;rw[this]at e3;exact gh (afJ.mpr ⟨p,hp,sC hN e3 e1⟩)
     .exact e' (afq e1)
    rcases r with rfl|⟨rfl,rfl⟩
    .rcases Ug with rfl|rfl|rfl
     .exact absurd (.inl rfl) no
     .exact absurd (.inr rfl) no
     .exact⟨e,.inr Zi⟩
    .exact⟨e,.inl Zi⟩
   have e3:Qg gH.scope y:=e3;rcases e3 with e3|e3|e3
   .exact key _ e3 (.inl rfl)
   .exact key _ e3 (.inr (.inl rfl))
   .exact key _ e3 (.inr (.inr rfl))
  obtain⟨m,hn,hl⟩:=I.loc;have WT:Qg X.env.scope y:=(ok.free _ (agx Ub.1) rfl).elim (fun k=> .inr (.inl k)) (fun k=> .inr (.inr k));obtain⟨w,r,q⟩:=hl i y av e1 e2 WT;refine⟨w,r,.inr ⟨Ub.2,?_⟩⟩;obtain⟨c,h1,h2⟩:=D6 Ub.1;rcases q with⟨k,_⟩|⟨_,c',e',z⟩
  .have k:X.env.scope.names.lookup y=some .local:=k;rcases ok.free _ (agx Ub.1) rfl with k'|k'<;>rw[show X.env.scope.names.lookup y=_ from k']at k<;>cases k
  .rw[h2]at e';cases e';exact⟨c,h1,z.keeps kp⟩
 .have e:gH.cells.lookup y=some c:=e;rcases mem e with⟨h1,_⟩|⟨_,z⟩
  .obtain⟨w,z⟩:=I.cell y c h1;exact⟨w,z.keeps kp⟩
  .exact⟨_,z⟩
 .show H gH.locals=none;rw[hL];exact I.dc.fresh (afp _)
 .have e:gH.cells.lookup y=some c:=e;rcases mem e with⟨h1,_⟩|⟨h1,_⟩
  .exact I.kP y c h1
  .exact I.dc.fresh (ai8 h1)
 .exact absurd (show p∈([]:List (afd×Obj))++ []from hp) (by simp)
theorem N5{D:afd}(I:bb X pins σ H s)(hD:H D=some (.ba xs))(hz:xs.length<sizeLine)(r:bE y v)
  (h:∀s',bb X pins σ (aE H D (.ba (xs++ [y]))) s'->Q .none s'):wpAny (model X.prog X.w) X.A (call (.builtin "list.append") [.ref D,v]) Q E s:=by
 obtain⟨qo,aR,n,ri,e⟩:=I.dc D _ hD;have hl:=ri.length;refine append_at (hsz:=by rw[afL];omega) e fun h' sb Cd=> ?_
 refine h {s with heap:=h'} (I.pk (t':=s.toks) (by rw[hD];trivial) (.inl rfl) (fun b u hb q=>(sb.2 b hb).trans q) ⟨_,Cd⟩ ⟨by rw[afc];exact hz,aR++ [v],n+1,ri.append (.cons r .nil),?_⟩);rw[Cd];simp
def QP(X:Cx)(nU:List agR)(t:TT):Prop:=
 ∀(pins:List (afd×Obj)) (s:afC) (σ:St) (H:Hp) (Q:Bool->Hp->Prop),bb X pins σ H s->t σ H Q->
  wpAny (model X.prog X.w) X.A (forIn nU true fun c r=>if r=true then do let ok<-isTrue c X.env (eval c X.env);pure (ajL ok)else pure (ajL r)) (TP X pins σ Q) X.xe s
def Fc:TT:=fun _ H Q=>Q true H
theorem j5:QP X [] Fc:=fun _ _ _ H _ I h=>wpAny_tests_nil ⟨H,I,h⟩
theorem oK{t:TT}(h:PT X c t):QP X [c] t:=fun pins s σ H Q I hw=>wpAny_tests_one (h pins s σ H Q I hw)
theorem Fd{α:Type}{t:Sem α}{Q Q':α->afC->Prop}(h:wpAny M A t Q (fun _ _=>False) s)(hQ:∀a s,Q a s->Q' a s):wpAny M A t Q' E s:=ahH h hQ fun _ _ z=>ahj z
theorem vT{zL target:agR}{it acc:afg}(I:Nat->afC->Prop)
  (Bb:∀n s,I n s->wpAny (model prog w) A (pyNext it) (fun r s₁=>match r with
   |none=>R (.ok .next) s₁
   |some v=>wpAny (model prog w) A (letOwnedTupleGo target it v) (fun _ Z7=>wpAny (model prog w) A (assign target env v) (fun _ s₂=>
     wpAny (model prog w) A (forIn nU true fun c r=>if r=true then do let ok<-isTrue c env (eval c env);pure (ajL ok)else pure (ajL r)) (fun ok s₃=>
      if ok=true then wpAny (model prog w) A (eval zL env) (fun x s₄=>
       wpAny (model prog w) A (call (.builtin "list.append") [acc,x]) (fun _ s₅=>∃m,m<n/\I m s₅) (notedBy (model prog w) A env fun e s'=>R (.error e) s') s₄) (notedBy (model prog w) A env fun e s'=>R (.error e) s') s₃
      else∃m,m<n/\I m s₃) (notedBy (model prog w) A env fun e s'=>R (.error e) s') s₂) (notedBy (model prog w) A env fun e s'=>R (.error e) s') Z7) (notedBy (model prog w) A env fun e s'=>R (.error e) s') s₁) (notedBy (model prog w) A env fun e s'=>R (.error e) s') s)
  (n:Nat) (h:I n s):
  codeAny (model prog w) A (.compLoop (.ListComp zL [⟨target,iter,nU,0⟩] scope pos) 0 it acc env) R s:=by
 refine codeAny_loop rfl I (fun n s hI=> ?_) n h;show wpAny _ A ((compTurn (.ListComp zL [⟨target,iter,nU,0⟩] scope pos) 0 it acc env).onRaise (fun x=>do noteFrame x env;theTreesLotGoes x)) _ _ s;refine wpAny_noted ?_;rw[compTurn_list];refine afi (akr (afi (ahH (Bb n s hI) (fun r s₁ h₁=> ?_) fun _ _ h'=>h')));cases r with
 |none=>exact afZ h₁
 |some v=>
  refine afi (ahH h₁ (fun _ Z7 h₁'=> ?_) fun _ _ h'=>h');refine afi (ahH h₁' (fun _ s₂ h₂=>afi (ahH h₂ (fun ok s₃ h₃=> ?_) fun _ _ h'=>h')) fun _ _ h'=>h');cases ok with
  |false=>exact afZ ⟨rfl,h₃⟩
  |true=>
   exact afi (afi (ahH h₃ (fun x s₄ h₄=>afi (ahH h₄ (fun _ s₅ h₅=>afZ (afZ ⟨rfl,h₅⟩)) fun _ _ h'=>h')) fun _ _ h'=>h'))
def UI(wi:TI)(g:TG)(tt:TT)(te:TE)(vs:List Nat):TE:=fun σ H Q=>wi σ H fun J H1=>∀D,H1 D=none->∃W:Nat->Nat->Hp->Prop,(∃m,W 0 m (aE H1 D (.ba [])))/\∀i m H,W i m H->
 (J.ju i H/\Q (.ref D) H)\/(J.go i H/\∃Nx:Hp->Prop,(∀H',Nx H'->∃m',m'<m/\W (i+1) m' H')/\∀x H',J.Di i H x H'->g x (fK σ vs) H' fun σ2 H2=>fK σ2 vs=fK σ vs/\tt σ2 H2 fun b H3=>
  if b=true then te σ2 H3 fun y H4=>∃acc,H4 D=some (.ba acc)/\acc.length<sizeLine/\Nx (aE H4 D (.ba (acc++ [y])))else Nx H3)
theorem Ct{Q:VK}{zL:agR}{use:Option (afg->Sem Unit)}{Qf:afg->afC->Prop}
  (hc:X.calm=true) (hN:X.N.Nodup) (I:bb X pins σ H s) (hi:PI X tg iter wi) (ok:iK X.N X.env.scope scope own)
  (hg:∀(s:afC) (H:Hp) (C:afd) (cl:List (Str×afd)) (fp:List afd),PG (X.vS s H scope (compEnvC scope cl C X.env) fp) tg g) (ht:∀(s:afC) (H:Hp) (C:afd) (cl:List (Str×afd)) (fp:List afd),QP (X.vS s H scope (compEnvC scope cl C X.env) fp) nU tt)
  (he:∀(s:afC) (H:Hp) (C:afd) (cl:List (Str×afd)) (fp:List afd),PE (X.vS s H scope (compEnvC scope cl C X.env) fp) zL te) (hs:∀x,foldedSetIterable iter X.env x=pure x)
  (h:UI wi g tt te (own.map (·.2)) σ H Q)
  (hRR:∀D C s' m H',bb X pins σ H' s'->Q (.ref D) H'->s'.heap.Ns C m->qy X pins H' C->compPost (model X.prog X.w) X.A X.xe use Qf (.ref D) C (.ok .next) s'):
  wpAny (model X.prog X.w) X.A (comprehension (.ListComp zL [⟨tg,iter,nU,0⟩] scope pos) scope X.env iH (newList []) false (eval iter X.env) use) Qf X.xe s:=by
 have uX:∀y∈scope.names,y.2= .free->∃c,X.env.cells.lookup y.1=some c:=fun y hy e=>by
  rcases ok.free y hy e with k|k
  .exact I.ok.has _ (.inl k)
  .exact I.ok.has _ (.inr k)
 refine wpAny_comprehension_free (use:=use) rfl hs (zY uX) ok.kind (fun y hy e=>by rw[ok.P7 y hy,e])
  (cK (hi pins s σ H _ I h) fun xv s1 hx=>cK hx fun W8 s2 h2=> ?_)
 obtain⟨it,fp,tn,J,H2,e,I2,T,NQ,f2,q⟩:=h2;subst e;refine ai9 (yU ?_) (by show 0<=sizeLine;decide);generalize hD:s2.heap.objs.size=D;have hDn:H2 D=none:=I2.dc.fresh (akS hD);obtain⟨W,⟨m0,w0⟩,Bb⟩:=q D hDn;generalize Zw:({s2 with heap:=s2.heap.push {cls:= .type "list",data:= .seq ([]:List afg).toArray}}:afC)=s3;have I3:bb X pins σ (aE H2 D (.ba [])) s3:=by
  rw[<-Zw];refine I2.ml (t':=s2.toks) (fun b o e=>afm _ e) (akS hD) ⟨afH _,[],0,.nil,?_⟩;rw[<-hD];exact afI _ rfl
 have h3:s3.heap=s2.heap.push {cls:= .type "list",data:= .seq ([]:List afg).toArray}:=by rw[<-Zw]
 have sz:∀b∈fp,b<s2.heap.objs.size:=fun b hb=>by
  obtain⟨o,e,_⟩:=T.obj _ _ NQ b hb;exact afV e
 have f3:∀b∈fp,qy X pins (aE H2 D (.ba [])) b/\b<s3.heap.objs.size:=fun b hb=>by
  have iF:=sz b hb;refine⟨⟨?_,(f2 b hb).2⟩,by rw[h3,agh];exact aiu iF⟩;rw[ao (by rw[<-hD];exact agy iF)];exact(f2 b hb).1
 have UE:tn 0 s3.heap:=T.keep _ _ _ NQ fun b _ o e=>by rw[h3];exact afm _ e
 have I4:=x3 I3 ok hN f3;have pg:=hg s3 (aE H2 D (.ba [])) s3.heap.objs.size (cellsFrom (s3.heap.objs.size+1) scope.names (di X.env.cells scope.names [])) fp;have pt:=ht s3 (aE H2 D (.ba [])) s3.heap.objs.size (cellsFrom (s3.heap.objs.size+1) scope.names (di X.env.cells scope.names [])) fp;have pe:=he s3 (aE H2 D (.ba [])) s3.heap.objs.size (cellsFrom (s3.heap.objs.size+1) scope.names (di X.env.cells scope.names [])) fp;show codeAny _ _ (.compStart (.ListComp zL [⟨tg,iter,nU,0⟩] scope pos) 0 (.ref it) (.ref D) (compEnvC scope (cellsFrom (s3.heap.objs.size+1) scope.names (di X.env.cells scope.names [])) s3.heap.objs.size X.env)) (compPost (model X.prog X.w) X.A X.xe use Qf (.ref D) s3.heap.objs.size) {s3 with heap:=pushCells (s3.heap.push {cls:= .type "dict",data:= .dict #[]}) scope.names};have ZQ:∀b∈fp,(aE H2 D (.ba [])) b=none:=fun b hb=>(f3 b hb).1.1
 generalize Ua:compEnvC scope (cellsFrom (s3.heap.objs.size+1) scope.names (di X.env.cells scope.names [])) s3.heap.objs.size X.env=ce at I4 pg pt pe⊢;have cL:ce.locals=s3.heap.objs.size:=by subst Ua;rfl
 generalize hH3:aE H2 D (.ba [])=H3 at I3 I4 pg pt pe w0 ZQ f3;generalize hs4:({s3 with heap:=pushCells (s3.heap.push {cls:= .type "dict",data:= .dict #[]}) scope.names}:afC)=s4 at I4⊢;have Z6:tn 0 s4.heap:=T.keep _ _ _ UE fun b _ o e=>by rw[<-hs4];exact ajK _ _ _ _ (afm _ e)
 have A3:∀{σ':St} {H':Hp} {s':afC},bb (X.vS s3 H3 scope ce fp) [] σ' H' s'->(∀b∈fp,H' b=none)->∀b∈fp,qy (X.vS s3 H3 scope ce fp) [] H' b:=fun{σ' H' s'} I' hn b hb=>
  ⟨hn b hb,(I'.ok.T1 b hb).1,I'.ok.Gx b hb,.inl hb,fun x c e=>(I'.ok.T1 b hb).2 x c e,fun p hp=>absurd (show p∈([]:List (afd×Obj))++ []from hp) (by simp)⟩
 have loop:codeAny (model X.prog X.w) X.A (.compLoop (.ListComp zL [⟨tg,iter,nU,0⟩] scope pos) 0 (.ref it) (.ref D) ce) (compPost (model X.prog X.w) X.A X.xe use Qf (.ref D) s3.heap.objs.size) s4:=by
  refine vT (fun n s'=>∃i H',bb (X.vS s3 H3 scope ce fp) [] (fK σ (own.map (·.2))) H' s'/\tn i s'.heap/\(∀b∈fp,H' b=none)/\W i n H') ?_ m0 ⟨0,H3,I4,Z6,ZQ,w0⟩;rintro n s5 ⟨i,H5,I5,QE,n5,w5⟩;rcases Bb i n H5 w5 with⟨ju,qq⟩|⟨go,Nx,hNx,step⟩
  .have td:=T.done (X.vS s3 H3 scope ce fp) rfl rfl rfl hc i [] s5 _ H5 (fun _ _=>False) I5 (A3 I5 n5) QE ju;refine Fd td fun r s6 ⟨hr,I6⟩=> ?_
   subst hr;have I7:bb X pins σ H5 s6:=I3.Q4 (ch:=fp) I6.os I6.base I6.dc I6.bare fun b hb=>⟨(f3 b hb).1.2.2.2.1,(f3 b hb).1.2.1,(f3 b hb).1.2.2.2.2.1,(f3 b hb).1.2.2.2.2.2⟩
   have nC:H5 s3.heap.objs.size=none:=by
    have z:H5 ce.locals=none:=I6.free;rw[cL]at z;exact z
   obtain⟨m,hn,_⟩:=I6.loc;have hn:s6.heap.Ns ce.locals m:=hn;rw[cL]at hn;exact hRR D s3.heap.objs.size s6 m H5 I7 qq hn (I3.wm (afp _) nC)
  .have ti:=T.item (X.vS s3 H3 scope ce fp) rfl rfl rfl hc i [] s5 _ H5 (fun _ _=>False) I5 (A3 I5 n5) QE go;refine Fd ti fun r s6 ⟨u,hr,h6⟩=> ?_
   subst hr;refine Fd h6 fun _ s7 ⟨x,H7,I7,r7,y7,XM,n7⟩=> ?_
   have I7':=I7.Iq (A3 I7 n7) (T.obj _ _ XM);refine Fd (pg _ s7 _ H7 x u _ I7' r7 (step x H7 y7)) fun _ s8 ⟨σ8,H8,I8,Zy,q8⟩=> ?_
   refine Fd (pt _ s8 σ8 H8 _ I8 q8) fun b s9 ⟨H9,I9,q9⟩=> ?_
   have fin:∀{s':afC} {H':Hp},bb (X.vS s3 H3 scope ce fp) ([]++sO fp s7.heap) σ8 H' s'->Nx H'->∃m,m<n/\∃i H',bb (X.vS s3 H3 scope ce fp) [] (fK σ (own.map (·.2))) H' s'/\tn i s'.heap/\(∀b∈fp,H' b=none)/\W i m H':=fun{s' H'} I' nx=>by
    obtain⟨m',hm,w'⟩:=hNx H' nx;have SN:∀b∈fp,∀o,s7.heap.get? b=some o->s'.heap.get? b=some o/\H' b=none:=fun b hb o e=>
     let z:=I'.EO (b,o) (afK _ (afK _ (nh hb e)))
     ⟨z.1,z.2.1⟩
    have hl:(fK σ (own.map (·.2))).length=σ8.length:=by rw[<-Zy,lM]
    refine⟨m',hm,i+1,H',(I'.o8 (pins:=[])).X3 hl (fun j v e=> ?_),T.keep _ _ _ XM fun b hb o e=>(SN b hb o e).1,fun b hb=> ?_,w'⟩
    .rw[<-Zy]at e;exact(p7 e).1
    .obtain⟨o,e,_⟩:=T.obj _ _ XM b hb;exact(SN b hb o e).2
   cases b with
   |false=>
    simp only[alU,if_false]at q9⊢;exact fin I9 q9
   |true=>
    simp only[aj0]at q9⊢;refine Fd (pe _ s9 σ8 H9 _ I9 q9) fun z s10 ⟨yv,H10,I10,r10,acc,V4,WY,nx⟩=> ?_
    exact N5 (X:=X.vS s3 H3 scope ce fp) I10 V4 WY r10 fun s11 I11=>fin I11 nx
 exact codeAny_compStart_list loop (T.self X.A 0 _ _ _ Z6 loop)
theorem mv{zL:agR}(hc:X.calm=true)(hN:X.N.Nodup)(hi:PI X tg iter wi)(ok:iK X.N X.env.scope scope own)
  (hg:∀(s:afC) (H:Hp) (C:afd) (cl:List (Str×afd)) (fp:List afd),PG (X.vS s H scope (compEnvC scope cl C X.env) fp) tg g) (ht:∀(s:afC) (H:Hp) (C:afd) (cl:List (Str×afd)) (fp:List afd),QP (X.vS s H scope (compEnvC scope cl C X.env) fp) nU tt)
  (he:∀(s:afC) (H:Hp) (C:afd) (cl:List (Str×afd)) (fp:List afd),PE (X.vS s H scope (compEnvC scope cl C X.env) fp) zL te) (hs:∀x,foldedSetIterable iter X.env x=pure x:=by intro _;rfl):
  PE X (.ListComp zL [⟨tg,iter,nU,0⟩] scope pos) (UI wi g tt te (own.map (·.2))):=by
 intro pins s σ H Q I h;rw[eval_ListComp];refine Ct hc hN I hi ok hg ht he hs h fun D C s' m H' I' q hn f=>⟨m,hn,fun B7 sb=> ?_⟩
 obtain⟨f0,f1,f2,f3,f4,f5⟩:=f;exact⟨.ref D,H',I'.gC (t':=s'.toks) (fun b o hb e=>(sb.2 b hb).trans e) f0 f1 f3 f4 f5,rfl,q⟩
theorem y6{y:Str}{py:Pos}{zL:agR}{Tf:Pos}(hc:X.calm=true)(hN:X.N.Nodup)(hy:X.N[i]? =some y)(Up:X.env.scope.names.lookup y=some .local)
  (hsw:swapsWith (.ListComp zL [⟨tg,iter,nU,0⟩] scope pos) (some (.Name y py)) Tf.line X.env=pure true) (hi:PI X tg iter wi) (ok:iK X.N X.env.scope scope own)
  (hg:∀(s:afC) (H:Hp) (C:afd) (cl:List (Str×afd)) (fp:List afd),PG (X.vS s H scope (compEnvC scope cl C X.env) fp) tg g) (ht:∀(s:afC) (H:Hp) (C:afd) (cl:List (Str×afd)) (fp:List afd),QP (X.vS s H scope (compEnvC scope cl C X.env) fp) nU tt)
  (he:∀(s:afC) (H:Hp) (C:afd) (cl:List (Str×afd)) (fp:List afd),PE (X.vS s H scope (compEnvC scope cl C X.env) fp) zL te) (hs:∀x,foldedSetIterable iter X.env x=pure x:=by intro _;rfl):
  PS X (.Assign [.Name y py] (.ListComp zL [⟨tg,iter,nU,0⟩] scope pos) Tf) (Mc (UI wi g tt te (own.map (·.2))) (qk i)):=by
 intro pins s σ H D I h;rw[exec_Assign_Name_used _ _ _ _ hsw];refine afi (akr (afi ?_));show wpAny _ X.A (do let _<-comprehension (.ListComp zL [⟨tg,iter,nU,0⟩] scope pos) scope X.env (firstIterPos [⟨tg,iter,nU,0⟩] pos) (newList []) false (eval iter X.env) (some (assign (.Name y py) X.env))) _ _ s;have h:UI wi g tt te (own.map (·.2)) σ H (fun x H1=>qk i x σ H1 D.nx):=h;refine afi (cK (Ct (Qf:=fun _ s'=>SP X pins D .next s') hc hN I hi ok hg ht he hs h fun L C s' m H' I' q hn f=> ?_) fun _ s' hq=>afZ (afZ hq));show wpAny _ _ (assign (.Name y py) X.env (.ref L)) _ _ _;refine al4 (vF (v:=V.ref L) I' hN hy (.inl Up) rfl (fun s2 I2 ⟨a,sb,ha⟩=> ?_) (.inr Up));obtain⟨f0,f1,f2,f3,f4,f5⟩:=f;have haC:C≠a:=by
  rcases ha with z|z
  .rw[z];exact f1
  .exact fun e=>f4 y a z e.symm
 refine⟨m,hn.sameBut sb haC,fun h3 NM=> ?_⟩;exact⟨_,H',I2.gC (t':=s2.toks) (fun b o hb e=>(NM.2 b hb).trans e) f0 f1 f3 f4 f5,q⟩
theorem jZ{vs:List Nat}{D:afd}{Qd:Hp->Prop}(Pv:Nat->Hp->Prop)(h0:Pv 0 (aE H1 D (.ba [])))(hl:∀i H,i<=xs.length->Pv i H->aJ K H a xs)
  (hs:∀i x H,xs[i]? =some x->Pv i H->g x (fK σ vs) H fun σ2 H2=>fK σ2 vs=fK σ vs/\tt σ2 H2 fun b H3=>
   if b=true then te σ2 H3 fun y H4=>∃acc,H4 D=some (.ba acc)/\acc.length<sizeLine/\Pv (i+1) (aE H4 D (.ba (acc++ [y])))else Pv (i+1) H3) (hd:∀H,Pv xs.length H->Qd H):
  ∃W:Nat->Nat->Hp->Prop,(∃m,W 0 m (aE H1 D (.ba [])))/\∀i m H,W i m H->
   ((Fx K a).ju i H/\Qd H)\/((Fx K a).go i H/\∃Nx:Hp->Prop,(∀H',Nx H'->∃m',m'<m/\W (i+1) m' H')/\∀x H',(Fx K a).Di i H x H'->g x (fK σ vs) H' fun σ2 H2=>fK σ2 vs=fK σ vs/\tt σ2 H2 fun b H3=>
    if b=true then te σ2 H3 fun y H4=>∃acc,H4 D=some (.ba acc)/\acc.length<sizeLine/\Nx (aE H4 D (.ba (acc++ [y])))else Nx H3):=by
 refine⟨fun i m H=>m=xs.length-i/\i<=xs.length/\Pv i H,⟨xs.length,by simp,afH _,h0⟩,?_⟩;rintro i m H ⟨rfl,hi,p⟩;have q:=hl i H hi p;by_cases iF:i<xs.length
 .refine .inr ⟨⟨xs,xs[i],q,by simp[iF]⟩,Pv (i+1),fun H' p'=>⟨xs.length-(i+1),by omega,rfl,iF,p'⟩,fun x H' y=> ?_⟩;obtain⟨e,y⟩:=y;subst e;exact hs i x _ (y xs q) p
 .have e:i=xs.length:=by omega
  subst e;exact .inl ⟨⟨xs,q,afp _⟩,hd H p⟩
theorem OR{vs:List Nat}{D:afd}{Qd:Hp->Prop}(Pv:Nat->Hp->Prop)(h0:Pv 0 (aE H1 D (.ba [])))(hl:∀i H,i<=xs.length->Pv i H->gF K H a xs)
  (hs:∀i x H,xs[i]? =some x->Pv i H->g x (fK σ vs) H fun σ2 H2=>fK σ2 vs=fK σ vs/\tt σ2 H2 fun b H3=>
   if b=true then te σ2 H3 fun y H4=>∃acc,H4 D=some (.ba acc)/\acc.length<sizeLine/\Pv (i+1) (aE H4 D (.ba (acc++ [y])))else Pv (i+1) H3) (hd:∀H,Pv xs.length H->Qd H):
  ∃W:Nat->Nat->Hp->Prop,(∃m,W 0 m (aE H1 D (.ba [])))/\∀i m H,W i m H->
   ((QM K a).ju i H/\Qd H)\/((QM K a).go i H/\∃Nx:Hp->Prop,(∀H',Nx H'->∃m',m'<m/\W (i+1) m' H')/\∀x H',(QM K a).Di i H x H'->g x (fK σ vs) H' fun σ2 H2=>fK σ2 vs=fK σ vs/\tt σ2 H2 fun b H3=>
    if b=true then te σ2 H3 fun y H4=>∃acc,H4 D=some (.ba acc)/\acc.length<sizeLine/\Nx (aE H4 D (.ba (acc++ [y])))else Nx H3):=by
 refine⟨fun i m H=>m=xs.length-i/\i<=xs.length/\Pv i H,⟨xs.length,by simp,afH _,h0⟩,?_⟩;rintro i m H ⟨rfl,hi,p⟩;have q:=hl i H hi p;by_cases iF:i<xs.length
 .refine .inr ⟨⟨xs,xs[i],q,by simp[iF]⟩,Pv (i+1),fun H' p'=>⟨xs.length-(i+1),by omega,rfl,iF,p'⟩,fun x H' y=> ?_⟩;obtain⟨e,y⟩:=y;subst e;exact hs i x _ (y xs q) p
 .have e:i=xs.length:=by omega
  subst e;exact .inl ⟨⟨xs,q,afp _⟩,hd H p⟩
section
variable{κ:Type} [DecidableEq κ]
def ee(aQ:List (κ×V))(k:κ):Option V:=(aQ.find? fun kv=>decide (kv.1=k)).map (·.2)
def dR(aQ:List (κ×V))(k:κ)(v:V):List (κ×V):=
 if(aQ.any fun kv=>decide (kv.1=k))=true then aQ.map (fun kv=>if kv.1=k then(kv.1,v)else kv)else aQ++ [(k,v)]
def cU(aQ:List (κ×V))(k:κ):List (κ×V):=aQ.filter fun kv=>decide (kv.1≠k)
theorem eF{p:κ×V}{r:List (κ×V)}{k:κ}(e:p.1=k):ee (p::r) k=some p.2:=by simp[ee,aha,e]
theorem dS{p:κ×V}{r:List (κ×V)}{k:κ}(e:¬p.1=k):ee (p::r) k=ee r k:=by simp[ee,aha,e]
theorem o9(k:κ):∀aQ:List (κ×V),(aQ.any fun kv=>decide (kv.1=k))=(ee aQ k).isSome
 | []=>rfl
 |p::r=>by
  rw[aiq];by_cases e:p.1=k
  .simp only[eF e,afl e,Bool.true_or,alT]
  .rw[dS e,agd e,Bool.false_or];exact o9 k r
theorem zC(k j:κ)(y:V):∀aQ:List (κ×V),ee (aQ.map fun kv=>if kv.1=k then(kv.1,y)else kv) j=(ee aQ j).map fun x=>if j=k then y else x
 | []=>rfl
 |p::r=>by
  have ih:=zC k j y r;rw[agb];by_cases h:p.1=k
  .rw[afj h];by_cases e:p.1=j
   .rw[eF (p:=(p.1,y)) e,eF e,ajM,afj (e.symm.trans h)]
   .rw[dS (p:=(p.1,y)) e,dS e,ih]
  .rw[afe h];by_cases e:p.1=j
   .rw[eF (p:=p) e,eF e,ajM,afe (fun z=>h (e.trans z))]
   .rw[dS (p:=p) e,dS e,ih]
theorem vN(k j:κ)(y:V):∀aQ:List (κ×V),ee aQ k=none->ee (aQ++ [(k,y)]) j=if j=k then some y else ee aQ j
 | [],_=>by
  by_cases e:k=j
  .rw[afj e.symm];exact eF (p:=(k,y)) e
  .rw[afe (fun z=>e z.symm)];exact dS (p:=(k,y)) e
 |p::r,hn=>by
  rw[ahb];have hk:¬p.1=k:=fun z=>by rw[eF z]at hn;cases hn
  rw[dS hk]at hn;have ih:=vN k j y r hn;by_cases e:p.1=j
  .rw[eF e,eF e,afe (fun z=>hk (e.trans z))]
  .rw[dS e,dS e,ih]
theorem Jq(aQ:List (κ×V))(k j:κ)(y:V):ee (dR aQ k y) j=if j=k then some y else ee aQ j:=by
 unfold dR;by_cases a:(aQ.any fun kv=>decide (kv.1=k))=true
 .rw[afj a,zC];rw[o9]at a;by_cases e:j=k
  .obtain⟨x,hx⟩:=aks.mp a;rw[afj e,e,hx,ajM,afj rfl]
  .rw[afe e];cases ee aQ j with
   |none=>rfl
   |some x=>rw[ajM,afe e]
 .rw[afe a];refine vN k j y aQ ?_;rw[o9]at a;cases q:ee aQ k with
  |none=>rfl
  |some x=>rw[q]at a;exact(a rfl).elim
theorem dm(aQ:List (κ×V))(k:κ)(v:V):(dR aQ k v).length<=aQ.length+1:=by
 unfold dR;split
 .rw[afb];omega
 .rw[afc,afr,aiQ];omega
theorem jy.iY{u:Option afg}(r:jy o u):o.isSome=u.isSome:=by
 cases o with
 |none=>cases u with
  |none=>rfl
  |some _=>exact(show False from r).elim
 |some _=>cases u with
  |none=>exact(show False from r).elim
  |some _=>rfl
theorem jy.getD{u:Option afg}{d:V}{d':afg}(r:jy o u)(rd:bE d d'):bE (o.getD d) (u.getD d'):=by
 cases o with
 |none=>cases u with
  |none=>exact rd
  |some _=>exact(show False from r).elim
 |some _=>cases u with
  |none=>exact(show False from r).elim
  |some _=>exact r
theorem KV.val{aQ:List (κ×V)}{vs:List (κ×afg)}(r:KV aQ vs)(k:κ):jy (ee aQ k) (valueAt vs k):=by
 unfold KV at r
 induction r with
 |nil=>exact agY
 |@cons p q ps qs h t ih=>
  obtain⟨h1,h2⟩:=h;by_cases e:p.1=k
  .have e':q.1=k:=h1.symm.trans e;have b:valueAt (q::qs) k=some q.2:=by simp[valueAt,aha,e']
   rw[eF e,b];exact h2
  .have e':¬q.1=k:=fun z=>e (h1.trans z)
   have b:valueAt (q::qs) k=valueAt qs k:=by simp[valueAt,aha,e']
   rw[dS e,b];exact ih
theorem KV.any{aQ:List (κ×V)}{vs:List (κ×afg)}(r:KV aQ vs)(k:κ):(aQ.any fun kv=>decide (kv.1=k))=vs.any fun kv=>decide (kv.1=k):=by
 unfold KV at r
 induction r with
 |nil=>rfl
 |cons h t ih=>rw[aiq,aiq,ih,h.1]
theorem KV.Po{aQ:List (κ×V)}{vs:List (κ×afg)}(r:KV aQ vs)(k:κ)(ry:bE y u):
  KV (aQ.map fun kv=>if kv.1=k then(kv.1,y)else kv) (vs.map fun kv=>if kv.1=k then(kv.1,u)else kv):=by
 unfold KV at r⊢
 induction r with
 |nil=>exact .nil
 |@cons p q ps qs h t ih=>
  rw[agb,agb];refine .cons ?_ ih;obtain⟨h1,h2⟩:=h;by_cases e:p.1=k
  .rw[afj e,afj (h1.symm.trans e)];exact⟨h1,ry⟩
  .rw[afe e,afe (fun z=>e (h1.trans z))];exact⟨h1,h2⟩
theorem KV.gZ{aQ:List (κ×V)}{vs:List (κ×afg)}(r:KV aQ vs)(k:κ)(ry:bE y u):KV (dR aQ k y) (stored vs k u):=by
 unfold dR stored;rw[r.any k];by_cases e:(vs.any fun kv=>decide (kv.1=k))=true
 .rw[afj e,afj e];exact r.Po k ry
 .rw[afe e,afe e];exact anO r ⟨rfl,ry⟩
theorem KV.drop{aQ:List (κ×V)}{vs:List (κ×afg)}(r:KV aQ vs)(k:κ):KV (cU aQ k) (without vs k):=by
 unfold KV at r⊢;unfold cU without
 induction r with
 |nil=>exact .nil
 |@cons p q ps qs h t ih=>
  obtain⟨h1,h2⟩:=h;rw[afU,afU];by_cases e:p.1=k
  .have a:¬decide (p.1≠k)=true:=by simp[e]
   have b:¬decide (q.1≠k)=true:=by simp[h1.symm.trans e]
   rw[afe a,afe b];exact ih
  .have e':¬q.1=k:=fun z=>e (h1.trans z)
   have a:decide (p.1≠k)=true:=by simp[e]
   have b:decide (q.1≠k)=true:=by simp[e']
   rw[afj a,afj b];exact .cons ⟨h1,h2⟩ ih
theorem KV.length{aQ:List (κ×V)}{vs:List (κ×afg)}(r:KV aQ vs):aQ.length=vs.length:=akq r
theorem ym(aQ:List (κ×V))(k:κ):(cU aQ k).length<=aQ.length:=af8 _ _
end
theorem kS{k:br}(r:bE (kV k) u):(cO P w).is k u=true:=by
 cases k with
 |inl i=>obtain⟨t,e⟩:=(show∃t,u=ahQ i t from r);subst e;exact lh P w i t
 |inr x=>obtain⟨t,e⟩:=(show∃t,u=alz x t from r);subst e;exact yP P w x t
theorem u6{P:afA}{w:af4}:∀{ks:List br} {us:List afg},bo (ks.map kV) us->ItemsAre (cO P w) ks us
 | [],_,r=>by rw[aj1]at r;cases r;exact .nil
 |k::ks,_,r=>by
  rw[agb]at r;cases r with
  |cons h t=>exact .cons (kS h) (u6 t)
abbrev KT(H:Hp):List (List br×V)->List (List br×afd×afg)->Prop:=Paired fun p q=>p.1=q.1/\H q.2.1=some (.dY (p.1.map kV))/\bE p.2 q.2.2
theorem KT.val{xs:List (List br×afd×afg)}(r:KT H aQ xs)(k:List br):jy (ee aQ k) ((atKey xs k).map (·.2)):=by
 induction r with
 |nil=>exact agY
 |@cons p q ps qs h t ih=>
  obtain⟨h1,_,h2⟩:=h;by_cases e:p.1=k
  .have e':q.1=k:=h1.symm.trans e;have b:atKey (q::qs) k=some q.2:=by simp[atKey,aha,e']
   rw[eF e,b];exact h2
  .have e':¬q.1=k:=fun z=>e (h1.trans z)
   have b:atKey (q::qs) k=atKey qs k:=by simp[atKey,aha,e']
   rw[dS e,b];exact ih
theorem KT.Po{xs:List (List br×afd×afg)}(r:KT H aQ xs)(k:List br)(ry:bE y u):
  KT H (aQ.map fun kv=>if kv.1=k then(kv.1,y)else kv) (xs.map (putAt k u)):=by
 induction r with
 |nil=>exact .nil
 |@cons p q ps qs h t ih=>
  rw[agb,agb];refine .cons ?_ ih;obtain⟨h1,h2,h3⟩:=h;unfold putAt;by_cases e:p.1=k
  .rw[afj e,afj (h1.symm.trans e)];exact⟨h1,h2,ry⟩
  .rw[afe e,afe (fun z=>e (h1.trans z))];exact⟨h1,h2,h3⟩
theorem KT.gZ{xs:List (List br×afd×afg)}(r:KT H aQ xs)(k:List br)(hb:H b=some (.dY (k.map kV)))(ry:bE y u):
  KT H (dR aQ k y) (storedH xs k b u):=by
 have e:(aQ.any fun kv=>decide (kv.1=k))=(atKey xs k).isSome:=by
  rw[o9,(r.val k).iY,amb]
 unfold dR storedH;rw[e];by_cases q:(atKey xs k).isSome=true
 .rw[afj q,afj q];exact r.Po k ry
 .rw[afe q,afe q];exact anO r ⟨rfl,hb,ry⟩
theorem KT.keeps{xs:List (List br×afd×afg)}(r:KT H aQ xs)(ht:∀b ys,H b=some (.dY ys)->H' b=some (.dY ys)):KT H' aQ xs:=
 Paired.OW r fun _ _ z=>⟨z.1,ht _ _ z.2.1,z.2.2⟩
theorem NK{u:HO}(ok:kE P w H h)(e:Rd H a u):eP P w H h a u:=e.ok ok
theorem uN{aQ:List (br×V)}(ok:kE P w H h)(e:Rd H a (.dK aQ)):aQ.length<=sizeLine/\(a==sysModules)=false/\∃vs,KV aQ vs/\h.DictOf (cO P w) a vs:=
 show eP P w H h a (.dK aQ)from NK ok e
theorem BU{aQ:List (br×V)}(ok:kE P w H h)(e:H a=some (.dK aQ)):aQ.length<=sizeLine/\(a==sysModules)=false/\∃vs,KV aQ vs/\h.DictOf (cO P w) a vs:=uN ok (.inl e)
theorem sj{ks:List br}(ok:kE P w H h)(e:H a=some (.dY (ks.map kV))):(tupleKind (cO P w)).is h ks a:=by
 obtain⟨_,aR,r,o,h1,h2,n,h3⟩:=(show eP P w H h a (.dY (ks.map kV))from ok a _ e);exact⟨o,aR.toArray,n,h1,h2,h3,by simpa using u6 r⟩
theorem uP(ok:kE P w H h)(e:Rd H a (.dT aQ)):aQ.length<=sizeLine/\(a==sysModules)=false/\
  ∃xs,KT H aQ xs/\h.DictOfH (tupleKind (cO P w)) a xs:=by
 obtain⟨z,y,xs,r,o,es,ep,h1,h2,h3,h4,h5⟩:=(show eP P w H h a (.dT aQ)from NK ok e);refine⟨z,y,xs,r,o,es,ep,h1,h2,h3,h4,fun x hx=> ?_,h5⟩;have all:∀{l:List (List br×V)} {m:List (List br×afd×afg)},KT H l m->∀x∈m,(tupleKind (cO P w)).is h x.1 x.2.1:=by
  intro l m q
  induction q with
  |nil=>intro x hx;exact nomatch hx
  |@cons p q ps qs hq t ih=>
   intro x hx;rcases afx.mp hx with e|hx
   .subst e;exact sj ok (by rw[<-hq.1];exact hq.2.1)
   .exact ih x hx
 exact all r x hx
theorem Rj(ok:kE P w H h)(e:H a=some (.dT aQ)):aQ.length<=sizeLine/\(a==sysModules)=false/\
  ∃xs,KT H aQ xs/\h.DictOfH (tupleKind (cO P w)) a xs:=uP ok (.inl e)
def ei(H:Hp)(a:afd)(y:V)(r:Option V):Prop:=
 (∃aQ k,Rd H a (.dK aQ)/\y=kV k/\r=ee aQ k)\/∃aQ k b,Rd H a (.dT aQ)/\y= .ref b/\H b=some (.dY (k.map kV))/\r=ee aQ k
def pA(H:Hp)(a:afd)(y v:V)(H':Hp):Prop:=
 (∃aQ k,H a=some (.dK aQ)/\y=kV k/\aQ.length<sizeLine/\H'=aE H a (.dK (dR aQ k v)))\/
 ∃aQ k b,H a=some (.dT aQ)/\y= .ref b/\H b=some (.dY (k.map kV))/\aQ.length<sizeLine/\H'=aE H a (.dT (dR aQ k v))
theorem ei.k{H:Hp}{a:afd}{aQ:List (br×V)}{k:br}(e:H a=some (.dK aQ)):ei H a (kV k) (ee aQ k):= .inl ⟨aQ,k,.inl e,rfl,rfl⟩
theorem pA.k{H:Hp}{a:afd}{aQ:List (br×V)}{k:br}{v:V}(e:H a=some (.dK aQ))(hl:aQ.length<sizeLine):pA H a (kV k) v (aE H a (.dK (dR aQ k v))):= .inl ⟨aQ,k,e,rfl,hl,rfl⟩
section
variable{v:V}{r:afg}
theorem bb.qg(I:bb X pins σ H s):sysModules<s.heap.objs.size:=by
 have h:mainGlobals<s.heap.objs.size:=(I.wO.wo.keeps I.bk).lt;exact amc (by decide) h
theorem DC(hu:A.units+1<cLine)(I:bb X pins σ H s)(g:ei H a y (some v))(ry:bE y u)(h:∀w' s',bb X pins σ H s'->bE v w'->Q w' s'):
  wpAny (model X.prog X.w) A (getItem (.ref a) u) Q E s:=by
 rcases g with⟨aQ,k,e,ey,l⟩|⟨aQ,k,b,e,ey,eb,l⟩
 .subst ey;obtain⟨z,hd,vs,kl,dd⟩:=uN I.dc e;obtain⟨w',hw,xf⟩:=jy.oV (v:=v) (o:=valueAt vs k) (by rw[l];exact kl.val k);exact amn (kS ry) dd.mapOf hw (h w' _ (I.qM _) xf)
 .subst ey;cases(show u=af1 b from ry);obtain⟨z,hd,xs,kl,dd⟩:=uP I.dc e;obtain⟨w',hw,xf⟩:=jy.oV (v:=v) (o:=(atKey xs k).map (·.2)) (by rw[l];exact kl.val k);obtain⟨p,hp,hp2⟩:=ai7.mp hw;refine wpAny_getItem_heap (aiU hu) (sj I.dc eb) dd hp ?_;rw[hp2];exact h w' _ (I.qM _) xf
theorem VC(hu:A.units+1<cLine)(I:bb X pins σ H s)(g:ei H a y o)(ry:bE y u)(h:∀s',bb X pins σ H s'->Q (.bool o.isSome) s'):
  wpAny (model X.prog X.w) A (compareOp .In u (.ref a)) Q E s:=by
 rcases g with⟨aQ,k,e,ey,l⟩|⟨aQ,k,b,e,ey,eb,l⟩
 .subst ey;obtain⟨z,hd,vs,kl,dd⟩:=uN I.dc e;refine wpAny_in_of (kS ry) hd dd.mapOf ?_;rw[<-(kl.val k).iY,<-l];exact h _ (I.qM _)
 .subst ey;cases(show u=af1 b from ry);obtain⟨z,hd,xs,kl,dd⟩:=uP I.dc e;refine wpAny_in_heap (aiU hu) (sj I.dc eb) hd dd ?_;have q:=(kl.val k).iY;rw[amb]at q;rw[<-q,<-l];exact h _ (I.qM _)
theorem qQ{ob:HO}(I:bb X pins σ H s)(mu:QN (H a))(hs:agm a s.heap h')(he:∃q,h'.get? a=some q)(new:eP X.prog X.w (aE H a ob) h' a ob):
  bb X pins σ (aE H a ob) {s with heap:=h',toks:=t'}:=
 I.pk (x:=a) (e:=a) mu (.inl rfl) (fun b q hb z=>(hs.2 b hb).trans z) he new
theorem we{aQ:List (br×V)}{vs:List (br×afg)}(z:aQ.length<=sizeLine)(hd:(a==sysModules)=false)(kl:KV aQ vs)(dd:h'.DictOf (cO P w) a vs):
  eP P w H' h' a (.dK aQ):=⟨z,hd,vs,kl,dd⟩
theorem DD{Q:Unit->afC->Prop}(hu:A.units+1<cLine)(I:bb X pins σ H s)(g:pA H a y v H')(ry:bE y u)(rv:bE v r)(h:∀s',bb X pins σ H' s'->Q () s'):
  wpAny (model X.prog X.w) A (setItem (.ref a) u r) Q E s:=by
 rcases g with⟨aQ,k,e,ey,l,eH⟩|⟨aQ,k,b,e,ey,eb,l,eH⟩
 .subst ey eH;obtain⟨z,hd,vs,kl,dd⟩:=BU I.dc e;have hz:vs.length<=sizeLine:=by rw[<-kl.length];exact z
  have hl:(dR aQ k v).length<=sizeLine:=by have:=dm aQ k v;omega
  refine wpAny_setItem_pairs (hsz:=hz) (kS ry) dd fun h' Jw hs=>h _ ?_
  have he:∃q,h'.get? a=some q:=let⟨q,_,_,hq,_⟩:=Jw;⟨q,hq⟩
  exact qQ I (by rw[e];exact agY) hs he (we hl hd (kl.gZ k rv) Jw)
 .subst ey eH;cases(show u=af1 b from ry);obtain⟨z,hd,xs,kl,dd⟩:=Rj I.dc e;have hz:xs.length<=sizeLine:=by rw[<-akq kl];exact z
  have hl:(dR aQ k v).length<=sizeLine:=by have:=dm aQ k v;omega
  refine wpAny_setItem_heap (hsz:=hz) (aiU hu) (sj I.dc eb) dd fun h' Jw hs=>h _ ?_
  obtain⟨q,es,ep,hq,h2,h3,h4,_,h5⟩:=Jw;refine qQ I (by rw[e];exact agY) hs ⟨q,hq⟩ ⟨hl,hd,_,(kl.gZ k eb rv).keeps fun c ys ec=> ?_,q,es,ep,hq,h2,h3,h4,h5⟩;rw[ao (Nz ec e (fun z=>nomatch z))];exact ec
end
section
variable{aQ:List (br×V)}{k:br}
theorem Qk{Q:Unit->afC->Prop}(I:bb X pins σ H s)(e:H a=some (.dK aQ))(ry:bE (kV k) u)(l:(ee aQ k).isSome=true)(h:∀s',bb X pins σ (aE H a (.dK (cU aQ k))) s'->Q () s'):
  wpAny (model X.prog X.w) A (delItem (.ref a) u) Q E s:=by
 obtain⟨z,hd,vs,kl,dd⟩:=BU I.dc e;refine wpAny_delItem_slot dd.typeIs (by decide) akf
  (aj2 akf dd.typeIs PySem.F.entry_dict_delitem (PySem.F.args_dict_delitem_2 _ _) (meets_dict_delitem_pairs (cO X.prog X.w) a (kS ry)) ⟨vs,dd,by rw[<-kl.length];exact z,by rw[<-(kl.val k).iY];exact l,fun h' Jw hs=>h _ ?_⟩)
 have he:∃q,h'.get? a=some q:=let⟨q,_,_,hq,_⟩:=Jw;⟨q,hq⟩
 exact qQ I (by rw[e];exact agY) hs he (we (afw (ym aQ k) z) hd (kl.drop k) Jw)
theorem Rg{v:V}{more:List afg}(I:bb X pins σ H s)(e:H a=some (.dK aQ))(ry:bE (kV k) u)(l:ee aQ k=some v)(hm:more=[]\/∃x,more=[x])
  (h:∀w' s',bb X pins σ (aE H a (.dK (cU aQ k))) s'->bE v w'->Q w' s'):wpAny (model X.prog X.w) A (call (.builtin "dict.pop") (.ref a::u::more)) Q E s:=by
 obtain⟨z,hd,vs,kl,dd⟩:=BU I.dc e;obtain⟨w',hw,xf⟩:=jy.oV (v:=v) (o:=valueAt vs k) (by rw[<-l];exact kl.val k);have hp:(keyPart u).isSome=true:=by
  cases k with
  |inl i=>obtain⟨t,q⟩:=(show∃t,u=ahQ i t from ry);subst q;rfl
  |inr x=>obtain⟨t,q⟩:=(show∃t,u=alz x t from ry);subst q;rfl
 have ha:argsOk "dict.pop" ⟨.ref a::u::more,[]⟩:=by
  rcases hm with q|⟨x,q⟩
  .subst q;exact PySem.F.args_dict_pop_2 _ _
  .subst q;exact PySem.F.args_dict_pop_3 _ _ _
 refine aj2 ak9 dd.typeIs PySem.F.entry_dict_pop ha (meets_dict_pop_there (cO X.prog X.w) a (kS ry) more hm hp)
  ⟨vs,w',dd,by rw[<-kl.length];exact z,hw,fun h' Jw hs=>h w' _ ?_ xf⟩
 have he:∃q,h'.get? a=some q:=let⟨q,_,_,hq,_⟩:=Jw;⟨q,hq⟩
 exact qQ I (by rw[e];exact agY) hs he (we (afw (ym aQ k) z) hd (kl.drop k) Jw)
end
def NY(i:agR):Prop:=∀ov iv,subscripted i false ov iv=operate [ov,iv] (getItem ov iv)
theorem De{oU:agR}{id:String}
  (hl:typeLookup (.type T) "__getitem__"=pure (some (.builtin id))) (hs:NY oU)
  (h:wpAny (model prog w) A (eval value env) (fun o s₁=>wpAny (model prog w) A (eval oU env) (fun i s₂=>s₂.TypeIs o T/\wpAny (model prog w) A (getItem o i) Q E s₂) E s₁) E s):
  wpAny (model prog w) A (eval (.Subscript value oU pos) env) Q E s:=by
 refine amK (ahH h (fun o s₁ h₁=>ahH h₁ (fun i s₂ h₂=> ?_) fun _ _ x=>x) fun _ _ x=>x);obtain⟨hT,h₂⟩:=h₂;unfold subscriptTail;refine afi ?_;rw[getitemInPython_of_ne hT.not_modules];refine afi (wpAny_specialOf hT hl ?_);have fin:wpAny (model prog w) A (subscripted oU false o i) (fun r s₃=>wpAny (model prog w) A (letTemporaryGo value o r>>=fun _=>pure r) Q E s₃) E s₂:=by
  rw[hs o i];exact wpAny_operating (ahH h₂ (fun r s₃ h₃=>afi (wpAny_letTemporaryGo (afZ h₃))) fun _ _ x=>x)
 first
  |exact afZ (afi fin)
  |exact afi (afZ (afi fin))
  |exact afi fin
theorem yk(I:bb X pins σ H s)(g:ei H a y o):s.TypeIs (.ref a) "dict":=by
 rcases g with⟨aQ,k,e,_,_⟩|⟨aQ,k,b,e,_,_,_⟩
 .obtain⟨_,_,vs,_,dd⟩:=uN I.dc e;exact dd.typeIs
 .obtain⟨_,_,xs,_,dd⟩:=uP I.dc e;exact dd.typeIs
inductive G2(Q:VK)(x:V)(y:V)(H2:Hp):Prop|m:∀a v,x= .ref a->ei H2 a y (some v)->Q v H2->G2 Q x y H2
def Tj(td ty:TE):TE:=fun σ H Q=>td σ H fun x H1=>ty σ H1 fun y H2=>G2 Q x y H2
inductive Nj(Q:VK)(y:V)(x:V)(H2:Hp):Prop|m:∀a o,x= .ref a->ei H2 a y o->Q (.bl o.isSome) H2->Nj Q y x H2
def XQ(ty td:TE):TE:=fun σ H Q=>ty σ H fun y H1=>td σ H1 fun x H2=>Nj Q y x H2
inductive G1(D:iD)(σ:St)(v:V)(x:V)(y:V)(H3:Hp):Prop|m:∀a H4,x= .ref a->pA H3 a y v H4->D.nx σ H4->G1 D σ v x y H3
def S6(td ty tv:TE):TS:=fun D σ H=>tv σ H fun v H1=>td σ H1 fun x H2=>ty σ H2 fun y H3=>G1 D σ v x y H3
section
variable{o i:agR}{tv:TE}
theorem bC(hu:X.A.units+1<cLine)(ho:PE X o td)(hi:PE X i ty)(hs:NY i:=by exact fun _ _=>rfl):PE X (.Subscript o i pos) (Tj td ty):=by
 intro pins s σ H Q I h;refine De akg.lookup hs (cK (ho pins s σ H _ I h) fun u s1 ⟨x,H1,I1,rx,q1⟩=>cK (hi pins s1 σ H1 _ I1 q1) fun iv s2 ⟨y,H2,I2,ry,a,v,ex,g,q2⟩=> ?_);subst ex;obtain rfl:u=af1 a:=rx;exact⟨yk I2 g,DC hu I2 g ry fun w' s3 I3 xf=>⟨v,H2,I3,xf,q2⟩⟩
theorem AI(hu:X.A.units+1<cLine)(hi:PE X i ty)(ho:PE X o td):PC X .In i o (XQ ty td):=by
 intro pins s σ H Q I h;refine cK (hi pins s σ H _ I h) fun iv s1 ⟨y,H1,I1,ry,q1⟩=>cK (ho pins s1 σ H1 _ I1 q1) fun u s2 ⟨x,H2,I2,rx,a,ov,ex,g,q2⟩=> ?_
 subst ex;obtain rfl:u=af1 a:=rx;exact VC hu I2 g ry fun s3 I3=>⟨.bl ov.isSome,H2,I3,rfl,q2⟩
theorem iT(hu:X.A.units+1<cLine)(ho:PE X o td)(hi:PE X i ty)(hv:PE X value tv)(hs:swapsWith value (some (.Subscript o i iH)) pos.line X.env=pure false):
  PS X (.Assign [.Subscript o i iH] value pos) (S6 td ty tv):=by
 intro pins s σ H D I h;refine wpAny_Assign_Subscript (cK (hv pins s σ H _ I h) fun r s1 ⟨v,H1,I1,rv,q1⟩=>cK (ho pins s1 σ H1 _ I1 q1) fun u s2 ⟨x,H2,I2,rx,q2⟩=>cK (hi pins s2 σ H2 _ I2 q2) fun iv s3 ⟨y,H3,I3,ry,a,H4,ex,g,q3⟩=> ?_) hs;subst ex;obtain rfl:u=af1 a:=rx;exact DD hu I3 g ry rv fun s4 I4=>⟨σ,H4,I4,q3⟩
end
theorem Gq(h:agg)(hb:sysModules<h.objs.size):eP P w H (h.push {cls:= .type "dict",data:= .dict #[]}) h.objs.size (.dK []):=
 ⟨afH _,agU.mpr (agW (agy hb)),[],.nil,Heap.DictOf.new h⟩
def PZ:TE:=fun _ H Q=>∀p,H p=none->Q (.ref p) (aE H p (.dK []))
theorem jJ:PE X (.Dict [] [] pos) PZ:=fun pins s σ H Q I h=>
 wpAny_Dict_empty ⟨.ref s.heap.objs.size,_,I.ml (a:=s.heap.objs.size) (o:= .dK []) (t':=s.toks) (fun _ _ q=>afm _ q) (afp _) (Gq s.heap I.qg),rfl,h _ (I.dc.fresh (afp _))⟩
structure M1(X:Cx)(o:agR)(m:Str)(eI:Pos)(e:agR)(iE:Pos):Prop where
 base:attributeBase o m X.env (eval o X.env)=eval o X.env
 Gz:((backTo iE (starEach [e] X.env)).all (fun x=> !x.1)&&(backToKw iE (keywordEach [] X.env)).all (fun x=>x.1.isSome)
  &&decide (([e]:List agR).length+([]:List alB).length+(if([]:List alB).isEmpty then 0 else 1)<30))=true
 line:(eI.endLine==iE.line)=true
 Dh:backTo iE (starEach [e] X.env)=[(false,eval e X.env)]
structure M2(X:Cx)(o:agR)(m:Str)(eI:Pos)(e f:agR)(iE:Pos):Prop where
 base:attributeBase o m X.env (eval o X.env)=eval o X.env
 Gz:((backTo iE (starEach [e,f] X.env)).all (fun x=> !x.1)&&(backToKw iE (keywordEach [] X.env)).all (fun x=>x.1.isSome)
  &&decide (([e,f]:List agR).length+([]:List alB).length+(if([]:List alB).isEmpty then 0 else 1)<30))=true
 line:(eI.endLine==iE.line)=true
 Dh:backTo iE (starEach [e,f] X.env)=[(false,eval e X.env),(false,eval f X.env)]
def UN(H:Hp)(a:afd):Prop:=(∃aQ,Rd H a (.dK aQ))\/∃aQ,Rd H a (.dT aQ)
theorem GV(I:bb X pins σ H s)(d:UN H a):
  s.TypeIs (.ref a) "dict"/\(∀b,af1 a= .ref b->∃ob,s.heap.get? b=some ob/\ob.dict=none)/\(a==sysModules)=false:=by
 rcases d with⟨aQ,e⟩|⟨aQ,e⟩
 .obtain⟨_,hd,vs,_,dd⟩:=uN I.dc e;refine⟨dd.typeIs,fun b q=> ?_,hd⟩;cases q;obtain⟨ob,_,_,h1,h2,_⟩:=dd;exact⟨ob,h1,h2.2.1⟩
 .obtain⟨_,hd,xs,_,dd⟩:=uP I.dc e;refine⟨dd.typeIs,fun b q=> ?_,hd⟩;cases q;obtain⟨ob,_,_,h1,h2,_⟩:=dd;exact⟨ob,h1,h2.2.1⟩
section
variable{d:V}{r:afg}
theorem Of(hu:A.units+1<cLine)(I:bb X pins σ H s)(g:ei H a y o)(ry:bE y u)(rd:bE d r)(h:∀w' s',bb X pins σ H s'->bE (o.getD d) w'->Q w' s'):
  wpAny (model X.prog X.w) A (call (.builtin "dict.get") [.ref a,u,r]) Q E s:=by
 rcases g with⟨aQ,k,e,ey,l⟩|⟨aQ,k,b,e,ey,eb,l⟩
 .subst ey;obtain⟨z,hd,vs,kl,dd⟩:=uN I.dc e;refine aj2 ah0 dd.typeIs aja (aiX _ _ _) (akW (cO X.prog X.w) a (kS ry) hd r) ⟨_,dd.mapOf,h _ _ (I.qM _) ?_⟩;rw[l];exact(kl.val k).getD rd
 .subst ey;cases(show u=af1 b from ry);obtain⟨z,hd,xs,kl,dd⟩:=uP I.dc e;refine aj2 ah0 dd.typeIs aja (aiX _ _ _) (meetsH_dict_get_default (tupleKind (cO X.prog X.w)) a b hd r) ⟨aiU hu,k,xs,sj I.dc eb,dd,h _ _ (I.qM _) ?_⟩;rw[l];exact(kl.val k).getD rd
end
inductive Cn(ty:TE)(tx:TE)(σ:St)(Q:VK)(x:V)(H1:Hp):Prop|m:∀a,x= .ref a->UN H1 a->(ty σ H1 fun y H2=>tx σ H2 fun z H3=>∃o,ei H3 a y o/\Q (o.getD z) H3)->Cn ty tx σ Q x H1
def PY(td ty tx:TE):TE:=fun σ H Q=>td σ H fun x H1=>Cn ty tx σ Q x H1
inductive Co(ty:TE)(σ:St)(Q:VK)(x:V)(H1:Hp):Prop|m:∀a,x= .ref a->UN H1 a->(ty σ H1 fun y H2=>∃aQ k v,H2 a=some (.dK aQ)/\y=kV k/\ee aQ k=some v/\Q v (aE H2 a (.dK (cU aQ k))))->Co ty σ Q x H1
def P0(td ty:TE):TE:=fun σ H Q=>td σ H fun x H1=>Co ty σ Q x H1
section
variable{o f:agR}{iE:Pos}{tx:TE}
theorem y0(hu:X.A.units+1<cLine)(ho:PE X o td)(he:PE X e ty)(hf:PE X f tx)(m:M2 X o "get" eI e f iE):PE X (.Call (.Attribute o "get" eI) [e,f] [] iE) (PY td ty tx):=by
 intro pins s σ H Q I h;refine akl m.base m.Gz m.line aiY ah0 ala (cK (ho pins s σ H _ I h) fun u s1 ⟨x,H1,I1,rx,a,ex,d,q1⟩=> ?_);subst ex;obtain rfl:u=af1 a:=rx;obtain⟨t1,t2,_⟩:=GV I1 d;refine⟨t1,t2,?_⟩;rw[m.Dh];refine aij rfl (aiz (ahk (cK (he pins s1 σ H1 _ I1 q1) fun iv s2 ⟨y,H2,I2,ry,q2⟩=>
  ahk (cK (hf pins s2 σ H2 _ I2 q2) fun fv s3 ⟨z,H3,I3,rz,ov,g,q3⟩=>ah5 ?_))))
 exact Of hu I3 g ry rz fun w' s4 I4 xf=>⟨_,H3,I4,xf,q3⟩
theorem oJ(ho:PE X o td)(he:PE X e ty)(m:M1 X o "pop" eI e iE):PE X (.Call (.Attribute o "pop" eI) [e] [] iE) (P0 td ty):=by
 intro pins s σ H Q I h;refine akl m.base m.Gz m.line aiY ak9 PySem.F.type_dict_pop (cK (ho pins s σ H _ I h) fun u s1 ⟨x,H1,I1,rx,a,ex,d,q1⟩=> ?_);subst ex;obtain rfl:u=af1 a:=rx;obtain⟨t1,t2,_⟩:=GV I1 d;refine⟨t1,t2,?_⟩;rw[m.Dh];refine aij rfl (aiz (ahk (cK (he pins s1 σ H1 _ I1 q1) fun iv s2 ⟨y,H2,I2,ry,aQ,k,v,ea,ey,l,q2⟩=>ah5 ?_)));subst ey;exact Rg I2 ea ry l (.inl rfl) fun w' s3 I3 xf=>⟨v,_,I3,xf,q2⟩
end
theorem bb.Mi(I:bb X pins σ H s)(k:∀b o,b∉ch->s.heap.get? b=some o->h'.get? b=some o)(hf:∀b∈ch,qy X pins H b):bb X pins σ H {s with heap:=h',toks:=t'}:=by
 have NA:∀b u,H b=some u->b∉ch:=fun b u e z=>by
  have q:=(hf b z).1;rw[q]at e;cases e
 refine I.step (g':=s.gens) (d':=s.drawn) (ch:=ch) (fun b hb=>⟨(hf b hb).2.2.2.1,(hf b hb).2.1,(hf b hb).2.2.2.2.1,(hf b hb).2.2.2.2.2⟩) (fun b o _ _ hc e _=>k b o hc e) (fun b o _ _ hc e _=>⟨o.slots,k b o hc e⟩)
  (fun _ _ _ _ n=>n) (fun b o hc e=>⟨o,k b o hc e⟩) (fun _ _ e=>e) (fun _ _ _ e=>e) (fun b ps e=>⟨#[],by rw[e];simp⟩) (fun m hm=> ?_) (fun b u e=> ?_) I.bare
 .obtain⟨o,es,ep,ho,r⟩:=hm;exact⟨o,es,ep,k _ o (fun z=>(hf _ z).2.1 rfl) ho,r⟩
 .refine(I.dc b u e).A4 (fun c v hc q=>k c v ?_ q) (fun _ q=>q) fun _ _ q=>q
  rcases hc with z|z
  .rw[z];exact NA b u e
  .exact NA c _ z
theorem bb.pY{T:afd}{ob:HO}(I:bb X pins σ H s)(k:∀b o,b∉ch->s.heap.get? b=some o->h'.get? b=some o)(hf:∀b∈ch,qy X pins H b)(hT:s.heap.objs.size<=T)
  (new:eP X.prog X.w (aE H T ob) h' T ob):bb X pins σ (aE H T ob) {s with heap:=h',toks:=t'}:=by
 have hn:H T=none:=I.dc.fresh hT;have NA:∀b u,H b=some u->b∉ch:=fun b u e z=>by
  have q:=(hf b z).1;rw[q]at e;cases e
 refine I.step (g':=s.gens) (d':=s.drawn) (ch:=ch) (fun b hb=>⟨(hf b hb).2.2.2.1,(hf b hb).2.1,(hf b hb).2.2.2.2.1,(hf b hb).2.2.2.2.2⟩) (fun b o _ _ hc e _=>k b o hc e) (fun b o _ _ hc e _=>⟨o.slots,k b o hc e⟩)
  (fun b o _ e n=> ?_) (fun b o hc e=>⟨o,k b o hc e⟩) (fun b xs e=> ?_) (fun b o u e=> ?_) (fun b ps e=>⟨#[],?_⟩) (fun m hm=> ?_) (fun b u e=> ?_) I.bare
 .rw[ao (agy (agk (afV e) hT))];exact n
 .rw[ao (ak e hn)];exact e
 .rw[ao (ak e hn)];exact e
 .rw[ao (ak e hn),e];simp
 .obtain⟨o,es,ep,ho,r⟩:=hm;exact⟨o,es,ep,k _ o (fun z=>(hf _ z).2.1 rfl) ho,r⟩
 .by_cases hb:b=T
  .subst hb;rw[aj]at e;cases e;exact new
  .rw[ao hb]at e;refine(I.dc b u e).A4 (fun c v hc q=>k c v ?_ q) (fun c q=>by rw[ao (ak q hn)];exact q) fun c xs q=>by rw[ao (ak q hn)];exact q
   rcases hc with z|z
   .rw[z];exact NA b u e
   .exact NA c _ z
theorem AL{R:It->Hp->Prop}{J:It}{tn:Nat->agg->Prop}{tk:Nat}(I:bb X pins σ H s)(o:Obj)
  (T:uh X.prog X.w X.K tg J [s.heap.objs.size] s.heap.objs.size tn) (st:tn 0 (s.heap.push o)) (q:R J H):US X pins σ tg R (.ref s.heap.objs.size) {s with heap:=s.heap.push o,toks:=tk}:=by
 refine⟨s.heap.objs.size,[s.heap.objs.size],tn,J,H,rfl,I.kept fun b ob e=>afm _ e,T,st,fun b hb=> ?_,q⟩;have e:b=s.heap.objs.size:=by simpa using hb
 subst e;exact I.wm (afp _) (I.dc.fresh (afp _))
def QJ(lo c:Int)(n:Nat):It:=⟨fun i _=>i<n,fun i H x H'=>H'=H/\x= .int (lo+(i:Nat)*c),fun i _=>n<=i⟩
theorem zz(it:afd)(lo c:Int)(n:Nat):uh P w K tg (QJ lo c n) [it] it (fun i h=>alh h it (lo+(i:Nat)*c) ((n:Int)-(i:Nat)) c)where
 mem:=by simp
 obj:=fun i h st b hb=>by
  have e:b=it:=by simpa using hb
  subst e;exact⟨_,st,fun v z=>nomatch z⟩
 keep:=fun i h h' st k=>k it (by simp) _ st
 item:=by
  intro X hP hw hK hc i pins s σ H E I hf st hg;subst hP hw hK;obtain⟨f0,f1,f2,f3,f4,f5⟩:=hf it (by simp);have W:=anL (prog:=X.prog) (w:=X.w) (I.ok.hd hc) it lo c n;refine W.item i s _ _ hg st fun v h' tk hv Dc kk=> ?_
  obtain⟨t,rfl⟩:=hv;have I1:bb X pins σ H {s with heap:=h',toks:=tk}:=I.gC (fun b o hb e=>kk b o (by simpa using hb) e) f0 f1 f3 f4 f5;exact⟨_,rfl,yx (s:={s with heap:=h',toks:=tk}) (n:="range_iterator") Dc rfl rfl (by decide) ⟨.int (lo+(i:Nat)*c),H,I1,⟨t,rfl⟩,⟨rfl,rfl⟩,Dc,fun b hb=>(hf b hb).1⟩⟩
 done:=by
  intro X hP hw hK hc i pins s σ H E I hf st hg;subst hP hw hK;obtain⟨f0,f1,f2,f3,f4,f5⟩:=hf it (by simp);exact akQ (I.ok.hd hc) st (by have:n<=i:=hg;omega) fun h' eb=>⟨rfl,I.gC (t':=s.toks) (fun b o hb e=>eb b o hb e) f0 f1 f3 f4 f5⟩
 self:=fun A i s Q E st h=>akR st h
def TQ(i j c:Int)(n:Nat):Prop:=c≠0/\c.natAbs<1073741824/\anU i j c=true/\aiW i j c=n
theorem TQ.neg{i j:Int}(ha: -(2^62)<=i)(Kk:i<2^62)(hb: -(2^62)<=j)(yz:j<2^62):TQ i j (-1) (i-j).toNat:=
 ⟨by decide,by decide,PySem.W.small_down ha Kk hb yz,PySem.W.rangeSize_downNat i j⟩
inductive GZ(R:It->Hp->Prop)(vs:List V)(H1:Hp):Prop|m:∀(i j c:Int) (n:Nat),vs=[.int i,.int j,.int c]->TQ i j c n->R (QJ i c n) H1->GZ R vs H1
def Sk(ta:TA):TI:=fun σ H R=>ta σ H fun vs H1=>GZ R vs H1
theorem EN{a b:agR}{ta:TA}(hg:Gl X "range")(hm:X.mg "range"=none)(ha:PA X [a,b,c] ta)
  (hs:starEach [a,b,c] X.env=(false,eval a X.env)::starEach [b,c] X.env:=by rfl) (kf:(backTo pos (starEach [b,c] X.env)).any (·.1)=false:=by rfl):
  PI X tg (.Call (.Name "range" p) [a,b,c] [] pos) (Sk ta):=by
 intro pins s σ H R I h;refine Call_ (j0 I hg hm boot_range (ag4 (cK (ha pos pins s σ H _ I h) fun us s1 ⟨vs,H1,I1,r1,q1⟩=> ?_) hs kf));obtain⟨i,j,k,n,e,⟨c0,c1,c2,c3⟩,q⟩:=q1;subst e;cases r1 with
 |cons r rr=>
  cases rr with
  |cons r' rr=>
   cases rr with
   |cons Xz rr=>
    cases rr;obtain⟨t,rfl⟩:=r;obtain⟨t',rfl⟩:=r';obtain⟨t'',rfl⟩:=Xz;refine call_range_3 c0 ?_ (.inl (PyProof.noPylong_small c1));refine alQ (anM ..) c2 ?_;have I2:bb X pins σ H1 {s1 with heap:=s1.heap.push {cls:= .type "range",data:= .fields #[.int i t,.int j t',.int k t'']}}:=I1.kept (t':=s1.toks) fun b o e=>afm _ e
    refine AL (tk:=s1.toks) I2 _ (zz _ i k n) ?_ q;have e1:i+((0:Nat):Int)*k=i:=by simp
    have e2:(n:Int)-((0:Nat):Int)=aiW i j k:=by rw[c3];simp
    show alh _ _ (i+((0:Nat):Int)*k) ((n:Int)-((0:Nat):Int)) k;rw[e1,e2];exact afI _ rfl
theorem z9{lo c:Int}(Pv:Nat->St->Hp->Prop)(h0:Pv 0 σ H)
  (hs:∀i σ H,i<n->Pv i σ H->g (.int (lo+(i:Nat)*c)) σ H fun σ2 H2=>tb {D with nx:=Pv (i+1),ct:=Pv (i+1),bk:=D.nx} σ2 H2) (hd:∀σ H,Pv n σ H->D.nx σ H):
  ∃W:Nat->Nat->St->Hp->Prop,(∃m,W 0 m σ H)/\∀i m σ H,W i m σ H->
   ((QJ lo c n).ju i H/\D.nx σ H)\/((QJ lo c n).go i H/\∃N:St->Hp->Prop,(∀σ' H',N σ' H'->∃m',m'<m/\W (i+1) m' σ' H')/\∀x H',(QJ lo c n).Di i H x H'->g x σ H' fun σ2 H2=>tb {D with nx:=N,ct:=N,bk:=D.nx} σ2 H2):=by
 refine⟨fun i m σ H=>m=n-i/\i<=n/\Pv i σ H,⟨n,by simp,afH _,h0⟩,?_⟩;rintro i m σ H ⟨rfl,hi,p⟩;by_cases iF:i<n
 .refine .inr ⟨iF,Pv (i+1),fun σ' H' p'=>⟨n-(i+1),by omega,rfl,iF,p'⟩,fun x H' y=> ?_⟩;obtain⟨e,y⟩:=y;subst e y;exact hs i σ _ iF p
 .have e:i=n:=by omega
  subst e;exact .inl ⟨afp _,hd σ H p⟩
def QL(x:Str):It:=⟨fun i _=>i<x.cps.size,fun i H v H'=>H'=H/\∃c,x.cps[i]? =some c/\v= .str ⟨#[c]⟩,fun i _=>x.cps.size<=i⟩
theorem zA(it:afd)(x:Str)(t:Tok)(ty:String)(Qy:ty="str_ascii_iterator"\/ty="str_iterator"):
  uh P w K tg (QL x) [it] it (fun i h=>h.IsStrIter it ty x t i)where
 mem:=by simp
 obj:=fun i h st b hb=>by
  have e:b=it:=by simpa using hb
  subst e;obtain⟨o,e,c,d⟩:=st;exact⟨o,e,fun v z=>by rw[d]at z;cases z⟩
 keep:=fun i h h' st k=>let⟨o,ho,r⟩:=st;⟨o,k it (by simp) o ho,r⟩
 item:=by
  intro X hP hw hK hc i pins s σ H E I hf st hg;subst hP hw hK;obtain⟨f0,f1,f2,f3,f4,f5⟩:=hf it (by simp);have W:Walks X.prog X.w X.A it [it] [it] x.cps.size (SignAt x) (fun i h=>h.IsStrIter it ty x t i):=by
   rcases Qy with e|e
   .rw[e];exact Walks.strAscii (I.ok.hd hc) it x t
   .rw[e];exact Walks.strWide (I.ok.hd hc) it x t
  have e9:["enumerate","zip","dict_itemiterator","dict_reverseitemiterator","odict_iterator","itertools.zip_longest","itertools.pairwise"].contains ty=false:=by
   rcases Qy with e|e
   .rw[e];decide
   .rw[e];decide
  refine W.item i s _ _ hg st fun v h' tk hv Dc kk=> ?_
  obtain⟨c,u,hcx,rfl⟩:=hv;have I1:bb X pins σ H {s with heap:=h',toks:=tk}:=I.gC (fun b o hb e=>kk b o (by simpa using hb) e) f0 f1 f3 f4 f5;obtain⟨oi,e,cc,dd⟩:=id Dc;exact⟨_,rfl,yx (s:={s with heap:=h',toks:=tk}) e cc dd e9 ⟨.str ⟨#[c]⟩,H,I1,⟨u,rfl⟩,⟨rfl,c,hcx,rfl⟩,Dc,fun b hb=>(hf b hb).1⟩⟩
 done:=by
  intro X hP hw hK hc i pins s σ H E I hf st hg;subst hP hw hK;obtain⟨f0,f1,f2,f3,f4,f5⟩:=hf it (by simp);have hx:x.cps[i]? =none:=Array.getElem?_eq_none hg;rcases Qy with e|e
  .rw[e]at st;exact wpAny_pyNext_ascii_end (I.ok.hd hc) st hx fun h' eb=>⟨rfl,I.gC (t':=s.toks) (fun b o hb e=>eb b o hb e) f0 f1 f3 f4 f5⟩
  .rw[e]at st;exact wpAny_pyNext_wide_end (I.ok.hd hc) st hx fun h' eb=>⟨rfl,I.gC (t':=s.toks) (fun b o hb e=>eb b o hb e) f0 f1 f3 f4 f5⟩
 self:=fun A i s Q E st h=>by
  rcases Qy with e|e
  .rw[e]at st;exact wpAny_pyIter_striter_ascii st h
  .rw[e]at st;exact wpAny_pyIter_striter_wide st h
inductive Ng(R:It->Hp->Prop)(v:V)(H1:Hp):Prop|m:∀x,v= .str x->R (QL x) H1->Ng R v H1
def W4(te:TE):TI:=fun σ H R=>te σ H fun v H1=>Ng R v H1
theorem Ph(he:PE X e te):PI X tg e (W4 te):=by
 intro pins s σ H R I h;refine cK (he pins s σ H _ I h) fun v s1 ⟨y,H1,I1,r1,x,ex,q⟩=> ?_
 subst ex;obtain⟨t,rfl⟩:=r1;cases ha:x.cps.all (·<128)
 .exact wpAny_pyIter_wide ha (AL (tk:=s1.toks) I1 _ (zA _ x t "str_iterator" (.inr rfl)) ⟨_,afI _ rfl,rfl,rfl⟩ q)
 .exact wpAny_pyIter_ascii ha (AL (tk:=s1.toks) I1 _ (zA _ x t "str_ascii_iterator" (.inl rfl)) ⟨_,afI _ rfl,rfl,rfl⟩ q)
def QK(K:afW)(a:afd):It:=
 ⟨fun i H=>∃(xs:List V) (x:V),aJ K H a xs/\xs[i]? =some x,fun i H v H'=>∃T x,v= .ref T/\H T=none/\H'=aE H T (.dY [.int (i:Nat),x])/\∀xs,aJ K H a xs->xs[i]? =some x,fun i H=>∃xs:List V,aJ K H a xs/\xs.length<=i⟩
theorem Fg(a e it:afd):
  uh P w K (.Tuple js kk jc) (QK K a) [e,it] e (fun i h=>(∃old,akw h e it ((i:Nat):Int) old)/\h.IsListIter it a i/\e≠it)where
 mem:=by simp
 obj:=fun i h st b hb=>by
  obtain⟨⟨old,he⟩,⟨o,ho,hc,hd⟩,_⟩:=st;have e':b=e\/b=it:=by simpa using hb
  rcases e' with z|z
  .rw[z];exact⟨_,he,fun v q=>nomatch q⟩
  .rw[z];exact⟨o,ho,fun v q=>by rw[hd]at q;cases q⟩
 keep:=fun i h h' st k=>let⟨⟨old,he⟩,hi,gh⟩:=st;⟨⟨old,k e (by simp) _ he⟩,hi.at fun o q=>k it (by simp) o q,gh⟩
 item:=by
  intro X hP hw hK hc i pins s σ H E I hf st hg;subst hP hw hK;obtain⟨⟨old,he⟩,mr,gh⟩:=st;obtain⟨xs,x,hq,hx⟩:=hg;obtain⟨aR,rv,p,hz⟩:=I.list hq;obtain⟨u,hu,ru⟩:=rv.get hx;have zO:e<s.heap.objs.size:=afV he;have gV:it<s.heap.objs.size:=by obtain⟨_,q,_⟩:=mr;exact afV q
  refine wpAny_pyNext_enum_item he mr p.isList (x:=u) (by simpa using hu) gh fun h' ho Oz hT hsz hk=> ?_
  refine⟨_,rfl,akc (s:={s with heap:=h',toks:=s.toks+1}) ho fun B7 Ox sb=> ?_⟩;have RC:B7.get? s.heap.objs.size=some {cls:= .type "tuple",data:= .seq #[.int i s.toks,u]}:=(sb.2 _ (aii zO)).trans hT;have new:eP X.prog X.w (aE H s.heap.objs.size (.dY [.int (i:Nat),x])) B7 s.heap.objs.size (.dY [.int (i:Nat),x]):=
   ⟨by show 2<=sizeLine;decide,[.int i s.toks,u],.cons ⟨_,rfl⟩ (.cons ru .nil),⟨_,RC,rfl,_,rfl⟩⟩
  have I1:bb X pins σ (aE H s.heap.objs.size (.dY [.int (i:Nat),x])) {s with heap:=B7,toks:=s.toks+1}:=
   I.pY (ch:=[e,it]) (fun b ob hb q=>(sb.2 b (fun z=>hb (by simp[z]))).trans (hk b ob (fun z=>hb (by simp[z])) (fun z=>hb (by simp[z])) q)) hf (afp _) new
  refine⟨.ref s.heap.objs.size,_,I1,rfl,⟨_,x,rfl,I.dc.fresh (afp _),rfl,fun ys hy=>by rw[I.oA hy hq];exact hx⟩,⟨⟨u,?_⟩,Oz.at fun o q=>(sb.2 it (agW gh)).trans q,gh⟩,fun b hb=> ?_⟩
  .have e1:((i+1:Nat):Int)=(i:Int)+1:=by omega
   rw[e1];exact Ox
  .have yz:b<s.heap.objs.size:=by
    have e':b=e\/b=it:=by simpa using hb
    rcases e' with z|z
    .rw[z];exact zO
    .rw[z];exact gV
   rw[ao (agy yz)];exact(hf b hb).1
 done:=by
  intro X hP hw hK hc i pins s σ H E I hf st hg;subst hP hw hK;obtain⟨⟨old,he⟩,mr,gh⟩:=st;obtain⟨xs,hq,hx⟩:=hg;obtain⟨aR,rv,p,hz⟩:=I.list hq;obtain⟨f0,f1,f2,f3,f4,f5⟩:=hf it (by simp);have hl:=rv.length;exact wpAny_pyNext_enum_end (I.ok.hd hc) he mr p.isList (by simp;omega) fun h' eb=>⟨rfl,I.gC (t':=s.toks) (fun b o hb q=>eb b o hb q) f0 f1 f3 f4 f5⟩
 self:=fun A i s Q E st h=>let⟨⟨_,he⟩,_⟩:=st;ajb he h
inductive GW(K:afW)(R:It->Hp->Prop)(vs:List V)(H1:Hp):Prop|m:∀a xs,vs=[.ref a]->aJ K H1 a xs->R (QK K a) H1->GW K R vs H1
def Sh(K:afW)(ta:TA):TI:=fun σ H R=>ta σ H fun vs H1=>GW K R vs H1
theorem Ln{ta:TA}(hg:Gl X "enumerate")(hm:X.mg "enumerate"=none)(ha:PA X [e] ta)(hs:starEach [e] X.env=[(false,eval e X.env)]:=by rfl):
  PI X (.Tuple js kk jc) (.Call (.Name "enumerate" p) [e] [] pos) (Sh X.K ta):=by
 intro pins s σ H R I h;refine Call_ (j0 I hg hm boot_enumerate (ag4 (cK (ha pos pins s σ H _ I h) fun us s1 ⟨vs,H1,I1,r1,q1⟩=> ?_) hs rfl));obtain⟨a,xs,ex,hq,q⟩:=q1;subst ex;cases r1 with
 |cons r rr=>
  cases rr;cases r;obtain⟨aR,rv,p',hz⟩:=I1.list hq;refine call_enumerate_list p'.isList fun h' he mr hsz hk=>ajb he ?_
  have I2:bb X pins σ H1 {s1 with heap:=h'}:=I1.kept (t':=s1.toks) hk;refine⟨s1.heap.objs.size+1,[s1.heap.objs.size+1,s1.heap.objs.size],_,_,H1,rfl,I2,Fg a (s1.heap.objs.size+1) s1.heap.objs.size,⟨⟨.none,he⟩,mr,akD _⟩,fun b hb=> ?_,q⟩;have e':b=s1.heap.objs.size+1\/b=s1.heap.objs.size:=by simpa using hb
  have qm:s1.heap.objs.size<=b:=by
   rcases e' with z|z
   .rw[z];exact agP _ _
   .rw[z];exact afp _
  exact I1.wm qm (I1.dc.fresh qm)
theorem uK:bootBuiltins "zip"=some (.type "zip"):=by decide+kernel
abbrev bX:ue:=fun _ _ _ _ _ _=>False
abbrev E0:XK:=fun _ _ _=>False
theorem bw:mz bX X E0:=fun _ _ _ _ _ _ _ h=>h.elim
structure b9(K:afW)(x qual:Str)(st:afR)(f:afd)(fd:afE):Prop where
 ex:∃(oc:afg) (od:Option afd) (kV doc pm:afg) (an:Option afd) (ke ct:afg) (JI:Array (Option afg)),
  fd=fnOf x qual (gM st) (cq st) (ai st) .none kV doc pm an ke ct/\K.lookup f=some ⟨oc,od,.func fd,JI⟩/\codeIn K ke qual=true
 kp:keepIn K (.ref f)=true
theorem b9.ok{f:afd}{k:Nat}{sp:Sp}(F:b9 K x qual st f fd)(S:au N ps (ai st))(len:∀vs H Q E,sp vs H Q E->vs.length=ps.length)
  (GH:∀(ke:afg) (A:ahF) (outer:List Env) (s:afC) (H:Hp) (vs:List V) (Q:VK) (E:XK),fF k (A.deeper (envOfC qual (ai st) s.heap.objs.size f ke))->sp vs H Q E->
   ∃t,Bh (z6 bX P w K mg base N qual (ai st) f ke A outer s H E).SA (cq st) t/\t {nx:=fun _ H'=>Q .gw H',rt:=Q} (start N vs) H):aT P w K mg base bX (k+1) f fd ps sp:=by
 obtain⟨oc,od,kV,doc,pm,an,ke,ct,JI,rfl,lk,JC⟩:=F.ex;refine Rn lk JC S len fun A outer s H vs Q E hr DS=> ?_
 obtain⟨t,h,q⟩:=GH ke A outer s H vs Q E hr DS;exact⟨t,h.SA,q⟩
theorem b9.binds{f:afd}(F:b9 K x qual st f fd)
  (h:∀(kV doc pm:afg) (an:Option afd) (ke ct:afg) (us:List afg),us.length=ps.length->bindArgs (fnOf x qual (gM st) (cq st) (ai st) .none kV doc pm an ke ct) ⟨us,[]⟩=pure (ps.zip us)):eY K fd ps []:=by
 obtain⟨oc,od,kV,doc,pm,an,ke,ct,JI,rfl,lk,JC⟩:=F.ex;exact .all (h kV doc pm an ke ct)
theorem Oo{f:afd}{oc:afg}{od an:Option afd}{JI:Array (Option afg)}{kV doc pm ke ct:afg}(l:K.lookup f=some ⟨oc,od,.func (fnOf x qual (gM st) (cq st) (ai st) .none kV doc pm an ke ct),JI⟩)
  (c:codeIn K ke qual=true) (k:keepIn K (.ref f)=true):b9 K x qual st f (fnOf x qual (gM st) (cq st) (ai st) .none kV doc pm an ke ct):=⟨⟨oc,od,kV,doc,pm,an,ke,ct,JI,rfl,l,c⟩,k⟩
theorem bZ{k:Nat}(hr:fF k A):A.units+1<cLine:=aiV (Nat.add_le_add_left (by decide:1<=64) _) hr.units
theorem pv(i:Nat)(hN:X.N[i]? =some x:=by rfl)(hv:Qg X.env.scope x:=by first|exact akd rfl|exact an0 (akd rfl)|exact an0 (an0 rfl))(hd:(x==("__debug__":Str))=false:=by decide)
  (JC:(x==("__classdict__":Str))=false:=by decide):PE X (.Name x pos) (P2 i):=Pg hN hv hd JC
theorem aW{c A B:Prop} [Decidable c](h1:c->A)(h2:¬c->B):if c then A else B:=by
 by_cases h:c
 .rw[afj h];exact h1 h
 .rw[afe h];exact h2 h
def ax(H H':Hp):Prop:=∀b o,H b=some o->H' b=some o
theorem ax.refl(H:Hp):ax H H:=fun _ _ h=>h
theorem ax.trans{H2:Hp}(a:ax H H1)(b:ax H1 H2):ax H H2:=fun c o h=>b c o (a c o h)
theorem ax.free(e:ax H H')(h:H' l=alo):H l=alo:=by
 cases q:H l with
 |none=>rfl
 |some o=>
  rw[e l o q]at h;cases h
theorem ax.seq(e:ax H H')(h:aJ K H a xs):aJ K H' a xs:=by
 rcases h with(h|⟨o,h⟩)|h
 .exact .inl (.inl (e _ _ h))
 .exact .inl (.inr ⟨o,e _ _ h⟩)
 .exact .inr h
section
variable{κ:Type} [DecidableEq κ]
theorem DF{p:κ×V}{r:List (κ×V)}{k:κ}(e:p.1=k):cU (p::r) k=cU r k:=by
 unfold cU;rw[afU,afe (by simp[e])]
theorem DE{p:κ×V}{r:List (κ×V)}{k:κ}(e:¬p.1=k):cU (p::r) k=p::cU r k:=by
 unfold cU;rw[afU,afj (by simp[e])]
end
theorem gE{z:Int}{v:V}(e:z=(j:Int))(h:xs[j]? =some v):pB xs z=some v:=by
 rw[e];exact oh h
theorem Nw{α:Type}{l:List α}(hN:l.Nodup){x:α}(a:l[i]? =some x)(b:l[j]? =some x):i=j:=by
 obtain⟨h1,e1⟩:=aff.mp a;obtain⟨h2,e2⟩:=aff.mp b;exact(ajq hN).mp (e1.trans e2.symm)
theorem ax.made{x:afd}(nx:H x=alo)(nd:H dx=alo)(k:∀b o,(aE (aE H dx (.own x)) x (.ins C dx [])) b=some o->b≠x->H1 b=some o):ax H H1:=fun b o e=>
 k b o (by rw[ao (ak e nx),ao (ak e nd)];exact e) (ak e nx)
inductive CL(x:V)(vs:List V)(H:Hp)(Q:VK):Prop|m:∀(l:afd) (xs:List V) (i:Int) (k:Nat) (y:V),x= .ref l->vs=[.int i,y]->i=(k:Int)->H l=some (.ba xs)->k<=xs.length->xs.length<sizeLine->Q .gw (aE H l (.ba (xs.take k++y::xs.drop k)))->CL x vs H Q
theorem KA(aR:List afg)(w:afg)(k:Nat)(hk:k<=aR.length):(aR.toArray.extract 0 k).push w++aR.toArray.extract k=(aR.take k++w::aR.drop k).toArray:=by
 simp;exact agw (by rw[agr];omega)
theorem vi:Qc X "list.insert" CL:=by
 intro pins s σ H x vs v us Q I rx rv h;obtain⟨l,xs,i,k,y,rfl,rfl,hi,hH,hk,hz,q⟩:=h;cases rx;obtain⟨u,w,rfl,ru,xf⟩:=rv.two;obtain⟨t,rfl⟩:=ru;obtain⟨z,aR,n,r,hl,e⟩:=I.wJ hH;have qI:=ali;have RX:k<16777216:=by rw[qI]at hz;omega
 have hf':¬(!Builtin.List.listFitsIndex i)=true:=by
  rw[show amR i=true from fitsIndex_both (by rw[hi];exact ajc (by decide) (ahu k)) (by rw[hi];exact Int.lt_of_lt_of_le (Int.ofNat_lt.mpr RX) (by decide))];exact afP
 have hsz:aR.toArray.size<=sizeLine:=by rw[afL];omega
 refine aiT ajd ⟨_,e,rfl⟩ F.entry_list_insert (F.args_list_insert_3 _ _ _) (AutoSeq1.list_insert_list_int_val_1 l aR.toArray n i t w hf' hsz) ⟨e,?_⟩;refine⟨.gw,_,I.Hb (its':=aR.take k++w::aR.drop k) hH e ?_ ((r.take k).append (.cons xf (r.drop k))) ?_,rfl,q⟩
 .have h0:¬i<0:=by omega
  have hm:min i.toNat aR.toArray.size=k:=by rw[afL];omega
  show(aR.toArray.extract 0 (if i<0 then(i+(aR.toArray.size:Nat)).toNat else min i.toNat aR.toArray.size)).push w++aR.toArray.extract (if i<0 then(i+(aR.toArray.size:Nat)).toNat else min i.toNat aR.toArray.size)=_;rw[afe h0,hm];exact KA aR w k (by omega)
 .rw[afc,afr,afY,agr];omega
theorem wD{ns:List Int}(r:bo (ns.map V.int) aR)(h:aR[j]? =some u):∃n t,ns[j]? =some n/\u= .int n t:=by
 cases e:ns[j]? with
 |none=>
  have:aR[j]? =none:=r.wU (by rw[afy,e];rfl);rw[this]at h;cases h
 |some n=>
  obtain⟨u',h',t,rfl⟩:=r.get (i:=j) (x:=V.int n) (by rw[afy,e];rfl);rw[h']at h;cases h;exact⟨n,t,rfl,rfl⟩
def isI(n:Int):afg->Bool
 | .int i _=>i==n
 |_=>false
inductive CN(x:V)(vs:List V)(H:Hp)(Q:VK):Prop|m:∀(l:afd) (ns:List Int) (n:Int),x= .ref l->vs=[.int n]->H l=some (.ba (ns.map V.int))->n∈ns->Q .gw (aE H l (.ba ((ns.erase n).map V.int)))->CN x vs H Q
theorem yp{n:Int}:∀{ns:List Int},n∈ns->∃j,ns[j]? =some n/\(∀m x,m<j->ns[m]? =some x->x≠n)/\ns.erase n=ns.eraseIdx j
 | [],h=>nomatch h
 |a::r,h=>by
  by_cases e:a=n
  .subst e;exact⟨0,rfl,fun m _ h=>absurd h (aim m),by simp⟩
  .obtain⟨j,h1,h2,h3⟩:=yp (n:=n) (ns:=r) (by
    rcases afx.mp h with z|z
    .exact absurd z.symm e
    .exact z)
   refine⟨j+1,h1,fun m x hm hx=> ?_,?_⟩
   .cases m with
    |zero=>
     have:a=x:=by simpa using hx
     rw[<-this];exact e
    |succ m=>exact h2 m x (akX hm) (by simpa using hx)
   .rw[aiA (by simpa using e),h3,aiZ]
theorem oC{α β:Type}(f:α->β):∀(l:List α) (j:Nat),(l.eraseIdx j).map f=(l.map f).eraseIdx j
 | [],_=>rfl
 |_::_,0=>rfl
 |a::r,j+1=>by
  rw[aiZ,agb,agb,aiZ,oC f r j]
theorem Eb:Qc X "list.remove" CN:=by
 intro pins s σ H x vs v us Q I rx rv h;obtain⟨l,ns,n,rfl,rfl,hH,hn,q⟩:=h;cases rx;obtain⟨u,rfl,ru⟩:=rv.xV;obtain⟨t,rfl⟩:=ru;obtain⟨z,aR,ep,r,hl,e⟩:=I.wJ hH;obtain⟨j,hj,e9,Za⟩:=yp hn;obtain⟨u',Nd,t',rfl⟩:=r.get (i:=j) (x:=V.int n) (by rw[afy,hj];rfl);obtain⟨Qu,Wq⟩:=aff.mp Nd;refine aiT aif ⟨_,e,rfl⟩ F.entry_list_remove (F.args_list_remove_2 _ _) (MeetsSeq.list_remove l aR.toArray ep (.int n t) (isI n) (fun y hy=> ?_) j (by simpa using Qu) ?_ (fun m hm Wz=> ?_) (by rw[afL];omega)) ⟨e,?_⟩
 .obtain⟨m,hm⟩:=agc (show y∈aR by simpa using hy);obtain⟨n',t2,_,rfl⟩:=wD r hm;exact anP n' n t2 t
 .have e1:aR.toArray[j]=ahQ n t':=by simpa using Wq
  rw[e1];exact ahv n
 .have M9:m<aR.length:=by simpa using hm
  obtain⟨n',t2,h1,h2⟩:=wD r (afk M9);have e1:aR.toArray[m]=ahQ n' t2:=by simpa using h2
  rw[e1];exact agU.mpr (e9 m n' Wz h1)
 .refine⟨.gw,_,I.Hb (its':=aR.eraseIdx j) hH e (by rw[List.eraseIdxIfInBounds_toArray]) ?_ ?_,rfl,q⟩
  .rw[Za,oC];exact r.eraseIdx j
  .rw[afb,Za];have h1:=vf ns j;rw[afb]at z;omega
theorem Od:p9 X (.builtin "ord") (fun xs H Q=>∃c:Nat,xs=[.str ⟨#[c]⟩]/\Q (.int (c:Nat)) H):=by
 intro pins s σ H vs us Q I r h;obtain⟨c,rfl,q⟩:=h;obtain⟨u,rfl,t,rfl⟩:=r.xV;exact PySem.P.ord_of_char ⟨.int c,H,I.qM _,⟨_,rfl⟩,q⟩
theorem mG:p9 X (.type "dict") (fun xs H Q=>∃(a:afd) (aQ:List (br×V)),xs=[.ref a]/\H a=some (.dK aQ)/\∀p,H p=none->Q (.ref p) (aE H p (.dK aQ))):=by
 intro pins s σ H vs us Q I r h;obtain⟨a,aQ,rfl,ha,q⟩:=h;obtain⟨u,rfl,ru⟩:=r.xV;cases ru;obtain⟨z,hS,vs,kl,hd⟩:=BU I.dc ha;refine kt_call_dict hS hd (by rw[<-akq kl];exact z) fun h' RS sb=> ?_
 have hf:H s.heap.objs.size=none:=I.dc.fresh (afp _);refine⟨.ref s.heap.objs.size,aE H s.heap.objs.size (.dK aQ),I.ml (t':=s.toks) (fun b u e=> ?_) (afp _) ?_,rfl,q _ hf⟩
 .rw[sb.2 b (agy (afV e))];exact afm _ e
 .refine we z ?_ kl RS;have hb:=I.qg;exact agU.mpr (fun e=>by rw[e]at hb;exact absurd hb (ahp _))
theorem Dt(a d:afg):argsOk "max" ⟨[a],[("default",d)]⟩:=by unfold argsOk;kernel_rfl
def pO:Int->List Int->Int
 |m,[]=>m
 |m,z::r=>pO (if z>m then z else m) r
section
variable{I S:afd}{ns:List Int}{dv:afg}
abbrev X7(I S:afd)(dv:afg):Code:= .builtin "max.loop" ⟨[.ref I,.none,.ref S],[("default",dv)]⟩
abbrev Ml(I S:afd)(h h':agg):Prop:=∀b o,b≠I->b≠S->h.get? b=some o->h'.get? b=some o
theorem Ea(W:Walks P w A.in1 I [I,a] [I] items.size (fun i v=>items[i]? =some v) (fun i h=>h.IsListIter I a i/\h.IsList a items))(hi:∀(i:Nat) (v:afg),items[i]? =some v->∃(z:Int) (t:Tok),ns[i]? =some z/\v=ahQ z t)(hsz:items.size=ns.length)(Qq:S≠I)(T9:S≠a):
  ∀(k j:Nat) (s:afC) (m:Int) (u:Tok) (c:Nat),ns.length-j=k->j<=ns.length->(s.heap.IsListIter I a j/\s.heap.IsList a items)->s.heap.get? S=some {cls:= .type "list",data:= .seq #[.int m u,.int m u] c}->
   (∀(u':Tok) (h':agg) (tk:Nat),Ml I S s.heap h'->R (.ok (.ret (.int (pO m (ns.drop j)) u'))) {s with heap:=h',toks:=tk})->codeAny (model P w) A (X7 I S dv) R s:=by
 intro k;have nm:(toString "max"++toString ".loop":String)="max.loop":=by decide
 have T7:S∉ [I]:=by simpa using Qq
 induction k with
 |zero=>
  intro j s m u c hk hj st hS hR;have ej:j=items.size:=by omega
  refine ajO akH ?_;rw[ajG ahR _];refine afi (m:=seqItems? (.ref S)) (ahr hS rfl ?_);refine afi (m:=tryCatch (pyNext (.ref I)) _) (ajl (W.done s _ _ (ej▸st) fun h1 tk kp=> ?_));have MW:=kp S _ T7 hS;refine afi (m:=updateSeq S _) (ain MW rfl (afi (ai3 (afZ ?_))));have q:=hR u (h1.update S (ahl fun _=> #[])) tk fun b o hb DP e=>(agS h1 _ (agW DP)).trans (kp b o (by simpa using hb) e)
  rw[agt (by omega)]at q;exact q
 |succ k ih=>
  intro j s m u c hk hj st hS hR;have iF:j<items.size:=by omega
  refine ajO akH ?_;rw[ajG ahR _];refine afi (m:=seqItems? (.ref S)) (ahr hS rfl ?_);refine afi (m:=tryCatch (pyNext (.ref I)) _) (ajl (W.item j s _ _ iF st fun v h1 tk hv QD kp=> ?_));have MW:=kp S _ T7 hS;obtain⟨z,t,hz,rfl⟩:=hi j v hv;have Cb:ns.drop j=z::ns.drop (j+1):=by
   obtain⟨h1,h2⟩:=aff.mp hz;rw[agN h1,h2]
  show wpAny _ A.in1 (tryCatch (holding [ahQ z t,ahQ z t] (richCompare .Gt (.int z t) (.int m u)>>=_)) _>>=_) _ _ _;refine afi (ajl (aip (afi (gt_int ?_))));refine afi (aip (ag3 (afi (ai3 (afZ ?_)))));rw[Cb]at hR;by_cases Ud:z>m
  .rw[show(decide (z>m))=true from afl Ud];simp only[aj0];refine afi (ain MW rfl (afi (ai3 ?_)));rw[nm];refine afZ ⟨aky ahR _,ih (j+1) _ z t _ (by omega) (by omega) (W.frame _ _ _ QD fun b hb o e=> ?_) (ahs _ MW rfl) fun u' h2 Tz k2=> ?_⟩
   .have DP:S≠b:=fun q=>by
     have:b=I\/b=a:=by simpa using hb
     rcases this with r|r
     .exact Qq (q.trans r)
     .exact T9 (q.trans r)
    exact(agS _ _ DP).trans e
   .have q:=hR u' h2 Tz fun b o hb DP e=>k2 b o hb DP ((agS _ _ (agW DP)).trans (kp b o (by simpa using hb) e))
    rw[show pO m (z::ns.drop (j+1))=pO z (ns.drop (j+1))from by show pO (if z>m then z else m) _=_;rw[afj Ud]]at q;exact q
  .rw[show(decide (z>m))=false from agd Ud];simp only[alU,if_false];refine afi (ai3 ?_);rw[nm];refine afZ ⟨aky ahR _,ih (j+1) _ m u c (by omega) (by omega) QD MW fun u' h2 Tz k2=> ?_⟩;have q:=hR u' h2 Tz fun b o hb DP e=>k2 b o hb DP (kp b o (by simpa using hb) e)
   rw[show pO m (z::ns.drop (j+1))=pO m (ns.drop (j+1))from by show pO (if z>m then z else m) _=_;rw[afe Ud]]at q;exact q
theorem D9(W:Walks P w A.in1 I [I,a] [I] items.size (fun i v=>items[i]? =some v) (fun i h=>h.IsListIter I a i/\h.IsList a items))(hi:∀(i:Nat) (v:afg),items[i]? =some v->∃(z:Int) (t:Tok),ns[i]? =some z/\v=ahQ z t)(hsz:items.size=ns.length)(Qq:S≠I)(T9:S≠a)
  {s:afC} {c:Nat} (st:s.heap.IsListIter I a 0/\s.heap.IsList a items) (hS:s.heap.get? S=some {cls:= .type "list",data:= .seq #[] c})
  (hR:∀(h':agg) (tk:Nat),Ml I S s.heap h'->(ns=[]->R (.ok (.ret dv)) {s with heap:=h',toks:=tk})/\∀z r,ns=z::r->∀u',R (.ok (.ret (.int (pO z r) u'))) {s with heap:=h',toks:=tk}):codeAny (model P w) A (X7 I S dv) R s:=by
 have nm:(toString "max"++toString ".loop":String)="max.loop":=by decide
 have T7:S∉ [I]:=by simpa using Qq
 refine ajO akH ?_;rw[ajG ahR _];refine afi (m:=seqItems? (.ref S)) (ahr hS rfl ?_);cases e:ns with
 |nil=>
  have ej:items.size=0:=by rw[hsz,e];rfl
  refine afi (m:=tryCatch (pyNext (.ref I)) _) (ajl (W.done s _ _ (by rw[ej];exact st) fun h1 tk kp=> ?_));refine afi (ak0 (afZ ?_));exact(hR h1 tk fun b o hb _ q=>kp b o (by simpa using hb) q).1 e
 |cons z0 r=>
  have iF:0<items.size:=by rw[hsz,e];exact aiF _
  refine afi (m:=tryCatch (pyNext (.ref I)) _) (ajl (W.item 0 s _ _ iF st fun v h1 tk hv QD kp=> ?_));have MW:=kp S _ T7 hS;obtain⟨z,t,hz,rfl⟩:=hi 0 v hv;have ez:z0=z:=by rw[e]at hz;exact afv hz
  subst ez;refine afi (m:=updateSeq S _) (ain MW rfl ?_);rw[nm];refine afZ ⟨aky ahR _,Ea (dv:=dv) W hi hsz Qq T9 _ 1 _ z0 t _ rfl (by rw[<-hsz];exact iF) (W.frame _ _ _ QD fun b hb o q=> ?_) (ahs _ MW rfl) fun u' h2 Tz k2=> ?_⟩
  .have DP:S≠b:=fun q=>by
    have:b=I\/b=a:=by simpa using hb
    rcases this with r|r
    .exact Qq (q.trans r)
    .exact T9 (q.trans r)
   exact(agS _ _ DP).trans q
  .have q:=(hR h2 Tz fun b o hb DP q=>k2 b o hb DP ((agS _ _ (agW DP)).trans (kp b o (by simpa using hb) q))).2 z0 r e u';rw[show ns.drop 1=r by rw[e];rfl];exact q
theorem D8(hh:A.handled=none)(hl:s.heap.IsList a items)(hi:∀(i:Nat) (v:afg),items[i]? =some v->∃(z:Int) (t:Tok),ns[i]? =some z/\v=ahQ z t)(hsz:items.size=ns.length)
  (h:∀(h':agg) (tk:Nat),(∀b o,s.heap.get? b=some o->h'.get? b=some o)->(ns=[]->Q dv {s with heap:=h',toks:=tk})/\∀z r,ns=z::r->∀u',Q (.int (pO z r) u') {s with heap:=h',toks:=tk}):
  wpAny (model P w) A (call (.builtin "max") [.ref a] [("default",dv)]) Q E s:=by
 have nm:(toString "max"++toString ".loop":String)="max.loop":=by decide
 have la:a<s.heap.objs.size:=by obtain⟨_,e,_⟩:=hl;exact afV e
 refine alS (ajH F.plain_max F.entry_max ?_);have go:wpAny (model P w) A.in1 (aj3.«max» ⟨[.ref a],[("default",dv)]⟩) (fun fin s'=>match fin with
   | .done f=>(match(Except.ok f:aiH)with| .ok (.ret v)=>Q v s'| .ok _=>False| .error e=>E e s')
   | .again c'=>c'.quiet=true/\codeAny (model P w) A c' (fun r s'=>match r with| .ok (.ret v)=>Q v s'| .ok _=>False| .error e=>E e s') s') E s:=by
  refine afi (m:=aj4 "max" ["key","default"] 0 ⟨[],[("default",dv)]⟩) (amz (show aj4 "max" ["key","default"] 0 ⟨[],[("default",dv)]⟩=pure [none,some dv]from rfl) ?_);refine afi (afZ ?_);refine afi (m:=pyIter (.ref a)) (yH hl fun s2 e2 st gh=> ?_);subst e2;refine afi (ai9 ?_);rw[nm];refine afZ ⟨aky ahR _,?_⟩;have NQ:=(amO (prog:=P) (w:=w) (A:=A.in1) hh s.heap.objs.size a gh items).frame _ _ ((s.heap.push {cls:= .type "list_iterator",data:= .fields #[.ref a,.int 0 0]}).push {cls:= .type "list",data:= .seq #[]}) st fun b _ o e=>afm _ e
  refine D9 (ns:=ns) (dv:=dv) (c:=0) (amO (A:=A.in1) hh _ a gh items) hi hsz ?_ ?_ NQ (afI _ rfl) fun h' tk kp=> ?_
  .rw[agh];exact akD _
  .rw[agh];exact aii (aiu la)
  .refine h h' tk fun b o e=>kp b o (agy (afV e)) ?_ (afm _ (afm _ e))
   rw[agh];exact agy (aiu (afV e))
 have hk:=F.kind_max;simp only[checkBuiltinCall,hk];cases WM:Manifest.signature? "max"with
 |none=>exact afZ go
 |some sig=>
  have Kk:Bind.checkArgs "max" sig ⟨[.ref a],[("default",dv)]⟩=pure ():=by simpa only[argsOk,WM]using Dt (.ref a) dv
  simp only[Kk];exact afZ go
end
def ZL(d:Int):List Int->Int
 | []=>d
 |z::r=>pO z r
inductive G4(K:afW)(Q:VK)(x:V)(y:V)(H2:Hp):Prop|m:∀(a:afd) (ns:List Int) (d:Int),x= .ref a->y= .int d->aJ K H2 a (ns.map V.int)->Q (.int (ZL d ns)) H2->G4 K Q x y H2
def Tr(K:afW)(te td:TE):TE:=fun σ H Q=>te σ H fun x H1=>td σ H1 fun y H2=>G4 K Q x y H2
theorem Ll{ed:agR}{kp:Pos}(hc:X.calm=true)(hg:Gl X "max")(hm:X.mg "max"=none)(ha:PE X e te)(hd:PE X ed td)
  (he:starEach [e] X.env=[(false,eval e X.env)]:=by rfl):PE X (.Call (.Name "max" p) [e] [⟨some "default",ed,kp⟩] pos) (Tr X.K te td):=by
 intro pins s σ H Q I h;refine ahT (j0 I hg hm boot_max ?_);refine callWith_kw (by
  rw[he];refine ahk (cK (ha pins s σ H _ I h) fun u s1 ⟨x,H1,I1,r1,q1⟩=>ah5 ?_);refine kws_cons (cK (hd pins s1 σ H1 _ I1 q1) fun v s2 ⟨y,H2,I2,r2,q2⟩=>kws_nil ?_);obtain⟨a,ns,d,rfl,rfl,hs,q⟩:=q2;cases r1;obtain⟨t,rfl⟩:=r2;obtain⟨aR,rv,hl,_⟩:=I2.list hs;refine D8 (ns:=ns) (I2.ok.hd hc) hl.isList (fun i v hv=>wD rv (by simpa using hv)) (by have:=rv.length;rw[afb]at this;rw[afL,this]) fun h' tk kp=>⟨fun e=> ?_,fun z r e u'=> ?_⟩
  .subst e;exact⟨.int d,H2,I2.kept kp,⟨_,rfl⟩,q⟩
  .subst e;exact⟨.int _,H2,I2.kept kp,⟨_,rfl⟩,q⟩) (by rw[he]<;>rfl) (by rw[he]<;>rfl)
theorem yM(a b:afg):checkTypeCall "enumerate" ⟨[a],[("start",b)]⟩=pure ():=by kernel_rfl
theorem Ak(a b:afg):checkBuiltinCall "enumerate.__new__" ⟨[.type "enumerate",a],[("start",b)]⟩=pure ():=by kernel_rfl
theorem yL(o a b:afg):argsOk "object.__init__" ⟨[o,a],[("start",b)]⟩:=by
 unfold argsOk;rw[signature?_of (id:="object.__init__") (n:=['_','_','t','i','n','i','_','_']) (o:=['t','c','e','j','b','o']) (by kernel_rfl) amT];kernel_rfl
abbrev Jy(h:agg)(l:afd)(k:Int):agg:=(h.push {cls:= .type "list_iterator",data:= .fields #[.ref l,.int 0 0]}).push {cls:= .type "enumerate",data:= .fields #[.none,.bool false,.ref h.objs.size,rawInt k,.none,.none]}
theorem DI(l:afd)(items:Array afg)(n:Nat)(Rh:Option afd)(sl:Array (Option afg))(k:Int)(t:Tok)(hk:ajP k=true):
  Meets (aj3.«enumerate.__new__» ⟨[.type "enumerate",.ref l],[("start",.int k t)]⟩) (fun _ R s=>s.heap.get? l=some {cls:= .type "list",dict:=Rh,data:= .seq items n,slots:=sl}/\
   R (.ok (.ret (.ref (s.heap.objs.size+1)))) {s with heap:=Jy s.heap l k}):=
 .of_wp fun prog w A R s h=>by
  obtain⟨hp,g,d,tk,os⟩:=s;obtain⟨hl,h⟩:=h;have OG:=sub_enumerate;have hL:akp (ajI ⟨hp,g,d,tk,os⟩) l items:=⟨_,hl,rfl,n,rfl⟩;have hz:(hp.push {cls:= .type "list_iterator",data:= .fields #[.ref l,.int 0 0]}).objs.size=hp.objs.size+1:=agh ..
  wp_walk using aiO hl
  have Ug:¬(!Builtin.SmallTypes.fitsIndex k)=true:=by rw[hk];exact afP
  rw[<-hz]at h;refine wpAny_stack_any fun st=>afZ ?_
  split<;>first
   |(rename_i c _ _ _ _ _
     cases(c==aiR "enumerate")<;>(wp_walk using aiO hl,ahq hL;exact⟨_,rfl,h⟩))
   |(wp_walk using aiO hl,ahq hL;exact⟨_,rfl,h⟩)
theorem Kz{o a:afg}{k:Str}(hl:typeLookup (.type "enumerate") "__init__"=pure (some (.builtin "object.__init__")))(hm:Bind.madeBy (.type "enumerate")=pure (some "enumerate.__new__")):
  Meets (aj3.«object.__init__» ⟨[o,a],[(k,v)]⟩) (fun _ R s=>s.TypeIs o "enumerate"/\R (.ok (.ret .none)) s):=by
 refine Meets.of_wp fun prog w A R s hs=> ?_
 obtain⟨hT,hq⟩:=hs;have gh:(some "enumerate.__new__" !=some "object.__new__")=true:=by decide
 repeat (any_goals (first|assumption|wp_step))
 exact⟨_,rfl,hq⟩
theorem zW{k:Int}{t:Tok}(hL:s.heap.IsList l items)(hk:ajP k=true)
  (h:∀h',akw h' (s.heap.objs.size+1) s.heap.objs.size k .none->h'.IsListIter s.heap.objs.size l 0->(∀b o,s.heap.get? b=some o->h'.get? b=some o)->Q (.ref (s.heap.objs.size+1)) {s with heap:=h'}):
  wpAny (model P w) A (call (.type "enumerate") [.ref l] [("start",.int k t)]) Q E s:=by
 obtain⟨⟨c,Rh,dt,sl⟩,hl,hc,n,hd⟩:=hL;obtain rfl:c= .type "list":=hc;obtain rfl:dt= .seq items n:=hd;have ft:=F.called_enumerate;obtain⟨c1,tl,acJ⟩:=ft.mro;have R4:=ft.made;have OG:=ft.sub;have hct:=yM (.ref l) (.int k t);refine alS (codeAny_of_tree ?_);show wpAny _ _ (callAny (.type "enumerate") _) _ _ _;refine afZ ⟨Code.quiet_builtin _ (by decide+kernel),ajO F.entry_type_call ?_⟩;rw[Around.under_plain (weight_type_call_type "enumerate" [.ref l] [("start",.int k t)]) (units_type_call_type "enumerate" [.ref l] [("start",.int k t)])];have h1:=ft.notType;have h2:=ft.canCreate
 repeat (any_goals (first|assumption|wp_step))
 have hz:(s.heap.push {cls:= .type "list_iterator",data:= .fields #[.ref l,.int 0 0]}).objs.size=s.heap.objs.size+1:=agh ..;have hE:akw (Jy s.heap l k) (s.heap.objs.size+1) s.heap.objs.size k .none:=by rw[<-hz];exact afI _ rfl
 have hI:(Jy s.heap l k).IsListIter s.heap.objs.size l 0:=⟨_,afm _ (afI _ rfl),rfl,rfl⟩;have g:=DI l items n Rh sl k t hk;have QD:codeAny (model P w) A.in1 (.call (.builtin "enumerate.__new__") ⟨[.type "enumerate",.ref l],[("start",.int k t)]⟩) (fun r s1=>r= .ok (.ret (.ref (s.heap.objs.size+1)))/\s1={s with heap:=Jy s.heap l k}) s:=
  ajH ft.plain F.entry_enumerate_new (amz (Ak (.ref l) (.int k t)) (g P w A.in1 (fun r s1=>r= .ok (.ret (.ref (s.heap.objs.size+1)))/\s1={s with heap:=Jy s.heap l k}) s ⟨hl,rfl,rfl⟩))
 refine ai6 QD fun r s1 hr=> ?_
 obtain⟨rfl,rfl⟩:=hr;have hT:Shared.TypeIs {s with heap:=Jy s.heap l k} (.ref (s.heap.objs.size+1)) "enumerate":=⟨_,hE,rfl⟩;have Wv:=ft.init.lookup;have hbi:=ft.init.bind (.ref (s.heap.objs.size+1))
 repeat (any_goals (first|assumption|wp_step))
 have NQ:codeAny (model P w) A.in1 (.call (.builtin "object.__init__") ⟨[.ref (s.heap.objs.size+1),.ref l],[("start",.int k t)]⟩) (fun r s2=>r= .ok (.ret .none)/\s2={s with heap:=Jy s.heap l k}) {s with heap:=Jy s.heap l k}:=
  ajH ft.init.plain F.entry_object_init (ft.init.check _ _ _ _ _ _ _ _ hT (yL _ _ _) (Kz Wv R4 P w A.in1 (fun r s2=>r= .ok (.ret .none)/\s2={s with heap:=Jy s.heap l k}) _ ⟨hT,rfl,rfl⟩))
 refine ai6 NQ fun r2 s2 Ku=> ?_
 obtain⟨rfl,rfl⟩:=Ku;have fin:=h (Jy s.heap l k) hE hI fun b o e=>afm _ (afm _ e)
 repeat (any_goals (first|assumption|wp_step))
theorem z8{e:afd}{z:Int}{x old:afg}{Q:Option afg->afC->Prop}
  (he:akw s.heap e it z old) (mr:s.heap.IsListIter it l i) (hl:s.heap.IsList l items) (hx:items[i]? =some x) (gh:e≠it)
  (hQ:∀h',anw h' e it (z+1) x s.heap.objs.size->h'.IsListIter it l (i+1)->h'.get? s.heap.objs.size=some {cls:= .type "tuple",data:= .seq #[.int z s.toks,x]}->
   (∀b o,b≠e->b≠it->s.heap.get? b=some o->h'.get? b=some o)->Q (some (.ref s.heap.objs.size)) {s with heap:=h',toks:=s.toks+1}):
  wpAny (model P w) A (pyNext (.ref e)) Q E s:=by
 have hT:s.TypeIs (.ref e) "enumerate":=⟨_,he,rfl⟩;obtain⟨hp,g,d,tk,os⟩:=s;have zO:e<hp.objs.size:=afV he;unfold pyNext;refine afi (akz (wpAny_callSpecial?_slot (name:=agF "__next__") hT ait (aib ait hT ak1 ?_ (akI _))));refine afi (m:=field (.ref e) 2) (agX he rfl (x:= .ref it) rfl ?_);refine afi (ak2 mr hl hx fun g1 it1 CT=> ?_);have e1:akw g1 e it z old:=((show agm it hp g1 from CT).2 e gh).trans he;refine afi (m:=field (.ref e) 3) (agX e1 rfl (x:=rawInt z) rfl ?_);refine afi (m:=field (.ref e) 4) (agX e1 rfl (x:= .none) rfl ?_);refine afi (m:=mkInt z) (wpAny_mkInt ?_);refine afi (m:=setField (.ref e) 3 (rawInt (z+1))) (ag0 e1 (by simp) fun g2 e2 ET=> ?_);have MS:akw g2 e it (z+1) old:=e2;refine afi (m:=setField (.ref e) 4 .none) (ag0 MS (by simp) fun g3 e3 NM=> ?_);have VF:akw g3 e it (z+1) old:=e3;refine afi (m:=newTuple [.int z tk,x]) (wpAny_newTuple ?_);have sz:g3.objs.size=hp.objs.size:=by rw[(show agm e g2 g3 from NM).1,(show agm e g1 g2 from ET).1,(show agm it hp g1 from CT).1]
 have e4:akw (g3.push {cls:= .type "tuple",data:= .seq #[.int z tk,x]}) e it (z+1) old:=afm _ VF;have Qz:∀b o,b≠e->b≠it->hp.get? b=some o->(g3.push {cls:= .type "tuple",data:= .seq #[.int z tk,x]}).get? b=some o:=fun b o h1 h2 q=>
  afm _ ((show agm e g2 g3 from NM).extBut b o h1 ((show agm e g1 g2 from ET).extBut b o h1 ((show agm it hp g1 from CT).extBut b o h2 q)))
 have t4:(g3.push {cls:= .type "tuple",data:= .seq #[.int z tk,x]}).get? hp.objs.size=some {cls:= .type "tuple",data:= .seq #[.int z tk,x]}:=by rw[<-sz];exact afI _ rfl
 have i4:(g3.push {cls:= .type "tuple",data:= .seq #[.int z tk,x]}).IsListIter it l (i+1):=by
  obtain⟨o,ho,r⟩:=(it1.extBut (show agm e g1 g2 from ET).extBut (agW gh)).extBut (show agm e g2 g3 from NM).extBut (agW gh);exact⟨o,afm _ ho,r⟩
 refine afi (m:=agJ (.ref e)) ?_;unfold agJ;refine afi (agX e4 rfl (x:= .none) rfl (afZ ?_));simp only[aj0];refine afi (ak0 (afi (agX e4 rfl (x:=old) rfl ?_)));refine afi (ag0 e4 (by simp) fun g5 e5 UD=> ?_);have e5':akw g5 e it (z+1) x:=e5;refine afi (m:=ahe (.ref e) _) ?_;unfold ahe;refine afi (ag0 e5' (by simp) fun g6 e6 sb6=> ?_);have e6':anw g6 e it (z+1) x g3.objs.size:=e6;refine ag0 e6' (by simp) fun g7 e7 sb7=> ?_
 have Yw:anw g7 e it (z+1) x g3.objs.size:=e7;have up:∀b o,b≠e->(g3.push {cls:= .type "tuple",data:= .seq #[.int z tk,x]}).get? b=some o->g7.get? b=some o:=fun b o hb q=>(show agm e g6 g7 from sb7).extBut b o hb ((show agm e g5 g6 from sb6).extBut b o hb ((show agm e _ g5 from UD).extBut b o hb q))
 rw[sz]at Yw;refine afi (ai3 (afZ ⟨_,rfl,afZ ?_⟩));show Q (some (.ref g3.objs.size)) _;rw[sz];exact hQ g7 Yw (i4.at fun o q=>up it o (agW gh) q) (up _ _ (aii zO) t4) fun b o h1 h2 q=>up b o h1 (Qz b o h1 h2 q)
theorem DH{e:afd}{z:Int}{old:afg}{Q:Option afg->afC->Prop}(hh:A.handled=none)
  (he:akw s.heap e it z old) (mr:s.heap.IsListIter it l i) (hl:s.heap.IsList l items) (hx:items[i]? =none) (hQ:∀h',amA it s.heap h'->Q none {s with heap:=h'}):wpAny (model P w) A (pyNext (.ref e)) Q E s:=by
 have hT:s.TypeIs (.ref e) "enumerate":=⟨_,he,rfl⟩;unfold pyNext;refine afi (akz (wpAny_callSpecial?_slot (name:=agF "__next__") hT ait (aib ait hT ak1 ?_ (akI _))));refine afi (m:=field (.ref e) 2) (agX he rfl (x:= .ref it) rfl ?_);refine afi (ald hh mr hl hx fun h' x Ox hx'=> ?_);obtain⟨o,ho,hc⟩:=hx';exact afi (amr (T:="StopIteration") (b:=true) ⟨o,ho,hc⟩ isSubtype_stop (afZ (hQ _ Ox)))
def Fw(K:afW)(a:afd)(c:Int):It:=
 ⟨fun i H=>∃(xs:List V) (x:V),aJ K H a xs/\xs[i]? =some x,fun i H v H'=>∃T x,v= .ref T/\H T=none/\H'=aE H T (.dY [.int (c+(i:Nat)),x])/\∀xs,aJ K H a xs->xs[i]? =some x,fun i H=>∃xs:List V,aJ K H a xs/\xs.length<=i⟩
theorem Bc(a e it:afd)(c:Int):
  uh P w K (.Tuple js kk jc) (Fw K a c) [e,it] e (fun i h=>(∃old,akw h e it (c+(i:Nat)) old)/\h.IsListIter it a i/\e≠it)where
 mem:=by simp
 obj:=fun i h st b hb=>by
  obtain⟨⟨old,he⟩,⟨o,ho,hc,hd⟩,_⟩:=st;have e':b=e\/b=it:=by simpa using hb
  rcases e' with z|z
  .rw[z];exact⟨_,he,fun v q=>nomatch q⟩
  .rw[z];exact⟨o,ho,fun v q=>by rw[hd]at q;cases q⟩
 keep:=fun i h h' st k=>let⟨⟨old,he⟩,hi,gh⟩:=st;⟨⟨old,k e (by simp) _ he⟩,hi.at fun o q=>k it (by simp) o q,gh⟩
 item:=by
  intro X hP hw hK hc i pins s σ H E I hf st hg;subst hP hw hK;obtain⟨⟨old,he⟩,mr,gh⟩:=st;obtain⟨xs,x,hq,hx⟩:=hg;obtain⟨aR,rv,p,hz⟩:=I.list hq;obtain⟨u,hu,ru⟩:=rv.get hx;have zO:e<s.heap.objs.size:=afV he;have gV:it<s.heap.objs.size:=by obtain⟨_,q,_⟩:=mr;exact afV q
  refine z8 he mr p.isList (x:=u) (by simpa using hu) gh fun h' ho Oz hT hk=> ?_
  refine⟨_,rfl,akc (s:={s with heap:=h',toks:=s.toks+1}) ho fun B7 Ox sb=> ?_⟩;have RC:B7.get? s.heap.objs.size=some {cls:= .type "tuple",data:= .seq #[.int (c+(i:Nat)) s.toks,u]}:=(sb.2 _ (aii zO)).trans hT;have new:eP X.prog X.w (aE H s.heap.objs.size (.dY [.int (c+(i:Nat)),x])) B7 s.heap.objs.size (.dY [.int (c+(i:Nat)),x]):=
   ⟨by show 2<=sizeLine;decide,[.int (c+(i:Nat)) s.toks,u],.cons ⟨_,rfl⟩ (.cons ru .nil),⟨_,RC,rfl,_,rfl⟩⟩
  have I1:bb X pins σ (aE H s.heap.objs.size (.dY [.int (c+(i:Nat)),x])) {s with heap:=B7,toks:=s.toks+1}:=
   I.pY (ch:=[e,it]) (fun b ob hb q=>(sb.2 b (fun z=>hb (by simp[z]))).trans (hk b ob (fun z=>hb (by simp[z])) (fun z=>hb (by simp[z])) q)) hf (afp _) new
  refine⟨.ref s.heap.objs.size,_,I1,rfl,⟨_,x,rfl,I.dc.fresh (afp _),rfl,fun ys hy=>by rw[I.oA hy hq];exact hx⟩,⟨⟨u,?_⟩,Oz.at fun o q=>(sb.2 it (agW gh)).trans q,gh⟩,fun b hb=> ?_⟩
  .have e1:c+((i+1:Nat):Int)=c+(i:Int)+1:=by omega
   rw[e1];exact Ox
  .have yz:b<s.heap.objs.size:=by
    have e':b=e\/b=it:=by simpa using hb
    rcases e' with z|z
    .rw[z];exact zO
    .rw[z];exact gV
   rw[ao (agy yz)];exact(hf b hb).1
 done:=by
  intro X hP hw hK hc i pins s σ H E I hf st hg;subst hP hw hK;obtain⟨⟨old,he⟩,mr,gh⟩:=st;obtain⟨xs,hq,hx⟩:=hg;obtain⟨aR,rv,p,hz⟩:=I.list hq;obtain⟨f0,f1,f2,f3,f4,f5⟩:=hf it (by simp);have hl:=rv.length;exact DH (I.ok.hd hc) he mr p.isList (by simp;omega) fun h' eb=>⟨rfl,I.gC (t':=s.toks) (fun b o hb q=>eb b o hb q) f0 f1 f3 f4 f5⟩
 self:=fun A i s Q E st h=>let⟨⟨_,he⟩,_⟩:=st;ajb he h
theorem Fn{So:List alB}
  (h:wpAny M A (spliced (backTo pos (starEach [e] env))) (fun vs s1=>wpAny M A (evalAll ((backToKw pos (keywordEach So env)).map (·.2)))
   (fun aQ s2=>wpAny M A (call (.type T) vs (((backToKw pos (keywordEach So env)).filterMap (·.1)).zip aQ)) Q E s2) E s1) E s)
  (he:starEach [e] env=[(false,eval e env)]) (gI:(backToKw pos (keywordEach So env)).all (·.1.isSome)=true) (hkw:(backToKw pos (keywordEach So env)).any (·.1.isNone)=false):
  wpAny M A (callWith pos (.type T) [] (backTo pos (starEach [e] env)) (backToKw pos (keywordEach So env))) Q E s:=by
 have eb:backTo pos [(false,eval e env)]=[(false,eval e env)]:=rfl;rw[he,eb]at h⊢;have H:=evalArgs_kwB (f:= .type T) (x:=eval e env) (rest:=[]) (Q:=fun a s1=>wpAny M A (call (.type T) a.pos a.kw) Q E s1) gI h;unfold callWith;refine afi (aip (cK H fun a s1 h1=>afi (akr ?_)));rw[hkw];refine afi (afZ ?_);exact afi (cK h1 fun r s2 hr=>afi (aip (wpAny_point (afZ hr))))
inductive Cj(K:afW)(R:It->Hp->Prop)(x:V)(y:V)(H2:Hp):Prop|m:∀(a:afd) (xs:List V) (c:Int),x= .ref a->y= .int c->aJ K H2 a xs->-(2^63)<=c->c<2^63->R (Fw K a c) H2->Cj K R x y H2
def OH(K:afW)(te td:TE):TI:=fun σ H R=>te σ H fun x H1=>td σ H1 fun y H2=>Cj K R x y H2
theorem lx{ed:agR}{kp:Pos}(hg:Gl X "enumerate")(hm:X.mg "enumerate"=none)(ha:PE X e te)(hd:PE X ed td)(he:starEach [e] X.env=[(false,eval e X.env)]:=by rfl):
  PI X (.Tuple js kk jc) (.Call (.Name "enumerate" p) [e] [⟨some "start",ed,kp⟩] pos) (OH X.K te td):=by
 intro pins s σ H R I h;refine ahT (j0 I hg hm boot_enumerate (Fn ?_ he rfl rfl));rw[he];refine ahk (cK (ha pins s σ H _ I h) fun u s1 ⟨x,H1,I1,r1,q1⟩=>ah5 ?_);refine kws_cons (cK (hd pins s1 σ H1 _ I1 q1) fun v s2 ⟨y,H2,I2,r2,q2⟩=>kws_nil ?_);obtain⟨a,xs,c,rfl,rfl,hs,c1,c2,q⟩:=q2;cases r1;obtain⟨t,rfl⟩:=r2;obtain⟨aR,rv,hl,_⟩:=I2.list hs;refine zW (k:=c) (t:=t) hl.isList ?_ fun h' hE hI kp=>ajb hE ?_
 .show(decide (-(2^63:Int)<=c)&&decide (c<2^63))=true;rw[afl c1,afl c2];rfl
 .have I3:bb X pins σ H2 {s2 with heap:=h'}:=I2.kept (t':=s2.toks) kp;refine⟨s2.heap.objs.size+1,[s2.heap.objs.size+1,s2.heap.objs.size],_,_,H2,rfl,I3,Bc a (s2.heap.objs.size+1) s2.heap.objs.size c,⟨⟨.none,?_⟩,hI,akD _⟩,fun b hb=> ?_,q⟩
  .rw[show c+((0:Nat):Int)=c by omega];exact hE
  .have e':b=s2.heap.objs.size+1\/b=s2.heap.objs.size:=by simpa using hb
   have qm:s2.heap.objs.size<=b:=by
    rcases e' with z|z
    .rw[z];exact agP _ _
    .rw[z];exact afp _
   exact I2.wm qm (I2.dc.fresh qm)
theorem jD{c:Int}(Pv:Nat->St->Hp->Prop)(h0:Pv 0 σ H)(hl:∀i σ H,i<=xs.length->Pv i σ H->aJ K H a xs)
  (hs:∀i x σ H T,xs[i]? =some x->Pv i σ H->H T=none->g (.ref T) σ (aE H T (.dY [.int (c+(i:Nat)),x])) fun σ2 H2=>tb {D with nx:=Pv (i+1),ct:=Pv (i+1),bk:=D.nx} σ2 H2) (hd:∀σ H,Pv xs.length σ H->D.nx σ H):
  ∃W:Nat->Nat->St->Hp->Prop,(∃m,W 0 m σ H)/\∀i m σ H,W i m σ H->
   ((Fw K a c).ju i H/\D.nx σ H)\/((Fw K a c).go i H/\∃N:St->Hp->Prop,(∀σ' H',N σ' H'->∃m',m'<m/\W (i+1) m' σ' H')/\∀x H',(Fw K a c).Di i H x H'->g x σ H' fun σ2 H2=>tb {D with nx:=N,ct:=N,bk:=D.nx} σ2 H2):=by
 refine⟨fun i m σ H=>m=xs.length-i/\i<=xs.length/\Pv i σ H,⟨xs.length,by simp,afH _,h0⟩,?_⟩;rintro i m σ H ⟨rfl,hi,p⟩;have q:=hl i σ H hi p;by_cases iF:i<xs.length
 .refine .inr ⟨⟨xs,xs[i],q,by simp[iF]⟩,Pv (i+1),fun σ' H' p'=>⟨xs.length-(i+1),by omega,rfl,iF,p'⟩,fun v H' y=> ?_⟩;obtain⟨T,x,rfl,hT,rfl,y⟩:=y;exact hs i x σ H T (y xs q) p hT
 .have e:i=xs.length:=by omega
  subst e;exact .inl ⟨⟨xs,q,afp _⟩,hd σ H p⟩
theorem DK(Pv:Nat->St->Hp->Prop)(h0:Pv 0 σ H)(hl:∀i σ H,i<=xs.length->Pv i σ H->aJ K H a xs)
  (hs:∀i x σ H T,xs[i]? =some x->Pv i σ H->H T=none->g (.ref T) σ (aE H T (.dY [.int (i:Nat),x])) fun σ2 H2=>tb {D with nx:=Pv (i+1),ct:=Pv (i+1),bk:=D.nx} σ2 H2) (hd:∀σ H,Pv xs.length σ H->D.nx σ H):
  ∃W:Nat->Nat->St->Hp->Prop,(∃m,W 0 m σ H)/\∀i m σ H,W i m σ H->
   ((QK K a).ju i H/\D.nx σ H)\/((QK K a).go i H/\∃N:St->Hp->Prop,(∀σ' H',N σ' H'->∃m',m'<m/\W (i+1) m' σ' H')/\∀x H',(QK K a).Di i H x H'->g x σ H' fun σ2 H2=>tb {D with nx:=N,ct:=N,bk:=D.nx} σ2 H2):=by
 refine⟨fun i m σ H=>m=xs.length-i/\i<=xs.length/\Pv i σ H,⟨xs.length,by simp,afH _,h0⟩,?_⟩;rintro i m σ H ⟨rfl,hi,p⟩;have q:=hl i σ H hi p;by_cases iF:i<xs.length
 .refine .inr ⟨⟨xs,xs[i],q,by simp[iF]⟩,Pv (i+1),fun σ' H' p'=>⟨xs.length-(i+1),by omega,rfl,iF,p'⟩,fun v H' y=> ?_⟩;obtain⟨T,x,rfl,hT,rfl,y⟩:=y;exact hs i x σ H T (y xs q) p hT
 .have e:i=xs.length:=by omega
  subst e;exact .inl ⟨⟨xs,q,afp _⟩,hd σ H p⟩
def XS(te:TE):TE:=fun σ H Q=>te σ H fun x H1=>(∃i:Int,x= .int i/\i.natAbs<2^64/\Q (.str (toString i)) H1)\/∃z,x= .str z/\z.length<=sizeLine/\Q (.str z) H1
theorem E3{i:Int}(h:i.natAbs<2^64):i.natAbs.log2<1920:=by
 by_cases h0:i.natAbs=0
 .rw[h0];decide
 .exact amc ((Nat.log2_lt h0).mpr h) (by decide)
theorem sL(he:PE X e te):PE X (.FormattedValue e (-1) none pos) (XS te):=by
 intro pins s σ H Q I h;refine al0 (cK (he pins s σ H _ I h) fun u s1 ⟨x,H1,I1,r,q⟩=> ?_);rcases q with⟨i,rfl,hi,q⟩|⟨z,rfl,hz,q⟩
 .obtain⟨t,rfl⟩:=r;exact formatField_int_small (E3 hi) ⟨.str (toString i),H1,I1.qM _,⟨_,rfl⟩,q⟩
 .obtain⟨t,rfl⟩:=r;exact formatField_str (fun t' tk=>⟨.str z,H1,I1.qM _,⟨_,rfl⟩,q⟩) hz
def Jl:List TE->Str->TE
 | [],acc=>fun _ H Q=>acc.length<=sizeLine/\Q (.str acc) H
 |t::ts,acc=>fun σ H Q=>t σ H fun x H1=>∃y,x= .str y/\(acc++y).length<=sizeLine/\Jl ts (acc++y) σ H1 Q
inductive PJ (X:Cx):List agR->List TE->Prop
 |nil:PJ X [] []
 |cons {e:agR} {t:TE} {es:List agR} {ts:List TE}:PE X e t->PJ X es ts->PJ X (e::es) (t::ts)
theorem KG{ts:List TE}(h:PJ X es ts):∀(acc:Str) (pins:List (afd×Obj)) (s:afC) (σ:St) (H:Hp) (Q:VK),bb X pins σ H s->Jl ts acc σ H Q->wpAny (model X.prog X.w) X.A (joinParts acc (evalEach es X.env)) (EP X pins σ Q) X.xe s:=by
 induction h with
 |nil=>
  intro acc pins s σ H Q I q;exact joinParts_nil ⟨.str acc,H,I.qM _,⟨_,rfl⟩,q.2⟩ q.1
 |cons he hr ih=>
  intro acc pins s σ H Q I q;refine joinParts_cons (cK (he pins s σ H _ I q) fun u s1 ⟨x,H1,I1,r,q1⟩=> ?_);obtain⟨y,rfl,hy,q2⟩:=q1;obtain⟨t,rfl⟩:=r;exact⟨hy,ih (acc++y) pins s1 σ H1 Q I1 q2⟩
theorem qY{ts:List TE}(h:PJ X (e::e2::es) ts):PE X (.JoinedStr (e::e2::es) pos) (Jl ts ah8):=by
 intro pins s σ H Q I q;exact JoinedStr_many (KG h ah8 pins s σ H Q I q)
inductive Cm(X:Cx)(t:TA)(σ:St)(Q:VK)(x:V)(H1:Hp):Prop|m:∀(f:afd) (fd:afE) (ps:List Str) (sp:Sp) (k:Nat),x= .ref f->keepIn X.K (.ref f)=true->aT X.prog X.w X.K X.mg X.base (fun _ _ _ _ _ _=>False) k f fd ps sp->fF k X.A->eY X.K fd ps []->(t σ H1 fun vs H2=>sp vs H2 Q (fun _ _ _=>False))->Cm X t σ Q x H1
def PX(X:Cx)(tf:TE)(t:TA):TE:=fun σ H Q=>tf σ H fun x H1=>Cm X t σ Q x H1
theorem oH{func:agR}{tf:TE}{t:TA}(hf:PE X func tf)(ha:PA X (e::es) t)
  (hc:eval (.Call func (e::es) [] pos) X.env=(do callWith pos (<-eval func X.env) [] (backTo pos (starEach (e::es) X.env)) (backToKw pos (keywordEach [] X.env))):=by rfl)
  (he:starEach (e::es) X.env=(false,eval e X.env)::starEach es X.env:=by rfl) (kf:(backTo pos (starEach es X.env)).any (·.1)=false:=by rfl):
  PE X (.Call func (e::es) [] pos) (PX X tf t):=by
 intro pins s σ H Q I h;refine Call_ (cK (hf pins s σ H _ I h) fun u s0 ⟨x,H1,I1,rx,f,fd,ps,sp,k,ex,hk,F,hr,hb,q⟩=> ?_) hc;subst ex;obtain rfl:u=af1 f:=rx;refine akb (h₀:=X.base) I1.ok.wO.Sn hk (cK (ha pos pins s0 σ H1 _ I1 q) fun us s1 ⟨vs,H2,I2,r,q2⟩=>⟨I2.u7,?_⟩) he kf;refine xc (dvs:=[]) (E:=fun _ _ _=>False) F hr hb .nil (fun _ _ _ _ _ _ _ z=>z.elim) I2 r ?_;rw[af7];exact q2
def KD(P:afA)(w:af4)(K:afW)(a:afd)(aQ:List (br×V)):Prop:=(a==sysModules)=false/\∃vs:List (br×afg),KV aQ vs/\∀h:agg,K.In h->h.DictOf (cO P w) a vs
inductive G3(P:afA)(w:af4)(K:afW)(Q:VK)(x:V)(y:V)(H2:Hp):Prop|m:∀(a:afd) (aQ:List (br×V)) (k:br) (v:V),x= .ref a->KD P w K a aQ->y=kV k->ee aQ k=some v->Q v H2->G3 P w K Q x y H2
def To(P:afA)(w:af4)(K:afW)(td ty:TE):TE:=fun σ H Q=>td σ H fun x H1=>ty σ H1 fun y H2=>G3 P w K Q x y H2
inductive Nl(P:afA)(w:af4)(K:afW)(Q:VK)(y:V)(x:V)(H2:Hp):Prop|m:∀(a:afd) (aQ:List (br×V)) (k:br),x= .ref a->KD P w K a aQ->y=kV k->Q (.bl (ee aQ k).isSome) H2->Nl P w K Q y x H2
def XW(P:afA)(w:af4)(K:afW)(ty td:TE):TE:=fun σ H Q=>ty σ H fun y H1=>td σ H1 fun x H2=>Nl P w K Q y x H2
inductive yJ(P:afA)(w:af4)(K:afW)(Q:VK)(y:V)(x:V)(H2:Hp):Prop|m:∀(a:afd) (aQ:List (br×V)) (k:br),x= .ref a->KD P w K a aQ->y=kV k->Q (.bl (!(ee aQ k).isSome)) H2->yJ P w K Q y x H2
def Md(P:afA)(w:af4)(K:afW)(ty td:TE):TE:=fun σ H Q=>ty σ H fun y H1=>td σ H1 fun x H2=>yJ P w K Q y x H2
section
variable{o i:agR}
theorem w9(ho:PE X o td)(hi:PE X i ty)(hs:NY i):PE X (.Subscript o i pos) (To X.prog X.w X.K td ty):=by
 intro pins s σ H Q I h;refine De akg.lookup hs (cK (ho pins s σ H _ I h) fun u s1 ⟨x,H1,I1,rx,q1⟩=>cK (hi pins s1 σ H1 _ I1 q1) fun iv s2 ⟨y,H2,I2,ry,a,aQ,k,v,ex,⟨hd,vs,kl,dd⟩,ey,l,q2⟩=> ?_);subst ex;subst ey;obtain rfl:u=af1 a:=rx;have D:=dd s2.heap I2.u7;obtain⟨w',hw,xf⟩:=jy.oV (v:=v) (o:=valueAt vs k) (by rw[<-l];exact KV.val kl k);exact⟨D.typeIs,amn (kS ry) D.mapOf hw ⟨v,H2,I2.qM _,xf,q2⟩⟩
theorem Pf(hi:PE X i ty)(ho:PE X o td):PC X .In i o (XW X.prog X.w X.K ty td):=by
 intro pins s σ H Q I h;refine cK (hi pins s σ H _ I h) fun iv s1 ⟨y,H1,I1,ry,q1⟩=>cK (ho pins s1 σ H1 _ I1 q1) fun u s2 ⟨x,H2,I2,rx,a,aQ,k,ex,⟨hd,vs,kl,dd⟩,ey,q2⟩=> ?_
 subst ex;subst ey;obtain rfl:u=af1 a:=rx;refine wpAny_in_of (kS ry) hd (dd s2.heap I2.u7).mapOf ?_;rw[<-(KV.val kl k).iY];exact⟨.bl _,H2,I2.qM _,rfl,q2⟩
theorem EL(hi:PE X i ty)(ho:PE X o td):PC X .NotIn i o (Md X.prog X.w X.K ty td):=by
 intro pins s σ H Q I h;refine cK (hi pins s σ H _ I h) fun iv s1 ⟨y,H1,I1,ry,q1⟩=>cK (ho pins s1 σ H1 _ I1 q1) fun u s2 ⟨x,H2,I2,rx,a,aQ,k,ex,⟨hd,vs,kl,dd⟩,ey,q2⟩=> ?_
 subst ex;subst ey;obtain rfl:u=af1 a:=rx;refine wpAny_notIn_of (kS ry) hd (dd s2.heap I2.u7).mapOf ?_;rw[<-(KV.val kl k).iY];exact⟨.bl _,H2,I2.qM _,rfl,q2⟩
end
theorem Hg{t:afd}{x:afg}(mr:s.heap.IsTupleIter it t i)(ht:s.heap.IsTuple t items)(hx:items[i]? =some x)
  (hQ:∀h',h'.IsTupleIter it t (i+1)->agm it s.heap h'->Q x {s with heap:=h'}):wpAny (model P w) A (agO (.ref it)) Q E s:=by
 obtain⟨o,ho,hc,hd⟩:=id mr;obtain⟨o2,OB,_,n2,Km⟩:=ht;have hn:¬((af1 t==ahS)=true):=afP;unfold agO;refine afi (wpAny_callSpecial?_slot (name:=agF "__next__") mr.typeIs ahW (aib ahW mr.typeIs aj5 ?_ (ajQ _)));refine afi (m:=field (.ref it) 0) (agX ho hd (x:= .ref t) rfl ?_);show wpAny _ _ (if(af1 t==ahS)=true then _ else _) _ _ s;rw[afe hn];refine afi (m:=field (.ref it) 1) (agX ho hd (x:= .int i 0) rfl ?_);refine afi (m:=seqItems? (.ref t)) (ahr OB Km ?_);simp only[ah6,hx];refine afi (wpAny_setField ho hd (by simp) (afZ ⟨x,rfl,afZ (hQ _ ⟨_,ahs _ ho (Obj.isFreed_of_fields (alX hd _)),(Obj.cls_mapFields ..).trans hc,?_⟩ (ajZ ..))⟩));rw[alX hd];simp[rawInt]
theorem wR{t:afd}(hh:A.handled=none)(mr:s.heap.IsTupleIter it t i)(ht:s.heap.IsTuple t items)(hx:items[i]? =none)
  (hE:∀h' e,amA it s.heap h'->(∃o,h'.get? e=some o/\o.cls= .type "StopIteration")->E (.ref e) {s with heap:=h'}):wpAny (model P w) A (agO (.ref it)) Q E s:=by
 obtain⟨o,ho,hc,hd⟩:=id mr;obtain⟨o2,OB,_,n2,Km⟩:=ht;have hn:¬((af1 t==ahS)=true):=afP;unfold agO;refine afi (wpAny_callSpecial?_slot (name:=agF "__next__") mr.typeIs ahW (aib ahW mr.typeIs aj5 ?_ (ajQ _)));refine afi (m:=field (.ref it) 0) (agX ho hd (x:= .ref t) rfl ?_);show wpAny _ _ (if(af1 t==ahS)=true then _ else _) _ _ s;rw[afe hn];refine afi (m:=field (.ref it) 1) (agX ho hd (x:= .int i 0) rfl ?_);refine afi (m:=seqItems? (.ref t)) (ahr OB Km ?_);simp only[ah6,hx];refine afi (ak0 (afi (wpAny_setField ho hd (by simp) (afi (m:=newExc (.type "StopIteration") []) ?_))));simp only[newExc,newTuple];refine afi (ai9 ?_ (by size_fits));refine afi (m:=firstArgMember _ _) (amz (a:=ahS) (by first|rfl|(simp only[firstArgMember];rfl)) (ai9 ?_ (by size_fits)));simp only[raiseNew];refine afi (wpAny_handled ?_)
 first|rw[show A.in1.handled=none from hh]|rw[hh]
 exact afi (afZ (wpAny_throw (hE _ _ (((ajZ ..).extBut.push _).push _) ⟨_,afI _ rfl,rfl⟩)))
structure ug where
 it:afd
 JL:afd
 dY:Bool
 items:Array afg
def ug.At(c:ug)(h:agg)(i:Nat):Prop:=c.it≠c.JL/\((c.dY=true/\h.IsTupleIter c.it c.JL i/\h.IsTuple c.JL c.items)\/(c.dY=false/\h.IsListIter c.it c.JL i/\h.IsList c.JL c.items))
section
variable{c:ug}
theorem ug.At.keep(x:c.At h i)(k1:∀o,h.get? c.it=some o->h'.get? c.it=some o)(k2:∀o,h.get? c.JL=some o->h'.get? c.JL=some o):c.At h' i:=by
 rcases x with⟨n,⟨t,⟨o,ho,r⟩,⟨o2,OB,r2⟩⟩|⟨t,⟨o,ho,r⟩,⟨o2,OB,r2⟩⟩⟩
 .exact⟨n,.inl ⟨t,⟨o,k1 o ho,r⟩,⟨o2,k2 o2 OB,r2⟩⟩⟩
 .exact⟨n,.inr ⟨t,⟨o,k1 o ho,r⟩,⟨o2,k2 o2 OB,r2⟩⟩⟩
theorem ug.item{x:afg}(a:c.At s.heap i)(hx:c.items[i]? =some x)(hQ:∀h',c.At h' (i+1)->agm c.it s.heap h'->Q x {s with heap:=h'}):
  wpAny (model P w) A (agO (.ref c.it)) Q E s:=by
 rcases a with⟨n,⟨t,h1,h2⟩|⟨t,h1,h2⟩⟩
 .exact Hg h1 h2 hx fun h' q sb=>hQ h' ⟨n,.inl ⟨t,q,h2.extBut sb.extBut (agW n)⟩⟩ sb
 .exact ak2 h1 h2 hx fun h' q sb=>hQ h' ⟨n,.inr ⟨t,q,h2.extBut sb.extBut (agW n)⟩⟩ sb
theorem ug.fin(hh:A.handled=none)(a:c.At s.heap i)(hx:c.items[i]? =none)
  (hE:∀h' e,amA c.it s.heap h'->(∃o,h'.get? e=some o/\o.cls= .type "StopIteration")->E (.ref e) {s with heap:=h'}):wpAny (model P w) A (agO (.ref c.it)) Q E s:=by
 rcases a with⟨n,⟨t,h1,h2⟩|⟨t,h1,h2⟩⟩
 .exact wR hh h1 h2 hx hE
 .exact ald hh h1 h2 hx hE
end
theorem tY{M:aj6}{A:ahF}{E:afg->afC->Prop}{α β:Type}{Q:β->afC->Prop}{f:α->β->Sem (ForInStep β)}(Iv:Nat->β->afC->Prop):
  ∀(l:List α) (n:Nat) (b:β) (s:afC),Iv n b s->(∀j a b s,l[j]? =some a->Iv (n+j) b s->wpAny M A (f a b) (fun r s'=>match r with| .yield b'=>Iv (n+j+1) b' s'| .done b'=>Q b' s') E s)->
   (∀b s,Iv (n+l.length) b s->Q b s)->wpAny M A (forIn l b f) Q E s
 | [],n,b,s,h0,_,hd=>afZ (hd b s h0)
 |a::l,n,b,s,h0,hs,hd=>by
  rw[amC];refine afi (cK (hs 0 a b s rfl h0) fun r s' h=> ?_);cases r with
  |done b'=>exact afZ h
  |yield b'=>
   refine tY Iv l (n+1) b' s' h (fun j a b s hj hi=> ?_) fun b s hi=>hd b s ?_
   .have:=hs (j+1) a b s (by simpa using hj) (by rw[show n+(j+1)=n+1+j by omega];exact hi);rw[show n+(j+1)+1=n+1+j+1 by omega]at this;exact this
   .rw[show n+(a::l).length=n+1+l.length by rw[afr];omega];exact hi
abbrev i5(h:agg)(T:afd)(vs:List afg):Prop:=h.get? T=some {cls:= .type "tuple",data:= .seq vs.toArray}
structure JN(z TI TO:afd)(cs:List ug):Prop where
 nd:(z::TI::TO::cs.map (·.it)).Nodup
 sr:∀c∈cs,c.JL≠z/\c.JL≠TO/\∀c'∈cs,c.JL≠c'.it
theorem zl{α:Type}:∀{l old:List α} {j:Nat} {x:α},l[j]? =some x->j<old.length->(l.take j++old.drop j).set j x=l.take (j+1)++old.drop (j+1)
 | [],_,j,x,h,_=>by simp at h
 |a::l,[],j,x,_,h=>by simp at h
 |a::l,b::old,0,x,h,_=>by
  have:a=x:=by simpa using h
  subst this;rfl
 |a::l,b::old,j+1,x,h,hl=>by
  have:=zl (l:=l) (old:=old) (j:=j) (x:=x) (by simpa using h) (by simpa using hl);simp only[alK,ahb,aiK,alW];rw[this]
section
variable{TI TO:afd}{cs:List ug}{old xs:List afg}
theorem JN.tz(D:JN z TI TO cs):TO≠z/\TI≠z/\TI≠TO/\∀c∈cs,c.it≠z/\c.it≠TI/\c.it≠TO:=by
 have h:=D.nd;simp only[afG,afx,akv]at h;obtain⟨⟨h1,h2,h3⟩,⟨h4,h5⟩,h6,h7⟩:=h;refine⟨fun e=>h2 e.symm,fun e=>h1 e.symm,h4,fun c hc=>⟨fun e=>h3 (by rw[<-e];exact afJ.mpr ⟨c,hc,rfl⟩),fun e=>h5 (by rw[<-e];exact afJ.mpr ⟨c,hc,rfl⟩),fun e=>h6 (by rw[<-e];exact afJ.mpr ⟨c,hc,rfl⟩)⟩⟩
theorem JN.ij(D:JN z TI TO cs){a b:Nat}{c c':ug}(ha:cs[a]? =some c)(hb:cs[b]? =some c')(hab:a≠b):c.it≠c'.it:=by
 have h:=D.nd;simp only[afG]at h;have h7:=h.2.2.2;exact fun e=>hab (nodup_ix2 h7 (by rw[afy,ha];rfl) (by rw[afy,hb];exact congrArg some e.symm))
where
 nodup_ix2 {N:List afd} (hN:N.Nodup) {i j:Nat} {x:afd} (a:N[i]? =some x) (b:N[j]? =some x):i=j:=by
  obtain⟨h1,e1⟩:=aff.mp a;obtain⟨h2,e2⟩:=aff.mp b;exact(ajq hN).mp (e1.trans e2.symm)
structure QR(h0:agg)(z TI TO:afd)(cs:List ug)(old xs:List afg)(i j:Nat)(h:agg):Prop where
 zp:akJ h z TI TO .ellipsis
 tp:i5 h TO (xs.take j++old.drop j)
 lo:∀m c,m<j->cs[m]? =some c->c.At h (i+1)
 hi:∀m c,j<=m->cs[m]? =some c->c.At h i
 kp:∀b o,b≠z->b≠TO->(∀c∈cs,b≠c.it)->h0.get? b=some o->h.get? b=some o
 sz:h.objs.size=h0.objs.size
theorem Fo(D:JN z TI TO cs)(gh:cs≠ [])(wx:cs.length<=100)(hz:akJ s.heap z TI TO .none)(yy:i5 s.heap TI (cs.map fun c=>af1 c.it))(zN:i5 s.heap TO old)(DR:old.length=cs.length)(Uo:xs.length=cs.length)
  (r9:∀c∈cs,c.At s.heap i) (hx:∀(m:Nat) (c:ug),cs[m]? =some c->∃x,xs[m]? =some x/\c.items[i]? =some x)
  (hQ:∀h',akJ h' z TI TO (rawInt s.heap.objs.size)->(∃AD,AD.length=cs.length/\i5 h' TO AD)->(∀c∈cs,c.At h' (i+1))->i5 h' s.heap.objs.size xs->
   (∀b o,b≠z->b≠TO->(∀c∈cs,b≠c.it)->s.heap.get? b=some o->h'.get? b=some o)->Q (.ref s.heap.objs.size) {s with heap:=h'}):
  wpAny (model P w) A (aj3.«zip.__next__» ⟨[.ref z],[]⟩) (fun fin s'=>∃v,fin= .done (.ret v)/\Q v s') E s:=by
 obtain⟨t1,t2,t3,t4⟩:=D.tz;refine afi (m:=field (.ref z) 2) (agX hz rfl (x:= .bool false) rfl ?_);refine afi (m:=field (.ref z) 3) (agX hz rfl (x:= .ref TI) rfl ?_);refine afi (ahr yy rfl ?_);have Wj:¬((cs.map fun c=>af1 c.it).toArray.isEmpty=true):=by
  cases cs with
  |nil=>exact absurd rfl gh
  |cons c r=>simp
 show wpAny _ _ (if(cs.map fun c=>af1 c.it).toArray.isEmpty=true then _ else _) _ _ _;rw[afe Wj];refine afi (m:=agJ (.ref z)) ?_;unfold agJ;refine afi (agX hz rfl (x:= .none) rfl (afZ ?_));simp only[aj0];refine afi (ak0 (afi (agX hz rfl (x:= .ref TO) rfl ?_)));refine afi (ag0 hz (by simp) fun h1 z1 CT=> ?_);have m0:QR s.heap z TI TO cs old xs i 0 h1:=by
  refine⟨z1,by rw[ahA,agV,ahX];exact CT.extBut _ _ t1 zN,fun m c hm=>absurd hm (aim m),fun m c _ hc=> ?_,fun b o hb _ _ e=>CT.extBut b o hb e,CT.1⟩;have hm:=afq hc;exact(r9 c hm).keep (fun o e=>CT.extBut _ o (t4 c hm).1 e) fun o e=>CT.extBut _ o (D.sr c hm).1 e
 refine afi (tY (fun j b s'=>b=(none,())/\∃h,s'={s with heap:=h}/\QR s.heap z TI TO cs old xs i j h) _ 0 _ _ ⟨rfl,h1,rfl,m0⟩ ?_ ?_)
 .rintro j ⟨it,k⟩ b s' hj ⟨rfl,h,rfl,M⟩;rw[aik]at M;obtain⟨c,hc,rfl,rfl⟩:∃c,cs[j]? =some c/\it=af1 c.it/\k=j:=by
   rw[aiC]at hj;cases q:cs[j]? with
   |none=>
    simp[q]at hj
   |some c=>
    simp[q]at hj;exact⟨c,rfl,hj.1.symm,hj.2.symm⟩
  have hm:=afq hc;obtain⟨x,hxj,Sf⟩:=hx k c hc;have hkl:k<cs.length:=(aff.mp hc).1;refine afi (wpAny_onRaise ?_);show wpAny _ _ (agO (.ref c.it)>>=_) _ _ _;refine afi (ug.item (M.hi k c (afp _) hc) Sf fun h2 a2 ET=>afZ ?_);have P5:i5 h2 TO (xs.take k++old.drop k):=(show agm c.it h h2 from ET).extBut _ _ (agW (t4 c hm).2.2) M.tp;refine afi (ahr P5 rfl ?_);have sl:(xs.take k++old.drop k).length<=200:=by rw[afc,afY,agr];omega
  have s1:(xs.take k++old.drop k).toArray.size<=sizeLine:=by rw[afL];exact afw sl (by decide)
  have s2:((xs.take k++old.drop k).toArray.setIfInBounds k x).size<=sizeLine+1:=by rw[akA];exact afM s1
  refine afi (ain (hz:=s1) (_hz':=s2) P5 rfl (afi (ai3 (afZ ⟨rfl,_,rfl,?_⟩))));have up:∀b o,b≠TO->h2.get? b=some o->(h2.update TO (ahl fun y=>y.setIfInBounds k x)).get? b=some o:=fun b o hb e=>(agS h2 _ (agW hb)).trans e
  have dn:∀b o,b≠c.it->h.get? b=some o->h2.get? b=some o:=fun b o hb e=>(show agm c.it h h2 from ET).extBut b o hb e
  have Cc:(h2.update TO (ahl fun y=>y.setIfInBounds k x)).objs.size=s.heap.objs.size:=by
   have e1:(h2.update TO (ahl fun y=>y.setIfInBounds k x)).objs.size=h2.objs.size:=(ajZ h2 TO (ahl fun y=>y.setIfInBounds k x)).1;rw[e1,(show agm c.it h h2 from ET).1,M.sz]
  rw[aik];refine⟨up _ _ (agW t1) (dn _ _ (agW (t4 c hm).1) M.zp),?_,fun m c' iF ow=> ?_,fun m c' hge ow=> ?_,fun b o h3 h4 h5 e=>up b o h4 (dn b o (h5 c hm) (M.kp b o h3 h4 h5 e)),Cc⟩
  .rw[<-zl hxj (by omega)];show(h2.update TO (ahl fun y=>y.setIfInBounds k x)).get? TO=_;rw[ahs _ P5 rfl];simp[ahl]
  .have uc:=afq ow;by_cases q:m=k
   .subst q;rw[hc]at ow;cases ow;exact a2.keep (fun o e=>up _ o (t4 c hm).2.2 e) fun o e=>up _ o (D.sr c hm).2.1 e
   .exact(M.lo m c' (by omega) ow).keep (fun o e=>up _ o (t4 c' uc).2.2 (dn _ o (D.ij ow hc q) e)) fun o e=>up _ o (D.sr c' uc).2.1 (dn _ o ((D.sr c' uc).2.2 c hm) e)
  .have uc:=afq ow;exact(M.hi m c' (by omega) ow).keep (fun o e=>up _ o (t4 c' uc).2.2 (dn _ o (D.ij ow hc (by omega)) e)) fun o e=>up _ o (D.sr c' uc).2.1 (dn _ o ((D.sr c' uc).2.2 c hm) e)
 .rintro b s' ⟨rfl,h,rfl,M⟩;have bY:((cs.map fun c=>af1 c.it).toArray.toList.zipIdx).length=cs.length:=by simp
  rw[bY,aik]at M;have tp:=M.tp;rw[agw (by omega),agt (by omega),af7]at tp;show wpAny _ _ (seqItems? (.ref TO)>>=_) _ _ _;refine afi (ahr tp rfl ?_);have sx:xs.toArray.toList.length<=sizeLine:=by show xs.length<=sizeLine;rw[Uo];exact afw wx (by decide)
  refine afi (wpAny_newTuple (hsz:=sx) ?_);have zlt:z<h.objs.size:=afV M.zp;have z3:akJ (h.push {cls:= .type "tuple",data:= .seq xs.toArray}) z TI TO .ellipsis:=afm _ M.zp;refine afi (m:=ahe (.ref z) _) ?_;unfold ahe;refine afi (ag0 z3 (by simp) fun h4 z4 Z5=> ?_);have z4':akJ h4 z TI TO (rawInt h.objs.size):=z4;refine ag0 z4' (by simp) fun h5 z5 UD=> ?_
  have z5':akJ h5 z TI TO (rawInt h.objs.size):=z5;rw[M.sz]at z5';have up:∀b o,b≠z->h.get? b=some o->h5.get? b=some o:=fun b o hb e=>(show agm z h4 h5 from UD).extBut b o hb ((show agm z _ h4 from Z5).extBut b o hb (afm _ e))
  have tn:i5 h5 s.heap.objs.size xs:=by
   rw[<-M.sz];exact(show agm z h4 h5 from UD).extBut _ _ (aii zlt) ((show agm z _ h4 from Z5).extBut _ _ (aii zlt) (afI _ rfl))
  refine afZ ⟨_,rfl,?_⟩;show Q (.ref h.objs.size) _;rw[M.sz];refine hQ h5 z5' ⟨xs,Uo,up _ _ t1 tp⟩ (fun c hc=> ?_) tn fun b o YM Kh Fp e=>up b o YM (M.kp b o YM Kh Fp e)
  obtain⟨m,hm⟩:=agc hc;exact(M.lo m c (aff.mp hm).1 hm).keep (fun o e=>up _ o (t4 c hc).1 e) fun o e=>up _ o (D.sr c hc).1 e
end
section
variable{TI TO:afd}{cs:List ug}{old xs:List afg}
structure X8(h0:agg)(z TI TO:afd)(cs:List ug)(i j:Nat)(h:agg):Prop where
 zp:akJ h z TI TO .ellipsis
 tp:∃vs,vs.length=cs.length/\i5 h TO vs
 hi:∀m c,j<=m->cs[m]? =some c->c.At h i
 no:∀(m:Nat) (c:ug),m<j->cs[m]? =some c->c.items[i]?≠none
 kp:∀b o,b≠z->b≠TO->(∀c∈cs,b≠c.it)->h0.get? b=some o->h.get? b=some o
theorem Jt{Q:Fin->afC->Prop}(hh:A.handled=none)(D:JN z TI TO cs)(wx:cs.length<=100)(hz:akJ s.heap z TI TO .none)(yy:i5 s.heap TI (cs.map fun c=>af1 c.it))(zN:i5 s.heap TO old)(DR:old.length=cs.length)
  (r9:∀c∈cs,c.At s.heap i) (hx:∃c∈cs,c.items[i]? =none)
  (hE:∀h' e,(∀b o,b≠z->b≠TO->(∀c∈cs,b≠c.it)->s.heap.get? b=some o->h'.get? b=some o)->(∃o,h'.get? e=some o/\o.cls= .type "StopIteration")->E (.ref e) {s with heap:=h'}):
  wpAny (model P w) A (aj3.«zip.__next__» ⟨[.ref z],[]⟩) Q E s:=by
 obtain⟨t1,t2,t3,t4⟩:=D.tz;refine afi (m:=field (.ref z) 2) (agX hz rfl (x:= .bool false) rfl ?_);refine afi (m:=field (.ref z) 3) (agX hz rfl (x:= .ref TI) rfl ?_);refine afi (ahr yy rfl ?_);have Wj:¬((cs.map fun c=>af1 c.it).toArray.isEmpty=true):=by
  cases cs with
  |nil=>obtain⟨c,hc,_⟩:=hx;exact nomatch hc
  |cons c r=>simp
 show wpAny _ _ (if(cs.map fun c=>af1 c.it).toArray.isEmpty=true then _ else _) _ _ _;rw[afe Wj];refine afi (m:=agJ (.ref z)) ?_;unfold agJ;refine afi (agX hz rfl (x:= .none) rfl (afZ ?_));simp only[aj0];refine afi (ak0 (afi (agX hz rfl (x:= .ref TO) rfl ?_)));refine afi (ag0 hz (by simp) fun h1 z1 CT=> ?_);have m0:X8 s.heap z TI TO cs i 0 h1:=by
  refine⟨z1,⟨old,DR,CT.extBut _ _ t1 zN⟩,fun m c _ hc=> ?_,fun m c hm=>absurd hm (aim m),fun b o hb _ _ e=>CT.extBut b o hb e⟩;have hm:=afq hc;exact(r9 c hm).keep (fun o e=>CT.extBut _ o (t4 c hm).1 e) fun o e=>CT.extBut _ o (D.sr c hm).1 e
 refine afi (tY (fun j b s'=>b=(none,())/\∃h,s'={s with heap:=h}/\X8 s.heap z TI TO cs i j h) _ 0 _ _ ⟨rfl,h1,rfl,m0⟩ ?_ ?_)
 .rintro j ⟨it,k⟩ b s' hj ⟨rfl,h,rfl,M⟩;rw[aik]at M;obtain⟨c,hc,rfl,rfl⟩:∃c,cs[j]? =some c/\it=af1 c.it/\k=j:=by
   rw[aiC]at hj;cases q:cs[j]? with
   |none=>simp[q]at hj
   |some c=>
    simp[q]at hj;exact⟨c,rfl,hj.1.symm,hj.2.symm⟩
  have hm:=afq hc;have hkl:k<cs.length:=(aff.mp hc).1;obtain⟨vs,Ky,tpv⟩:=M.tp;refine afi (wpAny_onRaise ?_);show wpAny _ _ (agO (.ref c.it)>>=_) _ _ _;cases Sf:c.items[i]? with
  |none=>
   refine afi (ug.fin hh (M.hi k c (afp _) hc) Sf fun h2 e ET he=> ?_);obtain⟨oe,WI,Ua⟩:=he;have z2:akJ h2 z TI TO .ellipsis:=ET _ _ (agW (t4 c hm).1) M.zp;have hez:e≠z:=fun q=>by subst q;rw[z2]at WI;cases WI;simp at Ua
   exact ag0 z2 (by simp) fun h3 _ NM=>hE h3 e (fun b o b1 b2 b3 q=>(show agm z h2 h3 from NM).extBut _ _ b1 (ET _ _ (b3 c hm) (M.kp b o b1 b2 b3 q))) ⟨oe,(show agm z h2 h3 from NM).extBut _ _ hez WI,Ua⟩
  |some x=>
   refine afi (ug.item (M.hi k c (afp _) hc) Sf fun h2 a2 ET=>afZ ?_);have P5:i5 h2 TO vs:=(show agm c.it h h2 from ET).extBut _ _ (agW (t4 c hm).2.2) tpv;have s1:vs.toArray.size<=sizeLine:=by rw[afL,Ky];exact afw wx (by decide)
   have s2:(vs.toArray.setIfInBounds k x).size<=sizeLine+1:=by rw[akA];exact afM s1
   refine afi (ahr P5 rfl ?_);refine afi (ain (hz:=s1) (_hz':=s2) P5 rfl (afi (ai3 (afZ ⟨rfl,_,rfl,?_⟩))));have up:∀b o,b≠TO->h2.get? b=some o->(h2.update TO (ahl fun y=>y.setIfInBounds k x)).get? b=some o:=fun b o hb e=>(agS h2 _ (agW hb)).trans e
   have dn:∀b o,b≠c.it->h.get? b=some o->h2.get? b=some o:=fun b o hb e=>(show agm c.it h h2 from ET).extBut b o hb e
   rw[aik];refine⟨up _ _ (agW t1) (dn _ _ (agW (t4 c hm).1) M.zp),⟨vs.set k x,by rw[ak5];exact Ky,?_⟩,fun m c' hge ow=> ?_,fun m c' iF ow=> ?_,fun b o h3 h4 h5 e=>up b o h4 (dn b o (h5 c hm) (M.kp b o h3 h4 h5 e))⟩
   .show(h2.update TO (ahl fun y=>y.setIfInBounds k x)).get? TO=_;rw[ahs _ P5 rfl];simp[ahl]
   .have uc:=afq ow;exact(M.hi m c' (by omega) ow).keep (fun o e=>up _ o (t4 c' uc).2.2 (dn _ o (D.ij ow hc (by omega)) e)) fun o e=>up _ o (D.sr c' uc).2.1 (dn _ o ((D.sr c' uc).2.2 c hm) e)
   .by_cases q:m=k
    .subst q;rw[hc]at ow;cases ow;rw[Sf];exact fun q=>nomatch q
    .exact M.no m c' (by omega) ow
 .rintro b s' ⟨rfl,h,rfl,M⟩;have bY:((cs.map fun c=>af1 c.it).toArray.toList.zipIdx).length=cs.length:=by simp
  rw[bY,aik]at M;obtain⟨c,hc,hn⟩:=hx;obtain⟨m,hm⟩:=agc hc;exact absurd hn (M.no m c (aff.mp hm).1 hm)
theorem Ed{Q:Option afg->afC->Prop}(D:JN z TI TO cs)(gh:cs≠ [])(wx:cs.length<=100)(hz:akJ s.heap z TI TO .none)(yy:i5 s.heap TI (cs.map fun c=>af1 c.it))(zN:i5 s.heap TO old)(DR:old.length=cs.length)(Uo:xs.length=cs.length)
  (r9:∀c∈cs,c.At s.heap i) (hx:∀(m:Nat) (c:ug),cs[m]? =some c->∃x,xs[m]? =some x/\c.items[i]? =some x)
  (hQ:∀h',akJ h' z TI TO (rawInt s.heap.objs.size)->(∃AD,AD.length=cs.length/\i5 h' TO AD)->(∀c∈cs,c.At h' (i+1))->i5 h' s.heap.objs.size xs->
   (∀b o,b≠z->b≠TO->(∀c∈cs,b≠c.it)->s.heap.get? b=some o->h'.get? b=some o)->Q (some (.ref s.heap.objs.size)) {s with heap:=h'}):wpAny (model P w) A (pyNext (.ref z)) Q E s:=by
 have hT:s.TypeIs (.ref z) "zip":=⟨_,hz,rfl⟩;unfold pyNext;exact afi (akz (wpAny_callSpecial?_slot (name:=agF "__next__") hT ajR (aib ajR hT ams
  (Fo D gh wx hz yy zN DR Uo r9 hx fun h' a1 a2 a3 a4 a5=>afZ (hQ h' a1 a2 a3 a4 a5)) (amf _))))
theorem Gv{Q:Option afg->afC->Prop}(hh:A.handled=none)(D:JN z TI TO cs)(wx:cs.length<=100)(hz:akJ s.heap z TI TO .none)(yy:i5 s.heap TI (cs.map fun c=>af1 c.it))(zN:i5 s.heap TO old)(DR:old.length=cs.length)
  (r9:∀c∈cs,c.At s.heap i) (hx:∃c∈cs,c.items[i]? =none) (hQ:∀h',(∀b o,b≠z->b≠TO->(∀c∈cs,b≠c.it)->s.heap.get? b=some o->h'.get? b=some o)->Q none {s with heap:=h'}):wpAny (model P w) A (pyNext (.ref z)) Q E s:=by
 have hT:s.TypeIs (.ref z) "zip":=⟨_,hz,rfl⟩;unfold pyNext;refine afi (akz (wpAny_callSpecial?_slot (name:=agF "__next__") hT ajR (aib ajR hT ams
  (Jt hh D wx hz yy zN DR r9 hx fun h' e hk he=> ?_) (amf _))))
 obtain⟨o,ho,hc⟩:=he;exact afi (amr (T:="StopIteration") (b:=true) ⟨o,ho,hc⟩ isSubtype_stop (afZ (hQ _ hk)))
end
abbrev uf:=Bool×afd
def Mn(K:afW)(H:Hp)(p:uf)(xs:List V):Prop:=(p.1=true/\gF K H p.2 xs)\/(p.1=false/\aJ K H p.2 xs)
def jf(h:agg)(a:afd):Array afg:=match h.get? a with
 |some o=>(match o.data with| .seq aR _=>aR|_=> #[])
 |none=> #[]
def jS(h:agg)(p:uf)(it:afd)(i:Nat):Prop:=(p.1=true/\h.IsTupleIter it p.2 i)\/(p.1=false/\h.IsListIter it p.2 i)
theorem jS.keep{p:uf}(x:jS h p it i)(k:∀o,h.get? it=some o->h'.get? it=some o):jS h' p it i:=by
 rcases x with⟨a,⟨o,ho,r⟩⟩|⟨a,⟨o,ho,r⟩⟩
 .exact .inl ⟨a,o,k o ho,r⟩
 .exact .inr ⟨a,o,k o ho,r⟩
theorem jS.obj{p:uf}(x:jS h p it i):∃o,h.get? it=some o/\∀v,o.data≠ .cell v:=by
 rcases x with⟨_,⟨o,ho,_,hd⟩⟩|⟨_,⟨o,ho,_,hd⟩⟩
 .exact⟨o,ho,fun v q=>by rw[hd]at q;cases q⟩
 .exact⟨o,ho,fun v q=>by rw[hd]at q;cases q⟩
def iN(h:agg)(q:uf×afd):ug:=⟨q.2,q.1.2,q.1.1,jf h q.1.2⟩
theorem Mn.cG{p:uf}(I:bb X pins σ H s)(h:Mn X.K H p xs):∃aR:List afg,bo xs aR/\jf s.heap p.2=aR.toArray/\((p.1=true/\s.heap.IsTuple p.2 aR.toArray)\/(p.1=false/\s.heap.IsList p.2 aR.toArray)):=by
 rcases h with⟨e,h⟩|⟨e,h⟩
 .obtain⟨aR,rv,⟨o,ho,hc,n,hd⟩,_⟩:=I.tuple h;refine⟨aR,rv,?_,.inl ⟨e,o,ho,hc,n,hd⟩⟩;unfold jf;rw[ho];simp only[hd]
 .obtain⟨aR,rv,hl,_⟩:=I.list h;obtain⟨o,n,ho,hc,hdn,hd⟩:=id hl;refine⟨aR,rv,?_,.inr ⟨e,hl.isList⟩⟩;unfold jf;rw[ho];simp only[hd]
theorem Ji{p:uf}(I:bb X pins σ H s)(h:Mn X.K H p xs)(ia:jS s.heap p it i)(gh:it≠p.2):(iN s.heap (p,it)).At s.heap i:=by
 obtain⟨aR,rv,e,k⟩:=h.cG I;refine⟨gh,?_⟩;rcases k with⟨e1,k⟩|⟨e1,k⟩
 .rcases ia with⟨e2,ia⟩|⟨e2,ia⟩
  .refine .inl ⟨e1,ia,?_⟩;show s.heap.IsTuple p.2 (jf s.heap p.2);rw[e];exact k
  .rw[e1]at e2;cases e2
 .rcases ia with⟨e2,ia⟩|⟨e2,ia⟩
  .rw[e1]at e2;cases e2
  .refine .inr ⟨e1,ia,?_⟩;show s.heap.IsList p.2 (jf s.heap p.2);rw[e];exact k
def vR(K:afW)(ps:List uf):It:=
 ⟨fun i H=>∀p∈ps,∃(xs:List V) (x:V),Mn K H p xs/\xs[i]? =some x,
  fun i H v H'=>∃(T:afd) (vs:List V),v= .ref T/\H T=none/\H'=aE H T (.dY vs)/\vs.length=ps.length/\∀(m:Nat) (p:uf),ps[m]? =some p->∀xs,Mn K H p xs->∃x,xs[i]? =some x/\vs[m]? =some x,
  fun i H=>(∀p∈ps,∃xs:List V,Mn K H p xs)/\∃p∈ps,∃xs:List V,Mn K H p xs/\xs.length<=i⟩
structure QS(z TI TO:afd)(ps:List uf)(aR:List afd):Prop where
 len:aR.length=ps.length
 nd:(z::TI::TO::aR).Nodup
 sr:∀p∈ps,∀b∈z::TI::TO::aR,p.2≠b
 ne:ps≠ []
 Gz:ps.length<=100
theorem ub{ps:List uf}{aR:List afd}(hl:aR.length=ps.length){m:Nat}{q:uf×afd}:(ps.zip aR)[m]? =some q↔ps[m]? =some q.1/\aR[m]? =some q.2:=by
 rw[akj]
theorem xS{ps:List uf}{aR:List afd}(hl:aR.length=ps.length):(ps.zip aR).map (·.2)=aR:=by
 rw[<-List.unzip_snd,List.unzip_zip hl.symm]
theorem QS.ap{TI TO:afd}{ps:List uf}{aR:List afd}(D:QS z TI TO ps aR)(h:agg):JN z TI TO ((ps.zip aR).map (iN h)):=by
 have e:((ps.zip aR).map (iN h)).map (·.it)=aR:=by
  rw[ag6];exact xS D.len
 refine⟨by rw[e];exact D.nd,fun c hc=> ?_⟩;obtain⟨q,hq,rfl⟩:=afJ.mp hc;have hp:q.1∈ps:=(ah3 hq).1;refine⟨D.sr _ hp _ (by simp),D.sr _ hp _ (by simp),fun c' ow=> ?_⟩;obtain⟨q',Ce,rfl⟩:=afJ.mp ow;exact D.sr _ hp _ (afu _ (afu _ (afu _ (ah3 Ce).2)))
theorem vL{TI TO:afd}{ps:List uf}{aR:List afd}(D:QS z TI TO ps aR):
  uh P w K (.Tuple js kk jc) (vR K ps) (z::TI::TO::aR) z (fun i h=>akJ h z TI TO .none/\i5 h TI (aR.map af1)/\(∃old,old.length=ps.length/\i5 h TO old)/\∀(m:Nat) (p:uf) (it:afd),ps[m]? =some p->aR[m]? =some it->jS h p it i)where
 mem:=by simp
 obj:=fun i h st b hb=>by
  obtain⟨hz,yy,⟨old,DR,zN⟩,mr⟩:=st;rcases afx.mp hb with e|hb
  .rw[e];exact⟨_,hz,fun v q=>nomatch q⟩
  .rcases afx.mp hb with e|hb
   .rw[e];exact⟨_,yy,fun v q=>nomatch q⟩
   .rcases afx.mp hb with e|hb
    .rw[e];exact⟨_,zN,fun v q=>nomatch q⟩
    .obtain⟨m,hm⟩:=agc hb;have M9:m<ps.length:=by rw[<-D.len];exact(aff.mp hm).1
     exact(mr m ps[m] b (afk M9) hm).obj
 keep:=fun i h h' st k=>by
  obtain⟨hz,yy,⟨old,DR,zN⟩,mr⟩:=st;exact⟨k z (by simp) _ hz,k TI (by simp) _ yy,⟨old,DR,k TO (by simp) _ zN⟩,fun m p it hp hi=>(mr m p it hp hi).keep fun o e=>k it (by simp[afq hi]) o e⟩
 item:=by
  intro X hP hw hK hc i pins s σ H E I hf st hg;subst hP hw hK;obtain⟨hz,yy,⟨old,DR,zN⟩,mr⟩:=st;have MX:=D.ap s.heap;have GP:((ps.zip aR).map (iN s.heap)).length=ps.length:=by rw[afb,ak7,D.len];omega
  have gh:(ps.zip aR).map (iN s.heap)≠ []:=fun e=>by
   rw[e]at GP;exact D.ne (List.length_eq_zero_iff.mp GP.symm)
  have Ou:i5 s.heap TI (((ps.zip aR).map (iN s.heap)).map fun c=>af1 c.it):=by
   rw[ag6];rw[show((fun c:ug=>af1 c.it)∘iN s.heap)=(fun q:uf×afd=>af1 q.2)from rfl,show((ps.zip aR).map fun q=>af1 q.2)=((ps.zip aR).map (·.2)).map af1 from by rw[ag6];rfl,xS D.len];exact yy
  have r9:∀c∈(ps.zip aR).map (iN s.heap),c.At s.heap i:=fun c hc=>by
   obtain⟨q,hq,rfl⟩:=afJ.mp hc;obtain⟨m,hm⟩:=agc hq;obtain⟨h1,h2⟩:=(ub D.len).mp hm;obtain⟨xs,x,hs,_⟩:=hg q.1 (afq h1);exact Ji I hs (mr m q.1 q.2 h1 h2) (fun e=>D.sr q.1 (afq h1) q.2 (by simp[afq h2]) e.symm)
  have key:∀(l:List uf),(∀p∈l,p∈ps)->∃(vs:List V) (us:List afg),vs.length=l.length/\us.length=l.length/\bo vs us/\∀(m:Nat) (p:uf),l[m]? =some p->∃x u,vs[m]? =some x/\us[m]? =some u/\(jf s.heap p.2)[i]? =some u/\∀xs,Mn X.K H p xs->xs[i]? =some x:=by
   intro l
   induction l with
   |nil=>intro _;exact⟨[],[],rfl,rfl,.nil,fun m p h=>by simp at h⟩
   |cons p l ih=>
    intro hl;obtain⟨vs,us,l1,l2,rv,hk⟩:=ih fun q hq=>hl q (afu _ hq)
    obtain⟨xs,x,hs,hx⟩:=hg p (hl p af5);obtain⟨iv,rv2,e,_⟩:=hs.cG I;obtain⟨u,hu,ru⟩:=rv2.get hx;refine⟨x::vs,u::us,by rw[afr,afr,l1],by rw[afr,afr,l2],.cons ru rv,fun m q hm=> ?_⟩;cases m with
    |zero=>
     have:p=q:=by simpa using hm
     subst this;refine⟨x,u,rfl,rfl,by rw[e];simpa using hu,fun ys hy=> ?_⟩;have:ys=xs:=by
      rcases hs with⟨e1,hs⟩|⟨e1,hs⟩
      .rcases hy with⟨e2,hy⟩|⟨e2,hy⟩
       .exact I.vK hy hs
       .rw[e1]at e2;cases e2
      .rcases hy with⟨e2,hy⟩|⟨e2,hy⟩
       .rw[e1]at e2;cases e2
       .exact I.oA hy hs
     rw[this];exact hx
    |succ m=>
     obtain⟨x',u',h1,h2,h3,h4⟩:=hk m q (by simpa using hm);exact⟨x',u',by simpa using h1,by simpa using h2,h3,h4⟩
  obtain⟨vs,us,l1,l2,rv,hk⟩:=key ps fun p hp=>hp
  have WZ:z<s.heap.objs.size:=afV hz;refine Ed (xs:=us) MX gh (by rw[GP];exact D.Gz) hz Ou zN (by rw[GP];exact DR) (by rw[GP];exact l2) r9 (fun m c uk=> ?_) fun h' z' TO' at' hT Zj=> ?_
  .rw[afy]at uk;cases q:(ps.zip aR)[m]? with
   |none=>rw[q]at uk;cases uk
   |some y=>
    rw[q]at uk;cases uk;obtain⟨x,u,_,h2,h3,_⟩:=hk m y.1 ((ub D.len).mp q).1;exact⟨u,h2,h3⟩
  .refine⟨_,rfl,wpAny_letOwnedTupleGo_zip (s:={s with heap:=h'}) z' fun B7 z'' sb=> ?_⟩;have RC:B7.get? s.heap.objs.size=some {cls:= .type "tuple",data:= .seq us.toArray}:=(sb.2 _ (aii WZ)).trans hT;have Ky:vs.length<=sizeLine:=by rw[l1];exact afw D.Gz (by decide)
   have new:eP X.prog X.w (aE H s.heap.objs.size (.dY vs)) B7 s.heap.objs.size (.dY vs):=⟨Ky,us,rv,⟨_,RC,rfl,_,rfl⟩⟩;have RY:∀b o,b∉z::TI::TO::aR->s.heap.get? b=some o->B7.get? b=some o:=fun b o hb e=>by
    refine(sb.2 b (fun q=>hb (by simp[q]))).trans (Zj b o (fun q=>hb (by simp[q])) (fun q=>hb (by simp[q])) (fun c uk q=>hb ?_) e);obtain⟨y,hy,rfl⟩:=afJ.mp uk;rw[q];exact afu _ (afu _ (afu _ (ah3 hy).2))
   have I1:bb X pins σ (aE H s.heap.objs.size (.dY vs)) {s with heap:=B7}:=I.pY (t':=s.toks) (ch:=z::TI::TO::aR) RY hf (afp _) new;obtain⟨t1,t2,t3,t4⟩:=MX.tz;obtain⟨AD,ol',V8⟩:=TO';refine⟨.ref s.heap.objs.size,_,I1,rfl,⟨_,vs,rfl,I.dc.fresh (afp _),rfl,l1,fun m p hp xs hxs=> ?_⟩,⟨z'',?_,⟨AD,by rw[<-GP];exact ol',(sb.2 _ t1).trans V8⟩,fun m p it hp hi=> ?_⟩,fun b hb=> ?_⟩
   .obtain⟨x,u,h1,_,_,h4⟩:=hk m p hp;exact⟨x,h4 xs hxs,h1⟩
   .refine(sb.2 _ t2).trans (Zj _ _ t2 t3 (fun c uk q=> ?_) yy);exact(t4 c uk).2.1 q.symm
   .have uk:iN s.heap (p,it)∈(ps.zip aR).map (iN s.heap):=afJ.mpr ⟨(p,it),afq ((ub D.len).mpr ⟨hp,hi⟩),rfl⟩;have a:=at' _ uk;have kk:∀o,h'.get? it=some o->B7.get? it=some o:=fun o e=>(sb.2 it (t4 _ uk).1).trans e
    rcases a with⟨_,⟨e1,a,_⟩|⟨e1,a,_⟩⟩
    .exact jS.keep (.inl ⟨e1,a⟩) kk
    .exact jS.keep (.inr ⟨e1,a⟩) kk
   .have yz:b<s.heap.objs.size:=by
     have hob:∃o,s.heap.get? b=some o:=by
      rcases afx.mp hb with e|hb
      .rw[e];exact⟨_,hz⟩
      .rcases afx.mp hb with e|hb
       .rw[e];exact⟨_,yy⟩
       .rcases afx.mp hb with e|hb
        .rw[e];exact⟨_,zN⟩
        .obtain⟨m,hm⟩:=agc hb;have M9:m<ps.length:=by rw[<-D.len];exact(aff.mp hm).1
         obtain⟨o,ho,_⟩:=(mr m ps[m] b (afk M9) hm).obj;exact⟨o,ho⟩
     obtain⟨o,ho⟩:=hob;exact afV ho
    rw[ao (agy yz)];exact(hf b hb).1
 done:=by
  intro X hP hw hK hc i pins s σ H E I hf st hg;subst hP hw hK;obtain⟨hz,yy,⟨old,DR,zN⟩,mr⟩:=st;obtain⟨gI,p0,Qw,xs0,Zv,Zz⟩:=hg;have MX:=D.ap s.heap;have GP:((ps.zip aR).map (iN s.heap)).length=ps.length:=by rw[afb,ak7,D.len];omega
  have Ou:i5 s.heap TI (((ps.zip aR).map (iN s.heap)).map fun c=>af1 c.it):=by
   rw[ag6];rw[show((fun c:ug=>af1 c.it)∘iN s.heap)=(fun q:uf×afd=>af1 q.2)from rfl,show((ps.zip aR).map fun q=>af1 q.2)=((ps.zip aR).map (·.2)).map af1 from by rw[ag6];rfl,xS D.len];exact yy
  have r9:∀c∈(ps.zip aR).map (iN s.heap),c.At s.heap i:=fun c hc=>by
   obtain⟨q,hq,rfl⟩:=afJ.mp hc;obtain⟨m,hm⟩:=agc hq;obtain⟨h1,h2⟩:=(ub D.len).mp hm;obtain⟨xs,hs⟩:=gI q.1 (afq h1);exact Ji I hs (mr m q.1 q.2 h1 h2) (fun e=>D.sr q.1 (afq h1) q.2 (by simp[afq h2]) e.symm)
  have Wk:∃c∈(ps.zip aR).map (iN s.heap),c.items[i]? =none:=by
   obtain⟨m,hm⟩:=agc Qw;have M9:m<aR.length:=by rw[D.len];exact(aff.mp hm).1
   refine⟨iN s.heap (p0,aR[m]),afJ.mpr ⟨(p0,aR[m]),afq ((ub D.len).mpr ⟨hm,afk M9⟩),rfl⟩,?_⟩;obtain⟨iv,rv,e,_⟩:=Zv.cG I;show(jf s.heap p0.2)[i]? =none;rw[e];have:=rv.length;simp;omega
  refine Gv (I.ok.hd hc) MX (by rw[GP];exact D.Gz) hz Ou zN (by rw[GP];exact DR) r9 Wk fun h' hk=>⟨rfl,I.Mi (t':=s.toks) (ch:=z::TI::TO::aR) (fun b o hb e=>hk b o (fun q=>hb (by simp[q])) (fun q=>hb (by simp[q])) (fun c uk q=>hb ?_) e) hf⟩
  obtain⟨y,hy,rfl⟩:=afJ.mp uk;rw[q];exact afu _ (afu _ (afu _ (ah3 hy).2))
 self:=fun A i s Q E st h=>akK st.1 h
abbrev uu(l:afd):Obj:={cls:= .type "list_iterator",data:= .fields #[.ref l,.int 0 0]}
abbrev KC(l:afd):Obj:={cls:= .type "tuple_iterator",data:= .fields #[.ref l,.int 0 0]}
abbrev xT(h:agg)(nk:List afg)(TI TO:afd):agg:=((h.push {cls:= .type "tuple",data:= .seq nk.toArray}).push {cls:= .type "tuple",data:= .seq (nk.map fun _=>ahS).toArray}).push {cls:= .type "zip",data:= .fields #[.none,.bool false,.bool false,.ref TI,.ref TO]}
theorem JY(a b c:afg):checkTypeCall "zip" ⟨[a,b,c],[]⟩=pure ():=by kernel_rfl
theorem J0(a b c:afg):checkBuiltinCall "zip.__new__" ⟨[.type "zip",a,b,c],[]⟩=pure ():=by kernel_rfl
theorem JW(o a b c:afg):argsOk "object.__init__" ⟨[o,a,b,c],[]⟩:=by
 unfold argsOk;rw[signature?_of (id:="object.__init__") (n:=['_','_','t','i','n','i','_','_']) (o:=['t','c','e','j','b','o']) (by kernel_rfl) amT];kernel_rfl
abbrev Ki(h:agg)(a b c:afd):agg:=((h.push (uu a)).push (uu b)).push (uu c)
theorem Hf(a b c:afd)(xs ys zs:Array afg):
  Meets (aj3.«zip.__new__» ⟨[.type "zip",.ref a,.ref b,.ref c],[]⟩) (fun _ R s=>s.heap.IsList a xs/\s.heap.IsList b ys/\s.heap.IsList c zs/\
   R (.ok (.ret (.ref (s.heap.objs.size+5)))) {s with heap:=xT (Ki s.heap a b c) [.ref s.heap.objs.size,.ref (s.heap.objs.size+1),.ref (s.heap.objs.size+2)] (s.heap.objs.size+3) (s.heap.objs.size+4)}):=
 .of_wp fun prog w A R s h=>by
  obtain⟨hp,g,d,tk,os⟩:=s;obtain⟨h1,h2,h3,h⟩:=h;have OG:=sub_zip;have k1:akp (ajI ⟨hp,g,d,tk,os⟩) a xs:=h1;have k2:akp (ajI ⟨hp.push (uu a),g,d,tk,os⟩) b ys:=amt h2 _;have k3:akp (ajI ⟨(hp.push (uu a)).push (uu b),g,d,tk,os⟩) c zs:=(amt h3 _).push _
  wp_walk using ahq k1,ahq k2,ahq k3
  refine⟨_,rfl,?_⟩;simp only[agh];exact h
theorem JX(a b:afg):checkTypeCall "zip" ⟨[a,b],[]⟩=pure ():=by kernel_rfl
theorem JZ(a b:afg):checkBuiltinCall "zip.__new__" ⟨[.type "zip",a,b],[]⟩=pure ():=by kernel_rfl
theorem Ec(a b:afd)(xs ys:Array afg):
  Meets (aj3.«zip.__new__» ⟨[.type "zip",.ref a,.ref b],[]⟩) (fun _ R s=>s.heap.IsList a xs/\s.heap.IsTuple b ys/\
   R (.ok (.ret (.ref (s.heap.objs.size+4)))) {s with heap:=xT ((s.heap.push (uu a)).push (KC b)) [.ref s.heap.objs.size,.ref (s.heap.objs.size+1)] (s.heap.objs.size+2) (s.heap.objs.size+3)}):=
 .of_wp fun prog w A R s h=>by
  obtain⟨hp,g,d,tk,os⟩:=s;obtain⟨h1,h2,h⟩:=h;have OG:=sub_zip;have k1:akp (ajI ⟨hp,g,d,tk,os⟩) a xs:=h1;have k2:Heap.IsTuple (ajI ⟨hp.push (uu a),g,d,tk,os⟩) b ys:=an5 h2 _
  wp_walk using ahq k1,alP k2
  refine⟨_,rfl,?_⟩;simp only[agh];exact h
theorem Dj(h:agg)(nk:List afg)(TI TO z n:afd)(hn:h.objs.size=n)(e1:TI=n)(e2:TO=n+1)(e3:z=n+2):akJ (xT h nk TI TO) z TI TO .none/\i5 (xT h nk TI TO) TI nk/\i5 (xT h nk TI TO) TO (nk.map fun _=>ahS):=by
 subst e1 e2 e3;subst hn;have z1:(h.push {cls:= .type "tuple",data:= .seq nk.toArray}).objs.size=h.objs.size+1:=agh ..;have z2:((h.push {cls:= .type "tuple",data:= .seq nk.toArray}).push {cls:= .type "tuple",data:= .seq (nk.map fun _=>ahS).toArray}).objs.size=h.objs.size+2:=by rw[agh,z1]
 refine⟨?_,afm _ (afm _ (afI _ rfl)),?_⟩
 .show(xT h nk h.objs.size (h.objs.size+1)).get? (h.objs.size+2)=_;rw[<-z2];exact afI _ rfl
 .show(xT h nk h.objs.size (h.objs.size+1)).get? (h.objs.size+1)=_;rw[<-z1];exact afm _ (afI _ rfl)
theorem nP{nk:List afg}{TI TO:afd}{o:Obj}(e:h.get? b=some o):(xT h nk TI TO).get? b=some o:=afm _ (afm _ (afm _ e))
theorem DA{c:afd}{xs ys zs:Array afg}(h1:s.heap.IsList a xs)(h2:s.heap.IsList b ys)(h3:s.heap.IsList c zs)
  (h:Q (.ref (s.heap.objs.size+5)) {s with heap:=xT (Ki s.heap a b c) [.ref s.heap.objs.size,.ref (s.heap.objs.size+1),.ref (s.heap.objs.size+2)] (s.heap.objs.size+3) (s.heap.objs.size+4)}):
  wpAny (model P w) A (call (.type "zip") [.ref a,.ref b,.ref c]) Q E s:=by
 have tz:=(Dj (Ki s.heap a b c) [.ref s.heap.objs.size,.ref (s.heap.objs.size+1),.ref (s.heap.objs.size+2)] (s.heap.objs.size+3) (s.heap.objs.size+4) (s.heap.objs.size+5) (s.heap.objs.size+3) (by simp only[agh]) rfl rfl rfl).1;exact callType_new F.called_zip (by decide) (JY _ _ _) (J0 _ _ _) (fun obj=>JW obj _ _ _) amD (Hf a b c xs ys zs) ⟨h1,h2,h3,⟨_,tz,rfl⟩,h⟩
theorem zX{xs ys:Array afg}(h1:s.heap.IsList a xs)(h2:s.heap.IsTuple b ys)
  (h:Q (.ref (s.heap.objs.size+4)) {s with heap:=xT ((s.heap.push (uu a)).push (KC b)) [.ref s.heap.objs.size,.ref (s.heap.objs.size+1)] (s.heap.objs.size+2) (s.heap.objs.size+3)}):
  wpAny (model P w) A (call (.type "zip") [.ref a,.ref b]) Q E s:=by
 have tz:=(Dj ((s.heap.push (uu a)).push (KC b)) [.ref s.heap.objs.size,.ref (s.heap.objs.size+1)] (s.heap.objs.size+2) (s.heap.objs.size+3) (s.heap.objs.size+4) (s.heap.objs.size+2) (by simp only[agh]) rfl rfl rfl).1;exact callType_new F.called_zip (by decide) (JX _ _) (JZ _ _) (fun obj=>F.args_object_init_3 obj _ _) amD (Ec a b xs ys) ⟨h1,h2,⟨_,tz,rfl⟩,h⟩
inductive G0(K:afW)(R:It->Hp->Prop)(vs:List V)(H1:Hp):Prop|m:∀a b c xs ys zs,vs=[.ref a,.ref b,.ref c]->aJ K H1 a xs->aJ K H1 b ys->aJ K H1 c zs->R (vR K [(false,a),(false,b),(false,c)]) H1->G0 K R vs H1
def Sl(K:afW)(ta:TA):TI:=fun σ H R=>ta σ H fun vs H1=>G0 K R vs H1
inductive Ck(K:afW)(R:It->Hp->Prop)(vs:List V)(H1:Hp):Prop|m:∀a b xs ys,vs=[.ref a,.ref b]->aJ K H1 a xs->gF K H1 b ys->R (vR K [(false,a),(true,b)]) H1->Ck K R vs H1
def OI(K:afW)(ta:TA):TI:=fun σ H R=>ta σ H fun vs H1=>Ck K R vs H1
section
variable{ta:TA}
theorem Lo{e3:agR}(hg:Gl X "zip")(hm:X.mg "zip"=none)(ha:PA X [e,e2,e3] ta)
  (hs:starEach [e,e2,e3] X.env=(false,eval e X.env)::starEach [e2,e3] X.env:=by rfl) (kf:(backTo pos (starEach [e2,e3] X.env)).any (·.1)=false:=by rfl):
  PI X (.Tuple js kk jc) (.Call (.Name "zip" p) [e,e2,e3] [] pos) (Sl X.K ta):=by
 intro pins s σ H R I h;refine Call_ (j0 I hg hm uK (ag4 (cK (ha pos pins s σ H _ I h) fun us s1 ⟨vs,H1,I1,r1,q1⟩=> ?_) hs kf));obtain⟨a,b,c,xs,ys,zs,rfl,ka,kb,kc,q⟩:=q1;obtain⟨ia,va,pa,_⟩:=I1.list ka;obtain⟨ib,vb,pb,_⟩:=I1.list kb;obtain⟨ic,vc,pc,_⟩:=I1.list kc;have la:a<s1.heap.objs.size:=pa.lt;have lb:b<s1.heap.objs.size:=pb.lt;have lc:c<s1.heap.objs.size:=pc.lt;cases r1 with
 |cons r rr=>
 cases rr with
 |cons r' rr=>
 cases rr with
 |cons Xz rr=>
 cases rr;cases r;cases r';cases Xz;obtain⟨z1,z2,z3⟩:=Dj (Ki s1.heap a b c) [.ref s1.heap.objs.size,.ref (s1.heap.objs.size+1),.ref (s1.heap.objs.size+2)] (s1.heap.objs.size+3) (s1.heap.objs.size+4) (s1.heap.objs.size+5) (s1.heap.objs.size+3) (by simp only[agh]) rfl rfl rfl;refine DA pa.isList pb.isList pc.isList (akK z1 ?_);have old:∀b' o,s1.heap.get? b'=some o->(xT (Ki s1.heap a b c) [.ref s1.heap.objs.size,.ref (s1.heap.objs.size+1),.ref (s1.heap.objs.size+2)] (s1.heap.objs.size+3) (s1.heap.objs.size+4)).get? b'=some o:=fun b' o e=>nP (afm _ (afm _ (afm _ e)))
 have i1:(xT (Ki s1.heap a b c) [.ref s1.heap.objs.size,.ref (s1.heap.objs.size+1),.ref (s1.heap.objs.size+2)] (s1.heap.objs.size+3) (s1.heap.objs.size+4)).IsListIter s1.heap.objs.size a 0:=⟨_,nP (afm _ (afm _ (afI _ rfl))),rfl,rfl⟩;have MS:(s1.heap.push (uu a)).objs.size=s1.heap.objs.size+1:=agh ..;have VF:((s1.heap.push (uu a)).push (uu b)).objs.size=s1.heap.objs.size+2:=by rw[agh,MS]
 have i2:(xT (Ki s1.heap a b c) [.ref s1.heap.objs.size,.ref (s1.heap.objs.size+1),.ref (s1.heap.objs.size+2)] (s1.heap.objs.size+3) (s1.heap.objs.size+4)).IsListIter (s1.heap.objs.size+1) b 0:=by
  refine⟨uu b,nP (afm _ ?_),rfl,rfl⟩;rw[<-MS];exact afI _ rfl
 have i3:(xT (Ki s1.heap a b c) [.ref s1.heap.objs.size,.ref (s1.heap.objs.size+1),.ref (s1.heap.objs.size+2)] (s1.heap.objs.size+3) (s1.heap.objs.size+4)).IsListIter (s1.heap.objs.size+2) c 0:=by
  refine⟨uu c,nP ?_,rfl,rfl⟩;rw[<-VF];exact afI _ rfl
 have I2:bb X pins σ H1 {s1 with heap:=xT (Ki s1.heap a b c) [.ref s1.heap.objs.size,.ref (s1.heap.objs.size+1),.ref (s1.heap.objs.size+2)] (s1.heap.objs.size+3) (s1.heap.objs.size+4)}:=I1.kept (t':=s1.toks) old;generalize hn:s1.heap.objs.size=n at*;have D:QS (n+5) (n+3) (n+4) [(false,a),(false,b),(false,c)] [n,n+1,n+2]:=by
  refine⟨rfl,?_,fun q hq b' yz=> ?_,by simp,by show 3<=100;decide⟩
  .simp only[afG,afx,akF,or_false,akv,akm,and_true,alq];simp
  .have Ce:q.2<n:=by
    have:q=(false,a)\/q=(false,b)\/q=(false,c):=by simpa using hq
    rcases this with e|e|e<;>rw[e]<;>assumption
   have Wc:n<=b':=by
    have:b'=n+5\/b'=n+3\/b'=n+4\/b'=n\/b'=n+1\/b'=n+2:=by simpa using yz
    rcases this with e|e|e|e|e|e<;>rw[e]<;>first|exact afp _|exact agP _ _
   exact agy (agk Ce Wc)
 refine⟨n+5,_,_,_,H1,rfl,I2,vL D,⟨z1,z2,⟨_,rfl,z3⟩,fun m p it hp hi=> ?_⟩,fun c' uk=> ?_,q⟩
 .match m,hp,hi with
  |0,hp,hi=>cases(afv hp);cases(afv hi);exact .inr ⟨rfl,i1⟩
  |1,hp,hi=>cases(afv hp);cases(afv hi);exact .inr ⟨rfl,i2⟩
  |2,hp,hi=>cases(afv hp);cases(afv hi);exact .inr ⟨rfl,i3⟩
  |m+3,hp,hi=>simp at hp
 .have qm:s1.heap.objs.size<=c':=by
   rw[hn];have:c'=n+5\/c'=n+3\/c'=n+4\/c'=n\/c'=n+1\/c'=n+2:=by simpa using uk
   rcases this with e|e|e|e|e|e<;>rw[e]<;>first|exact afp _|exact agP _ _
  exact I1.wm qm (I1.dc.fresh qm)
theorem Ip(hg:Gl X "zip")(hm:X.mg "zip"=none)(ha:PA X [e,e2] ta)
  (hs:starEach [e,e2] X.env=(false,eval e X.env)::starEach [e2] X.env:=by rfl) (kf:(backTo pos (starEach [e2] X.env)).any (·.1)=false:=by rfl):
  PI X (.Tuple js kk jc) (.Call (.Name "zip" p) [e,e2] [] pos) (OI X.K ta):=by
 intro pins s σ H R I h;refine Call_ (j0 I hg hm uK (ag4 (cK (ha pos pins s σ H _ I h) fun us s1 ⟨vs,H1,I1,r1,q1⟩=> ?_) hs kf));obtain⟨a,b,xs,ys,rfl,ka,kb,q⟩:=q1;obtain⟨ia,va,pa,_⟩:=I1.list ka;obtain⟨ib,vb,pb,_⟩:=I1.tuple kb;have la:a<s1.heap.objs.size:=pa.lt;have lb:b<s1.heap.objs.size:=by obtain⟨_,e,_⟩:=pb;exact afV e
 cases r1 with
 |cons r rr=>
 cases rr with
 |cons r' rr=>
 cases rr;cases r;cases r';obtain⟨z1,z2,z3⟩:=Dj ((s1.heap.push (uu a)).push (KC b)) [.ref s1.heap.objs.size,.ref (s1.heap.objs.size+1)] (s1.heap.objs.size+2) (s1.heap.objs.size+3) (s1.heap.objs.size+4) (s1.heap.objs.size+2) (by simp only[agh]) rfl rfl rfl;refine zX (ys:=ib.toArray) pa.isList pb (akK z1 ?_);have old:∀b' o,s1.heap.get? b'=some o->(xT ((s1.heap.push (uu a)).push (KC b)) [.ref s1.heap.objs.size,.ref (s1.heap.objs.size+1)] (s1.heap.objs.size+2) (s1.heap.objs.size+3)).get? b'=some o:=fun b' o e=>nP (afm _ (afm _ e))
 have i1:(xT ((s1.heap.push (uu a)).push (KC b)) [.ref s1.heap.objs.size,.ref (s1.heap.objs.size+1)] (s1.heap.objs.size+2) (s1.heap.objs.size+3)).IsListIter s1.heap.objs.size a 0:=⟨_,nP (afm _ (afI _ rfl)),rfl,rfl⟩;have MS:(s1.heap.push (uu a)).objs.size=s1.heap.objs.size+1:=agh ..;have i2:(xT ((s1.heap.push (uu a)).push (KC b)) [.ref s1.heap.objs.size,.ref (s1.heap.objs.size+1)] (s1.heap.objs.size+2) (s1.heap.objs.size+3)).IsTupleIter (s1.heap.objs.size+1) b 0:=by
  refine⟨KC b,nP ?_,rfl,rfl⟩;rw[<-MS];exact afI _ rfl
 have I2:bb X pins σ H1 {s1 with heap:=xT ((s1.heap.push (uu a)).push (KC b)) [.ref s1.heap.objs.size,.ref (s1.heap.objs.size+1)] (s1.heap.objs.size+2) (s1.heap.objs.size+3)}:=I1.kept (t':=s1.toks) old;generalize hn:s1.heap.objs.size=n at*;have D:QS (n+4) (n+2) (n+3) [(false,a),(true,b)] [n,n+1]:=by
  refine⟨rfl,?_,fun q hq b' yz=> ?_,by simp,by show 2<=100;decide⟩
  .simp only[afG,afx,akF,or_false,akv,akm,and_true,alq];simp
  .have Ce:q.2<n:=by
    have:q=(false,a)\/q=(true,b):=by simpa using hq
    rcases this with e|e<;>rw[e]<;>assumption
   have Wc:n<=b':=by
    have:b'=n+4\/b'=n+2\/b'=n+3\/b'=n\/b'=n+1:=by simpa using yz
    rcases this with e|e|e|e|e<;>rw[e]<;>first|exact afp _|exact agP _ _
   exact agy (agk Ce Wc)
 refine⟨n+4,_,_,_,H1,rfl,I2,vL D,⟨z1,z2,⟨_,rfl,z3⟩,fun m p it hp hi=> ?_⟩,fun c' uk=> ?_,q⟩
 .match m,hp,hi with
  |0,hp,hi=>cases(afv hp);cases(afv hi);exact .inr ⟨rfl,i1⟩
  |1,hp,hi=>cases(afv hp);cases(afv hi);exact .inl ⟨rfl,i2⟩
  |m+2,hp,hi=>simp at hp
 .have qm:s1.heap.objs.size<=c':=by
   rw[hn];have:c'=n+4\/c'=n+2\/c'=n+3\/c'=n\/c'=n+1:=by simpa using uk
   rcases this with e|e|e|e|e<;>rw[e]<;>first|exact afp _|exact agP _ _
  exact I1.wm qm (I1.dc.fresh qm)
end
open PySem.W (WData Codec OpenSpec Well WellAll ReadsW ReadsAllW)
mutual
inductive Dw (K:afW) (H:Hp):V->ahD->Prop
 |gw:Dw K H .gw .none
 |bl (b:Bool):Dw K H (.bl b) (.bool b)
 |int (i:Int):Dw K H (.int i) (.int i)
 |str (x:Str):Dw K H (.str x) (.str x)
 |zK (b:Array UInt8):Dw K H (.zK b) (.bytes b.toList)
 |ba {a:afd} {xs:List V} {ds:List ahD}:aJ K H a xs->j9 K H xs ds->Dw K H (.ref a) (.list ds)
 |dY {a:afd} {xs:List V} {ds:List ahD}:gF K H a xs->j9 K H xs ds->Dw K H (.ref a) (.tuple ds)
inductive j9 (K:afW) (H:Hp):List V->List ahD->Prop
 |nil:j9 K H [] []
 |cons {v:V} {vs:List V} {d:ahD} {ds:List ahD}:Dw K H v d->j9 K H vs ds->j9 K H (v::vs) (d::ds)
end
theorem BV{K:afW}{H:Hp}:∀ns:List Int,j9 K H (ns.map V.int) (ns.map an6)
 | []=> .nil
 |n::r=> .cons (.int n) (BV r)
theorem Cg{K:afW}{H:Hp}:∀(ns:List Int) (xs:List V),j9 K H xs (ns.map an6)->xs=ns.map V.int
 | [],xs,h=>by
  cases h;rfl
 |n::r,xs,h=>by
  cases h with
  |cons h1 h2=>
   cases h1;rw[Cg r _ h2]<;>rfl
section
variable{R:amw}{cl:Str->Option afd}
theorem PU(dc:kE P w H h)(KX:K.In h)(q:aJ K H a xs):∃(aR:List afg) (o:Obj) (n:Nat),bo xs aR/\h.get? a=some o/\o.cls= .type "list"/\o.data= .seq aR.toArray n:=by
 rcases q with q|⟨o,aR,n,e,hc,_,hd,_,hv⟩
 .obtain⟨_,aR,n,hv,e⟩:=(show eP P w H h a (.ba xs)from q.ok dc);exact⟨aR,_,n,hv,e,rfl,rfl⟩
 .exact⟨aR.toList,o,n,hv,KX _ _ e,hc,by simp[hd]⟩
theorem PV(dc:kE P w H h)(KX:K.In h)(q:gF K H a xs):∃(aR:List afg) (o:Obj) (n:Nat),bo xs aR/\h.get? a=some o/\o.cls= .type "tuple"/\o.data= .seq aR.toArray n:=by
 rcases q with q|⟨o,aR,n,e,hc,hd,_,hv⟩
 .obtain⟨_,aR,hv,o,e,hc,n,hd⟩:=(show eP P w H h a (.dY xs)from q.ok dc);exact⟨aR,o,n,hv,e,hc,hd⟩
 .exact⟨aR.toList,o,n,hv,KX _ _ e,hc,by simp[hd]⟩
mutual
theorem Dw.qv(dc:kE P w H h)(KX:K.In h):∀(d:ahD) (v:V) (u:afg),Dw K H v d->bE v u->∃as,ReadsW R cl h u d as
 | .none,_,_,x,r=>by
  cases x;cases r;exact⟨_,ReadsW.none⟩
 | .bool b,_,_,x,r=>by
  cases x;cases r;exact⟨_,ReadsW.bool b⟩
 | .int i,_,_,x,r=>by
  cases x;obtain⟨t,rfl⟩:=r;exact⟨_,ReadsW.int i t⟩
 | .str s,_,_,x,r=>by
  cases x;obtain⟨t,rfl⟩:=r;exact⟨_,ReadsW.str s t⟩
 | .bytes b,_,_,x,r=>by
  cases x;obtain⟨t,rfl⟩:=r;exact⟨_,ReadsW.bytes _ t⟩
 | .list ds,_,_,x,r=>by
  cases x with
  |ba hs ha=>
   cases r;obtain⟨aR,o,n,rv,ho,hc,hd⟩:=PU dc KX hs;obtain⟨as,hr⟩:=Dw.i9 dc KX ds _ aR ha rv;exact⟨_,ReadsW.list ho hc hd hr⟩
 | .tuple ds,_,_,x,r=>by
  cases x with
  |dY hs ha=>
   cases r;obtain⟨aR,o,n,rv,ho,hc,hd⟩:=PV dc KX hs;obtain⟨as,hr⟩:=Dw.i9 dc KX ds _ aR ha rv;exact⟨_,ReadsW.tuple ho hc hd hr⟩
 | .float _,_,_,x,_=>by cases x
 | .dict _,_,_,x,_=>by cases x
 | .bytearray _,_,_,x,_=>by cases x
 | .set _,_,_,x,_=>by cases x
 | .frozenset _,_,_,x,_=>by cases x
 | .obj _ _,_,_,x,_=>by cases x
theorem Dw.i9(dc:kE P w H h)(KX:K.In h):∀(ds:List ahD) (vs:List V) (us:List afg),j9 K H vs ds->bo vs us->∃as,ReadsAllW R cl h us ds as
 | [],_,_,x,r=>by
  cases x;cases r;exact⟨_,ReadsAllW.nil⟩
 |d::ds,_,_,x,r=>by
  cases x with
  |cons h1 h2=>
   cases r with
   |cons r1 r2=>
    obtain⟨as,q1⟩:=Dw.qv dc KX d _ _ h1 r1;obtain⟨bs,q2⟩:=Dw.i9 dc KX ds _ _ h2 r2;exact⟨_,ReadsAllW.cons q1 q2⟩
end
end
mutual
def CG:ahD->Bool
 | .none=>true
 | .bool _=>true
 | .int _=>true
 | .str _=>true
 | .bytes _=>true
 | .list xs=>qL xs
 | .tuple xs=>qL xs
 |_=>false
def qL:List ahD->Bool
 | []=>true
 |x::r=>CG x&&qL r
end
theorem y3{α:Type}{f:α->ahD}(h:∀a,CG (f a)=true):∀l:List α,qL (l.map f)=true
 | []=>rfl
 |x::r=>by
  show(CG (f x)&&qL (r.map f))=true;rw[h x,y3 h r]<;>rfl
theorem lA:∀(c:Codec) (a:c.denote),CG (c.enc a)=true
 | .unit,_=>rfl
 | .bool,_=>rfl
 | .int _ _,_=>rfl
 | .nat _ _,_=>rfl
 | .u8,_=>rfl
 | .bytes _ _,_=>rfl
 | .text _ _ _ _,_=>rfl
 | .list _ _ c,a=>y3 (fun x=>lA c x) a
 | .pair c d,a=>by
  show(CG (c.enc a.1)&&(CG (d.enc a.2)&&true))=true;rw[lA c a.1,lA d a.2]<;>rfl
 | .triple c d e,a=>by
  show(CG (c.enc a.1)&&(CG (d.enc a.2.1)&&(CG (e.enc a.2.2)&&true)))=true;rw[lA c a.1,lA d a.2.1,lA e a.2.2]<;>rfl
 | .option c,none=>rfl
 | .option c,some x=>lA c x
theorem vv:∀(cs:List Codec) (a:ajU cs),qL (ajn cs a)=true
 | [],_=>rfl
 |c::cs,a=>by
  show(CG (c.enc a.1)&&qL (ajn cs a.2))=true;rw[lA c a.1,vv cs a.2]<;>rfl
theorem nJ:∀{xs:List ahD} {d:ahD},d∈xs->d.weight<=ajV xs
 | [],d,h=>absurd h (by simp)
 |x::r,d,h=>by
  show d.weight<=x.weight+1+ajV r;rcases afx.mp h with e|m
  .rw[e];omega
  .have z:=nJ m;omega
def zu:afg->V
 | .none=> .gw
 | .bool b=> .bl b
 | .int i _=> .int i
 | .str x _=> .str x
 | .bytes b _=> .zK b
 | .ref a=> .ref a
 |_=> .gw
def Dq(A:List afd):afg->Prop
 | .none=>True
 | .bool _=>True
 | .int _ _=>True
 | .str _ _=>True
 | .bytes _ _=>True
 | .ref a=>a∈A
 |_=>False
theorem Dq.fJ{A B:List afd}(h:∀a∈A,a∈B):∀{u:afg},Dq A u->Dq B u:=fun{u} x=>by
 cases u with
 |ref a=>exact h a x
 |none=>trivial
 |bool b=>trivial
 |int i t=>trivial
 |str s t=>trivial
 |bytes b t=>trivial
 |_=>exact ahj x
theorem IA{A:List afd}(x:Dq A u):bE (zu u) u:=by
 cases u with
 |ref a=>rfl
 |none=>rfl
 |bool b=>rfl
 |int i t=>exact⟨t,rfl⟩
 |str s t=>exact⟨t,rfl⟩
 |bytes b t=>exact⟨t,rfl⟩
 |_=>exact ahj x
theorem jP{A:List afd}:∀{vs:List afg},(∀u∈vs,Dq A u)->bo (vs.map zu) vs
 | [],_=> .nil
 |u::r,h=> .cons (IA (h u (af5 ..))) (jP fun x hx=>h x (afu _ hx))
def j8(h:agg)(A:List afd)(a:afd):Prop:=∃vs:List afg,vs.length<=sizeLine/\(∀u∈vs,Dq A u)/\
 (h.get? a=some {cls:= .type "list",data:= .seq vs.toArray}\/h.get? a=some {cls:= .type "tuple",data:= .seq vs.toArray})
theorem j8.fJ{h:agg}{A B:List afd}{a:afd}(k:∀a∈A,a∈B)(x:j8 h A a):j8 h B a:=by
 obtain⟨vs,h1,h2,h3⟩:=x;exact⟨vs,h1,fun u hu=>(h2 u hu).fJ k,h3⟩
theorem jq{P:alw}{h:agg}:∀{vs:List afg} {ds:List ahD},ak3 P h vs ds->vs.length=ds.length
 |_,_,.nil=>rfl
 |_,_,.cons _ b=>by
  show _+1=_+1;rw[jq b]
theorem vP{P:alw}(x:Well P h v (.list ds)):∃(a:afd) (vs:List afg),v= .ref a/\h.get? a=some {cls:= .type "list",data:= .seq vs.toArray}/\ak3 P h vs ds:=by
 cases x with
 |list ho gI=>exact⟨_,_,rfl,ho,gI⟩
theorem tW{P:alw}(x:Well P h v (.tuple ds)):∃(a:afd) (vs:List afg),v= .ref a/\h.get? a=some {cls:= .type "tuple",data:= .seq vs.toArray}/\ak3 P h vs ds:=by
 cases x with
 |tuple ho gI=>exact⟨_,_,rfl,ho,gI⟩
theorem vO{P:alw}{d:ahD}(x:ak3 P h us (d::ds)):∃(v:afg) (vs:List afg),us=v::vs/\Well P h v d/\ak3 P h vs ds:=by
 cases x with
 |cons a b=>exact⟨_,_,rfl,a,b⟩
theorem Cu(h:n<=1048576):n<=sizeLine:=afw h (by decide)
section
variable{P:alw}
mutual
theorem Fz:∀(d:ahD) (v:afg),Well P h v d->CG d=true->d.weight<=1048576->∃A:List afd,Dq A v/\∀a∈A,j8 h A a
 | .none,_,x,_,_=>by
  cases x;exact⟨[],trivial,fun a m=>absurd m (by simp)⟩
 | .bool b,_,x,_,_=>by
  cases x;exact⟨[],trivial,fun a m=>absurd m (by simp)⟩
 | .int i,_,x,_,_=>by
  cases x;exact⟨[],trivial,fun a m=>absurd m (by simp)⟩
 | .str s,_,x,_,_=>by
  cases x;exact⟨[],trivial,fun a m=>absurd m (by simp)⟩
 | .bytes b,_,x,_,_=>by
  cases x;exact⟨[],trivial,fun a m=>absurd m (by simp)⟩
 | .list ds,_,x,p,z=>by
  obtain⟨a,vs,rfl,ho,gI⟩:=vP x;have z2:ajV ds<=1048576:=z;obtain⟨A,h1,h2⟩:=og ds _ gI p fun d hd=>afw (nJ hd) z2
  have k:∀b∈A,b∈a::A:=fun b hb=>afu _ hb
  refine⟨a::A,af5 ..,fun b hb=> ?_⟩;rcases afx.mp hb with e|m
  .rw[e];exact⟨vs,Cu (by rw[jq gI];exact afw (ajW ds) z2),fun u hu=>(h1 u hu).fJ k,.inl ho⟩
  .exact(h2 b m).fJ k
 | .tuple ds,_,x,p,z=>by
  obtain⟨a,vs,rfl,ho,gI⟩:=tW x;have z2:ajV ds<=1048576:=z;obtain⟨A,h1,h2⟩:=og ds _ gI p fun d hd=>afw (nJ hd) z2
  have k:∀b∈A,b∈a::A:=fun b hb=>afu _ hb
  refine⟨a::A,af5 ..,fun b hb=> ?_⟩;rcases afx.mp hb with e|m
  .rw[e];exact⟨vs,Cu (by rw[jq gI];exact afw (ajW ds) z2),fun u hu=>(h1 u hu).fJ k,.inr ho⟩
  .exact(h2 b m).fJ k
 | .float _,_,_,p,_=>agQ (show false=true from p)
 | .dict _,_,_,p,_=>agQ (show false=true from p)
 | .bytearray _,_,_,p,_=>agQ (show false=true from p)
 | .set _,_,_,p,_=>agQ (show false=true from p)
 | .frozenset _,_,_,p,_=>agQ (show false=true from p)
 | .obj _ _,_,_,p,_=>agQ (show false=true from p)
theorem og:∀(ds:List ahD) (vs:List afg),ak3 P h vs ds->qL ds=true->(∀d∈ds,d.weight<=1048576)->∃A:List afd,(∀u∈vs,Dq A u)/\∀a∈A,j8 h A a
 | [],_,x,_,_=>by
  cases x;exact⟨[],fun u m=>absurd m (by simp),fun a m=>absurd m (by simp)⟩
 |d::ds,_,x,p,z=>by
  obtain⟨v,vs,rfl,x1,x2⟩:=vO x;have q:CG d=true/\qL ds=true:=alx.mp p;obtain⟨A,a1,a2⟩:=Fz d v x1 q.1 (z d (af5 ..));obtain⟨B,b1,b2⟩:=og ds vs x2 q.2 fun e he=>z e (afu _ he)
  have kA:∀b∈A,b∈A++B:=fun b hb=>afN.mpr (.inl hb)
  have kB:∀b∈B,b∈A++B:=fun b hb=>afN.mpr (.inr hb)
  refine⟨A++B,fun u hu=> ?_,fun b hb=> ?_⟩
  .rcases afx.mp hu with e|m
   .rw[e];exact a1.fJ kA
   .exact(b1 u m).fJ kB
  .rcases afN.mp hb with m|m
   .exact(a2 b m).fJ kA
   .exact(b2 b m).fJ kB
end
end
def Ks(o:Obj):Option HO:=match o.data with
 | .seq vs _=>if(o.cls==aiR "list")=true then some (.uj o (.ba (vs.toList.map zu)))else some (.uj o (.dY (vs.toList.map zu)))
 |_=>none
def jU(K:afW)(h:agg)(A:List afd):Hp:=fun b=>if b∈A then(if(K.lookup b).isNone=true then(h.get? b).bind Ks else none)else none
def xY(H:Hp):Prop:=∀b,H b=none\/∃o u,H b=some (.uj o u)
theorem yC(vs:List afg):Ks {cls:= .type "list",data:= .seq vs.toArray}=some (.uj {cls:= .type "list",data:= .seq vs.toArray} (.ba (vs.map zu))):=by
 show(if(aiR "list"==aiR "list")=true then some (HO.uj {cls:= .type "list",data:= .seq vs.toArray} (.ba (vs.toArray.toList.map zu)))else some (HO.uj {cls:= .type "list",data:= .seq vs.toArray} (.dY (vs.toArray.toList.map zu))))=_;rw[afj (ahv _)]
theorem yD(vs:List afg):Ks {cls:= .type "tuple",data:= .seq vs.toArray}=some (.uj {cls:= .type "tuple",data:= .seq vs.toArray} (.dY (vs.map zu))):=by
 show(if(aiR "tuple"==aiR "list")=true then some (HO.uj {cls:= .type "tuple",data:= .seq vs.toArray} (.ba (vs.toArray.toList.map zu)))else some (HO.uj {cls:= .type "tuple",data:= .seq vs.toArray} (.dY (vs.toArray.toList.map zu))))=_;rw[afe (by decide)]
section
variable{A:List afd}
theorem qO{o:Obj}(hb:b∈A)(hk:K.lookup b=none)(e:h.get? b=some o):jU K h A b=Ks o:=by
 unfold jU;rw[afj hb,hk,afj (show(none:Option Obj).isNone=true from rfl),e]<;>rfl
theorem KR{u:HO}(q:jU K h A b=some u):b∈A/\K.lookup b=none:=by
 unfold jU at q;by_cases hb:b∈A
 .rw[afj hb]at q;cases hk:K.lookup b with
  |none=>exact⟨hb,rfl⟩
  |some o=>
   rw[hk,afe (by simp)]at q;cases q
 .rw[afe hb]at q;cases q
theorem qP(ar:∀a∈A,j8 h A a){u:HO}(q:jU K h A b=some u):K.lookup b=none/\∃vs:List afg,vs.length<=sizeLine/\(∀u∈vs,Dq A u)/\
  ((h.get? b=some {cls:= .type "list",data:= .seq vs.toArray}/\u= .uj {cls:= .type "list",data:= .seq vs.toArray} (.ba (vs.map zu)))\/
   (h.get? b=some {cls:= .type "tuple",data:= .seq vs.toArray}/\u= .uj {cls:= .type "tuple",data:= .seq vs.toArray} (.dY (vs.map zu)))):=by
 obtain⟨hb,hk⟩:=KR q;obtain⟨vs,h1,h2,h3⟩:=ar b hb;refine⟨hk,vs,h1,h2,?_⟩;rcases h3 with e|e
 .rw[qO hb hk e,yC]at q;exact .inl ⟨e,(afv q).symm⟩
 .rw[qO hb hk e,yD]at q;exact .inr ⟨e,(afv q).symm⟩
theorem Ds(ar:∀a∈A,j8 h A a):xY (jU K h A):=fun b=>by
 cases q:jU K h A b with
 |none=>exact .inl rfl
 |some u=>
  obtain⟨_,vs,_,_,⟨_,e⟩|⟨_,e⟩⟩:=qP ar q
  .exact .inr ⟨_,_,by rw[e]⟩
  .exact .inr ⟨_,_,by rw[e]⟩
theorem JO(ar:∀a∈A,j8 h A a):kE P w (jU K h A) h:=fun b u q=>by
 obtain⟨_,vs,h1,h2,⟨e,rfl⟩|⟨e,rfl⟩⟩:=qP ar q
 .exact⟨e,by rw[afb];exact h1,vs,_,jP h2,e⟩
 .exact⟨e,by rw[afb];exact h1,vs,jP h2,_,e,rfl,_,rfl⟩
theorem rj{c c':afg}{vs:List afg}(e:(some {cls:=c,data:= .seq vs.toArray}:Option Obj)=some {cls:=c',data:= .seq us.toArray}):c=c'/\vs=us:=by
 have e1:=afv e;have e2:c=c':=congrArg Obj.cls e1;have e3:amW vs.toArray=amW us.toArray:=congrArg Obj.data e1;injection e3 with e4
 refine⟨e2,?_⟩;have e5:=congrArg al2 e4;simpa using e5
theorem UZ(KX:K.In h)(ar:∀a∈A,j8 h A a){vs:List afg}(ha:a∈A)(e:h.get? a=some {cls:= .type "list",data:= .seq vs.toArray}):(∀u∈vs,Dq A u)/\aJ K (jU K h A) a (vs.map zu):=by
 obtain⟨us,h1,h2,h3⟩:=ar a ha;have hu:us=vs:=by
  rcases h3 with q|q
  .rw[e]at q;exact(rj q).2.symm
  .rw[e]at q;exact absurd (amX (rj q).1) (by decide)
 subst hu;refine⟨h2,?_⟩;cases hk:K.lookup a with
 |none=>exact .inl (.inr ⟨_,by rw[qO ha hk e,yC]⟩)
 |some o=>
  have e2:=KX a o hk;rw[e]at e2;obtain rfl:=afv e2;exact .inr ⟨_,us.toArray,_,hk,rfl,rfl,rfl,by rw[afL];exact h1,by simpa using jP h2⟩
theorem U0(KX:K.In h)(ar:∀a∈A,j8 h A a){vs:List afg}(ha:a∈A)(e:h.get? a=some {cls:= .type "tuple",data:= .seq vs.toArray}):(∀u∈vs,Dq A u)/\gF K (jU K h A) a (vs.map zu):=by
 obtain⟨us,h1,h2,h3⟩:=ar a ha;have hu:us=vs:=by
  rcases h3 with q|q
  .rw[e]at q;exact absurd (amX (rj q).1) (by decide)
  .rw[e]at q;exact(rj q).2.symm
 subst hu;refine⟨h2,?_⟩;cases hk:K.lookup a with
 |none=>exact .inl (.inr ⟨_,by rw[qO ha hk e,yD]⟩)
 |some o=>
  have e2:=KX a o hk;rw[e]at e2;obtain rfl:=afv e2;exact .inr ⟨_,us.toArray,_,hk,rfl,rfl,by rw[afL];exact h1,by simpa using jP h2⟩
mutual
theorem Oh{Pm:alw}(KX:K.In h)(ar:∀a∈A,j8 h A a):∀(d:ahD) (v:afg),Well Pm h v d->CG d=true->Dq A v->Dw K (jU K h A) (zu v) d
 | .none,_,x,_,_=>by
  cases x;exact .gw
 | .bool b,_,x,_,_=>by
  cases x;exact .bl b
 | .int i,_,x,_,_=>by
  cases x;exact .int i
 | .str s,_,x,_,_=>by
  cases x;exact .str s
 | .bytes b,_,x,_,_=>by
  cases x;have z:=Dw.zK (K:=K) (H:=jU K h A) b.toArray;exact z
 | .list ds,_,x,p,hu=>by
  obtain⟨a,vs,rfl,ho,gI⟩:=vP x;obtain⟨h2,hs⟩:=UZ KX ar hu ho;exact .ba hs (wg KX ar ds _ gI p h2)
 | .tuple ds,_,x,p,hu=>by
  obtain⟨a,vs,rfl,ho,gI⟩:=tW x;obtain⟨h2,hs⟩:=U0 KX ar hu ho;exact .dY hs (wg KX ar ds _ gI p h2)
 | .float _,_,_,p,_=>agQ (show false=true from p)
 | .dict _,_,_,p,_=>agQ (show false=true from p)
 | .bytearray _,_,_,p,_=>agQ (show false=true from p)
 | .set _,_,_,p,_=>agQ (show false=true from p)
 | .frozenset _,_,_,p,_=>agQ (show false=true from p)
 | .obj _ _,_,_,p,_=>agQ (show false=true from p)
theorem wg{Pm:alw}(KX:K.In h)(ar:∀a∈A,j8 h A a):∀(ds:List ahD) (vs:List afg),ak3 Pm h vs ds->qL ds=true->(∀u∈vs,Dq A u)->j9 K (jU K h A) (vs.map zu) ds
 | [],_,x,_,_=>by
  cases x;exact .nil
 |d::ds,_,x,p,hu=>by
  obtain⟨v,vs,rfl,x1,x2⟩:=vO x;have q:CG d=true/\qL ds=true:=alx.mp p;exact .cons (Oh KX ar d v x1 q.1 (hu _ (af5 ..))) (wg KX ar ds vs x2 q.2 fun u m=>hu u (afu _ m))
end
end
theorem E5{mb:Str->Option afg}{k:Nat}{fa:afd}{sp:Sp}{s₁:afC}{uB:List afg}{R:amw}{cl:Str->Option afd}{d0:ahD}
  (KX:K.In s₁.heap) (qF:s₁.heap.Ns mainGlobals mg) (hb:s₁.heap.Ns builtinsNs mb) (hbb:∀x:Str,x≠"__name__"->mb x=bootBuiltins x) (Ww:s₁.heap.NoLimit) (hg:s₁.gens= #[])
  (DT:ak3 w.params s₁.heap uB ds) (kf:qL ds=true) (hwt:∀d∈ds,d.weight<=1048576) (hr:fF k callerA)
  (F:∀base:agg,K.In base->base.Ns mainGlobals mg->aT P w K mg base CX k fa fd ps sp) (RL:∀(s:afC) (us:List afg),us.length=ps.length->al7 s fd ⟨us,[]⟩ (ps.zip us)) (bY:ds.length=ps.length)
  (DS:∀(H:Hp) (xs:List V),xY H->j9 K H xs ds->sp xs H (fun v H'=>Dw K H' v d0) fun _ _ _=>False)
  (Rz:∀H e s',CX [] H s₁ (fun _ _ _=>False) e s'->False):
  codeAny (model P w) callerA (.call (.ref fa) ⟨uB,[]⟩) (fun r s'=>∃u as,r= .ok (.ret u)/\ReadsW R cl s'.heap u d0 as/\OldK s₁.heap s'.heap/\s'.os=s₁.os/\alA s'.gens) s₁:=by
 obtain⟨A,ho,ar⟩:=og ds uB DT kf hwt;have hO:xY (jU K s₁.heap A):=Ds ar;have dc:kE P w (jU K s₁.heap A) s₁.heap:=JO ar;have hS:=wg KX ar ds uB DT kf ho;have hV:=jP ho;have hK:∀b u,jU K s₁.heap A b=some u->K.lookup b=none:=fun b u q=>(qP ar q).1
 have QA:∀{b:afd} {o:Obj} {es:Array anx} {ep:Nat},s₁.heap.get? b=some o->o.data= .dict es ep->jU K s₁.heap A b=none:=fun{b o es ep} e d=>by
  cases q:jU K s₁.heap A b with
  |none=>rfl
  |some u=>
   obtain⟨_,vs,_,_,⟨e2,_⟩|⟨e2,_⟩⟩:=qP ar q
   .rw[e2]at e;cases e;have d':amW vs.toArray _=Data.dict es ep:=d;cases d'
   .rw[e2]at e;cases e;have d':amW vs.toArray _=Data.dict es ep:=d;cases d'
 generalize jU K s₁.heap A=H at hO dc hS hK QA;have base_of:∀{b:afd} {o:Obj},s₁.heap.get? b=some o->H b=none->(wy s₁.heap H).get? b=some o:=fun e n=>GI e n
 have Uy:∀{b:afd} {m:Str->Option afg},s₁.heap.Ns b m->(wy s₁.heap H).Ns b m:=fun{b m} ⟨o,es,ep,e,d,r⟩=>⟨o,es,ep,base_of e (QA e d),d,r⟩
 have nK:∀b o,K.lookup b=some o->H b=none:=fun b o e=>by
  cases q:H b with
  |none=>rfl
  |some u=>
   rw[hK b u q]at e;cases e
 have YV:K.In (wy s₁.heap H):=fun b o e=>base_of (KX b o e) (nK b o e)
 have hM:Mod K mg (wy s₁.heap H):=⟨YV,Uy qF,⟨mb,Uy hb,hbb⟩,let⟨mc,h1,h2⟩:=Ww;⟨mc,Uy h1,h2⟩⟩;have e0:zQ P w K mg (wy s₁.heap H) callerA [] s₁ H:=⟨rfl,hM,fun b o e=>KS e,akS (DQ _ _),trivial,fun b hb=>absurd (show b∈([]:List afd)from hb) (by simp),dc,.of_eq hg⟩;have hl:uB.length=ps.length:=by rw[jq DT];exact bY
 refine ai6 ((F _ YV (Uy qF)).run callerA [] s₁ H ⟨uB,[]⟩ uB (uB.map zu) _ _ hr e0 (RL s₁ uB hl) hV (DS H _ hO hS)) fun r s' x=> ?_
 cases r with
 |error e=>exact(Rz H e s' x).elim
 |ok fl=>
  cases fl with
  |next=>exact ahj x
  |brk=>exact ahj x
  |cont=>exact ahj x
  |ret u=>
   obtain⟨v,H',os,bare,un,R6,r',q⟩:=x;have kept:∀b o,s₁.heap.get? b=some o->s'.heap.get? b=some o:=fun b o e=>by
    cases q2:H b with
    |none=>exact un.keep b o e q2 (by intro z;exact absurd (show b∈([]:List afd)from z) (by simp)) (by simp)
    |some u2=>
     rcases hO b with z|⟨ob,u3,z⟩
     .rw[q2]at z;cases z
     .have z2:=un.frzs b ob _ z;obtain⟨e1,_⟩:=dc b _ z;obtain⟨e2,_⟩:=R6 b _ z2;rw[e]at e1;cases e1;exact e2
   have KX':K.In s'.heap:=fun b o e=>kept b o (KX b o e)
   obtain⟨as,Zs⟩:=Dw.qv (R:=R) (cl:=cl) R6 KX' d0 v u q r';exact⟨u,as,rfl,Zs,OldK.of_keep kept,os,bare⟩
theorem so(h:WData.layableAll ds=true):∀d∈ds,d.weight<=1048576:=fun d hd=>
 (PySem.W.layableW_iff.mp (af6.mp h d hd)).2.2
theorem rS:∀(cs:List Codec) (a:ajU cs),(ajn cs a).length=cs.length
 | [],_=>rfl
 |c::cs,a=>by
  show(ajn cs a.2).length+1=cs.length+1;rw[rS cs a.2]
theorem Fj{r:OpenSpec}{k:Nat}{q:afA}{loose:List Str}{XP:(Str->Option afg)->agg->Prop}{YP:af4->agg->Prop}{d:DefRec}{K:alw->afW}{CX:af4->ue}{sp:af4->Sp}
  (GO:r.wellSaid=true) (Y8:d.params.defaults=[]) (bY:r.args.length=ps.length) (hr:fF k callerA)
  (hY:∀(w:af4) (h:agg),YP w h->(K w.params).In h)
  (F:∀(w:af4) (mg:Str->Option afg) (fa:afd) (h:agg),YP w h->(K w.params).In h->h.Ns mainGlobals mg->mg d.name=some (.ref fa)->
   ∃fd:afE,(∀(s:afC) (us:List afg),us.length=ps.length->al7 s fd ⟨us,[]⟩ (ps.zip us))/\
    ∀base:agg,(K w.params).In base->base.Ns mainGlobals mg->aT r.prog w (K w.params) mg base (CX w) k fa fd ps (sp w))
  (DS:∀(w:af4) (H:Hp) (xs:List V) (a:ajU r.args),xY H->amG r.args a=true->alE r.args r.asked a=true->j9 (K w.params) H xs (ajn r.args a)->
   sp w xs H (fun v H'=>Dw (K w.params) H' v (r.ret.enc (alE r.args r.f a))) fun _ _ _=>False)
  (Rz:∀(w:af4) (H:Hp) (s:afC) (e:afg) (s':afC),CX w [] H s (fun _ _ _=>False) e s'->False):
  amY q loose XP YP r d [] (fun f vs=>an3 f vs):=by
 intro w s_0 s₁ mg mb G Y fa o pm cd doc dV kV ho hd JC hD Wy hg args uB as Kt Wu Zs DT hlo;obtain⟨a,e1,e2⟩:=PySem.W.os_pre_some Kt;obtain⟨e3,Um⟩:=Codec.encAll_of_decAll r.args args a e1;subst e3;have KX:=hY w _ Y;obtain⟨fd,hb,hF⟩:=F w mg fa _ Y KX G.T.g Wy;refine PySem.W.enter_call (ai6 (E5 (R:=[]) (cl:=classAt s_0.heap) (d0:=r.ret.enc (alE r.args r.f a)) KX G.T.g G.T.b G.T.builtins G.T.nolimit hg DT (vv _ _) (so Wu) hr hF hb (by rw[rS];exact bY)
  (fun H xs hO hS=>DS w H xs a hO Um e2 hS) fun H e s'=>Rz w H s₁ e s') fun r' s' hq=> ?_)
 obtain⟨u,JP,rfl,h1,h2,h3,h4⟩:=hq;exact⟨.inl ⟨u,_,JP,rfl,fun _=>rfl,h1,(OpenSpec.post_iff GO Um _ _).mpr rfl,fun z=>agQ (show false=true from z)⟩,h2,h3,h4⟩
theorem Bf{r:OpenSpec}{k:Nat}{q:afA}{loose:List Str}{XP:(Str->Option afg)->agg->Prop}{YP:af4->agg->Prop}{d:DefRec}{K:alw->afW}{sp:afW->Sp}
  (GO:r.wellSaid=true) (Y8:d.params.defaults=[]) (bY:r.args.length=ps.length) (hr:fF k callerA)
  (hY:∀(w:af4) (h:agg),YP w h->(K w.params).In h)
  (F:∀(w:af4) (mg:Str->Option afg) (fa:afd) (h:agg),YP w h->(K w.params).In h->h.Ns mainGlobals mg->mg d.name=some (.ref fa)->
   ∃fd:afE,(∀(s:afC) (us:List afg),us.length=ps.length->al7 s fd ⟨us,[]⟩ (ps.zip us))/\
    ∀base:agg,(K w.params).In base->base.Ns mainGlobals mg->aT r.prog w (K w.params) mg base CX k fa fd ps (sp (K w.params)))
  (DS:∀(K:afW) (H:Hp) (xs:List V) (a:ajU r.args),xY H->amG r.args a=true->alE r.args r.asked a=true->j9 K H xs (ajn r.args a)->
   sp K xs H (fun v H'=>Dw K H' v (r.ret.enc (alE r.args r.f a))) fun _ _ _=>False)
  (Rz:∀(H:Hp) (s:afC) (e:afg) (s':afC),CX [] H s (fun _ _ _=>False) e s'->False):
  amY q loose XP YP r d [] (fun f vs=>an3 f vs):=
 Fj (K:=K) (CX:=fun _=>CX) (sp:=fun w=>sp (K w.params)) GO Y8 bY hr hY F (fun w H xs a h1 h2 h3 h4=>DS (K w.params) H xs a h1 h2 h3 h4) fun _ H s e s'=>Rz H s e s'
end L2
namespace FE
open PySem PySem.Spec PyProof.Rows L2 FM
open PySem.W (Frag fnOf keepIn mg_of findIn nsIn emptyDict plainGet hasDictIn isFn makesIn codeIn plainOver)
open Vbdhag (Book nat numberOf entryAt allSenses Change position putBehind bookOf hasEntry changeTold two entryOf decimal kept history lengthOf empty onSense outOf hasSense putEntry inEntry entryNames Sense Call wrong dead pair senseLine changesOf stepNumbers patched bytesOf changes cutAt)
variable{N N' e em i j n p sm:Nat}{P:afA}{X:Cx}{x:afo}{te:TE}{pos:Pos}{w:af4}{K:afW}{mg:Str->Option afg}{base:agg}{st:afR}{C CB CH D R a b c f fI fb fc fe fh fp h q u:afd}{fd fR fZ fO f9 fX fY gg:afE}{ps:List Str}{sp:Sp}{ks ks' l t:List Nat}{o:HO}{ns r:List Int}{m p0 p1 p2:Str}{S:afn}{H H' H1 H2:Hp}{d d':BA}{FZ cZ as rs ts:List afd}{B B':aga}{aQ:List (br×V)}{f':Nat->V}{xs:List V}{σ:L2.St}{z:Int}
theorem cF{N P:List Str}{s:ahO}(a:s.kind= .function:=by rfl)(b:s.isCoroutine=false:=by rfl)(c:s.isGenerator=false:=by rfl)(d:N.Nodup:=by decide+kernel)(e:N.take P.length=P:=by rfl)(f:∀x∈P,s.names.lookup x=some .local\/s.names.lookup x=some .cell:=by decide+kernel)(g:∀y∈s.names,y.2≠ .free:=by decide+kernel):au N P s:=⟨a,b,c,d,e,f,g⟩
theorem cY(i:Nat){x:Str}{e:agR}{iH:Pos}(hN:X.N.Nodup)(he:PE X e te)(hi:X.N[i]? =some x:=by rfl)(hx:NX X.env.scope x:=by exact akd rfl)(hs:swapsWith e (some (.Name x iH)) pos.line X.env=pure false:=by rfl)(hf:X.fn x=true\/X.env.scope.names.lookup x=some .local:=by first|exact .inl rfl|exact .inr rfl|assumption):PS X (.Assign [.Name x iH] e pos) (Mc te (qk i)):=Iu hN hi hx he hs hf
theorem hJ(i:Nat){x:Str}(hN:X.N.Nodup)(hi:X.N[i]? =some x:=by rfl)(hx:NX X.env.scope x:=by exact akd rfl)(hf:X.fn x=true\/X.env.scope.names.lookup x=some .local:=by first|exact .inl rfl|exact .inr rfl|assumption):PG X (.Name x pos) (qk i):=Lm hN hi hx hf
theorem cz{x qual:Str}{N:List Str}{k:Nat}(F:b9 K x qual st f fd)(S:au N ps (ai st))
  (hb:∀(ke:afg) (A:ahF) (outer:List Env) (s:afC) (H:Hp) (vs:List V) (Q:VK) (E:XK),fF k (A.deeper (envOfC qual (ai st) s.heap.objs.size f ke))->sp vs H Q E->
   ∃t,Bh (z6 bX P w K mg base N qual (ai st) f ke A outer s H E).SA (cq st) t/\t {nx:=fun _ H'=>Q .gw H',rt:=Q} (start N vs) H)
  (len:∀vs H Q E,sp vs H Q E->vs.length=ps.length:=by
   intro _ _ _ _ h;cases h;subst_vars;rfl):aT P w K mg base bX (k+1) f fd ps sp:=F.ok S len hb
abbrev vn(n:Nat):V:=V.int (n:Int)
abbrev NL(H:Hp)(a:afd)(l:List Nat):Prop:=H a=some (.ba (l.map vn))
abbrev IL(H:Hp)(a:afd)(l:List Int):Prop:=H a=some (.ba (l.map V.int))
theorem b8(h:n<=100000):n<sizeLine:=aiV h (by decide)
theorem wL(l:List Nat):l.map vn=(l.map fun n:Nat=>(n:Int)).map V.int:=by
 rw[ag6];rfl
theorem g9(l:List Nat):(l.map vn).all jC=true:=by
 rw[ag5];exact af6.mpr fun _ _=>rfl
theorem kQ:Fs (vn n) (l.map vn)=decide (n∈l):=by
 unfold Fs;rw[anz];by_cases h:n∈l
 .rw[afl h,akE];exact⟨n,h,by show((n:Int)==(n:Int))=true;exact ahv _⟩
 .rw[agd h,al5];intro m hm q;have:(m:Int)=(n:Int):=eq_of_beq (show((m:Int)==(n:Int))=true from q);exact h (by rw[show n=m by omega];exact hm)
theorem yr{a:Nat}:∀{l:List Nat},a∈l->∃j:Nat,l[j]? =some a/\∀(m z:Nat),m<j->l[m]? =some z->z≠a
 | [],h=>nomatch h
 |y::l,h=>by
  by_cases e:y=a
  .exact⟨0,by rw[e];rfl,fun m _ hm=>absurd hm (aim m)⟩
  .obtain⟨j,h1,h2⟩:=yr (a:=a) (l:=l) ((afx.mp h).resolve_left fun z=>e z.symm);refine⟨j+1,h1,fun m z hm hz=> ?_⟩;cases m with
   |zero=>
    have:y=z:=by simpa using hz
    rw[<-this];exact e
   |succ m=>exact h2 m z (akX hm) (by simpa using hz)
abbrev Ra:afR:=dC 10
abbrev Gf:afR:=dC 9
inductive vE(vs:List V)(H:Hp)(Q:VK)(E:XK):Prop|m:∀(l:afd) (x a:Nat) (xs:List Nat),vs=[.ref l,vn x,vn a]->NL H l xs->(a≠0->a∈xs)->xs.length<sizeLine->Q .gw (aE H l (.ba ((agf a x xs).map vn)))->vE vs H Q E
inductive xI(K:afW)(vs:List V)(H:Hp)(Q:VK)(E:XK):Prop|m:∀(l:afd) (a:Nat) (xs:List Nat),vs=[.ref l,vn a]->aJ K H l (xs.map vn)->Q (.bl (decide (a=0\/a∈xs))) H->xI K vs H Q E
theorem Ta:au ["row","name","behind"] ["row","name","behind"] (ai Ra):=cF
theorem O8(F:b9 K "put_behind" "put_behind" Ra f fd):aT P w K mg base bX 1 f fd ["row","name","behind"] vE:=by
 refine cz F Ta fun _ _ _ _ H _ Q E hr h=> ?_
 obtain⟨l,x,a,xs,rfl,hl,ha,hz,k⟩:=h;refine⟨_,af (aZ (aX fU (pv 2) ag (bc _))
  (af (aI (cy afs ajd akx vi (pv 0) (aa ag (aa (pv 1) ab)))))
  (af (aI (cy afs ajd akx vi (pv 0) (aa (bx eh (cy afs ah9 ai1 yQ (pv 0) (aa (pv 2) ab)) ag) (aa (pv 1) ab)))))),?_⟩
 refine⟨_,rfl,rfl,_,rfl,?_⟩;refine aW (fun e=> ?_) (fun e=> ?_)
 .have e0:a=0:=by
   have:=afh e;injection this with this
   omega
  refine⟨_,rfl,.inl ⟨rfl,_,aJ.of hl⟩,_,rfl,l,_,0,0,_,rfl,rfl,rfl,hl,afH _,by rw[afb];exact hz,?_⟩;rw[e0,sQ]at k;exact k
 .have e0:a≠0:=fun z=>e (afl (by rw[z];rfl))
  obtain⟨j,hj,e9⟩:=yr (ha e0);have Qu:j<xs.length:=(aff.mp hj).1;refine⟨_,rfl,.inl ⟨rfl,_,aJ.of hl⟩,_,rfl,.inl ⟨rfl,_,aJ.of hl⟩,_,rfl,l,xs.map vn,vn a,j,vn a,rfl,rfl,aJ.of hl,rfl,g9 xs,by rw[afy,hj];rfl,ahv _,fun m z' hm qo=> ?_,?_⟩
  .rw[afy]at qo;cases q:xs[m]? with
   |none=>rw[q]at qo;cases qo
   |some z=>
    rw[q]at qo;cases qo;have:=e9 m z hm q;exact agU.mpr (show(z:Int)≠(a:Int) by omega)
  .refine⟨_,_,rfl,rfl,_,rfl,l,_,_,j+1,_,rfl,rfl,by omega,hl,by rw[afb];omega,by rw[afb];exact hz,?_⟩;rw[oM e0 hj e9]at k;rw[<-aiM,<-ajA];rw[afD,agb]at k;exact k
theorem LR:au ["row","behind"] ["row","behind"] (ai Gf):=cF
theorem HU(F:b9 K "is_place" "is_place" Gf f fd):aT P w K mg base bX 1 f fd ["row","behind"] (xI K):=by
 refine cz F LR fun _ _ _ _ H _ Q E hr h=> ?_
 obtain⟨l,a,xs,rfl,hl,k⟩:=h;refine⟨_,af (aq (CC (fM fU (pv 1) ag (bc _)) (lu (fM jI (pv 1) (pv 0) (by with_unfolding_all rfl))))),?_⟩;refine⟨_,rfl,rfl,_,rfl,?_⟩;refine aW (fun e=> ?_) (fun e=> ?_)
 .have e0:a=0:=by
   have:=afh e;injection this with this
   omega
  rw[afl (show a=0\/a∈xs from .inl e0)]at k;exact k
 .have e0:a≠0:=fun z=>e (afl (by rw[z];rfl))
  refine⟨_,rfl,_,rfl,l,_,rfl,.inl hl,rfl,g9 xs,?_⟩;rw[show(decide (a=0\/a∈xs))=Fs (vn a) (xs.map vn) by rw[kQ];exact agB.mpr ⟨fun z=>z.resolve_left e0,.inr⟩]at k;exact k
def oj(o w r t g:afd):List (Str×V):=bJ "targets" (.ref g) (bJ "texts" (.ref t) (bJ "rows" (.ref r) (bJ "words" (.ref w) (bJ "order" (.ref o) []))))
section
variable{o w r t g:afd}
theorem bP:(oj o w r t g).lookup ("order":Str)=some (.ref o):=by
 unfold oj;rw[aP,afe (by decide+kernel),aP,afe (by decide+kernel),aP,afe (by decide+kernel),aP,afe (by decide+kernel),aP,afj rfl]
theorem jz:(oj o w r t g).lookup ("words":Str)=some (.ref w):=by
 unfold oj;rw[aP,afe (by decide+kernel),aP,afe (by decide+kernel),aP,afe (by decide+kernel),aP,afj rfl]
theorem du:(oj o w r t g).lookup ("rows":Str)=some (.ref r):=by
 unfold oj;rw[aP,afe (by decide+kernel),aP,afe (by decide+kernel),aP,afj rfl]
theorem gi:(oj o w r t g).lookup ("texts":Str)=some (.ref t):=by
 unfold oj;rw[aP,afe (by decide+kernel),aP,afj rfl]
theorem dN:(oj o w r t g).lookup ("targets":Str)=some (.ref g):=by
 unfold oj;rw[aP,afj rfl]
theorem bF(h:¬m="order"/\¬m="words"/\¬m="rows"/\¬m="texts"/\¬m="targets"):(oj o w r t g).lookup m=none:=by
 unfold oj;rw[aP,afe h.2.2.2.2,aP,afe h.2.2.2.1,aP,afe h.2.2.1,aP,afe h.2.1,aP,afe h.1]
 all_goals rfl
end
structure BA where
 dx:afd
 o:afd
 w:afd
 r:afd
 t:afd
 g:afd
 wk:List (br×V)
 rk:List (br×V)
 tk:List (br×V)
 gk:List (br×V)
 wa:Nat->afd
 ra:Nat->afd
 ta:Nat->afd
def pq(aQ:List (br×V))(ks:List Nat)(f:Nat->V):Prop:=∀n:Nat,ee aQ (afz (n:Int))=if n∈ks then some (f n)else none
abbrev eQ(b:afd)(d:BA):List afd:=[b,d.dx,d.o,d.w,d.r,d.t,d.g]
def bS(b:afd)(d:BA)(B:aga):List afd:=eQ b d++(names B).map d.ra
structure gf(C:afd)(H:Hp)(b:afd)(d:BA)(ord ks:List Nat)(row:Nat->List Nat)(FZ:List afd):Prop where
 ins:H b=some (.ins C d.dx (oj d.o d.w d.r d.t d.g))
 own:H d.dx=some (.own b)
 ord:NL H d.o ord
 hw:H d.w=some (.dK d.wk)
 hr:H d.r=some (.dK d.rk)
 ht:H d.t=some (.dK d.tk)
 hg:H d.g=some (.dK d.gk)
 row:∀e∈ks,NL H (d.ra e) (row e)
 nd:(eQ b d++ks.map d.ra).Nodup
 fz:∀a∈eQ b d++ks.map d.ra,a∉FZ
 fzt:∀a∈FZ,∃o,H a=some o
abbrev dz(B:aga)(e:Nat):List Nat:=(entryAt B e).senses
structure aV(C:afd)(H:Hp)(b:afd)(d:BA)(B:aga)(FZ:List afd)(N:Nat):Prop where
 wf:WF B
 bq:gf C H b d (names B) (names B) (dz B) FZ
 lw:d.wk.length<=N
 lr:d.rk.length<=N
 lt:d.tk.length<=N
 lg:d.gk.length<=N
 le:(names B).length<=N
 ls:(afF B).length<=N
 dw:pq d.wk (names B) (fun e=> .ref (d.wa e))
 dr:pq d.rk (names B) (fun e=> .ref (d.ra e))
 dt:pq d.tk (aD B) (fun n=> .ref (d.ta n))
 dg:pq d.gk (aD B) (fun n=>vn (aft B n).points)
 word:∀e∈B.entries,d.wa e.name∈FZ/\NL H (d.wa e.name) e.word
 text:∀s∈B.senses,d.ta s.name∈FZ/\NL H (d.ta s.name) s.text
def Kp(S:List afd)(H H':Hp):Prop:=∀a o,H a=some o->a∉S->H' a=some o
theorem Kp.refl(S:List afd)(H:Hp):Kp S H H:=fun _ _ h _=>h
theorem Kp.trans{S:List afd}(h1:Kp S H H1)(h2:Kp S H1 H2):Kp S H H2:=fun a o e n=>h2 a o (h1 a o e n) n
theorem Kp.fJ{S T:List afd}(h:Kp S H H1)(sub:∀a∈S,a∈T):Kp T H H1:=fun a o e n=>h a o e fun z=>n (sub a z)
theorem Kp.gZ{S:List afd}(h:a∈S):Kp S H (L2.aE H a o):=fun b _ e n=>by rw[ao (fun z=>n (by rw[z];exact h))];exact e
theorem Kp.new{S:List afd}(h:H a=none):Kp S H (L2.aE H a o):=fun b _ e _=>by rw[ao (ak e h)];exact e
def Gr(H:Hp)(S T:List afd):Prop:=∀a∈T,a∈S\/H a=none
theorem Ny{α:Type}{l:List α}{x y:α}(h:l.Nodup)(hx:l[i]? =some x)(hy:l[j]? =some y)(Ue:i≠j):x≠y:=fun e=>by
 subst e;exact Ue (Nw h hx hy)
section
variable{ord:List Nat}{row:Nat->List Nat}
theorem gf.ne(h:gf C H b d ord ks row FZ){x y:afd}(hx:(eQ b d)[i]? =some x)(hy:(eQ b d)[j]? =some y)(Ue:i≠j):x≠y:=
 Ny (ahf.mp h.nd).1 hx hy Ue
theorem gf.Hd(h:gf C H b d ord ks row FZ){x:afd}(hx:x∈eQ b d)(he:e∈ks):d.ra e≠x:=fun z=>
 (ahf.mp h.nd).2.2 x hx (d.ra e) (afJ.mpr ⟨e,he,rfl⟩) z.symm
theorem gf.S4(h:gf C H b d ord ks row FZ){e':Nat}(he:e∈ks)(Ox:e'∈ks)(gh:e≠e'):d.ra e≠d.ra e':=by
 have hn:=(ahf.mp h.nd).2.1;obtain⟨i,hi⟩:=agc he;obtain⟨j,hj⟩:=agc Ox;exact Ny hn (i:=i) (j:=j) (by rw[afy,hi];rfl) (by rw[afy,hj];rfl) (fun z=>by
  subst z;exact gh (afv (hi.symm.trans hj)))
theorem gf.Ke(h:gf C H b d ord ks row FZ)(a:afd)(o:HO):∀c∈FZ,∃o',L2.aE H a o c=some o':=fun c hc=>by
 by_cases e:c=a
 .rw[e,aj];exact⟨_,rfl⟩
 .rw[ao e];exact h.fzt c hc
theorem gf.LY(h:gf C H b d ord ks row FZ)(l:List Nat):gf C (aE H d.o (.ba (l.map vn))) b d l ks row FZ where
 ins:=by rw[ao (h.ne (i:=0) (j:=2) rfl rfl (by decide))];exact h.ins
 own:=by rw[ao (h.ne (i:=1) (j:=2) rfl rfl (by decide))];exact h.own
 ord:=aj
 hw:=by rw[ao (h.ne (i:=3) (j:=2) rfl rfl (by decide))];exact h.hw
 hr:=by rw[ao (h.ne (i:=4) (j:=2) rfl rfl (by decide))];exact h.hr
 ht:=by rw[ao (h.ne (i:=5) (j:=2) rfl rfl (by decide))];exact h.ht
 hg:=by rw[ao (h.ne (i:=6) (j:=2) rfl rfl (by decide))];exact h.hg
 row:=fun e he=>by show L2.aE _ _ _ _=_;rw[ao (h.Hd (by simp) he)];exact h.row e he
 nd:=h.nd
 fz:=h.fz
 fzt:=h.Ke _ _
theorem gf.Td(h:gf C H b d ord ks row FZ)(m:List (br×V)):gf C (aE H d.w (.dK m)) b {d with wk:=m} ord ks row FZ where
 ins:=by rw[ao (h.ne (i:=0) (j:=3) rfl rfl (by decide))];exact h.ins
 own:=by show L2.aE _ _ _ d.dx=_;rw[ao (h.ne (i:=1) (j:=3) rfl rfl (by decide))];exact h.own
 ord:=by show L2.aE _ _ _ d.o=_;rw[ao (h.ne (i:=2) (j:=3) rfl rfl (by decide))];exact h.ord
 hw:=aj
 hr:=by show L2.aE _ _ _ d.r=_;rw[ao (h.ne (i:=4) (j:=3) rfl rfl (by decide))];exact h.hr
 ht:=by show L2.aE _ _ _ d.t=_;rw[ao (h.ne (i:=5) (j:=3) rfl rfl (by decide))];exact h.ht
 hg:=by show L2.aE _ _ _ d.g=_;rw[ao (h.ne (i:=6) (j:=3) rfl rfl (by decide))];exact h.hg
 row:=fun e he=>by show L2.aE _ _ _ (d.ra e)=_;rw[ao (h.Hd (by simp) he)];exact h.row e he
 nd:=h.nd
 fz:=h.fz
 fzt:=h.Ke _ _
theorem gf.PQ(h:gf C H b d ord ks row FZ)(m:List (br×V)):gf C (aE H d.r (.dK m)) b {d with rk:=m} ord ks row FZ where
 ins:=by rw[ao (h.ne (i:=0) (j:=4) rfl rfl (by decide))];exact h.ins
 own:=by show L2.aE _ _ _ d.dx=_;rw[ao (h.ne (i:=1) (j:=4) rfl rfl (by decide))];exact h.own
 ord:=by show L2.aE _ _ _ d.o=_;rw[ao (h.ne (i:=2) (j:=4) rfl rfl (by decide))];exact h.ord
 hw:=by show L2.aE _ _ _ d.w=_;rw[ao (h.ne (i:=3) (j:=4) rfl rfl (by decide))];exact h.hw
 hr:=aj
 ht:=by show L2.aE _ _ _ d.t=_;rw[ao (h.ne (i:=5) (j:=4) rfl rfl (by decide))];exact h.ht
 hg:=by show L2.aE _ _ _ d.g=_;rw[ao (h.ne (i:=6) (j:=4) rfl rfl (by decide))];exact h.hg
 row:=fun e he=>by show L2.aE _ _ _ (d.ra e)=_;rw[ao (h.Hd (by simp) he)];exact h.row e he
 nd:=h.nd
 fz:=h.fz
 fzt:=h.Ke _ _
theorem gf.LZ(h:gf C H b d ord ks row FZ)(m:List (br×V)):gf C (aE H d.t (.dK m)) b {d with tk:=m} ord ks row FZ where
 ins:=by rw[ao (h.ne (i:=0) (j:=5) rfl rfl (by decide))];exact h.ins
 own:=by show L2.aE _ _ _ d.dx=_;rw[ao (h.ne (i:=1) (j:=5) rfl rfl (by decide))];exact h.own
 ord:=by show L2.aE _ _ _ d.o=_;rw[ao (h.ne (i:=2) (j:=5) rfl rfl (by decide))];exact h.ord
 hw:=by show L2.aE _ _ _ d.w=_;rw[ao (h.ne (i:=3) (j:=5) rfl rfl (by decide))];exact h.hw
 hr:=by show L2.aE _ _ _ d.r=_;rw[ao (h.ne (i:=4) (j:=5) rfl rfl (by decide))];exact h.hr
 ht:=aj
 hg:=by show L2.aE _ _ _ d.g=_;rw[ao (h.ne (i:=6) (j:=5) rfl rfl (by decide))];exact h.hg
 row:=fun e he=>by show L2.aE _ _ _ (d.ra e)=_;rw[ao (h.Hd (by simp) he)];exact h.row e he
 nd:=h.nd
 fz:=h.fz
 fzt:=h.Ke _ _
theorem gf.LX(h:gf C H b d ord ks row FZ)(m:List (br×V)):gf C (aE H d.g (.dK m)) b {d with gk:=m} ord ks row FZ where
 ins:=by rw[ao (h.ne (i:=0) (j:=6) rfl rfl (by decide))];exact h.ins
 own:=by show L2.aE _ _ _ d.dx=_;rw[ao (h.ne (i:=1) (j:=6) rfl rfl (by decide))];exact h.own
 ord:=by show L2.aE _ _ _ d.o=_;rw[ao (h.ne (i:=2) (j:=6) rfl rfl (by decide))];exact h.ord
 hw:=by show L2.aE _ _ _ d.w=_;rw[ao (h.ne (i:=3) (j:=6) rfl rfl (by decide))];exact h.hw
 hr:=by show L2.aE _ _ _ d.r=_;rw[ao (h.ne (i:=4) (j:=6) rfl rfl (by decide))];exact h.hr
 ht:=by show L2.aE _ _ _ d.t=_;rw[ao (h.ne (i:=5) (j:=6) rfl rfl (by decide))];exact h.ht
 hg:=aj
 row:=fun e he=>by show L2.aE _ _ _ (d.ra e)=_;rw[ao (h.Hd (by simp) he)];exact h.row e he
 nd:=h.nd
 fz:=h.fz
 fzt:=h.Ke _ _
theorem gf.f7(h:gf C H b d ord ks row FZ){x:afd}(he:e∈ks)(hx:x∈eQ b d):x≠d.ra e:=fun z=>h.Hd hx he z.symm
theorem gf.xl(h:gf C H b d ord ks row FZ)(he:e∈ks)(l:List Nat):gf C (aE H (d.ra e) (.ba (l.map vn))) b d ord ks (fun n=>if n=e then l else row n) FZ where
 ins:=by rw[ao (h.f7 he (by simp))];exact h.ins
 own:=by rw[ao (h.f7 he (by simp))];exact h.own
 ord:=by show L2.aE _ _ _ d.o=_;rw[ao (h.f7 he (by simp))];exact h.ord
 hw:=by rw[ao (h.f7 he (by simp))];exact h.hw
 hr:=by rw[ao (h.f7 he (by simp))];exact h.hr
 ht:=by rw[ao (h.f7 he (by simp))];exact h.ht
 hg:=by rw[ao (h.f7 he (by simp))];exact h.hg
 row:=fun n hn=>by
  show L2.aE _ _ _ _=_;by_cases q:n=e
  .rw[afj q,q,aj]
  .rw[afe q,ao (h.S4 hn he q)];exact h.row n hn
 nd:=h.nd
 fz:=h.fz
 fzt:=h.Ke _ _
theorem gf.He(h:gf C H b d ord ks row FZ){p:afd}(hp:H p=none)(he:¬e∈ks)(l:List Nat):gf C (aE H p (.ba (l.map vn))) b {d with ra:=fun n=>if n=e then p else d.ra n} ord (e::ks) (fun n=>if n=e then l else row n) FZ where
 ins:=by rw[ao (ak h.ins hp)];exact h.ins
 own:=by show L2.aE _ _ _ d.dx=_;rw[ao (ak h.own hp)];exact h.own
 ord:=by show L2.aE _ _ _ d.o=_;rw[ao (ak h.ord hp)];exact h.ord
 hw:=by show L2.aE _ _ _ d.w=_;rw[ao (ak h.hw hp)];exact h.hw
 hr:=by show L2.aE _ _ _ d.r=_;rw[ao (ak h.hr hp)];exact h.hr
 ht:=by show L2.aE _ _ _ d.t=_;rw[ao (ak h.ht hp)];exact h.ht
 hg:=by show L2.aE _ _ _ d.g=_;rw[ao (ak h.hg hp)];exact h.hg
 row:=fun n hn=>by
  show L2.aE _ _ _ (if n=e then p else d.ra n)=_;by_cases q:n=e
  .rw[afj q,afj q,aj]
  .have Ui:n∈ks:=(afx.mp hn).resolve_left q;rw[afe q,afe q,ao (ak (h.row n Ui) hp)];exact h.row n Ui
 nd:=by
  have e1:(e::ks).map (fun n=>if n=e then p else d.ra n)=p::ks.map d.ra:=by
   rw[agb,afj rfl];congr 1;exact ahd fun n hn=>afe (fun(q:n=e)=>he (by rw[<-q];exact hn))
  show(eQ b d++(e::ks).map (fun n=>if n=e then p else d.ra n)).Nodup;rw[e1];refine(List.perm_middle (a:=p) (l₁:=eQ b d) (l₂:=ks.map d.ra)).nodup_iff.mpr (afG.mpr ⟨fun z=> ?_,h.nd⟩);rcases afN.mp z with z|z
  .have:p=b\/p=d.dx\/p=d.o\/p=d.w\/p=d.r\/p=d.t\/p=d.g:=by simpa using z
   rcases this with q|q|q|q|q|q|q<;>rw[q]at hp
   .rw[h.ins]at hp;cases hp
   .rw[h.own]at hp;cases hp
   .rw[h.ord]at hp;cases hp
   .rw[h.hw]at hp;cases hp
   .rw[h.hr]at hp;cases hp
   .rw[h.ht]at hp;cases hp
   .rw[h.hg]at hp;cases hp
  .obtain⟨n,hn,rfl⟩:=afJ.mp z;rw[h.row n hn]at hp;cases hp
 fz:=fun a ha=>by
  have Kk:a∈eQ b d\/a∈(e::ks).map (fun n=>if n=e then p else d.ra n):=afN.mp ha;rcases Kk with z|z
  .exact h.fz a (af0 _ z)
  .obtain⟨n,hn,q⟩:=afJ.mp z;by_cases gh:n=e
   .rw[afj gh]at q;intro hf;obtain⟨o,ho⟩:=h.fzt a hf;rw[<-q,hp]at ho;cases ho
   .rw[afe gh]at q;exact h.fz a (afK _ (afJ.mpr ⟨n,(afx.mp hn).resolve_left gh,q⟩))
 fzt:=h.Ke _ _
theorem gf.sub(h:gf C H b d ord ks row FZ)(hn:ks'.Nodup)(hs:∀e∈ks',e∈ks):gf C H b d ord ks' row FZ:=
 {h with
  row:=fun e he=>h.row e (hs e he)
  nd:=by
   refine ahf.mpr ⟨(ahf.mp h.nd).1,?_,fun x hx y hy=> ?_⟩
   .refine List.pairwise_map.mpr (ano (fun{a c} ha hc gh=> ?_) hn);exact h.S4 (hs a ha) (hs c hc) gh
   .obtain⟨n,hn,rfl⟩:=afJ.mp hy;exact(h.Hd hx (hs n hn)).symm
  fz:=fun a ha=>by
   rcases afN.mp ha with z|z
   .exact h.fz a (af0 _ z)
   .obtain⟨n,hn,q⟩:=afJ.mp z;exact h.fz a (afK _ (afJ.mpr ⟨n,hs n hn,q⟩))}
theorem gf.rows(h:gf C H b d ord ks row FZ){row':Nat->List Nat}(e:∀n∈ks,row' n=row n):gf C H b d ord ks row' FZ:=
 {h with row:=fun n hn=>by rw[e n hn];exact h.row n hn}
theorem gf.keep{S:List afd}(h:gf C H b d ord ks row FZ)(k:Kp S H H')(h1:∀a∈eQ b d++ks.map d.ra,a∉S)(h2:∀a∈FZ,a∉S):gf C H' b d ord ks row FZ:=by
 have f7:∀a∈eQ b d,a∉S:=fun a ha=>h1 a (af0 _ ha)
 exact⟨k _ _ h.ins (f7 _ (by simp)),k _ _ h.own (f7 _ (by simp)),k _ _ h.ord (f7 _ (by simp)),k _ _ h.hw (f7 _ (by simp)),k _ _ h.hr (f7 _ (by simp)),k _ _ h.ht (f7 _ (by simp)),k _ _ h.hg (f7 _ (by simp)),
  fun e he=>k _ _ (h.row e he) (h1 _ (afK _ (afJ.mpr ⟨e,he,rfl⟩))),h.nd,h.fz,fun a ha=>let⟨o,ho⟩:=h.fzt a ha;⟨o,k a o ho (h2 a ha)⟩⟩
end
theorem sA:a∈bS b d B↔a∈eQ b d\/∃e∈B.entries,d.ra e.name=a:=by
 unfold bS;rw[afN,afJ];refine alp ajg ?_;constructor
 .rintro⟨n,hn,e⟩;obtain⟨x,hx,rfl⟩:=aY.mp hn;exact⟨x,hx,e⟩
 .rintro⟨x,hx,e⟩;exact⟨x.name,aY.mpr ⟨x,hx,rfl⟩,e⟩
theorem aV.keep{C:afd}{H H':Hp}{b:afd}{d:BA}{B:aga}{FZ:List afd}{N:Nat}{S:List afd}(h:aV C H b d B FZ N)(k:Kp S H H')(h1:∀a∈bS b d B,a∉S)(h2:∀a∈FZ,a∉S):aV C H' b d B FZ N:=
 {h with bq:=h.bq.keep k h1 h2,word:=fun e he=>⟨(h.word e he).1,k _ _ (h.word e he).2 (h2 _ (h.word e he).1)⟩,text:=fun s hs=>⟨(h.text s hs).1,k _ _ (h.text s hs).2 (h2 _ (h.text s hs).1)⟩}
theorem aV.more(h:aV C H b d B FZ N)(hN:N<=N')(hF:∀a∈FZ,a∈cZ)(hd:∀a∈bS b d B,a∉cZ)(ht:∀a∈cZ,∃o,H a=some o):aV C H b d B cZ N':=
 {h with bq:={h.bq with fz:=hd,fzt:=ht},lw:=afw h.lw hN,lr:=afw h.lr hN,lt:=afw h.lt hN,lg:=afw h.lg hN,le:=afw h.le hN,ls:=afw h.ls hN,word:=fun e he=>⟨hF _ (h.word e he).1,(h.word e he).2⟩,text:=fun s hs=>⟨hF _ (h.text s hs).1,(h.text s hs).2⟩}
structure mC(K:afW)(mg:Str->Option afg)(C:afd):Prop where
 cl:zI K C
 nO:fE K C "order"
 nW:fE K C "words"
 nR:fE K C "rows"
 nT:fE K C "texts"
 nG:fE K C "targets"
 ZK:mg "Book"=some (.ref C)
inductive pU(C:afd)(vs:List V)(H:Hp)(Q:VK)(E:XK):Prop|m:∀(b:afd) (d:BA) (B:aga) (FZ:List afd) (N e:Nat),vs=[.ref b,vn e]->aV C H b d B FZ N->Q (.bl (agn B e)) H->pU C vs H Q E
inductive xy(C:afd)(vs:List V)(H:Hp)(Q:VK)(E:XK):Prop|m:∀(b:afd) (d:BA) (B:aga) (FZ:List afd) (N e:Nat),vs=[.ref b,vn e]->aV C H b d B FZ N->Q (.bl (ahL B e)) H->xy C vs H Q E
theorem pq.xn{f:Nat->V}(h:pq aQ ks f)(n:Nat):(ee aQ (afz (n:Int))).isSome=decide (n∈ks):=by
 rw[h n];by_cases e:n∈ks
 .rw[afj e,afl e];rfl
 .rw[afe e,agd e];rfl
theorem wt(B:aga)(e:Nat):agn B e=decide (e∈names B):=by
 by_cases h:e∈names B
 .rw[afl h];exact iR.mpr h
 .rw[agd h];exact cg.mpr h
theorem wu(B:aga)(e:Nat):ahL B e=decide (e∈aD B):=by
 by_cases h:e∈aD B
 .rw[afl h];exact eC.mpr h
 .rw[agd h];exact dF.mpr h
abbrev Mz:afR:=bt ip 1
abbrev MA:afR:=bt ip 2
theorem PB:au ["self","entry"] ["self","entry"] (ai Mz):=cF
theorem PD:au ["self","sense"] ["self","sense"] (ai MA):=cF
theorem K3(F:b9 K "has_entry" "Book.has_entry" Mz f fd)(T:mC K mg C):aT P w K mg base bX 1 f fd ["self","entry"] (pU C):=by
 refine cz F PB fun _ _ _ _ H _ Q E hr h=> ?_
 obtain⟨b,d,B,FZ,N,e,rfl,hB,k⟩:=h;refine⟨_,af (aq (Ij (AI (bZ hr) (pv 1) (az (pv 0))) (by with_unfolding_all rfl))),?_⟩;refine⟨_,rfl,_,rfl,b,C,d.dx,_,_,rfl,hB.bq.ins,T.cl,T.nW,jz,d.w,_,rfl,ei.k (k:=afz (e:Int)) hB.bq.hw,?_⟩;rw[wt]at k;rw[hB.dw.xn];exact k
theorem K4(F:b9 K "has_sense" "Book.has_sense" MA f fd)(T:mC K mg C):aT P w K mg base bX 1 f fd ["self","sense"] (xy C):=by
 refine cz F PD fun _ _ _ _ H _ Q E hr h=> ?_
 obtain⟨b,d,B,FZ,N,e,rfl,hB,k⟩:=h;refine⟨_,af (aq (Ij (AI (bZ hr) (pv 1) (az (pv 0))) (by with_unfolding_all rfl))),?_⟩;refine⟨_,rfl,_,rfl,b,C,d.dx,_,_,rfl,hB.bq.ins,T.cl,T.nT,gi,d.t,_,rfl,ei.k (k:=afz (e:Int)) hB.bq.ht,?_⟩;rw[wu]at k;rw[hB.dt.xn];exact k
theorem qV{m:Nat}:((afz (m:Int):br)=afz (n:Int))↔m=n:=by
 constructor
 .intro h;have:=alf h;omega
 .intro h;rw[h]
theorem pq.gZ{f:Nat->V}{v:V}(h:pq aQ ks f)(hk:∀m,m∈ks'↔m=n\/m∈ks)(hv:f' n=v)(hf:∀m∈ks,m≠n->f' m=f m):pq (dR aQ (afz (n:Int)) v) ks' f':=fun m=>by
 rw[Jq];by_cases e:m=n
 .rw[afj (qV.mpr e),afj ((hk m).mpr (.inl e)),e,hv]
 .rw[afe (fun z=>e (qV.mp z)),h m];by_cases q:m∈ks
  .rw[afj q,afj ((hk m).mpr (.inr q)),hf m q e]
  .rw[afe q,afe (fun z=>((hk m).mp z).elim e q)]
theorem Fi(aQ:List (br×V))(k j:br):ee (cU aQ k) j=if j=k then none else ee aQ j:=by
 induction aQ with
 |nil=>split<;>rfl
 |cons p r ih=>
  by_cases e:p.1=k
  .rw[DF e,ih];by_cases q:j=k
   .rw[afj q,afj q]
   .rw[afe q,afe q,dS (fun z=>q (z.symm.trans e))]
  .rw[DE e];by_cases q:p.1=j
   .rw[eF q,eF q,afe (fun z=>e (q.trans z))]
   .rw[dS q,dS q,ih]
theorem iZ(aQ:List (br×V))(k:br):(cU aQ k).length<=aQ.length:=af8 _ _
theorem pq.drop{f:Nat->V}(h:pq aQ ks f)(hk:∀m,m∈ks'↔m≠n/\m∈ks)(hf:∀m∈ks',f' m=f m):pq (cU aQ (afz (n:Int))) ks' f':=fun m=>by
 rw[Fi];by_cases e:m=n
 .rw[afj (qV.mpr e),afe (fun z=>((hk m).mp z).1 e)]
 .rw[afe (fun z=>e (qV.mp z)),h m];by_cases q:m∈ks
  .rw[afj q,afj ((hk m).mpr ⟨e,q⟩),hf m ((hk m).mpr ⟨e,q⟩)]
  .rw[afe q,afe (fun z=>q ((hk m).mp z).2)]
theorem pq.same{f:Nat->V}(h:pq aQ ks f)(hk:∀m,m∈ks'↔m∈ks)(hf:∀m∈ks',f' m=f m):pq aQ ks' f':=fun m=>by
 rw[h m];by_cases q:m∈ks
 .rw[afj q,afj ((hk m).mpr q),hf m ((hk m).mpr q)]
 .rw[afe q,afe (fun z=>q ((hk m).mp z))]
theorem pq.get{f:Nat->V}(h:pq aQ ks f)(hn:n∈ks):ee aQ (afz (n:Int))=some (f n):=by rw[h n,afj hn]
theorem eV{p:afd}(h:L2.aE H a o p=none):H p=none:=by
 by_cases e:p=a
 .rw[e,aj]at h;cases h
 .rw[ao e]at h;exact h
def kx(C:afd)(H:Hp)(b:afd)(d:BA)(B B':aga)(FZ:List afd)(N:Nat)(Q:VK):Prop:=
 ∀(H':Hp) (d':BA),aV C H' b d' B' FZ N->Kp (bS b d B) H H'->Gr H (bS b d B) (bS b d' B')->Q .gw H'
inductive xD(C:afd)(vs:List V)(H:Hp)(Q:VK)(E:XK):Prop|m:∀(b:afd) (d:BA) (B:aga) (FZ:List afd) (N e a:Nat) (aw:afd) (wd:List Nat),vs=[.ref b,vn e,vn a,.ref aw]->aV C H b d B FZ N->N<100000->¬e∈names B->e≠0->(a≠0->a∈names B)->aw∈FZ->NL H aw wd->kx C H b d B {B with entries:=ahh a ⟨e,wd,[]⟩ B.entries} FZ (N+1) Q->xD C vs H Q E
abbrev F4:afR:=bt ip 4
theorem LI:au ["self","entry","behind","word"] ["self","entry","behind","word"] (ai F4):=cF
structure jw(P:afA)(w:af4)(K:afW)(mg:Str->Option afg)(base:agg)(k:Nat)(x:Str)(ps:List Str)(sp:Sp)(f:afd)(fd:afE):Prop where
 ok:aT P w K mg base bX k f fd ps sp
 mg:mg x=some (.ref f)
 kp:keepIn K (.ref f)=true
 bi:eY K fd ps []
structure zJ(P:afA)(w:af4)(K:afW)(mg:Str->Option afg)(base:agg)(k:Nat)(C:afd)(x:Str)(ps:List Str)(sp:Sp)(f:afd)(fd:afE):Prop where
 ok:aT P w K mg base bX k f fd ps sp
 me:Dk K C x f
 bi:eY K fd ps []
theorem dQ{S:List afd}(h:Kp S H H1)(ha:a∈S\/H1 a=none):Kp S H (L2.aE H1 a o):=by
 rcases ha with ha|ha
 .exact h.trans (Kp.gZ ha)
 .exact h.trans (Kp.new ha)
theorem wB(h:a∈eQ b d):a∈bS b d B:=af0 _ h
theorem OJ(h:e∈names B):d.ra e∈bS b d B:=afK _ (afJ.mpr ⟨e,h,rfl⟩)
theorem HI(F:b9 K "make_entry" "Book.make_entry" F4 f fd)(T:mC K mg C)(cP:jw P w K mg base 1 "put_behind" ["row","name","behind"] vE fp fY):aT P w K mg base bX 2 f fd ["self","entry","behind","word"] (xD C):=by
 refine cz F LI fun _ _ _ _ H _ Q E hr h=> ?_
 obtain⟨b,d,B,FZ,N,e,a,aw,wd,rfl,hB,hN,he,Oy,ha,RI,Wb,k⟩:=h;refine⟨_,ae (aI (bh cP.ok hr rfl cP.mg cP.kp cP.bi .nil bw (aa (az (pv 0)) (aa (pv 1) (aa (pv 2) ab)))))
  (ae (iT (bZ hr) (az (pv 0)) (pv 1) (pv 3) rfl)
  (af (iT (bZ hr) (az (pv 0)) (pv 1) (cp ab) rfl))),?_⟩
 have L0:=hB.bq;refine⟨_,rfl,b,C,d.dx,_,_,rfl,L0.ins,T.cl,T.nO,bP,_,rfl,_,rfl,d.o,e,a,_,rfl,L0.ord,ha,b8 (by have:=hB.le;omega),?_⟩;have L1:=L0.LY (agf a e (names B));refine⟨_,rfl,_,rfl,b,C,d.dx,_,_,rfl,L1.ins,T.cl,T.nW,jz,_,rfl,d.w,_,rfl,pA.k (k:=afz (e:Int)) L1.hw (b8 (by have:=hB.lw;omega)),?_⟩;have mq:=L1.Td (dR d.wk (afz (e:Int)) (.ref aw));refine⟨afH _,fun p hp=> ?_⟩;have L3:=mq.He hp (e:=e) he [];refine⟨_,rfl,b,C,d.dx,_,_,rfl,L3.ins,T.cl,T.nR,du,_,rfl,d.r,_,rfl,pA.k (k:=afz (e:Int)) L3.hr (b8 (by have:=hB.lr;show d.rk.length<=_;omega)),?_⟩;have L4:=L3.PQ (dR d.rk (afz (e:Int)) (.ref p));have jR:names {B with entries:=ahh a ⟨e,wd,[]⟩ B.entries}=agf a e (names B):=gO a ⟨e,wd,[]⟩ B.entries;have pZ:WF {B with entries:=ahh a ⟨e,wd,[]⟩ B.entries}:=hB.wf.entry he Oy;have ve:Kp (bS b d B) H (aE H d.o (.ba ((agf a e (names B)).map vn))):=Kp.gZ (wB (by simp));have fA:=dQ (o:= .dK (dR d.wk (afz (e:Int)) (.ref aw))) ve (.inl (wB (B:=B) (b:=b) (d:=d) (a:=d.w) (by simp)));have Aj:=dQ (o:= .ba (([]:List Nat).map vn)) fA (.inr hp);have Qz:=dQ (o:= .dK (dR d.rk (afz (e:Int)) (.ref p))) Aj (.inl (wB (B:=B) (b:=b) (d:=d) (a:=d.r) (by simp)));have nF:∀c∈FZ,¬c∈bS b d B:=fun c hc z=>L0.fz c z hc
 refine k _ {d with wk:=dR d.wk (afz (e:Int)) (.ref aw),rk:=dR d.rk (afz (e:Int)) (.ref p),wa:=fun n=>if n=e then aw else d.wa n,ra:=fun n=>if n=e then p else d.ra n} ?_ Qz ?_
 .have bY:(agf a e (names B)).length=(names B).length+1:=(fV a e (names B)).length_eq;refine{wf:=pZ,bq:= ?_,lw:= ?_,lr:= ?_,lt:=afM hB.lt,lg:=afM hB.lg,le:= ?_,ls:= ?_,dw:= ?_,dr:= ?_,dt:=hB.dt,dg:=hB.dg,word:= ?_,text:= ?_}
  .rw[jR];have L5:=L4.sub (ks':=agf a e (names B)) (kj hB.wf.en he) (fun n hn=>by rw[afx];exact hC.mp hn);have L6:gf C _ b {d with wk:=dR d.wk (afz (e:Int)) (.ref aw),rk:=dR d.rk (afz (e:Int)) (.ref p),wa:=fun n=>if n=e then aw else d.wa n,ra:=fun n=>if n=e then p else d.ra n} _ _ _ FZ:=⟨L5.ins,L5.own,L5.ord,L5.hw,L5.hr,L5.ht,L5.hg,L5.row,L5.nd,L5.fz,L5.fzt⟩;refine L6.rows fun n hn=> ?_
   have hm:n∈names {B with entries:=ahh a ⟨e,wd,[]⟩ B.entries}:=by rw[jR];exact hn
   obtain⟨x,hx,rfl⟩:=aY.mp hm;show(entryAt _ x.name).senses=_;rw[bp pZ hx];rcases fu.mp hx with q|q
   .subst q;rw[afj rfl]
   .rw[afe (fun z=>he (by rw[<-z];exact aY.mpr ⟨x,q,rfl⟩))];show _=(entryAt B x.name).senses;rw[bp hB.wf q]
  .have:=dm d.wk (afz (e:Int):br) (.ref aw);have:=hB.lw;show(dR d.wk _ _).length<=_;omega
  .have:=dm d.rk (afz (e:Int):br) (.ref p);have:=hB.lr;show(dR d.rk _ _).length<=_;omega
  .rw[jR,bY];have:=hB.le;omega
  .have:(afF {B with entries:=ahh a ⟨e,wd,[]⟩ B.entries}).length=(afF B).length:=by
    have:=(iW (gj a ⟨e,wd,[]⟩ B.entries)).length_eq;rw[agi]at this;exact this
   rw[this];exact afM hB.ls
  .rw[jR];exact hB.dw.gZ (fun m=>hC) (by show V.ref (if e=e then aw else _)=_;rw[afj rfl]) fun m _ hm=>by show V.ref (if m=e then aw else _)=_;rw[afe hm]
  .rw[jR];exact hB.dr.gZ (fun m=>hC) (by show V.ref (if e=e then p else _)=_;rw[afj rfl]) fun m _ hm=>by show V.ref (if m=e then p else _)=_;rw[afe hm]
  .intro x hx;rcases fu.mp hx with q|q
   .subst q;show(if e=e then aw else _)∈FZ/\NL _ (if e=e then aw else _) _;rw[afj rfl];exact⟨RI,Qz _ _ Wb (nF _ RI)⟩
   .show(if x.name=e then aw else _)∈FZ/\NL _ (if x.name=e then aw else _) _;rw[afe (fun z=>he (by rw[<-z];exact aY.mpr ⟨x,q,rfl⟩))];exact⟨(hB.word x q).1,Qz _ _ (hB.word x q).2 (nF _ (hB.word x q).1)⟩
  .exact fun x hx=>⟨(hB.text x hx).1,Qz _ _ (hB.text x hx).2 (nF _ (hB.text x hx).1)⟩
 .intro c hc;rcases sA.mp hc with z|⟨x,hx,q⟩
  .exact .inl (wB z)
  .rcases fu.mp hx with r|r
   .subst r;have q':(if e=e then p else d.ra e)=c:=q;rw[afj rfl]at q';rw[<-q'];exact .inr (eV (eV hp))
   .have q':(if x.name=e then p else d.ra x.name)=c:=q;rw[afe (fun z=>he (by rw[<-z];exact aY.mpr ⟨x,r,rfl⟩))]at q';rw[<-q'];exact .inl (OJ (aY.mpr ⟨x,r,rfl⟩))
theorem k9{g:ai0->ai0}{y:ai0}:y∈(onSense B n g).senses↔∃z∈B.senses,(if z.name=n then g z else z)=y:=afJ
theorem kY{x:Nat}{g:List Nat->List Nat}{y:afo}:y∈(ahx B x g).entries↔∃z∈B.entries,(if z.name=x then{z with senses:=g z.senses}else z)=y:=afJ
theorem pN{y:afo}:y∈(aiv B n).entries↔∃z∈B.entries,({z with senses:=z.senses.filter fun y=>y !=n}:afo)=y:=afJ
theorem iJ{m:Nat}{g:ai0->ai0}(w:WF B)(hg:∀s,(g s).name=s.name)(hm:m∈aD B):aft (onSense B n g) m=if m=n then g (aft B m)else aft B m:=by
 obtain⟨z,hz,rfl⟩:=dB.mp hm;have w':WF (onSense B n g):=w.onSense hg;have hy:(if z.name=n then g z else z)∈(onSense B n g).senses:=k9.mpr ⟨z,hz,rfl⟩;have e:(if z.name=n then g z else z).name=z.name:=by
  split
  .exact hg z
  .rfl
 have:=eL w' hy;rw[e]at this;rw[this,eL w hz]
inductive Jh(C:afd)(vs:List V)(H:Hp)(Q:VK)(E:XK):Prop|m:∀(b:afd) (d:BA) (B:aga) (FZ:List afd) (N n:Nat) (a:afd) (t:List Nat),vs=[.ref b,vn n,.ref a]->aV C H b d B FZ N->N<100000->n∈aD B->a∈FZ->NL H a t->kx C H b d B (onSense B n fun x=>{x with text:=t}) FZ (N+1) Q->Jh C vs H Q E
inductive xJ(C:afd)(vs:List V)(H:Hp)(Q:VK)(E:XK):Prop|m:∀(b:afd) (d:BA) (B:aga) (FZ:List afd) (N n t:Nat),vs=[.ref b,vn n,vn t]->aV C H b d B FZ N->N<100000->n∈aD B->kx C H b d B (onSense B n fun x=>{x with points:=t}) FZ (N+1) Q->xJ C vs H Q E
abbrev Rf:afR:=bt ip 6
abbrev Gg:afR:=bt ip 7
theorem Tb:au ["self","sense","text"] ["self","sense","text"] (ai Rf):=cF
theorem LS:au ["self","sense","target"] ["self","sense","target"] (ai Gg):=cF
theorem Pa(F:b9 K "say" "Book.say" Rf f fd)(T:mC K mg C):aT P w K mg base bX 1 f fd ["self","sense","text"] (Jh C):=by
 refine cz F Tb fun _ _ _ _ H _ Q E hr h=> ?_
 obtain⟨b,d,B,FZ,N,n,a,t,rfl,hB,hN,hn,T8,ha,k⟩:=h;refine⟨_,af (iT (bZ hr) (az (pv 0)) (pv 1) (pv 2) rfl),?_⟩;have L0:=hB.bq;refine⟨_,rfl,_,rfl,b,C,d.dx,_,_,rfl,L0.ins,T.cl,T.nT,gi,_,rfl,d.t,_,rfl,pA.k (k:=afz (n:Int)) L0.ht (b8 (by have:=hB.lt;omega)),?_⟩;have L1:=L0.LZ (dR d.tk (afz (n:Int)) (.ref a));have hg:∀s:ai0,({s with text:=t}:ai0).name=s.name:=fun _=>rfl
 have pZ:=hB.wf.onSense (n:=n) hg;have qS:=eR B n _ hg;have ve:Kp (bS b d B) H (aE H d.t (.dK (dR d.tk (afz (n:Int)) (.ref a)))):=Kp.gZ (wB (by simp));have nF:∀c∈FZ,¬c∈bS b d B:=fun c hc z=>L0.fz c z hc
 refine k _ {d with tk:=dR d.tk (afz (n:Int)) (.ref a),ta:=fun m=>if m=n then a else d.ta m} ?_ ve fun c hc=> .inl hc
 refine{wf:=pZ,bq:=⟨L1.ins,L1.own,L1.ord,L1.hw,L1.hr,L1.ht,L1.hg,L1.row,L1.nd,L1.fz,L1.fzt⟩,lw:=afM hB.lw,lr:=afM hB.lr,lt:= ?_,lg:=afM hB.lg,le:=afM hB.le,ls:=afM hB.ls,dw:=hB.dw,dr:=hB.dr,dt:= ?_,dg:= ?_,word:=fun x hx=>⟨(hB.word x hx).1,ve _ _ (hB.word x hx).2 (nF _ (hB.word x hx).1)⟩,text:= ?_}
 .have:=dm d.tk (afz (n:Int):br) (.ref a);have:=hB.lt;show(dR d.tk _ _).length<=_;omega
 .rw[qS];exact hB.dt.gZ (fun m=>⟨.inr,fun z=>z.elim (fun q=>q▸hn) id⟩) (by show V.ref (if n=n then a else _)=_;rw[afj rfl]) fun m _ hm=>by show V.ref (if m=n then a else _)=_;rw[afe hm]
 .rw[qS];refine hB.dg.same (fun m=>ajg) fun m hm=> ?_
  rw[iJ hB.wf hg hm];split<;>rfl
 .intro y hy;obtain⟨z,hz,e⟩:=k9.mp hy;by_cases q:z.name=n
  .rw[afj q]at e;subst e;show(if z.name=n then a else _)∈FZ/\NL _ (if z.name=n then a else _) t;rw[afj q];exact⟨T8,ve _ _ ha (nF _ T8)⟩
  .rw[afe q]at e;subst e;show(if z.name=n then a else _)∈FZ/\NL _ (if z.name=n then a else _) _;rw[afe q];exact⟨(hB.text z hz).1,ve _ _ (hB.text z hz).2 (nF _ (hB.text z hz).1)⟩
theorem HV(F:b9 K "point" "Book.point" Gg f fd)(T:mC K mg C):aT P w K mg base bX 1 f fd ["self","sense","target"] (xJ C):=by
 refine cz F LS fun _ _ _ _ H _ Q E hr h=> ?_
 obtain⟨b,d,B,FZ,N,n,t,rfl,hB,hN,hn,k⟩:=h;refine⟨_,af (iT (bZ hr) (az (pv 0)) (pv 1) (pv 2) rfl),?_⟩;have L0:=hB.bq;refine⟨_,rfl,_,rfl,b,C,d.dx,_,_,rfl,L0.ins,T.cl,T.nG,dN,_,rfl,d.g,_,rfl,pA.k (k:=afz (n:Int)) L0.hg (b8 (by have:=hB.lg;omega)),?_⟩;have L1:=L0.LX (dR d.gk (afz (n:Int)) (vn t));have hg:∀s:ai0,({s with points:=t}:ai0).name=s.name:=fun _=>rfl
 have pZ:=hB.wf.onSense (n:=n) hg;have qS:=eR B n _ hg;have ve:Kp (bS b d B) H (aE H d.g (.dK (dR d.gk (afz (n:Int)) (vn t)))):=Kp.gZ (wB (by simp));have nF:∀c∈FZ,¬c∈bS b d B:=fun c hc z=>L0.fz c z hc
 refine k _ {d with gk:=dR d.gk (afz (n:Int)) (vn t)} ?_ ve fun c hc=> .inl hc
 refine{wf:=pZ,bq:=L1,lw:=afM hB.lw,lr:=afM hB.lr,lt:=afM hB.lt,lg:= ?_,le:=afM hB.le,ls:=afM hB.ls,dw:=hB.dw,dr:=hB.dr,dt:= ?_,dg:= ?_,word:=fun x hx=>⟨(hB.word x hx).1,ve _ _ (hB.word x hx).2 (nF _ (hB.word x hx).1)⟩,text:= ?_}
 .have:=dm d.gk (afz (n:Int):br) (vn t);have:=hB.lg;show(dR d.gk _ _).length<=_;omega
 .rw[qS];exact hB.dt
 .rw[qS];refine hB.dg.gZ (fun m=>⟨.inr,fun z=>z.elim (fun q=>q▸hn) id⟩) ?_ fun m hm gh=> ?_
  .show vn _=_;rw[iJ hB.wf hg hn,afj rfl]
  .show vn _=_;rw[iJ hB.wf hg hm,afe gh]
 .intro y hy;obtain⟨z,hz,e⟩:=k9.mp hy;have e1:y.name=z.name/\y.text=z.text:=by
   rw[<-e];split<;>exact⟨rfl,rfl⟩
  rw[e1.1,e1.2];exact⟨(hB.text z hz).1,ve _ _ (hB.text z hz).2 (nF _ (hB.text z hz).1)⟩
theorem eg{x:V}(h:(l.map vn)[i]? =some x):∃n,l[i]? =some n/\x=vn n:=by
 rw[afy]at h;cases e:l[i]? with
 |none=>rw[e]at h;cases h
 |some n=>rw[e]at h;exact⟨n,rfl,(afv h).symm⟩
theorem aV.row{C:afd}{H:Hp}{b:afd}{d:BA}{B:aga}{FZ:List afd}{N:Nat}(h:aV C H b d B FZ N){x:afo}(hx:x∈B.entries):NL H (d.ra x.name) x.senses:=by
 have:=h.bq.row x.name (aY.mpr ⟨x,hx,rfl⟩);unfold dz at this;rw[bp h.wf hx]at this;exact this
theorem GB{l:List afo}(h:x∈l):x.senses.length<=(l.flatMap fun e=>e.senses).length:=by
 induction l with
 |nil=>exact nomatch h
 |cons y l ih=>
  rw[agi,afc];rcases afx.mp h with e|h
  .rw[e];omega
  .have:=ih h;omega
theorem aV.IB(h:aV C H b d B FZ N)(hx:x∈B.entries):x.senses.length<=N:=afw (GB hx) h.ls
inductive xE(C:afd)(vs:List V)(H:Hp)(Q:VK)(E:XK):Prop|m:∀(b:afd) (d:BA) (B:aga) (FZ:List afd) (N n x a:Nat) (cG:afd) (t:List Nat),vs=[.ref b,vn n,vn x,vn a,.ref cG]->aV C H b d B FZ N->N<100000->¬n∈aD B->n≠0->x∈names B->(a≠0->a∈dz B x)->cG∈FZ->NL H cG t->kx C H b d B (ahx {B with senses:=B.senses++ [⟨n,t,0⟩]} x (agf a n)) FZ (N+1) Q->xE C vs H Q E
inductive AX(C:afd)(vs:List V)(H:Hp)(Q:VK)(E:XK):Prop|m:∀(b:afd) (d:BA) (B:aga) (FZ:List afd) (N n:Nat),vs=[.ref b,vn n]->aV C H b d B FZ N->Q (vn (agz B n)) H->AX C vs H Q E
abbrev F5:afR:=bt ip 5
theorem LJ:au ["self","sense","entry","behind","text"] ["self","sense","entry","behind","text"] (ai F5):=cF
theorem HJ(F:b9 K "make_sense" "Book.make_sense" F5 f fd)(T:mC K mg C)(cP:jw P w K mg base 1 "put_behind" ["row","name","behind"] vE fp fY):aT P w K mg base bX 2 f fd ["self","sense","entry","behind","text"] (xE C):=by
 refine cz F LJ fun _ _ _ _ H _ Q E hr h=> ?_
 obtain⟨b,d,B,FZ,N,n,x,a,cG,t,rfl,hB,hN,hn,Qv,hx,ha,RH,r9,k⟩:=h;refine⟨_,ae (aI (bh cP.ok hr rfl cP.mg cP.kp cP.bi .nil bw (aa (bC (bZ hr) (az (pv 0)) (pv 2)) (aa (pv 1) (aa (pv 3) ab)))))
  (ae (iT (bZ hr) (az (pv 0)) (pv 1) (pv 4) rfl)
  (af (iT (bZ hr) (az (pv 0)) (pv 1) ag rfl))),?_⟩
 have L0:=hB.bq;obtain⟨Nf,wA⟩:=eZ hB.wf hx;have gJ:(dz B x).length<=N:=hB.IB Nf;refine⟨_,rfl,b,C,d.dx,_,_,rfl,L0.ins,T.cl,T.nR,du,_,rfl,d.r,_,rfl,by
  have:=ei.k (k:=afz (x:Int)) L0.hr;rw[hB.dr.get hx]at this;exact this,_,rfl,_,rfl,d.ra x,n,a,_,rfl,L0.row x hx,ha,b8 (by omega),?_⟩
 have L1:=L0.xl hx (agf a n (dz B x));refine⟨_,rfl,_,rfl,b,C,d.dx,_,_,rfl,L1.ins,T.cl,T.nT,gi,_,rfl,d.t,_,rfl,pA.k (k:=afz (n:Int)) L1.ht (b8 (by have:=hB.lt;omega)),?_⟩;have mq:=L1.LZ (dR d.tk (afz (n:Int)) (.ref cG));refine⟨_,rfl,b,C,d.dx,_,_,rfl,mq.ins,T.cl,T.nG,dN,_,rfl,d.g,_,rfl,pA.k (k:=afz (n:Int)) mq.hg (b8 (by have:=hB.lg;show d.gk.length<=_;omega)),?_⟩;have L3:=mq.LX (dR d.gk (afz (n:Int)) (.int 0));have pZ:WF (ahx {B with senses:=B.senses++ [⟨n,t,0⟩]} x (agf a n)):=hB.wf.sense hx hn Qv;have jR:names (ahx {B with senses:=B.senses++ [⟨n,t,0⟩]} x (agf a n))=names B:=fC _ _ _;have qS:aD (ahx {B with senses:=B.senses++ [⟨n,t,0⟩]} x (agf a n))=aD B++ [n]:=by
  show(B.senses++ [(⟨n,t,0⟩:ai0)]).map (fun s=>s.name)=_;rw[afD];rfl
 have eX:∀m,m∈aD B++ [n]↔m=n\/m∈aD B:=fun m=>by
  rw[afN];exact⟨fun z=>z.elim .inr fun q=> .inl (by simpa using q),fun z=>z.elim (fun q=> .inr (by simpa using q)) .inl⟩
 have ve:Kp (bS b d B) H (aE H (d.ra x) (.ba ((agf a n (dz B x)).map vn))):=Kp.gZ (OJ hx);have fA:=dQ (o:= .dK (dR d.tk (afz (n:Int)) (.ref cG))) ve (.inl (wB (B:=B) (b:=b) (d:=d) (a:=d.t) (by simp)));have Aj:=dQ (o:= .dK (dR d.gk (afz (n:Int)) (.int 0))) fA (.inl (wB (B:=B) (b:=b) (d:=d) (a:=d.g) (by simp)));have nF:∀c∈FZ,¬c∈bS b d B:=fun c hc z=>L0.fz c z hc
 refine k _ {d with tk:=dR d.tk (afz (n:Int)) (.ref cG),gk:=dR d.gk (afz (n:Int)) (.int 0),ta:=fun m=>if m=n then cG else d.ta m} ?_ Aj ?_
 .refine{wf:=pZ,bq:= ?_,lw:=afM hB.lw,lr:=afM hB.lr,lt:= ?_,lg:= ?_,le:=by rw[jR];exact afM hB.le,ls:= ?_,dw:=by rw[jR];exact hB.dw,dr:=by rw[jR];exact hB.dr,dt:= ?_,dg:= ?_,word:= ?_,text:= ?_}
  .rw[jR];have L6:gf C _ b {d with tk:=dR d.tk (afz (n:Int)) (.ref cG),gk:=dR d.gk (afz (n:Int)) (.int 0),ta:=fun m=>if m=n then cG else d.ta m} _ _ _ FZ:=⟨L3.ins,L3.own,L3.ord,L3.hw,L3.hr,L3.ht,L3.hg,L3.row,L3.nd,L3.fz,L3.fzt⟩;refine L6.rows fun m hm=> ?_
   have uc:m∈names (ahx {B with senses:=B.senses++ [⟨n,t,0⟩]} x (agf a n)):=by rw[jR];exact hm
   obtain⟨y,hy,rfl⟩:=aY.mp uc;show(entryAt _ y.name).senses=_;rw[bp pZ hy];obtain⟨z,hz,q⟩:=kY.mp hy;by_cases e:z.name=x
   .rw[afj e]at q;subst q;show agf a n z.senses=if z.name=x then _ else _
    rw[afj e];show _=agf a n (entryAt B x).senses;rw[<-e,bp hB.wf hz]
   .rw[afe e]at q;subst q;show z.senses=if z.name=x then _ else _
    rw[afe e];show _=(entryAt B z.name).senses;rw[bp hB.wf hz]
  .have:=dm d.tk (afz (n:Int):br) (.ref cG);have:=hB.lt;show(dR d.tk _ _).length<=_;omega
  .have:=dm d.gk (afz (n:Int):br) (.int 0);have:=hB.lg;show(dR d.gk _ _).length<=_;omega
  .rw[(oN (b:={B with senses:=B.senses++ [⟨n,t,0⟩]}) (a:=a) (n:=n) hB.wf.en hx).length_eq];exact ajs hB.ls
  .rw[qS];exact hB.dt.gZ eX (by show V.ref (if n=n then cG else _)=_;rw[afj rfl]) fun m _ hm=>by show V.ref (if m=n then cG else _)=_;rw[afe hm]
  .rw[qS];have Xd:∀y∈B.senses,y∈(ahx {B with senses:=B.senses++ [⟨n,t,0⟩]} x (agf a n)).senses:=fun y hy=>af0 _ hy
   refine hB.dg.gZ eX ?_ fun m hm gh=> ?_
   .have:=eL pZ (x:=⟨n,t,0⟩) (afK _ (by simp));show vn (aft _ n).points=_;rw[this];rfl
   .obtain⟨y,hy,rfl⟩:=dB.mp hm;show vn (aft _ y.name).points=_;rw[eL pZ (Xd y hy),eL hB.wf hy]
  .intro y hy;obtain⟨z,hz,q⟩:=kY.mp hy;have e1:y.name=z.name/\y.word=z.word:=by
    rw[<-q];split<;>exact⟨rfl,rfl⟩
   rw[e1.1,e1.2];exact⟨(hB.word z hz).1,Aj _ _ (hB.word z hz).2 (nF _ (hB.word z hz).1)⟩
  .intro y hy;have Sg:y∈B.senses\/y∈ [(⟨n,t,0⟩:ai0)]:=afN.mp hy;rcases Sg with q|q
   .show(if y.name=n then cG else _)∈FZ/\NL _ (if y.name=n then cG else _) _;rw[afe (fun z=>hn (by rw[<-z];exact dB.mpr ⟨y,q,rfl⟩))];exact⟨(hB.text y q).1,Aj _ _ (hB.text y q).2 (nF _ (hB.text y q).1)⟩
   .have q':y=⟨n,t,0⟩:=by simpa using q
    subst q';show(if n=n then cG else _)∈FZ/\NL _ (if n=n then cG else _) _;rw[afj rfl];exact⟨RH,Aj _ _ r9 (nF _ RH)⟩
 .intro c hc;rcases sA.mp hc with z|⟨y,hy,q⟩
  .exact .inl (wB z)
  .have uc:y.name∈names (ahx {B with senses:=B.senses++ [⟨n,t,0⟩]} x (agf a n)):=aY.mpr ⟨y,hy,rfl⟩;rw[jR]at uc;rw[<-q];exact .inl (OJ uc)
abbrev MC:afR:=bt ip 12
theorem IP:au ["self","sense","entry"] ["self","sense"] (ai MC):=cF
theorem K5(F:b9 K "home_of" "Book.home_of" MC f fd)(T:mC K mg C):aT P w K mg base bX 1 f fd ["self","sense"] (AX C):=by
 refine cz F IP fun _ _ _ _ H _ Q E hr h=> ?_
 obtain⟨b,d,B,FZ,N,n,rfl,hB,k⟩:=h;refine⟨_,ae (cM af3 rfl (bO (az (pv 0))) (hJ 2 IP.nd)
   (af (aZ (aX jI (pv 1) (bC (bZ hr) (az (pv 0)) (pv 2)) (by with_unfolding_all rfl)) (af (aq (pv 2))) aC)))
  (af (aq ag)),?_⟩
 have L0:=hB.bq;refine⟨_,rfl,b,C,d.dx,_,_,rfl,L0.ins,T.cl,T.nO,bP,d.o,rfl,⟨_,aJ.of L0.ord⟩,cV (K:=K) (a:=d.o) (xs:=(names B).map vn) (fun i σ H'=>(∃v:Option V,σ=[some (.ref b),some (vn n),v])/\H'=H/\∀(j:Nat) (x:afo),j<i->B.entries[j]? =some x->¬n∈x.senses)
  ⟨⟨none,rfl⟩,rfl,fun j x hj=>absurd hj (aim j)⟩ (fun i σ H' _ ⟨_,e,_⟩=>by rw[e];exact aJ.of L0.ord) ?_ ?_⟩
 .rintro i y σ H' hi ⟨⟨v,rfl⟩,rfl,e9⟩;obtain⟨e,he,rfl⟩:=eg hi;obtain⟨x,hx,rfl⟩:∃x,B.entries[i]? =some x/\x.name=e:=by
   unfold names at he;rw[afy]at he;cases q:B.entries[i]? with
   |none=>rw[q]at he;cases he
   |some x=>rw[q]at he;exact⟨x,rfl,afv he⟩
  have px:x∈B.entries:=afq hx;have wA:x.name∈names B:=aY.mpr ⟨x,px,rfl⟩;refine⟨_,rfl,_,rfl,b,C,d.dx,_,_,rfl,L0.ins,T.cl,T.nR,du,_,rfl,d.r,_,rfl,by
   have:=ei.k (k:=afz (x.name:Int)) L0.hr;rw[hB.dr.get wA]at this;exact this,d.ra x.name,_,rfl,.inl (aJ.of (hB.row px)),rfl,g9 _,_,rfl,?_⟩
  show if Fs (vn n) (x.senses.map vn)=true then _ else _
  rw[kQ];refine aW (fun e=> ?_) (fun e=> ?_)
  .have hn:n∈x.senses:=afh e;refine⟨_,rfl,?_⟩;show Q (vn x.name) H';rw[<-gv hB.wf px hn];exact k
  .refine⟨⟨_,rfl⟩,rfl,fun j z hj hz=> ?_⟩;by_cases q:j<i
   .exact e9 j z q hz
   .have:j=i:=by omega
    subst this;rw[hx]at hz;cases hz;exact fun hn=>e (afl hn)
 .rintro σ H' ⟨⟨v,rfl⟩,rfl,e9⟩;have:agz B n=0:=jV fun hn=>by
   obtain⟨x,hx,OA⟩:=dH.mp hn;obtain⟨j,hj⟩:=agc hx;refine e9 j x ?_ hj OA;rw[afb];unfold names;rw[afb];exact(aff.mp hj).1
  rw[this]at k;exact k
theorem yq(n:Nat):∀l:List Nat,((l.map fun m:Nat=>(m:Int)).erase (n:Int)).map V.int=(l.erase n).map vn
 | []=>rfl
 |m::l=>by
  rw[agb];by_cases e:m=n
  .subst e;rw[ajE,ajE,wL]
  .rw[aiA (by simpa using(show¬(m:Int)=(n:Int) by omega)),aiA (by simpa using e),agb,agb,yq n l]
inductive NH(x:V)(vs:List V)(H:Hp)(Q:VK):Prop|m:∀(l:afd) (ns:List Nat) (n:Nat),x= .ref l->vs=[vn n]->NL H l ns->n∈ns->Q .gw (aE H l (.ba ((ns.erase n).map vn)))->NH x vs H Q
theorem wQ:Qc X "list.remove" NH:=by
 intro pins s σ H x vs v us Q I rx rv h;obtain⟨l,ns,n,rfl,rfl,hH,hn,q⟩:=h;refine Eb pins s σ H _ _ v us Q I rx rv ⟨l,ns.map fun m:Nat=>(m:Int),n,rfl,rfl,by rw[hH,wL],afJ.mpr ⟨n,hn,rfl⟩,?_⟩;rw[yq];exact q
theorem iP{n:Nat}:∀{l:List Nat},l.Nodup->l.erase n=l.filter fun y=>y !=n
 | [],_=>rfl
 |m::l,h=>by
  rw[afG]at h;by_cases e:m=n
  .subst e;rw[ajE,afU,afe (by simp),aiJ.mpr];intro y hy;have:¬y=m:=fun z=>h.1 (by rw[<-z];exact hy)
   simpa using this
  .rw[aiA (by simpa using e),afU,afj (by simpa using e),iP h.2]
theorem qR{l:List afo}(h:(l.flatMap fun e=>e.senses).Nodup)(hx:x∈l):x.senses.Nodup:=by
 induction l with
 |nil=>exact nomatch hx
 |cons y l ih=>
  rw[agi,ahf]at h;rcases afx.mp hx with e|hx
  .rw[e];exact h.1
  .exact ih h.2.1 hx
inductive C9(C:afd)(vs:List V)(H:Hp)(Q:VK)(E:XK):Prop|m:∀(b:afd) (d:BA) (B:aga) (FZ:List afd) (N n:Nat),vs=[.ref b,vn n]->aV C H b d B FZ N->n∈aD B->Q .gw (aE H (d.ra (agz B n)) (.ba (((dz B (agz B n)).filter fun y=>y !=n).map vn)))->C9 C vs H Q E
inductive o5(C:afd)(vs:List V)(H:Hp)(Q:VK)(E:XK):Prop|m:∀(b dx o w r t g:afd) (tk gk:List (br×V)) (n:Nat) (v v':V),vs=[.ref b,vn n]->H b=some (.ins C dx (oj o w r t g))->b≠t->t≠g->H t=some (.dK tk)->H g=some (.dK gk)->ee tk (afz (n:Int))=some v->ee gk (afz (n:Int))=some v'->Q .gw (aE (aE H t (.dK (cU tk (afz (n:Int))))) g (.dK (cU gk (afz (n:Int)))))->o5 C vs H Q E
abbrev Q8:afR:=bt ip 13
theorem S8:au ["self","sense"] ["self","sense"] (ai Q8):=cF
theorem O6(F:b9 K "take_out" "Book.take_out" Q8 f fd)(T:mC K mg C)(mH:zJ P w K mg base 1 C "home_of" ["self","sense"] (AX C) fh fX):aT P w K mg base bX 2 f fd ["self","sense"] (C9 C):=by
 refine cz F S8 fun _ _ _ _ H _ Q E hr h=> ?_
 obtain⟨b,d,B,FZ,N,n,rfl,hB,hn,k⟩:=h;refine⟨_,af (aI (cy afs aif aiN wQ (bC (bZ hr) (az (pv 0)) (hG (pv 0) T.cl mH.me mH.ok hr mH.bi .nil bw (aa (pv 1) ab))) (aa (pv 1) ab))),?_⟩;have L0:=hB.bq;have uo:=(hB.wf.same n).mpr hn;obtain⟨h1,h2,h3⟩:=iu hB.wf uo;have Fq:=L0.row _ h1;refine⟨_,rfl,b,C,d.dx,_,_,rfl,L0.ins,T.cl,T.nR,du,_,rfl,b,d.dx,_,rfl,L0.ins,bF (by decide+kernel),_,rfl,b,d,B,FZ,N,n,rfl,hB,d.r,.ref (d.ra (agz B n)),rfl,by
  have:=ei.k (k:=afz (agz B n:Int)) L0.hr;rw[hB.dr.get h1]at this;exact this,.inl ⟨rfl,_,aJ.of Fq⟩,_,rfl,d.ra (agz B n),_,n,rfl,rfl,Fq,h3,?_⟩
 rw[iP (qR hB.wf.an (eZ hB.wf h1).1)];exact k
abbrev Bv:afR:=bt ip 14
theorem IK:au ["self","sense"] ["self","sense"] (ai Bv):=cF
theorem Eo(F:b9 K "forget" "Book.forget" Bv f fd)(T:mC K mg C):aT P w K mg base bX 1 f fd ["self","sense"] (o5 C):=by
 refine cz F IK fun _ _ _ _ H _ Q E hr h=> ?_
 obtain⟨b,dx,o,w,r,t,g,tk,gk,n,v,v',rfl,hb,hbt,htg,ht,hg,hv,JH,k⟩:=h;refine⟨_,ae (aI (oJ (az (pv 0)) (pv 1) ⟨rfl,rfl,rfl,rfl⟩)) (af (aI (oJ (az (pv 0)) (pv 1) ⟨rfl,rfl,rfl,rfl⟩))),?_⟩;refine⟨_,rfl,b,C,dx,_,_,rfl,hb,T.cl,T.nT,gi,t,rfl,.inl ⟨_,.inl ht⟩,_,rfl,tk,afz (n:Int),v,ht,rfl,hv,?_⟩;have hb1:aE H t (.dK (cU tk (afz (n:Int)))) b=some (.ins C dx (oj o w r t g)):=by rw[ao hbt];exact hb
 have Zb:aE H t (.dK (cU tk (afz (n:Int)))) g=some (.dK gk):=by rw[ao (agW htg)];exact hg
 exact⟨_,rfl,b,C,dx,_,_,rfl,hb1,T.cl,T.nG,dN,g,rfl,.inl ⟨_,.inl Zb⟩,_,rfl,gk,afz (n:Int),v',Zb,rfl,JH,k⟩
inductive xF(C:afd)(vs:List V)(H:Hp)(Q:VK)(E:XK):Prop|m:∀(b:afd) (d:BA) (B:aga) (FZ:List afd) (N e a:Nat),vs=[.ref b,vn e,vn a]->aV C H b d B FZ N->N<100000->e∈names B->(a≠0->a∈names B/\a≠e)->kx C H b d B {B with entries:=ahh a (entryAt B e) (B.entries.filter fun y=>y.name !=e)} FZ (N+1) Q->xF C vs H Q E
inductive xG(C:afd)(vs:List V)(H:Hp)(Q:VK)(E:XK):Prop|m:∀(b:afd) (d:BA) (B:aga) (FZ:List afd) (N n x a:Nat),vs=[.ref b,vn n,vn x,vn a]->aV C H b d B FZ N->N<100000->n∈aD B->x∈names B->(a≠0->a∈dz B x/\a≠n)->kx C H b d B (ahx (aiv B n) x (agf a n)) FZ (N+1) Q->xG C vs H Q E
inductive xr(C:afd)(vs:List V)(H:Hp)(Q:VK)(E:XK):Prop|m:∀(b:afd) (d:BA) (B:aga) (FZ:List afd) (N n:Nat),vs=[.ref b,vn n]->aV C H b d B FZ N->n∈aD B->kx C H b d B {aiv B n with senses:=B.senses.filter fun x=>x.name !=n} FZ N Q->xr C vs H Q E
theorem qZ(h:∀e,e∈names B'->e∈names B):Gr H (bS b d B) (bS b d B'):=fun c hc=>by
 rcases sA.mp hc with z|⟨x,hx,q⟩
 .exact .inl (wB z)
 .rw[<-q];exact .inl (OJ (h _ (aY.mpr ⟨x,hx,rfl⟩)))
theorem uQ(h:¬n∈l):l.filter (fun y=>y !=n)=l:=aiJ.mpr fun y hy=>by
 have:¬y=n:=fun z=>h (by rw[<-z];exact hy)
 simpa using this
abbrev Ga:afR:=bt ip 8
theorem LO:au ["self","entry","behind"] ["self","entry","behind"] (ai Ga):=cF
theorem HP(F:b9 K "move_entry" "Book.move_entry" Ga f fd)(T:mC K mg C)(cP:jw P w K mg base 1 "put_behind" ["row","name","behind"] vE fp fY):aT P w K mg base bX 2 f fd ["self","entry","behind"] (xF C):=by
 refine cz F LO fun _ _ _ _ H _ Q E hr h=> ?_
 obtain⟨b,d,B,FZ,N,e,a,rfl,hB,hN,he,ha,k⟩:=h;refine⟨_,ae (aI (cy afs aif aiN wQ (az (pv 0)) (aa (pv 1) ab)))
  (af (aI (bh cP.ok hr rfl cP.mg cP.kp cP.bi .nil bw (aa (az (pv 0)) (aa (pv 1) (aa (pv 2) ab)))))),?_⟩
 have L0:=hB.bq;refine⟨_,rfl,b,C,d.dx,_,_,rfl,L0.ins,T.cl,T.nO,bP,.inl ⟨rfl,_,aJ.of L0.ord⟩,_,rfl,d.o,_,e,rfl,rfl,L0.ord,he,?_⟩;have L1:=L0.LY ((names B).erase e);have bY:((names B).erase e).length<=N:=afw (List.length_erase_le) hB.le;refine⟨_,rfl,b,C,d.dx,_,_,rfl,L1.ins,T.cl,T.nO,bP,_,rfl,_,rfl,d.o,e,a,_,rfl,L1.ord,fun h0=>(List.mem_erase_of_ne (ha h0).2).mpr (ha h0).1,b8 (by omega),?_⟩;have mq:=L1.LY (agf a e ((names B).erase e));have pZ:=hB.wf.moveEntry (a:=a) he;have hp:=lj (a:=a) hB.wf he;have R8:(names {B with entries:=ahh a (entryAt B e) (B.entries.filter fun y=>y.name !=e)}).Perm (names B):=hp.map _;have jR:names {B with entries:=ahh a (entryAt B e) (B.entries.filter fun y=>y.name !=e)}=agf a e ((names B).erase e):=by
  show(ahh a (entryAt B e) (B.entries.filter fun y=>y.name !=e)).map (fun e=>e.name)=_;rw[gO,(eZ hB.wf he).2,j1,iP hB.wf.en]
 have ve:Kp (bS b d B) H (aE H d.o (.ba (((names B).erase e).map vn))):=Kp.gZ (wB (by simp));have fA:=dQ (o:= .ba ((agf a e ((names B).erase e)).map vn)) ve (.inl (wB (B:=B) (b:=b) (d:=d) (a:=d.o) (by simp)));have nF:∀c∈FZ,¬c∈bS b d B:=fun c hc z=>L0.fz c z hc
 refine k _ d ?_ fA (qZ fun m hm=>R8.mem_iff.mp hm);refine{wf:=pZ,bq:= ?_,lw:=afM hB.lw,lr:=afM hB.lr,lt:=afM hB.lt,lg:=afM hB.lg,le:=by rw[R8.length_eq];exact afM hB.le,ls:=by rw[show(afF {B with entries:=ahh a (entryAt B e) (B.entries.filter fun y=>y.name !=e)}).length=_ from(iW hp).length_eq];exact afM hB.ls,dw:=hB.dw.same (fun m=>R8.mem_iff) fun _ _=>rfl,dr:=hB.dr.same (fun m=>R8.mem_iff) fun _ _=>rfl,dt:=hB.dt,dg:=hB.dg,word:= ?_,text:= ?_}
 .have L3:=mq.sub (ks':=names {B with entries:=ahh a (entryAt B e) (B.entries.filter fun y=>y.name !=e)}) pZ.en fun m hm=>R8.mem_iff.mp hm
  have L4:=L3.rows (row':=dz {B with entries:=ahh a (entryAt B e) (B.entries.filter fun y=>y.name !=e)}) fun m hm=>by
   obtain⟨x,hx,rfl⟩:=aY.mp hm;show(entryAt _ x.name).senses=(entryAt B x.name).senses;rw[bp pZ hx,bp hB.wf (hp.mem_iff.mp hx)]
  exact{L4 with ord:=by rw[jR];exact L4.ord}
 .exact fun x hx=>⟨(hB.word x (hp.mem_iff.mp hx)).1,fA _ _ (hB.word x (hp.mem_iff.mp hx)).2 (nF _ (hB.word x (hp.mem_iff.mp hx)).1)⟩
 .exact fun x hx=>⟨(hB.text x hx).1,fA _ _ (hB.text x hx).2 (nF _ (hB.text x hx).1)⟩
abbrev Gb:afR:=bt ip 9
theorem LP:au ["self","sense","entry","behind"] ["self","sense","entry","behind"] (ai Gb):=cF
theorem HQ{fo:afd}{VR:afE}(F:b9 K "move_sense" "Book.move_sense" Gb f fd)(T:mC K mg C)(cP:jw P w K mg base 1 "put_behind" ["row","name","behind"] vE fp fY)(mO:zJ P w K mg base 2 C "take_out" ["self","sense"] (C9 C) fo VR):aT P w K mg base bX 3 f fd ["self","sense","entry","behind"] (xG C):=by
 refine cz F LP fun _ _ _ _ H _ Q E hr h=> ?_
 obtain⟨b,d,B,FZ,N,n,x,a,rfl,hB,hN,hn,hx,ha,k⟩:=h;refine⟨_,ae (aI (hG (pv 0) T.cl mO.me mO.ok hr mO.bi .nil bw (aa (pv 1) ab)))
  (af (aI (bh cP.ok (hr.fJ (by decide)) rfl cP.mg cP.kp cP.bi .nil bw (aa (bC (bZ hr) (az (pv 0)) (pv 2)) (aa (pv 1) (aa (pv 3) ab)))))),?_⟩
 have L0:=hB.bq;have uo:=(hB.wf.same n).mpr hn;obtain⟨h1,h2,h3⟩:=iu hB.wf uo;refine⟨_,rfl,b,d.dx,_,rfl,L0.ins,bF (by decide+kernel),_,rfl,b,d,B,FZ,N,n,rfl,hB,hn,?_⟩;have L1:=L0.xl h1 ((dz B (agz B n)).filter fun y=>y !=n);have jE:∀z∈B.entries,(if z.name=agz B n then(dz B (agz B n)).filter (fun y=>y !=n)else dz B z.name)=z.senses.filter fun y=>y !=n:=fun z hz=>by
  by_cases e:z.name=agz B n
  .rw[afj e,<-e];show((entryAt B z.name).senses).filter _=_;rw[bp hB.wf hz]
  .rw[afe e];show(entryAt B z.name).senses=_;rw[bp hB.wf hz,uQ fun q=>e (gv hB.wf hz q).symm]
 obtain⟨Nf,wA⟩:=eZ hB.wf hx;have Zu:=jE _ Nf;rw[wA]at Zu;have bY:((dz B x).filter fun y=>y !=n).length<=N:=afw (af8 _ _) (hB.IB Nf);have Nc:=L1.row x hx;rw[Zu]at Nc;refine⟨_,rfl,b,C,d.dx,_,_,rfl,L1.ins,T.cl,T.nR,du,_,rfl,d.r,.ref (d.ra x),rfl,by
  have:=ei.k (k:=afz (x:Int)) L1.hr;rw[hB.dr.get hx]at this;exact this,_,rfl,_,rfl,d.ra x,n,a,_,rfl,Nc,fun h0=>afO.mpr ⟨(ha h0).1,by simpa using(ha h0).2⟩,b8 (by have:((entryAt B x).senses.filter fun y=>y !=n).length<=N:=bY;omega),?_⟩
 have mq:=L1.xl hx (agf a n ((dz B x).filter fun y=>y !=n));have pZ:=hB.wf.moveSense (a:=a) hn hx;have jR:names (ahx (aiv B n) x (agf a n))=names B:=(fC _ _ _).trans (dI _ _);have ve:Kp (bS b d B) H (aE H (d.ra (agz B n)) (.ba (((dz B (agz B n)).filter fun y=>y !=n).map vn))):=Kp.gZ (OJ h1);have fA:=dQ (o:= .ba ((agf a n ((dz B x).filter fun y=>y !=n)).map vn)) ve (.inl (OJ (b:=b) (d:=d) hx));have nF:∀c∈FZ,¬c∈bS b d B:=fun c hc z=>L0.fz c z hc
 have eX:∀{y},y∈(ahx (aiv B n) x (agf a n)).entries->∃z∈B.entries,y.name=z.name/\y.word=z.word/\y.senses=if z.name=x then agf a n (z.senses.filter fun y=>y !=n)else z.senses.filter fun y=>y !=n:=fun{y} hy=>by
  obtain⟨z1,hz1,q1⟩:=kY.mp hy;obtain⟨z,hz,q⟩:=pN.mp hz1;refine⟨z,hz,?_⟩;subst q;subst q1;try dsimp only
  by_cases e:z.name=x
  .rw[afj e,afj e];exact⟨rfl,rfl,rfl⟩
  .rw[afe e,afe e];exact⟨rfl,rfl,rfl⟩
 refine k _ d ?_ fA (qZ fun m hm=>by rw[<-jR];exact hm);refine{wf:=pZ,bq:= ?_,lw:=afM hB.lw,lr:=afM hB.lr,lt:=afM hB.lt,lg:=afM hB.lg,le:=by rw[jR];exact afM hB.le,ls:= ?_,dw:=by rw[jR];exact hB.dw,dr:=by rw[jR];exact hB.dr,dt:=hB.dt,dg:=hB.dg,word:= ?_,text:= ?_}
 .rw[jR];refine mq.rows fun m hm=> ?_
  have uc:m∈names (ahx (aiv B n) x (agf a n)):=by rw[jR];exact hm
  obtain⟨y,hy,rfl⟩:=aY.mp uc;show(entryAt _ y.name).senses=_;rw[bp pZ hy];obtain⟨z,hz,q1,_,q3⟩:=eX hy;rw[q3,q1];by_cases e:z.name=x
  .rw[afj e,afj e,<-e];show _=agf a n ((entryAt B z.name).senses.filter _);rw[bp hB.wf hz]
  .rw[afe e,afe e];exact(jE z hz).symm
 .have h4:=oN (b:=aiv B n) (x:=x) (n:=n) (a:=a) (by rw[dI];exact hB.wf.en) (by rw[dI];exact hx);rw[h4.length_eq,afr,j4];exact ajs (afw (af8 _ _) hB.ls)
 .intro y hy;obtain⟨z,hz,q1,q2,_⟩:=eX hy;rw[q1,q2];exact⟨(hB.word z hz).1,fA _ _ (hB.word z hz).2 (nF _ (hB.word z hz).1)⟩
 .exact fun y hy=>⟨(hB.text y hy).1,fA _ _ (hB.text y hy).2 (nF _ (hB.text y hy).1)⟩
abbrev FQ:afR:=bt ip 11
theorem Lz:au ["self","sense"] ["self","sense"] (ai FQ):=cF
theorem Ht{fo fg:afd}{VR VQ:afE}(F:b9 K "drop_sense" "Book.drop_sense" FQ f fd)(T:mC K mg C)(mO:zJ P w K mg base 2 C "take_out" ["self","sense"] (C9 C) fo VR)(mF:zJ P w K mg base 1 C "forget" ["self","sense"] (o5 C) fg VQ):aT P w K mg base bX 3 f fd ["self","sense"] (xr C):=by
 refine cz F Lz fun _ _ _ _ H _ Q E hr h=> ?_
 obtain⟨b,d,B,FZ,N,n,rfl,hB,hn,k⟩:=h;refine⟨_,ae (aI (hG (pv 0) T.cl mO.me mO.ok hr mO.bi .nil bw (aa (pv 1) ab)))
  (af (aI (hG (pv 0) T.cl mF.me mF.ok (hr.fJ (by decide)) mF.bi .nil bw (aa (pv 1) ab)))),?_⟩
 have L0:=hB.bq;have uo:=(hB.wf.same n).mpr hn;obtain⟨h1,h2,h3⟩:=iu hB.wf uo;refine⟨_,rfl,b,d.dx,_,rfl,L0.ins,bF (by decide+kernel),_,rfl,b,d,B,FZ,N,n,rfl,hB,hn,?_⟩;have L1:=L0.xl h1 ((dz B (agz B n)).filter fun y=>y !=n);refine⟨_,rfl,b,d.dx,_,rfl,L1.ins,bF (by decide+kernel),_,rfl,b,d.dx,d.o,d.w,d.r,d.t,d.g,d.tk,d.gk,n,_,_,rfl,L1.ins,L1.ne (i:=0) (j:=5) rfl rfl (by decide),L1.ne (i:=5) (j:=6) rfl rfl (by decide),L1.ht,L1.hg,hB.dt.get hn,hB.dg.get hn,?_⟩;have mq:=(L1.LZ (cU d.tk (afz (n:Int)))).LX (cU d.gk (afz (n:Int)));have pZ:=hB.wf.dropSense (s:=n);have jR:names {aiv B n with senses:=B.senses.filter fun x=>x.name !=n}=names B:=dI B n;have qS:aD {aiv B n with senses:=B.senses.filter fun x=>x.name !=n}=(aD B).filter fun y=>y !=n:=hZ B.senses fun y=>y !=n
 have eX:∀m,m∈aD {aiv B n with senses:=B.senses.filter fun x=>x.name !=n}↔m≠n/\m∈aD B:=fun m=>by
  rw[qS,afO];exact⟨fun z=>⟨by simpa using z.2,z.1⟩,fun z=>⟨z.2,by simpa using z.1⟩⟩
 have ve:Kp (bS b d B) H (aE H (d.ra (agz B n)) (.ba (((dz B (agz B n)).filter fun y=>y !=n).map vn))):=Kp.gZ (OJ h1);have fA:=dQ (o:= .dK (cU d.tk (afz (n:Int)))) ve (.inl (wB (B:=B) (b:=b) (d:=d) (a:=d.t) (by simp)));have Aj:=dQ (o:= .dK (cU d.gk (afz (n:Int)))) fA (.inl (wB (B:=B) (b:=b) (d:=d) (a:=d.g) (by simp)));have nF:∀c∈FZ,¬c∈bS b d B:=fun c hc z=>L0.fz c z hc
 refine k _ {d with tk:=cU d.tk (afz (n:Int)),gk:=cU d.gk (afz (n:Int))} ?_ Aj (fun c hc=>qZ (B':={aiv B n with senses:=B.senses.filter fun x=>x.name !=n}) (fun m hm=>by rw[<-jR];exact hm) c hc);refine{wf:=pZ,bq:= ?_,lw:=hB.lw,lr:=hB.lr,lt:=afw (iZ _ _) hB.lt,lg:=afw (iZ _ _) hB.lg,le:=by rw[jR];exact hB.le,ls:= ?_,dw:=by rw[jR];exact hB.dw,dr:=by rw[jR];exact hB.dr,dt:=hB.dt.drop eX fun _ _=>rfl,dg:=hB.dg.drop eX fun m hm=> ?_,word:= ?_,text:= ?_}
 .rw[jR];refine mq.rows fun m hm=> ?_
  have uc:m∈names {aiv B n with senses:=B.senses.filter fun x=>x.name !=n}:=by rw[jR];exact hm
  obtain⟨y,hy,rfl⟩:=aY.mp uc;show(entryAt _ y.name).senses=_;rw[bp pZ hy];obtain⟨z,hz,rfl⟩:=pN.mp hy;show z.senses.filter _=if z.name=_ then _ else _
  by_cases e:z.name=agz B n
  .rw[afj e,<-e];show _=((entryAt B z.name).senses).filter _;rw[bp hB.wf hz]
  .rw[afe e];show _=(entryAt B z.name).senses;rw[bp hB.wf hz,uQ fun q=>e (gv hB.wf hz q).symm]
 .rw[show afF {aiv B n with senses:=B.senses.filter fun x=>x.name !=n}=_ from j4 B n];exact afw (af8 _ _) hB.ls
 .obtain⟨y,hy,rfl⟩:=dB.mp hm;show vn (aft _ y.name).points=vn (aft B y.name).points;rw[eL pZ hy,eL hB.wf (afO.mp hy).1]
 .intro y hy;obtain⟨z,hz,rfl⟩:=pN.mp hy;exact⟨(hB.word z hz).1,Aj _ _ (hB.word z hz).2 (nF _ (hB.word z hz).1)⟩
 .intro y hy;have hz:=(afO.mp hy).1;exact⟨(hB.text y hz).1,Aj _ _ (hB.text y hz).2 (nF _ (hB.text y hz).1)⟩
inductive xq(C:afd)(vs:List V)(H:Hp)(Q:VK)(E:XK):Prop|m:∀(b:afd) (d:BA) (B:aga) (FZ:List afd) (N e:Nat),vs=[.ref b,vn e]->aV C H b d B FZ N->e∈names B->kx C H b d B {B with entries:=B.entries.filter fun y=>y.name !=e,senses:=B.senses.filter fun y=> !(entryAt B e).senses.contains y.name} FZ N Q->xq C vs H Q E
inductive jO(C:afd)(vs:List V)(H:Hp)(Q:VK)(E:XK):Prop|m:∀(b:afd) (d:BA) (B:aga) (FZ:List afd) (N:Nat),vs=[.ref b]->aV C H b d B FZ N->N<100000->(∀(H':Hp) (l:afd),H l=none->NL H' l (afF B)->ax H H'->Q (.ref l) H')->jO C vs H Q E
theorem aS{α:Type}:∀{l:List α} {i:Nat} {x:α},l[i]? =some x->l.take (i+1)=l.take i++ [x]
 | [],i,x,h=>by simp at h
 |a::l,0,x,h=>by
  have e:a=x:=afv h;subst e;rfl
 |a::l,i+1,x,h=>by
  have ih:=aS (l:=l) (i:=i) (x:=x) h;show a::l.take (i+1)=a::l.take i++ [x];rw[ih];rfl
theorem Cv(h:l.Nodup){x:Nat}(hx:l[i]? =some x):¬x∈l.take i:=fun z=>by
 obtain⟨j,hj⟩:=agc z;have Qu:j<(l.take i).length:=(aff.mp hj).1;rw[afY]at Qu;rw[akt (by omega)]at hj;have:=Nw h hj hx;omega
theorem entry_at(h:(names B)[i]? =some e):∃x,B.entries[i]? =some x/\x.name=e:=by
 unfold names at h;rw[afy]at h;cases q:B.entries[i]? with
 |none=>rw[q]at h;cases h
 |some x=>rw[q]at h;exact⟨x,rfl,afv h⟩
abbrev FP:afR:=bt ip 10
theorem xi:au ["self","entry","gone","sense"] ["self","entry"] (ai FP):=cF
theorem Hs{fg:afd}{VQ:afE}(F:b9 K "drop_entry" "Book.drop_entry" FP f fd)(T:mC K mg C)(mF:zJ P w K mg base 1 C "forget" ["self","sense"] (o5 C) fg VQ):aT P w K mg base bX 2 f fd ["self","entry"] (xq C):=by
 refine cz F xi fun _ _ _ _ H _ Q E hr h=> ?_
 obtain⟨b,d,B,FZ,N,e,rfl,hB,he,k⟩:=h;refine⟨_,ae (aI (cy afs aif aiN wQ (az (pv 0)) (aa (pv 1) ab)))
  (ae (aI (oJ (az (pv 0)) (pv 1) ⟨rfl,rfl,rfl,rfl⟩))
  (ae (cY 2 xi.nd (oJ (az (pv 0)) (pv 1) ⟨rfl,rfl,rfl,rfl⟩))
  (af (cM af3 rfl (bO (pv 2)) (hJ 3 xi.nd)
   (af (aI (hG (pv 0) T.cl mF.me mF.ok hr mF.bi .nil bw (aa (pv 3) ab)))))))),?_⟩
 have L0:=hB.bq;obtain⟨Nf,wA⟩:=eZ hB.wf he;have nF:∀c∈FZ,¬c∈bS b d B:=fun c hc z=>L0.fz c z hc
 refine⟨_,rfl,b,C,d.dx,_,_,rfl,L0.ins,T.cl,T.nO,bP,.inl ⟨rfl,_,aJ.of L0.ord⟩,_,rfl,d.o,_,e,rfl,rfl,L0.ord,he,?_⟩;have L1:=L0.LY ((names B).erase e);refine⟨_,rfl,b,C,d.dx,_,_,rfl,L1.ins,T.cl,T.nW,jz,d.w,rfl,.inl ⟨_,.inl L1.hw⟩,_,rfl,d.wk,afz (e:Int),_,L1.hw,rfl,hB.dw.get he,?_⟩;have mq:=L1.Td (cU d.wk (afz (e:Int)));refine⟨_,rfl,b,C,d.dx,_,_,rfl,mq.ins,T.cl,T.nR,du,d.r,rfl,.inl ⟨_,.inl mq.hr⟩,_,rfl,d.rk,afz (e:Int),.ref (d.ra e),mq.hr,rfl,hB.dr.get he,?_⟩;have L3:=mq.PQ (cU d.rk (afz (e:Int)));have ve:Kp (bS b d B) H (aE H d.o (.ba (((names B).erase e).map vn))):=Kp.gZ (wB (by simp));have fA:=dQ (o:= .dK (cU d.wk (afz (e:Int)))) ve (.inl (wB (B:=B) (b:=b) (d:=d) (a:=d.w) (by simp)));have Aj:=dQ (o:= .dK (cU d.rk (afz (e:Int)))) fA (.inl (wB (B:=B) (b:=b) (d:=d) (a:=d.r) (by simp)));have hrn:(dz B e).Nodup:=qR hB.wf.an Nf;refine⟨_,rfl,d.ra e,rfl,⟨_,aJ.of (L3.row e he)⟩,cV (K:=K) (a:=d.ra e) (xs:=(dz B e).map vn)
  (fun i σ H'=>∃(v:Option V) (tk gk:List (br×V)),σ=[some (.ref b),some (vn e),some (.ref (d.ra e)),v]/\gf C H' b {d with wk:=cU d.wk (afz (e:Int)),rk:=cU d.rk (afz (e:Int)),tk:=tk,gk:=gk} ((names B).erase e) (names B) (dz B) FZ/\
   pq tk ((aD B).filter fun m=> !((dz B e).take i).contains m) (fun n=> .ref (d.ta n))/\pq gk ((aD B).filter fun m=> !((dz B e).take i).contains m) (fun n=>vn (aft B n).points)/\tk.length<=N/\gk.length<=N/\Kp (bS b d B) H H')
  ⟨none,d.tk,d.gk,rfl,L3,?_,?_,hB.lt,hB.lg,Aj⟩ (fun i σ H' _ ⟨_,_,_,_,L,_⟩=>aJ.of (L.row e he)) ?_ ?_⟩
 .exact hB.dt.same (fun m=>by simp) fun _ _=>rfl
 .exact hB.dg.same (fun m=>by simp) fun _ _=>rfl
 .rintro i y σ H' hi ⟨v,tk,gk,rfl,L,dt,dg,lt,lg,kp⟩;obtain⟨n,hn,rfl⟩:=eg hi;have hnr:n∈dz B e:=afq hn;have qF:n∈aD B:=(hB.wf.same n).mp (dH.mpr ⟨_,Nf,hnr⟩);have JG:n∈(aD B).filter fun m=> !((dz B e).take i).contains m:=afO.mpr ⟨qF,by
   have:=Cv hrn hn;simpa using this⟩
  have hk:∀m,(m∈(aD B).filter fun m=> !((dz B e).take (i+1)).contains m)↔m≠n/\m∈(aD B).filter fun m=> !((dz B e).take i).contains m:=fun m=>by
   rw[aS hn,afO,afO];simp;constructor
   .rintro⟨h1,h2,h3⟩;exact⟨h3,h1,h2⟩
   .rintro⟨h3,h1,h2⟩;exact⟨h1,h2,h3⟩
  refine⟨_,rfl,b,d.dx,_,rfl,L.ins,bF (by decide+kernel),_,rfl,b,d.dx,d.o,d.w,d.r,d.t,d.g,tk,gk,n,_,_,rfl,L.ins,L.ne (i:=0) (j:=5) rfl rfl (by decide),L.ne (i:=5) (j:=6) rfl rfl (by decide),L.ht,L.hg,dt.get JG,dg.get JG,?_⟩;refine⟨_,cU tk (afz (n:Int)),cU gk (afz (n:Int)),rfl,(L.LZ (cU tk (afz (n:Int)))).LX (cU gk (afz (n:Int))),dt.drop hk fun _ _=>rfl,dg.drop hk fun _ _=>rfl,afw (iZ _ _) lt,afw (iZ _ _) lg,?_⟩;exact dQ (dQ kp (.inl (wB (B:=B) (b:=b) (d:=d) (a:=d.t) (by simp)))) (.inl (wB (B:=B) (b:=b) (d:=d) (a:=d.g) (by simp)))
 .rintro σ H' ⟨v,tk,gk,rfl,L,dt,dg,lt,lg,kp⟩;rw[afb,afT]at dt dg;have pZ:=hB.wf.dropEntry he;have jR:names {B with entries:=B.entries.filter fun y=>y.name !=e,senses:=B.senses.filter fun y=> !(entryAt B e).senses.contains y.name}=(names B).filter fun y=>y !=e:=j1 B e
  have qS:aD {B with entries:=B.entries.filter fun y=>y.name !=e,senses:=B.senses.filter fun y=> !(entryAt B e).senses.contains y.name}=(aD B).filter fun y=> !(dz B e).contains y:=hZ B.senses fun y=> !(entryAt B e).senses.contains y
  have eX:∀m,m∈names {B with entries:=B.entries.filter fun y=>y.name !=e,senses:=B.senses.filter fun y=> !(entryAt B e).senses.contains y.name}↔m≠e/\m∈names B:=fun m=>by
   rw[jR,afO];exact⟨fun z=>⟨by simpa using z.2,z.1⟩,fun z=>⟨z.2,by simpa using z.1⟩⟩
  refine k _ {d with wk:=cU d.wk (afz (e:Int)),rk:=cU d.rk (afz (e:Int)),tk:=tk,gk:=gk} ?_ kp (fun c hc=>qZ (B':={B with entries:=B.entries.filter fun y=>y.name !=e,senses:=B.senses.filter fun y=> !(entryAt B e).senses.contains y.name}) (fun m hm=>((eX m).mp hm).2) c hc);refine{wf:=pZ,bq:= ?_,lw:=afw (iZ _ _) hB.lw,lr:=afw (iZ _ _) hB.lr,lt:=lt,lg:=lg,le:=by rw[jR];exact afw (af8 _ _) hB.le,ls:= ?_,dw:=hB.dw.drop eX fun _ _=>rfl,dr:=hB.dr.drop eX fun _ _=>rfl,dt:=by rw[qS];exact dt,dg:= ?_,word:= ?_,text:= ?_}
  .have L4:=L.sub pZ.en fun m hm=>((eX m).mp hm).2
   have L5:=L4.rows (row':=dz {B with entries:=B.entries.filter fun y=>y.name !=e,senses:=B.senses.filter fun y=> !(entryAt B e).senses.contains y.name}) fun m hm=>by
    obtain⟨x,hx,rfl⟩:=aY.mp hm;show(entryAt _ x.name).senses=(entryAt B x.name).senses;rw[bp pZ hx,bp hB.wf (afO.mp hx).1]
   exact{L5 with ord:=by rw[jR,<-iP hB.wf.en];exact L5.ord}
  .have hp:=iW (kO hB.wf.en Nf);rw[wA,agi]at hp;have:=hp.length_eq;rw[afc]at this;have h2:=hB.ls;show((B.entries.filter fun y=>y.name !=e).flatMap fun e=>e.senses).length<=N;have h3:(B.entries.flatMap fun e=>e.senses).length<=N:=h2;omega
  .rw[qS];refine dg.same (fun _=>ajg) fun m hm=> ?_
   have uc:m∈aD {B with entries:=B.entries.filter fun y=>y.name !=e,senses:=B.senses.filter fun y=> !(entryAt B e).senses.contains y.name}:=by rw[qS];exact hm
   obtain⟨y,hy,rfl⟩:=dB.mp uc;show vn (aft _ y.name).points=vn (aft B y.name).points;rw[eL pZ hy,eL hB.wf (afO.mp hy).1]
  .intro y hy;have hz:=(afO.mp hy).1;exact⟨(hB.word y hz).1,kp _ _ (hB.word y hz).2 (nF _ (hB.word y hz).1)⟩
  .intro y hy;have hz:=(afO.mp hy).1;exact⟨(hB.text y hz).1,kp _ _ (hB.text y hz).2 (nF _ (hB.text y hz).1)⟩
abbrev BO:afR:=bt ip 3
theorem tq:au ["self","found","entry"] ["self"] (ai BO):=cF
theorem ax.new{l:afd}(h:H l=none):ax H (aE H l o):=fun b u e=>by rw[ao (ak e h)];exact e
theorem EJ(F:b9 K "senses" "Book.senses" BO f fd)(T:mC K mg C):aT P w K mg base bX 1 f fd ["self"] (jO C):=by
 refine cz F tq fun _ _ _ _ H _ Q E hr h=> ?_
 obtain⟨b,d,B,FZ,N,rfl,hB,hN,k⟩:=h;refine⟨_,ae (cY 1 tq.nd (cp ab))
  (ae (cM af3 rfl (bO (az (pv 0))) (hJ 2 tq.nd)
   (af (aI (cy afs af2 af9 dJ (pv 1) (aa (bC (bZ hr) (az (pv 0)) (pv 2)) ab)))))
  (af (aq (pv 1)))),?_⟩
 refine⟨afH _,fun l hl=> ?_⟩;have s0:ax H (aE H l (.ba [])):=ax.new hl;have L0:=hB.bq;refine⟨_,rfl,b,C,d.dx,_,_,rfl,s0 _ _ L0.ins,T.cl,T.nO,bP,d.o,rfl,⟨_,aJ.of (s0 _ _ L0.ord)⟩,cV (K:=K) (a:=d.o) (xs:=(names B).map vn)
  (fun i σ H'=>∃(v:Option V),σ=[some (.ref b),some (.ref l),v]/\ax H H'/\NL H' l ((B.entries.take i).flatMap fun x=>x.senses))
  ⟨none,rfl,s0,aj⟩ (fun i σ H' _ ⟨_,_,s1,_⟩=>aJ.of (s1 _ _ L0.ord)) ?_ ?_⟩
 .rintro i y σ H' hi ⟨v,rfl,s1,um⟩;obtain⟨e,he,rfl⟩:=eg hi;obtain⟨x,hx,rfl⟩:=entry_at he;have px:x∈B.entries:=afq hx;have wA:x.name∈names B:=aY.mpr ⟨x,px,rfl⟩;have qm:((B.entries.take (i+1)).flatMap fun x=>x.senses).length<=N:=by
   refine afw ?_ hB.ls;show _<=(B.entries.flatMap fun x=>x.senses).length
   conv=>rhs;rw[<-agK (i+1) B.entries,agH,afc]
   exact agP _ _
  rw[aS hx,agH,afc]at qm;have acF:((B.entries.take i).flatMap fun x=>x.senses).length+x.senses.length<=N:=by simpa using qm
  refine⟨_,rfl,.inl ⟨rfl,_,aJ.of um⟩,_,rfl,b,C,d.dx,_,_,rfl,s1 _ _ L0.ins,T.cl,T.nR,du,_,rfl,d.r,.ref (d.ra x.name),rfl,by
   have:=ei.k (k:=afz (x.name:Int)) (s1 _ _ L0.hr);rw[hB.dr.get wA]at this;exact this,l,d.ra x.name,_,_,rfl,rfl,um,s1 _ _ (hB.row px),by rw[afb,afb];exact agE (b8 (by omega)),?_⟩
  refine⟨_,rfl,fun c o ho=> ?_,?_⟩
  .rw[ao (ak ho hl)];exact s1 c o ho
  .rw[aS hx,agH];show L2.aE _ _ _ l=_;rw[aj,<-afD];simp
 .rintro σ H' ⟨v,rfl,s1,um⟩;refine⟨_,rfl,?_⟩;have bY:((names B).map vn).length=B.entries.length:=by rw[afb];unfold names;rw[afb]
  rw[bY,afT]at um;exact k H' l hl um s1
inductive rp(C:afd)(vs:List V)(H:Hp)(Q:VK)(E:XK):Prop|m:∀(p dx:afd),vs=[.ref p]->H p=some (.ins C dx [])->H dx=some (.own p)->p≠dx->(∀(H':Hp) (d:BA),d.dx=dx->H' p=some (.ins C d.dx (oj d.o d.w d.r d.t d.g))->NL H' d.o []->H' d.w=some (.dK [])->H' d.r=some (.dK [])->H' d.t=some (.dK [])->H' d.g=some (.dK [])->d.wk=[]->d.rk=[]->d.tk=[]->d.gk=[]-> (∀a∈ [d.o,d.w,d.r,d.t,d.g],H a=none)->(eQ p d).Nodup->Kp [p] H H'->Q .gw H')->rp C vs H Q E
abbrev FX:afR:=bt ip 0
theorem LF:au ["self"] ["self"] (ai FX):=cF
theorem fA{p:afd}{i:HO}(hq:H q=none):Kp [p] H (aE (aE H q o) p i):=dQ (dQ (Kp.refl _ _) (.inr hq)) (.inl (by simp))
theorem yW{p x:afd}{i:HO}(h:aE (aE H q o) p i x=none):H x=none:=eV (eV h)
theorem Hz(F:b9 K "__init__" "Book.__init__" FX f fd)(T:mC K mg C):aT P w K mg base bX 1 f fd ["self"] (rp C):=by
 refine cz F LF fun _ _ _ _ H _ Q E hr h=> ?_
 obtain⟨p,dx,rfl,hp,hd,Ul,k⟩:=h;refine⟨_,ae (gx (pv 0) (cp ab) rfl) (ae (gx (pv 0) jJ rfl) (ae (gx (pv 0) jJ rfl) (ae (gx (pv 0) jJ rfl) (af (gx (pv 0) jJ rfl))))),?_⟩;refine⟨afH _,fun o ho=>⟨_,rfl,p,C,dx,[],rfl,(by rw[ao (ak hp ho)];exact hp),T.cl,T.nO,(by show 0<1000;decide),?_⟩⟩;intro w hw;have p1:aE (aE H o (.ba [])) p (.ins C dx (bJ "order" (.ref o) [])) p=some (.ins C dx (bJ "order" (.ref o) [])):=aj;refine⟨_,rfl,p,C,dx,_,rfl,(by rw[ao (ak p1 hw)];exact p1),T.cl,T.nW,(by show 1<1000;decide),?_⟩;intro r Fq;generalize e1:aE (aE H o (.ba [])) p (.ins C dx (bJ "order" (.ref o) []))=H1 at*;have p2:aE (aE H1 w (.dK [])) p (.ins C dx (bJ "words" (.ref w) (bJ "order" (.ref o) []))) p=some (.ins C dx (bJ "words" (.ref w) (bJ "order" (.ref o) []))):=aj;refine⟨_,rfl,p,C,dx,_,rfl,(by rw[ao (ak p2 Fq)];exact p2),T.cl,T.nR,(by show 2<1000;decide),?_⟩;intro t ht;generalize e2:aE (aE H1 w (.dK [])) p (.ins C dx (bJ "words" (.ref w) (bJ "order" (.ref o) [])))=H2 at*;have p3:aE (aE H2 r (.dK [])) p (.ins C dx (bJ "rows" (.ref r) (bJ "words" (.ref w) (bJ "order" (.ref o) [])))) p=some (.ins C dx (bJ "rows" (.ref r) (bJ "words" (.ref w) (bJ "order" (.ref o) [])))):=aj;refine⟨_,rfl,p,C,dx,_,rfl,(by rw[ao (ak p3 ht)];exact p3),T.cl,T.nT,(by show 3<1000;decide),?_⟩;intro g hg;generalize e3:aE (aE H2 r (.dK [])) p (.ins C dx (bJ "rows" (.ref r) (bJ "words" (.ref w) (bJ "order" (.ref o) []))))=H3 at*;have p4:aE (aE H3 t (.dK [])) p (.ins C dx (bJ "texts" (.ref t) (bJ "rows" (.ref r) (bJ "words" (.ref w) (bJ "order" (.ref o) []))))) p=some (.ins C dx (bJ "texts" (.ref t) (bJ "rows" (.ref r) (bJ "words" (.ref w) (bJ "order" (.ref o) []))))):=aj;refine⟨_,rfl,p,C,dx,_,rfl,(by rw[ao (ak p4 hg)];exact p4),T.cl,T.nG,(by show 4<1000;decide),?_⟩;generalize e4:aE (aE H3 t (.dK [])) p (.ins C dx (bJ "texts" (.ref t) (bJ "rows" (.ref r) (bJ "words" (.ref w) (bJ "order" (.ref o) [])))))=H4 at*;have c1:Kp [p] H H1:=e1▸fA ho;have c2:Kp [p] H1 H2:=e2▸fA hw;have c3:Kp [p] H2 H3:=e3▸fA Fq;have c4:Kp [p] H3 H4:=e4▸fA ht;have c5:Kp [p] H4 (aE (aE H4 g (.dK [])) p (.ins C dx (oj o w r t g))):=fA hg;have z1:∀x,H1 x=none->H x=none:=fun x hx=>by rw[<-e1]at hx;exact yW hx
 have z2:∀x,H2 x=none->H1 x=none:=fun x hx=>by rw[<-e2]at hx;exact yW hx
 have z3:∀x,H3 x=none->H2 x=none:=fun x hx=>by rw[<-e3]at hx;exact yW hx
 have z4:∀x,H4 x=none->H3 x=none:=fun x hx=>by rw[<-e4]at hx;exact yW hx
 have np:∀x,H x=none->x≠p:=fun x hx e=>by rw[e,hp]at hx;cases hx
 have nd:∀x,H x=none->x≠dx:=fun x hx e=>by rw[e,hd]at hx;cases hx
 have fo:=ho;have fw:=z1 w hw;have fr:=z1 r (z2 r Fq);have ft:=z1 t (z2 t (z3 t ht));have fg:=z1 g (z2 g (z3 g (z4 g hg)));have no:∀{x:afd},x≠p->¬x∈ [p]:=fun h=>by simpa using h
 have YD:H1 o=some (.ba []):=by rw[<-e1,ao (np o fo)];exact aj
 have YJ:H2 w=some (.dK []):=by rw[<-e2,ao (np w fw)];exact aj
 have Rt:H3 r=some (.dK []):=by rw[<-e3,ao (np r fr)];exact aj
 have YI:H4 t=some (.dK []):=by rw[<-e4,ao (np t ft)];exact aj
 have YE:=c2 _ _ YD (no (np o fo));have YF:=c3 _ _ YE (no (np o fo));have YG:=c4 _ _ YF (no (np o fo));have YK:=c3 _ _ YJ (no (np w fw));have YL:=c4 _ _ YK (no (np w fw));have YH:=c4 _ _ Rt (no (np r fr));refine k _ ⟨dx,o,w,r,t,g,[],[],[],[],fun _=>0,fun _=>0,fun _=>0⟩ rfl aj (c5 _ _ YG (no (np o fo))) (c5 _ _ YL (no (np w fw))) (c5 _ _ YH (no (np r fr))) (c5 _ _ YI (no (np t ft))) (by show L2.aE _ _ _ g=_;rw[ao (np g fg)];exact aj) rfl rfl rfl rfl ?_ ?_ ((((c1.trans c2).trans c3).trans c4).trans c5)
 .intro a ha;have:a=o\/a=w\/a=r\/a=t\/a=g:=by simpa using ha
  rcases this with e|e|e|e|e<;>rw[e]<;>assumption
 .have a1:=(np o fo).symm;have a2:=(np w fw).symm;have a3:=(np r fr).symm;have a4:=(np t ft).symm;have a5:=(np g fg).symm;have b1:=(nd o fo).symm;have b2:=(nd w fw).symm;have b3:=(nd r fr).symm;have b4:=(nd t ft).symm;have b5:=(nd g fg).symm;have d1:o≠w:=ak YD hw;have d2:o≠r:=ak YE Fq;have d3:o≠t:=ak YF ht;have d4:o≠g:=ak YG hg;have d5:w≠r:=ak YJ Fq;have d6:w≠t:=ak YK ht;have d7:w≠g:=ak YL hg;have d8:r≠t:=ak Rt ht;have d9:r≠g:=ak YH hg;have d0:t≠g:=ak YI hg;show [p,dx,o,w,r,t,g].Nodup;simp only[afG,afx,akF,or_false,akv,akm,and_true,alq];exact⟨⟨Ul,a1,a2,a3,a4,a5⟩,⟨b1,b2,b3,b4,b5⟩,⟨d1,d2,d3,d4⟩,⟨d5,d6,d7⟩,⟨d8,d9⟩,d0⟩
theorem jH{α:Type}:∀{l:List α} {i:Nat} {x:α},l.Nodup->¬x∈l->(l.set i x).Nodup
 | [],_,_,h,_=>h
 |a::l,0,x,h,hx=>by
  rw[List.set_cons_zero];rw[afG]at h⊢;exact⟨fun z=>hx (afu _ z),h.2⟩
 |a::l,i+1,x,h,hx=>by
  rw[alW];rw[afG]at h⊢;refine⟨fun z=> ?_,jH h.2 fun z=>hx (afu _ z)⟩;rcases akh z with q|q
  .exact h.1 q
  .exact hx (by rw[<-q];exact af5)
section
variable{ord:List Nat}{row:Nat->List Nat}
theorem gf.gd(h:gf C H b d ord ks row FZ)(ha:a∈eQ b d++ks.map d.ra):∃o,H a=some o:=by
 rcases afN.mp ha with z|z
 .have:a=b\/a=d.dx\/a=d.o\/a=d.w\/a=d.r\/a=d.t\/a=d.g:=by simpa using z
  rcases this with q|q|q|q|q|q|q<;>rw[q]
  .exact⟨_,h.ins⟩
  .exact⟨_,h.own⟩
  .exact⟨_,h.ord⟩
  .exact⟨_,h.hw⟩
  .exact⟨_,h.hr⟩
  .exact⟨_,h.ht⟩
  .exact⟨_,h.hg⟩
 .obtain⟨n,hn,rfl⟩:=afJ.mp z;exact⟨_,h.row n hn⟩
theorem gf.KO(h:gf C H b d ord ks row FZ){x:afd}(hx:H x=none):¬x∈eQ b d++ks.map d.ra:=fun z=>by
 obtain⟨o,ho⟩:=h.gd z;rw[hx]at ho;cases ho
theorem gf.T4(h:gf C H b d ord ks row FZ){x:afd}(hx:H x=none):¬x∈FZ:=fun z=>by
 obtain⟨o,ho⟩:=h.fzt x z;rw[hx]at ho;cases ho
theorem pz{x:afd}{i u:HO}(hx:H x=none)(h:H c=some u)(hc:c≠b):L2.aE (L2.aE H x o) b i c=some u:=by
 rw[ao hc,ao (ak h hx)];exact h
theorem gf.nb(h:gf C H b d ord ks row FZ){x:afd}(hx:(eQ b d)[i]? =some x)(hi:i≠0):x≠b:=h.ne hx rfl hi
theorem gf.Kf(h:gf C H b d ord ks row FZ)(x:afd)(o i:HO):∀c∈FZ,∃o',L2.aE (L2.aE H x o) b i c=some o':=fun c hc=>by
 by_cases e:c=b
 .rw[e,aj];exact⟨_,rfl⟩
 .rw[ao e];exact h.Ke x o c hc
theorem rm{l:List afd}{x:afd}(h:a∈l.set i x):a=x\/a∈l:=(akh h).symm
theorem gf.Xj(h:gf C H b d ord ks row FZ){x:afd}(hx:H x=none)(l:List Nat):gf C (aE (aE H x (.ba (l.map vn))) b (.ins C d.dx (oj x d.w d.r d.t d.g))) b {d with o:=x} l ks row FZ where
 ins:=aj
 own:=pz hx h.own (h.nb (i:=1) rfl (by decide))
 ord:=by show L2.aE _ _ _ x=_;rw[ao (ak h.ins hx).symm];exact aj
 hw:=pz hx h.hw (h.nb (i:=3) rfl (by decide))
 hr:=pz hx h.hr (h.nb (i:=4) rfl (by decide))
 ht:=pz hx h.ht (h.nb (i:=5) rfl (by decide))
 hg:=pz hx h.hg (h.nb (i:=6) rfl (by decide))
 row:=fun e he=>pz hx (h.row e he) (h.Hd (by simp) he)
 nd:=jH (i:=2) h.nd (h.KO hx)
 fz:=fun a ha=>(rm (i:=2) (l:=eQ b d++ks.map d.ra) ha).elim (fun e=>by rw[e];exact h.T4 hx) (h.fz a)
 fzt:=h.Kf _ _ _
theorem gf.Xl(h:gf C H b d ord ks row FZ){x:afd}(hx:H x=none)(m:List (br×V)):gf C (aE (aE H x (.dK m)) b (.ins C d.dx (oj d.o x d.r d.t d.g))) b {d with w:=x,wk:=m} ord ks row FZ where
 ins:=aj
 own:=pz hx h.own (h.nb (i:=1) rfl (by decide))
 ord:=pz hx h.ord (h.nb (i:=2) rfl (by decide))
 hw:=by show L2.aE _ _ _ x=_;rw[ao (ak h.ins hx).symm];exact aj
 hr:=pz hx h.hr (h.nb (i:=4) rfl (by decide))
 ht:=pz hx h.ht (h.nb (i:=5) rfl (by decide))
 hg:=pz hx h.hg (h.nb (i:=6) rfl (by decide))
 row:=fun e he=>pz hx (h.row e he) (h.Hd (by simp) he)
 nd:=jH (i:=3) h.nd (h.KO hx)
 fz:=fun a ha=>(rm (i:=3) (l:=eQ b d++ks.map d.ra) ha).elim (fun e=>by rw[e];exact h.T4 hx) (h.fz a)
 fzt:=h.Kf _ _ _
theorem gf.Xk(h:gf C H b d ord ks row FZ){x:afd}(hx:H x=none)(m:List (br×V)):gf C (aE (aE H x (.dK m)) b (.ins C d.dx (oj d.o d.w d.r x d.g))) b {d with t:=x,tk:=m} ord ks row FZ where
 ins:=aj
 own:=pz hx h.own (h.nb (i:=1) rfl (by decide))
 ord:=pz hx h.ord (h.nb (i:=2) rfl (by decide))
 hw:=pz hx h.hw (h.nb (i:=3) rfl (by decide))
 hr:=pz hx h.hr (h.nb (i:=4) rfl (by decide))
 ht:=by show L2.aE _ _ _ x=_;rw[ao (ak h.ins hx).symm];exact aj
 hg:=pz hx h.hg (h.nb (i:=6) rfl (by decide))
 row:=fun e he=>pz hx (h.row e he) (h.Hd (by simp) he)
 nd:=jH (i:=5) h.nd (h.KO hx)
 fz:=fun a ha=>(rm (i:=5) (l:=eQ b d++ks.map d.ra) ha).elim (fun e=>by rw[e];exact h.T4 hx) (h.fz a)
 fzt:=h.Kf _ _ _
theorem gf.Xi(h:gf C H b d ord ks row FZ){x:afd}(hx:H x=none)(m:List (br×V)):gf C (aE (aE H x (.dK m)) b (.ins C d.dx (oj d.o d.w d.r d.t x))) b {d with g:=x,gk:=m} ord ks row FZ where
 ins:=aj
 own:=pz hx h.own (h.nb (i:=1) rfl (by decide))
 ord:=pz hx h.ord (h.nb (i:=2) rfl (by decide))
 hw:=pz hx h.hw (h.nb (i:=3) rfl (by decide))
 hr:=pz hx h.hr (h.nb (i:=4) rfl (by decide))
 ht:=pz hx h.ht (h.nb (i:=5) rfl (by decide))
 hg:=by show L2.aE _ _ _ x=_;rw[ao (ak h.ins hx).symm];exact aj
 row:=fun e he=>pz hx (h.row e he) (h.Hd (by simp) he)
 nd:=jH (i:=6) h.nd (h.KO hx)
 fz:=fun a ha=>(rm (i:=6) (l:=eQ b d++ks.map d.ra) ha).elim (fun e=>by rw[e];exact h.T4 hx) (h.fz a)
 fzt:=h.Kf _ _ _
end
theorem aV.same(h:aV C H b d B FZ N)(s:ax H H'):aV C H' b d B FZ N:=
 h.keep (S:=[]) (fun a o e _=>s a o e) (fun _ _=>by simp) (fun _ _=>by simp)
structure lN(mg:Str->Option afg):Prop where
 list:mg "list"=none
 dict:mg "dict"=none
 len:mg "len"=none
 range:mg "range"=none
 DG:mg "enumerate"=none
 zip:mg "zip"=none
 max:mg "max"=none
 all:mg "all"=none
 ord:mg "ord"=none
inductive lI(C:afd)(vs:List V)(H:Hp)(Q:VK)(E:XK):Prop|m:∀(b:afd) (d:BA) (B:aga) (FZ:List afd) (N:Nat),vs=[.ref b]->aV C H b d B FZ N->N<100000->(∀(H':Hp) (b':afd) (d':BA),aV C H' b' d' B FZ N->ax H H'->(∀a∈bS b' d' B,H a=none)->Q (.ref b') H')->lI C vs H Q E
abbrev Bs:afR:=dC 45
theorem sV:au ["book","twin","entry"] ["book"] (ai Bs):=cF
theorem Em(F:b9 K "copied" "copied" Bs f fd)(T:mC K mg C)(G:lN mg)(M:Mk K C fI)(oI:aT P w K mg base bX 1 fI fR ["self"] (rp C))(bI:eY K fR ["self"] []):aT P w K mg base bX 3 f fd ["book"] (lI C):=by
 refine cz F sV fun _ _ _ _ H _ Q E hr h=> ?_
 obtain⟨b,d,B,FZ,N,rfl,hB,hN,k⟩:=h;refine⟨_,ae (cY 1 sV.nd (sM M oI hr rfl T.ZK bI .nil bw))
  (ae (gx (pv 1) (gX iO rfl G.list amq (aa (az (pv 0)) ab)) rfl)
  (ae (gx (pv 1) (gX mG rfl G.dict anv (aa (az (pv 0)) ab)) rfl)
  (ae (cM af3 rfl (bO (az (pv 0))) (hJ 2 sV.nd)
   (af (iT (bZ hr) (az (pv 1)) (pv 2) (gX iO rfl G.list amq (aa (bC (bZ hr) (az (pv 0)) (pv 2)) ab)) rfl)))
  (ae (gx (pv 1) (gX mG rfl G.dict anv (aa (az (pv 0)) ab)) rfl)
  (ae (gx (pv 1) (gX mG rfl G.dict anv (aa (az (pv 0)) ab)) rfl)
  (af (aq (pv 1)))))))),?_⟩
 intro p dx np nd ne;refine⟨p,dx,rfl,aj,by rw[ao ne];exact aj,agW ne,fun H1 d1 e1 i1 io iw ir it ig kw kr kt kg fresh Xo kp=>⟨rfl,?_⟩⟩;have s1:ax H H1:=ax.made np nd fun x o h hx=>kp x o h (by simpa using hx)
 have OT:∀{x:afd},(aE (aE H dx (.own p)) p (.ins C dx [])) x=none->H x=none:=fun h=>eV (eV h)
 have n1:∀a∈eQ p d1,H a=none:=fun a ha=>by
  have:a=p\/a=d1.dx\/a=d1.o\/a=d1.w\/a=d1.r\/a=d1.t\/a=d1.g:=by simpa using ha
  rcases this with q|q|q|q|q|q|q
  .rw[q];exact np
  .rw[q,e1];exact nd
  .exact OT (fresh a (by rw[q];simp))
  .exact OT (fresh a (by rw[q];simp))
  .exact OT (fresh a (by rw[q];simp))
  .exact OT (fresh a (by rw[q];simp))
  .exact OT (fresh a (by rw[q];simp))
 have Ro:∀a∈FZ,∃o,H a=some o:=hB.bq.fzt;have L1:gf C H1 p d1 [] [] (dz B) FZ:=⟨i1,by
   rw[e1];exact kp dx _ (by rw[ao ne];exact aj) (by simpa using ne),io,by rw[kw];exact iw,by rw[kr];exact ir,by rw[kt];exact it,by rw[kg];exact ig,fun e he=>by simp at he,by rw[aj1,af7];exact Xo,
   (fun a ha hz=>by
    rw[aj1,af7]at ha;obtain⟨o,ho⟩:=Ro a hz;rw[n1 a ha]at ho;cases ho),fun a ha=>let⟨o,ho⟩:=Ro a ha;⟨o,s1 a o ho⟩⟩
 refine⟨_,rfl,b,C,d.dx,_,_,rfl,s1 _ _ hB.bq.ins,T.cl,T.nO,bP,d.o,_,rfl,.inl (aJ.of (s1 _ _ hB.bq.ord)),fun l hl=> ?_⟩;have mq:=L1.Xj hl (names B);have WC:p≠l:=ak i1 hl;refine⟨_,rfl,p,C,d1.dx,_,rfl,(by rw[ao WC];exact i1),T.cl,T.nO,(by show 5<1000;decide),?_⟩;have s2:ax H (aE (aE H1 l (.ba ((names B).map vn))) p (.ins C d1.dx (oj l d1.w d1.r d1.t d1.g))):=fun x o h=>pz hl (s1 x o h) (ak h np)
 refine⟨_,rfl,b,C,d.dx,_,_,rfl,s2 _ _ hB.bq.ins,T.cl,T.nW,jz,d.w,_,rfl,s2 _ _ hB.bq.hw,fun x hx=> ?_⟩;have L3:=mq.Xl hx d.wk;have WD:p≠x:=ak mq.ins hx;refine⟨_,rfl,p,C,d1.dx,_,rfl,(by rw[ao WD];exact mq.ins),T.cl,T.nW,(by show 5<1000;decide),?_⟩;have s3:ax H (aE (aE (aE (aE H1 l (.ba ((names B).map vn))) p (.ins C d1.dx (oj l d1.w d1.r d1.t d1.g))) x (.dK d.wk)) p (.ins C d1.dx (oj l x d1.r d1.t d1.g))):=fun y o h=>pz hx (s2 y o h) (ak h np)
 have hl0:H l=none:=s1.free hl;have Zz:H x=none:=s2.free hx;refine⟨_,rfl,b,C,d.dx,_,_,rfl,s3 _ _ hB.bq.ins,T.cl,T.nO,bP,d.o,rfl,⟨_,aJ.of (s3 _ _ hB.bq.ord)⟩,cV (K:=K) (a:=d.o) (xs:=(names B).map vn)
  (fun i σ H'=>∃(v:Option V) (d2:BA),σ=[some (.ref b),some (.ref p),v]/\ax H H'/\gf C H' p d2 (names B) ((names B).take i) (dz B) FZ/\pq d2.rk ((names B).take i) (fun e=> .ref (d2.ra e))/\d2.rk.length<=i/\d2.wk=d.wk/\(∀a∈eQ p d2++((names B).take i).map d2.ra,H a=none))
  ⟨none,{d1 with o:=l,w:=x,wk:=d.wk},rfl,s3,?_,?_,?_,rfl,?_⟩ (fun i σ H' _ ⟨_,_,_,s4,_⟩=>aJ.of (s4 _ _ hB.bq.ord)) ?_ ?_⟩
 .rw[ahA];exact L3
 .rw[ahA];show pq d1.rk [] _;rw[kr];intro n;rw[afe (by simp)];rfl
 .show d1.rk.length<=0;rw[kr];exact afp _
 .intro a ha;rw[ahA,aj1,af7]at ha;have:a=p\/a=d1.dx\/a=l\/a=x\/a=d1.r\/a=d1.t\/a=d1.g:=by simpa using ha
  rcases this with q|q|q|q|q|q|q
  .rw[q];exact np
  .exact n1 a (by rw[q];simp)
  .rw[q];exact hl0
  .rw[q];exact Zz
  .exact n1 a (by rw[q];simp)
  .exact n1 a (by rw[q];simp)
  .exact n1 a (by rw[q];simp)
 .rintro i y σ H' hi ⟨v,d2,rfl,s4,L,dr,lr,TZ,new⟩;obtain⟨e,he,rfl⟩:=eg hi;obtain⟨z,hz,rfl⟩:=entry_at he;have W0:z∈B.entries:=afq hz;have hzn:z.name∈names B:=aY.mpr ⟨z,W0,rfl⟩;have hnt:¬z.name∈(names B).take i:=Cv hB.wf.en he;refine⟨_,rfl,b,C,d.dx,_,_,rfl,s4 _ _ hB.bq.ins,T.cl,T.nR,du,_,rfl,d.r,.ref (d.ra z.name),rfl,by
   have:=ei.k (k:=afz (z.name:Int)) (s4 _ _ hB.bq.hr);rw[hB.dr.get hzn]at this;exact this,d.ra z.name,_,rfl,.inl (aJ.of (s4 _ _ (hB.row W0))),fun q hq=> ?_⟩
  have L5:=L.He hq hnt z.senses;have gV:i<(names B).length:=(aff.mp he).1;refine⟨_,rfl,p,C,d2.dx,_,_,rfl,L5.ins,T.cl,T.nR,du,_,rfl,d2.r,_,rfl,pA.k (k:=afz (z.name:Int)) L5.hr (b8 (by show d2.rk.length<=_;have:=hB.le;omega)),?_⟩;have L6:=L5.PQ (dR d2.rk (afz (z.name:Int)) (.ref q));have R9:H q=none:=s4.free hq;have eX:∀m,m∈(names B).take (i+1)↔m=z.name\/m∈(names B).take i:=fun m=>by
   rw[aS he,afN];exact⟨fun h=>h.elim .inr fun h=> .inl (by simpa using h),fun h=>h.elim (fun h=> .inr (by simpa using h)) .inl⟩
  refine⟨_,{d2 with rk:=dR d2.rk (afz (z.name:Int)) (.ref q),ra:=fun n=>if n=z.name then q else d2.ra n},rfl,fun c o h=> ?_,?_,?_,?_,TZ,?_⟩
  .have Wg:c≠d2.r:=fun e2=>by
    have:=new d2.r (af0 _ (by simp));rw[<-e2,h]at this;cases this
   show L2.aE _ d2.r _ c=_;rw[ao Wg,ao (ak h R9)];exact s4 c o h
  .have L7:=(L6.sub (ks':=(names B).take (i+1)) (hB.wf.en.sublist (al8 _ _)) fun m hm=>by rw[afx];exact(eX m).mp hm).rows (row':=dz B) fun m hm=>by
    by_cases e2:m=z.name
    .rw[afj e2,e2];show(entryAt B z.name).senses=_;rw[bp hB.wf W0]
    .rw[afe e2]
   exact⟨L7.ins,L7.own,L7.ord,L7.hw,L7.hr,L7.ht,L7.hg,L7.row,L7.nd,L7.fz,L7.fzt⟩
  .exact dr.gZ eX (by show V.ref (if z.name=z.name then q else _)=_;rw[afj rfl]) fun m _ hm=>by show V.ref (if m=z.name then q else _)=_;rw[afe hm]
  .have:=dm d2.rk (afz (z.name:Int):br) (.ref q);show(dR d2.rk _ _).length<=_;omega
  .intro a ha;rcases afN.mp ha with h|h
   .exact new a (af0 _ h)
   .obtain⟨m,hm,q2⟩:=afJ.mp h;by_cases e2:m=z.name
    .have q3:(if m=z.name then q else d2.ra m)=a:=q2;rw[afj e2]at q3;rw[<-q3];exact R9
    .have q3:(if m=z.name then q else d2.ra m)=a:=q2;rw[afe e2]at q3;exact new a (afK _ (afJ.mpr ⟨m,((eX m).mp hm).resolve_left e2,q3⟩))
 .rintro σ H' ⟨v,d2,rfl,s4,L,dr,lr,TZ,new⟩;rw[afb]at lr;rw[afb,afT]at L dr new;refine⟨_,rfl,b,C,d.dx,_,_,rfl,s4 _ _ hB.bq.ins,T.cl,T.nT,gi,d.t,_,rfl,s4 _ _ hB.bq.ht,fun y hy=> ?_⟩;have L8:=L.Xk hy d.tk;refine⟨_,rfl,p,C,d2.dx,_,rfl,(by rw[ao (ak L.ins hy)];exact L.ins),T.cl,T.nT,(by show 5<1000;decide),?_⟩;have s5:ax H (aE (aE H' y (.dK d.tk)) p (.ins C d2.dx (oj d2.o d2.w d2.r y d2.g))):=fun c o h=>pz hy (s4 c o h) (ak h np)
  refine⟨_,rfl,b,C,d.dx,_,_,rfl,s5 _ _ hB.bq.ins,T.cl,T.nG,dN,d.g,_,rfl,s5 _ _ hB.bq.hg,fun u hu=> ?_⟩;have L9:=L8.Xi hu d.gk;refine⟨_,rfl,p,C,d2.dx,_,rfl,(by rw[ao (ak L8.ins hu)];exact L8.ins),T.cl,T.nG,(by show 5<1000;decide),?_⟩;have s6:ax H (aE (aE (aE (aE H' y (.dK d.tk)) p (.ins C d2.dx (oj d2.o d2.w d2.r y d2.g))) u (.dK d.gk)) p (.ins C d2.dx (oj d2.o d2.w d2.r y u))):=fun c o h=>pz hu (s5 c o h) (ak h np)
  refine⟨_,rfl,?_⟩;have fin:aV C (aE (aE (aE (aE H' y (.dK d.tk)) p (.ins C d2.dx (oj d2.o d2.w d2.r y d2.g))) u (.dK d.gk)) p (.ins C d2.dx (oj d2.o d2.w d2.r y u))) p {d2 with t:=y,g:=u,tk:=d.tk,gk:=d.gk,wa:=d.wa,ta:=d.ta} B FZ N:=
   {wf:=hB.wf,bq:=⟨L9.ins,L9.own,L9.ord,L9.hw,L9.hr,L9.ht,L9.hg,L9.row,L9.nd,L9.fz,L9.fzt⟩,lw:=by show d2.wk.length<=N;rw[TZ];exact hB.lw,lr:=afw lr hB.le,lt:=hB.lt,lg:=hB.lg,le:=hB.le,ls:=hB.ls,dw:=by show pq d2.wk _ _;rw[TZ];exact hB.dw,dr:=dr,dt:=hB.dt,dg:=hB.dg,word:=fun e he=>⟨(hB.word e he).1,s6 _ _ (hB.word e he).2⟩,text:=fun e he=>⟨(hB.text e he).1,s6 _ _ (hB.text e he).2⟩}
  refine k _ p _ fin s6 fun a ha=> ?_
  have hy0:H y=none:=s4.free hy;have WR:H u=none:=s5.free hu;rcases afN.mp ha with h|h
  .have:a=p\/a=d2.dx\/a=d2.o\/a=d2.w\/a=d2.r\/a=y\/a=u:=by simpa using h
   rcases this with q|q|q|q|q|q|q
   .exact new a (af0 _ (by rw[q];simp))
   .exact new a (af0 _ (by rw[q];simp))
   .exact new a (af0 _ (by rw[q];simp))
   .exact new a (af0 _ (by rw[q];simp))
   .exact new a (af0 _ (by rw[q];simp))
   .rw[q];exact hy0
   .rw[q];exact WR
  .exact new a (afK _ h)
def Ah(nw lg ed ln:afd)(em sm:Nat):List (Str×V):=bJ "senses_made" (vn sm) (bJ "entries_made" (vn em) (bJ "lengths" (.ref ln) (bJ "editions" (.ref ed) (bJ "log" (.ref lg) (bJ "now" (.ref nw) [])))))
structure HA where
 dx:afd
 nw:afd
 lg:afd
 ed:afd
 ln:afd
 dn:BA
 eb:List (afd×BA)
 la:List (afd×afd×afd)
abbrev pI(h:afd)(D:HA):List afd:=[h,D.dx,D.lg,D.ed,D.ln]
structure i6(H:Hp)(FZ:List afd)(x:afd×afd×afd)(a:agG):Prop where
 f1:x.1∈FZ
 f2:x.2.1∈FZ
 f3:x.2.2∈FZ
 tu:H x.1=some (.dY [vn (bz a),.ref x.2.1,.ref x.2.2])
 nu:NL H x.2.1 (eO a)
 ro:NL H x.2.2 (uv a)
structure bM(CB CH:afd)(H:Hp)(h:afd)(D:HA)(em sm:Nat)(B:aga)(lg:List agG)(en:List Nat)(bs:List aga)(FZ:List afd)(N:Nat):Prop where
 ins:H h=some (.ins CH D.dx (Ah D.nw D.lg D.ed D.ln em sm))
 own:H D.dx=some (.own h)
 hl:H D.lg=some (.ba (D.la.map fun x=>V.ref x.1))
 he:H D.ed=some (.ba (D.eb.map fun x=>V.ref x.1))
 hn:NL H D.ln en
 now:aV CB H D.nw D.dn B FZ N
 ll:D.la.length=lg.length
 ki:∀(i:Nat) (x:afd×afd×afd) (a:agG),D.la[i]? =some x->lg[i]? =some a->i6 H FZ x a
 el:D.eb.length=bs.length
 BW:∀(i:Nat) (x:afd×BA) (b:aga),D.eb[i]? =some x->bs[i]? =some b->aV CB H x.1 x.2 b FZ N/\∀a∈bS x.1 x.2 b,a∉pI h D/\a∉bS D.nw D.dn B
 nd:(pI h D).Nodup
 ff:∀a∈pI h D,a∉FZ/\a∉bS D.nw D.dn B
section
variable{D:HA}{lg:List agG}{en:List Nat}{bs:List aga}
theorem i6.keep{S:List afd}{x:afd×afd×afd}{a:agG}(L:i6 H FZ x a)(k:Kp S H H')(hs:∀a∈FZ,a∉S):i6 H' FZ x a:=
 ⟨L.f1,L.f2,L.f3,k _ _ L.tu (hs _ L.f1),k _ _ L.nu (hs _ L.f2),k _ _ L.ro (hs _ L.f3)⟩
theorem aV.gd{C:afd}{b:afd}{d:BA}(hB:aV C H b d B FZ N){a:afd}(ha:a∈bS b d B):∃o,H a=some o:=hB.bq.gd ha
theorem bM.UK(W:bM CB CH H h D em sm B lg en bs FZ N)(ha:a∈pI h D):∃o,H a=some o:=by
 have:a=h\/a=D.dx\/a=D.lg\/a=D.ed\/a=D.ln:=by simpa using ha
 rcases this with q|q|q|q|q<;>rw[q]
 .exact⟨_,W.ins⟩
 .exact⟨_,W.own⟩
 .exact⟨_,W.hl⟩
 .exact⟨_,W.he⟩
 .exact⟨_,W.hn⟩
theorem bM.fz(W:bM CB CH H h D em sm B lg en bs FZ N):∀a∈FZ,a∉pI h D:=fun a ha z=>(W.ff a z).1 ha
theorem bM.re(W:bM CB CH H h D em sm B lg en bs FZ N){D':HA}{Rk Te:Nat}{Xb:List agG}{Yx:List Nat}{U4:List aga}(k:Kp (pI h D) H H')(e5:pI h D'=pI h D)(VJ:D'.nw=D.nw)(VL:D'.dn=D.dn)
  (ins:H' h=some (.ins CH D'.dx (Ah D'.nw D'.lg D'.ed D'.ln Rk Te))) (own:H' D'.dx=some (.own h)) (hl:H' D'.lg=some (.ba (D'.la.map fun x=>V.ref x.1))) (he:H' D'.ed=some (.ba (D'.eb.map fun x=>V.ref x.1))) (hn:NL H' D'.ln Yx)
  (hN:N<=N') (hF:∀a∈FZ,a∈cZ) (YT:∀a∈cZ,a∈FZ\/H a=none) (YU:∀a∈cZ,∃o,H' a=some o) (ll:D'.la.length=Xb.length) (el:D'.eb.length=U4.length)
  (ki:∀(i:Nat) (x:afd×afd×afd) (a:agG),D'.la[i]? =some x->Xb[i]? =some a->(D.la[i]? =some x/\lg[i]? =some a)\/i6 H' cZ x a)
  (BW:∀(i:Nat) (x:afd×BA) (b:aga),D'.eb[i]? =some x->U4[i]? =some b->(D.eb[i]? =some x/\bs[i]? =some b)\/(aV CB H' x.1 x.2 b cZ N'/\∀a∈bS x.1 x.2 b,H a=none)):bM CB CH H' h D' Rk Te B Xb Yx U4 cZ N':=by
 have nf:∀{b:afd} {d:BA} {X:aga},aV CB H b d X FZ N->∀a∈bS b d X,a∉cZ:=fun hB a ha z=>by
  rcases YT a z with q|q
  .exact hB.bq.fz a ha q
  .obtain⟨o,ho⟩:=hB.gd ha;rw[q]at ho;cases ho
 have n5:∀a∈pI h D,a∉cZ:=fun a ha z=>by
  rcases YT a z with q|q
  .exact(W.ff a ha).1 q
  .obtain⟨o,ho⟩:=W.UK ha;rw[q]at ho;cases ho
 refine{ins:=ins,own:=own,hl:=hl,he:=he,hn:=hn,now:= ?_,ll:=ll,ki:=fun i x a h1 h2=> ?_,el:=el,BW:=fun i x b h1 h2=> ?_,nd:=by rw[e5];exact W.nd,ff:=fun a ha=> ?_}
 .rw[VJ,VL];exact(W.now.keep k (fun a ha z=>(W.ff a z).2 ha) W.fz).more hN hF (nf W.now) YU
 .rcases ki i x a h1 h2 with⟨q1,q2⟩|q
  .have:=(W.ki i x a q1 q2).keep k W.fz;exact⟨hF _ this.f1,hF _ this.f2,hF _ this.f3,this.tu,this.nu,this.ro⟩
  .exact q
 .rw[e5,VJ,VL];rcases BW i x b h1 h2 with⟨q1,q2⟩|⟨q1,q2⟩
  .obtain⟨q3,q4⟩:=W.BW i x b q1 q2;exact⟨(q3.keep k (fun a ha=>(q4 a ha).1) W.fz).more hN hF (nf q3) YU,q4⟩
  .refine⟨q1,fun a ha=>⟨fun z=> ?_,fun z=> ?_⟩⟩
   .obtain⟨o,ho⟩:=W.UK z;rw[q2 a ha]at ho;cases ho
   .obtain⟨o,ho⟩:=W.now.gd z;rw[q2 a ha]at ho;cases ho
 .rw[e5]at ha;exact⟨n5 a ha,by rw[VJ,VL];exact(W.ff a ha).2⟩
theorem lZ{S:List afd}(s:ax H H'):Kp S H H':=fun a o e _=>s a o e
theorem bM.Ru(W:bM CB CH H h D em sm B lg en bs FZ N)(s:ax H H')(A:List afd)(hA:∀a∈A,H a=none/\∃o,H' a=some o):bM CB CH H' h D em sm B lg en bs (A++FZ) N:=
 W.re (lZ s) rfl rfl rfl (s _ _ W.ins) (s _ _ W.own) (s _ _ W.hl) (s _ _ W.he) (s _ _ W.hn) (afp _) (fun a ha=>afK _ ha) (fun a ha=>(afN.mp ha).elim (fun z=> .inr (hA a z).1) .inl)
  (fun a ha=>(afN.mp ha).elim (fun z=>(hA a z).2) fun z=>let⟨o,ho⟩:=W.now.bq.fzt a z;⟨o,s _ _ ho⟩) W.ll W.el (fun i x a h1 h2=> .inl ⟨h1,h2⟩) (fun i x b h1 h2=> .inl ⟨h1,h2⟩)
theorem bM.same(W:bM CB CH H h D em sm B lg en bs FZ N)(s:ax H H'):bM CB CH H' h D em sm B lg en bs FZ N:=W.Ru s [] (fun a ha=>nomatch ha)
theorem bM.count(W:bM CB CH H h D em sm B lg en bs FZ N)(Rk Te:Nat):bM CB CH (aE H h (.ins CH D.dx (Ah D.nw D.lg D.ed D.ln Rk Te))) h D Rk Te B lg en bs FZ N:=by
 have n:=W.nd;have ne:∀{a:afd},a∈ [D.dx,D.lg,D.ed,D.ln]->a≠h:=fun ha z=>(afG.mp n).1 (z▸ha)
 refine W.re (D':=D) (Kp.gZ (by simp)) rfl rfl rfl aj ?_ ?_ ?_ ?_ (afp _) (fun a ha=>ha) (fun a ha=> .inl ha) (fun a ha=> ?_) W.ll W.el (fun i x a h1 h2=> .inl ⟨h1,h2⟩) (fun i x b h1 h2=> .inl ⟨h1,h2⟩)
 .rw[ao (ne (by simp))];exact W.own
 .rw[ao (ne (by simp))];exact W.hl
 .rw[ao (ne (by simp))];exact W.he
 .show L2.aE _ _ _ _=_;rw[ao (ne (by simp))];exact W.hn
 .exact W.now.bq.Ke _ _ a ha
theorem bM.act(W:bM CB CH H h D em sm B lg en bs FZ N)(hb:aV CB H' D.nw d' B' FZ N')(k:Kp (bS D.nw D.dn B) H H')(g:Gr H (bS D.nw D.dn B) (bS D.nw d' B'))(hN:N<=N'):bM CB CH H' h {D with dn:=d'} em sm B' lg en bs FZ N':=by
 have n5:∀{a:afd},a∈pI h D->a∉bS D.nw D.dn B:=fun ha=>(W.ff _ ha).2
 have fz:∀a∈FZ,a∉bS D.nw D.dn B:=fun a ha z=>W.now.bq.fz a z ha
 refine{ins:=k _ _ W.ins (n5 (by simp)),own:=k _ _ W.own (n5 (by simp)),hl:=k _ _ W.hl (n5 (by simp)),he:=k _ _ W.he (n5 (by simp)),hn:=k _ _ W.hn (n5 (by simp)),now:=hb,ll:=W.ll,ki:=fun i x a h1 h2=>(W.ki i x a h1 h2).keep k fz,el:=W.el,BW:=fun i x b h1 h2=> ?_,nd:=W.nd,ff:=fun a ha=>⟨(W.ff a ha).1,fun z=> ?_⟩}
 .obtain⟨q1,q2⟩:=W.BW i x b h1 h2;refine⟨(q1.keep k (fun a ha=>(q2 a ha).2) fz).more hN (fun _ z=>z) q1.bq.fz hb.bq.fzt,fun a ha=>⟨(q2 a ha).1,fun z=> ?_⟩⟩;rcases g a z with q|q
  .exact(q2 a ha).2 q
  .obtain⟨o,ho⟩:=q1.gd ha;rw[q]at ho;cases ho
 .rcases g a z with q|q
  .exact(W.ff a ha).2 q
  .obtain⟨o,ho⟩:=W.UK ha;rw[q]at ho;cases ho
theorem dE{α:Type}{l:List α}{x y:α}(h:(l++ [y])[i]? =some x):l[i]? =some x\/(i=l.length/\x=y):=by
 by_cases q:i<l.length
 .rw[agM q]at h;exact .inl h
 .rw[agv (by omega)]at h;have:i-l.length=0:=by
   cases e:i-l.length with
   |zero=>rfl
   |succ n=>rw[e]at h;simp at h
  rw[this]at h;exact .inr ⟨by omega,by simpa using h.symm⟩
theorem bM.sE(W:bM CB CH H h D em sm B lg en bs FZ N){t nl rl:afd}(a:agG)(ht:H t=none)(f1:nl∈FZ)(f2:rl∈FZ)(h1:NL H nl (eO a))(h2:NL H rl (uv a))(hN:N<=N'):
  bM CB CH (aE (aE H t (.dY [vn (bz a),.ref nl,.ref rl])) D.lg (.ba ((D.la.map fun x=>V.ref x.1)++ [.ref t]))) h {D with la:=D.la++ [(t,nl,rl)]} em sm B (lg++ [a]) en bs (t::FZ) N':=by
 have n:=W.nd;have s:ax H (aE H t (.dY [vn (bz a),.ref nl,.ref rl])):=ax.new ht;have nf:∀a∈FZ,a≠D.lg:=fun a ha z=>W.fz a ha (by rw[z];simp)
 have n0:h≠D.lg:=fun z=>(afG.mp n).1 (by rw[z];simp)
 have n1:D.dx≠D.lg:=fun z=>(afG.mp (afG.mp n).2).1 (by rw[z];simp)
 have n2:D.ed≠D.lg:=fun z=>(afG.mp (afG.mp (afG.mp n).2).2).1 (by rw[z];simp)
 have n3:D.ln≠D.lg:=fun z=>(afG.mp (afG.mp (afG.mp n).2).2).1 (by rw[z];simp)
 have nt:t≠D.lg:=fun z=>by rw[z,W.hl]at ht;cases ht
 refine W.re (D':={D with la:=D.la++ [(t,nl,rl)]}) (dQ (lZ s) (.inl (by simp))) rfl rfl rfl ?_ ?_ ?_ ?_ ?_ hN (fun a ha=>afu _ ha) (fun a ha=>(afx.mp ha).elim (fun z=> .inr (z▸ht)) .inl) (fun a ha=> ?_) ?_ W.el (fun i x b q1 q2=> ?_) (fun i x b q1 q2=> .inl ⟨q1,q2⟩)
 .rw[ao n0];exact s _ _ W.ins
 .show L2.aE _ _ _ D.dx=_;rw[ao n1];exact s _ _ W.own
 .show L2.aE _ D.lg _ D.lg=_;rw[aj,afD];rfl
 .show L2.aE _ _ _ D.ed=_;rw[ao n2];exact s _ _ W.he
 .show L2.aE _ _ _ D.ln=_;rw[ao n3];exact s _ _ W.hn
 .rcases afx.mp ha with z|z
  .rw[z,ao nt,aj];exact⟨_,rfl⟩
  .obtain⟨o,ho⟩:=W.now.bq.fzt a z;rw[ao (nf a z)];exact⟨o,s _ _ ho⟩
 .show(D.la++_).length=_;rw[afc,afc,W.ll];rfl
 .rcases dE q1 with z1|⟨z1,z2⟩
  .rcases dE q2 with y1|⟨y1,y2⟩
   .exact .inl ⟨z1,y1⟩
   .have:=(aff.mp z1).1;have:=W.ll;omega
  .rcases dE q2 with y1|⟨y1,y2⟩
   .have:=(aff.mp y1).1;have:=W.ll;omega
   .subst z2;subst y2;refine .inr ⟨af5,afu _ f1,afu _ f2,?_,?_,?_⟩
    .show L2.aE _ _ _ t=_;rw[ao nt];exact aj
    .show L2.aE _ _ _ nl=_;rw[ao (nf nl f1)];exact s _ _ h1
    .show L2.aE _ _ _ rl=_;rw[ao (nf rl f2)];exact s _ _ h2
theorem bM.uj(W:bM CB CH H h D em sm B lg en bs FZ N)(hb:aV CB H' b d B FZ N)(s:ax H H')(fr:∀a∈bS b d B,H a=none):
  bM CB CH (aE (aE H' D.ed (.ba ((D.eb.map fun x=>V.ref x.1)++ [.ref b]))) D.ln (.ba ((en++ [lg.length]).map vn))) h {D with eb:=D.eb++ [(b,d)]} em sm B lg (en++ [lg.length]) (bs++ [B]) FZ N:=by
 have n:=W.nd;have nf:∀a∈FZ,a≠D.ed/\a≠D.ln:=fun a ha=>⟨fun z=>W.fz a ha (by rw[z];simp),fun z=>W.fz a ha (by rw[z];simp)⟩
 have n0:h≠D.ed/\h≠D.ln:=⟨fun z=>(afG.mp n).1 (by rw[z];simp),fun z=>(afG.mp n).1 (by rw[z];simp)⟩;have n':=(afG.mp n).2;have n1:D.dx≠D.ed/\D.dx≠D.ln:=⟨fun z=>(afG.mp n').1 (by rw[z];simp),fun z=>(afG.mp n').1 (by rw[z];simp)⟩;have Xf:=(afG.mp n').2;have n2:D.lg≠D.ed/\D.lg≠D.ln:=⟨fun z=>(afG.mp Xf).1 (by rw[z];simp),fun z=>(afG.mp Xf).1 (by rw[z];simp)⟩;have n3:D.ed≠D.ln:=fun z=>(afG.mp (afG.mp Xf).2).1 (by rw[z];simp)
 have nb:∀a∈bS b d B,a≠D.ed/\a≠D.ln:=fun a ha=>⟨fun z=>(by have:=fr a ha;rw[z,W.he]at this;cases this),fun z=>(by have:=fr a ha;rw[z,W.hn]at this;cases this)⟩
 have kp:Kp [D.ed,D.ln] H' (aE (aE H' D.ed (.ba ((D.eb.map fun x=>V.ref x.1)++ [.ref b]))) D.ln (.ba ((en++ [lg.length]).map vn))):=dQ (Kp.gZ (by simp)) (.inl (by simp));refine W.re (D':={D with eb:=D.eb++ [(b,d)]}) (dQ (dQ (lZ s) (.inl (by simp))) (.inl (by simp))) rfl rfl rfl ?_ ?_ ?_ ?_ ?_ (afp _) (fun a ha=>ha) (fun a ha=> .inl ha) (fun a ha=> ?_) W.ll ?_ (fun i x b q1 q2=> .inl ⟨q1,q2⟩) (fun i x c q1 q2=> ?_)
 .rw[ao n0.2,ao n0.1];exact s _ _ W.ins
 .show L2.aE _ _ _ D.dx=_;rw[ao n1.2,ao n1.1];exact s _ _ W.own
 .show L2.aE _ _ _ D.lg=_;rw[ao n2.2,ao n2.1];exact s _ _ W.hl
 .show L2.aE _ _ _ D.ed=_;rw[ao n3,aj,afD];rfl
 .exact aj
 .obtain⟨o,ho⟩:=hb.bq.fzt a ha;exact⟨o,kp a o ho (by simpa using nf a ha)⟩
 .show(D.eb++_).length=_;rw[afc,afc,W.el];rfl
 .rcases dE q1 with z1|⟨z1,z2⟩
  .rcases dE q2 with y1|⟨y1,y2⟩
   .exact .inl ⟨z1,y1⟩
   .have:=(aff.mp z1).1;have:=W.el;omega
  .rcases dE q2 with y1|⟨y1,y2⟩
   .have:=(aff.mp y1).1;have:=W.el;omega
   .subst z2;subst y2;exact .inr ⟨hb.keep kp (fun a ha=>by simpa using nb a ha) (fun a ha=>by simpa using nf a ha),fr⟩
end
def jA(S:afn):List aga:=(aiS S.editions.length).map fun i=>ago S (i+1)
structure cb(CB CH:afd)(H:Hp)(h:afd)(D:HA)(S:afn)(FZ:List afd):Prop where
 w:bM CB CH H h D (agD S.log).2.1 (agD S.log).2.2 (agC S.log) S.log S.editions (jA S) FZ S.log.length
 st:n9 S
section
variable{D:HA}
theorem FH(hi:i<S.editions.length):(jA S)[i]? =some (ago S (i+1)):=by
 unfold jA;rw[afy,List.getElem?_range hi];rfl
theorem rH(st:n9 S)(a:agG):jA (y4 S a)=jA S:=by
 unfold jA;exact ahd fun i hi=>uJ st a (aix.mp hi)
theorem oo:jA (jW S)=jA S++ [agC S.log]:=by
 unfold jA;show(aiS (S.editions++ [S.log.length]).length).map _=_;rw[afc,agT,List.range_succ,afD,List.map_singleton,FG];congr 1;exact ahd fun i hi=>qh (aix.mp hi)
theorem cb.same(W:cb CB CH H h D S FZ)(s:ax H H'):cb CB CH H' h D S FZ:=⟨W.w.same s,W.st⟩
def bQ(D:HA)(k:Nat):afd×BA:=if k=0 then(D.nw,D.dn)else D.eb.getD (k-1) (0,D.dn)
theorem cb.book(W:cb CB CH H h D S FZ){k:Nat}(hk:k<=S.editions.length):aV CB H (bQ D k).1 (bQ D k).2 (ago S k) FZ S.log.length:=by
 cases k with
 |zero=>rw[Dv];exact W.w.now
 |succ i=>
  have e:=FH (S:=S) hk;have hi:i<D.eb.length:=by rw[W.w.el];exact(aff.mp e).1
  have:=(W.w.BW i _ _ (afk hi) e).1;unfold bQ;rw[afe (aia i),ahV,ahU,afk hi];exact this
end
theorem gF.of(h:H a=some (.dY xs)):gF K H a xs:= .inl (.inl h)
inductive tL(K:afW)(vs:List V)(H:Hp)(Q:VK)(E:XK):Prop|m:∀(l:afd) (xs:List Nat),vs=[.ref l]->aJ K H l (xs.map vn)->xs.Nodup->xs.length<=100000->(∀(H':Hp) (p:afd) (kv:List (br×V)),H p=none->H' p=some (.dK kv)->pq kv xs (fun n=>vn (agp xs n-1))->ax H H'->Q (.ref p) H')->tL K vs H Q E
abbrev BK:afR:=dC 11
theorem oS:au ["row","places","place","name"] ["row"] (ai BK):=cF
theorem EF(F:b9 K "places_of" "places_of" BK f fd)(G:lN mg):aT P w K mg base bX 1 f fd ["row"] (tL K):=by
 refine cz F oS fun _ _ _ _ H _ Q E hr h=> ?_
 obtain⟨l,xs,rfl,hl,JF,hN,k⟩:=h;refine⟨_,ae (cY 1 oS.nd jJ)
  (ae (cM af3 rfl (Ln rfl G.DG (aa (pv 0) ab)) (i8 rfl (bH (hJ 2 oS.nd) (bH (hJ 3 oS.nd) gN)))
   (af (iT (bZ hr) (pv 1) (pv 3) (pv 2) rfl)))
  (af (aq (pv 1)))),?_⟩
 intro p hp;have s0:ax H (aE H p (.dK [])):=ax.new hp;refine⟨_,rfl,l,_,rfl,s0.seq hl,DK (K:=K) (a:=l) (xs:=xs.map vn)
  (fun i σ H'=>∃(v v':Option V) (kv:List (br×V)),σ=[some (.ref l),some (.ref p),v,v']/\ax H H'/\H' p=some (.dK kv)/\kv.length<=i/\pq kv (xs.take i) (fun n=>vn (agp xs n-1)))
  ⟨none,none,[],rfl,s0,aj,afp _,fun n=>by rw[ahA,afe (by simp)];rfl⟩ (fun i σ H' _ ⟨_,_,_,_,s1,_⟩=>s1.seq hl) ?_ ?_⟩
 .rintro i x σ H' T hi ⟨v,v',kv,rfl,s1,hk,qm,dk⟩ hT;obtain⟨n,hn,rfl⟩:=eg hi;have gV:i<xs.length:=(aff.mp hn).1;have hTp:p≠T:=ak hk hT;have M5:aE H' T (.dY [.int (i:Nat),vn n]) p=some (.dK kv):=by rw[ao hTp];exact hk
  refine⟨T,_,rfl,gF.of aj,rfl,_,_,rfl,_,_,rfl,rfl,_,rfl,_,rfl,_,rfl,p,_,rfl,pA.k (k:=afz (n:Int)) M5 (b8 (by omega)),?_⟩;have YY:H T=none:=s1.free hT;refine⟨_,_,dR kv (afz (n:Int)) (.int (i:Nat)),rfl,fun c o h=> ?_,aj,?_,?_⟩
  .rw[ao (ak h hp),ao (ak h YY)];exact s1 c o h
  .have:=dm kv (afz (n:Int):br) (.int (i:Nat));omega
  .refine dk.gZ (fun m=> ?_) ?_ fun m _ _=>rfl
   .rw[aS hn,afN];exact⟨fun z=>z.elim .inr fun q=> .inl (by simpa using q),fun z=>z.elim (fun q=> .inr (by simpa using q)) .inl⟩
   .rw[jk JF hn,ahV]
 .rintro σ H' ⟨v,v',kv,rfl,s1,hk,qm,dk⟩;rw[afb,afT]at dk;exact⟨_,rfl,k H' p kv hp hk dk s1⟩
theorem vG(x y n:Nat):∀(l ns:List Nat),l.length=ns.length->ja x (l++ [y]) (ns++ [n])=max (ja x l ns) (if x<y then n else 0)
 | [],[],_=>by
  show(if x<y then max n 0 else 0)=max 0 (if x<y then n else 0);split<;>omega
 |a::l,b::ns,h=>by
  have ih:=vG x y n l ns (by simpa using h);show(if x<a then max b (ja x (l++ [y]) (ns++ [n]))else ja x (l++ [y]) (ns++ [n]))=max (if x<a then max b (ja x l ns)else ja x l ns) _;rw[ih];split<;>omega
 | [],_::_,h=>by simp at h
 |_::_,[],h=>by simp at h
theorem Ls(k c c':Nat)(r:List Nat):(afQ k 1++c::r).set k c'=afQ k 1++c'::r:=by
 rw[List.set_append,afe (by simp)];simp
theorem Pn(k c:Nat)(r:List Nat):(afQ k 1++c::r)[k]? =some c:=by
 rw[agv (by simp)];simp
theorem Lr(k c j:Nat)(r:List Nat):(afQ k 1++c::r)[k+1+j]? =r[j]? :=by
 rw[agv (by simp;omega)];have:k+1+j-(afQ k 1).length=j+1:=by simp;omega
 rw[this];rfl
inductive tN(K:afW)(vs:List V)(H:Hp)(Q:VK)(E:XK):Prop|m:∀(l:afd) (xs:List Nat),vs=[.ref l]->aJ K H l (xs.map vn)->xs.length<=100000->(∀(H':Hp) (p:afd),H p=none->NL H' p (dZ xs)->ax H H'->Q (.ref p) H')->tN K vs H Q E
abbrev BN:afR:=dC 12
theorem oT:au ["places","lengths","start","later"] ["places"] (ai BN):=cF
theorem EI(F:b9 K "rising_lengths" "rising_lengths" BN f fd)(G:lN mg):aT P w K mg base bX 1 f fd ["places"] (tN K):=by
 refine cz F oT fun _ _ _ _ H _ Q E hr h=> ?_
 obtain⟨l,xs,rfl,hl,hN,k⟩:=h;refine⟨_,ae (cY 1 oT.nd (bx AF (cp (aa ag ab)) (aN ay rfl G.len agq (aa (pv 0) ab))))
  (ae (cM af3 rfl (EN rfl G.range (aa (bx j3 (aN ay rfl G.len agq (aa (pv 0) ab)) ag) (aa (CD xR ag) (aa (CD xR ag) ab)))) (hJ 2 oT.nd)
   (af (cM af3 rfl (EM rfl G.range (aa (bx eh (pv 2) ag) (aa (aN ay rfl G.len agq (aa (pv 0) ab)) ab))) (hJ 3 oT.nd)
    (af (aZ (aX oF (aG aA (pv 0) (pv 3)) (aG aA (pv 0) (pv 2)) (bc _))
     (af (Ir (aN (Dy rfl) rfl G.max boot_max (aa (aG aA (pv 1) (pv 2)) (aa (bx eh (aG aA (pv 1) (pv 3)) ag) ab))) (Io (pv 1) (pv 2) zk)))
     aC)))))
  (af (aq (pv 1)))),?_⟩
 refine⟨by show 1<=sizeLine;decide,fun q hq=> ?_⟩;have s0:ax H (aE H q (.ba [.int 1])):=ax.new hq;have bY:(xs.map vn).length=xs.length:=afb _;have b63:((xs.map vn).length:Int)<2^63:=by rw[bY];exact ahY (anB.mpr hN) (by decide)
 refine⟨_,rfl,l,_,rfl,.inl (s0.seq hl),q,_,_,rfl,rfl,aj,ajc (by decide) (ahu _),b63,?_,fun p hp=> ?_⟩
 .show 1*((xs.map vn).length:Int).toNat<=sizeLine;rw[bY];have:=b8 hN;omega
 have R9:H q=none:=hq;have Qw:H p=none:=s0.free hp;have s1:ax H (aE (aE H q (.ba [.int 1])) p (.ba (afQ ((xs.map vn).length:Int).toNat [V.int 1]).flatten)):=s0.trans (ax.new hp);have e0:(afQ ((xs.map vn).length:Int).toNat [V.int 1]).flatten=(afQ (xs.length-0) 1++dZ (xs.drop (xs.length-0))).map vn:=by
  rw[amg,aju];show _=(afQ xs.length 1++ []).map vn;rw[af7,bY,ah6];generalize xs.length=n
  induction n with
  |zero=>rfl
  |succ n ih=>rw[ag1,ah7,ag1,agb,ih];rfl
 refine⟨_,rfl,l,_,rfl,.inl (s1.seq hl),_,_,rfl,rfl,_,rfl,_,rfl,_,_,_,_,rfl,TQ.neg ?_ ?_ (by decide) (by decide),?_⟩
 .rw[bY];have:=ahu xs.length;exact ajc (by decide) (show(-1:Int)<=(xs.length:Int)-1 by omega)
 .rw[bY];exact ahY (show(xs.length:Int)-1<=(100000:Int) by omega) (by decide)
 rw[bY]at s1 e0⊢;have en:((xs.length:Int)-1- -1).toNat=xs.length:=by omega
 rw[en];refine z9 (n:=xs.length) (fun i σ H'=>∃(v v':Option V),σ=[some (.ref l),some (.ref p),v,v']/\ax H H'/\NL H' p (afQ (xs.length-i) 1++dZ (xs.drop (xs.length-i))))
  ⟨none,none,rfl,s1,?_⟩ ?_ ?_
 .show L2.aE _ p _ p=_;rw[aj,e0]
 .rintro i σ H' hi ⟨v,v',rfl,s2,kf⟩;obtain⟨st,yG⟩:∃st,xs.length-i=st+1:=⟨xs.length-i-1,by omega⟩;have est:((xs.length:Int)-1+(i:Nat)* -1)=(st:Int):=by omega
  have qI:st<xs.length:=by omega
  have hx:xs[st]? =some xs[st]:=afk qI;generalize xs[st]=x at hx;have WL:afQ (xs.length-i) 1++dZ (xs.drop (xs.length-i))=afQ st 1++1::dZ (xs.drop (st+1)):=by
   rw[yG,List.replicate_succ',afS];rfl
  rw[WL]at kf;rw[est];refine⟨_,rfl,_,_,rfl,rfl,_,rfl,l,_,rfl,.inl (s2.seq hl),_,_,rfl,⟨?_,?_,?_,?_⟩,?_⟩
  .exact ajc (by decide) (show(0:Int)<=(st:Int)+1 by omega)
  .exact ahY (show(st:Int)+1<=100000 by omega) (by decide)
  .rw[bY];exact ajc (by decide) (ahu _)
  .rw[bY];exact ahY (anB.mpr hN) (by decide)
  rw[bY];have em:((xs.length:Int)-((st:Int)+1)).toNat=(xs.drop (st+1)).length:=by rw[agr];omega
  rw[em];have ll:(dZ (xs.drop (st+1))).length=(xs.drop (st+1)).length:=jh _;refine DL (lo:=(st:Int)+1) (n:=(xs.drop (st+1)).length) (fun j σ H'=>∃(v':Option V),σ=[some (.ref l),some (.ref p),some (vn st),v']/\ax H H'/\NL H' p (afQ st 1++(ja x ((xs.drop (st+1)).take j) ((dZ (xs.drop (st+1))).take j)+1)::dZ (xs.drop (st+1))))
   ⟨v',rfl,s2,kf⟩ ?_ ?_
  .rintro j σ H2 hj ⟨v2,rfl,s3,GN⟩;have hy:(xs.drop (st+1))[j]? =some (xs.drop (st+1))[j]:=afk hj;generalize (xs.drop (st+1))[j]=y at hy;have Wx:(dZ (xs.drop (st+1)))[j]? =some ((dZ (xs.drop (st+1)))[j]'(by rw[ll];exact hj)):=afk _;generalize ((dZ (xs.drop (st+1)))[j]'(by rw[ll];exact hj))=n at Wx;have hyx:xs[st+1+j]? =some y:=by rw[<-hy,ahZ]
   have ej:((st:Int)+1+(j:Nat))=((st+1+j:Nat):Int):=by omega
   rw[ej];have tk:=vG x y n ((xs.drop (st+1)).take j) ((dZ (xs.drop (st+1))).take j) (by rw[afY,afY,ll]);rw[<-aS hy,<-aS Wx]at tk;refine⟨_,rfl,_,rfl,l,_,_,_,rfl,rfl,s3.seq hl,oh (v:=vn y) (by rw[afy,hyx];rfl),_,rfl,_,rfl,l,_,_,_,rfl,rfl,s3.seq hl,oh (v:=vn x) (by rw[afy,hx];rfl),_,_,rfl,rfl,_,rfl,?_⟩;refine aW (fun e=> ?_) (fun e=> ?_)
   .have WW:x<y:=by have:=afh e;omega
    rw[afj WW]at tk;refine⟨_,rfl,_,rfl,p,_,_,_,rfl,rfl,aJ.of GN,oh (v:=vn (ja x ((xs.drop (st+1)).take j) ((dZ (xs.drop (st+1))).take j)+1)) (by rw[afy,Pn];rfl),_,rfl,_,rfl,p,_,_,_,rfl,rfl,aJ.of GN,oh (v:=vn n) (by rw[afy,Lr,Wx];rfl),_,_,rfl,rfl,_,_,rfl,_,rfl,_,rfl,p,_,_,st,rfl,rfl,GN,?_,?_⟩
    .unfold nV;rw[afj (ahu st),afj (by rw[afb,afc,ag2,afr];omega)];rfl
    .refine⟨_,rfl,fun c o h=> ?_,?_⟩
     .rw[ao (ak h Qw)];exact s3 c o h
     .rw[tk];show L2.aE _ p _ p=_;rw[aj];refine congrArg (fun z=>some (HO.ba z)) ?_;rw[(Ls st (ja x ((xs.drop (st+1)).take j) ((dZ (xs.drop (st+1))).take j)+1) (max (ja x ((xs.drop (st+1)).take j) ((dZ (xs.drop (st+1))).take j)) n+1) (dZ (xs.drop (st+1)))).symm,anC];refine congrArg (fun z=>List.set _ st z) ?_;show V.int _=V.int _;refine congrArg V.int ?_;split<;>omega
   .have WW:¬x<y:=fun z=>e (afl (by omega))
    rw[afe WW,anD]at tk;refine⟨_,rfl,s3,?_⟩;rw[tk];exact GN
  .rintro σ H2 ⟨v2,rfl,s3,GN⟩;refine⟨_,_,rfl,s3,?_⟩;have e1:xs.length-(i+1)=st:=by omega
   have e2:xs.drop st=x::xs.drop (st+1):=by
    obtain⟨h1,h2⟩:=aff.mp hx;rw[agN h1,h2]
   rw[e1,e2,oz];rw[afT,<-ll,afT]at GN;exact GN
 .rintro σ H' ⟨v,v',rfl,s2,kf⟩;refine⟨_,rfl,k H' p Qw ?_ s2⟩;rw[akZ,ahX]at kf;exact kf
theorem tT(x:Nat):∀(l ns:List Nat),ja (x+1) (l.map (·+1)) ns=ja x l ns
 | [],_=>by cases ‹List Nat›<;>rfl
 |a::l,[]=>rfl
 |a::l,n::ns=>by
  show(if x+1<a+1 then max n (ja (x+1) (l.map (·+1)) ns)else ja (x+1) (l.map (·+1)) ns)=(if x<a then max n (ja x l ns)else ja x l ns);rw[tT x l ns];by_cases h:x<a
  .rw[afj h,afj (by omega)]
  .rw[afe h,afe (by omega)]
theorem sq:∀l:List Nat,dZ (l.map (·+1))=dZ l
 | []=>rfl
 |x::l=>by rw[agb,oz,oz,sq l,tT]
theorem yO:∀{l:List Nat} {n:Nat},n∈dZ l->0<n
 | [],_,h=>nomatch h
 |x::l,n,h=>by
  rw[oz]at h;rcases afx.mp h with e|h
  .omega
  .exact yO h
theorem yS:∀(ns:List Nat) (m:Nat),pO (m:Int) (ns.map fun n:Nat=>(n:Int))=((max m (ns.foldr max 0):Nat):Int)
 | [],m=>by show(m:Int)=_;rw[show max m (([]:List Nat).foldr max 0)=m from anD m]
 |n::ns,m=>by
  show pO (if(n:Int)>(m:Int)then(n:Int)else(m:Int)) (ns.map fun n:Nat=>(n:Int))=((max m (max n (ns.foldr max 0)):Nat):Int);rw[show(if(n:Int)>(m:Int)then(n:Int)else(m:Int))=((max m n:Nat):Int) by split<;>omega,yS ns (max m n)];congr 1;omega
theorem KN(ns:List Nat):ZL 0 (ns.map fun n:Nat=>(n:Int))=((ns.foldr max 0:Nat):Int):=by
 cases ns with
 |nil=>rfl
 |cons n ns=>exact yS ns n
theorem E6(w bj:Nat):jo w bj [] [] []=[]:=by unfold jo;rfl
theorem yu{ps:List uf}{g:TG}{tb:TS}{D:iD}(Pv:Nat->L2.St->Hp->Prop)(h0:Pv 0 σ H)(hgo:∀i σ H,i<n->Pv i σ H->(vR K ps).go i H)(yG:∀σ H,Pv n σ H->(vR K ps).ju n H)
  (hs:∀i σ H x H',i<n->Pv i σ H->(vR K ps).Di i H x H'->g x σ H' fun σ2 H2=>tb {D with nx:=Pv (i+1),ct:=Pv (i+1),bk:=D.nx} σ2 H2) (hd:∀σ H,Pv n σ H->D.nx σ H):
  ∃W:Nat->Nat->L2.St->Hp->Prop,(∃m,W 0 m σ H)/\∀i m σ H,W i m σ H->
   ((vR K ps).ju i H/\D.nx σ H)\/((vR K ps).go i H/\∃N:L2.St->Hp->Prop,(∀σ' H',N σ' H'->∃m',m'<m/\W (i+1) m' σ' H')/\∀x H',(vR K ps).Di i H x H'->g x σ H' fun σ2 H2=>tb {D with nx:=N,ct:=N,bk:=D.nx} σ2 H2):=by
 refine⟨fun i m σ H=>m=n-i/\i<=n/\Pv i σ H,⟨n,by simp,afH _,h0⟩,?_⟩;rintro i m σ H ⟨rfl,hi,p⟩;by_cases iF:i<n
 .exact .inr ⟨hgo i σ H iF p,Pv (i+1),fun σ' H' p'=>⟨n-(i+1),by omega,rfl,iF,p'⟩,fun v H' y=>hs i σ H v H' iF p y⟩
 .have e:i=n:=by omega
  subst e;exact .inl ⟨yG σ H p,hd σ H p⟩
inductive xN(K:afW)(vs:List V)(H:Hp)(Q:VK)(E:XK):Prop|m:∀(l m:afd) (old new:List Nat),vs=[.ref l,.ref m]->aJ K H l (old.map vn)->aJ K H m (new.map vn)->new.Nodup->old.length<=10000->new.length<=10000->(∀(H':Hp) (p:afd),H p=none->NL H' p (kept old new)->ax H H'->Q (.ref p) H')->xN K vs H Q E
abbrev uL:afR:=dC 13
theorem gy:au ["old","new","new_places","common","places","lengths","wanted","last_place","stay","name","place","length"] ["old","new"] (ai uL):=cF
def Cs(l:List afR)(i:Nat):ahO:=match l.getD i (.Pass ⟨0,0,0,0⟩)with
 | .Assign _ (.ListComp _ _ sc _) _=>sc
 |_=>{kind:= .function,names:=[],isGenerator:=false,isCoroutine:=false}
theorem U1:iK ["old","new","new_places","common","places","lengths","wanted","last_place","stay","name","place","length"] (ai uL) (Cs (cq uL) 1) [("name",9)]:=⟨rfl,by decide+kernel,by decide+kernel,by decide+kernel,by decide+kernel⟩
theorem U2:iK ["old","new","new_places","common","places","lengths","wanted","last_place","stay","name","place","length"] (ai uL) (Cs (cq uL) 2) [("name",9)]:=⟨rfl,by decide+kernel,by decide+kernel,by decide+kernel,by decide+kernel⟩
theorem Lg{fr:afd}{fdr:afE}(F:b9 K "those_that_stay" "those_that_stay" uL f fd)(G:lN mg)(cP:jw P w K mg base 1 "places_of" ["row"] (tL K) fp fY)(cR:jw P w K mg base 1 "rising_lengths" ["places"] (tN K) fr fdr):aT P w K mg base bX 2 f fd ["old","new"] (xN K):=by
 refine cz F gy fun _ _ _ _ H _ Q E hr h=> ?_
 obtain⟨l,m,old,new,rfl,hl,hm,JF,hlo,M8,k⟩:=h;refine⟨_,ae (Iu (i:=2) gy.nd rfl (an0 rfl) (bh cP.ok hr rfl cP.mg cP.kp cP.bi .nil bw (aa (pv 1) ab)))
  (ae (y6 (i:=3) (own:=[("name",9)]) rfl gy.nd rfl rfl rfl (bO (pv 0)) U1
   (fun _ _ _ _ _=>hJ 9 gy.nd) (fun _ _ _ _ _=>oK (AN (AI (bZ hr) (pv 9) (pv 2)) (by with_unfolding_all rfl))) (fun _ _ _ _ _=>pv 9))
  (ae (y6 (i:=4) (own:=[("name",9)]) rfl gy.nd rfl rfl rfl (bO (pv 3)) U2
   (fun _ _ _ _ _=>hJ 9 gy.nd) (fun _ _ _ _ _=>j5) (fun _ _ _ _ _=>bC (bZ hr) (pv 2) (pv 9) (fun _ _=>rfl)))
  (ae (cY 5 gy.nd (bh cR.ok hr rfl cR.mg cR.kp cR.bi .nil bw (aa (pv 4) ab)))
  (ae (cY 6 gy.nd (Ll rfl rfl G.max (pv 5) ag))
  (ae (cY 7 gy.nd (CD xR ag))
  (ae (cY 8 gy.nd (cp ab))
  (ae (cM af3 rfl (Lo rfl G.zip (aa (pv 3) (aa (pv 4) (aa (pv 5) ab)))) (i8 rfl (bH (hJ 9 gy.nd) (bH (hJ 10 gy.nd) (bH (hJ 11 gy.nd) gN))))
   (af (aZ (nj (aX fU (pv 11) (pv 6) (bc _)) (j6 (aX oF (pv 10) (pv 7) (bc _)))).pt
    (ae (aI (cy afs age agj de (pv 8) (aa (pv 9) ab)))
    (ae (cY 7 gy.nd (pv 10))
    (af (lC (i:=6) gy.nd rfl (akd rfl) ag OK))))
    aC)))
  (af (aq (pv 8)))))))))),?_⟩
 refine⟨_,rfl,m,new,rfl,hm,JF,by omega,fun H1 d kv hd hk dk s1=> ?_⟩;have Ab:(old.filter new.contains).length<=old.length:=af8 _ _;refine⟨_,rfl,l,rfl,⟨_,s1.seq hl⟩,fun c hc=>jZ (K:=K) (a:=l) (xs:=old.map vn) (fun i H'=>ax H1 H'/\NL H' c ((old.take i).filter new.contains))
  ⟨ax.new hc,aj⟩ (fun i H' _ ⟨s2,_⟩=>s2.seq (s1.seq hl)) ?_ ?_⟩
 .rintro i x H' hi ⟨s2,ow⟩;obtain⟨n,hn,rfl⟩:=eg hi;have gV:i<old.length:=(aff.mp hn).1;refine⟨rfl,_,rfl,_,rfl,d,_,rfl,ei.k (k:=afz (n:Int)) (s2 _ _ hk),_,rfl,?_⟩;rw[dk.xn];refine aW (fun e=> ?_) (fun e=> ?_)
  .have eX:n∈new:=afh e;refine⟨_,rfl,_,ow,b8 (by rw[afb];have:=af8 new.contains (old.take i);rw[afY]at this;omega),fun b o h=> ?_,?_⟩
   .rw[ao (ak h hc)];exact s2 b o h
   .rw[aS hn,agl,afU,afj (by simpa using eX),ahI];show L2.aE _ c _ c=_;rw[aj,afD];rfl
  .have eX:¬n∈new:=fun z=>e (afl z)
   refine⟨s2,?_⟩;rw[aS hn,agl,afU,afe (by simpa using eX),ahI,af7];exact ow
 rintro H2 ⟨s2,Qr⟩;rw[afb,afT]at Qr;generalize uk:old.filter new.contains=cm at*;have Wf:∀n∈cm,n∈new:=fun n hn=>by rw[<-uk]at hn;simpa using(afO.mp hn).2
 refine⟨_,rfl,c,rfl,⟨_,aJ.of Qr⟩,fun pl kf=>jZ (K:=K) (a:=c) (xs:=cm.map vn) (fun i H'=>ax H2 H'/\NL H' pl ((cm.take i).map fun n=>agp new n-1))
  ⟨ax.new kf,aj⟩ (fun i H' _ ⟨s3,_⟩=>aJ.of (s3 _ _ Qr)) ?_ ?_⟩
 .rintro i x H' hi ⟨s3,WJ⟩;obtain⟨n,hn,rfl⟩:=eg hi;have gV:i<cm.length:=(aff.mp hn).1;have eX:=Wf n (afq hn);refine⟨rfl,?_⟩;dsimp only[Fc];rw[afj rfl];refine⟨_,rfl,_,rfl,d,_,rfl,by
   have:=ei.k (k:=afz (n:Int)) (s3 _ _ (s2 _ _ hk));rw[dk.get eX]at this;exact this,_,WJ,b8 (by rw[afb,afb,afY];omega),fun b o h=> ?_,?_⟩
  .rw[ao (ak h kf)];exact s3 b o h
  .rw[aS hn,afD];show L2.aE _ pl _ pl=_;rw[aj,afD];rfl
 rintro H3 ⟨s3,GN⟩;rw[afb,afT]at GN;refine⟨_,rfl,pl,_,rfl,aJ.of GN,by rw[afb];omega,fun H4 ln acG M6 s4=> ?_⟩;have Oi:dZ (cm.map fun n=>agp new n-1)=dZ (cm.map (agp new)):=by
  rw[<-sq,ag6];congr 1;refine ahd fun n hn=> ?_
  have:=(iS JF (Wf n hn)).2;show agp new n-1+1=_;omega
 rw[Oi]at M6;refine⟨_,rfl,ln,(dZ (cm.map (agp new))).map (fun n:Nat=>(n:Int)),0,rfl,rfl,aJ.of (by rw[<-wL];exact M6),?_⟩;rw[KN];refine⟨_,rfl,afH _,fun st yG=> ?_⟩;have s5:ax H4 (aE H4 st (.ba [])):=ax.new yG;have Kl:NL H4 c cm:=s4 _ _ (s3 _ _ Qr);have Uk:=s4 _ _ GN;have OS:(dZ (cm.map (agp new))).length=cm.length:=by rw[jh,afb]
 have ZI:=DW (old:=old) JF;rw[uk]at ZI;refine⟨_,rfl,_,rfl,_,rfl,c,pl,ln,_,_,_,rfl,aJ.of (s5 _ _ Kl),aJ.of (s5 _ _ Uk),aJ.of (s5 _ _ M6),yu (n:=cm.length)
  (fun i σ H'=>∃(w1 bj:Nat) (sl:List Nat) (v9 TF TJ:Option V),σ=[some (.ref l),some (.ref m),some (.ref d),some (.ref c),some (.ref pl),some (.ref ln),some (vn w1),some (.int ((bj:Int)-1)),some (.ref st),v9,TF,TJ]/\ax H4 H'/\NL H' st sl/\sl.length<=i/\
   kept old new=sl++jo w1 bj (cm.drop i) ((cm.map (agp new)).drop i) ((dZ (cm.map (agp new))).drop i))
  ⟨_,0,[],none,none,none,rfl,s5,aj,afp _,?_⟩ ?_ ?_ ?_ ?_⟩
 .rw[agV,ahX,ahX,ahX];exact ZI
 .rintro i σ H' hi ⟨w1,bj,sl,v9,TF,TJ,rfl,s6,_⟩ p hp;have RQ:=s6 _ _ Kl;have WK:=s6 _ _ Uk;have Wt:=s6 _ _ M6;have:p=(false,c)\/p=(false,pl)\/p=(false,ln):=by simpa using hp
  rcases this with e|e|e
  .subst e;exact⟨_,_,.inr ⟨rfl,aJ.of RQ⟩,afk (by rw[afb];exact hi)⟩
  .subst e;exact⟨_,_,.inr ⟨rfl,aJ.of WK⟩,afk (by rw[afb,afb];exact hi)⟩
  .subst e;exact⟨_,_,.inr ⟨rfl,aJ.of Wt⟩,afk (by rw[afb,OS];exact hi)⟩
 .rintro σ H' ⟨w1,bj,sl,v9,TF,TJ,rfl,s6,_⟩;refine⟨fun p hp=> ?_,(false,c),by simp,_,.inr ⟨rfl,aJ.of (s6 _ _ Kl)⟩,by rw[afb];exact afp _⟩;have:p=(false,c)\/p=(false,pl)\/p=(false,ln):=by simpa using hp
  rcases this with e|e|e
  .subst e;exact⟨_,.inr ⟨rfl,aJ.of (s6 _ _ Kl)⟩⟩
  .subst e;exact⟨_,.inr ⟨rfl,aJ.of (s6 _ _ Uk)⟩⟩
  .subst e;exact⟨_,.inr ⟨rfl,aJ.of (s6 _ _ M6)⟩⟩
 .rintro i σ H' x H5 hi ⟨w1,bj,sl,v9,TF,TJ,rfl,s6,qI,qm,JE⟩ ⟨T,vs,rfl,hT,rfl,Ky,hv⟩;have RQ:=s6 _ _ Kl;have WK:=s6 _ _ Uk;have Wt:=s6 _ _ M6;have gc:cm[i]? =some cm[i]:=afk hi;generalize cm[i]=n at gc;have gV:i<(dZ (cm.map (agp new))).length:=by rw[OS];exact hi
  have gl:(dZ (cm.map (agp new)))[i]? =some ((dZ (cm.map (agp new)))[i]'gV):=afk gV;generalize ((dZ (cm.map (agp new)))[i]'gV)=z at gl;have hn:=Wf n (afq gc);have Af:=(iS JF hn).2;have gp:(cm.map (agp new))[i]? =some (agp new n):=by rw[afy,gc];rfl
  obtain⟨x0,Rv,Oq⟩:=hv 0 (false,c) rfl _ (.inr ⟨rfl,aJ.of RQ⟩);obtain⟨x1,Rw,Ot⟩:=hv 1 (false,pl) rfl _ (.inr ⟨rfl,aJ.of WK⟩);obtain⟨x2,YN,VZ⟩:=hv 2 (false,ln) rfl _ (.inr ⟨rfl,aJ.of Wt⟩);have e0:x0=vn n:=by rw[afy,gc]at Rv;exact(afv Rv).symm
  have e1:x1=vn (agp new n-1):=by rw[afy,afy,gc]at Rw;exact(afv Rw).symm
  have e2:x2=vn z:=by rw[afy,gl]at YN;exact(afv YN).symm
  subst e0 e1 e2;obtain rfl:vs=[vn n,vn (agp new n-1),vn z]:=by
   match vs,Ky,Oq,Ot,VZ with
   | [a,b,c],_,Oq,Ot,VZ=>
    have q1:a=_:=afv Oq;have q2:b=_:=afv Ot;have q3:c=_:=afv VZ;rw[q1,q2,q3]
  have dr:jo w1 bj (cm.drop i) ((cm.map (agp new)).drop i) ((dZ (cm.map (agp new))).drop i)=if z=w1/\bj<agp new n then n::jo (w1-1) (agp new n) (cm.drop (i+1)) ((cm.map (agp new)).drop (i+1)) ((dZ (cm.map (agp new))).drop (i+1))else jo w1 bj (cm.drop (i+1)) ((cm.map (agp new)).drop (i+1)) ((dZ (cm.map (agp new))).drop (i+1)):=by
   obtain⟨a1,a2⟩:=aff.mp gc;obtain⟨b1,b2⟩:=aff.mp gp;obtain⟨c1,c2⟩:=aff.mp gl;rw[agN a1,a2,agN b1,b2,agN c1,c2];rfl
  rw[dr]at JE;have V9:st≠T:=ak qI hT;have Kv:aE H' T (.dY [vn n,vn (agp new n-1),vn z]) st=some (.ba (sl.map vn)):=by rw[ao V9];exact qI
  have hT4:H4 T=none:=s6.free hT;have s7:ax H4 (aE H' T (.dY [vn n,vn (agp new n-1),vn z])):=s6.trans (ax.new hT);have hz0:0<z:=yO (afq gl);refine⟨T,_,rfl,gF.of aj,rfl,_,_,rfl,_,_,rfl,_,_,rfl,rfl,_,rfl,_,rfl,rfl,_,rfl,?_⟩;refine aW (fun e=> ?_) (fun e=> ?_)
  .have ez:z=w1:=by
    have:=afh e;injection this with this
    omega
   refine⟨_,rfl,_,rfl,_,_,rfl,rfl,_,rfl,?_⟩;refine aW (fun e2=> ?_) (fun e2=> ?_)
   .have iF:bj<agp new n:=by have:=afh e2;omega
    rw[afj ⟨ez,iF⟩]at JE;refine⟨_,rfl,.inl ⟨rfl,_,aJ.of Kv⟩,_,rfl,st,_,_,rfl,rfl,Kv,b8 (by rw[afb];omega),?_⟩;refine⟨_,rfl,_,rfl,_,_,rfl,rfl,w1-1,agp new n,sl++ [n],some (vn n),some (vn (agp new n-1)),some (vn z),?_,fun b o h=> ?_,?_,?_,?_⟩
    .have q1:((w1:Int)-1)=((w1-1:Nat):Int):=by omega
     have q2:((agp new n-1:Nat):Int)=(agp new n:Int)-1:=by omega
     show [some (V.ref l),some (V.ref m),some (V.ref d),some (V.ref c),some (V.ref pl),some (V.ref ln),some (V.int ((w1:Int)-1)),some (V.int ((agp new n-1:Nat):Int)),some (V.ref st),some (vn n),some (vn (agp new n-1)),some (vn z)]=_;rw[q1,q2]
    .rw[ao (ak h yG)];exact s7 b o h
    .show L2.aE _ st _ st=_;rw[aj,afD];rfl
    .rw[afc,agT];omega
    .rw[JE,afS];rfl
   .have iF:¬bj<agp new n:=fun q=>e2 (afl (by omega))
    rw[afe (fun q=>iF q.2)]at JE;exact⟨w1,bj,sl,_,_,_,rfl,s7,Kv,by omega,JE⟩
  .have ez:¬z=w1:=fun q=>e (afl (by rw[q]))
   rw[afe (fun q=>ez q.1)]at JE;exact aW (fun q=>nomatch q) fun _=>⟨w1,bj,sl,_,_,_,rfl,s7,Kv,by omega,JE⟩
 .rintro σ H' ⟨w1,bj,sl,v9,TF,TJ,rfl,s6,qI,qm,JE⟩;rw[aju,agt (by rw[afb];exact afp _),agt (by rw[OS];exact afp _),E6,af7]at JE;refine⟨_,rfl,k H' st ?_ ?_ ?_⟩
  .exact s1.free (s2.free (s3.free (s4.free yG)))
  .rw[JE];exact qI
  .exact s1.trans (s2.trans (s3.trans (s4.trans s6)))
theorem l8(w:WF B)(hi:B.entries[i]? =some x)(hj:x.senses[j]? =some n):afX B n=(i+1,j+1):=by
 have hx:=afq hi;have hn:=afq hj;have e:=gv w hx hn;have h0:x.name≠0:=fun z=>w.e0 (z▸aY.mpr ⟨x,hx,rfl⟩)
 unfold afX;rw[e,afe h0,bp w hx,jk (qR w.an hx) hj];have hp:agp (agu B) x.name=i+1:=jk (new:=agu B) w.en (by show(B.entries.map fun x=>x.name)[i]? =_;rw[afy,hi];rfl);rw[hp]
def lL(B:aga)(i:Nat):List Nat:=(B.entries.take i).flatMap fun x=>x.senses
inductive tJ(C:afd)(vs:List V)(H:Hp)(Q:VK)(E:XK):Prop|m:∀(b:afd) (d:BA) (B:aga) (FZ:List afd) (N:Nat),vs=[.ref b]->aV C H b d B FZ N->N<100000->(∀(H':Hp) (p:afd) (kv:List (br×V)) (na:Nat->afd),H p=none->H' p=some (.dK kv)->pq kv (afF B) (fun n=> .ref (na n))-> (∀n∈afF B,H' (na n)=some (.dY [vn (afX B n).1,vn (afX B n).2]))->ax H H'->Q (.ref p) H')->tJ C vs H Q E
theorem Jp:(lL B i).length<=(afF B).length:=by
 unfold lL afF
 conv=>rhs;rw[<-agK i B.entries,agH,afc]
 exact agP _ _
theorem vM(h:B.entries[i]? =some x):lL B (i+1)=lL B i++x.senses:=by
 unfold lL;rw[aS h,agH];simp
structure Fy(H':Hp)(p:afd)(B:aga)(ks:List Nat)(kv:List (br×V))(na:Nat->afd):Prop where
 cG:H' p=some (.dK kv)
 len:kv.length<=ks.length
 Og:pq kv ks (fun n=> .ref (na n))
 dY:∀n∈ks,H' (na n)=some (.dY [vn (afX B n).1,vn (afX B n).2])
abbrev MI:afR:=dC 77
theorem pR:au ["book","numbers","entry_place","entry","sense_place","sense"] ["book"] (ai MI):=cF
theorem La(F:b9 K "sense_numbers" "sense_numbers" MI f fd)(T:mC K mg C)(G:lN mg):aT P w K mg base bX 1 f fd ["book"] (tJ C):=by
 refine cz F pR fun _ _ _ _ H _ Q E hr h=> ?_
 obtain⟨b,d,B,FZ,N,rfl,hB,hN,k⟩:=h;refine⟨_,ae (cY 1 pR.nd jJ)
  (ae (cM af3 rfl (lx rfl G.DG (az (pv 0)) ag) (i8 rfl (bH (hJ 2 pR.nd) (bH (hJ 3 pR.nd) gN)))
   (af (cM af3 rfl (lx rfl G.DG (bC (bZ hr) (az (pv 0)) (pv 3)) ag) (i8 rfl (bH (hJ 4 pR.nd) (bH (hJ 5 pR.nd) gN)))
    (af (iT (bZ hr) (pv 1) (pv 5) (Im (aa (pv 2) (aa (pv 4) ab))) rfl)))))
  (af (aq (pv 1)))),?_⟩
 intro p hp;have s0:ax H (aE H p (.dK [])):=ax.new hp;have L0:=hB.bq;refine⟨_,rfl,b,C,d.dx,_,_,rfl,s0 _ _ L0.ins,T.cl,T.nO,bP,d.o,_,_,rfl,rfl,aJ.of (s0 _ _ L0.ord),by decide,by decide,jD (K:=K) (a:=d.o) (xs:=(names B).map vn) (c:=1)
  (fun i σ H'=>∃(v2 v3 v4 v5:Option V) (kv:List (br×V)) (na:Nat->afd),σ=[some (.ref b),some (.ref p),v2,v3,v4,v5]/\ax H H'/\Fy H' p B (lL B i) kv na)
  ⟨none,none,none,none,[],fun _=>0,rfl,s0,⟨aj,afH _,fun n=>by rw[afe (by simp[lL])];rfl,fun n hn=>by simp[lL]at hn⟩⟩ (fun i σ H' _ ⟨_,_,_,_,_,_,_,s1,_⟩=>aJ.of (s1 _ _ L0.ord)) ?_ ?_⟩
 .rintro i y σ H' Tu hi ⟨v2,v3,v4,v5,kv,na,rfl,s1,hM⟩ hT;obtain⟨e,he,rfl⟩:=eg hi;obtain⟨x,hx,rfl⟩:=entry_at he;have px:x∈B.entries:=afq hx;have wA:x.name∈names B:=aY.mpr ⟨x,px,rfl⟩;have YY:H Tu=none:=s1.free hT;have s2:ax H (aE H' Tu (.dY [.int (1+(i:Nat)),vn x.name])):=s1.trans (ax.new hT);have Z4:ax H' (aE H' Tu (.dY [.int (1+(i:Nat)),vn x.name])):=ax.new hT;refine⟨Tu,_,rfl,gF.of aj,rfl,_,_,rfl,_,_,rfl,rfl,?_⟩;refine⟨_,rfl,b,C,d.dx,_,_,rfl,s2 _ _ L0.ins,T.cl,T.nR,du,_,rfl,d.r,.ref (d.ra x.name),rfl,by
   have:=ei.k (k:=afz (x.name:Int)) (s2 _ _ L0.hr);rw[hB.dr.get wA]at this;exact this,d.ra x.name,_,_,rfl,rfl,aJ.of (s2 _ _ (hB.row px)),by decide,by decide,jD (K:=K) (a:=d.ra x.name) (xs:=x.senses.map vn) (c:=1)
   (fun j σ H'=>∃(v4 v5:Option V) (kv:List (br×V)) (na:Nat->afd),σ=[some (.ref b),some (.ref p),some (.int (1+(i:Nat))),some (vn x.name),v4,v5]/\ax H H'/\Fy H' p B (lL B i++x.senses.take j) kv na)
   ⟨v4,v5,kv,na,rfl,s2,⟨Z4 _ _ hM.cG,by rw[ahA,af7];exact hM.len,by rw[ahA,af7];exact hM.Og,fun n hn=>by rw[ahA,af7]at hn;exact Z4 _ _ (hM.dY n hn)⟩⟩ (fun j σ H' _ ⟨_,_,_,_,_,s3,_⟩=>aJ.of (s3 _ _ (hB.row px))) ?_ ?_⟩
  .rintro j y σ H3 Tv hj ⟨v4,v5,kv,na,rfl,s3,M3⟩ hTv;obtain⟨n,hn,rfl⟩:=eg hj;have s4:ax H3 (aE H3 Tv (.dY [.int (1+(j:Nat)),vn n])):=ax.new hTv;refine⟨Tv,_,rfl,gF.of aj,rfl,_,_,rfl,_,_,rfl,rfl,?_⟩;refine⟨_,rfl,_,rfl,by show 2<=sizeLine;decide,fun Tw Wa=> ?_⟩;have s5:ax H3 (aE (aE H3 Tv (.dY [.int (1+(j:Nat)),vn n])) Tw (.dY [.int (1+(i:Nat)),.int (1+(j:Nat))])):=s4.trans (ax.new Wa);have Zp:=s5 _ _ M3.cG;have Kr:=l8 hB.wf hx hn;have hfl:(lL B i++x.senses.take (j+1)).length<=N:=by
    have h1:(lL B (i+1)).length<=N:=afw Jp hB.ls;rw[vM hx,afc]at h1;rw[afc,afY];omega
   have Ad:(lL B i++x.senses.take (j+1)).length=(lL B i++x.senses.take j).length+1:=by
    rw[aS hn,<-afS,afc];rfl
   refine⟨_,rfl,_,rfl,p,_,rfl,pA.k (k:=afz (n:Int)) Zp (b8 (by have:=M3.len;omega)),?_⟩;have hpT:∀{a o},H a=some o->a≠p:=fun h=>ak h hp
   have aca:H Tw=none:=s3.free (s4.free Wa);have eX:∀m,m∈lL B i++x.senses.take (j+1)↔m=n\/m∈lL B i++x.senses.take j:=fun m=>by
    rw[aS hn,<-afS,afN];exact⟨fun z=>z.elim .inr fun q=> .inl (by simpa using q),fun z=>z.elim (fun q=> .inr (by simpa using q)) .inl⟩
   refine⟨_,_,dR kv (afz (n:Int)) (.ref Tw),fun m=>if m=n then Tw else na m,rfl,fun a o h=> ?_,⟨aj,?_,?_,fun m hm=> ?_⟩⟩
   .rw[ao (hpT h)];exact s5 a o (s3 a o h)
   .have:=dm kv (afz (n:Int):br) (.ref Tw);have:=M3.len;omega
   .refine M3.Og.gZ eX ?_ fun m _ gh=> ?_
    .show V.ref (if n=n then Tw else _)=_;rw[afj rfl]
    .show V.ref (if m=n then Tw else _)=_;rw[afe gh]
   .show L2.aE _ p _ (if m=n then Tw else na m)=_;by_cases q:m=n
    .rw[afj q,q,Kr,ao (agW (ak (s4 _ _ M3.cG) Wa)),aj];show some (HO.dY [V.int (1+(i:Nat)),V.int (1+(j:Nat))])=some (HO.dY [V.int ((i+1:Nat):Int),V.int ((j+1:Nat):Int)]);rw[show((i+1:Nat):Int)=1+(i:Int) by omega,show((j+1:Nat):Int)=1+(j:Int) by omega]
    .rw[afe q];have WA:=((eX m).mp hm).resolve_left q;have ht:=s5 _ _ (M3.dY m WA);rw[ao (Nz ht Zp (by intro z;cases z))];exact ht
  .rintro σ H3 ⟨v4,v5,kv,na,rfl,s3,M3⟩;refine⟨_,_,_,_,kv,na,rfl,s3,?_⟩;rw[afb,afT]at M3;rw[vM hx];exact M3
 .rintro σ H' ⟨v2,v3,v4,v5,kv,na,rfl,s1,M⟩;have bY:((names B).map vn).length=B.entries.length:=by rw[afb];unfold names;rw[afb]
  have VH:lL B ((names B).map vn).length=afF B:=by rw[bY];unfold lL;rw[afT];rfl
  rw[VH]at M;exact⟨_,rfl,k H' p kv na hp M.cG M.Og M.dY s1⟩
theorem lS(n:Nat):(agF (toString ((n:Nat):Int))).cps.toList=aho n:=by
 rw[Str.ofString_eq_toList];rfl
theorem fk(a b:Str):(a++b).cps.toList=a.cps.toList++b.cps.toList:=by
 show(a.cps++b.cps).toList=_;simp
theorem bL(a:Str):a.length=a.cps.toList.length:=by show a.cps.size=_;simp
theorem lV(h:n<1000000):(aho n).length<=7:=by
 unfold aho Vbdhag.str;rw[afb];show(String.ofList (Nat.toDigits 10 n)).toList.length<=7;rw[String.toList_ofList];exact(Nat.length_toDigits_le_iff (by decide) (by decide)).mpr (amc h (by decide))
theorem OQ{x:Str}{g:TG}{tt:TT}{vs:List Nat}{Qd:Hp->Prop}(Pv:Nat->Hp->Prop)(h0:Pv 0 (aE H1 D (.ba [])))
  (hs:∀i c H,x.cps[i]? =some c->Pv i H->g (.str ⟨#[c]⟩) (fK σ vs) H fun σ2 H2=>fK σ2 vs=fK σ vs/\tt σ2 H2 fun b H3=>
   if b=true then te σ2 H3 fun y H4=>∃acc,H4 D=some (.ba acc)/\acc.length<sizeLine/\Pv (i+1) (aE H4 D (.ba (acc++ [y])))else Pv (i+1) H3) (hd:∀H,Pv x.cps.size H->Qd H):
  ∃W:Nat->Nat->Hp->Prop,(∃m,W 0 m (aE H1 D (.ba [])))/\∀i m H,W i m H->
   ((QL x).ju i H/\Qd H)\/((QL x).go i H/\∃Nx:Hp->Prop,(∀H',Nx H'->∃m',m'<m/\W (i+1) m' H')/\∀v H',(QL x).Di i H v H'->g v (fK σ vs) H' fun σ2 H2=>fK σ2 vs=fK σ vs/\tt σ2 H2 fun b H3=>
    if b=true then te σ2 H3 fun y H4=>∃acc,H4 D=some (.ba acc)/\acc.length<sizeLine/\Nx (aE H4 D (.ba (acc++ [y])))else Nx H3):=by
 refine⟨fun i m H=>m=x.cps.size-i/\i<=x.cps.size/\Pv i H,⟨x.cps.size,by simp,afH _,h0⟩,?_⟩;rintro i m H ⟨rfl,hi,p⟩;by_cases iF:i<x.cps.size
 .refine .inr ⟨iF,Pv (i+1),fun H' p'=>⟨x.cps.size-(i+1),by omega,rfl,iF,p'⟩,fun v H' y=> ?_⟩;obtain⟨e,c,hc,rfl⟩:=y;subst e;exact hs i c _ hc p
 .have e:i=x.cps.size:=by omega
  subst e;exact .inl ⟨afp _,hd H p⟩
inductive oX(vs:List V)(H:Hp)(Q:VK)(E:XK):Prop|m:∀(z:Str),vs=[.str z]->z.length<=100000->(∀l,H l=none->Q (.ref l) (aE H l (.ba (z.cps.toList.map vn))))->oX vs H Q E
inductive oZ(K:afW)(vs:List V)(H:Hp)(Q:VK)(E:XK):Prop|m:∀(t:afd) (a b:Nat),vs=[.ref t]->gF K H t [vn a,vn b]->a<1000000->b<1000000->(∀z:Str,z.cps.toList=pair (a,b)->Q (.str z) H)->oZ K vs H Q E
inductive xt(vs:List V)(H:Hp)(Q:VK)(E:XK):Prop|m:∀(pl:Nat) (aw:afd) (wd:List Nat),vs=[vn pl,.ref aw]->pl<1000000->NL H aw wd->wd.length<=10000000->(∀(H':Hp) (l:afd),H l=none->NL H' l (aho pl++32::(wd++ [10]))->ax H H'->Q (.ref l) H')->xt vs H Q E
inductive xM(K:afW)(vs:List V)(H:Hp)(Q:VK)(E:XK):Prop|m:∀(t:afd) (a b:Nat) (z:Str) (cG:afd) (tx:List Nat),vs=[.ref t,.str z,.ref cG]->gF K H t [vn a,vn b]->a<1000000->b<1000000->z.length<=1000->NL H cG tx->tx.length<=10000000->(∀(H':Hp) (l:afd),H l=none->NL H' l (pair (a,b)++32::(z.cps.toList++32::(tx++ [10])))->ax H H'->Q (.ref l) H')->xM K vs H Q E
abbrev vX:afR:=dC 103
theorem xg:au ["text","sign"] ["text"] (ai vX):=cF
def xa(l:List afR)(i:Nat):ahO:=match l.getD i (.Pass ⟨0,0,0,0⟩)with
 | .Return (some (.ListComp _ _ sc _)) _=>sc
 |_=>{kind:= .function,names:=[],isGenerator:=false,isCoroutine:=false}
theorem U3:iK ["text","sign"] (ai vX) (xa (cq vX) 0) [("sign",1)]:=⟨rfl,by decide+kernel,by decide+kernel,by decide+kernel,by decide+kernel⟩
theorem Hm(F:b9 K "bytes_of" "bytes_of" vX f fd)(G:lN mg):aT P w K mg base bX 1 f fd ["text"] oX:=by
 refine cz F xg fun _ _ _ _ H _ Q E hr h=> ?_
 obtain⟨z,rfl,hz,k⟩:=h;refine⟨_,af (aq (mv (own:=[("sign",1)]) rfl xg.nd (Ph (pv 0)) U3 (fun _ _ _ _ _=>hJ 1 xg.nd) (fun _ _ _ _ _=>j5) (fun _ _ _ _ _=>aN Od rfl G.ord boot_ord (aa (pv 1) ab)))),?_⟩;refine⟨_,rfl,z,rfl,fun D hD=>OQ (fun i H'=>H'=aE H D (.ba ((z.cps.toList.take i).map vn))) rfl ?_ ?_⟩
 .rintro i c H' hc rfl;refine⟨rfl,?_⟩;dsimp only[Fc];rw[afj rfl];have ow:z.cps.toList[i]? =some c:=by rw[ale];exact hc
  refine⟨_,rfl,c,rfl,_,aj,b8 (by rw[afb,afY];rw[bL]at hz;omega),?_⟩;rw[aS ow,afD];funext b;unfold L2.aE;by_cases e:b=D
  .rw[afj e,afj e];rfl
  .rw[afe e,afe e,afe e]
 .rintro H' rfl;have:z.cps.toList.take z.cps.size=z.cps.toList:=by rw[<-ajX];exact afT
  rw[this];exact k D hD
abbrev Bt:afR:=dC 104
theorem sX:au ["number","entry_place","sense_place"] ["number"] (ai Bt):=cF
theorem En(F:b9 K "dotted" "dotted" Bt f fd):aT P w K mg base bX 1 f fd ["number"] (oZ K):=by
 refine cz F sX fun _ _ _ _ H _ Q E hr h=> ?_
 obtain⟨t,a,b,rfl,ht,ha,hb,k⟩:=h;refine⟨_,ae (cY 1 sX.nd (aG eJ (pv 0) ag))
  (ae (cY 2 sX.nd (aG eJ (pv 0) ag))
  (af (aq (qY (PJ.cons (sL (pv 1)) (PJ.cons sN (PJ.cons (sL (pv 2)) PJ.nil))))))),?_⟩
 have da:=lV ha;have db:=lV hb;have la:(agF (toString ((a:Nat):Int))).length<=7:=by rw[bL,lS];exact da
 have lb:(agF (toString ((b:Nat):Int))).length<=7:=by rw[bL,lS];exact db
 have l1:(ah8++agF (toString ((a:Nat):Int))).length<=7:=by rw[bL,fk,afc,<-bL,<-bL];show 0+_<=7;omega
 have l2:(ah8++agF (toString ((a:Nat):Int))++agF ".").length<=8:=by rw[bL,fk,afc,<-bL,<-bL];show _+1<=8;omega
 have l3:(ah8++agF (toString ((a:Nat):Int))++agF "."++agF (toString ((b:Nat):Int))).length<=15:=by rw[bL,fk,afc,<-bL,<-bL];omega
 have qg:∀{n:Nat},n<=1000->n<=sizeLine:=fun h=>afw h (by decide)
 refine⟨_,rfl,t,_,_,_,rfl,rfl,ht,(show pB [vn a,vn b] (0:Int)=some (vn a)from rfl),_,rfl,t,_,_,_,rfl,rfl,ht,(show pB [vn a,vn b] (1:Int)=some (vn b)from rfl),?_⟩;refine⟨_,rfl,.inl ⟨(a:Int),rfl,?_,_,rfl,qg (by omega),_,rfl,qg (by omega),_,rfl,.inl ⟨(b:Int),rfl,?_,_,rfl,qg (by omega),qg (by omega),k _ ?_⟩⟩⟩
 .show a<2^64;omega
 .show b<2^64;omega
 .rw[fk,fk,fk,lS,lS];show []++aho a++ [46]++aho b=aho a++46::aho b;rw[agV,afS];rfl
theorem ZD{v:V}{Q:VK}(h:H a=some (.ba xs))(e:xs[i]? =some v)(q:Q v H)(hz:z=(i:Int):=by rfl):ER K (.ref a) (.int z) H Q:=⟨a,xs,z,v,rfl,rfl,aJ.of h,gE hz e,q⟩
theorem nV{Q:VK}(h:NL H a l)(e:l[i]? =some n)(q:Q (vn n) H)(hz:z=(i:Int):=by rfl):ER K (.ref a) (.int z) H Q:=ZD h (by rw[afy,e];rfl) q hz
section
variable{es:List agR}{t:TA}
def Tp(t:TA):TE:=fun σ H Q=>t σ H fun xs H1=>xs.length<=sizeLine/\∀(H':Hp) (p:afd),H1 p=none->ax H1 H'->H' p=some (.ba xs)->Q (.ref p) H'
theorem fN(h:PA X es t):PE X (.List es pos) (Tp t):=by
 intro pins s σ H Q I hq;refine alR (cK (h pos pins s σ H _ I hq) fun us s1 ⟨xs,H1,I1,r,z,q⟩=>⟨by rw[<-r.length];exact z,?_⟩);have hf:H1 s1.heap.objs.size=none:=I1.dc.fresh (afp _);refine⟨.ref s1.heap.objs.size,aE H1 s1.heap.objs.size (.ba xs),I1.ml (t':=s1.toks) (fun b u e=>afm _ e) (afp _) ?_,rfl,q _ _ hf (ax.new hf) aj⟩;exact⟨z,us,0,r,afI _ rfl⟩
def Tt(t:TA):TE:=fun σ H Q=>t σ H fun xs H1=>xs.length<=sizeLine/\∀(H':Hp) (p:afd),H1 p=none->ax H1 H'->H' p=some (.dY xs)->Q (.ref p) H'
theorem Xx{x1}(h:PA X es t):PE X (.Tuple es x1 pos) (Tt t):=by
 intro pins s σ H Q I hq;refine alH (cK (h pos pins s σ H _ I hq) fun us s1 ⟨xs,H1,I1,r,z,q⟩=>⟨by rw[<-r.length];exact z,?_⟩);have hf:H1 s1.heap.objs.size=none:=I1.dc.fresh (afp _);refine⟨.ref s1.heap.objs.size,aE H1 s1.heap.objs.size (.dY xs),I1.ml (t':=s1.toks) (fun b u e=>afm _ e) (afp _) ?_,rfl,q _ _ hf (ax.new hf) aj⟩;exact⟨z,us,r,⟨_,afI _ rfl,rfl,_,rfl⟩⟩
inductive NF(x:V)(y:V)(H:Hp)(Q:VK):Prop|m:∀(a b:afd) (l m:List Int),x= .ref a->y= .ref b->IL H a l->IL H b m->l.length+m.length<=16000000->(∀(H':Hp) (p:afd),H p=none->ax H H'->IL H' p (l++m)->Q (.ref p) H')->NF x y H Q
theorem dW:nY X (binaryOp .Add) NF:=by
 intro pins s σ H x y u v Q I rx ry ⟨a,b,l,m,e1,e2,h1,h2,hz,q⟩;exact sG pins s σ H x y u v Q I rx ry ⟨a,b,_,_,e1,e2,h1,h2,by rw[afb,afb];exact agE (aiV hz (by decide)),fun p hp=>q _ p hp (ax.new hp) (by show L2.aE _ p _ p=_;rw[aj,afD])⟩
def iq(xs:List Int)(lo hi:Option Int):List Int:=(xs.drop (HT.vx xs.length 0 lo)).take (HT.vx xs.length xs.length hi-HT.vx xs.length 0 lo)
theorem J1(xs:List Int)(lo hi:Option Int):x6 (xs.map V.int) lo hi=(iq xs lo hi).map V.int:=by
 unfold x6 iq;rw[afb,aiM,ajA]
inductive S1(K:afW)(x:V)(lo:Option Int)(hi:Option Int)(H:Hp)(Q:VK):Prop|m:∀(a:afd) (xs:List Int),x= .ref a->aJ K H a (xs.map V.int)->(∀(H':Hp) (p:afd),H p=none->ax H H'->IL H' p (iq xs lo hi)->Q (.ref p) H')->S1 K x lo hi H Q
theorem mn:UU X (S1 X.K):=by
 intro pins s σ H x v vl vu lo hi sl Q I rx e0 e1 e2 ⟨a,xs,ex,hl,q⟩;exact C8 pins s σ H x v vl vu lo hi sl Q I rx e0 e1 e2 ⟨a,_,ex,hl,fun p hp=>q _ p hp (ax.new hp) (by show L2.aE _ p _ p=_;rw[aj,J1])⟩
end
theorem yn(xs:List Int)(i:Nat):xs.drop (min i xs.length)=xs.drop i:=by
 by_cases h:i<=xs.length
 .rw[ahJ h]
 .rw[ajv (by omega),aju,agt (by omega)]
theorem mJ(xs:List Int)(i j:Nat):iq xs (some (i:Int)) (some (j:Int))=(xs.take j).drop i:=by
 unfold iq;rw[HT.oP,HT.oP,yn,aiD];by_cases h:i<=xs.length
 .rw[ahJ h];by_cases q:j<=xs.length
  .rw[ahJ q]
  .rw[ajv (by omega),agw (by rw[agr];omega),agw (by rw[agr];omega)]
 .rw[agt (by omega),anr,anr]
theorem rK(xs:List Int)(i:Nat):iq xs (some (i:Int)) none=xs.drop i:=by
 unfold iq;rw[HT.oP,HT.sT,yn];exact agw (by rw[agr];omega)
theorem vU(xs:List Int)(j:Nat):iq xs none (some (j:Int))=xs.take j:=by
 unfold iq;rw[HT.oP,HT.sT,ahX,amg];by_cases q:j<=xs.length
 .rw[ahJ q]
 .rw[ajv (by omega),afT,agw (by omega)]
theorem jx(h:NL H a l):IL H a (l.map nat):=by
 show H a=_;rw[h,ag6];rfl
theorem gD(h:IL H a (l.map nat)):NL H a l:=by
 show H a=_;rw[h,ag6];rfl
section
variable{Q:VK}
theorem aV.gR(hB:aV C H b d B FZ N)(he:e∈names B):ei H d.r (vn e) (some (.ref (d.ra e))):=by
 have:=ei.k (k:=afz (e:Int)) hB.bq.hr;rw[hB.dr.get he]at this;exact this
theorem aV.gG(hB:aV C H b d B FZ N)(hn:n∈aD B):ei H d.g (vn n) (some (vn (aft B n).points)):=by
 have:=ei.k (k:=afz (n:Int)) hB.bq.hg;rw[hB.dg.get hn]at this;exact this
end
section
variable{nw lg ed ln:afd}
theorem dP:(Ah nw lg ed ln em sm).lookup ("now":Str)=some (.ref nw):=by rfl
theorem i7:(Ah nw lg ed ln em sm).lookup ("log":Str)=some (.ref lg):=by rfl
theorem pL:(Ah nw lg ed ln em sm).lookup ("editions":Str)=some (.ref ed):=by rfl
theorem Ag:(Ah nw lg ed ln em sm).lookup ("lengths":Str)=some (.ref ln):=by rfl
theorem yE:(Ah nw lg ed ln em sm).lookup ("entries_made":Str)=some (vn em):=by rfl
theorem yF:(Ah nw lg ed ln em sm).lookup ("senses_made":Str)=some (vn sm):=by rfl
end
structure zU(K:afW)(mg:Str->Option afg)(C:afd):Prop where
 cl:zI K C
 nN:fE K C "now"
 nL:fE K C "log"
 nE:fE K C "editions"
 nS:fE K C "lengths"
 nM:fE K C "entries_made"
 nT:fE K C "senses_made"
 mgH:mg "House"=some (.ref C)
theorem wF{g:TG}{vs:List Nat}{Qd:Hp->Prop}(p:Int->Bool)(hD:H1 D=none)(hl:aJ K H1 a (ns.map V.int))(hz:ns.length<=100000)
  (hs:∀(z:Int) (H':Hp) (R:VK),R (.bl (p z)) H'->g (.int z) (fK σ vs) H' fun σ2 H2=>fK σ2 vs=fK σ vs/\te σ2 H2 R)
  (hd:∀H',ax H1 H'->H' D=some (.ba ((ns.map p).map V.bl))->Qd H') (fJ:∀(v:V) (σ:L2.St) (H':Hp) (R R':L2.St->Hp->Prop),(∀σ2 H2,R σ2 H2->R' σ2 H2)->g v σ H' R->g v σ H' R'):
  ∃W:Nat->Nat->Hp->Prop,(∃m,W 0 m (aE H1 D (.ba [])))/\∀i m H,W i m H->
   ((Fx K a).ju i H/\Qd H)\/((Fx K a).go i H/\∃Nx:Hp->Prop,(∀H',Nx H'->∃m',m'<m/\W (i+1) m' H')/\∀x H',(Fx K a).Di i H x H'->g x (fK σ vs) H' fun σ2 H2=>fK σ2 vs=fK σ vs/\Fc σ2 H2 fun b H3=>
    if b=true then te σ2 H3 fun y H4=>∃acc,H4 D=some (.ba acc)/\acc.length<sizeLine/\Nx (aE H4 D (.ba (acc++ [y])))else Nx H3):=by
 refine jZ (K:=K) (a:=a) (xs:=ns.map V.int) (fun i H'=>ax H1 H'/\H' D=some (.ba (((ns.take i).map p).map V.bl))) ⟨ax.new hD,aj⟩ (fun i H' _ h=>h.1.seq hl) ?_ ?_
 .rintro i x H' hi ⟨s1,h1⟩;obtain⟨z,qo,rfl⟩:∃z,ns[i]? =some z/\x=V.int z:=by
   rw[afy]at hi;cases e:ns[i]? with
   |none=>rw[e]at hi;cases hi
   |some z=>rw[e]at hi;exact⟨z,rfl,(afv hi).symm⟩
  refine fJ _ _ _ _ _ (fun σ2 H2 q=>⟨q.1,by dsimp only[Fc];rw[afj rfl];exact q.2⟩) (hs z H' (fun y H4=>∃acc,H4 D=some (.ba acc)/\acc.length<sizeLine/\ax H1 (aE H4 D (.ba (acc++ [y])))/\L2.aE H4 D (.ba (acc++ [y])) D=some (.ba (((ns.take (i+1)).map p).map V.bl))) ⟨_,h1,?_,?_,?_⟩)
  .rw[afb,afb,afY];exact b8 (by omega)
  .exact fun b o e=>by rw[ao (ak e hD)];exact s1 b o e
  .rw[aj,aS qo,afD,afD];rfl
 .rintro H' ⟨s1,h1⟩;rw[afb,afT]at h1;exact hd H' s1 h1
theorem BZ:∀(v:V) (σ:L2.St) (H':Hp) (R R':L2.St->Hp->Prop),(∀σ2 H2,R σ2 H2->R' σ2 H2)->qk i v σ H' R->qk i v σ H' R':=fun _ _ _ _ _ h z=>h _ _ z
inductive o6(K:afW)(vs:List V)(H:Hp)(Q:VK)(E:XK):Prop|m:∀(a:afd) (r:List Int) (sh lo le gr:Nat),vs=[.ref a,vn sh,vn lo,vn le,vn gr]->aJ K H a (r.map V.int)->r.length<=100000->(∀H',ax H H'->Q (.bl (dG r sh lo le gr)) H')->o6 K vs H Q E
inductive JK(K:afW)(p:List Int->Bool)(vs:List V)(H:Hp)(Q:VK)(E:XK):Prop|m:∀(a:afd) (r:List Int),vs=[.ref a]->aJ K H a (r.map V.int)->r.length<=100000->(∀H',ax H H'->Q (.bl (p r)) H')->JK K p vs H Q E
def Cz:ahO:={kind:= .function,names:=[],isGenerator:=false,isCoroutine:=false}
def ZJ:agR->ahO
 | .ListComp _ _ sc _=>sc
 | .Call _ [.ListComp _ _ sc _] _ _=>sc
 | .UnaryOp _ (.Call _ [.ListComp _ _ sc _] _ _) _=>sc
 | .BoolOp _ [_,.UnaryOp _ (.Call _ [.ListComp _ _ sc _] _ _) _] _=>sc
 |_=>Cz
def OP(l:List afR)(i:Nat):ahO:=match l.getD i (.Pass ⟨0,0,0,0⟩)with
 | .Return (some e) _=>ZJ e
 | .If e _ _ _=>ZJ e
 |_=>Cz
abbrev wc:afR:=dC 31
theorem xj:au ["row","shortest","longest","least","greatest","number"] ["row","shortest","longest","least","greatest"] (ai wc):=cF
theorem JU:iK ["row","shortest","longest","least","greatest","number"] (ai wc) (OP (cq wc) 1) [("number",5)]:=⟨rfl,by decide+kernel,by decide+kernel,by decide+kernel,by decide+kernel⟩
theorem HF(F:b9 K "is_row" "is_row" wc f fd)(G:lN mg):aT P w K mg base bX 1 f fd ["row","shortest","longest","least","greatest"] (o6 K):=by
 refine cz F xj fun _ _ _ _ H _ Q E hr h=> ?_
 obtain⟨a,r,sh,lo,le,gr,rfl,hl,hz,k⟩:=h;refine⟨_,ae (aZ (bu (lD gT gT (pv 1) (aN ay rfl G.len agq (aa (pv 0) ab)) (pv 2))) (af (aq dy)) aC)
  (af (aq (aN (rI rfl) rfl G.all amh (aa (mv (own:=[("number",5)]) rfl xj.nd (bO (pv 0)) JU (fun _ _ _ _ _=>hJ 5 xj.nd) (fun _ _ _ _ _=>j5) (fun _ _ _ _ _=>sJ gT gT (pv 3) (pv 5) (pv 4))) ab)))),?_⟩
 have e1:((r.map V.int).length:Int)=r.length:=by rw[afb]
 have fin:∀{H'},ax H H'->decide (sh<=r.length/\r.length<=lo)=false->Q (.bl false) H':=fun s q=>by
  have:=k _ s;unfold dG at this;rw[q,ai5]at this;exact this
 refine⟨_,rfl,_,rfl,a,_,rfl,.inl hl,_,_,rfl,rfl,_,rfl,?_⟩;refine aW (fun c1=> ?_) (fun c1=> ?_)
 .refine⟨_,rfl,_,_,rfl,rfl,_,rfl,?_⟩;refine aW (fun c2=> ?_) (fun c2=> ?_)
  .refine fin (ax.refl H) (agd fun q=> ?_);rw[e1]at c2;simp at c2;omega
  .rw[e1]at c1 c2;have c3:decide (sh<=r.length/\r.length<=lo)=true:=by
    simp at c1 c2;exact afl ⟨by omega,by omega⟩
   refine⟨_,rfl,a,rfl,⟨_,hl⟩,fun D hD=>wF (fun z=>decide ((le:Int)<=z/\z<=(gr:Int))) hD hl hz (fun z H' R q=>⟨rfl,_,rfl,_,rfl,_,_,rfl,rfl,_,rfl,?_⟩) (fun H' s1 h1=>⟨D,_,rfl,aJ.of h1,?_⟩) BZ⟩
   .refine aW (fun d1=>⟨_,rfl,_,_,rfl,rfl,?_⟩) (fun d1=> ?_)
    .have e:decide (z<=(gr:Int))=decide ((le:Int)<=z/\z<=(gr:Int)):=agB.mpr ⟨fun q=>⟨afh d1,q⟩,fun q=>q.2⟩;show R (V.bl (decide (z<=(gr:Int)))) H';rw[e];exact q
    .have e:false=decide ((le:Int)<=z/\z<=(gr:Int)):=(agd fun q=>d1 (afl q.1)).symm;rw[e];exact q
   .have:=k _ s1;unfold dG at this;rw[c3,ajB]at this;rw[ag5];exact this
 .refine⟨_,rfl,fin (ax.refl H) (agd fun q=>c1 (afl ?_))⟩;rw[e1];omega
theorem gY{x:Str}{n:Int}(hg:Gl X x)(h:∃t,X.mg x=some (.int n t))(hd:(x==("__debug__":Str))=false:=by decide):PE X (.Name x pos) (tC (.int n)):=
 let⟨t,m⟩:=h;cu hg m ⟨t,rfl⟩ hd
theorem qb(Q:VK){a b:Bool}(e:a=b)(q:Q (.bl b) H):Q (.bl a) H:=e▸q
theorem GS{k:Nat}(c:decide ((V.int (k:Int))=V.int 0)=true):k=0:=by
 have:=afh c;injection this with this
 omega
theorem GU{k:Nat}(c:¬decide ((V.int (k:Int))=V.int 0)=true):k≠0:=fun z=>c (afl (by rw[z];rfl))
theorem bM.mt{D:HA}{lg:List agG}{en:List Nat}{bs:List aga}(W:bM CB CH H h D em sm B lg en bs FZ N){dvs:List V}{E:XK}{t:TA}{Q:VK}(hm:¬m="now"/\¬m="log"/\¬m="editions"/\¬m="lengths"/\¬m="entries_made"/\¬m="senses_made")(q:t σ H fun vs H2=>sp (.ref h::(vs++dvs)) H2 Q E):Ai CH m sp dvs E t σ Q (.ref h) H:=by
 refine⟨h,D.dx,_,rfl,W.ins,?_,q⟩;unfold Ah;rw[aP,afe hm.2.2.2.2.2,aP,afe hm.2.2.2.2.1,aP,afe hm.2.2.2.1,aP,afe hm.2.2.1,aP,afe hm.2.1,aP,afe hm.1];rfl
structure Ju(mg:Str->Option afg):Prop where
 told:∃t,mg "NOT_AS_TOLD"=some (.int (-1) t)
 Xn:∃t,mg "NO_CHANGES"=some (.int (-3) t)
 full:∃t,mg "FULL"=some (.int (-4) t)
 Uw:∃t,mg "NO_ENTRY"=some (.int (-5) t)
 NB:∃t,mg "NO_SENSE"=some (.int (-6) t)
 Ux:∃t,mg "NO_PLACE"=some (.int (-7) t)
 ZT:∃t,mg "NO_EDITION"=some (.int (-8) t)
 noL:∃t,mg "NO_LINE"=some (.int (-5) t)
 mE:∃t,mg "MOST_ENTRIES"=some (.int 20 t)
 mS:∃t,mg "MOST_SENSES"=some (.int 50 t)
 mL:∃t,mg "MOST_LINES"=some (.int 200 t)
 mK:∃t,mg "MOST_EDITIONS"=some (.int 10 t)
 made:∃t,mg "SENSE_MADE"=some (.int 1 t)
 Sw:∃t,mg "SENSE_MOVED_house"=some (.int 4 t)
 Rm:∃t,mg "ERRATUM"=some (.int 8 t)
inductive tF(CB:afd)(CH:afd)(r:Nat->Nat->List agG->List aga->V)(vs:List V)(H:Hp)(Q:VK)(E:XK):Prop|m:∀(h:afd) (D:HA) (em sm:Nat) (B:aga) (lg:List agG) (en:List Nat) (bs:List aga) (FZ:List afd) (N:Nat),vs=[.ref h]->bM CB CH H h D em sm B lg en bs FZ N->Q (r em sm lg bs) H->tF CB CH r vs H Q E
abbrev My:afR:=bt gm 1
theorem Pz:au ["self"] ["self"] (ai My):=cF
theorem K2(F:b9 K "log_is_full" "House.log_is_full" My f fd)(T:zU K mg CH)(G:lN mg)(X:Ju mg):aT P w K mg base bX 1 f fd ["self"] (tF CB CH fun _ _ lg _=> .bl (decide (200<=lg.length))):=by
 refine cz F Pz fun _ _ _ _ H _ Q E hr h=> ?_
 obtain⟨h,D,em,sm,B,lg,en,bs,FZ,N,rfl,W,k⟩:=h;refine⟨_,af (aq (fM CA (aN ay rfl G.len agq (aa (az (pv 0)) ab)) (gY rfl X.mL) (bc _))),?_⟩;refine⟨_,rfl,h,CH,D.dx,_,_,rfl,W.ins,T.cl,T.nL,i7,D.lg,_,rfl,.inl (aJ.of W.hl),_,_,rfl,rfl,?_⟩;have e:decide ((200:Int)<=((D.la.map fun x=>V.ref x.1).length:Nat))=decide (200<=lg.length):=by
  rw[afb,W.ll];exact agB.mpr ⟨fun q=>by omega,fun q=>by omega⟩
 exact qb Q e k
abbrev F7:afR:=bt gm 2
theorem LL:au ["self"] ["self"] (ai F7):=cF
theorem HL{ff:afd}{VP:afE}(F:b9 K "no_more_entries" "House.no_more_entries" F7 f fd)(T:zU K mg CH)(X:Ju mg)(mF:zJ P w K mg base 1 CH "log_is_full" ["self"] (tF CB CH fun _ _ lg _=> .bl (decide (200<=lg.length))) ff VP):aT P w K mg base bX 2 f fd ["self"] (tF CB CH fun em _ lg _=> .bl (decide (20<=em\/200<=lg.length))):=by
 refine cz F LL fun _ _ _ _ H _ Q E hr h=> ?_
 obtain⟨h,D,em,sm,B,lg,en,bs,FZ,N,rfl,W,k⟩:=h;refine⟨_,af (aq (CC (fM CA (az (pv 0)) (gY rfl X.mE) (bc _)) (lu (lq (pv 0) T.cl mF.me mF.ok hr mF.bi .nil bw)))),?_⟩;refine⟨_,rfl,h,CH,D.dx,_,_,rfl,W.ins,T.cl,T.nM,yE,_,_,rfl,rfl,_,rfl,aW (fun c=> ?_) (fun c=> ?_)⟩
 .have c':(20:Int)<=(em:Int):=afh c;exact qb Q (afl (show 20<=em\/200<=lg.length by omega)).symm k
 .have c':¬(20:Int)<=(em:Int):=fun z=>c (afl z)
  exact⟨_,rfl,W.mt (by decide+kernel) ⟨h,D,em,sm,B,lg,en,bs,FZ,N,rfl,W,qb Q (agB.mpr ⟨.inr,fun z=>z.resolve_left (by omega)⟩) k⟩⟩
abbrev F9:afR:=bt gm 3
theorem LN:au ["self"] ["self"] (ai F9):=cF
theorem HN{ff:afd}{VP:afE}(F:b9 K "no_more_senses" "House.no_more_senses" F9 f fd)(T:zU K mg CH)(X:Ju mg)(mF:zJ P w K mg base 1 CH "log_is_full" ["self"] (tF CB CH fun _ _ lg _=> .bl (decide (200<=lg.length))) ff VP):aT P w K mg base bX 2 f fd ["self"] (tF CB CH fun _ sm lg _=> .bl (decide (50<=sm\/200<=lg.length))):=by
 refine cz F LN fun _ _ _ _ H _ Q E hr h=> ?_
 obtain⟨h,D,em,sm,B,lg,en,bs,FZ,N,rfl,W,k⟩:=h;refine⟨_,af (aq (CC (fM CA (az (pv 0)) (gY rfl X.mS) (bc _)) (lu (lq (pv 0) T.cl mF.me mF.ok hr mF.bi .nil bw)))),?_⟩;refine⟨_,rfl,h,CH,D.dx,_,_,rfl,W.ins,T.cl,T.nT,yF,_,_,rfl,rfl,_,rfl,aW (fun c=> ?_) (fun c=> ?_)⟩
 .have c':(50:Int)<=(sm:Int):=afh c;exact qb Q (afl (show 50<=sm\/200<=lg.length by omega)).symm k
 .have c':¬(50:Int)<=(sm:Int):=fun z=>c (afl z)
  exact⟨_,rfl,W.mt (by decide+kernel) ⟨h,D,em,sm,B,lg,en,bs,FZ,N,rfl,W,qb Q (agB.mpr ⟨.inr,fun z=>z.resolve_left (by omega)⟩) k⟩⟩
abbrev F8:afR:=bt gm 4
theorem LM:au ["self"] ["self"] (ai F8):=cF
theorem HM(F:b9 K "no_more_editions" "House.no_more_editions" F8 f fd)(T:zU K mg CH)(G:lN mg)(X:Ju mg):aT P w K mg base bX 1 f fd ["self"] (tF CB CH fun _ _ _ bs=> .bl (decide (10<=bs.length))):=by
 refine cz F LM fun _ _ _ _ H _ Q E hr h=> ?_
 obtain⟨h,D,em,sm,B,lg,en,bs,FZ,N,rfl,W,k⟩:=h;refine⟨_,af (aq (fM CA (aN ay rfl G.len agq (aa (az (pv 0)) ab)) (gY rfl X.mK) (bc _))),?_⟩;refine⟨_,rfl,h,CH,D.dx,_,_,rfl,W.ins,T.cl,T.nE,pL,D.ed,_,rfl,.inl (aJ.of W.he),_,_,rfl,rfl,qb Q ?_ k⟩;rw[afb,W.el];exact agB.mpr ⟨fun q=>by omega,fun q=>by omega⟩
inductive xx(CB:afd)(CH:afd)(vs:List V)(H:Hp)(Q:VK)(E:XK):Prop|m:∀(h:afd) (D:HA) (S:afn) (FZ:List afd) (k:Nat),vs=[.ref h,vn k]->cb CB CH H h D S FZ->Q (.bl (decide (k<=S.editions.length))) H->xx CB CH vs H Q E
inductive E4(CB:afd)(CH:afd)(r:HA->afn->Nat->V)(vs:List V)(H:Hp)(Q:VK)(E:XK):Prop|m:∀(h:afd) (D:HA) (S:afn) (FZ:List afd) (k:Nat),vs=[.ref h,vn k]->cb CB CH H h D S FZ->k<=S.editions.length->Q (r D S k) H->E4 CB CH r vs H Q E
theorem gU(S:afn):(jA S).length=S.editions.length:=by unfold jA;rw[afb,List.length_range]
abbrev FW:afR:=bt gm 7
theorem LD:au ["self","number"] ["self","number"] (ai FW):=cF
theorem Hy(F:b9 K "has_book" "House.has_book" FW f fd)(T:zU K mg CH)(G:lN mg):aT P w K mg base bX 1 f fd ["self","number"] (xx CB CH):=by
 refine cz F LD fun _ _ _ _ H _ Q E hr h=> ?_
 obtain⟨h,D,S,FZ,k,rfl,W,q⟩:=h;refine⟨_,af (aq (fM gT (pv 1) (aN ay rfl G.len agq (aa (az (pv 0)) ab)) (bc _))),?_⟩;refine⟨_,rfl,_,rfl,h,CH,D.dx,_,_,rfl,W.w.ins,T.cl,T.nE,pL,D.ed,_,rfl,.inl (aJ.of W.w.he),_,_,rfl,rfl,qb Q ?_ q⟩;rw[afb,W.w.el,gU];exact agB.mpr ⟨fun q=>by omega,fun q=>by omega⟩
abbrev Mu:afR:=bt gm 8
theorem Pw:au ["self","number"] ["self","number"] (ai Mu):=cF
theorem KW(F:b9 K "book" "House.book" Mu f fd)(T:zU K mg CH):aT P w K mg base bX 1 f fd ["self","number"] (E4 CB CH fun D _ k=> .ref (bQ D k).1):=by
 refine cz F Pw fun _ _ _ _ H _ Q E hr h=> ?_
 obtain⟨h,D,S,FZ,k,rfl,W,hk,q⟩:=h;refine⟨_,ae (aZ (aX fU (pv 1) ag (bc _)) (af (aq (az (pv 0)))) aC)
  (af (aq (aG aA (az (pv 0)) (bx j3 (pv 1) ag)))),?_⟩
 refine⟨_,rfl,rfl,_,rfl,aW (fun c=> ?_) (fun c=> ?_)⟩
 .have c':k=0:=GS c;subst c';exact⟨_,rfl,h,CH,D.dx,_,_,rfl,W.w.ins,T.cl,T.nN,dP,q⟩
 .obtain⟨i,rfl⟩:∃i,k=i+1:=⟨k-1,by have:=GU c;omega⟩;have hi:i<D.eb.length:=by rw[W.w.el,gU];exact hk
  refine⟨_,rfl,h,CH,D.dx,_,_,rfl,W.w.ins,T.cl,T.nE,pL,_,rfl,_,_,rfl,rfl,ZD (i:=i) (v:= .ref (D.eb[i]).1) W.w.he ?_ ?_ (by omega)⟩
  .rw[afy,afk hi];rfl
  .have e:(bQ D (i+1)).1=(D.eb[i]).1:=by
    unfold bQ;rw[afe (aia i),ahV,ahU,afk hi];rfl
   try dsimp only at q
   rw[e]at q;exact q
abbrev Bz:afR:=bt gm 9
theorem IU:au ["self","number"] ["self","number"] (ai Bz):=cF
theorem Eu(F:b9 K "length" "House.length" Bz f fd)(T:zU K mg CH)(G:lN mg):aT P w K mg base bX 1 f fd ["self","number"] (E4 CB CH fun _ S k=>vn (ahi S k)):=by
 refine cz F IU fun _ _ _ _ H _ Q E hr h=> ?_
 obtain⟨h,D,S,FZ,k,rfl,W,hk,q⟩:=h;refine⟨_,ae (aZ (aX fU (pv 1) ag (bc _)) (af (aq (aN ay rfl G.len agq (aa (az (pv 0)) ab)))) aC)
  (af (aq (aG aA (az (pv 0)) (bx j3 (pv 1) ag)))),?_⟩
 refine⟨_,rfl,rfl,_,rfl,aW (fun c=> ?_) (fun c=> ?_)⟩
 .have c':k=0:=GS c;subst c';refine⟨_,rfl,h,CH,D.dx,_,_,rfl,W.w.ins,T.cl,T.nL,i7,D.lg,_,rfl,.inl (aJ.of W.w.hl),?_⟩;rw[afb,W.w.ll];exact q
 .obtain⟨i,rfl⟩:∃i,k=i+1:=⟨k-1,by have:=GU c;omega⟩;refine⟨_,rfl,h,CH,D.dx,_,_,rfl,W.w.ins,T.cl,T.nS,Ag,_,rfl,_,_,rfl,rfl,nV (i:=i) (n:=S.editions[i]) W.w.hn (afk hk) ?_ (by omega)⟩;try dsimp only at q
  rw[D0 (afk hk)]at q;exact q
inductive A0(CB:afd)(CH:afd)(vs:List V)(H:Hp)(Q:VK)(E:XK):Prop|m:∀(h nl rl:afd) (D:HA) (em sm:Nat) (B:aga) (lg:List agG) (en:List Nat) (bs:List aga) (FZ:List afd) (N N':Nat) (a:agG),vs=[.ref h,vn (bz a),.ref nl,.ref rl]->bM CB CH H h D em sm B lg en bs FZ N->N<=N'->nl∈FZ->rl∈FZ->NL H nl (eO a)->NL H rl (uv a)->lg.length<=200->(∀(H':Hp) (t:afd),H t=none->bM CB CH H' h {D with la:=D.la++ [(t,nl,rl)]} em sm B (lg++ [a]) en bs (t::FZ) N'->Kp [D.lg] H H'->Q (vn (lg.length+1)) H')->A0 CB CH vs H Q E
inductive tE(CB:afd)(CH:afd)(vs:List V)(H:Hp)(Q:VK)(E:XK):Prop|m:∀(h:afd) (D:HA) (em sm:Nat) (B:aga) (lg:List agG) (en:List Nat) (bs:List aga) (FZ:List afd) (N:Nat),vs=[.ref h]->bM CB CH H h D em sm B lg en bs FZ N->N<100000->bs.length<=10->en.length<=10->(∀(H':Hp) (b:afd) (d:BA),(∀a∈bS b d B,H a=none)->bM CB CH H' h {D with eb:=D.eb++ [(b,d)]} em sm B lg (en++ [lg.length]) (bs++ [B]) FZ N->Kp [D.ed,D.ln] H H'->Q .gw H')->tE CB CH vs H Q E
inductive xA(CB:afd)(CH:afd)(vs:List V)(H:Hp)(Q:VK)(E:XK):Prop|m:∀(p dx:afd),vs=[.ref p]->H p=some (.ins CH dx [])->H dx=some (.own p)->p≠dx->(∀(H':Hp) (D:HA),bM CB CH H' p D 0 0 empty [] [] [] [] 0->Kp [p] H H'->(∀a∈pI p D++bS D.nw D.dn empty,a=p\/a=dx\/H a=none)->Q .gw H')->xA CB CH vs H Q E
theorem XN{p dx:afd}{fs fs':List (Str×V)}(hp:H p=some (.ins C dx fs))(hq:H q=none):∃H',aE (aE H q (.ba [])) p (.ins C dx fs')=H'/\Kp [p] H H'/\H' p=some (.ins C dx fs')/\H' q=some (.ba [])/\q≠p/\∀x,H' x=none->H x=none:=by
 have n:q≠p:=fun z=>by rw[z,hp]at hq;cases hq
 exact⟨_,rfl,fA hq,aj,by rw[ao n];exact aj,n,fun x hx=>yW hx⟩
abbrev MF:afR:=bt gm 5
theorem PF:au ["self","call","numbers","row"] ["self","call","numbers","row"] (ai MF):=cF
theorem K8(F:b9 K "note" "House.note" MF f fd)(T:zU K mg CH)(G:lN mg):aT P w K mg base bX 1 f fd ["self","call","numbers","row"] (A0 CB CH):=by
 refine cz F PF fun _ _ _ _ H _ Q E hr h=> ?_
 obtain⟨h,nl,rl,D,em,sm,B,lg,en,bs,FZ,N,N',a,rfl,W,hN,f1,f2,h1,h2,hz,k⟩:=h;refine⟨_,ae (aI (cy afs age agj de (az (pv 0)) (aa (Im (aa (pv 1) (aa (pv 2) (aa (pv 3) ab)))) ab)))
  (af (aq (aN ay rfl G.len agq (aa (az (pv 0)) ab)))),?_⟩
 refine⟨_,rfl,h,CH,D.dx,_,_,rfl,W.ins,T.cl,T.nL,i7,.inl ⟨rfl,_,aJ.of W.hl⟩,_,rfl,_,rfl,_,rfl,by show 3<=sizeLine;decide,fun t ht=> ?_⟩;have s1:ax H (aE H t (.dY [vn (bz a),.ref nl,.ref rl])):=ax.new ht;refine⟨D.lg,_,_,rfl,rfl,s1 _ _ W.hl,by rw[afb,W.ll];exact b8 (by omega),?_⟩;have W':=W.sE a ht f1 f2 h1 h2 hN;refine⟨_,rfl,h,CH,D.dx,_,_,rfl,W'.ins,T.cl,T.nL,i7,D.lg,_,rfl,.inl (aJ.of W'.hl),?_⟩;have e:((({D with la:=D.la++ [(t,nl,rl)]}:HA).la.map fun x=>V.ref x.1).length:Int)=((lg.length+1:Nat):Int):=by
  rw[afb,W'.ll,afc];rfl
 have:=k _ t ht W' (dQ (lZ s1) (.inl (by simp)));show Q (V.int _) _;rw[e];exact this
abbrev Bw:afR:=bt gm 6
theorem IM:au ["self"] ["self"] (ai Bw):=cF
theorem Ep(F:b9 K "freeze" "House.freeze" Bw f fd)(T:zU K mg CH)(G:lN mg)(cC:jw P w K mg base 3 "copied" ["book"] (lI CB) fc fO):aT P w K mg base bX 4 f fd ["self"] (tE CB CH):=by
 refine cz F IM fun _ _ _ _ H _ Q E hr h=> ?_
 obtain⟨h,D,em,sm,B,lg,en,bs,FZ,N,rfl,W,hN,hb,he,k⟩:=h;refine⟨_,ae (aI (cy afs age agj de (az (pv 0)) (aa (bh cC.ok hr rfl cC.mg cC.kp cC.bi .nil bw (aa (az (pv 0)) ab)) ab)))
  (af (aI (cy afs age agj de (az (pv 0)) (aa (aN ay rfl G.len agq (aa (az (pv 0)) ab)) ab)))),?_⟩
 refine⟨_,rfl,h,CH,D.dx,_,_,rfl,W.ins,T.cl,T.nE,pL,.inl ⟨rfl,_,aJ.of W.he⟩,_,rfl,h,CH,D.dx,_,_,rfl,W.ins,T.cl,T.nN,dP,D.nw,D.dn,B,FZ,N,rfl,W.now,hN,fun H1 b d hB s1 fr=> ?_⟩;have W1:=W.same s1;refine⟨D.ed,_,_,rfl,rfl,W1.he,by rw[afb,W.el];exact b8 (by omega),?_⟩;have n:=W.nd;have n0:h≠D.ed:=fun z=>(afG.mp n).1 (by rw[z];simp)
 have n':=(afG.mp (afG.mp n).2).2;have n2:D.lg≠D.ed:=fun z=>(afG.mp n').1 (by rw[z];simp)
 have n3:D.ln≠D.ed:=fun z=>(afG.mp (afG.mp n').2).1 (by rw[<-z];simp)
 refine⟨_,rfl,h,CH,D.dx,_,_,rfl,by rw[ao n0];exact W1.ins,T.cl,T.nS,Ag,.inl ⟨rfl,_,aJ.of (by rw[ao n3];exact W1.hn)⟩,_,rfl,h,CH,D.dx,_,_,rfl,by rw[ao n0];exact W1.ins,T.cl,T.nL,i7,D.lg,_,rfl,.inl (aJ.of (by rw[ao n2];exact W1.hl)),D.ln,_,_,rfl,rfl,(by rw[ao n3];exact W1.hn),by rw[afb];exact b8 (by omega),?_⟩;have W':=W.uj hB s1 fr;have e:(en.map vn++ [V.int ((D.la.map fun x=>V.ref x.1).length:Nat)])=(en++ [lg.length]).map vn:=by
  rw[afb,W.ll,afD];rfl
 rw[e];exact k _ b d fr W' (dQ (dQ (lZ s1) (.inl (by simp))) (.inl (by simp)))
abbrev FY:afR:=bt gm 0
theorem LG:au ["self"] ["self"] (ai FY):=cF
theorem HB(F:b9 K "__init__" "House.__init__" FY f fd)(T:zU K mg CH)(TB:mC K mg CB)(M:Mk K CB fI)(oI:aT P w K mg base bX 1 fI fR ["self"] (rp CB))(bI:eY K fR ["self"] []):aT P w K mg base bX 3 f fd ["self"] (xA CB CH):=by
 refine cz F LG fun _ _ _ _ H _ Q E hr h=> ?_
 obtain⟨p,dx,rfl,hp,hd,Ul,k⟩:=h;refine⟨_,ae (gx (pv 0) (sM M oI hr rfl TB.ZK bI .nil bw) rfl) (ae (gx (pv 0) (cp ab) rfl) (ae (gx (pv 0) (cp ab) rfl) (ae (gx (pv 0) (cp ab) rfl) (ae (gx (pv 0) ag rfl) (af (gx (pv 0) ag rfl)))))),?_⟩;intro x TY nx Sy OY;refine⟨x,TY,rfl,aj,by rw[ao OY];exact aj,agW OY,fun H1 d e1 i1 io iw ir it ig kw kr kt kg fresh Xo kp=>⟨rfl,?_⟩⟩;have s1:ax H H1:=ax.made nx Sy fun y o h hy=>kp y o h (by simpa using hy)
 have OT:∀{y:afd},(aE (aE H TY (.own x)) x (.ins CB TY [])) y=none->H y=none:=fun h=>eV (eV h)
 have n1:∀a∈eQ x d,H a=none:=fun a ha=>by
  have:a=x\/a=d.dx\/a=d.o\/a=d.w\/a=d.r\/a=d.t\/a=d.g:=by simpa using ha
  rcases this with q|q|q|q|q|q|q
  .rw[q];exact nx
  .rw[q,e1];exact Sy
  all_goals exact OT (fresh a (by rw[q];simp))
 have YR:aV CB H1 x d empty [] 0:=by
  have dn:∀(f:Nat->V),pq [] [] f:=fun f n=>by rw[afe (by simp)];rfl
  refine{wf:=WF.empty,bq:=⟨i1,by rw[e1];exact kp TY _ (by rw[ao OY];exact aj) (by simpa using OY),io,by rw[kw];exact iw,by rw[kr];exact ir,by rw[kt];exact it,by rw[kg];exact ig,fun e he=>(nomatch he),?_,fun a _ z=>(nomatch z),fun a z=>(nomatch z)⟩,lw:=by rw[kw];exact afp _,lr:=by rw[kr];exact afp _,lt:=by rw[kt];exact afp _,lg:=by rw[kg];exact afp _,le:=afp _,ls:=afp _,dw:=by rw[kw];exact dn _,dr:=by rw[kr];exact dn _,dt:=by rw[kt];exact dn _,dg:=by rw[kg];exact dn _,word:=fun e he=>(nomatch he),text:=fun e he=>(nomatch he)};show(eQ x d++ []).Nodup;rw[af7];exact Xo
 refine⟨_,rfl,p,CH,dx,_,rfl,s1 _ _ hp,T.cl,T.nN,(by show 0<1000;decide),?_⟩;have p2:L2.aE H1 p (.ins CH dx (bJ "now" (.ref x) [])) p=some (.ins CH dx (bJ "now" (.ref x) [])):=aj;have k2:Kp [p] H1 (aE H1 p (.ins CH dx (bJ "now" (.ref x) []))):=Kp.gZ (by simp);have z2:∀y,L2.aE H1 p (.ins CH dx (bJ "now" (.ref x) [])) y=none->H y=none:=fun y hy=>s1.free (eV hy)
 generalize L2.aE H1 p (.ins CH dx (bJ "now" (.ref x) []))=H2 at p2 k2 z2⊢;refine⟨afH _,fun q1 f1=>⟨_,rfl,p,CH,dx,_,rfl,(by rw[ao (ak p2 f1)];exact p2),T.cl,T.nL,(by show 1<1000;decide),?_⟩⟩;obtain⟨H3,e3,k3,p3,g3,m3,z3⟩:=XN (fs':=bJ "log" (.ref q1) (bJ "now" (.ref x) [])) p2 f1;rw[e3];refine⟨afH _,fun q2 f2=>⟨_,rfl,p,CH,dx,_,rfl,(by rw[ao (ak p3 f2)];exact p3),T.cl,T.nE,(by show 2<1000;decide),?_⟩⟩;obtain⟨H4,e4,k4,p4,g4,m4,z4⟩:=XN (fs':=bJ "editions" (.ref q2) (bJ "log" (.ref q1) (bJ "now" (.ref x) []))) p3 f2;rw[e4];refine⟨afH _,fun q3 f3=>⟨_,rfl,p,CH,dx,_,rfl,(by rw[ao (ak p4 f3)];exact p4),T.cl,T.nS,(by show 3<1000;decide),?_⟩⟩;obtain⟨H5,e5,k5,p5,g5,m5,z5⟩:=XN (fs':=bJ "lengths" (.ref q3) (bJ "editions" (.ref q2) (bJ "log" (.ref q1) (bJ "now" (.ref x) [])))) p4 f3;rw[e5];refine⟨_,rfl,p,CH,dx,_,rfl,p5,T.cl,T.nM,(by show 4<1000;decide),_,rfl,p,CH,dx,_,rfl,aj,T.cl,T.nT,(by show 5<1000;decide),?_⟩;have k6:Kp [p] H5 (aE (aE H5 p (.ins CH dx (bJ "entries_made" (.int 0) (bJ "lengths" (.ref q3) (bJ "editions" (.ref q2) (bJ "log" (.ref q1) (bJ "now" (.ref x) []))))))) p (.ins CH dx (Ah x q1 q2 q3 0 0))):=dQ (Kp.gZ (by simp)) (.inl (by simp));have WV:=((((k2.trans k3).trans k4).trans k5).trans k6);have hp1:H1 p=some (.ins CH dx []):=s1 _ _ hp;have np:∀{y:afd},H y=none->y∉ [p]:=fun{y} hy z=>by
  have:y=p:=by simpa using z
  rw[this,hp]at hy;cases hy
 have n0:∀{y:afd},y≠p->y∉ [p]:=fun hy z=>hy (by simpa using z)
 have Yy:H q1=none:=z2 _ f1;have Yz:H q2=none:=z2 _ (z3 _ f2);have YA:H q3=none:=z2 _ (z3 _ (z4 _ f3));have hd1:=s1 _ _ hd;refine k _ ⟨dx,x,q1,q2,q3,d,[],[]⟩ {ins:=aj,own:=WV _ _ hd1 (n0 Ul.symm),hl:=((k4.trans k5).trans k6) _ _ g3 (n0 m3),he:=(k5.trans k6) _ _ g4 (n0 m4),hn:=k6 _ _ g5 (n0 m5),now:=YR.keep WV (fun a ha=> ?_) (fun a ha=>(nomatch ha)),ll:=rfl,ki:=fun i y a h1=>by simp at h1,el:=rfl,BW:=fun i y b h1=>by simp at h1,nd:= ?_,ff:=fun a ha=>⟨by simp,fun z=> ?_⟩} (fun a o h1 h2=>WV a o (s1 a o h1) h2) (fun a ha=> ?_)
 .exact np (n1 a (by simpa [bS,names,empty]using ha))
 .have a1:q1≠q2:=ak g3 f2;have a2:q1≠q3:=ak (k4 _ _ g3 (n0 m3)) f3;have a3:q2≠q3:=ak g4 f3;have b0:∀{y:afd},H y=none->p≠y/\dx≠y:=fun hy=>⟨ak hp hy,ak hd hy⟩
  simp[Ul,(b0 Yy).1,(b0 Yz).1,(b0 YA).1,(b0 Yy).2,(b0 Yz).2,(b0 YA).2,a1,a2,a3]
 .have z':a∈eQ x d:=by simpa [bS,names,empty]using z
  obtain⟨o,ho⟩:=YR.gd (a:=a) (by simpa [bS,names,empty]using z);have:=n1 a z';have c:a=p\/a=dx\/a=q1\/a=q2\/a=q3:=by simpa using ha
  have o2:=k2 a o ho (np this);have o3:=k3 a o o2 (np this);have o4:=k4 a o o3 (np this);rcases c with e|e|e|e|e
  .rw[e,hp]at this;cases this
  .rw[e,hd]at this;cases this
  .rw[e,f1]at o2;cases o2
  .rw[e,f2]at o3;cases o3
  .rw[e,f3]at o4;cases o4
 .rcases afN.mp ha with z|z
  .have c:a=p\/a=dx\/a=q1\/a=q2\/a=q3:=by simpa using z
   rcases c with e|e|e|e|e
   .exact .inl e
   .exact .inr (.inl e)
   all_goals (rw[e];exact .inr (.inr (by assumption)))
  .exact .inr (.inr (n1 a (by simpa [bS,names,empty]using z)))
def Ca(P:afA)(w:af4)(K:afW)(mg:Str->Option afg)(base:agg)(k:Nat)(x:Str)(ps:List Str)(sp:Sp):Prop:=∃f fd,jw P w K mg base k x ps sp f fd
def Ma(P:afA)(w:af4)(K:afW)(mg:Str->Option afg)(base:agg)(k:Nat)(C:afd)(x:Str)(ps:List Str)(sp:Sp):Prop:=∃f fd,zJ P w K mg base k C x ps sp f fd
section
variable{k:Nat}{x:Str}{e o:agR}{es:List agR}{t:TA}{ta:TE}{p eI:Pos}
theorem cn(c:Ca X.prog X.w X.K X.mg X.base k x ps sp)(hr:fF n X.A)(hg:Gl X x)(ha:PA X (e::es) t)(hk:k<=n:=by decide)(Kn:(x==("__debug__":Str))=false:=by decide)(he:starEach (e::es) X.env=(false,eval e X.env)::starEach es X.env:=by rfl)(kf:(backTo pos (starEach es X.env)).any (·.1)=false:=by rfl):
  PE X (.Call (.Name x p) (e::es) [] pos) (NR sp [] E0 t):=let⟨_,_,c⟩:=c;bh c.ok (hr.fJ hk) hg c.mg c.kp c.bi .nil bw ha Kn he kf
theorem bR{pl:Sem Bool}(he:PE X o ta)(c:zI X.K C)(c:Ma X.prog X.w X.K X.mg X.base k C m ps sp)(hr:fF n X.A)(ha:PA X (e::es) t)(hk:k<=n:=by decide)
  (yG:starEach (e::es) X.env=(false,eval e X.env)::starEach es X.env:=by rfl) (kf:(backTo pos (starEach es X.env)).any (·.1)=false:=by rfl)
  (ht:eval (.Call (.Attribute o m eI) (e::es) [] pos) X.env=(do
   let ov<-eval o X.env
   standAt eI.atName
   let(f,first)<-holding [ov] (getMethod ov m pl)
   callWith pos f first (backTo pos (starEach (e::es) X.env)) (backToKw pos (keywordEach [] X.env))):=by rfl):
  PE X (.Call (.Attribute o m eI) (e::es) [] pos) (Dg C m sp [] E0 ta t):=let⟨_,_,d⟩:=c;hG he (by assumption) d.me d.ok (hr.fJ hk) d.bi .nil bw ha yG kf ht
theorem jK{pl:Sem Bool}(he:PE X o ta)(c:zI X.K C)(c:Ma X.prog X.w X.K X.mg X.base k C m ps sp)(hr:fF n X.A)(hk:k<=n:=by decide)
  (ht:eval (.Call (.Attribute o m eI) [] [] pos) X.env=(do
   let ov<-eval o X.env
   standAt eI.atName
   let(f,first)<-holding [ov] (getMethod ov m pl)
   callWith pos f first (backTo pos (starEach [] X.env)) (backToKw pos (keywordEach [] X.env))):=by rfl):
  PE X (.Call (.Attribute o m eI) [] [] pos) (Dg C m sp [] E0 ta Me):=let⟨_,_,d⟩:=c;lq he (by assumption) d.me d.ok (hr.fJ hk) d.bi .nil bw ht
end
structure jr(P:afA)(w:af4)(K:afW)(mg:Str->Option afg)(base:agg)(CB CH:afd):Prop where
 b:mC K mg CB
 h:zU K mg CH
 g:lN mg
 v:Ju mg
 place:Ca P w K mg base 1 "is_place" ["row","behind"] (xI K)
 wq:Ma P w K mg base 1 CB "has_entry" ["self","entry"] (pU CB)
 qE:Ma P w K mg base 1 CB "has_sense" ["self","sense"] (xy CB)
 Np:Ma P w K mg base 2 CB "make_entry" ["self","entry","behind","word"] (xD CB)
 Nq:Ma P w K mg base 2 CB "make_sense" ["self","sense","entry","behind","text"] (xE CB)
 say:Ma P w K mg base 1 CB "say" ["self","sense","text"] (Jh CB)
 point:Ma P w K mg base 1 CB "point" ["self","sense","target"] (xJ CB)
 Nu:Ma P w K mg base 3 CB "move_sense" ["self","sense","entry","behind"] (xG CB)
 Nt:Ma P w K mg base 2 CB "move_entry" ["self","entry","behind"] (xF CB)
 MQ:Ma P w K mg base 3 CB "drop_sense" ["self","sense"] (xr CB)
 MP:Ma P w K mg base 2 CB "drop_entry" ["self","entry"] (xq CB)
 Ss:Ma P w K mg base 2 CH "no_more_entries" ["self"] (tF CB CH fun em _ lg _=> .bl (decide (20<=em\/200<=lg.length)))
 Sv:Ma P w K mg base 2 CH "no_more_senses" ["self"] (tF CB CH fun _ sm lg _=> .bl (decide (50<=sm\/200<=lg.length)))
 full:Ma P w K mg base 1 CH "log_is_full" ["self"] (tF CB CH fun _ _ lg _=> .bl (decide (200<=lg.length)))
 sE:Ma P w K mg base 1 CH "note" ["self","call","numbers","row"] (A0 CB CH)
 MY:Ma P w K mg base 1 CH "has_book" ["self","number"] (xx CB CH)
 book:Ma P w K mg base 1 CH "book" ["self","number"] (E4 CB CH fun D _ k=> .ref (bQ D k).1)
def je(h:afd)(D:HA)(S:afn):List afd:=pI h D++bS D.nw D.dn (agC S.log)
def QQ(D:HA)(S:afn)(FZ:List afd)(b:afd):Prop:=b∈FZ\/∃(i:Nat) (x:afd×BA) (B:aga),D.eb[i]? =some x/\(jA S)[i]? =some B/\b∈bS x.1 x.2 B
def kz(H:Hp)(h:afd)(D:HA)(S:afn)(l:afd):Prop:=∀(b:afd) (o:HO),H b=some o->b∉je h D S->b≠l
structure qz(CB CH:afd)(H H':Hp)(h:afd)(D D':HA)(S S':afn)(FZ cZ:List afd):Prop where
 is:cb CB CH H' h D' S' cZ
 kp:Kp (je h D S) H H'
 gr:Gr H (je h D S) (je h D' S')
 rc:∀b,QQ D' S' cZ b->QQ D S FZ b\/kz H h D S b
theorem kz.new{D:HA}{l:afd}(n:H l=none):kz H h D S l:=fun b o e _=>ak e n
def Fm(p:Nat):akG->Prop:=([fun x=>∃a b,x= .act (.entry a b),fun x=>∃a b c,x= .act (.sense a b c),fun x=>∃a b,x= .act (.say a b),fun x=>∃a b,x= .act (.point a b),fun x=>∃a b c,x= .act (.moveSense a b c),fun x=>∃a b,x= .act (.moveEntry a b),fun x=>∃a,x= .act (.dropSense a),fun x=>∃a,x= .act (.dropEntry a),fun x=>∃a b c,x= .act (.erratum a b c),fun x=>x= .freeze,fun x=>∃a,x= .printed a,fun x=>∃a,x= .corrected a,fun x=>∃a b,x= .changes a b,fun x=>∃a b,x= .patch a b,fun x=>∃a b,x= .number a b,fun x=>∃a b c,x= .name a b c,fun x=>∃a b c d,x= .carry a b c d,fun x=>∃a,x= .pointers a,fun x=>∃a,x= .dead a,fun x=>∃a b,x= .blame a b,fun x=>∃a,x= .check a,fun x=>∃a,x= .errata a,fun x=>∃a,x= .line a,fun x=>∃a,x= .size a,fun x=>x= .state]:List (akG->Prop)).getD p fun _=>True
theorem fm{x:akG}(h:bK x=p):Fm p x:=by
 subst h;cases x with
 |act a=>cases a<;>first|exact⟨_,rfl⟩|exact⟨_,_,rfl⟩|exact⟨_,_,_,rfl⟩
 |_=>first|exact rfl|exact⟨_,rfl⟩|exact⟨_,_,rfl⟩|exact⟨_,_,_,rfl⟩|exact⟨_,_,_,_,rfl⟩
inductive gQ(CB:afd)(CH:afd)(p:Nat)(vs:List V)(H:Hp)(Q:VK)(E:XK):Prop|m:∀(h nl rl:afd) (D:HA) (S:afn) (FZ:List afd) (x:akG),vs=[.ref h,.ref nl,.ref rl]->bK x=p->UR x->cb CB CH H h D S FZ->nl∈FZ->rl∈FZ->NL H nl (fL x)->IL H rl (Pr x)->(∀k∈dh x,k<=S.editions.length)->(ahn S x).2.length<=10000000->(∀(H':Hp) (l:afd) (D':HA) (cZ:List afd),qz CB CH H H' h D D' S (ahn S x).1 FZ cZ->kz H h D S l->IL H' l (ahn S x).2->Q (.ref l) H')->gQ CB CH p vs H Q E
section
variable{l:afd}{D:HA}{x:akG}{X9:List Int}{Q:VK}
theorem qz.same(W:cb CB CH H h D S FZ)(s:ax H H'):qz CB CH H H' h D D S S FZ FZ:=⟨W.same s,lZ s,fun a ha=> .inl ha,fun b z=> .inl z⟩
theorem aO(W:cb CB CH H h D S FZ)(k:∀(H':Hp) (l:afd) (D':HA) (cZ:List afd),qz CB CH H H' h D D' S (ahn S x).1 FZ cZ->kz H h D S l->IL H' l (ahn S x).2->Q (.ref l) H')(e:ahn S x=(S,X9))(hn:H l=none)(s:ax H H')(h1:IL H' l X9):Q (.ref l) H':=by
 rw[e]at k;exact k _ l D FZ (qz.same W s) (.new hn) h1
end
theorem cb.T5{D:HA}(W:cb CB CH H h D S FZ):∀a∈FZ,a∉je h D S:=fun a ha z=>(afN.mp z).elim (W.w.fz a ha) fun q=>W.w.now.bq.fz a q ha
theorem cj{nw lg ed ln:afd}(hm:¬m="now"/\¬m="log"/\¬m="editions"/\¬m="lengths"/\¬m="entries_made"/\¬m="senses_made"):(Ah nw lg ed ln em sm).lookup m=none:=by
 unfold Ah;rw[aP,afe hm.2.2.2.2.2,aP,afe hm.2.2.2.2.1,aP,afe hm.2.2.2.1,aP,afe hm.2.2.1,aP,afe hm.2.1,aP,afe hm.1];rfl
theorem e9:∀m∈(["no_more_entries","no_more_senses","log_is_full","note","has_book","book","length","errata","corrected","blame","freeze","no_more_editions"]:List Str),¬m="now"/\¬m="log"/\¬m="editions"/\¬m="lengths"/\¬m="entries_made"/\¬m="senses_made":=by decide+kernel
theorem ne_int{t:Nat}(z:t≠0):(!decide (vn t=V.int 0))=true:=by
 rw[agd fun q=>z (by injection q with q;omega)];rfl
theorem jv:1<=sizeLine:=by decide
theorem xQ:2<=sizeLine:=by decide
theorem QF:3<=sizeLine:=by decide
theorem gK{H3:Hp}{t nl rl l:afd}{D:HA}{a:agG}{Q:VK}(W:cb CB CH H h D S FZ)(hn:ai2 S a=none)(ok:Mm a)(hl:S.log.length<200)
  (he:∀k n t,a=ajN k n t->k<=S.editions.length/\n∈aD (ago S k))
  (k:∀(H':Hp) (l:afd) (D':HA) (cZ:List afd),qz CB CH H H' h D D' S (ahn S (.act a)).1 FZ cZ->kz H h D S l->IL H' l (ahn S (.act a)).2->Q (.ref l) H')
  (k1:Kp (je h D S) H H1) (g1:Gr H (bS D.nw D.dn (agC S.log)) (bS D.nw d' (anE (agC S.log) ((agD S.log).2.1+1) ((agD S.log).2.2+1) a))) (k2:Kp [D.lg] H1 H2) (nt:H1 t=none) (n2:H2 l=none) (s3:ax H2 H3)
  (W2:bM CB CH H2 h {D with dn:=d',la:=D.la++ [(t,nl,rl)]} (if Vbdhag.isEntry a=true then(agD S.log).2.1+1 else(agD S.log).2.1) (if alu a=true then(agD S.log).2.2+1 else(agD S.log).2.2) (anE (agC S.log) ((agD S.log).2.1+1) ((agD S.log).2.2+1) a) (S.log++ [a]) S.editions (jA S) (t::FZ) (S.log.length+1))
  (h3:IL H3 l (0::Vbdhag.answered S a)):Q (.ref l) H3:=by
 rw[Jj hn]at k;have st:=W.st.y4 ok hl he;refine k _ l {D with dn:=d',la:=D.la++ [(t,nl,rl)]} (t::FZ) ⟨⟨?_,st⟩,?_,?_,?_⟩ (fun b o e n=> ?_) h3
 .have:=W2.same s3;rw[rH W.st];show bM CB CH H3 h _ (agD (S.log++ [a])).2.1 (agD (S.log++ [a])).2.2 (agC (S.log++ [a])) _ _ _ _ (S.log++ [a]).length;rw[afc,oO,lQ];exact this
 .intro b o e n;refine s3 _ _ (k2 _ _ (k1 b o e n) fun z=>n ?_);have:b=D.lg:=by simpa using z
  rw[this];exact af0 _ (by simp)
 .intro b hb;rcases afN.mp hb with z|z
  .exact .inl (af0 _ z)
  .have z':b∈bS D.nw d' (agC (S.log++ [a])):=z;rw[lQ]at z';rcases g1 b z' with q|q
   .exact .inl (afK _ q)
   .exact .inr q
 .rintro b (z|⟨i,x,B,e1,e2,e3⟩)
  .rcases afx.mp z with q|q
   .exact .inr (fun c o e n=>by rw[q];exact ak (k1 c o e n) nt)
   .exact .inl (.inl q)
  .rw[rH W.st]at e2;exact .inl (.inr ⟨i,x,B,e1,e2,e3⟩)
 .refine ak (k2 _ _ (k1 b o e n) fun z=>n ?_) n2;have:b=D.lg:=by simpa using z
  rw[this];exact af0 _ (by simp)
theorem uz(h:n<=16000000):n<sizeLine:=aiV h (by decide)
theorem sI{a b:Nat}(ha:a<1000000)(hb:b<1000000):(pair (a,b)).length<=15:=by
 show(aho a++46::aho b).length<=15;rw[afc,afr];have:=lV ha;have:=lV hb;omega
def UB(B:aga)(g:Nat):List Nat:=if g=0 then [45]else pair (afX B g)
abbrev FR:afR:=dC 105
theorem LB:au ["place"] ["place"] (ai FR):=cF
inductive rn(vs:List V)(H:Hp)(Q:VK)(E:XK):Prop|m:∀(pl:Nat),vs=[vn pl]->pl<1000000->(∀(H':Hp) (l:afd),H l=none->NL H' l (aho pl++ [32])->ax H H'->Q (.ref l) H')->rn vs H Q E
inductive rA(K:afW)(vs:List V)(H:Hp)(Q:VK)(E:XK):Prop|m:∀(t:afd) (a b:Nat),vs=[.ref t]->gF K H t [vn a,vn b]->a<1000000->b<1000000->(∀(H':Hp) (l:afd),H l=none->NL H' l (pair (a,b)++ [32])->ax H H'->Q (.ref l) H')->rA K vs H Q E
theorem Hu(F:b9 K "entry_head" "entry_head" FR f fd)(cB:jw P w K mg base 1 "bytes_of" ["text"] oX fb fZ):aT P w K mg base bX 2 f fd ["place"] rn:=by
 refine cz F LB fun _ _ _ _ H _ Q E hr h=> ?_
 obtain⟨pl,rfl,kf,k⟩:=h;refine⟨_,af (aq (bh cB.ok hr rfl cB.mg cB.kp cB.bi .nil bw (aa (qY (PJ.cons (sL (pv 0)) (PJ.cons sN PJ.nil))) ab))),?_⟩;have da:=lV kf;have la:(agF (toString ((pl:Nat):Int))).length<=7:=by rw[bL,lS];exact da
 have l1:(ah8++agF (toString ((pl:Nat):Int))).length<=7:=by rw[bL,fk,afc,<-bL,<-bL];show 0+_<=7;omega
 have l2:(ah8++agF (toString ((pl:Nat):Int))++agF " ").length<=8:=by rw[bL,fk,afc,<-bL,<-bL];show _+1<=8;omega
 have qg:∀{n:Nat},n<=1000->n<=sizeLine:=fun h=>afw h (by decide)
 refine⟨_,rfl,.inl ⟨(pl:Int),rfl,by show pl<2^64;omega,_,rfl,qg (by omega),_,rfl,qg (by omega),qg (by omega),_,rfl,by omega,fun l hl=>k _ l hl ?_ (ax.new hl)⟩⟩;show L2.aE _ l _ l=_;rw[aj,fk,fk,lS];rfl
theorem xZ{y:Str}(h:y.length<=n):(ah8++y).length<=n/\(ah8++y++agF " ").length<=n+1/\(ah8++y++agF " ").cps.toList=y.cps.toList++ [32]:=by
 refine⟨?_,?_,?_⟩
 .rw[bL,fk,afc,<-bL,<-bL];show 0+_<=n;omega
 .rw[bL,fk,fk,afc,afc,<-bL,<-bL,<-bL];show 0+_+1<=n+1;omega
 .rw[fk,fk];rfl
abbrev Gi:afR:=dC 106
theorem C5:au ["number","place"] ["number"] (ai Gi):=cF
theorem HY(F:b9 K "sense_head" "sense_head" Gi f fd)(cB:jw P w K mg base 1 "bytes_of" ["text"] oX fb fZ)(cD:jw P w K mg base 1 "dotted" ["number"] (oZ K) fe f9):aT P w K mg base bX 2 f fd ["number"] (rA K):=by
 refine cz F C5 fun _ _ _ _ H _ Q E hr h=> ?_
 obtain⟨t,a,b,rfl,ht,ha,hb,k⟩:=h;refine⟨_,ae (cY 1 C5.nd (bh cD.ok hr rfl cD.mg cD.kp cD.bi .nil bw (aa (pv 0) ab)))
  (af (aq (bh cB.ok hr rfl cB.mg cB.kp cB.bi .nil bw (aa (qY (PJ.cons (sL (pv 1)) (PJ.cons sN PJ.nil))) ab)))),?_⟩
 refine⟨_,rfl,t,a,b,rfl,ht,ha,hb,fun y hy=> ?_⟩;have ly:y.length<=15:=by rw[bL,hy];exact sI ha hb
 obtain⟨l1,l2,ec⟩:=xZ ly;have qg:∀{n:Nat},n<=1000->n<=sizeLine:=fun h=>afw h (by decide)
 refine⟨_,rfl,.inr ⟨y,rfl,qg (by omega),_,rfl,qg (by omega),_,rfl,qg (by omega),qg (by omega),_,rfl,by omega,fun l hl=>k _ l hl ?_ (ax.new hl)⟩⟩;show L2.aE _ l _ l=_;rw[aj,ec,hy]
abbrev FT:afR:=dC 107
theorem LC:au ["place","word"] ["place","word"] (ai FT):=cF
theorem Hv(F:b9 K "entry_line" "entry_line" FT f fd)(cH:jw P w K mg base 2 "entry_head" ["place"] rn fb fZ):aT P w K mg base bX 3 f fd ["place","word"] xt:=by
 refine cz F LC fun _ _ _ _ H _ Q E hr h=> ?_
 obtain⟨pl,aw,wd,rfl,kf,Wb,DT,k⟩:=h;refine⟨_,af (aq (bx dW (bx dW (bh cH.ok hr rfl cH.mg cH.kp cH.bi .nil bw (aa (pv 0) ab)) (pv 1)) (fN (aa ag ab)))),?_⟩;have da:=lV kf;refine⟨_,rfl,pl,rfl,kf,fun H1 l1 n1 h1 s1=>⟨_,rfl,l1,aw,_,_,rfl,rfl,jx h1,jx (s1 _ _ Wb),?_,fun H2 l2 n2 s2 h2=>⟨by show 1<=sizeLine;decide,fun H3 l3 n3 s3 h3=>⟨l2,l3,_,[10],rfl,rfl,s3 _ _ h2,h3,?_,fun H4 l4 n4 s4 h4=> ?_⟩⟩⟩⟩
 .simp only[afb,afc,agT];omega
 .simp only[afb,afc,agT];omega
 refine k _ l4 (s1.free (s2.free (s3.free n4))) (gD ?_) (s1.trans (s2.trans (s3.trans s4)));rw[show aho pl++32::(wd++ [10])=aho pl++ [32]++wd++ [10] by simp,afD (l₂:=[10]),afD (l₂:=wd)];exact h4
abbrev Gj:afR:=dC 108
theorem LV:au ["number","pointed","text"] ["number","pointed","text"] (ai Gj):=cF
theorem Ia(F:b9 K "sense_line" "sense_line" Gj f fd)(cB:jw P w K mg base 1 "bytes_of" ["text"] oX fb fZ)(cH:jw P w K mg base 2 "sense_head" ["number"] (rA K) fe f9):aT P w K mg base bX 3 f fd ["number","pointed","text"] (xM K):=by
 refine cz F LV fun _ _ _ _ H _ Q E hr h=> ?_
 obtain⟨t,a,b,z,cG,tx,rfl,ht,ha,hb,hz,r9,sg,k⟩:=h;refine⟨_,af (aq (bx dW (bx dW (bx dW (bh cH.ok hr rfl cH.mg cH.kp cH.bi .nil bw (aa (pv 0) ab)) (bh cB.ok (hr.fJ (by decide)) rfl cB.mg cB.kp cB.bi .nil bw (aa (qY (PJ.cons (sL (pv 1)) (PJ.cons sN PJ.nil))) ab))) (pv 2)) (fN (aa ag ab)))),?_⟩;obtain⟨l1,l2,ec⟩:=xZ hz;have qg:∀{n:Nat},n<=10000->n<=sizeLine:=fun h=>afw h (by decide)
 have kf:=sI ha hb;have lz:z.cps.toList.length<=1000:=by rw[<-bL];exact hz
 refine⟨_,rfl,t,a,b,rfl,ht,ha,hb,fun H1 a1 n1 h1 s1=>⟨_,rfl,.inr ⟨z,rfl,qg (by omega),_,rfl,qg (by omega),_,rfl,qg (by omega),qg (by omega),_,rfl,by omega,fun a2 n2=> ?_⟩⟩⟩;rw[ec];have s2:ax H1 (aE H1 a2 (.ba ((z.cps.toList++ [32]).map vn))):=ax.new n2;refine⟨a1,a2,_,_,rfl,rfl,jx (s2 _ _ h1),jx aj,?_,fun H3 a3 n3 s3 h3=>⟨_,rfl,a3,cG,_,_,rfl,rfl,h3,jx (s3 _ _ (s2 _ _ (s1 _ _ r9))),?_,fun H4 a4 n4 s4 h4=>⟨by show 1<=sizeLine;decide,fun H5 a5 n5 s5 h5=>⟨a4,a5,_,[10],rfl,rfl,s5 _ _ h4,h5,?_,fun H6 a6 n6 s6 h6=> ?_⟩⟩⟩⟩
 .simp only[afb,afc,agT];omega
 .simp only[afb,afc,agT];omega
 .simp only[afb,afc,agT];omega
 refine k _ a6 (s1.free (s2.free (s3.free (s4.free (s5.free n6))))) (gD ?_) (s1.trans (s2.trans (s3.trans (s4.trans (s5.trans s6)))));rw[show pair (a,b)++32::(z.cps.toList++32::(tx++ [10]))=pair (a,b)++ [32]++(z.cps.toList++ [32])++tx++ [10] by simp,afD (l₂:=[10]),afD (l₂:=tx),afD (l₂:=z.cps.toList++ [32])];exact h6
abbrev FK:afR:=dC 78
theorem Lx:au ["numbers","sense"] ["numbers","sense"] (ai FK):=cF
structure Dn(H:Hp)(p:afd)(B:aga)(kv:List (br×V))(na:Nat->afd):Prop where
 cG:H p=some (.dK kv)
 Og:pq kv (afF B) (fun n=> .ref (na n))
 dY:∀n∈afF B,H (na n)=some (.dY [vn (afX B n).1,vn (afX B n).2])
theorem Dn.same{p:afd}{kv:List (br×V)}{na:Nat->afd}(h:Dn H p B kv na)(s:ax H H'):Dn H' p B kv na:=⟨s _ _ h.cG,h.Og,fun n hn=>s _ _ (h.dY n hn)⟩
inductive oW(K:afW)(vs:List V)(H:Hp)(Q:VK)(E:XK):Prop|m:∀(n:Nat) (p:afd) (B:aga) (kv:List (br×V)) (na:Nat->afd),vs=[.ref p,vn n]->Dn H p B kv na->(∀t,gF K H t [vn (afX B n).1,vn (afX B n).2]->Q (.ref t) H)->oW K vs H Q E
def ko(K:afW)(a:afd)(xs:List V):Prop:=∃(o:Obj) (aR:Array afg) (n:Nat),K.lookup a=some o/\o.cls= .type "tuple"/\o.data= .seq aR n/\aR.size<=sizeLine/\bo xs aR.toList
theorem Hk{nt:afd}(F:b9 K "number_among" "number_among" FK f fd)(m:mg "NOT_THERE"=some (.ref nt))(hk:ko K nt [vn 0,vn 0]):aT P w K mg base bX 1 f fd ["numbers","sense"] (oW K):=by
 refine cz F Lx fun _ _ _ _ H _ Q E hr h=> ?_
 obtain⟨n,p,B,kv,na,rfl,hN,k⟩:=h;refine⟨_,af (aq (y0 (bZ hr) (pv 0) (pv 1) (cu (v:= .ref nt) rfl m rfl) ⟨rfl,rfl,rfl,rfl⟩)),?_⟩;have hg:=ei.k (k:=afz (n:Int)) hN.cG;refine⟨_,rfl,p,rfl,.inl ⟨_,.inl hN.cG⟩,_,rfl,_,hg,?_⟩;by_cases hm:n∈afF B
 .rw[hN.Og.get hm];exact k _ (gF.of (hN.dY n hm))
 .rw[hN.Og n,afe hm];refine k nt (.inr ?_);rw[show afX B n=(0,0)from by unfold afX;rw[afj (jV hm)]];exact hk
inductive Je(vs:List V)(H:Hp)(Q:VK)(E:XK):Prop|m:∀(g:Nat) (p:afd) (B:aga) (kv:List (br×V)) (na:Nat->afd),vs=[vn g,.ref p]->Dn H p B kv na->(∀n∈afF B,(afX B n).1<1000000/\(afX B n).2<1000000)->(∀z:Str,z.cps.toList=UB B g->z.length<=1000->Q (.str z) H)->Je vs H Q E
abbrev Q9:afR:=dC 109
theorem S9:au ["target","numbers"] ["target","numbers"] (ai Q9):=cF
theorem O7{fa:afd}{fda:afE}(F:b9 K "pointed_as" "pointed_as" Q9 f fd)(cD:jw P w K mg base 1 "dotted" ["number"] (oZ K) fe f9)(cA:jw P w K mg base 1 "number_among" ["numbers","sense"] (oW K) fa fda):aT P w K mg base bX 2 f fd ["target","numbers"] Je:=by
 refine cz F S9 fun _ _ _ _ H _ Q E hr h=> ?_
 obtain⟨g,p,B,kv,na,rfl,hN,iF,k⟩:=h;refine⟨_,ae (aZ (aX fU (pv 0) ag (bc _)) (af (aq sN)) aC)
  (af (aq (bh cD.ok hr rfl cD.mg cD.kp cD.bi .nil bw (aa (bh cA.ok hr rfl cA.mg cA.kp cA.bi .nil bw (aa (pv 1) (aa (pv 0) ab))) ab)))),?_⟩
 refine⟨_,rfl,rfl,_,rfl,?_⟩;refine aW (fun e=> ?_) (fun e=> ?_)
 .have e0:g=0:=by
   have:=afh e;injection this with this
   omega
  refine k (agF "-") ?_ (by show 1<=1000;decide);unfold UB;rw[afj e0];rfl
 .have e0:g≠0:=fun z=>e (afl (by rw[z];rfl))
  have T6:(afX B g).1<1000000/\(afX B g).2<1000000:=by
   by_cases hm:g∈afF B
   .exact iF g hm
   .rw[show afX B g=(0,0)from by unfold afX;rw[afj (jV hm)]];decide
  refine⟨_,rfl,_,rfl,g,p,B,kv,na,rfl,hN,fun t ht=>⟨t,_,_,rfl,ht,T6.1,T6.2,fun z hz=>k z ?_ ?_⟩⟩
  .unfold UB;rw[afe e0];exact hz
  .rw[bL,hz];exact afw (sI T6.1 T6.2) (by decide)
def yo(B:aga)(x:afo×Nat):List Nat:=aho x.2++32::(x.1.word++ [10])++(x.1.senses.zipIdx 1).flatMap fun y=>ajw B x.2 y.2 y.1
theorem AM(B:aga):alv B=(B.entries.zipIdx 1).flatMap (yo B):=rfl
theorem lX{α β:Type}(f:α->List β)(l:List α)(i:Nat):((l.take i).flatMap f).length<=(l.flatMap f).length:=by
 conv=>rhs;rw[<-agK i l,agH,afc]
 exact agP _ _
theorem iX{α β:Type}(f:α->List β){l:List α}{x:α}(h:l[i]? =some x):(l.take (i+1)).flatMap f=(l.take i).flatMap f++f x:=by
 rw[aS h,agH];simp
inductive pV(C:afd)(vs:List V)(H:Hp)(Q:VK)(E:XK):Prop|m:∀(b:afd) (d:BA) (B:aga) (FZ:List afd) (N:Nat),vs=[.ref b]->aV C H b d B FZ N->N<100000->(alv B).length<=10000000->(∀(H':Hp) (l:afd),H l=none->NL H' l (alv B)->ax H H'->Q (.ref l) H')->pV C vs H Q E
abbrev yh:afR:=dC 110
theorem g8:au ["book","numbers","lines","place","entry","sense","pointed"] ["book"] (ai yh):=cF
theorem Az{fn fs fq:afd}{fdn fdq:afE}(F:b9 K "printed" "printed" yh f fd)(T:mC K mg C)(G:lN mg)(cN:jw P w K mg base 1 "sense_numbers" ["book"] (tJ C) fn fdn)(cE:jw P w K mg base 3 "entry_line" ["place","word"] xt fe f9)
  (cS:jw P w K mg base 3 "sense_line" ["number","pointed","text"] (xM K) fs gg) (cQ:jw P w K mg base 2 "pointed_as" ["target","numbers"] Je fq fdq):aT P w K mg base bX 4 f fd ["book"] (pV C):=by
 refine cz F g8 fun _ _ _ _ H _ Q E hr h=> ?_
 obtain⟨b,d,B,FZ,N,rfl,hB,hN,bY,k⟩:=h;have Cf:fF 1 _:=hr.fJ (by decide);have Ku:fF 2 _:=hr.fJ (by decide);refine⟨_,ae (cY 1 g8.nd (bh cN.ok Cf rfl cN.mg cN.kp cN.bi .nil bw (aa (pv 0) ab)))
  (ae (cY 2 g8.nd (cp ab))
  (ae (cM af3 rfl (lx rfl G.DG (az (pv 0)) ag) (i8 rfl (bH (hJ 3 g8.nd) (bH (hJ 4 g8.nd) gN)))
   (ae (aI (cy afs af2 af9 dJ (pv 2) (aa (bh cE.ok hr rfl cE.mg cE.kp cE.bi .nil bw (aa (pv 3) (aa (bC (bZ hr) (az (pv 0)) (pv 4)) ab))) ab)))
   (af (cM af3 rfl (bO (bC (bZ hr) (az (pv 0)) (pv 4))) (hJ 5 g8.nd)
    (ae (cY 6 g8.nd (bh cQ.ok Ku rfl cQ.mg cQ.kp cQ.bi .nil bw (aa (bC (bZ hr) (az (pv 0)) (pv 5)) (aa (pv 1) ab))))
    (af (aI (cy afs af2 af9 dJ (pv 2) (aa (bh cS.ok hr rfl cS.mg cS.kp cS.bi .nil bw (aa (bC (bZ hr) (pv 1) (pv 5)) (aa (pv 6) (aa (bC (bZ hr) (az (pv 0)) (pv 5)) ab)))) ab)))))))))
  (af (aq (pv 2))))),?_⟩
 have L0:=hB.bq;refine⟨_,rfl,b,d,B,FZ,N,rfl,hB,hN,fun H1 p kv na hp hk dk uo s1=> ?_⟩;refine⟨afH _,fun q hq=> ?_⟩;have s2:ax H1 (aE H1 q (.ba [])):=ax.new hq;have R9:H q=none:=s1.free hq;rw[AM]at bY k;have Kr:∀(i j n:Nat) (x:afo),B.entries[i]? =some x->x.senses[j]? =some n->i<100001/\j<100001:=fun i j n x hi hj=>by
  have h1:i<B.entries.length:=(aff.mp hi).1;have h2:B.entries.length<=N:=by have:=hB.le;unfold names at this;rw[afb]at this;exact this
  have h3:j<x.senses.length:=(aff.mp hj).1;have h4:=hB.IB (afq hi);omega
 have WB:∀n∈afF B,(afX B n).1<1000000/\(afX B n).2<1000000:=fun n hn=>by
  obtain⟨x,hx,OA⟩:=dH.mp hn;obtain⟨i,hi⟩:=agc hx;obtain⟨j,hj⟩:=agc OA;have:=Kr i j n x hi hj;rw[l8 hB.wf hi hj];exact⟨by show i+1<_;omega,by show j+1<_;omega⟩
 refine⟨_,rfl,b,C,d.dx,_,_,rfl,s2 _ _ (s1 _ _ L0.ins),T.cl,T.nO,bP,d.o,_,_,rfl,rfl,aJ.of (s2 _ _ (s1 _ _ L0.ord)),by decide,by decide,jD (K:=K) (a:=d.o) (xs:=(names B).map vn) (c:=1)
  (fun i σ H'=>∃(v3 v4 v5 v6:Option V),σ=[some (.ref b),some (.ref p),some (.ref q),v3,v4,v5,v6]/\ax H1 H'/\NL H' q (((B.entries.zipIdx 1).take i).flatMap (yo B)))
  ⟨none,none,none,none,rfl,s2,aj⟩ (fun i σ H' _ ⟨_,_,_,_,_,s3,_⟩=>aJ.of (s3 _ _ (s1 _ _ L0.ord))) ?_ ?_⟩
 .rintro i y σ H' Tu hi ⟨v3,v4,v5,v6,rfl,s3,Ko⟩ hT;obtain⟨e,he,rfl⟩:=eg hi;obtain⟨x,hx,rfl⟩:=entry_at he;have px:x∈B.entries:=afq hx;have wA:x.name∈names B:=aY.mpr ⟨x,px,rfl⟩;have hz:(B.entries.zipIdx 1)[i]? =some (x,i+1):=by rw[aiC,hx];simp[aiE]
  have gV:i<100000:=by
   have h1:i<B.entries.length:=(aff.mp hx).1;have h2:B.entries.length<=N:=by have:=hB.le;unfold names at this;rw[afb]at this;exact this
   omega
  have Ft:=lX (yo B) (B.entries.zipIdx 1) (i+1);rw[iX (yo B) hz,afc]at Ft;have eA:yo B (x,i+1)=aho (i+1)++32::(x.word++ [10])++(x.senses.zipIdx 1).flatMap fun y=>ajw B (i+1) y.2 y.1:=rfl
  rw[eA,afc]at Ft;have DT:x.word.length<=(aho (i+1)++32::(x.word++ [10])).length:=by rw[afc,afr,afc];omega
  have s4:ax H' (aE H' Tu (.dY [.int (1+(i:Nat)),vn x.name])):=ax.new hT;have QC:ax H (aE H' Tu (.dY [.int (1+(i:Nat)),vn x.name])):=s1.trans (s3.trans s4);obtain⟨hwF,WU⟩:=hB.word x px;have VE:(1+(i:Nat):Int)=((i+1:Nat):Int):=by omega
  refine⟨Tu,_,rfl,gF.of aj,rfl,_,_,rfl,_,_,rfl,rfl,?_⟩;refine⟨_,rfl,.inl ⟨rfl,_,aJ.of (s4 _ _ Ko)⟩,_,rfl,_,rfl,b,C,d.dx,_,_,rfl,QC _ _ L0.ins,T.cl,T.nW,jz,_,rfl,d.w,.ref (d.wa x.name),rfl,by
   have:=ei.k (k:=afz (x.name:Int)) (QC _ _ L0.hw);rw[hB.dw.get wA]at this;exact this,i+1,d.wa x.name,x.word,by rw[VE];rfl,by omega,QC _ _ WU,by omega,fun H5 l5 wz ud s5=> ?_⟩
  have Sa:=s5 _ _ (s4 _ _ Ko);refine⟨q,l5,_,_,rfl,rfl,Sa,ud,by rw[afb,afb];exact agE (uz (by omega)),?_⟩;have Sb:∀{a o},H1 a=some o->a≠q:=fun h=>ak h hq
  have s6:ax H1 (aE H5 q (.ba ((((B.entries.zipIdx 1).take i).flatMap (yo B)).map vn++(aho (i+1)++32::(x.word++ [10])).map vn))):=fun a o h=>by
   rw[ao (Sb h)];exact s5 _ _ (s4 _ _ (s3 _ _ h))
  have XI:ax H _:=s1.trans s6;refine⟨_,rfl,b,C,d.dx,_,_,rfl,XI _ _ L0.ins,T.cl,T.nR,du,_,rfl,d.r,.ref (d.ra x.name),rfl,by
   have:=ei.k (k:=afz (x.name:Int)) (XI _ _ L0.hr);rw[hB.dr.get wA]at this;exact this,d.ra x.name,rfl,⟨_,aJ.of (XI _ _ (hB.row px))⟩,cV (K:=K) (a:=d.ra x.name) (xs:=x.senses.map vn)
   (fun j σ H'=>∃(v5 v6:Option V),σ=[some (.ref b),some (.ref p),some (.ref q),some (.int (1+(i:Nat))),some (vn x.name),v5,v6]/\ax H1 H'/\NL H' q (((B.entries.zipIdx 1).take i).flatMap (yo B)++(aho (i+1)++32::(x.word++ [10]))++((x.senses.zipIdx 1).take j).flatMap fun y=>ajw B (i+1) y.2 y.1))
   ⟨v5,v6,rfl,s6,?_⟩ (fun j σ H' _ ⟨_,_,_,s7,_⟩=>aJ.of (s7 _ _ (s1 _ _ (hB.row px)))) ?_ ?_⟩
  .show L2.aE _ q _ q=_;rw[aj,ahA,<-afD];simp
  .rintro j y σ H7 hj ⟨v5,v6,rfl,s7,R0⟩;obtain⟨n,hn,rfl⟩:=eg hj;have OA:n∈x.senses:=afq hn;have Ae:n∈afF B:=dH.mpr ⟨x,px,OA⟩;have qF:n∈aD B:=(hB.wf.same n).mp Ae;obtain⟨OF,qS⟩:=jn hB.wf qF;have Uq:(x.senses.zipIdx 1)[j]? =some (n,j+1):=by rw[aiC,hn];simp[aiE]
   have Ue:=Kr i j n x hx hn;have e9:=l8 hB.wf hx hn;have JJ:=s1.trans s7;have TC:=lX (fun y:Nat×Nat=>ajw B (i+1) y.2 y.1) (x.senses.zipIdx 1) (j+1);rw[iX (fun y:Nat×Nat=>ajw B (i+1) y.2 y.1) Uq,afc]at TC;have eS:ajw B (i+1) (j+1) n=pair (i+1,j+1)++32::(UB B (aft B n).points++32::((aft B n).text++ [10])):=rfl;try dsimp only at TC
   have sg:(aft B n).text.length<=(ajw B (i+1) (j+1) n).length:=by
    rw[eS,afc,afr,afc,afr,afc];omega
   obtain⟨Sd,Kx⟩:=hB.text _ OF;rw[qS]at Sd Kx;refine⟨_,rfl,b,C,d.dx,_,_,rfl,JJ _ _ L0.ins,T.cl,T.nG,dN,_,rfl,d.g,vn (aft B n).points,rfl,by
    have:=ei.k (k:=afz (n:Int)) (JJ _ _ L0.hg);rw[hB.dg.get qF]at this;exact this,_,rfl,(aft B n).points,p,B,kv,na,rfl,⟨s7 _ _ hk,dk,fun m hm=>s7 _ _ (uo m hm)⟩,WB,fun z hz8 GP=> ?_⟩
   refine⟨_,rfl,.inl ⟨rfl,_,aJ.of R0⟩,_,rfl,_,rfl,p,.ref (na n),rfl,by
    have:=ei.k (k:=afz (n:Int)) (s7 _ _ hk);rw[dk.get Ae]at this;exact this,_,rfl,_,rfl,b,C,d.dx,_,_,rfl,JJ _ _ L0.ins,T.cl,T.nT,gi,_,rfl,d.t,.ref (d.ta n),rfl,by
    have:=ei.k (k:=afz (n:Int)) (JJ _ _ L0.ht);rw[hB.dt.get qF]at this;exact this,na n,i+1,j+1,z,d.ta n,(aft B n).text,rfl,gF.of ?_,by omega,by omega,GP,JJ _ _ Kx,by omega,fun H9 l9 hl9 Zn s9=> ?_⟩
   .have:=s7 _ _ (uo n Ae);rw[e9]at this;exact this
   .rw[hz8,<-eS]at Zn;have hq9:=s9 _ _ R0;refine⟨q,l9,_,_,rfl,rfl,hq9,Zn,?_,?_⟩
    .rw[afb,afb,afc,afc];exact agE (uz (by omega))
    .refine⟨_,_,rfl,fun a o h=> ?_,?_⟩
     .rw[ao (Sb h)];exact s9 _ _ (s7 _ _ h)
     .rw[iX (fun y:Nat×Nat=>ajw B (i+1) y.2 y.1) Uq];show L2.aE _ q _ q=_;rw[aj,<-afD,afS]
  .rintro σ H7 ⟨v5,v6,rfl,s7,R0⟩;refine⟨_,_,_,_,rfl,s7,?_⟩;have:(x.senses.zipIdx 1).take (x.senses.map vn).length=x.senses.zipIdx 1:=agw (by simp);rw[this]at R0;rw[iX (yo B) hz,eA,<-afS];exact R0
 .rintro σ H' ⟨v3,v4,v5,v6,rfl,s3,Ko⟩;have:(B.entries.zipIdx 1).take ((names B).map vn).length=B.entries.zipIdx 1:=agw (by simp[names]);rw[this]at Ko;exact⟨_,rfl,k H' q R9 Ko (s1.trans s3)⟩
structure xU(H:Hp)(as:List afd)(cs:List agZ):Prop where
 len:as.length=cs.length
 cG:∀(i:Nat) (a:afd) (c:agZ),as[i]? =some a->cs[i]? =some c->IL H a (ags c)
theorem xU.nil:xU H [] []:=⟨rfl,fun i a c h=>by simp at h⟩
theorem xU.same{cs:List agZ}(h:xU H as cs)(s:ax H H'):xU H' as cs:=⟨h.len,fun i a c h1 h2=>s _ _ (h.cG i a c h1 h2)⟩
theorem xU.append{bs:List afd}{cs ds:List agZ}(h:xU H as cs)(g:xU H bs ds):xU H (as++bs) (cs++ds):=by
 refine⟨by rw[afc,afc,h.len,g.len],fun i a c h1 h2=> ?_⟩;by_cases q:i<as.length
 .rw[agM q]at h1;rw[agM (by rw[<-h.len];exact q)]at h2;exact h.cG i a c h1 h2
 .rw[agv (by omega)]at h1;rw[agv (by rw[<-h.len];omega),<-h.len]at h2;exact g.cG _ a c h1 h2
theorem xU.xV{c:agZ}(h:IL H a (ags c)):xU H [a] [c]:=by
 refine⟨rfl,fun i b e h1 h2=> ?_⟩;cases i with
 |zero=>
  have e1:a=b:=by simpa using h1
  have e2:c=e:=by simpa using h2
  rw[<-e1,<-e2];exact h
 |succ i=>simp at h1
def Qa(H:Hp)(l:afd)(cs:List agZ):Prop:=∃as:List afd,H l=some (.ba (as.map V.ref))/\xU H as cs
def zt(k:Int)(ns row:List Int):List Int:=[k]++ns++afQ (3-ns.length) 0++ [(row.length:Int)]++row
inductive iA(vs:List V)(H:Hp)(Q:VK)(E:XK):Prop|m:∀(k:Int) (nl r:afd) (ns row:List Int),vs=[.int k,.ref nl,.ref r]->IL H nl ns->IL H r row->ns.length<=3->row.length<=10000000->(∀(H':Hp) (l:afd),H l=none->IL H' l (zt k ns row)->ax H H'->Q (.ref l) H')->iA vs H Q E
abbrev Bq:afR:=dC 65
theorem zd:au ["kind","numbers","row","missing"] ["kind","numbers","row"] (ai Bq):=cF
theorem CP(n:Nat)(z:Int):(afQ n [V.int z]).flatten=(afQ n z).map V.int:=by
 induction n with
 |zero=>rfl
 |succ n ih=>rw[ag1,ah7,ag1,agb,ih];rfl
theorem Ek(F:b9 K "change" "change" Bq f fd)(G:lN mg):aT P w K mg base bX 1 f fd ["kind","numbers","row"] iA:=by
 refine cz F zd fun _ _ _ _ H _ Q E hr h=> ?_
 obtain⟨k,nl,r,ns,row,rfl,hn,Zt,h3,gJ,kk⟩:=h;refine⟨_,ae (cY 3 zd.nd (bx AF (cp (aa ag ab)) (bx j3 ag (aN ay rfl G.len agq (aa (pv 1) ab)))))
  (af (aq (bx sG (bx sG (bx sG (bx sG (cp (aa (pv 0) ab)) (pv 1)) (pv 3)) (cp (aa (aN ay rfl G.len agq (aa (pv 2) ab)) ab))) (pv 2)))),?_⟩
 refine⟨by show 1<=sizeLine;decide,fun q hq=> ?_⟩;have s0:ax H (aE H q (.ba [.int 0])):=ax.new hq;have el:(3:Int)-((ns.map V.int).length:Nat)=((3-ns.length:Nat):Int):=by rw[afb];omega
 refine⟨_,rfl,nl,_,rfl,.inl (aJ.of (s0 _ _ hn)),_,_,rfl,rfl,q,_,_,rfl,rfl,aj,?_,?_,?_,fun m hm=> ?_⟩
 .rw[el];exact ajc (by decide) (ahu _)
 .rw[el];exact ahY (show((3-ns.length:Nat):Int)<=3 by omega) (by decide)
 .rw[el];show 1*(3-ns.length)<=sizeLine;exact afw (show 1*(3-ns.length)<=3 by omega) (by decide)
 rw[el,ah6,CP];have s1:=s0.trans (ax.new (o:= .ba ((afQ (3-ns.length) (0:Int)).map V.int)) hm);refine⟨_,rfl,by show 1<=sizeLine;decide,fun a1 h1=> ?_⟩;have s2:=s1.trans (ax.new (o:= .ba [.int k]) h1);have qg:∀{n:Nat},n<=16000000->n<=sizeLine:=fun h=>agE (uz h)
 refine⟨_,rfl,a1,nl,_,_,rfl,rfl,aj,s2 _ _ hn,by rw[afb];exact qg (by show 1+_<=_;omega),fun a2 h2=> ?_⟩;have s3:=s2.trans (ax.new (o:= .ba ([.int k]++ns.map V.int)) h2);have WA:aE (aE (aE (aE H q (.ba [.int 0])) m (.ba ((afQ (3-ns.length) (0:Int)).map V.int))) a1 (.ba [.int k])) a2 (.ba ([.int k]++ns.map V.int)) m=some (.ba ((afQ (3-ns.length) (0:Int)).map V.int)):=by
  have t1:aE (aE H q (.ba [.int 0])) m (.ba ((afQ (3-ns.length) (0:Int)).map V.int)) m=some (.ba ((afQ (3-ns.length) (0:Int)).map V.int)):=aj;have t2:aE (aE (aE H q (.ba [.int 0])) m (.ba ((afQ (3-ns.length) (0:Int)).map V.int))) a1 (.ba [.int k]) m=some (.ba ((afQ (3-ns.length) (0:Int)).map V.int)):=by rw[ao (ak t1 h1)];exact t1
  rw[ao (ak t2 h2)];exact t2
 refine⟨_,rfl,a2,m,_,_,rfl,rfl,aj,WA,?_,fun a3 h4=> ?_⟩
 .rw[afc,afb,afb,ag2];exact qg (by show 1+_+_<=_;omega)
 have s4:=s3.trans (ax.new (o:= .ba ([.int k]++ns.map V.int++(afQ (3-ns.length) (0:Int)).map V.int)) h4);refine⟨_,rfl,r,_,rfl,.inl (aJ.of (s4 _ _ Zt)),by show 1<=sizeLine;decide,fun a4 h5=> ?_⟩;have s5:=s4.trans (ax.new (o:= .ba [.int (row.map V.int).length]) h5);refine⟨a3,a4,_,_,rfl,rfl,by rw[ao (ak aj h5)];exact aj,aj,?_,fun a5 h6=> ?_⟩
 .rw[afc,afc,afb,afb,ag2];exact qg (by show 1+_+_+1<=_;omega)
 have s6:=s5.trans (ax.new (o:= .ba ([.int k]++ns.map V.int++(afQ (3-ns.length) (0:Int)).map V.int++ [.int (row.map V.int).length])) h6);refine⟨_,rfl,a5,r,_,_,rfl,rfl,aj,s6 _ _ Zt,?_,fun a6 h7=> ?_⟩
 .rw[afc,afc,afc,afb,afb,afb,ag2];exact qg (by show 1+_+_+1+_<=_;omega)
 refine kk _ a6 (s6.free h7) ?_ (s6.trans (ax.new h7));show L2.aE _ a6 _ a6=_;rw[aj];refine congrArg (fun z=>some (HO.ba z)) ?_;unfold zt;rw[afD,afD,afD,afD,afb];rfl
structure Mp(mg:Str->Option afg):Prop where
 k1:∃t,mg "ENTRY_DROPPED"=some (.int 1 t)
 k2:∃t,mg "SENSE_DROPPED"=some (.int 2 t)
 k3:∃t,mg "ENTRY_NEW"=some (.int 3 t)
 k4:∃t,mg "ENTRY_MOVED"=some (.int 4 t)
 k5:∃t,mg "SENSE_NEW"=some (.int 5 t)
 k6:∃t,mg "SENSE_MOVED_kinds"=some (.int 6 t)
 k7:∃t,mg "SAID"=some (.int 7 t)
 k8:∃t,mg "POINTED"=some (.int 8 t)
structure fP(H:Hp)(D:afd)(H':Hp)(cs:List agZ):Prop where
 same:ax H H'
 ex:∃as:List afd,H' D=some (.ba (as.map V.ref))/\xU H' as cs/\∀a∈as,a≠D
theorem fP.start(h:H D=none):fP H D (aE H D (.ba [])) []:=⟨ax.new h,[],aj,xU.nil,fun _ h=>nomatch h⟩
theorem fP.keep{cs:List agZ}(g:fP H D H1 cs)(s:ax H1 H2):fP H D H2 cs:=by
 obtain⟨as,h1,h2,h3⟩:=g.ex;exact⟨g.same.trans s,as,s _ _ h1,h2.same s,h3⟩
theorem fP.len{H H1:Hp}{D:afd}{cs:List agZ}(g:fP H D H1 cs):∃as:List afd,H1 D=some (.ba (as.map V.ref))/\as.length=cs.length:=by
 obtain⟨as,h1,h2,_⟩:=g.ex;exact⟨as,h1,h2.len⟩
theorem fP.gZ{l:afd}{cs:List agZ}{c:agZ}(g:fP H D H1 cs)(hD:H D=none)(s:ax H1 H2)(hl:H1 l=none)(h:IL H2 l (ags c))(as:List afd)(ha:H2 D=some (.ba (as.map V.ref))):
  fP H D (aE H2 D (.ba (as.map V.ref++ [.ref l]))) (cs++ [c]):=by
 obtain⟨JP,h1,h2,h3⟩:=g.ex;have e:JP=as:=by
  have:=(s _ _ h1).symm.trans ha;injection this with this
  injection this with this
  exact(alZ (fun x y h=>by injection h)).mp this
 subst e;have Zk:l≠D:=fun z=>by rw[z,h1]at hl;cases hl
 refine⟨fun a o q=> ?_,JP++ [l],?_,?_,fun a q=> ?_⟩
 .rw[ao (ak q hD)];exact s _ _ (g.same _ _ q)
 .rw[aj,afD];rfl
 .have h4:xU H2 (JP++ [l]) (cs++ [c]):=(h2.same s).append (xU.xV h);refine⟨h4.len,fun i a d q1 q2=> ?_⟩;have hm:=afq q1;have gh:a≠D:=by
   rcases afN.mp hm with z|z
   .exact h3 a z
   .have:a=l:=by simpa using z
    rw[this];exact Zk
  show L2.aE _ D _ a=_;rw[ao gh];exact h4.cG i a d q1 q2
 .rcases afN.mp q with z|z
  .exact h3 a z
  .have:a=l:=by simpa using z
   rw[this];exact Zk
theorem fP.NC{cs:List agZ}(g:fP H D H1 cs):Qa H1 D cs:=by
 obtain⟨as,h1,h2,_⟩:=g.ex;exact⟨as,h1,h2⟩
inductive tO(C:afd)(cs:aga->aga->List agZ)(vs:List V)(H:Hp)(Q:VK)(E:XK):Prop|m:∀(b1 b2:afd) (d1 d2:BA) (B1 B2:aga) (FZ:List afd) (N:Nat),vs=[.ref b1,.ref b2]->aV C H b1 d1 B1 FZ N->aV C H b2 d2 B2 FZ N->N<10000->(∀e∈B2.entries,e.word.length<=10000000)->(∀e∈B2.senses,e.text.length<=10000000)->(∀(H':Hp) (l:afd),H l=none->Qa H' l (cs B1 B2)->ax H H'->Q (.ref l) H')->tO C cs vs H Q E
abbrev TV:afR:=dC 66
theorem Py:au ["first","second","entry"] ["first","second"] (ai TV):=cF
theorem QZ:iK ["first","second","entry"] (ai TV) (xa (cq TV) 0) [("entry",2)]:=⟨rfl,by decide+kernel,by decide+kernel,by decide+kernel,by decide+kernel⟩
theorem SF(F:b9 K "entries_dropped" "entries_dropped" TV f fd)(T:mC K mg C)(X:Mp mg)(mH:zJ P w K mg base 1 C "has_entry" ["self","entry"] (pU C) fh fX)(cC:jw P w K mg base 1 "change" ["kind","numbers","row"] iA fc fO):
  aT P w K mg base bX 2 f fd ["first","second"] (tO C fun a b=>(a.entries.filter fun x=> !hasEntry b x.name).map fun x=>ahw x.name):=by
 refine cz F Py fun _ _ _ _ H _ Q E hr h=> ?_
 obtain⟨b1,b2,d1,d2,B1,B2,FZ,N,rfl,hA,hB,hN,DT,sg,k⟩:=h;obtain⟨t1,k1⟩:=X.k1;refine⟨_,af (aq (mv (own:=[("entry",2)]) rfl Py.nd (bO (az (pv 0))) QZ (fun _ _ _ _ _=>hJ 2 Py.nd)
  (fun _ _ _ _ _=>oK (bu (bf (hG (pv 1) T.cl mH.me mH.ok hr mH.bi .nil bw (aa (pv 2) ab)))))
  (fun _ _ _ _ _=>bh cC.ok hr rfl cC.mg cC.kp cC.bi .nil bw (aa (cu (v:= .int 1) rfl k1 ⟨_,rfl⟩) (aa (cp (aa (pv 2) ab)) (aa (cp ab) ab)))))),?_⟩
 refine⟨_,rfl,b1,C,d1.dx,_,_,rfl,hA.bq.ins,T.cl,T.nO,bP,d1.o,rfl,⟨_,aJ.of hA.bq.ord⟩,fun D hD=>jZ (K:=K) (a:=d1.o) (xs:=(names B1).map vn)
  (fun i H'=>fP H D H' (((B1.entries.take i).filter fun x=> !hasEntry B2 x.name).map fun x=>ahw x.name)) (fP.start hD) (fun i H' _ g=>aJ.of (g.same _ _ hA.bq.ord)) ?_ ?_⟩
 .rintro i y H' hi g;obtain⟨e,he,rfl⟩:=eg hi;obtain⟨x,hx,rfl⟩:=entry_at he;have gV:i<B1.entries.length:=(aff.mp hx).1;have qm:B1.entries.length<=N:=by have:=hA.le;unfold names at this;rw[afb]at this;exact this
  have B8:=hB.same g.same;refine⟨rfl,_,rfl,b2,d2.dx,_,rfl,B8.bq.ins,bF (by decide+kernel),_,rfl,b2,d2,B2,FZ,N,x.name,rfl,B8,_,rfl,?_⟩;refine aW (fun q=> ?_) (fun q=> ?_)
  .refine⟨_,rfl,by show 1<=sizeLine;decide,fun a1 h1=>⟨afH _,fun a2 h2=> ?_⟩⟩;have s1:ax H' (aE H' a1 (.ba [vn x.name])):=ax.new h1;have s2:=s1.trans (ax.new (o:= .ba []) h2);refine⟨1,a1,a2,[(x.name:Int)],[],rfl,by show L2.aE _ a2 _ a1=_;rw[ao (ak aj h2)];exact aj,aj,by show 1<=3;decide,afH _,fun H5 l5 wz ud s5=> ?_⟩;have mm:=s2.trans s5;have ql:H' l5=none:=s2.free wz;obtain⟨as,ha,bY⟩:=(g.keep mm).len;refine⟨_,ha,?_,?_⟩
   .rw[afb,bY,afb];have:=af8 (fun x:afo=> !hasEntry B2 x.name) (B1.entries.take i);rw[afY]at this;exact b8 (by omega)
   .have hc:IL H5 l5 (ags (ahw x.name)):=ud;have:=g.gZ hD mm ql hc as ha;rw[aS hx,agl,afD,afU,afj q];exact this
  .rw[aS hx,agl,afD,afU,afe q];show fP H D H' (_++ []);rw[af7];exact g
 .rintro H' g;have:B1.entries.take ((names B1).map vn).length=B1.entries:=agw (by simp[names]);rw[this]at g;exact k H' D hD g.NC g.same
abbrev jQ(l:List Nat):List Int:=l.map fun n:Nat=>(n:Int)
theorem NL.il(h:NL H a l):IL H a (jQ l):=by
 show H a=_;rw[h,wL]
theorem Fe(e a:Nat)(wd:List Nat):zt 3 [(e:Int),(a:Int)] (jQ wd)=ags (.newEntry e a wd):=by
 show [3,(e:Int),(a:Int),0,((jQ wd).length:Int)]++jQ wd=[3,(e:Int),(a:Int),0,(wd.length:Int)]++wd.map nat;rw[afb];rfl
theorem Ff(n e a:Nat)(t:List Nat):zt 5 [(n:Int),(e:Int),(a:Int)] (jQ t)=ags (.newSense n e a t):=by
 show [5,(n:Int),(e:Int),(a:Int),((jQ t).length:Int)]++jQ t=[5,(n:Int),(e:Int),(a:Int),(t.length:Int)]++t.map nat;rw[afb];rfl
theorem Jo(n:Nat)(t:List Nat):zt 7 [(n:Int)] (jQ t)=ags (.say n t):=by
 show [7,(n:Int),0,0,((jQ t).length:Int)]++jQ t=[7,(n:Int),0,0,(t.length:Int)]++t.map nat;rw[afb];rfl
abbrev Ys:afR:=dC 67
theorem EV:au ["first","second","stay","found","ahead","entry"] ["first","second"] (ai Ys):=cF
theorem KH(a b:aga):kept (names a) (names b)=kept (agu a) (agu b):=rfl
theorem B4(a b:aga)(k:List Nat):∀(l:List afo) (ah:Nat),(B0 a b k ah l).length<=l.length
 | [],_=>afp _
 |x::l,ah=>by
  have ih:=B4 a b k l x.name;show((if k.contains x.name=true then []else [_])++B0 a b k x.name l).length<=_;rw[afc,afr];split
  .show 0+_<=_;omega
  .show 1+_<=_;omega
theorem SG{ft:afd}{VS:afE}(F:b9 K "entries_placed" "entries_placed" Ys f fd)(T:mC K mg C)(X:Mp mg)(mH:zJ P w K mg base 1 C "has_entry" ["self","entry"] (pU C) fh fX)(cC:jw P w K mg base 1 "change" ["kind","numbers","row"] iA fc fO)
  (cT:jw P w K mg base 2 "those_that_stay" ["old","new"] (xN K) ft VS):aT P w K mg base bX 3 f fd ["first","second"] (tO C fun a b=>B0 a b (kept (agu a) (agu b)) 0 b.entries):=by
 refine cz F EV fun _ _ _ _ H _ Q E hr h=> ?_
 obtain⟨b1,b2,d1,d2,B1,B2,FZ,N,rfl,hA,hB,hN,DT,sg,k⟩:=h;obtain⟨t3,k3⟩:=X.k3;obtain⟨t4,k4⟩:=X.k4;have Cf:fF 1 _:=hr.fJ (by decide);refine⟨_,ae (cY 2 EV.nd (bh cT.ok hr rfl cT.mg cT.kp cT.bi .nil bw (aa (az (pv 0)) (aa (az (pv 1)) ab))))
  (ae (cY 3 EV.nd (cp ab))
  (ae (cY 4 EV.nd ag)
  (ae (cM af3 rfl (bO (az (pv 1))) (hJ 5 EV.nd)
   (ae (aZ (aX j2 (pv 5) (pv 2) (by with_unfolding_all rfl))
    (af (aZ (bf (hG (pv 0) T.cl mH.me mH.ok Cf mH.bi .nil bw (aa (pv 5) ab)))
     (af (aI (cy afs age agj de (pv 3) (aa (bh cC.ok Cf rfl cC.mg cC.kp cC.bi .nil bw (aa (cu (v:= .int 4) rfl k4 ⟨_,rfl⟩) (aa (cp (aa (pv 5) (aa (pv 4) ab))) (aa (cp ab) ab)))) ab))))
     (af (aI (cy afs age agj de (pv 3) (aa (bh cC.ok Cf rfl cC.mg cC.kp cC.bi .nil bw (aa (cu (v:= .int 3) rfl k3 ⟨_,rfl⟩) (aa (cp (aa (pv 5) (aa (pv 4) ab))) (aa (bC (bZ hr) (az (pv 1)) (pv 5)) ab)))) ab))))))
    aC)
   (af (cY 4 EV.nd (pv 5)))))
  (af (aq (pv 3)))))),?_⟩
 have YW:(names B1).length<=10000:=by have:=hA.le;omega
 have YX:(names B2).length<=10000:=by have:=hB.le;omega
 refine⟨_,rfl,b1,C,d1.dx,_,_,rfl,hA.bq.ins,T.cl,T.nO,bP,_,rfl,b2,C,d2.dx,_,_,rfl,hB.bq.ins,T.cl,T.nO,bP,d1.o,d2.o,names B1,names B2,rfl,aJ.of hA.bq.ord,aJ.of hB.bq.ord,hB.wf.en,YW,YX,fun H1 sy hsy M5 s1=> ?_⟩;rw[KH]at M5;generalize Ws:kept (agu B1) (agu B2)=kk at M5 k;refine⟨afH _,fun D hD=> ?_⟩;have g0:=fP.start hD;have V3:H D=none:=s1.free hD;have zO:B2.entries.length<=N:=by have:=hB.le;unfold names at this;rw[afb]at this;exact this
 have Qm:=s1.trans g0.same;refine⟨_,rfl,b2,C,d2.dx,_,_,rfl,Qm _ _ hB.bq.ins,T.cl,T.nO,bP,d2.o,rfl,⟨_,aJ.of (Qm _ _ hB.bq.ord)⟩,cV (K:=K) (a:=d2.o) (xs:=(names B2).map vn)
  (fun i σ H'=>∃(v5:Option V) (ah:Nat) (cs:List agZ),σ=[some (.ref b1),some (.ref b2),some (.ref sy),some (.ref D),some (vn ah),v5]/\fP H1 D H' cs/\cs.length<=i/\B0 B1 B2 kk 0 B2.entries=cs++B0 B1 B2 kk ah (B2.entries.drop i))
  ⟨none,0,[],rfl,g0,afp _,rfl⟩ (fun i σ H' _ ⟨_,_,_,_,g,_⟩=>aJ.of (g.same _ _ (s1 _ _ hB.bq.ord))) ?_ ?_⟩
 .rintro i y σ H' hi ⟨v5,ah,cs,rfl,g,Ab,Ac⟩;obtain⟨e,he,rfl⟩:=eg hi;obtain⟨x,hx,rfl⟩:=entry_at he;have px:x∈B2.entries:=afq hx;have wA:x.name∈names B2:=aY.mpr ⟨x,px,rfl⟩;have gV:i<B2.entries.length:=(aff.mp hx).1;have Cb:B2.entries.drop i=x::B2.entries.drop (i+1):=by
   obtain⟨h1,h2⟩:=aff.mp hx;rw[agN h1,h2]
  have jY:B0 B1 B2 kk 0 B2.entries=cs++((if kk.contains x.name=true then []else [if agn B1 x.name=true then aic x.name ah else .newEntry x.name ah x.word])++B0 B1 B2 kk x.name (B2.entries.drop (i+1))):=by
   rw[Ac,Cb];rfl
  have sH:=s1.trans g.same;refine⟨_,rfl,_,rfl,sy,_,rfl,.inl (aJ.of (g.same _ _ M5)),rfl,g9 _,_,rfl,?_⟩;show if(!Fs (vn x.name) (kk.map vn))=true then _ else _
  rw[kQ];refine aW (fun q=> ?_) (fun q=> ?_)
  .have JG:¬x.name∈kk:=by simpa using q
   rw[afe (by simpa using JG)]at jY;have YQ:=hA.same sH;have B8:=hB.same sH;refine⟨_,rfl,b1,d1.dx,_,rfl,YQ.bq.ins,bF (by decide+kernel),_,rfl,b1,d1,B1,FZ,N,x.name,rfl,YQ,_,rfl,?_⟩;obtain⟨QU,DM,_⟩:=g.len;refine aW (fun q2=> ?_) (fun q2=> ?_)
   .rw[afj q2]at jY;refine⟨_,rfl,.inl ⟨rfl,_,aJ.of DM⟩,_,rfl,_,rfl,by show 2<=sizeLine;decide,fun a1 h1=>⟨afH _,fun a2 h2=> ?_⟩⟩;have s3:ax H' (aE H' a1 (.ba [vn x.name,vn ah])):=ax.new h1;have s4:=s3.trans (ax.new (o:= .ba []) h2);refine⟨4,a1,a2,[(x.name:Int),(ah:Int)],[],rfl,by show L2.aE _ a2 _ a1=_;rw[ao (ak aj h2)];exact aj,aj,by show 2<=3;decide,afH _,fun H5 l5 wz ud s5=> ?_⟩;have mm:=s4.trans s5;obtain⟨as,ha,bY⟩:=(g.keep mm).len;have hc:IL H5 l5 (ags (.moveEntry x.name ah)):=ud;refine⟨D,_,_,rfl,rfl,ha,by rw[afb,bY];exact b8 (by omega),_,rfl,_,x.name,cs++ [aic x.name ah],rfl,g.gZ hD mm (s4.free wz) hc as ha,by rw[afc];show _+1<=_;omega,?_⟩;rw[jY,afS]
   .rw[afe q2]at jY;refine⟨_,rfl,.inl ⟨rfl,_,aJ.of DM⟩,_,rfl,_,rfl,by show 2<=sizeLine;decide,fun a1 h1=> ?_⟩;have s3:ax H' (aE H' a1 (.ba [vn x.name,vn ah])):=ax.new h1;have mx:=sH.trans s3;obtain⟨hwF,WU⟩:=hB.word x px;refine⟨_,rfl,b2,C,d2.dx,_,_,rfl,mx _ _ hB.bq.ins,T.cl,T.nW,jz,_,rfl,d2.w,.ref (d2.wa x.name),rfl,by
     have:=ei.k (k:=afz (x.name:Int)) (mx _ _ hB.bq.hw);rw[hB.dw.get wA]at this;exact this,3,a1,d2.wa x.name,[(x.name:Int),(ah:Int)],jQ x.word,rfl,aj,NL.il (mx _ _ WU),by show 2<=3;decide,by rw[afb];exact DT x px,fun H5 l5 wz ud s5=> ?_⟩
    rw[Fe]at ud;have mm:=s3.trans s5;obtain⟨as,ha,bY⟩:=(g.keep mm).len;refine⟨D,_,_,rfl,rfl,ha,by rw[afb,bY];exact b8 (by omega),_,rfl,_,x.name,cs++ [Change.newEntry x.name ah x.word],rfl,g.gZ hD mm (s3.free wz) ud as ha,by rw[afc];show _+1<=_;omega,?_⟩;rw[jY,afS]
  .have JG:x.name∈kk:=by simpa using q
   rw[afj (by simpa using JG)]at jY;exact⟨_,rfl,_,x.name,cs,rfl,g,by omega,jY⟩
 .rintro σ H' ⟨v5,ah,cs,rfl,g,Ab,Ac⟩;have Wh:B2.entries.drop ((names B2).map vn).length=[]:=agt (by simp[names]);rw[Wh]at Ac;have jY:B0 B1 B2 kk 0 B2.entries=cs:=by rw[Ac];exact af7 _
  refine⟨_,rfl,k H' D V3 ?_ (s1.trans g.same)⟩;rw[jY];exact g.NC
inductive AZ(C:afd)(vs:List V)(H:Hp)(Q:VK)(E:XK):Prop|m:∀(b1 b2:afd) (d1 d2:BA) (B1 B2:aga) (FZ:List afd) (N:Nat),vs=[.ref b1,.ref b2]->aV C H b1 d1 B1 FZ N->aV C H b2 d2 B2 FZ N->N<10000->(∀(H':Hp) (l:afd),H l=none->NL H' l (bg B1 B2)->ax H H'->Q (.ref l) H')->AZ C vs H Q E
inductive PR(C:afd)(vs:List V)(H:Hp)(Q:VK)(E:XK):Prop|m:∀(l b2:afd) (d2:BA) (ls:List Nat) (B2:aga) (FZ:List afd) (N:Nat),vs=[.ref l,.ref b2]->NL H l ls->ls.length<=10000->aV C H b2 d2 B2 FZ N->N<10000->(∀(H':Hp) (D:afd),H D=none->Qa H' D ((ls.filter fun n=> !hasSense B2 n).map ajx)->ax H H'->Q (.ref D) H')->PR C vs H Q E
theorem G9(a b:aga)(w:WF a):(bg a b).length<=(afF a).length:=by
 rw[jg a b w];exact af8 _ _
abbrev ME:afR:=dC 68
theorem AQ:au ["first","second","left","entry"] ["first","second"] (ai ME):=cF
theorem Ha(b:aga)(l:List afo)(i:Nat):(((l.take i).filter fun x=>agn b x.name).flatMap fun x=>x.senses).length<=(l.flatMap fun x=>x.senses).length:=by
 have h:∀m:List afo,((m.filter fun x=>agn b x.name).flatMap fun x=>x.senses).length<=(m.flatMap fun x=>x.senses).length:=by
  intro m
  induction m with
  |nil=>exact afp _
  |cons x m ih=>
   rw[afU,agi,afc];split
   .rw[agi,afc];omega
   .omega
 exact afw (h _) (lX (fun x:afo=>x.senses) l i)
theorem K7(F:b9 K "senses_left" "senses_left" ME f fd)(T:mC K mg C)(mH:zJ P w K mg base 1 C "has_entry" ["self","entry"] (pU C) fh fX):aT P w K mg base bX 2 f fd ["first","second"] (AZ C):=by
 refine cz F AQ fun _ _ _ _ H _ Q E hr h=> ?_
 obtain⟨b1,b2,d1,d2,B1,B2,FZ,N,rfl,hA,hB,hN,k⟩:=h;refine⟨_,ae (cY 2 AQ.nd (cp ab))
  (ae (cM af3 rfl (bO (az (pv 0))) (hJ 3 AQ.nd)
   (af (aZ (bf (hG (pv 1) T.cl mH.me mH.ok hr mH.bi .nil bw (aa (pv 3) ab)))
    (af (aI (cy afs af2 af9 dJ (pv 2) (aa (bC (bZ hr) (az (pv 0)) (pv 3)) ab))))
    aC)))
  (af (aq (pv 2)))),?_⟩
 refine⟨afH _,fun D hD=> ?_⟩;have s0:ax H (aE H D (.ba [])):=ax.new hD;refine⟨_,rfl,b1,C,d1.dx,_,_,rfl,s0 _ _ hA.bq.ins,T.cl,T.nO,bP,d1.o,rfl,⟨_,aJ.of (s0 _ _ hA.bq.ord)⟩,cV (K:=K) (a:=d1.o) (xs:=(names B1).map vn)
  (fun i σ H'=>∃(v3:Option V),σ=[some (.ref b1),some (.ref b2),some (.ref D),v3]/\ax H H'/\NL H' D (((B1.entries.take i).filter fun x=>agn B2 x.name).flatMap fun x=>x.senses))
  ⟨none,rfl,s0,aj⟩ (fun i σ H' _ ⟨_,_,s1,_⟩=>aJ.of (s1 _ _ hA.bq.ord)) ?_ ?_⟩
 .rintro i y σ H' hi ⟨v3,rfl,s1,Qp⟩;obtain⟨e,he,rfl⟩:=eg hi;obtain⟨x,hx,rfl⟩:=entry_at he;have px:x∈B1.entries:=afq hx;have wA:x.name∈names B1:=aY.mpr ⟨x,px,rfl⟩;have B8:=hB.same s1;refine⟨_,rfl,b2,d2.dx,_,rfl,B8.bq.ins,bF (by decide+kernel),_,rfl,b2,d2,B2,FZ,N,x.name,rfl,B8,_,rfl,?_⟩;refine aW (fun q=> ?_) (fun q=> ?_)
  .have Kt:=Ha B2 B1.entries (i+1);rw[aS hx,agl,agH,afU,afj q,ahI,agi,List.flatMap_nil,af7]at Kt;have Zq:(((B1.entries.take i).filter fun x=>agn B2 x.name).flatMap fun x=>x.senses).length+x.senses.length<=N:=by
    have:=hA.ls;have h2:(B1.entries.flatMap fun x=>x.senses).length<=N:=this;rw[afc]at Kt;omega
   refine⟨_,rfl,.inl ⟨rfl,_,aJ.of Qp⟩,_,rfl,b1,C,d1.dx,_,_,rfl,s1 _ _ hA.bq.ins,T.cl,T.nR,du,_,rfl,d1.r,.ref (d1.ra x.name),rfl,by
    have:=ei.k (k:=afz (x.name:Int)) (s1 _ _ hA.bq.hr);rw[hA.dr.get wA]at this;exact this,D,d1.ra x.name,_,_,rfl,rfl,Qp,s1 _ _ (hA.row px),by rw[afb,afb];exact agE (b8 (by omega)),_,rfl,fun a o h=> ?_,?_⟩
   .rw[ao (ak h hD)];exact s1 a o h
   .rw[aS hx,agl,agH,afU,afj q];show L2.aE _ D _ D=_;rw[aj,<-afD];simp
  .refine⟨_,rfl,s1,?_⟩;rw[aS hx,agl,agH,afU,afe q];simpa using Qp
 .rintro σ H' ⟨v3,rfl,s1,Qp⟩;have:B1.entries.take ((names B1).map vn).length=B1.entries:=agw (by simp[names]);rw[this]at Qp;exact⟨_,rfl,k H' D hD Qp s1⟩
abbrev TX:afR:=dC 69
theorem PK:au ["left","second","sense"] ["left","second"] (ai TX):=cF
theorem Q0:iK ["left","second","sense"] (ai TX) (xa (cq TX) 0) [("sense",2)]:=⟨rfl,by decide+kernel,by decide+kernel,by decide+kernel,by decide+kernel⟩
theorem SH(F:b9 K "senses_dropped" "senses_dropped" TX f fd)(T:mC K mg C)(X:Mp mg)(mH:zJ P w K mg base 1 C "has_sense" ["self","sense"] (xy C) fh fX)(cC:jw P w K mg base 1 "change" ["kind","numbers","row"] iA fc fO):
  aT P w K mg base bX 2 f fd ["left","second"] (PR C):=by
 refine cz F PK fun _ _ _ _ H _ Q E hr h=> ?_
 obtain⟨l,b2,d2,ls,B2,FZ,N,rfl,hl,Ad,hB,hN,k⟩:=h;obtain⟨t1,k1⟩:=X.k2;refine⟨_,af (aq (mv (own:=[("sense",2)]) rfl PK.nd (bO (pv 0)) Q0 (fun _ _ _ _ _=>hJ 2 PK.nd)
  (fun _ _ _ _ _=>oK (bu (bf (hG (pv 1) T.cl mH.me mH.ok hr mH.bi .nil bw (aa (pv 2) ab)))))
  (fun _ _ _ _ _=>bh cC.ok hr rfl cC.mg cC.kp cC.bi .nil bw (aa (cu (v:= .int 2) rfl k1 ⟨_,rfl⟩) (aa (cp (aa (pv 2) ab)) (aa (cp ab) ab)))))),?_⟩
 refine⟨_,rfl,l,rfl,⟨_,aJ.of hl⟩,fun D hD=>jZ (K:=K) (a:=l) (xs:=ls.map vn)
  (fun i H'=>fP H D H' (((ls.take i).filter fun n=> !hasSense B2 n).map ajx)) (fP.start hD) (fun i H' _ g=>aJ.of (g.same _ _ hl)) ?_ ?_⟩
 .rintro i y H' hi g;obtain⟨n,hn,rfl⟩:=eg hi;have gV:i<ls.length:=(aff.mp hn).1;have B8:=hB.same g.same;refine⟨rfl,_,rfl,b2,d2.dx,_,rfl,B8.bq.ins,bF (by decide+kernel),_,rfl,b2,d2,B2,FZ,N,n,rfl,B8,_,rfl,?_⟩;refine aW (fun q=> ?_) (fun q=> ?_)
  .refine⟨_,rfl,by show 1<=sizeLine;decide,fun a1 h1=>⟨afH _,fun a2 h2=> ?_⟩⟩;have s1:ax H' (aE H' a1 (.ba [vn n])):=ax.new h1;have s2:=s1.trans (ax.new (o:= .ba []) h2);refine⟨2,a1,a2,[(n:Int)],[],rfl,by show L2.aE _ a2 _ a1=_;rw[ao (ak aj h2)];exact aj,aj,by show 1<=3;decide,afH _,fun H5 l5 wz ud s5=> ?_⟩;have mm:=s2.trans s5;obtain⟨as,ha,bY⟩:=(g.keep mm).len;refine⟨_,ha,?_,?_⟩
   .rw[afb,bY,afb];have:=af8 (fun n=> !hasSense B2 n) (ls.take i);rw[afY]at this;exact b8 (by omega)
   .have hc:IL H5 l5 (ags (ajx n)):=ud;have:=g.gZ hD mm (s2.free wz) hc as ha;rw[aS hn,agl,afD,afU,afj q];exact this
  .rw[aS hn,agl,afD,afU,afe q];show fP H D H' (_++ []);rw[af7];exact g
 .rintro H' g;rw[afb,afT]at g;exact k H' D hD g.NC g.same
theorem rT(h:¬e∈names B):(entryAt B e).senses=[]:=by
 unfold entryAt;have:B.entries.find? (fun x=>x.name==e)=none:=by
  rw[alV];intro x hx q;exact h (aY.mpr ⟨x,hx,by simpa using q⟩)
 rw[this];rfl
theorem B6(a b:aga)(left k:List Nat)(e:Nat):∀(l:List Nat) (ah:Nat),(uV a b left k e ah l).length<=l.length
 | [],_=>afp _
 |n::l,ah=>by
  have ih:=B6 a b left k e l n;show((if k.contains n=true then []else [_])++uV a b left k e n l).length<=_;rw[afc,afr];split
  .show 0+_<=_;omega
  .show 1+_<=_;omega
inductive Jg(C:afd)(vs:List V)(H:Hp)(Q:VK)(E:XK):Prop|m:∀(y:afo) (b1 b2 l:afd) (d1 d2:BA) (ls:List Nat) (B1 B2:aga) (FZ:List afd) (N:Nat),vs=[vn y.name,.ref b1,.ref b2,.ref l]->y∈B2.entries->NL H l ls->aV C H b1 d1 B1 FZ N->aV C H b2 d2 B2 FZ N->N<10000->(∀e∈B2.senses,e.text.length<=10000000)->(∀(H':Hp) (D:afd),H D=none->Qa H' D (uV B1 B2 ls (kept (entryAt B1 y.name).senses y.senses) y.name 0 y.senses)->ax H H'->Q (.ref D) H')->Jg C vs H Q E
abbrev Rc:afR:=dC 70
theorem vB:au ["entry","first","second","left","stay","found","ahead","sense"] ["entry","first","second","left"] (ai Rc):=cF
theorem Pb{ft:afd}{VS:afE}(F:b9 K "senses_placed_in" "senses_placed_in" Rc f fd)(T:mC K mg C)(X:Mp mg)(cC:jw P w K mg base 1 "change" ["kind","numbers","row"] iA fc fO)
  (cT:jw P w K mg base 2 "those_that_stay" ["old","new"] (xN K) ft VS):aT P w K mg base bX 3 f fd ["entry","first","second","left"] (Jg C):=by
 refine cz F vB fun _ _ _ _ H _ Q E hr h=> ?_
 obtain⟨y,b1,b2,l,d1,d2,ls,B1,B2,FZ,N,rfl,hy,hl,hA,hB,hN,sg,k⟩:=h;obtain⟨t5,k5⟩:=X.k5;obtain⟨t6,k6⟩:=X.k6;have Cf:fF 1 _:=hr.fJ (by decide);refine⟨_,ae (cY 4 vB.nd (bh cT.ok hr rfl cT.mg cT.kp cT.bi .nil bw (aa (y0 (bZ hr) (az (pv 1)) (pv 0) (cp ab) ⟨rfl,rfl,rfl,rfl⟩) (aa (bC (bZ hr) (az (pv 2)) (pv 0)) ab))))
  (ae (cY 5 vB.nd (cp ab))
  (ae (cY 6 vB.nd ag)
  (ae (cM af3 rfl (bO (bC (bZ hr) (az (pv 2)) (pv 0))) (hJ 7 vB.nd)
   (ae (aZ (aX j2 (pv 7) (pv 4) (by with_unfolding_all rfl))
    (af (aZ (aX jI (pv 7) (pv 3) (by with_unfolding_all rfl))
     (af (aI (cy afs age agj de (pv 5) (aa (bh cC.ok Cf rfl cC.mg cC.kp cC.bi .nil bw (aa (cu (v:= .int 6) rfl k6 ⟨_,rfl⟩) (aa (cp (aa (pv 7) (aa (pv 0) (aa (pv 6) ab)))) (aa (cp ab) ab)))) ab))))
     (af (aI (cy afs age agj de (pv 5) (aa (bh cC.ok Cf rfl cC.mg cC.kp cC.bi .nil bw (aa (cu (v:= .int 5) rfl k5 ⟨_,rfl⟩) (aa (cp (aa (pv 7) (aa (pv 0) (aa (pv 6) ab)))) (aa (bC (bZ hr) (az (pv 2)) (pv 7)) ab)))) ab))))))
    aC)
   (af (cY 6 vB.nd (pv 7)))))
  (af (aq (pv 5)))))),?_⟩
 have ZC:y.name∈names B2:=aY.mpr ⟨y,hy,rfl⟩;refine⟨_,rfl,b1,C,d1.dx,_,_,rfl,hA.bq.ins,T.cl,T.nR,du,d1.r,rfl,.inl ⟨_,.inl hA.bq.hr⟩,_,rfl,afH _,fun e0 Oy=> ?_⟩;have s0:ax H (aE H e0 (.ba [])):=ax.new Oy;have Up:y.senses.length<=10000:=by have:=hB.IB hy;omega
 obtain⟨o,a0,hg,ho,hs,qm⟩:∃(o:Option V) (a0:afd),ei (aE H e0 (.ba [])) d1.r (vn y.name) o/\o.getD (.ref e0)= .ref a0/\aJ K (aE H e0 (.ba [])) a0 ((entryAt B1 y.name).senses.map vn)/\(entryAt B1 y.name).senses.length<=10000:=by
  have Uc:=ei.k (k:=afz (y.name:Int)) (s0 _ _ hA.bq.hr);by_cases hm:y.name∈names B1
  .rw[hA.dr.get hm]at Uc;exact⟨_,d1.ra y.name,Uc,rfl,aJ.of (s0 _ _ (hA.bq.row y.name hm)),by have:=hA.IB (eZ hA.wf hm).1;omega⟩
  .have e9:ee d1.rk (afz (y.name:Int))=none:=by rw[hA.dr y.name,afe hm]
   rw[e9]at Uc;exact⟨_,e0,Uc,rfl,by rw[rT hm];exact aJ.of aj,by rw[rT hm];exact afH _⟩
 refine⟨o,hg,?_⟩;rw[ho];refine⟨_,rfl,b2,C,d2.dx,_,_,rfl,s0 _ _ hB.bq.ins,T.cl,T.nR,du,_,rfl,d2.r,.ref (d2.ra y.name),rfl,by
  have:=ei.k (k:=afz (y.name:Int)) (s0 _ _ hB.bq.hr);rw[hB.dr.get ZC]at this;exact this,a0,d2.ra y.name,(entryAt B1 y.name).senses,y.senses,rfl,hs,aJ.of (s0 _ _ (hB.row hy)),qR hB.wf.an hy,qm,Up,fun H1 sy hsy M5 UC=> ?_⟩
 have s1:=s0.trans UC;generalize Ws:kept (entryAt B1 y.name).senses y.senses=kk at M5 k;refine⟨afH _,fun D hD=> ?_⟩;have g0:=fP.start hD;have V3:H D=none:=s1.free hD;have Qm:=s1.trans g0.same;refine⟨_,rfl,b2,C,d2.dx,_,_,rfl,Qm _ _ hB.bq.ins,T.cl,T.nR,du,_,rfl,d2.r,.ref (d2.ra y.name),rfl,by
  have:=ei.k (k:=afz (y.name:Int)) (Qm _ _ hB.bq.hr);rw[hB.dr.get ZC]at this;exact this,d2.ra y.name,rfl,⟨_,aJ.of (Qm _ _ (hB.row hy))⟩,cV (K:=K) (a:=d2.ra y.name) (xs:=y.senses.map vn)
  (fun i σ H'=>∃(v7:Option V) (ah:Nat) (cs:List agZ),σ=[some (vn y.name),some (.ref b1),some (.ref b2),some (.ref l),some (.ref sy),some (.ref D),some (vn ah),v7]/\fP H1 D H' cs/\cs.length<=i/\uV B1 B2 ls kk y.name 0 y.senses=cs++uV B1 B2 ls kk y.name ah (y.senses.drop i))
  ⟨none,0,[],rfl,g0,afp _,rfl⟩ (fun i σ H' _ ⟨_,_,_,_,g,_⟩=>aJ.of (g.same _ _ (s1 _ _ (hB.row hy)))) ?_ ?_⟩
 .rintro i z σ H' hi ⟨v7,ah,cs,rfl,g,Ab,Ac⟩;obtain⟨n,hn,rfl⟩:=eg hi;have OA:n∈y.senses:=afq hn;have qF:n∈aD B2:=(hB.wf.same n).mp (dH.mpr ⟨y,hy,OA⟩);obtain⟨OF,qS⟩:=jn hB.wf qF;have gV:i<y.senses.length:=(aff.mp hn).1;have Cb:y.senses.drop i=n::y.senses.drop (i+1):=by
   obtain⟨h1,h2⟩:=aff.mp hn;rw[agN h1,h2]
  have jY:uV B1 B2 ls kk y.name 0 y.senses=cs++((if kk.contains n=true then []else [if ls.contains n=true then aid n y.name ah else .newSense n y.name ah (aft B2 n).text])++uV B1 B2 ls kk y.name n (y.senses.drop (i+1))):=by
   rw[Ac,Cb];rfl
  have sH:=s1.trans g.same;refine⟨_,rfl,_,rfl,sy,_,rfl,.inl (aJ.of (g.same _ _ M5)),rfl,g9 _,_,rfl,?_⟩;show if(!Fs (vn n) (kk.map vn))=true then _ else _
  rw[kQ];refine aW (fun q=> ?_) (fun q=> ?_)
  .have JG:¬n∈kk:=by simpa using q
   rw[afe (by simpa using JG)]at jY;refine⟨_,rfl,_,rfl,l,_,rfl,.inl (aJ.of (sH _ _ hl)),rfl,g9 _,_,rfl,?_⟩;show if Fs (vn n) (ls.map vn)=true then _ else _
   rw[kQ];obtain⟨QU,DM,_⟩:=g.len;refine aW (fun q2=> ?_) (fun q2=> ?_)
   .have Xy:n∈ls:=afh q2;rw[afj (by simpa using Xy)]at jY;refine⟨_,rfl,.inl ⟨rfl,_,aJ.of DM⟩,_,rfl,_,rfl,_,rfl,by show 3<=sizeLine;decide,fun a1 h1=>⟨afH _,fun a2 h2=> ?_⟩⟩;have s3:ax H' (aE H' a1 (.ba [vn n,vn y.name,vn ah])):=ax.new h1;have s4:=s3.trans (ax.new (o:= .ba []) h2);refine⟨6,a1,a2,[(n:Int),(y.name:Int),(ah:Int)],[],rfl,by show L2.aE _ a2 _ a1=_;rw[ao (ak aj h2)];exact aj,aj,by show 3<=3;decide,afH _,fun H5 l5 wz ud s5=> ?_⟩;have mm:=s4.trans s5;obtain⟨as,ha,bY⟩:=(g.keep mm).len;have hc:IL H5 l5 (ags (.moveSense n y.name ah)):=ud;refine⟨D,_,_,rfl,rfl,ha,by rw[afb,bY];exact b8 (by omega),_,rfl,_,n,cs++ [aid n y.name ah],rfl,g.gZ hD mm (s4.free wz) hc as ha,by rw[afc];show _+1<=_;omega,?_⟩;rw[jY,afS]
   .have Xy:¬n∈ls:=fun z=>q2 (afl z)
    rw[afe (by simpa using Xy)]at jY;refine⟨_,rfl,.inl ⟨rfl,_,aJ.of DM⟩,_,rfl,_,rfl,_,rfl,by show 3<=sizeLine;decide,fun a1 h1=> ?_⟩;have s3:ax H' (aE H' a1 (.ba [vn n,vn y.name,vn ah])):=ax.new h1;have mx:=sH.trans s3;obtain⟨Sd,Kx⟩:=hB.text _ OF;have iF:=sg _ OF;rw[qS]at Sd Kx;refine⟨_,rfl,b2,C,d2.dx,_,_,rfl,mx _ _ hB.bq.ins,T.cl,T.nT,gi,_,rfl,d2.t,.ref (d2.ta n),rfl,by
     have:=ei.k (k:=afz (n:Int)) (mx _ _ hB.bq.ht);rw[hB.dt.get qF]at this;exact this,5,a1,d2.ta n,[(n:Int),(y.name:Int),(ah:Int)],jQ (aft B2 n).text,rfl,aj,NL.il (mx _ _ Kx),by show 3<=3;decide,by rw[afb];exact iF,fun H5 l5 wz ud s5=> ?_⟩
    rw[Ff]at ud;have mm:=s3.trans s5;obtain⟨as,ha,bY⟩:=(g.keep mm).len;refine⟨D,_,_,rfl,rfl,ha,by rw[afb,bY];exact b8 (by omega),_,rfl,_,n,cs++ [Change.newSense n y.name ah (aft B2 n).text],rfl,g.gZ hD mm (s3.free wz) ud as ha,by rw[afc];show _+1<=_;omega,?_⟩;rw[jY,afS]
  .have JG:n∈kk:=by simpa using q
   rw[afj (by simpa using JG)]at jY;exact⟨_,rfl,_,n,cs,rfl,g,by omega,jY⟩
 .rintro σ H' ⟨v7,ah,cs,rfl,g,Ab,Ac⟩;have Wh:y.senses.drop (y.senses.map vn).length=[]:=agt (by simp);rw[Wh]at Ac;have jY:uV B1 B2 ls kk y.name 0 y.senses=cs:=by rw[Ac];exact af7 _
  refine⟨_,rfl,k H' D V3 ?_ (s1.trans g.same)⟩;rw[jY];exact g.NC
abbrev pd(l:List Nat):List aln:=l.map fun n:Nat=>ag9 (n:Int)
theorem Ii:∀xs ys:List Nat,ahy (pd xs) (pd ys)=decide (xs=ys)
 | [],[]=>by simp[ahy]
 | [],_::_=>by simp[ahy]
 |_::_,[]=>by simp[ahy]
 |a::r,b::t=>by
  have ih:=Ii r t;show ahy (ag9 (a:Int)::pd r) (ag9 (b:Int)::pd t)=_;rw[ahy,amP,ih];by_cases h:a=b
  .subst h;by_cases h':r=t<;>simp[h']
  .have h2:((a:Int)==(b:Int))=false:=by simpa using(show¬(a:Int)=(b:Int) by omega)
   rw[h2];simp[h]
theorem AK:∀xs:List Nat,aiw (pd xs)=true/\ah4 (pd xs)=0
 | []=>⟨rfl,rfl⟩
 |a::r=>by
  have ih:=AK r;refine⟨?_,?_⟩
  .show aiw (ag9 (a:Int)::pd r)=true;rw[aiw,ih.1];rfl
  .show ah4 (ag9 (a:Int)::pd r)=0;rw[ah4,ih.2];rfl
theorem vt(xs:List Nat):ahN (.list (pd xs))=true:=by
 unfold ahN;rw[PyData.canLay0,(AK xs).1,anF,(AK xs).2];rfl
theorem AJ{K:afW}{H:Hp}:∀xs:List Nat,qc K H (xs.map vn) (pd xs)
 | []=> .nil
 |a::r=> .cons (.int _) (AJ r)
theorem zx(c:agZ)(as:List afd):(ags c).map V.int≠as.map V.ref:=fun e=>by
 have h:∃k r,ags c=k::r:=by
  cases c<;>exact⟨_,_,rfl⟩
 obtain⟨k,r,h⟩:=h;rw[h]at e;cases as with
 |nil=>simp at e
 |cons a as=>rw[agb,agb]at e;injection e with e1;cases e1
theorem fP.ext{l:afd}{cs ds:List agZ}(g:fP H D H1 cs)(hD:H D=none)(s:ax H1 H2)(as bs:List afd)(ha:H2 D=some (.ba (as.map V.ref)))(hb:H2 l=some (.ba (bs.map V.ref)))(hd:xU H2 bs ds):
  fP H D (aE H2 D (.ba (as.map V.ref++bs.map V.ref))) (cs++ds):=by
 obtain⟨JP,h1,h2,h3⟩:=g.ex;have e:JP=as:=by
  have:=(s _ _ h1).symm.trans ha;injection this with this
  injection this with this
  exact(alZ (fun x y h=>by injection h)).mp this
 subst e;have Y1:∀b∈bs,b≠D:=fun b hm z=>by
  obtain⟨i,hi⟩:=agc hm;have gV:i<ds.length:=by rw[<-hd.len];exact(aff.mp hi).1
  have:=hd.cG i b ds[i] hi (afk gV);have h4:H2 b=some (.ba ((ags ds[i]).map V.int)):=this;rw[z,ha]at h4;injection h4 with h4
  injection h4 with h4
  exact zx _ _ h4.symm
 refine⟨fun a o q=> ?_,JP++bs,?_,?_,fun a q=> ?_⟩
 .rw[ao (ak q hD)];exact s _ _ (g.same _ _ q)
 .rw[aj,afD]
 .have h4:xU H2 (JP++bs) (cs++ds):=(h2.same s).append hd;refine⟨h4.len,fun i a d q1 q2=> ?_⟩;have hm:=afq q1;have gh:a≠D:=by
   rcases afN.mp hm with z|z
   .exact h3 a z
   .exact Y1 a z
  show L2.aE _ D _ a=_;rw[ao gh];exact h4.cG i a d q1 q2
 .rcases afN.mp q with z|z
  .exact h3 a z
  .exact Y1 a z
inductive j7(C:afd)(cs:aga->aga->List Nat->List agZ)(vs:List V)(H:Hp)(Q:VK)(E:XK):Prop|m:∀(b1 b2 l:afd) (d1 d2:BA) (B1 B2:aga) (FZ:List afd) (N:Nat),vs=[.ref b1,.ref b2,.ref l]->NL H l (bg B1 B2)->aV C H b1 d1 B1 FZ N->aV C H b2 d2 B2 FZ N->N<10000->(∀e∈B2.senses,e.text.length<=10000000)->(∀(H':Hp) (D:afd),H D=none->Qa H' D (cs B1 B2 (bg B1 B2))->ax H H'->Q (.ref D) H')->j7 C cs vs H Q E
abbrev Yt:afR:=dC 71
theorem PL:au ["first","second","left","found","entry"] ["first","second","left"] (ai Yt):=cF
theorem yw(a b:aga)(ls:List Nat)(i:Nat):(((b.entries.take i).flatMap fun y=>uV a b ls (kept (entryAt a y.name).senses y.senses) y.name 0 y.senses)).length<=(afF b).length:=by
 have h:∀m:List afo,(m.flatMap fun y=>uV a b ls (kept (entryAt a y.name).senses y.senses) y.name 0 y.senses).length<=(m.flatMap fun y=>y.senses).length:=by
  intro m
  induction m with
  |nil=>exact afp _
  |cons y m ih=>
   rw[agi,agi,afc,afc];have:=B6 a b ls (kept (entryAt a y.name).senses y.senses) y.name y.senses 0;omega
 exact afw (h _) (lX (fun x:afo=>x.senses) b.entries i)
theorem SI{fi:afd}{fdi:afE}(F:b9 K "senses_placed" "senses_placed" Yt f fd)(T:mC K mg C)(cI:jw P w K mg base 3 "senses_placed_in" ["entry","first","second","left"] (Jg C) fi fdi):
  aT P w K mg base bX 4 f fd ["first","second","left"] (j7 C fun a b ls=>b.entries.flatMap fun y=>uV a b ls (kept (entryAt a y.name).senses y.senses) y.name 0 y.senses):=by
 refine cz F PL fun _ _ _ _ H _ Q E hr h=> ?_
 obtain⟨b1,b2,l,d1,d2,B1,B2,FZ,N,rfl,hl,hA,hB,hN,sg,k⟩:=h;refine⟨_,ae (cY 3 PL.nd (cp ab))
  (ae (cM af3 rfl (bO (az (pv 1))) (hJ 4 PL.nd)
   (af (aI (cy afs af2 af9 dJ (pv 3) (aa (bh cI.ok hr rfl cI.mg cI.kp cI.bi .nil bw (aa (pv 4) (aa (pv 0) (aa (pv 1) (aa (pv 2) ab))))) ab)))))
  (af (aq (pv 3)))),?_⟩
 refine⟨afH _,fun D hD=> ?_⟩;have g0:=fP.start hD;refine⟨_,rfl,b2,C,d2.dx,_,_,rfl,g0.same _ _ hB.bq.ins,T.cl,T.nO,bP,d2.o,rfl,⟨_,aJ.of (g0.same _ _ hB.bq.ord)⟩,cV (K:=K) (a:=d2.o) (xs:=(names B2).map vn)
  (fun i σ H'=>∃(v4:Option V),σ=[some (.ref b1),some (.ref b2),some (.ref l),some (.ref D),v4]/\fP H D H' ((B2.entries.take i).flatMap fun y=>uV B1 B2 (bg B1 B2) (kept (entryAt B1 y.name).senses y.senses) y.name 0 y.senses))
  ⟨none,rfl,g0⟩ (fun i σ H' _ ⟨_,_,g⟩=>aJ.of (g.same _ _ hB.bq.ord)) ?_ ?_⟩
 .rintro i z σ H' hi ⟨v4,rfl,g⟩;obtain⟨e,he,rfl⟩:=eg hi;obtain⟨x,hx,rfl⟩:=entry_at he;have px:x∈B2.entries:=afq hx;obtain⟨QU,DM,_⟩:=g.len;refine⟨_,rfl,.inl ⟨rfl,_,aJ.of DM⟩,_,rfl,_,rfl,_,rfl,_,rfl,x,b1,b2,l,d1,d2,bg B1 B2,B1,B2,FZ,N,rfl,px,g.same _ _ hl,hA.same g.same,hB.same g.same,hN,sg,fun H5 l5 wz RP s5=> ?_⟩;obtain⟨bs,DO,RV⟩:=RP;obtain⟨as,ha,bY⟩:=(g.keep s5).len;have hsz:=yw B1 B2 (bg B1 B2) (i+1);rw[iX (fun y:afo=>uV B1 B2 (bg B1 B2) (kept (entryAt B1 y.name).senses y.senses) y.name 0 y.senses) hx,afc]at hsz;have Zl:=hB.ls;refine⟨D,l5,_,_,rfl,rfl,ha,DO,?_,_,rfl,?_⟩
  .rw[afb,afb,bY,RV.len];exact agE (b8 (by omega))
  .rw[iX (fun y:afo=>uV B1 B2 (bg B1 B2) (kept (entryAt B1 y.name).senses y.senses) y.name 0 y.senses) hx];exact g.ext hD s5 as bs ha DO RV
 .rintro σ H' ⟨v4,rfl,g⟩;have:B2.entries.take ((names B2).map vn).length=B2.entries:=agw (by simp[names]);rw[this]at g;exact⟨_,rfl,k H' D hD g.NC g.same⟩
def kL(a b:aga)(ls:List Nat)(l:List Nat):List agZ:=(l.filter fun n=>ls.contains n&&((aft a n).text !=(aft b n).text)).map fun n=> .say n (aft b n).text
def qj(a b:aga)(ls:List Nat)(l:List Nat):List agZ:=(l.filter fun n=>(aft b n).points !=(if ls.contains n=true then(aft a n).points else 0)).map fun n=> .point n (aft b n).points
theorem rJ(a b:aga)(ls l:List Nat)(i:Nat):(kL a b ls (l.take i)).length<=i:=by
 unfold kL;rw[afb];refine afw (af8 _ _) ?_;rw[afY];omega
theorem pF(a b:aga)(ls l:List Nat)(i:Nat):(qj a b ls (l.take i)).length<=i:=by
 unfold qj;rw[afb];refine afw (af8 _ _) ?_;rw[afY];omega
theorem x5(a b:aga)(ls:List Nat)(h:l[i]? =some n):kL a b ls (l.take (i+1))=kL a b ls (l.take i)++if(ls.contains n&&((aft a n).text !=(aft b n).text))=true then [.say n (aft b n).text]else []:=by
 unfold kL;rw[aS h,agl,afD,afU];split<;>rfl
theorem zZ(a b:aga)(ls:List Nat)(h:l[i]? =some n):qj a b ls (l.take (i+1))=qj a b ls (l.take i)++if((aft b n).points !=(if ls.contains n=true then(aft a n).points else 0))=true then [.point n (aft b n).points]else []:=by
 unfold qj;rw[aS h,agl,afD,afU];by_cases q:((aft b n).points !=(if ls.contains n=true then(aft a n).points else 0))=true
 .rw[afj q,afj q];rfl
 .rw[afe q,afe q];rfl
abbrev Yv:afR:=dC 72
theorem PM:au ["first","second","left","found","sense"] ["first","second","left"] (ai Yv):=cF
theorem SK{fs:afd}(F:b9 K "senses_said" "senses_said" Yv f fd)(T:mC K mg C)(X:Mp mg)(mS:zJ P w K mg base 1 C "senses" ["self"] (jO C) fs gg)(cC:jw P w K mg base 1 "change" ["kind","numbers","row"] iA fc fO):
  aT P w K mg base bX 2 f fd ["first","second","left"] (j7 C fun a b ls=>kL a b ls (afF b)):=by
 refine cz F PM fun _ _ _ _ H _ Q E hr h=> ?_
 obtain⟨b1,b2,l,d1,d2,B1,B2,FZ,N,rfl,hl,hA,hB,hN,sg,k⟩:=h;obtain⟨t7,k7⟩:=X.k7;refine⟨_,ae (cY 3 PM.nd (cp ab))
  (ae (cM af3 rfl (bO (lq (pv 1) T.cl mS.me mS.ok hr mS.bi .nil bw)) (hJ 4 PM.nd)
   (af (aZ (nj (aX jI (pv 4) (pv 2) (by with_unfolding_all rfl)) (j6 (aX (Ih hr.units) (bC (bZ hr) (az (pv 0)) (pv 4)) (bC (bZ hr) (az (pv 1)) (pv 4)) (bc _)))).pt
    (af (aI (cy afs age agj de (pv 3) (aa (bh cC.ok hr rfl cC.mg cC.kp cC.bi .nil bw (aa (cu (v:= .int 7) rfl k7 ⟨_,rfl⟩) (aa (cp (aa (pv 4) ab)) (aa (bC (bZ hr) (az (pv 1)) (pv 4)) ab)))) ab))))
    aC)))
  (af (aq (pv 3)))),?_⟩
 refine⟨afH _,fun D hD=> ?_⟩;have g0:=fP.start hD;have Ry:=hB.same g0.same;refine⟨_,rfl,b2,d2.dx,_,rfl,Ry.bq.ins,bF (by decide+kernel),b2,d2,B2,FZ,N,rfl,Ry,by omega,fun H1 sl qI GL s1=> ?_⟩;refine⟨sl,rfl,⟨_,aJ.of GL⟩,cV (K:=K) (a:=sl) (xs:=(afF B2).map vn)
  (fun i σ H'=>∃(v4:Option V),σ=[some (.ref b1),some (.ref b2),some (.ref l),some (.ref D),v4]/\NL H' sl (afF B2)/\fP H D H' (kL B1 B2 (bg B1 B2) ((afF B2).take i)))
  ⟨none,rfl,GL,g0.keep s1⟩ (fun i σ H' _ ⟨_,_,h,_⟩=>aJ.of h) ?_ ?_⟩
 .rintro i z σ H' hi ⟨v4,rfl,uq,g⟩;obtain⟨n,hn,rfl⟩:=eg hi;have uo:n∈afF B2:=afq hn;have qF:n∈aD B2:=(hB.wf.same n).mp uo;have gV:i<(afF B2).length:=(aff.mp hn).1;have Zl:=hB.ls;obtain⟨OF,qS⟩:=jn hB.wf qF;obtain⟨Sd,Kx⟩:=hB.text _ OF;have iF:=sg _ OF;rw[qS]at Sd Kx;have Kw:sl≠D:=fun q=>by
   have:=g0.len;obtain⟨as,ha,_⟩:=this;rw[q]at qI;rw[ha]at qI;cases qI
  have succ:=x5 B1 B2 (bg B1 B2) hn;refine⟨_,rfl,_,rfl,l,_,rfl,.inl (aJ.of (g.same _ _ hl)),rfl,g9 _,_,rfl,?_⟩;show if Fs (vn n) ((bg B1 B2).map vn)=true then _ else _
  rw[kQ];refine aW (fun q=> ?_) (fun q=> ?_)
  .have eX:n∈bg B1 B2:=afh q;have Uh:n∈aD B1:=eC.mp ((kZ hA.wf hB.wf).mp eX).1;obtain⟨WN,WO⟩:=jn hA.wf Uh;obtain⟨WQ,Se⟩:=hA.text _ WN;rw[WO]at WQ Se;refine⟨_,rfl,b1,C,d1.dx,_,_,rfl,g.same _ _ hA.bq.ins,T.cl,T.nT,gi,_,rfl,d1.t,.ref (d1.ta n),rfl,by
    have:=ei.k (k:=afz (n:Int)) (g.same _ _ hA.bq.ht);rw[hA.dt.get Uh]at this;exact this,_,rfl,b2,C,d2.dx,_,_,rfl,g.same _ _ hB.bq.ins,T.cl,T.nT,gi,_,rfl,d2.t,.ref (d2.ta n),rfl,by
    have:=ei.k (k:=afz (n:Int)) (g.same _ _ hB.bq.ht);rw[hB.dt.get qF]at this;exact this,.list (pd (aft B1 n).text),.list (pd (aft B2 n).text),.ba (aJ.of (g.same _ _ Se)) (AJ _),.ba (aJ.of (g.same _ _ Kx)) (AJ _),vt _,vt _,_,rfl,?_⟩
   rw[amP,Ii];obtain⟨QU,DM,_⟩:=g.len;have sf:(bg B1 B2).contains n=true:=by simpa using eX
   rw[sf,ajB]at succ;refine aW (fun q2=> ?_) (fun q2=> ?_)
   .have gh:¬(aft B1 n).text=(aft B2 n).text:=by simpa using q2
    rw[afj (by simpa using gh)]at succ;refine⟨_,rfl,.inl ⟨rfl,_,aJ.of DM⟩,_,rfl,by show 1<=sizeLine;decide,fun a1 h1=> ?_⟩;have s3:ax H' (aE H' a1 (.ba [vn n])):=ax.new h1;have mx:=g.same.trans s3;refine⟨_,rfl,b2,C,d2.dx,_,_,rfl,mx _ _ hB.bq.ins,T.cl,T.nT,gi,_,rfl,d2.t,.ref (d2.ta n),rfl,by
     have:=ei.k (k:=afz (n:Int)) (mx _ _ hB.bq.ht);rw[hB.dt.get qF]at this;exact this,7,a1,d2.ta n,[(n:Int)],jQ (aft B2 n).text,rfl,aj,NL.il (mx _ _ Kx),by show 1<=3;decide,by rw[afb];exact iF,fun H5 l5 wz ud s5=> ?_⟩
    rw[Jo]at ud;have mm:=s3.trans s5;obtain⟨as,ha,bY⟩:=(g.keep mm).len;have Ab:=rJ B1 B2 (bg B1 B2) (afF B2) i;refine⟨D,_,_,rfl,rfl,ha,by rw[afb,bY];exact b8 (by omega),_,rfl,?_,?_⟩
    .show L2.aE _ D _ sl=_;rw[ao Kw];exact mm _ _ uq
    .rw[succ];exact g.gZ hD mm (s3.free wz) ud as ha
   .have Ac:(aft B1 n).text=(aft B2 n).text:=by simpa using q2
    rw[afe (by simpa using Ac),af7]at succ;refine⟨_,rfl,uq,?_⟩;rw[succ];exact g
  .have eX:¬n∈bg B1 B2:=fun z=>q (afl z)
   have sf:(bg B1 B2).contains n=false:=by simpa using eX
   rw[sf,ai5,afe afP,af7]at succ;refine aW (fun q=>nomatch q) fun _=>⟨_,rfl,uq,?_⟩
   rw[succ];exact g
 .rintro σ H' ⟨v4,rfl,uq,g⟩;rw[afb,afT]at g;exact⟨_,rfl,k H' D hD g.NC g.same⟩
abbrev Yu:afR:=dC 73
theorem LW:au ["first","second","left","found","sense","target_by_now"] ["first","second","left"] (ai Yu):=cF
theorem SJ{fs:afd}(F:b9 K "senses_pointed" "senses_pointed" Yu f fd)(T:mC K mg C)(X:Mp mg)(mS:zJ P w K mg base 1 C "senses" ["self"] (jO C) fs gg)(cC:jw P w K mg base 1 "change" ["kind","numbers","row"] iA fc fO):
  aT P w K mg base bX 2 f fd ["first","second","left"] (j7 C fun a b ls=>qj a b ls (afF b)):=by
 refine cz F LW fun _ _ _ _ H _ Q E hr h=> ?_
 obtain⟨b1,b2,l,d1,d2,B1,B2,FZ,N,rfl,hl,hA,hB,hN,sg,k⟩:=h;obtain⟨t8,k8⟩:=X.k8;refine⟨_,ae (cY 3 LW.nd (cp ab))
  (ae (cM af3 rfl (bO (lq (pv 1) T.cl mS.me mS.ok hr mS.bi .nil bw)) (hJ 4 LW.nd)
   (ae (cY 5 LW.nd (Ik (aX jI (pv 4) (pv 2) (by with_unfolding_all rfl)) (bC (bZ hr) (az (pv 0)) (pv 4)) ag))
   (af (aZ (aX yY (bC (bZ hr) (az (pv 1)) (pv 4)) (pv 5) (bc _))
    (af (aI (cy afs age agj de (pv 3) (aa (bh cC.ok hr rfl cC.mg cC.kp cC.bi .nil bw (aa (cu (v:= .int 8) rfl k8 ⟨_,rfl⟩) (aa (cp (aa (pv 4) (aa (bC (bZ hr) (az (pv 1)) (pv 4)) ab))) (aa (cp ab) ab)))) ab))))
    aC))))
  (af (aq (pv 3)))),?_⟩
 refine⟨afH _,fun D hD=> ?_⟩;have g0:=fP.start hD;have Ry:=hB.same g0.same;refine⟨_,rfl,b2,d2.dx,_,rfl,Ry.bq.ins,bF (by decide+kernel),b2,d2,B2,FZ,N,rfl,Ry,by omega,fun H1 sl qI GL s1=> ?_⟩;refine⟨sl,rfl,⟨_,aJ.of GL⟩,cV (K:=K) (a:=sl) (xs:=(afF B2).map vn)
  (fun i σ H'=>∃(v4 v5:Option V),σ=[some (.ref b1),some (.ref b2),some (.ref l),some (.ref D),v4,v5]/\NL H' sl (afF B2)/\fP H D H' (qj B1 B2 (bg B1 B2) ((afF B2).take i)))
  ⟨none,none,rfl,GL,g0.keep s1⟩ (fun i σ H' _ ⟨_,_,_,h,_⟩=>aJ.of h) ?_ ?_⟩
 .rintro i z σ H' hi ⟨v4,v5,rfl,uq,g⟩;obtain⟨n,hn,rfl⟩:=eg hi;have uo:n∈afF B2:=afq hn;have qF:n∈aD B2:=(hB.wf.same n).mp uo;have gV:i<(afF B2).length:=(aff.mp hn).1;have Zl:=hB.ls;have Kw:sl≠D:=fun q=>by
   obtain⟨as,ha,_⟩:=g0.len;rw[q]at qI;rw[ha]at qI;cases qI
  have succ:=zZ B1 B2 (bg B1 B2) hn;have gB:=fun(H2:Hp) (s2:ax H H2)=>by
   have:=ei.k (k:=afz (n:Int)) (s2 _ _ hB.bq.hg);rw[hB.dg.get qF]at this;exact this
  refine⟨_,rfl,_,rfl,l,_,rfl,.inl (aJ.of (g.same _ _ hl)),rfl,g9 _,_,rfl,?_⟩;show if Fs (vn n) ((bg B1 B2).map vn)=true then _ else _
  rw[kQ];refine aW (fun q=> ?_) (fun q=> ?_)
  .have eX:n∈bg B1 B2:=afh q;have Uh:n∈aD B1:=eC.mp ((kZ hA.wf hB.wf).mp eX).1;have gA:=ei.k (k:=afz (n:Int)) (g.same _ _ hA.bq.hg);rw[hA.dg.get Uh]at gA;have sf:(bg B1 B2).contains n=true:=by simpa using eX
   rw[afj sf]at succ;refine⟨_,rfl,b1,C,d1.dx,_,_,rfl,g.same _ _ hA.bq.ins,T.cl,T.nG,dN,_,rfl,d1.g,_,rfl,gA,?_⟩;have Rp:=gB H' g.same;obtain⟨QU,DM,_⟩:=g.len;refine⟨_,rfl,b2,C,d2.dx,_,_,rfl,g.same _ _ hB.bq.ins,T.cl,T.nG,dN,_,rfl,d2.g,_,rfl,Rp,_,rfl,rfl,_,rfl,?_⟩;refine aW (fun q2=> ?_) (fun q2=> ?_)
   .have gh:¬(aft B2 n).points=(aft B1 n).points:=fun z=>by
     rw[z]at q2;simp at q2
    rw[afj (by simpa using gh)]at succ;refine⟨_,rfl,.inl ⟨rfl,_,aJ.of DM⟩,_,rfl,_,rfl,b2,C,d2.dx,_,_,rfl,g.same _ _ hB.bq.ins,T.cl,T.nG,dN,_,rfl,d2.g,_,rfl,Rp,by show 2<=sizeLine;decide,fun a1 h1=>⟨afH _,fun a2 h2=> ?_⟩⟩;have s3:ax H' (aE H' a1 (.ba [vn n,vn (aft B2 n).points])):=ax.new h1;have s4:=s3.trans (ax.new (o:= .ba []) h2);refine⟨8,a1,a2,[(n:Int),((aft B2 n).points:Int)],[],rfl,by show L2.aE _ a2 _ a1=_;rw[ao (ak aj h2)];exact aj,aj,by show 2<=3;decide,afH _,fun H5 l5 wz ud s5=> ?_⟩;have mm:=s4.trans s5;obtain⟨as,ha,bY⟩:=(g.keep mm).len;have hc:IL H5 l5 (ags (.point n (aft B2 n).points)):=ud;have Ab:=pF B1 B2 (bg B1 B2) (afF B2) i;refine⟨D,_,_,rfl,rfl,ha,by rw[afb,bY];exact b8 (by omega),_,_,rfl,?_,?_⟩
    .show L2.aE _ D _ sl=_;rw[ao Kw];exact mm _ _ uq
    .rw[succ];exact g.gZ hD mm (s4.free wz) hc as ha
   .have Ac:(aft B2 n).points=(aft B1 n).points:=agA fun z=>q2 (by
     apply ami _|>.mpr
     exact agd fun w=>z (ant (V.int.inj w)))
    rw[afe (by simpa using Ac),af7]at succ;refine⟨_,_,rfl,uq,?_⟩;rw[succ];exact g
  .have eX:¬n∈bg B1 B2:=fun z=>q (afl z)
   have sf:¬(bg B1 B2).contains n=true:=by simpa using eX
   rw[afe sf]at succ;have Rp:=gB H' g.same;obtain⟨QU,DM,_⟩:=g.len;refine⟨_,rfl,b2,C,d2.dx,_,_,rfl,g.same _ _ hB.bq.ins,T.cl,T.nG,dN,_,rfl,d2.g,_,rfl,Rp,_,rfl,rfl,_,rfl,?_⟩;refine aW (fun q2=> ?_) (fun q2=> ?_)
   .have gh:¬(aft B2 n).points=0:=fun z=>by
     rw[z]at q2;simp at q2
    rw[afj (by simpa using gh)]at succ;refine⟨_,rfl,.inl ⟨rfl,_,aJ.of DM⟩,_,rfl,_,rfl,b2,C,d2.dx,_,_,rfl,g.same _ _ hB.bq.ins,T.cl,T.nG,dN,_,rfl,d2.g,_,rfl,Rp,by show 2<=sizeLine;decide,fun a1 h1=>⟨afH _,fun a2 h2=> ?_⟩⟩;have s3:ax H' (aE H' a1 (.ba [vn n,vn (aft B2 n).points])):=ax.new h1;have s4:=s3.trans (ax.new (o:= .ba []) h2);refine⟨8,a1,a2,[(n:Int),((aft B2 n).points:Int)],[],rfl,by show L2.aE _ a2 _ a1=_;rw[ao (ak aj h2)];exact aj,aj,by show 2<=3;decide,afH _,fun H5 l5 wz ud s5=> ?_⟩;have mm:=s4.trans s5;obtain⟨as,ha,bY⟩:=(g.keep mm).len;have hc:IL H5 l5 (ags (.point n (aft B2 n).points)):=ud;have Ab:=pF B1 B2 (bg B1 B2) (afF B2) i;refine⟨D,_,_,rfl,rfl,ha,by rw[afb,bY];exact b8 (by omega),_,_,rfl,?_,?_⟩
    .show L2.aE _ D _ sl=_;rw[ao Kw];exact mm _ _ uq
    .rw[succ];exact g.gZ hD mm (s4.free wz) hc as ha
   .have Ac:(aft B2 n).points=0:=agA fun z=>q2 (by
     apply ami _|>.mpr
     exact agd fun w=>z (ant (V.int.inj w)))
    rw[afe (by simpa using Ac),af7]at succ;refine⟨_,_,rfl,uq,?_⟩;rw[succ];exact g
 .rintro σ H' ⟨v4,v5,rfl,uq,g⟩;rw[afb,afT]at g;exact⟨_,rfl,k H' D hD g.NC g.same⟩
theorem fP.of{cs:List agZ}(s:ax H H1)(h:Qa H1 D cs):fP H D H1 cs:=by
 obtain⟨as,ha,hc⟩:=h;refine⟨s,as,ha,hc,fun b hm z=> ?_⟩;obtain⟨i,hi⟩:=agc hm;have gV:i<cs.length:=by rw[<-hc.len];exact(aff.mp hi).1
 have h4:H1 b=some (.ba ((ags cs[i]).map V.int)):=hc.cG i b cs[i] hi (afk gV);rw[z,ha]at h4;injection h4 with h4
 injection h4 with h4
 exact zx _ _ h4.symm
abbrev Yr:afR:=dC 74
theorem Px:au ["first","second","left","found"] ["first","second"] (ai Yr):=cF
theorem SE{f1 f2 f3 f4 f5 f6 f7:afd}{e1 e2 e3 e4 e5 e6 e7:afE}(F:b9 K "changes_between" "changes_between" Yr f fd)
  (c1:jw P w K mg base 2 "senses_left" ["first","second"] (AZ C) f1 e1)
  (c2:jw P w K mg base 2 "entries_dropped" ["first","second"] (tO C fun a b=>(a.entries.filter fun x=> !hasEntry b x.name).map fun x=>ahw x.name) f2 e2)
  (c3:jw P w K mg base 3 "entries_placed" ["first","second"] (tO C fun a b=>B0 a b (kept (agu a) (agu b)) 0 b.entries) f3 e3)
  (c4:jw P w K mg base 2 "senses_dropped" ["left","second"] (PR C) f4 e4)
  (c5:jw P w K mg base 4 "senses_placed" ["first","second","left"] (j7 C fun a b ls=>b.entries.flatMap fun y=>uV a b ls (kept (entryAt a y.name).senses y.senses) y.name 0 y.senses) f5 e5)
  (c6:jw P w K mg base 2 "senses_said" ["first","second","left"] (j7 C fun a b ls=>kL a b ls (afF b)) f6 e6)
  (c7:jw P w K mg base 2 "senses_pointed" ["first","second","left"] (j7 C fun a b ls=>qj a b ls (afF b)) f7 e7):
  aT P w K mg base bX 5 f fd ["first","second"] (tO C changes):=by
 refine cz F Px fun _ _ _ _ H _ Q E hr h=> ?_
 obtain⟨b1,b2,d1,d2,B1,B2,FZ,N,rfl,hA,hB,hN,DT,sg,k⟩:=h;have hr3:fF 3 _:=hr.fJ (by decide);have Ku:fF 2 _:=hr.fJ (by decide);refine⟨_,ae (cY 2 Px.nd (bh c1.ok Ku rfl c1.mg c1.kp c1.bi .nil bw (aa (pv 0) (aa (pv 1) ab))))
  (ae (cY 3 Px.nd (bh c2.ok Ku rfl c2.mg c2.kp c2.bi .nil bw (aa (pv 0) (aa (pv 1) ab))))
  (ae (aI (cy afs af2 af9 dJ (pv 3) (aa (bh c3.ok hr3 rfl c3.mg c3.kp c3.bi .nil bw (aa (pv 0) (aa (pv 1) ab))) ab)))
  (ae (aI (cy afs af2 af9 dJ (pv 3) (aa (bh c4.ok Ku rfl c4.mg c4.kp c4.bi .nil bw (aa (pv 2) (aa (pv 1) ab))) ab)))
  (ae (aI (cy afs af2 af9 dJ (pv 3) (aa (bh c5.ok hr rfl c5.mg c5.kp c5.bi .nil bw (aa (pv 0) (aa (pv 1) (aa (pv 2) ab)))) ab)))
  (ae (aI (cy afs af2 af9 dJ (pv 3) (aa (bh c6.ok Ku rfl c6.mg c6.kp c6.bi .nil bw (aa (pv 0) (aa (pv 1) (aa (pv 2) ab)))) ab)))
  (ae (aI (cy afs af2 af9 dJ (pv 3) (aa (bh c7.ok Ku rfl c7.mg c7.kp c7.bi .nil bw (aa (pv 0) (aa (pv 1) (aa (pv 2) ab)))) ab)))
  (af (aq (pv 3))))))))),?_⟩
 have YW:(afF B1).length<=N:=hA.ls;have YX:(afF B2).length<=N:=hB.ls;have hEA:B1.entries.length<=N:=by have:=hA.le;rwa [names,afb]at this
 have hEB:B2.entries.length<=N:=by have:=hB.le;rwa [names,afb]at this
 have M7:=G9 B1 B2 hA.wf;have l1:((B1.entries.filter fun x=> !hasEntry B2 x.name).map fun x=>ahw x.name).length<=N:=by
  rw[afb];exact afw (af8 _ _) hEA
 have l2:=B4 B1 B2 (kept (agu B1) (agu B2)) B2.entries 0;have l3:(((bg B1 B2).filter fun n=> !hasSense B2 n).map ajx).length<=N:=by
  rw[afb];exact afw (af8 _ _) (by omega)
 have l4:=yw B1 B2 (bg B1 B2) B2.entries.length;rw[afT]at l4;have l5:=rJ B1 B2 (bg B1 B2) (afF B2) (afF B2).length;rw[afT]at l5;have l6:=pF B1 B2 (bg B1 B2) (afF B2) (afF B2).length;rw[afT]at l6;refine⟨_,rfl,_,rfl,b1,b2,d1,d2,B1,B2,FZ,N,rfl,hA,hB,hN,fun H1 l hl Na s1=> ?_⟩;refine⟨_,rfl,_,rfl,b1,b2,d1,d2,B1,B2,FZ,N,rfl,hA.same s1,hB.same s1,hN,DT,sg,fun H2 D hD Qr s2=> ?_⟩;have g2:fP H1 D H2 _:=fP.of s2 Qr;obtain⟨as3,ha3,hz3⟩:=g2.len;refine⟨_,rfl,.inl ⟨rfl,_,aJ.of ha3⟩,_,rfl,_,rfl,b1,b2,d1,d2,B1,B2,FZ,N,rfl,(hA.same s1).same g2.same,(hB.same s1).same g2.same,hN,DT,sg,fun J3 m3 _ RO t3=> ?_⟩;obtain⟨bs3,RJ,Y4⟩:=RO;obtain⟨cs3,Zc,hy3⟩:=(g2.keep t3).len;refine⟨D,m3,_,_,rfl,rfl,Zc,RJ,(by
  rw[afb,afb,hy3,Y4.len];exact agE (b8 (by first|omega|(simp only[afc];omega)))),?_⟩
 have g3:=g2.ext hD t3 cs3 bs3 Zc RJ Y4;obtain⟨as4,ha4,hz4⟩:=g3.len;refine⟨_,rfl,.inl ⟨rfl,_,aJ.of ha4⟩,_,rfl,_,rfl,l,b2,d2,bg B1 B2,B2,FZ,N,rfl,g3.same _ _ Na,by omega,(hB.same s1).same g3.same,hN,fun J4 m4 _ Kl t4=> ?_⟩;obtain⟨bs4,MZ,Y5⟩:=Kl;obtain⟨cs4,Zd,hy4⟩:=(g3.keep t4).len;refine⟨D,m4,_,_,rfl,rfl,Zd,MZ,(by
  rw[afb,afb,hy4,Y5.len];exact agE (b8 (by first|omega|(simp only[afc];omega)))),?_⟩
 have g4:=g3.ext hD t4 cs4 bs4 Zd MZ Y5;obtain⟨as5,ha5,hz5⟩:=g4.len;refine⟨_,rfl,.inl ⟨rfl,_,aJ.of ha5⟩,_,rfl,_,rfl,_,rfl,b1,b2,l,d1,d2,B1,B2,FZ,N,rfl,g4.same _ _ Na,(hA.same s1).same g4.same,(hB.same s1).same g4.same,hN,sg,fun J5 m5 _ RP t5=> ?_⟩;obtain⟨bs5,DO,RV⟩:=RP;obtain⟨cs5,Ze,hy5⟩:=(g4.keep t5).len;refine⟨D,m5,_,_,rfl,rfl,Ze,DO,(by
  rw[afb,afb,hy5,RV.len];exact agE (b8 (by first|omega|(simp only[afc];omega)))),?_⟩
 have g5:=g4.ext hD t5 cs5 bs5 Ze DO RV;obtain⟨as6,ha6,hz6⟩:=g5.len;refine⟨_,rfl,.inl ⟨rfl,_,aJ.of ha6⟩,_,rfl,_,rfl,_,rfl,b1,b2,l,d1,d2,B1,B2,FZ,N,rfl,g5.same _ _ Na,(hA.same s1).same g5.same,(hB.same s1).same g5.same,hN,sg,fun J6 m6 _ RQ t6=> ?_⟩;obtain⟨bs6,YZ,Y6⟩:=RQ;obtain⟨cs6,Zf,hy6⟩:=(g5.keep t6).len;refine⟨D,m6,_,_,rfl,rfl,Zf,YZ,(by
  rw[afb,afb,hy6,Y6.len];exact agE (b8 (by first|omega|(simp only[afc];omega)))),?_⟩
 have g6:=g5.ext hD t6 cs6 bs6 Zf YZ Y6;obtain⟨as7,ha7,hz7⟩:=g6.len;refine⟨_,rfl,.inl ⟨rfl,_,aJ.of ha7⟩,_,rfl,_,rfl,_,rfl,b1,b2,l,d1,d2,B1,B2,FZ,N,rfl,g6.same _ _ Na,(hA.same s1).same g6.same,(hB.same s1).same g6.same,hN,sg,fun J7 m7 _ hc7 t7=> ?_⟩;obtain⟨bs7,Y0,Y7⟩:=hc7;obtain⟨cs7,Zg,hy7⟩:=(g6.keep t7).len;refine⟨D,m7,_,_,rfl,rfl,Zg,Y0,(by
  rw[afb,afb,hy7,Y7.len];exact agE (b8 (by first|omega|(simp only[afc];omega)))),?_⟩
 have g7:=g6.ext hD t7 cs7 bs7 Zg Y0 Y7;refine⟨_,rfl,k _ D (s1.free hD) ?_ (s1.trans g7.same)⟩;rw[Oa hA.wf hB.wf];exact g7.NC
structure rD(K:afW)(R:afd)(rs:List afd):Prop where
 cG:ko K R (rs.map V.ref)
 len:rs.length=25
 of:∀(p:Nat) (r:afd),rs[p]? =some r->∃qs:List afd,ko K r (qs.map V.ref)/\qs.length=(rg p).length/\∀(j:Nat) (q:afd) (x:Nat×Nat),qs[j]? =some q->(rg p)[j]? =some x->ko K q [vn x.1,vn x.2]
structure i0(H:Hp)(c:afd)(p:Nat)(ns r:List Int):Prop where
 lt:p<25
 len:ns.length=(rg p).length
 no:fG p=false->r=[]
 cG:IL H c ((p:Int)::(ns++df p r))
 Gz:ns.length+r.length<=20000
theorem i0.same(h:i0 H c p ns r)(s:ax H H'):i0 H' c p ns r:=⟨h.lt,h.len,h.no,s _ _ h.cG,h.Gz⟩
theorem i0.VA(h:i0 H c p ns r):iq ((p:Int)::(ns++df p r)) (some ((1:Nat):Int)) (some (((1+(rg p).length:Nat)):Int))=ns:=by
 rw[mJ,aiE,alK,aiK,ahX,<-h.len,aio];rfl
theorem i0.VB(h:i0 H c p ns r):iq ((p:Int)::(ns++df p r)) (some (((2+(rg p).length:Nat)):Int)) none=r:=by
 rw[rK,show 2+(rg p).length=ns.length+1+1 by rw[h.len];omega,aiK,akL,agt (by omega),agV,ag8];unfold df;cases q:fG p with
 |true=>rw[afj rfl];rfl
 |false=>rw[afe (by decide),h.no q];rfl
theorem rD.get(h:rD K R rs)(hp:p<25):∃(r:afd) (qs:List afd),rs[p]? =some r/\ko K r (qs.map V.ref)/\qs.length=(rg p).length/\∀(j:Nat) (q:afd) (x:Nat×Nat),qs[j]? =some q->(rg p)[j]? =some x->ko K q [vn x.1,vn x.2]:=by
 have e:=afk (l:=rs) (i:=p) (by rw[h.len];exact hp);obtain⟨qs,h1,h2,h3⟩:=h.of p _ e;exact⟨_,qs,e,h1,h2,h3⟩
theorem QV{r:afd}(e:rs[i]? =some r)(hz:z=(i:Int):=by rfl):pB (rs.map V.ref) z=some (V.ref r):=gE hz (by rw[afy,e];rfl)
inductive o7(vs:List V)(H:Hp)(Q:VK)(E:XK):Prop|m:∀(c:afd) (p:Nat) (ns r:List Int),vs=[.ref c]->i0 H c p ns r->(∀(H':Hp) (l:afd),H l=none->ax H H'->IL H' l ns->Q (.ref l) H')->o7 vs H Q E
inductive rq(vs:List V)(H:Hp)(Q:VK)(E:XK):Prop|m:∀(c:afd) (p:Nat) (ns r:List Int),vs=[.ref c]->i0 H c p ns r->(∀(H':Hp) (l:afd),H l=none->ax H H'->IL H' l r->Q (.ref l) H')->rq vs H Q E
inductive nv(t:Nat->List Int->List Int->Bool)(vs:List V)(H:Hp)(Q:VK)(E:XK):Prop|m:∀(c:afd) (p:Nat) (ns r:List Int),vs=[.ref c]->i0 H c p ns r->(∀H',ax H H'->Q (.bl (t p ns r)) H')->nv t vs H Q E
inductive pT(K:afW)(vs:List V)(H:Hp)(Q:VK)(E:XK):Prop|m:∀(c:afd) (l:List Int) (st p:Nat) (ns r t:List Int),vs=[.ref c,vn st]->aJ K H c (l.map V.int)->jT (l.drop st) p ns r t->Q (vn (st+(1+ns.length+(df p r).length))) H->pT K vs H Q E
abbrev By:afR:=dC 32
theorem IT:au ["row"] ["row"] (ai By):=cF
theorem Et(F:b9 K "is_word" "is_word" By f fd)(c:Ca P w K mg base 1 "is_row" ["row","shortest","longest","least","greatest"] (o6 K)):aT P w K mg base bX 2 f fd ["row"] (JK K fun r=>dG r 1 12 97 122):=by
 refine cz F IT fun _ _ _ _ H _ Q E hr h=> ?_
 obtain⟨a,r,rfl,hl,hz,k⟩:=h;exact⟨_,af (aq (cn c hr rfl (aa (pv 0) (aa ag (aa ag (aa ag (aa ag ab))))))),_,rfl,a,r,1,12,97,122,rfl,hl,hz,k⟩
abbrev Bx:afR:=dC 33
theorem IS:au ["row"] ["row"] (ai Bx):=cF
theorem Es(F:b9 K "is_text" "is_text" Bx f fd)(c:Ca P w K mg base 1 "is_row" ["row","shortest","longest","least","greatest"] (o6 K)):aT P w K mg base bX 2 f fd ["row"] (JK K fun r=>dG r 0 30 32 126):=by
 refine cz F IS fun _ _ _ _ H _ Q E hr h=> ?_
 obtain⟨a,r,rfl,hl,hz,k⟩:=h;exact⟨_,af (aq (cn c hr rfl (aa (pv 0) (aa ag (aa ag (aa ag (aa ag ab))))))),_,rfl,a,r,0,30,32,126,rfl,hl,hz,k⟩
abbrev yf:afR:=dC 34
theorem EW:au ["row"] ["row"] (ai yf):=cF
theorem Ax(F:b9 K "is_print" "is_print" yf f fd)(c:Ca P w K mg base 1 "is_row" ["row","shortest","longest","least","greatest"] (o6 K)):aT P w K mg base bX 2 f fd ["row"] (JK K fun r=>dG r 0 3000 0 255):=by
 refine cz F EW fun _ _ _ _ H _ Q E hr h=> ?_
 obtain⟨a,r,rfl,hl,hz,k⟩:=h;exact⟨_,af (aq (cn c hr rfl (aa (pv 0) (aa ag (aa ag (aa ag (aa ag ab))))))),_,rfl,a,r,0,3000,0,255,rfl,hl,hz,k⟩
abbrev F6:afR:=dC 35
theorem LK:au ["row"] ["row"] (ai F6):=cF
theorem HK(F:b9 K "may_be_changes" "may_be_changes" F6 f fd)(G:lN mg):aT P w K mg base bX 2 f fd ["row"] (JK K fun r=>decide (r.length<=3000)):=by
 refine cz F LK fun _ _ _ _ H _ Q E hr h=> ?_
 obtain⟨a,r,rfl,hl,hz,k⟩:=h;refine⟨_,af (aq (fM gT (aN ay rfl G.len agq (aa (pv 0) ab)) ag (bc _))),_,rfl,a,_,rfl,.inl hl,_,_,rfl,rfl,qb Q ?_ (k H (ax.refl H))⟩;rw[afb];exact agB.mpr ⟨fun q=>by omega,fun q=>by omega⟩
abbrev BB:afR:=dC 38
theorem IW:au ["call"] ["call"] (ai BB):=cF
theorem Ew(F:b9 K "numbers_of" "numbers_of" BB f fd)(G:lN mg)(mR:mg "RANGES"=some (.ref R))(hR:rD K R rs):aT P w K mg base bX 1 f fd ["call"] o7:=by
 refine cz F IW fun _ _ _ _ H _ Q E hr h=> ?_
 obtain⟨c,p,ns,r,rfl,hc,k⟩:=h;refine⟨_,af (aq (dq mn (pv 0) (cv ag) (cv (bx eh ag (aN ay rfl G.len agq (aa (aG eJ (cu (v:= .ref R) rfl mR rfl) (aG aA (pv 0) ag)) ab)))))),?_⟩;obtain⟨r0,qs,h1,h2,h3,_⟩:=hR.get hc.lt;refine⟨_,rfl,_,rfl,_,rfl,c,_,_,.int (p:Int),rfl,rfl,aJ.of hc.cG,gE (j:=0) rfl rfl,R,_,_,.ref r0,rfl,rfl,.inr hR.cG,QV h1,r0,_,rfl,.inr (.inr h2),_,_,rfl,rfl,_,rfl,c,_,rfl,aJ.of hc.cG,fun H' l nl s1 h=>k H' l nl s1 ?_⟩;rw[afb,h3]at h;have e:=hc.VA;rw[show(((1+(rg p).length:Nat)):Int)=1+((rg p).length:Nat) by omega]at e;rw[show iq ((p:Int)::(ns++df p r)) (some 1) (some (1+((rg p).length:Nat)))=ns from e]at h;exact h
abbrev Gh:afR:=dC 39
theorem LU:au ["call"] ["call"] (ai Gh):=cF
theorem HW(F:b9 K "row_of" "row_of" Gh f fd)(G:lN mg)(mR:mg "RANGES"=some (.ref R))(hR:rD K R rs):aT P w K mg base bX 1 f fd ["call"] rq:=by
 refine cz F LU fun _ _ _ _ H _ Q E hr h=> ?_
 obtain⟨c,p,ns,r,rfl,hc,k⟩:=h;refine⟨_,af (aq (dq mn (pv 0) (cv (bx eh ag (aN ay rfl G.len agq (aa (aG eJ (cu (v:= .ref R) rfl mR rfl) (aG aA (pv 0) ag)) ab)))) hX)),?_⟩;obtain⟨r0,qs,h1,h2,h3,_⟩:=hR.get hc.lt;refine⟨_,rfl,_,rfl,c,_,_,.int (p:Int),rfl,rfl,aJ.of hc.cG,gE (j:=0) rfl rfl,R,_,_,.ref r0,rfl,rfl,.inr hR.cG,QV h1,r0,_,rfl,.inr (.inr h2),_,_,rfl,rfl,_,rfl,c,_,rfl,aJ.of hc.cG,fun H' l nl s1 h=>k H' l nl s1 ?_⟩;rw[afb,h3]at h;have e:=hc.VB;rw[show(((2+(rg p).length:Nat)):Int)=2+((rg p).length:Nat) by omega]at e;rw[show iq ((p:Int)::(ns++df p r)) (some (2+((rg p).length:Nat))) none=r from e]at h;exact h
theorem dU{p:Prop} [Decidable p](c:(!decide p)=true):¬p:=fun z=>by rw[afl z]at c;cases c
theorem cX{p:Prop} [Decidable p](c:¬(!decide p)=true):p:=by
 by_cases z:p
 .exact z
 .exact absurd (by rw[agd z];rfl) c
abbrev FU:afR:=dC 15
theorem CY:au ["house","numbers","word","behind"] ["house","numbers","word"] (ai FU):=cF
theorem Hw(F:b9 K "entry" "entry" FU f fd)(L:jr P w K mg base CB CH):aT P w K mg base bX 4 f fd ["house","numbers","word"] (gQ CB CH 0):=by
 refine cz F CY fun _ _ _ _ H _ Q E hr h=> ?_
 obtain⟨h,nl,rl,D,S,FZ,x,rfl,hc,ok,W,fn,fr,hn,gJ,_,_,k⟩:=h;obtain⟨a,wd,rfl⟩:=fm hc;refine⟨_,ae (cY 3 CY.nd (aG aA (pv 1) ag))
  (ae (aZ (bu (bf (cn L.place hr rfl (aa (az (az (pv 0))) (aa (pv 3) ab))))) (af (aq (fN (aa (gY rfl L.v.Ux) ab)))) aC)
  (ae (aZ (bf (jK (pv 0) L.h.cl L.Ss hr)) (af (aq (fN (aa (gY rfl L.v.full) ab)))) aC)
  (ae (vw (pv 0) ag GR)
  (ae (aI (bR (az (pv 0)) L.b.cl L.Np hr (aa (az (pv 0)) (aa (pv 3) (aa (pv 2) ab)))))
  (af (aq (fN (aa ag (aa (bR (pv 0) L.h.cl L.sE hr (aa ag (aa (pv 1) (aa (pv 2) ab)))) (aa (az (pv 0)) ab)))))))))),?_⟩
 have nw:=W.w.now;have hz:=W.st.len;refine⟨_,rfl,nV (i:=0) hn rfl ?_⟩;refine⟨_,rfl,h,CH,D.dx,_,_,rfl,W.w.ins,L.h.cl,L.h.nN,dP,D.nw,CB,D.dn.dx,_,_,rfl,nw.bq.ins,L.b.cl,L.b.nO,bP,_,rfl,D.dn.o,a,_,rfl,aJ.of nw.bq.ord,_,rfl,aW (fun c=> ?_) (fun c=> ?_)⟩
 .have c':¬(a=0\/a∈names (agC S.log)):=dU c;exact⟨jv,fun H1 l n1 s1 h1=>aO W k (cw ((ua S a wd).trans (afj c'))) n1 s1 h1⟩
 have c':a=0\/a∈names (agC S.log):=cX c;refine⟨_,rfl,h,D.dx,_,rfl,W.w.ins,cj (e9 _ (by simp)),h,D,_,_,_,_,_,_,FZ,_,rfl,W.w,_,rfl,aW (fun c2=> ?_) (fun c2=> ?_)⟩
 .have d':=afh c2;exact⟨jv,fun H1 l n1 s1 h1=>aO W k (cw ((ua S a wd).trans ((afe (fun z=>z c')).trans (afj d')))) n1 s1 h1⟩
 have d':¬(20<=(agD S.log).2.1\/200<=S.log.length):=fun z=>c2 (afl z)
 have hw:ai2 S (.entry a wd)=none:=(ua S a wd).trans ((afe (fun z=>z c')).trans (afe d'));refine⟨_,rfl,h,CH,D.dx,_,_,rfl,W.w.ins,L.h.cl,L.h.nM,yE,_,_,rfl,rfl,D.dx,_,W.w.ins,by show 6<1000;decide,?_⟩;have W1:=W.w.count ((agD S.log).2.1+1) (agD S.log).2.2;have k1:Kp (je h D S) H (aE H h (.ins CH D.dx (Ah D.nw D.lg D.ed D.ln ((agD S.log).2.1+1) (agD S.log).2.2))):=Kp.gZ (af0 _ (by simp));have Cf:NL _ rl wd:=gD (k1 _ _ gJ (W.T5 rl fr));have Na:=k1 _ _ hn (W.T5 nl fn);refine⟨_,rfl,h,CH,D.dx,_,_,rfl,W1.ins,L.h.cl,L.h.nN,dP,D.nw,D.dn.dx,_,rfl,W1.now.bq.ins,bF (by decide+kernel),_,rfl,h,CH,D.dx,_,_,rfl,W1.ins,L.h.cl,L.h.nM,yE,_,rfl,_,rfl,D.nw,D.dn,_,FZ,_,(agD S.log).2.1+1,a,rl,wd,rfl,W1.now,by omega,fun z=> ?_,aia _,fun z=>c'.resolve_left z,fr,Cf,fun H2 d2 lY fA jX=> ?_⟩
 .have:=(Nv S.log).1 _ z;omega
 have W2:=W1.act lY fA jX (ahz _);have rZ:∀c∈FZ,c∉bS D.nw D.dn (agC S.log):=fun c hc z=>W.w.now.bq.fz c z hc
 refine⟨_,rfl,h,D.dx,_,rfl,W2.ins,cj (e9 _ (by simp)),_,rfl,_,rfl,h,nl,rl,_,_,_,_,_,_,_,FZ,_,_,.entry a wd,rfl,W2,afp _,fn,fr,fA _ _ Na (rZ nl fn),fA _ _ Cf (rZ rl fr),hz,fun H3 t nt W3 k3=> ?_⟩;refine⟨_,rfl,h,CH,D.dx,_,_,rfl,W3.ins,L.h.cl,L.h.nM,yE,QF,fun H4 l n4 s4 h4=> ?_⟩;refine gK W hw ok (by omega) (fun _ _ _ z=>nomatch z) k (k1.trans (fA.fJ fun c hc=>afK _ hc)) (fun c hc=>(jX c hc).imp id fun z=>eV z) k3 nt n4 s4 W3 h4
structure zT(P:afA)(w:af4)(K:afW)(mg:Str->Option afg)(base:agg)(a:afd)(aQ:List (br×V)):Prop where
 kd:KD P w K a aQ
 no:∀p:Nat,p<25->fG p=false->ee aQ (afz (p:Int))=none
 P9:∀p:Nat,p<25->fG p=true->∃(f:afd) (fd:afE),ee aQ (afz (p:Int))=some (.ref f)/\keepIn K (.ref f)=true/\aT P w K mg base bX 2 f fd ["row"] (JK K (lE p))/\eY K fd ["row"] []
abbrev yg:afR:=dC 40
theorem pQ:au ["call","number","bounds"] ["call"] (ai yg):=cF
theorem Ay(F:b9 K "numbers_are_told" "numbers_are_told" yg f fd)(G:lN mg)(mR:mg "RANGES"=some (.ref R))(hR:rD K R rs)(cN:Ca P w K mg base 1 "numbers_of" ["call"] o7):aT P w K mg base bX 2 f fd ["call"] (nv fun p ns _=>iG p ns):=by
 refine cz F pQ fun _ _ _ _ H _ Q E hr h=> ?_
 obtain⟨c,p,ns,r,rfl,hc,k⟩:=h;refine⟨_,ae (cM af3 rfl (Ip rfl G.zip (aa (cn cN hr rfl (aa (pv 0) ab)) (aa (aG eJ (cu (v:= .ref R) rfl mR rfl) (aG aA (pv 0) ag)) ab))) (i8 rfl (bH (hJ 1 pQ.nd) (bH (hJ 2 pQ.nd) gN)))
   (af (aZ (bu (lD gT gT (aG eJ (pv 2) ag) (pv 1) (aG eJ (pv 2) ag))) (af (aq dy)) aC)))
  (af (aq dy)),?_⟩
 obtain⟨r0,qs,h1,h2,h3,h4⟩:=hR.get hc.lt;have hql:qs.length=ns.length:=by rw[h3,hc.len]
 refine⟨_,rfl,c,p,ns,r,rfl,hc,fun H1 nl OZ s1 Kq=> ?_⟩;refine⟨_,rfl,c,_,_,.int (p:Int),rfl,rfl,aJ.of (s1 _ _ hc.cG),gE (j:=0) rfl rfl,R,_,_,.ref r0,rfl,rfl,.inr hR.cG,QV h1,nl,r0,_,_,rfl,aJ.of Kq,.inr h2,yu (n:=ns.length)
  (fun i σ H'=>∃(v1 v2:Option V),σ=[some (.ref c),v1,v2]/\ax H1 H'/\((ns.zip (rg p)).take i).all p8=true)
  ⟨none,none,rfl,ax.refl _,rfl⟩ ?_ ?_ ?_ ?_⟩
 .rintro i σ H' hi ⟨v1,v2,rfl,s2,_⟩ q hq;have:q=(false,nl)\/q=(true,r0):=by simpa using hq
  rcases this with e|e
  .subst e;exact⟨_,_,.inr ⟨rfl,aJ.of (s2 _ _ Kq)⟩,afk (by rw[afb];exact hi)⟩
  .subst e;exact⟨_,_,.inl ⟨rfl,.inr h2⟩,afk (by rw[afb,hql];exact hi)⟩
 .rintro σ H' ⟨v1,v2,rfl,s2,_⟩;refine⟨fun q hq=> ?_,(false,nl),by simp,_,.inr ⟨rfl,aJ.of (s2 _ _ Kq)⟩,by rw[afb];exact afp _⟩;have:q=(false,nl)\/q=(true,r0):=by simpa using hq
  rcases this with e|e
  .subst e;exact⟨_,.inr ⟨rfl,aJ.of (s2 _ _ Kq)⟩⟩
  .subst e;exact⟨_,.inl ⟨rfl,.inr h2⟩⟩
 .rintro i σ H' x H5 hi ⟨v1,v2,rfl,s2,gI⟩ ⟨T,vs,rfl,hT,rfl,Ky,hv⟩;have gn:ns[i]? =some ns[i]:=afk hi;generalize ns[i]=z at gn;have Zr:i<qs.length:=by omega
  have gq:qs[i]? =some qs[i]:=afk Zr;generalize qs[i]=qa at gq;have hgi:i<(rg p).length:=by rw[<-h3];exact Zr
  have gr:(rg p)[i]? =some (rg p)[i]:=afk hgi;generalize (rg p)[i]=y at gr;have kq:=h4 i qa y gq gr;have gz:(ns.zip (rg p))[i]? =some (z,y):=by rw[akj];exact⟨gn,gr⟩
  obtain⟨x0,Rv,Oq⟩:=hv 0 (false,nl) rfl _ (.inr ⟨rfl,aJ.of (s2 _ _ Kq)⟩);obtain⟨x1,Rw,Ot⟩:=hv 1 (true,r0) rfl _ (.inl ⟨rfl,.inr h2⟩);have e0:x0= .int z:=by rw[afy,gn]at Rv;exact(afv Rv).symm
  have e1:x1= .ref qa:=by rw[afy,gq]at Rw;exact(afv Rw).symm
  subst e0;subst e1;have ev:vs=[.int z,.ref qa]:=by
   match vs,Ky,Oq,Ot with
   | [a,b],_,Oq,Ot=>
    have q1:a= .int z:=afv Oq;have q2:b= .ref qa:=afv Ot;rw[q1,q2]
  subst ev;have s3:=s2.trans (ax.new (o:= .dY [.int z,.ref qa]) hT);have fin:∀{H'},ax H H'->p8 (z,y)=false->Q (.bl false) H':=fun s' q=>by
   have e:iG p ns=false:=by
    unfold iG;rw[List.all_eq_false];exact⟨(z,y),afq gz,by rw[q];decide⟩
   have:=k _ s';try dsimp only at this
   rw[e]at this;exact this
  refine⟨T,_,rfl,gF.of aj,rfl,_,_,rfl,_,_,rfl,rfl,?_⟩;refine⟨_,rfl,qa,_,_,_,rfl,rfl,.inr kq,(show pB [vn y.1,vn y.2] (0:Int)=some (vn y.1)from rfl),_,rfl,_,_,rfl,rfl,_,rfl,aW (fun c1=> ?_) (fun c1=> ?_)⟩
  .refine⟨_,rfl,qa,_,_,_,rfl,rfl,.inr kq,(show pB [vn y.1,vn y.2] (1:Int)=some (vn y.2)from rfl),_,_,rfl,rfl,_,rfl,aW (fun c2=> ?_) (fun c2=> ?_)⟩
   .refine fin (s1.trans s3) (agd fun q=>dU c2 q.2)
   .refine⟨_,_,rfl,s3,?_⟩;rw[aS gz,List.all_append,gI,ajB];show(p8 (z,y)&&true)=true;rw[Bool.and_true];exact afl ⟨afh c1,cX c2⟩
  .exact⟨_,rfl,fin (s1.trans s3) (agd fun q=>c1 (afl q.1))⟩
 .rintro σ H' ⟨v1,v2,rfl,s2,gI⟩;have:=k _ (s1.trans s2);have e:iG p ns=true:=by
   unfold iG;rw[<-gI,agw];rw[ak7];exact amE _ _
  try dsimp only at this
  rw[e]at this;exact this
abbrev yi:afR:=dC 41
theorem EX:au ["call"] ["call"] (ai yi):=cF
theorem ID(h:fG p=false):lE p r=true:=by
 have h':((((¬p=0/\¬p=1)/\¬p=2)/\¬p=8)/\¬p=13)/\¬p=20:=by simpa [fG]using h
 have:p≠0/\p≠1/\p≠2/\p≠8/\p≠13/\p≠20:=by omega
 unfold lE;rw[afe this.1,afe (by omega),afe (by omega),afe (by omega)]
theorem AA(F:b9 K "row_is_told" "row_is_told" yi f fd)(mR:mg "ROWS"=some (.ref R))(hR:zT P w K mg base R aQ)(cR:Ca P w K mg base 1 "row_of" ["call"] rq):aT P w K mg base bX 3 f fd ["call"] (nv fun p _ r=>lE p r):=by
 refine cz F EX fun _ _ _ _ H _ Q E hr h=> ?_
 obtain⟨c,p,ns,r,rfl,hc,k⟩:=h;refine⟨_,ae (aZ (AN (EL (aG aA (pv 0) ag) (cu (v:= .ref R) rfl mR rfl))) (af (aq dy)) aC)
  (af (aq (oH (w9 (cu (v:= .ref R) rfl mR rfl) (aG aA (pv 0) ag) (fun _ _=>rfl)) (aa (cn cR hr rfl (aa (pv 0) ab)) ab)))),?_⟩
 refine⟨_,rfl,c,_,_,.int (p:Int),rfl,rfl,aJ.of hc.cG,gE (j:=0) rfl rfl,R,aQ,afz (p:Int),rfl,hR.kd,rfl,_,rfl,?_⟩;cases q:fG p with
 |false=>
  rw[hR.no p hc.lt q];have:=k H (ax.refl H);try dsimp only at this
  rw[ID q]at this;exact this
 |true=>
  obtain⟨fa,MT,e1,e2,e3,e4⟩:=hR.P9 p hc.lt q;rw[e1];refine⟨_,rfl,c,_,_,.int (p:Int),rfl,rfl,aJ.of hc.cG,gE (j:=0) rfl rfl,R,aQ,afz (p:Int),.ref fa,rfl,hR.kd,rfl,e1,fa,MT,["row"],_,2,rfl,e2,e3,hr,e4,?_⟩;refine⟨_,rfl,c,p,ns,r,rfl,hc,fun H1 l nl s1 hl=>⟨l,r,rfl,aJ.of hl,by have:=hc.Gz;omega,fun H2 s2=>k H2 (s1.trans s2)⟩⟩
abbrev Bm:afR:=dC 42
theorem IH:au ["call"] ["call"] (ai Bm):=cF
theorem Eg(F:b9 K "is_as_told" "is_as_told" Bm f fd)(cN:Ca P w K mg base 2 "numbers_are_told" ["call"] (nv fun p ns _=>iG p ns))(cR:Ca P w K mg base 3 "row_is_told" ["call"] (nv fun p _ r=>lE p r)):aT P w K mg base bX 4 f fd ["call"] (nv fun p ns r=>iG p ns&&lE p r):=by
 refine cz F IH fun _ _ _ _ H _ Q E hr h=> ?_
 obtain⟨c,p,ns,r,rfl,hc,k⟩:=h;refine⟨_,af (aq (w8 (cn cN hr rfl (aa (pv 0) ab)) (lu (cn cR hr rfl (aa (pv 0) ab))))),?_⟩;refine⟨_,rfl,c,p,ns,r,rfl,hc,fun H1 s1=>⟨_,rfl,aW (fun e=> ?_) (fun e=> ?_)⟩⟩
 .refine⟨_,rfl,c,p,ns,r,rfl,hc.same s1,fun H2 s2=> ?_⟩;have:=k H2 (s1.trans s2);try dsimp only at this e
  rw[e,ajB]at this;exact this
 .have:=k H1 s1;try dsimp only at this e
  rw[(Bool.not_eq_true _).mp e,ai5]at this;exact this
abbrev yc:afR:=dC 37
theorem md:au ["calls","start","call","end"] ["calls","start"] (ai yc):=cF
theorem Au{R2:afd}(F:b9 K "call_end" "call_end" yc f fd)(G:lN mg)(mR:mg "RANGES"=some (.ref R))(hR:rD K R rs)(mR2:mg "ROWS"=some (.ref R2))(V7:zT P w K mg base R2 aQ):aT P w K mg base bX 1 f fd ["calls","start"] (pT K):=by
 refine cz F md fun _ _ _ _ H _ Q E hr h=> ?_
 obtain⟨c,l,st,p,ns,r,t,rfl,hl,oc,k⟩:=h;refine⟨_,ae (cY 2 md.nd (aG aA (pv 0) (pv 1)))
  (ae (cY 3 md.nd (bx eh (bx eh (pv 1) ag) (aN ay rfl G.len agq (aa (aG eJ (cu (v:= .ref R) rfl mR rfl) (pv 2)) ab))))
  (ae (aZ (AN (Pf (pv 2) (cu (v:= .ref R2) rfl mR2 rfl))) (af (lC (i:=3) md.nd rfl (akd rfl) (bx eh ag (aG aA (pv 0) (pv 3))) mZ)) aC)
  (af (aq (pv 3))))),?_⟩
 obtain⟨r0,qs,h1,h2,h3,_⟩:=hR.get oc.lt;have e0:l[st]? =some (p:Int):=by
  have:=congrArg (fun z=>z[0]?) oc.eq;simp only[ahZ,Nat.add_zero]at this;exact this
 refine⟨_,rfl,_,rfl,c,_,_,.int (p:Int),rfl,rfl,hl,gE (j:=st) rfl (by rw[afy,e0];rfl),?_⟩;refine⟨_,rfl,_,_,rfl,rfl,_,rfl,R,_,_,.ref r0,rfl,rfl,.inr hR.cG,QV h1,r0,_,rfl,.inr (.inr h2),_,_,rfl,rfl,?_⟩;rw[afb,h3,<-oc.len];refine⟨_,rfl,R2,aQ,afz (p:Int),rfl,V7.kd,rfl,_,rfl,?_⟩;cases q:fG p with
 |false=>
  rw[V7.no p oc.lt q];refine⟨_,rfl,?_⟩;have e:(df p r).length=0:=by unfold df;rw[q];rfl
  rw[e]at k;have e2:((st:Int)+1+(ns.length:Int))=((st+(1+ns.length+0):Nat):Int):=by omega
  show Q (.int ((st:Int)+1+(ns.length:Int))) H;rw[e2];exact k
 |true=>
  obtain⟨fa,MT,e1,_⟩:=V7.P9 p oc.lt q;rw[e1];have et:df p r=(r.length:Int)::r:=by unfold df;rw[q];rfl
  have e3:l[st+1+ns.length]? =some (r.length:Int):=by
   have:=congrArg (fun z=>z[1+ns.length]?) oc.eq;simp only[ahZ]at this;rw[<-Nat.add_assoc]at this;rw[this,aiE 1,List.getElem?_cons_succ,et,afS,agv (afp _),akZ];rfl
  refine⟨_,rfl,_,rfl,_,rfl,c,_,_,.int (r.length:Int),rfl,rfl,hl,gE (j:=st+1+ns.length) (by show(st:Int)+1+(ns.length:Int)=_;omega) (by rw[afy,e3];rfl),_,_,rfl,rfl,_,_,rfl,rfl,_,rfl,?_⟩;rw[et,afr]at k;have e2:((st:Int)+1+(ns.length:Int)+(1+(r.length:Int)))=((st+(1+ns.length+(r.length+1)):Nat):Int):=by omega
  show Q (.int ((st:Int)+1+(ns.length:Int)+(1+(r.length:Int)))) H;rw[e2];exact k
theorem sk:∀l:List Int,aiw (l.map ag9)=true
 | []=>rfl
 |x::l=>by
  show(true&&aiw (l.map ag9))=true;rw[sk l];rfl
theorem rP:∀l:List Int,ah4 (l.map ag9)<=1
 | []=>afH _
 |x::l=>by
  show max (anF (.int x)) (ah4 (l.map ag9))<=1;exact Nat.max_le.mpr ⟨afH _,rP l⟩
theorem mf(l:List Int):ahN (.list (l.map ag9))=true:=by
 unfold ahN;rw[afB];refine⟨sk l,afl ?_⟩;show ah4 (l.map ag9)+1<=64;have:=rP l;omega
theorem vD(l:List Int):ahN (.tuple (l.map ag9))=true:=by
 unfold ahN;rw[afB];refine⟨sk l,afl ?_⟩;show ah4 (l.map ag9)+1<=64;have:=rP l;omega
theorem ou:∀l m:List Int,ahy (l.map ag9) (m.map ag9)=decide (l=m)
 | [],[]=>rfl
 | [],_::_=>rfl
 |_::_,[]=>rfl
 |x::l,y::m=>by
  show(x==y&&ahy (l.map ag9) (m.map ag9))=_;rw[ou l m];by_cases h:x=y
  .subst h;rw[ahv,ajB];exact agB.mpr ⟨fun q=>by rw[q],fun q=>(aiP q).2⟩
  .rw[agU.mpr h,ai5];exact(agd fun q=>h (aiP q).1).symm
theorem gu{K:afW}{H:Hp}:∀l:List Int,qc K H (l.map V.int) (l.map ag9)
 | []=> .nil
 |x::l=> .cons (.int x) (gu l)
inductive SV(K:afW)(x:V)(y:V)(H:Hp)(Q:VK):Prop|m:∀(a b:afd) (l m:List Int),x= .ref a->y= .ref b->aJ K H a (l.map V.int)->aJ K H b (m.map V.int)->Q (.bl (decide (l=m))) H->SV K x y H Q
inductive SX(K:afW)(x:V)(y:V)(H:Hp)(Q:VK):Prop|m:∀(a b:afd) (l m:List Int),x= .ref a->y= .ref b->aJ K H a (l.map V.int)->aJ K H b (m.map V.int)->Q (.bl (!decide (l=m))) H->SX K x y H Q
inductive Pk(K:afW)(x:V)(y:V)(H:Hp)(Q:VK):Prop|m:∀(a b:afd) (l m:List Int),x= .ref a->y= .ref b->gF K H a (l.map V.int)->gF K H b (m.map V.int)->Q (.bl (decide (l=m))) H->Pk K x y H Q
theorem Ig(hu:X.A.units+64<cLine):nY X (compareOp .Eq) (SV X.K):=by
 intro pins s σ H x y u v Q I rx ry ⟨a,b,l,m,e1,e2,h1,h2,q⟩;subst e1;subst e2;refine Ie hu pins s σ H _ _ u v Q I rx ry ⟨.list (l.map .int),.list (m.map .int),.ba h1 (gu l),.ba h2 (gu m),mf l,mf m,?_⟩;show Q (.bl (ahy _ _)) H;rw[ou];exact q
theorem AE(hu:X.A.units+64<cLine):nY X (compareOp .NotEq) (SX X.K):=by
 intro pins s σ H x y u v Q I rx ry ⟨a,b,l,m,e1,e2,h1,h2,q⟩;subst e1;subst e2;refine Ih hu pins s σ H _ _ u v Q I rx ry ⟨.list (l.map .int),.list (m.map .int),.ba h1 (gu l),.ba h2 (gu m),mf l,mf m,?_⟩;show Q (.bl (!PyData.eqvAll _ _)) H;rw[ou];exact q
theorem Pe(hu:X.A.units+64<cLine):nY X (compareOp .Eq) (Pk X.K):=by
 intro pins s σ H x y u v Q I rx ry ⟨a,b,l,m,e1,e2,h1,h2,q⟩;subst e1;subst e2;refine Ie hu pins s σ H _ _ u v Q I rx ry ⟨.tuple (l.map .int),.tuple (m.map .int),.dY h1 (gu l),.dY h2 (gu m),vD l,vD m,?_⟩;show Q (.bl (ahy _ _)) H;rw[ou];exact q
end FE
namespace PySem
open PySem.AutoSeq1
set_option maxRecDepth 8000 in
theorem Ol(l:afd)(items:Array afg)(n:Nat)(b:afd)(si:Array afg)(n2:Nat)(Rh:Option afd)(sl:Array (Option afg))(Zv:¬(!items.isEmpty&&ahg (items.size+si.size))=true)(hs1:items.size<=sizeLine)(OE:items.size+si.size<=sizeLine+1):
  Meets (aj3.«list.extend» ⟨[.ref l,.ref b],[]⟩) (fun _ R s=>s.heap.get? l=some {cls:= .type "list",dict:=none,data:= .seq items n,slots:= #[]}/\s.heap.get? b=some {cls:= .type "tuple",dict:=Rh,data:= .seq si n2,slots:=sl}/\R (.ok (.ret ahS)) {s with heap:=s.heap.update l (ahl fun x=>x++si),toks:=s.toks}):=
 .of_wp fun prog w A R s h=>by
  obtain⟨hp,g,d,tk,os⟩:=s;obtain⟨hl,hb,h⟩:=h;have qo:(items++si).size<=sizeLine+1:=by rw[Array.size_append];exact OE
  wp_walk using(ain hl rfl (hz:=hs1) (_hz':=qo)),alk' hl,alk' hb
  exact⟨_,rfl,h⟩
end PySem
namespace FE
open PySem PySem.Spec PyProof.Rows L2 FM
open PySem.W (Frag fnOf keepIn mg_of findIn nsIn emptyDict plainGet hasDictIn isFn makesIn codeIn plainOver)
open Vbdhag (Book nat numberOf entryAt allSenses Change position putBehind bookOf hasEntry changeTold two entryOf decimal kept history lengthOf empty onSense outOf hasSense putEntry inEntry entryNames Sense Call wrong dead pair senseLine changesOf stepNumbers patched bytesOf changes cutAt)
variable{N N' e em i j n p sm:Nat}{P:afA}{X:Cx}{x:afo}{te:TE}{pos:Pos}{w:af4}{K:afW}{mg:Str->Option afg}{base:agg}{st:afR}{C CB CH D R a b c f fI fb fc fe fh fp h q u:afd}{fd fR fZ fO f9 fX fY gg:afE}{ps:List Str}{sp:Sp}{ks ks' l t:List Nat}{o:HO}{ns r:List Int}{m p0 p1 p2:Str}{S:afn}{H H' H1 H2:Hp}{d d':BA}{FZ cZ as rs ts:List afd}{B B':aga}{aQ:List (br×V)}{f':Nat->V}{xs:List V}{σ:L2.St}{z:Int}
inductive NG(K:afW)(x:V)(vs:List V)(H:Hp)(Q:VK):Prop|m:∀(l b:afd) (xs zs:List V),x= .ref l->vs=[.ref b]->H l=some (.ba xs)->gF K H b zs->xs.length+zs.length<=sizeLine->Q .gw (aE H l (.ba (xs++zs)))->NG K x vs H Q
theorem qX:Qc X "list.extend" (NG X.K):=by
 intro pins s σ H x vs v us Q I rx rv h;obtain⟨l,b,xs,zs,rfl,rfl,hH,hB,hz,q⟩:=h;cases rx;obtain⟨u,rfl,ru⟩:=rv.xV;cases ru;obtain⟨z,aR,n,r,hl,e⟩:=I.wJ hH;obtain⟨qJ,r2,⟨o,e2,hc,n2,hd⟩,z2⟩:=I.tuple hB;have Cc:=r2.length;obtain⟨oc,od,odt,os⟩:=o;try dsimp only at hc hd
 subst hc;subst hd;have hsz:aR.toArray.size+qJ.toArray.size<=sizeLine:=by rw[afL,afL];omega
 have yB:¬(!aR.toArray.isEmpty&&ahg (aR.toArray.size+qJ.toArray.size))=true:=by
  rw[sD hsz,amN];exact afP
 refine aiT af2 ⟨_,e,rfl⟩ alJ (alm _ _)
  (PySem.Ol l aR.toArray n b qJ.toArray n2 od os yB (by rw[afL];omega) (by omega)) ⟨e,e2,?_⟩
 refine⟨.gw,_,I.Hb (its':=aR++qJ) hH e (by simp) (r.append r2) ?_,rfl,q⟩;rw[afc];omega
theorem iL(e:l[i]? =some n)(hz:z=(i:Int):=by rfl):pB (l.map vn) z=some (vn n):=gE hz (by rw[afy,e];rfl)
structure xX(H:Hp)(FZ:List afd)(ls:List (afd×afd×afd))(as:List agG):Prop where
 len:ls.length=as.length
 cG:∀(i:Nat) (x:afd×afd×afd) (a:agG),ls[i]? =some x->as[i]? =some a->i6 H FZ x a
theorem xX.snoc{ls:List (afd×afd×afd)}{as:List agG}{x:afd×afd×afd}{a:agG}(h:xX H FZ ls as)(hx:i6 H FZ x a):xX H FZ (ls++ [x]) (as++ [a]):=by
 refine⟨by rw[afc,afc,h.len];rfl,fun i y b h1 h2=> ?_⟩;rcases dE h1 with z1|⟨z1,z2⟩
 .rcases dE h2 with y1|⟨y1,y2⟩
  .exact h.cG i y b z1 y1
  .have:=(aff.mp z1).1;have:=h.len;omega
 .rcases dE h2 with y1|⟨y1,y2⟩
  .have:=(aff.mp y1).1;have:=h.len;omega
  .subst z2;subst y2;exact hx
theorem i6.same{x:afd×afd×afd}{a:agG}(h:i6 H FZ x a)(s:ax H H'):i6 H' FZ x a:=⟨h.f1,h.f2,h.f3,s _ _ h.tu,s _ _ h.nu,s _ _ h.ro⟩
theorem kX{α:Type}{f:α->V}{l:List α}{y:V}(h:(l.map f)[i]? =some y):∃x,l[i]? =some x/\y=f x:=by
 rw[afy]at h;cases e:l[i]? with
 |none=>rw[e]at h;cases h
 |some x=>rw[e]at h;exact⟨x,rfl,(afv h).symm⟩
theorem vk(a:agG):(eO a)[0]? =some ((eO a).headD 0):=by cases a<;>rfl
inductive xu(CB:afd)(CH:afd)(vs:List V)(H:Hp)(Q:VK)(E:XK):Prop|m:∀(h:afd) (D:HA) (S:afn) (FZ:List afd) (k:Nat),vs=[.ref h,vn k]->cb CB CH H h D S FZ->(∀(H':Hp) (l:afd) (ls:List (afd×afd×afd)),H l=none->ax H H'->H' l=some (.ba (ls.map fun x=>V.ref x.1))->xX H' FZ ls (S.log.filter (fj k))->Q (.ref l) H')->xu CB CH vs H Q E
structure nZ(C:afd)(H H':Hp)(b:afd)(d:BA)(B:aga)(FZ:List afd)(N:Nat):Prop where
 is:aV C H' b d B FZ N
 same:ax H H'
 fr:∀a∈bS b d B,H a=none
theorem nZ.act(p:nZ C H H1 b d B FZ N)(hb:aV C H2 b d' B' FZ N')(k:Kp (bS b d B) H1 H2)(g:Gr H1 (bS b d B) (bS b d' B')):nZ C H H2 b d' B' FZ N':=
 ⟨hb,fun a o e=>k a o (p.same a o e) fun z=>(by rw[p.fr a z]at e;cases e),fun a ha=>(g a ha).elim (p.fr a) p.same.free⟩
theorem nZ.more(p:nZ C H H1 b d B FZ N)(s:ax H1 H2):nZ C H H2 b d B FZ N:=⟨p.is.same s,p.same.trans s,p.fr⟩
inductive AU(CB:afd)(CH:afd)(vs:List V)(H:Hp)(Q:VK)(E:XK):Prop|m:∀(h:afd) (D:HA) (S:afn) (FZ:List afd) (k:Nat),vs=[.ref h,vn k]->cb CB CH H h D S FZ->1<=k->k<=S.editions.length->(∀(H':Hp) (b:afd) (d:BA) (N:Nat),N<100000->aV CB H' b d (akM S k) FZ N->ax H H'->Q (.ref b) H')->AU CB CH vs H Q E
abbrev Bu:afR:=bt gm 10
theorem AO:au ["self","edition","line"] ["self","edition"] (ai Bu):=cF
theorem N9:iK ["self","edition","line"] (ai Bu) (OP (cq Bu) 0) [("line",2)]:=⟨rfl,by decide+kernel,by decide+kernel,by decide+kernel,by decide+kernel⟩
theorem K1(F:b9 K "errata" "House.errata" Bu f fd)(T:zU K mg CH)(X:Ju mg):aT P w K mg base bX 1 f fd ["self","edition"] (xu CB CH):=by
 refine cz F AO fun _ _ _ _ H _ Q E hr h=> ?_
 obtain⟨h,D,S,FZ,k,rfl,W,q⟩:=h;refine⟨_,af (aq (mv (own:=[("line",2)]) rfl AO.nd (bO (az (pv 0))) N9 (fun _ _ _ _ _=>hJ 2 AO.nd)
  (fun _ _ _ _ _=>oK (PW.pt (nj (aX fU (aG (r:=ES K) eJ (pv 2) ag) (gY rfl X.Rm) (bc _)) (j6 (aX fU (aG (r:=ER K) aA (aG (r:=ES K) eJ (pv 2) ag) ag) (pv 1) (bc _)))))) (fun _ _ _ _ _=>pv 2))),?_⟩
 have hz:=W.st.len;refine⟨_,rfl,h,CH,D.dx,_,_,rfl,W.w.ins,T.cl,T.nL,i7,D.lg,rfl,⟨_,aJ.of W.w.hl⟩,fun N hN=>jZ (K:=K) (a:=D.lg) (xs:=D.la.map fun x=>V.ref x.1) (fun i H'=>ax H H'/\∃ls,H' N=some (.ba (ls.map fun x=>V.ref x.1))/\xX H' FZ ls ((S.log.take i).filter (fj k)))
  ⟨ax.new hN,[],aj,⟨rfl,fun i u n h1=>by simp at h1⟩⟩ (fun i H' _ h=>aJ.of (h.1 _ _ W.w.hl)) ?_ ?_⟩
 .rintro i y H' hi ⟨s2,ls,h2,li⟩;obtain⟨x,hx,rfl⟩:=kX hi;have gV:i<S.log.length:=by rw[<-W.w.ll];exact(aff.mp hx).1
  have ha:=afk gV;have L1:=(W.w.ki i x _ hx ha).same s2;have ht:=gF.of (K:=K) L1.tu;have done:∀{H'},ax H H'->(∃ls,H' N=some (.ba (ls.map fun x=>V.ref x.1))/\xX H' FZ ls ((S.log.take i).filter (fj k)))->¬fj k S.log[i]=true->ax H H'/\∃ls,H' N=some (.ba (ls.map fun x=>V.ref x.1))/\xX H' FZ ls ((S.log.take (i+1)).filter (fj k)):=fun s' h' n=>by
   rw[aS ha,agl,afU,afe n,ahI,af7];exact⟨s',h'⟩
  refine⟨rfl,_,rfl,x.1,_,_,_,rfl,rfl,ht,(show pB [vn (bz S.log[i]),V.ref x.2.1,V.ref x.2.2] (0:Int)=some (vn (bz S.log[i]))from rfl),rfl,_,rfl,aW (fun c=> ?_) (fun c=> ?_)⟩
  .have c8:bz S.log[i]=8:=by
    have:=afh c;injection this with this
    omega
   refine⟨_,rfl,x.1,_,_,_,rfl,rfl,ht,(show pB [vn (bz S.log[i]),V.ref x.2.1,V.ref x.2.2] (1:Int)=some (V.ref x.2.1)from rfl),x.2.1,_,_,vn ((eO S.log[i]).headD 0),rfl,rfl,aJ.of L1.nu,gE (j:=0) rfl (by rw[afy,vk];rfl),_,rfl,rfl,_,rfl,aW (fun c1=> ?_) (fun c1=> ?_)⟩
   .have ck:(eO S.log[i]).headD 0=k:=by
     have:=afh c1;injection this with this
     omega
    have e:fj k S.log[i]=true:=by unfold fj;rw[c8,ck];simp
    have hul:ls.length<=200:=by
     rw[li.len];exact afw (af8 _ _) (afw (by rw[afY];exact ajy _ _) hz)
    refine⟨_,rfl,_,h2,by rw[afb];exact b8 (by omega),fun a o e=>by rw[ao (ak e hN)];exact s2 a o e,ls++ [x],by rw[aj,afD];rfl,?_⟩;rw[aS ha,agl,afU,afj e];have kp:Kp [N] H' (aE H' N (.ba ((ls.map fun x=>V.ref x.1)++ [V.ref x.1]))):=Kp.gZ (by simp);have nz:∀a∈FZ,a∉ [N]:=fun a ha z=>by
     obtain⟨o,ho⟩:=W.w.now.bq.fzt a ha;have:a=N:=by simpa using z
     rw[this,hN]at ho;cases ho
    exact xX.snoc ⟨li.len,fun j y b q1 q2=>(li.cG j y b q1 q2).keep kp nz⟩ (L1.keep kp nz)
   .refine done s2 ⟨ls,h2,li⟩ fun z=>c1 (afl ?_)
    have:=((afB _ _).mp z).2;rw[eq_of_beq this]
  .refine done s2 ⟨ls,h2,li⟩ fun z=>c (afl ?_)
   have:=((afB _ _).mp z).1;rw[eq_of_beq this];rfl
 .rintro H' ⟨s2,ls,h2,li⟩;rw[afb,W.w.ll,afT]at li;exact q H' N ls hN s2 h2 li
abbrev Mw:afR:=bt gm 11
theorem sW:au ["self","edition","book","call","numbers","text"] ["self","edition"] (ai Mw):=cF
theorem KZ(F:b9 K "corrected" "House.corrected" Mw f fd)(L:jr P w K mg base CB CH)(cC:Ca P w K mg base 3 "copied" ["book"] (lI CB))(mE:Ma P w K mg base 1 CH "errata" ["self","edition"] (xu CB CH)):aT P w K mg base bX 4 f fd ["self","edition"] (AU CB CH):=by
 refine cz F sW fun _ _ _ _ H _ Q E hr h=> ?_
 obtain⟨h,D,S,FZ,k,rfl,W,h1,hk,q⟩:=h;refine⟨_,ae (cY 2 sW.nd (cn cC hr rfl (aa (bR (pv 0) L.h.cl L.book hr (aa (pv 1) ab)) ab)))
  (ae (cM af3 rfl (bO (bR (pv 0) L.h.cl mE hr (aa (pv 1) ab))) (i8 rfl (bH (hJ 3 sW.nd) (bH (hJ 4 sW.nd) (bH (hJ 5 sW.nd) gN))))
   (af (aI (bR (pv 2) L.b.cl L.say hr (aa (aG aA (pv 4) ag) (aa (pv 5) ab))))))
  (af (aq (pv 2)))),?_⟩
 have hz:=W.st.len;refine⟨_,rfl,h,D.dx,_,rfl,W.w.ins,cj (e9 _ (by simp)),_,rfl,h,D,S,FZ,k,rfl,W,hk,(bQ D k).1,(bQ D k).2,_,FZ,_,rfl,W.book hk,by omega,fun H1 b d hB s1 fr=> ?_⟩;have W1:=W.same s1;refine⟨_,rfl,h,D.dx,_,rfl,W1.w.ins,cj (e9 _ (by simp)),_,rfl,h,D,S,FZ,k,rfl,W1,fun H2 l ls nl s2 hl li=> ?_⟩;have p2:nZ CB H H2 b d (ago S k) FZ S.log.length:=nZ.more ⟨hB,s1,fr⟩ s2;have e1:akM S k=(S.log.filter (fj k)).foldl (fun b x=>onSense b (e8 x).1 fun y=>{y with text:=(e8 x).2}) (ago S k):=by
  unfold akM;rw[pH,List.foldl_map]
 have zO:(S.log.filter (fj k)).length<=200:=afw (af8 _ _) hz;refine⟨l,rfl,⟨_,aJ.of hl⟩,cV (K:=K) (a:=l) (xs:=ls.map fun x=>V.ref x.1) (fun i σ H'=>∃(v3 v4 v5:Option V) (d':BA),σ=[some (.ref h),some (vn k),some (.ref b),v3,v4,v5]/\H' l=some (.ba (ls.map fun x=>V.ref x.1))/\l∉bS b d' (((S.log.filter (fj k)).take i).foldl (fun b x=>onSense b (e8 x).1 fun y=>{y with text:=(e8 x).2}) (ago S k))/\aD (((S.log.filter (fj k)).take i).foldl (fun b x=>onSense b (e8 x).1 fun y=>{y with text:=(e8 x).2}) (ago S k))=aD (ago S k)/\
   nZ CB H H' b d' (((S.log.filter (fj k)).take i).foldl (fun b x=>onSense b (e8 x).1 fun y=>{y with text:=(e8 x).2}) (ago S k)) FZ (S.log.length+i))
  ⟨none,none,none,d,rfl,hl,fun z=> ?_,rfl,p2⟩ (fun i σ H' _ ⟨_,_,_,_,_,h,_⟩=>aJ.of h) ?_ ?_⟩
 .obtain⟨o,ho⟩:=hB.gd z;rw[nl]at ho;cases ho
 .rintro i y σ H' hi ⟨v3,v4,v5,d',rfl,um,nf,qS,pv⟩;obtain⟨x,hx,rfl⟩:=kX hi;have gV:i<(S.log.filter (fj k)).length:=by rw[<-li.len];exact(aff.mp hx).1
  have ha:=afk gV;have mq:=li.cG i x _ hx ha;have hm:(S.log.filter (fj k))[i]∈S.log/\fj k (S.log.filter (fj k))[i]=true:=afO.mp (akN gV);generalize (S.log.filter (fj k))[i]=a at ha mq hm
  match a,hm with
  | .erratum kk n t,hm=>
  have ek:kk=k:=by have:=((afB _ _).mp hm.2).2;exact eq_of_beq this
  subst ek;obtain⟨q1,q2⟩:=W.st.Rm kk n t hm.1;have t1:∀{a o},H2 a=some o->a∈FZ->H' a=some o:=fun{a o} e hf=>by
   obtain⟨o',ho⟩:=W.w.now.bq.fzt a hf;rw[s2 _ _ (s1 _ _ ho)]at e;rw[<-e];exact pv.same _ _ ho
  refine⟨x.1,_,rfl,gF.of (t1 mq.tu mq.f1),rfl,_,_,rfl,_,_,rfl,_,_,rfl,rfl,?_⟩;have B8:=pv.is;refine⟨_,rfl,b,d'.dx,_,rfl,B8.bq.ins,bF (by decide+kernel),_,rfl,x.2.1,_,_,vn n,rfl,rfl,aJ.of (t1 mq.nu mq.f2),iL (i:=1) rfl,_,rfl,b,d',_,FZ,_,n,x.2.2,t,rfl,B8,by omega,by rw[qS];exact q2,mq.f3,t1 mq.ro mq.f3,fun H3 d3 V2 Aj Rt=> ?_⟩;have e2:((S.log.filter (fj kk)).take (i+1)).foldl (fun b x=>onSense b (e8 x).1 fun y=>{y with text:=(e8 x).2}) (ago S kk)=onSense (((S.log.filter (fj kk)).take i).foldl (fun b x=>onSense b (e8 x).1 fun y=>{y with text:=(e8 x).2}) (ago S kk)) n fun y=>{y with text:=t}:=by
   rw[aS ha,akn];rfl
  rw[e2];refine⟨_,_,_,d3,rfl,Aj _ _ um nf,fun z=>(Rt l z).elim nf fun q=>(by rw[um]at q;cases q),?_,pv.act V2 Aj Rt⟩;rw[eR _ n (fun y=>{y with text:=t}) (fun _=>rfl)];exact qS
 .rintro σ H' ⟨v3,v4,v5,d',rfl,um,nf,qS,pv⟩;rw[afb,li.len,afT,<-e1]at pv;exact⟨_,rfl,q H' b d' _ (by omega) pv.is pv.same⟩
structure NW(hd:List Int):Prop where
 ex:∃k a b c n,hd=[k,a,b,c,n]/\(∀z∈ [k,a,b,c,n],0<=z/\z<=100)/\(1<=k/\k<=8)/\∀z∈([a,b,c]:List Int).drop (lp.getD k.toNat 0),z=0
inductive AW(K:afW)(vs:List V)(H:Hp)(Q:VK)(E:XK):Prop|m:∀(a:afd) (l:List Int),vs=[.ref a]->aJ K H a (l.map V.int)->l.length<=5->(∀(b:Bool) (H':Hp),(b=true↔NW l)->ax H H'->Q (.bl b) H')->AW K vs H Q E
inductive pS(K:afW)(vs:List V)(H:Hp)(Q:VK)(E:XK):Prop|m:∀(k:Int) (a:afd) (l:List Int),vs=[.int k,.ref a]->aJ K H a (l.map V.int)->l.length<=20000->(∀(b:Bool) (H':Hp),(b=true↔er k l)->ax H H'->Q (.bl b) H')->pS K vs H Q E
inductive oY(K:afW)(vs:List V)(H:Hp)(Q:VK)(E:XK):Prop|m:∀(a:afd) (l:List Int) (st:Nat) (z:Int),vs=[.ref a,vn st]->aJ K H a (l.map V.int)->l[st+4]? =some z->Q (.int ((st:Int)+5+z)) H->oY K vs H Q E
inductive AY(K:afW)(vs:List V)(H:Hp)(Q:VK)(E:XK):Prop|m:∀(a:afd) (l:List Int) (st:Nat),vs=[.ref a,vn st]->aJ K H a (l.map V.int)->l.length<=20000->(∀(b:Bool) (H':Hp),(b=true↔zR (l.drop st))->ax H H'->Q (.bl b) H')->AY K vs H Q E
abbrev lU:afR:=dC 85
theorem zg:au ["head","kind","unused","number"] ["head"] (ai lU):=cF
theorem FD:iK ["head","kind","unused","number"] (ai lU) (OP (cq lU) 0) [("number",3)]:=⟨rfl,by decide+kernel,by decide+kernel,by decide+kernel,by decide+kernel⟩
theorem Du:iK ["head","kind","unused","number"] (ai lU) (OP (cq lU) 4) [("number",3)]:=⟨rfl,by decide+kernel,by decide+kernel,by decide+kernel,by decide+kernel⟩
theorem Er{Nn:afd}(F:b9 K "is_head" "is_head" lU f fd)(G:lN mg)(gr:∃t,mg "GREATEST_patching"=some (.int 100 t))(mN:mg "NUMBERS"=some (.ref Nn))(hN:ko K Nn (lp.map vn)):aT P w K mg base bX 1 f fd ["head"] (AW K):=by
 refine cz F zg fun _ _ _ _ H _ Q E hr h=> ?_
 obtain⟨a,l,rfl,hl,hz,k⟩:=h;have nd:=zg.nd;refine⟨_,ae (aZ (PW.pt (jl (aX vm (aN ay rfl G.len agq (aa (pv 0) ab)) ag (bc _)) (iI (bu (bf (aN (rI rfl) rfl G.all amh (aa (mv (own:=[("number",3)]) rfl nd (bO (pv 0)) FD (fun _ _ _ _ _=>hJ 3 nd) (fun _ _ _ _ _=>j5) (fun _ _ _ _ _=>sJ gT gT ag (pv 3) (gY rfl gr))) ab))))))) (af (aq dy)) aC)
  (ae (cY 1 nd (aG aA (pv 0) ag))
  (ae (aZ (bu (lD gT vm ag (pv 1) (aN ay rfl G.len agq (aa (cu (v:= .ref Nn) rfl mN rfl) ab)))) (af (aq dy)) aC)
  (ae (cY 2 nd (dq mn (pv 0) (cv (bx eh ag (aG eJ (cu (v:= .ref Nn) rfl mN rfl) (pv 1)))) (cv ag)))
  (af (aq (aN (rI rfl) rfl G.all amh (aa (mv (own:=[("number",3)]) rfl nd (bO (pv 2)) Du (fun _ _ _ _ _=>hJ 3 nd) (fun _ _ _ _ _=>j5) (fun _ _ _ _ _=>fM fU (pv 3) ag (bc _))) ab))))))),?_⟩
 have no:∀(H':Hp),ax H H'->¬NW l->Q (.bl false) H':=fun H' s1 z=>k false _ ⟨fun q=>(by cases q),fun q=>absurd q z⟩ s1
 refine⟨_,rfl,a,_,rfl,.inl hl,_,_,rfl,rfl,_,rfl,aW (fun c=> ?_) (fun c=> ?_)⟩
 .refine no _ (ax.refl H) fun z=> ?_
  obtain⟨k0,a0,b0,c0,n0,e,_⟩:=z.ex;have:=afh c;rw[afb,e]at this;exact absurd (show(5:Int)<5 from this) (by decide)
 have h5:l.length=5:=by
  have:¬(((l.map V.int).length:Nat):Int)<5:=fun z=>c (afl z)
  rw[afb]at this;omega
 refine⟨_,rfl,a,rfl,⟨_,hl⟩,fun D hD=>wF (fun z=>decide (0<=z/\z<=100)) hD hl (by omega) (fun z H' R q=>⟨rfl,_,rfl,_,_,rfl,rfl,_,rfl,aW (fun d1=>⟨_,_,rfl,rfl,?_⟩) (fun d1=> ?_)⟩) (fun H1 s1 h1=>⟨D,_,rfl,aJ.of h1,_,rfl,aW (fun c2=> ?_) (fun c2=> ?_)⟩) BZ⟩
 .show R (V.bl (decide (z<=100))) H';rw[show decide (z<=100)=decide (0<=z/\z<=100)from agB.mpr ⟨fun q=>⟨afh d1,q⟩,fun q=>q.2⟩];exact q
 .rw[show false=decide (0<=z/\z<=100)from(agd fun q=>d1 (afl q.1)).symm];exact q
 .refine no _ s1 fun z=> ?_
  obtain⟨k0,a0,b0,c0,n0,e,h0,_⟩:=z.ex;have:((l.map fun z=>decide (0<=z/\z<=100)).all id)=true:=by
   rw[ag5,af6];intro z hz;exact afl (h0 z (by rw[<-e];exact hz))
  rw[this]at c2;cases c2
 have gI:∀z∈l,0<=z/\z<=100:=fun z hz=>by
  have:((l.map fun z=>decide (0<=z/\z<=100)).all id)=true:=by
   cases q:((l.map fun z=>decide (0<=z/\z<=100)).all id)with
   |true=>rfl
   |false=>exact absurd (by rw[q];rfl) c2
  rw[ag5,af6]at this;exact afh (this z hz)
 have ql:=s1.seq hl
 match l,h5,gI,ql,hl,no,k with
 | [k0,a0,b0,c0,n0],_,gI,ql,hl,no,k=>
 refine⟨_,rfl,a,_,_,.int k0,rfl,rfl,ql,gE (j:=0) rfl rfl,?_⟩;refine⟨_,rfl,_,_,rfl,rfl,_,rfl,aW (fun d1=>⟨Nn,_,rfl,.inr (.inr hN),_,_,rfl,rfl,_,rfl,aW (fun d2=> ?_) (fun d2=> ?_)⟩) (fun d1=>⟨_,rfl,?_⟩)⟩
 .refine no _ s1 fun z=>dU d2 ?_
  obtain⟨_,_,_,_,_,e,_,h0,_⟩:=z.ex;have ek:=(aiP e).1;show k0<9;rw[ek];omega
 .have hk:1<=k0/\k0<=8:=⟨afh d1,by have:k0<9:=cX d2;omega⟩;have r9:lp[k0.toNat]? =some (lp.getD k0.toNat 0):=by
   have:k0.toNat<9:=by omega
   rw[ahU,afk (show k0.toNat<lp.length from this)];rfl
  refine⟨_,rfl,_,rfl,Nn,_,_,vn (lp.getD k0.toNat 0),rfl,rfl,.inr hN,iL (i:=k0.toNat) r9 (by omega),_,_,rfl,rfl,_,rfl,_,rfl,a,_,rfl,ql,fun H2 u nu s2 hu=> ?_⟩;have VI:iq [k0,a0,b0,c0,n0] (some (1+((lp.getD k0.toNat 0:Nat):Int))) (some 4)=([a0,b0,c0]:List Int).drop (lp.getD k0.toNat 0):=by
   have:=mJ [k0,a0,b0,c0,n0] (1+lp.getD k0.toNat 0) 4;rw[show(((1+lp.getD k0.toNat 0:Nat)):Int)=1+((lp.getD k0.toNat 0:Nat):Int) by omega]at this;refine this.trans ?_;show([k0,a0,b0,c0]:List Int).drop (1+lp.getD k0.toNat 0)=_;rw[aiE,aiK]
  have Nd:IL H2 u (([a0,b0,c0]:List Int).drop (lp.getD k0.toNat 0)):=by rw[<-VI];exact hu
  refine⟨_,rfl,u,rfl,⟨_,aJ.of Nd⟩,fun D2 hD2=>wF (fun z=>decide (z=0)) hD2 (aJ.of Nd) (by rw[agr];show 3-_<=_;omega) (fun z H' R q=>⟨rfl,_,rfl,rfl,?_⟩) (fun H3 s3 h3=>⟨D2,_,rfl,aJ.of h3,k _ H3 ⟨fun q=> ?_,fun q=> ?_⟩ (s1.trans (s2.trans s3))⟩) BZ⟩
  .show R (V.bl (decide (V.int z=V.int 0))) H';rw[show decide (V.int z=V.int 0)=decide (z=0)from agB.mpr ⟨fun q=>by injection q,fun q=>by rw[q]⟩];exact q
  .rw[ag5,af6]at q;exact⟨k0,a0,b0,c0,n0,rfl,gI,hk,fun z hz=>afh (q z hz)⟩
  .rw[ag5,af6];intro z hz;obtain⟨_,_,_,_,_,e,_,_,h0⟩:=q.ex;injection e with e1 e;injection e with e2 e;injection e with e3 e;injection e with e4 e;injection e with e5 e
   subst e1;subst e2;subst e3;subst e4;subst e5;exact afl (h0 z hz)
 .refine no _ s1 fun z=>d1 (afl ?_)
  obtain⟨_,_,_,_,_,e,_,h0,_⟩:=z.ex;have ek:=(aiP e).1;rw[ek];exact h0.1
inductive Jc(K:afW)(vs:List V)(H:Hp)(Q:VK)(E:XK):Prop|m:∀(a:afd) (l:List Int),vs=[.ref a]->aJ K H a (l.map V.int)->l.length<=20000->(∀H',ax H H'->Q (.bl (ag7 l.length l).isSome) H')->Jc K vs H Q E
theorem mY{k m:Int}(c:¬decide (V.int k=V.int m)=true):k≠m:=fun z=>c (afl (by rw[z]))
theorem mX{k m:Int}(c:decide (V.int k=V.int m)=true):k=m:=by
 have:=afh c;injection this
theorem M0{l:List Int}:zR l↔∃k a b c n r,l=k::a::b::c::n::r/\NW [k,a,b,c,n]/\n.toNat<=r.length/\er k (r.take n.toNat):=by
 constructor
 .rintro⟨k,a,b,c,n,r,e,h⟩;exact⟨k,a,b,c,n,r,e,⟨k,a,b,c,n,rfl,h.all,h.kind,h.zero⟩,h.len,h.bytes⟩
 .rintro⟨k,a,b,c,n,r,e,h,h1,h2⟩;obtain⟨_,_,_,_,_,e',h3,h4,h5⟩:=h.ex;injection e' with e1 e';injection e' with e2 e';injection e' with e3 e';injection e' with e4 e';injection e' with e5 e'
  subst e1;subst e2;subst e3;subst e4;subst e5;exact⟨k,a,b,c,n,r,e,h3,h4,h5,h1,h2⟩
abbrev yb:afR:=dC 86
theorem EU:au ["kind","row"] ["kind","row"] (ai yb):=cF
theorem As(F:b9 K "are_bytes_of" "are_bytes_of" yb f fd)(X:Mp mg)(cW:Ca P w K mg base 2 "is_word" ["row"] (JK K fun r=>dG r 1 12 97 122))(cT:Ca P w K mg base 2 "is_text" ["row"] (JK K fun r=>dG r 0 30 32 126)):aT P w K mg base bX 3 f fd ["kind","row"] (pS K):=by
 refine cz F EU fun _ _ _ _ H _ Q E hr h=> ?_
 obtain⟨z,a,l,rfl,hl,hz,k⟩:=h;refine⟨_,ae (aZ (aX fU (pv 0) (gY rfl X.k3) (bc _)) (af (aq (cn cW hr rfl (aa (pv 1) ab)))) aC)
  (ae (aZ (PW.pt (jl (aX fU (pv 0) (gY rfl X.k5) (bc _)) (iI (aX fU (pv 0) (gY rfl X.k7) (bc _))))) (af (aq (cn cT hr rfl (aa (pv 1) ab)))) aC)
  (af (aq (fM (Ig hr.units) (pv 1) (fN ab) (bc _))))),?_⟩
 refine⟨_,rfl,rfl,_,rfl,aW (fun c=> ?_) (fun c=> ?_)⟩
 .exact⟨_,rfl,a,l,rfl,hl,by omega,fun H1 s1=>k _ H1 (by unfold er;rw[afj (mX c)]) s1⟩
 have n3:=mY c
 suffices hk:¬(z=5\/z=7)->_ by
  have tx:(z=5\/z=7)->∀H1,ax H H1->Q (.bl (dG l 0 30 32 126)) H1:=fun q H1 s1=>k _ H1 (by unfold er;rw[afe n3,afj q]) s1
  refine⟨_,rfl,rfl,_,rfl,aW (fun c1=> ?_) (fun c1=> ?_)⟩
  .exact⟨_,rfl,a,l,rfl,hl,by omega,tx (.inl (mX c1))⟩
  .refine⟨_,rfl,rfl,_,rfl,aW (fun c2=> ?_) (fun c2=>hk fun q=>q.elim (mY c1) (mY c2))⟩;exact⟨_,rfl,a,l,rfl,hl,by omega,tx (.inr (mX c2))⟩
 intro n57;refine⟨_,rfl,afH _,fun H1 m nm s1 h1=>⟨a,m,l,[],rfl,rfl,s1.seq hl,aJ.of h1,k _ H1 ?_ s1⟩⟩;unfold er;rw[afe n3,afe n57,ahm]
abbrev FL:afR:=dC 87
theorem Ly:au ["row","start"] ["row","start"] (ai FL):=cF
theorem Hn(F:b9 K "change_end" "change_end" FL f fd):aT P w K mg base bX 1 f fd ["row","start"] (oY K):=by
 refine cz F Ly fun _ _ _ _ H _ Q E hr h=> ?_
 obtain⟨a,l,st,z,rfl,hl,r9,k⟩:=h;exact⟨_,af (aq (bx eh (bx eh (pv 1) ag) (aG aA (pv 0) (bx eh (pv 1) ag)))),_,rfl,_,_,rfl,rfl,_,rfl,_,rfl,_,_,rfl,rfl,a,_,_,.int z,rfl,rfl,hl,gE (j:=st+4) (by show(st:Int)+4=_;omega) (by rw[afy,r9];rfl),_,_,rfl,rfl,k⟩
abbrev MD:afR:=dC 88
theorem IQ:au ["row","start","end"] ["row","start"] (ai MD):=cF
theorem K6(F:b9 K "is_change" "is_change" MD f fd)(G:lN mg)(cH:Ca P w K mg base 1 "is_head" ["head"] (AW K))(cE:Ca P w K mg base 1 "change_end" ["row","start"] (oY K))(cB:Ca P w K mg base 3 "are_bytes_of" ["kind","row"] (pS K)):aT P w K mg base bX 4 f fd ["row","start"] (AY K):=by
 refine cz F IQ fun _ _ _ _ H _ Q E hr h=> ?_
 obtain⟨a,l,st,rfl,hl,hz,k⟩:=h;have nd:=IQ.nd;refine⟨_,ae (aZ (bu (bf (cn cH hr rfl (aa (dq mn (pv 0) (cv (pv 1)) (cv (bx eh (pv 1) ag))) ab)))) (af (aq dy)) aC)
  (ae (cY 2 nd (cn cE hr rfl (aa (pv 0) (aa (pv 1) ab))))
  (af (aq (w8 (fM gT (pv 2) (aN ay rfl G.len agq (aa (pv 0) ab)) (bc _)) (lu (cn cB hr rfl (aa (aG aA (pv 0) (pv 1)) (aa (dq mn (pv 0) (cv (bx eh (pv 1) ag)) (cv (pv 2))) ab)))))))),?_⟩
 refine⟨_,rfl,_,rfl,_,rfl,_,rfl,_,_,rfl,rfl,_,rfl,a,l,rfl,hl,fun H1 m nm s1 h1=> ?_⟩;have e1:iq l (some (st:Int)) (some ((st:Int)+5))=(l.drop st).take 5:=by
  have:=mJ l st (st+5);rw[show((st+5:Nat):Int)=(st:Int)+5 by omega]at this;rw[this,aiD,ag8]
 rw[show iq l (some (st:Int)) (some ((st:Int)+5))=_ from e1]at h1;have no:∀(H':Hp),ax H H'->¬zR (l.drop st)->Q (.bl false) H':=fun H' s1 z=>k false _ ⟨fun q=>(by cases q),fun q=>absurd q z⟩ s1
 refine⟨m,_,rfl,aJ.of h1,by rw[afY];exact amE _ _,fun b H2 hb s2=>⟨_,rfl,aW (fun c=> ?_) (fun c=> ?_)⟩⟩
 .refine no _ (s1.trans s2) fun z=> ?_
  obtain⟨k0,a0,b0,c0,n0,r0,e,hh,_⟩:=M0.mp z;rw[e]at hb;rw[hb.mpr hh]at c;cases c
 have yz:b=true:=by
  cases q:b with
  |true=>rfl
  |false=>exact absurd (by rw[q];rfl) c
 have hh:=hb.mp yz;obtain⟨k0,a0,b0,c0,n0,e5,VY,_⟩:=hh.ex;have ed:∃r0,l.drop st=k0::a0::b0::c0::n0::r0:=⟨(l.drop st).drop 5,by
  have:=agK 5 (l.drop st);rw[e5]at this;exact this.symm⟩
 obtain⟨r0,ed⟩:=ed;have cG:∀j:Nat,l[st+j]? =(k0::a0::b0::c0::n0::r0)[j]? :=fun j=>by rw[<-ed,ahZ]
 have Qv:0<=n0:=(VY n0 (by simp)).1;have bY:l.length=st+5+r0.length:=by
  have:=congrArg ahP ed;rw[agr]at this;simp only[afr]at this;omega
 rw[e5]at hh;have ur:zR (l.drop st)↔n0.toNat<=r0.length/\er k0 (r0.take n0.toNat):=by
  rw[M0];constructor
  .rintro⟨_,_,_,_,_,_,e,_,h1,h2⟩;rw[ed]at e;injection e with e1 e;injection e with e2 e;injection e with e3 e;injection e with e4 e;injection e with e5 e
   subst e1;subst e5;subst e;exact⟨h1,h2⟩
  .rintro⟨h1,h2⟩;exact⟨_,_,_,_,_,_,ed,hh,h1,h2⟩
 have QB:=s1.trans s2;have Cc:=QB.seq hl;refine⟨_,rfl,_,rfl,a,l,st,n0,rfl,Cc,cG 4,?_⟩;refine⟨_,rfl,_,rfl,a,_,rfl,.inl Cc,_,_,rfl,rfl,_,rfl,aW (fun c1=> ?_) (fun c1=> ?_)⟩
 .have U6:=afh c1;rw[afb]at U6;have qm:n0.toNat<=r0.length:=by omega
  refine⟨_,rfl,_,rfl,a,_,_,.int k0,rfl,rfl,Cc,gE (j:=st) rfl (by rw[afy,show l[st]? =some k0 from cG 0];rfl),?_⟩;refine⟨_,rfl,_,rfl,_,_,rfl,rfl,_,rfl,_,rfl,_,rfl,a,l,rfl,Cc,fun H3 m3 Xm s3 h3=> ?_⟩;have e2:iq l (some ((st:Int)+5)) (some ((st:Int)+5+n0))=r0.take n0.toNat:=by
   have:=mJ l (st+5) (st+5+n0.toNat);rw[show((st+5:Nat):Int)=(st:Int)+5 by omega,show((st+5+n0.toNat:Nat):Int)=(st:Int)+5+n0 by omega]at this;rw[this,aiD,ag8,<-ahC,ed];rfl
  rw[show iq l (some ((st:Int)+5)) (some ((st:Int)+5+n0))=_ from e2]at h3;exact⟨k0,m3,_,rfl,aJ.of h3,by rw[afY];omega,fun b4 H4 MZ s4=>k b4 H4 (MZ.trans ⟨fun q=>ur.mpr ⟨qm,q⟩,fun q=>(ur.mp q).2⟩) (QB.trans (s3.trans s4))⟩
 .refine no _ QB fun z=>c1 (afl ?_)
  have:=(ur.mp z).1;rw[afb];show(st:Int)+5+n0<=_;omega
abbrev Q6:afR:=dC 89
theorem NN:au ["row","start"] ["row"] (ai Q6):=cF
theorem O4(F:b9 K "are_changes" "are_changes" Q6 f fd)(G:lN mg)(cI:Ca P w K mg base 4 "is_change" ["row","start"] (AY K))(cE:Ca P w K mg base 1 "change_end" ["row","start"] (oY K)):aT P w K mg base bX 5 f fd ["row"] (Jc K):=by
 refine cz F NN fun _ _ _ _ H _ Q E hr h=> ?_
 obtain⟨a,l,rfl,hl,hz,k⟩:=h;have nd:=NN.nd;refine⟨_,ae (cY 1 nd ag)
  (ae (sP af3 (aX vm (pv 1) (aN ay rfl G.len agq (aa (pv 0) ab)) (bc _))
   (ae (aZ (bu (bf (cn cI hr rfl (aa (pv 0) (aa (pv 1) ab))))) (af (aq dy)) aC)
   (af (cY 1 nd (cn cE hr rfl (aa (pv 0) (aa (pv 1) ab)))))))
  (af (aq dy))),?_⟩
 show tS _ _ _ [some (.ref a),some (.int 0)] H;refine tX (fun σ H'=>∃(st f:Nat),σ=[some (.ref a),some (vn st)]/\ax H H'/\st<=l.length/\(l.drop st).length<=f/\(ag7 l.length l).isSome=(ag7 f (l.drop st)).isSome) (fun σ _=>match σ with| [_,some (.int z)]=>l.length-z.toNat|_=>0) ⟨0,l.length,rfl,ax.refl H,afH _,afp _,rfl⟩ ?_ (fun σ H Q Q' f ⟨v,h1,w,h2,p,ys,h3,h4,i,j,h5,h6,kk,h7,q⟩=>⟨v,h1,w,h2,p,ys,h3,h4,i,j,h5,h6,kk,h7,f _ _ q⟩);rintro σ H' ⟨st,f,rfl,s1,yG,hf,he⟩;have ql:=s1.seq hl;refine⟨_,rfl,_,rfl,a,_,rfl,.inl ql,_,_,rfl,rfl,_,rfl,aW (fun c=> ?_) (fun c=> ?_)⟩
 .have c':=afh c;rw[afb]at c';have gh:l.drop st≠ []:=fun z=>by
   have:=congrArg ahP z;rw[agr]at this;simp at this;omega
  have hf0:0<f:=by rw[agr]at hf;omega
  obtain⟨f',rfl⟩:∃f',f=f'+1:=⟨f-1,by omega⟩;refine⟨_,rfl,_,rfl,a,l,st,rfl,ql,hz,fun b H2 hb s2=>⟨_,rfl,aW (fun c1=> ?_) (fun c1=> ?_)⟩⟩
  .have e9:¬zR (l.drop st):=fun z=>by rw[hb.mpr z]at c1;cases c1
   have:=k _ (s1.trans s2);rw[he,Hi gh e9]at this;exact this
  .have yz:b=true:=by
    cases q:b with
    |true=>rfl
    |false=>exact absurd (by rw[q];rfl) c1
   obtain⟨k0,a0,b0,c0,n0,r0,ed,ok⟩:=hb.mp yz;obtain⟨d,h1,_,h3⟩:=Bk (f:=f') ok;have cG:l[st+4]? =some n0:=by
    have:l[st+4]? =(l.drop st)[4]? :=by rw[ahZ]
    rw[this,ed];rfl
   have Qv:0<=n0:=(ok.all n0 (by simp)).1;refine⟨_,rfl,_,rfl,a,l,st,n0,rfl,(s1.trans s2).seq hl,cG,?_⟩;have bY:l.length=st+5+r0.length:=by
    have:=congrArg ahP ed;rw[agr]at this;simp only[afr]at this;omega
   have Cb:l.drop (st+5+n0.toNat)=r0.drop n0.toNat:=by
    rw[<-ahC,<-ahC,ed];rfl
   have qm:=ok.len;refine⟨⟨st+5+n0.toNat,f',?_,s1.trans s2,by omega,?_,?_⟩,?_⟩
   .show [some (V.ref a),some (V.int ((st:Int)+5+n0))]=_;rw[show(st:Int)+5+n0=((st+5+n0.toNat:Nat):Int) by omega]
   .rw[agr]at hf⊢;omega
   .rw[he,ed,h3,Cb];cases ag7 f' (r0.drop n0.toNat)<;>rfl
   .show l.length-((st:Int)+5+n0).toNat<l.length-((st:Nat):Int).toNat;omega
 .have c':¬((st:Int)<((l.map V.int).length:Nat)):=fun z=>c (afl z)
  rw[afb]at c';have:l.drop st=[]:=agt (by omega);rw[this]at he;have hk:=k _ s1;rw[he]at hk;cases f<;>exact hk
structure N0(mg:Str->Option afg):Prop where
 le:∃t,mg "LINE_END"=some (.int 10 t)
 bl:∃t,mg "BLANK"=some (.int 32 t)
 da:∃t,mg "DASH"=some (.int 45 t)
 dt:∃t,mg "DOT"=some (.int 46 t)
 ze:∃t,mg "ZERO"=some (.int 48 t)
 ni:∃t,mg "NINE"=some (.int 57 t)
 gr:∃t,mg "GREATEST_reading"=some (.int 99 t)
inductive CM(K:afW)(x:V)(y:V)(H:Hp)(Q:VK):Prop|m:∀(c:Nat) (a:afd) (l:List Nat),x=vn c->y= .ref a->aJ K H a (l.map vn)->Q (.bl (!decide (c∈l))) H->CM K x y H Q
theorem vo:nY X (compareOp .NotIn) (CM X.K):=by
 intro pins s σ H x y u v Q I rx ry ⟨c,a,l,e1,e2,h1,q⟩;subst e1;subst e2;refine j2 pins s σ H _ _ u v Q I rx ry ⟨a,_,rfl,.inl h1,rfl,g9 l,?_⟩;show Q (.bl (!Fs (vn c) (l.map vn))) H;rw[kQ];exact q
inductive CK(K:afW)(x:V)(xs:List V)(H:Hp)(Q:VK):Prop|m:∀(a:afd) (c:Nat) (u v:List Nat),x= .ref a->xs=[vn c]->aJ K H a ((u++c::v).map vn)->¬c∈u->Q (vn u.length) H->CK K x xs H Q
theorem vh:UQ X "list.index" (CK X.K):=by
 intro pins s σ H x xs v us Q I rx XG ⟨a,c,u,w,e1,e2,h1,hn,q⟩;subst e1;subst e2;refine yQ pins s σ H _ _ v us Q I rx XG ⟨a,_,vn c,u.length,vn c,rfl,rfl,h1,rfl,g9 _,?_,ahv _,fun m z' hm hz=> ?_,q⟩
 .rw[afy,agv (afp _),akZ];rfl
 .rw[afy,agM hm]at hz;obtain⟨y,hy,e⟩:∃y,u[m]? =some y/\vn y=z':=by
   cases q:u[m]? with
   |none=>rw[q]at hz;cases hz
   |some y=>rw[q]at hz;exact⟨y,rfl,afv hz⟩
  rw[<-e];refine agU.mpr (show(y:Int)≠(c:Int)from fun z=>hn ?_);have:y=c:=by omega
  rw[<-this];exact afq hy
theorem iy{m:List Nat}:l.map nat=m.map nat↔l=m:=by
 constructor
 .intro h;have:=congrArg (fun z=>z.map Int.toNat) h;simpa [nat,Function.comp_def]using this
 .intro h;rw[h]
inductive tI(p:List Nat->Prop)(vs:List V)(H:Hp)(Q:VK)(E:XK):Prop|m:∀(a:afd) (l:List Nat),vs=[.ref a]->NL H a l->l.length<=20000->(∀(b:Bool) (H':Hp),(b=true↔p l)->ax H H'->Q (.bl b) H')->tI p vs H Q E
theorem A2(h:NL H a l):aJ K H a ((l.map nat).map V.int):=aJ.of (jx h)
theorem Cy(h:IL H a ((l.map nat).take j)):NL H a (l.take j):=gD (by rw[aiM];exact h)
theorem Cw(h:IL H a ((l.map nat).drop j)):NL H a (l.drop j):=gD (by rw[ajA];exact h)
abbrev vZ:afR:=dC 119
theorem C0:au ["row","sign"] ["row"] (ai vZ):=cF
theorem JT:iK ["row","sign"] (ai vZ) (OP (cq vZ) 1) [("sign",1)]:=⟨rfl,by decide+kernel,by decide+kernel,by decide+kernel,by decide+kernel⟩
theorem HD(F:b9 K "is_number" "is_number" vZ f fd)(G:lN mg)(X:N0 mg):aT P w K mg base bX 1 f fd ["row"] (tI nX):=by
 refine cz F C0 fun _ _ _ _ H _ Q E hr h=> ?_
 obtain⟨a,l,rfl,hl,hz,k⟩:=h;have nd:=C0.nd;refine⟨_,ae (aZ (bu (lD gT gT ag (aN ay rfl G.len agq (aa (pv 0) ab)) ag)) (af (aq dy)) aC)
  (ae (aZ (bu (bf (aN (rI rfl) rfl G.all amh (aa (mv (own:=[("sign",1)]) rfl nd (bO (pv 0)) JT (fun _ _ _ _ _=>hJ 1 nd) (fun _ _ _ _ _=>j5) (fun _ _ _ _ _=>sJ gT gT (gY rfl X.ze) (pv 1) (gY rfl X.ni))) ab)))) (af (aq dy)) aC)
  (af (aq (CC (fM fU (aN ay rfl G.len agq (aa (pv 0) ab)) ag (bc _)) (lu (fM yY (aG aA (pv 0) ag) (gY rfl X.ze) (bc _))))))),?_⟩
 have no:∀(H':Hp),ax H H'->¬nX l->Q (.bl false) H':=fun H' s1 z=>k false _ ⟨fun q=>(by cases q),fun q=>absurd q z⟩ s1
 have el:((l.map vn).length:Int)=(l.length:Int):=by rw[afb]
 refine⟨_,rfl,a,_,rfl,.inl (aJ.of hl),_,_,rfl,rfl,_,rfl,aW (fun c1=> ?_) (fun c1=>⟨_,rfl,no _ (ax.refl H) fun z=>c1 (afl ?_)⟩)⟩
 case refine_2=>rw[el];have:=z.1.1;omega
 have U6:=afh c1;rw[el]at U6;refine⟨_,_,rfl,rfl,_,rfl,aW (fun c2=>no _ (ax.refl H) fun z=>dU c2 ?_) (fun c2=> ?_)⟩
 .rw[el];have:=z.1.2;omega
 have c2':=cX c2;rw[el]at c2';have Qn:1<=l.length/\l.length<=2:=⟨by omega,by omega⟩;refine⟨_,rfl,a,rfl,⟨_,A2 hl⟩,fun D hD=>wF (fun z=>decide (48<=z/\z<=57)) hD (A2 hl) (by rw[afb];omega) (fun z H' R q=>⟨rfl,_,rfl,_,_,rfl,rfl,_,rfl,aW (fun d1=>⟨_,_,rfl,rfl,?_⟩) (fun d1=> ?_)⟩) (fun H1 s1 h1=>⟨D,_,rfl,aJ.of h1,_,rfl,aW (fun c3=> ?_) (fun c3=> ?_)⟩) BZ⟩
 .show R (V.bl (decide (z<=57))) H';rw[show decide (z<=57)=decide (48<=z/\z<=57)from agB.mpr ⟨fun q=>⟨afh d1,q⟩,fun q=>q.2⟩];exact q
 .rw[show false=decide (48<=z/\z<=57)from(agd fun q=>d1 (afl q.1)).symm];exact q
 .refine no _ s1 fun z=> ?_
  have:(((l.map nat).map fun z=>decide (48<=z/\z<=57)).all id)=true:=by
   rw[ag5,ag5,af6];intro y hy;have:=z.2.1 y hy;exact afl (show(48:Int)<=(y:Int)/\(y:Int)<=57 by omega)
  rw[this]at c3;cases c3
 have gI:∀y∈l,48<=y/\y<=57:=fun y hy=>by
  have:(((l.map nat).map fun z=>decide (48<=z/\z<=57)).all id)=true:=by
   cases q:(((l.map nat).map fun z=>decide (48<=z/\z<=57)).all id)with
   |true=>rfl
   |false=>exact absurd (by rw[q];rfl) c3
  rw[ag5,ag5,af6]at this;have q:(48:Int)<=(y:Int)/\(y:Int)<=57:=afh (this y hy);omega
 have ql:=s1 _ _ hl;refine⟨_,rfl,a,_,rfl,.inl (aJ.of ql),rfl,_,rfl,aW (fun c4=> ?_) (fun c4=> ?_)⟩
 .have c5:=mX c4;rw[el]at c5;exact k true _ ⟨fun _=>⟨Qn,gI,.inl (by omega)⟩,fun _=>rfl⟩ s1
 .have c5:=mY c4;rw[el]at c5
  match l,Qn,gI,ql,c5,k with
  | [x,y],Qn,gI,ql,c5,k=>
   refine⟨_,rfl,a,_,_,vn x,rfl,rfl,aJ.of ql,gE (j:=0) rfl rfl,rfl,k _ _ ⟨fun q=>⟨Qn,gI,.inr fun z=> ?_⟩,fun q=> ?_⟩ s1⟩
   .have:x=48:=afv z;rw[this]at q;exact absurd q (by decide)
   .rcases q.2.2 with z|z
    .exact absurd (show 2=1 from z) (by decide)
    .rw[agd fun q=>z (show some x=some 48 by injection q with q;rw[show x=48 by omega])];rfl
  | [x],_,_,_,c5,_=>exact absurd rfl c5
  | [],Qn,_,_,_,_=>exact absurd Qn.1 (by decide)
abbrev F1:afR:=dC 120
theorem C1:au ["row","dot"] ["row"] (ai F1):=cF
theorem HE(F:b9 K "is_pointer" "is_pointer" F1 f fd)(X:N0 mg)(cN:Ca P w K mg base 1 "is_number" ["row"] (tI nX)):aT P w K mg base bX 2 f fd ["row"] (tI qe):=by
 refine cz F C1 fun _ _ _ _ H _ Q E hr h=> ?_
 obtain⟨a,l,rfl,hl,hz,k⟩:=h;have nd:=C1.nd;refine⟨_,ae (aZ (aX (Ig hr.units) (pv 0) (fN (aa (gY rfl X.da) ab)) (bc _)) (af (aq dy)) aC)
  (ae (aZ (aX vo (gY rfl X.dt) (pv 0) (by with_unfolding_all rfl)) (af (aq dy)) aC)
  (ae (cY 1 nd (cy afs ah9 ai1 vh (pv 0) (aa (gY rfl X.dt) ab)))
  (af (aq (w8 (cn cN hr rfl (aa (dq mn (pv 0) hX (cv (pv 1))) ab)) (lu (cn cN hr rfl (aa (dq mn (pv 0) (cv (bx eh (pv 1) ag)) hX) ab)))))))),?_⟩
 refine⟨_,rfl,jv,fun H1 m nm s1 h1=>⟨a,m,l.map nat,[45],rfl,rfl,A2 (s1 _ _ hl),aJ.of h1,_,rfl,aW (fun c=> ?_) (fun c=> ?_)⟩⟩
 .have e:l=[45]:=iy.mp (afh c);exact k true _ ⟨fun _=> .inl e,fun _=>rfl⟩ s1
 have gh:l≠ [45]:=fun z=>c (afl (by rw[z];rfl))
 have ql:=s1 _ _ hl;refine⟨_,rfl,46,a,l,rfl,rfl,aJ.of ql,_,rfl,aW (fun c1=> ?_) (fun c1=> ?_)⟩
 .refine k false _ ⟨fun q=>(by cases q),fun q=> ?_⟩ s1;rcases q with z|⟨u,v,e,_⟩
  .exact absurd z gh
  .exact absurd (by rw[e];simp) (dU c1)
 have h46:=cX c1;obtain⟨u,v,rfl,hu⟩:=lJ h46;refine⟨_,rfl,.inl ⟨rfl,_,aJ.of ql⟩,a,46,u,v,rfl,rfl,aJ.of ql,hu,?_⟩;have ur:qe (u++46::v)↔nX u/\nX v:=by
  constructor
  .rintro(z|⟨u',v',e,Nd,h1,h2⟩)
   .exact absurd z gh
   .have:u=u'/\v=v':=by
     have q:=lT (s:=46) (b:=v) hu;rw[e,lT (s:=46) (b:=v') Nd]at q;have e1:=(aiP q).1;subst e1;exact⟨rfl,(aiP (aie e)).2⟩
    rw[this.1,this.2];exact⟨h1,h2⟩
  .rintro⟨h1,h2⟩;exact .inr ⟨u,v,rfl,hu,h1,h2⟩
 have bY:(u++46::v).length=u.length+1+v.length:=by rw[afc,afr];omega
 refine⟨_,rfl,_,rfl,_,rfl,a,_,rfl,A2 ql,fun H2 m2 ZR s2 h2=> ?_⟩;rw[vU]at h2;have Kh:=Cy h2;rw[aio rfl]at Kh;refine⟨m2,u,rfl,Kh,by omega,fun b3 H3 RJ s3=>⟨_,rfl,aW (fun c3=> ?_) (fun c3=> ?_)⟩⟩
 .refine⟨_,rfl,_,rfl,_,_,rfl,rfl,_,rfl,a,_,rfl,A2 (s3 _ _ (s2 _ _ ql)),fun H4 m4 nm4 s4 h4=> ?_⟩;have e4:=rK ((u++46::v).map nat) (u.length+1);rw[show((u.length+1:Nat):Int)=(u.length:Int)+1 by omega]at e4;rw[show iq ((u++46::v).map nat) (some ((u.length:Int)+1)) none=_ from e4]at h4;have Kj:=Cw h4;rw[akL,agt (by omega),agV,ag8]at Kj;exact⟨m4,v,rfl,Kj,by omega,fun b5 H5 DO s5=>k b5 H5 (DO.trans ⟨fun q=>ur.mpr ⟨RJ.mp c3,q⟩,fun q=>(ur.mp q).2⟩) (s1.trans (s2.trans (s3.trans (s4.trans s5))))⟩
 .exact k false _ ⟨fun q=>(by cases q),fun q=>absurd (RJ.mpr (ur.mp q).1) c3⟩ (s1.trans (s2.trans s3))
theorem IF(r:List Nat):dG (r.map nat) 1 12 97 122=alM r:=by
 unfold dG alM;rw[afb,ag5];congr 1;refine amV rfl fun c=> ?_
 exact agB.mpr ⟨fun q=>⟨by have:=q.1;show 97<=c;simp[nat]at this;omega,by have:=q.2;show c<=122;simp[nat]at this;omega⟩,fun q=>⟨by simp[nat];omega,by simp[nat];omega⟩⟩
theorem Lu(r:List Nat):dG (r.map nat) 0 30 32 126=ajS r:=by
 unfold dG ajS;rw[afb,ag5];congr 1
 .exact agB.mpr ⟨fun q=>q.2,fun q=>⟨afH _,q⟩⟩
 refine amV rfl fun c=> ?_
 exact agB.mpr ⟨fun q=>⟨by have:=q.1;simp[nat]at this;omega,by have:=q.2;simp[nat]at this;omega⟩,fun q=>⟨by simp[nat];omega,by simp[nat];omega⟩⟩
inductive Jd(vs:List V)(H:Hp)(Q:VK)(E:XK):Prop|m:∀(a:afd) (t:List Nat) (e:Nat),vs=[.ref a,vn e]->NL H a t->t.length<=20000->e<1000000->(∀(b:Bool) (H':Hp),(b=true↔rB t e)->ax H H'->Q (.bl b) H')->Jd vs H Q E
inductive Jf(vs:List V)(H:Hp)(Q:VK)(E:XK):Prop|m:∀(a:afd) (t:List Nat) (e i:Nat),vs=[.ref a,vn e,vn i]->NL H a t->t.length<=20000->e<1000000->i<1000000->(∀(b:Bool) (H':Hp),(b=true↔qf t e i)->ax H H'->Q (.bl b) H')->Jf vs H Q E
theorem q0{hd:List Nat}:t.take hd.length=hd↔∃r,t=hd++r:=by
 constructor
 .intro h;exact⟨t.drop hd.length,by conv=>lhs;rw[<-agK hd.length t,h]⟩
 .rintro⟨r,rfl⟩;exact aio rfl
abbrev Q7:afR:=dC 121
theorem NO:au ["line","place","head"] ["line","place"] (ai Q7):=cF
theorem O5(F:b9 K "is_entry_line" "is_entry_line" Q7 f fd)(G:lN mg)(X:N0 mg)(cE:Ca P w K mg base 2 "entry_head" ["place"] rn)(cW:Ca P w K mg base 2 "is_word" ["row"] (JK K fun r=>dG r 1 12 97 122)):aT P w K mg base bX 3 f fd ["line","place"] Jd:=by
 refine cz F NO fun _ _ _ _ H _ Q E hr h=> ?_
 obtain⟨a,t,e,rfl,hl,hz,he,k⟩:=h;have nd:=NO.nd;refine⟨_,ae (cY 2 nd (cn cE hr rfl (aa (pv 1) ab)))
  (ae (aZ (PW.pt (jl (aX oF (pv 1) (gY rfl X.gr) (bc _)) (iI (aX (AE hr.units) (dq mn (pv 0) hX (cv (aN ay rfl G.len agq (aa (pv 2) ab)))) (pv 2) (bc _))))) (af (aq dy)) aC)
  (af (aq (cn cW hr rfl (aa (dq mn (pv 0) (cv (aN ay rfl G.len agq (aa (pv 2) ab))) hX) ab))))),?_⟩
 refine⟨_,rfl,e,rfl,he,fun H1 m nm hm s1=> ?_⟩;have ql:=s1 _ _ hl;have no:∀(H':Hp),ax H H'->¬rB t e->Q (.bl false) H':=fun H' s1 z=>k false _ ⟨fun q=>(by cases q),fun q=>absurd q z⟩ s1
 refine⟨_,rfl,_,_,rfl,rfl,_,rfl,aW (fun c=> ?_) (fun c=> ?_)⟩
 .refine no _ s1 fun z=> ?_
  have c':=afh c;have:=z.1;omega
 have Qo:e<=99:=by
  have:¬(99:Int)<(e:Int):=fun z=>c (afl z)
  omega
 generalize Wo:aho e++ [32]=hd at hm;have DU:rB t e↔∃r,t=hd++r/\alM r=true:=by
  unfold rB;rw[Wo];exact⟨fun q=>q.2,fun q=>⟨Qo,q⟩⟩
 refine⟨_,rfl,_,rfl,m,_,rfl,.inl (aJ.of hm),_,rfl,a,_,rfl,A2 ql,fun H2 m2 ZR s2 h2=> ?_⟩;rw[show(((hd.map vn).length:Nat):Int)=((hd.length:Nat):Int) by rw[afb],vU]at h2;refine⟨_,rfl,m2,m,(t.take hd.length).map nat,hd.map nat,rfl,rfl,by rw[aiM];exact aJ.of h2,A2 (s2 _ _ hm),_,rfl,aW (fun c1=> ?_) (fun c1=> ?_)⟩
 .refine no _ (s1.trans s2) fun z=>dU c1 (iy.mpr (q0.mpr ?_))
  obtain⟨r,Fq,_⟩:=DU.mp z;exact⟨r,Fq⟩
 obtain⟨r,rfl⟩:=q0.mp (iy.mp (cX c1));refine⟨_,rfl,_,rfl,m,_,rfl,.inl (aJ.of (s2 _ _ hm)),_,rfl,a,_,rfl,A2 (s2 _ _ ql),fun H3 m3 Xm s3 h3=> ?_⟩;rw[show(((hd.map vn).length:Nat):Int)=((hd.length:Nat):Int) by rw[afb],rK,<-ajA,ajT rfl]at h3;refine⟨m3,_,rfl,aJ.of h3,by rw[afb];rw[afc]at hz;omega,fun H4 s4=>k _ H4 ?_ (s1.trans (s2.trans (s3.trans s4)))⟩;show dG (r.map nat) 1 12 97 122=true↔_;rw[IF,DU];exact⟨fun q=>⟨r,rfl,q⟩,fun⟨r',e',q⟩=>by rw[aie e'];exact q⟩
abbrev Rb:afR:=dC 122
theorem NP:au ["line","entry_place","sense_place","head","rest","blank"] ["line","entry_place","sense_place"] (ai Rb):=cF
theorem O9(F:b9 K "is_sense_line" "is_sense_line" Rb f fd)(G:lN mg)(X:N0 mg)(cS:Ca P w K mg base 2 "sense_head" ["number"] (rA K))(cP:Ca P w K mg base 2 "is_pointer" ["row"] (tI qe))(cT:Ca P w K mg base 2 "is_text" ["row"] (JK K fun r=>dG r 0 30 32 126)):aT P w K mg base bX 3 f fd ["line","entry_place","sense_place"] Jf:=by
 refine cz F NP fun _ _ _ _ H _ Q E hr h=> ?_
 obtain⟨a,t,e,i,rfl,hl,hz,he,hi,k⟩:=h;have nd:=NP.nd;refine⟨_,ae (cY 3 nd (cn cS hr rfl (aa (Xx (aa (pv 1) (aa (pv 2) ab))) ab)))
  (ae (aZ (PW.pt (jl (aX oF (pv 2) (gY rfl X.gr) (bc _)) (iI (aX (AE hr.units) (dq mn (pv 0) hX (cv (aN ay rfl G.len agq (aa (pv 3) ab)))) (pv 3) (bc _))))) (af (aq dy)) aC)
  (ae (cY 4 nd (dq mn (pv 0) (cv (aN ay rfl G.len agq (aa (pv 3) ab))) hX))
  (ae (aZ (aX vo (gY rfl X.bl) (pv 4) (by with_unfolding_all rfl)) (af (aq dy)) aC)
  (ae (cY 5 nd (cy afs ah9 ai1 vh (pv 4) (aa (gY rfl X.bl) ab)))
  (af (aq (w8 (cn cP hr rfl (aa (dq mn (pv 4) hX (cv (pv 5))) ab)) (lu (cn cT hr rfl (aa (dq mn (pv 4) (cv (bx eh (pv 5) ag)) hX) ab)))))))))),?_⟩
 refine⟨_,rfl,_,rfl,xQ,fun H0 tu Xs s0 htu=>⟨tu,e,i,rfl,gF.of htu,he,hi,fun H1 m nm hm s01=> ?_⟩⟩;have s1:=s0.trans s01;have ql:=s1 _ _ hl;have no:∀(H':Hp),ax H H'->¬qf t e i->Q (.bl false) H':=fun H' s1 z=>k false _ ⟨fun q=>(by cases q),fun q=>absurd q z⟩ s1
 refine⟨_,rfl,_,_,rfl,rfl,_,rfl,aW (fun c=> ?_) (fun c=> ?_)⟩
 .refine no _ s1 fun z=> ?_
  have c':=afh c;have:=z.1;omega
 have Qo:i<=99:=by
  have:¬(99:Int)<(i:Int):=fun z=>c (afl z)
  omega
 generalize Wo:pair (e,i)++ [32]=hd at hm;have DU:qf t e i↔∃p x,t=hd++(p++32::x)/\¬32∈p/\qe p/\ajS x=true:=by
  unfold qf;rw[Wo];exact⟨fun q=>q.2,fun q=>⟨Qo,q⟩⟩
 refine⟨_,rfl,_,rfl,m,_,rfl,.inl (aJ.of hm),_,rfl,a,_,rfl,A2 ql,fun H2 m2 ZR s2 h2=> ?_⟩;rw[show(((hd.map vn).length:Nat):Int)=((hd.length:Nat):Int) by rw[afb],vU]at h2;refine⟨_,rfl,m2,m,(t.take hd.length).map nat,hd.map nat,rfl,rfl,by rw[aiM];exact aJ.of h2,A2 (s2 _ _ hm),_,rfl,aW (fun c1=> ?_) (fun c1=> ?_)⟩
 .refine no _ (s1.trans s2) fun z=>dU c1 (iy.mpr (q0.mpr ?_))
  obtain⟨p,x,Fq,_⟩:=DU.mp z;exact⟨_,Fq⟩
 obtain⟨r,rfl⟩:=q0.mp (iy.mp (cX c1));refine⟨_,rfl,_,rfl,m,_,rfl,.inl (aJ.of (s2 _ _ hm)),_,rfl,a,_,rfl,A2 (s2 _ _ ql),fun H3 m3 Xm s3 h3=> ?_⟩;rw[show(((hd.map vn).length:Nat):Int)=((hd.length:Nat):Int) by rw[afb],rK,<-ajA,ajT rfl]at h3;have Fp:NL H3 m3 r:=gD h3;have mx:=s1.trans (s2.trans s3);refine⟨_,rfl,32,m3,r,rfl,rfl,aJ.of Fp,_,rfl,aW (fun c2=> ?_) (fun c2=> ?_)⟩
 .refine no _ mx fun z=>dU c2 ?_
  obtain⟨p,x,e',_⟩:=DU.mp z;rw[aie e'];simp
 obtain⟨u,v,rfl,hu⟩:=lJ (cX c2);have ur:qf (hd++(u++32::v)) e i↔qe u/\ajS v=true:=by
  rw[DU];constructor
  .rintro⟨p,x,e',hp,h1,h2⟩;have e2:=aie e';have q:=iV (r:=v) hu;rw[e2,iV (r:=x) hp]at q;injection q with q;injection q with q1 q2
   rw[<-q1,<-q2];exact⟨h1,h2⟩
  .rintro⟨h1,h2⟩;exact⟨u,v,rfl,hu,h1,h2⟩
 have bY:(hd++(u++32::v)).length=hd.length+(u.length+1+v.length):=by rw[afc,afc,afr];omega
 refine⟨_,rfl,.inl ⟨rfl,_,aJ.of Fp⟩,m3,32,u,v,rfl,rfl,aJ.of Fp,hu,?_⟩;refine⟨_,rfl,_,rfl,_,rfl,m3,_,rfl,A2 Fp,fun H4 m4 nm4 s4 h4=> ?_⟩;rw[vU]at h4;have Kj:=Cy h4;rw[aio rfl]at Kj;refine⟨m4,u,rfl,Kj,by omega,fun b5 H5 DO s5=>⟨_,rfl,aW (fun c5=> ?_) (fun c5=> ?_)⟩⟩
 .refine⟨_,rfl,_,rfl,_,_,rfl,rfl,_,rfl,m3,_,rfl,A2 (s5 _ _ (s4 _ _ Fp)),fun H6 m6 nm6 s6 h6=> ?_⟩;have e6:=rK ((u++32::v).map nat) (u.length+1);rw[show((u.length+1:Nat):Int)=(u.length:Int)+1 by omega]at e6;rw[show iq ((u++32::v).map nat) (some ((u.length:Int)+1)) none=_ from e6]at h6;have YO:=Cw h6;rw[akL,agt (by omega),agV,ag8]at YO;refine⟨m6,_,rfl,A2 YO,by rw[afb];show v.length<=_;omega,fun H7 s7=>k _ H7 ?_ (mx.trans (s4.trans (s5.trans (s6.trans s7))))⟩;show dG (v.map nat) 0 30 32 126=true↔_;rw[Lu,ur];exact⟨fun q=>⟨DO.mp c5,q⟩,fun q=>q.2⟩
 .exact k false _ ⟨fun q=>(by cases q),fun q=>absurd (DO.mpr (ur.mp q).1) c5⟩ (mx.trans (s4.trans s5))
structure qd(H:Hp)(as:List afd)(ls:List (List Nat)):Prop where
 len:as.length=ls.length
 cG:∀(i:Nat) (a:afd) (l:List Nat),as[i]? =some a->ls[i]? =some l->NL H a l
theorem qd.keep{S:List afd}{ls:List (List Nat)}(h:qd H as ls)(k:Kp S H H')(hs:∀a∈as,a∉S):qd H' as ls:=⟨h.len,fun i a l h1 h2=>k _ _ (h.cG i a l h1 h2) (hs a (afq h1))⟩
theorem qd.snoc{ls:List (List Nat)}(h:qd H as ls)(hx:NL H a l):qd H (as++ [a]) (ls++ [l]):=by
 refine⟨by rw[afc,afc,h.len];rfl,fun i y b h1 h2=> ?_⟩;rcases dE h1 with z1|⟨z1,z2⟩
 .rcases dE h2 with y1|⟨y1,y2⟩
  .exact h.cG i y b z1 y1
  .have:=(aff.mp z1).1;have:=h.len;omega
 .rcases dE h2 with y1|⟨y1,y2⟩
  .have:=(aff.mp y1).1;have:=h.len;omega
  .subst z2;subst y2;exact hx
inductive xC(vs:List V)(H:Hp)(Q:VK)(E:XK):Prop|m:∀(a:afd) (t:List Nat),vs=[.ref a]->NL H a t->t.length<=20000->(∀(H':Hp) (L:afd) (as:List afd),ax H H'->H' L=some (.ba (as.map V.ref))->qd H' as (ahM 10 t).dropLast->Q (.ref L) H')->xC vs H Q E
abbrev dn(t:List Nat):List (List Nat):=(ahM 10 t).dropLast
abbrev cr(t:List Nat):List Nat:=((ahM 10 t).getLast?).getD []
theorem rQ:dn (t++ [10])=dn t++ [cr t]/\cr (t++ [10])=[]:=by
 unfold dn cr;rw[ot,afj rfl,ajF,agI];exact⟨x9 t,rfl⟩
theorem yl{c:Nat}(h:c≠10):dn (t++ [c])=dn t/\cr (t++ [c])=cr t++ [c]:=by
 unfold dn cr;rw[ot,afe h,ajF,agI];exact⟨rfl,rfl⟩
theorem z7(t:List Nat):(dn t).length+(cr t).length<=t.length:=by
 refine jN (P:=fun t=>(dn t).length+(cr t).length<=t.length) (afp _) (fun t c ih=> ?_) t;by_cases h:c=10
 .subst h;rw[rQ.1,rQ.2,afc,afc];show(dn t).length+1+0<=t.length+1;omega
 .rw[(yl h).1,(yl h).2,afc,afc];show _<=t.length+1;show(dn t).length+((cr t).length+1)<=_;omega
abbrev F3:afR:=dC 123
theorem C3:au ["row","lines","line","sign"] ["row"] (ai F3):=cF
theorem HH(F:b9 K "ended_lines" "ended_lines" F3 f fd)(X:N0 mg):aT P w K mg base bX 1 f fd ["row"] xC:=by
 refine cz F C3 fun _ _ _ _ H _ Q E hr h=> ?_
 obtain⟨a,t,rfl,hl,hz,k⟩:=h;have nd:=C3.nd;refine⟨_,ae (cY 1 nd (fN ab)) (ae (cY 2 nd (fN ab))
  (ae (cM af3 rfl (bO (pv 0)) (hJ 3 nd)
   (af (aZ (aX fU (pv 3) (gY rfl X.le) (bc _))
    (ae (aI (cy afs age agj de (pv 1) (aa (pv 2) ab))) (af (cY 2 nd (fN ab))))
    (af (aI (cy afs age agj de (pv 2) (aa (pv 3) ab)))))))
  (af (aq (pv 1))))),?_⟩
 refine⟨afH _,fun H1 L nL s1 hL=>⟨afH _,fun H2 c0 Xh s2 Y2=> ?_⟩⟩;have hnc:H c0=none:=s1.free Xh;refine⟨_,rfl,a,rfl,⟨_,aJ.of (s2 _ _ (s1 _ _ hl))⟩,cV (K:=K) (a:=a) (xs:=t.map vn) (fun i σ H'=>∃(v3:Option V) (c:afd) (as:List afd),σ=[some (.ref a),some (.ref L),some (.ref c),v3]/\ax H H'/\H' L=some (.ba (as.map V.ref))/\qd H' as (dn (t.take i))/\NL H' c (cr (t.take i))/\H c=none/\c≠L/\c∉as/\L∉as)
  ⟨none,c0,[],rfl,s1.trans s2,s2 _ _ hL,⟨rfl,fun i a l h1=>by simp at h1⟩,Y2,hnc,fun z=>(by rw[z,hL]at Xh;cases Xh),by simp,by simp⟩ (fun i σ H' _ ⟨_,_,_,_,s3,_⟩=>aJ.of (s3 _ _ hl)) ?_ ?_⟩
 .rintro i y σ H' hi ⟨v3,c,as,rfl,s3,JA,la,RO,nc,Uu,ZM,Xg⟩;obtain⟨x,hx,rfl⟩:=eg hi;have bY:=z7 (t.take i);have gV:(t.take i).length<=20000:=by rw[afY];omega
  rw[aS hx];refine⟨_,rfl,rfl,_,rfl,aW (fun e=> ?_) (fun e=> ?_)⟩
  .have ex:x=10:=by have:=mX e;omega
   subst ex;rw[rQ.1,rQ.2];refine⟨_,rfl,.inl ⟨rfl,_,aJ.of JA⟩,_,rfl,L,_,_,rfl,rfl,JA,by rw[afb,la.len];exact b8 (by omega),?_⟩;have kp:Kp [L] H' (aE H' L (.ba (as.map V.ref++ [.ref c]))):=Kp.gZ (by simp);have hu:aE H' L (.ba (as.map V.ref++ [.ref c])) L=some (.ba ((as++ [c]).map V.ref)):=by rw[aj,afD];rfl
   generalize aE H' L (.ba (as.map V.ref++ [.ref c]))=H4 at kp hu⊢;have s4:ax H H4:=fun b o q=>kp _ _ (s3 b o q) fun z=>(by rw[show b=L by simpa using z,nL]at q;cases q)
   have Kl:=kp _ _ RO (by simpa using Uu);have Us:=(la.keep kp fun a ha z=>Xg (by rw[<-show a=L by simpa using z];exact ha)).snoc Kl;refine⟨afH _,fun H5 c5 Ut s5 RP=>⟨_,c5,as++ [c],rfl,s4.trans s5,s5 _ _ hu,⟨Us.len,fun j b l q1 q2=>s5 _ _ (Us.cG j b l q1 q2)⟩,RP,s4.free Ut,fun z=>(by rw[z,hu]at Ut;cases Ut),fun z=> ?_,fun z=> ?_⟩⟩
   .obtain⟨j,hj⟩:=agc z;have hj2:j<(dn (t.take i)++ [cr (t.take i)]).length:=by rw[<-Us.len];exact(aff.mp hj).1
    have q:H4 c5=_:=Us.cG j c5 _ hj (afk hj2);rw[Ut]at q;cases q
   .rcases afN.mp z with q|q
    .exact Xg q
    .exact Uu (show L=c by simpa using q).symm
  .have ex:x≠10:=fun z=>mY e (by rw[z];rfl)
   rw[(yl ex).1,(yl ex).2];refine⟨_,rfl,.inl ⟨rfl,_,aJ.of RO⟩,_,rfl,c,_,_,rfl,rfl,RO,by rw[afb];exact b8 (by omega),?_⟩;have kp:Kp [c] H' (aE H' c (.ba ((cr (t.take i)).map vn++ [vn x]))):=Kp.gZ (by simp);refine⟨_,c,as,rfl,fun b o q=>kp _ _ (s3 b o q) fun z=>(by rw[show b=c by simpa using z,nc]at q;cases q),kp _ _ JA (by simpa using Uu.symm),la.keep kp fun a ha z=>ZM (by rw[<-show a=c by simpa using z];exact ha),?_,nc,Uu,ZM,Xg⟩;show L2.aE _ c _ c=_;rw[aj,afD];rfl
 .rintro σ H' ⟨v3,c,as,rfl,s3,JA,la,_⟩;rw[afb,afT]at la;exact⟨_,rfl,k H' L as s3 JA la⟩
inductive A1(vs:List V)(H:Hp)(Q:VK)(E:XK):Prop|m:∀(a:afd) (t:List Nat),vs=[.ref a]->NL H a t->t.length<=20000->(∀(H':Hp) (m:afd),H m=none->ax H H'->IL H' m (xb t)->Q (.ref m) H')->A1 vs H Q E
theorem KJ{c:Nat}(h:t.getLast? =some c):pB (t.map vn) (-1)=some (vn c):=by
 have e:=m9 h;rw[e,afD];exact FC _ _
theorem Kb(h:(dn t)[i]? =some l):l.length<=t.length:=by
 revert i l;refine jN (P:=fun t=>∀{i:Nat} {l:List Nat},(dn t)[i]? =some l->l.length<=t.length) (fun h=>by simp[dn,ahM]at h) (fun t c ih i l h=> ?_) t;rw[afc];by_cases e:c=10
 .subst e;rw[rQ.1]at h;rcases dE h with z|⟨_,z⟩
  .exact afw (ih z) (agP _ _)
  .rw[z];have:=z7 t;omega
 .rw[(yl e).1]at h;exact afw (ih h) (agP _ _)
abbrev MM:afR:=dC 124
theorem Ja:au ["row","lines","entries","senses","senses_here","place","line"] ["row"] (ai MM):=cF
theorem Le(F:b9 K "read" "read" MM f fd)(G:lN mg)(X:N0 mg)(cL:Ca P w K mg base 1 "ended_lines" ["row"] xC)(cE:Ca P w K mg base 3 "is_entry_line" ["line","place"] Jd)(cS:Ca P w K mg base 3 "is_sense_line" ["line","entry_place","sense_place"] Jf):aT P w K mg base bX 4 f fd ["row"] A1:=by
 refine cz F Ja fun _ _ _ _ H _ Q E hr h=> ?_
 obtain⟨a,t,rfl,hl,hz,k⟩:=h;have nd:=Ja.nd;refine⟨_,ae (cY 1 nd (cn cL hr rfl (aa (pv 0) ab))) (ae (cY 2 nd ag) (ae (cY 3 nd ag) (ae (cY 4 nd ag)
  (ae (cM af3 rfl (lx rfl G.DG (pv 1) ag) (i8 rfl (bH (hJ 5 nd) (bH (hJ 6 nd) gN)))
   (af (aZ (bf (cn cE hr rfl (aa (pv 6) (aa (bx eh (pv 2) ag) ab))))
    (ae (lC (i:=2) nd rfl (akd rfl) ag mZ) (af (cY 4 nd ag)))
    (af (aZ (PW.pt (nj (aX oF (pv 2) ag (bc _)) (j6 (bf (cn cS hr rfl (aa (pv 6) (aa (pv 2) (aa (bx eh (pv 4) ag) ab))))))))
     (ae (lC (i:=3) nd rfl (akd rfl) ag mZ) (af (lC (i:=4) nd rfl (akd rfl) ag mZ)))
     (af (aq (fN (aa ag (aa (pv 5) ab))))))))))
  (ae (aZ (PW.pt (nj (aX (AE hr.units) (pv 0) (fN ab) (bc _)) (j6 (aX yY (aG aA (pv 0) (CD xR ag)) (gY rfl X.le) (bc _))))) (af (aq (fN (aa ag (aa (bx eh (aN ay rfl G.len agq (aa (pv 1) ab)) ag) ab))))) aC)
  (af (aq (fN (aa ag (aa (pv 2) (aa (pv 3) ab))))))))))),?_⟩
 refine⟨_,rfl,a,t,rfl,hl,hz,fun H1 L as s1 hL la=> ?_⟩;have hdl:=z7 t;have VG:as.length=(dn t).length:=la.len;refine⟨_,rfl,L,_,_,rfl,rfl,aJ.of hL,by decide,by decide,jD (K:=K) (a:=L) (xs:=as.map V.ref) (c:=1)
  (fun i σ H'=>∃(v5 v6:Option V) (l:List akB),σ=[some (.ref a),some (.ref L),some (vn l.length),some (vn (km l)),some (vn (dD l)),v5,v6]/\ax H1 H'/\ajz 1 [] (dn t)=ajz (i+1) l ((dn t).drop i)/\l.length<=99/\dD l<=i)
  ⟨none,none,[],rfl,ax.refl _,rfl,by decide,afp _⟩ (fun i σ H' _ ⟨_,_,_,_,s2,_⟩=>aJ.of (s2 _ _ hL)) ?_ ?_⟩
 .rintro i y σ H' Tu hi ⟨v5,v6,l,rfl,s2,M7,Qo,Wv⟩ hT;obtain⟨x,hx,rfl⟩:=kX hi;have gV:i<(dn t).length:=by rw[<-VG];exact(aff.mp hx).1
  have hg:=afk gV;have M4:(dn t).drop i=(dn t)[i]::(dn t).drop (i+1):=(agN gV);generalize (dn t)[i]=ln at hg M4;have M8:=la.cG i x ln hx hg;have R3:ln.length<=20000:=afw (Kb hg) hz;rw[M4]at M7;have s3:ax H' (aE H' Tu (.dY [.int (1+(i:Nat)),V.ref x])):=ax.new hT;have RE:aE H' Tu (.dY [.int (1+(i:Nat)),V.ref x]) Tu=some (.dY [.int (1+(i:Nat)),V.ref x]):=aj;generalize aE H' Tu (.dY [.int (1+(i:Nat)),V.ref x])=H3 at s3 RE⊢;have mx:=s2.trans s3;refine⟨Tu,_,rfl,gF.of RE,rfl,_,_,rfl,_,_,rfl,rfl,?_⟩;refine⟨_,rfl,_,rfl,_,_,rfl,rfl,x,ln,l.length+1,rfl,mx _ _ M8,R3,by omega,fun b4 H4 MZ s4=>⟨_,rfl,aW (fun c=> ?_) (fun c=> ?_)⟩⟩
  .obtain⟨r,Wi⟩:=Gs (MZ.mp c);have h9:=(MZ.mp c).1;refine⟨_,rfl,_,_,rfl,rfl,some (.int (1+(i:Nat))),some (.ref x),l++ [⟨r,[]⟩],?_,mx.trans s4,M7.trans (su Wi),by rw[afc];exact h9,?_⟩
   .have e1:km (l++ [⟨r,[]⟩])=km l:=by rw[nI];rfl
    have e2:dD (l++ [⟨r,[]⟩])=0:=by unfold dD;rw[agI];rfl
    rw[e1,e2,afc];rfl
   .have e2:dD (l++ [⟨r,[]⟩])=0:=by unfold dD;rw[agI];rfl
    rw[e2];exact afH _
  have hnE:¬rB ln (l.length+1):=fun z=>c (MZ.mpr z)
  have ju:∀(H5:Hp),ax H4 H5->(0<l.length->¬qf ln l.length (dD l+1))->∀(H6:Hp) (m:afd),H5 m=none->ax H5 H6->H6 m=some (.ba [.int 1,.int (1+(i:Nat))])->Q (.ref m) H6:=fun H5 s5 hS H6 m nm s6 h6=>by
   refine k H6 m (s1.free (mx.free (s4.free (s5.free nm)))) (s1.trans (mx.trans (s4.trans (s5.trans s6)))) ?_;rw[Pl (M7.trans (Am (Kc hnE hS)))];show H6 m=some (.ba [.int 1,.int ((i+1:Nat):Int)]);rw[h6,show(1+(i:Nat):Int)=((i+1:Nat):Int) by omega]
  refine⟨_,rfl,_,_,rfl,rfl,_,rfl,aW (fun c1=> ?_) (fun c1=> ?_)⟩
  .have Af:0<l.length:=by have:=afh c1;omega
   refine⟨_,rfl,_,rfl,_,rfl,_,_,rfl,rfl,x,ln,l.length,dD l+1,rfl,s4 _ _ (mx _ _ M8),R3,by omega,by omega,fun b5 H5 DO s5=>⟨_,rfl,aW (fun c2=> ?_) (fun c2=> ?_)⟩⟩
   .obtain⟨l',Wi,q1,q2,q3⟩:=Gu Af Qo (DO.mp c2);refine⟨_,rfl,_,_,rfl,rfl,_,rfl,_,_,rfl,rfl,some (.int (1+(i:Nat))),some (.ref x),l',?_,mx.trans (s4.trans s5),M7.trans (su Wi),by omega,by omega⟩;rw[q1,q2,q3];rfl
   .exact⟨_,rfl,xQ,fun H6 m nm s6 h6=>ju H5 s5 (fun _ z=>c2 (DO.mpr z)) H6 m nm s6 h6⟩
  .have Af:¬0<l.length:=fun z=>c1 (afl (show(0:Int)<(l.length:Int) by omega))
   exact⟨_,rfl,xQ,fun H6 m nm s6 h6=>ju H4 (ax.refl _) (fun z=>absurd z Af) H6 m nm s6 h6⟩
 .rintro σ H' ⟨v5,v6,l,rfl,s2,M7,Qo,Wv⟩;rw[afb,VG,aju]at M7;have dc:ajz 1 [] (ahM 10 t).dropLast= .ok l:=M7.trans (by rw[ajz]);have Cc:=s2 _ _ (s1 _ _ hl);refine⟨_,rfl,afH _,fun H3 m3 Xm s3 h3=>⟨a,m3,t.map nat,[],rfl,rfl,A2 (s3 _ _ Cc),aJ.of h3,_,rfl,?_⟩⟩;have Rr:cr t=[]->∀(H4:Hp) (m:afd),H3 m=none->ax H3 H4->H4 m=some (.ba [.int 0,vn l.length,vn (km l)])->Q (.ref m) H4:=fun e H4 m nm s4 h4=>by
   refine k H4 m (s1.free (s2.free (s3.free nm))) (s1.trans (s2.trans (s3.trans s4))) ?_;rw[S3 dc e];exact h4
  by_cases ht:t=[]
  .rw[ht];refine⟨_,rfl,_,rfl,QF,fun H4 m nm s4 h4=>Rr (by rw[ht];rfl) H4 m nm s4 h4⟩
  .rw[agd (show¬t.map nat=[]from fun z=>ht (List.map_eq_nil_iff.mp z))];obtain⟨c,hc⟩:∃c,t.getLast? =some c:=⟨_,aih ht⟩;refine⟨_,rfl,_,rfl,a,_,_,vn c,rfl,rfl,aJ.of (s3 _ _ Cc),KJ hc,rfl,_,rfl,aW (fun q=> ?_) (fun q=> ?_)⟩
   .have Q1:c≠10:=fun z=>by rw[z]at q;exact absurd q (by decide)
    have Wg:cr t≠ []:=fun z=>(yN.mp z).elim ht fun q=>Q1 (by rw[hc]at q;exact afv q)
    refine⟨_,rfl,L,_,rfl,.inl (aJ.of (s3 _ _ (s2 _ _ hL))),_,_,rfl,rfl,xQ,fun H4 m nm s4 h4=> ?_⟩;refine k H4 m (s1.free (s2.free (s3.free nm))) (s1.trans (s2.trans (s3.trans s4))) ?_;rw[Lq dc Wg];show H4 m=some (.ba [.int 1,.int (((dn t).length+1:Nat):Int)]);rw[h4,afb,VG];rfl
   .have Q1:c=10:=agA fun z=>q (by
     show(!decide (vn c=V.int 10))=true;rw[agd fun y=>z (by injection y with y;omega)];rfl)
    exact⟨_,rfl,_,rfl,QF,fun H4 m nm s4 h4=>Rr (yN.mpr (.inr (by rw[hc,Q1]))) H4 m nm s4 h4⟩
theorem iz(c:(!hasEntry B e)=true):¬e∈names B:=by rw[wt]at c;exact dU c
theorem iC(c:¬(!hasEntry B e)=true):e∈names B:=by rw[wt]at c;exact cX c
theorem fT(c:(!hasSense B e)=true):¬e∈aD B:=by rw[wu]at c;exact dU c
theorem fW(c:¬(!hasSense B e)=true):e∈aD B:=by rw[wu]at c;exact cX c
abbrev Gk:afR:=dC 16
theorem xk:au ["house","numbers","text","home","behind"] ["house","numbers","text"] (ai Gk):=cF
theorem HX(F:b9 K "sense" "sense" Gk f fd)(L:jr P w K mg base CB CH):aT P w K mg base bX 4 f fd ["house","numbers","text"] (gQ CB CH 1):=by
 refine cz F xk fun _ _ _ _ H _ Q E hr h=> ?_
 obtain⟨h,nl,rl,D,S,FZ,x,rfl,hc,ok,W,fn,fr,hn,gJ,ku,iM,k⟩:=h;obtain⟨e,a,tx,rfl⟩:=fm hc;have nw:=W.w.now;have hz:=W.st.len;refine⟨_,ae (cY 3 xk.nd (aG aA (pv 1) ag))
  (ae (cY 4 xk.nd (aG aA (pv 1) ag))
  (ae (aZ (bu (bf (bR (az (pv 0)) L.b.cl L.wq hr (aa (pv 3) ab)))) (af (aq (fN (aa (gY rfl L.v.Uw) ab)))) aC)
  (ae (aZ (bu (bf (cn L.place hr rfl (aa (bC (bZ hr) (az (az (pv 0))) (pv 3)) (aa (pv 4) ab))))) (af (aq (fN (aa (gY rfl L.v.Ux) ab)))) aC)
  (ae (aZ (bf (jK (pv 0) L.h.cl L.Sv hr)) (af (aq (fN (aa (gY rfl L.v.full) ab)))) aC)
  (ae (vw (pv 0) ag GR)
  (ae (aI (bR (az (pv 0)) L.b.cl L.Nq hr (aa (az (pv 0)) (aa (pv 3) (aa (pv 4) (aa (pv 2) ab))))))
  (af (aq (fN (aa ag (aa (bR (pv 0) L.h.cl L.sE hr (aa ag (aa (pv 1) (aa (pv 2) ab)))) (aa (az (pv 0)) ab)))))))))))),?_⟩
 refine⟨_,rfl,nV (i:=0) hn rfl ⟨_,rfl,nV (i:=1) hn rfl ?_⟩⟩;refine⟨_,rfl,h,CH,D.dx,_,_,rfl,W.w.ins,L.h.cl,L.h.nN,dP,D.nw,D.dn.dx,_,rfl,nw.bq.ins,bF (by decide+kernel),_,rfl,D.nw,D.dn,_,FZ,_,e,rfl,nw,_,rfl,aW (fun c=> ?_) (fun c=> ?_)⟩
 .exact⟨jv,fun H1 l n1 s1 h1=>aO W k (cw ((pj S e a tx).trans (afj (iz c)))) n1 s1 h1⟩
 have he:=iC c;refine⟨_,rfl,h,CH,D.dx,_,_,rfl,W.w.ins,L.h.cl,L.h.nN,dP,D.nw,CB,D.dn.dx,_,_,rfl,nw.bq.ins,L.b.cl,L.b.nR,du,_,rfl,D.dn.r,_,rfl,nw.gR he,_,rfl,D.dn.ra e,a,_,rfl,aJ.of (nw.bq.row e he),_,rfl,aW (fun c1=> ?_) (fun c1=> ?_)⟩
 .exact⟨jv,fun H1 l n1 s1 h1=>aO W k (cw ((pj S e a tx).trans ((afe (fun z=>z he)).trans (afj (dU c1))))) n1 s1 h1⟩
 have ha:=cX c1;refine⟨_,rfl,h,D.dx,_,rfl,W.w.ins,cj (e9 _ (by simp)),h,D,_,_,_,_,_,_,FZ,_,rfl,W.w,_,rfl,aW (fun c2=> ?_) (fun c2=> ?_)⟩
 .exact⟨jv,fun H1 l n1 s1 h1=>aO W k (cw ((pj S e a tx).trans ((afe (fun z=>z he)).trans ((afe (fun z=>z ha)).trans (afj (afh c2)))))) n1 s1 h1⟩
 have d':¬(50<=(agD S.log).2.2\/200<=S.log.length):=fun z=>c2 (afl z)
 have hw:ai2 S (.sense e a tx)=none:=(pj S e a tx).trans ((afe (fun z=>z he)).trans ((afe (fun z=>z ha)).trans (afe d')));refine⟨_,rfl,h,CH,D.dx,_,_,rfl,W.w.ins,L.h.cl,L.h.nT,yF,_,_,rfl,rfl,D.dx,_,W.w.ins,by show 6<1000;decide,?_⟩;have W1:=W.w.count (agD S.log).2.1 ((agD S.log).2.2+1);have k1:Kp (je h D S) H (aE H h (.ins CH D.dx (Ah D.nw D.lg D.ed D.ln (agD S.log).2.1 ((agD S.log).2.2+1)))):=Kp.gZ (af0 _ (by simp));have Cf:NL _ rl tx:=gD (k1 _ _ gJ (W.T5 rl fr));have Na:=k1 _ _ hn (W.T5 nl fn);refine⟨_,rfl,h,CH,D.dx,_,_,rfl,W1.ins,L.h.cl,L.h.nN,dP,D.nw,D.dn.dx,_,rfl,W1.now.bq.ins,bF (by decide+kernel),_,rfl,h,CH,D.dx,_,_,rfl,W1.ins,L.h.cl,L.h.nT,yF,_,rfl,_,rfl,_,rfl,D.nw,D.dn,_,FZ,_,(agD S.log).2.2+1,e,a,rl,tx,rfl,W1.now,by omega,fun z=> ?_,aia _,he,fun z=>ha.resolve_left z,fr,Cf,fun H2 d2 lY fA jX=> ?_⟩
 .have:=(Nv S.log).2 _ z;omega
 have W2:=W1.act lY fA jX (ahz _);have rZ:∀c∈FZ,c∉bS D.nw D.dn (agC S.log):=fun c hc z=>W.w.now.bq.fz c z hc
 refine⟨_,rfl,h,D.dx,_,rfl,W2.ins,cj (e9 _ (by simp)),_,rfl,_,rfl,h,nl,rl,_,_,_,_,_,_,_,FZ,_,_,.sense e a tx,rfl,W2,afp _,fn,fr,fA _ _ Na (rZ nl fn),fA _ _ Cf (rZ rl fr),hz,fun H3 t nt W3 k3=> ?_⟩;refine⟨_,rfl,h,CH,D.dx,_,_,rfl,W3.ins,L.h.cl,L.h.nT,yF,QF,fun H4 l n4 s4 h4=> ?_⟩;exact gK W hw ok (by omega) (fun _ _ _ z=>nomatch z) k (k1.trans (fA.fJ fun c hc=>afK _ hc)) (fun c hc=>(jX c hc).imp id fun z=>eV z) k3 nt n4 s4 W3 h4
abbrev MN:afR:=dC 17
theorem Jb:au ["house","numbers","text","name"] ["house","numbers","text"] (ai MN):=cF
theorem Lf(F:b9 K "say" "say" MN f fd)(L:jr P w K mg base CB CH):aT P w K mg base bX 4 f fd ["house","numbers","text"] (gQ CB CH 2):=by
 refine cz F Jb fun _ _ _ _ H _ Q E hr h=> ?_
 obtain⟨h,nl,rl,D,S,FZ,x,rfl,hc,ok,W,fn,fr,hn,gJ,ku,iM,k⟩:=h;obtain⟨n,tx,rfl⟩:=fm hc;have nw:=W.w.now;have hz:=W.st.len;refine⟨_,ae (cY 3 Jb.nd (aG aA (pv 1) ag))
  (ae (aZ (bu (bf (bR (az (pv 0)) L.b.cl L.qE hr (aa (pv 3) ab)))) (af (aq (fN (aa (gY rfl L.v.NB) ab)))) aC)
  (ae (aZ (bf (jK (pv 0) L.h.cl L.full hr)) (af (aq (fN (aa (gY rfl L.v.full) ab)))) aC)
  (ae (aI (bR (az (pv 0)) L.b.cl L.say hr (aa (pv 3) (aa (pv 2) ab))))
  (af (aq (fN (aa ag (aa (bR (pv 0) L.h.cl L.sE hr (aa ag (aa (pv 1) (aa (pv 2) ab)))) ab)))))))),?_⟩
 refine⟨_,rfl,nV (i:=0) hn rfl ?_⟩;refine⟨_,rfl,h,CH,D.dx,_,_,rfl,W.w.ins,L.h.cl,L.h.nN,dP,D.nw,D.dn.dx,_,rfl,nw.bq.ins,bF (by decide+kernel),_,rfl,D.nw,D.dn,_,FZ,_,n,rfl,nw,_,rfl,aW (fun c=> ?_) (fun c=> ?_)⟩
 .exact⟨jv,fun H1 l n1 s1 h1=>aO W k (cw ((Bg S n tx).trans (afj (fT c)))) n1 s1 h1⟩
 have hs:=fW c;refine⟨_,rfl,h,D.dx,_,rfl,W.w.ins,cj (e9 _ (by simp)),h,D,_,_,_,_,_,_,FZ,_,rfl,W.w,_,rfl,aW (fun cf=> ?_) (fun cf=> ?_)⟩
 .exact⟨jv,fun H1 l n1 s1 h1=>aO W k (cw ((Bg S n tx).trans ((afe (fun z=>z hs)).trans (afj (afh cf))))) n1 s1 h1⟩
 have DB:¬200<=S.log.length:=fun z=>cf (afl z)
 have hw:ai2 S (.say n tx)=none:=(Bg S n tx).trans ((afe (fun z=>z hs)).trans (afe DB));refine⟨_,rfl,h,CH,D.dx,_,_,rfl,W.w.ins,L.h.cl,L.h.nN,dP,D.nw,D.dn.dx,_,rfl,nw.bq.ins,bF (by decide+kernel),_,rfl,_,rfl,D.nw,D.dn,_,FZ,_,n,rl,tx,rfl,nw,by omega,hs,fr,gD gJ,fun H2 d2 lY fA jX=> ?_⟩;have W2:=W.w.act lY fA jX (ahz _);have rZ:∀c∈FZ,c∉bS D.nw D.dn (agC S.log):=fun c hc z=>nw.bq.fz c z hc
 refine⟨_,rfl,h,D.dx,_,rfl,W2.ins,cj (e9 _ (by simp)),_,rfl,_,rfl,h,nl,rl,_,_,_,_,_,_,_,FZ,_,_,.say n tx,rfl,W2,afp _,fn,fr,fA _ _ hn (rZ nl fn),fA _ _ (gD gJ) (rZ rl fr),hz,fun H3 t nt W3 k3=>⟨xQ,fun H4 l n4 s4 h4=> ?_⟩⟩;exact gK W hw ok (by omega) (fun _ _ _ z=>nomatch z) k (fA.fJ fun c hc=>afK _ hc) jX k3 nt n4 s4 W3 h4
abbrev BL:afR:=dC 19
theorem tj:au ["house","numbers","row","name","target"] ["house","numbers","row"] (ai BL):=cF
theorem EG(F:b9 K "point" "point" BL f fd)(L:jr P w K mg base CB CH):aT P w K mg base bX 4 f fd ["house","numbers","row"] (gQ CB CH 3):=by
 refine cz F tj fun _ _ _ _ H _ Q E hr h=> ?_
 obtain⟨h,nl,rl,D,S,FZ,x,rfl,hc,ok,W,fn,fr,hn,gJ,ku,iM,k⟩:=h;obtain⟨n,t,rfl⟩:=fm hc;have nw:=W.w.now;have hz:=W.st.len;refine⟨_,ae (cY 3 tj.nd (aG aA (pv 1) ag))
  (ae (cY 4 tj.nd (aG aA (pv 1) ag))
  (ae (aZ (bu (bf (bR (az (pv 0)) L.b.cl L.qE hr (aa (pv 3) ab)))) (af (aq (fN (aa (gY rfl L.v.NB) ab)))) aC)
  (ae (aZ (PW.pt (nj (aX yY (pv 4) ag (bc _)) (j6 (bu (bf (bR (az (pv 0)) L.b.cl L.qE hr (aa (pv 4) ab))))))) (af (aq (fN (aa (gY rfl L.v.NB) ab)))) aC)
  (ae (aZ (bf (jK (pv 0) L.h.cl L.full hr)) (af (aq (fN (aa (gY rfl L.v.full) ab)))) aC)
  (ae (aI (bR (az (pv 0)) L.b.cl L.point hr (aa (pv 3) (aa (pv 4) ab))))
  (af (aq (fN (aa ag (aa (bR (pv 0) L.h.cl L.sE hr (aa ag (aa (pv 1) (aa (pv 2) ab)))) ab)))))))))),?_⟩
 refine⟨_,rfl,nV (i:=0) hn rfl ⟨_,rfl,nV (i:=1) hn rfl ?_⟩⟩;refine⟨_,rfl,h,CH,D.dx,_,_,rfl,W.w.ins,L.h.cl,L.h.nN,dP,D.nw,D.dn.dx,_,rfl,nw.bq.ins,bF (by decide+kernel),_,rfl,D.nw,D.dn,_,FZ,_,n,rfl,nw,_,rfl,aW (fun c=> ?_) (fun c=> ?_)⟩
 .exact⟨jv,fun H1 l n1 s1 h1=>aO W k (cw ((ph S n t).trans (afj (.inl (fT c))))) n1 s1 h1⟩
 have hs:=fW c
 suffices hk:(t≠0->t∈aD (agC S.log))->_ by
  refine⟨_,rfl,rfl,_,rfl,aW (fun c1=> ?_) (fun c1=> ?_)⟩
  .have t0:t≠0:=fun z=>by rw[z]at c1;exact absurd c1 (by decide)
   refine⟨_,rfl,h,CH,D.dx,_,_,rfl,W.w.ins,L.h.cl,L.h.nN,dP,D.nw,D.dn.dx,_,rfl,nw.bq.ins,bF (by decide+kernel),_,rfl,D.nw,D.dn,_,FZ,_,t,rfl,nw,_,rfl,aW (fun c2=> ?_) (fun c2=>hk fun _=>fW c2)⟩;exact⟨jv,fun H1 l n1 s1 h1=>aO W k (cw ((ph S n t).trans (afj (.inr ⟨t0,fT c2⟩)))) n1 s1 h1⟩
  .refine hk fun z=>absurd ?_ c1
   exact ne_int z
 intro ht;have Zx:¬(¬n∈aD (agC S.log)\/(t≠0/\¬t∈aD (agC S.log))):=fun z=>z.elim (fun q=>q hs) fun q=>q.2 (ht q.1)
 refine⟨_,rfl,h,D.dx,_,rfl,W.w.ins,cj (e9 _ (by simp)),h,D,_,_,_,_,_,_,FZ,_,rfl,W.w,_,rfl,aW (fun cf=> ?_) (fun cf=> ?_)⟩
 .exact⟨jv,fun H1 l n1 s1 h1=>aO W k (cw ((ph S n t).trans ((afe Zx).trans (afj (afh cf))))) n1 s1 h1⟩
 have DB:¬200<=S.log.length:=fun z=>cf (afl z)
 have hw:ai2 S (.point n t)=none:=(ph S n t).trans ((afe Zx).trans (afe DB));refine⟨_,rfl,h,CH,D.dx,_,_,rfl,W.w.ins,L.h.cl,L.h.nN,dP,D.nw,D.dn.dx,_,rfl,nw.bq.ins,bF (by decide+kernel),_,rfl,_,rfl,D.nw,D.dn,_,FZ,_,n,t,rfl,nw,by omega,hs,fun H2 d2 lY fA jX=> ?_⟩;have W2:=W.w.act lY fA jX (ahz _);have rZ:∀c∈FZ,c∉bS D.nw D.dn (agC S.log):=fun c hc z=>nw.bq.fz c z hc
 refine⟨_,rfl,h,D.dx,_,rfl,W2.ins,cj (e9 _ (by simp)),_,rfl,_,rfl,h,nl,rl,_,_,_,_,_,_,_,FZ,_,_,.point n t,rfl,W2,afp _,fn,fr,fA _ _ hn (rZ nl fn),fA _ _ (gD gJ) (rZ rl fr),hz,fun H3 t nt W3 k3=>⟨xQ,fun H4 l n4 s4 h4=> ?_⟩⟩;exact gK W hw ok (by omega) (fun _ _ _ z=>nomatch z) k (fA.fJ fun c hc=>afK _ hc) jX k3 nt n4 s4 W3 h4
def Fm'(p:Nat):agZ->Prop:=([fun _=>True,fun x=>∃a,x= .dropEntry a,fun x=>∃a,x= .dropSense a,fun x=>∃a b c,x= .newEntry a b c,fun x=>∃a b,x= .moveEntry a b,fun x=>∃a b c d,x= .newSense a b c d,fun x=>∃a b c,x= .moveSense a b c,fun x=>∃a b,x= .say a b,fun x=>∃a b,x= .point a b]:List (agZ->Prop)).getD p fun _=>True
theorem MU{x:agZ}(h:kh x=p):Fm' p x:=by
 subst h;cases x<;>first|exact⟨_,rfl⟩|exact⟨_,_,rfl⟩|exact⟨_,_,_,rfl⟩|exact⟨_,_,_,_,rfl⟩
inductive ie(CB:afd)(p:Nat)(vs:List V)(H:Hp)(Q:VK)(E:XK):Prop|m:∀(b nl rl:afd) (d:BA) (B:aga) (FZ:List afd) (N:Nat) (x:agZ),vs=[.ref b,.ref nl,.ref rl]->kh x=p->aV CB H b d B FZ N->N<50000->NL H nl (ji x)->NL H rl (dj x)->rl∈FZ->(∀(H':Hp) (d':BA) (B':aga),anG B x=some B'->aV CB H' b d' B' FZ (N+1)->Kp (bS b d B) H H'->Gr H (bS b d B) (bS b d' B')->Q (.bl true) H')->(anG B x=none->Q (.bl false) H)->ie CB p vs H Q E
theorem aV.up(h:aV C H b d B FZ N):aV C H b d B FZ (N+1):=h.more (ahz _) (fun _ z=>z) h.bq.fz h.bq.fzt
theorem wW(h:¬e∈names B):agn B e=false:=cg.mpr h
theorem KQ(h:¬e∈aD B):ahL B e=false:=dF.mpr h
theorem isE(h:e∈names B):agn B e=true:=iR.mpr h
theorem Ur(h:e∈aD B):ahL B e=true:=eC.mpr h
abbrev BC:afR:=dC 90
theorem IX:au ["book","numbers","row"] ["book","numbers","row"] (ai BC):=cF
theorem Ex(F:b9 K "drop_entry" "drop_entry" BC f fd)(L:jr P w K mg base CB CH):aT P w K mg base bX 4 f fd ["book","numbers","row"] (ie CB 1):=by
 refine cz F IX fun _ _ _ _ H _ Q E hr h=> ?_
 obtain⟨b,nl,rl,d,B,FZ,N,x,rfl,hc,hB,hN,hn,gJ,fr,ky,kn⟩:=h;obtain⟨e,rfl⟩:=MU hc;refine⟨_,ae (aZ (bu (bf (bR (pv 0) L.b.cl L.wq hr (aa (aG aA (pv 1) ag) ab)))) (af (aq dy)) aC)
  (ae (aI (bR (pv 0) L.b.cl L.MP hr (aa (aG aA (pv 1) ag) ab)))
  (af (aq dy))),?_⟩
 refine⟨_,rfl,b,d.dx,_,rfl,hB.bq.ins,bF (by decide+kernel),_,rfl,nl,_,_,vn e,rfl,rfl,aJ.of hn,iL (i:=0) rfl,b,d,B,FZ,N,e,rfl,hB,_,rfl,aW (fun c=> ?_) (fun c=> ?_)⟩
 .refine kn ?_;exact afe (by rw[wW (iz c)];decide)
 have he:=iC c;refine⟨_,rfl,b,d.dx,_,rfl,hB.bq.ins,bF (by decide+kernel),_,rfl,nl,_,_,vn e,rfl,rfl,aJ.of hn,iL (i:=0) rfl,b,d,B,FZ,N,e,rfl,hB,he,fun H2 d2 lY fA jX=> ?_⟩;refine ky H2 d2 _ ?_ lY.up fA jX;exact afj (isE he)
abbrev BD:afR:=dC 91
theorem IY:au ["book","numbers","row"] ["book","numbers","row"] (ai BD):=cF
theorem Ey(F:b9 K "drop_sense" "drop_sense" BD f fd)(L:jr P w K mg base CB CH):aT P w K mg base bX 4 f fd ["book","numbers","row"] (ie CB 2):=by
 refine cz F IY fun _ _ _ _ H _ Q E hr h=> ?_
 obtain⟨b,nl,rl,d,B,FZ,N,x,rfl,hc,hB,hN,hn,gJ,fr,ky,kn⟩:=h;obtain⟨e,rfl⟩:=MU hc;refine⟨_,ae (aZ (bu (bf (bR (pv 0) L.b.cl L.qE hr (aa (aG aA (pv 1) ag) ab)))) (af (aq dy)) aC)
  (ae (aI (bR (pv 0) L.b.cl L.MQ hr (aa (aG aA (pv 1) ag) ab)))
  (af (aq dy))),?_⟩
 refine⟨_,rfl,b,d.dx,_,rfl,hB.bq.ins,bF (by decide+kernel),_,rfl,nl,_,_,vn e,rfl,rfl,aJ.of hn,iL (i:=0) rfl,b,d,B,FZ,N,e,rfl,hB,_,rfl,aW (fun c=> ?_) (fun c=> ?_)⟩
 .refine kn ?_;exact afe (by rw[KQ (fT c)];decide)
 have he:=fW c;refine⟨_,rfl,b,d.dx,_,rfl,hB.bq.ins,bF (by decide+kernel),_,rfl,nl,_,_,vn e,rfl,rfl,aJ.of hn,iL (i:=0) rfl,b,d,B,FZ,N,e,rfl,hB,he,fun H2 d2 lY fA jX=> ?_⟩;refine ky H2 d2 _ ?_ lY.up fA jX;exact afj (Ur he)
abbrev MJ:afR:=dC 96
theorem PH:au ["book","numbers","row"] ["book","numbers","row"] (ai MJ):=cF
theorem Lb(F:b9 K "say" "say" MJ f fd)(L:jr P w K mg base CB CH):aT P w K mg base bX 4 f fd ["book","numbers","row"] (ie CB 7):=by
 refine cz F PH fun _ _ _ _ H _ Q E hr h=> ?_
 obtain⟨b,nl,rl,d,B,FZ,N,x,rfl,hc,hB,hN,hn,gJ,fr,ky,kn⟩:=h;obtain⟨e,t,rfl⟩:=MU hc;refine⟨_,ae (aZ (bu (bf (bR (pv 0) L.b.cl L.qE hr (aa (aG aA (pv 1) ag) ab)))) (af (aq dy)) aC)
  (ae (aI (bR (pv 0) L.b.cl L.say hr (aa (aG aA (pv 1) ag) (aa (pv 2) ab))))
  (af (aq dy))),?_⟩
 refine⟨_,rfl,b,d.dx,_,rfl,hB.bq.ins,bF (by decide+kernel),_,rfl,nl,_,_,vn e,rfl,rfl,aJ.of hn,iL (i:=0) rfl,b,d,B,FZ,N,e,rfl,hB,_,rfl,aW (fun c=> ?_) (fun c=> ?_)⟩
 .refine kn ?_;exact afe (by rw[KQ (fT c)];decide)
 have he:=fW c;refine⟨_,rfl,b,d.dx,_,rfl,hB.bq.ins,bF (by decide+kernel),_,rfl,nl,_,_,vn e,rfl,rfl,aJ.of hn,iL (i:=0) rfl,_,rfl,b,d,B,FZ,N,e,rl,t,rfl,hB,by omega,he,fr,gJ,fun H2 d2 lY fA jX=> ?_⟩;refine ky H2 d2 _ ?_ lY fA jX;exact afj (Ur he)
abbrev BI:afR:=dC 98
theorem IZ:au ["book","numbers","row"] ["book","numbers","row"] (ai BI):=cF
theorem ED(F:b9 K "point" "point" BI f fd)(L:jr P w K mg base CB CH):aT P w K mg base bX 4 f fd ["book","numbers","row"] (ie CB 8):=by
 refine cz F IZ fun _ _ _ _ H _ Q E hr h=> ?_
 obtain⟨b,nl,rl,d,B,FZ,N,x,rfl,hc,hB,hN,hn,gJ,fr,ky,kn⟩:=h;obtain⟨e,t,rfl⟩:=MU hc;refine⟨_,ae (aZ (bu (bf (bR (pv 0) L.b.cl L.qE hr (aa (aG aA (pv 1) ag) ab)))) (af (aq dy)) aC)
  (ae (aI (bR (pv 0) L.b.cl L.point hr (aa (aG aA (pv 1) ag) (aa (aG aA (pv 1) ag) ab))))
  (af (aq dy))),?_⟩
 refine⟨_,rfl,b,d.dx,_,rfl,hB.bq.ins,bF (by decide+kernel),_,rfl,nl,_,_,vn e,rfl,rfl,aJ.of hn,iL (i:=0) rfl,b,d,B,FZ,N,e,rfl,hB,_,rfl,aW (fun c=> ?_) (fun c=> ?_)⟩
 .refine kn ?_;exact afe (by rw[KQ (fT c)];decide)
 have he:=fW c;refine⟨_,rfl,b,d.dx,_,rfl,hB.bq.ins,bF (by decide+kernel),_,rfl,nl,_,_,vn e,rfl,rfl,aJ.of hn,iL (i:=0) rfl,_,rfl,nl,_,_,vn t,rfl,rfl,aJ.of hn,iL (i:=1) rfl,b,d,B,FZ,N,e,t,rfl,hB,by omega,he,fun H2 d2 lY fA jX=> ?_⟩;refine ky H2 d2 _ ?_ lY fA jX;exact afj (Ur he)
abbrev BE:afR:=dC 92
theorem sY:au ["book","numbers","row","entry","behind"] ["book","numbers","row"] (ai BE):=cF
theorem Ez(F:b9 K "make_entry" "make_entry" BE f fd)(L:jr P w K mg base CB CH):aT P w K mg base bX 4 f fd ["book","numbers","row"] (ie CB 3):=by
 refine cz F sY fun _ _ _ _ H _ Q E hr h=> ?_
 obtain⟨b,nl,rl,d,B,FZ,N,x,rfl,hc,hB,hN,hn,gJ,fr,ky,kn⟩:=h;obtain⟨e,a,wd,rfl⟩:=MU hc;refine⟨_,ae (cY 3 sY.nd (aG aA (pv 1) ag))
  (ae (cY 4 sY.nd (aG aA (pv 1) ag))
  (ae (aZ (PW.pt (jl (aX fU (pv 3) ag (bc _)) (jl (bf (bR (pv 0) L.b.cl L.wq hr (aa (pv 3) ab))) (iI (bu (bf (cn L.place hr rfl (aa (az (pv 0)) (aa (pv 4) ab))))))))) (af (aq dy)) aC)
  (ae (aI (bR (pv 0) L.b.cl L.Np hr (aa (pv 3) (aa (pv 4) (aa (pv 2) ab)))))
  (af (aq dy))))),?_⟩
 have rF:(agn B e=true\/e=0\/(a≠0/\agn B a=false))->Q (.bl false) H:=fun z=>kn (afj z)
 refine⟨_,rfl,nl,_,_,vn e,rfl,rfl,aJ.of hn,iL (i:=0) rfl,_,rfl,nl,_,_,vn a,rfl,rfl,aJ.of hn,iL (i:=1) rfl,?_⟩
 suffices hk:¬(agn B e=true\/e=0\/(a≠0/\agn B a=false))->_ by
  refine⟨_,rfl,rfl,_,rfl,aW (fun c=>rF (.inr (.inl (GS c)))) (fun c=> ?_)⟩;refine⟨_,rfl,b,d.dx,_,rfl,hB.bq.ins,bF (by decide+kernel),_,rfl,b,d,B,FZ,N,e,rfl,hB,_,rfl,aW (fun c1=>rF (.inl c1)) (fun c1=> ?_)⟩;refine⟨_,rfl,b,CB,d.dx,_,_,rfl,hB.bq.ins,L.b.cl,L.b.nO,bP,_,rfl,d.o,a,_,rfl,aJ.of hB.bq.ord,_,rfl,aW (fun c2=> ?_) (fun c2=> ?_)⟩
  .have:=dU c2;exact rF (.inr (.inr ⟨fun z=>this (.inl z),wW fun z=>this (.inr z)⟩))
  .have:=cX c2;refine hk ?_;rintro(z|z|⟨z1,z2⟩)
   .exact c1 z
   .exact GU c z
   .exact cg.mp z2 (this.resolve_left z1)
 intro e9;have he:¬e∈names B:=fun z=>e9 (.inl (isE z))
 have Oy:e≠0:=fun z=>e9 (.inr (.inl z))
 have ha:a≠0->a∈names B:=fun z=>agA fun q=>e9 (.inr (.inr ⟨z,wW q⟩))
 refine⟨_,rfl,b,d.dx,_,rfl,hB.bq.ins,bF (by decide+kernel),_,rfl,_,rfl,_,rfl,b,d,B,FZ,N,e,a,rl,wd,rfl,hB,by omega,he,Oy,ha,fr,gJ,fun H2 d2 lY fA jX=> ?_⟩;refine ky H2 d2 _ ?_ lY fA jX;exact afe e9
abbrev BG:afR:=dC 93
theorem sZ:au ["book","numbers","row","entry","behind"] ["book","numbers","row"] (ai BG):=cF
theorem EB(F:b9 K "move_entry" "move_entry" BG f fd)(L:jr P w K mg base CB CH):aT P w K mg base bX 4 f fd ["book","numbers","row"] (ie CB 4):=by
 refine cz F sZ fun _ _ _ _ H _ Q E hr h=> ?_
 obtain⟨b,nl,rl,d,B,FZ,N,x,rfl,hc,hB,hN,hn,gJ,fr,ky,kn⟩:=h;obtain⟨e,a,rfl⟩:=MU hc;refine⟨_,ae (cY 3 sZ.nd (aG aA (pv 1) ag))
  (ae (cY 4 sZ.nd (aG aA (pv 1) ag))
  (ae (aZ (PW.pt (jl (bu (bf (bR (pv 0) L.b.cl L.wq hr (aa (pv 3) ab)))) (jl (aX fU (pv 4) (pv 3) (bc _)) (iI (bu (bf (cn L.place hr rfl (aa (az (pv 0)) (aa (pv 4) ab))))))))) (af (aq dy)) aC)
  (ae (aI (bR (pv 0) L.b.cl L.Nt hr (aa (pv 3) (aa (pv 4) ab))))
  (af (aq dy))))),?_⟩
 have rF:(agn B e=false\/e=a\/(a≠0/\agn B a=false))->Q (.bl false) H:=fun z=>kn (afj z)
 refine⟨_,rfl,nl,_,_,vn e,rfl,rfl,aJ.of hn,iL (i:=0) rfl,_,rfl,nl,_,_,vn a,rfl,rfl,aJ.of hn,iL (i:=1) rfl,?_⟩
 suffices hk:¬(agn B e=false\/e=a\/(a≠0/\agn B a=false))->_ by
  refine⟨_,rfl,b,d.dx,_,rfl,hB.bq.ins,bF (by decide+kernel),_,rfl,b,d,B,FZ,N,e,rfl,hB,_,rfl,aW (fun c1=>rF (.inl (wW (iz c1)))) (fun c1=> ?_)⟩;refine⟨_,rfl,_,rfl,rfl,_,rfl,aW (fun c=>rF (.inr (.inl (by have:=mX c;omega)))) (fun c=> ?_)⟩;refine⟨_,rfl,b,CB,d.dx,_,_,rfl,hB.bq.ins,L.b.cl,L.b.nO,bP,_,rfl,d.o,a,_,rfl,aJ.of hB.bq.ord,_,rfl,aW (fun c2=> ?_) (fun c2=> ?_)⟩
  .have:=dU c2;exact rF (.inr (.inr ⟨fun z=>this (.inl z),wW fun z=>this (.inr z)⟩))
  .have:=cX c2;refine hk ?_;rintro(z|z|⟨z1,z2⟩)
   .exact cg.mp z (iC c1)
   .exact mY c (by rw[z])
   .exact cg.mp z2 (this.resolve_left z1)
 intro e9;have he:e∈names B:=agA fun z=>e9 (.inl (wW z))
 have ha:a≠0->a∈names B/\a≠e:=fun z=>⟨agA fun q=>e9 (.inr (.inr ⟨z,wW q⟩)),fun q=>e9 (.inr (.inl q.symm))⟩
 refine⟨_,rfl,b,d.dx,_,rfl,hB.bq.ins,bF (by decide+kernel),_,rfl,_,rfl,b,d,B,FZ,N,e,a,rfl,hB,by omega,he,ha,fun H2 d2 lY fA jX=> ?_⟩;refine ky H2 d2 _ ?_ lY fA jX;exact afe e9
abbrev BF:afR:=dC 94
theorem oQ:au ["book","numbers","row","sense","entry","behind"] ["book","numbers","row"] (ai BF):=cF
theorem EA(F:b9 K "make_sense" "make_sense" BF f fd)(L:jr P w K mg base CB CH):aT P w K mg base bX 4 f fd ["book","numbers","row"] (ie CB 5):=by
 refine cz F oQ fun _ _ _ _ H _ Q E hr h=> ?_
 obtain⟨b,nl,rl,d,B,FZ,N,x,rfl,hc,hB,hN,hn,gJ,fr,ky,kn⟩:=h;obtain⟨n,e,a,t,rfl⟩:=MU hc;refine⟨_,ae (cY 3 oQ.nd (aG aA (pv 1) ag))
  (ae (cY 4 oQ.nd (aG aA (pv 1) ag))
  (ae (cY 5 oQ.nd (aG aA (pv 1) ag))
  (ae (aZ (PW.pt (jl (aX fU (pv 3) ag (bc _)) (iI (bf (bR (pv 0) L.b.cl L.qE hr (aa (pv 3) ab)))))) (af (aq dy)) aC)
  (ae (aZ (PW.pt (jl (bu (bf (bR (pv 0) L.b.cl L.wq hr (aa (pv 4) ab)))) (iI (bu (bf (cn L.place hr rfl (aa (bC (bZ hr) (az (pv 0)) (pv 4)) (aa (pv 5) ab)))))))) (af (aq dy)) aC)
  (ae (aI (bR (pv 0) L.b.cl L.Nq hr (aa (pv 3) (aa (pv 4) (aa (pv 5) (aa (pv 2) ab))))))
  (af (aq dy))))))),?_⟩
 have rF:(ahL B n=true\/n=0\/agn B e=false\/(a≠0/\(entryAt B e).senses.contains a=false))->Q (.bl false) H:=fun z=>kn (afj z)
 refine⟨_,rfl,nl,_,_,vn n,rfl,rfl,aJ.of hn,iL (i:=0) rfl,_,rfl,nl,_,_,vn e,rfl,rfl,aJ.of hn,iL (i:=1) rfl,_,rfl,nl,_,_,vn a,rfl,rfl,aJ.of hn,iL (i:=2) rfl,?_⟩
 suffices hk:¬(n=0\/n∈aD B)->_ by
  refine⟨_,rfl,rfl,_,rfl,aW (fun c=>rF (.inr (.inl (GS c)))) (fun c=> ?_)⟩;refine⟨_,rfl,b,d.dx,_,rfl,hB.bq.ins,bF (by decide+kernel),_,rfl,b,d,B,FZ,N,n,rfl,hB,_,rfl,aW (fun c1=>rF (.inl c1)) (fun c1=> ?_)⟩;exact hk fun z=>z.elim (GU c) fun q=>c1 (Ur q)
 intro e9;have Qv:n≠0:=fun z=>e9 (.inl z)
 have qF:¬n∈aD B:=fun z=>e9 (.inr z)
 suffices RX:e∈names B->(a=0\/a∈dz B e)->_ by
  refine⟨_,rfl,b,d.dx,_,rfl,hB.bq.ins,bF (by decide+kernel),_,rfl,b,d,B,FZ,N,e,rfl,hB,_,rfl,aW (fun c1=>rF (.inr (.inr (.inl (wW (iz c1)))))) (fun c1=> ?_)⟩;have he:=iC c1;refine⟨_,rfl,b,CB,d.dx,_,_,rfl,hB.bq.ins,L.b.cl,L.b.nR,du,_,rfl,d.r,_,rfl,hB.gR he,_,rfl,d.ra e,a,_,rfl,aJ.of (hB.bq.row e he),_,rfl,aW (fun c2=> ?_) (fun c2=>RX he (cX c2))⟩;have:=dU c2;exact rF (.inr (.inr (.inr ⟨fun z=>this (.inl z),pE.mpr fun z=>this (.inr z)⟩)))
 intro he ha;refine⟨_,rfl,b,d.dx,_,rfl,hB.bq.ins,bF (by decide+kernel),_,rfl,_,rfl,_,rfl,_,rfl,b,d,B,FZ,N,n,e,a,rl,t,rfl,hB,by omega,qF,Qv,he,fun z=>ha.resolve_left z,fr,gJ,fun H2 d2 lY fA jX=> ?_⟩;refine ky H2 d2 _ ?_ lY fA jX;refine afe ?_
 .rintro(z|z|z|⟨z1,z2⟩)
  .exact qF (eC.mp z)
  .exact Qv z
  .exact cg.mp z he
  .exact pE.mp z2 (ha.resolve_left z1)
abbrev BH:afR:=dC 95
theorem oR:au ["book","numbers","row","sense","entry","behind"] ["book","numbers","row"] (ai BH):=cF
theorem EC(F:b9 K "move_sense" "move_sense" BH f fd)(L:jr P w K mg base CB CH):aT P w K mg base bX 4 f fd ["book","numbers","row"] (ie CB 6):=by
 refine cz F oR fun _ _ _ _ H _ Q E hr h=> ?_
 obtain⟨b,nl,rl,d,B,FZ,N,x,rfl,hc,hB,hN,hn,gJ,fr,ky,kn⟩:=h;obtain⟨n,e,a,rfl⟩:=MU hc;refine⟨_,ae (cY 3 oR.nd (aG aA (pv 1) ag))
  (ae (cY 4 oR.nd (aG aA (pv 1) ag))
  (ae (cY 5 oR.nd (aG aA (pv 1) ag))
  (ae (aZ (PW.pt (jl (bu (bf (bR (pv 0) L.b.cl L.qE hr (aa (pv 3) ab)))) (iI (aX fU (pv 5) (pv 3) (bc _))))) (af (aq dy)) aC)
  (ae (aZ (PW.pt (jl (bu (bf (bR (pv 0) L.b.cl L.wq hr (aa (pv 4) ab)))) (iI (bu (bf (cn L.place hr rfl (aa (bC (bZ hr) (az (pv 0)) (pv 4)) (aa (pv 5) ab)))))))) (af (aq dy)) aC)
  (ae (aI (bR (pv 0) L.b.cl L.Nu hr (aa (pv 3) (aa (pv 4) (aa (pv 5) ab)))))
  (af (aq dy))))))),?_⟩
 have rF:(ahL B n=false\/agn B e=false\/n=a\/(a≠0/\(entryAt B e).senses.contains a=false))->Q (.bl false) H:=fun z=>kn (afj z)
 refine⟨_,rfl,nl,_,_,vn n,rfl,rfl,aJ.of hn,iL (i:=0) rfl,_,rfl,nl,_,_,vn e,rfl,rfl,aJ.of hn,iL (i:=1) rfl,_,rfl,nl,_,_,vn a,rfl,rfl,aJ.of hn,iL (i:=2) rfl,?_⟩
 suffices hk:n∈aD B->n≠a->_ by
  refine⟨_,rfl,b,d.dx,_,rfl,hB.bq.ins,bF (by decide+kernel),_,rfl,b,d,B,FZ,N,n,rfl,hB,_,rfl,aW (fun c1=>rF (.inl (KQ (fT c1)))) (fun c1=> ?_)⟩;refine⟨_,rfl,_,rfl,rfl,_,rfl,aW (fun c=>rF (.inr (.inr (.inl (by have:=mX c;omega))))) (fun c=> ?_)⟩;exact hk (fW c1) fun z=>mY c (by rw[z])
 intro qF uo
 suffices RX:e∈names B->(a=0\/a∈dz B e)->_ by
  refine⟨_,rfl,b,d.dx,_,rfl,hB.bq.ins,bF (by decide+kernel),_,rfl,b,d,B,FZ,N,e,rfl,hB,_,rfl,aW (fun c1=>rF (.inr (.inl (wW (iz c1))))) (fun c1=> ?_)⟩;have he:=iC c1;refine⟨_,rfl,b,CB,d.dx,_,_,rfl,hB.bq.ins,L.b.cl,L.b.nR,du,_,rfl,d.r,_,rfl,hB.gR he,_,rfl,d.ra e,a,_,rfl,aJ.of (hB.bq.row e he),_,rfl,aW (fun c2=> ?_) (fun c2=>RX he (cX c2))⟩;have:=dU c2;exact rF (.inr (.inr (.inr ⟨fun z=>this (.inl z),pE.mpr fun z=>this (.inr z)⟩)))
 intro he ha;refine⟨_,rfl,b,d.dx,_,rfl,hB.bq.ins,bF (by decide+kernel),_,rfl,_,rfl,_,rfl,b,d,B,FZ,N,n,e,a,rfl,hB,by omega,qF,he,fun z=>⟨ha.resolve_left z,fun q=>uo q.symm⟩,fun H2 d2 lY fA jX=> ?_⟩;refine ky H2 d2 _ ?_ lY fA jX;refine afe ?_
 .rintro(z|z|z|⟨z1,z2⟩)
  .exact dF.mp z qF
  .exact cg.mp z he
  .exact uo z
  .exact pE.mp z2 (ha.resolve_left z1)
structure QH(P:afA)(w:af4)(K:afW)(mg:Str->Option afg)(base:agg)(CB:afd)(a:afd)(aQ:List (br×V)):Prop where
 kd:KD P w K a aQ
 P9:∀p:Nat,1<=p/\p<=8->∃(f:afd) (fd:afE),ee aQ (afz (p:Int))=some (.ref f)/\keepIn K (.ref f)=true/\aT P w K mg base bX 4 f fd ["book","numbers","row"] (ie CB p)/\eY K fd ["book","numbers","row"] []
inductive xw(CB:afd)(vs:List V)(H:Hp)(Q:VK)(E:XK):Prop|m:∀(H0:Hp) (b a:afd) (d:BA) (B:aga) (FZ:List afd) (N:Nat) (l:List Int) (ds:List agZ),vs=[.ref b,.ref a]->nZ CB H0 H b d B FZ N->N<=1000->IL H a l->a∈FZ->l=ds.flatMap ags->l.length<=20000->(∀(H':Hp) (i:Nat),ako 1 ds B= .error i->0<i->ax H0 H'->Q (vn i) H')->(∀(H':Hp) (d':BA) (B':aga) (cZ:List afd) (N':Nat),ako 1 ds B= .ok B'->N'<100000->aV CB H' b d' B' cZ N'->ax H0 H'->Q (vn 0) H')->xw CB vs H Q E
theorem nZ.add{r:afd}(p:nZ C H H1 b d B FZ N)(s:ax H1 H2)(hr:H1 r=none)(h2:H2 r=some o):nZ C H H2 b d B (r::FZ) N:=by
 refine⟨(p.is.same s).more (afp _) (fun _ z=>afu _ z) (fun a ha z=> ?_) (fun a ha=> ?_),p.same.trans s,p.fr⟩
 .rcases afx.mp z with q|q
  .obtain⟨o',ho⟩:=p.is.gd ha;rw[q,hr]at ho;cases ho
  .exact p.is.bq.fz a ha q
 .rcases afx.mp ha with q|q
  .exact⟨o,by rw[q];exact h2⟩
  .obtain⟨o',ho⟩:=p.is.bq.fzt a q;exact⟨o',s _ _ ho⟩
theorem KI(x:agZ):1<=kh x/\kh x<=8:=by cases x<;>exact⟨by simp[kh],by simp[kh]⟩
abbrev FV:afR:=dC 101
theorem CZ:au ["book","row","count","start","end"] ["book","row"] (ai FV):=cF
theorem Hx(F:b9 K "first_not_applied" "first_not_applied" FV f fd)(G:lN mg)(mR:mg "DOINGS"=some (.ref R))(hR:QH P w K mg base CB R aQ)(cE:Ca P w K mg base 1 "change_end" ["row","start"] (oY K)):aT P w K mg base bX 5 f fd ["book","row"] (xw CB):=by
 refine cz F CZ fun _ _ _ _ H _ Q E hr h=> ?_
 obtain⟨H0,b,a,d,B,FZ,N,l,ds,rfl,hP,hN,hl,T8,Y9,hz,W9,kok⟩:=h;have nd:=CZ.nd;refine⟨_,ae (cY 2 nd ag) (ae (cY 3 nd ag)
  (ae (sP af3 (aX vm (pv 3) (aN ay rfl G.len agq (aa (pv 1) ab)) (bc _))
   (ae (lC (i:=2) nd rfl (akd rfl) ag mZ)
   (ae (cY 4 nd (cn cE hr rfl (aa (pv 1) (aa (pv 3) ab))))
   (ae (aZ (bu (bf (oH (w9 (cu (v:= .ref R) rfl mR rfl) (aG aA (pv 1) (pv 3)) (fun _ _=>rfl)) (aa (pv 0) (aa (dq mn (pv 1) (cv (bx eh (pv 3) ag)) (cv (bx eh (pv 3) ag))) (aa (dq mn (pv 1) (cv (bx eh (pv 3) ag)) (cv (pv 4))) ab)))))) (af (aq (pv 2))) aC)
   (af (cY 3 nd (pv 4)))))))
  (af (aq ag)))),?_⟩
 show tS _ _ _ [some (.ref b),some (.ref a),some (.int 0),some (.int 0),none] H;have h5:=uS ds;rw[<-Y9]at h5;refine tX (fun σ H'=>∃(i st:Nat) (v4:Option V) (d':BA) (B':aga) (cZ:List afd),σ=[some (.ref b),some (.ref a),some (vn i),some (vn st),v4]/\nZ CB H0 H' b d' B' cZ (N+i)/\a∈cZ/\IL H' a l/\i<=ds.length/\st<=l.length/\l.drop st=(ds.drop i).flatMap ags/\ako 1 ds B=ako (i+1) (ds.drop i) B')
  (fun σ _=>match σ with| [_,_,_,some (.int z),_]=>l.length-z.toNat|_=>0) ⟨0,0,none,d,B,FZ,rfl,hP,T8,hl,afH _,afH _,Y9,rfl⟩ ?_ (fun σ H Q Q' f ⟨v,h1,w,h2,p,ys,h3,h4,i,j,h5,h6,kk,h7,q⟩=>⟨v,h1,w,h2,p,ys,h3,h4,i,j,h5,h6,kk,h7,f _ _ q⟩)
 rintro σ H' ⟨i,st,v4,d',B',cZ,rfl,pv,RF,um,hi,yG,Cb,R7⟩;refine⟨_,rfl,_,rfl,a,_,rfl,.inl (aJ.of um),_,_,rfl,rfl,_,rfl,aW (fun c=> ?_) (fun c=> ?_)⟩
 .have c':=afh c;rw[afb]at c';cases hx:ds.drop i with
  |nil=>
   rw[hx]at Cb;have:=congrArg ahP Cb;rw[agr]at this;simp at this;omega
  |cons x rest=>
   rw[hx,agi]at Cb;rw[hx]at R7;have gV:i<ds.length:=by
    have:=congrArg ahP hx;rw[agr,afr]at this;omega
   have Nb:ds.drop (i+1)=rest:=by rw[<-ahC,hx];rfl
   obtain⟨a0,b0,c0,R5,ht⟩:=Mg x (rest.flatMap ags);have Km:=Cb.trans ht;have cG:∀j:Nat,l[st+j]? =(nat (kh x)::nat a0::nat b0::nat c0::nat (dj x).length::((dj x).map nat++rest.flatMap ags))[j]? :=fun j=>by rw[<-Km,ahZ]
   have bY:l.length=st+5+(dj x).length+(rest.flatMap ags).length:=by
    have:=congrArg ahP Km;rw[agr]at this;simp only[afr,afc,afb]at this;omega
   obtain⟨fa,MT,e1,e2,e3,e4⟩:=hR.P9 (kh x) (KI x);refine⟨_,rfl,_,_,rfl,rfl,_,rfl,_,rfl,a,l,st,nat (dj x).length,rfl,aJ.of um,cG 4,?_⟩;refine⟨_,rfl,_,rfl,a,_,_,.int (kh x:Int),rfl,rfl,aJ.of um,gE (j:=st) rfl (by rw[afy,show l[st]? =some _ from cG 0];rfl),R,aQ,afz (kh x:Int),.ref fa,rfl,hR.kd,rfl,e1,fa,MT,["book","numbers","row"],_,4,rfl,e2,e3,hr,e4,?_⟩;refine⟨_,rfl,_,rfl,_,rfl,_,_,rfl,rfl,_,rfl,_,rfl,_,_,rfl,rfl,_,rfl,a,l,rfl,aJ.of um,fun H3 nl OZ s3 h3=> ?_⟩;have e5:iq l (some ((st:Int)+1)) (some ((st:Int)+4))=(ji x).map nat:=by
    have:=mJ l (st+1) (st+4);rw[show((st+1:Nat):Int)=(st:Int)+1 by omega,show((st+4:Nat):Int)=(st:Int)+4 by omega]at this;rw[this,aiD,show st+4-(st+1)=3 by omega,<-ahC,Km,R5];rfl
   rw[show iq l (some ((st:Int)+1)) (some ((st:Int)+4))=_ from e5]at h3;have Ko:=s3 _ _ um;refine⟨_,rfl,_,rfl,_,_,rfl,rfl,_,rfl,_,rfl,_,rfl,a,l,rfl,aJ.of Ko,fun H4 rl O2 s4 h4=> ?_⟩;have e6:iq l (some ((st:Int)+5)) (some ((st:Int)+5+nat (dj x).length))=(dj x).map nat:=by
    have:=mJ l (st+5) (st+5+(dj x).length);rw[show((st+5:Nat):Int)=(st:Int)+5 by omega,show((st+5+(dj x).length:Nat):Int)=(st:Int)+5+((dj x).length:Nat) by omega]at this;refine this.trans ?_;rw[aiD,ag8,<-ahC,Km];show((dj x).map nat++_).take _=_;rw[aio (by rw[afb])]
   rw[show iq l (some ((st:Int)+5)) (some ((st:Int)+5+nat (dj x).length))=_ from e6]at h4;have p4:=(pv.more s3).add s4 O2 h4;have M6:=s4 _ _ Ko;refine⟨b,nl,rl,d',B',rl::cZ,N+i,x,rfl,rfl,p4.is,by omega,gD (s4 _ _ h3),gD h4,af5,fun H5 d5 B5 MX hB5 ZH gr5=> ?_,fun MX=> ?_⟩
   .refine⟨_,rfl,_,rfl,⟨i+1,st+5+(dj x).length,some (vn (st+5+(dj x).length)),d5,B5,rl::cZ,?_,p4.act hB5 ZH gr5,afu _ RF,ZH _ _ M6 (fun z=>p4.is.bq.fz a z (afu _ RF)),gV,by omega,?_,?_⟩,?_⟩
    .show [some (V.ref b),some (V.ref a),some (V.int ((i:Int)+1)),some (V.int ((st:Int)+5+((dj x).length:Nat))),some (V.int ((st:Int)+5+((dj x).length:Nat)))]=_;rw[show(st:Int)+5+((dj x).length:Nat)=((st+5+(dj x).length:Nat):Int) by omega];rfl
    .rw[Nb,<-ahC,<-ahC,Km];show((dj x).map nat++_).drop _=_;rw[ajT (by rw[afb])]
    .rw[R7,Nb,ako,MX]
    .show l.length-((st:Int)+5+((dj x).length:Nat)).toNat<l.length-((st:Nat):Int).toNat;omega
   .refine⟨_,rfl,_,rfl,W9 _ (i+1) ?_ (aiF _) p4.same⟩;rw[R7,ako,MX]
 .have c':¬((st:Int)<((l.map V.int).length:Nat)):=fun z=>c (afl z)
  rw[afb]at c';have e:l.drop st=[]:=agt (by omega);have WG:ds.drop i=[]:=by
   cases q:ds.drop i with
   |nil=>rfl
   |cons x rest=>
    rw[q,e,agi]at Cb;have:=congrArg ahP Cb;rw[afc,zw,aiQ]at this;omega
  rw[WG]at R7;exact kok H' d' B' cZ (N+i) (by rw[R7,ako]) (by omega) pv.is pv.same
inductive xH(K:afW)(C:afd)(vs:List V)(H:Hp)(Q:VK)(E:XK):Prop|m:∀(b:afd) (d:BA) (B:aga) (FZ:List afd) (N n:Nat),vs=[.ref b,vn n]->aV C H b d B FZ N->N<100000->(∀(H':Hp) (t:afd),ax H H'->gF K H' t [vn (afX B n).1,vn (afX B n).2]->Q (.ref t) H')->xH K C vs H Q E
inductive pW(C:afd)(vs:List V)(H:Hp)(Q:VK)(E:XK):Prop|m:∀(b:afd) (d:BA) (B:aga) (FZ:List afd) (N e i:Nat),vs=[.ref b,vn e,vn i]->aV C H b d B FZ N->1<=e->1<=i->Q (vn (ahK B e i)) H->pW C vs H Q E
theorem yT(h:B.entries[e-1]? =none):ahK B e i=0:=by
 unfold ahK;split
 .rfl
 .rw[h];rfl
theorem qt(he:1<=e)(hi:1<=i)(h:B.entries[e-1]? =some x):ahK B e i=(x.senses[i-1]?).getD 0:=by
 unfold ahK;rw[afe (by omega),h];rfl
abbrev Ge:afR:=dC 79
theorem LQ:au ["book","sense"] ["book","sense"] (ai Ge):=cF
theorem HS(F:b9 K "number_in" "number_in" Ge f fd)(cN:Ca P w K mg base 1 "sense_numbers" ["book"] (tJ C))(cA:Ca P w K mg base 1 "number_among" ["numbers","sense"] (oW K)):aT P w K mg base bX 2 f fd ["book","sense"] (xH K C):=by
 refine cz F LQ fun _ _ _ _ H _ Q E hr h=> ?_
 obtain⟨b,d,B,FZ,N,n,rfl,hB,hN,k⟩:=h;refine⟨_,af (aq (cn cA hr rfl (aa (cn cN hr rfl (aa (pv 0) ab)) (aa (pv 1) ab)))),?_⟩;exact⟨_,rfl,b,d,B,FZ,N,rfl,hB,hN,fun H1 p kv na hp hk dk uo s1=>⟨_,rfl,n,p,B,kv,na,rfl,⟨hk,dk,uo⟩,fun t ht=>k H1 t s1 ht⟩⟩
abbrev yj:afR:=dC 80
theorem vC:au ["book","entry_place","sense_place","row"] ["book","entry_place","sense_place"] (ai yj):=cF
theorem AB(F:b9 K "sense_at" "sense_at" yj f fd)(T:mC K mg C)(G:lN mg):aT P w K mg base bX 1 f fd ["book","entry_place","sense_place"] (pW C):=by
 refine cz F vC fun _ _ _ _ H _ Q E hr h=> ?_
 obtain⟨b,d,B,FZ,N,e,i,rfl,hB,he,hi,k⟩:=h;refine⟨_,ae (aZ (aX oF (pv 1) (aN ay rfl G.len agq (aa (az (pv 0)) ab)) (bc _)) (af (aq ag)) aC)
  (ae (cY 3 vC.nd (bC (bZ hr) (az (pv 0)) (aG aA (az (pv 0)) (bx j3 (pv 1) ag))))
  (ae (aZ (aX oF (pv 2) (aN ay rfl G.len agq (aa (pv 3) ab)) (bc _)) (af (aq ag)) aC)
  (af (aq (aG aA (pv 3) (bx j3 (pv 2) ag)))))),?_⟩
 have L0:=hB.bq;have el:((names B).map vn).length=B.entries.length:=by rw[afb,names,afb]
 refine⟨_,rfl,_,rfl,b,C,d.dx,_,_,rfl,L0.ins,T.cl,T.nO,bP,d.o,_,rfl,.inl (aJ.of L0.ord),_,_,rfl,rfl,_,rfl,aW (fun c=> ?_) (fun c=> ?_)⟩
 .have c':=afh c;rw[el]at c';rw[yT (air (by omega))]at k;exact k
 .have c':¬((((names B).map vn).length:Nat):Int)<(e:Int):=fun z=>c (afl z)
  rw[el]at c';have zO:e-1<B.entries.length:=by omega
  have hx:=afk zO;have px:B.entries[e-1]∈B.entries:=akN zO;have wA:(B.entries[e-1]).name∈names B:=aY.mpr ⟨_,px,rfl⟩;have jR:(names B)[e-1]? =some (B.entries[e-1]).name:=by rw[names,afy,hx];rfl
  refine⟨_,rfl,b,C,d.dx,_,_,rfl,L0.ins,T.cl,T.nR,du,_,rfl,b,C,d.dx,_,_,rfl,L0.ins,T.cl,T.nO,bP,_,rfl,_,_,rfl,rfl,nV (i:=e-1) L0.ord jR ⟨d.r,_,rfl,hB.gR wA,?_⟩ (by omega)⟩;have jE:=hB.row px;refine⟨_,rfl,_,rfl,d.ra _,_,rfl,.inl (aJ.of jE),_,_,rfl,rfl,_,rfl,aW (fun c2=> ?_) (fun c2=> ?_)⟩
  .have c3:=afh c2;rw[afb]at c3;rw[qt he hi hx,air (by omega)]at k;exact k
  .have c3:¬((((B.entries[e-1]).senses.map vn).length:Nat):Int)<(i:Int):=fun z=>c2 (afl z)
   rw[afb]at c3;have gV:i-1<(B.entries[e-1]).senses.length:=by omega
   have hn:=afk gV;rw[qt he hi hx,hn]at k;exact⟨_,rfl,_,rfl,_,_,rfl,rfl,nV (i:=i-1) jE hn k (by omega)⟩
abbrev n2(x:Nat×Nat):List V:=[vn x.1,vn x.2]
theorem jt{ys:List V}(h:gF K H u xs)(k:Kp [q] H H')(hq:H q=some (.ba ys)):gF K H' u xs:=by
 have ne:∀{o:HO},H u=some o->o≠ .ba ys->u∉ [q]:=fun{o} e n z=>by
  have:u=q:=by simpa using z
  rw[this,hq]at e;exact n (afv e).symm
 rcases h with(h|⟨o,h⟩)|h
 .exact .inl (.inl (k _ _ h (ne h (by intro z;cases z))))
 .exact .inl (.inr ⟨o,k _ _ h (ne h (by intro z;cases z))⟩)
 .exact .inr h
theorem gP(e:ax H H')(h:gF K H a xs):gF K H' a xs:=by
 rcases h with(h|⟨o,h⟩)|h
 .exact .inl (.inl (e _ _ h))
 .exact .inl (.inr ⟨o,e _ _ h⟩)
 .exact .inr h
structure rC(K:afW)(H:Hp)(B:aga)(ts:List afd)(ns:List Nat):Prop where
 len:ts.length=ns.length
 cG:∀(i:Nat) (t:afd) (n:Nat),ts[i]? =some t->ns[i]? =some n->∃u v,H t=some (.dY [.ref u,.ref v])/\gF K H u (n2 (afX B n))/\gF K H v (n2 (afX B (aft B n).points))
theorem rC.kp{ns:List Nat}{ys:List V}(h:rC K H B ts ns)(k:Kp [q] H H')(hq:H q=some (.ba ys)):rC K H' B ts ns:=⟨h.len,fun i t n h1 h2=>by
 obtain⟨u,v,h3,h4,h5⟩:=h.cG i t n h1 h2;refine⟨u,v,k _ _ h3 fun z=> ?_,jt h4 k hq,jt h5 k hq⟩;have:t=q:=by simpa using z
 rw[this,hq]at h3;cases h3⟩
theorem rC.same{ns:List Nat}(h:rC K H B ts ns)(s:ax H H'):rC K H' B ts ns:=⟨h.len,fun i t n h1 h2=>by
 obtain⟨u,v,h3,h4,h5⟩:=h.cG i t n h1 h2;exact⟨u,v,s _ _ h3,gP s h4,gP s h5⟩⟩
theorem rC.snoc{ns:List Nat}{t v:afd}(h:rC K H B ts ns)(h3:H t=some (.dY [.ref u,.ref v]))(h4:gF K H u (n2 (afX B n)))(h5:gF K H v (n2 (afX B (aft B n).points))):rC K H B (ts++ [t]) (ns++ [n]):=by
 refine⟨by rw[afc,afc,h.len];rfl,fun i t' n' h1 h2=> ?_⟩;rcases dE h1 with z1|⟨z1,z2⟩
 .rcases dE h2 with y1|⟨y1,y2⟩
  .exact h.cG i t' n' z1 y1
  .have:=(aff.mp z1).1;have:=h.len;omega
 .rcases dE h2 with y1|⟨y1,y2⟩
  .have:=(aff.mp y1).1;have:=h.len;omega
  .subst z2;subst y2;exact⟨u,v,h3,h4,h5⟩
inductive xK(K:afW)(C:afd)(vs:List V)(H:Hp)(Q:VK)(E:XK):Prop|m:∀(b:afd) (d:BA) (B:aga) (FZ:List afd) (N:Nat),vs=[.ref b]->aV C H b d B FZ N->N<100000->(∀(H':Hp) (l:afd) (ts:List afd),ax H H'->H' l=some (.ba (ts.map V.ref))->rC K H' B ts (iU B)->Q (.ref l) H')->xK K C vs H Q E
abbrev ML:afR:=dC 81
theorem tm:au ["book","numbers","found","sense","target"] ["book"] (ai ML):=cF
theorem Ld(F:b9 K "pointers_of" "pointers_of" ML f fd)(T:mC K mg C)(cN:Ca P w K mg base 1 "sense_numbers" ["book"] (tJ C))(cA:Ca P w K mg base 1 "number_among" ["numbers","sense"] (oW K))(mS:Ma P w K mg base 1 C "senses" ["self"] (jO C)):aT P w K mg base bX 2 f fd ["book"] (xK K C):=by
 refine cz F tm fun _ _ _ _ H _ Q E hr h=> ?_
 obtain⟨b,d,B,FZ,N,rfl,hB,hN,k⟩:=h;refine⟨_,ae (cY 1 tm.nd (cn cN hr rfl (aa (pv 0) ab)))
  (ae (cY 2 tm.nd (fN ab))
  (ae (cM af3 rfl (bO (jK (pv 0) T.cl mS hr)) (hJ 3 tm.nd)
   (ae (cY 4 tm.nd (bC (bZ hr) (az (pv 0)) (pv 3)))
   (af (aZ (aX yY (pv 4) ag (bc _)) (af (aI (cy afs age agj de (pv 2) (aa (Xx (aa (bC (bZ hr) (pv 1) (pv 3)) (aa (cn cA hr rfl (aa (pv 1) (aa (pv 4) ab))) ab))) ab)))) aC))))
  (af (aq (pv 2))))),?_⟩
 refine⟨_,rfl,b,d,B,FZ,N,rfl,hB,hN,fun H1 p kv na hp hk dk uo s1=>⟨afH _,fun H2 q nq s2 h2=> ?_⟩⟩;have lY:=hB.same (s1.trans s2);refine⟨_,rfl,b,d.dx,_,rfl,lY.bq.ins,bF (by decide+kernel),b,d,B,FZ,N,rfl,lY,hN,fun H3 sl ns qI s3=> ?_⟩;have n1:Dn H1 p B kv na:=⟨hk,dk,uo⟩;have ZU:∀{a:afd} {o:HO},H1 a=some o->a∉ [q]:=fun e z=>(ak e nq) (by simpa using z)
 have e0:(afF B).length<=N:=hB.ls;refine⟨sl,rfl,⟨_,aJ.of qI⟩,cV (K:=K) (a:=sl) (xs:=(afF B).map vn) (fun i σ H'=>∃(v3 v4:Option V) (ts:List afd),σ=[some (.ref b),some (.ref p),some (.ref q),v3,v4]/\Kp [q] H3 H'/\H' q=some (.ba (ts.map V.ref))/\rC K H' B ts (((afF B).take i).filter fun n=>(aft B n).points !=0))
  ⟨none,none,[],rfl,Kp.refl _ _,s3 _ _ h2,⟨rfl,fun i t n h1=>by simp at h1⟩⟩ (fun i σ H' _ ⟨_,_,_,_,k4,_,_⟩=>aJ.of (k4 _ _ qI fun z=> ?_)) ?_ ?_⟩
 .have:sl=q:=by simpa using z
  rw[this,h2]at ns;cases ns
 .rintro i y σ H' hi ⟨v3,v4,ts,rfl,k4,OD,pa⟩;obtain⟨n,hn,rfl⟩:=eg hi;have Ae:n∈afF B:=afq hn;have qF:n∈aD B:=(hB.wf.same n).mp Ae;have QC:ax H1 H':=fun a o e=>k4 _ _ (s3 _ _ (s2 _ _ e)) (ZU e)
  have YS:=hB.same (s1.trans QC);refine⟨_,rfl,b,C,d.dx,_,_,rfl,YS.bq.ins,T.cl,T.nG,dN,_,rfl,d.g,_,rfl,YS.gG qF,?_⟩;rw[aS hn,agl,afU];refine⟨_,rfl,rfl,_,rfl,aW (fun c=> ?_) (fun c=> ?_)⟩
  .have c0:(aft B n).points≠0:=fun z=>by rw[z]at c;exact absurd c (by decide)
   rw[afj (by simpa using c0)];have n4:=n1.same QC;have hg:ei H' p (vn n) (some (.ref (na n))):=by
    have:=ei.k (k:=afz (n:Int)) n4.cG;rw[dk.get Ae]at this;exact this
   refine⟨_,rfl,.inl ⟨rfl,_,aJ.of OD⟩,_,rfl,_,rfl,p,_,rfl,hg,_,rfl,_,rfl,(aft B n).points,p,B,kv,na,rfl,n4,fun t ht=>⟨xQ,fun H5 tu Xs s5 h5=> ?_⟩⟩;have hl:ts.length<=N:=by
    rw[pa.len];refine afw (af8 _ _) ?_;rw[afY];omega
   refine⟨q,_,_,rfl,rfl,s5 _ _ OD,by rw[afb];exact b8 (by omega),?_⟩;have k6:Kp [q] H5 (aE H5 q (.ba (ts.map V.ref++ [.ref tu]))):=Kp.gZ (by simp);have Sa:=s5 _ _ OD;refine⟨_,_,ts++ [tu],rfl,fun a o e ne=>k6 _ _ (s5 _ _ (k4 a o e ne)) ne,?_,((pa.same s5).kp k6 Sa).snoc (u:=na n) (v:=t) (k6 _ _ h5 fun z=> ?_) (jt (gF.of (s5 _ _ (n4.dY n Ae))) k6 Sa) (jt (gP s5 ht) k6 Sa)⟩
   .rw[aj,afD];rfl
   .have:tu=q:=by simpa using z
    rw[this,OD]at Xs;cases Xs
  .have c0:(aft B n).points=0:=agA fun z=>c (ne_int z)
   rw[afe (by simp[c0])];exact⟨_,_,ts,rfl,k4,OD,by rw[ahI,af7];exact pa⟩
 .rintro σ H' ⟨v3,v4,ts,rfl,k4,OD,pa⟩;rw[afb,afT]at pa;exact⟨_,rfl,k H' q ts (fun a o e=>k4 _ _ (s3 _ _ (s2 _ _ (s1 _ _ e))) (ZU (s1 _ _ e))) OD pa⟩
theorem yX(w:WF B)(p:Nat):afX B p=(0,0)↔agz B p=0:=by
 by_cases h:p∈afF B
 .obtain⟨x,hx,hn⟩:=dH.mp h;obtain⟨i,hi⟩:=agc hx;obtain⟨j,hj⟩:=agc hn;rw[l8 w hi hj];exact⟨fun z=>by injection z with z;omega,fun z=>absurd z (iu w h).2.1⟩
 .have e:=jV h;exact⟨fun _=>e,fun _=>by unfold afX;rw[afj e]⟩
theorem J2(B:aga):dead B=(iU B).filter fun n=>agz B (aft B n).points==0:=by
 unfold dead iU;rw[alY];refine ajm fun n _=> ?_
 rw[Bool.and_comm]
structure Dl(K:afW)(H:Hp)(B:aga)(us:List afd)(ns:List Nat):Prop where
 len:us.length=ns.length
 cG:∀(i:Nat) (u:afd) (n:Nat),us[i]? =some u->ns[i]? =some n->gF K H u (n2 (afX B n))
theorem Dl.snoc{us:List afd}{ns:List Nat}(h:Dl K H B us ns)(h4:gF K H u (n2 (afX B n))):Dl K H B (us++ [u]) (ns++ [n]):=by
 refine⟨by rw[afc,afc,h.len];rfl,fun i t' n' h1 h2=> ?_⟩;rcases dE h1 with z1|⟨z1,z2⟩
 .rcases dE h2 with y1|⟨y1,y2⟩
  .exact h.cG i t' n' z1 y1
  .have:=(aff.mp z1).1;have:=h.len;omega
 .rcases dE h2 with y1|⟨y1,y2⟩
  .have:=(aff.mp y1).1;have:=h.len;omega
  .subst z2;subst y2;exact h4
inductive AV(K:afW)(C:afd)(vs:List V)(H:Hp)(Q:VK)(E:XK):Prop|m:∀(b:afd) (d:BA) (B:aga) (FZ:List afd) (N:Nat),vs=[.ref b]->aV C H b d B FZ N->N<100000->(∀(H':Hp) (l:afd) (us:List afd),ax H H'->H' l=some (.ba (us.map V.ref))->Dl K H' B us (dead B)->Q (.ref l) H')->AV K C vs H Q E
abbrev vY:afR:=dC 82
theorem xh:au ["book","pointer"] ["book"] (ai vY):=cF
theorem JS:iK ["book","pointer"] (ai vY) (OP (cq vY) 0) [("pointer",1)]:=⟨rfl,by decide+kernel,by decide+kernel,by decide+kernel,by decide+kernel⟩
theorem Hq{nt:afd}(F:b9 K "dead_pointers_of" "dead_pointers_of" vY f fd)(m:mg "NOT_THERE"=some (.ref nt))(hk:ko K nt [vn 0,vn 0])(cP:Ca P w K mg base 2 "pointers_of" ["book"] (xK K C)):aT P w K mg base bX 3 f fd ["book"] (AV K C):=by
 refine cz F xh fun _ _ _ _ H _ Q E hr h=> ?_
 obtain⟨b,d,B,FZ,N,rfl,hB,hN,k⟩:=h;refine⟨_,af (aq (mv (own:=[("pointer",1)]) rfl xh.nd (bO (cn cP hr rfl (aa (pv 0) ab))) JS (fun _ _ _ _ _=>hJ 1 xh.nd)
  (fun _ _ _ _ _=>oK (aX (r:=Pk K) (Pe hr.units) (aG (r:=ES K) eJ (pv 1) ag) (cu (v:= .ref nt) rfl m rfl) (bc _))) (fun _ _ _ _ _=>aG (r:=ES K) eJ (pv 1) ag (fun _ _=>rfl)))),?_⟩
 refine⟨_,rfl,b,d,B,FZ,N,rfl,hB,hN,fun H1 l ts s1 hl pa=>⟨l,rfl,⟨_,aJ.of hl⟩,fun D hD=>jZ (K:=K) (a:=l) (xs:=ts.map V.ref) (fun i H'=>ax H1 H'/\∃us,H' D=some (.ba (us.map V.ref))/\Dl K H' B us (((iU B).take i).filter fun n=>agz B (aft B n).points==0))
  ⟨ax.new hD,[],aj,⟨rfl,fun i u n h1=>by simp at h1⟩⟩ (fun i H' _ h=>aJ.of (h.1 _ _ hl)) ?_ ?_⟩⟩
 .rintro i x H' hi ⟨s2,us,h2,na⟩;obtain⟨t,ht,rfl⟩:∃t,ts[i]? =some t/\x=V.ref t:=by
   rw[afy]at hi;cases e:ts[i]? with
   |none=>rw[e]at hi;cases hi
   |some z=>rw[e]at hi;exact⟨z,rfl,(afv hi).symm⟩
  have gV:i<(iU B).length:=by rw[<-pa.len];exact(aff.mp ht).1
  have hn:=afk gV;obtain⟨u,v,h3,h4,h5⟩:=pa.cG i t _ ht hn;have Fp:=gF.of (K:=K) (s2 _ _ h3);rw[aS hn,agl,afU];refine⟨rfl,_,rfl,t,_,_,_,rfl,rfl,Fp,(show pB [V.ref u,V.ref v] (1:Int)=some (V.ref v)from rfl),v,nt,[_,_],[0,0],rfl,rfl,gP s2 h5,.inr hk,_,rfl,aW (fun c=> ?_) (fun c=> ?_)⟩
  .have c0:afX B (aft B (iU B)[i]).points=(0,0):=by
    have:=afh c;injection this with z1 z2
    injection z2 with z2
    exact Prod.ext (by show(afX B _).1=0;omega) (by show(afX B _).2=0;omega)
   rw[afj (by simpa using(yX hB.wf _).mp c0)];have hul:us.length<=N:=by
    rw[na.len];refine afw (af8 _ _) (afw (by rw[afY];exact ajy _ _) (afw (af8 _ _) hB.ls))
   refine⟨_,rfl,t,_,_,_,rfl,rfl,Fp,(show pB [V.ref u,V.ref v] (0:Int)=some (V.ref u)from rfl),_,h2,by rw[afb];exact b8 (by omega),?_⟩;have k6:Kp [D] H' (aE H' D (.ba (us.map V.ref++ [.ref u]))):=Kp.gZ (by simp);refine⟨fun a o e=>k6 _ _ (s2 a o e) fun z=>(ak e hD) (by simpa using z),us++ [u],by rw[aj,afD];rfl,Dl.snoc ⟨na.len,fun j u' n' q1 q2=>jt (na.cG j u' n' q1 q2) k6 h2⟩ (jt (gP s2 h4) k6 h2)⟩
  .have c0:¬afX B (aft B (iU B)[i]).points=(0,0):=fun z=>c (afl (by rw[z];rfl))
   rw[afe (by simpa using fun z=>c0 ((yX hB.wf _).mpr z)),ahI,af7];exact⟨s2,us,h2,na⟩
 .rintro H' ⟨s2,us,h2,na⟩;rw[afb,pa.len,afT,<-J2]at na;exact k H' D us (s1.trans s2) h2 na
def FF(l:List agG)(n:Nat):List Int:=(kT (ahE l n)).map nat++ [nat (ahE l n).length]
inductive xo(CB:afd)(CH:afd)(vs:List V)(H:Hp)(Q:VK)(E:XK):Prop|m:∀(h:afd) (D:HA) (S:afn) (FZ:List afd) (k n:Nat),vs=[.ref h,vn k,vn n]->cb CB CH H h D S FZ->k<=S.editions.length->(∀(H':Hp) (l:afd),ax H H'->IL H' l (FF (S.log.take (ahi S k)) n)->Q (.ref l) H')->xo CB CH vs H Q E
theorem Oe(xs:List V)(j:Nat):x6 xs none (some (j:Int))=xs.take j:=by
 unfold x6;rw[HT.oP,HT.sT,ahX,amg];by_cases q:j<=xs.length
 .rw[ahJ q]
 .rw[ajv (by omega),afT,agw (by omega)]
theorem GJ(l:List agG)(n:Nat):(ahE l n).length<=l.length:=by
 refine jN (P:=fun l=>(ahE l n).length<=l.length) (afp _) (fun l a ih=> ?_) l;rw[uZ,afc,afc];split
 .exact Nat.add_le_add ih (afp _)
 .exact afw ih (agP _ _)
theorem tw(a:agG):alu a=true↔bz a=1:=by cases a<;>simp[alu,bz]
theorem ZE{l:List V}{c:Nat}(h:1<=c/\c<=4)(hl:l.length=4:=by rfl):L2.nV l.length ((c:Int)-1)=some (c-1):=by
 rw[hl];have:c=1\/c=2\/c=3\/c=4:=by omega
 rcases this with e|e|e|e<;>subst e<;>rfl
abbrev Bn:afR:=bt gm 12
theorem za:au ["self","number","sense","last_lines","count","senses_made","place","line","call","blamed"] ["self","number","sense"] (ai Bn):=cF
theorem Eh(F:b9 K "blame" "House.blame" Bn f fd)(T:zU K mg CH)(G:lN mg)(X:Ju mg)(mL:Ma P w K mg base 1 CH "length" ["self","number"] (E4 CB CH fun _ S k=>vn (ahi S k))):aT P w K mg base bX 2 f fd ["self","number","sense"] (xo CB CH):=by
 refine cz F za fun _ _ _ _ H _ Q E hr h=> ?_
 obtain⟨h,D,S,FZ,k,n,rfl,W,hk,q⟩:=h;have nd:=za.nd;refine⟨_,ae (cY 3 nd (fN (aa ag (aa ag (aa ag (aa ag ab))))))
  (ae (cY 4 nd ag) (ae (cY 5 nd ag)
  (ae (cM af3 rfl (lx rfl G.DG (dq C8 (az (pv 0)) hX (cv (bR (pv 0) T.cl mL hr (aa (pv 1) ab)))) ag) (i8 rfl (bH (hJ 6 nd) (bH (hJ 7 nd) gN)))
   (ae (cY 8 nd (aG eJ (pv 7) ag))
   (ae (aZ (aX fU (pv 8) (gY rfl X.made) (bc _))
    (ae (lC (i:=5) nd rfl (akd rfl) ag mZ) (af (cY 9 nd (pv 5))))
    (af (cY 9 nd (aG aA (aG eJ (pv 7) ag) ag))))
   (af (aZ (PW.pt (nj (lD gT gT (gY rfl X.made) (pv 8) (gY rfl X.Sw)) (j6 (aX fU (pv 9) (pv 2) (bc _)))))
    (ae (Ir (pv 6) (Io (pv 3) (bx j3 (pv 8) ag) zk)) (af (lC (i:=4) nd rfl (akd rfl) ag mZ))) aC)))))
  (af (aq (bx dW (pv 3) (fN (aa (pv 4) ab)))))))),?_⟩
 have hz:=W.st.len;refine⟨by show 4<=sizeLine;decide,fun H1 L nL s1 hL=> ?_⟩;have W1:=W.same s1;refine⟨_,rfl,h,CH,D.dx,_,_,rfl,W1.w.ins,T.cl,T.nL,i7,_,rfl,h,D.dx,_,rfl,W1.w.ins,cj (e9 _ (by simp)),_,rfl,h,D,S,FZ,k,rfl,W1,hk,_,rfl,D.lg,_,rfl,aJ.of W1.w.hl,fun sl Xr=> ?_⟩;rw[Oe,<-aiM];have s2:ax H1 (aE H1 sl (.ba ((D.la.take (ahi S k)).map fun x=>V.ref x.1))):=ax.new Xr;have qI:aE H1 sl (.ba ((D.la.take (ahi S k)).map fun x=>V.ref x.1)) sl=some (.ba ((D.la.take (ahi S k)).map fun x=>V.ref x.1)):=aj;generalize aE H1 sl (.ba ((D.la.take (ahi S k)).map fun x=>V.ref x.1))=H2 at s2 qI⊢;have nLs:sl∉ [L]:=fun z=>by
  have:sl=L:=by simpa using z
  rw[this,hL]at Xr;cases Xr
 have Ad:(D.la.take (ahi S k)).length=(S.log.take (ahi S k)).length:=by rw[afY,afY,W.w.ll]
 have Cc:(S.log.take (ahi S k)).length<=200:=afw (by rw[afY];exact ajy _ _) hz;have Xc:∀(i:Nat) (x:afd×afd×afd) (a:agG),(D.la.take (ahi S k))[i]? =some x->(S.log.take (ahi S k))[i]? =some a->i6 H FZ x a:=fun i x a h1 h2=>by
  rw[List.getElem?_take]at h1 h2;split at h1
  .rename_i z;rw[afj z]at h2;exact W.w.ki i x a h1 h2
  .cases h1
 generalize D.la.take (ahi S k)=la at qI Ad Xc⊢;generalize S.log.take (ahi S k)=lg at q Ad Cc Xc;refine⟨sl,_,_,rfl,rfl,aJ.of qI,by decide,by decide,jD (K:=K) (a:=sl) (xs:=la.map fun x=>V.ref x.1) (c:=1)
  (fun i σ H'=>∃(v6 v7 v8 v9:Option V),σ=[some (.ref h),some (vn k),some (vn n),some (.ref L),some (vn (ahE (lg.take i) n).length),some (vn (sc (lg.take i))),v6,v7,v8,v9]/\Kp [L] H2 H'/\NL H' L (kT (ahE (lg.take i) n)))
  ⟨none,none,none,none,rfl,Kp.refl _ _,s2 _ _ hL⟩ (fun i σ H' _ ⟨_,_,_,_,_,k3,_⟩=>aJ.of (k3 _ _ qI nLs)) ?_ ?_⟩
 .rintro i y σ H' Tu hi ⟨v6,v7,v8,v9,rfl,k3,JA⟩ hT;obtain⟨x,hx,rfl⟩:=kX hi;have gV:i<lg.length:=by rw[<-Ad];exact(aff.mp hx).1
  have ha:=afk gV;have L1:=Xc i x _ hx ha;generalize lg[i]=a at ha L1;have VE:(1+(i:Nat):Int)=((i+1:Nat):Int):=by omega
  have s4:ax H' (aE H' Tu (.dY [.int (1+(i:Nat)),V.ref x.1])):=ax.new hT;have RE:aE H' Tu (.dY [.int (1+(i:Nat)),V.ref x.1]) Tu=some (.dY [.int (1+(i:Nat)),V.ref x.1]):=aj;generalize aE H' Tu (.dY [.int (1+(i:Nat)),V.ref x.1])=H4 at s4 RE⊢;have s04:ax H H4:=fun b o e=>s4 _ _ (k3 _ _ (s2 _ _ (s1 _ _ e)) fun z=>(ak e nL) (by simpa using z))
  have L4:=L1.same s04;have V6:=s4 _ _ JA;have ht:=gF.of (K:=K) L4.tu;have hs:=uZ (lg.take i) a n;have Qx:=C7 (lg.take i) a;have Oi:(lg.take i).length=i:=by rw[afY];exact ahJ (agE gV)
  have bY:(kT (ahE (lg.take i) n)).length=4:=rfl;refine⟨Tu,_,rfl,gF.of RE,rfl,_,_,rfl,_,_,rfl,rfl,?_⟩;refine⟨_,rfl,x.1,_,_,_,rfl,rfl,ht,(show pB [vn (bz a),V.ref x.2.1,V.ref x.2.2] (0:Int)=some (vn (bz a))from rfl),?_⟩;have no:∀{u9:V} {m:Nat},¬((1<=bz a/\bz a<=4)/\kI (sc (lg.take i)+1) a=n)->m=sc (lg.take (i+1))->(∃(v6 v7 v8 v9:Option V),([some (.ref h),some (vn k),some (vn n),some (.ref L),some (vn (ahE (lg.take i) n).length),some (vn m),some (.int (1+(i:Nat))),some (V.ref x.1),some (vn (bz a)),some u9]:L2.St)=[some (.ref h),some (vn k),some (vn n),some (.ref L),some (vn (ahE (lg.take (i+1)) n).length),some (vn (sc (lg.take (i+1)))),v6,v7,v8,v9]/\Kp [L] H2 H4/\NL H4 L (kT (ahE (lg.take (i+1)) n))):=fun{u9 m} z em=>by
   rw[aS ha,hs,afe (fun y=>z ((vJ _ _ _).mp y)),af7,<-aS ha,<-em];exact⟨_,_,_,_,rfl,fun b o e ne=>s4 _ _ (k3 b o e ne),V6⟩
  have P9:∀{u9:V} {m:Nat},(1<=bz a/\bz a<=4)->kI (sc (lg.take i)+1) a=n->m=sc (lg.take (i+1))->(∃(v6 v7 v8 v9:Option V),([some (.ref h),some (vn k),some (vn n),some (.ref L),some (.int ((ahE (lg.take i) n).length+1)),some (vn m),some (.int (1+(i:Nat))),some (V.ref x.1),some (vn (bz a)),some u9]:L2.St)=[some (.ref h),some (vn k),some (vn n),some (.ref L),some (vn (ahE (lg.take (i+1)) n).length),some (vn (sc (lg.take (i+1)))),v6,v7,v8,v9]/\Kp [L] H2 (aE H4 L (.ba (((kT (ahE (lg.take i) n)).map vn).set (bz a-1) (.int (1+(i:Nat))))))/\NL (aE H4 L (.ba (((kT (ahE (lg.take i) n)).map vn).set (bz a-1) (.int (1+(i:Nat)))))) L (kT (ahE (lg.take (i+1)) n))):=fun{u9 m} b1 b2 em=>by
   rw[aS ha,hs,afj ((vJ _ _ _).mpr ⟨b1,b2⟩),<-aS ha,<-em,afc,DZ b1,Al b1,Oi];refine⟨_,_,_,_,rfl,fun b o e ne=> ?_,?_⟩
   .rw[ao (fun z=>ne (by rw[z];simp))];exact s4 _ _ (k3 b o e ne)
   .show L2.aE _ L _ L=_;rw[aj,anC,VE]
  refine⟨_,rfl,rfl,_,rfl,aW (fun c0=> ?_) (fun c0=> ?_)⟩
  .have h1:bz a=1:=by
    have:=afh c0;injection this with this
    omega
   have eb:kI (sc (lg.take i)+1) a=sc (lg.take i)+1:=by unfold kI;rw[afj h1]
   have em:sc (lg.take i)+1=sc (lg.take (i+1)):=by rw[aS ha,Qx,afj ((tw a).mpr h1)]
   refine⟨_,rfl,_,_,rfl,rfl,_,rfl,?_⟩;refine⟨_,rfl,_,_,rfl,rfl,_,rfl,aW (fun c1=> ?_) (fun c1=> ?_)⟩
   .refine⟨_,_,rfl,rfl,_,rfl,aW (fun c2=> ?_) (fun c2=> ?_)⟩
    .refine⟨_,rfl,_,rfl,rfl,_,rfl,aW (fun c3=> ?_) (fun c3=> ?_)⟩
     .have b1:1<=bz a/\bz a<=4:=⟨by have:=afh c1;omega,by have:=afh c2;omega⟩;have b2:sc (lg.take i)+1=n:=by
       have:V.int (((sc (lg.take i)+1:Nat)):Int)=vn n:=afh c3;injection this with this
       omega
      refine⟨_,rfl,_,rfl,_,rfl,_,_,rfl,rfl,L,_,_,bz a-1,rfl,rfl,V6,ZE b1,_,rfl,_,_,rfl,rfl,?_⟩;exact P9 b1 (eb.trans b2) em
     .exact no (fun z=>c3 (afl (show V.int (((sc (lg.take i)+1:Nat)):Int)=vn n by rw[show sc (lg.take i)+1=n from eb.symm.trans z.2]))) em
    .exact no (fun z=>c2 (afl (by have:=z.1.2;omega))) em
   .exact⟨_,rfl,no (fun z=>c1 (afl (by have:=z.1.1;omega))) em⟩
  .have h1:¬bz a=1:=fun z=>c0 (afl (by rw[z];rfl))
   have eb:kI (sc (lg.take i)+1) a=(eO a).headD 0:=by unfold kI;rw[afe h1]
   have em:sc (lg.take i)=sc (lg.take (i+1)):=by rw[aS ha,Qx,afe (fun z=>h1 ((tw a).mp z))]
   refine⟨_,rfl,x.1,_,_,_,rfl,rfl,ht,(show pB [vn (bz a),V.ref x.2.1,V.ref x.2.2] (1:Int)=some (V.ref x.2.1)from rfl),x.2.1,_,_,vn ((eO a).headD 0),rfl,rfl,aJ.of L4.nu,iL (i:=0) (vk a),?_⟩;refine⟨_,rfl,_,_,rfl,rfl,_,rfl,aW (fun c1=> ?_) (fun c1=> ?_)⟩
   .refine⟨_,_,rfl,rfl,_,rfl,aW (fun c2=> ?_) (fun c2=> ?_)⟩
    .refine⟨_,rfl,_,rfl,rfl,_,rfl,aW (fun c3=> ?_) (fun c3=> ?_)⟩
     .have b1:1<=bz a/\bz a<=4:=⟨by have:=afh c1;omega,by have:=afh c2;omega⟩;have b2:(eO a).headD 0=n:=by
       have:V.int ((((eO a).headD 0:Nat)):Int)=vn n:=afh c3;injection this with this
       omega
      refine⟨_,rfl,_,rfl,_,rfl,_,_,rfl,rfl,L,_,_,bz a-1,rfl,rfl,V6,ZE b1,_,rfl,_,_,rfl,rfl,?_⟩;exact P9 b1 (eb.trans b2) em
     .exact no (fun z=>c3 (afl (show V.int ((((eO a).headD 0:Nat)):Int)=vn n by rw[show(eO a).headD 0=n from eb.symm.trans z.2]))) em
    .exact no (fun z=>c2 (afl (by have:=z.1.2;omega))) em
   .exact⟨_,rfl,no (fun z=>c1 (afl (by have:=z.1.1;omega))) em⟩
 .rintro σ H' ⟨v6,v7,v8,v9,rfl,k3,JA⟩;rw[afb,Ad,afT]at JA⊢;have hh:=GJ lg n;refine⟨_,rfl,_,rfl,jv,fun H5 m5 n5 s5 h5=>⟨L,m5,_,[nat (ahE lg n).length],rfl,rfl,jx (s5 _ _ JA),h5,?_,fun H6 m6 n6 s6 h6=> ?_⟩⟩
  .show 4+1<=_
   decide
  .exact q H6 m6 (fun b o e=>s6 _ _ (s5 _ _ (k3 _ _ (s2 _ _ (s1 _ _ e)) fun z=>(ak e nL) (by simpa using z)))) h6
structure kF(P:afA)(w:af4)(K:afW)(mg:Str->Option afg)(base:agg)(CB CH:afd):Prop where
 a:jr P w K mg base CB CH
 Oc:Ca P w K mg base 3 "copied" ["book"] (lI CB)
 printed:Ca P w K mg base 4 "printed" ["book"] (pV CB)
 chb:Ca P w K mg base 5 "changes_between" ["first","second"] (tO CB changes)
 Hj:Ca P w K mg base 2 "number_in" ["book","sense"] (xH K CB)
 senseAt:Ca P w K mg base 1 "sense_at" ["book","entry_place","sense_place"] (pW CB)
 iU:Ca P w K mg base 2 "pointers_of" ["book"] (xK K CB)
 Ri:Ca P w K mg base 3 "dead_pointers_of" ["book"] (AV K CB)
 are:Ca P w K mg base 5 "are_changes" ["row"] (Jc K)
 first:Ca P w K mg base 5 "first_not_applied" ["book","row"] (xw CB)
 XB:Ca P w K mg base 4 "read" ["row"] A1
 Su:Ma P w K mg base 1 CH "no_more_editions" ["self"] (tF CB CH fun _ _ _ bs=> .bl (decide (10<=bs.length)))
 freeze:Ma P w K mg base 4 CH "freeze" ["self"] (tE CB CH)
 length:Ma P w K mg base 1 CH "length" ["self","number"] (E4 CB CH fun _ S k=>vn (ahi S k))
 VN:Ma P w K mg base 1 CH "errata" ["self","edition"] (xu CB CH)
 Vz:Ma P w K mg base 4 CH "corrected" ["self","edition"] (AU CB CH)
 blame:Ma P w K mg base 2 CH "blame" ["self","number","sense"] (xo CB CH)
 senses:Ma P w K mg base 1 CB "senses" ["self"] (jO CB)
abbrev BM:afR:=dC 127
theorem zi:au ["house","numbers","row"] ["house","numbers","row"] (ai BM):=cF
theorem EH(F:b9 K "print_book" "print_book" BM f fd)(L:kF P w K mg base CB CH):aT P w K mg base bX 6 f fd ["house","numbers","row"] (gQ CB CH 10):=by
 refine cz F zi fun _ _ _ _ H _ Q E hr h=> ?_
 obtain⟨h,nl,rl,D,S,FZ,x,rfl,hc,ok,W,fn,fr,hn,gJ,ku,iM,k⟩:=h;obtain⟨kk,rfl⟩:=fm hc;have hz:=W.st.len;have nd:=zi.nd;have hk:kk<=S.editions.length:=ku kk (by simp[dh,bk,bK,fL]);have st:=xP hk;refine⟨_,af (aq (bx dW (fN (aa ag ab)) (cn L.printed hr rfl (aa (bR (pv 0) L.a.h.cl L.a.book hr (aa (aG aA (pv 1) ag) ab)) ab)))),?_⟩;rw[st,afr,afb]at iM;refine⟨jv,fun H1 l1 n1 s1 h1=> ?_⟩;have W1:=W.same s1;refine⟨_,rfl,h,D.dx,_,rfl,W1.w.ins,cj (e9 _ (by simp)),_,rfl,nl,_,_,vn kk,rfl,rfl,aJ.of (s1 _ _ hn),iL (i:=0) rfl,h,D,S,FZ,kk,rfl,W1,hk,(bQ D kk).1,(bQ D kk).2,_,FZ,_,rfl,W1.book hk,by omega,by omega,fun H2 l2 n2 h2 s2=>⟨l1,l2,[0],_,rfl,rfl,s2 _ _ h1,jx h2,by rw[afb];show 1+_<=_;omega,fun H3 l3 n3 s3 h3=> ?_⟩⟩;exact aO W k st ((s1.trans s2).free n3) (s1.trans (s2.trans s3)) h3
abbrev FN:afR:=dC 128
theorem CV:au ["house","numbers","row"] ["house","numbers","row"] (ai FN):=cF
theorem Ho(F:b9 K "corrected" "corrected" FN f fd)(L:kF P w K mg base CB CH):aT P w K mg base bX 6 f fd ["house","numbers","row"] (gQ CB CH 11):=by
 refine cz F CV fun _ _ _ _ H _ Q E hr h=> ?_
 obtain⟨h,nl,rl,D,S,FZ,x,rfl,hc,ok,W,fn,fr,hn,gJ,ku,iM,k⟩:=h;obtain⟨kk,rfl⟩:=fm hc;have hz:=W.st.len;have nd:=CV.nd;have hk:kk<=S.editions.length:=ku kk (by simp[dh,bk,bK,fL]);have st:=tQ hk;refine⟨_,af (aq (bx dW (fN (aa ag ab)) (cn L.printed hr rfl (aa (bR (pv 0) L.a.h.cl L.Vz hr (aa (aG aA (pv 1) ag) ab)) ab)))),?_⟩;rw[st,afr,afb]at iM;refine⟨jv,fun H1 l1 n1 s1 h1=> ?_⟩;have W1:=W.same s1;refine⟨_,rfl,h,D.dx,_,rfl,W1.w.ins,cj (e9 _ (by simp)),_,rfl,nl,_,_,vn kk,rfl,rfl,aJ.of (s1 _ _ hn),iL (i:=0) rfl,h,D,S,FZ,kk,rfl,W1,ok,hk,fun H2 b d N hN hB s2=>⟨b,d,_,FZ,N,rfl,hB,by omega,by omega,fun H3 l3 n3 h3 s3=>⟨l1,l3,[0],_,rfl,rfl,s3 _ _ (s2 _ _ h1),jx h3,by rw[afb];show 1+_<=_;omega,fun H4 l4 n4 s4 h4=> ?_⟩⟩⟩;exact aO W k st ((s1.trans (s2.trans s3)).free n4) (s1.trans (s2.trans (s3.trans s4))) h4
abbrev MG:afR:=dC 131
theorem IV:au ["house","numbers","row"] ["house","numbers","row"] (ai MG):=cF
theorem K9(F:b9 K "number" "number" MG f fd)(L:kF P w K mg base CB CH):aT P w K mg base bX 6 f fd ["house","numbers","row"] (gQ CB CH 14):=by
 refine cz F IV fun _ _ _ _ H _ Q E hr h=> ?_
 obtain⟨h,nl,rl,D,S,FZ,x,rfl,hc,ok,W,fn,fr,hn,gJ,ku,iM,k⟩:=h;obtain⟨kk,n,rfl⟩:=fm hc;have hz:=W.st.len;have nd:=IV.nd;have hk:kk<=S.editions.length:=ku kk (by simp[dh,bk,bK,fL]);have st:=zr (n:=n) hk;refine⟨_,af (aq (bx dW (fN (aa ag ab)) (gX iO rfl L.a.g.list amq (aa (cn L.Hj hr rfl (aa (bR (pv 0) L.a.h.cl L.a.book hr (aa (aG aA (pv 1) ag) ab)) (aa (aG aA (pv 1) ag) ab))) ab)))),?_⟩;refine⟨jv,fun H1 l1 n1 s1 h1=> ?_⟩;have W1:=W.same s1;refine⟨_,rfl,h,D.dx,_,rfl,W1.w.ins,cj (e9 _ (by simp)),_,rfl,nl,_,_,vn kk,rfl,rfl,aJ.of (s1 _ _ hn),iL (i:=0) rfl,h,D,S,FZ,kk,rfl,W1,hk,_,rfl,nl,_,_,vn n,rfl,rfl,aJ.of (s1 _ _ hn),iL (i:=1) rfl,(bQ D kk).1,(bQ D kk).2,_,FZ,_,n,rfl,W1.book hk,by omega,fun H2 t s2 ht=>⟨t,_,rfl,.inr ht,fun l3 n3=> ?_⟩⟩;have s3:ax H2 (aE H2 l3 (.ba [vn (afX (ago S kk) n).1,vn (afX (ago S kk) n).2])):=ax.new n3;refine⟨l1,l3,[0],two (afX (ago S kk) n),rfl,rfl,s3 _ _ (s2 _ _ h1),aj,by show 1+2<=_;decide,fun H4 l4 n4 s4 h4=> ?_⟩;exact aO W k st ((s1.trans (s2.trans s3)).free n4) (s1.trans (s2.trans (s3.trans s4))) h4
abbrev Gd:afR:=dC 132
theorem C4:au ["house","numbers","row"] ["house","numbers","row"] (ai Gd):=cF
theorem HR(F:b9 K "name" "name" Gd f fd)(L:kF P w K mg base CB CH):aT P w K mg base bX 6 f fd ["house","numbers","row"] (gQ CB CH 15):=by
 refine cz F C4 fun _ _ _ _ H _ Q E hr h=> ?_
 obtain⟨h,nl,rl,D,S,FZ,x,rfl,hc,ok,W,fn,fr,hn,gJ,ku,iM,k⟩:=h;obtain⟨kk,e,i,rfl⟩:=fm hc;have hz:=W.st.len;have nd:=C4.nd;have hk:kk<=S.editions.length:=ku kk (by simp[dh,bk,bK,fL]);have st:=E9 (e:=e) (i:=i) hk;refine⟨_,af (aq (fN (aa ag (aa (cn L.senseAt hr rfl (aa (bR (pv 0) L.a.h.cl L.a.book hr (aa (aG aA (pv 1) ag) ab)) (aa (aG aA (pv 1) ag) (aa (aG aA (pv 1) ag) ab)))) ab)))),?_⟩;refine⟨_,rfl,h,D.dx,_,rfl,W.w.ins,cj (e9 _ (by simp)),_,rfl,nl,_,_,vn kk,rfl,rfl,aJ.of hn,iL (i:=0) rfl,h,D,S,FZ,kk,rfl,W,hk,_,rfl,nl,_,_,vn e,rfl,rfl,aJ.of hn,iL (i:=1) rfl,_,rfl,nl,_,_,vn i,rfl,rfl,aJ.of hn,iL (i:=2) rfl,(bQ D kk).1,(bQ D kk).2,_,FZ,_,e,i,rfl,W.book hk,ok.1,ok.2,xQ,fun H1 l1 n1 s1 h1=> ?_⟩;exact aO W k st n1 s1 h1
abbrev Bp:afR:=dC 133
theorem zc:au ["house","numbers","row","sense"] ["house","numbers","row"] (ai Bp):=cF
theorem Ej(F:b9 K "carry" "carry" Bp f fd)(L:kF P w K mg base CB CH):aT P w K mg base bX 6 f fd ["house","numbers","row"] (gQ CB CH 16):=by
 refine cz F zc fun _ _ _ _ H _ Q E hr h=> ?_
 obtain⟨h,nl,rl,D,S,FZ,x,rfl,hc,ok,W,fn,fr,hn,gJ,ku,iM,k⟩:=h;obtain⟨kk,e,i,jj,rfl⟩:=fm hc;have hz:=W.st.len;have nd:=zc.nd;have hk:kk<=S.editions.length:=ku kk (by simp[dh,bk,bK,fL]);have hj:jj<=S.editions.length:=ku jj (by simp[dh,bk,bK,fL]);have st:=A6 (e:=e) (i:=i) hk hj;refine⟨_,ae (cY 3 nd (cn L.senseAt hr rfl (aa (bR (pv 0) L.a.h.cl L.a.book hr (aa (aG aA (pv 1) ag) ab)) (aa (aG aA (pv 1) ag) (aa (aG aA (pv 1) ag) ab)))))
  (ae (aZ (aX fU (pv 3) ag (bc _)) (af (aq (fN (aa (gY rfl L.a.v.NB) ab)))) aC)
  (af (aq (bx dW (fN (aa ag ab)) (gX iO rfl L.a.g.list amq (aa (cn L.Hj hr rfl (aa (bR (pv 0) L.a.h.cl L.a.book hr (aa (aG aA (pv 1) ag) ab)) (aa (pv 3) ab))) ab)))))),?_⟩
 refine⟨_,rfl,h,D.dx,_,rfl,W.w.ins,cj (e9 _ (by simp)),_,rfl,nl,_,_,vn kk,rfl,rfl,aJ.of hn,iL (i:=0) rfl,h,D,S,FZ,kk,rfl,W,hk,_,rfl,nl,_,_,vn e,rfl,rfl,aJ.of hn,iL (i:=1) rfl,_,rfl,nl,_,_,vn i,rfl,rfl,aJ.of hn,iL (i:=2) rfl,(bQ D kk).1,(bQ D kk).2,_,FZ,_,e,i,rfl,W.book hk,ok.1,ok.2,?_⟩;refine⟨_,rfl,rfl,_,rfl,aW (fun c=> ?_) (fun c=> ?_)⟩
 .rw[afj (GS c)]at st;exact⟨jv,fun H1 l n1 s1 h1=>aO W k st n1 s1 h1⟩
 rw[afe (GU c)]at st;refine⟨jv,fun H1 l1 n1 s1 h1=> ?_⟩;have W1:=W.same s1;refine⟨_,rfl,h,D.dx,_,rfl,W1.w.ins,cj (e9 _ (by simp)),_,rfl,nl,_,_,vn jj,rfl,rfl,aJ.of (s1 _ _ hn),iL (i:=3) rfl,h,D,S,FZ,jj,rfl,W1,hj,_,rfl,(bQ D jj).1,(bQ D jj).2,_,FZ,_,_,rfl,W1.book hj,by omega,fun H2 t s2 ht=>⟨t,_,rfl,.inr ht,fun l3 n3=> ?_⟩⟩;have s3:=ax.new (o:= .ba [vn (afX (ago S jj) (ahK (ago S kk) e i)).1,vn (afX (ago S jj) (ahK (ago S kk) e i)).2]) n3;refine⟨l1,l3,[0],two (afX (ago S jj) (ahK (ago S kk) e i)),rfl,rfl,s3 _ _ (s2 _ _ h1),aj,by show 1+2<=_;decide,fun H4 l4 n4 s4 h4=> ?_⟩;exact aO W k st ((s1.trans (s2.trans s3)).free n4) (s1.trans (s2.trans (s3.trans s4))) h4
abbrev Bo:afR:=dC 136
theorem zb:au ["house","numbers","row"] ["house","numbers","row"] (ai Bo):=cF
theorem Ei(F:b9 K "blame" "blame" Bo f fd)(L:kF P w K mg base CB CH):aT P w K mg base bX 6 f fd ["house","numbers","row"] (gQ CB CH 19):=by
 refine cz F zb fun _ _ _ _ H _ Q E hr h=> ?_
 obtain⟨h,nl,rl,D,S,FZ,x,rfl,hc,ok,W,fn,fr,hn,gJ,ku,iM,k⟩:=h;obtain⟨kk,n,rfl⟩:=fm hc;have hz:=W.st.len;have nd:=zb.nd;have hk:kk<=S.editions.length:=ku kk (by simp[dh,bk,bK,fL]);have st:=A5 (n:=n) hk;refine⟨_,ae (aZ (bu (bf (bR (bR (pv 0) L.a.h.cl L.a.book hr (aa (aG aA (pv 1) ag) ab)) L.a.b.cl L.a.qE hr (aa (aG aA (pv 1) ag) ab)))) (af (aq (fN (aa (gY rfl L.a.v.NB) ab)))) aC)
  (af (aq (bx dW (fN (aa ag ab)) (bR (pv 0) L.a.h.cl L.blame hr (aa (aG aA (pv 1) ag) (aa (aG aA (pv 1) ag) ab)))))),?_⟩
 have hB:=W.book hk;refine⟨_,rfl,h,D.dx,_,rfl,W.w.ins,cj (e9 _ (by simp)),_,rfl,nl,_,_,vn kk,rfl,rfl,aJ.of hn,iL (i:=0) rfl,h,D,S,FZ,kk,rfl,W,hk,(bQ D kk).1,(bQ D kk).2.dx,_,rfl,hB.bq.ins,bF (by decide+kernel),_,rfl,nl,_,_,vn n,rfl,rfl,aJ.of hn,iL (i:=1) rfl,(bQ D kk).1,(bQ D kk).2,_,FZ,_,n,rfl,hB,_,rfl,aW (fun c=> ?_) (fun c=> ?_)⟩
 .rw[afe (fT c)]at st;exact⟨jv,fun H1 l n1 s1 h1=>aO W k st n1 s1 h1⟩
 rw[afj (fW c)]at st;refine⟨jv,fun H1 l1 n1 s1 h1=> ?_⟩;have W1:=W.same s1;refine⟨_,rfl,h,D.dx,_,rfl,W1.w.ins,cj (e9 _ (by simp)),_,rfl,nl,_,_,vn kk,rfl,rfl,aJ.of (s1 _ _ hn),iL (i:=0) rfl,_,rfl,nl,_,_,vn n,rfl,rfl,aJ.of (s1 _ _ hn),iL (i:=1) rfl,h,D,S,FZ,kk,n,rfl,W1,hk,fun H2 l2 s2 h2=>⟨l1,l2,[0],_,rfl,rfl,s2 _ _ h1,h2,by show 1+5<=_;decide,fun H3 l3 n3 s3 h3=> ?_⟩⟩;exact aO W k st ((s1.trans s2).free n3) (s1.trans (s2.trans s3)) h3
abbrev Br:afR:=dC 137
theorem zf:au ["house","numbers","row"] ["house","numbers","row"] (ai Br):=cF
theorem El(F:b9 K "check" "check" Br f fd)(L:kF P w K mg base CB CH):aT P w K mg base bX 6 f fd ["house","numbers","row"] (gQ CB CH 20):=by
 refine cz F zf fun _ _ _ _ H _ Q E hr h=> ?_
 obtain⟨h,nl,rl,D,S,FZ,x,rfl,hc,ok,W,fn,fr,hn,gJ,ku,iM,k⟩:=h;obtain⟨t,rfl⟩:=fm hc;have hz:=W.st.len;have nd:=zf.nd;refine⟨_,af (aq (bx dW (fN (aa ag ab)) (cn L.XB hr rfl (aa (pv 2) ab)))),?_⟩;have st:=A7 (S:=S) (t:=t);rw[st,afr]at iM;refine⟨jv,fun H1 l1 n1 s1 h1=> ?_⟩;have e:(anT t).map nat=t:=vj fun c hc=>(ok.2 c hc).1
 refine⟨_,rfl,rl,anT t,rfl,gD (by rw[e];exact s1 _ _ gJ),by rw[kU];have:=ok.1;omega,fun H2 l2 n2 s2 h2=>⟨l1,l2,[0],_,rfl,rfl,s2 _ _ h1,h2,by show 1+_<=_;omega,fun H3 l3 n3 s3 h3=> ?_⟩⟩;exact aO W k st ((s1.trans s2).free n3) (s1.trans (s2.trans s3)) h3
abbrev Gm:afR:=dC 140
theorem C6:au ["house","numbers","row","book"] ["house","numbers","row"] (ai Gm):=cF
theorem HZ(F:b9 K "size" "size" Gm f fd)(L:kF P w K mg base CB CH):aT P w K mg base bX 6 f fd ["house","numbers","row"] (gQ CB CH 23):=by
 refine cz F C6 fun _ _ _ _ H _ Q E hr h=> ?_
 obtain⟨h,nl,rl,D,S,FZ,x,rfl,hc,ok,W,fn,fr,hn,gJ,ku,iM,k⟩:=h;obtain⟨kk,rfl⟩:=fm hc;have hz:=W.st.len;have nd:=C6.nd;have hk:kk<=S.editions.length:=ku kk (by simp[dh,bk,bK,fL]);have st:=Fb hk;refine⟨_,ae (cY 3 nd (bR (pv 0) L.a.h.cl L.a.book hr (aa (aG aA (pv 1) ag) ab)))
  (af (aq (fN (aa ag (aa (bR (pv 0) L.a.h.cl L.length hr (aa (aG aA (pv 1) ag) ab)) (aa (aN ay rfl L.a.g.len agq (aa (az (pv 3)) ab)) (aa (aN ay rfl L.a.g.len agq (aa (jK (pv 3) L.a.b.cl L.senses hr) ab)) ab))))))),?_⟩
 have hB:=W.book hk;refine⟨_,rfl,h,D.dx,_,rfl,W.w.ins,cj (e9 _ (by simp)),_,rfl,nl,_,_,vn kk,rfl,rfl,aJ.of hn,iL (i:=0) rfl,h,D,S,FZ,kk,rfl,W,hk,_,rfl,h,D.dx,_,rfl,W.w.ins,cj (e9 _ (by simp)),_,rfl,nl,_,_,vn kk,rfl,rfl,aJ.of hn,iL (i:=0) rfl,h,D,S,FZ,kk,rfl,W,hk,_,rfl,(bQ D kk).1,CB,(bQ D kk).2.dx,_,_,rfl,hB.bq.ins,L.a.b.cl,L.a.b.nO,bP,(bQ D kk).2.o,_,rfl,.inl (aJ.of hB.bq.ord),_,rfl,(bQ D kk).1,(bQ D kk).2.dx,_,rfl,hB.bq.ins,bF (by decide+kernel),(bQ D kk).1,(bQ D kk).2,_,FZ,_,rfl,hB,by omega,fun H1 l1 n1 h1 s1=>⟨l1,_,rfl,.inl (aJ.of h1),by show 4<=sizeLine;decide,fun H2 l2 n2 s2 h2=> ?_⟩⟩;refine aO W k st (s1.free n2) (s1.trans s2) ?_;have e1:((names (ago S kk)).map vn).length=(ago S kk).entries.length:=by rw[afb,names,afb]
 have e2:((afF (ago S kk)).map vn).length=(ago S kk).senses.length:=by
  have p:(afF (ago S kk)).Perm (aD (ago S kk)):=(List.perm_ext_iff_of_nodup hB.wf.an hB.wf.sn).mpr hB.wf.same;rw[afb,p.length_eq,aD,afb]
 rw[e1,e2]at h2;exact h2
abbrev BP:afR:=dC 141
theorem zj:au ["house","numbers","row"] ["house","numbers","row"] (ai BP):=cF
theorem EK(F:b9 K "state" "state" BP f fd)(L:kF P w K mg base CB CH):aT P w K mg base bX 6 f fd ["house","numbers","row"] (gQ CB CH 24):=by
 refine cz F zj fun _ _ _ _ H _ Q E hr h=> ?_
 obtain⟨h,nl,rl,D,S,FZ,x,rfl,hc,ok,W,fn,fr,hn,gJ,ku,iM,k⟩:=h;obtain rfl:=fm hc;have hz:=W.st.len;have nd:=zj.nd;refine⟨_,af (aq (bx dW (fN (aa ag (aa (aN ay rfl L.a.g.len agq (aa (az (pv 0)) ab)) (aa (az (pv 0)) (aa (az (pv 0)) (aa (aN ay rfl L.a.g.len agq (aa (az (pv 0)) ab)) ab)))))) (az (pv 0)))),?_⟩;have st:ahn S .state=(S,[0,nat S.log.length,nat (agD S.log).2.1,nat (agD S.log).2.2,nat S.editions.length]++S.editions.map nat):=rfl;have he:=W.st.BW;refine⟨_,rfl,h,CH,D.dx,_,_,rfl,W.w.ins,L.a.h.cl,L.a.h.nL,i7,D.lg,_,rfl,.inl (aJ.of W.w.hl),_,rfl,h,CH,D.dx,_,_,rfl,W.w.ins,L.a.h.cl,L.a.h.nM,yE,_,rfl,h,CH,D.dx,_,_,rfl,W.w.ins,L.a.h.cl,L.a.h.nT,yF,_,rfl,h,CH,D.dx,_,_,rfl,W.w.ins,L.a.h.cl,L.a.h.nE,pL,D.ed,_,rfl,.inl (aJ.of W.w.he),by show 5<=sizeLine;decide,fun H1 l1 n1 s1 h1=> ?_⟩;have W1:=W.same s1;rw[afb,W.w.ll,afb,W.w.el,gU]at h1;refine⟨_,rfl,h,CH,D.dx,_,_,rfl,W1.w.ins,L.a.h.cl,L.a.h.nS,Ag,l1,D.ln,[0,nat S.log.length,nat (agD S.log).2.1,nat (agD S.log).2.2,nat S.editions.length],_,rfl,rfl,h1,jx W1.w.hn,by rw[afb];show 5+_<=_;omega,fun H2 l2 n2 s2 h2=> ?_⟩;exact aO W k st (s1.free n2) (s1.trans s2) h2
theorem lW{α:Type}(f:α->List Int)(l:List α)(i:Nat):((l.take i).flatMap f).length<=(l.flatMap f).length:=by
 conv=>rhs;rw[<-agK i l,agH,afc]
 exact agP _ _
theorem fS{α:Type}(f:α->List Int){l:List α}{x:α}(h:l[i]? =some x):(l.take (i+1)).flatMap f=(l.take i).flatMap f++f x:=by
 rw[aS h,agH];simp
structure Gw(H:Hp)(m:afd)(H':Hp)(l:List Int):Prop where
 kp:Kp [m] H H'
 cG:IL H' m l
theorem Gw.gZ{m:afd}{l:List Int}(g:Gw H m H' l)(s:ax H' H2):Gw H m (aE H2 m (.ba (l.map V.int++r.map V.int))) (l++r):=by
 refine⟨fun a o e n=> ?_,?_⟩
 .rw[ao (fun z=>n (by rw[z];simp))];exact s _ _ (g.kp a o e n)
 .show L2.aE _ m _ m=_;rw[aj,afD]
theorem Gw.same{H0:Hp}{m:afd}{l:List Int}(g:Gw H m H' l)(s:ax H0 H)(n:H0 m=none):ax H0 H':=fun a o e=>g.kp a o (s a o e) fun z=>(ak e n) (by simpa using z)
abbrev Mv:afR:=dC 129
theorem II:au ["house","numbers","row","found","answer","change"] ["house","numbers","row"] (ai Mv):=cF
theorem KY(F:b9 K "changes" "changes" Mv f fd)(L:kF P w K mg base CB CH):aT P w K mg base bX 6 f fd ["house","numbers","row"] (gQ CB CH 12):=by
 refine cz F II fun _ _ _ _ H _ Q E hr h=> ?_
 obtain⟨h,nl,rl,D,S,FZ,x,rfl,hc,ok,W,fn,fr,hn,gJ,ku,iM,k⟩:=h;obtain⟨kk,jj,rfl⟩:=fm hc;have hz:=W.st.len;have nd:=II.nd;refine⟨_,ae (cY 3 nd (cn L.chb hr rfl (aa (bR (pv 0) L.a.h.cl L.a.book hr (aa (aG aA (pv 1) ag) ab)) (aa (bR (pv 0) L.a.h.cl L.a.book hr (aa (aG aA (pv 1) ag) ab)) ab))))
  (ae (cY 4 nd (fN (aa ag (aa (aN ay rfl L.a.g.len agq (aa (pv 3) ab)) ab))))
  (ae (cM af3 rfl (bO (pv 3)) (hJ 5 nd) (af (aI (cy afs af2 af9 dJ (pv 4) (aa (pv 5) ab)))))
  (af (aq (pv 4))))),?_⟩
 have hk:kk<=S.editions.length:=ku kk (by simp[dh,bk,bK,fL]);have hj:jj<=S.editions.length:=ku jj (by simp[dh,bk,bK,fL]);have st:=xO hk hj;have sh:=W.st.short jj;rw[st,afr,afr]at iM;refine⟨_,rfl,h,D.dx,_,rfl,W.w.ins,cj (e9 _ (by simp)),_,rfl,nl,_,_,vn kk,rfl,rfl,aJ.of hn,iL (i:=0) rfl,h,D,S,FZ,kk,rfl,W,hk,_,rfl,h,D.dx,_,rfl,W.w.ins,cj (e9 _ (by simp)),_,rfl,nl,_,_,vn jj,rfl,rfl,aJ.of hn,iL (i:=1) rfl,h,D,S,FZ,jj,rfl,W,hj,(bQ D kk).1,(bQ D jj).1,(bQ D kk).2,(bQ D jj).2,_,_,FZ,_,rfl,W.book hk,W.book hj,by omega,fun e he=>afw (sh.1 e he) (by decide),fun e he=>afw (sh.2 e he) (by decide),fun H1 F nF hF s1=> ?_⟩;obtain⟨as,hA,ca⟩:=hF;generalize changes (ago S kk) (ago S jj)=cs at iM st ca;refine⟨_,rfl,F,_,rfl,.inl (aJ.of hA),xQ,fun H2 m nm s2 h2=> ?_⟩;rw[afb,ca.len]at h2;have OX:F∉ [m]:=fun z=>by rw[<-show F=m by simpa using z,hA]at nm;cases nm
 refine⟨_,rfl,F,rfl,⟨_,aJ.of (s2 _ _ hA)⟩,cV (K:=K) (a:=F) (xs:=as.map V.ref) (fun i σ H'=>∃v5:Option V,σ=[some (.ref h),some (.ref nl),some (.ref rl),some (.ref F),some (.ref m),v5]/\Gw H2 m H' ([0,nat cs.length]++(cs.take i).flatMap ags))
  ⟨none,rfl,Kp.refl _ _,h2⟩ (fun i σ H' _ ⟨_,_,g⟩=>aJ.of (g.kp _ _ (s2 _ _ hA) OX)) ?_ ?_⟩
 .rintro i y σ H' hi ⟨v5,rfl,g⟩;obtain⟨x,hx,rfl⟩:=kX hi;have gV:i<cs.length:=by rw[<-ca.len];exact(aff.mp hx).1
  have hg:=afk gV;have hc:=ca.cG i x _ hx hg;have ow:IL H' x (ags cs[i]):=g.kp _ _ (s2 _ _ hc) fun z=>by rw[<-show x=m by simpa using z,hc]at nm;cases nm
  have Ft:=lW ags cs (i+1);rw[fS ags hg,afc]at Ft;refine⟨_,rfl,.inl ⟨rfl,_,aJ.of g.cG⟩,_,rfl,m,x,_,_,rfl,rfl,g.cG,ow,?_,?_⟩
  .rw[afb,afb,afc];exact agE (uz (by show 2+_+_<=_;omega))
  .refine⟨_,rfl,?_⟩;rw[fS ags hg,<-afS];exact g.gZ (ax.refl _)
 .rintro σ H' ⟨v5,rfl,g⟩;rw[afb,ca.len,afT]at g;exact⟨_,rfl,aO W k st (s1.free nm) (g.same (s1.trans s2) (s1.free nm)) g.cG⟩
abbrev MK:afR:=dC 134
theorem I0:au ["house","numbers","row","found","answer","sense_number","target_number"] ["house","numbers","row"] (ai MK):=cF
theorem Lc(F:b9 K "pointers" "pointers" MK f fd)(L:kF P w K mg base CB CH):aT P w K mg base bX 6 f fd ["house","numbers","row"] (gQ CB CH 17):=by
 refine cz F I0 fun _ _ _ _ H _ Q E hr h=> ?_
 obtain⟨h,nl,rl,D,S,FZ,x,rfl,hc,ok,W,fn,fr,hn,gJ,ku,iM,k⟩:=h;obtain⟨kk,rfl⟩:=fm hc;have hz:=W.st.len;have nd:=I0.nd;refine⟨_,ae (cY 3 nd (cn L.iU hr rfl (aa (bR (pv 0) L.a.h.cl L.a.book hr (aa (aG aA (pv 1) ag) ab)) ab)))
  (ae (cY 4 nd (fN (aa ag (aa (aN ay rfl L.a.g.len agq (aa (pv 3) ab)) ab))))
  (ae (cM af3 rfl (bO (pv 3)) (i8 rfl (bH (hJ 5 nd) (bH (hJ 6 nd) gN))) (ae (aI (cy afs af2 af9 qX (pv 4) (aa (pv 5) ab))) (af (aI (cy afs af2 af9 qX (pv 4) (aa (pv 6) ab))))))
  (af (aq (pv 4))))),?_⟩
 have hk:kk<=S.editions.length:=ku kk (by simp[dh,bk,bK,fL]);have st:=ux hk;rw[st,afr,afr]at iM;refine⟨_,rfl,h,D.dx,_,rfl,W.w.ins,cj (e9 _ (by simp)),_,rfl,nl,_,_,vn kk,rfl,rfl,aJ.of hn,iL (i:=0) rfl,h,D,S,FZ,kk,rfl,W,hk,(bQ D kk).1,(bQ D kk).2,_,FZ,_,rfl,W.book hk,by omega,fun H1 F ts s1 hF pa=> ?_⟩;generalize ago S kk=B at iM st pa;refine⟨_,rfl,F,_,rfl,.inl (aJ.of hF),xQ,fun H2 m nm s2 h2=> ?_⟩;rw[afb,pa.len]at h2;have OX:F∉ [m]:=fun z=>by rw[<-show F=m by simpa using z,hF]at nm;cases nm
 refine⟨_,rfl,F,rfl,⟨_,aJ.of (s2 _ _ hF)⟩,cV (K:=K) (a:=F) (xs:=ts.map V.ref) (fun i σ H'=>∃v5 v6:Option V,σ=[some (.ref h),some (.ref nl),some (.ref rl),some (.ref F),some (.ref m),v5,v6]/\Gw H2 m H' ([0,nat (iU B).length]++((iU B).take i).flatMap fun n=>two (afX B n)++two (afX B (aft B n).points)))
  ⟨none,none,rfl,Kp.refl _ _,h2⟩ (fun i σ H' _ ⟨_,_,_,g⟩=>aJ.of (g.kp _ _ (s2 _ _ hF) OX)) ?_ ?_⟩
 .rintro i y σ H' hi ⟨v5,v6,rfl,g⟩;obtain⟨x,hx,rfl⟩:=kX hi;have gV:i<(iU B).length:=by rw[<-pa.len];exact(aff.mp hx).1
  have hg:=afk gV;obtain⟨u,v,h3,h4,h5⟩:=pa.cG i x _ hx hg;have Fp:H' x=some (.dY [.ref u,.ref v]):=g.kp _ _ (s2 _ _ h3) fun z=>by rw[<-show x=m by simpa using z,h3]at nm;cases nm
  have Kh:H2 m=some (.ba ([0,nat (iU B).length].map V.int)):=h2;have Kj:=jt (gP s2 h4) g.kp Kh;have h5':=jt (gP s2 h5) g.kp Kh;have Ft:=lW (fun n=>two (afX B n)++two (afX B (aft B n).points)) (iU B) (i+1);rw[fS _ hg,afc,afc]at Ft;refine⟨x,_,rfl,gF.of Fp,rfl,_,_,rfl,_,_,rfl,rfl,?_⟩;refine⟨_,rfl,.inl ⟨rfl,_,aJ.of g.cG⟩,_,rfl,m,u,_,_,rfl,rfl,g.cG,Kj,?_,?_⟩
  .rw[afb,afc];exact agE (uz (by show 2+_+2<=_;have:(two (afX B (iU B)[i])).length=2:=rfl;omega))
  have g1:=g.gZ (r:=two (afX B (iU B)[i])) (ax.refl _);have V1:=jt h5' (show Kp [m] H' (aE H' m (.ba (([0,nat (iU B).length]++((iU B).take i).flatMap fun n=>two (afX B n)++two (afX B (aft B n).points)).map V.int++(two (afX B (iU B)[i])).map V.int)))from Kp.gZ (by simp)) g.cG;refine⟨_,rfl,.inl ⟨rfl,_,aJ.of g1.cG⟩,_,rfl,m,v,_,_,rfl,rfl,g1.cG,V1,?_,?_⟩
  .rw[afb,afc,afc];exact agE (uz (by show 2+_+2+2<=_;have:(two (afX B (iU B)[i])).length=2:=rfl;have:(two (afX B (aft B (iU B)[i]).points)).length=2:=rfl;omega))
  .refine⟨_,_,rfl,?_⟩;rw[fS _ hg,<-afS,<-afS];exact g1.gZ (r:=two (afX B (aft B (iU B)[i]).points)) (ax.refl _)
 .rintro σ H' ⟨v5,v6,rfl,g⟩;rw[afb,pa.len,afT]at g;exact⟨_,rfl,aO W k st (s1.free nm) (g.same (s1.trans s2) (s1.free nm)) g.cG⟩
abbrev FO:afR:=dC 135
theorem CW:au ["house","numbers","row","found","answer","sense_number"] ["house","numbers","row"] (ai FO):=cF
theorem Hr(F:b9 K "dead" "dead" FO f fd)(L:kF P w K mg base CB CH):aT P w K mg base bX 6 f fd ["house","numbers","row"] (gQ CB CH 18):=by
 refine cz F CW fun _ _ _ _ H _ Q E hr h=> ?_
 obtain⟨h,nl,rl,D,S,FZ,x,rfl,hc,ok,W,fn,fr,hn,gJ,ku,iM,k⟩:=h;obtain⟨kk,rfl⟩:=fm hc;have hz:=W.st.len;have nd:=CW.nd;refine⟨_,ae (cY 3 nd (cn L.Ri hr rfl (aa (bR (pv 0) L.a.h.cl L.a.book hr (aa (aG aA (pv 1) ag) ab)) ab)))
  (ae (cY 4 nd (fN (aa ag (aa (aN ay rfl L.a.g.len agq (aa (pv 3) ab)) ab))))
  (ae (cM af3 rfl (bO (pv 3)) (hJ 5 nd) (af (aI (cy afs af2 af9 qX (pv 4) (aa (pv 5) ab)))))
  (af (aq (pv 4))))),?_⟩
 have hk:kk<=S.editions.length:=ku kk (by simp[dh,bk,bK,fL]);have st:=E7 hk;rw[st,afr,afr]at iM;refine⟨_,rfl,h,D.dx,_,rfl,W.w.ins,cj (e9 _ (by simp)),_,rfl,nl,_,_,vn kk,rfl,rfl,aJ.of hn,iL (i:=0) rfl,h,D,S,FZ,kk,rfl,W,hk,(bQ D kk).1,(bQ D kk).2,_,FZ,_,rfl,W.book hk,by omega,fun H1 F us s1 hF pa=> ?_⟩;generalize ago S kk=B at iM st pa;refine⟨_,rfl,F,_,rfl,.inl (aJ.of hF),xQ,fun H2 m nm s2 h2=> ?_⟩;rw[afb,pa.len]at h2;have OX:F∉ [m]:=fun z=>by rw[<-show F=m by simpa using z,hF]at nm;cases nm
 refine⟨_,rfl,F,rfl,⟨_,aJ.of (s2 _ _ hF)⟩,cV (K:=K) (a:=F) (xs:=us.map V.ref) (fun i σ H'=>∃v5:Option V,σ=[some (.ref h),some (.ref nl),some (.ref rl),some (.ref F),some (.ref m),v5]/\Gw H2 m H' ([0,nat (dead B).length]++((dead B).take i).flatMap fun n=>two (afX B n)))
  ⟨none,rfl,Kp.refl _ _,h2⟩ (fun i σ H' _ ⟨_,_,g⟩=>aJ.of (g.kp _ _ (s2 _ _ hF) OX)) ?_ ?_⟩
 .rintro i y σ H' hi ⟨v5,rfl,g⟩;obtain⟨x,hx,rfl⟩:=kX hi;have gV:i<(dead B).length:=by rw[<-pa.len];exact(aff.mp hx).1
  have hg:=afk gV;have h4:=pa.cG i x _ hx hg;have Kh:H2 m=some (.ba ([0,nat (dead B).length].map V.int)):=h2;have Kj:=jt (gP s2 h4) g.kp Kh;have Ft:=lW (fun n=>two (afX B n)) (dead B) (i+1);rw[fS _ hg,afc]at Ft;refine⟨_,rfl,.inl ⟨rfl,_,aJ.of g.cG⟩,_,rfl,m,x,_,_,rfl,rfl,g.cG,Kj,?_,?_⟩
  .rw[afb,afc];exact agE (uz (by show 2+_+2<=_;have:(two (afX B (dead B)[i])).length=2:=rfl;omega))
  .refine⟨_,rfl,?_⟩;rw[fS _ hg,<-afS];exact g.gZ (r:=two (afX B (dead B)[i])) (ax.refl _)
 .rintro σ H' ⟨v5,rfl,g⟩;rw[afb,pa.len,afT]at g;exact⟨_,rfl,aO W k st (s1.free nm) (g.same (s1.trans s2) (s1.free nm)) g.cG⟩
abbrev Mx:afR:=dC 138
theorem IJ:au ["house","numbers","row","found","book","answer","call","told","text"] ["house","numbers","row"] (ai Mx):=cF
theorem K0(F:b9 K "errata" "errata" Mx f fd)(L:kF P w K mg base CB CH):aT P w K mg base bX 6 f fd ["house","numbers","row"] (gQ CB CH 21):=by
 refine cz F IJ fun _ _ _ _ H _ Q E hr h=> ?_
 obtain⟨h,nl,rl,D,S,FZ,x,rfl,hc,ok,W,fn,fr,hn,gJ,ku,iM,k⟩:=h;obtain⟨kk,rfl⟩:=fm hc;have hz:=W.st.len;have nd:=IJ.nd;refine⟨_,ae (cY 3 nd (bR (pv 0) L.a.h.cl L.VN hr (aa (aG aA (pv 1) ag) ab)))
  (ae (cY 4 nd (bR (pv 0) L.a.h.cl L.a.book hr (aa (aG aA (pv 1) ag) ab)))
  (ae (cY 5 nd (fN (aa ag (aa (aN ay rfl L.a.g.len agq (aa (pv 3) ab)) ab))))
  (ae (cM af3 rfl (bO (pv 3)) (i8 rfl (bH (hJ 6 nd) (bH (hJ 7 nd) (bH (hJ 8 nd) gN)))) (ae (aI (cy afs af2 af9 qX (pv 5) (aa (cn L.Hj hr rfl (aa (pv 4) (aa (aG aA (pv 7) ag) ab))) ab))) (ae (aI (cy afs age agj de (pv 5) (aa (aN ay rfl L.a.g.len agq (aa (pv 8) ab)) ab))) (af (aI (cy afs af2 af9 dJ (pv 5) (aa (pv 8) ab)))))))
  (af (aq (pv 5)))))),?_⟩
 have hk:kk<=S.editions.length:=ku kk (by simp[dh,bk,bK,fL]);have st:=zo hk;rw[st,afr,afr]at iM;refine⟨_,rfl,h,D.dx,_,rfl,W.w.ins,cj (e9 _ (by simp)),_,rfl,nl,_,_,vn kk,rfl,rfl,aJ.of hn,iL (i:=0) rfl,h,D,S,FZ,kk,rfl,W,fun H1 F ls nF s1 hF li=> ?_⟩;have W1:=W.same s1;have hB:=W1.book hk;refine⟨_,rfl,h,D.dx,_,rfl,W1.w.ins,cj (e9 _ (by simp)),_,rfl,nl,_,_,vn kk,rfl,rfl,aJ.of (s1 _ _ hn),iL (i:=0) rfl,h,D,S,FZ,kk,rfl,W1,hk,?_⟩;have hm:∀a∈S.log.filter (fj kk),bz a=8:=fun a ha=>by
  have:=(afO.mp ha).2;exact eq_of_beq ((afB _ _).mp this).1
 rw[pH,afb,amv]at st;rw[pH,amv]at iM;generalize S.log.filter (fj kk)=as at iM st li hm;generalize ago S kk=B at iM st hB;refine⟨_,rfl,F,_,rfl,.inl (aJ.of hF),xQ,fun H2 m nm s2 h2=> ?_⟩;rw[afb,li.len]at h2;have OX:F∉ [m]:=fun z=>by rw[<-show F=m by simpa using z,hF]at nm;cases nm
 refine⟨_,rfl,F,rfl,⟨_,aJ.of (s2 _ _ hF)⟩,cV (K:=K) (a:=F) (xs:=ls.map fun x=>V.ref x.1) (fun i σ H'=>∃v6 v7 v8:Option V,σ=[some (.ref h),some (.ref nl),some (.ref rl),some (.ref F),some (.ref (bQ D kk).1),some (.ref m),v6,v7,v8]/\Gw H2 m H' ([0,nat as.length]++(as.take i).flatMap fun a=>two (afX B (e8 a).1)++alC (e8 a).2))
  ⟨none,none,none,rfl,Kp.refl _ _,h2⟩ (fun i σ H' _ ⟨_,_,_,_,g⟩=>aJ.of (g.kp _ _ (s2 _ _ hF) OX)) ?_ ?_⟩
 .rintro i y σ H' hi ⟨v6,v7,v8,rfl,g⟩;obtain⟨x,hx,rfl⟩:=kX hi;have gV:i<as.length:=by rw[<-li.len];exact(aff.mp hx).1
  have hg:=afk gV;have L1:=li.cG i x _ hx hg;have Zm:=hm _ (akN gV);have UC:=g.same s2 nm;have Ft:=lW (fun a=>two (afX B (e8 a).1)++alC (e8 a).2) as (i+1);rw[fS _ hg,afc,afc]at Ft;rw[fS _ hg];generalize as[i]=a at hg L1 Zm Ft
  match a,Zm with
  | .erratum k2 n t,_=>
  have t2:(two (afX B (e8 (.erratum k2 n t)).1)).length=2:=rfl;have t3:(alC (e8 (.erratum k2 n t)).2).length=t.length+1:=by show(t.map nat).length+1=_;rw[afb]
  rw[t2,t3]at Ft;have mq:=L1.same UC;have B8:=hB.same UC;refine⟨x.1,_,rfl,gF.of mq.tu,rfl,_,_,rfl,_,_,rfl,_,_,rfl,rfl,?_⟩;refine⟨_,rfl,.inl ⟨rfl,_,aJ.of g.cG⟩,_,rfl,_,rfl,x.2.1,_,_,vn n,rfl,rfl,aJ.of mq.nu,iL (i:=1) rfl,(bQ D kk).1,(bQ D kk).2,B,FZ,_,n,rfl,B8,by omega,fun H3 t3 s3 ht3=>⟨m,t3,_,_,rfl,rfl,s3 _ _ g.cG,ht3,?_,?_⟩⟩
  .rw[afb,afc];exact agE (uz (by show 2+_+2<=_;omega))
  have g1:=g.gZ (r:=two (afX B n)) s3;have s1s:=g1.same s2 nm;have ro1:=s1s _ _ L1.ro;refine⟨_,rfl,.inl ⟨rfl,_,aJ.of g1.cG⟩,_,rfl,x.2.2,_,rfl,.inl (aJ.of ro1),m,_,_,rfl,rfl,g1.cG,?_,?_⟩
  .rw[afb,afc,afc];exact uz (by show 2+_+2<=_;omega)
  have g2:=g1.gZ (r:=[nat t.length]) (ax.refl _);have s1t:=g2.same s2 nm;have ro2:=s1t _ _ L1.ro;rw[afb];refine⟨_,rfl,.inl ⟨rfl,_,aJ.of g2.cG⟩,_,rfl,m,x.2.2,_,_,rfl,rfl,g2.cG,ro2,?_,?_⟩
  .rw[afb,afb,afc,afc,afc];exact agE (uz (by show 2+_+2+1+t.length<=_;omega))
  .refine⟨_,_,_,rfl,?_⟩;have g3:=g2.gZ (r:=t.map nat) (ax.refl _);have e:[0,nat as.length]++((as.take i).flatMap (fun a=>two (afX B (e8 a).1)++alC (e8 a).2)++(two (afX B (e8 (.erratum k2 n t)).1)++alC (e8 (.erratum k2 n t)).2))=[0,nat as.length]++(as.take i).flatMap (fun a=>two (afX B (e8 a).1)++alC (e8 a).2)++two (afX B n)++ [nat t.length]++t.map nat:=by
    rw[<-afS,<-afS,afS (bs:=[nat t.length])];rfl
   rw[e];have e2:(t.map nat).map V.int=t.map vn:=by rw[ag6];rfl
   rw[e2]at g3;exact g3
 .rintro σ H' ⟨v6,v7,v8,rfl,g⟩;rw[afb,li.len,afT]at g;exact⟨_,rfl,aO W k st (s1.free nm) (g.same (s1.trans s2) (s1.free nm)) g.cG⟩
abbrev BJ:afR:=dC 130
theorem zh:au ["house","numbers","row","book","wrong"] ["house","numbers","row"] (ai BJ):=cF
theorem EE(F:b9 K "patch" "patch" BJ f fd)(L:kF P w K mg base CB CH):aT P w K mg base bX 6 f fd ["house","numbers","row"] (gQ CB CH 13):=by
 refine cz F zh fun _ _ _ _ H _ Q E hr h=> ?_
 obtain⟨h,nl,rl,D,S,FZ,x,rfl,hc,ok,W,fn,fr,hn,gJ,ku,iM,k⟩:=h;obtain⟨kk,l,rfl⟩:=fm hc;have hz:=W.st.len;have nd:=zh.nd;refine⟨_,ae (aZ (bu (bf (cn L.are hr rfl (aa (pv 2) ab)))) (af (aq (fN (aa (gY rfl L.a.v.Xn) ab)))) aC)
  (ae (cY 3 nd (cn L.Oc hr rfl (aa (bR (pv 0) L.a.h.cl L.a.book hr (aa (aG aA (pv 1) ag) ab)) ab)))
  (ae (cY 4 nd (cn L.first hr rfl (aa (pv 3) (aa (pv 2) ab))))
  (ae (aZ (aX oF (pv 4) ag (bc _)) (af (aq (fN (aa ag (aa ag (aa (pv 4) ab)))))) aC)
  (af (aq (bx dW (fN (aa ag (aa ag ab))) (cn L.printed hr rfl (aa (pv 3) ab)))))))),?_⟩
 have hk:kk<=S.editions.length:=ku kk (by simp[dh,bk,bK,fL]);have st:=A8 (l:=l) hk;have Ko:l.length<=3000:=ok;rw[st]at iM;refine⟨_,rfl,rl,l,rfl,aJ.of gJ,by omega,fun H1 s1=>⟨_,rfl,aW (fun c=> ?_) (fun c=> ?_)⟩⟩
 .have e:ag7 l.length l=none:=by
   cases q:ag7 l.length l with
   |none=>rfl
   |some _=>rw[q]at c;cases c
  unfold oG at st;rw[e]at st;exact⟨jv,fun H2 m n2 s2 h2=>aO W k st (s1.free n2) (s1.trans s2) h2⟩
 obtain⟨ds,e⟩:∃ds,ag7 l.length l=some ds:=by
  cases q:ag7 l.length l with
  |none=>rw[q]at c;exact absurd rfl c
  |some ds=>exact⟨ds,rfl⟩
 unfold oG at st iM;rw[e]at st iM;try dsimp only at st iM
 have W1:=W.same s1;refine⟨_,rfl,h,D.dx,_,rfl,W1.w.ins,cj (e9 _ (by simp)),_,rfl,nl,_,_,vn kk,rfl,rfl,aJ.of (s1 _ _ hn),iL (i:=0) rfl,h,D,S,FZ,kk,rfl,W1,hk,(bQ D kk).1,(bQ D kk).2,_,FZ,_,rfl,W1.book hk,by omega,fun H2 b d hB s2 fr2=> ?_⟩;refine⟨_,rfl,_,rfl,H1,b,rl,d,_,FZ,_,l,ds,rfl,⟨hB,s2,fr2⟩,by omega,s2 _ _ (s1 _ _ gJ),fr,(Bj e).1,by omega,fun H3 i he Af s3=> ?_,fun H3 d3 B3 FZ3 N3 dc hN3 V2 s3=> ?_⟩
 .rw[he]at st;refine⟨_,rfl,_,_,rfl,rfl,_,rfl,aW (fun c1=> ?_) (fun c1=>absurd (afl (show(0:Int)<(i:Int) by omega)) c1)⟩;exact⟨_,rfl,QF,fun H4 m n4 s4 h4=>aO W k st ((s1.trans s3).free n4) (s1.trans (s3.trans s4)) h4⟩
 .rw[dc]at st iM;rw[afr,afr,afb]at iM;refine⟨_,rfl,_,_,rfl,rfl,_,rfl,aW (fun c1=>absurd (afh c1) (by decide)) (fun c1=> ?_)⟩;refine⟨xQ,fun H4 m n4 s4 h4=>⟨_,rfl,b,d3,B3,FZ3,N3,rfl,V2.same s4,hN3,by omega,fun H5 m5 n5 h5 s5=>⟨m,m5,[0,0],_,rfl,rfl,s5 _ _ h4,jx h5,by rw[afb];show 2+_<=_;omega,fun H6 m6 n6 s6 h6=> ?_⟩⟩⟩;exact aO W k st ((s1.trans (s3.trans (s4.trans s5))).free n6) (s1.trans (s3.trans (s4.trans (s5.trans s6)))) h6
abbrev rM:afR:=dC 23
theorem qx:au ["house","numbers","row","name"] ["house","numbers","row"] (ai rM):=cF
theorem wY(F:b9 K "dropsense" "dropsense" rM f fd)(L:jr P w K mg base CB CH):aT P w K mg base bX 4 f fd ["house","numbers","row"] (gQ CB CH 6):=by
 refine cz F qx fun _ _ _ _ H _ Q E hr h=> ?_
 obtain⟨h,nl,rl,D,S,FZ,x,rfl,hc,ok,W,fn,fr,hn,gJ,ku,iM,k⟩:=h;obtain⟨n,rfl⟩:=fm hc;have nw:=W.w.now;have hz:=W.st.len;refine⟨_,ae (cY 3 qx.nd (aG aA (pv 1) ag))
  (ae (aZ (bu (bf (bR (az (pv 0)) L.b.cl L.qE hr (aa (pv 3) ab)))) (af (aq (fN (aa (gY rfl L.v.NB) ab)))) aC)
  (ae (aZ (bf (jK (pv 0) L.h.cl L.full hr)) (af (aq (fN (aa (gY rfl L.v.full) ab)))) aC)
  (ae (aI (bR (az (pv 0)) L.b.cl L.MQ hr (aa (pv 3) ab)))
  (af (aq (fN (aa ag (aa (bR (pv 0) L.h.cl L.sE hr (aa ag (aa (pv 1) (aa (pv 2) ab)))) ab)))))))),?_⟩
 refine⟨_,rfl,nV (i:=0) hn rfl ?_⟩;refine⟨_,rfl,h,CH,D.dx,_,_,rfl,W.w.ins,L.h.cl,L.h.nN,dP,D.nw,D.dn.dx,_,rfl,nw.bq.ins,bF (by decide+kernel),_,rfl,D.nw,D.dn,_,FZ,_,n,rfl,nw,_,rfl,aW (fun c=> ?_) (fun c=> ?_)⟩
 .exact⟨jv,fun H1 l n1 s1 h1=>aO W k (cw ((t9 S n).trans (afj (fT c)))) n1 s1 h1⟩
 have hs:=fW c;refine⟨_,rfl,h,D.dx,_,rfl,W.w.ins,cj (e9 _ (by simp)),h,D,_,_,_,_,_,_,FZ,_,rfl,W.w,_,rfl,aW (fun cf=> ?_) (fun cf=> ?_)⟩
 .exact⟨jv,fun H1 l n1 s1 h1=>aO W k (cw ((t9 S n).trans ((afe (fun z=>z hs)).trans (afj (afh cf))))) n1 s1 h1⟩
 have DB:¬200<=S.log.length:=fun z=>cf (afl z)
 have hw:ai2 S (.dropSense n)=none:=(t9 S n).trans ((afe (fun z=>z hs)).trans (afe DB));refine⟨_,rfl,h,CH,D.dx,_,_,rfl,W.w.ins,L.h.cl,L.h.nN,dP,D.nw,D.dn.dx,_,rfl,nw.bq.ins,bF (by decide+kernel),_,rfl,D.nw,D.dn,_,FZ,_,n,rfl,nw,hs,fun H2 d2 lY fA jX=> ?_⟩;have W2:=W.w.act lY fA jX (afp _);have rZ:∀c∈FZ,c∉bS D.nw D.dn (agC S.log):=fun c hc z=>nw.bq.fz c z hc
 refine⟨_,rfl,h,D.dx,_,rfl,W2.ins,cj (e9 _ (by simp)),_,rfl,_,rfl,h,nl,rl,_,_,_,_,_,_,_,FZ,_,_,.dropSense n,rfl,W2,ahz _,fn,fr,fA _ _ hn (rZ nl fn),fA _ _ (gD gJ) (rZ rl fr),hz,fun H3 t nt W3 k3=>⟨xQ,fun H4 l n4 s4 h4=> ?_⟩⟩;exact gK W hw ok (by omega) (fun _ _ _ z=>nomatch z) k (fA.fJ fun c hc=>afK _ hc) jX k3 nt n4 s4 W3 h4
abbrev rL:afR:=dC 24
theorem qw:au ["house","numbers","row","name"] ["house","numbers","row"] (ai rL):=cF
theorem wX(F:b9 K "dropentry" "dropentry" rL f fd)(L:jr P w K mg base CB CH):aT P w K mg base bX 4 f fd ["house","numbers","row"] (gQ CB CH 7):=by
 refine cz F qw fun _ _ _ _ H _ Q E hr h=> ?_
 obtain⟨h,nl,rl,D,S,FZ,x,rfl,hc,ok,W,fn,fr,hn,gJ,ku,iM,k⟩:=h;obtain⟨e,rfl⟩:=fm hc;have nw:=W.w.now;have hz:=W.st.len;refine⟨_,ae (cY 3 qw.nd (aG aA (pv 1) ag))
  (ae (aZ (bu (bf (bR (az (pv 0)) L.b.cl L.wq hr (aa (pv 3) ab)))) (af (aq (fN (aa (gY rfl L.v.Uw) ab)))) aC)
  (ae (aZ (bf (jK (pv 0) L.h.cl L.full hr)) (af (aq (fN (aa (gY rfl L.v.full) ab)))) aC)
  (ae (aI (bR (az (pv 0)) L.b.cl L.MP hr (aa (pv 3) ab)))
  (af (aq (fN (aa ag (aa (bR (pv 0) L.h.cl L.sE hr (aa ag (aa (pv 1) (aa (pv 2) ab)))) ab)))))))),?_⟩
 refine⟨_,rfl,nV (i:=0) hn rfl ?_⟩;refine⟨_,rfl,h,CH,D.dx,_,_,rfl,W.w.ins,L.h.cl,L.h.nN,dP,D.nw,D.dn.dx,_,rfl,nw.bq.ins,bF (by decide+kernel),_,rfl,D.nw,D.dn,_,FZ,_,e,rfl,nw,_,rfl,aW (fun c=> ?_) (fun c=> ?_)⟩
 .exact⟨jv,fun H1 l n1 s1 h1=>aO W k (cw ((tZ S e).trans (afj (iz c)))) n1 s1 h1⟩
 have he:=iC c;refine⟨_,rfl,h,D.dx,_,rfl,W.w.ins,cj (e9 _ (by simp)),h,D,_,_,_,_,_,_,FZ,_,rfl,W.w,_,rfl,aW (fun cf=> ?_) (fun cf=> ?_)⟩
 .exact⟨jv,fun H1 l n1 s1 h1=>aO W k (cw ((tZ S e).trans ((afe (fun z=>z he)).trans (afj (afh cf))))) n1 s1 h1⟩
 have DB:¬200<=S.log.length:=fun z=>cf (afl z)
 have hw:ai2 S (.dropEntry e)=none:=(tZ S e).trans ((afe (fun z=>z he)).trans (afe DB));refine⟨_,rfl,h,CH,D.dx,_,_,rfl,W.w.ins,L.h.cl,L.h.nN,dP,D.nw,D.dn.dx,_,rfl,nw.bq.ins,bF (by decide+kernel),_,rfl,D.nw,D.dn,_,FZ,_,e,rfl,nw,he,fun H2 d2 lY fA jX=> ?_⟩;have W2:=W.w.act lY fA jX (afp _);have rZ:∀c∈FZ,c∉bS D.nw D.dn (agC S.log):=fun c hc z=>nw.bq.fz c z hc
 refine⟨_,rfl,h,D.dx,_,rfl,W2.ins,cj (e9 _ (by simp)),_,rfl,_,rfl,h,nl,rl,_,_,_,_,_,_,_,FZ,_,_,.dropEntry e,rfl,W2,ahz _,fn,fr,fA _ _ hn (rZ nl fn),fA _ _ (gD gJ) (rZ rl fr),hz,fun H3 t nt W3 k3=>⟨xQ,fun H4 l n4 s4 h4=> ?_⟩⟩;exact gK W hw ok (by omega) (fun _ _ _ z=>nomatch z) k (fA.fJ fun c hc=>afK _ hc) jX k3 nt n4 s4 W3 h4
abbrev yd:afR:=dC 25
theorem vz:au ["house","numbers","text","edition"] ["house","numbers","text"] (ai yd):=cF
theorem Av(F:b9 K "erratum" "erratum" yd f fd)(L:jr P w K mg base CB CH):aT P w K mg base bX 4 f fd ["house","numbers","text"] (gQ CB CH 8):=by
 refine cz F vz fun _ _ _ _ H _ Q E hr h=> ?_
 obtain⟨h,nl,rl,D,S,FZ,x,rfl,hc,ok,W,fn,fr,hn,gJ,ku,iM,k⟩:=h;obtain⟨kk,n,tx,rfl⟩:=fm hc;have nw:=W.w.now;have hz:=W.st.len;refine⟨_,ae (cY 3 vz.nd (aG aA (pv 1) ag))
  (ae (aZ (bu (bf (bR (pv 0) L.h.cl L.MY hr (aa (pv 3) ab)))) (af (aq (fN (aa (gY rfl L.v.ZT) ab)))) aC)
  (ae (aZ (bu (bf (bR (bR (pv 0) L.h.cl L.book hr (aa (pv 3) ab)) L.b.cl L.qE hr (aa (aG aA (pv 1) ag) ab)))) (af (aq (fN (aa (gY rfl L.v.NB) ab)))) aC)
  (ae (aZ (bf (jK (pv 0) L.h.cl L.full hr)) (af (aq (fN (aa (gY rfl L.v.full) ab)))) aC)
  (af (aq (fN (aa ag (aa (bR (pv 0) L.h.cl L.sE hr (aa ag (aa (pv 1) (aa (pv 2) ab)))) ab)))))))),?_⟩
 have wr:=P8 S kk n tx;refine⟨_,rfl,nV (i:=0) hn rfl ?_⟩;refine⟨_,rfl,h,D.dx,_,rfl,W.w.ins,cj (e9 _ (by simp)),_,rfl,h,D,S,FZ,kk,rfl,W,_,rfl,aW (fun c=> ?_) (fun c=> ?_)⟩
 .exact⟨jv,fun H1 l n1 s1 h1=>aO W k (cw (wr.trans (afj (dU c)))) n1 s1 h1⟩
 have hk:=cX c;have hB:=W.book hk;refine⟨_,rfl,h,D.dx,_,rfl,W.w.ins,cj (e9 _ (by simp)),_,rfl,h,D,S,FZ,kk,rfl,W,hk,(bQ D kk).1,(bQ D kk).2.dx,_,rfl,hB.bq.ins,bF (by decide+kernel),_,rfl,nV (i:=1) hn rfl ⟨(bQ D kk).1,(bQ D kk).2,_,FZ,_,n,rfl,hB,_,rfl,aW (fun c=> ?_) (fun c=> ?_)⟩⟩
 .exact⟨jv,fun H1 l n1 s1 h1=>aO W k (cw (wr.trans ((afe (fun z=>z hk)).trans (afj (fT c))))) n1 s1 h1⟩
 have hs:=fW c;refine⟨_,rfl,h,D.dx,_,rfl,W.w.ins,cj (e9 _ (by simp)),h,D,_,_,_,_,_,_,FZ,_,rfl,W.w,_,rfl,aW (fun cf=> ?_) (fun cf=> ?_)⟩
 .exact⟨jv,fun H1 l n1 s1 h1=>aO W k (cw (wr.trans ((afe (fun z=>z hk)).trans ((afe (fun z=>z hs)).trans (afj (afh cf)))))) n1 s1 h1⟩
 have DB:¬200<=S.log.length:=fun z=>cf (afl z)
 have hw:ai2 S (.erratum kk n tx)=none:=wr.trans ((afe (fun z=>z hk)).trans ((afe (fun z=>z hs)).trans (afe DB)));refine⟨_,rfl,h,D.dx,_,rfl,W.w.ins,cj (e9 _ (by simp)),_,rfl,_,rfl,h,nl,rl,_,_,_,_,_,_,_,FZ,_,_,.erratum kk n tx,rfl,W.w,ahz _,fn,fr,hn,gD gJ,hz,fun H3 t nt W3 k3=>⟨xQ,fun H4 l n4 s4 h4=> ?_⟩⟩;exact gK (d':=D.dn) W hw ok (by omega) (fun _ _ _ z=>by injection z with z1 z2 z3;subst z1;subst z2;exact⟨hk,hs⟩) k (Kp.refl _ _) (fun c hc=> .inl hc) k3 nt n4 s4 W3 h4
abbrev rO:afR:=dC 21
theorem jm:au ["house","numbers","row","name","home","behind"] ["house","numbers","row"] (ai rO):=cF
theorem w6(F:b9 K "movesense" "movesense" rO f fd)(L:jr P w K mg base CB CH):aT P w K mg base bX 4 f fd ["house","numbers","row"] (gQ CB CH 4):=by
 refine cz F jm fun _ _ _ _ H _ Q E hr h=> ?_
 obtain⟨h,nl,rl,D,S,FZ,x,rfl,hc,ok,W,fn,fr,hn,gJ,ku,iM,k⟩:=h;obtain⟨n,e,a,rfl⟩:=fm hc;have nw:=W.w.now;have hz:=W.st.len;refine⟨_,ae (cY 3 jm.nd (aG aA (pv 1) ag))
  (ae (cY 4 jm.nd (aG aA (pv 1) ag))
  (ae (cY 5 jm.nd (aG aA (pv 1) ag))
  (ae (aZ (bu (bf (bR (az (pv 0)) L.b.cl L.qE hr (aa (pv 3) ab)))) (af (aq (fN (aa (gY rfl L.v.NB) ab)))) aC)
  (ae (aZ (bu (bf (bR (az (pv 0)) L.b.cl L.wq hr (aa (pv 4) ab)))) (af (aq (fN (aa (gY rfl L.v.Uw) ab)))) aC)
  (ae (aZ (PW.pt (jl (aX fU (pv 5) (pv 3) (bc _)) (iI (bu (bf (cn L.place hr rfl (aa (bC (bZ hr) (az (az (pv 0))) (pv 4)) (aa (pv 5) ab)))))))) (af (aq (fN (aa (gY rfl L.v.Ux) ab)))) aC)
  (ae (aZ (bf (jK (pv 0) L.h.cl L.full hr)) (af (aq (fN (aa (gY rfl L.v.full) ab)))) aC)
  (ae (aI (bR (az (pv 0)) L.b.cl L.Nu hr (aa (pv 3) (aa (pv 4) (aa (pv 5) ab)))))
  (af (aq (fN (aa ag (aa (bR (pv 0) L.h.cl L.sE hr (aa ag (aa (pv 1) (aa (pv 2) ab)))) ab)))))))))))),?_⟩
 have wr:=Js S n e a (show n≠0 by have:1<=n:=ok;omega);refine⟨_,rfl,nV (i:=0) hn rfl ⟨_,rfl,nV (i:=1) hn rfl ⟨_,rfl,nV (i:=2) hn rfl ?_⟩⟩⟩;refine⟨_,rfl,h,CH,D.dx,_,_,rfl,W.w.ins,L.h.cl,L.h.nN,dP,D.nw,D.dn.dx,_,rfl,nw.bq.ins,bF (by decide+kernel),_,rfl,D.nw,D.dn,_,FZ,_,n,rfl,nw,_,rfl,aW (fun c=> ?_) (fun c=> ?_)⟩
 .exact⟨jv,fun H1 l n1 s1 h1=>aO W k (cw (wr.trans (afj (fT c)))) n1 s1 h1⟩
 have hs:=fW c;refine⟨_,rfl,h,CH,D.dx,_,_,rfl,W.w.ins,L.h.cl,L.h.nN,dP,D.nw,D.dn.dx,_,rfl,nw.bq.ins,bF (by decide+kernel),_,rfl,D.nw,D.dn,_,FZ,_,e,rfl,nw,_,rfl,aW (fun c=> ?_) (fun c=> ?_)⟩
 .exact⟨jv,fun H1 l n1 s1 h1=>aO W k (cw (wr.trans ((afe (fun z=>z hs)).trans (afj (iz c))))) n1 s1 h1⟩
 have he:=iC c;have rF:(a=n\/¬(a=0\/a∈(entryAt (agC S.log) e).senses))->∀(H1:Hp) (l:afd),H l=none->ax H H1->H1 l=some (.ba [.int (-7)])->Q (.ref l) H1:=fun z H1 l n1 s1 h1=>aO W k (cw (wr.trans ((afe (fun z=>z hs)).trans ((afe (fun z=>z he)).trans (afj z))))) n1 s1 h1
 suffices hk:¬(a=n\/¬(a=0\/a∈(entryAt (agC S.log) e).senses))->_ by
  refine⟨_,rfl,_,rfl,rfl,_,rfl,aW (fun c1=>⟨jv,rF (.inl (by have:=afh c1;injection this with this;omega))⟩) (fun c1=> ?_)⟩;have an:a≠n:=fun z=>c1 (afl (by rw[z]))
  refine⟨_,rfl,h,CH,D.dx,_,_,rfl,W.w.ins,L.h.cl,L.h.nN,dP,D.nw,CB,D.dn.dx,_,_,rfl,nw.bq.ins,L.b.cl,L.b.nR,du,_,rfl,D.dn.r,_,rfl,nw.gR he,_,rfl,D.dn.ra e,a,_,rfl,aJ.of (nw.bq.row e he),_,rfl,aW (fun c2=>⟨jv,rF (.inr (dU c2))⟩) (fun c2=>hk fun z=>z.elim an fun q=>q (cX c2))⟩
 intro ha;have Kk:a=0\/a∈(entryAt (agC S.log) e).senses:=agA fun z=>ha (.inr z)
 refine⟨_,rfl,h,D.dx,_,rfl,W.w.ins,cj (e9 _ (by simp)),h,D,_,_,_,_,_,_,FZ,_,rfl,W.w,_,rfl,aW (fun cf=> ?_) (fun cf=> ?_)⟩
 .exact⟨jv,fun H1 l n1 s1 h1=>aO W k (cw (wr.trans ((afe (fun z=>z hs)).trans ((afe (fun z=>z he)).trans ((afe ha).trans (afj (afh cf))))))) n1 s1 h1⟩
 have DB:¬200<=S.log.length:=fun z=>cf (afl z)
 have hw:ai2 S (.moveSense n e a)=none:=wr.trans ((afe (fun z=>z hs)).trans ((afe (fun z=>z he)).trans ((afe ha).trans (afe DB))));refine⟨_,rfl,h,CH,D.dx,_,_,rfl,W.w.ins,L.h.cl,L.h.nN,dP,D.nw,D.dn.dx,_,rfl,nw.bq.ins,bF (by decide+kernel),_,rfl,_,rfl,_,rfl,D.nw,D.dn,_,FZ,_,n,e,a,rfl,nw,by omega,hs,he,fun z=>⟨Kk.resolve_left z,fun q=>ha (.inl q)⟩,fun H2 d2 lY fA jX=> ?_⟩;have W2:=W.w.act lY fA jX (ahz _);have rZ:∀c∈FZ,c∉bS D.nw D.dn (agC S.log):=fun c hc z=>nw.bq.fz c z hc
 refine⟨_,rfl,h,D.dx,_,rfl,W2.ins,cj (e9 _ (by simp)),_,rfl,_,rfl,h,nl,rl,_,_,_,_,_,_,_,FZ,_,_,.moveSense n e a,rfl,W2,afp _,fn,fr,fA _ _ hn (rZ nl fn),fA _ _ (gD gJ) (rZ rl fr),hz,fun H3 t nt W3 k3=>⟨xQ,fun H4 l n4 s4 h4=> ?_⟩⟩;exact gK W hw ok (by omega) (fun _ _ _ z=>nomatch z) k (fA.fJ fun c hc=>afK _ hc) jX k3 nt n4 s4 W3 h4
abbrev rN:afR:=dC 22
theorem lF:au ["house","numbers","row","name","behind"] ["house","numbers","row"] (ai rN):=cF
theorem wZ(F:b9 K "moveentry" "moveentry" rN f fd)(L:jr P w K mg base CB CH):aT P w K mg base bX 4 f fd ["house","numbers","row"] (gQ CB CH 5):=by
 refine cz F lF fun _ _ _ _ H _ Q E hr h=> ?_
 obtain⟨h,nl,rl,D,S,FZ,x,rfl,hc,ok,W,fn,fr,hn,gJ,ku,iM,k⟩:=h;obtain⟨e,a,rfl⟩:=fm hc;have nw:=W.w.now;have hz:=W.st.len;refine⟨_,ae (cY 3 lF.nd (aG aA (pv 1) ag))
  (ae (cY 4 lF.nd (aG aA (pv 1) ag))
  (ae (aZ (bu (bf (bR (az (pv 0)) L.b.cl L.wq hr (aa (pv 3) ab)))) (af (aq (fN (aa (gY rfl L.v.Uw) ab)))) aC)
  (ae (aZ (PW.pt (jl (aX fU (pv 4) (pv 3) (bc _)) (iI (bu (bf (cn L.place hr rfl (aa (az (az (pv 0))) (aa (pv 4) ab)))))))) (af (aq (fN (aa (gY rfl L.v.Ux) ab)))) aC)
  (ae (aZ (bf (jK (pv 0) L.h.cl L.full hr)) (af (aq (fN (aa (gY rfl L.v.full) ab)))) aC)
  (ae (aI (bR (az (pv 0)) L.b.cl L.Nt hr (aa (pv 3) (aa (pv 4) ab))))
  (af (aq (fN (aa ag (aa (bR (pv 0) L.h.cl L.sE hr (aa ag (aa (pv 1) (aa (pv 2) ab)))) ab)))))))))),?_⟩
 have wr:=Jr S e a (show e≠0 by have:1<=e:=ok;omega);refine⟨_,rfl,nV (i:=0) hn rfl ⟨_,rfl,nV (i:=1) hn rfl ?_⟩⟩;refine⟨_,rfl,h,CH,D.dx,_,_,rfl,W.w.ins,L.h.cl,L.h.nN,dP,D.nw,D.dn.dx,_,rfl,nw.bq.ins,bF (by decide+kernel),_,rfl,D.nw,D.dn,_,FZ,_,e,rfl,nw,_,rfl,aW (fun c=> ?_) (fun c=> ?_)⟩
 .exact⟨jv,fun H1 l n1 s1 h1=>aO W k (cw (wr.trans (afj (iz c)))) n1 s1 h1⟩
 have he:=iC c;have rF:(a=e\/¬(a=0\/a∈names (agC S.log)))->∀(H1:Hp) (l:afd),H l=none->ax H H1->H1 l=some (.ba [.int (-7)])->Q (.ref l) H1:=fun z H1 l n1 s1 h1=>aO W k (cw (wr.trans ((afe (fun z=>z he)).trans (afj z)))) n1 s1 h1
 suffices hk:¬(a=e\/¬(a=0\/a∈names (agC S.log)))->_ by
  refine⟨_,rfl,_,rfl,rfl,_,rfl,aW (fun c1=>⟨jv,rF (.inl (by have:=afh c1;injection this with this;omega))⟩) (fun c1=> ?_)⟩;have an:a≠e:=fun z=>c1 (afl (by rw[z]))
  refine⟨_,rfl,h,CH,D.dx,_,_,rfl,W.w.ins,L.h.cl,L.h.nN,dP,D.nw,CB,D.dn.dx,_,_,rfl,nw.bq.ins,L.b.cl,L.b.nO,bP,_,rfl,D.dn.o,a,_,rfl,aJ.of nw.bq.ord,_,rfl,aW (fun c2=>⟨jv,rF (.inr (dU c2))⟩) (fun c2=>hk fun z=>z.elim an fun q=>q (cX c2))⟩
 intro ha;have Kk:a=0\/a∈names (agC S.log):=agA fun z=>ha (.inr z)
 refine⟨_,rfl,h,D.dx,_,rfl,W.w.ins,cj (e9 _ (by simp)),h,D,_,_,_,_,_,_,FZ,_,rfl,W.w,_,rfl,aW (fun cf=> ?_) (fun cf=> ?_)⟩
 .exact⟨jv,fun H1 l n1 s1 h1=>aO W k (cw (wr.trans ((afe (fun z=>z he)).trans ((afe ha).trans (afj (afh cf)))))) n1 s1 h1⟩
 have DB:¬200<=S.log.length:=fun z=>cf (afl z)
 have hw:ai2 S (.moveEntry e a)=none:=wr.trans ((afe (fun z=>z he)).trans ((afe ha).trans (afe DB)));refine⟨_,rfl,h,CH,D.dx,_,_,rfl,W.w.ins,L.h.cl,L.h.nN,dP,D.nw,D.dn.dx,_,rfl,nw.bq.ins,bF (by decide+kernel),_,rfl,_,rfl,D.nw,D.dn,_,FZ,_,e,a,rfl,nw,by omega,he,fun z=>⟨Kk.resolve_left z,fun q=>ha (.inl q)⟩,fun H2 d2 lY fA jX=> ?_⟩;have W2:=W.w.act lY fA jX (ahz _);have rZ:∀c∈FZ,c∉bS D.nw D.dn (agC S.log):=fun c hc z=>nw.bq.fz c z hc
 refine⟨_,rfl,h,D.dx,_,rfl,W2.ins,cj (e9 _ (by simp)),_,rfl,_,rfl,h,nl,rl,_,_,_,_,_,_,_,FZ,_,_,.moveEntry e a,rfl,W2,afp _,fn,fr,fA _ _ hn (rZ nl fn),fA _ _ (gD gJ) (rZ rl fr),hz,fun H3 t nt W3 k3=>⟨xQ,fun H4 l n4 s4 h4=> ?_⟩⟩;exact gK W hw ok (by omega) (fun _ _ _ z=>nomatch z) k (fA.fJ fun c hc=>afK _ hc) jX k3 nt n4 s4 W3 h4
end FE
namespace L2
open PySem PySem.Spec PyProof.Rows
inductive Cp(P:afA)(w:af4)(K:afW)(ty:TE)(tx:TE)(σ:St)(Q:VK)(x:V)(H1:Hp):Prop|m:∀(a:afd) (aQ:List (br×V)),x= .ref a->KD P w K a aQ->(ty σ H1 fun y H2=>tx σ H2 fun z H3=>∃k,y=kV k/\Q ((ee aQ k).getD z) H3)->Cp P w K ty tx σ Q x H1
def P1(P:afA)(w:af4)(K:afW)(td ty tx:TE):TE:=fun σ H Q=>td σ H fun x H1=>Cp P w K ty tx σ Q x H1
theorem Il{o e f:agR}{eI iE:Pos}{td ty tx:TE}(ho:PE X o td)(he:PE X e ty)(hf:PE X f tx)(m:M2 X o "get" eI e f iE):PE X (.Call (.Attribute o "get" eI) [e,f] [] iE) (P1 X.prog X.w X.K td ty tx):=by
 intro pins s σ H Q I h;refine akl m.base m.Gz m.line aiY ah0 ala (cK (ho pins s σ H _ I h) fun u s1 ⟨x,H1,I1,rx,a,aQ,ex,⟨hd,vs,kl,dd⟩,q1⟩=> ?_);subst ex;obtain rfl:u=af1 a:=rx;have D1:=dd s1.heap I1.u7;refine⟨D1.typeIs,fun b q=> ?_,?_⟩
 .cases q;obtain⟨ob,_,_,h1,h2,_⟩:=D1;exact⟨ob,h1,h2.2.1⟩
 rw[m.Dh];refine aij rfl (aiz (ahk (cK (he pins s1 σ H1 _ I1 q1) fun iv s2 ⟨y,H2,I2,ry,q2⟩=>
  ahk (cK (hf pins s2 σ H2 _ I2 q2) fun fv s3 ⟨z,H3,I3,rz,k,ey,q3⟩=>ah5 ?_))))
 subst ey;have D3:=dd s3.heap I3.u7;refine aj2 ah0 D3.typeIs aja (aiX _ _ _) (akW (cO X.prog X.w) a (kS ry) hd fv) ⟨_,D3.mapOf,⟨_,H3,I3.qM _,?_,q3⟩⟩;exact(KV.val kl k).getD rz
end L2
namespace FE
open PySem PySem.Spec PyProof.Rows L2 FM
open PySem.W (Frag fnOf keepIn mg_of findIn nsIn emptyDict plainGet hasDictIn isFn makesIn codeIn plainOver)
open Vbdhag (Book nat numberOf entryAt allSenses Change position putBehind bookOf hasEntry changeTold two entryOf decimal kept history lengthOf empty onSense outOf hasSense putEntry inEntry entryNames Sense Call wrong dead pair senseLine changesOf stepNumbers patched bytesOf changes cutAt)
variable{N N' e em i j n p sm:Nat}{P:afA}{X:Cx}{x:afo}{te:TE}{pos:Pos}{w:af4}{K:afW}{mg:Str->Option afg}{base:agg}{st:afR}{C CB CH D R a b c f fI fb fc fe fh fp h q u:afd}{fd fR fZ fO f9 fX fY gg:afE}{ps:List Str}{sp:Sp}{ks ks' l t:List Nat}{o:HO}{ns r:List Int}{m p0 p1 p2:Str}{S:afn}{H H' H1 H2:Hp}{d d':BA}{FZ cZ as rs ts:List afd}{B B':aga}{aQ:List (br×V)}{f':Nat->V}{xs:List V}{σ:L2.St}{z:Int}
structure Mj(P:afA)(w:af4)(K:afW)(a:afd)(aQ:List (br×V)):Prop where
 kd:KD P w K a aQ
 of:∀p:Nat,p<25->(bk p=[]/\ee aQ (afz (p:Int))=none)\/∃t,ee aQ (afz (p:Int))=some (.ref t)/\ko K t ((bk p).map vn)
inductive xp(CB:afd)(CH:afd)(vs:List V)(H:Hp)(Q:VK)(E:XK):Prop|m:∀(h nl:afd) (D:HA) (S:afn) (FZ:List afd) (x:akG),vs=[.ref h,vn (bK x),.ref nl]->cb CB CH H h D S FZ->NL H nl (fL x)->(∀(b:Bool) (H':Hp),(b=true↔∀k∈dh x,k<=S.editions.length)->ax H H'->Q (.bl b) H')->xp CB CH vs H Q E
theorem Bl(x:akG):bK x<25:=by
 cases x with
 |act a=>cases a<;>simp[bK,bz]
 |_=>simp[bK]
theorem QY(x:akG)(h:(bk (bK x))[j]? =some i):(fL x)[i]? =some ((fL x).getD i 0):=by
 have hi:=afq h;cases x with
 |act a=>cases a<;>simp[bK,bz,bk]at hi
 |_=>simp[bK,bk]at hi<;>(try rcases hi with e|e)<;>(try subst hi)<;>(try subst e)<;>rfl
abbrev vW:afR:=dC 144
theorem CU:au ["house","call","numbers","place"] ["house","call","numbers"] (ai vW):=cF
theorem JR:iK ["house","call","numbers","place"] (ai vW) (OP (cq vW) 0) [("place",3)]:=⟨rfl,by decide+kernel,by decide+kernel,by decide+kernel,by decide+kernel⟩
theorem Hl(F:b9 K "books_are_there" "books_are_there" vW f fd)(L:jr P w K mg base CB CH)(mR:mg "BOOKS"=some (.ref R))(hR:Mj P w K R aQ):aT P w K mg base bX 2 f fd ["house","call","numbers"] (xp CB CH):=by
 refine cz F CU fun _ _ _ _ H _ Q E hr h=> ?_
 obtain⟨h,nl,D,S,FZ,x,rfl,W,hn,k⟩:=h;have nd:=CU.nd;refine⟨_,af (aq (aN (rI rfl) rfl L.g.all amh (aa (mv (own:=[("place",3)]) rfl nd (Pj (Il (cu (v:= .ref R) rfl mR rfl) (pv 1) (Xx ab) ⟨rfl,rfl,rfl,rfl⟩)) JR (fun _ _ _ _ _=>hJ 3 nd) (fun _ _ _ _ _=>j5) (fun _ _ _ _ _=>bR (pv 0) L.h.cl L.MY hr (aa (aG (r:=ER K) aA (pv 2) (pv 3)) ab))) ab))),?_⟩;refine⟨R,aQ,rfl,hR.kd,_,rfl,afH _,fun H1 e0 ne0 s1 Oy=>⟨afz (bK x:Int),rfl,?_⟩⟩;obtain⟨t,ht,hv⟩:∃t,gF K H1 t ((bk (bK x)).map vn)/\(ee aQ (afz (bK x:Int))).getD (.ref e0)= .ref t:=by
  rcases hR.of (bK x) (Bl x)with⟨h1,h2⟩|⟨t,h1,h2⟩
  .exact⟨e0,by rw[h1];exact gF.of Oy,by rw[h2];rfl⟩
  .exact⟨t,.inr h2,by rw[h1];rfl⟩
 rw[hv];refine⟨t,rfl,⟨_,ht⟩,fun N hN=>OR (K:=K) (a:=t) (xs:=(bk (bK x)).map vn) (fun i H'=>ax H1 H'/\H' N=some (.ba ((((bk (bK x)).take i).map fun i=>decide ((fL x).getD i 0<=S.editions.length)).map V.bl))) ⟨ax.new hN,aj⟩ (fun i H' _ h=>gP h.1 ht) ?_ ?_⟩
 .rintro i y H' hi ⟨s2,h2⟩;obtain⟨j,hj,rfl⟩:=eg hi;have W2:=W.same (s1.trans s2);have Uj:=(s1.trans s2) _ _ hn;refine⟨rfl,?_⟩;dsimp only[Fc];rw[afj rfl];refine⟨_,rfl,h,D.dx,_,rfl,W2.w.ins,cj (e9 _ (by simp)),_,rfl,_,rfl,nl,_,_,vn ((fL x).getD j 0),rfl,rfl,aJ.of Uj,iL (i:=j) (QY x hj),h,D,S,FZ,_,rfl,W2,_,h2,?_,?_,?_⟩
  .rw[afb,afb];refine b8 (afw (afw (by rw[afY];exact ajy _ _) (show(bk (bK x)).length<=2 from ?_)) (by decide));unfold bk;split
   .decide
   .split
    .decide
    .split<;>decide
  .exact fun b o e=>by rw[ao (ak e hN)];exact s2 b o e
  .rw[aj,aS hj,afD,afD];rfl
 .rintro H' ⟨s2,h2⟩;rw[afb,afT]at h2;refine⟨N,_,rfl,aJ.of h2,k _ _ ?_ (s1.trans s2)⟩;rw[ag5,af6];unfold dh;constructor
  .intro q kk hk;obtain⟨j,hj,rfl⟩:=afJ.mp hk;exact afh (q j hj)
  .intro q j hj;exact afl (q _ (afJ.mpr ⟨j,hj,rfl⟩))
def TL(P:afA)(w:af4)(K:afW)(mg:Str->Option afg)(base:agg)(CB CH:afd)(n p:Nat)(f:afd):Prop:=∃(fd:afE) (ps:List Str),keepIn K (.ref f)=true/\aT P w K mg base bX n f fd ps (gQ CB CH p)/\eY K fd ps []
structure Mo(P:afA)(w:af4)(K:afW)(mg:Str->Option afg)(base:agg)(CB CH:afd)(a:afd)(aQ:List (br×V)):Prop where
 kd:KD P w K a aQ
 of:∀p:Nat,9<=p->p<25->∃f,ee aQ (afz (p:Int))=some (.ref f)/\TL P w K mg base CB CH 6 p f
structure Fu(P:afA)(w:af4)(K:afW)(mg:Str->Option afg)(base:agg)(CB CH:afd)(a:afd)(fs:List afd):Prop where
 cG:ko K a (fs.map V.ref)
 len:fs.length=9
 of:∀(p:Nat) (f:afd),fs[p]? =some f->TL P w K mg base CB CH 4 p f
inductive zm(CB:afd)(CH:afd)(r:Nat->Prop)(vs:List V)(H:Hp)(Q:VK)(E:XK):Prop|m:∀(h nl rl:afd) (D:HA) (S:afn) (FZ:List afd) (x:akG),vs=[.ref h,vn (bK x),.ref nl,.ref rl]->r (bK x)->UR x->cb CB CH H h D S FZ->nl∈FZ->rl∈FZ->NL H nl (fL x)->IL H rl (Pr x)->(ahn S x).2.length<=10000000->(∀(H':Hp) (l:afd) (D':HA) (cZ:List afd),qz CB CH H H' h D D' S (ahn S x).1 FZ cZ->kz H h D S l->IL H' l (ahn S x).2->Q (.ref l) H')->zm CB CH r vs H Q E
theorem qz.from{D D':HA}{S':afn}{X5:List afd}(p:qz CB CH H1 H' h D D' S S' X5 cZ)(s:ax H H1)(hF:∀b∈X5,b∈FZ\/H b=none):qz CB CH H H' h D D' S S' FZ cZ:=⟨p.is,fun a o e n=>p.kp a o (s a o e) n,fun a ha=>(p.gr a ha).imp id s.free,fun b z=>(p.rc b z).elim (fun y=>y.elim (fun q=>(hF b q).imp .inl .new) fun q=> .inl (.inr q)) fun y=> .inr fun c o e n=>y c o (s c o e) n⟩
theorem kz.from{D:HA}{l:afd}(f:kz H1 h D S l)(s:ax H H1):kz H h D S l:=fun b o e n=>f b o (s b o e) n
theorem Dx{x:akG}(h:bK x<9):∀k∈dh x,k<=0:=by
 cases x with
 |act a=>cases a<;>simp[dh,bK,bz,bk]
 |_=>simp[bK]at h
abbrev MO:afR:=dC 145
theorem PN:au ["house","call","numbers","row"] ["house","call","numbers","row"] (ai MO):=cF
theorem Lh(F:b9 K "tell" "tell" MO f fd)(V0:Ju mg)(mR:mg "TELLINGS"=some (.ref R))(hR:Mo P w K mg base CB CH R aQ)(cB:Ca P w K mg base 2 "books_are_there" ["house","call","numbers"] (xp CB CH)):aT P w K mg base bX 7 f fd ["house","call","numbers","row"] (zm CB CH fun p=>9<=p):=by
 refine cz F PN fun _ _ _ _ H _ Q E hr h=> ?_
 obtain⟨h,nl,rl,D,S,FZ,x,rfl,h9,ok,W,fn,fr,hn,gJ,iM,k⟩:=h;refine⟨_,ae (aZ (bu (bf (cn cB hr rfl (aa (pv 0) (aa (pv 1) (aa (pv 2) ab)))))) (af (aq (fN (aa (gY rfl V0.ZT) ab)))) aC)
  (af (aq (oH (w9 (cu (v:= .ref R) rfl mR rfl) (pv 1) (fun _ _=>rfl)) (aa (pv 0) (aa (pv 2) (aa (pv 3) ab)))))),?_⟩
 refine⟨_,rfl,_,rfl,_,rfl,h,nl,D,S,FZ,x,rfl,W,hn,fun b H1 hb s1=>⟨_,rfl,aW (fun c=> ?_) (fun c=> ?_)⟩⟩
 .have e9:¬∀k∈dh x,k<=S.editions.length:=fun z=>by rw[hb.mpr z]at c;cases c
  exact⟨jv,fun H2 l n2 s2 h2=>aO W k (zq e9) (s1.free n2) (s1.trans s2) h2⟩
 have yz:b=true:=by
  cases q:b with
  |true=>rfl
  |false=>exact absurd (by rw[q];rfl) c
 obtain⟨fa,e1,MT,ps,e2,e3,e4⟩:=hR.of (bK x) h9 (Bl x);refine⟨_,rfl,R,aQ,afz (bK x:Int),.ref fa,rfl,hR.kd,rfl,e1,fa,MT,ps,_,6,rfl,e2,e3,hr,e4,?_⟩;exact⟨_,rfl,_,rfl,_,rfl,h,nl,rl,D,S,FZ,x,rfl,rfl,ok,W.same s1,fn,fr,s1 _ _ hn,s1 _ _ gJ,hb.mp yz,iM,fun H' l D' cZ p fl hl=>k H' l D' cZ (p.from s1 fun b z=> .inl z) (fl.from s1) hl⟩
abbrev F0:afR:=dC 27
theorem LH:au ["call"] ["call"] (ai F0):=cF
inductive xB(vs:List V)(H:Hp)(Q:VK)(E:XK):Prop|m:∀(p:Nat),vs=[vn p]->Q (.bl (decide (p<9))) H->xB vs H Q E
theorem HC{fs:List afd}(F:b9 K "is_act" "is_act" F0 f fd)(G:lN mg)(mR:mg "ACTS"=some (.ref R))(hR:Fu P w K mg base CB CH R fs):aT P w K mg base bX 1 f fd ["call"] xB:=by
 refine cz F LH fun _ _ _ _ H _ Q E hr h=> ?_
 obtain⟨p,rfl,k⟩:=h;refine⟨_,af (aq (fM vm (pv 0) (aN ay rfl G.len agq (aa (cu (v:= .ref R) rfl mR rfl) ab)) (bc _))),?_⟩;refine⟨_,rfl,R,_,rfl,.inr (.inr hR.cG),_,_,rfl,rfl,qb Q ?_ k⟩;rw[afb,hR.len];exact agB.mpr ⟨fun q=>by omega,fun q=>by omega⟩
abbrev Q5:afR:=dC 28
theorem S7:au ["house","call","numbers","row"] ["house","call","numbers","row"] (ai Q5):=cF
theorem O3{fs:List afd}(F:b9 K "act" "act" Q5 f fd)(mR:mg "ACTS"=some (.ref R))(hR:Fu P w K mg base CB CH R fs):aT P w K mg base bX 5 f fd ["house","call","numbers","row"] (zm CB CH fun p=>p<9):=by
 refine cz F S7 fun _ _ _ _ H _ Q E hr h=> ?_
 obtain⟨h,nl,rl,D,S,FZ,x,rfl,h9,ok,W,fn,fr,hn,gJ,iM,k⟩:=h;refine⟨_,af (aq (oH (aG eJ (cu (v:= .ref R) rfl mR rfl) (pv 1)) (aa (pv 0) (aa (pv 2) (aa (pv 3) ab))))),?_⟩;have gV:bK x<fs.length:=by rw[hR.len];exact h9
 have e1:=afk gV;obtain⟨MT,ps,e2,e3,e4⟩:=hR.of (bK x) _ e1;refine⟨_,rfl,R,_,_,.ref fs[bK x],rfl,rfl,.inr hR.cG,QV e1,_,MT,ps,_,4,rfl,e2,e3,hr,e4,?_⟩;exact⟨_,rfl,_,rfl,_,rfl,h,nl,rl,D,S,FZ,x,rfl,rfl,ok,W,fn,fr,hn,gJ,fun kk Ws=>afw (Dx h9 kk Ws) (afH _),iM,k⟩
inductive AS(CB:afd)(CH:afd)(vs:List V)(H:Hp)(Q:VK)(E:XK):Prop|m:∀(h c:afd) (D:HA) (S:afn) (FZ:List afd) (p:Nat) (ns r:List Int),vs=[.ref h,.ref c]->cb CB CH H h D S FZ->i0 H c p ns r->(ahB S (jL p ns r)).2.length<=10000000->(∀(H':Hp) (l:afd) (D':HA) (cZ:List afd),qz CB CH H H' h D D' S (ahB S (jL p ns r)).1 FZ cZ->kz H h D S l->IL H' l (ahB S (jL p ns r)).2->Q (.ref l) H')->AS CB CH vs H Q E
abbrev Mt:afR:=dC 147
theorem Pu:au ["house","call"] ["house","call"] (ai Mt):=cF
theorem KU(F:b9 K "answer_of" "answer_of" Mt f fd)(V0:Ju mg)(cT:Ca P w K mg base 4 "is_as_told" ["call"] (nv fun p ns r=>iG p ns&&lE p r))(cI:Ca P w K mg base 1 "is_act" ["call"] xB)(cN:Ca P w K mg base 1 "numbers_of" ["call"] o7)(cR:Ca P w K mg base 1 "row_of" ["call"] rq)
  (cA:Ca P w K mg base 5 "act" ["house","call","numbers","row"] (zm CB CH fun p=>p<9)) (cL:Ca P w K mg base 7 "tell" ["house","call","numbers","row"] (zm CB CH fun p=>9<=p)):aT P w K mg base bX 8 f fd ["house","call"] (AS CB CH):=by
 refine cz F Pu fun _ _ _ _ H _ Q E hr h=> ?_
 obtain⟨h,c,D,S,FZ,p,ns,r,rfl,W,hc,iM,k⟩:=h;refine⟨_,ae (aZ (bu (bf (cn cT hr rfl (aa (pv 1) ab)))) (af (aq (fN (aa (gY rfl V0.told) ab)))) aC)
  (ae (aZ (bf (cn cI hr rfl (aa (aG aA (pv 1) ag) ab))) (af (aq (cn cA hr rfl (aa (pv 0) (aa (aG aA (pv 1) ag) (aa (cn cN hr rfl (aa (pv 1) ab)) (aa (cn cR hr rfl (aa (pv 1) ab)) ab))))))) aC)
  (af (aq (cn cL hr rfl (aa (pv 0) (aa (aG aA (pv 1) ag) (aa (cn cN hr rfl (aa (pv 1) ab)) (aa (cn cR hr rfl (aa (pv 1) ab)) ab)))))))),?_⟩
 refine⟨_,rfl,c,p,ns,r,rfl,hc,fun H1 s1=>⟨_,rfl,?_⟩⟩;rcases Gp p ns r hc.lt hc.len hc.no with⟨ht,x,hx,dx⟩|⟨ht,hx⟩
 .have e:ahB S (jL p ns r)=ahn S x:=by unfold ahB;rw[hx]
  rw[e]at k iM;rw[ht];show NS _ _ _;have RM:=hc.same s1;have RR:=dx.code;subst RR;have r9:aJ K H1 c (((bK x:Int)::(ns++df (bK x) r)).map V.int):=aJ.of RM.cG;have go:∀(H3:Hp) (nl rl:afd),ax H1 H3->H1 nl=none->H1 rl=none->IL H3 nl ns->IL H3 rl r->cb CB CH H3 h D S ([nl,rl]++FZ):=fun H3 nl rl s3 n1 n2 h1 h2=>⟨W.w.Ru (s1.trans s3) [nl,rl] (fun a ha=>by
   have:a=nl\/a=rl:=by simpa using ha
   rcases this with q|q<;>rw[q]
   .exact⟨s1.free n1,_,h1⟩
   .exact⟨s1.free n2,_,h2⟩),W.st⟩
  have YC:∀(nl rl:afd),H1 nl=none->H1 rl=none->∀b∈ [nl,rl]++FZ,b∈FZ\/H b=none:=fun nl rl n1 n2 b hb=>by
   rcases afN.mp hb with z|z
   .have:b=nl\/b=rl:=by simpa using z
    rcases this with q|q<;>rw[q]
    .exact .inr (s1.free n1)
    .exact .inr (s1.free n2)
   .exact .inl z
  have nn:(fL x).map nat=ns:=dx.Xv;refine⟨_,rfl,c,_,_,.int (bK x:Int),rfl,rfl,r9,gE (j:=0) rfl rfl,bK x,rfl,_,rfl,aW (fun q=> ?_) (fun q=> ?_)⟩
  .refine⟨_,rfl,_,rfl,c,_,_,.int (bK x:Int),rfl,rfl,r9,gE (j:=0) rfl rfl,_,rfl,c,_,ns,r,rfl,RM,fun H2 nl OZ s2 Kq=> ?_⟩;refine⟨_,rfl,c,_,ns,r,rfl,RM.same s2,fun H3 rl O2 s3 gJ=> ?_⟩;have GK:=s3 _ _ Kq;have mx:=s1.trans (s2.trans s3);refine⟨h,nl,rl,D,S,[nl,rl]++FZ,x,rfl,afh q,dx.ok,go H3 nl rl (s2.trans s3) OZ (s2.free O2) GK gJ,by simp,by simp,gD (by rw[nn];exact GK),by rw[dx.row];exact gJ,iM,fun H' l D' cZ po fl hl=>k H' l D' cZ (po.from mx (YC nl rl OZ (s2.free O2))) (fl.from mx) hl⟩
  .refine⟨_,rfl,_,rfl,c,_,_,.int (bK x:Int),rfl,rfl,r9,gE (j:=0) rfl rfl,_,rfl,c,_,ns,r,rfl,RM,fun H2 nl OZ s2 Kq=> ?_⟩;refine⟨_,rfl,c,_,ns,r,rfl,RM.same s2,fun H3 rl O2 s3 gJ=> ?_⟩;have GK:=s3 _ _ Kq;have mx:=s1.trans (s2.trans s3);have h9:9<=bK x:=akY.mp fun z=>q (afl z)
   refine⟨h,nl,rl,D,S,[nl,rl]++FZ,x,rfl,h9,dx.ok,go H3 nl rl (s2.trans s3) OZ (s2.free O2) GK gJ,by simp,by simp,gD (by rw[nn];exact GK),by rw[dx.row];exact gJ,iM,fun H' l D' cZ po fl hl=>k H' l D' cZ (po.from mx (YC nl rl OZ (s2.free O2))) (fl.from mx) hl⟩
 .have e:ahB S (jL p ns r)=(S,[-1]):=by unfold ahB;rw[hx]
  rw[e]at k;rw[ht];exact⟨jv,fun H2 l n2 s2 h2=>k _ l D FZ (qz.same W (s1.trans s2)) (.new (s1.free n2)) h2⟩
inductive mh(K:afW)(vs:List V)(H:Hp)(Q:VK)(E:XK):Prop|m:∀(a:afd) (l:List Int),vs=[.ref a]->aJ K H a (l.map V.int)->ajk l=true->l.length<=17000->(∀(H':Hp) (p:afd),H' p=some (.ba ((ajt l).map V.int))->Q (.ref p) H')->mh K vs H Q E
structure bb(CB CH:afd)(H H':Hp)(h f:afd)(D:HA)(S:afn)(FZ:List afd)(done:List Int):Prop where
 sm:ax H H'
 fr:∀b∈je h D S,H b=none
 fn:H f=none
 nf:f∉je h D S
 nr:¬QQ D S FZ f
 cG:IL H' f done
 is:cb CB CH H' h D S FZ
theorem cb.keep{CB CH:afd}{H H':Hp}{h:afd}{D:HA}{S:afn}{FZ S0:List afd}(W:cb CB CH H h D S FZ)(k:Kp S0 H H')(h1:∀a∈je h D S,a∉S0)(h2:∀a,QQ D S FZ a->a∉S0):cb CB CH H' h D S FZ:=by
 have n5:∀{a:afd},a∈pI h D->a∉S0:=fun ha=>h1 _ (af0 _ ha)
 exact⟨{W.w with ins:=k _ _ W.w.ins (n5 (by simp)),own:=k _ _ W.w.own (n5 (by simp)),hl:=k _ _ W.w.hl (n5 (by simp)),he:=k _ _ W.w.he (n5 (by simp)),hn:=k _ _ W.w.hn (n5 (by simp)),now:=W.w.now.keep k (fun a ha=>h1 _ (afK _ ha)) (fun a ha=>h2 _ (.inl ha)),ki:=fun i x a q1 q2=>(W.w.ki i x a q1 q2).keep k (fun a ha=>h2 _ (.inl ha)),BW:=fun i x b q1 q2=>⟨(W.w.BW i x b q1 q2).1.keep k (fun a ha=>h2 _ (.inr ⟨i,x,b,q1,q2,ha⟩)) (fun a ha=>h2 _ (.inl ha)),(W.w.BW i x b q1 q2).2⟩},W.st⟩
theorem GA{l:List Int}{t:List Int}(o:jT l p ns r t):ns.length+r.length<=l.length:=by
 rw[o.eq,afr,afc,afc];unfold df;by_cases q:fG p=true
 .rw[afj q,afr];omega
 .rw[afe q,o.no (by simpa using q)];simp;omega
theorem Li{l:List Int}{st:Nat}{t:List Int}(o:jT (l.drop st) p ns r t):iq l (some (st:Int)) (some ((st+(1+ns.length+(df p r).length):Nat):Int))=(p:Int)::(ns++df p r):=by
 rw[mJ,aiD,ag8,o.eq,show 1+ns.length+(df p r).length=((p:Int)::(ns++df p r)).length by rw[afr,afc];omega];exact aio rfl
theorem Ic{l:List Int}{st:Nat}{t:List Int}(o:jT (l.drop st) p ns r t):l.drop (st+(1+ns.length+(df p r).length))=t:=by
 rw[<-ahC,o.eq,show 1+ns.length+(df p r).length=((p:Int)::(ns++df p r)).length by rw[afr,afc];omega];exact ajT rfl
theorem Pc{l:List Int}{st:Nat}{t:List Int}(o:jT (l.drop st) p ns r t)(h:st<=l.length):st+(1+ns.length+(df p r).length)<=l.length:=by
 have:=congrArg ahP o.eq;rw[agr,afr,afc,afc]at this;omega
abbrev ya:afR:=dC 148
theorem vy:au ["calls","house","found","start","end","answer"] ["calls"] (ai ya):=cF
theorem Ar(F:b9 K "answers" "answers" ya f fd)(G:lN mg)(T:zU K mg CH)(M:Mk K CH fI)(oI:aT P w K mg base bX 3 fI fR ["self"] (xA CB CH))(bI:eY K fR ["self"] [])(cE:Ca P w K mg base 1 "call_end" ["calls","start"] (pT K))(cA:Ca P w K mg base 8 "answer_of" ["house","call"] (AS CB CH)):aT P w K mg base bX 9 f fd ["calls"] (mh K):=by
 refine cz F vy fun _ _ _ _ H _ Q E hr h=> ?_
 obtain⟨a,l,rfl,hl,Ov,hsz,k⟩:=h;have nd:=vy.nd;obtain⟨Yq,Qw,e0,adC⟩:=zV Ov;rw[e0]at k;refine⟨_,ae (cY 1 nd (sM M oI (hr.fJ (by decide)) rfl T.mgH bI .nil bw)) (ae (cY 2 nd (fN ab)) (ae (cY 3 nd ag)
  (ae (sP af3 (aX vm (pv 3) (aN ay rfl G.len agq (aa (pv 0) ab)) (bc _))
   (ae (cY 4 nd (cn cE hr rfl (aa (pv 0) (aa (pv 3) ab))))
   (ae (cY 5 nd (cn cA hr rfl (aa (pv 1) (aa (dq mn (pv 0) (cv (pv 3)) (cv (pv 4))) ab))))
   (ae (aI (cy afs age agj de (pv 2) (aa (aN ay rfl G.len agq (aa (pv 5) ab)) ab)))
   (ae (aI (cy afs af2 af9 dJ (pv 2) (aa (pv 5) ab)))
   (af (cY 3 nd (pv 4))))))))
  (af (aq (pv 2)))))),?_⟩
 intro x dx nx Sy OY;refine⟨x,dx,rfl,aj,by rw[ao OY];exact aj,agW OY,fun H1 D hW kp new=>⟨rfl,?_⟩⟩;have s1:ax H H1:=ax.made nx Sy fun y o h hy=>kp y o h (by simpa using hy)
 have V5:cb CB CH H1 x D ajh []:=⟨hW,n9.start⟩;have fr1:∀b∈je x D ajh,H b=none:=fun b hb=>by
  rcases new b hb with q|q|q
  .rw[q];exact nx
  .rw[q];exact Sy
  .exact eV (eV q)
 refine⟨afH _,fun H2 m nm s2 h2=> ?_⟩;have hI2:=V5.same s2;have iv:bb CB CH H H2 x m D ajh [] []:=⟨s1.trans s2,fr1,s1.free nm,(fun z=>by
  rcases afN.mp z with q|q
  .obtain⟨o,ho⟩:=V5.w.UK q;rw[nm]at ho;cases ho
  .obtain⟨o,ho⟩:=V5.w.now.gd q;rw[nm]at ho;cases ho),(by
  rintro(z|⟨i,y,B,e1,e2,e3⟩)
  .cases z
  .have MS:([]:List aga)[i]? =some B:=e2;simp at MS),h2,hI2⟩
 show tS _ _ _ [some (.ref a),some (.ref x),some (.ref m),some (.int 0),none,none] H2;refine tX (fun σ H'=>∃(st:Nat) (v4 v5:Option V) (D':HA) (S':afn) (cZ:List afd) (cs:List (List (List Int))) (done:List Int),σ=[some (.ref a),some (.ref x),some (.ref m),some (vn st),v4,v5]/\bb CB CH H H' x m D' S' cZ done/\kG (l.drop st) cs/\iB ajh Yq=done++iB S' cs/\st<=l.length)
  (fun σ _=>match σ with| [_,_,_,some (.int z),_,_]=>l.length-z.toNat|_=>0) ⟨0,none,none,D,ajh,[],Yq,[],rfl,iv,Qw,rfl,afH _⟩ ?_ (fun σ H Q Q' f ⟨v,h1,w,h2,p,ys,h3,h4,i,j,h5,h6,kk,h7,q⟩=>⟨v,h1,w,h2,p,ys,h3,h4,i,j,h5,h6,kk,h7,f _ _ q⟩)
 rintro σ H' ⟨st,v4,v5,D',S',cZ,cs,done,rfl,iv,hp,ht,yG⟩;have um:aJ K H' a (l.map V.int):=hl.elim (fun z=> .inl (z.elim (fun y=> .inl (iv.sm _ _ y)) fun⟨o,y⟩=> .inr ⟨o,iv.sm _ _ y⟩)) .inr;refine⟨_,rfl,_,rfl,a,_,rfl,.inl um,_,_,rfl,rfl,_,rfl,aW (fun c=> ?_) (fun c=> ?_)⟩
 .have c':=afh c;rw[afb]at c';generalize hd:l.drop st=ld at hp;cases hp with
  |nil=>
   have:=congrArg ahP hd;rw[agr]at this;simp at this;omega
  |@cons _ t ns r p Yp o WJ=>
   rw[<-hd]at o;rw[uA]at ht;have M8:=congrArg ahP ht;rw[afc,afc,afr]at M8;refine⟨_,rfl,_,rfl,a,l,st,p,ns,r,t,rfl,um,o,?_⟩;refine⟨_,rfl,_,rfl,_,rfl,_,rfl,_,rfl,_,rfl,a,l,rfl,um,fun H3 c3 n3 s3 h3=> ?_⟩;rw[show iq l (some (st:Int)) (some ((st+(1+ns.length+(df p r).length):Nat):Int))=_ from Li o]at h3;have fw:=GA o;rw[agr]at fw;refine⟨x,c3,D',S',cZ,p,ns,r,rfl,iv.is.same s3,⟨o.lt,o.len,o.no,h3,by omega⟩,by omega,fun H4 q D4 X6 po fl hq=> ?_⟩;generalize ahB S' (jL p ns r)=SR at*;have m3:=s3 _ _ iv.cG;have m4:=po.kp _ _ m3 iv.nf;have nq:m≠q:=fl m _ m3 iv.nf;have sm4:ax H H4:=fun b ob hb=>po.kp b ob (s3 _ _ (iv.sm b ob hb)) fun z=>by
    have:=iv.fr b z;rw[hb]at this;cases this
   have ZP:m∉je x D4 SR.1:=fun z=>by
    rcases po.gr m z with y|y
    .exact iv.nf y
    .rw[m3]at y;cases y
   have ZV:¬QQ D4 SR.1 X6 m:=fun z=>(po.rc m z).elim iv.nr fun y=>y m _ m3 iv.nf rfl
   have fr4:∀b∈je x D4 SR.1,H b=none:=fun b z=>by
    rcases po.gr b z with y|y
    .exact iv.fr b y
    .exact iv.sm.free (s3.free y)
   refine⟨_,rfl,.inl ⟨rfl,_,aJ.of m4⟩,_,rfl,q,_,rfl,.inl (aJ.of hq),m,_,_,rfl,rfl,m4,?_,?_⟩
   .refine agk ?_ (show 10000000<=sizeLine by decide);rw[afb];omega
   have m5:aE H4 m (.ba (done.map V.int++ [V.int ((SR.2.map V.int).length:Nat)])) m=some (.ba ((done++ [(SR.2.length:Int)]).map V.int)):=by rw[aj,afD,afb];rfl
   have k5:Kp [m] H4 (aE H4 m (.ba (done.map V.int++ [V.int ((SR.2.map V.int).length:Nat)]))):=Kp.gZ (by simp);refine⟨_,rfl,.inl ⟨rfl,_,aJ.of m5⟩,_,rfl,m,q,_,_,rfl,rfl,m5,k5 _ _ hq (by simpa using agW nq),?_,?_⟩
   .refine afw ?_ (show 10000000<=sizeLine by decide);rw[afb,afb,afc,agT];omega
   generalize aE H4 m (.ba (done.map V.int++ [V.int ((SR.2.map V.int).length:Nat)]))=H5 at m5 k5⊢;have k6:Kp [m] H5 (aE H5 m (.ba ((done++ [(SR.2.length:Int)]).map V.int++SR.2.map V.int))):=Kp.gZ (by simp);have m6:aE H5 m (.ba ((done++ [(SR.2.length:Int)]).map V.int++SR.2.map V.int)) m=some (.ba ((done++ [(SR.2.length:Int)]++SR.2).map V.int)):=by rw[aj,afD (l₁:=done++_)]
   generalize aE H5 m (.ba ((done++ [(SR.2.length:Int)]).map V.int++SR.2.map V.int))=H6 at m6 k6⊢;have ZG:=k5.trans k6;refine⟨_,rfl,⟨st+(1+ns.length+(df p r).length),_,_,D4,SR.1,X6,Yp,done++ [(SR.2.length:Int)]++SR.2,rfl,⟨?_,fr4,iv.fn,ZP,ZV,m6,?_⟩,?_,?_,Pc o yG⟩,?_⟩
   .exact fun b ob hb=>ZG _ _ (sm4 _ _ hb) fun z=>by
     rw[show b=m by simpa using z,iv.fn]at hb;cases hb
   .exact po.is.keep ZG (fun a ha z=>ZP ((show a=m by simpa using z)▸ha)) (fun a ha z=>ZV ((show a=m by simpa using z)▸ha))
   .rw[Ic o];exact WJ
   .rw[ht];simp
   .show l.length-((st+(1+ns.length+(df p r).length):Nat):Int).toNat<l.length-((st:Nat):Int).toNat;omega
 .have c':¬((st:Int)<((l.map V.int).length:Nat)):=fun z=>c (afl z)
  rw[afb]at c';have e:l.drop st=[]:=agt (by omega);rw[e]at hp;cases hp with
  |nil=>
   rw[show iB S' []=[]from rfl,af7]at ht;exact⟨_,rfl,k H' m (by rw[ht];exact iv.cG)⟩
  |cons o _=>cases o.eq
def Df(K:afW)(mg:Str->Option afg)(g x:Str)(st:afR):Prop:=∃f fd,b9 K x x st f fd/\mg g=some (.ref f)
def Dm(K:afW)(C:afd)(x q:Str)(st:afR):Prop:=∃f fd,b9 K x q st f fd/\Dk K C x f
section
variable{h:agg}
theorem jw.ca{k:Nat}{x:Str}(c:jw P w K mg base k x ps sp f fd):Ca P w K mg base k x ps sp:=⟨f,fd,c⟩
theorem zJ.ma{k:Nat}{x:Str}(c:zJ P w K mg base k C x ps sp f fd):Ma P w K mg base k C x ps sp:=⟨f,fd,c⟩
theorem dO{l:List (Str×Int)}(X:K.In h)(G:h.Ns mainGlobals mg)(e:cB K l=true)(i:Nat){x:Str}{v:Int}(hi:l[i]? =some (x,v):=by rfl):∃t,mg x=some (.int v t):=by
 have q:=af6.mp e _ (afq hi);revert q;try dsimp only
 split
 .rename_i i' t q;intro z;have z':i'=v:=afh z;subst z';exact⟨t,akO X G q⟩
 .intro z;cases z
theorem oE{l:List Str}(X:K.In h)(G:h.Ns mainGlobals mg)(e:oB K l=true)(i:Nat){x:Str}(hi:l[i]? =some x:=by rfl):mg x=none:=by
 have q:=af6.mp e _ (afq hi);revert q;try dsimp only
 split
 .rename_i q;intro _;exact PySem.W.mg_none_of X G q
 .intro z;cases z
theorem yK{us:List afg}(e:Cr K a=some us):∃(o:Obj) (aR:Array afg) (n:Nat),K.lookup a=some o/\o.cls= .type "tuple"/\o.data= .seq aR n/\aR.size<=sizeLine/\aR.toList=us:=by
 unfold Cr at e;split at e
 .rename_i t d aR n sl q;split at e
  .rename_i c;obtain⟨c1,c2⟩:=c;subst c1;cases e;exact⟨_,aR,n,q,rfl,rfl,afw c2 (by decide),rfl⟩
  .cases e
 .cases e
theorem zE:∀{us:List afg} {ns:List Nat},zD us=some ns->bo (ns.map vn) us
 | [],ns,e=>by
  have e':some []=some ns:=e;cases e';exact .nil
 |v::r,ns,e=>by
  unfold zD at e;split at e
  .rename_i n t;cases q:zD r with
   |none=>rw[q]at e;cases e
   |some m=>
    rw[q]at e;cases e;exact .cons ⟨t,rfl⟩ (zE q)
  .cases e
theorem zG:∀{us:List afg} {ns:List afd},zF us=some ns->bo (ns.map V.ref) us
 | [],ns,e=>by
  have e':some []=some ns:=e;cases e';exact .nil
 |v::r,ns,e=>by
  unfold zF at e;split at e
  .rename_i a;cases q:zF r with
   |none=>rw[q]at e;cases e
   |some m=>
    rw[q]at e;cases e;exact .cons rfl (zG q)
  .cases e
theorem Cq{ns:List Nat}(e:kN K a=some ns):ko K a (ns.map vn):=by
 obtain⟨us,q,q2⟩:=akP.mp e;obtain⟨o,aR,n,h1,h2,h3,h4,h5⟩:=yK q;exact⟨o,aR,n,h1,h2,h3,h4,by rw[h5];exact zE q2⟩
theorem G7{ns:List afd}(e:kR K a=some ns):ko K a (ns.map V.ref):=by
 obtain⟨us,q,q2⟩:=akP.mp e;obtain⟨o,aR,n,h1,h2,h3,h4,h5⟩:=yK q;exact⟨o,aR,n,h1,h2,h3,h4,by rw[h5];exact zG q2⟩
theorem CS:∀{qs:List afd} {xs:List (Nat×Nat)},IC K qs xs=true->qs.length=xs.length/\∀(j:Nat) (q:afd) (x:Nat×Nat),qs[j]? =some q->xs[j]? =some x->ko K q [vn x.1,vn x.2]
 | [],[],_=>⟨rfl,fun j q x e=>by simp at e⟩
 |q::qs,x::xs,e=>by
  have e':(decide (kN K q=some [x.1,x.2])&&IC K qs xs)=true:=e;rw[afB]at e';obtain⟨l,r⟩:=CS e'.2;refine⟨by rw[afr,afr,l],fun j q' x' h1 h2=> ?_⟩;cases j with
  |zero=>
   obtain rfl:q=q':=afv h1;obtain rfl:x=x':=afv h2;exact Cq (afh e'.1)
  |succ j=>exact r j q' x' h1 h2
 | [],_::_,e=>by cases e
 |_::_,[],e=>by cases e
theorem y9:∀{rs:List afd} {p0:Nat},CQ K rs p0=true->∀(p:Nat) (r:afd),rs[p]? =some r->∃qs:List afd,ko K r (qs.map V.ref)/\qs.length=(rg (p0+p)).length/\∀(j:Nat) (q:afd) (x:Nat×Nat),qs[j]? =some q->(rg (p0+p))[j]? =some x->ko K q [vn x.1,vn x.2]
 | [],_,_,p,r,h=>by simp at h
 |r0::rs,p0,e,p,r,h=>by
  have e':((match kR K r0 with
  |some qs=>IC K qs (rg p0)
  |none=>false)&&CQ K rs (p0+1))=true:=e
  rw[afB]at e';cases p with
  |zero=>
   obtain rfl:r0=r:=afv h;have z:=e'.1;cases q:kR K r0 with
   |none=>rw[q]at z;cases z
   |some qs=>
    rw[q]at z;exact⟨qs,G7 q,CS z⟩
  |succ p=>
   have:=y9 e'.2 p r h;rw[show p0+1+p=p0+(p+1) by omega]at this;exact this
theorem Pq(e:Pp K R=true):∃rs,rD K R rs:=by
 unfold Pp at e;split at e
 .rename_i rs q;rw[afB]at e;refine⟨rs,G7 q,afh e.1,fun p r h=> ?_⟩;have:=y9 e.2 p r h;rw[aik]at this;exact this
 .cases e
theorem uO:∀{es:List anx} {l:List (Int×afd)},rR es=some l->(∀e∈es,∃k:br,(cO P w).is k e.key=true/\e.hash=(cO P w).hash k)/\Pairs (cO P w) es (l.map fun p=>((afz p.1:br),af1 p.2))
 | [],l,e=>by
  have e':some []=some l:=e;cases e';exact⟨fun e he=>by simp at he,.nil⟩
 |e::r,l,q=>by
  unfold rR at q;split at q
  .rename_i hs k t a;split at q
   .rename_i c;cases z:rR r with
    |none=>rw[z]at q;cases q
    |some m=>
     rw[z]at q;cases q;obtain⟨h1,h2⟩:=uO z;refine⟨fun e he=> ?_,.cons (lh P w k t) rfl h2⟩;rcases afx.mp he with y|y
     .subst y;exact⟨.inl k,lh P w k t,c⟩
     .exact h1 e y
   .cases q
  .cases q
abbrev dv(l:List (Int×afd)):List (br×V):=l.map fun p=>(afz p.1,V.ref p.2)
theorem MR:∀l:List (Int×afd),KV (dv l) (l.map fun p=>((afz p.1:br),af1 p.2))
 | []=> .nil
 |_::l=> .cons ⟨rfl,rfl⟩ (MR l)
theorem u5:∀{l:List (Int×afd)},(l.map (·.1)).Nodup->((l.map fun p=>((afz p.1:br),af1 p.2)).map (·.1)).Nodup
 | [],_=> .nil
 |p::l,e=>by
  have e':=afG.mp (show(p.1::l.map (·.1)).Nodup from e);refine afG.mpr ⟨fun z=>e'.1 ?_,u5 e'.2⟩;obtain⟨y,hy,ey⟩:=afJ.mp z;obtain⟨u,hu,eu⟩:=afJ.mp hy;subst eu;have:u.1=p.1:=alf ey;exact afJ.mpr ⟨u,hu,this⟩
theorem Nm{l:List (Int×afd)}(e:kD K a=some l):KD P w K a (dv l):=by
 unfold kD at e;split at e
 .rename_i t es ep sl q;split at e
  .rename_i c;obtain⟨c1,c2,c3⟩:=c;subst c1;split at e
   .rename_i l' z;split at e
    .rename_i nd;cases e;obtain⟨h1,h2⟩:=uO (P:=P) (w:=w) z;exact⟨c3,_,MR l,fun h' X=>⟨_,es,ep,X _ _ q,⟨rfl,rfl,Array.eq_empty_of_size_eq_zero c2⟩,rfl,fun e he=>h1 e (alj.mpr he),h2,u5 nd⟩⟩
    .cases e
   .cases e
  .cases e
 .cases e
theorem pf(p:Nat):∀l:List (Int×afd),ee (dv l) (afz (p:Int))=(vg l p).map V.ref
 | []=>rfl
 |q::l=>by
  show ee ((afz q.1,V.ref q.2)::dv l) _=_;by_cases e:q.1=(p:Int)
  .rw[eF (by rw[e])];simp[vg,aha,e]
  .rw[dS (fun z=>e (alf z)),pf p l];simp[vg,aha,e]
theorem Ba{nm:List (Option Str)}(X:K.In h)(G:h.Ns mainGlobals mg)(e:Jm K a nm=true):∃aQ,KD P w K a aQ/\(∀p:Nat,p<25->nm.getD p none=none->ee aQ (afz (p:Int))=none)/\∀(p:Nat) (g:Str),p<25->nm.getD p none=some g->∃r,ee aQ (afz (p:Int))=some (.ref r)/\mg g=some (.ref r):=by
 unfold Jm at e;split at e
 .rename_i l q;refine⟨dv l,Nm q,fun p hp hn=> ?_,fun p g hp hn=> ?_⟩
  .have z:=af6.mp e p (aix.mpr hp);rw[hn]at z;rw[pf,Option.isNone_iff_eq_none.mp z];rfl
  .have z:=af6.mp e p (aix.mpr hp);rw[hn]at z;revert z;try dsimp only
   split
   .rename_i r r' q1 q2;intro z;have z':r=r':=afh z;subst z';exact⟨r,by rw[pf,q1];rfl,akO X G q2⟩
   .intro z;cases z
 .cases e
theorem N8(e:N7 K a=true):∃aQ,Mj P w K a aQ:=by
 unfold N7 at e;split at e
 .rename_i l q;refine⟨dv l,Nm q,fun p hp=> ?_⟩;have z:=af6.mp e p (aix.mpr hp);revert z;try dsimp only
  split
  .rename_i y;exact fun z=> .inl ⟨afh z,by rw[pf,y];rfl⟩
  .rename_i r y;exact fun z=> .inr ⟨r,by rw[pf,y];rfl,Cq (afh z)⟩
 .cases e
theorem y8(X:K.In h)(G:h.Ns mainGlobals mg):∀{rs:List afd} {gs:List Str},CO K rs gs=true->rs.length=gs.length/\∀(p:Nat) (r:afd) (g:Str),rs[p]? =some r->gs[p]? =some g->mg g=some (.ref r)
 | [],[],_=>⟨rfl,fun p r g e=>by simp at e⟩
 |r::rs,g::gs,e=>by
  have e':((match nsIn K mainGlobals g with
  |some (some (.ref r'))=>decide (r=r')
  |_=>false)&&CO K rs gs)=true:=e
  rw[afB]at e';obtain⟨l,q⟩:=y8 X G e'.2;refine⟨by rw[afr,afr,l],fun p r' g' h1 h2=> ?_⟩;cases p with
  |zero=>
   obtain rfl:r=r':=afv h1;obtain rfl:g=g':=afv h2;have z:=e'.1;revert z;split
   .rename_i r' y;intro z;have z':r=r':=afh z;subst z';exact akO X G y
   .intro z;cases z
  |succ p=>exact q p r' g' h1 h2
 | [],_::_,e=>by cases e
 |_::_,[],e=>by cases e
theorem N2{gs:List Str}(X:K.In h)(G:h.Ns mainGlobals mg)(e:N1 K a gs=true):∃fs:List afd,ko K a (fs.map V.ref)/\fs.length=gs.length/\∀(p:Nat) (r:afd) (g:Str),fs[p]? =some r->gs[p]? =some g->mg g=some (.ref r):=by
 unfold N1 at e;split at e
 .rename_i rs q;exact⟨rs,G7 q,y8 X G e⟩
 .cases e
end
theorem SD(a:agG):(eO a).length<=3:=by cases a<;>simp[eO]
inductive NI(x:V)(y:V)(H:Hp)(Q:VK):Prop|m:∀(a:afd) (z:Int) (m:Nat),x= .ref a->y= .int (m:Int)->IL H a [z]->m<=1000->(∀(H':Hp) (p:afd),H p=none->ax H H'->IL H' p (afQ m z)->Q (.ref p) H')->NI x y H Q
theorem Lk:nY X (binaryOp .Mult) NI:=by
 intro pins s σ H x y u v Q I rx ry ⟨a,z,m,e1,e2,h1,hz,q⟩;refine AF pins s σ H x y u v Q I rx ry ⟨a,_,_,e1,e2,h1,ahu _,ahY (show(m:Int)<=1000 by omega) (by decide),?_,fun p hp=>q _ p hp (ax.new hp) ?_⟩
 .show 1*(m:Int).toNat<=sizeLine;exact afw (show 1*(m:Int).toNat<=1000 by omega) (by decide)
 .show L2.aE _ p _ p=_;rw[aj,ah6];exact congrArg (fun z=>some (HO.ba z)) (CP m z)
abbrev ye:afR:=dC 126
theorem vA:au ["house","numbers","row"] ["house","numbers","row"] (ai ye):=cF
theorem Aw(F:b9 K "freeze" "freeze" ye f fd)(L:kF P w K mg base CB CH):aT P w K mg base bX 6 f fd ["house","numbers","row"] (gQ CB CH 9):=by
 refine cz F vA fun _ _ _ _ H _ Q E hr h=> ?_
 obtain⟨h,nl,rl,D,S,FZ,x,rfl,hc,ok,W,fn,fr,hn,gJ,ku,iM,k⟩:=h;obtain rfl:=fm hc;have hz:=W.st.len;have nd:=vA.nd;refine⟨_,ae (aZ (bf (jK (pv 0) L.a.h.cl L.Su hr)) (af (aq (fN (aa (gY rfl L.a.v.full) ab)))) aC)
  (ae (aI (jK (pv 0) L.a.h.cl L.freeze hr))
  (af (aq (fN (aa ag (aa (aN ay rfl L.a.g.len agq (aa (az (pv 0)) ab)) (aa (aN ay rfl L.a.g.len agq (aa (az (pv 0)) ab)) ab))))))),?_⟩
 refine⟨_,rfl,h,D.dx,_,rfl,W.w.ins,cj (e9 _ (by simp)),h,D,_,_,_,_,_,_,FZ,_,rfl,W.w,_,rfl,aW (fun c=> ?_) (fun c=> ?_)⟩
 .have c':=afh c;rw[gU]at c';exact⟨jv,fun H1 l n1 s1 h1=>aO W k (gS (show(if amF<=S.editions.length then _ else _)=_ from afj c')) n1 s1 h1⟩
 have c':¬10<=S.editions.length:=fun z=>c (afl (by rw[gU];exact z))
 have st:ahn S .freeze=(jW S,[0,nat (S.editions.length+1),nat S.log.length]):=dX (show(if amF<=S.editions.length then _ else _)=_ from afe c');refine⟨_,rfl,h,D.dx,_,rfl,W.w.ins,cj (e9 _ (by simp)),h,D,_,_,_,_,_,_,FZ,_,rfl,W.w,by omega,by rw[gU];omega,by omega,fun H1 b d fr W1 k1=> ?_⟩;refine⟨_,rfl,h,CH,D.dx,_,_,rfl,W1.ins,L.a.h.cl,L.a.h.nE,pL,D.ed,_,rfl,.inl (aJ.of W1.he),_,rfl,h,CH,D.dx,_,_,rfl,W1.ins,L.a.h.cl,L.a.h.nL,i7,D.lg,_,rfl,.inl (aJ.of W1.hl),QF,fun H2 l n2 s2 h2=> ?_⟩;have qm:=W1.el;have Ad:=W1.ll;rw[afb,afb,qm,Ad,afc,gU]at h2;rw[st]at k;refine k H2 l {D with eb:=D.eb++ [(b,d)]} FZ ⟨⟨?_,W.st.jW (by omega)⟩,fun a o e ne=>s2 _ _ (k1 a o e fun z=>ne ?_),fun a ha=> .inl ha,?_⟩ (fun b' o e ne=>ak (k1 b' o e fun z=>ne ?_) n2) h2
 .rw[oo];exact W1.same s2
 .have:a=D.ed\/a=D.ln:=by simpa using z
  refine af0 _ ?_;rcases this with e|e<;>rw[e]<;>simp
 .rintro c (z|⟨i,x,B,e1,e2,e3⟩)
  .exact .inl (.inl z)
  .rw[oo]at e2;have zO:=W.w.el;by_cases q:i<D.eb.length
   .have Jx:(D.eb++ [(b,d)])[i]? =some x:=e1;rw[agM q]at Jx;rw[agM (by rw[<-zO];exact q)]at e2;exact .inl (.inr ⟨i,x,B,Jx,e2,e3⟩)
   .have Jx:(D.eb++ [(b,d)])[i]? =some x:=e1;rw[agv (akY.mp q)]at Jx;rw[agv (by rw[<-zO];exact akY.mp q)]at e2;cases hj:i-D.eb.length with
    |zero=>
     rw[hj]at Jx;rw[<-zO,hj]at e2;injection Jx with Jx
     injection e2 with e2
     subst Jx;subst e2;exact .inr (.new (fr c e3))
    |succ j=>rw[hj]at Jx;cases Jx
 .have:b'=D.ed\/b'=D.ln:=by simpa using z
  refine af0 _ ?_;rcases this with e|e<;>rw[e]<;>simp
abbrev F2:afR:=dC 139
theorem C2:au ["house","numbers","row","noted","missing"] ["house","numbers","row"] (ai F2):=cF
theorem HG(F:b9 K "line" "line" F2 f fd)(L:kF P w K mg base CB CH):aT P w K mg base bX 6 f fd ["house","numbers","row"] (gQ CB CH 22):=by
 refine cz F C2 fun _ _ _ _ H _ Q E hr h=> ?_
 obtain⟨h,nl,rl,D,S,FZ,x,rfl,hc,ok,W,fn,fr,hn,gJ,ku,iM,k⟩:=h;obtain⟨i,rfl⟩:=fm hc;have hz:=W.st.len;have nd:=C2.nd;refine⟨_,ae (aZ (aX oF (aG aA (pv 1) ag) (aN ay rfl L.a.g.len agq (aa (az (pv 0)) ab)) (bc _)) (af (aq (fN (aa (gY rfl L.a.v.noL) ab)))) aC)
  (ae (cY 3 nd (aG aA (az (pv 0)) (bx j3 (aG aA (pv 1) ag) ag)))
  (ae (cY 4 nd (bx Lk (fN (aa ag ab)) (bx j3 ag (aN ay rfl L.a.g.len agq (aa (aG eJ (pv 3) ag) ab)))))
  (af (aq (bx dW (bx dW (bx dW (bx dW (fN (aa ag (aa (aG eJ (pv 3) ag) ab))) (aG eJ (pv 3) ag)) (pv 4)) (fN (aa (aN ay rfl L.a.g.len agq (aa (aG eJ (pv 3) ag) ab)) ab))) (aG eJ (pv 3) ag)))))),?_⟩
 have st:=E8 (S:=S) ok;have i1:1<=i:=ok;refine⟨_,rfl,nl,_,_,vn i,rfl,rfl,aJ.of hn,iL (i:=0) rfl,_,rfl,h,CH,D.dx,_,_,rfl,W.w.ins,L.a.h.cl,L.a.h.nL,i7,D.lg,_,rfl,.inl (aJ.of W.w.hl),_,_,rfl,rfl,_,rfl,aW (fun c=> ?_) (fun c=> ?_)⟩
 .have c':=afh c;rw[afb,W.w.ll]at c';rw[air (by omega)]at st;exact⟨jv,fun H1 l n1 s1 h1=>aO W k st n1 s1 h1⟩
 have c':¬(((D.la.map fun x=>V.ref x.1).length:Nat):Int)<(i:Int):=fun z=>c (afl z)
 rw[afb,W.w.ll]at c';have gV:i-1<S.log.length:=by omega
 have hg:=afk gV;have Wn:D.la[i-1]? =some (D.la[i-1]'(by rw[W.w.ll];exact gV)):=afk _;generalize (D.la[i-1]'(by rw[W.w.ll];exact gV))=y at Wn;rw[hg]at st;generalize S.log[i-1]=a at hg st;have L1:=W.w.ki (i-1) y a Wn hg;have Uz:=W.st.ok a (afq hg);have ac3:(uv a).length<=30:=by
  cases a with
  |entry _ _=>exact afw Uz (by decide)
  |sense _ _ _=>exact Uz
  |say _ _=>exact Uz
  |erratum _ _ _=>exact Uz.2
  |_=>exact afH _
 have hn3:=SD a;refine⟨_,rfl,h,CH,D.dx,_,_,rfl,W.w.ins,L.a.h.cl,L.a.h.nL,i7,_,rfl,nl,_,_,vn i,rfl,rfl,aJ.of hn,iL (i:=0) rfl,_,_,rfl,rfl,D.lg,_,_,.ref y.1,rfl,rfl,aJ.of W.w.hl,gE (j:=i-1) (by show(i:Int)-1=_;omega) (by rw[afy,Wn];rfl),?_⟩;have ix:∀{H':Hp},ax H H'->gF K H' y.1 [vn (bz a),V.ref y.2.1,V.ref y.2.2]:=fun s=>gF.of (s _ _ L1.tu)
 refine⟨jv,fun H1 m1 n1 s1 h1=>⟨_,rfl,y.1,_,_,_,rfl,rfl,ix s1,(show pB [vn (bz a),V.ref y.2.1,V.ref y.2.2] (1:Int)=some (V.ref y.2.1)from rfl),y.2.1,_,rfl,.inl (aJ.of (s1 _ _ L1.nu)),_,_,rfl,rfl,m1,0,3-(eO a).length,rfl,?_,h1,by omega,fun H2 m2 n2 s2 h2=> ?_⟩⟩
 .rw[afb];exact congrArg V.int (show(3:Int)-((eO a).length:Nat)=((3-(eO a).length:Nat):Int) by omega)
 have QB:=s1.trans s2;refine⟨_,rfl,y.1,_,_,_,rfl,rfl,ix QB,(show pB [vn (bz a),V.ref y.2.1,V.ref y.2.2] (0:Int)=some (vn (bz a))from rfl),xQ,fun H3 m3 n3 s3 h3=> ?_⟩;have mx:=QB.trans s3;refine⟨_,rfl,y.1,_,_,_,rfl,rfl,ix mx,(show pB [vn (bz a),V.ref y.2.1,V.ref y.2.2] (1:Int)=some (V.ref y.2.1)from rfl),m3,y.2.1,[0,nat (bz a)],_,rfl,rfl,h3,jx (mx _ _ L1.nu),by rw[afb];show 2+_<=_;omega,fun H4 m4 n4 s4 h4=> ?_⟩;refine⟨_,rfl,m4,m2,_,_,rfl,rfl,h4,s4 _ _ (s3 _ _ h2),by simp only[afc,afb,ag2,afr,aiQ];omega,fun H5 m5 n5 s5 h5=> ?_⟩;have mm:=mx.trans (s4.trans s5);refine⟨_,rfl,y.1,_,_,_,rfl,rfl,ix mm,(show pB [vn (bz a),V.ref y.2.1,V.ref y.2.2] (2:Int)=some (V.ref y.2.2)from rfl),y.2.2,_,rfl,.inl (aJ.of (mm _ _ L1.ro)),jv,fun H6 m6 n6 s6 h6=> ?_⟩;rw[afb]at h6;refine⟨m5,m6,_,[nat (uv a).length],rfl,rfl,s6 _ _ h5,h6,by simp only[afc,afb,ag2,afr,aiQ];omega,fun H7 m7 n7 s7 h7=> ?_⟩;have JJ:=mm.trans (s6.trans s7);refine⟨_,rfl,y.1,_,_,_,rfl,rfl,ix JJ,(show pB [vn (bz a),V.ref y.2.1,V.ref y.2.2] (2:Int)=some (V.ref y.2.2)from rfl),m7,y.2.2,_,_,rfl,rfl,h7,jx (JJ _ _ L1.ro),by simp only[afc,afb,ag2,afr,aiQ];omega,fun H8 m8 n8 s8 h8=> ?_⟩;refine aO W k st (JJ.free n8) (JJ.trans s8) ?_;rw[Jn];show H8 m8=_;rw[h8];simp[afS]
theorem nR:∀p,p<25->fG p=false->nW.getD p none=none:=by decide+kernel
theorem yR:∀p,p<25->fG p=true->p=0\/p=1\/p=2\/p=8\/p=13\/p=20:=by decide+kernel
theorem lt9(h:p<9):p=0\/p=1\/p=2\/p=3\/p=4\/p=5\/p=6\/p=7\/p=8:=by revert p;decide+kernel
theorem in8(h:1<=p)(k:p<=8):p=1\/p=2\/p=3\/p=4\/p=5\/p=6\/p=7\/p=8:=by
 have q:∀p,p<9->1<=p->p=1\/p=2\/p=3\/p=4\/p=5\/p=6\/p=7\/p=8:=by decide+kernel
 exact q p (Nat.lt_succ_of_le k) h
theorem W6(h:9<=p)(k:p<25):(p=9\/p=10\/p=11\/p=12\/p=13\/p=14\/p=15\/p=16)\/p=17\/p=18\/p=19\/p=20\/p=21\/p=22\/p=23\/p=24:=by
 have q:∀p,p<17->9<=p->p=9\/p=10\/p=11\/p=12\/p=13\/p=14\/p=15\/p=16:=by decide+kernel
 have r:∀p,p<25->17<=p->p=17\/p=18\/p=19\/p=20\/p=21\/p=22\/p=23\/p=24:=by decide+kernel
 exact(Nat.lt_or_ge p 17).imp (fun z=>q p z h) fun z=>r p k z
structure UM(P:afA)(w:af4)(K:afW)(mg:Str->Option afg)(base:agg):Prop where
section
variable{h:agg}
section
variable{k:Nat}{x q g:Str}
theorem kC(Z:UM P w K mg base)(d:Df K mg g x st)(o:∀{f:afd} {fd:afE},b9 K x x st f fd->aT P w K mg base bX k f fd ps sp/\eY K fd ps []):Ca P w K mg base k g ps sp:=let⟨f,fd,F,m⟩:=d;⟨f,fd,(o F).1,m,F.kp,(o F).2⟩
theorem kM(Z:UM P w K mg base)(d:Dm K C x q st)(o:∀{f:afd} {fd:afE},b9 K x q st f fd->aT P w K mg base bX k f fd ps sp/\eY K fd ps []):Ma P w K mg base k C x ps sp:=let⟨f,fd,F,m⟩:=d;⟨f,fd,(o F).1,m,(o F).2⟩
theorem kH(F:b9 K x q st f fd)(h:∀(kV doc pm:afg) (an:Option afd) (ke ct u0:afg),bindArgs (fnOf x q (gM st) (cq st) (ai st) .none kV doc pm an ke ct) ⟨[u0],[]⟩=pure (([p0]:List Str).zip [u0]):=by intros;kernel_rfl):eY K fd [p0] []:=F.binds fun a b c d e f us hl=>by
 rcases us with _|⟨u0,us⟩
 .cases hl
 rcases us with _|⟨v,us⟩
 .exact h a b c d e f u0
 .simp at hl
theorem nQ(F:b9 K x q st f fd)(h:∀(kV doc pm:afg) (an:Option afd) (ke ct u0 u1:afg),bindArgs (fnOf x q (gM st) (cq st) (ai st) .none kV doc pm an ke ct) ⟨[u0,u1],[]⟩=pure (([p0,p1]:List Str).zip [u0,u1]):=by intros;kernel_rfl):eY K fd [p0,p1] []:=F.binds fun a b c d e f us hl=>by
 rcases us with _|⟨u0,us⟩
 .cases hl
 rcases us with _|⟨u1,us⟩
 .cases hl
 rcases us with _|⟨v,us⟩
 .exact h a b c d e f u0 u1
 .simp at hl
theorem jb(F:b9 K x q st f fd)(h:∀(kV doc pm:afg) (an:Option afd) (ke ct u0 u1 u2:afg),bindArgs (fnOf x q (gM st) (cq st) (ai st) .none kV doc pm an ke ct) ⟨[u0,u1,u2],[]⟩=pure (([p0,p1,p2]:List Str).zip [u0,u1,u2]):=by intros;kernel_rfl):eY K fd [p0,p1,p2] []:=F.binds fun a b c d e f us hl=>by
 rcases us with _|⟨u0,us⟩
 .cases hl
 rcases us with _|⟨u1,us⟩
 .cases hl
 rcases us with _|⟨u2,us⟩
 .cases hl
 rcases us with _|⟨v,us⟩
 .exact h a b c d e f u0 u1 u2
 .simp at hl
theorem Qh{p3:Str}(F:b9 K x q st f fd)(h:∀(kV doc pm:afg) (an:Option afd) (ke ct u0 u1 u2 u3:afg),bindArgs (fnOf x q (gM st) (cq st) (ai st) .none kV doc pm an ke ct) ⟨[u0,u1,u2,u3],[]⟩=pure (([p0,p1,p2,p3]:List Str).zip [u0,u1,u2,u3]):=by intros;kernel_rfl):eY K fd [p0,p1,p2,p3] []:=F.binds fun a b c d e f us hl=>by
 rcases us with _|⟨u0,us⟩
 .cases hl
 rcases us with _|⟨u1,us⟩
 .cases hl
 rcases us with _|⟨u2,us⟩
 .cases hl
 rcases us with _|⟨u3,us⟩
 .cases hl
 rcases us with _|⟨v,us⟩
 .exact h a b c d e f u0 u1 u2 u3
 .simp at hl
theorem Yb{p3 p4:Str}(F:b9 K x q st f fd)(h:∀(kV doc pm:afg) (an:Option afd) (ke ct u0 u1 u2 u3 u4:afg),bindArgs (fnOf x q (gM st) (cq st) (ai st) .none kV doc pm an ke ct) ⟨[u0,u1,u2,u3,u4],[]⟩=pure (([p0,p1,p2,p3,p4]:List Str).zip [u0,u1,u2,u3,u4]):=by intros;kernel_rfl):eY K fd [p0,p1,p2,p3,p4] []:=F.binds fun a b c d e f us hl=>by
 rcases us with _|⟨u0,us⟩
 .cases hl
 rcases us with _|⟨u1,us⟩
 .cases hl
 rcases us with _|⟨u2,us⟩
 .cases hl
 rcases us with _|⟨u3,us⟩
 .cases hl
 rcases us with _|⟨u4,us⟩
 .cases hl
 rcases us with _|⟨v,us⟩
 .exact h a b c d e f u0 u1 u2 u3 u4
 .simp at hl
end
section
variable{g:Str}{r:afd}{o:Option V}
theorem sU(a:mg g=some (.ref f))(b:mg g=some (.ref r)):f=r:=by
 rw[a]at b;cases b;rfl
theorem JB(c:jw P w K mg base n g ps (gQ CB CH p) f fd)(e:mg g=some (.ref r)):TL P w K mg base CB CH n p r:=by
 obtain rfl:=sU c.mg e;exact⟨fd,ps,c.kp,c.ok,c.bi⟩
theorem mj(c:jw P w K mg base n g ps (gQ CB CH p) f fd)(e:∃r,o=some (.ref r)/\mg g=some (.ref r)):∃r,o=some (.ref r)/\TL P w K mg base CB CH n p r:=by
 obtain⟨r,e1,e2⟩:=e;exact⟨r,e1,JB c e2⟩
theorem jE(c:jw P w K mg base n g ps sp f fd)(e:∃r,o=some (.ref r)/\mg g=some (.ref r)):∃(r:afd) (fd:afE),o=some (.ref r)/\keepIn K (.ref r)=true/\aT P w K mg base bX n r fd ps sp/\eY K fd ps []:=by
 obtain⟨r,e1,e2⟩:=e;obtain rfl:=sU c.mg e2;exact⟨f,fd,e1,c.kp,c.ok,c.bi⟩
end
theorem Ib{x q:Str}(e:xV K f q=ui x q st):∃fd,b9 K x q st f fd:=by
 unfold xV ui at e;split at e
 .rename_i oc od fd JI hl;split at e
  .rename_i c;rw[afB]at c;obtain⟨a1,a2,a3,a4,a5,a6,a7,a8,a9,a10,a11,a12,a13,a14,a15⟩:=fd;simp only[Option.some.injEq,Prod.mk.injEq]at e;obtain⟨rfl,rfl,rfl,rfl,rfl,rfl,rfl,rfl,rfl⟩:=e;exact⟨_,Oo hl c.1 c.2⟩
  .cases e
 .cases e
theorem aU(X:K.In h)(N:h.Ns mainGlobals mg){l:List (Str×Str×Nat)}(e:l.map (T3 K)=l.map fun p=>ui p.2.1 p.2.1 (dC p.2.2))(i:Nat){g x:Str}(hi:l[i]? =some (g,x,n):=by rfl):Df K mg g x (dC n):=by
 have q:=congrArg (fun z=>z[i]?) e;try dsimp only at q
 rw[afy,afy,hi]at q;have q:=afv q;unfold T3 at q;try dsimp only at q
 split at q
 .rename_i f hf;obtain⟨fd,F⟩:=Ib q;exact⟨f,fd,F,akO X N hf⟩
 .cases q
theorem eM{c:Str}{s:afR}(a:nsIn K mainGlobals c=some (some (.ref C))){l:List (Str×Str×Nat)}(e:l.map (Ql K c)=l.map fun p=>ui p.1 p.2.1 (bt s p.2.2))(i:Nat){x q:Str}(hi:l[i]? =some (x,q,n):=by rfl):Dm K C x q (bt s n):=by
 have q:=congrArg (fun z=>z[i]?) e;try dsimp only at q
 rw[afy,afy,hi]at q;have q:=afv q;unfold Ql at q;rw[a]at q;try dsimp only at q
 split at q
 .rename_i f hf;split at q
  .rename_i i;obtain⟨fd,F⟩:=Ib q;exact⟨f,fd,F,⟨hf,i,F.kp⟩⟩
  .cases q
 .cases q
theorem mw{x:Str}{f:afd->Bool}(e:rf K x f=true):∃a,nsIn K mainGlobals x=some (some (.ref a))/\f a=true:=by
 unfold rf at e;split at e
 .rename_i a q;exact⟨a,q,e⟩
 .cases e
theorem Ms{fs:List Str}(e:TU K fs C=true):zI K C/\makesIn K C=true/\keepIn K (.ref C)=true/\∀(i:Nat) {x:Str},fs[i]? =some x->findIn K (.ref C) x=some none:=by
 unfold TU at e;simp only[afB]at e;obtain⟨⟨⟨⟨⟨⟨e1,e2⟩,e3⟩,e4⟩,e5⟩,e6⟩,e7⟩:=e;refine⟨⟨e1,e2,e3,?_⟩,e5,e6,fun i x hx=> ?_⟩
 .split at e4
  .rename_i b q;rw[q,afh e4]
  .cases e4
 .have z:=af6.mp e7 x (afq hx);unfold ZS at z;split at z
  .rename_i q;exact q
  .cases z
theorem N4{fa:afd}(X:K.In h)(N:h.Ns mainGlobals mg)(hfa:mg "answers"=some (.ref fa))(e:rX K=r8):∃fd:afE,(∀(s:afC) (us:List afg),us.length=(["calls"]:List Str).length->al7 s fd ⟨us,[]⟩ ((["calls"]:List Str).zip us))/\∀base:agg,K.In base->base.Ns mainGlobals mg->aT P w K mg base bX 9 fa fd ["calls"] (mh K):=by
 have e0:Gy K=true:=congrArg (fun z=>z.1) e;have lG:tG.map (T3 K)=tG.map fun p=>ui p.2.1 p.2.1 (dC p.2.2):=congrArg (fun z=>z.2.1) e
 have lB:tB.map (Ql K "Book")=tB.map fun p=>ui p.1 p.2.1 (bt ip p.2.2):=congrArg (fun z=>z.2.2.1) e
 have lH:tH.map (Ql K "House")=tH.map fun p=>ui p.1 p.2.1 (bt gm p.2.2):=congrArg (fun z=>z.2.2.2) e
 clear e;simp only[Gy,afB]at e0;obtain⟨⟨⟨⟨⟨⟨⟨⟨⟨⟨⟨qB,qH⟩,qA⟩,qG⟩,qW⟩,qD⟩,qT⟩,qK⟩,qN⟩,qU⟩,ec⟩,eo⟩:=e0;obtain⟨CB,aB,eB⟩:=mw qB;obtain⟨CH,aH,eH⟩:=mw qH;obtain⟨RA,bA,eA⟩:=mw qA;obtain⟨RG,bG,eG⟩:=mw qG;obtain⟨RW,bW,eW⟩:=mw qW;obtain⟨RD,bD,eD⟩:=mw qD;obtain⟨RT,bT,eT⟩:=mw qT;obtain⟨RB,bB,eK⟩:=mw qK;obtain⟨RN,bN,eN⟩:=mw qN;obtain⟨RU,bU,eU⟩:=mw qU;obtain⟨zB,mkB,kcB,nB⟩:=Ms eB;obtain⟨zH,mkH,kcH,nH⟩:=Ms eH;have TB:mC K mg CB:=⟨zB,nB 0 rfl,nB 1 rfl,nB 2 rfl,nB 3 rfl,nB 4 rfl,akO X N aB⟩;have TH:zU K mg CH:=⟨zH,nH 0 rfl,nH 1 rfl,nH 2 rfl,nH 3 rfl,nH 4 rfl,nH 5 rfl,akO X N aH⟩;have G:lN mg:=⟨oE X N eo 0,oE X N eo 1,oE X N eo 2,oE X N eo 3,oE X N eo 4,oE X N eo 5,oE X N eo 6,oE X N eo 7,oE X N eo 8⟩;have V0:Ju mg:=⟨dO X N ec 0,dO X N ec 1,dO X N ec 2,dO X N ec 3,dO X N ec 4,dO X N ec 5,dO X N ec 6,dO X N ec 7,dO X N ec 8,dO X N ec 9,dO X N ec 10,dO X N ec 11,dO X N ec 12,dO X N ec 13,dO X N ec 14⟩;have XC:Mp mg:=⟨dO X N ec 15,dO X N ec 16,dO X N ec 17,dO X N ec 18,dO X N ec 19,dO X N ec 20,dO X N ec 21,dO X N ec 22⟩;have XP:N0 mg:=⟨dO X N ec 23,dO X N ec 24,dO X N ec 25,dO X N ec 26,dO X N ec 27,dO X N ec 28,dO X N ec 29⟩;have gr:∃t,mg "GREATEST_patching"=some (.int 100 t):=dO X N ec 30;have mA:=akO X N bA;have mR:=akO X N bG;have mW:=akO X N bW;have mD:=akO X N bD;have mT:=akO X N bT;have mB:=akO X N bB;have mN:=akO X N bN;have mU:=akO X N bU;have hN:ko K RN [vn 0,vn 0]:=Cq (afh eN);have hU:ko K RU (lp.map vn):=Cq (afh eU);obtain⟨rV,hR⟩:=Pq eG;obtain⟨bV,hB⟩:=N8 (P:=P) (w:=w) eK;obtain⟨_,fdA,FA,mAn⟩:=aU X N lG 91;obtain rfl:=sU mAn hfa;refine⟨fdA,fun s us hu=> ?_,fun base _ _=> ?_⟩
 .obtain⟨oc,od,kV,doc,pm,an,ke,ct,JI,rfl,lk,JC⟩:=FA.ex;rcases us with _|⟨u,us⟩
  .cases hu
  rcases us with _|⟨v,us⟩
  .exact .of_eq rfl
  .simp at hu
 have Z:UM P w K mg base:=⟨⟩;obtain⟨_,_,c1⟩:=kC Z (aU X N lG 0) fun F=>⟨HU F,nQ F⟩
 obtain⟨_,_,c2⟩:=kC Z (aU X N lG 1) fun F=>⟨O8 F,jb F⟩
 obtain⟨_,_,c3⟩:=kC Z (aU X N lG 2) fun F=>⟨EF F G,kH F⟩
 obtain⟨_,_,c4⟩:=kC Z (aU X N lG 3) fun F=>⟨EI F G,kH F⟩
 obtain⟨_,_,c5⟩:=kC Z (aU X N lG 4) fun F=>⟨Lg F G c3 c4,nQ F⟩
 obtain⟨_,_,c6⟩:=kM Z (eM aB lB 0) fun F=>⟨Hz F TB,kH F⟩
 obtain⟨_,_,c7⟩:=kM Z (eM aB lB 1) fun F=>⟨K3 F TB,nQ F⟩
 obtain⟨_,_,c8⟩:=kM Z (eM aB lB 2) fun F=>⟨K4 F TB,nQ F⟩
 obtain⟨_,_,c9⟩:=kM Z (eM aB lB 3) fun F=>⟨EJ F TB,kH F⟩
 obtain⟨_,_,Q1⟩:=kM Z (eM aB lB 4) fun F=>⟨HI F TB c2,Qh F⟩
 obtain⟨_,_,c11⟩:=kM Z (eM aB lB 5) fun F=>⟨HJ F TB c2,Yb F⟩
 obtain⟨_,_,c12⟩:=kM Z (eM aB lB 6) fun F=>⟨Pa F TB,jb F⟩
 obtain⟨_,_,c13⟩:=kM Z (eM aB lB 7) fun F=>⟨HV F TB,jb F⟩
 obtain⟨_,_,c14⟩:=kM Z (eM aB lB 8) fun F=>⟨HP F TB c2,jb F⟩
 obtain⟨_,_,c15⟩:=kM Z (eM aB lB 9) fun F=>⟨K5 F TB,nQ F⟩
 obtain⟨_,_,Yd⟩:=kM Z (eM aB lB 10) fun F=>⟨O6 F TB c15,nQ F⟩
 obtain⟨_,_,Ye⟩:=kM Z (eM aB lB 11) fun F=>⟨Eo F TB,nQ F⟩
 obtain⟨_,_,c18⟩:=kM Z (eM aB lB 12) fun F=>⟨HQ F TB c2 Yd,Qh F⟩
 obtain⟨_,_,c19⟩:=kM Z (eM aB lB 13) fun F=>⟨Hs F TB Ye,nQ F⟩
 obtain⟨_,_,c20⟩:=kM Z (eM aB lB 14) fun F=>⟨Ht F TB Yd Ye,nQ F⟩
 have MB:Mk K CB _:=⟨mkB,c6.me.cG,c6.me.fn,kcB⟩;obtain⟨_,_,Vr⟩:=kC Z (aU X N lG 5) fun F=>⟨Em F TB G MB c6.ok c6.bi,kH F⟩
 obtain⟨_,_,TR⟩:=kM Z (eM aH lH 0) fun F=>⟨HB F TH TB MB c6.ok c6.bi,kH F⟩
 obtain⟨_,_,Vs⟩:=kM Z (eM aH lH 1) fun F=>⟨K2 (CB:=CB) F TH G V0,kH F⟩
 obtain⟨_,_,c24⟩:=kM Z (eM aH lH 2) fun F=>⟨HL F TH V0 Vs,kH F⟩
 obtain⟨_,_,c25⟩:=kM Z (eM aH lH 3) fun F=>⟨HN F TH V0 Vs,kH F⟩
 obtain⟨_,_,c26⟩:=kM Z (eM aH lH 4) fun F=>⟨HM (CB:=CB) F TH G V0,kH F⟩
 obtain⟨_,_,c27⟩:=kM Z (eM aH lH 5) fun F=>⟨K8 (CB:=CB) F TH G,Qh F⟩
 obtain⟨_,_,c28⟩:=kM Z (eM aH lH 6) fun F=>⟨Ep F TH G Vr,kH F⟩
 obtain⟨_,_,c29⟩:=kM Z (eM aH lH 7) fun F=>⟨Hy (CB:=CB) F TH G,nQ F⟩
 obtain⟨_,_,c30⟩:=kM Z (eM aH lH 8) fun F=>⟨KW (CB:=CB) F TH,nQ F⟩
 obtain⟨_,_,Yg⟩:=kM Z (eM aH lH 9) fun F=>⟨Eu (CB:=CB) F TH G,nQ F⟩
 obtain⟨_,_,Yh⟩:=kM Z (eM aH lH 10) fun F=>⟨K1 (CB:=CB) F TH V0,nQ F⟩
 have LA:jr P w K mg base CB CH:=⟨TB,TH,G,V0,c1.ca,c7.ma,c8.ma,Q1.ma,c11.ma,c12.ma,c13.ma,c18.ma,c14.ma,c20.ma,c19.ma,c24.ma,c25.ma,Vs.ma,c27.ma,c29.ma,c30.ma⟩;obtain⟨_,_,c33⟩:=kM Z (eM aH lH 11) fun F=>⟨KZ F LA Vr.ca Yh.ma,nQ F⟩
 obtain⟨_,_,c34⟩:=kM Z (eM aH lH 12) fun F=>⟨Eh F TH G V0 Yg.ma,jb F⟩
 obtain⟨_,_,c35⟩:=kC Z (aU X N lG 6) fun F=>⟨Hw F LA,jb F⟩
 obtain⟨_,_,c36⟩:=kC Z (aU X N lG 7) fun F=>⟨HX F LA,jb F⟩
 obtain⟨_,_,c37⟩:=kC Z (aU X N lG 8) fun F=>⟨Lf F LA,jb F⟩
 obtain⟨_,_,c38⟩:=kC Z (aU X N lG 9) fun F=>⟨EG F LA,jb F⟩
 obtain⟨_,_,c39⟩:=kC Z (aU X N lG 10) fun F=>⟨w6 F LA,jb F⟩
 obtain⟨_,_,c40⟩:=kC Z (aU X N lG 11) fun F=>⟨wZ F LA,jb F⟩
 obtain⟨_,_,c41⟩:=kC Z (aU X N lG 12) fun F=>⟨wY F LA,jb F⟩
 obtain⟨_,_,c42⟩:=kC Z (aU X N lG 13) fun F=>⟨wX F LA,jb F⟩
 obtain⟨_,_,c43⟩:=kC Z (aU X N lG 14) fun F=>⟨Av F LA,jb F⟩
 obtain⟨aF,aK,aL,aM⟩:=N2 X N eA;have hA:Fu P w K mg base CB CH RA aF:=by
  refine⟨aK,aL,fun p f hp=> ?_⟩;have lt:p<9:=by
   rw[<-show aF.length=9 from aL];exact(aff.mp hp).1
  have q:=lt9 lt;rcases q with q|q|q|q|q|q|q|q|q<;>subst q
  .exact JB c35 (aM 0 f _ hp rfl)
  .exact JB c36 (aM 1 f _ hp rfl)
  .exact JB c37 (aM 2 f _ hp rfl)
  .exact JB c38 (aM 3 f _ hp rfl)
  .exact JB c39 (aM 4 f _ hp rfl)
  .exact JB c40 (aM 5 f _ hp rfl)
  .exact JB c41 (aM 6 f _ hp rfl)
  .exact JB c42 (aM 7 f _ hp rfl)
  .exact JB c43 (aM 8 f _ hp rfl)
 obtain⟨_,_,c44⟩:=kC Z (aU X N lG 15) fun F=>⟨HC F G mA hA,kH F⟩
 obtain⟨_,_,c45⟩:=kC Z (aU X N lG 16) fun F=>⟨O3 F mA hA,Qh F⟩
 obtain⟨_,_,Vt⟩:=kC Z (aU X N lG 17) fun F=>⟨HF F G,Yb F⟩
 obtain⟨_,_,Vu⟩:=kC Z (aU X N lG 18) fun F=>⟨Et F Vt.ca,kH F⟩
 obtain⟨_,_,Q2⟩:=kC Z (aU X N lG 19) fun F=>⟨Es F Vt.ca,kH F⟩
 obtain⟨_,_,c49⟩:=kC Z (aU X N lG 20) fun F=>⟨Ax F Vt.ca,kH F⟩
 obtain⟨_,_,c50⟩:=kC Z (aU X N lG 21) fun F=>⟨HK F G,kH F⟩
 obtain⟨wV,wK,wN,wM⟩:=Ba (P:=P) (w:=w) X N eW;have hW:zT P w K mg base RW wV:=by
  refine⟨wK,fun p hp hn=>wN p hp (nR p hp hn),fun p hp hn=> ?_⟩;have q:=yR p hp hn;rcases q with q|q|q|q|q|q<;>subst q
  .exact jE Vu (wM 0 _ (by decide) rfl)
  .exact jE Q2 (wM 1 _ (by decide) rfl)
  .exact jE Q2 (wM 2 _ (by decide) rfl)
  .exact jE Q2 (wM 8 _ (by decide) rfl)
  .exact jE c50 (wM 13 _ (by decide) rfl)
  .exact jE c49 (wM 20 _ (by decide) rfl)
 obtain⟨_,_,c51⟩:=kC Z (aU X N lG 22) fun F=>⟨Au F G mR hR mW hW,nQ F⟩
 obtain⟨_,_,Yi⟩:=kC Z (aU X N lG 23) fun F=>⟨Ew F G mR hR,kH F⟩
 obtain⟨_,_,Yj⟩:=kC Z (aU X N lG 24) fun F=>⟨HW F G mR hR,kH F⟩
 obtain⟨_,_,c54⟩:=kC Z (aU X N lG 25) fun F=>⟨Ay F G mR hR Yi.ca,kH F⟩
 obtain⟨_,_,c55⟩:=kC Z (aU X N lG 26) fun F=>⟨AA F mW hW Yj.ca,kH F⟩
 obtain⟨_,_,c56⟩:=kC Z (aU X N lG 27) fun F=>⟨Eg F c54.ca c55.ca,kH F⟩
 obtain⟨_,_,Qj⟩:=kC Z (aU X N lG 28) fun F=>⟨Ek F G,jb F⟩
 obtain⟨_,_,c58⟩:=kC Z (aU X N lG 29) fun F=>⟨SF F TB XC c7 Qj,nQ F⟩
 obtain⟨_,_,c59⟩:=kC Z (aU X N lG 30) fun F=>⟨SG F TB XC c7 Qj c5,nQ F⟩
 obtain⟨_,_,c60⟩:=kC Z (aU X N lG 31) fun F=>⟨K7 F TB c7,nQ F⟩
 obtain⟨_,_,c61⟩:=kC Z (aU X N lG 32) fun F=>⟨SH F TB XC c8 Qj,nQ F⟩
 obtain⟨_,_,c62⟩:=kC Z (aU X N lG 33) fun F=>⟨Pb F TB XC Qj c5,Qh F⟩
 obtain⟨_,_,c63⟩:=kC Z (aU X N lG 34) fun F=>⟨SI F TB c62,jb F⟩
 obtain⟨_,_,c64⟩:=kC Z (aU X N lG 35) fun F=>⟨SK F TB XC c9 Qj,jb F⟩
 obtain⟨_,_,c65⟩:=kC Z (aU X N lG 36) fun F=>⟨SJ F TB XC c9 Qj,jb F⟩
 obtain⟨_,_,c66⟩:=kC Z (aU X N lG 37) fun F=>⟨SE F c60 c58 c59 c61 c63 c64 c65,nQ F⟩
 obtain⟨_,_,Vv⟩:=kC Z (aU X N lG 38) fun F=>⟨La F TB G,kH F⟩
 obtain⟨_,_,Vw⟩:=kC Z (aU X N lG 39) fun F=>⟨Hk F mN hN,nQ F⟩
 obtain⟨_,_,c69⟩:=kC Z (aU X N lG 40) fun F=>⟨HS F Vv.ca Vw.ca,nQ F⟩
 obtain⟨_,_,c70⟩:=kC Z (aU X N lG 41) fun F=>⟨AB F TB G,jb F⟩
 obtain⟨_,_,Yk⟩:=kC Z (aU X N lG 42) fun F=>⟨Ld F TB Vv.ca Vw.ca c9.ma,kH F⟩
 obtain⟨_,_,c72⟩:=kC Z (aU X N lG 43) fun F=>⟨Hq F mN hN Yk.ca,kH F⟩
 obtain⟨_,_,c73⟩:=kC Z (aU X N lG 44) fun F=>⟨Er F G gr mU hU,kH F⟩
 obtain⟨_,_,c74⟩:=kC Z (aU X N lG 45) fun F=>⟨As F XC Vu.ca Q2.ca,nQ F⟩
 obtain⟨_,_,Vx⟩:=kC Z (aU X N lG 46) fun F=>⟨Hn F,nQ F⟩
 obtain⟨_,_,c76⟩:=kC Z (aU X N lG 47) fun F=>⟨K6 F G c73.ca Vx.ca c74.ca,nQ F⟩
 obtain⟨_,_,c77⟩:=kC Z (aU X N lG 48) fun F=>⟨O4 F G c76.ca Vx.ca,kH F⟩
 obtain⟨_,_,c78⟩:=kC Z (aU X N lG 49) fun F=>⟨Ex F LA,jb F⟩
 obtain⟨_,_,c79⟩:=kC Z (aU X N lG 50) fun F=>⟨Ey F LA,jb F⟩
 obtain⟨_,_,c80⟩:=kC Z (aU X N lG 51) fun F=>⟨Ez F LA,jb F⟩
 obtain⟨_,_,c81⟩:=kC Z (aU X N lG 52) fun F=>⟨EB F LA,jb F⟩
 obtain⟨_,_,c82⟩:=kC Z (aU X N lG 53) fun F=>⟨EA F LA,jb F⟩
 obtain⟨_,_,c83⟩:=kC Z (aU X N lG 54) fun F=>⟨EC F LA,jb F⟩
 obtain⟨_,_,c84⟩:=kC Z (aU X N lG 55) fun F=>⟨Lb F LA,jb F⟩
 obtain⟨_,_,c85⟩:=kC Z (aU X N lG 56) fun F=>⟨ED F LA,jb F⟩
 obtain⟨dV,dK,_,dM⟩:=Ba (P:=P) (w:=w) X N eD;have hD:QH P w K mg base CB RD dV:=by
  refine⟨dK,fun p hp=> ?_⟩;have q:=in8 hp.1 hp.2;rcases q with q|q|q|q|q|q|q|q<;>subst q
  .exact jE c78 (dM 1 _ (by decide) rfl)
  .exact jE c79 (dM 2 _ (by decide) rfl)
  .exact jE c80 (dM 3 _ (by decide) rfl)
  .exact jE c81 (dM 4 _ (by decide) rfl)
  .exact jE c82 (dM 5 _ (by decide) rfl)
  .exact jE c83 (dM 6 _ (by decide) rfl)
  .exact jE c84 (dM 7 _ (by decide) rfl)
  .exact jE c85 (dM 8 _ (by decide) rfl)
 obtain⟨_,_,c86⟩:=kC Z (aU X N lG 57) fun F=>⟨Hx F G mD hD Vx.ca,nQ F⟩
 obtain⟨_,_,Vy⟩:=kC Z (aU X N lG 58) fun F=>⟨Hm F G,kH F⟩
 obtain⟨_,_,Yl⟩:=kC Z (aU X N lG 59) fun F=>⟨En F,kH F⟩
 obtain⟨_,_,Ym⟩:=kC Z (aU X N lG 60) fun F=>⟨Hu F Vy,kH F⟩
 obtain⟨_,_,Yn⟩:=kC Z (aU X N lG 61) fun F=>⟨HY F Vy Yl,kH F⟩
 obtain⟨_,_,c91⟩:=kC Z (aU X N lG 62) fun F=>⟨Hv F Ym,nQ F⟩
 obtain⟨_,_,c92⟩:=kC Z (aU X N lG 63) fun F=>⟨Ia F Vy Yn,jb F⟩
 obtain⟨_,_,c93⟩:=kC Z (aU X N lG 64) fun F=>⟨O7 F Yl Vw,nQ F⟩
 obtain⟨_,_,c94⟩:=kC Z (aU X N lG 65) fun F=>⟨Az F TB G Vv c91 c92 c93,kH F⟩
 obtain⟨_,_,c95⟩:=kC Z (aU X N lG 66) fun F=>⟨HD F G XP,kH F⟩
 obtain⟨_,_,c96⟩:=kC Z (aU X N lG 67) fun F=>⟨HE F XP c95.ca,kH F⟩
 obtain⟨_,_,c97⟩:=kC Z (aU X N lG 68) fun F=>⟨O5 F G XP Ym.ca Vu.ca,nQ F⟩
 obtain⟨_,_,c98⟩:=kC Z (aU X N lG 69) fun F=>⟨O9 F G XP Yn.ca c96.ca Q2.ca,jb F⟩
 obtain⟨_,_,c99⟩:=kC Z (aU X N lG 70) fun F=>⟨HH F XP,kH F⟩
 obtain⟨_,_,U7⟩:=kC Z (aU X N lG 71) fun F=>⟨Le F G XP c99.ca c97.ca c98.ca,kH F⟩
 have LT:kF P w K mg base CB CH:=⟨LA,Vr.ca,c94.ca,c66.ca,c69.ca,c70.ca,Yk.ca,c72.ca,c77.ca,c86.ca,U7.ca,c26.ma,c28.ma,Yg.ma,Yh.ma,c33.ma,c34.ma,c9.ma⟩;obtain⟨_,_,U8⟩:=kC Z (aU X N lG 72) fun F=>⟨Aw F LT,jb F⟩
 obtain⟨_,_,U9⟩:=kC Z (aU X N lG 73) fun F=>⟨EH F LT,jb F⟩
 obtain⟨_,_,Va⟩:=kC Z (aU X N lG 74) fun F=>⟨Ho F LT,jb F⟩
 obtain⟨_,_,Vb⟩:=kC Z (aU X N lG 75) fun F=>⟨KY F LT,jb F⟩
 obtain⟨_,_,Vc⟩:=kC Z (aU X N lG 76) fun F=>⟨EE F LT,jb F⟩
 obtain⟨_,_,Vd⟩:=kC Z (aU X N lG 77) fun F=>⟨K9 F LT,jb F⟩
 obtain⟨_,_,Ve⟩:=kC Z (aU X N lG 78) fun F=>⟨HR F LT,jb F⟩
 obtain⟨_,_,Vf⟩:=kC Z (aU X N lG 79) fun F=>⟨Ej F LT,jb F⟩
 obtain⟨_,_,Vg⟩:=kC Z (aU X N lG 80) fun F=>⟨Lc F LT,jb F⟩
 obtain⟨_,_,Vh⟩:=kC Z (aU X N lG 81) fun F=>⟨Hr F LT,jb F⟩
 obtain⟨_,_,Vi⟩:=kC Z (aU X N lG 82) fun F=>⟨Ei F LT,jb F⟩
 obtain⟨_,_,Vj⟩:=kC Z (aU X N lG 83) fun F=>⟨El F LT,jb F⟩
 obtain⟨_,_,Vk⟩:=kC Z (aU X N lG 84) fun F=>⟨K0 F LT,jb F⟩
 obtain⟨_,_,Vl⟩:=kC Z (aU X N lG 85) fun F=>⟨HG F LT,jb F⟩
 obtain⟨_,_,Vm⟩:=kC Z (aU X N lG 86) fun F=>⟨HZ F LT,jb F⟩
 obtain⟨_,_,Vn⟩:=kC Z (aU X N lG 87) fun F=>⟨EK F LT,jb F⟩
 obtain⟨tV,tK,_,tM⟩:=Ba (P:=P) (w:=w) X N eT;have hT:Mo P w K mg base CB CH RT tV:=by
  refine⟨tK,fun p h1 h2=> ?_⟩;have q:=W6 h1 h2;rcases q with(q|q|q|q|q|q|q|q)|q|q|q|q|q|q|q|q<;>subst q
  .exact mj U8 (tM 9 _ (by decide) rfl)
  .exact mj U9 (tM 10 _ (by decide) rfl)
  .exact mj Va (tM 11 _ (by decide) rfl)
  .exact mj Vb (tM 12 _ (by decide) rfl)
  .exact mj Vc (tM 13 _ (by decide) rfl)
  .exact mj Vd (tM 14 _ (by decide) rfl)
  .exact mj Ve (tM 15 _ (by decide) rfl)
  .exact mj Vf (tM 16 _ (by decide) rfl)
  .exact mj Vg (tM 17 _ (by decide) rfl)
  .exact mj Vh (tM 18 _ (by decide) rfl)
  .exact mj Vi (tM 19 _ (by decide) rfl)
  .exact mj Vj (tM 20 _ (by decide) rfl)
  .exact mj Vk (tM 21 _ (by decide) rfl)
  .exact mj Vl (tM 22 _ (by decide) rfl)
  .exact mj Vm (tM 23 _ (by decide) rfl)
  .exact mj Vn (tM 24 _ (by decide) rfl)
 obtain⟨_,_,Vo⟩:=kC Z (aU X N lG 88) fun F=>⟨Hl F LA mB hB,jb F⟩
 obtain⟨_,_,Vp⟩:=kC Z (aU X N lG 89) fun F=>⟨Lh F V0 mT hT Vo.ca,Qh F⟩
 obtain⟨_,_,Vq⟩:=kC Z (aU X N lG 90) fun F=>⟨KU F V0 c56.ca c44.ca Yi.ca Yj.ca c45.ca Vp.ca,nQ F⟩
 have MH:Mk K CH _:=⟨mkH,TR.me.cG,TR.me.fn,kcH⟩;exact Ar FA G TH MH TR.ok TR.bi c51.ca Vq.ca
theorem Kd(h:agg):Frag.In (Aa h) h:=by
 intro a o e;have m:(a,o)∈Aa h:=by
  revert e;generalize Aa h=l
  induction l with
  |nil=>intro e;cases e
  |cons y l ih=>
   intro e;obtain⟨b,p⟩:=y;rw[aht]at e;split at e
   .rename_i q;cases e;rw[ajr.mp q];exact af5
   .exact afu _ (ih e)
 unfold Aa at m;rw[List.mem_reverse,aj9]at m;obtain⟨⟨o1,b⟩,h1,h2⟩:=m;obtain⟨o2,h3,h4⟩:=ai7.mp h2;cases h4;have h5:=List.mem_zipIdx_iff_getElem?.mp h1;rw[ale]at h5;unfold Heap.get?;rw[h5];revert h3;obtain⟨c,d,dt,sl⟩:=o1;cases dt<;>intro h3<;>first|exact h3|cases h3
end
end FE
open PySem PySem.W PyProof.Rows
theorem PySem.Challenge.cw_frozeneditions_s01_answers_holds : PySem.Challenge.rw_frozeneditions_s01_answers.Holds := by
 refine holds_os (q:=FE.vq FE.pw) (loose:=FE.lo) (Xt:=FE.Xt FE.pw) (XP:=XL (FE.vq FE.pw) []) (Yf:=FE.Yf) (Ya:=fun _=>FE.r8) (YP:=fun _ h=>∃K:Frag,FE.rX K=FE.r8/\K.In h) (d:=FE.dA) (kwd:=[]) (N:=12000) FE.left (fun w s e=>⟨FE.Aa s.heap,e,FE.Kd _⟩) (fun w h h' ⟨K,e,k⟩ f=>⟨K,e,fun a o q=>f a o (k a o q)⟩) (fun s e=>xl_of s (Bool.and_eq_true_iff.mp e).1) XL.keeps FE.h1 FE.h2 FE.h3 (fun s e=>recFacts_of (Bool.and_eq_true_iff.mp e).2) os_shapes FE.h4 FE.h5 FE.h6 FE.h7 ?_
 intro w s₀ s₁ mg mb G ⟨K,e,KX⟩
 refine L2.Bf (K:=fun _=>K) (YP:=fun _ h=>K.In h) (r:=PySem.Challenge.rw_frozeneditions_s01_answers) (k:=9) (CX:=L2.bX) (ps:=["calls"]) (sp:=FE.mh) FE.h4 rfl rfl ⟨rfl,by decide,by decide⟩ (fun w h Y=>Y) ?F ?S (fun _ _ _ _ z=>z) w s₀ s₁ mg mb G KX
 case F=>
  intro w mg fa h Y KX G Wy
  exact FE.N4 KX G Wy e
 case S=>
  intro K H xs a hO Um Ov hx
  cases hx with
  |cons h1 h2=>
   cases h2
   cases h1 with
   |ba hs ha=>
    have e:=L2.Cg a.1 _ ha
    subst e
    have q:((Codec.inLen 0 17000 a.1&&a.1.all (Codec.inInt (-1000000000000000000) 1000000000000000000))&&true)=true:=Um
    rw[Bool.and_eq_true,Bool.and_eq_true]at q
    exact⟨_,a.1,rfl,hs,Ov,(Codec.inNat_iff.mp q.1.1).2,fun H' p hp=> .ba (L2.aJ.of hp) (L2.BV _)⟩
