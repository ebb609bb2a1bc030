import PyProof.Rows.All
import Wide.All
import OpenK.AllK
import Wide.FinOn
import Lean
import PyProof.EqAt
import PyProof.EqKinds
import PyProof.TupleCall
import KE.KSortTup
import KE.KPairComp
import PyProof.P3Eq
import PyProof.DictWalks
import PyProof.StationsW
import PyProof.ExcClass2
import PyProof.ExcBaseAll.ValueError
import PyProof.RulesTry
import PyProof.RulesAs
import PyProof.NsDelKeeps
import PyProof.ExcAttrAll.ValueError
import KE.KIsAll
import PyProof.ReprRoads
import KE.KRevIter
import KE.IntBitsLaws
import PySem.Challenge.RW_farjump_k32_where_parts_begin
set_option Elab.async false
set_option linter.all false
set_option tactic.hygienic false
set_option compiler.extract_closed false
set_option genSizeOfSpec false
set_option maxRecDepth 100000
set_option maxHeartbeats 4000000
def zE1{A:Sort _}{p:A->Prop}{G:Prop}(h:∃a,p a)(k:∀a,p a->G):G:=h.elim k
def zE2{A:Sort _}{B:Sort _}{p:A->B->Prop}{G:Prop}(h:∃a b,p a b)(k:∀a b,p a b->G):G:=zE1 h λa h=>zE1 h (k a)
def zE3{A:Sort _}{B:Sort _}{C:Sort _}{p:A->B->C->Prop}{G:Prop}(h:∃a b c,p a b c)(k:∀a b c,p a b c->G):G:=zE1 h λa h=>zE2 h (k a)
def zE4{A:Sort _}{B:Sort _}{C:Sort _}{D:Sort _}{p:A->B->C->D->Prop}{G:Prop}(h:∃a b c d,p a b c d)(k:∀a b c d,p a b c d->G):G:=zE1 h λa h=>zE3 h (k a)
def zE5{A:Sort _}{B:Sort _}{C:Sort _}{D:Sort _}{E:Sort _}{p:A->B->C->D->E->Prop}{G:Prop}(h:∃a b c d e,p a b c d e)(k:∀a b c d e,p a b c d e->G):G:=zE1 h λa h=>zE4 h (k a)
def zE6{A:Sort _}{B:Sort _}{C:Sort _}{D:Sort _}{E:Sort _}{F:Sort _}{p:A->B->C->D->E->F->Prop}{G:Prop}(h:∃a b c d e f,p a b c d e f)(k:∀a b c d e f,p a b c d e f->G):G:=zE1 h λa h=>zE5 h (k a)
def zA2{p q G:Prop}(h:p/\q)(f:p->q->G):G:=f h.1 h.2
def zA3{p q r G:Prop}(h:p/\q/\r)(f:p->q->r->G):G:=zA2 h.2 (f h.1)
def zA4{p q r s G:Prop}(h:p/\q/\r/\s)(f:p->q->r->s->G):G:=zA3 h.2 (f h.1)
def zA5{p q r s t G:Prop}(h:p/\q/\r/\s/\t)(f:p->q->r->s->t->G):G:=zA4 h.2 (f h.1)
def zA6{p q r s t u G:Prop}(h:p/\q/\r/\s/\t/\u)(f:p->q->r->s->t->u->G):G:=zA5 h.2 (f h.1)
def zA7{p q r s t u v G:Prop}(h:p/\q/\r/\s/\t/\u/\v)(f:p->q->r->s->t->u->v->G):G:=zA6 h.2 (f h.1)
def zA8{p q r s t u v w G:Prop}(h:p/\q/\r/\s/\t/\u/\v/\w)(f:p->q->r->s->t->u->v->w->G):G:=zA7 h.2 (f h.1)
def zA9{p q r s t u v w x G:Prop}(h:p/\q/\r/\s/\t/\u/\v/\w/\x)(f:p->q->r->s->t->u->v->w->x->G):G:=zA8 h.2 (f h.1)
def zA10{p q r s t u v w x y G:Prop}(h:p/\q/\r/\s/\t/\u/\v/\w/\x/\y)(f:p->q->r->s->t->u->v->w->x->y->G):G:=zA9 h.2 (f h.1)
def zI2{A:Sort _}{B:Sort _}{p:A->B->Prop}(a:A)(b:B)(h:p a b):∃a b,p a b:=⟨a,b,h⟩
def zI3{A:Sort _}{B:Sort _}{C:Sort _}{p:A->B->C->Prop}(a:A)(b:B)(c:C)(h:p a b c):∃a b c,p a b c:=⟨a,b,c,h⟩
def zI4{A:Sort _}{B:Sort _}{C:Sort _}{D:Sort _}{p:A->B->C->D->Prop}(a:A)(b:B)(c:C)(d:D)(h:p a b c d):∃a b c d,p a b c d:=⟨a,b,c,d,h⟩
def zI5{A:Sort _}{B:Sort _}{C:Sort _}{D:Sort _}{E:Sort _}{p:A->B->C->D->E->Prop}(a:A)(b:B)(c:C)(d:D)(e:E)(h:p a b c d e):∃a b c d e,p a b c d e:=⟨a,b,c,d,e,h⟩
open Lean in
local macro_rules
|`(tactic|rcases $h:ident with ⟨$ps,*⟩)=>`(tactic|obtain ⟨$ps,*⟩:=$h)
|`(tactic|rintro $rs:rintroPat*)=>do
 let l:=rs[rs.size-1]!.raw[0]
 unless l.isOfKind ``Parser.Tactic.rcasesPat.tuple do Macro.throwUnsupported
 let p:TSyntax `rcasesPat:=⟨l⟩
 let z:=mkIdent (<-Macro.addMacroScope `zz)
 let r:=rs.pop
 if r.size==0 then `(tactic|(intro $z:ident;obtain $p:rcasesPat := $z)) else `(tactic|(rintro $r*;intro $z:ident;obtain $p:rcasesPat := $z))
|`(tactic|exact ⟨$es,*⟩)=>do if es.getElems.size<3 then Macro.throwUnsupported else `(tactic|refine ⟨$es,*⟩)
|`(tactic|refine ⟨$es,*⟩)=>do
 let es:=es.getElems
 let n:=es.size
 if n<3 then Macro.throwUnsupported
 let m:=min 5 (n-1)
 let mut al:Array (TSyntax `tactic):=#[]
 for z in [0:m-1] do
  let i:=m-z
  let r:=es[i:n].toArray
  let q<-if r.size==1 then pure r[0]! else `(⟨$r,*⟩)
  al:=al.push (<-`(tactic|refine $(mkIdent (.mkSimple s!"zI{i}")) $(es[0:i].toArray)* $q))
 `(tactic|first $[|$al:tactic]*)
|`(tactic|obtain ⟨$ps,*⟩:=$h:term)=>do
 let ps:=ps.getElems
 let n:=ps.size
 if n<2 then Macro.throwUnsupported
 let nw(s:String):MacroM Ident:=do return mkIdent (<-Macro.addMacroScope (.mkSimple s))
 let sh(q:Syntax):String:=(q.reprint.getD "").trimAscii.toString
 unless h.raw.isIdent||((sh h.raw).splitOn "by").length==1 do
  let t<-nw "zz"
  return <-`(tactic|(have $t := $h;obtain ⟨$ps,*⟩:=$t))
 let h:Ident:=⟨h.raw⟩
 let mut bs:Array Ident:=#[]
 let mut mo:Array (Option (TSyntax `tactic)):=#[]
 for i in [0:n] do
  let q:=ps[i]!.raw
  let o:=(q.find? λs=>s.isOfKind ``Parser.Tactic.rcasesPat.one).getD .missing
  if sh o==sh q&&sh q != "rfl" then
   bs:=bs.push ⟨o[0]⟩
   mo:=mo.push none
  else
   let x<-nw s!"x{i}"
   bs:=bs.push x
   if sh q=="_" then mo:=mo.push none
   else
    let p:TSyntax ``Parser.Tactic.rcasesPatMed:=⟨q[0]⟩
    mo:=mo.push (some (<-`(tactic|obtain $p:rcasesPatMed := $x)))
 let t<-nw "xx"
 let y<-nw "yy"
 let mut al:Array (TSyntax `tactic):=#[]
 let k:=((List.range n).find? λi=>((sh ps[i]!.raw).splitOn "rfl").length>1).getD n
 for (c,m) in [("zE",min 6 (n-1)),("zA",min 10 n-1)] do
  let m:=min m (k+1)
  for z in [0:m] do
   let i:=m-z
   let w:=i+1==n&&k+1>=n
   let mut ws:Array (TSyntax ``binderIdent):=#[]
   let mut hit:=false
   let mut g:Array Ident:=#[]
   for x in if w then bs else bs[0:i].toArray.push t do
    if x.getId==h.getId then
     hit:=true
     ws:=#[<-`(binderIdent|$x:ident)]
     g:=g.push y
    else
     if x.getId.hasMacroScopes then ws:=ws.push (<-`(binderIdent|_))
     g:=g.push x
   let mut s:Array (TSyntax `tactic):=#[<-`(tactic|refine $(mkIdent (.mkSimple s!"{c}{if c=="zE" then i else i+1}")) $h fun $g* => ?_)]
   if h.raw.isIdent then s:=s.push (<-`(tactic|try clear $h))
   if hit then s:=s.push (<-`(tactic|rename_i $ws*))
   for j in [0:if w then n else i] do
    if let some y:=mo[j]! then s:=s.push y
   unless w do
    let r:=ps[i:n].toArray
    if r.size==1 then
     s:=s++#[<-`(tactic|have $(bs[n-1]!) := $t),<-`(tactic|clear $t)]
     if let some y:=mo[n-1]! then s:=s.push y
    else s:=s.push (<-`(tactic|obtain ⟨$r,*⟩:=$t))
   al:=al.push (<-`(tactic|($[$s:tactic];*)))
 `(tactic|first $[|$al:tactic]*)
noncomputable section
open Option renaming some->aa,none->ar,isSome_iff_exists->cY,isSome_map->gL
open PySem renaming wpAny_bind->ae,Value->ai,Shared->av,Addr->aw,wpAny_pure->ay,Heap->aC,sizeLine->aO,Str->aY,Program->bc,mainGlobals->bf,starEach->bg,sizeLine_eq->bp,Around->bH,Expr->bI,World->bJ,Builtin->bM,wpAny_holding->bR,bootBuiltins->bS,sysModules->b9,wpAny_mono->cm,wpAny_truthy_bool->cy,wpAny_field->cA,Obj->cB,wpAny_call_entry->cD,wpAny_Call_Name_kw->cR,Stmt->cZ,foldedSetIterable->de,wpAny_callSpecial?_slot->df,Scope->dj,codeAny_mono->dm,backTo->du,wpAny_seqItems->dz,PyData->dA,bindArgs->dI,NameKind->dJ,wpAny_pyIter_list->dL,attributeBase->dP,valueAt->dS,FuncData->dY,IsPair->d7,Pos->eB,cLine->eC,strIterType->eD,assignEach->eG,tupleKind_room_in1->eI,wpAny_setField_rec->eK,wpAny_passesOwn->eN,swapsWith->eO,wpAny_dictEntries->eV,excClassObj->fe,wpAny_newList->fu,wpAny_call->fH,wpAny_pyIter_tuple->fJ,keywordEach->fM,wpAny_setField->fX,call_meets->gu,TriplesOk->gv,sliceBounds->gD,wpAny_execs_nil->gK,wpAny_specialOf->gM,codeAny_builtin->gO,wpAny_isSubtype_exc->gR,call_meetsIn->gS,PassesOwn->gY,rawInt->ahZ,wpAny_rule->ah0,wpAny_newObj_type->ah9,Draws->aia,IsZip->aib,wpAny_loadPart_at->aid,Env->aie,wpAny_standAt->aih,wpAny_attempt->aii,tupleKind->aiq,codeAmong->air,Keyword->aix,getItem->aiy,wpAny_updateSeq_pair->aiB,wpAny_letGo->aiC,wpAny_newTuple->aiD,codeAny_call_builtin->aiF,scanBound->aiI,behindInMarks->aiK,wpAny_onRaise->aiL,plainId_quiet->aiM,typeLookup->aiN,closureFor->aiO,findBy_of_findIdx?->aiP,slot_dict_contains->aiQ,Walks->aiR,BindsTo->aiS,backToKw->aiT,wpAny_typeOf->aiU,callerA->aiV,GenState->ai0,IsPart->ai1,Arguments->ai2,wpAny_isInstance->ai3,notedBy->ai5,ItemsOf->ai6,wpAny_richCompare_same_room->ai7,Operator->ai8,pyIter->ai9,wpAny_newFunctionEnv_cells->aja,fitsIndex_both->ajb,dictSetDefault->ajg,preSum->ajh,wpAny_comprehension_free->aji,lastMarks->ajk,cellsFrom->ajl,atKey->ajm,seqIndex?->ajn,setFlight->ajo,noteFrame->ajp,isTrue->ajq,Result->ajr,ExcBaseFacts->ajy,wpAny_notOrdered_dict->ajz,wpAny_loadName_local->ajA,bindL->ajB,bindC->ajC,wpAny_letTemporaryGo->ajD,getAttr?->ajE,wpAny_loadName_cell->ajF,builtinsNs->ajG,wpAny_Name->ajH,findBy->ajI,typeIs_str->ajJ,typeIs_int->ajK,getattributeRaised->ajL,defaultsOf->ajM,isInstance->ajN,standAt->ajO,wpAny_assign_Name->ajP,wpAny_sequenceKey->ajQ,slot_list_getitem->ajR,wpAny_pyIter_strU->ajS,wpAny_pyIter_enum->ajT,dictGet->ajU,slot_dict_getitem->ajV,callAny->ajW,wpAny_dictFind_of->ajX,OsState->ajY,wpAny_pyHash_str->ajZ,wpAny_eqBool_str->aj0,storeName->aj1,wpAny_execs_cons->aj2,inplaceOp->aj3,getMethod->aj4,noFill_tuple_add->aj5,wpAny_pyIter_zip->aj6,wpAny_operating->aj7,codeAny_of_tree->aj9,wpAny_dictEpoch->aka,wpAny_ite_split->akb,Tok->akc,Drawn->akd,wpAny_loadPart->ake,recursionLimit->akf,letTemporaryGo->akh,Moved->akj,callType_codes->akk,swapsWithSole->akl,swappedStores->akm,intBits_le_64->akn,seq_tuple_add->ako,call_list_seq->akp
open Bool renaming true->ag,false->au,false_ne_true->aS,and_eq_true->aZ,false_eq_true->dX,eq_iff_iff->d9
open PySem.Heap renaming get?_push_of_some->aj,lt_size->aM,get?_push_size->aP,SameBut->bO,size_push->ci,get?_update_other->cz,get?_none_of_le->cE,get?_update_self->cX,get?_update_ne->gy,get?_push_ne->gX,size_update->ah7
open List renaming getElem?_eq_some_iff->ak,length_map->ao,getElem?_eq_getElem->ax,mem_cons_of_mem->aB,length_append->aE,mem_cons->aH,getElem?_set_ne->aJ,mem_cons_self->aN,size_toArray->aR,length_cons->aU,prefix_refl->aV,getElem?_append_left->aX,map_append->ba,getElem?_map->bh,append_assoc->bi,mem_singleton->bj,getElem?_set_self->bn,map_cons->bq,mem_append->bt,append_nil->bu,getD_eq_getElem?_getD->bv,map_map->bx,mem_of_getElem?->bA,mem_append_right->bL,filter_cons->bN,mem_map->bP,all_eq_true->bT,not_mem_nil->bU,mem_append_left->bV,replicate->bW,length_nil->ck,range->cx,length->cG,length_zip->cJ,getElem?_zip_eq_some->cK,mem_iff_getElem?->cN,prefix_append->cO,zip_cons_cons->cQ,getElem?_append_right->cT,length_range->cU,any_cons->c6,zipWith->c7,length_set->c9,cons_ne_nil->di,pairwise_cons->dk,length_singleton->dn,nodup_cons->dw,nodup_append->dB,length_take->dM,length_drop->dN,lookup_cons->dO,zipWith_cons_cons->dW,nil_append->eA,getElem?_eq_none->eF,flatMap_cons->eL,nodup_nil->eP,getElem_inj->eQ,cons_append->eU,pairwise_iff_getElem->eY,map_congr_left->eZ,Pairwise->fh,length_zipIdx->fj,getElem?_inj->fE,take_of_length_le->fF,getElem_mem->fP,map_snd_zip->fQ,all_cons->fU,lookup->fY,mem_filter->gf,of_mem_zip->gg,filterMap_cons->gk,length_zipWith->gw,map_nil->gz,mem_range->gF,set_cons_succ->gG,filter_append->gJ,reverse_cons->gU,not_lt->gW,map_drop->aeF,length_eq_zero_iff->ah4,Perm->ah6,toArray->aic,forIn_cons->aig,getElem?_zipWith->ail,length_filter_le->ain,mem_zipIdx_iff_le_and_getElem?_sub->aiu,getElem?_mapIdx->aiw
open Nat renaming le_of_ble_eq_true->aq,le_refl->aD,ne_of_lt->bd,lt_of_lt_of_le->bw,zero_le->bD,le_trans->bG,zero_add->bQ,le_succ->cw,lt_irrefl->cC,lt_succ_of_lt->cV,ne_of_gt->dh,le_of_lt->dF,lt_of_le_of_lt->d6,le_succ_of_le->eM,lt_succ_self->eW,add_sub_cancel_left->ft,succ_le_succ->fV,le_of_eq->gB,lt_trans->gC
open Prod renaming fst->aQ,snd->dD
open PySem.Value renaming ref->bE,none->cL,type->c8,isStrOf->d8,isInt->aip
open Option.some renaming inj->bF
open PySem.Obj renaming mapSeq->bX,data_mapFields->c5,mapFields->dH,isFreed_of_fields->eJ
open PySem.SeqAt renaming EqAt->bY,readOf->ah8
open Array renaming length_toList->bZ,getElem?_toList->cj,getElem?_eq_some_iff->cS,getElem?_eq_getElem->dq
open Ne renaming symm->b8
open PyProof.Rows renaming seqObj->cb,callWith_type1->cM,StrsAre->cW,listUpdate_at->dR,envOfC->dZ,slot_tuple_getitem->fg,get?_update_seq->fD,AllBare->fR,seqEpoch_at->gE,strKind->hG,size_push'->ah1,arrOf->ah2,SortedToK->ais,wpS_bind->ait,step_dedup->aiz,entry_list_sort->aiA,slot_list_sort->aiE,pendingOf->aiG,pairsOf->aiH,IsTup->aiJ,plain_sorted->aiW,entry_sorted->aiX,listItems_at->aiY,pairsOf_size->aiZ,kind_sorted->ai4,args_list_sort->ajc,wpS_pure->ajd,failedOf->aje,setPending->ajf,strKind_oneLt->ajj,subscriptTail_builtinR->ajs,IntsAre->ajt,sortedS->aju,args_sorted1->ajv,keyKind_strs->ajw,collect_list->ajx,list_sort_plain->aj8,slicePart_none->akg,sortedHeap_old->aki,sortedHeap_at->akq
open Int renaming eq_ofNat_of_zero_le->cn,emod_nonneg->aio
open False renaming elim->cu
open PySem.Heap.SameBut renaming update->cI
open Sum renaming inr->dg
open True renaming intro->dG
open PySem.Builtin.SmallTypes renaming nextOf->dQ,ownedTupleIsFree->dU
open PySem.NameKind renaming free->eS
open PySem.AutoSeq1 renaming wpAny_loadPart'->eT
open PySem.F renaming slot_tuple_iterator_next->eX,slot_zip_next->aiv
open PySem.Builtin.List renaming listExtendWith->fN,listFitsIndex->fO,listTooLong->gj
open PySem.Builtin.Slice renaming slicePlaces->fS
open List.Perm renaming refl->fZ
open PySem.Builtin.Str renaming occurrences->gA
open PySem.Builtin.Dict renaming samePairs->gH
open PySem.Calls renaming call_function_entry->gN
open Or renaming inr->gQ,inl->ah3
open ForInStep renaming yield->gZ
open PyProof.Rows.F renaming entry_set_update_loop->g8,plain_set_update_loop->g9
open PySem.PyData renaming strOk->ah5
open List.Pairwise renaming nil->aif,map->aik
open PySem.Str renaming ofString->aij
open PySem.W renaming Frag->af,findIn->aF,kitOne->bb,nsIn->bz,mg_of->cP,mg_none_of->dt,fnOf->dy,keepIn->dV
section
open PySem PySem.Spec PyProof.Rows
abbrev cr:="list"
abbrev ej:="tuple"
abbrev eu:="thing"
abbrev ew:="_law_draws_here"
abbrev eH:="self"
abbrev eR:="told"
abbrev fi:="dict"
abbrev fk:="__debug__"
abbrev fq:="set"
abbrev fv:="parts"
abbrev fw:="int"
abbrev fx:="str"
abbrev fy:="border"
abbrev gc:="by_name"
abbrev gr:="numbers"
abbrev hB:="bool"
abbrev hD:="sorted"
abbrev hH:="rows"
abbrev hJ:="table"
abbrev hY:="<lambda>"
abbrev ic:="asked"
abbrev im:="goes_on"
abbrev iv:="zip"
abbrev ix:="words"
abbrev jm:="_law_marks"
abbrev jE:="enumerate"
abbrev kf:="object.__class__"
abbrev kv:="_law_most"
abbrev ky:="_law_rows"
abbrev kz:="__init__"
abbrev la:="_law_parts_here"
abbrev lj:="box"
abbrev ll:="mark"
abbrev lw:="things"
abbrev ly:="name"
abbrev lB:="bare"
abbrev lP:="base"
abbrev ma:="_law_k"
abbrev me:="__name__"
abbrev mm:="BaseException"
abbrev mo:="reversed"
abbrev mr:="range"
abbrev mu:="type.__call__"
abbrev mv:="len"
abbrev mU:="word"
abbrev nb:="marks"
abbrev ng:="_law_next"
abbrev nk:="object"
abbrev nn:="jumpby"
abbrev nu:="part"
abbrev nN:="_law_row"
abbrev nP:="jump"
abbrev nR:="places"
abbrev nX:="layout"
abbrev oi:="_law_script"
abbrev oj:="__class__"
abbrev ol:="isinstance"
abbrev oo:="number"
abbrev ov:="alike"
abbrev oD:="jumpif"
abbrev oH:="load"
abbrev pa:="form"
abbrev pd:="_law_cell"
abbrev pe:="ValueError.__new__"
abbrev pj:="stop"
abbrev pr:="call"
abbrev pu:="_law_some"
abbrev px:="_law_at"
abbrev py:="_law_kind"
abbrev qa:="NoneType"
abbrev qb:="list_reverseiterator"
abbrev qe:="back"
abbrev qq:="is_whole"
abbrev qs:="MarkRow"
abbrev qx:="place"
abbrev ra:="_law_many"
abbrev rb:="__get__"
abbrev rh:="getset_descriptor.__get__"
abbrev rk:="is_word"
abbrev rl:="_law_draws"
abbrev ro:="_law_border"
abbrev sm:="_law_base"
abbrev tj:="_law_layout"
abbrev tK:="__classdict__"
abbrev tO:="__setattr__"
abbrev tP:="object.__setattr__"
abbrev tS:="tuple_iterator"
abbrev ua:="ValueError"
abbrev uc:="ValueError.__init__"
abbrev vl:="code_row"
abbrev vp:="counts_as_mark"
abbrev vr:="marks_among"
abbrev vu:="others_among"
abbrev vv:="first_but_marks"
abbrev vx:="strong_parts"
abbrev vI:="without_marks"
abbrev vT:="at_place"
abbrev wg:="let_by"
abbrev wh:="look_at_border"
abbrev wk:="starts_of"
abbrev wr:="starts"
abbrev xC:="_law_cell_at"
abbrev xH:="_law_name"
abbrev yQ:="_law_sort"
abbrev za:="_law_without"
abbrev zb:="_law_lengths"
abbrev zl:="dict_itemiterator"
abbrev uaa:="Exception"
abbrev uab:="__getattribute__"
abbrev uac:="is_list_of"
abbrev uad:="NumbersRow"
abbrev uae:="are_parts"
abbrev uaf:="look_behind_rows"
abbrev uag:="looked_at"
abbrev uah:="marks_of_part"
abbrev uai:="look_for_twice"
abbrev uaj:="places_in"
abbrev uak:="bare_rows"
abbrev ual:="may_aim_at"
abbrev uam:="look_at_aims"
abbrev uan:="look_at_base"
abbrev uao:="least_layout"
abbrev uap:="_law_found"
abbrev uaq:="_law_more"
abbrev uar:="_law_ends"
abbrev uas:="_law_code"
abbrev uat:="_law_block"
abbrev uau:="_law_skeleton"
abbrev uav:="_law_kinds"
abbrev uaw:="_law_pick"
abbrev uax:="_law_name_here"
abbrev uay:="_law_aimed"
abbrev uaz:="_law_cells"
abbrev uaA:="_law_parts"
abbrev uaB:="_law_bare"
abbrev uaC:="_law_refused"
abbrev uaD:="dict_reverseitemiterator"
abbrev uaE:="odict_iterator"
abbrev uaF:="itertools.zip_longest"
abbrev uaG:="itertools.pairwise"
abbrev uaH:="str_ascii_iterator"
abbrev uaI:="dict.update.loop"
abbrev uaJ:="BaseException.__getattribute__"
abbrev uaK:="GREATEST_NUMBER"
abbrev uaL:="MOST_ROWS_OF_PART"
abbrev uaM:="GREATEST_BORDER"
abbrev uaN:="CodeRow.goes_on"
abbrev uaO:="LastRow.goes_on"
abbrev uaP:="AlikeRow.asked"
abbrev uaQ:="LeaveRow.goes_on"
abbrev uaR:="TableRow.asked"
abbrev uaS:="list_reverseiterator.__length_hint__"
abbrev uaT:="abcdefghijklmnopqrstuvwxyz"
namespace L2
abbrev Key:=Sum Int aY
noncomputable def A1:Key->ai->Bool
 |.inl k,v=>aip k v
 |.inr x,v=>d8 x v
noncomputable def agm(w:bJ):Key->Int
 |.inl k=>hashInt k
 |.inr x=>hashStr w x
theorem jS:∀{k:Key} {v:ai},A1 k v=ag->(∃i t,k=Sum.inl i/\v=ai.int i t)\/(∃x t,k=dg x/\v=ai.str x t)
 |.inl i,v,h=>by obtain⟨t,e⟩:=ai.isInt_shape h;exact .inl ⟨i,t,rfl,e⟩
 |.inr x,v,h=>by obtain⟨t,e⟩:=ai.isStrOf_shape h;exact .inr ⟨x,t,rfl,e⟩
def Od(i:Int)(t:akc):A1 (.inl i) (.int i t)=ag:=by simp[A1,aip]
def Oe(x:aY)(t:akc):A1 (.inr x) (.str x t)=ag:=by simp[A1,d8]
def ZR(a b:Int):decide ((Sum.inl a:Key)=Sum.inl b)=(a==b):=by
 by_cases e:a=b
 .subst e;simp
 .have h:¬(Sum.inl a:Key)=Sum.inl b:=λq=>e (Sum.inl.inj q);rw[decide_eq_false h];exact(beq_eq_false_iff_ne.mpr e).symm
def ZS(a b:aY):decide ((dg a:Key)=dg b)=decide (a=b):=by
 by_cases e:a=b
 .simp
 .have h:¬(dg a:Key)=dg b:=λq=>e (dg.inj q);rw[decide_eq_false h,decide_eq_false e]
def ZT(a:Int)(b:aY):decide ((Sum.inl a:Key)=dg b)=au:=decide_eq_false (λq=>nomatch q)
def ZU(a:aY)(b:Int):decide ((dg a:Key)=Sum.inl b)=au:=decide_eq_false (λq=>nomatch q)
noncomputable def iM(prog:bc)(w:bJ):PySem.KeyKind prog w Key where
 is:=A1
 hash:=agm w
 inj:=λv a b ha hb=>by
  rcases jS ha with⟨i,t,rfl,rfl⟩|⟨x,t,rfl,rfl⟩
  .rcases jS hb with⟨j,u,rfl,e⟩|⟨y,u,rfl,e⟩
   .injection e with e1 _;rw[e1]
   .exact nomatch e
  .rcases jS hb with⟨j,u,rfl,e⟩|⟨y,u,rfl,e⟩
   .exact nomatch e
   .injection e with e1 _;rw[e1]
 byValue:=λk v h=>by rcases jS h with⟨i,t,rfl,rfl⟩|⟨x,t,rfl,rfl⟩<;>rfl
 pyHash:=λc h=>by
  rcases jS c with⟨i,t,rfl,rfl⟩|⟨x,t,rfl,rfl⟩
  .exact wpAny_pyHash_int h
  .exact ajZ h
 eqBool:=λf c h=>by
  rcases jS f with⟨i,t,rfl,rfl⟩|⟨x,t,rfl,rfl⟩
  .rcases jS c with⟨j,u,rfl,rfl⟩|⟨y,u,rfl,rfl⟩
   .rw[ZR] at h;exact wpAny_eqBool_int h
   .rw[ZT] at h;exact bY.int_str i t y u _ _ _ _ h
  .rcases jS c with⟨j,u,rfl,rfl⟩|⟨y,u,rfl,rfl⟩
   .rw[ZU] at h;exact bY.str_int x t j u _ _ _ _ h
   .rw[ZS] at h;exact aj0 h
 «strs»:=λk x t v h=>by
  rcases jS h with⟨i,u,rfl,e⟩|⟨y,u,rfl,e⟩
  .exact nomatch e
  .injection e with e1 _;subst e1;cases v<;>rfl
def ZV(prog:bc)(w:bJ)(k:Key)(v:ai):(iM prog w).is k v=A1 k v:=rfl
def G3(prog:bc)(w:bJ)(i:Int)(t:akc):(iM prog w).is (.inl i) (.int i t)=ag:=Od i t
def G4(prog:bc)(w:bJ)(x:aY)(t:akc):(iM prog w).is (.inr x) (.str x t)=ag:=Oe x t
inductive V where
 |non|bl (b:Bool)|int (i:Int)|str (x:aY)|Qt (b:Array UInt8)|ZW (b:UInt64)|ref (a:aw)|ty (n:String)
 deriving DecidableEq
def RelV:V->ai->Prop
 |.non,u=>u=cL
 |.bl b,u=>u=ai.bool b
 |.int i,u=>∃t,u=ai.int i t
 |.str x,u=>∃t,u=ai.str x t
 |.Qt b,u=>∃t,u=ai.bytes b t
 |.ZW b,u=>∃t,u=ai.float b t
 |.ref a,u=>u=bE a
 |.ty n,u=>u=c8 n
abbrev Vals:List V->List ai->Prop:=Paired RelV
theorem Vals.length(r:Vals xs us):xs.length=us.length:=Paired.length r
theorem Vals.get:∀{xs:List V} {us:List ai} {i:Nat} {x:V},Vals xs us->xs[i]?=aa x->∃u,us[i]?=aa u/\RelV x u
 |_,_,_,_,.nil,e=>by simp at e
 |_,_,0,_,.cons r _,e=>by simp at e;subst e;exact⟨_,rfl,r⟩
 |_,_,i+1,x,.cons _ t,e=>by obtain⟨u,a,b⟩:=Vals.get t (by simpa using e);exact⟨u,by simpa using a,b⟩
theorem Vals.set{x:V}{u:ai}(r:RelV x u):∀{xs:List V} {us:List ai} (i:Nat),Vals xs us->Vals (xs.set i x) (us.set i u)
 |_,_,_,.nil=>.nil
 |_,_,0,.cons _ t=>.cons r t
 |_,_,i+1,.cons q t=>.cons q (Vals.set r i t)
theorem Vals.append:∀{xs a:List V} {us ws:List ai},Vals xs us->Vals a ws->Vals (xs++a) (us++ws)
 |_,_,_,_,.nil,s=>s
 |_,_,_,_,.cons r t,s=>.cons r (Vals.append t s)
theorem Vals.take:∀{xs:List V} {us:List ai} (n:Nat),Vals xs us->Vals (xs.take n) (us.take n)
 |_,_,0,_=>.nil
 |_,_,_+1,.nil=>.nil
 |_,_,n+1,.cons r t=>.cons r (Vals.take n t)
theorem Vals.drop:∀{xs:List V} {us:List ai} (n:Nat),Vals xs us->Vals (xs.drop n) (us.drop n)
 |_,_,0,r=>r
 |_,_,_+1,.nil=>.nil
 |_,_,n+1,.cons _ t=>Vals.drop n t
def qK:Option V->Option ai->Prop
 |some v,aa u=>RelV v u
 |none,ar=>True
 |_,_=>False
def KV {a:Type}:List (a×V)->List (a×ai)->Prop:=Paired λ(p:a×V) (q:a×ai)=>p.1=q.1/\RelV p.2 q.2
noncomputable def kV:Key->V
 |.inl i=>.int i
 |.inr x=>.str x
inductive HO where
 /- - a list-/
 |lst (xs:List V)
 /- - a tuple (never changes)-/
 |tup (xs:List V)
 /- - a dict whose keys are ints and texts;one whose keys are tuples of ints and texts (the empty one is both)-/
 |dK (ik:List (Key×V))|dT (ik:List (List Key×V))
 /- - a set of ints:iq members,iq size-/
 |set (S:Int->Bool) (n:Nat)
 /- - an instance of the class at C,iq dict at dx,iq attributes-/
 |ins (C dx:aw) (fs:List (aY×V))
 /- - the dict of the instance at x-/
 |own (x:aw)
 /- - the dict of an exception-/
 |xd (fs:List (aY×V))
 /- - a bound method,f of x-/
 |met (f x:aw)
 /- - a range object lo,lo+1,.. below hi-/
 |rng (lo hi:Int)
 /- - a thing ahS is known to the object (the agn;a dict while a loop walks it):read,never written while it is so-/
 |om (o:cB) (u:HO)
 /- - a code adr table-/
 |xt (ps:Array ai)
 |dE (ep:Nat) (ik:List (Key×V))
 |xc (C:aw) (fs:List (aY×V))
 /- - any other thing,by ahT is ag of iq one object (a def of ahO own:ahU a S n:=HO.ext λh=>..)-/
 |ext (φ:aC->Prop)
abbrev Hp:=aw->Option HO
noncomputable def upd(H:Hp)(a:aw)(o:HO):Hp:=λb=>if b=a then aa o else H b
def il:upd H a o a=aa o:=by unfold upd;rw[if_pos rfl]
def hZ(h:b≠a):upd H a o b=H b:=by unfold upd;rw[if_neg h]
def ads{H:Hp}(h:H a=aa o)(c:H b=aa u)(d:o≠u):a≠b:=by intro e;subst e;rw[h] at c;exact d (bF c)
def jr{H:Hp}(h:H a=aa o)(c:H b=ar):a≠b:=by intro e;subst e;rw[h] at c;cases c
section
variable (P:bc) (w:bJ)
def jB (H:Hp)(h:aC)(a:aw):HO->Prop
 |.lst xs=>xs.length<=aO/\∃(iq:List ai) (n:Nat),Vals xs iq/\h.get? a=aa {cls:=.type cr,data:=.seq iq.toArray n}
 |.tup xs=>xs.length<=aO/\∃iq:List ai,Vals xs iq/\aiJ h a iq.toArray
 |.dK e=>e.length<=aO/\(a==b9)=au/\∃g,KV e g/\h.DictOf (iM P w) a g
 |.dT e=>e.length<=aO/\(a==b9)=au/\∃xs:List (List Key×aw×ai),
   Paired (λ(p:List Key×V) (q:List Key×aw×ai)=>p.1=q.1/\H q.2.1=aa (.tup (p.1.map kV))/\RelV p.2 q.2.2) e xs/\
   ∃o es j,h.get? a=aa o/\o.ExactDict/\o.data=.dict es j/\es.toList=xs.map (entryOfKey (aiq (iM P w)))/\(xs.map (·.1)).Nodup
 |.set S n=>h.SetOf (intKind P w) a S n
 |.ins C b fs=>H b=aa (.own a)/\fs.length<=1000/\b≠a/\h.get? a=aa (W.instObj C b)/\
   ∃c,h.Ns1 b c/\(∀f,qK (fs.lookup f) (c f))/\PySem.Within c (fs.map (·.1))
 |.own _=>∃o,h.get? a=aa o
 |.xd fs=>∃c,h.Ns1 a c/\∀f,qK (fs.lookup f) (c f)
 |.rng lo hi=>∃t u v,h.get? a=aa {cls:=.type mr,data:=.fields #[.int lo t,.int hi u,.int 1 v]}
 |.om o u=>h.get? a=aa o/\jB H h a u
 |.xt y=>h.get? a=aa {cls:=.none,data:=.fields y}
 |.dE j e=>e.length<=aO/\(a==b9)=au/\∃g,KV e g/\h.DictAt (iM P w) a g j
 |.xc C fs=>∃i g,h.get? a=aa i/\i.cls=.ref C/\i.data=.fields g/\((i.dict=ar/\fs=[])\/∃b c,i.dict=aa b/\b≠a/\H b=aa (.own a)/\h.Ns1 b c/\∀f,qK (fs.lookup f) (c f))
 |.met f x=>h.get? a=aa (W.methodObj (.ref f) (.ref x))
 |.ext m=>m h/\(∃o,h.get? a=aa o)/\∀r s:aC,m r->(∀o,r.get? a=aa o->s.get? a=aa o)->m s
def rK (H:Hp)(h:aC):Prop:=∀a o,H a=aa o->jB P w H h a o
end
section
variable {h h':aC}
theorem jB.lt(x:jB P w H h a o):a<h.objs.size:=by
 cases o with
 |lst xs=>obtain⟨_,_,_,_,e⟩:=x;exact aM e
 |tup xs=>obtain⟨_,_,_,p⟩:=x;exact p.lt
 |dK b=>obtain⟨_,_,_,_,o,_,_,e,_⟩:=x;exact aM e
 |dT b=>obtain⟨_,_,_,_,o,_,_,e,_⟩:=x;exact aM e
 |set S n=>obtain⟨o,_,_,_,e,_⟩:=x;exact aM e
 |ins C c fs=>obtain⟨_,_,_,e,_⟩:=x;exact aM e
 |own y=>obtain⟨_,e⟩:=x;exact aM e
 |xd fs=>obtain⟨_,⟨_,_,_,e,_⟩,_⟩:=x;exact aM e
 |rng lo hi=>obtain⟨_,_,_,e⟩:=x;exact aM e
 |om ob u=>obtain⟨e,_⟩:=x;exact aM e
 |xt g=>exact aM (x)
 |dE i b=>obtain⟨_,_,_,_,o,_,e,_⟩:=x;exact aM e
 |xc C fs=>obtain⟨_,_,e,_⟩:=x;exact aM e
 |met f y=>exact aM (x)
 |ext j=>obtain⟨_,⟨_,e⟩,_⟩:=x;exact aM e
theorem Paired.ZX:∀{c:List α} {e:List β},Paired F c e->(∀a b,F a b->G a b)->Paired G c e
 |_,_,.nil,_=>.nil
 |_,_,.cons r t,f=>.cons (f _ _ r) (Paired.ZX t f)
def jB.tQ(x:jB P w H h a o)(k:∀b u,(b=a\/H b=aa (.own a))->h.get? b=aa u->h'.get? b=aa u)
(s:∀b,H b=aa (.own a)->H' b=aa (.own a))(ht:∀b xs,H b=aa (.tup xs)->H' b=aa (.tup xs)):jB P w H' h' a o:=by
 induction o with
 |lst xs=>obtain⟨z,iq,n,r,e⟩:=x;exact⟨z,iq,n,r,k _ _ (.inl rfl) e⟩
 |tup xs=>obtain⟨z,iq,r,ob,e,c⟩:=x;exact⟨z,iq,r,ob,k _ _ (.inl rfl) e,c⟩
 |dK A=>obtain⟨z,y,i,r,ob,es,g,e,c⟩:=x;exact⟨z,y,i,r,ob,es,g,k _ _ (.inl rfl) e,c⟩
 |dT A=>
  obtain⟨z,y,xs,r,ob,es,g,e,c⟩:=x;exact⟨z,y,xs,Paired.ZX r λp q z=>⟨z.1,ht _ _ z.2.1,z.2.2⟩,ob,es,g,k _ _ (.inl rfl) e,c⟩
 |set S n=>obtain⟨ob,es,g,t,e,c⟩:=x;exact⟨ob,es,g,t,k _ _ (.inl rfl) e,c⟩
 |ins C B fs=>
  obtain⟨d,z,ne,e,j,⟨od,es,g,e2,c⟩,r⟩:=x;exact⟨s _ d,z,ne,k _ _ (.inl rfl) e,j,⟨od,es,g,k _ _ (.inr d) e2,c⟩,r⟩
 |own y=>obtain⟨ob,e⟩:=x;exact⟨ob,k _ _ (.inl rfl) e⟩
 |xd fs=>obtain⟨j,⟨od,es,g,e,c⟩,r⟩:=x;exact⟨j,⟨od,es,g,k _ _ (.inl rfl) e,c⟩,r⟩
 |rng lo hi=>obtain⟨t,u,v,e⟩:=x;exact⟨t,u,v,k _ _ (.inl rfl) e⟩
 |om ob u G=>obtain⟨e,q⟩:=x;exact⟨k _ _ (.inl rfl) e,G q⟩
 |dE g A=>obtain⟨z,y,i,r,ob,es,e,c⟩:=x;exact⟨z,y,i,r,ob,es,k _ _ (.inl rfl) e,c⟩
 |xc C fs=>
  obtain⟨I,i,e,c1,J,m⟩:=x;refine⟨I,i,k _ _ (.inl rfl) e,c1,J,?_⟩;rcases m with m|⟨B,j,L,M,E,⟨od,es,g,e2,c⟩,N⟩
  .exact .inl m
  .exact .inr ⟨B,j,L,M,s _ E,⟨od,es,g,k _ _ (.inr E) e2,c⟩,N⟩
 |xt O=>
  have e:=x;exact k a _ (.inl rfl) e
 |met f y=>
  have e:=x;exact k a _ (.inl rfl) e
 |ext Q=>obtain⟨p,⟨o,e⟩,st⟩:=x;exact⟨st _ _ p λo q=>k _ _ (.inl rfl) q,⟨o,k _ _ (.inl rfl) e⟩,st⟩
theorem rK.lt(x:rK P w H h)(e:H a=aa o):a<h.objs.size:=(x a o e).lt
def rK.fresh(x:rK P w H h)(e:h.objs.size<=a):H a=ar:=by
 cases q:H a with
 |none=>rfl
 |some u=>exact absurd (bw (x.lt q) e) (cC _)
def rK.kept(x:rK P w H h)(k:∀b u,h.get? b=aa u->h'.get? b=aa u):rK P w H h':=λa o e=>
 (x a o e).tQ (λb u _ q=>k b u q) (λ_ q=>q) λ_ _ q=>q
def rK.laid(x:rK P w H h)(k:∀b u,h.get? b=aa u->h'.get? b=aa u)(f:h.objs.size<=a)(new:jB P w (upd H a o) h' a o):rK P w (upd H a o) h':=λb u e=>by
 have hn:=x.fresh f;by_cases hb:b=a
 .subst hb;rw[il] at e;cases e;exact new
 .rw[hZ hb] at e;exact(x b u e).tQ (λc v _ q=>k c v q) (λc q=>by rw[hZ (jr q hn)];exact q) λc xs q=>by rw[hZ (jr q hn)];exact q
end
def Rd (H:Hp)(a:aw)(u:HO):Prop:=H a=aa u\/∃o,H a=aa (.om o u)
def Rd.of{H:Hp}{a:aw}{u:HO}(h:H a=aa u):Rd H a u:=.inl h
def Rd.ok(r:Rd H a u)(x:rK P w H h):jB P w H h a u:=by
 rcases r with r|⟨o,r⟩
 .exact x a u r
 .obtain⟨_,q⟩:=x a _ r;exact q
def Mut:Option HO->Prop
 |some (.lst _)=>True
 |some (.dK _)=>True
 |some (.dT _)=>True
 |some (.set _ _)=>True
 |some (.ins _ _ _)=>True
 |some (.ext _)=>True
 |some (.dE _ _)=>True
 |_=>False
section
variable {h h':aC}
def rK.write(ok:rK P w H h)(f:Mut (H x))(m:e=x\/H e=aa (.own x))(k:∀b u,b≠e->h.get? b=aa u->h'.get? b=aa u)(i:∃u,h'.get? e=aa u)
(new:jB P w (upd H x o') h' x o'):rK P w (upd H x o') h':=λb u q=>by
 have a:∀c y,H c=aa (.own y)->c≠x:=λc y r z=>by subst z;rw[r] at f;exact f
 have j:∀c xs,H c=aa (.tup xs)->c≠x:=λc xs r z=>by subst z;rw[r] at f;exact f
 by_cases hb:b=x
 .subst hb;rw[il] at q;cases q;exact new
 .rw[hZ hb] at q;by_cases g:b=e
  .have n:H b=aa (.own x):=by
    rcases m with z|z
    .exact absurd (g.trans z) hb
    .rw[g];exact z
   rw[q] at n;cases n;obtain⟨v,o⟩:=i;exact⟨v,by rw[g];exact o⟩
  .refine(ok b u q).tQ (λc v hc r=>k c v ?_ r) (λc r=>by rw[hZ (a c b r)];exact r) λc xs r=>by rw[hZ (j c xs r)];exact r
   rcases hc with rfl|hc
   .exact g
   .rintro rfl
    rcases m with z|z
    .exact a c b hc z
    .rw[hc] at z;cases z;exact hb rfl
end
structure Un(fs ex:List aw)(H H':Hp)(h h':aC):Prop where
 keep:∀b o,h.get? b=aa o->H b=ar->b∉fs->b∉ex->h'.get? b=aa o
 slot:∀b o,h.get? b=aa o->H b=ar->b∈fs->b∉ex->∃sl,h'.get? b=aa {o with slots:=sl}
 free:∀b o,h.get? b=aa o->H b=ar->b∉ex->H' b=ar
 there:∀b o,h.get? b=aa o->b∉ex->∃o',h'.get? b=aa o'
 rL:∀b xs,H b=aa (.tup xs)->H' b=aa (.tup xs)
 p5:∀b o u,H b=aa (.om o u)->H' b=aa (.om o u)
 qX:∀b ps,H b=aa (.xt ps)->∃more,H' b=aa (.xt (ps++more))
section
variable {fs:List aw} {h h1 h':aC} {a:aw}
def Un.any(u:Un fs ex H H1 h h1)(q:h.get? b=aa ob)(n:H b=ar)(c:b∉ex):∃sl,h1.get? b=aa {ob with slots:=sl}:=by
 by_cases hb:b∈fs
 .exact u.slot b ob q n hb c
 .exact⟨ob.slots,u.keep b ob q n hb c⟩
def Un.trans(a:Un fs ex H H1 h h1)(b:Un fs ex H1 H2 h1 h2):Un fs ex H H2 h h2 where
 keep:=λc ob q n hc f=>b.keep c ob (a.keep c ob q n hc f) (a.free c ob q n f) hc f
 slot:=λc ob q n hc f=>by obtain⟨sl,e1⟩:=a.slot c ob q n hc f;obtain⟨i,e2⟩:=b.slot c _ e1 (a.free c ob q n f) hc f;exact⟨i,e2⟩
 free:=λc ob q n f=>by obtain⟨g,e1⟩:=a.there c ob q f;exact b.free c g e1 (a.free c ob q n f) f
 there:=λc ob q f=>by obtain⟨g,e1⟩:=a.there c ob q f;exact b.there c g e1 f
 rL:=λc xs q=>b.rL c xs (a.rL c xs q)
 p5:=λc ob xs q=>b.p5 c ob xs (a.p5 c ob xs q)
 qX:=λc j q=>by obtain⟨m,e1⟩:=a.qX c j q;obtain⟨p,e2⟩:=b.qX c _ e1;exact⟨m++p,by rw[e2,Array.append_assoc]⟩
def Un.kept(k:∀b u,h.get? b=aa u->h'.get? b=aa u):Un fs ex H H h h':=
 ⟨λb ob q _ _ _=>k b ob q,λb ob q _ _ _=>⟨ob.slots,k b ob q⟩,λ_ _ _ n _=>n,λb ob q _=>⟨ob,k b ob q⟩,λ_ _ q=>q,λ_ _ _ q=>q,λ_ c q=>⟨#[],by rw[q];simp⟩⟩
def Un.refl:Un fs ex H H h h:=Un.kept λ_ _ q=>q
def Un.laid(k:∀b u,h.get? b=aa u->h'.get? b=aa u)(c:h.objs.size<=a)(hn:H a=ar):Un fs ex H (upd H a o) h h' where
 keep:=λb u q _ _ _=>k b u q
 slot:=λb u q _ _ _=>⟨u.slots,k b u q⟩
 free:=λb u q n _=>by rw[hZ (bd (bw (aM q) c))];exact n
 there:=λb u q _=>⟨u,k b u q⟩
 rL:=λb xs q=>by rw[hZ (jr q hn)];exact q
 p5:=λb u xs q=>by rw[hZ (jr q hn)];exact q
 qX:=λb f q=>⟨#[],by rw[hZ (jr q hn),q];simp⟩
def Un.write(c:Mut (H x))(j:e=x\/H e=aa (.own x))(k:∀b u,b≠e->h.get? b=aa u->h'.get? b=aa u)(f:∃u,h'.get? e=aa u):Un fs ex H (upd H x o) h h':=by
 have g:∀b,H b=ar->b≠x:=λb n z=>by subst z;rw[n] at c;exact c
 have hb:∀b,H b=ar->b≠e:=λb n z=>by
  subst z;rcases j with r|r
  .exact g b n r
  .rw[n] at r;cases r
 have hm:∀b u,H b=aa u->¬Mut (aa u)->b≠x:=λb u q nm z=>by subst z;rw[q] at c;exact nm c
 refine⟨λb u q n _ _=>k b u (hb b n) q,λb u q n _ _=>⟨u.slots,k b u (hb b n) q⟩,λb u q n _=>by rw[hZ (g b n)];exact n,λb u q _=>?_,
  λb xs q=>by rw[hZ (hm b _ q λz=>z)];exact q,λb u xs q=>by rw[hZ (hm b _ q λz=>z)];exact q,λb m q=>⟨#[],by rw[hZ (hm b _ q λz=>z),q];simp⟩⟩
 by_cases i:b=e
 .subst i;exact f
 .exact⟨u,k b u i q⟩
def Un.mono(u:Un fs ex H H1 h h1)(g:∀b∈fs,b∈fs')(f:∀b∈ex,b∈ex'):Un fs' ex' H H1 h h1:=
 ⟨λb ob q n hb c=>u.keep b ob q n (λz=>hb (g b z)) λz=>c (f b z),λ_ _ q n _ c=>u.any q n λz=>c (f _ z),λb ob q n c=>u.free b ob q n λz=>c (f b z),λb ob q c=>u.there b ob q λz=>c (f b z),u.rL,u.p5,u.qX⟩
end
noncomputable def trk(h:aC)(H:Hp):List aw:=(cx h.objs.size).filter λa=>(H a).isSome
noncomputable def A2(h:aC)(H:Hp):aC:=W.hideAll h (trk h H)
def Og(h:aC)(H:Hp):(A2 h H).objs.size=h.objs.size:=W.hideAll_size _ _
def QL(e:h.get? b=aa o)(n:H b=ar):(A2 h H).get? b=aa o:=
 W.hideAll_get _ e λhm=>by have q:=(gf.mp hm).2;rw[n] at q;simp at q
def Vm(e:(A2 h H).get? b=aa o):h.get? b=aa o/\H b=ar:=by
 have e':=W.of_hideAll _ e;refine⟨e',?_⟩;cases q:H b with
 |none=>rfl
 |some x=>
  have hm:b∈trk h H:=gf.mpr ⟨gF.mpr (aM e'),by simp[q]⟩;have z:(A2 h H).get? b=ar:=W.hideAll_none _ hm;rw[z] at e;cases e
noncomputable def Vn(g h:aC)(L:aw):List (aw×cB):=(cx h.objs.size).filterMap λa=>if a=L\/(g.get? a).isSome=ag then ar else(h.get? a).map λo=>(a,o)
noncomputable def rest(g h:aC)(L d:aw):List (aw×cB):=(Vn g h L).filter λp=>decide (p.1≠d)
structure Mod(K:af)(mg:aY->Option ai)(cq:aC):Prop where
 QM:K.In cq
 glob:cq.Ns bf mg
 blt:∃mb,cq.Ns ajG mb/\∀x:aY,x≠me->mb x=bS x
 nolimit:cq.NoLimit
structure Cx where
 prog:bc
 w:bJ
 K:af
 mg:aY->Option ai
 cq:aC
 A:bH
 N:List aY
 iA:av
 iH:Hp
 env:aie
 cv:List aie
 stack:List aie
 ex:List aw
 fn:aY->Bool
 calm:Bool
 pn:List (aw×cB)
 xe:ai->av->Prop
noncomputable def rJ(l:List aie):List aw:=l.filterMap (·.frame)
abbrev Cx.fs(X:Cx):List aw:=rJ X.cv
def Yv (sc:dj)(x:aY):Prop:=sc.names.lookup x=aa .local\/sc.names.lookup x=aa .cell\/sc.names.lookup x=aa .free
def Loc (sc:dj)(x:aY):Prop:=sc.names.lookup x=aa .local\/sc.names.lookup x=aa .cell
def Look (env:aie)(h:aC)(m:aY->Option ai)(x:aY)(u:ai):Prop:=
 (env.kindOf x=aa .local/\m x=aa u)\/((env.kindOf x=aa .cell\/env.kindOf x=aa .free)/\∃c,env.cells.lookup x=aa c/\h.IsCell c (aa u))
structure Cx.Ok(X:Cx):Prop where
 mod:Mod X.K X.mg X.cq
 kind:X.env.scope.kind=.function
 glob:X.env.globals=bf
 blt:X.env.builtins=ajG
 above:X.iA.heap.objs.size<=X.env.locals
 inj:∀x y c,X.env.cells.lookup x=aa c->X.env.cells.lookup y=aa c->x=y
 has:∀x,(X.env.kindOf x=aa .cell\/X.env.kindOf x=aa .free)->∃c,X.env.cells.lookup x=aa c
 ZY:∀x c,X.fn x=ag->X.env.cells.lookup x=aa c->X.iA.heap.objs.size<=c
 hd:X.calm=ag->X.A.handled=ar
 frames:X.A.frames=aa X.stack
 stk:X.stack=X.cv\/(X.stack=X.env::X.cv/\X.env.frame=aa X.env.locals)
 exf:∀b∈X.ex,b≠X.env.locals/\∀x c,X.env.cells.lookup x=aa c->c≠b
 bs:∀b o,X.cq.get? b=aa o->X.iA.heap.get? b=aa o/\X.iH b=ar
 Oh:X.cq.objs.size<=X.iA.heap.objs.size
 G5:∀b o,X.cq.get? b=aa o->b∉X.ex
 Kd:∀b∈X.ex,b∉X.fs
 vP:X.iA.heap.FunFrames X.cq X.cv
 QN:∀b∈X.fs,X.iH b=ar
structure Inv(X:Cx)(cc:List (aw×cB))(σ:List (Option V))(H:Hp)(s:av):Prop where
 ok:X.Ok
 os:s.os=X.iA.os
 bare:fR s.gens
 cq:Un X.fs X.ex X.iH H X.iA.heap s.heap
 loc:∃m,s.heap.Ns X.env.locals m/\∀(i:Nat) (x:aY) (v:V),X.N[i]?=aa x->σ[i]?=aa (aa v)->Yv X.env.scope x->∃u,RelV v u/\Look X.env s.heap m x u
 cell:∀x c,X.env.cells.lookup x=aa c->∃v,s.heap.IsCell c v
 free:H X.env.locals=ar
 lU:∀x c,X.env.cells.lookup x=aa c->H c=ar
 pin:∀p∈X.pn++cc,s.heap.get? p.1=aa p.2/\H p.1=ar/\p.1≠X.env.locals/\p.1∉X.fs/\∀v,p.2.data≠.cell v
 iO:rK X.prog X.w H s.heap
 len:σ.length=X.N.length
section
variable {X:Cx} {σ:List (Option V)} {s:av} {h':aC}
def Cx.Ok.agp(ok:X.Ok)(e:X.cq.get? b=aa o):b∉X.fs:=λhb=>by have:=(ok.vP.mem hb).1;rw[e] at this;cases this
theorem Inv.bs(I:Inv X cc σ H s):∀b o,X.cq.get? b=aa o->s.heap.get? b=aa o/\H b=ar:=λb o e=>
 ⟨I.cq.keep b o (I.ok.bs b o e).1 (I.ok.bs b o e).2 (I.ok.agp e) (I.ok.G5 b o e),I.cq.free b o (I.ok.bs b o e).1 (I.ok.bs b o e).2 (I.ok.G5 b o e)⟩
def Inv.bk(I:Inv X cc σ H s):∀b o,X.cq.get? b=aa o->s.heap.get? b=aa o:=λb o e=>(I.bs b o e).1
theorem Inv.mod(I:Inv X cc σ H s):Mod X.K X.mg X.cq:=I.ok.mod
def Inv.rM(I:Inv X cc σ H s):X.K.In s.heap:=I.ok.mod.QM.keeps I.bk
theorem Inv.lt(I:Inv X cc σ H s):X.env.locals<s.heap.objs.size:=let⟨_,hn,_⟩:=I.loc;hn.lt
def Inv.sz(I:Inv X cc σ H s):X.iA.heap.objs.size<=s.heap.objs.size:=bG I.ok.above (dF I.lt)
def Inv.ZZ(I:Inv X cc σ H s)(h:s.heap.objs.size<=a):a∉X.fs:=λhb=>by obtain⟨_,o,b,_⟩:=I.ok.vP.mem hb;exact absurd (bw (aM b) (bG I.sz h)) (cC _)
def Inv.QP(I:Inv X cc σ H s):∀x c,X.env.cells.lookup x=aa c->c≠X.env.locals:=λx c e z=>by obtain⟨v,o,a,hd⟩:=I.cell x c e;obtain⟨m,⟨g,es,h,b,f,_⟩,_⟩:=I.loc;rw[z,b] at a;cases a;rw[f] at hd;cases hd
theorem Inv.vP(I:Inv X cc σ H s):s.heap.FunFrames X.cq X.cv:=by
 have all:∀(l:List aie),(∀b∈rJ l,b∈X.fs)->X.iA.heap.FunFrames X.cq l->s.heap.FunFrames X.cq l:=by
  intro l;induction l with
  |nil=>intro _ _;trivial
  |cons env r g=>
   intro f h;obtain⟨i,⟨L,o,a,hn,j,hd⟩,m⟩:=h;have c:=f L (by unfold rJ;rw[gk,a];exact aN);obtain⟨sl,e⟩:=I.cq.slot L o j (I.ok.QN L c) c λz=>I.ok.Kd L z c;exact⟨i,⟨L,_,a,hn,e,hd⟩,g (λb hb=>f b (by unfold rJ;rw[gk,a];exact aB _ hb)) m⟩
 exact all X.cv (λ_ hb=>hb) I.ok.vP
theorem Inv.stack(I:Inv X cc σ H s):s.heap.FunFrames X.cq X.stack:=by
 rcases I.ok.stk with e|⟨e,a⟩
 .rw[e];exact I.vP
 .rw[e];obtain⟨m,hn,_⟩:=I.loc;refine .cons (by rw[I.ok.kind];decide) a hn ?_ I.vP;exact cE (bG I.ok.Oh I.ok.above)
def Inv.rN(I:Inv X cc σ H s):∀b∈rJ X.stack,b∈X.env.locals::X.fs:=λb hb=>by
 rcases I.ok.stk with e|⟨e,a⟩
 .rw[e] at hb;exact aB _ hb
 .rw[e] at hb;unfold rJ at hb;rw[gk,a] at hb;exact hb
def Inv.Mw(I:Inv X cc σ H s):∀b∈rJ X.stack,H b=ar:=λb hb=>by
 rcases aH.mp (I.rN b hb) with e|hb
 .rw[e];exact I.free
 .obtain⟨_,o,a,_⟩:=I.ok.vP.mem hb;exact I.cq.free b o a (I.ok.QN b hb) λz=>I.ok.Kd b z hb
def Inv.step{ch:List aw}(I:Inv X cc σ H s)
(j:∀b∈ch,(b∈X.ex\/X.iA.heap.objs.size<=b)/\b≠X.env.locals/\(∀x c,X.env.cells.lookup x=aa c->c≠b)/\∀p∈X.pn++cc,p.1≠b)
(keep:∀b o,b≠X.env.locals->b∉X.fs->b∉ch->s.heap.get? b=aa o->H b=ar->h'.get? b=aa o)
(slot:∀b o,b≠X.env.locals->b∈X.fs->b∉ch->s.heap.get? b=aa o->H b=ar->∃sl,h'.get? b=aa {o with slots:=sl})(free:∀b o,b∉ch->s.heap.get? b=aa o->H b=ar->H' b=ar)
(there:∀b o,b∉ch->s.heap.get? b=aa o->∃y,h'.get? b=aa y)
(rL:∀b xs,H b=aa (.tup xs)->H' b=aa (.tup xs))(p5:∀b o u,H b=aa (.om o u)->H' b=aa (.om o u))(qX:∀b B,H b=aa (.xt B)->∃more,H' b=aa (.xt (B++more)))
(ns:∀m,s.heap.Ns X.env.locals m->h'.Ns X.env.locals m)(iO:rK X.prog X.w H' h')(J:fR L):
  Inv X cc σ H' {s with heap:=h',gens:=L,drawn:=T,toks:=U}:=by
 have A:∀b o,X.iA.heap.get? b=aa o->b≠X.env.locals:=λb o e=>bd (bw (aM e) I.ok.above);have g:∀b o,X.iA.heap.get? b=aa o->b∉X.ex->b∉ch:=λb o e a hb=>by
  rcases(j b hb).1 with z|z
  .exact a z
  .exact absurd (bw (aM e) z) (cC _)
 have C:∀x c,X.env.cells.lookup x=aa c->∀v,s.heap.IsCell c v->h'.IsCell c v:=λx c e v ⟨o,h,hd⟩=>by
  have f:=λz=>(j c z).2.2.1 x c e rfl;by_cases hc:c∈X.fs
  .obtain⟨sl,q⟩:=slot c o (I.QP x c e) hc f h (I.lU x c e);exact⟨_,q,hd⟩
  .exact⟨o,keep c o (I.QP x c e) hc f h (I.lU x c e),hd⟩
 refine⟨I.ok,I.os,J,⟨λb o e n hb a=>?_,λb o e n hb a=>?_,λb o e n a=>?_,λb o e a=>?_,λb xs e=>rL b xs (I.cq.rL b xs e),λb o xs e=>p5 b o xs (I.cq.p5 b o xs e),λb B e=>?_⟩,?_,λx c e=>?_,?_,λx c e=>?_,λp E=>?_,iO,I.len⟩
 .exact keep b o (A b o e) hb (g b o e a) (I.cq.keep b o e n hb a) (I.cq.free b o e n a)
 .obtain⟨sl,e1⟩:=I.cq.slot b o e n hb a;obtain⟨M,e2⟩:=slot b _ (A b o e) hb (g b o e a) e1 (I.cq.free b o e n a);exact⟨M,e2⟩
 .obtain⟨y,e1⟩:=I.cq.there b o e a;exact free b y (g b o e a) e1 (I.cq.free b o e n a)
 .obtain⟨y,e1⟩:=I.cq.there b o e a;exact there b y (g b o e a) e1
 .obtain⟨N,e1⟩:=I.cq.qX b B e;obtain⟨O,e2⟩:=qX b _ e1;exact⟨N++O,by rw[e2,Array.append_assoc]⟩
 .obtain⟨m,hn,Q⟩:=I.loc;refine⟨m,ns m hn,λi x v e1 e2 e3=>?_⟩;obtain⟨u,r,l⟩:=Q i x v e1 e2 e3;refine⟨u,r,?_⟩;rcases l with l|⟨k,c,e,z⟩
  .exact .inl l
  .exact .inr ⟨k,c,e,C x c e _ z⟩
 .obtain⟨v,z⟩:=I.cell x c e;exact⟨v,C x c e v z⟩
 .obtain⟨m,⟨o,_,_,h,_⟩,_⟩:=I.loc;exact free _ o (λz=>(j _ z).2.1 rfl) h I.free
 .obtain⟨v,o,h,hd⟩:=I.cell x c e;exact free c o (λz=>(j c z).2.2.1 x c e rfl) h (I.lU x c e)
 .obtain⟨e,n,ne,G,d⟩:=I.pin p E;have f:=λz=>(j p.1 z).2.2.2 p E rfl;exact⟨keep p.1 p.2 ne G f e n,free p.1 p.2 f e n,ne,G,d⟩
def Inv.un(I:Inv X cc σ H s)(u:Un X.fs [] H H' s.heap h')(iO:rK X.prog X.w H' h'):Inv X cc σ H' {s with heap:=h',toks:=t'}:=by
 obtain⟨m,⟨o,es,j,a,r⟩,_⟩:=id I.loc;obtain⟨sl,f⟩:=u.any a I.free (by simp);exact I.step (ch:=[]) (λ_ z=>nomatch z) (λb o _ hb _ e n=>u.keep b o e n hb (by simp)) (λb o _ hb _ e n=>u.slot b o e n hb (by simp)) (λb o _ e n=>u.free b o e n (by simp)) (λb o _ e=>u.there b o e (by simp)) u.rL u.p5 u.qX (λp hm=>by obtain⟨q,g,h,c,i⟩:=hm;rw[a] at c;cases c;exact⟨_,g,h,f,i⟩) iO I.bare
def Inv.call{i:akd}{ch:List aw}(I:Inv X cc σ H s)(u:Un (rJ X.stack) ch H H' s.heap h')(iO:rK X.prog X.w H' h')(j:fR q)
(f:∀b∈ch,(b∈X.ex\/X.iA.heap.objs.size<=b)/\b≠X.env.locals/\(∀x c,X.env.cells.lookup x=aa c->c≠b)/\∀p∈X.pn++cc,p.1≠b):
  Inv X cc σ H' {s with heap:=h',gens:=q,drawn:=i,toks:=B}:=by
 obtain⟨m,⟨o,es,C,g,r⟩,_⟩:=id I.loc;obtain⟨sl,a⟩:=u.any g I.free λz=>(f _ z).2.1 rfl;exact I.step f (λb o a hb hc e n=>u.keep b o e n (λz=>(aH.mp (I.rN b z)).elim a hb) hc) (λb o _ _ hc e n=>u.any e n hc) (λb o hc e n=>u.free b o e n hc) (λb o hc e=>u.there b o e hc) u.rL u.p5 u.qX (λE hm=>by obtain⟨G,v,y,h,A⟩:=hm;rw[g] at h;cases h;exact⟨_,v,y,a,A⟩) iO j
def Inv.turned(I:Inv X cc σ H s)(k:∀b o,b≠it->s.heap.get? b=aa o->h'.get? b=aa o)(hn:H it=ar)(a:it≠X.env.locals)
(g:it∈X.ex\/X.iA.heap.objs.size<=it)(h:∀x c,X.env.cells.lookup x=aa c->c≠it)(i:∀p∈X.pn++cc,p.1≠it):Inv X cc σ H {s with heap:=h',toks:=t'}:=by
 have f:∀b u,H b=aa u->b≠it:=λb u e z=>by rw[z,hn] at e;cases e
 refine I.step (ch:=[it]) (λb hb=>?_) (λb o _ _ hc e _=>k b o (λz=>hc (by simp[z])) e) (λb o _ _ hc e _=>⟨o.slots,k b o (λz=>hc (by simp[z])) e⟩) (λ_ _ _ _ n=>n)
  (λb o hc e=>⟨o,k b o (λz=>hc (by simp[z])) e⟩) (λ_ _ e=>e) (λ_ _ _ e=>e) (λb y e=>⟨#[],by rw[e];simp⟩) (λm hm=>?_) (λb u e=>?_) I.bare
 .have e:=by simpa using hb
  subst e;exact⟨g,a,h,i⟩
 .obtain⟨o,es,j,w,r⟩:=hm;exact⟨o,es,j,k _ o (b8 a) w,r⟩
 .refine(I.iO b u e).tQ (λc v hc q=>k c v ?_ q) (λ_ q=>q) λ_ _ q=>q;rcases hc with z|z
  .rw[z];exact f b u e
  .exact f c _ z
def Inv.tok(I:Inv X cc σ H s)(t:Nat):Inv X cc σ H {s with toks:=t}:=I.un Un.refl I.iO
theorem Inv.kept(I:Inv X cc σ H s)(k:∀b u,s.heap.get? b=aa u->h'.get? b=aa u):Inv X cc σ H {s with heap:=h',toks:=t'}:=I.un (Un.kept k) (I.iO.kept k)
theorem Inv.laid(I:Inv X cc σ H s)(k:∀b u,s.heap.get? b=aa u->h'.get? b=aa u)(c:s.heap.objs.size<=a)(new:jB X.prog X.w (upd H a o) h' a o):
  Inv X cc σ (upd H a o) {s with heap:=h',toks:=t'}:=I.un (Un.laid k c (I.iO.fresh c)) (I.iO.laid k c new)
theorem Inv.write(I:Inv X cc σ H s)(c:Mut (H x))(f:e=x\/H e=aa (.own x))(k:∀b u,b≠e->s.heap.get? b=aa u->h'.get? b=aa u)(a:∃u,h'.get? e=aa u)
(new:jB X.prog X.w (upd H x o) h' x o):Inv X cc σ (upd H x o) {s with heap:=h',toks:=g}:=I.un (Un.write c f k a) (I.iO.write c f k a new)
def Inv.My(I:Inv X cc σ H s)(h:∀p∈a,s.heap.get? p.1=aa p.2/\H p.1=ar/\p.1≠X.env.locals/\p.1∉X.fs/\∀v,p.2.data≠.cell v):Inv X a σ H s:=
 ⟨I.ok,I.os,I.bare,I.cq,I.loc,I.cell,I.free,I.lU,λp b=>(bt.mp b).elim (λz=>I.pin p (bV _ z)) (h p),I.iO,I.len⟩
def A3{N:List aY}(c:N.Nodup){i j:Nat}(a:N[i]?=aa x)(b:N[j]?=aa x):i=j:=by obtain⟨e,e1⟩:=ak.mp a;obtain⟨f,e2⟩:=ak.mp b;exact(eQ c).mp (e1.trans e2.symm)
def yI(I:Inv X cc σ H s)(hN:X.N.Nodup)(hi:X.N[i]?=aa x)(g:Loc X.env.scope x)(r:RelV v u)
(h:∀Y,Inv X cc (σ.set i (aa v)) H Y->(∃a,bO a s.heap Y.heap/\(a=X.env.locals\/X.env.cells.lookup x=aa a))->Q () Y)(hf:X.fn x=ag\/X.env.scope.names.lookup x=aa .local:=by first|exact .inl rfl|exact .inr rfl|assumption):wpAny M A (aj1 X.env x u) Q E s:=by
 obtain⟨m,hn,hl⟩:=id I.loc;have Z0:(X.env.scope.kind==.class||(X.env.scope.kind==.module&&X.env.locals !=X.env.globals))=au:=by rw[I.ok.kind];rfl
 have J:i<σ.length:=by rw[I.len];exact(ak.mp hi).1
 have QP:=I.QP;have Mz:∀{a:aw} {h':aC},(∃o,s.heap.get? a=aa o/\H a=ar)->bO a s.heap h'->rK X.prog X.w H h':=λ{a h'} ha f b ob e=>by
  obtain⟨_,_,Yz⟩:=ha;refine(I.iO b ob e).tQ (λc T hc q=>(f.2 c ?_).trans q) (λ_ q=>q) λ_ _ q=>q
  rintro rfl
  rcases hc with rfl|hc
  .rw[Yz] at e;cases e
  .rw[Yz] at hc;cases hc
 rcases g with B|B
 .refine wpAny_storeName_local B hn (λh' hn' f=>?_) Z0;obtain⟨oL,_,_,Qv,_⟩:=id hn;refine h _ ⟨I.ok,I.os,I.bare,⟨λb o e n hb g=>?_,λb o e n hb g=>?_,I.cq.free,λb o e g=>?_,I.cq.rL,I.cq.p5,I.cq.qX⟩,⟨_,hn',λj y v' e1 e2 e3=>?_⟩,λy c e=>?_,I.free,I.lU,λp hp=>?_,Mz ⟨oL,Qv,I.free⟩ f,by simpa using I.len⟩ ⟨_,f,.inl rfl⟩
  .exact(f.2 b (bd (bw (aM e) I.ok.above))).trans (I.cq.keep b o e n hb g)
  .obtain⟨sl,e1⟩:=I.cq.slot b o e n hb g;exact⟨sl,(f.2 b (bd (bw (aM e) I.ok.above))).trans e1⟩
  .obtain⟨o',e1⟩:=I.cq.there b o e g;exact⟨o',(f.2 b (bd (bw (aM e) I.ok.above))).trans e1⟩
  .by_cases C:j=i
   .subst C;rw[hi] at e1;cases e1;rw[bn J] at e2;cases e2;exact⟨u,r,.inl ⟨B,by simp⟩⟩
   .rw[aJ (b8 C)] at e2;obtain⟨u',r',q⟩:=hl j y v' e1 e2 e3;refine⟨u',r',?_⟩;rcases q with⟨k,e⟩|⟨k,c,e,z⟩
    .refine .inl ⟨k,?_⟩;have:y≠x:=λe=>C (A3 hN e1 (e▸hi));simp[this,e]
    .exact .inr ⟨k,c,e,z.sameBut f (QP y c e)⟩
  .obtain⟨T,z⟩:=I.cell y c e;exact⟨T,z.sameBut f (QP y c e)⟩
  .obtain⟨e,n,ne,nf,d⟩:=I.pin p hp;exact⟨(f.2 p.1 ne).trans e,n,ne,nf,d⟩
 .have G:X.fn x=ag:=by
   rcases hf with z|z
   .exact z
   .rw[z] at B;cases B
  obtain⟨c,hc⟩:=I.ok.has x (.inl B);obtain⟨T,z⟩:=I.cell x c hc;refine wpAny_storeName_cell I.ok.kind B hc z (λh' YA f=>?_);obtain⟨oc,L,agq⟩:=id z;refine h {s with heap:=h'} ⟨I.ok,I.os,I.bare,⟨λb o e n hb g=>?_,λb o e n hb g=>?_,I.cq.free,λb o e g=>?_,I.cq.rL,I.cq.p5,I.cq.qX⟩,⟨m,hn.sameBut f (b8 (QP x c hc)),λj y v' e1 e2 e3=>?_⟩,λy U e=>?_,I.free,I.lU,λp hp=>?_,Mz ⟨oc,L,I.lU x c hc⟩ f,by simpa using I.len⟩ ⟨c,f,.inr hc⟩
  .exact(f.2 b (bd (bw (aM e) (I.ok.ZY x c G hc)))).trans (I.cq.keep b o e n hb g)
  .obtain⟨sl,e1⟩:=I.cq.slot b o e n hb g;exact⟨sl,(f.2 b (bd (bw (aM e) (I.ok.ZY x c G hc)))).trans e1⟩
  .obtain⟨o',e1⟩:=I.cq.there b o e g;exact⟨o',(f.2 b (bd (bw (aM e) (I.ok.ZY x c G hc)))).trans e1⟩
  .by_cases C:j=i
   .subst C;rw[hi] at e1;cases e1;rw[bn J] at e2;cases e2;exact⟨u,r,.inr ⟨.inl B,c,hc,YA⟩⟩
   .rw[aJ (b8 C)] at e2;obtain⟨u',r',q⟩:=hl j y v' e1 e2 e3;refine⟨u',r',?_⟩;rcases q with q|⟨k,U,e,z'⟩
    .exact .inl q
    .refine .inr ⟨k,U,e,z'.sameBut f ?_⟩
     rintro rfl
     exact C (A3 hN e1 (I.ok.inj _ _ _ e hc▸hi))
  .by_cases O:U=c
   .subst O;exact⟨_,YA⟩
   .obtain⟨w2,z2⟩:=I.cell y U e;exact⟨w2,z2.sameBut f O⟩
  .obtain⟨e,n,ne,nf,d⟩:=I.pin p hp;refine⟨(f.2 p.1 ?_).trans e,n,ne,nf,d⟩;intro q;rw[q,L] at e;have q':oc=p.2:=bF e;exact d T (by rw[<-q'];exact agq)
def A4(I:Inv X cc σ H s)(b:X.N.Nodup)(hi:X.N[i]?=aa x)(c:Loc X.env.scope x)(r:RelV v u)
(h:∀a,Inv X cc (σ.set i (aa v)) H a->Q () a)(e:X.fn x=ag\/X.env.scope.names.lookup x=aa .local:=by first|exact .inl rfl|exact .inr rfl|assumption):wpAny M A (aj1 X.env x u) Q E s:=
 yI I b hi c r (λa f _=>h a f) e
def Inv.A5(I:Inv X cc σ H s)(f:a.os=s.os)(u:Un (rJ X.stack) ch H H' s.heap a.heap)(iO:rK X.prog X.w H' a.heap)(g:fR a.gens)
(h:∀b∈ch,(b∈X.ex\/X.iA.heap.objs.size<=b)/\b≠X.env.locals/\(∀x c,X.env.cells.lookup x=aa c->c≠b)/\∀p∈X.pn++cc,p.1≠b):Inv X cc σ H' a:=by obtain⟨h',i,j,m,n⟩:=a;have e:=f;subst e;exact I.call u iO g h
end
abbrev XK:=ai->Option aw->Hp->Prop
abbrev St:=List (Option V)
abbrev VK:=V->Hp->Prop
abbrev TE:=St->Hp->VK->Prop
abbrev TT:=St->Hp->(Bool->Hp->Prop)->Prop
abbrev TA:=St->Hp->(List V->Hp->Prop)->Prop
structure Ends where
 nx:St->Hp->Prop
 rt:VK
 bk:St->Hp->Prop:=λ_ _=>False
 ct:St->Hp->Prop:=λ_ _=>False
abbrev TS:=Ends->St->Hp->Prop
def EP (X:Cx)(cc:List (aw×cB))(σ:St)(Q:VK)(u:ai)(b:av):Prop:=∃v a,Inv X cc σ a b/\RelV v u/\Q v a
def TP (X:Cx)(cc:List (aw×cB))(σ:St)(Q:Bool->Hp->Prop)(b:Bool)(c:av):Prop:=∃a,Inv X cc σ a c/\Q b a
def AP (X:Cx)(cc:List (aw×cB))(σ:St)(Q:List V->Hp->Prop)(us:List ai)(c:av):Prop:=∃a b,Inv X cc σ b c/\Vals a us/\Q a b
def SP (X:Cx)(cc:List (aw×cB))(D:Ends)(f:Flow)(c:av):Prop:=
 match f with
 |.next=>∃b a,Inv X cc b a c/\D.nx b a
 |.brk=>∃b a,Inv X cc b a c/\D.bk b a
 |.cont=>∃b a,Inv X cc b a c/\D.ct b a
 |.ret u=>∃v b a,Inv X cc b a c/\RelV v u/\D.rt v a
def PE (X:Cx)(e:bI)(t:TE):Prop:=
 ∀(cc:List (aw×cB)) (s:av) (σ:St) (H:Hp) (Q:VK),Inv X cc σ H s->t σ H Q->wpAny (model X.prog X.w) X.A (eval e X.env) (EP X cc σ Q) X.xe s
def PT (X:Cx)(e:bI)(t:TT):Prop:=
 ∀(cc:List (aw×cB)) (s:av) (σ:St) (H:Hp) (Q:Bool->Hp->Prop),Inv X cc σ H s->t σ H Q->wpAny (model X.prog X.w) X.A (ajq e X.env (eval e X.env)) (TP X cc σ Q) X.xe s
def PW (X:Cx)(e:bI)(t:TT):Prop:=
 ∀(a:Sem ai) (cc:List (aw×cB)) (s:av) (σ:St) (H:Hp) (Q:Bool->Hp->Prop),Inv X cc σ H s->t σ H Q->wpAny (model X.prog X.w) X.A (ajq e X.env a) (TP X cc σ Q) X.xe s
def PW.pt(h:PW X e t):PT X e t:=h _
def PA (X:Cx)(es:List bI)(t:TA):Prop:=
 ∀(pos:eB) (cc:List (aw×cB)) (s:av) (σ:St) (H:Hp) (Q:List V->Hp->Prop),Inv X cc σ H s->t σ H Q->wpAny (model X.prog X.w) X.A (spliced (du pos (bg es X.env))) (AP X cc σ Q) X.xe s
def PS (X:Cx)(st:cZ)(t:TS):Prop:=
 ∀(cc:List (aw×cB)) (s:av) (σ:St) (H:Hp) (D:Ends),Inv X cc σ H s->t D σ H->wpAny (model X.prog X.w) X.A (exec st X.env) (SP X cc D) X.xe s
def xu (X:Cx)(st:List cZ)(t:TS):Prop:=
 ∀(cc:List (aw×cB)) (s:av) (σ:St) (H:Hp) (D:Ends),Inv X cc σ H s->t D σ H->wpAny (model X.prog X.w) X.A (execs st X.env) (SP X cc D) X.xe s
def j4{t:Sem α}(h:wpAny M A t Q E s)(b:∀a s,Q a s->c a s):wpAny M A t c E s:=cm h b λ_ _ x=>x
section
variable {X:Cx}
def QQ (i:Nat):TE:=λσ H Q=>∃v,σ[i]?=aa (aa v)/\Q v H
def tC (v:V):TE:=λ_ H Q=>Q v H
def Ke(g:X.N[i]?=aa x)(j:Yv X.env.scope x)(hd:(x==(fk:aY))=au:=by decide)(n:(x==(tK:aY))=au:=by decide):PE X (.Name x pos) (QQ i):=by
 intro cc s σ H Q I h;obtain⟨v,e,h⟩:=h;obtain⟨m,hn,o⟩:=I.loc;obtain⟨u,r,l⟩:=o i x v g e j;have b:EP X cc σ Q u s:=⟨v,H,I,r,h⟩;rcases l with⟨a,hm⟩|⟨a,c,hc,f⟩
 .exact ajH (ajA I.ok.kind a hn hm b) hd
 .rcases a with a|a
  .exact ajH (ajF I.ok.kind a hc f b) hd
  .exact ajH (wpAny_loadName_free I.ok.kind a hc f b n) hd
def QR:PE X (.Constant (.int i) j pos) (tC (.int i)):=λ_ _ _ H _ I h=>wpAny_Constant_int ⟨.int i,H,I.tok _,⟨_,rfl⟩,h⟩
def adx:PE X (.Constant (.bool b) j pos) (tC (.bl b)):=λ_ _ _ H _ I h=>Constant_bool ⟨.bl b,H,I,rfl,h⟩
def Z1:PE X (.Constant .none j pos) (tC .non):=λ_ _ _ H _ I h=>Constant_none ⟨.non,H,I,rfl,h⟩
def Z2:PE X (.Constant (.str x) j pos) (tC (.str x)):=λ_ _ _ H _ I h=>Calls.Constant_str ⟨.str x,H,I.tok _,⟨_,rfl⟩,h⟩
def Gl (X:Cx)(x:aY):Prop:=X.env.kindOf x=aa .globalImplicit
def vo(I:Inv X cc σ H s)(a:Gl X x)(hm:X.mg x=aa u)(h:Q u s)
(hd:(x==(fk:aY))=au:=by decide):wpAny (model X.prog X.w) X.A (eval (.Name x pos) X.env) Q E s:=
 Calls.Name_function_global I.ok.kind a (Calls.loadGlobal_global (by rw[I.ok.glob];exact I.mod.glob.keeps I.bk) hm h) hd
def rO(I:Inv X cc σ H s)(a:Gl X x)(hm:X.mg x=ar)(b:bS x=aa u)(h:Q u s)
(hn:x≠me:=by decide)(hd:(x==(fk:aY))=au:=by decide):wpAny (model X.prog X.w) X.A (eval (.Name x pos) X.env) Q E s:=by obtain⟨f,c,e⟩:=I.mod.blt;exact Calls.Name_function_global I.ok.kind a (Calls.loadGlobal_builtin (by rw[I.ok.glob];exact I.mod.glob.keeps I.bk) hm (by rw[I.ok.blt];exact c.keeps I.bk) ((e x hn).trans b) h) hd
def Vo(a:Gl X x)(hm:X.mg x=aa u)(r:RelV v u)(hd:(x==(fk:aY))=au:=by decide):PE X (.Name x pos) (tC v):=
 λ_ _ _ H _ I h=>vo I a hm ⟨v,H,I,r,h⟩ hd
def Vp(a:Gl X x)(hm:X.mg x=ar)(b:bS x=aa u)(r:RelV v u)(hn:x≠me:=by decide)(hd:(x==(fk:aY))=au:=by decide):PE X (.Name x pos) (tC v):=
 λ_ _ _ H _ I h=>rO I a hm b ⟨v,H,I,r,h⟩ hn hd
def tB (t:TE):TT:=λσ H Q=>t σ H λx H1=>∃c,x=.bl c/\Q c H1
def Z3(h:PE X e t)(f:∀c,ajq e X.env c=(do let v<-c;ajO e.pos;holding [v] (truthy v)):=by intro _;rfl):PT X e (tB t):=by intro cc s σ H Q I hw;refine isTrue_plain (j4 (h cc s σ H _ I hw) λv s1 zq=>?_) (f _);obtain⟨x,H1,I1,g,i⟩:=zq;obtain⟨d,rfl,q⟩:=i;cases g;exact cy ⟨H1,I1,q⟩
variable {rest:List bI}
def agr (t u:TT):TT:=λσ H Q=>t σ H λc H1=>if c=ag then u σ H1 Q else Q au H1
def tOr (t u:TT):TT:=λσ H Q=>t σ H λc H1=>if c=ag then Q ag H1 else u σ H1 Q
def ags (t:TT):TT:=λσ H Q=>t σ H λc H1=>Q (!c) H1
def pw_and1(ha:PT X a tA):PW X (.BoolOp .And [a] pos) tA:=by
 intro f cc s σ H Q I h;refine isTrue_and (j4 (ha cc s σ H Q I h) λc s1 e=>?_);cases c with
 |true=>exact isTrue_and_nil e
 |false=>exact e
def pw_or1(ha:PT X a tA):PW X (.BoolOp .Or [a] pos) tA:=by
 intro f cc s σ H Q I h;refine isTrue_or (j4 (ha cc s σ H Q I h) λc s1 e=>?_);cases c with
 |false=>exact isTrue_or_nil e
 |true=>exact e
def pw_and(ha:PT X a tA)(hb:PW X (.BoolOp .And (b::rest) pos) QU):PW X (.BoolOp .And (a::b::rest) pos) (agr tA QU):=by
 intro f cc s σ H Q I h;refine isTrue_and (j4 (ha cc s σ H _ I h) λc s1 g=>?_);obtain⟨H1,I1,e⟩:=g;cases c with
 |true=>exact hb f cc s1 σ H1 Q I1 e
 |false=>exact⟨H1,I1,e⟩
def pw_or(ha:PT X a tA)(hb:PW X (.BoolOp .Or (b::rest) pos) QU):PW X (.BoolOp .Or (a::b::rest) pos) (tOr tA QU):=by
 intro f cc s σ H Q I h;refine isTrue_or (j4 (ha cc s σ H _ I h) λc s1 g=>?_);obtain⟨H1,I1,e⟩:=g;cases c with
 |true=>exact⟨H1,I1,e⟩
 |false=>exact hb f cc s1 σ H1 Q I1 e
def Z4(ha:PT X a tA):PT X (.UnaryOp .Not a pos) (ags tA):=by intro cc s σ H Q I h;exact isTrue_not (ha cc s σ H (λc H1=>Q (!c) H1) I h)
def ady (ta tb:TE):TE:=λσ H Q=>ta σ H λx H1=>∃c,x=.bl c/\if c=ag then tb σ H1 Q else Q (.bl au) H1
def adz (ta:TE):TE:=λσ H Q=>ta σ H λx H1=>∃c,x=.bl c/\Q (.bl (!c)) H1
def Z5(h:PE X a t):PE X (.BoolOp op [a] pos) t:=λcc s σ H Q I hw=>BoolOp_one (h cc s σ H Q I hw)
def Z6(ha:PE X a ta)(hb:PE X (.BoolOp .And (b::rest) pos) tb):PE X (.BoolOp .And (a::b::rest) pos) (ady ta tb):=by
 intro cc s σ H Q I h;refine BoolOp_and (j4 (ha cc s σ H _ I h) λv s1 f=>?_);obtain⟨x,H1,I1,g,e⟩:=f;obtain⟨c,rfl,e⟩:=e;cases g;refine cy ?_;cases c with
 |true=>exact hb cc s1 σ H1 Q I1 e
 |false=>exact⟨.bl au,H1,I1,rfl,e⟩
def Z7(ha:PE X a ta):PE X (.UnaryOp .Not a pos) (adz ta):=by intro cc s σ H Q I h;refine UnaryOp_ (j4 (ha cc s σ H _ I h) λv s1 f=>?_);obtain⟨x,H1,I1,g,e⟩:=f;obtain⟨c,rfl,e⟩:=e;cases g;exact not_of (cy ⟨.bl (!c),H1,I1,rfl,e⟩)
def tIf (t:TT)(ta tb:TE):TE:=λσ H Q=>t σ H λc H1=>if c=ag then ta σ H1 Q else tb σ H1 Q
def QV(hc:PT X c tA)(ha:PE X a ta)(hb:PE X b tb):PE X (.IfExp c a b pos) (tIf tA ta tb):=by
 intro cc s σ H Q I h;refine wpAny_IfExp (j4 (hc cc s σ H _ I h) λd s1 f=>?_);obtain⟨H1,I1,e⟩:=f;cases d with
 |true=>exact ha cc s1 σ H1 Q I1 e
 |false=>exact hb cc s1 σ H1 Q I1 e
end
def l9 (K:af)(H:Hp)(a:aw)(xs:List V):Prop:=
 Rd H a (.lst xs)\/
  ∃(o:cB) (iq:Array ai) (n:Nat),K.lookup a=aa o/\o.cls=.type cr/\o.dict=ar/\o.data=.seq iq n/\iq.size<=aO/\Vals xs iq.toList
def wj (K:af)(H:Hp)(a:aw)(xs:List V):Prop:=
 Rd H a (.tup xs)\/
  ∃(o:cB) (iq:Array ai) (n:Nat),K.lookup a=aa o/\o.cls=.type ej/\o.data=.seq iq n/\iq.size<=aO/\Vals xs iq.toList
noncomputable def agt:ai->Option V
 |.none=>aa .non
 |.bool b=>aa (.bl b)
 |.int i _=>aa (.int i)
 |.str x _=>aa (.str x)
 |.bytes b _=>aa (.Qt b)
 |.float b _=>aa (.ZW b)
 |.ref a=>aa (.ref a)
 |.type n=>aa (.ty n)
 |_=>ar
def RelV.abs(r:RelV x u):agt u=aa x:=by
 cases x with
 |non=>cases r;rfl
 |bl _=>cases r;rfl
 |int _=>obtain⟨t,rfl⟩:=r;rfl
 |str _=>obtain⟨t,rfl⟩:=r;rfl
 |Qt _=>obtain⟨t,rfl⟩:=r;rfl
 |ZW _=>obtain⟨t,rfl⟩:=r;rfl
 |ref _=>cases r;rfl
 |ty _=>cases r;rfl
def RelV.inj(r:RelV x u)(q:RelV y u):x=y:=bF (r.abs.symm.trans q.abs)
theorem Vals.inj:∀{xs a:List V} {us:List ai},Vals xs us->Vals a us->xs=a
 |_,_,_,.nil,.nil=>rfl
 |_,_,_,.cons r t,.cons b c=>by rw[r.inj b,Vals.inj t c]
section
variable {X:Cx} {s:av} {xs:List V}
def l9.of{K:af}(h:H a=aa (.lst xs)):l9 K H a xs:=.inl (.inl h)
def Inv.list(I:Inv X cc σ H s)(h:l9 X.K H a xs):∃iq:List ai,Vals xs iq/\PlainL s.heap a iq.toArray/\xs.length<=aO:=by
 rcases h with h|⟨o,iq,n,b,hc,hd,c,f,r⟩
 .obtain⟨z,iq,n,r,e⟩:=h.ok I.iO;exact⟨iq,r,⟨_,n,e,rfl,rfl,rfl⟩,z⟩
 .refine⟨iq.toList,r,⟨o,n,I.rM a o b,hc,hd,by simpa using c⟩,?_⟩;have e:=r.length;simp only [bZ] at e;exact bG (gB e) f
def Inv.tuple(I:Inv X cc σ H s)(h:wj X.K H a xs):∃iq:List ai,Vals xs iq/\aiJ s.heap a iq.toArray/\xs.length<=aO:=by
 rcases h with h|⟨o,iq,n,b,hc,c,f,r⟩
 .obtain⟨z,iq,r,p⟩:=h.ok I.iO;exact⟨iq,r,p,z⟩
 .refine⟨iq.toList,r,⟨o,I.rM a o b,hc,n,by simpa using c⟩,?_⟩;have e:=r.length;simp only [bZ] at e;exact bG (gB e) f
def Inv.G7(I:Inv X cc σ H s)(h:l9 X.K H a xs)(c:l9 X.K H a ys):xs=ys:=by
 obtain⟨iq,r,⟨o,n,e,_,_,d⟩,_⟩:=I.list h;obtain⟨i,f,⟨j,m,e',_,_,b⟩,_⟩:=I.list c;rw[e] at e';cases e';rw[d] at b;injection b with g _;have:=by simpa using congrArg Array.toList g
 subst this;exact r.inj f
def Inv.DX(I:Inv X cc σ H s)(h:wj X.K H a xs)(c:wj X.K H a ys):xs=ys:=by
 obtain⟨iq,r,⟨o,e,_,n,d⟩,_⟩:=I.tuple h;obtain⟨i,f,⟨j,e',_,m,b⟩,_⟩:=I.tuple c;rw[e] at e';cases e';rw[d] at b;injection b with g _;have:=by simpa using congrArg Array.toList g
 subst this;exact r.inj f
end
abbrev Cx.A7(X:Cx)(E:ai->av->Prop):Cx:={X with xe:=E}
abbrev Cx.DY(X:Cx):Cx:=X.A7 λ_ _=>False
theorem Cx.Ok.A7{X:Cx}(ok:X.Ok)(E:ai->av->Prop):(X.A7 E).Ok:=
 ⟨ok.mod,ok.kind,ok.glob,ok.blt,ok.above,ok.inj,ok.has,ok.ZY,ok.hd,ok.frames,ok.stk,ok.exf,ok.bs,ok.Oh,ok.G5,ok.Kd,ok.vP,ok.QN⟩
def Cx.Ok.rP{X:Cx}(ok:(X.A7 E).Ok):X.Ok:=
 ⟨ok.mod,ok.kind,ok.glob,ok.blt,ok.above,ok.inj,ok.has,ok.ZY,ok.hd,ok.frames,ok.stk,ok.exf,ok.bs,ok.Oh,ok.G5,ok.Kd,ok.vP,ok.QN⟩
section
variable {X:Cx}
theorem Inv.A7(I:Inv X cc σ H s)(E:ai->av->Prop):Inv (X.A7 E) cc σ H s:=⟨I.ok.A7 E,I.os,I.bare,I.cq,I.loc,I.cell,I.free,I.lU,I.pin,I.iO,I.len⟩
theorem Inv.rP(I:Inv (X.A7 E) cc σ H s):Inv X cc σ H s:=⟨I.ok.rP,I.os,I.bare,I.cq,I.loc,I.cell,I.free,I.lU,I.pin,I.iO,I.len⟩
theorem SP.rP(h:SP (X.A7 E) cc D f c):SP X cc D f c:=by
 cases f with
 |next=>obtain⟨a,b,I,q⟩:=h;exact⟨a,b,I.rP,q⟩
 |brk=>obtain⟨a,b,I,q⟩:=h;exact⟨a,b,I.rP,q⟩
 |cont=>obtain⟨a,b,I,q⟩:=h;exact⟨a,b,I.rP,q⟩
 |ret u=>obtain⟨v,a,b,I,r,q⟩:=h;exact⟨v,a,b,I.rP,r,q⟩
theorem PE.DY(h:PE X.DY e t):PE X e t:=λcc s σ H Q I hw=>
 cm (h cc s σ H Q (I.A7 _) hw) (λ_ _ zq=>by obtain⟨v,a,b,r,q⟩:=zq;exact ⟨v,a,b.rP,r,q⟩) λ_ _ z=>cu z
theorem xu.DY{st:List cZ}(h:xu X.DY st t):xu X st t:=λcc s σ H D I hw=>
 cm (h cc s σ H D (I.A7 _) hw) (λ_ _ q=>q.rP) λ_ _ z=>cu z
end
section
variable {X:Cx} {st:cZ} {rest:List cZ} {t:TS} {pos:eB}
def adA:TS:=λD σ H=>D.nx σ H
def adB (t u:TS):TS:=λD σ H=>t {D with nx:=u D} σ H
def Vq:xu X [] adA:=λ_ _ σ H _ I h=>gK ⟨σ,H,I,h⟩
def G8(a:PS X st t)(b:xu X rest u):xu X (st::rest) (adB t u):=by
 intro cc s σ H D I h;refine aj2 (j4 (a cc s σ H _ I h) λf s1 q=>?_);cases f with
 |next=>
  obtain⟨c,g,i,q⟩:=q;exact b cc s1 c g D i q
 |ret v=>exact q
 |brk=>exact q
 |cont=>exact q
def MB(a:PS X st t):xu X [st] t:=by
 intro cc s σ H D I h;refine aj2 (j4 (a cc s σ H D I h) λf s1 q=>?_);cases f with
 |next=>exact gK q
 |ret v=>exact q
 |brk=>exact q
 |cont=>exact q
def Inv.quiet(I:Inv X cc σ H s):interactive X.env=au:=by simp[interactive,I.ok.kind]
def adC (te:TE):TS:=λD σ H=>te σ H λ_ H1=>D.nx σ H1
def MC(a:PE X e te)(b:eO e ar pos.line X.env=pure au:=by rfl):PS X (.Expr e pos) (adC te):=by intro cc s σ H D I h;exact wpAny_Expr_any (j4 (a cc s σ H _ I h) λv s1 zq=>by obtain⟨x,H1,I1,f,c⟩:=zq;exact ⟨σ,H1,I1,c⟩) I.quiet b
def agu (te:TE):TS:=λD σ H=>te σ H D.rt
def Z8(a:PE X e te):PS X (.Return (aa e) pos) (agu te):=by intro cc s σ H D I h;exact wpAny_Return_some (j4 (a cc s σ H _ I h) λv s1 zq=>by obtain⟨x,H1,I1,b,c⟩:=zq;exact ⟨x,σ,H1,I1,b,c⟩)
def agv (c:TT)(t u:TS):TS:=λD σ H=>c σ H λb H1=>if b=ag then t D σ H1 else u D σ H1
def YB(hc:PT X c tc)(ha:xu X a t)(hb:xu X b u):PS X (.If c a b pos) (agv tc t u):=by
 intro cc s σ H D I h;refine wpAny_If (j4 (hc cc s σ H _ I h) λd s1 g=>?_);obtain⟨H1,I1,f⟩:=g;cases d with
 |true=>exact ha cc s1 σ H1 D I1 f
 |false=>exact hb cc s1 σ H1 D I1 f
def Z9:TS:=λ_ _ _=>False
def QX:PS X st Z9:=λ_ _ _ _ _ _ h=>h.elim
end
abbrev TG:=V->St->Hp->(St->Hp->Prop)->Prop
abbrev TGs:=List V->St->Hp->(St->Hp->Prop)->Prop
def PG (X:Cx)(target:bI)(t:TG):Prop:=
 ∀(cc:List (aw×cB)) (s:av) (σ:St) (H:Hp) (v:V) (u:ai) (Q:St->Hp->Prop),Inv X cc σ H s->RelV v u->t v σ H Q->
  wpAny (model X.prog X.w) X.A (assign target X.env u) (λ_ c=>∃a b,Inv X cc a b c/\Q a b) X.xe s
def QY (X:Cx)(e:List bI)(t:TGs):Prop:=
 ∀(cc:List (aw×cB)) (s:av) (σ:St) (H:Hp) (a:List V) (us:List ai) (Q:St->Hp->Prop),Inv X cc σ H s->Vals a us->t a σ H Q->
  wpAny (model X.prog X.w) X.A (assignInOrder ((eG e X.env).map (·.2)) us) (λ_ f=>∃b c,Inv X cc b c f/\Q b c) X.xe s
abbrev TIp:=V->V->Hp->VK->Prop
def PIp (X:Cx)(op:ai8)(t:TIp):Prop:=
 ∀(cc:List (aw×cB)) (s:av) (σ:St) (H:Hp) (x y:V) (v u:ai) (Q:VK),Inv X cc σ H s->RelV x v->RelV y u->t x y H Q->
  wpAny (model X.prog X.w) X.A (aj3 op v u) (EP X cc σ Q) X.xe s
section
variable {X:Cx} {pos:eB}
def YC (i:Nat):TG:=λv σ H Q=>Q (σ.set i (aa v)) H
def Vr(a:X.N.Nodup)(hi:X.N[i]?=aa x)(b:Loc X.env.scope x)(c:X.fn x=ag\/X.env.scope.names.lookup x=aa .local:=by first|exact .inl rfl|exact .inr rfl|assumption):PG X (.Name x pos) (YC i):=by intro cc s σ H v u Q I r h;exact ajP (A4 I a hi b r (λf e=>⟨_,H,e,h⟩) c)
def agw:TGs:=λa σ H Q=>a=[]/\Q σ H
def adD (t:TG)(u:TGs):TGs:=λa σ H Q=>∃v r,a=v::r/\t v σ H λb c=>u r b c Q
def Vs:QY X [] agw:=by intro cc s σ H a us Q I r h;obtain⟨e,h⟩:=h;exact assignInOrder_nil ⟨σ,H,I,h⟩
def QZ(a:PG X e t)(b:QY X es u)
(c:(eG (e::es) X.env).map (·.2)=assign e X.env::(eG es X.env).map (·.2):=by rfl):QY X (e::es) (adD t u):=by
 intro cc s σ H m us Q I r h;obtain⟨v,n,e1,h⟩:=h;subst e1;cases r with
 |cons r f=>
  rw[c];refine assignInOrder_cons (j4 (a cc s σ H _ _ _ I r h) λ_ s1 g=>?_);obtain⟨i,H1,I1,j⟩:=g;exact b cc s1 i H1 _ _ Q I1 f j
def agx (K:af)(n:Nat)(t:TGs):TG:=λv σ H Q=>∃a xs,v=.ref a/\wj K H a xs/\xs.length=n/\t xs σ H Q
def aab(hc:X.calm=ag)(h:QY X es t)
(hn:(eG es X.env).length=n:=by rfl)(f:(eG es X.env).findIdx? (·.1)=ar:=by rfl):PG X (.Tuple es k pos) (agx X.K n t):=by intro cc s σ H v u Q I r hw;obtain⟨a,xs,e1,g,i,hw⟩:=hw;subst e1;cases r;obtain⟨iq,c,ht,m⟩:=I.tuple g;refine assign_Tuple_tuple (I.ok.hd hc) ht (by simp[hn,<-i,c.length]) f λp j=>?_;have I1:=I.kept (t':=s.toks) λb o e=>j b o (bd (aM e)) e;exact h cc _ σ H xs _ Q I1 (by simpa using c) hw
def adE (a:TE)(g:TG):TS:=λD σ H=>a σ H λx H1=>g x σ H1 D.nx
def aac(a:PE X e b)(c:PG X tg g)(f:akl [tg] e pos.line X.env=pure au:=by rfl)(hw:akm [tg] e X.env=pure ar:=by rfl)
(i:(eG [tg] X.env).map (·.2)=[assign tg X.env]:=by rfl):PS X (.Assign [tg] e pos) (adE b g):=by intro cc s σ H D I h;refine wpAny_Assign_stores (j4 (a cc s σ H _ I h) λv s1 zq=>?_) f hw;obtain⟨x,H1,I1,j,m⟩:=zq;rw[i];exact j4 (c cc s1 σ H1 x v _ I1 j m) λ_ s2 q=>q
def aad(a:X.N.Nodup)(hi:X.N[i]?=aa x)(b:Loc X.env.scope x)(c:PE X e f)(g:eO e (aa (.Name x j)) pos.line X.env=pure au:=by rfl)(m:X.fn x=ag\/X.env.scope.names.lookup x=aa .local:=by first|exact .inl rfl|exact .inr rfl|assumption):
  PS X (.Assign [.Name x j] e pos) (adE f (YC i)):=by intro cc s σ H D I h;refine wpAny_Assign_Name (j4 (c cc s σ H _ I h) λv s1 zq=>?_) g;obtain⟨y,H1,I1,n,o⟩:=zq;exact A4 I1 a hi b n (λs2 p=>⟨_,H1,p,o⟩) m
def agy (i:Nat)(a:TE)(b:TIp):TS:=λD σ H=>∃x,σ[i]?=aa (aa x)/\a σ H λy H1=>b x y H1 λz c=>D.nx (σ.set i (aa z)) c
def aae(g:X.N.Nodup)(hi:X.N[i]?=aa x)(b:Loc X.env.scope x)(j:PE X e n)(o:PIp X op p)(q:X.fn x=ag\/X.env.scope.names.lookup x=aa .local:=by first|exact .inl rfl|exact .inr rfl|assumption):
  PS X (.AugAssign (.Name x Y) op e pos) (agy i n p):=by
 intro cc s σ H D I h;obtain⟨v,e1,h⟩:=h;obtain⟨m,hn,B⟩:=I.loc;have tR:Yv X.env.scope x:=by rcases b with k|k;exact .inl k;exact .inr (.inl k)
 obtain⟨u,r,l⟩:=B i x v hi e1 tR;refine wpAny_AugAssign_Name ?_;have go:wpAny (model X.prog X.w) X.A (eval e X.env) (λw C=>wpAny (model X.prog X.w) X.A (aj3 op u w) (λr E=>wpAny (model X.prog X.w) X.A (aj1 X.env x r) (λ_=>SP X cc D .next) X.xe E) X.xe C) X.xe s:=by refine j4 (j cc s σ H _ I h) λw s1 f=>?_;obtain⟨y,H1,I1,G,J⟩:=f;refine j4 (o cc s1 σ H1 v y u w _ I1 r G J) λz s2 f=>?_;obtain⟨zv,L,M,O,Q⟩:=f;exact A4 M g hi b O (λs3 T=>⟨_,L,T,Q⟩) q
 rcases l with⟨a,hm⟩|⟨a,c,hc,U⟩
 .exact ajA I.ok.kind a hn hm go
 .rcases a with a|a
  .exact ajF I.ok.kind a hc U go
  .rcases b with k|k
   .have:X.env.scope.names.lookup x=aa .free:=a;rw[k] at this;cases this
   .have:X.env.scope.names.lookup x=aa .free:=a;rw[k] at this;cases this
end
section
variable {X:Cx}
def aaf (c:TT)(tb:TS):TS:=λD σ H=>∃W:Nat->St->Hp->Prop,(∃m,W m σ H)/\∀m σ H,W m σ H->
 c σ H λb H1=>if b=ag then∃N:St->Hp->Prop,(∀a e,N a e->∃f,f<m/\W f a e)/\tb {D with nx:=N,ct:=N,bk:=D.nx} σ H1 else D.nx σ H1
def Q1{c:bI}{body:List cZ}{tc:TT}{tb:TS}(u:gY (model X.prog X.w) X.A X.env X.xe)(hc:PT X c tc)(hb:xu X body tb):PS X (.While c body [] pos) (aaf tc tb):=by
 intro cc s σ H D I h;obtain⟨W,⟨m0,E⟩,turn⟩:=h;refine wpAny_While (codeAny_whileLoop (λn G=>∃x y,Inv X cc x y G/\W n x y) ?_ m0 ⟨σ,H,I,E⟩);intro n s1 m;obtain⟨g,H1,I1,J⟩:=m;refine eN u (j4 (hc cc s1 g H1 _ I1 (turn n g H1 J)) λb s2 m=>?_);obtain⟨z,B,i⟩:=m;cases b with
 |true=>
  obtain⟨N,C,i⟩:=i;rw[if_pos rfl];refine eN u (j4 (hb cc s2 g z _ B i) λf s3 j=>?_);cases f with
  |next=>
   obtain⟨a,e,o,p⟩:=j;obtain⟨q,hm,r⟩:=C a e p;exact⟨q,hm,a,e,o,r⟩
  |cont=>
   obtain⟨a,e,o,p⟩:=j;obtain⟨q,hm,r⟩:=C a e p;exact⟨q,hm,a,e,o,r⟩
  |brk=>exact j
  |ret v=>exact j
 |false=>
  rw[if_neg aS];exact gK ⟨g,z,B,i⟩
end
structure It where
 go:Nat->Hp->Prop
 yld:Nat->Hp->V->Hp->Prop
 stop:Nat->Hp->Prop
def rQ (X:Cx)(cc:List (aw×cB))(H:Hp)(b:aw):Prop:=
 H b=ar/\b≠X.env.locals/\b∉X.fs/\(b∈X.ex\/X.iA.heap.objs.size<=b)/\(∀x c,X.env.cells.lookup x=aa c->c≠b)/\∀p∈X.pn++cc,p.1≠b
def Inv.G9(I:Inv X cc σ H s)(hb:s.heap.objs.size<=b)(hn:a b=ar):rQ X cc a b:=by
 refine⟨hn,dh (bw I.lt hb),I.ZZ hb,.inr (bG I.sz hb),λx c e z=>?_,λp f z=>?_⟩
 .obtain⟨v,q⟩:=I.cell x c e;exact absurd (bw q.lt (by rw[z];exact hb)) (cC _)
 .exact absurd (bw (aM (I.pin p f).1) (by rw[z];exact hb)) (cC _)
structure Turn(P:bc)(w:bJ)(K:af)(tg:bI)(J:It)(fp:List aw)(it:aw)(tn:Nat->aC->Prop):Prop where
 mem:it∈fp
 obj:∀i h,tn i h->∀b∈fp,∃o,h.get? b=aa o/\∀v,o.data≠.cell v
 keep:∀i h h',tn i h->(∀b∈fp,∀o,h.get? b=aa o->h'.get? b=aa o)->tn i h'
 item:∀(X:Cx),X.prog=P->X.w=w->X.K=K->X.calm=ag->∀(i:Nat) (cc:List (aw×cB)) (s:av) (σ:St) (H:Hp) (E:ai->av->Prop),Inv X cc σ H s->(∀b∈fp,rQ X cc H b)->tn i s.heap->J.go i H->
  wpAny (model P w) X.A (pyNext (.ref it)) (λr s1=>∃u,r=aa u/\
   wpAny (model P w) X.A (letOwnedTupleGo tg (.ref it) u) (λ_ s2=>∃x H',Inv X cc σ H' s2/\RelV x u/\J.yld i H x H'/\tn (i+1) s2.heap/\∀b∈fp,H' b=ar) E s1) E s
 done:∀(X:Cx),X.prog=P->X.w=w->X.K=K->X.calm=ag->∀(i:Nat) (cc:List (aw×cB)) (s:av) (σ:St) (H:Hp) (E:ai->av->Prop),Inv X cc σ H s->(∀b∈fp,rQ X cc H b)->tn i s.heap->J.stop i H->
  wpAny (model P w) X.A (pyNext (.ref it)) (λr s1=>r=ar/\Inv X cc σ H s1) E s
 self:∀(A:bH) (i:Nat) (s:av) (Q:ai->av->Prop) (E:ai->av->Prop),tn i s.heap->Q (.ref it) s->wpAny (model P w) A (ai9 (.ref it)) Q E s
abbrev TI:=St->Hp->(It->Hp->Prop)->Prop
def PIE (X:Cx)(cc:List (aw×cB))(σ:St)(tg:bI)(R:It->Hp->Prop)(a:ai)(s2:av):Prop:=
 ∃(it:aw) (e:List aw) (f:Nat->aC->Prop) (J:It) (c:Hp),a=.ref it/\Inv X cc σ c s2/\Turn X.prog X.w X.K tg J e it f/\f 0 s2.heap/\(∀b∈e,rQ X cc c b)/\R J c
def PI (X:Cx)(tg iter:bI)(wi:TI):Prop:=
 ∀(cc:List (aw×cB)) (s:av) (σ:St) (H:Hp) (R:It->Hp->Prop),Inv X cc σ H s->wi σ H R->
  wpAny (model X.prog X.w) X.A (eval iter X.env) (λv s1=>wpAny (model X.prog X.w) X.A (ai9 v) (PIE X cc σ tg R) X.xe s1) X.xe s
def Ha(b:s.heap.get? it=aa o)(hc:o.cls=.type n)(hd:o.data=.fields c)
(hn:[jE,iv,zl,uaD,uaE,uaF,uaG].contains n=au)(a:Q () s):wpAny M A (letOwnedTupleGo tg (.ref it) u) Q E s:=by
 cases tg<;>first
  |exact ay a
  | (cases u<;>first
    |exact ay a
    | (refine ae (wpAny_load b ?_)
       rw[hc,hd];show wpAny M A (if([jE,iv,zl,uaD,uaE,uaF,uaG].contains n&&c[0]?==aa _)=ag then _ else _) Q E s;rw[if_neg (by intro h;rw[hn] at h;cases h)];exact ay a))
noncomputable def Itl(K:af)(a:aw):It:=
 ⟨λi H=>∃xs x,l9 K H a xs/\xs[i]?=aa x,λi H x b=>b=H/\∀xs,l9 K H a xs->xs[i]?=aa x,λi H=>∃xs,l9 K H a xs/\xs.length<=i⟩
noncomputable def Itt(K:af)(a:aw):It:=
 ⟨λi H=>∃xs x,wj K H a xs/\xs[i]?=aa x,λi H x b=>b=H/\∀xs,wj K H a xs->xs[i]?=aa x,λi H=>∃xs,wj K H a xs/\xs.length<=i⟩
noncomputable def Itr(lo:Int)(n:Nat):It:=⟨λi _=>i<n,λi H x a=>a=H/\x=.int (lo+i),λi _=>n<=i⟩
def Oi{K:af}(a it:aw):Turn P w K tg (Itl K a) [it] it (λi h=>h.IsListIter it a i) where
 mem:=by simp
 obj:=λi h st b hb=>by
  have e:b=it:=by simpa using hb
  subst e;obtain⟨o,e,c,d⟩:=st;exact⟨o,e,λv z=>by rw[d] at z;cases z⟩
 keep:=λi h G st k=>st.at λo e=>k it (by simp) o e
 item:=by intro X j hw m hc i cc s σ H E I f st n;subst j hw m;obtain⟨xs,x,g,q⟩:=n;obtain⟨iq,r,p,L⟩:=I.list g;obtain⟨u,M,N⟩:=r.get q;obtain⟨f0,y,O,A,B,C⟩:=f it (by simp);refine wpAny_pyNext_list_item st p.isList (x:=u) (by simpa using M) λG J sb=>?_;have I1:=I.turned (t':=s.toks) (λb o hb e=>(sb.2 b hb).trans e) f0 y A B C;obtain⟨o,e,c,d⟩:=id J;exact⟨u,rfl,Ha e c d (by decide) ⟨x,H,I1,N,⟨rfl,λY Q=>by rw[I.G7 Q g];exact q⟩,J,λb hb=>(f b hb).1⟩⟩
 done:=by intro X j hw m hc i cc s σ H E I f st n;subst j hw m;obtain⟨xs,g,q⟩:=n;obtain⟨iq,r,p,L⟩:=I.list g;obtain⟨f0,y,O,A,B,C⟩:=f it (by simp);have hl:=r.length;exact wpAny_pyNext_list_end (I.ok.hd hc) st p.isList (by simp;exact hl▸q) λG T=>⟨rfl,I.turned (λb o hb e=>T b o hb e) f0 y A B C⟩
 self:=λ_ _ _ _ _ st h=>wpAny_pyIter_listiter st h
def Kg{w:bJ}{K:af}{tg:bI}(a it:aw):Turn P w K tg (Itt K a) [it] it (λi h=>h.IsTupleIter it a i) where
 mem:=by simp
 obj:=λi h st b hb=>by
  have e:b=it:=by simpa using hb
  subst e;obtain⟨o,e,c,d⟩:=st;exact⟨o,e,λv z=>by rw[d] at z;cases z⟩
 keep:=λi h G st k=>st.at λo e=>k it (by simp) o e
 item:=by intro X j hw m hc i cc s σ H E I f st n;subst j hw m;obtain⟨xs,x,g,q⟩:=n;obtain⟨iq,r,p,L⟩:=I.tuple g;obtain⟨u,M,N⟩:=r.get q;obtain⟨f0,y,O,A,B,C⟩:=f it (by simp);refine wpAny_pyNext_tuple_item st (p) (x:=u) (by simpa using M) λG J sb=>?_;have I1:=I.turned (t':=s.toks) (λb o hb e=>(sb.2 b hb).trans e) f0 y A B C;obtain⟨o,e,c,d⟩:=id J;exact⟨u,rfl,Ha e c d (by decide) ⟨x,H,I1,N,⟨rfl,λY Q=>by rw[I.DX Q g];exact q⟩,J,λb hb=>(f b hb).1⟩⟩
 done:=by intro X j hw m hc i cc s σ H E I f st n;subst j hw m;obtain⟨xs,g,q⟩:=n;obtain⟨iq,r,p,L⟩:=I.tuple g;obtain⟨f0,y,O,A,B,C⟩:=f it (by simp);have hl:=r.length;exact wpAny_pyNext_tuple_end (I.ok.hd hc) st (p) (by simp;exact hl▸q) λG T=>⟨rfl,I.turned (λb o hb e=>T b o hb e) f0 y A B C⟩
 self:=λ_ _ _ _ _ st h=>wpAny_pyIter_tupleiter st h
def Kh{K:af}(it:aw)(lo:Int)(n:Nat):Turn P w K tg (Itr lo n) [it] it (λi h=>IsRangeIter h it (lo+(i:Nat)*1) ((n:Int)- (i:Nat)) 1) where
 mem:=by simp
 obj:=λi h st b hb=>by
  have e:=by simpa using hb
  subst e;exact⟨_,st,λv z=>by have x:=z;cases x⟩
 keep:=λi h a st k=>k it (by simp) _ st
 item:=by intro X q hw r hc i cc s σ H E I c st f;subst q hw r;obtain⟨f0,g,y,j,m,p⟩:=c it (by simp);have W:=aiR.range (prog:=X.prog) (w:=X.w) (I.ok.hd hc) it lo 1 n;refine W.item i s _ _ f st λv a tk A u B=>?_;obtain⟨t,rfl⟩:=A;have I1:Inv X cc σ H {s with heap:=a,toks:=tk}:=I.turned (λb o hb e=>B b o (by simpa using hb) e) f0 g j m p;refine⟨_,rfl,Ha (s:={s with heap:=a,toks:=tk}) u rfl rfl (by decide) ⟨.int (lo+i),H,I1,⟨t,?_⟩,⟨rfl,rfl⟩,u,λb hb=>(c b hb).1⟩⟩;rw[Int.mul_one]
 done:=by intro X q hw r hc i cc s σ H E I c st f;obtain⟨f0,g,y,j,m,p⟩:=c it (by simp);exact wpAny_pyNext_range_end (I.ok.hd hc) st (by have:n<=i:=f;lia) λa C=>⟨rfl,I.turned (λb o hb e=>C b o hb e) f0 g j m p⟩
 self:=λ_ _ _ _ _ st h=>wpAny_pyIter_rangeiter st h
section
variable {X:Cx}
def Q2{lo hi:Int}(I:Inv X cc σ H s)(a:-(2^62)<=lo)(c:lo<2^62)(f:-(2^62)<=hi)(g:hi<2^62)
(q:R (Itr lo (hi- lo).toNat) H):wpAny (model X.prog X.w) X.A (ai9 (.ref s.heap.objs.size)) (PIE X cc σ tg R) E {s with heap:=s.heap.push {cls:=.type mr,data:=.fields #[.int lo t,.int hi u,.int 1 v]},toks:=tk}:=by
 refine wpAny_pyIter_range (IsRange.new ..) (small_one a c f g) ?_;have I1:Inv X cc σ H {s with heap:=s.heap.push {cls:=.type mr,data:=.fields #[.int lo t,.int hi u,.int 1 v]},toks:=tk}:=I.kept λb o e=>aj _ e;refine⟨(s.heap.push _).objs.size,[(s.heap.push _).objs.size],_,_,H,rfl,
  I1.kept λb o e=>aj _ e,Kh _ lo _,?_,λb hb=>?_,q⟩
 .have e1:lo+((0:Nat):Int)*1=lo:=by simp
  have e2:(((hi- lo).toNat:Nat):Int)- ((0:Nat):Int)=bM.Range.rangeSize lo hi 1:=by rw[rangeSize_one];split<;>lia
  rw[e1,e2];exact aP _ rfl
 .have e:b=(s.heap.push {cls:=.type mr,data:=.fields #[.int lo t,.int hi u,.int 1 v]}).objs.size:=by simpa using hb
  subst e;exact I1.G9 (aD _) (I1.iO.fresh (aD _))
def adF (a:TA):TI:=λσ H R=>a σ H λb H1=>∃j:Int,b=[.int j]/\-(2^62)<=j/\j<2^62/\R (Itr 0 j.toNat) H1
def Oj(c:Gl X mr)(hm:X.mg mr=ar)(ha:PA X [a] f)(g:bg [a] X.env=[(au,eval a X.env)]:=by rfl):PI X tg (.Call (.Name mr p) [a] [] pos) (adF f):=by
 intro cc s σ H R I h;refine Call_ (rO I c hm boot_range (cM (j4 (ha pos cc s σ H _ I h) λus s1 zq=>?_) g rfl));obtain⟨o,H1,I1,i,b⟩:=zq;obtain⟨j,e,b,m,q⟩:=b;subst e;cases i with
 |cons r n=>
  cases n;obtain⟨t,rfl⟩:=r;exact call_range_1 (Q2 I1 (by exact Int.natCast_nonneg _) (by exact Int.natCast_nonneg _) b m (by simpa using q))
def agz (wi:TI)(g:TG)(tb:TS):TS:=λD σ H=>wi σ H λJ H1=>∃W:Nat->Nat->St->Hp->Prop,(∃m,W 0 m σ H1)/\∀i m σ H,W i m σ H->
 (J.stop i H/\D.nx σ H)\/(J.go i H/\∃N:St->Hp->Prop,(∀b a,N b a->∃c,c<m/\W (i+1) c b a)/\∀x a,J.yld i H x a->g x σ a λe f=>tb {D with nx:=N,ct:=N,bk:=D.nx} e f)
noncomputable def A8(a:List aw)(h:aC):List (aw×cB):=a.filterMap λb=>(h.get? b).map λo=>(b,o)
def rR(hb:b∈a)(e:h.get? b=aa o):(b,o)∈A8 a h:=List.mem_filterMap.mpr ⟨b,hb,by rw[e];rfl⟩
def Ol(a:p∈A8 c h):p.1∈c/\h.get? p.1=aa p.2:=by
 obtain⟨b,hb,e⟩:=List.mem_filterMap.mp a;cases q:h.get? b with
 |none=>rw[q] at e;cases e
 |some o=>
  rw[q] at e;have e':=bF e;subst e';exact⟨hb,q⟩
def Inv.pinned(I:Inv X cc σ H s)(c:∀b∈a,rQ X cc H b)(f:∀b∈a,∃o,s.heap.get? b=aa o/\∀v,o.data≠.cell v):Inv X (cc++A8 a s.heap) σ H s:=
 I.My λp g=>(bt.mp g).elim (λz=>I.pin p (bL _ z)) λz=>by obtain⟨hb,e⟩:=Ol z;obtain⟨f0,h,i,_⟩:=c p.1 hb;obtain⟨o,e',d⟩:=f p.1 hb;rw[e] at e';cases e';exact⟨e,f0,h,i,d⟩
def Inv.xv(I:Inv X (cc++pl) σ H s):Inv X cc σ H s:=I.My λp a=>I.pin p (bL _ (bV _ a))
def aag(B:gY (model X.prog X.w) X.A X.env X.xe)(hc:X.calm=ag)(hi:PI X tg iter wi)(hg:PG X tg g)(hb:xu X body tb)
(hs:∀x,de iter X.env x=pure x:=by intro _;rfl):PS X (.For tg iter body [] pos) (agz wi g tb):=by
 intro cc s σ H D I h;refine wpAny_For (j4 (hi cc s σ H _ I h) λv s1 h1=>j4 h1 λitv s2 h2=>?_) hs;obtain⟨it,C,tn,J,H2,e,I2,T,U,f2,W,⟨m0,w0⟩,turn⟩:=h2;subst e;have Y:∀{p:Hp},(∀b∈C,p b=ar)->∀b∈C,rQ X cc p b:=λhn b hb=>⟨hn b hb,(f2 b hb).2⟩;refine codeAny_forLoop_any (λn s'=>∃i E p,Inv X cc E p s'/\tn i s'.heap/\(∀b∈C,p b=ar)/\W i n E p) ?_ m0 ⟨0,σ,H2,I2,U,λb hb=>(f2 b hb).1,w0⟩;intro n s3 q;obtain⟨i,G,Q,I3,L,M,w3⟩:=q;rcases turn i n G Q w3 with⟨stop,qn⟩|⟨go,N,hN,step⟩
 .refine eN B (j4 (T.done X rfl rfl rfl hc i cc s3 G Q X.xe I3 (Y M) L stop) λr s4 q=>?_);obtain⟨hr,I4⟩:=q;subst hr;exact gK ⟨G,Q,I4,qn⟩
 .refine eN B (j4 (T.item X rfl rfl rfl hc i cc s3 G Q X.xe I3 (Y M) L go) λr s4 q=>?_);obtain⟨u,hr,h4⟩:=q;subst hr;refine eN B (j4 h4 λ_ s5 q=>?_);obtain⟨x,H5,I5,r5,y5,z,fr5⟩:=q;have I5':=I5.pinned (Y fr5) (T.obj _ _ z);refine eN B (j4 (hg _ s5 G H5 x u _ I5' r5 (step x H5 y5)) λ_ s6 q=>?_);obtain⟨σ6,H6,I6,q6⟩:=q;refine eN B (j4 (hb _ s6 σ6 H6 _ I6 q6) λf s7 y=>?_);have again:∀{a:St} {c:Hp},Inv X (cc++A8 C s5.heap) a c s7->N a c->∃m,m<n/\∃i E p,Inv X cc E p s7/\tn i s7.heap/\(∀b∈C,p b=ar)/\W i m E p:=λ{a c} j O=>by obtain⟨m',hm,w7⟩:=hN a c O;refine⟨m',hm,i+1,a,c,j.xv,T.keep _ _ _ z λb hb o e=>(j.pin (b,o) (bL _ (bL _ (rR hb e)))).1,λb hb=>?_,w7⟩;obtain⟨o,e,d⟩:=T.obj _ _ z b hb;exact(j.pin (b,o) (bL _ (bL _ (rR hb e)))).2.1
  cases f with
  |next=>obtain⟨a,c,j,O⟩:=y;exact again j O
  |cont=>obtain⟨a,c,j,O⟩:=y;exact again j O
  |brk=>obtain⟨a,c,j,y⟩:=y;exact⟨a,c,j.xv,y⟩
  |ret v=>obtain⟨x7,a,c,j,r7,y⟩:=y;exact⟨x7,a,c,j.xv,r7,y⟩
end
abbrev R2:=V->V->Hp->VK->Prop
def rS (X:Cx)(f:ai->ai->Sem ai)(r:R2):Prop:=
 ∀(cc:List (aw×cB)) (s:av) (σ:St) (H:Hp) (x y:V) (v u:ai) (Q:VK),Inv X cc σ H s->RelV x v->RelV y u->r x y H Q->
  wpAny (model X.prog X.w) X.A (f v u) (EP X cc σ Q) X.xe s
def UnR (X:Cx)(f:ai->Sem ai)(r:V->Hp->VK->Prop):Prop:=
 ∀(cc:List (aw×cB)) (s:av) (σ:St) (H:Hp) (x:V) (v:ai) (Q:VK),Inv X cc σ H s->RelV x v->r x H Q->
  wpAny (model X.prog X.w) X.A (f v) (EP X cc σ Q) X.xe s
def lV (X:Cx)(f:ai)(r:List V->Hp->VK->Prop):Prop:=
 ∀(cc:List (aw×cB)) (s:av) (σ:St) (H:Hp) (xs:List V) (us:List ai) (Q:VK),Inv X cc σ H s->Vals xs us->r xs H Q->
  wpAny (model X.prog X.w) X.A (call f us) (EP X cc σ Q) X.xe s
def tOp (r:R2)(a tb:TE):TE:=λσ H Q=>a σ H λx H1=>tb σ H1 λy b=>r x y b Q
def tUn (r:V->Hp->VK->Prop)(a:TE):TE:=λσ H Q=>a σ H λx H1=>r x H1 Q
def rI (C:Int->Int->Prop)(g:Int->Int->V):R2:=λx y H Q=>∃i j,x=.int i/\y=.int j/\C i j/\Q (g i j) H
def YD (g:Int->Int->V):R2:=λx y H Q=>∃i j,x=.int i/\y=.int j/\Q (g i j) H
def rU (g:Int->V):V->Hp->VK->Prop:=λx H Q=>∃i,x=.int i/\Q (g i) H
section
variable {X:Cx}
def aah(ha:PE X a ta)(hb:PE X b tb){R:V->V->Hp->Prop}(I:Inv X cc σ H s)
(h:ta σ H λx H1=>tb σ H1 λy e=>R x y e){f:ai->ai->Sem ai}
(i:∀v u s2 x y e,Inv X cc σ e s2->RelV x v->RelV y u->R x y e->wpAny (model X.prog X.w) X.A (f v u) Q X.xe s2):
  wpAny (model X.prog X.w) X.A (eval a X.env) (λv j=>wpAny (model X.prog X.w) X.A (eval b X.env) (λu m=>wpAny (model X.prog X.w) X.A (f v u) Q X.xe m) X.xe j) X.xe s:=by refine j4 (ha cc s σ H _ I h) λv s1 g=>?_;obtain⟨x,H1,I1,n,o⟩:=g;refine j4 (hb cc s1 σ H1 _ I1 o) λu s2 g=>?_;obtain⟨y,e,p,q,r⟩:=g;exact i v u s2 x y e p n q r
def YE(e:rS X (binaryOp op) r)(ha:PE X a ta)(hb:PE X b tb):PE X (.BinOp a op b pos) (tOp r ta tb):=by intro cc s σ H Q I h;exact wpAny_BinOp (aah ha hb I h λv u s2 x y f g i j q=>e cc s2 σ f x y v u Q g i j q)
def adG(e:UnR X (unaryOp op) r)(ha:PE X a ta):PE X (.UnaryOp op a pos) (tUn r ta):=by intro cc s σ H Q I h;exact UnaryOp_ (j4 (ha cc s σ H _ I h) λv s1 zq=>by obtain⟨x,H1,I1,f,g⟩:=zq;exact e cc s1 σ H1 x v Q I1 f g)
def opI{g:Int->Int->Int}
(rule:∀(i j:Int) (t u:akc) (s:av) (Q:ai->av->Prop) (E:ai->av->Prop),C i j->Q (.int (g i j) s.toks) {s with toks:=s.toks+1}->wpAny (model X.prog X.w) X.A (f (.int i t) (.int j u)) Q E s):
  rS X f (rI C λi j=>.int (g i j)):=by intro cc s σ H x y v u Q I e m h;obtain⟨i,j,rfl,rfl,hc,q⟩:=h;obtain⟨t,rfl⟩:=e;obtain⟨n,rfl⟩:=m;exact rule i j t n s _ _ hc ⟨.int (g i j),H,I.tok _,⟨_,rfl⟩,q⟩
def aai{g:Int->Int->Int}
(rule:∀(i j:Int) (t u:akc) (s:av) (Q:ai->av->Prop) (E:ai->av->Prop),Q (.int (g i j) s.toks) {s with toks:=s.toks+1}->wpAny (model X.prog X.w) X.A (f (.int i t) (.int j u)) Q E s):
  rS X f (YD λi j=>.int (g i j)):=by intro cc s σ H x y v u Q I e m h;obtain⟨i,j,rfl,rfl,q⟩:=h;obtain⟨t,rfl⟩:=e;obtain⟨n,rfl⟩:=m;exact rule i j t n s _ _ ⟨.int (g i j),H,I.tok _,⟨_,rfl⟩,q⟩
def aaj{g:Int->Int->Bool}
(rule:∀(i j:Int) (t u:akc) (s:av) (Q:ai->av->Prop) (E:ai->av->Prop),Q (.bool (g i j)) s->wpAny (model X.prog X.w) X.A (f (.int i t) (.int j u)) Q E s):
  rS X f (YD λi j=>.bl (g i j)):=by intro cc s σ H x y v u Q I e m h;obtain⟨i,j,rfl,rfl,q⟩:=h;obtain⟨t,rfl⟩:=e;obtain⟨n,rfl⟩:=m;exact rule i j t n s _ _ ⟨.bl (g i j),H,I,rfl,q⟩
def E3 (i j:Int):Prop:=0<=j/\j<=1000000/\i.natAbs<2^64
def xw (i j:Int):Prop:=(-(2^64)<i/\i<2^64)\/(-(2^64)<j/\j<2^64)
def xw.ok(h:xw i j):IntMulOk i j:=by
 rcases h with⟨e,f⟩|⟨e,f⟩
 .exact .of_left (akn e f)
 .exact .of_right (akn e f)
def aak:rS X (binaryOp .Add) (YD λi j=>.int (i+j)):=aai λ_ _ _ _ _ _ _ q=>add_int q
def aal:rS X (binaryOp .Sub) (YD λi j=>.int (i- j)):=aai λ_ _ _ _ _ _ _ q=>sub_int q
def aam:rS X (binaryOp .Mult) (rI xw λi j=>.int (i*j)):=opI λ_ _ _ _ _ _ _ hc q=>mul_int q hc.ok
def aan:rS X (binaryOp .Mod) (rI (λ_ j=>0<j) λi j=>.int (i%j)):=opI λi j _ _ _ _ _ hc q=>by exact mod_int' (by lia) (by rw[Int.fmod_eq_emod_of_nonneg i (by lia)];exact q)
def aao:rS X (binaryOp .Pow) (rI E3 λi j=>.int (i^j.toNat)):=opI λ_ _ _ _ _ _ _ hc q=>pow_int_small hc.1 hc.2.1 hc.2.2 q
def Vt:rS X (aj3 .Add) (YD λi j=>.int (i+j)):=aai λ_ _ _ _ _ _ _ q=>iadd_int q
def unI{g:Int->Int}
(rule:∀(i:Int) (t:akc) (s:av) (Q:ai->av->Prop) (E:ai->av->Prop),Q (.int (g i) s.toks) {s with toks:=s.toks+1}->wpAny (model X.prog X.w) X.A (f (.int i t)) Q E s):
  UnR X f (rU λi=>.int (g i)):=by intro cc s σ H x v Q I e h;obtain⟨i,rfl,q⟩:=h;obtain⟨t,rfl⟩:=e;exact rule i t s _ _ ⟨.int (g i),H,I.tok _,⟨_,rfl⟩,q⟩
def aap:UnR X (unaryOp .USub) (rU λi=>.int (-i)):=unI λ_ _ _ _ _ q=>neg_int q
end
noncomputable def adH:V->V->Bool
 |.non,.non=>ag|.non,.int _=>ag|.int _,.non=>ag|.non,.bl _=>ag|.bl _,.non=>ag|.non,.str _=>ag|.str _,.non=>ag
 |.int _,.int _=>ag|.bl _,.bl _=>ag|.str _,.str _=>ag|.Qt _,.Qt _=>ag
 |.int _,.str _=>ag|.str _,.int _=>ag|.bl _,.str _=>ag|.str _,.bl _=>ag
 |_,_=>au
def rEq:R2:=λx y H Q=>adH x y=ag/\Q (.bl (decide (x=y))) H
def rNe:R2:=λx y H Q=>adH x y=ag/\Q (.bl (!decide (x=y))) H
def E4:decide (V.int i=V.int j)=(i==j):=by rw[d9];simp
def Q4:decide (V.bl i=V.bl j)=(i==j):=by rw[d9];simp
def E5:decide (V.str i=V.str j)=(i==j):=by rw[d9];simp
def MD:decide (V.Qt i=V.Qt j)=(i.toList==j.toList):=by rw[d9];cases i;cases j;simp
def i7(I:Inv X cc σ H s)(q:Q (.bl k) H)(e:k=k'):EP X cc σ Q (.bool k') s:=by subst e;exact⟨.bl k,H,I,rfl,q⟩
def YF:rS X (compareOp .Eq) rEq:=by
 intro cc s σ H x y v u Q I m e h;obtain⟨g,q⟩:=h;cases x with
 |non=>
  cases m;cases y with
  |non=>cases e;exact PySem.EqNone.eq_none_none (i7 I q (by simp))
  |bl j=>cases e;exact PySem.EqNone.eq_none_bool (i7 I q (by simp))
  |int j=>obtain⟨f,rfl⟩:=e;exact PySem.EqNone.eq_none_int (i7 I q (by simp))
  |str j=>obtain⟨f,rfl⟩:=e;exact PySem.EqNone.eq_none_str (i7 I q (by simp))
  |_=>exact absurd (show au=ag from g) aS
 |bl i=>
  cases m;cases y with
  |non=>cases e;exact PySem.EqNone.eq_bool_none (i7 I q (by simp))
  |bl j=>cases e;exact eq_bool (i7 I q Q4)
  |str j=>obtain⟨f,rfl⟩:=e;exact PySem.EqMixed.eq_bool_str (i7 I q (by simp))
  |_=>exact absurd (show au=ag from g) aS
 |int i=>
  obtain⟨t,rfl⟩:=m;cases y with
  |non=>cases e;exact PySem.EqNone.eq_int_none (i7 I q (by simp))
  |int j=>obtain⟨f,rfl⟩:=e;exact eq_int (i7 I q E4)
  |str j=>obtain⟨f,rfl⟩:=e;exact PySem.EqMixed.eq_int_str (i7 I q (by simp))
  |_=>exact absurd (show au=ag from g) aS
 |str i=>
  obtain⟨t,rfl⟩:=m;cases y with
  |non=>cases e;exact PySem.EqNone.eq_str_none (i7 I q (by simp))
  |bl j=>cases e;exact PySem.EqMixed.eq_str_bool (i7 I q (by simp))
  |int j=>obtain⟨f,rfl⟩:=e;exact PySem.EqMixed.eq_str_int (i7 I q (by simp))
  |str j=>obtain⟨f,rfl⟩:=e;exact eq_str (i7 I q E5)
  |_=>exact absurd (show au=ag from g) aS
 |Qt i=>
  obtain⟨t,rfl⟩:=m;cases y with
  |Qt j=>obtain⟨f,rfl⟩:=e;exact W.eq_bytes (i7 I q MD)
  |_=>exact absurd (show au=ag from g) aS
 |_=>cases y<;>exact absurd (show au=ag from g) aS
def YG:rS X (compareOp .NotEq) rNe:=by
 intro cc s σ H x y v u Q I m e h;obtain⟨g,q⟩:=h;cases x with
 |non=>
  cases m;cases y with
  |non=>cases e;exact PySem.EqNone.ne_none_none (i7 I q (by simp))
  |bl j=>cases e;exact PySem.EqNone.ne_none_bool (i7 I q (by simp))
  |int j=>obtain⟨f,rfl⟩:=e;exact PySem.EqNone.ne_none_int (i7 I q (by simp))
  |str j=>obtain⟨f,rfl⟩:=e;exact PySem.EqNone.ne_none_str (i7 I q (by simp))
  |_=>exact absurd (show au=ag from g) aS
 |bl i=>
  cases m;cases y with
  |non=>cases e;exact PySem.EqNone.ne_bool_none (i7 I q (by simp))
  |bl j=>cases e;exact ne_bool (i7 I q (congrArg not Q4))
  |str j=>obtain⟨f,rfl⟩:=e;exact PySem.EqMixed.ne_bool_str (i7 I q (by simp))
  |_=>exact absurd (show au=ag from g) aS
 |int i=>
  obtain⟨t,rfl⟩:=m;cases y with
  |non=>cases e;exact PySem.EqNone.ne_int_none (i7 I q (by simp))
  |int j=>obtain⟨f,rfl⟩:=e;exact ne_int (i7 I q (congrArg not E4))
  |str j=>obtain⟨f,rfl⟩:=e;exact PySem.EqMixed.ne_int_str (i7 I q (by simp))
  |_=>exact absurd (show au=ag from g) aS
 |str i=>
  obtain⟨t,rfl⟩:=m;cases y with
  |non=>cases e;exact PySem.EqNone.ne_str_none (i7 I q (by simp))
  |bl j=>cases e;exact PySem.EqMixed.ne_str_bool (i7 I q (by simp))
  |int j=>obtain⟨f,rfl⟩:=e;exact PySem.EqMixed.ne_str_int (i7 I q (by simp))
  |str j=>obtain⟨f,rfl⟩:=e;exact ne_str (i7 I q (congrArg not E5))
  |_=>exact absurd (show au=ag from g) aS
 |Qt i=>
  obtain⟨t,rfl⟩:=m;cases y with
  |Qt j=>obtain⟨f,rfl⟩:=e;exact W.ne_bytes (i7 I q (congrArg not MD))
  |_=>exact absurd (show au=ag from g) aS
 |_=>cases y<;>exact absurd (show au=ag from g) aS
def adI:rS X (compareOp .Lt) (YD λi j=>.bl (decide (i<j))):=aaj λ_ _ _ _ _ _ _ q=>lt_int q
def adJ:rS X (compareOp .LtE) (YD λi j=>.bl (decide (i<=j))):=aaj λ_ _ _ _ _ _ _ q=>le_int q
def adK:rS X (compareOp .Gt) (YD λi j=>.bl (decide (j<i))):=aaj λ_ _ _ _ _ _ _ q=>gt_int q
def Om:rS X (compareOp .Lt) (λx y H Q=>∃i j,x=.str i/\y=.str j/\Q (.bl (decide (i.cps.toList<j.cps.toList))) H):=by intro cc s σ H x y v u Q I e f h;obtain⟨i,j,rfl,rfl,q⟩:=h;obtain⟨t,rfl⟩:=e;obtain⟨g,rfl⟩:=f;exact lt_str (i7 I q rfl)
def Oo:rS X (compareOp .In) (λx y H Q=>∃i j,x=.str i/\y=.str j/\Q (.bl (!(gA j i 0 j.length 1).isEmpty)) H):=by intro cc s σ H x y v u Q I e f h;obtain⟨i,j,rfl,rfl,q⟩:=h;obtain⟨t,rfl⟩:=e;obtain⟨g,rfl⟩:=f;exact in_str (i7 I q rfl)
def aaq:rS X (compareOp .Is) (λx y H Q=>y=.non/\Q (.bl (decide (x=.non))) H):=by
 intro cc s σ H x y v u Q I e f h;obtain⟨rfl,q⟩:=h;cases f;refine is_none_gen (i7 I q ?_);cases x<;>first
  | (rfl)
  | (obtain⟨t,rfl⟩:=e;rfl)
def E6:rS X (compareOp .NotIn) (λx y H Q=>∃i j,x=.str i/\y=.str j/\Q (.bl (!(!(gA j i 0 j.length 1).isEmpty))) H):=by intro cc s σ H x y v u Q I e f h;obtain⟨i,j,rfl,rfl,q⟩:=h;obtain⟨t,rfl⟩:=e;obtain⟨g,rfl⟩:=f;exact notIn_str (i7 I q rfl)
def Vu(e:rS X (compareOp op) r)(ha:PE X a ta)(hb:PE X b tb)(hm:aiK op b=au):PE X (.Compare a [op] [b] pos) (tOp r ta tb):=by intro cc s σ H Q I h;exact wpAny_Compare1 (aah ha hb I h λv u s2 x y f g i j q=>e cc s2 σ f x y v u Q g i j q) hm
def YH (t:TE):TT:=λσ H Q=>t σ H λx e=>∃k,x=.bl k/\Q k e
def Vv(f:rS X (compareOp op) r)(ha:PE X a ta)(hb:PE X b tb)(hm:aiK op b=au):PT X (.Compare a [op] [b] pos) (YH (tOp r ta tb)):=by
 intro cc s σ H Q I h;refine wpAny_isTrue_Compare1 (j4 (ha cc s σ H _ I h) λv s1 ⟨x,H1,I1,g,i⟩=>j4 (hb cc s1 σ H1 _ I1 i) λu s2 ⟨y,j,m,n,o⟩=>
  j4 (f cc s2 σ j x y v u _ m g n o) λc s3 ⟨z,p,q,w,k,e,A⟩=>?_) hm
 subst e;cases w;exact cy ⟨p,q,A⟩
def Kj (r f:R2)(ta tb tc:TE):TE:=λσ H Q=>ta σ H λx H1=>tb σ H1 λy g=>r x y g λz e=>∃k,z=.bl k/\
 (if k=ag then tc σ e λh i=>f y h i Q else Q (.bl au) e)
def Q5(n:rS X (compareOp op) r)(o:rS X (compareOp f) p)(ha:PE X a ta)(hb:PE X b tb)(hc:PE X c tc)
(hm:ajk [op,f] [b,c]=au:=by with_unfolding_all rfl):PE X (.Compare a [op,f] [b,c] pos) (Kj r p ta tb tc):=by
 intro cc s σ H Q I h;refine Compare_chain (j4 (ha cc s σ H _ I h) λv s1 ⟨x,H1,I1,q,w⟩=>chain_link (j4 (hb cc s1 σ H1 _ I1 w) λu s2 ⟨y,A,B,g,C⟩=>
  j4 (n cc s2 σ A x y v u _ B q g C) λd s3 ⟨z,i,j,E,k,e,m⟩=>?_)) hm
 subst e;cases E;refine cy ?_;cases k with
 |false=>exact ite_ff ⟨.bl au,i,j,rfl,m⟩
 |true=>exact ite_tt (chain_last (j4 (hc cc s3 σ i _ j m) λG J zq=>by obtain⟨L,M,N,O,T⟩:=zq;exact o cc J σ M y L u G Q N g O T))
def Q6(n:rS X (compareOp op) r)(o:rS X (compareOp f) p)(ha:PE X a ta)(hb:PE X b tb)(hc:PE X c tc)
(hm:ajk [op,f] [b,c]=au:=by with_unfolding_all rfl):PT X (.Compare a [op,f] [b,c] pos) (YH (Kj r p ta tb tc)):=by
 intro cc s σ H Q I h;refine isTrue_chain (j4 (ha cc s σ H _ I h) λv s1 ⟨x,H1,I1,q,w⟩=>test_link (j4 (hb cc s1 σ H1 _ I1 w) λu s2 ⟨y,A,B,g,C⟩=>
  j4 (n cc s2 σ A x y v u _ B q g C) λd s3 ⟨z,i,j,E,k,e,m⟩=>?_)) hm
 subst e;cases E;refine cy ?_;cases k with
 |false=>
  obtain⟨k',e',G⟩:=m;cases e';exact ite_ff ⟨i,j,G⟩
 |true=>
  refine ite_tt (test_last (j4 (hc cc s3 σ i _ j m) λJ L ⟨M,N,O,T,U⟩=>j4 (o cc L σ N y M u J _ O g T U) λd' s5 Y=>?_));obtain⟨z2,H5,I5,r5,k2,e2,q5⟩:=Y;subst e2;cases r5;exact cy ⟨H5,I5,q5⟩
def A9:(aO:Nat)<2^63:=by decide
def Kl:rS X (binaryOp .Add) (λx y H Q=>∃i j,x=.str i/\y=.str j/\i.length+j.length<=aO/\Q (.str (i++j)) H):=by intro cc s σ H x y v u Q I e f h;obtain⟨i,j,rfl,rfl,g,q⟩:=h;obtain⟨t,rfl⟩:=e;obtain⟨m,rfl⟩:=f;exact add_str (λm tk=>⟨.str (i++j),H,I.tok _,⟨_,rfl⟩,q⟩) g
def vals1(r:Vals [x] us):∃u,us=[u]/\RelV x u:=by
 cases r with
 |cons e f=>cases f;exact⟨_,rfl,e⟩
def vals2(r:Vals [x,y] us):∃u e,us=[u,e]/\RelV x u/\RelV y e:=by
 cases r with
 |cons f g=>
  cases g with
  |cons h i=>cases i;exact⟨_,_,rfl,f,h⟩
def DZ:lV X (.type fw) (λxs H Q=>(∃i,xs=[.int i]/\Q (.int i) H)\/∃k,xs=[.bl k]/\Q (.int (if k then 1 else 0)) H):=by
 intro cc s σ H xs us Q I r h;rcases h with⟨i,rfl,q⟩|⟨k,rfl,q⟩
 .obtain⟨u,rfl,t,rfl⟩:=vals1 r;exact call_int_int ⟨.int i,H,I,⟨_,rfl⟩,q⟩
 .obtain⟨u,rfl,e⟩:=vals1 r;cases e;exact call_int_bool ⟨.int (if k then 1 else 0),H,I.tok _,⟨_,rfl⟩,q⟩
structure Km(h:aC)(x dx C:aw)(mA:aY->Option ai):Prop where
 obj:h.get? x=aa (W.instObj C dx)
 ns:h.Ns1 dx mA
 ne:dx≠x
def D5{h:aC}(n:h.Ns1 b c):∃od,h.get? b=aa od/\∀name,W.lookIn name od=aa (c name):=by
 obtain⟨o,es,p,f,hd,g,_,hm⟩:=n;refine⟨o,f,λname=>?_⟩;have e:=hm name;unfold nsFind ajI at e;rw[<-Array.find?_toList] at e;unfold W.lookIn;rw[hd];dsimp only;split
 .rename_i y q;rw[q] at e;exact congrArg aa e
 .rename_i q;rw[q] at e;have a:es.toList.any (·.refKey)=au:=by rw[List.any_eq_false];intro y i;obtain⟨z,t,j⟩:=g y (Array.mem_toList_iff.mp i);simp[DictEntry.refKey,j]
  have m:¬es.toList.any (·.refKey)=ag:=by rw[a];exact aS
  rw[if_neg m];exact congrArg aa e
def Km.look(I:Km h x a C b):∃od,W.InstAt h x (W.instObj C a) C (aa od)/\∀name,W.lookIn name od=aa (b name):=
 let⟨od,c,e⟩:=D5 I.ns
 ⟨od,⟨I.obj,rfl,rfl,c⟩,e⟩
section
variable {A:bH} {s:av} {K:af}
def xx(X:K.In s.heap)(I:Km s.heap x dx C mA)(b:W.plainGet K C name=ag)(c:W.hasDictIn K C=ag)
(ha:aF K (.ref C) name=aa ar)(e:mA name=aa v)(a:W.handedIn v=ag)(h:Q v {s with toks:=s.toks+1}):
  wpAny (model prog w) A (getAttr (.ref x) name expr) Q E s:=by obtain⟨od,J,g⟩:=I.look;exact W.get_value X J (W.plainGet_of b).1 (W.findObj_own c ha rfl (by rw[g,e])) a h
def Q7(X:K.In s.heap)(I:Km s.heap x dx C mA)(a:W.plainGet K C name=ag)
(b:aF K (.ref C) name=aa (aa (.ref f)))(ht:W.isFn K (.ref f)=ag)(c:mA name=ar)(h:Q (.ref f,[.ref x]) s):
  wpAny (model prog w) A (aj4 (.ref x) name pl) Q E s:=by obtain⟨od,J,e⟩:=I.look;exact W.method_fn X J (W.plainGet_of a).1 (W.plainGet_of a).2 b (beq_iff_eq.mp ht) (by show(W.lookIn name od).map _=aa au;rw[e,c];rfl) h
def Vw(X:K.In s.heap)(I:Km s.heap x dx C mA)
(j:aF K (.ref C) tO=aa (aa (.builtin tP)))(m:W.plainOver K C=ag)(ht:W.takerIn K C name=aa ar)(n:W.hasDictIn K C=ag)
(hw:PySem.Within mA ns)(z:ns.length<=aO)
(h:∀a,Km a x dx C (λy=>if y=name then aa v else mA y)->bO dx s.heap a->Q () {s with heap:=a,toks:=s.toks+2}):
  wpAny (model prog w) A (setAttr (.ref x) name v) Q E s:=by obtain⟨od,J,B⟩:=I.look;refine W.set_plain X J j (W.osa_open X J m ht λb=>?_);obtain⟨cd,hc,o⟩:=W.any_some n;have p:=I.obj;refine ae (ay (ae (ae (ake p (ae (W.Looks.here (W.looks_clsIn X hc) ?_))))));rw[o];refine ay (ae (ay (ae ?_)));refine wpAny_nsSet1 I.ns λa g i=>?_;obtain⟨G,q,r,c,e,u⟩:=g.count (PySem.Within.cons name v hw);refine ae (wpAny_lookBehind c (by rw[e];exact pastItsLine_dict (bG u (by rw[aU];exact fV z))) ?_);exact ay (h _ ⟨(i.2 _ (b8 I.ne)).trans I.obj,g,I.ne⟩ i)
def Q8(X:K.In s.heap)(hm:W.makesIn K C=ag)
(hi:aF K (.ref C) kz=aa (aa (.ref f)))(b:W.typeIn K (.ref f)=aa (.type "function"))
(h:codeAny (model prog w) (A.under (.builtin mu ⟨.ref C::a,kw⟩)) (.call (.ref f) ⟨.ref (s.heap.objs.size+1)::a,kw⟩) (W.InitBack (s.heap.objs.size+1) R)
   {s with heap:=(s.heap.push W.emptyDict).push (W.instObj C s.heap.objs.size)}):
  codeAny (model prog w) A (.call (.ref C) ⟨a,kw⟩) R s:=by exact W.make_core (W.makes_of X hm) (W.looks_findIn X hi) (λself=>W.bind_fn X self b) (.inl rfl) h
end
noncomputable def qY(f:aY)(v:V):List (aY×V)->List (aY×V)
 |[]=>[(f,v)]
 | (g,x)::r=>if g=f then(g,v)::r else(g,x)::qY f v r
theorem zL(f g:aY)(v:V):∀fs:List _,(qY f v fs).lookup g=if g=f then aa v else fs.lookup g
 |[]=>by
  show fY g [(f,v)]=_;by_cases h:g=f
  .have hb:=beq_iff_eq.mpr h;simp only [fY,hb,if_pos h]
  .have hb:=beq_eq_false_iff_ne.mpr h;simp only [fY,hb,if_neg h]
 | (k,x)::r=>by
  have b:=zL f g v r;rw[show qY f v _=(if k=f then(k,v)::r else(k,x)::qY f v r) from rfl];by_cases a:k=f
  .rw[if_pos a];by_cases h:g=k
   .have hb:=beq_iff_eq.mpr h;simp only [fY,hb,if_pos (h.trans a)]
   .have hb:=beq_eq_false_iff_ne.mpr h;simp only [fY,hb,if_neg (λe:g=f=>h (e.trans a.symm))]
  .rw[if_neg a];by_cases h:g=k
   .have hb:=beq_iff_eq.mpr h;simp only [fY,hb,if_neg (λe:g=f=>a (h.symm.trans e))]
   .have hb:=beq_eq_false_iff_ne.mpr h;simp only [fY,hb];exact b
theorem yL(f:aY)(v:V):∀fs:List _,f∈(qY f v fs).map (·.1)/\∀g,g∈fs.map (·.1)->g∈(qY f v fs).map (·.1)
 |[]=>⟨by simp[qY],λg h=>by simp at h⟩
 | (k,x)::r=>by
  obtain⟨b,c⟩:=yL f v r;rw[show qY f v _=(if k=f then(k,v)::r else(k,x)::qY f v r) from rfl];by_cases a:k=f
  .subst a;exact⟨by simp,λg h=>by simpa using h⟩
  .rw[if_neg a];refine⟨?_,λg h=>?_⟩
   .exact aB _ b
   .rcases aH.mp h with e|e
    .exact aH.mpr (.inl e)
    .exact aB _ (c g e)
theorem zM(f:aY)(v:V):∀fs:List _,(qY f v fs).length<=fs.length+1
 |[]=>by simp[qY]
 | (k,x)::r=>by
  have b:=zM f v r;rw[show qY f v _=(if k=f then(k,v)::r else(k,x)::qY f v r) from rfl];by_cases a:k=f
  .rw[if_pos a,aU,aU];exact cw _
  .rw[if_neg a,aU,aU];exact fV b
def qK.some_of(r:qK (aa v) o):∃u,o=aa u/\RelV v u:=by
 cases o with
 |none=>exact(r).elim
 |some u=>exact⟨u,rfl,r⟩
def qK.none_of(r:qK ar o):o=ar:=by
 cases o with
 |none=>rfl
 |some u=>exact(r).elim
def Oq(r:RelV v u):W.handedIn u=ag:=by
 cases v with
 |non=>cases(r);rfl
 |bl b=>cases(r);rfl
 |int i=>obtain⟨t,e⟩:=(r);cases e;rfl
 |str x=>obtain⟨t,e⟩:=(r);cases e;rfl
 |Qt b=>obtain⟨t,e⟩:=(r);cases e;rfl
 |ZW b=>obtain⟨t,e⟩:=(r);cases e;rfl
 |ref a=>cases(r);rfl
 |ty n=>cases(r);rfl
section
variable {fs:List (aY×V)}
def AF(iO:rK P w H h)(e:H a=aa (.ins C dx fs)):∃b,Km h a dx C b/\(∀f,qK (fs.lookup f) (b f))/\PySem.Within b (fs.map (·.1))/\fs.length<=1000/\H dx=aa (.own a):=by obtain⟨d,z,ne,ob,b,n,r,q⟩:=(iO a _ e);exact⟨b,⟨ob,n,ne⟩,r,q,z,d⟩
end
structure ME(K:af)(C:aw):Prop where
 pg:W.plainGet K C aY.empty=ag
 hd:W.hasDictIn K C=ag
 po:W.plainOver K C=ag
 sa:aF K (.ref C) tO=aa (aa (.builtin tP))
def ME.get{K:af}(c:ME K C)(f:aY):W.plainGet K C f=ag:=c.pg
def tX (K:af)(C:aw)(f:aY):Prop:=aF K (.ref C) f=aa ar
def tX.adL{K:af}(n:tX K C f):W.takerIn K C f=aa ar:=by unfold W.takerIn;rw[n];rfl
structure Con(K:af)(C:aw)(f:aY)(v:V)(u:ai):Prop where
 at_:aF K (.ref C) f=aa (aa u)
 rel:RelV v u
 get:W.specialIn K u rb=aa ar
 cp:W.copiedNames.contains f=au
structure Meth(K:af)(C:aw)(m:aY)(f:aw):Prop where
 at_:aF K (.ref C) m=aa (aa (.ref f))
 fn:W.isFn K (.ref f)=ag
 kp:dV K (.ref f)=ag
section
variable {X:Cx} {s:av} {fs:List (aY×V)}
def Kp(I:Inv X cc σ H s)(e:H a=aa (.ins C dx fs))(c:ME X.K C)(n:tX X.K C f)(l:fs.lookup f=aa v)
(h:∀u g,Inv X cc σ H g->RelV v u->Q u g):wpAny (model X.prog X.w) A (getAttr (.ref a) f b) Q E s:=by obtain⟨m,O,r,_,_,_⟩:=AF I.iO e;obtain⟨u,j,i⟩:=qK.some_of (by rw[<-l];exact r f);exact xx I.rM O (c.get f) c.hd n j (Oq i) (h u _ (I.tok _) i)
def Kq(I:Inv X cc σ H s)(e:H a=aa (.ins C dx fs))(c:ME X.K C)(k:Meth X.K C m g)(l:fs.lookup m=ar)
(h:Q (.ref g,[.ref a]) s):wpAny (model X.prog X.w) A (aj4 (.ref a) m pl) Q E s:=by obtain⟨b,O,r,_,_,_⟩:=AF I.iO e;have hn:=qK.none_of (by rw[<-l];exact r m);exact Q7 I.rM O (c.get m) k.at_ k.fn hn h
def Kr(I:Inv X cc σ H s)(e:H a=aa (.ins C dx fs))(c:ME X.K C)(n:tX X.K C f)(L:fs.length<1000)(p:RelV y u)
(h:∀j,Inv X cc σ (upd H a (.ins C dx (qY f y fs))) j->Q () j):wpAny (model X.prog X.w) A (setAttr (.ref a) f u) Q E s:=by
 obtain⟨x,O,r,wi,_,m⟩:=AF I.iO e;have B:(fs.map (·.1)).length<=aO:=by rw[ao,bp];exact bG (dF L) (Nat.le_add_left _ _)
 refine Vw I.rM O c.sa c.po n.adL c.hd wi B λG i sb=>h _ ?_;have hd:∃o,G.get? dx=aa o:=let⟨o,_,_,e',_⟩:=i.ns;⟨o,e'⟩;refine I.write (by rw[e];exact dG) (.inr m) (λb q hb z=>(sb.2 b hb).trans z) hd ?_;refine⟨by rw[hZ O.ne];exact m,?_,O.ne,i.obj,_,i.ns,λg=>?_,λg J=>?_⟩
 .have:=zM f y fs;exact bG this L
 .rw[zL];by_cases q:g=f
  .rw[if_pos q,if_pos q];exact p
  .rw[if_neg q,if_neg q];exact r g
 .by_cases q:g=f
  .rw[q];exact(yL f y fs).1
  .refine(yL f y fs).2 g (wi g λz=>J ?_);show(if g=f then aa u else x g)=ar;rw[if_neg q];exact z
def Inv.made(I:Inv X cc σ H s):Inv X cc σ (upd (upd H s.heap.objs.size (.own (s.heap.objs.size+1))) (s.heap.objs.size+1) (.ins C s.heap.objs.size []))
  {s with heap:=(s.heap.push W.emptyDict).push (W.instObj C s.heap.objs.size)}:=by
 have e1:(s.heap.push _).get? _=aa W.emptyDict:=aP s.heap rfl;have e2:=by
  have:=aP (s.heap.push W.emptyDict) (o:=W.instObj C s.heap.objs.size) rfl
  rwa [ci] at this
 have e3:(s.heap.push _).Ns _ (λ_=>ar):=⟨W.emptyDict,#[],_,e1,rfl,(λe c=>absurd c (by simp)),λ_=>rfl⟩;have I1:=I.laid (o:=.own (s.heap.objs.size+1)) (t':=s.toks) (λb u q=>aj _ q) (aD _) ⟨_,e1⟩;refine I1.laid (λb u q=>aj _ q) (gB (ci _ _)) ?_;have ne:s.heap.objs.size≠s.heap.objs.size+1:=bd (eW _);refine⟨by rw[hZ ne,il],bD _,ne,e2,λ_=>ar,(aC.Ns1.of_empty e3).at λo q=>aj _ q,λ_=>dG,λy g=>absurd rfl g⟩
def Vz(hb:dP e f env (eval e env)=eval e env)
(h:wpAny (model prog w) A (eval e env) (λo b=>wpAny (model prog w) A (getAttr o f ag) Q E b) E s):wpAny (model prog w) A (eval (.Attribute e f pos) env) Q E s:=
 Attribute_any_ h (by rw[arm_eval_Attribute,hb])
end
def agA (K:af)(b:TE)(f:aY):TE:=λσ H Q=>b σ H λx H1=>∃a C c fs v,x=.ref a/\H1 a=aa (.ins C c fs)/\ME K C/\tX K C f/\fs.lookup f=aa v/\Q v H1
def agB (K:af)(e g:TE)(f:aY):TS:=λD σ H=>g σ H λy H1=>e σ H1 λx b=>∃a C c fs,x=.ref a/\b a=aa (.ins C c fs)/\ME K C/\tX K C f/\fs.length<1000/\
 D.nx σ (upd b a (.ins C c (qY f y fs)))
section
variable {X:Cx} {pos:eB}
def aar(b:PE X e ta)(hb:dP e f X.env (eval e X.env)=eval e X.env):PE X (.Attribute e f pos) (agA X.K ta f):=by intro cc s σ H Q I h;refine Vz hb (j4 (b cc s σ H _ I h) λu s1 g=>?_);obtain⟨x,H1,I1,i,a,C,r,fs,v,ex,j,c,n,l,q⟩:=g;subst ex;obtain rfl:u=bE a:=i;exact Kp I1 j c n l λw s2 m p=>⟨v,H1,m,p,q⟩
def aas(ha:PE X o ta)(b:PE X value tv)(g:eO value (aa (.Attribute o f tW)) pos.line X.env=pure au):PS X (.Assign [.Attribute o f tW] value pos) (agB X.K ta tv f):=by intro cc s σ H D I h;refine plainObj_wpAny_Assign_Attribute (j4 (b cc s σ H _ I h) λu s1 ⟨y,H1,I1,i,q⟩=>j4 (ha cc s1 σ H1 _ I1 q) λj s2 zq=>?_) g;obtain⟨x,z,m,p,a,C,A,fs,ex,r,c,n,l,v⟩:=zq;subst ex;obtain rfl:j=bE a:=p;exact Kr m r c n l i λs3 w=>⟨σ,_,w,v⟩
end
section
variable {X:Cx} {cc:List (aw×cB)} {σ:St} {H:Hp} {s:av} {A:bH} {E:ai->av->Prop} {Q:ai->av->Prop} {c:ai} {b:Bool}
inductive Aj(K:af)(H:Hp):V->ai->Prop where
 |non:Aj K H .non (.type qa)
 |bl (x:Bool):Aj K H (.bl x) (.type hB)
 |int (i:Int):Aj K H (.int i) (.type fw)
 |str (x:aY):Aj K H (.str x) (.type fx)
 |ZW (x:UInt64):Aj K H (.ZW x) (.type "float")
 |lst {a:aw} {xs:List V} (e:H a=aa (.lst xs)):Aj K H (.ref a) (.type cr)
 |om {a:aw} {o:cB} {xs:List V} (e:H a=aa (.om o (.lst xs))):Aj K H (.ref a) (.type cr)
 |tup {a:aw} {xs:List V} (e:H a=aa (.tup xs)):Aj K H (.ref a) (.type ej)
 |dK {a:aw} {ik:List (Key×V)} (e:H a=aa (.dK ik)):Aj K H (.ref a) (.type fi)
 |dT {a:aw} {ik:List (List Key×V)} (e:H a=aa (.dT ik)):Aj K H (.ref a) (.type fi)
 |ins {a C dx:aw} {fs:List (aY×V)} (e:H a=aa (.ins C dx fs)) (cl:ME K C) (ha:aF K (.ref C) oj=aa (aa (.builtin kf)))
   (hn:W.specialIn K (.builtin kf) rb=aa (aa (.builtin rh))) (htk:W.takesIn K (.builtin kf)=aa ag)
   (hm:W.mroIn K C (.type nk)=aa ag):Aj K H (.ref a) (.ref C)
def oY(I:Inv X cc σ H s)(f:RelV x u)(ty:Aj X.K H x t)(e:bb X.K t c=aa b)(h:∀tk,Q (.bool b) {s with toks:=tk}):
  wpAny (model X.prog X.w) A (call (.builtin ol) [u,c]) Q E s:=by
 cases ty with
 |non=>cases(f);exact W.kia_one W.kitx_none I.rM dG e (λz=>nomatch z) h
 |bl y=>cases(f);exact W.kia_one W.kitx_bool I.rM dG e (λz=>nomatch z) h
 |int i=>obtain⟨t,q⟩:=(f);cases q;exact W.kia_one W.kitx_int I.rM dG e (λz=>nomatch z) h
 |str y=>obtain⟨t,q⟩:=(f);cases q;exact W.kia_one W.kitx_str I.rM dG e (λz=>nomatch z) h
 |ZW y=>obtain⟨t,q⟩:=(f);cases q;exact W.kia_one W.kitx_float I.rM dG e (λz=>nomatch z) h
 |@lst a xs g=>
  cases(show u=bE a from f);obtain⟨_,_,n,_,j⟩:=(I.iO a _ g);exact W.kia_one W.kitx_list I.rM ⟨_,j,rfl⟩ e (λz=>nomatch z) h
 |@om a ob xs g=>
  cases(f);obtain⟨_,_,_,n,_,j⟩:=(I.iO a _ g);exact W.kia_one W.kitx_list I.rM ⟨_,j,rfl⟩ e (λz=>nomatch z) h
 |@tup a xs g=>
  cases(f);obtain⟨_,_,_,p⟩:=(I.iO a _ g);obtain⟨o,j,m,_⟩:=p;exact W.kia_one W.kitx_tuple I.rM ⟨o,j,m⟩ e (λz=>nomatch z) h
 |@dK a r g=>
  cases(show u=bE a from f);obtain⟨_,_,B,_,p⟩:=(I.iO a _ g);obtain⟨o,es,v,j,m,_⟩:=p;exact W.kia_one W.kitx_dict I.rM ⟨o,j,m.1⟩ e (λz=>nomatch z) h
 |@dT a r g=>
  cases(show u=bE a from f);obtain⟨_,_,xs,_,o,es,v,j,m,_⟩:=(I.iO a _ g);exact W.kia_one W.kitx_dict I.rM ⟨o,j,m.1⟩ e (λz=>nomatch z) h
 |@ins a C G fs g cl ha hn htk hm=>
  cases(f);obtain⟨L,O,_⟩:=AF I.iO g;obtain⟨od,J,_⟩:=O.look;exact W.kia_one (W.kitx_own (cl.get _) cl.hd ha hn htk hm) I.rM J e (λz=>nomatch z) h
end
structure jd(k:Nat)(A:bH):Prop where
 hd:A.handled=ar
 dp:A.depth+3*k+5<akf
 un:A.units+16*k+200<eC
 gd:A.guards=aa []
def jd.mono(r:jd k A)(h:j<=k):jd j A:=⟨r.hd,by have:=r.dp;lia,by have:=r.un;lia,r.gd⟩
theorem jd.deeper(r:jd (k+1) A)(env:aie):jd k (A.deeper env):=
 ⟨r.hd,by have:=r.dp;show A.depth+1+3*k+5<_;lia,by have:=r.un;show A.units+3+16*k+200<_;lia,r.gd⟩
theorem jd.in1(r:jd (k+1) A):jd k A.in1:=
 ⟨r.hd,by have:=r.dp;show A.depth+3*k+5<_;exact gC (cw _) (dF this),by have:=r.un;show A.units+1+16*k+200<_;lia,r.gd⟩
def Ks{A:bH}:(A.under (.builtin mu ⟨.ref C::us,kw⟩)).depth=A.depth+1:=by first|rfl|simp[guardIds]
def Kt{A:bH}:(A.under (.builtin mu ⟨.ref C::us,kw⟩)).units=A.units+1:=by first|rfl|simp[Code.cUnits]
def YI{A:bH}:(A.under (.builtin mu ⟨.ref C::us,kw⟩)).guards=A.guards:=by first|rfl|(simp)
def jd.make(r:jd (k+1) A)(C:aw)(us:List ai)(kw:List _):jd k (A.under (.builtin mu ⟨.ref C::us,kw⟩)):=
 ⟨r.hd,by have:=r.dp;rw[Ks];lia,by have:=r.un;rw[Kt];lia,by exact r.gd⟩
theorem jd.depth(r:jd k A):A.depth<akf:=by have:=r.dp;lia
theorem jd.units(r:jd k A):A.units+64<eC:=by have:=r.un;lia
def agC:TA:=λ_ H Q=>Q [] H
def adM (a:TE)(tr:TA):TA:=λσ H Q=>a σ H λx H1=>tr σ H1 λxs b=>Q (x::xs) b
section
variable {X:Cx} {es:List bI} {t:TA}
def E7:PA X [] agC:=λ_ _ _ _ H Q I h=>Calls.spliced_nil ⟨[],H,I,.nil,h⟩
def AG(ha:PE X e te)(a:PA X es t)(b:bg (e::es) X.env=(au,eval e X.env)::bg es X.env:=by rfl):PA X (e::es) (adM te t):=by intro pos cc s σ H Q I h;rw[b];show wpAny _ _ (spliced ((au,eval e X.env)::du pos _)) _ _ s;refine Calls.spliced_cons (j4 (ha cc s σ H _ I h) λu s1 c=>?_);obtain⟨x,H1,I1,f,g⟩:=c;exact j4 (a pos cc s1 σ H1 _ I1 g) λus s2 ⟨xs,i,j,m,n⟩=>⟨x::xs,i,j,.cons f m,n⟩
def agD (t:TA):TE:=λσ H Q=>t σ H λxs H1=>xs.length<=aO/\∀p,H1 p=ar->Q (.ref p) (upd H1 p (.tup xs))
def agE (t:TA):TE:=λσ H Q=>t σ H λxs H1=>xs.length<=aO/\∀p,H1 p=ar->Q (.ref p) (upd H1 p (.lst xs))
def aat{a}(h:PA X es t):PE X (.Tuple es a pos) (agD t):=by intro cc s σ H Q I c;refine wpAny_Tuple_spliced (j4 (h pos cc s σ H _ I c) λus s1 ⟨xs,H1,I1,r,z,q⟩=>⟨by rw[<-r.length];exact z,?_⟩);have f:=I1.iO.fresh (aD _);refine⟨.ref _,upd H1 _ _,I1.laid (λb u e=>aj _ e) (aD _) ?_,rfl,q _ f⟩;exact⟨z,us,r,⟨_,aP _ rfl,rfl,_,rfl⟩⟩
def aau(h:PA X es t):PE X (.List es pos) (agE t):=by intro cc s σ H Q I a;refine wpAny_List_spliced (j4 (h pos cc s σ H _ I a) λus s1 ⟨xs,H1,I1,r,z,q⟩=>⟨by rw[<-r.length];exact z,?_⟩);have c:=I1.iO.fresh (aD _);refine⟨.ref _,upd H1 _ _,I1.laid (λb u e=>aj _ e) (aD _) ?_,rfl,q _ c⟩;exact⟨z,us,0,r,aP _ rfl⟩
end
abbrev Sp:=List V->Hp->VK->XK->Prop
abbrev VA:=List aie->Hp->av->XK->ai->av->Prop
structure Ba(P:bc)(w:bJ)(K:af)(mg:aY->Option ai)(cq:aC)(A:bH)(cv:List aie)(s:av)(H:Hp):Prop where
 frames:A.frames=aa cv
 mod:Mod K mg cq
 bs:∀b o,cq.get? b=aa o->s.heap.get? b=aa o/\H b=ar
 Oh:cq.objs.size<=s.heap.objs.size
 vP:s.heap.FunFrames cq cv
 QN:∀b∈rJ cv,H b=ar
 iO:rK P w H s.heap
 bare:fR s.gens
def CE (cv:List aie)(P:bc)(w:bJ)(H:Hp)(s:av)(Q:VK)(u:ai)(a:av):Prop:=
 ∃v b,a.os=s.os/\fR a.gens/\Un (rJ cv) [] H b s.heap a.heap/\rK P w b a.heap/\RelV v u/\Q v b
def CR (b:VA)(cv:List aie)(P:bc)(w:bJ)(H:Hp)(s:av)(Q:VK)(E:XK)(r:ajr)(a:av):Prop:=
 match r with
 |.ok (.ret u)=>CE cv P w H s Q u a
 |.ok _=>False
 |.error e=>b cv H s E e a
structure j9(P:bc)(w:bJ)(K:af)(mg:aY->Option ai)(cq:aC)(CX:VA)(k:Nat)(f:aw)(fd:dY)(ps:List aY)(sp:Sp):Prop where
 len:∀vs H Q E,sp vs H Q E->vs.length=ps.length
 run:∀(A:bH) (cv:List aie) (s:av) (H:Hp) (args:Args) (us:List ai) (vs:List V) (Q:VK) (E:XK),jd k A->Ba P w K mg cq A cv s H->aiS s fd args (ps.zip us)->Vals vs us->sp vs H Q E->
  codeAny (model P w) A (.call (.ref f) args) (CR CX cv P w H s Q E) s
theorem j9.mono{K:af}(F:j9 P w K mg cq a j f fd b sp)(h:j<=k):
  j9 P w K mg cq a k f fd b sp:=⟨F.len,λA cv s H args us c Q E e=>F.run A cv s H args us c Q E (e.mono h)⟩
def j9.imp{K:af}(F:j9 P w K mg cq c k f fd e sp)
(h:∀a H Q E,b a H Q E->sp a H Q E):j9 P w K mg cq c k f fd e b:=
 ⟨λa H Q E q=>F.len a H Q E (h _ _ _ _ q),λA cv s H args us a Q E g i hb j m=>F.run A cv s H args us a Q E g i hb j (h _ _ _ _ m)⟩
def Ba.make{K:af}(e:Ba P w K mg cq A cv s H)(C:aw)(us:List ai)(kw:List _):
  Ba P w K mg cq (A.under (.builtin mu ⟨.ref C::us,kw⟩)) cv s H:=⟨by first|exact e.frames|(simpa[pushEnvs] using e.frames),e.mod,e.bs,e.Oh,e.vP,e.QN,e.iO,e.bare⟩
theorem Ba.in1{K:af}{mg:aY->Option ai}{cq:aC}{A:bH}{cv:List aie}{s:av}{H:Hp}(e:Ba P w K mg cq A cv s H):
  Ba P w K mg cq A.in1 cv s H:=⟨e.frames,e.mod,e.bs,e.Oh,e.vP,e.QN,e.iO,e.bare⟩
section
variable {X:Cx} {s:av}
def Inv.VB(I:Inv X cc σ H s):Ba X.prog X.w X.K X.mg X.cq X.A X.stack s H:=
 ⟨I.ok.frames,I.ok.mod,I.bs,bG I.ok.Oh I.sz,I.stack,I.Mw,I.iO,I.bare⟩
def Inv.after(I:Inv X cc σ H s)(h:CE X.stack X.prog X.w H s Q u s'):EP X cc σ Q u s':=by obtain⟨v,c,os,bare,un,iO,r,q⟩:=h;obtain⟨e,g,d,t,a⟩:=s';obtain rfl:a=s.os:=os;exact⟨v,c,I.call un iO bare (λb z=>absurd z (by simp)),r,q⟩
end
def YJ (sp:Sp)(vQ:List V)(E:XK)(t:TA):TE:=λσ H Q=>t σ H λa H1=>sp (a++vQ) H1 Q E
def adN (C:aw)(sp:Sp)(vQ:List V)(E:XK)(t:TA):TE:=λσ H Q=>t σ H λb H1=>∀x a,H1 x=ar->H1 a=ar->a≠x->
 sp (.ref x::(b++vQ)) (upd (upd H1 a (.own x)) x (.ins C a [])) (λv c=>v=.non/\Q (.ref x) c) E
def Binds(K:af)(fd:dY)(a:List aY)(ds:List ai):Prop:=
 ∀(s:av) (us:List ai),K.In s.heap->(us++ds).length=a.length->aiS s fd ⟨us,[]⟩ (a.zip (us++ds))
def Binds.all{K:af}(h:∀us:List ai,us.length=a.length->dI fd ⟨us,[]⟩=pure (a.zip us)):Binds K fd a []:=λs us _ b=>by rw[bu] at b |-;exact .of_eq (h us b)
def yM (b:VA)(X:Cx)(E:XK):Prop:=∀(cc:List (aw×cB)) (σ:St) (H:Hp) (s:av) (e:ai) (a:av),Inv X cc σ H s->b X.stack H s E e a->X.xe e a
section
variable {X:Cx} {k:Nat} {ps:List aY} {vQ:List V} {e:bI} {es:List bI} {t:TA}
def Q9(F:j9 X.prog X.w X.K X.mg X.cq CX k f fd ps sp)(c:jd k X.A)(hb:Binds X.K fd ps ds)(hd:Vals vQ ds)(g:yM CX X E)
(I:Inv X cc σ H s)(r:Vals vs us)(h:sp (vs++vQ) H Q E):wpAny (model X.prog X.w) X.A (call (.ref f) us) (EP X cc σ Q) X.xe s:=by
 have b:=r.append hd;have i:(us++ds).length=ps.length:=by rw[<-b.length];exact F.len _ _ _ _ h
 refine fH (dm (F.run X.A X.stack s H _ _ _ Q E c I.VB (hb s us I.rM i) b h) λr j a=>?_);cases r with
 |error e=>exact g cc σ H s e j I a
 |ok fl=>
  cases fl with
  |ret u=>exact I.after a
  |next=>exact cu a
  |brk=>exact cu a
  |cont=>exact cu a
def VC(F:j9 X.prog X.w X.K X.mg X.cq CX k f fd ps sp)(a:jd k X.A)(b:Gl X x)(hm:X.mg x=aa (.ref f))(c:dV X.K (.ref f)=ag)(hb:Binds X.K fd ps ds)(hd:Vals vQ ds)(g:yM CX X E)
(ha:PA X (e::es) t)(i:(x==(fk:aY))=au:=by decide)(j:bg (e::es) X.env=(au,eval e X.env)::bg es X.env:=by rfl)(n:(du pos (bg es X.env)).any (·.1)=au:=by rfl):
  PE X (.Call (.Name x p) (e::es) [] pos) (YJ sp vQ E t):=by intro cc s σ H Q I h;refine cR (vo I b hm ?_ i);refine W.callWith_K I.ok.mod.QM c (j4 (ha pos cc s σ H _ I h) λus s1 ⟨u,H1,I1,r,q⟩=>⟨I1.rM,?_⟩) j n;exact Q9 F a hb hd g I1 r q
structure Mk(K:af)(C f:aw):Prop where
 makes:W.makesIn K C=ag
 init:aF K (.ref C) kz=aa (aa (.ref f))
 fn:W.isFn K (.ref f)=ag
 kp:dV K (.ref C)=ag
def Ra(M:Mk X.K C f)(F:j9 X.prog X.w X.K X.mg X.cq CX k f fd ps sp)(n:jd (k+1) X.A)(hb:Binds X.K fd ps ds)(hd:Vals vQ ds)
(q:yM CX X E)(I:Inv X cc σ H s)(r:Vals g us)
(h:∀x b,H x=ar->H b=ar->b≠x->sp (.ref x::(g++vQ)) (upd (upd H b (.own x)) x (.ins C b [])) (λv y=>v=.non/\Q (.ref x) y) E):
  wpAny (model X.prog X.w) X.A (call (.ref C) us) (EP X cc σ Q) X.xe s:=by
 have i:=h _ _ (I.iO.fresh (cw _)) (I.iO.fresh (aD _)) (bd (eW _));have c:=Inv.made (C:=C) I;have j:Vals (V.ref (s.heap.objs.size+1)::(g++vQ)) _:=.cons rfl (r.append hd);have z:=by have e:=j.length;rw[F.len _ _ _ _ i] at e;exact e.symm
 refine fH (Q8 I.rM M.makes M.init (beq_iff_eq.mp M.fn) (dm (F.run _ X.stack _ _ _ _ _ _ E (n.make C us [])
  (c.VB.make C us []) (hb _ _ c.rM z) j i) λr B a=>?_))
 cases r with
 |error e=>exact q cc σ _ _ e B c a
 |ok fl=>
  cases fl with
  |ret u=>
   obtain⟨v,G,J,L,N,O⟩:=c.after a;subst N;exact⟨L,⟨V.ref _,G,J,rfl,O⟩⟩
  |next=>exact cu a
  |brk=>exact cu a
  |cont=>exact cu a
def VE(M:Mk X.K C f)(F:j9 X.prog X.w X.K X.mg X.cq CX k f fd ps sp)(a:jd (k+1) X.A)(b:Gl X x)(hm:X.mg x=aa (.ref C))(hb:Binds X.K fd ps ds)(hd:Vals vQ ds)(c:yM CX X E)
(ha:PA X (e::es) t)(g:(x==(fk:aY))=au:=by decide)(i:bg (e::es) X.env=(au,eval e X.env)::bg es X.env:=by rfl)(j:(du pos (bg es X.env)).any (·.1)=au:=by rfl):
  PE X (.Call (.Name x p) (e::es) [] pos) (adN C sp vQ E t):=by intro cc s σ H Q I h;refine cR (vo I b hm ?_ g);refine W.callWith_K I.ok.mod.QM M.kp (j4 (ha pos cc s σ H _ I h) λus s1 ⟨n,H1,I1,r,q⟩=>⟨I1.rM,?_⟩) i j;exact Ra M F a hb hd c I1 r q
end
section
variable {k:Nat} {ps ks:List aY} {es:List bI} {t tk:TA} {nm:Option aY}
structure agF(K:af)(fd:dY)(ps ks:List aY)(g:List ai->List ai->List ai)(gV:List V->List V->List V):Prop where
 to:∀(s:av) (us ws:List ai),K.In s.heap->(g us ws).length=ps.length->aiS s fd ⟨us,ks.zip ws⟩ (ps.zip (g us ws))
 rel:∀{vs:List V} {us:List ai} {zs:List V} {ws:List ai},Vals vs us->Vals zs ws->Vals (gV vs zs) (g us ws)
end
structure jP(N P:List aY)(sc:dj):Prop where
 kind:sc.kind=.function
 co:sc.isCoroutine=au
 gen:sc.isGenerator=au
 nd:N.Nodup
 pre:N.take P.length=P
 par:∀x∈P,sc.names.lookup x=aa .local\/sc.names.lookup x=aa .cell
 aav:∀y∈sc.names,y.2≠.free
theorem D6{kindOf:aY->Option dJ}:∀{binds:List _} {m:aY->Option ai},(∀v,(x,v)∉binds)->ajB kindOf binds m x=m x
 |[],_,_=>rfl
 | (n,v)::r,m,h=>by
  unfold ajB;rw[D6 λw hw=>h w (aB _ hw)];split
  .have:x≠n:=by rintro rfl;exact h v aN
   simp[this]
  .rfl
theorem D7{kindOf:aY->Option dJ}:∀{binds:List _} {m:aY->Option ai},(∀v,(x,v)∉binds)->ajC kindOf binds m x=m x
 |[],_,_=>rfl
 | (n,v)::r,m,h=>by
  unfold ajC;rw[D7 λw hw=>h w (aB _ hw)];split
  .rfl
  .have:x≠n:=by rintro rfl;exact h v aN
   simp[this]
theorem D8{kindOf:aY->Option dJ}:∀{P:List aY} {a:List ai} {i:Nat} {m:aY->Option ai},P.Nodup->P[i]?=aa x->a[i]?=aa v->kindOf x=aa .local->
  ajB kindOf (P.zip a) m x=aa v
 |[],_,_,_,_,h,_,_=>by simp at h
 |_::_,[],_,_,_,_,h,_=>by simp at h
 |p::P,w::a,0,m,nd,b,c,e=>by simp at b c;subst b;subst c;show ajB kindOf ((p,w)::P.zip a) m p=_;unfold ajB;rw[D6 λv f=>(dw.mp nd).1 (gg f).1,if_pos e];simp
 |p::P,w::a,i+1,m,nd,b,c,e=>by unfold ajB;exact D8 (dw.mp nd).2 (by simpa using b) (by simpa using c) e
theorem D9{kindOf:aY->Option dJ}:∀{P:List aY} {a:List ai} {i:Nat} {m:aY->Option ai},P.Nodup->P[i]?=aa x->a[i]?=aa v->kindOf x≠aa .local->
  ajC kindOf (P.zip a) m x=aa v
 |[],_,_,_,_,h,_,_=>by simp at h
 |_::_,[],_,_,_,_,h,_=>by simp at h
 |p::P,w::a,0,m,nd,b,c,e=>by simp at b c;subst b;subst c;show ajC kindOf ((p,w)::P.zip a) m p=_;unfold ajC;rw[D7 λv f=>(dw.mp nd).1 (gg f).1,if_neg e];simp
 |p::P,w::a,i+1,m,nd,b,c,e=>by unfold ajC;exact D9 (dw.mp nd).2 (by simpa using b) (by simpa using c) e
noncomputable def start(N:List aY)(a:List V):St:=a.map aa++bW (N.length- a.length) ar
noncomputable def qZ(b:VA)(P:bc)(w:bJ)(K:af)(mg:aY->Option ai)(cq:aC)(N:List aY)(qual:aY)(scope:dj)(f:aw)(cd:ai)(A:bH)(cv:List aie)(s:av)(H:Hp)(E:XK):Cx where
 prog:=P
 w:=w
 K:=K
 mg:=mg
 cq:=cq
 A:=A.deeper (dZ qual scope s.heap.objs.size f cd)
 N:=N
 iA:=s
 iH:=H
 env:=dZ qual scope s.heap.objs.size f cd
 cv:=cv
 stack:=dZ qual scope s.heap.objs.size f cd::cv
 ex:=[]
 calm:=ag
 fn:=λ_=>ag
 pn:=[]
 xe:=λe c=>wpAny (model P w) (A.deeper (dZ qual scope s.heap.objs.size f cd)) (leaving (dZ qual scope s.heap.objs.size f cd) e) (λ_ a=>b cv H s E e a) (λe' a=>b cv H s E e' a) c
def Hc{sc:dj}(h:sc.names.lookup x=aa .cell):∃c,(ajl n sc.names []).lookup x=aa c:=by have q:=W.cellsFrom_some sc.names n [] (.inl h);exact cY.mp q
def Ea{K:af}{E:XK}
(S:jP N o scope)(hd:A.handled=ar)(j:Ba P w K mg cq A cv s H)(Q:n.length=o.length)(r:Vals n us)
(x:InCallC s s.heap.objs.size (ajB (dZ qual scope s.heap.objs.size f cd).kindOf (o.zip us) λ_=>ar) (ajl (s.heap.objs.size+1) scope.names []) (ajC (dZ qual scope s.heap.objs.size f cd).kindOf (o.zip us) λ_=>ar) s1):
  Inv (qZ M P w K mg cq N qual scope f cd A cv s H E) [] (start N n) H s1:=by
 have T:=by have:=congrArg cG S.pre;rw[dM] at this;omega
 obtain⟨I,tk,rfl,J⟩:=x.done;have m:∀b:aw,b∉(qZ M P w K mg cq N qual scope f cd A cv s H E).ex:=λb z=>absurd (show b∈([]) from z) (by simp);refine⟨⟨j.mod,S.kind,rfl,rfl,aD _,λy z c I g=>?_,λy B=>?_,λy c _ h=>?_,λ_=>hd,bH.frames_deeper j.frames,.inr ⟨rfl,rfl⟩,λb z=>absurd z (m b),j.bs,j.Oh,λb _ _=>m b,λb z=>absurd z (m b),j.vP,j.QN⟩,
  rfl,j.bare,Un.kept J,⟨_,x.toInCall.ns,λi y v I g U=>?_⟩,λy c h=>⟨_,x.cell y c h⟩,j.iO.fresh (aD _),λy c h=>?_,λp C=>absurd (show p∈([]) from C) (by simp),j.iO.kept J,?_⟩
 .exact name_of_addr x.apart (PySem.mem_of_lookup I) (PySem.mem_of_lookup g)
 .rcases B with B|B
  .exact Hc B
  .exact absurd rfl (S.aav _ (PySem.mem_of_lookup B))
 .exact dF (x.above y c (PySem.mem_of_lookup h))
 .have hi:i<n.length:=by
   unfold start at g;by_cases hi:i<n.length
   .exact hi
   .rw[cT (by simpa using hi)] at g;rw[List.getElem?_replicate] at g;split at g<;>cases g
  have ha:n[i]?=aa v:=by
   unfold start at g;rw[aX (by simpa using hi),bh] at g;cases e:n[i]? with
   |none=>rw[e] at g;cases g
   |some a=>rw[e] at g;cases g;rfl
  obtain⟨u,L,O⟩:=r.get ha;have C:o[i]?=aa y:=by rw[<-S.pre,List.getElem?_take_of_lt (by exact bw hi (gB Q))];exact I
  have G:o.Nodup:=by rw[<-S.pre];exact S.nd.sublist (List.take_sublist _ _)
  refine⟨u,O,?_⟩;rcases S.par y (bA C) with k|k
  .exact .inl ⟨k,D8 G C L k⟩
  .obtain⟨c,e⟩:=Hc k;refine .inr ⟨.inl k,c,e,?_⟩;have q:=x.cell y c e;rw[D9 G C L (by show scope.names.lookup y≠_;rw[k];decide)] at q;exact q
 .exact j.iO.fresh (dF (x.above y c (PySem.mem_of_lookup h)))
 .unfold start;show _=N.length;rw[aE,ao,List.length_replicate];omega
def Rb{K:af}{G kV doc pm iQ ct oc:ai}
(lk:K.lookup f=aa ⟨oc,od,.func (dy name qual params body scope G kV doc pm an iQ ct),Ot⟩)(T:W.codeIn K iQ qual=ag)(S:jP N j scope)
(len:∀c H Q E,sp c H Q E->c.length=j.length)
(U:∀(A:bH) (cv:List aie) (s:av) (H:Hp) (c:List V) (Q:VK) (E:XK),jd k (A.deeper (dZ qual scope s.heap.objs.size f iQ))->sp c H Q E->
   ∃t,xu (qZ m P w K mg cq N qual scope f iQ A cv s H E) body t/\t {nx:=λ_ a=>Q .non a,rt:=Q} (start N c) H):
  j9 P w K mg cq m (k+1) f (dy name qual params body scope G kV doc pm an iQ ct) j sp:=by
 refine⟨len,λA cv s H args us c Q E p h hb r L=>?_⟩;have Y:=len _ _ _ _ L;have M:=h.mod.QM.keeps λb o e=>(h.bs b o e).1;have z:=h.mod.nolimit.keeps λb o e=>(h.bs b o e).1;have Rc:∀y∈j.zip us,scope.names.lookup y.1=aa .local\/(scope.names.lookup y.1=aa .cell/\((ajl (s.heap.objs.size+1) _ []).lookup y.1).isSome=ag):=λ⟨n,v⟩ hy=>by
  rcases S.par n (gg hy).1 with q|q
  .exact .inl q
  .exact .inr ⟨q,W.cellsFrom_some _ _ _ (.inl q)⟩
 refine codeAny_call_function p.depth (M _ _ lk) rfl S.co S.gen rfl (W.codeRec_of M T) (hb _ _ _ _ ?_);refine aja S.kind Rc λenv he s1 x=>?_;subst he;refine⟨z.keeps x.toInCall.keep,codeAny_func ?_⟩;obtain⟨t,ht,hq⟩:=U A cv s H c Q E (p.deeper _) L;have I:Inv (qZ m P w K mg cq N qual scope f iQ A cv s H E) [] _ H s1:=Ea S p.hd h Y r x;refine cm (ht [] s1 _ H _ I hq) (λfl B g=>?_) λe B g=>g;have O:∀{i:St} {a:Hp} {v:V} {u:ai},Inv (qZ m P w K mg cq N qual scope f iQ A cv s H E) [] i a B->RelV v u->Q v a->CE cv P w H s Q u B:=
  λ{i a v u} J C q=>⟨v,a,J.os,J.bare,J.cq,J.iO,C,q⟩
 cases fl with
 |ret u=>
  obtain⟨v,i,a,J,C,q⟩:=g;exact O J C q
 |next=>
  obtain⟨i,a,J,q⟩:=g;exact O (v:=V.non) J rfl q
 |brk=>
  obtain⟨_,_,_,q⟩:=g;exact cu q
 |cont=>
  obtain⟨_,_,_,q⟩:=g;exact cu q
section
variable {X:Cx} {es:List bI} {t:TA} {id:String}
def tCB (r:List V->Hp->VK->Prop)(t:TA):TE:=λσ H Q=>t σ H λa H1=>r a H1 Q
def Bb(hc:lV X (.builtin id) r)(a:Gl X x)(hm:X.mg x=ar)(b:bS x=aa (.builtin id))(ha:PA X (e::es) t)(hn:x≠me:=by decide)(tY:(x==(fk:aY))=au:=by decide)
(he:bg (e::es) X.env=(au,eval e X.env)::bg es X.env:=by rfl)(vq:(du pos (bg es X.env)).any (·.1)=au:=by rfl):PE X (.Call (.Name x p) (e::es) [] pos) (tCB r t):=by intro cc s σ H Q I h;refine cR (rO I a hm b ?_ hn tY);exact PyProof.Rows.callWith_builtin1 (j4 (ha pos cc s σ H _ I h) λus s1 zq=>by obtain⟨c,H1,I1,f,g⟩:=zq;exact hc cc s1 σ H1 c us Q I1 f g) he vq
def yN(hc:lV X (.type T) r)(a:Gl X x)(hm:X.mg x=ar)(b:bS x=aa (.type T))(ha:PA X (e::es) t)(hn:x≠me:=by decide)(tY:(x==(fk:aY))=au:=by decide)
(he:bg (e::es) X.env=(au,eval e X.env)::bg es X.env:=by rfl)(vq:(du pos (bg es X.env)).any (·.1)=au:=by rfl):PE X (.Call (.Name x p) (e::es) [] pos) (tCB r t):=by intro cc s σ H Q I h;refine cR (rO I a hm b ?_ hn tY);exact cM (j4 (ha pos cc s σ H _ I h) λus s1 zq=>by obtain⟨c,H1,I1,f,g⟩:=zq;exact hc cc s1 σ H1 c us Q I1 f g) he vq
end
section
variable {κ:Type} [DecidableEq κ]
noncomputable def qL(a:List (κ×V))(k:κ):Option V:=(a.find? λb=>decide (b.1=k)).map (·.2)
noncomputable def wl(b:List (κ×V))(k:κ)(v:V):List (κ×V):=
 if(b.any λa=>decide (a.1=k))=ag then b.map (λa=>if a.1=k then(a.1,v) else a) else b++[(k,v)]
def xz{k:κ}(e:p.1=k):qL (p::r) k=aa p.2:=by simp[qL,e]
def xA{k:κ}(e:¬p.1=k):qL (p::r) k=qL r k:=by simp[qL,e]
theorem He(k:κ):∀a:List _,(a.any λb=>decide (b.1=k))=(qL a k).isSome
 |[]=>rfl
 |p::r=>by
  rw[c6];by_cases e:p.1=k
  .simp only [xz e,decide_eq_true e,Bool.true_or,Option.isSome_some]
  .rw[xA e,decide_eq_false e];exact He k r
def zN(a:List _)(k:κ)(v:V):(wl a k v).length<=a.length+1:=by
 unfold wl;split
 .rw[ao];exact cw _
 .rw[aE,aU,ck];exact eW _
def qK.re(r:qK o u):o.isSome=u.isSome:=by
 cases o with
 |none=>cases u with
  |none=>rfl
  |some _=>exact(r).elim
 |some _=>cases u with
  |none=>exact(r).elim
  |some _=>rfl
theorem qK.getD{o:Option V}{u:Option ai}{d:V}{a:ai}(r:qK o u)(rd:RelV d a):RelV (o.getD d) (u.getD a):=by
 cases o with
 |none=>cases u with
  |none=>exact rd
  |some _=>exact(show False from r).elim
 |some _=>cases u with
  |none=>exact(show False from r).elim
  |some _=>exact r
def KV.val(r:KV f g)(k:κ):qK (qL f k) (dS g k):=by
 induction r with
 |nil=>exact dG
 |@cons p q m a h t i=>
  obtain⟨c,j⟩:=h;by_cases e:p.1=k
  .have e':=c.symm.trans e;have b:dS (q::a) k=aa q.2:=by simp[dS,e']
   rw[xz e,b];exact j
  .have e':¬q.1=k:=λz=>e (c.trans z);have b:dS (q::a) k=dS a k:=by simp[dS,e']
   rw[xA e,b];exact i
theorem KV.any(r:KV b c)(k:κ):(b.any λa=>decide (a.1=k))=c.any λa=>decide (a.1=k):=by
 induction r with
 |nil=>rfl
 |cons h t e=>rw[c6,c6,e,h.1]
def KV.aaw(r:KV c f)(k:κ)(g:RelV y u):
  KV (c.map λa=>if a.1=k then(a.1,y) else a) (f.map λa=>if a.1=k then(a.1,u) else a):=by
 induction r with
 |nil=>exact .nil
 |@cons p q m n h t i=>
  rw[bq,bq];refine .cons ?_ i;obtain⟨b,j⟩:=h;by_cases e:p.1=k
  .rw[if_pos e,if_pos (b.symm.trans e)];exact⟨b,g⟩
  .rw[if_neg e,if_neg (λz=>e (b.trans z))];exact⟨b,j⟩
def KV.put(r:KV c a)(k:κ)(b:RelV y u):KV (wl c k y) (stored a k u):=by
 unfold wl stored;rw[r.any k];by_cases e:(a.any λf=>decide (f.1=k))=ag
 .rw[if_pos e,if_pos e];exact r.aaw k b
 .rw[if_neg e,if_neg e];exact Paired.snoc r ⟨rfl,b⟩
def KV.keys{a:List (κ×V)}{b:List (κ×ai)}(r:KV a b):a.map (·.1)=b.map (·.1):=by
 unfold KV at r;induction r with
 |nil=>rfl
 |cons h t c=>rw[bq,bq,c,h.1]
theorem KV.length{a:List (κ×V)}(r:KV a b):a.length=b.length:=Paired.length r
end
def xB(r:RelV (kV k) u):(iM P w).is k u=ag:=by
 cases k with
 |inl i=>obtain⟨t,e⟩:=(r);subst e;exact G3 P w i t
 |inr x=>obtain⟨t,e⟩:=(r);subst e;exact G4 P w x t
theorem Eb:∀{a:List Key} {us:List ai},Vals (a.map kV) us->ItemsAre (iM P w) a us
 |[],_,r=>by cases r;exact .nil
 |k::a,_,r=>by
  cases r with
  |cons h t=>exact .cons (xB h) (Eb t)
abbrev KT(H:Hp):List (List Key×V)->List (List Key×aw×ai)->Prop:=Paired λp q=>p.1=q.1/\H q.2.1=aa (.tup (p.1.map kV))/\RelV p.2 q.2.2
def KT.val(r:KT H f xs)(k:List Key):qK (qL f k) ((ajm xs k).map (·.2)):=by
 induction r with
 |nil=>exact dG
 |@cons p q j a h t g=>
  obtain⟨c,_,i⟩:=h;by_cases e:p.1=k
  .have e':=c.symm.trans e;have b:ajm (q::a) k=aa q.2:=by simp[ajm,e']
   rw[xz e,b];exact i
  .have e':¬q.1=k:=λz=>e (c.trans z);have b:ajm (q::a) k=ajm a k:=by simp[ajm,e']
   rw[xA e,b];exact g
def KT.aaw(r:KT H f xs)(k:List Key)(g:RelV y u):
  KT H (f.map λb=>if b.1=k then(b.1,y) else b) (xs.map (putAt k u)):=by
 induction r with
 |nil=>exact .nil
 |@cons p q m n h t i=>
  rw[bq];refine .cons ?_ i;obtain⟨a,c,j⟩:=h;unfold putAt;by_cases e:p.1=k
  .rw[if_pos e,if_pos (a.symm.trans e)];exact⟨a,c,g⟩
  .rw[if_neg e,if_neg (λz=>e (a.trans z))];exact⟨a,c,j⟩
def KT.put(r:KT H a xs)(k:List Key)(hb:H b=aa (.tup (k.map kV)))(c:RelV y u):
  KT H (wl a k y) (storedH xs k b u):=by
 have e:(a.any λf=>decide (f.1=k))=(ajm xs k).isSome:=by rw[He,(r.val k).re,gL]
 unfold wl storedH;rw[e];by_cases q:(ajm xs k).isSome=ag
 .rw[if_pos q,if_pos q];exact r.aaw k c
 .rw[if_neg q,if_neg q];exact Paired.snoc r ⟨rfl,hb,c⟩
def KT.keeps(r:KT H c xs)(ht:∀b a,H b=aa (.tup a)->e b=aa (.tup a)):KT e c xs:=
 Paired.ZX r λ_ _ z=>⟨z.1,ht _ _ z.2.1,z.2.2⟩
section
variable {h:aC}
def YK(ok:rK P w H h)(e:Rd H a u):jB P w H h a u:=e.ok ok
def p8(ok:rK P w H h)(e:Rd H a (.dK b)):b.length<=aO/\(a==b9)=au/\∃c,KV b c/\h.DictOf (iM P w) a c:=
 YK ok e
def YL(ok:rK P w H h)(e:H a=aa (.dK b)):b.length<=aO/\(a==b9)=au/\∃c,KV b c/\h.DictOf (iM P w) a c:=p8 ok (.inl e)
def wm(ok:rK P w H h)(e:H a=aa (.tup (b.map kV))):(aiq (iM P w)).is h b a:=by obtain⟨_,iq,r,o,c,f,n,g⟩:=(ok a _ e);exact⟨o,iq.toArray,n,c,f,g,by simpa using Eb r⟩
def Bc(ok:rK P w H h)(e:Rd H a (.dT c)):c.length<=aO/\(a==b9)=au/\
  ∃xs,KT H c xs/\h.DictOfH (aiq (iM P w)) a xs:=by
 obtain⟨z,y,xs,r,o,es,g,i,j,n,s,u⟩:=(YK ok e);refine⟨z,y,xs,r,o,es,g,i,j,n,s,λx b=>?_,u⟩;have all:∀{l:List _} {m:List _},KT H l m->∀x∈m,(aiq (iM P w)).is h x.1 x.2.1:=by
  intro l m q;induction q with
  |nil=>intro x b;exact nomatch b
  |@cons p q A B f t v=>
   intro x b;rcases aH.mp b with e|b
   .subst e;exact wm ok (by rw[<-f.1];exact f.2.1)
   .exact v x b
 exact all r x b
def adO(ok:rK P w H h)(e:H a=aa (.dT b)):b.length<=aO/\(a==b9)=au/\
  ∃xs,KT H b xs/\h.DictOfH (aiq (iM P w)) a xs:=Bc ok (.inl e)
end
def rf (H:Hp)(a:aw)(y:V)(r:Option V):Prop:=
 (∃c k,Rd H a (.dK c)/\y=kV k/\r=qL c k)\/∃c k b,Rd H a (.dT c)/\y=.ref b/\H b=aa (.tup (k.map kV))/\r=qL c k
def Kv (H:Hp)(a:aw)(y v:V)(e:Hp):Prop:=
 (∃c k,H a=aa (.dK c)/\y=kV k/\c.length<aO/\e=upd H a (.dK (wl c k v)))\/
 ∃c k b,H a=aa (.dT c)/\y=.ref b/\H b=aa (.tup (k.map kV))/\c.length<aO/\e=upd H a (.dT (wl c k v))
theorem rf.k{H:Hp}{a:aw}{b:List (Key×V)}{k:Key}(e:H a=aa (.dK b)):rf H a (kV k) (qL b k):=.inl ⟨b,k,.inl e,rfl,rfl⟩
def rf.t{H:Hp}{a b:aw}{c:List (List Key×V)}{k:List Key}(e:H a=aa (.dT c))(f:H b=aa (.tup (k.map kV))):rf H a (.ref b) (qL c k):=.inr ⟨c,k,b,.inl e,rfl,f,rfl⟩
theorem Kv.k{k:Key}(e:H a=aa (.dK b))(c:b.length<aO):Kv H a (kV k) v (upd H a (.dK (wl b k v))):=.inl ⟨b,k,e,rfl,c,rfl⟩
def Kv.t{H:Hp}{a b:aw}{c:List (List Key×V)}{k:List Key}{v:V}(e:H a=aa (.dT c))(f:H b=aa (.tup (k.map kV)))(g:c.length<aO):
  Kv H a (.ref b) v (upd H a (.dT (wl c k v))):=.inr ⟨c,k,b,e,rfl,f,g,rfl⟩
section
variable {X:Cx} {s:av} {o:Option V} {A:bH}
def Inv.big(I:Inv X cc σ H s):b9<s.heap.objs.size:=by have h:=(I.mod.glob.keeps I.bk).lt;exact gC (by decide) h
def Ou(q:A.units+1<eC)(I:Inv X cc σ H s)(g:rf H a y (aa v))(m:RelV y u)(h:∀c n,Inv X cc σ H n->RelV v c->Q c n):
  wpAny (model X.prog X.w) A (aiy (.ref a) u) Q E s:=by
 rcases g with⟨x,k,e,f,l⟩|⟨x,k,b,e,f,B,l⟩
 .subst f;obtain⟨z,hd,G,rel,dd⟩:=p8 I.iO e;obtain⟨c,hw,i⟩:=qK.some_of (by rw[l];exact rel.val k);exact wpAny_getItem_of (xB m) dd.mapOf hw (h c _ (I.tok _) i)
 .subst f;cases(m);obtain⟨z,hd,xs,rel,dd⟩:=Bc I.iO e;obtain⟨c,hw,i⟩:=qK.some_of (by rw[l];exact rel.val k);obtain⟨p,C,j⟩:=Option.map_eq_some_iff.mp hw;refine wpAny_getItem_heap (eI q) (wm I.iO B) dd C ?_;rw[j];exact h c _ (I.tok _) i
def agG(j:A.units+1<eC)(I:Inv X cc σ H s)(g:rf H a y o)(f:RelV y u)(h:∀i,Inv X cc σ H i->Q (.bool o.isSome) i):
  wpAny (model X.prog X.w) A (compareOp .In u (.ref a)) Q E s:=by
 rcases g with⟨m,k,e,c,l⟩|⟨m,k,b,e,c,n,l⟩
 .subst c;obtain⟨z,hd,p,rel,dd⟩:=p8 I.iO e;refine wpAny_in_of (xB f) hd dd.mapOf ?_;rw[<-(rel.val k).re,<-l];exact h _ (I.tok _)
 .subst c;cases(f);obtain⟨z,hd,xs,rel,dd⟩:=Bc I.iO e;refine wpAny_in_heap (eI j) (wm I.iO n) hd dd ?_;have q:=(rel.val k).re;rw[gL] at q;rw[<-q,<-l];exact h _ (I.tok _)
def VF(j:A.units+1<eC)(I:Inv X cc σ H s)(g:rf H a y o)(f:RelV y u)(h:∀i,Inv X cc σ H i->Q (.bool (!o.isSome)) i):
  wpAny (model X.prog X.w) A (compareOp .NotIn u (.ref a)) Q E s:=by
 rcases g with⟨m,k,e,c,l⟩|⟨m,k,b,e,c,n,l⟩
 .subst c;obtain⟨z,hd,p,rel,dd⟩:=p8 I.iO e;refine wpAny_notIn_of (xB f) hd dd.mapOf ?_;rw[<-(rel.val k).re,<-l];exact h _ (I.tok _)
 .subst c;cases(f);obtain⟨z,hd,xs,rel,dd⟩:=Bc I.iO e;refine wpAny_notIn_heap (eI j) (wm I.iO n) hd dd ?_;have q:=(rel.val k).re;rw[gL] at q;rw[<-q,<-l];exact h _ (I.tok _)
def E8(I:Inv X cc σ H s)(e:Mut (H a))(f:bO a s.heap c)(g:∃q,c.get? a=aa q)(new:jB X.prog X.w (upd H a ob) c a ob):
  Inv X cc σ (upd H a ob) {s with heap:=c,toks:=h}:=
 I.write e (.inl rfl) (λb q hb z=>(f.2 b hb).trans z) g new
def Kw(z:b.length<=aO)(hd:(a==b9)=au)(rel:KV b c)(dd:e.DictOf (iM P w) a c):
  jB P w f e a (.dK b):=⟨z,hd,c,rel,dd⟩
def Ov(N:A.units+1<eC)(I:Inv X cc σ H s)(g:Kv H a y v O)(B:RelV y u)(C:RelV v r)(h:∀G,Inv X cc σ O G->Q () G):
  wpAny (model X.prog X.w) A (setItem (.ref a) u r) Q E s:=by
 rcases g with⟨f,k,e,m,l,n⟩|⟨f,k,b,e,m,J,l,n⟩
 .subst m n;obtain⟨z,hd,T,rel,dd⟩:=YL I.iO e;have L:T.length<=aO:=by rw[<-rel.length];exact z
  have p:(wl f k v).length<=aO:=by have:=zN f k v;lia
  refine wpAny_setItem_pairs (hsz:=L) (xB B) dd λM i x=>h _ ?_;have Y:∃q,M.get? a=aa q:=let⟨q,_,_,j,_⟩:=i;⟨q,j⟩;exact E8 I (by rw[e];exact dG) x Y (Kw p hd (rel.put k C) i)
 .subst m n;cases(B);obtain⟨z,hd,xs,rel,dd⟩:=adO I.iO e;have L:xs.length<=aO:=by rw[<-Paired.length rel];exact z
  have p:(wl f k v).length<=aO:=by have:=zN f k v;lia
  refine wpAny_setItem_heap (eI N) (wm I.iO J) dd λM i x=>h _ ?_;obtain⟨q,es,ep,j,h2,h3,h4,_,h5⟩:=i;refine E8 I (by rw[e];exact dG) x ⟨q,j⟩ ⟨p,hd,_,(rel.put k J C).keeps λc ys ec=>?_,q,es,ep,j,h2,h3,h4,h5⟩;rw[hZ (ads ec e (λz=>nomatch z))];exact ec
end
section
variable {X:Cx} {ik:List (Key×V)} {k:Key}
def adP(I:Inv X cc σ H s)(e:Rd H a (.dK ik))(h:∀t b,Inv X cc σ H b->Q (.int ik.length t) b):wpAny (model X.prog X.w) A (call (.builtin mv) [.ref a]) Q E s:=by obtain⟨z,hd,c,rel,dd⟩:=p8 I.iO e;refine call_len_dict hd dd (by rw[<-rel.length];rw[bp] at z;lia) ?_;rw[<-rel.length];exact h _ _ (I.tok _)
end
def Hg(I:Inv X cc σ H s)(g:rf H a y o):s.TypeIs (.ref a) fi:=by
 rcases g with⟨c,k,e,_,_⟩|⟨c,k,b,e,_,_,_⟩
 .obtain⟨_,_,f,_,dd⟩:=p8 I.iO e;exact dd.typeIs
 .obtain⟨_,_,xs,_,dd⟩:=Bc I.iO e;exact dd.typeIs
def adQ (td ty c:TE):TS:=λD σ H=>c σ H λv H1=>td σ H1 λx e=>ty σ e λy f=>∃a b,x=.ref a/\Kv f a y v b/\D.nx σ b
section
variable {X:Cx} {pos:eB} {ty:TE}
def VH(b:X.A.units+1<eC)(c:PE X o td)(hi:PE X i ty)(f:PE X value tv)(j:eO value (aa (.Subscript o i tW)) pos.line X.env=pure au):
  PS X (.Assign [.Subscript o i tW] value pos) (adQ td ty tv):=by intro cc s σ H D I h;refine wpAny_Assign_Subscript (j4 (f cc s σ H _ I h) λr s1 ⟨v,H1,I1,m,n⟩=>j4 (c cc s1 σ H1 _ I1 n) λu s2 ⟨x,p,q,w,z⟩=>j4 (hi cc s2 σ p _ q z) λL s3 zq=>?_) j;obtain⟨y,M,B,C,a,E,ex,g,G⟩:=zq;subst ex;obtain rfl:u=bE a:=w;exact Ov b B g C m λN J=>⟨σ,E,J,G⟩
end
def Rf(h:aC)(hb:b9<h.objs.size):jB P w H (h.push {cls:=.type fi,data:=.dict #[]}) h.objs.size (.dK []):=
 ⟨bD _,beq_eq_false_iff_ne.mpr (b8 (bd hb)),[],.nil,aC.DictOf.new h⟩
def aax:TE:=λ_ H Q=>∀p,H p=ar->Q (.ref p) (upd H p (.dK []))
def Rg:PE X (.Dict [] [] pos) aax:=λcc s σ H Q I h=>
 wpAny_Dict_empty ⟨.ref _,_,I.laid (λ_ _ q=>aj _ q) (aD _) (Rf s.heap I.big),rfl,h _ (I.iO.fresh (aD _))⟩
def Kx:List (TE×TE)->St->Hp->(List (V×V)->Hp->Prop)->Prop
 |[],_,H,Q=>Q [] H
 | (tk,a)::r,σ,H,Q=>tk σ H λx H1=>a σ H1 λy b=>Kx r σ b λc e=>Q ((x,y)::c) e
abbrev VV:List (V×V)->List (ai×ai)->Prop:=Paired λp q=>RelV p.1 q.1/\RelV p.2 q.2
def PPs (X:Cx)(pos:eB)(keys:List (Option bI))(values:List bI)(a:List (TE×TE)):Prop:=
 ∀(cc:List (aw×cB)) (s:av) (σ:St) (H:Hp) (Q:List (V×V)->Hp->Prop),Inv X cc σ H s->Kx a σ H Q->
  wpAny (model X.prog X.w) X.A (evalPairs (pairTrees keys values X.env pos)) (λe f=>∃b c,Inv X cc σ c f/\VV b e/\Q b c) X.xe s
structure M1(X:Cx)(o:bI)(m:aY)(apos:eB)(e:bI)(ka:eB):Prop where
 cq:dP o m X.env (eval o X.env)=eval o X.env
 few:((du ka (bg [e] X.env)).all (λx=>!x.1)&&(aiT ka (fM [] X.env)).all (λx=>x.1.isSome)
  &&decide (([e]:List bI).length+([]:List aix).length+(if([]:List aix).isEmpty then 0 else 1)<30))=ag
 line:(apos.endLine==ka.line)=ag
 trees:du ka (bg [e] X.env)=[(au,eval e X.env)]
structure M2(X:Cx)(o:bI)(m:aY)(apos:eB)(e f:bI)(ka:eB):Prop where
 cq:dP o m X.env (eval o X.env)=eval o X.env
 few:((du ka (bg [e,f] X.env)).all (λx=>!x.1)&&(aiT ka (fM [] X.env)).all (λx=>x.1.isSome)
  &&decide (([e,f]:List bI).length+([]:List aix).length+(if([]:List aix).isEmpty then 0 else 1)<30))=ag
 line:(apos.endLine==ka.line)=ag
 trees:du ka (bg [e,f] X.env)=[(au,eval e X.env),(au,eval f X.env)]
section
variable {X:Cx} {d:V} {o:Option V} {A:bH}
def Rh{Q:ai->av->Prop}(m:A.units+1<eC)(I:Inv X cc σ H s)(g:rf H a y o)(f:RelV y u)(h:∀i j,Inv X cc σ H j->RelV (o.getD .non) i->Q i j):
  wpAny (model X.prog X.w) A (call (.builtin "dict.get") [.ref a,u]) Q E s:=by
 rcases g with⟨n,k,e,c,l⟩|⟨n,k,b,e,c,p,l⟩
 .subst c;obtain⟨z,hd,q,rel,dd⟩:=p8 I.iO e;refine gS PySem.F.slot_dict_get dd.typeIs PySem.F.entry_dict_get (PySem.F.args_dict_get_2 _ _) (meets_dict_get (iM X.prog X.w) a (xB f) hd) ⟨_,dd.mapOf,h _ _ (I.tok _) ?_⟩;rw[l];exact(rel.val k).getD rfl
 .subst c;cases(show u=bE b from f);obtain⟨z,hd,xs,rel,dd⟩:=Bc I.iO e;refine gS PySem.F.slot_dict_get dd.typeIs PySem.F.entry_dict_get (PySem.F.args_dict_get_2 _ _) (meetsH_dict_get (aiq (iM X.prog X.w)) a b hd) ⟨eI m,k,xs,wm I.iO p,dd,h _ _ (I.tok _) ?_⟩;rw[l];exact(rel.val k).getD rfl
def Ri{Q:ai->av->Prop}(m:A.units+1<eC)(I:Inv X cc σ H s)(g:rf H a y o)(f:RelV y u)(rd:RelV d r)(h:∀i j,Inv X cc σ H j->RelV (o.getD d) i->Q i j):
  wpAny (model X.prog X.w) A (call (.builtin "dict.get") [.ref a,u,r]) Q E s:=by
 rcases g with⟨n,k,e,c,l⟩|⟨n,k,b,e,c,p,l⟩
 .subst c;obtain⟨z,hd,q,rel,dd⟩:=p8 I.iO e;refine gS PySem.F.slot_dict_get dd.typeIs PySem.F.entry_dict_get (PySem.F.args_dict_get_3 _ _ _) (meets_dict_get_default (iM X.prog X.w) a (xB f) hd r) ⟨_,dd.mapOf,h _ _ (I.tok _) ?_⟩;rw[l];exact(rel.val k).getD rd
 .subst c;cases(show u=bE b from f);obtain⟨z,hd,xs,rel,dd⟩:=Bc I.iO e;refine gS PySem.F.slot_dict_get dd.typeIs PySem.F.entry_dict_get (PySem.F.args_dict_get_3 _ _ _) (meetsH_dict_get_default (aiq (iM X.prog X.w)) a b hd r) ⟨eI m,k,xs,wm I.iO p,dd,h _ _ (I.tok _) ?_⟩;rw[l];exact(rel.val k).getD rd
end
section
variable {ty:TE}
end
end L2
end
namespace HT
open PySem PyProof.Rows
section
open PySem.SeqAt
open PySem.AutoSeq1 (wpAny_loadPart')
open PySem.MeetsSeq PySem.MeetsSeq2 PySem.MeetsSeq3
end
section
variable {s:av}
def VI(ht:aiJ s.heap t a.toArray)(hb:aiJ s.heap b ws.toArray)(i:a≠[])
(p:ws=[]->Q (.ref t) s)(q:ws≠[]->Q (.ref s.heap.objs.size) {s with heap:=s.heap.push {cls:=.type ej,data:=.seq (a++ws).toArray}})
(r:a.length+ws.length<=aO):wpAny (model prog w) A (binaryOp .Add (.ref t) (.ref b)) Q E s:=by
 obtain⟨⟨cls,dd,data,sl⟩,g,hc,n,hd⟩:=id ht;obtain⟨⟨u,c,data2,f⟩,h,j,m,o⟩:=id hb;simp only at hc hd j o;subst hc hd j o;have e:a.toArray++ws.toArray=(a++ws).toArray:=by simp
 by_cases hw:ws=[]
 .exact concat_meets ⟨_,g,rfl⟩ ⟨_,h,rfl⟩ aj5 ako PySem.F.slot_tuple_add PySem.F.entry_tuple_add (PySem.F.args_tuple_add_2 _ _)
   (tuple_addW1 t b _ _ n m dd c sl f (by simpa using i) (by simp[hw])) ⟨g,h,p hw⟩
 .refine concat_meets ⟨_,g,rfl⟩ ⟨_,h,rfl⟩ aj5 ako PySem.F.slot_tuple_add PySem.F.entry_tuple_add (PySem.F.args_tuple_add_2 _ _)
   (tuple_addW2 t b _ _ n m dd c sl f (by simpa using i) (by simpa using hw) (by exact r)) ⟨g,h,?_⟩
  rw[e];exact q hw
noncomputable def p9(n d:Nat):Option Int->Nat
 |none=>d
 |some v=>if v<0 then(v+(n:Int)).toNat else min v.toNat n
def Rl(n d:Nat):p9 n d ar=d:=rfl
def AH(n d k:Nat):p9 n d (aa (k:Int))=min k n:=by show(if(k:Int)<0 then((k:Int)+(n:Int)).toNat else min _ n)=min k n;rw[if_neg (by lia),Int.toNat_natCast]
def agI(n d:Nat)(hd:d<=n)(o:Option Int):p9 n d o<=n:=by
 cases o with
 |none=>exact hd
 |some v=>
  show(if v<0 then(v+(n:Int)).toNat else min v.toNat n)<=n;by_cases a:v<0
  .rw[if_pos a];lia
  .rw[if_neg a];exact Nat.min_le_right _ _
def MG(v:Int)(n d:Nat):(if v<0 then max (v+(n:Int)) 0 else min v (n:Int))=((p9 n d (aa v):Nat):Int):=by
 show(if v<0 then max _ 0 else min v _)=(((if v<0 then(v+(n:Int)).toNat else min v.toNat n):Nat):Int);by_cases a:v<0
 .simp only [if_pos a];lia
 .simp only [if_neg a];lia
def Ky(lo hi:Option Int)(n:Nat):bM.Slice.sliceAdjust lo hi 1 (n:Int)=(((p9 n 0 lo:Nat):Int),((p9 n n hi:Nat):Int)):=by
 refine Prod.ext ?_ ?_
 .cases lo with
  |none=>rfl
  |some v=>exact MG v n 0
 .cases hi with
  |none=>rfl
  |some v=>exact MG v n n
def Kz(i j:Nat):fS (i:Int) (j:Int) 1=j- i:=by unfold fS;split<;>lia
def Bd(p:ai1 v o)(h:Q o s):wpAny (model prog w) A (bM.Slice.slicePartIndex v) Q E s:=by
 cases p with
 |none=>exact akg h
 |int i t=>exact slicePart_int h
def yO{lo hi:Option Int}{n:Nat}(f:s.heap.IsSliceOf sl c e .none)(pl:ai1 c lo)(g:ai1 e hi)
(h:Q (((p9 n 0 lo:Nat):Int),1,p9 n n hi- p9 n 0 lo) s):wpAny (model prog w) A (bM.Slice.sliceApplied (.ref sl) (pure (n:Int))) Q E s:=by obtain⟨os,a,i,b⟩:=id f;refine ae (ae (cA a b (x:=c) rfl (ae (cA a b (x:=e) rfl (ae (cA a b rfl (ay ?_)))))));refine ae (akg ?_);refine ae (Bd pl (ae (Bd g (ae (ay ?_)))));show wpAny _ _ (match bM.Slice.sliceAdjust lo hi 1 _ with|(lo,hi)=>pure (lo,(1:Int),fS lo hi 1)) _ _ s;rw[Ky lo hi n];show wpAny _ _ (pure _) _ _ s;rw[Kz];exact ay h
def Rn(xs:Array ai)(i k:Nat):((cx k).filterMap λ(m:Nat)=>xs[((i:Int)+(m:Int)*1).toNat]?).toArray=((xs.toList.drop i).take k).toArray:=by
 have e:(λ(m:Nat)=>xs[((i:Int)+(m:Int)*1).toNat]?)=λm=>xs[i+m]?:=by
  funext m;have:((i:Int)+(m:Int)*1).toNat=i+m:=by lia
  rw[this]
 rw[e];have:=pick_run xs i k;rw[List.filterMap_map] at this;have e2:((λx=>xs[x]?)∘λx=>i+x)=λm=>xs[i+m]?:=rfl;rw[e2] at this;rw[this]
def xD{lo hi:Option Int}(ht:aiJ s.heap t items)(g:s.heap.IsSliceOf sl i j .none)(pl:ai1 i lo)(m:ai1 j hi)
(hw:¬(p9 items.size 0 lo=0/\p9 items.size items.size hi=items.size))
(h:Q (.ref s.heap.objs.size) {s with heap:=s.heap.push {cls:=.type ej,data:=.seq ((items.toList.drop (p9 items.size 0 lo)).take (p9 items.size items.size hi- p9 items.size 0 lo)).toArray}})
(o:items.size<=aO):wpAny (model prog w) A (aiy (.ref t) (.ref sl)) Q E s:=by
 have a:=by show((items.toList.drop (p9 items.size 0 lo)).take (p9 items.size items.size hi- p9 items.size 0 lo)).toArray.size<=aO;rw[aR,dM,dN,bZ];lia
 obtain⟨os,b,c,n⟩:=id g;have e:s.TypeIs (.ref sl) "slice":=⟨os,b,c⟩;unfold aiy;try with_reducible refine bR ?_
 refine ae (ajQ ht.typeIs (by decide) ?_);refine ae (df ht.typeIs fg
  (cD fg ht.typeIs entry_tuple_getitem ?_ (args_tuple_getitem _ _)))
 show wpAny _ _ (bM.Tuple.tupleItemsOf (.ref t) >>= _) _ _ s;refine ae (tupleItemsOf_ ht ?_);refine ae (aiU e ?_);refine ae (yO g pl m ?_);have f:¬((((p9 items.size 0 lo:Nat):Int)==0&&(1:Int)==1&&(p9 items.size items.size hi- p9 items.size 0 lo)==items.size)=ag):=by intro q;rw[aZ,aZ] at q;have p:=eq_of_beq q.1.1;have r:=eq_of_beq q.2;exact hw ⟨by exact Int.ofNat_inj.mp p,by lia⟩
 show wpAny _ _ (if(((p9 items.size 0 lo:Nat):Int)==0&&(1:Int)==1&&(p9 items.size items.size hi- p9 items.size 0 lo)==items.size)=ag then _ else _) _ _ s;rw[if_neg f,Rn];first
  |exact ae (ah9 (ay ⟨_,rfl,ay h⟩) a)
  |exact ae _
  |exact ae _
  |exact ae _
end
end HT
section
open PySem PySem.Spec PyProof.Rows
namespace L2
abbrev TO:=St->Hp->(Option Int->Hp->Prop)->Prop
def PO (X:Cx)(e:Option bI)(t:TO):Prop:=
 ∀(cc:List (aw×cB)) (s:av) (σ:St) (H:Hp) (Q:Option Int->Hp->Prop),Inv X cc σ H s->t σ H Q->
  wpAny (model X.prog X.w) X.A (evalPart e X.env) (λu b=>∃o a,Inv X cc σ a b/\ai1 u o/\Q o a) X.xe s
def VJ:TO:=λ_ H Q=>Q ar H
def adS (t:TE):TO:=λσ H Q=>t σ H λx H1=>∃i,x=.int i/\Q (aa i) H1
section
variable {X:Cx} {lo:Option bI} {tl:TO}
def VL:PO X ar VJ:=by intro cc s σ H Q I h;exact ay ⟨ar,H,I,.none,h⟩
def VM(h:PE X e te):PO X (aa e) (adS te):=by intro cc s σ H Q I hw;refine j4 (h cc s σ H _ I hw) λu s1 a=>?_;obtain⟨x,H1,I1,b,c⟩:=a;obtain⟨i,rfl,q⟩:=c;obtain⟨t,rfl⟩:=b;exact⟨aa i,H1,I1,.int i t,q⟩
def U4 (X:Cx)(r:V->Option Int->Option Int->Hp->VK->Prop):Prop:=
 ∀(cc:List (aw×cB)) (s:av) (σ:St) (H:Hp) (x:V) (v a b:ai) (lo hi:Option Int) (sl:aw) (Q:VK),Inv X cc σ H s->RelV x v->s.heap.IsSliceOf sl a b .none->ai1 a lo->ai1 b hi->r x lo hi H Q->
  ∃T id,aiN (.type T) "__getitem__"=pure (aa (.builtin id))/\s.TypeIs v T/\wpAny (model X.prog X.w) X.A (aiy v (.ref sl)) (EP X cc σ Q) X.xe s
def U4.or(h:U4 X r)(i:U4 X j):U4 X (λx lo hi H Q=>r x lo hi H Q\/j x lo hi H Q):=by
 intro cc s σ H x v a b lo hi sl Q I c f pl g q;rcases q with q|q
 .exact h cc s σ H x v a b lo hi sl Q I c f pl g q
 .exact i cc s σ H x v a b lo hi sl Q I c f pl g q
def tSl (r:V->Option Int->Option Int->Hp->VK->Prop)(te:TE)(tl th:TO):TE:=λσ H Q=>te σ H λx H1=>tl σ H1 λl a=>th σ a λu b=>r x l u b Q
def Ro(i:U4 X r)(j:PE X e te)(m:PO X lo tl)(n:PO X hi th):PE X (.Subscript e (.Slice lo hi ar p2) pos) (tSl r te tl th):=by intro cc s σ H Q I h;refine Subscript_ (j4 (j cc s σ H _ I h) λv s1 a=>?_);obtain⟨x,H1,I1,o,p⟩:=a;refine wpAny_Slice (j4 (m cc s1 σ H1 _ I1 p) λc s2 ⟨l,w,y,pl,z⟩=>j4 (n cc s2 σ w _ y z) λf s3 a=>?_);obtain⟨u,g,A,B,C⟩:=a;refine ay ?_;have E:Inv X cc σ g {s3 with heap:=s3.heap.push {cls:=.type "slice",data:=.fields #[c,f,.none]}}:=A.kept λb ob q=>aj _ q;obtain⟨T,id,G,ht,J⟩:=i cc _ σ g x v c f l u _ Q E o (aC.IsSliceOf.new ..) pl B C;exact tail_any ht G J (by with_unfolding_all rfl)
noncomputable def Ow(xs:List V)(lo hi:Option Int):List V:=(xs.drop (HT.p9 xs.length 0 lo)).take (HT.p9 xs.length xs.length hi- HT.p9 xs.length 0 lo)
def zO(xs:List V)(lo hi:Option Int):(Ow xs lo hi).length<=xs.length:=by unfold Ow;rw[dM,dN];lia
def agJ (K:af):V->Option Int->Option Int->Hp->VK->Prop:=λx lo hi H Q=>∃a xs,x=.ref a/\wj K H a xs/\
 ¬(HT.p9 xs.length 0 lo=0/\HT.p9 xs.length xs.length hi=xs.length)/\∀p,H p=ar->Q (.ref p) (upd H p (.tup (Ow xs lo hi)))
def aay:U4 X (agJ X.K):=by
 intro cc s σ H x v n o lo hi sl Q I g i pl j h;obtain⟨a,xs,rfl,m,hw,q⟩:=h;cases g;obtain⟨iq,r,ht,f⟩:=I.tuple m;have c:iq.toArray.size=xs.length:=by exact r.length.symm
 refine⟨ej,_,fg.lookup,ht.typeIs,?_⟩;refine HT.xD ht i pl j (by rw[c];exact hw) ?_ (by rw[c];exact f);rw[c];refine⟨.ref _,_,I.laid (λb ob q=>aj _ q) (aD _) ?_,rfl,q _ (I.iO.fresh (aD _))⟩;exact⟨bG (zO xs lo hi) f,_,(r.drop _).take _,aiJ.new _ _⟩
def adT (K:af):R2:=λx y H Q=>∃a b xs c,x=.ref a/\y=.ref b/\wj K H a xs/\wj K H b c/\xs≠[]/\xs.length+c.length<=aO/\
 (c=[]->Q (.ref a) H)/\(c≠[]->∀p,H p=ar->Q (.ref p) (upd H p (.tup (xs++c))))
def Vals.E9(r:Vals xs us):us=[]↔xs=[]:=by
 cases r with
 |nil=>simp
 |cons _ _=>simp
def VN:rS X (binaryOp .Add) (adT X.K):=by intro cc s σ H x y v u Q I i j h;obtain⟨a,b,xs,r,rfl,rfl,ha,hb,m,g,n,o⟩:=h;cases i;cases j;obtain⟨iq,f,p,_⟩:=I.tuple ha;obtain⟨A,c,p2,_⟩:=I.tuple hb;refine HT.VI p p2 (λz=>m (f.E9.mp z)) (λz=>⟨.ref a,H,I,rfl,n (c.E9.mp z)⟩) (λz=>?_) (by rw[<-f.length,<-c.length];exact g);refine⟨.ref _,_,I.laid (λb ob q=>aj _ q) (aD _) ?_,rfl,o (λw=>z (c.E9.mpr w)) _ (I.iO.fresh (aD _))⟩;exact⟨by rw[aE];exact g,_,f.append c,aiJ.new _ _⟩
end
noncomputable def U5(n:Nat)(i:Int):Option Nat:=if 0<=i then(if i<n then aa i.toNat else ar) else if-(n:Int)<=i then aa (i+n).toNat else ar
noncomputable def C8{α:Type}(xs:List α)(i:Int):Option α:=(U5 xs.length i).bind λj=>xs[j]?
def VO(h:U5 n i=aa j):ajn i n=aa j/\j<n/\-(n:Int)<=i/\i<n:=by
 unfold U5 at h;by_cases b:0<=i
 .rw[if_pos b] at h;by_cases a:i<n
  .rw[if_pos a] at h;have e:=bF h;exact⟨by rw[seqIndex_of b a,e],by lia,by lia,a⟩
  .rw[if_neg a] at h;cases h
 .rw[if_neg b] at h;by_cases a:-(n:Int)<=i
  .rw[if_pos a] at h;have e:=bF h;exact⟨by rw[seqIndex_neg (by exact Int.not_le.mp b) a,e],by lia,a,by lia⟩
  .rw[if_neg a] at h;cases h
def Fa{v:α}(h:C8 xs i=aa v):∃j,ajn i xs.length=aa j/\xs[j]?=aa v/\j<xs.length/\-(xs.length:Int)<=i/\i<xs.length:=by
 unfold C8 at h;cases e:U5 _ i with
 |none=>rw[e] at h;cases h
 |some j=>
  rw[e] at h;obtain⟨a,b,c,f⟩:=VO e;exact⟨j,a,h,b,c,f⟩
def MH (b:bI):Prop:=∀o i,subscripted b au o i=operate [o,i] (aiy o i)
def IxR (X:Cx)(r:R2):Prop:=
 ∀(value slice:bI) (cc:List (aw×cB)) (s:av) (σ:St) (H:Hp) (x y:V) (v u:ai) (Q:VK),Inv X cc σ H s->RelV x v->RelV y u->r x y H Q->
  subscripted slice au v u=operate [v,u] (aiy v u)->wpAny (model X.prog X.w) X.A (subscriptTail value slice v u) (EP X cc σ Q) X.xe s
def MtR (X:Cx)(id:String)(r:V->List V->Hp->VK->Prop):Prop:=
 ∀(cc:List (aw×cB)) (s:av) (σ:St) (H:Hp) (x:V) (xs:List V) (v:ai) (us:List ai) (Q:VK),Inv X cc σ H s->RelV x v->Vals xs us->r x xs H Q->
  wpAny (model X.prog X.w) X.A (call (.builtin id) (v::us)) (EP X cc σ Q) X.xe s
section
variable {X:Cx}
def YM(c:IxR X r)(ha:PE X a ta)(hb:PE X b tb)(e:MH b):PE X (.Subscript a b pos) (tOp r ta tb):=by intro cc s σ H Q I h;exact Subscript_ (aah ha hb I h λv u s2 x y f g i j q=>c a b cc s2 σ f x y v u Q g i j q (e _ _))
def agK (K:af):R2:=λx y H Q=>∃p xs i v,x=.ref p/\y=.int i/\l9 K H p xs/\C8 xs i=aa v/\Q v H
def adU (K:af):R2:=λx y H Q=>∃p xs i v,x=.ref p/\y=.int i/\wj K H p xs/\C8 xs i=aa v/\Q v H
def agL:R2:=λx y H Q=>∃z i c,x=.str z/\y=.int i/\z.length<=aO/\C8 z.cps.toList i=aa c/\Q (.str ⟨#[c]⟩) H
def MI:IxR X (agK X.K):=by
 intro value slice cc s σ H x y v u Q I o A h f;obtain⟨p,xs,i,z,rfl,rfl,B,C,q⟩:=h;cases o;obtain⟨t,rfl⟩:=A;obtain⟨iq,r,pl,N⟩:=I.list B;obtain⟨j,c,E,O,G,J⟩:=Fa C;obtain⟨w,g,L⟩:=r.get E;have M:=r.length;have hn:=A9;have m:EP X cc σ Q w s:=⟨z,H,I,L,q⟩;by_cases n:0<=i
 .have e:=by rw[seqIndex_of n J] at c;exact bF c
  exact item_listR pl.isList n (by lia) (by rw[e];simpa using g) m f
 .have e:(i+(iq.toArray.size:Int)).toNat=j:=by rw[seqIndex_neg (by exact Int.not_le.mp n) G] at c;rw[aR,<-M];exact bF c
  exact ajs pl.isList.typeIs ajR.lookup
   (wpAny_getItem_list_neg pl.isList (by exact Int.not_le.mp n) (by rw[aR]<;>lia) (by lia) (by rw[e];simpa using g) ⟨rfl,m⟩) f
def Rp:IxR X (adU X.K):=by
 intro value slice cc s σ H x y v u Q I c e h f;obtain⟨p,xs,i,z,rfl,rfl,g,m,q⟩:=h;cases c;obtain⟨t,rfl⟩:=e;obtain⟨iq,r,pl,G⟩:=I.tuple g;obtain⟨j,n,o,J,L,M⟩:=Fa m;obtain⟨w,A,B⟩:=r.get o;have C:=r.length;have hn:=A9;have E:EP X cc σ Q w s:=⟨z,H,I,B,q⟩;exact ajs pl.typeIs slot_tuple_getitem.lookup
  (getItem_tuple pl (by lia) (by lia) (by rw[aR,<-C];exact n) (by simpa using A) ⟨rfl,E⟩) f
def KA:IxR X agL:=by
 intro value slice cc s σ H x y v u Q I f g h m;obtain⟨z,i,c,rfl,rfl,A,n,q⟩:=h;obtain⟨t,rfl⟩:=f;obtain⟨B,rfl⟩:=g;obtain⟨j,e,o,C,p,r⟩:=Fa n;have w:z.cps.toList.length=z.length:=by simp[aY.length]
 rw[w] at e p r;have hn:=A9;exact tail_any (ajJ s z t) slot_str_getitem.lookup (getItem_str (by have e1:decide (i< -(2^63:Int))=au:=decide_eq_false (by lia);have e2:decide (i>=2^63)=au:=decide_eq_false (by lia);rw[e1,e2,Bool.or_false]) (by rw[e];simpa using o) ⟨.str _,H,I.tok _,⟨_,rfl⟩,q⟩) m
theorem Inv.lst{cc:List (aw×cB)}{σ:St}{H:Hp}{s:av}{p:aw}{xs:List V}(I:Inv X cc σ H s)(h:H p=aa (.lst xs)):
  ∃(iq:List ai) (n:Nat),Vals xs iq/\s.heap.get? p=aa {cls:=.type cr,data:=.seq iq.toArray n}/\xs.length<=aO:=by obtain⟨z,iq,n,r,e⟩:=I.iO p _ h;exact⟨iq,n,r,e,z⟩
def Fb(lo hi:Option Int)(n:Nat):(gD lo hi ar n).1=((HT.p9 n 0 lo:Nat):Int)/\(gD lo hi ar n).2.1=((HT.p9 n n hi:Nat):Int)/\(gD lo hi ar n).2.2=1:=by
 refine⟨?_,?_,rfl⟩
 .cases lo with
  |none=>simp[gD,HT.p9]
  |some i=>
   simp only [gD,HT.p9,Option.getD_none,show(1:Int)>0 by decide,if_true];by_cases h:i<0
   .simp only [h,if_true]<;>lia
   .simp only [h,if_false]<;>lia
 .cases hi with
  |none=>simp[gD,HT.p9]
  |some i=>
   simp only [gD,HT.p9,Option.getD_none,show(1:Int)>0 by decide,if_true];by_cases h:i<0
   .simp only [h,if_true]<;>lia
   .simp only [h,if_false]<;>lia
def Df(iq:List ai)(lo hi:Option Int):slicePick iq.toArray lo hi ar=((iq.drop (HT.p9 iq.length 0 lo)).take (HT.p9 iq.length iq.length hi- HT.p9 iq.length 0 lo)).toArray:=by obtain⟨c,e,f⟩:=Fb lo hi _;unfold slicePick;rw[c,e,f];simp only [sliceRange_one,pick_run]<;>rfl
def agM (K:af):V->Option Int->Option Int->Hp->VK->Prop:=λx lo hi H Q=>∃a xs,x=.ref a/\l9 K H a xs/\∀p,H p=ar->Q (.ref p) (upd H p (.lst (Ow xs lo hi)))
def VP:U4 X (agM X.K):=by intro cc s σ H x v m n lo hi sl Q I c e pl f h;obtain⟨a,xs,rfl,g,q⟩:=h;cases c;obtain⟨iq,r,ht,i⟩:=I.list g;have j:=r.length;refine⟨cr,_,ajR.lookup,ht.isList.typeIs,?_⟩;refine wpAny_getItem_list_slice ht.isList e pl f .none (by simp) ?_ (by rw[aR]<;>exact j▸i);rw[Df,<-j];refine⟨.ref _,_,I.laid (λb ob q=>aj _ q) (aD _) ?_,rfl,q _ (I.iO.fresh (aD _))⟩;exact⟨bG (zO xs lo hi) i,_,0,(r.drop _).take _,aP _ rfl⟩
noncomputable def vX:V->Bool
 |.non=>ag
 |.bl _=>ag
 |.int _=>ag
 |.str _=>ag
 |_=>au
noncomputable def VQ:V->V->Bool
 |.non,.non=>ag
 |.bl a,.bl b=>a==b
 |.bl a,.int b=>(if a then 1 else 0)==b
 |.int a,.bl b=>a==(if b then 1 else 0)
 |.int a,.int b=>a==b
 |.str a,.str b=>a==b
 |_,_=>au
def aaz(f:RelV y u)(c:RelV x v)(h:vX y=ag)(g:vX x=ag):bY A s u v (VQ y x):=by
 cases y with
 |non=>
  cases f;cases x with
  |non=>cases c;exact bY.same _
  |bl b=>cases c;exact bY.none_bool b
  |int b=>obtain⟨t,rfl⟩:=c;exact bY.none_int b t
  |str b=>obtain⟨t,rfl⟩:=c;exact bY.none_str b t
  |_=>exact absurd (show au=ag from g) aS
 |bl a=>
  cases f;cases x with
  |non=>cases c;exact bY.bool_none a
  |bl b=>cases c;exact bY.bool_bool a b
  |int b=>obtain⟨t,rfl⟩:=c;exact bY.bool_int a b t
  |str b=>obtain⟨t,rfl⟩:=c;exact bY.bool_str a b t
  |_=>exact absurd (show au=ag from g) aS
 |int a=>
  obtain⟨e,rfl⟩:=f;cases x with
  |non=>cases c;exact bY.int_none a e
  |bl b=>cases c;exact bY.int_bool a e b
  |int b=>obtain⟨t,rfl⟩:=c;exact bY.int_int a e b t
  |str b=>obtain⟨t,rfl⟩:=c;exact bY.int_str a e b t
  |_=>exact absurd (show au=ag from g) aS
 |str a=>
  obtain⟨e,rfl⟩:=f;cases x with
  |non=>cases c;exact bY.str_none a e
  |bl b=>cases c;exact bY.str_bool a e b
  |int b=>obtain⟨t,rfl⟩:=c;exact bY.str_int a e b t
  |str b=>obtain⟨t,rfl⟩:=c;exact bY.str_str a e b t
  |_=>exact absurd (show au=ag from g) aS
 |_=>exact absurd (show au=ag from h) aS
noncomputable def KC(x:V)(u:ai):Bool:=match u with
 |.none=>VQ .non x
 |.bool b=>VQ (.bl b) x
 |.int i _=>VQ (.int i) x
 |.str z _=>VQ (.str z) x
 |_=>au
def Rq(r:RelV y u)(f:vX y=ag):KC x u=VQ y x:=by
 cases y with
 |non=>cases r;rfl
 |bl b=>cases r;rfl
 |int i=>obtain⟨t,rfl⟩:=r;rfl
 |str z=>obtain⟨t,rfl⟩:=r;rfl
 |_=>exact absurd (f) aS
theorem xE:∀{xs:List V} {us:List ai},Vals xs us->xs.all vX=ag->us.any (KC x)=xs.any λy=>VQ y x
 |_,_,.nil,_=>rfl
 |y::xs,u::us,.cons r t,f=>by rw[fU,aZ] at f;rw[c6,c6,Rq r f.1,xE t f.2]
theorem tZ(e:RelV x v)(g:vX x=ag):∀{xs:List V} {us:List ai},Vals xs us->xs.all vX=ag->∀u∈us,bY A s u v (KC x u)
 |_,_,.nil,_=>λu c=>by cases c
 |y::xs,u::us,.cons r t,f=>λh c=>by
  rw[fU,aZ] at f;rcases aH.mp c with rfl|c
  .rw[Rq r f.1];exact aaz r e f.1 g
  .exact tZ e g t f.2 h c
noncomputable def inV(x:V)(xs:List V):Bool:=xs.any λy=>VQ y x
def rIn (K:af)(neg:Bool):R2:=λx y H Q=>∃p xs,y=.ref p/\(l9 K H p xs\/wj K H p xs)/\vX x=ag/\xs.all vX=ag/\Q (.bl (if neg then !inV x xs else inV x xs)) H
def Ec:rS X (compareOp .In) (rIn X.K au):=by
 intro cc s σ H x y v u Q I e g h;obtain⟨p,xs,rfl,c,f,fs,q⟩:=h;cases g;rcases c with c|c
 .obtain⟨iq,r,pl,i⟩:=I.list c;refine SeqAt.in_listAt (KC x) pl.isList (λw hw=>tZ e f r fs w (by simpa using hw)) ⟨.bl _,H,I,rfl,?_⟩;rw[show iq.toArray.any (KC x)=iq.any (KC x) by simp,xE r fs];exact q
 .obtain⟨iq,r,pl,i⟩:=I.tuple c;refine SeqAt.in_tupleAt (KC x) pl (λw hw=>tZ e f r fs w (by simpa using hw)) ⟨.bl _,H,I,rfl,?_⟩;rw[show iq.toArray.any (KC x)=iq.any (KC x) by simp,xE r fs];exact q
def xF:rS X (compareOp .NotIn) (rIn X.K ag):=by
 intro cc s σ H x y v u Q I e g h;obtain⟨p,xs,rfl,c,f,fs,q⟩:=h;cases g;rcases c with c|c
 .obtain⟨iq,r,pl,i⟩:=I.list c;refine SeqAt.notIn_listAt (KC x) pl.isList (λw hw=>tZ e f r fs w (by simpa using hw)) ⟨.bl _,H,I,rfl,?_⟩;rw[show iq.toArray.any (KC x)=iq.any (KC x) by simp,xE r fs];exact q
 .obtain⟨iq,r,pl,i⟩:=I.tuple c;refine SeqAt.notIn_tupleAt (KC x) pl (λw hw=>tZ e f r fs w (by simpa using hw)) ⟨.bl _,H,I,rfl,?_⟩;rw[show iq.toArray.any (KC x)=iq.any (KC x) by simp,xE r fs];exact q
def rT:lV X (.builtin mv) (λxs H Q=>∃p e,xs=[.ref p]/\(l9 X.K H p e\/wj X.K H p e)/\Q (.int e.length) H):=by
 intro cc s σ H xs us Q I r h;obtain⟨p,e,rfl,c,q⟩:=h;obtain⟨u,rfl,i⟩:=vals1 r;cases i;have hn:=A9;rcases c with c|c
 .obtain⟨iq,f,pl,j⟩:=I.list c;have g:=f.length;exact Calls.call_len_list pl.isList (by simp only [aR]<;>lia) ⟨.int _,H,I.tok _,⟨s.toks+1,by rw[aR,g]⟩,q⟩
 .obtain⟨iq,f,pl,j⟩:=I.tuple c;have g:=f.length;exact len_tuple pl (by simp only [aR]<;>lia) ⟨.int _,H,I.tok _,⟨s.toks+1,by rw[aR,g]⟩,q⟩
def Fc:lV X (.builtin mv) (λxs H Q=>∃z,xs=[.str z]/\z.length<=aO/\Q (.int z.length) H):=by intro cc s σ H xs us Q I r h;obtain⟨z,rfl,c,q⟩:=h;obtain⟨u,rfl,t,rfl⟩:=vals1 r;have hn:=A9;exact len_str (by lia) ⟨.int z.length,H,I.tok _,⟨_,rfl⟩,q⟩
def rV:lV X (.type cr) (λxs H Q=>∃p f,xs=[.ref p]/\(l9 X.K H p f\/wj X.K H p f)/\∀l,H l=ar->Q (.ref l) (upd H l (.lst f))):=by
 intro cc s σ H xs us Q I r h;obtain⟨p,f,rfl,j,q⟩:=h;obtain⟨u,rfl,z⟩:=vals1 r;cases z;have x:∀(iq:List ai),Vals f iq->f.length<=aO->∀(c:aC) (i:Nat),(∀b y,s.heap.get? b=aa y->c.get? b=aa y)->
   c.get? _=aa _->EP X cc σ Q _ _:=λiq g m c i kp e=>
  ⟨.ref _,_,I.laid (t':=s.toks) kp (aD _) (show jB X.prog X.w _ c _ (.lst f) from⟨m,iq,i,g,e⟩),rfl,q _ (I.iO.fresh (aD _))⟩
 rcases j with j|j
 .obtain⟨iq,g,pl,m⟩:=I.list j;have A:=g.length;obtain⟨o,v,hc,n,hd⟩:=pl.isList;exact akp p (.inl rfl) v hc hd (λc i kp e=>x iq g m c i kp e) (by simp only [aR]<;>exact A▸m)
 .obtain⟨iq,g,pl,m⟩:=I.tuple j;have A:=g.length;obtain⟨o,v,hc,n,hd⟩:=pl;exact akp p (.inr rfl) v hc hd (λc i kp e=>x iq g m c i kp e) (by simp only [aR]<;>exact A▸m)
def vY:lV X (.type ej) (λxs H Q=>∃p c,xs=[.ref p]/\((l9 X.K H p c/\∀l,H l=ar->Q (.ref l) (upd H l (.tup c)))\/(wj X.K H p c/\Q (.ref p) H))):=by
 intro cc s σ H xs us Q I r h;obtain⟨p,c,rfl,h⟩:=h;obtain⟨u,rfl,j⟩:=vals1 r;cases j;rcases h with⟨f,q⟩|⟨f,q⟩
 .obtain⟨iq,g,pl,i⟩:=I.list f;have v:=g.length;refine call_tuple_list pl.isList (λx kp=>?_) (by simp only [aR]<;>exact v▸i);have I1:=I.kept (t':=s.toks) kp;have n:=
   I1.laid (t':=s.toks) (λb o e=>aj _ e) (aD _) (show jB X.prog X.w _ _ _ (.tup c) from⟨i,iq,g,aiJ.new _ _⟩)
  exact⟨.ref _,_,n,rfl,q _ (I1.iO.fresh (aD _))⟩
 .obtain⟨iq,g,pl,i⟩:=I.tuple f;exact call_tuple_same pl ⟨.ref p,H,I,rfl,q⟩
def tyV (K:af)(T:String)(x:V)(H:Hp):Prop:=match x with
 |.str _=>T=fx
 |.int _=>T=fw
 |.ref p=>(T=cr/\∃xs,l9 K H p xs)\/(T=ej/\∃o,K.lookup p=aa o/\o.cls=.type ej/\o.dict=ar)\/
   (T=fi/\((∃c,Rd H p (.dK c))\/(∃c,H p=aa (.dT c))\/∃e c,H p=aa (.dE e c)))\/(T=fq/\∃S n,H p=aa (.set S n))
 |_=>False
def aaA(I:Inv X cc σ H s)(r:RelV x v)(ty:tyV X.K T x H):
  s.TypeIs v T/\∀a,v=.ref a->∃ob,s.heap.get? a=aa ob/\ob.dict=ar:=by
 cases x with
 |str z=>
  obtain⟨t,rfl⟩:=r;cases(ty);exact⟨ajJ s z t,λ_ e=>nomatch e⟩
 |int i=>
  obtain⟨t,rfl⟩:=r;cases(ty);exact⟨ajK s i t,λ_ e=>nomatch e⟩
 |ref p=>
  cases r;rcases ty with⟨rfl,xs,h⟩|⟨rfl,o,f,hc,hd⟩|⟨rfl,f⟩|⟨rfl,S,n,f⟩
  .obtain⟨iq,_,pl,_⟩:=I.list h;refine⟨pl.isList.typeIs,λa e=>?_⟩;cases e;obtain⟨o,n,e,c,hd,_⟩:=pl;exact⟨o,e,hd⟩
  .refine⟨⟨o,I.rM p o f,hc⟩,λa e=>?_⟩;cases e;exact⟨o,I.rM _ o f,hd⟩
  .have z:∃o,s.heap.get? p=aa o/\o.ExactDict:=by
    rcases f with⟨g,f⟩|⟨g,f⟩|⟨j,g,f⟩
    .obtain⟨_,_,_,_,o,_,_,e,ex,_⟩:=f.ok I.iO;exact⟨o,e,ex⟩
    .obtain⟨_,_,_,_,o,_,_,e,ex,_⟩:=I.iO p _ f;exact⟨o,e,ex⟩
    .obtain⟨_,_,_,_,o,_,e,ex,_⟩:=I.iO p _ f;exact⟨o,e,ex⟩
   obtain⟨o,e,ex⟩:=z;refine⟨⟨o,e,ex.1⟩,λa e2=>?_⟩;cases e2;exact⟨o,e,ex.2.1⟩
  .obtain⟨o,_,_,_,e,ex,_⟩:=I.iO p _ f;refine⟨⟨o,e,ex.1⟩,λa e2=>?_⟩;cases e2;exact⟨o,e,ex.2.1⟩
 |_=>exact cu ty
def tBM (K:af)(T:String)(r:V->List V->Hp->VK->Prop)(to:TE)(t:TA):TE:=λσ H Q=>to σ H λx H1=>tyV K T x H1/\t σ H1 λxs c=>r x xs c Q
variable {es:List bI} {t:TA} {apos ka:eB} {id:String}
def adV(j:PlainAttrs T)(slot:Slot T name id)(c:typeOf (.builtin id)=pure (.type "method_descriptor"))(hm:MtR X id r)(m:PE X o to)(ha:PA X (e::es) t)
(n:dP o name X.env (eval o X.env)=eval o X.env:=by rfl)
(f:((du ka (bg (e::es) X.env)).all (λx=>!x.1)&&(aiT ka (fM [] X.env)).all (λx=>x.1.isSome)
   &&decide ((e::es).length+([]:List aix).length+(if([]:List aix).isEmpty then 0 else 1)<30))=ag:=by rfl)
(p:(apos.endLine==ka.line)=ag:=by rfl)(q:bg (e::es) X.env=(au,eval e X.env)::bg es X.env:=by rfl)(u:(du ka (bg es X.env)).any (·.1)=au:=by rfl):
  PE X (.Call (.Attribute o name apos) (e::es) [] ka) (tBM X.K T r to t):=by intro cc s σ H Q I h;refine wpAny_Call_method_late n f p rfl (j4 (m cc s σ H _ I h) λv s1 w=>?_);obtain⟨x,H1,I1,g,ty,y⟩:=w;obtain⟨z,A⟩:=aaA I1 g ty;refine⟨T,id,j,slot,c,z,A,?_⟩;have i:=ha ka cc s1 σ H1 _ I1 y;rw[q] at i |-;refine Calls.callWith_builtin (by show(au||(du ka _).any (·.1))=au;rw[u]<;>rfl) (Calls.evalArgs_plain ?_);exact j4 i λus s2 ⟨B,C,E,G,J⟩=>hm cc s2 σ C x B v us Q E g G J
end
def MtM (X:Cx)(id:String)(r:V->List V->Hp->VK->Prop):Prop:=
 ∀(cc:List (aw×cB)) (s:av) (σ:St) (H:Hp) (x:V) (xs:List V) (v:ai) (us:List ai) (Q:VK),Inv X cc σ H s->RelV x v->Vals xs us->r x xs H Q->
  wpAny (model X.prog X.w) X.A (call (.builtin id) (v::us)) (EP X cc σ Q) X.xe s
theorem Vals.one:∀{x:V} {us:List ai},Vals [x] us->∃u,us=[u]/\RelV x u
 |_,_,.cons r .nil=>⟨_,rfl,r⟩
theorem Vals.two:∀{x y:V} {us:List ai},Vals [x,y] us->∃u v,us=[u,v]/\RelV x u/\RelV y v
 |_,_,_,.cons r (.cons q .nil)=>⟨_,_,rfl,r,q⟩
theorem Vals.zero:∀{us:List ai},Vals [] us->us=[]
 |_,.nil=>rfl
theorem Vals.dropLast{xs:List V}{us:List ai}(h:Vals xs us):Vals xs.dropLast us.dropLast:=by
 induction h with
 |nil=>exact .nil
 |cons r t a=>
  cases t with
  |nil=>exact .nil
  |cons q b=>exact .cons r a
theorem Vals.eraseIdx:∀{xs:List V} {us:List ai} (i:Nat),Vals xs us->Vals (xs.eraseIdx i) (us.eraseIdx i)
 |_,_,_,.nil=>.nil
 |_,_,0,.cons _ t=>t
 |_,_,i+1,.cons r t=>.cons r (Vals.eraseIdx i t)
theorem Vals.reverse(h:Vals xs us):Vals xs.reverse us.reverse:=by
 induction h with
 |nil=>exact .nil
 |cons r t a=>rw[gU,gU];exact Vals.append a (.cons r .nil)
theorem Vals.rep(h:Vals xs us):∀k:Nat,Vals (bW k xs).flatten (bW k us).flatten
 |0=>.nil
 |k+1=>by exact Vals.append h (Vals.rep h k)
def KG{α:Type}(l:List α):l.eraseIdx (l.length- 1)=l.dropLast:=by
 induction l with
 |nil=>rfl
 |cons a r c=>
  cases r with
  |nil=>rfl
  |cons b r=>
   have e:(a::b::r).length- 1=((b::r).length- 1)+1:=by have f:(a::b::r).length=r.length+2:=rfl;have g:(b::r).length=r.length+1:=rfl;exact g
   rw[e,List.eraseIdx_cons_succ,c];all_goals rfl
theorem Ed{α:Type}:∀(l:List α) (i:Nat),(l.eraseIdx i).length<=l.length
 |[],_=>aD _
 |_::_,0=>cw _
 |_::r,i+1=>fV (Ed r i)
theorem foldl_rep(iq:List ai):∀(k:Nat) (acc:List ai),
  List.foldl (λa b=>a++b) acc.toArray (bW k iq.toArray)=(acc++(bW k iq).flatten).toArray
 |0,acc=>by simp
 |k+1,acc=>by
  have e:acc.toArray++iq.toArray=(acc++iq).toArray:=by simp
  have e2:(acc++iq)++(bW k iq).flatten=acc++(bW (k+1) iq).flatten:=by rw[List.replicate_succ,List.flatten_cons,bi]
  rw[<-e2,<-foldl_rep iq k _,<-e,List.replicate_succ,List.foldl_cons]
section
variable {s:av} {l:aw} {xs ys:List V}
def Inv.Rr{iq Kf:List ai}(I:Inv X cc σ H s)(a:H l=aa (.lst xs))
(e:s.heap.get? l=aa {cls:=.type cr,data:=.seq iq.toArray n})(c:f iq.toArray=Kf.toArray)(g:Vals ys Kf)(h:ys.length<=aO):
  Inv X cc σ (upd H l (.lst ys)) {s with heap:=s.heap.update l (bX f),toks:=j}:=by have q:=PySem.IsL.update e f;rw[c] at q;refine I.write (by rw[a];exact trivial) (.inl rfl) (λm u hb i=>(cz s.heap _ (b8 hb)).trans i) ⟨_,q⟩ ?_;exact⟨h,Kf,_,g,q⟩
def Inv.aaC(I:Inv X cc σ H s)(a:Vals ys iq)(c:ys.length<=aO):
  Inv X cc σ (upd H s.heap.objs.size (.lst ys)) {s with heap:=s.heap.push {cls:=.type cr,data:=.seq iq.toArray},toks:=e}:=
 I.laid (λ_ _ q=>aj _ q) (aD _) ⟨c,iq,0,a,aP _ rfl⟩
theorem Inv.fresh(I:Inv X cc σ H s):H s.heap.objs.size=ar:=I.iO.fresh (aD _)
def Inv.Fe(I:Inv X cc σ H s)(a:H l=aa (.lst xs)):xs.length<=aO/\∃(iq:List ai) (n:Nat),Vals xs iq/\xs.length=iq.length/\s.heap.get? l=aa {cls:=.type cr,data:=.seq iq.toArray n}:=by obtain⟨z,iq,n,r,e⟩:=I.iO l _ a;exact⟨z,iq,n,r,r.length,e⟩
def Hj(h:n<=aO):gj n=au:=by exact decide_eq_false (by exact Nat.not_lt_of_le h)
end
def VR:V->List V->Hp->VK->Prop:=λx a H Q=>∃l xs y,x=.ref l/\a=[y]/\H l=aa (.lst xs)/\xs.length<aO/\Q .non (upd H l (.lst (xs++[y])))
def Ee:MtM X "list.append" VR:=by intro cc s σ H x g v us Q I b c h;obtain⟨l,xs,y,rfl,rfl,a,i,q⟩:=h;cases b;obtain⟨u,rfl,f⟩:=c.one;obtain⟨z,iq,n,r,j,e⟩:=I.Fe a;refine gu F.slot_list_append ⟨_,e,rfl⟩ F.entry_list_append (F.args_list_append_2 _ _) (PySem.list_append l _ n u (by rw[aR];exact dF (j▸i))) ⟨e,?_⟩;refine⟨.non,_,I.Rr a e (by simp) (r.append (.cons f .nil)) ?_,rfl,q⟩;rw[aE,dn];exact i
def VS:V->List V->Hp->VK->Prop:=λx a H Q=>∃l b xs zs,x=.ref l/\a=[.ref b]/\H l=aa (.lst xs)/\H b=aa (.lst zs)/\xs.length+zs.length<=aO/\Q .non (upd H l (.lst (xs++zs)))
def Ox:MtM X "list.extend" VS:=by
 intro cc s σ H x A v us Q I f g h;obtain⟨l,b,xs,zs,rfl,rfl,a,i,B,q⟩:=h;cases f;obtain⟨u,rfl,j⟩:=g.one;cases j;obtain⟨z,iq,n,r,C,e⟩:=I.Fe a;obtain⟨E,c,m,o,p,e2⟩:=I.Fe i;have w:iq.toArray.size+c.toArray.size<=aO:=by rw[aR,aR];lia
 have y:¬(!iq.toArray.isEmpty&&gj (iq.toArray.size+c.toArray.size))=ag:=by rw[Hj w,Bool.and_false];exact aS
 refine gu F.slot_list_extend ⟨_,e,rfl⟩ F.entry_list_extend (F.args_list_extend_2 _ _)
  (AutoSeq1.list_extend_list_list_0 l _ n b _ m y (by exact Nat.le_of_add_right_le w) (by exact eM w)) ⟨e,e2,?_⟩
 refine⟨.non,_,I.Rr a e (by simp) (r.append o) ?_,rfl,q⟩;rw[aE];exact B
def agN:V->List V->Hp->VK->Prop:=λx a H Q=>∃l xs y,x=.ref l/\a=[]/\H l=aa (.lst xs)/\xs[xs.length- 1]?=aa y/\Q y (upd H l (.lst xs.dropLast))
def aaD:MtM X "list.pop" agN:=by
 intro cc s σ H x p v us Q I c f h;obtain⟨l,xs,y,rfl,rfl,b,g,q⟩:=h;cases c;have a:=f.zero;subst a;obtain⟨z,iq,n,r,i,e⟩:=I.Fe b;obtain⟨u,j,m⟩:=r.get g;have o:iq.toArray[iq.toArray.size- 1]?=aa u:=by show iq.toArray[iq.length- 1]?=aa u;rw[<-cj,<-i];exact j
 refine gu F.slot_list_pop ⟨_,e,rfl⟩ F.entry_list_pop (F.args_list_pop_1 _) (MeetsSeq.list_pop_last l iq.toArray n u o (by rw[aR];exact i▸z)) ⟨e,?_⟩;refine⟨y,_,I.Rr (Kf:=iq.dropLast) b e ?_ r.dropLast ?_,m,q⟩
 .show iq.toArray.eraseIdxIfInBounds (iq.toArray.size- 1)=iq.dropLast.toArray;rw[aR,List.eraseIdxIfInBounds_toArray,KG]
 .rw[List.length_dropLast];exact bG (Nat.sub_le _ _) z
def aaE:V->List V->Hp->VK->Prop:=λx a H Q=>∃l xs i k y,x=.ref l/\a=[.int i]/\H l=aa (.lst xs)/\-(2^63)<=i/\i<2^63/\ajn i xs.length=aa k/\xs[k]?=aa y/\Q y (upd H l (.lst (xs.eraseIdx k)))
def Rt:MtM X "list.pop" aaE:=by
 intro cc s σ H x B v us Q I b c h;obtain⟨l,xs,i,k,y,rfl,rfl,a,f,g,j,m,q⟩:=h;cases b;obtain⟨u,rfl,o⟩:=c.one;obtain⟨t,rfl⟩:=o;obtain⟨z,iq,n,r,p,e⟩:=I.Fe a;obtain⟨w,hw,A⟩:=r.get m;refine gu F.slot_list_pop ⟨_,e,rfl⟩ F.entry_list_pop (F.args_list_pop_2 _ _)
  (MeetsSeq.list_pop_at l iq.toArray n i t k w (ajb f g) (by rw[aR,<-p];exact j) (by rw[<-cj];exact hw) (by rw[aR];exact p▸z)) ⟨e,?_⟩
 refine⟨y,_,I.Rr (Kf:=iq.eraseIdx k) a e ?_ (r.eraseIdx k) ?_,A,q⟩
 .show iq.toArray.eraseIdxIfInBounds k=(iq.eraseIdx k).toArray;rw[List.eraseIdxIfInBounds_toArray]
 .have:=Ed xs k;exact bG this z
def agO:R2:=λx y H Q=>∃l b xs zs,x=.ref l/\y=.ref b/\H l=aa (.lst xs)/\H b=aa (.lst zs)/\xs.length+zs.length<=aO/\∀p,H p=ar->Q (.ref p) (upd H p (.lst (xs++zs)))
def Ru:rS X (binaryOp .Add) agO:=by
 intro cc s σ H x y v u Q I c f h;obtain⟨l,b,xs,zs,rfl,rfl,g,i,p,q⟩:=h;cases c;cases f;obtain⟨z,iq,n,r,w,e⟩:=I.Fe g;obtain⟨A,a,B,j,m,e2⟩:=I.Fe i;refine PySem.P.add_list e e2 ?_ (by rw[aR,aR];lia);have o:iq.toArray++a.toArray=(iq++a).toArray:=by simp
 rw[o];exact⟨.ref _,_,I.aaC (r.append j) (by rw[aE];exact p),rfl,q _ I.fresh⟩
def agP:R2:=λx y H Q=>∃l k xs,x=.ref l/\y=.int k/\H l=aa (.lst xs)/\-(2^63)<=k/\k<2^63/\xs.length*k.toNat<=aO/\
 ∀p,H p=ar->Q (.ref p) (upd H p (.lst (bW k.toNat xs).flatten))
def VU{α:Type}(xs:List α)(k:Nat):(bW k xs).flatten.length=k*xs.length:=by
 induction k with
 |zero=>simp
 |succ k a=>rw[List.replicate_succ,List.flatten_cons,aE,a,Nat.succ_mul,Nat.add_comm]
def aaF:rS X (binaryOp .Mult) agP:=by
 intro cc s σ H x y v u Q I i j h;obtain⟨l,k,xs,rfl,rfl,o,p,w,g,q⟩:=h;cases i;obtain⟨t,rfl⟩:=j;obtain⟨z,iq,n,r,A,e⟩:=I.Fe o;have B:iq.toArray.size*k.toNat<=aO:=by rw[aR,<-A];exact g
 have b:¬iq.toArray.size*k.toNat>(2^63- 1)/8:=by
  have:(aO:Nat)<=(2^63- 1)/8:=by decide
  lia
 have c:¬(!fO k)=ag:=by rw[ajb p w];exact aS
 have C:¬gj (iq.toArray.size*k.toNat)=ag:=by rw[Hj B];exact aS
 have f:List.foldl (λE G=>E++G) #[] (bW (if iq.toArray.isEmpty=ag then 0 else k.toNat) iq.toArray)=(bW k.toNat iq).flatten.toArray:=by
  have f0:=λm=>by have:=foldl_rep iq m [];rw[eA] at this;exact this
  rw[f0];cases iq with
  |nil=>simp
  |cons a L=>rw[if_neg (by simp)]
 refine wpAny_binaryOp_repeat_ref (U:=fw) (by decide) ⟨_,e,rfl⟩ (λJ=>ajK J k t) noFill_list_mul F.fills_int_mul F.slot_int_rmul repeat_list F.slot_int_index.lookup
  (gu F.slot_int_rmul (ajK s k t) F.entry_int_rmul (F.args_int_rmul_2 _ _) (int___rmul___int_list k t l iq.toArray n)
   ⟨e,rfl,⟨_,e,rfl⟩,gu F.slot_list_mul ⟨_,e,rfl⟩ F.entry_list_mul (F.args_list_mul_2 _ _) (AutoListH.list___mul___list_int_3 l iq.toArray n k t c b C) ⟨e,?_⟩⟩)
 rw[f];exact⟨.ref _,_,I.aaC (r.rep k.toNat) (by rw[VU,Nat.mul_comm];exact g),rfl,q _ I.fresh⟩
end L2
end
namespace Att
open PySem PySem.W PySem.Calls PyProof.Rows
def Ak:∀(ns:List Int) (c:List ai),WellAll P h c (ns.map WData.int)->ajt c ns:=by
 intro ns;induction ns with
 |nil=>
  intro c w;cases w;exact .nil
 |cons n ns e=>
  intro c w;cases w with
  |cons a b=>
   cases a;exact .cons _ _ (e _ b)
def Oy{l:OpenLaw}(hn:l.most=aa n)
(g:l.row.toRowW.claim.pre args=ag)(c:WellAll P h e args):
  ∃a i ns,e=[bE a]/\args=[WData.list (ns.map WData.int)]/\h.get? a=aa {cls:=.type cr,data:=.seq i.toArray}/\ajt i ns/\ns.length<=n:=by
 have m:WShape.hasAll [] args _=ag:=(pre_splitW g).1;have hc:l.pre.holds [] _=ag:=(pre_splitW g).2;obtain⟨d,r,rfl,o,p⟩:=hasAllW_cons m;obtain rfl:=hasAllW_nil p;obtain⟨xs,rfl,q⟩:=hasW_list o;obtain⟨ns,rfl⟩:=items_int q;have s:=by
  have b:=by have b:=(holds_andW hc).1;rw[hn] at b;exact b
  have j:=condW_of b (w_not (w_lt w_lit (w_len_list (w_arg rfl))));first
   | (exact absurd j (by decide))
   | (simp at j;omega)
 cases c with
 |cons u v=>
  cases v;cases u with
  |list w f=>exact⟨_,_,ns,rfl,rfl,w,Ak ns _ f,s⟩
def Oz(l:OpenLaw)(args:List WData):l.row.toRowW.claim.post args (.bool ag) args=ag:=
 postW_of
  (by first|rfl|decide|simp[WShape.has])
  (w_eq_bool (w_res rfl) w_lit) rfl
def Hk{l:OpenLaw}
(hn:l.most=aa n)(s:d.params.defaults=[])
(call:∀(w:bJ) (iA b:av) (mg h:aY->Option ai) (e:aw) (o:cB) (pm cd doc:ai) (a:aw) (c:List ai) (ns:List Int),
   Ground q u [] v w iA mg h b.heap->x w b.heap->
   b.heap.get? e=aa o->o.data=.func (docDef d.name d.params d.body d.scope pm cd doc)->b.heap.CodeRec cd d.name->mg d.name=aa (.ref e)->
   b.heap.get? a=aa {cls:=.type cr,data:=.seq c.toArray}->ajt c ns->ns.length<=n->b.gens=#[]->
   codeAny (model l.prog w) aiV (.call (.ref e) ⟨[.ref a],[]⟩) (λr g=>r=.ok (.ret (.bool ag))/\OldK b.heap g.heap/\g.os=b.os/\fR g.gens) b):
  WalkO q u v x l.row.toRowW d [] (λf c=>PySem.call f c):=by intro w iA b mg h G Y e o pm cd doc y kV z hd A p i B args C as E H I j J;obtain rfl:y=.none:=Dflts.none p s;obtain rfl:kV=.none:=Dflts.noKw p;obtain⟨a,c,ns,rfl,rfl,m,L,M⟩:=Oy hn E j;refine enter_call (dm (call w iA b mg h e o pm cd doc a c ns G Y z (fd_plain hd) A i m L M B) λr g N=>?_);obtain⟨rfl,O,Q,T⟩:=N;exact⟨.inl ⟨.bool ag,.bool ag,[],rfl,λ_=>rfl,.bool ag,Oz l _,λ_=>⟨aif,λ_ hm=>(nomatch hm)⟩⟩,O,Q,T⟩
end Att
section
open PySem PySem.Spec PyProof.Rows
namespace L2
theorem Ef:∀{a:List ai} {ns:List Int},ajt a ns->Vals (ns.map V.int) a
 |_,_,.nil=>.nil
 |_,_,.cons n t h=>.cons ⟨t,rfl⟩ (Ef h)
abbrev KOf{K:af}{h:aC}(_:K.In h):af:=K
noncomputable def iF(s:cZ)(j:Nat):cZ:=match s with
 |.ClassDef _ _ _ body _ _ _ _ _ _ _=>body.getD j (.Pass ⟨0,0,0,0⟩)
 |_=>.Pass ⟨0,0,0,0⟩
noncomputable def jT(s:cZ):ai2:=match s with
 |.FunctionDef _ a _ _ _ _ _ _ _ _=>a
 |_=>{posonlyargs:=[],args:=[],vararg:=ar,kwonlyargs:=[],kw_defaults:=[],kwarg:=ar,defaults:=[]}
noncomputable def iZ(s:cZ):List cZ:=match s with
 |.FunctionDef _ _ b _ _ _ _ _ _ _=>b
 |_=>[]
noncomputable def iE(s:cZ):dj:=match s with
 |.FunctionDef _ _ _ _ _ _ sc _ _ _=>sc
 |_=>{kind:=.function,names:=[],isGenerator:=au,isCoroutine:=au}
abbrev rW:VA:=λ_ _ _ _ _ _=>False
abbrev E0:XK:=λ_ _ _=>False
def Rx:yM rW X E0:=λ_ _ _ _ _ _ _ h=>h.elim
structure vZ(K:af)(x qual:aY)(st:cZ)(f:aw)(fd:dY):Prop where
 ex:∃(oc:ai) (od:Option aw) (kV doc pm:ai) (an:Option aw) (iQ ct:ai) (Ot:Array (Option ai)),
  fd=dy x qual (jT st) (iZ st) (iE st) .none kV doc pm an iQ ct/\K.lookup f=aa ⟨oc,od,.func fd,Ot⟩/\W.codeIn K iQ qual=ag
 kp:dV K (.ref f)=ag
section
variable {K:af}
def vZ.ok{st:cZ}(F:vZ K x qual st f fd)(S:jP N b (iE st))(len:∀a H Q E,sp a H Q E->a.length=b.length)
(c:∀(iQ:ai) (A:bH) (cv:List aie) (s:av) (H:Hp) (a:List V) (Q:VK) (E:XK),jd k (A.deeper (dZ qual (iE st) s.heap.objs.size f iQ))->sp a H Q E->
   ∃t,xu (qZ rW P w K mg cq N qual (iE st) f iQ A cv s H E).DY (iZ st) t/\t {nx:=λ_ e=>Q .non e,rt:=Q} (start N a) H):j9 P w K mg cq rW (k+1) f fd b sp:=by obtain⟨oc,od,kV,doc,pm,an,iQ,ct,Ot,rfl,lk,g⟩:=F.ex;refine Rb lk g S len λA cv s H a Q E i j=>?_;obtain⟨t,h,q⟩:=c iQ A cv s H a Q E i j;exact⟨t,h.DY,q⟩
def vZ.binds{st:cZ}(F:vZ K x qual st f fd)
(h:∀(kV doc pm:ai) (an:Option aw) (iQ ct:ai) (us:List ai),us.length=a.length->dI (dy x qual (jT st) (iZ st) (iE st) .none kV doc pm an iQ ct) ⟨us,[]⟩=pure (a.zip us)):Binds K fd a []:=by obtain⟨oc,od,kV,doc,pm,an,iQ,ct,Ot,rfl,lk,b⟩:=F.ex;exact .all (h kV doc pm an iQ ct)
def Ry{st:cZ}{kV doc pm iQ ct:ai}(l:K.lookup f=aa ⟨oc,od,.func (dy x qual (jT st) (iZ st) (iE st) .none kV doc pm an iQ ct),Ot⟩)
(c:W.codeIn K iQ qual=ag)(k:dV K (.ref f)=ag):vZ K x qual st f (dy x qual (jT st) (iZ st) (iE st) .none kV doc pm an iQ ct):=⟨⟨oc,od,kV,doc,pm,an,iQ,ct,Ot,rfl,l,c⟩,k⟩
end
def iL(a:jd k A):A.units+1<eC:=d6 (Nat.add_le_add_left (by decide) _) a.units
def jC (H a:Hp):Prop:=∀b o,H b=aa o->a b=aa o
def jC.refl(H:Hp):jC H H:=λ_ _ h=>h
def jC.trans(a:jC H H1)(b:jC H1 e):jC H e:=λc o h=>b c o (a c o h)
def jC.free{H a:Hp}(e:jC H a){l:aw}(h:a l=Option.none):H l=Option.none:=by
 cases q:H l with
 |none=>rfl
 |some o=>
  rw[e l o q] at h;cases h
def jC.seq{K:af}{H b:Hp}{a:aw}{xs:List V}(e:jC H b)(h:l9 K H a xs):l9 K b a xs:=by
 rcases h with(h|⟨o,h⟩)|h
 .exact .inl (.inl (e _ _ h))
 .exact .inl (.inr ⟨o,e _ _ h⟩)
 .exact .inr h
section
variable {κ:Type} [DecidableEq κ]
end
end L2
namespace L2
noncomputable def Dg(env:aie):List (aY×dJ)->List (aY×aw)->List (aY×aw)
 |[],acc=>acc
 | (n,k)::r,acc=>Dg env r (if(k==eS)=ag then(n,(env.cells.lookup n).getD 0)::acc else acc)
def v3(h:∀x∈scope.names,x.2=.free->∃c,env.cells.lookup x.1=aa c):aiO scope env=pure (Dg env scope.names []):=by
 unfold aiO;generalize ([])=acc;generalize scope.names=l at h;induction l generalizing acc with
 |nil=>rfl
 |cons x r b=>
  obtain⟨n,k⟩:=x;have b:=λa=>b a λy g=>h y (aB _ g);simp only [aig,Dg];by_cases f:k=.free
  .obtain⟨c,hc⟩:=h (n,k) aN f;subst f;have e:cellOf env n=pure c:=by unfold cellOf;rw[hc]
   simp only [e,hc];exact b _
  .have:(k==eS)=au:=by simpa using f
   simp only [this];exact b acc
theorem Hl:∀(l:List _) (acc:List _),(∀z d,acc.lookup z=aa d->env.cells.lookup z=aa d)->(∀x∈l,x.2=.free->∃c,env.cells.lookup x.1=aa c)->
  (Dg env l acc).lookup y=aa c->env.cells.lookup y=aa c
 |[],acc,ha,_,e=>ha y c e
 | (n,k)::r,acc,ha,g,e=>by
  refine Hl r _ ?_ (λx i=>g x (aB _ i)) e;intro z d a;split at a
  .rename_i f;have f:=by simpa using f
   obtain⟨j,h⟩:=g (n,k) aN f;rw[dO,h] at a;by_cases b:z=n
   .subst b;simp only [beq_self_eq_true] at a;rw[h];exact a
   .have:(z==n)=au:=by simpa using b
    rw[this] at a;exact ha z d a
  .exact ha z d a
theorem Bf:∀(l:List _) (acc:List _),((∃c,acc.lookup y=aa c)\/(y,eS)∈l)->∃c,(Dg env l acc).lookup y=aa c
 |[],acc,h=>h.elim (λx=>x) λx=>by cases x
 | (n,k)::r,acc,h=>by
  refine Bf r _ ?_;rcases h with⟨c,hc⟩|h
  .left;split
   .rw[dO];split
    .exact⟨_,rfl⟩
    .exact⟨c,hc⟩
   .exact⟨c,hc⟩
  .rcases aH.mp h with h|h
   .cases h;simp
   .exact .inr h
noncomputable def wn(X:Cx)(scope:dj)(N:List aY)(C:aw)(ex:List aw)(cc:List (aw×cB))(iA:av)(iH:Hp)(E:ai->av->Prop):Cx where
 prog:=X.prog
 w:=X.w
 K:=X.K
 mg:=X.mg
 cq:=X.cq
 A:=X.A
 N:=N
 iA:=iA
 iH:=iH
 env:=compEnvC scope (Dg X.env scope.names []) C X.env
 cv:=X.stack
 stack:=X.stack
 ex:=ex
 fn:=λ_=>au
 calm:=X.calm
 pn:=X.pn++cc
 xe:=E
noncomputable def slots(fr:List (Option Nat))(σ:St):St:=fr.map λo=>match o with
 |none=>ar
 |some j=>(σ[j]?).getD ar
noncomputable def AI(b N:List aY)(fr:List (Option Nat))(scope a:dj):Bool:=
 (N.zip fr).all (λp=>match p.2 with
  |none=>ag
  |some j=>decide (b[j]?=aa p.1)&&decide (scope.names.lookup p.1=aa .free))&&
 scope.names.all (λx=>x.2!=.cell&&(x.2!=.free||(a.names.lookup x.1==aa .cell||a.names.lookup x.1==aa .free))&&(x.2!=.local||decide (scope.names.lookup x.1=aa .local)))&&
 decide (fr.length=N.length)&&(scope.kind==.function)
structure oq(X:Cx)(N:List aY)(fr:List (Option Nat))(scope:dj):Prop where
 cell:∀y∈scope.names,y.2≠.cell
 free:∀y∈scope.names,y.2=.free->X.env.kindOf y.1=aa .cell\/X.env.kindOf y.1=aa .free
 loc:∀y∈scope.names,y.2=.local->scope.names.lookup y.1=aa .local
 slot:∀(i j:Nat) (x:aY),N[i]?=aa x->fr[i]?=aa (aa j)->X.N[j]?=aa x/\scope.names.lookup x=aa .free
 len:fr.length=N.length
 kind:scope.kind=.function
def oq.of(h:AI c N fr scope e=ag)(f:X.N=c:=by rfl)(g:X.env.scope.names=e.names:=by rfl):oq X N fr scope:=by
 unfold AI at h;simp only [aZ,decide_eq_true_eq,bT,beq_iff_eq] at h;obtain⟨⟨⟨m,b⟩,n⟩,o⟩:=h;refine⟨λy a=>?_,λy a p=>?_,λy a q=>?_,λi j x e1 e2=>?_,n,o⟩
 .have:=(b y a).1.1;simpa using this
 .have:=(b y a).1.2;unfold aie.kindOf;rw[g];simpa[p] using this
 .have:=(b y a).2;simpa[q] using this
 .have hm:(x,aa j)∈N.zip fr:=by refine bA (i:=i) ?_;rw[cK];exact⟨e1,e2⟩
  have:=m _ hm;rw[f];simpa using this
def OA{i:Nat}(h:(slots fr σ)[i]?=aa (aa v)):∃j:Nat,fr[i]?=aa (aa j)/\σ[j]?=aa (aa v):=by
 unfold slots at h;rw[bh] at h;cases e:fr[i]? with
 |none=>rw[e] at h;cases h
 |some o=>
  rw[e] at h;cases o with
  |none=>cases h
  |some j=>
   refine⟨j,rfl,?_⟩;have a:=by simpa using h
   cases e2:σ[j]? with
   |none=>rw[e2] at a;cases a
   |some q=>rw[e2] at a;simp at a;rw[a]
theorem rX{scope:dj}{env:aie}:∀{l:List _} {x:aY} {k:dJ},
  (l.map λ(n,k)=>if(k==eS&&env.scope.kind==.function&&env.kindOf n==aa .cell) then(n,dJ.cell) else(n,k)).lookup x=aa k->
  ∃k',(x,k')∈l/\l.lookup x=aa k'/\(k=k'\/(k'=.free/\k=.cell))
 |[],x,k,h=>by cases h
 | (n,k0)::r,x,k,h=>by
  simp only [bq] at h;by_cases a:x=n
  .subst a;refine⟨k0,aN,by simp,?_⟩;split at h
   .rename_i hc;simp at h;have:=by simp at hc;exact hc.1.1
    exact .inr ⟨this,h.symm⟩
   .simp at h;exact .inl h.symm
  .have hb:(x==n)=au:=by simpa using a
   have b:=by split at h<;>(rw[dO,hb] at h;exact h)
   obtain⟨k',m,c,q⟩:=rX (scope:=scope) b;exact⟨k',aB _ m,by rw[dO,hb];exact c,q⟩
theorem zP{env:aie}:∀{l:List _} {x:aY},l.lookup x=aa .free->
  (l.map λ(n,k)=>if(k==eS&&env.scope.kind==.function&&env.kindOf n==aa .cell) then(n,dJ.cell) else(n,k)).lookup x=aa .cell\/
  (l.map λ(n,k)=>if(k==eS&&env.scope.kind==.function&&env.kindOf n==aa .cell) then(n,dJ.cell) else(n,k)).lookup x=aa .free
 |[],x,h=>by cases h
 | (n,k0)::r,x,h=>by
  simp only [bq];by_cases a:x=n
  .subst a;simp at h;subst h;split
   .left;simp
   .right;simp
  .have hb:(x==n)=au:=by simpa using a
   rw[dO,hb] at h;have:=zP (env:=env) h;split<;>(rw[dO,hb];exact this)
section
variable {X:Cx} {s:av} {scope:dj}
def Inv.RA(I:Inv X cc σ H s)(c:oq X N fr scope):∀x∈scope.names,x.2=.free->∃c,X.env.cells.lookup x.1=aa c:=λx a b=>I.ok.has x.1 (c.free x a b)
def Inv.YO(I:Inv X cc σ H s)(c:oq X N fr scope)(h:(Dg X.env scope.names []).lookup y=aa a):X.env.cells.lookup y=aa a:=
 Hl _ [] (λ_ _ e=>by cases e) (I.RA c) h
def Inv.block(I:Inv X cc σ H s)(c:oq X N fr scope)(g:∀b∈fp,rQ X cc H b)(L:∀b∈fp,b<s.heap.objs.size)(hn:U.Ns s.heap.objs.size m)(A:∀b o,s.heap.get? b=aa o->U.get? b=aa o):
  Inv (wn X scope N s.heap.objs.size fp cc s H E) [] (slots fr σ) H {s with heap:=U,toks:=t'}:=by
 have cg:∀y a,(Dg X.env scope.names []).lookup y=aa a->X.env.cells.lookup y=aa a:=λy a=>I.YO c;refine⟨⟨I.ok.mod,c.kind,I.ok.glob,I.ok.blt,aD _,λx y a h1 h2=>I.ok.inj x y a (cg x a h1) (cg y a h2),λx hx=>?_,λx a g=>(by cases g),I.ok.hd,I.ok.frames,.inl rfl,λb hb=>?_,I.bs,bG I.ok.Oh I.sz,λb o e hb=>?_,λb hb=>?_,I.stack,I.Mw⟩,
  rfl,I.bare,Un.kept A,⟨m,hn,λi x v e1 e2 e3=>?_⟩,λx a e=>?_,I.iO.fresh (aD _),λx a e=>I.lU x a (cg x a e),λp Y=>?_,I.iO.kept A,?_⟩
 .have RC:=hx;have:(x,eS)∈scope.names:=by
   rcases RC with h|h
   .obtain⟨k',J,_,q⟩:=rX (scope:=scope) h;rcases q with q|q
    .subst q;exact absurd rfl (c.cell _ J)
    .rw[<-q.1];exact J
   .obtain⟨k',J,_,q⟩:=rX (scope:=scope) h;rcases q with q|q
    .subst q;exact J
    .cases q.2
  exact Bf scope.names [] (.inr this)
 .obtain⟨f0,B,C,f,M,f5⟩:=g b hb;exact⟨bd (L b hb),λx a e=>M x a (cg x a e)⟩
 .obtain⟨f0,B,C,f,M,f5⟩:=g b hb;rcases f with f|f
  .exact I.ok.G5 b o e f
  .exact absurd (bw (aM e) (bG I.ok.Oh f)) (cC _)
 .obtain⟨f0,B,C,f,M,f5⟩:=g b hb;intro z;rcases aH.mp (I.rN b z) with z|z
  .exact B z
  .exact C z
 .obtain⟨j,B,C⟩:=OA e2;obtain⟨g1,O⟩:=c.slot i j x e1 B;have G:=c.free (x,.free) (PySem.mem_of_lookup O) rfl;have tR:Yv X.env.scope x:=.inr G;obtain⟨m0,_,hl⟩:=I.loc;obtain⟨u,r,lk⟩:=hl j x v g1 C tR;refine⟨u,r,.inr ⟨zP O,?_⟩⟩;obtain⟨a,ha⟩:=Bf (env:=X.env) (y:=x) scope.names [] (.inr (PySem.mem_of_lookup O));refine⟨a,ha,?_⟩;have Q:=cg x a ha;rcases lk with⟨q,_⟩|⟨_,a',e',z⟩
  .rcases G with w|w<;>(rw[q] at w;cases w)
  .rw[Q] at e';cases e';obtain⟨o,T,hd⟩:=z;exact⟨o,A _ o T,hd⟩
 .obtain⟨v,o,T,hd⟩:=I.cell x a (cg x a e);exact⟨v,o,A _ o T,hd⟩
 .rw[bu] at Y;obtain⟨e,n,ne,nf,d⟩:=I.pin p Y;refine⟨A _ _ e,n,bd (aM e),λz=>?_,d⟩;rcases aH.mp (I.rN p.1 z) with z|z
  .exact ne z
  .exact nf z
 .unfold slots;rw[ao];exact c.len
def Inv.unblock(I:Inv X cc σ H s)(a:∀b∈fp,rQ X cc H b)(J:Inv (wn X scope N C fp cc s H E) j m c e):Inv X cc σ c e:=
 I.A5 J.os J.cq J.iO J.bare λb hb=>by obtain⟨f0,f,n,g,h,i⟩:=a b hb;exact⟨g,f,h,i⟩
end
def ub(I:Nat->av->Prop)
(turn:∀n s,I n s->wpAny (model prog w) A (pyNext it) (λr g=>match r with
   |none=>R (.ok .next) g
   |some v=>wpAny (model prog w) A (letOwnedTupleGo target it v) (λ_ o=>wpAny (model prog w) A (assign target env v) (λ_ p=>
     wpAny (model prog w) A (forIn ifs ag λc r=>if r=ag then do let ok<-ajq c env (eval c env);pure (gZ ok) else pure (gZ r)) (λok i=>
      if ok=ag then wpAny (model prog w) A (eval elt env) (λx q=>
       wpAny (model prog w) A (call (.builtin "list.append") [acc,x]) (λ_ f=>∃m,m<n/\I m f) (ai5 (model prog w) A env λe a=>R (.error e) a) q) (ai5 (model prog w) A env λe a=>R (.error e) a) i
      else∃m,m<n/\I m i) (ai5 (model prog w) A env λe a=>R (.error e) a) p) (ai5 (model prog w) A env λe a=>R (.error e) a) o) (ai5 (model prog w) A env λe a=>R (.error e) a) g) (ai5 (model prog w) A env λe a=>R (.error e) a) s)
(n:Nat)(h:I n s):
  codeAny (model prog w) A (.compLoop (.ListComp elt [⟨target,iter,ifs,0⟩] scope pos) 0 it acc env) R s:=by
 refine codeAny_loop rfl I (λn s z=>?_) n h;show wpAny _ A _ _ _ s;refine wpAny_noted ?_;rw[compTurn_list];refine ae (aih (ae (cm (turn n s z) (λr g u=>?_) λ_ _ b=>b)));cases r with
 |none=>exact ay u
 |some v=>
  refine ae (cm u (λ_ o j=>?_) λ_ _ b=>b);refine ae (cm j (λ_ p B=>ae (cm B (λok i y=>?_) λ_ _ b=>b)) λ_ _ b=>b);cases ok with
  |false=>exact ay ⟨rfl,y⟩
  |true=>
   exact ae (ae (cm y (λx q C=>ae (cm C (λ_ f E=>ay (ay ⟨rfl,E⟩)) λ_ _ b=>b)) λ_ _ b=>b))
def PIf (X:Cx)(ifs:List bI)(t:TT):Prop:=
 ∀(cc:List (aw×cB)) (s:av) (σ:St) (H:Hp) (Q:Bool->Hp->Prop),Inv X cc σ H s->t σ H Q->
  wpAny (model X.prog X.w) X.A (forIn ifs ag λc r=>if r=ag then do let ok<-ajq c X.env (eval c X.env);pure (gZ ok) else pure (gZ r)) (TP X cc σ Q) X.xe s
def agU:TT:=λ_ H Q=>Q ag H
def VY:PIf X [] agU:=λ_ _ _ H _ I h=>wpAny_tests_nil ⟨H,I,h⟩
def VZ(h:PT X c t):PIf X [c] t:=λcc s σ H Q I q=>wpAny_tests_one (h cc s σ H Q I q)
def MJ (fr:List (Option Nat))(wi:TI)(g:TG)(tt:TT)(q:TE):TE:=λσ H Q=>wi σ H λJ H1=>∀p,H1 p=ar->
 ∃W:Nat->Nat->List V->St->Hp->Prop,(∃m,W 0 m [] (slots fr σ) (upd H1 p (.lst [])))/\∀i m a σ H,W i m a σ H->
   (J.stop i H/\Q (.ref p) H)\/(J.go i H/\∃N:List V->St->Hp->Prop,(∀c h e,N c h e->∃j,j<m/\W (i+1) j c h e)/\
   ∀x e,J.yld i H x e->g x σ e λf r=>tt f r λb n=>if b=ag then q f n λv o=>o p=aa (.lst a)/\a.length<aO/\N (a++[v]) f (upd o p (.lst (a++[v]))) else N a f n)
section
variable {X:Cx} {scope:dj} {iter:bI}
def Eg(c:oq X N fr scope)(pb:X.calm=ag)(hi:PI X target iter wi)
(hg:∀C ex cc iA iH,PG (wn X scope N C ex cc iA iH λ_ _=>False) target g)
(ht:∀C ex cc iA iH,PIf (wn X scope N C ex cc iA iH λ_ _=>False) ifs tt)
(he:∀C ex cc iA iH,PE (wn X scope N C ex cc iA iH λ_ _=>False) elt te)
{cc:List (aw×cB)}{s:av}{σ:St}{H:Hp}{Q:VK}{R:ai->aw->ajr->av->Prop}(I:Inv X cc σ H s)(h:MJ fr wi g tt te σ H Q)
(jG:∀p C m s' f,Inv X cc σ f s'->rQ X cc f C->s'.heap.Ns C m->Q (.ref p) f->R (.ref p) C (.ok .next) s'):
  wpAny (model X.prog X.w) X.A (eval iter X.env) (λx ja=>wpAny (model X.prog X.w) X.A (ai9 x) (λit De=>wpAny (model X.prog X.w) X.A (newList []) (λacc yJ=>
   wpAny (model X.prog X.w) X.A (newFunctionEnv scope X.env.globals (Dg X.env scope.names []) [] X.env.qual ar .none (aa X.env)) (λadY VX=>
    codeAny (model X.prog X.w) X.A (.compStart (.ListComp elt [⟨target,iter,ifs,0⟩] scope pos) 0 it acc {adY with scope:=relabel scope X.env}) (R acc adY.locals) VX) X.xe yJ) X.xe De) X.xe ja) X.xe s:=by
 refine j4 (hi cc s σ H _ I h) λv s1 h1=>j4 h1 λitv s2 h2=>?_;obtain⟨it,j,tn,J,G,e,I2,T,st2,f2,h2⟩:=h2;subst e;have adZ:∀b∈j,b<s2.heap.objs.size:=λb hb=>by obtain⟨o,e,_⟩:=T.obj _ _ st2 b hb;exact aM e
 have hp0:G s2.heap.objs.size=ar:=I2.fresh;obtain⟨W,⟨m0,w0⟩,turn⟩:=h2 _ hp0;refine ah9 ?_;generalize hs3:({s2 with heap:=s2.heap.push {cls:=.type cr,dict:=ar,data:=.seq ([]:List ai).toArray}}:av)=s3;have Y:s3={s2 with heap:=s2.heap.push {cls:=.type cr,data:=.seq ([]:List ai).toArray},toks:=s2.toks}:=hs3.symm;have I3:Inv X cc σ (upd G s2.heap.objs.size (.lst [])) s3:=by rw[Y];exact I2.aaC .nil (bD _)
 have sz3:s3.heap.objs.size=s2.heap.objs.size+1:=by rw[Y];exact ci ..
 have nep:∀b∈j,b≠s2.heap.objs.size:=λb hb=>bd (adZ b hb);have f3:∀b∈j,rQ X cc (upd G s2.heap.objs.size (.lst [])) b:=λb hb=>⟨by rw[hZ (nep b hb)];exact(f2 b hb).1,(f2 b hb).2⟩;have st3:tn 0 s3.heap:=T.keep _ _ _ st2 λb hb o e=>by rw[Y];exact aj _ e
 refine wpAny_newFunctionEnv c.cell (by intro y hy;simp at hy) (λh4 hn4 ad0=>?_) c.kind;try dsimp only at hn4 ad0 |-
 have k4:∀b o,s3.heap.get? b=aa o->h4.get? b=aa o:=λb o e=>ad0.extBut b o (bd (aM e)) (aj _ e);have YR:∀b∈j,b<s3.heap.objs.size:=λb hb=>by rw[sz3];exact cV (adZ b hb)
 have I4:Inv (wn X scope N s3.heap.objs.size j cc s3 (upd G s2.heap.objs.size (.lst [])) λ_ _=>False) [] (slots fr σ) (upd G s2.heap.objs.size (.lst [])) {s3 with heap:=h4,toks:=s3.toks+([]:List (aY×ai)).length}:=I3.block c f3 YR hn4 k4;have st4:tn 0 h4:=T.keep _ _ _ st3 λb hb o e=>k4 b o e;have Ki:∀{f:Hp},(∀b∈j,f b=ar)->∀b∈j,rQ (wn X scope N s3.heap.objs.size j cc s3 (upd G s2.heap.objs.size (.lst [])) λ_ _=>False) [] f b:=λ{f} hn b hb=>by
  obtain⟨g0,g1,g2,g3,g4,g5⟩:=f3 b hb;refine⟨hn b hb,bd (YR b hb),λz=>?_,.inl hb,λx a e=>g4 x a (I3.YO c e),λp hp=>?_⟩
  .rcases aH.mp (I3.rN b z) with z|z
   .exact g1 z
   .exact g2 z
  .rw[bu] at hp;exact g5 p hp
 have loop:∀s5:av,s5={s3 with heap:=h4,toks:=s3.toks+([]:List (aY×ai)).length}->codeAny (model X.prog X.w) X.A (.compLoop (.ListComp elt [⟨target,iter,ifs,0⟩] scope pos) 0 (.ref it) (.ref s2.heap.objs.size) (compEnvC scope (Dg X.env scope.names []) s3.heap.objs.size X.env)) (R (.ref s2.heap.objs.size) s3.heap.objs.size) s5:=by
  rintro s5 rfl
  refine ub (λn s'=>∃i ys jt f,Inv (wn X scope N s3.heap.objs.size j cc s3 (upd G s2.heap.objs.size (.lst [])) λ_ _=>False) [] jt f s'/\tn i s'.heap/\(∀b∈j,f b=ar)/\W i n ys jt f) ?_ m0
   ⟨0,[],slots fr σ,_,I4,st4,λb hb=>(f3 b hb).1,w0⟩
  rintro n s6 ⟨i,ys,M,H6,I6,st6,fr6,w6⟩
  rcases turn i n ys M H6 w6 with⟨stop,q⟩|⟨go,Nx,hN,step⟩
  .refine j4 (T.done (wn X scope N s3.heap.objs.size j cc s3 (upd G s2.heap.objs.size (.lst [])) λ_ _=>False) rfl rfl rfl pb i [] s6 M H6 _ I6 (Ki fr6) st6 stop) λr s7 zq=>?_;obtain⟨hr,I7⟩:=zq;subst hr;obtain⟨m7,n7,_⟩:=I7.loc;exact jG _ _ m7 s7 H6 (I3.unblock f3 I7) (I3.G9 (aD _) I7.free) n7 q
  .refine j4 (T.item (wn X scope N s3.heap.objs.size j cc s3 (upd G s2.heap.objs.size (.lst [])) λ_ _=>False) rfl rfl rfl pb i [] s6 M H6 _ I6 (Ki fr6) st6 go) λr s7 zq=>?_;obtain⟨u,hr,h7⟩:=zq;subst hr;refine j4 h7 λ_ s8 zq=>?_;obtain⟨x,H8,I8,r8,y8,st8,fr8⟩:=zq;have I8':=I8.pinned (Ki fr8) (T.obj _ _ st8);refine cm (hg _ _ _ _ _ _ s8 M H8 x u _ I8' r8 (step x H8 y8)) (λ_ s9 zq=>?_) λ_ _ z=>cu z;obtain⟨O,H9,I9,q9⟩:=zq;refine cm (ht _ _ _ _ _ _ s9 O H9 _ I9 q9) (λb s10 zq=>?_) λ_ _ z=>cu z;obtain⟨H10,I10,U⟩:=zq;have again:∀{B:av} {V0:St} {E:Hp} {ys':List V},Inv (wn X scope N s3.heap.objs.size j cc s3 (upd G s2.heap.objs.size (.lst [])) λ_ _=>False) ([]++A8 j s8.heap) V0 E B->Nx ys' V0 E->∃m,m<n/\∃i ys jt f,Inv (wn X scope N s3.heap.objs.size j cc s3 (upd G s2.heap.objs.size (.lst [])) λ_ _=>False) [] jt f B/\tn i B.heap/\(∀b∈j,f b=ar)/\W i m ys jt f:=λ{B V0 E ys'} L n11=>by obtain⟨m',hm,w11⟩:=hN _ _ _ n11;refine⟨m',hm,i+1,ys',V0,E,L.xv,T.keep _ _ _ st8 λb hb o e=>(L.pin (b,o) (bL _ (bL _ (rR hb e)))).1,λb hb=>?_,w11⟩;obtain⟨o,e,d⟩:=T.obj _ _ st8 b hb;exact(L.pin (b,o) (bL _ (bL _ (rR hb e)))).2.1
   cases b with
   |false=>
    rw[if_neg aS] at U |-;exact again I10 U
   |true=>
    rw[if_pos rfl] at U |-;refine cm (he _ _ _ _ _ _ s10 O H10 _ I10 U) (λu11 B zq=>?_) λ_ _ z=>cu z;obtain⟨OB,E,L,r11,agV,agW,q11⟩:=zq;refine cm (Ee (X:=wn X scope N s3.heap.objs.size j cc s3 (upd G s2.heap.objs.size (.lst [])) λ_ _=>False) _ B O E (.ref s2.heap.objs.size) [OB] (.ref s2.heap.objs.size) [u11] (λ_ f=>Nx (ys++[OB]) O f) L rfl (.cons r11 .nil) ⟨_,ys,OB,rfl,rfl,agV,agW,q11⟩) (λ_ s12 zq=>?_) λ_ _ z=>cu z;obtain⟨_,H12,I12,_,q12⟩:=zq;exact again I12 q12
 exact codeAny_compStart_list (loop _ rfl) (T.self X.A 0 _ _ _ st4 (loop _ rfl))
def Inv.YS(I:Inv X cc σ H s)(f:rQ X cc H C)(a:bO C s.heap c):Inv X cc σ H {s with heap:=c}:=by obtain⟨f0,h,n,i,j,m⟩:=f;exact I.turned (λb o hb e=>(a.2 b hb).trans e) f0 h i j m
def V1(c:oq X N fr scope)(a:X.calm=ag)(hi:PI X target iter wi)
(b:∀C ex cc iA iH,PG (wn X scope N C ex cc iA iH λ_ _=>False) target g)
(ht:∀C ex cc iA iH,PIf (wn X scope N C ex cc iA iH λ_ _=>False) ifs tt)
(e:∀C ex cc iA iH,PE (wn X scope N C ex cc iA iH λ_ _=>False) elt te)
(i:∀x,de iter X.env x=pure x:=by intro _;rfl):PE X (.ListComp elt [⟨target,iter,ifs,0⟩] scope pos) (MJ fr wi g tt te):=by intro cc s σ H Q I h;refine aji rfl i (v3 (I.RA c)) c.kind c.loc (Eg c a hi b ht e I h λp C m r j n f hn q=>?_);exact⟨m,hn,λu o=>⟨.ref p,j,n.YS f o,rfl,q⟩⟩
def ad1 (i:Nat)(te:TE):TS:=λD σ H=>te σ H λv H1=>D.nx (σ.set i (aa v)) H1
def V2(c:oq X N fr scope)(r:X.calm=ag)(hi:PI X target iter wi)
(u:∀C ex cc iA iH,PG (wn X scope N C ex cc iA iH λ_ _=>False) target g)
(ht:∀C ex cc iA iH,PIf (wn X scope N C ex cc iA iH λ_ _=>False) ifs tt)
(w:∀C ex cc iA iH,PE (wn X scope N C ex cc iA iH λ_ _=>False) elt te)
(z:X.N.Nodup)(A:X.N[i]?=aa y)(B:Loc X.env.scope y)
(b:eO (.ListComp elt [⟨target,iter,ifs,0⟩] scope pos) (aa (.Name y E)) j.line X.env=pure ag:=by rfl)(G:X.fn y=ag\/X.env.scope.names.lookup y=aa .local:=by first|exact .inl rfl|exact .inr rfl|assumption)
(J:∀x,de iter X.env x=pure x:=by intro _;rfl):PS X (.Assign [.Name y E] (.ListComp elt [⟨target,iter,ifs,0⟩] scope pos) j) (ad1 i (MJ fr wi g tt te)):=by
 intro cc s σ H D I h;rw[exec_Assign_Name_used _ _ _ _ b];refine ae (aih (ae ?_));refine ae (j4 (aji rfl J (v3 (I.RA c)) c.kind c.loc
  (Eg c r hi u ht w I h λp C m L M O f hn q=>?_)) (λ_ L Q=>ay (ay Q)))
 refine ajP (yI (v:=.ref p) O z A B rfl (λs2 T n=>?_) G);obtain⟨a,sb,ha⟩:=n;have o:C≠a:=by
  rcases ha with ha|ha
  .rw[ha];exact f.2.1
  .exactλe=>f.2.2.2.2.1 y a ha e.symm
 exact⟨m,hn.sameBut sb o,λY U=>⟨_,M,T.YS f U,q⟩⟩
end
noncomputable def Its(x:aY):It:=⟨λi _=>i<x.cps.size,λi H v a=>a=H/\∃c,x.cps[i]?=aa c/\v=.str ⟨#[c]⟩,λi _=>x.cps.size<=i⟩
def nJ:eD x=uaH\/eD x="str_iterator":=by
 unfold eD;split
 .exact .inl rfl
 .exact .inr rfl
def RD{w:bJ}{K:af}(it:aw)(x:aY)(t:akc):Turn P w K tg (Its x) [it] it (λi h=>h.IsStrIter it (eD x) x t i/\i<=x.cps.size) where
 mem:=by simp
 obj:=λi h st b hb=>by
  have e:b=it:=by simpa using hb
  subst e;obtain⟨⟨o,e,c,d⟩,_⟩:=st;exact⟨o,e,λv z=>by rw[d] at z;cases z⟩
 keep:=λi h a st k=>by obtain⟨⟨o,e,c,d⟩,l⟩:=st;exact⟨⟨o,k it (by simp) o e,c,d⟩,l⟩
 item:=by
  intro X B hw C hc i cc s σ H E I m st f;subst B hw C;obtain⟨f0,n,L,p,q,r⟩:=m it (by simp);rcases nJ (x:=x) with e|e
  .rw[e] at st |-;have W:=aiR.strAscii (prog:=X.prog) (w:=X.w) (I.ok.hd hc) it x t;refine W.item i s _ _ f st.1 λv a tk G y g=>?_;obtain⟨c,u,j,rfl⟩:=G;have I1:Inv X cc σ H {s with heap:=a,toks:=tk}:=I.turned (λb o hb e=>g b o (by simpa using hb) e) f0 n p q r;obtain⟨o,e1,c1,J⟩:=id y;exact⟨_,rfl,Ha (s:={s with heap:=a,toks:=tk}) e1 c1 J (by decide) ⟨.str ⟨#[c]⟩,H,I1,⟨u,rfl⟩,⟨rfl,c,j,rfl⟩,⟨y,f⟩,λb hb=>(m b hb).1⟩⟩
  .rw[e] at st |-;have W:=aiR.strWide (prog:=X.prog) (w:=X.w) (I.ok.hd hc) it x t;refine W.item i s _ _ f st.1 λv a tk G y g=>?_;obtain⟨c,u,j,rfl⟩:=G;have I1:Inv X cc σ H {s with heap:=a,toks:=tk}:=I.turned (λb o hb e=>g b o (by simpa using hb) e) f0 n p q r;obtain⟨o,e1,c1,J⟩:=id y;exact⟨_,rfl,Ha (s:={s with heap:=a,toks:=tk}) e1 c1 J (by decide) ⟨.str ⟨#[c]⟩,H,I1,⟨u,rfl⟩,⟨rfl,c,j,rfl⟩,⟨y,f⟩,λb hb=>(m b hb).1⟩⟩
 done:=by
  intro X B hw C hc i cc s σ H E I m st f;subst B hw C;obtain⟨f0,n,L,p,q,r⟩:=m it (by simp);have f:x.cps.size<=i:=f;obtain⟨st,l⟩:=st;have hi:i=x.cps.size:=by exact Nat.le_antisymm l f
  subst hi;rcases nJ (x:=x) with e|e
  .rw[e] at st;exact(aiR.strAscii (w:=X.w) (I.ok.hd hc) it x t).done s _ _ st λa tk g=>⟨rfl,I.turned (λb o hb e=>g b o (by simpa using hb) e) f0 n p q r⟩
  .rw[e] at st;exact(aiR.strWide (w:=X.w) (I.ok.hd hc) it x t).done s _ _ st λa tk g=>⟨rfl,I.turned (λb o hb e=>g b o (by simpa using hb) e) f0 n p q r⟩
 self:=λA i s Q E st h=>by
  obtain⟨st,l⟩:=st;rcases nJ (x:=x) with e|e
  .rw[e] at st;exact wpAny_pyIter_striter_ascii st h
  .rw[e] at st;exact wpAny_pyIter_striter_wide st h
section
variable {X:Cx}
def RE(hc:X.calm=ag):lV X (.builtin "all") (λxs H Q=>∃(a:aw) (bs:List Bool),xs=[V.ref a]/\l9 X.K H a (bs.map V.bl)/\Q (.bl (bs.all id)) H):=by
 intro cc s σ H xs us Q I r h;obtain⟨a,bs,rfl,m,q⟩:=h;obtain⟨u,rfl,c⟩:=vals1 r;cases c;obtain⟨iq,f,p,L⟩:=I.list m;have w:X.A.in1.handled=ar:=I.ok.hd hc;refine call_all_walk (dL p.isList ?_);have y:a<s.heap.objs.size:=by obtain⟨o,n,e,_⟩:=p;exact aM e
 have z:iq.length=bs.length:=by have:=f.length;rw[ao] at this;exact this.symm
 have B:∀(i:Nat) (v:ai),iq[i]?=aa v->v=.bool (bs.getD i au):=λi v e=>by
  have hi:i<iq.length:=(ak.mp e).1;have hb:(bs.map V.bl)[i]?=aa (V.bl (bs.getD i au)):=by rw[bh,bv,ax (by exact bw hi (gB z))];rfl
  obtain⟨u,g,c⟩:=f.get hb;rw[e] at g;cases g;exact c
 refine⟨s.heap.objs.size,_,_,_,_,_,λi=>bs.getD i au,rfl,aiR.list w s.heap.objs.size a (bd y) iq.toArray,⟨⟨_,aP _ rfl,rfl,rfl⟩,p.isList.push _⟩,λi v M N O C E=>?_,λT tk G=>?_⟩
 .have:=B i v (by simpa using C);subst this;exact cy E
 .have e:(cx iq.toArray.size).all (λi=>bs.getD i au)=bs.all id:=by
   rw[aR,z];have key:∀l:List Bool,(cx l.length).all (λi=>l.getD i au)=l.all id:=by
    intro l;rw[d9];simp only [bT,gF,id];constructor
    .intro h x J;obtain⟨i,hi,rfl⟩:=List.mem_iff_getElem.mp J;have:=h i hi
     rwa [bv,ax hi] at this
    .intro h i hi;rw[bv,ax hi];exact h _ (fP hi)
   exact key bs
  rw[e];refine⟨.bl _,H,I.kept (t':=tk) λb o j=>?_,rfl,q⟩;exact G b o (by simpa using bd (aM j)) (aj _ j)
def OC:rS X (compareOp .LtE) (λx y H Q=>∃i j,x=.str i/\y=.str j/\Q (.bl (!decide (j.cps.toList<i.cps.toList))) H):=by intro cc s σ H x y v u Q I a b h;obtain⟨i,j,rfl,rfl,q⟩:=h;obtain⟨t,rfl⟩:=a;obtain⟨c,rfl⟩:=b;exact P.le_str (i7 I q rfl)
def aaJ:U4 X (λx lo hi H Q=>∃z,x=.str z/\z.length<=aO/\Q (.str (Txt.slice z lo hi)) H):=by
 intro cc s σ H x v c e lo hi sl Q I f g pl a h;obtain⟨z,rfl,m,q⟩:=h;obtain⟨t,rfl⟩:=f;have key:∀(l u:Option _),partValue l=c->partValue u=e->l.map (·.1)=lo->u.map (·.1)=hi->wpAny (model X.prog X.w) X.A (aiy (.str z t) (.ref sl)) (EP X cc σ Q) X.xe s:=by
  rintro l u rfl rfl rfl rfl
  refine wpAny_getItem_str_slice (st:=ar) g rfl (post_val_or_str ⟨bG (Txt.slice_le z _ _) m,λn k=>⟨.str _,H,I.tok k,⟨_,rfl⟩,q⟩⟩)
 refine⟨fx,_,F.slot_str_getitem.lookup,ajJ _ _ _,?_⟩;cases pl with
 |none=>
  cases a with
  |none=>exact key ar ar rfl rfl rfl rfl
  |int j u=>exact key ar (aa (j,u)) rfl rfl rfl rfl
 |int i b=>
  cases a with
  |none=>exact key (aa (i,b)) ar rfl rfl rfl rfl
  |int j u=>exact key (aa (i,b)) (aa (j,u)) rfl rfl rfl rfl
end
def ig (K:af)(mg:aY->Option ai)(x:aY)(st:cZ):Prop:=∃f fd,vZ K x x st f fd/\mg x=aa (.ref f)
def lW (P:bc)(w:bJ)(K:af)(mg:aY->Option ai)(cq:aC)(k:Nat)(x:aY)(a:List aY)(sp:Sp):Prop:=
 ∃f fd,mg x=aa (.ref f)/\dV K (.ref f)=ag/\Binds K fd a []/\j9 P w K mg cq rW k f fd a sp
def RG{K:af}(X:K.In h)(G:h.Ns bf mg){st:cZ}{kV doc pm iQ ct:ai}
(a:bz K bf x=aa (aa (.ref f)))(l:K.lookup f=aa ⟨oc,od,.func (dy x x (jT st) (iZ st) (iE st) .none kV doc pm an iQ ct),Ot⟩)
(c:W.codeIn K iQ x=ag)(k:dV K (.ref f)=ag):ig K mg x st:=⟨f,_,Ry l c k,cP X G a⟩
section
variable {K:af}
def ig.has{st:cZ}(F:ig K mg x st)(S:jP N b (iE st))
(hb:∀(kV doc pm:ai) (an:Option aw) (iQ ct:ai) (us:List ai),us.length=b.length->dI (dy x x (jT st) (iZ st) (iE st) .none kV doc pm an iQ ct) ⟨us,[]⟩=pure (b.zip us))
(len:∀a H Q E,sp a H Q E->a.length=b.length)
(c:∀(f:aw) (iQ:ai) (A:bH) (cv:List aie) (s:av) (H:Hp) (a:List V) (Q:VK) (E:XK),jd k (A.deeper (dZ x (iE st) s.heap.objs.size f iQ))->sp a H Q E->
   ∃t,xu (qZ rW P w K mg cq N x (iE st) f iQ A cv s H E).DY (iZ st) t/\t {nx:=λ_ e=>Q .non e,rt:=Q} (start N a) H):lW P w K mg cq (k+1) x b sp:=by obtain⟨f,fd,F,m⟩:=F;exact⟨f,fd,m,F.kp,F.binds hb,F.ok S len (c f)⟩
theorem lW.mono(h:lW P w K mg cq j x a sp)(c:j<=k):lW P w K mg cq k x a sp:=by obtain⟨f,fd,m,kp,b,F⟩:=h;exact⟨f,fd,m,kp,b,F.mono c⟩
end
section
variable {X:Cx} {k:Nat} {es:List bI} {t:TA}
def ad2(h:lW X.prog X.w X.K X.mg X.cq k x ps sp)(a:jd k X.A)(ha:PA X (e::es) t)(c:Gl X x:=by rfl)(g:(x==(fk:aY))=au:=by decide)
(i:bg (e::es) X.env=(au,eval e X.env)::bg es X.env:=by rfl)(j:(du pos (bg es X.env)).any (·.1)=au:=by rfl):
  PE X (.Call (.Name x p) (e::es) [] pos) (YJ sp [] E0 t):=by obtain⟨f,fd,m,kp,b,F⟩:=h;exact VC F a c m kp b .nil Rx ha g i j
end
def Bi(h:H p=ar):jC H (upd H p o):=λb u e=>by rw[hZ (jr e h)];exact e
section
variable {K:af}
def ig.hasB{st:cZ}(F:ig K mg x st)(c:iZ st=body)(es:iE st=scope)(S:jP N b scope)
(hb:∀(kV doc pm:ai) (an:Option aw) (iQ ct:ai) (us:List ai),us.length=b.length->dI (dy x x (jT st) (iZ st) (iE st) .none kV doc pm an iQ ct) ⟨us,[]⟩=pure (b.zip us))
(len:∀a H Q E,sp a H Q E->a.length=b.length)
(e:∀(f:aw) (iQ:ai) (A:bH) (cv:List aie) (s:av) (H:Hp) (a:List V) (Q:VK) (E:XK),jd k (A.deeper (dZ x scope s.heap.objs.size f iQ))->sp a H Q E->
   ∃t,xu (qZ rW P w K mg cq N x scope f iQ A cv s H E).DY body t/\t {nx:=λ_ g=>Q .non g,rt:=Q} (start N a) H):lW P w K mg cq (k+1) x b sp:=by subst c es;exact F.has S hb len e
end
structure QE(X:Cx)(e:bI)(t:TE):Prop where p:PE X e t
structure QT(X:Cx)(e:bI)(t:TT):Prop where p:PT X e t
structure QW(X:Cx)(e:bI)(t:TT):Prop where p:PW X e t
structure QA(X:Cx)(es:List bI)(t:TA):Prop where p:PA X es t
structure QS(X:Cx)(st:cZ)(t:TS):Prop where p:PS X st t
structure QB(X:Cx)(st:List cZ)(t:TS):Prop where p:xu X st t
structure QG(X:Cx)(tg:bI)(g:TG):Prop where p:PG X tg g
structure QGs(X:Cx)(tg:List bI)(g:TGs):Prop where p:QY X tg g
structure QI(X:Cx)(tg iter:bI)(wi:TI):Prop where p:PI X tg iter wi
structure QF(X:Cx)(ifs:List bI)(t:TT):Prop where p:PIf X ifs t
structure QO(X:Cx)(e:Option bI)(t:TO):Prop where p:PO X e t
structure ROp(X:Cx)(op:ai8)(r:R2):Prop where p:rS X (binaryOp op) r
structure ahW(X:Cx)(op:CmpOp)(r:R2):Prop where p:rS X (compareOp op) r
structure RUn(X:Cx)(op:UnaryOp)(r:V->Hp->VK->Prop):Prop where p:UnR X (unaryOp op) r
structure RB(X:Cx)(id:String)(r:List V->Hp->VK->Prop):Prop where p:lV X (.builtin id) r
structure RTy(X:Cx)(T:String)(r:List V->Hp->VK->Prop):Prop where p:lV X (.type T) r
structure RIx(X:Cx)(r:R2):Prop where p:IxR X r
structure RSl(X:Cx)(r:V->Option Int->Option Int->Hp->VK->Prop):Prop where p:U4 X r
structure RMt(X:Cx)(id:String)(r:V->List V->Hp->VK->Prop):Prop where p:MtR X id r
section
variable {es rest:List bI} {t:TS}
end
section
variable {K:af}
def ig.aaK{st:cZ}(F:ig K mg x st)(c:iZ st=body)(es:iE st=scope)(S:jP N b scope)
(hb:∀(kV doc pm:ai) (an:Option aw) (iQ ct:ai) (us:List ai),us.length=b.length->dI (dy x x (jT st) (iZ st) (iE st) .none kV doc pm an iQ ct) ⟨us,[]⟩=pure (b.zip us))
(len:∀a H Q E,sp a H Q E->a.length=b.length)
(e:∀(f:aw) (iQ:ai) (A:bH) (cv:List aie) (s:av) (H:Hp) (a:List V) (Q:VK) (E:XK),jd k (A.deeper (dZ x scope s.heap.objs.size f iQ))->sp a H Q E->
   ∃t,QB (qZ rW P w K mg cq N x scope f iQ A cv s H E).DY body t/\t {nx:=λ_ g=>Q .non g,rt:=Q} (start N a) H):lW P w K mg cq (k+1) x b sp:=
 F.hasB c es S hb len λf iQ A cv s H a Q E i h=>let⟨t,q,z⟩:=e f iQ A cv s H a Q E i h;⟨t,q.p,z⟩
def vZ.aaL{st:cZ}(F:vZ K x x st f fd)
(h:∀(kV doc pm:ai) (an:Option aw) (iQ ct:ai) (u:ai),dI (dy x x (jT st) (iZ st) (iE st) .none kV doc pm an iQ ct) ⟨[u],[]⟩=pure [(y,u)]):∀(s:av) (v:ai),aiS s fd ⟨[v],[]⟩ [(y,v)]:=by obtain⟨oc,od,kV,doc,pm,an,iQ,ct,Ot,rfl,lk,a⟩:=F.ex;exactλs v=>.of_eq (h kV doc pm an iQ ct v)
end
open PySem.W
noncomputable def xG(c:aw)(q:aY):HO:=.ext λh=>h.CodeRec (.ref c) q
structure MK(q:aY)(H:Hp)(ps:Array ai):Prop where
 ok:gv ps.toList
 cs:∀pos v,air pos ps.toList=aa v->∃c,v=.ref c/\H c=aa (xG c q)
def tI (P:aw)(q:aY)(H a:Hp):Prop:=(∃b,a P=aa (.xt b)/\MK q a b)/\(a=H\/∃c b,H c=ar/\c≠P/\a=upd (upd H c (xG c q)) P (.xt b))
end L2
namespace L3
open L2
@[reducible] def tR:Option HO->Option HO
 |some (.xt _)=>ar
 |some (.ext _)=>ar
 |o=>o
def RH(h:tR x=aa o):x=aa o/\tR (aa o)=aa o:=by
 cases x with
 |none=>cases h
 |some y=>cases y<;>first|(cases h;done)|(cases h;exact⟨rfl,rfl⟩)
def Bj(h:tR x≠ar):x≠ar:=λz=>h (by rw[z])
noncomputable def V4:List aY:=[gc]
noncomputable def aaM(x:aY):aY:=x++".<locals>."++hY
def Tb (K:af)(H:Hp):Prop:=∀x∈V4,∀c P,W.tabIn K x=aa (c,P)->∃a,H P=aa (.xt a)/\MK (aaM x) H a
def Tb.imp{K:af}(t:Tb K H)(h:∀b o,H b=aa o->tR (aa o)=ar->a b=aa o):Tb K a:=λx f c P e=>by obtain⟨g,i,j,m⟩:=t x f c P e;refine⟨g,h _ _ i rfl,j,λpos v n=>?_⟩;obtain⟨p,e1,e2⟩:=m pos v n;exact⟨p,e1,h _ _ e2 rfl⟩
def Tb.same{K:af}(t:Tb K H)(h:jC H a):Tb K a:=t.imp λb o e _=>h b o e
theorem Tb.upd{K:af}(t:Tb K H)(h:tR (H p)≠ar\/H p=ar):Tb K (upd H p x):=t.imp λb o e v=>by
 rw[hZ λz=>?_]
 .exact e
 .subst z;rcases h with h|h
  .rw[e] at h;exact h v
  .rw[h] at e;cases e
inductive D where
 |non|bl (b:Bool)|int (i:Int)|str (x:aY)|ty (n:String)
 |tup (ds:List D)|lst (ds:List D)|jD (ks:List Key) (ds:List D)
 |ins (C:aw) (ns:List aY) (ds:List D)|p6 (ns:List Int)|loc (k:Nat)|cls (C:aw)|exc (C:aw) (ns:List aY) (ds:List D)
inductive OD where
 |lst (ds:List D)|jD (ks:List Key) (ds:List D)|ins (C:aw) (ns:List aY) (ds:List D)|fz (k ep:Nat) (ks:List Key) (ds:List D)
abbrev Ms:=List (Option OD)
mutual
def Rep (K:af) (α:List aw) (H:Hp):D->V->Prop
 |.non,v=>v=.non
 |.bl b,v=>v=.bl b
 |.int i,v=>v=.int i
 |.str x,v=>v=.str x
 |.ty n,v=>v=.ty n
 |.tup ds,v=>∃a c,v=.ref a/\wj K H a c/\hW K α H ds c
 |.lst ds,v=>∃a c,v=.ref a/\H a=aa (.lst c)/\hW K α H ds c
 |.p6 ns,v=>∃a,v=.ref a/\l9 K H a (ns.map V.int)
 |.jD e ds,v=>∃a c,v=.ref a/\Rd H a (.dK (e.zip c))/\e.length=ds.length/\hW K α H ds c
 |.ins C ns ds,v=>∃a f c,v=.ref a/\H a=aa (.ins C f (ns.zip c))/\ns.length=ds.length/\hW K α H ds c
 |.loc k,v=>∃a,α[k]?=aa a/\v=.ref a
 |.cls C,v=>v=.ref C
 |.exc C ns ds,v=>∃a c,v=.ref a/\H a=aa (.xc C (ns.zip c))/\ns.length=ds.length/\hW K α H ds c
def hW (K:af) (α:List aw) (H:Hp):List D->List V->Prop
 |[],c=>c=[]
 |d::ds,c=>∃v r,c=v::r/\Rep K α H d v/\hW K α H ds r
end
def lX{K:af}(e:jC H b)(h:wj K H a xs):wj K b a xs:=by
 rcases h with(h|⟨o,h⟩)|h
 .exact .inl (.inl (e _ _ h))
 .exact .inl (.inr ⟨o,e _ _ h⟩)
 .exact .inr h
def kE{K:af}(e:jC H b)(h:l9 K H a xs):l9 K b a xs:=by
 rcases h with(h|⟨o,h⟩)|h
 .exact .inl (.inl (e _ _ h))
 .exact .inl (.inr ⟨o,e _ _ h⟩)
 .exact .inr h
def Fg(e:jC H b)(h:Rd H a u):Rd b a u:=by
 rcases h with h|⟨o,h⟩
 .exact .inl (e _ _ h)
 .exact .inr ⟨o,e _ _ h⟩
def ML(p:α <+: β){k:Nat}{a:aw}(h:α[k]?=aa a):β[k]?=aa a:=by obtain⟨t,rfl⟩:=p;have:=(ak.mp h).1;rw[aX this];exact h
mutual
theorem Rep.mono {K:af} {α β:List aw} {H c:Hp} (p:α <+: β) (e:jC H c):∀(d:D) (v:V),Rep K α H d v->Rep K β c d v
 |.non,v,h=>by unfold Rep at h |-;exact h
 |.bl _,v,h=>by unfold Rep at h |-;exact h
 |.int _,v,h=>by unfold Rep at h |-;exact h
 |.str _,v,h=>by unfold Rep at h |-;exact h
 |.ty _,v,h=>by unfold Rep at h |-;exact h
 |.tup ds,v,h=>by unfold Rep at h |-;obtain⟨a,b,r,q,z⟩:=h;exact⟨a,b,r,lX e q,hW.mono p e ds b z⟩
 |.lst ds,v,h=>by unfold Rep at h |-;obtain⟨a,b,r,q,z⟩:=h;exact⟨a,b,r,e _ _ q,hW.mono p e ds b z⟩
 |.p6 ns,v,h=>by unfold Rep at h |-;obtain⟨a,r,q⟩:=h;exact⟨a,r,kE e q⟩
 |.jD g ds,v,h=>by unfold Rep at h |-;obtain⟨a,b,r,q,l,z⟩:=h;exact⟨a,b,r,Fg e q,l,hW.mono p e ds b z⟩
 |.ins C ns ds,v,h=>by unfold Rep at h |-;obtain⟨a,f,b,r,q,l,z⟩:=h;exact⟨a,f,b,r,e _ _ q,l,hW.mono p e ds b z⟩
 |.exc C ns ds,v,h=>by unfold Rep at h |-;obtain⟨a,b,r,q,l,z⟩:=h;exact⟨a,b,r,e _ _ q,l,hW.mono p e ds b z⟩
 |.loc k,v,h=>by unfold Rep at h |-;obtain⟨a,r,q⟩:=h;exact⟨a,ML p r,q⟩
 |.cls _,v,h=>by unfold Rep at h |-;exact h
theorem hW.mono {K:af} {α β:List aw} {H c:Hp} (p:α <+: β) (e:jC H c):∀(ds:List D) (b:List V),hW K α H ds b->hW K β c ds b
 |[],b,h=>by unfold hW at h |-;exact h
 |d::ds,b,h=>by unfold hW at h |-;obtain⟨v,r,q,z,y⟩:=h;exact⟨v,r,q,Rep.mono p e d v z,hW.mono p e ds r y⟩
end
section
variable {K:af}
theorem hW.length:∀(ds:List D) (a:List V),hW K α H ds a->ds.length=a.length
 |[],a,h=>by rw[h];rfl
 |d::ds,a,h=>by obtain⟨v,r,rfl,_,y⟩:=h;rw[aU,aU,hW.length ds r y]
theorem hW.get:∀(ds:List D) (a:List V) (i:Nat) (d:D),hW K α H ds a->ds[i]?=aa d->∃v,a[i]?=aa v/\Rep K α H d v
 |[],a,i,d,h,e=>by simp at e
 |x::ds,a,0,d,h,e=>by obtain⟨v,r,rfl,z,_⟩:=h;simp at e;subst e;exact⟨v,rfl,z⟩
 |x::ds,a,i+1,d,h,e=>by obtain⟨v,r,rfl,_,y⟩:=h;obtain⟨u,b,c⟩:=hW.get ds r i d y (by simpa using e);exact⟨u,by simpa using b,c⟩
theorem hW.get':∀(ds:List D) (a:List V) (i:Nat) (v:V),hW K α H ds a->a[i]?=aa v->∃d,ds[i]?=aa d/\Rep K α H d v
 |[],a,i,d,h,e=>by subst h;simp at e
 |x::ds,a,0,d,h,e=>by obtain⟨v,r,rfl,z,_⟩:=h;simp at e;subst e;exact⟨x,rfl,z⟩
 |x::ds,a,i+1,d,h,e=>by obtain⟨v,r,rfl,_,y⟩:=h;obtain⟨u,b,c⟩:=hW.get' ds r i d y (by simpa using e);exact⟨u,by simpa using b,c⟩
theorem hW.append:∀(ds es:List D) (a us:List V),hW K α H ds a->hW K α H es us->hW K α H (ds++es) (a++us)
 |[],es,a,us,h,g=>by subst h;exact g
 |d::ds,es,a,us,h,g=>by obtain⟨v,r,rfl,z,y⟩:=h;exact⟨v,_,rfl,z,hW.append ds es r us y g⟩
def hW.nil:hW K α H [] []:=by rfl
def hW.cons(q:Rep K α H d v)(h:hW K α H ds a):hW K α H (d::ds) (v::a):=by exact⟨v,a,rfl,q,h⟩
def hW.one(q:Rep K α H d v):hW K α H [d] [v]:=hW.cons q hW.nil
theorem hW.take:∀(n:Nat) (ds:List D) (a:List V),hW K α H ds a->hW K α H (ds.take n) (a.take n)
 |0,ds,a,h=>by simpa using hW.nil
 |n+1,[],a,h=>by subst h;simpa using hW.nil
 |n+1,d::ds,a,h=>by obtain⟨v,r,rfl,z,y⟩:=h;exact hW.cons z (hW.take n ds r y)
theorem hW.drop:∀(n:Nat) (ds:List D) (a:List V),hW K α H ds a->hW K α H (ds.drop n) (a.drop n)
 |0,ds,a,h=>h
 |n+1,[],a,h=>by subst h;simpa using hW.nil
 |n+1,d::ds,a,h=>by obtain⟨v,r,rfl,z,y⟩:=h;exact hW.drop n ds r y
theorem hW.set{d:D}{v:V}(q:Rep K α H d v):∀(i:Nat) (ds:List D) (a:List V),hW K α H ds a->hW K α H (ds.set i d) (a.set i v)
 |i,[],a,h=>by unfold hW at h;subst h;simpa using hW.nil
 |0,x::ds,a,h=>by unfold hW at h;obtain⟨u,r,rfl,z,y⟩:=h;exact hW.cons q y
 |i+1,x::ds,a,h=>by unfold hW at h;obtain⟨u,r,rfl,z,y⟩:=h;exact hW.cons z (hW.set q i ds r y)
theorem hW.of_map{β:Type}(f:β->D)(g:β->V)(h:∀a,Rep K α H (f a) (g a)):∀l:List β,hW K α H (l.map f) (l.map g)
 |[]=>hW.nil
 |a::l=>hW.cons (h a) (hW.of_map f g h l)
theorem hW.rep(h:hW K α H ds a):∀k:Nat,hW K α H (bW k ds).flatten (bW k a).flatten
 |0=>hW.nil
 |k+1=>by exact hW.append _ _ _ _ h (hW.rep h k)
theorem hW.at(h:hW K α H ds a)(e:C8 ds i=aa d):∃v,C8 a i=aa v/\Rep K α H d v:=by
 unfold C8 at e |-;rw[<-hW.length _ _ h];cases q:U5 _ i with
 |none=>rw[q] at e;cases e
 |some j=>
  rw[q] at e;exact hW.get ds a j d h e
def i8:Rep K α H (.int i) (.int i):=by rfl
def jb:Rep K α H (.bl i) (.bl i):=by rfl
def oI:Rep K α H (.str i) (.str i):=by rfl
def V5:Rep K α H (.cls C) (.ref C):=by rfl
def oJ:Rep K α H .non .non:=by rfl
def aaN:Rep K α H (.ty n) (.ty n):=by rfl
end
noncomputable def kN(A:List aw)(H:Hp):Hp:=λb=>if b∈A then ar else tR (H b)
def ku(h:p∉A):kN A H p=tR (H p):=by unfold kN;rw[if_neg h]
def oK(h:p∈A):kN A H p=ar:=by unfold kN;rw[if_pos h]
def pc(h:kN A H p=aa o):p∉A/\H p=aa o/\tR (aa o)=aa o:=by
 by_cases z:p∈A
 .rw[oK z] at h;cases h
 .rw[ku z] at h;exact⟨z,RH h⟩
def iG(h:kN A H p=aa o):p∉A/\H p=aa o:=⟨(pc h).1,(pc h).2.1⟩
def ip:jC (kN A H) H:=λb o e=>(iG e).2
def jz(h:p∉A)(e:H p=aa o)(v:tR (aa o)=aa o):kN A H p=aa o:=by rw[ku h,e];exact v
def kX(h:kN A H b=aa o)(hb:b∉B)(e:a b=aa o):kN B a b=aa o:=jz hb e (pc h).2.2
def Eh(h:jC H a):jC (kN A H) (kN A a):=λb o e=>kX e (iG e).1 (h b o (iG e).2)
noncomputable def lv:List aw->Ms->List aw
 |a::α,aa _::M=>a::lv α M
 |_::α,ar::M=>lv α M
 |_,_=>[]
theorem mh:∀{α:List aw} {M:Ms} {a:aw},a∈lv α M↔∃(k:Nat) (o:OD),α[k]?=aa a/\M[k]?=aa (aa o)
 |[],M,a=>by cases M<;>simp[lv]
 |b::α,[],a=>by simp[lv]
 |b::α,aa x::M,a=>by
  simp only [lv,aH,mh];constructor
  .rintro(rfl|⟨k,o,c,e⟩)
   .exact⟨0,x,rfl,rfl⟩
   .exact⟨k+1,o,by simpa using c,by simpa using e⟩
  .rintro⟨k,o,c,e⟩
   cases k with
   |zero=>left;simpa using c.symm
   |succ k=>right;exact⟨k,o,by simpa using c,by simpa using e⟩
 |b::α,ar::M,a=>by
  simp only [lv,mh];constructor
  .rintro⟨k,o,c,e⟩
   exact⟨k+1,o,by simpa using c,by simpa using e⟩
  .rintro⟨k,o,c,e⟩
   cases k with
   |zero=>simp at e
   |succ k=>exact⟨k,o,by simpa using c,by simpa using e⟩
abbrev jo(F α:List aw)(M:Ms)(H:Hp):Hp:=kN (lv α M++F) H
def Am (K:af)(α:List aw)(e H:Hp):OD->aw->Prop
 |.lst ds,a=>∃b,H a=aa (.lst b)/\hW K α e ds b
 |.jD c ds,a=>∃b,H a=aa (.dK (c.zip b))/\c.length=ds.length/\hW K α e ds b
 |.ins C ns ds,a=>∃f b,H a=aa (.ins C f (ns.zip b))/\ns.length=ds.length/\hW K α e ds b
 |.fz k g c ds,a=>α[k]?=aa a/\∃b,H a=aa (.dE g (c.zip b))/\c.length=ds.length/\hW K α e ds b
structure OK(K:af)(F α:List aw)(H:Hp)(M:Ms):Prop where
 ml:α.length=M.length
 nd:α.Nodup
 fr:∀a∈F,a∉α/\tR (H a)≠ar
 al:∀a∈α,tR (H a)≠ar
 own:∀(k:Nat) o,M[k]?=aa (aa o)->∃a,α[k]?=aa a/\Am K α (jo F α M H) H o a
 tb:Tb K H
structure Ext(F α:List aw)(H:Hp)(M:Ms)(iB:List aw)(H':Hp)(M':Ms):Prop where
 pre:α <+: iB
 same:jC (jo F α M H) (jo F iB M' H')
 fr:∀a∈F,H' a=H a
abbrev lY:=List (Option D)
structure R(K:af)(F α:List aw)(H:Hp)(σ:L2.St)(δ:lY)(M:Ms):Prop where
 ok:OK K F α H M
 len:σ.length=δ.length
 sl:∀(i:Nat) d,δ[i]?=aa (aa d)->∃v,σ[i]?=aa (aa v)/\Rep K α (jo F α M H) d v
section
variable {K:af} {α:List aw} {M:Ms} {σ:L2.St} {δ:lY}
theorem Ext.refl:Ext F α H M α H M:=⟨aV _,jC.refl _,λ_ _=>rfl⟩
theorem Ext.trans(e:Ext F α H M iB H' M')(e':Ext F iB H' M' RI H'' AJ):Ext F α H M RI H'' AJ:=
 ⟨e.pre.trans e'.pre,e.same.trans e'.same,λa h=>(e'.fr a h).trans (e.fr a h)⟩
def Ext.rep(e:Ext F α H M iB H' M')(h:Rep K α (jo F α M H) d v):Rep K iB (jo F iB M' H') d v:=Rep.mono e.pre e.same d v h
def Ext.Bk(e:Ext F α H M iB H' M')(h:hW K α (jo F α M H) d v):hW K iB (jo F iB M' H') d v:=hW.mono e.pre e.same d v h
def R.grow(r:R K F α H σ δ M)(e:Ext F α H M iB H' M')(o:OK K F iB H' M'):R K F iB H' σ δ M':=
 ⟨o,r.len,λi d q=>by obtain⟨v,a,b⟩:=r.sl i d q;exact⟨v,a,e.rep b⟩⟩
def OK.live(o:OK K F α H M):∀a∈lv α M,H a≠ar:=λa ha=>by
 obtain⟨k,x,f,g⟩:=mh.mp ha;obtain⟨b,e,r⟩:=o.own k x g;rw[f] at e;cases e;cases x with
 |lst ds=>obtain⟨c,e,_⟩:=r;rw[e];exactλz=>by cases z
 |jD h ds=>obtain⟨c,e,_⟩:=r;rw[e];exactλz=>by cases z
 |ins C ns ds=>obtain⟨i,c,e,_⟩:=r;rw[e];exactλz=>by cases z
 |fz k j h ds=>obtain⟨_,c,e,_⟩:=r;rw[e];exactλz=>by cases z
def OK.new(o:OK K F α H M)(h:H p=ar):p∉lv α M++F:=λz=>by
 rcases bt.mp z with z|z
 .exact o.live p z h
 .exact(o.fr p z).2 (by rw[h])
theorem Am.tR(r:Am K α f H x a):tR (H a)≠ar:=by
 cases x with
 |lst ds=>obtain⟨b,e,_⟩:=r;rw[e];exactλz=>by cases z
 |jD c ds=>obtain⟨b,e,_⟩:=r;rw[e];exactλz=>by cases z
 |ins C ns ds=>obtain⟨g,b,e,_⟩:=r;rw[e];exactλz=>by cases z
 |fz k h c ds=>obtain⟨_,b,e,_⟩:=r;rw[e];exactλz=>by cases z
def Am.some{c:Hp}{x:OD}{a:aw}(r:Am K α c H x a):H a≠ar:=by
 cases x with
 |lst ds=>obtain⟨b,e,_⟩:=r;rw[e];exactλz=>by cases z
 |jD f ds=>obtain⟨b,e,_⟩:=r;rw[e];exactλz=>by cases z
 |ins C ns ds=>obtain⟨g,b,e,_⟩:=r;rw[e];exactλz=>by cases z
 |fz k h f ds=>obtain⟨_,b,e,_⟩:=r;rw[e];exactλz=>by cases z
def OK.MN(o:OK K F α H M):∀a∈lv α M,tR (H a)≠ar:=λa ha=>by obtain⟨k,x,c,f⟩:=mh.mp ha;obtain⟨b,e,r⟩:=o.own k x f;rw[c] at e;cases e;exact r.tR
theorem Am.mono(p:α <+: iB)(e:jC f c)(ha:H' a=H a)(h:Am K α f H o a):Am K iB c H' o a:=by
 cases o with
 |lst ds=>obtain⟨b,q,r⟩:=h;exact⟨b,by rw[ha];exact q,hW.mono p e _ _ r⟩
 |jD i ds=>obtain⟨b,q,l,r⟩:=h;exact⟨b,by rw[ha];exact q,l,hW.mono p e _ _ r⟩
 |ins C ns ds=>obtain⟨j,b,q,l,r⟩:=h;exact⟨j,b,by rw[ha];exact q,l,hW.mono p e _ _ r⟩
 |fz k m i ds=>
  obtain⟨g,b,q,l,r⟩:=h;exact⟨by obtain⟨β,rfl⟩:=p;rw[aX (ak.mp g).1];exact g,b,by rw[ha];exact q,l,hW.mono p e _ _ r⟩
def OK.grow(o:OK K F α H M)(s:jC H H'):OK K F α H' M/\Ext F α H M α H' M:=by
 have rJ:∀a,H a≠ar->H' a=H a:=λa h=>by
  cases e:H a with
  |none=>exact absurd e h
  |some x=>exact s a x e
 refine⟨⟨o.ml,o.nd,λa ha=>⟨(o.fr a ha).1,by rw[rJ a (Bj (o.fr a ha).2)];exact(o.fr a ha).2⟩,λa ha=>by rw[rJ a (Bj (o.al a ha))];exact o.al a ha,λk x h=>?_,o.tb.same s⟩,⟨aV _,(Eh s),λa ha=>rJ a (Bj (o.fr a ha).2)⟩⟩;obtain⟨a,e,r⟩:=o.own k x h;exact⟨a,e,r.mono (aV _) (Eh s) (rJ a (o.live a (mh.mpr ⟨k,x,e,h⟩)))⟩
def OK.laid(o:OK K F α H M)(h:H p=ar):OK K F α (upd H p x) M/\Ext F α H M α (upd H p x) M:=o.grow (Bi h)
theorem vt:∀{α β:List aw} {M N:Ms},α.length=M.length->lv (α++β) (M++N)=lv α M++lv β N
 |[],β,[],N,_=>by simp[lv]
 |a::α,β,aa x::M,N,h=>by have:=vt (β:=β) (N:=N) (by simpa using h);simp[lv,this]
 |a::α,β,ar::M,N,h=>by have:=vt (β:=β) (N:=N) (by simpa using h);simp[lv,this]
def OK.Bl(o:OK K F α H M)(h:H p=ar)(s:jC H H'):jC (jo F α M H) (jo F (α++[p]) (M++[aa x]) H'):=λb y q=>by
 have a:lv (α++[p]) (M++[aa x])=lv α M++[p]:=by rw[vt o.ml];rfl
 have c:=q;obtain⟨z,q⟩:=iG q;have hb:b≠p:=λz=>by rw[z,h] at q;cases q
 show kN _ H' b=_;rw[a];refine kX c (λw=>?_) (s b y q)
 .simp only [bt,bj] at w z;rcases w with(w|w)|w
  .exact z (.inl w)
  .exact hb w
  .exact z (.inr w)
def OK.enter(o:OK K F α H M)(h:H p=ar)(s:jC H H')(r:Am K (α++[p]) (jo F (α++[p]) (M++[aa x]) H') H' x p):
  OK K F (α++[p]) H' (M++[aa x])/\Ext F α H M (α++[p]) H' (M++[aa x]):=by
 have m:=λz=>o.al p z (by rw[h]);obtain⟨f,e'⟩:=o.grow s;have g:=o.Bl (x:=x) h s;have pf:=λz=>(o.fr p z).2 (by rw[h]);refine⟨⟨by simp[o.ml],by rw[dB];exact⟨o.nd,by simp,λa ha b hb=>by simp at hb;subst hb;exactλz=>m (z▸ha)⟩,λa ha=>⟨λz=>?_,(f.fr a ha).2⟩,λa ha=>?_,λk y c=>?_,f.tb⟩,⟨cO _ _,g,e'.fr⟩⟩
 .rcases bt.mp z with z|z
  .exact(o.fr a ha).1 z
  .simp at z;subst z;exact pf ha
 .rcases bt.mp ha with z|z
  .exact f.al a z
  .simp at z;subst z;exact r.tR
 .by_cases i:k<M.length
  .rw[aX i] at c;obtain⟨a,j,n⟩:=o.own k y c;refine⟨a,by rw[aX (by rw[o.ml];exact i)];exact j,n.mono (cO _ _) g ?_⟩;cases e:H a with
   |none=>exact absurd e (o.live a (mh.mpr ⟨k,y,j,c⟩))
   |some z=>exact s a z e
  .have:k=M.length:=by have:=(ak.mp c).1;simp at this;exact Nat.le_antisymm (Nat.le_of_lt_succ this) (Nat.le_of_not_lt i)
   subst this;simp at c;subst c;exact⟨p,by rw[<-o.ml];simp,r⟩
theorem KH:∀{α:List aw} {M:Ms} {k:Nat} {x y:OD},M[k]?=aa (aa x)->lv α (M.set k (aa y))=lv α M
 |[],M,k,x,y,h=>by cases M<;>cases k<;>simp[lv]
 |a::α,[],k,x,y,h=>by simp at h
 |a::α,aa z::M,0,x,y,h=>by simp[lv]
 |a::α,ar::M,0,x,y,h=>by simp at h
 |a::α,aa z::M,k+1,x,y,h=>by simp only [gG,lv];rw[KH (by simpa using h)]
 |a::α,ar::M,k+1,x,y,h=>by simp only [gG,lv];exact KH (by simpa using h)
def OK.write(o:OK K F α H M)(f:M[k]?=aa (aa x))(ha:α[k]?=aa a)(r:∀m,m=jo F α M H->Am K α m (upd H a z) y a):
  OK K F α (upd H a z) (M.set k (aa y))/\Ext F α H M α (upd H a z) (M.set k (aa y)):=by
 have q:lv α (M.set k (aa y))=lv α M:=KH f;have hm:=mh.mpr ⟨k,x,ha,f⟩;have g:jo F α (M.set k (aa y)) (upd H a z)=jo F α M H:=by
  funext b;show kN _ _ b=kN _ _ b;rw[q];by_cases hb:b∈lv α M++F
  .rw[oK hb,oK hb]
  .rw[ku hb,ku hb,hZ (λe=>hb (by rw[e];exact bV _ hm))]
 have n:=λw=>(o.fr a w).1 (bA ha);refine⟨⟨by simp[o.ml],o.nd,λb hb=>⟨(o.fr b hb).1,by rw[hZ (λe=>n (by rw[<-e];exact hb))];exact(o.fr b hb).2⟩,λb hb=>(by
  by_cases e:b=a
  .subst e;exact(r _ rfl).tR
  .rw[hZ e];exact o.al b hb),λj w c=>?_,o.tb.upd (.inl (o.al a (bA ha)))⟩,⟨aV _,by rw[g];exact jC.refl _,λb hb=>hZ (λe=>n (by rw[<-e];exact hb))⟩⟩
 have s:=(ak.mp f).1;by_cases h:j=k
 .subst h;rw[bn s] at c;cases c;exact⟨a,ha,r _ g⟩
 .rw[aJ (b8 h)] at c;obtain⟨b,p,u⟩:=o.own j w c;have i:b≠a:=λe=>h (by subst e;have v:=ak.mp ha;have A:=ak.mp p;exact(eQ o.nd).mp (A.2.trans v.2.symm))
  refine⟨b,p,?_⟩;rw[g];exact u.mono (aV _) (jC.refl _) (hZ i)
theorem R.set(r:R K F α H σ δ M){i:Nat}{d:D}{v:V}(q:Rep K α (jo F α M H) d v):R K F α H (σ.set i (aa v)) (δ.set i (aa d)) M:=by
 have c:=r.len;refine⟨r.ok,by simp[c],λj e h=>?_⟩;by_cases b:j=i
 .subst b;have a:j<δ.length:=by
   rcases Nat.lt_or_ge j _ with x|x
   .exact x
   .rw[eF (by simpa using x)] at h;cases h
  rw[bn a] at h;cases h;exact⟨v,bn (by exact c▸a),q⟩
 .rw[aJ (b8 b)] at h |-;exact r.sl j e h
end
def PE.weak(h:PE X e t)(w:∀σ H Q,a σ H Q->t σ H Q):PE X e a:=λcc s σ H Q I q=>h cc s σ H Q I (w σ H Q q)
def PT.weak(h:PT X e t)(w:∀σ H Q,a σ H Q->t σ H Q):PT X e a:=λcc s σ H Q I q=>h cc s σ H Q I (w σ H Q q)
def PW.weak(h:PW X e t)(w:∀σ H Q,a σ H Q->t σ H Q):PW X e a:=λb cc s σ H Q I q=>h b cc s σ H Q I (w σ H Q q)
def PA.weak(h:PA X e t)(w:∀σ H Q,a σ H Q->t σ H Q):PA X e a:=λpos cc s σ H Q I q=>h pos cc s σ H Q I (w σ H Q q)
def PS.weak(h:PS X e t)(w:∀D σ H,a D σ H->t D σ H):PS X e a:=λcc s σ H D I q=>h cc s σ H D I (w D σ H q)
def xu.weak(h:xu X e t)(w:∀D σ H,a D σ H->t D σ H):xu X e a:=λcc s σ H D I q=>h cc s σ H D I (w D σ H q)
abbrev DK:=D->Ms->Prop
abbrev DE:=lY->Ms->DK->Prop
abbrev DT:=lY->Ms->(Bool->Ms->Prop)->Prop
abbrev DA:=lY->Ms->(List D->Ms->Prop)->Prop
abbrev vK(K:af)(F α:List aw)(H:Hp)(M:Ms)(Q:VK):DK:=λd c=>∀v a b,Ext F α H M a b c->OK K F a b c->Rep K a (jo F a c b) d v->Q v b
abbrev bK(K:af)(F α:List aw)(H:Hp)(M:Ms)(Q:Bool->Hp->Prop):Bool->Ms->Prop:=λb c=>∀e a,Ext F α H M e a c->OK K F e a c->Q b a
abbrev aK(K:af)(F α:List aw)(H:Hp)(M:Ms)(Q:List V->Hp->Prop):List D->Ms->Prop:=λds c=>∀e a b,Ext F α H M a b c->OK K F a b c->hW K a (jo F a c b) ds e->Q e b
def lE (K:af)(t:DE):TE:=λσ H Q=>∃F α a M,R K F α H σ a M/\t a M (vK K F α H M Q)
def lT (K:af)(t:DT):TT:=λσ H Q=>∃F α a M,R K F α H σ a M/\t a M (bK K F α H M Q)
def lA (K:af)(t:DA):TA:=λσ H Q=>∃F α a M,R K F α H σ a M/\t a M (aK K F α H M Q)
structure JE(X:Cx)(e:bI)(t:DE):Prop where
 mono:∀δ M (P Q:DK),(∀d M,P d M->Q d M)->t δ M P->t δ M Q
 p:PE X e (lE X.K t)
structure JT(X:Cx)(e:bI)(t:DT):Prop where
 mono:∀δ M (P Q:Bool->Ms->Prop),(∀d M,P d M->Q d M)->t δ M P->t δ M Q
 p:PT X e (lT X.K t)
structure JW(X:Cx)(e:bI)(t:DT):Prop where
 mono:∀δ M (P Q:Bool->Ms->Prop),(∀d M,P d M->Q d M)->t δ M P->t δ M Q
 p:PW X e (lT X.K t)
structure JA(X:Cx)(es:List bI)(t:DA):Prop where
 mono:∀δ M (P Q:List D->Ms->Prop),(∀d M,P d M->Q d M)->t δ M P->t δ M Q
 p:PA X es (lA X.K t)
section
variable {K:af}
def vK.grow(e:Ext F α H M iB H' M'):∀d a,vK K F α H M Q d a->vK K F iB H' M' Q d a:=λd a h v b c e2 o2 f=>h v b c (e.trans e2) o2 f
def bK.grow(e:Ext F α H M iB H' M'):∀d a,bK K F α H M Q d a->bK K F iB H' M' Q d a:=λd a h b c e2 o2=>h b c (e.trans e2) o2
def vK.now(o:OK K F α H M)(h:vK K F α H M Q d M)(r:Rep K α (jo F α M H) d v):Q v H:=h v α H Ext.refl o r
def vK.new(o:OK K F α H M)(a:H p=ar)(h:vK K F α H M Q d M)(r:Ext F α H M α (upd H p x) M->Rep K α (jo F α M (upd H p x)) d v):Q v (upd H p x):=
 let⟨b,e'⟩:=o.laid a;h v α _ e' b (r e')
end
abbrev G2:=D->D->Ms->DK->Prop
abbrev GN:=List D->Ms->DK->Prop
def rD (K:af)(g:G2):R2:=λx y H Q=>∃F α M a b,OK K F α H M/\Rep K α (jo F α M H) a x/\Rep K α (jo F α M H) b y/\g a b M (vK K F α H M Q)
def rDs (K:af)(g:GN):List V->Hp->VK->Prop:=λxs H Q=>∃F α M ds,OK K F α H M/\hW K α (jo F α M H) ds xs/\g ds M (vK K F α H M Q)
abbrev ud(g:G2):Prop:=∀x y M (P Q:DK),(∀d M,P d M->Q d M)->g x y M P->g x y M Q
abbrev kx(g:GN):Prop:=∀xs M (P Q:DK),(∀d M,P d M->Q d M)->g xs M P->g xs M Q
structure JO(X:Cx)(op:ai8)(g:G2):Prop where
 mono:ud g
 p:rS X (binaryOp op) (rD X.K g)
structure JC(X:Cx)(op:CmpOp)(g:G2):Prop where
 mono:ud g
 p:rS X (compareOp op) (rD X.K g)
structure JX(X:Cx)(g:G2):Prop where
 mono:ud g
 p:IxR X (rD X.K g)
structure JB(X:Cx)(f:ai)(g:GN):Prop where
 mono:kx g
 p:lV X f (rDs X.K g)
abbrev GS:=D->Option Int->Option Int->Ms->DK->Prop
def agY (K:af)(g:GS):V->Option Int->Option Int->Hp->VK->Prop:=λx lo hi H Q=>∃F α M d,OK K F α H M/\Rep K α (jo F α M H) d x/\g d lo hi M (vK K F α H M Q)
structure JSl(X:Cx)(g:GS):Prop where
 mono:∀x lo hi M (P Q:DK),(∀d M,P d M->Q d M)->g x lo hi M P->g x lo hi M Q
 p:U4 X (agY X.K g)
section
variable {X:Cx} {a e:bI} {es rest:List bI}
def hV (i:Nat):DE:=λf M Q=>match f[i]? with|some (aa d)=>Q d M|_=>False
set_option tactic.hygienic true in
def j_v(i:Nat)(f:X.N[i]?=aa x:=by rfl)(g:Yv X.env.scope x:=by first|exact ah3 rfl|exact gQ (ah3 rfl)|exact gQ (gQ rfl))(hd:(x==(fk:aY))=au:=by decide)
(j:(x==(tK:aY))=au:=by decide):JE X (.Name x pos) (hV i):=by
 refine⟨λm M P Q h q=>?_,PE.weak (Ke f g hd j) λσ H Q h=>?_⟩
 .unfold hV at*;split at q
  .exact h _ _ q
  .exact q
 .obtain⟨F,α,m,M,r,h⟩:=h;unfold hV at h;split at h
  .rename_i d hd;obtain⟨v,e,q⟩:=r.sl i d hd;exact⟨v,e,vK.now r.ok h q⟩
  .exact h.elim
def dC (d:D):DE:=λ_ M Q=>Q d M
def j_c(h:PE X e (tC v))(r:∀α H,Rep X.K α H d v):JE X e (dC d):=
 ⟨λf M P Q h q=>h _ _ q,PE.weak h λσ H Q zq=>by obtain⟨F,α,f,M,g,h⟩:=zq;exact vK.now g.ok h (r _ _)⟩
def YT{i j}:JE X (.Constant (.int i) j pos) (dC (.int i)):=j_c QR λ_ _=>i8
def agZ{b j}:JE X (.Constant (.bool b) j pos) (dC (.bl b)):=j_c adx λ_ _=>jb
def ad3{j}:JE X (.Constant .none j pos) (dC .non):=j_c Z1 λ_ _=>oJ
def ad4{y j}:JE X (.Constant (.str y) j pos) (dC (.str y)):=j_c Z2 λ_ _=>oI
def RJ(hm:X.mg x=aa u)(r:RelV v u)(f:∀α H,Rep X.K α H d v)(g:Gl X x:=by rfl)(hd:(x==(fk:aY))=au:=by decide):JE X (.Name x pos) (dC d):=j_c (Vo g hm r hd) f
def V6(hm:∃t,X.mg x=aa (.int i t))(f:Gl X x:=by rfl)(hd:(x==(fk:aY))=au:=by decide):JE X (.Name x pos) (dC (.int i)):=by obtain⟨t,hm⟩:=hm;exact RJ (v:=.int i) hm ⟨t,rfl⟩ (λ_ _=>i8) f hd
def V7(hm:X.mg x=aa (.ref C))(f:Gl X x:=by rfl)(hd:(x==(fk:aY))=au:=by decide):JE X (.Name x pos) (dC (.cls C)):=RJ (v:=.ref C) hm rfl (λ_ _=>V5) f hd
def ag0(hm:X.mg x=ar)(f:bS x=aa (.type n))(g:Gl X x:=by rfl)(hn:x≠me:=by decide)(hd:(x==(fk:aY))=au:=by decide):JE X (.Name x pos) (dC (.ty n)):=
 j_c (Vp (v:=.ty n) g hm f rfl hn hd) λ_ _=>aaN
def ij (g:G2)(ta tb:DE):DE:=λf M Q=>ta f M λx M1=>tb f M1 λy M2=>g x y M2 Q
def Bm(mg:ud g)(ha:JE X a ta)(hb:JE X b tb):∀f M (P Q:DK),(∀d M,P d M->Q d M)->ij g ta tb f M P->ij g ta tb f M Q:=
 λf M P Q h q=>ha.mono f _ _ _ (λd M1 q=>hb.mono f _ _ _ (λi M2 q=>mg d i M2 P Q h q) q) q
def MQ(mg:ud g)(ha:JE X a ta)(hb:JE X b tb)(h:lE X.K (ij g ta tb) σ H Q):tOp (rD X.K g) (lE X.K ta) (lE X.K tb) σ H Q:=by
 obtain⟨F,α,f,M,r,h⟩:=h;exact⟨F,α,f,M,r,ha.mono f _ _ _ (λi M1 j v m H1 e1 o1 n=>⟨F,m,f,M1,r.grow e1 o1,hb.mono f _ _ _ (λo M2 q u s y e2 o2 w=>
  ⟨F,s,M2,i,o,o2,e2.rep n,w,mg _ _ _ _ _ (vK.grow (e1.trans e2)) q⟩) j⟩) h⟩
def ag1(o:JO X op g)(ha:JE X a ta)(hb:JE X b tb):JE X (.BinOp a op b pos) (ij g ta tb):=⟨Bm o.mono ha hb,PE.weak (YE o.p ha.p hb.p) λσ H Q h=>MQ o.mono ha hb h⟩
def YU(o:JC X op g)(ha:JE X a ta)(hb:JE X b tb)(hm:aiK op b=au:=by rfl):JE X (.Compare a [op] [b] pos) (ij g ta tb):=⟨Bm o.mono ha hb,PE.weak (Vu o.p ha.p hb.p hm) λσ H Q h=>MQ o.mono ha hb h⟩
def ad5(o:JX X g)(ha:JE X a ta)(hb:JE X b tb)(f:MH b:=by exactλ_ _=>rfl):JE X (.Subscript a b pos) (ij g ta tb):=⟨Bm o.mono ha hb,PE.weak (YM o.p ha.p hb.p f) λσ H Q h=>MQ o.mono ha hb h⟩
def ie (te:DE):DT:=λf M Q=>te f M λd M1=>match d with|.bl b=>Q b M1|_=>False
def wo(h:JE X e te):∀f M (P Q:Bool->Ms->Prop),(∀d M,P d M->Q d M)->ie te f M P->ie te f M Q:=λf M P Q w q=>h.mono f _ _ _ (λd M1 q=>by cases d<;>first|exact w _ _ q|exact q) q
def aaO(h:JE X e te)(i:∀f,ajq e X.env f=(do let v<-f;ajO e.pos;holding [v] (truthy v)):=by intro _;rfl):JT X e (ie te):=by
 refine⟨wo h,PT.weak (Z3 h.p i) λσ H Q q=>?_⟩;obtain⟨F,α,g,M,r,q⟩:=q;refine⟨F,α,g,M,r,h.mono g _ _ _ (λd M1 q v j H1 e1 o1 m=>?_) q⟩;cases d<;>first|exact q.elim|skip
 exact⟨_,m,q j H1 e1 o1⟩
def aaP(o:JC X op g)(ha:JE X a ta)(hb:JE X b tb)(hm:aiK op b=au:=by rfl):JT X (.Compare a [op] [b] pos) (ie (ij g ta tb)):=by
 have f:JE X (.Compare a [op] [b] pos) _:=YU o ha hb hm;refine⟨wo f,PT.weak (Vv o.p ha.p hb.p hm) λσ H Q q=>?_⟩;obtain⟨F,α,h,M,r,q⟩:=q;refine MQ o.mono ha hb ⟨F,α,h,M,r,f.mono h _ _ _ (λd M1 q v i H1 e1 o1 j=>?_) q⟩;cases d<;>first|exact q.elim|skip
 exact⟨_,j,q i H1 e1 o1⟩
def mT (t:DT):DT:=λf M Q=>t f M λb M1=>Q (!b) M1
def aaQ(h:JT X a tA):JT X (.UnaryOp .Not a pos) (mT tA):=
 ⟨λf M P Q w q=>h.mono f _ _ _ (λb M1 q=>w _ _ q) q,PT.weak (Z4 h.p) λσ H Q zq=>by obtain⟨F,α,f,M,r,q⟩:=zq;exact ⟨F,α,f,M,r,q⟩⟩
def YV(h:JW X e tA):JT X e tA:=⟨h.mono,h.p.pt⟩
def yR (t u:DT):DT:=λf M Q=>t f M λb M1=>if b=ag then u f M1 Q else Q au M1
def Dh (t u:DT):DT:=λf M Q=>t f M λb M1=>if b=ag then Q ag M1 else u f M1 Q
def V8(h:JT X a tA):JW X (.BoolOp .And [a] pos) tA:=⟨h.mono,pw_and1 h.p⟩
def aaR(h:JT X a tA):JW X (.BoolOp .Or [a] pos) tA:=⟨h.mono,pw_or1 h.p⟩
def RK(ha:JT X a tA)(hb:JW X (.BoolOp .And (b::rest) pos) QU):JW X (.BoolOp .And (a::b::rest) pos) (yR tA QU):=by
 refine⟨λf M P Q w q=>ha.mono f _ _ _ (λb M1 q=>?_) q,PW.weak (pw_and ha.p hb.p) λσ H Q q=>?_⟩
 .cases b with
  |true=>exact hb.mono f _ _ _ w q
  |false=>exact w _ _ q
 .obtain⟨F,α,f,M,r,q⟩:=q;refine⟨F,α,f,M,r,ha.mono f _ _ _ (λb M1 q g H1 e1 o1=>?_) q⟩;cases b with
  |true=>
   exact⟨F,g,f,M1,r.grow e1 o1,hb.mono f _ _ _ (bK.grow e1) q⟩
  |false=>
   exact q g H1 e1 o1
def YW(ha:JT X a tA)(hb:JW X (.BoolOp .Or (b::rest) pos) QU):JW X (.BoolOp .Or (a::b::rest) pos) (Dh tA QU):=by
 refine⟨λf M P Q w q=>ha.mono f _ _ _ (λb M1 q=>?_) q,PW.weak (pw_or ha.p hb.p) λσ H Q q=>?_⟩
 .cases b with
  |true=>exact w _ _ q
  |false=>exact hb.mono f _ _ _ w q
 .obtain⟨F,α,f,M,r,q⟩:=q;refine⟨F,α,f,M,r,ha.mono f _ _ _ (λb M1 q g H1 e1 o1=>?_) q⟩;cases b with
  |false=>
   exact⟨F,g,f,M1,r.grow e1 o1,hb.mono f _ _ _ (bK.grow e1) q⟩
  |true=>
   exact q g H1 e1 o1
def ue (ta tb:DE):DE:=λf M Q=>ta f M λx M1=>match x with|.bl ag=>tb f M1 Q|.bl au=>Q (.bl au) M1|_=>False
def Ei (ta:DE):DE:=λf M Q=>ta f M λx M1=>match x with|.bl b=>Q (.bl (!b)) M1|_=>False
def ad6{op}(h:JE X a te):JE X (.BoolOp op [a] pos) te:=⟨h.mono,Z5 h.p⟩
set_option tactic.hygienic true in
def ad7(ha:JE X a ta)(hb:JE X (.BoolOp .And (b::rest) pos) tb):JE X (.BoolOp .And (a::b::rest) pos) (ue ta tb):=by
 refine⟨λf M P Q w q=>ha.mono f _ _ _ (λd M1 q=>?_) q,PE.weak (Z6 ha.p hb.p) λσ H Q q=>?_⟩
 .cases d<;>first|exact q.elim|skip
  rename_i b;cases b with
  |true=>exact hb.mono f _ _ _ w q
  |false=>exact w _ _ q
 .obtain⟨F,α,f,M,r,q⟩:=q;refine⟨F,α,f,M,r,ha.mono f _ _ _ (λd M1 q v g H1 e1 o1 h=>?_) q⟩;cases d<;>first|exact q.elim|skip
  rename_i b;cases b with
  |true=>
   refine⟨ag,h,?_⟩;exact⟨F,g,f,M1,r.grow e1 o1,hb.mono f _ _ _ (vK.grow e1) q⟩
  |false=>
   refine⟨au,h,?_⟩;exact q _ g H1 e1 o1 jb
def ad8(ha:JE X a ta):JE X (.UnaryOp .Not a pos) (Ei ta):=by
 refine⟨λf M P Q w q=>ha.mono f _ _ _ (λd M1 q=>?_) q,PE.weak (Z7 ha.p) λσ H Q q=>?_⟩
 .cases d<;>first|exact q.elim|exact w _ _ q
 .obtain⟨F,α,f,M,r,q⟩:=q;refine⟨F,α,f,M,r,ha.mono f _ _ _ (λd M1 q v g H1 e1 o1 h=>?_) q⟩;cases d<;>first|exact q.elim|skip
  exact⟨_,h,q _ g H1 e1 o1 jb⟩
def dIf (t:DT)(ta tb:DE):DE:=λf M Q=>t f M λc M1=>if c=ag then ta f M1 Q else tb f M1 Q
def ag2(hc:JT X c tA)(ha:JE X a ta)(hb:JE X b tb):JE X (.IfExp c a b pos) (dIf tA ta tb):=by
 refine⟨λf M P Q w q=>hc.mono f _ _ _ (λb M1 q=>?_) q,PE.weak (QV hc.p ha.p hb.p) λσ H Q q=>?_⟩
 .cases b with
  |true=>exact ha.mono f _ _ _ w q
  |false=>exact hb.mono f _ _ _ w q
 .obtain⟨F,α,f,M,r,q⟩:=q;refine⟨F,α,f,M,r,hc.mono f _ _ _ (λb M1 q g H1 e1 o1=>?_) q⟩;cases b with
  |true=>
   exact⟨F,g,f,M1,r.grow e1 o1,ha.mono f _ _ _ (vK.grow e1) q⟩
  |false=>
   exact⟨F,g,f,M1,r.grow e1 o1,hb.mono f _ _ _ (vK.grow e1) q⟩
def mj (g i:G2)(ta tb tc:DE):DE:=λf M Q=>ta f M λx M1=>tb f M1 λy M2=>g x y M2 λz h=>match z with|.bl ag=>tc f h λw j=>i y w j Q|.bl au=>Q (.bl au) h|_=>False
set_option tactic.hygienic true in
def Hn(o:JC X op g)(i:JC X j h)(ha:JE X a ta)(hb:JE X b tb)(hc:JE X c tc):∀f M (P Q:DK),(∀d M,P d M->Q d M)->mj g h ta tb tc f M P->mj g h ta tb tc f M Q:=
 λf M P Q w q=>ha.mono f _ _ _ (λx M1 q=>hb.mono f _ _ _ (λy M2 q=>o.mono _ _ _ _ _ (λz m q=>by
  cases z<;>first|exact q.elim|skip
  rename_i k;cases k with
  |true=>exact hc.mono f _ _ _ (λu n q=>i.mono _ _ _ _ _ w q) q
  |false=>exact w _ _ q) q) q) q
set_option tactic.hygienic true in
def Ej(o:JC X op g)(y:JC X Op j)(ha:JE X a ta)(hb:JE X b tb)(hc:JE X c tc)(h:lE X.K (mj g j ta tb tc) σ H Q):Kj (rD X.K g) (rD X.K j) (lE X.K ta) (lE X.K tb) (lE X.K tc) σ H Q:=by
 obtain⟨F,α,f,M,r,h⟩:=h;refine⟨F,α,f,M,r,ha.mono f _ _ _ (λA M1 B v C H1 e1 o1 E=>⟨F,C,f,M1,r.grow e1 o1,hb.mono f _ _ _ (λm M2 G u I H2 e2 o2 n=>?_) B⟩) h⟩;refine⟨F,I,M2,A,m,o2,e2.rep E,n,o.mono _ _ _ _ _ (λd J i w q L e3 s N=>?_) G⟩;have Fh:=(e1.trans e2).trans e3;cases d<;>first|exact i.elim|skip
 rename_i k;refine⟨k,N,?_⟩;cases k with
 |false=>exact i _ q L Fh s jb
 |true=>
  refine⟨F,q,f,J,r.grow Fh s,hc.mono f _ _ _ (λdc O T z U H4 e4 Y r4=>?_) i⟩;exact⟨F,U,O,m,dc,Y,(e3.trans e4).rep n,r4,y.mono _ _ _ _ _ (vK.grow (Fh.trans e4)) T⟩
def MR(o:JC X op g)(f:JC X i j)(ha:JE X a ta)(hb:JE X b tb)(hc:JE X c tc)(hm:ajk [op,i] [b,c]=au:=by with_unfolding_all rfl):JE X (.Compare a [op,i] [b,c] pos) (mj g j ta tb tc):=
 ⟨Hn o f ha hb hc,PE.weak (Q5 o.p f.p ha.p hb.p hc.p hm) λσ H Q h=>Ej o f ha hb hc h⟩
def RL(o:JC X op g)(f:JC X h m)(ha:JE X a ta)(hb:JE X b tb)(hc:JE X c tc)(hm:ajk [op,h] [b,c]=au:=by with_unfolding_all rfl):JT X (.Compare a [op,h] [b,c] pos) (ie (mj g m ta tb tc)):=by
 have i:JE X (.Compare a _ [b,c] pos) _:=MR o f ha hb hc hm;refine⟨wo i,PT.weak (Q6 o.p f.p ha.p hb.p hc.p hm) λσ H Q q=>?_⟩;obtain⟨F,α,j,M,r,q⟩:=q;refine Ej o f ha hb hc ⟨F,α,j,M,r,i.mono j _ _ _ (λd M1 q v n H1 e1 o1 s=>?_) q⟩;cases d<;>first|exact q.elim|skip
 exact⟨_,s,q n H1 e1 o1⟩
def hX:DA:=λ_ M Q=>Q [] M
def hU (te:DE)(tt:DA):DA:=λf M Q=>te f M λx M1=>tt f M1 λxs M2=>Q (x::xs) M2
def aaS:JA X [] hX:=⟨λf M P Q w q=>w _ _ q,PA.weak E7 λσ H Q zq=>by obtain⟨F,α,f,M,r,q⟩:=zq;exact q [] α H Ext.refl r.ok hW.nil⟩
def V9(ha:JE X e te)(g:JA X es tt)(h:bg (e::es) X.env=(au,eval e X.env)::bg es X.env:=by rfl):JA X (e::es) (hU te tt):=by refine⟨λf M P Q w q=>ha.mono f _ _ _ (λx M1 q=>g.mono f _ _ _ (λxs M2 q=>w _ _ q) q) q,PA.weak (AG ha.p g.p h) λσ H Q q=>?_⟩;obtain⟨F,α,f,M,r,q⟩:=q;refine⟨F,α,f,M,r,ha.mono f _ _ _ (λd M1 q v i H1 e1 o1 j=>⟨F,i,f,M1,r.grow e1 o1,g.mono f _ _ _ (λds M2 q s m n e2 o2 o=>?_) q⟩) q⟩;exact q _ m n (e1.trans e2) o2 (hW.cons (e2.rep j) o)
def nK{K:af}{p:aw}(o:OK K F α H M)(g:H p=ar)(h:hW K α (jo F α M H) ds f)(e:Ext F α H M α (upd H p (.lst f)) M):Rep K α (jo F α M (upd H p (.lst f))) (.lst ds) (.ref p):=by exact⟨p,f,rfl,by show kN _ _ p=_;rw[ku (o.new g),il],e.Bk h⟩
def kP{K:af}{p:aw}(o:OK K F α H M)(g:H p=ar)(h:hW K α (jo F α M H) ds f)(e:Ext F α H M α (upd H p (.tup f)) M):Rep K α (jo F α M (upd H p (.tup f))) (.tup ds) (.ref p):=by exact⟨p,f,rfl,.inl (.inl (by show kN _ _ p=_;rw[ku (o.new g),il])),e.Bk h⟩
def i6 (tt:DA):DE:=λf M Q=>tt f M λds M1=>ds.length<=aO/\Q (.tup ds) M1
def ad9{j}(h:JA X es tt):JE X (.Tuple es j pos) (i6 tt):=by refine⟨λf M P Q w q=>h.mono f _ _ _ (λds M1 q=>⟨q.1,w _ _ q.2⟩) q,PE.weak (aat h.p) λσ H Q q=>?_⟩;obtain⟨F,α,f,M,r,q⟩:=q;refine⟨F,α,f,M,r,h.mono f _ _ _ (λds M1 q m n H1 e1 o1 g=>?_) q⟩;exact⟨by rw[<-hW.length ds m g];exact q.1,λp i=>vK.new o1 i (vK.grow e1 _ _ q.2) (kP o1 i g)⟩
def iJ (g:GN)(tt:DA):DE:=λf M Q=>tt f M λds M1=>g ds M1 Q
def Bn(m:kx g)(ha:JA X es tt):∀f M (P Q:DK),(∀d M,P d M->Q d M)->iJ g tt f M P->iJ g tt f M Q:=λf M P Q w q=>ha.mono f _ _ _ (λds M1 q=>m _ _ _ _ w q) q
def RM(o:JB X f g)(ha:JA X es tt)(h:lE X.K (iJ g tt) σ H Q):tCB (rDs X.K g) (lA X.K tt) σ H Q:=by obtain⟨F,α,i,M,r,h⟩:=h;exact⟨F,α,i,M,r,ha.mono i _ _ _ (λds M1 q n j H1 e1 o1 m=>⟨F,j,M1,ds,o1,m,o.mono _ _ _ _ (vK.grow e1) q⟩) h⟩
def j_b{id:String}(o:JB X (.builtin id) g)(hm:X.mg x=ar)(f:bS x=aa (.builtin id))(ha:JA X (e::es) tt)(i:Gl X x:=by rfl)(hn:x≠me:=by decide)(j:(x==(fk:aY))=au:=by decide)
(m:bg (e::es) X.env=(au,eval e X.env)::bg es X.env:=by rfl)(n:(du pos (bg es X.env)).any (·.1)=au:=by rfl):JE X (.Call (.Name x p) (e::es) [] pos) (iJ g tt):=
 ⟨Bn o.mono ha,PE.weak (Bb o.p i hm f ha.p hn j m n) λσ H Q h=>RM o ha h⟩
def j_t(o:JB X (.type T) g)(hm:X.mg x=ar)(f:bS x=aa (.type T))(ha:JA X (e::es) tt)(i:Gl X x:=by rfl)(hn:x≠me:=by decide)(j:(x==(fk:aY))=au:=by decide)
(m:bg (e::es) X.env=(au,eval e X.env)::bg es X.env:=by rfl)(n:(du pos (bg es X.env)).any (·.1)=au:=by rfl):JE X (.Call (.Name x p) (e::es) [] pos) (iJ g tt):=
 ⟨Bn o.mono ha,PE.weak (yN o.p i hm f ha.p hn j m n) λσ H Q h=>RM o ha h⟩
def kC (K:af)(g:GN):Sp:=λf H Q _=>∃F α M ds,OK K F α H M/\hW K α (jo F α M H) ds f/\g ds M (vK K F α H M Q)
structure iN(P:bc)(w:bJ)(K:af)(mg:aY->Option ai)(cq:aC)(k:Nat)(x:aY)(ps:List aY)(g:GN):Prop where
 mono:kx g
 p:lW P w K mg cq k x ps (kC K g)
def iN.up{K:af}(h:iN P w K mg cq j x f g)(i:j<=k):iN P w K mg cq k x f g:=⟨h.mono,h.p.mono i⟩
def ag3(h:iN X.prog X.w X.K X.mg X.cq k x v g)(i:jd k X.A)(ha:JA X (e::es) tt)(j:Gl X x:=by rfl)(m:(x==(fk:aY))=au:=by decide)
(n:bg (e::es) X.env=(au,eval e X.env)::bg es X.env:=by rfl)(o:(du pos (bg es X.env)).any (·.1)=au:=by rfl):JE X (.Call (.Name x p) (e::es) [] pos) (iJ g tt):=by refine⟨Bn h.mono ha,PE.weak (ad2 h.p i ha.p j m n o) λσ H Q q=>?_⟩;obtain⟨F,α,f,M,r,q⟩:=q;refine⟨F,α,f,M,r,ha.mono f _ _ _ (λds M1 q y s H1 e1 o1 u=>?_) q⟩;show kC X.K g _ H1 Q E0;rw[bu];exact⟨F,s,M1,ds,o1,u,h.mono _ _ _ _ (vK.grow e1) q⟩
end
end L3
namespace L2
section
variable {X:Cx} {s:av}
def Inv.ghost(I:Inv X cc σ H s)(ha:H a=aa w)(i:∀xs,w≠.tup xs)(y:∀x,w≠.own x)(A:∀g,w≠.xt g)(B:∀o u,X.iH a≠aa (.om o u))
(ok:jB X.prog X.w (upd H a w') s.heap a w'):Inv X cc σ (upd H a w') s:=by
 have f:∀b,H b=ar->b≠a:=λb h z=>by rw[z,ha] at h;cases h
 refine⟨I.ok,I.os,I.bare,⟨I.cq.keep,I.cq.slot,λb o q n C=>?_,I.cq.there,λb xs q=>?_,λb o u q=>?_,λb g q=>?_⟩,I.loc,I.cell,?_,λx c e=>?_,λp E=>?_,λb ob q=>?_,I.len⟩
 .have:=I.cq.free b o q n C;rw[hZ (f b this)];exact this
 .have:=I.cq.rL b xs q;rw[hZ λz=>by rw[z,ha] at this;exact i xs (bF this)];exact this
 .have:=I.cq.p5 b o u q;rw[hZ λz=>B o u (by rw[<-z];exact q)];exact this
 .obtain⟨m,e⟩:=I.cq.qX b g q;exact⟨m,by rw[hZ λz=>by rw[z,ha] at e;exact A _ (bF e)];exact e⟩
 .rw[hZ (f _ I.free)];exact I.free
 .rw[hZ (f _ (I.lU x c e))];exact I.lU x c e
 .obtain⟨G,j,J⟩:=I.pin p E;exact⟨G,by rw[hZ (f _ j)];exact j,J⟩
 .by_cases z:b=a
  .subst z;rw[il] at q;cases q;exact ok
  .rw[hZ z] at q;refine(I.iO b ob q).tQ (λc v _ r=>r) (λc r=>?_) (λc xs r=>?_)
   .rw[hZ λz=>by rw[z,ha] at r;exact y _ (bF r)];exact r
   .rw[hZ λz=>by rw[z,ha] at r;exact i _ (bF r)];exact r
def Inv.freeze(I:Inv X cc σ H s)(ha:H a=aa (.dK ik)):∃o,s.heap.get? a=aa o/\Inv X cc σ (upd H a (.om o (.dK ik))) s/\∀o u,X.iH a≠aa (.om o u):=by
 have b:∀o u,X.iH a≠aa (.om o u):=λo u z=>by have:=I.cq.p5 a o u z;rw[ha] at this;cases this
 obtain⟨z,hd,f,r,o,es,g,e,c⟩:=(I.iO a _ ha);exact⟨o,e,I.ghost ha (λ_ z=>by cases z) (λ_ z=>by cases z) (λ_ z=>by cases z) b ⟨e,z,hd,f,r,o,es,g,e,c⟩,b⟩
def Inv.Bo(I:Inv X cc σ H s)(ha:H a=aa (.om o (.dK ik)))(b:∀o u,X.iH a≠aa (.om o u)):Inv X cc σ (upd H a (.dK ik)) s:=by obtain⟨_,z,hd,f,r,ob,es,g,e,c⟩:=(I.iO a _ ha);exact I.ghost ha (λ_ z=>by cases z) (λ_ z=>by cases z) (λ_ z=>by cases z) b ⟨z,hd,f,r,ob,es,g,e,c⟩
def TH (X:Cx)(P:Hp->Prop)(H:Hp):Prop:=P H\/∃a o ik,H a=aa (.om o (.dK ik))/\(∀o u,X.iH a≠aa (.om o u))/\P (upd H a (.dK ik))
def TH.get(I:Inv X cc σ H s)(h:TH X P H):∃b,Inv X cc σ b s/\P b:=by
 rcases h with h|⟨a,o,ik,e,n,h⟩
 .exact⟨H,I,h⟩
 .exact⟨_,I.Bo e n,h⟩
noncomputable def thD(X:Cx)(D:Ends):Ends:=⟨λσ=>TH X (D.nx σ),λv=>TH X (D.rt v),λσ=>TH X (D.bk σ),λσ=>TH X (D.ct σ)⟩
def Ho{st:cZ}(h:PS X st t)(w:∀D σ H,n D σ H->t (thD X D) σ H):PS X st n:=λcc s σ H D I q=>
 j4 (h cc s σ H _ I (w D σ H q)) λf o j=>by
  cases f with
  |next=>obtain⟨b,m,c,q⟩:=j;obtain⟨e,g,i⟩:=TH.get c q;exact⟨b,e,g,i⟩
  |brk=>obtain⟨b,m,c,q⟩:=j;obtain⟨e,g,i⟩:=TH.get c q;exact⟨b,e,g,i⟩
  |cont=>obtain⟨b,m,c,q⟩:=j;obtain⟨e,g,i⟩:=TH.get c q;exact⟨b,e,g,i⟩
  |ret u=>obtain⟨v,b,m,c,r,q⟩:=j;obtain⟨e,g,i⟩:=TH.get c q;exact⟨v,b,e,g,r,i⟩
def RN(h:PE X e t)(w:∀σ H Q,b σ H Q->t σ H (λv=>TH X (Q v))):PE X e b:=λcc s σ H Q I q=>
 j4 (h cc s σ H _ I (w σ H Q q)) λu j zq=>by obtain⟨v,m,c,r,q⟩:=zq;obtain⟨f,g,i⟩:=TH.get c q;exact⟨v,f,g,r,i⟩
end
end L2
namespace L3
open L2
def Wa (H c:Hp):Prop:=∀b o,H b=aa o->c b=aa o\/∃a,(o=.dK a\/∃ob,o=.om ob (.dK a))/\Rd c b (.dK a)
section
variable {K:af}
def Bp(e:Wa H H')(h:H a=aa u)(c:∀b,u≠.dK b)(f:∀ob b,u≠.om ob (.dK b)):H' a=aa u:=by
 rcases e a u h with q|⟨b,rfl|⟨ob,rfl⟩,_⟩
 .exact q
 .exact absurd rfl (c b)
 .exact absurd rfl (f ob b)
def RO(e:Wa H H')(h:Rd H a u)(c:∀b,u≠.dK b)(f:∀ob b,u≠.om ob (.dK b)):Rd H' a u:=by
 rcases h with h|⟨o,h⟩
 .exact .inl (Bp e h c f)
 .exact .inr ⟨o,Bp e h (λ_ z=>by cases z) λ_ b z=>by cases z;exact c b rfl⟩
def aaT(e:Wa H H')(h:Rd H a (.dK b)):Rd H' a (.dK b):=by
 rcases h with h|⟨o,h⟩
 .rcases e a _ h with q|⟨l,z|⟨ob,z⟩,q⟩
  .exact .inl q
  .cases z;exact q
  .cases z
 .rcases e a _ h with q|⟨l,z|⟨ob,z⟩,q⟩
  .exact .inr ⟨o,q⟩
  .cases z
  .cases z;exact q
def RP(e:Wa H H')(h:wj K H a xs):wj K H' a xs:=by
 rcases h with h|h
 .exact .inl (RO e h (λ_ z=>by cases z) λ_ _ z=>by cases z)
 .exact .inr h
def RQ(e:Wa H H')(h:l9 K H a xs):l9 K H' a xs:=by
 rcases h with h|h
 .exact .inl (RO e h (λ_ z=>by cases z) λ_ _ z=>by cases z)
 .exact .inr h
end
mutual
theorem Rep.alt {K:af} {α:List aw} {H c:Hp} (e:Wa H c):∀(d:D) (v:V),Rep K α H d v->Rep K α c d v
 |.non,v,h=>by unfold Rep at h |-;exact h
 |.bl _,v,h=>by unfold Rep at h |-;exact h
 |.int _,v,h=>by unfold Rep at h |-;exact h
 |.str _,v,h=>by unfold Rep at h |-;exact h
 |.ty _,v,h=>by unfold Rep at h |-;exact h
 |.tup ds,v,h=>by unfold Rep at h |-;obtain⟨a,b,r,q,z⟩:=h;exact⟨a,b,r,RP e q,hW.alt e ds b z⟩
 |.lst ds,v,h=>by unfold Rep at h |-;obtain⟨a,b,r,q,z⟩:=h;exact⟨a,b,r,Bp e q (λ_ z=>by cases z) (λ_ _ z=>by cases z),hW.alt e ds b z⟩
 |.p6 ns,v,h=>by unfold Rep at h |-;obtain⟨a,r,q⟩:=h;exact⟨a,r,RQ e q⟩
 |.jD g ds,v,h=>by unfold Rep at h |-;obtain⟨a,b,r,q,l,z⟩:=h;exact⟨a,b,r,aaT e q,l,hW.alt e ds b z⟩
 |.ins C ns ds,v,h=>by unfold Rep at h |-;obtain⟨a,f,b,r,q,l,z⟩:=h;exact⟨a,f,b,r,Bp e q (λ_ z=>by cases z) (λ_ _ z=>by cases z),l,hW.alt e ds b z⟩
 |.exc C ns ds,v,h=>by unfold Rep at h |-;obtain⟨a,b,r,q,l,z⟩:=h;exact⟨a,b,r,Bp e q (λ_ z=>by cases z) (λ_ _ z=>by cases z),l,hW.alt e ds b z⟩
 |.loc k,v,h=>by unfold Rep at h |-;exact h
 |.cls _,v,h=>by unfold Rep at h |-;exact h
theorem hW.alt {K:af} {α:List aw} {H c:Hp} (e:Wa H c):∀(ds:List D) (b:List V),hW K α H ds b->hW K α c ds b
 |[],b,h=>by unfold hW at h |-;exact h
 |d::ds,b,h=>by unfold hW at h |-;obtain⟨v,r,q,z,y⟩:=h;exact⟨v,r,q,Rep.alt e d v z,hW.alt e ds r y⟩
end
section
variable {K:af}
def YX (ik:List (Key×V))(w:HO):Prop:=w=.dK ik\/∃ob,w=.om ob (.dK ik)
theorem YX.tR(t:YX ik w):tR (aa w)=aa w:=by rcases t with rfl|⟨ob,rfl⟩<;>rfl
def Fi(ha:H a=aa w)(t:YX ik w)(c:YX ik w'):Wa (kN A H) (kN A (upd H a w')):=λb o e=>by
 obtain⟨n,q,v⟩:=pc e;by_cases z:b=a
 .subst z;rw[ha] at q;cases q;refine .inr ⟨ik,t,?_⟩;have g:kN A (upd H b w') b=aa w':=jz n il c.tR;rcases c with rfl|⟨ob,rfl⟩
  .exact .inl g
  .exact .inr ⟨ob,g⟩
 .exact .inl (jz n (by rw[hZ z];exact q) v)
def OK.two(o:OK K F α H M)(ha:H a=aa w)(na:a∉lv α M++F)(t:YX ik w)(h:YX ik w'):OK K F α (upd H a w') M:=by
 refine⟨o.ml,o.nd,λb hb=>⟨(o.fr b hb).1,?_⟩,λb hb=>?_,λk x i=>?_,o.tb.upd (.inl ?_)⟩
 .rw[hZ λz=>na (bL _ (by rw[<-z];exact hb))];exact(o.fr b hb).2
 .by_cases z:b=a
  .rw[z,il,h.tR];exactλz=>by cases z
  .rw[hZ z];exact o.al b hb
 .obtain⟨b,e,r⟩:=o.own k x i;have f:b≠a:=λz=>na (bV _ (by rw[<-z];exact mh.mpr ⟨k,x,e,i⟩));refine⟨b,e,?_⟩;have al:Wa (jo F α M H) _:=Fi ha t h;cases x with
  |lst ds=>obtain⟨c,q,r⟩:=r;exact⟨c,by rw[hZ f];exact q,hW.alt al _ _ r⟩
  |jD j ds=>obtain⟨c,q,l,r⟩:=r;exact⟨c,by rw[hZ f];exact q,l,hW.alt al _ _ r⟩
  |ins C ns ds=>obtain⟨m,c,q,l,r⟩:=r;exact⟨m,c,by rw[hZ f];exact q,l,hW.alt al _ _ r⟩
  |fz k n j ds=>obtain⟨g,c,q,l,r⟩:=r;exact⟨g,c,by rw[hZ f];exact q,l,hW.alt al _ _ r⟩
 .rw[ha,t.tR];exactλz=>by cases z
def Ext.Bo{ob:cB}(ha:H a=aa (.dK ik))(na:a∉lv α M++F)(e:Ext F α (upd H a (.om ob (.dK ik))) M c f h):
  f a=aa (.om ob (.dK ik))/\a∉lv c h++F/\Ext F α H M c (upd f a (.dK ik)) h:=by
 have g:=e.same a _ (jz na il rfl);obtain⟨i,m⟩:=iG g;refine⟨m,i,e.pre,λb o q=>?_,λb hb=>?_⟩
 .obtain⟨n,q,v⟩:=pc q;by_cases z:b=a
  .subst z;rw[ha] at q;cases q;exact jz i il rfl
  .have:=e.same b o (jz n (by rw[hZ z];exact q) v);obtain⟨p,r⟩:=iG this;exact jz p (by rw[hZ z];exact r) v
 .have j:b≠a:=λz=>na (bL _ (by rw[<-z];exact hb));rw[hZ j,e.fr b hb,hZ j]
end
noncomputable def er(p:aw)(H:Hp):Hp:=λb=>if b=p then ar else H b
structure Hq(X:Cx)(F iP:List aw)(H1 Hf:Hp)(M1:Ms)(T:Hp->Hp):Prop where
 ok:OK X.K F iP Hf M1
 rep:∀d v,Rep X.K iP (jo F iP M1 H1) d v->Rep X.K iP (jo F iP M1 Hf) d v
 e:∀iB H' M',Ext F iP Hf M1 iB H' M'->OK X.K F iB H' M'->Ext F iP H1 M1 iB (T H') M'/\OK X.K F iB (T H') M'/\∀d v,Rep X.K iB (jo F iB M' H') d v->Rep X.K iB (jo F iB M' (T H')) d v
 h:∀iB H' M' (P:Hp->Prop),Ext F iP Hf M1 iB H' M'->P (T H')->TH X P H'
 c:∀p H' x,Hf p=ar->H' p=aa x->upd (T (er p H')) p x=T H'
 n:∀p H',Hf p=ar->H' p=ar->T H' p=ar
 k:∀iB H' M' b φ,Ext F iP Hf M1 iB H' M'->H' b=aa (.ext φ)->T H' b=aa (.ext φ)
theorem hW.imp{K:af}(f:∀d v,Rep K α H d v->Rep K α b d v):∀(ds:List D) (a:List V),hW K α H ds a->hW K α b ds a
 |[],a,h=>by exact h
 |d::ds,a,h=>by obtain⟨v,r,q,z,y⟩:=h;exact⟨v,r,q,f d v z,hW.imp f ds r y⟩
section
variable {X:Cx} {M1:Ms}
def Hq.refl(o:OK X.K F iP H1 M1):Hq X F iP H1 H1 M1 id:=
 ⟨o,λ_ _ r=>r,λ_ _ _ e o=>⟨e,o,λ_ _ r=>r⟩,λ_ _ _ _ _ p=>.inl p,λp a x _ h=>by
  funext b;show upd (er p a) p x b=a b;by_cases z:b=p
  .rw[z,il,h]
  .rw[hZ z];unfold er;rw[if_neg z],λ_ _ _ h=>h,λ_ _ _ _ _ _ h=>h⟩
def Hq.rs(z:Hq X F iP H1 Hf M1 T)(r:R X.K F iP H1 σ a M1):R X.K F iP Hf σ a M1:=⟨z.ok,r.len,λi d q=>by obtain⟨v,b,c⟩:=r.sl i d q;exact⟨v,b,z.rep d v c⟩⟩
def Hq.rt(z:Hq X F iP H1 Hf M1 T){a:List aw}{b:Hp}{c:Ms}{g:L2.St}{h:lY}(e:Ext F iP Hf M1 a b c)(f:R X.K F a b g h c):R X.K F a (T b) g h c:=by
 obtain⟨_,j,m⟩:=z.e _ _ _ e f.ok;exact⟨j,f.len,λi d q=>by obtain⟨v,n,o⟩:=f.sl i d q;exact⟨v,n,m d v o⟩⟩
def Hq.dict(o:OK X.K F iP H1 M1)(ha:H1 a=aa (.dK i))(na:a∉lv iP M1++F)(s:∀o u,X.iH a≠aa (.om o u)):
  Hq X F iP H1 (upd H1 a (.om ob (.dK i))) M1 (λc=>upd c a (.dK i)):=by
 have t:YX i _:=.inl rfl;have j:YX i _:=.inr ⟨ob,rfl⟩;refine⟨o.two ha na t j,λd v r=>Rep.alt (Fi ha t j) d v r,λn c q e o=>?_,λn c q P e p=>?_,λp c x g w=>?_,λp c g hn=>?_,λn c q b E e h=>?_⟩
 .obtain⟨f,A,B⟩:=Ext.Bo ha na e;exact⟨B,o.two f A j t,λd v C=>Rep.alt (Fi f j t) d v C⟩
 .obtain⟨f,_,_⟩:=Ext.Bo ha na e;exact .inr ⟨a,ob,_,f,s,p⟩
 .have m:p≠a:=λz=>by rw[z,il] at g;cases g
  funext b;by_cases z:b=p
  .rw[z,il,hZ m];exact w.symm
  .rw[hZ z];by_cases y:b=a
   .rw[y,il,il]
   .rw[hZ y,hZ y];unfold er;rw[if_neg z]
 .rw[hZ λz=>by rw[z,il] at g;cases g];exact hn
 .obtain⟨f,_,_⟩:=Ext.Bo ha na e;rw[hZ λz=>by rw[z,f] at h;cases h];exact h
end
def ag4 (K:af)(α:List aw)(c:Hp):OD->HO->Prop
 |.lst ds,b=>∃a,b=.lst a/\hW K α c ds a
 |.jD e ds,b=>∃a,b=.dK (e.zip a)/\e.length=ds.length/\hW K α c ds a
 |.ins _ _ _,_=>False
 |.fz _ _ _ _,_=>False
noncomputable def OD.toD:OD->D
 |.lst ds=>.lst ds
 |.jD a ds=>.jD a ds
 |.ins C ns ds=>.ins C ns ds
 |.fz k _ _ _=>.loc k
abbrev DF:=lY->Ms->(OD->Ms->Prop)->Prop
abbrev fK(K:af)(F α:List aw)(H:Hp)(M:Ms)(Q:VK):OD->Ms->Prop:=λo M1=>∀p b a H1,Ext F α H M a H1 M1->OK K F a H1 M1->H1 p=ar->ag4 K a (jo F a M1 H1) o b->Q (.ref p) (upd H1 p b)
def lF (K:af)(t:DF):TE:=λσ H Q=>∃F α a M,R K F α H σ a M/\t a M (fK K F α H M Q)
structure JF(X:Cx)(e:bI)(t:DF):Prop where
 mono:∀δ M (P Q:OD->Ms->Prop),(∀d M,P d M->Q d M)->t δ M P->t δ M Q
 p:PE X e (lF X.K t)
section
variable {K:af}
def fK.grow(e:Ext F α H M iB H' M'):∀d a,fK K F α H M Q d a->fK K F iB H' M' Q d a:=λd a h p b c f e2 o2 g i=>h p b c f (e.trans e2) o2 g i
def fK.om{M1:Ms}(h:vK K F α H M Q o.toD M1):fK K F α H M Q o M1:=by
 intro p g i H1 e1 o1 b a;have q:=vK.grow e1 _ _ h;refine vK.new o1 b q λe=>?_;cases o with
 |lst ds=>obtain⟨c,rfl,r⟩:=a;exact nK o1 b r e
 |jD f ds=>
  obtain⟨c,rfl,l,r⟩:=a;exact⟨p,c,rfl,.inl (by show kN _ _ p=_;rw[ku (o1.new b),il]),l,e.Bk r⟩
 |ins C ns ds=>exact a.elim
 |fz k j f ds=>exact a.elim
def fK.own{M1:Ms}(h:vK K F α H M Q (.loc M1.length) (M1++[aa o])):fK K F α H M Q o M1:=by
 intro p e i H1 e1 o1 a b;have f:=o1.Bl (x:=o) a (Bi (o:=e) a);obtain⟨o2,e2⟩:=o1.enter (x:=o) (H':=upd H1 p e) a (Bi a) (by
  cases o with
  |lst ds=>obtain⟨c,rfl,r⟩:=b;exact⟨c,il,hW.mono (cO _ _) f _ _ r⟩
  |jD g ds=>obtain⟨c,rfl,l,r⟩:=b;exact⟨c,il,l,hW.mono (cO _ _) f _ _ r⟩
  |ins C ns ds=>exact b.elim
  |fz k j g ds=>exact b.elim)
 refine h _ _ _ (e1.trans e2) o2 ?_;exact⟨p,by rw[<-o1.ml];simp,rfl⟩
end
section
variable {X:Cx} {es rest:List bI}
def jn (t:DF):DE:=λf M Q=>t f M λo M1=>Q o.toD M1
def nL (t:DF):DE:=λf M Q=>t f M λo M1=>Q (.loc M1.length) (M1++[aa o])
def YY(h:JF X e tf):JE X e (jn tf):=⟨λf M P Q w q=>h.mono f _ _ _ (λo M1 q=>w _ _ q) q,PE.weak h.p λσ H Q zq=>by obtain⟨F,α,f,M,r,q⟩:=zq;exact ⟨F,α,f,M,r,h.mono f _ _ _ (λo M1 q=>fK.om q) q⟩⟩
def aea(h:JF X e tf):JE X e (nL tf):=⟨λf M P Q w q=>h.mono f _ _ _ (λo M1 q=>w _ _ q) q,PE.weak h.p λσ H Q zq=>by obtain⟨F,α,f,M,r,q⟩:=zq;exact ⟨F,α,f,M,r,h.mono f _ _ _ (λo M1 q=>fK.own q) q⟩⟩
def kY (tt:DA):DF:=λf M Q=>tt f M λds M1=>ds.length<=aO/\Q (.lst ds) M1
def aaU(h:JA X es tt):JF X (.List es pos) (kY tt):=by refine⟨λf M P Q w q=>h.mono f _ _ _ (λds M1 q=>⟨q.1,w _ _ q.2⟩) q,PE.weak (aau h.p) λσ H Q q=>?_⟩;obtain⟨F,α,f,M,r,q⟩:=q;refine⟨F,α,f,M,r,h.mono f _ _ _ (λds M1 q g j H1 e1 o1 i=>?_) q⟩;exact⟨by rw[<-hW.length ds g i];exact q.1,λp m=>q.2 p _ j H1 e1 o1 m ⟨g,rfl,i⟩⟩
def Bq:DF:=λf M Q=>Q (.jD [] []) M
def RR:JF X (.Dict [] [] pos) Bq:=
 ⟨λf M P Q w q=>w _ _ q,PE.weak Rg λσ H Q zq=>by obtain⟨F,α,f,M,r,q⟩:=zq;exact λp g=>q p _ α H Ext.refl r.ok g ⟨[],rfl,rfl,hW.nil⟩⟩
end
structure jp where
 nx:lY->Ms->Prop
 rt:DK
 bk:lY->Ms->Prop
 ct:lY->Ms->Prop
abbrev DS:=jp->lY->Ms->Prop
structure jp.le(P Q:jp):Prop where
 nx:∀δ M,P.nx δ M->Q.nx δ M
 rt:∀d M,P.rt d M->Q.rt d M
 bk:∀δ M,P.bk δ M->Q.bk δ M
 ct:∀δ M,P.ct δ M->Q.ct δ M
def jp.le.refl(P:jp):P.le P:=⟨λ_ _ h=>h,λ_ _ h=>h,λ_ _ h=>h,λ_ _ h=>h⟩
abbrev sK(K:af)(F α:List aw)(H:Hp)(M:Ms)(Q:L2.St->Hp->Prop):lY->Ms->Prop:=λf b=>∀c e a,Ext F α H M e a b->R K F e a c f b->Q c a
noncomputable def ph(K:af)(F α:List aw)(H:Hp)(M:Ms)(E:Ends):jp:=⟨sK K F α H M E.nx,vK K F α H M E.rt,sK K F α H M E.bk,sK K F α H M E.ct⟩
def lS (K:af)(t:DS):TS:=λE σ H=>∃F α a M,R K F α H σ a M/\t (ph K F α H M E) a M
section
variable {K:af}
def sK.grow(e:Ext F α H M iB H' M'):∀d a,sK K F α H M Q d a->sK K F iB H' M' Q d a:=λd a h v b c e2 o2=>h v b c (e.trans e2) o2
theorem ph.grow(e:Ext F α H M iB H' M'):(ph K F α H M E).le (ph K F iB H' M' E):=⟨sK.grow e,vK.grow e,sK.grow e,sK.grow e⟩
end
structure JS(X:Cx)(st:cZ)(t:DS):Prop where
 mono:∀(P Q:jp) δ M,P.le Q->t P δ M->t Q δ M
 p:PS X st (lS X.K t)
structure C9(X:Cx)(st:List cZ)(t:DS):Prop where
 mono:∀(P Q:jp) δ M,P.le Q->t P δ M->t Q δ M
 p:xu X st (lS X.K t)
section
variable {X:Cx} {t:DS} {pos:eB} {st:cZ} {bs:List cZ}
def iy:DS:=λE a M=>E.nx a M
def ii (t u:DS):DS:=λE a M=>t {E with nx:=u E} a M
def aaV:C9 X [] iy:=⟨λP Q a M w q=>w.nx _ _ q,xu.weak Vq λE σ H zq=>by obtain⟨F,α,a,M,r,q⟩:=zq;exact q σ α H Ext.refl r⟩
def RS(h:JS X st t):C9 X [st] t:=⟨h.mono,MB h.p⟩
def Wb(a:JS X st t)(b:C9 X U7 u):C9 X (st::U7) (ii t u):=by refine⟨λP Q f M w q=>a.mono {P with nx:=u P} _ _ _ ⟨λf M q=>b.mono _ _ _ _ w q,w.rt,w.bk,w.ct⟩ q,xu.weak (G8 a.p b.p) λE σ H q=>?_⟩;obtain⟨F,α,f,M,r,q⟩:=q;refine⟨F,α,f,M,r,a.mono {ph X.K F α H M E with nx:=u _} _ _ _ ⟨λg M1 q j h H1 e1 i=>⟨F,h,g,M1,i,b.mono _ _ _ _ (ph.grow e1) q⟩,λ_ _ q=>q,λ_ _ q=>q,λ_ _ q=>q⟩ q⟩
def iu (te:DE):DS:=λE a M=>te a M E.rt
def RT(b:JE X e te):JS X (.Return (aa e) pos) (iu te):=⟨λP Q a M w q=>b.mono a _ _ _ w.rt q,PS.weak (Z8 b.p) λE σ H zq=>by obtain⟨F,α,a,M,r,q⟩:=zq;exact ⟨F,α,a,M,r,q⟩⟩
def rY:DS:=λ_ _ _=>False
def RU:JS X st rY:=⟨λP Q a M w q=>q,PS.weak QX λE σ H zq=>by obtain⟨F,α,a,M,r,q⟩:=zq;exact q⟩
def i5 (c:DT)(t u:DS):DS:=λE a M=>c a M λb M1=>if b=ag then t E a M1 else u E a M1
def aeb(hc:JT X c tA)(ha:C9 X as t)(hb:C9 X bs u):JS X (.If c as bs pos) (i5 tA t u):=by
 refine⟨λP Q a M w q=>hc.mono a _ _ _ (λb M1 q=>?_) q,PS.weak (YB hc.p ha.p hb.p) λE σ H q=>?_⟩
 .cases b with
  |true=>exact ha.mono _ _ _ _ w q
  |false=>exact hb.mono _ _ _ _ w q
 .obtain⟨F,α,a,M,r,q⟩:=q;refine⟨F,α,a,M,r,hc.mono a _ _ _ (λb M1 q f H1 e1 o1=>?_) q⟩;cases b with
  |true=>
   exact⟨F,f,a,M1,r.grow e1 o1,ha.mono _ _ _ _ (ph.grow e1) q⟩
  |false=>
   exact⟨F,f,a,M1,r.grow e1 o1,hb.mono _ _ _ _ (ph.grow e1) q⟩
def jY (te:DE):DS:=λE a M=>te a M λ_ M1=>E.nx a M1
def Wc(b:JE X e te)(f:eO e ar pos.line X.env=pure au:=by rfl):JS X (.Expr e pos) (jY te):=by refine⟨λP Q a M w q=>b.mono a _ _ _ (λd M1 q=>w.nx _ _ q) q,PS.weak (MC b.p f) λE σ H q=>?_⟩;obtain⟨F,α,a,M,r,q⟩:=q;exact⟨F,α,a,M,r,b.mono a _ _ _ (λd M1 q v g H1 e1 o1 h=>q σ g H1 e1 (r.grow e1 o1)) q⟩
def iV (i:Nat)(te:DE):DS:=λE a M=>te a M λd M1=>E.nx (a.set i (aa d)) M1
def aaW(i:Nat)(f:X.N.Nodup)(b:JE X e te)(hi:X.N[i]?=aa x:=by rfl)(g:Loc X.env.scope x:=by first|exact ah3 rfl|exact gQ rfl)(h:eO e (aa (.Name x p)) pos.line X.env=pure au:=by rfl)
(j:X.fn x=ag\/X.env.scope.names.lookup x=aa .local:=by first|exact .inl rfl|exact .inr rfl|assumption):JS X (.Assign [.Name x p] e pos) (iV i te):=by refine⟨λP Q a M w q=>b.mono a _ _ _ (λd M1 q=>w.nx _ _ q) q,PS.weak (aad f hi g b.p h j) λE σ H q=>?_⟩;obtain⟨F,α,a,M,r,q⟩:=q;exact⟨F,α,a,M,r,b.mono a _ _ _ (λd M1 q v m H1 e1 o1 n=>q _ m H1 e1 ((r.grow e1 o1).set n)) q⟩
abbrev DG:=D->lY->Ms->(lY->Ms->Prop)->Prop
abbrev Wd:=List D->lY->Ms->(lY->Ms->Prop)->Prop
def lG (K:af)(g:DG):TG:=λv σ H Q=>∃F α a M d,R K F α H σ a M/\Rep K α (jo F α M H) d v/\g d a M (sK K F α H M Q)
def lGs (K:af)(g:Wd):TGs:=λb σ H Q=>∃F α a M ds,R K F α H σ a M/\hW K α (jo F α M H) ds b/\g ds a M (sK K F α H M Q)
structure JG(X:Cx)(tg:bI)(g:DG):Prop where
 mono:∀d δ M (P Q:lY->Ms->Prop),(∀δ M,P δ M->Q δ M)->g d δ M P->g d δ M Q
 p:PG X tg (lG X.K g)
structure JGs(X:Cx)(tg:List bI)(g:Wd):Prop where
 mono:∀d δ M (P Q:lY->Ms->Prop),(∀δ M,P δ M->Q δ M)->g d δ M P->g d δ M Q
 p:QY X tg (lGs X.K g)
def PG.weak(h:PG X tg g)(w:∀v σ H Q,a v σ H Q->g v σ H Q):PG X tg a:=λcc s σ H v u Q I r q=>h cc s σ H v u Q I r (w v σ H Q q)
def QY.weak(h:QY X tg g)(w:∀v σ H Q,a v σ H Q->g v σ H Q):QY X tg a:=λcc s σ H v u Q I r q=>h cc s σ H v u Q I r (w v σ H Q q)
def ib (i:Nat):DG:=λd a M Q=>Q (a.set i (aa d)) M
def We(i:Nat)(a:X.N.Nodup)(hi:X.N[i]?=aa x:=by rfl)(b:Loc X.env.scope x:=by first|exact ah3 rfl|exact gQ rfl)(f:X.fn x=ag\/X.env.scope.names.lookup x=aa .local:=by first|exact .inl rfl|exact .inr rfl|assumption):JG X (.Name x pos) (ib i):=
 ⟨λd g M P Q w q=>w _ _ q,PG.weak (Vr a hi b f) λv σ H Q zq=>by obtain⟨F,α,g,M,d,r,rd,q⟩:=zq;exact q _ α H Ext.refl (r.set rd)⟩
def jZ:Wd:=λds a M Q=>ds=[]/\Q a M
def iw (g:DG)(gs:Wd):Wd:=λds a M Q=>match ds with|d::r=>g d a M λb M1=>gs r b M1 Q|[]=>False
def Wf:JGs X [] jZ:=⟨λd a M P Q w q=>⟨q.1,w _ _ q.2⟩,QY.weak Vs λv σ H Q zq=>by obtain⟨F,α,a,M,ds,r,rd,e,q⟩:=zq;subst e;exact⟨rd,q σ α H Ext.refl r⟩⟩
def RV(a:JG X e g)(b:JGs X es gs)(h:(eG (e::es) X.env).map (·.2)=assign e X.env::(eG es X.env).map (·.2):=by rfl):JGs X (e::es) (iw g gs):=by
 refine⟨λd f M P Q w q=>?_,QY.weak (QZ a.p b.p h) λv σ H Q q=>?_⟩
 .cases d with
  |nil=>exact q.elim
  |cons d r=>exact a.mono _ _ _ _ _ (λf M q=>b.mono _ _ _ _ _ w q) q
 .obtain⟨F,α,f,M,ds,r,rd,q⟩:=q;cases ds with
  |nil=>exact q.elim
  |cons d dr=>
   obtain⟨v1,i,rfl,j,m⟩:=rd;refine⟨v1,i,rfl,F,α,f,M,d,r,j,a.mono _ _ _ _ _ (λn M1 q y o H1 e1 s=>?_) q⟩;exact⟨F,o,n,M1,dr,s,e1.Bk m,b.mono _ _ _ _ _ (sK.grow e1) q⟩
def jR (n:Nat)(gs:Wd):DG:=λd a M Q=>match d with|.tup ds=>ds.length=n/\gs ds a M Q|_=>False
def aaX(h:JGs X es gs)(hc:X.calm=ag:=by rfl)(hn:(eG es X.env).length=n:=by rfl)(f:(eG es X.env).findIdx? (·.1)=ar:=by rfl):JG X (.Tuple es k pos) (jR n gs):=by
 refine⟨λd b M P Q w q=>?_,PG.weak (aab hc h.p hn f) λv σ H Q q=>?_⟩
 .cases d<;>first|exact q.elim|exact⟨q.1,h.mono _ _ _ _ _ w q.2⟩
 .obtain⟨F,α,b,M,d,r,rd,q⟩:=q;cases d<;>first|exact q.elim|skip
  obtain⟨a,g,rfl,i,z⟩:=rd;exact⟨a,g,rfl,lX ip i,by rw[<-hW.length _ _ z];exact q.1,F,α,b,M,_,r,z,q.2⟩
def RW (te:DE)(g:DG):DS:=λE a M=>te a M λd M1=>g d a M1 E.nx
def aaY(b:JE X e te)(f:JG X tg g)(h:akl [tg] e pos.line X.env=pure au:=by rfl)(hw:akm [tg] e X.env=pure ar:=by rfl)
(i:(eG [tg] X.env).map (·.2)=[assign tg X.env]:=by rfl):JS X (.Assign [tg] e pos) (RW te g):=by refine⟨λP Q a M w q=>b.mono a _ _ _ (λd M1 q=>f.mono _ _ _ _ _ w.nx q) q,PS.weak (aac b.p f.p h hw i) λE σ H q=>?_⟩;obtain⟨F,α,a,M,r,q⟩:=q;refine⟨F,α,a,M,r,b.mono a _ _ _ (λd M1 q v j H1 e1 o1 m=>?_) q⟩;exact⟨F,j,a,M1,d,r.grow e1 o1,m,f.mono _ _ _ _ _ (sK.grow e1) q⟩
structure Wg(K:af)(F iP:List aw)(H1:Hp)(M1:Ms)(J:It)(items:List D)(st:Ms->Prop):Prop where
 go:∀i F' iB H' M',iP <+: iB->jC (jo F iP M1 H1) (jo F' iB M' H')->OK K F' iB H' M'->st M'->i<items.length->J.go i H'
 yld:∀(i:Nat) F' iB H' M' x H2 d,iP <+: iB->jC (jo F iP M1 H1) (jo F' iB M' H')->OK K F' iB H' M'->st M'->items[i]?=aa d->J.yld i H' x H2->OK K F' iB H2 M'/\Ext F' iB H' M' iB H2 M'/\Rep K iB (jo F' iB M' H2) d x
 stop:∀F' iB H' M',iP <+: iB->jC (jo F iP M1 H1) (jo F' iB M' H')->OK K F' iB H' M'->st M'->J.stop items.length H'
abbrev DI:=lY->Ms->(List D->(Ms->Prop)->Ms->Prop)->Prop
abbrev iK(X:Cx)(F α:List aw)(H:Hp)(M:Ms)(Q:It->Hp->Prop):List D->(Ms->Prop)->Ms->Prop:=λitems st M1=>∀J a H1 b T,Ext F α H M a H1 M1->OK X.K F a H1 M1->Hq X F a H1 b M1 T->Wg X.K F a b M1 J items st->Q J b
def lI (X:Cx)(t:DI):TI:=λσ H Q=>∃F α a M,R X.K F α H σ a M/\t a M (iK X F α H M Q)
structure JI(X:Cx)(tg e:bI)(t:DI):Prop where
 mono:∀δ M (P Q:List D->(Ms->Prop)->Ms->Prop),(∀l s M,P l s M->Q l s M)->t δ M P->t δ M Q
 p:PI X tg e (lI X t)
def PI.weak{t a:TI}(h:PI X tg e t)(w:∀σ H Q,a σ H Q->t σ H Q):PI X tg e a:=λcc s σ H Q I q=>h cc s σ H Q I (w σ H Q q)
def wq (g:DG)(tb:DS)(st:Ms->Prop)(E:jp):List D->lY->Ms->Prop
 |[]=>λb M=>E.nx b M
 |x::xs=>λb M=>g x b M λh M1=>tb {E with nx:=λf a=>st a/\wq g tb st E xs f a,ct:=λf a=>st a/\wq g tb st E xs f a,bk:=E.nx} h M1
def oM (b:DI)(g:DG)(tb:DS):DS:=λE a M=>b a M λitems st M1=>st M1/\wq g tb st E items a M1
theorem yS{st:Ms->Prop}(h:∀d a M (P Q:lY->Ms->Prop),(∀a M,P a M->Q a M)->g d a M P->g d a M Q)(hb:∀(P Q:jp) a M,P.le Q->tb P a M->tb Q a M)(w:P.le Q):∀xs a M,wq g tb st P xs a M->wq g tb st Q xs a M
 |[],a,M,q=>w.nx _ _ q
 |x::xs,a,M,q=>h _ _ _ _ _ (λi M1 q=>hb {P with nx:=λf b=>st b/\wq g tb st P xs f b,ct:=λf b=>st b/\wq g tb st P xs f b,bk:=P.nx} _ _ _ ⟨λf b q=>⟨q.1,yS h hb w xs f b q.2⟩,w.rt,w.nx,λf b q=>⟨q.1,yS h hb w xs f b q.2⟩⟩ q) q
def RX(hi:JI X tg e ti)(hg:JG X tg g)(hb:C9 X body tb)(hp:gY (model X.prog X.w) X.A X.env X.xe:=by exact gY.never)(hc:X.calm=ag:=by rfl)
(hs:∀x,de e X.env x=pure x:=by intro _;rfl):JS X (.For tg e body [] pos) (oM ti g tb):=by
 refine⟨λP Q L M w q=>hi.mono L _ _ _ (λitems st M1 q=>⟨q.1,yS hg.mono hb.mono w _ _ _ q.2⟩) q,Ho (aag hp hc hi.p hg.p hb.p hs) λE σ H q=>?_⟩;obtain⟨F,α,L,M,r,q⟩:=q;refine⟨F,α,L,M,r,hi.mono L _ _ _ (λitems st M1 q J iP H1 Hf T e1 o1 z it=>?_) q⟩;obtain⟨s1,q⟩:=q;refine⟨λi m jt j=>m=items.length- i/\i<=items.length/\∃f U a,Ext F iP Hf M1 f j a/\R X.K F f j jt U a/\st a/\wq g tb st _ (items.drop i) U a,⟨_,rfl,bD _,iP,L,M1,Ext.refl,z.rs (r.grow e1 o1),s1,q⟩,?_⟩
 rintro i m jt j ⟨rfl,MS,f,U,a,e',I,s',Y⟩
 by_cases Al:i<items.length
 .rw[List.drop_eq_getElem_cons Al] at Y;refine .inr ⟨it.go i F f j a e'.pre e'.same I.ok s' Al,λE2 N=>∃rg OE M2,Ext F iP Hf M1 rg N M2/\R X.K F rg N E2 OE M2/\st M2/\wq g tb st _ _ OE M2,λE2 N h=>⟨_,by lia,rfl,Al,h⟩,λx N y=>?_⟩;obtain⟨o2,e2,rx⟩:=it.yld i F f j a x N items[i] e'.pre e'.same I.ok s' (by simp[Al]) y;refine⟨F,f,U,a,items[i],I.grow e2 o2,rx,hg.mono _ _ _ _ _ (λWh M3 q3 J2 Di H3 e3 r3=>⟨F,Di,Wh,M3,r3,hb.mono _ _ _ _ ?_ q3⟩) Y⟩;have Fh:=(e'.trans e2).trans e3;refine⟨λn o C G b s e4 B=>⟨b,n,o,Fh.trans e4,B,C⟩,λd o C v b s e4 o4 B=>?_,λn o C G b s e4 B=>?_,λn o C G b s e4 B=>⟨b,n,o,Fh.trans e4,B,C⟩⟩
  .obtain⟨O,t2,t3⟩:=z.e b s o (Fh.trans e4) o4;exact z.h b s o _ (Fh.trans e4) (C v b (T s) (e1.trans O) t2 (t3 d v B))
  .obtain⟨O,_,_⟩:=z.e b s o (Fh.trans e4) B.ok;exact z.h b s o _ (Fh.trans e4) (C G b (T s) (e1.trans O) (z.rt (Fh.trans e4) B))
 .have e:i=items.length:=by exact Nat.le_antisymm MS (Nat.le_of_not_lt Al)
  subst e;rw[List.drop_length] at Y;obtain⟨O,_,_⟩:=z.e f j a e' I.ok;exact .inl ⟨it.stop F f j a e'.pre e'.same I.ok s',z.h f j a _ e' (Y jt f (T j) (e1.trans O) (z.rt e' I))⟩
def mW (c:DT)(tb:DS)(E:jp):Nat->lY->Ms->Prop
 |0=>λ_ _=>False
 |n+1=>λa M=>c a M λb M1=>if b=ag then tb {E with nx:=mW c tb E n,ct:=mW c tb E n,bk:=E.nx} a M1 else E.nx a M1
def KI (c:DT)(tb:DS):DS:=λE a M=>∃n,mW c tb E n a M
theorem uf{c:DT}{tb:DS}(hc:∀a M (P Q:Bool->Ms->Prop),(∀d M,P d M->Q d M)->c a M P->c a M Q)(hb:∀(P Q:jp) a M,P.le Q->tb P a M->tb Q a M){P Q:jp}(w:P.le Q):∀n a M,mW c tb P n a M->mW c tb Q n a M
 |0,_,_,q=>q
 |n+1,a,M,q=>hc _ _ _ _ (λb M1 q=>by
  cases b with
  |true=>rw[if_pos rfl] at q |-;exact hb {P with nx:=mW c tb P n,ct:=mW c tb P n,bk:=P.nx} {Q with nx:=mW c tb Q n,ct:=mW c tb Q n,bk:=Q.nx} _ _ ⟨uf hc hb w n,w.rt,w.nx,uf hc hb w n⟩ q
  |false=>rw[if_neg aS] at q |-;exact w.nx _ _ q) q
def Hr{body:List cZ}{tb:DS}(hc:JT X c tA)(hb:C9 X body tb)(hp:gY (model X.prog X.w) X.A X.env X.xe:=by exact gY.never):JS X (.While c body [] pos) (KI tA tb):=by
 refine⟨λP Q I M w zq=>by obtain⟨n,q⟩:=zq;exact ⟨n,uf hc.mono hb.mono w n _ _ q⟩,PS.weak (Q1 hp hc.p hb.p) λE σ H q=>?_⟩;obtain⟨F,α,I,M,r,n,q⟩:=q;refine⟨λm y z=>∃o g i,Ext F α H M o z i/\R X.K F o z y g i/\mW tA tb (ph X.K F α H M E) m g i,⟨n,α,I,M,Ext.refl,r,q⟩,?_⟩
 rintro m y z ⟨o,g,i,e',B,J⟩
 cases m with
 |zero=>exact J.elim
 |succ m=>
  refine⟨F,o,g,i,B,hc.mono _ _ _ _ (λb M1 s L H1 e1 o1=>?_) J⟩;cases b with
  |true=>
   rw[if_pos rfl] at s;show(if ag=ag then _ else _);rw[if_pos rfl];refine⟨λv j=>∃a f M2,Ext F α H M a j M2/\R X.K F a j v f M2/\mW tA tb (ph X.K F α H M E) m f M2,λv j h=>⟨m,eW _,h⟩,F,L,g,M1,B.grow e1 o1,hb.mono _ _ _ _ ?_ s⟩;exact⟨λf M2 C v a j e2 G=>⟨a,f,M2,(e'.trans e1).trans e2,G,C⟩,vK.grow (e'.trans e1),sK.grow (e'.trans e1),λf M2 C v a j e2 G=>⟨a,f,M2,(e'.trans e1).trans e2,G,C⟩⟩
  |false=>
   rw[if_neg aS] at s;show(if au=ag then _ else _);rw[if_neg aS];exact s y L H1 (e'.trans e1) (B.grow e1 o1)
end
mutual
noncomputable def nl:D->Bool
 |.non|.bl _|.int _|.str _|.ty _|.p6 _|.cls _=>ag
 |.loc _=>au
 |.tup ds|.lst ds|.jD _ ds|.ins _ _ ds|.exc _ _ ds=>lC ds
noncomputable def lC:List D->Bool
 |[]=>ag
 |d::ds=>nl d&&lC ds
end
mutual
theorem Rep.nl {K:af} {α β:List aw} {H:Hp}:∀(d:D) (v:V),L3.nl d=ag->Rep K α H d v->Rep K β H d v
 |.non,v,_,h=>by unfold Rep at h |-;exact h
 |.bl _,v,_,h=>by unfold Rep at h |-;exact h
 |.int _,v,_,h=>by unfold Rep at h |-;exact h
 |.str _,v,_,h=>by unfold Rep at h |-;exact h
 |.ty _,v,_,h=>by unfold Rep at h |-;exact h
 |.p6 _,v,_,h=>by unfold Rep at h |-;exact h
 |.cls _,v,_,h=>by unfold Rep at h |-;exact h
 |.loc _,v,n,h=>by unfold L3.nl at n;cases n
 |.tup ds,v,n,h=>by unfold Rep at h |-;unfold L3.nl at n;obtain⟨a,b,r,q,z⟩:=h;exact⟨a,b,r,q,hW.nl ds b n z⟩
 |.lst ds,v,n,h=>by unfold Rep at h |-;unfold L3.nl at n;obtain⟨a,b,r,q,z⟩:=h;exact⟨a,b,r,q,hW.nl ds b n z⟩
 |.jD e ds,v,n,h=>by unfold Rep at h |-;unfold L3.nl at n;obtain⟨a,b,r,q,l,z⟩:=h;exact⟨a,b,r,q,l,hW.nl ds b n z⟩
 |.ins C ns ds,v,n,h=>by unfold Rep at h |-;unfold L3.nl at n;obtain⟨a,c,b,r,q,l,z⟩:=h;exact⟨a,c,b,r,q,l,hW.nl ds b n z⟩
 |.exc C ns ds,v,n,h=>by unfold Rep at h |-;unfold L3.nl at n;obtain⟨a,b,r,q,l,z⟩:=h;exact⟨a,b,r,q,l,hW.nl ds b n z⟩
theorem hW.nl {K:af} {α β:List aw} {H:Hp}:∀(d:List D) (v:List V),L3.lC d=ag->hW K α H d v->hW K β H d v
 |[],v,_,h=>by unfold hW at h |-;exact h
 |d::ds,v,n,h=>by unfold hW at h |-;unfold L3.lC at n;rw[aZ] at n;obtain⟨u,r,q,z,y⟩:=h;exact⟨u,r,q,Rep.nl d u n.1 z,hW.nl ds r n.2 y⟩
end
theorem Fj:∀ds:List D,lC ds=ds.all nl
 |[]=>rfl
 |d::ds=>by unfold lC;rw[fU,Fj ds]
def jQ{β:Type}{f:β->D}(h:∀b,nl (f b)=ag)(l:List β):lC (l.map f)=ag:=by rw[Fj];simp[h]
noncomputable def vwk(k:Nat):Option (Option OD)->D
 |some (aa o)=>o.toD
 |_=>.loc k
noncomputable def vw(M:Ms):D->D
 |.loc k=>vwk k M[k]?
 |d=>d
noncomputable def fz(M:Ms):D->D
 |.tup ds=>.tup (ds.map (vw M))
 |d=>vw M d
section
variable {K:af}
def oN:jC (jo F α M H) (kN F H):=λb o e=>by obtain⟨z,q⟩:=iG e;exact kX e (λw=>z (bL _ w)) q
def OK.ag5(o:OK K F α H M)(h:a∈α):a∉F:=λw=>(o.fr a w).1 h
def wt(o:OK K F α H M):∀(d:D) (v:V),Rep K α (jo F α M H) d v->Rep K α (kN F H) (vw M d) v:=λd v h=>by
 have gen:=Rep.mono (aV _) oN d v h;cases d with
 |loc k=>
  show Rep K α _ (vwk k M[k]?) v;cases e:M[k]? with
  |none=>exact gen
  |some x=>
   cases x with
   |none=>exact gen
   |some y=>
    obtain⟨a,g,c⟩:=o.own k y e;obtain⟨p,i,rfl⟩:=h;rw[g] at i;cases i;have f:a∉F:=o.ag5 (bA g);cases y with
    |lst ds=>
     obtain⟨b,q,r⟩:=c;show Rep K α _ (.lst ds) _;exact⟨a,b,rfl,jz f q rfl,hW.mono (aV _) oN _ _ r⟩
    |jD m ds=>
     obtain⟨b,q,l,r⟩:=c;show Rep K α _ (.jD m ds) _;exact⟨a,b,rfl,.inl (jz f q rfl),l,hW.mono (aV _) oN _ _ r⟩
    |ins C ns ds=>
     obtain⟨n,b,q,l,r⟩:=c;exact⟨a,n,b,rfl,jz f q rfl,l,hW.mono (aV _) oN _ _ r⟩
    |fz j s m ds=>
     show Rep K α _ (.loc j) _;exact⟨a,c.1,rfl⟩
 |_=>exact gen
def iS(e:vw M (.loc k)=d):d=.loc k\/∃o,M[k]?=aa (aa o)/\d=o.toD:=by
 have e:vwk k M[k]?=d:=e;cases h:M[k]? with
 |none=>rw[h] at e;exact .inl e.symm
 |some x=>
  cases x with
  |none=>rw[h] at e;exact .inl e.symm
  |some o=>rw[h] at e;exact .inr ⟨o,rfl,e.symm⟩
theorem MT(o:OK K F α H M):∀(ds:List D) (a:List V),hW K α (jo F α M H) ds a->hW K α (kN F H) (ds.map (vw M)) a
 |[],a,h=>by subst h;exact hW.nil
 |d::ds,a,h=>by obtain⟨v,r,rfl,z,y⟩:=h;exact hW.cons (wt o d v z) (MT o ds r y)
def RY(o:OK K F α H M):∀(d:D) (v:V),Rep K α (jo F α M H) d v->Rep K α (kN F H) (fz M d) v:=λd v h=>by
 cases d with
 |tup ds=>
  obtain⟨a,b,rfl,c,z⟩:=h;show Rep K α _ (.tup _) _;exact⟨a,b,rfl,lX oN c,MT o _ _ z⟩
 |_=>exact wt o _ v h
def jh(o:OK K F α H M)(h:Rep K α (jo F α M H) d v)(e:vw M d=.lst ds):∃a b,v=.ref a/\H a=aa (.lst b)/\hW K α (jo F α M H) ds b:=by
 cases d with
 |lst es=>
  cases(e);obtain⟨a,b,rfl,q,z⟩:=h;exact⟨a,b,rfl,ip _ _ q,z⟩
 |loc k=>
  rcases iS e with e|⟨x,f,e⟩
  .cases e
  .cases x<;>cases e;obtain⟨a,g,b,q,r⟩:=o.own k _ f;obtain⟨i,c,rfl⟩:=h;rw[g] at c;cases c;exact⟨a,b,rfl,q,r⟩
 |_=>cases e
def _root_.L2.rf.kr{H:Hp}{a:aw}{b:List (Key×V)}{k:Key}(e:Rd H a (.dK b)):rf H a (kV k) (qL b k):=.inl ⟨b,k,e,rfl,rfl⟩
def mX(o:OK K F α H M)(h:Rep K α (jo F α M H) d v)(e:vw M d=.jD c ds):∃a b,v=.ref a/\Rd H a (.dK (c.zip b))/\c.length=ds.length/\hW K α (jo F α M H) ds b:=by
 cases d with
 |jD ls es=>
  cases(e);obtain⟨a,b,rfl,q,l,z⟩:=h;exact⟨a,b,rfl,Fg ip q,l,z⟩
 |loc k=>
  rcases iS e with e|⟨x,g,e⟩
  .cases e
  .cases x<;>cases e;obtain⟨a,i,b,q,l,r⟩:=o.own k _ g;obtain⟨j,f,rfl⟩:=h;rw[i] at f;cases f;exact⟨a,b,rfl,.inl q,l,r⟩
 |_=>cases e
def KJ(o:OK K F α H M)(h:Rep K α (jo F α M H) d v)(e:vw M d=.ins C ns ds):∃a c b,v=.ref a/\H a=aa (.ins C c (ns.zip b))/\ns.length=ds.length/\hW K α (jo F α M H) ds b:=by
 cases d with
 |ins j ls es=>
  cases(e);obtain⟨a,c,b,rfl,q,l,z⟩:=h;exact⟨a,c,b,rfl,ip _ _ q,l,z⟩
 |loc k=>
  rcases iS e with e|⟨x,g,e⟩
  .cases e
  .cases x<;>cases e;obtain⟨a,i,c,b,q,l,r⟩:=o.own k _ g;obtain⟨m,f,rfl⟩:=h;rw[i] at f;cases f;exact⟨a,c,b,rfl,q,l,r⟩
 |_=>cases e
def KL(e:vw M d=.tup ds):d=.tup ds:=by
 cases d with
 |loc k=>rcases iS e with e|⟨x,a,e⟩<;>first|cases e|(cases x<;>cases e)
 |_=>exact e
def mn(e:vw M d=.str x):d=.str x:=by
 cases d with
 |loc k=>rcases iS e with e|⟨x,a,e⟩<;>first|cases e|(cases x<;>cases e)
 |_=>exact e
def ug(e:vw M d=.p6 x):d=.p6 x:=by
 cases d with
 |loc k=>rcases iS e with e|⟨x,a,e⟩<;>first|cases e|(cases x<;>cases e)
 |_=>exact e
def wu(e:vw M d=.int x):d=.int x:=by
 cases d with
 |loc k=>rcases iS e with e|⟨x,a,e⟩<;>first|cases e|(cases x<;>cases e)
 |_=>exact e
def lu(o:OK K F α H M)(h:Rep K α (jo F α M H) d v)(e:vw M d=.tup ds):∃a b,v=.ref a/\wj K H a b/\hW K α (jo F α M H) ds b:=by cases KL e;obtain⟨a,b,rfl,q,z⟩:=h;exact⟨a,b,rfl,lX ip q,z⟩
end
abbrev GP:=List D->(D->Prop)->Prop
def cl (g:GP):GN:=λds M Q=>lC ds=ag/\g ds λd=>Q d M
abbrev i9(g:GP):Prop:=∀ds (P Q:D->Prop),(∀d,P d->Q d)->g ds P->g ds Q
def Fk(m:i9 g):kx (cl g):=λxs M P Q w q=>⟨q.1,m _ _ _ (λd q=>w _ _ q) q.2⟩
noncomputable def ou(n:Nat)(ds:List D):lY:=ds.map aa++bW (n- ds.length) ar
def tJ (n m:Nat)(tb:DS):GN:=λds M Q=>ds.length=m/\tb ⟨λ_ a=>Q .non a,Q,λ_ _=>False,λ_ _=>False⟩ (ou n ds) M
def j8 (n m:Nat)(tb:DS):GP:=λds Q=>ds.length=m/\tb ⟨λ_ _=>Q .non,λd a=>nl (fz a d)=ag/\Q (fz a d),λ_ _=>False,λ_ _=>False⟩ (ou n ds) []
section
variable {K:af}
def AK(o:OK K F α H M)(r:hW K α (jo F α M H) ds a):R K F α H (L2.start N a) (ou N.length ds) M:=by
 have b:=hW.length _ _ r;refine⟨o,by simp[L2.start,ou,b],λi d h=>?_⟩;unfold ou at h;by_cases hi:i<ds.length
 .rw[aX (by simpa using hi)] at h;rw[bh] at h;cases e:ds[i]? with
  |none=>rw[e] at h;cases h
  |some x=>
   rw[e] at h;cases h;obtain⟨v,e1,c⟩:=hW.get ds a i d r e;refine⟨v,?_,c⟩;unfold L2.start;rw[aX (by simp;exact bw hi (gB b)),bh,e1];rfl
 .rw[cT (by simp;exact Nat.le_of_not_lt hi)] at h;have:=bA h;rw[List.mem_replicate] at this;cases this.2
def RZ{c:List aY}(b:C9 X body tb)(f:X.K=K)(h:kC K (tJ n.length c.length tb) g H Q E):
  ∃t,QB X body t/\t {nx:=λ_ a=>Q .non a,rt:=Q} (L2.start n g) H:=by subst f;obtain⟨F,α,M,ds,o,r,j,q⟩:=h;refine⟨_,⟨b.p⟩,F,α,ou n.length ds,M,AK o r,?_⟩;refine b.mono _ _ _ _ ?_ q;exact⟨λm s q u i a e r=>q _ i a e r.ok oJ,λ_ _ q=>q,λ_ _ q=>q.elim,λ_ _ q=>q.elim⟩
def lM{M2:Ms}(o:OK K F α H M)(e2:Ext (lv α M++F) [] H [] i c M2)(o2:OK K (lv α M++F) i c M2):Ext F α H M α c M/\OK K F α c M:=by
 have f:=λb x h=>oN _ _ (e2.same b x (by exact h))
 have fr:=e2.fr;have al:∀a,tR (H a)≠ar->tR (c a)≠ar:=λa h=>by
  by_cases z:a∈lv α M++F
  .rw[fr a z];exact h
  .cases e:H a with
   |none=>exact absurd (by rw[e]) h
   |some x=>
    rw[e] at h;have v:tR (aa x)=aa x:=by cases x<;>first|rfl|exact absurd rfl h
    have:=ip _ _ (f a x (jz z e v));rw[this,v];exactλz=>by cases z
 refine⟨⟨aV _,f,λa ha=>fr a (bL _ ha)⟩,o.ml,o.nd,λa ha=>⟨(o.fr a ha).1,al a (o.fr a ha).2⟩,λa ha=>al a (o.al a ha),λk x h=>?_,o2.tb⟩;obtain⟨a,g,j⟩:=o.own k x h;exact⟨a,g,j.mono (aV _) f (fr a (bV _ (mh.mpr ⟨k,x,g,h⟩)))⟩
def KN{i:List aY}(f:C9 X body tb)(j:X.K=K)(h:kC K (cl (j8 n.length i.length tb)) c H Q E):
  ∃t,QB X body t/\t {nx:=λ_ b=>Q .non b,rt:=Q} (L2.start n c) H:=by
 subst j;obtain⟨F,α,M,ds,o,r,hn,z,q⟩:=h;have m:OK X.K _ [] H []:=⟨rfl,eP,λa ha=>⟨by simp,by
  rcases bt.mp ha with ha|ha
  .exact o.MN a ha
  .exact(o.fr a ha).2⟩,λa ha=>(by simp at ha),λk x h=>(by simp at h),o.tb⟩
 have s:hW X.K [] _ ds c:=hW.nl ds c hn r;refine⟨_,⟨f.p⟩,lv α M++F,[],ou n.length ds,[],AK m s,?_⟩;refine f.mono _ _ _ _ ?_ q;refine⟨λA u q B y b e r=>?_,λd u q v y b e g r=>?_,λ_ _ q=>q.elim,λ_ _ q=>q.elim⟩
 .obtain⟨e1,o1⟩:=lM o e r.ok;exact q _ α b e1 o1 oJ
 .obtain⟨e1,o1⟩:=lM o e g;exact q.2 v α b e1 o1 (Rep.nl _ _ q.1 (RY g d v r))
end
noncomputable def wv(fr:List (Option Nat))(a:lY):lY:=fr.map λo=>match o with
 |none=>ar
 |some j=>(a[j]?).getD ar
noncomputable def Fm(fr:List (Option Nat))(a:lY):lY:=c7 (λo d=>match o with|none=>ar|some _=>d) fr a
def Ek (g:DG)(tt:DT)(e:DE)(x:D)(f:lY)(M:Ms)(c:Option D->lY->Ms->Prop):Prop:=
 g x f M λa M1=>tt a M1 λb M2=>if b=ag then e a M2 λd h=>c (aa d) a h else c ar a M2
def ri (fr:List (Option Nat))(g:DG)(tt:DT)(a:DE)(st:Ms->Prop)(Q:List D->Ms->Prop):List D->List D->lY->Ms->Prop
 |[],acc,_,M=>Q acc M
 |x::xs,acc,c,M=>Ek g tt a x c M λo b M1=>st M1/\match o with
  |some d=>acc.length<aO/\ri fr g tt a st Q xs (acc++[d]) (Fm fr b) M1
  |none=>ri fr g tt a st Q xs acc (Fm fr b) M1
def jO (fr:List (Option Nat))(b:DI)(g:DG)(tt:DT)(c:DE):DF:=λa M Q=>b a M λitems st M1=>st M1/\ri fr g tt c st (λds e=>Q (.lst ds) e) items [] (wv fr a) M1
structure JIf(X:Cx)(ifs:List bI)(t:DT):Prop where
 mono:∀δ M (P Q:Bool->Ms->Prop),(∀d M,P d M->Q d M)->t δ M P->t δ M Q
 p:PIf X ifs (lT X.K t)
def oO:DT:=λ_ M Q=>Q ag M
def Wi:JIf X [] oO:=⟨λa M P Q w q=>w _ _ q,λcc s σ H Q I zq=>by obtain⟨F,α,a,M,r,q⟩:=zq;exact VY cc s σ H Q I (q α H Ext.refl r.ok)⟩
def Wj(h:JT X c t):JIf X [c] t:=⟨h.mono,VZ h.p⟩
section
variable {K:af} {δ:lY}
theorem R.slots(r:R K F α H σ δ M)(fr:List _):R K F α H (L2.slots fr σ) (wv fr δ) M:=by
 refine⟨r.ok,by simp[L2.slots,wv],λi d h=>?_⟩;unfold wv at h;unfold L2.slots;rw[bh] at h |-;cases e:fr[i]? with
 |none=>rw[e] at h;cases h
 |some o=>
  rw[e] at h;cases o with
  |none=>cases h
  |some j=>
   have h:=by simpa using h
   cases e2:δ[j]? with
   |none=>rw[e2] at h;cases h
   |some q=>
    rw[e2] at h;subst h;obtain⟨v,e3,a⟩:=r.sl j d e2;exact⟨v,by show aa ((σ[j]?).getD ar)=_;rw[e3];rfl,a⟩
theorem R.Fm(r:R K F α H σ δ M)(a:fr.length=δ.length):R K F α H σ (L3.Fm fr δ) M:=by
 refine⟨r.ok,by simp[L3.Fm,a,r.len],λi d h=>?_⟩;unfold L3.Fm at h;rw[ail] at h;cases e:fr[i]? with
 |none=>rw[e] at h;simp at h
 |some o=>
  cases e2:δ[i]? with
  |none=>rw[e,e2] at h;simp at h
  |some q=>
   rw[e,e2] at h;cases o with
   |none=>simp at h
   |some j=>
    have h:=by simpa using h
    subst h;exact r.sl i d e2
def Ext.skip(o:OK K F α H M)(g:H p=ar)(e:Ext F α H M iB H' M')(e':Ext (p::F) iB H' M' RI H'' AJ):Ext F α H M RI H'' AJ:=by
 refine⟨e.pre.trans e'.pre,λb x h=>?_,λa ha=>(e'.fr a (aB _ ha)).trans (e.fr a ha)⟩;have hb:b≠p:=λz=>by have:=(iG h).2;rw[z,g] at this;cases this
 have c:=iG (e.same b x h);have i:jo (p::F) iB M' H' b=aa x:=by
  refine kX h (λw=>c.1 ?_) c.2
  .simp only [bt,aH] at w |-;rcases w with w|w|w
   .exact .inl w
   .exact absurd w hb
   .exact .inr w
 have f:=iG (e'.same b x i);refine kX h (λw=>f.1 ?_) f.2
 .simp only [bt,aH] at w |-;rcases w with w|w
  .exact .inl w
  .exact .inr (.inr w)
def Ext.OG(f:H p=ar)(g:p∉F)(e:Ext F α H M iB H' M'):Ext F α H M iB (upd H' p x) M':=by
 refine⟨e.pre,λb y h=>?_,λa ha=>by rw[hZ λz=>g (by rw[<-z];exact ha)];exact e.fr a ha⟩;have hb:b≠p:=λz=>by have:=(iG h).2;rw[z,f] at this;cases this
 have c:=iG (e.same b y h);exact kX h c.1 (by rw[hZ hb];exact c.2)
def Bs:jo (p::F) α M (upd H p x)=jo (p::F) α M H:=by
 funext b;show kN _ _ b=kN _ _ b;by_cases hb:b∈lv α M++p::F
 .rw[oK hb,oK hb]
 .rw[ku hb,ku hb,hZ λz=>hb (by rw[z];simp)]
def OK.OG(o:OK K (p::F) α H M)(f:tR (aa x)=aa x:=by rfl):OK K (p::F) α (upd H p x) M:=by
 have b:=(o.fr p aN).1;refine⟨o.ml,o.nd,λa ha=>⟨(o.fr a ha).1,?_⟩,λa ha=>?_,λk y h=>?_,o.tb.upd (.inl (o.fr p aN).2)⟩
 .by_cases e:a=p
  .rw[e,il,f];exactλz=>by cases z
  .rw[hZ e];exact(o.fr a ha).2
 .rw[hZ λz=>b (by rw[<-z];exact ha)];exact o.al a ha
 .obtain⟨a,c,g⟩:=o.own k y h;rw[Bs];exact⟨a,c,g.mono (aV _) (jC.refl _) (hZ λz=>b (by rw[<-z];exact bA c))⟩
theorem R.OG(r:R K (p::F) α H σ δ M)(a:tR (aa x)=aa x:=by rfl):R K (p::F) α (upd H p x) σ δ M:=⟨r.ok.OG a,r.len,λi d h=>by obtain⟨v,b,c⟩:=r.sl i d h;rw[Bs];exact⟨v,b,c⟩⟩
def R.aaZ(r:R K F α H σ δ M)(f:H p=ar)(m:tR (aa x)=aa x:=by rfl):R K (p::F) α (upd H p x) σ δ M:=by
 have o:=r.ok;have c:=λz=>o.al p z (by rw[f]);have g:jC (jo F α M H) (jo (p::F) α M (upd H p x)):=λb y h=>by
  obtain⟨z,q⟩:=iG h;have hb:b≠p:=λz=>by rw[z,f] at q;cases q
  refine kX h (λw=>z ?_) (by rw[hZ hb];exact q)
  .simp only [bt,aH] at w |-;rcases w with w|w|w
   .exact .inl w
   .exact absurd w hb
   .exact .inr w
 refine⟨⟨o.ml,o.nd,λa ha=>?_,λa ha=>?_,λk y h=>?_,o.tb.upd (.inr f)⟩,r.len,λi d h=>?_⟩
 .rcases aH.mp ha with e|e
  .subst e;exact⟨c,by rw[il,m];exactλz=>by cases z⟩
  .refine⟨(o.fr a e).1,?_⟩;rw[hZ λz=>(o.fr a e).2 (by rw[z,f])];exact(o.fr a e).2
 .rw[hZ λz=>c (by rw[<-z];exact ha)];exact o.al a ha
 .obtain⟨a,j,n⟩:=o.own k y h;exact⟨a,j,n.mono (aV _) g (hZ λz=>c (by rw[<-z];exact bA j))⟩
 .obtain⟨v,s,u⟩:=r.sl i d h;exact⟨v,s,Rep.mono (aV _) g _ _ u⟩
def Fn:er p H p=ar:=by unfold er;rw[if_pos rfl]
def zQ(h:b≠p):er p H b=H b:=by unfold er;rw[if_neg h]
def aa0{x:HO}(h:H p=aa x):upd (er p H) p x=H:=by
 funext b;by_cases e:b=p
 .rw[e,il,h]
 .rw[hZ e,zQ e]
def R0(o:OK K (p::F) α H M):jo F α M (er p H)=jo (p::F) α M H:=by
 funext b;show kN _ _ b=kN _ _ b;by_cases e:b=p
 .subst e;rw[oK (A:=lv α M++b::F) (by simp)];by_cases z:b∈lv α M++F
  .rw[oK z]
  .rw[ku z,Fn]
 .by_cases z:b∈lv α M++F
  .rw[oK z,oK (by simp only [bt,aH] at z |-;rcases z with z|z;exact .inl z;exact .inr (.inr z))]
  .rw[ku z,ku (by simp only [bt,aH] at z |-;rintro(w|w|w);exact z (.inl w);exact e w;exact z (.inr w)),zQ e]
theorem OK.er(o:OK K (p::F) α H M)(g:p∉F):OK K F α (L3.er p H) M:=by
 have c:=(o.fr p aN).1;refine⟨o.ml,o.nd,λa ha=>⟨(o.fr a (aB _ ha)).1,?_⟩,λa ha=>?_,λk x h=>?_,o.tb.imp λb y e v=>?_⟩
 .rw[zQ λz=>g (by rw[<-z];exact ha)];exact(o.fr a (aB _ ha)).2
 .rw[zQ λz=>c (by rw[<-z];exact ha)];exact o.al a ha
 .obtain⟨a,f,i⟩:=o.own k x h;rw[R0 o];exact⟨a,f,i.mono (aV _) (jC.refl _) (zQ λz=>c (by rw[<-z];exact bA f))⟩
 .rw[zQ λz=>(o.fr p aN).2 (by rw[<-z,e];exact v)];exact e
theorem Ext.er(f:H p=ar)(g:p∉F)(e:Ext F α H M iB H' M'):Ext F α H M iB (L3.er p H') M':=by
 refine⟨e.pre,λb y h=>?_,λa ha=>by rw[zQ λz=>g (by rw[<-z];exact ha)];exact e.fr a ha⟩;have hb:b≠p:=λz=>by have:=(iG h).2;rw[z,f] at this;cases this
 have c:=iG (e.same b y h);exact kX h c.1 (by rw[zQ hb];exact c.2)
end
section
variable {X:Cx} {fr:List (Option Nat)} {iter:bI}
theorem ww(c:∀d a M (P Q:lY->Ms->Prop),(∀a M,P a M->Q a M)->g d a M P->g d a M Q)(ht:∀a M (P Q:Bool->Ms->Prop),(∀d M,P d M->Q d M)->tt a M P->tt a M Q)(e:∀a M (P Q:DK),(∀d M,P d M->Q d M)->te a M P->te a M Q)
{st:Ms->Prop}(w:∀l M,P l M->Q l M):∀xs acc a M,ri fr g tt te st P xs acc a M->ri fr g tt te st Q xs acc a M
 |[],acc,a,M,q=>w _ _ q
 |x::xs,acc,a,M,q=>by
  refine c _ _ _ _ _ (λf M1 q=>ht _ _ _ _ (λb M2 q=>?_) q) q;cases b with
  |true=>
   exact e _ _ _ _ (λd h q=>⟨q.1,q.2.1,ww c ht e w xs _ _ _ q.2.2⟩) q
  |false=>
   exact⟨q.1,ww c ht e w xs _ _ _ q.2⟩
def El(hI:JI X target iter ti)(hg:∀d a M (P Q:lY->Ms->Prop),(∀a M,P a M->Q a M)->g d a M P->g d a M Q)(ht:∀a M (P Q:Bool->Ms->Prop),(∀d M,P d M->Q d M)->tt a M P->tt a M Q)(he:∀a M (P Q:DK),(∀d M,P d M->Q d M)->te a M P->te a M Q)
(U8:∀d a M (P:lY->Ms->Prop),g d a M P->g d a M λnA M1=>nA.length=a.length/\P nA M1)(h:lF X.K (jO fr ti g tt te) σ H Q):MJ fr (lI X ti) (lG X.K g) (lT X.K tt) (lE X.K te) σ H (λv=>TH X (Q v)):=by
 obtain⟨F,α,a,M,r,h⟩:=h;refine⟨F,α,a,M,r,hI.mono a _ _ _ (λitems st M1 q J Y H0 H1 T e1 o1 z it p s=>?_) h⟩;obtain⟨s1,q⟩:=q;have u:p∉F:=λw=>(z.ok.fr p w).2 (by rw[s]);refine⟨λi m L jt j=>m=items.length- i/\i<=items.length/\∃o O f acc,Ext F Y H1 M1 o j f/\R X.K (p::F) o j jt O f/\O.length=fr.length/\st f/\j p=aa (.lst L)/\hW X.K o (jo (p::F) o f j) acc L/\
   ri fr g tt te st (λds f=>fK X.K F α H M Q (.lst ds) f) (items.drop i) acc O f,⟨_,rfl,bD _,Y,wv fr a,M1,[],Ext.refl.OG s u,((z.rs (r.grow e1 o1)).slots fr).aaZ s,by simp[wv],s1,il,hW.nil,q⟩,?_⟩
 rintro i m L jt j ⟨rfl,MS,o,O,f,acc,e',G,MU,s',hy,ry,q'⟩
 have B:jC (jo F Y M1 H1) (jo (p::F) o f j):=λb x h=>by
  have hb:b≠p:=λw=>by have:=(iG h).2;rw[w,s] at this;cases this
  have h1:=iG (e'.same b x h);refine kX h (λw=>h1.1 ?_) h1.2
  .simp only [bt,aH] at w |-;rcases w with w|w|w
   .exact .inl w
   .exact absurd w hb
   .exact .inr w
 by_cases Al:i<items.length
 .rw[List.drop_eq_getElem_cons Al] at q';refine .inr ⟨it.go i (p::F) o j f e'.pre B G.ok s' Al,λC E2 I=>∃rg OE M2 U,Ext F Y H1 M1 rg I M2/\R X.K (p::F) rg I E2 OE M2/\OE.length=fr.length/\st M2/\I p=aa (.lst C)/\hW X.K rg _ U C/\
   ri fr g tt te st (λds f=>fK X.K F α H M Q (.lst ds) f) _ U OE M2,λC E2 I h=>⟨_,by lia,rfl,Al,h⟩,λx I y=>?_⟩
  obtain⟨o2,e2,rx⟩:=it.yld i (p::F) o j f x I items[i] e'.pre B G.ok s' (by simp[Al]) y;refine⟨p::F,o,O,f,items[i],G.grow e2 o2,rx,hg _ _ _ _ _ (λWh M3 q3 J2 Di H3 e3 r3=>?_) (U8 _ _ _ _ q')⟩;obtain⟨l3,q3⟩:=q3;refine⟨p::F,Di,Wh,M3,r3,ht _ _ _ _ (λb M4 q4 J3 H4 e4 o4=>?_) q3⟩;have A:=(e2.trans e3).trans e4;have pm:p∈p::F:=aN;cases b with
  |false=>
   show(if au=ag then _ else _);refine⟨J3,Fm fr Wh,M4,acc,Ext.skip z.ok s e' A,(r3.grow e4 o4).Fm (by rw[l3,MU]),by simp[Fm,l3,MU],q4.1,by rw[A.fr p pm];exact hy,A.Bk ry,q4.2⟩
  |true=>
   show(if ag=ag then _ else _);refine⟨p::F,J3,Wh,M4,r3.grow e4 o4,he _ _ _ _ (λd M5 q5 v α5 H5 e5 o5 r5=>?_) q4⟩;have E:=A.trans e5;have ry5:=E.Bk ry;refine⟨by rw[E.fr p pm];exact hy,by rw[<-hW.length _ _ ry];exact q5.2.1,α5,Fm fr Wh,M5,acc++[d],(Ext.skip z.ok s e' E).OG s u,(((r3.grow e4 o4).grow e5 o5).Fm (by rw[l3,MU])).OG,by simp[Fm,l3,MU],q5.1,il,?_,q5.2.2⟩;rw[Bs];exact hW.append _ _ _ _ ry5 (hW.one r5)
 .have e:i=items.length:=by exact Nat.le_antisymm MS (Nat.le_of_not_lt Al)
  subst e;rw[List.drop_length] at q';refine .inl ⟨it.stop (p::F) o j f e'.pre B G.ok s',?_⟩;have eE:=e'.er s u;have oE:=G.ok.er u;obtain⟨t1,t2,t3⟩:=z.e o (L3.er p j) f eE oE;have hn:T (L3.er p j) p=ar:=z.n p _ s Fn;have:=q' p (.lst L) o _ (e1.trans t1) t2 hn ⟨L,rfl,?_⟩
  .rw[z.c p j _ s hy] at this;exact z.h o j f _ e' this
  .refine hW.imp t3 _ _ ?_;rw[R0 G.ok];exact ry
abbrev Hs(g:DG):Prop:=∀d a M (P:lY->Ms->Prop),g d a M P->g d a M λb M1=>b.length=a.length/\P b M1
abbrev Ht(g:Wd):Prop:=∀d a M (P:lY->Ms->Prop),g d a M P->g d a M λb M1=>b.length=a.length/\P b M1
def Wk:Hs (ib i):=λd a M P q=>⟨by simp,q⟩
def aa1:Ht jZ:=λd a M P q=>⟨q.1,rfl,q.2⟩
def aa2(a:Ht gs):Hs (jR n gs):=λd b M P q=>by cases d<;>first|exact q.elim|exact⟨q.1,a _ _ _ _ q.2⟩
def MV(c:oq X N fr scope)(hi:JI X target iter ti)(f:Hs g)
(a:∀C ex cc iA iH,JG (wn X scope N C ex cc iA iH λ_ _=>False) target g)(ht:∀C ex cc iA iH,JIf (wn X scope N C ex cc iA iH λ_ _=>False) ifs tt)(b:∀C ex cc iA iH,JE (wn X scope N C ex cc iA iH λ_ _=>False) elt te)
(i:X.calm=ag:=by rfl)(j:∀x,de iter X.env x=pure x:=by intro _;rfl):JF X (.ListComp elt [⟨target,iter,ifs,0⟩] scope pos) (jO fr ti g tt te):=by
 have mg:=(a 0 [] [] X.iA X.iH).mono;have mt:=(ht 0 [] [] X.iA X.iH).mono;have e:=(b 0 [] [] X.iA X.iH).mono;exact⟨λm M P Q w q=>hi.mono _ _ _ _ (λl s M1 q=>⟨q.1,ww mg mt e (λl M q=>w _ _ q) _ _ _ _ q.2⟩) q,
  RN (V1 c i hi.p (λ_ _ _ _ _=>(a _ _ _ _ _).p) (λ_ _ _ _ _=>(ht _ _ _ _ _).p) (λ_ _ _ _ _=>(b _ _ _ _ _).p) j) λσ H Q h=>El hi mg mt e f h⟩
def R3(i:Nat)(s:X.N.Nodup)(c:oq X N fr scope)(hi:JI X target iter ti)(f:Hs g)
(a:∀C ex cc iA iH,JG (wn X scope N C ex cc iA iH λ_ _=>False) target g)(ht:∀C ex cc iA iH,JIf (wn X scope N C ex cc iA iH λ_ _=>False) ifs tt)(b:∀C ex cc iA iH,JE (wn X scope N C ex cc iA iH λ_ _=>False) elt te)
(u:X.N[i]?=aa x:=by rfl)(y:Loc X.env.scope x:=by first|exact ah3 rfl|exact gQ rfl)
(e:eO (.ListComp elt [⟨target,iter,ifs,0⟩] scope pos) (aa (.Name x p)) z.line X.env=pure ag:=by rfl)(A:X.fn x=ag\/X.env.scope.names.lookup x=aa .local:=by first|exact .inl rfl|exact .inr rfl|assumption)
(h:X.calm=ag:=by rfl)(j:∀x,de iter X.env x=pure x:=by intro _;rfl):
  JS X (.Assign [.Name x p] (.ListComp elt [⟨target,iter,ifs,0⟩] scope pos) z) (iV i (jn (jO fr ti g tt te))):=by
 have mg:=(a 0 [] [] X.iA X.iH).mono;have mt:=(ht 0 [] [] X.iA X.iH).mono;have B:=(b 0 [] [] X.iA X.iH).mono;have m:JF X (.ListComp elt _ scope pos) _:=MV c hi f a ht b h j;have cq:=V2 (g:=lG X.K g) (tt:=lT X.K tt) (te:=lE X.K te) c h hi.p (λ_ _ _ _ _=>(a _ _ _ _ _).p) (λ_ _ _ _ _=>(ht _ _ _ _ _).p) (λ_ _ _ _ _=>(b _ _ _ _ _).p) s u y e A j;refine⟨λP Q n M w q=>?_,Ho cq λE σ H q=>El hi mg mt B f ?_⟩
 .unfold iV jn at q |-;refine m.mono _ _ _ _ ?_ q;exactλo M1 q=>w.nx _ _ q
 .obtain⟨F,α,n,M,r,q⟩:=q;refine⟨F,α,n,M,r,?_⟩;unfold iV jn at q;refine m.mono _ _ _ _ ?_ q;exactλo M1 q=>fK.om λv G I e1 o1 J=>q _ G I e1 ((r.grow e1 o1).set J)
end
def gI (C:Int->Int->Prop)(f:Int->Int->D):G2:=λx y M Q=>match x,y with|.int i,.int j=>C i j/\Q (f i j) M|_,_=>False
def AL:ud (gI C f):=by
 intro x y M P Q w q;unfold gI at*;split at q
 .exact⟨q.1,w _ _ q.2⟩
 .exact q.elim
def OH (f:Int->Int->D):G2:=λx y M Q=>match x,y with|.int i,.int j=>Q (f i j) M|_,_=>False
def Hu:ud (OH f):=by
 intro x y M P Q w q;unfold OH at*;split at q
 .exact w _ _ q
 .exact q.elim
section
variable {X:Cx}
def YZ{K:af}(h:rD K (OH f) x y H Q):∃F α M i j,OK K F α H M/\x=.int i/\y=.int j/\vK K F α H M Q (f i j) M:=by
 obtain⟨F,α,M,c,e,o,a,b,h⟩:=h;unfold OH at h;split at h<;>first|exact h.elim|skip
 exact⟨F,α,M,_,_,o,a,b,h⟩
def aed{K:af}(h:rD K (gI C f) x y H Q):∃F α M i j,OK K F α H M/\x=.int i/\y=.int j/\C i j/\vK K F α H M Q (f i j) M:=by
 obtain⟨F,α,M,c,e,o,a,b,h⟩:=h;unfold gI at h;split at h<;>first|exact h.elim|skip
 exact⟨F,α,M,_,_,o,a,b,h⟩
def aa3:JO X .Sub (OH λi j=>.int (i- j)):=⟨Hu,λcc s σ H x y v u Q I a b h=>by obtain⟨F,α,M,i,j,o,c,e,h⟩:=YZ h;exact aal cc s σ H x y v u Q I a b ⟨_,_,c,e,vK.now o h i8⟩⟩
def aa4:JO X .Mod (gI (λ_ j=>0<j) λi j=>.int (i%j)):=⟨AL,λcc s σ H x y v u Q I a b h=>by obtain⟨F,α,M,i,j,o,c,e,h,f⟩:=aed h;exact aan cc s σ H x y v u Q I a b ⟨_,_,c,e,h,vK.now o f i8⟩⟩
def aa5:JO X .Pow (gI E3 λi j=>.int (i^j.toNat)):=⟨AL,λcc s σ H x y v u Q I a b h=>by obtain⟨F,α,M,i,j,o,c,e,h,f⟩:=aed h;exact aao cc s σ H x y v u Q I a b ⟨_,_,c,e,h,vK.now o f i8⟩⟩
def aee:JC X .Gt (OH λi j=>.bl (decide (j<i))):=⟨Hu,λcc s σ H x y v u Q I a b h=>by obtain⟨F,α,M,i,j,o,c,e,h⟩:=YZ h;exact adK cc s σ H x y v u Q I a b ⟨_,_,c,e,vK.now o h jb⟩⟩
def U9:G2:=λx y M Q=>match x,y with|.int i,.int j=>Q (.bl (decide (i<j))) M|.str i,.str j=>Q (.bl (decide (i.cps.toList<j.cps.toList))) M|_,_=>False
def wx:G2:=λx y M Q=>match x,y with|.int i,.int j=>Q (.bl (decide (i<=j))) M|.str i,.str j=>Q (.bl (!decide (j.cps.toList<i.cps.toList))) M|_,_=>False
def aef:JC X .Lt U9:=by
 refine⟨λx y M P Q w q=>?_,λcc s σ H x y v u Q I a b h=>?_⟩
 .unfold U9 at*;split at q<;>first|exact q.elim|exact w _ _ q
 .obtain⟨F,α,M,f,g,o,c,e,h⟩:=h;unfold U9 at h;split at h<;>first|exact h.elim|skip
  .exact adI cc s σ H x y v u Q I a b ⟨_,_,c,e,vK.now o h jb⟩
  .exact Om cc s σ H x y v u Q I a b ⟨_,_,c,e,vK.now o h jb⟩
def aeg:JC X .LtE wx:=by
 refine⟨λx y M P Q w q=>?_,λcc s σ H x y v u Q I a b h=>?_⟩
 .unfold wx at*;split at q<;>first|exact q.elim|exact w _ _ q
 .obtain⟨F,α,M,f,g,o,c,e,h⟩:=h;unfold wx at h;split at h<;>first|exact h.elim|skip
  .exact adJ cc s σ H x y v u Q I a b ⟨_,_,c,e,vK.now o h jb⟩
  .exact OC cc s σ H x y v u Q I a b ⟨_,_,c,e,vK.now o h jb⟩
noncomputable def isN:D->Bool
 |.non=>ag
 |_=>au
def Wl{K:af}(h:Rep K α H d v):decide (v=.non)=isN d:=by
 cases d<;>unfold Rep at h;case tup=>obtain⟨_,_,rfl,_⟩:=h;rfl
 case lst=>obtain⟨_,_,rfl,_⟩:=h;rfl
 case jD=>obtain⟨_,_,rfl,_⟩:=h;rfl
 case ins=>obtain⟨_,_,_,rfl,_⟩:=h;rfl
 case exc=>obtain⟨_,_,rfl,_⟩:=h;rfl
 case p6=>obtain⟨_,rfl,_⟩:=h;rfl
 case loc=>obtain⟨_,_,rfl⟩:=h;rfl
 all_goals subst h;rfl
def gIs:G2:=λx y M Q=>match y with|.non=>Q (.bl (isN x)) M|_=>False
def aeh:JC X .Is gIs:=by
 refine⟨λx y M P Q w q=>?_,λcc s σ H x y v u Q I a b h=>?_⟩
 .cases y<;>first|exact q.elim|exact w _ _ q
 .obtain⟨F,α,M,g,c,o,e,f,h⟩:=h;cases c<;>first|exact h.elim|skip
  exact aaq cc s σ H x y v u Q I a b ⟨f,by rw[Wl e];exact vK.now o h jb⟩
def iW:G2:=λx y M Q=>match vw M x,vw M y with
 |.int i,.int j=>Q (.int (i+j)) M
 |.str i,.str j=>i.length+j.length<=aO/\Q (.str (i++j)) M
 |.lst xs,.lst a=>xs.length+a.length<=aO/\Q (.lst (xs++a)) M
 |.tup xs,.tup a=>xs≠[]/\xs.length+a.length<=aO/\Q (.tup (xs++a)) M
 |_,_=>False
def aa6:JO X .Add iW:=by
 refine⟨λx y M P Q w q=>?_,λcc s σ H x y v u Q I j m h=>?_⟩
 .unfold iW at q |-;generalize vw M x=a at q |-;generalize vw M y=b at q |-;split at q<;>first|exact q.elim|exact w _ _ q|exact⟨q.1,w _ _ q.2⟩|exact⟨q.1,q.2.1,w _ _ q.2.2⟩
 .obtain⟨F,α,M,E,G,o,c,n,h⟩:=h;unfold iW at h;generalize e1:vw M E=a at h;generalize e2:vw M G=b at h;split at h<;>first|exact h.elim|skip
  .cases wu e1;cases wu e2;exact aak cc s σ H x y v u Q I j m ⟨_,_,c,n,vK.now o h i8⟩
  .cases mn e1;cases mn e2;exact Kl cc s σ H x y v u Q I j m ⟨_,_,c,n,h.1,vK.now o h.2 oI⟩
  .obtain⟨a,A,rfl,B,f⟩:=jh o c e1;obtain⟨b,us,rfl,C,g⟩:=jh o n e2;have r:=hW.length _ _ f;have z:=hW.length _ _ g;exact Ru cc s σ H _ _ v u Q I j m ⟨a,b,A,us,rfl,rfl,B,C,by rw[<-r,<-z];exact h.1,λp i=>vK.new o i h.2 (nK o i (hW.append _ _ _ _ f g))⟩
  .obtain⟨a,A,rfl,B,f⟩:=lu o c e1;obtain⟨b,us,rfl,C,g⟩:=lu o n e2;have r:=hW.length _ _ f;have z:=hW.length _ _ g;refine VN cc s σ H _ _ v u Q I j m ⟨a,b,A,us,rfl,rfl,B,C,?_,by rw[<-r,<-z];exact h.2.1,λe=>?_,λ_ p i=>vK.new o i h.2.2 (kP o i (hW.append _ _ _ _ f g))⟩
   .intro e;subst e;exact h.1 (ah4.mp r)
   .subst e;have:=ah4.mp z;subst this;refine vK.now o h.2.2 ?_;rw[bu];rw[KL e1] at c;exact c
noncomputable def Hv:D->Option Key
 |.int i=>aa (.inl i)
 |.str x=>aa (.inr x)
 |_=>ar
noncomputable def mf(k:Key):List Key->List D->Option D
 |k'::a,d::ds=>if k'=k then aa d else mf k a ds
 |_,_=>ar
def pk{K:af}(h:Rep K α H d v)(e:Hv d=aa k):v=kV k:=by
 cases d<;>cases e
 .exact h
 .exact h
theorem nM{K:af}:∀(a:List Key) (ds:List D) (b:List V),hW K α H ds b->a.length=ds.length->
  (∀d,mf k a ds=aa d->∃v,qL (a.zip b) k=aa v/\Rep K α H d v)/\(mf k a ds=ar->qL (a.zip b) k=ar)
 |[],ds,b,h,l=>⟨λd e=>by simp[mf] at e,λ_=>rfl⟩
 |k'::a,[],b,h,l=>by simp at l
 |k'::a,d::ds,b,h,l=>by
  obtain⟨v,r,rfl,z,y⟩:=h;have c:=nM (k:=k) a ds r y (by simpa using l);rw[cQ];by_cases e:k'=k
  .rw[xz e];unfold mf;rw[if_pos e];exact⟨λf e'=>⟨v,rfl,by cases e';exact z⟩,λe'=>by cases e'⟩
  .rw[xA e];unfold mf;rw[if_neg e];exact c
def Wm(c:X.A.units+1<eC):IxR X (λx y H Q=>∃a v,x=.ref a/\rf H a y (aa v)/\Q v H):=by
 intro value slice cc s σ H x y v u Q I e f h i;obtain⟨a,z,rfl,g,q⟩:=h;cases e;refine ae ?_;refine ae (gM (Hg I g) PySem.F.slot_dict_getitem.lookup ?_);have b:wpAny (model X.prog X.w) X.A (subscripted slice au (.ref a) u) (λr j=>wpAny (model X.prog X.w) X.A (akh value (.ref a) r >>= λ_=>pure r) (EP X cc σ Q) X.xe j) X.xe s:=by rw[i];exact aj7 (Ou c I g f λo s3 m n=>ae (ajD (ay ⟨z,H,m,n,q⟩)))
 first
  |exact ay (ae b)
  |exact ae _
  |exact ae b
def jl:G2:=λx y M Q=>match vw M x,y with
 |.lst xs,.int i=>∃d,C8 xs i=aa d/\Q d M
 |.tup xs,.int i=>∃d,C8 xs i=aa d/\Q d M
 |.p6 xs,.int i=>∃d,C8 xs i=aa d/\Q (.int d) M
 |.str z,.int i=>z.length<=aO/\∃c,C8 z.cps.toList i=aa c/\Q (.str ⟨#[c]⟩) M
 |.jD a ds,y=>∃k d,Hv y=aa k/\mf k a ds=aa d/\Q d M
 |_,_=>False
def jx(J:X.A.units+1<eC):JX X jl:=by
 refine⟨λx y M P Q w q=>?_,λvalue slice cc s σ H x y v u Q I n p h r=>?_⟩
 .unfold jl at q |-;generalize vw M x=a at q |-;split at q<;>first
   |exact q.elim
   | (obtain⟨k,d,f,C,g⟩:=q;exact⟨k,d,f,C,w _ _ g⟩)
   | (obtain⟨d,f,g⟩:=q;exact⟨d,f,w _ _ g⟩)
   | (obtain⟨L,d,f,g⟩:=q;exact⟨L,d,f,w _ _ g⟩)
 .obtain⟨F,α,M,N,db,o,m,b,h⟩:=h;unfold jl at h;generalize e1:vw M N=a at h;split at h<;>first|exact h.elim|skip
  .obtain⟨a,z,rfl,i,B⟩:=jh o m e1;unfold Rep at b;obtain⟨d,e,h⟩:=h;obtain⟨w,E,G⟩:=B.at e;exact MI value slice cc s σ H _ y v u Q I n p ⟨a,z,_,w,rfl,b,l9.of i,E,vK.now o h G⟩ r
  .obtain⟨a,z,rfl,i,B⟩:=lu o m e1;unfold Rep at b;obtain⟨d,e,h⟩:=h;obtain⟨w,E,G⟩:=B.at e;exact Rp value slice cc s σ H _ y v u Q I n p ⟨a,z,_,w,rfl,b,i,E,vK.now o h G⟩ r
  .cases ug e1;unfold Rep at m b;obtain⟨a,rfl,i⟩:=m;obtain⟨d,e,h⟩:=h;refine MI value slice cc s σ H _ y v u Q I n p ⟨a,_,_,.int d,rfl,b,kE ip i,?_,vK.now o h i8⟩ r;unfold C8 at e |-;rw[ao];cases q:U5 _ _ with
   |none=>rw[q] at e;cases e
   |some j=>
    rw[q] at e;show(List.map V.int _)[j]?=_;have e':(_:List Int)[j]?=aa d:=e;rw[bh,e'];rfl
  .cases mn e1;obtain⟨O,c,e,h⟩:=h;exact KA value slice cc s σ H x y v u Q I n p ⟨_,_,c,m,b,O,e,vK.now o h oI⟩ r
  .obtain⟨k,d,f,C,g⟩:=h;obtain⟨a,z,rfl,i,T,B⟩:=mX o m e1;obtain⟨U,Y,rv⟩:=(nM _ _ z B T).1 d C;cases pk b f;exact Wm J value slice cc s σ H _ _ v u Q I n p ⟨a,U,rfl,by rw[<-Y];exact rf.kr i,vK.now o g rv⟩ r
noncomputable def cutD{β:Type}(xs:List β)(lo hi:Option Int):List β:=(xs.drop (HT.p9 xs.length 0 lo)).take (HT.p9 xs.length xs.length hi- HT.p9 xs.length 0 lo)
def hW.cut{K:af}(h:hW K α H ds a)(lo hi:Option Int):hW K α H (cutD ds lo hi) (Ow a lo hi):=by unfold cutD Ow;rw[hW.length _ _ h];exact hW.take _ _ _ (hW.drop _ _ _ h)
end
end L3
end
namespace PySem
open Sem (wp)
open Builtin
section
variable {A:bH} {s:av}
def uh(b:s.heap.IsTupleIter it t i)
(ht:s.heap.IsTuple t items)(e:items[i]?=aa x)
(f:∀c,c.IsTupleIter it t (i+1)->bO it s.heap c->Q x {s with heap:=c}):
  wpAny (model prog w) A (dQ (.ref it)) Q E s:=by
 obtain⟨o,a,hc,hd⟩:=id b;obtain⟨h,g,_,nl,J8⟩:=ht;refine ae (df b.typeIs eX
  (cD eX b.typeIs F.entry_tuple_iterator_next ?_ (F.args_tuple_iterator_next_1 _)))
 show wpAny _ _ (field _ 0 >>= _) _ _ s;refine ae (cA a hd (x:=.ref t) rfl ?_);refine ae (cA a hd rfl ?_);refine ae (dz g J8 ?_);simp only [Int.toNat_natCast,e];refine ae (fX a hd (by simp) (ay ⟨x,rfl,ay (f _ ?_ (cI ..))⟩));exact⟨_,cX _ a (eJ (c5 hd _)),(cB.cls_mapFields ..).trans hc,by
  rw[c5 hd];simp[ahZ]⟩
def vS(g:A.handled=ar)
(b:s.heap.IsTupleIter it l i)(h:s.heap.IsTuple l items)(j:items[i]?=ar)
(n:∀c e,aC.ExtBut it s.heap c->(∃o,c.get? e=aa o/\o.cls=.type "StopIteration")->E (.ref e) {s with heap:=c}):
  wpAny (model prog w) A (dQ (.ref it)) Q E s:=by
 obtain⟨o,f,hc,hd⟩:=id b;obtain⟨q,p,_,nl,J8⟩:=h;refine ae (df b.typeIs eX
  (cD eX b.typeIs F.entry_tuple_iterator_next ?_ (F.args_tuple_iterator_next_1 _)))
 show wpAny _ _ (field (.ref it) 0 >>= _) _ _ s;refine ae (cA f hd (x:=.ref l) rfl ?_);refine ae (cA f hd (x:=.int i 0) rfl ?_);refine ae (dz p J8 ?_);simp only [Int.toNat_natCast,j];refine ae (ah0 (ae (fX f hd (by simp) ?_)));refine ae ?_;refine ae (m:=firstArgMember _ _) (wpAny_of_eq (a:=cL) (by first|rfl|(rfl)) ?_);refine ah9 ?_ (by size_fits);refine ae (wpAny_handled ?_);first|rw[g]|rw[g]
 refine ae (ay (wpAny_throw ?_));exact n _ _ (((cI ..).extBut.push _).push _) ⟨_,aP _ rfl,rfl⟩
end
def Bt(f:A.handled=ar)(it l:aw)(g:l≠it)(items:Array ai):
  aia prog w A it [it,l] items.size (λi v=>items[i]?=aa v) (λi h=>h.IsTupleIter it l i/\h.IsTuple l items) where
 live:=λ_ _ st=>let⟨o,a,_⟩:=st.1;⟨o,a⟩
 frame:=λ_ _ _ st c=>⟨let⟨o,a,r⟩:=st.1;⟨o,c it (by simp) o a,r⟩,let⟨o,a,r⟩:=st.2;⟨o,c l (by simp) o a,r⟩⟩
 item:=λi s Q E hi st j=>by refine uh st.1 st.2 (x:=items[i]) (by simp[hi]) λm b e=>?_;exact j _ m s.toks (by simp[hi]) ⟨b,st.2.extBut e.extBut g⟩ e
 done:=λs Q E st n=>vS f st.1 st.2 (by simp) n
def oP(D:aia prog w A it a n P St)(h:∀i v,P i v->P' i v):aia prog w A it a n P' St where
 live:=D.live
 frame:=D.frame
 item:=λi s Q E hi st b=>D.item i s Q E hi st λx c tk p=>b x c tk (h _ _ p)
 done:=D.done
set_option tactic.hygienic true in
def An(l:aw)(items:Array ai):
  Meets (bM.«enumerate.__new__» ⟨[.type jE,.ref l],[]⟩) (λ_ R s=>s.heap.IsTuple l items/\
   R (.ok (.ret (.ref (s.heap.push {cls:=.type tS,data:=.fields #[.ref l,.int 0 0]}).objs.size)))
    {s with heap:=(s.heap.push {cls:=.type tS,data:=.fields #[.ref l,.int 0 0]}).push {cls:=.type jE,data:=.fields #[.none,.bool au,.ref s.heap.objs.size,ahZ 0,.none,.none]}}):=
 .of_wp λprog w A R s h=>by
  obtain⟨f,g,d,tk,os⟩:=s;obtain⟨e,h⟩:=h;have i:=sub_enumerate;have a:aC.IsTuple (av.heap ⟨f,g,d,tk,os⟩) l items:=e;obtain⟨⟨c,jD,j,sl⟩,b,hc,n,hd⟩:=e;replace hc:c=.type ej:=hc;replace hd:j=.seq items n:=hd;subst hc hd
  wp_walk using eT b
  refine wpAny_stack_any λst=>ay ?_;split
  .rename_i c _ _ _ _ _;cases(c==c8 jE)
   .wp_walk using eT b,fJ a
    exact⟨_,rfl,h⟩
   .wp_walk using eT b,fJ a
    exact⟨_,rfl,h⟩
  .wp_walk using eT b,fJ a
   exact⟨_,rfl,h⟩
section
variable {s:av}
def Bu(f:s.heap.IsTuple l items)
(h:∀a,IsEnum a (s.heap.objs.size+1) s.heap.objs.size 0 .none->a.IsTupleIter s.heap.objs.size l 0->a.objs.size=s.heap.objs.size+2->
   (∀b o,s.heap.get? b=aa o->a.get? b=aa o)->Q (.ref (s.heap.objs.size+1)) {s with heap:=a}):
  wpAny (model prog w) A (call (.type jE) [.ref l]) Q E s:=by
 refine callType_new F.called_enumerate (by decide) (F.typeCall_enumerate_1 _) (F.newCall_enumerate_1 _) (λobj=>F.args_object_init_2 obj _) F.entry_enumerate_new
  (An l items) ⟨f,?_⟩
 have c:(s.heap.push {cls:=.type tS,data:=.fields #[.ref l,.int 0 0]}).objs.size=s.heap.objs.size+1:=ci ..;rw[c];have e:=by
  have:=aP (s.heap.push {cls:=.type tS,data:=.fields #[.ref l,.int 0 0]})
   (o:={cls:=.type jE,data:=.fields #[.none,.bool au,.ref s.heap.objs.size,ahZ 0,.none,.none]}) rfl
  rw[c] at this;exact this
 refine⟨⟨_,e,rfl⟩,h _ e ⟨_,aj _ (aP _ rfl),rfl,rfl⟩ (by rw[ci,c]) λb o x=>aj _ (aj _ x)⟩
end
open Sem (wp)
open Builtin
structure Em(z TI TO i1 i2:aw)(OI Hw:List aw):Prop where
 TIz:TI≠z
 TOz:TO≠z
 TITO:TI≠TO
 TIi1:TI≠i1
 TIi2:TI≠i2
 i1m:i1∈OI
 i2m:i2∈Hw
 zf1:z∉OI
 zf2:z∉Hw
 of1:TO∉OI
 of2:TO∉Hw
 aej:i1∉Hw
 ag7:i2∉OI
section
variable {A:bH} {s:av} {TI TO:aw}
def kZ(D:aia prog w A it a n P St)(st:St i h)(f:bO c h g)(hc:c∉a):St i g:=
 D.frame _ _ _ st λb hb o e=>f.extBut b o (λq=>hc (by rw[<-q];exact hb)) e
def yT{i:Nat}{a b:ai}{Q:ai->av->Prop}(Z:Em z TI TO i1 i2 OI Hw)(r:aia prog w A i1 OI n1 P1 S1)(u:aia prog w A i2 Hw n2 P2 S2)
(C:aib s.heap z TI TO .none)(Wo:d7 s.heap TI (.ref i1) (.ref i2))(OJ:d7 s.heap TO a b)(h1:S1 i s.heap)(h2:S2 i s.heap)(l1:i<n1)(l2:i<n2)
(hQ:∀x y h tk,P1 i x->P2 i y->aib h z TI TO (ahZ s.heap.objs.size)->d7 h TO x y->S1 (i+1) h->S2 (i+1) h->d7 h s.heap.objs.size x y->h.objs.size=s.heap.objs.size+1->
   (∀c o,c≠z->c≠TO->c≠i1->c≠i2->s.heap.get? c=aa o->h.get? c=aa o)->Q (.ref s.heap.objs.size) {s with heap:=h,toks:=tk}):
  wpAny (model prog w) A (bM.«zip.__next__» ⟨[.ref z],[]⟩) (λjG s'=>∃v,jG=.done (.ret v)/\Q v s') E s:=by
 have Y:i1≠z:=λq=>Z.zf1 (by rw[<-q];exact Z.i1m);have i2z:i2≠z:=λq=>Z.zf2 (by rw[<-q];exact Z.i2m);have aa7:TO≠i1:=λq=>Z.of1 (by rw[q];exact Z.i1m);have ag8:TO≠i2:=λq=>Z.of2 (by rw[q];exact Z.i2m);show wpAny _ _ (field (.ref z) 2 >>= _) _ _ _;refine ae (cA C rfl (x:=.bool au) rfl ?_);show wpAny _ _ (field (.ref z) 3 >>= _) _ _ _;refine ae (cA C rfl (x:=.ref TI) rfl ?_);refine ae (dz Wo rfl ?_);show wpAny _ _ (dU (.ref z) >>= _) _ _ _;refine ae ?_;unfold dU;refine ae (cA C rfl (x:=.none) rfl (ay ?_));simp only [if_true];refine ae (ah0 ?_);refine ae (cA C rfl (x:=.ref TO) rfl ?_);refine ae (eK C (by simp) λmV zR G=>?_);replace zR:aib mV z TI TO .ellipsis:=zR;refine ae ?_;simp only [List.zipIdx_cons,List.zipIdx_nil,aig,List.forIn_nil];refine ae (ae (aiL ?_));show wpAny _ _ (dQ (.ref i1) >>= _) _ _ _;refine ae (r.item i {s with heap:=mV} _ _ l1 (kZ r h1 G Z.zf1) λx H Wp p1 Y0 j=>ay ?_);replace j:bO i1 mV H:=j;have Bv:d7 H TO a b:=j.extBut _ _ aa7 (G.extBut _ _ Z.TOz OJ);refine ae (dz (s:={s with heap:=H,toks:=Wp}) Bv rfl ?_);refine ae (aiB (s:={s with heap:=H,toks:=Wp}) Bv λN Fo m=>?_);replace Fo:d7 N TO x b:=Fo;replace m:bO TO H N:=m;refine ae (aiC (ay ?_));refine ae (ae (aiL ?_));show wpAny _ _ (dQ (.ref i2) >>= _) _ _ _;refine ae (u.item i {s with heap:=N,toks:=Wp} _ _ l2 (kZ u (kZ u (kZ u h2 G Z.zf2) j Z.aej) m Z.of2) λy I g p2 aek n=>ay ?_);replace n:bO i2 N I:=n;have R4:d7 I TO x b:=n.extBut _ _ ag8 Fo;refine ae (dz (s:={s with heap:=I,toks:=g}) R4 rfl ?_);refine ae (aiB (s:={s with heap:=I,toks:=g}) R4 λf O v4=>?_);replace O:d7 f TO x y:=O;replace v4:bO TO I f:=v4;refine ae (aiC (ay (ay ?_)));refine ae (dz (s:={s with heap:=f,toks:=g}) O rfl ?_);refine ae (aiD ?_);have tH:f.objs.size=s.heap.objs.size:=by rw[v4.1,n.1,m.1,j.1,G.1]
 have Y1:aib f z TI TO .ellipsis:=v4.extBut _ _ Z.TOz.symm (n.extBut _ _ i2z.symm (m.extBut _ _ Z.TOz.symm (j.extBut _ _ Y.symm zR)));have ael:∀c o,c≠z->c≠TO->c≠i1->c≠i2->s.heap.get? c=aa o->f.get? c=aa o:=λc o c1 T c3 c4 e=>
  v4.extBut _ _ T (n.extBut _ _ c4 (m.extBut _ _ T (j.extBut _ _ c3 (G.extBut _ _ c1 e))))
 have aem:S1 (i+1) f:=kZ r (kZ r (kZ r Y0 m Z.of1) n Z.ag7) v4 Z.of1;have aen:S2 (i+1) f:=kZ u aek v4 Z.of2;have J:z<f.objs.size:=aM Y1;refine ae ?_;unfold bM.SmallTypes.ownedTupleHandOut;have aep:aib (f.push {cls:=.type ej,data:=.seq #[x,y]}) z TI TO .ellipsis:=aj _ Y1;refine ae (eK (s:={s with heap:=f.push {cls:=.type ej,data:=.seq #[x,y]},toks:=g}) aep (by simp) λp R5 R6=>?_);replace R5:aib p z TI TO (ahZ f.objs.size):=R5;refine eK (s:={s with heap:=p,toks:=g}) R5 (by simp) λB U L=>?_;replace U:aib B z TI TO (ahZ f.objs.size):=U;replace L:bO z p B:=L;have up:∀c o,c≠z->f.get? c=aa o->B.get? c=aa o:=λc o c1 e=>L.extBut _ _ c1 (R6.extBut _ _ c1 (aj _ e));have Y2:d7 B f.objs.size x y:=L.extBut _ _ (dh J) (R6.extBut _ _ (dh J) (aP _ rfl));have M:B.objs.size=f.objs.size+1:=by rw[L.1,R6.1,ci]
 rw[tH] at U Y2 M;refine ay ⟨_,rfl,?_⟩;show Q (.ref f.objs.size) _;rw[tH];exact hQ x y B g p1 p2 U (up _ _ Z.TOz O) (r.frame _ _ _ aem λc hc o e=>up c o (λq=>Z.zf1 (by rw[<-q];exact hc)) e) (u.frame _ _ _ aen λc hc o e=>up c o (λq=>Z.zf2 (by rw[<-q];exact hc)) e) Y2 M
  λc o c1 T c3 c4 e=>up c o c1 (ael c o c1 T c3 c4 e)
def Ao(Z:Em z TI TO i1 i2 OI Hw)(C:aia prog w A i1 OI n1 P1 S1)(G:aia prog w A i2 Hw n2 P2 S2)
(r:aib s.heap z TI TO .none)(Wo:d7 s.heap TI (.ref i1) (.ref i2))(OJ:d7 s.heap TO a b)(Y:S1 i s.heap)(h2:S2 i s.heap)(R7:i=n1\/(i<n1/\i=n2))
(hE:∀J e tk,(∀c o,c≠z->c≠TO->c≠i1->c≠i2->s.heap.get? c=aa o->J.get? c=aa o)->(∃o,J.get? e=aa o/\o.cls=.type "StopIteration")->E (.ref e) {s with heap:=J,toks:=tk}):
  wpAny (model prog w) A (bM.«zip.__next__» ⟨[.ref z],[]⟩) Q E s:=by
 have u:i1≠z:=λq=>Z.zf1 (by rw[<-q];exact Z.i1m);have L:i2≠z:=λq=>Z.zf2 (by rw[<-q];exact Z.i2m);have M:TO≠i1:=λq=>Z.of1 (by rw[q];exact Z.i1m);show wpAny _ _ (field (.ref z) 2 >>= _) _ _ _;refine ae (cA r rfl (x:=.bool au) rfl ?_);show wpAny _ _ (field (.ref z) 3 >>= _) _ _ _;refine ae (cA r rfl (x:=.ref TI) rfl ?_);refine ae (dz Wo rfl ?_);refine ae ?_;unfold dU;refine ae (cA r rfl (x:=.none) rfl (ay ?_));simp only [if_true];refine ae (ah0 ?_);refine ae (cA r rfl (x:=.ref TO) rfl ?_);refine ae (eK r (by simp) λv H p=>?_);replace H:aib v z TI TO .ellipsis:=H;refine ae ?_;simp only [List.zipIdx_cons,List.zipIdx_nil,aig,List.forIn_nil];refine ae (ae (aiL ?_));rcases R7 with rfl|⟨l1,rfl⟩
 .refine ae (C.done {s with heap:=v} _ _ (kZ C Y p Z.zf1) λj e g N=>?_);obtain⟨O,f,h⟩:=N;replace g:aC.ExtBut i1 v j:=g;have Y3:aib j z TI TO .ellipsis:=g _ _ u.symm H;have n:e≠z:=λx=>by subst x;rw[Y3] at f;cases f;simp at h
  exact eK (s:={s with heap:=j}) Y3 (by simp) λy _ m=>hE y e s.toks (λc o c1 _ T _ x=>m.extBut _ _ c1 (g _ _ T (p.extBut _ _ c1 x))) ⟨O,m.extBut _ _ n f,h⟩
 .refine ae (C.item i {s with heap:=v} _ _ l1 (kZ C Y p Z.zf1) λx j B p1 Y0 g=>ay ?_);replace g:bO i1 v j:=g;have Bv:d7 j TO a b:=g.extBut _ _ M (p.extBut _ _ Z.TOz OJ);refine ae (dz (s:={s with heap:=j,toks:=B}) Bv rfl ?_);refine ae (aiB (s:={s with heap:=j,toks:=B}) Bv λy Fo m=>?_);replace m:bO TO j y:=m;refine ae (aiC (ay ?_));refine ae (ae (aiL ?_));refine ae (G.done {s with heap:=y,toks:=B} _ _ (kZ G (kZ G (kZ G h2 p Z.zf2) g Z.aej) m Z.of2) λU e I N=>?_);obtain⟨O,f,h⟩:=N;replace I:aC.ExtBut i2 y U:=I;have Y4:aib U z TI TO .ellipsis:=I _ _ L.symm (m.extBut _ _ Z.TOz.symm (g.extBut _ _ u.symm H));have n:e≠z:=λx=>by subst x;rw[Y4] at f;cases f;simp at h
  exact eK (s:={s with heap:=U,toks:=B}) Y4 (by simp) λqM _ v4=>hE qM e B (λc o c1 c2 T c4 x=>v4.extBut _ _ c1 (I _ _ c4 (m.extBut _ _ c2 (g.extBut _ _ T (p.extBut _ _ c1 x))))) ⟨O,v4.extBut _ _ n f,h⟩
def Hy(Z:Em z TI TO i1 i2 OI Hw)(h:aia prog w A.in1 i1 OI n1 P1 S1)(j:aia prog w A.in1 i2 Hw n2 P2 S2)
(f:aib s.heap z TI TO .none)(m:d7 s.heap TI (.ref i1) (.ref i2))(n:d7 s.heap TO a b)(p:S1 i s.heap)(q:S2 i s.heap)(r:i<n1)(u:i<n2)
(v:∀x y e tk,P1 i x->P2 i y->aib e z TI TO (ahZ s.heap.objs.size)->d7 e TO x y->S1 (i+1) e->S2 (i+1) e->d7 e s.heap.objs.size x y->e.objs.size=s.heap.objs.size+1->
   (∀c o,c≠z->c≠TO->c≠i1->c≠i2->s.heap.get? c=aa o->e.get? c=aa o)->Q (aa (.ref s.heap.objs.size)) {s with heap:=e,toks:=tk}):
  wpAny (model prog w) A (pyNext (.ref z)) Q E s:=by
 have g:s.TypeIs (.ref z) iv:=⟨_,f,rfl⟩;exact ae (aii (df g aiv
  (cD aiv g F.entry_zip_next
   (yT Z h j f m n p q r u λx y e tk b1 b2 a1 a2 a3 a4 a5 a6 a7=>ay (v x y e tk b1 b2 a1 a2 a3 a4 a5 a6 a7)) (F.args_zip_next_1 _))))
def KO(Z:Em z TI TO i1 i2 OI Hw)(j:aia prog w A.in1 i1 OI n1 P1 S1)(m:aia prog w A.in1 i2 Hw n2 P2 S2)
(g:aib s.heap z TI TO .none)(n:d7 s.heap TI (.ref i1) (.ref i2))(p:d7 s.heap TO a b)(q:S1 i s.heap)(r:S2 i s.heap)(u:i=n1\/(i<n1/\i=n2))
(v:∀f tk,(∀c o,c≠z->c≠TO->c≠i1->c≠i2->s.heap.get? c=aa o->f.get? c=aa o)->Q ar {s with heap:=f,toks:=tk}):wpAny (model prog w) A (pyNext (.ref z)) Q E s:=by
 have h:s.TypeIs (.ref z) iv:=⟨_,g,rfl⟩;refine ae (aii (df h aiv
  (cD aiv h F.entry_zip_next (Ao Z j m g n p q r u λf e tk x y=>?_) (F.args_zip_next_1 _))))
 obtain⟨o,B,hc⟩:=y;refine ae (ai3 ⟨o,B,hc⟩ isSubtype_stop ?_);exact ay (v _ _ x)
end
def yU (v:ai)(ob:cB)(h:aC):Prop:=∀(prog:bc) (w:bJ) (A:bH) (E:ai->av->Prop) (s:av) (Q:ai->av->Prop),s.heap=h->Q (.ref s.heap.objs.size) {s with heap:=s.heap.push ob}->wpAny (model prog w) A (ai9 v) Q E s
abbrev aa9(h:aC)(o1 o2:cB):aC:=(h.push o1).push o2
abbrev Wq(h:aC)(o1 o2:cB):aC:=(aa9 h o1 o2).push {cls:=.type ej,data:=.seq #[.ref h.objs.size,.ref (h.push o1).objs.size]}
abbrev aba(h:aC)(o1 o2:cB):aC:=(Wq h o1 o2).push {cls:=.type ej,data:=.seq #[.none,.none]}
abbrev KP(h:aC)(o1 o2:cB):aC:=(aba h o1 o2).push {cls:=.type iv,data:=.fields #[.none,.bool au,.bool au,.ref (aa9 h o1 o2).objs.size,.ref (Wq h o1 o2).objs.size]}
def Fq(v1 i:ai)(o1 o2:cB):
  Meets (bM.«zip.__new__» ⟨[.type iv,v1,i],[]⟩) (λ_ R s=>yU v1 o1 s.heap/\yU i o2 (s.heap.push o1)/\
   R (.ok (.ret (.ref (aba s.heap o1 o2).objs.size))) {s with heap:=KP s.heap o1 o2}):=
 .of_wp λprog w A R s h=>by
  obtain⟨a,g,d,tk,os⟩:=s;obtain⟨b,c,h⟩:=h;have j:=sub_zip;have e:∀(A:bH) (E:ai->av->Prop) (Q:ai->av->Prop),Q (.ref a.objs.size) ⟨a.push o1,g,d,tk,os⟩->wpAny (model prog w) A (ai9 v1) Q E ⟨a,g,d,tk,os⟩:=λA E Q q=>b prog w A E ⟨a,g,d,tk,os⟩ Q rfl q;have f:=λA E Q q=>c prog w A E ⟨a.push o1,g,d,tk,os⟩ Q rfl q
  wp_walk using e _ _ _,f _ _ _
  exact⟨_,rfl,h⟩
section
variable {s:av}
def Hz(q:yU v1 o1 s.heap)(r:yU j o2 (s.heap.push o1))(u:o1.isFreed=au)(v:o2.isFreed=au)
(h:∀a,aib a (s.heap.objs.size+4) (s.heap.objs.size+2) (s.heap.objs.size+3) .none->d7 a (s.heap.objs.size+2) (.ref s.heap.objs.size) (.ref (s.heap.objs.size+1))->
   d7 a (s.heap.objs.size+3) .none .none->a.get? s.heap.objs.size=aa o1->a.get? (s.heap.objs.size+1)=aa o2->a.objs.size=s.heap.objs.size+5->
   (∀c o,s.heap.get? c=aa o->a.get? c=aa o)->Q (.ref (s.heap.objs.size+4)) {s with heap:=a}):
  wpAny (model prog w) A (call (.type iv) [v1,j]) Q E s:=by
 refine callType_new F.called_zip (by decide) (F.typeCall_zip_2 _ _) (F.newCall_zip_2 _ _) (λobj=>F.args_object_init_3 obj _ _) F.entry_zip_new
  (Fq v1 j o1 o2) ⟨q,r,?_⟩
 have b:(s.heap.push o1).objs.size=s.heap.objs.size+1:=ci ..;have e:(aa9 s.heap o1 o2).objs.size=s.heap.objs.size+2:=by rw[ci,b]
 have f:(Wq s.heap o1 o2).objs.size=s.heap.objs.size+3:=by rw[ci,e]
 have g:(aba s.heap o1 o2).objs.size=s.heap.objs.size+4:=by rw[ci,f]
 have y:(KP s.heap o1 o2).objs.size=s.heap.objs.size+5:=by rw[ci,g]
 have i:(KP s.heap o1 o2).get? _=aa _:=aP _ rfl;have m:(KP s.heap o1 o2).get? (Wq s.heap o1 o2).objs.size=aa _:=aj _ (aP _ rfl);have n:(KP s.heap o1 o2).get? _=aa _:=aj _ (aj _ (aP _ rfl));have p:(KP s.heap o1 o2).get? (s.heap.push o1).objs.size=aa o2:=aj _ (aj _ (aj _ (aP _ v)));have z:(KP s.heap o1 o2).get? s.heap.objs.size=aa o1:=aj _ (aj _ (aj _ (aj _ (aP _ u))));show _/\_;rw[e,f,g] at i;rw[b,e] at n;rw[f] at m;rw[b] at p;rw[g];exact⟨⟨_,i,rfl⟩,h _ i n m z p y λc o x=>
  aj _ (aj _ (aj _ (aj _ (aj _ x))))⟩
end
end PySem
section
open PySem PySem.Spec PyProof.Rows
namespace L2
section
variable {s:av} {h':aC}
def Inv.Fs(ch:List aw)(I:Inv X cc σ H s)(k:∀b o,b∉ch->s.heap.get? b=aa o->h'.get? b=aa o)(a:∀b∈ch,rQ X cc H b):Inv X cc σ H {s with heap:=h',toks:=t'}:=by
 have f:∀b u,H b=aa u->b∉ch:=λb u e z=>by have:=(a b z).1;rw[this] at e;cases e
 have g:=λz=>(a _ z).2.1 rfl;refine I.step (λb hb=>?_) (λb o _ _ hc e _=>k b o hc e) (λb o _ _ hc e _=>⟨o.slots,k b o hc e⟩) (λ_ _ _ _ n=>n)
  (λb o hc e=>⟨o,k b o hc e⟩) (λ_ _ e=>e) (λ_ _ _ e=>e) (λb y e=>⟨#[],by rw[e];simp⟩) (λm hm=>?_) (λb u e=>?_) I.bare
 .obtain⟨f0,h,A,i,j,p⟩:=a b hb;exact⟨i,h,j,p⟩
 .obtain⟨o,es,w,x,r⟩:=hm;exact⟨o,es,w,k _ o g x,r⟩
 .refine(I.iO b u e).tQ (λc v hc q=>k c v ?_ q) (λ_ q=>q) λ_ _ q=>q;rcases hc with z|z
  .rw[z];exact f b u e
  .exact f c _ z
end
section
variable {s:av} {h':aC}
def Inv.Ft(ch:List aw)(I:Inv X cc σ H s)(k:∀b o,b∉ch->s.heap.get? b=aa o->h'.get? b=aa o)(f:∀b∈ch,rQ X cc H b)(g:s.heap.objs.size<=T)
(j:h.length<=aO)(r:Vals h iq)(ht:aiJ h' T iq.toArray):Inv X cc σ (upd H T (.tup h)) {s with heap:=h',toks:=E}:=by
 have i:∀b u,H b=aa u->b∉ch:=λb u e z=>by have:=(f b z).1;rw[this] at e;cases e
 have a:=I.iO.fresh g;have neT:∀b o,s.heap.get? b=aa o->b≠T:=λb o e=>bd (bw (aM e) g);have p:=λz=>(f _ z).2.1 rfl;refine I.step (λb hb=>?_) (λb o _ _ hc e _=>k b o hc e) (λb o _ _ hc e _=>⟨o.slots,k b o hc e⟩) (λb o _ e n=>by rw[hZ (neT b o e)];exact n)
  (λb o hc e=>⟨o,k b o hc e⟩) (λb xs e=>by rw[hZ (jr e a)];exact e) (λb o u e=>by rw[hZ (jr e a)];exact e) (λb G e=>⟨#[],by rw[hZ (jr e a),e];simp⟩) (λm hm=>?_) (λb u e=>?_) I.bare
 .obtain⟨f0,w,J,x,y,A⟩:=f b hb;exact⟨x,w,y,A⟩
 .obtain⟨o,es,B,C,r⟩:=hm;exact⟨o,es,B,k _ o p C,r⟩
 .by_cases hb:b=T
  .subst hb;rw[il] at e;cases e;exact⟨j,iq,r,ht⟩
  .rw[hZ hb] at e;refine(I.iO b u e).tQ (λc v hc q=>k c v ?_ q) (λc q=>by rw[hZ (jr q a)];exact q) λc xs q=>by rw[hZ (jr q a)];exact q
   rcases hc with z|z
   .rw[z];exact i b u e
   .exact i c _ z
end
inductive Sk where
 |L (a:aw)|T (a:aw)|S (z:aY) (t:akc)
noncomputable def Sk.val:Sk->ai
 |.L a=>.ref a
 |.T a=>.ref a
 |.S z t=>.str z t
noncomputable def Sk.obj:Sk->cB
 |.L a=>{cls:=.type "list_iterator",data:=.fields #[.ref a,.int 0 0]}
 |.T a=>{cls:=.type tS,data:=.fields #[.ref a,.int 0 0]}
 |.S z t=>{cls:=.type (eD z),data:=.fields #[.str z t,.int 0 0]}
def Sk.st(it:aw):Sk->Nat->aC->Prop
 |.L a,i,h=>h.IsListIter it a i
 |.T a,i,h=>h.IsTupleIter it a i
 |.S z t,i,h=>h.IsStrIter it (eD z) z t i
def Sk.seq(K:af)(H:Hp):Sk->List V->Prop
 |.L a,b=>l9 K H a b
 |.T a,b=>wj K H a b
 |.S z _,b=>b=z.cps.toList.map λc=>V.str ⟨#[c]⟩
def Sk.Bw{k:Sk}(st:k.st it i h):∃o,h.get? it=aa o/\∃n fs,o.cls=.type n/\o.data=.fields fs/\[jE,iv,zl,uaD,uaE,uaF,uaG].contains n=au:=by
 cases k with
 |L a=>obtain⟨o,e,c,d⟩:=st;exact⟨o,e,_,_,c,d,by decide⟩
 |T a=>obtain⟨o,e,c,d⟩:=st;exact⟨o,e,_,_,c,d,by decide⟩
 |S z t=>
  obtain⟨o,e,c,d⟩:=st;refine⟨o,e,_,_,c,d,?_⟩;rcases nJ with q|q<;>(rw[q];decide)
def Sk.xI{k:Sk}(st:k.st it i h)(b:∀o,h.get? it=aa o->c.get? it=aa o):k.st it i c:=by
 cases k with
 |L a=>obtain⟨o,e,r⟩:=st;exact⟨o,b o e,r⟩
 |T a=>obtain⟨o,e,r⟩:=st;exact⟨o,b o e,r⟩
 |S z t=>obtain⟨o,e,r⟩:=st;exact⟨o,b o e,r⟩
def Sk.R9{k:Sk}(e:h.get? it=aa k.obj):k.st it 0 h:=by
 cases k with
 |L a=>exact⟨_,e,rfl,rfl⟩
 |T a=>exact⟨_,e,rfl,rfl⟩
 |S z t=>exact⟨_,e,rfl,rfl⟩
section
variable {X:Cx} {s:av}
def Sk.inj(I:Inv X cc σ H s){k:Sk}(h:k.seq X.K H c)(b:k.seq X.K H zs):c=zs:=by
 cases k with
 |L a=>exact I.G7 h b
 |T a=>exact I.DX h b
 |S z t=>exact h.trans b.symm
def Wr(I:Inv X cc σ H s)(a:rQ X cc H b):H b=ar/\X.K.lookup b=ar:=by
 refine⟨a.1,?_⟩;cases e:X.K.lookup b with
 |none=>rfl
 |some o=>
  have hb:=I.ok.mod.QM b o e;rcases a.2.2.2.1 with z|z
  .exact absurd z (I.ok.G5 b o hb)
  .exact absurd (bw (aM hb) (bG I.ok.Oh z)) (cC _)
def Sk.MX(I:Inv X cc σ H s)(c:rQ X cc H b)(h:l9 X.K H a f\/wj X.K H a f):a≠b:=λe=>by subst e;obtain⟨g,i⟩:=Wr I c;rcases h with((h|⟨_,h⟩)|⟨_,_,_,h,_⟩)|((h|⟨_,h⟩)|⟨_,_,_,h,_⟩);all_goals first|(rw[g] at h;cases h)|(rw[i] at h;cases h)
def Sk.draws{A:bH}(I:Inv X cc σ H s)(n:A.handled=ar){k:Sk}{f:List V}(g:k.seq X.K H f){it:aw}(M:rQ X cc H it){i:Nat}(st:k.st it i s.heap):
  ∃B St,aia X.prog X.w A it B f.length (λi v=>∃y,f[i]?=aa y/\RelV y v) St/\St i s.heap/\it∈B/\(∀b,rQ X cc H b->b≠it->b∉B)/\∀j h,St j h->k.st it j h:=by
 cases k with
 |L a=>
  obtain⟨iq,r,p,O⟩:=I.list g;have C:a≠it:=Sk.MX I M (.inl g);refine⟨[it,a],(λi h=>h.IsListIter it a i/\h.IsList a iq.toArray),?_,⟨st,p.isList⟩,by simp,λb hb e=>?_,λj h q=>q.1⟩
  .have D:=oP (P':=λi v=>∃y,f[i]?=aa y/\RelV y v) (aia.list (prog:=X.prog) (w:=X.w) n it a C iq.toArray) (λi v e=>by
    have hi:i<iq.length:=by have:=(cS.mp e).1;simpa using this
    have m:i<f.length:=by rw[r.length];exact hi
    obtain⟨u,E,G⟩:=r.get (i:=i) (x:=f[i]) (by simp[m]);have:u=v:=by
     have e':iq[i]?=aa v:=by simpa using e
     rw[E] at e';exact bF e'
    subst this;exact⟨f[i],by simp[m],G⟩)
   rw[aR,<-r.length] at D;exact D
  .have:=Sk.MX I hb (.inl g);simp only [aH,bU,or_false]
   rintro(q|q)
   .exact e q
   .exact this q.symm
 |T a=>
  obtain⟨iq,r,p,O⟩:=I.tuple g;have C:a≠it:=Sk.MX I M (.inr g);refine⟨[it,a],(λi h=>h.IsTupleIter it a i/\h.IsTuple a iq.toArray),?_,⟨st,(show s.heap.IsTuple a iq.toArray from p)⟩,by simp,λb hb e=>?_,λj h q=>q.1⟩
  .have D:=oP (P':=λi v=>∃y,f[i]?=aa y/\RelV y v) (Bt (prog:=X.prog) (w:=X.w) n it a C iq.toArray) (λi v e=>by
    have hi:i<iq.length:=by have:=(cS.mp e).1;simpa using this
    have m:i<f.length:=by rw[r.length];exact hi
    obtain⟨u,E,G⟩:=r.get (i:=i) (x:=f[i]) (by simp[m]);have:u=v:=by
     have e':iq[i]?=aa v:=by simpa using e
     rw[E] at e';exact bF e'
    subst this;exact⟨f[i],by simp[m],G⟩)
   rw[aR,<-r.length] at D;exact D
  .have:=Sk.MX I hb (.inr g);simp only [aH,bU,or_false]
   rintro(q|q)
   .exact e q
   .exact this q.symm
 |S z t=>
  have g:f=z.cps.toList.map λc=>V.str ⟨#[c]⟩:=g;subst g;have o:∀(i:Nat) (v:ai),(∃(c:Nat) (u:akc),z.cps[i]?=aa c/\v=ai.str ⟨#[c]⟩ u)->∃y,(z.cps.toList.map λc=>V.str ⟨#[c]⟩)[i]?=aa y/\RelV y v:=by
   rintro i v ⟨c,u,Q,U⟩
   refine⟨.str ⟨#[c]⟩,?_,u,U⟩;rw[bh,cj,Q];rfl
  have N:(z.cps.toList.map λc=>V.str ⟨#[c]⟩).length=z.cps.size:=by simp
  have key:eD z=uaH\/eD z="str_iterator":=nJ;rcases key with e|e
  .have J:s.heap.IsStrIter it uaH z t i:=by rw[<-e];exact st
   refine⟨[it],_,by rw[N];exact oP (aia.strAscii n it z t) o,J,by simp,λb hb e=>by simpa using e,λj h q=>by show h.IsStrIter it (eD z) z t j;rw[e];exact q⟩
  .have J:s.heap.IsStrIter it "str_iterator" z t i:=by rw[<-e];exact st
   refine⟨[it],_,by rw[N];exact oP (aia.strWide n it z t) o,J,by simp,λb hb e=>by simpa using e,λj h q=>by show h.IsStrIter it (eD z) z t j;rw[e];exact q⟩
def Sk.iter(I:Inv X cc σ H s){k:Sk}(b:k.seq X.K H f):yU k.val k.obj s.heap:=by
 intro prog w A E g Q e q;cases k with
 |L a=>
  obtain⟨iq,r,p,c⟩:=I.list b;exact dL (by rw[e];exact p.isList) q
 |T a=>
  obtain⟨iq,r,p,c⟩:=I.tuple b;exact fJ (by rw[e];exact(p)) q
 |S z t=>exact ajS q
def Sk.aeq(I:Inv X cc σ H s){k:Sk}(b:k.seq X.K H f)(o:cB):yU k.val k.obj (s.heap.push o):=by
 intro prog w A E g Q e q;cases k with
 |L a=>
  obtain⟨iq,r,p,c⟩:=I.list b;exact dL (by rw[e];exact p.isList.push _) q
 |T a=>
  obtain⟨iq,r,p,c⟩:=I.tuple b;exact fJ (by rw[e];exact aC.IsTuple.push (p) _) q
 |S z t=>exact ajS q
end
def Sk.freed(k:Sk):k.obj.isFreed=au:=by cases k<;>rfl
noncomputable def Ite(K:af)(k:Sk):It:=⟨λi H=>∃a y,k.seq K H a/\a[i]?=aa y,λi H x b=>∃p,x=.ref p/\H p=ar/\∀a,k.seq K H a->∃y,a[i]?=aa y/\b=upd H p (.tup [.int i,y]),λi H=>∃a,k.seq K H a/\a.length=i⟩
def OM{P:bc}{w:bJ}{K:af}{elts:List bI}{n:Nat}{pos:eB}(k:Sk)(e it:aw)(L:e≠it):Turn P w K (.Tuple elts n pos) (Ite K k) [e,it] e (λi h=>(∃old,IsEnum h e it i old)/\k.st it i h) where
 mem:=by simp
 obj:=λi h st b hb=>by
  obtain⟨⟨old,a⟩,s⟩:=st;simp only [aH,bU,or_false] at hb;rcases hb with rfl|rfl
  .exact⟨_,a,λv z=>by cases z⟩
  .obtain⟨o,e,n,fs,c,d,_⟩:=Sk.Bw s;exact⟨o,e,λv z=>by rw[d] at z;cases z⟩
 keep:=λi h M st N=>by obtain⟨⟨old,a⟩,s⟩:=st;exact⟨⟨old,N e (by simp) _ a⟩,Sk.xI s λo q=>N it (by simp) o q⟩
 item:=by
  intro X p hw U hc i cc s σ H E I f st Y;subst p hw U;obtain⟨ys,y,O,u⟩:=Y;obtain⟨⟨old,a⟩,g⟩:=st;have j:=f e (by simp);have m:=f it (by simp);have Hm:X.A.in1.handled=ar:=I.ok.hd hc;obtain⟨fp,St,D,Va,hm,wy,jy⟩:=Sk.draws I Hm O m g;have W:=WalksT.enumerateD (A:=X.A) D e L (wy e j L) hm;have hi:i<ys.length:=(ak.mp u).1;refine W.item i s _ _ hi ⟨⟨old,a⟩,Va⟩ λT aaG M tk p hT ag9 B hk=>⟨.ref T,rfl,?_⟩;obtain⟨t,x,⟨y',VT,ry⟩,rfl⟩:=p;have:y'=y:=by rw[u] at VT;exact(bF VT).symm
  subst this;have hap:=W.apart i T M B;refine W.go elts n pos i T {s with heap:=M,toks:=tk} _ E B λQy C G=>?_;have J:T∉[e,it]:=hap;have N:=λb o hb eb=>G b o hb (hk b o hb eb);have hTs:Qy.IsTuple T #[.int i t,x]:=by obtain⟨o,ho,r⟩:=ag9;exact⟨o,G T o J ho,r⟩
  have R8:H T=ar:=I.iO.fresh hT;have I2:Inv X cc σ (upd H T (.tup [.int i,y'])) {s with heap:=Qy,toks:=tk}:=I.Ft [e,it] N (λb hb=>f b hb) hT (by show 2<=aO;decide) (iq:=[.int i t,x]) (.cons ⟨t,rfl⟩ (.cons ry .nil)) hTs;refine⟨.ref T,_,I2,rfl,⟨T,rfl,R8,λzs hz=>?_⟩,⟨C.1,jy _ _ C.2⟩,λb hb=>?_⟩
  .rw[Sk.inj I hz O];exact⟨y',u,rfl⟩
  .rw[hZ λq=>J (by rw[<-q];exact hb)];exact(f b hb).1
 done:=by intro X p hw U hc i cc s σ H E I f st Y;subst p hw U;obtain⟨ys,O,u⟩:=Y;obtain⟨⟨old,a⟩,g⟩:=st;have j:=f e (by simp);have m:=f it (by simp);have Hm:X.A.in1.handled=ar:=I.ok.hd hc;obtain⟨fp,St,D,Va,hm,wy,jy⟩:=Sk.draws I Hm O m g;have W:=WalksT.enumerateD (A:=X.A) D e L (wy e j L) hm;subst u;exact W.done s _ _ ⟨⟨old,a⟩,Va⟩ λM tk hk=>⟨rfl,I.Fs [e,it] hk (λb hb=>f b hb)⟩
 self:=λA i s Q E st h=>by obtain⟨⟨old,a⟩,_⟩:=st;exact ajT a h
noncomputable def Itz(K:af)(k b:Sk):It:=⟨λi H=>∃a zs y z,k.seq K H a/\b.seq K H zs/\a[i]?=aa y/\zs[i]?=aa z,
 λi H x c=>∃p,x=.ref p/\H p=ar/\∀a zs,k.seq K H a->b.seq K H zs->∃y z,a[i]?=aa y/\zs[i]?=aa z/\c=upd H p (.tup [y,z]),
 λi H=>∃a zs,k.seq K H a/\b.seq K H zs/\(i=a.length\/(i<a.length/\i=zs.length))⟩
def Sa{P:bc}{w:bJ}{K:af}{elts:List bI}{n:Nat}{pos:eB}(k k2:Sk)(z TI TO f g:aw)(nd:[z,TI,TO,f,g].Nodup):Turn P w K (.Tuple elts n pos) (Itz K k k2) [z,TI,TO,f,g] z
  (λi h=>aib h z TI TO .none/\d7 h TI (.ref f) (.ref g)/\(∃a b,d7 h TO a b)/\k.st f i h/\k2.st g i h) where
 mem:=by simp
 obj:=λi h st b hb=>by
  obtain⟨B,r,⟨a,c,C⟩,G,J⟩:=st;simp only [aH,bU,or_false] at hb;rcases hb with rfl|rfl|rfl|rfl|rfl
  .exact⟨_,B,λv z=>by cases z⟩
  .exact⟨_,r,λv z=>by cases z⟩
  .exact⟨_,C,λv z=>by cases z⟩
  .obtain⟨o,e,n,fs,c,d,_⟩:=Sk.Bw G;exact⟨o,e,λv z=>by rw[d] at z;cases z⟩
  .obtain⟨o,e,n,fs,c,d,_⟩:=Sk.Bw J;exact⟨o,e,λv z=>by rw[d] at z;cases z⟩
 keep:=λi h h' st L=>by obtain⟨B,r,⟨a,c,C⟩,G,J⟩:=st;exact⟨L z (by simp) _ B,L TI (by simp) _ r,⟨a,c,L TO (by simp) _ C⟩,Sk.xI G λo q=>L f (by simp) o q,Sk.xI J λo q=>L g (by simp) o q⟩
 item:=by
  intro X hP hw hK hc i cc s σ H E I j st hg;subst hP hw hK;obtain⟨ys,zs,y,y2,hq,x,hy,M⟩:=hg;obtain⟨B,r,⟨a,c,C⟩,G,J⟩:=st;have m:=j z (by simp);have Wo:=j TI (by simp);have OJ:=j TO (by simp);have Y5:=j f (by simp);have Sb:=j g (by simp);simp only [dw,aH,bU,or_false,not_or,eP,and_true,not_false_eq_true] at nd;obtain⟨⟨n1,n2,n3,n4⟩,⟨n5,n6,n7⟩,⟨n8,n9⟩,p⟩:=nd;have Hm:X.A.in1.handled=ar:=I.ok.hd hc;obtain⟨fp,St,D,Va,hm,N,jy⟩:=Sk.draws I Hm hq Y5 G;obtain⟨Hw,St2,D2,O,T,U,aes⟩:=Sk.draws I Hm x Sb J;have Z:Em z TI TO f g fp Hw:=⟨b8 n1,b8 n2,n5,n6,n7,hm,T,N z m n3,U z m n4,N TO OJ n8,U TO OJ n9,U f Y5 p,N g Sb (b8 p)⟩;have l1:i<ys.length:=(ak.mp hy).1;have l2:i<zs.length:=(ak.mp M).1;refine Hy Z D D2 B r C Va O l1 l2 λu v h' tk p1 p2 g1 g2 g3 g4 g5 g6 g7=>⟨.ref s.heap.objs.size,rfl,?_⟩;obtain⟨y',VT,ry⟩:=p1;obtain⟨Y,aet,ry2⟩:=p2;have e1:y'=y:=by rw[hy] at VT;exact(bF VT).symm
  have e2:Y=y2:=by rw[M] at aet;exact(bF aet).symm
  subst e1 e2;refine wpAny_letOwnedTupleGo_zip (s:={s with heap:=h',toks:=tk}) g1 λQy aha Sc=>?_;replace Sc:bO z h' Qy:=Sc;have lt:∀{c o},s.heap.get? c=aa o->s.heap.objs.size≠c:=λe=>dh (aM e);have L:∀b o,b∉[z,TI,TO,f,g]->s.heap.get? b=aa o->Qy.get? b=aa o:=λb o hb eb=>by simp only [aH,bU,or_false,not_or] at hb;exact Sc.extBut _ _ hb.1 (g7 b o hb.1 hb.2.2.1 hb.2.2.2.1 hb.2.2.2.2 eb)
  have hTz:s.heap.objs.size≠z:=lt B;have hTn:s.heap.objs.size∉[z,TI,TO,f,g]:=by
   simp only [aH,bU,or_false,not_or];refine⟨hTz,lt r,lt C,?_,?_⟩
   .obtain⟨o,e,_⟩:=Sk.Bw G;exact lt e
   .obtain⟨o,e,_⟩:=Sk.Bw J;exact lt e
  have hTs:aiJ Qy s.heap.objs.size #[u,v]:=⟨_,Sc.extBut _ _ hTz g5,rfl,_,rfl⟩;have R8:H s.heap.objs.size=ar:=I.iO.fresh (aD _);have I2:Inv X cc σ (upd H s.heap.objs.size (.tup [y',Y])) {s with heap:=Qy,toks:=tk}:=I.Ft [z,TI,TO,f,g] L (λb hb=>j b hb) (aD _) (by show 2<=aO;decide) (iq:=[u,v]) (.cons ry (.cons ry2 .nil)) hTs;have up:∀c o,c≠z->h'.get? c=aa o->Qy.get? c=aa o:=λc o hc e=>Sc.extBut _ _ hc e;refine⟨.ref s.heap.objs.size,_,I2,rfl,⟨_,rfl,R8,λas bs ha hb=>?_⟩,⟨aha,up _ _ (b8 n1) (g7 _ _ (b8 n1) n5 n6 n7 r),⟨_,_,up _ _ (b8 n2) g2⟩,Sk.xI (jy _ _ g3) λo q=>up _ _ (b8 n3) q,Sk.xI (aes _ _ g4) λo q=>up _ _ (b8 n4) q⟩,λb hb=>?_⟩
  .rw[Sk.inj I ha hq,Sk.inj I hb x];exact⟨y',Y,hy,M,rfl⟩
  .rw[hZ λq=>hTn (by rw[<-q];exact hb)];exact(j b hb).1
 done:=by intro X hP hw hK hc i cc s σ H E I j st hg;subst hP hw hK;obtain⟨ys,zs,hq,x,R7⟩:=hg;obtain⟨B,r,⟨a,c,C⟩,G,J⟩:=st;have m:=j z (by simp);have Wo:=j TI (by simp);have OJ:=j TO (by simp);have Y5:=j f (by simp);have Sb:=j g (by simp);simp only [dw,aH,bU,or_false,not_or,eP,and_true,not_false_eq_true] at nd;obtain⟨⟨n1,n2,n3,n4⟩,⟨n5,n6,n7⟩,⟨n8,n9⟩,p⟩:=nd;have Hm:X.A.in1.handled=ar:=I.ok.hd hc;obtain⟨fp,St,D,Va,hm,N,jy⟩:=Sk.draws I Hm hq Y5 G;obtain⟨Hw,St2,D2,O,T,U,aes⟩:=Sk.draws I Hm x Sb J;have Z:Em z TI TO f g fp Hw:=⟨b8 n1,b8 n2,n5,n6,n7,hm,T,N z m n3,U z m n4,N TO OJ n8,U TO OJ n9,U f Y5 p,N g Sb (b8 p)⟩;refine KO Z D D2 B r C Va O R7 λh' tk hk=>⟨rfl,I.Fs [z,TI,TO,f,g] (λb o hb eb=>?_) (λb hb=>j b hb)⟩;simp only [aH,bU,or_false,not_or] at hb;exact hk b o hb.1 hb.2.2.1 hb.2.2.2.1 hb.2.2.2.2 eb
 self:=λA i s Q E st h=>aj6 st.1 h
def KQ (K:af)(H:Hp)(x:V)(Rk:Sk->Prop):Prop:=(∃a,x=.ref a/\(∃b,l9 K H a b)/\Rk (.L a))\/(∃a,x=.ref a/\(∃b,wj K H a b)/\Rk (.T a))\/(∃z,x=.str z/\∀t,Rk (.S z t))
def KQ.get{K:af}(h:KQ K H x Rk)(r:RelV x u):∃k:Sk,u=k.val/\(∃b,k.seq K H b)/\Rk k:=by
 rcases h with⟨a,rfl,⟨b,h⟩,q⟩|⟨a,rfl,⟨b,h⟩,q⟩|⟨z,rfl,q⟩
 .exact⟨.L a,r,⟨b,h⟩,q⟩
 .exact⟨.T a,r,⟨b,h⟩,q⟩
 .obtain⟨t,rfl⟩:=r;exact⟨.S z t,rfl,⟨_,rfl⟩,q t⟩
noncomputable def Sk.it(K:af):Sk->It
 |.L a=>Itl K a
 |.T a=>Itt K a
 |.S z _=>Its z
section
variable {X:Cx}
def ahb (K:af)(a:TE):TI:=λσ H R=>a σ H λx H1=>KQ K H1 x λk=>R (k.it K) H1
def abd(f:PE X e g):PI X tg e (ahb X.K g):=by
 intro cc s σ H R I h;refine j4 (f cc s σ H _ I h) λv s1 i=>?_;obtain⟨x,H1,I1,j,m⟩:=i;obtain⟨k,rfl,⟨p,n⟩,q⟩:=m.get j;refine(Sk.iter I1 n) _ _ _ _ s1 _ rfl ?_;have hb:∀b∈[s1.heap.objs.size],rQ X cc H1 b:=λb hb=>by
  have e:=by simpa using hb
  subst e;exact I1.G9 (aD _) (I1.iO.fresh (aD _))
 have c:Inv X cc σ H1 {s1 with heap:=s1.heap.push k.obj}:=I1.kept λb o e=>aj _ e;cases k with
 |L a=>exact⟨s1.heap.objs.size,[s1.heap.objs.size],_,_,H1,rfl,c,Oi a _,⟨_,aP _ rfl,rfl,rfl⟩,hb,q⟩
 |T a=>exact⟨s1.heap.objs.size,[s1.heap.objs.size],_,_,H1,rfl,c,Kg a _,⟨_,aP _ rfl,rfl,rfl⟩,hb,q⟩
 |S z t=>exact⟨s1.heap.objs.size,[s1.heap.objs.size],_,_,H1,rfl,c,RD _ z t,⟨⟨_,aP _ rfl,rfl,rfl⟩,bD _⟩,hb,q⟩
def aeu (K:af)(a:TA):TI:=λσ H R=>a σ H λb H1=>∃x,b=[x]/\KQ K H1 x λk=>R (Ite K k) H1
def Ws(B:Gl X jE)(hm:X.mg jE=ar)(ha:PA X [a] C)(j:bg [a] X.env=[(au,eval a X.env)]:=by rfl):
  PI X (.Tuple elts n E) (.Call (.Name jE p) [a] [] pos) (aeu X.K C):=by
 intro cc s σ H R I h;refine Call_ (rO I B hm boot_enumerate (cM (j4 (ha pos cc s σ H _ I h) λus s1 zq=>?_) j rfl));obtain⟨N,H1,I1,G,v⟩:=zq;obtain⟨x,rfl,v⟩:=v;obtain⟨u,rfl,J⟩:=vals1 G;obtain⟨k,rfl,⟨O,j⟩,q⟩:=v.get J;have y:∀c:aC,IsEnum c _ _ 0 .none->k.st _ 0 c->(∀b o,s1.heap.get? b=aa o->c.get? b=aa o)->
   wpAny (model X.prog X.w) X.A _ (PIE X cc σ (.Tuple elts n E) R) X.xe {s1 with heap:=c}:=λc e f m=>by
  refine ajT e ?_;have ne:s1.heap.objs.size+1≠s1.heap.objs.size:=by exact Nat.succ_ne_self _
  refine⟨s1.heap.objs.size+1,[s1.heap.objs.size+1,s1.heap.objs.size],_,_,H1,rfl,I1.kept m,OM k _ _ ne,⟨⟨_,e⟩,f⟩,λb hb=>?_,q⟩;have g:s1.heap.objs.size<=b:=by simp only [aH,bU,or_false] at hb;rcases hb with rfl|rfl<;>lia
  exact I1.G9 g (I1.iO.fresh g)
 cases k with
 |L a=>
  obtain⟨iq,r,pl,M⟩:=I1.list j;exact call_enumerate_list pl.isList λc e f m i=>y c e f i
 |T a=>
  obtain⟨iq,r,pl,M⟩:=I1.tuple j;exact Bu (pl) λc e f m i=>y c e f i
 |S z t=>exact call_enumerate_str λc e f m i=>y c e f i
def ON:bS iv=aa (.type iv):=by decide+kernel
def ahc (K:af)(a:TA):TI:=λσ H R=>a σ H λb H1=>∃x y,b=[x,y]/\KQ K H1 x λk=>KQ K H1 y λc=>R (Itz K k c) H1
def abe(m:Gl X iv)(hm:X.mg iv=ar)(ha:PA X [a,b] o)(f:bg [a,b] X.env=[(au,eval a X.env),(au,eval b X.env)]:=by rfl)(e:bg [b] X.env=[(au,eval b X.env)]:=by rfl):
  PI X (.Tuple elts n J) (.Call (.Name iv p) [a,b] [] pos) (ahc X.K o):=by
 intro cc s σ H R I h;refine Call_ (rO I m hm ON (cM (j4 (ha pos cc s σ H _ I h) λus s1 ⟨L,H1,I1,r,g⟩=>?_) (by rw[f,e]) (by rw[e];rfl)));obtain⟨x,y,rfl,g⟩:=g;obtain⟨u,v,rfl,w,z⟩:=vals2 r;obtain⟨k,rfl,⟨M,f⟩,q⟩:=g.get w;obtain⟨i,rfl,⟨zs,e⟩,q⟩:=q.get z;refine Hz (Sk.iter I1 f) (Sk.aeq I1 e _) k.freed i.freed λN j A B C E O G=>?_;refine aj6 j ?_;refine⟨_,[s1.heap.objs.size+4,s1.heap.objs.size+2,s1.heap.objs.size+3,s1.heap.objs.size,s1.heap.objs.size+1],_,_,H1,rfl,I1.kept G,Sa k i _ _ _ _ _ (by simp),⟨j,A,⟨_,_,B⟩,Sk.R9 C,Sk.R9 E⟩,λb hb=>?_,q⟩;have c:s1.heap.objs.size<=b:=by simp only [aH,bU,or_false] at hb;rcases hb with rfl|rfl|rfl|rfl|rfl<;>lia
 exact I1.G9 c (I1.iO.fresh c)
end
end L2
namespace L3
open L2
noncomputable def wz:D->Option (List D)
 |.lst ds=>aa ds
 |.tup ds=>aa ds
 |.p6 ns=>aa (ns.map D.int)
 |.str z=>aa (z.cps.toList.map λc=>D.str ⟨#[c]⟩)
 |_=>ar
def SkV (d:D)(v:V)(k:Sk):Prop:=match d with
 |.lst _|.p6 _=>∃a,v=.ref a/\k=.L a
 |.tup _=>∃a,v=.ref a/\k=.T a
 |.str z=>v=.str z/\∃t,k=.S z t
 |_=>False
section
variable {K:af}
def AM(o:OK K F α H M)(r:Rep K α (jo F α M H) d v)(e:wz (vw M d)=aa items)(b:SkV (vw M d) v k):∃g,k.seq K H g/\hW K α (jo F α M H) items g:=by
 generalize e1:vw M d=x at e b;cases x<;>first|(cases e;done)|skip
 .cases e;have e2:=mn e1;obtain⟨rfl,t,rfl⟩:=b;exact⟨_,rfl,hW.of_map _ _ (λc=>oI) _⟩
 .cases e;obtain⟨a,rfl,rfl⟩:=b;obtain⟨h,f,e3,q,z⟩:=lu o r e1;cases e3;exact⟨f,q,z⟩
 .cases e;obtain⟨a,rfl,rfl⟩:=b;obtain⟨h,f,e3,q,z⟩:=jh o r e1;cases e3;exact⟨f,l9.of q,z⟩
 .cases e;have e2:=ug e1;subst e2;obtain⟨a,rfl,rfl⟩:=b;obtain⟨h,e3,q⟩:=r;cases e3;exact⟨_,kE ip q,hW.of_map _ _ (λc=>i8) _⟩
def Fu(o:OK K F α H M)(r:Rep K α (jo F α M H) d v)(e:wz (vw M d)=aa items)(h:∀k,SkV (vw M d) v k->Rk k):KQ K H v Rk:=by
 generalize e1:vw M d=x at e h;cases x<;>first|(cases e;done)|skip
 .have e2:=mn e1;subst e2;subst r;exact .inr (.inr ⟨_,rfl,λt=>h _ ⟨rfl,t,rfl⟩⟩)
 .obtain⟨a,b,rfl,q,z⟩:=lu o r e1;exact .inr (.inl ⟨a,rfl,⟨_,q⟩,h _ ⟨a,rfl,rfl⟩⟩)
 .obtain⟨a,b,rfl,q,z⟩:=jh o r e1;exact .inl ⟨a,rfl,⟨_,l9.of q⟩,h _ ⟨a,rfl,rfl⟩⟩
 .have e2:=ug e1;subst e2;obtain⟨a,rfl,q⟩:=r;exact .inl ⟨a,rfl,⟨_,kE ip q⟩,h _ ⟨a,rfl,rfl⟩⟩
end
section
variable {X:Cx}
def jv (te:DE):DI:=λc M Q=>te c M λd M1=>∃items,wz (vw M1 d)=aa items/\Q items (λf=>vw f d=vw M1 d) M1
def abf(J:JE X e te):JI X tg e (jv te):=by
 refine⟨λG M P Q w q=>J.mono G _ _ _ (λd M1 q=>?_) q,PI.weak (abd J.p) λσ H Q q=>?_⟩
 .obtain⟨items,e,q⟩:=q;exact⟨items,e,w _ _ _ q⟩
 .obtain⟨F,α,G,M,r,q⟩:=q;refine⟨F,α,G,M,r,J.mono G _ _ _ (λd M1 q v N H1 e1 o1 Y=>?_) q⟩;obtain⟨items,ei,q⟩:=q;refine Fu o1 Y ei λk hk=>q _ N H1 H1 id e1 o1 (Hq.refl o1) ?_;have key:∀j f m h,N <+: f->jC (jo F N M1 H1) _->OK X.K j f m h->vw h d=vw M1 d->∃g,k.seq X.K m g/\hW X.K f _ items g:=λj f m h y A s u=>
   AM s (Rep.mono y A d v Y) (by rw[u];exact ei) (by rw[u];exact hk)
  refine⟨λi j f m h y A s u hi=>?_,λi j f m h x B d' y A s u hd C=>?_,λj f m h y A s u=>?_⟩
  .obtain⟨g,o,E⟩:=key j f m h y A s u;have I:=hW.length _ _ E;cases k with
   |L a=>exact⟨g,g[i],o,by simp⟩
   |T a=>exact⟨g,g[i],o,by simp⟩
   |S z t=>
    show i<z.cps.size;rw[o] at I;simpa[I] using hi
  .obtain⟨g,o,E⟩:=key j f m h y A s u;have O:∀B,B=m->g[i]?=aa x->OK X.K j f B h/\Ext j f m h f B h/\Rep X.K f (jo j f h B) d' x:=λB e U=>by subst e;obtain⟨d2,e2,r2⟩:=hW.get' _ _ i x E U;rw[hd] at e2;cases e2;exact⟨s,Ext.refl,r2⟩
   cases k with
   |L a=>exact O _ C.1 (C.2 g o)
   |T a=>exact O _ C.1 (C.2 g o)
   |S z t=>
    obtain⟨e,c,hc,U⟩:=C;refine O _ e ?_;rw[o,bh,cj,hc,U];rfl
  .obtain⟨g,o,E⟩:=key j f m h y A s u;have I:=hW.length _ _ E;cases k with
   |L a=>exact⟨g,o,by lia⟩
   |T a=>exact⟨g,o,by lia⟩
   |S z t=>
    show z.cps.size<=items.length;rw[I,o];simp
def By (tt:DA):DI:=λc M Q=>tt c M λds M1=>match ds with
 |[d]=>∃items,wz (vw M1 d)=aa items/\Q (items.mapIdx λi d=>.tup [.int i,d]) (λf=>vw f d=vw M1 d) M1
 |_=>False
def mq{K:af}(h:hW K α H [d] c):∃v,c=[v]/\Rep K α H d v:=by obtain⟨v,r,rfl,z,y⟩:=h;subst y;exact⟨v,rfl,z⟩
def v5{K:af}{d e:D}(h:hW K α H [d,e] c):∃v u,c=[v,u]/\Rep K α H d v/\Rep K α H e u:=by obtain⟨v,r,rfl,z,y⟩:=h;obtain⟨u,rfl,w⟩:=mq y;exact⟨v,u,rfl,z,w⟩
def Wt(ha:JA X [a] tt)(hm:X.mg jE=ar)(T:Gl X jE:=by rfl)(f:bg [a] X.env=[(au,eval a X.env)]:=by rfl):JI X (.Tuple elts n xy) (.Call (.Name jE p) [a] [] pos) (By tt):=by
 refine⟨λC M P Q w q=>ha.mono C _ _ _ (λds M1 q=>?_) q,PI.weak (Ws T hm ha.p f) λσ H Q q=>?_⟩
 .match ds,q with
  |[d],⟨items,e,q⟩=>exact⟨items,e,w _ _ _ q⟩
 .obtain⟨F,α,C,M,r,q⟩:=q;refine⟨F,α,C,M,r,ha.mono C _ _ _ (λds M1 q vs J H1 e1 o1 E=>?_) q⟩;match ds,q,E with
  |[d],⟨items,L,q⟩,E=>
   obtain⟨v,U,N⟩:=mq E;subst U;refine⟨v,rfl,Fu o1 N L λk Y=>q _ J H1 H1 id e1 o1 (Hq.refl o1) ?_⟩;have key:∀o c g h,J <+: c->jC _ _->OK X.K o c g h->vw h d=vw M1 d->∃j,k.seq X.K g j/\hW X.K c _ items j:=λo c g h u f m s=>
    AM m (Rep.mono u f d v N) (by rw[s];exact L) (by rw[s];exact Y)
   refine⟨λi o c g h u f m s hi=>?_,λi o c g h x H2 d' u f m s hd G=>?_,λo c g h u f m s=>?_⟩
   .obtain⟨j,z,A⟩:=key o c g h u f m s;have hl:=hW.length _ _ A;rw[List.length_mapIdx] at hi;exact⟨j,j[i]'(by exact bw hi (gB hl)),z,by simp⟩
   .obtain⟨j,z,A⟩:=key o c g h u f m s;obtain⟨p,rfl,O,G⟩:=G;obtain⟨y,I,rfl⟩:=G j z;obtain⟨d2,e2,r2⟩:=hW.get' _ _ i y A I;rw[aiw,e2] at hd;cases hd;obtain⟨o2,B⟩:=m.laid O;exact⟨o2,B,kP m O (hW.cons i8 (hW.one r2)) B⟩
   .obtain⟨j,z,A⟩:=key o c g h u f m s;have hl:=hW.length _ _ A;exact⟨j,z,by rw[List.length_mapIdx];exact Eq.symm hl⟩
def Sd (tt:DA):DI:=λg M Q=>tt g M λds M1=>match ds with
 |[d,e]=>∃xs c,wz (vw M1 d)=aa xs/\wz (vw M1 e)=aa c/\Q (c7 (λa b=>.tup [a,b]) xs c) (λf=>vw f d=vw M1 d/\vw f e=vw M1 e) M1
 |_=>False
def abg(ha:JA X [a,b] tt)(hm:X.mg iv=ar)(hg:Gl X iv:=by rfl)(h:bg [a,b] X.env=[(au,eval a X.env),(au,eval b X.env)]:=by rfl)(Ko:bg [b] X.env=[(au,eval b X.env)]:=by rfl):
  JI X (.Tuple elts n xy) (.Call (.Name iv p) [a,b] [] pos) (Sd tt):=by
 refine⟨λO M P Q w q=>ha.mono O _ _ _ (λds M1 q=>?_) q,PI.weak (abe hg hm ha.p h Ko) λσ H Q q=>?_⟩
 .match ds,q with
  |[d,e],⟨xs,j,e1,e2,q⟩=>exact⟨xs,j,e1,e2,w _ _ _ q⟩
 .obtain⟨F,α,O,M,r,q⟩:=q;refine⟨F,α,O,M,r,ha.mono O _ _ _ (λds M1 q vs U H1 e1 o1 C=>?_) q⟩;match ds,q,C with
  |[d,Y],⟨items,abh,ei,E,q⟩,C=>
   obtain⟨v,u,rfl,C,T⟩:=v5 C;refine⟨v,u,rfl,Fu o1 C ei λk hk=>Fu o1 T E λk2 hk2=>q _ U H1 H1 id e1 o1 (Hq.refl o1) ?_⟩;have key:∀m c f g,U <+: c->jC _ _->OK X.K m c f g->vw g d=vw M1 d->∃j,k.seq X.K f j/\hW X.K c _ items j:=λm c f g A h o s=>
    AM o (Rep.mono A h d v C) (by rw[s];exact ei) (by rw[s];exact hk)
   have B:∀m c f g,U <+: c->jC _ _->OK X.K m c f g->vw g Y=vw M1 Y->∃j,k2.seq X.K f j/\hW X.K c _ abh j:=λm c f g A h o s=>
    AM o (Rep.mono A h Y u T) (by rw[s];exact E) (by rw[s];exact hk2)
   refine⟨λi m c f g A h o s hi=>?_,λi m c f g x H2 d' A h o s hd hy=>?_,λm c f g A h o s=>?_⟩
   .obtain⟨j,G,I⟩:=key m c f g A h o s.1;obtain⟨zs,J,L⟩:=B m c f g A h o s.2;have hl:=hW.length _ _ I;have hl2:=hW.length _ _ L;rw[gw] at hi;exact⟨j,zs,j[i]'(by lia),zs[i]'(by lia),G,J,by simp,by simp⟩
   .obtain⟨j,G,I⟩:=key m c f g A h o s.1;obtain⟨zs,J,L⟩:=B m c f g A h o s.2;obtain⟨p,rfl,Dj,hy⟩:=hy;obtain⟨y,z,hy1,hz1,rfl⟩:=hy j zs G J;obtain⟨x1,e2,T⟩:=hW.get' _ _ i y I hy1;obtain⟨x2,e3,r3⟩:=hW.get' _ _ i z L hz1;rw[ail,e2,e3] at hd;cases hd;obtain⟨o2,N⟩:=o.laid Dj;exact⟨o2,N,kP o Dj (hW.cons T (hW.one r3)) N⟩
   .obtain⟨j,G,I⟩:=key m c f g A h o s.1;obtain⟨zs,J,L⟩:=B m c f g A h o s.2;have hl:=hW.length _ _ I;have hl2:=hW.length _ _ L;refine⟨j,zs,G,J,?_⟩;rw[gw];lia
noncomputable def wA(lo:Int)(n:Nat):List D:=(cx n).map λ(i:Nat)=>D.int (lo+(i:Int))
def abj{K:af}{M1:Ms}{lo:Int}:Wg K F v H1 M1 (Itr lo n) (wA lo n) λ_=>True:=by
 refine⟨λi f g h m o q c r hi=>?_,λi f g h m x w y o q c r hd s=>?_,λf g h m o q c r=>?_⟩
 .show i<n;simpa[wA] using hi
 .obtain⟨rfl,rfl⟩:=s;unfold wA at hd;rw[bh] at hd;cases e:(cx n)[i]? with
  |none=>rw[e] at hd;cases hd
  |some j=>
   rw[e] at hd;have:j=i:=by have:=ak.mp e;obtain⟨z,u⟩:=this;simpa using u.symm
   subst this;cases hd;exact⟨c,Ext.refl,i8⟩
 .show n<=(wA lo n).length;simp[wA]
def ui (tt:DA):DI:=λc M Q=>tt c M λds M1=>match ds with
 |[.int j]=>(-(2^62)<=j/\j<2^62)/\Q (wA 0 j.toNat) (λ_=>True) M1
 |_=>False
def OO(ha:JA X [a] tt)(hm:X.mg mr=ar)(h:Gl X mr:=by rfl)(i:bg [a] X.env=[(au,eval a X.env)]:=by rfl):JI X tg (.Call (.Name mr p) [a] [] pos) (ui tt):=by
 refine⟨λc M P Q w q=>ha.mono c _ _ _ (λds M1 q=>?_) q,PI.weak (Oj h hm ha.p i) λσ H Q q=>?_⟩
 .match ds,q with
  |[.int j],⟨e,q⟩=>exact⟨e,w _ _ _ q⟩
 .obtain⟨F,α,c,M,r,q⟩:=q;refine⟨F,α,c,M,r,ha.mono c _ _ _ (λds M1 q u m H1 e1 o1 f=>?_) q⟩;match ds,q,f with
  |[.int j],⟨g,q⟩,f=>
   obtain⟨v,o,s⟩:=mq f;subst o;subst s;exact⟨j,rfl,g.1,g.2,q _ m H1 H1 id e1 o1 (Hq.refl o1) abj⟩
end
mutual
noncomputable def toP:D->dA
 |.non=>.none
 |.bl b=>.bool b
 |.int i=>.int i
 |.str x=>.str x
 |.tup ds=>.tuple (toPs ds)
 |.lst ds=>.list (toPs ds)
 |.ty _|.jD _ _|.ins _ _ _|.exc _ _ _|.p6 _|.loc _|.cls _=>.dict []
noncomputable def toPs:List D->List dA
 |[]=>[]
 |d::ds=>toP d::toPs ds
end
mutual
noncomputable def pl:D->Bool
 |.non|.bl _|.int _=>ag
 |.str x=>ah5 x
 |.tup ds|.lst ds=>AN ds
 |.ty _|.jD _ _|.ins _ _ _|.exc _ _ _|.p6 _|.loc _|.cls _=>au
noncomputable def AN:List D->Bool
 |[]=>ag
 |d::ds=>pl d&&AN ds
end
mutual
noncomputable def dp:D->Nat
 |.tup ds|.lst ds=>Db ds+1
 |.non|.bl _|.int _|.str _|.ty _|.jD _ _|.ins _ _ _|.exc _ _ _|.p6 _|.loc _|.cls _=>0
noncomputable def Db:List D->Nat
 |[]=>0
 |d::ds=>max (dp d) (Db ds)
end
mutual
noncomputable def yV:D->D->Bool
 |.non,.non=>ag
 |.bl a,.bl b=>a==b
 |.bl a,.int j=>(if a then 1 else 0)==j
 |.int i,.bl b=>i==(if b then 1 else 0)
 |.int i,.int j=>i==j
 |.str x,.str y=>x==y
 |.lst xs,.lst c=>Dk xs c
 |.tup xs,.tup c=>Dk xs c
 |_,_=>au
noncomputable def Dk:List D->List D->Bool
 |[],[]=>ag
 |x::xs,y::c=>yV x y&&Dk xs c
 |_,_=>au
end
mutual
theorem toP_lay:∀d:D,pl d=ag->(toP d).canLay0=ag
 |.non,_=>rfl
 |.bl _,_=>rfl
 |.int _,_=>rfl
 |.str _,h=>by unfold toP;unfold pl at h;simpa[dA.canLay0] using h
 |.tup ds,h=>by unfold toP;unfold pl at h;simp[dA.canLay0,toPs_lay ds h]
 |.lst ds,h=>by unfold toP;unfold pl at h;simp[dA.canLay0,toPs_lay ds h]
 |.ty _,h|.jD _ _,h|.ins _ _ _,h|.exc _ _ _,h|.p6 _,h|.loc _,h|.cls _,h=>by unfold pl at h;cases h
theorem toPs_lay:∀ds:List D,AN ds=ag->dA.canLayAll0 (toPs ds)=ag
 |[],_=>by unfold toPs;rfl
 |d::ds,h=>by unfold AN at h;rw[aZ] at h;unfold toPs;simp[dA.canLayAll0,toP_lay d h.1,toPs_lay ds h.2]
end
mutual
theorem toP_depth:∀d:D,(toP d).depth<=dp d+1
 |.non|.bl _|.int _|.str _=>by unfold toP;simp[dA.depth]
 |.tup ds=>by unfold toP dp;have:=toPs_depth ds;simp only [dA.depth];exact fV this
 |.lst ds=>by unfold toP dp;have:=toPs_depth ds;simp only [dA.depth];exact fV this
 |.ty _|.jD _ _|.ins _ _ _|.exc _ _ _|.p6 _|.loc _|.cls _=>by unfold toP;simp[dA.depth,dA.depthKv]
theorem toPs_depth:∀ds:List D,dA.depthAll (toPs ds)<=Db ds+1
 |[]=>by unfold toPs;simp[dA.depthAll]
 |d::ds=>by unfold toPs Db;have a:=toP_depth d;have b:=toPs_depth ds;simp only [dA.depthAll];lia
end
set_option tactic.hygienic true in
mutual
theorem toP_eqv:∀x y:D,pl x=ag->pl y=ag->(toP x).eqv (toP y)=yV x y
 |.non,y,_,h=>by cases y<;>first|(unfold pl at h;cases h;done)|(unfold toP yV;rfl)
 |.bl a,y,_,h=>by cases y<;>first|(unfold pl at h;cases h;done)|(unfold toP yV;rfl)
 |.int a,y,_,h=>by cases y<;>first|(unfold pl at h;cases h;done)|(unfold toP yV;rfl)
 |.str a,y,_,h=>by cases y<;>first|(unfold pl at h;cases h;done)|(unfold toP yV;rfl)
 |.tup xs,y,g,h=>by
  cases y<;>first|(unfold pl at h;cases h;done)|skip
  case tup b=>unfold pl at g h;unfold toP yV;simp only [dA.eqv];exact toPs_eqv xs b g h
  all_goals unfold toP yV;rfl
 |.lst xs,y,g,h=>by
  cases y<;>first|(unfold pl at h;cases h;done)|skip
  case lst b=>unfold pl at g h;unfold toP yV;simp only [dA.eqv];exact toPs_eqv xs b g h
  all_goals unfold toP yV;rfl
 |.ty _,_,g,_|.jD _ _,_,g,_|.ins _ _ _,_,g,_|.exc _ _ _,_,g,_|.p6 _,_,g,_|.loc _,_,g,_|.cls _,_,g,_=>by unfold pl at g;cases g
theorem toPs_eqv:∀x y:List D,AN x=ag->AN y=ag->dA.eqvAll (toPs x) (toPs y)=Dk x y
 |[],[],_,_=>by unfold toPs Dk;rfl
 |[],y::b,_,_=>by unfold toPs Dk;rfl
 |x::xs,[],_,_=>by unfold toPs Dk;rfl
 |x::xs,y::b,g,h=>by unfold AN at g h;rw[aZ] at g h;unfold toPs Dk;simp only [dA.eqvAll];rw[toP_eqv x y g.1 h.1,toPs_eqv xs b g.2 h.2]
end
mutual
theorem Rep.reads {X:Cx} {cc:List (aw×cB)} {σ:L2.St} {H:Hp} {s:av} {α:List aw} (I:Inv X cc σ H s):∀(d:D) (x:V) (v:ai),Rep X.K α H d x->RelV x v->pl d=ag->∃as,Reads s.heap v (toP d) as
 |.non,x,v,h,r,_=>by unfold Rep at h;subst h;cases r;unfold toP;exact⟨_,.none⟩
 |.bl _,x,v,h,r,_=>by unfold Rep at h;subst h;cases r;unfold toP;exact⟨_,.bool _⟩
 |.int _,x,v,h,r,_=>by unfold Rep at h;subst h;obtain⟨t,rfl⟩:=r;unfold toP;exact⟨_,.int _ _⟩
 |.str _,x,v,h,r,_=>by unfold Rep at h;subst h;obtain⟨t,rfl⟩:=r;unfold toP;exact⟨_,.str _ _⟩
 |.tup ds,x,v,h,r,c=>by unfold Rep at h;obtain⟨a,b,rfl,q,z⟩:=h;cases r;obtain⟨iq,f,⟨o,e,cl,n,dd⟩,_⟩:=I.tuple q;obtain⟨as,w⟩:=hW.reads I ds b iq z f (by unfold pl at c;exact c);unfold toP;exact⟨_,.tuple e cl dd (by simpa using w)⟩
 |.lst ds,x,v,h,r,c=>by unfold Rep at h;obtain⟨a,b,rfl,q,z⟩:=h;cases r;obtain⟨_,iq,n,f,e⟩:=I.iO a _ q;obtain⟨as,w⟩:=hW.reads I ds b iq z f (by unfold pl at c;exact c);unfold toP;exact⟨_,.list e rfl rfl (by simpa using w)⟩
 |.ty _,x,v,h,r,c|.jD _ _,x,v,h,r,c|.ins _ _ _,x,v,h,r,c|.exc _ _ _,x,v,h,r,c|.p6 _,x,v,h,r,c|.loc _,x,v,h,r,c|.cls _,x,v,h,r,c=>by unfold pl at c;cases c
theorem hW.reads {X:Cx} {cc:List (aw×cB)} {σ:L2.St} {H:Hp} {s:av} {α:List aw} (I:Inv X cc σ H s):∀(ds:List D) (xs:List V) (b:List ai),hW X.K α H ds xs->Vals xs b->AN ds=ag->∃as,ReadsAll s.heap b (toPs ds) as
 |[],xs,b,h,r,_=>by unfold hW at h;subst h;cases r;unfold toPs;exact⟨_,.nil⟩
 |d::ds,xs,b,h,r,c=>by
  unfold hW at h;obtain⟨x,g,rfl,q,z⟩:=h;unfold AN at c;rw[aZ] at c;unfold toPs;cases r with
  |cons i j=>
   obtain⟨as,m⟩:=Rep.reads I d x _ q i c.1;obtain⟨bs,p⟩:=hW.reads I ds g _ z j c.2;exact⟨_,.cons m p⟩
end
def mY(h:pl d=ag)(hd:dp d<=60):SeqAt.shaped (toP d)=ag:=by unfold SeqAt.shaped;have:=toP_depth d;rw[toP_lay d h];exact decide_eq_true (by lia)
section
variable {X:Cx}
def okE (x y:D):Prop:=pl x=ag/\pl y=ag/\dp x<=60/\dp y<=60
def HA (x y:D)(Q:Bool->Prop):Prop:=match x,y with
 |.str a,.str b=>Q (a==b)
 |.int a,.int b=>Q (a==b)
 |x,y=>okE x y/\Q (yV x y)
def En(w:∀b,P b->Q b)(h:HA x y P):HA x y Q:=by
 unfold HA at h |-;split<;>simp only at h
 .exact w _ h
 .exact w _ h
 .exact⟨h.1,w _ h.2⟩
def tV:G2:=λx y M Q=>HA (vw M x) (vw M y) λb=>Q (.bl b) M
def Dl:G2:=λx y M Q=>HA (vw M x) (vw M y) λb=>Q (.bl (!b)) M
set_option tactic.hygienic true in
def MY(n:X.A.units+64<eC)(I:L2.Inv X cc σ H s)(f:RelV x v)(g:RelV y u)(o:OK X.K F α H M)
(j:Rep X.K α (jo F α M H) B x)(m:Rep X.K α (jo F α M H) E y)(h:HA (vw M B) (vw M E) C)(neg:Bool)(c:∀b,C b->Q (.bl (if neg then !b else b)) H):
  wpAny (model X.prog X.w) X.A (compareOp (if neg then .NotEq else .Eq) v u) (EP X cc σ Q) X.xe s:=by
 unfold HA at h;split at h
 .rename_i a b e1 e2;cases mn e1;cases mn e2;subst j m;have e:decide _=(a==b):=E5;cases neg with
  |false=>exact YF cc s σ H _ _ v u Q I f g ⟨rfl,by rw[e];exact c _ h⟩
  |true=>exact YG cc s σ H _ _ v u Q I f g ⟨rfl,by rw[e];exact c _ h⟩
 .rename_i a b e1 e2;cases wu e1;cases wu e2;subst j m;have e:decide _=(a==b):=E4;cases neg with
  |false=>exact YF cc s σ H _ _ v u Q I f g ⟨rfl,by rw[e];exact c _ h⟩
  |true=>exact YG cc s σ H _ _ v u Q I f g ⟨rfl,by rw[e];exact c _ h⟩
 .obtain⟨⟨c1,i,p,q⟩,h⟩:=h;obtain⟨as,r⟩:=Rep.reads I _ x v (Rep.mono (aV _) ip _ _ (wt o _ _ j)) f c1;obtain⟨bs,z⟩:=Rep.reads I _ y u (Rep.mono (aV _) ip _ _ (wt o _ _ m)) g i;cases neg with
  |false=>
   refine eq_dataH r z (mY c1 p) (mY i q) n ⟨.bl _,H,I,rfl,?_⟩;rw[toP_eqv _ _ c1 i];exact c _ h
  |true=>
   refine ne_dataH r z (mY c1 p) (mY i q) n ⟨.bl _,H,I,rfl,?_⟩;rw[toP_eqv _ _ c1 i];exact c _ h
def aev(a:X.A.units+64<eC):JC X .Eq tV:=by refine⟨λx y M P Q w q=>En (λb q=>w _ _ q) q,λcc s σ H x y v u Q I c e h=>?_⟩;obtain⟨F,α,M,i,j,o,f,g,h⟩:=h;exact MY a I c e o f g h au λb q=>vK.now o q jb
def aew(a:X.A.units+64<eC):JC X .NotEq Dl:=by refine⟨λx y M P Q w q=>En (λb q=>w _ _ q) q,λcc s σ H x y v u Q I c e h=>?_⟩;obtain⟨F,α,M,i,j,o,f,g,h⟩:=h;exact MY a I c e o f g h ag λb q=>vK.now o q jb
noncomputable def fl:D->Bool
 |.non|.bl _|.int _|.str _=>ag
 |_=>au
noncomputable def vOf:D->V
 |.bl b=>.bl b
 |.int i=>.int i
 |.str x=>.str x
 |_=>.non
def Bz{K:af}(h:fl d=ag)(r:Rep K α H d v):v=vOf d/\vX v=ag:=by
 cases d<;>first|(cases h;done)|skip
 all_goals subst r;exact⟨rfl,rfl⟩
def aex(h:fl x=ag)(g:fl y=ag):VQ (vOf x) (vOf y)=yV x y:=by
 cases x<;>first|(cases h;done)|skip
 all_goals cases y<;>first|(cases g;done)|(rfl)
theorem xJ{K:af}(b:fl x=ag):∀(ds:List D) (a:List V),ds.all fl=ag->hW K α H ds a->a.all vX=ag/\inV (vOf x) a=ds.any λy=>yV y x
 |[],a,_,h=>by subst h;exact⟨rfl,rfl⟩
 |d::ds,a,g,h=>by obtain⟨v,r,rfl,z,y⟩:=h;rw[fU,aZ] at g;obtain⟨e,c⟩:=xJ b ds r g.2 y;obtain⟨e1,e2⟩:=Bz g.1 z;subst e1;refine⟨by rw[fU,e2,e];rfl,?_⟩;unfold inV at c |-;rw[c6,c6,aex g.1 b,c]
def zS{K:af}(h:hW K α H ds b)(c:a.length=ds.length):(qL (a.zip b) k).isSome=(mf k a ds).isSome:=by
 obtain⟨f,g⟩:=nM a ds b h c;cases e:mf k a ds with
 |none=>rw[g e];rfl
 |some d=>obtain⟨j,i,_⟩:=f d e;rw[i];rfl
noncomputable def inD(x y:D):Option Bool:=match y with
 |.lst ds=>if(fl x&&ds.all fl)=ag then aa (ds.any λy=>yV y x) else ar
 |.tup ds=>if(fl x&&ds.all fl)=ag then aa (ds.any λy=>yV y x) else ar
 |.str j=>match x with
  |.str i=>aa (!(gA j i 0 j.length 1).isEmpty)
  |_=>ar
 |.jD a ds=>match Hv x with
  |some k=>aa (mf k a ds).isSome
  |none=>ar
 |_=>ar
def AO (neg:Bool):G2:=λx y M Q=>∃b,inD x (vw M y)=aa b/\Q (.bl (if neg then !b else b)) M
def HB:ud (AO neg):=by
 rintro x y M P Q w ⟨b,e,q⟩
 exact⟨b,e,w _ _ q⟩
set_option tactic.hygienic true in
def aey(B:X.A.units+1<eC):JC X .In (AO au):=by
 refine⟨HB,λcc s σ H x y v u Q I f g h=>?_⟩;obtain⟨F,α,M,C,E,o,i,j,b,c,h⟩:=h;generalize e1:vw M E=z at c;unfold inD at c;cases z<;>first|(cases c;done)|skip
 .have e2:=mn e1;subst e2;subst j;cases C<;>first|(cases c;done)|skip
  subst i;cases c;exact Oo cc s σ H _ _ v u Q I f g ⟨_,_,rfl,rfl,vK.now o h jb⟩
 .obtain⟨a,m,rfl,q,e⟩:=lu o j e1;simp only at c;split at c
  .rename_i hc;rw[aZ] at hc;cases c;obtain⟨n,p⟩:=Bz hc.1 i;obtain⟨r,w⟩:=xJ hc.1 _ _ hc.2 e;refine Ec cc s σ H _ _ v u Q I f g ⟨a,m,rfl,.inr q,p,r,?_⟩;subst n;rw[w];exact vK.now o h jb
  .cases c
 .obtain⟨a,m,rfl,q,e⟩:=jh o j e1;simp only at c;split at c
  .rename_i hc;rw[aZ] at hc;cases c;obtain⟨n,p⟩:=Bz hc.1 i;obtain⟨r,w⟩:=xJ hc.1 _ _ hc.2 e;refine Ec cc s σ H _ _ v u Q I f g ⟨a,m,rfl,.inl (l9.of q),p,r,?_⟩;subst n;rw[w];exact vK.now o h jb
  .cases c
 .obtain⟨a,m,rfl,q,G,e⟩:=mX o j e1;simp only at c;split at c
  .rename_i k J;cases c;cases pk i J;obtain rfl:u=bE a:=g;refine agG B I (rf.kr q) f λN L=>⟨.bl _,H,L,rfl,?_⟩;rw[zS e G];exact vK.now o h jb
  .cases c
set_option tactic.hygienic true in
def Se(B:X.A.units+1<eC):JC X .NotIn (AO ag):=by
 refine⟨HB,λcc s σ H x y v u Q I f g h=>?_⟩;obtain⟨F,α,M,C,E,o,i,j,b,c,h⟩:=h;generalize e1:vw M E=z at c;unfold inD at c;cases z<;>first|(cases c;done)|skip
 .have e2:=mn e1;subst e2;subst j;cases C<;>first|(cases c;done)|skip
  subst i;cases c;exact E6 cc s σ H _ _ v u Q I f g ⟨_,_,rfl,rfl,vK.now o h jb⟩
 .obtain⟨a,m,rfl,q,e⟩:=lu o j e1;simp only at c;split at c
  .rename_i hc;rw[aZ] at hc;cases c;obtain⟨n,p⟩:=Bz hc.1 i;obtain⟨r,w⟩:=xJ hc.1 _ _ hc.2 e;refine xF cc s σ H _ _ v u Q I f g ⟨a,m,rfl,.inr q,p,r,?_⟩;subst n;rw[w];exact vK.now o h jb
  .cases c
 .obtain⟨a,m,rfl,q,e⟩:=jh o j e1;simp only at c;split at c
  .rename_i hc;rw[aZ] at hc;cases c;obtain⟨n,p⟩:=Bz hc.1 i;obtain⟨r,w⟩:=xJ hc.1 _ _ hc.2 e;refine xF cc s σ H _ _ v u Q I f g ⟨a,m,rfl,.inl (l9.of q),p,r,?_⟩;subst n;rw[w];exact vK.now o h jb
  .cases c
 .obtain⟨a,m,rfl,q,G,e⟩:=mX o j e1;simp only at c;split at c
  .rename_i k J;cases c;cases pk i J;obtain rfl:u=bE a:=g;refine VF B I (rf.kr q) f λN L=>⟨.bl _,H,L,rfl,?_⟩;rw[zS e G];exact vK.now o h jb
  .cases c
end
section
variable {X:Cx} {es rest:List bI}
abbrev DO:=lY->Ms->(Option Int->Ms->Prop)->Prop
def lO (K:af)(t:DO):TO:=λσ H Q=>∃F α g M,R K F α H σ g M/\t g M λi h=>∀j f,Ext F α H M j f h->OK K F j f h->Q i f
structure JOp(X:Cx)(e:Option bI)(t:DO):Prop where
 mono:∀δ M (P Q:Option Int->Ms->Prop),(∀d M,P d M->Q d M)->t δ M P->t δ M Q
 p:PO X e (lO X.K t)
def PO.weak{e:Option bI}{t f:TO}(h:PO X e t)(w:∀σ H Q,f σ H Q->t σ H Q):PO X e f:=by intro cc s σ H Q I q;exact h cc s σ H Q I (w σ H Q q)
def oQ:DO:=λ_ M Q=>Q ar M
def uj (te:DE):DO:=λf M Q=>te f M λd M1=>match d with|.int i=>Q (aa i) M1|_=>False
def Sf:JOp X ar oQ:=⟨λf M P Q w q=>w _ _ q,PO.weak VL λσ H Q zq=>by obtain⟨F,α,f,M,r,q⟩:=zq;exact q α H Ext.refl r.ok⟩
def Sg(h:JE X e te):JOp X (aa e) (uj te):=by
 refine⟨λf M P Q w q=>h.mono f _ _ _ (λd M1 q=>?_) q,PO.weak (VM h.p) λσ H Q q=>?_⟩
 .cases d<;>first|exact q.elim|exact w _ _ q
 .obtain⟨F,α,f,M,r,q⟩:=q;refine⟨F,α,f,M,r,h.mono f _ _ _ (λd M1 q v i H1 e1 o1 g=>?_) q⟩;cases d<;>first|exact q.elim|skip
  unfold Rep at g;exact⟨_,g,q i H1 e1 o1⟩
def Vb (te:DE)(tl h:DO):DE:=λg M Q=>te g M λd M1=>tl g M1 λlo M2=>h g M2 λhi f=>match vw f d with
 |.lst xs=>Q (.lst (cutD xs lo hi)) f
 |.p6 xs=>Q (.lst (cutD (xs.map D.int) lo hi)) f
 |.tup xs=>¬(HT.p9 xs.length 0 lo=0/\HT.p9 xs.length xs.length hi=xs.length)/\Q (.tup (cutD xs lo hi)) f
 |.str z=>z.length<=aO/\Q (.str (Txt.slice z lo hi)) f
 |_=>False
def ahd{lo hi:Option bI}{tl J:DO}(E:JE X e te)(s:JOp X lo tl)(G:JOp X hi J):JE X (.Subscript e (.Slice lo hi ar p2) pos) (Vb te tl J):=by
 refine⟨λg M P Q w q=>E.mono g _ _ _ (λd M1 q=>s.mono g _ _ _ (λi M2 q=>G.mono g _ _ _ (λj f q=>?_) q) q) q,PE.weak (Ro (VP.or (aay.or aaJ)) E.p s.p G.p) λσ H Q q=>?_⟩
 .generalize vw f d=z at q |-;cases z<;>first|exact q.elim|exact w _ _ q|exact⟨q.1,w _ _ q.2⟩
 .obtain⟨F,α,g,M,r,q⟩:=q;refine⟨F,α,g,M,r,E.mono g _ _ _ (λd M1 q v L H1 e1 o1 N=>⟨F,L,g,M1,r.grow e1 o1,s.mono g _ _ _ (λi M2 q O T e2 o2=>⟨F,O,g,M2,r.grow (e1.trans e2) o2,G.mono g _ _ _ (λj f q y A e3 h=>?_) q⟩) q⟩) q⟩;have Fh:=(e1.trans e2).trans e3;have o:=(e2.trans e3).rep N;have m:(match vw f d with
   |.lst xs=>vK X.K F y A f Q (.lst (cutD xs i j)) f
   |.p6 xs=>vK X.K F y A f Q (.lst (cutD (xs.map D.int) i j)) f
   |.tup xs=>¬(HT.p9 xs.length 0 i=0/\HT.p9 xs.length xs.length j=xs.length)/\vK X.K F y A f Q (.tup (cutD xs i j)) f
   |.str z=>z.length<=aO/\vK X.K F y A f Q (.str (Txt.slice z i j)) f
   |_=>False):=by generalize vw f d=z at q |-;cases z<;>first|exact q.elim|exact vK.grow Fh _ _ q|exact⟨q.1,vK.grow Fh _ _ q.2⟩
  clear q;generalize B:vw f d=z at m;cases z<;>first|exact m.elim|skip
  .cases mn B;unfold Rep at o;exact .inr (.inr ⟨_,o,m.1,vK.now h m.2 oI⟩)
  .obtain⟨a,I,rfl,u,C⟩:=lu h o B;have s:=hW.length _ _ C;refine .inr (.inl ⟨a,I,rfl,u,by rw[<-s];exact m.1,λp n=>vK.new h n m.2 (kP h n (hW.cut C i j))⟩)
  .obtain⟨a,I,rfl,u,C⟩:=jh h o B;exact .inl ⟨a,I,rfl,l9.of u,λp n=>vK.new h n m (nK h n (hW.cut C i j))⟩
  .cases ug B;unfold Rep at o;obtain⟨a,rfl,u⟩:=o;refine .inl ⟨a,_,rfl,kE ip u,λp n=>vK.new h n m (nK h n (hW.cut (hW.of_map _ _ (λc=>i8) _) i j))⟩
def OP (te:DE):DE:=λf M Q=>te f M λd M1=>match d with|.int i=>Q (.int (-i)) M1|_=>False
def aez(h:JE X e te):JE X (.UnaryOp .USub e pos) (OP te):=by
 refine⟨λf M P Q w q=>h.mono f _ _ _ (λd M1 q=>?_) q,PE.weak (adG aap h.p) λσ H Q q=>?_⟩
 .cases d<;>first|exact q.elim|exact w _ _ q
 .obtain⟨F,α,f,M,r,q⟩:=q;refine⟨F,α,f,M,r,h.mono f _ _ _ (λd M1 q v i H1 e1 o1 g=>?_) q⟩;cases d<;>first|exact q.elim|skip
  unfold Rep at g;exact⟨_,g,q _ i H1 e1 o1 i8⟩
def Fv:G2:=λx y M Q=>match vw M x,y with
 |.int i,.int j=>xw i j/\Q (.int (i*j)) M
 |.lst xs,.int k=>(-(2^63)<=k/\k<2^63/\xs.length*k.toNat<=aO)/\Q (.lst (bW k.toNat xs).flatten) M
 |.str z,.int k=>MulOk z k/\Q (.str (Txt.mul z k)) M
 |_,_=>False
def KR:rS X (binaryOp .Mult) (λx y H Q=>∃z k,x=.str z/\y=.int k/\MulOk z k/\Q (.str (Txt.mul z k)) H):=by intro cc s σ H x y v u Q I f g h;obtain⟨z,k,rfl,rfl,ok,q⟩:=h;obtain⟨t,rfl⟩:=f;obtain⟨i,rfl⟩:=g;exact SB.mul ok λi k=>⟨.str _,H,I.tok _,⟨_,rfl⟩,q⟩
def abk:JO X .Mult Fv:=by
 refine⟨λx y M P Q w q=>?_,λcc s σ H x y v u Q I i j h=>?_⟩
 .unfold Fv at q |-;generalize vw M x=a at q |-;split at q<;>first|exact q.elim|exact⟨q.1,w _ _ q.2⟩
 .obtain⟨F,α,M,r,C,o,g,f,h⟩:=h;unfold Fv at h;generalize e1:vw M r=a at h;split at h<;>first|exact h.elim|skip
  .cases wu e1;unfold Rep at g f;exact aam cc s σ H x y v u Q I i j ⟨_,_,g,f,h.1,vK.now o h.2 i8⟩
  .obtain⟨a,z,rfl,A,m⟩:=jh o g e1;unfold Rep at f;subst f;have B:=hW.length _ _ m;exact aaF cc s σ H _ _ v u Q I i j ⟨a,_,z,rfl,rfl,A,h.1.1,h.1.2.1,by rw[<-B];exact h.1.2.2,λp n=>vK.new o n h.2 (nK o n (hW.rep m _))⟩
  .cases mn e1;unfold Rep at g f;exact KR cc s σ H x y v u Q I i j ⟨_,_,g,f,h.1,vK.now o h.2 oI⟩
noncomputable def OQ:D->Option Nat
 |.lst ds=>aa ds.length
 |.tup ds=>aa ds.length
 |.p6 ns=>aa ns.length
 |.str z=>if z.length<=aO then aa z.length else ar
 |.jD f _=>aa f.length
 |_=>ar
def j3:GN:=λds M Q=>match ds with
 |[d]=>∃n:Nat,OQ (vw M d)=aa n/\Q (.int n) M
 |_=>False
set_option tactic.hygienic true in
def abl:JB X (.builtin mv) j3:=by
 refine⟨λds M P Q w q=>?_,λcc s σ H xs us Q I rs h=>?_⟩
 .match ds,q with
  |[d],⟨n,e,q⟩=>exact⟨n,e,w _ _ q⟩
 .obtain⟨F,α,M,ds,o,u,h⟩:=h;match ds,h,u with
  |[d],⟨n,f,q⟩,u=>
   obtain⟨v,E,g⟩:=mq u;subst E;generalize e1:vw M d=z at f;cases z<;>first|(cases f;done)|skip
   .cases mn e1;unfold Rep at g;subst g;rename_i y _;have f:(if y.length<=aO then aa y.length else ar)=aa n:=f;by_cases A:y.length<=aO
    .rw[if_pos A] at f;cases f;exact Fc cc s σ H _ us Q I rs ⟨_,rfl,A,vK.now o q i8⟩
    .rw[if_neg A] at f;cases f
   .cases f;obtain⟨a,r,rfl,i,j⟩:=lu o g e1;have m:=hW.length _ _ j;refine rT cc s σ H _ us Q I rs ⟨a,r,rfl,.inr i,?_⟩;rw[<-m];exact vK.now o q i8
   .cases f;obtain⟨a,r,rfl,i,j⟩:=jh o g e1;have m:=hW.length _ _ j;refine rT cc s σ H _ us Q I rs ⟨a,r,rfl,.inl (l9.of i),?_⟩;rw[<-m];exact vK.now o q i8
   .cases f;obtain⟨a,r,rfl,i,C,j⟩:=mX o g e1;have m:=hW.length _ _ j;obtain⟨J,rfl,B⟩:=vals1 rs;cases B;refine adP I i λt L G=>⟨.int _,H,G,⟨t,rfl⟩,?_⟩;rw[cJ,<-m,C,Nat.min_self,<-C];exact vK.now o q i8
   .cases ug e1;cases f;unfold Rep at g;obtain⟨a,rfl,i⟩:=g;refine rT cc s σ H _ us Q I rs ⟨a,_,rfl,.inl (kE ip i),?_⟩;rw[ao];exact vK.now o q i8
def OR:GN:=λds M Q=>match ds with
 |[d]=>∃bs:List Bool,vw M d=.lst (bs.map D.bl)/\Q (.bl (bs.all id)) M
 |_=>False
theorem BA{K:af}{α:List aw}{H:Hp}:∀(bs:List Bool) (f:List V),hW K α H (bs.map D.bl) f->f=bs.map V.bl
 |[],f,h=>by unfold hW at h;exact h
 |b::bs,f,h=>by rw[bq] at h;unfold hW at h;obtain⟨v,r,rfl,z,y⟩:=h;unfold Rep at z;subst z;rw[BA bs r y];rfl
def abm(hc:X.calm=ag:=by rfl):JB X (.builtin "all") OR:=by
 refine⟨λds M P Q w q=>?_,λcc s σ H xs us Q I rs h=>?_⟩
 .match ds,q with
  |[d],⟨n,e,q⟩=>exact⟨n,e,w _ _ q⟩
 .obtain⟨F,α,M,ds,o,f,h⟩:=h;match ds,h,f with
  |[d],⟨bs,g,q⟩,f=>
   obtain⟨v,i,j⟩:=mq f;subst i;obtain⟨a,m,rfl,r,u⟩:=jh o j g;have:=BA bs m u;subst this;exact RE hc cc s σ H _ us Q I rs ⟨a,bs,rfl,l9.of r,vK.now o q jb⟩
noncomputable def kd:D->Option String
 |.non=>aa qa
 |.bl _=>aa hB
 |.int _=>aa fw
 |.str _=>aa fx
 |.tup _=>aa ej
 |.lst _|.p6 _=>aa cr
 |.jD _ _=>aa fi
 |_=>ar
noncomputable def isK(k n:String):Option Bool:=if([fw,hB,fx,ej,cr,fi].contains n&&[qa,hB,fw,fx,ej,cr,fi].contains k)=ag then aa (k==n||(k==hB&&n==fw)) else ar
noncomputable def v6(n:String)(d:D):Option Bool:=match kd d with
 |some k=>isK k n
 |none=>ar
def Wu{K:af}:([fw,hB,fx,ej,cr,fi].all λn=>[qa,hB,fw,fx,ej,cr,fi].all λk=>bb K (.type k) (.type n)==isK k n)=ag:=rfl
def Wv{K:af}{k n:String}{b:Bool}(h:isK k n=aa b):bb K (.type k) (.type n)=aa b:=by
 have f:=h;unfold isK at h;split at h
 .rename_i hc;rw[aZ,List.contains_iff_mem,List.contains_iff_mem] at hc;rw[eq_of_beq (bT.mp (bT.mp (Wu (K:=K)) n hc.1) k hc.2),f]
 .cases h
structure MZ(K:af)(C:aw):Prop where
 cl:ME K C
 ha:aF K (.ref C) oj=aa (aa (.builtin kf))
 hn:W.specialIn K (.builtin kf) rb=aa (aa (.builtin rh))
 htk:W.takesIn K (.builtin kf)=aa ag
 hm:W.mroIn K C (.type nk)=aa ag
noncomputable def tyv:D->Option ai
 |.non=>aa (.type qa)
 |.bl _=>aa (.type hB)
 |.int _=>aa (.type fw)
 |.str _=>aa (.type fx)
 |.tup _=>aa (.type ej)
 |.lst _|.p6 _=>aa (.type cr)
 |.jD _ _=>aa (.type fi)
 |.ins C _ _=>aa (.ref C)
 |_=>ar
def Ww{K:af}{n:String}{d:D}{b:Bool}(h:v6 n d=aa b):∃t,tyv d=aa t/\bb K t (.type n)=aa b/\∀C ns es,d≠.ins C ns es:=by cases d<;>first|(cases h;done)|exact⟨_,rfl,Wv h,λ_ _ _ z=>by cases z⟩
set_option tactic.hygienic true in
def HC{cc:List (aw×cB)}{s:av}{σ:L2.St}{H:Hp}(I:L2.Inv X cc σ H s){F α:List aw}{M:Ms}{d:D}{x:V}{u t c:ai}{B:Bool}{Q:ai->av->Prop}(o:OK X.K F α H M)(r:Rep X.K α (jo F α M H) d x)(g:RelV x u)
(f:tyv (vw M d)=aa t)(hi:∀C ns es,vw M d=.ins C ns es->MZ X.K C)(e:bb X.K t c=aa B)(h:∀tk,Q (.bool B) {s with toks:=tk}):wpAny (model X.prog X.w) X.A (call (.builtin ol) [u,c]) Q X.xe s:=by
 generalize e1:vw M d=z at f hi;cases z<;>first|(cases f;done)|skip
 case non=>
  have:d=.non:=by cases d with
   |loc k=>rcases iS e1 with e|⟨y,E,e⟩<;>first|cases e|(cases y<;>cases e)
   |_=>exact e1
  subst this;unfold Rep at r;subst r;cases f;exact oY I g .non e h
 case bl G=>
  have:d=.bl G:=by cases d with
   |loc k=>rcases iS e1 with e|⟨y,E,e⟩<;>first|cases e|(cases y<;>cases e)
   |_=>exact e1
  subst this;unfold Rep at r;subst r;cases f;exact oY I g (.bl _) e h
 case int=>
  cases wu e1;unfold Rep at r;subst r;cases f;exact oY I g (.int _) e h
 case str=>
  cases mn e1;unfold Rep at r;subst r;cases f;exact oY I g (.str _) e h
 case tup=>
  cases f;obtain⟨a,q,rfl,i,v⟩:=lu o r e1;obtain rfl:u=bE a:=g;obtain⟨iq,J,⟨ob,j,m,_⟩,_⟩:=I.tuple i;exact W.kia_one W.kitx_tuple I.rM ⟨ob,j,m⟩ e (λz=>nomatch z) h
 case lst=>
  cases f;obtain⟨a,q,rfl,i,v⟩:=jh o r e1;exact oY I g (.lst i) e h
 case jD=>
  cases f;obtain⟨a,q,rfl,i,L,v⟩:=mX o r e1;obtain rfl:u=bE a:=g;obtain⟨_,_,N,_,ob,_,_,j,m,_⟩:=p8 I.iO i;exact W.kia_one W.kitx_dict I.rM ⟨ob,j,m.1⟩ e (λz=>nomatch z) h
 case ins=>
  cases f;obtain⟨a,O,q,rfl,i,L,v⟩:=KJ o r e1;have k:=hi _ _ _ rfl;exact oY I g (.ins i k.cl k.ha k.hn k.htk k.hm) e h
 case p6=>
  cases f;cases ug e1;unfold Rep at r;obtain⟨a,rfl,i⟩:=r;obtain rfl:u=bE a:=g;obtain⟨iq,J,⟨ob,n,j,m,_⟩,_⟩:=I.list (kE ip i);exact W.kia_one W.kitx_list I.rM ⟨ob,j,m⟩ e (λz=>nomatch z) h
def kH (K:af):GN:=λds M Q=>match ds with
 |[d,.ty n]=>∃b,v6 n (vw M d)=aa b/\Q (.bl b) M
 |[d,.cls C]=>∃t b,tyv (vw M d)=aa t/\(∀C ns es,vw M d=.ins C ns es->MZ K C)/\bb K t (.ref C)=aa b/\Q (.bl b) M
 |_=>False
def abn:JB X (.builtin ol) (kH X.K):=by
 refine⟨λds M P Q w q=>?_,λcc s σ H xs us Q I rs h=>?_⟩
 .match ds,q with
  |[d,.ty n],⟨b,e,q⟩=>exact⟨b,e,w _ _ q⟩
  |[d,.cls n],⟨t,b,e1,e2,e3,q⟩=>exact⟨t,b,e1,e2,e3,w _ _ q⟩
 .obtain⟨F,α,M,ds,o,f,h⟩:=h;match ds,h,f with
  |[d,.ty n],⟨b,e,q⟩,f=>
   obtain⟨v,u,i,j,g⟩:=v5 f;subst i;unfold Rep at g;subst g;obtain⟨A,m,rfl,r,y⟩:=vals2 rs;obtain rfl:m=c8 n:=y;obtain⟨t,e1,e2,e3⟩:=Ww (K:=X.K) e;exact HC I o j r e1 (λC ns es z=>absurd z (e3 C ns es)) e2 λtk=>⟨.bl b,H,I.tok tk,rfl,vK.now o q jb⟩
  |[d,.cls C],⟨t,b,e1,e2,e3,q⟩,f=>
   obtain⟨v,u,i,j,g⟩:=v5 f;subst i;unfold Rep at g;subst g;obtain⟨A,m,rfl,r,y⟩:=vals2 rs;obtain rfl:m=bE C:=y;exact HC I o j r e1 e2 e3 λtk=>⟨.bl b,H,I.tok tk,rfl,vK.now o q jb⟩
def Fw:GN:=λds M Q=>match ds with
 |[d]=>match vw M d with
  |.lst xs=>Q (.tup xs) M
  |.tup xs=>Q (.tup xs) M
  |_=>False
 |_=>False
def Sj:JB X (.type ej) Fw:=by
 refine⟨λds M P Q w q=>?_,λcc s σ H xs us Q I rs h=>?_⟩
 .match ds,q with
  |[d],q=>
   have q:(match vw M d with|.lst xs=>P (.tup xs) M|.tup xs=>P (.tup xs) M|_=>False):=q;show(match vw M d with|.lst xs=>Q (.tup xs) M|.tup xs=>Q (.tup xs) M|_=>False);generalize vw M d=z at q |-;cases z<;>first|exact q.elim|exact w _ _ q
 .obtain⟨F,α,M,ds,o,f,h⟩:=h;match ds,h,f with
  |[d],q,f=>
   obtain⟨v,r,g⟩:=mq f;subst r;have q:(match vw M d with|.lst xs=>vK X.K F α H M Q (.tup xs) M|.tup xs=>vK X.K F α H M Q (.tup xs) M|_=>False):=q;generalize e1:vw M d=z at q;cases z<;>first|exact q.elim|skip
   .cases KL e1;obtain⟨a,i,rfl,j,m⟩:=lu o g e1;exact vY cc s σ H _ us Q I rs ⟨a,i,rfl,.inr ⟨j,vK.now o q g⟩⟩
   .obtain⟨a,i,rfl,j,m⟩:=jh o g e1;exact vY cc s σ H _ us Q I rs ⟨a,i,rfl,.inl ⟨l9.of j,λp n=>vK.new o n q (kP o n m)⟩⟩
abbrev GF:=List D->Ms->(OD->Ms->Prop)->Prop
def rDF (K:af)(g:GF):List V->Hp->VK->Prop:=λxs H Q=>∃F α M ds,OK K F α H M/\hW K α (jo F α M H) ds xs/\g ds M (fK K F α H M Q)
structure JBF(X:Cx)(f:ai)(g:GF):Prop where
 mono:∀xs M (P Q:OD->Ms->Prop),(∀d M,P d M->Q d M)->g xs M P->g xs M Q
 p:lV X f (rDF X.K g)
def Qz (g:GF)(tt:DA):DF:=λf M Q=>tt f M λds M1=>g ds M1 Q
def aeA{T:String}{g:GF}(o:JBF X (.type T) g)(hm:X.mg x=ar)(h:bS x=aa (.type T))(ha:JA X (e::es) tt)(i:Gl X x:=by rfl)(hn:x≠me:=by decide)(j:(x==(fk:aY))=au:=by decide)
(m:bg (e::es) X.env=(au,eval e X.env)::bg es X.env:=by rfl)(n:(du pos (bg es X.env)).any (·.1)=au:=by rfl):JF X (.Call (.Name x p) (e::es) [] pos) (Qz g tt):=by refine⟨λf M P Q w q=>ha.mono f _ _ _ (λds M1 q=>o.mono _ _ _ _ w q) q,PE.weak (yN o.p i hm h ha.p hn j m n) λσ H Q q=>?_⟩;obtain⟨F,α,f,M,r,q⟩:=q;exact⟨F,α,f,M,r,ha.mono f _ _ _ (λds M1 q v s H1 e1 o1 u=>⟨F,s,M1,ds,o1,u,o.mono _ _ _ _ (fK.grow e1) q⟩) q⟩
def aeB{id:String}{g:GF}(o:JBF X (.builtin id) g)(hm:X.mg x=ar)(h:bS x=aa (.builtin id))(ha:JA X (e::es) tt)(i:Gl X x:=by rfl)(hn:x≠me:=by decide)(j:(x==(fk:aY))=au:=by decide)
(m:bg (e::es) X.env=(au,eval e X.env)::bg es X.env:=by rfl)(n:(du pos (bg es X.env)).any (·.1)=au:=by rfl):JF X (.Call (.Name x p) (e::es) [] pos) (Qz g tt):=by refine⟨λf M P Q w q=>ha.mono f _ _ _ (λds M1 q=>o.mono _ _ _ _ w q) q,PE.weak (Bb o.p i hm h ha.p hn j m n) λσ H Q q=>?_⟩;obtain⟨F,α,f,M,r,q⟩:=q;exact⟨F,α,f,M,r,ha.mono f _ _ _ (λds M1 q v s H1 e1 o1 u=>⟨F,s,M1,ds,o1,u,o.mono _ _ _ _ (fK.grow e1) q⟩) q⟩
def wB:GF:=λds M Q=>match ds with
 |[d]=>match vw M d with
  |.lst xs=>Q (.lst xs) M
  |.tup xs=>Q (.lst xs) M
  |.p6 xs=>Q (.lst (xs.map D.int)) M
  |_=>False
 |_=>False
def Sl:JBF X (.type cr) wB:=by
 refine⟨λds M P Q w q=>?_,λcc s σ H xs us Q I rs h=>?_⟩
 .match ds,q with
  |[d],q=>
   have q:(match vw M d with|.lst xs=>P (.lst xs) M|.tup xs=>P (.lst xs) M|.p6 xs=>P (.lst (xs.map D.int)) M|_=>False):=q;show(match vw M d with|.lst xs=>Q (.lst xs) M|.tup xs=>Q (.lst xs) M|.p6 xs=>Q (.lst (xs.map D.int)) M|_=>False);generalize vw M d=z at q |-;cases z<;>first|exact q.elim|exact w _ _ q
 .obtain⟨F,α,M,ds,o,m,h⟩:=h;match ds,h,m with
  |[d],q,m=>
   obtain⟨v,r,j⟩:=mq m;subst r;have q:(match vw M d with|.lst xs=>fK X.K F α H M Q (.lst xs) M|.tup xs=>fK X.K F α H M Q (.lst xs) M|.p6 xs=>fK X.K F α H M Q (.lst (xs.map D.int)) M|_=>False):=q;generalize e1:vw M d=z at q;cases z<;>first|exact q.elim|skip
   .obtain⟨a,f,rfl,g,n⟩:=lu o j e1;exact rV cc s σ H _ us Q I rs ⟨a,f,rfl,.inr g,λp i=>q p _ α H Ext.refl o i ⟨f,rfl,n⟩⟩
   .obtain⟨a,f,rfl,g,n⟩:=jh o j e1;exact rV cc s σ H _ us Q I rs ⟨a,f,rfl,.inl (l9.of g),λp i=>q p _ α H Ext.refl o i ⟨f,rfl,n⟩⟩
   .cases ug e1;unfold Rep at j;obtain⟨a,rfl,g⟩:=j;exact rV cc s σ H _ us Q I rs ⟨a,_,rfl,.inl (kE ip g),λp i=>q p _ α H Ext.refl o i ⟨_,rfl,hW.of_map _ _ (λc=>i8) _⟩⟩
end
noncomputable def HD(f:aY):List aY->List D->Option D
 |n::ns,d::ds=>if n=f then aa d else HD f ns ds
 |_,_=>ar
def KS{v:V}{ns:List aY}:(((n,v)::ns.zip a).lookup f)=if n=f then aa v else(ns.zip a).lookup f:=by
 rw[dO];by_cases h:n=f
 .subst h;simp
 .have:(f==n)=au:=by simpa usingλz=>h z.symm
  rw[this,if_neg h]
theorem BC{K:af}:∀(ns:List aY) (ds:List D) (a:List V),hW K α H ds a->ns.length=ds.length->
  (∀d,HD f ns ds=aa d->∃v,(ns.zip a).lookup f=aa v/\Rep K α H d v)/\(HD f ns ds=ar->(ns.zip a).lookup f=ar)
 |[],ds,a,h,l=>⟨λd e=>by simp[HD] at e,λ_=>rfl⟩
 |n::ns,[],a,h,l=>by simp at l
 |n::ns,d::ds,a,h,l=>by
  obtain⟨v,r,rfl,z,y⟩:=h;have b:=BC (f:=f) ns ds r y (by simpa using l);rw[cQ,KS];unfold HD;by_cases e:n=f
  .rw[if_pos e,if_pos e];exact⟨λc e'=>⟨v,rfl,by cases e';exact z⟩,λe'=>by cases e'⟩
  .rw[if_neg e,if_neg e];exact b
structure Eo(K:af)(C:aw)(f:aY):Prop where
 cl:ME K C
 na:tX K C f
section
variable {X:Cx} {es rest:List bI} {apos:eB}
def Sm (K:af)(f:aY)(te:DE):DE:=λg M Q=>te g M λd M1=>∃C ns ds x,vw M1 d=.ins C ns ds/\Eo K C f/\HD f ns ds=aa x/\Q x M1
def aeC(h:JE X e te)(hb:dP e f X.env (eval e X.env)=eval e X.env:=by rfl):JE X (.Attribute e f pos) (Sm X.K f te):=by
 refine⟨λg M P Q w q=>h.mono g _ _ _ (λd M1 q=>?_) q,PE.weak (aar h.p hb) λσ H Q q=>?_⟩
 .obtain⟨C,ns,ds,x,j,i,n,q⟩:=q;exact⟨C,ns,ds,x,j,i,n,w _ _ q⟩
 .obtain⟨F,α,g,M,r,q⟩:=q;refine⟨F,α,g,M,r,h.mono g _ _ _ (λd M1 q v s H1 e1 o1 u=>?_) q⟩;obtain⟨C,ns,ds,x,j,i,n,q⟩:=q;obtain⟨a,y,z,rfl,A,B,E⟩:=KJ o1 u j;obtain⟨v,G,I⟩:=(BC ns ds z E B).1 x n;exact⟨a,C,y,_,v,rfl,A,i.cl,i.na,G,q v s H1 e1 o1 I⟩
abbrev Fx:=aw->aY->GN->Prop
structure qN(P:bc)(w:bJ)(K:af)(mg:aY->Option ai)(cq:aC)(k:Nat)(C:aw)(m:aY)(g:GN):Prop where
 mono:kx g
 cl:ME K C
 ok:∃f fd ps,Meth K C m f/\Binds K fd ps []/\j9 P w K mg cq rW k f fd ps (kC K g)
def HE (T:Fx)(m:aY)(to:DE)(tt:DA):DE:=λh M Q=>to h M λd M1=>∃C ns es g,vw M1 d=.ins C ns es/\HD m ns es=ar/\T C m g/\tt h M1 λds M2=>g (d::ds) M2 Q
def Wx{pl:Sem Bool}(J:∀C g,T C m g->qN X.prog X.w X.K X.mg X.cq k C m g)(O:jd k X.A)(z:JE X o to)
(ht:eval (.Call (.Attribute o m apos) [] [] pos) X.env=(do
   let L<-eval o X.env
   ajO apos.atName
   let(f,first)<-holding [L] (aj4 L m pl)
   callWith pos f first (du pos (bg [] X.env)) (aiT pos (fM [] X.env))):=by rfl):
  JE X (.Call (.Attribute o m apos) [] [] pos) (HE T m to hX):=by
 refine⟨λj M P Q w q=>z.mono j _ _ _ (λd M1 q=>?_) q,?_⟩
 .obtain⟨C,ns,es,g,B,E,n,q⟩:=q;exact⟨C,ns,es,g,B,E,n,(J C g n).mono _ _ _ _ w q⟩
 .intro cc s σ H Q I h;obtain⟨F,α,j,M,r,q⟩:=h;refine W.methodCall_KW (j4 (z.p cc s σ H _ I ⟨F,α,j,M,r,z.mono j _ _ _ (λd M1 q v i H1 e1 o1 y=>(show(λv H1=>∃M1 i d,Ext F α H M i H1 M1/\OK X.K F i H1 M1/\Rep X.K i (jo F i M1 H1) d v/\∃C ns es g,vw M1 d=.ins C ns es/\HD m ns es=ar/\T C m g/\g [d] M1 _) v H1 from⟨M1,i,d,e1,o1,y,q⟩)) q⟩) λu s1 zq=>?_) ht;obtain⟨v,H1,I1,U,M1,i,d,e1,o1,y,C,ns,Y,g,B,E,n,q⟩:=zq;obtain⟨a,dx,N,rfl,sq,hl,zz⟩:=KJ o1 y B;obtain rfl:u=bE a:=U;have G:=J C g n;obtain⟨f,fd,ps,hm,hb,FO⟩:=G.ok;refine Kq I1 sq G.cl hm ((BC ns Y N zz hl).2 E) ?_;exact W.callWith_K0 I1.rM hm.kp (Q9 (vs:=[.ref a]) FO O hb .nil Rx I1 (.cons rfl .nil) ⟨F,i,M1,[d],o1,hW.one y,G.mono _ _ _ _ (vK.grow e1) q⟩)
structure ow(P:bc)(w:bJ)(K:af)(mg:aY->Option ai)(cq:aC)(k:Nat)(C:aw)(g:GN):Prop where
 mono:kx g
 ok:∃f fd ps,Mk K C f/\Binds K fd ps []/\j9 P w K mg cq rW k f fd ps (kC K g)
def qO (C:aw)(g:GN)(tt:DA):DE:=λh M Q=>tt h M λds M1=>g (.loc M1.length::ds) (M1++[aa (.ins C [] [])]) λd M2=>d=.non/\∃ns es,M2=M1++[aa (.ins C ns es)]/\lC es=ag/\Q (.ins C ns es) M1
end
mutual
def lb (n:Nat):D->Prop
 |.loc k=>k<n
 |.tup ds|.lst ds|.jD _ ds|.ins _ _ ds|.exc _ _ ds=>OS n ds
 |.non|.bl _|.int _|.str _|.ty _|.p6 _|.cls _=>True
def OS (n:Nat):List D->Prop
 |[]=>True
 |d::ds=>lb n d/\OS n ds
end
mutual
theorem Rep.lb {K:af} {α:List aw} {H:Hp}:∀(d:D) (v:V),Rep K α H d v->L3.lb α.length d
 |.non,v,_|.bl _,v,_|.int _,v,_|.str _,v,_|.ty _,v,_|.p6 _,v,_|.cls _,v,_=>by unfold L3.lb;trivial
 |.loc k,v,h=>by unfold Rep at h;unfold L3.lb;obtain⟨a,e,_⟩:=h;exact(ak.mp e).1
 |.tup ds,v,h=>by unfold Rep at h;unfold L3.lb;obtain⟨a,b,r,q,z⟩:=h;exact hW.lb ds b z
 |.lst ds,v,h=>by unfold Rep at h;unfold L3.lb;obtain⟨a,b,r,q,z⟩:=h;exact hW.lb ds b z
 |.jD c ds,v,h=>by unfold Rep at h;unfold L3.lb;obtain⟨a,b,r,q,l,z⟩:=h;exact hW.lb ds b z
 |.ins C ns ds,v,h=>by unfold Rep at h;unfold L3.lb;obtain⟨a,f,b,r,q,l,z⟩:=h;exact hW.lb ds b z
 |.exc C ns ds,v,h=>by unfold Rep at h;unfold L3.lb;obtain⟨a,b,r,q,l,z⟩:=h;exact hW.lb ds b z
theorem hW.lb {K:af} {α:List aw} {H:Hp}:∀(d:List D) (v:List V),hW K α H d v->L3.OS α.length d
 |[],v,h=>by unfold L3.OS;trivial
 |d::ds,v,h=>by unfold hW at h;unfold L3.OS;obtain⟨u,r,q,z,y⟩:=h;exact⟨Rep.lb d u z,hW.lb ds r y⟩
end
mutual
theorem Rep.shrink {K:af} {α β:List aw} {H:Hp} (p:α <+: β):∀(d:D) (v:V),L3.lb α.length d->Rep K β H d v->Rep K α H d v
 |.non,v,_,h|.bl _,v,_,h|.int _,v,_,h|.str _,v,_,h|.ty _,v,_,h|.p6 _,v,_,h|.cls _,v,_,h=>by unfold Rep at h |-;exact h
 |.loc k,v,n,h=>by unfold Rep at h |-;unfold L3.lb at n;obtain⟨a,e,r⟩:=h;obtain⟨t,rfl⟩:=p;rw[aX n] at e;exact⟨a,e,r⟩
 |.tup ds,v,n,h=>by unfold Rep at h |-;unfold L3.lb at n;obtain⟨a,b,r,q,z⟩:=h;exact⟨a,b,r,q,hW.shrink p ds b n z⟩
 |.lst ds,v,n,h=>by unfold Rep at h |-;unfold L3.lb at n;obtain⟨a,b,r,q,z⟩:=h;exact⟨a,b,r,q,hW.shrink p ds b n z⟩
 |.jD f ds,v,n,h=>by unfold Rep at h |-;unfold L3.lb at n;obtain⟨a,b,r,q,l,z⟩:=h;exact⟨a,b,r,q,l,hW.shrink p ds b n z⟩
 |.ins C ns ds,v,n,h=>by unfold Rep at h |-;unfold L3.lb at n;obtain⟨a,c,b,r,q,l,z⟩:=h;exact⟨a,c,b,r,q,l,hW.shrink p ds b n z⟩
 |.exc C ns ds,v,n,h=>by unfold Rep at h |-;unfold L3.lb at n;obtain⟨a,b,r,q,l,z⟩:=h;exact⟨a,b,r,q,l,hW.shrink p ds b n z⟩
theorem hW.shrink {K:af} {α β:List aw} {H:Hp} (p:α <+: β):∀(d:List D) (v:List V),L3.OS α.length d->hW K β H d v->hW K α H d v
 |[],v,_,h=>by unfold hW at h |-;exact h
 |d::ds,v,n,h=>by unfold hW at h |-;unfold L3.OS at n;obtain⟨u,r,q,z,y⟩:=h;exact⟨u,r,q,Rep.shrink p d u n.1 z,hW.shrink p ds r n.2 y⟩
end
theorem Am.OS{K:af}(h:Am K α e H o a):match o with|.lst ds=>L3.OS α.length ds|.jD _ ds=>L3.OS α.length ds|.ins _ _ ds=>L3.OS α.length ds|.fz _ _ _ ds=>L3.OS α.length ds:=by
 cases o with
 |lst ds=>obtain⟨b,_,r⟩:=h;exact hW.lb _ _ r
 |jD c ds=>obtain⟨b,_,_,r⟩:=h;exact hW.lb _ _ r
 |ins C ns ds=>obtain⟨f,b,_,_,r⟩:=h;exact hW.lb _ _ r
 |fz k g c ds=>obtain⟨_,b,_,_,r⟩:=h;exact hW.lb _ _ r
def OK.Bo{K:af}{F c α:List aw}{v H:Hp}{M N:Ms}(m:OK K F c v M)(h:OK K F α H (M++N))(pre:c <+: α):OK K F c H M/\jC (jo F α (M++N) H) (jo F c M H):=by
 obtain⟨β,rfl⟩:=pre;have u:=m.ml;have o:lv _ (M++N)=lv c M++lv β N:=vt u;have g:jC (jo F _ (M++N) H) (jo F c M H):=λb y e=>by
  obtain⟨z,q⟩:=iG e;rw[o] at z;refine kX e (λw=>z ?_) q
  .simp only [bt] at w |-;rcases w with w|w
   .exact .inl (.inl w)
   .exact .inr w
 refine⟨⟨u,m.nd,λa ha=>⟨(m.fr a ha).1,(h.fr a ha).2⟩,λa ha=>h.al a (bV _ ha),λk y p=>?_,h.tb⟩,g⟩;have x:=(ak.mp p).1;obtain⟨a,s,n⟩:=h.own k y (by rw[aX x];exact p);rw[aX (by exact u▸x)] at s;obtain⟨E,i,j⟩:=m.own k y p;rw[s] at i;cases i;have hb:=j.OS;refine⟨a,s,?_⟩;cases y with
 |lst ds=>
  obtain⟨f,q,r⟩:=n;exact⟨f,q,hW.shrink (cO _ _) _ _ hb (hW.mono (aV _) g _ _ r)⟩
 |jD A ds=>
  obtain⟨f,q,l,r⟩:=n;exact⟨f,q,l,hW.shrink (cO _ _) _ _ hb (hW.mono (aV _) g _ _ r)⟩
 |ins C ns ds=>
  obtain⟨B,f,q,l,r⟩:=n;exact⟨B,f,q,l,hW.shrink (cO _ _) _ _ hb (hW.mono (aV _) g _ _ r)⟩
 |fz k G A ds=>
  obtain⟨_,f,q,l,r⟩:=n;exact⟨j.1,f,q,l,hW.shrink (cO _ _) _ _ hb (hW.mono (aV _) g _ _ r)⟩
section
variable {X:Cx} {es rest:List bI} {pos:eB}
def Wy(n:ow X.prog X.w X.K X.mg X.cq k C g)(T:jd (k+1) X.A)(hm:X.mg x=aa (.ref C))(ha:JA X (e::es) tt)(U:Gl X x:=by rfl)(Y:(x==(fk:aY))=au:=by decide)
(he:bg (e::es) X.env=(au,eval e X.env)::bg es X.env:=by rfl)(vq:(du pos (bg es X.env)).any (·.1)=au:=by rfl):JE X (.Call (.Name x p) (e::es) [] pos) (qO C g tt):=by
 obtain⟨f,fd,ps,mk,hb,FO⟩:=n.ok;refine⟨λi M P Q w q=>ha.mono i _ _ _ (λds M1 q=>n.mono _ _ _ _ (λd M2 q=>?_) q) q,PE.weak (VE mk FO T U hm hb .nil Rx ha.p Y he vq) λσ H Q q=>?_⟩
 .obtain⟨q1,ns,es,q2,q3,q4⟩:=q;exact⟨q1,ns,es,q2,q3,w _ _ q4⟩
 obtain⟨F,α,i,M,r,q⟩:=q;refine⟨F,α,i,M,r,ha.mono i _ _ _ (λds M1 q vs h H1 e1 o1 r1 y s j u vR=>?_) q⟩;have s0:jC H1 (upd (upd H1 s (.own y)) y (.ins C s [])):=λb ob e=>by rw[hZ (jr e j),hZ (jr e u)];exact e
 obtain⟨o2,e2⟩:=o1.enter (x:=.ins C [] []) j s0 ⟨s,[],il,rfl,hW.nil⟩;rw[bu];have G:(h++[y])[M1.length]?=aa y:=by rw[<-o1.ml];simp
 refine⟨F,h++[y],M1++[aa (.ins C [] [])],.loc M1.length::ds,o2,hW.cons ?_ (e2.Bk r1),n.mono _ _ _ _ (λd M2 q v Di I e3 J L=>?_) q⟩
 .unfold Rep;exact⟨y,G,rfl⟩
 .obtain⟨rfl,ns,fs,rfl,hn,q⟩:=q;unfold Rep at L;have pre:h <+: Di:=(cO _ _).trans e3.pre;obtain⟨o4,N⟩:=OK.Bo o1 J pre;have ey:=ML e3.pre G;obtain⟨a,O,dx,ws,hq,hl,rr⟩:=J.own M1.length (.ins C ns fs) (by simp);rw[ey] at O;cases O;have B:y∉F:=λz=>(o1.fr y z).2 (by rw[j]);have E:y∉lv h M1:=λz=>o1.live y z j;have Fh:=e2.trans e3;refine⟨L,q _ h I (e1.trans ⟨aV _,Fh.same.trans N,Fh.fr⟩) o4 ?_⟩;unfold Rep;refine⟨y,dx,ws,rfl,?_,hl,hW.nl _ _ hn (hW.mono (aV _) N _ _ rr)⟩;show kN _ I y=_;exact jz (λz=>(bt.mp z).elim E B) hq rfl
noncomputable def putN(f:aY)(d:D):List aY->List D->List aY×List D
 |n::ns,e::es=>if n=f then(n::ns,d::es) else((n::(putN f d ns es).1),(e::(putN f d ns es).2))
 |ns,es=>(ns++[f],es++[d])
theorem HF{K:af}(rd:Rep K α H d v):∀(ns:List aY) (ds:List D) (g:List V),hW K α H ds g->ns.length=ds.length->
  ∃ws,qY f v (ns.zip g)=(putN f d ns ds).1.zip ws/\(putN f d ns ds).1.length=(putN f d ns ds).2.length/\hW K α H (putN f d ns ds).2 ws
 |[],[],g,h,l=>by exact⟨[v],rfl,rfl,hW.one rd⟩
 |[],e::es,g,h,l=>by simp at l
 |n::ns,[],g,h,l=>by simp at l
 |n::ns,i::es,g,h,l=>by
  obtain⟨u,r,rfl,z,y⟩:=h;obtain⟨ws,j,q,s⟩:=HF rd ns es r y (by simpa using l);by_cases e:n=f
  .subst e;have e1:putN n d (n::ns) (i::es)=(n::ns,d::es):=by unfold putN;rw[if_pos rfl]
   rw[e1];refine⟨v::r,?_,by simpa using l,hW.cons rd y⟩;unfold qY;simp
  .have e1:putN f d (n::ns) (i::es)=(n::(putN f d ns es).1,i::(putN f d ns es).2):=by rw[putN,if_neg e]
   rw[e1];refine⟨u::ws,?_,by simpa using q,hW.cons z s⟩;unfold qY;simp[e,j]
def Y6 (K:af)(f:aY)(to tv:DE):DS:=λE g M=>tv g M λd M1=>to g M1 λo M2=>match o with
 |.loc k=>∃C ns ds,M2[k]?=aa (aa (.ins C ns ds))/\Eo K C f/\ns.length<1000/\E.nx g (M2.set k (aa (.ins C (putN f d ns ds).1 (putN f d ns ds).2)))
 |_=>False
def Wz(j:JE X o to)(n:JE X value tv)(L:eO value (aa (.Attribute o f tW)) pos.line X.env=pure au:=by rfl):JS X (.Assign [.Attribute o f tW] value pos) (Y6 X.K f to tv):=by
 refine⟨λP Q g M w q=>n.mono g _ _ _ (λd M1 q=>j.mono g _ _ _ (λo M2 q=>?_) q) q,PS.weak (aas j.p n.p L) λE σ H q=>?_⟩
 .cases o<;>first|exact q.elim|skip
  obtain⟨C,ns,ds,h,i,A,q⟩:=q;exact⟨C,ns,ds,h,i,A,w.nx _ _ q⟩
 .obtain⟨F,α,g,M,r,q⟩:=q;refine⟨F,α,g,M,r,n.mono g _ _ _ (λd M1 q v N H1 e1 o1 O=>⟨F,N,g,M1,r.grow e1 o1,j.mono g _ _ _ (λod M2 q u T H2 e2 o2 U=>?_) q⟩) q⟩;cases od<;>first|exact q.elim|skip
  rename_i k;obtain⟨C,ns,ds,h,i,A,q⟩:=q;obtain⟨a,B,rfl⟩:=U;obtain⟨a',G,s,I,Y,J,rr⟩:=o2.own k _ h;rw[B] at G;cases G;obtain⟨ws,i1,i2,i3⟩:=HF (f:=f) (e2.rep O) ns ds I rr J;have je:(ns.zip I).length<1000:=by rw[cJ,J];lia
  obtain⟨o3,e3⟩:=o2.write (y:=.ins C _ _) (z:=.ins C s (qY f v _)) h B (λHh eh=>by subst eh;exact⟨s,ws,by rw[il,i1],i2,i3⟩)
  exact⟨a,C,s,_,rfl,Y,i.cl,i.na,je,q σ T _ ((e1.trans e2).trans e3) (r.grow ((e1.trans e2).trans e3) o3)⟩
end
section
variable {K:af}
def Sn{st:cZ}(F:vZ K x qual st f fd)(b:iZ st=body)(es:iE st=scope)(S:jP N a scope)
(c:∀(iQ:ai) (A:bH) (cv:List aie) (s:av) (H:Hp) (E:XK),jd k (A.deeper (dZ qual scope s.heap.objs.size f iQ))->C9 (qZ rW P w K mg cq N qual scope f iQ A cv s H E).DY body tb):
  j9 P w K mg cq rW (k+1) f fd a (kC K (tJ N.length a.length tb)):=by subst b es;exact F.ok S (λe H Q E zq=>by obtain⟨F,α,M,ds,o,r,g,q⟩:=zq;rw[<-hW.length _ _ r];exact g) λiQ A cv s H e Q E i h=>let⟨t,q,z⟩:=RZ (c iQ A cv s H E i) rfl h;⟨t,q.p,z⟩
def OU{st:cZ}(F:vZ K x qual st f fd)(b:iZ st=body)(es:iE st=scope)(S:jP N a scope)
(c:∀(iQ:ai) (A:bH) (cv:List aie) (s:av) (H:Hp) (E:XK),jd k (A.deeper (dZ qual scope s.heap.objs.size f iQ))->C9 (qZ rW P w K mg cq N qual scope f iQ A cv s H E).DY body tb):
  j9 P w K mg cq rW (k+1) f fd a (kC K (cl (j8 N.length a.length tb))):=by subst b es;exact F.ok S (λe H Q E zq=>by obtain⟨F,α,M,ds,o,r,hn,g,q⟩:=zq;rw[<-hW.length _ _ r];exact g) λiQ A cv s H e Q E i h=>let⟨t,q,z⟩:=KN (c iQ A cv s H E i) rfl h;⟨t,q.p,z⟩
def Y7{st:cZ}(k:Nat)(F:ig K mg x st)
(hb:∀(kV doc pm:ai) (an:Option aw) (iQ ct:ai) (us:List ai),us.length=a.length->dI (dy x x (jT st) (iZ st) (iE st) .none kV doc pm an iQ ct) ⟨us,[]⟩=pure (a.zip us)):iN P w K mg cq k x a λ_ _ _=>False:=by obtain⟨f,fd,F,m⟩:=F;exact⟨λ_ _ _ _ _ q=>q,f,fd,m,F.kp,F.binds hb,⟨λb H Q E zq=>by obtain⟨_,_,_,_,_,_,q⟩:=zq;exact q.elim,λA cv s H args us b Q E _ _ _ _ zq=>by obtain⟨_,_,_,_,_,_,q⟩:=zq;exact q.elim⟩⟩
end
abbrev GM:=D->List D->Ms->DK->Prop
def rDm (K:af)(g:GM):V->List V->Hp->VK->Prop:=λx xs H Q=>∃F α M d ds,OK K F α H M/\Rep K α (jo F α M H) d x/\hW K α (jo F α M H) ds xs/\g d ds M (vK K F α H M Q)
structure JM(X:Cx)(id:String)(g:GM):Prop where
 mono:∀d ds M (P Q:DK),(∀d M,P d M->Q d M)->g d ds M P->g d ds M Q
 p:MtR X id (rDm X.K g)
noncomputable def tyD(T:String)(d:D):Bool:=match d with
 |.lst _|.p6 _=>T==cr
 |.str _=>T==fx
 |.int _=>T==fw
 |.jD _ _=>T==fi
 |_=>au
section
variable {X:Cx} {es rest:List bI} {apos ka:eB} {id:String}
def abo(ok:OK X.K F α H M)(r:Rep X.K α (jo F α M H) d v)(h:tyD T (vw M d)=ag):tyV X.K T v H:=by
 generalize e1:vw M d=z at h;cases z<;>first|(cases h;done)|skip
 .cases wu e1;subst r;exact beq_iff_eq.mp h
 .cases mn e1;subst r;exact beq_iff_eq.mp h
 .obtain⟨a,j,rfl,i,_⟩:=jh ok r e1;exact .inl ⟨beq_iff_eq.mp h,j,l9.of i⟩
 .obtain⟨a,j,rfl,i,_⟩:=mX ok r e1;exact .inr (.inr (.inl ⟨beq_iff_eq.mp h,.inl ⟨_,i⟩⟩))
 .cases ug e1;obtain⟨a,rfl,i⟩:=r;exact .inl ⟨beq_iff_eq.mp h,_,kE ip i⟩
def yG (T:String)(g:GM)(to:DE)(tt:DA):DE:=λh M Q=>to h M λd M1=>tyD T (vw M1 d)=ag/\tt h M1 λds M2=>g d ds M2 Q
def OV(i:JM X id g)(y:PlainAttrs T)(slot:Slot T name id)(j:typeOf (.builtin id)=pure (.type "method_descriptor"))(n:JE X o to)(ha:JA X (e::es) tt)
(z:dP o name X.env (eval o X.env)=eval o X.env:=by rfl)
(s:((du ka (bg (e::es) X.env)).all (λx=>!x.1)&&(aiT ka (fM [] X.env)).all (λx=>x.1.isSome)
   &&decide ((e::es).length+([]:List aix).length+(if([]:List aix).isEmpty then 0 else 1)<30))=ag:=by rfl)
(A:(apos.endLine==ka.line)=ag:=by rfl)(B:bg (e::es) X.env=(au,eval e X.env)::bg es X.env:=by rfl)(C:(du ka (bg es X.env)).any (·.1)=au:=by rfl):
  JE X (.Call (.Attribute o name apos) (e::es) [] ka) (yG T g to tt):=by refine⟨λh M P Q w q=>n.mono h _ _ _ (λd M1 q=>⟨q.1,ha.mono h _ _ _ (λds M2 q=>i.mono _ _ _ _ _ w q) q.2⟩) q,PE.weak (adV y slot j i.p n.p ha.p z s A B C) λσ H Q q=>?_⟩;obtain⟨F,α,h,M,r,q⟩:=q;refine⟨F,α,h,M,r,n.mono h _ _ _ (λd M1 q v E H1 e1 o1 u=>⟨abo o1 u q.1,F,E,h,M1,r.grow e1 o1,ha.mono h _ _ _ (λds M2 q J G L e2 o2 I=>?_) q.2⟩) q⟩;exact⟨F,G,M2,d,ds,o2,e2.rep u,I,i.mono _ _ _ _ _ (vK.grow (e1.trans e2)) q⟩
def xL(ok:OK X.K F α H M)(r:Rep X.K α (jo F α M H) (.loc k) v)(h:M[k]?=aa (aa (.lst ds))):
  ∃a i,v=.ref a/\H a=aa (.lst i)/\hW X.K α (jo F α M H) ds i/\∀es ws,hW X.K α (jo F α M H) es ws->OK X.K F α (upd H a (.lst ws)) (M.set k (aa (.lst es)))/\Ext F α H M α (upd H a (.lst ws)) (M.set k (aa (.lst es))):=by obtain⟨a,j,rfl⟩:=r;obtain⟨y,n,i,q,s⟩:=ok.own k _ h;rw[j] at n;cases n;exact⟨a,i,rfl,q,s,λes ws u=>ok.write h j λz w=>by subst w;exact⟨ws,il,u⟩⟩
def iT:GM:=λd ds M Q=>match d,ds with
 |.loc k,[x]=>∃es,M[k]?=aa (aa (.lst es))/\es.length<aO/\Q .non (M.set k (aa (.lst (es++[x]))))
 |_,_=>False
def OW:JM X "list.append" iT:=by
 refine⟨λd ds M P Q w q=>?_,λcc s σ H x xs v us Q I A rs h=>?_⟩
 .match d,ds,q with
  |.loc k,[x],⟨es,i,j,q⟩=>exact⟨es,i,j,w _ _ q⟩
 .obtain⟨F,α,M,d,ds,ok,r,n,h⟩:=h;match d,ds,h,r,n with
  |.loc k,[y],⟨es,i,j,q⟩,r,n=>
   obtain⟨a,B,rfl,C,z,E⟩:=xL ok r i;obtain⟨u,G,J⟩:=mq n;subst G;obtain⟨o2,e2⟩:=E _ _ (hW.append _ _ _ _ z (hW.one J));exact Ee cc s σ H _ _ v us Q I A rs ⟨a,B,u,rfl,rfl,C,by rw[<-hW.length _ _ z];exact j,q _ α _ e2 o2 oJ⟩
def Y8:GM:=λd ds M Q=>match d,ds with
 |.loc k,[]=>∃es x,M[k]?=aa (aa (.lst (es++[x])))/\Q x (M.set k (aa (.lst es)))
 |.loc k,[.int 0]=>∃x es,M[k]?=aa (aa (.lst (x::es)))/\Q x (M.set k (aa (.lst es)))
 |_,_=>False
def hW.dropLast{K:af}{α:List aw}{H:Hp}{es:List D}{x:D}{i:List V}(h:hW K α H (es++[x]) i):∃us v,i=us++[v]/\hW K α H es us/\Rep K α H x v:=by
 induction es generalizing i with
 |nil=>
  obtain⟨v,rfl,r⟩:=mq h;exact⟨[],v,rfl,hW.nil,r⟩
 |cons d es j=>
  rw[eU] at h;unfold hW at h;obtain⟨v,r,rfl,z,y⟩:=h;obtain⟨us,u,rfl,n,q⟩:=j y;exact⟨v::us,u,rfl,hW.cons z n,q⟩
def abp:JM X "list.pop" Y8:=by
 refine⟨λd ds M P Q w q=>?_,λcc s σ H x xs v us Q I E rs h=>?_⟩
 .match d,ds,q with
  |.loc k,[],⟨es,x,i,q⟩=>exact⟨es,x,i,w _ _ q⟩
  |.loc k,[.int 0],⟨x,es,i,q⟩=>exact⟨x,es,i,w _ _ q⟩
 .obtain⟨F,α,M,d,ds,ok,r,j,h⟩:=h;match d,ds,h,r,j with
  |.loc k,[],⟨es,x,i,q⟩,r,j=>
   obtain⟨a,J,rfl,z,n,A⟩:=xL ok r i;unfold hW at j;subst j;obtain⟨ws,u,rfl,B,C⟩:=n.dropLast;obtain⟨o2,e2⟩:=A es ws B;exact aaD cc s σ H _ _ v us Q I E rs ⟨a,_,u,rfl,rfl,z,by simp,by rw[List.dropLast_concat];exact q _ α _ e2 o2 (e2.rep C)⟩
  |.loc k,[.int 0],⟨x,es,i,q⟩,r,j=>
   obtain⟨a,J,rfl,z,n,A⟩:=xL ok r i;obtain⟨u,L,G⟩:=mq j;subst L;unfold Rep at G;subst G;unfold hW at n;obtain⟨y,ws,rfl,C,B⟩:=n;obtain⟨o2,e2⟩:=A es ws B;exact Rt cc s σ H _ _ v us Q I E rs ⟨a,_,0,0,y,rfl,rfl,z,by decide,by decide,by simp[ajn],by simp,q _ α _ e2 o2 (e2.rep C)⟩
end
open PyProof.Rows.KTD
def Sq (K:af)(d:D)(u:ai):Prop:=∃v,RelV v u/\∀α H,Rep K α H d v
structure yW(K:af)(a:aw)(rows:List (aY×D)):Prop where
 lo:(a==b9)=au
 ex:∃o es ep,K.lookup a=aa o/\o.ExactDict/\o.data=.dict es ep/\Rows (Sq K) es.toList rows
section
variable {s:av} {K:af} {k:aY} {tk:akc}
def yW.typeIs(T:yW K a rows)(h:K.In s.heap):s.TypeIs (.ref a) fi:=let⟨o,_,_,b,hc,_⟩:=T.ex;⟨o,h _ _ b,hc.1⟩
def yW.get(T:yW K a rows)(j:K.In s.heap)(m:∀d v,datumAt k rows=aa d->Sq K d v->Q (aa v) {s with toks:=s.toks+1})(n:datumAt k rows=ar->Q ar {s with toks:=s.toks+1}):
  wpAny (model prog w) A (ajU a (.str k tk)) Q E s:=by
 obtain⟨o,es,r,f,hc,hd,g⟩:=T.ex;have f:=j _ _ f;unfold ajU;refine ae (ajZ (ae (kt_dictFind_strs f hd (by obtain⟨l⟩:=es;simpa using g.exact) ?_)));have c:Q (ajI (λk v=>v.isStr k) es k) {s with toks:=s.toks+1}:=by
  have p:ajI (λk v=>v.isStr k) es k=(es.toList.find? λe=>e.key.isStr k).map (·.val):=by obtain⟨l⟩:=es;simp[ajI]
  rw[p];cases b:datumAt k rows with
  |some d=>obtain⟨v,q,h⟩:=g.find_some b;rw[q];exact m d v b h
  |none=>rw[g.find_none b];exact n b
 rw[aiP] at c;cases hi:es.findIdx? λe=>e.key.isStr k with
 |none=>rw[hi] at c;exact ay c
 |some i=>rw[hi] at c;exact ae (eV f hd (ay c))
def yW.item(T:yW K a rows)(b:K.In s.heap)(hm:datumAt k rows=aa d)(h:∀v,Sq K d v->Q v {s with toks:=s.toks+1}):
  wpAny (model prog w) A (aiy (.ref a) (.str k tk)) Q E s:=by
 have ht:=T.typeIs b;unfold aiy;try with_reducible refine bR ?_
 refine ae (ajQ ht (by decide) ?_);refine ae (df ht ajV
  (cD ajV ht entry_dict_getitem ?_ (args_dict_getitem _ _)))
 show wpAny _ _ (ajU a _ >>= _) _ _ s;exact ae (T.get b (λe v ha c=>ay ⟨v,rfl,ay (h v (by rw[hm] at ha;cases ha;exact c))⟩) λhn=>by rw[hm] at hn;cases hn)
def yW.isin{Q:ai->av->Prop}(T:yW K a rows)(c:K.In s.heap)(neg:Bool)(h:Q (.bool (if neg then !inKeys k rows else inKeys k rows)) {s with toks:=s.toks+1}):wpAny (model prog w) A (compareOp (if neg then .NotIn else .In) (.str k tk) (.ref a)) Q E s:=by
 have ht:s.TypeIs (.ref a) fi:=T.typeIs c;have key:∀(b:Bool->av->Prop),b (inKeys k rows) {s with toks:=s.toks+1}->wpAny (model prog w) A (contains (.ref a) (.str k tk)) b E s:=λb h=>by
  unfold contains;try with_reducible refine bR ?_
  refine ae (gM ht aiQ.lookup ?_);rw[if_neg (by rw[beq_builtin_none];exact aS)];refine ae (wpAny_callSpecialUnlessNone?_slot (name:=aij "__contains__") ht aiQ
   (cD aiQ ht entry_dict_contains ?_ (args_dict_contains _ _)))
  show wpAny _ _ (ajU a (.str k tk) >>= _) _ _ s;refine ae (T.get c (λd v ha _=>?_) λhn=>?_)
  .have hb:inKeys k rows=ag:=by rw[<-isSome_datumAt,ha];rfl
   rw[hb] at h;show wpAny _ _ (ret (.bool ag)) _ _ _;exact ay ⟨_,rfl,cy h⟩
  .have hb:inKeys k rows=au:=by rw[<-isSome_datumAt,hn];rfl
   rw[hb] at h;exact ae (wpAny_pendingKey_other T.lo (ay ⟨_,rfl,cy h⟩))
 cases neg with
 |false=>
  exact ae (key _ (ay h))
 |true=>
  exact ae (key _ (ay h))
end
section
variable {X:Cx}
def Fy (a:aw)(rows:List (aY×D)):G2:=λx y M Q=>match x,y with
 |.cls b,.str k=>b=a/\∃d,datumAt k rows=aa d/\Q d M
 |_,_=>False
set_option tactic.hygienic true in
def abq(T:yW X.K a rows):JX X (Fy a rows):=by
 refine⟨λx y M P Q w q=>?_,λvalue slice cc s σ H x y v u Q I e f h g=>?_⟩
 .unfold Fy at*;split at q<;>first|exact q.elim|(obtain⟨i,d,j,q⟩:=q;exact⟨i,d,j,w _ _ q⟩)
 .obtain⟨F,α,M,G,J,o,m,n,h⟩:=h;unfold Fy at h;split at h<;>first|exact h.elim|skip
  obtain⟨rfl,d,hd,q⟩:=h;subst m n;rename_i b k;obtain rfl:v=bE b:=e;obtain⟨t,rfl⟩:=f;have ht:=T.typeIs I.rM;refine ae ?_;refine ae (gM ht PySem.F.slot_dict_getitem.lookup ?_);have c:wpAny (model X.prog X.w) X.A (subscripted slice au (.ref b) (.str k t)) (λr p=>wpAny (model X.prog X.w) X.A (akh value (.ref b) r >>= λ_=>pure r) (EP X cc σ Q) X.xe p) X.xe s:=by rw[g];refine aj7 (T.item I.rM hd λL z=>ae (ajD (ay ?_)));obtain⟨B,C,E⟩:=z;exact⟨B,H,I.tok _,C,vK.now o q (E _ _)⟩
  first
   |exact ay (ae c)
   |exact ae _
   |exact ae c
def Fz (neg:Bool)(a:aw)(rows:List (aY×D)):G2:=λx y M Q=>match x,y with
 |.str k,.cls b=>b=a/\Q (.bl (if neg then !inKeys k rows else inKeys k rows)) M
 |_,_=>False
set_option tactic.hygienic true in
def HG(T:yW X.K a rows):JC X .NotIn (Fz ag a rows):=by
 refine⟨λx y M P Q w q=>?_,λcc s σ H x y v u Q I c e h=>?_⟩
 .unfold Fz at*;split at q<;>first|exact q.elim|exact⟨q.1,w _ _ q.2⟩
 .obtain⟨F,α,M,i,j,o,f,g,h⟩:=h;unfold Fz at h;split at h<;>first|exact h.elim|skip
  obtain⟨rfl,q⟩:=h;subst f g;obtain⟨t,rfl⟩:=c;rename_i k b;obtain rfl:u=bE b:=e;exact T.isin I.rM ag ⟨.bl _,H,I.tok _,rfl,vK.now o q jb⟩
end
end L3
namespace L3
open L2
section
variable {K:af}
def jL{st:cZ}(F:ig K mg x st)(b:iZ st=body)(es:iE st=scope)(S:jP N a scope)
(hb:∀(kV doc pm:ai) (an:Option aw) (iQ ct:ai) (us:List ai),us.length=a.length->dI (dy x x (jT st) (iZ st) (iE st) .none kV doc pm an iQ ct) ⟨us,[]⟩=pure (a.zip us))
(c:∀(f:aw) (iQ:ai) (A:bH) (cv:List aie) (s:av) (H:Hp) (E:XK),jd k (A.deeper (dZ x scope s.heap.objs.size f iQ))->C9 (qZ rW P w K mg cq N x scope f iQ A cv s H E).DY body tb):
  lW P w K mg cq (k+1) x a (kC K (cl (j8 N.length a.length tb))):=
 F.aaK b es S hb (λe H Q E zq=>by obtain⟨F,α,M,ds,o,r,hn,g,q⟩:=zq;rw[<-hW.length _ _ r];exact g) λf iQ A cv s H e Q E i h=>KN (c f iQ A cv s H E i) rfl h
def tL{st:cZ}(F:ig K mg x st)(b:iZ st=body)(es:iE st=scope)(S:jP N a scope)
(hb:∀(kV doc pm:ai) (an:Option aw) (iQ ct:ai) (us:List ai),us.length=a.length->dI (dy x x (jT st) (iZ st) (iE st) .none kV doc pm an iQ ct) ⟨us,[]⟩=pure (a.zip us))
(c:∀(f:aw) (iQ:ai) (A:bH) (cv:List aie) (s:av) (H:Hp) (E:XK),jd k (A.deeper (dZ x scope s.heap.objs.size f iQ))->C9 (qZ rW P w K mg cq N x scope f iQ A cv s H E).DY body tb):
  lW P w K mg cq (k+1) x a (kC K (tJ N.length a.length tb)):=
 F.aaK b es S hb (λe H Q E zq=>by obtain⟨F,α,M,ds,o,r,g,q⟩:=zq;rw[<-hW.length _ _ r];exact g) λf iQ A cv s H e Q E i h=>RZ (c f iQ A cv s H E i) rfl h
def k7(h:lW P w K mg cq k x c (kC K (cl g)))(m:i9 a)(i:∀ds Q,a ds Q->g ds Q):iN P w K mg cq k x c (cl a):=
 ⟨Fk m,let⟨f,fd,e,kp,b,F⟩:=h;⟨f,fd,e,kp,b,F.imp λj H Q E zq=>by obtain⟨F,α,M,ds,o,r,n,q⟩:=zq;exact ⟨F,α,M,ds,o,r,n,i _ _ q⟩⟩⟩
def Ap(h:lW P w K mg cq k x c (kC K g))(m:kx a)(i:∀ds M Q,a ds M Q->g ds M Q):iN P w K mg cq k x c a:=
 ⟨m,let⟨f,fd,e,kp,b,F⟩:=h;⟨f,fd,e,kp,b,F.imp λj H Q E zq=>by obtain⟨F,α,M,ds,o,r,q⟩:=zq;exact ⟨F,α,M,ds,o,r,i _ _ _ q⟩⟩⟩
def methP(c:ME K C)(hm:Meth K C m f)(hb:Binds K fd a [])(F:j9 P w K mg cq rW k f fd a (kC K (cl g)))(e:i9 b)(i:∀ds Q,b ds Q->g ds Q):qN P w K mg cq k C m (cl b):=
 ⟨Fk e,c,f,fd,a,hm,hb,F.imp λh H Q E zq=>by obtain⟨F,α,M,ds,o,r,n,q⟩:=zq;exact ⟨F,α,M,ds,o,r,n,i _ _ q⟩⟩
def aeD(hm:Mk K C f)(hb:Binds K fd a [])(F:j9 P w K mg cq rW k f fd a (kC K g))(c:kx b)(i:∀ds M Q,b ds M Q->g ds M Q):ow P w K mg cq k C b:=
 ⟨c,f,fd,a,hm,hb,F.imp λe H Q E zq=>by obtain⟨F,α,M,ds,o,r,q⟩:=zq;exact ⟨F,α,M,ds,o,r,i _ _ _ q⟩⟩
end
def Sr(h:Hs (ib i))(a:Ht gs):Ht (iw (ib i) gs):=λd b M P q=>by
 cases d with
 |nil=>exact q.elim
 |cons d r=>
  have:=a r _ M P q;simpa[iw,ib] using this
def WA(a:Ht gs):Hs (jR n gs):=aa2 a
theorem k8{st:Ms->Prop}(f:D->D)(b:st M):∀(xs acc:List D),acc.length+xs.length<=aO->
  (∀x∈xs,∀c:Option D->lY->Ms->Prop,(∀a,Fm fr a=e->c (aa (f x)) a M)->Ek g tt j x e M c)->Q (acc++xs.map f) M->ri fr g tt j st Q xs acc e M
 |[],acc,_,_,q=>by rw[gz,bu] at q;exact q
 |x::xs,acc,i,h,q=>by refine h x aN _ λa e1=>⟨b,by simp at i;lia,?_⟩;rw[e1];refine k8 f b xs _ (by simp at i |-;lia) (λy m=>h y (aB _ m)) ?_;rw[bi];exact q
theorem rZ{st:Ms->Prop}(f:D->Option D)(a:st M):∀(xs acc:List D),acc.length+xs.length<=aO->
  (∀x∈xs,∀j:Option D->lY->Ms->Prop,(∀b,Fm fr b=m->j (f x) b M)->Ek g tt n x m M j)->Q (acc++xs.filterMap f) M->ri fr g tt n st Q xs acc m M
 |[],acc,_,_,q=>by rw[List.filterMap_nil,bu] at q;exact q
 |x::xs,acc,c,h,q=>by
  refine h x aN _ λb e1=>⟨a,?_⟩;cases e:f x with
  |none=>
   rw[List.filterMap_cons_none e] at q;rw[e1];exact rZ f a xs acc (by simp at c |-;exact dF c) (λy i=>h y (aB _ i)) q
  |some d=>
   rw[List.filterMap_cons_some e] at q;refine⟨by simp at c;lia,?_⟩;rw[e1];refine rZ f a xs _ (by simp at c |-;lia) (λy i=>h y (aB _ i)) ?_;rw[bi];exact q
theorem xM{st:Ms->Prop}(Pv:Nat->lY->Ms->Prop)(f:∀j a M,Pv j a M->st M):∀(xs:List D) (i:Nat) (a:lY) (M:Ms),Pv i a M->
  (∀j x a M,xs[j]?=aa x->Pv (i+j) a M->∀N:lY->Ms->Prop,(∀b c,Pv (i+j+1) b c->N b c)->g x a M λn M1=>tb {E with nx:=N,ct:=N,bk:=E.nx} n M1)->
  (∀a M,Pv (i+xs.length) a M->E.nx a M)->wq g tb st E xs a M
 |[],i,a,M,p,_,e=>e a M p
 |x::xs,i,a,M,p,h,e=>by
  refine h 0 x a M rfl p _ λb c m=>⟨f _ _ _ m,?_⟩;exact xM Pv f xs (i+1) b c m (λj y a M o r N s=>h (j+1) y a M (by simpa using o) (by rw[show i+(j+1)=i+1+j by lia];exact r) N λb c q=>s b c (by rw[show i+1+j+1=i+(j+1)+1 by lia];exact q))
   (λa M p=>e a M (by rw[aU,show i+(xs.length+1)=i+1+xs.length by lia];exact p))
theorem wC{c:DT}{tb:DS}{E:jp}(Pv:Nat->lY->Ms->Prop)
(h:∀n a M,Pv n a M->∀N:lY->Ms->Prop,(∀m e f,m<n->Pv m e f->N e f)->c a M λb M1=>if b=ag then tb {E with nx:=N,ct:=N,bk:=E.nx} a M1 else E.nx a M1):∀(n:Nat) a M,Pv n a M->∀k,n<k->mW c tb E k a M
 |n,a,M,p,0,g=>absurd g (Nat.not_lt_zero _)
 |n,a,M,p,k+1,g=>by unfold mW;exact h n a M p _ λm e f hm i=>wC Pv h m e f i k (by exact bw hm (Nat.le_of_lt_succ g))
mutual
noncomputable def dv (M:Ms):D->D
 |.non=>.non|.bl b=>.bl b|.int i=>.int i|.str x=>.str x|.ty n=>.ty n|.p6 ns=>.p6 ns|.cls C=>.cls C
 |.loc k=>vw M (.loc k)
 |.tup ds=>.tup (vQ M ds)|.lst ds=>.lst (vQ M ds)|.jD a ds=>.jD a (vQ M ds)|.ins C ns ds=>.ins C ns (vQ M ds)|.exc C ns ds=>.exc C ns (vQ M ds)
noncomputable def vQ (M:Ms):List D->List D
 |[]=>[]
 |d::ds=>dv M d::vQ M ds
end
theorem M6(M:Ms):∀ds:List D,vQ M ds=ds.map (dv M)
 |[]=>rfl
 |d::ds=>by unfold vQ;rw[M6 M ds];rfl
mutual
theorem Y9 (M:Ms):∀d:D,nl d=ag->dv M d=d
 |.non,_=>rfl|.bl _,_=>rfl|.int _,_=>rfl|.str _,_=>rfl|.ty _,_=>rfl|.p6 _,_=>rfl|.cls _,_=>rfl
 |.loc _,h=>by unfold nl at h;cases h
 |.tup ds,h=>by unfold dv;unfold nl at h;rw[yX M ds h]
 |.lst ds,h=>by unfold dv;unfold nl at h;rw[yX M ds h]
 |.jD a ds,h=>by unfold dv;unfold nl at h;rw[yX M ds h]
 |.ins C ns ds,h=>by unfold dv;unfold nl at h;rw[yX M ds h]
 |.exc C ns ds,h=>by unfold dv;unfold nl at h;rw[yX M ds h]
theorem yX (M:Ms):∀ds:List D,lC ds=ag->vQ M ds=ds
 |[],_=>rfl
 |d::ds,h=>by unfold vQ;unfold lC at h;rw[aZ] at h;rw[Y9 M d h.1,yX M ds h.2]
end
def wD(M:Ms)(ds:List D):(vQ M ds).length=ds.length:=by rw[M6,ao]
section
variable {K:af}
mutual
theorem abr (o:OK K F α H M):∀(d:D) (v:V),Rep K α (jo F α M H) d v->Rep K α H (dv M d) v
 |.non,v,h=>by unfold dv;unfold Rep at h |-;exact h
 |.bl _,v,h=>by unfold dv;unfold Rep at h |-;exact h
 |.int _,v,h=>by unfold dv;unfold Rep at h |-;exact h
 |.str _,v,h=>by unfold dv;unfold Rep at h |-;exact h
 |.ty _,v,h=>by unfold dv;unfold Rep at h |-;exact h
 |.cls _,v,h=>by unfold dv;unfold Rep at h |-;exact h
 |.p6 ns,v,h=>by unfold dv;unfold Rep at h |-;obtain⟨a,r,q⟩:=h;exact⟨a,r,kE ip q⟩
 |.loc k,v,h=>by unfold dv;exact Rep.mono (aV _) ip _ _ (wt o _ _ h)
 |.tup ds,v,h=>by unfold dv;unfold Rep at h |-;obtain⟨a,b,r,q,z⟩:=h;exact⟨a,b,r,lX ip q,r6 o ds b z⟩
 |.lst ds,v,h=>by unfold dv;unfold Rep at h |-;obtain⟨a,b,r,q,z⟩:=h;exact⟨a,b,r,ip _ _ q,r6 o ds b z⟩
 |.jD e ds,v,h=>by unfold dv;unfold Rep at h |-;obtain⟨a,b,r,q,l,z⟩:=h;exact⟨a,b,r,Fg ip q,by rw[wD];exact l,r6 o ds b z⟩
 |.ins C ns ds,v,h=>by unfold dv;unfold Rep at h |-;obtain⟨a,c,b,r,q,l,z⟩:=h;exact⟨a,c,b,r,ip _ _ q,by rw[wD];exact l,r6 o ds b z⟩
 |.exc C ns ds,v,h=>by unfold dv;unfold Rep at h |-;obtain⟨a,b,r,q,l,z⟩:=h;exact⟨a,b,r,ip _ _ q,by rw[wD];exact l,r6 o ds b z⟩
theorem r6 (o:OK K F α H M):∀(ds:List D) (b:List V),hW K α (jo F α M H) ds b->hW K α H (vQ M ds) b
 |[],b,h=>by unfold vQ;unfold hW at h |-;exact h
 |d::ds,b,h=>by unfold vQ;unfold hW at h |-;obtain⟨v,r,q,z,y⟩:=h;exact⟨v,r,q,abr o d v z,r6 o ds r y⟩
end
end
noncomputable def sc:D->Bool
 |.non|.bl _|.int _|.str _|.ty _=>ag
 |_=>au
def bor (g:GP):GN:=λds M Q=>lC (vQ M ds)=ag/\g (vQ M ds) λd=>sc d=ag/\Q d M
def Ss(m:i9 g):kx (bor g):=λds M P Q w q=>⟨q.1,m _ _ _ (λd q=>⟨q.1,w _ _ q.2⟩) q.2⟩
def abt{K:af}(h:sc d=ag)(r:Rep K α H d v):Rep K β a d v:=by cases d<;>first|(cases h;done)|(exact r)
def Su{K:af}(t:Tb K H):OK K [] [] H []:=⟨rfl,eP,λ_ h=>by simp at h,λ_ h=>by simp at h,λk o h=>by simp at h,t⟩
def BD (H a:Hp):Prop:=∀b o,H b=aa o->tR (aa o)=aa o->a b=aa o
def BE:BD H (kN [] H):=λb o e v=>jz (by simp) e v
def KU{K:af}(e:BD H b)(h:wj K H a xs):wj K b a xs:=by
 rcases h with(h|⟨o,h⟩)|h
 .exact .inl (.inl (e _ _ h rfl))
 .exact .inl (.inr ⟨o,e _ _ h rfl⟩)
 .exact .inr h
def BF{K:af}(e:BD H b)(h:l9 K H a xs):l9 K b a xs:=by
 rcases h with(h|⟨o,h⟩)|h
 .exact .inl (.inl (e _ _ h rfl))
 .exact .inl (.inr ⟨o,e _ _ h rfl⟩)
 .exact .inr h
mutual
theorem Rep.xN {K:af} {α:List aw} {H c:Hp} (e:BD H c):∀(d:D) (v:V),Rep K α H d v->Rep K α c d v
 |.non,v,h=>by unfold Rep at h |-;exact h
 |.bl _,v,h=>by unfold Rep at h |-;exact h
 |.int _,v,h=>by unfold Rep at h |-;exact h
 |.str _,v,h=>by unfold Rep at h |-;exact h
 |.ty _,v,h=>by unfold Rep at h |-;exact h
 |.tup ds,v,h=>by unfold Rep at h |-;obtain⟨a,b,r,q,z⟩:=h;exact⟨a,b,r,KU e q,hW.xN e ds b z⟩
 |.lst ds,v,h=>by unfold Rep at h |-;obtain⟨a,b,r,q,z⟩:=h;exact⟨a,b,r,e _ _ q rfl,hW.xN e ds b z⟩
 |.p6 ns,v,h=>by unfold Rep at h |-;obtain⟨a,r,q⟩:=h;exact⟨a,r,BF e q⟩
 |.jD g ds,v,h=>by unfold Rep at h |-;obtain⟨a,b,r,q,l,z⟩:=h;exact⟨a,b,r,(by rcases q with q|⟨o,q⟩<;>first|exact .inl (e _ _ q rfl)|exact .inr ⟨o,e _ _ q rfl⟩),l,hW.xN e ds b z⟩
 |.ins C ns ds,v,h=>by unfold Rep at h |-;obtain⟨a,f,b,r,q,l,z⟩:=h;exact⟨a,f,b,r,e _ _ q rfl,l,hW.xN e ds b z⟩
 |.exc C ns ds,v,h=>by unfold Rep at h |-;obtain⟨a,b,r,q,l,z⟩:=h;exact⟨a,b,r,e _ _ q rfl,l,hW.xN e ds b z⟩
 |.loc k,v,h=>by unfold Rep at h |-;exact h
 |.cls _,v,h=>by unfold Rep at h |-;exact h
theorem hW.xN {K:af} {α:List aw} {H c:Hp} (e:BD H c):∀(ds:List D) (b:List V),hW K α H ds b->hW K α c ds b
 |[],b,h=>by unfold hW at h |-;exact h
 |d::ds,b,h=>by unfold hW at h |-;obtain⟨v,r,q,z,y⟩:=h;exact⟨v,r,q,Rep.xN e d v z,hW.xN e ds r y⟩
end
def OK.Za{K:af}(o:OK K F α H M)(s:BD H c)(t:Tb K c):OK K F α c M/\Ext F α H M α c M:=by
 have rJ:∀a,tR (H a)≠ar->c a=H a:=λa h=>by
  cases e:H a with
  |none=>exact absurd (by rw[e]) h
  |some x=>
   rw[e] at h;exact s a x e (by cases x<;>first|rfl|exact absurd rfl h)
 have sh:∀A,jC (kN A H) _:=λA b x e=>by obtain⟨g,i,f⟩:=pc e;exact jz g (s b x i f) f
 refine⟨⟨o.ml,o.nd,λa ha=>⟨(o.fr a ha).1,by rw[rJ a (o.fr a ha).2];exact(o.fr a ha).2⟩,λa ha=>by rw[rJ a (o.al a ha)];exact o.al a ha,λk x h=>?_,t⟩,⟨aV _,sh _,λa ha=>rJ a (o.fr a ha).2⟩⟩;obtain⟨a,e,r⟩:=o.own k x h;exact⟨a,e,r.mono (aV _) (sh _) (rJ a (o.MN a (mh.mpr ⟨k,x,e,h⟩)))⟩
section
variable {K:af}
def hasB(h:lW P w K mg cq k x c (kC K (cl g)))(m:i9 a)(i:∀ds Q,a ds Q->g ds Q):iN P w K mg cq k x c (bor a):=
 ⟨Ss m,let⟨f,fd,e,kp,b,F⟩:=h;⟨f,fd,e,kp,b,F.imp λz H Q E ⟨F,α,M,ds,o,r,n,q⟩=>by
  refine⟨[],[],[],vQ M ds,Su o.tb,?_,n,i _ _ (m _ _ _ (λd q=>?_) q)⟩
  .exact hW.xN BE _ _ (hW.nl _ _ n (r6 o _ _ r))
  .obtain⟨j,q⟩:=q;intro v A p e' u y;have s:=λb ob hb vb=>by have:=e'.same b ob (by show kN ([]++[]) H b=_;exact jz (by simp) hb vb);exact ip _ _ this
   obtain⟨o2,e2⟩:=o.Za s u.tb;exact q v α p e2 o2 (abt j y)⟩⟩
end
def FA:List (DE×DE)->lY->Ms->(List (D×D)->Ms->Prop)->Prop
 |[],_,M,Q=>Q [] M
 | (tk,b)::r,a,M,Q=>tk a M λk M1=>b a M1 λv M2=>FA r a M2 λc e=>Q ((k,v)::c) e
abbrev pK(K:af)(F α:List aw)(H:Hp)(M:Ms)(Q:List (V×V)->Hp->Prop):List (D×D)->Ms->Prop:=λf c=>∀e a b,Ext F α H M a b c->OK K F a b c->hW K a (jo F a c b) (f.map (·.1)) (e.map (·.1))->hW K a (jo F a c b) (f.map (·.2)) (e.map (·.2))->Q e b
structure JP(X:Cx)(pos:eB)(keys:List (Option bI))(values:List bI)(ts:List (DE×DE)):Prop where
 mono:∀δ M (P Q:List (D×D)->Ms->Prop),(∀ps M,P ps M->Q ps M)->FA ts δ M P->FA ts δ M Q
 p:∃trs,PPs X pos keys values trs/\∀F α δ M σ H Q,R X.K F α H σ δ M->FA ts δ M (pK X.K F α H M Q)->Kx trs σ H Q
section
variable {k:bI} {keys:List (Option bI)} {tk:DE}
end
section
variable {X:Cx}
def Aq:G2:=λx y M Q=>match vw M x,vw M y with
 |.tup xs,.tup []=>Q (.bl xs.isEmpty) M
 |.lst xs,.lst []=>Q (.bl xs.isEmpty) M
 |_,_=>False
def abu(hu:X.A.units+1<eC):JC X .Eq Aq:=by
 refine⟨λx y M P Q w q=>?_,λcc s σ H x y v u Q I O T h=>?_⟩
 .unfold Aq at q |-;generalize vw M x=a at q |-;generalize vw M y=b at q |-;match a,b,q with
  |.tup xs,.tup [],q=>exact w _ _ q
  |.lst xs,.lst [],q=>exact w _ _ q
 .obtain⟨F,α,M,da,db,o,U,Y,h⟩:=h;unfold Aq at h;generalize e1:vw M da=a at h;generalize e2:vw M db=b at h;match a,b,h,e1,e2 with
  |.tup xs,.tup [],h,e1,e2=>
   obtain⟨p,vs,rfl,z,B⟩:=lu o U e1;obtain⟨i,C,rfl,f,c⟩:=lu o Y e2;obtain rfl:v=bE p:=O;obtain rfl:u=bE i:=T;unfold hW at c;subst c;obtain⟨iq,E,it,_⟩:=I.tuple z;obtain⟨Hi,g,G,_⟩:=I.tuple f;have J:=hW.length _ _ B;have L:=Paired.length E;cases g;have m:s.heap.IsTuple p iq.toArray:=it;have hb:s.heap.IsTuple i (aic ([]:List ai)):=G;refine PySem.SeqAt.eq_tupleAt (e:=λ_=>ag) m hb (by lia) (λj h1 N=>absurd N (by simp)) ⟨.bl _,H,I,rfl,?_⟩;have:((cx (min iq.toArray.size (aic ([]:List ai)).size)).all (λ_=>ag)&&iq.toArray.size==(aic ([]:List ai)).size)=xs.isEmpty:=by have l:xs.length=iq.length:=J.trans L;cases xs<;>cases iq<;>simp at l |-
   rw[this];exact vK.now o h jb
  |.lst xs,.lst [],h,e1,e2=>
   obtain⟨p,vs,rfl,z,B⟩:=jh o U e1;obtain⟨i,C,rfl,f,c⟩:=jh o Y e2;obtain rfl:v=bE p:=O;obtain rfl:u=bE i:=T;unfold hW at c;subst c;obtain⟨_,iq,n,E,e⟩:=I.iO p _ z;obtain⟨_,Hi,n2,g,e2⟩:=I.iO i _ f;have J:=hW.length _ _ B;have L:=Paired.length E;cases g;have m:s.heap.IsList p iq.toArray:=⟨_,e,rfl,n,rfl⟩;have hb:s.heap.IsList i (aic ([]:List ai)):=⟨_,e2,rfl,n2,rfl⟩;have l:xs.length=iq.length:=J.trans L;cases xs with
   |nil=>
    cases iq with
    |cons b t=>simp at l
    |nil=>exact PySem.SeqAt.eq_listAt (e:=λ_=>ag) m hb rfl (by lia) (λj h1 N=>absurd N (by simp)) ⟨.bl ag,H,I,rfl,vK.now o h jb⟩
   |cons a r=>
    cases iq with
    |nil=>simp at l
    |cons b t=>exact PySem.SeqAt.eq_list_lengthsAt m hb (by simp) (by lia) ⟨.bl au,H,I,rfl,vK.now o h jb⟩
end
def xO (_ j:Int):Prop:=0<j/\j<18446744073709551616
def Sv:rS X (binaryOp .FloorDiv) (rI xO λi j=>.int (i/j)):=opI λi j _ _ _ _ _ hc q=>by
 have e:(0:Int)<j:=hc.1;have f:j<18446744073709551616:=hc.2;refine floordiv_int (by lia) (by rw[Int.fdiv_eq_ediv_of_nonneg i (by lia)];exact q) (.inl (PyProof.noPylong_of_log2 ?_));have c:j.natAbs<2^64:=by lia
 have:=(Nat.log2_lt (by lia:j.natAbs≠0)).mpr c;exact bw this (Nat.le_add_left _ _)
def Sw:JO X .FloorDiv (gI xO λi j=>.int (i/j)):=⟨AL,λcc s σ H x y v u Q I f g h=>by
 obtain⟨F,α,M,m,n,o,c,e,h⟩:=h;cases m<;>cases n<;>first|exact h.elim|skip
 unfold Rep at c e;exact Sv cc s σ H x y v u Q I f g ⟨_,_,c,e,h.1,vK.now o h.2 i8⟩⟩
def HH:GM:=λd ds M Q=>match d,ds with
 |.loc k,[y]=>∃es xs,M[k]?=aa (aa (.lst es))/\vw M y=.lst xs/\es.length+xs.length<=aO/\Q .non (M.set k (aa (.lst (es++xs))))
 |_,_=>False
def OX:JM X "list.extend" HH:=by
 refine⟨λd ds M P Q w q=>?_,λcc s σ H x xs v us Q I m rs h=>?_⟩
 .match d,ds,q with
  |.loc k,[x],⟨es,xs,c,e,f,q⟩=>exact⟨es,xs,c,e,f,w _ _ q⟩
 .obtain⟨F,α,M,d,ds,ok,r,g,h⟩:=h;match d,ds,h,r,g with
  |.loc k,[y],⟨es,xs,c,e,f,q⟩,r,g=>
   obtain⟨a,n,rfl,o,i,p⟩:=xL ok r c;obtain⟨u,z,A⟩:=mq g;subst z;obtain⟨b,ws,rfl,B,j⟩:=jh ok A e;obtain⟨o2,e2⟩:=p _ _ (hW.append _ _ _ _ i j);exact Ox cc s σ H _ _ v us Q I m rs ⟨a,b,n,ws,rfl,rfl,o,B,by rw[<-hW.length _ _ i,<-hW.length _ _ j];exact f,q _ α _ e2 o2 oJ⟩
def yY (x y:D)(M:Ms)(Q:OD->Ms->Prop):Prop:=match vw M x,vw M y with
 |.lst xs,.lst c=>xs.length+c.length<=aO/\Q (.lst (xs++c)) M
 |_,_=>False
def HI{x y:D}{M:Ms}{P Q:OD->Ms->Prop}(w:∀o M,P o M->Q o M)(q:yY x y M P):yY x y M Q:=by unfold yY at q |-;generalize vw M x=a at q |-;generalize vw M y=b at q |-;cases a<;>cases b<;>first|exact q.elim|exact⟨q.1,w _ _ q.2⟩
def M7 (ta tb:DE):DF:=λc M Q=>ta c M λx M1=>tb c M1 λy M2=>yY x y M2 Q
def WB(ha:JE X a ta)(hb:JE X b tb):JF X (.BinOp a .Add b pos) (M7 ta tb):=by
 refine⟨λc M P Q w q=>ha.mono c _ _ _ (λx M1 q=>hb.mono c _ _ _ (λy M2 q=>HI w q) q) q,PE.weak (YE Ru ha.p hb.p) λσ H Q q=>?_⟩;obtain⟨F,α,c,M,r,q⟩:=q;refine⟨F,α,c,M,r,ha.mono c _ _ _ (λh M1 q v i H1 e1 o1 j=>⟨F,i,c,M1,r.grow e1 o1,hb.mono c _ _ _ (λm M2 q u n o e2 o2 s=>?_) q⟩) q⟩;unfold yY at q;generalize z:vw M2 h=x at q;generalize A:vw M2 m=y at q;cases x<;>cases y<;>first|exact q.elim|skip
 obtain⟨a1,e,rfl,B,f⟩:=jh o2 (e2.rep j) z;obtain⟨b1,us,rfl,C,g⟩:=jh o2 s A;have E:=hW.length _ _ f;have G:=hW.length _ _ g;exact⟨a1,b1,e,us,rfl,rfl,B,C,by rw[<-E,<-G];exact q.1,λp I=>q.2 p _ n o (e1.trans e2) o2 I ⟨e++us,rfl,hW.append _ _ _ _ f g⟩⟩
section
variable {X:Cx} {pos:eB}
def M8 (i:Nat)(C:Int->Int->Prop)(f:Int->Int->D)(te:DE):DS:=λE c M=>match c[i]? with
 |some (aa (.int a))=>te c M λd M1=>match d with
  |.int b=>C a b/\E.nx (c.set i (aa (f a b))) M1
  |_=>False
 |_=>False
set_option tactic.hygienic true in
def WC{f:Int->Int->Int}(i:Nat)(h:X.N.Nodup)(g:JE X e te)(j:PIp X op (rI C λa b=>.int (f a b)))(hi:X.N[i]?=aa x:=by rfl)(m:Loc X.env.scope x:=by first|exact ah3 rfl|exact gQ rfl)
(n:X.fn x=ag\/X.env.scope.names.lookup x=aa .local:=by first|exact .inl rfl|exact .inr rfl|assumption):JS X (.AugAssign (.Name x p) op e pos) (M8 i C (λa b=>.int (f a b)) te):=by
 refine⟨λP Q c M w q=>?_,PS.weak (aae h hi m g.p j n) λE σ H q=>?_⟩
 .unfold M8 at q |-;split at q
  .refine g.mono c _ _ _ (λd M1 q=>?_) q;cases d<;>first|exact q.elim|exact⟨q.1,w.nx _ _ q.2⟩
  .exact q.elim
 .obtain⟨F,α,c,M,r,q⟩:=q;unfold M8 at q;split at q
  .rename_i a ha;obtain⟨v,s,y⟩:=r.sl i _ ha;subst y;refine⟨.int a,s,F,α,c,M,r,g.mono c _ _ _ (λd M1 q u z H1 e1 o1 A=>?_) q⟩;cases d<;>first|exact q.elim|skip
   subst A;exact⟨a,_,rfl,rfl,q.1,q.2 _ z H1 e1 ((r.grow e1 o1).set i8)⟩
  .exact q.elim
def abv:PIp X .Add (rI (λ_ _=>True) λa b=>.int (a+b)):=λcc s σ H x y v u Q I c f h=>by obtain⟨a,b,g,j,_,q⟩:=h;exact Vt cc s σ H x y v u Q I c f ⟨a,b,g,j,q⟩
noncomputable def qc(k:Key)(d:D)(a:List Key)(ds:List D):List Key×List D:=if a.any (λx=>decide (x=k))=ag then(a,c7 (λx y=>if x=k then d else y) a ds) else(a++[k],ds++[d])
theorem M9:∀(a:List Key) (b:List V),a.length=b.length->((a.zip b).any λc=>decide (c.1=k))=a.any λx=>decide (x=k)
 |[],[],_=>rfl
 |[],_::_,h=>by simp at h
 |_::_,[],h=>by simp at h
 |x::a,v::b,h=>by rw[cQ,c6,c6,M9 a b (by simpa using h)]
theorem Na:∀(a:List Key) (b:List V),(a.zip b).map (λc=>if c.1=k then(c.1,v) else c)=a.zip (c7 (λx y=>if x=k then v else y) a b)
 |[],_=>rfl
 |_::_,[]=>rfl
 |x::a,y::b=>by rw[cQ,bq,dW,Na a b];by_cases e:x=k<;>simp[e]
theorem HJ{K:af}(rd:Rep K α H d v):∀(a:List Key) (ds:List D) (b:List V),hW K α H ds b->hW K α H (c7 (λx y=>if x=k then d else y) a ds) (c7 (λx y=>if x=k then v else y) a b)
 |[],ds,b,h=>by exact hW.nil
 |x::a,[],b,h=>by subst h;exact hW.nil
 |x::a,y::ds,b,h=>by
  obtain⟨u,r,rfl,z,t⟩:=h;rw[dW,dW];refine hW.cons ?_ (HJ rd a ds r t);by_cases e:x=k
  .rw[if_pos e,if_pos e];exact rd
  .rw[if_neg e,if_neg e];exact z
def OY{K:af}(rd:Rep K α H d v)(a:List Key)(ds:List D)(b:List V)(h:hW K α H ds b)(l:a.length=ds.length):
  ∃ws,wl (a.zip b) k v=(qc k d a ds).1.zip ws/\(qc k d a ds).1.length=(qc k d a ds).2.length/\hW K α H (qc k d a ds).2 ws:=by
 have lv:=hW.length _ _ h;unfold wl qc;rw[M9 a b (by exact lv▸l)];by_cases e:(a.any λx=>decide (x=k))=ag
 .rw[if_pos e,if_pos e];refine⟨_,Na a b,?_,HJ rd a ds b h⟩;show a.length=(c7 _ a ds).length;rw[gw];lia
 .rw[if_neg e,if_neg e];refine⟨b++[v],?_,by simp[l],hW.append _ _ _ _ h (hW.one rd)⟩;rw[List.zip_append (by exact lv▸l)];rfl
def Nb (to ti tv:DE):DS:=λE a M=>tv a M λv M1=>to a M1 λo M2=>ti a M2 λk f=>match o with
 |.loc j=>∃b ds c,f[j]?=aa (aa (.jD b ds))/\Hv k=aa c/\b.length<aO/\E.nx a (f.set j (aa (.jD (qc c v b ds).1 (qc c v b ds).2)))
 |_=>False
set_option tactic.hygienic true in
def WD(O:X.A.units+1<eC)(h:JE X o to)(hi:JE X i ti)(m:JE X e tv)(T:eO e (aa (.Subscript o i xy)) pos.line X.env=pure au:=by rfl):JS X (.Assign [.Subscript o i xy] e pos) (Nb to ti tv):=by
 refine⟨λP Q b M w q=>m.mono b _ _ _ (λv M1 q=>h.mono b _ _ _ (λod M2 q=>hi.mono b _ _ _ (λk U q=>?_) q) q) q,PS.weak (VH O h.p hi.p m.p T) λE σ H q=>?_⟩
 .cases od<;>first|exact q.elim|skip
  obtain⟨c,ds,f,g,n,s,q⟩:=q;exact⟨c,ds,f,g,n,s,w.nx _ _ q⟩
 .obtain⟨F,α,b,M,r,q⟩:=q;refine⟨F,α,b,M,r,m.mono b _ _ _ (λd M1 q v Y H1 e1 o1 r1=>⟨F,Y,b,M1,r.grow e1 o1,h.mono b _ _ _ (λod M2 q u rg H2 e2 o2 r2=>⟨F,rg,b,M2,r.grow (e1.trans e2) o2,hi.mono b _ _ _ (λk U q y Di H3 e3 G r3=>?_) q⟩) q⟩) q⟩;cases od<;>first|exact q.elim|skip
  rename_i j q0;obtain⟨c,ds,f,g,n,s,q⟩:=q;have B:=e3.rep r2;obtain⟨a,I,rfl⟩:=B;obtain⟨a',J,L,hq,C,N⟩:=G.own j _ g;rw[I] at J;cases J;have rd:=(e2.trans e3).rep r1;obtain⟨ws,i1,i2,i3⟩:=OY (k:=f) rd c ds L N C;cases pk r3 n;have je:(c.zip L).length<aO:=by rw[cJ,<-hW.length _ _ N,C,Nat.min_self,<-C];exact s
  obtain⟨o4,e4⟩:=G.write (y:=.jD _ _) (z:=.dK (wl _ f v)) g I (λHh eh=>by subst eh;exact⟨ws,by rw[il,i1],i2,i3⟩)
  have ex:=((e1.trans e2).trans e3).trans e4;exact⟨a,_,rfl,Kv.k hq je,q σ Di _ ex (r.grow ex o4)⟩
end
noncomputable def yH(a b:aY):Bool:=!decide (b.cps.toList<a.cps.toList)
def Nc{a b:aY}(h:a.cps.toList=b.cps.toList):a=b:=by cases a;congr 1;exact Array.toList_inj.mp h
def Sx(h:yH a b=ag)(g:yH b a=ag):a=b:=by unfold yH at h g;simp only [Bool.not_eq_true',decide_eq_false_iff_not] at h g;exact Nc (List.le_antisymm (gW.mp h) (gW.mp g))
def OZ(a b:aY):yH a b=ag\/yH b a=ag:=by
 unfold yH;simp only [Bool.not_eq_true',decide_eq_false_iff_not];by_cases h:b.cps.toList<a.cps.toList
 .right;exactλg=>List.lt_irrefl _ (List.lt_trans h g)
 .left;exact h
def Ep(h:yH a b=ag)(g:yH b c=ag):yH a c=ag:=by unfold yH at*;simp only [Bool.not_eq_true',decide_eq_false_iff_not] at*;exact gW.mpr (List.le_trans (gW.mp h) (gW.mp g))
section
variable {β:Type}
noncomputable def uk(key:β->aY)(x:β):List β->List β
 |[]=>[x]
 |y::r=>if yH (key x) (key y)=ag then x::y::r else y::uk key x r
noncomputable def O0(key:β->aY):List β->List β
 |[]=>[]
 |x::r=>uk key x (O0 key r)
theorem yZ(key:β->aY)(x:β):∀l:List β,(uk key x l).Perm (x::l)
 |[]=>fZ _
 |y::r=>by
  unfold uk;split
  .exact fZ _
  .exact((yZ key x r).cons y).trans (ah6.swap x y r)
theorem pq(key:β->aY):∀l:List β,(O0 key l).Perm l
 |[]=>fZ _
 |x::r=>(yZ key x _).trans ((pq key r).cons x)
theorem zT(key:β->aY)(x:β):∀l:List β,l.Pairwise (λa b=>yH (key a) (key b)=ag)->(uk key x l).Pairwise (λa b=>yH (key a) (key b)=ag)
 |[],_=>by simp[uk]
 |y::r,h=>by
  unfold uk;have hc:=dk.mp h;split
  .rename_i e;refine dk.mpr ⟨λz c=>?_,h⟩;rcases aH.mp c with rfl|c
   .exact e
   .exact Ep e (hc.1 z c)
  .rename_i e;refine dk.mpr ⟨λz c=>?_,zT key x r hc.2⟩;rcases aH.mp ((yZ key x r).mem_iff.mp c) with rfl|c
   .rcases OZ (key y) (key z) with f|f
    .exact f
    .exact absurd f e
   .exact hc.1 z c
theorem wE(key:β->aY):∀l:List β,(O0 key l).Pairwise (λa b=>yH (key a) (key b)=ag)
 |[]=>aif
 |x::r=>zT key x _ (wE key r)
theorem BG{key:β->aY}:∀{l m:List β},l.Perm m->l.Pairwise (λa b=>yH (key a) (key b)=ag)->m.Pairwise (λa b=>yH (key a) (key b)=ag)->(∀a∈l,∀b∈l,key a=key b->a=b)->l=m
 |[],m,p,_,_,_=>(List.nil_perm.mp p).symm
 |x::l,m,p,h,g,i=>by
  cases m with
  |nil=>exact absurd p (by simp)
  |cons y m=>
   have hc:=dk.mp h;have c:=dk.mp g;have e:x=y:=by
    have j:=p.mem_iff.mp aN;have f:=p.mem_iff.mpr aN;rcases aH.mp j with e|n
    .exact e
    .rcases aH.mp f with e|o
     .exact e.symm
     .exact i x aN y f (Sx (hc.1 y o) (c.1 x n))
   subst e;rw[BG p.cons_inv hc.2 c.2 λa ha b hb=>i a (aB _ ha) b (aB _ hb)]
def FC{l m:List β}(p:l.Perm m)(h:l.Pairwise (λa b=>yH (key a) (key b)=ag))(i:∀a∈m,∀b∈m,key a=key b->a=b):l=O0 key m:=
 BG (p.trans (pq key m).symm) h (wE key m) λa ha b hb=>i a (p.mem_iff.mp ha) b (p.mem_iff.mp hb)
end
noncomputable def zU:List aY->List aY:=O0 id
theorem BH:∀(p:aY) (l:List aY),risingS p l=ag->(p::l).Pairwise (λa b=>yH a b=ag)
 |p,[],_=>by simp
 |p,x::r,h=>by
  have h:(!ltCps _ _&&risingS x r)=ag:=h;rw[aZ] at h;have e:=BH x r h.2;have f:=by have:=h.1;rw[ltCps_eq] at this;exact this
  refine dk.mpr ⟨λz c=>?_,e⟩;rcases aH.mp c with rfl|c
  .exact f
  .exact Ep f ((dk.mp e).1 z c)
theorem KW:∀(l:List aY),aju l=ag->l.Pairwise (λa b=>yH a b=ag)
 |[],_=>aif
 |x::r,h=>BH x r h
def O1(p:l.Perm m)(h:aju l=ag):l=zU m:=FC p (KW l h) λ_ _ _ _ e=>e
end L3
namespace L2
section
variable {A:bH} {s:av}
def BI{C:List ai->Prop}
(hc:∀R:List ai->av->Prop,(∀(c:aC) (tk:Nat) (acc:List ai),(∀b o,s.heap.get? b=aa o->c.get? b=aa o)->C acc->R acc {s with heap:=c,toks:=tk})->wpAny (model prog w) A.in1 (collect x) R E s)
(n:∀acc,C acc->acc.length<64/\∃ss,cW acc ss)
(h:∀(a c:aC) (p:aw) (tk e:Nat) (acc:List ai) (out:List ai) (ss f:List aY),C acc->cW acc ss->(∀b o,s.heap.get? b=aa o->a.get? b=aa o)->(∀b o,a.get? b=aa o->c.get? b=aa o)->a.objs.size<=p->
   c.get? p=aa {cls:=.type cr,data:=.seq out.toArray e}->cW out f->f.Perm ss->aju f=ag->Q (.ref p) {s with heap:=c,toks:=tk}):
  wpAny (model prog w) A (call (.builtin hD) [x]) Q E s:=by
 refine gN ai4 aiW aiX (ajv _) ?_;refine ae (ay ?_);refine ae (hc _ λa tk acc q ca=>?_);obtain⟨r,ss,g⟩:=n acc ca;refine ae (fu ?_ (by rw[bp];exact bG (dF r) (Nat.le_add_left _ _)));have i:(a.push _).get? _=aa (cb cr acc.toArray 0):=aP _ rfl;refine ae (bR (cD aiE ⟨_,i,rfl⟩ aiA (list_sort_treeK ajj i g.keysOf (λB G rest e=>ajw (by rw[<-e];exact g)) r λH a1 a2=>⟨_,rfl,?_⟩) (ajc _)));obtain⟨f,u,v,y⟩:=sorted_out_str g a1 a2;obtain⟨e,z⟩:=akq i;refine ay ⟨_,rfl,h a _ _ tk e acc _ ss f ca g q (λb o m=>?_) (aD _) (by exact z) u v y⟩;have lt:=aM m;have j:b<(a.push (cb cr acc.toArray 0)).objs.size:=by rw[ah1];exact cV lt
 exact(aki (bd lt) j).trans (aj _ m)
end
section
variable {A:bH} {s:av} {p7:Array Keyed} {κ:PyProof.Rows.KeyKind}
theorem Er:∀f n r:Nat,r<=1->minRun' f n r<=n+r
 |0,n,r,_=>aD _
 |f+1,n,r,h=>by
  rw[minRun'_succ];by_cases hn:n<64
  .rw[if_pos hn];exact aD _
  .rw[if_neg hn];have:=Er f (n/2) (max r (n%2)) (by lia);lia
def O2{st:SortSt}(g:κ.OneLt)(h:KeysOf κ p7)(m:SBase p7 st)(o:1<=p7.size)(up:ais κ (ah2 st) p7.size)(q:Q (aa p7.size) st):wpS (model prog w) A E s (countRun' 0 p7.size) Q st:=by
 rw[countRun0_eq];refine ait (wpS_ascLoopK g h (aD _) (aD 1) o m (λi j a b=>up i j a (by exact bw b o)) λn r u _ c=>?_);have e:n=p7.size:=by
  by_cases e:n=p7.size
  .exact e
  .have p:=c.resolve_left e;have f:κ.blt _ _=au:=up (n- 1) n (by lia) (by lia);rw[p] at f;cases f
 subst e;rw[if_pos (by simp)];exact ajd q
def Sy{st:SortSt}(g:κ.OneLt)(h:KeysOf κ p7)(a:SBase p7 st)(j:1<=p7.size)(up:ais κ (ah2 st) p7.size)
(q:∀e,ah2 e=ah2 st->aje e=ar->Q () e):wpS (model prog w) A E s sortRuns' Q st:=by
 have u:=Er p7.size p7.size 0 (bD _);have sz:=a.size;have m:=q (ajf st ((aiG st).push (0,p7.size,0))) rfl a.failed;have n:(aiG st).push (0,p7.size,0)=#[(0,p7.size,0)]:=by rw[a.pend];rfl
 rw[sortRuns'_eq];refine ait (wpS_get ?_);rw[sz];refine ait (wpS_mono (wpS_forRange (I:=λi c t=>(i=0/\c=(ar,0)/\t=st)\/(1<=i/\c=(ar,p7.size)/\t=ajf st ((aiG st).push (0,p7.size,0)))) (Q:=λc t=>c=(ar,p7.size)/\t=ajf st ((aiG st).push (0,p7.size,0))) ?s ?f (.inl ⟨rfl,rfl,rfl⟩)) ?r);case f=>
  rintro c t (⟨z,_⟩|⟨_,o,p⟩)
  .omega
  .exact⟨o,p⟩
 case s=>
  rintro i c t _ _ (⟨rfl,rfl,rfl⟩|⟨_,rfl,rfl⟩)
  .rw[if_neg (by exact Nat.not_le_of_lt j)];refine ait (O2 g h a j up ?_);dsimp only;rw[if_neg (by exact Nat.not_lt_of_le u)];refine ait (wpS_get ?_);rw[show(aiG t).back?=ar by rw[a.pend];rfl];refine ait (wpS_modify (ajd (.inr ⟨aD 1,?_,rfl⟩)));rw[bQ]
  .rw[if_pos (aD _)];exact ajd ⟨rfl,rfl⟩
 case r=>
  intro c t b;obtain⟨rfl,rfl⟩:=b;refine ait (wpS_mono (wpS_forRange (I:=λ_ c t=>c=(ar,())/\t=ajf st ((aiG st).push (0,p7.size,0))) ?_ (λ_ _ z=>z) ⟨rfl,rfl⟩) ?_)
  .intro i c t _ _ b;obtain⟨rfl,rfl⟩:=b;refine ait (wpS_get ?_);rw[if_pos (by rw[n];exact aD 1)];exact ajd ⟨rfl,rfl⟩
  .intro c t b;obtain⟨rfl,rfl⟩:=b;exact ajd m
def Sz(f:s.heap.get? a=aa (cb cr b.toArray n))(i:cW b ss)(p:2<=b.length)(B:b.length<=1000)
(up:ais strKind (aiH b) (aiH b).size)(h:P (.done (.ret .none)) {s with heap:=sortedHeap s.heap a b ((aiH b).map (·.2))}):
  wpAny (model prog w) A (bM.«list.sort» ⟨[.ref a],[]⟩) P E s:=by
 have ha:=aM f;have g:=fD f (λ_=>#[]);generalize j:s.heap.update a (bX λ_=>#[])=q at g;have m:((q.push (cb ej b.toArray 0)).push (cb cr #[] 0)).get? a=aa _:=aj _ (aj _ g);have big:¬b.toArray.size<2:=by simp;exact p
 rw[aj8];refine ae (aiY f rfl (ae (dR f rfl ?_)));rw[j];refine ae (gE (s:={s with heap:=q}) g rfl (ae (aiD (ae (fu (bR ?_))))));dsimp only;rw[if_neg big,if_neg big];obtain⟨c,e,r,rfl⟩:∃c e r,b=c::e::r:=by
  match b,p with
  |c::e::r,_=>exact⟨c,e,r,rfl⟩
 rw[ajw i];refine ae (ay ?_);refine ae (cm (Sy (κ:=strKind) ajj (Q:=λ_ t=>ah2 t=aiH (c::e::r)/\aje t=ar) i.keysOf ⟨Array.Perm.refl _,rfl,rfl,rfl⟩ (by rw[aiZ];exact dF p) up λt u v=>⟨u,v⟩) ?_ λ_ _ z=>z)
 rintro⟨⟨⟩,t⟩ C ⟨rfl,e1,e2⟩
 dsimp only;rw[e1,e2];have y:(Array.map (λx:Keyed=>x.2) (aiH (c::e::r))).size<=aO:=by rw[Array.size_map,aiZ,bp];exact bw B (Nat.le_add_left _ _)
 unfold sortedHeap at h;rw[j] at h;refine ae (gE m rfl (ae (dR m rfl ?_ (hsz2:=eM y))));rw[bne_self_eq_false,if_neg aS];exact ay h
def Es{x:ai}{C:List ai->Prop}
(hc:∀R:List ai->av->Prop,(∀(f:aC) (tk:Nat) (acc:List ai),(∀b o,s.heap.get? b=aa o->f.get? b=aa o)->C acc->R acc {s with heap:=f,toks:=tk})->wpAny (model prog w) A.in1 (collect x) R E s)
(J:∀acc,C acc->cW acc ss)(T:2<=ss.length)(U:ss.length<=1000)(up:ss.Pairwise λa b=>L3.yH a b=ag)
(h:∀(c f:aC) (p:aw) (tk e:Nat) (acc:List ai),C acc->(∀b o,s.heap.get? b=aa o->c.get? b=aa o)->(∀b o,c.get? b=aa o->f.get? b=aa o)->c.objs.size<=p->
   f.get? p=aa {cls:=.type cr,data:=.seq acc.toArray e}->Q (.ref p) {s with heap:=f,toks:=tk}):
  wpAny (model prog w) A (call (.builtin hD) [x]) Q E s:=by
 refine gN ai4 aiW aiX (ajv _) ?_;refine ae (ay (ae (hc _ λc tk acc L ca=>?_)));have g:=J acc ca;have Y:=g.length;refine ae (fu ?_ (by rw[bp];exact bG (Y▸U) (Nat.le_add_left _ _)));have n:(c.push (cb cr acc.toArray 0)).get? c.objs.size=aa _:=aP _ rfl;have r:ais strKind _ (aiH acc).size:=λi j Vc v=>by
  rw[aiZ] at v;have at_:∀i,i<acc.length->∃(y:aY),ss[i]?=aa y/\KK strKind _ i=y.cps.toList:=λi hi=>by
   obtain⟨y,t,B⟩:=g.all acc[i] (fP hi);refine⟨y,?_,KK_str (t:=t) (q:=acc[i]) (by rw[aiZ];exact hi) ?_⟩
   .rw[<-g.strs,bh,ax hi,B];rfl
   .unfold aiH;rw[Array.getElem_zip];refine Prod.ext ?_ ?_
    .simpa using B
    .simp
  obtain⟨y,u,M⟩:=at_ i (by exact d6 Vc v);obtain⟨z,m,N⟩:=at_ j v;show decide _=au;rw[M,N];by_cases e:i=j
  .subst e;rw[u] at m;cases m;simpa using List.lt_irrefl _
  .have G:j<ss.length:=by exact bw v (gB Y)
   have H:i<ss.length:=by lia
   have:=eY.mp up i j H G (by lia);rw[ax H] at u;rw[ax G] at m;cases u;cases m;unfold L3.yH at this;simpa using this
 refine ae (bR (cD aiE ⟨_,n,rfl⟩ aiA (Sz n g (by exact Y▸T) (by exact bG (gB Y) U) r ⟨_,rfl,?_⟩) (ajc _)));obtain⟨e,O⟩:=akq (vs:=acc) n;have em:(aiH acc).map (·.2)=acc.toArray:=by apply Array.ext';rw[Array.toList_map,pairsOf_toList,fQ (aD _)]
 refine ay ⟨_,rfl,h c _ c.objs.size tk e acc ca L (λb o I=>?_) (aD _) (O.trans (by rw[em]))⟩;have lt:=aM I;exact(aki (bd lt) (by rw[ah1];exact cV lt)).trans (aj _ I)
end
def BJ (ss:List aY):Prop:=ss.length<64\/(2<=ss.length/\ss.length<=1000/\ss.Pairwise λa b=>L3.yH a b=ag)
def BJ.l(h:BJ ss):ss.length<=1000:=by rcases h with h|h<;>lia
def Et(h:ss.Pairwise λa b=>L3.yH a b=ag):aju ss=ag:=by refine sortedS_of_pairwise ss (h.imp λ{a b} z=>?_);rw[ltCps_eq];unfold L3.yH at z;simpa using z
section
variable {X:Cx}
theorem Eu:∀{a:List ai} {ss:List aY},cW a ss->Vals (ss.map V.str) a
 |_,_,.nil=>.nil
 |_,_,.cons x t h=>.cons ⟨t,rfl⟩ (Eu h)
theorem y0:∀{ss:List aY} {a:List ai},Vals (ss.map V.str) a->cW a ss
 |[],_,h=>by cases h;exact .nil
 |x::ss,_,h=>by
  cases h with
  |cons r t=>obtain⟨u,rfl⟩:=r;exact .cons x u (y0 t)
def r9(I:Inv X cc σ H s)(v:a.length<=1000)(q:∀l,H l=ar->Q (.ref l) (upd H l (.lst ((L3.zU a).map V.str)))){f c:aC}
(i:∀b o,s.heap.get? b=aa o->f.get? b=aa o)(j:∀b o,f.get? b=aa o->c.get? b=aa o)(g:f.objs.size<=p)(m:c.get? p=aa {cls:=.type cr,data:=.seq out.toArray e})(n:cW out h)(pm:h.Perm a)(r:aju h=ag):
  EP X cc σ Q (.ref p) {s with heap:=c,toks:=tk}:=by
 have e1:=L3.O1 pm r;subst e1;have I1:=I.kept (t':=tk) i;have u:((L3.zU a).map V.str).length<=aO:=by rw[ao,pm.length_eq,bp];exact bG v (Nat.le_add_left _ _)
 exact⟨.ref p,_,I1.laid j g (show jB X.prog X.w _ c _ (.lst _) from⟨u,out,e,Eu n,m⟩),rfl,q p (I1.iO.fresh g)⟩
def FD:lV X (.builtin hD) (λxs H Q=>∃p ss,xs=[.ref p]/\l9 X.K H p (ss.map V.str)/\BJ ss/\∀l,H l=ar->Q (.ref l) (upd H l (.lst ((L3.zU ss).map V.str)))):=by
 intro cc s σ H xs us Q I r h;obtain⟨p,ss,rfl,y,f,q⟩:=h;obtain⟨u,rfl,z⟩:=vals1 r;cases z;obtain⟨iq,n,pl,_⟩:=I.list y;have a:=y0 n;have B:=n.length;rw[ao] at B;have v:=f.l;have cl:∀R:List ai->av->Prop,(∀(c:aC) (tk:Nat) (acc:List ai),(∀b o,s.heap.get? b=aa o->c.get? b=aa o)->acc=iq->R acc {s with heap:=c,toks:=tk})->wpAny (model X.prog X.w) X.A.in1 _ R X.xe s:=λR h=>by refine ajx pl.isList ?_ (by rw[bp];exact bG (B▸v) (Nat.le_add_left _ _));refine h _ s.toks iq (λb o q=>?_) rfl;have lt:=aM q;rw[gy _ _ _ _ (bd lt),aj _ q]
 rcases f with f|⟨C,E,x⟩
 .refine BI cl (λacc e=>⟨by rw[e];exact B▸f,ss,by rw[e];exact a⟩) (λG c p tk e acc out s1 s2 ca sa g i j m J pm L=>?_);subst ca;have e2:s1=ss:=by rw[<-sa.strs,a.strs]
  subst e2;exact r9 I v q g i j m J pm L
 .exact Es cl (λacc e=>by rw[e];exact a) C E x λG c p tk e acc ca g i j m=>r9 I v q g i j m (by rw[ca];exact a) (fZ _) (Et x)
def abw(h:(iM P w).is (.inr x) v=ag):∃t,v=.str x t:=by
 have h:d8 x v=ag:=h;cases v<;>first|(simp[d8] at h;done)|skip
 simp[d8] at h;subst h;exact⟨_,rfl⟩
theorem Ev:∀{b:List ai} {a:List (Key×ai)} {ss:List aY},a.map (·.1)=ss.map dg->b.length=a.length->(∀(i:Nat) (v:ai),b[i]?=aa v->∃k x,a[i]?=aa (k,x)/\(iM P w).is k v=ag)->cW b ss
 |[],a,ss,e,l,h=>by
  cases a with
  |nil=>
   cases ss with
   |nil=>exact .nil
   |cons _ _=>simp at e
  |cons _ _=>simp at l
 |v::b,[],ss,e,l,h=>by simp at l
 |v::b,(k,x)::a,[],e,l,h=>by simp at e
 |v::b,(k,x)::a,y::ss,e,l,h=>by simp only [bq,List.cons.injEq] at e;obtain⟨e1,e2⟩:=e;subst e1;obtain⟨k',f,e3,e4⟩:=h 0 v rfl;cases e3;obtain⟨t,rfl⟩:=abw e4;exact .cons y t (Ev e2 (by simpa using l) λi u c=>h (i+1) u (by simpa using c))
def FE(N:X.A.handled=ar):lV X (.builtin hD) (λxs H Q=>∃p g ss,xs=[.ref p]/\Rd H p (.dK g)/\g.map (·.1)=ss.map dg/\BJ ss/\∀l,H l=ar->Q (.ref l) (upd H l (.lst ((L3.zU ss).map V.str)))):=by
 intro cc s σ H xs us Q I r h;obtain⟨p,g,ss,rfl,C,E,j,q⟩:=h;obtain⟨u,rfl,O⟩:=vals1 r;cases O;obtain⟨z,hd,f,rel,dd⟩:=p8 I.iO C;obtain⟨ep,G⟩:=dd.dictAt;have J:f.map (·.1)=ss.map dg:=by
  rw[<-E];clear E dd G C;induction rel with
  |nil=>rfl
  |cons r t T=>rw[bq,bq,r.1,T (by simp at z;exact dF z)]
 have U:=by have:=congrArg cG J;simpa using this
 have key:∀acc:List ai,(∃a:Array ai,acc=a.toList/\ai6 (λi v=>∃k x,f[i]?=aa (k,x)/\(iM X.prog X.w).is k v=ag) a f.length)->cW acc ss:=by intro acc Y;obtain⟨a,rfl,i1,i2⟩:=Y;exact Ev J (by exact i1) λi v hv=>i2 i v (by rw[<-cj];exact hv)
 have L:=j.l;have cl:∀R:List ai->av->Prop,(∀(c:aC) (tk:Nat) (acc:List ai),(∀b o,s.heap.get? b=aa o->c.get? b=aa o)->(∃a:Array ai,acc=a.toList/\ai6 (λi v=>∃k x,f[i]?=aa (k,x)/\(iM X.prog X.w).is k v=ag) a _)->R acc _)->wpAny _ X.A.in1 _ R X.xe s:=
  λR h=>W.kdu_collect (W.kdl_dict hd) N G (by rw[bp];exact bG (U▸L) (Nat.le_add_left _ _)) λc tk acc k i=>h c tk _ k ⟨acc,rfl,i⟩
 rcases j with j|⟨g1,g2,M⟩
 .refine BI cl (λacc ca=>⟨?_,ss,key acc ca⟩) (λh1 c p tk e acc out s1 s2 ca sa m n y B ho pm sd=>?_)
  .rw[(key acc ca).length];exact j
  .have e2:s1=ss:=by rw[<-sa.strs,(key acc ca).strs]
   subst e2;exact r9 I L q m n y B ho pm sd
 .exact Es cl key g1 g2 M λh1 c p tk e acc ca m n y B=>r9 I L q m n y B (key acc ca) (fZ _) (Et M)
end
end L2
namespace L3
open L2
section
variable {X:Cx}
def WE:D->(List aY->Prop)->Prop
 |.lst xs,C=>∃ss:List aY,xs=ss.map D.str/\BJ ss/\C ss
 |.jD a _,C=>∃ss:List aY,a=ss.map dg/\BJ ss/\C ss
 |_,_=>False
def O3(w:∀ss,C ss->a ss)(h:WE d C):WE d a:=by cases d<;>first|exact h.elim|(obtain⟨ss,b,c,e⟩:=h;exact⟨ss,b,c,w _ e⟩)
def HL:GF:=λds M Q=>match ds with
 |[d]=>WE (vw M d) λss=>Q (.lst ((zU ss).map .str)) M
 |_=>False
theorem y3{K:af}:∀{ss:List aY} {a:List V},hW K α H (ss.map D.str) a->a=ss.map V.str
 |[],a,h=>by exact h
 |x::ss,a,h=>by obtain⟨v,r,rfl,z,y⟩:=h;rw[z,y3 y];rfl
def K0(j:X.A.handled=ar):JBF X (.builtin hD) HL:=by
 refine⟨λds M P Q w q=>?_,λcc s σ H xs us Q I rs h=>?_⟩
 .match ds,q with
  |[d],q=>exact O3 (λss q=>w _ _ q) q
 .obtain⟨F,α,M,ds,o,b,h⟩:=h;match ds,h,b with
  |[d],q,b=>
   obtain⟨v,m,i⟩:=mq b;subst m;have q:WE (vw M d) λss=>fK X.K F α H M Q _ M:=q;generalize e1:vw M d=z at q;cases z<;>first|exact q.elim|skip
   .obtain⟨ss,rfl,c,q⟩:=q;obtain⟨a,n,rfl,e,f⟩:=jh o i e1;have e2:=y3 f;subst e2;exact FD cc s σ H _ us Q I rs ⟨a,ss,rfl,l9.of e,c,λp g=>q p _ α H Ext.refl o g ⟨_,rfl,hW.of_map _ _ (λ_=>oI) _⟩⟩
   .obtain⟨ss,rfl,c,q⟩:=q;obtain⟨a,n,rfl,e,r,f⟩:=mX o i e1;have u:=hW.length _ _ f;refine FE j cc s σ H _ us Q I rs ⟨a,_,ss,rfl,e,?_,c,λp g=>q p _ α H Ext.refl o g ⟨_,rfl,hW.of_map _ _ (λ_=>oI) _⟩⟩;rw[List.map_fst_zip (by lia)]
end
end L3
namespace L2
noncomputable def As(val:Nat->aY):Nat->List aY
 |0=>[]
 |i+1=>aiz (As val i) (val i)
theorem Nd(val:Nat->aY):∀i,(As val i).length<=i
 |0=>aD _
 |i+1=>by
  have a:=Nd val i;unfold As aiz;split
  .exact eM a
  .simp;exact a
def SA(σ:List aY)(v k:aY):(aiz σ v).any (·==k)=(σ.any (·==k)||decide (k=v)):=by
 unfold aiz;by_cases h:σ.any (·==v)=ag
 .rw[if_pos h];by_cases e:k=v
  .subst e;rw[h];rfl
  .simp[e]
 .rw[if_neg h];by_cases e:k=v
  .subst e;simp
  .have hb:(v==k)=au:=by simpa usingλz:v=k=>e z.symm
   simp[hb,e]
def SD(σ:List aY)(v:aY):(aiz σ v).length=if σ.any (·==v) then σ.length else σ.length+1:=by unfold aiz;split<;>simp
section
variable {A:bH} {s:av}
abbrev y4(prog:bc)(w:bJ)(h:aC)(a:aw)(val:Nat->aY)(i:Nat):Prop:=h.SetOf (PySem.strKind prog w) a (λk=>(As val i).any (·==k)) (As val i).length
def O4{R:ajr->av->Prop}{It:aw}{H h:List aw}{G:Array ai0->Array ai0->Prop}{n:Nat}{P:Nat->ai->Prop}{St:Nat->av->Prop}(W:WalksS prog w A.in1 It H h G n P St)(a:aw)(c:a∉H)
(val:Nat->aY)(j:∀i v,P i v->∃t,v=.str (val i) t)(hb:n+1<aiI):∀(k i:Nat) (s:av),n- i=k->i<=n->St i s->y4 prog w s.heap a val i->
   (∀m,akj (a::h) G s m->y4 prog w m.heap a val n->R (.ok (.ret .none)) m)->codeAny (model prog w) A (.builtin "set.update.loop" ⟨[.ref a,.ref It],[]⟩) R s:=by
 have f:a∉h:=λz=>c (W.sub _ z);intro k;induction k with
 |zero=>
  intro i s I hi p q r;obtain rfl:i=n:=by lia
  refine gO g8 ?_;rw[bH.under_plainId g9 _];refine ae (W.done s _ _ p λs1 g=>?_);show wpAny _ A.in1 (ret cL) _ _ s1;obtain⟨o,es,u,t,x,more⟩:=q;exact ay (r s1 (g.mono λb z=>aB _ z) ⟨o,es,u,t,g.heap a _ f x,more⟩)
 |succ k J=>
  intro i s I hi p q r;have lt:i<n:=by lia
  refine gO g8 ?_;show wpAny _ A.in1 (pyNext (.ref It) >>= _) _ _ s;refine ae (W.item i s _ _ lt p λv s1 L y g=>?_);obtain⟨t,rfl⟩:=j i v L;have M:y4 prog w s1.heap a val i:=by obtain⟨o,es,u,tb,x,more⟩:=q;exact⟨o,es,u,tb,g.heap a _ f x,more⟩
  refine ae (bR ?_);unfold setAdd;refine bR (ae ((PySem.strKind prog w).pyHash (k:=val i) (PySem.strKind_is _ _ _ _) ?_));have room:(As val i).length+1<aiI:=by have:=Nd val i;lia
  refine wpAny_setAddHashed_of (knd:=PySem.strKind prog w) (s:={s1 with toks:=s1.toks+1}) (PySem.strKind_is _ _ _ _) rfl M room λN sb O=>?_;have Q:y4 prog w N a val (i+1):=SetOf_congr O (λk=>(SA _ _ _).symm) (SD _ _).symm;refine ay ⟨aiM g9 _,J (i+1) _ (by lia) lt (W.frame _ s1 _ _ y (cw _) λb B o e=>?_) Q λT C U=>?_⟩
  .rw[sb.2 b λz=>c (z▸B)];exact e
  .refine r T (akj.trans W.gtrans ((g.mono λb z=>aB _ z).then_heap (cw _) λb o B e=>?_) C) U;rw[sb.2 b λz=>B (z▸aN)];exact e
theorem Ng:∀{a:List ai} {ss:List aY},cW a ss->∀(i:Nat) (v:ai),a[i]?=aa v->∃t,v=.str (ss.getD i ⟨#[]⟩) t
 |_,_,.nil,i,v,h=>by simp at h
 |_,_,.cons x t r,0,v,h=>by simp at h;exact⟨t,h.symm⟩
 |_,_,.cons x t r,i+1,v,h=>by obtain⟨u,e⟩:=Ng r i v (by simpa using h);exact⟨u,by rw[e];rfl⟩
def O5(J:A.handled=ar)(L:s.heap.IsList l items)(hi:cW items.toList ss)(hb:items.size+1<aiI)
(M:∀(f:aC) (tk:Nat),y4 prog w f s.heap.objs.size (λi=>ss.getD i ⟨#[]⟩) items.size->(∀b o,s.heap.get? b=aa o->f.get? b=aa o)->Q (.ref s.heap.objs.size) {s with heap:=f,toks:=tk}):
  wpAny (model prog w) A (call (.type fq) [.ref l]) Q E s:=by
 obtain⟨c,tl,N⟩:=PySem.F.called_set.mro;have O:=PySem.F.called_set.made;have T:=PySem.F.called_set.sub;refine fH (aj9 ?_);show wpAny _ _ (ajW (.type fq) _) _ _ _;refine ay ⟨Code.quiet_builtin _ (by decide+kernel),gO PySem.F.entry_type_call ?_⟩;rw[bH.under_plain (weight_type_call_type fq [.ref l] []) rfl];have n1:=PySem.F.called_set.notType;have n2:=PySem.F.called_set.canCreate;have n3:=PySem.F.typeCall_set_1 (.ref l);repeat (any_goals (first|assumption|wp_step))
 refine dm (code_set_new_1 (.ref l) (E:=E) (Q₁:=λv s1=>∃a:Bool,v=.ref s.heap.objs.size/\s1={s with heap:=s.heap.push {cls:=.type fq,dict:=ar,data:=.set #[] 0 (.fresh 0 0 a)}}) λa=>⟨a,rfl,rfl⟩) λr s1 p=>?_;cases r with
 |error e=>exact p
 |ok fl=>
  cases fl with
  |ret v=>
   obtain⟨a,rfl,rfl⟩:=p;have h:(s.heap.push {cls:=.type fq,dict:=ar,data:=.set #[] 0 (.fresh 0 0 a)}).get? s.heap.objs.size=aa {cls:=.type fq,dict:=ar,data:=.set #[] 0 (.fresh 0 0 a)}:=aP _ rfl;have q:av.TypeIs {s with heap:=s.heap.push {cls:=.type fq,dict:=ar,data:=.set #[] 0 (.fresh 0 0 a)}} (.ref s.heap.objs.size) fq:=⟨_,h,rfl⟩;have n4:=PySem.F.called_set.init.lookup;have n5:=PySem.F.called_set.init.bind (.ref s.heap.objs.size);repeat (any_goals (first|assumption|wp_step))
   refine dm (aiF (R:=wants (λr s2=>r=.none/\∃f tk,s2={s with heap:=f,toks:=tk}/\y4 prog w f s.heap.objs.size (λi=>ss.getD i ⟨#[]⟩) items.size/\(∀b o,s.heap.get? b=aa o->f.get? b=aa o)) E) PySem.F.called_set.init.plain PySem.F.entry_set_init (check_set_init_1 q ?_)) λU s2 g=>?_
   .obtain⟨Y,u,I,nl,J8⟩:=L;obtain⟨oc,od,ot,os⟩:=Y;simp only at I J8;subst I;subst J8;have j:(s.heap.push {cls:=.type fq,dict:=ar,data:=.set #[] 0 (.fresh 0 0 a)}).IsList l items:=⟨_,aj _ u,rfl,nl,rfl⟩;have ahY:(s.heap.push {cls:=.type fq,dict:=ar,data:=.set #[] 0 (.fresh 0 0 a)}).get? l=aa {cls:=.type cr,dict:=od,data:=.seq items nl,slots:=os}:=aj _ u;have m1:=PySem.F.sub_list_set;have m2:=PySem.F.sub_list_frozenset;have m3:(c8 cr==c8 fi)=au:=by decide
    unfold bM.«set.__init__» noKeywords bM.Frozenset.updateFrom;generalize x:ai9=PI
    wp_walk
    subst x;refine dL j (ae (wpAny_runValue ?_));have m:l<s.heap.objs.size:=aM u;have h3:A.in1.in1.in1.handled=ar:=by simp[J]
    have y:l≠(s.heap.push {cls:=.type fq,dict:=ar,data:=.set #[] 0 (.fresh 0 0 a)}).objs.size:=by rw[ci];exact bd (cV m)
    have B:s.heap.objs.size∉[(s.heap.push {cls:=.type fq,dict:=ar,data:=.set #[] 0 (.fresh 0 0 a)}).objs.size,l]:=by rw[ci];simp only [aH,bU,or_false,not_or];exact⟨bd (eW _),dh m⟩
    refine O4 ((aiR.list h3 _ l y items).toS) s.heap.objs.size B (λi=>ss.getD i ⟨#[]⟩) (λi v hv=>Ng hi i v (by rw[cj];exact hv)) hb (items.size- 0) 0 _ (by exact rfl) (bD _) ⟨⟨_,aP _ rfl,rfl,rfl⟩,(j.push _)⟩ ?s0 ?fn;case s0=>exact SetOf_congr ((setObjOf_fresh (knd:=PySem.strKind prog w) a).setOf (aj _ h) (by unfold aiI;exact Nat.succ_pos _)) (λ_=>rfl) rfl
    case fn=>
     intro s3 n S3;obtain⟨C,g3,d3,t3,o3⟩:=s3;have eg:g3=s.gens:=n.gens;have ed:d3=s.drawn:=n.drawn;have eo:o3=s.os:=n.os;subst eg ed eo;refine ay ?_;show wpAny _ _ (ret cL) _ _ _;refine ay ⟨rfl,C,t3,rfl,S3,λb o e=>n.heap b o ?_ (aj _ (aj _ e))⟩;have z:=aM e;rw[ci];simp only [aH,bU,or_false,not_or];exact⟨bd z,bd (cV z)⟩
   .cases U with
    |error e=>exact g
    |ok G=>
     cases G with
     |ret r=>
      obtain⟨rfl,f,tk,rfl,S4,k4⟩:=g;repeat (any_goals (first|assumption|wp_step))
      exact M _ _ S4 k4
     |_=>exact g.elim
  |_=>exact p.elim
end
section
variable {X:Cx}
noncomputable def WG(ss:List aY):Nat:=(As (λi=>ss.getD i ⟨#[]⟩) ss.length).length
noncomputable def WH(P:bc)(w:bJ)(a:aw)(n:Nat):HO:=.ext λh=>∃S,h.SetOf (PySem.strKind P w) a S n
def WI(x:h.SetOf (PySem.strKind P w) a S n):jB P w H h a (WH P w a n):=by obtain⟨o,es,g,t,f,more⟩:=x;refine⟨⟨S,o,es,g,t,f,more⟩,⟨o,f⟩,λq r ⟨i,o1,b,c,j,e1,m⟩ k=>⟨i,o1,b,c,j,k _ e1,m⟩⟩
def O6(c:X.A.handled=ar):lV X (.type fq) (λxs H Q=>∃p ss,xs=[.ref p]/\l9 X.K H p (ss.map V.str)/\ss.length<1000/\∀l,H l=ar->Q (.ref l) (upd H l (WH X.prog X.w l (WG ss)))):=by
 intro cc s σ H xs us Q I r h;obtain⟨p,ss,rfl,f,j,q⟩:=h;obtain⟨u,rfl,g⟩:=vals1 r;cases g;obtain⟨iq,a,pl,_⟩:=I.list f;have i:=y0 a;have b:=a.length;rw[ao] at b;refine O5 c pl.isList (by simpa using i) (by rw[aR];unfold aiI;exact d6 (b▸j) (Nat.le_add_left _ _)) λm tk S k=>?_;have e3:iq.toArray.size=ss.length:=by rw[aR,b]
 rw[e3] at S;exact⟨.ref _,_,I.laid k (aD _) (WI S),rfl,q _ (I.iO.fresh (aD _))⟩
def O7:lV X (.builtin mv) (λxs H Q=>∃p n,xs=[.ref p]/\H p=aa (WH X.prog X.w p n)/\Q (.int n) H):=by
 intro cc s σ H xs us Q I r h;obtain⟨p,n,rfl,a,q⟩:=h;obtain⟨u,rfl,b⟩:=vals1 r;cases b;obtain⟨⟨S,o,es,g,t,c,hex,hd,i,hm,hb,f,hn⟩,_⟩:=(I.iO p _ a);subst hn;refine call_len_set c hex hd f ?_ ⟨.int es.size,H,I.tok _,⟨_,rfl⟩,q⟩;unfold aiI at hb;have:(es.size:Int)<4096:=by exact Int.ofNat_lt.mpr hb
 exact Int.lt_of_lt_of_le this (by decide)
end
end L2
namespace L3
open L2
section
variable {X:Cx}
def Nh (te:DE):DE:=λa M Q=>te a M λd M1=>∃ss:List aY,vw M1 d=.lst (ss.map .str)/\ss.length<1000/\Q (.int (WG ss)) M1
def SE(j:X.A.handled=ar)(ml:X.mg mv=ar)(ms:X.mg fq=ar)(b:JE X e te)(m:Gl X mv:=by rfl)(gs:Gl X fq:=by rfl)
(h:bg [.Call (.Name fq p2) [e] [] wF] X.env=[(au,eval (.Call (.Name fq p2) [e] [] wF) X.env)]:=by rfl)(i:bg [e] X.env=[(au,eval e X.env)]:=by rfl):
  JE X (.Call (.Name mv p) [.Call (.Name fq p2) [e] [] wF] [] pos) (Nh te):=by
 have s1:PE X (.Call (.Name fq p2) [e] [] wF) _:=yN (O6 j) gs ms (by rfl) (AG b.p E7 i) (hn:=by decide) (tY:=by decide) (he:=i) (vq:=rfl);have s2:=Bb (p:=p) (pos:=pos) (O7 (X:=X)) m ml (by rfl) (AG s1 E7 h) (hn:=by decide) (tY:=by decide) (he:=h) (vq:=rfl);refine⟨λc M P Q w q=>b.mono c _ _ _ (λd M1 q=>?_) q,PE.weak s2 λσ H Q q=>?_⟩
 .obtain⟨ss,f,g,q⟩:=q;exact⟨ss,f,g,w _ _ q⟩
 .obtain⟨F,α,c,M,r,q⟩:=q;refine⟨F,α,c,M,r,b.mono c _ _ _ (λd M1 q v s H1 e1 o1 u=>?_) q⟩;obtain⟨ss,f,g,q⟩:=q;obtain⟨a,C,rfl,y,z⟩:=jh o1 u f;have e2:=y3 z;subst e2;refine⟨a,ss,rfl,l9.of y,g,λl B=>⟨l,_,rfl,il,?_⟩⟩;obtain⟨o2,e2⟩:=o1.laid (x:=WH X.prog X.w l (WG ss)) B;exact q _ s _ (e1.trans e2) o2 i8
end
end L3
namespace L2
section
variable {prog:bc} {w:bJ} {κ:Type} [DecidableEq κ] {knd:PySem.KeyKind prog w κ} {A:bH} {E:ai->av->Prop} {s:av} {d:aw} {ik:List (κ×ai)} {k:κ} {key v:ai}
def HM(g:knd.is k key=ag)(hm:s.heap.DictOf knd d ik)(y:ik.length<=aO)(yes:∀u,dS ik k=aa u->Q u {s with toks:=s.toks+1})
(no:dS ik k=ar->∀j,j.DictOf knd d (ik++[(k,v)])->bO d s.heap j->Q v {s with heap:=j,toks:=s.toks+1}):wpAny (model prog w) A (ajg d key v) Q E s:=by
 have mp:=hm.mapOf;obtain⟨o,es,B,c,hc,hd,q,m,hn⟩:=hm;have sz:es.size<=aO:=by have e1:=m.length;rw[bZ] at e1;exact bG (gB e1) y
 have f:ajI knd.is es k=dS ik k:=by obtain⟨o2,C,G,r,_,x,_,H⟩:=mp;rw[c] at r;cases r;rw[hd] at x;cases x;exact H k
 unfold ajg;try with_reducible refine bR ?_
 refine ae (knd.pyHash g ?_);refine ae (ajX g c hd q ?_);have I:(es.findIdx? λe=>knd.is k e.key)=ik.findIdx? λJ=>decide (J.1=k):=by rw[<-m.findIdx k];obtain⟨l⟩:=es;simp
 cases hi:es.findIdx? λe=>knd.is k e.key with
 |some i=>
  have h:dS ik k=(es[i]?).map (·.val):=by rw[<-f,aiP,hi]
  refine ae (eV c hd ?_);cases n:es[i]? with
  |none=>
   have lt:=(Array.findIdx?_eq_some_iff_findIdx_eq.mp hi).1;rw[dq lt] at n;cases n
  |some e=>
   rw[n] at h;exact ae (ah0 (ay (yes e.val h)))
 |none=>
  have h:dS ik k=ar:=by rw[<-f,aiP,hi]
  have p:=not_mem_of_findIdx_none (I▸hi);refine ae (ah0 (ae (wpAny_updateDictKeys (hz:=sz) c hd (ay (no h _ ⟨_,_,B+1,cX _ c (cB.isFreed_of_dict (cB.data_mapDictKeys hd _)),hc.mapDictKeys _,cB.data_mapDictKeys hd _,q.push g _,?_,?_⟩ (cI ..))))))
  .have z:=m.append g (knd.hash k) v;simpa using z
  .rw[ba,dB];refine⟨hn,by simp,λa ha b hb=>?_⟩;simp only [bq,gz,bj] at hb;subst hb;exactλz=>p (z▸ha)
def FF(c:knd.is k key=ag)(lo:(d==b9)=au):
  MeetsIn prog w (bM.«dict.setdefault» ⟨[.ref d,key,v],[]⟩) (λ_ R s=>∃ik,s.heap.DictOf knd d ik/\ik.length<=aO/\(∀u,dS ik k=aa u->R (.ok (.ret u)) {s with toks:=s.toks+1})/\
   (dS ik k=ar->∀a,a.DictOf knd d (ik++[(k,v)])->bO d s.heap a->R (.ok (.ret v)) {s with heap:=a,toks:=s.toks+1})):=
 .of_wp λA R s ⟨ik,hm,e,f,g⟩=>by refine ae ?_;refine ae (ajz hm.mapOf.typeIs ?_);refine ay ?_;show wpAny _ _ (if(d==b9)=ag then _ else(ajg d key v >>= _)) _ _ s;rw[if_neg (by rw[lo];exact aS)];exact ae (HM c hm e (λu h=>ay ⟨u,rfl,f u h⟩) λhn a b sb=>ay ⟨v,rfl,g hn a b sb⟩)
end
theorem Ni(r:RelV v u):∀{b:List _} {c:List _},KV b c->KV (b++[(k,v)]) (c++[(k,u)])
 |_,_,.nil=>.cons ⟨rfl,r⟩ .nil
 |_,_,.cons a t=>.cons a (Ni r t)
def O8:MtR X "dict.setdefault" (λx xs H Q=>∃a b k v,x=.ref a/\xs=[kV k,v]/\H a=aa (.dK b)/\(∀u,qL b k=aa u->Q u H)/\(qL b k=ar->b.length<aO/\Q v (upd H a (.dK (b++[(k,v)]))))):=by
 intro cc s σ H x xs v us Q I n rs h;obtain⟨a,b,k,z,rfl,rfl,f,yes,no⟩:=h;cases n;obtain⟨C,E,rfl,o,i⟩:=vals2 rs;obtain⟨p,lo,j,rel,dd⟩:=YL I.iO f;have r:j.length<=aO:=by rw[<-rel.length];exact p
 refine gS PySem.F.slot_dict_setdefault dd.typeIs PySem.F.entry_dict_setdefault (PySem.F.args_dict_setdefault_3 _ _ _) (FF (xB o) lo) ⟨j,dd,r,λu w=>?_,λhn A m sb=>?_⟩
 .have c:=rel.val k;rw[w] at c;cases e:qL b k with
  |none=>rw[e] at c;cases c
  |some y=>
   rw[e] at c;exact⟨y,H,I.tok _,c,yes y e⟩
 .have e:qL b k=ar:=by
   have c:=rel.val k;rw[hn] at c;cases e:qL b k with
   |none=>rfl
   |some y=>rw[e] at c;cases c
  obtain⟨G,q⟩:=no e;have B:∃q,A.get? a=aa q:=let⟨q,_,_,f,_⟩:=m;⟨q,f⟩;have g:KV (b++[(k,z)]) _:=Ni i rel;exact⟨z,_,E8 I (by rw[f];exact dG) sb B (Kw (by simp;exact G) lo g m),i,q⟩
end L2
namespace L3
open L2
def HN:GM:=λd ds M Q=>match d,ds with
 |.loc j,[k,v]=>∃a es b,M[j]?=aa (aa (.jD a es))/\Hv k=aa b/\(∀x,mf b a es=aa x->Q x M)/\(mf b a es=ar->a.length<aO/\Q v (M.set j (aa (.jD (a++[b]) (es++[v])))))
 |_,_=>False
def O9:JM X "dict.setdefault" HN:=by
 refine⟨λd ds M P Q w q=>?_,λcc s σ H x xs v us Q I N rs h=>?_⟩
 .match d,ds,q with
  |.loc j,[k,v],⟨b,es,c,m,o,p,n⟩=>exact⟨b,es,c,m,o,λx e=>w _ _ (p x e),λe=>⟨(n e).1,w _ _ (n e).2⟩⟩
 .obtain⟨F,α,M,d,ds,ok,r,A,h⟩:=h;match d,ds,h,r,A with
  |.loc j,[k,y],⟨b,es,c,m,o,p,n⟩,r,A=>
   obtain⟨a,C,rfl⟩:=r;obtain⟨a',E,f,O,G,rd⟩:=ok.own j _ m;rw[C] at E;cases E;obtain⟨u1,g,rfl,T,J⟩:=v5 A;have e1:=pk T o;subst e1;have hv:=hW.length _ _ rd;obtain⟨L,U⟩:=nM b es f rd G;refine O8 cc s σ H _ _ v us Q I N rs ⟨a,b.zip f,c,g,rfl,rfl,O,λu B=>?_,λhn=>?_⟩
   .cases e:mf c b es with
    |none=>rw[U e] at B;cases B
    |some x=>
     obtain⟨Y,i,ru⟩:=L x e;rw[B] at i;cases i;exact vK.now ok (p x e) ru
   .have e:mf c b es=ar:=by
     cases e:mf c b es with
     |none=>rfl
     |some x=>obtain⟨Y,i,_⟩:=L x e;rw[hn] at i;cases i
    obtain⟨n1,q⟩:=n e;refine⟨by rw[cJ];lia,?_⟩;have ez:b.zip f++[(c,g)]=(b++[c]).zip (f++[g]):=by rw[List.zip_append (by exact hv▸G)];rfl
    obtain⟨o2,e2⟩:=ok.write (y:=.jD _ _) (z:=.dK (b.zip f++[(c,g)])) m C (λHh eh=>by subst eh;exact⟨f++[g],by rw[il,ez],by simp[G],hW.append _ _ _ _ rd (hW.one J)⟩)
    exact q _ α _ e2 o2 (e2.rep J)
end L3
namespace L2
section
variable {A:bH} {s:av}
def FG:aiN (.type cr) "keys"=pure ar:=am_miss_of_fast (by kernel_rfl)
def WK{a:aw}{o:cB}{xs:Array ai}{k:Nat}{Q:Option ai->av->Prop}(j:s.heap.get? a=aa o)(hc:o.cls=.type cr)(h:o.data=.seq xs k)(hd:o.dict=ar)(n:A.handled=ar)
(p:∀(i:aC) (tk:Nat),(∀b o,s.heap.get? b=aa o->i.get? b=aa o)->Q ar {s with heap:=i,toks:=tk}):wpAny (model prog w) A (ajE (.ref a) "keys") Q E s:=by
 obtain⟨c,jD,q,sl⟩:=o;simp only at hc h hd;subst hc h hd;obtain⟨r,g,d,tk,os⟩:=s;have ty:∀f,(⟨r,g,d,f,os⟩:av).TypeIs (.ref a) cr:=λ_=>⟨_,j,rfl⟩;have u:=sub_AttributeError;have v:=PySem.F.slot_list_getattribute.lookup;have x:=PySem.F.slot_list_getattribute.bind (.ref a);have y:=am_list_getattr_none;unfold ajE getAttrBy? getAttrBy;repeat (any_goals (first|assumption|exact ty _|((with_reducible show wpAny _ _ (call (ai.builtin "list.__getattribute__") _ _) _ _ _);refine gu PySem.F.slot_list_getattribute (ty _) am_entry_list_getattribute (PySem.F.args_list_getattribute_2 _ _) (meets_getattribute_miss_list a xs k sl "keys" _ FG (by decide) (by rw[bp];decide)) ⟨j,n,λi f e m=>?_⟩)|wp_step))
 obtain⟨z,B,C⟩:=m.there;show wpAny _ _ (ajL _ _ _ _ _ _ _) _ _ _;unfold ajL;repeat (any_goals (first|assumption|wp_step))
 exact p i f m.keeps
end
def ul:entryFor table uaI=aa bM.«dict.update.loop»:=entryFor_of_tree (by kernel_rfl)
def um:plainId uaI=ag:=by decide+kernel
section
variable {prog:bc} {w:bJ} {κ:Type} [DecidableEq κ] {knd:PySem.KeyKind prog w κ} {A:bH} {E:ai->av->Prop} {s:av}
def K1{k:κ}(h:k∉a.map (·.1)):stored a k v=a++[(k,v)]:=by
 unfold stored;rw[if_neg];rw[List.any_eq_true]
 rintro⟨b,c,e⟩
 exact h (bP.mpr ⟨b,c,of_decide_eq_true e⟩)
def FH (h:aC)(v:ai)(key val:ai):Prop:=∃a,v=.ref a/\aiJ h a #[key,val]
def pair_items(b:FH s.heap v key val)(q:Q [key,val] s):wpAny (model prog w) A (bM.Dict.pairItems v) Q E s:=by obtain⟨a,rfl,o,e,hc,n,hd⟩:=b;obtain⟨c,dc,f,sl⟩:=o;subst hc hd;obtain⟨b,g,d,tk,os⟩:=s;have ty:(⟨b,g,d,tk,os⟩:av).TypeIs (.ref a) ej:=⟨_,e,rfl⟩;refine ae (aiU ty ?_);refine ae (ae (wpAny_load e (ay (ay ?_))));exact q
def SF{R:ajr->av->Prop}{It:aw}{M m:List aw}{P:Nat->ai->Prop}{St:Nat->av->Prop}{c:List (κ×ai)}{keys:List ai}(W:WalksS prog w A.in1 It M m G c.length P St)(d:aw)(N:d∉M)(lo:(d==b9)=au)
(nd:(c.map (·.1)).Nodup)(hz:c.length<=aO)(n:aC)(U:∀i v,P i v->∃k key u,c[i]?=aa (k,u)/\knd.is k key=ag/\FH n v key u)(r:n.get? d=ar)(x:∀b∈m,n.get? b=ar):
  ∀(k i:Nat) (s:av),c.length- i=k->i<=c.length->St i s->(∀b o,n.get? b=aa o->s.heap.get? b=aa o)->s.heap.DictOf knd d (c.take i)->
   (∀y,akj (d::m) G s y->y.heap.DictOf knd d c->R (.ok (.ret .none)) y)->codeAny (model prog w) A (.builtin uaI ⟨[.ref d,.ref It,ahZ i,.none],[]⟩) R s:=by
 have g:d∉m:=λz=>N (W.sub _ z);intro k;induction k with
 |zero=>
  intro i s Y hi B h p C;obtain rfl:i=c.length:=by lia
  refine gO ul ?_;refine ae (W.done s _ _ B λs1 f=>?_);rw[List.take_length] at p;refine ae (ay (ay (C s1 (f.mono λb z=>aB _ z) (p.at λo e=>f.heap d _ g e))))
 |succ k ih=>
  intro i s Y hi B h p C;have lt:i<c.length:=by lia
  refine gO ul ?_;refine ae (W.item i s _ _ lt B λv s1 hv H f=>?_);obtain⟨kk,key,u,e1,e2,a,rfl,o,ho,ht⟩:=U i v hv;have O:=λb o e=>f.heap b o (λz=>by rw[x b z] at e;cases e) (h b o e);refine ae (bR ?_);refine ae (wpAny_tryCatch (pair_items ⟨a,rfl,o,O _ _ ho,ht⟩ ?_));have D1:s1.heap.DictOf knd d (c.take i):=p.at λo e=>f.heap d _ g e;refine bR (wpAny_dictSet_pairs (hsz:=by rw[dM];lia) e2 D1 λQ T sb=>?_);have I:kk∉(c.take i).map (·.1):=by
   intro z;obtain⟨⟨k',u'⟩,hm,rfl⟩:=bP.mp z;obtain⟨j,q⟩:=cN.mp hm;rw[List.getElem?_take] at q;split at q
   .rename_i ji;have g1:(c.map (·.1))[j]?=aa k':=by rw[bh,q];rfl
    have g2:(c.map (·.1))[i]?=aa k':=by rw[bh,e1];rfl
    have:=(fE (by rw[ao];exact gC ji lt) nd).mp (g1.trans g2.symm);lia
   .cases q
  rw[K1 I] at T;have D3:Q.DictOf knd d (c.take (i+1)):=by rw[List.take_add_one,e1];exact T
  refine ay ⟨aiM um _,ih (i+1) _ (by lia) lt (W.frame _ s1 _ _ H (cw _) λb J o e=>?_) (λb o e=>?_) D3 λs4 L D4=>?_⟩
  .rw[sb.2 b λz=>N (z▸J)];exact e
  .show Q.get? b=aa o;rw[sb.2 b λz=>by rw[z,r] at e;cases e];exact O b o e
  .refine C s4 (akj.trans W.gtrans ((f.mono λb z=>aB _ z).then_heap (cw _) λb o J e=>?_) L) D4;rw[sb.2 b λz=>J (z▸aN)];exact e
def K2(y:A.handled=ar)(j:PlainL s.heap l items)(I:items.size=f.length)(nd:(f.map (·.1)).Nodup)(J:f.length<=aO)(big:b9<s.heap.objs.size)
(L:∀(i:Nat) (v:ai),items[i]?=aa v->∃k key u,f[i]?=aa (k,u)/\knd.is k key=ag/\FH s.heap v key u)
(M:∀(m:aC) (tk:Nat),m.DictOf knd s.heap.objs.size f->(∀b o,s.heap.get? b=aa o->m.get? b=aa o)->Q (.ref s.heap.objs.size) {s with heap:=m,toks:=tk}):
  wpAny (model prog w) A (call (.type fi) [.ref l]) Q E s:=by
 refine akk (Q₁:=λv s1=>v=.ref s.heap.objs.size/\s1={s with heap:=s.heap.push {cls:=.type fi,data:=.dict #[]}}) PySem.F.kt_called_dict (PySem.F.kt_typeCall_dict_1 _) PySem.F.entry_dict_init (kt_code_dict_new _ ⟨rfl,rfl⟩) ?_
 rintro v s1 ⟨rfl,rfl⟩
 have p:(s.heap.push {cls:=.type fi,data:=.dict #[]}).DictOf knd s.heap.objs.size []:=aC.DictOf.new s.heap;refine⟨p.typeIs,PySem.F.args_dict_init_2 _ _,?_⟩;unfold bM.«dict.__init__»;refine ae ?_;unfold bM.Dict.selfAndRest;refine ae (ajz p.typeIs ?_);refine ay ?_;show wpAny _ _ (bM.Dict.updateFrom "dict.__init__" s.heap.objs.size (.ref l) [] .none) _ _ _;unfold bM.Dict.updateFrom;obtain⟨lt,C⟩:l<s.heap.objs.size/\(s.heap.push {cls:=.type fi,data:=.dict #[]}).IsList l items:=⟨aM j.isList.choose_spec.1,j.isList.push _⟩;refine ae (aiU C.typeIs ?_);rw[if_pos (by decide)];obtain⟨o,n,G,hc,hd,q⟩:∃o n,s.heap.get? l=aa o/\o.cls=.type cr/\o.data=.seq items n/\o.dict=ar:=let⟨o,n,a1,a2,a3,a4⟩:=j;⟨o,n,a1,a2,a4,a3⟩;refine ae (WK (aj _ G) hc hd q y λc N g=>?_);rw[if_pos (by rfl)];refine ae (ah0 ?_);have H:c.IsList l items:=C.at λo e=>g _ _ e;refine ae (dL H ?_);refine ay ⟨aiM um _,?_⟩;have k0:∀b o,s.heap.get? b=aa o->c.get? b=aa o:=λb o e=>g b o (aj _ e);have r:l<c.objs.size:=aM (k0 _ _ G);have x:=g _ _ (aP _ rfl);have a:s.heap.objs.size<c.objs.size:=aM x;have W:=(aiR.list (prog:=prog) (w:=w) (A:=A.in1.in1) (by simp[y]) c.objs.size l (bd r) items).toS;rw[I] at W;have O:(c.push {cls:=.type "list_iterator",data:=.fields #[.ref l,.int 0 0]}).DictOf knd s.heap.objs.size []:=(p.at λo e=>g _ _ e).push _;refine SF (keys:=[]) W s.heap.objs.size (by simp only [aH,bU,or_false,not_or];exact⟨bd a,dh lt⟩) (beq_eq_false_iff_ne.mpr (dh big)) nd J s.heap L (cE (aD _))
  (λb hb=>by rw[bj.mp hb];exact cE (dF a)) (f.length- 0) 0 _ (by exact rfl) (bD _) ?st ?kp ?dd ?fn
 case st=>exact⟨⟨_,aP _ rfl,rfl,rfl⟩,H.push _⟩
 case kp=>exactλb o e=>aj _ (k0 b o e)
 case dd=>rw[List.take_zero];exact O
 intro T h U;obtain⟨Y,g4,d4,t4,o4⟩:=T;have eg:g4=s.gens:=h.gens;have ed:d4=s.drawn:=h.drawn;have eo:o4=s.os:=h.os;subst eg ed eo;refine⟨rfl,M Y t4 U λb o e=>h.heap b o ?_ (aj _ (k0 b o e))⟩;have z:=aM e;simp only [aH,bU,or_false,not_or];exact⟨bd z,bd (gC z a)⟩
end
section
variable {X:Cx}
def FK (K:af)(H:Hp):List V->List (Key×V)->Prop
 |[],[]=>True
 |y::b,(k,u)::r=>(∃a,y=.ref a/\wj K H a [kV k,u])/\FK K H b r
 |_,_=>False
theorem zV(I:Inv X cc σ H s):∀{f:List V} {g:List _} {iq:List ai},FK X.K H f g->Vals f iq->
  ∃c:List _,KV g c/\iq.length=c.length/\∀(i:Nat) (v:ai),iq[i]?=aa v->∃k key u,c[i]?=aa (k,u)/\(iM X.prog X.w).is k key=ag/\FH s.heap v key u
 |[],[],iq,_,r=>by cases r;exact⟨[],.nil,rfl,λi v h=>by simp at h⟩
 |[],_::_,_,h,_=>h.elim
 |_::_,[],_,h,_=>h.elim
 |y::f,(k,u)::g,iq,⟨⟨a,e,m⟩,h⟩,r=>by
  subst e;cases r with
  |@cons _ b _ bs n o=>
   cases n;obtain⟨c,p,q,x⟩:=zV I h o;obtain⟨z,A,B,_⟩:=I.tuple m;obtain⟨key,val,rfl,C,E⟩:=vals2 A;refine⟨(k,val)::c,.cons ⟨rfl,E⟩ p,by simp[q],λi v j=>?_⟩;cases i with
   |zero=>simp at j;subst j;exact⟨k,key,val,rfl,xB C,a,rfl,B⟩
   |succ i=>exact x i v (by simpa using j)
theorem Nj:∀{b:List (Key×V)} {c:List _},KV b c->c.map (·.1)=b.map (·.1)
 |_,_,.nil=>rfl
 |_,_,.cons a t=>by rw[bq,bq,a.1,Nj t]
def K3(f:X.A.handled=ar):lV X (.type fi) (λxs H Q=>∃p b a,xs=[.ref p]/\l9 X.K H p b/\FK X.K H b a/\(a.map (·.1)).Nodup/\∀l,H l=ar->Q (.ref l) (upd H l (.dK a))):=by intro cc s σ H xs us Q I r h;obtain⟨p,b,a,rfl,g,j,nd,q⟩:=h;obtain⟨u,rfl,m⟩:=vals1 r;cases m;obtain⟨iq,e,pl,x⟩:=I.list g;have y:=e.length;obtain⟨z,c,n,o⟩:=zV I j e;have B:=c.length;refine K2 f pl (by rw[aR,n]) (by rw[Nj c];exact nd) (by lia) I.big (λi v w=>o i v (by simpa using w)) λC tk D k=>?_;exact⟨.ref _,_,I.laid k (aD _) (Kw (by lia) (beq_eq_false_iff_ne.mpr (b8 (bd I.big))) c D),rfl,q _ (I.iO.fresh (aD _))⟩
end
end L2
namespace L3
open L2
section
variable {X:Cx}
noncomputable def kD:Key->D
 |.inl i=>.int i
 |.inr x=>.str x
noncomputable def prD(kd:Key×D):D:=.tup [kD kd.1,kd.2]
def K4:GF:=λds M Q=>match ds with
 |[d]=>∃mZ:List (Key×D),vw M d=.lst (mZ.map prD)/\(mZ.map (·.1)).Nodup/\Q (.jD (mZ.map (·.1)) (mZ.map (·.2))) M
 |_=>False
def abx{K:af}(h:Rep K α H (kD k) v):v=kV k:=by cases k<;>(exact h)
theorem BK{K:af}(e:jC H c):∀{mZ:List _} {b:List V},hW K α H (mZ.map prD) b->∃us:List V,FK K c b ((mZ.map (·.1)).zip us)/\hW K α H (mZ.map (·.2)) us
 |[],b,h=>by subst h;exact⟨[],trivial,hW.nil⟩
 | (k,d)::mZ,b,h=>by obtain⟨v,r,rfl,z,y⟩:=h;obtain⟨a,ws,rfl,f,g⟩:=z;obtain⟨p,i,rfl,j,m⟩:=v5 g;cases abx j;obtain⟨us,n,o⟩:=BK e y;exact⟨i::us,⟨⟨a,rfl,lX e f⟩,n⟩,hW.cons m o⟩
def SH(g:X.A.handled=ar):JBF X (.type fi) K4:=by
 refine⟨λds M P Q w q=>?_,λcc s σ H xs us Q I rs h=>?_⟩
 .match ds,q with
  |[d],⟨mZ,b,c,q⟩=>exact⟨mZ,b,c,w _ _ q⟩
 .obtain⟨F,α,M,ds,o,e,h⟩:=h;match ds,h,e with
  |[d],⟨mZ,b,c,q⟩,e=>
   obtain⟨v,i,j⟩:=mq e;subst i;obtain⟨a,m,rfl,n,r⟩:=jh o j b;obtain⟨ws,u,f⟩:=BK ip r;have x:=hW.length _ _ f;rw[ao] at x;exact K3 g cc s σ H _ us Q I rs ⟨a,m,_,rfl,l9.of n,u,by rw[List.map_fst_zip (by simp;exact gB x)];exact c,λp y=>q p _ α H Ext.refl o y ⟨ws,rfl,by simp,f⟩⟩
end
end L3
namespace L2
section
variable {fs:List aw}
structure Cq(P:bc)(w:bJ)(fs:List aw)(H:Hp)(s s':av):Prop where
 os:s'.os=s.os
 bare:fR s'.gens
 iO:rK P w H s'.heap
 un:Un fs [] H H s.heap s'.heap
theorem Cq.refl(b:fR s.gens)(h:rK P w H s.heap):Cq P w fs H s s:=⟨rfl,b,h,Un.refl⟩
theorem Cq.trans(a:Cq P w fs H s s1)(b:Cq P w fs H s1 s2):Cq P w fs H s s2:=⟨b.os.trans a.os,b.bare,b.iO,a.un.trans b.un⟩
theorem Cq.kept(c:Cq P w fs H s s1)(k:∀b o,s1.heap.get? b=aa o->h'.get? b=aa o):Cq P w fs H s {s1 with heap:=h',toks:=tk}:=c.trans ⟨rfl,c.bare,c.iO.kept k,Un.kept k⟩
def Cq.other(c:Cq P w fs H s s1)(sb:bO a s1.heap i)(ha:H a=ar)(hn:s.heap.get? a=ar):Cq P w fs H s {s1 with heap:=i,toks:=tk}:=by
 have ne:∀{b:aw} {u:HO},H b=aa u->b≠a:=λe z=>by rw[z,ha] at e;cases e
 have g:∀{b:aw} {o:cB},s.heap.get? b=aa o->b≠a:=λe z=>by rw[z,hn] at e;cases e
 refine⟨c.os,c.bare,λb o e=>(c.iO b o e).tQ (λh u hb q=>?_) (λ_ q=>q) (λ_ _ q=>q),⟨λb o e n hb f=>?_,λb o e n hb f=>?_,c.un.free,λb o e f=>?_,c.un.rL,c.un.p5,c.un.qX⟩⟩
 .have z:h≠a:=by
   rcases hb with rfl|hb
   .exact ne e
   .exact ne hb
  exact(sb.2 h z).trans q
 .exact(sb.2 b (g e)).trans (c.un.keep b o e n hb f)
 .obtain⟨sl,q⟩:=c.un.slot b o e n hb f;exact⟨sl,(sb.2 b (g e)).trans q⟩
 .obtain⟨j,q⟩:=c.un.there b o e f;exact⟨j,(sb.2 b (g e)).trans q⟩
def Cq.at(c:Cq P w fs H s s1)(e:s.heap.get? b=aa o)(n:H b=ar)(hb:b∉fs):s1.heap.get? b=aa o:=c.un.keep b o e n hb (by simp)
theorem Ew:∀{a:List ai} {ss:List aY},cW a ss->cW (a++[.str x t]) (ss++[x])
 |_,_,.nil=>.cons x t .nil
 |_,_,.cons y u h=>.cons y u (Ew h)
def Pb(b:cW keys.toList ss)(a:2<=keys.size):keyKind' keys=pure oneType':=by
 obtain⟨l⟩:=keys;match l,b,a with
 |[],_,a=>simp at a
 |[_],_,a=>simp at a
 |v1::c::r,b,_=>exact ajw b
def Pc{keys:Array ai}{b:List ai}(c:cW keys.toList ss):KeysOf hG (keys.zip b.toArray):=by intro p a;rw[ksk_zip] at a;obtain⟨x,t,e⟩:=c.all _ (gg a).1;exact⟨x.cps.toList,by rw[e]⟩
def HP (ss:List aY)(b out:List ai):Prop:=∃a:List (aY×ai),a.Perm (ss.zip b)/\out=a.map dD/\a.Pairwise (λp q=>L3.yH p.1 q.1=ag)
def aeI{keys:Array ai}(c:cW keys.toList ss)(o:xs.Perm (keys.zip b.toArray))(r:ais hG xs xs.size):HP ss b (xs.map (·.2)).toList:=by
 have f:xs.toList.Perm (keys.toList.zip b):=by rw[<-ksk_zip];exact Array.perm_iff_toList_perm.mp o
 refine⟨xs.toList.map λp:Keyed=>(strOf p.1,p.2),?_,?_,?_⟩
 .have e:(keys.toList.zip b).map (λp:Keyed=>(strOf p.1,p.2))=ss.zip b:=by rw[<-c.strs,List.zip_map_left];exact eZ λ⟨x,y⟩ _=>rfl
  rw[<-e];exact f.map _
 .rw[Array.toList_map,bx];rfl
 .rw[eY];intro i j hi s v;have g:=by simpa using hi
  have a:=by simpa using s
  have q:=r i j (dF v) a;have mem:∀k (h:k<xs.size),∃x t,xs[k].1=ai.str x t:=λk h=>by have m:=f.mem_iff.mp (show xs[k]∈xs.toList by simp);exact c.all _ (gg m).1
  obtain⟨x,t,ex⟩:=mem i g;obtain⟨y,u,n⟩:=mem j a;rw[KK_str g (Prod.ext ex rfl),KK_str a (Prod.ext n rfl)] at q;simp only [List.getElem_map,Array.getElem_toList];rw[show strOf xs[i].1=x by rw[ex];rfl,show strOf xs[j].1=y by rw[n];rfl];change decide _=au at q;unfold L3.yH;rw[q];rfl
section
variable {s0 s:av} {kS:aw} {vs:List ai} {ss:List aY} {keys:Array ai} {Pq:PySem.Fin->av->Prop}
def Nk{st:SortSt}(c:Cq P w fs H s0 s)(r:s.heap.get? kS=aa (cb cr keys e))(na:s.heap.get? a=aa (cb cr #[] e1))(f:kS≠a)(m:H kS=ar/\s0.heap.get? kS=ar)(n:H a=ar/\s0.heap.get? a=ar)
(o:cW keys.toList ss)(B:ss.length=vs.length)(C:vs.length<64)(p:(ah2 st).Perm (keys.zip vs.toArray))(u:ais hG (ah2 st) (ah2 st).size)(v:aje st=ar)
(x:∀g tk out y,Cq P w fs H s0 {s with heap:=g,toks:=tk}->g.get? a=aa (cb cr out y)->HP ss vs out.toList->Pq (.done (.ret .none)) {s with heap:=g,toks:=tk}):
  wpAny (model P w) A (ksk_tail a au e1 (.ref kS) st) Pq E s:=by
 have q:keys.size=vs.length:=by have z:=o.length;rw[bZ] at z;exact B▸z
 have h:(ah2 st).size=vs.length:=by rw[p.size_eq,Array.size_zip,q,aR,Nat.min_self]
 have b1:=cI s.heap kS (bX λ_=>(#[]:Array ai));have b:(s.heap.update kS (bX λ_=>(#[]:Array ai))).get? a=aa (cb cr #[] e1):=(b1.2 a f.symm).trans na;have b2:=cI (s.heap.update kS (bX λ_=>(#[]:Array ai))) a (bX λ_=>(ah2 st).map (·.2));obtain⟨i,j⟩:∃i,((s.heap.update kS (bX λ_=>(#[]:Array ai))).update a (bX λ_=>(ah2 st).map (·.2))).get? a=aa (cb cr ((ah2 st).map (·.2)) i):=⟨_,fD b λ_=>(ah2 st).map (·.2)⟩;unfold ksk_tail;try dsimp only
 refine ae (dR r rfl ?_ (by rw[q,bp];exact bG (dF C) (Nat.le_add_left _ _)) (bD _));refine ae (aiC ?_);refine ae (gE b rfl ?_);refine ae (dR b rfl ?_ (bD _) (bG (gB (show(Array.map (·.2) (ah2 st)).size=vs.length by rw[Array.size_map];exact h)) (by rw[bp];exact bG (dF C) (Nat.le_add_left _ _))));rw[v];simp only [bne_self_eq_false,dX,if_false];refine ay (x _ _ _ i ((c.other (tk:=s.toks) b1 m.1 m.2).other (tk:=s.toks) b2 n.1 n.2) j (aeI o p u))
def aby(c:Cq P w fs H s0 s)(p:s.heap.get? kS=aa (cb cr keys e))(na:s.heap.get? a=aa (cb cr #[] e1))(f:kS≠a)(q:H kS=ar/\s0.heap.get? kS=ar)(r:H a=ar/\s0.heap.get? a=ar)
(g:cW keys.toList ss)(u:ss.length=vs.length)(m:vs.length<64)
(v:∀n tk out y,Cq P w fs H s0 {s with heap:=n,toks:=tk}->n.get? a=aa (cb cr out y)->HP ss vs out.toList->Pq (.done (.ret .none)) {s with heap:=n,toks:=tk}):
  wpAny (model P w) A (ksk_end a au vs.toArray e1 (.ref kS) keys) Pq E s:=by
 have B:keys.size=vs.length:=by have z:=g.length;rw[bZ] at z;exact u▸z
 have o:(keys.zip vs.toArray).size=vs.length:=by rw[Array.size_zip,B,aR,Nat.min_self]
 unfold ksk_end;try dsimp only
 by_cases b:vs.toArray.size<2
 .rw[if_pos b,if_pos b];refine ae (ay ?_);refine Nk c p na f q r g u m (Array.Perm.refl _) ?_ rfl v;intro i j O C;have G:j<(keys.zip _).size:=C;rw[aR] at b;obtain rfl:i=j:=by lia
  exact KeyOrd.kle_refl _
 .rw[if_neg b,if_neg b];rw[aR] at b;rw[Pb g (by exact Nat.le_of_not_lt (B▸b))];refine ae (ay ?_);refine ae (cm (wpS_sortRunsK ajj
   (Q:=λ_ h=>(ah2 h).Perm _/\aje h=ar/\ais _ (ah2 h) _)
   (Pc g) ⟨Array.Perm.refl _,rfl,rfl,rfl⟩ (by exact Nat.le_of_not_lt (o▸b)) (by rw[o];exact m) λh I J L=>⟨I,J,L⟩) ?_ λ_ _ z=>z)
  rintro⟨⟨⟩,h⟩ T ⟨rfl,x,M,N⟩
  exact Nk c p na f q r g u m x (by rw[x.size_eq];exact N) M v
end
end
section
variable {A:bH} {fs:List aw} {s0 s:av} {kS:aw} {vs:List ai} {ss:List aY} {Pq:PySem.Fin->av->Prop}
def WL(c:Cq P w fs H s0 s)(J:s.heap.get? kS=aa (cb cr #[] 0))(na:s.heap.get? a=aa (cb cr #[] e1))(o:kS≠a)(r:H kS=ar/\s0.heap.get? kS=ar)(G:H a=ar/\s0.heap.get? a=ar)(L:kS∉fs)(M:a∉fs)
(N:ss.length=vs.length)(O:vs.length<64)
(turn:∀(i:Nat) (v:ai) (k:aY) (s1:av),vs[i]?=aa v->ss[i]?=aa k->Cq P w fs H s0 s1->wpAny (model P w) A (call f [v]) (λu s2=>(∃t,u=.str k t)/\Cq P w fs H s1 s2) (λ_ _=>False) s1)
(Q:∀b out m,Cq P w fs H s0 b->b.heap.get? a=aa (cb cr out m)->HP ss vs out.toList->Pq (.done (.ret .none)) b):
  wpAny (model P w) A (ksk_rest a f au vs.toArray e1 (.ref kS)) Pq E s:=by
 refine ae (ah0 ?_);rw[<-Array.forIn_toList];refine ae (ksk_fold (λi b=>∃kA e,Cq P w fs H s0 b/\b.heap.get? kS=aa (cb cr kA e)/\b.heap.get? a=aa _/\cW kA.toList (ss.take i)) vs 0 s ⟨#[],0,c,J,na,by simpa using cW.nil⟩ ?step ?done);case step=>
  rintro j x b I ⟨kA,e,m,g,h,n⟩
  simp only [bQ] at n |-;have hj:=(ak.mp I).1;obtain⟨k,p⟩:∃k,ss[j]?=aa k:=⟨_,ax (by exact N▸hj)⟩;have hz:=by have z:=n.length;rw[bZ,dM] at z;omega
  refine ae (aii (cm (turn j x k b I p m) (λv s2 T=>?_) λ_ _ z=>z.elim));obtain⟨⟨t,rfl⟩,y⟩:=T;have q:=y.at g r.1 L;have B:=y.at h G.1 M;have b1:=cI s2.heap kS (bX (·.push (.str k t)));obtain⟨e2,C⟩:∃e2,(s2.heap.update kS (bX _)).get? kS=aa _:=⟨_,fD q (·.push _)⟩;have U:ss.take (j+1)=ss.take j++[k]:=by rw[List.take_add_one,p];rfl
  refine ae (dR q rfl ?_ (by rw[bp];omega) (bG (gB (Array.size_push ..)) (by rw[bp];omega)));refine ay ⟨rfl,kA.push _,e2,(m.trans y).other b1 r.1 r.2,C,(b1.2 a o.symm).trans B,?_⟩;rw[U,Array.toList_push];exact Ew n
 case done=>
  rintro b ⟨kA,e,m,g,h,n⟩
  rw[fF (by exact bG (gB N) (Nat.le_add_left _ _))] at n;refine ae (aiY g rfl ?_);exact aby m g h o r G n N O λh' tk out Y q1 q2 q3=>Q _ out Y q1 q2 q3
def WM(c:Cq P w fs H s0 s)(h:s.heap.get? a=aa (cb cr vs.toArray n))(j:H a=ar/\s0.heap.get? a=ar)(r:a∉fs)(x:∀b∈fs,b<s0.heap.objs.size)(m:s0.heap.objs.size<=a)(y:ss.length=vs.length)(B:vs.length<64)
(turn:∀(i:Nat) (v:ai) (k:aY) (s1:av),vs[i]?=aa v->ss[i]?=aa k->Cq P w fs H s0 s1->wpAny (model P w) A (call f [v]) (λu s2=>(∃t,u=.str k t)/\Cq P w fs H s1 s2) (λ_ _=>False) s1)
(C:∀p out G,Cq P w fs H s0 p->p.heap.get? a=aa (cb cr out G)->HP ss vs out.toList->Pq (.done (.ret .none)) p):
  wpAny (model P w) A (ksk_tree a f au) Pq E s:=by
 have ha:=aM h;have b1:=cI s.heap a (bX λ_=>(#[]));obtain⟨e1,g⟩:∃e1,(s.heap.update a _).get? a=aa (cb cr #[] e1):=⟨_,fD h λ_=>#[]⟩;have c1:Cq P w fs H s0 {s with heap:=s.heap.update a _,toks:=s.toks}:=c.other b1 j.1 j.2;have e:((s.heap.update a (bX λ_=>(#[]))).push (cb ej vs.toArray 0)).objs.size=s.heap.objs.size+1:=by rw[ah1,ah7]
 have I:Cq P w fs H s0 {s with heap:=((s.heap.update a _).push (cb ej vs.toArray 0)).push (cb cr #[] 0),toks:=s.toks}:=c1.kept λb o q=>aj _ (aj _ q);have lt:=Nat.lt_succ_of_le (bG m (dF ha));refine ae (aiY h rfl ?_);refine ae (dR h rfl ?_ (by rw[aR,bp];exact bG (dF B) (Nat.le_add_left _ _)) (bD _));refine ae (gE g rfl ?_);refine ae (aiD ?_ (by show vs.length<=_;rw[bp];exact bG (dF B) (Nat.le_add_left _ _)));refine ae (fu ?_ (bD _));refine bR ?_;refine WL
  I (aP _ rfl) (aj _ (aj _ g)) (by rw[e];exact dh (cV ha)) ⟨?_,?_⟩ j ?_ r y B turn C
 .rw[e];exact c1.iO.fresh (by rw[ah7];exact cw _)
 .rw[e];exact cE (dF lt)
 .rw[e];exactλz=>absurd (x _ z) (Nat.not_lt.mpr (dF lt))
def K5(r:fR s.gens)(j:rK P w H s.heap)(n:∀b∈fs,b<s.heap.objs.size)(x:s.heap.IsList l vs.toArray)(y:ss.length=vs.length)(B:vs.length<64)
(turn:∀(i:Nat) (v:ai) (k:aY) (s1:av),vs[i]?=aa v->ss[i]?=aa k->Cq P w fs H s s1->wpAny (model P w) A.in1.in1 (call (.ref q) [v]) (λu s2=>(∃t,u=.str k t)/\Cq P w fs H s1 s2) (λ_ _=>False) s1)
(C:∀p c out g,Cq P w fs H s c->s.heap.objs.size<=p->c.heap.get? p=aa (cb cr out g)->HP ss vs out.toList->Q (.ref p) c):
  wpAny (model P w) A (call (.builtin hD) [.ref l] [(aij "key",.ref q)]) Q E s:=by
 refine call_function_entry_kw ai4 aiW aiX (ksk_s1 _ _) ?_;unfold bM.«sorted»;refine ae (m:=checkCount hD 1 1 _) (ay ?_);refine ae (ajx x ?_ (by rw[bp];exact bG (dF B) (Nat.le_add_left _ _)));refine ae (fu ?_ (by rw[bp];exact bG (dF B) (Nat.le_add_left _ _)));have h:((s.heap.push (cb cr #[] 0)).update s.heap.objs.size (bX (·++vs.toArray))).objs.size=s.heap.objs.size+1:=by rw[ah7,ah1]
 have e:(((s.heap.push (cb cr #[] 0)).update s.heap.objs.size (bX (·++vs.toArray))).push (cb cr vs.toArray 0)).get? (s.heap.objs.size+1)=aa (cb cr vs.toArray 0):=by rw[<-h];exact aP _ rfl
 have keep:∀b o,s.heap.get? b=aa o->(((s.heap.push (cb cr #[] 0)).update s.heap.objs.size (bX (·++vs.toArray))).push (cb cr vs.toArray 0)).get? b=aa o:=λb o z=>by have lt:b<s.heap.objs.size:=aM z;rw[gX _ _ _ (by rw[h];exact bd (cV lt)),gy _ _ _ _ (bd lt),gX _ _ _ (bd lt)];exact z
 rw[h];have c1:Cq P w fs H s {s with heap:=((s.heap.push (cb cr #[] 0)).update s.heap.objs.size (bX (·++vs.toArray))).push (cb cr vs.toArray 0),toks:=s.toks}:=(Cq.refl r j).kept keep;refine ae (bR (wpAny_call_entry_kw aiE ⟨_,e,rfl⟩ aiA ?body (ksk_l1 _ _)));case body=>
  rw[ksk_t1];refine WM c1 e ⟨j.fresh (cw _),cE (cw _)⟩ (λz=>absurd (n _ z) (Nat.not_lt.mpr (cw _))) n (cw _) y B turn λc out g G I J=>⟨_,rfl,?_⟩;exact ay ⟨_,rfl,C _ c out g G (cw _) I J⟩
end
open PySem.W
def SI(x:h.CodeRec (.ref c) q):jB P w H h c (xG c q):=by
 refine⟨x,?_,λf i ⟨b,o,a,t,e,g,r⟩ k=>?_⟩
 .obtain⟨b,o,a,t,e,g,r⟩:=x;cases e;exact⟨o,g⟩
 .cases e;exact⟨c,o,a,t,rfl,k _ g,r⟩
def Pd(x:jB P w H h c (xG c q)):h.CodeRec (.ref c) q:=x.1
def FL(e:x=.int i t)(m:y=.int j u)(l:List ai)(h:gv l):gv (l++[x,y,c]):=by
 subst e m
 fun_induction gv l with
 |case1=>simp[gv]
 |case2 a b d f g r n=>simpa[gv] using n h
 |case3=>exact h.elim
def K6(l:List ai)(h:gv l)(e:air pos (l++[.int i t,.int j u,c])=aa v):air pos l=aa v\/v=c:=by
 fun_induction gv l with
 |case1=>
  simp only [eA,air] at e;split at e
  .cases e;exact .inr rfl
  .cases e
 |case2 a b d f g r m=>
  simp only [eU,air] at e |-;split at e
  .rename_i hc;rw[if_pos hc];exact .inl e
  .rename_i hc;rw[if_neg hc];exact m h e
 |case3=>exact h.elim
structure WN(cq:aC)(mg:aY->Option ai)(cd:ai)(c P:aw):Prop where
 cd:cd=.ref c
 hd:CodeHd cq c P
 bl:cq.BuiltinsAt mg P
 gP:bf≠P
def Ey{h a:aC}(x:h.BuiltinsAt mg P)(k:∀b o,h.get? b=aa o->a.get? b=aa o):a.BuiltinsAt mg P:=
 let⟨c,ob,b1,b2,b3,b4,b5,e⟩:=x;⟨c,ob,b1,b2,b3,b4,k _ _ b5,e⟩
section
variable {X:Cx} {s:av}
def WO(I:Inv X cc σ H s)(m:H P=aa (.xt ps))(h:aC.ExtBut P s.heap i)(hc:s.heap.objs.size<=a)(rc:i.CodeRec (.ref a) q)(ht:i.get? P=aa (tabObj (ps++more))):
  Un X.fs [] H (upd (upd H a (xG a q)) P (.xt (ps++more))) s.heap i/\rK X.prog X.w (upd (upd H a (xG a q)) P (.xt (ps++more))) i:=by
 have fc:=I.iO.fresh hc;have p:∀{b:aw},H b=ar->b≠P:=λe z=>by rw[z,m] at e;cases e
 have v:∀{b:aw} {o:cB},s.heap.get? b=aa o->b≠a:=λe=>bd (bw (aM e) hc);have nt:∀{b:aw} {o:HO},H b=aa o->(∀ps,o≠.xt ps)->b≠P/\b≠a:=λ{b o} e n=>⟨λz=>by rw[z,m] at e;exact n ps (bF e).symm,λz=>by rw[z,fc] at e;cases e⟩;refine⟨⟨λb o e n _ _=>h b o (p n) e,λb o e n _ _=>⟨o.slots,h b o (p n) e⟩,λb o e n _=>?_,λb o e _=>?_,λb xs e=>?_,λb o u e=>?_,λb x e=>?_⟩,λb o e=>?_⟩
 .rw[hZ (p n),hZ (v e)];exact n
 .by_cases z:b=P
  .exact⟨_,z▸ht⟩
  .exact⟨o,h b o z e⟩
 .obtain⟨f,g⟩:=nt e (λ_ z=>by cases z);rw[hZ f,hZ g];exact e
 .obtain⟨f,g⟩:=nt e (λ_ z=>by cases z);rw[hZ f,hZ g];exact e
 .by_cases z:b=P
  .subst z;rw[m] at e;cases e;exact⟨more,il⟩
  .have j:b≠a:=λz=>by rw[z,fc] at e;cases e
   exact⟨#[],by rw[hZ z,hZ j,e];simp⟩
 .by_cases z:b=P
  .subst z;rw[il] at e;cases e;exact ht
  .rw[hZ z] at e;by_cases j:b=a
   .subst j;rw[il] at e;cases e;exact SI rc
   .rw[hZ j] at e;refine(I.iO b o e).tQ (λr u hb q=>h r u ?_ q) (λr q=>?_) (λr xs q=>?_)
    .rcases hb with rfl|hb
     .exact z
     .exact(nt hb (λ_ z=>by cases z)).1
    .obtain⟨f,g⟩:=nt q (λ_ z=>by cases z);rw[hZ f,hZ g];exact q
    .obtain⟨f,g⟩:=nt q (λ_ z=>by cases z);rw[hZ f,hZ g];exact q
def SJ(L:WN X.cq X.mg X.env.code c P)(I:Inv X cc σ H s)(j:H P=aa (.xt ps))(g:MK (X.env.qual++hY) H ps)(x:aiO scope X.env=pure [])(G:ajM params X.env=([],[]))
(y:∀f a pm h n p,Inv X cc σ n p->s.heap.objs.size<=f->n f=ar->p.heap.get? f=aa (kla_obj hY (X.env.qual++hY) params body scope [] pm a h)->n a=aa (xG a (X.env.qual++hY))->tI P (X.env.qual++hY) H n->Q (.ref f) p):
  wpAny (model X.prog X.w) A (eval (.Lambda params body scope pos) X.env) Q E s:=by
 have B:=(I.iO P _ j);refine kla_eval G ?_;cases e:air pos _ with
 |none=>
  refine kla_makeFunction x I.ok.glob (I.mod.glob.keeps I.bk) L.cd (L.hd.keeps I.bk) B g.ok e L.gP (Ey L.bl I.bk) λa h m tk J hc lt rc ht=>?_;obtain⟨M,C⟩:=WO I j J hc rc ht;have I1:=I.un (t':=tk) M C;have fc:=I.iO.fresh hc;have r:a≠P:=λz=>by rw[z,j] at fc;cases fc
  have u:=I1.kept (t':=tk) (h':=m.push (kla_obj hY (X.env.qual++hY) params body scope [] ((X.mg me).getD .none) a h)) λb o e=>aj _ e;refine y _ a _ h _ _ u (bG hc (dF lt)) (C.fresh (aD _)) (aP _ rfl) (by rw[hZ r,il]) ⟨⟨_,il,?_,λN v i=>?_⟩,.inr ⟨a,_,fc,r,rfl⟩⟩
  .rw[Array.toList_append];exact FL rfl rfl _ g.ok
  .rw[Array.toList_append] at i;rcases K6 _ g.ok i with i|i
   .obtain⟨O,e2,e3⟩:=g.cs N v i;refine⟨O,e2,?_⟩;rw[hZ (λz=>by rw[z,j] at e3;cases e3),hZ (λz=>by rw[z,fc] at e3;cases e3)];exact e3
   .exact⟨a,i,by rw[hZ r,il]⟩
 |some v=>
  obtain⟨a,e2,e3⟩:=g.cs pos v e;refine kla_makeFunctionHit x I.ok.glob (I.mod.glob.keeps I.bk) L.cd (L.hd.keeps I.bk) B g.ok e (Ey L.bl I.bk) λh m tk k sz=>?_;subst e2;have I1:=I.kept (t':=tk) k;have u:=I1.kept (t':=tk) (h':=m.push (kla_obj hY (X.env.qual++hY) params body scope [] ((X.mg me).getD .none) a h)) λb o e=>aj _ e;exact y _ a _ h H _ u sz (I1.iO.fresh (aD _)) (aP _ rfl) e3 ⟨⟨ps,j,g⟩,.inl rfl⟩
end
section
variable {K:af} {A:bH} {s:av} {scope:dj} {t:TE} {k:Nat}
def SK(g:Ba P w K mg cq A cv s H)(h:jd (k+1) A)(p:s.heap.get? f=aa (kla_obj hY qual params body scope [] pm c Ka))(rc:s.heap.CodeRec (.ref c) qual)(S:jP [x] [x] scope)
(hb:∀u,dI (kla_fn hY qual params body scope [] pm (.ref c) Ka) ⟨[u],[]⟩=pure [(x,u)])(B:RelV v u)
(C:jd k (A.deeper (dZ qual scope s.heap.objs.size f (.ref c)))->PE (qZ rW P w K mg cq [x] qual scope f (.ref c) A cv s H E0).DY body t)(q:t [aa v] H Q):
  codeAny (model P w) A (.call (.ref f) ⟨[u],[]⟩) (λr i=>∃a,r=.ok (.ret a)/\CE cv P w H s Q a i) s:=by
 have j:=g.mod.nolimit.keeps λb o e=>(g.bs b o e).1;have E:∀y∈[(x,u)],scope.names.lookup y.1=aa .local\/(scope.names.lookup y.1=aa .cell/\((ajl (s.heap.objs.size+1) _ []).lookup y.1).isSome=ag):=λy G=>by
  rw[bj.mp G];rcases S.par x (by simp) with z|z
  .exact .inl z
  .exact .inr ⟨z,W.cellsFrom_some _ _ _ (.inl z)⟩
 refine kla_callFunE h.depth p rfl S.co S.gen rfl rc ?_;rw[hb u];refine ay (aja S.kind E λenv L s1 z=>?_);subst L;refine⟨j.keeps z.toInCall.keep,kla_codeExpr ?_⟩;have I:Inv (qZ rW P w K mg cq [x] qual scope f (.ref c) A cv s H E0) [] _ H s1:=Ea S h.hd g rfl (.cons B .nil) z;refine cm ((C (h.deeper _)).DY [] s1 _ H Q I q) (λa i m=>?_) λe i m=>?_
 .obtain⟨M,N,J,n,O⟩:=m;exact⟨a,rfl,M,N,J.os,J.bare,J.cq,J.iO,n,O⟩
 .refine cm m (λ_ _ z=>(z).elim) (λ_ _ z=>(z).elim)
end
section
variable {K:af}
def m4 (K:af)(H:Hp):List V->List aY->Prop
 |[],[]=>True
 |y::b,k::c=>(∃a zs,y=.ref a/\wj K H a (.str k::zs))/\m4 K H b c
 |_,_=>False
theorem m4.length:∀{a:List V} {b:List aY},m4 K H a b->a.length=b.length
 |[],[],_=>rfl
 |[],_::_,h=>h.elim
 |_::_,[],h=>h.elim
 |_::a,_::b,h=>by rw[aU,aU,m4.length h.2]
theorem m4.get:∀{b:List V} {c:List aY} {i:Nat} {y:V} {k:aY},m4 K H b c->b[i]?=aa y->c[i]?=aa k->∃a zs,y=.ref a/\wj K H a (.str k::zs)
 |[],[],i,y,k,_,e,_=>by simp at e
 |[],_::_,_,_,_,h,_,_=>h.elim
 |_::_,[],_,_,_,h,_,_=>h.elim
 |y::b,k::c,0,_,_,h,e,g=>by simp at e g;subst e g;exact h.1
 |y::b,k::c,i+1,_,_,h,e,g=>m4.get h.2 (by simpa using e) (by simpa using g)
def tI.keep(t:tI P q H H')(f:∃a,H P=aa (.xt a))(e:H b=aa o)(n:∀a,o≠.xt a):H' b=aa o:=by
 obtain⟨a,f⟩:=f;rcases t.2 with h|⟨c,g,hc,i,h⟩
 .rw[h];exact e
 .rw[h,hZ (λz=>by rw[z,f] at e;exact n a (bF e).symm),hZ (λz=>by rw[z,hc] at e;cases e)];exact e
def tI.sqL(t:tI P q H H')(b:∃c,H P=aa (.xt c))(h:l9 K H a xs):l9 K H' a xs:=by
 rcases h with(h|⟨o,h⟩)|h
 .exact .inl (.inl (t.keep b h (λ_ z=>by cases z)))
 .exact .inl (.inr ⟨o,t.keep b h (λ_ z=>by cases z)⟩)
 .exact .inr h
def tI.sqT(t:tI P q H H')(b:∃c,H P=aa (.xt c))(h:wj K H a xs):wj K H' a xs:=by
 rcases h with(h|⟨o,h⟩)|h
 .exact .inl (.inl (t.keep b h (λ_ z=>by cases z)))
 .exact .inl (.inr ⟨o,t.keep b h (λ_ z=>by cases z)⟩)
 .exact .inr h
theorem tI.keyed(t:tI P q H H')(f:∃g,H P=aa (.xt g)):∀{b:List V} {c:List aY},m4 K H b c->m4 K H' b c
 |[],[],_=>trivial
 |[],_::_,h=>h.elim
 |_::_,[],h=>h.elim
 |_::b,_::c,⟨⟨a,zs,e,h⟩,r⟩=>⟨⟨a,zs,e,t.sqT f h⟩,t.keyed f r⟩
noncomputable def kb{β:Type}(a:List aY)(b:List β):List β:=(L3.O0 aQ (a.zip b)).map dD
def KVs:List (aY×V)->List (aY×ai)->Prop:=Paired λp q=>p.1=q.1/\RelV p.2 q.2
theorem Nl(r:p.1=q.1/\RelV p.2 q.2):∀{l:List _} {m:List _},KVs l m->KVs (L3.uk aQ p l) (L3.uk aQ q m)
 |_,_,.nil=>.cons r .nil
 |_,_,.cons h t=>by
  unfold L3.uk;rw[r.1,h.1];split
  .exact .cons r (.cons h t)
  .exact .cons h (Nl r t)
theorem Nm:∀{l:List _} {m:List _},KVs l m->KVs (L3.O0 aQ l) (L3.O0 aQ m)
 |_,_,.nil=>.nil
 |_,_,.cons h t=>Nl h (Nm t)
theorem Nn:∀(a:List aY) {b:List V} {c:List ai},Vals b c->KVs (a.zip b) (a.zip c)
 |[],_,_,_=>.nil
 |_::_,_,_,.nil=>.nil
 |_::a,_,_,.cons r t=>.cons ⟨rfl,r⟩ (Nn a t)
theorem Np:∀{l:List _} {m:List _},KVs l m->Vals (l.map dD) (m.map dD)
 |_,_,.nil=>.nil
 |_,_,.cons h t=>.cons h.2 (Np t)
def BL(r:Vals b c):Vals (kb a b) (kb a c):=Np (Nm (Nn a r))
def zW{β:Type}{c:List aY}{g:List β}(nd:c.Nodup):∀a∈c.zip g,∀b∈c.zip g,a.1=b.1->a=b:=by intro a ha b hb e;obtain⟨i,hi⟩:=cN.mp ha;obtain⟨j,f⟩:=cN.mp hb;have h:=cK.mp hi;have m:=cK.mp f;have lt:=(ak.mp h.1).1;have:i=j:=(fE lt nd).mp (h.1.trans (by rw[m.1,e]));subst this;rw[hi] at f;exact bF f
def HQ(nd:a.Nodup)(h:HP a b out):out=kb a b:=by obtain⟨g,c,e,f⟩:=h;rw[e,L3.FC c f (zW nd)];rfl
end
section
variable {X:Cx} {k:Nat}
def abz (K:af)(P:aw)(q:aY)(te:TE):TE:=λσ H Q=>te σ H λv H1=>∃a b f h,v=.ref a/\l9 K H1 a b/\m4 K H1 b f/\f.Nodup/\b.length<64/\H1 P=aa (.xt h)/\MK q H1 h/\
 ∀g l,tI P q H1 g->g l=ar->Q (.ref l) (upd g l (.lst (kb f b)))
def SM(L:WN X.cq X.mg X.env.code c P)(hr:jd (k+4) X.A)(ms:X.mg hD=ar)(he:PE X e te)(S:jP [x] [x] scope)(hd:(x==(fk:aY))=au)(C7:(x==(tK:aY))=au)(hv:Yv scope x)
(QD:aiO scope X.env=pure [])(Qx:ajM params X.env=([],[]))
(hb:∀pm c O u,dI (kla_fn hY (X.env.qual++hY) params (.Subscript (.Name x np) (.Constant (.int 0) j cp) sp) scope [] pm (.ref c) O) ⟨[u],[]⟩=pure [(x,u)])(gs:Gl X hD:=by rfl)
(T:bg [e] X.env=[(au,eval e X.env)]:=by rfl)
(U:fM [⟨aa "key",.Lambda params (.Subscript (.Name x np) (.Constant (.int 0) j cp) sp) scope FM,Ku⟩] X.env=[(aa (aij "key"),eval (.Lambda params (.Subscript (.Name x np) (.Constant (.int 0) j cp) sp) scope FM) X.env)]:=by rfl):
  PE X (.Call (.Name hD p) [e] [⟨aa "key",.Lambda params (.Subscript (.Name x np) (.Constant (.int 0) j cp) sp) scope FM,Ku⟩] pos) (abz X.K P (X.env.qual++hY) te):=by
 intro cc s σ H Q I h;refine cR (rO I gs ms (u:=.builtin hD) (by rfl) ?_ (by decide) (by decide));have hA:(aiT pos (fM [⟨aa "key",.Lambda params (.Subscript (.Name x np) (.Constant (.int 0) j cp) sp) scope FM,Ku⟩] X.env)).all (·.1.isSome)=ag:=by rw[U];rfl
 refine callWith_builtin_kwB (by rw[T];rfl) (by rw[U];rfl) (evalArgs_kw2 hA ?_ T);rw[T,U];refine Calls.spliced_cons (j4 (he cc s σ H _ I h) λu s1 ⟨v,H1,I1,rv,a,B,C,N,ev,hq,hk,nd,HK,hP,gt,q⟩=>Calls.spliced_nil ?_);subst ev;cases rv;show wpAny _ _ (evalAll [(do let v<-eval (.Lambda params (.Subscript (.Name x np) (.Constant (.int 0) j cp) sp) scope FM) X.env;ajO pos;pure v)]) _ _ s1;refine wpAny_evalAll_cons (ae (SJ L I1 hP gt QD Qx λf Y pm O g s2 m fz fn fo rc tt=>ae (aih (ay (wpAny_evalAll_nil ?_)))));show wpAny (model X.prog X.w) X.A (call (.builtin hD) ([]++[bE a]) [(aij "key",.ref f)]) _ _ s2;have J:∃N,H1 P=aa (.xt N):=⟨N,hP⟩;obtain⟨iq,r',pl,hz⟩:=m.list (tt.sqL J hq);have je:=r'.length;have kl:=hk.length;have ff1:∀b∈rJ X.stack,b<s1.heap.objs.size:=λb z=>by
  rcases aH.mp (I1.rN b z) with z|z
  .rw[z];exact I1.lt
  .exact Nat.lt_of_not_le λy=>I1.ZZ y z
 have ff:∀b∈rJ X.stack,b<s2.heap.objs.size:=λb z=>by
  rcases aH.mp (m.rN b z) with z|z
  .rw[z];exact m.lt
  .exact Nat.lt_of_not_le λy=>m.ZZ y z
 refine K5 (fs:=rJ X.stack) (H:=g) (ss:=C) m.bare m.iO ff pl.isList (by exact kl▸je) (by exact je▸HK) (λi v key s3 M hk3 E=>?_) (λp s' out c'' G pz hp ho=>?_)
 .have hI:Inv X cc σ g s3:=m.A5 E.os E.un E.iO E.bare (λb z=>absurd z (by simp));obtain⟨y,hy,ry⟩:∃y,B[i]?=aa y/\RelV y v:=by
   have li:i<B.length:=by have:=(ak.mp M).1;exact je▸this
   obtain⟨u3,e3,r3⟩:=r'.get (ax li);rw[M] at e3;cases e3;exact⟨_,ax li,r3⟩
  obtain⟨ya,zs,ey,hy2⟩:=(tt.keyed J hk).get hy hk3;subst ey;cases ry;have fo3:=E.at fo fn λz=>absurd (ff1 _ z) (Nat.not_lt.mpr fz);have rc3:s3.heap.CodeRec (.ref Y) (X.env.qual++hY):=Pd (E.iO Y _ rc);refine fH (dm (SK (k:=k) (t:=tOp (adU X.K) (QQ 0) (tC (.int 0))) (Q:=λv H'=>v=.str key/\H'=g) (A:=X.A.in1.in1) (cv:=X.stack) hI.VB.in1.in1 (jd.mono (hr.in1.in1) (by exact cw _)) fo3 rc3 S (λu=>hb pm Y O u) (v:=.ref ya) rfl (λ_=>?_) ?_) λr s4 hr4=>?_)
  .exact YM Rp (Ke (i:=0) rfl hv hd C7) QR (λ_ _=>rfl)
  .exact⟨.ref ya,rfl,ya,_,0,.str key,rfl,rfl,hy2,by unfold C8 U5;simp,rfl,rfl⟩
  .obtain⟨u',rfl,v',H',os,bare,un,iO,rv',e1,e2⟩:=hr4;subst e1 e2;exact⟨rv',⟨os,bare,iO,un⟩⟩
 .have fp:g p=ar:=m.iO.fresh pz;have lz:(kb C B).length<=aO:=by
   have z:(kb C B).length=(C.zip B).length:=by unfold kb;rw[ao];exact(L3.pq _ _).length_eq
   rw[z,cJ,bp];lia
  have eo:=HQ nd ho;have ne:∀{b:aw} {u:HO},g b=aa u->b≠p:=λe z=>by rw[z,fp] at e;cases e
  have un:Un (rJ X.stack) [] g (upd g p (.lst (kb C B))) s2.heap s'.heap:=⟨G.un.keep,G.un.slot,λb o e n hx=>by rw[hZ (bd (bw (aM e) pz))];exact n,G.un.there,λb xs e=>by rw[hZ (ne e)];exact e,λb o u e=>by rw[hZ (ne e)];exact e,λb N e=>⟨#[],by rw[hZ (ne e),e];simp⟩⟩;have iO:rK X.prog X.w (upd g p (.lst (kb C B))) s'.heap:=λb o e=>by
   by_cases z:b=p
   .subst z;rw[il] at e;cases e;exact⟨lz,out.toList,c'',by rw[eo];exact BL r',by rw[Array.toArray_toList];exact hp⟩
   .rw[hZ z] at e;exact(G.iO b o e).tQ (λ_ _ _ q=>q) (λb' q=>by rw[hZ (ne q)];exact q) λb' xs q=>by rw[hZ (ne q)];exact q
  exact⟨.ref p,_,m.A5 G.os un iO G.bare (λb z=>absurd z (by simp)),rfl,q g p tt fp⟩
end
end L2
namespace L3
open L2
def aeJ{K:af}(t:Tb K H)(e:W.tabIn K gc=aa (c,P))(tt:tI P (aaM gc) H a):Tb K a:=λx b f g e'=>by
 have ex:=by simpa[V4] using b
 subst ex;rw[e] at e';cases e';exact tt.1
def Pe(tt:tI P q H c)(f:∃a,H P=aa (.xt a)):BD H c:=λb o e v=>tt.keep f e λa z=>by rw[z] at v;cases v
section
variable {K:af}
def wG:List D->List aY->Prop
 |[],[]=>True
 |x::xs,k::a=>(∃ds,x=.tup (.str k::ds))/\wG xs a
 |_,_=>False
theorem wH(e:jC H f):∀{xs:List D} {c:List aY} {b:List V},wG xs c->hW K α H xs b->m4 K f b c
 |[],[],b,_,r=>by subst r;trivial
 |[],_::_,_,h,_=>h.elim
 |_::_,[],_,h,_=>h.elim
 |x::xs,k::c,b,⟨⟨ds,ex⟩,h⟩,r=>by subst ex;obtain⟨v,n,rfl,z,y⟩:=r;obtain⟨a,ws,rfl,g,i⟩:=z;obtain⟨u,j,rfl,m,_⟩:=i;subst m;exact⟨⟨a,j,rfl,lX e g⟩,wH e h y⟩
theorem Ez(r:Rep K α H x v):∀{a:List aY} {xs:List D} {b:List V},hW K α H xs b->a.length=xs.length->∃(c:List aY) (f:List D) (m:List V),uk aQ (k,x) (a.zip xs)=c.zip f/\uk aQ (k,v) (a.zip b)=c.zip m/\c.length=f.length/\hW K α H f m
 |[],xs,b,h,l=>by
  have e:xs=[]:=by cases xs<;>simp_all
  exact⟨[k],[x],[v],rfl,rfl,rfl,hW.one r⟩
 |k'::a,[],b,h,l=>by simp at l
 |k'::a,y::xs,b,h,l=>by
  obtain⟨u,n,rfl,z,t⟩:=h;rw[cQ,cQ];unfold uk;by_cases e:yH k k'=ag
  .rw[if_pos e,if_pos e];exact⟨k::k'::a,x::y::xs,v::u::n,rfl,rfl,by simpa using l,hW.cons r (hW.cons z t)⟩
  .rw[if_neg e,if_neg e];obtain⟨g,i,j,o,p,q,s⟩:=Ez r t (by simpa using l);exact⟨k'::g,y::i,u::j,by rw[o];rfl,by rw[p];rfl,by simpa using q,hW.cons z s⟩
theorem HR:∀{a:List aY} {xs:List D} {b:List V},hW K α H xs b->a.length=xs.length->∃(c:List aY) (f:List D) (g:List V),O0 aQ (a.zip xs)=c.zip f/\O0 aQ (a.zip b)=c.zip g/\c.length=f.length/\hW K α H f g
 |[],xs,b,h,l=>by
  have e:xs=[]:=by cases xs<;>simp_all
  exact⟨[],[],[],rfl,rfl,rfl,hW.nil⟩
 |k'::a,[],b,h,l=>by simp at l
 |k::a,y::xs,b,h,l=>by obtain⟨u,r,rfl,z,t⟩:=h;rw[cQ,cQ];unfold O0;obtain⟨i,j,m,n,o,p,q⟩:=HR t (by simpa using l);rw[n,o];exact Ez z q p
def BM(h:hW K α H xs c)(l:a.length=xs.length):hW K α H (kb a xs) (kb a c):=by obtain⟨e,f,g,i,j,m,b⟩:=HR h l;have n:=hW.length _ _ b;unfold kb;rw[i,j,fQ (by lia),fQ (by lia)];exact b
theorem wI:∀{xs:List D} {a:List aY},wG xs a->xs.length=a.length
 |[],[],_=>rfl
 |[],_::_,h=>h.elim
 |_::_,[],h=>h.elim
 |_::xs,_::a,h=>by rw[aU,aU,wI h.2]
end
section
variable {X:Cx} {k:Nat}
def SN (te:DE):DF:=λb M Q=>te b M λd M1=>∃xs a,vw M1 d=.lst xs/\wG xs a/\a.Nodup/\xs.length<64/\Q (.lst (kb a xs)) M1
structure aeK(X:Cx):Prop where
 ex:∃c P,W.tabIn X.K gc=aa (c,P)/\WN X.cq X.mg X.env.code c P
 q:X.env.qual++hY=aaM gc
def SO(L:aeK X)(C:jd (k+4) X.A)(ms:X.mg hD=ar)(g:JE X e te)(S:jP [x] [x] scope)(hd:(x==(fk:aY))=au:=by decide)(E:(x==(tK:aY))=au:=by decide)(G:Yv scope x:=by first|exact ah3 rfl|exact gQ (ah3 rfl))
(I:aiO scope X.env=pure []:=by rfl)(J:ajM params X.env=([],[]):=by rfl)
(hb:∀pm c N u,dI (W.kla_fn hY (X.env.qual++hY) params (.Subscript (.Name x np) (.Constant (.int 0) j cp) sp) scope [] pm (.ref c) N) ⟨[u],[]⟩=pure [(x,u)]:=by intros;rfl)(gs:Gl X hD:=by rfl)
(O:bg [e] X.env=[(au,eval e X.env)]:=by rfl)
(T:fM [⟨aa "key",.Lambda params (.Subscript (.Name x np) (.Constant (.int 0) j cp) sp) scope FM,Ku⟩] X.env=[(aa (aij "key"),eval (.Lambda params (.Subscript (.Name x np) (.Constant (.int 0) j cp) sp) scope FM) X.env)]:=by rfl):
  JF X (.Call (.Name hD p) [e] [⟨aa "key",.Lambda params (.Subscript (.Name x np) (.Constant (.int 0) j cp) sp) scope FM,Ku⟩] pos) (SN te):=by
 obtain⟨c,P,ht,U⟩:=L.ex;refine⟨λb M A B w q=>g.mono b _ _ _ (λd M1 q=>?_) q,PE.weak (SM U C ms g.p S hd E G I J hb gs O T) λσ H Q q=>?_⟩
 .obtain⟨xs,h,i,f,m,s,q⟩:=q;exact⟨xs,h,i,f,m,s,w _ _ q⟩
 .obtain⟨F,α,b,M,r,q⟩:=q;refine⟨F,α,b,M,r,g.mono b _ _ _ (λd M1 q v Y H1 e1 o1 r1=>?_) q⟩;obtain⟨xs,h,i,f,m,s,q⟩:=q;obtain⟨a,vs,rfl,sq,n⟩:=jh o1 r1 i;obtain⟨y,z,hg⟩:=o1.tb _ (by simp[V4]) c P ht;have hl:=hW.length _ _ n;refine⟨a,vs,h,y,rfl,l9.of sq,wH ip f n,m,by exact hl▸s,z,by rw[L.q];exact hg,λH2 l tt o=>?_⟩;rw[L.q] at tt;obtain⟨o2,e2⟩:=o1.Za (Pe tt ⟨y,z⟩) (aeJ o1.tb ht tt);exact q l _ Y H2 (e1.trans e2) o2 o ⟨_,rfl,BM (e2.Bk n) (wI f).symm⟩
end
structure BN(K:af)(mg:aY->Option ai)(cq:aC):Prop where
 QM:K.In cq
 glob:cq.Ns bf mg
 tab:∃c P,W.tabIn K gc=aa (c,P)/\W.CodeHd cq c P/\cq.BuiltinsAt mg P/\bf≠P
def aeL (K:af)(mg:aY->Option ai)(cq:aC)(iQ:ai):Prop:=∃c P,W.tabIn K gc=aa (c,P)/\WN cq mg iQ c P
section
variable {K:af}
def aeM{st:cZ}(F:ig K mg gc st)(a:BN K mg cq)(e:iZ st=body)(es:iE st=scope)(S:jP N b scope)
(hb:∀(kV doc pm:ai) (an:Option aw) (iQ ct:ai) (us:List ai),us.length=b.length->dI (dy gc gc (jT st) (iZ st) (iE st) .none kV doc pm an iQ ct) ⟨us,[]⟩=pure (b.zip us))
(g:∀(f:aw) (iQ:ai) (A:bH) (cv:List aie) (s:av) (H:Hp) (E:XK),aeL K mg cq iQ->jd k (A.deeper (dZ gc scope s.heap.objs.size f iQ))->C9 (qZ rW P w K mg cq N gc scope f iQ A cv s H E).DY body tb):
  lW P w K mg cq (k+1) gc b (kC K (cl (j8 N.length b.length tb))):=by obtain⟨f,fd,F,m⟩:=F;obtain⟨c,i,ht,hd,bl,gP⟩:=a.tab;refine⟨f,fd,m,F.kp,F.binds hb,?_⟩;obtain⟨oc,od,kV,doc,pm,an,iQ,ct,Ot,rfl,lk,j⟩:=F.ex;have ec:=W.law_code a.QM a.glob ht m (a.QM _ _ lk) rfl;subst e es;refine Rb lk j S (λn H Q E zq=>by obtain⟨F,α,M,ds,o,r,hn,u,q⟩:=zq;rw[<-hW.length _ _ r];exact u) λA cv s H n Q E v h=>?_;obtain⟨t,q,z⟩:=KN (g f iQ A cv s H E ⟨c,i,ht,ec,hd,bl,gP⟩ v) rfl h;exact⟨t,q.p.DY,z⟩
def ahg(h:aeL K mg cq iQ):aeK (qZ rW P w K mg cq N gc scope f iQ A cv s H E).DY:=⟨h,rfl⟩
end
def aeN{K:af}(h:W.noTabs K=ag)(e:K.lookup a=aa (W.tabObj c)):False:=by have b:=bT.mp h (a,_) (W.mem_of_lookupK e);exact absurd (b) aS
def Pf{P:bc}{w:bJ}{K:af}{mg N:aY->Option ai}{k:Nat}{O a c T:aw}{fd:dY}{x:aY}{sp:Sp}{f:av}{B:List ai}{ns:List Int}
(Q:K.In f.heap)(A:f.heap.Ns bf mg)(hb:f.heap.Ns ajG N)(U:∀x:aY,x≠me->N x=bS x)(Y:f.heap.NoLimit)(hg:f.gens=#[])
(ha:f.heap.get? a=aa {cls:=.type cr,data:=.seq B.toArray})(hi:ajt B ns)(hl:ns.length<=aO)(hr:jd k aiV)
(ht:W.tabIn K gc=aa (c,T))(nt:W.noTabs K=ag)(p:f.heap.get? T=aa (W.tabObj #[]))(hd:W.CodeHd f.heap c T)(bl:f.heap.BuiltinsAt mg T)(ct:isCodeTable f.heap T)
(F:∀cq:aC,BN K mg cq->j9 P w K mg cq rW k O fd [x] sp)(aeO:∀(s:av) (u:ai),aiS s fd ⟨[u],[]⟩ [(x,u)])
(U1:∀H:Hp,Tb K H->l9 K H a (ns.map V.int)->sp [.ref a] H (λv _=>v=.bl ag) λ_ _ _=>False):
  codeAny (model P w) aiV (.call (.ref O) ⟨[.ref a],[]⟩) (λr g=>r=.ok (.ret (.bool ag))/\OldK f.heap g.heap/\g.os=f.os/\fR g.gens) f:=by
 have rv:=Ef hi;have ahi:=hi.length;have aT:a≠T:=λz=>by rw[z,p] at ha;cases ha
 have kT:K.lookup T=ar:=by
  cases e:K.lookup T with
  |none=>rfl
  |some o=>have:=Q _ _ e;rw[p] at this;cases this;exact(aeN nt e).elim
 have G:∀H:Hp,H T=aa (.xt #[])->(∀b,b≠T->H b=ar\/∃o xs,H b=aa (.om o (.lst xs)))->l9 K H a (ns.map V.int)->rK P w H f.heap->(∀b,H b≠ar->b=a\/b=T)->(H a≠ar->K.lookup a=ar)->
   codeAny (model P w) aiV (.call (.ref O) ⟨[.ref a],[]⟩) (λr g=>r=.ok (.ret (.bool ag))/\OldK f.heap g.heap/\g.os=f.os/\fR g.gens) f:=by
  intro H Ve hO hS iO hA hK;have L:∀{b:aw} {o:cB},f.heap.get? b=aa o->H b=ar->(A2 f.heap H).get? b=aa o:=λe n=>QL e n;have free:∀{b:aw} {o:cB},f.heap.get? b=aa o->o.cls≠.none->(b=a->False)->H b=ar:=λ{b o} e hc na=>by
   cases q:H b with
   |none=>rfl
   |some u=>
    rcases hA b (by rw[q];simp) with z|z
    .exact(na z).elim
    .subst z;rw[p] at e;cases e;exact absurd rfl hc
  have noA:∀{b:aw} {o:cB} {es:Array DictEntry} {C:Nat},f.heap.get? b=aa o->o.data=.dict es C->H b=ar:=λ{b o es C} e d=>by
   cases q:H b with
   |none=>rfl
   |some u=>
    rcases hA b (by rw[q];simp) with z|z
    .subst z;rw[ha] at e;cases e;cases(show Data.seq B.toArray _=Data.dict es C from d)
    .subst z;rw[p] at e;cases e;cases d
  have i:∀{b:aw} {m:aY->Option ai},f.heap.Ns b m->(A2 f.heap H).Ns b m:=λ{b m} ⟨o,es,C,e,d,r⟩=>⟨o,es,C,L e (noA e d),d,r⟩;have I:K.In (A2 f.heap H):=λb o e=>L (Q b o e) (by
   cases q:H b with
   |none=>rfl
   |some u=>
    rcases hA b (by rw[q];simp) with z|z
    .subst z;rw[hK (by rw[q];simp)] at e;cases e
    .subst z;rw[kT] at e;cases e)
  have hM:Mod K mg (A2 f.heap H):=⟨I,i A,⟨N,i hb,U⟩,let⟨mc,h1,h2⟩:=Y;⟨mc,i h1,h2⟩⟩;have e0:Ba P w K mg (A2 f.heap H) aiV [] f H:=⟨rfl,hM,λb o e=>Vm e,gB (Og _ _),trivial,λb hb=>absurd (show b∈([]:List aw) from hb) (by simp),iO,.of_eq hg⟩;have hdB:W.CodeHd (A2 f.heap H) c T:=by obtain⟨o,Zc,file,tf,aeQ,tg,inF,text,tt,e,r1,r⟩:=hd;exact⟨o,Zc,file,tf,aeQ,tg,inF,text,tt,L e (free e (by rw[r1];simp) (λz=>by subst z;rw[ha] at e;cases e;exact absurd r1 (show¬c8 cr=c8 "code" by decide))),r1,r⟩
  have blB:(A2 f.heap H).BuiltinsAt mg T:=by obtain⟨bm,ob,b1,b2,b3,b4,b5,b6,b7⟩:=bl;exact⟨bm,ob,b1,b2,b3,b4,L b5 (free b5 (by rw[b6];simp) (λz=>by subst z;rw[ha] at b5;cases b5;exact absurd b6 (show¬c8 cr=c8 "module" by decide))),b6,b7⟩
  have gT:bf≠T:=λz=>by obtain⟨o,es,C,e,d,_⟩:=A;rw[z,p] at e;cases e;cases d
  have tb:Tb K H:=λy hy c' T' e'=>by
   have ey:y=gc:=by simpa[V4] using hy
   subst ey;rw[ht] at e';cases e';exact⟨#[],Ve,by simp[gv],λpos v hv=>by simp[air] at hv⟩
  refine dm ((F _ ⟨I,i A,c,T,ht,hdB,blB,gT⟩).run aiV [] f H ⟨[.ref a],[]⟩ [.ref a] [.ref a] _ _ hr e0 (aeO f (.ref a)) (.cons rfl .nil) (U1 H tb hS)) λr g h=>?_;cases r with
  |error e=>exact(show False from h).elim
  |ok fl=>
   cases fl with
   |next=>exact cu h
   |brk=>exact cu h
   |cont=>exact cu h
   |ret u=>
    obtain⟨v,H',os,bare,un,WP,r',q⟩:=h;have q':v=.bl ag:=q;subst q';obtain rfl:u=ai.bool ag:=r';have M:∃more,g.heap.get? T=aa (W.tabObj more):=by obtain⟨more,z⟩:=un.qX T _ Ve;exact⟨#[]++more,(show jB P w H' g.heap T (.xt _) from WP T _ z)⟩
    have keep:∀b o,b≠T->f.heap.get? b=aa o->g.heap.get? b=aa o:=λb o E e=>by
     rcases hO b E with z|⟨ob,xs,z⟩
     .exact un.keep b o e z (by intro z;exact absurd (show b∈([]:List aw) from z) (by simp)) (by simp)
     .have z2:=un.p5 b ob _ z;obtain⟨e1,_⟩:=iO b _ z;obtain⟨e2,_⟩:=WP b _ z2;rw[e] at e1;cases e1;exact e2
    obtain⟨more,M⟩:=M;refine⟨rfl,⟨λb o e=>?_,λb o e=>?_⟩,os,bare⟩
    .by_cases z:b=T
     .subst z;rw[p] at e;cases e;exact .inr (.inl ⟨ct,rfl,#[],more,rfl,by rw[Array.empty_append];exact M⟩)
     .exact .inl (keep b o z e)
    .by_cases z:b=T
     .exact⟨_,z▸M⟩
     .exact⟨o,keep b o z e⟩
 cases hk:K.lookup a with
 |some o=>
  have e:=Q a o hk;rw[ha] at e;cases e;refine G (λb=>if b=T then aa (.xt #[]) else ar) (if_pos rfl) (λb E=>.inl (if_neg E)) (.inr ⟨_,B.toArray,_,hk,rfl,rfl,rfl,by rw[aR,ahi];exact hl,by simpa using rv⟩) (λb u z=>?_) (λb z=>?_) λz=>absurd (if_neg aT) z
  .by_cases hb:b=T
   .subst hb;have j:=(if_pos rfl).symm.trans z;cases j;exact p
   .have j:=(if_neg hb).symm.trans z;cases j
  .by_cases hb:b=T
   .exact .inr hb
   .exact absurd (if_neg hb) z
 |none=>
  refine G (λb=>if b=T then aa (.xt #[]) else if b=a then aa _ else ar) (if_pos rfl) (λb E=>?_) (.inl (.inr ⟨{cls:=.type cr,data:=.seq B.toArray},by show(if a=T then _ else if a=a then _ else _)=_;rw[if_neg aT,if_pos rfl]⟩)) (λb u z=>?_) (λb z=>?_) λ_=>hk
  .by_cases hb:b=a
   .exact .inr ⟨_,_,by show(if b=T then _ else if b=a then _ else _)=_;rw[if_neg E,if_pos hb]⟩
   .exact .inl (by show(if b=T then _ else if b=a then _ else _)=_;rw[if_neg E,if_neg hb])
  .by_cases J:b=T
   .subst J;have j:=(if_pos rfl).symm.trans z;cases j;exact p
   .have z1:=(if_neg J).symm.trans z;by_cases hb:b=a
    .have j:=(if_pos hb).symm.trans z1;cases j;subst hb;exact⟨ha,by rw[ao];exact hl,B,_,rv,ha⟩
    .have j:=(if_neg hb).symm.trans z1;cases j
  .by_cases J:b=T
   .exact .inr J
   .by_cases hb:b=a
    .exact .inl hb
    .exact absurd (by show(if b=T then _ else if b=a then _ else _)=_;rw[if_neg J,if_neg hb]) z
def aeR{l:W.OpenLaw}{k:Nat}{q:bc}{K:Params->af}{g:GP}{x:aY}(hn:l.most=aa 63)(I:d.params.defaults=[])(J:jd k aiV)
(L:∀(w:bJ) (h:aC),M w h->(K w.params).In h)(abA:(recsOf q).find? (λe=>e.name==(gc:aY))=aa d2)(ht:∀w:bJ,(W.tabIn (K w.params) gc).isSome=ag)(nt:∀w:bJ,W.noTabs (K w.params)=ag)
(j:i9 g)(N:∀ns:List Int,ns.length<=63->g [.p6 ns] λd=>d=.bl ag)
(F:∀(w:bJ) (mg:aY->Option ai) (i:aw) (h:aC),(K w.params).In h->h.Ns bf mg->mg d.name=aa (.ref i)->
   ∃fd:dY,(∀(s:av) (u:ai),aiS s fd ⟨[u],[]⟩ [(x,u)])/\∀cq:aC,BN (K w.params) mg cq->j9 l.prog w (K w.params) mg cq rW k i fd [x] (kC (K w.params) (cl g))):
  W.WalkO q YN XP M l.row.toRowW d [] (λf B=>PySem.call f B):=by
 refine Att.Hk hn I λw iA O mg mb i o pm cd doc a B ns G Y ho hd C7 m n Q C U=>?_;have p:=L w _ Y;obtain⟨fd,hb,hF⟩:=F w mg i _ p G.T.g m;obtain⟨⟨c,T⟩,E⟩:=cY.mp (ht w);obtain⟨hc,y⟩:=W.tab_of G.T p abA E;have bl:O.heap.BuiltinsAt mg T:=by
  obtain⟨bm,ob,b1,b2,b3,b4,b5,A⟩:=G.T.bmain;refine⟨bm,ob,b1,b2,λz=>?_,λz=>?_,b3,b4,b5,A⟩
  .obtain⟨o',es,ep,e,dd,_⟩:=G.T.g;rw[z,e] at b3;cases b3;rw[dd] at A;cases A
  .rw[z,y] at b3;cases b3;cases b4
 refine Pf p G.T.g G.T.b G.T.builtins G.T.nolimit U n Q (bG C (by decide)) J E (nt w) y hc bl (hc.tab y).isCodeTable hF hb λH tb hS=>?_;refine⟨[],[],[],[.p6 ns],Su tb,hW.one ?_,rfl,j _ _ _ (λdd e v iB H' _ _ r=>?_) (N ns C)⟩
 .refine⟨a,rfl,?_⟩;exact BF BE hS
 .subst e;exact r
end L3
namespace L2
theorem xP(f:Nat->Int):∀n,ajh f (n+1)=f 0+ajh (λi=>f (i+1)) n
 |0=>by simp[ajh]
 |n+1=>by have a:=xP f n;show ajh f (n+1)+f (n+1)=f 0+(ajh (λi=>f (i+1)) n+f (n+1));lia
theorem zX:∀(f:Nat->Int) (l:List Int),(∀i,i<l.length->f i=l.getD i 0)->ajh f l.length=l.sum
 |f,[],_=>rfl
 |f,x::l,h=>by rw[aU,xP,zX (λi=>f (i+1)) l λi hi=>(by have:=h (i+1) (by simp;exact hi);simpa using this),h 0 (by simp)];rfl
section
variable {X:Cx}
def Pg(hc:X.calm=ag):lV X (.builtin "sum") (λxs H Q=>∃(a:aw) (ns:List Int),xs=[V.ref a]/\l9 X.K H a (ns.map V.int)/\Q (.int ns.sum) H):=by
 intro cc s σ H xs us Q I r h;obtain⟨a,ns,rfl,E,q⟩:=h;obtain⟨u,rfl,g⟩:=vals1 r;cases g;obtain⟨iq,w,p,Y⟩:=I.list E;have G:X.A.in1.handled=ar:=I.ok.hd hc;have x:a<s.heap.objs.size:=by obtain⟨o,n,e,_⟩:=p;exact aM e
 have J:=by have:=w.length;rw[ao] at this;exact this.symm
 refine call_sum_walkAnyS (dL p.isList ?_);refine⟨s.heap.objs.size,_,_,_,_,_,_,λi=>ns.getD i 0,rfl,(aiR.list G s.heap.objs.size a (bd x) iq.toArray).toS,⟨⟨_,aP _ rfl,rfl,rfl⟩,p.isList.push _⟩,λb hb=>?_,λi v c=>?_,λL B f=>?_⟩
 .rw[ci];simp only [aH,bU,or_false] at hb;rcases hb with rfl|rfl
  .exact eW _
  .exact cV x
 .have c:iq[i]?=aa v:=by simpa using c
  have hi:i<iq.length:=(ak.mp c).1;have hb:(ns.map V.int)[i]?=aa (V.int (ns.getD i 0)):=by rw[bh,bv,ax (by exact J▸hi)];rfl
  obtain⟨u,C,g⟩:=w.get hb;rw[c] at C;cases C;exact g
 .have e:ajh (λi=>ns.getD i 0) iq.toArray.size=ns.sum:=by rw[aR,J];exact zX _ _ λi _=>rfl
  rw[e];have k:=λb o z=>f.heap b o (λy=>by rw[bj.mp y] at z;exact absurd (aM z) (cC _)) (aj _ z);obtain⟨h',M,N,j,m⟩:=L;have O:M=s.gens:=f.gens;have T:N=s.drawn:=f.drawn;have U:m=s.os:=f.os;subst O T U;exact⟨.int ns.sum,H,I.kept (t':=j) k,⟨B,rfl⟩,q⟩
end
end L2
namespace L3
open L2
section
variable {X:Cx}
def K7:GN:=λds M Q=>match ds with
 |[d]=>∃ns:List Int,vw M d=.lst (ns.map .int)/\Q (.int ns.sum) M
 |_=>False
theorem EA{K:af}:∀{ss:List Int} {a:List V},hW K α H (ss.map D.int) a->a=ss.map V.int
 |[],a,h=>by exact h
 |x::ss,a,h=>by obtain⟨v,r,rfl,z,y⟩:=h;rw[z,EA y];rfl
def abB(hc:X.calm=ag:=by rfl):JB X (.builtin "sum") K7:=by
 refine⟨λds M P Q w q=>?_,λcc s σ H xs us Q I rs h=>?_⟩
 .match ds,q with
  |[d],⟨ns,b,q⟩=>exact⟨ns,b,w _ _ q⟩
 .obtain⟨F,α,M,ds,o,c,h⟩:=h;match ds,h,c with
  |[d],⟨ns,b,q⟩,c=>
   obtain⟨v,e,f⟩:=mq c;subst e;obtain⟨a,j,rfl,g,i⟩:=jh o f b;have e2:=EA i;subst e2;exact Pg hc cc s σ H _ us Q I rs ⟨a,ns,rfl,l9.of g,vK.now o q i8⟩
end
end L3
namespace L2
end L2
namespace L3
open L2
end L3
end
namespace L2
open PySem PySem.W PyProof.Rows
def kG {β:Type}(n:Nat)(f:Nat->Nat->Bool):KasT β->(β->Prop)->Prop
 |.ret a,Q=>Q a
 |.ask i j k,Q=>i<n/\j<n/\i≠j/\kG n f (k (f i j)) Q
theorem vy{Q:m->Prop}:∀t:KasT β,kG n f t (λa=>kG n f (g a) Q)->kG n f (t.bind g) Q
 |.ret _,h=>h
 |.ask i j k,⟨b,c,e,h⟩=>⟨b,c,e,vy _ h⟩
theorem se{Q R:β->Prop}(w:∀a,Q a->R a):∀t:KasT β,kG n f t Q->kG n f t R
 |.ret _,h=>w _ h
 |.ask i j k,⟨b,c,e,h⟩=>⟨b,c,e,se w _ h⟩
theorem Zd{J:av->Prop}{R:β->av->Prop}
(hc:∀i j (C:Bool->av->Prop) s,i<n->j<n->i≠j->J s->(∀b,J b->C (f i j) b)->c i j C s)(m:∀a s,Q a->J s->R a s):∀(t:KasT β) (s:av),J s->kG n f t Q->t.kasWp c R s
 |.ret a,s,e,h=>m a s h e
 |.ask i j k,s,e,⟨o,p,q,h⟩=>hc i j _ s o p q e λb g=>Zd hc m _ b g h
section
variable {p:Array Nat}
structure Ord(n:Nat)(f:Nat->Nat->Bool):Prop where
 tr:∀i j k,f i j=ag->f j k=ag->f i k=ag
 tot:∀i j,i<n->j<n->i≠j->f i j=au->f j i=ag
structure Row(n:Nat)(p:Array Nat):Prop where
 sz:p.size=n
 pm:p.toList.Perm (cx n)
abbrev sf(p:Array Nat)(i:Nat):Nat:=p.getD i 0
def K8(h:i<p.size):p[i]?=aa (sf p i):=by simp[h]
def Nt(h:p[i]?=q[j]?):sf p i=sf q j:=by unfold sf;rw[Array.getD_eq_getD_getElem?,Array.getD_eq_getD_getElem?,h]
def Row.lt(r:Row n p)(h:i<n):sf p i<n:=by
 have e:=K8 (by rw[r.sz];exact h);have m:sf p i∈p.toList:=by rw[Array.mem_toList_iff];exact Array.mem_of_getElem? e
 exact gF.mp (r.pm.mem_iff.mp m)
def Row.ne(r:Row n p)(hi:i<n)(a:j<n)(h:i≠j):sf p i≠sf p j:=λe=>by have nd:=r.pm.nodup_iff.mpr List.nodup_range;have e1:=K8 (by rw[r.sz];exact hi);have e2:=K8 (by rw[r.sz];exact a);rw[e] at e1;rw[<-cj] at e1 e2;exact h ((fE (by rw[bZ,r.sz];exact hi) nd).mp (e1.trans e2.symm))
def Row.perm(r:Row n p)(h:q.Perm p):Row n q:=⟨h.size_eq.trans r.sz,h.toList.trans r.pm⟩
def At (f:Nat->Nat->Bool)(p:Array Nat)(m:Nat):Prop:=∀i j,i<j->j<m->f (sf p i) (sf p j)=ag
def HS (f:Nat->Nat->Bool)(p:Array Nat)(m:Nat):Prop:=∀i j,i<j->j<m->f (sf p j) (sf p i)=ag
def At.one:At f p 1:=λi j a b=>by lia
def At.snoc(o:Ord n f)(h:At f p m)(a:1<=m)(e:f (sf p (m- 1)) (sf p m)=ag):At f p (m+1):=λi j hi b=>by
 by_cases z:j<m
 .exact h i j hi z
 .have:j=m:=by exact Nat.le_antisymm (Nat.le_of_lt_succ b) (Nat.le_of_not_lt z)
  subst this;by_cases y:i=j- 1
  .rw[y];exact e
  .exact o.tr _ _ _ (h i (j- 1) (by lia) (by exact Nat.sub_lt_sub_left a (Nat.le_add_left _ _))) e
def HS.snoc(o:Ord n f)(h:HS f p m)(a:1<=m)(e:f (sf p m) (sf p (m- 1))=ag):HS f p (m+1):=λi j hi b=>by
 by_cases z:j<m
 .exact h i j hi z
 .have:j=m:=by exact Nat.le_antisymm (Nat.le_of_lt_succ b) (Nat.le_of_not_lt z)
  subst this;by_cases y:i=j- 1
  .rw[y];exact e
  .exact o.tr _ _ _ e (h i (j- 1) (by lia) (by exact Nat.sub_lt_sub_left a (Nat.le_add_left _ _)))
theorem K9(o:Ord n f)(r:Row n p):∀(u m:Nat),1<=m->m+u<=n->At f p m->kG n f (kas_asc p u m) λx=>m<=x/\x<=m+u/\At f p x
 |0,m,a,b,h=>⟨aD _,aD _,h⟩
 |u+1,m,a,b,h=>by
  refine⟨r.lt (by exact Nat.lt_of_add_right_lt b),r.lt (by lia),r.ne (by exact Nat.lt_of_add_right_lt b) (by lia) (by lia),?_⟩;cases c:f _ _ with
  |true=>exact⟨aD _,by exact Nat.le_add_right _ _,h⟩
  |false=>
   have e:=o.tot _ _ (r.lt (by exact Nat.lt_of_add_right_lt b)) (r.lt (by lia)) (r.ne (by exact Nat.lt_of_add_right_lt b) (by lia) (by lia)) c;exact se (λx g=>⟨by lia,by lia,g.2.2⟩) _ (K9 o r u (m+1) (by exact eM a) (by lia) (h.snoc o a e))
theorem Nu(o:Ord n f)(r:Row n p):∀(u m:Nat),1<=m->m+u<=n->HS f p m->kG n f (kas_desc u p m 0) λx=>x.1=p/\x.2.2=0/\m<=x.2.1/\x.2.1<=m+u/\HS f p x.2.1
 |0,m,b,g,h=>⟨rfl,rfl,aD _,aD _,h⟩
 |u+1,m,b,g,h=>by
  refine⟨r.lt (by exact Nat.lt_of_add_right_lt g),r.lt (by lia),r.ne (by exact Nat.lt_of_add_right_lt g) (by lia) (by lia),?_⟩;cases c:f _ _ with
  |true=>exact se (λx a=>⟨a.1,a.2.1,by lia,by lia,a.2.2.2.2⟩) _ (Nu o r u (m+1) (by exact eM b) (by lia) (h.snoc o b c))
  |false=>
   have e:=o.tot _ _ (r.lt (by exact Nat.lt_of_add_right_lt g)) (r.lt (by lia)) (r.ne (by exact Nat.lt_of_add_right_lt g) (by lia) (by lia)) c;refine⟨r.lt (by lia),r.lt (by exact Nat.lt_of_add_right_lt g),r.ne (by lia) (by exact Nat.lt_of_add_right_lt g) (by lia),?_⟩;rw[e];exact⟨rfl,rfl,aD _,Nat.le_add_right _ _,h⟩
def SQ(hm:m<=p.size)(a:k<m):sf (kas_rev p 0 m) k=sf p (m- 1- k):=by
 refine Nt ?_;unfold kas_rev;rw[getElem?_mirror hm _ (by lia)];split
 .rw[bQ]
 .have:k=m- 1- k:=by lia
  rw[<-this]
def WR(hm:m<=p.size)(h:HS f p m):At f (kas_rev p 0 m) m:=λi j hi a=>by rw[SQ hm (by exact gC hi a),SQ hm a];exact h _ _ (by lia) (by lia)
def WS(o:Ord n f)(r:Row n p)(b:1<=m)(c:m<=n)(h:HS f p m):kG n f (kas_tail3 m n p) λx=>1<=x.1/\x.1<=n/\Row n x.2/\At f x.2 x.1:=by have a:Row n (kas_rev p 0 m):=r.perm (mirror_perm _ _ _ _);refine vy _ (se (λx e=>?_) _ (K9 o a (n- m) m b (by lia) (WR (by rw[r.sz];exact c) h)));exact⟨by lia,by lia,a,e.2.2⟩
def WT(o:Ord n f)(r:Row n p)(b:2<=n)(e:f (sf p 1) (sf p 0)=ag):kG n f (kas_descPart 1 n p) λx=>1<=x.1/\x.1<=n/\Row n x.2/\At f x.2 x.1:=by
 have d:HS f p 2:=λi j hi c=>by
  obtain rfl:i=0:=by lia
  obtain rfl:j=1:=by exact Nat.le_antisymm (Nat.le_of_lt_succ c) hi
  exact e
 refine vy _ (se (λx a=>?_) _ (Nu o r (n- 2) 2 (by exact cw _) (by lia) d));obtain⟨q,m,z⟩:=x;obtain⟨e1,e2,e3,e4,e5⟩:=a;dsimp only at e1 e2 e3 e4 e5 |-;subst e1 e2;exact WS o r (by exact dF e3) (by lia) e5
def SR(o:Ord n f)(r:Row n p)(h:2<=n):kG n f (kas_count n p) λx=>1<=x.1/\x.1<=n/\Row n x.2/\At f x.2 x.1:=by
 have key:kG n f (kas_asc p (n- 1) 1) λx=>1<=x/\x<=n/\At f p x/\(x=1->f (sf p 1) (sf p 0)=ag):=by
  obtain⟨u,i⟩:∃u,n- 1=u+1:=⟨n- 2,by lia⟩;rw[i];refine⟨r.lt (by exact h),r.lt (by exact Nat.lt_of_succ_lt h),r.ne (by exact h) (by exact Nat.lt_of_succ_lt h) (by exact Nat.succ_ne_self _),?_⟩;cases c:f _ _ with
  |true=>exact⟨aD _,by exact dF h,At.one,λ_=>by first|rfl|exact c⟩
  |false=>
   have e:=o.tot _ _ (r.lt (by exact h)) (r.lt (by exact Nat.lt_of_succ_lt h)) (r.ne (by exact h) (by exact Nat.lt_of_succ_lt h) (by exact Nat.succ_ne_self _)) c;exact se (λx a=>⟨by lia,by lia,a.2.2,λz=>by lia⟩) _ (K9 o r u 2 (by exact cw _) (by lia) (At.one.snoc o (aD _) e))
 refine vy _ (se (λx a=>?_) _ key);obtain⟨b,g,ha,j⟩:=a;split
 .exact⟨b,g,r,ha⟩
 .split
  .refine⟨r.lt (by exact Nat.lt_of_succ_lt h),r.lt (by lia),r.ne (by exact Nat.lt_of_succ_lt h) (by lia) (by lia),?_⟩;rw[ha 0 (x- 1) (by lia) (by lia)];exact⟨b,g,r,ha⟩
  .obtain rfl:x=1:=by lia
   exact WT o r h (j rfl)
theorem BO(o:Ord n f)(r:Row n p)(a:k<n)(ha:At f p k):∀(u l h:Nat),l<=h->h<=k->h- l<=u->(∀i,i<l->f (sf p i) (sf p k)=ag)->(∀i,h<=i->i<k->f (sf p k) (sf p i)=ag)->
  kG n f (kas_place p k u l h) λx=>x<=k/\(∀i,i<x->f (sf p i) (sf p k)=ag)/\∀i,x<=i->i<k->f (sf p k) (sf p i)=ag
 |0,l,h,q,m,s,b,g=>⟨by exact bG q m,b,λi hi=>g i (by lia)⟩
 |u+1,l,h,q,m,s,b,g=>by
  unfold kas_place;split
  .exact⟨by lia,b,λi hi=>g i (by lia)⟩
  .refine⟨r.lt a,r.lt (by lia),r.ne a (by lia) (by lia),?_⟩;cases c:f _ _ with
   |true=>
    refine BO o r a ha u l _ (by lia) (by lia) (by lia) b λi hi j=>?_;by_cases z:i=(l+h)/2
    .rw[z];exact c
    .exact o.tr _ _ _ c (ha _ _ (by lia) j)
   |false=>
    have e:=o.tot _ _ (r.lt a) (r.lt (by lia)) (r.ne a (by lia) (by lia)) c;refine BO o r a ha u _ h (by lia) m (by lia) (λi hi=>?_) g;by_cases z:i=(l+h)/2
    .rw[z];exact e
    .exact o.tr _ _ _ (ha i _ (by lia) (by lia)) e
def WU(m:k<p.size)(u:x<=k)(ha:At f p k)(o:∀i,i<x->f (sf p i) (sf p k)=ag)(q:∀i,x<=i->i<k->f (sf p k) (sf p i)=ag):At f (bubble p k (k- x)) (k+1):=by
 have g:∀j,j<=k->sf _ j=if j=x then sf p k else if x<j then sf p (j- 1) else sf p j:=λj h=>by
  have e:=getElem?_bubble m (k- x) (by lia) j;have r:k- (k- x)=x:=by lia
  rw[r] at e;split at e
  .rename_i z;rw[if_pos z];exact Nt e
  .rename_i z;rw[if_neg z];split at e
   .rename_i y;rw[if_pos y.1];exact Nt e
   .rename_i y;rw[if_neg λs=>y ⟨s,h⟩];exact Nt e
 intro i j hi h;rw[g i (by exact bG (dF hi) (Nat.le_of_lt_succ h)),g j (by exact Nat.le_of_lt_succ h)];by_cases a:i=x
 .rw[if_pos a,if_neg (by exact dh (a▸hi)),if_pos (by exact a▸hi)];exact q _ (by lia) (by lia)
 .rw[if_neg a];by_cases b:x<i
  .rw[if_pos b,if_neg (by lia),if_pos (by exact gC b hi)];exact ha _ _ (by lia) (by lia)
  .rw[if_neg b];by_cases c:j=x
   .rw[if_pos c];exact o _ (by exact bw hi (gB c))
   .rw[if_neg c];by_cases d:x<j
    .rw[if_pos d];by_cases e:i=j- 1
     .omega
     .exact ha _ _ (by lia) (by lia)
    .rw[if_neg d];exact ha _ _ hi (by lia)
theorem SS(o:Ord n f):∀(u:Nat) (p:Array Nat) (k:Nat),Row n p->k+u=n->At f p k->kG n f (kas_bin u p k) λq=>Row n q/\At f q n
 |0,p,k,r,e,ha=>by
  obtain rfl:k=n:=by exact e
  exact⟨r,ha⟩
 |u+1,p,k,r,e,ha=>by refine vy _ (se (λx a=>?_) _ (BO o r (by exact d6 (Nat.le_add_right _ _) (gB e)) ha k 0 k (bD _) (aD _) (by lia) (λi hi=>by lia) (λi hi b=>by lia)));exact SS o u _ (k+1) (r.perm (bubble_perm _ _ _)) (by lia) (WU (by rw[r.sz];exact d6 (Nat.le_add_right _ _) (gB e)) a.1 ha a.2.1 a.2.2)
def WV(o:Ord n f)(b:2<=n):kG n f (kas_sort n) λq=>Row n q/\At f q n:=by
 have r:Row n (aic (cx n)):=⟨by simp,by simp⟩;refine vy _ (se (λx c=>?_) _ (SR o r b));obtain⟨m,q⟩:=x;obtain⟨e,g,a,ha⟩:=c;split
 .rw[show max m 1=m by lia];exact SS o (n- m) q m a (by lia) ha
 .obtain rfl:m=n:=by lia
  exact⟨a,ha⟩
end
open PySem.Spec
section
variable {s:av}
def SU (h:aC)(a:List ai)(b:List aY):Prop:=∃fs,KatTups h a fs/\cW fs b
theorem sg:∀{c fs:List ai},KatTups h c fs->(∀b o,h.get? b=aa o->o.cls=.type ej->f.get? b=aa o)->KatTups f c fs
 |[],[],_,_=>trivial
 |[],_::_,t,_=>t.elim
 |_::_,[],t,_=>t.elim
 |_::_,_::_,⟨⟨a,o,xs,n,e,g,hc,hd,i⟩,t⟩,k=>⟨⟨a,o,xs,n,e,k a o g hc,hc,hd,i⟩,sg t k⟩
theorem wJ:∀{b fs:List ai},KatTups h b fs->∀{i:Nat} {v:ai},b[i]?=aa v->∃a o xs n f,v=.ref a/\h.get? a=aa o/\o.data=.seq xs n/\xs[0]?=aa f/\fs[i]?=aa f
 |[],[],_,i,v,e=>by simp at e
 |[],_::_,t,_,_,_=>t.elim
 |_::_,[],t,_,_,_=>t.elim
 |_::_,f::_,⟨⟨a,o,xs,n,e,c,hc,hd,g⟩,t⟩,0,v,h=>by cases h;exact⟨a,o,xs,n,f,e,c,hd,g,rfl⟩
 |_::_,_::_,⟨_,t⟩,i+1,v,h=>by have:=wJ t (by simpa using h);simpa using this
theorem qd:∀{a fs:List ai},KatTups h a fs->a.length=fs.length
 |[],[],_=>rfl
 |[],_::_,t=>t.elim
 |_::_,[],t=>t.elim
 |_::_,_::_,⟨_,t⟩=>by rw[aU,aU,qd t]
theorem xQ:∀{fs:List ai} {a:List aY},cW fs a->∀{i:Nat} {f:ai},fs[i]?=aa f->∃k t,f=.str k t/\a[i]?=aa k
 |_,_,.nil,i,f,e=>by simp at e
 |_,_,.cons x t h,0,f,e=>by cases e;exact⟨x,t,rfl,rfl⟩
 |_,_,.cons x t h,i+1,f,e=>by have:=xQ h (by simpa using e);simpa using this
noncomputable def WW(a:List aY)(i j:Nat):Bool:=decide ((a.getD i "").cps.toList<(a.getD j "").cps.toList)
def WX(nd:a.Nodup):Ord a.length (WW a) where
 tr:=λi j k b c=>by exact decide_eq_true (List.lt_trans (of_decide_eq_true b) (of_decide_eq_true c))
 tot:=λi j hi f ne h=>by
  have h:=of_decide_eq_false h;refine decide_eq_true ?_;rcases List.le_iff_lt_or_eq.mp (gW.mp h) with z|z
  .exact z
  .refine absurd ?_ ne;have e:=L3.Nc z;rw[bv,bv,ax hi,ax f] at e;exact(eQ nd).mp e.symm
def WY(J:SU s.heap m g)(hi:i<m.length)(H:j<m.length)(nd:g.Nodup)(ne:i≠j)(h:C (WW g i j) s):kas_ask prog w A (tuples' ag) m i j C s:=by
 obtain⟨fs,t,st⟩:=J;have U:=qd t;have Y:=st.length;obtain⟨a,o,xs,n,f,e,L,hd,c,M⟩:=wJ t (ax hi);obtain⟨a',o',I,n',f',e',N,O,b,p⟩:=wJ t (ax H);obtain⟨k,tk,rfl,u⟩:=xQ st M;obtain⟨k',v,rfl,y⟩:=xQ st p;unfold kas_ask;rw[bv,bv,ax hi,ax H,e,e'];refine kat_lt L hd N O ?_;obtain⟨r,er⟩:∃r,xs.toList=.str k tk::r:=by
  rw[<-cj] at c;cases q:xs.toList with
  |nil=>rw[q] at c;simp at c
  |cons x r=>rw[q] at c;simp at c;exact⟨r,by rw[c]⟩
 obtain⟨r',B⟩:∃r,I.toList=.str k' v::r:=by
  rw[<-cj] at b;cases q:I.toList with
  |nil=>rw[q] at b;simp at b
  |cons x r=>rw[q] at b;simp at b;exact⟨r,by rw[b]⟩
 rw[er,B];have Q:¬k=k':=λz=>by
  subst z;have T:i<g.length:=by exact bw (U▸hi) (gB Y)
  have G:j<g.length:=by exact bw (U▸H) (gB Y)
  rw[ax T] at u;rw[ax G] at y;exact ne ((eQ nd).mp ((bF u).trans (bF y).symm))
 refine kat_cons (aj0 ?_);rw[decide_eq_false Q];refine oneLt_str ?_;have:WW g i j=decide (k.cps.toList<k'.cps.toList):=by unfold WW;rw[bv,bv,u,y,Option.getD_some,Option.getD_some]
 rw[<-this];exact h
def FN(t:KatTups s.heap a fs)(st:cW fs f)(b:0<fs.length)(h:Q (tuples' ag) s):wpAny (model prog w) A (keyKind' a.toArray) Q E s:=by
 refine kat_kind (T:=.type fx) t b (λv c=>?_) rfl ?_
 .obtain⟨i,hi,e⟩:=List.getElem_of_mem c;obtain⟨k,tk,e2,_⟩:=xQ st (by rw[ax hi,e]);subst e2;exact .now
 .exact h
def Dm(B:s.heap.get? a=aa (cb cr f.toArray n))(HK:f.length<64)(hh:SU s.heap f G)(nd:G.Nodup)
(jG:∀(m:aC) (e:Nat) (p:Array Nat),(∀b o,b≠a->s.heap.get? b=aa o->m.get? b=aa o)->Row f.length p->At (WW G) p f.length->m.get? a=aa (cb cr (p.toList.map λi=>f.getD i cL).toArray e)->P (.done (.ret .none)) {s with heap:=m}):
  wpAny (model prog w) A (bM.«list.sort» ⟨[.ref a],[]⟩) P E s:=by
 obtain⟨fs,t,st⟩:=hh;have l1:=qd t;have l2:=st.length;have s1:=cI s.heap a (bX λ_=>(#[]:Array ai));obtain⟨e1,y⟩:∃e1,(s.heap.update a (bX λ_=>(#[]:Array ai))).get? a=aa (cb cr #[] e1):=⟨_,fD B λ_=>#[]⟩;have L:∀b o,b≠a->s.heap.get? b=aa o->(((s.heap.update a (bX λ_=>(#[]:Array ai))).push (cb ej f.toArray 0)).push (cb cr #[] 0)).get? b=aa o:=λb o H q=>
  aj _ (aj _ ((s1.2 b H).trans q))
 have g:(((s.heap.update a (bX λ_=>(#[]:Array ai))).push (cb ej f.toArray 0)).push (cb cr #[] 0)).get? a=aa (cb cr #[] e1):=aj _ (aj _ y);have M:=sg t λb o q c=>L b o (λz=>by subst z;rw[B] at q;cases q;exact absurd (c8.inj c) (by decide)) q
 rw[aj8];refine ae (aiY B rfl ?_);refine ae (dR B rfl ?_ (by rw[aR,bp];exact bG (dF HK) (Nat.le_add_left _ _)) (bD _));refine ae (gE y rfl ?_);refine ae (aiD ?_ (by show f.length<=_;rw[bp];exact bG (dF HK) (Nat.le_add_left _ _)));refine ae (fu ?_ (bD _));refine bR ?_;dsimp only;generalize hh6:((s.heap.update a (bX λ_=>(#[]:Array ai))).push (cb ej f.toArray 0)).push (cb cr #[] 0)=u at L g M |-;have last:∀out:List ai,out.length<64->∃m e,(∀b o,b≠a->s.heap.get? b=aa o->m.get? b=aa o)/\m.get? a=aa (cb cr out.toArray e)/\m=u.update a (bX λ_=>out.toArray):=λout hz=>by have s2:=cI u a (bX λ_=>out.toArray);obtain⟨N,Rj⟩:∃N,(u.update a (bX λ_=>out.toArray)).get? a=aa (cb cr out.toArray N):=⟨_,fD g λ_=>out.toArray⟩;exact⟨_,N,λb o H q=>(s2.2 b H).trans (L b o H q),Rj,rfl⟩
 by_cases x:f.toArray.size<2
 .rw[if_pos x,if_pos x];rw[aR] at x;refine ae (ay ?_);rw[StateT.run_pure];refine ae (ay ?_);dsimp only;refine ae (gE g rfl ?_);have eo:=by show Array.map (·.2) (f.toArray.zip f.toArray)=f.toArray;simp;exact fQ (aD _)
  rw[eo];refine ae (dR g rfl ?_ (bD _) (by rw[aR,bp];exact bG (dF HK) (Nat.le_add_left _ _)));simp only [bne_self_eq_false,dX,if_false];obtain⟨m,e,O,T,U⟩:=last f (by exact HK);rw[<-U];refine ay (jG m e (cx f.length).toArray O ⟨by simp,by simp⟩ (λi j hi hj=>by lia) ?_);rw[T];congr 3;have:(cx f.length).map (λi=>f.getD i cL)=f:=by
   apply List.ext_getElem
   .simp
   .intro i h1 x;simp at h1;simp[h1]
  simpa using this.symm
 .rw[if_neg x,if_neg x];rw[aR] at x;refine ae (FN (s:={s with heap:=u}) M st (by lia) ?_);have o:=WX nd;rw[<-l2,<-l1] at o;have go:(kas_sort f.length).kasWp (kas_ask prog w A (tuples' ag) f) (λp v=>(Row f.length p/\At (WW G) p f.length)/\v={s with heap:=u}) {s with heap:=u}:=
   Zd (J:=λv=>v={s with heap:=u}) (λi j C v hi hj ne e hC=>by subst e;exact WY (s:={s with heap:=u}) ⟨fs,M,st⟩ hi hj nd ne (hC _ rfl)) (λp v h e=>⟨h,e⟩) _ _ rfl (WV o (by exact Nat.le_of_not_lt x))
  refine ae (cm (kat_run (Q:=λI v=>∃p:Array Nat,p.size=f.length/\ah2 I=p.map (kas_item (f.toArray.zip f.toArray))/\aje I=ar/\(Row f.length p/\At (WW G) p f.length)/\v={s with heap:=u})
   rfl (by exact Nat.le_of_not_lt x) HK (λp' I v a1 a2 a3 a4=>⟨p',a1,a2,a3,a4⟩) go) ?_ λ_ _ e=>e)
  rintro⟨⟨⟩,I⟩ v ⟨p,hp,Y,hf,⟨r,ha'⟩,rfl⟩
  dsimp only;have wy:=kat_snds rfl Y;have tH:(p.toList.map λi=>f.getD i cL).length=f.length:=by rw[ao,bZ,hp]
  rw[wy];obtain⟨m,e,O,T,U⟩:=last (p.toList.map λi=>f.getD i cL) (by exact tH▸HK);refine ae (gE g rfl ?_);refine ae (dR g rfl ?_ (bD _) (by rw[aR,tH,bp];lia));rw[hf];simp only [bne_self_eq_false,dX,if_false];rw[<-U];exact ay (jG m e p O r ha' T)
def La(u:s.heap.IsList l c.toArray)(v:c.length<64)(x:SU s.heap c j)(nd:j.Nodup)
(y:∀(f:aC) (D:aw) (e:Nat) (p:Array Nat),(∀b o,s.heap.get? b=aa o->f.get? b=aa o)->s.heap.objs.size<=D->Row c.length p->At (WW j) p c.length->f.get? D=aa (cb cr (p.toList.map λi=>c.getD i cL).toArray e)->Q (.ref D) {s with heap:=f}):
  wpAny (model prog w) A (call (.builtin hD) [.ref l]) Q E s:=by
 refine gN ai4 aiW aiX (ajv _) ?_;refine ae (ay ?_);refine ae (ajx u ?_ (by rw[bp];exact bG (dF v) (Nat.le_add_left _ _)));refine ae (fu ?_ (by rw[bp];exact bG (dF v) (Nat.le_add_left _ _)));have g:((s.heap.push (cb cr #[] 0)).update s.heap.objs.size (bX (·++c.toArray))).objs.size=s.heap.objs.size+1:=by rw[ah7,ah1]
 have m:(((s.heap.push (cb cr #[] 0)).update s.heap.objs.size (bX (·++c.toArray))).push (cb cr c.toArray 0)).get? (s.heap.objs.size+1)=aa (cb cr c.toArray 0):=by rw[<-g];exact aP _ rfl
 have keep:∀b o,s.heap.get? b=aa o->(((s.heap.push _).update _ _).push (cb cr c.toArray 0)).get? b=aa o:=λb o q=>by have h:=aM q;rw[gX _ _ _ (by rw[g];exact bd (cV h)),gy _ _ _ _ (bd h),gX _ _ _ (bd h)];exact q
 rw[g];refine ae (bR (cD aiE ⟨_,m,rfl⟩ aiA ?body (ajc _)));case body=>
  obtain⟨fs,t,st⟩:=x;refine Dm (s:={s with heap:=((s.heap.push _).update _ _).push _}) m v ⟨fs,sg t λb o q _=>keep b o q,st⟩ nd λf e p k r a q=>⟨_,rfl,ay ⟨_,rfl,?_⟩⟩;exact y f _ e p (λb o n=>k b o (λz=>absurd (aM n) (by rw[z];exact Nat.not_lt.mpr (cw _))) (keep b o n)) (cw _) r a q
end
section
variable {X:Cx}
def SV(n:b.length=a.length)(r:Row a.length p)(ha:At (WW b) p a.length):HP b a (p.toList.map λi=>a.getD i cL):=by
 have o:b.zip a=(cx a.length).map λi=>(b.getD i "",a.getD i cL):=by
  apply List.ext_getElem
  .simp[n]
  .intro i f m;simp at f m;have q:i<b.length:=by exact n▸m
   simp[f,m,ax q]
 refine⟨p.toList.map λi=>(b.getD i "",a.getD i cL),?_,by rw[bx];rfl,?_⟩
 .rw[o];exact r.pm.map _
 .rw[List.pairwise_map,eY];intro i j hi c s;rw[bZ,r.sz] at hi c;have h:=of_decide_eq_true (ha i j s c);have g:∀k (e:k<p.toList.length),sf p k=p.toList[k]:=λk e=>by rw[bZ] at e;simp[e]
  rw[g i (by rw[bZ,r.sz];exact hi),g j (by rw[bZ,r.sz];exact c)] at h;unfold L3.yH;rw[decide_eq_false (λz=>List.lt_irrefl _ (List.lt_trans h z))];rfl
theorem HU(I:Inv X cc σ H s):∀{b:List V} {c:List aY} {f:List ai},m4 X.K H b c->Vals b f->∃fs,KatTups s.heap f fs/\cW fs c
 |[],[],_,_,.nil=>⟨[],trivial,.nil⟩
 |[],_::_,_,h,_=>h.elim
 |_::_,[],_,h,_=>h.elim
 |_::b,k::c,_,⟨⟨a,zs,e,h⟩,r⟩,.cons g t=>by
  subst e;obtain⟨fs,i,j⟩:=HU I r t;obtain⟨iq,m,⟨o,p,hc,n,hd⟩,_⟩:=I.tuple h;cases m with
  |cons q _=>
   obtain⟨tk,rfl⟩:=q;obtain rfl:=(g);exact⟨_::fs,⟨⟨a,o,_,n,rfl,p,hc,hd,rfl⟩,i⟩,.cons k tk j⟩
def FQ:lV X (.builtin hD) (λxs H Q=>∃p a b,xs=[.ref p]/\l9 X.K H p a/\m4 X.K H a b/\b.Nodup/\a.length<64/\∀l,H l=ar->Q (.ref l) (upd H l (.lst (kb b a)))):=by
 intro cc s σ H xs us Q I r h;obtain⟨p,a,b,rfl,m,n,nd,A,q⟩:=h;obtain⟨u,rfl,o⟩:=vals1 r;cases o;obtain⟨iq,c,pl,_⟩:=I.list m;have B:=c.length;obtain⟨fs,f,g⟩:=HU I n c;have C:=qd f;have E:=g.length;refine La pl.isList (by exact B▸A) ⟨fs,f,g⟩ nd λv D e p kp i x ha j=>?_;rw[HQ nd (SV (by exact Eq.symm (E▸C)) x ha)] at j;have y:Vals (kb b a) _:=BL c;have z:(kb b a).length<=aO:=by unfold kb;rw[ao,(L3.pq _ _).length_eq,cJ];lia
 exact⟨.ref D,_,I.laid kp i (show jB X.prog X.w _ v _ (.lst _) from⟨z,kb b iq,e,y,j⟩),rfl,q D (I.iO.fresh i)⟩
end
end L2
section
open PySem PySem.Spec PyProof.Rows
namespace L3
open L2
def AR:GF:=λds M Q=>match ds with
 |[d]=>∃xs a,vw M d=.lst xs/\wG xs a/\a.Nodup/\xs.length<64/\Q (.lst (kb a xs)) M
 |_=>False
def Ph:JBF X (.builtin hD) AR:=by
 refine⟨λds M P Q w q=>?_,λcc s σ H xs us Q I rs h=>?_⟩
 .unfold AR at*;split at q
  .obtain⟨xs,c,e,b,f,i,q⟩:=q;exact⟨xs,c,e,b,f,i,w _ _ q⟩
  .exact q.elim
 .obtain⟨F,α,M,ds,o,j,h⟩:=h;unfold AR at h;split at h
  .obtain⟨xs,c,e,b,f,i,q⟩:=h;obtain⟨v,m,n⟩:=mq j;subst m;obtain⟨a,r,rfl,u,g⟩:=jh o n e;have y:=hW.length _ _ g;exact FQ cc s σ H _ us Q I rs ⟨a,r,c,rfl,l9.of u,wH ip b g,f,by exact y▸i,λp x=>q p _ α H Ext.refl o x ⟨_,rfl,BM g (wI b).symm⟩⟩
  .exact h.elim
end L3
namespace L2
noncomputable def Iti(a:aw)(o:cB)(b:List (Key×V)):It:=⟨λi H=>H a=aa (.om o (.dK b))/\i<b.length,
 λi H x c=>∃p k v,x=.ref p/\H p=ar/\b[i]?=aa (k,v)/\c=upd H p (.tup [kV k,v]),λi H=>H a=aa (.om o (.dK b))/\i=b.length⟩
def Ze(h:(iM P w).is k u=ag):RelV (kV k) u:=by
 cases k with
 |inl i=>
  have h:aip i u=ag:=h;cases u<;>first|(simp[aip] at h;done)|skip
  simp[aip] at h;subst h;exact⟨_,rfl⟩
 |inr x=>
  have h:d8 x u=ag:=h;cases u<;>first|(simp[d8] at h;done)|skip
  simp[d8] at h;subst h;exact⟨_,rfl⟩
def tnI (it a:aw)(o:cB)(n:Nat)(i:Nat)(h:aC):Prop:=∃es b ok c,o.data=.dict es b/\IsItemIter h it a i n b ok c
def Nv(r:KV a b){i:Nat}{k:Key}(h:a[i]?=aa (k,v)):∃u,b[i]?=aa (k,u)/\RelV v u:=by
 induction r generalizing i with
 |nil=>simp at h
 |@cons p q _ _ r _ c=>
  cases i with
  |zero=>
   simp at h;subst h;exact⟨q.2,by simp;exact Prod.ext r.1.symm rfl,r.2⟩
  |succ i=>
   obtain⟨u,e,f⟩:=c (by simpa using h);exact⟨u,by simpa using e,f⟩
def Lb{P:bc}{w:bJ}{K:af}{elts:List bI}{n:Nat}{pos:eB}(it a:aw)(o:cB)(f:List (Key×V)):Turn P w K (.Tuple elts n pos) (Iti a o f) [it] it (tnI it a o f.length) where
 mem:=by simp
 obj:=λi h st b hb=>by obtain⟨es,c,ok,g,_,e⟩:=st;cases bj.mp hb;exact⟨_,e,λv z=>by cases z⟩
 keep:=λi h U st k=>by obtain⟨es,c,ok,g,d,e⟩:=st;exact⟨es,c,ok,g,d,k it (by simp) _ e⟩
 item:=by intro X B hw C hc i cc s σ H E I y st G;subst B hw C;obtain⟨es,c,ok,g,d,e⟩:=st;obtain⟨J,hi⟩:=G;obtain⟨j,z,hd,vs,rel,ob,Mx,Yx,m,c1,r,L⟩:=(show jB X.prog X.w H s.heap a (.om o (.dK f)) from I.iO a _ J);rw[j] at m;cases m;rw[d] at r;cases r;obtain⟨⟨k,v⟩,Y⟩:∃p,f[i]?=aa p:=⟨_,ax hi⟩;obtain⟨u,hu,ru⟩:=Nv rel Y;rw[rel.length] at e;refine wpAny_pyNext_items_item (knd:=iM X.prog X.w) e ⟨o,es,j,c1,d,L⟩ hu λkey U hk wy hT hz M=>⟨.ref s.heap.objs.size,rfl,?_⟩;refine wpAny_letOwnedTupleGo_items wy λN Bh hs=>?_;have x:s.heap.objs.size≠it:=λz=>absurd (aM e) (by rw[<-z];exact cC _);have kk:∀b q,b∉[it]->s.heap.get? b=aa q->N.get? b=aa q:=λb q hb O=>(hs.2 b (λz=>hb (by simp[z]))).trans (M b q (λz=>hb (by simp[z])) O);have T:aiJ N s.heap.objs.size #[key,u]:=⟨_,(hs.2 _ x).trans hT,rfl,_,rfl⟩;have R8:H s.heap.objs.size=ar:=I.iO.fresh (aD _);have I2:Inv X cc σ (upd H s.heap.objs.size (.tup [kV k,v])) {s with heap:=N,toks:=s.toks}:=I.Ft [it] kk (λb hb=>y b hb) (aD _) (by show 2<=aO;decide) (iq:=[key,u]) (.cons (Ze hk) (.cons ru .nil)) T;refine⟨.ref s.heap.objs.size,_,I2,rfl,⟨_,k,v,rfl,R8,Y,rfl⟩,⟨es,c,_,_,d,by rw[rel.length];exact Bh⟩,λb hb=>?_⟩;rw[hZ λq=>x (by rw[<-q];exact bj.mp hb)];exact(y b hb).1
 done:=by intro X B hw C hc i cc s σ H E I y st G;subst B hw C;obtain⟨es,c,ok,g,d,e⟩:=st;obtain⟨J,rfl⟩:=G;obtain⟨j,z,hd,vs,rel,ob,Mx,Yx,m,c1,r,L⟩:=(show jB X.prog X.w H s.heap a (.om o (.dK f)) from I.iO a _ J);rw[j] at m;cases m;rw[d] at r;cases r;have Hm:X.A.handled=ar:=I.ok.hd hc;rw[rel.length] at e;refine wpAny_pyNext_items_end (knd:=iM X.prog X.w) Hm e ⟨o,es,j,c1,d,L⟩ (by simp) λU he=>⟨rfl,?_⟩;exact I.Fs (t':=s.toks) [it] (λb q hb O=>he b q (λz=>hb (by simp[z])) O) (λb hb=>y b hb)
 self:=λA i s Q E st h=>by obtain⟨es,c,ok,g,d,e⟩:=st;exact W.kcp_self e h
section
variable {X:Cx} {apos ka:eB}
def abC (X:Cx)(to:TE):TI:=λσ H R=>to σ H λx H1=>∃a b,x=.ref a/\
 ((H1 a=aa (.dK b)/\∀o,(∀o u,X.iH a≠aa (.om o u))->R (Iti a o b) (upd H1 a (.om o (.dK b))))\/∃o,H1 a=aa (.om o (.dK b))/\R (Iti a o b) H1)
def SW(L:PE X o to)(M:dP o "items" X.env (eval o X.env)=eval o X.env:=by rfl)(N:(apos.endLine==ka.line)=ag:=by rfl):
  PI X (.Tuple elts n xy) (.Call (.Attribute o "items" apos) [] [] ka) (abC X to):=by
 intro cc s σ H R I h;refine wpAny_Call_method0_late M N (j4 (L cc s σ H _ I h) λv s1 O=>?_);obtain⟨x,H1,I1,Q,a,c,e,q⟩:=O;subst e;obtain rfl:v=bE a:=Q;have key:∃f ob,f a=aa (.om ob (.dK c))/\Inv X cc σ f s1/\R (Iti a ob c) f:=by
  rcases q with⟨y,q⟩|⟨ob,y,q⟩
  .obtain⟨ob,g,i,T⟩:=I1.freeze y;exact⟨_,ob,il,i,q ob T⟩
  .exact⟨H1,ob,y,I1,q⟩
 obtain⟨f,ob,U,i,q⟩:=key;have A:=(show jB X.prog X.w f s1.heap a (.om ob (.dK c)) from i.iO a _ U);obtain⟨j,z,hd,r,rel,Y,es,m,C,c1,B,E⟩:=A;rw[j] at C;cases C;have p:s1.heap.DictOf (iM X.prog X.w) a r:=⟨ob,es,m,j,c1,B,E⟩;refine⟨fi,"dict.items",PySem.F.plainAttrs_dict,PySem.F.slot_dict_items,PySem.F.type_dict_items,⟨ob,j,c1.1⟩,λb e=>?_,Calls.callWith_builtin rfl (PySem.evalArgs_none ?_)⟩
 .cases e;exact⟨ob,j,c1.2.1⟩
 refine gS PySem.F.slot_dict_items p.typeIs PySem.F.entry_dict_items (PySem.F.args_dict_items_1 _) (meets_dict_items (iM X.prog X.w) a hd) ⟨⟨r,p⟩,?_⟩;have G:∀b u,s1.heap.get? b=aa u->(s1.heap.push {cls:=.type "dict_items",data:=.fields #[.ref a]}).get? b=aa u:=λb u e=>aj _ e;refine wpAny_pyIter_items (knd:=iM X.prog X.w) (d:=a) (kvs:=r) (ep:=m) ⟨_,aP _ rfl,rfl,rfl⟩ ⟨ob,es,G a ob j,c1,B,E⟩ ?_;have g2:∀b u,s1.heap.get? b=aa u->((s1.heap.push {cls:=.type "dict_items",data:=.fields #[.ref a]}).push {cls:=.type zl,data:=.fields #[.none,.bool au,.ref a,.int 0 0,.int r.length 0,.int m 0,.none,.none]}).get? b=aa u:=
  λb u e=>aj _ (G b u e)
 have J:s1.heap.objs.size<=(s1.heap.push {cls:=.type "dict_items",data:=.fields #[.ref a]}).objs.size:=by rw[ah1];exact cw _
 refine⟨_,[_],tnI _ a ob c.length,Iti a ob c,f,rfl,i.kept (t':=s1.toks) g2,Lb _ a ob c,⟨es,m,.none,.none,B,?_⟩,λb hb=>?_,q⟩
 .rw[rel.length];exact aP _ rfl
 .cases bj.mp hb;exact i.G9 J (i.iO.fresh J)
end
end L2
namespace L3
open L2
noncomputable def zY:Key->D
 |.inl i=>.int i
 |.inr x=>.str x
def Nw{K:af}(k:Key):Rep K α H (zY k) (kV k):=by cases k<;>(unfold zY;rfl)
noncomputable def qf(a:List Key)(ds:List D):List D:=c7 (λk d=>.tup [zY k,d]) a ds
section
variable {X:Cx}
def HV{M1:Ms}(j:jo F e M1 H1 a=aa (.om ob (.dK (b.zip c))))(L:b.length=ds.length)(m:hW X.K e (jo F e M1 H1) ds c):
  Wg X.K F e H1 M1 (Iti a ob (b.zip c)) (qf b ds) (λ_=>True):=by
 have lv:=hW.length _ _ m;have A:(qf b ds).length=ds.length:=by unfold qf;rw[gw];lia
 have B:(b.zip c).length=(qf b ds).length:=by rw[cJ,A];lia
 refine⟨λi n q r u p s o _ hi=>⟨(iG (s a _ j)).2,by exact B▸hi⟩,λi n q r u x M d C s o _ hd y=>?_,λn q r u p s o _=>⟨(iG (s a _ j)).2,B.symm⟩⟩;obtain⟨p,k,v,rfl,w,f,rfl⟩:=y;have z:=cK.mp f;have E:=z.2;have G:=z.1;obtain⟨H,h,I⟩:=hW.get' ds c i v m E;have J:=by
  have g:(qf b ds)[i]?=aa (.tup [zY k,H]):=by show(c7 _ b ds)[i]?=_;rw[ail,G,h]
  rw[hd] at g;exact bF g
 subst J;obtain⟨o2,e2⟩:=o.laid w;exact⟨o2,e2,kP o w (hW.cons (Nw k) (hW.cons (Rep.mono C s _ _ I) hW.nil)) e2⟩
def Ny (to:DE):DI:=λb M Q=>to b M λd M1=>∃a ds,d=.jD a ds/\Q (qf a ds) (λ_=>True) M1
def SY(c:JE X o to)(s:dP o "items" X.env (eval o X.env)=eval o X.env:=by rfl)(u:(apos.endLine==x.line)=ag:=by rfl):
  JI X (.Tuple elts n C) (.Call (.Attribute o "items" apos) [] [] x) (Ny to):=by
 refine⟨λb M P Q w q=>c.mono b _ _ _ (λd M1 q=>?_) q,PI.weak (SW c.p s u) λσ H Q q=>?_⟩
 .obtain⟨f,ds,e,q⟩:=q;exact⟨f,ds,e,w _ _ _ q⟩
 .obtain⟨F,α,b,M,r,q⟩:=q;refine⟨F,α,b,M,r,c.mono b _ _ _ (λd M1 q v i H1 e1 o1 y=>?_) q⟩;obtain⟨f,ds,rfl,q⟩:=q;obtain⟨a,A,rfl,g,j,m⟩:=y;refine⟨a,f.zip A,rfl,?_⟩;rcases g with h|⟨ob,h⟩
  .obtain⟨na,ha⟩:=iG h;refine .inl ⟨ha,λob B=>?_⟩;have z:=Hq.dict (ob:=ob) o1 ha na B;exact q _ i H1 _ _ e1 o1 z (HV (jz na il rfl) j (hW.imp z.rep _ _ m))
  .obtain⟨na,ha⟩:=iG h;exact .inr ⟨ob,ha,q _ i H1 H1 id e1 o1 (Hq.refl o1) (HV h j m)⟩
end
end L3
namespace L2
def abD(args:Args):bM.«dict.__eq__» args=(do
  let(self,other)<-bM.Dict.dictSlotArgs "__eq__" args
  if !(<-ajN other (.type fi)) then rule "dict.__eq__.not-a-dict";return<-ret .notImplemented
  ret (.bool ((<-gH "dict.__eq__" (<-bM.Dict.addrOf self) (<-bM.Dict.addrOf other))==ag))):=rfl
section
variable {prog:bc} {w:bJ} {A:bH} {E:ai->av->Prop} {s:av} {a b:aw} {K:Type} [DecidableEq K] {knd:PySem.KeyKind prog w K} {vs ws:List (K×ai)}
def Lc(hb:∀i,i<n->∀e:ForInStep β->av->Prop,e (.yield c) s->wpAny M A (body i c) e E s)(h:Q c s):
  wpAny M A (forIn [0:n] c body) Q E s:=by
 rw[Std.Legacy.Range.forIn_eq_forIn_range'];have gen:∀l:List Nat,(∀i∈l,i<n)->wpAny M A (forIn l c body) Q E s:=by
  intro l;induction l with
  |nil=>intro _;exact ay h
  |cons x r g=>
   intro f;rw[aig];refine ae (hb x (f x aN) _ ?_);exact g λi hi=>f i (aB _ hi)
 refine gen _ λi hi=>?_;simp[Std.Legacy.Range.size] at hi;exact hi
def Ld{id:String}(ha:(a==b9)=au)(hb:(b==b9)=au)(L:s.heap.DictOf knd a vs)(M:s.heap.DictOf knd b ws)(N:vs.length=ws.length)
(r:∀k v,(k,v)∈vs->∃g,dS ws k=aa g/\bY A s v g ag)(h:Q ag s):wpAny (model prog w) A (gH id a b) Q E s:=by
 obtain⟨o,es,ep,m,hc,hd,O,G,hn⟩:=L;obtain⟨o',n,Yx,u,YA,x,T,y,U⟩:=M;have Y:es.size=vs.length:=by rw[<-G.length];simp
 have z2:n.size=ws.length:=by rw[<-y.length];simp
 unfold gH bM.Dict.showsAll;rw[if_neg (by rw[ha];exact aS),if_neg (by rw[hb];exact aS)];refine ae (ay ?_);refine ae (ay ?_);refine ae (eV m hd ?_);refine ae (eV u x ?_);rw[if_neg (by rw[Y,z2,N];simp)];refine ae (aka m hd ?_);refine ae (Lc (λi hi R' hR=>?_) ?_)
 .refine ae (eV m hd ?_);rw[dq hi];have MS:i<vs.length:=by exact bG hi (gB Y)
  obtain⟨⟨k,v⟩,H⟩:∃p,vs[i]?=aa p:=⟨_,ax MS⟩;have B:es.toList[i]?=aa es[i]:=by rw[cj,dq hi]
  obtain⟨p1,p2⟩:=G.get? B H;obtain⟨q,I,q2⟩:=O es[i] (Array.getElem_mem hi);have ek:=knd.inj _ _ _ I p1;subst ek;obtain⟨g,c,heq⟩:=r q v (bA H);have C:∃j,(n.findIdx? λe=>knd.is q e.key)=aa j/\∃f,n[j]?=aa f/\f.val=g:=by
   cases z:n.toList.findIdx? λe=>knd.is q e.key with
   |none=>
    rw[<-y.find q] at c;rw[List.findIdx?_eq_none_iff] at z;rw[List.find?_eq_none.mpr λe r=>by rw[z e r];exact aS] at c;cases c
   |some j=>
    obtain⟨f,f1,f2,J⟩:=y.at z;refine⟨j,(List.findIdx?_toArray _ _).trans z,f,by rw[<-cj];exact f1,?_⟩;rw[c] at J;exact(bF J).symm
  obtain⟨j,hj,f,hf,rfl⟩:=C;refine ae (bR ?_);rw[q2];refine ae (ajX I u x T ?_);rw[hj];refine ae (eV u x ?_);rw[hf];refine bR ?_;rw[p2];refine heq prog w _ _ ?_;refine ae (aka m hd ?_);rw[if_neg (by simp)];exact ay hR
 .exact ay h
def zZ(g:A.units<eC)(ha:(a==b9)=au)(hb:(b==b9)=au)(c:s.heap.DictOf knd a vs)(e:s.heap.DictOf knd b ws)(i:vs.length=ws.length)
(j:∀k v,(k,v)∈vs->∃f,dS ws k=aa f/\bY A.in1 s v f ag)(h:Q (.bool ag) s):wpAny (model prog w) A (compareOp .Eq (.ref a) (.ref b)) Q E s:=by show wpAny _ A (richCompare .Eq (.ref a) (.ref b)) Q E s;refine ai7 c.typeIs e.typeIs PySem.F.slot_dict_eq (cD PySem.F.slot_dict_eq c.typeIs PySem.F.entry_dict_eq ?_ (PySem.F.args_dict_eq_2 _ _)) g;refine ae ?_;refine ay ?_;refine ae (ai3 e.typeIs PySem.F.kt_sub_dict ?_);refine ae (ay ?_);refine ae (ay ?_);refine ae (Ld ha hb c e i j ?_);exact ay ⟨_,rfl,(λz=>nomatch z),h⟩
end
end L2
namespace L3
open L2
def Le (b:List Key)(ds:List D)(c:List Key)(e:List D):Prop:=
 b.length=c.length/\∀(i:Nat) (k:Key) (d:D),b[i]?=aa k->ds[i]?=aa d->∃a,mf k c e=aa a/\okE d a/\yV d a=ag
def HW (r:Bool):G2:=λx y M Q=>match vw M x,vw M y with
 |.jD a ds,.jD b c=>Le a ds b c/\Q (.bl r) M
 |_,_=>False
def Lf:ud (HW r):=by
 intro x y M P Q w q;unfold HW at*;generalize vw M x=a at q |-;generalize vw M y=b at q |-;split at q
 .exact⟨q.1,w _ _ q.2⟩
 .exact q.elim
section
variable {X:Cx}
def Pk(hu:X.A.units+64<eC)(I:L2.Inv X cc σ H s)(o:OK X.K F α H M)
(Q:Rep X.K α (jo F α M H) T x)(U:Rep X.K α (jo F α M H) Y y)(e1:vw M T=.jD j ds)(e2:vw M Y=.jD B C)(h:Le j ds B C):
  ∃a b c ws,x=.ref a/\y=.ref b/\(a==b9)=au/\(b==b9)=au/\s.heap.DictOf (iM X.prog X.w) a c/\s.heap.DictOf (iM X.prog X.w) b ws/\c.length=ws.length/\
   ∀k v,(k,v)∈c->∃f,dS ws k=aa f/\bY X.A.in1 s v f ag:=by
 obtain⟨a,c,rfl,q1,l1,E⟩:=mX o Q e1;obtain⟨b,ws,rfl,q2,l2,G⟩:=mX o U e2;obtain⟨_,n1,us,J,d1⟩:=p8 I.iO q1;obtain⟨_,n2,m,L,d2⟩:=p8 I.iO q2;have m1:=hW.length _ _ E;have m2:=hW.length _ _ G;have p1:=J.length;have p2:=L.length;rw[cJ] at p1 p2;refine⟨a,b,us,m,rfl,rfl,n1,n2,d1,d2,by have:=h.1;lia,λk u WJ=>?_⟩;obtain⟨i,hi⟩:=cN.mp WJ;have MS:i<(j.zip c).length:=by have:=(ak.mp hi).1;rw[cJ];exact p1▸this
 obtain⟨⟨k0,v⟩,N⟩:∃p,(j.zip c)[i]?=aa p:=⟨_,ax MS⟩;obtain⟨u0,e,ru⟩:=Nv J N;rw[hi] at e;cases e;have O:=cK.mp N;obtain⟨d,hd,rd⟩:=hW.get' ds c i v E O.2;obtain⟨g,g1,⟨c1,n,c3,c4⟩,g3⟩:=h.2 i k d O.1 hd;obtain⟨f,g4,q⟩:=(nM B C ws G l2).1 g g1;obtain⟨r,g5,z⟩:=qK.some_of (by rw[<-g4];exact L.val k);obtain⟨as,w1⟩:=Rep.reads I _ v u (Rep.mono (aV _) ip _ _ rd) ru c1;obtain⟨bs,w2⟩:=Rep.reads I _ f r (Rep.mono (aV _) ip _ _ q) z n;refine⟨r,g5,?_⟩;have dd:=toP_depth d;have:=SeqAt.eqAt_reads (toP d) (toP g) X.A.in1 s u r as bs w1 w2 (toP_lay d c1) (toP_lay g n) (by show X.A.units+1+_<_;lia);rw[toP_eqv d g c1 n,g3] at this;exact this
def abE(c:X.A.units+64<eC):JC X .Eq (HW ag):=by
 refine⟨Lf,λcc s σ H x y v u Q I e f h=>?_⟩;obtain⟨F,α,M,r,w,o,g,i,h⟩:=h;unfold HW at h;split at h
 .rename_i e1 e2;obtain⟨a,b,z,ws,rfl,rfl,j,m,n,p,l,q⟩:=Pk c I o g i e1 e2 h.1;obtain rfl:v=bE a:=e;obtain rfl:u=bE b:=f;exact zZ (by lia) j m n p l q ⟨.bl ag,H,I,rfl,vK.now o h.2 jb⟩
 .exact h.elim
end
section
variable {X:Cx}
def WZ(h:b∈lv α (M.set k ar)):b∈lv α M:=by
 obtain⟨j,o,c,a⟩:=mh.mp h;have e:j≠k:=λz=>by
  subst z;by_cases f:j<M.length
  .rw[bn f] at a;cases a
  .rw[eF (by rw[c9];exact Nat.le_of_not_lt f)] at a;cases a
 rw[aJ λz=>e z.symm] at a;exact mh.mpr ⟨j,o,c,a⟩
def OK.give{K:af}(o:OK K F α H M)(k:Nat):OK K F α H (M.set k ar)/\Ext F α H M α H (M.set k ar):=by
 have c:jC (jo F α M H) (jo F α (M.set k ar) H):=λb x h=>by
  obtain⟨n,q⟩:=iG h;refine kX h (λw=>n ?_) q;rcases bt.mp w with w|w
  .exact bV _ (WZ w)
  .exact bL _ w
 refine⟨⟨by rw[c9];exact o.ml,o.nd,o.fr,o.al,λj x h=>?_,o.tb⟩,aV _,c,λ_ _=>rfl⟩;have e:j≠k:=λz=>by
  subst z;by_cases f:j<M.length
  .rw[bn f] at h;cases h
  .rw[eF (by rw[c9];exact Nat.le_of_not_lt f)] at h;cases h
 rw[aJ λz=>e z.symm] at h;obtain⟨a,g,i⟩:=o.own j x h;exact⟨a,g,i.mono (aV _) c rfl⟩
def HX (i:Nat):DE:=λa M Q=>∃(k:Nat) (es:List D),a[i]?=aa (aa (.loc k))/\M[k]?=aa (aa (.lst es))/\Q (.lst es) (M.set k ar)
def abF(i:Nat)(o:X.N[i]?=aa x:=by rfl)(p:Yv X.env.scope x:=by first|exact ah3 rfl|exact gQ (ah3 rfl)|exact gQ (gQ rfl))(hd:(x==(fk:aY))=au:=by decide)
(s:(x==(tK:aY))=au:=by decide):JE X (.Name x pos) (HX i):=by
 refine⟨λu M P Q h q=>?_,PE.weak (Ke o p hd s) λσ H Q h=>?_⟩
 .obtain⟨k,es,c,f,q⟩:=q;exact⟨k,es,c,f,h _ _ q⟩
 .obtain⟨F,α,u,M,r,k,es,c,f,q⟩:=h;obtain⟨v,e,y⟩:=r.sl i _ c;obtain⟨a,g,rfl⟩:=y;obtain⟨E,m,z,A,B⟩:=r.ok.own k _ f;rw[g] at m;cases m;obtain⟨o2,e2⟩:=r.ok.give k;refine⟨.ref a,e,q _ α H e2 o2 ?_⟩;refine⟨a,z,rfl,jz (λw=>?_) A rfl,e2.Bk B⟩;rcases bt.mp w with w|w
  .obtain⟨j,x,n,b⟩:=mh.mp w;have:j=k:=(fE (ak.mp n).1 r.ok.nd).mp (n.trans g.symm);subst this;by_cases C:j<M.length
   .rw[bn C] at b;cases b
   .rw[eF (by rw[c9];exact Nat.le_of_not_lt C)] at b;cases b
  .exact(r.ok.fr a w).1 (bA g)
end
end L3
namespace L2
end L2
namespace L3
open L2
end L3
namespace L2
end L2
namespace L3
open L2
section
variable {X:Cx}
def HY:GM:=λd ds M Q=>match vw M d,ds with
 |.jD b es,[k]=>∃a,Hv k=aa a/\Q ((mf a b es).getD .non) M
 |.jD b es,[k,x]=>∃a,Hv k=aa a/\Q ((mf a b es).getD x) M
 |_,_=>False
def abG(o:X.A.units+1<eC):JM X "dict.get" HY:=by
 refine⟨λd ds M P Q w q=>?_,λcc s σ H x xs v us Q I L rs h=>?_⟩
 .unfold HY at q |-;generalize vw M d=a at q |-;split at q<;>first
   |exact q.elim
   | (obtain⟨k,i,b⟩:=q;exact⟨k,i,w _ _ b⟩)
 .obtain⟨F,α,M,d,ds,ok,r,N,h⟩:=h;unfold HY at h;generalize e1:vw M d=a at h;split at h<;>first|exact h.elim|skip
  .obtain⟨j,i,b⟩:=h;obtain⟨a,p,rfl,m,u,z⟩:=mX ok r e1;obtain⟨B,rfl,C⟩:=mq N;cases pk C i;obtain rfl:v=bE a:=L;obtain⟨B,rfl,n⟩:=vals1 rs;have g:=nM (k:=j) _ _ p z u;cases e:mf j _ _ with
   |none=>
    rw[e] at b;refine Rh o I (rf.kr m) n λE s3 c f=>⟨_,H,c,f,?_⟩;rw[g.2 e];exact vK.now ok b oJ
   |some y=>
    rw[e] at b;obtain⟨T,G,J⟩:=g.1 y e;refine Rh o I (rf.kr m) n λE s3 c f=>⟨_,H,c,f,?_⟩;rw[G];exact vK.now ok b J
  .obtain⟨j,i,b⟩:=h;obtain⟨a,p,rfl,m,u,z⟩:=mX ok r e1;obtain⟨B,U,rfl,C,Y⟩:=v5 N;cases pk C i;obtain rfl:v=bE a:=L;obtain⟨B,U,rfl,n,O⟩:=vals2 rs;have g:=nM (k:=j) _ _ p z u;cases e:mf j _ _ with
   |none=>
    rw[e] at b;refine Ri o I (rf.kr m) n O λE s3 c f=>⟨_,H,c,f,?_⟩;rw[g.2 e];exact vK.now ok b Y
   |some y=>
    rw[e] at b;obtain⟨T,G,J⟩:=g.1 y e;refine Ri o I (rf.kr m) n O λE s3 c f=>⟨_,H,c,f,?_⟩;rw[G];exact vK.now ok b J
def Au:GN:=λds M Q=>match ds with
 |[.int i]=>Q (.int i) M
 |[.bl b]=>Q (.int (if b then 1 else 0)) M
 |_=>False
def abH:JB X (.type fw) Au:=by
 refine⟨λds M P Q w q=>?_,λcc s σ H xs us Q I rs h=>?_⟩
 .unfold Au at q |-;split at q<;>first|exact q.elim|exact w _ _ q
 .obtain⟨F,α,M,ds,o,b,h⟩:=h;unfold Au at h;split at h<;>first|exact h.elim|skip
  .obtain⟨v,rfl,a⟩:=mq b;unfold Rep at a;subst a;exact DZ cc s σ H _ us Q I rs (.inl ⟨_,rfl,vK.now o h i8⟩)
  .obtain⟨v,rfl,a⟩:=mq b;unfold Rep at a;subst a;exact DZ cc s σ H _ us Q I rs (.inr ⟨_,rfl,vK.now o h i8⟩)
end
end L3
end
namespace L2
def jd.un1{k:Nat}{A:PySem.Around}(h:jd k A):A.units+100<PySem.cLine:=by have:=h.un;lia
end L2
section
open PySem PySem.Spec PyProof.Rows
namespace L3
open L2
def ahj (x:D)(ds:List D):Prop:=pl x=ag/\dp x<=60/\AN ds=ag/\Db ds<=60
def Lg:G2:=λx y M Q=>match vw M y with
 |.lst ds=>ahj (vw M x) ds/\Q (.bl (ds.any λy=>yV y (vw M x))) M
 |_=>False
section
variable {X:Cx}
def lay_of{d:D}(p:pl d=ag)(q:dp d<=60):(toP d).canLay0=ag:=by have:=mY p q;unfold SeqAt.shaped at this;rw[aZ] at this;exact this.1
set_option tactic.hygienic true in
theorem Nz{cc:List (aw×cB)}{σ:L2.St}{H:Hp}{s:av}{α:List aw}(I:L2.Inv X cc σ H s){b:D}{x:V}{v:ai}(h:Rep X.K α H b x)(i:L2.RelV x v)(c:pl b=ag)(j:dp b<=60)(f:X.A.units+100<eC):∀(ds:List D) (e:List V) (us:List ai),hW X.K α H ds e->Vals e us->AN ds=ag->Db ds<=60->
  (∀u∈us,bY X.A.in1 s u v ((ah8 s.heap u).eqv (toP b)))/\(us.any λu=>(ah8 s.heap u).eqv (toP b))=ds.any λy=>yV y b
 |[],e,us,r,rs,_,_=>by unfold hW at r;subst r;cases rs;exact⟨λu f=>absurd f (by simp),rfl⟩
 |d::ds,e,us,r,rs,p,q=>by
  unfold hW at r;obtain⟨w,ws,rfl,B,C⟩:=r;cases rs with
  |cons a t=>
   rename_i u us;unfold AN at p;rw[aZ] at p;unfold Db at q;have m:dp d<=60:=bG (Nat.le_max_left _ _) q;have E:Db ds<=60:=bG (Nat.le_max_right _ _) q;obtain⟨G,J⟩:=Nz I h i c j f ds ws us C t p.2 E;obtain⟨bs,L⟩:=Rep.reads I _ x v h i c;obtain⟨as,n⟩:=Rep.reads I _ _ _ B a p.1;have o:=SeqAt.readOf_eq (lay_of p.1 m) n;have M:=W.keq_at (A:=X.A) n L (mY p.1 m) (mY c j) (by show X.A.units+1+64<_;lia);refine⟨λz g=>?_,?_⟩
   .rcases aH.mp g with rfl|g
    .rw[o];exact M
    .exact G z g
   .rw[c6,c6,J,o,toP_eqv _ _ p.1 c]
set_option tactic.hygienic true in
def abI(e:X.A.units+100<eC):JC X .In Lg:=by
 refine⟨λx y M P Q w q=>?_,λcc s σ H x y v u Q I f g h=>?_⟩
 .unfold Lg at q |-;split at q
  .exact⟨q.1,w _ _ q.2⟩
  .exact q.elim
 .obtain⟨F,α,M,b,J,o,i,j,h⟩:=h;unfold Lg at h;split at h
  .rename_i ds e1;obtain⟨⟨c1,m,n,p⟩,h⟩:=h;obtain⟨a,z,rfl,B,C⟩:=jh o j e1;obtain rfl:u=bE a:=g;obtain⟨iq,r,c,L⟩:=I.list (l9.of B);obtain⟨E,G⟩:=Nz I (Rep.mono (aV _) ip _ _ (wt o _ _ i)) f c1 m e ds z iq (hW.mono (aV _) ip _ _ C) r n p;refine SeqAt.in_listAt (λu=>(ah8 s.heap u).eqv (toP (vw M b))) c.isList (λw hw=>E w (by simpa using hw)) ⟨.bl _,H,I,rfl,?_⟩;rw[show(iq.toArray.any λu=>(ah8 s.heap u).eqv (toP (vw M b)))=iq.any λu=>(ah8 s.heap u).eqv (toP (vw M b)) by simp,G];exact vK.now o h jb
  .exact h.elim
end
end L3
namespace L2
section
variable {prog:bc} {w:bJ} {κ:Type} [DecidableEq κ] {knd:PySem.KeyKind prog w κ} {A:bH} {E:ai->av->Prop} {s:av}
end
end L2
namespace L3
open L2
end L3
namespace L2
end L2
namespace L3
open L2
section
variable {keys:List (Option bI)}
end
end L3
namespace L2
section
variable {prog:bc} {w:bJ} {A:bH} {E:ai->av->Prop} {s:av} {a b:aw} {K:Type} [DecidableEq K] {knd:PySem.KeyKind prog w K} {vs ws:List (K×ai)}
def S0(f:A.units<eC)(ha:(a==b9)=au)(hb:(b==b9)=au)(g:s.heap.DictOf knd a vs)(i:s.heap.DictOf knd b ws)(j:vs.length=ws.length)
(m:∀k v,(k,v)∈vs->∃c,dS ws k=aa c/\bY A.in1 s v c ag)(h:Q ag s):wpAny (model prog w) A (eqBool (.ref a) (.ref b)) Q E s:=by
 by_cases e:a=b
 .subst e;exact bY.same _ prog w E Q h
 .refine bR (akb (λz=>absurd (by have:=eq_of_beq z;injection this) e) λ_=>?_);exact ae (zZ f ha hb g i j m (cy h))
end
end L2
def L2.jd.abJ(r:L2.jd k A):A.units+66<PySem.cLine:=by have:=r.un;lia
namespace L3
open L2
def NA:G2:=λx y M Q=>match vw M x,vw M y with
 |.tup [a,d],.tup [b,e]=>(okE a b/\yV a b=ag)/\(∃c ds f g,vw M d=.jD c ds/\vw M e=.jD f g/\Le c ds f g)/\Q (.bl ag) M
 |_,_=>False
def Lh:ud NA:=by
 intro x y M P Q w q;unfold NA at*;generalize vw M x=a at q |-;generalize vw M y=b at q |-;split at q
 .exact⟨q.1,q.2.1,w _ _ q.2.2⟩
 .exact q.elim
section
variable {X:Cx}
def Li(hu:X.A.units+66<eC)(I:L2.Inv X cc σ H s)(o:OK X.K F α H M)
(Q:Rep X.K α (jo F α M H) T x)(U:Rep X.K α (jo F α M H) Y y)(e1:vw M T=.jD j ds)(e2:vw M Y=.jD B C)(h:Le j ds B C):
  ∃a b c ws,x=.ref a/\y=.ref b/\(a==b9)=au/\(b==b9)=au/\s.heap.DictOf (iM X.prog X.w) a c/\s.heap.DictOf (iM X.prog X.w) b ws/\c.length=ws.length/\
   ∀k v,(k,v)∈c->∃f,dS ws k=aa f/\bY X.A.in1.in1 s v f ag:=by
 obtain⟨a,c,rfl,q1,l1,E⟩:=mX o Q e1;obtain⟨b,ws,rfl,q2,l2,G⟩:=mX o U e2;obtain⟨_,n1,us,J,d1⟩:=p8 I.iO q1;obtain⟨_,n2,m,L,d2⟩:=p8 I.iO q2;have m1:=hW.length _ _ E;have m2:=hW.length _ _ G;have p1:=J.length;have p2:=L.length;rw[cJ] at p1 p2;refine⟨a,b,us,m,rfl,rfl,n1,n2,d1,d2,by have:=h.1;lia,λk u WJ=>?_⟩;obtain⟨i,hi⟩:=cN.mp WJ;have MS:i<(j.zip c).length:=by have:=(ak.mp hi).1;rw[cJ];exact p1▸this
 obtain⟨⟨k0,v⟩,N⟩:∃p,(j.zip c)[i]?=aa p:=⟨_,ax MS⟩;obtain⟨u0,e,ru⟩:=Nv J N;rw[hi] at e;cases e;have O:=cK.mp N;obtain⟨d,hd,rd⟩:=hW.get' ds c i v E O.2;obtain⟨g,g1,⟨c1,n,c3,c4⟩,g3⟩:=h.2 i k d O.1 hd;obtain⟨f,g4,q⟩:=(nM B C ws G l2).1 g g1;obtain⟨r,g5,z⟩:=qK.some_of (by rw[<-g4];exact L.val k);obtain⟨as,w1⟩:=Rep.reads I _ v u (Rep.mono (aV _) ip _ _ rd) ru c1;obtain⟨bs,w2⟩:=Rep.reads I _ f r (Rep.mono (aV _) ip _ _ q) z n;refine⟨r,g5,?_⟩;have dd:=toP_depth d;have:=SeqAt.eqAt_reads (toP d) (toP g) X.A.in1.in1 s u r as bs w1 w2 (toP_lay d c1) (toP_lay g n) (by show X.A.units+1+1+_<_;lia);rw[toP_eqv d g c1 n,g3] at this;exact this
end
end L3
namespace L2
section
variable {st:bI}
end
end L2
namespace L3
open L2
section
variable {st:bI}
theorem HZ{K:af}:∀{ds:List D} {a:List V},hW K α H ds a->hW K α H ds.reverse a.reverse
 |[],a,h=>by subst h;rfl
 |d::ds,a,h=>by obtain⟨v,r,rfl,z,y⟩:=h;rw[gU,gU];exact hW.append _ _ _ _ (HZ y) (by exact⟨v,[],rfl,z,by rfl⟩)
end
end L3
namespace L2
def Rec (h:aC)(e:aw)(cls:ai)(od:Option aw)(T:aw):Prop:=
 ∃a b c f,h.get? e=aa a/\a.cls=cls/\a.dict=od/\a.data=.fields b/\b[1]?=aa (.ref T)/\T≠e/\h.get? T=aa c/\c.data=.fields f/\f[3]?=aa .none
def Pm (h:aC)(e:aw)(cls:ai)(od:Option aw):Prop:=∃a,h.get? e=aa ⟨cls,od,.fields #[a,.none,.none,.none,.bool au,.none],#[]⟩
def Lj (S R:List aw)(h a:aC):Prop:=∀b o,h.get? b=aa o->b∉R->(b∉S->a.get? b=aa o)/\∃sl,a.get? b=aa {o with slots:=sl}
section
variable {A:bH} {s:av}
def BP(f:Array ai->Array ai)(o:cB):(dH f o).dict=o.dict:=by unfold dH;split<;>rfl
def S5
(O:A.frames=aa (env::cv))(y:s.heap.FunFrames cq (env::cv))(U:env.frame=aa L)
(B:s.heap.get? e=aa n)(hd:n.data=.fields C)(p:1<C.size)
(h:∀q T,s.heap.objs.size<=T->Rec q e n.cls n.dict T->Lj (rJ (env::cv)) [e] s.heap q->Q () {s with heap:=q}):
  wpAny M A (do let a<-frameOf env;let pl<-entryPlaceOf L Y;let b<-EntryCells.newEntry head a .none (ahZ L) .none pl;setField (.ref e) 1 b) (λ_ s'=>wpAny M A (ajo (.ref e) ar) Q E s') E s:=by
 have r:e∉(env::cv).filterMap _:=λhm=>by obtain⟨_,o,i,u⟩:=y.mem hm;rw[B] at i;injection i with i;subst i;exact u C hd
 refine ae (wpAny_frameOf_fun O y U λc j=>?_);refine ae (wpAny_entryPlaceOf λpl G=>?_);refine ae (ah9 ?_ (G.sizeOk5 _ _ _ _ _));have H:=(j.2.1 e r).trans B;have I:=aj {cls:=.type "traceback",dict:=ar,data:=.fields ([head,.ref L,.none,ahZ L,.none]++(if pl.isEmpty then bW 6 cL else pl)).toArray} H;refine fX I hd p ?_;have g:=dh (aM H);have v:=c5 hd (·.setIfInBounds 1 (bE c.objs.size));have J:=cX _ I (eJ v);have N:=(cz (c.push {cls:=.type "traceback",dict:=ar,data:=.fields ([head,.ref L,.none,ahZ L,.none]++(if pl.isEmpty then bW 6 cL else pl)).toArray})
  (dH (·.setIfInBounds 1 (bE c.objs.size))) (b8 g)).trans (aP c rfl)
 refine ae (cA J v (x:=.ref c.objs.size) (by simp[p]) ?_);have keep:∀b o,b≠e->c.get? b=aa o->
   (((c.push {cls:=.type "traceback",dict:=ar,data:=.fields ([head,.ref L,.none,ahZ L,.none]++(if pl.isEmpty then bW 6 cL else pl)).toArray}).update e (dH (·.setIfInBounds 1 (bE c.objs.size)))).update _
    (dH (·.setIfInBounds 3 ((ar).elim cL λf=>ahZ f)))).get? b=aa o:=λb o m hb=>by have w:=dh (aM hb);rw[cz _ _ w,cz _ _ (b8 m)];exact aj _ hb
 refine fX N rfl (by simp only [aR,aE,aU]<;>lia) (h _ c.objs.size ?_ ?_ λb o hb hn=>?_)
 .exact gB j.1.symm
 .refine⟨_,_,_,_,?_,cB.cls_mapFields _ _,BP _ _,v,by simp[p],g,cX _ N (eJ (c5 rfl _)),c5 rfl _,by first|(simp;done)|(rcases G with rfl|⟨_,_,_,_,_,_,_,rfl⟩<;>simp)⟩;rw[cz _ _ g];exact J
 .have m:b≠e:=λz=>hn (by simp[z]);obtain⟨sl,hs⟩:=j.2.2 b o hb;exact⟨λhS=>keep b o m ((j.2.1 b hS).trans hb),sl,keep b _ m hs⟩
def Ia
(f:A.frames=aa (env::cv))(g:s.heap.FunFrames cq (env::cv))(b:env.frame=aa L)(i:Pm s.heap e cls od)
(h:∀a T,s.heap.objs.size<=T->Rec a e cls od T->Lj (rJ (env::cv)) [e] s.heap a->Q () {s with heap:=a}):wpAny M A (leaving env (.ref e)) Q E s:=by obtain⟨j,c⟩:=i;unfold leaving ajp;simp only [b];refine ae (ae (cA c rfl rfl ?_));exact S5 f g b c rfl (by show 1<6;decide) h
def EB
(x:A.frames=aa (env::cv))(y:s.heap.FunFrames cq (env::cv))(p:env.frame=aa L)(j:Rec s.heap e cls od f)
(h:∀g T,s.heap.objs.size<=T->Rec g e cls od T->Lj (rJ (env::cv)) [e,f] s.heap g->Q () {s with heap:=g}):wpAny M A (ajp (.ref e) env) (λ_ B=>wpAny M A (ajo (.ref e) ar) Q E B) E s:=by
 obtain⟨I,r,J,C,u,rfl,rfl,hd,v,m,n,a,w⟩:=j;unfold ajp;simp only [p];refine ae (cA u hd v ?_);refine ae (cA n a w ?_);refine ae (fX n a (cS.mp w).1 ?_);have other:∀b,b≠f->(s.heap.update f (dH (·.setIfInBounds 3 cL))).get? b=s.heap.get? b:=λb hb=>cz _ _ (b8 hb);have G:∀b o,s.heap.get? b=aa o->(∀r,o.data≠.fields r)->b≠f:=λb o hb c q=>by rw[q,n] at hb;injection hb with hb;subst hb;exact c C a
 refine S5 x (y.of_keeps λb o hb c=>⟨o,(other b (G b o hb c)).trans hb,rfl⟩) p ((other e (b8 m)).trans u) hd (cS.mp v).1
  λg T hn j H=>h g T ?_ j λb o hb i=>?_
 .have e:=aC.size_after_update s.heap f (dH (·.setIfInBounds 3 cL));rw[e] at hn;exact hn
 .exact H b o ((other b λz=>i (by simp[z])).trans hb) λz=>i (by simp at z;simp[z])
def Ll
(b:A.frames=aa (env::cv))(c:s.heap.FunFrames cq (env::cv))(f:env.frame=aa L)(g:Rec s.heap e cls od i)
(h:∀a T,s.heap.objs.size<=T->Rec a e cls od T->Lj (rJ (env::cv)) [e,i] s.heap a->Q () {s with heap:=a}):wpAny M A (leaving env (.ref e)) Q E s:=
 ae (EB b c f g h)
end
def jB.there{P:bc}{w:bJ}{H:Hp}{h:aC}{a:aw}{o:HO}(x:jB P w H h a o):∃ob,h.get? a=aa ob:=by
 cases o with
 |lst xs=>obtain⟨_,_,_,_,e⟩:=x;exact⟨_,e⟩
 |tup xs=>obtain⟨_,_,_,o,e,_⟩:=x;exact⟨_,e⟩
 |dK b=>obtain⟨_,_,_,_,o,_,_,e,_⟩:=x;exact⟨_,e⟩
 |dT b=>obtain⟨_,_,_,_,o,_,_,e,_⟩:=x;exact⟨_,e⟩
 |set S n=>obtain⟨o,_,_,_,e,_⟩:=x;exact⟨_,e⟩
 |ins C c fs=>obtain⟨_,_,_,e,_⟩:=x;exact⟨_,e⟩
 |own y=>exact x
 |xd fs=>obtain⟨_,⟨_,_,_,e,_⟩,_⟩:=x;exact⟨_,e⟩
 |rng lo hi=>obtain⟨_,_,_,e⟩:=x;exact⟨_,e⟩
 |om ob u=>obtain⟨e,_⟩:=x;exact⟨_,e⟩
 |xt g=>exact⟨_,(show h.get? a=aa _ from x)⟩
 |dE i b=>obtain⟨_,_,_,_,o,_,e,_⟩:=x;exact⟨_,e⟩
 |xc C fs=>obtain⟨_,_,e,_⟩:=x;exact⟨_,e⟩
 |met f y=>exact⟨_,(show h.get? a=aa _ from x)⟩
 |ext j=>obtain⟨_,e,_⟩:=x;exact e
theorem rK.none{P:bc}{w:bJ}{H:Hp}{h:aC}{a:aw}(x:rK P w H h)(e:h.get? a=ar):H a=ar:=by
 cases q:H a with
 |none=>rfl
 |some o=>obtain⟨ob,g⟩:=(x a o q).there;rw[e] at g;cases g
section
variable {X:Cx} {s:av}
def Inv.frN(I:Inv X cc σ H s)(hb:b∈rJ X.stack):H b=ar:=by
 rcases aH.mp (I.rN b hb) with z|z
 .rw[z];exact I.free
 .obtain⟨_,o,a,_⟩:=I.ok.vP.mem z;exact I.cq.free b o a (I.ok.QN b z) λq=>I.ok.Kd b q z
def Inv.left(I:Inv X cc σ H s)(hex:X.ex=[])(h:∀b∈R,X.iA.heap.get? b=ar/\H b=ar)(c:Lj (rJ X.stack) R s.heap h'):
  Un X.fs [] X.iH H X.iA.heap h'/\rK X.prog X.w H h':=by
 have nx:∀b,b∉X.ex:=λb z=>by rw[hex] at z;cases z
 have f:∀b o,X.iA.heap.get? b=aa o->b∉R:=λb o e z=>by rw[(h b z).1] at e;cases e
 refine⟨⟨λb o e n hb _=>?_,λb o e n hb _=>?_,λb o e n _=>I.cq.free b o e n (nx b),λb o e _=>?_,I.cq.rL,I.cq.p5,I.cq.qX⟩,λa o e=>?_⟩
 .refine(c b o (I.cq.keep b o e n hb (nx b)) (f b o e)).1 λz=>?_;rcases aH.mp (I.rN b z) with q|q
  .have:=aM e;rw[q] at this;exact absurd (bw this I.ok.above) (cC _)
  .exact hb q
 .obtain⟨sl,q⟩:=I.cq.slot b o e n hb (nx b);obtain⟨i,g⟩:=(c b _ q (f b o e)).2;exact⟨i,g⟩
 .obtain⟨j,q⟩:=I.cq.there b o e (nx b);obtain⟨i,g⟩:=(c b _ q (f b o e)).2;exact⟨_,g⟩
 .refine(I.iO a o e).tQ (λb u hb q=>?_) (λ_ q=>q) λ_ _ q=>q;have hn:H b≠ar:=by
   rcases hb with rfl|hb
   .rw[e];exactλz=>by cases z
   .rw[hb];exactλz=>by cases z
  exact(c b u q λz=>hn (h b z).2).1 λz=>hn (I.frN z)
end
def W0 (P:bc)(w:bJ):VA:=λcv H s E e a=>∃x C od b T,e=.ref x/\a.os=s.os/\fR a.gens/\Un (rJ cv) [] H b s.heap a.heap/\rK P w b a.heap/\
 Rec a.heap x C od T/\s.heap.objs.size<=x/\s.heap.objs.size<=T/\b x=ar/\b T=ar/\E C od b
section
variable {K:af} {iA:av}
abbrev FR(P:bc)(w:bJ)(K:af)(mg:aY->Option ai)(cq:aC)(N:List aY)(qual:aY)(scope:dj)(f:aw)(cd:ai)(A:bH)(cv:List aie)(s:av)(H:Hp)(E:XK):Cx:=qZ (W0 P w) P w K mg cq N qual scope f cd A cv s H E
def Inv.Lm(I:Inv X cc σ H s):X.iA.heap.objs.size<=s.heap.objs.size:=by obtain⟨m,⟨o,es,b,a,_⟩,_⟩:=I.loc;exact dF (d6 I.ok.above (aM a))
def S9(I:Inv (FR P w K mg cq N qual scope f cd A cv iA iH E) cc σ H s)
(g:Pm s.heap x C od)(a:iA.heap.objs.size<=x)(c:H x=ar)(h:E C od H):(FR P w K mg cq N qual scope f cd A cv iA iH E).xe (.ref x) s:=by refine Ia I.ok.frames I.stack rfl g λm T e i j=>?_;obtain⟨u,iO⟩:=I.left rfl (λb hb=>by cases bj.mp hb;exact⟨cE a,c⟩) j;exact⟨x,C,od,H,T,rfl,I.os,I.bare,u,iO,i,a,bG I.Lm e,c,I.iO.fresh e,h⟩
def aeT:yM (W0 P w) (FR P w K mg cq N qual scope f cd A cv iA iH E) E:=λcc σ H s e J I h=>by
 obtain⟨x,C,od,j,T,rfl,m,n,u,iO,o,c,p,g,q,r⟩:=h;have a:=I.A5 m u iO n (λb hb=>by cases hb);refine Ll a.ok.frames a.stack rfl o λL v i y z=>?_;obtain⟨B,G⟩:=a.left rfl (λb hb=>by
  rcases aH.mp hb with rfl|hb
  .exact⟨cE (bG I.Lm c),g⟩
  .cases bj.mp hb;exact⟨cE (bG I.Lm p),q⟩) z
 exact⟨x,C,od,j,v,rfl,a.os,a.bare,B,G,y,bG I.Lm c,bG a.Lm i,g,a.iO.fresh i,r⟩
end
open PySem.W PySem.Calls Builtin
section
variable {R:ajr->av->Prop} {d:akd} {t:Nat}
variable {nm:aY} {bs:List ai} {sn:List aY} {sub:List ai}
abbrev wK(C t:aw):cB:={cls:=.ref C,data:=.fields #[.ref t,.none,.none,.none,.bool au,.none]}
abbrev wL(us:List ai):cB:={cls:=.type ej,data:=.seq us.toArray}
end
end L2
namespace L2
open PySem.W
noncomputable def Zl:List ai->Bool
 |[.type a,.type b,.type c,.type d]=>a==ua&&b==uaa&&c==mm&&d==nk
 |.ref _::r=>Zl r
 |_=>au
def Ta (K:af)(C:aw):Prop:=(W.clsIn K C).any (λcd=>Zl cd.mro)=ag
section
variable {d:akd} {t:Nat}
variable {nm:aY} {bs:List ai} {sn:List aY} {sub:List ai}
end
section
variable {X:Cx} {es:List bI}
def ahl (te:TE):TE:=λσ H Q=>te σ H λx H1=>match x with
 |.str y=>y.length<=aO/\Q (.str y) H1
 |.int i=>i.natAbs.log2<1920/\Q (.str (toString i)) H1
 |_=>False
def Inv.tk(I:Inv X cc σ H s)(a:Nat):Inv X cc σ H {s with toks:=a}:=⟨I.ok,I.os,I.bare,I.cq,I.loc,I.cell,I.free,I.lU,I.pin,I.iO,I.len⟩
abbrev TJ:=aY->St->Hp->VK->Prop
def PJ (X:Cx)(es:List bI)(t:TJ):Prop:=∀(acc:aY) (cc:List (aw×cB)) (s:av) (σ:St) (H:Hp) (Q:VK),Inv X cc σ H s->t acc σ H Q->wpAny (model X.prog X.w) X.A (joinParts acc (evalEach es X.env)) (EP X cc σ Q) X.xe s
def aeU:TJ:=λacc _ H Q=>acc.length<=aO/\Q (.str acc) H
def abK (te:TE)(a:TJ):TJ:=λacc σ H Q=>te σ H λx H1=>∃y,x=.str y/\(acc++y).length<=aO/\a (acc++y) σ H1 Q
end
noncomputable def Dn(x C:aw)(od:Option aw):HO:=.ext λh=>Pm h x (.ref C) od
noncomputable def xdH(b:aw)(fs:List (aY×V)):HO:=.ext λh=>∃a,h.Ns1 b a/\(∀f,qK (fs.lookup f) (a f))/\PySem.Within a (fs.map (·.1))
structure aeV(K:af)(C:aw):Prop where
 hd:W.hasDictIn K C=ag
 po:Ta K C
 so:W.subIn K (.ref C) (.type nk)=aa ag
 sa:aF K (.ref C) tO=aa (aa (.builtin tP))
def Tc(r:Pm h x (.ref C) od):jB P w H h x (Dn x C od):=by obtain⟨a,e⟩:=r;refine⟨⟨a,e⟩,⟨_,e⟩,λc f ⟨b,q⟩ k=>⟨b,k _ q⟩⟩
def XD (H:Hp)(x:aw)(od:Option aw)(fs:List (aY×V)):Prop:=match od with
 |none=>fs=[]
 |some a=>a≠x/\H a=aa (xdH a fs)
structure ahQ(K:af)(B:aw):Prop where
 gs:W.specialIn K (.ref B) uab=aa (aa (.builtin "type.__getattribute__"))
 rd:W.readsIn K B (.type "type")=ag
 fc:W.findCls K (.ref B) (.type "type") kz=aa (.val (.builtin uc))
structure W1(K:af)(C:aw):Prop where
 obj:∃nm q N bs bm m5 sn sub ab col dd k0 k1 k2 k3 k5,K.lookup C=aa (fe nm q C N bs bm m5 sn sub ab col dd k0 k1 k2 k3 k5 pe)/\∀h,K.In h->OwnTail h [.type ua,.type uaa,.type mm,.type nk] bm
noncomputable def W2(x:aw)(H:Hp):Hp:=λb=>if b=x then ar else H b
def xR:W2 x H x=ar:=by unfold W2;rw[if_pos rfl]
def FS(h:b≠x):W2 x H b=H b:=by unfold W2;rw[if_neg h]
def Inv.drop(I:Inv X cc σ H s)(f:H x=aa (.ext g)):Inv X cc σ (W2 x H) s:=by
 have hn:∀b,H b=ar->W2 x H b=ar:=λb e=>by
  by_cases z:b=x
  .rw[z];exact xR
  .rw[FS z];exact e
 have a:∀b u,H b=aa u->(∀g,u≠.ext g)->W2 x H b=aa u:=λb u e h=>by rw[FS λz=>by rw[z,f] at e;exact h _ (bF e).symm];exact e
 refine⟨I.ok,I.os,I.bare,⟨I.cq.keep,I.cq.slot,λb o q n f=>hn b (I.cq.free b o q n f),I.cq.there,λb xs q=>a b _ (I.cq.rL b xs q) (λ_ z=>by cases z),λb o u q=>a b _ (I.cq.p5 b o u q) (λ_ z=>by cases z),λb i q=>?_⟩,I.loc,I.cell,hn _ I.free,λx c e=>hn _ (I.lU x c e),λp j=>?_,λb u q=>?_,I.len⟩
 .obtain⟨m,e⟩:=I.cq.qX b i q;exact⟨m,a b _ e λ_ z=>by cases z⟩
 .obtain⟨w,y,A⟩:=I.pin p j;exact⟨w,hn _ y,A⟩
 .have z:b≠x:=λz=>by rw[z,xR] at q;cases q
  rw[FS z] at q;exact(I.iO b u q).tQ (λc v _ r=>r) (λc r=>a c _ r (λ_ z=>by cases z)) (λc xs r=>a c _ r (λ_ z=>by cases z))
section
variable {A:bH}
variable {nm:aY} {bs bm:List ai} {sn:List aY} {sub:List ai}
def Pn(f:bm.contains (.type mm)=ag)(g:A.handled=ar)
(h:wpAny M A x (λv a=>∃e od,v=.ref e/\a.heap.get? C=aa (fe nm q C N bs bm m5 sn sub ab col dd k0 k1 k2 k3 k5 newId)/\Pm a.heap e (.ref C) od/\E (.ref e) a) E s):
  wpAny M A (raiseStmt env (aa x) ar) Q E s:=by
 have b:(bE C::bm).contains (.type mm)=ag:=by rw[List.contains_cons,f,Bool.or_true]
 refine ae (cm h (λv a i=>?_) λ_ _ x=>x);obtain⟨e,od,rfl,c,⟨n,j⟩,m⟩:=i;repeat (first|with_reducible refine aid j ?_|with_reducible refine aid c ?_|(with_reducible refine gR c ?_;rw[b])|wp_step)
 exact wpAny_raiseNew_none g m
end
structure XMk(K:af)(C f:aw):Prop where
 x:W1 K C
 call:W.specialIn K (.ref C) "__call__"=aa (aa (.builtin mu))
 typ:W.instIn K (.ref C) (.type "type")=aa ag
 init:aF K (.ref C) kz=aa (aa (.ref f))
 fn:W.isFn K (.ref f)=ag
 kp:dV K (.ref C)=ag
section
variable {k:Nat}
end
section
variable {k:Nat} {es:List bI} {t:TA}
end
def aeW (K:af)(ta tv:TE)(f:aY):TS:=λD σ H=>tv σ H λy H1=>ta σ H1 λx c=>∃a C od fs,x=.ref a/\c a=aa (Dn a C od)/\XD c a od fs/\aeV K C/\tX K C f/\fs.length<1000/\
 ∀b,(od=aa b\/(od=ar/\c b=ar))->b≠a->D.nx σ (upd (upd c b (xdH b (qY f y fs))) a (Dn a C (aa b)))
structure Far(X:Cx)(cc:List (aw×cB))(b:aw):Prop where
 s0:X.iA.heap.objs.size<=b
 lo:b≠X.env.locals
 ce:∀x c,X.env.cells.lookup x=aa c->c≠b
 pi:∀p∈X.pn++cc,p.1≠b
section
variable {X:Cx} {σ:St} {s:av} {h':aC}
def Inv.Td(I:Inv X cc σ H s)(hb:s.heap.objs.size<=b):Far X cc b:=by
 refine⟨bG I.Lm hb,λz=>?_,λx c e z=>?_,λp f z=>?_⟩
 .obtain⟨m,⟨o,es,g,a,_⟩,_⟩:=I.loc;have:=aM a;rw[<-z] at this;exact absurd (bw this hb) (cC _)
 .obtain⟨v,o,a,_⟩:=I.cell x c e;have:=aM a;rw[z] at this;exact absurd (bw this hb) (cC _)
 .have:=aM (I.pin p f).1;rw[z] at this;exact absurd (bw this hb) (cC _)
def Inv.Zm(I:Inv X cc σ H s)(f:∀b∈R,Far X cc b/\H b=ar)(g:Lj (rJ X.stack) R s.heap h'):Inv X cc σ H {s with heap:=h',toks:=t'}:=by
 refine I.A5 rfl ⟨λb o e n hb c=>(g b o e c).1 hb,λb o e n hb c=>(g b o e c).2,λb o e n c=>n,λb o e c=>?_,λb xs q=>q,λb o u q=>q,λb h q=>⟨#[],by rw[q];simp⟩⟩ (λa o e=>?_) I.bare λb hb=>⟨.inr (f b hb).1.s0,(f b hb).1.lo,(f b hb).1.ce,(f b hb).1.pi⟩
 .obtain⟨sl,q⟩:=(g b o e c).2;exact⟨_,q⟩
 .refine(I.iO a o e).tQ (λb u hb q=>?_) (λ_ q=>q) λ_ _ q=>q;have hn:H b≠ar:=by
   rcases hb with rfl|hb
   .rw[e];exactλz=>by cases z
   .rw[hb];exactλz=>by cases z
  exact(g b u q λz=>hn (f b z).2).1 λz=>hn (I.frN z)
def Inv.Zn(I:Inv X cc σ H s)(g:H x=ar)(Td:Far X cc x)(ok:jB X.prog X.w (upd H x o) s.heap x o):Inv X cc σ (upd H x o) s:=by
 have a:∀b u,H b=aa u->upd H x o b=aa u:=λb u e=>by rw[hZ λz=>by rw[z,g] at e;cases e];exact e
 have h:=cE Td.s0;refine⟨I.ok,I.os,I.bare,⟨I.cq.keep,I.cq.slot,λb ob q n i=>?_,I.cq.there,λb xs q=>a b _ (I.cq.rL b xs q),λb ob u q=>a b _ (I.cq.p5 b ob u q),λb j q=>?_⟩,I.loc,I.cell,?_,λy c e=>?_,λp f=>?_,λb u q=>?_,I.len⟩
 .rw[hZ λz=>by rw[z,h] at q;cases q];exact I.cq.free b ob q n i
 .obtain⟨m,e⟩:=I.cq.qX b j q;exact⟨m,a b _ e⟩
 .rw[hZ (b8 Td.lo)];exact I.free
 .rw[hZ (Td.ce y c e)];exact I.lU y c e
 .obtain⟨A,B,C⟩:=I.pin p f;exact⟨A,by rw[hZ (Td.pi p f)];exact B,C⟩
 .by_cases z:b=x
  .subst z;rw[il] at q;cases q;exact ok
  .rw[hZ z] at q;exact(I.iO b u q).tQ (λc v _ r=>r) (λc r=>a c _ r) (λc xs r=>a c _ r)
abbrev Cx.J8(X:Cx)(e:ai):Cx:={X with A:=X.A.mark (aa e),calm:=au,xe:=λ_ _=>False}
theorem Inv.J8(I:Inv X cc σ H s)(e:ai):Inv (X.J8 e) cc σ H s:=
 ⟨⟨I.ok.mod,I.ok.kind,I.ok.glob,I.ok.blt,I.ok.above,I.ok.inj,I.ok.has,I.ok.ZY,(λz=>by cases z),I.ok.frames,I.ok.stk,I.ok.exf,I.ok.bs,I.ok.Oh,I.ok.G5,I.ok.Kd,I.ok.vP,I.ok.QN⟩,I.os,I.bare,I.cq,I.loc,I.cell,I.free,I.lU,I.pin,I.iO,I.len⟩
def Inv.NB(ok:X.Ok)(I:Inv (X.J8 e) cc σ H s):Inv X cc σ H s:=⟨ok,I.os,I.bare,I.cq,I.loc,I.cell,I.free,I.lU,I.pin,I.iO,I.len⟩
def xS(I:Inv X cc σ H s)(G:X.N.Nodup)(hi:X.N[i]?=aa n)(J:X.env.kindOf n=aa .local)
(h:∀x,Inv X cc (σ.set i ar) H x->Q () x):wpAny (model X.prog X.w) A (do bindName X.env n .none;unbindBehindTheSuite X.env n pos) Q E s:=by
 obtain⟨m,hn,L⟩:=id I.loc;have QP:=I.QP;refine wpAny_nameGoes_keeps J hn (by rw[I.ok.kind];rfl) λh' v g a=>h _ ?_;have hb:∀b o,X.iA.heap.get? b=aa o->h'.get? b=s.heap.get? b:=λb o e=>a.2 b (bd (bw (aM e) I.ok.above));refine⟨I.ok,I.os,I.bare,⟨λb o e n r f=>(hb b o e).trans (I.cq.keep b o e n r f),λb o e n r f=>?_,I.cq.free,λb o e f=>?_,I.cq.rL,I.cq.p5,I.cq.qX⟩,⟨_,g,λj y M e1 e2 e3=>?_⟩,λy c e=>?_,I.free,I.lU,λp O=>?_,λb u e=>?_,by simpa using I.len⟩
 .obtain⟨sl,e1⟩:=I.cq.slot b o e n r f;exact⟨sl,(hb b o e).trans e1⟩
 .obtain⟨T,e1⟩:=I.cq.there b o e f;exact⟨T,(hb b o e).trans e1⟩
 .have B:j≠i:=λz=>by subst z;rw[List.getElem?_set] at e2;rw[if_pos rfl] at e2;split at e2<;>cases e2
  rw[aJ (b8 B)] at e2;obtain⟨U,Y,q⟩:=L j y M e1 e2 e3;refine⟨U,Y,?_⟩;rcases q with⟨k,e⟩|⟨k,c,e,z⟩
  .refine .inl ⟨k,?_⟩;have:y≠n:=λe=>B (A3 G e1 (e▸hi));simp[this,e]
  .exact .inr ⟨k,c,e,z.sameBut a (QP y c e)⟩
 .obtain⟨C,z⟩:=I.cell y c e;exact⟨C,z.sameBut a (QP y c e)⟩
 .obtain⟨e,n,ne,nf,d⟩:=I.pin p O;exact⟨(a.2 p.1 ne).trans e,n,ne,nf,d⟩
 .refine(I.iO b u e).tQ (λc C hc q=>(a.2 c ?_).trans q) (λ_ q=>q) λ_ _ q=>q
  rintro rfl
  rcases hc with rfl|hc
  .rw[I.free] at e;cases e
  .rw[I.free] at hc;cases hc
end
def XDD (H:Hp)(od:Option aw)(fs:List (aY×V)):Prop:=match od with
 |none=>fs=[]
 |some a=>H a=aa (xdH a fs)
noncomputable def Zo(H:Hp)(x C:aw)(od:Option aw)(fs:List (aY×V)):Hp:=match od with
 |none=>upd H x (.xc C fs)
 |some a=>upd (upd H a (.own x)) x (.xc C fs)
def Inv.Ln(I:Inv X cc σ H s)(f:H x=ar)(Td:Far X cc x)(hd:XDD H od fs)
(e:s.heap.get? x=aa c)(g:c.cls=.ref C)(h:c.dict=od)(i:c.data=.fields j):Inv X cc σ (Zo H x C od fs) s:=by
 cases od with
 |none=>
  refine I.Zn f Td ⟨c,j,e,g,i,.inl ⟨h,hd⟩⟩
 |some b=>
  have a:H b=aa _:=hd;have ne:b≠x:=λz=>by rw[z,f] at a;cases a
  obtain⟨⟨m,n,r,wi⟩,⟨o,p⟩,_⟩:=(I.iO b _ a);have q:∀o u,X.iH b≠aa _:=λo u z=>by have:=I.cq.p5 b o u z;rw[a] at this;cases this
  have v:=I.ghost (w':=.own x) a (λ_ z=>by cases z) (λ_ z=>by cases z) (λ_ z=>by cases z) q ⟨o,p⟩;refine v.Zn (by rw[hZ (b8 ne)];exact f) Td ⟨c,j,e,g,i,.inr ⟨b,m,h,ne,?_,n,r⟩⟩;rw[hZ ne,il]
structure Lo(K:af)(C B:aw):Prop where
 c:∃nm q N bs bm m5 sn sub ab col dd k0 k1 k2 k3 k5,K.lookup C=aa (fe nm q C N bs bm m5 sn sub ab col dd k0 k1 k2 k3 k5 pe)/\(bE C::bm).contains (.ref B)=ag
 b:∃nm q N bs bm m5 sn sub ab col dd k0 k1 k2 k3 k5,K.lookup B=aa (fe nm q B N bs bm m5 sn sub ab col dd k0 k1 k2 k3 k5 pe)/\(bE B::bm).contains (.type mm)=ag
section
variable {X:Cx} {s:av}
def Lp(j:X.K.In s.heap)(T:s.heap.get? x=aa m)(hc:m.cls=.ref C)(sub:Lo X.K C B)(h:Q ag s):wpAny (model X.prog X.w) A (excMatches (.ref x) (.ref B)) Q E s:=by
 obtain⟨nm,q,N,bs,U,Y,sn,n,ab,col,dd,k0,k1,k2,k3,k5,e,g⟩:=sub.c;obtain⟨o,q',N',p,r,u,v,y,z,G,VG,I,J,L,M,O,a,i⟩:=sub.b;have e:=j _ _ e;have a:=j _ _ a;have f:=tc_notTuple;unfold excMatches;repeat (first|(with_reducible rw[hc])|with_reducible refine aid a ?_|(with_reducible refine gR a ?_;rw[i])|(with_reducible refine gR e ?_;rw[g])|wp_step)
 exact h
def Po(I:Inv X cc σ H s)(p:Rec s.heap x C od T)(r:Far X cc T)(u:H T=ar)(h:∀a,Inv X cc σ H a->Rec a.heap x C od T->Q () a):
  wpAny (model X.prog X.w) A (ajo (.ref x) ar) Q E s:=by
 obtain⟨v,y,J,L,f,B,G,g,i,j,m,c,n⟩:=p;refine wpAny_setFlight_none f g i m c (cS.mp n).1 (h _ (I.Zm (λb hb=>by cases bj.mp hb;exact⟨r,u⟩) λb o e hb=>?_) ?_)
 .have:b≠T:=λz=>hb (by simp[z]);have q:=(cz s.heap (dH (·.setIfInBounds 3 .none)) (b8 this)).trans e;exact⟨λ_=>q,o.slots,q⟩
 .refine⟨v,y,_,_,(gy _ _ _ _ (b8 j)).trans f,B,G,g,i,j,cX _ m (eJ (c5 c _)),c5 c _,by simp[(cS.mp n).1]⟩
end
abbrev Cx.wp(X:Cx)(pn:List (aw×cB))(E:ai->av->Prop):Cx:={X with pn:=pn,xe:=E}
section
variable {X:Cx}
theorem Cx.Ok.wp(ok:X.Ok)(pn:List _)(E:ai->av->Prop):(X.wp pn E).Ok:=
 ⟨ok.mod,ok.kind,ok.glob,ok.blt,ok.above,ok.inj,ok.has,ok.ZY,ok.hd,ok.frames,ok.stk,ok.exf,ok.bs,ok.Oh,ok.G5,ok.Kd,ok.vP,ok.QN⟩
theorem Inv.wp(I:Inv X cc σ H s)(E:ai->av->Prop):Inv (X.wp (X.pn++cc) E) [] σ H s:=
 ⟨I.ok.wp _ _,I.os,I.bare,I.cq,I.loc,I.cell,I.free,I.lU,λp a=>I.pin p (by rw[bu] at a;exact a),I.iO,I.len⟩
def Inv.Dp(ok:X.Ok)(I:Inv (X.wp (X.pn++cc) E) G6 σ H s):Inv X cc σ H s:=
 ⟨ok,I.os,I.bare,I.cq,I.loc,I.cell,I.free,I.lU,λp a=>I.pin p (bV _ a),I.iO,I.len⟩
theorem SP.Dp(ok:X.Ok)(h:SP (X.wp (X.pn++cc) E) [] D f c):SP X cc D f c:=by
 cases f with
 |next=>obtain⟨a,b,I,q⟩:=h;exact⟨a,b,I.Dp ok,q⟩
 |brk=>obtain⟨a,b,I,q⟩:=h;exact⟨a,b,I.Dp ok,q⟩
 |cont=>obtain⟨a,b,I,q⟩:=h;exact⟨a,b,I.Dp ok,q⟩
 |ret u=>obtain⟨v,a,b,I,r,q⟩:=h;exact⟨v,a,b,I.Dp ok,r,q⟩
end
noncomputable def dE(i:Nat)(D:Ends):Ends:=⟨λσ H=>D.nx (σ.set i ar) H,D.rt,λσ H=>D.bk (σ.set i ar) H,λσ H=>D.ct (σ.set i ar) H⟩
structure Pp(K:af)(C:aw):Prop where
 hd:hasDictIn K C=ag
 ga:findIn K (.ref C) uab=aa (aa (.builtin uaJ))
 gh:findIn K (.ref C) "__getattr__"=aa ar
 sb:subIn K (.ref C) (.type mm)=aa ag
 cl:findIn K (.ref C) oj=aa (aa (.builtin kf))
 cg:specialIn K (.builtin kf) rb=aa (aa (.builtin rh))
 tk:takesIn K (.builtin kf)=aa ag
 ob:mroIn K C (.type nk)=aa ag
section
variable {s:av} {K:af}
def Pr(G:Pp K C)(X:K.In s.heap)(I:InstAt s.heap x ox C od)(h:Q (aa (.ref C)) {s with toks:=s.toks+1}):wpAny (model prog w) A (ajE (.ref x) oj) Q E s:=by
 have FB:=PySem.F.attrBase_ValueError;have c:findObj K C od oj=aa (.bind (.builtin rh) (.builtin kf)):=by obtain⟨cd,hc,_⟩:=any_some G.hd;unfold findObj;rw[hc,Option.bind_some,G.cl,Option.bind_some];dsimp only;rw[G.cg,Option.bind_some];dsimp only;rw[G.tk];rfl
 have a:=I.type (M:=model prog w);have L1:=looks_find (M:=model prog w) X I c;have b:Looks (model prog w) s.heap (hookBefore (.ref C)) ar:=looks_hook X (by rw[if_pos (by rfl)];exact G.gh);unfold ajE getAttrBy?;refine ae (wpAny_mkText (ae (aii ?_)));unfold getAttrBy;refine bR (ae (a _ _ _ _ (λ_ _ e=>e) (ae (looks_findIn X G.ga _ _ _ _ (λ_ _ e=>e) ?_))));dsimp only;refine ae (b _ _ _ _ (λ_ _ e=>e) (ae (aii (bR ?_))));unfold callGetattribute;rw[if_neg (by decide)];unfold boundAndCalled;rw[FB.ga.bind];refine fH ?_;refine aiF FB.ga.plain PySem.F.entry_bexc_ga ?_;refine@check_slot (model prog w) _ _ {s with toks:=s.toks+1} uaJ mm uab (.ref x) [.str oj s.toks] [] _ (by decide+kernel) (by decide+kernel) (a.andThen (looks_subIn X G.sb)) (PySem.F.args_bexc_ga (.ref x) (.str oj s.toks)) ?_;obtain⟨f,g,d,t,os⟩:=s;refine ae (ay (ae (ay (ae (a.at (ae (L1.at ?_)))))));refine ae (bR (fH (class_get (ox:=ox) (od:=od) X I G.ob ?_)));refine ay ?_;show wpAny _ _ (handedOut (.ref C)) _ _ _;rw[handedOut_of rfl];exact ay (ay h)
set_option tactic.hygienic true in
def Tf(G:Pp K C):KitX K (.ref x) (.ref C) (λh=>InstAt h x ox C od) where
 ty:=λ_ _ _ I=>I.type
 it:=λ_ _ X _=>by
  obtain⟨b,a,_⟩:=any_some G.hd;unfold clsIn at a;split at a
  .rename_i i j c m f;intro o p r u k q;exact ae (ake (k _ _ (X _ _ f)) (ay q))
  .cases a
 ne:=λh v dd iq n sl X g=>by
  obtain⟨b,a,_⟩:=any_some G.hd;refine Bool.eq_false_iff.mpr λq=>?_;have e:=bE.inj (beq_iff_eq.mp q);subst e;unfold clsIn at a;split at a
  .rename_i i j c m f;have z:=(X _ _ f).symm.trans g;cases z
  .cases a
 ca:=λX I k=>Pr G X I k
end
section
variable {X:Cx} {s:av}
def Inv.excAt(I:Inv X cc σ H s)(i:H a=aa (.xc C fs)):
  ∃j g,InstAt s.heap a j C g/\∀v,fs.lookup f=aa v->∃u d,g=aa d/\lookIn f d=aa (aa u)/\RelV v u:=by
 obtain⟨m,B,h,n,p,b⟩:=(I.iO a _ i);obtain⟨oc,odd,w,Ot⟩:=m;cases n;cases p;rcases b with⟨b,rfl⟩|⟨E,x,b,ne,G,y,r⟩
 .cases(b);exact⟨_,ar,⟨h,rfl,rfl,trivial⟩,λv e=>by cases e⟩
 .cases(b);obtain⟨d,c,A⟩:=D5 y;refine⟨_,aa d,⟨h,rfl,rfl,c⟩,λv e=>?_⟩;have q:=r f;rw[e] at q;cases z:x f with
  |none=>rw[z] at q;exact q.elim
  |some u=>rw[z] at q;exact⟨u,d,rfl,by rw[A,z],q⟩
def W3(I:Inv X cc σ H s)(g:H a=aa (.xc C fs))(G:Pp X.K C)(e:kitOne X.K (.ref C) c=aa b)
(h:∀tk,Q (.bool b) {s with toks:=tk}):wpAny (model X.prog X.w) A (call (.builtin ol) [.ref a,c]) Q E s:=by obtain⟨i,j,J,_⟩:=I.excAt (f:=("":aY)) g;exact kia_one (Tf G) I.rM J e (λz=>nomatch z) h
end
abbrev XS:=St->XK
def vz (X:Cx)(E:XS):Prop:=∀(cc:List (aw×cB)) (σ:St) (H:Hp) (s:av) (e:ai) (a:av),Inv X cc σ H s->W0 X.prog X.w X.stack H s (E σ) e a->X.xe e a
section
variable {K:af}
def aeY:vz (FR P w K mg cq N qual scope f cd A cv iA iH E) λ_=>E:=λcc σ H s e a I h=>aeT cc σ H s e a I h
end
section
variable {X:Cx} {k:Nat} {ps:List aY} {es:List bI} {t:TA}
def W4(F:j9 X.prog X.w X.K X.mg X.cq (W0 X.prog X.w) k f fd ps sp)(g:jd k X.A)(hb:Binds X.K fd ps [])(i:vz X E)
(I:Inv X cc σ H s)(r:Vals b us)(h:sp b H Q (E σ)):wpAny (model X.prog X.w) X.A (call (.ref f) us) (EP X cc σ Q) X.xe s:=by
 have j:us.length=ps.length:=by rw[<-r.length];exact F.len _ _ _ _ h
 have c:=hb s us I.rM (by rw[bu];exact j);rw[bu] at c;refine fH (dm (F.run X.A X.stack s H _ us b Q (E σ) g I.VB c r h) λr n a=>?_);cases r with
 |error e=>exact i cc σ H s e n I a
 |ok fl=>
  cases fl with
  |ret u=>exact I.after a
  |next=>exact cu a
  |brk=>exact cu a
  |cont=>exact cu a
def abM (sp:Sp)(E:XS)(t:TA):TE:=λσ H Q=>t σ H λa H1=>sp a H1 Q (E σ)
def tT (P:bc)(w:bJ)(K:af)(mg:aY->Option ai)(cq:aC)(k:Nat)(x:aY)(ps:List aY)(sp:Sp):Prop:=
 ∃f fd,mg x=aa (.ref f)/\dV K (.ref f)=ag/\Binds K fd ps []/\j9 P w K mg cq (W0 P w) k f fd ps sp
def abN(h:tT X.prog X.w X.K X.mg X.cq k x ps sp)(a:jd k X.A)(c:vz X E)(ha:PA X (e::es) t)(g:Gl X x:=by rfl)(i:(x==(fk:aY))=au:=by decide)
(j:bg (e::es) X.env=(au,eval e X.env)::bg es X.env:=by rfl)(n:(du pos (bg es X.env)).any (·.1)=au:=by rfl):
  PE X (.Call (.Name x p) (e::es) [] pos) (abM sp E t):=by obtain⟨f,fd,m,kp,b,F⟩:=h;intro cc s σ H Q I h;refine cR (vo I g m ?_ i);refine W.callWith_K I.ok.mod.QM kp (j4 (ha pos cc s σ H _ I h) λus s1 ⟨u,H1,I1,r,q⟩=>⟨I1.rM,?_⟩) j n;exact W4 F a b c I1 r q
end
section
variable {K:af}
theorem tT.mono{j k:Nat}{x:aY}{a:List aY}{sp:Sp}(h:tT P w K mg cq j x a sp)(c:j<=k):tT P w K mg cq k x a sp:=by obtain⟨f,fd,m,kp,b,F⟩:=h;exact⟨f,fd,m,kp,b,F.mono c⟩
theorem tT.imp(h:tT P w K mg cq k x e sp)(i:∀c H Q E,a c H Q E->sp c H Q E):tT P w K mg cq k x e a:=by obtain⟨f,fd,m,kp,b,F⟩:=h;exact⟨f,fd,m,kp,b,F.imp i⟩
def tT.has{k:Nat}{x:aY}{c:List aY}{sp:Sp}(h:tT P w K mg cq k x c sp):lW P w K mg cq k x c λa H Q _=>sp a H Q E0:=by
 obtain⟨f,fd,m,kp,b,F⟩:=h;refine⟨f,fd,m,kp,b,λa H Q E q=>F.len _ _ _ _ q,λA cv s H args us a Q E i j hb r q=>dm (F.run A cv s H args us a Q E0 i j hb r q) λr n g=>?_⟩;cases r with
 |error e=>obtain⟨_,_,_,_,_,_,_,_,_,_,_,_,_,_,_,z⟩:=g;exact z.elim
 |ok fl=>cases fl<;>exact g
def ig.ahp{st:cZ}(F:ig K mg x st)(c:iZ st=body)(es:iE st=scope)(S:jP N b scope)
(hb:∀(kV doc pm:ai) (an:Option aw) (iQ ct:ai) (us:List ai),us.length=b.length->dI (dy x x (jT st) (iZ st) (iE st) .none kV doc pm an iQ ct) ⟨us,[]⟩=pure (b.zip us))
(len:∀a H Q E,sp a H Q E->a.length=b.length)
(e:∀(f:aw) (iQ:ai) (A:bH) (cv:List aie) (s:av) (H:Hp) (a:List V) (Q:VK) (E:XK),jd k (A.deeper (dZ x scope s.heap.objs.size f iQ))->sp a H Q E->
   ∃t,xu (FR P w K mg cq N x scope f iQ A cv s H E) body t/\t {nx:=λ_ g=>Q .non g,rt:=Q} (start N a) H):tT P w K mg cq (k+1) x b sp:=by subst c es;obtain⟨f,fd,F,m⟩:=F;refine⟨f,fd,m,F.kp,F.binds hb,?_⟩;obtain⟨oc,od,kV,doc,pm,an,iQ,ct,Ot,rfl,lk,h⟩:=F.ex;exact Rb lk h S len λA cv s H a Q E i j=>e f iQ A cv s H a Q E i j
end
def FT (H:Hp)(od:Option aw):Prop:=∀a,od=aa a->∀q,H a≠aa (L2.xG a q)
def aeZ (K:af)(i:Nat)(B:aw)(tb:XS->TS)(b:TS):TS:=λD σ H=>
 tb (λe C od a=>∃c fs,C=.ref c/\Lo K c B/\XDD a od fs/\∀x,a x=ar->FT a od->b (dE i D) (e.set i (aa (.ref x))) (Zo a x c od fs)) D σ H
def Inv.abO(I:Inv X cc σ H s)(h:XDD H od fs):FT H od:=λa e q z=>by subst e;obtain⟨⟨j,i,_,_⟩,_⟩:=(I.iO a _ h);obtain⟨c,_⟩:=(I.iO a _ z);obtain⟨m,oc,n,t,e,b,f,_⟩:=c;cases e;obtain⟨o,es,p,g⟩:=i;rw[g.1] at b;cases b;rw[g.2.1] at f;cases f
section
variable {X:Cx}
def W5(jy:X.stack=X.env::X.cv)(S6:X.env.frame=aa X.env.locals)(L:X.N.Nodup)(hi:X.N[i]?=aa n)(Q:X.env.kindOf n=aa .local)(OT:Loc X.env.scope n)(hf:X.fn n=ag\/X.env.scope.names.lookup n=aa .local)
(hg:Gl X tn)(hm:X.mg tn=aa (.ref B))(tY:(tn==(fk:aY))=au)
(hb:∀(pn:List (aw×cB)) (E':ai->av->Prop) (Ex:XS),vz (X.wp pn E') Ex->xu (X.wp pn E') body (tb Ex))
(hh:∀e,xu (X.J8 e) (Te::Ib) th):
  PS X (.Try body [.ExceptHandler (aa (.Name tn tp)) (aa n) (Te::Ib) abL] [] [] pos) (aeZ X.K i B tb th):=by
 intro cc s σ H D I h;refine wpAny_Try_except ?_;have len:=I.len;have g:=I.ok;refine cm (hb (X.pn++cc) (λe ja=>wpAny (model X.prog X.w) X.A (ajp e X.env) (λ_ De=>wpAny (model X.prog X.w) X.A (ajo e ar) (λ_ yJ=>wpAny (model X.prog X.w) X.A _ (SP X cc D) X.xe yJ) X.xe De) X.xe ja)
  (λG C od j=>∃c fs,C=.ref c/\Lo X.K c B/\XDD j od fs/\∀x,j x=ar->FT j od->th (dE i D) _ (Zo j x c od fs)) ?_ [] s σ H D (I.wp _) h) (λf s1 q=>?_) λe s1 q=>q
 .intro G6 Q0 H1 s1 e s' I1 hc;obtain⟨x,C,od,j,T,rfl,ho,hgb,u,iO,hr,hx,hT,Vf,Ve,c,fs,rfl,sub,M,hth⟩:=hc;have U:=I1.A5 (ch:=[]) ho u iO hgb (λb hb=>by cases hb);have O:=I1.Td hx;have fT:=I1.Td hT;have ahq:X.A.frames=aa (X.env::X.cv):=by rw[<-jy];exact g.frames
  have ahr:s'.heap.FunFrames X.cq (X.env::X.cv):=by rw[<-jy];exact U.stack
  refine EB ahq ahr S6 hr λh' T' Nr Y hL=>?_;have hL':Lj (rJ X.stack) [x,T] s'.heap h':=by rw[jy];exact hL
  have I3:=U.Zm (t':=s'.toks) (R:=[x,T]) (λb hb=>by
   rcases aH.mp hb with rfl|hb
   .exact⟨O,Vf⟩
   .cases bj.mp hb;exact⟨fT,Ve⟩) hL'
  have m:=U.Td Nr;have ahs:j T'=ar:=U.iO.fresh Nr;have J:=I3.Dp g;have gx:Far X cc x:=⟨O.s0,O.lo,O.ce,λp hp=>O.pi p (bV _ hp)⟩;have gT:Far X cc T':=⟨m.s0,m.lo,m.ce,λp hp=>m.pi p (bV _ hp)⟩;have Y:=Y;have J':=J.J8 (.ref x);refine wpAny_handleBy_cons (codeAny_handlers_test (vo (X:=X.J8 (.ref x)) J' hg hm ?_ tY)) (by intro q;cases q);have hr0:=Y;obtain⟨oe,vs,oT,ts,he,hc1,Rj,_⟩:=hr0;refine Lp (X:=X) J.rM he hc1 sub ?_;refine codeAny_handlers_suite_as (Po (X:=X) J Y gT ahs λs4 J4 r4=>?_);refine yI (X:=X) J4 L hi OT (v:=.ref x) rfl (λs5 J5 zq=>?_) hf;obtain⟨a,hs,ha⟩:=zq;have hxa:x≠a:=by
   rcases ha with rfl|ha
   .exact gx.lo
   .exact b8 (gx.ce _ a ha)
  have J6:Inv X cc (Q0.set i (aa (.ref x))) (Zo j x c od fs) s5:=by obtain⟨oe,vs,_,_,e,h1,h2,h3,_⟩:=r4;exact J5.Ln Vf gx M ((hs.2 x hxa).trans e) h1 h2 h3
  refine cm (hh (.ref x) cc s5 _ _ (dE i D) (J6.J8 _) (hth x Vf (J.abO M))) (λf s6 q=>?_) λ_ _ z=>z.elim;cases f with
  |next=>obtain⟨G,y,o,q⟩:=q;exact xS (o.NB g) L hi Q λs7 E=>⟨_,y,E,q⟩
  |brk=>obtain⟨G,y,o,q⟩:=q;exact xS (o.NB g) L hi Q λs7 E=>⟨_,y,E,q⟩
  |cont=>obtain⟨G,y,o,q⟩:=q;exact xS (o.NB g) L hi Q λs7 E=>⟨_,y,E,q⟩
  |ret u=>obtain⟨v,G,y,o,r,q⟩:=q;exact xS (o.NB g) L hi Q λs7 E=>⟨v,_,y,E,r,q⟩
 .cases f with
  |next=>
   obtain⟨G,j,o,q⟩:=q;exact gK ⟨G,j,o.Dp g,q⟩
  |brk=>exact SP.Dp (f:=.brk) g q
  |cont=>exact SP.Dp (f:=.cont) g q
  |ret u=>exact SP.Dp (f:=.ret u) g q
end
end L2
namespace L3
open L2
structure EX where
 C:aw
 ns:List aY
 ds:List D
abbrev Ic:=EX->lY->Ms->Prop
def Ic.le(x y:Ic):Prop:=∀e a M,x e a M->y e a M
def Ic.rfl(x:Ic):x.le x:=λ_ _ _ h=>h
abbrev xK(K:af)(F α:List aw)(H:Hp)(M:Ms)(E:XS):Ic:=λx g c=>∀e b a od f,Ext F α H M b a c->R K F b a e g c->x.ns.length=x.ds.length->XDD a od (x.ns.zip f)->hW K b (jo F b c a) x.ds f->E e (.ref x.C) od a
def xK.grow{K:af}(e:Ext F α H M a b c):Ic.le (xK K F α H M E) (xK K F a b c E):=λx m n h f g i od j e2=>h f g i od j (e.trans e2)
abbrev XE:=Ic->DE
abbrev XA:=Ic->DA
abbrev XB:=Ic->DS
def lEX (K:af)(E:XS)(t:XE):TE:=λσ H Q=>∃F α a M,R K F α H σ a M/\t (xK K F α H M E) a M (vK K F α H M Q)
def lAX (K:af)(E:XS)(t:XA):TA:=λσ H Q=>∃F α a M,R K F α H σ a M/\t (xK K F α H M E) a M (aK K F α H M Q)
def lSX (K:af)(E:XS)(t:XB):TS:=λD σ H=>∃F α a M,R K F α H σ a M/\t (xK K F α H M E) (ph K F α H M D) a M
structure JEX(X:Cx)(E:XS)(e:bI)(t:XE):Prop where
 mono:∀(x y:Ic) δ M (P Q:DK),x.le y->(∀d M,P d M->Q d M)->t x δ M P->t y δ M Q
 p:PE X e (lEX X.K E t)
structure JAX(X:Cx)(E:XS)(es:List bI)(t:XA):Prop where
 mono:∀(x y:Ic) δ M (P Q:List D->Ms->Prop),x.le y->(∀d M,P d M->Q d M)->t x δ M P->t y δ M Q
 p:PA X es (lAX X.K E t)
structure JSX(X:Cx)(E:XS)(st:cZ)(t:XB):Prop where
 mono:∀(x y:Ic) (P Q:jp) δ M,x.le y->P.le Q->t x P δ M->t y Q δ M
 p:PS X st (lSX X.K E t)
structure W6(X:Cx)(E:XS)(st:List cZ)(t:XB):Prop where
 mono:∀(x y:Ic) (P Q:jp) δ M,x.le y->P.le Q->t x P δ M->t y Q δ M
 p:xu X st (lSX X.K E t)
section
variable {X:Cx} {t:XB} {pos:eB} {x:aY} {st:cZ} {bs:List cZ} {es:List bI}
def JA.tox{t:DA}(h:JA X es t):JAX X E es λ_=>t:=⟨λx y a M P Q _ w q=>h.mono _ _ _ _ w q,h.p⟩
def JS.tox{t:DS}(h:JS X st t):JSX X E st λ_=>t:=⟨λx y P Q a M _ w q=>h.mono _ _ _ _ w q,h.p⟩
def C9.tox{t:DS}(h:C9 X U7 t):W6 X E U7 λ_=>t:=⟨λx y P Q a M _ w q=>h.mono _ _ _ _ w q,h.p⟩
abbrev Kb:=List D->(D->Prop)->(EX->Prop)->Prop
abbrev BQ(g:Kb):Prop:=∀ds (P Q:D->Prop) (x y:EX->Prop),(∀d,P d->Q d)->(∀e,x e->y e)->g ds P x->g ds Q y
abbrev yK(K:af)(F α:List aw)(H:Hp)(M:Ms)(E:XK):EX->Prop:=λx=>∀a od b,Ext F α H M α a M->OK K F α a M->x.ns.length=x.ds.length->XDD a od (x.ns.zip b)->hW K α (jo F α M a) x.ds b->E (.ref x.C) od a
def FU (K:af)(g:Kb):Sp:=λa H Q E=>∃F α M ds,OK K F α H M/\hW K α (jo F α M H) ds a/\lC ds=ag/\g ds (λd=>vK K F α H M Q d M) (yK K F α H M E)
structure xT(P:bc)(w:bJ)(K:af)(mg:aY->Option ai)(cq:aC)(k:Nat)(x:aY)(ps:List aY)(g:Kb):Prop where
 mono:BQ g
 p:tT P w K mg cq k x ps (FU K g)
def dCX (g:Kb)(tt:XA):XE:=λx a M Q=>tt x a M λds M1=>lC ds=ag/\g ds (λd=>Q d M1) λe=>x e a M1
def ae0(h:xT X.prog X.w X.K X.mg X.cq k x B g)(b:jd k X.A)(f:vz X E)(ha:JAX X E (e::es) tt)(j:Gl X x:=by rfl)(m:(x==(fk:aY))=au:=by decide)
(n:bg (e::es) X.env=(au,eval e X.env)::bg es X.env:=by rfl)(o:(du pos (bg es X.env)).any (·.1)=au:=by rfl):JEX X E (.Call (.Name x p) (e::es) [] pos) (dCX g tt):=by refine⟨λx y a M P Q v w q=>ha.mono _ _ a _ _ _ v (λds M1 q=>⟨q.1,h.mono _ _ _ _ _ (λd q=>w _ _ q) (λe q=>v _ _ _ q) q.2⟩) q,PE.weak (abN h.p b f ha.p j m n o) λσ H Q q=>?_⟩;obtain⟨F,α,a,M,r,q⟩:=q;refine⟨F,α,a,M,r,ha.mono _ _ a _ _ _ (Ic.rfl _) (λds M1 q C i H1 e1 o1 s=>?_) q⟩;exact⟨F,i,M1,ds,o1,s,q.1,h.mono _ _ _ _ _ (λd q=>vK.grow e1 _ _ q) (λex q z od ws e2 o2 l f b=>q σ i z od ws (e1.trans e2) ((r.grow e1 o1).grow e2 o2) l f b) q.2⟩
def Ps (t u:XB):XB:=λx=>ii (t x) (u x)
def W7(h:JSX X E st t):W6 X E [st] t:=⟨h.mono,MB h.p⟩
def Tg(a:JSX X E st t)(b:W6 X E U7 u):W6 X E (st::U7) (Ps t u):=by refine⟨λx y P Q f M v w q=>a.mono _ _ {P with nx:=u x P} _ _ _ v ⟨λf M q=>b.mono _ _ _ _ _ _ v w q,w.rt,w.bk,w.ct⟩ q,xu.weak (G8 a.p b.p) λD σ H q=>?_⟩;obtain⟨F,α,f,M,r,q⟩:=q;refine⟨F,α,f,M,r,a.mono _ _ _ _ _ _ (Ic.rfl _) ?_ q⟩;exact⟨λg M1 q j h H1 e1 i=>⟨F,h,g,M1,i,b.mono _ _ _ _ _ _ (xK.grow e1) (ph.grow e1) q⟩,λ_ _ q=>q,λ_ _ q=>q,λ_ _ q=>q⟩
def xIf (c:DT)(t u:XB):XB:=λx=>i5 c (t x) (u x)
def abP(hc:JT X c tA)(ha:W6 X E as t)(hb:W6 X E bs u):JSX X E (.If c as bs pos) (xIf tA t u):=by
 refine⟨λx y P Q a M v w q=>hc.mono a _ _ _ (λb M1 q=>?_) q,PS.weak (YB hc.p ha.p hb.p) λD σ H q=>?_⟩
 .cases b with
  |true=>exact ha.mono _ _ _ _ _ _ v w q
  |false=>exact hb.mono _ _ _ _ _ _ v w q
 .obtain⟨F,α,a,M,r,q⟩:=q;refine⟨F,α,a,M,r,hc.mono a _ _ _ (λb M1 q f H1 e1 o1=>?_) q⟩;cases b with
  |true=>
   exact⟨F,f,a,M1,r.grow e1 o1,ha.mono _ _ _ _ _ _ (xK.grow e1) (ph.grow e1) q⟩
  |false=>
   exact⟨F,f,a,M1,r.grow e1 o1,hb.mono _ _ _ _ _ _ (xK.grow e1) (ph.grow e1) q⟩
def EC (te:XE):XB:=λx=>jY (te x)
def Th(b:JEX X E e te)(f:eO e ar pos.line X.env=pure au:=by rfl):JSX X E (.Expr e pos) (EC te):=by refine⟨λx y P Q a M v w q=>b.mono _ _ a _ _ _ v (λd M1 q=>w.nx _ _ q) q,PS.weak (MC b.p f) λD σ H q=>?_⟩;obtain⟨F,α,a,M,r,q⟩:=q;exact⟨F,α,a,M,r,b.mono _ _ a _ _ _ (Ic.rfl _) (λd M1 q v g H1 e1 o1 h=>q σ g H1 e1 (r.grow e1 o1)) q⟩
end
def Av (n m:Nat)(tb:XB):Kb:=λds Q b=>ds.length=m/\tb (λe _ _=>lC e.ds=ag/\b e) ⟨λ_ _=>Q .non,λd a=>nl (fz a d)=ag/\Q (fz a d),λ_ _=>False,λ_ _=>False⟩ (ou n ds) []
section
variable {P:bc} {K:af}
def Pu(hb:∀(x y:Ic) (P Q:jp) a M,x.le y->P.le Q->tb x P a M->tb y Q a M):BQ (Av n m tb):=λds P Q x y w v q=>⟨q.1,by
 refine hb _ _ _ _ _ _ (λe _ _ q=>⟨q.1,v _ q.2⟩) ?_ q.2;exact⟨λ_ _ q=>w _ q,λ_ _ q=>⟨q.1,w _ q.2⟩,λ_ _ q=>q,λ_ _ q=>q⟩⟩
def W8{m:List aY}(f:W6 X (λ_=>E) body tb)(s:X.K=K)(h:FU K (Av n.length m.length tb) c H Q E):
  ∃t,xu X body t/\t {nx:=λ_ b=>Q .non b,rt:=Q} (L2.start n c) H:=by
 subst s;obtain⟨F,α,M,ds,o,r,hn,G,q⟩:=h;have u:OK X.K _ [] H []:=⟨rfl,eP,λa ha=>⟨by simp,by
  rcases bt.mp ha with ha|ha
  .exact o.MN a ha
  .exact(o.fr a ha).2⟩,λa ha=>(by simp at ha),λk x h=>(by simp at h),o.tb⟩
 have y:hW X.K [] _ ds c:=hW.nl ds c hn r;refine⟨_,f.p,lv α M++F,[],ou n.length ds,[],AK u y,?_⟩;refine f.mono _ _ _ _ _ _ (λe I g ⟨nl,z⟩ A i b od ws ext B l xd C=>?ex) ?le q;case ex=>
  obtain⟨e1,o1⟩:=lM o ext B.ok;exact z b od ws e1 o1 l xd (hW.nl _ _ nl (hW.mono (aV _) oN _ _ C))
 case le=>
  refine⟨λJ g q A i b e r=>?_,λd g q v i b e j r=>?_,λ_ _ q=>q.elim,λ_ _ q=>q.elim⟩
  .obtain⟨e1,o1⟩:=lM o e r.ok;exact q _ α b e1 o1 oJ
  .obtain⟨e1,o1⟩:=lM o e j;exact q.2 v α b e1 o1 (Rep.nl _ _ q.1 (RY j d v r))
def NC(h:tT P w K mg cq k x b (FU K g))(m:BQ a)(i:∀ds Q y,a ds Q y->g ds Q y):xT P w K mg cq k x b a:=
 ⟨m,h.imp λc H Q E zq=>by obtain⟨F,α,M,ds,o,r,n,q⟩:=zq;exact ⟨F,α,M,ds,o,r,n,i _ _ _ q⟩⟩
def xT.calm{k:Nat}{x:aY}{a:List aY}{g:Kb}(h:xT P w K mg cq k x a g):iN P w K mg cq k x a (cl λds Q=>g ds Q λ_=>False):=
 ⟨Fk λds P Q w q=>h.mono _ _ _ _ _ w (λ_ q=>q) q,let⟨f,fd,m,kp,b,F⟩:=h.p.has;⟨f,fd,m,kp,b,F.imp λc H Q E zq=>by obtain⟨F,α,M,ds,o,r,n,q⟩:=zq;exact ⟨F,α,M,ds,o,r,n,h.mono _ _ _ _ _ (λ_ q=>q) (λ_ q=>q.elim) q⟩⟩⟩
end
noncomputable def aht(v:V):Bool:=match v with|.int n=>decide (n.natAbs.log2<1920)&&decide ((toString n:aY).length<=4000)|.str y=>decide (y.length<=4000)|_=>au
def spI (C:aw)(ns:List aY):Sp:=λb H Q _=>∃x ws,b=.ref x::ws/\ws.length=ns.length/\ws.all aht=ag/\H x=aa (Dn x C ar)/\
 ∀a,H a=ar->a≠x->Q .non (upd (upd H a (xdH a (ns.zip ws))) x (Dn x C (aa a)))
section
variable {k:Nat} {es:List bI}
structure agk(P:bc)(w:bJ)(K:af)(mg:aY->Option ai)(cq:aC)(k:Nat)(x:aY)(C:aw)(ns:List aY):Prop where
 m:mg x=aa (.ref C)
 ok:∃f fd ps,XMk K C f/\Binds K fd ps []/\j9 P w K mg cq rW k f fd ps (spI C ns)
end
section
variable {K:af} {σ:L2.St} {δ:lY}
def R.unset(r:R K F α H σ δ M)(i:Nat):R K F α H (σ.set i ar) (δ.set i ar) M:=by
 refine⟨r.ok,by simp[r.len],λj d h=>?_⟩;by_cases a:j=i
 .subst a;by_cases b:j<δ.length
  .simp[b] at h
  .simp[b] at h
 .rw[aJ (b8 a)] at h |-;exact r.sl j d h
def OK.ghost(o:OK K F α H M)(g:H p=aa (.ext G))(m:∀q,H p≠aa (xG p q)):OK K F α (upd H p x) M/\Ext F α H M α (upd H p x) M:=by
 have n:tR (H p)=ar:=by rw[g]
 have rJ:∀a,tR (H a)≠ar->upd H p x a=H a:=λa h=>hZ λz=>by subst z;exact h n
 have i:jC (jo F α M H) (jo F α M (upd H p x)):=λb y q=>by obtain⟨z,j,s⟩:=pc q;exact kX q z (by rw[rJ b (by rw[j,s];exactλz=>by cases z)];exact j)
 refine⟨⟨o.ml,o.nd,λa ha=>⟨(o.fr a ha).1,by rw[rJ a (o.fr a ha).2];exact(o.fr a ha).2⟩,λa ha=>by rw[rJ a (o.al a ha)];exact o.al a ha,λk y h=>?_,λy u c P e=>?_⟩,⟨aV _,i,λa ha=>rJ a (o.fr a ha).2⟩⟩
 .obtain⟨a,e,r⟩:=o.own k y h;exact⟨a,e,r.mono (aV _) i (rJ a r.tR)⟩
 .obtain⟨w,f,A,B⟩:=o.tb y u c P e;refine⟨w,by rw[hZ λz=>by rw[z,g] at f;cases f];exact f,A,λpos v C=>?_⟩;obtain⟨E,e1,e2⟩:=B pos v C;exact⟨E,e1,by rw[hZ λz=>by subst z;exact m _ e2];exact e2⟩
def OK.Ln(o:OK K F α H M)(a:H x=ar)(xd:XDD H od fs)(f:FT H od):OK K F α (Zo H x c od fs) M/\Ext F α H M α (Zo H x c od fs) M/\jo F α M (Zo H x c od fs) x=aa (.xc c fs):=by
 have e:∀H1,kN _ (upd H1 x (.xc c fs)) x=aa _:=λH1=>jz (o.new a) il rfl;cases od with
 |none=>
  obtain⟨o1,e1⟩:=o.laid a;exact⟨o1,e1,e _⟩
 |some b=>
  have hd:H b=aa _:=xd;obtain⟨o1,e1⟩:=o.ghost (x:=.own x) hd (f b rfl);have ne:x≠b:=λz=>by rw[<-z,a] at hd;cases hd
  obtain⟨o2,e2⟩:=o1.laid (by rw[hZ ne];exact a);exact⟨o2,e1.trans e2,e _⟩
end
noncomputable def dEd(i:Nat)(E:jp):jp:=⟨λa M=>E.nx (a.set i ar) M,E.rt,λa M=>E.bk (a.set i ar) M,λa M=>E.ct (a.set i ar) M⟩
def ae1 (K:af)(i:Nat)(B:aw)(tb:XB)(a:DS):DS:=λE b M=>tb (λe c f=>Lo K e.C B/\a (dEd i E) (c.set i (aa (.exc e.C e.ns e.ds))) f) E b M
section
variable {X:Cx}
def abQ(O:X.N.Nodup)(hm:X.mg j=aa (.ref B))
(hb:∀(pn:List _) (h:ai->av->Prop) (a:XS),vz (X.wp pn h) a->W6 (X.wp pn h) a body tb)
(y:∀e,C9 (X.J8 e) (T::U) m)(hi:X.N[i]?=aa n:=by rfl)(Y:X.env.kindOf n=aa .local:=by rfl)(OT:Loc X.env.scope n:=by first|exact ah3 rfl|exact gQ rfl)(hf:X.fn n=ag\/X.env.scope.names.lookup n=aa .local:=by first|exact .inl rfl|exact .inr rfl|assumption)
(hg:Gl X j:=by rfl)(tY:(j==(fk:aY))=au:=by decide)(jy:X.stack=X.env::X.cv:=by rfl)(S6:X.env.frame=aa X.env.locals:=by rfl):
  JS X (.Try body [.ExceptHandler (aa (.Name j tp)) (aa n) (T::U) abL] [] [] pos) (ae1 X.K i B tb m):=by
 have z:=(y .none).mono;have b:=(hb [] (λ_ _=>True) (λ_ _ _ _=>False) λ_ _ _ _ _ _ _ _=>trivial).mono;refine⟨λP Q A M w q=>b _ _ _ _ _ _ (λe md o q=>⟨q.1,z _ _ _ _ ?_ q.2⟩) w q,PS.weak (W5 (tb:=λa=>lSX X.K a tb) (th:=lS X.K m) jy S6 O hi Y OT hf hg hm tY (λpn h a hp=>(hb pn h a hp).p) λe=>(y e).p) λD σ H q=>?_⟩
 .exact⟨λ_ _ q=>w.nx _ _ q,w.rt,λ_ _ q=>w.bk _ _ q,λ_ _ q=>w.ct _ _ q⟩
 .obtain⟨F,α,A,M,r,q⟩:=q;refine⟨F,α,A,M,r,b _ _ _ _ _ _ (λex md o ⟨sub,q⟩ jt s H' od u e1 G l xd rp=>⟨ex.C,ex.ns.zip u,rfl,sub,xd,λx hx nc=>?_⟩) (jp.le.refl _) q⟩;obtain⟨o2,e2,v⟩:=G.ok.Ln hx xd nc;have rx:Rep X.K s (jo F s o (Zo H' x ex.C od (ex.ns.zip u))) (.exc ex.C ex.ns ex.ds) (.ref x):=by exact⟨x,u,rfl,v,l,e2.Bk rp⟩
  refine⟨F,s,_,o,(G.grow e2 o2).set rx,z _ _ _ _ ?_ q⟩;have e12:=e1.trans e2;exact⟨λI J q L c f e3 g=>q _ c f (e12.trans e3) (g.unset i),vK.grow e12,λI J q L c f e3 g=>q _ c f (e12.trans e3) (g.unset i),λI J q L c f e3 g=>q _ c f (e12.trans e3) (g.unset i)⟩
end
abbrev FP:=aY⊕Nat
def tFP:FP->TE
 |.inl c=>tC (.str c)
 |.inr i=>ahl (QQ i)
def tJs:List FP->TJ
 |[]=>aeU
 |p::a=>abK (tFP p) (tJs a)
structure FPs(X:Cx)(es:List bI)(ps:List FP):Prop where
 p:PJ X es (tJs ps)
def tFs (K:af):List aY->Nat->TS
 |[],_=>λD σ H=>D.nx σ H
 |f::r,i=>adB (aeW K (QQ 0) (QQ i) f) (tFs K r (i+1))
structure JFs(X:Cx)(U7:List cZ)(ns:List aY)(i:Nat):Prop where
 p:xu X U7 (tFs X.K ns i)
section
variable {es:List bI}
end
noncomputable def cH(H:Hp)(x a C:aw)(l:List (aY×V)):Hp:=upd (upd H a (xdH a l)) x (Dn x C (aa a))
noncomputable def G9(n:Nat):FP->Bool
 |.inl c=>decide (c.length<=4000)
 |.inr i=>decide (1<=i)&&decide (i<=n)
section
variable {X:Cx}
def Ti (K:af):GN:=λds M Q=>match ds with
 |[.exc C ns es,.cls B]=>∃b,Pp K C/\bb K (.ref C) (.ref B)=aa b/\Q (.bl b) M
 |_=>False
def abR:JB X (.builtin ol) (Ti X.K):=by
 refine⟨λds M P Q w q=>?_,λcc s σ H xs us Q I rs h=>?_⟩
 .match ds,q with
  |[.exc C ns es,.cls B],⟨b,e1,e2,q⟩=>exact⟨b,e1,e2,w _ _ q⟩
 .obtain⟨F,α,M,ds,o,c,h⟩:=h;match ds,h,c with
  |[.exc C ns es,.cls B],⟨b,e1,e2,q⟩,c=>
   obtain⟨v,u,e,g,i⟩:=v5 c;subst e;subst i;obtain⟨a,x,rfl,ha,l,j⟩:=g;obtain⟨m,n,rfl,p,r⟩:=vals2 rs;obtain rfl:m=bE a:=p;obtain rfl:n=bE B:=r;exact W3 I (ip _ _ ha) e1 e2 λtk=>⟨.bl b,H,I.tok tk,rfl,vK.now o q jb⟩
end
end L3
namespace L2
inductive TC(iH:Hp)(P:Hp->Prop):Hp->Prop
 |cq {H:Hp}:P H->TC iH P H
 |Bo {H:Hp} {a:aw} {o:cB} {ik:List (Key×V)}:H a=aa (.om o (.dK ik))->(∀o u,iH a≠aa (.om o u))->TC iH P (upd H a (.dK ik))->TC iH P H
abbrev tcE(iH:Hp)(E:XK):XK:=λC od=>TC iH (E C od)
section
variable {P:bc}
def Tj(h:W0 P w cv H s (tcE H E) e y):W0 P w cv H s E e y:=by
 obtain⟨x,C,od,U,T,rfl,A,B,u,iO,G,f,I,g,i,J⟩:=h;induction J with
 |cq h=>exact⟨x,C,od,_,T,rfl,A,B,u,iO,G,f,I,g,i,h⟩
 |@Bo H1 a o Y ha L _ M=>
  have j:∀b,H1 b=ar->b≠a:=λb h z=>by rw[z,ha] at h;cases h
  refine M ⟨u.keep,u.slot,λb o q n f=>?_,u.there,λb xs q=>?_,λb o p q=>?_,λb N q=>?_⟩ (λb ob q=>?_) (by rw[hZ (j _ g)];exact g) (by rw[hZ (j _ i)];exact i)
  .have:=u.free b o q n f;rw[hZ (j b this)];exact this
  .have:=u.rL b xs q;rw[hZ λz=>by rw[z,ha] at this;cases this];exact this
  .have:=u.p5 b o p q;rw[hZ λz=>L o p (by rw[<-z];exact q)];exact this
  .obtain⟨m,e⟩:=u.qX b N q;exact⟨m,by rw[hZ λz=>by rw[z,ha] at e;cases e];exact e⟩
  .by_cases z:b=a
   .subst z;rw[il] at q;cases q;obtain⟨_,z,hd,O,r,ob,es,Q,e,c⟩:=(iO b _ ha);exact⟨z,hd,O,r,ob,es,Q,e,c⟩
   .rw[hZ z] at q;refine(iO b ob q).tQ (λc v _ r=>r) (λc r=>?_) (λc xs r=>?_)
    .rw[hZ λz=>by rw[z,ha] at r;cases r];exact r
    .rw[hZ λz=>by rw[z,ha] at r;cases r];exact r
variable {K:af}
def j9.Bo{sp a:Sp}(F:j9 P w K mg cq (W0 P w) k f fd g a)(h:∀b H Q E,sp b H Q E->a b H Q (tcE H E)):j9 P w K mg cq (W0 P w) k f fd g sp:=
 ⟨λb H Q E q=>F.len _ _ _ _ (h _ _ _ _ q),λA cv s H args us b Q E i j hb r q=>dm (F.run A cv s H args us b Q _ i j hb r (h _ _ _ _ q)) λr m c=>by
  cases r with
  |error e=>exact Tj c
  |ok fl=>cases fl<;>exact c⟩
end
end L2
namespace L3
open L2
section
variable {K:af}
def ND{st:cZ}(F:ig K mg x st)(n:iZ st=body)(es:iE st=scope)(S:jP N a scope)
(hb:∀(kV doc pm:ai) (an:Option aw) (iQ ct:ai) (us:List ai),us.length=a.length->dI (dy x x (jT st) (iZ st) (iE st) .none kV doc pm an iQ ct) ⟨us,[]⟩=pure (a.zip us))
(i:∀(f:aw) (iQ:ai) (A:bH) (cv:List aie) (s:av) (H:Hp) (E:XK),jd k (A.deeper (dZ x scope s.heap.objs.size f iQ))->W6 (FR P w K mg cq N x scope f iQ A cv s H (tcE H E)) (λ_=>tcE H E) body tb):
  tT P w K mg cq (k+1) x a (FU K (Av N.length a.length tb)):=by
 have p:tT P w K mg cq (k+1) x a (λc H Q g=>∃E,g=tcE H E/\FU K (Av N.length a.length tb) c H Q E):=
  F.ahp n es S hb (λc H Q g zq=>by obtain⟨E,_,F,α,M,ds,o,r,hn,u,q⟩:=zq;rw[<-hW.length _ _ r];exact u) λf iQ A cv s H c Q g j zq=>by obtain⟨E,e,F,α,M,ds,o,r,hn,q⟩:=zq;subst e;exact W8 (i f iQ A cv s H E j) rfl ⟨F,α,M,ds,o,r,hn,Pu (i f iQ A cv s H E j).mono _ _ _ _ _ (λ_ q=>q) (λex q v od ws e1 o1 l xd y=>.cq (q v od ws e1 o1 l xd y)) q⟩
 obtain⟨f,fd,m,kp,b,z⟩:=p;exact⟨f,fd,m,kp,b,z.Bo λc H Q E h=>⟨E,rfl,h⟩⟩
end
end L3
namespace L2
def ahu (h:aC)(e:aw)(cls:ai)(od:Option aw)(T:aw):Prop:=
 ∃a b c f v,h.get? e=aa a/\a.cls=cls/\a.dict=od/\a.data=.fields b/\b[1]?=aa (.ref T)/\T≠e/\h.get? T=aa c/\c.data=.fields f/\f[3]?=aa v
def Rec.any{h:aC}{e:aw}{cls:ai}{od:Option aw}{T:aw}(r:Rec h e cls od T):ahu h e cls od T:=by obtain⟨a,b,c,f,g,i,j,m,n,o,p,q,s⟩:=r;exact⟨a,b,c,f,.none,g,i,j,m,n,o,p,q,s⟩
section
variable {iter:bI}
end
section
variable {iter:bI}
end
end L2
namespace L3
open L2
section
variable {K:af}
def Tk:jC (jo (p::F) α M H) (jo F α M H):=λb x h=>by
 obtain⟨z,q⟩:=iG h;refine kX h (λw=>z ?_) q;rcases bt.mp w with w|w
 .exact bV _ w
 .exact bL _ (aB _ w)
def R.shown(a:p∉F)(r:R K (p::F) α H σ δ M){x:HO}(b:H p=aa x):R K F α H σ δ M:=by
 have o1:=r.ok.er a;obtain⟨o2,_⟩:=o1.laid (p:=p) (x:=x) Fn;rw[aa0 b] at o2;exact⟨o2,r.len,λi d h=>by obtain⟨v,c,e⟩:=r.sl i d h;exact⟨v,c,Rep.mono (aV _) Tk _ _ e⟩⟩
end
section
variable {iter:bI}
end
section
variable {iter:bI}
end
end L3
namespace L2
open PySem.W PySem.Calls Builtin
section
variable {A:bH} {R:ajr->av->Prop} {h:aC} {d:akd} {t:Nat} {os:ajY}
variable {nm:aY} {bs:List ai} {sn:List aY} {sub:List ai} {dd:Option aw}
def Pw{i:ai}(F:ajy B newId y7 bmB)(T:OwnTail h bmB bm){rest:List ai}
(c:h.get? C=aa (fe nm q C N bs bm m5 sn sub ab col dd k0 k1 k2 k3 k5 newId))(call:Looks (model prog w) h (specialOf (.ref C) "__call__") (aa (.builtin mu)))(typ:Looks (model prog w) h (ajN (.ref C) (.type "type")) ag)
(hi:Looks (model prog w) h (aiN (.ref C) kz) (aa i))(hb:∀self,Looks (model prog w) h (bindSpecial i self) (i,[self]))(j:rest.length<=aO)
(p:codeAny (model prog w) (A.under (.builtin mu ⟨.ref C::rest,[]⟩)) (.call i ⟨.ref (h.objs.size+1)::rest,[]⟩) (InitBack (h.objs.size+1) R) ⟨(h.push (wL rest)).push (wK C h.objs.size),g,d,t,os⟩):
  codeAny (model prog w) A (.call (.ref C) ⟨rest,[]⟩) R ⟨h,g,d,t,os⟩:=by
 refine aj9 ?_;show wpAny _ _ (ajW (.ref C) _) _ _ _;refine nd_load c ?_;show wpAny _ _ (ajW.viaDunder (.ref C) _) _ _ _;unfold ajW.viaDunder;refine ae (call.at ?_);dsimp only;rw[tc_bind];refine ae (ay (ae (ay ?_)));refine ay (a:=Fin.again (.call (.builtin mu) ⟨.ref C::rest,[]⟩)) (And.intro rfl ?_);refine codeAny_call_builtin_at (Code.quiet_builtin _ (by decide+kernel)) entry_typeCall (check_slot tc_kind tc_split typ (tc_args _ _ _) ?_);unfold bM.«type.__call__»;repeat (first|with_reducible refine aid c ?_|with_reducible refine wpAny_madeBy_exc c ?_|wp_step)
 refine codeAny_call_builtin_code (Code.quiet_builtin _ F.quiet) (wpAny_check_new_subT F T c ?_);refine codeAny_exc_new_subT F T c ?_ j;show wpAny _ _ _ _ _ _;have k:∀b o,h.get? b=aa o->((h.push (wL rest)).push (wK C h.objs.size)).get? b=aa o:=λb o e=>aj _ (aj _ e);have u:((h.push (wL rest)).push (wK C h.objs.size)).get? (h.objs.size+1)=aa (wK C h.objs.size):=by heap_get
 have m:=k _ _ c;have G:Looks (model prog w) ((h.push (wL rest)).push (wK C h.objs.size)) (typeOf (.ref (h.objs.size+1))) (.ref C):=(Looks.ld u).andThen .now;have n:(bE C::bm).contains (.ref C)=ag:=by simp
 have s1:Looks (model prog w) ((h.push (wL rest)).push (wK C h.objs.size)) (isSubtype (.ref C) (.ref C)) ag:=by intro A Q E s x y;obtain⟨H,g,d,t,os⟩:=s;refine gR (x _ _ m) ?_;rw[n];exact y
 have I:=hi.keeps k;have b1:=(hb (.ref (h.objs.size+1))).keeps k;unfold ajN callSpecial? specialOf;repeat (first|with_reducible refine fH ?_|lk)
 refine dm p λr J z=>?_;rcases r with e|(v|_|_|_)<;>first|exact z|exact z.elim|skip
 obtain⟨rfl,z⟩:=z;exact ay (ay z)
end
section
variable {A:bH} {h:aC} {d:akd} {t:Nat} {os:ajY}
variable {nm:aY} {bs:List ai} {sn:List aY} {sub:List ai} {k2:Option ai}
def Px(F:ajy B newId y7 bmB)(T:OwnTail h bmB bm)
(s:h.get? C=aa (fe nm q C N bs bm m5 sn sub ab col dd k0 k1 k2 k3 k5 newId))(n:h.get? x=aa c)(v:c.cls=.ref C)(hd:c.data=.fields f)(J:1<f.size)
(y:∀i a,i.get? x=aa {c with data:=.fields (f.setIfInBounds 0 a)}->(∀b o,b≠x->h.get? b=aa o->i.get? b=aa o)->Q (.ok (.ret .none)) ⟨i,g,d,t,os⟩):
  codeAny (model prog w) A (.call (.builtin y7) ⟨[.ref x,u],[]⟩) Q ⟨h,g,d,t,os⟩:=by
 obtain⟨oc,od,z,Ot⟩:=c;cases v;cases hd;refine aiF F.init.plain F.initEntry (wpAny_check_init_subT F T s n rfl ?_)
 wp_walk
 obtain⟨j,G⟩:∃a,f[0]?=aa a:=⟨_,dq (by exact Nat.lt_of_succ_lt J)⟩;rw[G];refine ay ?_;have p:=aj (h:=h) {cls:=.type ej,data:=.seq [u].toArray} n;refine ae (fX p rfl (by exact Nat.lt_of_succ_lt J) ?_);have H:∀m:Unit->av->Prop,m () ⟨(h.push {cls:=.type ej,data:=.seq [u].toArray}).update x (dH (·.setIfInBounds 0 (.ref h.objs.size))),g,d,t,os⟩->∀r,wpAny (model prog w) A.in1 (match j with|bE I=>letGo [j]|x=>pure ()) m r _:=λm q r=>by
  cases j<;>first|exact ay q|skip
  wp_walk
  exact q
 refine H _ (ay ?_) _;refine y _ (.ref h.objs.size) ?_ λb o hb e=>?_
 .exact cX _ p (eJ (c5 rfl _))
 .rw[cz _ _ (b8 hb)];exact aj _ e
end
section
variable {X:Cx}
def Lq(FB:ajy ua pe uc [.type ua,.type uaa,.type mm,.type nk])
(I:Inv X cc σ H s)(ex:H x=aa (Dn x C od))(c:W1 X.K C)(h:∀m,Inv X cc σ H m->R (.ok (.ret .none)) m):codeAny (model X.prog X.w) A (.call (.builtin uc) ⟨[.ref x,u],[]⟩) R s:=by
 obtain⟨⟨B,p⟩,_,_⟩:=(I.iO x _ ex);obtain⟨nm,q,N,bs,E,G,sn,sub,J,col,dd,k0,L,M,O,Q,f,T⟩:=c.obj;have f:=I.rM _ _ f;have T:=T s.heap I.rM;have nx:∀b,H b=ar->b≠x:=λb e z=>by rw[z,ex] at e;cases e
 have i:=I;obtain⟨U,g,d,t,os⟩:=s;refine Px FB T f p rfl rfl (by show 1<6;decide) λy a n kp=>h _ ?_;have j:Pm y x (.ref C) od:=⟨a,n⟩;refine i.A5 (ch:=[]) rfl ⟨λb o e q _ _=>kp b o (nx b q) e,λb o e q _ _=>⟨o.slots,kp b o (nx b q) e⟩,λb o e q _=>q,λb o e _=>?_,λb xs q=>q,λb o u q=>q,λb Y q=>⟨#[],by rw[q];simp⟩⟩ (λb u q=>?_) i.bare λb hb=>by cases hb
 .by_cases z:b=x
  .subst z;exact⟨_,n⟩
  .exact⟨o,kp b o z e⟩
 .by_cases z:b=x
  .subst z;rw[ex] at q;cases q;exact Tc j
  .refine(i.iO b u q).tQ (λc v hc r=>kp c v ?_ r) (λc r=>r) λc xs r=>r;rcases hc with rfl|hc
   .exact z
   .exactλz=>by rw[z,ex] at hc;cases hc
structure Py(K:af)(C:aw):Prop where
 x:W1 K C
 call:W.specialIn K (.ref C) "__call__"=aa (aa (.builtin mu))
 typ:W.instIn K (.ref C) (.type "type")=aa ag
 init:aF K (.ref C) kz=aa (aa (.builtin uc))
 kp:dV K (.ref C)=ag
def Tl(M:Py X.K C)(I:Inv X cc σ H s)
(h:∀x,H x=ar->s.heap.objs.size<=x->Q (.ref x) (upd H x (Dn x C ar))):wpAny (model X.prog X.w) X.A (PySem.call (.ref C) [u]) (EP X cc σ Q) X.xe s:=by
 have f:=h _ (I.iO.fresh (cw _)) (cw _);have c:∀b o,s.heap.get? b=aa o->(s.heap.push (wL [u])).get? b=aa o:=λb o e=>aj _ e;have e2:=by
  have:=aP (s.heap.push (wL [u])) (o:=wK C s.heap.objs.size) rfl
  rwa [ci] at this
 have i:Inv X cc σ _ {s with heap:=(s.heap.push _).push _}:=
  (I.kept (t':=s.toks) c).laid (λb u e=>aj _ e) (gB (ci _ _)) (Tc ⟨_,e2⟩)
 obtain⟨nm,q,N,bs,r,v,sn,sub,y,col,dd,k0,c,z,B,E,j,T⟩:=M.x.obj;have a:=I.rM;obtain⟨m,g,d,t,os⟩:=s;refine fH ?_;refine Pw PySem.F.excBase_ValueError (T m a) (a _ _ j) (W.looks_specialIn a M.call) (W.looks_instIn a M.typ) (W.looks_findIn a M.init) (λself=>Looks.of_pure (PySem.F.excBase_ValueError.init.bind self)) (by show 1<=aO;decide) ?_;refine Lq PySem.F.excBase_ValueError i il M.x λG n=>?_;exact⟨rfl,⟨V.ref _,_,n,rfl,f⟩⟩
end
section
variable {K:af} {iA:av}
variable {t:TA}
def Xa (C:aw)(E:XK)(t:TA):TS:=λ_ σ H=>t σ H λa H1=>a.length=1/\E (.ref C) ar H1
def Xb{x:aw}(b:H x=ar):W2 x (upd H x a)=H:=by
 funext y;by_cases h:y=x
 .subst h;rw[xR,b]
 .rw[FS h,hZ h]
def Pz(M:Py K C)(z:Gl (FR P w K mg cq N qual scope fn cd A cv iA iH E) x)(hm:mg x=aa (.ref C))
(ha:PA (FR P w K mg cq N qual scope fn cd A cv iA iH E) [e] t)(B:(x==(fk:aY))=au:=by decide)
(G:bg [e] (FR P w K mg cq N qual scope fn cd A cv iA iH E).env=(au,eval e (FR P w K mg cq N qual scope fn cd A cv iA iH E).env)::bg [] (FR P w K mg cq N qual scope fn cd A cv iA iH E).env:=by rfl):
  PS (FR P w K mg cq N qual scope fn cd A cv iA iH E) (.Raise (aa (.Call (.Name x p) [e] [] ka)) ar pos) (Xa C E t):=by
 intro cc s σ H D I h;obtain⟨nm,q,J,bs,bm,f,sn,sub,g,col,dd,k0,i,j,m,n,L,T⟩:=M.x.obj;have O:=(T cq I.ok.mod.QM).hasType PySem.F.excBase_ValueError.hasBase;have U:=I.ok.hd rfl;refine ae (aih (Pn (C:=C) (nm:=nm) (q:=q) (N:=J) (bs:=bs) (m5:=f) (sn:=sn) (sub:=sub) (ab:=g) (col:=col) (dd:=dd) (k0:=k0) (k1:=i) (k2:=j) (k3:=m) (k5:=n) (newId:=pe) O U ?_));refine ae (j4 (Q:=EP (FR P w K mg cq N qual scope fn cd A cv iA iH E) cc σ λv b=>∃y,v=.ref y/\iA.heap.objs.size<=y/\b y=aa (Dn y C ar)/\E (.ref C) ar (W2 y b)) ?_ λv s3 Y=>ae (aih (ay ?_)))
 .refine cR (vo I z hm ?_ B);refine W.callWith_K I.ok.mod.QM M.kp (j4 (ha ka cc s σ H _ I h) λus s1 ⟨vs,H1,I1,r,hl,q⟩=>⟨I1.rM,?_⟩) G rfl;have hu:us.length=1:=by rw[<-r.length];exact hl
  match us,hu with
  |[u],_=>exact Tl M I1 λy hy hn=>⟨y,rfl,bG I1.Lm hn,il,by rw[Xb hy];exact q⟩
 .obtain⟨v',b,c,rv,y,rfl,hn,o,hE⟩:=Y;cases rv;obtain⟨a,_,_⟩:=(c.iO y _ o);exact⟨y,ar,rfl,c.rM _ _ L,a,S9 (c.drop o) a hn xR hE⟩
end
end L2
namespace L3
open L2
def FV (C:aw)(tt:DA):XB:=λx _ a M=>tt a M λds M1=>ds.length=1/\x ⟨C,[],[]⟩ a M1
section
variable {K:af}
def Lr(M:Py K C)(hm:mg x=aa (.ref C))(ha:JA (FR P w K mg cq N qual scope fn cd A cv iA iH E) [e] tt)(b:Gl (FR P w K mg cq N qual scope fn cd A cv iA iH E) x:=by rfl)(c:(x==(fk:aY))=au:=by decide)
(f:bg [e] (FR P w K mg cq N qual scope fn cd A cv iA iH E).env=(au,eval e (FR P w K mg cq N qual scope fn cd A cv iA iH E).env)::bg [] (FR P w K mg cq N qual scope fn cd A cv iA iH E).env:=by rfl):
  JSX (FR P w K mg cq N qual scope fn cd A cv iA iH E) (λ_=>E) (.Raise (aa (.Call (.Name x p) [e] [] ka)) ar pos) (FV C tt):=by refine⟨λx y P Q a M v w q=>ha.mono a _ _ _ (λds M1 q=>⟨q.1,v _ _ _ q.2⟩) q,PS.weak (Pz M b hm ha.p c f) λD σ H q=>?_⟩;obtain⟨F,α,a,M,r,q⟩:=q;refine⟨F,α,a,M,r,ha.mono a _ _ _ (λds M1 q i g H1 e1 o1 h=>?_) q⟩;exact⟨by rw[<-hW.length _ _ h];exact q.1,q.2 σ g H1 ar [] e1 (r.grow e1 o1) rfl rfl hW.nil⟩
end
abbrev Ls:List ai:=[.type ua,.type uaa,.type mm,.type nk]
structure Tn(K:af)(C P:aw):Prop where
 hd:W.hasDictIn K C=ag
 po:Ta K C
 so:W.subIn K (.ref C) (.type nk)=aa ag
 sa:aF K (.ref C) tO=aa (aa (.builtin tP))
 call:W.specialIn K (.ref C) "__call__"=aa (aa (.builtin mu))
 typ:W.instIn K (.ref C) (.type "type")=aa ag
 kp:dV K (.ref C)=ag
 ga:aF K (.ref C) uab=aa (aa (.builtin uaJ))
 gh:aF K (.ref C) "__getattr__"=aa ar
 sb:W.subIn K (.ref C) (.type mm)=aa ag
 cl:aF K (.ref C) oj=aa (aa (.builtin kf))
 cg:W.specialIn K (.builtin kf) rb=aa (aa (.builtin rh))
 tk:W.takesIn K (.builtin kf)=aa ag
 ob:W.mroIn K C (.type nk)=aa ag
 oc:∃nm q N bs bm m5 sn sub ab col dd k0 k1 k2 k3 k5,K.lookup C=aa (fe nm q C N bs bm m5 sn sub ab col dd k0 k1 k2 k3 k5 pe)/\W.tailIn K Ls bm=ag/\(bE C::bm).contains (.ref P)=ag/\(bE C::bm).contains (.type mm)=ag
def abS{K:af}(l:K.lookup C=aa (fe nm q C N bs a e sn sub f col dd k0 g h i j pe))
(t:W.tailIn K Ls a=ag)(c:(bE C::a).contains (.ref P)=ag)(b:(bE C::a).contains (.type mm)=ag):∃nm q N bs a e sn sub f col dd k0 g h i j,K.lookup C=aa (fe nm q C N bs a e sn sub f col dd k0 g h i j pe)/\W.tailIn K Ls a=ag/\(bE C::a).contains (.ref P)=ag/\(bE C::a).contains (.type mm)=ag:=
 ⟨_,_,_,_,_,_,_,_,_,_,_,_,_,_,_,_,l,t,c,b⟩
section
variable {K:af}
def Tn.cls(h:Tn K C P):aeV K C:=⟨h.hd,h.po,h.so,h.sa⟩
def Tn.get(h:Tn K C P):Pp K C:=⟨h.hd,h.ga,h.gh,h.sb,h.cl,h.cg,h.tk,h.ob⟩
def Tn.obj(h:Tn K C P):W1 K C:=by obtain⟨nm,q,N,bs,a,b,sn,sub,c,col,dd,k0,e,f,g,i,l,t,_⟩:=h.oc;exact⟨nm,q,N,bs,a,b,sn,sub,c,col,dd,k0,e,f,g,i,l,λh X=>W.tail_of_in X t⟩
theorem Tn.sub(h:Tn K C P)(b:Tn K P Q):Lo K C P:=by obtain⟨nm,q,N,bs,x,y,sn,sub,z,col,dd,k0,A,B,E,G,l,t,c,_⟩:=h.oc;obtain⟨a,H,I,e,f,g,i,j,m,n,J,o,p,r,s,u,v,L,M,w⟩:=b.oc;exact⟨⟨_,_,_,_,_,_,_,_,_,_,_,_,_,_,_,_,l,c⟩,⟨_,_,_,_,_,_,_,_,_,_,_,_,_,_,_,_,v,w⟩⟩
structure ExI(K:af)(C f:aw)(q:aY)(st:cZ):Prop where
 init:aF K (.ref C) kz=aa (aa (.ref f))
 ex:∃fd,vZ K kz q st f fd
 fn:W.isFn K (.ref f)=ag
end
abbrev sl(ss:List aY):D:=.lst (ss.map .str)
def spT (K:af)(C:aw)(c e:aY):Sp:=λf H Q _=>∃x w a ss,f=[.ref x,.str w,.ref a]/\w.length<=4000/\H a=aa (.lst (ss.map V.str))/\pl (sl ss)=ag/\(dA.shown (toP (sl ss))).length<=4000/\H x=aa (Dn x C ar)/\
 ∀b l,H b=ar->H l=ar->l≠b->Q .non (cH (upd H l (.lst (ss.map V.str))) x b C [(c,.str w),(e,.ref l)])
section
variable {k:Nat} {es:List bI}
structure ae4(P:bc)(w:bJ)(K:af)(mg:aY->Option ai)(cq:aC)(k:Nat)(x:aY)(C:aw)(f1 f2:aY):Prop where
 m:mg x=aa (.ref C)
 ok:∃f fd ps,XMk K C f/\Binds K fd ps []/\j9 P w K mg cq rW k f fd ps (spT K C f1 f2)
end
noncomputable def Ie(M:Ms):Nat->D->D
 |0,d=>d
 |n+1,d=>match vw M d with
  |.lst ds=>.lst (ds.map (Ie M n))
  |.tup ds=>.tup (ds.map (Ie M n))
  |z=>z
section
variable {K:af}
theorem BR{b:Hp}{f:D->D}(h:∀d v,Rep K α H d v->Rep K α b (f d) v):∀(ds:List D) (a:List V),hW K α H ds a->hW K α b (ds.map f) a
 |[],a,r=>by unfold hW at r;subst r;exact hW.nil
 |d::ds,a,r=>by unfold hW at r;obtain⟨v,r,rfl,z,y⟩:=r;exact hW.cons (h d v z) (BR h ds r y)
theorem FW(o:OK K F α H M):∀(n:Nat) (d:D) (v:V),Rep K α (jo F α M H) d v->Rep K α (kN F H) (Ie M n d) v
 |0,d,v,h=>Rep.mono (aV _) oN d v h
 |n+1,d,v,h=>by
  have b:=wt o d v h;unfold Ie;generalize e:vw M d=z at b |-;cases z<;>first|exact b|skip
  .cases d<;>first|(cases e;done)|skip
   .cases e;unfold Rep at h;obtain⟨a,c,rfl,g,z⟩:=h;show Rep K α _ (.tup _) _;unfold Rep;exact⟨a,c,rfl,lX oN g,BR (FW o n) _ _ z⟩
   .rcases iS e with e|⟨x,i,e⟩
    .cases e
    .cases x<;>cases e
  .obtain⟨a,c,rfl,q,r⟩:=jh o h e;unfold Rep at b;obtain⟨j,m,e',f,p⟩:=b;cases e';have:=ip _ _ f;rw[q] at this;cases this;show Rep K α _ (.lst _) _;unfold Rep;exact⟨a,c,rfl,f,BR (FW o n) _ _ r⟩
def Xc (n m:Nat)(tb:DS):GP:=λds Q=>ds.length=m/\tb ⟨λ_ _=>Q .non,λd a=>nl (Ie a 3 d)=ag/\Q (Ie a 3 d),λ_ _=>False,λ_ _=>False⟩ (ou n ds) []
def Xd{n:List aY}{ps:List aY}{X:Cx}{body:List cZ}{tb:DS}(f:C9 X body tb){H:Hp}{c:List V}{Q:VK}{E:XK}(i:X.K=K)(h:kC K (cl (Xc n.length ps.length tb)) c H Q E):
  ∃t,QB X body t/\t {nx:=λ_ b=>Q .non b,rt:=Q} (L2.start n c) H:=by
 subst i;obtain⟨F,α,M,ds,o,r,hn,w,q⟩:=h;have j:OK X.K (lv α M++F) [] H []:=⟨rfl,eP,λa ha=>⟨by simp,by
  rcases bt.mp ha with ha|ha
  .exact o.MN a ha
  .exact(o.fr a ha).2⟩,λa ha=>(by simp at ha),λk x h=>(by simp at h),o.tb⟩
 have m:hW X.K [] (jo (lv α M++F) [] [] H) ds c:=hW.nl ds c hn r;refine⟨_,⟨f.p⟩,lv α M++F,[],ou n.length ds,[],AK j m,?_⟩;refine f.mono _ _ _ _ ?_ q;refine⟨λy s q z u b e r=>?_,λd s q v u b e g r=>?_,λ_ _ q=>q.elim,λ_ _ q=>q.elim⟩
 .obtain⟨e1,o1⟩:=lM o e r.ok;exact q _ α b e1 o1 oJ
 .obtain⟨e1,o1⟩:=lM o e g;exact q.2 v α b e1 o1 (Rep.nl _ _ q.1 (FW g 3 d v r))
end
def abT{P:bc}{w:bJ}{K:af}{mg:aY->Option ai}{cq:aC}{x:aY}{st:cZ}{N a:List aY}{k:Nat}{body:List cZ}{scope:dj}{tb:DS}(F:ig K mg x st)(b:iZ st=body)(es:iE st=scope)(S:jP N a scope)
(hb:∀(kV doc pm:ai) (an:Option aw) (iQ ct:ai) (us:List ai),us.length=a.length->dI (dy x x (jT st) (iZ st) (iE st) .none kV doc pm an iQ ct) ⟨us,[]⟩=pure (a.zip us))
(c:∀(f:aw) (iQ:ai) (A:bH) (cv:List aie) (s:av) (H:Hp) (E:XK),jd k (A.deeper (dZ x scope s.heap.objs.size f iQ))->C9 (qZ rW P w K mg cq N x scope f iQ A cv s H E).DY body tb):
  lW P w K mg cq (k+1) x a (kC K (cl (Xc N.length a.length tb))):=
 F.aaK b es S hb (λe H Q E zq=>by obtain⟨F,α,M,ds,o,r,hn,g,q⟩:=zq;rw[<-hW.length _ _ r];exact g) λf iQ A cv s H e Q E i h=>Xd (ps:=a) (c f iQ A cv s H E i) rfl h
end L3
namespace L2
section
variable {X:Cx}
def To(hc:X.calm=ag):lV X (.builtin "any") (λxs H Q=>∃(a:aw) (bs:List Bool),xs=[V.ref a]/\l9 X.K H a (bs.map V.bl)/\Q (.bl (bs.any id)) H):=by
 intro cc s σ H xs us Q I r h;obtain⟨a,bs,rfl,m,q⟩:=h;obtain⟨u,rfl,c⟩:=vals1 r;cases c;obtain⟨iq,f,p,L⟩:=I.list m;have w:X.A.in1.handled=ar:=I.ok.hd hc;refine call_any_walk (dL p.isList ?_);have y:a<s.heap.objs.size:=by obtain⟨o,n,e,_⟩:=p;exact aM e
 have z:iq.length=bs.length:=by have:=f.length;rw[ao] at this;exact this.symm
 have B:∀(i:Nat) (v:ai),iq[i]?=aa v->v=.bool (bs.getD i au):=λi v e=>by
  have hi:i<iq.length:=(ak.mp e).1;have hb:(bs.map V.bl)[i]?=aa (V.bl (bs.getD i au)):=by rw[bh,bv,ax (by exact bw hi (gB z))];rfl
  obtain⟨u,g,c⟩:=f.get hb;rw[e] at g;cases g;exact c
 refine⟨s.heap.objs.size,_,_,_,_,_,λi=>bs.getD i au,rfl,aiR.list w s.heap.objs.size a (bd y) iq.toArray,⟨⟨_,aP _ rfl,rfl,rfl⟩,p.isList.push _⟩,λi v M N O C E=>?_,λT tk G=>?_⟩
 .have:=B i v (by simpa using C);subst this;exact cy E
 .have e:(cx iq.toArray.size).any (λi=>bs.getD i au)=bs.any id:=by
   rw[aR,z];have key:∀l:List Bool,(cx l.length).any (λi=>l.getD i au)=l.any id:=by
    intro l;rw[d9];simp only [List.any_eq_true,gF,id];constructor
    .rintro⟨i,hi,h⟩
     rw[bv,ax hi] at h;exact⟨_,fP hi,h⟩
    .rintro⟨x,J,h⟩
     obtain⟨i,hi,rfl⟩:=List.mem_iff_getElem.mp J;refine⟨i,hi,?_⟩;rw[bv,ax hi];exact h
   exact key bs
  rw[e];refine⟨.bl _,H,I.kept (t':=tk) λb o j=>?_,rfl,q⟩;exact G b o (by simpa using bd (aM j)) (aj _ j)
end
end L2
namespace L3
open L2
section
variable {X:Cx}
def Xe:GN:=λds M Q=>match ds with
 |[d]=>∃bs:List Bool,vw M d=.lst (bs.map D.bl)/\Q (.bl (bs.any id)) M
 |_=>False
def abU(hc:X.calm=ag:=by rfl):JB X (.builtin "any") Xe:=by
 refine⟨λds M P Q w q=>?_,λcc s σ H xs us Q I rs h=>?_⟩
 .match ds,q with
  |[d],⟨n,e,q⟩=>exact⟨n,e,w _ _ q⟩
 .obtain⟨F,α,M,ds,o,b,h⟩:=h;match ds,h,b with
  |[d],⟨bs,c,q⟩,b=>
   obtain⟨v,f,g⟩:=mq b;subst f;obtain⟨a,i,rfl,j,m⟩:=jh o g c;have:=BA bs i m;subst this;exact To hc cc s σ H _ us Q I rs ⟨a,bs,rfl,l9.of j,vK.now o q jb⟩
end
end L3
namespace L2
def Xf:V->List V->Hp->VK->Prop:=λx a H Q=>∃l xs i n y,x=.ref l/\a=[.int i,y]/\i=((n:Nat):Int)/\H l=aa (.lst xs)/\n<=xs.length/\xs.length+1<=aO/\Q .non (upd H l (.lst (xs.take n++y::xs.drop n)))
def PB:MtM X "list.insert" Xf:=by
 intro cc s σ H x C v us Q I b c h;obtain⟨l,xs,i,n,y,rfl,rfl,hi,a,E,G,q⟩:=h;cases b;obtain⟨u,w,rfl,f,g⟩:=c.two;obtain⟨t,rfl⟩:=f;obtain⟨z,iq,m,r,J,e⟩:=I.Fe a;have L:=bp;have j:fO i=ag:=ajb (by lia) (by lia);have o:¬(!fO i)=ag:=by rw[j];exact aS
 have p:iq.toArray.size<=aO:=by rw[aR];exact dF (J▸G)
 have A:=AutoSeq1.list_insert_list_int_val_1 l _ m i t w o p;refine gu F.slot_list_insert ⟨_,e,rfl⟩ F.entry_list_insert (F.args_list_insert_3 _ _ _) A ⟨e,?_⟩;refine⟨.non,_,I.Rr a e ?_ ((r.take n).append (.cons g (r.drop n))) ?_,rfl,q⟩
 .have B:¬(i<0):=by lia
  have hm:min i.toNat iq.length=n:=by lia
  simp[B,hm];exact fF (by rw[dN];exact aD _)
 .simp;lia
end L2
namespace L3
open L2
def uq:GM:=λd ds M Q=>match d,ds with
 |.loc k,[.int i,x]=>∃(es:List D) (n:Nat),M[k]?=aa (aa (.lst es))/\i=n/\n<=es.length/\es.length+1<=aO/\Q .non (M.set k (aa (.lst (es.take n++x::es.drop n))))
 |_,_=>False
def PC:JM X "list.insert" uq:=by
 refine⟨λd ds M P Q w q=>?_,λcc s σ H x xs v us Q I i rs h=>?_⟩
 .unfold uq at*;split at q
  .obtain⟨es,n,b,j,f,g,q⟩:=q;exact⟨es,n,b,j,f,g,w _ _ q⟩
  .exact q.elim
 .obtain⟨F,α,M,d,ds,ok,r,m,h⟩:=h;unfold uq at h;split at h
  .obtain⟨es,n,b,rfl,f,g,q⟩:=h;obtain⟨a,B,rfl,o,c,p⟩:=xL ok r b;obtain⟨u,y,z,A,e⟩:=v5 m;subst z;subst A;have C:=hW.length _ _ c;obtain⟨o2,e2⟩:=p _ _ (hW.append _ _ _ _ (hW.take n _ _ c) (hW.cons e (hW.drop n _ _ c)));exact PB cc s σ H _ _ v us Q I i rs ⟨a,_,_,n,y,rfl,rfl,rfl,o,by exact bG f (gB C),by exact C▸g,q _ α _ e2 o2 oJ⟩
  .exact h.elim
def ED (i j:Int):Prop:=i.natAbs<2^400/\j.natAbs<2^400
def NE(h:i.natAbs<2^400):bM.Int.intBits i<=2^20:=by
 unfold bM.Int.intBits;split
 .exact bD _
 .have:i.natAbs.log2<400:=by
   rcases Nat.eq_zero_or_pos i.natAbs with a|b
   .rw[a];decide
   .exact(Nat.log2_lt (dh b)).mpr h
  lia
def Xg:rS X (binaryOp .Mult) (rI ED λi j=>.int (i*j)):=opI λ_ _ _ _ _ _ _ hc q=>mul_int q (.of_bits (NE hc.1) (NE hc.2))
def Xh:JO X .Mult (gI ED λi j=>.int (i*j)):=⟨AL,λcc s σ H x y v u Q I a b h=>by
 obtain⟨F,α,M,c,e,o,f,g,h⟩:=h;cases c<;>cases e<;>first|exact h.elim|skip
 exact Xg cc s σ H x y v u Q I a b ⟨_,_,f,g,h.1,vK.now o h.2 i8⟩⟩
end L3
namespace L2
def Lu:aiN (.type qb) "__len__"=pure ar:=by kernel_rfl
def Tp:aiN (.type qb) "__length_hint__"=pure (aa (.builtin uaS)):=by kernel_rfl
section
variable {A:bH} {s:av}
def Lv(B:A.handled=ar)(C:l≠I)(g:s.heap.IsRevIter I l ((items.size:Int)- 1))(G:s.heap.IsList l items)(H:items.size<=aO)(S:aw)(res:ai)(j:Nat)
(m:S≠I)(p:S≠l)(J:s.heap.get? S=aa {cls:=.type cr,data:=.seq #[] j})
(L:∀q tk n h,(∀b o,b≠S->b≠I->s.heap.get? b=aa o->q.get? b=aa o)->q.get? S=aa {cls:=.type cr,dict:=ar,data:=.seq n h,slots:=#[]}->
   ai6 (λi v=>items[items.size- 1- i]?=aa v) n items.size->R (.ok (.ret res)) {s with heap:=q,toks:=tk}):
  wpAny (model prog w) A.in1 (fN (.ref S) (.ref I) res)
   (λM a=>match M with|.done f=>R (.ok f) a|.again h=>h.quiet=ag/\codeAny (model prog w) A h R a) (λe a=>R (.error e) a) s:=by
 have W:=(aiR.listRev (prog:=prog) (w:=w) (A:=A.in1) B I l C items).toS;unfold fN;refine ae (aiU (T:=qb) g.typeIs ?_);have N:bM.List.listSameRef (.ref S) (.ref I)=au:=by simp[bM.List.listSameRef,m]
 have O:(c8 qb==c8 cr)=au:=by decide
 have Q:(c8 qb==c8 ej)=au:=by decide
 simp only [N,O,Q,Bool.or_false,dX,if_false];refine ae (wpAny_pyIter_revIter g ?_);refine ae (bR ?_);unfold bM.List.listLengthHint;refine ae (gM g.typeIs Lu ?_);refine ae (gM g.typeIs Tp ?_);generalize jo:(uaS:String)=r
 wp_delta
 rw[show splitId r=aa (qb,"__length_hint__") from by subst jo;decide+kernel];subst jo;refine ae (ai3 (T:=qb) (b:=ag) g.typeIs (by rw[isSubtype_type];kernel_rfl) ?_);refine akb (λu=>absurd u (by decide)) (λ_=>?_);refine ay ?_;refine ay ⟨aiM F.plain_extend_loop _,?_⟩;have x:s.heap.IsRevIter I l ((items.size:Int)- 1- ((0:Nat):Int)):=by simpa using g
 refine codeAny_extend_loopS W H S (by simp[m,p]) res items.size 0 _ #[] j rfl (bD _) ⟨bD _,x,G⟩ J (ai6.nil _) λa n h hm y U=>?_;rw[akj.eq_with hm];refine L a.heap a.toks n h (λb o hb z e=>hm.heap b o (λc=>?_) e) y U;rcases aH.mp c with e'|c
 .exact hb e'
 .exact z (bj.mp c)
def Dq(z:A.handled=ar)(B:l≠I)(p:s.heap.IsRevIter I l ((items.size:Int)- 1))(q:s.heap.IsList l items)(C:items.size<=aO)
(G:∀c tk f h,(∀b o,b≠I->s.heap.get? b=aa o->c.get? b=aa o)->
   c.get? s.heap.objs.size=aa {cls:=.type cr,dict:=ar,data:=.seq f h,slots:=#[]}->ai6 (λi v=>items[items.size- 1- i]?=aa v) f items.size->Q (.ref s.heap.objs.size) {s with heap:=c,toks:=tk}):
  wpAny (model prog w) A (call (.type cr) [.ref I]) Q E s:=by
 refine akk (Q₁:=λobj u=>obj=.ref s.heap.objs.size/\u={s with heap:=s.heap.push {cls:=.type cr,data:=.seq #[]}}) F.called_list (F.typeCall_list_1 _) F.entry_list_init
  (code_list_new _ ⟨rfl,rfl⟩) λobj u H=>?_
 obtain⟨rfl,rfl⟩:=H;have g:(s.heap.push {cls:=.type cr,data:=.seq #[]}).get? s.heap.objs.size=aa {cls:=.type cr,data:=.seq #[]}:=aP _ rfl;obtain⟨N,j,_⟩:=id p;obtain⟨O,J,_⟩:=id q;have x:s.heap.objs.size≠I:=λe=>cC _ (e▸aM j);have y:s.heap.objs.size≠l:=λe=>cC _ (e▸aM J);refine⟨⟨_,g,rfl⟩,F.args_list_init_2 _ _,?_⟩;show wpAny _ _ (do let old<-bM.List.listItems (.ref s.heap.objs.size);bM.List.listUpdate (.ref s.heap.objs.size) (λ_=>#[]);letGo old.toList.reverse;fN (.ref s.heap.objs.size) (.ref I) .none) _ _ _;refine ae ?_;unfold bM.List.listItems;refine ae (dz g rfl (ay ?_));refine ae (wpAny_updateSeq g rfl ?_);have m:=cX (bX (λ_=>(#[]:Array ai))) g rfl;have a:∀b o,b≠s.heap.objs.size->s.heap.get? b=aa o->((s.heap.push {cls:=.type cr,data:=.seq #[]}).update s.heap.objs.size (bX (λ_=>(#[]:Array ai)))).get? b=aa o:=
  λb o hb e=>(cz _ _ (b8 hb)).trans (aj _ e)
 refine ae (aiC ?_);refine Lv (A:=A.in1) z B (p.at λo e=>a _ o (b8 x) e) (q.at λo e=>a _ o (b8 y) e) C _ .none _ x y m λc tk f h L n M=>?_;exact⟨rfl,G c tk f h (λb o hb e=>L b o (bd (aM e)) hb (a b o (bd (aM e)) e)) n M⟩
end
section
variable {X:Cx} {e:bI}
def ae7 (K:af)(te:TE):TE:=λσ H Q=>te σ H λx H1=>∃a xs,x=.ref a/\l9 K H1 a xs/\∀p,H1 p=ar->Q (.ref p) (upd H1 p (.lst xs.reverse))
def PD{iq:List ai}(h:ai6 (λi v=>iq.toArray[iq.toArray.size- 1- i]?=aa v) acc iq.toArray.size):acc=iq.reverse.toArray:=by
 obtain⟨a,b⟩:=h;apply Array.ext
 .simp[a]
 .intro i hi c;have:=b i _ (dq hi);simp only [List.getElem?_toArray] at this;simp only [List.getElem_toArray,List.getElem_reverse];obtain⟨_,e⟩:=ak.mp this;exact e.symm
def Xi(y:X.A.handled=ar)(z:PE X e te)(ml:X.mg cr=ar)(B:X.mg mo=ar)(C:Gl X cr:=by rfl)(E:Gl X mo:=by rfl)
(j:bg [.Call (.Name mo p2) [e] [] wF] X.env=[(au,eval (.Call (.Name mo p2) [e] [] wF) X.env)]:=by rfl)(m:bg [e] X.env=[(au,eval e X.env)]:=by rfl):
  PE X (.Call (.Name cr p) [.Call (.Name mo p2) [e] [] wF] [] pos) (ae7 X.K te):=by
 intro cc s σ H Q I h;have f:wpAny (model X.prog X.w) X.A (eval (.Call (.Name mo p2) [e] [] wF) X.env) (λv s2=>wpAny (model X.prog X.w) X.A (call (.type cr) [v]) (EP X cc σ Q) X.xe s2) X.xe s:=by
  refine cR (rO I E B (by rfl) ?_ (by decide) (by decide));refine cM (j4 (AG z E7 m wF cc s σ H (λg H1=>match g with|[x]=>∃a xs,x=.ref a/\l9 X.K H1 a xs/\∀p,H1 p=ar->Q (.ref p) (upd H1 p (.lst xs.reverse))|_=>False) I h) λus s1 G=>?_) m rfl;obtain⟨g,H1,I1,i,J⟩:=G;match g,J,i with
  |[x],⟨a,xs,ex,L,q⟩,i=>
   subst ex;obtain⟨u,rfl,M⟩:=i.one;cases M;obtain⟨iq,n,pl,N⟩:=I1.list L;have je:=n.length;obtain⟨o,O,_⟩:=pl.isList;have T:=aM O;refine call_reversed_list pl.isList ?_;refine Dq y (bd T) ⟨_,aP _ rfl,rfl,rfl⟩ (pl.isList.push _) (by rw[aR];exact je▸N) λU tk acc c Y hS Tq=>?_;have ea:=PD Tq;subst ea;have ok:jB X.prog X.w (upd H1 (s1.heap.push (revObj a ((iq.toArray.size:Int)- 1))).objs.size (.lst xs.reverse)) U (s1.heap.push (revObj a ((iq.toArray.size:Int)- 1))).objs.size (.lst xs.reverse):=
    ⟨by rw[List.length_reverse];exact N,_,c,n.reverse,hS⟩
   have r:s1.heap.objs.size<=(s1.heap.push (revObj a ((iq.toArray.size:Int)- 1))).objs.size:=by rw[ah1];exact cw _
   exact⟨.ref _,_,I1.laid (t':=tk) (λb o e=>Y b o (bd (aM e)) (aj _ e)) r ok,rfl,q _ (I1.iO.fresh r)⟩
 refine cR (rO I C ml (by rfl) ?_ (by decide) (by decide));refine cM ?_ j rfl;rw[j];exact Calls.spliced_cons (j4 f λv s2 w=>Calls.spliced_nil w)
end
end L2
def L2.PF(m:A.units<PySem.cLine)(o:s.heap.IsTuple l #[p,q])(u:s.heap.IsTuple r #[v,x])
(y:PySem.SeqAt.EqAt A.in1 s p v ag)(b:∀(R:Bool->PySem.Shared->Prop) (B:PySem.Value->PySem.Shared->Prop),R ag s->PySem.wpAny (PySem.model prog w) A.in1 (PySem.eqBool q x) R B s)(h:Q (.bool au) s):
  PySem.wpAny (PySem.model prog w) A (PySem.compareOp .NotEq (.ref l) (.ref r)) Q E s:=by
 open PySem PySem.Spec PyProof.Rows in
 obtain⟨⟨cls,dd,data,sl⟩,c,hc,n,hd⟩:=id o;obtain⟨⟨C,G,data2,H⟩,e,f,J,i⟩:=id u;simp only at hc hd f i;subst hc hd f i;show wpAny (model prog w) A (richCompare .NotEq (.ref l) (.ref r)) Q E s;have j:s.TypeIs (.ref l) ej:=⟨_,c,rfl⟩;have I:s.TypeIs (.ref r) ej:=⟨_,e,rfl⟩;refine ai7 j I PySem.F.slot_tuple_ne (cD PySem.F.slot_tuple_ne j PySem.F.entry_tuple_ne ?_ (PySem.F.args_tuple_ne_2 _ _)) m;have L:=AutoSeq1.sub_tuple_tuple;obtain⟨M,g,d,tk,os⟩:=s;have a:=y prog w;refine ae (ay ?_);dsimp only;generalize N:eqBool=O at a b |-
 wp_walk using wpAny_loadPart' c,wpAny_loadPart' e
 refine a _ _ ?_
 wp_walk
 refine b _ _ ?_
 wp_walk
 exact⟨_,rfl,(λz=>nomatch z),h⟩
namespace L3
open L2
section
variable {X:Cx}
def NF:G2:=λx y M Q=>NA x y M λ_ a=>Q (.bl au) a
def Lw:ud NF:=λx y M P Q w q=>Lh x y M _ _ (λ_ _=>w _ _) q
set_option tactic.hygienic true in
def abW(j:X.A.units+66<eC):JC X .NotEq NF:=by
 refine⟨Lw,λcc s σ H x y v u Q I m n h=>?_⟩;obtain⟨F,α,M,da,db,o,w,B,h⟩:=h;unfold NF NA at h;split at h
 .rename_i a d b e e1 e2;obtain⟨⟨⟨c1,f,c3,c4⟩,ee⟩,⟨ks,ds,y6,Pj,C,E,G⟩,q⟩:=h;obtain⟨l,J,rfl,s1,L⟩:=lu o w e1;obtain⟨r,ws,rfl,s2,N⟩:=lu o B e2;obtain⟨v1,v2,rfl,a1,a2⟩:=v5 L;obtain⟨O,w2,rfl,b1,b2⟩:=v5 N;obtain rfl:v=bE l:=m;obtain rfl:u=bE r:=n;obtain⟨i1,T,U,_⟩:=I.tuple s1;obtain⟨i2,Y,t2,_⟩:=I.tuple s2;obtain⟨g,m2,rfl,k1,k2⟩:=vals2 T;obtain⟨i,n2,rfl,j1,j2⟩:=vals2 Y;obtain⟨as,y1⟩:=Rep.reads I _ v1 g (Rep.mono (aV _) ip _ _ a1) k1 c1;obtain⟨bs,y2⟩:=Rep.reads I _ O i (Rep.mono (aV _) ip _ _ b1) j1 f;obtain⟨p,p',J,ws,rfl,rfl,h1,h2,d1,d2,hl,he⟩:=Li j I o a2 b2 C E G;obtain rfl:m2=bE p:=k2;obtain rfl:n2=bE p':=j2;have dd:=toP_depth a;have c:=SeqAt.eqAt_reads (toP a) (toP b) X.A.in1 s g i as bs y1 y2 (toP_lay a c1) (toP_lay b f) (by show X.A.units+1+_<_;lia);rw[toP_eqv a b c1 f,ee] at c;exact PF (by lia) U t2 c (λR E' z=>S0 (by show X.A.units+1<_;lia) h1 h2 d1 d2 hl he z) ⟨.bl au,H,I,rfl,vK.now o q jb⟩
 .exact h.elim
def Zp (te:DE):DF:=λa M Q=>te a M λd M1=>∃xs,vw M1 d=.lst xs/\Q (.lst xs.reverse) M1
def Xj(h:X.A.handled=ar)(ml:X.mg cr=ar)(i:X.mg mo=ar)(c:JE X e te)(j:Gl X cr:=by rfl)(m:Gl X mo:=by rfl)
(n:bg [.Call (.Name mo p2) [e] [] wF] X.env=[(au,eval (.Call (.Name mo p2) [e] [] wF) X.env)]:=by rfl)(o:bg [e] X.env=[(au,eval e X.env)]:=by rfl):
  JF X (.Call (.Name cr p) [.Call (.Name mo p2) [e] [] wF] [] pos) (Zp te):=by
 refine⟨λb M P Q w q=>c.mono b _ _ _ (λd M1 q=>?_) q,PE.weak (Xi h c.p ml i j m n o) λσ H Q q=>?_⟩
 .obtain⟨xs,f,q⟩:=q;exact⟨xs,f,w _ _ q⟩
 .obtain⟨F,α,b,M,r,q⟩:=q;refine⟨F,α,b,M,r,c.mono b _ _ _ (λd M1 q v s H1 e1 o1 u=>?_) q⟩;obtain⟨xs,f,q⟩:=q;obtain⟨a,x,rfl,y,z⟩:=jh o1 u f;exact⟨a,x,rfl,l9.of y,λp2 g=>q p2 _ s _ e1 o1 g ⟨_,rfl,HZ z⟩⟩
end
section
variable {X:Cx} {st:cZ} {t:DS}
def dPl (i:Nat)(t:DS):DS:=λE a M=>∃(k:Nat) (b:List Key) (ds:List D),a[i]?=aa (aa (.loc k))/\M[k]?=aa (aa (.jD b ds))/\t E (a.set i (aa (.jD b ds))) (M.set k ar)
def ae8(i:Nat)(h:JS X st t):JS X st (dPl i t):=by
 refine⟨λP Q s M w q=>?_,PS.weak h.p λE σ H q=>?_⟩
 .obtain⟨k,c,ds,a,b,q⟩:=q;exact⟨k,c,ds,a,b,h.mono _ _ _ _ w q⟩
 .obtain⟨F,α,s,M,r,k,c,ds,a,b,q⟩:=q;obtain⟨v,e,u⟩:=r.sl i _ a;unfold Rep at u;obtain⟨ad,m,rfl⟩:=u;obtain⟨J,y,B,C,n,G⟩:=r.ok.own k _ b;rw[m] at y;cases y;obtain⟨o2,e2⟩:=r.ok.give k;have o:Rep X.K α (jo F α (M.set k ar) H) (.jD c ds) (.ref ad):=by
   unfold Rep;refine⟨ad,B,rfl,Rd.of (jz (λw=>?_) C rfl),n,e2.Bk G⟩;rcases bt.mp w with w|w
   .obtain⟨j,x,z,f⟩:=mh.mp w;have:j=k:=(fE (ak.mp z).1 r.ok.nd).mp (z.trans m.symm);subst this;by_cases n:j<M.length
    .rw[bn n] at f;cases f
    .rw[eF (by rw[c9];exact Nat.le_of_not_lt n)] at f;cases f
   .exact(r.ok.fr ad w).1 (bA m)
  refine⟨F,α,s.set i (aa (.jD c ds)),M.set k ar,⟨o2,by rw[c9];exact r.len,λj d g=>?_⟩,h.mono _ _ _ _ (ph.grow e2) q⟩;by_cases A:i=j
  .subst A;rw[bn (ak.mp a).1] at g;cases g;exact⟨_,e,o⟩
  .rw[aJ A] at g;obtain⟨v,e3,I⟩:=r.sl j d g;exact⟨v,e3,e2.rep I⟩
end
end L3
namespace L2
noncomputable def Itk(a:aw)(o:cB)(b:List (Key×V)):It:=⟨λi H=>H a=aa (.om o (.dK b))/\i<b.length,
 λi H x c=>∃k v,x=kV k/\b[i]?=aa (k,v)/\c=H,λi H=>H a=aa (.om o (.dK b))/\i=b.length⟩
def tnK (it a:aw)(o:cB)(n:Nat)(i:Nat)(h:aC):Prop:=∃es b,o.data=.dict es b/\h.IsKeyIter it a i n b
def PH{P:bc}{w:bJ}{K:af}{tg:bI}(it a:aw)(o:cB)(r:List (Key×V)):Turn P w K tg (Itk a o r) [it] it (tnK it a o r.length) where
 mem:=by simp
 obj:=λi h st b hb=>by obtain⟨es,f,_,ob,e,c,d⟩:=st;cases bj.mp hb;exact⟨ob,e,λv z=>by rw[d] at z;cases z⟩
 keep:=λi h n st k=>by obtain⟨es,f,d,e⟩:=st;exact⟨es,f,d,e.at λo e=>k it (by simp) o e⟩
 item:=by intro X x hw y hc i cc s σ H E I q st B;subst x hw y;obtain⟨es,f,d,e⟩:=st;obtain⟨C,hi⟩:=B;obtain⟨g,z,hd,U,rel,ob,Y,Yx,j,c1,m,G⟩:=(I.iO a _ C);rw[g] at j;cases j;rw[d] at m;cases m;obtain⟨⟨k,v⟩,O⟩:∃p,r[i]?=aa p:=⟨_,ax hi⟩;obtain⟨u,hu,ru⟩:=Nv rel O;rw[rel.length] at e;obtain⟨f0,J,f2,L,M,N⟩:=q it (by simp);refine wpAny_pyNext_dict_item (knd:=iM X.prog X.w) e ⟨o,es,g,c1,d,G⟩ hu λkey n hk T sb=>?_;have I1:Inv X cc σ H {s with heap:=n}:=I.turned (t':=s.toks) (λb o hb e=>(sb.2 b hb).trans e) f0 J L M N;exact⟨key,rfl,letGo_keyiter (s':={s with heap:=n}) T ⟨kV k,H,I1,Ze hk,⟨k,v,rfl,O,rfl⟩,⟨es,f,d,by rw[rel.length];exact T⟩,λb hb=>(q b hb).1⟩⟩
 done:=by intro X x hw y hc i cc s σ H E I q st B;subst x hw y;obtain⟨es,f,d,e⟩:=st;obtain⟨C,rfl⟩:=B;obtain⟨g,z,hd,U,rel,ob,Y,Yx,j,c1,m,G⟩:=(I.iO a _ C);rw[g] at j;cases j;rw[d] at m;cases m;rw[rel.length] at e;obtain⟨f0,J,f2,L,M,N⟩:=q it (by simp);exact wpAny_pyNext_dict_end (knd:=iM X.prog X.w) (I.ok.hd hc) e ⟨o,es,g,c1,d,G⟩ (by simp) λn eb=>⟨rfl,I.turned (t':=s.toks) (λb o hb e=>eb b o hb e) f0 J L M N⟩
 self:=λA i s Q E st h=>by obtain⟨es,f,d,e⟩:=st;exact wpAny_pyIter_keyiter e h
section
variable {X:Cx}
def ae9 (X:Cx)(to:TE):TI:=λσ H R=>to σ H λx H1=>∃a b,x=.ref a/\
 ((H1 a=aa (.dK b)/\∀o,(∀o u,X.iH a≠aa (.om o u))->R (Itk a o b) (upd H1 a (.om o (.dK b))))\/∃o,H1 a=aa (.om o (.dK b))/\R (Itk a o b) H1)
def Xk(w:PE X o to):PI X tg o (ae9 X to):=by
 intro cc s σ H R I h;refine j4 (w cc s σ H _ I h) λv s1 y=>?_;obtain⟨x,H1,I1,A,a,i,e,q⟩:=y;subst e;obtain rfl:v=bE a:=A;have key:∃f ob,f a=aa (.om ob (.dK i))/\Inv X cc σ f s1/\R (Itk a ob i) f:=by
  rcases q with⟨j,q⟩|⟨ob,j,q⟩
  .obtain⟨ob,g,c,B⟩:=I1.freeze j;exact⟨_,ob,il,c,q ob B⟩
  .exact⟨H1,ob,j,I1,q⟩
 obtain⟨f,ob,C,c,q⟩:=key;have m:=(c.iO a _ C);obtain⟨n,z,hd,L,rel,E,es,G,p,c1,r,J⟩:=m;rw[n] at p;cases p;refine wpAny_pyIter_dict hd ⟨ob,es,n,c1,r,J⟩ ?_;refine⟨_,[_],tnK _ a ob _,Itk a ob i,f,rfl,c.kept (λb u e=>aj _ e),PH _ a ob i,⟨es,G,r,?_⟩,λb hb=>?_,q⟩
 .rw[rel.length];exact⟨_,aP _ rfl,rfl,rfl⟩
 .cases bj.mp hb;exact c.G9 (aD _) (c.iO.fresh (aD _))
end
end L2
namespace L3
open L2
section
variable {X:Cx}
def NG{M1:Ms}{b:List Key}(g:jo F c M1 H1 a=aa (.om ob (.dK (b.zip e))))(w:b.length=ds.length)(q:hW X.K c (jo F c M1 H1) ds e):
  Wg X.K F c H1 M1 (Itk a ob (b.zip e)) (b.map zY) (λ_=>True):=by
 have lv:=hW.length _ _ q;have r:(b.zip e).length=(b.map zY).length:=by rw[cJ,ao];lia
 refine⟨λi h j m n p s o _ hi=>⟨(iG (s a _ g)).2,by exact r▸hi⟩,λi h j m n x z d A s o _ hd y=>?_,λh j m n p s o _=>⟨(iG (s a _ g)).2,r.symm⟩⟩;obtain⟨k,v,rfl,f,rfl⟩:=y;have u:=(cK.mp f).1;rw[bh,u] at hd;cases hd;exact⟨o,Ext.refl,Nw k⟩
def Tr (to:DE):DI:=λb M Q=>to b M λd M1=>∃a ds,d=.jD a ds/\Q (a.map zY) (λ_=>True) M1
def Xl(c:JE X o to):JI X tg o (Tr to):=by
 refine⟨λb M P Q w q=>c.mono b _ _ _ (λd M1 q=>?_) q,PI.weak (Xk c.p) λσ H Q q=>?_⟩
 .obtain⟨f,ds,e,q⟩:=q;exact⟨f,ds,e,w _ _ _ q⟩
 .obtain⟨F,α,b,M,r,q⟩:=q;refine⟨F,α,b,M,r,c.mono b _ _ _ (λd M1 q v i H1 e1 o1 n=>?_) q⟩;obtain⟨f,ds,rfl,q⟩:=q;obtain⟨a,s,rfl,g,j,m⟩:=n;refine⟨a,f.zip s,rfl,?_⟩;rcases g with h|⟨ob,h⟩
  .obtain⟨na,ha⟩:=iG h;refine .inl ⟨ha,λob u=>?_⟩;have z:=Hq.dict (ob:=ob) o1 ha na u;exact q _ i H1 _ _ e1 o1 z (NG (jz na il rfl) j (hW.imp z.rep _ _ m))
  .obtain⟨na,ha⟩:=iG h;exact .inr ⟨ob,ha,q _ i H1 H1 id e1 o1 (Hq.refl o1) (NG h j m)⟩
end
noncomputable def tgN:bI->List aY
 |.Name x _=>[x]
 |.Tuple es _ _=>es.filterMap λe=>match e with|.Name x _=>aa x|_=>ar
 |_=>[]
noncomputable def Zq(N:List aY)(tg:bI)(fr:List (Option Nat)):List aY:=tgN tg++fr.filterMap λo=>o.bind λi=>N[i]?
section
variable {X:Cx} {iter:bI}
def afa(h:AI X.N (Zq X.N target fr) fr scope X.env.scope=ag)(hi:JI X target iter ti)(a:Hs g)
(b:∀C ex cc iA iH,JG (wn X scope (Zq X.N target fr) C ex cc iA iH λ_ _=>False) target g)(ht:∀C ex cc iA iH,JIf (wn X scope (Zq X.N target fr) C ex cc iA iH λ_ _=>False) ifs tt)(c:∀C ex cc iA iH,JE (wn X scope (Zq X.N target fr) C ex cc iA iH λ_ _=>False) elt te)
(e:X.calm=ag:=by rfl)(f:∀x,de iter X.env x=pure x:=by intro _;rfl):JF X (.ListComp elt [⟨target,iter,ifs,0⟩] scope pos) (jO fr ti g tt te):=
 MV (oq.of h) hi a b ht c e f
def afb{N:List aY}(h:decide N.Nodup=ag):N.Nodup:=of_decide_eq_true h
def afc(i:Nat){x:aY}{p b:eB}(c:X.N.Nodup)(h:AI X.N (Zq X.N target fr) fr scope X.env.scope=ag)(hi:JI X target iter ti)(e:Hs g)
(f:∀C ex cc iA iH,JG (wn X scope (Zq X.N target fr) C ex cc iA iH λ_ _=>False) target g)(ht:∀C ex cc iA iH,JIf (wn X scope (Zq X.N target fr) C ex cc iA iH λ_ _=>False) ifs tt)(j:∀C ex cc iA iH,JE (wn X scope (Zq X.N target fr) C ex cc iA iH λ_ _=>False) elt te)
(m:X.N[i]?=aa x:=by rfl)(n:Loc X.env.scope x:=by first|exact ah3 rfl|exact gQ rfl)
(a:eO (.ListComp elt [⟨target,iter,ifs,0⟩] scope pos) (aa (.Name x p)) b.line X.env=pure ag:=by rfl)(o:X.fn x=ag\/X.env.scope.names.lookup x=aa .local:=by first|exact .inl rfl|exact .inr rfl|assumption)
(q:X.calm=ag:=by rfl)(r:∀x,de iter X.env x=pure x:=by intro _;rfl):
  JS X (.Assign [.Name x p] (.ListComp elt [⟨target,iter,ifs,0⟩] scope pos) b) (iV i (jn (jO fr ti g tt te))):=R3 i c (oq.of h) hi e f ht j m n a o q r
end
end L3
end
local macro_rules | `(tactic| walk_at "u") => `(tactic| ((conv => whnf); first | refine ⟨_, rfl, ?_⟩ | refine ⟨rfl, ?_⟩ | refine ⟨aq rfl, ?_⟩))
local macro_rules | `(tactic| walk_at "h") => `(tactic| ((repeat walk_at "u"); try (conv => whnf)))
namespace FJ
open PySem PySem.Spec L2 L3
def BS (K:af):DS:=(iu (ue (iJ (kH K) (hU (hV 0) (hU (dC (.ty fw)) hX))) (Ei (iJ (kH K) (hU (hV 0) (hU (dC (.ty hB)) hX))))))
def y9 (K:af):DS:=(ii (i5 (Dh (mT (ie (iJ (kH K) (hU (hV 0) (hU (dC (.ty fx)) hX))))) (mT (ie (mj wx wx (dC (.int 1)) (iJ j3 (hU (hV 0) hX)) (dC (.int 8)))))) (iu (dC (.bl au))) iy)
 (iu (iJ OR (hU (jn (jO [ar] (jv (hV 0)) (ib 0) oO (mj wx wx (dC (.str "a")) (hV 0) (dC (.str "z"))))) hX))))
def BU (K:af):DS:=(Y6 K eR (hV 0) (hV 1))
def z6 (K:af):DS:=(iu (iJ Fw (hU (jn (jO [ar] (jv (Sm K eR (hV 0))) (ib 0) oO (dIf (ie (iJ (kH K) (hU (hV 0) (hU (dC (.ty ej)) hX)))) (nL (Qz wB (hU (hV 0) hX))) (hV 0)))) hX)))
def z7:DS:=(iu (nL (kY hX)))
def v7:DS:=(iu (dC (.bl au)))
def qg:DS:=(iu (dC (.bl ag)))
def xU:DS:=(iu (dC (.bl au)))
def rj (K:af):DS:=(iu (nL (Qz wB (hU (Vb (Sm K eR (hV 0)) (uj (dC (.int 2))) oQ) hX))))
def ur (K:af):DS:=(iu (nL (kY (hU (ij jl (Sm K eR (hV 0)) (OP (dC (.int 1)))) hX))))
def wM:DS:=(iu (dC (.bl au)))
def rm (K:af):DS:=(iu (nL (Qz wB (hU (ij jl (Sm K eR (hV 0)) (dC (.int 1))) hX))))
def si (K:af)(ut:GN):DS:=(ii (i5 (Dh (mT (ie (iJ (kH K) (hU (hV 1) (hU (dC (.ty cr)) hX))))) (mT (ie (mj wx wx (dC (.int 1)) (iJ j3 (hU (hV 1) hX)) (dC (.int 60)))))) (iu (dC (.bl au))) iy)
 (iu (iJ OR (hU (jn (jO [ar,aa 0] (jv (hV 1)) (ib 0) oO (iJ ut (hU (hV 1) (hU (hV 0) hX))))) hX))))
def BV (K:af)(c:GN)(a:GN)(b:GN):DS:=(ii (i5 (ie (ij tV (hV 0) (dC (.str mU)))) (iu (iJ c (hU (hV 1) hX))) iy)
 (ii (i5 (ie (ij tV (hV 0) (dC (.str lj)))) (iu (ue (iJ a (hU (hV 1) hX)) (mj wx wx (dC (.int 0)) (hV 1) (dC (.int 3))))) iy)
 (ii (i5 (ie (ij tV (hV 0) (dC (.str oo)))) (iu (ue (iJ a (hU (hV 1) hX)) (mj wx wx (dC (.int (-2147483648))) (hV 1) (dC (.int 2147483647))))) iy)
 (ii (i5 (ie (ij tV (hV 0) (dC (.str "truth")))) (iu (iJ (kH K) (hU (hV 1) (hU (dC (.ty hB)) hX)))) iy)
 (ii (i5 (ie (ij tV (hV 0) (dC (.str gr)))) (iu (iJ b (hU (dC (.str oo)) (hU (hV 1) hX)))) iy)
 (iu (iJ b (hU (dC (.str mU)) (hU (hV 1) hX)))))))))
def BW (K:af)(a:aw)(b:List (aY×D))(ut:GN):DS:=(ii (i5 (Dh (mT (ie (iJ (kH K) (hU (hV 0) (hU (dC (.ty ej)) hX))))) (ie (ij tV (iJ j3 (hU (hV 0) hX)) (dC (.int 0))))) (iu (dC (.bl au))) iy)
 (ii (i5 (Dh (mT (ie (iJ (kH K) (hU (ij jl (hV 0) (dC (.int 0))) (hU (dC (.ty fx)) hX))))) (ie (ij (Fz ag a b) (ij jl (hV 0) (dC (.int 0))) (dC (.cls a))))) (iu (dC (.bl au))) iy)
 (ii (iV 1 (ij (Fy a b) (dC (.cls a)) (ij jl (hV 0) (dC (.int 0)))))
 (ii (i5 (ie (ij Dl (iJ j3 (hU (hV 0) hX)) (ij iW (dC (.int 1)) (iJ j3 (hU (hV 1) hX))))) (iu (dC (.bl au))) iy)
 (iu (iJ OR (hU (jn (jO [ar,ar] (Sd (hU (hV 1) (hU (Vb (hV 0) (uj (dC (.int 1))) oQ) hX))) (jR 2 (iw (ib 0) (iw (ib 1) jZ))) oO (iJ ut (hU (hV 0) (hU (hV 1) hX))))) hX)))))))
def BX (a:aw)(b:GN)(c:aw)(e:GN)(f:aw)(g:GN)(h:aw)(i:GN)(j:aw)(m:GN)(n:aw)(o:GN):DS:=(ii (iV 1 (ij jl (hV 0) (dC (.int 0))))
 (ii (i5 (ie (ij tV (hV 1) (dC (.str fq)))) (iu (qO a b (hU (hV 0) hX))) iy)
 (ii (i5 (ie (ij tV (hV 1) (dC (.str ov)))) (iu (qO c e (hU (hV 0) hX))) iy)
 (ii (i5 (ie (ij (AO au) (hV 1) (i6 (hU (dC (.str qe)) (hU (dC (.str pj)) hX))))) (iu (qO f g (hU (hV 0) hX))) iy)
 (ii (i5 (ie (ij (AO au) (hV 1) (i6 (hU (dC (.str nP)) (hU (dC (.str nn)) hX))))) (iu (qO h i (hU (hV 0) hX))) iy)
 (ii (i5 (ie (ij (AO au) (hV 1) (i6 (hU (dC (.str oD)) (hU (dC (.str pr)) (hU (dC (.str oH)) hX)))))) (iu (qO j m (hU (hV 0) hX))) iy)
 (iu (qO n o (hU (hV 0) hX)))))))))
def Ig (K:af)(a:GN)(b:aw)(c:GN)(e:aw)(f:GN)(g:aw)(h:GN)(i:GN):DS:=(ii (i5 (mT (ie (iJ a (hU (hV 0) hX)))) (iu (dC .non)) iy)
 (ii (iV 1 (iJ Fw (hU (jn (jO [ar] (jv (hV 0)) (ib 0) oO (dIf (ie (iJ (kH K) (hU (hV 0) (hU (dC (.ty cr)) hX)))) (iJ Fw (hU (hV 0) hX)) (hV 0)))) hX)))
 (ii (i5 (ie (ij tV (ij jl (hV 1) (dC (.int 0))) (dC (.str ll)))) (iu (qO b c (hU (hV 1) hX))) iy)
 (ii (i5 (ie (ij tV (ij jl (hV 1) (dC (.int 0))) (dC (.str gr)))) (iu (qO e f (hU (hV 1) hX))) iy)
 (ii (i5 (ie (ij tV (ij jl (hV 1) (dC (.int 0))) (dC (.str hJ)))) (iu (qO g h (hU (hV 1) hX))) iy)
 (iu (iJ i (hU (hV 1) hX))))))))
noncomputable def low(x:aY):Bool:=x.cps.toList.all λc=>decide (97<=c)&&decide (c<=122)
noncomputable def oS(x:aY):Bool:=decide (1<=x.length)&&decide (x.length<=8)&&low x
noncomputable def nO(b:Int):Bool:=decide (0<=b)&&decide (b<=3)
noncomputable def okN(n:Int):Bool:=decide (-2147483648<=n)&&decide (n<=2147483647)
def kg:GP:=λds Q=>∃i:Int,ds=[.int i]/\Q (.bl ag)
def Aw:i9 kg:=by
 rintro ds P Q w ⟨i,h,q⟩
 exact⟨i,h,w _ q⟩
def Ih(K:af):∀ds Q,kg ds Q->j8 1 1 (BS K) ds Q:=by
 rintro ds Q ⟨i,h,q⟩
 subst h;exact⟨rfl,_,rfl,_,rfl,rfl,q⟩
def m6:GP:=λds Q=>∃w:aY,oS w=ag/\ds=[.str w]/\Q (.bl ag)
def BY:i9 m6:=by
 rintro ds P Q w ⟨i,a,h,q⟩
 exact⟨i,a,h,w _ q⟩
def AS{Q:DK}(h:a<=b)(q:Q (.bl ag) M):wx (.int a) (.int b) M Q:=by show Q _ M;rw[decide_eq_true h];exact q
def afd{Q:DK}(h:97<=c)(q:Q (.bl ag) M):wx (.str "a") (.str ⟨#[c]⟩) M Q:=by show Q (.bl (!decide ([c]<[97]))) M;rw[show decide _=au by simp[List.cons_lt_cons_iff];exact h];exact q
def afe{Q:DK}(h:c<=122)(q:Q (.bl ag) M):wx (.str ⟨#[c]⟩) (.str "z") M Q:=by show Q (.bl (!decide ([122]<[c]))) M;rw[show decide _=au by simp[List.cons_lt_cons_iff];exact h];exact q
def Ii{xs:List D}(q:Q (.bl ag) M):OR [.lst ([]++xs.map λ_=>D.bl ag)] M Q:=by refine⟨xs.map λ_=>ag,by rw[bx];rfl,?_⟩;rw[show(xs.map λ_=>ag).all id=ag by simp];exact q
def Lx(K:af):∀ds Q,m6 ds Q->j8 1 1 (y9 K) ds Q:=by
 rintro ds Q ⟨x,hw,h,q⟩
 subst h;unfold oS at hw;rw[aZ,aZ,decide_eq_true_eq,decide_eq_true_eq] at hw;obtain⟨⟨n,g⟩,i⟩:=hw;have b:x.length<=aO:=bG g (by decide);have a:=@AS;have e:=@afd;have f:=@afe;unfold y9;generalize wx=ge at a e f |-;refine⟨rfl,_,rfl,_,if_pos b,?_⟩;refine a (by exact Int.ofNat_le.mpr n) ?_;refine a (by exact Int.ofNat_le.mpr g) ?_;refine⟨_,rfl,rfl,?_⟩;refine k8 (λ_=>.bl ag) ?_ _ _ ?_ (λy j o m=>?_) ?_
 .exact rfl
 .rw[ck,bQ,ao];exact b
 .obtain⟨c,hc,rfl⟩:=bP.mp j;have:=bT.mp i c hc;rw[aZ,decide_eq_true_eq,decide_eq_true_eq] at this;exact e this.1 (f this.2 (m _ rfl))
 .exact Ii ⟨rfl,q⟩
inductive zc:aY->D->Prop
 |w {x:aY}:oS x=ag->zc mU (.str x)
 |b {i:Int}:nO i=ag->zc lj (.int i)
 |n {i:Int}:okN i=ag->zc oo (.int i)
 |t {b:Bool}:zc "truth" (.bl b)
inductive QH:aY->D->Prop
 |a {f:aY} {d:D}:zc f d->QH f d
 |ns {ds:List D}:1<=ds.length->ds.length<=60->(∀d∈ds,zc oo d)->QH gr (.lst ds)
 |ws {ds:List D}:1<=ds.length->ds.length<=60->(∀d∈ds,zc mU d)->QH ix (.lst ds)
theorem zc.nl(h:zc f d):nl d=ag:=by cases h<;>rfl
def Ij(h:∀d∈ds,zc f d):lC ds=ag:=by rw[Fj];exact bT.mpr λd hd=>(h d hd).nl
theorem QH.nl(h:QH f d):lC [.str f,d]=ag:=by
 have:=by
  cases h with
  |a h=>exact h.nl
  |ns _ _ h=>exact Ij h
  |ws _ _ h=>exact Ij h
 show(ag&&(L3.nl d&&ag))=ag;rw[this];rfl
def FX:GP:=λds Q=>∃f d,zc f d/\ds=[.str f,d]/\Q (.bl ag)
def FY:i9 FX:=by
 rintro ds P Q w ⟨f,d,a,h,q⟩
 exact⟨f,d,a,h,w _ q⟩
def abX:GP:=λds Q=>∃f xs,1<=xs.length/\xs.length<=60/\(∀d∈xs,zc f d)/\ds=[.str f,.lst xs]/\Q (.bl ag)
def PK:i9 abX:=by
 rintro ds P Q w ⟨f,d,a,b,c,h,q⟩
 exact⟨f,d,a,b,c,h,w _ q⟩
def BZ:GP:=λds Q=>∃f d,QH f d/\ds=[.str f,d]/\Q (.bl ag)
def Ik:i9 BZ:=by
 rintro ds P Q w ⟨f,d,a,h,q⟩
 exact⟨f,d,a,h,w _ q⟩
def Ts(h:zc f d)(q:Q (.bl ag)):j8 2 2 (BV K (cl m6) (cl kg) g) [.str f,d] Q:=by
 have a:=@AS;unfold BV;generalize wx=ge at a |-;cases h with
 |w h=>exact⟨rfl,rfl,_,h,rfl,rfl,q⟩
 |b h=>
  unfold nO at h;rw[aZ,decide_eq_true_eq,decide_eq_true_eq] at h;exact⟨rfl,rfl,_,rfl,a h.1 (a h.2 ⟨rfl,q⟩)⟩
 |n h=>
  unfold okN at h;rw[aZ,decide_eq_true_eq,decide_eq_true_eq] at h;exact⟨rfl,rfl,_,rfl,a h.1 (a h.2 ⟨rfl,q⟩)⟩
 |t=>exact⟨rfl,_,rfl,rfl,q⟩
def Tt(K:af)(g:GN):∀ds Q,FX ds Q->j8 2 2 (BV K (cl m6) (cl kg) g) ds Q:=by
 rintro ds Q ⟨f,d,h,e,q⟩
 subst e;exact Ts h q
def aff(K:af):∀ds Q,abX ds Q->j8 2 2 (si K (cl FX)) ds Q:=by
 rintro ds Q ⟨f,xs,j,h,c,e,q⟩
 subst e;have b:=@AS;unfold si;generalize wx=ge at b |-;refine⟨rfl,_,rfl,_,rfl,?_⟩;refine b (by exact Int.ofNat_le.mpr j) ?_;refine b (by exact Int.ofNat_le.mpr h) ?_;refine⟨_,rfl,rfl,?_⟩;refine k8 (λ_=>.bl ag) ?_ _ _ ?_ (λy g m i=>?_) ?_
 .exact rfl
 .rw[ck,bQ];exact bG h (by decide)
 .exact⟨QH.nl (.a (c y g)),f,y,c y g,rfl,i _ rfl⟩
 .exact Ii ⟨rfl,q⟩
def Xm(K:af):∀ds Q,BZ ds Q->j8 2 2 (BV K (cl m6) (cl kg) (cl abX)) ds Q:=by
 rintro ds Q ⟨f,d,h,e,q⟩
 subst e;cases h with
 |a h=>exact Ts h q
 |ns b c g=>exact⟨rfl,(QH.ns b c g).nl,_,_,b,c,g,rfl,rfl,q⟩
 |ws b c g=>exact⟨rfl,(QH.ws b c g).nl,_,_,b,c,g,rfl,rfl,q⟩
open PySem PySem.Spec PyProof.Rows.KTD L2 L3
noncomputable def fm(l:List aY):D:=.tup (l.map .str)
noncomputable def jq:List (aY×D):=[(ll,fm [mU,"truth"]),(fq,fm [lj,oo]),("add",fm [lj,lj]),("take",fm [lj,lj]),("say",fm [lj]),("ask",fm [lj]),(nP,fm [mU]),(oD,fm [lj,mU]),(pr,fm [mU]),(qe,fm []),(pj,fm []),(oH,fm [lj,lj,mU]),(nn,fm [lj,mU]),(ov,fm [lj,mU,mU]),(gr,fm [gr]),(hJ,fm [ix])]
inductive Rw
 |mark (w:aY) (b:Bool)|set (b n:Int)|add (b c:Int)|take (b c:Int)|say (b:Int)|ask (b:Int)|jump (w:aY)|jumpif (b:Int) (w:aY)|call (w:aY)|back|stop
 |load (b c:Int) (w:aY)|jumpby (b:Int) (w:aY)|alike (b:Int) (w v:aY)|numbers (ns:List Int)|table (ws:List aY)
 deriving DecidableEq
noncomputable def Rw.d:Rw->D
 |.mark w b=>.tup [.str ll,.str w,.bl b]|.set b n=>.tup [.str fq,.int b,.int n]|.add b c=>.tup [.str "add",.int b,.int c]|.take b c=>.tup [.str "take",.int b,.int c]
 |.say b=>.tup [.str "say",.int b]|.ask b=>.tup [.str "ask",.int b]|.jump w=>.tup [.str nP,.str w]|.jumpif b w=>.tup [.str oD,.int b,.str w]|.call w=>.tup [.str pr,.str w]
 |.back=>.tup [.str qe]|.stop=>.tup [.str pj]|.load b c w=>.tup [.str oH,.int b,.int c,.str w]|.jumpby b w=>.tup [.str nn,.int b,.str w]|.alike b w v=>.tup [.str ov,.int b,.str w,.str v]
 |.numbers ns=>.tup [.str gr,.lst (ns.map .int)]|.table ws=>.tup [.str hJ,.lst (ws.map .str)]
noncomputable def Rw.t:Rw->D
 |.numbers ns=>.tup [.str gr,.tup (ns.map .int)]|.table ws=>.tup [.str hJ,.tup (ws.map .str)]
 |r=>r.d
noncomputable def Rw.ok:Rw->Bool
 |.mark w _=>oS w|.set b n=>nO b&&okN n|.add b c=>nO b&&nO c|.take b c=>nO b&&nO c|.say b=>nO b|.ask b=>nO b|.jump w=>oS w|.jumpif b w=>nO b&&oS w|.call w=>oS w
 |.back=>ag|.stop=>ag|.load b c w=>nO b&&nO c&&oS w|.jumpby b w=>nO b&&oS w|.alike b w v=>nO b&&oS w&&oS v
 |.numbers ns=>decide (1<=ns.length)&&decide (ns.length<=60)&&ns.all okN
 |.table ws=>decide (1<=ws.length)&&decide (ws.length<=60)&&ws.all oS
def b1(h:(a&&b)=ag):a=ag:=(aZ _ _▸h).1
def b2(h:(a&&b)=ag):b=ag:=(aZ _ _▸h).2
def B1:GP:=λds Q=>∃r:Rw,r.ok=ag/\ds=[r.d]/\Q (.bl ag)
def Ds:i9 B1:=by
 rintro ds P Q w ⟨r,a,h,q⟩
 exact⟨r,a,h,w _ q⟩
def pf{Q:DK}(h:QH f d)(q:Q (.bl ag) M):cl BZ [.str f,d] M Q:=⟨h.nl,f,d,h,rfl,q⟩
def abY(h:(Rw.numbers ns).ok=ag):QH gr (.lst (ns.map .int)):=by refine .ns (by rw[ao];exact of_decide_eq_true (b1 (b1 h))) (by rw[ao];exact of_decide_eq_true (b2 (b1 h))) λd hd=>?_;obtain⟨n,hn,rfl⟩:=bP.mp hd;exact .n (bT.mp (b2 h) n hn)
def abZ(h:(Rw.table ws).ok=ag):QH ix (.lst (ws.map .str)):=by refine .ws (by rw[ao];exact of_decide_eq_true (b1 (b1 h))) (by rw[ao];exact of_decide_eq_true (b2 (b1 h))) λd hd=>?_;obtain⟨n,hn,rfl⟩:=bP.mp hd;exact .w (bT.mp (b2 h) n hn)
def PL(K:af)(c:aw):∀ds Q,B1 ds Q->j8 2 1 (BW K c jq (cl BZ)) ds Q:=by
 rintro ds Q ⟨r,h,e,q⟩
 subst e;have pf:=@pf;unfold BW;generalize cl BZ=g at pf |-;have L:∀{a b:Nat},Nat.ble a b=ag->a<=b:=aq;refine⟨rfl,?_⟩;cases r;all_goals walk_at "h";refine⟨λh=>Nat.one_ne_zero h.1,_,_,rfl,rfl,⟨rfl,rfl⟩,?_⟩
 case mark=>exact⟨rfl,rfl,pf (.a (.w h)) ⟨⟨rfl,rfl⟩,L rfl,rfl,rfl,pf (.a .t) ⟨⟨rfl,rfl⟩,L rfl,[ag,ag],rfl,rfl,q⟩⟩⟩
 case set=>exact⟨rfl,rfl,pf (.a (.b (b1 h))) ⟨⟨rfl,rfl⟩,L rfl,rfl,rfl,pf (.a (.n (b2 h))) ⟨⟨rfl,rfl⟩,L rfl,[ag,ag],rfl,rfl,q⟩⟩⟩
 case add=>exact⟨rfl,rfl,pf (.a (.b (b1 h))) ⟨⟨rfl,rfl⟩,L rfl,rfl,rfl,pf (.a (.b (b2 h))) ⟨⟨rfl,rfl⟩,L rfl,[ag,ag],rfl,rfl,q⟩⟩⟩
 case take=>exact⟨rfl,rfl,pf (.a (.b (b1 h))) ⟨⟨rfl,rfl⟩,L rfl,rfl,rfl,pf (.a (.b (b2 h))) ⟨⟨rfl,rfl⟩,L rfl,[ag,ag],rfl,rfl,q⟩⟩⟩
 case say=>exact⟨rfl,rfl,pf (.a (.b h)) ⟨⟨rfl,rfl⟩,L rfl,[ag],rfl,rfl,q⟩⟩
 case ask=>exact⟨rfl,rfl,pf (.a (.b h)) ⟨⟨rfl,rfl⟩,L rfl,[ag],rfl,rfl,q⟩⟩
 case jump=>exact⟨rfl,rfl,pf (.a (.w h)) ⟨⟨rfl,rfl⟩,L rfl,[ag],rfl,rfl,q⟩⟩
 case jumpif=>exact⟨rfl,rfl,pf (.a (.b (b1 h))) ⟨⟨rfl,rfl⟩,L rfl,rfl,rfl,pf (.a (.w (b2 h))) ⟨⟨rfl,rfl⟩,L rfl,[ag,ag],rfl,rfl,q⟩⟩⟩
 case call=>exact⟨rfl,rfl,pf (.a (.w h)) ⟨⟨rfl,rfl⟩,L rfl,[ag],rfl,rfl,q⟩⟩
 case back=>exact⟨[],rfl,rfl,q⟩
 case stop=>exact⟨[],rfl,rfl,q⟩
 case load=>exact⟨rfl,rfl,pf (.a (.b (b1 (b1 h)))) ⟨⟨rfl,rfl⟩,L rfl,rfl,rfl,pf (.a (.b (b2 (b1 h)))) ⟨⟨rfl,rfl⟩,L rfl,rfl,rfl,pf (.a (.w (b2 h))) ⟨⟨rfl,rfl⟩,L rfl,[ag,ag,ag],rfl,rfl,q⟩⟩⟩⟩
 case jumpby=>exact⟨rfl,rfl,pf (.a (.b (b1 h))) ⟨⟨rfl,rfl⟩,L rfl,rfl,rfl,pf (.a (.w (b2 h))) ⟨⟨rfl,rfl⟩,L rfl,[ag,ag],rfl,rfl,q⟩⟩⟩
 case alike=>exact⟨rfl,rfl,pf (.a (.b (b1 (b1 h)))) ⟨⟨rfl,rfl⟩,L rfl,rfl,rfl,pf (.a (.w (b2 (b1 h)))) ⟨⟨rfl,rfl⟩,L rfl,rfl,rfl,pf (.a (.w (b2 h))) ⟨⟨rfl,rfl⟩,L rfl,[ag,ag,ag],rfl,rfl,q⟩⟩⟩⟩
 case numbers=>exact⟨rfl,rfl,pf (abY h) ⟨⟨rfl,rfl⟩,L rfl,[ag],rfl,rfl,q⟩⟩
 case table=>exact⟨rfl,rfl,pf (abZ h) ⟨⟨rfl,rfl⟩,L rfl,[ag],rfl,rfl,q⟩⟩
structure CA where
 (Row Mark Code Data Tu Last Set Alike Il Leave j5 Table:aw)
inductive Kn
 |Mark|Tu|Last|Set|Alike|Il|Leave|j5|Table
noncomputable def CA.at(c:CA):Kn->aw
 |.Mark=>c.Mark|.Tu=>c.Tu|.Last=>c.Last|.Set=>c.Set|.Alike=>c.Alike|.Il=>c.Il|.Leave=>c.Leave|.j5=>c.j5|.Table=>c.Table
noncomputable def Rw.kn:Rw->Kn
 |.mark _ _=>.Mark|.set _ _=>.Set|.add _ _|.take _ _|.say _|.ask _=>.Tu|.jump _|.jumpby _ _=>.Leave|.jumpif _ _|.call _|.load _ _ _=>.Il|.back|.stop=>.Last
 |.alike _ _ _=>.Alike|.numbers _=>.j5|.table _=>.Table
noncomputable def Rw.cls(c:CA)(r:Rw):aw:=c.at r.kn
noncomputable def Rw.ins(c:CA)(r:Rw):D:=.ins (r.cls c) [eR] [r.t]
def m8 (K:af):GN:=λds M Q=>∃M1 C d,ds=[.loc M1.length,d]/\M=M1++[aa (.ins C [] [])]/\Eo K C eR/\Q .non (M1++[aa (.ins C [eR] [d])])
def Im:kx (m8 K):=by
 rintro ds M P Q w ⟨M1,C,d,a,b,c,q⟩
 exact⟨M1,C,d,a,b,c,w _ _ q⟩
def NH{β:Type}{M:List β}{x:β}:(M++[x])[M.length]?=aa x:=by simp
def NI{β:Type}{M:List β}{x y:β}:(M++[x]).set M.length y=M++[y]:=by simp
def Xn:∀ds M Q,m8 K ds M Q->tJ 2 2 (BU K) ds M Q:=by
 rintro ds M Q ⟨M1,C,d,a,b,c,q⟩
 subst a b;refine⟨rfl,?_⟩;refine⟨C,[],[],NH,c,by decide,?_⟩;rw[NI];exact q
noncomputable def Rw.code:Rw->Bool
 |.mark _ _|.numbers _|.table _=>au
 |_=>ag
def pA (c:CA):GP:=λds Q=>∃r:Rw,r.code=ag/\ds=[r.t]/\Q (r.ins c)
def Ax:i9 (pA c):=by
 rintro ds P Q w ⟨r,a,b,q⟩
 exact⟨r,a,b,w _ q⟩
structure FOk(K:af)(c:CA):Prop where
 f:∀r:Rw,Eo K (r.cls c) eR
def Io{Q:DK}(r:Rw)(h:Eo K (r.cls c) eR)(n:nl r.t=ag)(q:Q (r.ins c) M):m8 K [.loc M.length,r.t] (M++[aa (.ins (r.cls c) [] [])]) λd M2=>d=.non/\∃ns es,M2=M++[aa (.ins (r.cls c) ns es)]/\lC es=ag/\Q (.ins (r.cls c) ns es) M:=
 ⟨M,_,_,rfl,rfl,h,rfl,_,_,rfl,by unfold lC;rw[n];rfl,q⟩
def Rw.nld(r:Rw):nl r.d=ag:=by cases r<;>first|rfl|exact(show(ag&&(lC _&&ag))=ag by rw[jQ (λ_=>rfl)];rfl)
def Rw.nlt(r:Rw):nl r.t=ag:=by cases r<;>first|rfl|(show(ag&&(lC _&&ag))=ag;rw[jQ (λ_=>rfl)];rfl)
def Rw.nli(c:CA)(r:Rw):nl (r.ins c)=ag:=by show(nl r.t&&ag)=ag;rw[r.nlt];rfl
def Ip(f:FOk K c):∀ds Q,pA c ds Q->j8 2 1 (BX c.Set (m8 K) c.Alike (m8 K) c.Last (m8 K) c.Leave (m8 K) c.Il (m8 K) c.Tu (m8 K)) ds Q:=by
 rintro ds Q ⟨r,b,e,q⟩
 subst e;have g:=f.f r;have a:=r.nlt;have mk:=λh i=>Io (M:=[]) (Q:=h) r g a i;cases r<;>first|(cases b;done)|skip
 all_goals
  walk_at "h";exact mk _ ⟨a,q⟩
def B2 (c:CA):GN:=λds M Q=>∃r:Rw,r.ok=ag/\ds=[r.d]/\Q (r.ins c) M
def Dt:kx (B2 c):=by
 rintro ds M P Q w ⟨r,a,b,q⟩
 exact⟨r,a,b,w _ _ q⟩
def Xo(e:dv M x=d):vQ M [x]=[d]:=by unfold vQ;rw[e];rfl
noncomputable def itL:D->Bool
 |.str _|.int _|.bl _|.lst _=>ag
 |_=>au
noncomputable def toT:D->D
 |.lst xs=>.tup xs
 |d=>d
noncomputable def Rw.itd(r:Rw):List D:=match r.d with|.tup ds=>ds|_=>[]
def Rw.afg(r:Rw):r.d=.tup r.itd:=by cases r<;>rfl
def Rw.afh(r:Rw):r.t=.tup (r.itd.map toT):=by cases r<;>rfl
def Rw.ab0(r:Rw):r.itd.all itL=ag:=by cases r<;>rfl
def Rw.Xp(r:Rw):r.itd.length<=aO:=bG (m:=4) (by cases r<;>exact aq rfl) (by decide)
def PM(f:FOk K c):∀ds M Q,B2 c ds M Q->tJ 2 1 (Ig K (bor B1) c.Mark (m8 K) c.j5 (m8 K) c.Table (m8 K) (cl (pA c))) ds M Q:=by
 rintro ds M Q ⟨r,i,j,q⟩
 subst j;have m:=f.f r;have b:=r.nlt;have mk:=λn o=>Io (M:=M) (Q:=n) r m b o;have g:=r.nld;have hd:lC [r.d]=ag:=by unfold lC;rw[g];rfl
 have hn:lC [r.t]=ag:=by unfold lC;rw[b];rfl
 have p:r.code=ag->cl (pA c) [r.t] M Q:=λh=>⟨hn,r,h,rfl,q⟩;refine⟨rfl,?_⟩;conv=>whnf
 rw[Xo (Y9 M _ g)];refine⟨hd,r,i,rfl,rfl,?_⟩;rw[r.afg];refine⟨_,rfl,rfl,?_⟩;refine k8 toT ?_ _ _ ?_ (λx a u s=>?_) ?_
 .exact rfl
 .rw[ck,bQ];exact r.Xp
 .have a:=bT.mp r.ab0 x a;cases x<;>first|(cases a;done)|skip
  all_goals
   walk_at "h";exact s _ rfl
 have e:=r.afh;cases r;all_goals
  cases e;walk_at "h";first|exact(p rfl).2|exact mk _ q
noncomputable def Rw.Ly:Rw->Bool
 |.mark _ _|.numbers _|.table _|.jump _|.jumpby _ _|.back|.stop=>au
 |_=>ag
noncomputable def Rw.names:Rw->List D
 |.jump w|.jumpif _ w|.call w|.load _ _ w|.jumpby _ w=>[.str w]
 |.alike _ w v=>[.str w,.str v]
 |.table ws=>ws.map .str
 |_=>[]
noncomputable def Rw.Xq:Rw->D
 |.mark _ _=>.tup [.int 0]|.set _ _|.alike _ _ _=>.tup [.int 5]|.jump _|.jumpif _ _|.call _|.load _ _ _|.jumpby _ _=>.tup [.int 2,.int 3]
 |.numbers ns=>.tup [.int (2+4*ns.length)]|.table ws=>.tup [.int (2+2*ws.length)]
 |_=>.tup [.int 1]
def FZ (c:CA)(k:Kn):GP:=λds Q=>∃r:Rw,r.kn=k/\ds=[r.ins c]/\Q r.d
def vD (c:CA)(k:Kn):GN:=λds M Q=>∃r:Rw,r.kn=k/\ds=[r.ins c]/\Q (.loc M.length) (M++[aa (.lst r.names)])
def F0 (c:CA)(k:Kn):GP:=λds Q=>∃r:Rw,r.kn=k/\ds=[r.ins c]/\Q (.bl r.Ly)
def zd (c:CA)(k:Kn):GP:=λds Q=>∃r:Rw,r.kn=k/\ds=[r.ins c]/\Q r.Xq
def F2:i9 (FZ c k):=by
 rintro ds P Q w ⟨r,a,b,q⟩
 exact⟨r,a,b,w _ q⟩
def jU:i9 (F0 c k):=by
 rintro ds P Q w ⟨r,a,b,q⟩
 exact⟨r,a,b,w _ q⟩
def jI:kx (vD c k):=by
 rintro ds M P Q w ⟨r,a,b,q⟩
 exact⟨r,a,b,w _ _ q⟩
def Tv(h:lC xs=ag):nl (.tup [.str x,.lst xs])=ag:=by show(ag&&(lC xs&&ag))=ag;rw[h];rfl
def x4{ns:List Int}:lC (ns.map D.int)=ag:=jQ (λ_=>rfl) _
def Tw{ns:List aY}:lC (ns.map D.str)=ag:=jQ (λ_=>rfl) _
noncomputable def plI:D->Bool
 |.str _|.int _|.bl _=>ag
 |_=>au
noncomputable def Rw.iq(r:Rw):List D:=match r.t with|.tup ds=>ds|_=>[]
def Rw.afi(r:Rw):r.t=.tup r.iq:=by cases r<;>rfl
def Rw.Xr(r:Rw):r.iq.length<=aO:=bG (m:=4) (by cases r<;>exact aq rfl) (by decide)
def Rw.ahx(r:Rw)(h:r.iq.all plI=ag):r.d=.tup r.iq:=by cases r<;>first|rfl|cases h
def Tx(f:FOk K c)(k:Kn):∀ds Q,FZ c k ds Q->j8 1 1 (z6 K) ds Q:=by
 rintro ds Q ⟨r,m,i,q⟩
 subst i;have g:=f.f r;have h:=r.nlt;by_cases b:r.iq.all plI=ag
 .rw[r.ahx b] at q;unfold Rw.ins;rw[r.afi] at h |-;refine⟨rfl,_,_,_,_,rfl,g,rfl,_,rfl,rfl,?_⟩;refine k8 (λd=>d) ?_ _ _ ?_ (λx a n j=>?_) ?_
  .exact rfl
  .rw[ck,bQ];exact r.Xr
  .have a:=bT.mp b x a;cases x<;>first|(cases a;done)|skip
   all_goals
    walk_at "h";exact j _ rfl
  .have e:r.iq.map (vw [])=r.iq:=(eZ λx a=>by cases x<;>first|rfl|cases a).trans (List.map_id' _)
   rw[List.map_id'];show nl (.tup (r.iq.map (vw [])))=ag/\Q (.tup (r.iq.map (vw [])));rw[e];exact⟨h,q⟩
 .cases r<;>first|exact absurd rfl b|skip
  all_goals
   refine⟨rfl,?_⟩;refine⟨_,_,_,_,rfl,g,rfl,?_⟩;walk_at "h";first|exact⟨Tv x4,q⟩|exact⟨Tv Tw,q⟩
def mw(a:k=.Mark\/k=.Tu\/k=.Last\/k=.Set\/k=.j5):∀ds M Q,vD c k ds M Q->tJ 1 1 z7 ds M Q:=by
 rintro ds M Q ⟨r,b,e,q⟩
 subst e b;cases r<;>first|(simp[Rw.kn] at a;done)|skip
 all_goals
  refine⟨rfl,?_⟩;walk_at "h";exact q
def B3(f:FOk K c)(a:k=.Alike):∀ds M Q,vD c k ds M Q->tJ 1 1 (rj K) ds M Q:=by
 rintro ds M Q ⟨r,b,e,q⟩
 subst e b;have g:=f.f r;cases r<;>first|(simp[Rw.kn] at a;done)|skip
 all_goals
  refine⟨rfl,?_⟩;refine⟨_,_,_,_,rfl,g,rfl,?_⟩;refine⟨λh=>Nat.succ_ne_zero 1 h.1,?_⟩;walk_at "h";exact q
def x8(f:FOk K c)(a:k=.Il\/k=.Leave):∀ds M Q,vD c k ds M Q->tJ 1 1 (ur K) ds M Q:=by
 rintro ds M Q ⟨r,b,e,q⟩
 subst e b;have g:=f.f r;cases r<;>first|(simp[Rw.kn] at a;done)|skip
 all_goals
  refine⟨rfl,?_⟩;refine⟨_,_,_,_,rfl,g,rfl,?_⟩;walk_at "h";exact q
def B4(f:FOk K c)(a:k=.Table):∀ds M Q,vD c k ds M Q->tJ 1 1 (rm K) ds M Q:=by
 rintro ds M Q ⟨r,b,e,q⟩
 subst e b;have g:=f.f r;cases r<;>first|(simp[Rw.kn] at a;done)|skip
 all_goals
  refine⟨rfl,?_⟩;refine⟨_,_,_,_,rfl,g,rfl,?_⟩;walk_at "h";exact q
def Iq(a:k=.Mark\/k=.j5\/k=.Table\/k=.Last\/k=.Leave):∀ds Q,F0 c k ds Q->j8 1 1 v7 ds Q:=by
 rintro ds Q ⟨r,b,e,q⟩
 subst e b;cases r<;>first|(simp[Rw.kn] at a;done)|exact⟨rfl,rfl,q⟩
def NJ(a:k=.Tu\/k=.Set\/k=.Alike\/k=.Il):∀ds Q,F0 c k ds Q->j8 1 1 qg ds Q:=by
 rintro ds Q ⟨r,b,e,q⟩
 subst e b;cases r<;>first|(simp[Rw.kn] at a;done)|exact⟨rfl,rfl,q⟩
def sw (c:CA):Fx:=λC m g=>∃k:Kn,C=c.at k/\g=vD c k
def Tz (c:CA):Fx:=λC m g=>∃k:Kn,C=c.at k/\g=cl (F0 c k)
def lD (c:CA):Fx:=λC m g=>∃k:Kn,C=c.at k/\g=cl (FZ c k)
def ab1{k:Nat}{x:β}(h:xs[k]?=aa x):C8 xs (k:Int)=aa x:=by have a:=(ak.mp h).1;unfold C8 U5;rw[if_pos (by exact Int.natCast_nonneg _),if_pos (by exact Int.ofNat_lt.mpr a)];simpa using h
def yb{xs:List β}{k:Nat}:cutD xs (aa (k:Int)) ar=xs.drop k:=by
 unfold cutD;rw[HT.AH,HT.Rl];by_cases h:k<=xs.length
 .rw[Nat.min_eq_left h,fF (by rw[dN];exact aD _)]
 .rw[Nat.min_eq_right (by exact bG (cw _) (Nat.lt_of_not_le h)),List.drop_eq_nil_of_le (aD _),List.drop_eq_nil_of_le (by exact bG (cw _) (Nat.lt_of_not_le h))];simp
structure CF(K:af)(C:aw):Prop where
 pg:W.plainGet K C aY.empty=ag
 hd:W.hasDictIn K C=ag
 po:W.plainOver K C=ag
 sa:aF K (.ref C) tO=aa (aa (.builtin tP))
 Zr:W.makesIn K C=ag
 kc:dV K (.ref C)=ag
 ha:aF K (.ref C) oj=aa (aa (.builtin kf))
 hn:W.specialIn K (.builtin kf) rb=aa (aa (.builtin rh))
 htk:W.takesIn K (.builtin kf)=aa ag
 hm:W.mroIn K C (.type nk)=aa ag
def CF.cls(h:CF K C):ME K C:=⟨h.pg,h.hd,h.po,h.sa⟩
def CF.afj(h:CF K C):MZ K C:=⟨h.cls,h.ha,h.hn,h.htk,h.hm⟩
structure RF(K:af)(C fI fW fA fG fL:aw):Prop where
 c:CF K C
 nT:aF K (.ref C) eR=aa ar
 aI:aF K (.ref C) kz=aa (aa (.ref fI))
 aW:aF K (.ref C) ix=aa (aa (.ref fW))
 aA:aF K (.ref C) ic=aa (aa (.ref fA))
 aG:aF K (.ref C) im=aa (aa (.ref fG))
 aL:aF K (.ref C) "lengths"=aa (aa (.ref fL))
structure MF(K:af)(n q:aY)(st:cZ)(f:aw):Prop where
 ex:∃fd,vZ K n q st f fd
 fn:W.isFn K (.ref f)=ag
 kp:dV K (.ref f)=ag
def afk{kV doc pm iQ ct:ai}(l:K.lookup f=aa ⟨oc,od,.func (dy x qual (jT st) (iZ st) (iE st) .none kV doc pm an iQ ct),Ot⟩)
(c:W.codeIn K iQ qual=ag)(k:dV K (.ref f)=ag)(i:W.isFn K (.ref f)=ag):MF K x qual st f:=⟨⟨_,Ry l c k⟩,i,k⟩
def yc(c:ME K C)(hm:Meth K C m f)(hb:Binds K fd a [])(F:j9 P w K mg cq rW k f fd a (kC K g))(e:kx b)(i:∀ds M Q,b ds M Q->g ds M Q):qN P w K mg cq k C m b:=
 ⟨e,c,f,fd,a,hm,hb,F.imp λh H Q E zq=>by obtain⟨F,α,M,ds,o,r,q⟩:=zq;exact ⟨F,α,M,ds,o,r,i _ _ _ q⟩⟩
def ab2(l:K.lookup b=aa o)(hc:o.cls=.type ej)(a:o.data=.seq us.toArray n)(c:us.length<=aO)(e:Vals (fs.map V.str) us):Sq K (fm fs) (.ref b):=
 ⟨.ref b,rfl,λα H=>by exact⟨b,fs.map V.str,rfl,.inr ⟨o,us.toArray,n,l,hc,a,by simpa using c,by simpa using e⟩,hW.of_map _ _ (λ_=>oI) _⟩⟩
def TD:Vals (([]).map V.str) []:=.nil
def PN(h:Vals (fs.map V.str) us):Vals ((x::fs).map V.str) (.str x t::us):=.cons ⟨t,rfl⟩ h
def ab3(lo:(a==b9)=au)(l:K.lookup a=aa o)(hc:o.ExactDict)(hd:o.data=.dict es.toArray b)(c:Rows (Sq K) es rows):yW K a rows:=
 ⟨lo,o,es.toArray,b,l,hc,hd,by simpa using c⟩
def rq (K:af):DS:=(iu (ue (iJ (kH K) (hU (hV 0) (hU (dC (.ty ej)) hX))) (ue (ij (OH λi j=>.bl (decide (j<i))) (iJ j3 (hU (hV 0) hX)) (dC (.int 0))) (ue (iJ (kH K) (hU (ij jl (hV 0) (dC (.int 0))) (hU (dC (.ty fx)) hX))) (ij tV (ij jl (hV 0) (dC (.int 0))) (dC (.str ll)))))))
def v8 (a:GN):DS:=(iu (iJ j3 (hU (jn (jO [ar] (jv (hV 0)) (ib 0) (ie (iJ a (hU (hV 0) hX))) (hV 0))) hX)))
def ux (a:GN):DS:=(iu (ij (OH λi j=>.int (i- j)) (iJ j3 (hU (hV 0) hX)) (iJ a (hU (hV 0) hX))))
def EE (K:af)(a:GN)(b:GN):DS:=(ii (i5 (Dh (mT (ie (iJ (kH K) (hU (hV 0) (hU (dC (.ty ej)) hX))))) (ie (ij Dl (iJ j3 (hU (hV 0) hX)) (dC (.int 2))))) (iu (dC (.bl au))) iy)
 (ii (i5 (Dh (mT (ie (iJ a (hU (ij jl (hV 0) (dC (.int 0))) hX)))) (mT (ie (iJ (kH K) (hU (ij jl (hV 0) (dC (.int 1))) (hU (dC (.ty cr)) hX)))))) (iu (dC (.bl au))) iy)
 (iu (mj wx wx (dC (.int 1)) (iJ b (hU (ij jl (hV 0) (dC (.int 1))) hX)) (dC (.int 60))))))
def z8 (K:af)(a:GN)(b:GN)(c:GN):DS:=(ii (i5 (Dh (mT (ie (iJ (kH K) (hU (hV 0) (hU (dC (.ty cr)) hX))))) (mT (ie (mj wx wx (dC (.int 1)) (iJ j3 (hU (hV 0) hX)) (dC (.int 12)))))) (iu (dC (.bl au))) iy)
 (ii (i5 (mT (ie (iJ OR (hU (jn (jO [ar] (jv (hV 0)) (ib 0) oO (iJ a (hU (hV 0) hX)))) hX)))) (iu (dC (.bl au))) iy)
 (ii (i5 (ie (ij Dl (Nh (jn (jO [ar] (jv (hV 0)) (ib 0) oO (ij jl (hV 0) (dC (.int 0)))))) (iJ j3 (hU (hV 0) hX)))) (iu (dC (.bl au))) iy)
 (ii (i5 (ie (ij (OH λi j=>.bl (decide (j<i))) (iJ K7 (hU (jn (jO [ar] (jv (hV 0)) (ib 0) oO (iJ b (hU (ij jl (hV 0) (dC (.int 1))) hX)))) hX)) (dC (.int 200)))) (iu (dC (.bl au))) iy)
 (iu (ij wx (iJ K7 (hU (jn (jO [ar] (jv (hV 0)) (ib 0) oO (iJ c (hU (ij jl (hV 0) (dC (.int 1))) hX)))) hX)) (dC (.int 200))))))))
def EF (a:GN):DS:=(ii (iV 2 (nL (kY hX)))
 (ii (oM (By (hU (hV 1) hX)) (jR 2 (iw (ib 3) (iw (ib 4) jZ))) (ii (iV 5 (iJ a (hU (hV 4) hX)))
 (ii (i5 (ie (ij gIs (hV 5) (dC .non))) rY iy)
 (jY (yG cr iT (hV 2) (hU (hV 5) hX))))))
 (iu (hV 2))))
def mx (K:af)(a:aw):DS:=(ii (oM (jv (hV 0)) (ib 1) (i5 (mT (ie (iJ (kH K) (hU (hV 1) (hU (dC (.cls a)) hX))))) (iu (hV 1)) iy))
 (iu (dC .non)))
def lN (K:af)(a:GN)(b:Fx)(c:aw)(e:aw):DS:=(oM (By (hU (hV 1) hX)) (jR 2 (iw (ib 2) (iw (ib 3) jZ))) (ii (iV 4 (iJ a (hU (Vb (hV 1) (uj (ij iW (hV 2) (dC (.int 1)))) oQ) hX)))
 (ii (i5 (yR (ie (HE b im (hV 3) hX)) (mT (ie (iJ (kH K) (hU (hV 4) (hU (dC (.cls c)) hX)))))) rY iy)
 (i5 (yR (ie (iJ (kH K) (hU (hV 3) (hU (dC (.cls e)) hX)))) (ie (ij gIs (hV 4) (dC .non)))) rY iy))))
def z9 (a:GN)(b:GN)(c:GN):DS:=(ii (i5 (mT (ie (iJ a (hU (hV 0) hX)))) rY iy)
 (ii (iV 1 (jn (jO [ar] (jv (hV 0)) (ib 0) oO (i6 (hU (ij jl (hV 0) (dC (.int 0))) (hU (iJ b (hU (ij jl (hV 0) (dC (.int 0))) (hU (ij jl (hV 0) (dC (.int 1))) hX))) hX))))))
 (ii (oM (jv (hV 1)) (jR 2 (iw (ib 2) (iw (ib 3) jZ))) (jY (iJ c (hU (hV 2) (hU (hV 3) hX)))))
 (iu (hV 1)))))
def EG:DS:=(iu (jn (SN (hV 0))))
def oy (K:af)(c:aw)(lD:Fx):DS:=(ii (iV 2 (nL (kY hX)))
 (ii (iV 3 (dC (.int 0)))
 (ii (oM (jv (hV 1)) (ib 4) (i5 (ie (iJ (kH K) (hU (hV 4) (hU (dC (.cls c)) hX)))) (ii (RW (Vb (HE lD ix (hV 4) hX) (uj (dC (.int 1))) oQ) (jR 2 (iw (ib 5) (iw (ib 6) jZ))))
 (jY (yG cr iT (hV 2) (hU (i6 (hU (hV 5) (hU (hV 6) (hU (i6 (hU (hV 0) (hU (hV 3) hX))) hX)))) hX)))) (M8 3 (λ_ _=>True) (λa b=>.int (a+b)) (dC (.int 1)))))
 (iu (hV 2)))))
def B5 (a:GN)(b:GN):DS:=(ii (iV 1 (nL (kY hX)))
 (ii (oM (jv (iJ a (hU (hV 0) hX))) (jR 2 (iw (ib 2) (iw (ib 3) jZ))) (jY (yG cr HH (hV 1) (hU (iJ b (hU (hV 2) (hU (hV 3) hX))) hX))))
 (iu (hV 1))))
def uy:DS:=(ii (iV 1 (nL Bq))
 (ii (oM (jv (hV 0)) (jR 3 (iw (ib 2) (iw (ib 3) (iw (ib 4) jZ)))) (i5 (ie (hV 3)) (jY (yG cr iT (yG fi HN (hV 1) (hU (hV 2) (hU (nL (kY hX)) hX))) (hU (ij jl (hV 4) (dC (.int 0))) hX))) iy))
 (iu (hV 1))))
def rA (a:GN):DS:=(ii (iV 1 (iJ a (hU (hV 0) hX)))
 (oM (jv (jn (Qz HL (hU (hV 1) hX)))) (ib 2) (i5 (ie (ij (OH λi j=>.bl (decide (j<i))) (iJ j3 (hU (ij jl (hV 1) (hV 2)) hX)) (dC (.int 1)))) rY iy)))
def Aa (a:GN)(b:GN):DS:=(ii (iV 1 (iJ a (hU (hV 0) hX)))
 (ii (jY (iJ b (hU (hV 1) hX)))
 (ii (iV 2 (nL Bq))
 (ii (oM (jv (hV 1)) (jR 3 (iw (ib 3) (iw (ib 4) (iw (ib 5) jZ)))) (i5 (Dh (ie (hV 4)) (ie (ij (AO ag) (hV 3) (hV 2)))) (Nb (hV 2) (hV 3) (hV 5)) iy))
 (iu (hV 2))))))
def oz (K:af)(a:aw):DS:=(iu (jn (jO [ar] (jv (hV 0)) (ib 0) (mT (ie (iJ (kH K) (hU (hV 0) (hU (dC (.cls a)) hX))))) (hV 0))))
def Ab (a:GN)(b:GN):DS:=(iu (jn (Qz K4 (hU (jn (jO [ar,ar] (jv (iJ a (hU (hV 0) hX))) (jR 2 (iw (ib 0) (iw (ib 1) jZ))) oO (i6 (hU (hV 0) (hU (iJ b (hU (hV 1) hX)) hX))))) hX))))
def B6:DS:=(iu (ij jl (ij jl (hV 0) (ij jl (hV 1) (dC (.int 0)))) (ij jl (hV 1) (dC (.int 1)))))
def sy (K:af)(lD:Fx)(a:aw)(b:aw)(c:aw):DS:=(ii (iV 2 (ij jl (HE lD ix (hV 0) hX) (dC (.int 0))))
 (ii (i5 (ie (ij tV (hV 2) (dC (.str ov)))) (iu (dC (.bl ag))) iy)
 (ii (i5 (ie (ij tV (hV 2) (dC (.str oH)))) (iu (iJ (kH K) (hU (hV 1) (hU (dC (.cls a)) hX)))) iy)
 (ii (i5 (ie (ij tV (hV 2) (dC (.str nn)))) (iu (iJ (kH K) (hU (hV 1) (hU (dC (.cls b)) hX)))) iy)
 (iu (iJ (kH K) (hU (hV 1) (hU (dC (.cls c)) hX))))))))
def uz (sw:Fx)(a:GN)(b:GN):DS:=(oM (By (hU (ij jl (hV 1) (hV 0)) hX)) (jR 2 (iw (ib 3) (iw (ib 4) jZ))) (oM (jv (HE sw ic (hV 4) hX)) (ib 5) (ii (i5 (ie (ij (AO ag) (hV 5) (hV 2))) rY iy)
 (i5 (mT (ie (iJ a (hU (hV 4) (hU (iJ b (hU (hV 1) (hU (ij jl (hV 2) (hV 5)) hX))) hX))))) rY iy))))
def Ir (a:GN)(b:GN)(c:GN)(e:GN):DS:=(ii (iV 1 (iJ a (hU (hV 0) hX)))
 (ii (iV 2 (iJ b (hU (hV 1) hX)))
 (ii (iV 3 (iJ c (hU (hV 1) hX)))
 (ii (oM (jv (hV 1)) (jR 2 (iw (ib 4) (iw (ib 5) jZ))) (jY (iJ e (hU (hV 4) (hU (hV 3) (hU (hV 2) hX))))))
 (iu (i6 (hU (hV 3) (hU (hV 2) hX))))))))
end FJ
namespace mS
open PySem PySem.Spec PyProof.Rows L2 L3 FJ
abbrev nQ:L3.G2:=gI (λ_ j=>0<j) λi j=>.int (i%j)
abbrev ze:L3.G2:=gI xO λi j=>.int (i/j)
abbrev B7:L3.G2:=gI E3 λi j=>.int (i^j.toNat)
abbrev Lz:L3.G2:=OH λi j=>.int (i- j)
abbrev ab4:L3.G2:=OH λi j=>.bl (decide (j<i))
noncomputable def top(i:Nat):cZ:=PySem.Challenge.pw_farjump_k32_where_parts_begin.main.body.getD i (.Pass ⟨0,0,0,0⟩)
section
variable {K:af} {k:Nat}
structure FI(s:cZ)(N ps:List aY) where
 b:List cZ
 c:dj
 hb:iZ s=b
 hc:iE s=c
 sc:jP N ps c
local macro_rules | `(tactic| walk_at "b") => `(tactic| exact ⟨_, _, by (conv => lhs; whnf), by (conv => lhs; whnf), rfl, rfl, rfl, by decide +kernel, rfl, by decide +kernel, by decide +kernel⟩)
theorem us1:∀{us:List ai},us.length=1->∃a,us=[a]
 |[a],_=>⟨a,rfl⟩
def us2{us:List ai}(h:us.length=2):∃a b,us=[a,b]:=by
 cases us with
 |nil=>nomatch h
 |cons a r=>
  obtain⟨b,q⟩:=us1 (Nat.succ.inj h);exact⟨a,b,congrArg (a::·) q⟩
def us3{us:List ai}(h:us.length=3):∃a b c,us=[a,b,c]:=by
 cases us with
 |nil=>nomatch h
 |cons a r=>
  obtain⟨b,c,q⟩:=us2 (Nat.succ.inj h);exact⟨a,b,c,congrArg (a::·) q⟩
def us4{us:List ai}(h:us.length=4):∃a b c d,us=[a,b,c,d]:=by
 cases us with
 |nil=>nomatch h
 |cons a r=>
  obtain⟨b,c,d,q⟩:=us3 (Nat.succ.inj h);exact⟨a,b,c,d,congrArg (a::·) q⟩
def us5{us:List ai}(h:us.length=5):∃a b c d e,us=[a,b,c,d,e]:=by
 cases us with
 |nil=>nomatch h
 |cons a r=>
  obtain⟨b,c,d,e,q⟩:=us4 (Nat.succ.inj h);exact⟨a,b,c,d,e,congrArg (a::·) q⟩
local macro_rules | `(tactic| walk_at "c") => `(tactic| (intro _ _ _ _ _ _ us hl; first | (obtain ⟨_, e⟩ := us1 hl; subst e; rfl) | (obtain ⟨_, _, e⟩ := us2 hl; subst e; rfl) | (obtain ⟨_, _, _, e⟩ := us3 hl; subst e; rfl) | (obtain ⟨_, _, _, _, e⟩ := us4 hl; subst e; rfl) | (obtain ⟨_, _, _, _, _, e⟩ := us5 hl; subst e; rfl) | (obtain ⟨_, _, _, _, _, _, e⟩ := us6 hl; subst e; rfl)))
structure Zs(mg:aY->Option ai):Prop where
 isinstance:mg ol=ar
 int:mg fw=ar
 bool:mg hB=ar
 str:mg fx=ar
 len:mg mv=ar
 all:mg "all"=ar
 tuple:mg ej=ar
 list:mg cr=ar
 zip:mg iv=ar
 set:mg fq=ar
 sum:mg "sum"=ar
 enumerate:mg jE=ar
 sorted:mg hD=ar
 dict:mg fi=ar
 range:mg mr=ar
 any:mg "any"=ar
 reversed:mg mo=ar
 B8:∃t,mg "LONGEST_WORD"=aa (.int 8 t)
 B9:∃t,mg "LONGEST_LIST"=aa (.int 60 t)
 LA:∃t,mg "LAST_BOX"=aa (.int 3 t)
 Ca:∃t,mg "LEAST_NUMBER"=aa (.int (-2147483648) t)
 ye:∃t,mg uaK=aa (.int 2147483647 t)
 vU:∃t,mg uaL=aa (.int 60 t)
 F3:∃t,mg "MOST_PARTS"=aa (.int 12 t)
 Iu:∃t,mg "MOST_ROWS"=aa (.int 200 t)
 F4:∃t,mg "MOST_MARKS"=aa (.int 200 t)
 yf:∃t,mg uaM=aa (.int 64 t)
variable {my qj qk ql mz nS nB qm ia:GN} {lD sw:Fx}
def ab5:bS "all"=aa (.builtin "all"):=by decide+kernel
def ab6:bS "any"=aa (.builtin "any"):=by decide+kernel
def Xs:bS hB=aa (.type hB):=by decide+kernel
def NK:bS fi=aa (.type fi):=by decide+kernel
def TF:bS fw=aa (.type fw):=by decide+kernel
def v9:bS ol=aa (.builtin ol):=by decide+kernel
def ab7:bS mv=aa (.builtin mv):=by decide+kernel
def NM:bS cr=aa (.type cr):=by decide+kernel
def EH:bS hD=aa (.builtin hD):=by decide+kernel
def ab8:bS fx=aa (.type fx):=by decide+kernel
def ab9:bS "sum"=aa (.builtin "sum"):=by decide+kernel
def Iv:bS ej=aa (.type ej):=by decide+kernel
open Lean in
def rdF(s:String):MacroM (TSyntax `tactic):=do
 let mut al:Array (TSyntax `tactic):=#[]
 let n(t:String):Term:=mkIdent t.toName
 for r in s.splitOn "|" do
  let mut st:List (Array Term):=[#[]]
  let mut ts:Array (TSyntax `tactic):=#[]
  let mut g:=au
  for t in r.splitOn " " do
   if t==";" then g:=ag
   else if g then ts:=ts.push (<-`(tactic|walk_at $(Syntax.mkStrLit t)))
   else if t=="(" then st:=#[]::st
   else if t==")" then st:=match st with
    |a::b::l=>b.push (Syntax.mkApp a[0]! (a.extract 1 a.size))::l
    |_=>st
   else
    let e:Term<-match t with
    |"?"=>`(?_)
    |"_"=>`(_)
    |"A"=>`(by assumption)
    |"K"=>`(by kernel_rfl)
    |"F"=>`(fun _ _ _ _ _=>?_)
    |"H"=>`(fun _ _ _ _=>?_)
    |"G"=>`(fun _=>?_)
    |"@"=>do pure ⟨<-`(Parser.Term.namedArgument|($(mkIdent `hp) := $(n "gY.leaving")))⟩
    |"+"=>do pure ⟨<-`(Parser.Term.namedArgument|($(mkIdent `f) := fun a b=>a+b))⟩
    |_=>pure (n t)
    st:=match st with
    |a::l=>a.push e::l
    |_=>st
  let a:=st.head!
  let e:=Syntax.mkApp a[0]! (a.extract 1 a.size)
  al:=al.push (<-if g then `(tactic|(refine $e;($[$ts:tactic];*))) else `(tactic|exact $e))
 `(tactic|first $[|$al:tactic]*)
local macro_rules
|`(tactic|walk_at "o")=>rdF "aev ( jd.units A )|aew ( jd.units A )|aef|aeg|aee|aey A|Se A|abu A|aeh|HG A|abI ( jd.un1 A )|abW ( jd.abJ A )|abE ( jd.units A )"
|`(tactic|walk_at "rdO_")=>rdF "aa6|aa4|aa3|aa5|Sw|abk|Xh"
|`(tactic|walk_at "g")=>rdF "aaS|V9 ? ? ; d g"
|`(tactic|walk_at "d")=>rdF "j_v _|YT|ad4|ad5 ( jx A ) ? ? ; d d|ag3 A A ? ; g|ad9 ? ; g|YY ? ; x|aea ? ; x|ag1 ? ? ? ; rdO_ d d|agZ|ad3|YU ? ? ? ; o d d|j_b abl ( Zs.len A ) ab7 ? ; g|j_b abn ( Zs.isinstance A ) v9 ? ; g|j_b abm ( Zs.all A ) ab5 ? ; g|j_b abB ( Zs.sum A ) ab9 ? ; g|j_b abU ( Zs.any A ) ab6 ? ; g|j_b abR ( Zs.isinstance A ) v9 ? ; g|OV OW PySem.F.plainAttrs_list PySem.F.slot_list_append PySem.F.type_list_append ? ? ; d g|OV OX PySem.F.plainAttrs_list PySem.F.slot_list_extend PySem.F.type_list_extend ? ? ; d g|OV PC PySem.F.plainAttrs_list PySem.F.slot_list_insert PySem.F.type_list_insert ? ? ; d g|OV abp PySem.F.plainAttrs_list PySem.F.slot_list_pop PySem.F.type_list_pop ? ? ; d g|OV O9 PySem.F.plainAttrs_dict PySem.F.slot_dict_setdefault PySem.F.type_dict_setdefault ? ? ; d g|OV ( abG A ) PySem.F.plainAttrs_dict PySem.F.slot_dict_get PySem.F.type_dict_get ? ? ; d g|V7 A|abF _|aez ? ; d|ahd ? ? ? ; d z z|ad8 ? ; d|ad7 ? ? ; d d|Wx A A ? ; d|Wy A A A ? ; g|aeC ? ; d|ag2 ? ? ? ; j d d|MR ? ? ? ? ? ; o o d d d|ad5 ( abq A ) ? ? ; d d|j_t abH ( Zs.int A ) TF ? ; g|j_t Sj ( Zs.tuple A ) Iv ? ; g|SE ( jd.hd A ) ( Zs.len A ) ( Zs.set A ) ? ; d|V6 ( Zs.B8 A )|V6 ( Zs.B9 A )|V6 ( Zs.LA A )|V6 ( Zs.Ca A )|V6 ( Zs.ye A )|V6 ( Zs.vU A )|V6 ( Zs.F3 A )|V6 ( Zs.Iu A )|V6 ( Zs.F4 A )|V6 ( Zs.yf A )|ag0 ( Zs.int A ) TF|ag0 ( Zs.bool A ) Xs|ag0 ( Zs.str A ) ab8|ag0 ( Zs.tuple A ) Iv|ag0 ( Zs.list A ) NM|ag0 ( Zs.dict A ) NK|ad6 ? ; d"
|`(tactic|walk_at "z")=>rdF "Sf|Sg ? ; d"
|`(tactic|walk_at "x")=>rdF "aaU ? ; g|RR|afa K ? ? F F F ; r t p rdN_ d|WB ? ? ; d d|aeA Sl ( Zs.list A ) NM ? ; g|aeB Ph ( Zs.sorted A ) EH ? ; g|aeB ( K0 ( jd.hd A ) ) ( Zs.sorted A ) EH ? ; g|aeA ( SH ( jd.hd A ) ) ( Zs.dict A ) NK ? ; g|Xj ( jd.hd A ) ( Zs.list A ) ( Zs.reversed A ) ? ; d"
|`(tactic|walk_at "rdD_")=>rdF "ahy"
|`(tactic|walk_at "t")=>rdF "Wk|WA ? ; v"
|`(tactic|walk_at "v")=>rdF "aa1|Sr ? ? ; t v"
|`(tactic|walk_at "rdN_")=>rdF "Wi|Wj ? ; j"
|`(tactic|walk_at "p")=>rdF "We _ A|We _ ( afb K )|aaX ? ; w"
|`(tactic|walk_at "w")=>rdF "Wf|RV ? ? ; p w"
|`(tactic|walk_at "r")=>rdF "OO ? ( Zs.range A ) ; g|Wt ? ( Zs.enumerate A ) ; g|abg ? ( Zs.zip A ) ; g|SY ? ; d|Xl ? ; d|abf ? ; d"
|`(tactic|walk_at "j")=>rdF "aaP ? ? ? ; o d d|aaQ ? ; j|YV ( YW ? ? ) ; j q|YV ( RK ? ? ) ; j q|RL ? ? ? ? ? ; o o d d d|aaO ? ; d"
|`(tactic|walk_at "q")=>rdF "YW ? ? ; j q|RK ? ? ; j q|aaR ? ; j|V8 ? ; j"
|`(tactic|walk_at "a")=>rdF "aaV|Wb ? ? ; s a|RS ? ; s"
|`(tactic|walk_at "s")=>rdF "RT ? ; d|aeb ? ? ? ; j a a|Wc ? ; d|afc _ A K ? ? F F F ; r t p rdN_ d|aaW _ A ? ; d|RX ? ? ? ; r p a|RX ? ? ? @ ; r p a|Hr ? ? ; j a|Hr ? ? @ ; j a|WD A ? ? ? ; d d d|aaY ? ? ; d p|WC + _ A YT abv|WC + _ A ( j_v _ ) abv|RU|Wz ? ? ; d d|abQ A A H G ; n a|ae8 _ ? ; s"
|`(tactic|walk_at "n")=>rdF "C9.tox ? ; a|Tg ? ? ; rdY_ n|W7 ? ; rdY_"
|`(tactic|walk_at "rdY_")=>rdF "JS.tox ? ; s|Th ? ; rdV_|abP ? ? ? ; j n n|Lr A A ? ; g"
|`(tactic|walk_at "rdV_")=>rdF "JE.tox ? ; d|ae0 A A A ? ; rdU_|ae0 A A aeY ? ; rdU_"
|`(tactic|walk_at "rdU_")=>rdF "JA.tox ? ; g"
noncomputable def sE:FI (top 13) [eu] [eu]:=by walk_at "b"
def LB(D:ig K mg qq (top 13))(Z:Zs mg):lW P w K mg cq (k+1) qq [eu] (kC K (cl (j8 1 1 (BS K)))):=
 jL D sE.hb sE.hc sE.sc (by walk_at "c") λf iQ A cv s H E a=>by have b:=iL a;have nd:=sE.sc.nd;walk_at "a"
noncomputable def vH:FI (top 14) [eu] [eu]:=by walk_at "b"
def PP(D:ig K mg rk (top 14))(Z:Zs mg):lW P w K mg cq (k+1) rk [eu] (kC K (cl (j8 1 1 (y9 K)))):=
 jL D vH.hb vH.hc vH.sc (by walk_at "c") λf iQ A cv s H E a=>by have b:=iL a;have nd:=vH.sc.nd;walk_at "a"
noncomputable def sF:FI (iF (top 21) 0) [eH,eR] [eH,eR]:=by walk_at "b"
def LC(F:vZ K kz "Row.__init__" (iF (top 21) 0) f fd):j9 P w K mg cq rW (k+1) f fd [eH,eR] (kC K (tJ 2 2 (BU K))):=
 Sn F sF.hb sF.hc sF.sc λiQ A cv s H E a=>by have b:=iL a;have nd:=sF.sc.nd;walk_at "a"
def Iw(F:vZ K kz "Row.__init__" (iF (top 21) 0) f fd):Binds K fd [eH,eR] []:=F.binds (by walk_at "c")
noncomputable def qt:FI (iF (top 21) 1) [eH] [eH]:=by walk_at "b"
def Ix(F:vZ K ix "Row.words" (iF (top 21) 1) f fd)(Z:Zs mg):j9 P w K mg cq rW (k+1) f fd [eH] (kC K (cl (j8 1 1 (z6 K)))):=
 OU F qt.hb qt.hc qt.sc λiQ A cv s H E a=>by have b:=iL a;have nd:=qt.sc.nd;walk_at "a"
def F6(F:vZ K ix "Row.words" (iF (top 21) 1) f fd):Binds K fd [eH] []:=F.binds (by walk_at "c")
noncomputable def qu:FI (iF (top 21) 3) [eH] [eH]:=by walk_at "b"
def nU(F:vZ K ic "Row.asked" (iF (top 21) 3) f fd):j9 P w K mg cq rW (k+1) f fd [eH] (kC K (tJ 1 1 z7)):=
 Sn F qu.hb qu.hc qu.sc λiQ A cv s H E a=>by have b:=iL a;have nd:=qu.sc.nd;walk_at "a"
def mE(F:vZ K ic "Row.asked" (iF (top 21) 3) f fd):Binds K fd [eH] []:=F.binds (by walk_at "c")
noncomputable def nD:FI (iF (top 21) 4) [eH] [eH]:=by walk_at "b"
def qP(F:vZ K im "Row.goes_on" (iF (top 21) 4) f fd):j9 P w K mg cq rW (k+1) f fd [eH] (kC K (cl (j8 1 1 v7))):=
 OU F nD.hb nD.hc nD.sc λiQ A cv s H E a=>by have b:=iL a;have nd:=nD.sc.nd;walk_at "a"
def pF(F:vZ K im "Row.goes_on" (iF (top 21) 4) f fd):Binds K fd [eH] []:=F.binds (by walk_at "c")
noncomputable def kJ:FI (iF (top 23) 0) [eH] [eH]:=by walk_at "b"
def kK(F:vZ K im uaN (iF (top 23) 0) f fd):j9 P w K mg cq rW (k+1) f fd [eH] (kC K (cl (j8 1 1 qg))):=
 OU F kJ.hb kJ.hc kJ.sc λiQ A cv s H E a=>by have b:=iL a;have nd:=kJ.sc.nd;walk_at "a"
def ki(F:vZ K im uaN (iF (top 23) 0) f fd):Binds K fd [eH] []:=F.binds (by walk_at "c")
noncomputable def kL:FI (iF (top 26) 0) [eH] [eH]:=by walk_at "b"
def yh(F:vZ K im uaO (iF (top 26) 0) f fd):j9 P w K mg cq rW (k+1) f fd [eH] (kC K (cl (j8 1 1 xU))):=
 OU F kL.hb kL.hc kL.sc λiQ A cv s H E a=>by have b:=iL a;have nd:=kL.sc.nd;walk_at "a"
def wN(F:vZ K im uaO (iF (top 26) 0) f fd):Binds K fd [eH] []:=F.binds (by walk_at "c")
noncomputable def lg:FI (iF (top 28) 1) [eH] [eH]:=by walk_at "b"
def zf(F:vZ K ic uaP (iF (top 28) 1) f fd)(Z:Zs mg):j9 P w K mg cq rW (k+1) f fd [eH] (kC K (tJ 1 1 (rj K))):=
 Sn F lg.hb lg.hc lg.sc λiQ A cv s H E a=>by have b:=iL a;have nd:=lg.sc.nd;walk_at "a"
def yi(F:vZ K ic uaP (iF (top 28) 1) f fd):Binds K fd [eH] []:=F.binds (by walk_at "c")
noncomputable def mF:FI (iF (top 29) 1) [eH] [eH]:=by walk_at "b"
def uA(F:vZ K ic "AimRow.asked" (iF (top 29) 1) f fd):j9 P w K mg cq rW (k+1) f fd [eH] (kC K (tJ 1 1 (ur K))):=
 Sn F mF.hb mF.hc mF.sc λiQ A cv s H E a=>by have b:=iL a;have nd:=mF.sc.nd;walk_at "a"
def tM(F:vZ K ic "AimRow.asked" (iF (top 29) 1) f fd):Binds K fd [eH] []:=F.binds (by walk_at "c")
noncomputable def kj:FI (iF (top 30) 0) [eH] [eH]:=by walk_at "b"
def wO(F:vZ K im uaQ (iF (top 30) 0) f fd):j9 P w K mg cq rW (k+1) f fd [eH] (kC K (cl (j8 1 1 wM))):=
 OU F kj.hb kj.hc kj.sc λiQ A cv s H E a=>by have b:=iL a;have nd:=kj.sc.nd;walk_at "a"
def vV(F:vZ K im uaQ (iF (top 30) 0) f fd):Binds K fd [eH] []:=F.binds (by walk_at "c")
noncomputable def lh:FI (iF (top 32) 1) [eH] [eH]:=by walk_at "b"
def zg(F:vZ K ic uaR (iF (top 32) 1) f fd)(Z:Zs mg):j9 P w K mg cq rW (k+1) f fd [eH] (kC K (tJ 1 1 (rm K))):=
 Sn F lh.hb lh.hc lh.sc λiQ A cv s H E a=>by have b:=iL a;have nd:=lh.sc.nd;walk_at "a"
def yj(F:vZ K ic uaR (iF (top 32) 1) f fd):Binds K fd [eH] []:=F.binds (by walk_at "c")
noncomputable def oV:FI (top 33) [pa,eu] [pa,eu]:=by walk_at "b"
def F7(D:ig K mg uac (top 33))(Z:Zs mg)(a:iN P w K mg cq k "fits" [pa,eu] ut):lW P w K mg cq (k+1) uac [pa,eu] (kC K (cl (j8 2 2 (si K ut)))):=
 jL D oV.hb oV.hc oV.sc (by walk_at "c") λf iQ A cv s H E b=>by have c:=iL b;have nd:=oV.sc.nd;walk_at "a"
noncomputable def F8:FI (top 34) [pa,eu] [pa,eu]:=by walk_at "b"
def TK(D:ig K mg "fits" (top 34))(Z:Zs mg)(b:iN P w K mg cq k rk [eu] lZ)(c:iN P w K mg cq k qq [eu] js)(e:iN P w K mg cq k uac [pa,eu] k9):lW P w K mg cq (k+1) "fits" [pa,eu] (kC K (cl (j8 2 2 (BV K lZ js k9)))):=
 jL D F8.hb F8.hc F8.sc (by walk_at "c") λf iQ A cv s H E a=>by have g:=iL a;have nd:=F8.sc.nd;walk_at "a"
noncomputable def yk:FI (top 35) [eu,"forms"] [eu]:=by walk_at "b"
def TL(D:ig K mg "is_row" (top 35))(Z:Zs mg)(a:mg "FORMS"=aa (.ref qh))(b:yW K qh xV)(c:iN P w K mg cq k "fits" [pa,eu] ut):lW P w K mg cq (k+1) "is_row" [eu] (kC K (cl (j8 2 1 (BW K qh xV ut)))):=
 jL D yk.hb yk.hc yk.sc (by walk_at "c") λf iQ A cv s H E e=>by have g:=iL e;have nd:=yk.sc.nd;walk_at "a"
noncomputable def sG:FI (top 36) [eR,"kind"] [eR]:=by walk_at "b"
def LD(D:ig K mg vl (top 36))(a:mg "SetRow"=aa (.ref uu))(b:ow P w K mg cq k uu xW)(c:mg "AlikeRow"=aa (.ref pv))(e:ow P w K mg cq k pv sj)(g:mg "LastRow"=aa (.ref rn))(h:ow P w K mg cq k rn vB)(i:mg "LeaveRow"=aa (.ref pw))(j:ow P w K mg cq k pw sr)(m:mg "AimRow"=aa (.ref uv))(n:ow P w K mg cq k uv xX)(o:mg "BoxRow"=aa (.ref uw))(p:ow P w K mg cq k uw xY):lW P w K mg cq ((k+1)+1) vl [eR] (kC K (cl (j8 2 1 (BX uu xW pv sj rn vB pw sr uv xX uw xY)))):=
 jL D sG.hb sG.hc sG.sc (by walk_at "c") λf iQ A cv s H E q=>by have r:=iL q;have nd:=sG.sc.nd;walk_at "a"
noncomputable def yl:FI (top 37) [eu,eR] [eu]:=by walk_at "b"
def TM(D:ig K mg "row_of" (top 37))(Z:Zs mg)(a:iN P w K mg cq (k+1) "is_row" [eu] xZ)(h:mg qs=aa (.ref i0))(b:ow P w K mg cq k i0 vC)(i:mg uad=aa (.ref jH))(j:ow P w K mg cq k jH oR)(m:mg "TableRow"=aa (.ref ke))(c:ow P w K mg cq k ke su)(e:iN P w K mg cq (k+1) vl [eR] sv):lW P w K mg cq ((k+1)+1) "row_of" [eu] (kC K (tJ 2 1 (Ig K xZ i0 vC jH oR ke su sv))):=
 tL D yl.hb yl.hc yl.sc (by walk_at "c") λf iQ A cv s H E g=>by have n:=iL g;have nd:=yl.sc.nd;walk_at "a"
noncomputable def lm:FI (top 43) [eu] [eu]:=by walk_at "b"
def zh(D:ig K mg vp (top 43))(Z:Zs mg):lW P w K mg cq (k+1) vp [eu] (kC K (cl (j8 1 1 (rq K)))):=
 jL D lm.hb lm.hc lm.sc (by walk_at "c") λf iQ A cv s H E a=>by have b:=iL a;have nd:=lm.sc.nd;walk_at "a"
noncomputable def nE:FI (top 44) [lw] [lw]:=by walk_at "b"
def Du(D:ig K mg vr (top 44))(Z:Zs mg)(b:iN P w K mg cq k vp [eu] lc):lW P w K mg cq (k+1) vr [lw] (kC K (cl (j8 1 1 (v8 lc)))):=
 jL D nE.hb nE.hc nE.sc (by walk_at "c") λf iQ A cv s H E a=>by have c:=iL a;have nd:=nE.sc.nd;walk_at "a"
noncomputable def mG:FI (top 45) [lw] [lw]:=by walk_at "b"
def Cc(D:ig K mg vu (top 45))(Z:Zs mg)(b:iN P w K mg cq k vr [lw] jM):lW P w K mg cq (k+1) vu [lw] (kC K (cl (j8 1 1 (ux jM)))):=
 jL D mG.hb mG.hc mG.sc (by walk_at "c") λf iQ A cv s H E a=>by have c:=iL a;have nd:=mG.sc.nd;walk_at "a"
noncomputable def vJ:FI (top 46) [eu] [eu]:=by walk_at "b"
def PU(D:ig K mg "is_part" (top 46))(Z:Zs mg)(b:iN P w K mg cq k rk [eu] lZ)(c:iN P w K mg cq k vu [lw] jw):lW P w K mg cq (k+1) "is_part" [eu] (kC K (cl (j8 1 1 (EE K lZ jw)))):=
 jL D vJ.hb vJ.hc vJ.sc (by walk_at "c") λf iQ A cv s H E a=>by have e:=iL a;have nd:=vJ.sc.nd;walk_at "a"
noncomputable def qv:FI (top 47) [eu] [eu]:=by walk_at "b"
def Iy(D:ig K mg uae (top 47))(Z:Zs mg)(a:iN P w K mg cq k "is_part" [eu] vE)(c:iN P w K mg cq k vu [lw] jw)(e:iN P w K mg cq k vr [lw] jM):lW P w K mg cq (k+1) uae [eu] (kC K (cl (j8 1 1 (z8 K vE jw jM)))):=
 jL D qv.hb qv.hc qv.sc (by walk_at "c") λf iQ A cv s H E b=>by have g:=iL b;have nd:=qv.sc.nd;walk_at "a"
noncomputable def vL:FI (top 48) [ly,lw,hH,oo,eu,"row"] [ly,lw]:=by walk_at "b"
def PV(D:ig K mg "rows_of" (top 48))(Z:Zs mg)(a:iN P w K mg cq k "row_of" [eu] yd):lW P w K mg cq (k+1) "rows_of" [ly,lw] (kC K (cl (j8 6 2 (EF yd)))):=
 jL D vL.hb vL.hc vL.sc (by walk_at "c") λf iQ A cv s H E b=>by have c:=iL b;have nd:=vL.sc.nd;walk_at "a"
noncomputable def kM:FI (top 49) [hH,"row"] [hH]:=by walk_at "b"
def ym(D:ig K mg vv (top 49))(Z:Zs mg)(b:mg qs=aa (.ref i0)):lW P w K mg cq (k+1) vv [hH] (kC K (cl (j8 2 1 (mx K i0)))):=
 jL D kM.hb kM.hc kM.sc (by walk_at "c") λf iQ A cv s H E a=>by have c:=iL a;have nd:=kM.sc.nd;walk_at "a"
noncomputable def kq:FI (top 50) [ly,hH,oo,"row","behind"] [ly,hH]:=by walk_at "b"
def wP(D:ig K mg uaf (top 50))(Z:Zs mg)(c:iN P w K mg cq k vv [hH] kI)(a:∀C g,vF C im g->qN P w K mg cq k C im g)(e:mg "CodeRow"=aa (.ref l5))(h:mg qs=aa (.ref i0)):lW P w K mg cq (k+1) uaf [ly,hH] (kC K (cl (j8 5 2 (lN K kI vF l5 i0)))):=
 jL D kq.hb kq.hc kq.sc (by walk_at "c") λf iQ A cv s H E b=>by have i:=iL b;have nd:=kq.sc.nd;walk_at "a"
noncomputable def qw:FI (top 51) [fv,eR,ly,hH] [fv]:=by walk_at "b"
def Iz(D:ig K mg uag (top 51))(c:iN P w K mg cq k uae [eu] qi)(a:iN P w K mg cq k "rows_of" [ly,lw] vG)(e:iN P w K mg cq k uaf [ly,hH] kh):lW P w K mg cq (k+1) uag [fv] (kC K (cl (j8 4 1 (z9 qi vG kh)))):=
 jL D qw.hb qw.hc qw.sc (by walk_at "c") λf iQ A cv s H E b=>by have g:=iL b;have nd:=qw.sc.nd;walk_at "a"
noncomputable def zi:FI (top 53) [fv] [fv]:=by walk_at "b"
def PY(D:ig K mg gc (top 53))(b:BN K mg cq)(Z:Zs mg):lW P w K mg cq ((k+4)+1) gc [fv] (kC K (cl (j8 1 1 EG))):=
 aeM D b zi.hb zi.hc zi.sc (by walk_at "c") λf iQ A cv s H E c a=>by have e:=iL a;exact(RS (RT (YY (SO (k:=k) (ahg c) a Z.sorted (j_v 0) ⟨rfl,rfl,rfl,by decide+kernel,rfl,by decide+kernel,by decide+kernel⟩))))
noncomputable def lK:FI (top 54) [nu,hH,nb,oo,"row",ly,"strong"] [nu,hH]:=by walk_at "b"
def Ay(D:ig K mg uah (top 54))(Z:Zs mg)(b:mg qs=aa (.ref i0))(c:∀C g,lD C ix g->qN P w K mg cq k C ix g):lW P w K mg cq (k+1) uah [nu,hH] (kC K (cl (j8 7 2 (oy K i0 lD)))):=
 jL D lK.hb lK.hc lK.sc (by walk_at "c") λf iQ A cv s H E a=>by have e:=iL a;have nd:=lK.sc.nd;walk_at "a"
noncomputable def sH:FI (top 55) [eR,nb,nu,hH] [eR]:=by walk_at "b"
def LH(D:ig K mg "marks_in" (top 55))(b:iN P w K mg cq k gc [fv] l6)(c:iN P w K mg cq k uah [nu,hH] lH):lW P w K mg cq (k+1) "marks_in" [eR] (kC K (cl (j8 4 1 (B5 l6 lH)))):=
 jL D sH.hb sH.hc sH.sc (by walk_at "c") λf iQ A cv s H E a=>by have e:=iL a;have nd:=sH.sc.nd;walk_at "a"
noncomputable def mH:FI (top 56) [nb,fv,ly,"strong",qx] [nb]:=by walk_at "b"
def Ce(D:ig K mg vx (top 56)):lW P w K mg cq (k+1) vx [nb] (kC K (tJ 5 1 uy)):=
 tL D mH.hb mH.hc mH.sc (by walk_at "c") λf iQ A cv s H E a=>by have b:=iL a;have nd:=mH.sc.nd;walk_at "a"
noncomputable def ln:FI (top 57) [nb,fv,ly] [nb]:=by walk_at "b"
def zj(D:ig K mg uai (top 57))(Z:Zs mg)(b:iN P w K mg cq k vx [nb] my):lW P w K mg cq (k+1) uai [nb] (kC K (cl (j8 3 1 (rA my)))):=
 jL D ln.hb ln.hc ln.sc (by walk_at "c") λf iQ A cv s H E a=>by have c:=iL a;have nd:=ln.sc.nd;walk_at "a"
noncomputable def qy:FI (top 58) [eR,nb,nR,ly,"strong",qx] [eR]:=by walk_at "b"
def IA(D:ig K mg uaj (top 58))(a:iN P w K mg cq k "marks_in" [eR] sx)(c:iN P w K mg cq k uai [nb] lf):lW P w K mg cq (k+1) uaj [eR] (kC K (cl (j8 6 1 (Aa sx lf)))):=
 jL D qy.hb qy.hc qy.sc (by walk_at "c") λf iQ A cv s H E b=>by have e:=iL b;have nd:=qy.sc.nd;walk_at "a"
noncomputable def lL:FI (top 59) [hH] [hH]:=by walk_at "b"
def Az(D:ig K mg vI (top 59))(Z:Zs mg)(b:mg qs=aa (.ref i0)):lW P w K mg cq (k+1) vI [hH] (kC K (cl (j8 1 1 (oz K i0)))):=
 jL D lL.hb lL.hc lL.sc (by walk_at "c") λf iQ A cv s H E a=>by have c:=iL a;have nd:=lL.sc.nd;walk_at "a"
noncomputable def qz:FI (top 60) [eR] [eR]:=by walk_at "b"
def IB(D:ig K mg uak (top 60))(Z:Zs mg)(b:iN P w K mg cq k gc [fv] l6)(c:iN P w K mg cq k vI [hH] lJ):lW P w K mg cq (k+1) uak [eR] (kC K (cl (j8 1 1 (Ab l6 lJ)))):=
 jL D qz.hb qz.hc qz.sc (by walk_at "c") λf iQ A cv s H E a=>by have e:=iL a;have nd:=qz.sc.nd;walk_at "a"
noncomputable def sI:FI (top 61) ["lists",qx] ["lists",qx]:=by walk_at "b"
def LI(D:ig K mg vT (top 61)):lW P w K mg cq (k+1) vT ["lists",qx] (kC K (cl (j8 2 2 B6))):=
 jL D sI.hb sI.hc sI.sc (by walk_at "c") λf iQ A cv s H E a=>by have b:=iL a;have nd:=sI.sc.nd;walk_at "a"
noncomputable def oW:FI (top 62) ["row","aim","kind"] ["row","aim"]:=by walk_at "b"
def Ga(D:ig K mg ual (top 62))(Z:Zs mg)(b:∀C g,lD C ix g->qN P w K mg cq k C ix g)(c:mg uad=aa (.ref jH))(e:mg "TableRow"=aa (.ref ke))(h:mg "CodeRow"=aa (.ref l5)):lW P w K mg cq (k+1) ual ["row","aim"] (kC K (cl (j8 3 2 (sy K lD jH ke l5)))):=
 jL D oW.hb oW.hc oW.sc (by walk_at "c") λf iQ A cv s H E a=>by have i:=iL a;have nd:=oW.sc.nd;walk_at "a"
noncomputable def mI:FI (top 63) [nu,lB,nR,oo,"row",ly] [nu,lB,nR]:=by walk_at "b"
def Cf(D:ig K mg uam (top 63))(Z:Zs mg)(a:∀C g,sw C ic g->qN P w K mg cq k C ic g)(e:iN P w K mg cq k ual ["row","aim"] oU)(b:iN P w K mg cq k vT ["lists",qx] sA):lW P w K mg cq (k+1) uam [nu,lB,nR] (kC K (cl (j8 6 3 (uz sw oU sA)))):=
 jL D mI.hb mI.hc mI.sc (by walk_at "c") λf iQ A cv s H E c=>by have h:=iL c;have nd:=mI.sc.nd;walk_at "a"
noncomputable def yn:FI (top 64) [fv,eR,nR,lB,nu,hH] [fv]:=by walk_at "b"
def TR(D:ig K mg wg (top 64))(b:iN P w K mg cq k uag [fv] qj)(c:iN P w K mg cq k uaj [eR] qk)(e:iN P w K mg cq k uak [eR] ql)(g:iN P w K mg cq k uam [nu,lB,nR] mz):lW P w K mg cq (k+1) wg [fv] (kC K (cl (j8 6 1 (Ir qj qk ql mz)))):=
 jL D yn.hb yn.hc yn.sc (by walk_at "c") λf iQ A cv s H E a=>by have h:=iL a;have nd:=yn.sc.nd;walk_at "a"
noncomputable def lp:FI (top 69) [fy] [fy]:=by walk_at "b"
def nq (js:GN)(jA:aw):XB:=(xIf (Dh (mT (ie (iJ js (hU (hV 0) hX)))) (mT (ie (mj wx wx (dC (.int 1)) (hV 0) (dC (.int 64)))))) (FV jA (hU (dC (.str "the border is none from 1 to 64")) hX)) (λ_=>iy))
def zk(D:ig K mg wh (top 69))(Z:Zs mg)(b:iN P w K mg cq k qq [eu] js)(c:mg "BadBase"=aa (.ref jA))(e:Py K jA):tT P w K mg cq (k+1) wh [fy] (FU K (Av 1 1 (nq js jA))):=
 ND D lp.hb lp.hc lp.sc (by walk_at "c") λf iQ A cv s H E a=>by have g:=iL a;have nd:=lp.sc.nd;walk_at "n"
noncomputable def mJ:FI (top 70) [fy,lP] [fy,lP]:=by walk_at "b"
def pG (jg:Kb)(js:GN)(jA:aw):XB:=(Ps (EC (dCX jg (λ_=>(hU (hV 0) hX))))
 (xIf (Dh (mT (ie (iJ js (hU (hV 1) hX)))) (Dh (ie (ij U9 (hV 1) (dC (.int 0)))) (ie (ij Dl (ij nQ (hV 1) (hV 0)) (dC (.int 0)))))) (FV jA (hU (dC (.str "the base is below 0 or no multiple of the border")) hX)) (λ_=>iy)))
def Cg(D:ig K mg uan (top 70))(b:xT P w K mg cq k wh [fy] jg)(c:iN P w K mg cq k qq [eu] js)(e:mg "BadBase"=aa (.ref jA))(g:Py K jA):tT P w K mg cq (k+1) uan [fy,lP] (FU K (Av 2 2 (pG jg js jA))):=
 ND D mJ.hb mJ.hc mJ.sc (by walk_at "c") λf iQ A cv s H E a=>by have h:=iL a;have nd:=mJ.sc.nd;walk_at "n"
noncomputable def mK:FI (top 77) [fv,fy,lB,nR] [fv,fy]:=by walk_at "b"
def uB (nS:GN)(jg:Kb)(nB:GN):XB:=(Ps (λ_=>(RW (iJ nS (hU (hV 0) hX)) (jR 2 (iw (ib 2) (iw (ib 3) jZ)))))
 (Ps (EC (dCX jg (λ_=>(hU (hV 1) hX))))
 (λ_=>(iu (iJ nB (hU (hV 2) (hU (hV 3) (hU (hV 1) hX))))))))
def Ci(D:ig K mg uao (top 77))(b:iN P w K mg cq k wg [fv] nS)(c:xT P w K mg cq k wh [fy] jg)(e:iN P w K mg cq k "least_right" [lB,nR,fy] nB):tT P w K mg cq (k+1) uao [fv,fy] (FU K (Av 4 2 (uB nS jg nB))):=
 ND D mK.hb mK.hc mK.sc (by walk_at "c") λf iQ A cv s H E a=>by have g:=iL a;have nd:=mK.sc.nd;walk_at "n"
noncomputable def qA:FI (top 78) [lB,fy,lP,nX,eR,"end",nu] [lB,fy,lP,nX]:=by walk_at "b"
def Ac:DS:=(ii (iV 4 (nL Bq))
 (ii (iV 5 (hV 2))
 (ii (oM (Tr (hV 0)) (ib 6) (ii (Nb (hV 4) (hV 6) (ij Fv (ij ze (ij Lz (ij iW (hV 5) (hV 1)) (dC (.int 1))) (hV 1)) (hV 1)))
 (iV 5 (ij iW (ij jl (hV 4) (hV 6)) (iJ K7 (hU (ij jl (hV 3) (hV 6)) hX))))))
 (iu (hV 4)))))
def IC(D:ig K mg wk (top 78))(Z:Zs mg):lW P w K mg cq (k+1) wk [lB,fy,lP,nX] (kC K (cl (j8 7 4 Ac))):=
 jL D qA.hb qA.hc qA.sc (by walk_at "c") λf iQ A cv s H E a=>by have b:=iL a;have nd:=qA.sc.nd;walk_at "a"
noncomputable def yo:FI (top 79) [fv,fy,lP,nX,lB,nR] [fv,fy,lP,nX]:=by walk_at "b"
def ID (nS:GN)(mC:Kb)(qm:GN):XB:=(Ps (λ_=>(RW (iJ nS (hU (hV 0) hX)) (jR 2 (iw (ib 4) (iw (ib 5) jZ)))))
 (Ps (EC (dCX mC (λ_=>(hU (hV 1) (hU (hV 2) hX)))))
 (λ_=>(iu (iJ qm (hU (hV 4) (hU (hV 1) (hU (hV 2) (hU (hV 3) hX)))))))))
def TW(D:ig K mg wr (top 79))(b:iN P w K mg cq k wg [fv] nS)(c:xT P w K mg cq k uan [fy,lP] mC)(e:iN P w K mg cq k wk [lB,fy,lP,nX] qm):tT P w K mg cq (k+1) wr [fv,fy,lP,nX] (FU K (Av 6 4 (ID nS mC qm))):=
 ND D yo.hb yo.hc yo.sc (by walk_at "c") λf iQ A cv s H E a=>by have g:=iL a;have nd:=yo.sc.nd;walk_at "n"
noncomputable def nF:FI (top 81) [oi,ma] [oi,ma]:=by walk_at "b"
def wa:DS:=(ii (i5 (ie (ij U9 (hV 1) (iJ j3 (hU (hV 0) hX)))) (iu (ij jl (hV 0) (hV 1))) iy)
 (iu (dC (.int 0))))
def Dw(D:ig K mg xC (top 81))(Z:Zs mg):lW P w K mg cq (k+1) xC [oi,ma] (kC K (cl (j8 2 2 wa))):=
 jL D nF.hb nF.hc nF.sc (by walk_at "c") λf iQ A cv s H E a=>by have b:=iL a;have nd:=nF.sc.nd;walk_at "a"
noncomputable def qB:FI (top 82) [pd,ra,uap,"_law_rest","_law_number","_law_mixed",ma] [pd,ra]:=by walk_at "b"
def drC:DS:=(ii (iV 4 (ij iW (ij nQ (hV 0) (ij iW (ij B7 (dC (.int 10)) (dC (.int 40))) (dC (.int 121)))) (dC (.int 48271))))
 (ii (iV 5 (nL (kY hX)))
 (ii (oM (ui (hU (ij iW (hV 1) (dC (.int 4))) hX)) (ib 6) (ii (iV 4 (ij nQ (ij iW (ij iW (ij (gI ED λi j=>.int (i*j)) (hV 4) (hV 4)) (ij (gI ED λi j=>.int (i*j)) (dC (.int 48271)) (hV 4))) (hV 6)) (ij iW (ij B7 (dC (.int 10)) (dC (.int 40))) (dC (.int 121)))))
 (jY (yG cr iT (hV 5) (hU (hV 4) hX)))))
 (iu (nL (M7 (hV 2) (Vb (hV 5) (uj (ij iW (dC (.int 4)) (iJ j3 (hU (hV 2) hX)))) oQ)))))))
def drB:DS:=(ii (KI (yR (ie (ij Dl (hV 3) (dC (.int 0)))) (yR (ie (ij Dl (hV 3) (OP (dC (.int 1))))) (ie (ij U9 (iJ j3 (hU (hV 2) hX)) (hV 1))))) (ii (jY (yG cr iT (hV 2) (hU (ij nQ (hV 3) (ij B7 (dC (.int 10)) (dC (.int 12)))) hX)))
 (iV 3 (ij ze (hV 3) (ij B7 (dC (.int 10)) (dC (.int 12)))))))
 drC)
def uC:DS:=(ii (iV 2 (nL (kY hX)))
 (ii (iV 3 (ij ze (hV 0) (dC (.int 2))))
 (ii (i5 (ie (ij tV (ij nQ (hV 0) (dC (.int 2))) (dC (.int 1)))) (iV 3 (dC (.int 0))) iy) drB)))
def IE(D:ig K mg rl (top 82))(Z:Zs mg):lW P w K mg cq (k+1) rl [pd,ra] (kC K (tJ 7 2 uC)):=
 tL D qB.hb qB.hc qB.sc (by walk_at "c") λf iQ A cv s H E a=>by have b:=iL a;have nd:=qB.sc.nd;walk_at "a"
noncomputable def sJ:FI (top 83) [ew,kv] [ew,kv]:=by walk_at "b"
def Cj:DS:=(ii (i5 (ie (ij Aq (hV 0) (jn (kY hX)))) (iu (dC (.int 0))) iy)
 (iu (ij nQ (yG cr Y8 (hV 0) (hU (dC (.int 0)) hX)) (hV 1))))
def LJ(D:ig K mg ng (top 83)):lW P w K mg cq (k+1) ng [ew,kv] (kC K (tJ 2 2 Cj)):=
 tL D sJ.hb sJ.hc sJ.sc (by walk_at "c") λf iQ A cv s H E a=>by have b:=iL a;have nd:=sJ.sc.nd;walk_at "a"
noncomputable def sL:FI (top 84) [ma,pu] [ma]:=by walk_at "b"
def wQ:DS:=(ii (iV 1 (dC (.str uaT)))
 (ii (i5 (yR (ie (ij tV (ij nQ (hV 0) (dC (.int 5))) (dC (.int 4)))) (ie (ij U9 (hV 0) (dC (.int 40))))) (iu (ij iW (dC (.str "p")) (ij jl (hV 1) (ij ze (hV 0) (dC (.int 5)))))) iy)
 (ii (i5 (ie (ij tV (ij nQ (hV 0) (dC (.int 5))) (dC (.int 3)))) (iu (ij iW (ij iW (dC (.str "nnnnn")) (ij jl (hV 1) (ij nQ (ij ze (hV 0) (dC (.int 26))) (dC (.int 26))))) (ij jl (hV 1) (ij nQ (hV 0) (dC (.int 26)))))) iy)
 (iu (ij iW (ij iW (dC (.str "n")) (ij jl (hV 1) (ij nQ (ij ze (hV 0) (dC (.int 26))) (dC (.int 26))))) (ij jl (hV 1) (ij nQ (hV 0) (dC (.int 26)))))))))
def LL(D:ig K mg xH (top 84)):lW P w K mg cq (k+1) xH [ma] (kC K (cl (j8 2 1 wQ))):=
 jL D sL.hb sL.hc sL.sc (by walk_at "c") λf iQ A cv s H E a=>by have b:=iL a;have nd:=sL.sc.nd;walk_at "a"
noncomputable def sM:FI (top 85) [ky,px,nN] [ky,px]:=by walk_at "b"
def Ck:DS:=(ii (oM (jv (Vb (hV 0) (uj (hV 1)) oQ)) (ib 2) (i5 (ie (ij Dl (ij jl (hV 2) (dC (.int 0))) (dC (.str ll)))) (iu (ij jl (jn (kY (hU (ij jl (hV 2) (dC (.int 0))) (hU (dC (.str "code")) hX)))) (iJ Au (hU (ij (AO ag) (ij jl (hV 2) (dC (.int 0))) (i6 (hU (dC (.str gr)) (hU (dC (.str hJ)) hX)))) hX)))) iy))
 (iu (dC (.str ""))))
def LM(D:ig K mg yQ (top 85))(Z:Zs mg):lW P w K mg cq (k+1) yQ [ky,px] (kC K (tJ 3 2 Ck)):=
 tL D sM.hb sM.hc sM.sc (by walk_at "c") λf iQ A cv s H E a=>by have b:=iL a;have nd:=sM.sc.nd;walk_at "a"
noncomputable def sN:FI (top 86) [la,jm,ew,uap,"_law_turn","_law_word",py,"_law_sort_here","_law_strong",ky,px] [la,jm,ew]:=by walk_at "b"
def mB' (ia:GN)(m9:GN):DS:=(ii (RW (ij jl (hV 1) (iJ ia (hU (hV 2) (hU (iJ j3 (hU (hV 1) hX)) hX)))) (jR 2 (iw (ib 5) (iw (ib 6) jZ))))
 (ii (iV 7 (ij jl (jn (kY (hU (hV 6) (hU (dC (.str "code")) hX)))) (iJ Au (hU (ij (AO ag) (hV 6) (i6 (hU (dC (.str gr)) (hU (dC (.str hJ)) hX)))) hX))))
 (ii (iV 8 (iJ Xe (hU (jn (jO [ar,ar,aa 5] (jv (hV 3)) (jR 2 (iw (ib 0) (iw (ib 1) jZ))) oO (ij Lg (i6 (hU (dC (.str ll)) (hU (hV 2) (hU (dC (.bl ag)) hX)))) (hV 1)))) hX)))
 (ii (iV 9 (ij jl (ij jl (hV 3) (iJ ia (hU (hV 2) (hU (iJ j3 (hU (hV 3) hX)) hX)))) (dC (.int 1))))
 (ii (iV 10 (iJ ia (hU (hV 2) (hU (iJ j3 (hU (hV 9) hX)) hX))))
 (i5 (ie (ij tV (iJ m9 (hU (hV 9) (hU (hV 10) hX))) (hV 7))) (jY (yG cr uq (hV 9) (hU (hV 10) (hU (i6 (hU (dC (.str ll)) (hU (hV 5) (hU (ue (Ei (hV 8)) (ij tV (iJ ia (hU (hV 2) (hU (dC (.int 2)) hX))) (dC (.int 1)))) hX)))) hX)))) iy))))))
def wR (ia:GN)(m9:GN):DS:=(ii (iV 3 (jn (jO [ar,ar] (jv (hV 0)) (jR 2 (iw (ib 0) (iw (ib 1) jZ))) oO (i6 (hU (hV 0) (hU (nL (Qz wB (hU (hV 1) hX))) hX))))))
 (ii (oM (ui (hU (iJ ia (hU (hV 2) (hU (dC (.int 5)) hX))) hX)) (ib 4) (mB' ia m9))
 (iu (hV 3))))
def LN(D:ig K mg uaq (top 86))(Z:Zs mg)(c:iN P w K mg cq k ng [ew,kv] ia)(a:iN P w K mg cq k yQ [ky,px] m9):lW P w K mg cq (k+1) uaq [la,jm,ew] (kC K (tJ 11 3 (wR ia m9))):=
 tL D sN.hb sN.hc sN.sc (by walk_at "c") λf iQ A cv s H E b=>by have e:=iL b;have nd:=sN.sc.nd;walk_at "a"
noncomputable def sO:FI (top 87) [ew,uar,"_law_b","_law_c",py,"_law_plain"] [ew,uar]:=by walk_at "b"
def wS (ia:GN):DS:=(ii (iV 2 (iJ ia (hU (hV 0) (hU (dC (.int 4)) hX))))
 (ii (iV 3 (iJ ia (hU (hV 0) (hU (dC (.int 4)) hX))))
 (ii (iV 4 (iJ ia (hU (hV 0) (hU (dC (.int 16)) hX))))
 (ii (i5 (ie (hV 1)) (iu (ij jl (jn (kY (hU (i6 (hU (dC (.str nP)) hX)) (hU (i6 (hU (dC (.str nP)) hX)) (hU (i6 (hU (dC (.str pj)) hX)) (hU (i6 (hU (dC (.str qe)) hX)) (hU (i6 (hU (dC (.str nn)) (hU (hV 2) hX))) hX))))))) (ij nQ (hV 4) (dC (.int 5))))) iy)
 (ii (iV 5 (jn (kY (hU (i6 (hU (dC (.str fq)) (hU (hV 2) (hU (ij Lz (iJ ia (hU (hV 0) (hU (ij B7 (dC (.int 2)) (dC (.int 32))) hX))) (ij B7 (dC (.int 2)) (dC (.int 31)))) hX)))) (hU (i6 (hU (dC (.str fq)) (hU (hV 2) (hU (ij Lz (ij iW (hV 4) (hV 3)) (dC (.int 9))) hX)))) (hU (i6 (hU (dC (.str "add")) (hU (hV 2) (hU (hV 3) hX)))) (hU (i6 (hU (dC (.str "take")) (hU (hV 2) (hU (hV 3) hX)))) hX)))))))
 (ii (iV 5 (ij iW (hV 5) (jn (kY (hU (i6 (hU (dC (.str "say")) (hU (hV 2) hX))) (hU (i6 (hU (dC (.str "say")) (hU (hV 2) hX))) (hU (i6 (hU (dC (.str "ask")) (hU (hV 2) hX))) (hU (i6 (hU (dC (.str oD)) (hU (hV 2) hX))) (hU (i6 (hU (dC (.str oD)) (hU (hV 2) hX))) (hU (i6 (hU (dC (.str pr)) hX)) (hU (i6 (hU (dC (.str nP)) hX)) hX)))))))))))
 (ii (iV 5 (ij iW (hV 5) (jn (kY (hU (i6 (hU (dC (.str oH)) (hU (hV 2) (hU (hV 3) hX)))) (hU (i6 (hU (dC (.str nn)) (hU (hV 2) hX))) (hU (i6 (hU (dC (.str ov)) (hU (hV 2) hX))) (hU (i6 (hU (dC (.str qe)) hX)) (hU (i6 (hU (dC (.str pj)) hX)) hX)))))))))
 (iu (ij jl (hV 5) (hV 4))))))))))
def LO(D:ig K mg uas (top 87))(b:iN P w K mg cq k ng [ew,kv] ia):lW P w K mg cq (k+1) uas [ew,uar] (kC K (tJ 6 2 (wS ia))):=
 tL D sO.hb sO.hc sO.sc (by walk_at "c") λf iQ A cv s H E a=>by have c:=iL a;have nd:=sO.sc.nd;walk_at "a"
noncomputable def qC:FI (top 88) [ew,ky,ma,py,ra] [ew]:=by walk_at "b"
def blC (ia:GN):DS:=(ii (i5 (ie (ij tV (hV 3) (dC (.int 1)))) (ii (iV 4 (ij iW (dC (.int 1)) (iJ ia (hU (hV 0) (hU (dC (.int 3)) hX)))))
 (jY (yG cr iT (hV 1) (hU (i6 (hU (dC (.str gr)) (hU (jn (jO [ar,aa 0] (ui (hU (hV 4) hX)) (ib 0) oO (ij Lz (iJ ia (hU (hV 1) (hU (ij B7 (dC (.int 2)) (dC (.int 32))) hX))) (ij B7 (dC (.int 2)) (dC (.int 31)))))) hX))) hX)))) iy)
 (ii (i5 (ie (ij tV (hV 3) (dC (.int 2)))) (jY (yG cr iT (hV 1) (hU (i6 (hU (dC (.str gr)) (hU (jn (jO [ar] (ui (hU (ij iW (dC (.int 1)) (iJ ia (hU (hV 0) (hU (dC (.int 60)) hX)))) hX)) (ib 0) oO (ij Lz (ij Fv (dC (.int 7)) (hV 0)) (dC (.int 3))))) hX))) hX))) iy)
 (ii (i5 (ie (ij tV (hV 3) (dC (.int 3)))) (jY (yG cr iT (hV 1) (hU (i6 (hU (dC (.str hJ)) (hU (ij iW (dC (.int 1)) (iJ ia (hU (hV 0) (hU (dC (.int 3)) hX)))) hX))) hX))) iy)
 (iu (HX 1)))))
def uD (ia:GN)(pD:GN):DS:=(ii (iV 1 (nL (kY hX)))
 (ii (oM (ui (hU (iJ ia (hU (hV 0) (hU (dC (.int 6)) hX))) hX)) (ib 2) (jY (yG cr iT (hV 1) (hU (iJ pD (hU (hV 0) (hU (dC (.bl au)) hX))) hX))))
 (ii (jY (yG cr iT (hV 1) (hU (iJ pD (hU (hV 0) (hU (dC (.bl ag)) hX))) hX)))
 (ii (iV 3 (iJ ia (hU (hV 0) (hU (dC (.int 5)) hX))))
 (blC ia)))))
def IF(D:ig K mg uat (top 88))(Z:Zs mg)(c:iN P w K mg cq k ng [ew,kv] ia)(a:iN P w K mg cq k uas [ew,uar] pD):lW P w K mg cq (k+1) uat [ew] (kC K (tJ 5 1 (uD ia pD))):=
 tL D qC.hb qC.hc qC.sc (by walk_at "c") λf iQ A cv s H E b=>by have e:=iL b;have nd:=qC.sc.nd;walk_at "a"
noncomputable def mL:FI (top 89) [ew,jm,kv,ky,ma,nN] [ew,jm,kv]:=by walk_at "b"
def skA (ia:GN)(nh:GN):DS:=(ii (i5 (Dh (ie (ij (AO au) (ij jl (hV 5) (dC (.int 0))) (i6 (hU (dC (.str gr)) (hU (dC (.str hJ)) hX))))) (Dh (ie (ij Aq (hV 3) (jn (kY hX)))) (ie (ij tV (iJ ia (hU (hV 0) (hU (dC (.int 3)) hX))) (dC (.int 1)))))) (ii (jY (yG cr iT (hV 1) (hU (i6 (hU (iJ nh (hU (iJ j3 (hU (hV 1) hX)) hX)) (hU (ij jl (hV 5) (dC (.int 0))) hX))) hX)))
 (jY (yG cr iT (hV 3) (hU (i6 (hU (dC (.str ll)) (hU (ij jl (ij jl (hV 1) (OP (dC (.int 1)))) (dC (.int 0))) (hU (ij ab4 (iJ ia (hU (hV 0) (hU (dC (.int 4)) hX))) (dC (.int 0))) hX)))) hX)))) iy)
 (jY (yG cr iT (hV 3) (hU (hV 5) hX))))
def pH (ia:GN)(qo:GN)(nh:GN):DS:=(ii (iV 3 (nL (kY hX)))
 (ii (oM (ui (hU (ij iW (dC (.int 1)) (iJ ia (hU (hV 0) (hU (hV 2) hX)))) hX)) (ib 4) (oM (jv (iJ qo (hU (hV 0) hX))) (ib 5) (skA ia nh)))
 (iu (HX 3))))
def Cm(D:ig K mg uau (top 89))(Z:Zs mg)(c:iN P w K mg cq k ng [ew,kv] ia)(e:iN P w K mg cq k uat [ew] qo)(a:iN P w K mg cq k xH [ma] nh):lW P w K mg cq (k+1) uau [ew,jm,kv] (kC K (tJ 6 3 (pH ia qo nh))):=
 tL D mL.hb mL.hc mL.sc (by walk_at "c") λf iQ A cv s H E b=>by have g:=iL b;have nd:=mL.sc.nd;walk_at "a"
noncomputable def sP:FI (top 90) [ew,jm,uav,pu] [ew,jm,uav]:=by walk_at "b"
def Cn (ia:GN):DS:=(ii (iV 3 (jn (jO [ar,ar,aa 2] (jv (hV 1)) (jR 2 (iw (ib 0) (iw (ib 1) jZ))) (Dh (ie (ij (AO au) (hV 1) (hV 2))) (yR (ie (ij Aq (hV 2) (i6 hX))) (ie (ij (AO ag) (hV 1) (i6 (hU (dC (.str gr)) (hU (dC (.str hJ)) hX))))))) (hV 0))))
 (ii (i5 (ie (ij Aq (hV 3) (jn (kY hX)))) (iu (dC .non)) iy)
 (iu (ij jl (hV 3) (iJ ia (hU (hV 0) (hU (iJ j3 (hU (hV 3) hX)) hX)))))))
def LP(D:ig K mg uaw (top 90))(Z:Zs mg)(b:iN P w K mg cq k ng [ew,kv] ia):lW P w K mg cq (k+1) uaw [ew,jm,uav] (kC K (tJ 4 3 (Cn ia))):=
 tL D sP.hb sP.hc sP.sc (by walk_at "c") λf iQ A cv s H E a=>by have c:=iL a;have nd:=sP.sc.nd;walk_at "a"
noncomputable def qD:FI (top 91) [nN,ew,jm,uax,pu] [nN,ew,jm]:=by walk_at "b"
def qE (ni:GN)(ia:GN):DS:=(ii (i5 (ie (ij (AO au) (ij jl (hV 0) (dC (.int 0))) (i6 (hU (dC (.str nP)) (hU (dC (.str oD)) (hU (dC (.str pr)) hX)))))) (iu (ij iW (hV 0) (i6 (hU (iJ ni (hU (hV 1) (hU (hV 2) (hU (i6 hX) hX)))) hX)))) iy)
 (ii (i5 (ie (ij (AO au) (ij jl (hV 0) (dC (.int 0))) (i6 (hU (dC (.str oH)) (hU (dC (.str nn)) hX))))) (ii (iV 3 (iJ ni (hU (hV 1) (hU (hV 2) (hU (ij jl (jn (kY (hU (i6 (hU (dC (.str gr)) hX)) (hU (i6 (hU (dC (.str hJ)) hX)) hX)))) (iJ Au (hU (ij tV (ij jl (hV 0) (dC (.int 0))) (dC (.str nn))) hX))) hX)))))
 (ii (i5 (ie (ij gIs (hV 3) (dC .non))) (iu (i6 (hU (dC (.str pj)) hX))) iy)
 (iu (ij iW (hV 0) (i6 (hU (hV 3) hX)))))) iy)
 (ii (i5 (ie (ij tV (ij jl (hV 0) (dC (.int 0))) (dC (.str ov)))) (ii (iV 4 (jn (jO [ar,ar] (jv (hV 2)) (jR 2 (iw (ib 0) (iw (ib 1) jZ))) oO (hV 0))))
 (ii (iV 0 (ij iW (hV 0) (i6 (hU (ij jl (hV 4) (iJ ia (hU (hV 1) (hU (iJ j3 (hU (hV 4) hX)) hX)))) hX))))
 (iu (ij iW (hV 0) (i6 (hU (ij jl (hV 4) (iJ ia (hU (hV 1) (hU (iJ j3 (hU (hV 4) hX)) hX)))) hX)))))) iy)
 (ii (i5 (ie (ij tV (ij jl (hV 0) (dC (.int 0))) (dC (.str hJ)))) (iu (i6 (hU (dC (.str hJ)) (hU (jn (jO [ar,aa 1,aa 2] (ui (hU (ij jl (hV 0) (dC (.int 1))) hX)) (ib 0) oO (iJ ni (hU (hV 1) (hU (hV 2) (hU (i6 hX) hX)))))) hX)))) iy)
 (iu (hV 0))))))
def IG(D:ig K mg uay (top 91))(Z:Zs mg)(a:iN P w K mg cq k uaw [ew,jm,uav] ni)(c:iN P w K mg cq k ng [ew,kv] ia):lW P w K mg cq (k+1) uay [nN,ew,jm] (kC K (tJ 5 3 (qE ni ia))):=
 tL D qD.hb qD.hc qD.sc (by walk_at "c") λf iQ A cv s H E b=>by have e:=iL b;have nd:=qD.sc.nd;walk_at "a"
noncomputable def qF:FI (top 92) [uaz,jm,pu,"_law_rests",ma,pd,ew,uax,la,ky] [uaz]:=by walk_at "b"
def pB (jf:GN)(ia:GN)(j6:GN):DS:=(ii (iV 6 (iJ jf (hU (hV 5) (hU (dC (.int 80)) hX))))
 (ii (iV 7 (ij iW (ij jl (dC (.str "pqrstuvw")) (ij nQ (ij iW (ij Fv (dC (.int 3)) (hV 4)) (iJ ia (hU (hV 6) (hU (dC (.int 1)) hX)))) (dC (.int 8)))) (ij jl (dC (.str "abcdefgh")) (iJ ia (hU (hV 6) (hU (dC (.int 8)) hX))))))
 (ii (jY (yG cr iT (hV 2) (hU (i6 (hU (hV 7) (hU (iJ j6 (hU (hV 6) (hU (hV 1) (hU (ij jl (jn (kY (hU (dC (.int 3)) (hU (dC (.int 1)) hX)))) (iJ Au (hU (ij ab4 (iJ j3 (hU (hV 0) hX)) (dC (.int 4))) hX))) hX)))) hX))) hX)))
 (jY (yG cr iT (hV 3) (hU (hV 6) hX))))))
def pC (l7:GN):DS:=(jY (yG cr iT (hV 8) (hU (i6 (hU (hV 7) (hU (jn (jO [ar,aa 6,aa 1] (jv (hV 9)) (ib 0) oO (iJ l7 (hU (hV 0) (hU (hV 1) (hU (hV 2) hX)))))) hX))) hX)))
def pE (jf:GN)(nj:GN):DS:=(iu (iJ nj (hU (hV 8) (hU (hV 1) (hU (iJ jf (hU (ij ze (ij jl (hV 0) (dC (.int 0))) (dC (.int 3))) (hU (dC (.int 20)) hX))) hX)))))
def uE (jf:GN)(ia:GN)(j6:GN)(l7:GN)(nj:GN):DS:=(ii (iV 1 (nL (kY hX)))
 (ii (iV 2 (nL (kY hX)))
 (ii (iV 3 (nL (kY hX)))
 (ii (oM (By (hU (hV 0) hX)) (jR 2 (iw (ib 4) (iw (ib 5) jZ))) (pB jf ia j6))
 (ii (iV 8 (nL (kY hX)))
 (ii (oM (Sd (hU (hV 2) (hU (hV 3) hX))) (jR 2 (iw (jR 2 (iw (ib 7) (iw (ib 9) jZ))) (iw (ib 6) jZ))) (pC l7))
 (pE jf nj)))))))
def IH(D:ig K mg uaA (top 92))(Z:Zs mg)(c:iN P w K mg cq k rl [pd,ra] jf)(e:iN P w K mg cq k ng [ew,kv] ia)(g:iN P w K mg cq k uau [ew,jm,kv] j6)(h:iN P w K mg cq k uay [nN,ew,jm] l7)(a:iN P w K mg cq k uaq [la,jm,ew] nj):lW P w K mg cq (k+1) uaA [uaz] (kC K (cl (Xc 10 1 (uE jf ia j6 l7 nj)))):=
 abT D qF.hb qF.hc qF.sc (by walk_at "c") λf iQ A cv s H E b=>by have i:=iL b;have nd:=qF.sc.nd;walk_at "a"
noncomputable def nG:FI (top 93) [ky,py] [ky,py]:=by walk_at "b"
def wb:DS:=(iu (jn (jO [ar,aa 1] (jv (hV 0)) (ib 0) (ie (ij Dl (ij jl (hV 0) (dC (.int 0))) (hV 1))) (hV 0))))
def Dx(D:ig K mg za (top 93)):lW P w K mg cq (k+1) za [ky,py] (kC K (cl (j8 2 2 wb))):=
 jL D nG.hb nG.hc nG.sc (by walk_at "c") λf iQ A cv s H E a=>by have b:=iL a;have nd:=nG.sc.nd;walk_at "a"
noncomputable def sQ:FI (top 94) [la] [la]:=by walk_at "b"
def Co (nC:GN):DS:=(iu (jn (Qz AR (hU (jn (jO [ar,ar] (jv (hV 0)) (jR 2 (iw (ib 0) (iw (ib 1) jZ))) oO (i6 (hU (hV 0) (hU (iJ nC (hU (hV 1) (hU (dC (.str ll)) hX))) hX))))) hX))))
def LQ(D:ig K mg uaB (top 94))(Z:Zs mg)(b:iN P w K mg cq k za [ky,py] nC):lW P w K mg cq (k+1) uaB [la] (kC K (cl (j8 1 1 (Co nC)))):=
 jL D sQ.hb sQ.hc sQ.sc (by walk_at "c") λf iQ A cv s H E a=>by have c:=iL a;have nd:=sQ.sc.nd;walk_at "a"
noncomputable def vM:FI (top 97) [pu,ew] [pu,ew]:=by walk_at "b"
def EJ (ia:GN):DS:=(iu (ij jl (hV 0) (iJ ia (hU (hV 1) (hU (iJ j3 (hU (hV 0) hX)) hX)))))
def P5(D:ig K mg "_law_any" (top 97))(Z:Zs mg)(b:iN P w K mg cq k ng [ew,kv] ia):lW P w K mg cq (k+1) "_law_any" [pu,ew] (kC K (tJ 2 2 (EJ ia))):=
 tL D vM.hb vM.hc vM.sc (by walk_at "c") λf iQ A cv s H E a=>by have c:=iL a;have nd:=vM.sc.nd;walk_at "a"
noncomputable def nH:FI (top 98) [nN] [nN]:=by walk_at "b"
def wc:DS:=(ii (i5 (ie (ij (AO au) (ij jl (hV 0) (dC (.int 0))) (i6 (hU (dC (.str nP)) (hU (dC (.str oD)) (hU (dC (.str pr)) (hU (dC (.str oH)) (hU (dC (.str nn)) hX)))))))) (iu (jn (kY (hU (dC (.int 2)) (hU (dC (.int 3)) hX))))) iy)
 (ii (i5 (ie (ij (AO au) (ij jl (hV 0) (dC (.int 0))) (i6 (hU (dC (.str fq)) (hU (dC (.str ov)) hX))))) (iu (jn (kY (hU (dC (.int 5)) hX)))) iy)
 (ii (i5 (ie (ij tV (ij jl (hV 0) (dC (.int 0))) (dC (.str gr)))) (iu (jn (kY (hU (ij iW (dC (.int 2)) (ij Fv (dC (.int 4)) (iJ j3 (hU (ij jl (hV 0) (dC (.int 1))) hX)))) hX)))) iy)
 (ii (i5 (ie (ij tV (ij jl (hV 0) (dC (.int 0))) (dC (.str hJ)))) (iu (jn (kY (hU (ij iW (dC (.int 2)) (ij Fv (dC (.int 2)) (iJ j3 (hU (ij jl (hV 0) (dC (.int 1))) hX)))) hX)))) iy)
 (iu (jn (kY (hU (dC (.int 1)) hX))))))))
def Dy(D:ig K mg zb (top 98))(Z:Zs mg):lW P w K mg cq (k+1) zb [nN] (kC K (cl (j8 1 1 wc))):=
 jL D nH.hb nH.hc nH.sc (by walk_at "c") λf iQ A cv s H E a=>by have b:=iL a;have nd:=nH.sc.nd;walk_at "a"
noncomputable def nI:FI (top 99) [la,ro,sm,tj,"_law_way","_law_word","e"] [la,ro,sm,tj,"_law_way"]:=by walk_at "b"
def wd (K:af)(qr:aw)(mD:Kb)(yg:Kb)(jA:aw)(sD:aw):DS:=(ii (iV 5 (dC .non))
 (ii (ae1 K 6 qr (xIf (ie (ij tV (hV 4) (dC (.int 0)))) (EC (dCX mD (λ_=>(hU (hV 0) (hU (hV 1) hX))))) (EC (dCX yg (λ_=>(hU (hV 0) (hU (hV 1) (hU (hV 2) (hU (hV 3) hX)))))))) (iV 5 (hV 6)))
 (iu (ue (iJ (Ti K) (hU (hV 5) (hU (dC (.cls jA)) hX))) (Ei (iJ (Ti K) (hU (hV 5) (hU (dC (.cls sD)) hX))))))))
def Dz(D:ig K mg uaC (top 99))(Z:Zs mg)(e:mg "PartError"=aa (.ref qr))(g:xT P w K mg cq k uao [fv,fy] mD)(a:xT P w K mg cq k wr [fv,fy,lP,nX] yg)(h:mg "BadBase"=aa (.ref jA))(b:mg "NoLayout"=aa (.ref sD)):lW P w K mg cq (k+1) uaC [la,ro,sm,tj,"_law_way"] (kC K (cl (j8 7 5 (wd K qr mD yg jA sD)))):=
 jL D nI.hb nI.hc nI.sc (by walk_at "c") λf iQ A cv s H E c=>by have i:=iL c;have nd:=nI.sc.nd;walk_at "a"
noncomputable def Cp:FI (top 100) [oi,la,ew,"_law_bones",tj,uax,ky,pd,ro,sm,"_law_bad","_law_kept","_law_handed",uap,px] [oi]:=by walk_at "b"
def lwP (oZ kF:GN):DS:=(Nb (hV 4) (hV 5) (jn (jO [ar,aa 2] (jv (hV 6)) (ib 0) oO (iJ oZ (hU (iJ kF (hU (hV 0) hX)) (hU (hV 1) hX))))))
def lwX (ju:GN):DS:=(ii (iV 10 (jn (kY (hU (i6 (hU (dC (.int 0)) (hU (dC (.int 0)) hX))) (hU (i6 (hU (ij iW (dC (.int 65)) (ij nQ (ij ze (hV 7) (dC (.int 256))) (ij B7 (dC (.int 10)) (dC (.int 9))))) (hU (dC (.int 0)) hX))) (hU (i6 (hU (ij Lz (dC (.int 0)) (hV 8)) (hU (dC (.int 0)) hX))) (hU (i6 (hU (ij iW (hV 8) (dC (.int 1))) (hU (dC (.int 1)) hX))) (hU (i6 (hU (hV 8) (hU (ij Lz (dC (.int 0)) (hV 8)) hX))) hX))))))))
 (ii (iV 10 (ij jl (hV 10) (ij nQ (ij ze (hV 7) (dC (.int 1024))) (dC (.int 5)))))
 (ii (i5 (yR (ie (ij tV (ij jl (hV 10) (dC (.int 1))) (dC (.int 0)))) (mT (ie (iJ ju (hU (hV 1) (hU (ij jl (hV 10) (dC (.int 0))) (hU (dC (.int 0)) (hU (hV 4) (hU (dC (.int 0)) hX))))))))) (iu (dC (.bl au))) iy)
 (iu (iJ ju (hU (hV 1) (hU (ij jl (hV 10) (dC (.int 0))) (hU (ij jl (hV 10) (dC (.int 1))) (hU (hV 4) (hU (dC (.int 1)) hX))))))))))
def lwW (K:af):DS:=(ii (KI (ie (ij Dl (ij nQ (hV 14) (hV 8)) (dC (.int 0)))) (iV 14 (ij iW (hV 14) (dC (.int 1)))))
 (ii (i5 (Dh (ie (ij Dl (yG fi HY (hV 13) (hU (hV 5) hX)) (hV 14))) (ie (iJ (kH K) (hU (ij jl (hV 13) (hV 5)) (hU (dC (.ty hB)) hX))))) (iu (dC (.bl au))) iy)
 (iV 14 (ij iW (hV 14) (iJ K7 (hU (ij jl (hV 4) (hV 5)) hX))))))
def lwD (K:af)(j7:GN):DS:=(ii (iV 14 (hV 9))
 (ii (oM (jv (hV 3)) (jR 2 (iw (ib 5) (iw (ib 6) jZ))) (lwW K))
 (iu (ij (HW ag) (iJ j7 (hU (jn (Zp (hV 1))) (hU (hV 8) (hU (hV 9) (hU (hV 4) hX))))) (hV 13)))))
def lwC (K:af)(j7:GN):DS:=(ii (iV 11 (jn (Qz K4 (hU (jn (jO [ar,ar] (Ny (hV 4)) (jR 2 (iw (ib 0) (iw (ib 1) jZ))) oO (i6 (hU (hV 0) (hU (jn (Qz wB (hU (hV 1) hX))) hX))))) hX))))
 (ii (iV 12 (i6 (hU (jn (jO [ar,ar] (jv (hV 1)) (jR 2 (iw (ib 0) (iw (ib 1) jZ))) oO (i6 (hU (hV 0) (hU (jn (Qz wB (hU (hV 1) hX))) hX))))) (hU (hV 11) hX))))
 (ii (iV 13 (iJ j7 (hU (ij jl (hV 12) (dC (.int 0))) (hU (hV 8) (hU (hV 9) (hU (ij jl (hV 12) (dC (.int 1))) hX))))))
 (ii (i5 (Dh (ie (ij NF (hV 12) (i6 (hU (hV 1) (hU (hV 4) hX))))) (Dh (mT (ie (iJ (kH K) (hU (hV 13) (hU (dC (.ty fi)) hX))))) (ie (ij Dl (iJ j3 (hU (hV 13) hX)) (iJ j3 (hU (hV 3) hX)))))) (iu (dC (.bl au))) iy)
 (lwD K j7)))))
def lwB (K:af)(jN ju j7:GN):DS:=(ii (dPl 4 (iV 7 (iJ jN (hU (hV 0) (hU (dC (.int 0)) hX)))))
 (ii (iV 8 (ij iW (dC (.int 1)) (ij nQ (ij ze (hV 7) (dC (.int 4))) (dC (.int 64)))))
 (ii (iV 9 (ij Fv (hV 8) (ij nQ (ij ze (hV 7) (dC (.int 256))) (ij B7 (dC (.int 10)) (dC (.int 6))))))
 (ii (i5 (ie (ij tV (ij nQ (hV 7) (dC (.int 4))) (dC (.int 3)))) (lwX ju) iy)
 (lwC K j7)))))
def T0 (K:af)(qp:GN)(jN:GN)(jf:GN)(sC:GN)(oZ:GN)(kF:GN)(ju:GN)(j7:GN):DS:=(ii (iV 1 (iJ qp (hU (ij iW (Vb (hV 0) (uj (dC (.int 3))) (uj (dC (.int 6)))) (jn (kY (hU (iJ jN (hU (hV 0) (hU (dC (.int 1)) hX))) hX)))) hX)))
 (ii (iV 2 (iJ jf (hU (iJ jN (hU (hV 0) (hU (dC (.int 2)) hX))) (hU (dC (.int 60)) hX))))
 (ii (iV 3 (iJ sC (hU (hV 1) hX)))
 (ii (iV 4 (nL Bq))
 (ii (oM (jv (hV 3)) (jR 2 (iw (ib 5) (iw (ib 6) jZ))) (lwP oZ kF))
 (lwB K jN ju j7))))))
def afw(Z:Zs mg)(i:iN P w K mg cq k uaA [uaz] qp)(j:iN P w K mg cq k xC [oi,ma] jN)(m:iN P w K mg cq k rl [pd,ra] jf)(a:iN P w K mg cq k uaB [la] sC)(e:iN P w K mg cq k "_law_any" [pu,ew] oZ)(n:iN P w K mg cq k zb [nN] kF)(o:iN P w K mg cq k uaC [la,ro,sm,tj,"_law_way"] ju)(g:iN P w K mg cq k wr [fv,fy,lP,nX] j7)(f:aw)(iQ:ai)(A:bH)(cv:List aie)(s:av)(H:Hp)(E:XK)(h:jd k (A.deeper (dZ "law" Cp.c s.heap.objs.size f iQ))):
  C9 (qZ rW P w K mg cq [oi,la,ew,"_law_bones",tj,uax,ky,pd,ro,sm,"_law_bad","_law_kept","_law_handed",uap,px] "law" Cp.c f iQ A cv s H E).DY Cp.b (T0 K qp jN jf sC oZ kF ju j7):=by have p:=iL h;have nd:=Cp.sc.nd;walk_at "a"
end
end mS
namespace L3
open PySem PySem.Spec L2
section
variable {ta tb tc:DE} {δ:lY} {M:Ms} {Q:DK} {R:Bool->Ms->Prop} {b:Bool} {g g':G2} {y:D}
def ahz (tb:DE)(δ:lY)(Q:DK):DK:=λx M1=>match x with|.bl ag=>tb δ M1 Q|.bl au=>Q (.bl au) M1|_=>False
def afx (Q:DK):DK:=λx M1=>match x with|.bl b=>Q (.bl (!b)) M1|_=>False
def ZC (R:Bool->Ms->Prop):DK:=λx M1=>match x with|.bl b=>R b M1|_=>False
def acs (g':G2)(tc:DE)(δ:lY)(y:D)(Q:DK):DK:=λz a=>match z with|.bl ag=>tc δ a λw c=>g' y w c Q|.bl au=>Q (.bl au) a|_=>False
def Xw:ue ta tb δ M Q=ta δ M (ahz tb δ Q):=rfl
def Xx:Ei ta δ M Q=ta δ M (afx Q):=rfl
def NO:ie ta δ M R=ta δ M (ZC R):=rfl
def T3:mj g g' ta tb tc δ M Q=ta δ M λx M1=>tb δ M1 λy M2=>g x y M2 (acs g' tc δ y Q):=rfl
def Xy:afx Q (.bl b) M=Q (.bl (!b)) M:=rfl
def T4:ZC R (.bl b) M=R b M:=rfl
def IJ{a c:Int}{P:Bool->Prop}:HA (.int a) (.int c) P=P (a==c):=rfl
def Xz{i j:Int}:wx (.int i) (.int j) M Q=Q (.bl (decide (i<=j))) M:=rfl
def XC{i j:aY}:wx (.str i) (.str j) M Q=Q (.bl (!decide (j.cps.toList<i.cps.toList))) M:=rfl
def XF{K:af}{d:D}{n:String}:kH K [d,.ty n] M Q=∃b,v6 n (vw M d)=aa b/\Q (.bl b) M:=rfl
def T5{d:D}:j3 [d] M Q=∃n:Nat,OQ (vw M d)=aa n/\Q (.int n) M:=rfl
def sR{d:D}:hV 0 (aa d::δ) M Q=Q d M:=rfl
def vN{o:Option D}{i:Nat}:hV (i+1) (o::δ) M Q=hV i δ M Q:=rfl
end
section
variable {M:Ms} {b:Bool} {i:Int} {x:aY} {n:String} {ds:List D} {ns:List Int} {ks:List Key} {C:aw} {ms:List aY}
def IK:v6 fw .non=aa au:=rfl
def LR:v6 fw (.bl b)=aa ag:=rfl
def IL:v6 fw (.int i)=aa ag:=rfl
def IM:v6 fw (.str x)=aa au:=rfl
def IN:v6 fw (.tup ds)=aa au:=rfl
def IP:v6 fw (.lst ds)=aa au:=rfl
def IQ:v6 fw (.jD ks ds)=aa au:=rfl
def Gb:v6 hB .non=aa au:=rfl
def IS:v6 hB (.bl b)=aa ag:=rfl
def Gc:v6 hB (.int i)=aa au:=rfl
def Ge:v6 hB (.str x)=aa au:=rfl
def Gf:v6 hB (.tup ds)=aa au:=rfl
def Gg:v6 hB (.lst ds)=aa au:=rfl
def Gh:v6 hB (.jD ks ds)=aa au:=rfl
def IT:v6 fx .non=aa au:=rfl
def LS:v6 fx (.bl b)=aa au:=rfl
def IU:v6 fx (.int i)=aa au:=rfl
def IV:v6 fx (.str x)=aa ag:=rfl
def IW:v6 fx (.tup ds)=aa au:=rfl
def IX:v6 fx (.lst ds)=aa au:=rfl
def IY:v6 fx (.jD ks ds)=aa au:=rfl
def DB:v6 ej (.tup ds)=aa ag:=rfl
def Gi:v6 cr .non=aa au:=rfl
def IZ:v6 cr (.bl b)=aa au:=rfl
def Gj:v6 cr (.int i)=aa au:=rfl
def Gk:v6 cr (.str x)=aa au:=rfl
def Gm:v6 cr (.tup ds)=aa au:=rfl
def Gn:v6 cr (.lst ds)=aa ag:=rfl
def Gp:v6 cr (.jD ks ds)=aa au:=rfl
def act:vw M .non=.non:=rfl
def afy:vw M (.bl b)=(.bl b):=rfl
def afz:fz M (.bl b)=(.bl b):=rfl
def afA:nl (.bl b)=ag:=rfl
def T6:vw M (.int i)=(.int i):=rfl
def acu:vw M (.str x)=(.str x):=rfl
def acv:nl (.str x)=ag:=rfl
def acw:vw M (.tup ds)=(.tup ds):=rfl
def acx:vw M (.lst ds)=(.lst ds):=rfl
def acy:vw M (.jD ks ds)=(.jD ks ds):=rfl
def acz:lC []=ag:=rfl
def XG{d:D}{ds:List D}:lC (d::ds)=(nl d&&lC ds):=rfl
end
def acA{ds:List D}:OQ (.lst ds)=aa ds.length:=rfl
def acB{ds:List D}:OQ (.tup ds)=aa ds.length:=rfl
def acC{x:aY}:OQ (.str x)=if x.length<=aO then aa x.length else ar:=rfl
def acD{n:Nat}{gs:Wd}{ds:List D}{a:lY}{M:Ms}{Q:lY->Ms->Prop}:jR n gs (.tup ds) a M Q=(ds.length=n/\gs ds a M Q):=rfl
def XH{g:DG}{gs:Wd}{d:D}{ds:List D}{a:lY}{M:Ms}{Q:lY->Ms->Prop}:iw g gs (d::ds) a M Q=g d a M λb M1=>gs ds b M1 Q:=rfl
local macro_rules | `(tactic| walk_at "rd_at") => `(tactic| simp (decide := ag) only [j8, cl, ii, iV, ij, dC, iu, i5, mT, Dh, hX, hU, iJ, iy, ib, wv, Option.getD_some, List.getElem?_cons_zero, Xw, Xx, NO, T3, Xy, Dl, IJ, Xz, XC, XF, T5, acD, XH, acA, acB, acC, sR, vN, IK, LR, IL, IM, IN, IP, IQ, Gb, IS, Gc, Ge, Gf, Gg, Gh, IT, LS, IU, IV, IW, IX, IY, DB, Gi, IZ, Gj, Gk, Gm, Gn, Gp, ou, bq, gz, aU, ck, bW, eU, eA, List.set_cons_zero, gG, true_and, Bool.true_and, Bool.and_true, act, afy, afz, afA, T6, acu, acv, acw, acx, acy, acz, XG])
def T7{i j:Int}{M:Ms}{Q:DK}:iW (.int i) (.int j) M Q=Q (.int (i+j)) M:=rfl
end L3
namespace FJ
open PySem PySem.Spec PyProof.Rows.KTD L2 L3
def acE(h:a=b)(q:Q (.bl au) M):Dl (.int a) (.int b) M Q:=by subst h;show Q _ M;rw[beq_self_eq_true];exact q
def acF(h:¬b<a)(q:Q (.bl au) M):(OH λi j=>.bl (decide (j<i))) (.int a) (.int b) M Q:=by show Q (.bl _) M;rw[decide_eq_false h];exact q
abbrev Pt:=aY×List Rw
noncomputable def kO(p:Pt):D:=.tup [.str p.1,.lst (p.2.map Rw.d)]
noncomputable def G1(c:CA)(p:Pt):D:=.tup [.str p.1,.lst (p.2.map (Rw.ins c))]
noncomputable def Rw.jj:Rw->Bool
 |.mark _ _=>ag
 |_=>au
noncomputable def markD:D->Bool
 |.tup (.str k::_)=>k==ll
 |_=>au
def Gq(r:Rw):markD r.d=r.jj:=by cases r<;>rfl
noncomputable def jX(rs:List Rw):Nat:=(rs.filter Rw.jj).length
noncomputable def zm(rs:List Rw):Nat:=rs.length- jX rs
def yp:GP:=λds Q=>∃r:Rw,ds=[r.d]/\Q (.bl r.jj)
def DC:i9 yp:=by
 rintro ds P Q w ⟨r,h,q⟩
 exact⟨r,h,w _ q⟩
def P6(K:af):∀ds Q,yp ds Q->j8 1 1 (rq K) ds Q:=by
 rintro ds Q ⟨r,h,q⟩
 subst h;cases r;all_goals
  walk_at "h";exact q
def uF(rs:List Rw):lC (rs.map Rw.d)=ag:=jQ Rw.nld rs
def AT:GP:=λds Q=>∃rs:List Rw,ds=[.lst (rs.map Rw.d)]/\rs.length<=1000/\Q (.int (jX rs))
def Gr:i9 AT:=by
 rintro ds P Q w ⟨r,h,l,q⟩
 exact⟨r,h,l,w _ q⟩
def Cr(rs:List Rw):((rs.map Rw.d).filterMap λd=>if markD d=ag then aa d else ar).length=jX rs:=by
 unfold jX;induction rs with
 |nil=>rfl
 |cons r rs a=>
  rw[bq,bN,gk,Gq];cases r.jj with
  |true=>simp only [if_true,aU,a]
  |false=>simp only [dX,if_false,a]
def EK(h:n<=1000):n<=aO:=bG h (by decide)
def T8:∀ds Q,AT ds Q->j8 1 1 (v8 (cl yp)) ds Q:=by
 rintro ds Q ⟨rs,h,l,q⟩
 subst h;refine⟨rfl,?_⟩;refine⟨_,rfl,rfl,?_⟩;refine rZ (λd=>if markD d=ag then aa d else ar) ?_ _ _ ?_ (λx a e c=>?_) ?_
 .exact rfl
 .rw[ao,ck,bQ];exact EK l
 .obtain⟨r,_,rfl⟩:=bP.mp a;refine⟨by unfold lC;rw[r.nld];rfl,r,rfl,?_⟩;have:=c _ (show Fm [ar] [aa r.d]=_ from rfl);rw[Gq] at this;generalize r.jj=b at this |-;cases b<;>exact this
 .refine⟨_,rfl,?_⟩;refine⟨rfl,?_⟩;rw[eA,Cr];exact q
def P7(rs:List Rw):jX rs<=rs.length:=ain _ _
def yq:GP:=λds Q=>∃rs:List Rw,ds=[.lst (rs.map Rw.d)]/\rs.length<=1000/\Q (.int (zm rs))
def DH:i9 yq:=by
 rintro ds P Q w ⟨r,h,l,q⟩
 exact⟨r,h,l,w _ q⟩
def AU(rs:List Rw):lC [.lst (rs.map Rw.d)]=ag:=by show(lC _&&ag)=ag;rw[uF];rfl
def P8:∀ds Q,yq ds Q->j8 1 1 (ux (cl AT)) ds Q:=by
 rintro ds Q ⟨rs,h,l,q⟩
 subst h;refine⟨rfl,?_⟩;refine⟨_,rfl,?_⟩;refine⟨AU rs,rs,rfl,l,?_⟩;refine⟨rfl,?_⟩;show Q (.int _);have e:((rs.map Rw.d).length:Int)- (jX rs:Int)=((zm rs:Nat):Int):=by have:=P7 rs;rw[ao];unfold zm;lia
 rw[e];exact q
structure afB(p:Pt):Prop where
 w:oS p.1=ag
 lo:1<=zm p.2
 hi:zm p.2<=60
 len:p.2.length<=1000
def T9(p:Pt):nl (kO p)=ag:=by show(ag&&(lC _&&ag))=ag;rw[uF];rfl
def zn:GP:=λds Q=>∃p:Pt,ds=[kO p]/\afB p/\Q (.bl ag)
def Cs:i9 zn:=by
 rintro ds P Q w ⟨p,h,l,q⟩
 exact⟨p,h,l,w _ q⟩
def LU(K:af):∀ds Q,zn ds Q->j8 1 1 (EE K (cl m6) (cl yq)) ds Q:=by
 rintro ds Q ⟨p,h,ok,q⟩
 subst h;walk_at "h";refine⟨p.1,ok.w,rfl,?_⟩;walk_at "h";refine⟨AU p.2,p.2,rfl,ok.len,?_⟩;have a:(1:Int)<=(zm p.2:Int):=by have:=ok.lo;exact Int.ofNat_le.mpr this
 have b:(zm p.2:Int)<=60:=by have:=ok.hi;exact Int.ofNat_le.mpr this
 show(match D.bl _ with|D.bl ag=>nl _=ag/\Q _|D.bl au=>nl _=ag/\Q _|_=>False);rw[decide_eq_true a,decide_eq_true b];exact⟨rfl,q⟩
structure afC(ps:List Pt):Prop where
 lo:1<=ps.length
 hi:ps.length<=12
 all:∀p∈ps,afB p
 nd:(ps.map aQ).Nodup
 rows:(ps.map λp=>(zm p.2:Int)).sum<=200
 marks:(ps.map λp=>(jX p.2:Int)).sum<=200
def l8(a:List Pt):lC (a.map kO)=ag:=jQ T9 a
def uG(a:List Pt):lC [.lst (a.map kO)]=ag:=by show(lC _&&ag)=ag;rw[l8];rfl
theorem EL:∀(val:Nat->aY) (n:Nat),(∀i j,i<j->j<n->val i≠val j)->(As val n).length=n/\∀k,(As val n).any (·==k)=ag->∃i,i<n/\val i=k
 |val,0,_=>⟨rfl,λk h=>by simp[As] at h⟩
 |val,n+1,h=>by
  obtain⟨g,f⟩:=EL val n λi j a b=>h i j a (by exact cV b);have hn:(As val n).any (·==val n)=au:=by
   cases e:(As val n).any _ with
   |false=>rfl
   |true=>obtain⟨i,a,b⟩:=f _ e;exact absurd b (h i n a (by exact aD _))
  constructor
  .show(PyProof.Rows.step_dedup _ _).length=_;rw[SD,hn,g];rfl
  .intro k c;have c:(PyProof.Rows.step_dedup _ (val n)).any _=ag:=c;rw[SA,Bool.or_eq_true] at c;rcases c with c|c
   .obtain⟨i,a,b⟩:=f k c;exact⟨i,by exact cV a,b⟩
   .exact⟨n,by exact aD _,(of_decide_eq_true c).symm⟩
def Ct(rs:List Rw):((rs.map Rw.d).filter markD).length=jX rs:=by
 unfold jX;induction rs with
 |nil=>rfl
 |cons r rs a=>
  rw[bq,bN,bN,Gq];cases r.jj with
  |true=>simp only [if_true,aU,a]
  |false=>simp only [dX,if_false,a]
def NP(rs:List Rw):(((rs.map Rw.d).length- ((rs.map Rw.d).filter markD).length:Nat):Int)=(zm rs:Int):=by rw[Ct,ao];rfl
def LV(h:ss.Nodup):WG ss=ss.length:=by refine(EL _ _ λi j b a=>?_).1;rw[bv,bv,ax (by exact gC b a),ax a];exactλz=>absurd ((eQ h).mp z) (by exact bd b)
def Ua:GP:=λds Q=>∃a:List Pt,ds=[.lst (a.map kO)]/\afC a/\Q (.bl ag)
def LW:i9 Ua:=by
 rintro ds P Q w ⟨p,h,l,q⟩
 exact⟨p,h,l,w _ q⟩
def acG(K:af):∀ds Q,Ua ds Q->j8 1 1 (z8 K (cl zn) (cl yq) (cl AT)) ds Q:=by
 rintro ds Q ⟨a,h,ok,q⟩
 subst h;have f:(a.map kO).length<=aO:=by rw[ao];exact EK (by have:=ok.hi;exact bG this (Nat.le_add_left _ _))
 have b1:(1:Int)<=((a.map kO).length:Int):=by have:=ok.lo;rw[ao];exact Int.ofNat_le.mpr this
 have b2:((a.map kO).length:Int)<=12:=by have:=ok.hi;rw[ao];exact Int.ofNat_le.mpr this
 conv=>whnf
 walk_at "h";rw[decide_eq_true b1];walk_at "h";rw[decide_eq_true b2];conv=>whnf
 refine⟨_,rfl,rfl,?_⟩;refine k8 (λ_=>.bl ag) ?_ _ _ ?_ (λx b g c=>?_) ?_
 .exact rfl
 .rw[ck,bQ];exact f
 .obtain⟨p,e,rfl⟩:=bP.mp b;exact⟨by unfold lC;rw[T9];rfl,p,rfl,ok.all p e,c _ rfl⟩
 refine⟨(a.map kO).map λ_=>ag,(by rw[bx,bx,bx];rfl),?_⟩;rw[show((a.map kO).map λ_=>ag).all id=ag by simp];conv=>whnf
 refine⟨_,rfl,rfl,?_⟩;refine k8 (λd=>match d with|.tup (n::_)=>n|_=>.non) ?_ _ _ ?_ (λx b g c=>?_) ?_
 .exact rfl
 .rw[ck,bQ];exact f
 .obtain⟨p,e,rfl⟩:=bP.mp b;exact⟨_,rfl,c _ rfl⟩
 refine⟨a.map aQ,(by rw[bx,bx];rfl),by rw[ao];have:=ok.hi;exact d6 this (Nat.le_add_left _ _),?_⟩;refine⟨_,rfl,?_⟩;refine acE (by rw[LV ok.nd];simp) ?_;conv=>whnf
 refine⟨_,rfl,rfl,?_⟩;refine k8 (λd=>match d with|.tup [_,.lst rs]=>.int ((rs.length- (rs.filter markD).length:Nat):Int)|_=>.non) ?_ _ _ ?_ (λx b g c=>?_) ?_
 .exact rfl
 .rw[ck,bQ];exact f
 .obtain⟨p,e,rfl⟩:=bP.mp b;refine⟨_,rfl,AU p.2,p.2,rfl,(ok.all p e).len,?_⟩;rw[<-NP p.2];exact c _ rfl
 refine⟨a.map λp=>(zm p.2:Int),(by rw[bx,bx];exact congrArg D.lst (eZ λp _=>congrArg D.int (NP p.2))),?_⟩;dsimp only [dC];refine acF ?_ ?_
 .have:=ok.rows;lia
 conv=>whnf
 refine⟨_,rfl,rfl,?_⟩;refine k8 (λd=>match d with|.tup [_,.lst rs]=>.int ((rs.filter markD).length:Int)|_=>.non) ?_ _ _ ?_ (λx b g c=>?_) ?_
 .exact rfl
 .rw[ck,bQ];exact f
 .obtain⟨p,e,rfl⟩:=bP.mp b;refine⟨_,rfl,AU p.2,p.2,rfl,(ok.all p e).len,?_⟩;rw[<-Ct p.2];exact c _ rfl
 refine⟨a.map λp=>(jX p.2:Int),(by rw[bx,bx];exact congrArg D.lst (eZ λp _=>congrArg (λn:Nat=>D.int n) (Ct p.2))),?_⟩;dsimp only [dC];refine AS ?_ ?_
 .exact ok.marks
 .exact⟨rfl,q⟩
def qG(c:CA)(rs:List Rw):lC (rs.map (Rw.ins c))=ag:=jQ (Rw.nli c) rs
def zo (c:CA):GP:=λds Q=>∃(n:aY) (rs:List Rw),ds=[.str n,.lst (rs.map Rw.d)]/\(∀r∈rs,r.ok=ag)/\rs.length<=1000/\Q (.lst (rs.map (Rw.ins c)))
def Cu:i9 (zo c):=by
 rintro ds P Q w ⟨n,rs,h,ok,l,q⟩
 exact⟨n,rs,h,ok,l,w _ q⟩
def take_snoc{β:Type}{l:List β}{x:β}(h:l[j]?=aa x):l.take (j+1)=l.take j++[x]:=by rw[List.take_add_one,h];rfl
def xx{β a:Type}{f:β->a}{l:List β}{j:Nat}{y:a}(h:(l.map f)[j]?=aa y):∃x,l[j]?=aa x/\y=f x:=by
 rw[bh] at h;cases e:l[j]? with
 |none=>rw[e] at h;cases h
 |some x=>rw[e] at h;cases h;exact⟨x,rfl,rfl⟩
def Cv{l:List D}{j:Nat}(h:(l.mapIdx λi d=>D.tup [.int i,d])[j]?=aa y):∃x,l[j]?=aa x/\y=.tup [.int j,x]:=by
 rw[aiw] at h;cases e:l[j]? with
 |none=>rw[e] at h;cases h
 |some x=>rw[e] at h;cases h;exact⟨x,rfl,rfl⟩
def LX:∀ds Q,zo c ds Q->j8 6 2 (EF (B2 c)) ds Q:=by
 rintro ds Q ⟨n,rs,h,ok,l,q⟩
 subst h;refine⟨rfl,?_⟩;refine⟨bD _,?_⟩;refine⟨_,rfl,rfl,?_⟩;refine xM (λj a M=>∃o1 o2 b,M=[aa (.lst ((rs.take j).map (Rw.ins c)))]/\a=[aa (.str n),aa _,aa (.loc 0),o1,o2,b]) (λ_ _ _ _=>?_) _ 0 _ _ ⟨ar,ar,ar,rfl,rfl⟩ (λj x a M i e N f=>?_) (λa M e=>?_)
 .exact rfl
 .obtain⟨o1,o2,b,rfl,rfl⟩:=e;obtain⟨y,m,rfl⟩:=Cv i;obtain⟨r,g,rfl⟩:=xx m;have o:=ok r (bA g);rw[bQ] at f |-;refine⟨rfl,rfl,?_⟩;refine⟨r,o,rfl,?_⟩;refine⟨rfl,_,rfl,?_,f _ _ ⟨_,_,_,?_,rfl⟩⟩
  .rw[ao,dM];exact d6 (bG (Nat.min_le_right _ _) l) (by decide)
  .rw[take_snoc g,ba];rfl
 .obtain⟨o1,o2,b,rfl,rfl⟩:=e;rw[bQ,List.length_mapIdx,ao,List.take_length];exact⟨qG c rs,q⟩
noncomputable def iR:List Rw->Option Rw
 |[]=>ar
 |r::rs=>if r.jj then iR rs else aa r
noncomputable def DJ(c:CA):Option Rw->D
 |none=>.non
 |some r=>r.ins c
structure Ub(K:af)(c:CA):Prop where
 io:∀k:Kn,MZ K (c.at k)
 mark:∀k,bb K (.ref (c.at k)) (.ref c.Mark)=aa (match k with|.Mark=>ag|_=>au)
 code:∀k,bb K (.ref (c.at k)) (.ref c.Code)=aa (match k with|.Mark|.j5|.Table=>au|_=>ag)
 nums:∀k,bb K (.ref (c.at k)) (.ref c.j5)=aa (match k with|.j5=>ag|_=>au)
 ahA:∀k,bb K (.ref (c.at k)) (.ref c.Table)=aa (match k with|.Table=>ag|_=>au)
 ahB:bb K (.type qa) (.ref c.Code)=aa au
def yr(a:Ub K c)(r:Rw){M:Ms}{Q:DK}(q:Q (.bl r.jj) M):kH K [r.ins c,.cls c.Mark] M Q:=by refine⟨.ref (c.at r.kn),r.jj,rfl,λC ns es e=>by cases e;exact a.io _,?_,q⟩;rw[a.mark];cases r<;>rfl
def Ja(a:Ub K c)(r:Rw){M:Ms}{Q:DK}(q:Q (.bl r.code) M):kH K [r.ins c,.cls c.Code] M Q:=by refine⟨.ref (c.at r.kn),r.code,rfl,λC ns es e=>by cases e;exact a.io _,?_,q⟩;rw[a.code];cases r<;>rfl
def AV (c:CA):GP:=λds Q=>∃rs:List Rw,ds=[.lst (rs.map (Rw.ins c))]/\Q (DJ c (iR rs))
def Gs:i9 (AV c):=by
 rintro ds P Q w ⟨rs,h,q⟩
 exact⟨rs,h,w _ q⟩
def Uc(g:Ub K c):∀ds Q,AV c ds Q->j8 2 1 (mx K c.Mark) ds Q:=by
 rintro ds Q ⟨rs,h,q⟩
 subst h;have b:=@yr K c g;unfold mx;generalize kH K=i at b |-;refine⟨rfl,?_⟩;refine⟨_,rfl,rfl,?_⟩;have gen:∀(l:List Rw) (st:Ms->Prop) (o:Option D),st []->DJ c (iR l)=DJ c (iR rs)->wq (ib 1) (i5 (mT (ie (iJ (i) (hU (hV 1) (hU (dC (.cls c.Mark)) hX))))) (iu (hV 1)) iy) st ⟨λ_ _=>nl (.non)=ag/\Q .non,λd f=>nl (fz f d)=ag/\Q (fz f d),λ_ _=>False,λ_ _=>False⟩ (l.map (Rw.ins c)) [aa (.lst (rs.map (Rw.ins c))),o] []:=by
  intro l;induction l with
  |nil=>intro st o a e;rw[<-e] at q;exact⟨rfl,q⟩
  |cons r l j=>
   intro st o a e;refine b r ?_;cases hm:r.jj with
   |true=>
    refine⟨a,j st _ a ?_⟩;rw[<-e];show DJ c _=DJ c (if r.jj=ag then _ else _);rw[hm];rfl
   |false=>
    have e':DJ c (iR rs)=r.ins c:=by rw[<-e];show DJ c (if r.jj=ag then _ else _)=_;rw[hm];rfl
    rw[e'] at q;exact⟨r.nli c,q⟩
 exact gen rs _ ar rfl rfl
noncomputable def yt:Option Rw->Bool
 |some r=>r.code
 |none=>au
noncomputable def kt:List Rw->Bool
 |[]=>ag
 |r::rs=>(!r.Ly||yt (iR rs))&&(!r.jj||(iR rs).isSome)&&kt rs
theorem Ad:∀{rs:List Rw} {j:Nat} {r:Rw},kt rs=ag->rs[j]?=aa r->(r.Ly=ag->yt (iR (rs.drop (j+1)))=ag)/\(r.jj=ag->(iR (rs.drop (j+1))).isSome=ag)
 |r::rs,0,a,h,e=>by cases e;unfold kt at h;rw[aZ,aZ,Bool.or_eq_true,Bool.or_eq_true] at h;refine⟨λg=>h.1.1.resolve_left (by rw[g];decide),λg=>h.1.2.resolve_left (by rw[g];decide)⟩
 |r::rs,j+1,a,h,e=>by unfold kt at h;rw[aZ] at h;exact Ad (rs:=rs) h.2 e
 |[],_,_,_,e=>by cases e
def P9(a:Ub K c)(o:Option Rw){M:Ms}{Q:DK}(q:Q (.bl (yt o)) M):kH K [DJ c o,.cls c.Code] M Q:=by
 cases o with
 |some r=>exact Ja a r q
 |none=>exact⟨.type _,au,rfl,(λC ns es e=>nomatch e),a.ahB,q⟩
def Ud(o:Option Rw){M:Ms}{Q:DK}(q:Q (.bl (!o.isSome)) M):gIs (DJ c o) .non M Q:=by cases o<;>exact q
def qQ (c:CA):GP:=λds Q=>∃(n:aY) (rs:List Rw),ds=[.str n,.lst (rs.map (Rw.ins c))]/\kt rs=ag/\Q .non
def wT:i9 (qQ c):=by
 rintro ds P Q w ⟨n,rs,h,ok,q⟩
 exact⟨n,rs,h,ok,w _ q⟩
def Cw(f:Ub K c):∀ds Q,qQ c ds Q->j8 5 2 (lN K (cl (AV c)) (Tz c) c.Code c.Mark) ds Q:=by
 rintro ds Q ⟨n,rs,h,ok,q⟩
 subst h;have g:=@yr K c f;have i:=@P9 K c f;have is:=@Ud c;unfold lN;generalize kH K=z at g i |-;generalize gIs=gs at is |-;refine⟨rfl,?_⟩;refine⟨_,rfl,rfl,?_⟩;refine xM (λj a M=>∃o1 o2 m,M=[]/\a=[aa (.str n),aa _,o1,o2,m]) (λ_ _ _ zq=>by obtain⟨_,_,_,e,_⟩:=zq;rw[e]) _ 0 _ _ ⟨ar,ar,ar,rfl,rfl⟩ (λj x a M A p N s=>?_) (λa M p=>?_)
 .obtain⟨o1,o2,m,rfl,rfl⟩:=p;obtain⟨y,B,rfl⟩:=Cv A;obtain⟨r,C,rfl⟩:=xx B;obtain⟨u,v⟩:=Ad ok C;refine⟨rfl,rfl,?_⟩;conv=>whnf
  rw[show cutD _ _ ar=(rs.drop (j+1)).map _ by rw[show(j:Int)+1=((j+1:Nat):Int) from rfl,yb,aeF]];refine⟨by show(lC _&&ag)=ag;rw[qG];rfl,rs.drop (j+1),rfl,?_⟩;generalize iR _=o at u v |-;have tl:∀b,b=[aa (.str n),aa (.lst (rs.map (Rw.ins c))),aa (.int j),aa (r.ins c),aa (DJ c o)]->(i5 (yR (ie (iJ z (hU (hV 3) (hU (dC (.cls c.Mark)) hX)))) (ie (ij gs (hV 4) (dC .non)))) rY iy) ⟨N,λd w=>nl (fz w d)=ag/\Q (fz w d),λ_ _=>Q .non,N⟩ b []:=by
   intro b e;subst e;refine g r ?_;cases hm:r.jj with
   |true=>
    refine is o ?_;rw[v hm];exact s _ _ ⟨_,_,_,rfl,rfl⟩
   |false=>
    exact s _ _ ⟨_,_,_,rfl,rfl⟩
  refine⟨_,_,_,_,rfl,rfl,⟨r.kn,rfl,rfl⟩,by unfold lC;rw[r.nli];rfl,r,rfl,rfl,?_⟩;cases E:r.Ly with
  |true=>
   refine i o ?_;rw[u E];exact tl _ rfl
  |false=>exact tl _ rfl
 .exact q
structure XI(ps:List Pt):Prop where
 EM:afC ps
 rows:∀p∈ps,∀r∈p.2,r.ok=ag
 ends:∀p∈ps,kt p.2=ag
def acH(c:CA)(p:Pt):nl (G1 c p)=ag:=by show(ag&&(lC _&&ag))=ag;rw[qG];rfl
def Gu(c:CA)(a:List Pt):lC (a.map (G1 c))=ag:=jQ (acH c) a
def Cy (c:CA):GP:=λds Q=>∃a:List Pt,ds=[.lst (a.map kO)]/\XI a/\Q (.lst (a.map (G1 c)))
def DL:i9 (Cy c):=by
 rintro ds P Q w ⟨rs,h,ok,q⟩
 exact⟨rs,h,ok,w _ q⟩
theorem iI{β:Type}(e f:β->D)(b:st M):∀(xs:List β) (acc:List D),acc.length+xs.length<=aO->
  (∀x∈xs,∀c:Option D->lY->Ms->Prop,(∀a,Fm fr a=i->c (aa (f x)) a M)->Ek g tt m (e x) i M c)->Q (acc++xs.map f) M->ri fr g tt m st Q (xs.map e) acc i M
 |[],acc,_,_,q=>by rw[gz,bu] at q;exact q
 |x::xs,acc,j,h,q=>by refine h x aN _ λa e1=>⟨b,by simp at j;lia,?_⟩;rw[e1];refine iI e f b xs _ (by simp at j |-;lia) (λy n=>h y (aB _ n)) ?_;rw[bi];exact q
theorem iU{β:Type}(e f:β->D)(p:β->Bool)(a:st M):∀(xs:List β) (acc:List D),acc.length+xs.length<=aO->
  (∀x∈xs,∀j:Option D->lY->Ms->Prop,(∀b,Fm fr b=m->j (if p x=ag then aa (f x) else ar) b M)->Ek g tt o (e x) m M j)->Q (acc++(xs.filter p).map f) M->ri fr g tt o st Q (xs.map e) acc m M
 |[],acc,_,_,q=>by rw[List.filter_nil,gz,bu] at q;exact q
 |x::xs,acc,c,h,q=>by
  refine h x aN _ λb e1=>⟨a,?_⟩;rw[bN] at q;cases n:p x with
  |false=>
   rw[n] at q;rw[e1];exact iU e f p a xs acc (by simp at c |-;exact dF c) (λy i=>h y (aB _ i)) q
  |true=>
   rw[n] at q;refine⟨by simp at c;lia,?_⟩;rw[e1];refine iU e f p a xs _ (by simp at c |-;lia) (λy i=>h y (aB _ i)) ?_;rw[bi];exact q
theorem iz{β:Type}(e:β->D)(Pv:List β->List β->lY->Ms->Prop)(j:∀a b c M,Pv a b c M->st M):∀(xs pre:List β) (c:lY) (M:Ms),Pv pre xs c M->
  (∀pre x xs c M,Pv pre (x::xs) c M->∀N:lY->Ms->Prop,(∀f i,Pv (pre++[x]) xs f i->N f i)->g (e x) c M λn M1=>tb {E with nx:=N,ct:=N,bk:=E.nx} n M1)->
  (∀pre c M,Pv pre [] c M->E.nx c M)->wq g tb st E (xs.map e) c M
 |[],pre,c,M,p,_,z=>z pre c M p
 |x::xs,pre,c,M,p,h,z=>by exact h pre x xs c M p _ λf i m=>⟨j _ _ _ _ m,iz e Pv j xs _ f i m h z⟩
def Qa:∀ds Q,Cy c ds Q->j8 4 1 (z9 (cl Ua) (cl (zo c)) (cl (qQ c))) ds Q:=by
 rintro ds Q ⟨f,h,ok,q⟩
 subst h;have n:f.length<=aO:=EK (by have:=ok.EM.hi;exact bG this (Nat.le_add_left _ _));refine⟨rfl,uG f,f,rfl,ok.EM,?_⟩;refine⟨_,rfl,rfl,?_⟩;refine iI kO (G1 c) ?_ _ _ ?_ (λx g r o=>?_) ?_
 .exact rfl
 .rw[ck,bQ];exact n
 .refine⟨_,rfl,_,rfl,_,rfl,?_,x.1,x.2,rfl,ok.rows x g,(ok.EM.all x g).len,?_⟩
  .show(ag&&(lC _&&ag))=ag;rw[uF];rfl
  .exact⟨aq rfl,o _ rfl⟩
 refine⟨_,rfl,rfl,?_⟩;refine iz (G1 c) (λa b i M=>f=a++b/\∃o1 o2,M=[]/\i=[aa _,aa _,o1,o2]) (λ_ _ _ _ zq=>by obtain⟨_,_,_,e,_⟩:=zq;rw[e]) f [] _ _ ⟨rfl,ar,ar,rfl,rfl⟩ (λpre x xs i M j N p=>?_) (λpre i M j=>?_)
 .obtain⟨m,o1,o2,rfl,rfl⟩:=j;have g:x∈f:=by rw[m];simp
  refine⟨rfl,rfl,?_,x.1,x.2,rfl,ok.ends x g,p _ _ ⟨by rw[m];simp,_,_,rfl,rfl⟩⟩;show(ag&&(lC _&&ag))=ag;rw[qG];rfl
 .obtain⟨m,o1,o2,rfl,rfl⟩:=j;exact⟨Gu c f,q⟩
noncomputable def qH(a:List Pt):List Pt:=kb (a.map aQ) a
theorem EN(c:CA):∀a:List Pt,wG (a.map (G1 c)) (a.map aQ)
 |[]=>trivial
 |p::a=>⟨⟨_,rfl⟩,EN c a⟩
theorem Jb(g:β->a)(p:aY×β):∀l:List _,L3.uk aQ (p.1,g p.2) (l.map λq=>(q.1,g q.2))=(L3.uk aQ p l).map λq=>(q.1,g q.2)
 |[]=>rfl
 |q::l=>by
  rw[bq];unfold L3.uk;split
  .rfl
  .rw[Jb g p l];rfl
theorem NQ(g:β->a):∀l:List _,L3.O0 aQ (l.map λq=>(q.1,g q.2))=(L3.O0 aQ l).map λq=>(q.1,g q.2)
 |[]=>rfl
 |q::l=>by show L3.uk aQ _ _=_;rw[NQ g l,Jb];rfl
def EO(g:β->b)(a:List aY)(l:List β):kb a (l.map g)=(kb a l).map g:=by
 unfold kb;have:a.zip (l.map g)=(a.zip l).map λq=>(q.1,g q.2):=by rw[List.zip_map_right];rfl
 rw[this,NQ,bx,bx];rfl
def rC (c:CA):GP:=λds Q=>∃a:List Pt,ds=[.lst (a.map (G1 c))]/\(a.map aQ).Nodup/\a.length<64/\Q (.lst ((qH a).map (G1 c)))
def Cz:i9 (rC c):=by
 rintro ds P Q w ⟨a,h,nd,l,q⟩
 exact⟨a,h,nd,l,w _ q⟩
def LY:∀ds Q,rC c ds Q->j8 1 1 EG ds Q:=by
 rintro ds Q ⟨a,h,nd,l,q⟩
 subst h;refine⟨rfl,_,_,rfl,EN c a,nd,by rw[ao];exact l,?_⟩;rw[EO];exact⟨Gu c _,q⟩
abbrev Mk:=aY×Bool×aY×Nat
noncomputable def LZ(m:Mk):D:=.tup [.str m.1,.bl m.2.1,.tup [.str m.2.2.1,.int m.2.2.2]]
def L4(m:Mk):nl (LZ m)=ag:=rfl
noncomputable def jJ(n:aY):Nat->List Rw->List Mk
 |_,[]=>[]
 |k,.mark w b::rs=>(w,b,n,k)::jJ n k rs
 |k,_::rs=>jJ n (k+1) rs
def mM(h:r.jj=au):jJ n k (r::rs)=jJ n (k+1) rs:=by cases r<;>first|rfl|cases h
theorem qI(n:aY):∀(k:Nat) (rs:List Rw),(jJ n k rs).length<=rs.length
 |_,[]=>aD _
 |k,r::rs=>by
  cases hm:r.jj with
  |false=>rw[mM hm];exact eM (qI n _ rs)
  |true=>cases r<;>first|(cases hm;done)|exact fV (qI n k rs)
def wU (c:CA):GP:=λds Q=>∃(n:aY) (rs:List Rw),ds=[.str n,.lst (rs.map (Rw.ins c))]/\rs.length<=1000/\Q (.lst ((jJ n 0 rs).map LZ))
def AA:i9 (wU c):=by
 rintro ds P Q w ⟨n,a,h,l,q⟩
 exact⟨n,a,h,l,w _ q⟩
def Jc(p:Ub K c):∀ds Q,wU c ds Q->j8 7 2 (oy K c.Mark (lD c)) ds Q:=by
 rintro ds Q ⟨n,rs,h,l,q⟩
 subst h;have m:=@yr K c p;unfold oy;generalize kH K=s at m |-;refine⟨rfl,?_⟩;refine⟨bD _,?_⟩;refine⟨_,rfl,rfl,?_⟩;refine iz _ (λa b g M=>∃(k:Nat) (ms:List Mk) (o1 o2 i:Option D),jJ n 0 rs=ms++jJ n k b/\M=[aa (.lst (ms.map LZ))]/\g=[aa (.str n),aa _,aa (.loc 0),aa (.int k),o1,o2,i]) (λ_ _ _ _ zq=>by obtain⟨_,_,_,_,_,_,e,_⟩:=zq;exact rfl) rs [] _ _ ⟨0,[],ar,ar,ar,rfl,rfl,rfl⟩ (λpre x xs g M j N o=>?_) (λpre g M j=>?_)
 .obtain⟨k,ms,o1,o2,i,f,rfl,rfl⟩:=j;refine m x ?_;cases hm:x.jj with
  |true=>
   cases x with
   |mark w b=>
    have r:(ms.map LZ).length<aO:=by have:=qI n 0 rs;rw[f,aE] at this;rw[ao];exact d6 (show ms.length<=1000 by lia) (by decide)
    refine⟨_,_,_,_,rfl,rfl,⟨.Mark,rfl,rfl⟩,by rfl,.mark w b,rfl,rfl,?_⟩;refine⟨λz=>Nat.one_ne_zero z.1,rfl,rfl,rfl,?_⟩;refine⟨aq rfl,?_⟩;refine⟨aq rfl,?_⟩;refine⟨_,rfl,r,o _ _ ⟨k,ms++[(w,b,n,k)],_,_,_,?_,?_,rfl⟩⟩
    .rw[f,bi];rfl
    .rw[ba];rfl
   |_=>cases hm
  |false=>
   exact⟨trivial,o _ _ ⟨k+1,ms,_,_,_,by rw[f,mM hm],rfl,rfl⟩⟩
 .obtain⟨k,ms,o1,o2,i,f,rfl,rfl⟩:=j;have e:jJ n 0 rs=ms:=by rw[f];exact bu _
  rw[e] at q;exact⟨jQ L4 ms,q⟩
def L5(a:List aY)(l:List β)(h:a.length=l.length):(kb a l).Perm l:=by refine(ah6.map _ (L3.pq _ _)).trans ?_;rw[fQ (by lia)]
def jk(a:List Pt):(qH a).Perm a:=L5 _ _ (by simp)
noncomputable def jK(a:List Pt):List Mk:=(qH a).flatMap λp=>jJ p.1 0 p.2
structure acI(ps:List Pt):Prop where
 nd:(ps.map aQ).Nodup
 l:ps.length<64
 len:∀p∈ps,p.2.length<=1000
 ml:(jK ps).length<=1000
def wV (c:CA):GP:=λds Q=>∃a:List Pt,ds=[.lst (a.map (G1 c))]/\acI a/\Q (.lst ((jK a).map LZ))
def AB:i9 (wV c):=by
 rintro ds P Q w ⟨a,h,l,q⟩
 exact⟨a,h,l,w _ q⟩
def CB(c:CA)(a:List Pt):lC [.lst (a.map (G1 c))]=ag:=by show(lC _&&ag)=ag;rw[Gu];rfl
def Jd:∀ds Q,wV c ds Q->j8 4 1 (B5 (cl (rC c)) (cl (wU c))) ds Q:=by
 rintro ds Q ⟨f,h,ok,q⟩
 subst h;refine⟨rfl,?_⟩;refine⟨bD _,?_⟩;refine⟨CB c f,f,rfl,ok.nd,ok.l,?_⟩;refine⟨_,rfl,rfl,?_⟩;refine iz (G1 c) (λa b i M=>∃(o1 o2:Option D),qH f=a++b/\M=[aa (.lst ((a.flatMap λp=>jJ p.1 0 p.2).map LZ))]/\i=[aa _,aa (.loc 0),o1,o2]) (λ_ _ _ _ zq=>by obtain⟨_,_,_,e,_⟩:=zq;exact rfl) _ [] _ _ ⟨ar,ar,rfl,rfl,rfl⟩ (λpre x xs i M j N m=>?_) (λpre i M j=>?_)
 .obtain⟨o1,o2,g,rfl,rfl⟩:=j;have n:x∈f:=(jk f).mem_iff.mp (by rw[g];simp);refine⟨rfl,rfl,rfl,?_,x.1,x.2,rfl,ok.len x n,?_⟩
  .show(ag&&(lC _&&ag))=ag;rw[qG];rfl
  .refine⟨_,_,rfl,rfl,?_,m _ _ ⟨_,_,by rw[g,bi];rfl,?_,rfl⟩⟩
   .refine EK (bG ?_ ok.ml);unfold jK;rw[g,List.flatMap_append,eL,aE,aE,ao,ao];lia
   .rw[List.flatMap_append,eL,List.flatMap_nil,bu,ba];rfl
 .obtain⟨o1,o2,g,rfl,rfl⟩:=j;rw[bu] at g;have e:jK f=pre.flatMap λp=>jJ p.1 0 p.2:=by unfold jK;rw[g]
  rw[e] at q;exact⟨jQ L4 _,q⟩
noncomputable def iX(ms:List Mk):List Mk:=ms.filter λm=>m.2.1
noncomputable def locs(l:List Mk):List D:=(cx l.length).map λi=>D.loc (i+1)
noncomputable def stM(l:List Mk):Ms:=aa (.jD (l.map λm=>.inr m.1) (locs l))::l.map λm=>aa (.lst [.str m.2.2.1])
theorem EQ{w:aY}:∀(S:List Mk) (es:List D),w∉S.map aQ->mf (.inr w) (S.map λm=>.inr m.1) es=ar
 |[],_,_=>rfl
 |_::_,[],_=>rfl
 |m::S,e::es,h=>by rw[bq];unfold mf;rw[bq,aH,not_or] at h;rw[if_neg (λz=>h.1 (by cases z;rfl)),EQ S es h.2]
def XJ(S:List Mk):(stM S).length=S.length+1:=by simp[stM]
def Qb(S:List Mk)(m:Mk):locs (S++[m])=locs S++[.loc (S.length+1)]:=by unfold locs;rw[aE,dn,List.range_succ,ba];rfl
def NR(S:List Mk)(d x:Option OD):((stM S++[x]).set 0 d)[S.length+1]?=aa x:=by unfold stM;rw[eU,List.set_cons_zero,List.getElem?_cons_succ];simp
def Ue(S:List Mk)(w p:aY)(b:Bool)(k:Nat):((stM S++[aa (OD.lst [])]).set 0 (aa (OD.jD ((S.map λm=>dg m.1)++[dg w]) (locs S++[D.loc (S.length+1)])))).set (S.length+1) (aa (OD.lst ([]++[D.str p])))=stM (S++[(w,b,p,k)]):=by
 unfold stM;rw[eU,List.set_cons_zero,gG,Qb,ba,ba];congr 1;have:S.length=(S.map λm=>(aa (OD.lst [.str m.2.2.1]):Option OD)).length:=by simp
 rw[this,NI];rfl
def yu:GN:=λds M Q=>∃ms:List Mk,ds=[.lst (ms.map LZ)]/\M=[]/\((iX ms).map aQ).Nodup/\ms.length<=1000/\Q (.loc 0) (stM (iX ms))
def DM:kx yu:=by
 rintro ds M P Q w ⟨ms,h,a,b,c,q⟩
 exact⟨ms,h,a,b,c,w _ _ q⟩
def Qc:∀ds M Q,yu ds M Q->tJ 5 1 uy ds M Q:=by
 rintro ds M Q ⟨ms,h,o,nd,u,q⟩
 subst h o;refine⟨rfl,?_⟩;conv=>whnf
 refine⟨_,rfl,rfl,?_⟩;refine iz LZ (λa b g M=>∃(o1 o2 i:Option D),ms=a++b/\M=stM (iX a)/\g=[aa (.lst (ms.map LZ)),aa (.loc 0),o1,o2,i]) (λ_ _ _ _ zq=>by obtain⟨_,_,_,_,e,_⟩:=zq;exact rfl) ms [] _ _ ⟨ar,ar,ar,rfl,rfl,rfl⟩ (λpre x xs g M j N r=>?_) (λpre g M j=>?_)
 .obtain⟨o1,o2,i,c,rfl,rfl⟩:=j;obtain⟨w,b,p,k⟩:=x;have m:iX (pre++[(w,b,p,k)])=iX pre++iX [(w,b,p,k)]:=gJ ..;have n:ms=pre++[(w,b,p,k)]++xs:=by rw[c,bi];rfl
  cases b with
  |false=>
   refine⟨rfl,rfl,?_⟩;exact r _ _ ⟨_,_,_,n,by rw[m];exact(congrArg stM (bu _)).symm,rfl⟩
  |true=>
   have f:((iX pre++[(w,ag,p,k)]).map aQ).Nodup:=by have:=nd;rw[n] at this;unfold iX at this;rw[gJ,ba] at this;rw[<-show iX (pre++[(w,ag,p,k)])=iX pre++[(w,ag,p,k)] from m];exact(dB.mp this).1
   have hw:w∉(iX pre).map aQ:=by rw[ba] at f;exactλz=>(dB.mp f).2.2 w z w (by simp) rfl
   have s:(iX pre).length<=1000:=by
    have o:(iX pre).length<=pre.length:=ain _ _;have v:pre.length<=ms.length:=by rw[c];simp
    lia
   refine⟨rfl,rfl,rfl,bD _,_,_,_,rfl,rfl,(λx ex=>?_),(λ_=>⟨?_,?_⟩)⟩
   .have:=EQ (iX pre) (locs (iX pre)) hw;exact absurd (this.symm.trans ex) (by simp)
   .rw[ao];exact d6 s (by decide)
   .rw[XJ];refine⟨?_,_,rfl,?_⟩
    .show tyD cr (vwk _ ((stM (iX pre)++[aa (OD.lst [])]).set 0 _)[(iX pre).length+1]?)=ag;rw[NR];rfl
    .refine⟨_,NR _ _ _,by decide,r _ _ ⟨_,_,_,n,?_,rfl⟩⟩;rw[m];exact Ue _ w p ag k
 .obtain⟨o1,o2,i,c,rfl,rfl⟩:=j;rw[bu] at c;rw[c] at q;exact q
theorem ER{w:aY}:∀(S:List Mk) (es:List D),w∈S.map aQ->es.length=S.length->∃i,i<S.length/\mf (.inr w) (S.map λm=>.inr m.1) es=es[i]?
 |[],_,h,_=>by simp at h
 |_::_,[],_,h=>by simp at h
 |m::S,e::es,h,a=>by
  rw[bq];unfold mf;by_cases hw:m.1=w
  .exact⟨0,by simp,by rw[if_pos (by rw[hw])];rfl⟩
  .rw[bq,aH] at h;obtain⟨i,c,b⟩:=ER S es (h.resolve_left (λz=>hw z.symm)) (by simpa using a);exact⟨i+1,by simp;exact c,by rw[if_neg (λz=>hw (by cases z;rfl)),b];rfl⟩
def acJ{S:List Mk}{i:Nat}(h:i<S.length):(locs S)[i]?=aa (.loc (i+1))/\∃p,(stM S)[i+1]?=aa (aa (.lst [.str p])):=by
 constructor
 .unfold locs;rw[bh,List.getElem?_range h];rfl
 .refine⟨(S[i]'h).2.2.1,?_⟩;unfold stM;rw[List.getElem?_cons_succ,bh,ax h];rfl
def Qd(h:w∈zU ss):w∈ss:=(L3.pq _ _).mem_iff.mp h
structure XM(ms:List Mk):Prop where
 nd:((iX ms).map aQ).Nodup
 few:BJ ((iX ms).map aQ)
 len:ms.length<=1000
def Gv:GP:=λds Q=>∃ms:List Mk,ds=[.lst (ms.map LZ)]/\XM ms/\Q .non
def Gw:i9 Gv:=by
 rintro ds P Q w ⟨a,h,l,q⟩
 exact⟨a,h,l,w _ q⟩
def Uf:∀ds Q,Gv ds Q->j8 3 1 (rA yu) ds Q:=by
 rintro ds Q ⟨ms,h,ok,q⟩
 subst h;refine⟨rfl,ms,rfl,rfl,ok.nd,ok.len,?_⟩;refine⟨(iX ms).map aQ,by rw[bx];rfl,ok.few,?_⟩;refine⟨_,rfl,rfl,?_⟩;refine iz D.str (λa b c M=>∃(o1:Option D),zU ((iX ms).map aQ)=a++b/\M=stM (iX ms)/\c=[aa (.lst (ms.map LZ)),aa (.loc 0),o1]) (λ_ _ _ _ zq=>by obtain⟨_,_,e,_⟩:=zq;exact rfl) _ [] _ _ ⟨ar,rfl,rfl,rfl⟩ (λpre x xs c M f N j=>?_) (λpre c M f=>?_)
 .obtain⟨o1,g,rfl,rfl⟩:=f;have m:x∈(iX ms).map aQ:=Qd (by rw[g];simp);obtain⟨i,hi,n⟩:=ER (iX ms) (locs (iX ms)) m (by simp[locs]);obtain⟨o,p,r⟩:=acJ hi;refine⟨_,_,rfl,n.trans o,?_⟩;refine⟨1,by show OQ (vwk _ (stM _)[i+1]?)=_;rw[r];rfl,?_⟩;exact j _ _ ⟨_,by rw[g,bi];rfl,rfl,rfl⟩
 .exact q
noncomputable def iC{β:Type}(w:aY):List (aY×β)->Option β
 |[]=>ar
 | (x,v)::l=>if x=w then aa v else iC w l
noncomputable def uH{β:Type}(w:aY)(v:β)(l:List (aY×β)):List (aY×β):=if(iC w l).isSome=ag then l.map (λx=>if x.1=w then(x.1,v) else x) else l++[(w,v)]
noncomputable def kA{β:Type}(l:List (aY×β)):List Key:=l.map λx=>.inr x.1
noncomputable def vA{β:Type}(f:β->D)(l:List (aY×β)):List D:=l.map λx=>f x.2
theorem lx(f:β->D)(w:aY):∀l:List _,mf (.inr w) (kA l) (vA f l)=(iC w l).map f
 |[]=>rfl
 | (x,v)::l=>by
  show(if(dg x:Key)=.inr w then aa (f v) else mf (.inr w) (kA l) (vA f l))=_;unfold iC;by_cases h:x=w
  .rw[if_pos (by rw[h]),if_pos h];rfl
  .rw[if_neg (λz=>h (by cases z;rfl)),if_neg h,lx f w l]
theorem ZD(w:aY):∀l:List (aY×β),((kA l).any λx=>decide (x=.inr w))=(iC w l).isSome
 |[]=>rfl
 | (x,v)::l=>by
  show(decide _||(kA l).any λx=>decide _)=_;unfold iC;by_cases h:x=w
  .rw[if_pos h,decide_eq_true (by rw[h])];rfl
  .rw[if_neg h,decide_eq_false (λz=>h (by cases z;rfl)),ZD w l];rfl
theorem ZE(f:β->D)(w:aY)(v:β):∀l:List _,c7 (λ(x:Key) y=>if x=.inr w then f v else y) (kA l) (vA f l)=vA f (l.map λx=>if x.1=w then(x.1,v) else x)
 |[]=>rfl
 | (x,u)::l=>by
  show(if(dg x:Key)=.inr w then f v else f u)::c7 _ (kA l) (vA f l)=_;rw[ZE f w v l];by_cases h:x=w
  .rw[if_pos (by rw[h])];show _=f (if x=w then(x,v) else(x,u)).2::_;rw[if_pos h];rfl
  .rw[if_neg (λz=>h (by cases z;rfl))];show _=f (if x=w then(x,v) else(x,u)).2::_;rw[if_neg h];rfl
def acK(w:aY)(v:β)(l:List _):kA (l.map λx=>if x.1=w then(x.1,v) else x)=kA l:=by unfold kA;rw[bx];refine eZ λx _=>?_;show(dg (if x.1=w then(x.1,v) else x).1:Key)=.inr x.1;split<;>rfl
def ES(f:β->D)(w:aY)(v:β)(l:List _):qc (.inr w) (f v) (kA l) (vA f l)=(kA (uH w v l),vA f (uH w v l)):=by
 unfold qc uH;rw[ZD];by_cases h:(iC w l).isSome=ag
 .rw[if_pos h,if_pos h,ZE,acK]
 .rw[if_neg h,if_neg h];unfold kA vA;rw[ba,ba];rfl
def Ug(w:aY)(v:β)(l:List _):(uH w v l).length<=l.length+1:=by
 unfold uH;split
 .rw[ao];exact cw _
 .simp
abbrev Pl:=aY×Nat
noncomputable def Uh(p:Pl):D:=.tup [.str p.1,.int p.2]
noncomputable def lQ(l:List (aY×Pl))(m:Mk):List (aY×Pl):=if(m.2.1||!(iC m.1 l).isSome)=ag then uH m.1 m.2.2 l else l
noncomputable def placesOf(ms:List Mk):List (aY×Pl):=ms.foldl lQ []
def Gx(ms:List Mk):(placesOf ms).length<=ms.length:=by
 have gen:∀(ms:List Mk) (l:List _),(ms.foldl lQ l).length<=l.length+ms.length:=by
  intro ms;induction ms with
  |nil=>intro l;exact aD _
  |cons m ms a=>
   intro l;rw[List.foldl_cons,aU];have b:=a (lQ l m);have c:(lQ l m).length<=l.length+1:=by
    unfold lQ;split
    .exact Ug _ _ _
    .exact cw _
   lia
 have:=gen ms [];rw[ck,bQ] at this;exact this
noncomputable def DN(l:List (aY×Pl)):D:=.jD (kA l) (vA Uh l)
def Gy(l:List _):nl (DN l)=ag:=jQ (λ_=>rfl) l
structure ahC(ps:List Pt):Prop where
 mi:acI ps
 tw:XM (jK ps)
def CC (c:CA):GP:=λds Q=>∃a:List Pt,ds=[.lst (a.map (G1 c))]/\ahC a/\Q (DN (placesOf (jK a)))
def DP{c:CA}:i9 (CC c):=by
 rintro ds P Q w ⟨a,h,l,q⟩
 exact⟨a,h,l,w _ q⟩
def acL(ms:List Mk):lC [.lst (ms.map LZ)]=ag:=by show(lC _&&ag)=ag;rw[jQ L4];rfl
def Qe{c:CA}:∀ds Q,CC c ds Q->j8 6 1 (Aa (cl (wV c)) (cl Gv)) ds Q:=by
 rintro ds Q ⟨g,h,ok,q⟩
 subst h;refine⟨rfl,CB c g,g,rfl,ok.mi,?_⟩;refine⟨acL _,_,rfl,ok.tw,?_⟩;obtain⟨_,tw⟩:=ok;generalize jK g=ms at tw q |-;conv=>whnf
 refine⟨_,rfl,rfl,?_⟩;refine iz LZ (λa b m M=>∃(o1 o2 f:Option D),ms=a++b/\M=[aa (.jD (kA (placesOf a)) (vA Uh (placesOf a)))]/\m=[aa (.lst (g.map (G1 c))),aa (.lst (ms.map LZ)),aa (.loc 0),o1,o2,f]) (λ_ _ _ _ zq=>by obtain⟨_,_,_,_,e,_⟩:=zq;exact rfl) ms [] _ _ ⟨ar,ar,ar,rfl,rfl,rfl⟩ (λpre x xs m M n N p=>?_) (λpre m M n=>?_)
 .obtain⟨o1,o2,f,i,rfl,rfl⟩:=n;have r:placesOf (pre++[x])=lQ (placesOf pre) x:=by unfold placesOf;rw[List.foldl_append];rfl
  have v:(placesOf pre).length<=1000:=by
   have z:=Gx pre;have A:pre.length<=ms.length:=by rw[i];simp
   have:=tw.len;lia
  have s:ms=pre++[x]++xs:=by rw[i,bi];rfl
  have y:(kA (placesOf pre)).length<aO:=by unfold kA;rw[ao];exact d6 v (by decide)
  obtain⟨w,b,pl⟩:=x;have put:lQ (placesOf pre) (w,b,pl)=uH w pl (placesOf pre)->∀o1 o2 f:Option D,∃j ds o,([aa (.jD (kA (placesOf pre)) (vA Uh (placesOf pre)))]:Ms)[0]?=aa (aa (.jD j ds))/\Hv (.str w)=aa o/\j.length<aO/\N [aa (.lst (g.map (G1 c))),aa (.lst (ms.map LZ)),aa (.loc 0),o1,o2,f] ([aa (.jD (kA (placesOf pre)) (vA Uh (placesOf pre)))].set 0 (aa (.jD (qc o (Uh pl) j ds).1 (qc o (Uh pl) j ds).2))):=by intro e o1 o2 f;refine⟨_,_,_,rfl,rfl,y,p _ _ ⟨o1,o2,f,s,?_,rfl⟩⟩;rw[r,e,ES];rfl
  cases b with
  |true=>exact⟨rfl,rfl,put rfl _ _ _⟩
  |false=>
   refine⟨rfl,rfl,(iC w (placesOf pre)).isSome,?_,?_⟩
   .show aa (mf (.inr w) (kA (placesOf pre)) (vA Uh (placesOf pre))).isSome=_;rw[lx,gL]
   .cases u:(iC w (placesOf pre)).isSome with
    |true=>exact p _ _ ⟨_,_,_,s,by rw[r];unfold lQ;dsimp only;rw[u];rfl,rfl⟩
    |false=>exact put (by unfold lQ;dsimp only;rw[u];rfl) _ _ _
 .obtain⟨o1,o2,f,i,rfl,rfl⟩:=n;rw[bu] at i;rw[i] at q;exact⟨Gy _,q⟩
noncomputable def bare(rs:List Rw):List Rw:=rs.filter λr=>!r.jj
def XN{K:af}{c:CA}(a:Ub K c)(r:Rw){M:Ms}{Q:DK}(q:Q (.bl (match r with|.numbers _=>ag|_=>au)) M):kH K [r.ins c,.cls c.j5] M Q:=by refine⟨.ref (c.at r.kn),_,rfl,λC ns es e=>by cases e;exact a.io _,?_,q⟩;rw[a.nums];cases r<;>rfl
def XO{K:af}{c:CA}(a:Ub K c)(r:Rw){M:Ms}{Q:DK}(q:Q (.bl (match r with|.table _=>ag|_=>au)) M):kH K [r.ins c,.cls c.Table] M Q:=by refine⟨.ref (c.at r.kn),_,rfl,λC ns es e=>by cases e;exact a.io _,?_,q⟩;rw[a.ahA];cases r<;>rfl
def lq (c:CA):GP:=λds Q=>∃rs:List Rw,ds=[.lst (rs.map (Rw.ins c))]/\rs.length<=1000/\Q (.lst ((bare rs).map (Rw.ins c)))
def pI:i9 (lq c):=by
 rintro ds P Q w ⟨rs,h,l,q⟩
 exact⟨rs,h,l,w _ q⟩
def wW(b:Ub K c):∀ds Q,lq c ds Q->j8 1 1 (oz K c.Mark) ds Q:=by
 rintro ds Q ⟨rs,h,l,q⟩
 subst h;have a:=@yr K c b;unfold oz;generalize kH K=f at a |-;refine⟨rfl,?_⟩;refine⟨_,rfl,rfl,?_⟩;refine iU _ (Rw.ins c) (λr=>!r.jj) ?_ _ _ ?_ (λx g i e=>?_) ?_
 .exact rfl
 .rw[ck,bQ];exact EK l
 .refine a x ?_;have:=e _ (show Fm [ar] [aa (x.ins c)]=_ from rfl);cases hm:x.jj with
  |true=>rw[hm] at this;exact this
  |false=>rw[hm] at this;exact this
 .exact⟨qG c _,q⟩
abbrev Br:=List (aY×List Rw)
noncomputable def iY(a:List Pt):Br:=(qH a).map λp=>(p.1,bare p.2)
noncomputable def Gz(c:CA)(rs:List Rw):D:=.lst (rs.map (Rw.ins c))
noncomputable def nV(c:CA)(b:Br):D:=.jD (kA b) (vA (Gz c) b)
def uI(c:CA)(b:Br):nl (nV c b)=ag:=jQ (f:=λx:aY×List Rw=>Gz c x.2) (λp=>qG c p.2) b
structure afD(ps:List Pt):Prop where
 nd:(ps.map aQ).Nodup
 l:ps.length<64
 len:∀p∈ps,p.2.length<=1000
def L6 (c:CA):GP:=λds Q=>∃a:List Pt,ds=[.lst (a.map (G1 c))]/\afD a/\Q (nV c (iY a))
def Je:i9 (L6 c):=by
 rintro ds P Q w ⟨a,h,l,q⟩
 exact⟨a,h,l,w _ q⟩
def XQ{c:CA}:∀ds Q,L6 c ds Q->j8 1 1 (Ab (cl (rC c)) (cl (lq c))) ds Q:=by
 rintro ds Q ⟨f,h,ok,q⟩
 subst h;refine⟨rfl,CB c f,f,rfl,ok.nd,ok.l,?_⟩;refine⟨_,rfl,rfl,?_⟩;have g:=jk f;refine iI (G1 c) (λp=>prD (.inr p.1,Gz c (bare p.2))) ?_ _ _ ?_ (λx i r j=>?_) ?_
 .exact rfl
 .rw[ck,bQ,g.length_eq];exact EK (by have:=ok.l;exact bG (dF this) (Nat.le_add_left _ _))
 .refine⟨rfl,rfl,?_,x.2,rfl,ok.len x (g.mem_iff.mp i),aq rfl,?_⟩
  .show(lC _&&ag)=ag;rw[qG];rfl
  .exact j _ rfl
 .refine⟨(qH f).map λp=>(.inr p.1,Gz c (bare p.2)),(by rw[bx];rfl),?_,?_⟩
  .rw[bx];have m:=(g.map aQ).nodup_iff.mpr ok.nd;have n:((λx:Key×D=>x.1)∘λp:Pt=>((.inr p.1:Key),Gz c (bare p.2)))=(dg:aY->Key)∘aQ:=rfl;rw[n,<-bx];exact aik _ (λa b o e=>o (by cases e;rfl)) m
  .have e:(OD.jD (((qH f).map λp=>((.inr p.1:Key),Gz c (bare p.2))).map (·.1)) (((qH f).map λp=>((.inr p.1:Key),Gz c (bare p.2))).map (·.2))).toD=nV c (iY f):=by show D.jD _ _=D.jD _ _;unfold iY kA vA;rw[bx,bx,bx,bx];rfl
   dsimp only;rw[e];exact⟨uI c _,q⟩
noncomputable def XR(b:Br)(p:Pl):Option Rw:=(iC p.1 b).bind λrs=>rs[p.2]?
def Ui(h:XR b p=aa r):∃rs,iC p.1 b=aa rs/\rs[p.2]?=aa r:=by
 unfold XR at h;cases e:iC p.1 b with
 |none=>rw[e] at h;cases h
 |some rs=>rw[e] at h;exact⟨rs,rfl,h⟩
def XT (c:CA):GP:=λds Q=>∃(b:Br) (p:Pl) (r:Rw),ds=[nV c b,Uh p]/\XR b p=aa r/\Q (r.ins c)
def Qf:i9 (XT c):=by
 rintro ds P Q w ⟨b,p,r,h,l,q⟩
 exact⟨b,p,r,h,l,w _ q⟩
def afE:∀ds Q,XT c ds Q->j8 2 2 B6 ds Q:=by
 rintro ds Q ⟨b,p,r,h,e,q⟩
 subst h;obtain⟨rs,e1,e2⟩:=Ui e;refine⟨rfl,_,rfl,.inr p.1,Gz c rs,rfl,by rw[lx,e1];rfl,_,rfl,r.ins c,?_,r.nli c,q⟩;exact ab1 (by rw[bh,e2];rfl)
noncomputable def oA(r a:Rw):Bool:=match r with
 |.alike _ _ _=>ag
 |.load _ _ _=>(match a with|.numbers _=>ag|_=>au)
 |.jumpby _ _=>(match a with|.table _=>ag|_=>au)
 |_=>a.code
def Uj (c:CA):GP:=λds Q=>∃r a:Rw,ds=[r.ins c,a.ins c]/\Q (.bl (oA r a))
def L7:i9 (Uj c):=by
 rintro ds P Q w ⟨b,p,h,q⟩
 exact⟨b,p,h,w _ q⟩
def acM(b:Ub K c):∀ds Q,Uj c ds Q->j8 3 2 (sy K (lD c) c.j5 c.Table c.Code) ds Q:=by
 rintro ds Q ⟨r,a,h,q⟩
 subst h;have e:=@XN K c b;have f:=@XO K c b;have g:=@Ja K c b;unfold sy;generalize kH K=i at e f g |-;refine⟨rfl,_,_,_,_,rfl,rfl,⟨r.kn,rfl,rfl⟩,by unfold lC;rw[r.nli];rfl,r,rfl,rfl,?_⟩;cases r;all_goals
  walk_at "h";first|exact q|exact e a ⟨rfl,q⟩|exact f a ⟨rfl,q⟩|exact g a ⟨rfl,q⟩
noncomputable def Rw.ZF:Rw->List aY
 |.jump w|.jumpif _ w|.call w|.load _ _ w|.jumpby _ w=>[w]
 |.alike _ w v=>[w,v]
 |.table ws=>ws
 |_=>[]
def Rw.Uk(r:Rw):r.names=r.ZF.map D.str:=by cases r<;>rfl
noncomputable def ET(b:Br)(pl:List (aY×Pl))(r:Rw)(w:aY):Bool:=match iC w pl with
 |none=>au
 |some p=>match XR b p with
  |none=>au
  |some a=>oA r a
def L8{pl:List _}(h:ET b pl r w=ag):∃p a,iC w pl=aa p/\XR b p=aa a/\oA r a=ag:=by
 unfold ET at h;cases e:iC w pl with
 |none=>rw[e] at h;cases h
 |some p=>
  rw[e] at h;dsimp only at h;cases e2:XR b p with
  |none=>rw[e2] at h;cases h
  |some a=>rw[e2] at h;exact⟨p,a,rfl,e2,h⟩
noncomputable def L9(b:Br)(pl:List (aY×Pl))(rs:List Rw):Bool:=rs.all λr=>r.ZF.all (ET b pl r)
def Ma (c:CA):GP:=λds Q=>∃(n:aY) (b:Br) (pl:List (aY×Pl)) (rs:List Rw),ds=[.str n,nV c b,DN pl]/\iC n b=aa rs/\L9 b pl rs=ag/\Q .non
def Jf:i9 (Ma c):=by
 rintro ds P Q w ⟨n,b,p,r,h,l,z,q⟩
 exact⟨n,b,p,r,h,l,z,w _ q⟩
def XU{c:CA}:∀ds Q,Ma c ds Q->j8 6 3 (uz (sw c) (cl (Uj c)) (cl (XT c))) ds Q:=by
 rintro ds Q ⟨n,b,pl,rs,h,e,ok,q⟩
 subst h;refine⟨rfl,.inr n,Gz c rs,rfl,by rw[lx,e];rfl,_,rfl,rfl,?_⟩;refine xM (λj f M=>∃o1 o2 g,f=[aa (.str n),aa (nV c b),aa (DN pl),o1,o2,g]) (λ_ _ _ zq=>by obtain⟨_,_,_,_⟩:=zq;exact rfl) _ 0 _ _ ⟨ar,ar,ar,rfl⟩ (λj x f M u i N v=>?_) (λf M i=>q);obtain⟨o1,o2,g,rfl⟩:=i;obtain⟨y,w,rfl⟩:=Cv u;obtain⟨r,A,rfl⟩:=xx w;have B:r.ZF.all (ET b pl r)=ag:=bT.mp ok r (bA A);refine⟨rfl,rfl,_,_,_,_,rfl,rfl,⟨r.kn,rfl,rfl⟩,r,rfl,rfl,?_⟩;refine⟨r.names,by show wz (vwk _ (M++[aa (.lst r.names)])[M.length]?)=_;rw[NH];rfl,rfl,?_⟩;rw[r.Uk];refine iz D.str (λa z f C=>r.ZF=a++z/\C=M++[aa (.lst (r.ZF.map D.str))]/\∃g,f=[aa (.str n),aa (nV c b),aa (DN pl),aa (.int j),aa (r.ins c),g]) (λ_ _ _ _ zq=>by obtain⟨_,e,_⟩:=zq;rw[e]) _ [] _ _ ⟨rfl,rfl,g,rfl⟩ (λpre x xs f M1 i E m=>?_) (λpre f M1 zq=>by obtain⟨_,_,o,e⟩:=zq;exact v _ _ ⟨_,_,_,e⟩);obtain⟨s,rfl,o,rfl⟩:=i;obtain⟨p,a,e1,e2,e3⟩:=L8 (bT.mp B x (by rw[s];simp));refine⟨ag,by show aa (mf (.inr x) (kA pl) (vA Uh pl)).isSome=_;rw[lx,e1];rfl,?_⟩;refine⟨.inr x,Uh p,rfl,by rw[lx,e1];rfl,?_,b,p,a,rfl,e2,?_⟩
 .show(nl (nV c b)&&(nl (Uh p)&&ag))=ag;rw[uI];rfl
 refine⟨by show(nl (r.ins c)&&(nl (a.ins c)&&ag))=ag;rw[r.nli,a.nli];rfl,r,a,rfl,?_⟩;rw[e3];exact m _ _ ⟨by rw[s,bi];rfl,rfl,_,rfl⟩
structure vW(ps:List Pt):Prop where
 lk:XI ps
 ml:(jK ps).length<=1000
 tw:XM (jK ps)
 ahD:∀p∈ps,∃rs,iC p.1 (iY ps)=aa rs/\L9 (iY ps) (placesOf (jK ps)) rs=ag
def vW.mi{a:List Pt}(h:vW a):acI a:=⟨h.lk.EM.nd,by have:=h.lk.EM.hi;exact d6 this (Nat.le_add_left _ _),λp b=>(h.lk.EM.all p b).len,h.ml⟩
def vW.br{a:List Pt}(h:vW a):afD a:=⟨h.mi.nd,h.mi.l,h.mi.len⟩
abbrev Qg(a:List Pt):List (aY×Pl):=placesOf (jK a)
def uJ (c:CA):GP:=λds Q=>∃a:List Pt,ds=[.lst (a.map kO)]/\vW a/\Q (.tup [nV c (iY a),DN (Qg a)])
def DQ{c:CA}:i9 (uJ c):=by
 rintro ds P Q w ⟨a,h,l,q⟩
 exact⟨a,h,l,w _ q⟩
def Qh{c:CA}:∀ds Q,uJ c ds Q->j8 6 1 (Ir (cl (Cy c)) (cl (CC c)) (cl (L6 c)) (cl (Ma c))) ds Q:=by
 rintro ds Q ⟨b,h,ok,q⟩
 subst h;refine⟨rfl,uG b,b,rfl,ok.lk,?_⟩;refine⟨CB c b,b,rfl,⟨ok.mi,ok.tw⟩,?_⟩;refine⟨CB c b,b,rfl,ok.br,?_⟩;refine⟨_,rfl,rfl,?_⟩;refine iz (G1 c) (λa z e M=>b=a++z/\M=[]/\∃o1 o2,e=[aa (.lst (b.map kO)),aa (.lst (b.map (G1 c))),aa (DN (Qg b)),aa (nV c (iY b)),o1,o2]) (λ_ _ _ _ _=>rfl) b [] _ _ ⟨rfl,rfl,ar,ar,rfl⟩ (λpre x xs e M f N i=>?_) (λpre e M f=>?_)
 .obtain⟨g,rfl,o1,o2,rfl⟩:=f;obtain⟨rs,e1,e2⟩:=ok.ahD x (by rw[g];simp);refine⟨rfl,rfl,?_,x.1,iY b,Qg b,rs,rfl,e1,e2,i _ _ ⟨by rw[bi];exact g,rfl,_,_,rfl⟩⟩;show(ag&&(nl (nV c (iY b))&&(nl (DN (Qg b))&&ag)))=ag;rw[uI,Gy];rfl
 .obtain⟨g,rfl,o1,o2,rfl⟩:=f;refine⟨aq rfl,?_,q⟩;show(nl (nV c (iY b))&&(nl (DN (Qg b))&&ag))=ag;rw[uI,Gy];rfl
end FJ
namespace mS
open PySem PySem.Spec L2 L3
open FJ (iz iI iU nO okN oS Rw oA Pt Mk Pl Br iR kt jJ jK qH jk iC uH lQ placesOf iY bare XR ET L9 XI vW XM iX yt kO low kA vA lx ES nV CA kg uJ Qg DN)
local macro_rules | `(tactic| walk_at "m") => `(tactic| ((conv => whnf); first | refine ⟨_, rfl, ?_⟩ | refine ⟨rfl, ?_⟩ | refine ⟨aq rfl, ?_⟩ | refine ⟨show (0 : Int) < _ by decide, ?_⟩ | refine ⟨show xO _ _ from ⟨by decide, by decide⟩, ?_⟩ | refine ⟨show E3 _ _ from ⟨by decide, by decide, by decide⟩, ?_⟩ | refine ⟨show xw _ _ from .inl ⟨by decide, by decide⟩, ?_⟩ | refine ⟨show xw _ _ from .inr ⟨by decide, by decide⟩, ?_⟩))
local macro_rules | `(tactic| walk_at "f") => `(tactic| ((repeat walk_at "m"); try (conv => whnf)))
abbrev iD(xs:List Int):List D:=xs.map D.int
def DR{k:Nat}{x:β}(h:xs[k]?=aa x):C8 xs (k:Int)=aa x:=by have a:=(ak.mp h).1;unfold C8 U5;rw[if_pos (by exact Int.natCast_nonneg _),if_pos (by exact Int.ofNat_lt.mpr a)];simpa using h
def iS(h:M[k]?=aa (aa o)):vw M (.loc k)=o.toD:=by show vwk k M[k]?=_;rw[h];rfl
def nW (M a:Ms)(k:Nat):Prop:=M.length<=a.length/\∀j,j<M.length->j≠k->a[j]?=M[j]?
def nW.refl:nW M M k:=⟨aD _,λ_ _ _=>rfl⟩
theorem nW.trans(a:nW M c k)(b:nW c f k):nW M f k:=⟨bG a.1 b.1,λj h e=>(b.2 j (bw h a.1) e).trans (a.2 j h e)⟩
theorem nW.set:nW M (M.set k o) k:=⟨by simp,λj _ e=>by rw[aJ (λz=>e z.symm)]⟩
def nW.push:nW M (M++[o]) k:=⟨by simp,λj h _=>aX h⟩
def Dr (M:Ms)(k n:Nat):Prop:=∃xs:List Int,M[k]?=aa (aa (.lst (iD xs)))/\xs.length=n
def Dr.lt(h:Dr M k n):k<M.length:=by obtain⟨_,e,_⟩:=h;exact(ak.mp e).1
def Dr.of(h:Dr M k n)(e:c[k]?=M[k]?):Dr c k n:=by obtain⟨xs,a,b⟩:=h;exact⟨xs,e.trans a,b⟩
def jc:GN:=λds M Q=>∃(k n:Nat) (many:Int),ds=[.loc k,.int many]/\0<many/\Dr M k n/\∀(r:Int) (a:Ms),0<=r->r<many->(n=0->r=0)->Dr a k (n- 1)->nW M a k->Q (.int r) a
def Jg:kx jc:=by rintro ds M P Q w ⟨k,many,n,f,g,h,q⟩;exact ⟨k,many,n,f,g,h,λr i a b c d e=>w _ _ (q r i a b c d e)⟩
def XV:∀ds M Q,jc ds M Q->tJ 2 2 Cj ds M Q:=by
 rintro ds M Q ⟨k,n,many,g,a,b,q⟩
 subst g;have h:=b.lt;obtain⟨xs,e,c⟩:=b;refine⟨rfl,?_⟩;have f:=iS e;refine⟨bD _,?_⟩;show Aq (.loc k) _ M _;unfold Aq;rw[f];cases xs with
 |nil=>
  refine q 0 M (Int.le_refl _) a (λ_=>rfl) ⟨[],e,by subst c;rfl⟩ nW.refl
 |cons x xs=>
  subst c;refine⟨by rw[f];rfl,.int x,iD xs,e,a,q _ _ (aio _ (by lia)) (Int.emod_lt_of_pos _ a) (λz=>absurd z (by simp)) ⟨xs,bn h,rfl⟩ nW.set⟩
def yb{xs:List β}(h:n<=xs.length):cutD xs (aa (n:Int)) ar=xs.drop n:=by unfold cutD;rw[HT.AH,Nat.min_eq_left h,fF (by rw[dN];exact aD _)]
def mN:GN:=λds M Q=>∃(c:Int) (many:Nat),ds=[.int c,.int many]/\many<=100/\∀(k:Nat) (a:Ms),M.length<=k->Dr a k many->M.length<=a.length->(∀j,j<M.length->a[j]?=M[j]?)->Q (.loc k) a
def GA:kx mN:=by rintro ds M P Q w ⟨c,many,e,f,q⟩;exact ⟨c,many,e,f,λk g a b c d=>w _ _ (q k g a b c d)⟩
noncomputable def big:Int:=10000000000000000000000000000000000000121
def acN{c:Int}{many:Nat}{M:Ms}{fs:List Int}{rest:D}{Q:DK}{o:jp}(hm:many<=100)(B:fs.length<=many)(h:∀(k:Nat) (b:Ms),M.length<=k->Dr b k many->M.length<=b.length->(∀j,j<M.length->b[j]?=M[j]?)->o.rt (.loc k) b):
  drC o [aa (.int c),aa (.int many),aa (.loc M.length),aa rest,ar,ar,ar] (M++[aa (.lst (iD fs))]):=by
 have C:(M++[aa (OD.lst (iD fs))])[M.length]?=aa (aa (.lst (iD fs))):=by simp
 refine⟨⟨by decide,by decide,by decide⟩,⟨show(0:Int)<10^40+121 by decide,?_⟩⟩;refine⟨bD _,?_⟩;have hb:∀x:Int,0<=x%(10^40+121)/\x%(10^40+121)<10^40+121:=λx=>⟨aio _ (by decide),Int.emod_lt_of_pos _ (by decide)⟩;refine⟨⟨show-(2^62)<=((many:Int)+4) by lia,show((many:Int)+4)<2^62 by lia⟩,trivial,?_⟩;have key:∀num:Int,0<=num->num<2^200->wq (ib 6) (ii (iV 4 (ij nQ (ij iW (ij iW (ij (gI ED λi j=>.int (i*j)) (hV 4) (hV 4)) (ij (gI ED λi j=>.int (i*j)) (dC (.int 48271)) (hV 4))) (hV 6)) (ij iW (ij B7 (dC (.int 10)) (dC (.int 40))) (dC (.int 121)))))
   (jY (yG cr iT (hV 5) (hU (hV 4) hX)))) (λ_=>True) {o with nx:=λg M1=>(iu (nL (M7 (hV 2) (Vb (hV 5) (uj (ij iW (dC (.int 4)) (iJ j3 (hU (hV 2) hX)))) oQ)))) o g M1} ((cx (many+4)).map λ(i:Nat)=>D.int (0+(i:Int))) [aa (.int c),aa (.int many),aa (.loc M.length),aa rest,aa (.int num),aa (.loc (M.length+1)),ar] (M++[aa (.lst (iD fs)),aa (.lst (iD []))]):=by
  intro num m n;refine iz (λi:Nat=>D.int (0+(i:Int))) (λa z g b=>a.length+z.length=many+4/\(∀i∈z,i<many+4)/\∃(num:Int) (ms:List Int) (p:Option D),0<=num/\num<2^200/\ms.length=a.length/\b=M++[aa (.lst (iD fs)),aa (.lst (iD ms))]/\g=[aa (.int c),aa (.int many),aa (.loc M.length),aa rest,aa (.int num),aa (.loc (M.length+1)),p]) (λ_ _ _ _ _=>trivial) _ [] _ _ ⟨by simp,λi hi=>gF.mp hi,num,[],ar,m,n,rfl,rfl,rfl⟩ (λpre x xs g b q N v=>?_) (λpre g b q=>?_)
  .obtain⟨r,s,num,ms,p,m,n,f,rfl,rfl⟩:=q;have E:=s x aN;have w:pre.length+(xs.length+1)=many+4:=r;have e1:(M++[aa (OD.lst (iD fs)),aa (OD.lst (iD ms))])[M.length+1]?=aa (aa (.lst (iD ms))):=by simp
   have na:num.natAbs<2^400:=by
    have:(2:Int)^200<2^400:=by decide
    lia
   refine⟨⟨na,na⟩,⟨by decide,na⟩,⟨by decide,by decide,by decide⟩,show(0:Int)<10^40+121 by decide,?_⟩;refine⟨by rw[iS e1];rfl,iD ms,e1,?_,v _ _ ⟨?_,λi hi=>s i (aB _ hi),_,ms++[(num*num+48271*num+(0+(x:Int)))%(10^40+121)],_,(hb _).1,?_,?_,?_,rfl⟩⟩
   .rw[ao,f,bp];lia
   .simp;lia
   .exact Int.lt_trans (hb _).2 (by decide)
   .simp[f]
   .rw[List.set_append_right _ _ (by exact cw _),ft];unfold iD;rw[ba];rfl
  .obtain⟨r,_,num,ms,p,m,n,f,rfl,rfl⟩:=q;have w:pre.length+0=many+4:=r;have e1:(M++[aa (OD.lst (iD fs)),aa (OD.lst (iD ms))])[M.length+1]?=aa (aa (.lst (iD ms))):=by simp
   have e2:(M++[aa (OD.lst (iD fs)),aa (OD.lst (iD ms))])[M.length]?=aa (aa (.lst (iD fs))):=by simp
   have v1:=iS e1;have u:=iS e2;dsimp only;simp only [iu,nL,M7,Vb,uj,ij,dC,iJ,hU,hX,oQ,sR,vN];unfold j3;simp only [u,OD.toD];refine⟨fs.length,by show aa (cG _)=_;rw[ao],?_⟩;rw[T7];simp only [v1,OD.toD];rw[show(4:Int)+(fs.length:Int)=((4+fs.length:Nat):Int) by exact rfl,yb (by rw[ao];lia)];unfold yY;rw[u];refine⟨by rw[ao,dN,ao,bp];lia,?_⟩;refine h _ _ (by simp) ⟨fs++ms.drop (4+fs.length),?_,?_⟩ (by simp) (λj y=>?_)
   .unfold iD;rw[ba,aeF];simp
   .rw[aE,dN];lia
   .rw[bi,aX y]
 have A:=key (c%(10^40+121)+48271) (by have:=(hb c).1;lia) (by have:=(hb c).2;have e:(10:Int)^40+121+48271<2^200:=(by decide);lia);have e3:((many:Int)+4).toNat=many+4:=by lia
 have e4:(M++[aa (OD.lst (iD fs))]).length=M.length+1:=by simp
 have e5:M++[aa (OD.lst (iD fs))]++[aa (OD.lst [])]=M++[aa (OD.lst (iD fs)),aa (OD.lst (iD []))]:=by simp
 unfold wA;rw[e3,e4,e5];exact A
def Ul:∀ds M Q,mN ds M Q->tJ 7 2 uC ds M Q:=by
 rintro ds M Q ⟨c,many,p,hm,q⟩
 subst p;unfold uC;refine⟨rfl,bD _,⟨by decide,by decide⟩,?_⟩;have key:∀(rest:Int) (o:jp),o.rt=Q->drB o [aa (.int c),aa (.int many),aa (.loc M.length),aa (.int rest),ar,ar,ar] (M++[aa (.lst [])]):=by
  intro rest o a;refine⟨many+1,wC (λn g h=>∃(fs:List Int) (rest:Int),n+fs.length=many/\h=M++[aa (.lst (iD fs))]/\g=[aa (.int c),aa (.int many),aa (.loc M.length),aa (.int rest),ar,ar,ar]) (λn g h r N s=>?_) many _ _ ⟨[],rest,by simp,rfl,rfl⟩ _ (by exact aD _)⟩;obtain⟨fs,rest,hn,rfl,rfl⟩:=r;have i:(M++[aa (OD.lst (iD fs))])[M.length]?=aa (aa (.lst (iD fs))):=by simp
  have j:=iS i;have f:∀b:jp,b.rt=Q->drC b [aa (.int c),aa (.int many),aa (.loc M.length),aa (.int rest),ar,ar,ar] (M++[aa (.lst (iD fs))]):=λb hb=>acN (Q:=Q) hm (by lia) (by rw[hb];exact q);simp only [yR,NO,ij,dC,sR,vN,OP,Dl,T6,IJ,T4];have cp:E3 (10:Int) 12:=⟨by decide,by decide,by decide⟩;split
  .split
   .simp only [iJ,hU,hX,sR,vN];unfold j3;simp only [j,OD.toD];refine⟨fs.length,by show aa (cG _)=_;rw[ao],?_⟩;show(if decide ((fs.length:Int)<many)=ag then _ else _);split
    .rename_i m;have m:=of_decide_eq_true m;refine⟨by rw[j];rfl,cp,show(0:Int)<10^12 by decide,iD fs,i,by rw[ao,bp];lia,cp,⟨show(0:Int)<10^12 by decide,by decide⟩,s (n- 1) _ _ (by lia) ⟨fs++[rest%10^12],_,?_,?_,rfl⟩⟩
     .simp;lia
     .rw[List.set_append_right _ _ (aD _),Nat.sub_self];unfold iD;rw[ba];rfl
    .exact f o a
   .exact f o a
  .exact f o a
 refine⟨show(0:Int)<2 by decide,?_⟩;cases e:(c%2==1) with
 |true=>
  show(if(c%2==1)=ag then _ else _);rw[e];exact key 0 _ rfl
 |false=>
  show(if(c%2==1)=ag then _ else _);rw[e];exact key (c/2) _ rfl
def uK{many:Int}{M:Ms}{Q:DK}(h:0<many)(d:Dr M k n)(q:∀(r:Int) (a:Ms),0<=r->r<many->(n=0->r=0)->Dr a k (n- 1)->nW M a k->Q (.int r) a):jc [.loc k,.int many] M Q:=⟨k,n,many,rfl,h,d,q⟩
inductive Sk
 |set (b n:Int)|add (b c:Int)|take (b c:Int)|say (b:Int)|ask (b:Int)|jump|jumpif (b:Int)|call|back|stop|load (b c:Int)|jumpby (b:Int)|alike (b:Int)|numbers (ns:List Int)|table (n:Nat)
noncomputable def Sk.d:Sk->D
 |.set b n=>.tup [.str fq,.int b,.int n]|.add b c=>.tup [.str "add",.int b,.int c]|.take b c=>.tup [.str "take",.int b,.int c]|.say b=>.tup [.str "say",.int b]|.ask b=>.tup [.str "ask",.int b]
 |.jump=>.tup [.str nP]|.jumpif b=>.tup [.str oD,.int b]|.call=>.tup [.str pr]|.back=>.tup [.str qe]|.stop=>.tup [.str pj]|.load b c=>.tup [.str oH,.int b,.int c]
 |.jumpby b=>.tup [.str nn,.int b]|.alike b=>.tup [.str ov,.int b]|.numbers ns=>.tup [.str gr,.lst (ns.map .int)]|.table n=>.tup [.str hJ,.int n]
noncomputable def Sk.ok:Sk->Bool
 |.set b n=>nO b&&okN n|.add b c=>nO b&&nO c|.take b c=>nO b&&nO c|.say b=>nO b|.ask b=>nO b|.jumpif b=>nO b|.load b c=>nO b&&nO c|.jumpby b=>nO b|.alike b=>nO b
 |.numbers ns=>decide (1<=ns.length)&&decide (ns.length<=60)&&ns.all okN|.table n=>decide (1<=n)&&decide (n<=3)|_=>ag
noncomputable def Sk.code:Sk->Bool
 |.numbers _=>au|.table _=>au|_=>ag
noncomputable def Sk.end:Sk->Bool
 |.jump=>ag|.back=>ag|.stop=>ag|.jumpby _=>ag|_=>au
theorem Sk.nl(s:Sk):L3.nl s.d=ag:=by cases s<;>first|rfl|exact(show(lC (List.map D.int _)&&ag)=ag by rw[jQ λ_=>rfl];rfl)
def Um{β:Type}{f:β->D}{L:List β}{j:Nat}{x:β}{M:Ms}{Q:DK}(h:L[j]?=aa x)(q:Q (f x) M):jl (.lst (L.map f)) (.int j) M Q:=⟨f x,DR (by rw[bh,h];rfl),q⟩
noncomputable def Mb(b:Int):List Sk:=[.jump,.jump,.stop,.back,.jumpby b]
noncomputable def wX(b c kind z:Int):List Sk:=[.set b (z- 2^31),.set b (kind+c- 9),.add b c,.take b c,.say b,.say b,.ask b,.jumpif b,.jumpif b,.call,.jump,.load b c,.jumpby b,.alike b,.back,.stop]
def Mc(a:0<=b)(c:b<4):nO b=ag:=by unfold nO;simp;lia
def GB(a:-2147483648<=b)(c:b<=2147483647):okN b=ag:=by unfold okN;simp;lia
def Uo(a:0<=b)(b1:b<4)(e:0<=c)(c1:c<4)(k0:0<=kind)(f:kind<16)(g:0<=z)(h:z<2^32):∀s∈wX b c kind z,s.ok=ag/\s.code=ag:=by have e1:=Mc a b1;have e2:=Mc e c1;have e3:okN (z- 2^31)=ag:=GB (by lia) (by lia);have e4:okN (kind+c- 9)=ag:=GB (by lia) (by lia);unfold wX;have e5:okN (z- 2147483648)=ag:=e3;simp[Sk.ok,Sk.code,e1,e2,e4,e5]
def CD:GN:=λds M Q=>∃(k n:Nat) (e:Bool),ds=[.loc k,.bl e]/\Dr M k n/\∀(s:Sk) (a:Ms),s.ok=ag->s.code=ag->(e=ag->s.end=ag)->Dr a k (n- (if e=ag then 3 else 4))->nW M a k->Q s.d a
def Jh:kx CD:=by rintro ds M P Q w ⟨k,n,e,f,g,q⟩;exact ⟨k,n,e,f,g,λs h a b c d e=>w _ _ (q s h a b c d e)⟩
def XW:∀ds M Q,CD ds M Q->tJ 6 2 (wS jc) ds M Q:=by
 rintro ds M Q ⟨k,n,e,u,v,q⟩
 subst u;have f:=@uK;unfold wS;generalize jc=J at f |-;refine⟨rfl,?_⟩;walk_at "f";refine f (by decide) v λb M1 p b1 _ w s1=>?_;walk_at "f";refine f (by decide) w λc M2 x c1 _ y s2=>?_;walk_at "f";refine f (by decide) y λkind A k0 B _ r s3=>?_;have i:=(s1.trans s2).trans s3;cases e with
 |true=>
  walk_at "f";obtain⟨j,a,m⟩:∃j:Nat,j<5/\kind%5=j:=⟨(kind%5).toNat,by lia,by lia⟩;rw[m];have h:(Mb b)[j]?=aa ((Mb b)[j]'a):=ax a;have hm:(Mb b)[j]'a∈Mb b:=fP _;generalize (Mb b)[j]'a=s at h hm;have o:=Mc p b1;have g:s.ok=ag/\s.code=ag/\s.end=ag:=by simp only [Mb,aH,bU,or_false] at hm;rcases hm with rfl|rfl|rfl|rfl|rfl<;>exact⟨by first|rfl|exact o,rfl,rfl⟩
  exact⟨s.d,DR (xs:=(Mb b).map Sk.d) (by rw[bh,h];rfl),q s A g.1 g.2.1 (λ_=>g.2.2) r i⟩
 |false=>
  walk_at "f";refine f (by decide) r λz C E G _ H I=>?_;walk_at "f";obtain⟨j,a,m⟩:∃j:Nat,j<16/\kind=j:=⟨kind.toNat,by lia,by lia⟩;have h:(wX b c kind z)[j]?=aa ((wX b c kind z)[j]'a):=ax a;have g:=Uo p b1 x c1 k0 B E G _ (fP (l:=wX b c kind z) a);generalize (wX b c kind z)[j]'a=s at h g;have ha:C8 ((wX b c kind z).map Sk.d) kind=aa s.d:=by rw[m];rw[m] at h;exact DR (by rw[bh,h];rfl)
  exact⟨s.d,ha,q s C g.1 g.2 (λz=>nomatch z) H (i.trans I)⟩
theorem rE(Pv:Nat->List D->Ms->Prop)(m:∀j a M,Pv j a M->st M):∀(xs:List D) (i:Nat) (acc:List D) (M:Ms),Pv i acc M->acc.length+xs.length<=aO->
  (∀j x acc M,xs[j]?=aa x->Pv (i+j) acc M->∀c:Option D->lY->Ms->Prop,(∀d f M1,Fm fr f=b->Pv (i+j+1) (acc++[d]) M1->c (aa d) f M1)->Ek g tt o x b M c)->(∀acc M,Pv (i+xs.length) acc M->Q acc M)->ri fr g tt o st Q xs acc b M
 |[],i,acc,M,p,_,_,z=>z acc M p
 |x::xs,i,acc,M,p,q,h,z=>by rw[aU] at q;refine h 0 x acc M rfl p _ λd f M1 e1 n=>⟨m _ _ _ n,by lia,?_⟩;rw[e1];refine rE Pv m xs (i+1) _ M1 n (by rw[aE];show acc.length+1+_<=_;lia) (λj x acc M r e c s=>?_) λacc M e=>z acc M (by rw[show i+1+xs.length=i+(xs.length+1) by lia] at e;exact e);have:=h (j+1) x acc M (by simpa using r) (by rw[show i+(j+1)=i+1+j by lia];exact e) c;rw[show i+(j+1)+1=i+1+j+1 by lia] at this;exact this s
structure Rk(B0:Ms)(k:Nat)(M:Ms)(kr:Nat)(rs:List D)(n:Nat):Prop where
 src:Dr M k n
 ZG:nW B0 M k
 e:M[kr]?=aa (aa (.lst rs))
 lr:B0.length<=kr
 k0:k<B0.length
section
variable {B0 M:Ms} {k kr:Nat} {rs:List D}
def Rk.go(h:Rk B0 k M kr rs n)(s:Dr M' k n')(b:nW M M' k):Rk B0 k M' kr rs n':=by have a:=(ak.mp h.e).1;have:=h.lr;have:=h.k0;exact⟨s,h.ZG.trans b,by rw[b.2 kr a (by lia)];exact h.e,h.lr,h.k0⟩
def nW.NS(h:nW B0 M k)(lr:B0.length<=kr):nW B0 (M.set kr o) k:=⟨by simpa using h.1,λj a e=>by rw[aJ (by lia)];exact h.2 j a e⟩
def Rk.ap(h:Rk B0 k M kr rs n)(b:rs.length<=1000)(q:∀M',Rk B0 k M' kr (rs++[d]) n->Q .non M'):iT (.loc kr) [d] M Q:=by have a:=(ak.mp h.e).1;have:=h.lr;have:=h.k0;refine⟨_,h.e,by rw[bp];exact d6 b (Nat.le_add_left _ _),q _ ⟨h.src.of (aJ (by lia)),h.ZG.NS h.lr,?_,h.lr,h.k0⟩⟩;rw[bn a]
def Rk.ty(h:Rk B0 k M kr rs n):tyD cr (vw M (.loc kr))=ag:=by rw[iS h.e];rfl
def Rk.give(h:Rk B0 k M kr rs n)(hi:a[i]?=aa (aa (.loc kr)))(q:∀M',Dr M' k n->nW B0 M' k->Q (.lst rs) M'):HX i a M Q:=by have:=h.lr;have:=h.k0;exact⟨kr,rs,hi,h.e,q _ (h.src.of (aJ (by lia))) (h.ZG.NS h.lr)⟩
def Rk.new(h:Dr M k n):Rk M k (M++[aa (.lst [])]) M.length [] n:=⟨h.of (aX h.lt),nW.push,by simp,aD _,h.lt⟩
end
structure Blk(cs:List Sk)(e:Sk)(ds:List Sk):Prop where
 ok:∀s∈cs++e::ds,s.ok=ag
 c:∀s∈cs,s.code=ag
 ec:e.code=ag
 ee:e.end=ag
 few:cs.length<=5
 d:ds=[]\/∃x,ds=[x]/\x.code=au
def yv:GN:=λds M Q=>∃(k n:Nat),ds=[.loc k]/\Dr M k n/\∀(cs:List Sk) (e:Sk) (ds:List Sk) (a:Nat) (b:Ms),Blk cs e ds->Dr b k a->(a=0\/a+4*cs.length+5+ds.length<=n)->a<=n->nW M b k->Q (.lst ((cs++e::ds).map Sk.d)) b
def GC:kx yv:=by rintro ds M P Q w ⟨k,n,f,g,q⟩;exact ⟨k,n,f,g,λcs e ds h i a b c d e'=>w _ _ (q cs e ds h i a b c d e')⟩
def afF{M:Ms}{Q:DK}(d:Dr M k n)(q:∀(s:Sk) (a:Ms),s.ok=ag->s.code=ag->(e=ag->s.end=ag)->Dr a k (n- (if e=ag then 3 else 4))->nW M a k->Q s.d a):CD [.loc k,.bl e] M Q:=⟨k,n,e,rfl,d,q⟩
def acO{C M:Ms}{k kr n:Nat}{rs:List Sk}{o2:Option D}{kind:Int}{o:jp}(h:Rk C k M kr (rs.map Sk.d) n)(hl:rs.length<=6)(k0:0<=kind)(k1:kind<5)
(q:∀(ds:List Sk) (a:Nat) (b:Ms),(ds=[]\/∃x,ds=[x]/\x.code=au)->(∀s∈ds,s.ok=ag)->Dr b k a->a<=n->(a=0\/a+ds.length<=n)->nW C b k->o.rt (.lst ((rs++ds).map Sk.d)) b):
  blC jc o [aa (.loc k),aa (.loc kr),o2,aa (.int kind),ar] M:=by
 have f:=@uK;have E:=@Rk.ap;unfold blC;generalize jc=gn at f |-;generalize iT=ga at E |-;have c:(rs.map Sk.d).length<=1000:=by rw[ao];exact bG hl (Nat.le_add_left _ _)
 have H:∀(b:Ms) (x:Sk) (a:Nat) (I:lY),I[1]?=aa (aa (.loc kr))->Rk C k b kr (rs.map Sk.d++[x.d]) a->x.ok=ag->x.code=au->a<=n->(a=0\/a+1<=n)->HX 1 I b o.rt:=by intro b x a I J g G hc hn Vx;refine g.give J λM2 v s2=>?_;have:=q [x] a M2 (.inr ⟨x,rfl,hc⟩) (λs w=>by rw[bj.mp w];exact G) v hn Vx s2;rw[ba] at this;exact this
 have hk:kind=0\/kind=1\/kind=2\/kind=3\/kind=4:=by lia
 rcases hk with rfl|rfl|rfl|rfl|rfl
 .refine h.give rfl λM2 v s2=>?_;have:=q [] n M2 (.inl rfl) (λs w=>nomatch w) v (aD _) (.inr (aD _)) s2;rw[bu] at this;exact this
 .walk_at "f";refine f (by decide) h.src λr M1 L U _ y s1=>?_;have p:=h.go y s1;refine⟨p.ty,⟨show-(2^62)<=(1+r) by lia,show(1+r)<2^62 by lia⟩,trivial,?_⟩;refine rE (λj acc b=>∃(ns:List Int) (u:Nat),acc=iD ns/\ns.length=j/\ns.all okN=ag/\u<=n- 1/\Rk C k b kr (rs.map Sk.d) u) (λ_ _ _ _=>trivial) _ 0 [] _ ⟨[],_,rfl,rfl,rfl,aD _,p⟩ ?_ (λj x acc M2 G N Kk O=>?_) (λacc M2 N=>?_)
  .show 0+(wA 0 (1+r).toNat).length<=aO;unfold wA;rw[ao,cU,bp];lia
  .obtain⟨ns,u,rfl,A,Q,hn,g⟩:=N;walk_at "f";refine f (by decide) g.src λz M3 z0 Y _ d3 s3=>?_;have Y:z<4294967296:=Y;walk_at "f";refine O _ _ _ rfl ⟨ns++[z- 2^31],u- 1,?_,?_,?_,by exact bG (Nat.sub_le _ _) hn,g.go d3 s3⟩
   .unfold iD;rw[ba];rfl
   .simp;lia
   .rw[List.all_append,Q];exact(show(ag&&(okN (z- 2^31)&&ag))=ag by rw[GB (by lia) (by lia)];rfl)
  .obtain⟨ns,u,rfl,A,Q,hn,g⟩:=N;replace A:ns.length=0+(wA 0 (1+r).toNat).length:=A;unfold wA at A;rw[ao,cU] at A;refine⟨aq rfl,E (d:=Sk.d (.numbers ns)) g c λM2 B=>?_⟩;refine H M2 (.numbers ns) u _ rfl B ?_ rfl (by exact bG hn (Nat.sub_le _ _)) (by lia);show(decide (1<=cG _)&&decide (cG _<=60)&&List.all _ okN)=ag;rw[Q];simp;lia
 .walk_at "f";refine⟨h.ty,?_⟩;refine f (by decide) h.src λr M1 L U _ y s1=>?_;have p:=h.go y s1;refine⟨⟨show-(2^62)<=(1+r) by lia,show(1+r)<2^62 by lia⟩,trivial,?_⟩;refine iI (λi:Nat=>D.int (0+(i:Int))) (λi:Nat=>D.int (7*(0+(i:Int))- 3)) trivial _ [] ?_ (λx G Kk O=>?_) ?_
  .rw[cU,bp];show 0+_<=_;lia
  .exact⟨.inl ⟨by decide,by decide⟩,O _ rfl⟩
  .have T:∀ns:List Int,ns=(cx (1+r).toNat).map (λi:Nat=>7*(0+(i:Int))- 3)->(Sk.numbers ns).ok=ag:=by intro ns e;subst e;show(decide (1<=cG _)&&decide (cG _<=60)&&List.all _ okN)=ag;rw[ao,cU];simp;refine⟨by lia,λx G=>GB (by lia) (by lia)⟩
   refine⟨aq rfl,?_⟩;have e1:[]++(cx (1+r).toNat).map (λi:Nat=>D.int (7*(0+(i:Int))- 3))=((cx (1+r).toNat).map (λi:Nat=>7*(0+(i:Int))- 3)).map D.int:=by rw[bx];rfl
   rw[e1];refine E p c λM2 B=>?_;exact H M2 (.numbers _) _ _ rfl B (T _ rfl) rfl (by exact Nat.sub_le _ _) (by lia)
 .walk_at "f";refine⟨h.ty,?_⟩;refine f (by decide) h.src λr M1 L U _ y s1=>?_;have p:=h.go y s1;obtain⟨m,rfl⟩:=cn L;have e1:(1:Int)+(m:Int)=((1+m:Nat):Int):=by exact rfl
  refine⟨aq rfl,?_⟩;rw[e1];refine E (d:=Sk.d (.table (1+m))) p c λM2 B=>?_;refine H M2 (.table (1+m)) _ _ rfl B ?_ rfl (by exact Nat.sub_le _ _) (by lia);unfold Sk.ok;simp;lia
 .refine h.give rfl λM2 v s2=>?_;have:=q [] n M2 (.inl rfl) (λs w=>nomatch w) v (aD _) (.inr (aD _)) s2;rw[bu] at this;exact this
def Up:∀ds M Q,yv ds M Q->tJ 5 1 (uD jc CD) ds M Q:=by
 rintro ds M Q ⟨k,n,L,O,q⟩
 subst L;unfold uD;have f:=@uK;have fc:=@afF;have o:=@Rk.ap;have p:=@acO;generalize jc=G at f p |-;generalize CD=T at fc |-;generalize iT=ga at o |-;generalize blC G=bl at p |-;have H:=Rk.new O;refine⟨rfl,bD _,f (by decide) H.src λr M1 r0 r1 _ U s1=>?_⟩;have g:=H.go U s1;refine⟨⟨show-(2^62)<=r by exact Int.le_trans (by decide) r0,show r<2^62 by exact Int.lt_of_lt_of_le r1 (by decide)⟩,trivial,?_⟩;have u:∀(cs:List Sk) (M2:Ms) (c:Nat) (o2:Option D),(∀s∈cs,s.ok=ag/\s.code=ag)->cs.length<=5->Rk M k M2 M.length (cs.map Sk.d) c->c<=n->(c=0\/c+4*cs.length+1<=n)->
   (ii (jY (yG cr ga (hV 1) (hU (iJ T (hU (hV 0) (hU (dC (.bl ag)) hX))) hX)))
    (ii (iV 3 (iJ G (hU (hV 0) (hU (dC (.int 5)) hX)))) bl)) ⟨λ_ h=>Q .non h,Q,λ_ _=>False,λ_ _=>False⟩ [aa (.loc k),aa (.loc M.length),o2,ar,ar] M2:=by
  intro cs M2 c o2 hc j g hn v;refine⟨g.ty,fc g.src λe Y w ec ee y s3=>?_⟩;refine o (g.go y s3) (by rw[ao];exact bG j (Nat.le_add_left _ _)) λM4 m=>?_;refine f (by decide) m.src λkind M5 k0 k1 _ d5 s5=>?_;have I:=m.go d5 s5;have e5:cs.map Sk.d++[e.d]=(cs++[e]).map Sk.d:=by rw[ba];rfl
  rw[e5] at I;refine p I (by simp;exact j) k0 k1 λds n' h hd ho dr A B sb=>?_;have e6:cs++[e]++ds=cs++e::ds:=by simp
  rw[e6];refine q cs e ds n' h ⟨λs b=>?_,λs b=>(hc s b).2,ec,ee rfl,j,hd⟩ dr ?_ ?_ sb
  .rcases bt.mp b with b|b
   .exact(hc s b).1
   .rcases aH.mp b with rfl|b
    .exact w
    .exact ho s b
  .have e7:(if ag=ag then 3 else 4)=3:=rfl;rw[e7] at A B;lia
  .omega
 refine iz (λi:Nat=>D.int (0+(i:Int))) (λa z C h=>a.length+z.length<=5/\∃(cs:List Sk) (c:Nat) (o2:Option D),(∀s∈cs,s.ok=ag/\s.code=ag)/\cs.length=a.length/\Rk M k h M.length (cs.map Sk.d) c/\c<=n/\(c=0\/c+4*cs.length+1<=n)/\C=[aa (.loc k),aa (.loc M.length),o2,ar,ar]) (λ_ _ _ _ _=>trivial) _ [] _ _ ⟨?_,[],n- 1,ar,(λs b=>nomatch b),rfl,g,by exact Nat.sub_le _ _,(by show _\/_+4*0+1<=_;lia),rfl⟩ (λpre x xs C h E N hN=>?_) (λpre C h E=>?_)
 .rw[cU];show 0+_<=_;lia
 .obtain⟨j,cs,c,o2,hc,J,g,hn,v,rfl⟩:=E;refine⟨g.ty,fc g.src λe Y w ec ee y s3=>?_⟩;rw[aU] at j;refine o (g.go y s3) (by rw[ao];lia) λM4 m=>hN _ _ ⟨?_,cs++[e],c- 4,_,?_,?_,?_,?_,?_,rfl⟩
  .rw[aE];show _+1+_<=_;lia
  .intro s b;rcases bt.mp b with b|b
   .exact hc s b
   .rw[bj.mp b];exact⟨w,ec⟩
  .simp[J]
  .rw[ba];exact m
  .exact bG (Nat.sub_le _ _) hn
  .rw[aE];show _\/_+4*(_+1)+1<=_;lia
 .obtain⟨j,cs,c,o2,hc,J,g,hn,v,rfl⟩:=E;exact u cs h c o2 hc (by exact bG (gB J) j) g hn v
noncomputable def az:aY:=uaT
noncomputable def ch(i:Nat):aY:=⟨#[az.cps.toList.getD i 0]⟩
noncomputable def nm(k:Nat):aY:=if k%5=4/\k<40 then"p"++ch (k/5) else if k%5=3 then"nnnnn"++ch (k/26%26)++ch (k%26) else"n"++ch (k/26%26)++ch (k%26)
def XX:∀k,k<100->oS (nm k)=ag:=by decide+kernel
def afG:((cx 100).map nm).Nodup:=by decide+kernel
def Uq(hi:i<100)(c:j<100)(h:nm i=nm j):i=j:=by have:=afG;have e:=(eQ (h₀:=by simpa using hi) (h₁:=by simpa using c) this).mp (by simpa using h);exact e
def afH{i:Nat}{j:Int}{M:Ms}{Q:DK}(e:j=(i:Int))(h:i<26)(q:Q (.str (ch i)) M):jl (.str az) (.int j) M Q:=by subst e;refine⟨aq rfl,az.cps.toList.getD i 0,DR ?_,q⟩;rw[bv,ax (h)];rfl
def sS:GP:=λds Q=>∃k:Nat,ds=[.int k]/\k<100/\Q (.str (nm k))
def Ji:i9 sS:=by rintro ds P Q w ⟨k,h,a,q⟩;exact ⟨k,h,a,w _ q⟩
def XY:∀ds Q,sS ds Q->j8 2 1 wQ ds Q:=by
 rintro ds Q ⟨k,h,s,q⟩
 subst h;have a:=@afH;unfold wQ;generalize jl=j at a |-;refine⟨rfl,?_⟩;have b:xO (k:Int) 26:=⟨by decide,by decide⟩;have c:(k:Int)/26%26=((k/26%26:Nat):Int):=by exact rfl
 have f:(k:Int)%26=((k%26:Nat):Int):=by exact rfl
 have g:k/26%26<26:=Nat.mod_lt _ (by decide);have i:k%26<26:=Nat.mod_lt _ (by decide);have snd:∀(E:jp) (M:Ms) (o:Option D),(∀d M,d=.str (nm k)->E.rt d M)->¬(k%5=4/\k<40)->(ii (i5 (ie (ij tV (ij nQ (hV 0) (dC (.int 5))) (dC (.int 3)))) (iu (ij iW (ij iW (dC (.str "nnnnn")) (ij j (hV 1) (ij nQ (ij ze (hV 0) (dC (.int 26))) (dC (.int 26))))) (ij j (hV 1) (ij nQ (hV 0) (dC (.int 26)))))) iy)
   (iu (ij iW (ij iW (dC (.str "n")) (ij j (hV 1) (ij nQ (ij ze (hV 0) (dC (.int 26))) (dC (.int 26))))) (ij j (hV 1) (ij nQ (hV 0) (dC (.int 26))))))) E [aa (.int k),aa (.str az)] M:=by
  intro E M o m hn;refine⟨show(0:Int)<5 by decide,?_⟩;show(if((k:Int)%5==3)=ag then _ else _);by_cases n:k%5=3
  .rw[if_pos (show((k:Int)%5==3)=ag by rw[beq_iff_eq];lia)];refine⟨b,show(0:Int)<26 by decide,?_⟩;refine a c g ⟨aq rfl,show(0:Int)<26 by decide,?_⟩;refine a f i ⟨aq rfl,m _ _ ?_⟩;unfold nm;rw[if_neg hn,if_pos n]
  .rw[if_neg (show¬((k:Int)%5==3)=ag by rw[beq_iff_eq];lia)];refine⟨b,show(0:Int)<26 by decide,?_⟩;refine a c g ⟨aq rfl,show(0:Int)<26 by decide,?_⟩;refine a f i ⟨aq rfl,m _ _ ?_⟩;unfold nm;rw[if_neg hn,if_neg n]
 refine⟨show(0:Int)<5 by decide,?_⟩;show(if((k:Int)%5==4)=ag then _ else _);by_cases p:k%5=4
 .rw[if_pos (show((k:Int)%5==4)=ag by rw[beq_iff_eq];lia)];show(if decide ((k:Int)<40)=ag then _ else _);by_cases r:k<40
  .rw[if_pos (decide_eq_true (by exact Int.ofNat_lt.mpr r))];refine⟨⟨by decide,by decide⟩,?_⟩;refine a (show(k:Int)/5=((k/5:Nat):Int) by exact rfl) (by lia) ⟨aq rfl,rfl,?_⟩;unfold nm at q;rw[if_pos ⟨p,r⟩] at q;exact q
  .rw[if_neg (by rw[decide_eq_true_eq];lia)];exact snd _ _ ar (λd M e=>by subst e;exact⟨rfl,q⟩) (λz=>r z.2)
 .rw[if_neg (show¬((k:Int)%5==4)=ag by rw[beq_iff_eq];lia)];exact snd _ _ ar (λd M e=>by subst e;exact⟨rfl,q⟩) (λz=>p z.1)
noncomputable def Sk.kn:Sk->aY
 |.set _ _=>fq|.add _ _=>"add"|.take _ _=>"take"|.say _=>"say"|.ask _=>"ask"|.jump=>nP|.jumpif _=>oD|.call=>pr|.back=>qe|.stop=>pj|.load _ _=>oH
 |.jumpby _=>nn|.alike _=>ov|.numbers _=>gr|.table _=>hJ
def Sk.ix0(s:Sk){M:Ms}{Q:DK}(q:Q (.str s.kn) M):jl s.d (.int 0) M Q:=by cases s<;>exact⟨_,rfl,q⟩
def Sk.isin(s:Sk){M:Ms}{Q:DK}(q:Q (.bl (!s.code)) M):AO au (.str s.kn) (.tup [.str gr,.str hJ]) M Q:=by cases s<;>exact⟨_,rfl,q⟩
abbrev Fl:=List (Option Bool×Sk)
noncomputable def Dc(i:Nat)(b:Bool):D:=.tup [.str ll,.str (nm i),.bl b]
noncomputable def jq:Nat->Fl->List D
 |_,[]=>[]
 |i,(ar,s)::r=>s.d::jq i r
 |i,(aa b,s)::r=>Dc i b::s.d::jq (i+1) r
noncomputable def mZ:Fl->List Sk
 |[]=>[]
 | (ar,_)::r=>mZ r
 | (aa _,s)::r=>s::mZ r
noncomputable def st:Fl->Nat
 |[]=>0
 | (aa ag,_)::r=>st r+1
 |_::r=>st r
noncomputable def XZ(i:Nat)(s:Sk):D:=.tup [.str (nm i),.str s.kn]
noncomputable def sT:Nat->List Sk->List D
 |_,[]=>[]
 |i,s::r=>XZ i s::sT (i+1) r
theorem GD:∀(i:Nat) (a:List Sk),(sT i a).length=a.length
 |_,[]=>rfl
 |i,s::r=>by unfold sT;rw[aU,aU,GD]
theorem Jj:∀(i:Nat) (a:List Sk) (s:Sk),sT i (a++[s])=sT i a++[XZ (i+a.length) s]
 |_,[],_=>rfl
 |i,x::r,s=>by show XZ i x::sT (i+1) (r++[s])=XZ i x::(sT (i+1) r++_);rw[Jj,aU,show i+1+r.length=i+(r.length+1) by lia]
theorem wY:∀(i:Nat) (f:Fl) (s:Sk),jq i (f++[(ar,s)])=jq i f++[s.d]
 |_,[],_=>rfl
 |i,(ar,x)::r,s=>by show x.d::jq i (r++_)=x.d::(jq i r++_);rw[wY]
 |i,(aa b,x)::r,s=>by show Dc i b::x.d::jq (i+1) (r++_)=Dc i b::x.d::(jq (i+1) r++_);rw[wY]
theorem wZ:∀(i:Nat) (f:Fl) (b:Bool) (s:Sk),jq i (f++[(aa b,s)])=jq i f++[Dc (i+(mZ f).length) b]++[s.d]
 |_,[],_,_=>rfl
 |i,(ar,x)::r,b,s=>by show x.d::jq i (r++_)=x.d::(jq i r++_++_);rw[wZ];rfl
 |i,(aa a,x)::r,b,s=>by show Dc i a::x.d::jq (i+1) (r++_)=Dc i a::x.d::(jq (i+1) r++_++_);rw[wZ,show i+1+(mZ r).length=i+(mZ r).length+1 by lia];rfl
theorem CG:∀(f:Fl) (s:Sk),mZ (f++[(ar,s)])=mZ f
 |[],_=>rfl
 | (ar,x)::r,s=>CG r s
 | (aa b,x)::r,s=>by show x::mZ (r++_)=_;rw[CG];rfl
theorem CH:∀(f:Fl) (b:Bool) (s:Sk),mZ (f++[(aa b,s)])=mZ f++[s]
 |[],_,_=>rfl
 | (ar,x)::r,b,s=>CH r b s
 | (aa a,x)::r,b,s=>by show x::mZ (r++_)=_;rw[CH];rfl
theorem CI:∀f:Fl,(mZ f).length<=f.length
 |[]=>aD _
 | (ar,x)::r=>eM (CI r)
 | (aa b,x)::r=>fV (CI r)
theorem CJ:∀(i:Nat) (f:Fl),(jq i f).length<=2*f.length
 |_,[]=>aD _
 |i,(ar,x)::r=>by have:=CJ i r;show _+1<=2*(_+1);exact Nat.add_le_add this (cw _)
 |i,(aa b,x)::r=>by have:=CJ (i+1) r;show _+1+1<=2*(_+1);lia
theorem zp:∀f g:Fl,st (f++g)=st f+st g
 |[],g=>by simp[st]
 | (ar,x)::r,g=>zp r g
 | (aa ag,x)::r,g=>by show st (r++g)+1=st r+1+_;rw[zp];lia
 | (aa au,x)::r,g=>zp r g
theorem Qi:∀{f:Fl},(jq i f).isEmpty=f.isEmpty
 |[]=>rfl
 | (ar,x)::r=>rfl
 | (aa b,x)::r=>rfl
inductive Sh:Nat->List Sk->Prop
 |nil:Sh 0 []
 |snoc {b:Nat} {r cs:List Sk} {e:Sk} {ds:List Sk}:Sh b r->Blk cs e ds->Sh (b+1) (r++(cs++e::ds))
def Blk.len(h:Blk cs e ds):ds.length<=1:=by rcases h.d with rfl|⟨x,rfl,_⟩<;>simp
theorem Sh.len(h:Sh b r):r.length<=7*b:=by
 induction h with
 |nil=>exact aD _
 |snoc _ a c=>
  have:=a.few;have:=a.len;simp only [aE,aU];lia
structure Rm(B0:Ms)(k m:Nat)(M:Ms)(kr:Nat)(rs ms:List D)(n:Nat):Prop where
 src:Dr M k n
 len:B0.length<=M.length
 ZG:∀j,j<B0.length->j≠k->j≠m->M[j]?=B0[j]?
 e:M[kr]?=aa (aa (.lst rs))
 em:M[m]?=aa (aa (.lst ms))
 lr:B0.length<=kr
 k0:k<B0.length
 m0:m<B0.length
 km:k≠m
section
variable {M:Ms} {k kr:Nat} {rs ms:List D}
def Rm.go(h:Rm B0 k m M kr rs ms n)(s:Dr M' k n')(b:nW M M' k):Rm B0 k m M' kr rs ms n':=by have f:=(ak.mp h.e).1;have g:=(ak.mp h.em).1;have:=h.lr;have:=h.k0;have:=h.km;exact⟨s,bG h.len b.1,λj i a c=>(b.2 j (by lia) a).trans (h.ZG j i a c),by rw[b.2 kr f (by lia)];exact h.e,by rw[b.2 m g (by lia)];exact h.em,h.lr,h.k0,h.m0,h.km⟩
def Rm.ap(h:Rm B0 k m M kr rs ms n)(g:rs.length<=1000)(q:∀M',Rm B0 k m M' kr (rs++[d]) ms n->Q .non M'):iT (.loc kr) [d] M Q:=by have b:=(ak.mp h.e).1;have:=h.lr;have:=h.k0;have:=h.m0;refine⟨_,h.e,by rw[bp];exact d6 g (Nat.le_add_left _ _),q _ ⟨h.src.of (aJ (by lia)),by simpa using h.len,λj f a c=>(aJ (by lia)).trans (h.ZG j f a c),bn b,(aJ (by lia)).trans h.em,h.lr,h.k0,h.m0,h.km⟩⟩
def Rm.am(h:Rm B0 k m M kr rs ms n)(g:ms.length<=1000)(q:∀M',Rm B0 k m M' kr rs (ms++[d]) n->Q .non M'):iT (.loc m) [d] M Q:=by have b:=(ak.mp h.em).1;have:=h.lr;have:=h.m0;have:=h.km;refine⟨_,h.em,by rw[bp];exact d6 g (Nat.le_add_left _ _),q _ ⟨h.src.of (aJ (by lia)),by simpa using h.len,λj f a c=>(aJ (by lia)).trans (h.ZG j f a c),(aJ (by lia)).trans h.e,bn b,h.lr,h.k0,h.m0,h.km⟩⟩
def Rm.ty(h:Rm B0 k m M kr rs ms n):tyD cr (vw M (.loc kr))=ag:=by rw[iS h.e];rfl
def Rm.tm(h:Rm B0 k m M kr rs ms n):tyD cr (vw M (.loc m))=ag:=by rw[iS h.em];rfl
def Rm.new(h:Dr M k n)(hm:M[m]?=aa (aa (.lst ms)))(km:k≠m):Rm M k m (M++[aa (.lst [])]) M.length [] ms n:=by have a:=(ak.mp hm).1;exact⟨h.of (aX h.lt),by simp,λj b _ _=>aX b,by simp,(aX a).trans hm,aD _,h.lt,a,km⟩
def Rm.afI(h:Rm B0 k m M kr rs ms n){Q:DK}(q:Q (.int ms.length) M):j3 [.loc m] M Q:=by unfold j3;simp only [iS h.em];exact⟨ms.length,rfl,q⟩
def Rm.empty(h:Rm B0 k m M kr rs ms n){Q:DK}(q:Q (.bl rs.isEmpty) M):Aq (.loc kr) (.lst []) M Q:=by unfold Aq;rw[iS h.e];exact q
def Rm.last(h:Rm B0 k m M kr rs (ms++[d]) n){Q:DK}(q:Q d M):jl (.loc m) (.int (-1)) M Q:=by unfold jl;rw[iS h.em];refine⟨d,?_,q⟩;unfold C8 U5;rw[if_neg (by decide),aE,dn,if_pos (by lia),show(-1+((ms.length+1:Nat):Int)).toNat=ms.length by lia];simp
end
def afJ{Q:DK}(h:k<100)(q:Q (.str (nm k)) M):cl sS [.int k] M Q:=⟨rfl,k,rfl,h,q⟩
def X0{y M:Ms}{k m kr n:Nat}{c:List Sk}{f:Fl}{x:Sk}{A:Option D}{E:jp}(h:Rm y k m M kr (jq c.length f) (sT 0 (c++mZ f)) n)(hf:f.length<=30)(hk:c.length+f.length<100)
(q:∀(o:Option Bool) (g:Nat) (i:Ms),Rm y k m i kr (jq c.length (f++[(o,x)])) (sT 0 (c++mZ (f++[(o,x)]))) g->g<=n->(f=[]->o.isSome=ag)->(o=aa ag->1<=n/\g+2<=n+(if x.code=ag then 0 else 1)+(if f=[] then 1 else 0))->E.nx [aa (.loc k),aa (.loc m),aa (.int 3),aa (.loc kr),A,aa x.d] i):
  skA jc (cl sS) E [aa (.loc k),aa (.loc m),aa (.int 3),aa (.loc kr),A,aa x.d] M:=by
 have J:=@uK;have f2:=@afJ;have L:=@Rm.ap;have f4:=@Rm.am;have N:=@Sk.ix0;have f6:=@Sk.isin;have f7:=@Rm.afI;have f8:=@Rm.empty;have f9:=@Rm.last;have B:∀{a:aY} {b:D} {M:Ms} {Q:DK},Q (.str a) M->jl (.tup [.str a,b]) (.int 0) M Q:=λq=>⟨_,rfl,q⟩;have MP:=CI f;have hrl:=CJ c.length f;unfold skA;generalize jc=gn at J |-;generalize cl sS=gm at f2 |-;generalize iT=ga at L f4 |-;generalize jl=O at N f9 B |-;generalize AO=gi at f6 |-;generalize j3=gl at f7 |-;have I:∀(o:Option Bool) (g:Nat) (i:Ms) (rs:List D),Rm y k m i kr rs (sT 0 (c++mZ (f++[(o,x)]))) g->rs++[x.d]=jq c.length (f++[(o,x)])->rs.length<=1000->g<=n->(f=[]->o.isSome=ag)->(o=aa ag->1<=n/\g+2<=n+(if x.code=ag then 0 else 1)+(if f=[] then 1 else 0))->
   (jY (yG cr ga (hV 3) (hU (hV 5) hX))) E [aa (.loc k),aa (.loc m),aa (.int 3),aa (.loc kr),A,aa x.d] i:=by intro o g i rs j e hl p v s;refine⟨j.ty,L j hl λM2 T=>q o g M2 ?_ p v s⟩;rw[<-e];exact T
 have mk:∀(w:Nat) (M2:Ms) (U:jp),Rm y k m M2 kr (jq c.length f) (sT 0 (c++mZ f)) w->(∀(b:Bool) (g:Nat) (i:Ms),g<=w->(b=ag->g+1<=w)->Rm y k m i kr (jq c.length f++[Dc (c.length+(mZ f).length) b]) (sT 0 (c++mZ (f++[(aa b,x)]))) g->U.nx [aa (.loc k),aa (.loc m),aa (.int 3),aa (.loc kr),A,aa x.d] i)->
   (ii (jY (yG cr ga (hV 1) (hU (i6 (hU (iJ gm (hU (iJ gl (hU (hV 1) hX)) hX)) (hU (ij O (hV 5) (dC (.int 0))) hX))) hX)))
   (jY (yG cr ga (hV 3) (hU (i6 (hU (dC (.str ll)) (hU (ij O (ij O (hV 1) (OP (dC (.int 1)))) (dC (.int 0))) (hU (ij ab4 (iJ gn (hU (hV 0) (hU (dC (.int 4)) hX))) (dC (.int 0))) hX)))) hX)))) U [aa (.loc k),aa (.loc m),aa (.int 3),aa (.loc kr),A,aa x.d] M2:=by
  intro w M2 U j hE;have C:(sT 0 (c++mZ f)).length=c.length+(mZ f).length:=by rw[GD,aE]
  refine⟨j.tm,f7 j ?_⟩;rw[C];refine f2 (by lia) (N x ⟨aq rfl,f4 j (by rw[C];lia) λM3 s=>?_⟩);refine⟨s.ty,f9 s (B (J (by decide) s.src λr M4 r0 r1 rz d4 s4=>⟨aq rfl,L (s.go d4 s4) (by lia) λM5 h5=>?_⟩))⟩;refine hE (decide (0<r)) (w- 1) M5 (by exact Nat.sub_le _ _) (λhb=>?_) ?_
  .have:=of_decide_eq_true hb;by_cases hz:w=0
   .have:=rz hz;lia
   .omega
  .rw[CH,<-bi,Jj,aE,bQ];exact h5
 have Y:∀b:Bool,jq c.length f++[Dc (c.length+(mZ f).length) b]++[x.d]=jq c.length (f++[(aa b,x)]):=λb=>(wZ _ _ _ _).symm;have u:∀b:Bool,(jq c.length f++[Dc (c.length+(mZ f).length) b]).length<=1000:=λb=>by rw[aE,dn];lia
 refine N x ⟨aq rfl,f6 x ?_⟩;cases hc:x.code with
 |false=>
  refine mk n M _ h λb g i p v j=>?_;refine I (aa b) g i _ j (Y b) (u b) p (λ_=>rfl) λG=>?_;have:=v (bF G);rw[if_neg (by rw[hc];decide)];lia
 |true=>
  refine⟨bD _,f8 h ?_⟩;rw[Qi];by_cases he:f=[]
  .subst he;refine mk n M _ h λb g i p v j=>?_;refine I (aa b) g i _ j (Y b) (u b) p (λ_=>rfl) λG=>?_;have:=v (bF G);rw[if_pos rfl];lia
  .rw[show f.isEmpty=au by cases f with|nil=>exact absurd rfl he|cons _ _=>rfl];refine J (by decide) h.src λr M1 r0 r1 rz d1 s1=>?_;have p:=h.go d1 s1;show(if(r==1)=ag then _ else _);by_cases H:r=1
   .subst H;refine mk (n- 1) M1 _ p λb g i v s j=>?_;refine I (aa b) g i _ j (Y b) (u b) (by exact bG v (Nat.sub_le _ _)) (λ_=>rfl) λG=>?_;have:=s (bF G);lia
   .rw[if_neg (by rw[beq_iff_eq];exact H)];refine I ar (n- 1) M1 _ (by rw[CG];exact p) (wY _ _ _).symm (by lia) (by exact Nat.sub_le _ _) (λz=>absurd z he) (λz=>nomatch z)
noncomputable def dc(l:List Sk):Nat:=(l.filter λs=>!s.code).length
def Ur(a b:List Sk):dc (a++b)=dc a+dc b:=by unfold dc;rw[gJ,aE]
theorem NT:∀{l:List Sk},(∀s∈l,s.code=ag)->dc l=0
 |[],_=>rfl
 |s::l,h=>by have e:=h s aN;have:=NT λx a=>h x (aB _ a);unfold dc at*;rw[bN,e];exact this
theorem Blk.dc(h:Blk cs e ds):dc (cs++e::ds)=ds.length:=by
 rw[show cs++e::ds=(cs++[e])++ds by simp,Ur,NT λs a=>?_]
 .rcases h.d with rfl|⟨x,rfl,b⟩
  .rfl
  .unfold mS.dc;rw[bN,b];rfl
 .rcases bt.mp a with a|a
  .exact h.c s a
  .rw[bj.mp a];exact h.ec
def Hd (f:Fl):Prop:=∃(b:Bool) (x:Sk) (r:Fl),f=(aa b,x)::r
def w4:GN:=λds M Q=>∃(k m n:Nat) (c:List Sk),ds=[.loc k,.loc m,.int 3]/\k≠m/\Dr M k n/\M[m]?=aa (aa (.lst (sT 0 c)))/\c.length<=78/\
 ∀(f:Fl) (b e:Nat) (a:Ms),Sh b (f.map dD)->b<=3->Hd f->6*st f+e<=n+10->Dr a k e->a[m]?=aa (aa (.lst (sT 0 (c++mZ f))))->M.length<=a.length->(∀j,j<M.length->j≠k->j≠m->a[j]?=M[j]?)->Q (.lst (jq c.length f)) a
def Jk:kx w4:=by rintro ds M P Q w ⟨k,m,n,a,c,e,g,h,i,q⟩;exact ⟨k,m,n,a,c,e,g,h,i,λf b j o a1 a2 a3 a4 a5 a6 a7 a8=>w _ _ (q f b j o a1 a2 a3 a4 a5 a6 a7 a8)⟩
def afK{M:Ms}{Q:DK}(d:Dr M k n)(q:∀(cs:List Sk) (e:Sk) (ds:List Sk) (a:Nat) (b:Ms),Blk cs e ds->Dr b k a->(a=0\/a+4*cs.length+5+ds.length<=n)->a<=n->nW M b k->Q (.lst ((cs++e::ds).map Sk.d)) b):yv [.loc k] M Q:=⟨k,n,rfl,d,q⟩
theorem NU:∀f:Fl,st f<=f.length
 |[]=>aD _
 | (ar,_)::r=>eM (NU r)
 | (aa ag,_)::r=>fV (NU r)
 | (aa au,_)::r=>eM (NU r)
def Us{u M1:Ms}{k m kr e:Nat}{g:List Sk}{f0:Fl}{rows:List Sk}{v f:Option D}{E:jp}{J:Ms->Prop}(O:∀M,J M)(h:Rm u k m M1 kr (jq g.length f0) (sT 0 (g++mZ f0)) e)(w:f0.length+rows.length<=21)(hk:g.length<=78)
(q:∀(a:Fl) (c:Nat) (i:Ms) (f:Option D),a.map dD=rows->Rm u k m i kr (jq g.length (f0++a)) (sT 0 (g++mZ (f0++a))) c->c<=e->c+2*st a<=e+dc rows+(if f0=[] then 1 else 0)->(st a=0\/1<=e)->(f0=[]->rows≠[]->Hd a)->E.nx [aa (.loc k),aa (.loc m),aa (.int 3),aa (.loc kr),v,f] i):
  wq (ib 5) (skA jc (cl sS)) J E (rows.map Sk.d) [aa (.loc k),aa (.loc m),aa (.int 3),aa (.loc kr),v,f] M1:=by
 have fs:=@X0;refine iz Sk.d (λpre xs A i=>pre++xs=rows/\∃(a:Fl) (c:Nat) (f:Option D),a.map dD=pre/\Rm u k m i kr (jq g.length (f0++a)) (sT 0 (g++mZ (f0++a))) c/\c<=e/\c+2*st a<=e+dc pre+(if f0=[] then 1 else 0)/\(a=[]->c=e)/\(st a=0\/1<=e)/\(f0=[]->pre≠[]->Hd a)/\A=[aa (.loc k),aa (.loc m),aa (.int 3),aa (.loc kr),v,f]) (λ_ _ _ _ _=>O _) rows [] _ _ ⟨rfl,[],e,f,rfl,by rw[bu];exact h,aD _,by show e+0<=_;exact Nat.le_add_right _ _,λ_=>rfl,.inl rfl,λ_ z=>absurd rfl z,rfl⟩ (λpre x xs A i j N Q=>?_) (λpre A i j=>?_)
 .obtain⟨p,a,c,f,e1,B,hn,ha,T,C,G,rfl⟩:=j;have je:(f0++a).length+1<=21:=by
   have e2:a.length=pre.length:=by rw[<-e1,ao]
   have e3:rows.length=pre.length+(xs.length+1):=by rw[<-p,aE];rfl
   rw[aE];lia
  refine fs B (by exact bG (dF je) (Nat.le_add_left _ _)) (by lia) λo H M2 U Vx I s=>Q _ _ ⟨by rw[<-p,bi];rfl,a++[(o,x)],H,_,?_,?_,by exact bG Vx hn,?_,?_,?_,?_,rfl⟩
  .rw[ba,e1];rfl
  .rw[<-bi];exact U
  .rw[Ur,zp];have e5:dc [x]=if x.code=ag then 0 else 1:=by unfold dc;rw[bN];cases x.code<;>rfl
   by_cases n:o=aa ag
   .obtain⟨g1,L⟩:=s n;subst n;rw[e5];show H+2*(st a+1)<=_;by_cases w:f0++a=[]
    .obtain⟨Y,z2⟩:=List.append_eq_nil_iff.mp w;subst Y z2;rw[if_pos (bu _)] at L;rw[if_pos rfl];show H+2*(0+1)<=_;lia
    .rw[if_neg w] at L;lia
   .have e6:st [(o,x)]=0:=by
     match o,n with
     |none,_=>rfl
     |some au,_=>rfl
     |some ag,z=>exact absurd rfl z
    rw[e6];lia
  .intro z;simp at z
  .by_cases n:o=aa ag
   .exact .inr (by have:=(s n).1;exact bG this hn)
   .have e6:st [(o,x)]=0:=by
     match o,n with
     |none,_=>rfl
     |some au,_=>rfl
     |some ag,z=>exact absurd rfl z
    rw[zp,e6];exact C
  .intro z _;by_cases j:pre=[]
   .subst j;have:a=[]:=by cases a with|nil=>rfl|cons _ _=>cases e1
    subst this z;have:=I rfl;obtain⟨b,rfl⟩:=cY.mp this;exact⟨b,x,[],rfl⟩
   .obtain⟨b,y,r,rfl⟩:=G z j;exact⟨b,y,r++[(o,x)],rfl⟩
 .obtain⟨p,a,c,f,e1,B,hn,ha,T,C,G,rfl⟩:=j;rw[bu] at p;subst p;exact q a c i f e1 B hn ha C G
def Sh.ne(h:Sh b r):b=0↔r=[]:=by
 cases h with
 |nil=>exact⟨λ_=>rfl,λ_=>rfl⟩
 |snoc _ _=>exact⟨λz=>by lia,λz=>by simp at z⟩
def X1:∀ds M Q,w4 ds M Q->tJ 6 3 (pH jc yv (cl sS)) ds M Q:=by
 rintro ds M Q ⟨k,m,n,w,Y,C,E,h4,h5,q⟩
 subst Y;unfold pH;have f:=@uK;have O:=@afK;have T:=@Us;generalize hsk:skA jc (cl sS)=sk at T |-;generalize jc=gn at f |-;generalize yv=gb at O |-;have U:Rm M k m (M++[aa (.lst [])]) M.length [] (sT 0 w) n:=Rm.new E h4 C;refine⟨rfl,bD _,f (by decide) U.src λr M1 r0 r1 _ d1 s1=>?_⟩;have g:=U.go d1 s1;refine⟨⟨show-(2^62)<=1+r by lia,show 1+r<2^62 by lia⟩,trivial,?_⟩;refine iz (λi:Nat=>D.int (0+(i:Int))) (λa z G H=>a.length+z.length=(1+r).toNat/\∃(f:Fl) (u:Nat) (I A:Option D),Sh a.length (f.map dD)/\(a≠[]->Hd f)/\Rm M k m H M.length (jq w.length f) (sT 0 (w++mZ f)) u/\6*st f+u<=n+3*a.length+min 1 a.length/\G=[aa (.loc k),aa (.loc m),aa (.int 3),aa (.loc M.length),I,A]) (λ_ _ _ _ _=>trivial) _ [] _ _ ⟨?_,[],n- 1,ar,ar,.nil,λz=>absurd rfl z,?_,?_,rfl⟩ (λpre x xs G H o N hN=>?_) (λpre G H o=>?_)
 .rw[cU];show 0+_=_;lia
 .show Rm M k m M1 M.length [] (sT 0 (w++[])) (n- 1);rw[bu];exact g
 .show 6*0+(n- 1)<=_;lia
 .obtain⟨p,f0,u,I,A,s,J,g,ha,rfl⟩:=o;rw[aU] at p;refine O g.src λcs e ds n' M2 hb d2 hc hn s2=>?_;have C:=g.go d2 s2;have hfl:f0.length<=7*pre.length:=by have:=s.len;rwa [ao] at this
  have hbl:=hb.len;have hbf:=hb.few;have v:(cs++e::ds).length=cs.length+1+ds.length:=by rw[aE,aU];lia
  refine⟨_,rfl,rfl,?_⟩;refine T (λ_=>rfl) C (by rw[v];lia) h5 λB n3 M3 A e1 E g1 L g3 g4=>hN _ _ ⟨?_,f0++B,n3,_,_,?_,?_,E,?_,rfl⟩
  .rw[aE];show _+1+_=_;lia
  .rw[aE,ba,e1];exact .snoc s hb
  .intro _;by_cases h:f0=[]
   .obtain⟨b,y,r,rfl⟩:=g4 h (by simp);subst h;exact⟨b,y,r,rfl⟩
   .have o:pre≠[]:=λz=>h (by have:=(s.ne).mp (by rw[z];rfl);cases f0 with|nil=>rfl|cons _ _=>cases this);obtain⟨b,y,r,rfl⟩:=J o;exact⟨b,y,r++B,rfl⟩
  .rw[hb.dc] at L;have e2:B.length=cs.length+1+ds.length:=by rw[<-v,<-e1,ao]
   have e3:=NU B;rw[zp,aE,dn];by_cases h:f0=[]
   .have o:pre.length=0:=(s.ne).mpr (by rw[h];rfl);rw[if_pos h] at L;lia
   .rw[if_neg h] at L;lia
 .obtain⟨p,f0,u,I,A,s,J,g,ha,rfl⟩:=o;have p:pre.length+0=(1+r).toNat:=p;have:=g.lr;have:=g.k0;have:=g.m0;refine⟨M.length,_,rfl,g.e,q f0 pre.length u _ s (by lia) (J λz=>by rw[z] at p;simp at p;lia) (by lia) (g.src.of (aJ (by lia))) ((aJ (by exact dh this)).trans g.em) (by simpa using g.len) λj a b c=>(aJ (by exact dh a)).trans (g.ZG j a b c)⟩
inductive So
 |c
 |n
 |t
 deriving DecidableEq
noncomputable def Sk.so:Sk->So
 |.numbers _=>.n|.table _=>.t|_=>.c
noncomputable def soD:So->D
 |.c=>.tup []|.n=>.tup [.str gr]|.t=>.tup [.str hJ]
theorem Md:∀(i:Nat) (a:List Sk),sT i a=(a.zipIdx i).map λp=>XZ p.2 p.1
 |_,[]=>rfl
 |i,s::r=>by show XZ i s::sT (i+1) r=_;rw[Md];rfl
noncomputable def tN(a:List Sk)(t:So):List Nat:=((a.zipIdx).filter λp=>decide (p.1.so=t)).map dD
def Ut{j i:Nat}(h:(tN a t)[j]?=aa i):∃s,a[i]?=aa s/\s.so=t:=by
 unfold tN at h;rw[bh] at h;cases e:((a.zipIdx).filter λp=>decide (p.1.so=t))[j]? with
 |none=>rw[e] at h;cases h
 |some p=>
  rw[e] at h;cases h;have hm:=gf.mp (bA e);obtain⟨s,i⟩:=p;refine⟨s,?_,of_decide_eq_true hm.2⟩;have:=List.mem_zipIdx_iff_getElem?.mp hm.1;simpa using this
def Qj(h:tN a t=[]):∀s∈a,s.so≠t:=by intro s b e;obtain⟨i,hi⟩:=cN.mp b;have:(s,i)∈a.zipIdx:=List.mem_zipIdx_iff_getElem?.mpr (by simpa using hi);have:i∈tN a t:=bP.mpr ⟨(s,i),gf.mpr ⟨this,decide_eq_true e⟩,rfl⟩;rw[h] at this;cases this
def zr:GN:=λds M Q=>∃(k m n:Nat) (a:List Sk) (t:So),ds=[.loc k,.loc m,soD t]/\Dr M k n/\M[m]?=aa (aa (.lst (sT 0 a)))/\a.length<=1000/\((∀s∈a,s.so≠t)->Q .non M)/\
 ∀(i:Nat) (s:Sk) (c:Nat) (b:Ms),a[i]?=aa s->s.so=t->Dr b k c->nW M b k->Q (.str (nm i)) b
def Jl:kx zr:=by rintro ds M P Q w ⟨k,m,n,e,t,f,g,h,j,o,p⟩;exact ⟨k,m,n,e,t,f,g,h,j,λa=>w _ _ (o a),λi s q r a b c d=>w _ _ (p i s q r a b c d)⟩
def Qk(s:Sk)(t:So)(q:Q (decide (s.so=t)) M):
  (Dh (ie (ij (AO au) (hV 1) (hV 2))) (yR (ie (ij Aq (hV 2) (i6 hX))) (ie (ij (AO ag) (hV 1) (i6 (hU (dC (.str gr)) (hU (dC (.str hJ)) hX))))))) [aa a,aa (.str s.kn),aa (soD t)] M Q:=by
 cases t<;>cases s<;>first
  |exact⟨_,rfl,q⟩
  |exact⟨_,rfl,bD _,q⟩
  |exact⟨_,rfl,bD _,aq rfl,_,rfl,q⟩
def X2:∀ds M Q,zr ds M Q->tJ 4 3 (Cn jc) ds M Q:=by
 rintro ds M Q ⟨k,m,n,c,t,o,q,u,H,v,w⟩
 subst o;have f:=@uK;have y:=iS u;generalize jc=I at f |-;refine⟨rfl,?_⟩;refine⟨sT 0 c,by rw[y];rfl,rfl,?_⟩;rw[Md];refine iU (st:=λA=>vw A _=vw M _) (λp:Sk×Nat=>XZ p.2 p.1) (λp=>.str (nm p.2)) (λp=>decide (p.1.so=t)) rfl _ [] ?_ (λx J L B=>?_) ?_
 .rw[fj,bp];show 0+_<=_;exact Nat.add_le_add (aq rfl) H
 .obtain⟨s,i⟩:=x;refine⟨rfl,rfl,?_⟩;refine Qk s t ?_;have:=B [aa (.str (nm i)),aa (.str s.kn),aa (soD t)] rfl;cases e:decide (s.so=t) with
  |true=>rw[e] at this;exact this
  |false=>rw[e] at this;exact this
 .have e1:[]++((c.zipIdx).filter λp=>decide (p.1.so=t)).map (λp=>D.str (nm p.2))=(tN c t).map λi=>D.str (nm i):=by unfold tN;rw[bx];rfl
  rw[e1];refine⟨bD _,?_⟩;show(if((tN c t).map λi=>D.str (nm i)).isEmpty=ag then _ else _);by_cases g:tN c t=[]
  .rw[g];exact v (Qj g)
  .have N:(tN c t).length≠0:=λz=>g (ah4.mp z);rw[if_neg (by cases e:tN c t with|nil=>exact absurd e g|cons _ _=>exact aS)];refine⟨(tN c t).length,by show aa _=_;rw[ao],f (by lia) q λr M1 C O _ E s1=>?_⟩;obtain⟨j,rfl⟩:=cn C;have G:j<(tN c t).length:=by exact Int.ofNat_lt.mp O
   have h:=ax G;obtain⟨s,a,b⟩:=Ut h;exact Um h (w _ s _ M1 a b E s1)
noncomputable def Jm:Rw->Option So
 |.mark _ _=>ar|.numbers _=>aa .n|.table _=>aa .t|_=>aa .c
structure Il(ks:List Sk)(s:Sk)(r:Rw):Prop where
 ok:r.ok=ag
 so:Jm r=aa s.so
 go:s.end=ag->r.Ly=au
 al:∀w∈r.ZF,∃i s',ks[i]?=aa s'/\w=nm i/\∀a,Jm a=aa s'.so->oA r a=ag
def Me:GN:=λds M Q=>∃(s:Sk) (k m n:Nat) (a:List Sk),ds=[s.d,.loc k,.loc m]/\s.ok=ag/\Dr M k n/\k≠m/\M[m]?=aa (aa (.lst (sT 0 a)))/\a.length<100/\(∃s∈a,s.so=.c)/\
 ∀(r:Rw) (e:Nat) (b:Ms),Il a s r->Dr b k e->nW M b k->Q r.d b
def Jn:kx Me:=by rintro ds M P Q w ⟨s,k,m,n,e,f,g,h,i,j,o,p,q⟩;exact ⟨s,k,m,n,e,f,g,h,i,j,o,p,λr u v a b c=>w _ _ (q r u v a b c)⟩
def afL{k m n:Nat}{a:List Sk}{t:So}{M:Ms}{Q:DK}(c:Dr M k n)(e:M[m]?=aa (aa (.lst (sT 0 a))))(j:a.length<100)(f:(∀s∈a,s.so≠t)->Q .non M)
(g:∀(i:Nat) (s:Sk) (h:Nat) (b:Ms),a[i]?=aa s->s.so=t->Dr b k h->nW M b k->Q (.str (nm i)) b):zr [.loc k,.loc m,soD t] M Q:=⟨k,m,n,a,t,rfl,c,e,by exact bG (dF j) (Nat.le_add_left _ _),f,g⟩
def NV{e:List Sk}(hi:e[i]?=aa b)(f:b.so=.c)(hm:∀a:Rw,oA r a=a.code):∃j b,e[j]?=aa b/\nm i=nm j/\∀a,Jm a=aa b.so->oA r a=ag:=⟨i,b,hi,rfl,λa ha=>by rw[hm];rw[f] at ha;cases a<;>first|rfl|cases ha⟩
def X3:∀ds M Q,Me ds M Q->tJ 5 3 (qE zr jc) ds M Q:=by
 rintro ds M Q ⟨s,k,m,n,u,h1,A,e,ZH,G,L,⟨sc,B,T⟩,q⟩
 subst h1;have f:=@uK;have N:=λ{M n t Q}=>@afL k m n u t M Q;have H:∀{i g},u[i]?=aa g->oS (nm i)=ag:=λh=>XX _ (gC (ak.mp h).1 L);have I:∀{xs Y:List D} {M:Ms} {Q:DK},xs≠[]->xs.length+Y.length<=aO->Q (.tup (xs++Y)) M->iW (.tup xs) (.tup Y) M Q:=λa b c=>⟨a,b,c⟩;unfold qE;generalize iW=gq at I |-;generalize jc=gn at f |-;generalize zr=gp at N |-;refine⟨rfl,?_⟩;cases s with
 |set b c=>walk_at "f";exact q (.set b c) n M ⟨A,rfl,(λz=>nomatch z),(λw hw=>nomatch hw)⟩ e nW.refl
 |add b c=>walk_at "f";exact q (.add b c) n M ⟨A,rfl,(λz=>nomatch z),(λw hw=>nomatch hw)⟩ e nW.refl
 |take b c=>walk_at "f";exact q (.take b c) n M ⟨A,rfl,(λz=>nomatch z),(λw hw=>nomatch hw)⟩ e nW.refl
 |say b=>walk_at "f";exact q (.say b) n M ⟨A,rfl,(λz=>nomatch z),(λw hw=>nomatch hw)⟩ e nW.refl
 |ask b=>walk_at "f";exact q (.ask b) n M ⟨A,rfl,(λz=>nomatch z),(λw hw=>nomatch hw)⟩ e nW.refl
 |back=>walk_at "f";exact q .back n M ⟨rfl,rfl,λ_=>rfl,(λw hw=>nomatch hw)⟩ e nW.refl
 |stop=>walk_at "f";exact q .stop n M ⟨rfl,rfl,λ_=>rfl,(λw hw=>nomatch hw)⟩ e nW.refl
 |numbers ns=>walk_at "f";exact q (.numbers ns) n M ⟨A,rfl,(λz=>nomatch z),(λw hw=>nomatch hw)⟩ e nW.refl
 |jump=>
  walk_at "f";refine N (t:=.c) e G L (λz=>absurd T (z sc B)) λi g C o hi v y s1=>?_;exact⟨aq rfl,I (di _ _) (aq rfl) (q (.jump (nm i)) C o ⟨H hi,rfl,λ_=>rfl,λw hw=>by rw[bj.mp hw];exact NV hi v λ_=>rfl⟩ y s1)⟩
 |jumpif b=>
  walk_at "f";refine N (t:=.c) e G L (λz=>absurd T (z sc B)) λi g C o hi v y s1=>?_;exact⟨aq rfl,I (di _ _) (aq rfl) (q (.jumpif b (nm i)) C o ⟨by show(nO b&&oS (nm i))=ag;rw[H hi,show nO b=ag from A];rfl,rfl,(λz=>nomatch z),λw hw=>by rw[bj.mp hw];exact NV hi v λ_=>rfl⟩ y s1)⟩
 |call=>
  walk_at "f";refine N (t:=.c) e G L (λz=>absurd T (z sc B)) λi g C o hi v y s1=>?_;exact⟨aq rfl,I (di _ _) (aq rfl) (q (.call (nm i)) C o ⟨H hi,rfl,(λz=>nomatch z),λw hw=>by rw[bj.mp hw];exact NV hi v λ_=>rfl⟩ y s1)⟩
 |load b c=>
  have hb:nO b=ag/\nO c=ag:=by have:(nO b&&nO c)=ag:=A;exact aZ _ _▸this
  walk_at "f";refine N (t:=.n) e G L (λ_=>?_) λi g C o hi v y s1=>?_
  .exact⟨aq rfl,q .stop n M ⟨rfl,rfl,(λ_=>rfl),(λw hw=>nomatch hw)⟩ e nW.refl⟩
  .refine⟨aq rfl,I (di _ _) (aq rfl) (q (.load b c (nm i)) C o ⟨by show(nO b&&nO c&&oS (nm i))=ag;rw[H hi,hb.1,hb.2];rfl,rfl,(λz=>nomatch z),λw hw=>⟨i,g,hi,bj.mp hw,λa ha=>?_⟩⟩ y s1)⟩;rw[v] at ha;cases a<;>first|rfl|cases ha
 |jumpby b=>
  walk_at "f";refine N (t:=.t) e G L (λ_=>?_) λi g C o hi v y s1=>?_
  .exact⟨aq rfl,q .stop n M ⟨rfl,rfl,(λ_=>rfl),(λw hw=>nomatch hw)⟩ e nW.refl⟩
  .refine⟨aq rfl,I (di _ _) (aq rfl) (q (.jumpby b (nm i)) C o ⟨by show(nO b&&oS (nm i))=ag;rw[H hi,show nO b=ag from A];rfl,rfl,(λ_=>rfl),λw hw=>⟨i,g,hi,bj.mp hw,λa ha=>?_⟩⟩ y s1)⟩;rw[v] at ha;cases a<;>first|rfl|cases ha
 |alike b=>
  have hv:vw M (.loc m)=.lst (sT 0 u):=iS G;have Vd:0<u.length:=List.length_pos_of_mem B;walk_at "f";refine⟨sT 0 u,by rw[hv];rfl,rfl,?_⟩;rw[Md];refine iI (st:=λo=>vw o (D.loc m)=vw M (D.loc m)) (λp:Sk×Nat=>XZ p.2 p.1) (λp=>.str (nm p.2)) rfl _ [] ?_ (λx hx Kk hK=>⟨rfl,rfl,hK [aa (.str (nm x.2)),aa (.str x.1.kn)] rfl⟩) ?_
  .rw[fj,bp];show 0+_<=_;lia
  .skip
   have el:([]++u.zipIdx.map λp:Sk×Nat=>D.str (nm p.2)).length=u.length:=by simp
   have ei:∀j:Nat,j<u.length->∃g,u[j]?=aa g/\C8 ([]++u.zipIdx.map λp:Sk×Nat=>D.str (nm p.2)) (j:Int)=aa (.str (nm j)):=λj J=>⟨u[j],ax J,DR (by simp[J])⟩;refine⟨u.length,congrArg aa el,f (by exact Int.ofNat_lt.mpr Vd) e λr M1 r0 r1 _ y s1=>?_⟩;obtain⟨j,rfl⟩:=cn r0;obtain⟨s1',O,hj2⟩:=ei j (by exact Int.ofNat_lt.mp r1);refine⟨_,hj2,aq rfl,I (di _ _) (aq rfl) ?_⟩;refine⟨u.length,congrArg aa el,f (by exact Int.ofNat_lt.mpr Vd) y λr M2 r0 r2 _ d2 s2=>?_⟩;obtain⟨i,rfl⟩:=cn r0;obtain⟨s2',Y5,Sb⟩:=ei i (by exact Int.ofNat_lt.mp r2);refine⟨_,Sb,aq rfl,I (di _ _) (aq rfl) (q (.alike b (nm j) (nm i)) _ M2 ⟨?_,rfl,(λz=>nomatch z),λw hw=>?_⟩ d2 (s1.trans s2))⟩
   .show(nO b&&oS (nm j)&&oS (nm i))=ag;rw[H O,H Y5,show nO b=ag from A];rfl
   .rcases aH.mp hw with rfl|hw
    .exact⟨j,_,O,rfl,λ_ _=>rfl⟩
    .exact⟨i,_,Y5,bj.mp hw,λ_ _=>rfl⟩
 |table c=>
  have hc:1<=c/\c<=3:=by have:(decide (1<=c)&&decide (c<=3))=ag:=A;simpa using this
  walk_at "f";refine⟨⟨show-(2^62)<=(c:Int) by lia,show(c:Int)<2^62 by lia⟩,trivial,?_⟩;refine rE (λj acc o=>∃(ws:List aY) (U:Nat),acc=ws.map .str/\ws.length=j/\(∀w∈ws,∃i g,u[i]?=aa g/\w=nm i/\g.so=.c)/\Dr o k U/\nW M o k) (λ_ _ _ _=>trivial) _ 0 [] _ ⟨[],n,rfl,rfl,(λw hw=>nomatch hw),e,nW.refl⟩ ?_ (λj x acc M2 hx hp Kk hK=>?_) (λacc M2 hp=>?_)
  .show 0+(wA 0 (c:Int).toNat).length<=aO;unfold wA;rw[ao,cU,bp];lia
  .obtain⟨ws,U,rfl,J,hw,hd,v⟩:=hp;walk_at "f";refine N (t:=.c) hd ((v.2 m (ak.mp G).1 (b8 ZH)).trans G) L (λz=>absurd T (z sc B)) λi g C o hi Ff y s1=>hK _ _ _ rfl ⟨ws++[nm i],C,?_,?_,?_,y,v.trans s1⟩
   .rw[ba];rfl
   .simp;lia
   .intro w E;rcases bt.mp E with E|E
    .exact hw w E
    .exact⟨i,g,hi,bj.mp E,Ff⟩
  .obtain⟨ws,U,rfl,J,hw,hd,v⟩:=hp;replace J:ws.length=0+(wA 0 (c:Int).toNat).length:=J;unfold wA at J;rw[ao,cU] at J;refine⟨aq rfl,q (.table ws) U M2 ⟨?_,rfl,(λz=>nomatch z),λw E=>?_⟩ hd v⟩
   .show(decide (1<=ws.length)&&decide (ws.length<=60)&&ws.all oS)=ag;rw[show ws.all oS=ag from bT.mpr λw E=>by obtain⟨i,g,a,rfl,_⟩:=hw w E;exact H a];simp;lia
   .obtain⟨i,g,a,rfl,b⟩:=hw w E;exact NV a b λ_=>rfl
def qJ:GN:=λds M Q=>Me ds M Q\/∃(i:Nat) (b:Bool) (x y:D),ds=[Dc i b,x,y]/\Q (Dc i b) M
def GG:kx qJ:=λds M P Q w h=>h.elim (λh=>.inl (Jn ds M P Q w h)) λ⟨i,b,x,y,h,q⟩=>.inr ⟨i,b,x,y,h,w _ _ q⟩
def Uu:∀ds M Q,qJ ds M Q->tJ 5 3 (qE zr jc) ds M Q:=λds M Q h=>h.elim (X3 ds M Q) λzq=>by obtain⟨i,b,x,y,h,q⟩:=zq;subst h;walk_at "f";exact q
inductive Ar(ks:List Sk):Nat->Fl->List Rw->Prop
 |nil {i:Nat}:Ar ks i [] []
 |plain {i:Nat} {s:Sk} {r:Rw} {f:Fl} {rs:List Rw}:Il ks s r->Ar ks i f rs->Ar ks i ((ar,s)::f) (r::rs)
 |mark {i:Nat} {b:Bool} {s:Sk} {r:Rw} {f:Fl} {rs:List Rw}:Il ks s r->Ar ks (i+1) f rs->Ar ks i ((aa b,s)::f) (.mark (nm i) b::r::rs)
def Uv(e:s.ok=ag)(f:Dr M k n)(g:k≠m)(h:M[m]?=aa (aa (.lst (sT 0 a))))(i:a.length<100)(j:∃s∈a,s.so=.c)
(q:∀(r:Rw) (o:Nat) (b:Ms),Il a s r->Dr b k o->nW M b k->Q r.d b):qJ [s.d,.loc k,.loc m] M Q:=.inl ⟨s,k,m,n,a,rfl,e,f,g,h,i,j,q⟩
def X6(q:Q (Rw.mark (nm i) b).d M):qJ [Dc i b,x,y] M Q:=.inr ⟨i,b,x,y,rfl,q⟩
theorem CK{st:Ms->Prop}(g:k≠m)(v:x.length<100)(w:∃s∈x,s.so=.c)(hm:y[m]?=aa (aa (.lst (sT 0 x))))(h:∀M,nW y M k->st M):∀(f:Fl) (i n:Nat) (acc:List D) (M:Ms),(∀p∈f,p.2.ok=ag)->acc.length+2*f.length<=1000->Dr M k n->nW y M k->
  (∀(rs:List Rw) (j:Nat) (e:Ms),Ar x i f rs->Dr e k j->nW y e k->Q (acc++rs.map Rw.d) e)->
  ri [ar,aa 6,aa 1] (ib 0) oO (iJ qJ (hU (hV 0) (hU (hV 1) (hU (hV 2) hX)))) st Q (jq i f) acc [ar,aa (.loc k),aa (.loc m)] M
 |[],i,n,acc,M,_,_,hd,a,q=>by have:=q [] n M .nil hd a;rw[gz,bu] at this;exact this
 | (ar,s)::f,i,n,acc,M,o,z,hd,a,q=>by have J:acc.length+2*(f.length+1)<=1000:=z;have L:=bp;refine Uv (o _ aN) hd g ((a.2 m (ak.mp hm).1 (b8 g)).trans hm) v w λr j e ha A B=>?_;have u:=a.trans B;refine⟨h _ u,by lia,CK g v w hm h f i j _ e (λp C=>o p (aB _ C)) (by rw[aE];show _+1+_<=_;lia) A u λrs E M2 G H I=>?_⟩;have:=q _ E M2 (.plain ha G) H I;rw[bi];exact this
 | (aa b,s)::f,i,n,acc,M,o,z,hd,a,q=>by have J:acc.length+2*(f.length+1)<=1000:=z;have L:=bp;refine X6 ⟨h _ a,by lia,?_⟩;refine Uv (o _ aN) hd g ((a.2 m (ak.mp hm).1 (b8 g)).trans hm) v w λr j e ha A B=>?_;have u:=a.trans B;refine⟨h _ u,by rw[aE];show _+1<_;lia,CK g v w hm h f (i+1) j _ e (λp C=>o p (aB _ C)) (by rw[aE,aE];show _+1+1+_<=_;lia) A u λrs E M2 G H I=>?_⟩;have:=q _ E M2 (.mark ha G) H I;rw[bi,bi];exact this
theorem Jo(k w:aY)(v:β):∀l:List (aY×β),iC w (l.map λx=>if x.1=k then(x.1,v) else x)=if w=k then(iC w l).map (λ_=>v) else iC w l
 |[]=>by simp[iC]
 | (x,u)::l=>by
  have a:=Jo k w v l;rw[bq];by_cases h:x=k
  .subst h;rw[if_pos rfl];unfold iC;by_cases z:x=w
   .subst z;rw[if_pos rfl,if_pos rfl,if_pos rfl];rfl
   .rw[if_neg z,if_neg z,a]
  .rw[if_neg h];unfold iC;by_cases z:x=w
   .subst z;rw[if_pos rfl,if_pos rfl,if_neg h]
   .rw[if_neg z,if_neg z,a]
theorem CL(w k:aY)(v:β):∀l:List (aY×β),iC w (l++[(k,v)])=(iC w l).or (if k=w then aa v else ar)
 |[]=>by simp[iC]
 | (x,u)::l=>by
  rw[eU];unfold iC;by_cases z:x=w
  .rw[if_pos z,if_pos z];rfl
  .rw[if_neg z,if_neg z,CL w k v l]
def Jp(w k:aY)(v:β)(l:List (aY×β)):iC w (uH k v l)=if w=k then aa v else iC w l:=by
 unfold uH;split
 .rename_i h;rw[Jo];split
  .rename_i e;subst e;cases q:iC w l with
   |none=>rw[q] at h;cases h
   |some u=>rfl
  .rfl
 .rename_i h;rw[CL];by_cases e:w=k
  .subst e;cases q:iC w l with
   |none=>rfl
   |some u=>rw[q] at h;exact absurd rfl h
  .rw[if_neg e,if_neg λz=>e z.symm];cases iC w l<;>rfl
theorem AW:∀{l:List (aY×β)},(l.map aQ).Nodup->(w,v)∈l->iC w l=aa v
 |[],_,h=>by cases h
 | (x,u)::l,nd,h=>by
  rw[bq,dw] at nd;unfold iC;rcases aH.mp h with e|h
  .cases e;rw[if_pos rfl]
  .rw[if_neg λe=>nd.1 (by rw[e];exact bP.mpr ⟨_,h,rfl⟩)];exact AW nd.2 h
theorem fold_at(S:List Mk):∀(ms:List Mk) (l:List (aY×Pl)),(∀m∈ms,m∈S)->(∀w p,iC w l=aa p->∃b,(w,b,p)∈S)->(∀w p,iC w (ms.foldl lQ l)=aa p->∃b,(w,b,p)∈S)/\(∀w,(iC w l).isSome=ag\/w∈ms.map aQ->(iC w (ms.foldl lQ l)).isSome=ag)
 |[],l,_,h=>⟨h,λw z=>z.elim id λz=>nomatch z⟩
 |m::ms,l,c,h=>by
  have key:(∀w p,iC w (lQ l m)=aa p->∃b,(w,b,p)∈S)/\∀w,(iC w l).isSome=ag\/w=m.1->(iC w (lQ l m)).isSome=ag:=by
   unfold lQ;split
   .refine⟨λw p e=>?_,λw z=>?_⟩
    .rw[Jp] at e;by_cases hw:w=m.1
     .rw[if_pos hw] at e;cases e;exact⟨m.2.1,by rw[hw];exact c m aN⟩
     .rw[if_neg hw] at e;exact h w p e
    .rw[Jp];by_cases hw:w=m.1
     .rw[if_pos hw];rfl
     .rw[if_neg hw];exact z.resolve_right hw
   .rename_i hn;refine⟨h,λw z=>z.elim id λz=>?_⟩;rw[z];cases q:(iC m.1 l).isSome with
    |true=>rfl
    |false=>rw[q] at hn;exact absurd (by simp) hn
  obtain⟨a,b⟩:=fold_at S ms _ (λx f=>c x (aB _ f)) key.1;refine⟨a,λw z=>b w ?_⟩;rcases z with z|z
  .exact .inl (key.2 w (.inl z))
  .rcases aH.mp z with z|z
   .exact .inl (key.2 w (.inr z))
   .exact .inr z
def Ql(h:w∈ms.map aQ):∃p b,iC w (placesOf ms)=aa p/\(w,b,p)∈ms:=by obtain⟨a,b⟩:=fold_at ms ms [] (λ_ h=>h) (λw p e=>nomatch e);obtain⟨p,e⟩:=cY.mp (b w (.inr h));obtain⟨x,c⟩:=a w p e;exact⟨p,x,e,c⟩
set_option tactic.hygienic true in
theorem GH:∀{rs:List Rw} {k:Nat},(w,b,p)∈jJ n k rs->∃j i,p=(n,k+i)/\rs[j]?=aa (.mark w b)/\(bare rs)[i]?=iR (rs.drop (j+1))
 |[],k,h=>by cases h
 |r::rs,k,h=>by
  cases hm:r.jj with
  |false=>
   rw[FJ.mM hm] at h;obtain⟨j,i,e1,e2,e3⟩:=GH h;refine⟨j+1,i+1,by rw[e1,show k+1+i=k+(i+1) by lia],e2,?_⟩;unfold bare;rw[bN,if_pos (by rw[hm];rfl)];exact e3
  |true=>
   cases r<;>first|cases hm|skip
   rename_i a c;have hb:bare (.mark a c::rs)=bare rs:=rfl;rcases aH.mp h with e|h
   .cases e;refine⟨0,0,rfl,rfl,?_⟩;have:∀rs:List Rw,(bare rs)[0]?=iR rs:=by
     intro rs;induction rs with
     |nil=>rfl
     |cons r rs f=>
      unfold bare iR;rw[bN];cases r.jj with
      |true=>exact f
      |false=>rfl
    exact this rs
   .obtain⟨j,i,e1,e2,e3⟩:=GH h;exact⟨j+1,i,e1,e2,e3⟩
def Ae:m∈jK c↔∃p∈c,m∈jJ p.1 0 p.2:=by unfold jK;rw[List.mem_flatMap];exact⟨λzq=>by obtain⟨p,a,b⟩:=zq;exact ⟨p,(jk c).mem_iff.mp a,b⟩,λzq=>by obtain⟨p,a,b⟩:=zq;exact ⟨p,(jk c).mem_iff.mpr a,b⟩⟩
theorem CM:∀{rs:List Rw} {k:Nat},Rw.mark w b∈rs->∃p,(w,b,p)∈jJ n k rs
 |r::rs,k,h=>by
  rcases aH.mp h with e|a
  .subst e;exact⟨_,aN⟩
  .cases hm:r.jj with
   |false=>rw[FJ.mM hm];exact CM a
   |true=>
    cases r<;>first|cases hm|skip
    obtain⟨p,c⟩:=CM a;exact⟨p,aB _ c⟩
noncomputable def sn:List Rw->List aY
 |[]=>[]
 |.mark w ag::rs=>w::sn rs
 |_::rs=>sn rs
set_option tactic.hygienic true in
theorem yw(n:aY):∀(rs:List Rw) (k:Nat),(iX (jJ n k rs)).map aQ=sn rs
 |[],k=>rfl
 |r::rs,k=>by
  cases hm:r.jj with
  |false=>
   rw[FJ.mM hm,yw n rs];cases r<;>first|(cases hm;done)|rfl
  |true=>
   cases r<;>first|cases hm|skip
   rename_i w b;cases b with
   |true=>show w::(iX _).map aQ=w::sn rs;rw[yw n rs]
   |false=>exact yw n rs k
abbrev Jq(a:List Pt):List aY:=a.flatMap λp=>sn p.2
def ZJ(a:List Pt):((iX (jK a)).map aQ).Perm (Jq a):=by
 have e:∀l:List Pt,(iX (l.flatMap λp=>jJ p.1 0 p.2)).map aQ=Jq l:=by
  intro l;induction l with
  |nil=>rfl
  |cons p l b=>
   unfold iX Jq at*;rw[eL,gJ,ba,b];congr 1;exact yw p.1 p.2 0
 unfold jK;rw[e];exact(jk a).flatMap_right _
def AD (c:List Sk):List Rw->Prop
 |[]=>True
 |.mark w b::rs=>(∃i s a,c[i]?=aa s/\w=nm i/\iR rs=aa a/\Jm a=aa s.so)/\AD c rs
 |_::rs=>AD c rs
def AD.tl(h:AD a (r::rs)):AD a rs:=by cases r<;>first|exact h.2|exact h
theorem AD.at:∀{rs:List Rw} {j:Nat},AD c rs->rs[j]?=aa (.mark w b)->∃i s a,c[i]?=aa s/\w=nm i/\iR (rs.drop (j+1))=aa a/\Jm a=aa s.so
 |r::rs,0,h,e=>by cases e;exact h.1
 |r::rs,j+1,h,e=>AD.at (rs:=rs) h.tl e
def yx(rs:List Rw):(bare rs).length+FJ.jX rs=rs.length:=by
 unfold bare FJ.jX;induction rs with
 |nil=>rfl
 |cons r rs a=>rw[bN,bN];cases r.jj<;>simp<;>lia
structure Gd(ks:List Sk)(c:Nat)(ps:List Pt):Prop where
 lo:1<=ps.length
 hi:ps.length<=4
 w:∀p∈ps,oS p.1=ag
 nd1:(ps.map aQ).Nodup
 o1:∀p∈ps,1<=(bare p.2).length
 o2:∀p∈ps,(bare p.2).length<=21
 m:∀p∈ps,FJ.jX p.2<=21+c
 ok:∀p∈ps,∀r∈p.2,r.ok=ag
 ends:∀p∈ps,kt p.2=ag
 Zr:∀p∈ps,AD ks p.2
 al:∀p∈ps,∀r∈p.2,∀w∈r.ZF,∃i s',ks[i]?=aa s'/\w=nm i/\∀a,Jm a=aa s'.so->oA r a=ag
 has:∀i s,ks[i]?=aa s->∃p∈ps,∃b,Rw.mark (nm i) b∈p.2
 nd:(Jq ps).Nodup
 few:(Jq ps).length<=56+c
 Qm:ks.length<100
theorem Mf(f:Pt->Int)(B:Int):∀l:List Pt,(∀p∈l,f p<=B)->(l.map f).sum<=B*l.length
 |[],_=>by simp
 |p::l,h=>by have b:=Mf f B l λq a=>h q (aB _ a);have c:=h p aN;rw[bq,List.sum_cons,aU,show((l.length+1:Nat):Int)=(l.length:Int)+1 by exact rfl,Int.mul_add];lia
def Gd.lk(g:Gd f c b)(hc:c<=4):XI b:=by
 have e:∀p∈b,FJ.zm p.2=(bare p.2).length:=λp a=>by have:=yx p.2;unfold FJ.zm;lia
 have h:=g.hi;refine⟨⟨g.lo,by exact bG h (Nat.le_add_left _ _),λp a=>⟨g.w p a,by rw[e p a];exact g.o1 p a,by rw[e p a];have:=g.o2 p a;exact bG this (Nat.le_add_left _ _),by have:=yx p.2;have:=g.o2 p a;have:=g.m p a;lia⟩,g.nd1,?_,?_⟩,g.ok,g.ends⟩
 .have:=Mf (λp=>(FJ.zm p.2:Int)) 21 b λp a=>by have:=g.o2 p a;have:=e p a;lia
  lia
 .have:=Mf (λp=>(FJ.jX p.2:Int)) 25 b λp a=>by have:=g.m p a;lia
  lia
def Gd.len(g:Gd e c b)(a:p∈b):p.2.length<=42+c:=by have:=yx p.2;have:=g.o2 p a;have:=g.m p a;lia
def Gd.ml(g:Gd i c a)(hc:c<=4):(jK a).length<=1000:=by
 have b:=g.hi;have:∀l:List Pt,(∀p∈l,p.2.length<=80)->(l.flatMap λp=>jJ p.1 0 p.2).length<=80*l.length:=by
  intro l;induction l with
  |nil=>intro _;exact aD _
  |cons p l e=>
   intro h;have j:=e λq f=>h q (aB _ f);have m:=h p aN;have n:=FJ.qI p.1 0 p.2;rw[eL,aE,aU];lia
 have h:=this _ λp b=>by have:=g.len ((jk a).mem_iff.mp b);lia
 rw[(jk a).length_eq] at h;unfold jK;lia
def EU(nd:(a.map aQ).Nodup)(b:p∈a):iC p.1 (iY a)=aa (bare p.2):=by refine AW ?_ (bP.mpr ⟨p,(jk a).mem_iff.mpr b,rfl⟩);unfold iY;rw[bx];exact((jk a).map aQ).nodup_iff.mpr nd
def Gd.lb(g:Gd H c f)(hc:c<=4):vW f:=by
 refine⟨g.lk hc,g.ml hc,⟨(ZJ f).nodup_iff.mpr g.nd,.inl (by rw[(ZJ f).length_eq];have:=g.few;lia),g.ml hc⟩,λp s=>⟨bare p.2,EU g.nd1 s,?_⟩⟩;refine bT.mpr λr v=>bT.mpr λw hw=>?_;obtain⟨i,x,h,rfl,y⟩:=g.al p s r (gf.mp v).1 w hw;obtain⟨q,z,b,hb⟩:=g.has i x h;obtain⟨pl,A⟩:=CM hb;obtain⟨m,b2,e1,e2⟩:=Ql (bP.mpr ⟨_,Ae.mpr ⟨q,z,A⟩,rfl⟩);obtain⟨u,e,n⟩:=Ae.mp e2;obtain⟨j,B,e3,e4,e5⟩:=GH n;obtain⟨I,s3,a,o,C,E,G⟩:=(g.Zr u e).at e4;have hi:=Uq (gC (ak.mp h).1 g.Qm) (gC (ak.mp o).1 g.Qm) C;subst hi;rw[h] at o;cases o;unfold ET;have e6:XR (iY f) m=aa a:=by unfold XR;rw[e3,EU g.nd1 e];show(bare u.2)[0+B]?=aa a;rw[bQ,e5,E]
 simp only [e1,e6];exact y a G
noncomputable def ins(m:Rw):Nat->List Rw->List Rw
 |0,rs=>m::rs
 |_+1,[]=>[m]
 |n+1,r::rs=>r::ins m n rs
theorem Uw(m:Rw):∀(n:Nat) (rs:List Rw),rs.take n++m::rs.drop n=ins m n rs
 |0,rs=>rfl
 |_+1,[]=>rfl
 |n+1,r::rs=>by show r::(rs.take n++m::rs.drop n)=r::ins m n rs;rw[Uw]
section
variable {w:aY} {b:Bool}
theorem GI:∀(n:Nat) (rs:List Rw),iR (ins (.mark w b) n rs)=iR rs
 |0,rs=>rfl
 |_+1,[]=>rfl
 |n+1,r::rs=>by show iR (r::ins _ n rs)=_;unfold iR;rw[GI n rs]
theorem CN:∀(n:Nat) (rs:List Rw),bare (ins (.mark w b) n rs)=bare rs
 |0,rs=>rfl
 |_+1,[]=>rfl
 |n+1,r::rs=>by show bare (r::ins _ n rs)=_;have a:=CN n rs;unfold bare at a |-;rw[bN,bN,a]
theorem Ux:∀(n:Nat) (rs:List Rw),FJ.jX (ins (.mark w b) n rs)=FJ.jX rs+1
 |0,rs=>rfl
 |_+1,[]=>rfl
 |n+1,r::rs=>by
  have a:=Ux n rs;show FJ.jX (r::ins _ n rs)=_;unfold FJ.jX at a |-;rw[bN,bN];split
  .rw[aU,a,aU]
  .exact a
theorem AX:∀(n:Nat) (rs:List Rw),x∈ins (.mark w b) n rs↔x=.mark w b\/x∈rs
 |0,rs=>aH
 |_+1,[]=>aH
 |n+1,r::rs=>by show x∈r::ins _ n rs↔_;rw[aH,AX n rs,aH];exact⟨λh=>h.elim (λh=>.inr (.inl h)) λh=>h.elim .inl λh=>.inr (.inr h),λh=>h.elim (λh=>.inr (.inl h)) λh=>h.elim .inl λh=>.inr (.inr h)⟩
theorem Jr:∀(n:Nat) (rs:List Rw),kt rs=ag->(iR (rs.drop n)).isSome=ag->kt (ins (.mark w b) n rs)=ag
 |0,rs,h,a=>by show((!au||_)&&(!ag||(iR rs).isSome)&&kt rs)=ag;rw[show(iR rs).isSome=ag from a,h];rfl
 |_+1,[],_,a=>nomatch a
 |n+1,r::rs,h,a=>by show kt (r::ins _ n rs)=ag;unfold kt at h |-;rw[GI];rw[aZ] at h |-;exact⟨h.1,Jr n rs h.2 a⟩
theorem Uy(hi:e[i]?=aa s)(hw:w=nm i)(ha:Jm a=aa s.so):∀(n:Nat) (rs:List Rw),AD e rs->iR (rs.drop n)=aa a->AD e (ins (.mark w b) n rs)
 |0,rs,h,c=>⟨⟨i,s,a,hi,hw,c,ha⟩,h⟩
 |_+1,[],_,c=>nomatch c
 |n+1,r::rs,h,c=>by
  have f:=Uy hi hw ha n rs h.tl c;cases r<;>first|exact f|skip
  obtain⟨⟨g,s2,a2,e1,e2,e3,e4⟩,_⟩:=h;exact⟨⟨g,s2,a2,e1,e2,by rw[GI];exact e3,e4⟩,f⟩
theorem Uz:∀(n:Nat) (rs:List Rw),(sn (ins (.mark w b) n rs)).Perm (if b=ag then w::sn rs else sn rs)
 |0,rs=>by cases b<;>exact .refl _
 |_+1,[]=>by cases b<;>exact .refl _
 |n+1,r::rs=>by
  have a:=Uz n rs;show(sn (r::ins _ n rs)).Perm _;have key:∀r:Rw,sn (r::rs)=sn rs/\sn (r::ins (.mark w b) n rs)=sn (ins (.mark w b) n rs)\/∃v,sn (r::rs)=v::sn rs/\sn (r::ins (.mark w b) n rs)=v::sn (ins (.mark w b) n rs):=by
   intro r;cases r with
   |mark v c=>cases c with
    |true=>exact .inr ⟨v,rfl,rfl⟩
    |false=>exact .inl ⟨rfl,rfl⟩
   |_=>exact .inl ⟨rfl,rfl⟩
  rcases key r with⟨e1,e2⟩|⟨v,e1,e2⟩
  .rw[e1,e2];exact a
  .rw[e1,e2];cases b with
   |false=>exact a.cons v
   |true=>exact(a.cons v).trans (.swap w v _)
end
def acP(h:a[q]?=aa p)(e:(sn b).Perm (l++sn p.2)):(Jq (a.set q (p.1,b))).Perm (l++Jq a):=by
 induction a generalizing q with
 |nil=>cases h
 |cons x a c=>
  cases q with
  |zero=>
   cases h;show(sn b++Jq a).Perm (l++(sn p.2++Jq a));rw[<-bi];exact e.append_right _
  |succ q=>
   show(sn x.2++Jq _).Perm (l++(sn x.2++Jq a));refine((c h).append_left (sn x.2)).trans ?_;rw[<-bi,<-bi];exact List.perm_append_comm.append_right _
theorem GJ:∀{rs:List Rw},w∈sn rs->Rw.mark w ag∈rs
 |r::rs,h=>by
  cases r with
  |mark v c=>cases c with
   |true=>
     rcases aH.mp h with rfl|h
     .exact aN
     .exact aB _ (GJ h)
   |false=>exact aB _ (GJ h)
  |_=>exact aB _ (GJ h)
theorem Gd.ins(g:Gd B c f){q n i:Nat}{p:Pt}{s:Sk}{a:Rw}{b:Bool}(y:f[q]?=aa p)(hi:B[i]?=aa s)(ha:iR (p.2.drop n)=aa a)(H:Jm a=aa s.so)
(hb:b=ag->∀p∈f,Rw.mark (nm i) ag∉p.2):Gd B (c+1) (f.set q (p.1,mS.ins (.mark (nm i) b) n p.2)):=by
 have u:=bA y;have I:(f.set q (p.1,mS.ins (.mark (nm i) b) n p.2)).map aQ=f.map aQ:=by
  rw[List.map_set];apply List.ext_getElem?;intro j;by_cases e:q=j
  .subst e;rw[bn (by rw[ao];exact(ak.mp y).1),bh,y];rfl
  .rw[aJ e]
 have all:∀{C:Pt->Prop},(∀x∈f,C x)->C _->∀x∈f.set q (p.1,mS.ins (.mark (nm i) b) n p.2),C x:=λJ L x o=>by
  rcases List.mem_or_eq_of_mem_set o with o|rfl
  .exact J x o
  .exact L
 have sp:(Jq (f.set q (p.1,mS.ins (.mark (nm i) b) n p.2))).Perm ((if b=ag then[nm i] else[])++Jq f):=acP y (by have:=Uz (w:=nm i) (b:=b) n p.2;cases b<;>exact this);refine⟨by rw[c9];exact g.lo,by rw[c9];exact g.hi,all g.w (g.w p u),by rw[I];exact g.nd1,all g.o1 (by rw[CN];exact g.o1 p u),all g.o2 (by rw[CN];exact g.o2 p u),all (λx o=>eM (g.m x o)) (by rw[Ux];exact fV (g.m p u)),all g.ok λr v=>?_,all g.ends (Jr n _ (g.ends p u) (by rw[ha];rfl)),all g.Zr (Uy hi rfl H n _ (g.Zr p u) ha),all g.al λr v=>?_,λj t M=>?_,?_,?_,g.Qm⟩
 .rcases(AX n _).mp v with rfl|v
  .exact XX i (gC (ak.mp hi).1 g.Qm)
  .exact g.ok p u r v
 .rcases(AX n _).mp v with rfl|v
  .intro w hw;cases hw
  .exact g.al p u r v
 .obtain⟨x,o,E,G⟩:=g.has j t M;obtain⟨N,A⟩:=cN.mp o;by_cases e:N=q
  .subst e;rw[y] at A;cases A;refine⟨_,bA (bn (ak.mp y).1),E,(AX n _).mpr (.inr G)⟩
  .exact⟨x,bA ((aJ (λz=>e z.symm)).trans A),E,G⟩
 .refine sp.nodup_iff.mpr ?_;cases b with
  |false=>exact g.nd
  |true=>
   refine dw.mpr ⟨λh=>?_,g.nd⟩;obtain⟨x,o,hw⟩:=List.mem_flatMap.mp h;exact hb rfl x o (GJ hw)
 .rw[sp.length_eq,aE];have:=g.few;cases b with
  |false=>show 0+_<=_;lia
  |true=>show 1+_<=_;lia
def es:List Sk->Prop
 |[]=>True
 |s::r=>(s.end=ag\/s.code=au\/∃t a,r=t::a/\t.code=ag)/\es r
theorem Mg(b:e.code=ag)(a:e.end=ag)(hd:ds=[]\/∃x,ds=[x]/\x.code=au)(ht:es tl):∀cs:List Sk,(∀s∈cs,s.code=ag)->es (cs++(e::ds)++tl)
 |[],_=>by
  rcases hd with rfl|⟨x,rfl,c⟩
  .exact⟨.inl a,ht⟩
  .exact⟨.inl a,.inr (.inl c),ht⟩
 |[s],h=>⟨.inr (.inr ⟨e,_,rfl,b⟩),Mg b a hd ht [] λ_ h=>nomatch h⟩
 |s::t::cs,h=>⟨.inr (.inr ⟨t,_,rfl,h t (aB _ aN)⟩),Mg b a hd ht _ λx c=>h x (aB _ c)⟩
theorem Sh.es(h:Sh b r):∀tl,mS.es tl->mS.es (r++tl):=by
 induction h with
 |nil=>exactλtl h=>h
 |snoc f a e=>exactλtl ht=>by rw[bi];exact e _ (Mg a.ec a.ee a.d ht _ a.c)
theorem Sh.ok(h:Sh b r):∀s∈r,s.ok=ag:=by
 induction h with
 |nil=>exactλ_ h=>nomatch h
 |snoc f a c=>exactλs e=>(bt.mp e).elim (c s) (a.ok s)
def oB(h:Jm r=aa o):r.jj=au:=by cases r<;>first|rfl|cases h
def UA{s:Sk}(h:Jm r=aa s.so)(a:s.code=ag):r.code=ag:=by
 have:s.so=.c:=by cases s<;>first|rfl|cases a
 rw[this] at h;cases r<;>first|rfl|cases h
def Qn{s:Sk}(h:Jm r=aa s.so)(a:r.Ly=ag):s.code=ag:=by
 cases r<;>first|cases a|skip
 all_goals cases s<;>first|rfl|cases h
section
variable {f:Fl} {rs:List Rw}
theorem Ar.bare(h:Ar ks i f rs):(FJ.bare rs).length=f.length:=by
 induction h with
 |nil=>rfl
 |plain a _ c=>unfold FJ.bare at*;rw[bN,if_pos (by rw[oB a.so];rfl),aU,aU,c]
 |@mark i b s r f rs a h c=>
  show(FJ.bare (r::rs)).length=_;unfold FJ.bare at*;rw[bN,if_pos (by rw[oB a.so];rfl),aU,aU,c]
def Ar.marks(h:Ar ks i f rs):FJ.jX rs=(mZ f).length:=by
 induction h with
 |nil=>rfl
 |plain a _ c=>unfold FJ.jX at*;rw[bN,if_neg (by rw[oB a.so];decide),c];rfl
 |@mark i b s r f rs a h c=>
  show(List.filter _ _).length=(mZ f).length+1;unfold FJ.jX at c;rw[bN,if_pos (show(Rw.mark (nm i) b).jj=ag from rfl),bN,if_neg (by rw[oB a.so];decide),aU,c]
theorem Ar.ok(h:Ar ks i f rs):i+(mZ f).length<=100->∀r∈rs,r.ok=ag:=by
 induction h with
 |nil=>exactλ_ _ h=>nomatch h
 |plain a _ j=>exactλg r m=>(aH.mp m).elim (λe=>e▸a.ok) (j g r)
 |@mark i b s r f rs a h j=>
  intro g x c;have g:i+((mZ f).length+1)<=100:=g;rcases aH.mp c with rfl|c
  .exact XX i (by lia)
  .rcases aH.mp c with rfl|c
   .exact a.ok
   .exact j (by lia) x c
theorem Ar.al(h:Ar ks i f rs):∀r∈rs,∀w∈r.ZF,∃i j,ks[i]?=aa j/\w=nm i/\∀a,Jm a=aa j.so->oA r a=ag:=by
 induction h with
 |nil=>exactλ_ h=>nomatch h
 |plain a _ c=>exactλr m=>(aH.mp m).elim (λe=>e▸a.al) (c r)
 |@mark i b s r f rs a h c=>
  intro x g;rcases aH.mp g with rfl|g
  .intro w hw;cases hw
  .exact(aH.mp g).elim (λe=>e▸a.al) (c x)
def Ar.Zr(h:Ar ks i f rs):(∀t s,(mZ f)[t]?=aa s->ks[i+t]?=aa s)->AD ks rs:=by
 induction h with
 |nil=>exactλ_=>trivial
 |@plain i s r f rs a h e=>
  intro c;have:=e c;have hm:=oB a.so;cases r<;>first|exact this|cases hm
 |@mark i b s r f rs a h e=>
  intro c;have g:=e λt s h=>by have:=c (t+1) s h;rwa [show i+(t+1)=i+1+t by lia] at this
  have hm:=oB a.so;refine⟨⟨i,s,r,by have:=c 0 s rfl;exact this,rfl,?_,a.so⟩,?_⟩
  .unfold iR;rw[hm];rfl
  .cases r<;>first|exact g|cases hm
def Ar.has(h:Ar ks i f rs):∀t s,(mZ f)[t]?=aa s->∃b,Rw.mark (nm (i+t)) b∈rs:=by
 induction h with
 |nil=>exactλt s h=>nomatch h
 |plain a _ c=>exactλt s h=>let⟨b,hb⟩:=c t s h;⟨b,aB _ hb⟩
 |@mark i b s r f rs a h c=>
  intro t x e;cases t with
  |zero=>exact⟨b,aN⟩
  |succ t=>
   obtain⟨g,hb⟩:=c t x e;refine⟨g,aB _ (aB _ ?_)⟩;rw[show i+(t+1)=i+1+t by lia];exact hb
def Ar.fst(h:Ar ks i f rs)(e:f.map dD=t::c):∃r,iR rs=aa r/\Jm r=aa t.so:=by
 cases h with
 |nil=>cases e
 |plain a h=>cases e;exact⟨_,by unfold iR;rw[oB a.so];rfl,a.so⟩
 |@mark i b s r f rs a h=>
  cases e;refine⟨r,?_,a.so⟩;show iR (r::rs)=_;unfold iR;rw[oB a.so];rfl
def Ar.ends(h:Ar ks i f rs):es (f.map dD)->kt rs=ag:=by
 have key:∀{i:Nat} {s:Sk} {r:Rw} {f:Fl} {rs:List Rw},Il ks s r->Ar ks i f rs->(s.end=ag\/s.code=au\/∃t e,f.map dD=t::e/\t.code=ag)->kt rs=ag->kt (r::rs)=ag:=by
  intro i s r f rs a h hc c;unfold kt;rw[oB a.so,c];cases j:r.Ly with
  |false=>rfl
  |true=>
   have m:∃t e,f.map dD=t::e/\t.code=ag:=by
    rcases hc with z|z|z
    .have:=a.go z;rw[j] at this;cases this
    .have:=Qn a.so j;rw[z] at this;cases this
    .exact z
   obtain⟨t,e,e1,e2⟩:=m;obtain⟨y,e3,e4⟩:=h.fst e1;rw[e3];show((!ag||y.code)&&(!au||true)&&ag)=ag;rw[UA e4 e2];rfl
 induction h with
 |nil=>exactλ_=>rfl
 |plain a h g=>exactλc=>key a h c.1 (g c.2)
 |@mark i b s r f rs a h g=>
  intro c;have n:=key a h c.1 (g c.2);unfold kt;rw[n];have:iR (r::rs)=aa r:=by unfold iR;rw[oB a.so];rfl
  rw[this];rfl
noncomputable def CO:Nat->Fl->List Nat
 |_,[]=>[]
 |i,(aa ag,_)::r=>i::CO (i+1) r
 |i,(aa au,_)::r=>CO (i+1) r
 |i,(ar,_)::r=>CO i r
theorem Ar.sn(h:Ar ks i f rs):mS.sn rs=(CO i f).map nm:=by
 induction h with
 |nil=>rfl
 |@plain i s r f rs a h c=>have hm:=oB a.so;cases r<;>first|exact c|cases hm
 |@mark i b s r f rs a h c=>
  have hm:=oB a.so;have e:mS.sn (r::rs)=mS.sn rs:=by cases r<;>first|rfl|cases hm
  cases b with
  |true=>show nm i::mS.sn _=nm i::_;rw[e,c]
  |false=>show mS.sn (r::rs)=_;rw[e,c];rfl
theorem yy:∀(i:Nat) (f:Fl),(CO i f).length=st f
 |_,[]=>rfl
 |i,(aa ag,_)::r=>by show _+1=_+1;rw[yy]
 |i,(aa au,_)::r=>yy (i+1) r
 |i,(ar,_)::r=>yy i r
theorem AY:∀(i:Nat) (f:Fl),(CO i f).Pairwise (·<·)/\∀x∈CO i f,i<=x/\x<i+(mZ f).length
 |_,[]=>⟨.nil,λ_ h=>nomatch h⟩
 |i,(aa ag,s)::r=>by
  obtain⟨a,b⟩:=AY (i+1) r;refine⟨.cons (λx c=>(b x c).1) a,λx c=>?_⟩;show _/\_<i+((mZ r).length+1);rcases aH.mp c with rfl|c
  .omega
  .have:=b x c;lia
 |i,(aa au,s)::r=>by obtain⟨a,b⟩:=AY (i+1) r;refine⟨a,λx c=>?_⟩;show _/\_<i+((mZ r).length+1);have:=b x c;lia
 |i,(ar,_)::r=>AY i r
end
structure Pq where
 Mh:aY
 i:Nat
 f:Fl
structure Pq.ok(p:Pq):Prop where
 w:oS p.Mh=ag
 sh:∃b,b<=3/\Sh b (p.f.map dD)
 hd:Hd p.f
 few:st p.f<=14
inductive Ch:List Pq->List Sk->Prop
 |nil:Ch [] []
 |snoc {l:List Pq} {ks:List Sk} {p:Pq}:Ch l ks->p.i=ks.length->Ch (l++[p]) (ks++mZ p.f)
theorem Pq.ok.len{p:Pq}(h:p.ok):p.f.length<=21:=by obtain⟨b,c,a⟩:=h.sh;have:=a.len;rw[ao] at this;lia
section
variable {l:List Pq} {ks:List Sk}
theorem Ch.len(h:Ch l ks):(∀p∈l,p.ok)->ks.length<=21*l.length:=by
 induction h with
 |nil=>exactλ_=>aD _
 |@snoc l ks p h e b=>
  intro a;have g:=b λq c=>a q (bV _ c);have i:=(a p (by simp)).len;have j:=CI p.f;rw[aE,aE,dn];lia
def Ch.at(h:Ch l ks):∀p∈l,p.i+(mZ p.f).length<=ks.length/\∀t s,(mZ p.f)[t]?=aa s->ks[p.i+t]?=aa s:=by
 induction h with
 |nil=>exactλ_ h=>nomatch h
 |@snoc l ks p h e g=>
  intro q c;rcases bt.mp c with c|c
  .obtain⟨a,b⟩:=g q c;refine⟨by rw[aE];exact Nat.le_add_right_of_le a,λt s ht=>?_⟩;have:=b t s ht;rw[aX (ak.mp this).1];exact this
  .rw[bj.mp c];refine⟨by rw[aE];lia,λt s ht=>?_⟩;rw[e,cT (by exact Nat.le_add_right _ _),ft];exact ht
def Ch.has(h:Ch l ks):∀j s,ks[j]?=aa s->∃p∈l,∃t,j=p.i+t/\(mZ p.f)[t]?=aa s:=by
 induction h with
 |nil=>exactλ_ _ h=>nomatch h
 |@snoc l ks p h e g=>
  intro j s c;by_cases m:j<ks.length
  .rw[aX m] at c;obtain⟨q,a,b⟩:=g j s c;exact⟨q,bV _ a,b⟩
  .rw[cT (by exact Nat.le_of_not_lt m)] at c;exact⟨p,by simp,j- ks.length,by lia,c⟩
def Ch.idx(h:Ch l ks):(l.flatMap λp=>CO p.i p.f).Pairwise (·<·)/\∀x∈l.flatMap λp=>CO p.i p.f,x<ks.length:=by
 induction h with
 |nil=>exact⟨.nil,λ_ h=>nomatch h⟩
 |@snoc l ks p h e g=>
  obtain⟨a,b⟩:=AY p.i p.f;rw[List.flatMap_append,List.flatMap_singleton];refine⟨List.pairwise_append.mpr ⟨g.1,a,λx c y j=>?_⟩,λx c=>?_⟩
  .have:=g.2 x c;have:=b y j;lia
  .rw[aE];rcases bt.mp c with c|c
   .have:=g.2 x c;exact Nat.le_add_right_of_le this
   .have:=b x c;lia
end
def X7{L:List (Pq×List Rw)}{q:List Sk}(hc:Ch (L.map aQ) q)(g:∀x∈L,x.1.ok)(ha:∀x∈L,Ar q x.1.i x.1.f x.2)(hn:(L.map λx=>x.1.Mh).Nodup)(A:1<=L.length)(B:L.length<=4):Gd q 0 (L.map λx=>(x.1.Mh,x.2)):=by
 have all:∀{C:Pt->Prop},(∀x∈L,C (x.1.Mh,x.2))->∀p∈L.map λx=>(x.1.Mh,x.2),C p:=λh p m=>by obtain⟨x,c,rfl⟩:=bP.mp m;exact h x c
 have E:∀p∈L.map aQ,p.ok:=λp m=>by obtain⟨x,c,rfl⟩:=bP.mp m;exact g x c
 have G:=hc.len E;rw[ao] at G;have n:∀x∈L,_:=λx c=>hc.at x.1 (bP.mpr ⟨x,c,rfl⟩);have o:=by
  have:∀l:List (Pq×List Rw),(∀x∈l,x∈L)->Jq (l.map λx=>(x.1.Mh,x.2))=((l.map aQ).flatMap λp=>CO p.i p.f).map nm:=by
   intro l;induction l with
   |nil=>exactλ_=>rfl
   |cons x l u=>
    intro h;show sn x.2++Jq (l.map _)=_;rw[u λy v=>h y (aB _ v),bq,eL,ba,(ha x (h x aN)).sn]
  exact this L λ_ h=>h
 obtain⟨H,z⟩:=hc.idx;refine⟨by rw[ao];exact A,by rw[ao];exact B,all λx c=>(g x c).w,by rw[bx];exact hn,all λx c=>?_,all λx c=>?_,all λx c=>?_,all λx c=>(ha x c).ok (by have:=(n x c).1;lia),all λx c=>(ha x c).ends ?_,all λx c=>(ha x c).Zr (n x c).2,all λx c=>(ha x c).al,λj s I=>?_,?_,?_,by lia⟩
 .rw[(ha x c).bare];obtain⟨b,y,r,e⟩:=(g x c).hd;rw[e];exact Nat.le_add_left 1 _
 .rw[(ha x c).bare];exact(g x c).len
 .rw[(ha x c).marks];have:=CI x.1.f;have:=(g x c).len;lia
 .obtain⟨b,_,hb⟩:=(g x c).sh;have:=hb.es [] trivial
  rwa [bu] at this
 .obtain⟨p,m,t,rfl,ht⟩:=hc.has j s I;obtain⟨x,c,rfl⟩:=bP.mp m;obtain⟨b,hb⟩:=(ha x c).has t s ht;exact⟨_,bP.mpr ⟨x,c,rfl⟩,b,hb⟩
 .rw[o];refine aik nm (λa b h=>h) ?_;exact(fh.imp_of_mem (λ{a b} J M N e=>by have:=Uq (by have:=z a J;lia) (by have:=z b M;lia) e;lia) H)
 .rw[o,ao];have:∀l:List (Pq×List Rw),(∀x∈l,x∈L)->((l.map aQ).flatMap λp=>CO p.i p.f).length<=14*l.length:=by
   intro l;induction l with
   |nil=>exactλ_=>aD _
   |cons x l u=>
    intro h;have e1:=u λy v=>h y (aB _ v);have e2:=(g x (h x aN)).few;rw[bq,eL,aE,yy,aU];lia
  have:=this L λ_ h=>h;lia
def Js(h:x.cps.toList.all (λc=>decide (c<0x110000))=ag):ah5 x=ag:=by unfold ah5;rw[<-Array.all_toList];exact h
def vO(h:oS w=ag):ah5 w=ag:=by unfold oS low at h;simp only [aZ] at h;refine Js ?_;rw[bT] at h |-;intro c hc;have:=h.2 c hc;simp only [aZ,decide_eq_true_eq] at this |-;lia
def Jt(ns:List Int):L3.AN (ns.map D.int)=ag:=by induction ns with|nil=>rfl|cons n ns a=>rw[bq];unfold L3.AN;rw[a];rfl
def UB{ws:List aY}(h:ws.all oS=ag):L3.AN (ws.map D.str)=ag:=by
 induction ws with
 |nil=>rfl
 |cons w ws a=>
  rw[fU,aZ] at h;rw[bq];unfold L3.AN L3.pl;rw[a h.2,Bool.and_true];exact vO h.1
def Ju(ns:List Int):Db (ns.map D.int)=0:=by induction ns with|nil=>rfl|cons n ns a=>rw[bq];unfold Db;rw[a];rfl
def UC(ns:List aY):Db (ns.map D.str)=0:=by induction ns with|nil=>rfl|cons n ns a=>rw[bq];unfold Db;rw[a];rfl
def afM{r:Rw}(h:r.ok=ag):L3.pl r.d=ag:=by cases r<;>unfold Rw.ok at h<;>simp only [aZ] at h<;>simp only [Rw.d,L3.pl,L3.AN,aZ]<;>(repeat' apply And.intro);all_goals first|rfl|trivial|exact Js rfl|exact vO h|exact vO h.1|exact vO h.2|exact vO h.1.2|exact Jt _|exact UB h.2
set_option tactic.hygienic true in
def afN(r:Rw):dp r.d<=2:=by
 cases r;case numbers ns=>show max 0 (max (Db _+1) 0)+1<=2;rw[Ju];decide
 case table ns=>show max 0 (max (Db _+1) 0)+1<=2;rw[UC];decide
 all_goals exact aq rfl
def ZK{xs:List Rw}(h:∀x∈xs,x.ok=ag):L3.AN (xs.map Rw.d)=ag/\Db (xs.map Rw.d)<=2:=by
 induction xs with
 |nil=>exact⟨rfl,bD _⟩
 |cons x xs a=>
  obtain⟨b,c⟩:=a λy e=>h y (aB _ e);rw[bq];unfold L3.AN Db;rw[b,afM (h x aN)];exact⟨rfl,Nat.max_le.mpr ⟨afN x,c⟩⟩
def X8(r:Rw)(w:aY):yV r.d (Rw.mark w ag).d=decide (r=.mark w ag):=by
 cases r with
 |mark v c=>
  show(ag&&((v==w)&&((c==ag)&&ag)))=_;by_cases h:v=w
  .subst h;cases c<;>simp
  .simp[h]
 |_=>rfl
def X9{rs:List Rw}{w:aY}{j:Nat}{M:Ms}{Q:DK}(hw:oS w=ag)(h:M[j]?=aa (aa (.lst (rs.map Rw.d))))(c:∀r∈rs,r.ok=ag)(q:Q (.bl (decide (Rw.mark w ag∈rs))) M):Lg (Rw.mark w ag).d (.loc j) M Q:=by
 unfold Lg;rw[iS h];obtain⟨a,b⟩:=ZK c;refine⟨⟨afM (r:=.mark w ag) hw,by have:=afN (.mark w ag);show dp (Rw.mark w ag).d<=60;lia,a,by exact bG b (Nat.le_add_left _ _)⟩,?_⟩;have e:((rs.map Rw.d).any λy=>yV y (vw M (Rw.mark w ag).d))=decide (Rw.mark w ag∈rs):=by show((rs.map Rw.d).any λy=>yV y (Rw.mark w ag).d)=_;rw[List.any_map,d9];simp only [List.any_eq_true,Function.comp,X8,decide_eq_true_eq];exact⟨λzq=>by obtain⟨x,a,b⟩:=zq;exact b▸a,λh=>⟨_,h,rfl⟩⟩
 rw[e];exact q
noncomputable def kS:So->aY
 |.c=>"code"|.n=>gr|.t=>hJ
noncomputable def soS:Option Rw->aY
 |none=>""
 |some r=>match Jm r with
  |some o=>kS o
  |none=>""
def uL:GN:=λds M Q=>∃(j n:Nat) (rs:List Rw),ds=[.loc j,.int n]/\M[j]?=aa (aa (.lst (rs.map Rw.d)))/\n<=rs.length/\Q (.str (soS (iR (rs.drop n)))) M
def Jv:kx uL:=by rintro ds M P Q w ⟨j,n,rs,a,b,c,q⟩;exact ⟨j,n,rs,a,b,c,w _ _ q⟩
def sB:DS:=(i5 (ie (ij Dl (ij jl (hV 2) (dC (.int 0))) (dC (.str ll)))) (iu (ij jl (jn (kY (hU (ij jl (hV 2) (dC (.int 0))) (hU (dC (.str "code")) hX)))) (iJ Au (hU (ij (AO ag) (ij jl (hV 2) (dC (.int 0))) (i6 (hU (dC (.str gr)) (hU (dC (.str hJ)) hX)))) hX)))) iy)
theorem EV{st:Ms->Prop}(c:st M):∀(l:List Rw) (o:Option D),(∀r,iR l=aa r->E.rt (.str (soS (aa r))) M)->(iR l=ar->∀o,E.nx [aa a,aa b,o] M)->wq (ib 2) sB st E (l.map Rw.d) [aa a,aa b,o] M
 |[],o,_,hn=>hn rfl o
 |r::l,o,e,hn=>by
  cases r with
  |mark w f=>exact⟨_,rfl,c,EV c l _ e hn⟩
  |_=>
   have h:=e _ rfl;walk_at "f";exact h
def Ya:∀ds M Q,uL ds M Q->tJ 3 2 Ck ds M Q:=by
 rintro ds M Q ⟨j,n,rs,a,b,c,q⟩
 subst a;have e:=iS b;refine⟨rfl,?_⟩;show(match vw M (.loc j) with|.lst xs=>_|.p6 xs=>_|.tup xs=>_|.str z=>_|_=>False);rw[e];refine⟨_,rfl,rfl,?_⟩;rw[yb (by rw[ao];exact c),<-aeF];refine EV (st:=λf=>vw f _=vw M _) rfl _ ar (λr g=>?_) (λhn o=>?_)
 .rw[g] at q;exact q
 .rw[hn] at q;exact q
noncomputable def AE(B:Nat):List Pt->List D
 |[]=>[]
 |p::a=>.tup [.str p.1,.loc B]::AE (B+1) a
theorem NW:∀(B:Nat) (a:List Pt),(AE B a).length=a.length
 |_,[]=>rfl
 |B,p::a=>by show _+1=_+1;rw[NW]
theorem UD:∀{B:Nat} {a:List Pt} {q:Nat} {p:Pt},a[q]?=aa p->(AE B a)[q]?=aa (.tup [.str p.1,.loc (B+q)])
 |B,p::a,0,_,h=>by cases h;rfl
 |B,x::a,q+1,p,h=>by have:=UD (B:=B+1) (q:=q) h;show(AE (B+1) a)[q]?=_;rw[this,show B+1+q=B+(q+1) by lia]
theorem GK:∀{B:Nat} {a b:List Pt},a.map aQ=b.map aQ->AE B a=AE B b
 |B,[],[],_=>rfl
 |B,p::a,f::b,h=>by injection h with c e;show _::_=_::_;rw[c,GK e]
theorem Jw:∀(B:Nat) (a:List Pt) (p:Pt),AE B (a++[p])=AE B a++[.tup [.str p.1,.loc (B+a.length)]]
 |_,[],_=>rfl
 |B,x::a,p=>by show _::AE (B+1) (a++[p])=_::(AE (B+1) a++_);rw[Jw,aU,show B+1+a.length=B+(a.length+1) by lia]
structure Fd(ks:List Sk)(k m B:Nat)(ps:List Pt)(M:Ms):Prop where
 src:∃n,Dr M k n
 em:M[m]?=aa (aa (.lst (sT 0 ks)))
 rows:∀(i:Nat) (p:Pt),ps[i]?=aa p->M[B+i]?=aa (aa (.lst (p.2.map Rw.d)))
 kB:k<B
 mB:m<B
 km:k≠m
section
variable {k:Nat} {ps:List Pt} {M:Ms}
def Fd.go(h:Fd ks k m B ps M)(d:Dr M' k n')(s:nW M M' k):Fd ks k m B ps M':=by have:=h.kB;have:=h.km;exact⟨⟨_,d⟩,(s.2 m (ak.mp h.em).1 (by lia)).trans h.em,λi p a=>(s.2 _ (ak.mp (h.rows i p a)).1 (by lia)).trans (h.rows i p a),h.kB,h.mB,h.km⟩
theorem Fd.set(h:Fd ks k m B ps M)(c:ps[q]?=aa p):Fd ks k m B (ps.set q (p.1,b)) (M.set (B+q) (aa (.lst (b.map Rw.d)))):=by
 have:=h.kB;have:=h.mB;obtain⟨n,hd⟩:=h.src;refine⟨⟨n,hd.of (aJ (by lia))⟩,(aJ (by lia)).trans h.em,λi x a=>?_,h.kB,h.mB,h.km⟩;by_cases e:q=i
 .subst e;rw[bn (ak.mp c).1] at a;cases a;exact bn (ak.mp (h.rows q p c)).1
 .rw[aJ e] at a;rw[aJ (by lia)];exact h.rows i x a
end
def CP:GN:=λds M Q=>∃(kp m k n:Nat) (a:List Sk) (e:List Pt),ds=[.loc kp,.loc m,.loc k]/\M[kp]?=aa (aa (.lst (e.map kO)))/\M[m]?=aa (aa (.lst (sT 0 a)))/\Dr M k n/\k≠m/\a≠[]/\Gd a 0 e/\
 ∀(b:List Pt) (c:Nat) (f:Ms),c<=4->Gd a c b->b.map aQ=e.map aQ->Fd a k m M.length b f->Q (.lst (AE M.length b)) f
def Jx:kx CP:=by rintro ds M P Q w ⟨kp,m,k,n,f,g,h,i,j,o,p,r,s,q⟩;exact ⟨kp,m,k,n,f,g,h,i,j,o,p,r,s,λu c v a b d e=>w _ _ (q u c v a b d e)⟩
def afO{rs:List Rw}{M:Ms}{Q:DK}(h:M[j]?=aa (aa (.lst (rs.map Rw.d))))(hn:n<=rs.length)(q:Q (.str (soS (iR (rs.drop n)))) M):uL [.loc j,.int n] M Q:=⟨j,n,rs,rfl,h,hn,q⟩
def afP(s:Sk){M:Ms}{Q:DK}(q:Q (.bl s.code) M):AO ag (.str s.kn) (.tup [.str gr,.str hJ]) M Q:=by cases s<;>exact⟨_,rfl,q⟩
def afQ(s:Sk){M:Ms}{Q:DK}(q:Q (.str (kS s.so)) M):jl (.lst [.str s.kn,.str "code"]) (.int (if s.code=ag then 1 else 0)) M Q:=by cases s<;>exact⟨_,rfl,q⟩
theorem Mi:∀(B:Nat) (a:List Pt),AE B a=(a.zipIdx B).map λx=>D.tup [.str x.1.1,.loc x.2]
 |_,[]=>rfl
 |B,p::a=>by show _::AE (B+1) a=_;rw[Mi];rfl
theorem UE:∀{i:Nat} {a:List Sk} {j:Nat} {s:Sk},a[j]?=aa s->(sT i a)[j]?=aa (XZ (i+j) s)
 |i,x::a,0,s,h=>by cases h;rfl
 |i,x::a,j+1,s,h=>by have:=UE (i:=i+1) (j:=j) h;show(sT (i+1) a)[j]?=_;rw[this,show i+1+j=i+(j+1) by lia]
def acQ{k j:Nat}{xs:List D}{d:D}{Q:DK}(h:M[k]?=aa (aa (.lst xs)))(e:xs[j]?=aa d)(q:Q d M):jl (.loc k) (.int j) M Q:=by unfold jl;rw[iS h];exact⟨d,DR e,q⟩
def len_own{Q:DK}(h:M[k]?=aa (aa (.lst xs)))(q:Q (.int xs.length) M):j3 [.loc k] M Q:=by unfold j3;simp only [iS h];exact⟨xs.length,rfl,q⟩
def acR(h:soS o=kS t):∃y,o=aa y/\Jm y=aa t:=by
 cases o with
 |none=>cases t<;>exact absurd h (by decide)
 |some y=>
  refine⟨y,rfl,?_⟩;replace h:(match Jm y with|some o=>kS o|none=>"")=kS t:=h;cases e:Jm y with
  |none=>rw[e] at h;cases t<;>exact absurd h (by decide)
  |some o=>rw[e] at h;cases o<;>cases t<;>first|rfl|exact absurd h (by decide)
def afR{o:List Sk}{k m B c:Nat}{f:List Pt}{M:Ms}{O:D}{T U Y o7 o8 o9 ZL:Option D}{E:jp}(Vd:o≠[])(hc:c<=4)(g:Gd o c f)(h:Fd o k m B f M)
(q:∀(uo:List Pt) (c':Nat) (u:Ms) (U Y o7 o8 o9 ZL:Option D),c'<=c+1->Gd o c' uo->uo.map aQ=f.map aQ->Fd o k m B uo u->E.nx [aa O,aa (.loc m),aa (.loc k),aa (.lst (AE B f)),T,U,Y,o7,o8,o9,ZL] u):
  mB' jc uL E [aa O,aa (.loc m),aa (.loc k),aa (.lst (AE B f)),T,U,Y,o7,o8,o9,ZL] M:=by
 have A:=@uK;have f2:=@afO;have f3:=@acQ;have C:∀{xs:List D} {j:Nat} {d:D} {M:Ms} {Q:DK},xs[j]?=aa d->Q d M->jl (.lst xs) (.int j) M Q:=λe q=>⟨_,DR e,q⟩;have G:∀{a b:D} {M:Ms} {Q:DK},Q b M->jl (.tup [a,b]) (.int 1) M Q:=λq=>⟨_,rfl,q⟩;have f4:=@len_own;have H:∀{xs:List D} {M:Ms} {Q:DK},Q (.int xs.length) M->j3 [.lst xs] M Q:=λq=>⟨_,rfl,q⟩;have f5:=@afQ;have f6:=@X9;have f7:=@afP;have f8:∀{bs:List Bool} {M:Ms} {Q:DK},Q (.bl (bs.any id)) M->Xe [.lst (bs.map D.bl)] M Q:=λq=>⟨_,rfl,q⟩;have f9:∀{b:Bool} {M:Ms} {Q:DK},Q (.int (if b=ag then 1 else 0)) M->Au [.bl b] M Q:=λ{b _ _} q=>by cases b<;>exact q
 unfold mB';generalize jc=gn at A |-;generalize uL=gs at f2 |-;generalize jl=gx at f3 C G f5 |-;generalize j3=gl at f4 H |-;generalize AO=gi at f7 |-;generalize Lg=gd at f6 |-;generalize Xe=ga at f8 |-;generalize Au=gt at f9 |-;obtain⟨n,hd⟩:=h.src;have MP:0<o.length:=List.length_pos_iff.mpr Vd;refine f4 h.em ?_;rw[GD];refine A (by exact Int.ofNat_lt.mpr MP) hd λr M1 v r1 _ d1 s1=>?_;have L:=h.go d1 s1;obtain⟨i,rfl⟩:=cn v;have hi:o[i]?=aa (o[i]'(by exact Int.ofNat_lt.mp r1)):=ax (by exact Int.ofNat_lt.mp r1);generalize o[i]'(by exact Int.ofNat_lt.mp r1)=s at hi;have Sb:=UE (i:=0) hi;rw[bQ] at Sb;have hw:oS (nm i)=ag:=XX i (by have:=g.Qm;lia);refine f3 L.em Sb ⟨rfl,rfl,?_⟩;refine⟨aq rfl,aq rfl,f7 s (f9 (f5 s ?_))⟩;refine⟨_,rfl,rfl,?_⟩;rw[Mi];refine iI (st:=λu=>vw u (D.lst _)=vw M1 (D.lst _)) (λx:Pt×Nat=>D.tup [.str x.1.1,.loc x.2]) (λx=>D.bl (decide (Rw.mark (nm i) ag∈x.1.2))) rfl _ [] ?_ (λx hx Kk hK=>?_) ?_
 .rw[fj,bp];have:=g.hi;show 0+_<=_;exact Nat.add_le_add (aq rfl) this
 .obtain⟨p,j⟩:=x;have hm:=aiu.mp hx;have w:=bA hm.2;have hr:=L.rows (j- B) p hm.2;rw[show B+(j- B)=j by have:=hm.1;lia] at hr;refine⟨rfl,rfl,aq rfl,f6 hw hr (g.ok p w) (hK [aa (.str p.1),aa (.loc j),aa (.str (nm i))] rfl)⟩
 .have e1:[]++(f.zipIdx B).map (λx=>D.bl (decide (Rw.mark (nm i) ag∈x.1.2)))=((f.zipIdx B).map λx=>decide (Rw.mark (nm i) ag∈x.1.2)).map D.bl:=by rw[bx];rfl
  rw[e1];refine f8 ?_;have e2:(((f.zipIdx B).map λx=>decide (Rw.mark (nm i) ag∈x.1.2)).any id)=au->∀p∈f,Rw.mark (nm i) ag∉p.2:=by intro e p w hm;obtain⟨j,hj⟩:=cN.mp w;have:(p,B+j)∈f.zipIdx B:=aiu.mpr ⟨by show B<=B+j;exact Nat.le_add_right _ _,by show f[B+j- B]?=aa p;rw[ft];exact hj⟩;rw[List.any_eq_false] at e;exact e ag (bP.mpr ⟨_,this,decide_eq_true hm⟩) rfl
  generalize (((f.zipIdx B).map λx=>decide (Rw.mark (nm i) ag∈x.1.2)).any id)=str at e2 |-;rw[<-Mi];refine H ?_;rw[NW];obtain⟨n1,hd1⟩:=L.src;refine A (by have:=g.lo;exact Int.ofNat_lt.mpr this) hd1 λr M2 v r1 _ d2 s2=>?_;have h2:=L.go d2 s2;obtain⟨t,rfl⟩:=cn v;have ht:f[t]?=aa (f[t]'(by exact Int.ofNat_lt.mp r1)):=ax (by exact Int.ofNat_lt.mp r1);generalize f[t]'(by exact Int.ofNat_lt.mp r1)=p at ht;have w:=bA ht;refine C (UD ht) (G ?_);have hr2:=h2.rows t p ht;have hl:=yx p.2;have hl1:=g.o1 p w;refine f4 hr2 ?_;rw[ao];refine A (by lia) d2 λr M3 v r1 _ d3 s3=>?_;have N:=h2.go d3 s3;obtain⟨a,rfl⟩:=cn v;have I:=N.rows t p ht;refine f2 I (by lia) ?_;show(if(soS (iR (p.2.drop a))==kS s.so)=ag then _ else _);by_cases hs:soS (iR (p.2.drop a))=kS s.so
  .rw[if_pos (by rw[beq_iff_eq];exact hs)];obtain⟨y,hy1,hy2⟩:=acR hs;have jG:∀(b:Bool) (J:Ms),Fd o k m B f J->(b=ag->str=au)->uq (.loc (B+t)) [.int a,(Rw.mark (nm i) b).d] J λ_ u=>E.nx [aa O,aa (.loc m),aa (.loc k),aa (.lst (AE B f)),T,aa (.str (nm i)),aa (.str s.kn),aa (.str (kS s.so)),aa (.bl str),aa (.loc (B+t)),aa (.int a)] u:=by
    intro b J h4 hb;refine⟨_,a,h4.rows t p ht,rfl,by rw[ao];lia,by rw[ao,bp];have:=g.len w;lia,?_⟩;have e3:(p.2.map Rw.d).take a++(Rw.mark (nm i) b).d::(p.2.map Rw.d).drop a=(ins (.mark (nm i) b) a p.2).map Rw.d:=by rw[<-Uw,ba,bq,List.map_take,aeF]
    rw[e3];refine q _ (c+1) _ _ _ _ _ _ _ (aD _) (g.ins ht hi hy1 hy2 λz=>e2 (hb z)) ?_ (h4.set ht);rw[List.map_set];apply List.ext_getElem?;intro j;by_cases e:t=j
    .subst e;rw[bn (by rw[ao];exact(ak.mp ht).1),bh,ht];rfl
    .rw[aJ e]
   refine⟨by rw[iS I];rfl,?_⟩;cases jy:str with
   |true=>
    subst jy;exact⟨aq rfl,jG au M3 N λz=>nomatch z⟩
   |false=>
    subst jy;refine A (by decide) d3 λr J v r1 _ d4 s4=>⟨aq rfl,jG (r==1) J (N.go d4 s4) λ_=>rfl⟩
  .rw[if_neg (by rw[beq_iff_eq];exact hs)];exact q f c M3 _ _ _ _ _ _ (cw _) g rfl N
def Yb:∀ds M Q,CP ds M Q->tJ 11 3 (wR jc uL) ds M Q:=by
 rintro ds M Q ⟨kp,m,k,n,H,b,I,J,L,O,h5,h6,g,q⟩
 subst I;unfold wR;have f1:=@uK;have fb:=@afR;generalize mB' jc uL=mb at fb |-;generalize jc=gn at f1 |-;have hv:=iS J;have T:=(ak.mp J).1;refine⟨rfl,b.map kO,by rw[hv];rfl,rfl,?_⟩;refine rE (λj acc h=>j<=b.length/\acc=AE M.length (b.take j)/\h=M++(b.take j).map λp=>aa (.lst (p.2.map Rw.d))) (λj a h f=>?_) _ 0 [] _ ⟨bD _,rfl,by simp⟩ ?_ (λj x acc h v f Kk hK=>?_) (λacc h f=>?_)
 .obtain⟨_,_,rfl⟩:=f;rw[iS ((aX T).trans J),hv]
 .rw[ao,bp];have:=g.hi;show 0+_<=_;exact Nat.add_le_add (aq rfl) this
 .obtain⟨w,rfl,rfl⟩:=f;rw[bh] at v;cases e:b[j]? with
  |none=>rw[e] at v;cases v
  |some p=>
   rw[e] at v;cases v;have hj:=(ak.mp e).1;have et:b.take (j+1)=b.take j++[p]:=by rw[List.take_succ,e];rfl
   refine⟨rfl,rfl,aq rfl,hK _ _ _ rfl ⟨by lia,?_,?_⟩⟩
   .rw[bQ,et,Jw,aE,ao]
   .rw[bQ,et,ba,bi];rfl
 .obtain⟨w,rfl,rfl⟩:=f;rw[bQ,ao,List.take_length];have hF:Fd H k m M.length b (M++b.map λp=>aa (.lst (p.2.map Rw.d))):=by refine⟨⟨n,O.of (aX O.lt)⟩,(aX (ak.mp L).1).trans L,λi p f=>?_,O.lt,(ak.mp L).1,h5⟩;rw[cT (by exact Nat.le_add_right _ _),ft,bh,f];rfl
  obtain⟨n1,U⟩:=hF.src;refine f1 (by decide) U λr M1 r0 r1 _ d1 s1=>?_;have I:=hF.go d1 s1;refine⟨⟨show-(2^62)<=r by exact Int.le_trans (by decide) r0,show r<2^62 by exact Int.lt_of_lt_of_le r1 (by decide)⟩,trivial,?_⟩;refine iz (λi:Nat=>D.int (0+(i:Int))) (λa z Y h=>a.length+z.length<=4/\∃(s:List Pt) (c:Nat) (o4 y A B C E G:Option D),c<=a.length/\Gd H c s/\s.map aQ=b.map aQ/\Fd H k m M.length s h/\Y=[aa (.loc kp),aa (.loc m),aa (.loc k),aa (.lst (AE M.length b)),o4,y,A,B,C,E,G]) (λ_ _ _ _ _=>trivial) _ [] _ _ ⟨by rw[cU];show 0+_<=_;lia,b,0,ar,ar,ar,ar,ar,ar,ar,aD _,g,rfl,I,rfl⟩ (λpre x xs Y h f N hN=>?_) (λpre Y h f=>?_)
  .obtain⟨w,s,c,o4,y,A,B,C,E,G,hc,g',u,o,rfl⟩:=f;rw[aU] at w;rw[<-GK u];refine fb h6 (by lia) g' o λps2 c2 M2 y A B C E G Rj g2 en2 hF2=>hN _ _ ⟨by rw[aE];show _+1+_<=_;lia,ps2,c2,_,_,_,_,_,_,_,by rw[aE];show _<=_+1;lia,g2,en2.trans u,hF2,by rw[GK u]⟩
  .obtain⟨w,s,c,o4,y,A,B,C,E,G,hc,g',u,o,rfl⟩:=f;have:=q s c h (by have:pre.length+0<=4:=w;exact bG hc this) g' u o;rw[GK u] at this;exact this
noncomputable def pz:aY:="pqrstuvw"
noncomputable def ah:aY:="abcdefgh"
noncomputable def c1(z:aY)(i:Nat):aY:=⟨#[z.cps.toList.getD i 0]⟩
noncomputable def pn(j x:Nat):aY:=c1 pz (3*j%8)++c1 ah x
def ahF:∀j,j<4->∀x,x<8->oS (pn j x)=ag:=by decide+kernel
def acS:∀i,i<4->∀j,j<4->∀x,x<8->∀y,y<8->pn i x=pn j y->i=j:=by decide+kernel
def KA{i:Nat}{j:Int}{M:Ms}{Q:DK}(e:j=(i:Int))(a:z.length<=aO)(h:i<z.cps.toList.length)(q:Q (.str (c1 z i)) M):jl (.str z) (.int j) M Q:=by subst e;refine⟨a,z.cps.toList.getD i 0,DR ?_,q⟩;rw[bv,ax h];rfl
noncomputable def ZM(p:Pq):D:=.tup [.str p.Mh,.lst (jq p.i p.f)]
structure L1(ks:List Sk)(L:List (Pq×Nat))(M:Ms):Prop where
 em:M[0]?=aa (aa (.lst (sT 0 ks)))
 es:M[1]?=aa (aa (.lst (L.map λx=>ZM x.1)))
 er:M[2]?=aa (aa (.lst (L.map λx=>.loc x.2)))
 dr:∀x∈L,3<=x.2/\∃n,Dr M x.2 n
 nd:(L.map dD).Nodup
structure I1(ks:List Sk)(L:List (Pq×Nat)):Prop where
 ch:Ch (L.map aQ) ks
 ok:∀x∈L,x.1.ok
 nm:∀j p,(L.map aQ)[j]?=aa p->∃x,x<8/\p.Mh=pn j x
def UF{many:Nat}{M:Ms}{Q:DK}(b:many<=100)(q:∀(k:Nat) (a:Ms),M.length<=k->Dr a k many->M.length<=a.length->(∀j,j<M.length->a[j]?=M[j]?)->Q (.loc k) a):mN [.int c,.int many] M Q:=⟨c,many,rfl,b,q⟩
def afS{M:Ms}{Q:DK}(g:k≠m)(h:Dr M k n)(i:M[m]?=aa (aa (.lst (sT 0 c))))(o:c.length<=78)
(q:∀(f:Fl) (b e:Nat) (a:Ms),Sh b (f.map dD)->b<=3->Hd f->6*st f+e<=n+10->Dr a k e->a[m]?=aa (aa (.lst (sT 0 (c++mZ f))))->M.length<=a.length->(∀j,j<M.length->j≠k->j≠m->a[j]?=M[j]?)->Q (.lst (jq c.length f)) a):w4 [.loc k,.loc m,.int 3] M Q:=⟨k,m,n,c,rfl,g,h,i,o,q⟩
def NX{d:D}{Q:DK}(h:M[k]?=aa (aa (.lst xs)))(a:xs.length<=1000)(q:Q .non (M.set k (aa (.lst (xs++[d]))))):iT (.loc k) [d] M Q:=⟨_,h,by rw[bp];exact d6 a (Nat.le_add_left _ _),q⟩
def afT{o:List Sk}{L:List (Pq×Nat)}{M:Ms}{cs:List Int}{c:Int}{z A I J:Option D}{E:jp}(hl:cs.length<=4)(hL:L.length<4)(hi:I1 o L)(h:L1 o L M)
(q:∀(N:List Sk) (L':List (Pq×Nat)) (O:Ms) (z A:Option D),L'.length=L.length+1->I1 N L'->L1 N L' O->E.nx [aa (.lst (iD cs)),aa (.loc 0),aa (.loc 1),aa (.loc 2),aa (.int L.length),aa (.int c),z,A,I,J] O):
  pB mN jc w4 E [aa (.lst (iD cs)),aa (.loc 0),aa (.loc 1),aa (.loc 2),aa (.int L.length),aa (.int c),z,A,I,J] M:=by
 have B:=@uK;have T:=@UF;have U:=@afS;have C:=@KA;have G:=@NX;have Y:∀{M:Ms} {Q:DK},Q (.int cs.length) M->j3 [.lst (iD cs)] M Q:=λq=>⟨_,rfl,by rw[ao];exact q⟩;have f7:∀{M:Ms} {Q:DK},Q (.int 3) M->jl (.lst [.int 3,.int 1]) (.int 0) M Q:=λq=>⟨_,rfl,q⟩;have f8:∀{b:Bool} {M:Ms} {Q:DK},b=au->Q (.int 0) M->Au [.bl b] M Q:=λe q=>by subst e;exact q
 unfold pB;generalize Au=gt at f8 |-;generalize mN=gd at T |-;generalize jc=gn at B |-;generalize w4=gs at U |-;generalize jl=gx at C f7 |-;generalize iT=ga at G |-;generalize j3=gl at Y |-;have Vd:o.length<=63:=by
  have:=hi.ch.len λp m=>by obtain⟨x,v,rfl⟩:=bP.mp m;exact hi.ok x v
  rw[ao] at this;lia
 have h2l:=(ak.mp h.er).1;refine T (many:=80) (by decide) λk M1 hk d1 l1 s1=>?_;refine⟨.inl ⟨by decide,by decide⟩,B (by decide) d1 λr M2 r0 r1 _ d2 s2=>?_⟩;have er:r=0:=by lia
 subst er;refine⟨show(0:Int)<8 by decide,C (i:=3*L.length%8) (show(3*(L.length:Int)+0)%8=_ by exact rfl) (aq rfl) (show 3*L.length%8<8 from Nat.mod_lt _ (by decide)) ?_⟩;refine B (by decide) d2 λx M3 x0 x1 _ d3 s3=>?_;obtain⟨x,rfl⟩:=cn x0;have v:x<8:=by exact Int.ofNat_lt.mp x1
 refine C (i:=x) rfl (aq rfl) (show x<8 from v) ⟨aq rfl,?_⟩;have H:∀j,j<M.length->M3[j]?=M[j]?:=λj u=>(s3.2 j (by have:=s2.1;lia) (by lia)).trans ((s2.2 j (by exact bw u l1) (by lia)).trans (s1 j u));have hM3:M.length<=M3.length:=by have:=s2.1;have:=s3.1;lia
 refine⟨by rw[iS ((H 1 (by exact Nat.lt_of_succ_lt h2l)).trans h.es)];rfl,aq rfl,Y ?_⟩;refine f8 (decide_eq_false (by lia)) (f7 (U (by lia) d3 ((H 0 (by exact Nat.le_of_add_left_le h2l)).trans h.em) (by exact bG Vd (Nat.le_add_left _ _)) λf b n' M4 Qw hb hd jy d4 e4 l4 s4=>?_));have s:∀j,j<M.length->j≠0->M4[j]?=M[j]?:=λj u j0=>(s4 j (by exact bw u hM3) (by lia) j0).trans (H j u);refine⟨aq rfl,G (d:=ZM ⟨pn L.length x,o.length,f⟩) ((s 1 (by exact Nat.lt_of_succ_lt h2l) (by decide)).trans h.es) (by rw[ao];exact bG (dF hL) (Nat.le_add_left _ _)) ?_⟩;have e2:(M4.set 1 (aa (.lst (L.map (λx=>ZM x.1)++[ZM ⟨pn L.length x,o.length,f⟩]))))[2]?=aa (aa (.lst (L.map λx=>.loc x.2))):=(aJ (by decide)).trans ((s 2 (by exact h2l) (by decide)).trans h.er);refine⟨by rw[iS e2];rfl,G e2 (by rw[ao];exact bG (dF hL) (Nat.le_add_left _ _)) (q (o++mZ f) (L++[(⟨pn L.length x,o.length,f⟩,k)]) _ _ _ (by simp) ⟨?_,λy g=>?_,λj p m=>?_⟩ ⟨?_,?_,?_,λy g=>?_,?_⟩)⟩
 .rw[ba];exact .snoc (p:=⟨pn L.length x,o.length,f⟩) hi.ch rfl
 .rcases bt.mp g with g|g
  .exact hi.ok y g
  .rw[bj.mp g];exact⟨ahF _ hL _ v,⟨b,hb,Qw⟩,hd,by show st f<=14;lia⟩
 .rw[ba] at m;by_cases u:j<(L.map aQ).length
  .rw[aX u] at m;exact hi.nm j p m
  .rw[cT (by exact Nat.le_of_not_lt u)] at m;have w:j- (L.map aQ).length=0:=by have:=(ak.mp m).1;simp at this |-;exact this
   rw[w] at m;cases m;have:j=L.length:=by rw[ao] at u w;lia
   exact⟨x,v,by rw[this]⟩
 .exact(aJ (by decide)).trans ((aJ (by decide)).trans e4)
 .rw[aJ (by decide),bn (by lia),ba];rfl
 .rw[bn (by rw[c9];lia),ba];rfl
 .rcases bt.mp g with g|g
  .obtain⟨a,n,b⟩:=h.dr y g;have:=b.lt;exact⟨a,n,b.of ((aJ (by exact bd a)).trans ((aJ (by lia)).trans (s y.2 (by exact this) (by lia))))⟩
  .rw[bj.mp g];exact⟨by show 3<=k;exact bG h2l hk,n',d4.of ((aJ (by lia)).trans (aJ (by lia)))⟩
 .rw[ba];refine dB.mpr ⟨h.nd,by simp,λa ha b hb e=>?_⟩;obtain⟨y,g,rfl⟩:=bP.mp ha;have hb:b=k:=by simpa using hb
  obtain⟨_,n,d⟩:=h.dr y g;have:=d.lt;lia
abbrev pdD(x:Pq×List Rw):D:=kO (x.1.Mh,x.2)
def Sh.hd(h:Sh b r):∀y t,r=y::t->y.so=.c:=by
 have f:∀s:Sk,s.code=ag->s.so=.c:=λs h=>by cases s<;>first|rfl|cases h
 induction h with
 |nil=>exactλ_ _ h=>nomatch h
 |@snoc b r cs e ds j g i=>
  intro y t a;cases r with
  |nil=>
   cases cs with
   |nil=>cases a;exact f _ g.ec
   |cons c cs=>cases a;exact f _ (g.c _ aN)
  |cons z r=>cases a;exact i _ _ rfl
def Ch.code(h:Ch l f)(a:∀p∈l,p.ok)(g:l≠[]):∃s∈f,s.so=.c:=by
 cases l with
 |nil=>exact absurd rfl g
 |cons p l=>
  obtain⟨b,y,r,e⟩:=(a p aN).hd;obtain⟨i,_,hb⟩:=(a p aN).sh;rw[e] at hb;have:=(h.at p aN).2 0 y (by rw[e];rfl);exact⟨y,bA this,hb.hd y _ rfl⟩
def L1.go(h:L1 f L M)(i:3<=k)(d:Dr c k n)(s:nW M c k):L1 f L c:=by
 have g:∀j,j<3->c[j]?=M[j]?:=λj p=>s.2 j (by have:=(ak.mp h.er).1;exact bw p this) (by lia);refine⟨(g 0 (by decide)).trans h.em,(g 1 (by decide)).trans h.es,(g 2 (by decide)).trans h.er,λx m=>?_,h.nd⟩;obtain⟨a,o,b⟩:=h.dr x m;by_cases e:x.2=k
 .rw[e];exact⟨i,n,d⟩
 .exact⟨a,o,b.of (s.2 _ b.lt e)⟩
theorem L1.set(h:L1 e L M)(f:3<=j)(hn:∀x∈L,x.2≠j):L1 e L (M.set j o):=
 ⟨(aJ (by lia)).trans h.em,(aJ (by lia)).trans h.es,(aJ (by exact dh f)).trans h.er,λx c=>let⟨a,n,b⟩:=h.dr x c;⟨a,n,b.of (aJ λz=>hn x c z.symm)⟩,h.nd⟩
def afU{R:List (Pq×List Rw)}{M:Ms}{kp:Nat}{x:Pq×Nat}{j:D}{m o:Option D}{E:jp}(y:e.length<100)(hc:∃s∈e,s.so=.c)(r:x∈L)(iO:x.1.ok)(h:L1 e L M)(a:M[kp]?=aa (aa (.lst (R.map pdD))))(A:3<=kp)(hn:∀x∈L,x.2≠kp)(J:R.length<=4)
(q:∀(rs:List Rw) (g:Ms),Ar e x.1.i x.1.f rs->L1 e L g->g[kp]?=aa (aa (.lst ((R++[(x.1,rs)]).map pdD)))->E.nx [aa j,aa (.loc 0),aa (.loc 1),aa (.loc 2),m,o,aa (.loc x.2),aa (.str x.1.Mh),aa (.loc kp),aa (.lst (jq x.1.i x.1.f))] g):
  pC qJ E [aa j,aa (.loc 0),aa (.loc 1),aa (.loc 2),m,o,aa (.loc x.2),aa (.str x.1.Mh),aa (.loc kp),aa (.lst (jq x.1.i x.1.f))] M:=by obtain⟨B,n,hd⟩:=h.dr x r;obtain⟨b,C,G⟩:=iO.sh;have N:=iO.len;have u:=@NX;unfold pC;generalize iT=ga at u |-;refine⟨by rw[iS a];rfl,_,rfl,rfl,CK (by lia) y hc h.em (λ_ _=>rfl) x.1.f x.1.i n [] M (λp a=>G.ok _ (bP.mpr ⟨p,a,rfl⟩)) (by show 0+_<=_;lia) hd nW.refl λrs O g ha H v=>?_⟩;have I:=h.go B H v;have w:=(v.2 kp (ak.mp a).1 (λz=>hn x r z.symm)).trans a;refine⟨aq rfl,u w (by rw[ao];exact bG J (Nat.le_add_left _ _)) (q rs _ ha (I.set A hn) ?_)⟩;rw[bn (ak.mp w).1,ba];rfl
theorem Jy{ks:List Sk}{k m:Nat}:∀(B:Nat) (a:List Pt) (M:Ms),(∀(i:Nat) (p:Pt),a[i]?=aa p->M[B+i]?=aa (aa (.lst (p.2.map Rw.d))))->(AE B a).map (Ie M 2)=a.map kO
 |B,[],M,_=>rfl
 |B,p::a,M,h=>by
  have b:=h 0 p rfl;have e:=Jy (ks:=ks) (k:=k) (m:=m) (B+1) a M λi p c=>by have:=h (i+1) p c;rwa [show B+(i+1)=B+1+i by lia] at this
  show Ie M 2 _::(AE (B+1) a).map _=kO p::_;congr 1;show D.tup [Ie M 1 _,Ie M 1 (.loc B)]=D.tup _;have e1:Ie M 1 (.loc B)=.lst (p.2.map Rw.d):=by unfold Ie;rw[iS (show M[B]?=aa _ from b)];show D.lst _=_;have:(Ie M 0)=id:=rfl;rw[this,List.map_id]
  rw[e1];rfl
def UG (a:List Pt):Prop:=∃b c,c<=4/\Gd b c a
def GL:GP:=λds Q=>∃cs:List Int,ds=[.lst (iD cs)]/\1<=cs.length/\cs.length<=4/\∀a:List Pt,UG a->Q (.lst (a.map kO))
def GO:i9 GL:=by rintro ds P Q w ⟨cs,a,b,c,q⟩;exact ⟨cs,a,b,c,λe h=>w _ (q e h)⟩
def afV{M:Ms}{Q:DK}(g:M[kp]?=aa (aa (.lst (e.map kO))))(h:M[m]?=aa (aa (.lst (sT 0 a))))(i:Dr M k n)(j:k≠m)(o:a≠[])(p:Gd a 0 e)
(q:∀(b:List Pt) (c:Nat) (f:Ms),c<=4->Gd a c b->b.map aQ=e.map aQ->Fd a k m M.length b f->Q (.lst (AE M.length b)) f):CP [.loc kp,.loc m,.loc k] M Q:=⟨kp,m,k,n,a,e,rfl,g,h,i,j,o,p,q⟩
def Yc{L:List (Pq×Nat)}:c7 (λa b=>D.tup [a,b]) (L.map λx=>ZM x.1) (L.map λx=>D.loc x.2)=L.map λx=>D.tup [ZM x.1,.loc x.2]:=by
 induction L with
 |nil=>rfl
 |cons x L c=>simp only [bq,dW,c]
def UH(h:I1 m L)(n:L.length<=4):((L.map aQ).map Pq.Mh).Nodup:=by rw[List.nodup_iff_pairwise_ne,eY];intro i j hi a o e;simp only [ao] at hi a;rw[List.getElem_map,List.getElem_map (f:=Pq.Mh)] at e;obtain⟨x,b,ex⟩:=h.nm i _ (ax (by rw[ao];exact hi));obtain⟨y,c,g⟩:=h.nm j _ (ax (by rw[ao];exact a));rw[ex,g] at e;have:=acS i (by exact bw hi n) j (by exact bw a n) x b y c e;lia
def UI:(iD cs).mapIdx (λi d=>D.tup [.int i,d])=cs.zipIdx.map λx=>D.tup [.int x.2,.int x.1]:=by apply List.ext_getElem?;intro i;simp only [aiw,bh,List.getElem?_zipIdx];cases cs[i]?<;>simp
def UJ:∀ds Q,GL ds Q->Xc 10 1 (uE mN jc w4 qJ CP) ds Q:=by
 rintro ds Q ⟨cs,h1,h2,h3,q⟩
 subst h1;unfold uE;have fB:=@afT;have fC:=@afU;generalize pB mN jc w4=bB at fB |-;generalize pC qJ=bC at fC |-;refine⟨rfl,bD _,bD _,bD _,iD cs,rfl,rfl,?_⟩;rw[UI];refine iz (λx:Int×Nat=>D.tup [.int x.2,.int x.1]) (λpre xs A M=>pre++xs=cs.zipIdx/\∃(o:List Sk) (L:List (Pq×Nat)) (T U s u:Option D),L.length=pre.length/\I1 o L/\L1 o L M/\A=[aa (.lst (iD cs)),aa (.loc 0),aa (.loc 1),aa (.loc 2),T,U,s,u,ar,ar]) (λ_ _ _ _ _=>rfl) _ [] _ _ ⟨rfl,[],[],ar,ar,ar,ar,rfl,⟨.nil,(λ_ h=>nomatch h),(λj p h=>nomatch h)⟩,⟨rfl,rfl,rfl,(λ_ h=>nomatch h),eP⟩,rfl⟩ (λpre x xs A M v N hN=>?_) (λpre A M v=>?_)
 .obtain⟨H,o,L,T,U,s,u,Y,hi,w,rfl⟩:=v;have je:pre.length+(xs.length+1)=cs.length:=by rw[<-fj (l:=cs) (i:=0),<-H,aE];rfl
  have r:x.2=pre.length:=by
   have:cs.zipIdx[pre.length]?=aa x:=by rw[<-H];simp
   rw[List.getElem?_zipIdx] at this;cases e:cs[pre.length]? with
   |none=>rw[e] at this;cases this
   |some c=>rw[e] at this;cases this;simp
  obtain⟨c,j⟩:=x;have r:j=L.length:=r.trans Y.symm;subst r;refine⟨rfl,rfl,fB h3 (by lia) hi w λy6 L' I s u B MS h'=>hN _ _ ⟨by rw[bi];exact H,y6,L',aa (.int L.length),aa (.int c),s,u,by rw[B,Y,aE];rfl,MS,h',rfl⟩⟩
 .obtain⟨H,o,L,T,U,s,u,Y,hi,w,rfl⟩:=v;rw[bu] at H;have je:L.length=cs.length:=by rw[Y,H,fj]
  have iO:∀p∈L.map aQ,p.ok:=λp v=>by obtain⟨x,r,rfl⟩:=bP.mp v;exact hi.ok x r
  have Vd:o.length<100:=by have:=hi.ch.len iO;rw[ao] at this;lia
  have vR:L.map aQ≠[]:=λz=>by have:=congrArg cG z;rw[ao] at this;simp at this;rw[this] at je;simp at je;exact Nat.not_succ_le_zero _ (je▸h2)
  have UK:=hi.ch.code iO vR;have hM3:=(ak.mp w.er).1;have hnk:∀x∈L,x.2≠M.length:=λx r z=>by obtain⟨_,n,d⟩:=w.dr x r;have:=d.lt;lia
  have B:L1 o L (M++[aa (.lst [])]):=by have g:∀j,j<M.length->(M++[aa (OD.lst [])])[j]?=M[j]?:=λj hj=>aX hj;exact⟨(g 0 (by exact Nat.le_of_add_left_le hM3)).trans w.em,(g 1 (by exact Nat.lt_of_succ_lt hM3)).trans w.es,(g 2 (by exact hM3)).trans w.er,λx r=>let⟨a,n,b⟩:=w.dr x r;⟨a,n,b.of (g _ b.lt)⟩,w.nd⟩
  have J:(M++[aa (OD.lst [])])[M.length]?=aa (aa (.lst (([]:List (Pq×List Rw)).map pdD))):=by simp
  refine⟨bD _,L.map (λx=>ZM x.1),L.map (λx=>.loc x.2),by rw[iS B.es];rfl,by rw[iS B.er];rfl,⟨rfl,rfl⟩,?_⟩;rw[Yc];refine iz (λx:Pq×Nat=>D.tup [ZM x.1,.loc x.2]) (λpre xs A I=>pre++xs=L/\∃(R:List (Pq×List Rw)) (s u o9:Option D),R.map aQ=pre.map aQ/\(∀y∈R,Ar o y.1.i y.1.f y.2)/\L1 o L I/\I[M.length]?=aa (aa (.lst (R.map pdD)))/\A=[aa (.lst (iD cs)),aa (.loc 0),aa (.loc 1),aa (.loc 2),T,U,s,u,aa (.loc M.length),o9]) (λa b A I v=>?_) _ [] _ _ ⟨rfl,[],s,u,ar,rfl,(λ_ h=>nomatch h),B,J,rfl⟩ (λpre x xs A I v N hN=>?_) (λpre A I v=>?_)
  .obtain⟨_,R,s,u,o9,_,_,h,_,_⟩:=v;exact⟨by rw[iS h.es,iS B.es],by rw[iS h.er,iS B.er]⟩
  .obtain⟨O,R,s,u,o9,C,hA,h,J,rfl⟩:=v;have r:x∈L:=by rw[<-O];simp
   have hRl:R.length<=4:=by
    have e1:R.length=pre.length:=by have:=congrArg cG C;simpa using this
    have e2:pre.length<=L.length:=by rw[<-O];simp
    lia
   refine⟨rfl,rfl,rfl,rfl,fC Vd UK r (hi.ok x r) h J (by exact hM3) hnk hRl λrs M2 ha h2 ahG=>hN _ _ ⟨by rw[bi];exact O,R++[(x.1,rs)],_,_,_,?_,λy E=>?_,h2,ahG,rfl⟩⟩
   .rw[ba,ba,C];rfl
   .rcases bt.mp E with E|E
    .exact hA y E
    .rw[bj.mp E];exact ha
  .obtain⟨O,R,s,u,o9,C,hA,h,J,rfl⟩:=v;rw[bu] at O;subst O;have eRl:R.length=pre.length:=by have:=congrArg cG C;simpa using this
   have hg:Gd o 0 (R.map λx=>(x.1.Mh,x.2)):=by refine X7 (by rw[C];exact hi.ch) (λy E=>iO _ (by rw[<-C];exact bP.mpr ⟨y,E,rfl⟩)) hA ?_ (by lia) (by lia);have:=UH hi (by exact je▸h3);rw[<-C,bx] at this;exact this
   cases cs with
   |nil=>simp at h2
   |cons c cs=>
    have f2:=@UF;have f3:=@afV;unfold pE;generalize mN=gd at f2 |-;generalize CP=gm at f3 |-;refine⟨.int c,DR (k:=0) rfl,⟨by decide,by decide⟩,f2 (many:=20) (by decide) λk M2 hk d2 l2 s2=>?_⟩;have hM':=(ak.mp J).1;refine f3 (show M2[M.length]?=aa (aa (.lst ((R.map λx=>(x.1.Mh,x.2)).map kO))) by rw[s2 _ hM',J,bx];rfl) ((s2 0 (by exact Nat.le_of_add_left_le hM')).trans h.em) d2 (by lia) (λz=>by rw[z] at UK;obtain⟨_,hs,_⟩:=UK;cases hs) hg λG c' M3 YA g' en hF=>?_;have ef:Ie M3 3 (.lst (AE M2.length G))=.lst (G.map kO):=by show D.lst ((AE M2.length G).map (Ie M3 2))=_;rw[Jy (ks:=o) (k:=k) (m:=0) _ _ _ hF.rows]
    show nl (Ie M3 3 (.lst (AE M2.length G)))=ag/\Q (Ie M3 3 (.lst (AE M2.length G)));rw[ef];exact⟨FJ.l8 G,q G ⟨o,c',YA,g'⟩⟩
def ahH(h:i<=j)(q:Q (.bl ag) M):wx (.int i) (.int j) M Q:=by show Q _ M;rw[decide_eq_true h];exact q
def ahI(h:¬i<=j)(q:Q (.bl au) M):wx (.int i) (.int j) M Q:=by show Q _ M;rw[decide_eq_false h];exact q
def afW(h:i<j)(q:Q (.bl ag) M):U9 (.int i) (.int j) M Q:=by show Q _ M;rw[decide_eq_true h];exact q
def afX(h:¬i<j)(q:Q (.bl au) M):U9 (.int i) (.int j) M Q:=by show Q _ M;rw[decide_eq_false h];exact q
def afY(h:i≠j)(q:Q (.bl ag) M):Dl (.int i) (.int j) M Q:=by show Q _ M;rw[beq_false_of_ne h];exact q
def acT(h:i=j)(q:Q (.bl au) M):Dl (.int i) (.int j) M Q:=by subst h;show Q _ M;rw[beq_self_eq_true];exact q
def yz (a:aw):Kb:=λds Q X=>∃b:Int,ds=[.int b]/\(1<=b/\b<=64->Q .non)/\(¬(1<=b/\b<=64)->X ⟨a,[],[]⟩)
def DU:BQ (yz e):=by rintro ds P Q x y w v ⟨b,h,a,c⟩;exact ⟨b,h,λz=>w _ (a z),λz=>v _ (c z)⟩
def Qo:∀ds Q X,yz i ds Q X->Av 1 1 (nq (cl kg) i) ds Q X:=by
 rintro ds Q X ⟨b,h,j,g⟩
 subst h;have c:=@ahH;have f:=@ahI;unfold nq;generalize wx=m at c f |-;refine⟨rfl,rfl,b,rfl,?_⟩;by_cases a:1<=b
 .by_cases e:b<=64
  .exact c a (c e (j ⟨a,e⟩))
  .exact c a (f e ⟨rfl,rfl,g λz=>e z.2⟩)
 .exact f a ⟨rfl,rfl,g λz=>a z.1⟩
def Mj (a:aw):Kb:=λds Q X=>∃b s:Int,ds=[.int b,.int s]/\(1<=b/\b<=64/\0<=s/\s%b=0->Q .non)/\(¬(1<=b/\b<=64/\0<=s/\s%b=0)->X ⟨a,[],[]⟩)
def Jz:BQ (Mj e):=by rintro ds P Q x y w v ⟨b,s,h,a,c⟩;exact ⟨b,s,h,λz=>w _ (a z),λz=>v _ (c z)⟩
def Yd:∀ds Q X,Mj e ds Q X->Av 2 2 (pG (yz e) (cl kg) e) ds Q X:=by
 rintro ds Q X ⟨b,s,h,n,c⟩
 subst h;have f:=@afW;have g:=@afX;have i:=@afY;have j:=@acT;unfold pG;generalize U9=o at f g |-;generalize Dl=p at i j |-;refine⟨rfl,rfl,b,rfl,λhb=>?_,λhb=>⟨rfl,c λz=>hb ⟨z.1,z.2.1⟩⟩⟩;refine⟨rfl,s,rfl,?_⟩;by_cases m:s<0
 .exact f m ⟨rfl,rfl,c λz=>by lia⟩
 .refine g m ⟨by lia,?_⟩;by_cases a:s%b=0
  .exact j a (n ⟨hb.1,hb.2,by exact Int.not_lt.mp m,a⟩)
  .exact i a ⟨rfl,rfl,c λz=>a z.2.2.2⟩
abbrev Lay:=List (aY×List Int)
noncomputable def tU(l:Lay):D:=.jD (kA l) (vA (λxs=>.lst (xs.map .int)) l)
noncomputable def ZO(l:List (aY×Int)):D:=.jD (kA l) (vA D.int l)
noncomputable def up(b e:Int):Int:=(e+b- 1)/b*b
noncomputable def Kc(b:Int)(lay:Lay):Int->List aY->List (aY×Int)
 |_,[]=>[]
 |e,n::r=>(n,up b e)::Kc b lay (up b e+((iC n lay).getD []).sum) r
theorem zt(b:Int)(lay:Lay):∀(e:Int) (r:List aY),(Kc b lay e r).map aQ=r
 |_,[]=>rfl
 |e,n::r=>by show n::_=_;rw[zt]
theorem zu:∀{l:List (aY×β)},w∉l.map aQ->iC w l=ar
 |[],_=>rfl
 | (x,v)::l,h=>by unfold iC;rw[if_neg λe=>h (by rw[e];exact aN)];exact zu λz=>h (aB _ z)
def NY (c:CA):GP:=λds Q=>∃(br:Br) (b s:Int) (lay:Lay),ds=[nV c br,.int b,.int s,tU lay]/\1<=b/\b<=64/\(br.map aQ).Nodup/\br.length<=100/\(∀p∈br,(iC p.1 lay).isSome=ag)/\Q (ZO (Kc b lay s (br.map aQ)))
def Ml:i9 (NY c):=by rintro ds P Q w ⟨br,b,s,lay,h,a,e,f,g,i,q⟩;exact ⟨br,b,s,lay,h,a,e,f,g,i,w _ q⟩
def x4(xs:List Int):lC (xs.map D.int)=ag:=jQ (λ_=>rfl) xs
def acU{c:CA}:∀ds Q,NY c ds Q->j8 7 4 Ac ds Q:=by
 rintro ds Q ⟨br,b,s,lay,h,E,G,v,H,w,q⟩
 subst h;refine⟨rfl,?_⟩;refine⟨kA br,_,rfl,trivial,?_⟩;have y:(kA br).map zY=br.map λp=>D.str p.1:=by unfold kA;rw[bx];rfl
 rw[y];refine iz (λp:aY×List Rw=>D.str p.1) (λpre xs j M=>pre++xs=br/\∃(d:List (aY×Int)) (e:Int) (m:Option D),M=[aa (.jD (kA d) (vA D.int d))]/\d++Kc b lay e (xs.map aQ)=Kc b lay s (br.map aQ)/\j=[aa (nV c br),aa (.int b),aa (.int s),aa (tU lay),aa (.loc 0),aa (.int e),m]) (λ_ _ _ _ _=>trivial) _ [] _ _ ⟨rfl,[],s,ar,rfl,rfl,rfl⟩ (λpre x xs j M n N A=>?_) (λpre j M n=>?_)
 .obtain⟨f,d,e,m,rfl,a,rfl⟩:=n;obtain⟨o,u⟩:=cY.mp (w x (by rw[<-f];simp));have g:(Kc b lay s (br.map aQ)).map aQ=br.map aQ:=zt _ _ _ _;have r:x.1∉d.map aQ:=by have:=g▸v;rw[<-a,ba] at this;have:=(dB.mp this).2.2;exactλz=>this _ z x.1 (by rw[zt];exact aN) rfl
  have i:=zu r;have J8:d.length<=100:=by have:=congrArg cG a;have e2:=congrArg cG g;rw[aE] at this;rw[ao,ao] at e2;lia
  have B:uH x.1 (up b e) d=d++[(x.1,up b e)]:=by unfold uH;rw[i];rfl
  refine⟨⟨show 0<b by exact E,show b<18446744073709551616 by exact Int.lt_of_le_of_lt G (by decide)⟩,.inr ⟨by exact Int.lt_of_lt_of_le (by decide) E,by exact Int.lt_of_le_of_lt G (by decide)⟩,_,_,.inr x.1,rfl,rfl,by unfold kA;rw[ao,bp];lia,?_⟩;show iV 5 (ij iW (ij jl (hV 4) (hV 6)) (iJ K7 (hU (ij jl (hV 3) (hV 6)) hX))) _ [aa (nV c br),aa (.int b),aa (.int s),aa (tU lay),aa (.loc 0),aa (.int e),aa (.str x.1)] [aa (OD.jD (qc (.inr x.1) (D.int (up b e)) (kA d) (vA D.int d)).1 (qc (.inr x.1) (D.int (up b e)) (kA d) (vA D.int d)).2)];rw[ES];rw[B];have C:iC x.1 (d++[(x.1,up b e)])=aa (up b e):=by rw[CL,i,if_pos rfl];rfl
  refine⟨.inr x.1,.int (up b e),rfl,by rw[lx,C];rfl,.inr x.1,.lst (o.map .int),rfl,by rw[lx,u];rfl,o,rfl,?_⟩;refine A _ _ ⟨by rw[<-f,bi];rfl,d++[(x.1,up b e)],_,_,rfl,?_,rfl⟩;rw[<-a,bi];show d++((x.1,up b e)::Kc b lay (up b e+o.sum) (xs.map aQ))=d++((x.1,up b e)::Kc b lay (up b e+((iC x.1 lay).getD []).sum) (xs.map aQ));rw[u];rfl
 .obtain⟨f,d,e,m,rfl,a,rfl⟩:=n;rw[show([]:List (aY×List Rw)).map aQ=[] from rfl] at a;have a:d++[]=_:=a;rw[bu] at a;subst a;refine⟨?_,q⟩;show lC (vA D.int _)=ag;unfold vA;exact jQ (λ_=>rfl) _
def ZP (b s:Int):Prop:=1<=b/\b<=64/\0<=s/\s%b=0
def yA(lay:Lay):nl (tU lay)=ag:=by exact jQ (f:=λx:aY×List Int=>D.lst _) (λx=>x4 x.2) lay
def yB(a:List Pt):(iY a).map aQ=(FJ.qH a).map aQ:=by unfold iY;rw[bx];rfl
def AZ(h:(a.map aQ).Nodup):((iY a).map aQ).Nodup:=by rw[yB];exact((FJ.jk a).map aQ).nodup_iff.mpr h
def CQ(h:p∈iY a):∃q∈a,p=(q.1,FJ.bare q.2):=by obtain⟨q,b,rfl⟩:=bP.mp h;exact⟨q,(FJ.jk a).mem_iff.mp b,rfl⟩
def GQ(a:List Pt):(iY a).length=a.length:=by unfold iY;rw[ao,(FJ.jk a).length_eq]
noncomputable def zw(a:List Pt):List aY:=(iY a).map aQ
def yC (c:aw):Kb:=λds Q X=>∃(a:List Pt) (b s:Int) (lay:Lay),ds=[.lst (a.map kO),.int b,.int s,tU lay]/\vW a/\(∀p∈a,(iC p.1 lay).isSome=ag)/\(ZP b s->Q (ZO (Kc b lay s (zw a))))/\(¬ZP b s->X ⟨c,[],[]⟩)
def DV:BQ (yC i):=by rintro ds P Q x y w v ⟨a,b,s,lay,h,c,e,f,g⟩;exact ⟨a,b,s,lay,h,c,e,λz=>w _ (f z),λz=>v _ (g z)⟩
def acV(l:List (aY×Int)):nl (ZO l)=ag:=by exact jQ (λ_=>rfl) l
def Qp:∀ds Q X,yC f ds Q X->Av 6 4 (ID (cl (uJ c)) (Mj f) (cl (NY c))) ds Q X:=by
 rintro ds Q X ⟨a,b,s,lay,h,e,g,i,j⟩
 subst h;refine⟨rfl,FJ.uG a,a,rfl,e,rfl,rfl,?_⟩;refine⟨rfl,b,s,rfl,λhb=>?_,λhb=>⟨rfl,j hb⟩⟩;refine⟨?_,iY a,b,s,lay,rfl,hb.1,hb.2.1,AZ e.lk.EM.nd,by rw[GQ];have:=e.lk.EM.hi;exact bG this (Nat.le_add_left _ _),λp m=>?_,acV _,i hb⟩
 .show(nl _&&(ag&&(ag&&(nl _&&ag))))=ag;rw[FJ.uI,yA];rfl
 .obtain⟨q,n,rfl⟩:=CQ m;exact g q n
def GR (c:aw):Kb:=λds Q X=>∃(a:List Pt) (b:Int),ds=[.lst (a.map kO),.int b]/\vW a/\¬(1<=b/\b<=64)/\X ⟨c,[],[]⟩
def GU:BQ (GR f):=by rintro ds P Q x y w v ⟨a,b,h,c,e,q⟩;exact ⟨a,b,h,c,e,v _ q⟩
def G0:GN:=λ_ _ _=>False
def UL:∀ds Q X,GR e ds Q X->Av 4 2 (uB (cl (uJ c)) (yz e) G0) ds Q X:=by rintro ds Q X ⟨a,b,h,f,g,q⟩;subst h;exact⟨rfl,FJ.uG a,a,rfl,f,rfl,rfl,rfl,b,rfl,λz=>absurd z g,λ_=>⟨rfl,q⟩⟩
structure XB(K:af)(PE BB NL:aw):Prop where
 sub:Lo K BB PE
 get:Pp K BB
 isB:bb K (.ref BB) (.ref BB)=aa ag
 isN:bb K (.ref BB) (.ref NL)=aa au
def nr:GP:=λds Q=>∃(a:List Pt) (b s:Int) (lay:Lay) (way:Int),ds=[.lst (a.map kO),.int b,.int s,tU lay,.int way]/\vW a/\(∀p∈a,(iC p.1 lay).isSome=ag)/\(way=0/\¬(1<=b/\b<=64)\/way=1/\¬ZP b s)/\Q (.bl ag)
def CS:i9 nr:=by rintro ds P Q w ⟨a,b,s,lay,way,h,c,e,f,q⟩;exact ⟨a,b,s,lay,way,h,c,e,f,w _ q⟩
def Mm{PE a e:aw}(x:XB K PE a e):∀ds Q,nr ds Q->j8 7 5 (wd K PE (GR a) (yC a) a e) ds Q:=by
 rintro ds Q ⟨f,b,s,lay,way,h,g,j,m,q⟩
 subst h;have i:∀(M:Ms),(Lo K a PE/\(iV 5 (hV 6)) (dEd 6 {nx:=(iu (ue (iJ (Ti K) (hU (hV 5) (hU (dC (.cls a)) hX))) (Ei (iJ (Ti K) (hU (hV 5) (hU (dC (.cls e)) hX)))))) ⟨λ_ _=>Q .non,λd c=>nl (fz c d)=ag/\Q (fz c d),λ_ _=>False,λ_ _=>False⟩,rt:=λd c=>nl (fz c d)=ag/\Q (fz c d),bk:=λ_ _=>False,ct:=λ_ _=>False}) [aa (.lst (f.map kO)),aa (.int b),aa (.int s),aa (tU lay),aa (.int way),aa .non,aa (.exc a [] [])] M):=by intro M;refine⟨x.sub,?_⟩;exact⟨ag,x.get,x.isB,au,x.get,x.isN,rfl,q⟩
 refine⟨rfl,?_⟩;rcases m with⟨rfl,hb⟩|⟨rfl,hb⟩
 .refine⟨by show(lC _&&(ag&&ag))=ag;rw[FJ.l8];rfl,f,b,rfl,g,hb,?_⟩;exact i _
 .refine⟨?_,f,b,s,lay,rfl,g,j,λz=>absurd z hb,λ_=>i _⟩;show(lC _&&(ag&&(ag&&(nl _&&ag))))=ag;rw[FJ.l8,yA];rfl
def lq:GP:=λds Q=>∃rs:List Rw,ds=[.lst (rs.map Rw.d),.str ll]/\rs.length<=1000/\Q (.lst ((FJ.bare rs).map Rw.d))
def pI:i9 lq:=by rintro ds P Q w ⟨rs,h,a,q⟩;exact ⟨rs,h,a,w _ q⟩
def wW:∀ds Q,lq ds Q->j8 2 2 wb ds Q:=by
 rintro ds Q ⟨rs,h,c,q⟩
 subst h;refine⟨rfl,_,rfl,rfl,?_⟩;refine iU (st:=λa=>vw a _=vw [] _) Rw.d Rw.d (λr=>!r.jj) rfl rs [] (by rw[bp];show 0+_<=_;exact Nat.add_le_add (aq rfl) c) (λr e f b=>?_) ⟨?_,q⟩
 .have:=b [aa r.d,aa _] rfl;cases r<;>exact⟨_,rfl,this⟩
 .exact FJ.uF _
theorem EW:∀a:List Pt,wG (a.map kO) (a.map aQ)
 |[]=>trivial
 |p::a=>⟨⟨_,rfl⟩,EW a⟩
def GV:GP:=λds Q=>∃a:List Pt,ds=[.lst (a.map kO)]/\(a.map aQ).Nodup/\a.length<64/\(∀p∈a,p.2.length<=1000)/\Q (.lst ((iY a).map kO))
def GW:i9 GV:=by rintro ds P Q w ⟨a,h,b,c,e,q⟩;exact ⟨a,h,b,c,e,w _ q⟩
def UM:∀ds Q,GV ds Q->j8 1 1 (Co (cl lq)) ds Q:=by
 rintro ds Q ⟨a,h,b,c,e,q⟩
 subst h;refine⟨rfl,_,rfl,rfl,?_⟩;refine iI (st:=λf=>vw f _=vw [] _) kO (λp=>kO (p.1,FJ.bare p.2)) rfl a [] (by rw[bp];show 0+_<=_;exact Nat.add_le_add (aq rfl) (dF c)) (λp g m i=>?_) ?_
 .refine⟨rfl,rfl,?_,p.2,rfl,e p g,aq rfl,i _ rfl⟩;show(lC _&&(ag&&ag))=ag;rw[FJ.uF];rfl
 .rw[eA];have em:a.map (λp=>kO (p.1,FJ.bare p.2))=(a.map λp=>((p.1,FJ.bare p.2):Pt)).map kO:=by rw[bx];rfl
  have j:a.map aQ=(a.map λp=>((p.1,FJ.bare p.2):Pt)).map aQ:=by rw[bx];rfl
  have es:kb (a.map aQ) (a.map λp=>kO (p.1,FJ.bare p.2))=(iY a).map kO:=by rw[FJ.EO];unfold iY FJ.qH;rw[bx];rfl
  refine⟨_,a.map aQ,rfl,by rw[em,j];exact EW _,b,by rw[ao];exact c,?_⟩;rw[es];exact⟨FJ.l8 _,q⟩
def EY:GN:=λds M Q=>∃(xs:List Int) (k n:Nat),ds=[.lst (xs.map .int),.loc k]/\xs≠[]/\Dr M k n/\∀(x:Int) (b:Nat) (a:Ms),Dr a k b->nW M a k->Q (.int x) a
def Mn:kx EY:=by rintro ds M P Q w ⟨xs,k,n,h,c,e,q⟩;exact ⟨xs,k,n,h,c,e,λx f g a b=>w _ _ (q x f g a b)⟩
def acW:∀ds M Q,EY ds M Q->tJ 2 2 (EJ jc) ds M Q:=by rintro ds M Q ⟨xs,k,n,h,a,b,q⟩;subst h;have g:=List.length_pos_iff.mpr a;have f:=@uK;generalize jc=i at f |-;refine⟨rfl,xs.length,by show aa _=_;rw[ao],f (by exact Int.ofNat_lt.mpr g) b λr M1 c m _ e s1=>?_⟩;obtain⟨j,rfl⟩:=cn c;exact Um (ax (by lia)) (q _ _ M1 e s1)
noncomputable def Xq:Rw->List Int
 |.jump _|.jumpif _ _|.call _|.load _ _ _|.jumpby _ _=>[2,3]
 |.set _ _|.alike _ _ _=>[5]
 |.numbers ns=>[2+4*ns.length]
 |.table ws=>[2+2*ws.length]
 |_=>[1]
def Ye(r:Rw):Xq r≠[]:=by cases r<;>exact di _ _
def zd:GP:=λds Q=>∃r:Rw,ds=[r.d]/\Q (.lst ((Xq r).map .int))
def JD:i9 zd:=by rintro ds P Q w ⟨r,h,q⟩;exact ⟨r,h,w _ q⟩
def Yf:∀ds Q,zd ds Q->j8 1 1 wc ds Q:=by
 rintro ds Q ⟨r,h,q⟩
 subst h;cases r with
 |numbers ns=>
  walk_at "f";rw[ao];exact q
 |table ns=>
  walk_at "f";rw[ao];exact q
 |_=>
  refine⟨rfl,?_⟩;walk_at "f";exact q
mutual
theorem CT:∀d:D,L3.pl d=ag->yV d d=ag
 |.non,_=>rfl
 |.bl b,_=>by cases b<;>rfl
 |.int i,_=>by unfold yV;simp
 |.str s,_=>by unfold yV;simp
 |.tup ds,h=>by unfold yV;unfold L3.pl at h;exact zx ds h
 |.lst ds,h=>by unfold yV;unfold L3.pl at h;exact zx ds h
 |.ty _,h=>by unfold L3.pl at h;cases h
 |.p6 ns,h=>by unfold L3.pl at h;cases h
 |.cls _,h=>by unfold L3.pl at h;cases h
 |.loc _,h=>by unfold L3.pl at h;cases h
 |.jD _ _,h=>by unfold L3.pl at h;cases h
 |.ins _ _ _,h=>by unfold L3.pl at h;cases h
 |.exc _ _ _,h=>by unfold L3.pl at h;cases h
theorem zx:∀ds:List D,L3.AN ds=ag->Dk ds ds=ag
 |[],_=>rfl
 |d::ds,h=>by unfold Dk;unfold AN at h;rw[aZ] at h;rw[CT d h.1,zx ds h.2];rfl
end
def Gd.rev(g:Gd e c a):Gd e c a.reverse:=by
 have m:∀{p:Pt},p∈a.reverse->p∈a:=λh=>List.mem_reverse.mp h;have sp:(Jq _).Perm (Jq a):=(List.reverse_perm a).flatMap_right _;exact⟨by rw[List.length_reverse];exact g.lo,by rw[List.length_reverse];exact g.hi,λp h=>g.w p (m h),by rw[List.map_reverse];exact(List.reverse_perm _).nodup_iff.mpr g.nd1,λp h=>g.o1 p (m h),λp h=>g.o2 p (m h),λp h=>g.m p (m h),λp h=>g.ok p (m h),λp h=>g.ends p (m h),λp h=>g.Zr p (m h),λp h=>g.al p (m h),
  λi s h=>let⟨p,f,b,hb⟩:=g.has i s h;⟨p,List.mem_reverse.mpr f,b,hb⟩,sp.nodup_iff.mpr g.nd,by rw[sp.length_eq];exact g.few,g.Qm⟩
def UN(nd:(a.map aQ).Nodup):FJ.qH a.reverse=FJ.qH a:=by
 have b:∀l:List Pt,(l.map aQ).zip l=l.map λp=>(p.1,p):=λl=>by
  induction l with
  |nil=>rfl
  |cons x l c=>rw[bq,cQ,c];rfl
 unfold FJ.qH kb;congr 1;refine L3.FC ((L3.pq _ _).trans ?_) (L3.wE _ _) (zW nd);rw[b,b];exact(List.reverse_perm a).map _
def Yg(nd:(a.map aQ).Nodup):zw a.reverse=zw a:=by unfold zw;rw[yB,yB,UN nd]
def afZ(f:β->D){i:Nat}(a:(kA l)[i]?=aa k)(hd:(vA f l)[i]?=aa d):∃x∈l,k=.inr x.1/\d=f x.2:=by
 unfold kA at a;unfold vA at hd;rw[bh] at a hd;cases e:l[i]? with
 |none=>rw[e] at a;cases a
 |some x=>rw[e] at a hd;cases a;cases hd;exact⟨x,bA e,rfl,rfl⟩
def eqv_refl(f:β->D)(a:∀x,L3.pl (f x)=ag)(hd:∀x,dp (f x)<=60)(nd:(l.map aQ).Nodup):Le (kA l) (vA f l) (kA l) (vA f l):=by refine⟨rfl,λi k d b c=>?_⟩;obtain⟨x,e,rfl,rfl⟩:=afZ f b c;exact⟨f x.2,by rw[lx,AW nd (e)];rfl,⟨a _,a _,hd _,hd _⟩,CT _ (a _)⟩
def acX(hw:oS p.1=ag)(c:∀r∈p.2,r.ok=ag):L3.pl (kO p)=ag/\dp (kO p)<=5:=by
 obtain⟨a,b⟩:=ZK c;constructor
 .show(ah5 p.1&&(L3.AN _&&ag))=ag;rw[vO hw,a];rfl
 .show max 0 (max (Db _+1) 0)+1<=5;lia
theorem NZ:∀{ps:List Pt},(∀p∈ps,oS p.1=ag/\∀r∈p.2,r.ok=ag)->L3.AN (ps.map kO)=ag/\Db (ps.map kO)<=5
 |[],_=>⟨rfl,bD _⟩
 |p::ps,h=>by obtain⟨a,b⟩:=NZ λq e=>h q (aB _ e);obtain⟨c,d⟩:=acX (h p aN).1 (h p aN).2;rw[bq];unfold L3.AN Db;rw[a,c];exact⟨rfl,Nat.max_le.mpr ⟨d,b⟩⟩
def CU:GP:=λds Q=>∃(xs:List Int) (k:Nat),ds=[.p6 xs,.int k]/\∀c:Int,Q (.int c)
def JH:i9 CU:=by rintro ds P Q w ⟨xs,k,h,q⟩;exact ⟨xs,k,h,λc=>w _ (q c)⟩
def Yh:∀ds Q,CU ds Q->j8 2 2 wa ds Q:=by
 rintro ds Q ⟨xs,k,h,q⟩
 subst h;have b:=@afW;have c:=@afX;refine⟨rfl,xs.length,rfl,?_⟩;by_cases a:(k:Int)<xs.length
 .refine b a ⟨xs[k]'(by lia),DR (ax (by lia)),rfl,q _⟩
 .exact c a ⟨rfl,q 0⟩
def N0(hb:1<=b)(h:e%b=0):up b e=e:=by
 unfold up;have e1:e+b- 1=(b- 1)+b*(e/b):=by have:=Int.mul_ediv_add_emod e b;lia
 rw[e1,Int.add_mul_ediv_left _ _ (by exact Int.ne_of_gt hb),Int.ediv_eq_zero_of_lt (by lia) (by lia),Int.zero_add,Int.mul_comm];lia
def N2(hb:1<=b)(h:e%b≠0):up b (e+1)=up b e/\e<up b e:=by
 have f:=aio e (show b≠0 by exact Int.ne_of_gt hb);have g:=Int.emod_lt_of_pos e (show 0<b by exact hb);have hm:=Int.mul_ediv_add_emod e b;have key:∀r:Int,1<=r->r<=b->(b*(e/b)+r+b- 1)/b*b=b*(e/b)+b:=by intro r i j;rw[show b*(e/b)+r+b- 1=(r- 1)+b*(e/b+1) by rw[Int.mul_add];lia,Int.add_mul_ediv_left _ _ (by exact Int.ne_of_gt hb),Int.ediv_eq_zero_of_lt (by lia) (by lia),Int.zero_add,Int.add_mul,Int.mul_comm (e/b)];lia
 have a:=key (e%b) (by lia) (by exact Int.le_of_lt g);have c:=key (e%b+1) (by lia) (by exact g);unfold up;rw[hm] at a;rw[show b*(e/b)+(e%b+1)=e+1 by lia] at c;rw[a,c];exact⟨rfl,by lia⟩
abbrev GS(a:aw):GN:=cl λds Q=>yC a ds Q λ_=>False
def acY{K:af}{x0 c f g h i j o p:Option D}{n:aY}{b s e:Int}{lay:Lay}{st:List (aY×Int)}{xs:List Int}{M:Ms}{E:jp}(hb:1<=b)(y:iC n st=aa (up b e))(z:iC n lay=aa xs)
(q:E.nx [x0,c,f,g,aa (tU lay),aa (.str n),h,i,aa (.int b),aa (.int s),j,o,p,aa (ZO st),aa (.int (up b e+xs.sum))] M):
  lwW K E [x0,c,f,g,aa (tU lay),aa (.str n),h,i,aa (.int b),aa (.int s),j,o,p,aa (ZO st),aa (.int e)] M:=by
 have u:=@afY;have r:=@acT;unfold lwW;generalize Dl=A at u r |-;have B:∀a:Int,up b a=up b e->a%b=0->(ii (i5 (Dh (ie (ij A (yG fi HY (hV 13) (hU (hV 5) hX)) (hV 14))) (ie (iJ (kH K) (hU (ij jl (hV 13) (hV 5)) (hU (dC (.ty hB)) hX))))) (iu (dC (.bl au))) iy)
   (iV 14 (ij iW (hV 14) (iJ K7 (hU (ij jl (hV 4) (hV 5)) hX))))) E [x0,c,f,g,aa (tU lay),aa (.str n),h,i,aa (.int b),aa (.int s),j,o,p,aa (ZO st),aa (.int a)] M:=by
  intro a ha hm;rw[N0 hb hm] at ha;subst ha;have v1:mf (.inr n) (kA st) (vA D.int st)=aa (.int (up b e)):=by rw[lx,y];rfl
  have C:mf (.inr n) (kA lay) (vA (λxs=>D.lst (xs.map .int)) lay)=aa (.lst (xs.map .int)):=by rw[lx,z];rfl
  refine⟨rfl,.inr n,rfl,?_⟩;rw[v1];refine r rfl ?_;refine⟨.inr n,.int (up b e),rfl,v1,au,rfl,?_⟩;exact⟨.inr n,_,rfl,C,xs,rfl,q⟩
 refine⟨(up b e- e).toNat+1,wC (λm v w=>w=M/\∃a:Int,up b a=up b e/\a<=up b e/\m=(up b e- a).toNat/\v=[x0,c,f,g,aa (tU lay),aa (.str n),h,i,aa (.int b),aa (.int s),j,o,p,aa (ZO st),aa (.int a)]) (λm v w G N H=>?_) _ _ _ ⟨rfl,e,rfl,?_,rfl,rfl⟩ _ (eW _)⟩
 .obtain⟨rfl,a,x,J,L,rfl⟩:=G;refine⟨show 0<b by exact hb,?_⟩;by_cases hm:a%b=0
  .exact r hm (B a x hm)
  .obtain⟨I,O⟩:=N2 hb hm;exact u hm (H _ _ _ (show(up b e- (a+1)).toNat<m by lia) ⟨rfl,a+1,I.trans x,by lia,rfl,rfl⟩)
 .by_cases hm:e%b=0
  .rw[N0 hb hm];exact Int.le_refl _
  .exact Int.le_of_lt (N2 hb hm).2
theorem UG.lb(h:UG a):vW a:=let⟨_,_,hc,g⟩:=h;g.lb hc
theorem UG.rev(h:UG a):UG a.reverse:=let⟨b,c,hc,g⟩:=h;⟨b,c,hc,g.rev⟩
def acZ(nd:(l.map aQ).Nodup):Le (kA l) (vA D.int l) (kA l) (vA D.int l):=eqv_refl D.int (λ_=>rfl) (λ_=>bD _) nd
def Yk{l:Lay}(nd:(l.map aQ).Nodup):Le (kA l) (vA (λxs=>D.lst (xs.map .int)) l) (kA l) (vA (λxs=>D.lst (xs.map .int)) l):=eqv_refl (λxs:List Int=>D.lst _) (λx=>Jt x) (λx=>by show Db _+1<=60;rw[Ju];decide) nd
def ac0{a:List Pt}{b s:Int}{lay:Lay}{M:Ms}{E:jp}(f:UG a)(hb:ZP b s)(u:∀p∈a,(iC p.1 lay).isSome=ag)(q:E.rt (.bl ag) M):
  lwD K (GS Q) E [x0,aa (.lst (a.map kO)),v,aa (.lst ((iY a).map kO)),aa (tU lay),w,y,A,aa (.int b),aa (.int s),B,C,G,aa (ZO (Kc b lay s (zw a))),ar] M:=by
 have H:=@acY K;have nd:=AZ f.lb.lk.EM.nd;refine⟨_,rfl,rfl,?_⟩;refine iz kO (λpre xs g i=>i=M/\pre++xs=iY a/\∃(d:List _) (e:Int) (j m:Option D),d++Kc b lay e (xs.map aQ)=Kc b lay s (zw a)/\g=[x0,aa _,v,aa _,aa _,j,m,A,aa (.int b),aa (.int s),B,C,G,aa _,aa (.int e)]) (λ_ _ _ _ _=>rfl) _ [] _ _ ⟨rfl,rfl,[],s,w,y,rfl,rfl⟩ (λpre x xs g i h N I=>?_) (λpre g i h=>?_)
 .obtain⟨rfl,n,d,e,j,m,o,rfl⟩:=h;obtain⟨p,r,J⟩:=CQ (show x∈iY a by rw[<-n];simp);obtain⟨T,c⟩:=cY.mp (u p r);rw[show p.1=x.1 by rw[J]] at c;have L:iC x.1 (Kc b lay s (zw a))=aa (up b e):=by refine AW (by rw[zt];exact nd) ?_;rw[<-o];exact bL _ aN
  refine⟨rfl,rfl,H hb.1 L c (I _ _ ⟨rfl,by rw[bi];exact n,d++[(x.1,up b e)],_,_,_,?_,rfl⟩)⟩;rw[<-o,bi];show d++((x.1,up b e)::Kc b lay _ _)=d++((x.1,up b e)::Kc b lay _ _);rw[c];rfl
 .obtain⟨rfl,n,d,e,j,m,o,rfl⟩:=h;refine⟨_,rfl,?_,a.reverse,b,s,lay,?_,f.rev.lb,λp O=>u p (List.mem_reverse.mp O),λ_=>?_,λz=>z hb⟩
  .show(lC _&&(ag&&(ag&&(nl _&&ag))))=ag;rw[<-List.map_reverse,FJ.l8,yA];rfl
  .rw[List.map_reverse];rfl
  .rw[Yg f.lb.lk.EM.nd];exact⟨acZ (by rw[zt];exact nd),q⟩
noncomputable def lyD(x:aY×List Int):D:=.tup [.str x.1,.lst (x.2.map .int)]
def Qq(lay:Lay):qf (kA lay) (vA (λxs=>D.lst (xs.map .int)) lay)=lay.map lyD:=by
 unfold qf kA vA;induction lay with
 |nil=>rfl
 |cons x l a=>rw[bq,bq,dW,a];rfl
def ac1{K:af}{e:aw}{x0 n o r u v:Option D}{c:List Pt}{b s:Int}{lay:Lay}{M:Ms}{E:jp}(g:UG c)(hb:ZP b s)(i:∀p∈c,(iC p.1 lay).isSome=ag)(hn:lay.map aQ=zw c)(q:E.rt (.bl ag) M):
  lwC K (GS e) E [x0,aa (.lst (c.map kO)),n,aa (.lst ((iY c).map kO)),aa (tU lay),o,r,u,aa (.int b),aa (.int s),v,ar,ar,ar,ar] M:=by
 have fd:=@ac0 K e;have lb:=g.lb;have nd:(lay.map aQ).Nodup:=by rw[hn];exact AZ lb.lk.EM.nd
 have G:lay.length<=12:=by have:=congrArg cG hn;unfold zw at this;rw[ao,ao,GQ] at this;have:=lb.lk.EM.hi;lia
 unfold lwC;generalize lwD K (GS e)=H at fd |-;refine⟨kA lay,_,rfl,trivial,?_⟩;rw[Qq];refine iI (st:=λ_=>True) lyD lyD trivial lay [] (by rw[bp];show 0+_<=_;lia) (λx y A f=>⟨rfl,rfl,aq rfl,f [aa (.str x.1),aa (.lst (x.2.map .int))] rfl⟩) ?_;rw[eA];have e1:lay.map lyD=(lay.map λx=>((.inr x.1,D.lst (x.2.map .int)):Key×D)).map prD:=by rw[bx];rfl
 have e2:(lay.map λx=>((.inr x.1,D.lst (x.2.map .int)):Key×D)).map (·.1)=kA lay:=by rw[bx];rfl
 have e3:(lay.map λx=>((.inr x.1,D.lst (x.2.map .int)):Key×D)).map (·.2)=vA (λxs=>D.lst (xs.map .int)) lay:=by rw[bx];rfl
 refine⟨lay.map λx=>(.inr x.1,D.lst (x.2.map .int)),congrArg D.lst e1,?_,?_⟩
 .rw[e2];unfold kA;have:lay.map (λx=>(dg x.1:Key))=(lay.map aQ).map dg:=by rw[bx];rfl
  rw[this];exact aik _ (λa b h z=>h (dg.inj z)) nd
 rw[e2,e3];refine⟨_,rfl,rfl,?_⟩;refine iI (st:=λB=>vw B (D.lst (c.map kO))=vw M (D.lst (c.map kO))) kO kO rfl c [] (by rw[bp];have:=lb.lk.EM.hi;show 0+_<=_;lia) (λx y A f=>⟨rfl,rfl,aq rfl,f [aa (.str x.1),aa (.lst (x.2.map Rw.d))] rfl⟩) ?_;rw[eA];refine⟨aq rfl,?_⟩;have j:=@acT;obtain⟨pp,I⟩:=NZ (ps:=c) λp m=>⟨(lb.lk.EM.all p m).w,lb.lk.rows p m⟩;have C:(kA (Kc b lay s (zw c))).length=((iY c).map kO).length:=by have:=congrArg cG (zt b lay s (zw c));unfold zw at this |-;rw[ao,ao] at this;unfold kA;rw[ao,ao,this]
 generalize Dl=J at j |-;refine⟨_,rfl,_,rfl,?_,c,b,s,lay,rfl,lb,i,λ_=>?_,λz=>z hb⟩
 .show(lC (c.map kO)&&(ag&&(ag&&(nl (tU lay)&&ag))))=ag;rw[FJ.l8,yA];rfl
 refine⟨aq rfl,⟨⟨pp,pp,?_,?_⟩,CT (.lst (c.map kO)) pp⟩,⟨_,_,_,_,rfl,rfl,Yk nd⟩,?_⟩
 .show Db (c.map kO)+1<=60;exact d6 I (Nat.le_add_left _ _)
 .show Db (c.map kO)+1<=60;lia
 refine⟨ag,rfl,_,rfl,_,rfl,j (by rw[C]) ?_⟩;exact fd g hb i q
def af0{lay:Lay}{way:Int}{M:Ms}{Q:DK}(c:UG a)(e:∀p∈a,(iC p.1 lay).isSome=ag)(h:way=0/\¬(1<=b/\b<=64)\/way=1/\¬ZP b s)(q:Q (.bl ag) M):cl nr [.lst (a.map kO),.int b,.int s,tU lay,.int way] M Q:=by refine⟨?_,a,b,s,lay,way,rfl,c.lb,e,h,q⟩;show(lC _&&(ag&&(ag&&(nl _&&(ag&&ag)))))=ag;rw[FJ.l8,yA];rfl
def ac2{a:List Pt}{b c:Int}{lay:Lay}{M:Ms}{E:jp}(j:UG a)(hb:1<=b/\b<=64)(m:∀p∈a,(iC p.1 lay).isSome=ag)(q:E.rt (.bl ag) M):
  lwX (cl nr) E [x0,aa (.lst (a.map kO)),n,o,aa (tU lay),r,s,aa (.int c),aa (.int b),u,C,v,w,e,f] M:=by
 have fr:=@af0;unfold lwX;generalize cl nr=g at fr |-;refine⟨aq rfl,⟨by decide,by decide⟩,⟨by decide,by decide,by decide⟩,show(0:Int)<10^9 by decide,aq rfl,aq rfl,aq rfl,aq rfl,aq rfl,?_⟩;refine⟨⟨by decide,by decide⟩,show(0:Int)<5 by decide,?_⟩;show∃d,C8 _ (c/1024%5)=aa d/\_;have A:c/1024%5=0\/c/1024%5=1\/c/1024%5=2\/c/1024%5=3\/c/1024%5=4:=by lia
 have two:∀x:Int,¬(1<=x/\x<=64)->(ii (i5 (yR (ie (ij tV (ij jl (hV 10) (dC (.int 1))) (dC (.int 0)))) (mT (ie (iJ g (hU (hV 1) (hU (ij jl (hV 10) (dC (.int 0))) (hU (dC (.int 0)) (hU (hV 4) (hU (dC (.int 0)) hX))))))))) (iu (dC (.bl au))) iy)
   (iu (iJ g (hU (hV 1) (hU (ij jl (hV 10) (dC (.int 0))) (hU (ij jl (hV 10) (dC (.int 1))) (hU (hV 4) (hU (dC (.int 1)) hX)))))))) E [x0,aa (.lst (a.map kO)),n,o,aa (tU lay),r,s,aa (.int c),aa (.int b),u,aa (.tup [.int x,.int 0]),v,w,e,f] M:=by intro x i;refine⟨_,rfl,_,rfl,fr j m (.inl ⟨rfl,i⟩) ⟨_,rfl,_,rfl,fr j m (.inr ⟨rfl,λz=>i ⟨z.1,z.2.1⟩⟩) q⟩⟩
 have one:∀x y:Int,y≠0->¬ZP x y->(ii (i5 (yR (ie (ij tV (ij jl (hV 10) (dC (.int 1))) (dC (.int 0)))) (mT (ie (iJ g (hU (hV 1) (hU (ij jl (hV 10) (dC (.int 0))) (hU (dC (.int 0)) (hU (hV 4) (hU (dC (.int 0)) hX))))))))) (iu (dC (.bl au))) iy)
   (iu (iJ g (hU (hV 1) (hU (ij jl (hV 10) (dC (.int 0))) (hU (ij jl (hV 10) (dC (.int 1))) (hU (hV 4) (hU (dC (.int 1)) hX)))))))) E [x0,aa (.lst (a.map kO)),n,o,aa (tU lay),r,s,aa (.int c),aa (.int b),u,aa (.tup [.int x,.int y]),v,w,e,f] M:=by intro x y B i;refine⟨_,rfl,?_⟩;show(if(y==0)=ag then _ else _);rw[if_neg (by rw[beq_iff_eq];exact B)];exact⟨_,rfl,_,rfl,fr j m (.inr ⟨rfl,i⟩) q⟩
 rcases A with h|h|h|h|h<;>rw[h]
 .exact⟨_,rfl,two 0 (by decide)⟩
 .exact⟨_,rfl,two _ (by lia)⟩
 .exact⟨_,rfl,two _ (by lia)⟩
 .refine⟨_,rfl,one _ _ (by decide) λz=>?_⟩;have:=z.2.2.2;rw[Int.emod_eq_of_lt (by decide) (by lia)] at this;cases this
 .exact⟨_,rfl,one _ _ (by lia) λz=>by have:=z.2.2.1;lia⟩
def ac3{e:aw}{xs:List Int}{h i j:Option D}{a:List Pt}{lay:Lay}{b:Nat}{M:Ms}{E:jp}(f:UG a)(g:∀p∈a,(iC p.1 lay).isSome=ag)(hn:lay.map aQ=zw a)(m:M[b]?=aa (aa (.jD (kA lay) (vA (λxs=>D.lst (xs.map .int)) lay))))(q:∀n,E.rt (.bl ag) n):
  lwB K (cl CU) (cl nr) (GS e) E [aa (.p6 xs),aa (.lst (a.map kO)),h,aa (.lst ((iY a).map kO)),aa (.loc b),i,j,ar,ar,ar,ar,ar,ar,ar,ar] M:=by
 have o:=@ac2;have fc:=@ac1 K e;unfold lwB;refine⟨b,_,_,rfl,m,rfl,xs,0,rfl,λc=>?_⟩;refine⟨⟨by decide,by decide⟩,show(0:Int)<64 by decide,?_⟩;have hb:1<=1+c/4%64/\1+c/4%64<=64:=by lia
 refine⟨⟨by decide,by decide⟩,⟨by decide,by decide,by decide⟩,show(0:Int)<10^6 by decide,.inl ⟨by lia,by lia⟩,?_⟩;refine⟨show(0:Int)<4 by decide,?_⟩;show(if(c%4==3)=ag then _ else _);have r:ZP _ ((1+c/4%64)*(c/256%10^6)):=⟨hb.1,hb.2,Int.mul_nonneg (by lia) (aio _ (by decide)),Int.mul_emod_right _ _⟩;split
 .exact o f hb g (q _)
 .exact fc f r g hn (q _)
def af1{M:Ms}{Q:DK}(b:xs≠[])(c:Dr M k n)(q:∀(x:Int) (e:Nat) (a:Ms),Dr a k e->nW M a k->Q (.int x) a):EY [.lst (xs.map .int),.loc k] M Q:=⟨xs,k,n,rfl,b,c,q⟩
def ac4{x0 o s:Option D}{k c n:Nat}{p:Pt}{lay:Lay}{M:Ms}{E:jp}(u:k≠c)(hd:Dr M k n)(v:M[c]?=aa (aa (.jD (kA lay) (vA (λxs=>D.lst (xs.map .int)) lay))))(z:p.1∉lay.map aQ)(A:lay.length<=100)(I:p.2.length<=1000)
(q:∀(a:List Int) (f:Nat) (b:Ms),Dr b k f->b[c]?=aa (aa (.jD (kA (lay++[(p.1,a)])) (vA (λxs=>D.lst (xs.map .int)) (lay++[(p.1,a)]))))->E.nx [x0,o,aa (.loc k),s,aa (.loc c),aa (.str p.1),aa (.lst (p.2.map Rw.d)),ar,ar,ar,ar,ar,ar,ar,ar] b):
  lwP EY (cl zd) E [x0,o,aa (.loc k),s,aa (.loc c),aa (.str p.1),aa (.lst (p.2.map Rw.d)),ar,ar,ar,ar,ar,ar,ar,ar] M:=by
 have w:=@af1;unfold lwP;generalize EY=ga at w |-;refine⟨_,rfl,rfl,?_⟩;refine rE (λj acc b=>∃(a:List Int) (f:Nat),acc=a.map .int/\Dr b k f/\nW M b k) (λ_ _ _ _=>rfl) _ 0 [] _ ⟨[],n,rfl,hd,nW.refl⟩ (by rw[ao,bp];show 0+_<=_;exact Nat.add_le_add (aq rfl) I) (λj x acc b g h J B=>?_) (λacc b h=>?_)
 .obtain⟨a,f,rfl,i,m⟩:=h;rw[bh] at g;cases e:p.2[j]? with
  |none=>rw[e] at g;cases g
  |some r=>
   rw[e] at g;cases g;refine⟨by show(nl r.d&&ag)=ag;rw[FJ.Rw.nld];rfl,r,rfl,w (Ye r) i λx C M2 G s2=>B _ _ _ rfl ⟨a++[x],C,by rw[ba];rfl,G,m.trans s2⟩⟩
 .obtain⟨a,f,rfl,i,m⟩:=h;have y:=(m.2 c (ak.mp v).1 (b8 u)).trans v;refine⟨_,_,.inr p.1,y,rfl,by unfold kA;rw[ao,bp];lia,q a f _ (i.of (aJ (b8 u))) ?_⟩;rw[bn (ak.mp y).1];have H:uH p.1 a lay=lay++[(p.1,a)]:=by unfold uH;rw[zu z];rfl
  have:=ES (λxs:List Int=>D.lst (xs.map .int)) p.1 a lay;rw[H] at this;have e1:qc (.inr p.1) (OD.lst (a.map D.int)).toD (kA lay) (vA (λxs=>D.lst (xs.map .int)) lay)=_:=this;rw[e1]
def N3:GP:=λds Q=>∃ns:List Int,ds=[.p6 ns]/\Q (.bl ag)
def Mo:i9 N3:=by rintro ds P Q w ⟨ns,h,q⟩;exact ⟨ns,h,w _ q⟩
def N4(xs:List Int)(a b:Int):cutD (xs.map D.int) (aa a) (aa b)=iD (cutD xs (aa a) (aa b)):=by unfold cutD iD;rw[ao,List.map_take,aeF]
def ac5(xs:List Int):(cutD xs (aa 3) (aa 6)).length<=3:=by unfold cutD;rw[dM,show(3:Int)=((3:Nat):Int) from rfl,show(6:Int)=((6:Nat):Int) from rfl,HT.AH,HT.AH];lia
theorem N5:∀{l:List (aY×β)},w∈l.map aQ->(iC w l).isSome=ag
 | (x,v)::l,h=>by
  unfold iC;by_cases e:x=w
  .rw[if_pos e];rfl
  .rw[if_neg e];exact N5 ((aH.mp h).resolve_left λz=>e z.symm)
def ac6(K:af){s:aw}:∀ds Q,N3 ds Q->j8 15 1 (T0 K (cl GL) (cl CU) mN (cl GV) EY (cl zd) (cl nr) (GS s)) ds Q:=by
 rintro ds Q ⟨xs,h,q⟩
 subst h;unfold T0;have fd:=@UF;have w:=@ac3 K s;have y:=@ac4;generalize mN=gd at fd |-;have hc:=ac5 xs;refine⟨rfl,rfl,xs,1,rfl,λc1=>⟨aq rfl,?_,?_⟩⟩
 .rw[N4];show(List.map D.int _).length+1<=_;rw[ao,bp];lia
 have ec:cutD (xs.map D.int) (aa 3) (aa 6)++[D.int c1]=iD (cutD xs (aa 3) (aa 6)++[c1]):=by rw[N4];unfold iD;rw[ba];rfl
 rw[ec];refine⟨by show(lC (List.map D.int _)&&ag)=ag;rw[x4];rfl,_,rfl,by rw[aE];exact Nat.le_add_left _ _,by rw[aE];show _+1<=4;lia,λa u=>?_⟩;refine⟨rfl,xs,2,rfl,λO=>fd (many:=60) (by decide) λk M1 _ v _ _=>?_⟩;have ok:=u.lb;refine⟨FJ.uG a,a,rfl,ok.lk.EM.nd,by have:=ok.lk.EM.hi;exact d6 this (Nat.le_add_left _ _),λp e=>(ok.lk.EM.all p e).len,?_⟩;have A:=v.lt;refine⟨_,rfl,rfl,?_⟩;refine iz kO (λpre zs f M=>pre++zs=iY a/\∃(lay:Lay) (n:Nat) (g i:Option D),lay.map aQ=pre.map aQ/\Dr M k n/\M[M1.length]?=aa (aa (.jD (kA lay) (vA (λxs=>D.lst (xs.map .int)) lay)))/\f=[aa (.p6 xs),aa (.lst (a.map kO)),aa (.loc k),aa (.lst ((iY a).map kO)),aa (.loc M1.length),g,i,ar,ar,ar,ar,ar,ar,ar,ar]) (λ_ _ _ _ _=>rfl) _ [] _ _ ⟨rfl,[],60,ar,ar,rfl,v.of (aX A),by simp[kA,vA],rfl⟩ (λpre x zs f M h N B=>?_) (λpre f M h=>?_)
 .obtain⟨b,lay,n,g,i,c,hd,j,rfl⟩:=h;have nd:=AZ ok.lk.EM.nd;have C:x∈iY a:=by rw[<-b];simp
  have E:x.1∉lay.map aQ:=by rw[c];rw[<-b,ba] at nd;exactλz=>(dB.mp nd).2.2 _ z x.1 aN rfl
  have m:lay.length<=100:=by have e1:=congrArg cG c;have e2:=congrArg cG b;rw[GQ,aE] at e2;rw[ao,ao] at e1;have:=ok.lk.EM.hi;lia
  have o:x.2.length<=1000:=by obtain⟨p,r,rfl⟩:=CQ C;exact bG (ain _ _) (ok.lk.EM.all p r).len
  refine⟨rfl,rfl,y (by exact bd A) hd j E m o λG H I J L=>B _ _ ⟨by rw[bi];exact b,lay++[(x.1,G)],H,_,_,?_,J,L,rfl⟩⟩;rw[ba,ba,c];rfl
 .obtain⟨b,lay,n,g,i,c,hd,j,rfl⟩:=h;rw[bu] at b;subst b;refine w u (λp e=>N5 ?_) c j λI=>⟨rfl,q⟩;rw[c,yB];exact((FJ.jk a).map aQ).mem_iff.mpr (bP.mpr ⟨p,e,rfl⟩)
open FJ
structure RB(K:af)(C fI fW fA fG:aw):Prop where
 c:CF K C
 nT:aF K (.ref C) eR=aa ar
 aI:aF K (.ref C) kz=aa (aa (.ref fI))
 aW:aF K (.ref C) ix=aa (aa (.ref fW))
 aA:aF K (.ref C) ic=aa (aa (.ref fA))
 aG:aF K (.ref C) im=aa (aa (.ref fG))
def all_mk{l:W.OpenLaw}{w:bJ}{K:af}{h:aC}{mg:aY->Option ai}{fa:aw}(X:K.In h)(G:h.Ns bf mg)(hfa:mg "law"=aa (.ref fa))
{a u L N O T U Y b i cF pJ B zy:aw}{x y fA fG CW UO N6 N7 UP ZQ:aw}{t0 t1 t2 t3 t4 t5 t6 t7 t8 t9:akc}
(uM:bz K bf qs=aa (aa (.ref a)))
(Af:bz K bf "CodeRow"=aa (aa (.ref u)))
(Mt:bz K bf "BoxRow"=aa (aa (.ref L)))
(CY:bz K bf "LastRow"=aa (aa (.ref N)))
(Mu:bz K bf "SetRow"=aa (aa (.ref O)))
(w9:bz K bf "AlikeRow"=aa (aa (.ref T)))
(Mv:bz K bf "AimRow"=aa (aa (.ref U)))
(xa:bz K bf "LeaveRow"=aa (aa (.ref Y)))
(nY:bz K bf uad=aa (aa (.ref b)))
(uN:bz K bf "TableRow"=aa (aa (.ref i)))
(CZ:bz K bf "FORMS"=aa (aa (.ref cF)))
(pL:bz K bf "PartError"=aa (aa (.ref pJ)))
(pM:bz K bf "BadBase"=aa (aa (.ref B)))
(rF:bz K bf "NoLayout"=aa (aa (.ref zy)))
(Ag:RB K a x y fA fG)
(JJ:RB K L x y fA CW)
(Ah:RB K N x y fA UO)
(JK:RB K O x y fA CW)
(uO:RB K T x y N7 CW)
(JL:RB K U x y UP CW)
(uP:RB K Y x y UP N6)
(nZ:RB K b x y fA fG)
(uQ:RB K i x y ZQ fG)
(Ym:MF K kz "Row.__init__" (iF (top 21) 0) x)
(UQ:MF K ix "Row.words" (iF (top 21) 1) y)
(zA:MF K ic "Row.asked" (iF (top 21) 3) fA)
(GX:MF K im "Row.goes_on" (iF (top 21) 4) fG)
(kQ:MF K im uaN (iF (top 23) 0) CW)
(uR:MF K im uaO (iF (top 26) 0) UO)
(rG:MF K im uaQ (iF (top 30) 0) N6)
(rH:MF K ic uaP (iF (top 28) 1) N7)
(sU:MF K ic "AimRow.asked" (iF (top 29) 1) UP)
(yD:MF K ic uaR (iF (top 32) 1) ZQ)
(tb:yW K cF FJ.jq)
(kR:bz K bf "LONGEST_WORD"=aa (aa (.int (8) t0)))
(kU:bz K bf "LONGEST_LIST"=aa (aa (.int (60) t1)))
(pN:bz K bf "LAST_BOX"=aa (aa (.int (3) t2)))
(kW:bz K bf "LEAST_NUMBER"=aa (aa (.int (-2147483648) t3)))
(jV:bz K bf uaK=aa (aa (.int (2147483647) t4)))
(jF:bz K bf uaL=aa (aa (.int (60) t5)))
(mO:bz K bf "MOST_PARTS"=aa (aa (.int (12) t6)))
(oa:bz K bf "MOST_ROWS"=aa (aa (.int (200) t7)))
(mP:bz K bf "MOST_MARKS"=aa (aa (.int (200) t8)))
(jW:bz K bf uaM=aa (aa (.int (64) t9)))
(mQ:bz K bf ol=aa ar)
(JN:bz K bf fw=aa ar)
(C0:bz K bf hB=aa ar)
(JQ:bz K bf fx=aa ar)
(JR:bz K bf mv=aa ar)
(JU:bz K bf "all"=aa ar)
(yE:bz K bf ej=aa ar)
(C1:bz K bf cr=aa ar)
(JV:bz K bf iv=aa ar)
(JY:bz K bf fq=aa ar)
(JZ:bz K bf "sum"=aa ar)
(og:bz K bf jE=aa ar)
(uS:bz K bf hD=aa ar)
(C2:bz K bf fi=aa ar)
(yF:bz K bf mr=aa ar)
(J0:bz K bf "any"=aa ar)
(pO:bz K bf mo=aa ar)
(xf:ig K mg qq (top 13))
(zB:ig K mg rk (top 14))
(oX:ig K mg uac (top 33))
(GY:ig K mg "fits" (top 34))
(C3:ig K mg "is_row" (top 35))
(xg:ig K mg vl (top 36))
(C4:ig K mg "row_of" (top 37))
(nv:ig K mg vp (top 43))
(qR:ig K mg vr (top 44))
(pP:ig K mg vu (top 45))
(zC:ig K mg "is_part" (top 46))
(uT:ig K mg uae (top 47))
(zD:ig K mg "rows_of" (top 48))
(mR:ig K mg vv (top 49))
(lR:ig K mg uaf (top 50))
(uU:ig K mg uag (top 51))
(zE:ig K mg gc (top 53))
(oC:ig K mg uah (top 54))
(xh:ig K mg "marks_in" (top 55))
(pQ:ig K mg vx (top 56))
(nw:ig K mg uai (top 57))
(uV:ig K mg uaj (top 58))
(oF:ig K mg vI (top 59))
(uW:ig K mg uak (top 60))
(xi:ig K mg vT (top 61))
(sV:ig K mg ual (top 62))
(pR:ig K mg uam (top 63))
(C5:ig K mg wg (top 64))
(ny:ig K mg wh (top 69))
(pS:ig K mg uan (top 70))
(pT:ig K mg uao (top 77))
(uX:ig K mg wk (top 78))
(C6:ig K mg wr (top 79))
(pU:ig K mg xC (top 81))
(sW:ig K mg rl (top 82))
(uY:ig K mg ng (top 83))
(uZ:ig K mg xH (top 84))
(u4:ig K mg yQ (top 85))
(u5:ig K mg uaq (top 86))
(u6:ig K mg uas (top 87))
(sX:ig K mg uat (top 88))
(oG:ig K mg uau (top 89))
(u7:ig K mg uaw (top 90))
(sY:ig K mg uay (top 91))
(sZ:ig K mg uaA (top 92))
(pV:ig K mg za (top 93))
(u8:ig K mg uaB (top 94))
(xj:ig K mg "_law_any" (top 97))
(pW:ig K mg zb (top 98))
(pX:ig K mg uaC (top 99))
(UR:ig K mg "law" (top 100))
(qS:ig K mg "least_right" (top 76))
(xk:bb K (.ref a) (.ref a)=aa ag)
(zF:bb K (.ref L) (.ref a)=aa au)
(xl:bb K (.ref N) (.ref a)=aa au)
(zG:bb K (.ref O) (.ref a)=aa au)
(u9:bb K (.ref T) (.ref a)=aa au)
(zH:bb K (.ref U) (.ref a)=aa au)
(vf:bb K (.ref Y) (.ref a)=aa au)
(qT:bb K (.ref b) (.ref a)=aa au)
(vg:bb K (.ref i) (.ref a)=aa au)
(xm:bb K (.ref a) (.ref u)=aa au)
(zI:bb K (.ref L) (.ref u)=aa ag)
(xn:bb K (.ref N) (.ref u)=aa ag)
(zJ:bb K (.ref O) (.ref u)=aa ag)
(vh:bb K (.ref T) (.ref u)=aa ag)
(zK:bb K (.ref U) (.ref u)=aa ag)
(vi:bb K (.ref Y) (.ref u)=aa ag)
(qU:bb K (.ref b) (.ref u)=aa au)
(vj:bb K (.ref i) (.ref u)=aa au)
(qV:bb K (.ref a) (.ref b)=aa au)
(tq:bb K (.ref L) (.ref b)=aa au)
(qW:bb K (.ref N) (.ref b)=aa au)
(tu:bb K (.ref O) (.ref b)=aa au)
(pY:bb K (.ref T) (.ref b)=aa au)
(tz:bb K (.ref U) (.ref b)=aa au)
(pZ:bb K (.ref Y) (.ref b)=aa au)
(nz:bb K (.ref b) (.ref b)=aa ag)
(p0:bb K (.ref i) (.ref b)=aa au)
(vk:bb K (.ref a) (.ref i)=aa au)
(xo:bb K (.ref L) (.ref i)=aa au)
(vm:bb K (.ref N) (.ref i)=aa au)
(xp:bb K (.ref O) (.ref i)=aa au)
(tD:bb K (.ref T) (.ref i)=aa au)
(xq:bb K (.ref U) (.ref i)=aa au)
(tE:bb K (.ref Y) (.ref i)=aa au)
(p4:bb K (.ref b) (.ref i)=aa au)
(tF:bb K (.ref i) (.ref i)=aa ag)
(ac7:bb K (.type qa) (.ref u)=aa au)
(xr:Tn K pJ pJ)
(oh:Tn K B pJ)
(iBB:aF K (.ref B) kz=aa (aa (.builtin uc)))
(vn:bb K (.ref B) (.ref B)=aa ag)
(tG:bb K (.ref B) (.ref zy)=aa au)
  :∃fd:dY,(∀(s:av) (v:ai),aiS s fd ⟨[v],[]⟩ [(oi,v)])/\∀cq:aC,BN K mg cq->j9 l.prog w K mg cq rW 12 fa fd [oi] (kC K (cl N3)):=by
 obtain⟨f,fd,F,m⟩:=id UR;have e:=hfa.symm.trans m;cases e;have mQ:=dt X G mQ;have JN:=dt X G JN;have C0:=dt X G C0;have JQ:=dt X G JQ;have JR:=dt X G JR;have JU:=dt X G JU;have yE:=dt X G yE;have C1:=dt X G C1;have JV:=dt X G JV;have JY:=dt X G JY;have JZ:=dt X G JZ;have og:=dt X G og;have uS:=dt X G uS;have C2:=dt X G C2;have yF:=dt X G yF;have J0:=dt X G J0;have pO:=dt X G pO;have kR:∃t,mg "LONGEST_WORD"=aa (.int (8) t):=⟨_,cP X G kR⟩;have kU:∃t,mg "LONGEST_LIST"=aa (.int (60) t):=⟨_,cP X G kU⟩;have pN:∃t,mg "LAST_BOX"=aa (.int (3) t):=⟨_,cP X G pN⟩;have kW:∃t,mg "LEAST_NUMBER"=aa (.int (-2147483648) t):=⟨_,cP X G kW⟩;have jV:∃t,mg uaK=aa (.int (2147483647) t):=⟨_,cP X G jV⟩;have jF:∃t,mg uaL=aa (.int (60) t):=⟨_,cP X G jF⟩;have mO:∃t,mg "MOST_PARTS"=aa (.int (12) t):=⟨_,cP X G mO⟩;have oa:∃t,mg "MOST_ROWS"=aa (.int (200) t):=⟨_,cP X G oa⟩;have mP:∃t,mg "MOST_MARKS"=aa (.int (200) t):=⟨_,cP X G mP⟩;have jW:∃t,mg uaM=aa (.int (64) t):=⟨_,cP X G jW⟩;have uM:=cP X G uM;have Af:=cP X G Af;have Mt:=cP X G Mt;have CY:=cP X G CY;have Mu:=cP X G Mu;have w9:=cP X G w9;have Mv:=cP X G Mv;have xa:=cP X G xa;have nY:=cP X G nY;have uN:=cP X G uN;have CZ:=cP X G CZ;have pL:=cP X G pL;have pM:=cP X G pM;have rF:=cP X G rF;have Z:Zs mg:=⟨mQ,JN,C0,JQ,JR,JU,yE,C1,JV,JY,JZ,og,uS,C2,yF,J0,pO,kR,kU,pN,kW,jV,jF,mO,oa,mP,jW⟩;refine⟨fd,F.aaL λ_ _ _ _ _ _ _=>rfl,λcq TB=>?_⟩;have rB:Py K B:=⟨oh.obj,oh.call,oh.typ,iBB,oh.kp⟩;have xb:XB K pJ B zy:=⟨oh.sub xr,oh.get,vn,tG⟩;obtain⟨c,hc⟩:∃c:CA,c=CA.mk a a u a L N O T U Y b i:=⟨_,rfl⟩;have cf:∀k,CF K (c.at k):=λk=>by subst hc;cases k<;>first|exact Ag.c|exact JJ.c|exact Ah.c|exact JK.c|exact uO.c|exact JL.c|exact uP.c|exact nZ.c|exact uQ.c
 have nT:∀k,aF K (.ref (c.at k)) eR=aa ar:=λk=>by subst hc;cases k<;>first|exact Ag.nT|exact JJ.nT|exact Ah.nT|exact JK.nT|exact uO.nT|exact JL.nT|exact uP.nT|exact nZ.nT|exact uQ.nT
 have fo:∀k,Eo K (c.at k) eR:=λk=>⟨(cf k).cls,nT k⟩;have aI:∀k,aF K (.ref (c.at k)) kz=aa (aa (.ref x)):=λk=>by subst hc;cases k<;>first|exact Ag.aI|exact JJ.aI|exact Ah.aI|exact JK.aI|exact uO.aI|exact JL.aI|exact uP.aI|exact nZ.aI|exact uQ.aI
 have aW:∀k,aF K (.ref (c.at k)) ix=aa (aa (.ref y)):=λk=>by subst hc;cases k<;>first|exact Ag.aW|exact JJ.aW|exact Ah.aW|exact JK.aW|exact uO.aW|exact JL.aW|exact uP.aW|exact nZ.aW|exact uQ.aW
 have p:FOk K c:=⟨λr=>fo r.kn⟩;have ko:Ub K c:=⟨λk=>(cf k).afj,λk=>by subst hc;cases k<;>first|exact xk|exact zF|exact xl|exact zG|exact u9|exact zH|exact vf|exact qT|exact vg,λk=>by subst hc;cases k<;>first|exact xm|exact zI|exact xn|exact zJ|exact vh|exact zK|exact vi|exact qU|exact vj,λk=>by subst hc;cases k<;>first|exact qV|exact tq|exact qW|exact tu|exact pY|exact tz|exact pZ|exact nz|exact p0,λk=>by subst hc;cases k<;>first|exact vk|exact xo|exact vm|exact xp|exact tD|exact xq|exact tE|exact p4|exact tF,by subst hc;exact ac7⟩;have uM:mg qs=aa (.ref c.Mark):=by subst hc;exact uM
 have Af:mg "CodeRow"=aa (.ref c.Code):=by subst hc;exact Af
 have Mt:mg "BoxRow"=aa (.ref c.Tu):=by subst hc;exact Mt
 have CY:mg "LastRow"=aa (.ref c.Last):=by subst hc;exact CY
 have Mu:mg "SetRow"=aa (.ref c.Set):=by subst hc;exact Mu
 have w9:mg "AlikeRow"=aa (.ref c.Alike):=by subst hc;exact w9
 have Mv:mg "AimRow"=aa (.ref c.Il):=by subst hc;exact Mv
 have xa:mg "LeaveRow"=aa (.ref c.Leave):=by subst hc;exact xa
 have nY:mg uad=aa (.ref c.j5):=by subst hc;exact nY
 have uN:mg "TableRow"=aa (.ref c.Table):=by subst hc;exact uN
 have GZ:∀j,iN l.prog w K mg cq (j+1) qq [eu] (cl kg):=λj=>k7 (LB xf Z) Aw (Ih K);have US:∀j,iN l.prog w K mg cq (j+1) rk [eu] (cl m6):=λj=>k7 (PP zB Z) BY (Lx K);have ac8:=k7 (TK (k:=1) (k9:=λ_ _ _=>False) GY Z (US 0) (GZ 0) (Y7 1 oX (λ_ _ _ _ _ _ us hl=>match us,hl with|[_,_],_=>rfl))) FY (Tt K _);have hIl:=k7 (F7 (k:=2) oX Z ac8) PK (aff K);have af2:=k7 (TK (k:=3) GY Z (US 2) (GZ 2) hIl) Ik (Xm K);have af3:=hasB (TL (k:=4) C3 Z CZ tb af2) Ds (PL K _);obtain⟨_,af4⟩:=Ym.ex;obtain⟨_,af5⟩:=UQ.ex;obtain⟨_,z⟩:=zA.ex;obtain⟨_,Qr⟩:=GX.ex;obtain⟨_,I⟩:=kQ.ex;obtain⟨_,J1⟩:=uR.ex;obtain⟨_,EZ⟩:=rG.ex;obtain⟨_,E1⟩:=rH.ex;obtain⟨_,A0⟩:=sU.ex;obtain⟨_,N8⟩:=yD.ex;have Dc:∀j k,ow l.prog w K mg cq (j+1) (c.at k) (m8 K):=λj k=>aeD ⟨(cf k).Zr,aI k,Ym.fn,(cf k).kc⟩ (Iw af4) (LC af4) Im Xn;have af6:iN l.prog w K mg cq 5 vl [eR] (cl (pA c)):=k7 (LD (k:=3) xg Mu (Dc 2 .Set) w9 (Dc 2 .Alike) CY (Dc 2 .Last) xa (Dc 2 .Leave) Mv (Dc 2 .Il) Mt (Dc 2 .Tu)) Ax (Ip p);have ac9:=Ap (TM (k:=4) C4 Z af3 uM (Dc 3 .Mark) nY (Dc 3 .j5) uN (Dc 3 .Table) af6) Dt (PM p);have UT:∀j C g,lD c C ix g->qN l.prog w K mg cq (j+1) C ix g:=by
  rintro j C g ⟨k,rfl,rfl⟩
  exact methP (cf k).cls ⟨aW k,UQ.fn,UQ.kp⟩ (F6 af5) (Ix af5 Z) F2 (Tx p k)
 have ada:∀j C g,sw c C ic g->qN l.prog w K mg cq (j+1) C ic g:=by
  rintro j C g ⟨k,rfl,rfl⟩
  have cl:=(cf k).cls;cases k;case Mark=>exact yc cl ⟨by subst hc;exact Ag.aA,zA.fn,zA.kp⟩ (mE z) (nU z) jI (mw (by simp))
  case Tu=>exact yc cl ⟨by subst hc;exact JJ.aA,zA.fn,zA.kp⟩ (mE z) (nU z) jI (mw (by simp))
  case Last=>exact yc cl ⟨by subst hc;exact Ah.aA,zA.fn,zA.kp⟩ (mE z) (nU z) jI (mw (by simp))
  case Set=>exact yc cl ⟨by subst hc;exact JK.aA,zA.fn,zA.kp⟩ (mE z) (nU z) jI (mw (by simp))
  case j5=>exact yc cl ⟨by subst hc;exact nZ.aA,zA.fn,zA.kp⟩ (mE z) (nU z) jI (mw (by simp))
  case Alike=>exact yc cl ⟨by subst hc;exact uO.aA,rH.fn,rH.kp⟩ (yi E1) (zf E1 Z) jI (B3 p rfl)
  case Il=>exact yc cl ⟨by subst hc;exact JL.aA,sU.fn,sU.kp⟩ (tM A0) (uA A0) jI (x8 p (.inl rfl))
  case Leave=>exact yc cl ⟨by subst hc;exact uP.aA,sU.fn,sU.kp⟩ (tM A0) (uA A0) jI (x8 p (.inr rfl))
  case Table=>exact yc cl ⟨by subst hc;exact uQ.aA,yD.fn,yD.kp⟩ (yj N8) (zg N8 Z) jI (B4 p rfl)
 have af7:∀j C g,Tz c C im g->qN l.prog w K mg cq (j+1) C im g:=by
  rintro j C g ⟨k,rfl,rfl⟩
  have cl:=(cf k).cls;cases k;case Mark=>exact methP cl ⟨by subst hc;exact Ag.aG,GX.fn,GX.kp⟩ (pF Qr) (qP Qr) jU (Iq (by simp))
  case j5=>exact methP cl ⟨by subst hc;exact nZ.aG,GX.fn,GX.kp⟩ (pF Qr) (qP Qr) jU (Iq (by simp))
  case Table=>exact methP cl ⟨by subst hc;exact uQ.aG,GX.fn,GX.kp⟩ (pF Qr) (qP Qr) jU (Iq (by simp))
  case Last=>exact methP cl ⟨by subst hc;exact Ah.aG,uR.fn,uR.kp⟩ (wN J1) (yh J1) jU (Iq (by simp))
  case Leave=>exact methP cl ⟨by subst hc;exact uP.aG,rG.fn,rG.kp⟩ (vV EZ) (wO EZ) jU (Iq (by simp))
  case Tu=>exact methP cl ⟨by subst hc;exact JJ.aG,kQ.fn,kQ.kp⟩ (ki I) (kK I) jU (NJ (by simp))
  case Set=>exact methP cl ⟨by subst hc;exact JK.aG,kQ.fn,kQ.kp⟩ (ki I) (kK I) jU (NJ (by simp))
  case Alike=>exact methP cl ⟨by subst hc;exact uO.aG,kQ.fn,kQ.kp⟩ (ki I) (kK I) jU (NJ (by simp))
  case Il=>exact methP cl ⟨by subst hc;exact JL.aG,kQ.fn,kQ.kp⟩ (ki I) (kK I) jU (NJ (by simp))
 have Yn:∀j,iN l.prog w K mg cq (j+1) vp [eu] (cl yp):=λj=>k7 (zh nv Z) DC (P6 K);have UU:=λj:Nat=>k7 (Du qR Z (Yn j)) Gr T8;have N9:=λj:Nat=>k7 (Cc pP Z (UU j)) DH P8;have Yo:=λj:Nat=>k7 (PU zC Z (US (j+2)) (N9 j)) Cs (LU K);have ahJ:=λj:Nat=>k7 (Iy uT Z (Yo j) (N9 (j+1)) (UU (j+2))) LW (acG K);have Yp:=k7 (PV (k:=6) zD Z ac9) Cu LX;have adb:∀j,iN l.prog w K mg cq (j+1) vv [hH] (cl (AV c)):=λj=>k7 (ym mR Z uM) Gs (Uc ko);have Yq:=λj:Nat=>k7 (wP lR Z (adb j) (af7 j) Af uM) wT (Cw ko);have Yr:=k7 (Iz (k:=7) uU (ahJ 2) Yp (Yq 5)) DL Qa;have Oa:∀j,iN l.prog w K mg cq (j+5) gc [fv] (cl (rC c)):=λj=>k7 (PY zE TB Z) Cz LY;have UV:=λj:Nat=>k7 (Ay oC Z uM (UT j)) AA (Jc ko);have UW:=λj:Nat=>k7 (LH xh (Oa j) (UV (j+3))) AB Jd;have Ys:∀j,iN l.prog w K mg cq (j+1) vx [nb] FJ.yu:=λj=>Ap (Ce pQ) FJ.DM FJ.Qc;have adc:=λj:Nat=>k7 (zj nw Z (Ys j)) FJ.Gw FJ.Uf;have Yt:=λj:Nat=>k7 (IA uV (UW j) (adc (j+4))) FJ.DP FJ.Qe;have UX:∀j,iN l.prog w K mg cq (j+1) vI [hH] (cl (FJ.lq c)):=λj=>k7 (Az oF Z uM) FJ.pI (FJ.wW ko);have af8:=λj:Nat=>k7 (IB uW Z (Oa j) (UX (j+4))) Je XQ;have hAt:∀j,iN l.prog w K mg cq (j+1) vT ["lists",qx] (cl (XT c)):=λj=>k7 (LI xi) Qf afE;have ahK:=λj:Nat=>k7 (Ga sV Z (UT j) nY uN Af) L7 (acM ko);have af9:=λj:Nat=>k7 (Cf pR Z (ada (j+1)) (ahK j) (hAt (j+1))) Jf XU;have aga:=λj:Nat=>k7 (TR (k:=j+8) C5 (Yr.up (by exact Nat.le_add_left _ _)) (Yt (j+1)) (af8 (j+2)) (af9 (j+5))) FJ.DQ FJ.Qh;have Ob:=λj:Nat=>NC (zk ny Z (GZ j) pM rB) DU Qo;have agb:=λj:Nat=>NC (Cg pS (Ob j) (GZ (j+1)) pM rB) Jz Yd;have ahL:∀j,iN l.prog w K mg cq (j+1) wk [lB,fy,lP,nX] (cl (NY c)):=λj=>k7 (IC uX Z) Ml acU;have Oc:=λj:Nat=>NC (TW C6 (aga j) (agb (j+6)) (ahL (j+8))) DV Qp;have hLR:∀j,iN l.prog w K mg cq (j+1) "least_right" [lB,nR,fy] G0:=λj=>Y7 (j+1) qS (λ_ _ _ _ _ _ us hl=>match us,hl with|[_,_,_],_=>rfl);have ade:=λj:Nat=>NC (Ci pT (aga j) (Ob (j+7)) (hLR (j+8))) GU UL;have agc:∀j,iN l.prog w K mg cq (j+1) xC [oi,ma] (cl CU):=λj=>k7 (Dw pU Z) JH Yh;have UY:∀j,iN l.prog w K mg cq (j+1) rl [pd,ra] mN:=λj=>Ap (IE sW Z) GA Ul;have J:∀j,iN l.prog w K mg cq (j+1) ng [ew,kv] jc:=λj=>Ap (LJ uY) Jg XV;have agd:∀j,iN l.prog w K mg cq (j+1) xH [ma] (cl sS):=λj=>k7 (LL uZ) Ji XY;have age:∀j,iN l.prog w K mg cq (j+1) yQ [ky,px] uL:=λj=>Ap (LM u4 Z) Jv Ya;have agf:=λj:Nat=>Ap (LN u5 Z (J j) (age j)) Jx Yb;have adf:=λj:Nat=>Ap (LO u6 (J j)) Jh XW;have adg:=λj:Nat=>Ap (IF sX Z (J (j+1)) (adf j)) GC Up;have agg:=λj:Nat=>Ap (Cm oG Z (J (j+2)) (adg j) (agd (j+2))) Jk X1;have agh:=λj:Nat=>Ap (LP u7 Z (J j)) Jl X2;have adh:=λj:Nat=>Ap (IG sY Z (agh j) (J (j+1))) GG Uu;have adi:=λj:Nat=>k7 (IH sZ Z (UY (j+3)) (J (j+3)) (agg j) (adh (j+1)) (agf (j+2))) GO UJ;have Qs:∀j,iN l.prog w K mg cq (j+1) za [ky,py] (cl lq):=λj=>k7 (Dx pV) pI wW;have adj:=λj:Nat=>k7 (LQ u8 Z (Qs j)) GW UM;have ahM:=λj:Nat=>Ap (P5 xj Z (J j)) Mn acW;have agi:∀j,iN l.prog w K mg cq (j+1) zb [nN] (cl zd):=λj=>k7 (Dy pW Z) JD Yf;have UZ:=λj:Nat=>k7 (Dz pX Z pL (ade j) (Oc j) pM rF) CS (Mm xb);have hL:=OU F Cp.hb Cp.hc Cp.sc (λiQ A cv s H E hr=>afw (P:=l.prog) (w:=w) (cq:=cq) (k:=11) Z (adi 6) (agc 10) (UY 10) (adj 9) (ahM 9) (agi 10) (UZ 0) (Oc 1).calm fa iQ A cv s H E hr);exact hL.imp λvs H Q E ⟨F,α,M,ds,o,r,n,q⟩=>⟨F,α,M,ds,o,r,n,ac6 K _ _ q⟩
end mS
open PySem PySem.W PyProof.Rows
local macro_rules | `(tactic| walk_at "e") => `(tactic| (refine' L2.RG (by assumption) (by assumption) ?a ?l ?c ?k; (case a => k_is); (case l => k_is); (case c => k_is); (case k => k_is)))
local macro_rules | `(tactic| walk_at "k") => `(tactic| (refine' FJ.afk ?l ?c ?k ?i; (case l => k_is); (case c => k_is); (case k => k_is); (case i => k_is)))
local macro_rules | `(tactic| walk_at "l") => `(tactic| (refine' ⟨⟨?a1, ?a2, ?a3, ?a4, ?a5, ?a6, ?a7, ?a8, ?a9, ?a10⟩, ?b1, ?b2, ?b3, ?b4, ?b5⟩; (case a1 => k_is); (case a2 => k_is); (case a3 => k_is); (case a4 => k_is); (case a5 => k_is); (case a6 => k_is); (case a7 => k_is); (case a8 => k_is); (case a9 => k_is); (case a10 => k_is); (case b1 => k_is); (case b2 => k_is); (case b3 => k_is); (case b4 => k_is); (case b5 => k_is)))
local macro_rules | `(tactic| walk_at "k_row") => `(tactic| (refine KTD.Rows.cons rfl ?_ ?_; focus (refine' FJ.ab2 ?va ?vb ?vc ?vd ?ve; (case va => k_is); (case vb => rfl); (case vc => rfl); (case vd => exact aq rfl); (case ve => (repeat (first | exact FJ.TD | refine FJ.PN ?_))))))
local macro_rules | `(tactic| walk_at "i") => `(tactic| first | k_is | kernel_rfl | rfl)
local macro_rules | `(tactic| walk_at "y") => `(tactic| (refine' ⟨?e1, ?e2, ?e3, ?e4, ?e5, ?e6, ?e7, ?e8, ?e9, ?e10, ?e11, ?e12, ?Fh, ?e14, L3.abS ?e15 ?e16 ?e17 ?e18⟩; (case e1 => walk_at "i"); (case e2 => unfold L2.Ta; kernel_rfl); (case e3 => walk_at "i"); (case e4 => walk_at "i"); (case e5 => walk_at "i"); (case e6 => walk_at "i"); (case e7 => walk_at "i"); (case e8 => walk_at "i"); (case e9 => walk_at "i"); (case e10 => walk_at "i"); (case e11 => walk_at "i"); (case e12 => walk_at "i"); (case Fh => walk_at "i"); (case e14 => walk_at "i"); (case e15 => k_is); (case e16 => walk_at "i"); (case e17 => first | rfl | kernel_rfl | k_is); (case e18 => first | rfl | kernel_rfl | k_is)))
local macro_rules | `(tactic| walk_at "k_exi") => `(tactic| (refine' L3.ahN ?e1 ?e2 ?e3 ?e4 ?e5; (case e1 => k_is); (case e2 => k_is); (case e3 => k_is); (case e4 => k_is); (case e5 => k_is)))
namespace PySem.W.Fast
def tw10099328169006776352:=0
def tw4589692627331659779:=0
def tw11760303256148109059:=0
def tw14024455199570495012:=0
def tw12728238945302224901:=0
def tw8102850753523454757:=0
def tw4314232156325254534:=0
def tw1875945353277870984:=0
def tw13162528750797819913:=0
def tw2929938276198512938:=0
def tw18261773729845265867:=0
def tw1206890428540867853:=0
def tw11324682756581356558:=0
def tw8716922627768281870:=0
def tw6304434504240447439:=0
def tw921099362186562000:=0
def tw15266496256663242417:=0
def tw9946704736402937458:=0
def tw15728854714461333557:=0
def tw9478681126473262133:=0
def tw1416728028763050294:=0
def tw9474494695597877048:=0
def tw3646333898508199993:=0
def tw13942522613373675001:=0
def tw13764664686500611674:=0
def tw6195210719769151869:=0
def tw3466380603974549245:=0
def tw18156526362484383549:=0
def tw5354825978784257054:=0
def tw16822078440420047550:=0
def tw8359992813659056831:=0
def tw7360203243740939007:=0
def tw9292220882147520058:=0
def tw14545678731255832466:=0
def tw7962947727135070426:=0
def tw6121636463457994383:=0
def tw8497486417044938530:=0
def tw8221574105166825351:=0
def tw15872539407077724900:=0
def tw2611524267318656035:=0
def tw9032239154052536446:=0
def tw4206542356494765371:=0
def tw5926840251379363645:=0
def tw13700870378705902544:=0
def tw2070844385512842923:=0
def tw15356300520059935209:=0
def tw4308328687957225617:=0
def tw1352782534760765020:=0
def tw14546813797367490954:=0
def tw15482865390954091311:=0
def tw18060237696605359152:=0
def tw11322100527585707301:=0
def tw16449209419127278007:=0
def tw14070286574214230317:=0
def tw9775042571740727284:=0
def tw17654321991532586086:=0
def tw13302805423722455663:=0
def tw2752810582314175310:=0
def tw6280846277886763207:=0
def tw5412865703409957603:=0
def tw12159223419687577219:=0
def tw2887587669754754683:=0
def tw15911979916475872277:=0
def tw5131661209790134735:=0
def tw13291509890848039540:=0
def tw16342605482396230748:=0
def tw17624452510902489201:=0
def tw8078530731705763199:=0
def tw9691119706861450726:=0
def tw16006085710841568751:=0
def tw13261877077203999899:=0
def tw14292909885079513071:=0
def tw7657425230131099247:=0
def tw14233588367839080385:=0
def tw7713893933772689752:=0
def tw7635985463945367794:=0
def tw4644510503941511098:=0
def tw8019473409965034989:=0
def tw10322988635351708499:=0
def tw5261775092345257977:=0
def tw6617589670807698509:=0
def tw15023799720153444785:=0
def tw12014565978586775131:=0
def tw9638896469587853106:=0
def tw13043647255998881967:=0
def tw18047815687687834236:=0
def tw2978132581453817026:=0
def tw4477447872368426270:=0
def tw18338681717047980101:=0
def tw17675479501682075738:=0
def tw16155666668226060907:=0
def tw7224992230863724132:=0
def tw7010802140110067264:=0
def tw16172332237927762842:=0
def tw5940680743790308847:=0
def tw16879327873364015674:=0
def tw6419922098135055032:=0
def tw13932138103030223446:=0
def tw7406886420263426680:=0
def tw8048576255510002756:=0
def tw14509513172559166259:=0
def tw6958467417275386775:=0
def tw14088739304758600313:=0
def tw1692502268991076816:=0
def tw1273629889765182504:=0
def tw1290942837236400262:=0
def tw1861253519804359919:=0
def tw14057011739681615969:=0
def tw7521764563718862198:=0
def tw14009975020739966707:=0
def tw11533720539947542965:=0
def tw1249893574434325701:=0
def tw10384084436298084396:=0
def tw18202730421848730656:=0
def tw12350953028444112316:=0
def tw18254779084137739310:=0
def tw13528025281457537211:=0
def tw17494652419070238194:=0
def tw1338154099768266405:=0
def tw13538413493804227753:=0
def tw14523603808750453013:=0
def tw3188019143582729627:=0
def tw156780538942137103:=0
def tw9639893194499123382:=0
def tw5730958620657087598:=0
def tw4778118596956071711:=0
def tw1668294860440894843:=0
def tw6389004309941361224:=0
def tw16455818815114597945:=0
def tw12244148640636788083:=0
def tw10248931495302774236:=0
def tw14331916348751872354:=0
def tw4137080373693312655:=0
def tw3008031963277850865:=0
def tw5421746795938303670:=0
def tw4635851727929527846:=0
def tw6344408018186744692:=0
def tw8468204039944499519:=0
def tw2004895138955875844:=0
def tw12465989651154304463:=0
def tw6169877224978951266:=0
def tw16717255851054393927:=0
def tw1205768225017276677:=0
def tw6086510207473721598:=0
def tw16294989959639353892:=0
def tw14788980832526245313:=0
def tw876946925866971931:=0
def tw4743599727735984438:=0
def tw8848197550959392013:=0
def tw18207028246266706405:=0
def tw10407564105051987522:=0
def tw12215914375733523311:=0
def tw6564380763810296858:=0
def tw5631528158843655150:=0
def tw10624867497024046871:=0
def tw15138496466432050506:=0
def tw10199794489017565199:=0
def tw9178129584187230518:=0
def tw5005683193954070053:=0
def tw9644086011215352574:=0
def tw14967043170907887165:=0
def tw5253369768682989287:=0
def tw13238071404024518844:=0
def tw553318472980232845:=0
def tw1114982339534854383:=0
def tw15322074324754336438:=0
def tw3164372725033704880:=0
def tw4232204669601468591:=0
def tw5101490204515137507:=0
def tw16112485275388794328:=0
def tw6537965006570591791:=0
def tw4690632842117497650:=0
def tw10414937924625031962:=0
def tw15281838492881388927:=0
def tw4660048413835015902:=0
def tw7888942390513917376:=0
def tw6266995184973009406:=0
def tw11878794765724063816:=0
def tw11244476017626251641:=0
def tw1643765230007022955:=0
def tw12386149385221479041:=0
def tw14418773951989641972:=0
def tw16897436365396182607:=0
def tw5445079016765014368:=0
def tw7449677848859260821:=0
def tw10791438620416854578:=0
def tw18060410204692618030:=0
def tw7377510585374533289:=0
def tw6610856229345009943:=0
def tw7000829761333689340:=0
def tw8515923013399544677:=0
def tw4144029334953649290:=0
def tw15114523497767765826:=0
def tw12309562550095437522:=0
def tw14429553651626713415:=0
def tw2759193759339710597:=0
def tw2997817162111385822:=0
def tw12279727810595928795:=0
def tw2647289196187341728:=0
def tw4460576568203909297:=0
def tw13145227670055976678:=0
def tw15094045194663352031:=0
def tw991217780855707998:=0
def tw6286844451183123900:=0
def tw14081348793510484107:=0
def tw1880639450487311347:=0
def tw16840780088925724074:=0
def tw10214987868457319879:=0
def tw8232305057843165817:=0
def tw5098640279226824045:=0
def tw4447296032309947626:=0
def tw16773107884404017093:=0
def tw5779352217008317815:=0
def tw11563537452695133533:=0
def tw2815968532878672378:=0
def tw11488758481615711756:=0
def tw17330763185227599402:=0
def tw3671742278678772553:=0
def tw16433577424797223926:=0
def tw6250409768976717801:=0
def tw4824569497348132140:=0
def tw10613737060109888075:=0
def tw7489618943484321819:=0
def tw6416035309672658083:=0
def tw3309620461330641789:=0
def tw11139145761916925443:=0
def tw11480720032515369600:=0
def tw15447883651906432388:=0
def tw4222780152688873999:=0
def tw16735777525890900014:=0
def tw11174149860736562:=0
def tw13678788228868135826:=0
def tw15755973364469649898:=0
def tw1139558463219252895:=0
def tw15396160836816217576:=0
def tw1058909175513082128:=0
def tw730105421571893335:=0
def tw14490897563197926370:=0
def tw7802740261250652378:=0
def tw6610347405780383205:=0
def tw8313171472194204825:=0
def tw17826367181811657379:=0
def tw1523812066746323845:=0
def tw4489375669575699924:=0
def tw14605580507926569970:=0
def tw13298046231471807516:=0
def tw6031807578856154344:=0
def tw7593125580677845805:=0
def tw1305290384440770539:=0
def tw17138174938754211690:=0
def tw8990245363847428505:=0
def tw14479212258884411402:=0
def tw8256069019683506797:=0
def tw5257665324663147670:=0
def tw4210375813005481777:=0
def tw7460087983898634955:=0
def tw1451731320422051502:=0
def tw13292133487894654305:=0
def tw8211841246442066912:=0
def tw7851508666037777537:=0
def tw704274509444739399:=0
def tw4606411439631968026:=0
def tw2365081585591904321:=0
def tw11339701321050354766:=0
def tw2301610563107120329:=0
def tw12117793758757950344:=0
def tw9944232468694228425:=0
def tw1606030681962635801:=0
def tw10058580761864690231:=0
def tw10326657537088306192:=0
def tw2831979694282797443:=0
def tw14904305048957573744:=0
def tw3840821732953932649:=0
def tw5956163482668103259:=0
def tw8765218258964077599:=0
def tw15941626210773894815:=0
def tw8344957671797842424:=0
def tw3470762779289301736:=0
def tw709920961672768264:=0
def tw2604536482464470588:=0
def tw2440959120929828631:=0
def tw17020098607189807040:=0
def tw3544569213729153142:=0
def tw17751247995485532302:=0
def tw15196344010980327239:=0
def tw4144184294553374186:=0
def tw16410604524981460743:=0
def tw17252516848951750160:=0
def tw4252257618428046245:=0
def tw17911412710839899654:=0
def tw14410001751250100361:=0
def tw13014196058414159336:=0
def tw10035899773236359364:=0
def tw2387164407345493503:=0
def tw8268728425854654010:=0
def tw16486586222096686847:=0
def tw4604465797086977241:=0
def tw2216111726902449987:=0
def tw12072766809048218430:=0
def tw5403536634067316796:=0
def tw14406127880606998228:=0
def tw6785215903624437394:=0
def tw7508464947516486257:=0
end PySem.W.Fast
set_option maxRecDepth 100000 in
set_option maxHeartbeats 0 in
theorem PySem.Challenge.cw_farjump_k32_where_parts_begin_holds : PySem.Challenge.rw_farjump_k32_where_parts_begin.Holds := by
 w_on;o_law;k_head;(case hw=>w_witness2)
 k_fill
 refine' L3.aeR (l:=PySem.Challenge.rw_farjump_k32_where_parts_begin) (g:=mS.N3) (k:=12) (x:="_law_script") rfl rfl ⟨rfl,by decide,by decide,rfl⟩ (λw h Y=>PySem.W.km_in_of Y) ?abA ?ht ?nt mS.Mo (λns _=>⟨ns,rfl,rfl⟩) ?F
 case abA=>first|exact(Option.some_get (by kernel_rfl)).symm|rfl
 case ht=>intro w;first|kernel_rfl|rfl
 case nt=>intro w;first|kernel_rfl|rfl
 case F=>
  intro w mg fa h KX G hmg
  refine' mS.all_mk KX G hmg ?uM ?Af ?Mt ?CY ?Mu ?w9 ?Mv ?xa ?nY ?uN ?CZ ?pL ?pM ?rF ?Ag ?JJ ?Ah ?JK ?uO ?JL ?uP ?nZ ?uQ ?Ym ?UQ ?zA ?GX ?kQ ?uR ?rG ?rH ?sU ?yD ?tb ?kR ?kU ?pN ?kW ?jV ?jF ?mO ?oa ?mP ?jW ?mQ ?JN ?C0 ?JQ ?JR ?JU ?yE ?C1 ?JV ?JY ?JZ ?og ?uS ?C2 ?yF ?J0 ?pO ?xf ?zB ?oX ?GY ?C3 ?xg ?C4 ?nv ?qR ?pP ?zC ?uT ?zD ?mR ?lR ?uU ?zE ?oC ?xh ?pQ ?nw ?uV ?oF ?uW ?xi ?sV ?pR ?C5 ?ny ?pS ?pT ?uX ?C6 ?pU ?sW ?uY ?uZ ?u4 ?u5 ?u6 ?sX ?oG ?u7 ?sY ?sZ ?pV ?u8 ?xj ?pW ?pX ?UR ?qS ?xk ?zF ?xl ?zG ?u9 ?zH ?vf ?qT ?vg ?xm ?zI ?xn ?zJ ?vh ?zK ?vi ?qU ?vj ?qV ?tq ?qW ?tu ?pY ?tz ?pZ ?nz ?p0 ?vk ?xo ?vm ?xp ?tD ?xq ?tE ?p4 ?tF ?ac7 ?xr ?oh ?iBB ?vn ?tG
  (case uM=>k_is)
  (case Af=>k_is)
  (case Mt=>k_is)
  (case CY=>k_is)
  (case Mu=>k_is)
  (case w9=>k_is)
  (case Mv=>k_is)
  (case xa=>k_is)
  (case nY=>k_is)
  (case uN=>k_is)
  (case CZ=>k_is)
  (case pL=>k_is)
  (case pM=>k_is)
  (case rF=>k_is)
  (case Ag=>walk_at "l")
  (case JJ=>walk_at "l")
  (case Ah=>walk_at "l")
  (case JK=>walk_at "l")
  (case uO=>walk_at "l")
  (case JL=>walk_at "l")
  (case uP=>walk_at "l")
  (case nZ=>walk_at "l")
  (case uQ=>walk_at "l")
  (case Ym=>walk_at "k")
  (case UQ=>walk_at "k")
  (case zA=>walk_at "k")
  (case GX=>walk_at "k")
  (case kQ=>walk_at "k")
  (case uR=>walk_at "k")
  (case rG=>walk_at "k")
  (case rH=>walk_at "k")
  (case sU=>walk_at "k")
  (case yD=>walk_at "k")
  (case kR=>k_is)
  (case kU=>k_is)
  (case pN=>k_is)
  (case kW=>k_is)
  (case jV=>k_is)
  (case jF=>k_is)
  (case mO=>k_is)
  (case oa=>k_is)
  (case mP=>k_is)
  (case jW=>k_is)
  (case mQ=>k_is)
  (case JN=>k_is)
  (case C0=>k_is)
  (case JQ=>k_is)
  (case JR=>k_is)
  (case JU=>k_is)
  (case yE=>k_is)
  (case C1=>k_is)
  (case JV=>k_is)
  (case JY=>k_is)
  (case JZ=>k_is)
  (case og=>k_is)
  (case uS=>k_is)
  (case C2=>k_is)
  (case yF=>k_is)
  (case J0=>k_is)
  (case pO=>k_is)
  (case xf=>walk_at "e")
  (case zB=>walk_at "e")
  (case oX=>walk_at "e")
  (case GY=>walk_at "e")
  (case C3=>walk_at "e")
  (case xg=>walk_at "e")
  (case C4=>walk_at "e")
  (case nv=>walk_at "e")
  (case qR=>walk_at "e")
  (case pP=>walk_at "e")
  (case zC=>walk_at "e")
  (case uT=>walk_at "e")
  (case zD=>walk_at "e")
  (case mR=>walk_at "e")
  (case lR=>walk_at "e")
  (case uU=>walk_at "e")
  (case zE=>walk_at "e")
  (case oC=>walk_at "e")
  (case xh=>walk_at "e")
  (case pQ=>walk_at "e")
  (case nw=>walk_at "e")
  (case uV=>walk_at "e")
  (case oF=>walk_at "e")
  (case uW=>walk_at "e")
  (case xi=>walk_at "e")
  (case sV=>walk_at "e")
  (case pR=>walk_at "e")
  (case C5=>walk_at "e")
  (case ny=>walk_at "e")
  (case pS=>walk_at "e")
  (case pT=>walk_at "e")
  (case uX=>walk_at "e")
  (case C6=>walk_at "e")
  (case pU=>walk_at "e")
  (case sW=>walk_at "e")
  (case uY=>walk_at "e")
  (case uZ=>walk_at "e")
  (case u4=>walk_at "e")
  (case u5=>walk_at "e")
  (case u6=>walk_at "e")
  (case sX=>walk_at "e")
  (case oG=>walk_at "e")
  (case u7=>walk_at "e")
  (case sY=>walk_at "e")
  (case sZ=>walk_at "e")
  (case pV=>walk_at "e")
  (case u8=>walk_at "e")
  (case xj=>walk_at "e")
  (case pW=>walk_at "e")
  (case pX=>walk_at "e")
  (case UR=>walk_at "e")
  (case qS=>walk_at "e")
  (case xk=>rfl)
  (case zF=>rfl)
  (case xl=>rfl)
  (case zG=>rfl)
  (case u9=>rfl)
  (case zH=>rfl)
  (case vf=>rfl)
  (case qT=>rfl)
  (case vg=>rfl)
  (case xm=>rfl)
  (case zI=>rfl)
  (case xn=>rfl)
  (case zJ=>rfl)
  (case vh=>rfl)
  (case zK=>rfl)
  (case vi=>rfl)
  (case qU=>rfl)
  (case vj=>rfl)
  (case qV=>rfl)
  (case tq=>rfl)
  (case qW=>rfl)
  (case tu=>rfl)
  (case pY=>rfl)
  (case tz=>rfl)
  (case pZ=>rfl)
  (case nz=>rfl)
  (case p0=>rfl)
  (case vk=>rfl)
  (case xo=>rfl)
  (case vm=>rfl)
  (case xp=>rfl)
  (case tD=>rfl)
  (case xq=>rfl)
  (case tE=>rfl)
  (case p4=>rfl)
  (case tF=>rfl)
  (case ac7=>rfl)
  (case xr=>walk_at "y")
  (case oh=>walk_at "y")
  (case iBB=>walk_at "i")
  (case vn=>first|rfl|kernel_rfl|k_is)
  (case tG=>first|rfl|kernel_rfl|k_is)
  case tb=>
   refine' FJ.ab3 ?tlo ?tl ?tc ?td ?tr
   case tl=>k_is
   case tlo=>rfl
   case tc=>exact⟨rfl,rfl,rfl⟩
   case td=>rfl
   case tr=>
    iterate 16 walk_at "k_row"
    exact KTD.Rows.nil
#print axioms PySem.Challenge.cw_farjump_k32_where_parts_begin_holds
