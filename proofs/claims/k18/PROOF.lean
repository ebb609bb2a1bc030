import PyProof.Rows.All
import Wide.All
import OpenK.AllK
import Wide.FinOn
import Lean
import PyProof.EqAt
import PyProof.EqKinds
import PyProof.TupleCall
import KE.KSortTup
import KE.KPairComp
import PyProof.P3Eq
import PyProof.DictWalks
import PyProof.StationsW
import PyProof.ExcClass2
import PyProof.ExcBaseAll.ValueError
import PyProof.RulesTry
import PyProof.RulesAs
import PyProof.NsDelKeeps
import PyProof.ExcAttrAll.ValueError
import KE.KIsAll
import PyProof.ReprRoads
import KE.KRevIter
import KE.IntBitsLaws
import PyProof.FString4
import PySem.Challenge.RW_farjump_k18_aims
set_option Elab.async false
set_option linter.all false
set_option tactic.hygienic false
set_option compiler.extract_closed false
set_option genSizeOfSpec false
set_option maxRecDepth 100000
set_option maxHeartbeats 4000000
def zE1{A:Sort _}{p:A->Prop}{G:Prop}(h:∃a,p a)(k:∀a,p a->G):G:=h.elim k
def zE2{A:Sort _}{B:Sort _}{p:A->B->Prop}{G:Prop}(h:∃a b,p a b)(k:∀a b,p a b->G):G:=zE1 h λa h=>zE1 h (k a)
def zE3{A:Sort _}{B:Sort _}{C:Sort _}{p:A->B->C->Prop}{G:Prop}(h:∃a b c,p a b c)(k:∀a b c,p a b c->G):G:=zE1 h λa h=>zE2 h (k a)
def zE4{A:Sort _}{B:Sort _}{C:Sort _}{D:Sort _}{p:A->B->C->D->Prop}{G:Prop}(h:∃a b c d,p a b c d)(k:∀a b c d,p a b c d->G):G:=zE1 h λa h=>zE3 h (k a)
def zE5{A:Sort _}{B:Sort _}{C:Sort _}{D:Sort _}{E:Sort _}{p:A->B->C->D->E->Prop}{G:Prop}(h:∃a b c d e,p a b c d e)(k:∀a b c d e,p a b c d e->G):G:=zE1 h λa h=>zE4 h (k a)
def zE6{A:Sort _}{B:Sort _}{C:Sort _}{D:Sort _}{E:Sort _}{F:Sort _}{p:A->B->C->D->E->F->Prop}{G:Prop}(h:∃a b c d e f,p a b c d e f)(k:∀a b c d e f,p a b c d e f->G):G:=zE1 h λa h=>zE5 h (k a)
def zA2{p q G:Prop}(h:p/\q)(f:p->q->G):G:=f h.1 h.2
def zA3{p q r G:Prop}(h:p/\q/\r)(f:p->q->r->G):G:=zA2 h.2 (f h.1)
def zA4{p q r s G:Prop}(h:p/\q/\r/\s)(f:p->q->r->s->G):G:=zA3 h.2 (f h.1)
def zA5{p q r s t G:Prop}(h:p/\q/\r/\s/\t)(f:p->q->r->s->t->G):G:=zA4 h.2 (f h.1)
def zA6{p q r s t u G:Prop}(h:p/\q/\r/\s/\t/\u)(f:p->q->r->s->t->u->G):G:=zA5 h.2 (f h.1)
def zA7{p q r s t u v G:Prop}(h:p/\q/\r/\s/\t/\u/\v)(f:p->q->r->s->t->u->v->G):G:=zA6 h.2 (f h.1)
def zA8{p q r s t u v w G:Prop}(h:p/\q/\r/\s/\t/\u/\v/\w)(f:p->q->r->s->t->u->v->w->G):G:=zA7 h.2 (f h.1)
def zA9{p q r s t u v w x G:Prop}(h:p/\q/\r/\s/\t/\u/\v/\w/\x)(f:p->q->r->s->t->u->v->w->x->G):G:=zA8 h.2 (f h.1)
def zA10{p q r s t u v w x y G:Prop}(h:p/\q/\r/\s/\t/\u/\v/\w/\x/\y)(f:p->q->r->s->t->u->v->w->x->y->G):G:=zA9 h.2 (f h.1)
def zI2{A:Sort _}{B:Sort _}{p:A->B->Prop}(a:A)(b:B)(h:p a b):∃a b,p a b:=⟨a,b,h⟩
def zI3{A:Sort _}{B:Sort _}{C:Sort _}{p:A->B->C->Prop}(a:A)(b:B)(c:C)(h:p a b c):∃a b c,p a b c:=⟨a,b,c,h⟩
def zI4{A:Sort _}{B:Sort _}{C:Sort _}{D:Sort _}{p:A->B->C->D->Prop}(a:A)(b:B)(c:C)(d:D)(h:p a b c d):∃a b c d,p a b c d:=⟨a,b,c,d,h⟩
def zI5{A:Sort _}{B:Sort _}{C:Sort _}{D:Sort _}{E:Sort _}{p:A->B->C->D->E->Prop}(a:A)(b:B)(c:C)(d:D)(e:E)(h:p a b c d e):∃a b c d e,p a b c d e:=⟨a,b,c,d,e,h⟩
open Lean in
local macro_rules
|`(tactic|rcases $h:ident with ⟨$ps,*⟩)=>`(tactic|obtain ⟨$ps,*⟩:=$h)
|`(tactic|rintro $rs:rintroPat*)=>do
 let l:=rs[rs.size-1]!.raw[0]
 unless l.isOfKind ``Parser.Tactic.rcasesPat.tuple do Macro.throwUnsupported
 let p:TSyntax `rcasesPat:=⟨l⟩
 let z:=mkIdent (<-Macro.addMacroScope `zz)
 let r:=rs.pop
 if r.size==0 then `(tactic|(intro $z:ident;obtain $p:rcasesPat := $z)) else `(tactic|(rintro $r*;intro $z:ident;obtain $p:rcasesPat := $z))
|`(tactic|exact ⟨$es,*⟩)=>do if es.getElems.size<3 then Macro.throwUnsupported else `(tactic|refine ⟨$es,*⟩)
|`(tactic|refine ⟨$es,*⟩)=>do
 let es:=es.getElems
 let n:=es.size
 if n<3 then Macro.throwUnsupported
 let m:=min 5 (n-1)
 let mut al:Array (TSyntax `tactic):=#[]
 for z in [0:m-1] do
  let i:=m-z
  let r:=es[i:n].toArray
  let q<-if r.size==1 then pure r[0]! else `(⟨$r,*⟩)
  al:=al.push (<-`(tactic|refine $(mkIdent (.mkSimple s!"zI{i}")) $(es[0:i].toArray)* $q))
 `(tactic|first $[|$al:tactic]*)
|`(tactic|obtain ⟨$ps,*⟩:=$h:term)=>do
 let ps:=ps.getElems
 let n:=ps.size
 if n<2 then Macro.throwUnsupported
 let nw(s:String):MacroM Ident:=do return mkIdent (<-Macro.addMacroScope (.mkSimple s))
 let sh(q:Syntax):String:=(q.reprint.getD "").trimAscii.toString
 unless h.raw.isIdent||((sh h.raw).splitOn "by").length==1 do
  let t<-nw "zz"
  return <-`(tactic|(have $t := $h;obtain ⟨$ps,*⟩:=$t))
 let h:Ident:=⟨h.raw⟩
 let mut bs:Array Ident:=#[]
 let mut mo:Array (Option (TSyntax `tactic)):=#[]
 for i in [0:n] do
  let q:=ps[i]!.raw
  let o:=(q.find? λs=>s.isOfKind ``Parser.Tactic.rcasesPat.one).getD .missing
  if sh o==sh q&&sh q != "rfl" then
   bs:=bs.push ⟨o[0]⟩
   mo:=mo.push none
  else
   let x<-nw s!"x{i}"
   bs:=bs.push x
   if sh q=="_" then mo:=mo.push none
   else
    let p:TSyntax ``Parser.Tactic.rcasesPatMed:=⟨q[0]⟩
    mo:=mo.push (some (<-`(tactic|obtain $p:rcasesPatMed := $x)))
 let t<-nw "xx"
 let y<-nw "yy"
 let mut al:Array (TSyntax `tactic):=#[]
 let k:=((List.range n).find? λi=>((sh ps[i]!.raw).splitOn "rfl").length>1).getD n
 for (c,m) in [("zE",min 6 (n-1)),("zA",min 10 n-1)] do
  let m:=min m (k+1)
  for z in [0:m] do
   let i:=m-z
   let w:=i+1==n&&k+1>=n
   let mut ws:Array (TSyntax ``binderIdent):=#[]
   let mut hit:=false
   let mut g:Array Ident:=#[]
   for x in if w then bs else bs[0:i].toArray.push t do
    if x.getId==h.getId then
     hit:=true
     ws:=#[<-`(binderIdent|$x:ident)]
     g:=g.push y
    else
     if x.getId.hasMacroScopes then ws:=ws.push (<-`(binderIdent|_))
     g:=g.push x
   let mut s:Array (TSyntax `tactic):=#[<-`(tactic|refine $(mkIdent (.mkSimple s!"{c}{if c=="zE" then i else i+1}")) $h fun $g* => ?_)]
   if h.raw.isIdent then s:=s.push (<-`(tactic|try clear $h))
   if hit then s:=s.push (<-`(tactic|rename_i $ws*))
   for j in [0:if w then n else i] do
    if let some y:=mo[j]! then s:=s.push y
   unless w do
    let r:=ps[i:n].toArray
    if r.size==1 then
     s:=s++#[<-`(tactic|have $(bs[n-1]!) := $t),<-`(tactic|clear $t)]
     if let some y:=mo[n-1]! then s:=s.push y
    else s:=s.push (<-`(tactic|obtain ⟨$r,*⟩:=$t))
   al:=al.push (<-`(tactic|($[$s:tactic];*)))
 `(tactic|first $[|$al:tactic]*)
noncomputable section
open Option renaming some->aa,none->am,isSome_map->gF
open PySem renaming wpAny_bind->ae,Value->ah,Shared->aq,Addr->ar,wpAny_pure->av,Heap->aw,sizeLine->az,Str->aB,Program->aP,starEach->aV,mainGlobals->bf,Around->bq,World->bt,Expr->bv,sizeLine_eq->bD,wpAny_holding->bJ,bootBuiltins->bR,Builtin->bU,wpAny_mono->cc,wpAny_field->cm,Obj->cn,wpAny_truthy_bool->cw,foldedSetIterable->cx,assignEach->cD,FuncData->cI,attributeBase->cM,Stmt->cN,backTo->cO,PyData->cQ,Scope->cS,wpAny_call_entry->cT,sysModules->cW,codeAny_mono->cX,swapsWith->c5,wpAny_Call_Name_kw->c8,wpAny_callSpecial?_slot->di,Pos->dA,bindArgs->dQ,NameKind->dR,wpAny_pyIter_list->dS,wpAny_seqItems->eA,IsPair->eB,keywordEach->eF,strIterType->eG,wpAny_call->eJ,wpAny_setField_rec->eL,sliceBounds->eV,codeAny_call_builtin->eW,excClassObj->eX,wpAny_standAt->fw,wpAny_newList->fC,wpAny_pyIter_tuple->fO,valueAt->fY,wpAny_setField->f6,TriplesOk->gj,Env->gq,wpAny_attempt->gr,cLine->gw,wpAny_passesOwn->gE,codeAny_builtin->gH,wpAny_isSubtype_exc->gJ,tupleKind_room_in1->aji,rawInt->ajj,wpAny_rule->ajk,wpAny_newObj_type->ajt,Draws->aju,IsZip->ajv,wpAny_loadPart_at->ajx,backToKw->ajE,codeAmong->ajF,Keyword->ajN,getItem->ajO,call_meets->ajP,wpAny_execs_nil->ajS,wpAny_specialOf->ajT,wpAny_updateSeq_pair->ajV,wpAny_newTuple->ajW,standAt->ajY,PassesOwn->ajZ,BindsTo->aj0,scanBound->aj3,behindInMarks->aj5,wpAny_onRaise->aj6,closureFor->aj7,findBy_of_findIdx?->aj8,slot_dict_contains->aj9,slot_list_getitem->aka,callerA->akb,GenState->akg,ExcBaseFacts->akh,plainObj_wpAny_Assign_Attribute->aki,tupleKind->akj,getMethod->akk,wpAny_lookBehind->akl,pastItsLine_dict->akm,IsPart->akn,Arguments->ako,wpAny_letGo->akp,notedBy->akr,Operator->aks,pyIter->akt,Walks->aku,wpAny_loadPart->akv,recursionLimit->akw,Result->akx,wpAny_newFunctionEnv_cells->aky,PlainAttrs->akz,dictSetDefault->akE,preSum->akF,swapsWithSole->akG,swappedStores->akH,wpAny_getItem_list_slice->akI,wpAny_comprehension_free->akJ,plainId_quiet->akL,lastMarks->akM,cellsFrom->akN,atKey->akO,slicePick->akP,wpAny_Call_method0_late->akQ,setFlight->akR,noteFrame->akS,isTrue->akT,wpAny_pyNext_list_item->akU,wpAny_nsSet1->akV,wpAny_typeOf->akW,typeOf->akY,wpAny_pyNext_list_end->ak4,wpAny_notOrdered_dict->ak5,wpAny_loadName_local->ak6,bindL->ak7,bindC->ak8,seqIndex_of->ak9,wpAny_letTemporaryGo->ala,getAttr?->alb,wpAny_loadName_cell->alc,builtinsNs->ald,wpAny_Name->ale,findBy->alf,typeLookup->alg,typeIs_str->ali,typeIs_int->alj,getattributeRaised->alk,defaultsOf->alm,isInstance->aln,setItem->alo,wpAny_assign_Name->alp,getAttr->alq,setAttr->alr,wpAny_sequenceKey->als,wpAny_pyIter_strU->alu,wpAny_pyIter_enum->alv,dictGet->alw,wpAny_dictEntries->alx,slot_dict_getitem->aly,callAny->alz,OsState->alA,wpAny_pyHash_str->alB,wpAny_eqBool_str->alC,storeName->alD,wpAny_execs_cons->alE,inplaceOp->alF,noFill_tuple_add->alG,wpAny_pyIter_zip->alH,callGetattribute->alI,wpAny_operating->alJ,codeAny_of_tree->alL,Tok->alM,Drawn->alN,letTemporaryGo->alQ,callWith->alR,Model->alT,boundAndCalled->alU,assignInOrder->alV,intBits_le_64->alW,seq_tuple_add->alX,call_list_seq->alY
open Nat renaming le_of_ble_eq_true->ag,le_refl->aC,zero_add->ba,ne_of_lt->bg,le_trans->bh,zero_le->bu,lt_of_lt_of_le->bw,lt_of_le_of_lt->b8,lt_irrefl->cB,le_succ->cG,lt_succ_of_lt->cV,le_of_lt->c7,ne_of_gt->dM,min_eq_left->gm,le_of_eq->gv,sub_self->gA,lt_succ_self->ajr,lt_trans->ajy,min_self->ajA
open Bool renaming true->ai,false->ao,and_eq_true->aU,false_ne_true->bi,false_eq_true->fj,not_eq_true'->fJ,eq_iff_iff->f9
open PySem.Heap renaming get?_push_of_some->aj,lt_size->aH,get?_push_size->aJ,SameBut->bM,size_push->bZ,get?_update_other->cj,get?_none_of_le->cy,get?_update_self->cJ,get?_update_ne->dU,get?_push_ne->aiq,size_update->ajm,ExtBut->ajJ
open List renaming length_map->ak,getElem?_eq_some_iff->au,mem_cons_of_mem->ax,getElem?_eq_getElem->ay,length_append->aD,mem_cons_self->aE,map_append->aM,mem_cons->aN,size_toArray->aO,length_cons->aQ,append_nil->aR,mem_of_getElem?->aS,append_assoc->aX,map_cons->aZ,prefix_refl->bc,map_map->bd,mem_append->bj,getElem?_map->bn,mem_singleton->bp,getElem?_append_left->bB,mem_map->bC,length_nil->bE,getD_eq_getElem?_getD->bF,all_eq_true->bG,mem_append_right->bH,nil_append->bL,not_mem_nil->bN,length_singleton->bO,replicate->bQ,mem_zipIdx_iff_getElem?->bS,mem_append_left->bV,length_take->bW,range->bY,getElem?_set_ne->cb,zip_cons_cons->ck,getElem?_append_right->cz,getElem?_set_self->cC,mem_filter->cK,prefix_append->cL,nodup_append->de,flatMap_cons->df,flatMap_append->dh,zipWith->dj,all_cons->dm,length_drop->dn,lookup_cons->dq,filter_cons->du,cons_ne_nil->dw,mem_flatMap->dz,length_mapIdx->dB,pairwise_cons->dD,getElem?_eq_none->dF,length_filter_le->dG,drop_eq_getElem_cons->dH,pairwise_iff_getElem->dI,length_zip->dJ,length_range->dL,any_cons->dN,take_of_length_le->d8,length_zipIdx->d9,getElem_cons_drop->ej,nodup_cons->eD,mem_iff_getElem?->eI,pairwise_map->eM,exists_cons_of_ne_nil->eO,getElem?_zip_eq_some->eR,map_congr_left->eU,map_drop->eZ,length_set->fg,mem_range->fD,reverse_cons->fF,zipWith_cons_cons->fH,cons_lt_cons_iff->fP,take_append_drop->fQ,getElem_inj->fR,getElem_mem->fU,zipIdx_cons->fV,map_snd_zip->fX,lookup->f7,length->f8,of_mem_zip->gb,filterMap_cons->gg,length_zipWith->gk,Perm->gy,nodup_nil->gB,map->gC,filter_append->gD,not_lt->gK,getElem?_inj->gL,map_take->ajh,filter_cons_of_neg->ajn,filter_cons_of_pos->ajo,getLast?_cons_cons->ajp,map_reverse->ajq,map_nil->ajs,toArray->ajw,getElem?_zipWith->ajC,mem_iff_getElem->ajI,mem_of_mem_take->ajL,mem_of_mem_drop->ajM
open Prod renaming fst->aY
open Option.some renaming inj->bA
open PySem.Value renaming ref->bI,none->cE,isStrOf->eC,type->eN,isInt->ajD
open PySem.Obj renaming mapSeq->bP,data_mapFields->c6,mapFields->dO,isFreed_of_fields->eK
open Array renaming length_toList->bT,getElem?_eq_some_iff->cU,getElem?_toList->cY
open PyProof.Rows renaming seqObj->bX,StrsAre->cZ,callWith_type1->dX,envOfC->dY,listUpdate_at->d6,slot_tuple_getitem->eY,AllBare->fE,get?_update_seq->fM,seqEpoch_at->gz,strKind->ajg,arrOf->ajl,SortedToK->ajG,wpS_bind->ajH,size_push'->ajQ,step_dedup->ajR,entry_list_sort->ajU,slot_list_sort->ajX,pendingOf->aj1,pairsOf->aj2,IsTup->aj4,plain_sorted->akc,entry_sorted->akd,listItems_at->ake,pairsOf_size->akf,kind_sorted->akq,args_list_sort->akA,wpS_pure->akB,failedOf->akC,setPending->akD,strKind_oneLt->akK,subscriptTail_builtinR->akX,IntsAre->akZ,sortedS->ak0,args_sorted1->ak1,keyKind_strs->ak2,collect_list->ak3,Subscript_->alh,list_sort_plain->alK,slicePart_none->alO,tail_any->alP,sortedHeap_old->alS,sortedHeap_at->alZ
open False renaming elim->b9
open Ne renaming symm->ci
open PySem.SeqAt renaming EqAt->cu
open PySem.Heap.SameBut renaming update->cA
open PySem.PyData renaming strOk->cR
open Or renaming inr->c9,inl->dP
open True renaming intro->dg
open Sum renaming inr->dW
open PySem.Builtin.SmallTypes renaming nextOf->dZ,ownedTupleIsFree->d7
open PySem.NameKind renaming free->eP
open PySem.AutoSeq1 renaming wpAny_loadPart'->eQ
open PySem.F renaming slot_tuple_iterator_next->eT,slot_zip_next->ajK
open List.Perm renaming refl->fh
open Int renaming emod_lt_of_pos->fu,toNat_natCast->fN,emod_nonneg->gp
open PySem.Calls renaming callWith_builtin->fB,call_function_entry->gG
open PySem.Builtin.Slice renaming slicePlaces->fZ
open PySem.Builtin.List renaming listTooLong->gf
open PySem.Builtin.Str renaming occurrences->gu
open ForInStep renaming yield->ajd
open PyProof.Rows.F renaming entry_set_update_loop->aje,plain_set_update_loop->ajf
open List.Pairwise renaming nil->ajz
open PySem.Str renaming ofString->ajB
open PySem.W renaming Frag->af,findIn->aF,kitOne->bb,nsIn->bz,mg_of->cP,mg_none_of->dc,fnOf->dk,keepIn->dr
section
open PySem PySem.Spec PyProof.Rows
abbrev ap:="list"
abbrev cr:="self"
abbrev dt:="thing"
abbrev dy:="tuple"
abbrev dV:="__debug__"
abbrev ec:="told"
abbrev ef:="name"
abbrev ek:="part"
abbrev el:="table"
abbrev ew:="numbers"
abbrev eH:="row"
abbrev fb:="_law_program_here"
abbrev fe:="dict"
abbrev fi:="set"
abbrev fk:="_law_row"
abbrev fq:="words"
abbrev ft:="__init__"
abbrev fv:="parts"
abbrev fx:="_law_cell"
abbrev fy:="by_name"
abbrev gc:="sorted"
abbrev gi:="rows"
abbrev gl:="_law_k"
abbrev hB:="asked"
abbrev hD:="<lambda>"
abbrev hJ:="goes_on"
abbrev hR:="zip"
abbrev hX:="str"
abbrev hY:="enumerate"
abbrev ic:="int"
abbrev im:="object.__class__"
abbrev iv:="BaseException"
abbrev ix:="object"
abbrev jd:="bool"
abbrev jm:="box"
abbrev jp:="alike"
abbrev jr:="things"
abbrev jD:="__name__"
abbrev kf:="load"
abbrev kt:="mark"
abbrev kv:="_law_kind"
abbrev ky:="range"
abbrev kz:="type.__call__"
abbrev kI:="len"
abbrev la:="word"
abbrev lc:="jumpby"
abbrev lf:="say"
abbrev lj:="marks"
abbrev lm:="_law_names"
abbrev lp:="jumpif"
abbrev lr:="call"
abbrev ly:="_law_rows"
abbrev lK:="code"
abbrev lR:="back"
abbrev me:="stop"
abbrev mm:="_law_script"
abbrev mr:="__classdict__"
abbrev mu:="__class__"
abbrev mv:="isinstance"
abbrev mB:="number"
abbrev nb:="jump"
abbrev nk:="places"
abbrev nu:="ValueError.__new__"
abbrev nA:="form"
abbrev nP:="bound"
abbrev nR:="bare"
abbrev nX:="_law_most"
abbrev ol:="_law_name_here"
abbrev oo:="__setattr__"
abbrev ov:="object.__setattr__"
abbrev oP:="NoneType"
abbrev pa:="take"
abbrev pb:="ValueError"
abbrev pc:="MarkRow"
abbrev pe:="place"
abbrev pj:="_law_found"
abbrev pk:="_law_b"
abbrev pr:="_law_more"
abbrev pu:="__get__"
abbrev pw:="getset_descriptor.__get__"
abbrev pA:="__getattribute__"
abbrev qa:="is_word"
abbrev qb:="Row.words"
abbrev qe:="_law_p"
abbrev qq:="_law_code"
abbrev qs:="_law_asked"
abbrev qx:="tuple_iterator"
abbrev ra:="Exception"
abbrev rb:="ValueError.__init__"
abbrev rh:="is_whole"
abbrev ri:="code_row"
abbrev ro:="counts_as_mark"
abbrev rz:="marks_among"
abbrev rN:="others_among"
abbrev sm:="first_but_marks"
abbrev sw:="strong_parts"
abbrev sE:="without_marks"
abbrev tP:="at_place"
abbrev uJ:="let_by"
abbrev uM:="_law_cell_at"
abbrev uY:="_law_mixed"
abbrev vl:="_law_sizes"
abbrev vp:="_law_parts"
abbrev vr:="_law_kinds"
abbrev vu:="_law_goes_on"
abbrev vv:="_law_name"
abbrev vx:="_law_number"
abbrev wc:="_law_gone"
abbrev wh:="_law_no_code"
abbrev wk:="_law_part"
abbrev wu:="_law_marked_names"
abbrev xm:="_law_exchanged"
abbrev za:="_law_there"
abbrev zb:="_law_wants"
abbrev zt:="_law_stood"
abbrev uaa:="_law_copied"
abbrev uab:="_law_bare"
abbrev uac:="dict_itemiterator"
abbrev uad:="method_descriptor"
abbrev uae:="BaseException.__getattribute__"
abbrev uaf:="PartError"
abbrev uag:="is_list_of"
abbrev uah:="NumbersRow"
abbrev uai:="are_parts"
abbrev uaj:="look_behind_rows"
abbrev uak:="looked_at"
abbrev ual:="marks_of_part"
abbrev uam:="look_for_twice"
abbrev uan:="places_in"
abbrev uao:="bare_rows"
abbrev uap:="may_aim_at"
abbrev uaq:="look_at_aims"
abbrev uar:="_law_skeleton"
abbrev uas:="_law_numbers"
abbrev uat:="_law_tables"
abbrev uau:="_law_filled"
abbrev uav:="_law_cells"
abbrev uaw:="_law_program"
abbrev uax:="_law_spoilt"
abbrev uay:="_law_told"
abbrev uaz:="_law_right"
abbrev uaA:="dict_reverseitemiterator"
abbrev uaB:="odict_iterator"
abbrev uaC:="itertools.zip_longest"
abbrev uaD:="itertools.pairwise"
abbrev uaE:="str_ascii_iterator"
abbrev uaF:="dict.update.loop"
abbrev uaG:="GREATEST_NUMBER"
abbrev uaH:="MOST_ROWS_OF_PART"
abbrev uaI:="Lacking.__init__"
abbrev uaJ:="WrongAim.__init__"
abbrev uaK:="CodeRow.goes_on"
abbrev uaL:="LastRow.goes_on"
abbrev uaM:="AlikeRow.asked"
abbrev uaN:="LeaveRow.goes_on"
abbrev uaO:="TableRow.asked"
abbrev uaP:="abcdefghijklmnopqrstuvwxyz"
namespace L2
abbrev Key:=Sum Int aB
noncomputable def B5:Key->ah->Bool
 |.inl k,v=>ajD k v
 |.inr x,v=>eC x v
noncomputable def ahz(w:bt):Key->Int
 |.inl k=>hashInt k
 |.inr x=>hashStr w x
theorem jJ:∀{k:Key} {v:ah},B5 k v=ai->(∃i t,k=Sum.inl i/\v=ah.int i t)\/(∃x t,k=dW x/\v=ah.str x t)
 |.inl i,v,h=>by obtain⟨t,e⟩:=ah.isInt_shape h;exact .inl ⟨i,t,rfl,e⟩
 |.inr x,v,h=>by obtain⟨t,e⟩:=ah.isStrOf_shape h;exact .inr ⟨x,t,rfl,e⟩
def Pk(i:Int)(t:alM):B5 (.inl i) (.int i t)=ai:=by simp[B5,ajD]
def Pm(x:aB)(t:alM):B5 (.inr x) (.str x t)=ai:=by simp[B5,eC]
def aaV(a b:Int):decide ((Sum.inl a:Key)=Sum.inl b)=(a==b):=by
 by_cases e:a=b
 .subst e;simp
 .have h:¬(Sum.inl a:Key)=Sum.inl b:=λq=>e (Sum.inl.inj q);rw[decide_eq_false h];exact(beq_eq_false_iff_ne.mpr e).symm
def aaW(a b:aB):decide ((dW a:Key)=dW b)=decide (a=b):=by
 by_cases e:a=b
 .simp
 .have h:¬(dW a:Key)=dW b:=λq=>e (dW.inj q);rw[decide_eq_false h,decide_eq_false e]
def aaX(a:Int)(b:aB):decide ((Sum.inl a:Key)=dW b)=ao:=decide_eq_false (λq=>nomatch q)
def aaY(a:aB)(b:Int):decide ((dW a:Key)=Sum.inl b)=ao:=decide_eq_false (λq=>nomatch q)
noncomputable def iM(prog:aP)(w:bt):PySem.KeyKind prog w Key where
 is:=B5
 hash:=ahz w
 inj:=λv a b ha hb=>by
  rcases jJ ha with⟨i,t,rfl,rfl⟩|⟨x,t,rfl,rfl⟩
  .rcases jJ hb with⟨j,u,rfl,e⟩|⟨y,u,rfl,e⟩
   .injection e with e1 _;rw[e1]
   .exact nomatch e
  .rcases jJ hb with⟨j,u,rfl,e⟩|⟨y,u,rfl,e⟩
   .exact nomatch e
   .injection e with e1 _;rw[e1]
 byValue:=λk v h=>by rcases jJ h with⟨i,t,rfl,rfl⟩|⟨x,t,rfl,rfl⟩<;>rfl
 pyHash:=λc h=>by
  rcases jJ c with⟨i,t,rfl,rfl⟩|⟨x,t,rfl,rfl⟩
  .exact wpAny_pyHash_int h
  .exact alB h
 eqBool:=λf c h=>by
  rcases jJ f with⟨i,t,rfl,rfl⟩|⟨x,t,rfl,rfl⟩
  .rcases jJ c with⟨j,u,rfl,rfl⟩|⟨y,u,rfl,rfl⟩
   .rw[aaV] at h;exact wpAny_eqBool_int h
   .rw[aaX] at h;exact cu.int_str i t y u _ _ _ _ h
  .rcases jJ c with⟨j,u,rfl,rfl⟩|⟨y,u,rfl,rfl⟩
   .rw[aaY] at h;exact cu.str_int x t j u _ _ _ _ h
   .rw[aaW] at h;exact alC h
 «strs»:=λk x t v h=>by
  rcases jJ h with⟨i,u,rfl,e⟩|⟨y,u,rfl,e⟩
  .exact nomatch e
  .injection e with e1 _;subst e1;cases v<;>rfl
def aaZ(prog:aP)(w:bt)(k:Key)(v:ah):(iM prog w).is k v=B5 k v:=rfl
def Ip(prog:aP)(w:bt)(i:Int)(t:alM):(iM prog w).is (.inl i) (.int i t)=ai:=Pk i t
def Iq(prog:aP)(w:bt)(x:aB)(t:alM):(iM prog w).is (.inr x) (.str x t)=ai:=Pm x t
inductive V where
 |non|bl (b:Bool)|int (i:Int)|str (x:aB)|Rx (b:Array UInt8)|flt (b:UInt64)|ref (a:ar)|ty (n:String)
 deriving DecidableEq
def RelV:V->ah->Prop
 |.non,u=>u=cE
 |.bl b,u=>u=ah.bool b
 |.int i,u=>∃t,u=ah.int i t
 |.str x,u=>∃t,u=ah.str x t
 |.Rx b,u=>∃t,u=ah.bytes b t
 |.flt b,u=>∃t,u=ah.float b t
 |.ref a,u=>u=bI a
 |.ty n,u=>u=eN n
abbrev Vals:List V->List ah->Prop:=Paired RelV
theorem Vals.length(r:Vals xs us):xs.length=us.length:=Paired.length r
theorem Vals.get:∀{xs:List V} {us:List ah} {i:Nat} {x:V},Vals xs us->xs[i]?=aa x->∃u,us[i]?=aa u/\RelV x u
 |_,_,_,_,.nil,e=>by simp at e
 |_,_,0,_,.cons r _,e=>by simp at e;subst e;exact⟨_,rfl,r⟩
 |_,_,i+1,x,.cons _ t,e=>by obtain⟨u,a,b⟩:=Vals.get t (by simpa using e);exact⟨u,by simpa using a,b⟩
theorem Vals.set{x:V}{u:ah}(r:RelV x u):∀{xs:List V} {us:List ah} (i:Nat),Vals xs us->Vals (xs.set i x) (us.set i u)
 |_,_,_,.nil=>.nil
 |_,_,0,.cons _ t=>.cons r t
 |_,_,i+1,.cons q t=>.cons q (Vals.set r i t)
theorem Vals.append:∀{xs a:List V} {us ws:List ah},Vals xs us->Vals a ws->Vals (xs++a) (us++ws)
 |_,_,_,_,.nil,s=>s
 |_,_,_,_,.cons r t,s=>.cons r (Vals.append t s)
theorem Vals.take:∀{xs:List V} {us:List ah} (n:Nat),Vals xs us->Vals (xs.take n) (us.take n)
 |_,_,0,_=>.nil
 |_,_,_+1,.nil=>.nil
 |_,_,n+1,.cons r t=>.cons r (Vals.take n t)
theorem Vals.drop:∀{xs:List V} {us:List ah} (n:Nat),Vals xs us->Vals (xs.drop n) (us.drop n)
 |_,_,0,r=>r
 |_,_,_+1,.nil=>.nil
 |_,_,n+1,.cons _ t=>Vals.drop n t
def rH:Option V->Option ah->Prop
 |some v,aa u=>RelV v u
 |none,am=>True
 |_,_=>False
def KV {a:Type}:List (a×V)->List (a×ah)->Prop:=Paired λ(p:a×V) (q:a×ah)=>p.1=q.1/\RelV p.2 q.2
noncomputable def kV:Key->V
 |.inl i=>.int i
 |.inr x=>.str x
inductive HO where
 /- - a list-/
 |lst (xs:List V)
 /- - a tuple (never changes)-/
 |tup (xs:List V)
 /- - a dict whose keys are ints and texts;one whose keys are tuples of ints and texts (the empty one is both)-/
 |dK (g8:List (Key×V))|dT (g8:List (List Key×V))
 /- - a set of ints:ig members,ig size-/
 |set (S:Int->Bool) (n:Nat)
 /- - an instance of the class at C,ig dict at dx,ig attributes-/
 |ins (C dx:ar) (fs:List (aB×V))
 /- - the dict of the instance at x-/
 |own (x:ar)
 /- - the dict of an exception-/
 |xd (fs:List (aB×V))
 /- - a bound method,f of x-/
 |met (f x:ar)
 /- - a range object lo,lo+1,.. below hi-/
 |rng (lo hi:Int)
 /- - a thing ai0 is known to the object (the ahA;a dict while a loop walks it):read,never written while it is so-/
 |qN (o:cn) (u:HO)
 /- - a code aev table-/
 |xV (ps:Array ah)
 |dE (ep:Nat) (g8:List (Key×V))
 |xc (C:ar) (fs:List (aB×V))
 /- - any other thing,by ai1 is ai of ig one object (a def of aiX own:ai2 a S n:=HO.ext λh=>..)-/
 |ext (φ:aw->Prop)
abbrev Hp:=ar->Option HO
noncomputable def upd(H:Hp)(a:ar)(o:HO):Hp:=λb=>if b=a then aa o else H b
def gZ:upd H a o a=aa o:=by unfold upd;rw[if_pos rfl]
def gR(h:b≠a):upd H a o b=H b:=by unfold upd;rw[if_neg h]
def aew{H:Hp}(h:H a=aa o)(c:H b=aa u)(d:o≠u):a≠b:=by intro e;subst e;rw[h] at c;exact d (bA c)
def ja{H:Hp}(h:H a=aa o)(c:H b=am):a≠b:=by intro e;subst e;rw[h] at c;cases c
section
variable (P:aP) (w:bt)
def jq (H:Hp)(h:aw)(a:ar):HO->Prop
 |.lst xs=>xs.length<=az/\∃(ig:List ah) (n:Nat),Vals xs ig/\h.get? a=aa {cls:=.type ap,data:=.seq ig.toArray n}
 |.tup xs=>xs.length<=az/\∃ig:List ah,Vals xs ig/\aj4 h a ig.toArray
 |.dK e=>e.length<=az/\(a==cW)=ao/\∃g,KV e g/\h.DictOf (iM P w) a g
 |.dT e=>e.length<=az/\(a==cW)=ao/\∃xs:List (List Key×ar×ah),
   Paired (λ(p:List Key×V) (q:List Key×ar×ah)=>p.1=q.1/\H q.2.1=aa (.tup (p.1.map kV))/\RelV p.2 q.2.2) e xs/\
   ∃o es j,h.get? a=aa o/\o.ExactDict/\o.data=.dict es j/\es.toList=xs.map (entryOfKey (akj (iM P w)))/\(xs.map (·.1)).Nodup
 |.set S n=>h.SetOf (intKind P w) a S n
 |.ins C b fs=>H b=aa (.own a)/\fs.length<=1000/\b≠a/\h.get? a=aa (W.instObj C b)/\
   ∃c,h.Ns1 b c/\(∀f,rH (fs.lookup f) (c f))/\PySem.Within c (fs.map (·.1))
 |.own _=>∃o,h.get? a=aa o
 |.xd fs=>∃c,h.Ns1 a c/\∀f,rH (fs.lookup f) (c f)
 |.rng lo hi=>∃t u v,h.get? a=aa {cls:=.type ky,data:=.fields #[.int lo t,.int hi u,.int 1 v]}
 |.qN o u=>h.get? a=aa o/\jq H h a u
 |.xV z=>h.get? a=aa {cls:=.none,data:=.fields z}
 |.dE j e=>e.length<=az/\(a==cW)=ao/\∃g,KV e g/\h.DictAt (iM P w) a g j
 |.xc C fs=>∃i g,h.get? a=aa i/\i.cls=.ref C/\i.data=.fields g/\((i.dict=am/\fs=[])\/∃b c,i.dict=aa b/\b≠a/\H b=aa (.own a)/\h.Ns1 b c/\∀f,rH (fs.lookup f) (c f))
 |.met f x=>h.get? a=aa (W.methodObj (.ref f) (.ref x))
 |.ext m=>m h/\(∃o,h.get? a=aa o)/\∀r y:aw,m r->(∀o,r.get? a=aa o->y.get? a=aa o)->m y
def sy (H:Hp)(h:aw):Prop:=∀a o,H a=aa o->jq P w H h a o
end
section
variable {h h':aw}
theorem jq.lt(x:jq P w H h a o):a<h.objs.size:=by
 cases o with
 |lst xs=>obtain⟨_,_,_,_,e⟩:=x;exact aH e
 |tup xs=>obtain⟨_,_,_,p⟩:=x;exact p.lt
 |dK b=>obtain⟨_,_,_,_,o,_,_,e,_⟩:=x;exact aH e
 |dT b=>obtain⟨_,_,_,_,o,_,_,e,_⟩:=x;exact aH e
 |set S n=>obtain⟨o,_,_,_,e,_⟩:=x;exact aH e
 |ins C c fs=>obtain⟨_,_,_,e,_⟩:=x;exact aH e
 |own y=>obtain⟨_,e⟩:=x;exact aH e
 |xd fs=>obtain⟨_,⟨_,_,_,e,_⟩,_⟩:=x;exact aH e
 |rng lo hi=>obtain⟨_,_,_,e⟩:=x;exact aH e
 |qN ob u=>obtain⟨e,_⟩:=x;exact aH e
 |xV g=>exact aH (x)
 |dE i b=>obtain⟨_,_,_,_,o,_,e,_⟩:=x;exact aH e
 |xc C fs=>obtain⟨_,_,e,_⟩:=x;exact aH e
 |met f y=>exact aH (x)
 |ext j=>obtain⟨_,⟨_,e⟩,_⟩:=x;exact aH e
theorem Paired.aa0:∀{c:List α} {e:List β},Paired F c e->(∀a b,F a b->G a b)->Paired G c e
 |_,_,.nil,_=>.nil
 |_,_,.cons r t,f=>.cons (f _ _ r) (Paired.aa0 t f)
def jq.tm(x:jq P w H h a o)(k:∀b u,(b=a\/H b=aa (.own a))->h.get? b=aa u->h'.get? b=aa u)
(A:∀b,H b=aa (.own a)->H' b=aa (.own a))(ht:∀b xs,H b=aa (.tup xs)->H' b=aa (.tup xs)):jq P w H' h' a o:=by
 induction o with
 |lst xs=>obtain⟨z,ig,n,r,e⟩:=x;exact⟨z,ig,n,r,k _ _ (.inl rfl) e⟩
 |tup xs=>obtain⟨z,ig,r,ob,e,c⟩:=x;exact⟨z,ig,r,ob,k _ _ (.inl rfl) e,c⟩
 |dK B=>obtain⟨z,y,i,r,ob,es,g,e,c⟩:=x;exact⟨z,y,i,r,ob,es,g,k _ _ (.inl rfl) e,c⟩
 |dT B=>
  obtain⟨z,y,xs,r,ob,es,g,e,c⟩:=x;exact⟨z,y,xs,Paired.aa0 r λp q z=>⟨z.1,ht _ _ z.2.1,z.2.2⟩,ob,es,g,k _ _ (.inl rfl) e,c⟩
 |set S n=>obtain⟨ob,es,g,t,e,c⟩:=x;exact⟨ob,es,g,t,k _ _ (.inl rfl) e,c⟩
 |ins C E fs=>
  obtain⟨d,z,ne,e,j,⟨od,es,g,e2,c⟩,r⟩:=x;exact⟨A _ d,z,ne,k _ _ (.inl rfl) e,j,⟨od,es,g,k _ _ (.inr d) e2,c⟩,r⟩
 |own y=>obtain⟨ob,e⟩:=x;exact⟨ob,k _ _ (.inl rfl) e⟩
 |xd fs=>obtain⟨j,⟨od,es,g,e,c⟩,r⟩:=x;exact⟨j,⟨od,es,g,k _ _ (.inl rfl) e,c⟩,r⟩
 |rng lo hi=>obtain⟨t,u,v,e⟩:=x;exact⟨t,u,v,k _ _ (.inl rfl) e⟩
 |qN ob u I=>obtain⟨e,q⟩:=x;exact⟨k _ _ (.inl rfl) e,I q⟩
 |dE g B=>obtain⟨z,y,i,r,ob,es,e,c⟩:=x;exact⟨z,y,i,r,ob,es,k _ _ (.inl rfl) e,c⟩
 |xc C fs=>
  obtain⟨J,i,e,L,M,m⟩:=x;refine⟨J,i,k _ _ (.inl rfl) e,L,M,?_⟩;rcases m with m|⟨E,j,N,O,G,⟨od,es,g,e2,c⟩,Q⟩
  .exact .inl m
  .exact .inr ⟨E,j,N,O,A _ G,⟨od,es,g,k _ _ (.inr G) e2,c⟩,Q⟩
 |xV T=>
  have e:=x;exact k a _ (.inl rfl) e
 |met f y=>
  have e:=x;exact k a _ (.inl rfl) e
 |ext U=>obtain⟨p,⟨o,e⟩,st⟩:=x;exact⟨st _ _ p λo q=>k _ _ (.inl rfl) q,⟨o,k _ _ (.inl rfl) e⟩,st⟩
theorem sy.lt(x:sy P w H h)(e:H a=aa o):a<h.objs.size:=(x a o e).lt
def sy.fresh(x:sy P w H h)(e:h.objs.size<=a):H a=am:=by
 cases q:H a with
 |none=>rfl
 |some u=>exact absurd (bw (x.lt q) e) (cB _)
def sy.kept(x:sy P w H h)(k:∀b u,h.get? b=aa u->h'.get? b=aa u):sy P w H h':=λa o e=>
 (x a o e).tm (λb u _ q=>k b u q) (λ_ q=>q) λ_ _ q=>q
def sy.laid(x:sy P w H h)(k:∀b u,h.get? b=aa u->h'.get? b=aa u)(f:h.objs.size<=a)(new:jq P w (upd H a o) h' a o):sy P w (upd H a o) h':=λb u e=>by
 have hn:=x.fresh f;by_cases hb:b=a
 .subst hb;rw[gZ] at e;cases e;exact new
 .rw[gR hb] at e;exact(x b u e).tm (λc v _ q=>k c v q) (λc q=>by rw[gR (ja q hn)];exact q) λc xs q=>by rw[gR (ja q hn)];exact q
end
def Rd (H:Hp)(a:ar)(u:HO):Prop:=H a=aa u\/∃o,H a=aa (.qN o u)
def Rd.ok(r:Rd H a u)(x:sy P w H h):jq P w H h a u:=by
 rcases r with r|⟨o,r⟩
 .exact x a u r
 .obtain⟨_,q⟩:=x a _ r;exact q
def Mut:Option HO->Prop
 |some (.lst _)=>True
 |some (.dK _)=>True
 |some (.dT _)=>True
 |some (.set _ _)=>True
 |some (.ins _ _ _)=>True
 |some (.ext _)=>True
 |some (.dE _ _)=>True
 |_=>False
section
variable {h h':aw} {x:ar}
def sy.write(ok:sy P w H h)(f:Mut (H x))(m:e=x\/H e=aa (.own x))(k:∀b u,b≠e->h.get? b=aa u->h'.get? b=aa u)(i:∃u,h'.get? e=aa u)
(new:jq P w (upd H x o') h' x o'):sy P w (upd H x o') h':=λb u q=>by
 have a:∀c y,H c=aa (.own y)->c≠x:=λc y r z=>by subst z;rw[r] at f;exact f
 have j:∀c xs,H c=aa (.tup xs)->c≠x:=λc xs r z=>by subst z;rw[r] at f;exact f
 by_cases hb:b=x
 .subst hb;rw[gZ] at q;cases q;exact new
 .rw[gR hb] at q;by_cases g:b=e
  .have n:H b=aa (.own x):=by
    rcases m with z|z
    .exact absurd (g.trans z) hb
    .rw[g];exact z
   rw[q] at n;cases n;obtain⟨v,o⟩:=i;exact⟨v,by rw[g];exact o⟩
  .refine(ok b u q).tm (λc v hc r=>k c v ?_ r) (λc r=>by rw[gR (a c b r)];exact r) λc xs r=>by rw[gR (j c xs r)];exact r
   rcases hc with rfl|hc
   .exact g
   .rintro rfl
    rcases m with z|z
    .exact a c b hc z
    .rw[hc] at z;cases z;exact hb rfl
end
structure Un(fs ex:List ar)(H H':Hp)(h h':aw):Prop where
 keep:∀b o,h.get? b=aa o->H b=am->b∉fs->b∉ex->h'.get? b=aa o
 slot:∀b o,h.get? b=aa o->H b=am->b∈fs->b∉ex->∃sl,h'.get? b=aa {o with slots:=sl}
 free:∀b o,h.get? b=aa o->H b=am->b∉ex->H' b=am
 there:∀b o,h.get? b=aa o->b∉ex->∃o',h'.get? b=aa o'
 tq:∀b xs,H b=aa (.tup xs)->H' b=aa (.tup xs)
 qF:∀b o u,H b=aa (.qN o u)->H' b=aa (.qN o u)
 sA:∀b ps,H b=aa (.xV ps)->∃more,H' b=aa (.xV (ps++more))
section
variable {fs:List ar} {h h1 h':aw} {a x:ar}
def Un.any(u:Un fs ex H H1 h h1)(q:h.get? b=aa ob)(n:H b=am)(c:b∉ex):∃sl,h1.get? b=aa {ob with slots:=sl}:=by
 by_cases hb:b∈fs
 .exact u.slot b ob q n hb c
 .exact⟨ob.slots,u.keep b ob q n hb c⟩
def Un.trans(a:Un fs ex H H1 h h1)(b:Un fs ex H1 H2 h1 h2):Un fs ex H H2 h h2 where
 keep:=λc ob q n hc f=>b.keep c ob (a.keep c ob q n hc f) (a.free c ob q n f) hc f
 slot:=λc ob q n hc f=>by obtain⟨sl,e1⟩:=a.slot c ob q n hc f;obtain⟨i,e2⟩:=b.slot c _ e1 (a.free c ob q n f) hc f;exact⟨i,e2⟩
 free:=λc ob q n f=>by obtain⟨g,e1⟩:=a.there c ob q f;exact b.free c g e1 (a.free c ob q n f) f
 there:=λc ob q f=>by obtain⟨g,e1⟩:=a.there c ob q f;exact b.there c g e1 f
 tq:=λc xs q=>b.tq c xs (a.tq c xs q)
 qF:=λc ob xs q=>b.qF c ob xs (a.qF c ob xs q)
 sA:=λc j q=>by obtain⟨m,e1⟩:=a.sA c j q;obtain⟨p,e2⟩:=b.sA c _ e1;exact⟨m++p,by rw[e2,Array.append_assoc]⟩
def Un.kept(k:∀b u,h.get? b=aa u->h'.get? b=aa u):Un fs ex H H h h':=
 ⟨λb ob q _ _ _=>k b ob q,λb ob q _ _ _=>⟨ob.slots,k b ob q⟩,λ_ _ _ n _=>n,λb ob q _=>⟨ob,k b ob q⟩,λ_ _ q=>q,λ_ _ _ q=>q,λ_ c q=>⟨#[],by rw[q];simp⟩⟩
def Un.refl:Un fs ex H H h h:=Un.kept λ_ _ q=>q
def Un.laid(k:∀b u,h.get? b=aa u->h'.get? b=aa u)(c:h.objs.size<=a)(hn:H a=am):Un fs ex H (upd H a o) h h' where
 keep:=λb u q _ _ _=>k b u q
 slot:=λb u q _ _ _=>⟨u.slots,k b u q⟩
 free:=λb u q n _=>by rw[gR (bg (bw (aH q) c))];exact n
 there:=λb u q _=>⟨u,k b u q⟩
 tq:=λb xs q=>by rw[gR (ja q hn)];exact q
 qF:=λb u xs q=>by rw[gR (ja q hn)];exact q
 sA:=λb f q=>⟨#[],by rw[gR (ja q hn),q];simp⟩
def Un.write(c:Mut (H x))(j:e=x\/H e=aa (.own x))(k:∀b u,b≠e->h.get? b=aa u->h'.get? b=aa u)(f:∃u,h'.get? e=aa u):Un fs ex H (upd H x o) h h':=by
 have g:∀b,H b=am->b≠x:=λb n z=>by subst z;rw[n] at c;exact c
 have hb:∀b,H b=am->b≠e:=λb n z=>by
  subst z;rcases j with r|r
  .exact g b n r
  .rw[n] at r;cases r
 have hm:∀b u,H b=aa u->¬Mut (aa u)->b≠x:=λb u q nm z=>by subst z;rw[q] at c;exact nm c
 refine⟨λb u q n _ _=>k b u (hb b n) q,λb u q n _ _=>⟨u.slots,k b u (hb b n) q⟩,λb u q n _=>by rw[gR (g b n)];exact n,λb u q _=>?_,
  λb xs q=>by rw[gR (hm b _ q λz=>z)];exact q,λb u xs q=>by rw[gR (hm b _ q λz=>z)];exact q,λb m q=>⟨#[],by rw[gR (hm b _ q λz=>z),q];simp⟩⟩
 by_cases i:b=e
 .subst i;exact f
 .exact⟨u,k b u i q⟩
def Un.mono(u:Un fs ex H H1 h h1)(g:∀b∈fs,b∈fs')(f:∀b∈ex,b∈ex'):Un fs' ex' H H1 h h1:=
 ⟨λb ob q n hb c=>u.keep b ob q n (λz=>hb (g b z)) λz=>c (f b z),λ_ _ q n _ c=>u.any q n λz=>c (f _ z),λb ob q n c=>u.free b ob q n λz=>c (f b z),λb ob q c=>u.there b ob q λz=>c (f b z),u.tq,u.qF,u.sA⟩
end
noncomputable def trk(h:aw)(H:Hp):List ar:=(bY h.objs.size).filter λa=>(H a).isSome
noncomputable def B6(h:aw)(H:Hp):aw:=W.hideAll h (trk h H)
def Pn(h:aw)(H:Hp):(B6 h H).objs.size=h.objs.size:=W.hideAll_size _ _
def RV(e:h.get? b=aa o)(n:H b=am):(B6 h H).get? b=aa o:=
 W.hideAll_get _ e λhm=>by have q:=(cK.mp hm).2;rw[n] at q;simp at q
def Wv(e:(B6 h H).get? b=aa o):h.get? b=aa o/\H b=am:=by
 have e':=W.of_hideAll _ e;refine⟨e',?_⟩;cases q:H b with
 |none=>rfl
 |some x=>
  have hm:b∈trk h H:=cK.mpr ⟨fD.mpr (aH e'),by simp[q]⟩;have z:(B6 h H).get? b=am:=W.hideAll_none _ hm;rw[z] at e;cases e
noncomputable def Ww(g h:aw)(L:ar):List (ar×cn):=(bY h.objs.size).filterMap λa=>if a=L\/(g.get? a).isSome=ai then am else(h.get? a).map λo=>(a,o)
noncomputable def rest(g h:aw)(L d:ar):List (ar×cn):=(Ww g h L).filter λp=>decide (p.1≠d)
structure Mod(K:af)(mg:aB->Option ah)(cq:aw):Prop where
 RW:K.In cq
 glob:cq.Ns bf mg
 blt:∃mb,cq.Ns ald mb/\∀x:aB,x≠jD->mb x=bR x
 nolimit:cq.NoLimit
structure Cx where
 prog:aP
 w:bt
 K:af
 mg:aB->Option ah
 cq:aw
 A:bq
 N:List aB
 hU:aq
 hW:Hp
 env:gq
 cv:List gq
 stack:List gq
 ex:List ar
 fn:aB->Bool
 calm:Bool
 pn:List (ar×cn)
 xe:ah->aq->Prop
noncomputable def sx(l:List gq):List ar:=l.filterMap (·.frame)
abbrev Cx.fs(X:Cx):List ar:=sx X.cv
def Rz (sc:cS)(x:aB):Prop:=sc.names.lookup x=aa .local\/sc.names.lookup x=aa .cell\/sc.names.lookup x=aa .free
def Loc (sc:cS)(x:aB):Prop:=sc.names.lookup x=aa .local\/sc.names.lookup x=aa .cell
def Look (env:gq)(h:aw)(m:aB->Option ah)(x:aB)(u:ah):Prop:=
 (env.kindOf x=aa .local/\m x=aa u)\/((env.kindOf x=aa .cell\/env.kindOf x=aa .free)/\∃c,env.cells.lookup x=aa c/\h.IsCell c (aa u))
structure Cx.Ok(X:Cx):Prop where
 mod:Mod X.K X.mg X.cq
 kind:X.env.scope.kind=.function
 glob:X.env.globals=bf
 blt:X.env.builtins=ald
 above:X.hU.heap.objs.size<=X.env.locals
 inj:∀x y c,X.env.cells.lookup x=aa c->X.env.cells.lookup y=aa c->x=y
 has:∀x,(X.env.kindOf x=aa .cell\/X.env.kindOf x=aa .free)->∃c,X.env.cells.lookup x=aa c
 cab:∀x c,X.fn x=ai->X.env.cells.lookup x=aa c->X.hU.heap.objs.size<=c
 hd:X.calm=ai->X.A.handled=am
 frames:X.A.frames=aa X.stack
 stk:X.stack=X.cv\/(X.stack=X.env::X.cv/\X.env.frame=aa X.env.locals)
 exf:∀b∈X.ex,b≠X.env.locals/\∀x c,X.env.cells.lookup x=aa c->c≠b
 bs:∀b o,X.cq.get? b=aa o->X.hU.heap.get? b=aa o/\X.hW b=am
 Po:X.cq.objs.size<=X.hU.heap.objs.size
 Ir:∀b o,X.cq.get? b=aa o->b∉X.ex
 Ll:∀b∈X.ex,b∉X.fs
 wD:X.hU.heap.FunFrames X.cq X.cv
 RX:∀b∈X.fs,X.hW b=am
structure Inv(X:Cx)(cf:List (ar×cn))(σ:List (Option V))(H:Hp)(s:aq):Prop where
 ok:X.Ok
 os:s.os=X.hU.os
 bare:fE s.gens
 cq:Un X.fs X.ex X.hW H X.hU.heap s.heap
 loc:∃m,s.heap.Ns X.env.locals m/\∀(i:Nat) (x:aB) (v:V),X.N[i]?=aa x->σ[i]?=aa (aa v)->Rz X.env.scope x->∃u,RelV v u/\Look X.env s.heap m x u
 cell:∀x c,X.env.cells.lookup x=aa c->∃v,s.heap.IsCell c v
 free:H X.env.locals=am
 mo:∀x c,X.env.cells.lookup x=aa c->H c=am
 pin:∀p∈X.pn++cf,s.heap.get? p.1=aa p.2/\H p.1=am/\p.1≠X.env.locals/\p.1∉X.fs/\∀v,p.2.data≠.cell v
 iC:sy X.prog X.w H s.heap
 len:σ.length=X.N.length
section
variable {X:Cx} {σ:List (Option V)} {s:aq} {h':aw}
def Cx.Ok.ahC(ok:X.Ok)(e:X.cq.get? b=aa o):b∉X.fs:=λhb=>by have:=(ok.wD.mem hb).1;rw[e] at this;cases this
theorem Inv.bs(I:Inv X cf σ H s):∀b o,X.cq.get? b=aa o->s.heap.get? b=aa o/\H b=am:=λb o e=>
 ⟨I.cq.keep b o (I.ok.bs b o e).1 (I.ok.bs b o e).2 (I.ok.ahC e) (I.ok.Ir b o e),I.cq.free b o (I.ok.bs b o e).1 (I.ok.bs b o e).2 (I.ok.Ir b o e)⟩
def Inv.bk(I:Inv X cf σ H s):∀b o,X.cq.get? b=aa o->s.heap.get? b=aa o:=λb o e=>(I.bs b o e).1
theorem Inv.mod(I:Inv X cf σ H s):Mod X.K X.mg X.cq:=I.ok.mod
def Inv.qG(I:Inv X cf σ H s):X.K.In s.heap:=I.ok.mod.RW.keeps I.bk
theorem Inv.lt(I:Inv X cf σ H s):X.env.locals<s.heap.objs.size:=let⟨_,hn,_⟩:=I.loc;hn.lt
def Inv.sz(I:Inv X cf σ H s):X.hU.heap.objs.size<=s.heap.objs.size:=bh I.ok.above (c7 I.lt)
def Inv.aa2(I:Inv X cf σ H s)(h:s.heap.objs.size<=a):a∉X.fs:=λhb=>by obtain⟨_,o,b,_⟩:=I.ok.wD.mem hb;exact absurd (bw (aH b) (bh I.sz h)) (cB _)
def Inv.RY(I:Inv X cf σ H s):∀x c,X.env.cells.lookup x=aa c->c≠X.env.locals:=λx c e z=>by obtain⟨v,o,b,hd⟩:=I.cell x c e;obtain⟨m,⟨g,es,h,f,a,_⟩,_⟩:=I.loc;rw[z,f] at b;cases b;rw[a] at hd;cases hd
theorem Inv.wD(I:Inv X cf σ H s):s.heap.FunFrames X.cq X.cv:=by
 have all:∀(l:List gq),(∀b∈sx l,b∈X.fs)->X.hU.heap.FunFrames X.cq l->s.heap.FunFrames X.cq l:=by
  intro l;induction l with
  |nil=>intro _ _;trivial
  |cons env r g=>
   intro f h;obtain⟨i,⟨L,o,a,hn,j,hd⟩,m⟩:=h;have c:=f L (by unfold sx;rw[gg,a];exact aE);obtain⟨sl,e⟩:=I.cq.slot L o j (I.ok.RX L c) c λz=>I.ok.Ll L z c;exact⟨i,⟨L,_,a,hn,e,hd⟩,g (λb hb=>f b (by unfold sx;rw[gg,a];exact ax _ hb)) m⟩
 exact all X.cv (λ_ hb=>hb) I.ok.wD
theorem Inv.stack(I:Inv X cf σ H s):s.heap.FunFrames X.cq X.stack:=by
 rcases I.ok.stk with e|⟨e,a⟩
 .rw[e];exact I.wD
 .rw[e];obtain⟨m,hn,_⟩:=I.loc;refine .cons (by rw[I.ok.kind];decide) a hn ?_ I.wD;exact cy (bh I.ok.Po I.ok.above)
def Inv.tu(I:Inv X cf σ H s):∀b∈sx X.stack,b∈X.env.locals::X.fs:=λb hb=>by
 rcases I.ok.stk with e|⟨e,a⟩
 .rw[e] at hb;exact ax _ hb
 .rw[e] at hb;unfold sx at hb;rw[gg,a] at hb;exact hb
def Inv.NE(I:Inv X cf σ H s):∀b∈sx X.stack,H b=am:=λb hb=>by
 rcases aN.mp (I.tu b hb) with e|hb
 .rw[e];exact I.free
 .obtain⟨_,o,a,_⟩:=I.ok.wD.mem hb;exact I.cq.free b o a (I.ok.RX b hb) λz=>I.ok.Ll b z hb
def Inv.step{ch:List ar}(I:Inv X cf σ H s)
(j:∀b∈ch,(b∈X.ex\/X.hU.heap.objs.size<=b)/\b≠X.env.locals/\(∀x c,X.env.cells.lookup x=aa c->c≠b)/\∀p∈X.pn++cf,p.1≠b)
(keep:∀b o,b≠X.env.locals->b∉X.fs->b∉ch->s.heap.get? b=aa o->H b=am->h'.get? b=aa o)
(slot:∀b o,b≠X.env.locals->b∈X.fs->b∉ch->s.heap.get? b=aa o->H b=am->∃sl,h'.get? b=aa {o with slots:=sl})(free:∀b o,b∉ch->s.heap.get? b=aa o->H b=am->H' b=am)
(there:∀b o,b∉ch->s.heap.get? b=aa o->∃y,h'.get? b=aa y)
(tq:∀b xs,H b=aa (.tup xs)->H' b=aa (.tup xs))(qF:∀b o u,H b=aa (.qN o u)->H' b=aa (.qN o u))(sA:∀b B,H b=aa (.xV B)->∃more,H' b=aa (.xV (B++more)))
(ns:∀m,s.heap.Ns X.env.locals m->h'.Ns X.env.locals m)(iC:sy X.prog X.w H' h')(J:fE L):
  Inv X cf σ H' {s with heap:=h',gens:=L,drawn:=T,toks:=U}:=by
 have A:∀b o,X.hU.heap.get? b=aa o->b≠X.env.locals:=λb o e=>bg (bw (aH e) I.ok.above);have g:∀b o,X.hU.heap.get? b=aa o->b∉X.ex->b∉ch:=λb o e a hb=>by
  rcases(j b hb).1 with z|z
  .exact a z
  .exact absurd (bw (aH e) z) (cB _)
 have C:∀x c,X.env.cells.lookup x=aa c->∀v,s.heap.IsCell c v->h'.IsCell c v:=λx c e v ⟨o,h,hd⟩=>by
  have f:=λz=>(j c z).2.2.1 x c e rfl;by_cases hc:c∈X.fs
  .obtain⟨sl,q⟩:=slot c o (I.RY x c e) hc f h (I.mo x c e);exact⟨_,q,hd⟩
  .exact⟨o,keep c o (I.RY x c e) hc f h (I.mo x c e),hd⟩
 refine⟨I.ok,I.os,J,⟨λb o e n hb a=>?_,λb o e n hb a=>?_,λb o e n a=>?_,λb o e a=>?_,λb xs e=>tq b xs (I.cq.tq b xs e),λb o xs e=>qF b o xs (I.cq.qF b o xs e),λb B e=>?_⟩,?_,λx c e=>?_,?_,λx c e=>?_,λp E=>?_,iC,I.len⟩
 .exact keep b o (A b o e) hb (g b o e a) (I.cq.keep b o e n hb a) (I.cq.free b o e n a)
 .obtain⟨sl,e1⟩:=I.cq.slot b o e n hb a;obtain⟨M,e2⟩:=slot b _ (A b o e) hb (g b o e a) e1 (I.cq.free b o e n a);exact⟨M,e2⟩
 .obtain⟨y,e1⟩:=I.cq.there b o e a;exact free b y (g b o e a) e1 (I.cq.free b o e n a)
 .obtain⟨y,e1⟩:=I.cq.there b o e a;exact there b y (g b o e a) e1
 .obtain⟨N,e1⟩:=I.cq.sA b B e;obtain⟨O,e2⟩:=sA b _ e1;exact⟨N++O,by rw[e2,Array.append_assoc]⟩
 .obtain⟨m,hn,Q⟩:=I.loc;refine⟨m,ns m hn,λi x v e1 e2 e3=>?_⟩;obtain⟨u,r,l⟩:=Q i x v e1 e2 e3;refine⟨u,r,?_⟩;rcases l with l|⟨k,c,e,z⟩
  .exact .inl l
  .exact .inr ⟨k,c,e,C x c e _ z⟩
 .obtain⟨v,z⟩:=I.cell x c e;exact⟨v,C x c e v z⟩
 .obtain⟨m,⟨o,_,_,h,_⟩,_⟩:=I.loc;exact free _ o (λz=>(j _ z).2.1 rfl) h I.free
 .obtain⟨v,o,h,hd⟩:=I.cell x c e;exact free c o (λz=>(j c z).2.2.1 x c e rfl) h (I.mo x c e)
 .obtain⟨e,n,ne,G,d⟩:=I.pin p E;have f:=λz=>(j p.1 z).2.2.2 p E rfl;exact⟨keep p.1 p.2 ne G f e n,free p.1 p.2 f e n,ne,G,d⟩
def Inv.un(I:Inv X cf σ H s)(u:Un X.fs [] H H' s.heap h')(iC:sy X.prog X.w H' h'):Inv X cf σ H' {s with heap:=h',toks:=t'}:=by
 obtain⟨m,⟨o,es,j,f,r⟩,_⟩:=id I.loc;obtain⟨sl,h⟩:=u.any f I.free (by simp);exact I.step (ch:=[]) (λ_ z=>nomatch z) (λb o _ hb _ e n=>u.keep b o e n hb (by simp)) (λb o _ hb _ e n=>u.slot b o e n hb (by simp)) (λb o _ e n=>u.free b o e n (by simp)) (λb o _ e=>u.there b o e (by simp)) u.tq u.qF u.sA (λp hm=>by obtain⟨q,a,c,g,i⟩:=hm;rw[f] at g;cases g;exact⟨_,a,c,h,i⟩) iC I.bare
def Inv.call{q:alN}{ch:List ar}(I:Inv X cf σ H s)(u:Un (sx X.stack) ch H H' s.heap h')(iC:sy X.prog X.w H' h')(v:fE y)
(h:∀b∈ch,(b∈X.ex\/X.hU.heap.objs.size<=b)/\b≠X.env.locals/\(∀x c,X.env.cells.lookup x=aa c->c≠b)/\∀p∈X.pn++cf,p.1≠b):
  Inv X cf σ H' {s with heap:=h',gens:=y,drawn:=q,toks:=B}:=by
 obtain⟨m,⟨o,es,C,i,r⟩,_⟩:=id I.loc;obtain⟨sl,a⟩:=u.any i I.free λz=>(h _ z).2.1 rfl;exact I.step h (λb o a hb hc e n=>u.keep b o e n (λz=>(aN.mp (I.tu b z)).elim a hb) hc) (λb o _ _ hc e n=>u.any e n hc) (λb o hc e n=>u.free b o e n hc) (λb o hc e=>u.there b o e hc) u.tq u.qF u.sA (λE hm=>by obtain⟨G,f,g,j,A⟩:=hm;rw[i] at j;cases j;exact⟨_,f,g,a,A⟩) iC v
def Inv.turned(I:Inv X cf σ H s)(k:∀b o,b≠it->s.heap.get? b=aa o->h'.get? b=aa o)(hn:H it=am)(a:it≠X.env.locals)
(g:it∈X.ex\/X.hU.heap.objs.size<=it)(h:∀x c,X.env.cells.lookup x=aa c->c≠it)(i:∀p∈X.pn++cf,p.1≠it):Inv X cf σ H {s with heap:=h',toks:=t'}:=by
 have f:∀b u,H b=aa u->b≠it:=λb u e z=>by rw[z,hn] at e;cases e
 refine I.step (ch:=[it]) (λb hb=>?_) (λb o _ _ hc e _=>k b o (λz=>hc (by simp[z])) e) (λb o _ _ hc e _=>⟨o.slots,k b o (λz=>hc (by simp[z])) e⟩) (λ_ _ _ _ n=>n)
  (λb o hc e=>⟨o,k b o (λz=>hc (by simp[z])) e⟩) (λ_ _ e=>e) (λ_ _ _ e=>e) (λb y e=>⟨#[],by rw[e];simp⟩) (λm hm=>?_) (λb u e=>?_) I.bare
 .have e:=by simpa using hb
  subst e;exact⟨g,a,h,i⟩
 .obtain⟨o,es,j,w,r⟩:=hm;exact⟨o,es,j,k _ o (ci a) w,r⟩
 .refine(I.iC b u e).tm (λc v hc q=>k c v ?_ q) (λ_ q=>q) λ_ _ q=>q;rcases hc with z|z
  .rw[z];exact f b u e
  .exact f c _ z
def Inv.tok(I:Inv X cf σ H s)(t:Nat):Inv X cf σ H {s with toks:=t}:=I.un Un.refl I.iC
theorem Inv.kept(I:Inv X cf σ H s)(k:∀b u,s.heap.get? b=aa u->h'.get? b=aa u):Inv X cf σ H {s with heap:=h',toks:=t'}:=I.un (Un.kept k) (I.iC.kept k)
theorem Inv.laid(I:Inv X cf σ H s)(k:∀b u,s.heap.get? b=aa u->h'.get? b=aa u)(c:s.heap.objs.size<=a)(new:jq X.prog X.w (upd H a o) h' a o):
  Inv X cf σ (upd H a o) {s with heap:=h',toks:=t'}:=I.un (Un.laid k c (I.iC.fresh c)) (I.iC.laid k c new)
theorem Inv.write(I:Inv X cf σ H s)(c:Mut (H x))(f:e=x\/H e=aa (.own x))(k:∀b u,b≠e->s.heap.get? b=aa u->h'.get? b=aa u)(a:∃u,h'.get? e=aa u)
(new:jq X.prog X.w (upd H x o) h' x o):Inv X cf σ (upd H x o) {s with heap:=h',toks:=g}:=I.un (Un.write c f k a) (I.iC.write c f k a new)
def Inv.NF(I:Inv X cf σ H s)(h:∀p∈a,s.heap.get? p.1=aa p.2/\H p.1=am/\p.1≠X.env.locals/\p.1∉X.fs/\∀v,p.2.data≠.cell v):Inv X a σ H s:=
 ⟨I.ok,I.os,I.bare,I.cq,I.loc,I.cell,I.free,I.mo,λp b=>(bj.mp b).elim (λz=>I.pin p (bV _ z)) (h p),I.iC,I.len⟩
def B7{N:List aB}(c:N.Nodup){i j:Nat}(a:N[i]?=aa x)(b:N[j]?=aa x):i=j:=by obtain⟨e,e1⟩:=au.mp a;obtain⟨f,e2⟩:=au.mp b;exact(fR c).mp (e1.trans e2.symm)
def zm(I:Inv X cf σ H s)(hN:X.N.Nodup)(hi:X.N[i]?=aa x)(g:Loc X.env.scope x)(r:RelV v u)
(h:∀s',Inv X cf (σ.set i (aa v)) H s'->(∃a,bM a s.heap s'.heap/\(a=X.env.locals\/X.env.cells.lookup x=aa a))->Q () s')(hf:X.fn x=ai\/X.env.scope.names.lookup x=aa .local:=by first|exact .inl rfl|exact .inr rfl|assumption):wpAny M A (alD X.env x u) Q E s:=by
 obtain⟨m,hn,hl⟩:=id I.loc;have aa3:(X.env.scope.kind==.class||(X.env.scope.kind==.module&&X.env.locals !=X.env.globals))=ao:=by rw[I.ok.kind];rfl
 have J:i<σ.length:=by rw[I.len];exact(au.mp hi).1
 have RY:=I.RY;have NG:∀{a:ar} {h':aw},(∃o,s.heap.get? a=aa o/\H a=am)->bM a s.heap h'->sy X.prog X.w H h':=λ{a h'} ha f b ob e=>by
  obtain⟨_,_,ZJ⟩:=ha;refine(I.iC b ob e).tm (λc U hc q=>(f.2 c ?_).trans q) (λ_ q=>q) λ_ _ q=>q
  rintro rfl
  rcases hc with rfl|hc
  .rw[ZJ] at e;cases e
  .rw[ZJ] at hc;cases hc
 rcases g with B|B
 .refine wpAny_storeName_local B hn (λh' Wx f=>?_) aa3;obtain⟨oL,_,_,RA,_⟩:=id hn;refine h _ ⟨I.ok,I.os,I.bare,⟨λb o e n hb g=>?_,λb o e n hb g=>?_,I.cq.free,λb o e g=>?_,I.cq.tq,I.cq.qF,I.cq.sA⟩,⟨_,Wx,λj y v' e1 e2 e3=>?_⟩,λy c e=>?_,I.free,I.mo,λp hp=>?_,NG ⟨oL,RA,I.free⟩ f,by simpa using I.len⟩ ⟨_,f,.inl rfl⟩
  .exact(f.2 b (bg (bw (aH e) I.ok.above))).trans (I.cq.keep b o e n hb g)
  .obtain⟨sl,e1⟩:=I.cq.slot b o e n hb g;exact⟨sl,(f.2 b (bg (bw (aH e) I.ok.above))).trans e1⟩
  .obtain⟨o',e1⟩:=I.cq.there b o e g;exact⟨o',(f.2 b (bg (bw (aH e) I.ok.above))).trans e1⟩
  .by_cases C:j=i
   .subst C;rw[hi] at e1;cases e1;rw[cC J] at e2;cases e2;exact⟨u,r,.inl ⟨B,by simp⟩⟩
   .rw[cb (ci C)] at e2;obtain⟨u',r',q⟩:=hl j y v' e1 e2 e3;refine⟨u',r',?_⟩;rcases q with⟨k,e⟩|⟨k,c,e,z⟩
    .refine .inl ⟨k,?_⟩;have:y≠x:=λe=>C (B7 hN e1 (e▸hi));simp[this,e]
    .exact .inr ⟨k,c,e,z.sameBut f (RY y c e)⟩
  .obtain⟨U,z⟩:=I.cell y c e;exact⟨U,z.sameBut f (RY y c e)⟩
  .obtain⟨e,n,ne,nf,d⟩:=I.pin p hp;exact⟨(f.2 p.1 ne).trans e,n,ne,nf,d⟩
 .have G:X.fn x=ai:=by
   rcases hf with z|z
   .exact z
   .rw[z] at B;cases B
  obtain⟨c,hc⟩:=I.ok.has x (.inl B);obtain⟨U,z⟩:=I.cell x c hc;refine wpAny_storeName_cell I.ok.kind B hc z (λh' L f=>?_);obtain⟨oc,O,ahD⟩:=id z;refine h {s with heap:=h'} ⟨I.ok,I.os,I.bare,⟨λb o e n hb g=>?_,λb o e n hb g=>?_,I.cq.free,λb o e g=>?_,I.cq.tq,I.cq.qF,I.cq.sA⟩,⟨m,hn.sameBut f (ci (RY x c hc)),λj y v' e1 e2 e3=>?_⟩,λy Y e=>?_,I.free,I.mo,λp hp=>?_,NG ⟨oc,O,I.mo x c hc⟩ f,by simpa using I.len⟩ ⟨c,f,.inr hc⟩
  .exact(f.2 b (bg (bw (aH e) (I.ok.cab x c G hc)))).trans (I.cq.keep b o e n hb g)
  .obtain⟨sl,e1⟩:=I.cq.slot b o e n hb g;exact⟨sl,(f.2 b (bg (bw (aH e) (I.ok.cab x c G hc)))).trans e1⟩
  .obtain⟨o',e1⟩:=I.cq.there b o e g;exact⟨o',(f.2 b (bg (bw (aH e) (I.ok.cab x c G hc)))).trans e1⟩
  .by_cases C:j=i
   .subst C;rw[hi] at e1;cases e1;rw[cC J] at e2;cases e2;exact⟨u,r,.inr ⟨.inl B,c,hc,L⟩⟩
   .rw[cb (ci C)] at e2;obtain⟨u',r',q⟩:=hl j y v' e1 e2 e3;refine⟨u',r',?_⟩;rcases q with q|⟨k,Y,e,z'⟩
    .exact .inl q
    .refine .inr ⟨k,Y,e,z'.sameBut f ?_⟩
     rintro rfl
     exact C (B7 hN e1 (I.ok.inj _ _ _ e hc▸hi))
  .by_cases T:Y=c
   .subst T;exact⟨_,L⟩
   .obtain⟨w2,z2⟩:=I.cell y Y e;exact⟨w2,z2.sameBut f T⟩
  .obtain⟨e,n,ne,nf,d⟩:=I.pin p hp;refine⟨(f.2 p.1 ?_).trans e,n,ne,nf,d⟩;intro q;rw[q,O] at e;have q':oc=p.2:=bA e;exact d U (by rw[<-q'];exact ahD)
def B8(I:Inv X cf σ H s)(b:X.N.Nodup)(hi:X.N[i]?=aa x)(c:Loc X.env.scope x)(r:RelV v u)
(h:∀a,Inv X cf (σ.set i (aa v)) H a->Q () a)(e:X.fn x=ai\/X.env.scope.names.lookup x=aa .local:=by first|exact .inl rfl|exact .inr rfl|assumption):wpAny M A (alD X.env x u) Q E s:=
 zm I b hi c r (λa f _=>h a f) e
def Inv.As(I:Inv X cf σ H s)(f:a.os=s.os)(u:Un (sx X.stack) ch H H' s.heap a.heap)(iC:sy X.prog X.w H' a.heap)(g:fE a.gens)
(h:∀b∈ch,(b∈X.ex\/X.hU.heap.objs.size<=b)/\b≠X.env.locals/\(∀x c,X.env.cells.lookup x=aa c->c≠b)/\∀p∈X.pn++cf,p.1≠b):Inv X cf σ H' a:=by obtain⟨h',i,j,m,n⟩:=a;have e:=f;subst e;exact I.call u iC g h
end
abbrev XK:=ah->Option ar->Hp->Prop
abbrev St:=List (Option V)
abbrev VK:=V->Hp->Prop
abbrev TE:=St->Hp->VK->Prop
abbrev TT:=St->Hp->(Bool->Hp->Prop)->Prop
abbrev TA:=St->Hp->(List V->Hp->Prop)->Prop
structure Ends where
 nx:St->Hp->Prop
 rt:VK
 bk:St->Hp->Prop:=λ_ _=>False
 ct:St->Hp->Prop:=λ_ _=>False
abbrev TS:=Ends->St->Hp->Prop
def EP (X:Cx)(cf:List (ar×cn))(c:St)(Q:VK)(u:ah)(b:aq):Prop:=∃v a,Inv X cf c a b/\RelV v u/\Q v a
def TP (X:Cx)(cf:List (ar×cn))(e:St)(Q:Bool->Hp->Prop)(b:Bool)(c:aq):Prop:=∃a,Inv X cf e a c/\Q b a
def AP (X:Cx)(cf:List (ar×cn))(e:St)(Q:List V->Hp->Prop)(us:List ah)(c:aq):Prop:=∃a b,Inv X cf e b c/\Vals a us/\Q a b
def SP (X:Cx)(cf:List (ar×cn))(D:Ends)(f:Flow)(c:aq):Prop:=
 match f with
 |.next=>∃b a,Inv X cf b a c/\D.nx b a
 |.brk=>∃b a,Inv X cf b a c/\D.bk b a
 |.cont=>∃b a,Inv X cf b a c/\D.ct b a
 |.ret u=>∃v b a,Inv X cf b a c/\RelV v u/\D.rt v a
def PE (X:Cx)(e:bv)(t:TE):Prop:=
 ∀(cf:List (ar×cn)) (s:aq) (a:St) (H:Hp) (Q:VK),Inv X cf a H s->t a H Q->wpAny (model X.prog X.w) X.A (eval e X.env) (EP X cf a Q) X.xe s
def PT (X:Cx)(e:bv)(t:TT):Prop:=
 ∀(cf:List (ar×cn)) (s:aq) (a:St) (H:Hp) (Q:Bool->Hp->Prop),Inv X cf a H s->t a H Q->wpAny (model X.prog X.w) X.A (akT e X.env (eval e X.env)) (TP X cf a Q) X.xe s
def PW (X:Cx)(e:bv)(t:TT):Prop:=
 ∀(a:Sem ah) (cf:List (ar×cn)) (s:aq) (b:St) (H:Hp) (Q:Bool->Hp->Prop),Inv X cf b H s->t b H Q->wpAny (model X.prog X.w) X.A (akT e X.env a) (TP X cf b Q) X.xe s
def PW.pt(h:PW X e t):PT X e t:=h _
def PA (X:Cx)(es:List bv)(t:TA):Prop:=
 ∀(pos:dA) (cf:List (ar×cn)) (s:aq) (a:St) (H:Hp) (Q:List V->Hp->Prop),Inv X cf a H s->t a H Q->wpAny (model X.prog X.w) X.A (spliced (cO pos (aV es X.env))) (AP X cf a Q) X.xe s
def PS (X:Cx)(st:cN)(t:TS):Prop:=
 ∀(cf:List (ar×cn)) (s:aq) (a:St) (H:Hp) (D:Ends),Inv X cf a H s->t D a H->wpAny (model X.prog X.w) X.A (exec st X.env) (SP X cf D) X.xe s
def wX (X:Cx)(st:List cN)(t:TS):Prop:=
 ∀(cf:List (ar×cn)) (s:aq) (a:St) (H:Hp) (D:Ends),Inv X cf a H s->t D a H->wpAny (model X.prog X.w) X.A (execs st X.env) (SP X cf D) X.xe s
def jB{t:Sem e}(h:wpAny M A t Q E s)(b:∀a s,Q a s->c a s):wpAny M A t c E s:=cc h b λ_ _ x=>x
section
variable {X:Cx}
def Pp (i:Nat):TE:=λa H Q=>∃v,a[i]?=aa (aa v)/\Q v H
def tC (v:V):TE:=λ_ H Q=>Q v H
def wY(g:X.N[i]?=aa x)(j:Rz X.env.scope x)(hd:(x==(dV:aB))=ao:=by decide)(n:(x==(mr:aB))=ao:=by decide):PE X (.Name x pos) (Pp i):=by
 intro cf s p H Q I h;obtain⟨v,e,h⟩:=h;obtain⟨m,hn,o⟩:=I.loc;obtain⟨u,r,l⟩:=o i x v g e j;have b:EP X cf p Q u s:=⟨v,H,I,r,h⟩;rcases l with⟨a,hm⟩|⟨a,c,hc,f⟩
 .exact ale (ak6 I.ok.kind a hn hm b) hd
 .rcases a with a|a
  .exact ale (alc I.ok.kind a hc f b) hd
  .exact ale (wpAny_loadName_free I.ok.kind a hc f b n) hd
def RZ:PE X (.Constant (.int i) j pos) (tC (.int i)):=λ_ _ _ H _ I h=>wpAny_Constant_int ⟨.int i,H,I.tok _,⟨_,rfl⟩,h⟩
def aeA:PE X (.Constant (.bool b) j pos) (tC (.bl b)):=λ_ _ _ H _ I h=>Constant_bool ⟨.bl b,H,I,rfl,h⟩
def aa4:PE X (.Constant .none j pos) (tC .non):=λ_ _ _ H _ I h=>Constant_none ⟨.non,H,I,rfl,h⟩
def R0:PE X (.Constant (.str x) j pos) (tC (.str x)):=λ_ _ _ H _ I h=>Calls.Constant_str ⟨.str x,H,I.tok _,⟨_,rfl⟩,h⟩
def Gl (X:Cx)(x:aB):Prop:=X.env.kindOf x=aa .globalImplicit
def tz(I:Inv X cf b H s)(a:Gl X x)(hm:X.mg x=aa u)(h:Q u s)
(hd:(x==(dV:aB))=ao:=by decide):wpAny (model X.prog X.w) X.A (eval (.Name x pos) X.env) Q E s:=
 Calls.Name_function_global I.ok.kind a (Calls.loadGlobal_global (by rw[I.ok.glob];exact I.mod.glob.keeps I.bk) hm h) hd
def wZ(I:Inv X cf g H s)(a:Gl X x)(hm:X.mg x=am)(b:bR x=aa u)(h:Q u s)
(hn:x≠jD:=by decide)(hd:(x==(dV:aB))=ao:=by decide):wpAny (model X.prog X.w) X.A (eval (.Name x pos) X.env) Q E s:=by obtain⟨f,c,e⟩:=I.mod.blt;exact Calls.Name_function_global I.ok.kind a (Calls.loadGlobal_builtin (by rw[I.ok.glob];exact I.mod.glob.keeps I.bk) hm (by rw[I.ok.blt];exact c.keeps I.bk) ((e x hn).trans b) h) hd
def NI(a:Gl X x)(hm:X.mg x=aa u)(r:RelV v u)(hd:(x==(dV:aB))=ao:=by decide):PE X (.Name x pos) (tC v):=
 λ_ _ _ H _ I h=>tz I a hm ⟨v,H,I,r,h⟩ hd
def Wy(a:Gl X x)(hm:X.mg x=am)(b:bR x=aa u)(r:RelV v u)(hn:x≠jD:=by decide)(hd:(x==(dV:aB))=ao:=by decide):PE X (.Name x pos) (tC v):=
 λ_ _ _ H _ I h=>wZ I a hm b ⟨v,H,I,r,h⟩ hn hd
def tB (t:TE):TT:=λa H Q=>t a H λx H1=>∃c,x=.bl c/\Q c H1
def aa5(h:PE X e t)(f:∀c,akT e X.env c=(do let v<-c;ajY e.pos;holding [v] (truthy v)):=by intro _;rfl):PT X e (tB t):=by intro cf s a H Q I hw;refine isTrue_plain (jB (h cf s a H _ I hw) λv s1 zq=>?_) (f _);obtain⟨x,H1,g,i,j⟩:=zq;obtain⟨d,rfl,q⟩:=j;cases i;exact cw ⟨H1,g,q⟩
variable {rest:List bv}
def ahE (t u:TT):TT:=λa H Q=>t a H λc H1=>if c=ai then u a H1 Q else Q ao H1
def tOr (t u:TT):TT:=λa H Q=>t a H λc H1=>if c=ai then Q ai H1 else u a H1 Q
def ahF (t:TT):TT:=λa H Q=>t a H λc H1=>Q (!c) H1
def pw_and1(ha:PT X a tA):PW X (.BoolOp .And [a] pos) tA:=by
 intro f cf s b H Q I h;refine isTrue_and (jB (ha cf s b H Q I h) λc s1 e=>?_);cases c with
 |true=>exact isTrue_and_nil e
 |false=>exact e
def pw_or1(ha:PT X a tA):PW X (.BoolOp .Or [a] pos) tA:=by
 intro f cf s b H Q I h;refine isTrue_or (jB (ha cf s b H Q I h) λc s1 e=>?_);cases c with
 |false=>exact isTrue_or_nil e
 |true=>exact e
def pw_and(ha:PT X a tA)(hb:PW X (.BoolOp .And (b::rest) pos) R3):PW X (.BoolOp .And (a::b::rest) pos) (ahE tA R3):=by
 intro g cf s j H Q I h;refine isTrue_and (jB (ha cf s j H _ I h) λc s1 i=>?_);obtain⟨H1,e,f⟩:=i;cases c with
 |true=>exact hb g cf s1 j H1 Q e f
 |false=>exact⟨H1,e,f⟩
def pw_or(ha:PT X a tA)(hb:PW X (.BoolOp .Or (b::rest) pos) R3):PW X (.BoolOp .Or (a::b::rest) pos) (tOr tA R3):=by
 intro g cf s j H Q I h;refine isTrue_or (jB (ha cf s j H _ I h) λc s1 i=>?_);obtain⟨H1,e,f⟩:=i;cases c with
 |true=>exact⟨H1,e,f⟩
 |false=>exact hb g cf s1 j H1 Q e f
def aa6(ha:PT X a tA):PT X (.UnaryOp .Not a pos) (ahF tA):=by intro cf s b H Q I h;exact isTrue_not (ha cf s b H (λc H1=>Q (!c) H1) I h)
def aeB (ta tb:TE):TE:=λa H Q=>ta a H λx H1=>∃c,x=.bl c/\if c=ai then tb a H1 Q else Q (.bl ao) H1
def ahG (ta tb:TE):TE:=λa H Q=>ta a H λx H1=>∃c,x=.bl c/\if c=ai then Q (.bl ai) H1 else tb a H1 Q
def aeC (ta:TE):TE:=λa H Q=>ta a H λx H1=>∃c,x=.bl c/\Q (.bl (!c)) H1
def aa7(h:PE X a t):PE X (.BoolOp op [a] pos) t:=λcf s b H Q I hw=>BoolOp_one (h cf s b H Q I hw)
def aa8(ha:PE X a ta)(hb:PE X (.BoolOp .And (b::rest) pos) tb):PE X (.BoolOp .And (a::b::rest) pos) (aeB ta tb):=by
 intro cf s j H Q I h;refine BoolOp_and (jB (ha cf s j H _ I h) λv s1 g=>?_);obtain⟨x,H1,f,i,e⟩:=g;obtain⟨c,rfl,e⟩:=e;cases i;refine cw ?_;cases c with
 |true=>exact hb cf s1 j H1 Q f e
 |false=>exact⟨.bl ao,H1,f,rfl,e⟩
def aeD(ha:PE X a ta)(hb:PE X (.BoolOp .Or (b::rest) pos) tb):PE X (.BoolOp .Or (a::b::rest) pos) (ahG ta tb):=by
 intro cf s j H Q I h;refine BoolOp_or (jB (ha cf s j H _ I h) λv s1 g=>?_);obtain⟨x,H1,f,i,e⟩:=g;obtain⟨c,rfl,e⟩:=e;cases i;refine cw ?_;cases c with
 |false=>exact hb cf s1 j H1 Q f e
 |true=>exact⟨.bl ai,H1,f,rfl,e⟩
def aa9(ha:PE X a ta):PE X (.UnaryOp .Not a pos) (aeC ta):=by intro cf s b H Q I h;refine UnaryOp_ (jB (ha cf s b H _ I h) λv s1 f=>?_);obtain⟨x,H1,g,i,e⟩:=f;obtain⟨c,rfl,e⟩:=e;cases i;exact not_of (cw ⟨.bl (!c),H1,g,rfl,e⟩)
def tIf (t:TT)(ta tb:TE):TE:=λa H Q=>t a H λc H1=>if c=ai then ta a H1 Q else tb a H1 Q
def R4(hc:PT X c tA)(ha:PE X a ta)(hb:PE X b tb):PE X (.IfExp c a b pos) (tIf tA ta tb):=by
 intro cf s i H Q I h;refine wpAny_IfExp (jB (hc cf s i H _ I h) λd s1 g=>?_);obtain⟨H1,e,f⟩:=g;cases d with
 |true=>exact ha cf s1 i H1 Q e f
 |false=>exact hb cf s1 i H1 Q e f
end
def nr (K:af)(H:Hp)(a:ar)(xs:List V):Prop:=
 Rd H a (.lst xs)\/
  ∃(o:cn) (ig:Array ah) (n:Nat),K.lookup a=aa o/\o.cls=.type ap/\o.dict=am/\o.data=.seq ig n/\ig.size<=az/\Vals xs ig.toList
def w4 (K:af)(H:Hp)(a:ar)(xs:List V):Prop:=
 Rd H a (.tup xs)\/
  ∃(o:cn) (ig:Array ah) (n:Nat),K.lookup a=aa o/\o.cls=.type dy/\o.data=.seq ig n/\ig.size<=az/\Vals xs ig.toList
noncomputable def ahH:ah->Option V
 |.none=>aa .non
 |.bool b=>aa (.bl b)
 |.int i _=>aa (.int i)
 |.str x _=>aa (.str x)
 |.bytes b _=>aa (.Rx b)
 |.float b _=>aa (.flt b)
 |.ref a=>aa (.ref a)
 |.type n=>aa (.ty n)
 |_=>am
def RelV.abs(r:RelV x u):ahH u=aa x:=by
 cases x with
 |non=>cases r;rfl
 |bl _=>cases r;rfl
 |int _=>obtain⟨t,rfl⟩:=r;rfl
 |str _=>obtain⟨t,rfl⟩:=r;rfl
 |Rx _=>obtain⟨t,rfl⟩:=r;rfl
 |flt _=>obtain⟨t,rfl⟩:=r;rfl
 |ref _=>cases r;rfl
 |ty _=>cases r;rfl
def RelV.inj(r:RelV x u)(q:RelV y u):x=y:=bA (r.abs.symm.trans q.abs)
theorem Vals.inj:∀{xs a:List V} {us:List ah},Vals xs us->Vals a us->xs=a
 |_,_,_,.nil,.nil=>rfl
 |_,_,_,.cons r t,.cons b c=>by rw[r.inj b,Vals.inj t c]
section
variable {X:Cx} {s:aq} {xs:List V}
def nr.of{K:af}(h:H a=aa (.lst xs)):nr K H a xs:=.inl (.inl h)
def Inv.list(I:Inv X cf σ H s)(h:nr X.K H a xs):∃ig:List ah,Vals xs ig/\PlainL s.heap a ig.toArray/\xs.length<=az:=by
 rcases h with h|⟨o,ig,n,b,hc,hd,c,f,r⟩
 .obtain⟨z,ig,n,r,e⟩:=h.ok I.iC;exact⟨ig,r,⟨_,n,e,rfl,rfl,rfl⟩,z⟩
 .refine⟨ig.toList,r,⟨o,n,I.qG a o b,hc,hd,by simpa using c⟩,?_⟩;have e:=r.length;simp only [bT] at e;lia
def Inv.tuple(I:Inv X cf σ H s)(h:w4 X.K H a xs):∃ig:List ah,Vals xs ig/\aj4 s.heap a ig.toArray/\xs.length<=az:=by
 rcases h with h|⟨o,ig,n,b,hc,c,f,r⟩
 .obtain⟨z,ig,r,p⟩:=h.ok I.iC;exact⟨ig,r,p,z⟩
 .refine⟨ig.toList,r,⟨o,I.qG a o b,hc,n,by simpa using c⟩,?_⟩;have e:=r.length;simp only [bT] at e;lia
def Inv.Iv(I:Inv X cf σ H s)(h:nr X.K H a xs)(c:nr X.K H a ys):xs=ys:=by
 obtain⟨ig,r,⟨o,n,e,_,_,d⟩,_⟩:=I.list h;obtain⟨i,f,⟨j,m,e',_,_,b⟩,_⟩:=I.list c;rw[e] at e';cases e';rw[d] at b;injection b with g _;have:=by simpa using congrArg Array.toList g
 subst this;exact r.inj f
def Inv.Fj(I:Inv X cf σ H s)(h:w4 X.K H a xs)(c:w4 X.K H a ys):xs=ys:=by
 obtain⟨ig,r,⟨o,e,_,n,d⟩,_⟩:=I.tuple h;obtain⟨i,f,⟨j,e',_,m,b⟩,_⟩:=I.tuple c;rw[e] at e';cases e';rw[d] at b;injection b with g _;have:=by simpa using congrArg Array.toList g
 subst this;exact r.inj f
end
abbrev Cx.Cb(X:Cx)(E:ah->aq->Prop):Cx:={X with xe:=E}
abbrev Cx.ED(X:Cx):Cx:=X.Cb λ_ _=>False
theorem Cx.Ok.Cb{X:Cx}(ok:X.Ok)(E:ah->aq->Prop):(X.Cb E).Ok:=
 ⟨ok.mod,ok.kind,ok.glob,ok.blt,ok.above,ok.inj,ok.has,ok.cab,ok.hd,ok.frames,ok.stk,ok.exf,ok.bs,ok.Po,ok.Ir,ok.Ll,ok.wD,ok.RX⟩
def Cx.Ok.tD{X:Cx}(ok:(X.Cb E).Ok):X.Ok:=
 ⟨ok.mod,ok.kind,ok.glob,ok.blt,ok.above,ok.inj,ok.has,ok.cab,ok.hd,ok.frames,ok.stk,ok.exf,ok.bs,ok.Po,ok.Ir,ok.Ll,ok.wD,ok.RX⟩
section
variable {X:Cx} {s:aq}
theorem Inv.Cb(I:Inv X cf σ H s)(E:ah->aq->Prop):Inv (X.Cb E) cf σ H s:=⟨I.ok.Cb E,I.os,I.bare,I.cq,I.loc,I.cell,I.free,I.mo,I.pin,I.iC,I.len⟩
theorem Inv.tD(I:Inv (X.Cb E) cf σ H s):Inv X cf σ H s:=⟨I.ok.tD,I.os,I.bare,I.cq,I.loc,I.cell,I.free,I.mo,I.pin,I.iC,I.len⟩
theorem SP.tD(h:SP (X.Cb E) cf D f c):SP X cf D f c:=by
 cases f with
 |next=>obtain⟨a,b,I,q⟩:=h;exact⟨a,b,I.tD,q⟩
 |brk=>obtain⟨a,b,I,q⟩:=h;exact⟨a,b,I.tD,q⟩
 |cont=>obtain⟨a,b,I,q⟩:=h;exact⟨a,b,I.tD,q⟩
 |ret u=>obtain⟨v,a,b,I,r,q⟩:=h;exact⟨v,a,b,I.tD,r,q⟩
theorem PE.ED(h:PE X.ED e t):PE X e t:=λcf s σ H Q I hw=>
 cc (h cf s σ H Q (I.Cb _) hw) (λ_ _ zq=>by obtain⟨v,a,b,r,q⟩:=zq;exact ⟨v,a,b.tD,r,q⟩) λ_ _ z=>b9 z
theorem wX.ED{st:List cN}(h:wX X.ED st t):wX X st t:=λcf s σ H D I hw=>
 cc (h cf s σ H D (I.Cb _) hw) (λ_ _ q=>q.tD) λ_ _ z=>b9 z
end
section
variable {X:Cx} {st:cN} {rest:List cN} {t:TS} {pos:dA}
def aeE:TS:=λD a H=>D.nx a H
def aba (t u:TS):TS:=λD a H=>t {D with nx:=u D} a H
def NJ:wX X [] aeE:=λ_ _ a H _ I h=>ajS ⟨a,H,I,h⟩
def xX(a:PS X st t)(b:wX X rest u):wX X (st::rest) (aba t u):=by
 intro cf s e H D I h;refine alE (jB (a cf s e H _ I h) λf s1 q=>?_);cases f with
 |next=>
  obtain⟨c,g,i,q⟩:=q;exact b cf s1 c g D i q
 |ret v=>exact q
 |brk=>exact q
 |cont=>exact q
def NK(a:PS X st t):wX X [st] t:=by
 intro cf s b H D I h;refine alE (jB (a cf s b H D I h) λf s1 q=>?_);cases f with
 |next=>exact ajS q
 |ret v=>exact q
 |brk=>exact q
 |cont=>exact q
def Inv.quiet(I:Inv X cf σ H s):interactive X.env=ao:=by simp[interactive,I.ok.kind]
def ZK (te:TE):TS:=λD a H=>te a H λ_ H1=>D.nx a H1
def Gj(a:PE X e te)(b:c5 e am pos.line X.env=pure ao:=by rfl):PS X (.Expr e pos) (ZK te):=by intro cf s i H D I h;exact wpAny_Expr_any (jB (a cf s i H _ I h) λv s1 zq=>by obtain⟨x,H1,c,g,f⟩:=zq;exact ⟨i,H1,c,f⟩) I.quiet b
def ahI (te:TE):TS:=λD a H=>te a H D.rt
def abb(a:PE X e te):PS X (.Return (aa e) pos) (ahI te):=by intro cf s g H D I h;exact wpAny_Return_some (jB (a cf s g H _ I h) λv s1 zq=>by obtain⟨x,H1,b,c,f⟩:=zq;exact ⟨x,g,H1,b,c,f⟩)
def ahJ (c:TT)(t u:TS):TS:=λD a H=>c a H λb H1=>if b=ai then t D a H1 else u D a H1
def ZL(hc:PT X c tc)(ha:wX X a t)(hb:wX X b u):PS X (.If c a b pos) (ahJ tc t u):=by
 intro cf s e H D I h;refine wpAny_If (jB (hc cf s e H _ I h) λd s1 i=>?_);obtain⟨H1,f,g⟩:=i;cases d with
 |true=>exact ha cf s1 e H1 D f g
 |false=>exact hb cf s1 e H1 D f g
def abd:TS:=λ_ _ _=>False
def R5:PS X st abd:=λ_ _ _ _ _ _ h=>h.elim
end
abbrev TG:=V->St->Hp->(St->Hp->Prop)->Prop
abbrev ZM:=List V->St->Hp->(St->Hp->Prop)->Prop
def PG (X:Cx)(target:bv)(t:TG):Prop:=
 ∀(cf:List (ar×cn)) (s:aq) (e:St) (H:Hp) (v:V) (u:ah) (Q:St->Hp->Prop),Inv X cf e H s->RelV v u->t v e H Q->
  wpAny (model X.prog X.w) X.A (assign target X.env u) (λ_ c=>∃a b,Inv X cf a b c/\Q a b) X.xe s
def RD (X:Cx)(e:List bv)(t:ZM):Prop:=
 ∀(cf:List (ar×cn)) (s:aq) (g:St) (H:Hp) (a:List V) (us:List ah) (Q:St->Hp->Prop),Inv X cf g H s->Vals a us->t a g H Q->
  wpAny (model X.prog X.w) X.A (alV ((cD e X.env).map (·.2)) us) (λ_ f=>∃b c,Inv X cf b c f/\Q b c) X.xe s
abbrev abe:=V->V->V->Hp->(Hp->Prop)->Prop
def aeF (X:Cx)(t:abe):Prop:=
 ∀(cf:List (ar×cn)) (s:aq) (f:St) (H:Hp) (o i v:V) (a b u:ah) (Q:Hp->Prop),Inv X cf f H s->RelV o a->RelV i b->RelV v u->t o i v H Q->
  wpAny (model X.prog X.w) X.A (alo a b u) (λ_ e=>∃c,Inv X cf f c e/\Q c) X.xe s
abbrev TIp:=V->V->Hp->VK->Prop
def PIp (X:Cx)(op:aks)(t:TIp):Prop:=
 ∀(cf:List (ar×cn)) (s:aq) (a:St) (H:Hp) (x y:V) (v u:ah) (Q:VK),Inv X cf a H s->RelV x v->RelV y u->t x y H Q->
  wpAny (model X.prog X.w) X.A (alF op v u) (EP X cf a Q) X.xe s
section
variable {X:Cx} {pos:dA}
def ZN (i:Nat):TG:=λv a H Q=>Q (a.set i (aa v)) H
def Wz(a:X.N.Nodup)(hi:X.N[i]?=aa x)(b:Loc X.env.scope x)(c:X.fn x=ai\/X.env.scope.names.lookup x=aa .local:=by first|exact .inl rfl|exact .inr rfl|assumption):PG X (.Name x pos) (ZN i):=by intro cf s g H v u Q I r h;exact alp (B8 I a hi b r (λf e=>⟨_,H,e,h⟩) c)
def ahK:ZM:=λa b H Q=>a=[]/\Q b H
def aeG (t:TG)(u:ZM):ZM:=λa e H Q=>∃v r,a=v::r/\t v e H λb c=>u r b c Q
def WA:RD X [] ahK:=by intro cf s b H a us Q I r h;obtain⟨e,h⟩:=h;exact assignInOrder_nil ⟨b,H,I,h⟩
def R6(b:PG X e t)(c:RD X es u)
(f:(cD (e::es) X.env).map (·.2)=assign e X.env::(cD es X.env).map (·.2):=by rfl):RD X (e::es) (aeG t u):=by
 intro cf s p H n us Q I r h;obtain⟨v,o,e1,h⟩:=h;subst e1;cases r with
 |cons r g=>
  rw[f];refine assignInOrder_cons (jB (b cf s p H _ _ _ I r h) λ_ s1 i=>?_);obtain⟨a,H1,j,m⟩:=i;exact c cf s1 a H1 _ _ Q j g m
def ahL (K:af)(n:Nat)(t:ZM):TG:=λv b H Q=>∃a xs,v=.ref a/\w4 K H a xs/\xs.length=n/\t xs b H Q
def abf(hc:X.calm=ai)(h:RD X es t)
(hn:(cD es X.env).length=n:=by rfl)(f:(cD es X.env).findIdx? (·.1)=am:=by rfl):PG X (.Tuple es k pos) (ahL X.K n t):=by intro cf s w H v u Q I r hw;obtain⟨a,xs,e1,g,i,hw⟩:=hw;subst e1;cases r;obtain⟨ig,c,ht,p⟩:=I.tuple g;refine assign_Tuple_tuple (I.ok.hd hc) ht (by simp[hn,<-i,c.length]) f λq j=>?_;have m:=I.kept (t':=s.toks) λb o e=>j b o (bg (aH e)) e;exact h cf _ w H xs _ Q m (by simpa using c) hw
def ahM (to a:TE)(t:abe):TG:=λv e H Q=>to e H λo H1=>a e H1 λi b=>t o i v b λc=>Q e c
def abg{o i:bv}{to e:TE}{t:abe}(f:PE X o to)(hi:PE X i e)(g:aeF X t)
(ha:∀v,assign (.Subscript o i pos) X.env v=(do
   let a<-holding [v] (eval o X.env);let b<-holding [v,a] (eval i X.env)
   ajY pos
   holding [v,a,b] (alo a b v)
   release [v,a,b] []):=by intro _;rfl):PG X (.Subscript o i pos) (ahM to e t):=by intro cf s E H v u Q I r h;rw[ha];refine ae (bJ (jB (f cf s E H _ I h) λa s1 c=>?_));obtain⟨x,H1,j,m,n⟩:=c;refine ae (bJ (jB (hi cf s1 E H1 _ j n) λb s2 c=>?_));obtain⟨y,p,q,w,z⟩:=c;refine ae (fw (ae (bJ (jB (g cf s2 E p x y v a b u _ q m w r z) λ_ s3 c=>?_))));obtain⟨A,B,C⟩:=c;exact wpAny_release ⟨E,A,B,C⟩
def aeH (a:TE)(g:TG):TS:=λD b H=>a b H λx H1=>g x b H1 D.nx
def R7(a:PE X e b)(c:PG X tg g)(f:akG [tg] e pos.line X.env=pure ao:=by rfl)(hw:akH [tg] e X.env=pure am:=by rfl)
(i:(cD [tg] X.env).map (·.2)=[assign tg X.env]:=by rfl):PS X (.Assign [tg] e pos) (aeH b g):=by intro cf s o H D I h;refine wpAny_Assign_stores (jB (a cf s o H _ I h) λv s1 zq=>?_) f hw;obtain⟨x,H1,j,m,n⟩:=zq;rw[i];exact jB (c cf s1 o H1 x v _ j m n) λ_ s2 q=>q
def R8(a:X.N.Nodup)(hi:X.N[i]?=aa x)(b:Loc X.env.scope x)(c:PE X e f)(g:c5 e (aa (.Name x j)) pos.line X.env=pure ao:=by rfl)(m:X.fn x=ai\/X.env.scope.names.lookup x=aa .local:=by first|exact .inl rfl|exact .inr rfl|assumption):
  PS X (.Assign [.Name x j] e pos) (aeH f (ZN i)):=by intro cf s r H D I h;refine wpAny_Assign_Name (jB (c cf s r H _ I h) λv s1 zq=>?_) g;obtain⟨y,H1,n,o,p⟩:=zq;exact B8 n a hi b o (λs2 q=>⟨_,H1,q,p⟩) m
def ahN (i:Nat)(a:TE)(b:TIp):TS:=λD e H=>∃x,e[i]?=aa (aa x)/\a e H λy H1=>b x y H1 λz c=>D.nx (e.set i (aa z)) c
def abh(g:X.N.Nodup)(hi:X.N[i]?=aa x)(b:Loc X.env.scope x)(j:PE X e n)(o:PIp X op p)(q:X.fn x=ai\/X.env.scope.names.lookup x=aa .local:=by first|exact .inl rfl|exact .inr rfl|assumption):
  PS X (.AugAssign (.Name x rJ) op e pos) (ahN i n p):=by
 intro cf s F H D I h;obtain⟨v,e1,h⟩:=h;obtain⟨m,hn,B⟩:=I.loc;have uN:Rz X.env.scope x:=by rcases b with k|k;exact .inl k;exact .inr (.inl k)
 obtain⟨u,r,l⟩:=B i x v hi e1 uN;refine wpAny_AugAssign_Name ?_;have go:wpAny (model X.prog X.w) X.A (eval e X.env) (λw C=>wpAny (model X.prog X.w) X.A (alF op u w) (λr E=>wpAny (model X.prog X.w) X.A (alD X.env x r) (λ_=>SP X cf D .next) X.xe E) X.xe C) X.xe s:=by refine jB (j cf s F H _ I h) λw s1 f=>?_;obtain⟨y,H1,G,J,L⟩:=f;refine jB (o cf s1 F H1 v y u w _ G r J L) λz s2 f=>?_;obtain⟨zv,M,O,Q,T⟩:=f;exact B8 O g hi b Q (λs3 U=>⟨_,M,U,T⟩) q
 rcases l with⟨a,hm⟩|⟨a,c,hc,Y⟩
 .exact ak6 I.ok.kind a hn hm go
 .rcases a with a|a
  .exact alc I.ok.kind a hc Y go
  .rcases b with k|k
   .have:X.env.scope.names.lookup x=aa .free:=a;rw[k] at this;cases this
   .have:X.env.scope.names.lookup x=aa .free:=a;rw[k] at this;cases this
end
structure It where
 go:Nat->Hp->Prop
 ZO:Nat->Hp->V->Hp->Prop
 stop:Nat->Hp->Prop
def tE (X:Cx)(cf:List (ar×cn))(H:Hp)(b:ar):Prop:=
 H b=am/\b≠X.env.locals/\b∉X.fs/\(b∈X.ex\/X.hU.heap.objs.size<=b)/\(∀x c,X.env.cells.lookup x=aa c->c≠b)/\∀p∈X.pn++cf,p.1≠b
def Inv.Iw(I:Inv X cf σ H s)(hb:s.heap.objs.size<=b)(hn:a b=am):tE X cf a b:=by
 refine⟨hn,dM (bw I.lt hb),I.aa2 hb,.inr (bh I.sz hb),λx c e z=>?_,λp f z=>?_⟩
 .obtain⟨v,q⟩:=I.cell x c e;exact absurd (bw q.lt (by rw[z];exact hb)) (cB _)
 .exact absurd (bw (aH (I.pin p f).1) (by rw[z];exact hb)) (cB _)
structure Turn(P:aP)(w:bt)(K:af)(tg:bv)(J:It)(fp:List ar)(it:ar)(tn:Nat->aw->Prop):Prop where
 mem:it∈fp
 obj:∀i h,tn i h->∀b∈fp,∃o,h.get? b=aa o/\∀v,o.data≠.cell v
 keep:∀i h h',tn i h->(∀b∈fp,∀o,h.get? b=aa o->h'.get? b=aa o)->tn i h'
 item:∀(X:Cx),X.prog=P->X.w=w->X.K=K->X.calm=ai->∀(i:Nat) (cf:List (ar×cn)) (s:aq) (σ:St) (H:Hp) (E:ah->aq->Prop),Inv X cf σ H s->(∀b∈fp,tE X cf H b)->tn i s.heap->J.go i H->
  wpAny (model P w) X.A (pyNext (.ref it)) (λr s1=>∃u,r=aa u/\
   wpAny (model P w) X.A (letOwnedTupleGo tg (.ref it) u) (λ_ s2=>∃x H',Inv X cf σ H' s2/\RelV x u/\J.ZO i H x H'/\tn (i+1) s2.heap/\∀b∈fp,H' b=am) E s1) E s
 done:∀(X:Cx),X.prog=P->X.w=w->X.K=K->X.calm=ai->∀(i:Nat) (cf:List (ar×cn)) (s:aq) (σ:St) (H:Hp) (E:ah->aq->Prop),Inv X cf σ H s->(∀b∈fp,tE X cf H b)->tn i s.heap->J.stop i H->
  wpAny (model P w) X.A (pyNext (.ref it)) (λr s1=>r=am/\Inv X cf σ H s1) E s
 self:∀(A:bq) (i:Nat) (s:aq) (Q:ah->aq->Prop) (E:ah->aq->Prop),tn i s.heap->Q (.ref it) s->wpAny (model P w) A (akt (.ref it)) Q E s
abbrev TI:=St->Hp->(It->Hp->Prop)->Prop
def PIE (X:Cx)(cf:List (ar×cn))(g:St)(tg:bv)(R:It->Hp->Prop)(a:ah)(s2:aq):Prop:=
 ∃(it:ar) (e:List ar) (f:Nat->aw->Prop) (J:It) (c:Hp),a=.ref it/\Inv X cf g c s2/\Turn X.prog X.w X.K tg J e it f/\f 0 s2.heap/\(∀b∈e,tE X cf c b)/\R J c
def PI (X:Cx)(tg iter:bv)(wi:TI):Prop:=
 ∀(cf:List (ar×cn)) (s:aq) (a:St) (H:Hp) (R:It->Hp->Prop),Inv X cf a H s->wi a H R->
  wpAny (model X.prog X.w) X.A (eval iter X.env) (λv s1=>wpAny (model X.prog X.w) X.A (akt v) (PIE X cf a tg R) X.xe s1) X.xe s
def Ix(b:s.heap.get? it=aa o)(hc:o.cls=.type n)(hd:o.data=.fields c)
(hn:[hY,hR,uac,uaA,uaB,uaC,uaD].contains n=ao)(a:Q () s):wpAny M A (letOwnedTupleGo tg (.ref it) u) Q E s:=by
 cases tg<;>first
  |exact av a
  | (cases u<;>first
    |exact av a
    | (refine ae (wpAny_load b ?_)
       rw[hc,hd];show wpAny M A (if([hY,hR,uac,uaA,uaB,uaC,uaD].contains n&&c[0]?==aa _)=ai then _ else _) Q E s;rw[if_neg (by intro h;rw[hn] at h;cases h)];exact av a))
noncomputable def Itl(K:af)(a:ar):It:=
 ⟨λi H=>∃xs x,nr K H a xs/\xs[i]?=aa x,λi H x b=>b=H/\∀xs,nr K H a xs->xs[i]?=aa x,λi H=>∃xs,nr K H a xs/\xs.length<=i⟩
noncomputable def Itt(K:af)(a:ar):It:=
 ⟨λi H=>∃xs x,w4 K H a xs/\xs[i]?=aa x,λi H x b=>b=H/\∀xs,w4 K H a xs->xs[i]?=aa x,λi H=>∃xs,w4 K H a xs/\xs.length<=i⟩
noncomputable def Itr(lo:Int)(n:Nat):It:=⟨λi _=>i<n,λi H x a=>a=H/\x=.int (lo+i),λi _=>n<=i⟩
def Pr{K:af}(a it:ar):Turn P w K tg (Itl K a) [it] it (λi h=>h.IsListIter it a i) where
 mem:=by simp
 obj:=λi h st b hb=>by
  have e:b=it:=by simpa using hb
  subst e;obtain⟨o,e,c,d⟩:=st;exact⟨o,e,λv z=>by rw[d] at z;cases z⟩
 keep:=λi h J st k=>st.at λo e=>k it (by simp) o e
 item:=by intro X j hw m hc i cf s F H E I f st n;subst j hw m;obtain⟨xs,x,g,q⟩:=n;obtain⟨ig,r,p,M⟩:=I.list g;obtain⟨u,N,O⟩:=r.get q;obtain⟨y,A,Q,B,C,G⟩:=f it (by simp);refine akU st p.isList (x:=u) (by simpa using N) λJ L sb=>?_;have T:=I.turned (t':=s.toks) (λb o hb e=>(sb.2 b hb).trans e) y A B C G;obtain⟨o,e,c,d⟩:=id L;exact⟨u,rfl,Ix e c d (by decide) ⟨x,H,T,O,⟨rfl,λys U=>by rw[I.Iv U g];exact q⟩,L,λb hb=>(f b hb).1⟩⟩
 done:=by intro X j hw m hc i cf s F H E I f st n;subst j hw m;obtain⟨xs,g,q⟩:=n;obtain⟨ig,r,p,M⟩:=I.list g;obtain⟨y,A,Q,B,C,G⟩:=f it (by simp);have hl:=r.length;exact ak4 (I.ok.hd hc) st p.isList (by simp;lia) λJ Y=>⟨rfl,I.turned (λb o hb e=>Y b o hb e) y A B C G⟩
 self:=λ_ _ _ _ _ st h=>wpAny_pyIter_listiter st h
def Lm{w:bt}{K:af}{tg:bv}(a it:ar):Turn P w K tg (Itt K a) [it] it (λi h=>h.IsTupleIter it a i) where
 mem:=by simp
 obj:=λi h st b hb=>by
  have e:b=it:=by simpa using hb
  subst e;obtain⟨o,e,c,d⟩:=st;exact⟨o,e,λv z=>by rw[d] at z;cases z⟩
 keep:=λi h J st k=>st.at λo e=>k it (by simp) o e
 item:=by intro X j hw m hc i cf s F H E I f st n;subst j hw m;obtain⟨xs,x,g,q⟩:=n;obtain⟨ig,r,p,M⟩:=I.tuple g;obtain⟨u,N,O⟩:=r.get q;obtain⟨y,A,Q,B,C,G⟩:=f it (by simp);refine wpAny_pyNext_tuple_item st (p) (x:=u) (by simpa using N) λJ L sb=>?_;have T:=I.turned (t':=s.toks) (λb o hb e=>(sb.2 b hb).trans e) y A B C G;obtain⟨o,e,c,d⟩:=id L;exact⟨u,rfl,Ix e c d (by decide) ⟨x,H,T,O,⟨rfl,λys U=>by rw[I.Fj U g];exact q⟩,L,λb hb=>(f b hb).1⟩⟩
 done:=by intro X j hw m hc i cf s F H E I f st n;subst j hw m;obtain⟨xs,g,q⟩:=n;obtain⟨ig,r,p,M⟩:=I.tuple g;obtain⟨y,A,Q,B,C,G⟩:=f it (by simp);have hl:=r.length;exact wpAny_pyNext_tuple_end (I.ok.hd hc) st (p) (by simp;lia) λJ Y=>⟨rfl,I.turned (λb o hb e=>Y b o hb e) y A B C G⟩
 self:=λ_ _ _ _ _ st h=>wpAny_pyIter_tupleiter st h
def Ln{K:af}(it:ar)(lo:Int)(n:Nat):Turn P w K tg (Itr lo n) [it] it (λi h=>IsRangeIter h it (lo+(i:Nat)*1) ((n:Int)- (i:Nat)) 1) where
 mem:=by simp
 obj:=λi h st b hb=>by
  have e:=by simpa using hb
  subst e;exact⟨_,st,λv z=>by have A:=z;cases A⟩
 keep:=λi h a st k=>k it (by simp) _ st
 item:=by intro X r hw u hc i cf s F H E I c st f;subst r hw u;obtain⟨g,j,B,m,p,q⟩:=c it (by simp);have W:=aku.range (prog:=X.prog) (w:=X.w) (I.ok.hd hc) it lo 1 n;refine W.item i s _ _ f st λv a tk C y G=>?_;obtain⟨t,rfl⟩:=C;have J:Inv X cf F H {s with heap:=a,toks:=tk}:=I.turned (λb o hb e=>G b o (by simpa using hb) e) g j m p q;refine⟨_,rfl,Ix (s:={s with heap:=a,toks:=tk}) y rfl rfl (by decide) ⟨.int (lo+i),H,J,⟨t,?_⟩,⟨rfl,rfl⟩,y,λb hb=>(c b hb).1⟩⟩;rw[Int.mul_one]
 done:=by intro X r hw u hc i cf s F H E I c st f;obtain⟨g,j,B,m,p,q⟩:=c it (by simp);exact wpAny_pyNext_range_end (I.ok.hd hc) st (by have:n<=i:=f;lia) λa L=>⟨rfl,I.turned (λb o hb e=>L b o hb e) g j m p q⟩
 self:=λ_ _ _ _ _ st h=>wpAny_pyIter_rangeiter st h
section
variable {X:Cx}
def R9{lo hi:Int}(I:Inv X cf i H s)(c:-(2^62)<=lo)(f:lo<2^62)(g:-(2^62)<=hi)(h:hi<2^62)
(q:R (Itr lo (hi- lo).toNat) H):wpAny (model X.prog X.w) X.A (akt (.ref s.heap.objs.size)) (PIE X cf i tg R) E {s with heap:=s.heap.push {cls:=.type ky,data:=.fields #[.int lo t,.int hi u,.int 1 v]},toks:=tk}:=by
 refine wpAny_pyIter_range (IsRange.new ..) (small_one c f g h) ?_;have a:Inv X cf i H {s with heap:=s.heap.push {cls:=.type ky,data:=.fields #[.int lo t,.int hi u,.int 1 v]},toks:=tk}:=I.kept λb o e=>aj _ e;refine⟨(s.heap.push _).objs.size,[(s.heap.push _).objs.size],_,_,H,rfl,
  a.kept λb o e=>aj _ e,Ln _ lo _,?_,λb hb=>?_,q⟩
 .have e1:lo+((0:Nat):Int)*1=lo:=by simp
  have e2:(((hi- lo).toNat:Nat):Int)- ((0:Nat):Int)=bU.Range.rangeSize lo hi 1:=by rw[rangeSize_one];split<;>lia
  rw[e1,e2];exact aJ _ rfl
 .have e:b=(s.heap.push {cls:=.type ky,data:=.fields #[.int lo t,.int hi u,.int 1 v]}).objs.size:=by simpa using hb
  subst e;exact a.Iw (aC _) (a.iC.fresh (aC _))
def aeI (a:TA):TI:=λc H R=>a c H λb H1=>∃j:Int,b=[.int j]/\-(2^62)<=j/\j<2^62/\R (Itr 0 j.toNat) H1
def Ps(c:Gl X ky)(hm:X.mg ky=am)(ha:PA X [a] f)(g:aV [a] X.env=[(ao,eval a X.env)]:=by rfl):PI X tg (.Call (.Name ky p) [a] [] pos) (aeI f):=by
 intro cf s v H R I h;refine Call_ (wZ I c hm boot_range (dX (jB (ha pos cf s v H _ I h) λus s1 zq=>?_) g rfl));obtain⟨u,H1,i,m,b⟩:=zq;obtain⟨j,e,b,n,q⟩:=b;subst e;cases m with
 |cons r o=>
  cases o;obtain⟨t,rfl⟩:=r;exact call_range_1 (R9 i (by lia) (by lia) b n (by simpa using q))
def ahO (wi:TI)(g:TG)(tb:TS):TS:=λD h H=>wi h H λJ H1=>∃W:Nat->Nat->St->Hp->Prop,(∃m,W 0 m h H1)/\∀i m h H,W i m h H->
 (J.stop i H/\D.nx h H)\/(J.go i H/\∃N:St->Hp->Prop,(∀b a,N b a->∃c,c<m/\W (i+1) c b a)/\∀x a,J.ZO i H x a->g x h a λe f=>tb {D with nx:=N,ct:=N,bk:=D.nx} e f)
noncomputable def Cc(a:List ar)(h:aw):List (ar×cn):=a.filterMap λb=>(h.get? b).map λo=>(b,o)
def tF(hb:b∈a)(e:h.get? b=aa o):(b,o)∈Cc a h:=List.mem_filterMap.mpr ⟨b,hb,by rw[e];rfl⟩
def Pu(a:p∈Cc c h):p.1∈c/\h.get? p.1=aa p.2:=by
 obtain⟨b,hb,e⟩:=List.mem_filterMap.mp a;cases q:h.get? b with
 |none=>rw[q] at e;cases e
 |some o=>
  rw[q] at e;have e':=bA e;subst e';exact⟨hb,q⟩
def Inv.pinned(I:Inv X cf σ H s)(c:∀b∈a,tE X cf H b)(f:∀b∈a,∃o,s.heap.get? b=aa o/\∀v,o.data≠.cell v):Inv X (cf++Cc a s.heap) σ H s:=
 I.NF λp g=>(bj.mp g).elim (λz=>I.pin p (bH _ z)) λz=>by obtain⟨hb,e⟩:=Pu z;obtain⟨h,i,j,_⟩:=c p.1 hb;obtain⟨o,e',d⟩:=f p.1 hb;rw[e] at e';cases e';exact⟨e,h,i,j,d⟩
def Inv.xY(I:Inv X (cf++pl) σ H s):Inv X cf σ H s:=I.NF λp a=>I.pin p (bH _ (bV _ a))
def Sa(z:ajZ (model X.prog X.w) X.A X.env X.xe)(hc:X.calm=ai)(hi:PI X tg iter wi)(hg:PG X tg g)(hb:wX X body tb)
(hs:∀x,cx iter X.env x=pure x:=by intro _;rfl):PS X (.For tg iter body [] pos) (ahO wi g tb):=by
 intro cf s σ H D I h;refine wpAny_For (jB (hi cf s σ H _ I h) λv s1 h1=>jB h1 λitv s2 h2=>?_) hs;obtain⟨it,B,tn,J,H2,e,I2,T,Q,f2,W,⟨m0,w0⟩,turn⟩:=h2;subst e;have U:∀{j:Hp},(∀b∈B,j b=am)->∀b∈B,tE X cf j b:=λhn b hb=>⟨hn b hb,(f2 b hb).2⟩;refine codeAny_forLoop_any (λn s'=>∃i C j,Inv X cf C j s'/\tn i s'.heap/\(∀b∈B,j b=am)/\W i n C j) ?_ m0 ⟨0,σ,H2,I2,Q,λb hb=>(f2 b hb).1,w0⟩;intro n s3 p;obtain⟨i,E,O,I3,G,L,w3⟩:=p;rcases turn i n E O w3 with⟨stop,qn⟩|⟨go,N,hN,step⟩
 .refine gE z (jB (T.done X rfl rfl rfl hc i cf s3 E O X.xe I3 (U L) G stop) λr s4 p=>?_);obtain⟨Y,I4⟩:=p;subst Y;exact ajS ⟨E,O,I4,qn⟩
 .refine gE z (jB (T.item X rfl rfl rfl hc i cf s3 E O X.xe I3 (U L) G go) λr s4 p=>?_);obtain⟨u,Y,h4⟩:=p;subst Y;refine gE z (jB h4 λ_ s5 p=>?_);obtain⟨x,H5,I5,r5,y5,y,fr5⟩:=p;have I5':=I5.pinned (U fr5) (T.obj _ _ y);refine gE z (jB (hg _ s5 E H5 x u _ I5' r5 (step x H5 y5)) λ_ s6 p=>?_);obtain⟨σ6,H6,I6,q6⟩:=p;refine gE z (jB (hb _ s6 σ6 H6 _ I6 q6) λf s7 q=>?_);have again:∀{Sc:St} {a:Hp},Inv X (cf++Cc B s5.heap) Sc a s7->N Sc a->∃m,m<n/\∃i C j,Inv X cf C j s7/\tn i s7.heap/\(∀b∈B,j b=am)/\W i m C j:=λ{Sc a} c M=>by obtain⟨m',hm,w7⟩:=hN Sc a M;refine⟨m',hm,i+1,Sc,a,c.xY,T.keep _ _ _ y λb hb o e=>(c.pin (b,o) (bH _ (bH _ (tF hb e)))).1,λb hb=>?_,w7⟩;obtain⟨o,e,d⟩:=T.obj _ _ y b hb;exact(c.pin (b,o) (bH _ (bH _ (tF hb e)))).2.1
  cases f with
  |next=>obtain⟨Sc,a,c,M⟩:=q;exact again c M
  |cont=>obtain⟨Sc,a,c,M⟩:=q;exact again c M
  |brk=>obtain⟨Sc,a,c,q⟩:=q;exact⟨Sc,a,c.xY,q⟩
  |ret v=>obtain⟨x7,Sc,a,c,r7,q⟩:=q;exact⟨x7,Sc,a,c.xY,r7,q⟩
end
abbrev R2:=V->V->Hp->VK->Prop
def sY (X:Cx)(f:ah->ah->Sem ah)(r:R2):Prop:=
 ∀(cf:List (ar×cn)) (s:aq) (a:St) (H:Hp) (x y:V) (v u:ah) (Q:VK),Inv X cf a H s->RelV x v->RelV y u->r x y H Q->
  wpAny (model X.prog X.w) X.A (f v u) (EP X cf a Q) X.xe s
def UnR (X:Cx)(f:ah->Sem ah)(r:V->Hp->VK->Prop):Prop:=
 ∀(cf:List (ar×cn)) (s:aq) (a:St) (H:Hp) (x:V) (v:ah) (Q:VK),Inv X cf a H s->RelV x v->r x H Q->
  wpAny (model X.prog X.w) X.A (f v) (EP X cf a Q) X.xe s
def nz (X:Cx)(f:ah)(r:List V->Hp->VK->Prop):Prop:=
 ∀(cf:List (ar×cn)) (s:aq) (a:St) (H:Hp) (xs:List V) (us:List ah) (Q:VK),Inv X cf a H s->Vals xs us->r xs H Q->
  wpAny (model X.prog X.w) X.A (call f us) (EP X cf a Q) X.xe s
def tOp (r:R2)(a tb:TE):TE:=λc H Q=>a c H λx H1=>tb c H1 λy b=>r x y b Q
def tUn (r:V->Hp->VK->Prop)(a:TE):TE:=λb H Q=>a b H λx H1=>r x H1 Q
def rI (C:Int->Int->Prop)(g:Int->Int->V):R2:=λx y H Q=>∃i j,x=.int i/\y=.int j/\C i j/\Q (g i j) H
def ZP (g:Int->Int->V):R2:=λx y H Q=>∃i j,x=.int i/\y=.int j/\Q (g i j) H
def rU (g:Int->V):V->Hp->VK->Prop:=λx H Q=>∃i,x=.int i/\Q (g i) H
section
variable {X:Cx}
def abi(ha:PE X a ta)(hb:PE X b tb){R:V->V->Hp->Prop}(I:Inv X cf c H s)
(h:ta c H λx H1=>tb c H1 λy e=>R x y e){f:ah->ah->Sem ah}
(i:∀v u s2 x y e,Inv X cf c e s2->RelV x v->RelV y u->R x y e->wpAny (model X.prog X.w) X.A (f v u) Q X.xe s2):
  wpAny (model X.prog X.w) X.A (eval a X.env) (λv j=>wpAny (model X.prog X.w) X.A (eval b X.env) (λu m=>wpAny (model X.prog X.w) X.A (f v u) Q X.xe m) X.xe j) X.xe s:=by refine jB (ha cf s c H _ I h) λv s1 g=>?_;obtain⟨x,H1,n,o,p⟩:=g;refine jB (hb cf s1 c H1 _ n p) λu s2 g=>?_;obtain⟨y,e,q,r,z⟩:=g;exact i v u s2 x y e q o r z
def aeJ(e:sY X (binaryOp op) r)(ha:PE X a ta)(hb:PE X b tb):PE X (.BinOp a op b pos) (tOp r ta tb):=by intro cf s c H Q I h;exact wpAny_BinOp (abi ha hb I h λv u s2 x y f g i j q=>e cf s2 c f x y v u Q g i j q)
def aeK(e:UnR X (unaryOp op) r)(ha:PE X a ta):PE X (.UnaryOp op a pos) (tUn r ta):=by intro cf s b H Q I h;exact UnaryOp_ (jB (ha cf s b H _ I h) λv s1 zq=>by obtain⟨x,H1,f,g,i⟩:=zq;exact e cf s1 b H1 x v Q f g i)
def opI{g:Int->Int->Int}
(rule:∀(i j:Int) (t u:alM) (s:aq) (Q:ah->aq->Prop) (E:ah->aq->Prop),C i j->Q (.int (g i j) s.toks) {s with toks:=s.toks+1}->wpAny (model X.prog X.w) X.A (f (.int i t) (.int j u)) Q E s):
  sY X f (rI C λi j=>.int (g i j)):=by intro cf s a H x y v u Q I e m h;obtain⟨i,j,rfl,rfl,hc,q⟩:=h;obtain⟨t,rfl⟩:=e;obtain⟨n,rfl⟩:=m;exact rule i j t n s _ _ hc ⟨.int (g i j),H,I.tok _,⟨_,rfl⟩,q⟩
def abj{g:Int->Int->Int}
(rule:∀(i j:Int) (t u:alM) (s:aq) (Q:ah->aq->Prop) (E:ah->aq->Prop),Q (.int (g i j) s.toks) {s with toks:=s.toks+1}->wpAny (model X.prog X.w) X.A (f (.int i t) (.int j u)) Q E s):
  sY X f (ZP λi j=>.int (g i j)):=by intro cf s a H x y v u Q I e m h;obtain⟨i,j,rfl,rfl,q⟩:=h;obtain⟨t,rfl⟩:=e;obtain⟨n,rfl⟩:=m;exact rule i j t n s _ _ ⟨.int (g i j),H,I.tok _,⟨_,rfl⟩,q⟩
def abk{g:Int->Int->Bool}
(rule:∀(i j:Int) (t u:alM) (s:aq) (Q:ah->aq->Prop) (E:ah->aq->Prop),Q (.bool (g i j)) s->wpAny (model X.prog X.w) X.A (f (.int i t) (.int j u)) Q E s):
  sY X f (ZP λi j=>.bl (g i j)):=by intro cf s a H x y v u Q I e m h;obtain⟨i,j,rfl,rfl,q⟩:=h;obtain⟨t,rfl⟩:=e;obtain⟨n,rfl⟩:=m;exact rule i j t n s _ _ ⟨.bl (g i j),H,I,rfl,q⟩
def xZ (i j:Int):Prop:=0<j/\j<1073741824
def abl (i j:Int):Prop:=0<=j/\j<=1000000/\i.natAbs<2^64
def Pw (i j:Int):Prop:=(-(2^64)<i/\i<2^64)\/(-(2^64)<j/\j<2^64)
def Pw.ok(h:Pw i j):IntMulOk i j:=by
 rcases h with⟨e,f⟩|⟨e,f⟩
 .exact .of_left (alW e f)
 .exact .of_right (alW e f)
def abm:sY X (binaryOp .Add) (ZP λi j=>.int (i+j)):=abj λ_ _ _ _ _ _ _ q=>add_int q
def abn:sY X (binaryOp .Sub) (ZP λi j=>.int (i- j)):=abj λ_ _ _ _ _ _ _ q=>sub_int q
def abo:sY X (binaryOp .Mult) (rI Pw λi j=>.int (i*j)):=opI λ_ _ _ _ _ _ _ hc q=>mul_int q hc.ok
def WB:sY X (binaryOp .FloorDiv) (rI xZ λi j=>.int (i/j)):=opI λi j _ _ _ _ _ hc q=>by have e:=hc.1;have f:=hc.2;exact floordiv_int (by lia) (by rw[Int.fdiv_eq_ediv_of_nonneg i (by lia)];exact q) (.inl (PyProof.noPylong_small (by lia)))
def abp:sY X (binaryOp .Mod) (rI (λ_ j=>0<j) λi j=>.int (i%j)):=opI λi j _ _ _ _ _ hc q=>by exact mod_int' (by lia) (by rw[Int.fmod_eq_emod_of_nonneg i (by lia)];exact q)
def abq:sY X (binaryOp .Pow) (rI abl λi j=>.int (i^j.toNat)):=opI λ_ _ _ _ _ _ _ hc q=>pow_int_small hc.1 hc.2.1 hc.2.2 q
def WC:sY X (alF .Add) (ZP λi j=>.int (i+j)):=abj λ_ _ _ _ _ _ _ q=>iadd_int q
def unI{g:Int->Int}
(rule:∀(i:Int) (t:alM) (s:aq) (Q:ah->aq->Prop) (E:ah->aq->Prop),Q (.int (g i) s.toks) {s with toks:=s.toks+1}->wpAny (model X.prog X.w) X.A (f (.int i t)) Q E s):
  UnR X f (rU λi=>.int (g i)):=by intro cf s a H x v Q I e h;obtain⟨i,rfl,q⟩:=h;obtain⟨t,rfl⟩:=e;exact rule i t s _ _ ⟨.int (g i),H,I.tok _,⟨_,rfl⟩,q⟩
def abr:UnR X (unaryOp .USub) (rU λi=>.int (-i)):=unI λ_ _ _ _ _ q=>neg_int q
end
noncomputable def aeL:V->V->Bool
 |.non,.non=>ai|.non,.int _=>ai|.int _,.non=>ai|.non,.bl _=>ai|.bl _,.non=>ai|.non,.str _=>ai|.str _,.non=>ai
 |.int _,.int _=>ai|.bl _,.bl _=>ai|.str _,.str _=>ai|.Rx _,.Rx _=>ai
 |.int _,.str _=>ai|.str _,.int _=>ai|.bl _,.str _=>ai|.str _,.bl _=>ai
 |_,_=>ao
def rEq:R2:=λx y H Q=>aeL x y=ai/\Q (.bl (decide (x=y))) H
def rNe:R2:=λx y H Q=>aeL x y=ai/\Q (.bl (!decide (x=y))) H
def Gk:decide (V.int i=V.int j)=(i==j):=by rw[f9];simp
def Sd:decide (V.bl i=V.bl j)=(i==j):=by rw[f9];simp
def Gm:decide (V.str i=V.str j)=(i==j):=by rw[f9];simp
def NL:decide (V.Rx i=V.Rx j)=(i.toList==j.toList):=by rw[f9];cases i;cases j;simp
def iJ(I:Inv X cf a H s)(q:Q (.bl k) H)(e:k=k'):EP X cf a Q (.bool k') s:=by subst e;exact⟨.bl k,H,I,rfl,q⟩
def ZQ:sY X (compareOp .Eq) rEq:=by
 intro cf s a H x y v u Q I m e h;obtain⟨g,q⟩:=h;cases x with
 |non=>
  cases m;cases y with
  |non=>cases e;exact PySem.EqNone.eq_none_none (iJ I q (by simp))
  |bl j=>cases e;exact PySem.EqNone.eq_none_bool (iJ I q (by simp))
  |int j=>obtain⟨f,rfl⟩:=e;exact PySem.EqNone.eq_none_int (iJ I q (by simp))
  |str j=>obtain⟨f,rfl⟩:=e;exact PySem.EqNone.eq_none_str (iJ I q (by simp))
  |_=>exact absurd (show ao=ai from g) bi
 |bl i=>
  cases m;cases y with
  |non=>cases e;exact PySem.EqNone.eq_bool_none (iJ I q (by simp))
  |bl j=>cases e;exact eq_bool (iJ I q Sd)
  |str j=>obtain⟨f,rfl⟩:=e;exact PySem.EqMixed.eq_bool_str (iJ I q (by simp))
  |_=>exact absurd (show ao=ai from g) bi
 |int i=>
  obtain⟨t,rfl⟩:=m;cases y with
  |non=>cases e;exact PySem.EqNone.eq_int_none (iJ I q (by simp))
  |int j=>obtain⟨f,rfl⟩:=e;exact eq_int (iJ I q Gk)
  |str j=>obtain⟨f,rfl⟩:=e;exact PySem.EqMixed.eq_int_str (iJ I q (by simp))
  |_=>exact absurd (show ao=ai from g) bi
 |str i=>
  obtain⟨t,rfl⟩:=m;cases y with
  |non=>cases e;exact PySem.EqNone.eq_str_none (iJ I q (by simp))
  |bl j=>cases e;exact PySem.EqMixed.eq_str_bool (iJ I q (by simp))
  |int j=>obtain⟨f,rfl⟩:=e;exact PySem.EqMixed.eq_str_int (iJ I q (by simp))
  |str j=>obtain⟨f,rfl⟩:=e;exact eq_str (iJ I q Gm)
  |_=>exact absurd (show ao=ai from g) bi
 |Rx i=>
  obtain⟨t,rfl⟩:=m;cases y with
  |Rx j=>obtain⟨f,rfl⟩:=e;exact W.eq_bytes (iJ I q NL)
  |_=>exact absurd (show ao=ai from g) bi
 |_=>cases y<;>exact absurd (show ao=ai from g) bi
def ZR:sY X (compareOp .NotEq) rNe:=by
 intro cf s a H x y v u Q I m e h;obtain⟨g,q⟩:=h;cases x with
 |non=>
  cases m;cases y with
  |non=>cases e;exact PySem.EqNone.ne_none_none (iJ I q (by simp))
  |bl j=>cases e;exact PySem.EqNone.ne_none_bool (iJ I q (by simp))
  |int j=>obtain⟨f,rfl⟩:=e;exact PySem.EqNone.ne_none_int (iJ I q (by simp))
  |str j=>obtain⟨f,rfl⟩:=e;exact PySem.EqNone.ne_none_str (iJ I q (by simp))
  |_=>exact absurd (show ao=ai from g) bi
 |bl i=>
  cases m;cases y with
  |non=>cases e;exact PySem.EqNone.ne_bool_none (iJ I q (by simp))
  |bl j=>cases e;exact ne_bool (iJ I q (congrArg not Sd))
  |str j=>obtain⟨f,rfl⟩:=e;exact PySem.EqMixed.ne_bool_str (iJ I q (by simp))
  |_=>exact absurd (show ao=ai from g) bi
 |int i=>
  obtain⟨t,rfl⟩:=m;cases y with
  |non=>cases e;exact PySem.EqNone.ne_int_none (iJ I q (by simp))
  |int j=>obtain⟨f,rfl⟩:=e;exact ne_int (iJ I q (congrArg not Gk))
  |str j=>obtain⟨f,rfl⟩:=e;exact PySem.EqMixed.ne_int_str (iJ I q (by simp))
  |_=>exact absurd (show ao=ai from g) bi
 |str i=>
  obtain⟨t,rfl⟩:=m;cases y with
  |non=>cases e;exact PySem.EqNone.ne_str_none (iJ I q (by simp))
  |bl j=>cases e;exact PySem.EqMixed.ne_str_bool (iJ I q (by simp))
  |int j=>obtain⟨f,rfl⟩:=e;exact PySem.EqMixed.ne_str_int (iJ I q (by simp))
  |str j=>obtain⟨f,rfl⟩:=e;exact ne_str (iJ I q (congrArg not Gm))
  |_=>exact absurd (show ao=ai from g) bi
 |Rx i=>
  obtain⟨t,rfl⟩:=m;cases y with
  |Rx j=>obtain⟨f,rfl⟩:=e;exact W.ne_bytes (iJ I q (congrArg not NL))
  |_=>exact absurd (show ao=ai from g) bi
 |_=>cases y<;>exact absurd (show ao=ai from g) bi
def aeM:sY X (compareOp .Lt) (ZP λi j=>.bl (decide (i<j))):=abk λ_ _ _ _ _ _ _ q=>lt_int q
def aeN:sY X (compareOp .LtE) (ZP λi j=>.bl (decide (i<=j))):=abk λ_ _ _ _ _ _ _ q=>le_int q
def aeO:sY X (compareOp .Gt) (ZP λi j=>.bl (decide (j<i))):=abk λ_ _ _ _ _ _ _ q=>gt_int q
def Px:sY X (compareOp .Lt) (λx y H Q=>∃i j,x=.str i/\y=.str j/\Q (.bl (decide (i.cps.toList<j.cps.toList))) H):=by intro cf s a H x y v u Q I e f h;obtain⟨i,j,rfl,rfl,q⟩:=h;obtain⟨t,rfl⟩:=e;obtain⟨g,rfl⟩:=f;exact lt_str (iJ I q rfl)
def Py:sY X (compareOp .In) (λx y H Q=>∃i j,x=.str i/\y=.str j/\Q (.bl (!(gu j i 0 j.length 1).isEmpty)) H):=by intro cf s a H x y v u Q I e f h;obtain⟨i,j,rfl,rfl,q⟩:=h;obtain⟨t,rfl⟩:=e;obtain⟨g,rfl⟩:=f;exact in_str (iJ I q rfl)
def abt:sY X (compareOp .Is) (λx y H Q=>y=.non/\Q (.bl (decide (x=.non))) H):=by
 intro cf s a H x y v u Q I e f h;obtain⟨rfl,q⟩:=h;cases f;refine is_none_gen (iJ I q ?_);cases x<;>first
  | (rfl)
  | (obtain⟨t,rfl⟩:=e;rfl)
def WD:sY X (compareOp .IsNot) (λx y H Q=>y=.non/\Q (.bl (!decide (x=.non))) H):=by
 intro cf s a H x y v u Q I e f h;obtain⟨rfl,q⟩:=h;cases f;refine isnot_none_gen (iJ I q ?_);cases x<;>first
  | (rfl)
  | (obtain⟨t,rfl⟩:=e;rfl)
def Gn:sY X (compareOp .NotIn) (λx y H Q=>∃i j,x=.str i/\y=.str j/\Q (.bl (!(!(gu j i 0 j.length 1).isEmpty))) H):=by intro cf s a H x y v u Q I e f h;obtain⟨i,j,rfl,rfl,q⟩:=h;obtain⟨t,rfl⟩:=e;obtain⟨g,rfl⟩:=f;exact notIn_str (iJ I q rfl)
def WE(e:sY X (compareOp op) r)(ha:PE X a ta)(hb:PE X b tb)(hm:aj5 op b=ao):PE X (.Compare a [op] [b] pos) (tOp r ta tb):=by intro cf s c H Q I h;exact wpAny_Compare1 (abi ha hb I h λv u s2 x y f g i j q=>e cf s2 c f x y v u Q g i j q) hm
def ZS (t:TE):TT:=λa H Q=>t a H λx e=>∃k,x=.bl k/\Q k e
def WG(f:sY X (compareOp op) r)(ha:PE X a ta)(hb:PE X b tb)(hm:aj5 op b=ao):PT X (.Compare a [op] [b] pos) (ZS (tOp r ta tb)):=by
 intro cf s C H Q I h;refine wpAny_isTrue_Compare1 (jB (ha cf s C H _ I h) λv s1 ⟨x,H1,g,i,j⟩=>jB (hb cf s1 C H1 _ g j) λu s2 ⟨y,m,n,o,p⟩=>
  jB (f cf s2 C m x y v u _ n i o p) λc s3 ⟨z,q,w,A,k,e,B⟩=>?_) hm
 subst e;cases A;exact cw ⟨q,w,B⟩
def Lp (r f:R2)(ta tb tc:TE):TE:=λa H Q=>ta a H λx H1=>tb a H1 λy g=>r x y g λz e=>∃k,z=.bl k/\
 (if k=ai then tc a e λh i=>f y h i Q else Q (.bl ao) e)
def Se(n:sY X (compareOp op) r)(o:sY X (compareOp f) p)(ha:PE X a ta)(hb:PE X b tb)(hc:PE X c tc)
(hm:akM [op,f] [b,c]=ao:=by with_unfolding_all rfl):PE X (.Compare a [op,f] [b,c] pos) (Lp r p ta tb tc):=by
 intro cf s F H Q I h;refine Compare_chain (jB (ha cf s F H _ I h) λv s1 ⟨x,H1,q,w,A⟩=>chain_link (jB (hb cf s1 F H1 _ q A) λu s2 ⟨y,B,C,g,E⟩=>
  jB (n cf s2 F B x y v u _ C w g E) λd s3 ⟨z,i,j,G,k,e,m⟩=>?_)) hm
 subst e;cases G;refine cw ?_;cases k with
 |false=>exact ite_ff ⟨.bl ao,i,j,rfl,m⟩
 |true=>exact ite_tt (chain_last (jB (hc cf s3 F i _ j m) λJ L zq=>by obtain⟨M,N,O,T,U⟩:=zq;exact o cf L F N y M u J Q O g T U))
def Sf(n:sY X (compareOp op) r)(o:sY X (compareOp f) p)(ha:PE X a ta)(hb:PE X b tb)(hc:PE X c tc)
(hm:akM [op,f] [b,c]=ao:=by with_unfolding_all rfl):PT X (.Compare a [op,f] [b,c] pos) (ZS (Lp r p ta tb tc)):=by
 intro cf s F H Q I h;refine isTrue_chain (jB (ha cf s F H _ I h) λv s1 ⟨x,H1,q,w,A⟩=>test_link (jB (hb cf s1 F H1 _ q A) λu s2 ⟨y,B,C,g,E⟩=>
  jB (n cf s2 F B x y v u _ C w g E) λd s3 ⟨z,i,j,G,k,e,m⟩=>?_)) hm
 subst e;cases G;refine cw ?_;cases k with
 |false=>
  obtain⟨k',e',J⟩:=m;cases e';exact ite_ff ⟨i,j,J⟩
 |true=>
  refine ite_tt (test_last (jB (hc cf s3 F i _ j m) λL M ⟨N,O,T,U,Y⟩=>jB (o cf M F O y N u L _ T g U Y) λd' s5 zq=>?_));obtain⟨z2,H5,I5,r5,k2,e2,q5⟩:=zq;subst e2;cases r5;exact cw ⟨H5,I5,q5⟩
def zo:(az:Nat)<2^63:=by decide
def Lq:sY X (binaryOp .Add) (λx y H Q=>∃i j,x=.str i/\y=.str j/\i.length+j.length<=az/\Q (.str (i++j)) H):=by intro cf s a H x y v u Q I e f h;obtain⟨i,j,rfl,rfl,g,q⟩:=h;obtain⟨t,rfl⟩:=e;obtain⟨m,rfl⟩:=f;exact add_str (λm tk=>⟨.str (i++j),H,I.tok _,⟨_,rfl⟩,q⟩) g
def vals1(r:Vals [x] us):∃u,us=[u]/\RelV x u:=by
 cases r with
 |cons e f=>cases f;exact⟨_,rfl,e⟩
def vals2(r:Vals [x,y] us):∃u e,us=[u,e]/\RelV x u/\RelV y e:=by
 cases r with
 |cons f g=>
  cases g with
  |cons h i=>cases i;exact⟨_,_,rfl,f,h⟩
structure Lr(h:aw)(x dx C:ar)(mA:aB->Option ah):Prop where
 obj:h.get? x=aa (W.instObj C dx)
 ns:h.Ns1 dx mA
 ne:dx≠x
set_option tactic.hygienic true in
def Fk{h:aw}(n:h.Ns1 b c):∃od,h.get? b=aa od/\∀name,W.lookIn name od=aa (c name):=by
 obtain⟨o,es,p,f,hd,g,_,hm⟩:=n;refine⟨o,f,λname=>?_⟩;have e:=hm name;unfold nsFind alf at e;rw[<-Array.find?_toList] at e;unfold W.lookIn;rw[hd];dsimp only;split
 .rename_i y q;rw[q] at e;exact congrArg aa e
 .rename_i q;rw[q] at e;have a:es.toList.any (·.refKey)=ao:=by rw[List.any_eq_false];intro y i;obtain⟨z,t,j⟩:=g y (Array.mem_toList_iff.mp i);simp[DictEntry.refKey,j]
  have m:¬es.toList.any (·.refKey)=ai:=by rw[a];exact bi
  rw[if_neg m];exact congrArg aa e
def Lr.look(I:Lr h x a C b):∃od,W.InstAt h x (W.instObj C a) C (aa od)/\∀name,W.lookIn name od=aa (b name):=
 let⟨od,c,e⟩:=Fk I.ns
 ⟨od,⟨I.obj,rfl,rfl,c⟩,e⟩
section
variable {prog:aP} {A:bq} {s:aq} {K:af} {x:ar}
def get_map(X:K.In s.heap)(I:Lr s.heap x dx C mA)(b:W.plainGet K C name=ai)(c:W.hasDictIn K C=ai)
(ha:aF K (.ref C) name=aa am)(e:mA name=aa v)(a:W.handedIn v=ai)(h:Q v {s with toks:=s.toks+1}):
  wpAny (model prog w) A (alq (.ref x) name expr) Q E s:=by obtain⟨od,J,g⟩:=I.look;exact W.get_value X J (W.plainGet_of b).1 (W.findObj_own c ha rfl (by rw[g,e])) a h
def Sg(X:K.In s.heap)(I:Lr s.heap x dx C mA)(a:W.plainGet K C name=ai)
(b:aF K (.ref C) name=aa (aa (.ref f)))(ht:W.isFn K (.ref f)=ai)(c:mA name=am)(h:Q (.ref f,[.ref x]) s):
  wpAny (model prog w) A (akk (.ref x) name pl) Q E s:=by obtain⟨od,J,e⟩:=I.look;exact W.method_fn X J (W.plainGet_of a).1 (W.plainGet_of a).2 b (beq_iff_eq.mp ht) (by show(W.lookIn name od).map _=aa ao;rw[e,c];rfl) h
def WH(X:K.In s.heap)(I:Lr s.heap x dx C mA)
(m:aF K (.ref C) oo=aa (aa (.builtin ov)))(n:W.plainOver K C=ai)(ht:W.takerIn K C name=aa am)(o:W.hasDictIn K C=ai)
(hw:PySem.Within mA ns)(z:ns.length<=az)
(h:∀c,Lr c x dx C (λy=>if y=name then aa v else mA y)->bM dx s.heap c->Q () {s with heap:=c,toks:=s.toks+2}):
  wpAny (model prog w) A (alr (.ref x) name v) Q E s:=by obtain⟨od,J,B⟩:=I.look;refine W.set_plain X J m (W.osa_open X J n ht λb=>?_);obtain⟨cd,hc,e⟩:=W.any_some o;have p:=I.obj;refine ae (av (ae (ae (akv p (ae (W.Looks.here (W.looks_clsIn X hc) ?_))))));rw[e];refine av (ae (av (ae ?_)));refine akV I.ns λc a j=>?_;obtain⟨G,q,r,g,i,u⟩:=a.count (PySem.Within.cons name v hw);refine ae (akl g (by rw[i];exact akm (bh u (by rw[aQ];lia))) ?_);exact av (h _ ⟨(j.2 _ (ci I.ne)).trans I.obj,a,I.ne⟩ j)
def Si(X:K.In s.heap)(hm:W.makesIn K C=ai)
(hi:aF K (.ref C) ft=aa (aa (.ref f)))(b:W.typeIn K (.ref f)=aa (.type "function"))
(h:codeAny (model prog w) (A.under (.builtin kz ⟨.ref C::a,kw⟩)) (.call (.ref f) ⟨.ref (s.heap.objs.size+1)::a,kw⟩) (W.InitBack (s.heap.objs.size+1) R)
   {s with heap:=(s.heap.push W.emptyDict).push (W.instObj C s.heap.objs.size)}):
  codeAny (model prog w) A (.call (.ref C) ⟨a,kw⟩) R s:=by exact W.make_core (W.makes_of X hm) (W.looks_findIn X hi) (λself=>W.bind_fn X self b) (.inl rfl) h
end
noncomputable def pB(f:aB)(v:V):List (aB×V)->List (aB×V)
 |[]=>[(f,v)]
 | (g,x)::r=>if g=f then(g,v)::r else(g,x)::pB f v r
theorem uS(f g:aB)(v:V):∀fs:List _,(pB f v fs).lookup g=if g=f then aa v else fs.lookup g
 |[]=>by
  show f7 g [(f,v)]=_;by_cases h:g=f
  .have hb:=beq_iff_eq.mpr h;simp only [f7,hb,if_pos h]
  .have hb:=beq_eq_false_iff_ne.mpr h;simp only [f7,hb,if_neg h]
 | (k,x)::r=>by
  have b:=uS f g v r;rw[show pB f v _=(if k=f then(k,v)::r else(k,x)::pB f v r) from rfl];by_cases a:k=f
  .rw[if_pos a];by_cases h:g=k
   .have hb:=beq_iff_eq.mpr h;simp only [f7,hb,if_pos (h.trans a)]
   .have hb:=beq_eq_false_iff_ne.mpr h;simp only [f7,hb,if_neg (λe:g=f=>h (e.trans a.symm))]
  .rw[if_neg a];by_cases h:g=k
   .have hb:=beq_iff_eq.mpr h;simp only [f7,hb,if_neg (λe:g=f=>a (h.symm.trans e))]
   .have hb:=beq_eq_false_iff_ne.mpr h;simp only [f7,hb];exact b
theorem sB(f:aB)(v:V):∀fs:List _,f∈(pB f v fs).map (·.1)/\∀g,g∈fs.map (·.1)->g∈(pB f v fs).map (·.1)
 |[]=>⟨by simp[pB],λg h=>by simp at h⟩
 | (k,x)::r=>by
  obtain⟨b,c⟩:=sB f v r;rw[show pB f v _=(if k=f then(k,v)::r else(k,x)::pB f v r) from rfl];by_cases a:k=f
  .subst a;exact⟨by simp,λg h=>by simpa using h⟩
  .rw[if_neg a];refine⟨?_,λg h=>?_⟩
   .exact ax _ b
   .rcases aN.mp h with e|e
    .exact aN.mpr (.inl e)
    .exact ax _ (c g e)
theorem At(f:aB)(v:V):∀fs:List _,(pB f v fs).length<=fs.length+1
 |[]=>by simp[pB]
 | (k,x)::r=>by
  have b:=At f v r;rw[show pB f v _=(if k=f then(k,v)::r else(k,x)::pB f v r) from rfl];by_cases a:k=f
  .rw[if_pos a,aQ,aQ];lia
  .rw[if_neg a,aQ,aQ];lia
def rH.some_of(r:rH (aa v) o):∃u,o=aa u/\RelV v u:=by
 cases o with
 |none=>exact(r).elim
 |some u=>exact⟨u,rfl,r⟩
def rH.none_of(r:rH am o):o=am:=by
 cases o with
 |none=>rfl
 |some u=>exact(r).elim
def Fl(r:RelV v u):W.handedIn u=ai:=by
 cases v with
 |non=>cases(r);rfl
 |bl b=>cases(r);rfl
 |int i=>obtain⟨t,e⟩:=(r);cases e;rfl
 |str x=>obtain⟨t,e⟩:=(r);cases e;rfl
 |Rx b=>obtain⟨t,e⟩:=(r);cases e;rfl
 |flt b=>obtain⟨t,e⟩:=(r);cases e;rfl
 |ref a=>cases(r);rfl
 |ty n=>cases(r);rfl
section
variable {fs:List (aB×V)}
def Bm(iC:sy P w H h)(e:H a=aa (.ins C dx fs)):∃b,Lr h a dx C b/\(∀f,rH (fs.lookup f) (b f))/\PySem.Within b (fs.map (·.1))/\fs.length<=1000/\H dx=aa (.own a):=by obtain⟨d,z,ne,ob,b,n,r,q⟩:=(iC a _ e);exact⟨b,⟨ob,n,ne⟩,r,q,z,d⟩
end
structure Ls(K:af)(C:ar):Prop where
 pg:W.plainGet K C aB.empty=ai
 hd:W.hasDictIn K C=ai
 po:W.plainOver K C=ai
 sa:aF K (.ref C) oo=aa (aa (.builtin ov))
def Ls.get{K:af}(c:Ls K C)(f:aB):W.plainGet K C f=ai:=c.pg
def jZ (K:af)(C:ar)(f:aB):Prop:=aF K (.ref C) f=aa am
def jZ.aeP{K:af}(n:jZ K C f):W.takerIn K C f=aa am:=by unfold W.takerIn;rw[n];rfl
structure Con(K:af)(C:ar)(f:aB)(v:V)(u:ah):Prop where
 at_:aF K (.ref C) f=aa (aa u)
 rel:RelV v u
 get:W.specialIn K u pu=aa am
 cp:W.copiedNames.contains f=ao
structure Meth(K:af)(C:ar)(m:aB)(f:ar):Prop where
 at_:aF K (.ref C) m=aa (aa (.ref f))
 fn:W.isFn K (.ref f)=ai
 kp:dr K (.ref f)=ai
section
variable {X:Cx} {s:aq} {fs:List (aB×V)}
def Lu(I:Inv X cf o H s)(e:H a=aa (.ins C dx fs))(c:Ls X.K C)(n:jZ X.K C f)(l:fs.lookup f=aa v)
(h:∀u g,Inv X cf o H g->RelV v u->Q u g):wpAny (model X.prog X.w) A (alq (.ref a) f b) Q E s:=by obtain⟨m,O,r,_,_,_⟩:=Bm I.iC e;obtain⟨u,j,i⟩:=rH.some_of (by rw[<-l];exact r f);exact get_map I.qG O (c.get f) c.hd n j (Fl i) (h u _ (I.tok _) i)
def Lv(I:Inv X cf f H s)(e:H a=aa (.ins C dx fs))(c:Ls X.K C)(k:Meth X.K C m g)(l:fs.lookup m=am)
(h:Q (.ref g,[.ref a]) s):wpAny (model X.prog X.w) A (akk (.ref a) m pl) Q E s:=by obtain⟨b,O,r,_,_,_⟩:=Bm I.iC e;have hn:=rH.none_of (by rw[<-l];exact r m);exact Sg I.qG O (c.get m) k.at_ k.fn hn h
def Lw(I:Inv X cf v H s)(e:H a=aa (.ins C dx fs))(c:Ls X.K C)(n:jZ X.K C f)(M:fs.length<1000)(p:RelV y u)
(h:∀j,Inv X cf v (upd H a (.ins C dx (pB f y fs))) j->Q () j):wpAny (model X.prog X.w) A (alr (.ref a) f u) Q E s:=by
 obtain⟨B,O,r,wi,_,m⟩:=Bm I.iC e;have G:(fs.map (·.1)).length<=az:=by rw[ak,bD];lia
 refine WH I.qG O c.sa c.po n.aeP c.hd wi G λJ i sb=>h _ ?_;have hd:∃o,J.get? dx=aa o:=let⟨o,_,_,e',_⟩:=i.ns;⟨o,e'⟩;refine I.write (by rw[e];exact dg) (.inr m) (λb q hb z=>(sb.2 b hb).trans z) hd ?_;refine⟨by rw[gR O.ne];exact m,?_,O.ne,i.obj,_,i.ns,λg=>?_,λg L=>?_⟩
 .have:=At f y fs;lia
 .rw[uS];by_cases q:g=f
  .rw[if_pos q,if_pos q];exact p
  .rw[if_neg q,if_neg q];exact r g
 .by_cases q:g=f
  .rw[q];exact(sB f y fs).1
  .refine(sB f y fs).2 g (wi g λz=>L ?_);show(if g=f then aa u else B g)=am;rw[if_neg q];exact z
def Inv.made(I:Inv X cf σ H s):Inv X cf σ (upd (upd H s.heap.objs.size (.own (s.heap.objs.size+1))) (s.heap.objs.size+1) (.ins C s.heap.objs.size []))
  {s with heap:=(s.heap.push W.emptyDict).push (W.instObj C s.heap.objs.size)}:=by
 have e1:(s.heap.push _).get? _=aa W.emptyDict:=aJ s.heap rfl;have e2:=by
  have:=aJ (s.heap.push W.emptyDict) (o:=W.instObj C s.heap.objs.size) rfl
  rwa [bZ] at this
 have e3:(s.heap.push _).Ns _ (λ_=>am):=⟨W.emptyDict,#[],_,e1,rfl,(λe c=>absurd c (by simp)),λ_=>rfl⟩;have g:=I.laid (o:=.own (s.heap.objs.size+1)) (t':=s.toks) (λb u q=>aj _ q) (aC _) ⟨_,e1⟩;refine g.laid (λb u q=>aj _ q) (gv (bZ _ _)) ?_;have ne:s.heap.objs.size≠s.heap.objs.size+1:=bg (ajr _);refine⟨by rw[gR ne,gZ],bu _,ne,e2,λ_=>am,(aw.Ns1.of_empty e3).at λo q=>aj _ q,λ_=>dg,λy h=>absurd rfl h⟩
def NM(hb:cM e f env (eval e env)=eval e env)
(h:wpAny (model prog w) A (eval e env) (λo b=>wpAny (model prog w) A (alq o f ai) Q E b) E s):wpAny (model prog w) A (eval (.Attribute e f pos) env) Q E s:=
 Attribute_any_ h (by rw[arm_eval_Attribute,hb])
end
def ahP (K:af)(b:TE)(f:aB):TE:=λe H Q=>b e H λx H1=>∃a C c fs v,x=.ref a/\H1 a=aa (.ins C c fs)/\Ls K C/\jZ K C f/\fs.lookup f=aa v/\Q v H1
def ahQ (K:af)(e g:TE)(f:aB):TS:=λD h H=>g h H λy H1=>e h H1 λx b=>∃a C c fs,x=.ref a/\b a=aa (.ins C c fs)/\Ls K C/\jZ K C f/\fs.length<1000/\
 D.nx h (upd b a (.ins C c (pB f y fs)))
section
variable {X:Cx} {pos:dA}
def abu(b:PE X e ta)(hb:cM e f X.env (eval e X.env)=eval e X.env):PE X (.Attribute e f pos) (ahP X.K ta f):=by intro cf s o H Q I h;refine NM hb (jB (b cf s o H _ I h) λu s1 g=>?_);obtain⟨x,H1,i,j,a,C,w,fs,v,ex,m,c,n,l,q⟩:=g;subst ex;obtain rfl:u=bI a:=j;exact Lu i m c n l λy s2 p r=>⟨v,H1,p,r,q⟩
def abv(ha:PE X o ta)(b:PE X value tv)(g:c5 value (aa (.Attribute o f rJ)) pos.line X.env=pure ao):PS X (.Assign [.Attribute o f rJ] value pos) (ahQ X.K ta tv f):=by intro cf s e H D I h;refine aki (jB (b cf s e H _ I h) λu s1 ⟨y,H1,i,j,q⟩=>jB (ha cf s1 e H1 _ i q) λm s2 zq=>?_) g;obtain⟨x,A,p,r,a,C,B,fs,ex,v,c,n,l,w⟩:=zq;subst ex;obtain rfl:m=bI a:=r;exact Lw p v c n l j λs3 z=>⟨e,_,z,w⟩
end
section
variable {X:Cx} {cf:List (ar×cn)} {σ:St} {H:Hp} {s:aq} {A:bq} {E:ah->aq->Prop} {Q:ah->aq->Prop} {c:ah} {b:Bool}
inductive A2(K:af)(H:Hp):V->ah->Prop where
 |non:A2 K H .non (.type oP)
 |bl (x:Bool):A2 K H (.bl x) (.type jd)
 |int (i:Int):A2 K H (.int i) (.type ic)
 |str (x:aB):A2 K H (.str x) (.type hX)
 |flt (x:UInt64):A2 K H (.flt x) (.type "float")
 |lst {a:ar} {xs:List V} (e:H a=aa (.lst xs)):A2 K H (.ref a) (.type ap)
 |qN {a:ar} {o:cn} {xs:List V} (e:H a=aa (.qN o (.lst xs))):A2 K H (.ref a) (.type ap)
 |tup {a:ar} {xs:List V} (e:H a=aa (.tup xs)):A2 K H (.ref a) (.type dy)
 |dK {a:ar} {g8:List (Key×V)} (e:H a=aa (.dK g8)):A2 K H (.ref a) (.type fe)
 |dT {a:ar} {g8:List (List Key×V)} (e:H a=aa (.dT g8)):A2 K H (.ref a) (.type fe)
 |ins {a C dx:ar} {fs:List (aB×V)} (e:H a=aa (.ins C dx fs)) (cl:Ls K C) (ha:aF K (.ref C) mu=aa (aa (.builtin im)))
   (hn:W.specialIn K (.builtin im) pu=aa (aa (.builtin pw))) (htk:W.takesIn K (.builtin im)=aa ai)
   (hm:W.mroIn K C (.type ix)=aa ai):A2 K H (.ref a) (.ref C)
def pU(I:Inv X cf σ H s)(f:RelV x u)(ty:A2 X.K H x t)(e:bb X.K t c=aa b)(h:∀tk,Q (.bool b) {s with toks:=tk}):
  wpAny (model X.prog X.w) A (call (.builtin mv) [u,c]) Q E s:=by
 cases ty with
 |non=>cases(f);exact W.kia_one W.kitx_none I.qG dg e (λz=>nomatch z) h
 |bl y=>cases(f);exact W.kia_one W.kitx_bool I.qG dg e (λz=>nomatch z) h
 |int i=>obtain⟨t,q⟩:=(f);cases q;exact W.kia_one W.kitx_int I.qG dg e (λz=>nomatch z) h
 |str y=>obtain⟨t,q⟩:=(f);cases q;exact W.kia_one W.kitx_str I.qG dg e (λz=>nomatch z) h
 |flt y=>obtain⟨t,q⟩:=(f);cases q;exact W.kia_one W.kitx_float I.qG dg e (λz=>nomatch z) h
 |@lst a xs g=>
  cases(show u=bI a from f);obtain⟨_,_,n,_,j⟩:=(I.iC a _ g);exact W.kia_one W.kitx_list I.qG ⟨_,j,rfl⟩ e (λz=>nomatch z) h
 |@qN a ob xs g=>
  cases(f);obtain⟨_,_,_,n,_,j⟩:=(I.iC a _ g);exact W.kia_one W.kitx_list I.qG ⟨_,j,rfl⟩ e (λz=>nomatch z) h
 |@tup a xs g=>
  cases(f);obtain⟨_,_,_,p⟩:=(I.iC a _ g);obtain⟨o,j,m,_⟩:=p;exact W.kia_one W.kitx_tuple I.qG ⟨o,j,m⟩ e (λz=>nomatch z) h
 |@dK a r g=>
  cases(show u=bI a from f);obtain⟨_,_,B,_,p⟩:=(I.iC a _ g);obtain⟨o,es,v,j,m,_⟩:=p;exact W.kia_one W.kitx_dict I.qG ⟨o,j,m.1⟩ e (λz=>nomatch z) h
 |@dT a r g=>
  cases(show u=bI a from f);obtain⟨_,_,xs,_,o,es,v,j,m,_⟩:=(I.iC a _ g);exact W.kia_one W.kitx_dict I.qG ⟨o,j,m.1⟩ e (λz=>nomatch z) h
 |@ins a C G fs g cl ha hn htk hm=>
  cases(f);obtain⟨L,O,_⟩:=Bm I.iC g;obtain⟨od,J,_⟩:=O.look;exact W.kia_one (W.kitx_own (cl.get _) cl.hd ha hn htk hm) I.qG J e (λz=>nomatch z) h
end
structure iV(k:Nat)(A:bq):Prop where
 hd:A.handled=am
 dp:A.depth+3*k+5<akw
 un:A.units+16*k+200<gw
 gd:A.guards=aa []
def iV.mono(r:iV k A)(h:j<=k):iV j A:=⟨r.hd,by have:=r.dp;lia,by have:=r.un;lia,r.gd⟩
theorem iV.deeper(r:iV (k+1) A)(env:gq):iV k (A.deeper env):=
 ⟨r.hd,by have:=r.dp;show A.depth+1+3*k+5<_;lia,by have:=r.un;show A.units+3+16*k+200<_;lia,r.gd⟩
theorem iV.in1(r:iV (k+1) A):iV k A.in1:=
 ⟨r.hd,by have:=r.dp;show A.depth+3*k+5<_;lia,by have:=r.un;show A.units+1+16*k+200<_;lia,r.gd⟩
def Lx{A:bq}:(A.under (.builtin kz ⟨.ref C::us,kw⟩)).depth=A.depth+1:=by first|rfl|simp[guardIds]
def Ly{A:bq}:(A.under (.builtin kz ⟨.ref C::us,kw⟩)).units=A.units+1:=by first|rfl|simp[Code.cUnits]
def ZT{A:bq}:(A.under (.builtin kz ⟨.ref C::us,kw⟩)).guards=A.guards:=by first|rfl|(simp)
def iV.make(r:iV (k+1) A)(C:ar)(us:List ah)(kw:List _):iV k (A.under (.builtin kz ⟨.ref C::us,kw⟩)):=
 ⟨r.hd,by have:=r.dp;rw[Lx];lia,by have:=r.un;rw[Ly];lia,by exact r.gd⟩
theorem iV.depth(r:iV k A):A.depth<akw:=by have:=r.dp;lia
theorem iV.units(r:iV k A):A.units+64<gw:=by have:=r.un;lia
def WJ:TA:=λ_ H Q=>Q [] H
def Sj (a:TE)(tr:TA):TA:=λc H Q=>a c H λx H1=>tr c H1 λxs b=>Q (x::xs) b
section
variable {X:Cx} {t:TA}
def Gp:PA X [] WJ:=λ_ _ _ _ H Q I h=>Calls.spliced_nil ⟨[],H,I,.nil,h⟩
def x8(ha:PE X e te)(a:PA X es t)(b:aV (e::es) X.env=(ao,eval e X.env)::aV es X.env:=by rfl):PA X (e::es) (Sj te t):=by intro pos cf s p H Q I h;rw[b];show wpAny _ _ (spliced ((ao,eval e X.env)::cO pos _)) _ _ s;refine Calls.spliced_cons (jB (ha cf s p H _ I h) λu s1 c=>?_);obtain⟨x,H1,f,g,i⟩:=c;exact jB (a pos cf s1 p H1 _ f i) λus s2 ⟨xs,j,m,n,o⟩=>⟨x::xs,j,m,.cons g n,o⟩
def ahR (t:TA):TE:=λa H Q=>t a H λxs H1=>xs.length<=az/\∀p,H1 p=am->Q (.ref p) (upd H1 p (.tup xs))
def ahS (t:TA):TE:=λa H Q=>t a H λxs H1=>xs.length<=az/\∀p,H1 p=am->Q (.ref p) (upd H1 p (.lst xs))
def abw{x1}(h:PA X es t):PE X (.Tuple es x1 pos) (ahR t):=by intro cf s g H Q I c;refine wpAny_Tuple_spliced (jB (h pos cf s g H _ I c) λus s1 ⟨xs,H1,a,r,z,q⟩=>⟨by rw[<-r.length];exact z,?_⟩);have f:=a.iC.fresh (aC _);refine⟨.ref _,upd H1 _ _,a.laid (λb u e=>aj _ e) (aC _) ?_,rfl,q _ f⟩;exact⟨z,us,r,⟨_,aJ _ rfl,rfl,_,rfl⟩⟩
def abx(h:PA X es t):PE X (.List es pos) (ahS t):=by intro cf s g H Q I c;refine wpAny_List_spliced (jB (h pos cf s g H _ I c) λus s1 ⟨xs,H1,a,r,z,q⟩=>⟨by rw[<-r.length];exact z,?_⟩);have f:=a.iC.fresh (aC _);refine⟨.ref _,upd H1 _ _,a.laid (λb u e=>aj _ e) (aC _) ?_,rfl,q _ f⟩;exact⟨z,us,0,r,aJ _ rfl⟩
end
abbrev Sp:=List V->Hp->VK->XK->Prop
abbrev PC:=List gq->Hp->aq->XK->ah->aq->Prop
structure A3(P:aP)(w:bt)(K:af)(mg:aB->Option ah)(cq:aw)(A:bq)(cv:List gq)(s:aq)(H:Hp):Prop where
 frames:A.frames=aa cv
 mod:Mod K mg cq
 bs:∀b o,cq.get? b=aa o->s.heap.get? b=aa o/\H b=am
 Po:cq.objs.size<=s.heap.objs.size
 wD:s.heap.FunFrames cq cv
 RX:∀b∈sx cv,H b=am
 iC:sy P w H s.heap
 bare:fE s.gens
def CE (cv:List gq)(P:aP)(w:bt)(H:Hp)(s:aq)(Q:VK)(u:ah)(a:aq):Prop:=
 ∃v b,a.os=s.os/\fE a.gens/\Un (sx cv) [] H b s.heap a.heap/\sy P w b a.heap/\RelV v u/\Q v b
def CR (b:PC)(cv:List gq)(P:aP)(w:bt)(H:Hp)(s:aq)(Q:VK)(E:XK)(r:akx)(a:aq):Prop:=
 match r with
 |.ok (.ret u)=>CE cv P w H s Q u a
 |.ok _=>False
 |.error e=>b cv H s E e a
structure jo(P:aP)(w:bt)(K:af)(mg:aB->Option ah)(cq:aw)(CX:PC)(k:Nat)(f:ar)(fd:cI)(ps:List aB)(sp:Sp):Prop where
 len:∀vs H Q E,sp vs H Q E->vs.length=ps.length
 run:∀(A:bq) (cv:List gq) (s:aq) (H:Hp) (args:Args) (us:List ah) (vs:List V) (Q:VK) (E:XK),iV k A->A3 P w K mg cq A cv s H->aj0 s fd args (ps.zip us)->Vals vs us->sp vs H Q E->
  codeAny (model P w) A (.call (.ref f) args) (CR CX cv P w H s Q E) s
theorem jo.mono{K:af}(F:jo P w K mg cq a j f fd b sp)(h:j<=k):
  jo P w K mg cq a k f fd b sp:=⟨F.len,λA cv s H args us c Q E e=>F.run A cv s H args us c Q E (e.mono h)⟩
def jo.imp{K:af}(F:jo P w K mg cq c k f fd e sp)
(h:∀a H Q E,b a H Q E->sp a H Q E):jo P w K mg cq c k f fd e b:=
 ⟨λa H Q E q=>F.len a H Q E (h _ _ _ _ q),λA cv s H args us a Q E g i hb j m=>F.run A cv s H args us a Q E g i hb j (h _ _ _ _ m)⟩
def A3.make{K:af}(e:A3 P w K mg cq A cv s H)(C:ar)(us:List ah)(kw:List _):
  A3 P w K mg cq (A.under (.builtin kz ⟨.ref C::us,kw⟩)) cv s H:=⟨by first|exact e.frames|(simpa[pushEnvs] using e.frames),e.mod,e.bs,e.Po,e.wD,e.RX,e.iC,e.bare⟩
theorem A3.in1{K:af}{mg:aB->Option ah}{cq:aw}{A:bq}{cv:List gq}{s:aq}{H:Hp}(e:A3 P w K mg cq A cv s H):
  A3 P w K mg cq A.in1 cv s H:=⟨e.frames,e.mod,e.bs,e.Po,e.wD,e.RX,e.iC,e.bare⟩
section
variable {X:Cx} {s:aq}
def Inv.Sl(I:Inv X cf σ H s):A3 X.prog X.w X.K X.mg X.cq X.A X.stack s H:=
 ⟨I.ok.frames,I.ok.mod,I.bs,bh I.ok.Po I.sz,I.stack,I.NE,I.iC,I.bare⟩
def Inv.after(I:Inv X cf σ H s)(h:CE X.stack X.prog X.w H s Q u s'):EP X cf σ Q u s':=by obtain⟨v,c,os,bare,un,iC,r,q⟩:=h;obtain⟨e,g,d,t,a⟩:=s';obtain rfl:a=s.os:=os;exact⟨v,c,I.call un iC bare (λb z=>absurd z (by simp)),r,q⟩
end
def NN (sp:Sp)(uT:List V)(E:XK)(t:TA):TE:=λb H Q=>t b H λa H1=>sp (a++uT) H1 Q E
def aeQ (C:ar)(sp:Sp)(uT:List V)(E:XK)(t:TA):TE:=λe H Q=>t e H λb H1=>∀x a,H1 x=am->H1 a=am->a≠x->
 sp (.ref x::(b++uT)) (upd (upd H1 a (.own x)) x (.ins C a [])) (λv c=>v=.non/\Q (.ref x) c) E
def Binds(K:af)(fd:cI)(a:List aB)(ds:List ah):Prop:=
 ∀(s:aq) (us:List ah),K.In s.heap->(us++ds).length=a.length->aj0 s fd ⟨us,[]⟩ (a.zip (us++ds))
def Binds.all{K:af}(h:∀us:List ah,us.length=a.length->dQ fd ⟨us,[]⟩=pure (a.zip us)):Binds K fd a []:=λs us _ b=>by rw[aR] at b |-;exact .of_eq (h us b)
def uU (b:PC)(X:Cx)(E:XK):Prop:=∀(cf:List (ar×cn)) (c:St) (H:Hp) (s:aq) (e:ah) (a:aq),Inv X cf c H s->b X.stack H s E e a->X.xe e a
section
variable {X:Cx} {k:Nat} {fd:cI} {ps:List aB} {uT:List V} {x:aB} {e:bv} {t:TA}
def Lz(F:jo X.prog X.w X.K X.mg X.cq CX k f fd ps sp)(c:iV k X.A)(hb:Binds X.K fd ps ds)(hd:Vals uT ds)(g:uU CX X E)
(I:Inv X cf m H s)(r:Vals vs us)(h:sp (vs++uT) H Q E):wpAny (model X.prog X.w) X.A (call (.ref f) us) (EP X cf m Q) X.xe s:=by
 have b:=r.append hd;have i:(us++ds).length=ps.length:=by rw[<-b.length];exact F.len _ _ _ _ h
 refine eJ (cX (F.run X.A X.stack s H _ _ _ Q E c I.Sl (hb s us I.qG i) b h) λr j a=>?_);cases r with
 |error e=>exact g cf m H s e j I a
 |ok fl=>
  cases fl with
  |ret u=>exact I.after a
  |next=>exact b9 a
  |brk=>exact b9 a
  |cont=>exact b9 a
def WK(F:jo X.prog X.w X.K X.mg X.cq CX k f fd ps sp)(b:iV k X.A)(c:Gl X x)(hm:X.mg x=aa (.ref f))(g:dr X.K (.ref f)=ai)(hb:Binds X.K fd ps ds)(hd:Vals uT ds)(i:uU CX X E)
(ha:PA X (e::es) t)(j:(x==(dV:aB))=ao:=by decide)(n:aV (e::es) X.env=(ao,eval e X.env)::aV es X.env:=by rfl)(u:(cO pos (aV es X.env)).any (·.1)=ao:=by rfl):
  PE X (.Call (.Name x p) (e::es) [] pos) (NN sp uT E t):=by intro cf s m H Q I h;refine c8 (tz I c hm ?_ j);refine W.callWith_K I.ok.mod.RW g (jB (ha pos cf s m H _ I h) λus s1 ⟨v,H1,a,r,q⟩=>⟨a.qG,?_⟩) n u;exact Lz F b hb hd i a r q
def Sn(F:jo X.prog X.w X.K X.mg X.cq CX k f fd ps sp)(a:iV k X.A)(b:Gl X x)(hm:X.mg x=aa (.ref f))(c:dr X.K (.ref f)=ai)(hb:Binds X.K fd ps ds)(hd:Vals uT ds)(g:uU CX X E)
(i:(x==(dV:aB))=ao:=by decide):PE X (.Call (.Name x p) [] [] pos) (NN sp uT E WJ):=by intro cf s j H Q I h;refine c8 (tz I b hm ?_ i);exact W.callWith_K0 I.qG c (Lz (us:=[]) F a hb hd g I .nil h)
structure Mk(K:af)(C f:ar):Prop where
 makes:W.makesIn K C=ai
 init:aF K (.ref C) ft=aa (aa (.ref f))
 fn:W.isFn K (.ref f)=ai
 kp:dr K (.ref C)=ai
def So(M:Mk X.K C f)(F:jo X.prog X.w X.K X.mg X.cq CX k f fd ps sp)(n:iV (k+1) X.A)(hb:Binds X.K fd ps ds)(hd:Vals uT ds)
(q:uU CX X E)(I:Inv X cf m H s)(r:Vals g us)
(h:∀x b,H x=am->H b=am->b≠x->sp (.ref x::(g++uT)) (upd (upd H b (.own x)) x (.ins C b [])) (λv y=>v=.non/\Q (.ref x) y) E):
  wpAny (model X.prog X.w) X.A (call (.ref C) us) (EP X cf m Q) X.xe s:=by
 have i:=h _ _ (I.iC.fresh (cG _)) (I.iC.fresh (aC _)) (bg (ajr _));have c:=Inv.made (C:=C) I;have j:Vals (V.ref (s.heap.objs.size+1)::(g++uT)) _:=.cons rfl (r.append hd);have z:=by have e:=j.length;rw[F.len _ _ _ _ i] at e;exact e.symm
 refine eJ (Si I.qG M.makes M.init (beq_iff_eq.mp M.fn) (cX (F.run _ X.stack _ _ _ _ _ _ E (n.make C us [])
  (c.Sl.make C us []) (hb _ _ c.qG z) j i) λr B a=>?_))
 cases r with
 |error e=>exact q cf m _ _ e B c a
 |ok fl=>
  cases fl with
  |ret u=>
   obtain⟨v,G,J,L,N,O⟩:=c.after a;subst N;exact⟨L,⟨V.ref _,G,J,rfl,O⟩⟩
  |next=>exact b9 a
  |brk=>exact b9 a
  |cont=>exact b9 a
def WL(M:Mk X.K C f)(F:jo X.prog X.w X.K X.mg X.cq CX k f fd ps sp)(b:iV (k+1) X.A)(c:Gl X x)(hm:X.mg x=aa (.ref C))(hb:Binds X.K fd ps ds)(hd:Vals uT ds)(g:uU CX X E)
(ha:PA X (e::es) t)(i:(x==(dV:aB))=ao:=by decide)(j:aV (e::es) X.env=(ao,eval e X.env)::aV es X.env:=by rfl)(n:(cO pos (aV es X.env)).any (·.1)=ao:=by rfl):
  PE X (.Call (.Name x p) (e::es) [] pos) (aeQ C sp uT E t):=by intro cf s m H Q I h;refine c8 (tz I c hm ?_ i);refine W.callWith_K I.ok.mod.RW M.kp (jB (ha pos cf s m H _ I h) λus s1 ⟨u,H1,a,r,q⟩=>⟨a.qG,?_⟩) j n;exact So M F b hb hd g a r q
end
section
variable {k:Nat} {fd:cI} {ps ks:List aB} {x:aB} {t tk:TA}
structure ahT(K:af)(fd:cI)(ps ks:List aB)(g:List ah->List ah->List ah)(gV:List V->List V->List V):Prop where
 to:∀(s:aq) (us ws:List ah),K.In s.heap->(g us ws).length=ps.length->aj0 s fd ⟨us,ks.zip ws⟩ (ps.zip (g us ws))
 rel:∀{vs:List V} {us:List ah} {zs:List V} {ws:List ah},Vals vs us->Vals zs ws->Vals (gV vs zs) (g us ws)
end
structure ju(N P:List aB)(sc:cS):Prop where
 kind:sc.kind=.function
 co:sc.isCoroutine=ao
 gen:sc.isGenerator=ao
 nd:N.Nodup
 pre:N.take P.length=P
 par:∀x∈P,sc.names.lookup x=aa .local\/sc.names.lookup x=aa .cell
 aby:∀y∈sc.names,y.2≠.free
theorem Fm{kindOf:aB->Option dR}:∀{binds:List _} {m:aB->Option ah},(∀v,(x,v)∉binds)->ak7 kindOf binds m x=m x
 |[],_,_=>rfl
 | (n,v)::r,m,h=>by
  unfold ak7;rw[Fm λw hw=>h w (ax _ hw)];split
  .have:x≠n:=by rintro rfl;exact h v aE
   simp[this]
  .rfl
theorem Fn{kindOf:aB->Option dR}:∀{binds:List _} {m:aB->Option ah},(∀v,(x,v)∉binds)->ak8 kindOf binds m x=m x
 |[],_,_=>rfl
 | (n,v)::r,m,h=>by
  unfold ak8;rw[Fn λw hw=>h w (ax _ hw)];split
  .rfl
  .have:x≠n:=by rintro rfl;exact h v aE
   simp[this]
theorem Fo{kindOf:aB->Option dR}:∀{P:List aB} {a:List ah} {i:Nat} {m:aB->Option ah},P.Nodup->P[i]?=aa x->a[i]?=aa v->kindOf x=aa .local->
  ak7 kindOf (P.zip a) m x=aa v
 |[],_,_,_,_,h,_,_=>by simp at h
 |_::_,[],_,_,_,_,h,_=>by simp at h
 |p::P,w::a,0,m,nd,b,c,e=>by simp at b c;subst b;subst c;show ak7 kindOf ((p,w)::P.zip a) m p=_;unfold ak7;rw[Fm λv f=>(eD.mp nd).1 (gb f).1,if_pos e];simp
 |p::P,w::a,i+1,m,nd,b,c,e=>by unfold ak7;exact Fo (eD.mp nd).2 (by simpa using b) (by simpa using c) e
theorem Fp{kindOf:aB->Option dR}:∀{P:List aB} {a:List ah} {i:Nat} {m:aB->Option ah},P.Nodup->P[i]?=aa x->a[i]?=aa v->kindOf x≠aa .local->
  ak8 kindOf (P.zip a) m x=aa v
 |[],_,_,_,_,h,_,_=>by simp at h
 |_::_,[],_,_,_,_,h,_=>by simp at h
 |p::P,w::a,0,m,nd,b,c,e=>by simp at b c;subst b;subst c;show ak8 kindOf ((p,w)::P.zip a) m p=_;unfold ak8;rw[Fn λv f=>(eD.mp nd).1 (gb f).1,if_neg e];simp
 |p::P,w::a,i+1,m,nd,b,c,e=>by unfold ak8;exact Fp (eD.mp nd).2 (by simpa using b) (by simpa using c) e
noncomputable def start(N:List aB)(a:List V):St:=a.map aa++bQ (N.length- a.length) am
noncomputable def rK(b:PC)(P:aP)(w:bt)(K:af)(mg:aB->Option ah)(cq:aw)(N:List aB)(qual:aB)(scope:cS)(f:ar)(cd:ah)(A:bq)(cv:List gq)(s:aq)(H:Hp)(E:XK):Cx where
 prog:=P
 w:=w
 K:=K
 mg:=mg
 cq:=cq
 A:=A.deeper (dY qual scope s.heap.objs.size f cd)
 N:=N
 hU:=s
 hW:=H
 env:=dY qual scope s.heap.objs.size f cd
 cv:=cv
 stack:=dY qual scope s.heap.objs.size f cd::cv
 ex:=[]
 calm:=ai
 fn:=λ_=>ai
 pn:=[]
 xe:=λe c=>wpAny (model P w) (A.deeper (dY qual scope s.heap.objs.size f cd)) (leaving (dY qual scope s.heap.objs.size f cd) e) (λ_ a=>b cv H s E e a) (λe' a=>b cv H s E e' a) c
def IA{sc:cS}(h:sc.names.lookup x=aa .cell):∃c,(akN n sc.names []).lookup x=aa c:=by have q:=W.cellsFrom_some sc.names n [] (.inl h);exact Option.isSome_iff_exists.mp q
def Fq{K:af}{E:XK}
(S:ju N o scope)(hd:A.handled=am)(j:A3 P w K mg cq A cv s H)(Q:n.length=o.length)(r:Vals n us)
(x:InCallC s s.heap.objs.size (ak7 (dY qual scope s.heap.objs.size f cd).kindOf (o.zip us) λ_=>am) (akN (s.heap.objs.size+1) scope.names []) (ak8 (dY qual scope s.heap.objs.size f cd).kindOf (o.zip us) λ_=>am) s1):
  Inv (rK M P w K mg cq N qual scope f cd A cv s H E) [] (start N n) H s1:=by
 have T:=by have:=congrArg f8 S.pre;rw[bW] at this;omega
 obtain⟨I,tk,rfl,J⟩:=x.done;have m:∀b:ar,b∉(rK M P w K mg cq N qual scope f cd A cv s H E).ex:=λb z=>absurd (show b∈([]) from z) (by simp);refine⟨⟨j.mod,S.kind,rfl,rfl,aC _,λy z c I g=>?_,λy B=>?_,λy c _ h=>?_,λ_=>hd,bq.frames_deeper j.frames,.inr ⟨rfl,rfl⟩,λb z=>absurd z (m b),j.bs,j.Po,λb _ _=>m b,λb z=>absurd z (m b),j.wD,j.RX⟩,
  rfl,j.bare,Un.kept J,⟨_,x.toInCall.ns,λi y v I g U=>?_⟩,λy c h=>⟨_,x.cell y c h⟩,j.iC.fresh (aC _),λy c h=>?_,λp C=>absurd (show p∈([]) from C) (by simp),j.iC.kept J,?_⟩
 .exact name_of_addr x.apart (PySem.mem_of_lookup I) (PySem.mem_of_lookup g)
 .rcases B with B|B
  .exact IA B
  .exact absurd rfl (S.aby _ (PySem.mem_of_lookup B))
 .exact c7 (x.above y c (PySem.mem_of_lookup h))
 .have hi:i<n.length:=by
   unfold start at g;by_cases hi:i<n.length
   .exact hi
   .rw[cz (by simpa using hi)] at g;rw[List.getElem?_replicate] at g;split at g<;>cases g
  have ha:n[i]?=aa v:=by
   unfold start at g;rw[bB (by simpa using hi),bn] at g;cases e:n[i]? with
   |none=>rw[e] at g;cases g
   |some a=>rw[e] at g;cases g;rfl
  obtain⟨u,L,O⟩:=r.get ha;have C:o[i]?=aa y:=by rw[<-S.pre,List.getElem?_take_of_lt (by lia)];exact I
  have G:o.Nodup:=by rw[<-S.pre];exact S.nd.sublist (List.take_sublist _ _)
  refine⟨u,O,?_⟩;rcases S.par y (aS C) with k|k
  .exact .inl ⟨k,Fo G C L k⟩
  .obtain⟨c,e⟩:=IA k;refine .inr ⟨.inl k,c,e,?_⟩;have q:=x.cell y c e;rw[Fp G C L (by show scope.names.lookup y≠_;rw[k];decide)] at q;exact q
 .exact j.iC.fresh (c7 (x.above y c (PySem.mem_of_lookup h)))
 .unfold start;show _=N.length;rw[aD,ak,List.length_replicate];omega
def Sr{K:af}{G kV doc pm ik ct oc:ah}
(lk:K.lookup f=aa ⟨oc,od,.func (dk name qual params body scope G kV doc pm an ik ct),IB⟩)(T:W.codeIn K ik qual=ai)(S:ju N j scope)
(len:∀c H Q E,sp c H Q E->c.length=j.length)
(U:∀(A:bq) (cv:List gq) (s:aq) (H:Hp) (c:List V) (Q:VK) (E:XK),iV k (A.deeper (dY qual scope s.heap.objs.size f ik))->sp c H Q E->
   ∃t,wX (rK m P w K mg cq N qual scope f ik A cv s H E) body t/\t {nx:=λ_ a=>Q .non a,rt:=Q} (start N c) H):
  jo P w K mg cq m (k+1) f (dk name qual params body scope G kV doc pm an ik ct) j sp:=by
 refine⟨len,λA cv s H args us c Q E p h hb r L=>?_⟩;have Y:=len _ _ _ _ L;have M:=h.mod.RW.keeps λb o e=>(h.bs b o e).1;have z:=h.mod.nolimit.keeps λb o e=>(h.bs b o e).1;have Ss:∀y∈j.zip us,scope.names.lookup y.1=aa .local\/(scope.names.lookup y.1=aa .cell/\((akN (s.heap.objs.size+1) _ []).lookup y.1).isSome=ai):=λ⟨n,v⟩ hy=>by
  rcases S.par n (gb hy).1 with q|q
  .exact .inl q
  .exact .inr ⟨q,W.cellsFrom_some _ _ _ (.inl q)⟩
 refine codeAny_call_function p.depth (M _ _ lk) rfl S.co S.gen rfl (W.codeRec_of M T) (hb _ _ _ _ ?_);refine aky S.kind Ss λenv he s1 x=>?_;subst he;refine⟨z.keeps x.toInCall.keep,codeAny_func ?_⟩;obtain⟨t,ht,hq⟩:=U A cv s H c Q E (p.deeper _) L;have I:Inv (rK m P w K mg cq N qual scope f ik A cv s H E) [] _ H s1:=Fq S p.hd h Y r x;refine cc (ht [] s1 _ H _ I hq) (λfl B g=>?_) λe B g=>g;have O:∀{i:St} {a:Hp} {v:V} {u:ah},Inv (rK m P w K mg cq N qual scope f ik A cv s H E) [] i a B->RelV v u->Q v a->CE cv P w H s Q u B:=
  λ{i a v u} J C q=>⟨v,a,J.os,J.bare,J.cq,J.iC,C,q⟩
 cases fl with
 |ret u=>
  obtain⟨v,i,a,J,C,q⟩:=g;exact O J C q
 |next=>
  obtain⟨i,a,J,q⟩:=g;exact O (v:=V.non) J rfl q
 |brk=>
  obtain⟨_,_,_,q⟩:=g;exact b9 q
 |cont=>
  obtain⟨_,_,_,q⟩:=g;exact b9 q
section
variable {X:Cx} {x:aB} {t:TA} {id:String}
def tCB (r:List V->Hp->VK->Prop)(t:TA):TE:=λb H Q=>t b H λa H1=>r a H1 Q
def Cd(hc:nz X (.builtin id) r)(a:Gl X x)(hm:X.mg x=am)(b:bR x=aa (.builtin id))(ha:PA X (e::es) t)(hn:x≠jD:=by decide)(qH:(x==(dV:aB))=ao:=by decide)
(he:aV (e::es) X.env=(ao,eval e X.env)::aV es X.env:=by rfl)(sC:(cO pos (aV es X.env)).any (·.1)=ao:=by rfl):PE X (.Call (.Name x p) (e::es) [] pos) (tCB r t):=by intro cf s j H Q I h;refine c8 (wZ I a hm b ?_ hn qH);exact PyProof.Rows.callWith_builtin1 (jB (ha pos cf s j H _ I h) λus s1 zq=>by obtain⟨c,H1,f,g,i⟩:=zq;exact hc cf s1 j H1 c us Q f g i) he sC
def zp(hc:nz X (.type T) r)(a:Gl X x)(hm:X.mg x=am)(b:bR x=aa (.type T))(ha:PA X (e::es) t)(hn:x≠jD:=by decide)(qH:(x==(dV:aB))=ao:=by decide)
(he:aV (e::es) X.env=(ao,eval e X.env)::aV es X.env:=by rfl)(sC:(cO pos (aV es X.env)).any (·.1)=ao:=by rfl):PE X (.Call (.Name x p) (e::es) [] pos) (tCB r t):=by intro cf s j H Q I h;refine c8 (wZ I a hm b ?_ hn qH);exact dX (jB (ha pos cf s j H _ I h) λus s1 zq=>by obtain⟨c,H1,f,g,i⟩:=zq;exact hc cf s1 j H1 c us Q f g i) he sC
end
section
variable {κ:Type} [DecidableEq κ]
noncomputable def rM(a:List (κ×V))(k:κ):Option V:=(a.find? λb=>decide (b.1=k)).map (·.2)
noncomputable def qI(b:List (κ×V))(k:κ)(v:V):List (κ×V):=
 if(b.any λa=>decide (a.1=k))=ai then b.map (λa=>if a.1=k then(a.1,v) else a) else b++[(k,v)]
def x9{k:κ}(e:p.1=k):rM (p::r) k=aa p.2:=by simp[rM,e]
def yb{k:κ}(e:¬p.1=k):rM (p::r) k=rM r k:=by simp[rM,e]
theorem IC(k:κ):∀a:List _,(a.any λb=>decide (b.1=k))=(rM a k).isSome
 |[]=>rfl
 |p::r=>by
  rw[dN];by_cases e:p.1=k
  .simp only [x9 e,decide_eq_true e,Bool.true_or,Option.isSome_some]
  .rw[yb e,decide_eq_false e];exact IC k r
def uV(a:List _)(k:κ)(v:V):(qI a k v).length<=a.length+1:=by
 unfold qI;split
 .rw[ak];lia
 .rw[aD,aQ,bE];lia
def rH.sF(r:rH o u):o.isSome=u.isSome:=by
 cases o with
 |none=>cases u with
  |none=>rfl
  |some _=>exact(r).elim
 |some _=>cases u with
  |none=>exact(r).elim
  |some _=>rfl
theorem rH.getD{o:Option V}{u:Option ah}{d:V}{a:ah}(r:rH o u)(rd:RelV d a):RelV (o.getD d) (u.getD a):=by
 cases o with
 |none=>cases u with
  |none=>exact rd
  |some _=>exact(show False from r).elim
 |some _=>cases u with
  |none=>exact(show False from r).elim
  |some _=>exact r
def KV.val(r:KV f g)(k:κ):rH (rM f k) (fY g k):=by
 induction r with
 |nil=>exact dg
 |@cons p q m a h t i=>
  obtain⟨c,j⟩:=h;by_cases e:p.1=k
  .have e':=c.symm.trans e;have b:fY (q::a) k=aa q.2:=by simp[fY,e']
   rw[x9 e,b];exact j
  .have e':¬q.1=k:=λz=>e (c.trans z);have b:fY (q::a) k=fY a k:=by simp[fY,e']
   rw[yb e,b];exact i
theorem KV.any(r:KV b c)(k:κ):(b.any λa=>decide (a.1=k))=c.any λa=>decide (a.1=k):=by
 induction r with
 |nil=>rfl
 |cons h t e=>rw[dN,dN,e,h.1]
def KV.abz(r:KV c f)(k:κ)(g:RelV y u):
  KV (c.map λa=>if a.1=k then(a.1,y) else a) (f.map λa=>if a.1=k then(a.1,u) else a):=by
 induction r with
 |nil=>exact .nil
 |@cons p q m n h t i=>
  rw[aZ,aZ];refine .cons ?_ i;obtain⟨b,j⟩:=h;by_cases e:p.1=k
  .rw[if_pos e,if_pos (b.symm.trans e)];exact⟨b,g⟩
  .rw[if_neg e,if_neg (λz=>e (b.trans z))];exact⟨b,j⟩
def KV.put(r:KV c a)(k:κ)(b:RelV y u):KV (qI c k y) (stored a k u):=by
 unfold qI stored;rw[r.any k];by_cases e:(a.any λf=>decide (f.1=k))=ai
 .rw[if_pos e,if_pos e];exact r.abz k b
 .rw[if_neg e,if_neg e];exact Paired.snoc r ⟨rfl,b⟩
theorem KV.length{a:List (κ×V)}(r:KV a b):a.length=b.length:=Paired.length r
end
def Au(r:RelV (kV k) u):(iM P w).is k u=ai:=by
 cases k with
 |inl i=>obtain⟨t,e⟩:=(r);subst e;exact Ip P w i t
 |inr x=>obtain⟨t,e⟩:=(r);subst e;exact Iq P w x t
theorem Fs:∀{a:List Key} {us:List ah},Vals (a.map kV) us->ItemsAre (iM P w) a us
 |[],_,r=>by cases r;exact .nil
 |k::a,_,r=>by
  cases r with
  |cons h t=>exact .cons (Au h) (Fs t)
abbrev KT(H:Hp):List (List Key×V)->List (List Key×ar×ah)->Prop:=Paired λp q=>p.1=q.1/\H q.2.1=aa (.tup (p.1.map kV))/\RelV p.2 q.2.2
def KT.val(r:KT H f xs)(k:List Key):rH (rM f k) ((akO xs k).map (·.2)):=by
 induction r with
 |nil=>exact dg
 |@cons p q j a h t g=>
  obtain⟨c,_,i⟩:=h;by_cases e:p.1=k
  .have e':=c.symm.trans e;have b:akO (q::a) k=aa q.2:=by simp[akO,e']
   rw[x9 e,b];exact i
  .have e':¬q.1=k:=λz=>e (c.trans z);have b:akO (q::a) k=akO a k:=by simp[akO,e']
   rw[yb e,b];exact g
def KT.abz(r:KT H f xs)(k:List Key)(g:RelV y u):
  KT H (f.map λb=>if b.1=k then(b.1,y) else b) (xs.map (putAt k u)):=by
 induction r with
 |nil=>exact .nil
 |@cons p q m n h t i=>
  rw[aZ];refine .cons ?_ i;obtain⟨a,c,j⟩:=h;unfold putAt;by_cases e:p.1=k
  .rw[if_pos e,if_pos (a.symm.trans e)];exact⟨a,c,g⟩
  .rw[if_neg e,if_neg (λz=>e (a.trans z))];exact⟨a,c,j⟩
def KT.put(r:KT H a xs)(k:List Key)(hb:H b=aa (.tup (k.map kV)))(c:RelV y u):
  KT H (qI a k y) (storedH xs k b u):=by
 have e:(a.any λf=>decide (f.1=k))=(akO xs k).isSome:=by rw[IC,(r.val k).sF,gF]
 unfold qI storedH;rw[e];by_cases q:(akO xs k).isSome=ai
 .rw[if_pos q,if_pos q];exact r.abz k c
 .rw[if_neg q,if_neg q];exact Paired.snoc r ⟨rfl,hb,c⟩
def KT.keeps(r:KT H c xs)(ht:∀b a,H b=aa (.tup a)->e b=aa (.tup a)):KT e c xs:=
 Paired.aa0 r λ_ _ z=>⟨z.1,ht _ _ z.2.1,z.2.2⟩
section
variable {h:aw}
def ZU(ok:sy P w H h)(e:Rd H a u):jq P w H h a u:=e.ok ok
def Av(ok:sy P w H h)(e:Rd H a (.dK b)):b.length<=az/\(a==cW)=ao/\∃c,KV b c/\h.DictOf (iM P w) a c:=
 ZU ok e
def Su(ok:sy P w H h)(e:H a=aa (.dK b)):b.length<=az/\(a==cW)=ao/\∃c,KV b c/\h.DictOf (iM P w) a c:=Av ok (.inl e)
def Ce(ok:sy P w H h)(e:H a=aa (.tup (b.map kV))):(akj (iM P w)).is h b a:=by obtain⟨_,ig,r,o,c,f,n,g⟩:=(ok a _ e);exact⟨o,ig.toArray,n,c,f,g,by simpa using Fs r⟩
def ID(ok:sy P w H h)(e:Rd H a (.dT c)):c.length<=az/\(a==cW)=ao/\
  ∃xs,KT H c xs/\h.DictOfH (akj (iM P w)) a xs:=by
 obtain⟨z,y,xs,r,o,es,g,i,j,n,u,v⟩:=(ZU ok e);refine⟨z,y,xs,r,o,es,g,i,j,n,u,λx b=>?_,v⟩;have all:∀{l:List _} {m:List _},KT H l m->∀x∈m,(akj (iM P w)).is h x.1 x.2.1:=by
  intro l m q;induction q with
  |nil=>intro x b;exact nomatch b
  |@cons p q B C f t A=>
   intro x b;rcases aN.mp b with e|b
   .subst e;exact Ce ok (by rw[<-f.1];exact f.2.1)
   .exact A x b
 exact all r x b
def aeR(ok:sy P w H h)(e:H a=aa (.dT b)):b.length<=az/\(a==cW)=ao/\
  ∃xs,KT H b xs/\h.DictOfH (akj (iM P w)) a xs:=ID ok (.inl e)
end
def yc (H:Hp)(a:ar)(y:V)(r:Option V):Prop:=
 (∃c k,Rd H a (.dK c)/\y=kV k/\r=rM c k)\/∃c k b,Rd H a (.dT c)/\y=.ref b/\H b=aa (.tup (k.map kV))/\r=rM c k
def LB (H:Hp)(a:ar)(y v:V)(e:Hp):Prop:=
 (∃c k,H a=aa (.dK c)/\y=kV k/\c.length<az/\e=upd H a (.dK (qI c k v)))\/
 ∃c k b,H a=aa (.dT c)/\y=.ref b/\H b=aa (.tup (k.map kV))/\c.length<az/\e=upd H a (.dT (qI c k v))
theorem yc.k{H:Hp}{a:ar}{b:List (Key×V)}{k:Key}(e:H a=aa (.dK b)):yc H a (kV k) (rM b k):=.inl ⟨b,k,.inl e,rfl,rfl⟩
def yc.t{H:Hp}{a b:ar}{c:List (List Key×V)}{k:List Key}(e:H a=aa (.dT c))(f:H b=aa (.tup (k.map kV))):yc H a (.ref b) (rM c k):=.inr ⟨c,k,b,.inl e,rfl,f,rfl⟩
theorem LB.k{k:Key}(e:H a=aa (.dK b))(c:b.length<az):LB H a (kV k) v (upd H a (.dK (qI b k v))):=.inl ⟨b,k,e,rfl,c,rfl⟩
def LB.t{H:Hp}{a b:ar}{c:List (List Key×V)}{k:List Key}{v:V}(e:H a=aa (.dT c))(f:H b=aa (.tup (k.map kV)))(g:c.length<az):
  LB H a (.ref b) v (upd H a (.dT (qI c k v))):=.inr ⟨c,k,b,e,rfl,f,g,rfl⟩
section
variable {X:Cx} {s:aq} {o:Option V} {A:bq}
def Inv.big(I:Inv X cf σ H s):cW<s.heap.objs.size:=by have h:=(I.mod.glob.keeps I.bk).lt;exact ajy (by decide) h
def PD(q:A.units+1<gw)(I:Inv X cf r H s)(g:yc H a y (aa v))(m:RelV y u)(h:∀c n,Inv X cf r H n->RelV v c->Q c n):
  wpAny (model X.prog X.w) A (ajO (.ref a) u) Q E s:=by
 rcases g with⟨B,k,e,f,l⟩|⟨B,k,b,e,f,C,l⟩
 .subst f;obtain⟨z,hd,J,rel,dd⟩:=Av I.iC e;obtain⟨c,hw,i⟩:=rH.some_of (by rw[l];exact rel.val k);exact wpAny_getItem_of (Au m) dd.mapOf hw (h c _ (I.tok _) i)
 .subst f;cases(m);obtain⟨z,hd,xs,rel,dd⟩:=ID I.iC e;obtain⟨c,hw,i⟩:=rH.some_of (by rw[l];exact rel.val k);obtain⟨p,G,j⟩:=Option.map_eq_some_iff.mp hw;refine wpAny_getItem_heap (aji q) (Ce I.iC C) dd G ?_;rw[j];exact h c _ (I.tok _) i
def ahU(j:A.units+1<gw)(I:Inv X cf r H s)(g:yc H a y o)(f:RelV y u)(h:∀i,Inv X cf r H i->Q (.bool o.isSome) i):
  wpAny (model X.prog X.w) A (compareOp .In u (.ref a)) Q E s:=by
 rcases g with⟨m,k,e,c,l⟩|⟨m,k,b,e,c,n,l⟩
 .subst c;obtain⟨z,hd,p,rel,dd⟩:=Av I.iC e;refine wpAny_in_of (Au f) hd dd.mapOf ?_;rw[<-(rel.val k).sF,<-l];exact h _ (I.tok _)
 .subst c;cases(f);obtain⟨z,hd,xs,rel,dd⟩:=ID I.iC e;refine wpAny_in_heap (aji j) (Ce I.iC n) hd dd ?_;have q:=(rel.val k).sF;rw[gF] at q;rw[<-q,<-l];exact h _ (I.tok _)
def WM(j:A.units+1<gw)(I:Inv X cf r H s)(g:yc H a y o)(f:RelV y u)(h:∀i,Inv X cf r H i->Q (.bool (!o.isSome)) i):
  wpAny (model X.prog X.w) A (compareOp .NotIn u (.ref a)) Q E s:=by
 rcases g with⟨m,k,e,c,l⟩|⟨m,k,b,e,c,n,l⟩
 .subst c;obtain⟨z,hd,p,rel,dd⟩:=Av I.iC e;refine wpAny_notIn_of (Au f) hd dd.mapOf ?_;rw[<-(rel.val k).sF,<-l];exact h _ (I.tok _)
 .subst c;cases(f);obtain⟨z,hd,xs,rel,dd⟩:=ID I.iC e;refine wpAny_notIn_heap (aji j) (Ce I.iC n) hd dd ?_;have q:=(rel.val k).sF;rw[gF] at q;rw[<-q,<-l];exact h _ (I.tok _)
def Bo(I:Inv X cf i H s)(e:Mut (H a))(f:bM a s.heap c)(g:∃q,c.get? a=aa q)(new:jq X.prog X.w (upd H a ob) c a ob):
  Inv X cf i (upd H a ob) {s with heap:=c,toks:=h}:=
 I.write e (.inl rfl) (λb q hb z=>(f.2 b hb).trans z) g new
def Gq(z:b.length<=az)(hd:(a==cW)=ao)(rel:KV b c)(dd:e.DictOf (iM P w) a c):
  jq P w f e a (.dK b):=⟨z,hd,c,rel,dd⟩
def PF(T:A.units+1<gw)(I:Inv X cf F H s)(g:LB H a y v U)(C:RelV y u)(G:RelV v r)(h:∀J,Inv X cf F U J->Q () J):
  wpAny (model X.prog X.w) A (alo (.ref a) u r) Q E s:=by
 rcases g with⟨f,k,e,m,l,n⟩|⟨f,k,b,e,m,L,l,n⟩
 .subst m n;obtain⟨z,hd,Y,rel,dd⟩:=Su I.iC e;have M:Y.length<=az:=by rw[<-rel.length];exact z
  have p:(qI f k v).length<=az:=by have:=uV f k v;lia
  refine wpAny_setItem_pairs (hsz:=M) (Au C) dd λN i B=>h _ ?_;have he:∃q,N.get? a=aa q:=let⟨q,_,_,j,_⟩:=i;⟨q,j⟩;exact Bo I (by rw[e];exact dg) B he (Gq p hd (rel.put k G) i)
 .subst m n;cases(C);obtain⟨z,hd,xs,rel,dd⟩:=aeR I.iC e;have M:xs.length<=az:=by rw[<-Paired.length rel];exact z
  have p:(qI f k v).length<=az:=by have:=uV f k v;lia
  refine wpAny_setItem_heap (aji T) (Ce I.iC L) dd λN i B=>h _ ?_;obtain⟨q,es,ep,j,h2,h3,h4,_,h5⟩:=i;refine Bo I (by rw[e];exact dg) B ⟨q,j⟩ ⟨p,hd,_,(rel.put k L G).keeps λc ys O=>?_,q,es,ep,j,h2,h3,h4,h5⟩;rw[gR (aew O e (λz=>nomatch z))];exact O
end
section
variable {X:Cx} {s:aq} {g8:List (Key×V)} {k:Key}
def aeS(I:Inv X cf f H s)(e:Rd H a (.dK g8))(h:∀t b,Inv X cf f H b->Q (.int g8.length t) b):wpAny (model X.prog X.w) A (call (.builtin kI) [.ref a]) Q E s:=by obtain⟨z,hd,c,rel,dd⟩:=Av I.iC e;refine call_len_dict hd dd (by rw[<-rel.length];rw[bD] at z;lia) ?_;rw[<-rel.length];exact h _ _ (I.tok _)
end
def IF(I:Inv X cf h H s)(g:yc H a y o):s.TypeIs (.ref a) fe:=by
 rcases g with⟨c,k,e,_,_⟩|⟨c,k,b,e,_,_,_⟩
 .obtain⟨_,_,f,_,dd⟩:=Av I.iC e;exact dd.typeIs
 .obtain⟨_,_,xs,_,dd⟩:=ID I.iC e;exact dd.typeIs
def aeT (td ty c:TE):TS:=λD g H=>c g H λv H1=>td g H1 λx e=>ty g e λy f=>∃a b,x=.ref a/\LB f a y v b/\D.nx g b
section
variable {X:Cx} {pos:dA}
def WN(b:X.A.units+1<gw)(c:PE X o td)(hi:PE X i ty)(f:PE X value tv)(j:c5 value (aa (.Subscript o i rJ)) pos.line X.env=pure ao):
  PS X (.Assign [.Subscript o i rJ] value pos) (aeT td ty tv):=by intro cf s e H D I h;refine wpAny_Assign_Subscript (jB (f cf s e H _ I h) λr s1 ⟨v,H1,m,n,p⟩=>jB (c cf s1 e H1 _ m p) λu s2 ⟨x,q,w,z,B⟩=>jB (hi cf s2 e q _ w B) λM s3 zq=>?_) j;obtain⟨y,N,C,E,a,G,ex,g,J⟩:=zq;subst ex;obtain rfl:u=bI a:=z;exact PF b C g E n λO L=>⟨e,G,L,J⟩
end
def IG(h:aw)(hb:cW<h.objs.size):jq P w H (h.push {cls:=.type fe,data:=.dict #[]}) h.objs.size (.dK []):=
 ⟨bu _,beq_eq_false_iff_ne.mpr (ci (bg hb)),[],.nil,aw.DictOf.new h⟩
def abA:TE:=λ_ H Q=>∀p,H p=am->Q (.ref p) (upd H p (.dK []))
def Sv:PE X (.Dict [] [] pos) abA:=λcf s a H Q I h=>
 wpAny_Dict_empty ⟨.ref _,_,I.laid (λ_ _ q=>aj _ q) (aC _) (IG s.heap I.big),rfl,h _ (I.iC.fresh (aC _))⟩
def Gr:List (TE×TE)->St->Hp->(List (V×V)->Hp->Prop)->Prop
 |[],_,H,Q=>Q [] H
 | (tk,a)::r,f,H,Q=>tk f H λx H1=>a f H1 λy b=>Gr r f b λc e=>Q ((x,y)::c) e
abbrev VV:List (V×V)->List (ah×ah)->Prop:=Paired λp q=>RelV p.1 q.1/\RelV p.2 q.2
def PPs (X:Cx)(pos:dA)(keys:List (Option bv))(values:List bv)(c:List (TE×TE)):Prop:=
 ∀(cf:List (ar×cn)) (s:aq) (g:St) (H:Hp) (Q:List (V×V)->Hp->Prop),Inv X cf g H s->Gr c g H Q->
  wpAny (model X.prog X.w) X.A (evalPairs (pairTrees keys values X.env pos)) (λe f=>∃a b,Inv X cf g b f/\VV a e/\Q a b) X.xe s
def WO{X:Cx}{pos:dA}:PPs X pos [] [] []:=λcf s a H Q I h=>pairTrees_nil_walk ⟨[],H,I,.nil,h⟩
def Sw{X:Cx}{pos:dA}{k v:bv}{a:List (Option bv)}{b:List bv}{tk c:TE}{e:List (TE×TE)}(f:PE X k tk)(g:PE X v c)(i:PPs X pos a b e):
  PPs X pos (aa k::a) (v::b) ((tk,c)::e):=λcf s E H Q I h=>
 pairTrees_cons_walk (jB (f cf s E H _ I h) λu s1 ⟨x,H1,j,m,n⟩=>jB (g cf s1 E H1 _ j n) λC s2 ⟨y,o,p,q,r⟩=>
  jB (i cf s2 E o _ p r) λws s3 zq=>by obtain⟨w,z,A,rel,B⟩:=zq;exact ⟨(x,y)::w,z,A,.cons ⟨m,q⟩ rel,B⟩)
noncomputable def uW(b more:List (Key×V)):List (Key×V):=more.foldl (λacc a=>qI acc a.1 a.2) b
def KV.merge:∀{more:List (Key×V)} {rs:List (Key×ah)} {a:List (Key×V)} {b:List (Key×ah)},KV more rs->KV a b->KV (uW a more) (merged b rs):=by
 intro more rs a b r;unfold KV at r;induction r generalizing a b with
 |nil=>intro q;exact q
 |@cons p q g i h t c=>
  intro f;have e:KV (qI a p.1 p.2) (stored b q.1 q.2):=by have:=f.put p.1 h.2;rw[<-h.1];exact this
  exact c e
theorem wK:∀(more a:List (Key×V)),(uW a more).length<=a.length+more.length
 |[],a=>by show a.length<=a.length+0;lia
 |p::r,a=>by have b:=wK r (qI a p.1 p.2);have c:=uV a p.1 p.2;show(uW (qI a p.1 p.2) r).length<=_;rw[aQ];lia
theorem Cf{P:aP}{w:bt}:∀{e:List (Key×V)} {ws:List (ah×ah)},VV (e.map λf=>(kV f.1,f.2)) ws->∃rs,Carries (iM P w) ws rs/\KV e rs
 |[],_,r=>by rw[ajs] at r;cases r;exact⟨[],dg,.nil⟩
 |p::e,_,r=>by
  rw[aZ] at r;cases r with
  |@cons a b as bs h t=>
   obtain⟨rs,c,q⟩:=Cf (P:=P) (w:=w) t;obtain⟨b1,b2⟩:=b;exact⟨(p.1,b2)::rs,⟨Au h.1,rfl,c⟩,.cons ⟨rfl,h.2⟩ q⟩
def aeU (e:List (TE×TE)):TE:=λg H Q=>∀p,H p=am->Gr e g (upd H p (.dK [])) λf b=>b p=aa (.dK [])/\∃a:List (Key×V),f=a.map (λc=>(kV c.1,c.2))/\a.length<=15/\Q (.ref p) (upd b p (.dK (uW [] a)))
def WP{X:Cx}{pos:dA}{keys:List (Option bv)}{values:List bv}{f:List (TE×TE)}(h:PPs X pos keys values f)(n:keys.all (·.isSome)=ai)(p:keys.length=values.length)(r:keys≠[])
(b:keys.length<=15):PE X (.Dict keys values pos) (aeU f):=by
 intro cf s F H Q I q;have hn:=I.iC.fresh (aC s.heap.objs.size);have u:=I.laid (a:=s.heap.objs.size) (o:=.dK []) (h':=s.heap.push {cls:=.type fe,data:=.dict #[]}) (t':=s.toks) (λ_ _ q=>aj _ q) (aC _) (IG s.heap I.big);refine wpAny_Dict_walk (knd:=iM X.prog X.w) n p r b (jB (h cf _ F _ _ u (q _ hn)) λws s2 v=>?_);obtain⟨T,U,i,rel,e,j,y,lk,A⟩:=v;subst y;obtain⟨rs,c,B⟩:=Cf (P:=X.prog) (w:=X.w) rel;obtain⟨z,hd,C,E,dd⟩:=Su i.iC e;cases E;refine⟨rs,c,dd,λg m G=>⟨.ref s.heap.objs.size,_,?_,rfl,A⟩⟩;have J:(uW [] j).length<=az:=by have L:=wK j [];rw[bE] at L;rw[bD];lia
 have M:∃q,g.get? s.heap.objs.size=aa q:=let⟨q,_,_,N,_⟩:=m;⟨q,N⟩;exact Bo i (by rw[e];exact dg) G M (Gq J hd (B.merge .nil) m)
structure M1(X:Cx)(o:bv)(m:aB)(apos:dA)(e:bv)(i6:dA):Prop where
 cq:cM o m X.env (eval o X.env)=eval o X.env
 few:((cO i6 (aV [e] X.env)).all (λx=>!x.1)&&(ajE i6 (eF [] X.env)).all (λx=>x.1.isSome)
  &&decide (([e]:List bv).length+([]:List ajN).length+(if([]:List ajN).isEmpty then 0 else 1)<30))=ai
 line:(apos.endLine==i6.line)=ai
 trees:cO i6 (aV [e] X.env)=[(ao,eval e X.env)]
structure M2(X:Cx)(o:bv)(m:aB)(apos:dA)(e f:bv)(i6:dA):Prop where
 cq:cM o m X.env (eval o X.env)=eval o X.env
 few:((cO i6 (aV [e,f] X.env)).all (λx=>!x.1)&&(ajE i6 (eF [] X.env)).all (λx=>x.1.isSome)
  &&decide (([e,f]:List bv).length+([]:List ajN).length+(if([]:List ajN).isEmpty then 0 else 1)<30))=ai
 line:(apos.endLine==i6.line)=ai
 trees:cO i6 (aV [e,f] X.env)=[(ao,eval e X.env),(ao,eval f X.env)]
section
variable {s:aq} {d:V}
end
section
variable {s:aq}
end
section
variable {s:aq}
end
end L2
end
namespace HT
open PySem PyProof.Rows
section
open PySem.SeqAt
open PySem.AutoSeq1 (wpAny_loadPart')
open PySem.MeetsSeq PySem.MeetsSeq2 PySem.MeetsSeq3
end
section
variable {prog:aP} {s:aq}
def WQ(ht:aj4 s.heap t c.toArray)(hb:aj4 s.heap b ws.toArray)(m:c≠[])
(o:ws=[]->Q (.ref t) s)(p:ws≠[]->Q (.ref s.heap.objs.size) {s with heap:=s.heap.push {cls:=.type dy,data:=.seq (c++ws).toArray}})
(q:c.length+ws.length<=az):wpAny (model prog w) A (binaryOp .Add (.ref t) (.ref b)) Q E s:=by
 obtain⟨⟨cls,dd,data,sl⟩,j,hc,n,hd⟩:=id ht;obtain⟨⟨r,f,data2,g⟩,a,h,n2,i⟩:=id hb;simp only at hc hd h i;subst hc hd h i;have e:c.toArray++ws.toArray=(c++ws).toArray:=by simp
 by_cases hw:ws=[]
 .exact concat_meets ⟨_,j,rfl⟩ ⟨_,a,rfl⟩ alG alX PySem.F.slot_tuple_add PySem.F.entry_tuple_add (PySem.F.args_tuple_add_2 _ _)
   (tuple_addW1 t b _ _ n n2 dd f sl g (by simpa using m) (by simp[hw])) ⟨j,a,o hw⟩
 .refine concat_meets ⟨_,j,rfl⟩ ⟨_,a,rfl⟩ alG alX PySem.F.slot_tuple_add PySem.F.entry_tuple_add (PySem.F.args_tuple_add_2 _ _)
   (tuple_addW2 t b _ _ n n2 dd f sl g (by simpa using m) (by simpa using hw) (by exact q)) ⟨j,a,?_⟩
  rw[e];exact p hw
noncomputable def oQ(n d:Nat):Option Int->Nat
 |none=>d
 |some v=>if v<0 then(v+(n:Int)).toNat else min v.toNat n
def IH(n d:Nat):oQ n d am=d:=rfl
def Bp(n d k:Nat):oQ n d (aa (k:Int))=min k n:=by show(if(k:Int)<0 then((k:Int)+(n:Int)).toNat else min _ n)=min k n;rw[if_neg (by lia),fN]
def ahV(n d:Nat)(hd:d<=n)(o:Option Int):oQ n d o<=n:=by
 cases o with
 |none=>exact hd
 |some v=>
  show(if v<0 then(v+(n:Int)).toNat else min v.toNat n)<=n;by_cases a:v<0
  .rw[if_pos a];lia
  .rw[if_neg a];exact Nat.min_le_right _ _
def NP(v:Int)(n d:Nat):(if v<0 then max (v+(n:Int)) 0 else min v (n:Int))=((oQ n d (aa v):Nat):Int):=by
 show(if v<0 then max _ 0 else min v _)=(((if v<0 then(v+(n:Int)).toNat else min v.toNat n):Nat):Int);by_cases a:v<0
 .simp only [if_pos a];lia
 .simp only [if_neg a];lia
def LC(lo hi:Option Int)(n:Nat):bU.Slice.sliceAdjust lo hi 1 (n:Int)=(((oQ n 0 lo:Nat):Int),((oQ n n hi:Nat):Int)):=by
 refine Prod.ext ?_ ?_
 .cases lo with
  |none=>rfl
  |some v=>exact NP v n 0
 .cases hi with
  |none=>rfl
  |some v=>exact NP v n n
def LD(i j:Nat):fZ (i:Int) (j:Int) 1=j- i:=by unfold fZ;split<;>lia
def Cg(p:akn v o)(h:Q o s):wpAny (model prog w) A (bU.Slice.slicePartIndex v) Q E s:=by
 cases p with
 |none=>exact alO h
 |int i t=>exact slicePart_int h
def zr{lo hi:Option Int}{n:Nat}(f:s.heap.IsSliceOf sl c e .none)(pl:akn c lo)(g:akn e hi)
(h:Q (((oQ n 0 lo:Nat):Int),1,oQ n n hi- oQ n 0 lo) s):wpAny (model prog w) A (bU.Slice.sliceApplied (.ref sl) (pure (n:Int))) Q E s:=by obtain⟨os,a,i,b⟩:=id f;refine ae (ae (cm a b (x:=c) rfl (ae (cm a b (x:=e) rfl (ae (cm a b rfl (av ?_)))))));refine ae (alO ?_);refine ae (Cg pl (ae (Cg g (ae (av ?_)))));show wpAny _ _ (match bU.Slice.sliceAdjust lo hi 1 _ with|(lo,hi)=>pure (lo,(1:Int),fZ lo hi 1)) _ _ s;rw[LC lo hi n];show wpAny _ _ (pure _) _ _ s;rw[LD];exact av h
def Sx(xs:Array ah)(i k:Nat):((bY k).filterMap λ(m:Nat)=>xs[((i:Int)+(m:Int)*1).toNat]?).toArray=((xs.toList.drop i).take k).toArray:=by
 have e:(λ(m:Nat)=>xs[((i:Int)+(m:Int)*1).toNat]?)=λm=>xs[i+m]?:=by
  funext m;have:((i:Int)+(m:Int)*1).toNat=i+m:=by lia
  rw[this]
 rw[e];have:=pick_run xs i k;rw[List.filterMap_map] at this;have e2:((λx=>xs[x]?)∘λx=>i+x)=λm=>xs[i+m]?:=rfl;rw[e2] at this;rw[this]
def yd{lo hi:Option Int}(ht:aj4 s.heap t items)(g:s.heap.IsSliceOf sl i j .none)(pl:akn i lo)(m:akn j hi)
(hw:¬(oQ items.size 0 lo=0/\oQ items.size items.size hi=items.size))
(h:Q (.ref s.heap.objs.size) {s with heap:=s.heap.push {cls:=.type dy,data:=.seq ((items.toList.drop (oQ items.size 0 lo)).take (oQ items.size items.size hi- oQ items.size 0 lo)).toArray}})
(o:items.size<=az):wpAny (model prog w) A (ajO (.ref t) (.ref sl)) Q E s:=by
 have a:=by show((items.toList.drop (oQ items.size 0 lo)).take (oQ items.size items.size hi- oQ items.size 0 lo)).toArray.size<=az;rw[aO,bW,dn,bT];lia
 obtain⟨os,b,c,n⟩:=id g;have e:s.TypeIs (.ref sl) "slice":=⟨os,b,c⟩;unfold ajO;try with_reducible refine bJ ?_
 refine ae (als ht.typeIs (by decide) ?_);refine ae (di ht.typeIs eY
  (cT eY ht.typeIs entry_tuple_getitem ?_ (args_tuple_getitem _ _)))
 show wpAny _ _ (bU.Tuple.tupleItemsOf (.ref t) >>= _) _ _ s;refine ae (tupleItemsOf_ ht ?_);refine ae (akW e ?_);refine ae (zr g pl m ?_);have f:¬((((oQ items.size 0 lo:Nat):Int)==0&&(1:Int)==1&&(oQ items.size items.size hi- oQ items.size 0 lo)==items.size)=ai):=by intro q;rw[aU,aU] at q;have p:=eq_of_beq q.1.1;have r:=eq_of_beq q.2;exact hw ⟨by lia,by lia⟩
 show wpAny _ _ (if(((oQ items.size 0 lo:Nat):Int)==0&&(1:Int)==1&&(oQ items.size items.size hi- oQ items.size 0 lo)==items.size)=ai then _ else _) _ _ s;rw[if_neg f,Sx];first
  |exact ae (ajt (av ⟨_,rfl,av h⟩) a)
  |exact ae _
  |exact ae _
  |exact ae _
end
end HT
section
open PySem PySem.Spec PyProof.Rows
namespace L2
abbrev TO:=St->Hp->(Option Int->Hp->Prop)->Prop
def PO (X:Cx)(e:Option bv)(t:TO):Prop:=
 ∀(cf:List (ar×cn)) (s:aq) (c:St) (H:Hp) (Q:Option Int->Hp->Prop),Inv X cf c H s->t c H Q->
  wpAny (model X.prog X.w) X.A (evalPart e X.env) (λu b=>∃o a,Inv X cf c a b/\akn u o/\Q o a) X.xe s
def WR:TO:=λ_ H Q=>Q am H
def aeW (t:TE):TO:=λa H Q=>t a H λx H1=>∃i,x=.int i/\Q (aa i) H1
section
variable {X:Cx} {lo:Option bv} {th:TO}
def WS:PO X am WR:=by intro cf s a H Q I h;exact av ⟨am,H,I,.none,h⟩
def WT(h:PE X e te):PO X (aa e) (aeW te):=by intro cf s g H Q I hw;refine jB (h cf s g H _ I hw) λu s1 a=>?_;obtain⟨x,H1,b,c,f⟩:=a;obtain⟨i,rfl,q⟩:=f;obtain⟨t,rfl⟩:=c;exact⟨aa i,H1,b,.int i t,q⟩
def Wb (X:Cx)(r:V->Option Int->Option Int->Hp->VK->Prop):Prop:=
 ∀(cf:List (ar×cn)) (s:aq) (c:St) (H:Hp) (x:V) (v a b:ah) (lo hi:Option Int) (sl:ar) (Q:VK),Inv X cf c H s->RelV x v->s.heap.IsSliceOf sl a b .none->akn a lo->akn b hi->r x lo hi H Q->
  ∃T id,alg (.type T) "__getitem__"=pure (aa (.builtin id))/\s.TypeIs v T/\wpAny (model X.prog X.w) X.A (ajO v (.ref sl)) (EP X cf c Q) X.xe s
def Wb.or(h:Wb X r)(i:Wb X j):Wb X (λx lo hi H Q=>r x lo hi H Q\/j x lo hi H Q):=by
 intro cf s σ H x v a b lo hi sl Q I c f pl g q;rcases q with q|q
 .exact h cf s σ H x v a b lo hi sl Q I c f pl g q
 .exact i cf s σ H x v a b lo hi sl Q I c f pl g q
def tSl (r:V->Option Int->Option Int->Hp->VK->Prop)(te:TE)(tl th:TO):TE:=λc H Q=>te c H λx H1=>tl c H1 λl a=>th c a λu b=>r x l u b Q
def Sy(i:Wb X r)(j:PE X e te)(m:PO X lo tl)(n:PO X hi th):PE X (.Subscript e (.Slice lo hi am p2) pos) (tSl r te tl th):=by intro cf s F H Q I h;refine alh (jB (j cf s F H _ I h) λv s1 a=>?_);obtain⟨x,H1,o,p,w⟩:=a;refine wpAny_Slice (jB (m cf s1 F H1 _ o w) λc s2 ⟨l,y,z,pl,A⟩=>jB (n cf s2 F y _ z A) λf s3 a=>?_);obtain⟨u,g,B,C,E⟩:=a;refine av ?_;have G:Inv X cf F g {s3 with heap:=s3.heap.push {cls:=.type "slice",data:=.fields #[c,f,.none]}}:=B.kept λb ob q=>aj _ q;obtain⟨T,id,J,ht,L⟩:=i cf _ F g x v c f l u _ Q G p (aw.IsSliceOf.new ..) pl C E;exact alP ht J L (by with_unfolding_all rfl)
noncomputable def PH(xs:List V)(lo hi:Option Int):List V:=(xs.drop (HT.oQ xs.length 0 lo)).take (HT.oQ xs.length xs.length hi- HT.oQ xs.length 0 lo)
def Aw(xs:List V)(lo hi:Option Int):(PH xs lo hi).length<=xs.length:=by unfold PH;rw[bW,dn];lia
def ahW (K:af):V->Option Int->Option Int->Hp->VK->Prop:=λx lo hi H Q=>∃a xs,x=.ref a/\w4 K H a xs/\
 ¬(HT.oQ xs.length 0 lo=0/\HT.oQ xs.length xs.length hi=xs.length)/\∀p,H p=am->Q (.ref p) (upd H p (.tup (PH xs lo hi)))
def abB:Wb X (ahW X.K):=by
 intro cf s e H x v n o lo hi sl Q I g i pl j h;obtain⟨a,xs,rfl,m,hw,q⟩:=h;cases g;obtain⟨ig,r,ht,f⟩:=I.tuple m;have c:ig.toArray.size=xs.length:=by exact r.length.symm
 refine⟨dy,_,eY.lookup,ht.typeIs,?_⟩;refine HT.yd ht i pl j (by rw[c];exact hw) ?_ (by rw[c];exact f);rw[c];refine⟨.ref _,_,I.laid (λb ob q=>aj _ q) (aC _) ?_,rfl,q _ (I.iC.fresh (aC _))⟩;exact⟨bh (Aw xs lo hi) f,_,(r.drop _).take _,aj4.new _ _⟩
def aeX (K:af):R2:=λx y H Q=>∃a b xs c,x=.ref a/\y=.ref b/\w4 K H a xs/\w4 K H b c/\xs≠[]/\xs.length+c.length<=az/\
 (c=[]->Q (.ref a) H)/\(c≠[]->∀p,H p=am->Q (.ref p) (upd H p (.tup (xs++c))))
def Vals.Gu(r:Vals xs us):us=[]↔xs=[]:=by
 cases r with
 |nil=>simp
 |cons _ _=>simp
def WU:sY X (binaryOp .Add) (aeX X.K):=by intro cf s e H x y v u Q I i j h;obtain⟨a,b,xs,r,rfl,rfl,ha,hb,m,g,n,o⟩:=h;cases i;cases j;obtain⟨ig,f,p,_⟩:=I.tuple ha;obtain⟨A,c,p2,_⟩:=I.tuple hb;refine HT.WQ p p2 (λz=>m (f.Gu.mp z)) (λz=>⟨.ref a,H,I,rfl,n (c.Gu.mp z)⟩) (λz=>?_) (by rw[<-f.length,<-c.length];exact g);refine⟨.ref _,_,I.laid (λb ob q=>aj _ q) (aC _) ?_,rfl,o (λw=>z (c.Gu.mpr w)) _ (I.iC.fresh (aC _))⟩;exact⟨by rw[aD];exact g,_,f.append c,aj4.new _ _⟩
end
noncomputable def PK(n:Nat)(i:Int):Option Nat:=if 0<=i then(if i<n then aa i.toNat else am) else if-(n:Int)<=i then aa (i+n).toNat else am
noncomputable def wL{a:Type}(xs:List a)(i:Int):Option a:=(PK xs.length i).bind λj=>xs[j]?
def NQ(h:PK n i=aa j):seqIndex? i n=aa j/\j<n/\-(n:Int)<=i/\i<n:=by
 unfold PK at h;by_cases b:0<=i
 .rw[if_pos b] at h;by_cases a:i<n
  .rw[if_pos a] at h;have e:=bA h;exact⟨by rw[ak9 b a,e],by lia,by lia,a⟩
  .rw[if_neg a] at h;cases h
 .rw[if_neg b] at h;by_cases a:-(n:Int)<=i
  .rw[if_pos a] at h;have e:=bA h;exact⟨by rw[seqIndex_neg (by lia) a,e],by lia,a,by lia⟩
  .rw[if_neg a] at h;cases h
def Gv{v:g}(h:wL xs i=aa v):∃j,seqIndex? i xs.length=aa j/\xs[j]?=aa v/\j<xs.length/\-(xs.length:Int)<=i/\i<xs.length:=by
 unfold wL at h;cases e:PK _ i with
 |none=>rw[e] at h;cases h
 |some j=>
  rw[e] at h;obtain⟨a,b,c,f⟩:=NQ e;exact⟨j,a,h,b,c,f⟩
def IJ{b:Type}(xs:List b)(v:b):wL (xs++[v]) (-1)=aa v:=by
 have a:(xs++[v]).length=xs.length+1:=by simp
 have e:PK (xs++[v]).length (-1)=aa xs.length:=by unfold PK;rw[a,if_neg (by decide),if_pos (by lia)];congr 1;lia
 unfold wL;rw[e];show(xs++[v])[xs.length]?=aa v;simp
def NR (b:bv):Prop:=∀o i,subscripted b ao o i=operate [o,i] (ajO o i)
def IxR (X:Cx)(r:R2):Prop:=
 ∀(value slice:bv) (cf:List (ar×cn)) (s:aq) (a:St) (H:Hp) (x y:V) (v u:ah) (Q:VK),Inv X cf a H s->RelV x v->RelV y u->r x y H Q->
  subscripted slice ao v u=operate [v,u] (ajO v u)->wpAny (model X.prog X.w) X.A (subscriptTail value slice v u) (EP X cf a Q) X.xe s
def MtR (X:Cx)(id:String)(r:V->List V->Hp->VK->Prop):Prop:=
 ∀(cf:List (ar×cn)) (s:aq) (a:St) (H:Hp) (x:V) (xs:List V) (v:ah) (us:List ah) (Q:VK),Inv X cf a H s->RelV x v->Vals xs us->r x xs H Q->
  wpAny (model X.prog X.w) X.A (call (.builtin id) (v::us)) (EP X cf a Q) X.xe s
section
variable {X:Cx}
def ZV(c:IxR X r)(ha:PE X a ta)(hb:PE X b tb)(e:NR b):PE X (.Subscript a b pos) (tOp r ta tb):=by intro cf s m H Q I h;exact alh (abi ha hb I h λv u s2 x y f g i j q=>c a b cf s2 m f x y v u Q g i j q (e _ _))
def ahX (K:af):R2:=λx y H Q=>∃p xs i v,x=.ref p/\y=.int i/\nr K H p xs/\wL xs i=aa v/\Q v H
def aeY (K:af):R2:=λx y H Q=>∃p xs i v,x=.ref p/\y=.int i/\w4 K H p xs/\wL xs i=aa v/\Q v H
def ahY:R2:=λx y H Q=>∃z i c,x=.str z/\y=.int i/\z.length<=az/\wL z.cps.toList i=aa c/\Q (.str ⟨#[c]⟩) H
def NS:IxR X (ahX X.K):=by
 intro value slice cf s a H x y v u Q I o A h f;obtain⟨p,xs,i,z,rfl,rfl,B,C,q⟩:=h;cases o;obtain⟨t,rfl⟩:=A;obtain⟨ig,r,pl,N⟩:=I.list B;obtain⟨j,c,E,O,G,J⟩:=Gv C;obtain⟨w,g,L⟩:=r.get E;have M:=r.length;have hn:=zo;have m:EP X cf a Q w s:=⟨z,H,I,L,q⟩;by_cases n:0<=i
 .have e:=by rw[ak9 n J] at c;exact bA c
  exact item_listR pl.isList n (by lia) (by rw[e];simpa using g) m f
 .have e:(i+(ig.toArray.size:Int)).toNat=j:=by rw[seqIndex_neg (by lia) G] at c;rw[aO,<-M];exact bA c
  exact akX pl.isList.typeIs aka.lookup
   (wpAny_getItem_list_neg pl.isList (by lia) (by rw[aO]<;>lia) (by lia) (by rw[e];simpa using g) ⟨rfl,m⟩) f
def Sz:IxR X (aeY X.K):=by
 intro value slice cf s a H x y v u Q I c e h f;obtain⟨p,xs,i,z,rfl,rfl,g,m,q⟩:=h;cases c;obtain⟨t,rfl⟩:=e;obtain⟨ig,r,pl,G⟩:=I.tuple g;obtain⟨j,n,o,J,L,M⟩:=Gv m;obtain⟨w,A,B⟩:=r.get o;have C:=r.length;have hn:=zo;have E:EP X cf a Q w s:=⟨z,H,I,B,q⟩;exact akX pl.typeIs slot_tuple_getitem.lookup
  (getItem_tuple pl (by lia) (by lia) (by rw[aO,<-C];exact n) (by simpa using A) ⟨rfl,E⟩) f
def abC:IxR X ahY:=by
 intro value slice cf s a H x y v u Q I f g h m;obtain⟨z,i,c,rfl,rfl,A,n,q⟩:=h;obtain⟨t,rfl⟩:=f;obtain⟨B,rfl⟩:=g;obtain⟨j,e,o,C,p,r⟩:=Gv n;have w:z.cps.toList.length=z.length:=by simp[aB.length]
 rw[w] at e p r;have hn:=zo;exact alP (ali s z t) slot_str_getitem.lookup (getItem_str (by have e1:decide (i< -(2^63:Int))=ao:=decide_eq_false (by lia);have e2:decide (i>=2^63)=ao:=decide_eq_false (by lia);rw[e1,e2,Bool.or_false]) (by rw[e];simpa using o) ⟨.str _,H,I.tok _,⟨_,rfl⟩,q⟩) m
def LF(ig:List ah)(n j:Nat)(u:ah):bP (·.setIfInBounds j u) {cls:=.type ap,data:=.seq ig.toArray n}={cls:=.type ap,data:=.seq (ig.set j u).toArray n}:=by simp[bP]
theorem Inv.lst{cf:List (ar×cn)}{σ:St}{H:Hp}{s:aq}{p:ar}{xs:List V}(I:Inv X cf σ H s)(h:H p=aa (.lst xs)):
  ∃(ig:List ah) (n:Nat),Vals xs ig/\s.heap.get? p=aa {cls:=.type ap,data:=.seq ig.toArray n}/\xs.length<=az:=by obtain⟨z,ig,n,r,e⟩:=I.iC p _ h;exact⟨ig,n,r,e,z⟩
def Inv.abD{cf:List (ar×cn)}{σ:St}{H:Hp}{s:aq}{p:ar}{xs g:List V}{ig c:List ah}{n i:Nat}{f:cn->cn}(I:Inv X cf σ H s)(h:H p=aa (.lst xs))
(m:s.heap.get? p=aa {cls:=.type ap,data:=.seq ig.toArray n})(j:f {cls:=.type ap,data:=.seq ig.toArray n}={cls:=.type ap,data:=.seq c.toArray i})(r:Vals g c)(o:g.length<=az)(t:Nat):
  Inv X cf σ (upd H p (.lst g)) {s with heap:=s.heap.update p f,toks:=t}:=by
 have e:(s.heap.update p f).get? p=aa {cls:=.type ap,data:=.seq c.toArray i}:=by rw[cJ f m (by rw[j]<;>rfl),j]
 refine I.write (x:=p) (e:=p) (by rw[h];trivial) (.inl rfl) (λb u hb q=>(cj _ _ (ci hb)).trans q) ⟨_,e⟩ ?_;exact⟨o,c,i,r,e⟩
def aeZ:V->V->V->Hp->(Hp->Prop)->Prop:=λo i v H Q=>∃p xs k j,o=.ref p/\i=.int k/\H p=aa (.lst xs)/\PK xs.length k=aa j/\Q (upd H p (.lst (xs.set j v)))
def SA:aeF X aeZ:=by
 intro cf s a H o i v L M u Q I B C E h;obtain⟨p,xs,k,j,rfl,rfl,m,G,q⟩:=h;cases B;obtain⟨t,rfl⟩:=C;obtain⟨ig,n,r,e,J⟩:=I.lst m;obtain⟨c,N,w,y⟩:=NQ G;have f:=r.length;have hn:=zo;have z:Inv X cf a (upd H p (.lst (xs.set j v))) {s with heap:=s.heap.update p (bP (·.setIfInBounds j u))}:=
  I.abD m e (LF ig n j u) (r.set E j) (by rw[fg];exact J) s.toks
 by_cases A:0<=k
 .have g:k.toNat=j:=by rw[ak9 A y] at c;exact bA c
  exact W.ki_setAt e A (by lia) (by rw[aO,<-f];exact y) (by rw[g];exact⟨_,z,q⟩)
 .have g:(k+(ig.toArray.size:Int)).toNat=j:=by rw[seqIndex_neg (by lia) w] at c;rw[aO,<-f];exact bA c
  exact W.ki_setBack e (by lia) (by rw[aO,<-f];exact w) (by lia) (by rw[g];exact⟨_,z,q⟩)
def Gw(lo hi:Option Int)(n:Nat):(eV lo hi am n).1=((HT.oQ n 0 lo:Nat):Int)/\(eV lo hi am n).2.1=((HT.oQ n n hi:Nat):Int)/\(eV lo hi am n).2.2=1:=by
 refine⟨?_,?_,rfl⟩
 .cases lo with
  |none=>simp[eV,HT.oQ]
  |some i=>
   simp only [eV,HT.oQ,Option.getD_none,show(1:Int)>0 by decide,if_true];by_cases h:i<0
   .simp only [h,if_true]<;>lia
   .simp only [h,if_false]<;>lia
 .cases hi with
  |none=>simp[eV,HT.oQ]
  |some i=>
   simp only [eV,HT.oQ,Option.getD_none,show(1:Int)>0 by decide,if_true];by_cases h:i<0
   .simp only [h,if_true]<;>lia
   .simp only [h,if_false]<;>lia
def EF(ig:List ah)(lo hi:Option Int):akP ig.toArray lo hi am=((ig.drop (HT.oQ ig.length 0 lo)).take (HT.oQ ig.length ig.length hi- HT.oQ ig.length 0 lo)).toArray:=by obtain⟨c,e,f⟩:=Gw lo hi _;unfold akP;rw[c,e,f];simp only [sliceRange_one,pick_run]<;>rfl
def ahZ (K:af):V->Option Int->Option Int->Hp->VK->Prop:=λx lo hi H Q=>∃a xs,x=.ref a/\nr K H a xs/\∀p,H p=am->Q (.ref p) (upd H p (.lst (PH xs lo hi)))
def WV:Wb X (ahZ X.K):=by intro cf s o H x v m n lo hi sl Q I c e pl f h;obtain⟨a,xs,rfl,g,q⟩:=h;cases c;obtain⟨ig,r,ht,i⟩:=I.list g;have j:=r.length;refine⟨ap,_,aka.lookup,ht.isList.typeIs,?_⟩;refine akI ht.isList e pl f .none (by simp) ?_ (by rw[aO]<;>lia);rw[EF,<-j];refine⟨.ref _,_,I.laid (λb ob q=>aj _ q) (aC _) ?_,rfl,q _ (I.iC.fresh (aC _))⟩;exact⟨bh (Aw xs lo hi) i,_,0,(r.drop _).take _,aJ _ rfl⟩
noncomputable def wM:V->Bool
 |.non=>ai
 |.bl _=>ai
 |.int _=>ai
 |.str _=>ai
 |_=>ao
noncomputable def WW:V->V->Bool
 |.non,.non=>ai
 |.bl a,.bl b=>a==b
 |.bl a,.int b=>(if a then 1 else 0)==b
 |.int a,.bl b=>a==(if b then 1 else 0)
 |.int a,.int b=>a==b
 |.str a,.str b=>a==b
 |_,_=>ao
def abE(f:RelV y u)(c:RelV x v)(h:wM y=ai)(g:wM x=ai):cu A s u v (WW y x):=by
 cases y with
 |non=>
  cases f;cases x with
  |non=>cases c;exact cu.same _
  |bl b=>cases c;exact cu.none_bool b
  |int b=>obtain⟨t,rfl⟩:=c;exact cu.none_int b t
  |str b=>obtain⟨t,rfl⟩:=c;exact cu.none_str b t
  |_=>exact absurd (show ao=ai from g) bi
 |bl a=>
  cases f;cases x with
  |non=>cases c;exact cu.bool_none a
  |bl b=>cases c;exact cu.bool_bool a b
  |int b=>obtain⟨t,rfl⟩:=c;exact cu.bool_int a b t
  |str b=>obtain⟨t,rfl⟩:=c;exact cu.bool_str a b t
  |_=>exact absurd (show ao=ai from g) bi
 |int a=>
  obtain⟨e,rfl⟩:=f;cases x with
  |non=>cases c;exact cu.int_none a e
  |bl b=>cases c;exact cu.int_bool a e b
  |int b=>obtain⟨t,rfl⟩:=c;exact cu.int_int a e b t
  |str b=>obtain⟨t,rfl⟩:=c;exact cu.int_str a e b t
  |_=>exact absurd (show ao=ai from g) bi
 |str a=>
  obtain⟨e,rfl⟩:=f;cases x with
  |non=>cases c;exact cu.str_none a e
  |bl b=>cases c;exact cu.str_bool a e b
  |int b=>obtain⟨t,rfl⟩:=c;exact cu.str_int a e b t
  |str b=>obtain⟨t,rfl⟩:=c;exact cu.str_str a e b t
  |_=>exact absurd (show ao=ai from g) bi
 |_=>exact absurd (show ao=ai from h) bi
noncomputable def LG(x:V)(u:ah):Bool:=match u with
 |.none=>WW .non x
 |.bool b=>WW (.bl b) x
 |.int i _=>WW (.int i) x
 |.str z _=>WW (.str z) x
 |_=>ao
def SD(r:RelV y u)(f:wM y=ai):LG x u=WW y x:=by
 cases y with
 |non=>cases r;rfl
 |bl b=>cases r;rfl
 |int i=>obtain⟨t,rfl⟩:=r;rfl
 |str z=>obtain⟨t,rfl⟩:=r;rfl
 |_=>exact absurd (f) bi
theorem ye:∀{xs:List V} {us:List ah},Vals xs us->xs.all wM=ai->us.any (LG x)=xs.any λy=>WW y x
 |_,_,.nil,_=>rfl
 |y::xs,u::us,.cons r t,f=>by rw[dm,aU] at f;rw[dN,dN,SD r f.1,ye t f.2]
theorem uX(e:RelV x v)(g:wM x=ai):∀{xs:List V} {us:List ah},Vals xs us->xs.all wM=ai->∀u∈us,cu A s u v (LG x u)
 |_,_,.nil,_=>λu c=>by cases c
 |y::xs,u::us,.cons r t,f=>λh c=>by
  rw[dm,aU] at f;rcases aN.mp c with rfl|c
  .rw[SD r f.1];exact abE r e f.1 g
  .exact uX e g t f.2 h c
noncomputable def inV(x:V)(xs:List V):Bool:=xs.any λy=>WW y x
def rIn (K:af)(neg:Bool):R2:=λx y H Q=>∃p xs,y=.ref p/\(nr K H p xs\/w4 K H p xs)/\wM x=ai/\xs.all wM=ai/\Q (.bl (if neg then !inV x xs else inV x xs)) H
def Ft:sY X (compareOp .In) (rIn X.K ao):=by
 intro cf s a H x y v u Q I e g h;obtain⟨p,xs,rfl,c,f,fs,q⟩:=h;cases g;rcases c with c|c
 .obtain⟨ig,r,pl,i⟩:=I.list c;refine SeqAt.in_listAt (LG x) pl.isList (λw hw=>uX e f r fs w (by simpa using hw)) ⟨.bl _,H,I,rfl,?_⟩;rw[show ig.toArray.any (LG x)=ig.any (LG x) by simp,ye r fs];exact q
 .obtain⟨ig,r,pl,i⟩:=I.tuple c;refine SeqAt.in_tupleAt (LG x) pl (λw hw=>uX e f r fs w (by simpa using hw)) ⟨.bl _,H,I,rfl,?_⟩;rw[show ig.toArray.any (LG x)=ig.any (LG x) by simp,ye r fs];exact q
def yf:sY X (compareOp .NotIn) (rIn X.K ai):=by
 intro cf s a H x y v u Q I e g h;obtain⟨p,xs,rfl,c,f,fs,q⟩:=h;cases g;rcases c with c|c
 .obtain⟨ig,r,pl,i⟩:=I.list c;refine SeqAt.notIn_listAt (LG x) pl.isList (λw hw=>uX e f r fs w (by simpa using hw)) ⟨.bl _,H,I,rfl,?_⟩;rw[show ig.toArray.any (LG x)=ig.any (LG x) by simp,ye r fs];exact q
 .obtain⟨ig,r,pl,i⟩:=I.tuple c;refine SeqAt.notIn_tupleAt (LG x) pl (λw hw=>uX e f r fs w (by simpa using hw)) ⟨.bl _,H,I,rfl,?_⟩;rw[show ig.toArray.any (LG x)=ig.any (LG x) by simp,ye r fs];exact q
def tG:nz X (.builtin kI) (λxs H Q=>∃p e,xs=[.ref p]/\(nr X.K H p e\/w4 X.K H p e)/\Q (.int e.length) H):=by
 intro cf s a H xs us Q I r h;obtain⟨p,e,rfl,c,q⟩:=h;obtain⟨u,rfl,i⟩:=vals1 r;cases i;have hn:=zo;rcases c with c|c
 .obtain⟨ig,f,pl,j⟩:=I.list c;have g:=f.length;exact Calls.call_len_list pl.isList (by simp only [aO]<;>lia) ⟨.int _,H,I.tok _,⟨s.toks+1,by rw[aO,g]⟩,q⟩
 .obtain⟨ig,f,pl,j⟩:=I.tuple c;have g:=f.length;exact len_tuple pl (by simp only [aO]<;>lia) ⟨.int _,H,I.tok _,⟨s.toks+1,by rw[aO,g]⟩,q⟩
def Gx:nz X (.builtin kI) (λxs H Q=>∃z,xs=[.str z]/\z.length<=az/\Q (.int z.length) H):=by intro cf s a H xs us Q I r h;obtain⟨z,rfl,c,q⟩:=h;obtain⟨u,rfl,t,rfl⟩:=vals1 r;have hn:=zo;exact len_str (by lia) ⟨.int z.length,H,I.tok _,⟨_,rfl⟩,q⟩
def tH:nz X (.type ap) (λxs H Q=>∃p f,xs=[.ref p]/\(nr X.K H p f\/w4 X.K H p f)/\∀l,H l=am->Q (.ref l) (upd H l (.lst f))):=by
 intro cf s a H xs us Q I r h;obtain⟨p,f,rfl,j,q⟩:=h;obtain⟨u,rfl,A⟩:=vals1 r;cases A;have y:∀(ig:List ah),Vals f ig->f.length<=az->∀(c:aw) (i:Nat),(∀b z,s.heap.get? b=aa z->c.get? b=aa z)->
   c.get? _=aa _->EP X cf a Q _ _:=λig g m c i kp e=>
  ⟨.ref _,_,I.laid (t':=s.toks) kp (aC _) (show jq X.prog X.w _ c _ (.lst f) from⟨m,ig,i,g,e⟩),rfl,q _ (I.iC.fresh (aC _))⟩
 rcases j with j|j
 .obtain⟨ig,g,pl,m⟩:=I.list j;have B:=g.length;obtain⟨o,v,hc,n,hd⟩:=pl.isList;exact alY p (.inl rfl) v hc hd (λc i kp e=>y ig g m c i kp e) (by simp only [aO]<;>lia)
 .obtain⟨ig,g,pl,m⟩:=I.tuple j;have B:=g.length;obtain⟨o,v,hc,n,hd⟩:=pl;exact alY p (.inr rfl) v hc hd (λc i kp e=>y ig g m c i kp e) (by simp only [aO]<;>lia)
def wN:nz X (.type dy) (λxs H Q=>∃p c,xs=[.ref p]/\((nr X.K H p c/\∀l,H l=am->Q (.ref l) (upd H l (.tup c)))\/(w4 X.K H p c/\Q (.ref p) H))):=by
 intro cf s a H xs us Q I r h;obtain⟨p,c,rfl,h⟩:=h;obtain⟨u,rfl,m⟩:=vals1 r;cases m;rcases h with⟨f,q⟩|⟨f,q⟩
 .obtain⟨ig,g,pl,i⟩:=I.list f;have y:=g.length;refine call_tuple_list pl.isList (λz kp=>?_) (by simp only [aO]<;>lia);have j:=I.kept (t':=s.toks) kp;have v:=
   j.laid (t':=s.toks) (λb o e=>aj _ e) (aC _) (show jq X.prog X.w _ _ _ (.tup c) from⟨i,ig,g,aj4.new _ _⟩)
  exact⟨.ref _,_,v,rfl,q _ (j.iC.fresh (aC _))⟩
 .obtain⟨ig,g,pl,i⟩:=I.tuple f;exact call_tuple_same pl ⟨.ref p,H,I,rfl,q⟩
def tyV (K:af)(T:String)(x:V)(H:Hp):Prop:=match x with
 |.str _=>T=hX
 |.int _=>T=ic
 |.ref p=>(T=ap/\∃xs,nr K H p xs)\/(T=dy/\∃o,K.lookup p=aa o/\o.cls=.type dy/\o.dict=am)\/
   (T=fe/\((∃c,Rd H p (.dK c))\/(∃c,H p=aa (.dT c))\/∃e c,H p=aa (.dE e c)))\/(T=fi/\∃S n,H p=aa (.set S n))
 |_=>False
def SE(I:Inv X cf b H s)(r:RelV x v)(ty:tyV X.K T x H):
  s.TypeIs v T/\∀a,v=.ref a->∃ob,s.heap.get? a=aa ob/\ob.dict=am:=by
 cases x with
 |str z=>
  obtain⟨t,rfl⟩:=r;cases(ty);exact⟨ali s z t,λ_ e=>nomatch e⟩
 |int i=>
  obtain⟨t,rfl⟩:=r;cases(ty);exact⟨alj s i t,λ_ e=>nomatch e⟩
 |ref p=>
  cases r;rcases ty with⟨rfl,xs,h⟩|⟨rfl,o,f,hc,hd⟩|⟨rfl,f⟩|⟨rfl,S,n,f⟩
  .obtain⟨ig,_,pl,_⟩:=I.list h;refine⟨pl.isList.typeIs,λa e=>?_⟩;cases e;obtain⟨o,n,e,c,hd,_⟩:=pl;exact⟨o,e,hd⟩
  .refine⟨⟨o,I.qG p o f,hc⟩,λa e=>?_⟩;cases e;exact⟨o,I.qG _ o f,hd⟩
  .have z:∃o,s.heap.get? p=aa o/\o.ExactDict:=by
    rcases f with⟨g,f⟩|⟨g,f⟩|⟨j,g,f⟩
    .obtain⟨_,_,_,_,o,_,_,e,ex,_⟩:=f.ok I.iC;exact⟨o,e,ex⟩
    .obtain⟨_,_,_,_,o,_,_,e,ex,_⟩:=I.iC p _ f;exact⟨o,e,ex⟩
    .obtain⟨_,_,_,_,o,_,e,ex,_⟩:=I.iC p _ f;exact⟨o,e,ex⟩
   obtain⟨o,e,ex⟩:=z;refine⟨⟨o,e,ex.1⟩,λa e2=>?_⟩;cases e2;exact⟨o,e,ex.2.1⟩
  .obtain⟨o,_,_,_,e,ex,_⟩:=I.iC p _ f;refine⟨⟨o,e,ex.1⟩,λa e2=>?_⟩;cases e2;exact⟨o,e,ex.2.1⟩
 |_=>exact b9 ty
def ah0 (K:af)(T:String)(r:V->List V->Hp->VK->Prop)(to:TE):TE:=λa H Q=>to a H λx H1=>tyV K T x H1/\r x [] H1 Q
def tBM (K:af)(T:String)(r:V->List V->Hp->VK->Prop)(to:TE)(t:TA):TE:=λa H Q=>to a H λx H1=>tyV K T x H1/\t a H1 λxs c=>r x xs c Q
variable {t:TA} {apos i6:dA} {id:String}
def abF(i:akz T)(slot:Slot T name id)(c:akY (.builtin id)=pure (.type uad))(hm:MtR X id r)(j:PE X o to)
(m:cM o name X.env (eval o X.env)=eval o X.env:=by rfl)(n:(apos.endLine==i6.line)=ai:=by rfl):PE X (.Call (.Attribute o name apos) [] [] i6) (ah0 X.K T r to):=by intro cf s a H Q I h;refine akQ m n (jB (j cf s a H _ I h) λv s1 p=>?_);obtain⟨x,H1,f,g,ty,q⟩:=p;obtain⟨u,w⟩:=SE f g ty;exact⟨T,id,i,slot,c,u,w,fB rfl (PySem.evalArgs_none (hm cf s1 a H1 x [] v [] Q f g .nil q))⟩
def ae0(m:akz T)(slot:Slot T name id)(c:akY (.builtin id)=pure (.type uad))(hm:MtR X id r)(n:PE X o to)(ha:PA X (e::es) t)
(p:cM o name X.env (eval o X.env)=eval o X.env:=by rfl)
(f:((cO i6 (aV (e::es) X.env)).all (λx=>!x.1)&&(ajE i6 (eF [] X.env)).all (λx=>x.1.isSome)
   &&decide ((e::es).length+([]:List ajN).length+(if([]:List ajN).isEmpty then 0 else 1)<30))=ai:=by rfl)
(q:(apos.endLine==i6.line)=ai:=by rfl)(u:aV (e::es) X.env=(ao,eval e X.env)::aV es X.env:=by rfl)(w:(cO i6 (aV es X.env)).any (·.1)=ao:=by rfl):
  PE X (.Call (.Attribute o name apos) (e::es) [] i6) (tBM X.K T r to t):=by intro cf s a H Q I h;refine wpAny_Call_method_late p f q rfl (jB (n cf s a H _ I h) λv s1 y=>?_);obtain⟨x,H1,g,i,ty,z⟩:=y;obtain⟨A,B⟩:=SE g i ty;refine⟨T,id,m,slot,c,A,B,?_⟩;have j:=ha i6 cf s1 a H1 _ g z;rw[u] at j |-;refine fB (by show(ao||(cO i6 _).any (·.1))=ao;rw[w]<;>rfl) (Calls.evalArgs_plain ?_);exact jB j λus s2 ⟨C,E,G,J,L⟩=>hm cf s2 a E x C v us Q G i J L
end
def MtM (X:Cx)(id:String)(r:V->List V->Hp->VK->Prop):Prop:=
 ∀(cf:List (ar×cn)) (s:aq) (a:St) (H:Hp) (x:V) (xs:List V) (v:ah) (us:List ah) (Q:VK),Inv X cf a H s->RelV x v->Vals xs us->r x xs H Q->
  wpAny (model X.prog X.w) X.A (call (.builtin id) (v::us)) (EP X cf a Q) X.xe s
theorem Vals.one:∀{x:V} {us:List ah},Vals [x] us->∃u,us=[u]/\RelV x u
 |_,_,.cons r .nil=>⟨_,rfl,r⟩
theorem Vals.zero:∀{us:List ah},Vals [] us->us=[]
 |_,.nil=>rfl
theorem Vals.reverse(h:Vals xs us):Vals xs.reverse us.reverse:=by
 induction h with
 |nil=>exact .nil
 |cons r t a=>rw[fF,fF];exact Vals.append a (.cons r .nil)
theorem Vals.rep(h:Vals xs us):∀k:Nat,Vals (bQ k xs).flatten (bQ k us).flatten
 |0=>.nil
 |k+1=>by exact Vals.append h (Vals.rep h k)
theorem foldl_rep(ig:List ah):∀(k:Nat) (acc:List ah),
  List.foldl (λx1 x2=>x1++x2) acc.toArray (bQ k ig.toArray)=(acc++(bQ k ig).flatten).toArray
 |0,acc=>by simp
 |k+1,acc=>by
  have e:acc.toArray++ig.toArray=(acc++ig).toArray:=by simp
  have e2:(acc++ig)++(bQ k ig).flatten=acc++(bQ (k+1) ig).flatten:=by rw[List.replicate_succ,List.flatten_cons,aX]
  rw[<-e2,<-foldl_rep ig k _,<-e,List.replicate_succ,List.foldl_cons]
section
variable {s:aq} {l:ar} {xs ys:List V}
def Inv.abH{ig Ca:List ah}(I:Inv X cf σ H s)(a:H l=aa (.lst xs))
(e:s.heap.get? l=aa {cls:=.type ap,data:=.seq ig.toArray n})(c:f ig.toArray=Ca.toArray)(g:Vals ys Ca)(h:ys.length<=az):
  Inv X cf σ (upd H l (.lst ys)) {s with heap:=s.heap.update l (bP f),toks:=j}:=by have q:=PySem.IsL.update e f;rw[c] at q;refine I.write (by rw[a];exact trivial) (.inl rfl) (λm u hb i=>(cj s.heap _ (ci hb)).trans i) ⟨_,q⟩ ?_;exact⟨h,Ca,_,g,q⟩
def Inv.abI(I:Inv X cf σ H s)(a:Vals ys ig)(c:ys.length<=az):
  Inv X cf σ (upd H s.heap.objs.size (.lst ys)) {s with heap:=s.heap.push {cls:=.type ap,data:=.seq ig.toArray},toks:=e}:=
 I.laid (λ_ _ q=>aj _ q) (aC _) ⟨c,ig,0,a,aJ _ rfl⟩
theorem Inv.fresh(I:Inv X cf σ H s):H s.heap.objs.size=am:=I.iC.fresh (aC _)
def Inv.LI(I:Inv X cf σ H s)(a:H l=aa (.lst xs)):xs.length<=az/\∃(ig:List ah) (n:Nat),Vals xs ig/\xs.length=ig.length/\s.heap.get? l=aa {cls:=.type ap,data:=.seq ig.toArray n}:=by obtain⟨z,ig,n,r,e⟩:=I.iC l _ a;exact⟨z,ig,n,r,r.length,e⟩
def IK(h:n<=az):gf n=ao:=by exact decide_eq_false (by lia)
end
def WX:V->List V->Hp->VK->Prop:=λx a H Q=>∃l xs y,x=.ref l/\a=[y]/\H l=aa (.lst xs)/\xs.length<az/\Q .non (upd H l (.lst (xs++[y])))
def Fu:MtM X "list.append" WX:=by intro cf s m H x g v us Q I b c h;obtain⟨l,xs,y,rfl,rfl,a,i,q⟩:=h;cases b;obtain⟨u,rfl,f⟩:=c.one;obtain⟨z,ig,n,r,j,e⟩:=I.LI a;refine ajP F.slot_list_append ⟨_,e,rfl⟩ F.entry_list_append (F.args_list_append_2 _ _) (PySem.list_append l _ n u (by rw[aO];lia)) ⟨e,?_⟩;refine⟨.non,_,I.abH a e (by simp) (r.append (.cons f .nil)) ?_,rfl,q⟩;rw[aD,bO];lia
def WY:V->List V->Hp->VK->Prop:=λx a H Q=>∃l b xs zs,x=.ref l/\a=[.ref b]/\H l=aa (.lst xs)/\H b=aa (.lst zs)/\xs.length+zs.length<=az/\Q .non (upd H l (.lst (xs++zs)))
def PL:MtM X "list.extend" WY:=by
 intro cf s E H x w v us Q I f g h;obtain⟨l,b,xs,zs,rfl,rfl,a,i,y,q⟩:=h;cases f;obtain⟨u,rfl,j⟩:=g.one;cases j;obtain⟨z,ig,n,r,A,e⟩:=I.LI a;obtain⟨B,c,n2,m,C,e2⟩:=I.LI i;have o:ig.toArray.size+c.toArray.size<=az:=by rw[aO,aO];lia
 have p:¬(!ig.toArray.isEmpty&&gf (ig.toArray.size+c.toArray.size))=ai:=by rw[IK o,Bool.and_false];exact bi
 refine ajP F.slot_list_extend ⟨_,e,rfl⟩ F.entry_list_extend (F.args_list_extend_2 _ _)
  (AutoSeq1.list_extend_list_list_0 l _ n b _ n2 p (by lia) (by lia)) ⟨e,e2,?_⟩
 refine⟨.non,_,I.abH a e (by simp) (r.append m) ?_,rfl,q⟩;rw[aD];lia
def abJ:V->List V->Hp->VK->Prop:=λx a H Q=>∃l xs,x=.ref l/\a=[]/\H l=aa (.lst xs)/\Q .non (upd H l (.lst []))
def SH:MtM X "list.clear" abJ:=by intro cf s j H x g v us Q I c f h;obtain⟨l,xs,rfl,rfl,b,q⟩:=h;cases c;have a:=f.zero;subst a;obtain⟨z,ig,n,r,i,e⟩:=I.LI b;refine ajP F.slot_list_clear ⟨_,e,rfl⟩ F.entry_list_clear (F.args_list_clear_1 _) (AutoSeq1.list_clear_list_0 l ig.toArray n (by rw[aO];lia)) ⟨e,?_⟩;exact⟨.non,_,I.abH (Ca:=[]) (ys:=[]) b e rfl .nil (bu _),rfl,q⟩
def ah1:R2:=λx y H Q=>∃l b xs zs,x=.ref l/\y=.ref b/\H l=aa (.lst xs)/\H b=aa (.lst zs)/\xs.length+zs.length<=az/\∀p,H p=am->Q (.ref p) (upd H p (.lst (xs++zs)))
def abK:sY X (binaryOp .Add) ah1:=by
 intro cf s B H x y v u Q I c f h;obtain⟨l,b,xs,zs,rfl,rfl,g,i,o,q⟩:=h;cases c;cases f;obtain⟨z,ig,n,r,p,e⟩:=I.LI g;obtain⟨w,a,n2,j,A,e2⟩:=I.LI i;refine PySem.P.add_list e e2 ?_ (by rw[aO,aO];lia);have m:ig.toArray++a.toArray=(ig++a).toArray:=by simp
 rw[m];exact⟨.ref _,_,I.abI (r.append j) (by rw[aD];lia),rfl,q _ I.fresh⟩
def ah2:R2:=λx y H Q=>∃l k xs,x=.ref l/\y=.int k/\H l=aa (.lst xs)/\-(2^63)<=k/\k<2^63/\xs.length*k.toNat<=az/\
 ∀p,H p=am->Q (.ref p) (upd H p (.lst (bQ k.toNat xs).flatten))
def WZ{b:Type}(xs:List b)(k:Nat):(bQ k xs).flatten.length=k*xs.length:=by
 induction k with
 |zero=>simp
 |succ k a=>rw[List.replicate_succ,List.flatten_cons,aD,a,Nat.succ_mul,Nat.add_comm]
def abL:sY X (binaryOp .Mult) ah2:=by
 intro cf s K H x y v u Q I i j h;obtain⟨l,k,xs,rfl,rfl,o,p,w,g,q⟩:=h;cases i;obtain⟨t,rfl⟩:=j;obtain⟨z,ig,n,r,A,e⟩:=I.LI o;have B:ig.toArray.size*k.toNat<=az:=by rw[aO,<-A];exact g
 have b:¬ig.toArray.size*k.toNat>(2^63- 1)/8:=by
  have:(az:Nat)<=(2^63- 1)/8:=by decide
  lia
 have c:¬(!bU.List.listFitsIndex k)=ai:=by rw[fitsIndex_both p w];exact bi
 have C:¬gf (ig.toArray.size*k.toNat)=ai:=by rw[IK B];exact bi
 have f:List.foldl (λx1 x2=>x1++x2) #[] (bQ (if ig.toArray.isEmpty=ai then 0 else k.toNat) ig.toArray)=(bQ k.toNat ig).flatten.toArray:=by
  have E:=λm=>by have:=foldl_rep ig m [];rw[bL] at this;exact this
  rw[E];cases ig with
  |nil=>simp
  |cons a J=>rw[if_neg (by simp)]
 refine wpAny_binaryOp_repeat_ref (U:=ic) (by decide) ⟨_,e,rfl⟩ (λG=>alj G k t) noFill_list_mul F.fills_int_mul F.slot_int_rmul repeat_list F.slot_int_index.lookup
  (ajP F.slot_int_rmul (alj s k t) F.entry_int_rmul (F.args_int_rmul_2 _ _) (int___rmul___int_list k t l ig.toArray n)
   ⟨e,rfl,⟨_,e,rfl⟩,ajP F.slot_list_mul ⟨_,e,rfl⟩ F.entry_list_mul (F.args_list_mul_2 _ _) (AutoListH.list___mul___list_int_3 l ig.toArray n k t c b C) ⟨e,?_⟩⟩)
 rw[f];exact⟨.ref _,_,I.abI (r.rep k.toNat) (by rw[WZ,Nat.mul_comm];exact g),rfl,q _ I.fresh⟩
section
variable {prog:aP} {s:aq}
end
end L2
end
namespace Att
open PySem PySem.W PySem.Calls PyProof.Rows
def A4:∀(ns:List Int) (c:List ah),WellAll P h c (ns.map WData.int)->akZ c ns:=by
 intro ns;induction ns with
 |nil=>
  intro c w;cases w;exact .nil
 |cons n ns e=>
  intro c w;cases w with
  |cons a b=>
   cases a;exact .cons _ _ (e _ b)
def PM{l:OpenLaw}(hn:l.most=aa n)
(g:l.row.toRowW.claim.pre args=ai)(c:WellAll P h e args):
  ∃a i ns,e=[bI a]/\args=[WData.list (ns.map WData.int)]/\h.get? a=aa {cls:=.type ap,data:=.seq i.toArray}/\akZ i ns/\ns.length<=n:=by
 have f:WShape.hasAll [] args _=ai:=(pre_splitW g).1;have hc:l.pre.holds [] _=ai:=(pre_splitW g).2;obtain⟨d,r,rfl,m,o⟩:=hasAllW_cons f;obtain rfl:=hasAllW_nil o;obtain⟨xs,rfl,p⟩:=hasW_list m;obtain⟨ns,rfl⟩:=items_int p;have q:=by
  have b:=by have b:=(holds_andW hc).1;rw[hn] at b;exact b
  have j:=condW_of b (w_not (w_lt w_lit (w_len_list (w_arg rfl))));first
   | (exact absurd j (by decide))
   | (simp at j;omega)
 cases c with
 |cons u v=>
  cases v;cases u with
  |list w y=>exact⟨_,_,ns,rfl,rfl,w,A4 ns _ y,q⟩
def PN(l:OpenLaw)(args:List WData):l.row.toRowW.claim.post args (.bool ai) args=ai:=
 postW_of
  (by first|rfl|decide|simp[WShape.has])
  (w_eq_bool (w_res rfl) w_lit) rfl
def IL{l:OpenLaw}
(hn:l.most=aa n)(u:d.params.defaults=[])
(call:∀(w:bt) (hU b:aq) (mg h:aB->Option ah) (e:ar) (o:cn) (pm cd doc:ah) (a:ar) (c:List ah) (ns:List Int),
   Ground q v [] y w hU mg h b.heap->z w b.heap->
   b.heap.get? e=aa o->o.data=.func (docDef d.name d.params d.body d.scope pm cd doc)->b.heap.CodeRec cd d.name->mg d.name=aa (.ref e)->
   b.heap.get? a=aa {cls:=.type ap,data:=.seq c.toArray}->akZ c ns->ns.length<=n->b.gens=#[]->
   codeAny (model l.prog w) akb (.call (.ref e) ⟨[.ref a],[]⟩) (λr g=>r=.ok (.ret (.bool ai))/\OldK b.heap g.heap/\g.os=b.os/\fE g.gens) b):
  WalkO q v y z l.row.toRowW d [] (λf c=>PySem.call f c):=by intro w hU b mg h G Y e o pm cd doc A kV B hd C p i E args H as I J L j M;obtain rfl:A=.none:=Dflts.none p u;obtain rfl:kV=.none:=Dflts.noKw p;obtain⟨a,c,ns,rfl,rfl,m,N,O⟩:=PM hn I j;refine enter_call (cX (call w hU b mg h e o pm cd doc a c ns G Y B (fd_plain hd) C i m N O E) λr g Q=>?_);obtain⟨rfl,T,U,h4⟩:=Q;exact⟨.inl ⟨.bool ai,.bool ai,[],rfl,λ_=>rfl,.bool ai,PN l _,λ_=>⟨ajz,λ_ hm=>(nomatch hm)⟩⟩,T,U,h4⟩
section
variable {prog:aP} {s:aq}
end
end Att
section
open PySem PySem.Spec PyProof.Rows
namespace L2
theorem Fv:∀{a:List ah} {ns:List Int},akZ a ns->Vals (ns.map V.int) a
 |_,_,.nil=>.nil
 |_,_,.cons n t h=>.cons ⟨t,rfl⟩ (Fv h)
abbrev KOf{K:af}{h:aw}(_:K.In h):af:=K
noncomputable def hZ(s:cN)(j:Nat):cN:=match s with
 |.ClassDef _ _ _ body _ _ _ _ _ _ _=>body.getD j (.Pass ⟨0,0,0,0⟩)
 |_=>.Pass ⟨0,0,0,0⟩
noncomputable def jE(s:cN):ako:=match s with
 |.FunctionDef _ a _ _ _ _ _ _ _ _=>a
 |_=>{posonlyargs:=[],args:=[],vararg:=am,kwonlyargs:=[],kw_defaults:=[],kwarg:=am,defaults:=[]}
noncomputable def iE(s:cN):List cN:=match s with
 |.FunctionDef _ _ b _ _ _ _ _ _ _=>b
 |_=>[]
noncomputable def ij(s:cN):cS:=match s with
 |.FunctionDef _ _ _ _ _ _ sc _ _ _=>sc
 |_=>{kind:=.function,names:=[],isGenerator:=ao,isCoroutine:=ao}
abbrev pZ:PC:=λ_ _ _ _ _ _=>False
abbrev E0:XK:=λ_ _ _=>False
def IM:uU pZ X E0:=λ_ _ _ _ _ _ _ h=>h.elim
structure uG(K:af)(x qual:aB)(st:cN)(f:ar)(fd:cI):Prop where
 ex:∃(oc:ah) (od:Option ar) (kV doc pm:ah) (an:Option ar) (ik ct:ah) (IB:Array (Option ah)),
  fd=dk x qual (jE st) (iE st) (ij st) .none kV doc pm an ik ct/\K.lookup f=aa ⟨oc,od,.func fd,IB⟩/\W.codeIn K ik qual=ai
 kp:dr K (.ref f)=ai
section
variable {K:af}
def uG.ok{st:cN}(F:uG K x qual st f fd)(S:ju N b (ij st))(len:∀a H Q E,sp a H Q E->a.length=b.length)
(c:∀(ik:ah) (A:bq) (cv:List gq) (s:aq) (H:Hp) (a:List V) (Q:VK) (E:XK),iV k (A.deeper (dY qual (ij st) s.heap.objs.size f ik))->sp a H Q E->
   ∃t,wX (rK pZ P w K mg cq N qual (ij st) f ik A cv s H E).ED (iE st) t/\t {nx:=λ_ e=>Q .non e,rt:=Q} (start N a) H):jo P w K mg cq pZ (k+1) f fd b sp:=by obtain⟨oc,od,kV,doc,pm,an,ik,ct,IB,rfl,lk,g⟩:=F.ex;refine Sr lk g S len λA cv s H a Q E i j=>?_;obtain⟨t,h,q⟩:=c ik A cv s H a Q E i j;exact⟨t,h.ED,q⟩
def uG.binds{st:cN}(F:uG K x qual st f fd)
(h:∀(kV doc pm:ah) (an:Option ar) (ik ct:ah) (us:List ah),us.length=a.length->dQ (dk x qual (jE st) (iE st) (ij st) .none kV doc pm an ik ct) ⟨us,[]⟩=pure (a.zip us)):Binds K fd a []:=by obtain⟨oc,od,kV,doc,pm,an,ik,ct,IB,rfl,lk,b⟩:=F.ex;exact .all (h kV doc pm an ik ct)
def LJ{st:cN}{kV doc pm ik ct:ah}(l:K.lookup f=aa ⟨oc,od,.func (dk x qual (jE st) (iE st) (ij st) .none kV doc pm an ik ct),IB⟩)
(c:W.codeIn K ik qual=ai)(k:dr K (.ref f)=ai):uG K x qual st f (dk x qual (jE st) (iE st) (ij st) .none kV doc pm an ik ct):=⟨⟨oc,od,kV,doc,pm,an,ik,ct,IB,rfl,l,c⟩,k⟩
end
def il(a:iV k A):A.units+1<gw:=b8 (Nat.add_le_add_left (by decide) _) a.units
def jC (H a:Hp):Prop:=∀b o,H b=aa o->a b=aa o
def jC.refl(H:Hp):jC H H:=λ_ _ h=>h
def jC.trans(a:jC H H1)(b:jC H1 e):jC H e:=λc o h=>b c o (a c o h)
def jC.free{H a:Hp}(e:jC H a){l:ar}(h:a l=Option.none):H l=Option.none:=by
 cases q:H l with
 |none=>rfl
 |some o=>
  rw[e l o q] at h;cases h
section
variable {κ:Type} [DecidableEq κ]
end
end L2
namespace L2
noncomputable def EG(env:gq):List (aB×dR)->List (aB×ar)->List (aB×ar)
 |[],acc=>acc
 | (n,k)::r,acc=>EG env r (if(k==eP)=ai then(n,(env.cells.lookup n).getD 0)::acc else acc)
def wO(h:∀x∈scope.names,x.2=.free->∃c,env.cells.lookup x.1=aa c):aj7 scope env=pure (EG env scope.names []):=by
 unfold aj7;generalize ([])=acc;generalize scope.names=l at h;induction l generalizing acc with
 |nil=>rfl
 |cons x r b=>
  obtain⟨n,k⟩:=x;have b:=λa=>b a λy g=>h y (ax _ g);simp only [List.forIn_cons,EG];by_cases f:k=.free
  .obtain⟨c,hc⟩:=h (n,k) aE f;subst f;have e:cellOf env n=pure c:=by unfold cellOf;rw[hc]
   simp only [e,hc];exact b _
  .have:(k==eP)=ao:=by simpa using f
   simp only [this];exact b acc
set_option tactic.hygienic true in
theorem IN:∀(l:List _) (acc:List _),(∀z d,acc.lookup z=aa d->env.cells.lookup z=aa d)->(∀x∈l,x.2=.free->∃c,env.cells.lookup x.1=aa c)->
  (EG env l acc).lookup y=aa c->env.cells.lookup y=aa c
 |[],acc,ha,_,e=>ha y c e
 | (n,k)::r,acc,ha,h,e=>by
  refine IN r _ ?_ (λx i=>h x (ax _ i)) e;intro z d a;split at a
  .rename_i g;have g:=by simpa using g
   obtain⟨j,b⟩:=h (n,k) aE g;rw[dq,b] at a;by_cases f:z=n
   .subst f;simp only [beq_self_eq_true] at a;rw[b];exact a
   .have:(z==n)=ao:=by simpa using f
    rw[this] at a;exact ha z d a
  .exact ha z d a
theorem Ch:∀(l:List _) (acc:List _),((∃c,acc.lookup y=aa c)\/(y,eP)∈l)->∃c,(EG env l acc).lookup y=aa c
 |[],acc,h=>h.elim (λx=>x) λx=>by cases x
 | (n,k)::r,acc,h=>by
  refine Ch r _ ?_;rcases h with⟨c,hc⟩|h
  .left;split
   .rw[dq];split
    .exact⟨_,rfl⟩
    .exact⟨c,hc⟩
   .exact⟨c,hc⟩
  .rcases aN.mp h with h|h
   .cases h;simp
   .exact .inr h
noncomputable def uO(X:Cx)(scope:cS)(N:List aB)(C:ar)(ex:List ar)(cf:List (ar×cn))(hU:aq)(hW:Hp)(E:ah->aq->Prop):Cx where
 prog:=X.prog
 w:=X.w
 K:=X.K
 mg:=X.mg
 cq:=X.cq
 A:=X.A
 N:=N
 hU:=hU
 hW:=hW
 env:=compEnvC scope (EG X.env scope.names []) C X.env
 cv:=X.stack
 stack:=X.stack
 ex:=ex
 fn:=λ_=>ao
 calm:=X.calm
 pn:=X.pn++cf
 xe:=E
noncomputable def slots(fr:List (Option Nat))(a:St):St:=fr.map λo=>match o with
 |none=>am
 |some j=>(a[j]?).getD am
noncomputable def yg(PP N:List aB)(fr:List (Option Nat))(scope a:cS):Bool:=
 (N.zip fr).all (λp=>match p.2 with
  |none=>ai
  |some j=>decide (PP[j]?=aa p.1)&&decide (scope.names.lookup p.1=aa .free))&&
 scope.names.all (λx=>x.2!=.cell&&(x.2!=.free||(a.names.lookup x.1==aa .cell||a.names.lookup x.1==aa .free))&&(x.2!=.local||decide (scope.names.lookup x.1=aa .local)))&&
 decide (fr.length=N.length)&&(scope.kind==.function)
structure l8(X:Cx)(N:List aB)(fr:List (Option Nat))(scope:cS):Prop where
 cell:∀y∈scope.names,y.2≠.cell
 free:∀y∈scope.names,y.2=.free->X.env.kindOf y.1=aa .cell\/X.env.kindOf y.1=aa .free
 loc:∀y∈scope.names,y.2=.local->scope.names.lookup y.1=aa .local
 slot:∀(i j:Nat) (x:aB),N[i]?=aa x->fr[i]?=aa (aa j)->X.N[j]?=aa x/\scope.names.lookup x=aa .free
 len:fr.length=N.length
 kind:scope.kind=.function
def l8.of(h:yg PP N fr scope w5=ai)(c:X.N=PP:=by rfl)(e:X.env.scope.names=w5.names:=by rfl):l8 X N fr scope:=by
 unfold yg at h;simp only [aU,decide_eq_true_eq,bG,beq_iff_eq] at h;obtain⟨⟨⟨f,b⟩,g⟩,m⟩:=h;refine⟨λy a=>?_,λy a n=>?_,λy a o=>?_,λi j x e1 e2=>?_,g,m⟩
 .have:=(b y a).1.1;simpa using this
 .have:=(b y a).1.2;unfold gq.kindOf;rw[e];simpa[n] using this
 .have:=(b y a).2;simpa[o] using this
 .have hm:(x,aa j)∈N.zip fr:=by refine aS (i:=i) ?_;rw[eR];exact⟨e1,e2⟩
  have:=f _ hm;rw[c];simpa using this
def PQ{i:Nat}(h:(slots fr b)[i]?=aa (aa v)):∃j:Nat,fr[i]?=aa (aa j)/\b[j]?=aa (aa v):=by
 unfold slots at h;rw[bn] at h;cases e:fr[i]? with
 |none=>rw[e] at h;cases h
 |some o=>
  rw[e] at h;cases o with
  |none=>cases h
  |some j=>
   refine⟨j,rfl,?_⟩;have a:=by simpa using h
   cases e2:b[j]? with
   |none=>rw[e2] at a;cases a
   |some q=>rw[e2] at a;simp at a;rw[a]
set_option tactic.hygienic true in
theorem tI{scope:cS}{env:gq}:∀{l:List _} {x:aB} {k:dR},
  (l.map λ(n,k)=>if(k==eP&&env.scope.kind==.function&&env.kindOf n==aa .cell) then(n,dR.cell) else(n,k)).lookup x=aa k->
  ∃k',(x,k')∈l/\l.lookup x=aa k'/\(k=k'\/(k'=.free/\k=.cell))
 |[],x,k,h=>by cases h
 | (n,b)::r,x,k,h=>by
  simp only [aZ] at h;by_cases a:x=n
  .subst a;refine⟨b,aE,by simp,?_⟩;split at h
   .rename_i hc;simp at h;have:=by simp at hc;exact hc.1.1
    exact .inr ⟨this,h.symm⟩
   .simp at h;exact .inl h.symm
  .have hb:(x==n)=ao:=by simpa using a
   have c:=by split at h<;>(rw[dq,hb] at h;exact h)
   obtain⟨k',m,e,q⟩:=tI (scope:=scope) c;exact⟨k',ax _ m,by rw[dq,hb];exact e,q⟩
theorem Ax{env:gq}:∀{l:List _} {x:aB},l.lookup x=aa .free->
  (l.map λ(n,k)=>if(k==eP&&env.scope.kind==.function&&env.kindOf n==aa .cell) then(n,dR.cell) else(n,k)).lookup x=aa .cell\/
  (l.map λ(n,k)=>if(k==eP&&env.scope.kind==.function&&env.kindOf n==aa .cell) then(n,dR.cell) else(n,k)).lookup x=aa .free
 |[],x,h=>by cases h
 | (n,b)::r,x,h=>by
  simp only [aZ];by_cases a:x=n
  .subst a;simp at h;subst h;split
   .left;simp
   .right;simp
  .have hb:(x==n)=ao:=by simpa using a
   rw[dq,hb] at h;have:=Ax (env:=env) h;split<;>(rw[dq,hb];exact this)
section
variable {X:Cx} {s:aq} {scope:cS}
def Inv.SJ(I:Inv X cf σ H s)(c:l8 X N fr scope):∀x∈scope.names,x.2=.free->∃c,X.env.cells.lookup x.1=aa c:=λx a b=>I.ok.has x.1 (c.free x a b)
def Inv.ZX(I:Inv X cf σ H s)(c:l8 X N fr scope)(h:(EG X.env scope.names []).lookup y=aa a):X.env.cells.lookup y=aa a:=
 IN _ [] (λ_ _ e=>by cases e) (I.SJ c) h
def Inv.block(I:Inv X cf σ H s)(c:l8 X N fr scope)(g:∀b∈fp,tE X cf H b)(L:∀b∈fp,b<s.heap.objs.size)(hn:U.Ns s.heap.objs.size m)(A:∀b o,s.heap.get? b=aa o->U.get? b=aa o):
  Inv (uO X scope N s.heap.objs.size fp cf s H E) [] (slots fr σ) H {s with heap:=U,toks:=t'}:=by
 have cg:∀y a,(EG X.env scope.names []).lookup y=aa a->X.env.cells.lookup y=aa a:=λy a=>I.ZX c;refine⟨⟨I.ok.mod,c.kind,I.ok.glob,I.ok.blt,aC _,λx y a h1 h2=>I.ok.inj x y a (cg x a h1) (cg y a h2),λx hx=>?_,λx a g=>(by cases g),I.ok.hd,I.ok.frames,.inl rfl,λb hb=>?_,I.bs,bh I.ok.Po I.sz,λb o e hb=>?_,λb hb=>?_,I.stack,I.NE⟩,
  rfl,I.bare,Un.kept A,⟨m,hn,λi x v e1 e2 e3=>?_⟩,λx a e=>?_,I.iC.fresh (aC _),λx a e=>I.mo x a (cg x a e),λp Y=>?_,I.iC.kept A,?_⟩
 .have NT:=hx;have:(x,eP)∈scope.names:=by
   rcases NT with h|h
   .obtain⟨k',J,_,q⟩:=tI (scope:=scope) h;rcases q with q|q
    .subst q;exact absurd rfl (c.cell _ J)
    .rw[<-q.1];exact J
   .obtain⟨k',J,_,q⟩:=tI (scope:=scope) h;rcases q with q|q
    .subst q;exact J
    .cases q.2
  exact Ch scope.names [] (.inr this)
 .obtain⟨f0,B,C,f,M,f5⟩:=g b hb;exact⟨bg (L b hb),λx a e=>M x a (cg x a e)⟩
 .obtain⟨f0,B,C,f,M,f5⟩:=g b hb;rcases f with f|f
  .exact I.ok.Ir b o e f
  .exact absurd (bw (aH e) (bh I.ok.Po f)) (cB _)
 .obtain⟨f0,B,C,f,M,f5⟩:=g b hb;intro z;rcases aN.mp (I.tu b z) with z|z
  .exact B z
  .exact C z
 .obtain⟨j,B,C⟩:=PQ e2;obtain⟨g1,O⟩:=c.slot i j x e1 B;have G:=c.free (x,.free) (PySem.mem_of_lookup O) rfl;have uN:Rz X.env.scope x:=.inr G;obtain⟨m0,_,hl⟩:=I.loc;obtain⟨u,r,lk⟩:=hl j x v g1 C uN;refine⟨u,r,.inr ⟨Ax O,?_⟩⟩;obtain⟨a,ha⟩:=Ch (env:=X.env) (y:=x) scope.names [] (.inr (PySem.mem_of_lookup O));refine⟨a,ha,?_⟩;have Q:=cg x a ha;rcases lk with⟨q,_⟩|⟨_,a',e',z⟩
  .rcases G with w|w<;>(rw[q] at w;cases w)
  .rw[Q] at e';cases e';obtain⟨o,T,hd⟩:=z;exact⟨o,A _ o T,hd⟩
 .obtain⟨v,o,T,hd⟩:=I.cell x a (cg x a e);exact⟨v,o,A _ o T,hd⟩
 .rw[aR] at Y;obtain⟨e,n,ne,nf,d⟩:=I.pin p Y;refine⟨A _ _ e,n,bg (aH e),λz=>?_,d⟩;rcases aN.mp (I.tu p.1 z) with z|z
  .exact ne z
  .exact nf z
 .unfold slots;rw[ak];exact c.len
def Inv.unblock(I:Inv X cf σ H s)(a:∀b∈fp,tE X cf H b)(J:Inv (uO X scope N C fp cf s H E) j m c e):Inv X cf σ c e:=
 I.As J.os J.cq J.iC J.bare λb hb=>by obtain⟨n,f,o,g,h,i⟩:=a b hb;exact⟨g,f,h,i⟩
end
def uZ(I:Nat->aq->Prop)
(turn:∀n s,I n s->wpAny (model prog w) A (pyNext it) (λr g=>match r with
   |none=>R (.ok .next) g
   |some v=>wpAny (model prog w) A (letOwnedTupleGo target it v) (λ_ o=>wpAny (model prog w) A (assign target env v) (λ_ p=>
     wpAny (model prog w) A (forIn ifs ai λc r=>if r=ai then do let ok<-akT c env (eval c env);pure (ajd ok) else pure (ajd r)) (λok i=>
      if ok=ai then wpAny (model prog w) A (eval elt env) (λx q=>
       wpAny (model prog w) A (call (.builtin "list.append") [acc,x]) (λ_ f=>∃m,m<n/\I m f) (akr (model prog w) A env λe a=>R (.error e) a) q) (akr (model prog w) A env λe a=>R (.error e) a) i
      else∃m,m<n/\I m i) (akr (model prog w) A env λe a=>R (.error e) a) p) (akr (model prog w) A env λe a=>R (.error e) a) o) (akr (model prog w) A env λe a=>R (.error e) a) g) (akr (model prog w) A env λe a=>R (.error e) a) s)
(n:Nat)(h:I n s):
  codeAny (model prog w) A (.compLoop (.ListComp elt [⟨target,iter,ifs,0⟩] scope pos) 0 it acc env) R s:=by
 refine codeAny_loop rfl I (λn s z=>?_) n h;show wpAny _ A _ _ _ s;refine wpAny_noted ?_;rw[compTurn_list];refine ae (fw (ae (cc (turn n s z) (λr g u=>?_) λ_ _ b=>b)));cases r with
 |none=>exact av u
 |some v=>
  refine ae (cc u (λ_ o j=>?_) λ_ _ b=>b);refine ae (cc j (λ_ p B=>ae (cc B (λok i y=>?_) λ_ _ b=>b)) λ_ _ b=>b);cases ok with
  |false=>exact av ⟨rfl,y⟩
  |true=>
   exact ae (ae (cc y (λx q C=>ae (cc C (λ_ f E=>av (av ⟨rfl,E⟩)) λ_ _ b=>b)) λ_ _ b=>b))
def PIf (X:Cx)(ifs:List bv)(t:TT):Prop:=
 ∀(cf:List (ar×cn)) (s:aq) (a:St) (H:Hp) (Q:Bool->Hp->Prop),Inv X cf a H s->t a H Q->
  wpAny (model X.prog X.w) X.A (forIn ifs ai λc r=>if r=ai then do let ok<-akT c X.env (eval c X.env);pure (ajd ok) else pure (ajd r)) (TP X cf a Q) X.xe s
def ah6:TT:=λ_ H Q=>Q ai H
def W2:PIf X [] ah6:=λ_ _ _ H _ I h=>wpAny_tests_nil ⟨H,I,h⟩
def W3(h:PT X c t):PIf X [c] t:=λcf s a H Q I q=>wpAny_tests_one (h cf s a H Q I q)
def NU (fr:List (Option Nat))(wi:TI)(g:TG)(tt:TT)(q:TE):TE:=λu H Q=>wi u H λJ H1=>∀p,H1 p=am->
 ∃W:Nat->Nat->List V->St->Hp->Prop,(∃m,W 0 m [] (slots fr u) (upd H1 p (.lst [])))/\∀i m a u H,W i m a u H->
   (J.stop i H/\Q (.ref p) H)\/(J.go i H/\∃N:List V->St->Hp->Prop,(∀c h e,N c h e->∃j,j<m/\W (i+1) j c h e)/\
   ∀x e,J.ZO i H x e->g x u e λf r=>tt f r λb n=>if b=ai then q f n λv o=>o p=aa (.lst a)/\a.length<az/\N (a++[v]) f (upd o p (.lst (a++[v]))) else N a f n)
section
variable {X:Cx} {scope:cS} {iter:bv}
def Fw(c:l8 X N fr scope)(mq:X.calm=ai)(hi:PI X target iter wi)
(hg:∀C ex cf hU hW,PG (uO X scope N C ex cf hU hW λ_ _=>False) target g)
(ht:∀C ex cf hU hW,PIf (uO X scope N C ex cf hU hW λ_ _=>False) ifs tt)
(he:∀C ex cf hU hW,PE (uO X scope N C ex cf hU hW λ_ _=>False) elt te)
{cf:List (ar×cn)}{s:aq}{F:St}{H:Hp}{Q:VK}{R:ah->ar->akx->aq->Prop}(I:Inv X cf F H s)(h:NU fr wi g tt te F H Q)
(jG:∀p C m s' f,Inv X cf F f s'->tE X cf f C->s'.heap.Ns C m->Q (.ref p) f->R (.ref p) C (.ok .next) s'):
  wpAny (model X.prog X.w) X.A (eval iter X.env) (λx iY=>wpAny (model X.prog X.w) X.A (akt x) (λit EE=>wpAny (model X.prog X.w) X.A (newList []) (λacc zn=>
   wpAny (model X.prog X.w) X.A (newFunctionEnv scope X.env.globals (EG X.env scope.names []) [] X.env.qual am .none (aa X.env)) (λae3 W1=>
    codeAny (model X.prog X.w) X.A (.compStart (.ListComp elt [⟨target,iter,ifs,0⟩] scope pos) 0 it acc {ae3 with scope:=relabel scope X.env}) (R acc ae3.locals) W1) X.xe zn) X.xe EE) X.xe iY) X.xe s:=by
 refine jB (hi cf s F H _ I h) λv s1 h1=>jB h1 λitv s2 h2=>?_;obtain⟨it,j,tn,J,G,e,I2,T,st2,f2,h2⟩:=h2;subst e;have ae4:∀b∈j,b<s2.heap.objs.size:=λb hb=>by obtain⟨o,e,_⟩:=T.obj _ _ st2 b hb;exact aH e
 have hp0:G s2.heap.objs.size=am:=I2.fresh;obtain⟨W,⟨m0,w0⟩,turn⟩:=h2 _ hp0;refine ajt ?_;generalize hs3:({s2 with heap:=s2.heap.push {cls:=.type ap,dict:=am,data:=.seq ([]:List ah).toArray}}:aq)=s3;have Y:s3={s2 with heap:=s2.heap.push {cls:=.type ap,data:=.seq ([]:List ah).toArray},toks:=s2.toks}:=hs3.symm;have I3:Inv X cf F (upd G s2.heap.objs.size (.lst [])) s3:=by rw[Y];exact I2.abI .nil (bu _)
 have sz3:s3.heap.objs.size=s2.heap.objs.size+1:=by rw[Y];exact bZ ..
 have nep:∀b∈j,b≠s2.heap.objs.size:=λb hb=>bg (ae4 b hb);have f3:∀b∈j,tE X cf (upd G s2.heap.objs.size (.lst [])) b:=λb hb=>⟨by rw[gR (nep b hb)];exact(f2 b hb).1,(f2 b hb).2⟩;have st3:tn 0 s3.heap:=T.keep _ _ _ st2 λb hb o e=>by rw[Y];exact aj _ e
 refine wpAny_newFunctionEnv c.cell (by intro y hy;simp at hy) (λh4 hn4 ae5=>?_) c.kind;try dsimp only at hn4 ae5 |-
 have k4:∀b o,s3.heap.get? b=aa o->h4.get? b=aa o:=λb o e=>ae5.extBut b o (bg (aH e)) (aj _ e);have ZZ:∀b∈j,b<s3.heap.objs.size:=λb hb=>by rw[sz3];exact cV (ae4 b hb)
 have I4:Inv (uO X scope N s3.heap.objs.size j cf s3 (upd G s2.heap.objs.size (.lst [])) λ_ _=>False) [] (slots fr F) (upd G s2.heap.objs.size (.lst [])) {s3 with heap:=h4,toks:=s3.toks+([]:List (aB×ah)).length}:=I3.block c f3 ZZ hn4 k4;have st4:tn 0 h4:=T.keep _ _ _ st3 λb hb o e=>k4 b o e;have Lo:∀{f:Hp},(∀b∈j,f b=am)->∀b∈j,tE (uO X scope N s3.heap.objs.size j cf s3 (upd G s2.heap.objs.size (.lst [])) λ_ _=>False) [] f b:=λ{f} hn b hb=>by
  obtain⟨g0,g1,g2,g3,g4,g5⟩:=f3 b hb;refine⟨hn b hb,bg (ZZ b hb),λz=>?_,.inl hb,λx a e=>g4 x a (I3.ZX c e),λp hp=>?_⟩
  .rcases aN.mp (I3.tu b z) with z|z
   .exact g1 z
   .exact g2 z
  .rw[aR] at hp;exact g5 p hp
 have loop:∀s5:aq,s5={s3 with heap:=h4,toks:=s3.toks+([]:List (aB×ah)).length}->codeAny (model X.prog X.w) X.A (.compLoop (.ListComp elt [⟨target,iter,ifs,0⟩] scope pos) 0 (.ref it) (.ref s2.heap.objs.size) (compEnvC scope (EG X.env scope.names []) s3.heap.objs.size X.env)) (R (.ref s2.heap.objs.size) s3.heap.objs.size) s5:=by
  rintro s5 rfl
  refine uZ (λn s'=>∃i ys jn f,Inv (uO X scope N s3.heap.objs.size j cf s3 (upd G s2.heap.objs.size (.lst [])) λ_ _=>False) [] jn f s'/\tn i s'.heap/\(∀b∈j,f b=am)/\W i n ys jn f) ?_ m0
   ⟨0,[],slots fr F,_,I4,st4,λb hb=>(f3 b hb).1,w0⟩
  rintro n s6 ⟨i,ys,M,H6,I6,st6,fr6,w6⟩
  rcases turn i n ys M H6 w6 with⟨stop,q⟩|⟨go,Nx,hN,step⟩
  .refine jB (T.done (uO X scope N s3.heap.objs.size j cf s3 (upd G s2.heap.objs.size (.lst [])) λ_ _=>False) rfl rfl rfl mq i [] s6 M H6 _ I6 (Lo fr6) st6 stop) λr s7 zq=>?_;obtain⟨hr,I7⟩:=zq;subst hr;obtain⟨m7,n7,_⟩:=I7.loc;exact jG _ _ m7 s7 H6 (I3.unblock f3 I7) (I3.Iw (aC _) I7.free) n7 q
  .refine jB (T.item (uO X scope N s3.heap.objs.size j cf s3 (upd G s2.heap.objs.size (.lst [])) λ_ _=>False) rfl rfl rfl mq i [] s6 M H6 _ I6 (Lo fr6) st6 go) λr s7 zq=>?_;obtain⟨u,hr,h7⟩:=zq;subst hr;refine jB h7 λ_ s8 zq=>?_;obtain⟨x,H8,I8,r8,y8,st8,fr8⟩:=zq;have I8':=I8.pinned (Lo fr8) (T.obj _ _ st8);refine cc (hg _ _ _ _ _ _ s8 M H8 x u _ I8' r8 (step x H8 y8)) (λ_ s9 zq=>?_) λ_ _ z=>b9 z;obtain⟨O,H9,I9,q9⟩:=zq;refine cc (ht _ _ _ _ _ _ s9 O H9 _ I9 q9) (λb s10 zq=>?_) λ_ _ z=>b9 z;obtain⟨H10,I10,U⟩:=zq;have again:∀{B:aq} {W4:St} {E:Hp} {ys':List V},Inv (uO X scope N s3.heap.objs.size j cf s3 (upd G s2.heap.objs.size (.lst [])) λ_ _=>False) ([]++Cc j s8.heap) W4 E B->Nx ys' W4 E->∃m,m<n/\∃i ys jn f,Inv (uO X scope N s3.heap.objs.size j cf s3 (upd G s2.heap.objs.size (.lst [])) λ_ _=>False) [] jn f B/\tn i B.heap/\(∀b∈j,f b=am)/\W i m ys jn f:=λ{B W4 E ys'} L n11=>by obtain⟨m',hm,w11⟩:=hN _ _ _ n11;refine⟨m',hm,i+1,ys',W4,E,L.xY,T.keep _ _ _ st8 λb hb o e=>(L.pin (b,o) (bH _ (bH _ (tF hb e)))).1,λb hb=>?_,w11⟩;obtain⟨o,e,d⟩:=T.obj _ _ st8 b hb;exact(L.pin (b,o) (bH _ (bH _ (tF hb e)))).2.1
   cases b with
   |false=>
    rw[if_neg bi] at U |-;exact again I10 U
   |true=>
    rw[if_pos rfl] at U |-;refine cc (he _ _ _ _ _ _ s10 O H10 _ I10 U) (λu11 B zq=>?_) λ_ _ z=>b9 z;obtain⟨x11,E,L,r11,ah7,ah8,q11⟩:=zq;refine cc (Fu (X:=uO X scope N s3.heap.objs.size j cf s3 (upd G s2.heap.objs.size (.lst [])) λ_ _=>False) _ B O E (.ref s2.heap.objs.size) [x11] (.ref s2.heap.objs.size) [u11] (λ_ f=>Nx (ys++[x11]) O f) L rfl (.cons r11 .nil) ⟨_,ys,x11,rfl,rfl,ah7,ah8,q11⟩) (λ_ s12 zq=>?_) λ_ _ z=>b9 z;obtain⟨_,H12,I12,_,q12⟩:=zq;exact again I12 q12
 exact codeAny_compStart_list (loop _ rfl) (T.self X.A 0 _ _ _ st4 (loop _ rfl))
def Inv.Z0(I:Inv X cf σ H s)(f:tE X cf H C)(a:bM C s.heap c):Inv X cf σ H {s with heap:=c}:=by obtain⟨h,i,p,j,m,n⟩:=f;exact I.turned (λb o hb e=>(a.2 b hb).trans e) h i j m n
def W5(c:l8 X N fr scope)(b:X.calm=ai)(hi:PI X target iter wi)
(e:∀C ex cf hU hW,PG (uO X scope N C ex cf hU hW λ_ _=>False) target g)
(ht:∀C ex cf hU hW,PIf (uO X scope N C ex cf hU hW λ_ _=>False) ifs tt)
(i:∀C ex cf hU hW,PE (uO X scope N C ex cf hU hW λ_ _=>False) elt te)
(j:∀x,cx iter X.env x=pure x:=by intro _;rfl):PE X (.ListComp elt [⟨target,iter,ifs,0⟩] scope pos) (NU fr wi g tt te):=by intro cf s v H Q I h;refine akJ rfl j (wO (I.SJ c)) c.kind c.loc (Fw c b hi e ht i I h λp C m r n o f hn q=>?_);exact⟨m,hn,λu a=>⟨.ref p,n,o.Z0 f a,rfl,q⟩⟩
def ae6 (i:Nat)(te:TE):TS:=λD a H=>te a H λv H1=>D.nx (a.set i (aa v)) H1
def NV(c:l8 X N fr scope)(o:X.calm=ai)(hi:PI X target iter wi)
(r:∀C ex cf hU hW,PG (uO X scope N C ex cf hU hW λ_ _=>False) target g)
(ht:∀C ex cf hU hW,PIf (uO X scope N C ex cf hU hW λ_ _=>False) ifs tt)
(u:∀C ex cf hU hW,PE (uO X scope N C ex cf hU hW λ_ _=>False) elt te)
(w:X.N.Nodup)(z:X.N[i]?=aa y)(A:Loc X.env.scope y)
(B:c5 (.ListComp elt [⟨target,iter,ifs,0⟩] scope pos) (aa (.Name y py)) ae7.line X.env=pure ai:=by rfl)(E:X.fn y=ai\/X.env.scope.names.lookup y=aa .local:=by first|exact .inl rfl|exact .inr rfl|assumption)
(G:∀x,cx iter X.env x=pure x:=by intro _;rfl):PS X (.Assign [.Name y py] (.ListComp elt [⟨target,iter,ifs,0⟩] scope pos) ae7) (ae6 i (NU fr wi g tt te)):=by
 intro cf s F H D I h;rw[exec_Assign_Name_used _ _ _ _ B];refine ae (fw (ae ?_));refine ae (jB (akJ rfl G (wO (I.SJ c)) c.kind c.loc
  (Fw c o hi r ht u I h λp C m J L M f hn q=>?_)) (λ_ J O=>av (av O)))
 refine alp (zm (v:=.ref p) M w z A rfl (λs2 Q b=>?_) E);obtain⟨a,sb,ha⟩:=b;have j:C≠a:=by
  rcases ha with ha|ha
  .rw[ha];exact f.2.1
  .exactλe=>f.2.2.2.2.1 y a ha e.symm
 exact⟨m,hn.sameBut sb j,λT n=>⟨_,L,Q.Z0 f n,q⟩⟩
end
noncomputable def Its(x:aB):It:=⟨λi _=>i<x.cps.size,λi H v a=>a=H/\∃c,x.cps[i]?=aa c/\v=.str ⟨#[c]⟩,λi _=>x.cps.size<=i⟩
def oy:eG x=uaE\/eG x="str_iterator":=by
 unfold eG;split
 .exact .inl rfl
 .exact .inr rfl
def SK{w:bt}{K:af}(it:ar)(x:aB)(t:alM):Turn P w K tg (Its x) [it] it (λi h=>h.IsStrIter it (eG x) x t i/\i<=x.cps.size) where
 mem:=by simp
 obj:=λi h st b hb=>by
  have e:b=it:=by simpa using hb
  subst e;obtain⟨⟨o,e,c,d⟩,_⟩:=st;exact⟨o,e,λv z=>by rw[d] at z;cases z⟩
 keep:=λi h a st k=>by obtain⟨⟨o,e,c,d⟩,l⟩:=st;exact⟨⟨o,k it (by simp) o e,c,d⟩,l⟩
 item:=by
  intro X C hw G hc i cf s F H E I m st f;subst C hw G;obtain⟨n,p,O,q,r,y⟩:=m it (by simp);rcases oy (x:=x) with e|e
  .rw[e] at st |-;have W:=aku.strAscii (prog:=X.prog) (w:=X.w) (I.ok.hd hc) it x t;refine W.item i s _ _ f st.1 λv a tk J B g=>?_;obtain⟨c,u,j,rfl⟩:=J;have L:Inv X cf F H {s with heap:=a,toks:=tk}:=I.turned (λb o hb e=>g b o (by simpa using hb) e) n p q r y;obtain⟨o,e1,M,N⟩:=id B;exact⟨_,rfl,Ix (s:={s with heap:=a,toks:=tk}) e1 M N (by decide) ⟨.str ⟨#[c]⟩,H,L,⟨u,rfl⟩,⟨rfl,c,j,rfl⟩,⟨B,f⟩,λb hb=>(m b hb).1⟩⟩
  .rw[e] at st |-;have W:=aku.strWide (prog:=X.prog) (w:=X.w) (I.ok.hd hc) it x t;refine W.item i s _ _ f st.1 λv a tk J B g=>?_;obtain⟨c,u,j,rfl⟩:=J;have L:Inv X cf F H {s with heap:=a,toks:=tk}:=I.turned (λb o hb e=>g b o (by simpa using hb) e) n p q r y;obtain⟨o,e1,M,N⟩:=id B;exact⟨_,rfl,Ix (s:={s with heap:=a,toks:=tk}) e1 M N (by decide) ⟨.str ⟨#[c]⟩,H,L,⟨u,rfl⟩,⟨rfl,c,j,rfl⟩,⟨B,f⟩,λb hb=>(m b hb).1⟩⟩
 done:=by
  intro X C hw G hc i cf s F H E I m st f;subst C hw G;obtain⟨n,p,O,q,r,y⟩:=m it (by simp);have f:x.cps.size<=i:=f;obtain⟨st,l⟩:=st;have hi:i=x.cps.size:=by lia
  subst hi;rcases oy (x:=x) with e|e
  .rw[e] at st;exact(aku.strAscii (w:=X.w) (I.ok.hd hc) it x t).done s _ _ st λa tk g=>⟨rfl,I.turned (λb o hb e=>g b o (by simpa using hb) e) n p q r y⟩
  .rw[e] at st;exact(aku.strWide (w:=X.w) (I.ok.hd hc) it x t).done s _ _ st λa tk g=>⟨rfl,I.turned (λb o hb e=>g b o (by simpa using hb) e) n p q r y⟩
 self:=λA i s Q E st h=>by
  obtain⟨st,l⟩:=st;rcases oy (x:=x) with e|e
  .rw[e] at st;exact wpAny_pyIter_striter_ascii st h
  .rw[e] at st;exact wpAny_pyIter_striter_wide st h
section
variable {X:Cx}
def SM(hc:X.calm=ai):nz X (.builtin "all") (λxs H Q=>∃(a:ar) (bs:List Bool),xs=[V.ref a]/\nr X.K H a (bs.map V.bl)/\Q (.bl (bs.all id)) H):=by
 intro cf s F H xs us Q I r h;obtain⟨a,bs,rfl,m,q⟩:=h;obtain⟨u,rfl,c⟩:=vals1 r;cases c;obtain⟨ig,f,p,L⟩:=I.list m;have w:X.A.in1.handled=am:=I.ok.hd hc;refine call_all_walk (dS p.isList ?_);have y:a<s.heap.objs.size:=by obtain⟨o,n,e,_⟩:=p;exact aH e
 have z:ig.length=bs.length:=by have:=f.length;rw[ak] at this;exact this.symm
 have B:∀(i:Nat) (v:ah),ig[i]?=aa v->v=.bool (bs.getD i ao):=λi v e=>by
  have hi:i<ig.length:=(au.mp e).1;have hb:(bs.map V.bl)[i]?=aa (V.bl (bs.getD i ao)):=by rw[bn,bF,ay (by lia)];rfl
  obtain⟨u,g,c⟩:=f.get hb;rw[e] at g;cases g;exact c
 refine⟨s.heap.objs.size,_,_,_,_,_,λi=>bs.getD i ao,rfl,aku.list w s.heap.objs.size a (bg y) ig.toArray,⟨⟨_,aJ _ rfl,rfl,rfl⟩,p.isList.push _⟩,λi v M N O C E=>?_,λT tk G=>?_⟩
 .have:=B i v (by simpa using C);subst this;exact cw E
 .have e:(bY ig.toArray.size).all (λi=>bs.getD i ao)=bs.all id:=by
   rw[aO,z];have key:∀l:List Bool,(bY l.length).all (λi=>l.getD i ao)=l.all id:=by
    intro l;rw[f9];simp only [bG,fD,id];constructor
    .intro h x J;obtain⟨i,hi,rfl⟩:=ajI.mp J;have:=h i hi
     rwa [bF,ay hi] at this
    .intro h i hi;rw[bF,ay hi];exact h _ (fU hi)
   exact key bs
  rw[e];refine⟨.bl _,H,I.kept (t':=tk) λb o j=>?_,rfl,q⟩;exact G b o (by simpa using bg (aH j)) (aj _ j)
def PR:sY X (compareOp .LtE) (λx y H Q=>∃i j,x=.str i/\y=.str j/\Q (.bl (!decide (j.cps.toList<i.cps.toList))) H):=by intro cf s e H x y v u Q I a b h;obtain⟨i,j,rfl,rfl,q⟩:=h;obtain⟨t,rfl⟩:=a;obtain⟨c,rfl⟩:=b;exact P.le_str (iJ I q rfl)
def abP:Wb X (λx lo hi H Q=>∃z,x=.str z/\z.length<=az/\Q (.str (Txt.slice z lo hi)) H):=by
 intro cf s o H x v c e lo hi sl Q I f g pl a h;obtain⟨z,rfl,m,q⟩:=h;obtain⟨t,rfl⟩:=f;have key:∀(l u:Option _),partValue l=c->partValue u=e->l.map (·.1)=lo->u.map (·.1)=hi->wpAny (model X.prog X.w) X.A (ajO (.str z t) (.ref sl)) (EP X cf o Q) X.xe s:=by
  rintro l u rfl rfl rfl rfl
  refine wpAny_getItem_str_slice (st:=am) g rfl (post_val_or_str ⟨bh (Txt.slice_le z _ _) m,λn k=>⟨.str _,H,I.tok k,⟨_,rfl⟩,q⟩⟩)
 refine⟨hX,_,F.slot_str_getitem.lookup,ali _ _ _,?_⟩;cases pl with
 |none=>
  cases a with
  |none=>exact key am am rfl rfl rfl rfl
  |int j u=>exact key am (aa (j,u)) rfl rfl rfl rfl
 |int i b=>
  cases a with
  |none=>exact key (aa (i,b)) am rfl rfl rfl rfl
  |int j u=>exact key (aa (i,b)) (aa (j,u)) rfl rfl rfl rfl
end
def gY (K:af)(mg:aB->Option ah)(x:aB)(st:cN):Prop:=∃f fd,uG K x x st f fd/\mg x=aa (.ref f)
def lM (P:aP)(w:bt)(K:af)(mg:aB->Option ah)(cq:aw)(k:Nat)(x:aB)(a:List aB)(sp:Sp):Prop:=
 ∃f fd,mg x=aa (.ref f)/\dr K (.ref f)=ai/\Binds K fd a []/\jo P w K mg cq pZ k f fd a sp
def SN{K:af}(X:K.In h)(G:h.Ns bf mg){st:cN}{kV doc pm ik ct:ah}
(a:bz K bf x=aa (aa (.ref f)))(l:K.lookup f=aa ⟨oc,od,.func (dk x x (jE st) (iE st) (ij st) .none kV doc pm an ik ct),IB⟩)
(c:W.codeIn K ik x=ai)(k:dr K (.ref f)=ai):gY K mg x st:=⟨f,_,LJ l c k,cP X G a⟩
section
variable {K:af}
def gY.has{st:cN}(F:gY K mg x st)(S:ju N b (ij st))
(hb:∀(kV doc pm:ah) (an:Option ar) (ik ct:ah) (us:List ah),us.length=b.length->dQ (dk x x (jE st) (iE st) (ij st) .none kV doc pm an ik ct) ⟨us,[]⟩=pure (b.zip us))
(len:∀a H Q E,sp a H Q E->a.length=b.length)
(c:∀(f:ar) (ik:ah) (A:bq) (cv:List gq) (s:aq) (H:Hp) (a:List V) (Q:VK) (E:XK),iV k (A.deeper (dY x (ij st) s.heap.objs.size f ik))->sp a H Q E->
   ∃t,wX (rK pZ P w K mg cq N x (ij st) f ik A cv s H E).ED (iE st) t/\t {nx:=λ_ e=>Q .non e,rt:=Q} (start N a) H):lM P w K mg cq (k+1) x b sp:=by obtain⟨f,fd,F,m⟩:=F;exact⟨f,fd,m,F.kp,F.binds hb,F.ok S len (c f)⟩
theorem lM.mono(h:lM P w K mg cq j x a sp)(c:j<=k):lM P w K mg cq k x a sp:=by obtain⟨f,fd,m,kp,b,F⟩:=h;exact⟨f,fd,m,kp,b,F.mono c⟩
end
section
variable {X:Cx} {k:Nat} {x:aB} {t:TA}
def ae8(h:lM X.prog X.w X.K X.mg X.cq k x ps sp)(a:iV k X.A)(ha:PA X (e::es) t)(c:Gl X x:=by rfl)(g:(x==(dV:aB))=ao:=by decide)
(i:aV (e::es) X.env=(ao,eval e X.env)::aV es X.env:=by rfl)(j:(cO pos (aV es X.env)).any (·.1)=ao:=by rfl):
  PE X (.Call (.Name x p) (e::es) [] pos) (NN sp [] E0 t):=by obtain⟨f,fd,m,kp,b,F⟩:=h;exact WK F a c m kp b .nil IM ha g i j
def abQ(h:lM X.prog X.w X.K X.mg X.cq k x ps sp)(a:iV k X.A)(c:Gl X x:=by rfl)(g:(x==(dV:aB))=ao:=by decide):PE X (.Call (.Name x p) [] [] pos) (NN sp [] E0 WJ):=by obtain⟨f,fd,m,kp,b,F⟩:=h;exact Sn F a c m kp b .nil IM g
end
def yi(h:H p=am):jC H (upd H p o):=λb u e=>by rw[gR (ja e h)];exact e
section
variable {K:af}
def gY.hasB{st:cN}(F:gY K mg x st)(c:iE st=body)(es:ij st=scope)(S:ju N b scope)
(hb:∀(kV doc pm:ah) (an:Option ar) (ik ct:ah) (us:List ah),us.length=b.length->dQ (dk x x (jE st) (iE st) (ij st) .none kV doc pm an ik ct) ⟨us,[]⟩=pure (b.zip us))
(len:∀a H Q E,sp a H Q E->a.length=b.length)
(e:∀(f:ar) (ik:ah) (A:bq) (cv:List gq) (s:aq) (H:Hp) (a:List V) (Q:VK) (E:XK),iV k (A.deeper (dY x scope s.heap.objs.size f ik))->sp a H Q E->
   ∃t,wX (rK pZ P w K mg cq N x scope f ik A cv s H E).ED body t/\t {nx:=λ_ g=>Q .non g,rt:=Q} (start N a) H):lM P w K mg cq (k+1) x b sp:=by subst c es;exact F.has S hb len e
end
structure QE(X:Cx)(e:bv)(t:TE):Prop where p:PE X e t
structure QT(X:Cx)(e:bv)(t:TT):Prop where p:PT X e t
structure QW(X:Cx)(e:bv)(t:TT):Prop where p:PW X e t
structure QA(X:Cx)(es:List bv)(t:TA):Prop where p:PA X es t
structure QS(X:Cx)(st:cN)(t:TS):Prop where p:PS X st t
structure QB(X:Cx)(st:List cN)(t:TS):Prop where p:wX X st t
structure QG(X:Cx)(tg:bv)(g:TG):Prop where p:PG X tg g
structure QGs(X:Cx)(tg:List bv)(g:ZM):Prop where p:RD X tg g
structure QI(X:Cx)(tg iter:bv)(wi:TI):Prop where p:PI X tg iter wi
structure QF(X:Cx)(ifs:List bv)(t:TT):Prop where p:PIf X ifs t
structure QO(X:Cx)(e:Option bv)(t:TO):Prop where p:PO X e t
structure ROp(X:Cx)(op:aks)(r:R2):Prop where p:sY X (binaryOp op) r
structure ai5(X:Cx)(op:CmpOp)(r:R2):Prop where p:sY X (compareOp op) r
structure RUn(X:Cx)(op:UnaryOp)(r:V->Hp->VK->Prop):Prop where p:UnR X (unaryOp op) r
structure RB(X:Cx)(id:String)(r:List V->Hp->VK->Prop):Prop where p:nz X (.builtin id) r
structure RTy(X:Cx)(T:String)(r:List V->Hp->VK->Prop):Prop where p:nz X (.type T) r
structure RIx(X:Cx)(r:R2):Prop where p:IxR X r
structure RSl(X:Cx)(r:V->Option Int->Option Int->Hp->VK->Prop):Prop where p:Wb X r
structure RMt(X:Cx)(id:String)(r:V->List V->Hp->VK->Prop):Prop where p:MtR X id r
section
variable {rest:List bv} {t:TS} {x:aB}
end
section
variable {K:af}
def gY.ae9{st:cN}(F:gY K mg x st)(c:iE st=body)(es:ij st=scope)(S:ju N b scope)
(hb:∀(kV doc pm:ah) (an:Option ar) (ik ct:ah) (us:List ah),us.length=b.length->dQ (dk x x (jE st) (iE st) (ij st) .none kV doc pm an ik ct) ⟨us,[]⟩=pure (b.zip us))
(len:∀a H Q E,sp a H Q E->a.length=b.length)
(e:∀(f:ar) (ik:ah) (A:bq) (cv:List gq) (s:aq) (H:Hp) (a:List V) (Q:VK) (E:XK),iV k (A.deeper (dY x scope s.heap.objs.size f ik))->sp a H Q E->
   ∃t,QB (rK pZ P w K mg cq N x scope f ik A cv s H E).ED body t/\t {nx:=λ_ g=>Q .non g,rt:=Q} (start N a) H):lM P w K mg cq (k+1) x b sp:=
 F.hasB c es S hb len λf ik A cv s H a Q E i h=>let⟨t,q,z⟩:=e f ik A cv s H a Q E i h;⟨t,q.p,z⟩
def uG.abR{st:cN}(F:uG K x x st f fd)
(h:∀(kV doc pm:ah) (an:Option ar) (ik ct:ah) (u:ah),dQ (dk x x (jE st) (iE st) (ij st) .none kV doc pm an ik ct) ⟨[u],[]⟩=pure [(y,u)]):∀(s:aq) (v:ah),aj0 s fd ⟨[v],[]⟩ [(y,v)]:=by obtain⟨oc,od,kV,doc,pm,an,ik,ct,IB,rfl,lk,a⟩:=F.ex;exactλs v=>.of_eq (h kV doc pm an ik ct v)
end
open PySem.W
noncomputable def yj(c:ar)(q:aB):HO:=.ext λh=>h.CodeRec (.ref c) q
structure NW(q:aB)(H:Hp)(ps:Array ah):Prop where
 ok:gj ps.toList
 cs:∀pos v,ajF pos ps.toList=aa v->∃c,v=.ref c/\H c=aa (yj c q)
def uH (P:ar)(q:aB)(H a:Hp):Prop:=(∃b,a P=aa (.xV b)/\NW q a b)/\(a=H\/∃c b,H c=am/\c≠P/\a=upd (upd H c (yj c q)) P (.xV b))
end L2
namespace L3
open L2
@[reducible] def uN:Option HO->Option HO
 |some (.xV _)=>am
 |some (.ext _)=>am
 |o=>o
def SQ(h:uN x=aa o):x=aa o/\uN (aa o)=aa o:=by
 cases x with
 |none=>cases h
 |some y=>cases y<;>first|(cases h;done)|(cases h;exact⟨rfl,rfl⟩)
def Cj(h:uN x≠am):x≠am:=λz=>h (by rw[z])
noncomputable def W7:List aB:=[fy]
noncomputable def abS(x:aB):aB:=x++".<locals>."++hD
def Tb (K:af)(H:Hp):Prop:=∀x∈W7,∀c P,W.tabIn K x=aa (c,P)->∃a,H P=aa (.xV a)/\NW (abS x) H a
def Tb.imp{K:af}(t:Tb K H)(h:∀b o,H b=aa o->uN (aa o)=am->a b=aa o):Tb K a:=λx f c P e=>by obtain⟨g,i,j,m⟩:=t x f c P e;refine⟨g,h _ _ i rfl,j,λpos v n=>?_⟩;obtain⟨p,e1,e2⟩:=m pos v n;exact⟨p,e1,h _ _ e2 rfl⟩
def Tb.same{K:af}(t:Tb K H)(h:jC H a):Tb K a:=t.imp λb o e _=>h b o e
theorem Tb.upd{K:af}(t:Tb K H)(h:uN (H p)≠am\/H p=am):Tb K (upd H p x):=t.imp λb o e v=>by
 rw[gR λz=>?_]
 .exact e
 .subst z;rcases h with h|h
  .rw[e] at h;exact h v
  .rw[h] at e;cases e
inductive D where
 |non|bl (b:Bool)|int (i:Int)|str (x:aB)|ty (n:String)
 |tup (ds:List D)|lst (ds:List D)|jP (ks:List Key) (ds:List D)
 |ins (C:ar) (ns:List aB) (ds:List D)|qO (ns:List Int)|loc (k:Nat)|cls (C:ar)|exc (C:ar) (ns:List aB) (ds:List D)
inductive OD where
 |lst (ds:List D)|jP (ks:List Key) (ds:List D)|ins (C:ar) (ns:List aB) (ds:List D)|fz (k ep:Nat) (ks:List Key) (ds:List D)
abbrev Ms:=List (Option OD)
mutual
def Rep (K:af) (g:List ar) (H:Hp):D->V->Prop
 |.non,v=>v=.non
 |.bl b,v=>v=.bl b
 |.int i,v=>v=.int i
 |.str x,v=>v=.str x
 |.ty n,v=>v=.ty n
 |.tup ds,v=>∃a c,v=.ref a/\w4 K H a c/\gO K g H ds c
 |.lst ds,v=>∃a c,v=.ref a/\H a=aa (.lst c)/\gO K g H ds c
 |.qO ns,v=>∃a,v=.ref a/\nr K H a (ns.map V.int)
 |.jP e ds,v=>∃a c,v=.ref a/\Rd H a (.dK (e.zip c))/\e.length=ds.length/\gO K g H ds c
 |.ins C ns ds,v=>∃a f c,v=.ref a/\H a=aa (.ins C f (ns.zip c))/\ns.length=ds.length/\gO K g H ds c
 |.loc k,v=>∃a,g[k]?=aa a/\v=.ref a
 |.cls C,v=>v=.ref C
 |.exc C ns ds,v=>∃a c,v=.ref a/\H a=aa (.xc C (ns.zip c))/\ns.length=ds.length/\gO K g H ds c
def gO (K:af) (a:List ar) (H:Hp):List D->List V->Prop
 |[],c=>c=[]
 |d::ds,c=>∃v r,c=v::r/\Rep K a H d v/\gO K a H ds r
end
def mw{K:af}(e:jC H b)(h:w4 K H a xs):w4 K b a xs:=by
 rcases h with(h|⟨o,h⟩)|h
 .exact .inl (.inl (e _ _ h))
 .exact .inl (.inr ⟨o,e _ _ h⟩)
 .exact .inr h
def kb{K:af}(e:jC H b)(h:nr K H a xs):nr K b a xs:=by
 rcases h with(h|⟨o,h⟩)|h
 .exact .inl (.inl (e _ _ h))
 .exact .inl (.inr ⟨o,e _ _ h⟩)
 .exact .inr h
def Gy(e:jC H b)(h:Rd H a u):Rd b a u:=by
 rcases h with h|⟨o,h⟩
 .exact .inl (e _ _ h)
 .exact .inr ⟨o,e _ _ h⟩
def Gz(p:b <+: β){k:Nat}{a:ar}(h:b[k]?=aa a):β[k]?=aa a:=by obtain⟨t,rfl⟩:=p;have:=(au.mp h).1;rw[bB this];exact h
mutual
theorem Rep.mono {K:af} {α β:List ar} {H c:Hp} (p:α <+: β) (e:jC H c):∀(d:D) (v:V),Rep K α H d v->Rep K β c d v
 |.non,v,h=>by unfold Rep at h |-;exact h
 |.bl _,v,h=>by unfold Rep at h |-;exact h
 |.int _,v,h=>by unfold Rep at h |-;exact h
 |.str _,v,h=>by unfold Rep at h |-;exact h
 |.ty _,v,h=>by unfold Rep at h |-;exact h
 |.tup ds,v,h=>by unfold Rep at h |-;obtain⟨a,b,r,q,z⟩:=h;exact⟨a,b,r,mw e q,gO.mono p e ds b z⟩
 |.lst ds,v,h=>by unfold Rep at h |-;obtain⟨a,b,r,q,z⟩:=h;exact⟨a,b,r,e _ _ q,gO.mono p e ds b z⟩
 |.qO ns,v,h=>by unfold Rep at h |-;obtain⟨a,r,q⟩:=h;exact⟨a,r,kb e q⟩
 |.jP g ds,v,h=>by unfold Rep at h |-;obtain⟨a,b,r,q,l,z⟩:=h;exact⟨a,b,r,Gy e q,l,gO.mono p e ds b z⟩
 |.ins C ns ds,v,h=>by unfold Rep at h |-;obtain⟨a,f,b,r,q,l,z⟩:=h;exact⟨a,f,b,r,e _ _ q,l,gO.mono p e ds b z⟩
 |.exc C ns ds,v,h=>by unfold Rep at h |-;obtain⟨a,b,r,q,l,z⟩:=h;exact⟨a,b,r,e _ _ q,l,gO.mono p e ds b z⟩
 |.loc k,v,h=>by unfold Rep at h |-;obtain⟨a,r,q⟩:=h;exact⟨a,Gz p r,q⟩
 |.cls _,v,h=>by unfold Rep at h |-;exact h
theorem gO.mono {K:af} {α β:List ar} {H c:Hp} (p:α <+: β) (e:jC H c):∀(ds:List D) (b:List V),gO K α H ds b->gO K β c ds b
 |[],b,h=>by unfold gO at h |-;exact h
 |d::ds,b,h=>by unfold gO at h |-;obtain⟨v,r,q,z,y⟩:=h;exact⟨v,r,q,Rep.mono p e d v z,gO.mono p e ds r y⟩
end
section
variable {K:af}
theorem gO.length:∀(ds:List D) (a:List V),gO K α H ds a->ds.length=a.length
 |[],a,h=>by rw[h];rfl
 |d::ds,a,h=>by obtain⟨v,r,rfl,_,y⟩:=h;rw[aQ,aQ,gO.length ds r y]
theorem gO.get:∀(ds:List D) (a:List V) (i:Nat) (d:D),gO K α H ds a->ds[i]?=aa d->∃v,a[i]?=aa v/\Rep K α H d v
 |[],a,i,d,h,e=>by simp at e
 |x::ds,a,0,d,h,e=>by obtain⟨v,r,rfl,z,_⟩:=h;simp at e;subst e;exact⟨v,rfl,z⟩
 |x::ds,a,i+1,d,h,e=>by obtain⟨v,r,rfl,_,y⟩:=h;obtain⟨u,b,c⟩:=gO.get ds r i d y (by simpa using e);exact⟨u,by simpa using b,c⟩
theorem gO.get':∀(ds:List D) (a:List V) (i:Nat) (v:V),gO K α H ds a->a[i]?=aa v->∃d,ds[i]?=aa d/\Rep K α H d v
 |[],a,i,d,h,e=>by subst h;simp at e
 |x::ds,a,0,d,h,e=>by obtain⟨v,r,rfl,z,_⟩:=h;simp at e;subst e;exact⟨x,rfl,z⟩
 |x::ds,a,i+1,d,h,e=>by obtain⟨v,r,rfl,_,y⟩:=h;obtain⟨u,b,c⟩:=gO.get' ds r i d y (by simpa using e);exact⟨u,by simpa using b,c⟩
theorem gO.append:∀(ds es:List D) (a us:List V),gO K α H ds a->gO K α H es us->gO K α H (ds++es) (a++us)
 |[],es,a,us,h,g=>by subst h;exact g
 |d::ds,es,a,us,h,g=>by obtain⟨v,r,rfl,z,y⟩:=h;exact⟨v,_,rfl,z,gO.append ds es r us y g⟩
def gO.nil:gO K α H [] []:=by rfl
def gO.cons(q:Rep K α H d v)(h:gO K α H ds a):gO K α H (d::ds) (v::a):=by exact⟨v,a,rfl,q,h⟩
def gO.one(q:Rep K α H d v):gO K α H [d] [v]:=gO.cons q gO.nil
theorem gO.take:∀(n:Nat) (ds:List D) (a:List V),gO K α H ds a->gO K α H (ds.take n) (a.take n)
 |0,ds,a,h=>by simpa using gO.nil
 |n+1,[],a,h=>by subst h;simpa using gO.nil
 |n+1,d::ds,a,h=>by obtain⟨v,r,rfl,z,y⟩:=h;exact gO.cons z (gO.take n ds r y)
theorem gO.drop:∀(n:Nat) (ds:List D) (a:List V),gO K α H ds a->gO K α H (ds.drop n) (a.drop n)
 |0,ds,a,h=>h
 |n+1,[],a,h=>by subst h;simpa using gO.nil
 |n+1,d::ds,a,h=>by obtain⟨v,r,rfl,z,y⟩:=h;exact gO.drop n ds r y
theorem gO.set{d:D}{v:V}(q:Rep K α H d v):∀(i:Nat) (ds:List D) (a:List V),gO K α H ds a->gO K α H (ds.set i d) (a.set i v)
 |i,[],a,h=>by unfold gO at h;subst h;simpa using gO.nil
 |0,x::ds,a,h=>by unfold gO at h;obtain⟨u,r,rfl,z,y⟩:=h;exact gO.cons q y
 |i+1,x::ds,a,h=>by unfold gO at h;obtain⟨u,r,rfl,z,y⟩:=h;exact gO.cons z (gO.set q i ds r y)
theorem gO.of_map{β:Type}(f:β->D)(g:β->V)(h:∀a,Rep K α H (f a) (g a)):∀l:List β,gO K α H (l.map f) (l.map g)
 |[]=>gO.nil
 |a::l=>gO.cons (h a) (gO.of_map f g h l)
theorem gO.rep(h:gO K α H ds a):∀k:Nat,gO K α H (bQ k ds).flatten (bQ k a).flatten
 |0=>gO.nil
 |k+1=>by exact gO.append _ _ _ _ h (gO.rep h k)
theorem gO.at(h:gO K α H ds a)(e:wL ds i=aa d):∃v,wL a i=aa v/\Rep K α H d v:=by
 unfold wL at e |-;rw[<-gO.length _ _ h];cases q:PK _ i with
 |none=>rw[q] at e;cases e
 |some j=>
  rw[q] at e;exact gO.get ds a j d h e
def i5:Rep K a H (.int i) (.int i):=by rfl
def iZ:Rep K a H (.bl i) (.bl i):=by rfl
def pC:Rep K a H (.str i) (.str i):=by rfl
def W8:Rep K a H (.cls C) (.ref C):=by rfl
def qP:Rep K a H .non .non:=by rfl
def abT:Rep K a H (.ty n) (.ty n):=by rfl
end
noncomputable def kE(A:List ar)(H:Hp):Hp:=λb=>if b∈A then am else uN (H b)
def j9(h:p∉A):kE A H p=uN (H p):=by unfold kE;rw[if_neg h]
def pD(h:p∈A):kE A H p=am:=by unfold kE;rw[if_pos h]
def p0(h:kE A H p=aa o):p∉A/\H p=aa o/\uN (aa o)=aa o:=by
 by_cases z:p∈A
 .rw[pD z] at h;cases h
 .rw[j9 z] at h;exact⟨z,SQ h⟩
def iz(h:kE A H p=aa o):p∉A/\H p=aa o:=⟨(p0 h).1,(p0 h).2.1⟩
def ib:jC (kE A H) H:=λb o e=>(iz e).2
def jF(h:p∉A)(e:H p=aa o)(v:uN (aa o)=aa o):kE A H p=aa o:=by rw[j9 h,e];exact v
def kW(h:kE A H b=aa o)(hb:b∉B)(e:a b=aa o):kE B a b=aa o:=jF hb e (p0 h).2.2
def Fx(h:jC H a):jC (kE A H) (kE A a):=λb o e=>kW e (iz e).1 (h b o (iz e).2)
noncomputable def lv:List ar->Ms->List ar
 |a::b,aa _::M=>a::lv b M
 |_::b,am::M=>lv b M
 |_,_=>[]
theorem nB:∀{f:List ar} {M:Ms} {a:ar},a∈lv f M↔∃(k:Nat) (o:OD),f[k]?=aa a/\M[k]?=aa (aa o)
 |[],M,a=>by cases M<;>simp[lv]
 |b::f,[],a=>by simp[lv]
 |b::f,aa x::M,a=>by
  simp only [lv,aN,nB];constructor
  .rintro(rfl|⟨k,o,c,e⟩)
   .exact⟨0,x,rfl,rfl⟩
   .exact⟨k+1,o,by simpa using c,by simpa using e⟩
  .rintro⟨k,o,c,e⟩
   cases k with
   |zero=>left;simpa using c.symm
   |succ k=>right;exact⟨k,o,by simpa using c,by simpa using e⟩
 |b::f,am::M,a=>by
  simp only [lv,nB];constructor
  .rintro⟨k,o,c,e⟩
   exact⟨k+1,o,by simpa using c,by simpa using e⟩
  .rintro⟨k,o,c,e⟩
   cases k with
   |zero=>simp at e
   |succ k=>exact⟨k,o,by simpa using c,by simpa using e⟩
abbrev jk(F a:List ar)(M:Ms)(H:Hp):Hp:=kE (lv a M++F) H
def A5 (K:af)(h:List ar)(e H:Hp):OD->ar->Prop
 |.lst ds,a=>∃b,H a=aa (.lst b)/\gO K h e ds b
 |.jP c ds,a=>∃b,H a=aa (.dK (c.zip b))/\c.length=ds.length/\gO K h e ds b
 |.ins C ns ds,a=>∃f b,H a=aa (.ins C f (ns.zip b))/\ns.length=ds.length/\gO K h e ds b
 |.fz k g c ds,a=>h[k]?=aa a/\∃b,H a=aa (.dE g (c.zip b))/\c.length=ds.length/\gO K h e ds b
structure OK(K:af)(F α:List ar)(H:Hp)(M:Ms):Prop where
 ml:α.length=M.length
 nd:α.Nodup
 fr:∀a∈F,a∉α/\uN (H a)≠am
 al:∀a∈α,uN (H a)≠am
 own:∀(k:Nat) o,M[k]?=aa (aa o)->∃a,α[k]?=aa a/\A5 K α (jk F α M H) H o a
 tb:Tb K H
structure Ext(F α:List ar)(H:Hp)(M:Ms)(ii:List ar)(H':Hp)(M':Ms):Prop where
 pre:α <+: ii
 same:jC (jk F α M H) (jk F ii M' H')
 fr:∀a∈F,H' a=H a
abbrev nC:=List (Option D)
structure R(K:af)(F α:List ar)(H:Hp)(σ:L2.St)(δ:nC)(M:Ms):Prop where
 ok:OK K F α H M
 len:σ.length=δ.length
 sl:∀(i:Nat) d,δ[i]?=aa (aa d)->∃v,σ[i]?=aa (aa v)/\Rep K α (jk F α M H) d v
section
variable {K:af} {α:List ar} {M:Ms} {σ:L2.St} {δ:nC}
theorem Ext.refl:Ext F α H M α H M:=⟨bc _,jC.refl _,λ_ _=>rfl⟩
theorem Ext.trans(e:Ext F α H M ii H' M')(e':Ext F ii H' M' SR H'' Ez):Ext F α H M SR H'' Ez:=
 ⟨e.pre.trans e'.pre,e.same.trans e'.same,λa h=>(e'.fr a h).trans (e.fr a h)⟩
def Ext.rep(e:Ext F α H M ii H' M')(h:Rep K α (jk F α M H) d v):Rep K ii (jk F ii M' H') d v:=Rep.mono e.pre e.same d v h
def Ext.Ck(e:Ext F α H M ii H' M')(h:gO K α (jk F α M H) d v):gO K ii (jk F ii M' H') d v:=gO.mono e.pre e.same d v h
def R.grow(r:R K F α H σ δ M)(e:Ext F α H M ii H' M')(o:OK K F ii H' M'):R K F ii H' σ δ M':=
 ⟨o,r.len,λi d q=>by obtain⟨v,a,b⟩:=r.sl i d q;exact⟨v,a,e.rep b⟩⟩
def OK.live(o:OK K F α H M):∀a∈lv α M,H a≠am:=λa ha=>by
 obtain⟨k,x,f,g⟩:=nB.mp ha;obtain⟨b,e,r⟩:=o.own k x g;rw[f] at e;cases e;cases x with
 |lst ds=>obtain⟨c,e,_⟩:=r;rw[e];exactλz=>by cases z
 |jP h ds=>obtain⟨c,e,_⟩:=r;rw[e];exactλz=>by cases z
 |ins C ns ds=>obtain⟨i,c,e,_⟩:=r;rw[e];exactλz=>by cases z
 |fz k j h ds=>obtain⟨_,c,e,_⟩:=r;rw[e];exactλz=>by cases z
def OK.new(o:OK K F α H M)(h:H p=am):p∉lv α M++F:=λz=>by
 rcases bj.mp z with z|z
 .exact o.live p z h
 .exact(o.fr p z).2 (by rw[h])
theorem A5.uN(r:A5 K α f H x a):uN (H a)≠am:=by
 cases x with
 |lst ds=>obtain⟨b,e,_⟩:=r;rw[e];exactλz=>by cases z
 |jP c ds=>obtain⟨b,e,_⟩:=r;rw[e];exactλz=>by cases z
 |ins C ns ds=>obtain⟨g,b,e,_⟩:=r;rw[e];exactλz=>by cases z
 |fz k h c ds=>obtain⟨_,b,e,_⟩:=r;rw[e];exactλz=>by cases z
def A5.some{c:Hp}{x:OD}{a:ar}(r:A5 K α c H x a):H a≠am:=by
 cases x with
 |lst ds=>obtain⟨b,e,_⟩:=r;rw[e];exactλz=>by cases z
 |jP f ds=>obtain⟨b,e,_⟩:=r;rw[e];exactλz=>by cases z
 |ins C ns ds=>obtain⟨g,b,e,_⟩:=r;rw[e];exactλz=>by cases z
 |fz k h f ds=>obtain⟨_,b,e,_⟩:=r;rw[e];exactλz=>by cases z
def OK.SS(o:OK K F α H M):∀a∈lv α M,uN (H a)≠am:=λa ha=>by obtain⟨k,x,c,f⟩:=nB.mp ha;obtain⟨b,e,r⟩:=o.own k x f;rw[c] at e;cases e;exact r.uN
theorem A5.mono(p:α <+: ii)(e:jC f c)(ha:H' a=H a)(h:A5 K α f H o a):A5 K ii c H' o a:=by
 cases o with
 |lst ds=>obtain⟨b,q,r⟩:=h;exact⟨b,by rw[ha];exact q,gO.mono p e _ _ r⟩
 |jP i ds=>obtain⟨b,q,l,r⟩:=h;exact⟨b,by rw[ha];exact q,l,gO.mono p e _ _ r⟩
 |ins C ns ds=>obtain⟨j,b,q,l,r⟩:=h;exact⟨j,b,by rw[ha];exact q,l,gO.mono p e _ _ r⟩
 |fz k m i ds=>
  obtain⟨g,b,q,l,r⟩:=h;exact⟨by obtain⟨β,rfl⟩:=p;rw[bB (au.mp g).1];exact g,b,by rw[ha];exact q,l,gO.mono p e _ _ r⟩
def OK.grow(o:OK K F α H M)(s:jC H H'):OK K F α H' M/\Ext F α H M α H' M:=by
 have sx:∀a,H a≠am->H' a=H a:=λa h=>by
  cases e:H a with
  |none=>exact absurd e h
  |some x=>exact s a x e
 refine⟨⟨o.ml,o.nd,λa ha=>⟨(o.fr a ha).1,by rw[sx a (Cj (o.fr a ha).2)];exact(o.fr a ha).2⟩,λa ha=>by rw[sx a (Cj (o.al a ha))];exact o.al a ha,λk x h=>?_,o.tb.same s⟩,⟨bc _,(Fx s),λa ha=>sx a (Cj (o.fr a ha).2)⟩⟩;obtain⟨a,e,r⟩:=o.own k x h;exact⟨a,e,r.mono (bc _) (Fx s) (sx a (o.live a (nB.mpr ⟨k,x,e,h⟩)))⟩
def OK.laid(o:OK K F α H M)(h:H p=am):OK K F α (upd H p x) M/\Ext F α H M α (upd H p x) M:=o.grow (yi h)
theorem v5:∀{α β:List ar} {M N:Ms},α.length=M.length->lv (α++β) (M++N)=lv α M++lv β N
 |[],β,[],N,_=>by simp[lv]
 |a::α,β,aa x::M,N,h=>by have:=v5 (β:=β) (N:=N) (by simpa using h);simp[lv,this]
 |a::α,β,am::M,N,h=>by have:=v5 (β:=β) (N:=N) (by simpa using h);simp[lv,this]
def OK.Cm(o:OK K F α H M)(h:H p=am)(s:jC H H'):jC (jk F α M H) (jk F (α++[p]) (M++[aa x]) H'):=λb y q=>by
 have a:lv (α++[p]) (M++[aa x])=lv α M++[p]:=by rw[v5 o.ml];rfl
 have c:=q;obtain⟨z,q⟩:=iz q;have hb:b≠p:=λz=>by rw[z,h] at q;cases q
 show kE _ H' b=_;rw[a];refine kW c (λw=>?_) (s b y q)
 .simp only [bj,bp] at w z;rcases w with(w|w)|w
  .exact z (.inl w)
  .exact hb w
  .exact z (.inr w)
def OK.enter(o:OK K F α H M)(h:H p=am)(s:jC H H')(r:A5 K (α++[p]) (jk F (α++[p]) (M++[aa x]) H') H' x p):
  OK K F (α++[p]) H' (M++[aa x])/\Ext F α H M (α++[p]) H' (M++[aa x]):=by
 have m:=λz=>o.al p z (by rw[h]);obtain⟨f,e'⟩:=o.grow s;have g:=o.Cm (x:=x) h s;have pf:=λz=>(o.fr p z).2 (by rw[h]);refine⟨⟨by simp[o.ml],by rw[de];exact⟨o.nd,by simp,λa ha b hb=>by simp at hb;subst hb;exactλz=>m (z▸ha)⟩,λa ha=>⟨λz=>?_,(f.fr a ha).2⟩,λa ha=>?_,λk y c=>?_,f.tb⟩,⟨cL _ _,g,e'.fr⟩⟩
 .rcases bj.mp z with z|z
  .exact(o.fr a ha).1 z
  .simp at z;subst z;exact pf ha
 .rcases bj.mp ha with z|z
  .exact f.al a z
  .simp at z;subst z;exact r.uN
 .by_cases i:k<M.length
  .rw[bB i] at c;obtain⟨a,j,n⟩:=o.own k y c;refine⟨a,by rw[bB (by rw[o.ml];exact i)];exact j,n.mono (cL _ _) g ?_⟩;cases e:H a with
   |none=>exact absurd e (o.live a (nB.mpr ⟨k,y,j,c⟩))
   |some z=>exact s a z e
  .have:k=M.length:=by have:=(au.mp c).1;simp at this;lia
   subst this;simp at c;subst c;exact⟨p,by rw[<-o.ml];simp,r⟩
theorem LN:∀{α:List ar} {M:Ms} {k:Nat} {x y:OD},M[k]?=aa (aa x)->lv α (M.set k (aa y))=lv α M
 |[],M,k,x,y,h=>by cases M<;>cases k<;>simp[lv]
 |a::α,[],k,x,y,h=>by simp at h
 |a::α,aa z::M,0,x,y,h=>by simp[lv]
 |a::α,am::M,0,x,y,h=>by simp at h
 |a::α,aa z::M,k+1,x,y,h=>by simp only [List.set_cons_succ,lv];rw[LN (by simpa using h)]
 |a::α,am::M,k+1,x,y,h=>by simp only [List.set_cons_succ,lv];exact LN (by simpa using h)
def OK.write(o:OK K F α H M)(f:M[k]?=aa (aa x))(ha:α[k]?=aa a)(r:∀n,n=jk F α M H->A5 K α n (upd H a z) y a):
  OK K F α (upd H a z) (M.set k (aa y))/\Ext F α H M α (upd H a z) (M.set k (aa y)):=by
 have u:lv α (M.set k (aa y))=lv α M:=LN f;have hm:=nB.mpr ⟨k,x,ha,f⟩;have g:jk F α (M.set k (aa y)) (upd H a z)=jk F α M H:=by
  funext b;show kE _ _ b=kE _ _ b;rw[u];by_cases hb:b∈lv α M++F
  .rw[pD hb,pD hb]
  .rw[j9 hb,j9 hb,gR (λe=>hb (by rw[e];exact bV _ hm))]
 have p:=λw=>(o.fr a w).1 (aS ha);refine⟨⟨by simp[o.ml],o.nd,λb hb=>⟨(o.fr b hb).1,by rw[gR (λe=>p (by rw[<-e];exact hb))];exact(o.fr b hb).2⟩,λb hb=>(by
  by_cases e:b=a
  .subst e;exact(r _ rfl).uN
  .rw[gR e];exact o.al b hb),λj w c=>?_,o.tb.upd (.inl (o.al a (aS ha)))⟩,⟨bc _,by rw[g];exact jC.refl _,λb hb=>gR (λe=>p (by rw[<-e];exact hb))⟩⟩
 have h:=(au.mp f).1;by_cases i:j=k
 .subst i;rw[cC h] at c;cases c;exact⟨a,ha,r _ g⟩
 .rw[cb (ci i)] at c;obtain⟨b,q,v⟩:=o.own j w c;have m:b≠a:=λe=>i (by subst e;have A:=au.mp ha;have B:=au.mp q;exact(fR o.nd).mp (B.2.trans A.2.symm))
  refine⟨b,q,?_⟩;rw[g];exact v.mono (bc _) (jC.refl _) (gR m)
theorem R.set(r:R K F α H σ δ M){i:Nat}{d:D}{v:V}(q:Rep K α (jk F α M H) d v):R K F α H (σ.set i (aa v)) (δ.set i (aa d)) M:=by
 have c:=r.len;refine⟨r.ok,by simp[c],λj e h=>?_⟩;by_cases b:j=i
 .subst b;have a:j<δ.length:=by
   rcases Nat.lt_or_ge j _ with x|x
   .exact x
   .rw[dF (by simpa using x)] at h;cases h
  rw[cC a] at h;cases h;exact⟨v,cC (by lia),q⟩
 .rw[cb (ci b)] at h |-;exact r.sl j e h
end
def PE.weak(h:PE X e t)(w:∀σ H Q,a σ H Q->t σ H Q):PE X e a:=λcf s σ H Q I q=>h cf s σ H Q I (w σ H Q q)
def PT.weak(h:PT X e t)(w:∀σ H Q,a σ H Q->t σ H Q):PT X e a:=λcf s σ H Q I q=>h cf s σ H Q I (w σ H Q q)
def PW.weak(h:PW X e t)(w:∀σ H Q,a σ H Q->t σ H Q):PW X e a:=λb cf s σ H Q I q=>h b cf s σ H Q I (w σ H Q q)
def PA.weak(h:PA X e t)(w:∀σ H Q,a σ H Q->t σ H Q):PA X e a:=λpos cf s σ H Q I q=>h pos cf s σ H Q I (w σ H Q q)
def PS.weak(h:PS X e t)(w:∀D σ H,a D σ H->t D σ H):PS X e a:=λcf s σ H D I q=>h cf s σ H D I (w D σ H q)
def wX.weak(h:wX X e t)(w:∀D σ H,a D σ H->t D σ H):wX X e a:=λcf s σ H D I q=>h cf s σ H D I (w D σ H q)
abbrev DK:=D->Ms->Prop
abbrev DE:=nC->Ms->DK->Prop
abbrev DT:=nC->Ms->(Bool->Ms->Prop)->Prop
abbrev DA:=nC->Ms->(List D->Ms->Prop)->Prop
abbrev vK(K:af)(F c:List ar)(H:Hp)(M:Ms)(Q:VK):DK:=λd b=>∀v ii a,Ext F c H M ii a b->OK K F ii a b->Rep K ii (jk F ii b a) d v->Q v a
abbrev bK(K:af)(F e:List ar)(H:Hp)(M:Ms)(Q:Bool->Hp->Prop):Bool->Ms->Prop:=λb c=>∀ii a,Ext F e H M ii a c->OK K F ii a c->Q b a
abbrev aK(K:af)(F e:List ar)(H:Hp)(M:Ms)(Q:List V->Hp->Prop):List D->Ms->Prop:=λds b=>∀c ii a,Ext F e H M ii a b->OK K F ii a b->gO K ii (jk F ii b a) ds c->Q c a
def lE (K:af)(t:DE):TE:=λb H Q=>∃F c a M,R K F c H b a M/\t a M (vK K F c H M Q)
def lT (K:af)(t:DT):TT:=λb H Q=>∃F c a M,R K F c H b a M/\t a M (bK K F c H M Q)
def lA (K:af)(t:DA):TA:=λb H Q=>∃F c a M,R K F c H b a M/\t a M (aK K F c H M Q)
structure JE(X:Cx)(e:bv)(t:DE):Prop where
 mono:∀δ M (P Q:DK),(∀d M,P d M->Q d M)->t δ M P->t δ M Q
 p:PE X e (lE X.K t)
structure JT(X:Cx)(e:bv)(t:DT):Prop where
 mono:∀δ M (P Q:Bool->Ms->Prop),(∀d M,P d M->Q d M)->t δ M P->t δ M Q
 p:PT X e (lT X.K t)
structure JW(X:Cx)(e:bv)(t:DT):Prop where
 mono:∀δ M (P Q:Bool->Ms->Prop),(∀d M,P d M->Q d M)->t δ M P->t δ M Q
 p:PW X e (lT X.K t)
structure JA(X:Cx)(es:List bv)(t:DA):Prop where
 mono:∀δ M (P Q:List D->Ms->Prop),(∀d M,P d M->Q d M)->t δ M P->t δ M Q
 p:PA X es (lA X.K t)
section
variable {K:af}
def vK.grow(e:Ext F α H M ii H' M'):∀d a,vK K F α H M Q d a->vK K F ii H' M' Q d a:=λd a h v b c e2 f g=>h v b c (e.trans e2) f g
def bK.grow(e:Ext F α H M ii H' M'):∀d a,bK K F α H M Q d a->bK K F ii H' M' Q d a:=λd a h b c e2 f=>h b c (e.trans e2) f
def vK.now(o:OK K F α H M)(h:vK K F α H M Q d M)(r:Rep K α (jk F α M H) d v):Q v H:=h v α H Ext.refl o r
def vK.new(o:OK K F α H M)(a:H p=am)(h:vK K F α H M Q d M)(r:Ext F α H M α (upd H p x) M->Rep K α (jk F α M (upd H p x)) d v):Q v (upd H p x):=
 let⟨b,e'⟩:=o.laid a;h v α _ e' b (r e')
end
abbrev G2:=D->D->Ms->DK->Prop
abbrev GN:=List D->Ms->DK->Prop
def rD (K:af)(g:G2):R2:=λx y H Q=>∃F c M a b,OK K F c H M/\Rep K c (jk F c M H) a x/\Rep K c (jk F c M H) b y/\g a b M (vK K F c H M Q)
def rDs (K:af)(g:GN):List V->Hp->VK->Prop:=λxs H Q=>∃F a M ds,OK K F a H M/\gO K a (jk F a M H) ds xs/\g ds M (vK K F a H M Q)
abbrev Ay(g:G2):Prop:=∀x y M (P Q:DK),(∀d M,P d M->Q d M)->g x y M P->g x y M Q
abbrev oz(g:GN):Prop:=∀xs M (P Q:DK),(∀d M,P d M->Q d M)->g xs M P->g xs M Q
structure JO(X:Cx)(op:aks)(g:G2):Prop where
 mono:Ay g
 p:sY X (binaryOp op) (rD X.K g)
structure JC(X:Cx)(op:CmpOp)(g:G2):Prop where
 mono:Ay g
 p:sY X (compareOp op) (rD X.K g)
structure JX(X:Cx)(g:G2):Prop where
 mono:Ay g
 p:IxR X (rD X.K g)
structure JB(X:Cx)(f:ah)(g:GN):Prop where
 mono:oz g
 p:nz X f (rDs X.K g)
abbrev GS:=D->Option Int->Option Int->Ms->DK->Prop
def ah9 (K:af)(g:GS):V->Option Int->Option Int->Hp->VK->Prop:=λx lo hi H Q=>∃F a M d,OK K F a H M/\Rep K a (jk F a M H) d x/\g d lo hi M (vK K F a H M Q)
structure JSl(X:Cx)(g:GS):Prop where
 mono:∀x lo hi M (P Q:DK),(∀d M,P d M->Q d M)->g x lo hi M P->g x lo hi M Q
 p:Wb X (ah9 X.K g)
section
variable {X:Cx} {a e:bv} {rest:List bv} {x:aB}
def gN (i:Nat):DE:=λf M Q=>match f[i]? with|some (aa d)=>Q d M|_=>False
set_option tactic.hygienic true in
def j_v(i:Nat)(f:X.N[i]?=aa x:=by rfl)(g:Rz X.env.scope x:=by first|exact dP rfl|exact c9 (dP rfl)|exact c9 (c9 rfl))(hd:(x==(dV:aB))=ao:=by decide)
(j:(x==(mr:aB))=ao:=by decide):JE X (.Name x pos) (gN i):=by
 refine⟨λm M P Q h q=>?_,PE.weak (wY f g hd j) λb H Q h=>?_⟩
 .unfold gN at*;split at q
  .exact h _ _ q
  .exact q
 .obtain⟨F,c,m,M,r,h⟩:=h;unfold gN at h;split at h
  .rename_i d hd;obtain⟨v,e,q⟩:=r.sl i d hd;exact⟨v,e,vK.now r.ok h q⟩
  .exact h.elim
def dC (d:D):DE:=λ_ M Q=>Q d M
def j_c(h:PE X e (tC v))(r:∀c H,Rep X.K c H d v):JE X e (dC d):=
 ⟨λf M P Q h q=>h _ _ q,PE.weak h λb H Q zq=>by obtain⟨F,c,f,M,g,h⟩:=zq;exact vK.now g.ok h (r _ _)⟩
def Z1{i j}:JE X (.Constant (.int i) j pos) (dC (.int i)):=j_c RZ λ_ _=>i5
def aia{b j}:JE X (.Constant (.bool b) j pos) (dC (.bl b)):=j_c aeA λ_ _=>iZ
def afa{j}:JE X (.Constant .none j pos) (dC .non):=j_c aa4 λ_ _=>qP
def afb{y j}:JE X (.Constant (.str y) j pos) (dC (.str y)):=j_c R0 λ_ _=>pC
def SU(hm:X.mg x=aa u)(r:RelV v u)(f:∀b H,Rep X.K b H d v)(g:Gl X x:=by rfl)(hd:(x==(dV:aB))=ao:=by decide):JE X (.Name x pos) (dC d):=j_c (NI g hm r hd) f
def W9(hm:∃t,X.mg x=aa (.int i t))(f:Gl X x:=by rfl)(hd:(x==(dV:aB))=ao:=by decide):JE X (.Name x pos) (dC (.int i)):=by obtain⟨t,hm⟩:=hm;exact SU (v:=.int i) hm ⟨t,rfl⟩ (λ_ _=>i5) f hd
def Xa(hm:X.mg x=aa (.ref C))(f:Gl X x:=by rfl)(hd:(x==(dV:aB))=ao:=by decide):JE X (.Name x pos) (dC (.cls C)):=SU (v:=.ref C) hm rfl (λ_ _=>W8) f hd
def afc(hm:X.mg x=am)(f:bR x=aa (.type n))(g:Gl X x:=by rfl)(hn:x≠jD:=by decide)(hd:(x==(dV:aB))=ao:=by decide):JE X (.Name x pos) (dC (.ty n)):=
 j_c (Wy (v:=.ty n) g hm f rfl hn hd) λ_ _=>abT
def g9 (g:G2)(ta tb:DE):DE:=λf M Q=>ta f M λx M1=>tb f M1 λy M2=>g x y M2 Q
def Cn(mg:Ay g)(ha:JE X a ta)(hb:JE X b tb):∀f M (P Q:DK),(∀d M,P d M->Q d M)->g9 g ta tb f M P->g9 g ta tb f M Q:=
 λf M P Q h q=>ha.mono f _ _ _ (λd M1 q=>hb.mono f _ _ _ (λi M2 q=>mg d i M2 P Q h q) q) q
def NX(mg:Ay g)(ha:JE X a ta)(hb:JE X b tb)(h:lE X.K (g9 g ta tb) c H Q):tOp (rD X.K g) (lE X.K ta) (lE X.K tb) c H Q:=by
 obtain⟨F,p,f,M,r,h⟩:=h;exact⟨F,p,f,M,r,ha.mono f _ _ _ (λi M1 j v m H1 e1 n o=>⟨F,m,f,M1,r.grow e1 n,hb.mono f _ _ _ (λq M2 w u y B e2 z A=>
  ⟨F,y,M2,i,q,z,e2.rep o,A,mg _ _ _ _ _ (vK.grow (e1.trans e2)) w⟩) j⟩) h⟩
def aib(o:JO X op g)(ha:JE X a ta)(hb:JE X b tb):JE X (.BinOp a op b pos) (g9 g ta tb):=⟨Cn o.mono ha hb,PE.weak (aeJ o.p ha.p hb.p) λc H Q h=>NX o.mono ha hb h⟩
def Z2(o:JC X op g)(ha:JE X a ta)(hb:JE X b tb)(hm:aj5 op b=ao:=by rfl):JE X (.Compare a [op] [b] pos) (g9 g ta tb):=⟨Cn o.mono ha hb,PE.weak (WE o.p ha.p hb.p hm) λc H Q h=>NX o.mono ha hb h⟩
def afd(o:JX X g)(ha:JE X a ta)(hb:JE X b tb)(f:NR b:=by exactλ_ _=>rfl):JE X (.Subscript a b pos) (g9 g ta tb):=⟨Cn o.mono ha hb,PE.weak (ZV o.p ha.p hb.p f) λc H Q h=>NX o.mono ha hb h⟩
def gW (te:DE):DT:=λf M Q=>te f M λd M1=>match d with|.bl b=>Q b M1|_=>False
def w8(h:JE X e te):∀f M (P Q:Bool->Ms->Prop),(∀d M,P d M->Q d M)->gW te f M P->gW te f M Q:=λf M P Q w q=>h.mono f _ _ _ (λd M1 q=>by cases d<;>first|exact w _ _ q|exact q) q
def SV(h:JE X e te)(i:∀f,akT e X.env f=(do let v<-f;ajY e.pos;holding [v] (truthy v)):=by intro _;rfl):JT X e (gW te):=by
 refine⟨w8 h,PT.weak (aa5 h.p i) λb H Q q=>?_⟩;obtain⟨F,c,g,M,r,q⟩:=q;refine⟨F,c,g,M,r,h.mono g _ _ _ (λd M1 q v j H1 e1 m n=>?_) q⟩;cases d<;>first|exact q.elim|skip
 exact⟨_,n,q j H1 e1 m⟩
def abU(o:JC X op g)(ha:JE X a ta)(hb:JE X b tb)(hm:aj5 op b=ao:=by rfl):JT X (.Compare a [op] [b] pos) (gW (g9 g ta tb)):=by
 have f:JE X (.Compare a [op] [b] pos) _:=Z2 o ha hb hm;refine⟨w8 f,PT.weak (WG o.p ha.p hb.p hm) λc H Q q=>?_⟩;obtain⟨F,n,h,M,r,q⟩:=q;refine NX o.mono ha hb ⟨F,n,h,M,r,f.mono h _ _ _ (λd M1 q v i H1 e1 j m=>?_) q⟩;cases d<;>first|exact q.elim|skip
 exact⟨_,m,q i H1 e1 j⟩
def oR (t:DT):DT:=λf M Q=>t f M λb M1=>Q (!b) M1
def abV(h:JT X a tA):JT X (.UnaryOp .Not a pos) (oR tA):=
 ⟨λf M P Q w q=>h.mono f _ _ _ (λb M1 q=>w _ _ q) q,PT.weak (aa6 h.p) λc H Q zq=>by obtain⟨F,g,f,M,r,q⟩:=zq;exact ⟨F,g,f,M,r,q⟩⟩
def Z3(h:JW X e tA):JT X e tA:=⟨h.mono,h.p.pt⟩
def Co (t u:DT):DT:=λf M Q=>t f M λb M1=>if b=ai then u f M1 Q else Q ao M1
def SW (t u:DT):DT:=λf M Q=>t f M λb M1=>if b=ai then Q ai M1 else u f M1 Q
def Xb(h:JT X a tA):JW X (.BoolOp .And [a] pos) tA:=⟨h.mono,pw_and1 h.p⟩
def abW(h:JT X a tA):JW X (.BoolOp .Or [a] pos) tA:=⟨h.mono,pw_or1 h.p⟩
def SX(ha:JT X a tA)(hb:JW X (.BoolOp .And (b::rest) pos) R3):JW X (.BoolOp .And (a::b::rest) pos) (Co tA R3):=by
 refine⟨λf M P Q w q=>ha.mono f _ _ _ (λb M1 q=>?_) q,PW.weak (pw_and ha.p hb.p) λc H Q q=>?_⟩
 .cases b with
  |true=>exact hb.mono f _ _ _ w q
  |false=>exact w _ _ q
 .obtain⟨F,i,f,M,r,q⟩:=q;refine⟨F,i,f,M,r,ha.mono f _ _ _ (λb M1 q g H1 e1 h=>?_) q⟩;cases b with
  |true=>
   exact⟨F,g,f,M1,r.grow e1 h,hb.mono f _ _ _ (bK.grow e1) q⟩
  |false=>
   exact q g H1 e1 h
def Z4(ha:JT X a tA)(hb:JW X (.BoolOp .Or (b::rest) pos) R3):JW X (.BoolOp .Or (a::b::rest) pos) (SW tA R3):=by
 refine⟨λf M P Q w q=>ha.mono f _ _ _ (λb M1 q=>?_) q,PW.weak (pw_or ha.p hb.p) λc H Q q=>?_⟩
 .cases b with
  |true=>exact w _ _ q
  |false=>exact hb.mono f _ _ _ w q
 .obtain⟨F,i,f,M,r,q⟩:=q;refine⟨F,i,f,M,r,ha.mono f _ _ _ (λb M1 q g H1 e1 h=>?_) q⟩;cases b with
  |false=>
   exact⟨F,g,f,M1,r.grow e1 h,hb.mono f _ _ _ (bK.grow e1) q⟩
  |true=>
   exact q g H1 e1 h
def Az (ta tb:DE):DE:=λf M Q=>ta f M λx M1=>match x with|.bl ai=>tb f M1 Q|.bl ao=>Q (.bl ao) M1|_=>False
def afe (ta tb:DE):DE:=λf M Q=>ta f M λx M1=>match x with|.bl ai=>Q (.bl ai) M1|.bl ao=>tb f M1 Q|_=>False
def Z5 (ta:DE):DE:=λf M Q=>ta f M λx M1=>match x with|.bl b=>Q (.bl (!b)) M1|_=>False
def aff{op}(h:JE X a te):JE X (.BoolOp op [a] pos) te:=⟨h.mono,aa7 h.p⟩
set_option tactic.hygienic true in
def afg(ha:JE X a ta)(hb:JE X (.BoolOp .And (b::rest) pos) tb):JE X (.BoolOp .And (a::b::rest) pos) (Az ta tb):=by
 refine⟨λf M P Q w q=>ha.mono f _ _ _ (λd M1 q=>?_) q,PE.weak (aa8 ha.p hb.p) λc H Q q=>?_⟩
 .cases d<;>first|exact q.elim|skip
  rename_i b;cases b with
  |true=>exact hb.mono f _ _ _ w q
  |false=>exact w _ _ q
 .obtain⟨F,j,f,M,r,q⟩:=q;refine⟨F,j,f,M,r,ha.mono f _ _ _ (λd M1 q v g H1 e1 h i=>?_) q⟩;cases d<;>first|exact q.elim|skip
  rename_i b;cases b with
  |true=>
   refine⟨ai,i,?_⟩;exact⟨F,g,f,M1,r.grow e1 h,hb.mono f _ _ _ (vK.grow e1) q⟩
  |false=>
   refine⟨ao,i,?_⟩;exact q _ g H1 e1 h iZ
set_option tactic.hygienic true in
def aic(ha:JE X a ta)(hb:JE X (.BoolOp .Or (b::rest) pos) tb):JE X (.BoolOp .Or (a::b::rest) pos) (afe ta tb):=by
 refine⟨λf M P Q w q=>ha.mono f _ _ _ (λd M1 q=>?_) q,PE.weak (aeD ha.p hb.p) λc H Q q=>?_⟩
 .cases d<;>first|exact q.elim|skip
  rename_i b;cases b with
  |false=>exact hb.mono f _ _ _ w q
  |true=>exact w _ _ q
 .obtain⟨F,j,f,M,r,q⟩:=q;refine⟨F,j,f,M,r,ha.mono f _ _ _ (λd M1 q v h H1 e1 i g=>?_) q⟩;cases d<;>first|exact q.elim|skip
  unfold Rep at g;rename_i b;cases b with
  |false=>
   refine⟨ao,g,?_⟩;rw[if_neg bi];exact⟨F,h,f,M1,r.grow e1 i,hb.mono f _ _ _ (vK.grow e1) q⟩
  |true=>
   refine⟨ai,g,?_⟩;rw[if_pos rfl];exact q _ h H1 e1 i iZ
def afh(ha:JE X a ta):JE X (.UnaryOp .Not a pos) (Z5 ta):=by
 refine⟨λf M P Q w q=>ha.mono f _ _ _ (λd M1 q=>?_) q,PE.weak (aa9 ha.p) λb H Q q=>?_⟩
 .cases d<;>first|exact q.elim|exact w _ _ q
 .obtain⟨F,c,f,M,r,q⟩:=q;refine⟨F,c,f,M,r,ha.mono f _ _ _ (λd M1 q v g H1 e1 h i=>?_) q⟩;cases d<;>first|exact q.elim|skip
  exact⟨_,i,q _ g H1 e1 h iZ⟩
def dIf (t:DT)(ta tb:DE):DE:=λf M Q=>t f M λc M1=>if c=ai then ta f M1 Q else tb f M1 Q
def afi(hc:JT X c tA)(ha:JE X a ta)(hb:JE X b tb):JE X (.IfExp c a b pos) (dIf tA ta tb):=by
 refine⟨λf M P Q w q=>hc.mono f _ _ _ (λb M1 q=>?_) q,PE.weak (R4 hc.p ha.p hb.p) λi H Q q=>?_⟩
 .cases b with
  |true=>exact ha.mono f _ _ _ w q
  |false=>exact hb.mono f _ _ _ w q
 .obtain⟨F,j,f,M,r,q⟩:=q;refine⟨F,j,f,M,r,hc.mono f _ _ _ (λb M1 q g H1 e1 h=>?_) q⟩;cases b with
  |true=>
   exact⟨F,g,f,M1,r.grow e1 h,ha.mono f _ _ _ (vK.grow e1) q⟩
  |false=>
   exact⟨F,g,f,M1,r.grow e1 h,hb.mono f _ _ _ (vK.grow e1) q⟩
def oS (g i:G2)(ta tb tc:DE):DE:=λf M Q=>ta f M λx M1=>tb f M1 λy M2=>g x y M2 λz h=>match z with|.bl ai=>tc f h λw j=>i y w j Q|.bl ao=>Q (.bl ao) h|_=>False
set_option tactic.hygienic true in
def IP(o:JC X op g)(i:JC X j h)(ha:JE X a ta)(hb:JE X b tb)(hc:JE X c tc):∀f M (P Q:DK),(∀d M,P d M->Q d M)->oS g h ta tb tc f M P->oS g h ta tb tc f M Q:=
 λf M P Q w q=>ha.mono f _ _ _ (λx M1 q=>hb.mono f _ _ _ (λy M2 q=>o.mono _ _ _ _ _ (λz m q=>by
  cases z<;>first|exact q.elim|skip
  rename_i k;cases k with
  |true=>exact hc.mono f _ _ _ (λu n q=>i.mono _ _ _ _ _ w q) q
  |false=>exact w _ _ q) q) q) q
set_option tactic.hygienic true in
def Fy(o:JC X op g)(A:JC X Pz j)(ha:JE X a ta)(hb:JE X b tb)(hc:JE X c tc)(h:lE X.K (oS g j ta tb tc) p H Q):Lp (rD X.K g) (rD X.K j) (lE X.K ta) (lE X.K tb) (lE X.K tc) p H Q:=by
 obtain⟨F,P,f,M,r,h⟩:=h;refine⟨F,P,f,M,r,ha.mono f _ _ _ (λB M1 C v E H1 e1 G I=>⟨F,E,f,M1,r.grow e1 G,hb.mono f _ _ _ (λm M2 J u L H2 e2 N n=>?_) C⟩) h⟩;refine⟨F,L,M2,B,m,N,e2.rep I,n,o.mono _ _ _ _ _ (λd O i w q T e3 y U=>?_) J⟩;have wP:=(e1.trans e2).trans e3;cases d<;>first|exact i.elim|skip
 rename_i k;refine⟨k,U,?_⟩;cases k with
 |false=>exact i _ q T wP y iZ
 |true=>
  refine⟨F,q,f,O,r.grow wP y,hc.mono f _ _ _ (λY M4 h5 z wE H4 e4 o4 r4=>?_) i⟩;exact⟨F,wE,M4,m,Y,o4,(e3.trans e4).rep n,r4,A.mono _ _ _ _ _ (vK.grow (wP.trans e4)) h5⟩
def NY(o:JC X op g)(f:JC X i j)(ha:JE X a ta)(hb:JE X b tb)(hc:JE X c tc)(hm:akM [op,i] [b,c]=ao:=by with_unfolding_all rfl):JE X (.Compare a [op,i] [b,c] pos) (oS g j ta tb tc):=
 ⟨IP o f ha hb hc,PE.weak (Se o.p f.p ha.p hb.p hc.p hm) λm H Q h=>Fy o f ha hb hc h⟩
def SY(o:JC X op g)(f:JC X h m)(ha:JE X a ta)(hb:JE X b tb)(hc:JE X c tc)(hm:akM [op,h] [b,c]=ao:=by with_unfolding_all rfl):JT X (.Compare a [op,h] [b,c] pos) (gW (oS g m ta tb tc)):=by
 have i:JE X (.Compare a _ [b,c] pos) _:=NY o f ha hb hc hm;refine⟨w8 i,PT.weak (Sf o.p f.p ha.p hb.p hc.p hm) λy H Q q=>?_⟩;obtain⟨F,z,j,M,r,q⟩:=q;refine Fy o f ha hb hc ⟨F,z,j,M,r,i.mono j _ _ _ (λd M1 q v n H1 e1 u w=>?_) q⟩;cases d<;>first|exact q.elim|skip
 exact⟨_,w,q n H1 e1 u⟩
def gQ:DA:=λ_ M Q=>Q [] M
def gM (te:DE)(tt:DA):DA:=λf M Q=>te f M λx M1=>tt f M1 λxs M2=>Q (x::xs) M2
def Cp:JA X [] gQ:=⟨λf M P Q w q=>w _ _ q,PA.weak Gp λb H Q zq=>by obtain⟨F,c,f,M,r,q⟩:=zq;exact q [] c H Ext.refl r.ok gO.nil⟩
def yl(ha:JE X e te)(g:JA X es tt)(h:aV (e::es) X.env=(ao,eval e X.env)::aV es X.env:=by rfl):JA X (e::es) (gM te tt):=by refine⟨λf M P Q w q=>ha.mono f _ _ _ (λx M1 q=>g.mono f _ _ _ (λxs M2 q=>w _ _ q) q) q,PA.weak (x8 ha.p g.p h) λb H Q q=>?_⟩;obtain⟨F,c,f,M,r,q⟩:=q;refine⟨F,c,f,M,r,ha.mono f _ _ _ (λd M1 q v i H1 e1 j m=>⟨F,i,f,M1,r.grow e1 j,g.mono f _ _ _ (λds M2 q z n o e2 u y=>?_) q⟩) q⟩;exact q _ n o (e1.trans e2) u (gO.cons (e2.rep m) y)
def mx{K:af}{p:ar}(o:OK K F b H M)(g:H p=am)(h:gO K b (jk F b M H) ds f)(e:Ext F b H M b (upd H p (.lst f)) M):Rep K b (jk F b M (upd H p (.lst f))) (.lst ds) (.ref p):=by exact⟨p,f,rfl,by show kE _ _ p=_;rw[j9 (o.new g),gZ],e.Ck h⟩
def kH{K:af}{p:ar}(o:OK K F b H M)(g:H p=am)(h:gO K b (jk F b M H) ds f)(e:Ext F b H M b (upd H p (.tup f)) M):Rep K b (jk F b M (upd H p (.tup f))) (.tup ds) (.ref p):=by exact⟨p,f,rfl,.inl (.inl (by show kE _ _ p=_;rw[j9 (o.new g),gZ])),e.Ck h⟩
def iP (tt:DA):DE:=λf M Q=>tt f M λds M1=>ds.length<=az/\Q (.tup ds) M1
def afj{x1}(h:JA X es tt):JE X (.Tuple es x1 pos) (iP tt):=by refine⟨λf M P Q w q=>h.mono f _ _ _ (λds M1 q=>⟨q.1,w _ _ q.2⟩) q,PE.weak (abw h.p) λb H Q q=>?_⟩;obtain⟨F,c,f,M,r,q⟩:=q;refine⟨F,c,f,M,r,h.mono f _ _ _ (λds M1 q m n H1 e1 g i=>?_) q⟩;exact⟨by rw[<-gO.length ds m i];exact q.1,λp j=>vK.new g j (vK.grow e1 _ _ q.2) (kH g j i)⟩
def iH (g:GN)(tt:DA):DE:=λf M Q=>tt f M λds M1=>g ds M1 Q
def ym(m:oz g)(ha:JA X es tt):∀f M (P Q:DK),(∀d M,P d M->Q d M)->iH g tt f M P->iH g tt f M Q:=λf M P Q w q=>ha.mono f _ _ _ (λds M1 q=>m _ _ _ _ w q) q
def S0(o:JB X f g)(ha:JA X es tt)(h:lE X.K (iH g tt) b H Q):tCB (rDs X.K g) (lA X.K tt) b H Q:=by obtain⟨F,c,i,M,r,h⟩:=h;exact⟨F,c,i,M,r,ha.mono i _ _ _ (λds M1 q u j H1 e1 m n=>⟨F,j,M1,ds,m,n,o.mono _ _ _ _ (vK.grow e1) q⟩) h⟩
def j_b{id:String}(o:JB X (.builtin id) g)(hm:X.mg x=am)(f:bR x=aa (.builtin id))(ha:JA X (e::es) tt)(i:Gl X x:=by rfl)(hn:x≠jD:=by decide)(j:(x==(dV:aB))=ao:=by decide)
(m:aV (e::es) X.env=(ao,eval e X.env)::aV es X.env:=by rfl)(n:(cO pos (aV es X.env)).any (·.1)=ao:=by rfl):JE X (.Call (.Name x p) (e::es) [] pos) (iH g tt):=
 ⟨ym o.mono ha,PE.weak (Cd o.p i hm f ha.p hn j m n) λb H Q h=>S0 o ha h⟩
def j_t(o:JB X (.type T) g)(hm:X.mg x=am)(f:bR x=aa (.type T))(ha:JA X (e::es) tt)(i:Gl X x:=by rfl)(hn:x≠jD:=by decide)(j:(x==(dV:aB))=ao:=by decide)
(m:aV (e::es) X.env=(ao,eval e X.env)::aV es X.env:=by rfl)(n:(cO pos (aV es X.env)).any (·.1)=ao:=by rfl):JE X (.Call (.Name x p) (e::es) [] pos) (iH g tt):=
 ⟨ym o.mono ha,PE.weak (zp o.p i hm f ha.p hn j m n) λb H Q h=>S0 o ha h⟩
def jU (K:af)(g:GN):Sp:=λf H Q _=>∃F b M ds,OK K F b H M/\gO K b (jk F b M H) ds f/\g ds M (vK K F b H M Q)
structure iu(P:aP)(w:bt)(K:af)(mg:aB->Option ah)(cq:aw)(k:Nat)(x:aB)(ps:List aB)(g:GN):Prop where
 mono:oz g
 p:lM P w K mg cq k x ps (jU K g)
def iu.up{K:af}(h:iu P w K mg cq j x f g)(i:j<=k):iu P w K mg cq k x f g:=⟨h.mono,h.p.mono i⟩
def aid(h:iu X.prog X.w X.K X.mg X.cq k x z g)(i:iV k X.A)(ha:JA X (e::es) tt)(j:Gl X x:=by rfl)(m:(x==(dV:aB))=ao:=by decide)
(n:aV (e::es) X.env=(ao,eval e X.env)::aV es X.env:=by rfl)(o:(cO pos (aV es X.env)).any (·.1)=ao:=by rfl):JE X (.Call (.Name x p) (e::es) [] pos) (iH g tt):=by refine⟨ym h.mono ha,PE.weak (ae8 h.p i ha.p j m n o) λb H Q q=>?_⟩;obtain⟨F,c,f,M,r,q⟩:=q;refine⟨F,c,f,M,r,ha.mono f _ _ _ (λds M1 q B u H1 e1 v y=>?_) q⟩;show jU X.K g _ H1 Q E0;rw[aR];exact⟨F,u,M1,ds,v,y,h.mono _ _ _ _ (vK.grow e1) q⟩
def afk{k:Nat}{f:List aB}{g:GN}(h:iu X.prog X.w X.K X.mg X.cq k x f g)(i:iV k X.A)(j:Gl X x:=by rfl)(m:(x==(dV:aB))=ao:=by decide):JE X (.Call (.Name x p) [] [] pos) (iH g gQ):=by refine⟨ym h.mono (Cp (X:=X)),PE.weak (abQ h.p i j m) λb H Q q=>?_⟩;obtain⟨F,c,n,M,r,q⟩:=q;show jU X.K g ([]++[]) H Q E0;exact⟨F,c,M,[],r.ok,gO.nil,q⟩
end
end L3
namespace L2
section
variable {X:Cx} {s:aq}
def Inv.ghost(I:Inv X cf σ H s)(ha:H a=aa w)(n1:∀xs,w≠.tup xs)(n2:∀x,w≠.own x)(n3:∀g,w≠.xV g)(j:∀o u,X.hW a≠aa (.qN o u))
(ok:jq X.prog X.w (upd H a w') s.heap a w'):Inv X cf σ (upd H a w') s:=by
 have f:∀b,H b=am->b≠a:=λb h z=>by rw[z,ha] at h;cases h
 refine⟨I.ok,I.os,I.bare,⟨I.cq.keep,I.cq.slot,λb o q n y=>?_,I.cq.there,λb xs q=>?_,λb o u q=>?_,λb g q=>?_⟩,I.loc,I.cell,?_,λx c e=>?_,λp A=>?_,λb ob q=>?_,I.len⟩
 .have:=I.cq.free b o q n y;rw[gR (f b this)];exact this
 .have:=I.cq.tq b xs q;rw[gR λz=>by rw[z,ha] at this;exact n1 xs (bA this)];exact this
 .have:=I.cq.qF b o u q;rw[gR λz=>j o u (by rw[<-z];exact q)];exact this
 .obtain⟨m,e⟩:=I.cq.sA b g q;exact⟨m,by rw[gR λz=>by rw[z,ha] at e;exact n3 _ (bA e)];exact e⟩
 .rw[gR (f _ I.free)];exact I.free
 .rw[gR (f _ (I.mo x c e))];exact I.mo x c e
 .obtain⟨B,i,C⟩:=I.pin p A;exact⟨B,by rw[gR (f _ i)];exact i,C⟩
 .by_cases z:b=a
  .subst z;rw[gZ] at q;cases q;exact ok
  .rw[gR z] at q;refine(I.iC b ob q).tm (λc v _ r=>r) (λc r=>?_) (λc xs r=>?_)
   .rw[gR λz=>by rw[z,ha] at r;exact n2 _ (bA r)];exact r
   .rw[gR λz=>by rw[z,ha] at r;exact n1 _ (bA r)];exact r
def Inv.freeze(I:Inv X cf σ H s)(ha:H a=aa (.dK g8)):∃o,s.heap.get? a=aa o/\Inv X cf σ (upd H a (.qN o (.dK g8))) s/\∀o u,X.hW a≠aa (.qN o u):=by
 have b:∀o u,X.hW a≠aa (.qN o u):=λo u z=>by have:=I.cq.qF a o u z;rw[ha] at this;cases this
 obtain⟨z,hd,f,r,o,es,g,e,c⟩:=(I.iC a _ ha);exact⟨o,e,I.ghost ha (λ_ z=>by cases z) (λ_ z=>by cases z) (λ_ z=>by cases z) b ⟨e,z,hd,f,r,o,es,g,e,c⟩,b⟩
def Inv.zu(I:Inv X cf σ H s)(ha:H a=aa (.qN o (.dK g8)))(b:∀o u,X.hW a≠aa (.qN o u)):Inv X cf σ (upd H a (.dK g8)) s:=by obtain⟨_,z,hd,f,r,ob,es,g,e,c⟩:=(I.iC a _ ha);exact I.ghost ha (λ_ z=>by cases z) (λ_ z=>by cases z) (λ_ z=>by cases z) b ⟨z,hd,f,r,ob,es,g,e,c⟩
def TH (X:Cx)(P:Hp->Prop)(H:Hp):Prop:=P H\/∃a o g8,H a=aa (.qN o (.dK g8))/\(∀o u,X.hW a≠aa (.qN o u))/\P (upd H a (.dK g8))
def TH.get(I:Inv X cf σ H s)(h:TH X P H):∃b,Inv X cf σ b s/\P b:=by
 rcases h with h|⟨a,o,g8,e,n,h⟩
 .exact⟨H,I,h⟩
 .exact⟨_,I.zu e n,h⟩
noncomputable def thD(X:Cx)(D:Ends):Ends:=⟨λa=>TH X (D.nx a),λv=>TH X (D.rt v),λa=>TH X (D.bk a),λa=>TH X (D.ct a)⟩
def yn{st:cN}(h:PS X st t)(w:∀D a H,n D a H->t (thD X D) a H):PS X st n:=λcf s a H D I q=>
 jB (h cf s a H _ I (w D a H q)) λf o j=>by
  cases f with
  |next=>obtain⟨b,m,c,q⟩:=j;obtain⟨e,g,i⟩:=TH.get c q;exact⟨b,e,g,i⟩
  |brk=>obtain⟨b,m,c,q⟩:=j;obtain⟨e,g,i⟩:=TH.get c q;exact⟨b,e,g,i⟩
  |cont=>obtain⟨b,m,c,q⟩:=j;obtain⟨e,g,i⟩:=TH.get c q;exact⟨b,e,g,i⟩
  |ret u=>obtain⟨v,b,m,c,r,q⟩:=j;obtain⟨e,g,i⟩:=TH.get c q;exact⟨v,b,e,g,r,i⟩
def S5(h:PE X e t)(w:∀a H Q,b a H Q->t a H (λv=>TH X (Q v))):PE X e b:=λcf s a H Q I q=>
 jB (h cf s a H _ I (w a H Q q)) λu j zq=>by obtain⟨v,m,c,r,q⟩:=zq;obtain⟨f,g,i⟩:=TH.get c q;exact⟨v,f,g,r,i⟩
end
end L2
namespace L3
open L2
def Xc (H c:Hp):Prop:=∀b o,H b=aa o->c b=aa o\/∃a,(o=.dK a\/∃ob,o=.qN ob (.dK a))/\Rd c b (.dK a)
section
variable {K:af}
def Cr(e:Xc H H')(h:H a=aa u)(n1:∀b,u≠.dK b)(n2:∀ob b,u≠.qN ob (.dK b)):H' a=aa u:=by
 rcases e a u h with q|⟨b,rfl|⟨ob,rfl⟩,_⟩
 .exact q
 .exact absurd rfl (n1 b)
 .exact absurd rfl (n2 ob b)
def S6(e:Xc H H')(h:Rd H a u)(n1:∀b,u≠.dK b)(n2:∀ob b,u≠.qN ob (.dK b)):Rd H' a u:=by
 rcases h with h|⟨o,h⟩
 .exact .inl (Cr e h n1 n2)
 .exact .inr ⟨o,Cr e h (λ_ z=>by cases z) λ_ b z=>by cases z;exact n1 b rfl⟩
def abX(e:Xc H H')(h:Rd H a (.dK b)):Rd H' a (.dK b):=by
 rcases h with h|⟨o,h⟩
 .rcases e a _ h with q|⟨l,z|⟨ob,z⟩,q⟩
  .exact .inl q
  .cases z;exact q
  .cases z
 .rcases e a _ h with q|⟨l,z|⟨ob,z⟩,q⟩
  .exact .inr ⟨o,q⟩
  .cases z
  .cases z;exact q
def S7(e:Xc H H')(h:w4 K H a xs):w4 K H' a xs:=by
 rcases h with h|h
 .exact .inl (S6 e h (λ_ z=>by cases z) λ_ _ z=>by cases z)
 .exact .inr h
def S8(e:Xc H H')(h:nr K H a xs):nr K H' a xs:=by
 rcases h with h|h
 .exact .inl (S6 e h (λ_ z=>by cases z) λ_ _ z=>by cases z)
 .exact .inr h
end
mutual
theorem Rep.alt {K:af} {α:List ar} {H c:Hp} (e:Xc H c):∀(d:D) (v:V),Rep K α H d v->Rep K α c d v
 |.non,v,h=>by unfold Rep at h |-;exact h
 |.bl _,v,h=>by unfold Rep at h |-;exact h
 |.int _,v,h=>by unfold Rep at h |-;exact h
 |.str _,v,h=>by unfold Rep at h |-;exact h
 |.ty _,v,h=>by unfold Rep at h |-;exact h
 |.tup ds,v,h=>by unfold Rep at h |-;obtain⟨a,b,r,q,z⟩:=h;exact⟨a,b,r,S7 e q,gO.alt e ds b z⟩
 |.lst ds,v,h=>by unfold Rep at h |-;obtain⟨a,b,r,q,z⟩:=h;exact⟨a,b,r,Cr e q (λ_ z=>by cases z) (λ_ _ z=>by cases z),gO.alt e ds b z⟩
 |.qO ns,v,h=>by unfold Rep at h |-;obtain⟨a,r,q⟩:=h;exact⟨a,r,S8 e q⟩
 |.jP g ds,v,h=>by unfold Rep at h |-;obtain⟨a,b,r,q,l,z⟩:=h;exact⟨a,b,r,abX e q,l,gO.alt e ds b z⟩
 |.ins C ns ds,v,h=>by unfold Rep at h |-;obtain⟨a,f,b,r,q,l,z⟩:=h;exact⟨a,f,b,r,Cr e q (λ_ z=>by cases z) (λ_ _ z=>by cases z),l,gO.alt e ds b z⟩
 |.exc C ns ds,v,h=>by unfold Rep at h |-;obtain⟨a,b,r,q,l,z⟩:=h;exact⟨a,b,r,Cr e q (λ_ z=>by cases z) (λ_ _ z=>by cases z),l,gO.alt e ds b z⟩
 |.loc k,v,h=>by unfold Rep at h |-;exact h
 |.cls _,v,h=>by unfold Rep at h |-;exact h
theorem gO.alt {K:af} {α:List ar} {H c:Hp} (e:Xc H c):∀(ds:List D) (b:List V),gO K α H ds b->gO K α c ds b
 |[],b,h=>by unfold gO at h |-;exact h
 |d::ds,b,h=>by unfold gO at h |-;obtain⟨v,r,q,z,y⟩:=h;exact⟨v,r,q,Rep.alt e d v z,gO.alt e ds r y⟩
end
section
variable {K:af}
def Z6 (g8:List (Key×V))(w:HO):Prop:=w=.dK g8\/∃ob,w=.qN ob (.dK g8)
theorem Z6.uN(t:Z6 g8 w):uN (aa w)=aa w:=by rcases t with rfl|⟨ob,rfl⟩<;>rfl
def GA(ha:H a=aa w)(t:Z6 g8 w)(c:Z6 g8 w'):Xc (kE A H) (kE A (upd H a w')):=λb o e=>by
 obtain⟨n,q,v⟩:=p0 e;by_cases z:b=a
 .subst z;rw[ha] at q;cases q;refine .inr ⟨g8,t,?_⟩;have g:kE A (upd H b w') b=aa w':=jF n gZ c.uN;rcases c with rfl|⟨ob,rfl⟩
  .exact .inl g
  .exact .inr ⟨ob,g⟩
 .exact .inl (jF n (by rw[gR z];exact q) v)
def OK.two(o:OK K F α H M)(ha:H a=aa w)(na:a∉lv α M++F)(t:Z6 g8 w)(h:Z6 g8 w'):OK K F α (upd H a w') M:=by
 refine⟨o.ml,o.nd,λb hb=>⟨(o.fr b hb).1,?_⟩,λb hb=>?_,λk x i=>?_,o.tb.upd (.inl ?_)⟩
 .rw[gR λz=>na (bH _ (by rw[<-z];exact hb))];exact(o.fr b hb).2
 .by_cases z:b=a
  .rw[z,gZ,h.uN];exactλz=>by cases z
  .rw[gR z];exact o.al b hb
 .obtain⟨b,e,r⟩:=o.own k x i;have f:b≠a:=λz=>na (bV _ (by rw[<-z];exact nB.mpr ⟨k,x,e,i⟩));refine⟨b,e,?_⟩;have al:Xc (jk F α M H) _:=GA ha t h;cases x with
  |lst ds=>obtain⟨c,q,r⟩:=r;exact⟨c,by rw[gR f];exact q,gO.alt al _ _ r⟩
  |jP j ds=>obtain⟨c,q,l,r⟩:=r;exact⟨c,by rw[gR f];exact q,l,gO.alt al _ _ r⟩
  |ins C ns ds=>obtain⟨m,c,q,l,r⟩:=r;exact⟨m,c,by rw[gR f];exact q,l,gO.alt al _ _ r⟩
  |fz k n j ds=>obtain⟨g,c,q,l,r⟩:=r;exact⟨g,c,by rw[gR f];exact q,l,gO.alt al _ _ r⟩
 .rw[ha,t.uN];exactλz=>by cases z
def Ext.zu{ob:cn}(ha:H a=aa (.dK g8))(na:a∉lv α M++F)(e:Ext F α (upd H a (.qN ob (.dK g8))) M ii c f):
  c a=aa (.qN ob (.dK g8))/\a∉lv ii f++F/\Ext F α H M ii (upd c a (.dK g8)) f:=by
 have g:=e.same a _ (jF na gZ rfl);obtain⟨n2,i⟩:=iz g;refine⟨i,n2,e.pre,λb o q=>?_,λb hb=>?_⟩
 .obtain⟨n,q,v⟩:=p0 q;by_cases z:b=a
  .subst z;rw[ha] at q;cases q;exact jF n2 gZ rfl
  .have:=e.same b o (jF n (by rw[gR z];exact q) v);obtain⟨n3,j⟩:=iz this;exact jF n3 (by rw[gR z];exact j) v
 .have h:b≠a:=λz=>na (bH _ (by rw[<-z];exact hb));rw[gR h,e.fr b hb,gR h]
end
noncomputable def er(p:ar)(H:Hp):Hp:=λb=>if b=p then am else H b
structure LO(X:Cx)(F iq:List ar)(H1 Hf:Hp)(M1:Ms)(T:Hp->Hp):Prop where
 ok:OK X.K F iq Hf M1
 rep:∀d v,Rep X.K iq (jk F iq M1 H1) d v->Rep X.K iq (jk F iq M1 Hf) d v
 e:∀ii H' M',Ext F iq Hf M1 ii H' M'->OK X.K F ii H' M'->Ext F iq H1 M1 ii (T H') M'/\OK X.K F ii (T H') M'/\∀d v,Rep X.K ii (jk F ii M' H') d v->Rep X.K ii (jk F ii M' (T H')) d v
 h:∀ii H' M' (P:Hp->Prop),Ext F iq Hf M1 ii H' M'->P (T H')->TH X P H'
 c:∀p H' x,Hf p=am->H' p=aa x->upd (T (er p H')) p x=T H'
 n:∀p H',Hf p=am->H' p=am->T H' p=am
 k:∀ii H' M' b φ,Ext F iq Hf M1 ii H' M'->H' b=aa (.ext φ)->T H' b=aa (.ext φ)
theorem gO.imp{K:af}(f:∀d v,Rep K α H d v->Rep K α b d v):∀(ds:List D) (a:List V),gO K α H ds a->gO K α b ds a
 |[],a,h=>by exact h
 |d::ds,a,h=>by obtain⟨v,r,q,z,y⟩:=h;exact⟨v,r,q,f d v z,gO.imp f ds r y⟩
section
variable {X:Cx} {M1:Ms}
def LO.refl(o:OK X.K F iq H1 M1):LO X F iq H1 H1 M1 id:=
 ⟨o,λ_ _ r=>r,λ_ _ _ e o=>⟨e,o,λ_ _ r=>r⟩,λ_ _ _ _ _ p=>.inl p,λp a x _ h=>by
  funext b;show upd (er p a) p x b=a b;by_cases z:b=p
  .rw[z,gZ,h]
  .rw[gR z];unfold er;rw[if_neg z],λ_ _ _ h=>h,λ_ _ _ _ _ _ h=>h⟩
def LO.rs(z:LO X F iq H1 Hf M1 T)(r:R X.K F iq H1 σ a M1):R X.K F iq Hf σ a M1:=⟨z.ok,r.len,λi d q=>by obtain⟨v,b,c⟩:=r.sl i d q;exact⟨v,b,z.rep d v c⟩⟩
def LO.rt(z:LO X F iq H1 Hf M1 T){ii:List ar}{a:Hp}{b:Ms}{f:L2.St}{g:nC}(e:Ext F iq Hf M1 ii a b)(c:R X.K F ii a f g b):R X.K F ii (T a) f g b:=by
 obtain⟨_,h,j⟩:=z.e _ _ _ e c.ok;exact⟨h,c.len,λi d q=>by obtain⟨v,m,n⟩:=c.sl i d q;exact⟨v,m,j d v n⟩⟩
def LO.dict(o:OK X.K F iq H1 M1)(ha:H1 a=aa (.dK i))(na:a∉lv iq M1++F)(q:∀o u,X.hW a≠aa (.qN o u)):
  LO X F iq H1 (upd H1 a (.qN ob (.dK i))) M1 (λc=>upd c a (.dK i)):=by
 have t:Z6 i _:=.inl rfl;have j:Z6 i _:=.inr ⟨ob,rfl⟩;refine⟨o.two ha na t j,λd v r=>Rep.alt (GA ha t j) d v r,λii c n e o=>?_,λii c n P e p=>?_,λp c x g w=>?_,λp c g hn=>?_,λii c n b E e h=>?_⟩
 .obtain⟨f,A,B⟩:=Ext.zu ha na e;exact⟨B,o.two f A j t,λd v C=>Rep.alt (GA f j t) d v C⟩
 .obtain⟨f,_,_⟩:=Ext.zu ha na e;exact .inr ⟨a,ob,_,f,q,p⟩
 .have m:p≠a:=λz=>by rw[z,gZ] at g;cases g
  funext b;by_cases z:b=p
  .rw[z,gZ,gR m];exact w.symm
  .rw[gR z];by_cases y:b=a
   .rw[y,gZ,gZ]
   .rw[gR y,gR y];unfold er;rw[if_neg z]
 .rw[gR λz=>by rw[z,gZ] at g;cases g];exact hn
 .obtain⟨f,_,_⟩:=Ext.zu ha na e;rw[gR λz=>by rw[z,f] at h;cases h];exact h
end
def aie (K:af)(f:List ar)(c:Hp):OD->HO->Prop
 |.lst ds,b=>∃a,b=.lst a/\gO K f c ds a
 |.jP e ds,b=>∃a,b=.dK (e.zip a)/\e.length=ds.length/\gO K f c ds a
 |.ins _ _ _,_=>False
 |.fz _ _ _ _,_=>False
noncomputable def OD.toD:OD->D
 |.lst ds=>.lst ds
 |.jP a ds=>.jP a ds
 |.ins C ns ds=>.ins C ns ds
 |.fz k _ _ _=>.loc k
abbrev DF:=nC->Ms->(OD->Ms->Prop)->Prop
abbrev fK(K:af)(F c:List ar)(H:Hp)(M:Ms)(Q:VK):OD->Ms->Prop:=λo M1=>∀p b a H1,Ext F c H M a H1 M1->OK K F a H1 M1->H1 p=am->aie K a (jk F a M1 H1) o b->Q (.ref p) (upd H1 p b)
def lF (K:af)(t:DF):TE:=λb H Q=>∃F c a M,R K F c H b a M/\t a M (fK K F c H M Q)
structure JF(X:Cx)(e:bv)(t:DF):Prop where
 mono:∀δ M (P Q:OD->Ms->Prop),(∀d M,P d M->Q d M)->t δ M P->t δ M Q
 p:PE X e (lF X.K t)
section
variable {K:af}
def fK.grow(e:Ext F α H M ii H' M'):∀d a,fK K F α H M Q d a->fK K F ii H' M' Q d a:=λd a h p b c f e2 g i j=>h p b c f (e.trans e2) g i j
def fK.qN{M1:Ms}(h:vK K F α H M Q o.toD M1):fK K F α H M Q o M1:=by
 intro p i j H1 e1 b c a;have q:=vK.grow e1 _ _ h;refine vK.new b c q λe=>?_;cases o with
 |lst ds=>obtain⟨f,rfl,r⟩:=a;exact mx b c r e
 |jP g ds=>
  obtain⟨f,rfl,l,r⟩:=a;exact⟨p,f,rfl,.inl (by show kE _ _ p=_;rw[j9 (b.new c),gZ]),l,e.Ck r⟩
 |ins C ns ds=>exact a.elim
 |fz k m g ds=>exact a.elim
def fK.own{M1:Ms}(h:vK K F α H M Q (.loc M1.length) (M1++[aa o])):fK K F α H M Q o M1:=by
 intro p f m H1 e1 c a b;have g:=c.Cm (x:=o) a (yi (o:=f) a);obtain⟨i,e2⟩:=c.enter (x:=o) (H':=upd H1 p f) a (yi a) (by
  cases o with
  |lst ds=>obtain⟨e,rfl,r⟩:=b;exact⟨e,gZ,gO.mono (cL _ _) g _ _ r⟩
  |jP j ds=>obtain⟨e,rfl,l,r⟩:=b;exact⟨e,gZ,l,gO.mono (cL _ _) g _ _ r⟩
  |ins C ns ds=>exact b.elim
  |fz k n j ds=>exact b.elim)
 refine h _ _ _ (e1.trans e2) i ?_;exact⟨p,by rw[<-c.ml];simp,rfl⟩
end
section
variable {X:Cx} {rest:List bv} {x:aB}
def iS (t:DF):DE:=λf M Q=>t f M λo M1=>Q o.toD M1
def lD (t:DF):DE:=λf M Q=>t f M λo M1=>Q (.loc M1.length) (M1++[aa o])
def S9(h:JF X e tf):JE X e (iS tf):=⟨λf M P Q w q=>h.mono f _ _ _ (λo M1 q=>w _ _ q) q,PE.weak h.p λa H Q zq=>by obtain⟨F,b,f,M,r,q⟩:=zq;exact ⟨F,b,f,M,r,h.mono f _ _ _ (λo M1 q=>fK.qN q) q⟩⟩
def Z7(h:JF X e tf):JE X e (lD tf):=⟨λf M P Q w q=>h.mono f _ _ _ (λo M1 q=>w _ _ q) q,PE.weak h.p λa H Q zq=>by obtain⟨F,b,f,M,r,q⟩:=zq;exact ⟨F,b,f,M,r,h.mono f _ _ _ (λo M1 q=>fK.own q) q⟩⟩
def jI (tt:DA):DF:=λf M Q=>tt f M λds M1=>ds.length<=az/\Q (.lst ds) M1
def abY(h:JA X es tt):JF X (.List es pos) (jI tt):=by refine⟨λf M P Q w q=>h.mono f _ _ _ (λds M1 q=>⟨q.1,w _ _ q.2⟩) q,PE.weak (abx h.p) λa H Q q=>?_⟩;obtain⟨F,b,f,M,r,q⟩:=q;refine⟨F,b,f,M,r,h.mono f _ _ _ (λds M1 q g j H1 e1 m i=>?_) q⟩;exact⟨by rw[<-gO.length ds g i];exact q.1,λp n=>q.2 p _ j H1 e1 m n ⟨g,rfl,i⟩⟩
def GB:DF:=λf M Q=>Q (.jP [] []) M
def Ta:JF X (.Dict [] [] pos) GB:=
 ⟨λf M P Q w q=>w _ _ q,PE.weak Sv λa H Q zq=>by obtain⟨F,b,f,M,r,q⟩:=zq;exact λp g=>q p _ b H Ext.refl r.ok g ⟨[],rfl,rfl,gO.nil⟩⟩
end
structure jK where
 nx:nC->Ms->Prop
 rt:DK
 bk:nC->Ms->Prop
 ct:nC->Ms->Prop
abbrev DS:=jK->nC->Ms->Prop
structure jK.le(P Q:jK):Prop where
 nx:∀δ M,P.nx δ M->Q.nx δ M
 rt:∀d M,P.rt d M->Q.rt d M
 bk:∀δ M,P.bk δ M->Q.bk δ M
 ct:∀δ M,P.ct δ M->Q.ct δ M
def jK.le.refl(P:jK):P.le P:=⟨λ_ _ h=>h,λ_ _ h=>h,λ_ _ h=>h,λ_ _ h=>h⟩
abbrev sK(K:af)(F f:List ar)(H:Hp)(M:Ms)(Q:L2.St->Hp->Prop):nC->Ms->Prop:=λe b=>∀c ii a,Ext F f H M ii a b->R K F ii a c e b->Q c a
noncomputable def uI(K:af)(F a:List ar)(H:Hp)(M:Ms)(E:Ends):jK:=⟨sK K F a H M E.nx,vK K F a H M E.rt,sK K F a H M E.bk,sK K F a H M E.ct⟩
def lS (K:af)(t:DS):TS:=λE b H=>∃F c a M,R K F c H b a M/\t (uI K F c H M E) a M
section
variable {K:af}
def sK.grow(e:Ext F α H M ii H' M'):∀d a,sK K F α H M Q d a->sK K F ii H' M' Q d a:=λd a h v b c e2 f=>h v b c (e.trans e2) f
theorem uI.grow(e:Ext F α H M ii H' M'):(uI K F α H M E).le (uI K F ii H' M' E):=⟨sK.grow e,vK.grow e,sK.grow e,sK.grow e⟩
end
structure JS(X:Cx)(st:cN)(t:DS):Prop where
 mono:∀(P Q:jK) δ M,P.le Q->t P δ M->t Q δ M
 p:PS X st (lS X.K t)
structure Fz(X:Cx)(st:List cN)(t:DS):Prop where
 mono:∀(P Q:jK) δ M,P.le Q->t P δ M->t Q δ M
 p:wX X st (lS X.K t)
section
variable {X:Cx} {t:DS} {pos:dA} {x:aB} {st:cN} {bs:List cN}
def hV:DS:=λE a M=>E.nx a M
def hG (t u:DS):DS:=λE a M=>t {E with nx:=u E} a M
def abZ:Fz X [] hV:=⟨λP Q a M w q=>w.nx _ _ q,wX.weak NJ λE b H zq=>by obtain⟨F,c,a,M,r,q⟩:=zq;exact q b c H Ext.refl r⟩
def LP(h:JS X st t):Fz X [st] t:=⟨h.mono,NK h.p⟩
def Xd(a:JS X st t)(b:Fz X Lg u):Fz X (st::Lg) (hG t u):=by refine⟨λP Q f M w q=>a.mono {P with nx:=u P} _ _ _ ⟨λf M q=>b.mono _ _ _ _ w q,w.rt,w.bk,w.ct⟩ q,wX.weak (xX a.p b.p) λE c H q=>?_⟩;obtain⟨F,e,f,M,r,q⟩:=q;refine⟨F,e,f,M,r,a.mono {uI X.K F e H M E with nx:=u _} _ _ _ ⟨λg M1 q h i H1 e1 j=>⟨F,i,g,M1,j,b.mono _ _ _ _ (uI.grow e1) q⟩,λ_ _ q=>q,λ_ _ q=>q,λ_ _ q=>q⟩ q⟩
def ia (te:DE):DS:=λE a M=>te a M E.rt
def LQ(b:JE X e te):JS X (.Return (aa e) pos) (ia te):=⟨λP Q a M w q=>b.mono a _ _ _ w.rt q,PS.weak (abb b.p) λE c H zq=>by obtain⟨F,f,a,M,r,q⟩:=zq;exact ⟨F,f,a,M,r,q⟩⟩
def tJ:DS:=λ_ _ _=>False
def Tc:JS X st tJ:=⟨λP Q a M w q=>q,PS.weak R5 λE b H zq=>by obtain⟨F,c,a,M,r,q⟩:=zq;exact q⟩
def iA (c:DT)(t u:DS):DS:=λE a M=>c a M λb M1=>if b=ai then t E a M1 else u E a M1
def afl(hc:JT X c tA)(ha:Fz X as t)(hb:Fz X bs u):JS X (.If c as bs pos) (iA tA t u):=by
 refine⟨λP Q a M w q=>hc.mono a _ _ _ (λb M1 q=>?_) q,PS.weak (ZL hc.p ha.p hb.p) λE e H q=>?_⟩
 .cases b with
  |true=>exact ha.mono _ _ _ _ w q
  |false=>exact hb.mono _ _ _ _ w q
 .obtain⟨F,h,a,M,r,q⟩:=q;refine⟨F,h,a,M,r,hc.mono a _ _ _ (λb M1 q f H1 e1 g=>?_) q⟩;cases b with
  |true=>
   exact⟨F,f,a,M1,r.grow e1 g,ha.mono _ _ _ _ (uI.grow e1) q⟩
  |false=>
   exact⟨F,f,a,M1,r.grow e1 g,hb.mono _ _ _ _ (uI.grow e1) q⟩
def jV (te:DE):DS:=λE a M=>te a M λ_ M1=>E.nx a M1
def Xe(b:JE X e te)(f:c5 e am pos.line X.env=pure ao:=by rfl):JS X (.Expr e pos) (jV te):=by refine⟨λP Q a M w q=>b.mono a _ _ _ (λd M1 q=>w.nx _ _ q) q,PS.weak (Gj b.p f) λE c H q=>?_⟩;obtain⟨F,j,a,M,r,q⟩:=q;exact⟨F,j,a,M,r,b.mono a _ _ _ (λd M1 q v g H1 e1 h i=>q c g H1 e1 (r.grow e1 h)) q⟩
def iF (i:Nat)(te:DE):DS:=λE a M=>te a M λd M1=>E.nx (a.set i (aa d)) M1
def ab0(i:Nat)(f:X.N.Nodup)(b:JE X e te)(hi:X.N[i]?=aa x:=by rfl)(g:Loc X.env.scope x:=by first|exact dP rfl|exact c9 rfl)(h:c5 e (aa (.Name x p)) pos.line X.env=pure ao:=by rfl)
(j:X.fn x=ai\/X.env.scope.names.lookup x=aa .local:=by first|exact .inl rfl|exact .inr rfl|assumption):JS X (.Assign [.Name x p] e pos) (iF i te):=by refine⟨λP Q a M w q=>b.mono a _ _ _ (λd M1 q=>w.nx _ _ q) q,PS.weak (R8 f hi g b.p h j) λE c H q=>?_⟩;obtain⟨F,u,a,M,r,q⟩:=q;exact⟨F,u,a,M,r,b.mono a _ _ _ (λd M1 q v m H1 e1 n o=>q _ m H1 e1 ((r.grow e1 n).set o)) q⟩
abbrev DG:=D->nC->Ms->(nC->Ms->Prop)->Prop
abbrev Z8:=List D->nC->Ms->(nC->Ms->Prop)->Prop
def lG (K:af)(g:DG):TG:=λv b H Q=>∃F c a M d,R K F c H b a M/\Rep K c (jk F c M H) d v/\g d a M (sK K F c H M Q)
def lGs (K:af)(g:Z8):ZM:=λb c H Q=>∃F e a M ds,R K F e H c a M/\gO K e (jk F e M H) ds b/\g ds a M (sK K F e H M Q)
structure JG(X:Cx)(tg:bv)(g:DG):Prop where
 mono:∀d δ M (P Q:nC->Ms->Prop),(∀δ M,P δ M->Q δ M)->g d δ M P->g d δ M Q
 p:PG X tg (lG X.K g)
structure JGs(X:Cx)(tg:List bv)(g:Z8):Prop where
 mono:∀d δ M (P Q:nC->Ms->Prop),(∀δ M,P δ M->Q δ M)->g d δ M P->g d δ M Q
 p:RD X tg (lGs X.K g)
def PG.weak(h:PG X tg g)(w:∀v σ H Q,a v σ H Q->g v σ H Q):PG X tg a:=λcf s σ H v u Q I r q=>h cf s σ H v u Q I r (w v σ H Q q)
def RD.weak(h:RD X tg g)(w:∀v σ H Q,a v σ H Q->g v σ H Q):RD X tg a:=λcf s σ H v u Q I r q=>h cf s σ H v u Q I r (w v σ H Q q)
def gU (i:Nat):DG:=λd a M Q=>Q (a.set i (aa d)) M
def NZ(i:Nat)(a:X.N.Nodup)(hi:X.N[i]?=aa x:=by rfl)(b:Loc X.env.scope x:=by first|exact dP rfl|exact c9 rfl)(f:X.fn x=ai\/X.env.scope.names.lookup x=aa .local:=by first|exact .inl rfl|exact .inr rfl|assumption):JG X (.Name x pos) (gU i):=
 ⟨λd g M P Q w q=>w _ _ q,PG.weak (Wz a hi b f) λv c H Q zq=>by obtain⟨F,e,g,M,d,r,rd,q⟩:=zq;exact q _ e H Ext.refl (r.set rd)⟩
def iT:Z8:=λds a M Q=>ds=[]/\Q a M
def gX (g:DG)(gs:Z8):Z8:=λds a M Q=>match ds with|d::r=>g d a M λb M1=>gs r b M1 Q|[]=>False
def Xf:JGs X [] iT:=⟨λd a M P Q w q=>⟨q.1,w _ _ q.2⟩,RD.weak WA λv b H Q zq=>by obtain⟨F,c,a,M,ds,r,rd,e,q⟩:=zq;subst e;exact⟨rd,q b c H Ext.refl r⟩⟩
def Td(a:JG X e g)(b:JGs X es gs)(h:(cD (e::es) X.env).map (·.2)=assign e X.env::(cD es X.env).map (·.2):=by rfl):JGs X (e::es) (gX g gs):=by
 refine⟨λd f M P Q w q=>?_,RD.weak (R6 a.p b.p h) λv c H Q q=>?_⟩
 .cases d with
  |nil=>exact q.elim
  |cons d r=>exact a.mono _ _ _ _ _ (λf M q=>b.mono _ _ _ _ _ w q) q
 .obtain⟨F,u,f,M,ds,r,rd,q⟩:=q;cases ds with
  |nil=>exact q.elim
  |cons d i=>
   obtain⟨v1,j,rfl,m,n⟩:=rd;refine⟨v1,j,rfl,F,u,f,M,d,r,m,a.mono _ _ _ _ _ (λo M1 q y z H1 e1 A=>?_) q⟩;exact⟨F,z,o,M1,i,A,e1.Ck n,b.mono _ _ _ _ _ (sK.grow e1) q⟩
def iU (n:Nat)(gs:Z8):DG:=λd a M Q=>match d with|.tup ds=>ds.length=n/\gs ds a M Q|_=>False
def ab1(h:JGs X es gs)(hc:X.calm=ai:=by rfl)(hn:(cD es X.env).length=n:=by rfl)(f:(cD es X.env).findIdx? (·.1)=am:=by rfl):JG X (.Tuple es k pos) (iU n gs):=by
 refine⟨λd b M P Q w q=>?_,PG.weak (abf hc h.p hn f) λv c H Q q=>?_⟩
 .cases d<;>first|exact q.elim|exact⟨q.1,h.mono _ _ _ _ _ w q.2⟩
 .obtain⟨F,e,b,M,d,r,rd,q⟩:=q;cases d<;>first|exact q.elim|skip
  obtain⟨a,g,rfl,i,z⟩:=rd;exact⟨a,g,rfl,mw ib i,by rw[<-gO.length _ _ z];exact q.1,F,e,b,M,_,r,z,q.2⟩
def EH (te:DE)(g:DG):DS:=λE a M=>te a M λd M1=>g d a M1 E.nx
def ab2(b:JE X e te)(f:JG X tg g)(h:akG [tg] e pos.line X.env=pure ao:=by rfl)(hw:akH [tg] e X.env=pure am:=by rfl)
(i:(cD [tg] X.env).map (·.2)=[assign tg X.env]:=by rfl):JS X (.Assign [tg] e pos) (EH te g):=by refine⟨λP Q a M w q=>b.mono a _ _ _ (λd M1 q=>f.mono _ _ _ _ _ w.nx q) q,PS.weak (R7 b.p f.p h hw i) λE c H q=>?_⟩;obtain⟨F,o,a,M,r,q⟩:=q;refine⟨F,o,a,M,r,b.mono a _ _ _ (λd M1 q v j H1 e1 m n=>?_) q⟩;exact⟨F,j,a,M1,d,r.grow e1 m,n,f.mono _ _ _ _ _ (sK.grow e1) q⟩
structure ab3(K:af)(F iq:List ar)(H1:Hp)(M1:Ms)(J:It)(items:List D)(st:Ms->Prop):Prop where
 go:∀i F' ii H' M',iq <+: ii->jC (jk F iq M1 H1) (jk F' ii M' H')->OK K F' ii H' M'->st M'->i<items.length->J.go i H'
 ZO:∀(i:Nat) F' ii H' M' x H2 d,iq <+: ii->jC (jk F iq M1 H1) (jk F' ii M' H')->OK K F' ii H' M'->st M'->items[i]?=aa d->J.ZO i H' x H2->OK K F' ii H2 M'/\Ext F' ii H' M' ii H2 M'/\Rep K ii (jk F' ii M' H2) d x
 stop:∀F' ii H' M',iq <+: ii->jC (jk F iq M1 H1) (jk F' ii M' H')->OK K F' ii H' M'->st M'->J.stop items.length H'
abbrev DI:=nC->Ms->(List D->(Ms->Prop)->Ms->Prop)->Prop
abbrev iK(X:Cx)(F c:List ar)(H:Hp)(M:Ms)(Q:It->Hp->Prop):List D->(Ms->Prop)->Ms->Prop:=λitems st M1=>∀J a H1 b T,Ext F c H M a H1 M1->OK X.K F a H1 M1->LO X F a H1 b M1 T->ab3 X.K F a b M1 J items st->Q J b
def lI (X:Cx)(t:DI):TI:=λb H Q=>∃F c a M,R X.K F c H b a M/\t a M (iK X F c H M Q)
structure JI(X:Cx)(tg e:bv)(t:DI):Prop where
 mono:∀δ M (P Q:List D->(Ms->Prop)->Ms->Prop),(∀l s M,P l s M->Q l s M)->t δ M P->t δ M Q
 p:PI X tg e (lI X t)
def PI.weak{t a:TI}(h:PI X tg e t)(w:∀σ H Q,a σ H Q->t σ H Q):PI X tg e a:=λcf s σ H Q I q=>h cf s σ H Q I (w σ H Q q)
def qJ (g:DG)(tb:DS)(st:Ms->Prop)(E:jK):List D->nC->Ms->Prop
 |[]=>λb M=>E.nx b M
 |x::xs=>λb M=>g x b M λh M1=>tb {E with nx:=λf a=>st a/\qJ g tb st E xs f a,ct:=λf a=>st a/\qJ g tb st E xs f a,bk:=E.nx} h M1
def lH (b:DI)(g:DG)(tb:DS):DS:=λE a M=>b a M λitems st M1=>st M1/\qJ g tb st E items a M1
theorem zw{st:Ms->Prop}(h:∀d a M (P Q:nC->Ms->Prop),(∀a M,P a M->Q a M)->g d a M P->g d a M Q)(hb:∀(P Q:jK) a M,P.le Q->tb P a M->tb Q a M)(w:P.le Q):∀xs a M,qJ g tb st P xs a M->qJ g tb st Q xs a M
 |[],a,M,q=>w.nx _ _ q
 |x::xs,a,M,q=>h _ _ _ _ _ (λi M1 q=>hb {P with nx:=λf b=>st b/\qJ g tb st P xs f b,ct:=λf b=>st b/\qJ g tb st P xs f b,bk:=P.nx} _ _ _ ⟨λf b q=>⟨q.1,zw h hb w xs f b q.2⟩,w.rt,w.nx,λf b q=>⟨q.1,zw h hb w xs f b q.2⟩⟩ q) q
def Te(hi:JI X tg e ti)(hg:JG X tg g)(hb:Fz X body tb)(hp:ajZ (model X.prog X.w) X.A X.env X.xe:=by exact ajZ.never)(hc:X.calm=ai:=by rfl)
(hs:∀x,cx e X.env x=pure x:=by intro _;rfl):JS X (.For tg e body [] pos) (lH ti g tb):=by
 refine⟨λP Q G M w q=>hi.mono G _ _ _ (λitems st M1 q=>⟨q.1,zw hg.mono hb.mono w _ _ _ q.2⟩) q,yn (Sa hp hc hi.p hg.p hb.p hs) λE c H q=>?_⟩;obtain⟨F,u,G,M,r,q⟩:=q;refine⟨F,u,G,M,r,hi.mono G _ _ _ (λitems st M1 q J iq H1 Hf T e1 o1 z it=>?_) q⟩;obtain⟨s1,q⟩:=q;refine⟨λi m jn f=>m=items.length- i/\i<=items.length/\∃ii N a,Ext F iq Hf M1 ii f a/\R X.K F ii f jn N a/\st a/\qJ g tb st _ (items.drop i) N a,⟨_,rfl,bu _,iq,G,M1,Ext.refl,z.rs (r.grow e1 o1),s1,q⟩,?_⟩
 rintro i m jn f ⟨rfl,hi',ii,N,a,e',C,s',O⟩
 by_cases U:i<items.length
 .rw[dH U] at O;refine .inr ⟨it.go i F ii f a e'.pre e'.same C.ok s' U,λIy I=>∃sZ Xg M2,Ext F iq Hf M1 sZ I M2/\R X.K F sZ I Iy Xg M2/\st M2/\qJ g tb st _ _ Xg M2,λIy I h=>⟨_,by lia,rfl,U,h⟩,λx I y=>?_⟩;obtain⟨o2,e2,rx⟩:=it.ZO i F ii f a x I items[i] e'.pre e'.same C.ok s' (by simp[U]) y;refine⟨F,ii,N,a,items[i],C.grow e2 o2,rx,hg.mono _ _ _ _ _ (λTf M3 q3 Sb yk H3 e3 r3=>⟨F,yk,Tf,M3,r3,hb.mono _ _ _ _ ?_ q3⟩) O⟩;have wP:=(e'.trans e2).trans e3;refine⟨λY j B Xh b n e4 o=>⟨b,Y,j,wP.trans e4,o,B⟩,λd j B v b n e4 o4 o=>?_,λY j B Xh b n e4 o=>?_,λY j B Xh b n e4 o=>⟨b,Y,j,wP.trans e4,o,B⟩⟩
  .obtain⟨L,t2,t3⟩:=z.e b n j (wP.trans e4) o4;exact z.h b n j _ (wP.trans e4) (B v b (T n) (e1.trans L) t2 (t3 d v o))
  .obtain⟨L,_,_⟩:=z.e b n j (wP.trans e4) o.ok;exact z.h b n j _ (wP.trans e4) (B Xh b (T n) (e1.trans L) (z.rt (wP.trans e4) o))
 .have e:i=items.length:=by lia
  subst e;rw[List.drop_length] at O;obtain⟨L,_,_⟩:=z.e ii f a e' C.ok;exact .inl ⟨it.stop F ii f a e'.pre e'.same C.ok s',z.h ii f a _ e' (O jn ii (T f) (e1.trans L) (z.rt e' C))⟩
end
mutual
noncomputable def nl:D->Bool
 |.non|.bl _|.int _|.str _|.ty _|.qO _|.cls _=>ai
 |.loc _=>ao
 |.tup ds|.lst ds|.jP _ ds|.ins _ _ ds|.exc _ _ ds=>lN ds
noncomputable def lN:List D->Bool
 |[]=>ai
 |d::ds=>nl d&&lN ds
end
mutual
theorem Rep.nl {K:af} {α β:List ar} {H:Hp}:∀(d:D) (v:V),L3.nl d=ai->Rep K α H d v->Rep K β H d v
 |.non,v,_,h=>by unfold Rep at h |-;exact h
 |.bl _,v,_,h=>by unfold Rep at h |-;exact h
 |.int _,v,_,h=>by unfold Rep at h |-;exact h
 |.str _,v,_,h=>by unfold Rep at h |-;exact h
 |.ty _,v,_,h=>by unfold Rep at h |-;exact h
 |.qO _,v,_,h=>by unfold Rep at h |-;exact h
 |.cls _,v,_,h=>by unfold Rep at h |-;exact h
 |.loc _,v,n,h=>by unfold L3.nl at n;cases n
 |.tup ds,v,n,h=>by unfold Rep at h |-;unfold L3.nl at n;obtain⟨a,b,r,q,z⟩:=h;exact⟨a,b,r,q,gO.nl ds b n z⟩
 |.lst ds,v,n,h=>by unfold Rep at h |-;unfold L3.nl at n;obtain⟨a,b,r,q,z⟩:=h;exact⟨a,b,r,q,gO.nl ds b n z⟩
 |.jP e ds,v,n,h=>by unfold Rep at h |-;unfold L3.nl at n;obtain⟨a,b,r,q,l,z⟩:=h;exact⟨a,b,r,q,l,gO.nl ds b n z⟩
 |.ins C ns ds,v,n,h=>by unfold Rep at h |-;unfold L3.nl at n;obtain⟨a,c,b,r,q,l,z⟩:=h;exact⟨a,c,b,r,q,l,gO.nl ds b n z⟩
 |.exc C ns ds,v,n,h=>by unfold Rep at h |-;unfold L3.nl at n;obtain⟨a,b,r,q,l,z⟩:=h;exact⟨a,b,r,q,l,gO.nl ds b n z⟩
theorem gO.nl {K:af} {α β:List ar} {H:Hp}:∀(d:List D) (v:List V),L3.lN d=ai->gO K α H d v->gO K β H d v
 |[],v,_,h=>by unfold gO at h |-;exact h
 |d::ds,v,n,h=>by unfold gO at h |-;unfold L3.lN at n;rw[aU] at n;obtain⟨u,r,q,z,y⟩:=h;exact⟨u,r,q,Rep.nl d u n.1 z,gO.nl ds r n.2 y⟩
end
theorem GC:∀ds:List D,lN ds=ds.all nl
 |[]=>rfl
 |d::ds=>by unfold lN;rw[dm,GC ds]
def jQ{β:Type}{f:β->D}(h:∀b,nl (f b)=ai)(l:List β):lN (l.map f)=ai:=by rw[GC];simp[h]
noncomputable def Xi(k:Nat):Option (Option OD)->D
 |some (aa o)=>o.toD
 |_=>.loc k
noncomputable def vw(M:Ms):D->D
 |.loc k=>Xi k M[k]?
 |d=>d
noncomputable def fz(M:Ms):D->D
 |.tup ds=>.tup (ds.map (vw M))
 |d=>vw M d
section
variable {K:af}
def pE:jC (jk F a M H) (kE F H):=λb o e=>by obtain⟨z,q⟩:=iz e;exact kW e (λw=>z (bH _ w)) q
def OK.aif(o:OK K F α H M)(h:a∈α):a∉F:=λw=>(o.fr a w).1 h
def zx(o:OK K F w H M):∀(d:D) (v:V),Rep K w (jk F w M H) d v->Rep K w (kE F H) (vw M d) v:=λd v h=>by
 have gen:=Rep.mono (bc _) pE d v h;cases d with
 |loc k=>
  show Rep K w _ (Xi k M[k]?) v;cases e:M[k]? with
  |none=>exact gen
  |some x=>
   cases x with
   |none=>exact gen
   |some y=>
    obtain⟨a,g,c⟩:=o.own k y e;obtain⟨p,i,rfl⟩:=h;rw[g] at i;cases i;have f:a∉F:=o.aif (aS g);cases y with
    |lst ds=>
     obtain⟨b,q,r⟩:=c;show Rep K w _ (.lst ds) _;exact⟨a,b,rfl,jF f q rfl,gO.mono (bc _) pE _ _ r⟩
    |jP m ds=>
     obtain⟨b,q,l,r⟩:=c;show Rep K w _ (.jP m ds) _;exact⟨a,b,rfl,.inl (jF f q rfl),l,gO.mono (bc _) pE _ _ r⟩
    |ins C ns ds=>
     obtain⟨n,b,q,l,r⟩:=c;exact⟨a,n,b,rfl,jF f q rfl,l,gO.mono (bc _) pE _ _ r⟩
    |fz j u m ds=>
     show Rep K w _ (.loc j) _;exact⟨a,c.1,rfl⟩
 |_=>exact gen
def rP(e:vw M (.loc k)=d):d=.loc k\/∃o,M[k]?=aa (aa o)/\d=o.toD:=by
 have e:Xi k M[k]?=d:=e;cases h:M[k]? with
 |none=>rw[h] at e;exact .inl e.symm
 |some x=>
  cases x with
  |none=>rw[h] at e;exact .inl e.symm
  |some o=>rw[h] at e;exact .inr ⟨o,rfl,e.symm⟩
theorem N0(o:OK K F b H M):∀(ds:List D) (a:List V),gO K b (jk F b M H) ds a->gO K b (kE F H) (ds.map (vw M)) a
 |[],a,h=>by subst h;exact gO.nil
 |d::ds,a,h=>by obtain⟨v,r,rfl,z,y⟩:=h;exact gO.cons (zx o d v z) (N0 o ds r y)
def Tg(o:OK K F e H M):∀(d:D) (v:V),Rep K e (jk F e M H) d v->Rep K e (kE F H) (fz M d) v:=λd v h=>by
 cases d with
 |tup ds=>
  obtain⟨a,b,rfl,c,z⟩:=h;show Rep K e _ (.tup _) _;exact⟨a,b,rfl,mw pE c,N0 o _ _ z⟩
 |_=>exact zx o _ v h
def jg(o:OK K F j H M)(h:Rep K j (jk F j M H) d v)(e:vw M d=.lst ds):∃a b,v=.ref a/\H a=aa (.lst b)/\gO K j (jk F j M H) ds b:=by
 cases d with
 |lst es=>
  cases(e);obtain⟨a,b,rfl,q,z⟩:=h;exact⟨a,b,rfl,ib _ _ q,z⟩
 |loc k=>
  rcases rP e with e|⟨x,f,e⟩
  .cases e
  .cases x<;>cases e;obtain⟨a,g,b,q,r⟩:=o.own k _ f;obtain⟨i,c,rfl⟩:=h;rw[g] at c;cases c;exact⟨a,b,rfl,q,r⟩
 |_=>cases e
def _root_.L2.yc.kr{H:Hp}{a:ar}{b:List (Key×V)}{k:Key}(e:Rd H a (.dK b)):yc H a (kV k) (rM b k):=.inl ⟨b,k,e,rfl,rfl⟩
def w9(o:OK K F m H M)(h:Rep K m (jk F m M H) d v)(e:vw M d=.jP c ds):∃a b,v=.ref a/\Rd H a (.dK (c.zip b))/\c.length=ds.length/\gO K m (jk F m M H) ds b:=by
 cases d with
 |jP ls es=>
  cases(e);obtain⟨a,b,rfl,q,l,z⟩:=h;exact⟨a,b,rfl,Gy ib q,l,z⟩
 |loc k=>
  rcases rP e with e|⟨x,g,e⟩
  .cases e
  .cases x<;>cases e;obtain⟨a,i,b,q,l,r⟩:=o.own k _ g;obtain⟨j,f,rfl⟩:=h;rw[i] at f;cases f;exact⟨a,b,rfl,.inl q,l,r⟩
 |_=>cases e
def LR(o:OK K F n H M)(h:Rep K n (jk F n M H) d v)(e:vw M d=.ins C ns ds):∃a c b,v=.ref a/\H a=aa (.ins C c (ns.zip b))/\ns.length=ds.length/\gO K n (jk F n M H) ds b:=by
 cases d with
 |ins j ls es=>
  cases(e);obtain⟨a,c,b,rfl,q,l,z⟩:=h;exact⟨a,c,b,rfl,ib _ _ q,l,z⟩
 |loc k=>
  rcases rP e with e|⟨x,g,e⟩
  .cases e
  .cases x<;>cases e;obtain⟨a,i,c,b,q,l,r⟩:=o.own k _ g;obtain⟨m,f,rfl⟩:=h;rw[i] at f;cases f;exact⟨a,c,b,rfl,q,l,r⟩
 |_=>cases e
def LS(e:vw M d=.tup ds):d=.tup ds:=by
 cases d with
 |loc k=>rcases rP e with e|⟨x,a,e⟩<;>first|cases e|(cases x<;>cases e)
 |_=>exact e
def mM(e:vw M d=.str x):d=.str x:=by
 cases d with
 |loc k=>rcases rP e with e|⟨x,a,e⟩<;>first|cases e|(cases x<;>cases e)
 |_=>exact e
def u0(e:vw M d=.qO x):d=.qO x:=by
 cases d with
 |loc k=>rcases rP e with e|⟨x,a,e⟩<;>first|cases e|(cases x<;>cases e)
 |_=>exact e
def xa(e:vw M d=.int x):d=.int x:=by
 cases d with
 |loc k=>rcases rP e with e|⟨x,a,e⟩<;>first|cases e|(cases x<;>cases e)
 |_=>exact e
def mN(o:OK K F c H M)(h:Rep K c (jk F c M H) d v)(e:vw M d=.tup ds):∃a b,v=.ref a/\w4 K H a b/\gO K c (jk F c M H) ds b:=by cases LS e;obtain⟨a,b,rfl,q,z⟩:=h;exact⟨a,b,rfl,mw ib q,z⟩
end
abbrev GP:=List D->(D->Prop)->Prop
def cl (g:GP):GN:=λds M Q=>lN ds=ai/\g ds λd=>Q d M
abbrev iB(g:GP):Prop:=∀ds (P Q:D->Prop),(∀d,P d->Q d)->g ds P->g ds Q
def GD(m:iB g):oz (cl g):=λxs M P Q w q=>⟨q.1,m _ _ _ (λd q=>w _ _ q) q.2⟩
noncomputable def p4(n:Nat)(ds:List D):nC:=ds.map aa++bQ (n- ds.length) am
def Cs (n m:Nat)(tb:DS):GN:=λds M Q=>ds.length=m/\tb ⟨λ_ a=>Q .non a,Q,λ_ _=>False,λ_ _=>False⟩ (p4 n ds) M
def jl (n m:Nat)(tb:DS):GP:=λds Q=>ds.length=m/\tb ⟨λ_ _=>Q .non,λd a=>nl (fz a d)=ai/\Q (fz a d),λ_ _=>False,λ_ _=>False⟩ (p4 n ds) []
section
variable {K:af}
def Bq(o:OK K F f H M)(r:gO K f (jk F f M H) ds a):R K F f H (L2.start N a) (p4 N.length ds) M:=by
 have b:=gO.length _ _ r;refine⟨o,by simp[L2.start,p4,b],λi d h=>?_⟩;unfold p4 at h;by_cases hi:i<ds.length
 .rw[bB (by simpa using hi)] at h;rw[bn] at h;cases e:ds[i]? with
  |none=>rw[e] at h;cases h
  |some x=>
   rw[e] at h;cases h;obtain⟨v,e1,c⟩:=gO.get ds a i d r e;refine⟨v,?_,c⟩;unfold L2.start;rw[bB (by simp;lia),bn,e1];rfl
 .rw[cz (by simp;lia)] at h;have:=aS h;rw[List.mem_replicate] at this;cases this.2
def Th{c:List aB}(b:Fz X body tb)(f:X.K=K)(h:jU K (Cs n.length c.length tb) g H Q E):
  ∃t,QB X body t/\t {nx:=λ_ a=>Q .non a,rt:=Q} (L2.start n g) H:=by subst f;obtain⟨F,v,M,ds,o,r,i,q⟩:=h;refine⟨_,⟨b.p⟩,F,v,p4 n.length ds,M,Bq o r,?_⟩;refine b.mono _ _ _ _ ?_ q;exact⟨λj m q u ii a e r=>q _ ii a e r.ok qP,λ_ _ q=>q,λ_ _ q=>q.elim,λ_ _ q=>q.elim⟩
def p5{M2:Ms}(o:OK K F n H M)(e2:Ext (lv n M++F) [] H [] i c M2)(j:OK K (lv n M++F) i c M2):Ext F n H M n c M/\OK K F n c M:=by
 have f:=λb x h=>pE _ _ (e2.same b x (by exact h))
 have fr:=e2.fr;have al:∀a,uN (H a)≠am->uN (c a)≠am:=λa h=>by
  by_cases z:a∈lv n M++F
  .rw[fr a z];exact h
  .cases e:H a with
   |none=>exact absurd (by rw[e]) h
   |some x=>
    rw[e] at h;have v:uN (aa x)=aa x:=by cases x<;>first|rfl|exact absurd rfl h
    have:=ib _ _ (f a x (jF z e v));rw[this,v];exactλz=>by cases z
 refine⟨⟨bc _,f,λa ha=>fr a (bH _ ha)⟩,o.ml,o.nd,λa ha=>⟨(o.fr a ha).1,al a (o.fr a ha).2⟩,λa ha=>al a (o.al a ha),λk x h=>?_,j.tb⟩;obtain⟨a,g,m⟩:=o.own k x h;exact⟨a,g,m.mono (bc _) f (fr a (bV _ (nB.mpr ⟨k,x,g,h⟩)))⟩
def LU{j:List aB}(g:Fz X body tb)(m:X.K=K)(h:jU K (cl (jl n.length j.length tb)) c H Q E):
  ∃t,QB X body t/\t {nx:=λ_ b=>Q .non b,rt:=Q} (L2.start n c) H:=by
 subst m;obtain⟨F,w,M,ds,o,r,hn,A,q⟩:=h;have u:OK X.K _ [] H []:=⟨rfl,gB,λa ha=>⟨by simp,by
  rcases bj.mp ha with ha|ha
  .exact o.SS a ha
  .exact(o.fr a ha).2⟩,λa ha=>(by simp at ha),λk x h=>(by simp at h),o.tb⟩
 have y:gO X.K [] _ ds c:=gO.nl ds c hn r;refine⟨_,⟨g.p⟩,lv w M++F,[],p4 n.length ds,[],Bq u y,?_⟩;refine g.mono _ _ _ _ ?_ q;refine⟨λB z q C ii b e r=>?_,λd z q v ii b e i r=>?_,λ_ _ q=>q.elim,λ_ _ q=>q.elim⟩
 .obtain⟨e1,f⟩:=p5 o e r.ok;exact q _ w b e1 f qP
 .obtain⟨e1,f⟩:=p5 o e i;exact q.2 v w b e1 f (Rep.nl _ _ q.1 (Tg i d v r))
end
noncomputable def zy(fr:List (Option Nat))(a:nC):nC:=fr.map λo=>match o with
 |none=>am
 |some j=>(a[j]?).getD am
noncomputable def Bs(fr:List (Option Nat))(a:nC):nC:=dj (λo d=>match o with|none=>am|some _=>d) fr a
def FA (g:DG)(tt:DT)(e:DE)(x:D)(f:nC)(M:Ms)(c:Option D->nC->Ms->Prop):Prop:=
 g x f M λa M1=>tt a M1 λb M2=>if b=ai then e a M2 λd h=>c (aa d) a h else c am a M2
def lQ (fr:List (Option Nat))(g:DG)(tt:DT)(a:DE)(st:Ms->Prop)(Q:List D->Ms->Prop):List D->List D->nC->Ms->Prop
 |[],acc,_,M=>Q acc M
 |x::xs,acc,c,M=>FA g tt a x c M λo b M1=>st M1/\match o with
  |some d=>acc.length<az/\lQ fr g tt a st Q xs (acc++[d]) (Bs fr b) M1
  |none=>lQ fr g tt a st Q xs acc (Bs fr b) M1
def iX (fr:List (Option Nat))(b:DI)(g:DG)(tt:DT)(c:DE):DF:=λa M Q=>b a M λitems st M1=>st M1/\lQ fr g tt c st (λds e=>Q (.lst ds) e) items [] (zy fr a) M1
structure Z9(X:Cx)(ifs:List bv)(t:DT):Prop where
 mono:∀δ M (P Q:Bool->Ms->Prop),(∀d M,P d M->Q d M)->t δ M P->t δ M Q
 p:PIf X ifs (lT X.K t)
def nv:DT:=λ_ M Q=>Q ai M
def N2:Z9 X [] nv:=⟨λa M P Q w q=>w _ _ q,λcf s b H Q I zq=>by obtain⟨F,c,a,M,r,q⟩:=zq;exact W2 cf s b H Q I (q c H Ext.refl r.ok)⟩
def Xj(h:JT X c t):Z9 X [c] t:=⟨h.mono,W3 h.p⟩
section
variable {K:af} {δ:nC}
theorem R.slots(r:R K F α H σ δ M)(fr:List _):R K F α H (L2.slots fr σ) (zy fr δ) M:=by
 refine⟨r.ok,by simp[L2.slots,zy],λi d h=>?_⟩;unfold zy at h;unfold L2.slots;rw[bn] at h |-;cases e:fr[i]? with
 |none=>rw[e] at h;cases h
 |some o=>
  rw[e] at h;cases o with
  |none=>cases h
  |some j=>
   have h:=by simpa using h
   cases e2:δ[j]? with
   |none=>rw[e2] at h;cases h
   |some q=>
    rw[e2] at h;subst h;obtain⟨v,e3,a⟩:=r.sl j d e2;exact⟨v,by show aa ((σ[j]?).getD am)=_;rw[e3];rfl,a⟩
theorem R.Bs(r:R K F α H σ δ M)(a:fr.length=δ.length):R K F α H σ (L3.Bs fr δ) M:=by
 refine⟨r.ok,by simp[L3.Bs,a,r.len],λi d h=>?_⟩;unfold L3.Bs at h;rw[ajC] at h;cases e:fr[i]? with
 |none=>rw[e] at h;simp at h
 |some o=>
  cases e2:δ[i]? with
  |none=>rw[e,e2] at h;simp at h
  |some q=>
   rw[e,e2] at h;cases o with
   |none=>simp at h
   |some j=>
    have h:=by simpa using h
    subst h;exact r.sl i d e2
def Ext.skip(o:OK K F α H M)(g:H p=am)(e:Ext F α H M ii H' M')(e':Ext (p::F) ii H' M' SR H'' Ez):Ext F α H M SR H'' Ez:=by
 refine⟨e.pre.trans e'.pre,λb x h=>?_,λa ha=>(e'.fr a (ax _ ha)).trans (e.fr a ha)⟩;have hb:b≠p:=λz=>by have:=(iz h).2;rw[z,g] at this;cases this
 have c:=iz (e.same b x h);have i:jk (p::F) ii M' H' b=aa x:=by
  refine kW h (λw=>c.1 ?_) c.2
  .simp only [bj,aN] at w |-;rcases w with w|w|w
   .exact .inl w
   .exact absurd w hb
   .exact .inr w
 have f:=iz (e'.same b x i);refine kW h (λw=>f.1 ?_) f.2
 .simp only [bj,aN] at w |-;rcases w with w|w
  .exact .inl w
  .exact .inr (.inr w)
def Ext.PU(f:H p=am)(g:p∉F)(e:Ext F α H M ii H' M'):Ext F α H M ii (upd H' p x) M':=by
 refine⟨e.pre,λb y h=>?_,λa ha=>by rw[gR λz=>g (by rw[<-z];exact ha)];exact e.fr a ha⟩;have hb:b≠p:=λz=>by have:=(iz h).2;rw[z,f] at this;cases this
 have c:=iz (e.same b y h);exact kW h c.1 (by rw[gR hb];exact c.2)
def Ct:jk (p::F) a M (upd H p x)=jk (p::F) a M H:=by
 funext b;show kE _ _ b=kE _ _ b;by_cases hb:b∈lv a M++p::F
 .rw[pD hb,pD hb]
 .rw[j9 hb,j9 hb,gR λz=>hb (by rw[z];simp)]
def OK.PU(o:OK K (p::F) α H M)(f:uN (aa x)=aa x:=by rfl):OK K (p::F) α (upd H p x) M:=by
 have b:=(o.fr p aE).1;refine⟨o.ml,o.nd,λa ha=>⟨(o.fr a ha).1,?_⟩,λa ha=>?_,λk y h=>?_,o.tb.upd (.inl (o.fr p aE).2)⟩
 .by_cases e:a=p
  .rw[e,gZ,f];exactλz=>by cases z
  .rw[gR e];exact(o.fr a ha).2
 .rw[gR λz=>b (by rw[<-z];exact ha)];exact o.al a ha
 .obtain⟨a,c,g⟩:=o.own k y h;rw[Ct];exact⟨a,c,g.mono (bc _) (jC.refl _) (gR λz=>b (by rw[<-z];exact aS c))⟩
theorem R.PU(r:R K (p::F) α H σ δ M)(a:uN (aa x)=aa x:=by rfl):R K (p::F) α (upd H p x) σ δ M:=⟨r.ok.PU a,r.len,λi d h=>by obtain⟨v,b,c⟩:=r.sl i d h;rw[Ct];exact⟨v,b,c⟩⟩
def R.ab4(r:R K F α H σ δ M)(f:H p=am)(m:uN (aa x)=aa x:=by rfl):R K (p::F) α (upd H p x) σ δ M:=by
 have o:=r.ok;have c:=λz=>o.al p z (by rw[f]);have g:jC (jk F α M H) (jk (p::F) α M (upd H p x)):=λb y h=>by
  obtain⟨z,q⟩:=iz h;have hb:b≠p:=λz=>by rw[z,f] at q;cases q
  refine kW h (λw=>z ?_) (by rw[gR hb];exact q)
  .simp only [bj,aN] at w |-;rcases w with w|w|w
   .exact .inl w
   .exact absurd w hb
   .exact .inr w
 refine⟨⟨o.ml,o.nd,λa ha=>?_,λa ha=>?_,λk y h=>?_,o.tb.upd (.inr f)⟩,r.len,λi d h=>?_⟩
 .rcases aN.mp ha with e|e
  .subst e;exact⟨c,by rw[gZ,m];exactλz=>by cases z⟩
  .refine⟨(o.fr a e).1,?_⟩;rw[gR λz=>(o.fr a e).2 (by rw[z,f])];exact(o.fr a e).2
 .rw[gR λz=>c (by rw[<-z];exact ha)];exact o.al a ha
 .obtain⟨a,j,n⟩:=o.own k y h;exact⟨a,j,n.mono (bc _) g (gR λz=>c (by rw[<-z];exact aS j))⟩
 .obtain⟨v,u,A⟩:=r.sl i d h;exact⟨v,u,Rep.mono (bc _) g _ _ A⟩
def GG:er p H p=am:=by unfold er;rw[if_pos rfl]
def AB(h:b≠p):er p H b=H b:=by unfold er;rw[if_neg h]
def ab5{x:HO}(h:H p=aa x):upd (er p H) p x=H:=by
 funext b;by_cases e:b=p
 .rw[e,gZ,h]
 .rw[gR e,AB e]
def Ti(o:OK K (p::F) a H M):jk F a M (er p H)=jk (p::F) a M H:=by
 funext b;show kE _ _ b=kE _ _ b;by_cases e:b=p
 .subst e;rw[pD (A:=lv a M++b::F) (by simp)];by_cases z:b∈lv a M++F
  .rw[pD z]
  .rw[j9 z,GG]
 .by_cases z:b∈lv a M++F
  .rw[pD z,pD (by simp only [bj,aN] at z |-;rcases z with z|z;exact .inl z;exact .inr (.inr z))]
  .rw[j9 z,j9 (by simp only [bj,aN] at z |-;rintro(w|w|w);exact z (.inl w);exact e w;exact z (.inr w)),AB e]
theorem OK.er(o:OK K (p::F) α H M)(g:p∉F):OK K F α (L3.er p H) M:=by
 have c:=(o.fr p aE).1;refine⟨o.ml,o.nd,λa ha=>⟨(o.fr a (ax _ ha)).1,?_⟩,λa ha=>?_,λk x h=>?_,o.tb.imp λb y e v=>?_⟩
 .rw[AB λz=>g (by rw[<-z];exact ha)];exact(o.fr a (ax _ ha)).2
 .rw[AB λz=>c (by rw[<-z];exact ha)];exact o.al a ha
 .obtain⟨a,f,i⟩:=o.own k x h;rw[Ti o];exact⟨a,f,i.mono (bc _) (jC.refl _) (AB λz=>c (by rw[<-z];exact aS f))⟩
 .rw[AB λz=>(o.fr p aE).2 (by rw[<-z,e];exact v)];exact e
theorem Ext.er(f:H p=am)(g:p∉F)(e:Ext F α H M ii H' M'):Ext F α H M ii (L3.er p H') M':=by
 refine⟨e.pre,λb y h=>?_,λa ha=>by rw[AB λz=>g (by rw[<-z];exact ha)];exact e.fr a ha⟩;have hb:b≠p:=λz=>by have:=(iz h).2;rw[z,f] at this;cases this
 have c:=iz (e.same b y h);exact kW h c.1 (by rw[AB hb];exact c.2)
end
section
variable {X:Cx} {fr:List (Option Nat)} {iter:bv}
theorem xg(c:∀d a M (P Q:nC->Ms->Prop),(∀a M,P a M->Q a M)->g d a M P->g d a M Q)(ht:∀a M (P Q:Bool->Ms->Prop),(∀d M,P d M->Q d M)->tt a M P->tt a M Q)(e:∀a M (P Q:DK),(∀d M,P d M->Q d M)->te a M P->te a M Q)
{st:Ms->Prop}(w:∀l M,P l M->Q l M):∀xs acc a M,lQ fr g tt te st P xs acc a M->lQ fr g tt te st Q xs acc a M
 |[],acc,a,M,q=>w _ _ q
 |x::xs,acc,a,M,q=>by
  refine c _ _ _ _ _ (λf M1 q=>ht _ _ _ _ (λb M2 q=>?_) q) q;cases b with
  |true=>
   exact e _ _ _ _ (λd h q=>⟨q.1,q.2.1,xg c ht e w xs _ _ _ q.2.2⟩) q
  |false=>
   exact⟨q.1,xg c ht e w xs _ _ _ q.2⟩
def zA(hI:JI X target iter ti)(hg:∀d a M (P Q:nC->Ms->Prop),(∀a M,P a M->Q a M)->g d a M P->g d a M Q)(ht:∀a M (P Q:Bool->Ms->Prop),(∀d M,P d M->Q d M)->tt a M P->tt a M Q)(he:∀a M (P Q:DK),(∀d M,P d M->Q d M)->te a M P->te a M Q)
(LV:∀d a M (P:nC->Ms->Prop),g d a M P->g d a M λoA M1=>oA.length=a.length/\P oA M1)(h:lF X.K (iX fr ti g tt te) N H Q):NU fr (lI X ti) (lG X.K g) (lT X.K tt) (lE X.K te) N H (λv=>TH X (Q v)):=by
 obtain⟨F,α,a,M,r,h⟩:=h;refine⟨F,α,a,M,r,hI.mono a _ _ _ (λitems st M1 q J Y H0 H1 T e1 o1 z it p o=>?_) h⟩;obtain⟨s1,q⟩:=q;have u:p∉F:=λw=>(z.ok.fr p w).2 (by rw[o]);refine⟨λi m L jn j=>m=items.length- i/\i<=items.length/\∃ii O f acc,Ext F Y H1 M1 ii j f/\R X.K (p::F) ii j jn O f/\O.length=fr.length/\st f/\j p=aa (.lst L)/\gO X.K ii (jk (p::F) ii f j) acc L/\
   lQ fr g tt te st (λds f=>fK X.K F α H M Q (.lst ds) f) (items.drop i) acc O f,⟨_,rfl,bu _,Y,zy fr a,M1,[],Ext.refl.PU o u,((z.rs (r.grow e1 o1)).slots fr).ab4 o,by simp[zy],s1,gZ,gO.nil,q⟩,?_⟩
 rintro i m L jn j ⟨rfl,hi',ii,O,f,acc,e',G,N3,s',hy,ry,q'⟩
 have B:jC (jk F Y M1 H1) (jk (p::F) ii f j):=λb x h=>by
  have hb:b≠p:=λw=>by have:=(iz h).2;rw[w,o] at this;cases this
  have h1:=iz (e'.same b x h);refine kW h (λw=>h1.1 ?_) h1.2
  .simp only [bj,aN] at w |-;rcases w with w|w|w
   .exact .inl w
   .exact absurd w hb
   .exact .inr w
 by_cases yh:i<items.length
 .rw[dH yh] at q';refine .inr ⟨it.go i (p::F) ii j f e'.pre B G.ok s' yh,λC Iy I=>∃sZ Xg M2 U,Ext F Y H1 M1 sZ I M2/\R X.K (p::F) sZ I Iy Xg M2/\Xg.length=fr.length/\st M2/\I p=aa (.lst C)/\gO X.K sZ _ U C/\
   lQ fr g tt te st (λds f=>fK X.K F α H M Q (.lst ds) f) _ U Xg M2,λC Iy I h=>⟨_,by lia,rfl,yh,h⟩,λx I y=>?_⟩
  obtain⟨o2,e2,rx⟩:=it.ZO i (p::F) ii j f x I items[i] e'.pre B G.ok s' (by simp[yh]) y;refine⟨p::F,ii,O,f,items[i],G.grow e2 o2,rx,hg _ _ _ _ _ (λTf M3 q3 Sb yk H3 e3 r3=>?_) (LV _ _ _ _ q')⟩;obtain⟨l3,q3⟩:=q3;refine⟨p::F,yk,Tf,M3,r3,ht _ _ _ _ (λb M4 q4 wE H4 e4 o4=>?_) q3⟩;have A:=(e2.trans e3).trans e4;have pm:p∈p::F:=aE;cases b with
  |false=>
   show(if ao=ai then _ else _);refine⟨wE,Bs fr Tf,M4,acc,Ext.skip z.ok o e' A,(r3.grow e4 o4).Bs (by rw[l3,N3]),by simp[Bs,l3,N3],q4.1,by rw[A.fr p pm];exact hy,A.Ck ry,q4.2⟩
  |true=>
   show(if ai=ai then _ else _);refine⟨p::F,wE,Tf,M4,r3.grow e4 o4,he _ _ _ _ (λd M5 q5 v α5 H5 e5 o5 r5=>?_) q4⟩;have E:=A.trans e5;have ry5:=E.Ck ry;refine⟨by rw[E.fr p pm];exact hy,by rw[<-gO.length _ _ ry];exact q5.2.1,α5,Bs fr Tf,M5,acc++[d],(Ext.skip z.ok o e' E).PU o u,(((r3.grow e4 o4).grow e5 o5).Bs (by rw[l3,N3])).PU,by simp[Bs,l3,N3],q5.1,gZ,?_,q5.2.2⟩;rw[Ct];exact gO.append _ _ _ _ ry5 (gO.one r5)
 .have e:i=items.length:=by lia
  subst e;rw[List.drop_length] at q';refine .inl ⟨it.stop (p::F) ii j f e'.pre B G.ok s',?_⟩;have eE:=e'.er o u;have oE:=G.ok.er u;obtain⟨t1,t2,t3⟩:=z.e ii (L3.er p j) f eE oE;have hn:T (L3.er p j) p=am:=z.n p _ o GG;have:=q' p (.lst L) ii _ (e1.trans t1) t2 hn ⟨L,rfl,?_⟩
  .rw[z.c p j _ o hy] at this;exact z.h ii j f _ e' this
  .refine gO.imp t3 _ _ ?_;rw[Ti G.ok];exact ry
abbrev EI(g:DG):Prop:=∀d a M (P:nC->Ms->Prop),g d a M P->g d a M λb M1=>b.length=a.length/\P b M1
abbrev IQ(g:Z8):Prop:=∀d a M (P:nC->Ms->Prop),g d a M P->g d a M λb M1=>b.length=a.length/\P b M1
def N4:EI (gU i):=λd a M P q=>⟨by simp,q⟩
def ab6:IQ iT:=λd a M P q=>⟨q.1,rfl,q.2⟩
def ab7(a:IQ gs):EI (iU n gs):=λd b M P q=>by cases d<;>first|exact q.elim|exact⟨q.1,a _ _ _ _ q.2⟩
def Bt(c:l8 X N fr scope)(hi:JI X target iter ti)(f:EI g)
(a:∀C ex cf hU hW,JG (uO X scope N C ex cf hU hW λ_ _=>False) target g)(ht:∀C ex cf hU hW,Z9 (uO X scope N C ex cf hU hW λ_ _=>False) ifs tt)(b:∀C ex cf hU hW,JE (uO X scope N C ex cf hU hW λ_ _=>False) elt te)
(i:X.calm=ai:=by rfl)(j:∀x,cx iter X.env x=pure x:=by intro _;rfl):JF X (.ListComp elt [⟨target,iter,ifs,0⟩] scope pos) (iX fr ti g tt te):=by
 have mg:=(a 0 [] [] X.hU X.hW).mono;have mt:=(ht 0 [] [] X.hU X.hW).mono;have e:=(b 0 [] [] X.hU X.hW).mono;exact⟨λm M P Q w q=>hi.mono _ _ _ _ (λl s M1 q=>⟨q.1,xg mg mt e (λl M q=>w _ _ q) _ _ _ _ q.2⟩) q,
  S5 (W5 c i hi.p (λ_ _ _ _ _=>(a _ _ _ _ _).p) (λ_ _ _ _ _=>(ht _ _ _ _ _).p) (λ_ _ _ _ _=>(b _ _ _ _ _).p) j) λn H Q h=>zA hi mg mt e f h⟩
def Tj(i:Nat)(n:X.N.Nodup)(c:l8 X N fr scope)(hi:JI X target iter ti)(e:EI g)
(a:∀C ex cf hU hW,JG (uO X scope N C ex cf hU hW λ_ _=>False) target g)(ht:∀C ex cf hU hW,Z9 (uO X scope N C ex cf hU hW λ_ _=>False) ifs tt)(b:∀C ex cf hU hW,JE (uO X scope N C ex cf hU hW λ_ _=>False) elt te)
(u:X.N[i]?=aa x:=by rfl)(y:Loc X.env.scope x:=by first|exact dP rfl|exact c9 rfl)
(z:c5 (.ListComp elt [⟨target,iter,ifs,0⟩] scope pos) (aa (.Name x p)) A.line X.env=pure ai:=by rfl)(B:X.fn x=ai\/X.env.scope.names.lookup x=aa .local:=by first|exact .inl rfl|exact .inr rfl|assumption)
(f:X.calm=ai:=by rfl)(h:∀x,cx iter X.env x=pure x:=by intro _;rfl):
  JS X (.Assign [.Name x p] (.ListComp elt [⟨target,iter,ifs,0⟩] scope pos) A) (iF i (iS (iX fr ti g tt te))):=by
 have mg:=(a 0 [] [] X.hU X.hW).mono;have mt:=(ht 0 [] [] X.hU X.hW).mono;have G:=(b 0 [] [] X.hU X.hW).mono;have j:JF X (.ListComp elt _ scope pos) _:=Bt c hi e a ht b f h;have cq:=NV (g:=lG X.K g) (tt:=lT X.K tt) (te:=lE X.K te) c f hi.p (λ_ _ _ _ _=>(a _ _ _ _ _).p) (λ_ _ _ _ _=>(ht _ _ _ _ _).p) (λ_ _ _ _ _=>(b _ _ _ _ _).p) n u y z B h;refine⟨λP Q m M w q=>?_,yn cq λE O H q=>zA hi mg mt G e ?_⟩
 .unfold iF iS at q |-;refine j.mono _ _ _ _ ?_ q;exactλo M1 q=>w.nx _ _ q
 .obtain⟨F,S,m,M,r,q⟩:=q;refine⟨F,S,m,M,r,?_⟩;unfold iF iS at q;refine j.mono _ _ _ _ ?_ q;exactλo M1 q=>fK.qN λv ii I e1 J L=>q _ ii I e1 ((r.grow e1 J).set L)
def Tk(i:Nat){x:aB}{p a:dA}(u:X.N.Nodup)(c:l8 X N fr scope)(hi:JI X target iter ti)(f:EI g)
(b:∀C ex cf hU hW,JG (uO X scope N C ex cf hU hW λ_ _=>False) target g)(ht:∀C ex cf hU hW,Z9 (uO X scope N C ex cf hU hW λ_ _=>False) ifs tt)(e:∀C ex cf hU hW,JE (uO X scope N C ex cf hU hW λ_ _=>False) elt te)
(y:X.N[i]?=aa x:=by rfl)(z:Loc X.env.scope x:=by first|exact dP rfl|exact c9 rfl)
(A:c5 (.ListComp elt [⟨target,iter,ifs,0⟩] scope pos) (aa (.Name x p)) a.line X.env=pure ai:=by rfl)(B:X.fn x=ai\/X.env.scope.names.lookup x=aa .local:=by first|exact .inl rfl|exact .inr rfl|assumption)
(h:X.calm=ai:=by rfl)(j:∀x,cx iter X.env x=pure x:=by intro _;rfl):
  JS X (.Assign [.Name x p] (.ListComp elt [⟨target,iter,ifs,0⟩] scope pos) a) (iF i (lD (iX fr ti g tt te))):=by
 have mg:=(b 0 [] [] X.hU X.hW).mono;have mt:=(ht 0 [] [] X.hU X.hW).mono;have G:=(e 0 [] [] X.hU X.hW).mono;have m:JF X (.ListComp elt [⟨target,iter,ifs,0⟩] scope pos) (iX fr ti g tt te):=Bt c hi f b ht e h j;have cq:=NV (pos:=pos) (py:=p) (ae7:=a) (wi:=lI X ti) (g:=lG X.K g) (tt:=lT X.K tt) (te:=lE X.K te) c h hi.p (λ_ _ _ _ _=>(b _ _ _ _ _).p) (λ_ _ _ _ _=>(ht _ _ _ _ _).p) (λ_ _ _ _ _=>(e _ _ _ _ _).p) u y z A B j;refine⟨λP Q n M w q=>?_,yn cq λE I H q=>zA (Q:=λv=>E.nx _) hi mg mt G f ?_⟩
 .unfold iF lD at q |-;refine m.mono _ _ _ _ ?_ q;exactλo M1 q=>w.nx _ _ q
 .obtain⟨F,S,n,M,r,q⟩:=q;refine⟨F,S,n,M,r,?_⟩;unfold iF lD at q;refine m.mono _ _ _ _ ?_ q;exactλo M1 q=>fK.own λv ii J e1 L O=>q _ ii J e1 ((r.grow e1 L).set O)
end
def gI (C:Int->Int->Prop)(f:Int->Int->D):G2:=λx y M Q=>match x,y with|.int i,.int j=>C i j/\Q (f i j) M|_,_=>False
def Bu:Ay (gI C f):=by
 intro x y M P Q w q;unfold gI at*;split at q
 .exact⟨q.1,w _ _ q.2⟩
 .exact q.elim
def RH (f:Int->Int->D):G2:=λx y M Q=>match x,y with|.int i,.int j=>Q (f i j) M|_,_=>False
def IS:Ay (RH f):=by
 intro x y M P Q w q;unfold RH at*;split at q
 .exact w _ _ q
 .exact q.elim
section
variable {X:Cx}
def aab{K:af}(h:rD K (RH f) x y H Q):∃F g M i j,OK K F g H M/\x=.int i/\y=.int j/\vK K F g H M Q (f i j) M:=by
 obtain⟨F,g,M,c,e,o,a,b,h⟩:=h;unfold RH at h;split at h<;>first|exact h.elim|skip
 exact⟨F,g,M,_,_,o,a,b,h⟩
def ab8{K:af}(h:rD K (gI C f) x y H Q):∃F g M i j,OK K F g H M/\x=.int i/\y=.int j/\C i j/\vK K F g H M Q (f i j) M:=by
 obtain⟨F,g,M,c,e,o,a,b,h⟩:=h;unfold gI at h;split at h<;>first|exact h.elim|skip
 exact⟨F,g,M,_,_,o,a,b,h⟩
def ab9:JO X .Sub (RH λi j=>.int (i- j)):=⟨IS,λcf s f H x y v u Q I a b h=>by obtain⟨F,g,M,i,j,o,c,e,h⟩:=aab h;exact abn cf s f H x y v u Q I a b ⟨_,_,c,e,vK.now o h i5⟩⟩
def Xk:JO X .FloorDiv (gI xZ λi j=>.int (i/j)):=⟨Bu,λcf s g H x y v u Q I a b h=>by obtain⟨F,m,M,i,j,o,c,e,h,f⟩:=ab8 h;exact WB cf s g H x y v u Q I a b ⟨_,_,c,e,h,vK.now o f i5⟩⟩
def aca:JO X .Mod (gI (λ_ j=>0<j) λi j=>.int (i%j)):=⟨Bu,λcf s g H x y v u Q I a b h=>by obtain⟨F,m,M,i,j,o,c,e,h,f⟩:=ab8 h;exact abp cf s g H x y v u Q I a b ⟨_,_,c,e,h,vK.now o f i5⟩⟩
def acb:JO X .Pow (gI abl λi j=>.int (i^j.toNat)):=⟨Bu,λcf s g H x y v u Q I a b h=>by obtain⟨F,m,M,i,j,o,c,e,h,f⟩:=ab8 h;exact abq cf s g H x y v u Q I a b ⟨_,_,c,e,h,vK.now o f i5⟩⟩
def afn:JC X .Gt (RH λi j=>.bl (decide (j<i))):=⟨IS,λcf s f H x y v u Q I a b h=>by obtain⟨F,g,M,i,j,o,c,e,h⟩:=aab h;exact aeO cf s f H x y v u Q I a b ⟨_,_,c,e,vK.now o h iZ⟩⟩
def gLt:G2:=λx y M Q=>match x,y with|.int i,.int j=>Q (.bl (decide (i<j))) M|.str i,.str j=>Q (.bl (decide (i.cps.toList<j.cps.toList))) M|_,_=>False
def Bv:G2:=λx y M Q=>match x,y with|.int i,.int j=>Q (.bl (decide (i<=j))) M|.str i,.str j=>Q (.bl (!decide (j.cps.toList<i.cps.toList))) M|_,_=>False
def afo:JC X .Lt gLt:=by
 refine⟨λx y M P Q w q=>?_,λcf s i H x y v u Q I a b h=>?_⟩
 .unfold gLt at*;split at q<;>first|exact q.elim|exact w _ _ q
 .obtain⟨F,j,M,f,g,o,c,e,h⟩:=h;unfold gLt at h;split at h<;>first|exact h.elim|skip
  .exact aeM cf s i H x y v u Q I a b ⟨_,_,c,e,vK.now o h iZ⟩
  .exact Px cf s i H x y v u Q I a b ⟨_,_,c,e,vK.now o h iZ⟩
def afp:JC X .LtE Bv:=by
 refine⟨λx y M P Q w q=>?_,λcf s i H x y v u Q I a b h=>?_⟩
 .unfold Bv at*;split at q<;>first|exact q.elim|exact w _ _ q
 .obtain⟨F,j,M,f,g,o,c,e,h⟩:=h;unfold Bv at h;split at h<;>first|exact h.elim|skip
  .exact aeN cf s i H x y v u Q I a b ⟨_,_,c,e,vK.now o h iZ⟩
  .exact PR cf s i H x y v u Q I a b ⟨_,_,c,e,vK.now o h iZ⟩
noncomputable def Cu:D->Bool
 |.non=>ai
 |_=>ao
def N5{K:af}(h:Rep K a H d v):decide (v=.non)=Cu d:=by
 cases d<;>unfold Rep at h;case tup=>obtain⟨_,_,rfl,_⟩:=h;rfl
 case lst=>obtain⟨_,_,rfl,_⟩:=h;rfl
 case jP=>obtain⟨_,_,rfl,_⟩:=h;rfl
 case ins=>obtain⟨_,_,_,rfl,_⟩:=h;rfl
 case exc=>obtain⟨_,_,rfl,_⟩:=h;rfl
 case qO=>obtain⟨_,rfl,_⟩:=h;rfl
 case loc=>obtain⟨_,_,rfl⟩:=h;rfl
 all_goals subst h;rfl
def gIs:G2:=λx y M Q=>match y with|.non=>Q (.bl (Cu x)) M|_=>False
def Tl:G2:=λx y M Q=>match y with|.non=>Q (.bl (!Cu x)) M|_=>False
def afq:JC X .Is gIs:=by
 refine⟨λx y M P Q w q=>?_,λcf s i H x y v u Q I a b h=>?_⟩
 .cases y<;>first|exact q.elim|exact w _ _ q
 .obtain⟨F,j,M,g,c,o,e,f,h⟩:=h;cases c<;>first|exact h.elim|skip
  exact abt cf s i H x y v u Q I a b ⟨f,by rw[N5 e];exact vK.now o h iZ⟩
def Tn:JC X .IsNot Tl:=by
 refine⟨λx y M P Q w q=>?_,λcf s i H x y v u Q I a b h=>?_⟩
 .cases y<;>first|exact q.elim|exact w _ _ q
 .obtain⟨F,j,M,g,c,o,e,f,h⟩:=h;cases c<;>first|exact h.elim|skip
  exact WD cf s i H x y v u Q I a b ⟨f,by rw[N5 e];exact vK.now o h iZ⟩
def iL:G2:=λx y M Q=>match vw M x,vw M y with
 |.int i,.int j=>Q (.int (i+j)) M
 |.str i,.str j=>i.length+j.length<=az/\Q (.str (i++j)) M
 |.lst xs,.lst a=>xs.length+a.length<=az/\Q (.lst (xs++a)) M
 |.tup xs,.tup a=>xs≠[]/\xs.length+a.length<=az/\Q (.tup (xs++a)) M
 |_,_=>False
def acd:JO X .Add iL:=by
 refine⟨λx y M P Q w q=>?_,λcf s J H x y v u Q I j m h=>?_⟩
 .unfold iL at q |-;generalize vw M x=a at q |-;generalize vw M y=b at q |-;split at q<;>first|exact q.elim|exact w _ _ q|exact⟨q.1,w _ _ q.2⟩|exact⟨q.1,q.2.1,w _ _ q.2.2⟩
 .obtain⟨F,K,M,E,G,o,c,n,h⟩:=h;unfold iL at h;generalize e1:vw M E=a at h;generalize e2:vw M G=b at h;split at h<;>first|exact h.elim|skip
  .cases xa e1;cases xa e2;exact abm cf s J H x y v u Q I j m ⟨_,_,c,n,vK.now o h i5⟩
  .cases mM e1;cases mM e2;exact Lq cf s J H x y v u Q I j m ⟨_,_,c,n,h.1,vK.now o h.2 pC⟩
  .obtain⟨a,A,rfl,B,f⟩:=jg o c e1;obtain⟨b,us,rfl,C,g⟩:=jg o n e2;have r:=gO.length _ _ f;have z:=gO.length _ _ g;exact abK cf s J H _ _ v u Q I j m ⟨a,b,A,us,rfl,rfl,B,C,by rw[<-r,<-z];exact h.1,λp i=>vK.new o i h.2 (mx o i (gO.append _ _ _ _ f g))⟩
  .obtain⟨a,A,rfl,B,f⟩:=mN o c e1;obtain⟨b,us,rfl,C,g⟩:=mN o n e2;have r:=gO.length _ _ f;have z:=gO.length _ _ g;refine WU cf s J H _ _ v u Q I j m ⟨a,b,A,us,rfl,rfl,B,C,?_,by rw[<-r,<-z];exact h.2.1,λe=>?_,λ_ p i=>vK.new o i h.2.2 (kH o i (gO.append _ _ _ _ f g))⟩
   .intro e;subst e;exact h.1 (List.length_eq_zero_iff.mp r)
   .subst e;have:=List.length_eq_zero_iff.mp z;subst this;refine vK.now o h.2.2 ?_;rw[aR];rw[LS e1] at c;exact c
noncomputable def IT:D->Option Key
 |.int i=>aa (.inl i)
 |.str x=>aa (.inr x)
 |_=>am
noncomputable def oB(k:Key):List Key->List D->Option D
 |k'::a,d::ds=>if k'=k then aa d else oB k a ds
 |_,_=>am
def sH{K:af}(h:Rep K a H d v)(e:IT d=aa k):v=kV k:=by
 cases d<;>cases e
 .exact h
 .exact h
theorem yo{K:af}:∀(a:List Key) (ds:List D) (b:List V),gO K g H ds b->a.length=ds.length->
  (∀d,oB k a ds=aa d->∃v,rM (a.zip b) k=aa v/\Rep K g H d v)/\(oB k a ds=am->rM (a.zip b) k=am)
 |[],ds,b,h,l=>⟨λd e=>by simp[oB] at e,λ_=>rfl⟩
 |k'::a,[],b,h,l=>by simp at l
 |k'::a,d::ds,b,h,l=>by
  obtain⟨v,r,rfl,z,y⟩:=h;have c:=yo (k:=k) a ds r y (by simpa using l);rw[ck];by_cases e:k'=k
  .rw[x9 e];unfold oB;rw[if_pos e];exact⟨λf e'=>⟨v,rfl,by cases e';exact z⟩,λe'=>by cases e'⟩
  .rw[yb e];unfold oB;rw[if_neg e];exact c
def Xl(c:X.A.units+1<gw):IxR X (λx y H Q=>∃a v,x=.ref a/\yc H a y (aa v)/\Q v H):=by
 intro value slice cf s p H x y v u Q I e f h i;obtain⟨a,z,rfl,g,q⟩:=h;cases e;refine ae ?_;refine ae (ajT (IF I g) PySem.F.slot_dict_getitem.lookup ?_);have b:wpAny (model X.prog X.w) X.A (subscripted slice ao (.ref a) u) (λr j=>wpAny (model X.prog X.w) X.A (alQ value (.ref a) r >>= λ_=>pure r) (EP X cf p Q) X.xe j) X.xe s:=by rw[i];exact alJ (PD c I g f λo s3 m n=>ae (ala (av ⟨z,H,m,n,q⟩)))
 first
  |exact av (ae b)
  |exact ae _
  |exact ae b
def i7:G2:=λx y M Q=>match vw M x,y with
 |.lst xs,.int i=>∃d,wL xs i=aa d/\Q d M
 |.tup xs,.int i=>∃d,wL xs i=aa d/\Q d M
 |.qO xs,.int i=>∃d,wL xs i=aa d/\Q (.int d) M
 |.str z,.int i=>z.length<=az/\∃c,wL z.cps.toList i=aa c/\Q (.str ⟨#[c]⟩) M
 |.jP a ds,y=>∃k d,IT y=aa k/\oB k a ds=aa d/\Q d M
 |_,_=>False
def jx(J:X.A.units+1<gw):JX X i7:=by
 refine⟨λx y M P Q w q=>?_,λvalue slice cf s K H x y v u Q I n p h r=>?_⟩
 .unfold i7 at q |-;generalize vw M x=a at q |-;split at q<;>first
   |exact q.elim
   | (obtain⟨k,d,f,C,g⟩:=q;exact⟨k,d,f,C,w _ _ g⟩)
   | (obtain⟨d,f,g⟩:=q;exact⟨d,f,w _ _ g⟩)
   | (obtain⟨L,d,f,g⟩:=q;exact⟨L,d,f,w _ _ g⟩)
 .obtain⟨F,S,M,N,db,o,m,b,h⟩:=h;unfold i7 at h;generalize e1:vw M N=a at h;split at h<;>first|exact h.elim|skip
  .obtain⟨a,z,rfl,i,B⟩:=jg o m e1;unfold Rep at b;obtain⟨d,e,h⟩:=h;obtain⟨w,E,G⟩:=B.at e;exact NS value slice cf s K H _ y v u Q I n p ⟨a,z,_,w,rfl,b,nr.of i,E,vK.now o h G⟩ r
  .obtain⟨a,z,rfl,i,B⟩:=mN o m e1;unfold Rep at b;obtain⟨d,e,h⟩:=h;obtain⟨w,E,G⟩:=B.at e;exact Sz value slice cf s K H _ y v u Q I n p ⟨a,z,_,w,rfl,b,i,E,vK.now o h G⟩ r
  .cases u0 e1;unfold Rep at m b;obtain⟨a,rfl,i⟩:=m;obtain⟨d,e,h⟩:=h;refine NS value slice cf s K H _ y v u Q I n p ⟨a,_,_,.int d,rfl,b,kb ib i,?_,vK.now o h i5⟩ r;unfold wL at e |-;rw[ak];cases q:PK _ _ with
   |none=>rw[q] at e;cases e
   |some j=>
    rw[q] at e;show(gC V.int _)[j]?=_;have e':(_:List Int)[j]?=aa d:=e;rw[bn,e'];rfl
  .cases mM e1;obtain⟨O,c,e,h⟩:=h;exact abC value slice cf s K H x y v u Q I n p ⟨_,_,c,m,b,O,e,vK.now o h pC⟩ r
  .obtain⟨k,d,f,C,g⟩:=h;obtain⟨a,z,rfl,i,T,B⟩:=w9 o m e1;obtain⟨U,Y,rv⟩:=(yo _ _ z B T).1 d C;cases sH b f;exact Xl J value slice cf s K H _ _ v u Q I n p ⟨a,U,rfl,by rw[<-Y];exact yc.kr i,vK.now o g rv⟩ r
noncomputable def cutD{β:Type}(xs:List β)(lo hi:Option Int):List β:=(xs.drop (HT.oQ xs.length 0 lo)).take (HT.oQ xs.length xs.length hi- HT.oQ xs.length 0 lo)
def gO.cut{K:af}(h:gO K α H ds a)(lo hi:Option Int):gO K α H (cutD ds lo hi) (PH a lo hi):=by unfold cutD PH;rw[gO.length _ _ h];exact gO.take _ _ _ (gO.drop _ _ _ h)
end
end L3
end
namespace PySem
open Sem (wp)
open Builtin
section
variable {prog:aP} {A:bq} {s:aq}
def u4(b:s.heap.IsTupleIter it t i)
(ht:s.heap.IsTuple t items)(f:items[i]?=aa x)
(g:∀c,c.IsTupleIter it t (i+1)->bM it s.heap c->Q x {s with heap:=c}):
  wpAny (model prog w) A (dZ (.ref it)) Q E s:=by
 obtain⟨o,a,hc,hd⟩:=id b;obtain⟨h,e,_,nl,LW⟩:=ht;refine ae (di b.typeIs eT
  (cT eT b.typeIs F.entry_tuple_iterator_next ?_ (F.args_tuple_iterator_next_1 _)))
 show wpAny _ _ (field _ 0 >>= _) _ _ s;refine ae (cm a hd (x:=.ref t) rfl ?_);refine ae (cm a hd rfl ?_);refine ae (eA e LW ?_);simp only [fN,f];refine ae (f6 a hd (by simp) (av ⟨x,rfl,av (g _ ?_ (cA ..))⟩));exact⟨_,cJ _ a (eK (c6 hd _)),(cn.cls_mapFields ..).trans hc,by
  rw[c6 hd];simp[ajj]⟩
def wF(h:A.handled=am)
(b:s.heap.IsTupleIter it l i)(j:s.heap.IsTuple l items)(n:items[i]?=am)
(p:∀c e,ajJ it s.heap c->(∃o,c.get? e=aa o/\o.cls=.type "StopIteration")->E (.ref e) {s with heap:=c}):
  wpAny (model prog w) A (dZ (.ref it)) Q E s:=by
 obtain⟨o,f,hc,hd⟩:=id b;obtain⟨q,g,_,nl,LW⟩:=j;refine ae (di b.typeIs eT
  (cT eT b.typeIs F.entry_tuple_iterator_next ?_ (F.args_tuple_iterator_next_1 _)))
 show wpAny _ _ (field (.ref it) 0 >>= _) _ _ s;refine ae (cm f hd (x:=.ref l) rfl ?_);refine ae (cm f hd (x:=.int i 0) rfl ?_);refine ae (eA g LW ?_);simp only [fN,n];refine ae (ajk (ae (f6 f hd (by simp) ?_)));refine ae ?_;refine ae (m:=firstArgMember _ _) (wpAny_of_eq (a:=cE) (by first|rfl|(rfl)) ?_);refine ajt ?_ (by size_fits);refine ae (wpAny_handled ?_);first|rw[h]|rw[h]
 refine ae (av (wpAny_throw ?_));exact p _ _ (((cA ..).extBut.push _).push _) ⟨_,aJ _ rfl,rfl⟩
end
def Cv(f:A.handled=am)(it l:ar)(g:l≠it)(items:Array ah):
  aju prog w A it [it,l] items.size (λi v=>items[i]?=aa v) (λi h=>h.IsTupleIter it l i/\h.IsTuple l items) where
 live:=λ_ _ st=>let⟨o,a,_⟩:=st.1;⟨o,a⟩
 frame:=λ_ _ _ st e=>⟨let⟨o,a,r⟩:=st.1;⟨o,e it (by simp) o a,r⟩,let⟨o,a,r⟩:=st.2;⟨o,e l (by simp) o a,r⟩⟩
 item:=λi s Q E hi st j=>by refine u4 st.1 st.2 (x:=items[i]) (by simp[hi]) λm c b=>?_;exact j _ m s.toks (by simp[hi]) ⟨c,st.2.extBut b.extBut g⟩ b
 done:=λs Q E st n=>wF f st.1 st.2 (by simp) n
def pF(D:aju prog w A it a n P St)(h:∀i v,P i v->P' i v):aju prog w A it a n P' St where
 live:=D.live
 frame:=D.frame
 item:=λi s Q E hi st b=>D.item i s Q E hi st λx c tk p=>b x c tk (h _ _ p)
 done:=D.done
set_option tactic.hygienic true in
def A6(l:ar)(items:Array ah):
  Meets (bU.«enumerate.__new__» ⟨[.type hY,.ref l],[]⟩) (λ_ R s=>s.heap.IsTuple l items/\
   R (.ok (.ret (.ref (s.heap.push {cls:=.type qx,data:=.fields #[.ref l,.int 0 0]}).objs.size)))
    {s with heap:=(s.heap.push {cls:=.type qx,data:=.fields #[.ref l,.int 0 0]}).push {cls:=.type hY,data:=.fields #[.none,.bool ao,.ref s.heap.objs.size,ajj 0,.none,.none]}}):=
 .of_wp λprog w A R s h=>by
  obtain⟨f,g,d,tk,os⟩:=s;obtain⟨e,h⟩:=h;have j:=sub_enumerate;have a:aw.IsTuple (aq.heap ⟨f,g,d,tk,os⟩) l items:=e;obtain⟨⟨c,jP,i,sl⟩,b,hc,n,hd⟩:=e;replace hc:c=.type dy:=hc;replace hd:i=.seq items n:=hd;subst hc hd
  wp_walk using eQ b
  refine wpAny_stack_any λst=>av ?_;split
  .rename_i c _ _ _ _ _;cases(c==eN hY)
   .wp_walk using eQ b,fO a
    exact⟨_,rfl,h⟩
   .wp_walk using eQ b,fO a
    exact⟨_,rfl,h⟩
  .wp_walk using eQ b,fO a
   exact⟨_,rfl,h⟩
section
variable {prog:aP} {s:aq}
def Cw(f:s.heap.IsTuple l items)
(h:∀a,IsEnum a (s.heap.objs.size+1) s.heap.objs.size 0 .none->a.IsTupleIter s.heap.objs.size l 0->a.objs.size=s.heap.objs.size+2->
   (∀b o,s.heap.get? b=aa o->a.get? b=aa o)->Q (.ref (s.heap.objs.size+1)) {s with heap:=a}):
  wpAny (model prog w) A (call (.type hY) [.ref l]) Q E s:=by
 refine callType_new F.called_enumerate (by decide) (F.typeCall_enumerate_1 _) (F.newCall_enumerate_1 _) (λobj=>F.args_object_init_2 obj _) F.entry_enumerate_new
  (A6 l items) ⟨f,?_⟩
 have c:(s.heap.push {cls:=.type qx,data:=.fields #[.ref l,.int 0 0]}).objs.size=s.heap.objs.size+1:=bZ ..;rw[c];have e:=by
  have:=aJ (s.heap.push {cls:=.type qx,data:=.fields #[.ref l,.int 0 0]})
   (o:={cls:=.type hY,data:=.fields #[.none,.bool ao,.ref s.heap.objs.size,ajj 0,.none,.none]}) rfl
  rw[c] at this;exact this
 refine⟨⟨_,e,rfl⟩,h _ e ⟨_,aj _ (aJ _ rfl),rfl,rfl⟩ (by rw[bZ,c]) λb o x=>aj _ (aj _ x)⟩
end
open Sem (wp)
open Builtin
structure FC(z TI TO i1 i2:ar)(PV IU:List ar):Prop where
 TIz:TI≠z
 TOz:TO≠z
 TITO:TI≠TO
 TIi1:TI≠i1
 TIi2:TI≠i2
 i1m:i1∈PV
 i2m:i2∈IU
 zf1:z∉PV
 zf2:z∉IU
 of1:TO∉PV
 of2:TO∉IU
 afr:i1∉IU
 aih:i2∉PV
section
variable {prog:aP} {A:bq} {s:aq} {TI TO:ar}
def kX(D:aju prog w A it a n P St)(st:St i h)(f:bM c h g)(hc:c∉a):St i g:=
 D.frame _ _ _ st λb hb o e=>f.extBut b o (λq=>hc (by rw[<-q];exact hb)) e
def zB{i:Nat}{a b:ah}{Q:ah->aq->Prop}(Z:FC z TI TO i1 i2 PV IU)(B:aju prog w A i1 PV n1 P1 S1)(C:aju prog w A i2 IU n2 P2 S2)
(H:ajv s.heap z TI TO .none)(Xn:eB s.heap TI (.ref i1) (.ref i2))(PX:eB s.heap TO a b)(h1:S1 i s.heap)(h2:S2 i s.heap)(l1:i<n1)(l2:i<n2)
(hQ:∀x y h tk,P1 i x->P2 i y->ajv h z TI TO (ajj s.heap.objs.size)->eB h TO x y->S1 (i+1) h->S2 (i+1) h->eB h s.heap.objs.size x y->h.objs.size=s.heap.objs.size+1->
   (∀c o,c≠z->c≠TO->c≠i1->c≠i2->s.heap.get? c=aa o->h.get? c=aa o)->Q (.ref s.heap.objs.size) {s with heap:=h,toks:=tk}):
  wpAny (model prog w) A (bU.«zip.__next__» ⟨[.ref z],[]⟩) (λjG s'=>∃v,jG=.done (.ret v)/\Q v s') E s:=by
 have i1z:i1≠z:=λq=>Z.zf1 (by rw[<-q];exact Z.i1m);have i2z:i2≠z:=λq=>Z.zf2 (by rw[<-q];exact Z.i2m);have ace:TO≠i1:=λq=>Z.of1 (by rw[q];exact Z.i1m);have aii:TO≠i2:=λq=>Z.of2 (by rw[q];exact Z.i2m);show wpAny _ _ (field (.ref z) 2 >>= _) _ _ _;refine ae (cm H rfl (x:=.bool ao) rfl ?_);show wpAny _ _ (field (.ref z) 3 >>= _) _ _ _;refine ae (cm H rfl (x:=.ref TI) rfl ?_);refine ae (eA Xn rfl ?_);show wpAny _ _ (d7 (.ref z) >>= _) _ _ _;refine ae ?_;unfold d7;refine ae (cm H rfl (x:=.none) rfl (av ?_));simp only [if_true];refine ae (ajk ?_);refine ae (cm H rfl (x:=.ref TO) rfl ?_);refine ae (eL H (by simp) λow AD I=>?_);replace AD:ajv ow z TI TO .ellipsis:=AD;refine ae ?_;simp only [fV,List.zipIdx_nil,List.forIn_cons,List.forIn_nil];refine ae (ae (aj6 ?_));show wpAny _ _ (dZ (.ref i1) >>= _) _ _ _;refine ae (B.item i {s with heap:=ow} _ _ l1 (kX B h1 I Z.zf1) λx J Xo p1 aac j=>av ?_);replace j:bM i1 ow J:=j;have Cy:eB J TO a b:=j.extBut _ _ ace (I.extBut _ _ Z.TOz PX);refine ae (eA (s:={s with heap:=J,toks:=Xo}) Cy rfl ?_);refine ae (ajV (s:={s with heap:=J,toks:=Xo}) Cy λY GH m=>?_);replace GH:eB Y TO x b:=GH;replace m:bM TO J Y:=m;refine ae (akp (av ?_));refine ae (ae (aj6 ?_));show wpAny _ _ (dZ (.ref i2) >>= _) _ _ _;refine ae (C.item i {s with heap:=Y,toks:=Xo} _ _ l2 (kX C (kX C (kX C h2 I Z.zf2) j Z.afr) m Z.of2) λy L g p2 afs n=>av ?_);replace n:bM i2 Y L:=n;have To:eB L TO x b:=n.extBut _ _ aii GH;refine ae (eA (s:={s with heap:=L,toks:=g}) To rfl ?_);refine ae (ajV (s:={s with heap:=L,toks:=g}) To λf GI p=>?_);replace GI:eB f TO x y:=GI;replace p:bM TO L f:=p;refine ae (akp (av (av ?_)));refine ae (eA (s:={s with heap:=f,toks:=g}) GI rfl ?_);refine ae (ajW ?_);have uQ:f.objs.size=s.heap.objs.size:=by rw[p.1,n.1,m.1,j.1,I.1]
 have M:ajv f z TI TO .ellipsis:=p.extBut _ _ Z.TOz.symm (n.extBut _ _ i2z.symm (m.extBut _ _ Z.TOz.symm (j.extBut _ _ i1z.symm AD)));have aft:∀c o,c≠z->c≠TO->c≠i1->c≠i2->s.heap.get? c=aa o->f.get? c=aa o:=λc o r c2 c3 c4 e=>
  p.extBut _ _ c2 (n.extBut _ _ c4 (m.extBut _ _ c2 (j.extBut _ _ c3 (I.extBut _ _ r e))))
 have afu:S1 (i+1) f:=kX B (kX B (kX B aac m Z.of1) n Z.aih) p Z.of1;have afv:S2 (i+1) f:=kX C afs p Z.of2;have N:z<f.objs.size:=aH M;refine ae ?_;unfold bU.SmallTypes.ownedTupleHandOut;have afx:ajv (f.push {cls:=.type dy,data:=.seq #[x,y]}) z TI TO .ellipsis:=aj _ M;refine ae (eL (s:={s with heap:=f.push {cls:=.type dy,data:=.seq #[x,y]},toks:=g}) afx (by simp) λu Tp Tq=>?_);replace Tp:ajv u z TI TO (ajj f.objs.size):=Tp;refine eL (s:={s with heap:=u,toks:=g}) Tp (by simp) λG N6 O=>?_;replace N6:ajv G z TI TO (ajj f.objs.size):=N6;replace O:bM z u G:=O;have up:∀c o,c≠z->f.get? c=aa o->G.get? c=aa o:=λc o r e=>O.extBut _ _ r (Tq.extBut _ _ r (aj _ e));have T:eB G f.objs.size x y:=O.extBut _ _ (dM N) (Tq.extBut _ _ (dM N) (aJ _ rfl));have U:G.objs.size=f.objs.size+1:=by rw[O.1,Tq.1,bZ]
 rw[uQ] at N6 T U;refine av ⟨_,rfl,?_⟩;show Q (.ref f.objs.size) _;rw[uQ];exact hQ x y G g p1 p2 N6 (up _ _ Z.TOz GI) (B.frame _ _ _ afu λc hc o e=>up c o (λq=>Z.zf1 (by rw[<-q];exact hc)) e) (C.frame _ _ _ afv λc hc o e=>up c o (λq=>Z.zf2 (by rw[<-q];exact hc)) e) T U
  λc o r c2 c3 c4 e=>up c o r (aft c o r c2 c3 c4 e)
def A7(Z:FC z TI TO i1 i2 PV IU)(I:aju prog w A i1 PV n1 P1 S1)(J:aju prog w A i2 IU n2 P2 S2)
(r:ajv s.heap z TI TO .none)(Xn:eB s.heap TI (.ref i1) (.ref i2))(PX:eB s.heap TO a b)(h1:S1 i s.heap)(h2:S2 i s.heap)(Tr:i=n1\/(i<n1/\i=n2))
(hE:∀N e tk,(∀c o,c≠z->c≠TO->c≠i1->c≠i2->s.heap.get? c=aa o->N.get? c=aa o)->(∃o,N.get? e=aa o/\o.cls=.type "StopIteration")->E (.ref e) {s with heap:=N,toks:=tk}):
  wpAny (model prog w) A (bU.«zip.__next__» ⟨[.ref z],[]⟩) Q E s:=by
 have u:i1≠z:=λq=>Z.zf1 (by rw[<-q];exact Z.i1m);have O:i2≠z:=λq=>Z.zf2 (by rw[<-q];exact Z.i2m);have T:TO≠i1:=λq=>Z.of1 (by rw[q];exact Z.i1m);show wpAny _ _ (field (.ref z) 2 >>= _) _ _ _;refine ae (cm r rfl (x:=.bool ao) rfl ?_);show wpAny _ _ (field (.ref z) 3 >>= _) _ _ _;refine ae (cm r rfl (x:=.ref TI) rfl ?_);refine ae (eA Xn rfl ?_);refine ae ?_;unfold d7;refine ae (cm r rfl (x:=.none) rfl (av ?_));simp only [if_true];refine ae (ajk ?_);refine ae (cm r rfl (x:=.ref TO) rfl ?_);refine ae (eL r (by simp) λv L p=>?_);replace L:ajv v z TI TO .ellipsis:=L;refine ae ?_;simp only [fV,List.zipIdx_nil,List.forIn_cons,List.forIn_nil];refine ae (ae (aj6 ?_));rcases Tr with rfl|⟨l1,rfl⟩
 .refine ae (I.done {s with heap:=v} _ _ (kX I h1 p Z.zf1) λj e g U=>?_);obtain⟨Y,f,h⟩:=U;replace g:ajJ i1 v j:=g;have y:ajv j z TI TO .ellipsis:=g _ _ u.symm L;have n:e≠z:=λx=>by subst x;rw[y] at f;cases f;simp at h
  exact eL (s:={s with heap:=j}) y (by simp) λB _ m=>hE B e s.toks (λc o C _ c3 _ x=>m.extBut _ _ C (g _ _ c3 (p.extBut _ _ C x))) ⟨Y,m.extBut _ _ n f,h⟩
 .refine ae (I.item i {s with heap:=v} _ _ l1 (kX I h1 p Z.zf1) λx j G p1 aac g=>av ?_);replace g:bM i1 v j:=g;have Cy:eB j TO a b:=g.extBut _ _ T (p.extBut _ _ Z.TOz PX);refine ae (eA (s:={s with heap:=j,toks:=G}) Cy rfl ?_);refine ae (ajV (s:={s with heap:=j,toks:=G}) Cy λB GH m=>?_);replace m:bM TO j B:=m;refine ae (akp (av ?_));refine ae (ae (aj6 ?_));refine ae (J.done {s with heap:=B,toks:=G} _ _ (kX J (kX J (kX J h2 p Z.zf2) g Z.afr) m Z.of2) λCi e M U=>?_);obtain⟨Y,f,h⟩:=U;replace M:ajJ i2 B Ci:=M;have H:ajv Ci z TI TO .ellipsis:=M _ _ O.symm (m.extBut _ _ Z.TOz.symm (g.extBut _ _ u.symm L));have n:e≠z:=λx=>by subst x;rw[H] at f;cases f;simp at h
  exact eL (s:={s with heap:=Ci,toks:=G}) H (by simp) λrO _ wQ=>hE rO e G (λc o C c2 c3 c4 x=>wQ.extBut _ _ C (M _ _ c4 (m.extBut _ _ c2 (g.extBut _ _ c3 (p.extBut _ _ C x))))) ⟨Y,wQ.extBut _ _ n f,h⟩
def IW(Z:FC z TI TO i1 i2 PV IU)(h:aju prog w A.in1 i1 PV n1 P1 S1)(j:aju prog w A.in1 i2 IU n2 P2 S2)
(f:ajv s.heap z TI TO .none)(m:eB s.heap TI (.ref i1) (.ref i2))(n:eB s.heap TO a b)(p:S1 i s.heap)(q:S2 i s.heap)(r:i<n1)(u:i<n2)
(v:∀x y e tk,P1 i x->P2 i y->ajv e z TI TO (ajj s.heap.objs.size)->eB e TO x y->S1 (i+1) e->S2 (i+1) e->eB e s.heap.objs.size x y->e.objs.size=s.heap.objs.size+1->
   (∀c o,c≠z->c≠TO->c≠i1->c≠i2->s.heap.get? c=aa o->e.get? c=aa o)->Q (aa (.ref s.heap.objs.size)) {s with heap:=e,toks:=tk}):
  wpAny (model prog w) A (pyNext (.ref z)) Q E s:=by
 have g:s.TypeIs (.ref z) hR:=⟨_,f,rfl⟩;exact ae (gr (di g ajK
  (cT ajK g F.entry_zip_next
   (zB Z h j f m n p q r u λx y e tk b1 b2 a1 a2 a3 a4 a5 a6 a7=>av (v x y e tk b1 b2 a1 a2 a3 a4 a5 a6 a7)) (F.args_zip_next_1 _))))
def LX(Z:FC z TI TO i1 i2 PV IU)(j:aju prog w A.in1 i1 PV n1 P1 S1)(m:aju prog w A.in1 i2 IU n2 P2 S2)
(g:ajv s.heap z TI TO .none)(n:eB s.heap TI (.ref i1) (.ref i2))(p:eB s.heap TO a b)(q:S1 i s.heap)(r:S2 i s.heap)(u:i=n1\/(i<n1/\i=n2))
(v:∀f tk,(∀c o,c≠z->c≠TO->c≠i1->c≠i2->s.heap.get? c=aa o->f.get? c=aa o)->Q am {s with heap:=f,toks:=tk}):wpAny (model prog w) A (pyNext (.ref z)) Q E s:=by
 have h:s.TypeIs (.ref z) hR:=⟨_,g,rfl⟩;refine ae (gr (di h ajK
  (cT ajK h F.entry_zip_next (A7 Z j m g n p q r u λf e tk y B=>?_) (F.args_zip_next_1 _))))
 obtain⟨o,C,hc⟩:=B;refine ae (wpAny_isInstance ⟨o,C,hc⟩ isSubtype_stop ?_);exact av (v _ _ y)
end
def zC (v:ah)(ob:cn)(h:aw):Prop:=∀(prog:aP) (w:bt) (A:bq) (E:ah->aq->Prop) (s:aq) (Q:ah->aq->Prop),s.heap=h->Q (.ref s.heap.objs.size) {s with heap:=s.heap.push ob}->wpAny (model prog w) A (akt v) Q E s
abbrev acg(h:aw)(a b:cn):aw:=(h.push a).push b
abbrev Xp(h:aw)(a b:cn):aw:=(acg h a b).push {cls:=.type dy,data:=.seq #[.ref h.objs.size,.ref (h.push a).objs.size]}
abbrev ach(h:aw)(a b:cn):aw:=(Xp h a b).push {cls:=.type dy,data:=.seq #[.none,.none]}
abbrev LY(h:aw)(a b:cn):aw:=(ach h a b).push {cls:=.type hR,data:=.fields #[.none,.bool ao,.bool ao,.ref (acg h a b).objs.size,.ref (Xp h a b).objs.size]}
def GJ(v1 j:ah)(a c:cn):
  Meets (bU.«zip.__new__» ⟨[.type hR,v1,j],[]⟩) (λ_ R s=>zC v1 a s.heap/\zC j c (s.heap.push a)/\
   R (.ok (.ret (.ref (ach s.heap a c).objs.size))) {s with heap:=LY s.heap a c}):=
 .of_wp λprog w A R s h=>by
  obtain⟨b,g,d,tk,os⟩:=s;obtain⟨e,m,h⟩:=h;have n:=sub_zip;have f:∀(A:bq) (E:ah->aq->Prop) (Q:ah->aq->Prop),Q (.ref b.objs.size) ⟨b.push a,g,d,tk,os⟩->wpAny (model prog w) A (akt v1) Q E ⟨b,g,d,tk,os⟩:=λA E Q q=>e prog w A E ⟨b,g,d,tk,os⟩ Q rfl q;have i:=λA E Q q=>m prog w A E ⟨b.push a,g,d,tk,os⟩ Q rfl q
  wp_walk using f _ _ _,i _ _ _
  exact⟨_,rfl,h⟩
section
variable {prog:aP} {s:aq}
def IX(u:zC v1 a s.heap)(v:zC n b (s.heap.push a))(y:a.isFreed=ao)(z:b.isFreed=ao)
(h:∀e,ajv e (s.heap.objs.size+4) (s.heap.objs.size+2) (s.heap.objs.size+3) .none->eB e (s.heap.objs.size+2) (.ref s.heap.objs.size) (.ref (s.heap.objs.size+1))->
   eB e (s.heap.objs.size+3) .none .none->e.get? s.heap.objs.size=aa a->e.get? (s.heap.objs.size+1)=aa b->e.objs.size=s.heap.objs.size+5->
   (∀c o,s.heap.get? c=aa o->e.get? c=aa o)->Q (.ref (s.heap.objs.size+4)) {s with heap:=e}):
  wpAny (model prog w) A (call (.type hR) [v1,n]) Q E s:=by
 refine callType_new F.called_zip (by decide) (F.typeCall_zip_2 _ _) (F.newCall_zip_2 _ _) (λobj=>F.args_object_init_3 obj _ _) F.entry_zip_new
  (GJ v1 n a b) ⟨u,v,?_⟩
 have f:(s.heap.push a).objs.size=s.heap.objs.size+1:=bZ ..;have g:(acg s.heap a b).objs.size=s.heap.objs.size+2:=by rw[bZ,f]
 have i:(Xp s.heap a b).objs.size=s.heap.objs.size+3:=by rw[bZ,g]
 have j:(ach s.heap a b).objs.size=s.heap.objs.size+4:=by rw[bZ,i]
 have B:(LY s.heap a b).objs.size=s.heap.objs.size+5:=by rw[bZ,j]
 have m:(LY s.heap a b).get? _=aa _:=aJ _ rfl;have p:(LY s.heap a b).get? (Xp s.heap a b).objs.size=aa _:=aj _ (aJ _ rfl);have q:(LY s.heap a b).get? _=aa _:=aj _ (aj _ (aJ _ rfl));have r:(LY s.heap a b).get? (s.heap.push a).objs.size=aa b:=aj _ (aj _ (aj _ (aJ _ z)));have C:(LY s.heap a b).get? s.heap.objs.size=aa a:=aj _ (aj _ (aj _ (aj _ (aJ _ y))));show _/\_;rw[g,i,j] at m;rw[f,g] at q;rw[i] at p;rw[f] at r;rw[j];exact⟨⟨_,m,rfl⟩,h _ m q p C r B λc o x=>
  aj _ (aj _ (aj _ (aj _ (aj _ x))))⟩
end
end PySem
section
open PySem PySem.Spec PyProof.Rows
namespace L2
section
variable {s:aq} {h':aw}
def Inv.GK(ch:List ar)(I:Inv X cf σ H s)(k:∀b o,b∉ch->s.heap.get? b=aa o->h'.get? b=aa o)(a:∀b∈ch,tE X cf H b):Inv X cf σ H {s with heap:=h',toks:=t'}:=by
 have f:∀b u,H b=aa u->b∉ch:=λb u e z=>by have:=(a b z).1;rw[this] at e;cases e
 have g:=λz=>(a _ z).2.1 rfl;refine I.step (λb hb=>?_) (λb o _ _ hc e _=>k b o hc e) (λb o _ _ hc e _=>⟨o.slots,k b o hc e⟩) (λ_ _ _ _ n=>n)
  (λb o hc e=>⟨o,k b o hc e⟩) (λ_ _ e=>e) (λ_ _ _ e=>e) (λb A e=>⟨#[],by rw[e];simp⟩) (λm hm=>?_) (λb u e=>?_) I.bare
 .obtain⟨B,h,C,i,j,p⟩:=a b hb;exact⟨i,h,j,p⟩
 .obtain⟨o,es,w,y,r⟩:=hm;exact⟨o,es,w,k _ o g y,r⟩
 .refine(I.iC b u e).tm (λc v hc q=>k c v ?_ q) (λ_ q=>q) λ_ _ q=>q;rcases hc with z|z
  .rw[z];exact f b u e
  .exact f c _ z
end
section
variable {s:aq} {h':aw}
def Inv.GL(ch:List ar)(I:Inv X cf σ H s)(k:∀b o,b∉ch->s.heap.get? b=aa o->h'.get? b=aa o)(f:∀b∈ch,tE X cf H b)(g:s.heap.objs.size<=T)
(j:h.length<=az)(r:Vals h ig)(ht:aj4 h' T ig.toArray):Inv X cf σ (upd H T (.tup h)) {s with heap:=h',toks:=G}:=by
 have i:∀b u,H b=aa u->b∉ch:=λb u e z=>by have:=(f b z).1;rw[this] at e;cases e
 have a:=I.iC.fresh g;have neT:∀b o,s.heap.get? b=aa o->b≠T:=λb o e=>bg (bw (aH e) g);have p:=λz=>(f _ z).2.1 rfl;refine I.step (λb hb=>?_) (λb o _ _ hc e _=>k b o hc e) (λb o _ _ hc e _=>⟨o.slots,k b o hc e⟩) (λb o _ e n=>by rw[gR (neT b o e)];exact n)
  (λb o hc e=>⟨o,k b o hc e⟩) (λb xs e=>by rw[gR (ja e a)];exact e) (λb o u e=>by rw[gR (ja e a)];exact e) (λb J e=>⟨#[],by rw[gR (ja e a),e];simp⟩) (λm hm=>?_) (λb u e=>?_) I.bare
 .obtain⟨L,w,M,y,A,B⟩:=f b hb;exact⟨y,w,A,B⟩
 .obtain⟨o,es,C,E,r⟩:=hm;exact⟨o,es,C,k _ o p E,r⟩
 .by_cases hb:b=T
  .subst hb;rw[gZ] at e;cases e;exact⟨j,ig,r,ht⟩
  .rw[gR hb] at e;refine(I.iC b u e).tm (λc v hc q=>k c v ?_ q) (λc q=>by rw[gR (ja q a)];exact q) λc xs q=>by rw[gR (ja q a)];exact q
   rcases hc with z|z
   .rw[z];exact i b u e
   .exact i c _ z
end
inductive Sk where
 |L (a:ar)|T (a:ar)|S (z:aB) (t:alM)
noncomputable def Sk.val:Sk->ah
 |.L a=>.ref a
 |.T a=>.ref a
 |.S z t=>.str z t
noncomputable def Sk.obj:Sk->cn
 |.L a=>{cls:=.type "list_iterator",data:=.fields #[.ref a,.int 0 0]}
 |.T a=>{cls:=.type qx,data:=.fields #[.ref a,.int 0 0]}
 |.S z t=>{cls:=.type (eG z),data:=.fields #[.str z t,.int 0 0]}
def Sk.st(it:ar):Sk->Nat->aw->Prop
 |.L a,i,h=>h.IsListIter it a i
 |.T a,i,h=>h.IsTupleIter it a i
 |.S z t,i,h=>h.IsStrIter it (eG z) z t i
def Sk.seq(K:af)(H:Hp):Sk->List V->Prop
 |.L a,b=>nr K H a b
 |.T a,b=>w4 K H a b
 |.S z _,b=>b=z.cps.toList.map λc=>V.str ⟨#[c]⟩
def Sk.Cz{k:Sk}(st:k.st it i h):∃o,h.get? it=aa o/\∃n fs,o.cls=.type n/\o.data=.fields fs/\[hY,hR,uac,uaA,uaB,uaC,uaD].contains n=ao:=by
 cases k with
 |L a=>obtain⟨o,e,c,d⟩:=st;exact⟨o,e,_,_,c,d,by decide⟩
 |T a=>obtain⟨o,e,c,d⟩:=st;exact⟨o,e,_,_,c,d,by decide⟩
 |S z t=>
  obtain⟨o,e,c,d⟩:=st;refine⟨o,e,_,_,c,d,?_⟩;rcases oy with q|q<;>(rw[q];decide)
def Sk.yp{k:Sk}(st:k.st it i h)(b:∀o,h.get? it=aa o->c.get? it=aa o):k.st it i c:=by
 cases k with
 |L a=>obtain⟨o,e,r⟩:=st;exact⟨o,b o e,r⟩
 |T a=>obtain⟨o,e,r⟩:=st;exact⟨o,b o e,r⟩
 |S z t=>obtain⟨o,e,r⟩:=st;exact⟨o,b o e,r⟩
def Sk.Tt{k:Sk}(e:h.get? it=aa k.obj):k.st it 0 h:=by
 cases k with
 |L a=>exact⟨_,e,rfl,rfl⟩
 |T a=>exact⟨_,e,rfl,rfl⟩
 |S z t=>exact⟨_,e,rfl,rfl⟩
section
variable {X:Cx} {s:aq}
def Sk.inj(I:Inv X cf σ H s){k:Sk}(h:k.seq X.K H c)(b:k.seq X.K H zs):c=zs:=by
 cases k with
 |L a=>exact I.Iv h b
 |T a=>exact I.Fj h b
 |S z t=>exact h.trans b.symm
def Xq(I:Inv X cf c H s)(a:tE X cf H b):H b=am/\X.K.lookup b=am:=by
 refine⟨a.1,?_⟩;cases e:X.K.lookup b with
 |none=>rfl
 |some o=>
  have hb:=I.ok.mod.RW b o e;rcases a.2.2.2.1 with z|z
  .exact absurd z (I.ok.Ir b o hb)
  .exact absurd (bw (aH hb) (bh I.ok.Po z)) (cB _)
def Sk.N7(I:Inv X cf σ H s)(c:tE X cf H b)(h:nr X.K H a f\/w4 X.K H a f):a≠b:=λe=>by subst e;obtain⟨g,i⟩:=Xq I c;rcases h with((h|⟨_,h⟩)|⟨_,_,_,h,_⟩)|((h|⟨_,h⟩)|⟨_,_,_,h,_⟩);all_goals first|(rw[g] at h;cases h)|(rw[i] at h;cases h)
def Sk.draws{A:bq}(I:Inv X cf σ H s)(n:A.handled=am){k:Sk}{f:List V}(g:k.seq X.K H f){it:ar}(M:tE X cf H it){i:Nat}(st:k.st it i s.heap):
  ∃B St,aju X.prog X.w A it B f.length (λi v=>∃y,f[i]?=aa y/\RelV y v) St/\St i s.heap/\it∈B/\(∀b,tE X cf H b->b≠it->b∉B)/\∀j h,St j h->k.st it j h:=by
 cases k with
 |L a=>
  obtain⟨ig,r,p,O⟩:=I.list g;have C:a≠it:=Sk.N7 I M (.inl g);refine⟨[it,a],(λi h=>h.IsListIter it a i/\h.IsList a ig.toArray),?_,⟨st,p.isList⟩,by simp,λb hb e=>?_,λj h q=>q.1⟩
  .have D:=pF (P':=λi v=>∃y,f[i]?=aa y/\RelV y v) (aju.list (prog:=X.prog) (w:=X.w) n it a C ig.toArray) (λi v e=>by
    have hi:i<ig.length:=by have:=(cU.mp e).1;simpa using this
    have m:i<f.length:=by rw[r.length];exact hi
    obtain⟨u,E,G⟩:=r.get (i:=i) (x:=f[i]) (by simp[m]);have:u=v:=by
     have e':ig[i]?=aa v:=by simpa using e
     rw[E] at e';exact bA e'
    subst this;exact⟨f[i],by simp[m],G⟩)
   rw[aO,<-r.length] at D;exact D
  .have:=Sk.N7 I hb (.inl g);simp only [aN,bN,or_false]
   rintro(q|q)
   .exact e q
   .exact this q.symm
 |T a=>
  obtain⟨ig,r,p,O⟩:=I.tuple g;have C:a≠it:=Sk.N7 I M (.inr g);refine⟨[it,a],(λi h=>h.IsTupleIter it a i/\h.IsTuple a ig.toArray),?_,⟨st,(show s.heap.IsTuple a ig.toArray from p)⟩,by simp,λb hb e=>?_,λj h q=>q.1⟩
  .have D:=pF (P':=λi v=>∃y,f[i]?=aa y/\RelV y v) (Cv (prog:=X.prog) (w:=X.w) n it a C ig.toArray) (λi v e=>by
    have hi:i<ig.length:=by have:=(cU.mp e).1;simpa using this
    have m:i<f.length:=by rw[r.length];exact hi
    obtain⟨u,E,G⟩:=r.get (i:=i) (x:=f[i]) (by simp[m]);have:u=v:=by
     have e':ig[i]?=aa v:=by simpa using e
     rw[E] at e';exact bA e'
    subst this;exact⟨f[i],by simp[m],G⟩)
   rw[aO,<-r.length] at D;exact D
  .have:=Sk.N7 I hb (.inr g);simp only [aN,bN,or_false]
   rintro(q|q)
   .exact e q
   .exact this q.symm
 |S z t=>
  have g:f=z.cps.toList.map λc=>V.str ⟨#[c]⟩:=g;subst g;have o:∀(i:Nat) (v:ah),(∃(c:Nat) (u:alM),z.cps[i]?=aa c/\v=ah.str ⟨#[c]⟩ u)->∃y,(z.cps.toList.map λc=>V.str ⟨#[c]⟩)[i]?=aa y/\RelV y v:=by
   rintro i v ⟨c,u,Q,U⟩
   refine⟨.str ⟨#[c]⟩,?_,u,U⟩;rw[bn,cY,Q];rfl
  have N:(z.cps.toList.map λc=>V.str ⟨#[c]⟩).length=z.cps.size:=by simp
  have key:eG z=uaE\/eG z="str_iterator":=oy;rcases key with e|e
  .have J:s.heap.IsStrIter it uaE z t i:=by rw[<-e];exact st
   refine⟨[it],_,by rw[N];exact pF (aju.strAscii n it z t) o,J,by simp,λb hb e=>by simpa using e,λj h q=>by show h.IsStrIter it (eG z) z t j;rw[e];exact q⟩
  .have J:s.heap.IsStrIter it "str_iterator" z t i:=by rw[<-e];exact st
   refine⟨[it],_,by rw[N];exact pF (aju.strWide n it z t) o,J,by simp,λb hb e=>by simpa using e,λj h q=>by show h.IsStrIter it (eG z) z t j;rw[e];exact q⟩
def Sk.iter(I:Inv X cf σ H s){k:Sk}(b:k.seq X.K H f):zC k.val k.obj s.heap:=by
 intro prog w A E g Q e q;cases k with
 |L a=>
  obtain⟨ig,r,p,c⟩:=I.list b;exact dS (by rw[e];exact p.isList) q
 |T a=>
  obtain⟨ig,r,p,c⟩:=I.tuple b;exact fO (by rw[e];exact(p)) q
 |S z t=>exact alu q
def Sk.afy(I:Inv X cf σ H s){k:Sk}(b:k.seq X.K H f)(o:cn):zC k.val k.obj (s.heap.push o):=by
 intro prog w A E g Q e q;cases k with
 |L a=>
  obtain⟨ig,r,p,c⟩:=I.list b;exact dS (by rw[e];exact p.isList.push _) q
 |T a=>
  obtain⟨ig,r,p,c⟩:=I.tuple b;exact fO (by rw[e];exact aw.IsTuple.push (p) _) q
 |S z t=>exact alu q
end
def Sk.freed(k:Sk):k.obj.isFreed=ao:=by cases k<;>rfl
noncomputable def Ite(K:af)(k:Sk):It:=⟨λi H=>∃a y,k.seq K H a/\a[i]?=aa y,λi H x b=>∃p,x=.ref p/\H p=am/\∀a,k.seq K H a->∃y,a[i]?=aa y/\b=upd H p (.tup [.int i,y]),λi H=>∃a,k.seq K H a/\a.length=i⟩
def PZ{P:aP}{w:bt}{K:af}{elts:List bv}{n:Nat}{pos:dA}(k:Sk)(e it:ar)(N:e≠it):Turn P w K (.Tuple elts n pos) (Ite K k) [e,it] e (λi h=>(∃old,IsEnum h e it i old)/\k.st it i h) where
 mem:=by simp
 obj:=λi h st b hb=>by
  obtain⟨⟨old,a⟩,s⟩:=st;simp only [aN,bN,or_false] at hb;rcases hb with rfl|rfl
  .exact⟨_,a,λv z=>by cases z⟩
  .obtain⟨o,e,n,fs,c,d,_⟩:=Sk.Cz s;exact⟨o,e,λv z=>by rw[d] at z;cases z⟩
 keep:=λi h O st U=>by obtain⟨⟨old,a⟩,s⟩:=st;exact⟨⟨old,U e (by simp) _ a⟩,Sk.yp s λo q=>U it (by simp) o q⟩
 item:=by
  intro X u hw hK hc i cf s F H E I f st hg;subst u hw hK;obtain⟨ys,y,Y,B⟩:=hg;obtain⟨⟨old,a⟩,g⟩:=st;have j:=f e (by simp);have m:=f it (by simp);have LL:X.A.in1.handled=am:=I.ok.hd hc;obtain⟨fp,St,D,p,hm,xh,i9⟩:=Sk.draws I LL Y m g;have W:=WalksT.enumerateD (A:=X.A) D e N (xh e j N) hm;have hi:i<ys.length:=(au.mp B).1;refine W.item i s _ _ hi ⟨⟨old,a⟩,p⟩ λT abM O tk u hT aij C hk=>⟨.ref T,rfl,?_⟩;obtain⟨t,x,⟨y',G,ry⟩,rfl⟩:=u;have:y'=y:=by rw[B] at G;exact(bA G).symm
  subst this;have hap:=W.apart i T O C;refine W.go elts n pos i T {s with heap:=O,toks:=tk} _ E C λRI J L=>?_;have M:T∉[e,it]:=hap;have U:=λb o hb eb=>L b o hb (hk b o hb eb);have hTs:RI.IsTuple T #[.int i t,x]:=by obtain⟨o,ho,r⟩:=aij;exact⟨o,L T o M ho,r⟩
  have Ts:H T=am:=I.iC.fresh hT;have I2:Inv X cf F (upd H T (.tup [.int i,y'])) {s with heap:=RI,toks:=tk}:=I.GL [e,it] U (λb hb=>f b hb) hT (by show 2<=az;decide) (ig:=[.int i t,x]) (.cons ⟨t,rfl⟩ (.cons ry .nil)) hTs;refine⟨.ref T,_,I2,rfl,⟨T,rfl,Ts,λzs hz=>?_⟩,⟨J.1,i9 _ _ J.2⟩,λb hb=>?_⟩
  .rw[Sk.inj I hz Y];exact⟨y',B,rfl⟩
  .rw[gR λq=>M (by rw[<-q];exact hb)];exact(f b hb).1
 done:=by intro X u hw hK hc i cf s F H E I f st hg;subst u hw hK;obtain⟨ys,Y,B⟩:=hg;obtain⟨⟨old,a⟩,g⟩:=st;have j:=f e (by simp);have m:=f it (by simp);have LL:X.A.in1.handled=am:=I.ok.hd hc;obtain⟨fp,St,D,p,hm,xh,i9⟩:=Sk.draws I LL Y m g;have W:=WalksT.enumerateD (A:=X.A) D e N (xh e j N) hm;subst B;exact W.done s _ _ ⟨⟨old,a⟩,p⟩ λO tk hk=>⟨rfl,I.GK [e,it] hk (λb hb=>f b hb)⟩
 self:=λA i s Q E st h=>by obtain⟨⟨old,a⟩,_⟩:=st;exact alv a h
noncomputable def Itz(K:af)(k b:Sk):It:=⟨λi H=>∃a zs y z,k.seq K H a/\b.seq K H zs/\a[i]?=aa y/\zs[i]?=aa z,
 λi H x c=>∃p,x=.ref p/\H p=am/\∀a zs,k.seq K H a->b.seq K H zs->∃y z,a[i]?=aa y/\zs[i]?=aa z/\c=upd H p (.tup [y,z]),
 λi H=>∃a zs,k.seq K H a/\b.seq K H zs/\(i=a.length\/(i<a.length/\i=zs.length))⟩
def Tu{P:aP}{w:bt}{K:af}{elts:List bv}{n:Nat}{pos:dA}(k k2:Sk)(z TI TO f g:ar)(nd:[z,TI,TO,f,g].Nodup):Turn P w K (.Tuple elts n pos) (Itz K k k2) [z,TI,TO,f,g] z
  (λi h=>ajv h z TI TO .none/\eB h TI (.ref f) (.ref g)/\(∃a b,eB h TO a b)/\k.st f i h/\k2.st g i h) where
 mem:=by simp
 obj:=λi h st b hb=>by
  obtain⟨J,C,⟨a,c,L⟩,M,N⟩:=st;simp only [aN,bN,or_false] at hb;rcases hb with rfl|rfl|rfl|rfl|rfl
  .exact⟨_,J,λv z=>by cases z⟩
  .exact⟨_,C,λv z=>by cases z⟩
  .exact⟨_,L,λv z=>by cases z⟩
  .obtain⟨o,e,n,fs,c,d,_⟩:=Sk.Cz M;exact⟨o,e,λv z=>by rw[d] at z;cases z⟩
  .obtain⟨o,e,n,fs,c,d,_⟩:=Sk.Cz N;exact⟨o,e,λv z=>by rw[d] at z;cases z⟩
 keep:=λi h h' st O=>by obtain⟨J,C,⟨a,c,L⟩,M,N⟩:=st;exact⟨O z (by simp) _ J,O TI (by simp) _ C,⟨a,c,O TO (by simp) _ L⟩,Sk.yp M λo q=>O f (by simp) o q,Sk.yp N λo q=>O g (by simp) o q⟩
 item:=by
  intro X hP hw hK hc i cf s F H E I j st hg;subst hP hw hK;obtain⟨ys,zs,y,y2,hq,G,hy,T⟩:=hg;obtain⟨J,C,⟨a,c,L⟩,M,N⟩:=st;have m:=j z (by simp);have Xn:=j TI (by simp);have PX:=j TO (by simp);have p:=j f (by simp);have r:=j g (by simp);simp only [eD,aN,bN,or_false,not_or,gB,and_true,not_false_eq_true] at nd;obtain⟨⟨n1,n2,n3,n4⟩,⟨n5,n6,n7⟩,⟨n8,n9⟩,B⟩:=nd;have LL:X.A.in1.handled=am:=I.ok.hd hc;obtain⟨fp,St,D,U,hm,Y,i9⟩:=Sk.draws I LL hq p M;obtain⟨IU,St2,D2,aci,hm2,CB,Xr⟩:=Sk.draws I LL G r N;have Z:FC z TI TO f g fp IU:=⟨ci n1,ci n2,n5,n6,n7,hm,hm2,Y z m n3,CB z m n4,Y TO PX n8,CB TO PX n9,CB f p B,Y g r (ci B)⟩;have l1:i<ys.length:=(au.mp hy).1;have l2:i<zs.length:=(au.mp T).1;refine IW Z D D2 J C L U aci l1 l2 λu v h' tk p1 p2 g1 g2 g3 g4 g5 g6 g7=>⟨.ref s.heap.objs.size,rfl,?_⟩;obtain⟨y',hy',ry⟩:=p1;obtain⟨y2',afA,ry2⟩:=p2;have e1:y'=y:=by rw[hy] at hy';exact(bA hy').symm
  have e2:y2'=y2:=by rw[T] at afA;exact(bA afA).symm
  subst e1 e2;refine wpAny_letOwnedTupleGo_zip (s:={s with heap:=h',toks:=tk}) g1 λRI aik Tv=>?_;replace Tv:bM z h' RI:=Tv;have lt:∀{c o},s.heap.get? c=aa o->s.heap.objs.size≠c:=λe=>dM (aH e);have O:∀b o,b∉[z,TI,TO,f,g]->s.heap.get? b=aa o->RI.get? b=aa o:=λb o hb eb=>by simp only [aN,bN,or_false,not_or] at hb;exact Tv.extBut _ _ hb.1 (g7 b o hb.1 hb.2.2.1 hb.2.2.2.1 hb.2.2.2.2 eb)
  have hTz:s.heap.objs.size≠z:=lt J;have hTn:s.heap.objs.size∉[z,TI,TO,f,g]:=by
   simp only [aN,bN,or_false,not_or];refine⟨hTz,lt C,lt L,?_,?_⟩
   .obtain⟨o,e,_⟩:=Sk.Cz M;exact lt e
   .obtain⟨o,e,_⟩:=Sk.Cz N;exact lt e
  have hTs:aj4 RI s.heap.objs.size #[u,v]:=⟨_,Tv.extBut _ _ hTz g5,rfl,_,rfl⟩;have Ts:H s.heap.objs.size=am:=I.iC.fresh (aC _);have I2:Inv X cf F (upd H s.heap.objs.size (.tup [y',y2'])) {s with heap:=RI,toks:=tk}:=I.GL [z,TI,TO,f,g] O (λb hb=>j b hb) (aC _) (by show 2<=az;decide) (ig:=[u,v]) (.cons ry (.cons ry2 .nil)) hTs;have up:∀c o,c≠z->h'.get? c=aa o->RI.get? c=aa o:=λc o hc e=>Tv.extBut _ _ hc e;refine⟨.ref s.heap.objs.size,_,I2,rfl,⟨_,rfl,Ts,λas bs ha hb=>?_⟩,⟨aik,up _ _ (ci n1) (g7 _ _ (ci n1) n5 n6 n7 C),⟨_,_,up _ _ (ci n2) g2⟩,Sk.yp (i9 _ _ g3) λo q=>up _ _ (ci n3) q,Sk.yp (Xr _ _ g4) λo q=>up _ _ (ci n4) q⟩,λb hb=>?_⟩
  .rw[Sk.inj I ha hq,Sk.inj I hb G];exact⟨y',y2',hy,T,rfl⟩
  .rw[gR λq=>hTn (by rw[<-q];exact hb)];exact(j b hb).1
 done:=by intro X hP hw hK hc i cf s F H E I j st hg;subst hP hw hK;obtain⟨ys,zs,hq,G,Tr⟩:=hg;obtain⟨J,C,⟨a,c,L⟩,M,N⟩:=st;have m:=j z (by simp);have Xn:=j TI (by simp);have PX:=j TO (by simp);have p:=j f (by simp);have r:=j g (by simp);simp only [eD,aN,bN,or_false,not_or,gB,and_true,not_false_eq_true] at nd;obtain⟨⟨n1,n2,n3,n4⟩,⟨n5,n6,n7⟩,⟨n8,n9⟩,B⟩:=nd;have LL:X.A.in1.handled=am:=I.ok.hd hc;obtain⟨fp,St,D,U,hm,Y,i9⟩:=Sk.draws I LL hq p M;obtain⟨IU,St2,D2,aci,hm2,CB,Xr⟩:=Sk.draws I LL G r N;have Z:FC z TI TO f g fp IU:=⟨ci n1,ci n2,n5,n6,n7,hm,hm2,Y z m n3,CB z m n4,Y TO PX n8,CB TO PX n9,CB f p B,Y g r (ci B)⟩;refine LX Z D D2 J C L U aci Tr λh' tk hk=>⟨rfl,I.GK [z,TI,TO,f,g] (λb o hb eb=>?_) (λb hb=>j b hb)⟩;simp only [aN,bN,or_false,not_or] at hb;exact hk b o hb.1 hb.2.2.1 hb.2.2.2.1 hb.2.2.2.2 eb
 self:=λA i s Q E st h=>alH st.1 h
def LZ (K:af)(H:Hp)(x:V)(b:Sk->Prop):Prop:=(∃a,x=.ref a/\(∃c,nr K H a c)/\b (.L a))\/(∃a,x=.ref a/\(∃c,w4 K H a c)/\b (.T a))\/(∃z,x=.str z/\∀t,b (.S z t))
def LZ.get{K:af}(h:LZ K H x c)(r:RelV x u):∃k:Sk,u=k.val/\(∃b,k.seq K H b)/\c k:=by
 rcases h with⟨a,rfl,⟨b,h⟩,q⟩|⟨a,rfl,⟨b,h⟩,q⟩|⟨z,rfl,q⟩
 .exact⟨.L a,r,⟨b,h⟩,q⟩
 .exact⟨.T a,r,⟨b,h⟩,q⟩
 .obtain⟨t,rfl⟩:=r;exact⟨.S z t,rfl,⟨_,rfl⟩,q t⟩
noncomputable def Sk.it(K:af):Sk->It
 |.L a=>Itl K a
 |.T a=>Itt K a
 |.S z _=>Its z
section
variable {X:Cx}
def ail (K:af)(a:TE):TI:=λb H R=>a b H λx H1=>LZ K H1 x λk=>R (k.it K) H1
def acj(g:PE X e i):PI X tg e (ail X.K i):=by
 intro cf s u H R I h;refine jB (g cf s u H _ I h) λv s1 j=>?_;obtain⟨x,H1,c,m,n⟩:=j;obtain⟨k,rfl,⟨r,p⟩,q⟩:=n.get m;refine(Sk.iter c p) _ _ _ _ s1 _ rfl ?_;have hb:∀b∈[s1.heap.objs.size],tE X cf H1 b:=λb hb=>by
  have e:=by simpa using hb
  subst e;exact c.Iw (aC _) (c.iC.fresh (aC _))
 have f:Inv X cf u H1 {s1 with heap:=s1.heap.push k.obj}:=c.kept λb o e=>aj _ e;cases k with
 |L a=>exact⟨s1.heap.objs.size,[s1.heap.objs.size],_,_,H1,rfl,f,Pr a _,⟨_,aJ _ rfl,rfl,rfl⟩,hb,q⟩
 |T a=>exact⟨s1.heap.objs.size,[s1.heap.objs.size],_,_,H1,rfl,f,Lm a _,⟨_,aJ _ rfl,rfl,rfl⟩,hb,q⟩
 |S z t=>exact⟨s1.heap.objs.size,[s1.heap.objs.size],_,_,H1,rfl,f,SK _ z t,⟨⟨_,aJ _ rfl,rfl,rfl⟩,bu _⟩,hb,q⟩
def afB (K:af)(a:TA):TI:=λc H R=>a c H λb H1=>∃x,b=[x]/\LZ K H1 x λk=>R (Ite K k) H1
def Xs(C:Gl X hY)(hm:X.mg hY=am)(ha:PA X [a] E)(m:aV [a] X.env=[(ao,eval a X.env)]:=by rfl):
  PI X (.Tuple elts n G) (.Call (.Name hY p) [a] [] pos) (afB X.K E):=by
 intro cf s F H R I h;refine Call_ (wZ I C hm boot_enumerate (dX (jB (ha pos cf s F H _ I h) λus s1 zq=>?_) m rfl));obtain⟨O,H1,g,J,y⟩:=zq;obtain⟨x,rfl,y⟩:=y;obtain⟨u,rfl,M⟩:=vals1 J;obtain⟨k,rfl,⟨Q,m⟩,q⟩:=y.get M;have B:∀c:aw,IsEnum c _ _ 0 .none->k.st _ 0 c->(∀b o,s1.heap.get? b=aa o->c.get? b=aa o)->
   wpAny (model X.prog X.w) X.A _ (PIE X cf F (.Tuple elts n G) R) X.xe {s1 with heap:=c}:=λc e f v=>by
  refine alv e ?_;have ne:s1.heap.objs.size+1≠s1.heap.objs.size:=by lia
  refine⟨s1.heap.objs.size+1,[s1.heap.objs.size+1,s1.heap.objs.size],_,_,H1,rfl,g.kept v,PZ k _ _ ne,⟨⟨_,e⟩,f⟩,λb hb=>?_,q⟩;have i:s1.heap.objs.size<=b:=by simp only [aN,bN,or_false] at hb;rcases hb with rfl|rfl<;>lia
  exact g.Iw i (g.iC.fresh i)
 cases k with
 |L a=>
  obtain⟨ig,r,pl,N⟩:=g.list m;exact call_enumerate_list pl.isList λc e f v j=>B c e f j
 |T a=>
  obtain⟨ig,r,pl,N⟩:=g.tuple m;exact Cw (pl) λc e f v j=>B c e f j
 |S z t=>exact call_enumerate_str λc e f v j=>B c e f j
def P0:bR hR=aa (.type hR):=by decide+kernel
def ain (K:af)(a:TA):TI:=λe H R=>a e H λb H1=>∃x y,b=[x,y]/\LZ K H1 x λk=>LZ K H1 y λc=>R (Itz K k c) H1
def ack(o:Gl X hR)(hm:X.mg hR=am)(ha:PA X [a,b] r)(g:aV [a,b] X.env=[(ao,eval a X.env),(ao,eval b X.env)]:=by rfl)(f:aV [b] X.env=[(ao,eval b X.env)]:=by rfl):
  PI X (.Tuple elts n L) (.Call (.Name hR p) [a,b] [] pos) (ain X.K r):=by
 intro cf s F H R I h;refine Call_ (wZ I o hm P0 (dX (jB (ha pos cf s F H _ I h) λus s1 ⟨M,H1,c,w,i⟩=>?_) (by rw[g,f]) (by rw[f];rfl)));obtain⟨x,y,rfl,i⟩:=i;obtain⟨u,v,rfl,z,A⟩:=vals2 w;obtain⟨k,rfl,⟨N,g⟩,q⟩:=i.get z;obtain⟨j,rfl,⟨zs,f⟩,q⟩:=q.get A;refine IX (Sk.iter c g) (Sk.afy c f _) k.freed j.freed λO m B C E G Q J=>?_;refine alH m ?_;refine⟨_,[s1.heap.objs.size+4,s1.heap.objs.size+2,s1.heap.objs.size+3,s1.heap.objs.size,s1.heap.objs.size+1],_,_,H1,rfl,c.kept J,Tu k j _ _ _ _ _ (by simp),⟨m,B,⟨_,_,C⟩,Sk.Tt E,Sk.Tt G⟩,λb hb=>?_,q⟩;have e:s1.heap.objs.size<=b:=by simp only [aN,bN,or_false] at hb;rcases hb with rfl|rfl|rfl|rfl|rfl<;>lia
 exact c.Iw e (c.iC.fresh e)
end
end L2
namespace L3
open L2
noncomputable def xi:D->Option (List D)
 |.lst ds=>aa ds
 |.tup ds=>aa ds
 |.qO ns=>aa (ns.map D.int)
 |.str z=>aa (z.cps.toList.map λc=>D.str ⟨#[c]⟩)
 |_=>am
def SkV (d:D)(v:V)(k:Sk):Prop:=match d with
 |.lst _|.qO _=>∃a,v=.ref a/\k=.L a
 |.tup _=>∃a,v=.ref a/\k=.T a
 |.str z=>v=.str z/\∃t,k=.S z t
 |_=>False
section
variable {K:af}
def Bw(o:OK K F i H M)(r:Rep K i (jk F i M H) d v)(e:xi (vw M d)=aa items)(b:SkV (vw M d) v k):∃g,k.seq K H g/\gO K i (jk F i M H) items g:=by
 generalize e1:vw M d=x at e b;cases x<;>first|(cases e;done)|skip
 .cases e;have e2:=mM e1;obtain⟨rfl,t,rfl⟩:=b;exact⟨_,rfl,gO.of_map _ _ (λc=>pC) _⟩
 .cases e;obtain⟨a,rfl,rfl⟩:=b;obtain⟨h,f,e3,q,z⟩:=mN o r e1;cases e3;exact⟨f,q,z⟩
 .cases e;obtain⟨a,rfl,rfl⟩:=b;obtain⟨h,f,e3,q,z⟩:=jg o r e1;cases e3;exact⟨f,nr.of q,z⟩
 .cases e;have e2:=u0 e1;subst e2;obtain⟨a,rfl,rfl⟩:=b;obtain⟨h,e3,q⟩:=r;cases e3;exact⟨_,kb ib q,gO.of_map _ _ (λc=>i5) _⟩
def GO(o:OK K F f H M)(r:Rep K f (jk F f M H) d v)(e:xi (vw M d)=aa items)(h:∀k,SkV (vw M d) v k->b k):LZ K H v b:=by
 generalize e1:vw M d=x at e h;cases x<;>first|(cases e;done)|skip
 .have e2:=mM e1;subst e2;subst r;exact .inr (.inr ⟨_,rfl,λt=>h _ ⟨rfl,t,rfl⟩⟩)
 .obtain⟨a,c,rfl,q,z⟩:=mN o r e1;exact .inr (.inl ⟨a,rfl,⟨_,q⟩,h _ ⟨a,rfl,rfl⟩⟩)
 .obtain⟨a,c,rfl,q,z⟩:=jg o r e1;exact .inl ⟨a,rfl,⟨_,nr.of q⟩,h _ ⟨a,rfl,rfl⟩⟩
 .have e2:=u0 e1;subst e2;obtain⟨a,rfl,q⟩:=r;exact .inl ⟨a,rfl,⟨_,kb ib q⟩,h _ ⟨a,rfl,rfl⟩⟩
end
section
variable {X:Cx}
def iO (te:DE):DI:=λc M Q=>te c M λd M1=>∃items,xi (vw M1 d)=aa items/\Q items (λf=>vw f d=vw M1 d) M1
def Tw(J:JE X e te):JI X tg e (iO te):=by
 refine⟨λG M P Q w q=>J.mono G _ _ _ (λd M1 q=>?_) q,PI.weak (acj J.p) λb H Q q=>?_⟩
 .obtain⟨items,e,q⟩:=q;exact⟨items,e,w _ _ _ q⟩
 .obtain⟨F,n,G,M,r,q⟩:=q;refine⟨F,n,G,M,r,J.mono G _ _ _ (λd M1 q v N H1 e1 O r1=>?_) q⟩;obtain⟨items,ei,q⟩:=q;refine GO O r1 ei λk hk=>q _ N H1 H1 id e1 O (LO.refl O) ?_;have key:∀h ii j g,N <+: ii->jC (jk F N M1 H1) _->OK X.K h ii j g->vw g d=vw M1 d->∃f,k.seq X.K j f/\gO X.K ii _ items f:=λh ii j g y A o u=>
   Bw o (Rep.mono y A d v r1) (by rw[u];exact ei) (by rw[u];exact hk)
  refine⟨λi h ii j g y A o u hi=>?_,λi h ii j g x B d' y A o u hd C=>?_,λh ii j g y A o u=>?_⟩
  .obtain⟨f,m,E⟩:=key h ii j g y A o u;have I:=gO.length _ _ E;cases k with
   |L a=>exact⟨f,f[i],m,by simp⟩
   |T a=>exact⟨f,f[i],m,by simp⟩
   |S z t=>
    show i<z.cps.size;rw[m] at I;simpa[I] using hi
  .obtain⟨f,m,E⟩:=key h ii j g y A o u;have U:∀B,B=j->f[i]?=aa x->OK X.K h ii B g/\Ext h ii j g ii B g/\Rep X.K ii (jk h ii g B) d' x:=λB e Y=>by subst e;obtain⟨d2,e2,r2⟩:=gO.get' _ _ i x E Y;rw[hd] at e2;cases e2;exact⟨o,Ext.refl,r2⟩
   cases k with
   |L a=>exact U _ C.1 (C.2 f m)
   |T a=>exact U _ C.1 (C.2 f m)
   |S z t=>
    obtain⟨e,c,hc,Y⟩:=C;refine U _ e ?_;rw[m,bn,cY,hc,Y];rfl
  .obtain⟨f,m,E⟩:=key h ii j g y A o u;have I:=gO.length _ _ E;cases k with
   |L a=>exact⟨f,m,by lia⟩
   |T a=>exact⟨f,m,by lia⟩
   |S z t=>
    show z.cps.size<=items.length;rw[I,m];simp
def lJ (tt:DA):DI:=λc M Q=>tt c M λds M1=>match ds with
 |[d]=>∃items,xi (vw M1 d)=aa items/\Q (items.mapIdx λi d=>.tup [.int i,d]) (λf=>vw f d=vw M1 d) M1
 |_=>False
def sI{K:af}(h:gO K a H [d] c):∃v,c=[v]/\Rep K a H d v:=by obtain⟨v,r,rfl,z,y⟩:=h;subst y;exact⟨v,rfl,z⟩
def FD{K:af}{d e:D}(h:gO K a H [d,e] c):∃v u,c=[v,u]/\Rep K a H d v/\Rep K a H e u:=by obtain⟨v,r,rfl,z,y⟩:=h;obtain⟨u,rfl,w⟩:=sI y;exact⟨v,u,rfl,z,w⟩
def Xt(ha:JA X [a] tt)(hm:X.mg hY=am)(U:Gl X hY:=by rfl)(c:aV [a] X.env=[(ao,eval a X.env)]:=by rfl):JI X (.Tuple elts n x6) (.Call (.Name hY p) [a] [] pos) (lJ tt):=by
 refine⟨λC M P Q w q=>ha.mono C _ _ _ (λds M1 q=>?_) q,PI.weak (Xs U hm ha.p c) λb H Q q=>?_⟩
 .match ds,q with
  |[d],⟨items,e,q⟩=>exact⟨items,e,w _ _ _ q⟩
 .obtain⟨F,S,C,M,r,q⟩:=q;refine⟨F,S,C,M,r,ha.mono C _ _ _ (λds M1 q vs L H1 e1 E G=>?_) q⟩;match ds,q,G with
  |[d],⟨items,N,q⟩,G=>
   obtain⟨v,Y,O⟩:=sI G;subst Y;refine⟨v,rfl,GO E O N λk hk=>q _ L H1 H1 id e1 E (LO.refl E) ?_⟩;have key:∀m ii f g,L <+: ii->jC _ _->OK X.K m ii f g->vw g d=vw M1 d->∃h,k.seq X.K f h/\gO X.K ii _ items h:=λm ii f g u c j o=>
    Bw j (Rep.mono u c d v O) (by rw[o];exact N) (by rw[o];exact hk)
   refine⟨λi m ii f g u c j o hi=>?_,λi m ii f g x H2 d' u c j o hd I=>?_,λm ii f g u c j o=>?_⟩
   .obtain⟨h,z,A⟩:=key m ii f g u c j o;have hl:=gO.length _ _ A;rw[dB] at hi;exact⟨h,h[i]'(by lia),z,by simp⟩
   .obtain⟨h,z,A⟩:=key m ii f g u c j o;obtain⟨p,rfl,T,I⟩:=I;obtain⟨y,J,rfl⟩:=I h z;obtain⟨d2,e2,r2⟩:=gO.get' _ _ i y A J;rw[List.getElem?_mapIdx,e2] at hd;cases hd;obtain⟨o2,B⟩:=j.laid T;exact⟨o2,B,kH j T (gO.cons i5 (gO.one r2)) B⟩
   .obtain⟨h,z,A⟩:=key m ii f g u c j o;have hl:=gO.length _ _ A;exact⟨h,z,by rw[dB];lia⟩
def aah (tt:DA):DI:=λg M Q=>tt g M λds M1=>match ds with
 |[d,e]=>∃xs c,xi (vw M1 d)=aa xs/\xi (vw M1 e)=aa c/\Q (dj (λa b=>.tup [a,b]) xs c) (λf=>vw f d=vw M1 d/\vw f e=vw M1 e) M1
 |_=>False
def acl(ha:JA X [a,b] tt)(hm:X.mg hR=am)(hg:Gl X hR:=by rfl)(g:aV [a,b] X.env=[(ao,eval a X.env),(ao,eval b X.env)]:=by rfl)(WI:aV [b] X.env=[(ao,eval b X.env)]:=by rfl):
  JI X (.Tuple elts n x6) (.Call (.Name hR p) [a,b] [] pos) (aah tt):=by
 refine⟨λO M P Q w q=>ha.mono O _ _ _ (λds M1 q=>?_) q,PI.weak (ack hg hm ha.p g WI) λS H Q q=>?_⟩
 .match ds,q with
  |[d,e],⟨xs,h,e1,e2,q⟩=>exact⟨xs,h,e1,e2,w _ _ _ q⟩
 .obtain⟨F,W,O,M,r,q⟩:=q;refine⟨F,W,O,M,r,ha.mono O _ _ _ (λds M1 q vs Y H1 e1 T C=>?_) q⟩;match ds,q,C with
  |[d,d2],⟨items,acm,ei,E,q⟩,C=>
   obtain⟨v,u,rfl,C,U⟩:=FD C;refine⟨v,u,rfl,GO T C ei λk hk=>GO T U E λk2 hk2=>q _ Y H1 H1 id e1 T (LO.refl T) ?_⟩;have key:∀j ii c f,Y <+: ii->jC _ _->OK X.K j ii c f->vw f d=vw M1 d->∃h,k.seq X.K c h/\gO X.K ii _ items h:=λj ii c f A g m o=>
    Bw m (Rep.mono A g d v C) (by rw[o];exact ei) (by rw[o];exact hk)
   have B:∀j ii c f,Y <+: ii->jC _ _->OK X.K j ii c f->vw f d2=vw M1 d2->∃h,k2.seq X.K c h/\gO X.K ii _ acm h:=λj ii c f A g m o=>
    Bw m (Rep.mono A g d2 u U) (by rw[o];exact E) (by rw[o];exact hk2)
   refine⟨λi j ii c f A g m o hi=>?_,λi j ii c f x H2 d' A g m o hd hy=>?_,λj ii c f A g m o=>?_⟩
   .obtain⟨h,G,I⟩:=key j ii c f A g m o.1;obtain⟨zs,J,L⟩:=B j ii c f A g m o.2;have hl:=gO.length _ _ I;have SF:=gO.length _ _ L;rw[gk] at hi;exact⟨h,zs,h[i]'(by lia),zs[i]'(by lia),G,J,by simp,by simp⟩
   .obtain⟨h,G,I⟩:=key j ii c f A g m o.1;obtain⟨zs,J,L⟩:=B j ii c f A g m o.2;obtain⟨p,rfl,L4,hy⟩:=hy;obtain⟨y,z,hy1,hz1,rfl⟩:=hy h zs G J;obtain⟨x1,e2,U⟩:=gO.get' _ _ i y I hy1;obtain⟨x2,e3,r3⟩:=gO.get' _ _ i z L hz1;rw[ajC,e2,e3] at hd;cases hd;obtain⟨o2,N⟩:=m.laid L4;exact⟨o2,N,kH m L4 (gO.cons U (gO.one r3)) N⟩
   .obtain⟨h,G,I⟩:=key j ii c f A g m o.1;obtain⟨zs,J,L⟩:=B j ii c f A g m o.2;have hl:=gO.length _ _ I;have SF:=gO.length _ _ L;refine⟨h,zs,G,J,?_⟩;rw[gk];lia
noncomputable def A8(lo:Int)(n:Nat):List D:=(bY n).map λ(i:Nat)=>D.int (lo+(i:Int))
def aco{K:af}{M1:Ms}{lo:Int}:ab3 K F v H1 M1 (Itr lo n) (A8 lo n) λ_=>True:=by
 refine⟨λi f ii g h m o c q hi=>?_,λi f ii g h x w y m o c q hd r=>?_,λf ii g h m o c q=>?_⟩
 .show i<n;simpa[A8] using hi
 .obtain⟨rfl,rfl⟩:=r;unfold A8 at hd;rw[bn] at hd;cases e:(bY n)[i]? with
  |none=>rw[e] at hd;cases hd
  |some j=>
   rw[e] at hd;have:j=i:=by have:=au.mp e;obtain⟨z,u⟩:=this;simpa using u.symm
   subst this;cases hd;exact⟨c,Ext.refl,i5⟩
 .show n<=(A8 lo n).length;simp[A8]
def zD (tt:DA):DI:=λc M Q=>tt c M λds M1=>match ds with
 |[.int j]=>(-(2^62)<=j/\j<2^62)/\Q (A8 0 j.toNat) (λ_=>True) M1
 |_=>False
def P4(ha:JA X [a] tt)(hm:X.mg ky=am)(i:Gl X ky:=by rfl)(m:aV [a] X.env=[(ao,eval a X.env)]:=by rfl):JI X tg (.Call (.Name ky p) [a] [] pos) (zD tt):=by
 refine⟨λc M P Q w q=>ha.mono c _ _ _ (λds M1 q=>?_) q,PI.weak (Ps i hm ha.p m) λb H Q q=>?_⟩
 .match ds,q with
  |[.int j],⟨e,q⟩=>exact⟨e,w _ _ _ q⟩
 .obtain⟨F,n,c,M,r,q⟩:=q;refine⟨F,n,c,M,r,ha.mono c _ _ _ (λds M1 q z o H1 e1 g f=>?_) q⟩;match ds,q,f with
  |[.int j],⟨h,q⟩,f=>
   obtain⟨v,u,y⟩:=sI f;subst u;subst y;exact⟨j,rfl,h.1,h.2,q _ o H1 H1 id e1 g (LO.refl g) aco⟩
end
mutual
noncomputable def toP:D->cQ
 |.non=>.none
 |.bl b=>.bool b
 |.int i=>.int i
 |.str x=>.str x
 |.tup ds=>.tuple (toPs ds)
 |.lst ds=>.list (toPs ds)
 |.ty _|.jP _ _|.ins _ _ _|.exc _ _ _|.qO _|.loc _|.cls _=>.dict []
noncomputable def toPs:List D->List cQ
 |[]=>[]
 |d::ds=>toP d::toPs ds
end
mutual
noncomputable def pl:D->Bool
 |.non|.bl _|.int _=>ai
 |.str x=>cR x
 |.tup ds|.lst ds=>Bx ds
 |.ty _|.jP _ _|.ins _ _ _|.exc _ _ _|.qO _|.loc _|.cls _=>ao
noncomputable def Bx:List D->Bool
 |[]=>ai
 |d::ds=>pl d&&Bx ds
end
mutual
noncomputable def dp:D->Nat
 |.tup ds|.lst ds=>CC ds+1
 |.non|.bl _|.int _|.str _|.ty _|.jP _ _|.ins _ _ _|.exc _ _ _|.qO _|.loc _|.cls _=>0
noncomputable def CC:List D->Nat
 |[]=>0
 |d::ds=>max (dp d) (CC ds)
end
mutual
noncomputable def yq:D->D->Bool
 |.non,.non=>ai
 |.bl a,.bl b=>a==b
 |.bl a,.int j=>(if a then 1 else 0)==j
 |.int i,.bl b=>i==(if b then 1 else 0)
 |.int i,.int j=>i==j
 |.str x,.str y=>x==y
 |.lst xs,.lst c=>EJ xs c
 |.tup xs,.tup c=>EJ xs c
 |_,_=>ao
noncomputable def EJ:List D->List D->Bool
 |[],[]=>ai
 |x::xs,y::c=>yq x y&&EJ xs c
 |_,_=>ao
end
mutual
theorem toP_lay:∀d:D,pl d=ai->(toP d).canLay0=ai
 |.non,_=>rfl
 |.bl _,_=>rfl
 |.int _,_=>rfl
 |.str _,h=>by unfold toP;unfold pl at h;simpa[cQ.canLay0] using h
 |.tup ds,h=>by unfold toP;unfold pl at h;simp[cQ.canLay0,toPs_lay ds h]
 |.lst ds,h=>by unfold toP;unfold pl at h;simp[cQ.canLay0,toPs_lay ds h]
 |.ty _,h|.jP _ _,h|.ins _ _ _,h|.exc _ _ _,h|.qO _,h|.loc _,h|.cls _,h=>by unfold pl at h;cases h
theorem toPs_lay:∀ds:List D,Bx ds=ai->cQ.canLayAll0 (toPs ds)=ai
 |[],_=>by unfold toPs;rfl
 |d::ds,h=>by unfold Bx at h;rw[aU] at h;unfold toPs;simp[cQ.canLayAll0,toP_lay d h.1,toPs_lay ds h.2]
end
mutual
theorem toP_depth:∀d:D,(toP d).depth<=dp d+1
 |.non|.bl _|.int _|.str _=>by unfold toP;simp[cQ.depth]
 |.tup ds=>by unfold toP dp;have:=toPs_depth ds;simp only [cQ.depth];lia
 |.lst ds=>by unfold toP dp;have:=toPs_depth ds;simp only [cQ.depth];lia
 |.ty _|.jP _ _|.ins _ _ _|.exc _ _ _|.qO _|.loc _|.cls _=>by unfold toP;simp[cQ.depth,cQ.depthKv]
theorem toPs_depth:∀ds:List D,cQ.depthAll (toPs ds)<=CC ds+1
 |[]=>by unfold toPs;simp[cQ.depthAll]
 |d::ds=>by unfold toPs CC;have a:=toP_depth d;have b:=toPs_depth ds;simp only [cQ.depthAll];lia
end
set_option tactic.hygienic true in
mutual
theorem toP_eqv:∀x y:D,pl x=ai->pl y=ai->(toP x).eqv (toP y)=yq x y
 |.non,y,_,h=>by cases y<;>first|(unfold pl at h;cases h;done)|(unfold toP yq;rfl)
 |.bl a,y,_,h=>by cases y<;>first|(unfold pl at h;cases h;done)|(unfold toP yq;rfl)
 |.int a,y,_,h=>by cases y<;>first|(unfold pl at h;cases h;done)|(unfold toP yq;rfl)
 |.str a,y,_,h=>by cases y<;>first|(unfold pl at h;cases h;done)|(unfold toP yq;rfl)
 |.tup xs,y,g,h=>by
  cases y<;>first|(unfold pl at h;cases h;done)|skip
  case tup b=>unfold pl at g h;unfold toP yq;simp only [cQ.eqv];exact toPs_eqv xs b g h
  all_goals unfold toP yq;rfl
 |.lst xs,y,g,h=>by
  cases y<;>first|(unfold pl at h;cases h;done)|skip
  case lst b=>unfold pl at g h;unfold toP yq;simp only [cQ.eqv];exact toPs_eqv xs b g h
  all_goals unfold toP yq;rfl
 |.ty _,_,g,_|.jP _ _,_,g,_|.ins _ _ _,_,g,_|.exc _ _ _,_,g,_|.qO _,_,g,_|.loc _,_,g,_|.cls _,_,g,_=>by unfold pl at g;cases g
theorem toPs_eqv:∀x y:List D,Bx x=ai->Bx y=ai->cQ.eqvAll (toPs x) (toPs y)=EJ x y
 |[],[],_,_=>by unfold toPs EJ;rfl
 |[],y::b,_,_=>by unfold toPs EJ;rfl
 |x::xs,[],_,_=>by unfold toPs EJ;rfl
 |x::xs,y::b,g,h=>by unfold Bx at g h;rw[aU] at g h;unfold toPs EJ;simp only [cQ.eqvAll];rw[toP_eqv x y g.1 h.1,toPs_eqv xs b g.2 h.2]
end
mutual
theorem Rep.reads {X:Cx} {cf:List (ar×cn)} {σ:L2.St} {H:Hp} {s:aq} {α:List ar} (I:Inv X cf σ H s):∀(d:D) (x:V) (v:ah),Rep X.K α H d x->RelV x v->pl d=ai->∃as,Reads s.heap v (toP d) as
 |.non,x,v,h,r,_=>by unfold Rep at h;subst h;cases r;unfold toP;exact⟨_,.none⟩
 |.bl _,x,v,h,r,_=>by unfold Rep at h;subst h;cases r;unfold toP;exact⟨_,.bool _⟩
 |.int _,x,v,h,r,_=>by unfold Rep at h;subst h;obtain⟨t,rfl⟩:=r;unfold toP;exact⟨_,.int _ _⟩
 |.str _,x,v,h,r,_=>by unfold Rep at h;subst h;obtain⟨t,rfl⟩:=r;unfold toP;exact⟨_,.str _ _⟩
 |.tup ds,x,v,h,r,c=>by unfold Rep at h;obtain⟨a,b,rfl,q,z⟩:=h;cases r;obtain⟨ig,f,⟨o,e,cl,n,dd⟩,_⟩:=I.tuple q;obtain⟨as,w⟩:=gO.reads I ds b ig z f (by unfold pl at c;exact c);unfold toP;exact⟨_,.tuple e cl dd (by simpa using w)⟩
 |.lst ds,x,v,h,r,c=>by unfold Rep at h;obtain⟨a,b,rfl,q,z⟩:=h;cases r;obtain⟨_,ig,n,f,e⟩:=I.iC a _ q;obtain⟨as,w⟩:=gO.reads I ds b ig z f (by unfold pl at c;exact c);unfold toP;exact⟨_,.list e rfl rfl (by simpa using w)⟩
 |.ty _,x,v,h,r,c|.jP _ _,x,v,h,r,c|.ins _ _ _,x,v,h,r,c|.exc _ _ _,x,v,h,r,c|.qO _,x,v,h,r,c|.loc _,x,v,h,r,c|.cls _,x,v,h,r,c=>by unfold pl at c;cases c
theorem gO.reads {X:Cx} {cf:List (ar×cn)} {σ:L2.St} {H:Hp} {s:aq} {α:List ar} (I:Inv X cf σ H s):∀(ds:List D) (xs:List V) (b:List ah),gO X.K α H ds xs->Vals xs b->Bx ds=ai->∃as,ReadsAll s.heap b (toPs ds) as
 |[],xs,b,h,r,_=>by unfold gO at h;subst h;cases r;unfold toPs;exact⟨_,.nil⟩
 |d::ds,xs,b,h,r,c=>by
  unfold gO at h;obtain⟨x,g,rfl,q,z⟩:=h;unfold Bx at c;rw[aU] at c;unfold toPs;cases r with
  |cons i j=>
   obtain⟨as,m⟩:=Rep.reads I d x _ q i c.1;obtain⟨bs,p⟩:=gO.reads I ds g _ z j c.2;exact⟨_,.cons m p⟩
end
def pV(h:pl d=ai)(hd:dp d<=60):SeqAt.shaped (toP d)=ai:=by unfold SeqAt.shaped;have:=toP_depth d;rw[toP_lay d h];exact decide_eq_true (by lia)
section
variable {X:Cx}
def okE (x y:D):Prop:=pl x=ai/\pl y=ai/\dp x<=60/\dp y<=60
def L5 (x y:D)(Q:Bool->Prop):Prop:=match x,y with
 |.str a,.str b=>Q (a==b)
 |.int a,.int b=>Q (a==b)
 |x,y=>okE x y/\Q (yq x y)
def FE(w:∀b,P b->Q b)(h:L5 x y P):L5 x y Q:=by
 unfold L5 at h |-;split<;>simp only at h
 .exact w _ h
 .exact w _ h
 .exact⟨h.1,w _ h.2⟩
def nQ:G2:=λx y M Q=>L5 (vw M x) (vw M y) λb=>Q (.bl b) M
def IY:G2:=λx y M Q=>L5 (vw M x) (vw M y) λb=>Q (.bl (!b)) M
set_option tactic.hygienic true in
def N8(p:X.A.units+64<gw)(I:L2.Inv X cf J H s)(f:RelV x v)(g:RelV y u)(o:OK X.K F L H M)
(m:Rep X.K L (jk F L M H) E x)(n:Rep X.K L (jk F L M H) G y)(h:L5 (vw M E) (vw M G) C)(neg:Bool)(c:∀b,C b->Q (.bl (if neg then !b else b)) H):
  wpAny (model X.prog X.w) X.A (compareOp (if neg then .NotEq else .Eq) v u) (EP X cf J Q) X.xe s:=by
 unfold L5 at h;split at h
 .rename_i a b e1 e2;cases mM e1;cases mM e2;subst m n;have e:decide _=(a==b):=Gm;cases neg with
  |false=>exact ZQ cf s J H _ _ v u Q I f g ⟨rfl,by rw[e];exact c _ h⟩
  |true=>exact ZR cf s J H _ _ v u Q I f g ⟨rfl,by rw[e];exact c _ h⟩
 .rename_i a b e1 e2;cases xa e1;cases xa e2;subst m n;have e:decide _=(a==b):=Gk;cases neg with
  |false=>exact ZQ cf s J H _ _ v u Q I f g ⟨rfl,by rw[e];exact c _ h⟩
  |true=>exact ZR cf s J H _ _ v u Q I f g ⟨rfl,by rw[e];exact c _ h⟩
 .obtain⟨⟨i,j,q,r⟩,h⟩:=h;obtain⟨as,z⟩:=Rep.reads I _ x v (Rep.mono (bc _) ib _ _ (zx o _ _ m)) f i;obtain⟨bs,B⟩:=Rep.reads I _ y u (Rep.mono (bc _) ib _ _ (zx o _ _ n)) g j;cases neg with
  |false=>
   refine eq_dataH z B (pV i q) (pV j r) p ⟨.bl _,H,I,rfl,?_⟩;rw[toP_eqv _ _ i j];exact c _ h
  |true=>
   refine ne_dataH z B (pV i q) (pV j r) p ⟨.bl _,H,I,rfl,?_⟩;rw[toP_eqv _ _ i j];exact c _ h
def aai(a:X.A.units+64<gw):JC X .Eq nQ:=by refine⟨λx y M P Q w q=>FE (λb q=>w _ _ q) q,λcf s m H x y v u Q I c e h=>?_⟩;obtain⟨F,n,M,i,j,o,f,g,h⟩:=h;exact N8 a I c e o f g h ao λb q=>vK.now o q iZ
def afC(a:X.A.units+64<gw):JC X .NotEq IY:=by refine⟨λx y M P Q w q=>FE (λb q=>w _ _ q) q,λcf s m H x y v u Q I c e h=>?_⟩;obtain⟨F,n,M,i,j,o,f,g,h⟩:=h;exact N8 a I c e o f g h ai λb q=>vK.now o q iZ
noncomputable def fl:D->Bool
 |.non|.bl _|.int _|.str _=>ai
 |_=>ao
noncomputable def vOf:D->V
 |.bl b=>.bl b
 |.int i=>.int i
 |.str x=>.str x
 |_=>.non
def CD{K:af}(h:fl d=ai)(r:Rep K a H d v):v=vOf d/\wM v=ai:=by
 cases d<;>first|(cases h;done)|skip
 all_goals subst r;exact⟨rfl,rfl⟩
def afD(h:fl x=ai)(g:fl y=ai):WW (vOf x) (vOf y)=yq x y:=by
 cases x<;>first|(cases h;done)|skip
 all_goals cases y<;>first|(cases g;done)|(rfl)
theorem yr{K:af}(b:fl x=ai):∀(ds:List D) (a:List V),ds.all fl=ai->gO K f H ds a->a.all wM=ai/\inV (vOf x) a=ds.any λy=>yq y x
 |[],a,_,h=>by subst h;exact⟨rfl,rfl⟩
 |d::ds,a,g,h=>by obtain⟨v,r,rfl,z,y⟩:=h;rw[dm,aU] at g;obtain⟨e,c⟩:=yr b ds r g.2 y;obtain⟨e1,e2⟩:=CD g.1 z;subst e1;refine⟨by rw[dm,e2,e];rfl,?_⟩;unfold inV at c |-;rw[dN,dN,afD g.1 b,c]
def AE{K:af}(h:gO K m H ds b)(c:a.length=ds.length):(rM (a.zip b) k).isSome=(oB k a ds).isSome:=by
 obtain⟨f,g⟩:=yo a ds b h c;cases e:oB k a ds with
 |none=>rw[g e];rfl
 |some d=>obtain⟨j,i,_⟩:=f d e;rw[i];rfl
noncomputable def inD(x y:D):Option Bool:=match y with
 |.lst ds=>if(fl x&&ds.all fl)=ai then aa (ds.any λy=>yq y x) else am
 |.tup ds=>if(fl x&&ds.all fl)=ai then aa (ds.any λy=>yq y x) else am
 |.str j=>match x with
  |.str i=>aa (!(gu j i 0 j.length 1).isEmpty)
  |_=>am
 |.jP a ds=>match IT x with
  |some k=>aa (oB k a ds).isSome
  |none=>am
 |_=>am
def By (neg:Bool):G2:=λx y M Q=>∃b,inD x (vw M y)=aa b/\Q (.bl (if neg then !b else b)) M
def IZ:Ay (By neg):=by
 rintro x y M P Q w ⟨b,e,q⟩
 exact⟨b,e,w _ _ q⟩
set_option tactic.hygienic true in
def afE(B:X.A.units+1<gw):JC X .In (By ao):=by
 refine⟨IZ,λcf s K H x y v u Q I f g h=>?_⟩;obtain⟨F,O,M,C,E,o,i,j,b,c,h⟩:=h;generalize e1:vw M E=z at c;unfold inD at c;cases z<;>first|(cases c;done)|skip
 .have e2:=mM e1;subst e2;subst j;cases C<;>first|(cases c;done)|skip
  subst i;cases c;exact Py cf s K H _ _ v u Q I f g ⟨_,_,rfl,rfl,vK.now o h iZ⟩
 .obtain⟨a,m,rfl,q,e⟩:=mN o j e1;simp only at c;split at c
  .rename_i hc;rw[aU] at hc;cases c;obtain⟨n,p⟩:=CD hc.1 i;obtain⟨r,w⟩:=yr hc.1 _ _ hc.2 e;refine Ft cf s K H _ _ v u Q I f g ⟨a,m,rfl,.inr q,p,r,?_⟩;subst n;rw[w];exact vK.now o h iZ
  .cases c
 .obtain⟨a,m,rfl,q,e⟩:=jg o j e1;simp only at c;split at c
  .rename_i hc;rw[aU] at hc;cases c;obtain⟨n,p⟩:=CD hc.1 i;obtain⟨r,w⟩:=yr hc.1 _ _ hc.2 e;refine Ft cf s K H _ _ v u Q I f g ⟨a,m,rfl,.inl (nr.of q),p,r,?_⟩;subst n;rw[w];exact vK.now o h iZ
  .cases c
 .obtain⟨a,m,rfl,q,G,e⟩:=w9 o j e1;simp only at c;split at c
  .rename_i k J;cases c;cases sH i J;obtain rfl:u=bI a:=g;refine ahU B I (yc.kr q) f λN L=>⟨.bl _,H,L,rfl,?_⟩;rw[AE e G];exact vK.now o h iZ
  .cases c
set_option tactic.hygienic true in
def Tx(B:X.A.units+1<gw):JC X .NotIn (By ai):=by
 refine⟨IZ,λcf s K H x y v u Q I f g h=>?_⟩;obtain⟨F,O,M,C,E,o,i,j,b,c,h⟩:=h;generalize e1:vw M E=z at c;unfold inD at c;cases z<;>first|(cases c;done)|skip
 .have e2:=mM e1;subst e2;subst j;cases C<;>first|(cases c;done)|skip
  subst i;cases c;exact Gn cf s K H _ _ v u Q I f g ⟨_,_,rfl,rfl,vK.now o h iZ⟩
 .obtain⟨a,m,rfl,q,e⟩:=mN o j e1;simp only at c;split at c
  .rename_i hc;rw[aU] at hc;cases c;obtain⟨n,p⟩:=CD hc.1 i;obtain⟨r,w⟩:=yr hc.1 _ _ hc.2 e;refine yf cf s K H _ _ v u Q I f g ⟨a,m,rfl,.inr q,p,r,?_⟩;subst n;rw[w];exact vK.now o h iZ
  .cases c
 .obtain⟨a,m,rfl,q,e⟩:=jg o j e1;simp only at c;split at c
  .rename_i hc;rw[aU] at hc;cases c;obtain⟨n,p⟩:=CD hc.1 i;obtain⟨r,w⟩:=yr hc.1 _ _ hc.2 e;refine yf cf s K H _ _ v u Q I f g ⟨a,m,rfl,.inl (nr.of q),p,r,?_⟩;subst n;rw[w];exact vK.now o h iZ
  .cases c
 .obtain⟨a,m,rfl,q,G,e⟩:=w9 o j e1;simp only at c;split at c
  .rename_i k J;cases c;cases sH i J;obtain rfl:u=bI a:=g;refine WM B I (yc.kr q) f λN L=>⟨.bl _,H,L,rfl,?_⟩;rw[AE e G];exact vK.now o h iZ
  .cases c
end
section
variable {X:Cx} {rest:List bv} {x:aB}
abbrev DO:=nC->Ms->(Option Int->Ms->Prop)->Prop
def lO (K:af)(t:DO):TO:=λa H Q=>∃F b g M,R K F b H a g M/\t g M λi h=>∀ii f,Ext F b H M ii f h->OK K F ii f h->Q i f
structure JOp(X:Cx)(e:Option bv)(t:DO):Prop where
 mono:∀δ M (P Q:Option Int->Ms->Prop),(∀d M,P d M->Q d M)->t δ M P->t δ M Q
 p:PO X e (lO X.K t)
def PO.weak{e:Option bv}{t f:TO}(h:PO X e t)(w:∀σ H Q,f σ H Q->t σ H Q):PO X e f:=by intro cf s σ H Q I q;exact h cf s σ H Q I (w σ H Q q)
def j0:DO:=λ_ M Q=>Q am M
def my (te:DE):DO:=λf M Q=>te f M λd M1=>match d with|.int i=>Q (aa i) M1|_=>False
def Tz:JOp X am j0:=⟨λf M P Q w q=>w _ _ q,PO.weak WS λa H Q zq=>by obtain⟨F,b,f,M,r,q⟩:=zq;exact q b H Ext.refl r.ok⟩
def TD(h:JE X e te):JOp X (aa e) (my te):=by
 refine⟨λf M P Q w q=>h.mono f _ _ _ (λd M1 q=>?_) q,PO.weak (WT h.p) λa H Q q=>?_⟩
 .cases d<;>first|exact q.elim|exact w _ _ q
 .obtain⟨F,b,f,M,r,q⟩:=q;refine⟨F,b,f,M,r,h.mono f _ _ _ (λd M1 q v i H1 e1 j g=>?_) q⟩;cases d<;>first|exact q.elim|skip
  unfold Rep at g;exact⟨_,g,q i H1 e1 j⟩
def Ja (te:DE)(tl th:DO):DE:=λg M Q=>te g M λd M1=>tl g M1 λlo M2=>th g M2 λhi f=>match vw f d with
 |.lst xs=>Q (.lst (cutD xs lo hi)) f
 |.qO xs=>Q (.lst (cutD (xs.map D.int) lo hi)) f
 |.tup xs=>¬(HT.oQ xs.length 0 lo=0/\HT.oQ xs.length xs.length hi=xs.length)/\Q (.tup (cutD xs lo hi)) f
 |.str z=>z.length<=az/\Q (.str (Txt.slice z lo hi)) f
 |_=>False
def aio{lo hi:Option bv}{tl th:DO}(G:JE X e te)(u:JOp X lo tl)(I:JOp X hi th):JE X (.Subscript e (.Slice lo hi am p2) pos) (Ja te tl th):=by
 refine⟨λg M P Q w q=>G.mono g _ _ _ (λd M1 q=>u.mono g _ _ _ (λi M2 q=>I.mono g _ _ _ (λj f q=>?_) q) q) q,PE.weak (Sy (WV.or (abB.or abP)) G.p u.p I.p) λb H Q q=>?_⟩
 .generalize vw f d=z at q |-;cases z<;>first|exact q.elim|exact w _ _ q|exact⟨q.1,w _ _ q.2⟩
 .obtain⟨F,S,g,M,r,q⟩:=q;refine⟨F,S,g,M,r,G.mono g _ _ _ (λd M1 q v L H1 e1 N O=>⟨F,L,g,M1,r.grow e1 N,u.mono g _ _ _ (λi M2 q T Y e2 U=>⟨F,T,g,M2,r.grow (e1.trans e2) U,I.mono g _ _ _ (λj f q A B e3 h=>?_) q⟩) q⟩) q⟩;have wP:=(e1.trans e2).trans e3;have o:=(e2.trans e3).rep O;have m:(match vw f d with
   |.lst xs=>vK X.K F A B f Q (.lst (cutD xs i j)) f
   |.qO xs=>vK X.K F A B f Q (.lst (cutD (xs.map D.int) i j)) f
   |.tup xs=>¬(HT.oQ xs.length 0 i=0/\HT.oQ xs.length xs.length j=xs.length)/\vK X.K F A B f Q (.tup (cutD xs i j)) f
   |.str z=>z.length<=az/\vK X.K F A B f Q (.str (Txt.slice z i j)) f
   |_=>False):=by generalize vw f d=z at q |-;cases z<;>first|exact q.elim|exact vK.grow wP _ _ q|exact⟨q.1,vK.grow wP _ _ q.2⟩
  clear q;generalize C:vw f d=z at m;cases z<;>first|exact m.elim|skip
  .cases mM C;unfold Rep at o;exact .inr (.inr ⟨_,o,m.1,vK.now h m.2 pC⟩)
  .obtain⟨a,J,rfl,y,E⟩:=mN h o C;have u:=gO.length _ _ E;refine .inr (.inl ⟨a,J,rfl,y,by rw[<-u];exact m.1,λp n=>vK.new h n m.2 (kH h n (gO.cut E i j))⟩)
  .obtain⟨a,J,rfl,y,E⟩:=jg h o C;exact .inl ⟨a,J,rfl,nr.of y,λp n=>vK.new h n m (mx h n (gO.cut E i j))⟩
  .cases u0 C;unfold Rep at o;obtain⟨a,rfl,y⟩:=o;refine .inl ⟨a,_,rfl,kb ib y,λp n=>vK.new h n m (mx h n (gO.cut (gO.of_map _ _ (λc=>i5) _) i j))⟩
def Jb (te:DE):DE:=λf M Q=>te f M λd M1=>match d with|.int i=>Q (.int (-i)) M1|_=>False
def afF(h:JE X e te):JE X (.UnaryOp .USub e pos) (Jb te):=by
 refine⟨λf M P Q w q=>h.mono f _ _ _ (λd M1 q=>?_) q,PE.weak (aeK abr h.p) λa H Q q=>?_⟩
 .cases d<;>first|exact q.elim|exact w _ _ q
 .obtain⟨F,b,f,M,r,q⟩:=q;refine⟨F,b,f,M,r,h.mono f _ _ _ (λd M1 q v i H1 e1 j g=>?_) q⟩;cases d<;>first|exact q.elim|skip
  unfold Rep at g;exact⟨_,g,q _ i H1 e1 j i5⟩
def zE:G2:=λx y M Q=>match vw M x,y with
 |.int i,.int j=>Pw i j/\Q (.int (i*j)) M
 |.lst xs,.int k=>(-(2^63)<=k/\k<2^63/\xs.length*k.toNat<=az)/\Q (.lst (bQ k.toNat xs).flatten) M
 |.str z,.int k=>MulOk z k/\Q (.str (Txt.mul z k)) M
 |_,_=>False
def L6:sY X (binaryOp .Mult) (λx y H Q=>∃z k,x=.str z/\y=.int k/\MulOk z k/\Q (.str (Txt.mul z k)) H):=by intro cf s a H x y v u Q I f g h;obtain⟨z,k,rfl,rfl,ok,q⟩:=h;obtain⟨t,rfl⟩:=f;obtain⟨i,rfl⟩:=g;exact SB.mul ok λi k=>⟨.str _,H,I.tok _,⟨_,rfl⟩,q⟩
def acp:JO X .Mult zE:=by
 refine⟨λx y M P Q w q=>?_,λcf s b H x y v u Q I i j h=>?_⟩
 .unfold zE at q |-;generalize vw M x=a at q |-;split at q<;>first|exact q.elim|exact⟨q.1,w _ _ q.2⟩
 .obtain⟨F,c,M,r,C,o,g,f,h⟩:=h;unfold zE at h;generalize e1:vw M r=a at h;split at h<;>first|exact h.elim|skip
  .cases xa e1;unfold Rep at g f;exact abo cf s b H x y v u Q I i j ⟨_,_,g,f,h.1,vK.now o h.2 i5⟩
  .obtain⟨a,z,rfl,A,m⟩:=jg o g e1;unfold Rep at f;subst f;have B:=gO.length _ _ m;exact abL cf s b H _ _ v u Q I i j ⟨a,_,z,rfl,rfl,A,h.1.1,h.1.2.1,by rw[<-B];exact h.1.2.2,λp n=>vK.new o n h.2 (mx o n (gO.rep m _))⟩
  .cases mM e1;unfold Rep at g f;exact L6 cf s b H x y v u Q I i j ⟨_,_,g,f,h.1,vK.now o h.2 pC⟩
noncomputable def afG:D->Option Nat
 |.lst ds=>aa ds.length
 |.tup ds=>aa ds.length
 |.qO ns=>aa ns.length
 |.str z=>if z.length<=az then aa z.length else am
 |.jP f _=>aa f.length
 |_=>am
def oU:GN:=λds M Q=>match ds with
 |[d]=>∃n:Nat,afG (vw M d)=aa n/\Q (.int n) M
 |_=>False
set_option tactic.hygienic true in
def acq:JB X (.builtin kI) oU:=by
 refine⟨λds M P Q w q=>?_,λcf s b H xs us Q I rs h=>?_⟩
 .match ds,q with
  |[d],⟨n,e,q⟩=>exact⟨n,e,w _ _ q⟩
 .obtain⟨F,c,M,ds,o,r,h⟩:=h;match ds,h,r with
  |[d],⟨n,en,q⟩,r=>
   obtain⟨v,C,f⟩:=sI r;subst C;generalize e1:vw M d=z at en;cases z<;>first|(cases en;done)|skip
   .cases mM e1;unfold Rep at f;subst f;rename_i y _;have en:(if y.length<=az then aa y.length else am)=aa n:=en;by_cases u:y.length<=az
    .rw[if_pos u] at en;cases en;exact Gx cf s b H _ us Q I rs ⟨_,rfl,u,vK.now o q i5⟩
    .rw[if_neg u] at en;cases en
   .cases en;obtain⟨a,m,rfl,g,i⟩:=mN o f e1;have j:=gO.length _ _ i;refine tG cf s b H _ us Q I rs ⟨a,m,rfl,.inr g,?_⟩;rw[<-j];exact vK.now o q i5
   .cases en;obtain⟨a,m,rfl,g,i⟩:=jg o f e1;have j:=gO.length _ _ i;refine tG cf s b H _ us Q I rs ⟨a,m,rfl,.inl (nr.of g),?_⟩;rw[<-j];exact vK.now o q i5
   .cases en;obtain⟨a,m,rfl,g,B,i⟩:=w9 o f e1;have j:=gO.length _ _ i;obtain⟨G,rfl,A⟩:=vals1 rs;cases A;refine aeS I g λt J E=>⟨.int _,H,E,⟨t,rfl⟩,?_⟩;rw[dJ,<-j,B,ajA,<-B];exact vK.now o q i5
   .cases u0 e1;cases en;unfold Rep at f;obtain⟨a,rfl,g⟩:=f;refine tG cf s b H _ us Q I rs ⟨a,_,rfl,.inl (kb ib g),?_⟩;rw[ak];exact vK.now o q i5
def P5:GN:=λds M Q=>match ds with
 |[d]=>∃bs:List Bool,vw M d=.lst (bs.map D.bl)/\Q (.bl (bs.all id)) M
 |_=>False
theorem Jc{K:af}{a:List ar}{H:Hp}:∀(bs:List Bool) (f:List V),gO K a H (bs.map D.bl) f->f=bs.map V.bl
 |[],f,h=>by unfold gO at h;exact h
 |b::bs,f,h=>by rw[aZ] at h;unfold gO at h;obtain⟨v,r,rfl,z,y⟩:=h;unfold Rep at z;subst z;rw[Jc bs r y];rfl
def acr(hc:X.calm=ai:=by rfl):JB X (.builtin "all") P5:=by
 refine⟨λds M P Q w q=>?_,λcf s b H xs us Q I rs h=>?_⟩
 .match ds,q with
  |[d],⟨n,e,q⟩=>exact⟨n,e,w _ _ q⟩
 .obtain⟨F,c,M,ds,o,f,h⟩:=h;match ds,h,f with
  |[d],⟨bs,en,q⟩,f=>
   obtain⟨v,g,i⟩:=sI f;subst g;obtain⟨a,j,rfl,m,r⟩:=jg o i en;have:=Jc bs j r;subst this;exact SM hc cf s b H _ us Q I rs ⟨a,bs,rfl,nr.of m,vK.now o q iZ⟩
noncomputable def kd:D->Option String
 |.non=>aa oP
 |.bl _=>aa jd
 |.int _=>aa ic
 |.str _=>aa hX
 |.tup _=>aa dy
 |.lst _|.qO _=>aa ap
 |.jP _ _=>aa fe
 |_=>am
noncomputable def isK(k n:String):Option Bool:=if([ic,jd,hX,dy,ap,fe].contains n&&[oP,jd,ic,hX,dy,ap,fe].contains k)=ai then aa (k==n||(k==jd&&n==ic)) else am
noncomputable def EA(n:String)(d:D):Option Bool:=match kd d with
 |some k=>isK k n
 |none=>am
def Xu{K:af}:([ic,jd,hX,dy,ap,fe].all λn=>[oP,jd,ic,hX,dy,ap,fe].all λk=>bb K (.type k) (.type n)==isK k n)=ai:=rfl
set_option tactic.hygienic true in
def Xv{K:af}{k n:String}{b:Bool}(h:isK k n=aa b):bb K (.type k) (.type n)=aa b:=by
 have f:=h;unfold isK at h;split at h
 .rename_i hc;rw[aU,List.contains_iff_mem,List.contains_iff_mem] at hc;rw[eq_of_beq (bG.mp (bG.mp (Xu (K:=K)) n hc.1) k hc.2),f]
 .cases h
structure N9(K:af)(C:ar):Prop where
 cl:Ls K C
 ha:aF K (.ref C) mu=aa (aa (.builtin im))
 hn:W.specialIn K (.builtin im) pu=aa (aa (.builtin pw))
 htk:W.takesIn K (.builtin im)=aa ai
 hm:W.mroIn K C (.type ix)=aa ai
noncomputable def tyv:D->Option ah
 |.non=>aa (.type oP)
 |.bl _=>aa (.type jd)
 |.int _=>aa (.type ic)
 |.str _=>aa (.type hX)
 |.tup _=>aa (.type dy)
 |.lst _|.qO _=>aa (.type ap)
 |.jP _ _=>aa (.type fe)
 |.ins C _ _=>aa (.ref C)
 |_=>am
def Xw{K:af}{n:String}{d:D}{b:Bool}(h:EA n d=aa b):∃t,tyv d=aa t/\bb K t (.type n)=aa b/\∀C ns es,d≠.ins C ns es:=by cases d<;>first|(cases h;done)|exact⟨_,rfl,Xv h,λ_ _ _ z=>by cases z⟩
set_option tactic.hygienic true in
def Jd{cf:List (ar×cn)}{s:aq}{b:L2.St}{H:Hp}(I:L2.Inv X cf b H s){F p:List ar}{M:Ms}{d:D}{x:V}{u t c:ah}{B:Bool}{Q:ah->aq->Prop}(o:OK X.K F p H M)(r:Rep X.K p (jk F p M H) d x)(g:RelV x u)
(f:tyv (vw M d)=aa t)(hi:∀C ns es,vw M d=.ins C ns es->N9 X.K C)(e:bb X.K t c=aa B)(h:∀tk,Q (.bool B) {s with toks:=tk}):wpAny (model X.prog X.w) X.A (call (.builtin mv) [u,c]) Q X.xe s:=by
 generalize e1:vw M d=z at f hi;cases z<;>first|(cases f;done)|skip
 case non=>
  have:d=.non:=by cases d with
   |loc k=>rcases rP e1 with e|⟨y,E,e⟩<;>first|cases e|(cases y<;>cases e)
   |_=>exact e1
  subst this;unfold Rep at r;subst r;cases f;exact pU I g .non e h
 case bl G=>
  have:d=.bl G:=by cases d with
   |loc k=>rcases rP e1 with e|⟨y,E,e⟩<;>first|cases e|(cases y<;>cases e)
   |_=>exact e1
  subst this;unfold Rep at r;subst r;cases f;exact pU I g (.bl _) e h
 case int=>
  cases xa e1;unfold Rep at r;subst r;cases f;exact pU I g (.int _) e h
 case str=>
  cases mM e1;unfold Rep at r;subst r;cases f;exact pU I g (.str _) e h
 case tup=>
  cases f;obtain⟨a,q,rfl,i,v⟩:=mN o r e1;obtain rfl:u=bI a:=g;obtain⟨ig,J,⟨ob,j,m,_⟩,_⟩:=I.tuple i;exact W.kia_one W.kitx_tuple I.qG ⟨ob,j,m⟩ e (λz=>nomatch z) h
 case lst=>
  cases f;obtain⟨a,q,rfl,i,v⟩:=jg o r e1;exact pU I g (.lst i) e h
 case jP=>
  cases f;obtain⟨a,q,rfl,i,L,v⟩:=w9 o r e1;obtain rfl:u=bI a:=g;obtain⟨_,_,N,_,ob,_,_,j,m,_⟩:=Av I.iC i;exact W.kia_one W.kitx_dict I.qG ⟨ob,j,m.1⟩ e (λz=>nomatch z) h
 case ins=>
  cases f;obtain⟨a,O,q,rfl,i,L,v⟩:=LR o r e1;have k:=hi _ _ _ rfl;exact pU I g (.ins i k.cl k.ha k.hn k.htk k.hm) e h
 case qO=>
  cases f;cases u0 e1;unfold Rep at r;obtain⟨a,rfl,i⟩:=r;obtain rfl:u=bI a:=g;obtain⟨ig,J,⟨ob,n,j,m,_⟩,_⟩:=I.list (kb ib i);exact W.kia_one W.kitx_list I.qG ⟨ob,j,m⟩ e (λz=>nomatch z) h
def kY (K:af):GN:=λds M Q=>match ds with
 |[d,.ty n]=>∃b,EA n (vw M d)=aa b/\Q (.bl b) M
 |[d,.cls C]=>∃t b,tyv (vw M d)=aa t/\(∀C ns es,vw M d=.ins C ns es->N9 K C)/\bb K t (.ref C)=aa b/\Q (.bl b) M
 |_=>False
def TK:JB X (.builtin mv) (kY X.K):=by
 refine⟨λds M P Q w q=>?_,λcf s a H xs us Q I rs h=>?_⟩
 .match ds,q with
  |[d,.ty n],⟨b,e,q⟩=>exact⟨b,e,w _ _ q⟩
  |[d,.cls n],⟨t,b,e1,e2,e3,q⟩=>exact⟨t,b,e1,e2,e3,w _ _ q⟩
 .obtain⟨F,c,M,ds,o,f,h⟩:=h;match ds,h,f with
  |[d,.ty n],⟨b,e,q⟩,f=>
   obtain⟨v,u,i,j,g⟩:=FD f;subst i;unfold Rep at g;subst g;obtain⟨A,m,rfl,r,y⟩:=vals2 rs;obtain rfl:m=eN n:=y;obtain⟨t,e1,e2,e3⟩:=Xw (K:=X.K) e;exact Jd I o j r e1 (λC ns es z=>absurd z (e3 C ns es)) e2 λtk=>⟨.bl b,H,I.tok tk,rfl,vK.now o q iZ⟩
  |[d,.cls C],⟨t,b,e1,e2,e3,q⟩,f=>
   obtain⟨v,u,i,j,g⟩:=FD f;subst i;unfold Rep at g;subst g;obtain⟨A,m,rfl,r,y⟩:=vals2 rs;obtain rfl:m=bI C:=y;exact Jd I o j r e1 e2 e3 λtk=>⟨.bl b,H,I.tok tk,rfl,vK.now o q iZ⟩
def GQ:GN:=λds M Q=>match ds with
 |[d]=>match vw M d with
  |.lst xs=>Q (.tup xs) M
  |.tup xs=>Q (.tup xs) M
  |_=>False
 |_=>False
def Je:JB X (.type dy) GQ:=by
 refine⟨λds M P Q w q=>?_,λcf s b H xs us Q I rs h=>?_⟩
 .match ds,q with
  |[d],q=>
   have q:(match vw M d with|.lst xs=>P (.tup xs) M|.tup xs=>P (.tup xs) M|_=>False):=q;show(match vw M d with|.lst xs=>Q (.tup xs) M|.tup xs=>Q (.tup xs) M|_=>False);generalize vw M d=z at q |-;cases z<;>first|exact q.elim|exact w _ _ q
 .obtain⟨F,c,M,ds,o,f,h⟩:=h;match ds,h,f with
  |[d],q,f=>
   obtain⟨v,r,g⟩:=sI f;subst r;have q:(match vw M d with|.lst xs=>vK X.K F c H M Q (.tup xs) M|.tup xs=>vK X.K F c H M Q (.tup xs) M|_=>False):=q;generalize e1:vw M d=z at q;cases z<;>first|exact q.elim|skip
   .cases LS e1;obtain⟨a,i,rfl,j,m⟩:=mN o g e1;exact wN cf s b H _ us Q I rs ⟨a,i,rfl,.inr ⟨j,vK.now o q g⟩⟩
   .obtain⟨a,i,rfl,j,m⟩:=jg o g e1;exact wN cf s b H _ us Q I rs ⟨a,i,rfl,.inl ⟨nr.of j,λp n=>vK.new o n q (kH o n m)⟩⟩
abbrev GF:=List D->Ms->(OD->Ms->Prop)->Prop
def rDF (K:af)(g:GF):List V->Hp->VK->Prop:=λxs H Q=>∃F a M ds,OK K F a H M/\gO K a (jk F a M H) ds xs/\g ds M (fK K F a H M Q)
structure JBF(X:Cx)(f:ah)(g:GF):Prop where
 mono:∀xs M (P Q:OD->Ms->Prop),(∀d M,P d M->Q d M)->g xs M P->g xs M Q
 p:nz X f (rDF X.K g)
def Xx (g:GF)(tt:DA):DF:=λf M Q=>tt f M λds M1=>g ds M1 Q
def acs{T:String}{g:GF}(o:JBF X (.type T) g)(hm:X.mg x=am)(h:bR x=aa (.type T))(ha:JA X (e::es) tt)(i:Gl X x:=by rfl)(hn:x≠jD:=by decide)(j:(x==(dV:aB))=ao:=by decide)
(m:aV (e::es) X.env=(ao,eval e X.env)::aV es X.env:=by rfl)(n:(cO pos (aV es X.env)).any (·.1)=ao:=by rfl):JF X (.Call (.Name x p) (e::es) [] pos) (Xx g tt):=by refine⟨λf M P Q w q=>ha.mono f _ _ _ (λds M1 q=>o.mono _ _ _ _ w q) q,PE.weak (zp o.p i hm h ha.p hn j m n) λa H Q q=>?_⟩;obtain⟨F,b,f,M,r,q⟩:=q;exact⟨F,b,f,M,r,ha.mono f _ _ _ (λds M1 q z u H1 e1 v y=>⟨F,u,M1,ds,v,y,o.mono _ _ _ _ (fK.grow e1) q⟩) q⟩
def afH{id:String}{g:GF}(o:JBF X (.builtin id) g)(hm:X.mg x=am)(h:bR x=aa (.builtin id))(ha:JA X (e::es) tt)(i:Gl X x:=by rfl)(hn:x≠jD:=by decide)(j:(x==(dV:aB))=ao:=by decide)
(m:aV (e::es) X.env=(ao,eval e X.env)::aV es X.env:=by rfl)(n:(cO pos (aV es X.env)).any (·.1)=ao:=by rfl):JF X (.Call (.Name x p) (e::es) [] pos) (Xx g tt):=by refine⟨λf M P Q w q=>ha.mono f _ _ _ (λds M1 q=>o.mono _ _ _ _ w q) q,PE.weak (Cd o.p i hm h ha.p hn j m n) λa H Q q=>?_⟩;obtain⟨F,b,f,M,r,q⟩:=q;exact⟨F,b,f,M,r,ha.mono f _ _ _ (λds M1 q z u H1 e1 v y=>⟨F,u,M1,ds,v,y,o.mono _ _ _ _ (fK.grow e1) q⟩) q⟩
def CG:GF:=λds M Q=>match ds with
 |[d]=>match vw M d with
  |.lst xs=>Q (.lst xs) M
  |.tup xs=>Q (.lst xs) M
  |.qO xs=>Q (.lst (xs.map D.int)) M
  |_=>False
 |_=>False
def Jf:JBF X (.type ap) CG:=by
 refine⟨λds M P Q w q=>?_,λcf s b H xs us Q I rs h=>?_⟩
 .match ds,q with
  |[d],q=>
   have q:(match vw M d with|.lst xs=>P (.lst xs) M|.tup xs=>P (.lst xs) M|.qO xs=>P (.lst (xs.map D.int)) M|_=>False):=q;show(match vw M d with|.lst xs=>Q (.lst xs) M|.tup xs=>Q (.lst xs) M|.qO xs=>Q (.lst (xs.map D.int)) M|_=>False);generalize vw M d=z at q |-;cases z<;>first|exact q.elim|exact w _ _ q
 .obtain⟨F,e,M,ds,o,m,h⟩:=h;match ds,h,m with
  |[d],q,m=>
   obtain⟨v,r,j⟩:=sI m;subst r;have q:(match vw M d with|.lst xs=>fK X.K F e H M Q (.lst xs) M|.tup xs=>fK X.K F e H M Q (.lst xs) M|.qO xs=>fK X.K F e H M Q (.lst (xs.map D.int)) M|_=>False):=q;generalize e1:vw M d=z at q;cases z<;>first|exact q.elim|skip
   .obtain⟨a,f,rfl,g,n⟩:=mN o j e1;exact tH cf s b H _ us Q I rs ⟨a,f,rfl,.inr g,λp i=>q p _ e H Ext.refl o i ⟨f,rfl,n⟩⟩
   .obtain⟨a,f,rfl,g,n⟩:=jg o j e1;exact tH cf s b H _ us Q I rs ⟨a,f,rfl,.inl (nr.of g),λp i=>q p _ e H Ext.refl o i ⟨f,rfl,n⟩⟩
   .cases u0 e1;unfold Rep at j;obtain⟨a,rfl,g⟩:=j;exact tH cf s b H _ us Q I rs ⟨a,_,rfl,.inl (kb ib g),λp i=>q p _ e H Ext.refl o i ⟨_,rfl,gO.of_map _ _ (λc=>i5) _⟩⟩
end
noncomputable def Jg(f:aB):List aB->List D->Option D
 |n::ns,d::ds=>if n=f then aa d else Jg f ns ds
 |_,_=>am
def L7{v:V}{ns:List aB}:(((n,v)::ns.zip a).lookup f)=if n=f then aa v else(ns.zip a).lookup f:=by
 rw[dq];by_cases h:n=f
 .subst h;simp
 .have:(f==n)=ao:=by simpa usingλz=>h z.symm
  rw[this,if_neg h]
theorem CH{K:af}:∀(ns:List aB) (ds:List D) (a:List V),gO K g H ds a->ns.length=ds.length->
  (∀d,Jg f ns ds=aa d->∃v,(ns.zip a).lookup f=aa v/\Rep K g H d v)/\(Jg f ns ds=am->(ns.zip a).lookup f=am)
 |[],ds,a,h,l=>⟨λd e=>by simp[Jg] at e,λ_=>rfl⟩
 |n::ns,[],a,h,l=>by simp at l
 |n::ns,d::ds,a,h,l=>by
  obtain⟨v,r,rfl,z,y⟩:=h;have b:=CH (f:=f) ns ds r y (by simpa using l);rw[ck,L7];unfold Jg;by_cases e:n=f
  .rw[if_pos e,if_pos e];exact⟨λc e'=>⟨v,rfl,by cases e';exact z⟩,λe'=>by cases e'⟩
  .rw[if_neg e,if_neg e];exact b
structure p6(K:af)(C:ar)(f:aB):Prop where
 cl:Ls K C
 na:jZ K C f
section
variable {X:Cx} {rest:List bv} {apos:dA} {x:aB}
def TL (K:af)(f:aB)(te:DE):DE:=λg M Q=>te g M λd M1=>∃C ns ds x,vw M1 d=.ins C ns ds/\p6 K C f/\Jg f ns ds=aa x/\Q x M1
def aaj(h:JE X e te)(hb:cM e f X.env (eval e X.env)=eval e X.env:=by rfl):JE X (.Attribute e f pos) (TL X.K f te):=by
 refine⟨λg M P Q w q=>h.mono g _ _ _ (λd M1 q=>?_) q,PE.weak (abu h.p hb) λb H Q q=>?_⟩
 .obtain⟨C,ns,ds,x,j,i,n,q⟩:=q;exact⟨C,ns,ds,x,j,i,n,w _ _ q⟩
 .obtain⟨F,c,g,M,r,q⟩:=q;refine⟨F,c,g,M,r,h.mono g _ _ _ (λd M1 q v y H1 e1 u z=>?_) q⟩;obtain⟨C,ns,ds,x,j,i,n,q⟩:=q;obtain⟨a,A,B,rfl,E,G,I⟩:=LR u z j;obtain⟨v,J,L⟩:=(CH ns ds B I G).1 x n;exact⟨a,C,A,_,v,rfl,E,i.cl,i.na,J,q v y H1 e1 u L⟩
abbrev zF:=ar->aB->GN->Prop
structure l9(P:aP)(w:bt)(K:af)(mg:aB->Option ah)(cq:aw)(k:Nat)(C:ar)(m:aB)(g:GN):Prop where
 mono:oz g
 cl:Ls K C
 ok:∃f fd ps,Meth K C m f/\Binds K fd ps []/\jo P w K mg cq pZ k f fd ps (jU K g)
def u5 (T:zF)(m:aB)(to:DE)(tt:DA):DE:=λh M Q=>to h M λd M1=>∃C ns es g,vw M1 d=.ins C ns es/\Jg m ns es=am/\T C m g/\tt h M1 λds M2=>g (d::ds) M2 Q
def Xy{pl:Sem Bool}(O:∀C g,T C m g->l9 X.prog X.w X.K X.mg X.cq k C m g)(hr:iV k X.A)(B:JE X o to)
(ht:eval (.Call (.Attribute o m apos) [] [] pos) X.env=(do
   let U<-eval o X.env
   ajY apos.atName
   let(f,first)<-holding [U] (akk U m pl)
   alR pos f first (cO pos (aV [] X.env)) (ajE pos (eF [] X.env))):=by rfl):
  JE X (.Call (.Attribute o m apos) [] [] pos) (u5 T m to gQ):=by
 refine⟨λj M P Q w q=>B.mono j _ _ _ (λd M1 q=>?_) q,?_⟩
 .obtain⟨C,ns,es,g,E,G,n,q⟩:=q;exact⟨C,ns,es,g,E,G,n,(O C g n).mono _ _ _ _ w q⟩
 .intro cf s b H Q I h;obtain⟨F,c,j,M,r,q⟩:=h;refine W.methodCall_KW (jB (B.p cf s b H _ I ⟨F,c,j,M,r,B.mono j _ _ _ (λd M1 q v i H1 e1 y z=>(show(λv H1=>∃M1 i d,Ext F c H M i H1 M1/\OK X.K F i H1 M1/\Rep X.K i (jk F i M1 H1) d v/\∃C ns es g,vw M1 d=.ins C ns es/\Jg m ns es=am/\T C m g/\g [d] M1 _) v H1 from⟨M1,i,d,e1,y,z,q⟩)) q⟩) λu s1 zq=>?_) ht;obtain⟨v,H1,J,rx,M1,i,d,e1,y,z,C,ns,L,g,E,G,n,q⟩:=zq;obtain⟨a,dx,Y,rfl,sq,hl,zz⟩:=LR y z E;obtain rfl:u=bI a:=rx;have N:=O C g n;obtain⟨f,fd,ps,hm,hb,FO⟩:=N.ok;refine Lv J sq N.cl hm ((CH ns L Y zz hl).2 G) ?_;exact W.callWith_K0 J.qG hm.kp (Lz (vs:=[.ref a]) FO hr hb .nil IM J (.cons rfl .nil) ⟨F,i,M1,[d],y,gO.one z,N.mono _ _ _ _ (vK.grow e1) q⟩)
structure oV(P:aP)(w:bt)(K:af)(mg:aB->Option ah)(cq:aw)(k:Nat)(C:ar)(g:GN):Prop where
 mono:oz g
 ok:∃f fd ps,Mk K C f/\Binds K fd ps []/\jo P w K mg cq pZ k f fd ps (jU K g)
def rQ (C:ar)(g:GN)(tt:DA):DE:=λh M Q=>tt h M λds M1=>g (.loc M1.length::ds) (M1++[aa (.ins C [] [])]) λd M2=>d=.non/\∃ns es,M2=M1++[aa (.ins C ns es)]/\lN es=ai/\Q (.ins C ns es) M1
end
mutual
def lb (n:Nat):D->Prop
 |.loc k=>k<n
 |.tup ds|.lst ds|.jP _ ds|.ins _ _ ds|.exc _ _ ds=>P6 n ds
 |.non|.bl _|.int _|.str _|.ty _|.qO _|.cls _=>True
def P6 (n:Nat):List D->Prop
 |[]=>True
 |d::ds=>lb n d/\P6 n ds
end
mutual
theorem Rep.lb {K:af} {α:List ar} {H:Hp}:∀(d:D) (v:V),Rep K α H d v->L3.lb α.length d
 |.non,v,_|.bl _,v,_|.int _,v,_|.str _,v,_|.ty _,v,_|.qO _,v,_|.cls _,v,_=>by unfold L3.lb;trivial
 |.loc k,v,h=>by unfold Rep at h;unfold L3.lb;obtain⟨a,e,_⟩:=h;exact(au.mp e).1
 |.tup ds,v,h=>by unfold Rep at h;unfold L3.lb;obtain⟨a,b,r,q,z⟩:=h;exact gO.lb ds b z
 |.lst ds,v,h=>by unfold Rep at h;unfold L3.lb;obtain⟨a,b,r,q,z⟩:=h;exact gO.lb ds b z
 |.jP c ds,v,h=>by unfold Rep at h;unfold L3.lb;obtain⟨a,b,r,q,l,z⟩:=h;exact gO.lb ds b z
 |.ins C ns ds,v,h=>by unfold Rep at h;unfold L3.lb;obtain⟨a,f,b,r,q,l,z⟩:=h;exact gO.lb ds b z
 |.exc C ns ds,v,h=>by unfold Rep at h;unfold L3.lb;obtain⟨a,b,r,q,l,z⟩:=h;exact gO.lb ds b z
theorem gO.lb {K:af} {α:List ar} {H:Hp}:∀(d:List D) (v:List V),gO K α H d v->L3.P6 α.length d
 |[],v,h=>by unfold L3.P6;trivial
 |d::ds,v,h=>by unfold gO at h;unfold L3.P6;obtain⟨u,r,q,z,y⟩:=h;exact⟨Rep.lb d u z,gO.lb ds r y⟩
end
mutual
theorem Rep.shrink {K:af} {α β:List ar} {H:Hp} (p:α <+: β):∀(d:D) (v:V),L3.lb α.length d->Rep K β H d v->Rep K α H d v
 |.non,v,_,h|.bl _,v,_,h|.int _,v,_,h|.str _,v,_,h|.ty _,v,_,h|.qO _,v,_,h|.cls _,v,_,h=>by unfold Rep at h |-;exact h
 |.loc k,v,n,h=>by unfold Rep at h |-;unfold L3.lb at n;obtain⟨a,e,r⟩:=h;obtain⟨t,rfl⟩:=p;rw[bB n] at e;exact⟨a,e,r⟩
 |.tup ds,v,n,h=>by unfold Rep at h |-;unfold L3.lb at n;obtain⟨a,b,r,q,z⟩:=h;exact⟨a,b,r,q,gO.shrink p ds b n z⟩
 |.lst ds,v,n,h=>by unfold Rep at h |-;unfold L3.lb at n;obtain⟨a,b,r,q,z⟩:=h;exact⟨a,b,r,q,gO.shrink p ds b n z⟩
 |.jP f ds,v,n,h=>by unfold Rep at h |-;unfold L3.lb at n;obtain⟨a,b,r,q,l,z⟩:=h;exact⟨a,b,r,q,l,gO.shrink p ds b n z⟩
 |.ins C ns ds,v,n,h=>by unfold Rep at h |-;unfold L3.lb at n;obtain⟨a,c,b,r,q,l,z⟩:=h;exact⟨a,c,b,r,q,l,gO.shrink p ds b n z⟩
 |.exc C ns ds,v,n,h=>by unfold Rep at h |-;unfold L3.lb at n;obtain⟨a,b,r,q,l,z⟩:=h;exact⟨a,b,r,q,l,gO.shrink p ds b n z⟩
theorem gO.shrink {K:af} {α β:List ar} {H:Hp} (p:α <+: β):∀(d:List D) (v:List V),L3.P6 α.length d->gO K β H d v->gO K α H d v
 |[],v,_,h=>by unfold gO at h |-;exact h
 |d::ds,v,n,h=>by unfold gO at h |-;unfold L3.P6 at n;obtain⟨u,r,q,z,y⟩:=h;exact⟨u,r,q,Rep.shrink p d u n.1 z,gO.shrink p ds r n.2 y⟩
end
theorem A5.P6{K:af}(h:A5 K α e H o a):match o with|.lst ds=>L3.P6 α.length ds|.jP _ ds=>L3.P6 α.length ds|.ins _ _ ds=>L3.P6 α.length ds|.fz _ _ _ ds=>L3.P6 α.length ds:=by
 cases o with
 |lst ds=>obtain⟨b,_,r⟩:=h;exact gO.lb _ _ r
 |jP c ds=>obtain⟨b,_,_,r⟩:=h;exact gO.lb _ _ r
 |ins C ns ds=>obtain⟨f,b,_,_,r⟩:=h;exact gO.lb _ _ r
 |fz k g c ds=>obtain⟨_,b,_,_,r⟩:=h;exact gO.lb _ _ r
def OK.zu{K:af}{F c α:List ar}{A H:Hp}{M N:Ms}(m:OK K F c A M)(h:OK K F α H (M++N))(pre:c <+: α):OK K F c H M/\jC (jk F α (M++N) H) (jk F c M H):=by
 obtain⟨β,rfl⟩:=pre;have v:=m.ml;have o:lv _ (M++N)=lv c M++lv β N:=v5 v;have g:jC (jk F _ (M++N) H) (jk F c M H):=λb y e=>by
  obtain⟨z,q⟩:=iz e;rw[o] at z;refine kW e (λw=>z ?_) q
  .simp only [bj] at w |-;rcases w with w|w
   .exact .inl (.inl w)
   .exact .inr w
 refine⟨⟨v,m.nd,λa ha=>⟨(m.fr a ha).1,(h.fr a ha).2⟩,λa ha=>h.al a (bV _ ha),λk y p=>?_,h.tb⟩,g⟩;have B:=(au.mp p).1;obtain⟨a,u,n⟩:=h.own k y (by rw[bB B];exact p);rw[bB (by lia)] at u;obtain⟨I,i,j⟩:=m.own k y p;rw[u] at i;cases i;have hb:=j.P6;refine⟨a,u,?_⟩;cases y with
 |lst ds=>
  obtain⟨f,q,r⟩:=n;exact⟨f,q,gO.shrink (cL _ _) _ _ hb (gO.mono (bc _) g _ _ r)⟩
 |jP E ds=>
  obtain⟨f,q,l,r⟩:=n;exact⟨f,q,l,gO.shrink (cL _ _) _ _ hb (gO.mono (bc _) g _ _ r)⟩
 |ins C ns ds=>
  obtain⟨G,f,q,l,r⟩:=n;exact⟨G,f,q,l,gO.shrink (cL _ _) _ _ hb (gO.mono (bc _) g _ _ r)⟩
 |fz k J E ds=>
  obtain⟨_,f,q,l,r⟩:=n;exact⟨j.1,f,q,l,gO.shrink (cL _ _) _ _ hb (gO.mono (bc _) g _ _ r)⟩
section
variable {X:Cx} {rest:List bv} {pos:dA} {x:aB}
def Xz(u:oV X.prog X.w X.K X.mg X.cq k C g)(Y:iV (k+1) X.A)(hm:X.mg x=aa (.ref C))(ha:JA X (e::es) tt)(hg:Gl X x:=by rfl)(qH:(x==(dV:aB))=ao:=by decide)
(he:aV (e::es) X.env=(ao,eval e X.env)::aV es X.env:=by rfl)(sC:(cO pos (aV es X.env)).any (·.1)=ao:=by rfl):JE X (.Call (.Name x p) (e::es) [] pos) (rQ C g tt):=by
 obtain⟨f,fd,ps,mk,hb,FO⟩:=u.ok;refine⟨λj M P Q w q=>ha.mono j _ _ _ (λds M1 q=>u.mono _ _ _ _ (λd M2 q=>?_) q) q,PE.weak (WL mk FO Y hg hm hb .nil IM ha.p qH he sC) λc H Q q=>?_⟩
 .obtain⟨q1,ns,es,q2,q3,q4⟩:=q;exact⟨q1,ns,es,q2,q3,w _ _ q4⟩
 obtain⟨F,m,j,M,r,q⟩:=q;refine⟨F,m,j,M,r,ha.mono j _ _ _ (λds M1 q vs h H1 e1 i r1 y B n E sG=>?_) q⟩;have s0:jC H1 (upd (upd H1 B (.own y)) y (.ins C B [])):=λb ob e=>by rw[gR (ja e n),gR (ja e E)];exact e
 obtain⟨o2,e2⟩:=i.enter (x:=.ins C [] []) n s0 ⟨B,[],gZ,rfl,gO.nil⟩;rw[aR];have J:(h++[y])[M1.length]?=aa y:=by rw[<-i.ml];simp
 refine⟨F,h++[y],M1++[aa (.ins C [] [])],.loc M1.length::ds,o2,gO.cons ?_ (e2.Ck r1),u.mono _ _ _ _ (λd M2 q v yk L e3 N O=>?_) q⟩
 .unfold Rep;exact⟨y,J,rfl⟩
 .obtain⟨rfl,ns,fs,rfl,hn,q⟩:=q;unfold Rep at O;have pre:h <+: yk:=(cL _ _).trans e3.pre;obtain⟨o4,T⟩:=OK.zu i N pre;have ey:=Gz e3.pre J;obtain⟨a,U,dx,ws,hq,hl,rr⟩:=N.own M1.length (.ins C ns fs) (by simp);rw[ey] at U;cases U;have G:y∉F:=λz=>(i.fr y z).2 (by rw[n]);have I:y∉lv h M1:=λz=>i.live y z n;have wP:=e2.trans e3;refine⟨O,q _ h L (e1.trans ⟨bc _,wP.same.trans T,wP.fr⟩) o4 ?_⟩;unfold Rep;refine⟨y,dx,ws,rfl,?_,hl,gO.nl _ _ hn (gO.mono (bc _) T _ _ rr)⟩;show kE _ L y=_;exact jF (λz=>(bj.mp z).elim I G) hq rfl
noncomputable def putN(f:aB)(d:D):List aB->List D->List aB×List D
 |n::ns,e::es=>if n=f then(n::ns,d::es) else((n::(putN f d ns es).1),(e::(putN f d ns es).2))
 |ns,es=>(ns++[f],es++[d])
theorem Ji{K:af}(rd:Rep K a H d v):∀(ns:List aB) (ds:List D) (g:List V),gO K a H ds g->ns.length=ds.length->
  ∃ws,pB f v (ns.zip g)=(putN f d ns ds).1.zip ws/\(putN f d ns ds).1.length=(putN f d ns ds).2.length/\gO K a H (putN f d ns ds).2 ws
 |[],[],g,h,l=>by exact⟨[v],rfl,rfl,gO.one rd⟩
 |[],e::es,g,h,l=>by simp at l
 |n::ns,[],g,h,l=>by simp at l
 |n::ns,i::es,g,h,l=>by
  obtain⟨u,r,rfl,z,y⟩:=h;obtain⟨ws,j,q,w⟩:=Ji rd ns es r y (by simpa using l);by_cases e:n=f
  .subst e;have e1:putN n d (n::ns) (i::es)=(n::ns,d::es):=by unfold putN;rw[if_pos rfl]
   rw[e1];refine⟨v::r,?_,by simpa using l,gO.cons rd y⟩;unfold pB;simp
  .have e1:putN f d (n::ns) (i::es)=(n::(putN f d ns es).1,i::(putN f d ns es).2):=by rw[putN,if_neg e]
   rw[e1];refine⟨u::ws,?_,by simpa using q,gO.cons z w⟩;unfold pB;simp[e,j]
def aak (K:af)(f:aB)(to tv:DE):DS:=λE g M=>tv g M λd M1=>to g M1 λo M2=>match o with
 |.loc k=>∃C ns ds,M2[k]?=aa (aa (.ins C ns ds))/\p6 K C f/\ns.length<1000/\E.nx g (M2.set k (aa (.ins C (putN f d ns ds).1 (putN f d ns ds).2)))
 |_=>False
set_option tactic.hygienic true in
def XG(j:JE X o to)(n:JE X value tv)(O:c5 value (aa (.Attribute o f rJ)) pos.line X.env=pure ao:=by rfl):JS X (.Assign [.Attribute o f rJ] value pos) (aak X.K f to tv):=by
 refine⟨λP Q g M w q=>n.mono g _ _ _ (λd M1 q=>j.mono g _ _ _ (λo M2 q=>?_) q) q,PS.weak (abv j.p n.p O) λE b H q=>?_⟩
 .cases o<;>first|exact q.elim|skip
  obtain⟨C,ns,ds,h,i,B,q⟩:=q;exact⟨C,ns,ds,h,i,B,w.nx _ _ q⟩
 .obtain⟨F,c,g,M,r,q⟩:=q;refine⟨F,c,g,M,r,n.mono g _ _ _ (λd M1 q v T H1 e1 U Y=>⟨F,T,g,M1,r.grow e1 U,j.mono g _ _ _ (λod M2 q u sZ H2 e2 G r2=>?_) q⟩) q⟩;cases od<;>first|exact q.elim|skip
  rename_i k;obtain⟨C,ns,ds,h,i,B,q⟩:=q;obtain⟨a,I,rfl⟩:=r2;obtain⟨a',J,A,L,hq,N,rr⟩:=G.own k _ h;rw[I] at J;cases J;obtain⟨ws,i1,i2,i3⟩:=Ji (f:=f) (e2.rep Y) ns ds L rr N;have je:(ns.zip L).length<1000:=by rw[dJ,N];lia
  obtain⟨o3,e3⟩:=G.write (y:=.ins C _ _) (z:=.ins C A (pB f v _)) h I (λHh eh=>by subst eh;exact⟨A,ws,by rw[gZ,i1],i2,i3⟩)
  exact⟨a,C,A,_,rfl,hq,i.cl,i.na,je,q b sZ _ ((e1.trans e2).trans e3) (r.grow ((e1.trans e2).trans e3) o3)⟩
end
section
variable {K:af}
def P7{st:cN}(F:uG K x qual st f fd)(b:iE st=body)(es:ij st=scope)(S:ju N a scope)
(c:∀(ik:ah) (A:bq) (cv:List gq) (s:aq) (H:Hp) (E:XK),iV k (A.deeper (dY qual scope s.heap.objs.size f ik))->Fz (rK pZ P w K mg cq N qual scope f ik A cv s H E).ED body tb):
  jo P w K mg cq pZ (k+1) f fd a (jU K (Cs N.length a.length tb)):=by subst b es;exact F.ok S (λe H Q E zq=>by obtain⟨F,j,M,ds,o,r,g,q⟩:=zq;rw[<-gO.length _ _ r];exact g) λik A cv s H e Q E i h=>let⟨t,q,z⟩:=Th (c ik A cv s H E i) rfl h;⟨t,q.p,z⟩
def P8{st:cN}(F:uG K x qual st f fd)(b:iE st=body)(es:ij st=scope)(S:ju N a scope)
(c:∀(ik:ah) (A:bq) (cv:List gq) (s:aq) (H:Hp) (E:XK),iV k (A.deeper (dY qual scope s.heap.objs.size f ik))->Fz (rK pZ P w K mg cq N qual scope f ik A cv s H E).ED body tb):
  jo P w K mg cq pZ (k+1) f fd a (jU K (cl (jl N.length a.length tb))):=by subst b es;exact F.ok S (λe H Q E zq=>by obtain⟨F,j,M,ds,o,r,hn,g,q⟩:=zq;rw[<-gO.length _ _ r];exact g) λik A cv s H e Q E i h=>let⟨t,q,z⟩:=LU (c ik A cv s H E i) rfl h;⟨t,q.p,z⟩
def afI{st:cN}(k:Nat)(F:gY K mg x st)
(hb:∀(kV doc pm:ah) (an:Option ar) (ik ct:ah) (us:List ah),us.length=a.length->dQ (dk x x (jE st) (iE st) (ij st) .none kV doc pm an ik ct) ⟨us,[]⟩=pure (a.zip us)):iu P w K mg cq k x a λ_ _ _=>False:=by obtain⟨f,fd,F,m⟩:=F;exact⟨λ_ _ _ _ _ q=>q,f,fd,m,F.kp,F.binds hb,⟨λb H Q E zq=>by obtain⟨_,_,_,_,_,_,q⟩:=zq;exact q.elim,λA cv s H args us b Q E _ _ _ _ zq=>by obtain⟨_,_,_,_,_,_,q⟩:=zq;exact q.elim⟩⟩
end
abbrev GM:=D->List D->Ms->DK->Prop
def rDm (K:af)(g:GM):V->List V->Hp->VK->Prop:=λx xs H Q=>∃F a M d ds,OK K F a H M/\Rep K a (jk F a M H) d x/\gO K a (jk F a M H) ds xs/\g d ds M (vK K F a H M Q)
structure JM(X:Cx)(id:String)(g:GM):Prop where
 mono:∀d ds M (P Q:DK),(∀d M,P d M->Q d M)->g d ds M P->g d ds M Q
 p:MtR X id (rDm X.K g)
noncomputable def tyD(T:String)(d:D):Bool:=match d with
 |.lst _|.qO _=>T==ap
 |.str _=>T==hX
 |.int _=>T==ic
 |.jP _ _=>T==fe
 |_=>ao
section
variable {X:Cx} {es rest:List bv} {apos i6:dA} {x:aB} {id:String}
def TM(ok:OK X.K F b H M)(r:Rep X.K b (jk F b M H) d v)(h:tyD T (vw M d)=ai):tyV X.K T v H:=by
 generalize e1:vw M d=z at h;cases z<;>first|(cases h;done)|skip
 .cases xa e1;subst r;exact beq_iff_eq.mp h
 .cases mM e1;subst r;exact beq_iff_eq.mp h
 .obtain⟨a,j,rfl,i,_⟩:=jg ok r e1;exact .inl ⟨beq_iff_eq.mp h,j,nr.of i⟩
 .obtain⟨a,j,rfl,i,_⟩:=w9 ok r e1;exact .inr (.inr (.inl ⟨beq_iff_eq.mp h,.inl ⟨_,i⟩⟩))
 .cases u0 e1;obtain⟨a,rfl,i⟩:=r;exact .inl ⟨beq_iff_eq.mp h,_,kb ib i⟩
def Bz (T:String)(g:GM)(to:DE)(tt:DA):DE:=λh M Q=>to h M λd M1=>tyD T (vw M1 d)=ai/\tt h M1 λds M2=>g d ds M2 Q
def act(i:JM X id g)(A:akz T)(slot:Slot T name id)(j:akY (.builtin id)=pure (.type uad))(n:JE X o to)(ha:JA X (e::es) tt)
(B:cM o name X.env (eval o X.env)=eval o X.env:=by rfl)
(u:((cO i6 (aV (e::es) X.env)).all (λx=>!x.1)&&(ajE i6 (eF [] X.env)).all (λx=>x.1.isSome)
   &&decide ((e::es).length+([]:List ajN).length+(if([]:List ajN).isEmpty then 0 else 1)<30))=ai:=by rfl)
(C:(apos.endLine==i6.line)=ai:=by rfl)(E:aV (e::es) X.env=(ao,eval e X.env)::aV es X.env:=by rfl)(G:(cO i6 (aV es X.env)).any (·.1)=ao:=by rfl):
  JE X (.Call (.Attribute o name apos) (e::es) [] i6) (Bz T g to tt):=by refine⟨λh M P Q w q=>n.mono h _ _ _ (λd M1 q=>⟨q.1,ha.mono h _ _ _ (λds M2 q=>i.mono _ _ _ _ _ w q) q.2⟩) q,PE.weak (ae0 A slot j i.p n.p ha.p B u C E G) λa H Q q=>?_⟩;obtain⟨F,b,h,M,r,q⟩:=q;refine⟨F,b,h,M,r,n.mono h _ _ _ (λd M1 q v I H1 e1 y z=>⟨TM y z q.1,F,I,h,M1,r.grow e1 y,ha.mono h _ _ _ (λds M2 q O J U e2 L N=>?_) q.2⟩) q⟩;exact⟨F,J,M2,d,ds,L,e2.rep z,N,i.mono _ _ _ _ _ (vK.grow (e1.trans e2)) q⟩
def afJ(i:JM X id g)(z:akz T)(slot:Slot T name id)(j:akY (.builtin id)=pure (.type uad))(n:JE X o to)
(A:cM o name X.env (eval o X.env)=eval o X.env:=by rfl)(B:(apos.endLine==i6.line)=ai:=by rfl):JE X (.Call (.Attribute o name apos) [] [] i6) (Bz T g to gQ):=by refine⟨λh M P Q w q=>n.mono h _ _ _ (λd M1 q=>⟨q.1,i.mono _ _ _ _ _ w q.2⟩) q,PE.weak (abF z slot j i.p n.p A B) λa H Q q=>?_⟩;obtain⟨F,b,h,M,r,q⟩:=q;refine⟨F,b,h,M,r,n.mono h _ _ _ (λd M1 q v C H1 e1 u y=>⟨TM u y q.1,F,C,M1,d,[],u,y,gO.nil,i.mono _ _ _ _ _ (vK.grow e1) q.2⟩) q⟩
def BA(ok:OK X.K F b H M)(r:Rep X.K b (jk F b M H) (.loc k) v)(h:M[k]?=aa (aa (.lst ds))):
  ∃a i,v=.ref a/\H a=aa (.lst i)/\gO X.K b (jk F b M H) ds i/\∀es ws,gO X.K b (jk F b M H) es ws->OK X.K F b (upd H a (.lst ws)) (M.set k (aa (.lst es)))/\Ext F b H M b (upd H a (.lst ws)) (M.set k (aa (.lst es))):=by obtain⟨a,j,rfl⟩:=r;obtain⟨z,n,i,q,u⟩:=ok.own k _ h;rw[j] at n;cases n;exact⟨a,i,rfl,q,u,λes ws w=>ok.write h j λA y=>by subst y;exact⟨ws,gZ,w⟩⟩
def i0:GM:=λd ds M Q=>match d,ds with
 |.loc k,[x]=>∃es,M[k]?=aa (aa (.lst es))/\es.length<az/\Q .non (M.set k (aa (.lst (es++[x]))))
 |_,_=>False
def P9:JM X "list.append" i0:=by
 refine⟨λd ds M P Q w q=>?_,λcf s b H x xs v us Q I A rs h=>?_⟩
 .match d,ds,q with
  |.loc k,[x],⟨es,i,j,q⟩=>exact⟨es,i,j,w _ _ q⟩
 .obtain⟨F,c,M,d,ds,ok,r,n,h⟩:=h;match d,ds,h,r,n with
  |.loc k,[y],⟨es,i,j,q⟩,r,n=>
   obtain⟨a,B,rfl,C,z,E⟩:=BA ok r i;obtain⟨u,G,J⟩:=sI n;subst G;obtain⟨L,e2⟩:=E _ _ (gO.append _ _ _ _ z (gO.one J));exact Fu cf s b H _ _ v us Q I A rs ⟨a,B,u,rfl,rfl,C,by rw[<-gO.length _ _ z];exact j,q _ c _ e2 L qP⟩
def Oa:GM:=λd ds M Q=>match d,ds with
 |.loc k,[]=>∃es,M[k]?=aa (aa (.lst es))/\Q .non (M.set k (aa (.lst [])))
 |_,_=>False
def TN:JM X "list.clear" Oa:=by
 refine⟨λd ds M P Q w q=>?_,λcf s b H x xs v us Q I n rs h=>?_⟩
 .match d,ds,q with
  |.loc k,[],⟨es,j,q⟩=>exact⟨es,j,w _ _ q⟩
 .obtain⟨F,c,M,d,ds,ok,r,i,h⟩:=h;match d,ds,h,r,i with
  |.loc k,[],⟨es,j,q⟩,r,i=>
   obtain⟨a,u,rfl,y,B,z⟩:=BA ok r j;unfold gO at i;subst i;obtain⟨A,e2⟩:=z [] [] gO.nil;exact SH cf s b H _ _ v us Q I n rs ⟨a,u,rfl,rfl,y,q _ c _ e2 A qP⟩
def TQ (to q:DE):DG:=λv h M Q=>to h M λo M1=>q h M1 λi M2=>match o with
 |.loc k=>match M2[k]?,i with
  |some (aa (.lst ds)),.int j=>∃n,PK ds.length j=aa n/\Q h (M2.set k (aa (.lst (ds.set n v))))
  |_,_=>False
 |_=>False
set_option tactic.hygienic true in
def acu(z:JE X o to)(hi:JE X e te)
(ha:∀v,assign (.Subscript o e pos) X.env v=(do
   let y<-holding [v] (eval o X.env);let A<-holding [v,y] (eval e X.env)
   ajY pos
   holding [v,y,A] (alo y A v)
   release [v,y,A] []):=by intro _;rfl):JG X (.Subscript o e pos) (TQ to te):=by
 refine⟨λd h M P Q w q=>z.mono h _ _ _ (λod M1 q=>hi.mono h _ _ _ (λi M2 q=>?_) q) q,PG.weak (abg z.p hi.p SA ha) λv b H Q q=>?_⟩
 .cases od<;>first|exact q.elim|skip
  rename_i k;simp only at q |-;split at q
  .obtain⟨n,B,q⟩:=q;exact⟨n,B,w _ _ q⟩
  .exact q.elim
 .obtain⟨F,c,h,M,d,r,rd,q⟩:=q;refine⟨F,c,h,M,r,z.mono h _ _ _ (λod M1 q u J H1 e1 L N=>⟨F,J,h,M1,r.grow e1 L,hi.mono h _ _ _ (λi M2 q w O H2 e2 U E=>?_) q⟩) q⟩;cases od<;>first|exact q.elim|skip
  rename_i k;simp only at q;split at q
  .rename_i ds j Y;obtain⟨n,B,q⟩:=q;unfold Rep at E;subst E;obtain⟨a,G,rfl,hH,I,wr⟩:=BA U (e2.rep N) Y;have C:=(e1.trans e2).rep rd;obtain⟨o3,e3⟩:=wr (ds.set n d) (G.set n v) (gO.set C n _ _ I);exact⟨a,G,j,n,rfl,rfl,hH,by rw[<-gO.length _ _ I];exact B,q b O _ ((e1.trans e2).trans e3) (r.grow ((e1.trans e2).trans e3) o3)⟩
  .exact q.elim
end
open PyProof.Rows.KTD
def TR (K:af)(d:D)(u:ah):Prop:=∃v,RelV v u/\∀a H,Rep K a H d v
structure zG(K:af)(a:ar)(rows:List (aB×D)):Prop where
 lo:(a==cW)=ao
 ex:∃o es ep,K.lookup a=aa o/\o.ExactDict/\o.data=.dict es ep/\Rows (TR K) es.toList rows
section
variable {prog:aP} {s:aq} {K:af} {k:aB} {tk:alM}
def zG.typeIs(T:zG K a rows)(h:K.In s.heap):s.TypeIs (.ref a) fe:=let⟨o,_,_,b,hc,_⟩:=T.ex;⟨o,h _ _ b,hc.1⟩
def zG.get(T:zG K a rows)(j:K.In s.heap)(m:∀d v,datumAt k rows=aa d->TR K d v->Q (aa v) {s with toks:=s.toks+1})(n:datumAt k rows=am->Q am {s with toks:=s.toks+1}):
  wpAny (model prog w) A (alw a (.str k tk)) Q E s:=by
 obtain⟨o,es,r,f,hc,hd,g⟩:=T.ex;have f:=j _ _ f;unfold alw;refine ae (alB (ae (kt_dictFind_strs f hd (by obtain⟨l⟩:=es;simpa using g.exact) ?_)));have c:Q (alf (λk v=>v.isStr k) es k) {s with toks:=s.toks+1}:=by
  have p:alf (λk v=>v.isStr k) es k=(es.toList.find? λe=>e.key.isStr k).map (·.val):=by obtain⟨l⟩:=es;simp[alf]
  rw[p];cases b:datumAt k rows with
  |some d=>obtain⟨v,q,h⟩:=g.find_some b;rw[q];exact m d v b h
  |none=>rw[g.find_none b];exact n b
 rw[aj8] at c;cases hi:es.findIdx? λe=>e.key.isStr k with
 |none=>rw[hi] at c;exact av c
 |some i=>rw[hi] at c;exact ae (alx f hd (av c))
def zG.item(T:zG K a rows)(b:K.In s.heap)(hm:datumAt k rows=aa d)(h:∀v,TR K d v->Q v {s with toks:=s.toks+1}):
  wpAny (model prog w) A (ajO (.ref a) (.str k tk)) Q E s:=by
 have ht:=T.typeIs b;unfold ajO;try with_reducible refine bJ ?_
 refine ae (als ht (by decide) ?_);refine ae (di ht aly
  (cT aly ht entry_dict_getitem ?_ (args_dict_getitem _ _)))
 show wpAny _ _ (alw a _ >>= _) _ _ s;exact ae (T.get b (λe v ha c=>av ⟨v,rfl,av (h v (by rw[hm] at ha;cases ha;exact c))⟩) λhn=>by rw[hm] at hn;cases hn)
def zG.isin{Q:ah->aq->Prop}(T:zG K a rows)(c:K.In s.heap)(neg:Bool)(h:Q (.bool (if neg then !inKeys k rows else inKeys k rows)) {s with toks:=s.toks+1}):wpAny (model prog w) A (compareOp (if neg then .NotIn else .In) (.str k tk) (.ref a)) Q E s:=by
 have ht:s.TypeIs (.ref a) fe:=T.typeIs c;have key:∀(b:Bool->aq->Prop),b (inKeys k rows) {s with toks:=s.toks+1}->wpAny (model prog w) A (contains (.ref a) (.str k tk)) b E s:=λb h=>by
  unfold contains;try with_reducible refine bJ ?_
  refine ae (ajT ht aj9.lookup ?_);rw[if_neg (by rw[beq_builtin_none];exact bi)];refine ae (wpAny_callSpecialUnlessNone?_slot (name:=ajB "__contains__") ht aj9
   (cT aj9 ht entry_dict_contains ?_ (args_dict_contains _ _)))
  show wpAny _ _ (alw a (.str k tk) >>= _) _ _ s;refine ae (T.get c (λd v ha _=>?_) λhn=>?_)
  .have hb:inKeys k rows=ai:=by rw[<-isSome_datumAt,ha];rfl
   rw[hb] at h;show wpAny _ _ (ret (.bool ai)) _ _ _;exact av ⟨_,rfl,cw h⟩
  .have hb:inKeys k rows=ao:=by rw[<-isSome_datumAt,hn];rfl
   rw[hb] at h;exact ae (wpAny_pendingKey_other T.lo (av ⟨_,rfl,cw h⟩))
 cases neg with
 |false=>
  exact ae (key _ (av h))
 |true=>
  exact ae (key _ (av h))
end
section
variable {X:Cx}
def GR (a:ar)(rows:List (aB×D)):G2:=λx y M Q=>match x,y with
 |.cls b,.str k=>b=a/\∃d,datumAt k rows=aa d/\Q d M
 |_,_=>False
set_option tactic.hygienic true in
def acv(T:zG X.K a rows):JX X (GR a rows):=by
 refine⟨λx y M P Q w q=>?_,λvalue slice cf s N H x y v u Q I e f h g=>?_⟩
 .unfold GR at*;split at q<;>first|exact q.elim|(obtain⟨i,d,j,q⟩:=q;exact⟨i,d,j,w _ _ q⟩)
 .obtain⟨F,O,M,G,J,o,m,n,h⟩:=h;unfold GR at h;split at h<;>first|exact h.elim|skip
  obtain⟨rfl,d,hd,q⟩:=h;subst m n;rename_i b k;obtain rfl:v=bI b:=e;obtain⟨t,rfl⟩:=f;have ht:=T.typeIs I.qG;refine ae ?_;refine ae (ajT ht PySem.F.slot_dict_getitem.lookup ?_);have c:wpAny (model X.prog X.w) X.A (subscripted slice ao (.ref b) (.str k t)) (λr p=>wpAny (model X.prog X.w) X.A (alQ value (.ref b) r >>= λ_=>pure r) (EP X cf N Q) X.xe p) X.xe s:=by rw[g];refine alJ (T.item I.qG hd λL z=>ae (ala (av ?_)));obtain⟨B,C,E⟩:=z;exact⟨B,H,I.tok _,C,vK.now o q (E _ _)⟩
  first
   |exact av (ae c)
   |exact ae _
   |exact ae c
def GU (neg:Bool)(a:ar)(rows:List (aB×D)):G2:=λx y M Q=>match x,y with
 |.str k,.cls b=>b=a/\Q (.bl (if neg then !inKeys k rows else inKeys k rows)) M
 |_,_=>False
set_option tactic.hygienic true in
def Jj(T:zG X.K a rows):JC X .NotIn (GU ai a rows):=by
 refine⟨λx y M P Q w q=>?_,λcf s m H x y v u Q I c e h=>?_⟩
 .unfold GU at*;split at q<;>first|exact q.elim|exact⟨q.1,w _ _ q.2⟩
 .obtain⟨F,n,M,i,j,o,f,g,h⟩:=h;unfold GU at h;split at h<;>first|exact h.elim|skip
  obtain⟨rfl,q⟩:=h;subst f g;obtain⟨t,rfl⟩:=c;rename_i k b;obtain rfl:u=bI b:=e;exact T.isin I.qG ai ⟨.bl _,H,I.tok _,rfl,vK.now o q iZ⟩
end
end L3
namespace L3
open L2
section
variable {K:af}
def iQ{st:cN}(F:gY K mg x st)(b:iE st=body)(es:ij st=scope)(S:ju N a scope)
(hb:∀(kV doc pm:ah) (an:Option ar) (ik ct:ah) (us:List ah),us.length=a.length->dQ (dk x x (jE st) (iE st) (ij st) .none kV doc pm an ik ct) ⟨us,[]⟩=pure (a.zip us))
(c:∀(f:ar) (ik:ah) (A:bq) (cv:List gq) (s:aq) (H:Hp) (E:XK),iV k (A.deeper (dY x scope s.heap.objs.size f ik))->Fz (rK pZ P w K mg cq N x scope f ik A cv s H E).ED body tb):
  lM P w K mg cq (k+1) x a (jU K (cl (jl N.length a.length tb))):=
 F.ae9 b es S hb (λe H Q E zq=>by obtain⟨F,j,M,ds,o,r,hn,g,q⟩:=zq;rw[<-gO.length _ _ r];exact g) λf ik A cv s H e Q E i h=>LU (c f ik A cv s H E i) rfl h
def Ob{st:cN}(F:gY K mg x st)(b:iE st=body)(es:ij st=scope)(S:ju N a scope)
(hb:∀(kV doc pm:ah) (an:Option ar) (ik ct:ah) (us:List ah),us.length=a.length->dQ (dk x x (jE st) (iE st) (ij st) .none kV doc pm an ik ct) ⟨us,[]⟩=pure (a.zip us))
(c:∀(f:ar) (ik:ah) (A:bq) (cv:List gq) (s:aq) (H:Hp) (E:XK),iV k (A.deeper (dY x scope s.heap.objs.size f ik))->Fz (rK pZ P w K mg cq N x scope f ik A cv s H E).ED body tb):
  lM P w K mg cq (k+1) x a (jU K (Cs N.length a.length tb)):=
 F.ae9 b es S hb (λe H Q E zq=>by obtain⟨F,j,M,ds,o,r,g,q⟩:=zq;rw[<-gO.length _ _ r];exact g) λf ik A cv s H e Q E i h=>Th (c f ik A cv s H E i) rfl h
def jH(h:lM P w K mg cq k x c (jU K (cl g)))(m:iB a)(i:∀ds Q,a ds Q->g ds Q):iu P w K mg cq k x c (cl a):=
 ⟨GD m,let⟨f,fd,e,kp,b,F⟩:=h;⟨f,fd,e,kp,b,F.imp λj H Q E zq=>by obtain⟨F,p,M,ds,o,r,n,q⟩:=zq;exact ⟨F,p,M,ds,o,r,n,i _ _ q⟩⟩⟩
def XH(h:lM P w K mg cq k x c (jU K g))(m:oz a)(i:∀ds M Q,a ds M Q->g ds M Q):iu P w K mg cq k x c a:=
 ⟨m,let⟨f,fd,e,kp,b,F⟩:=h;⟨f,fd,e,kp,b,F.imp λj H Q E zq=>by obtain⟨F,n,M,ds,o,r,q⟩:=zq;exact ⟨F,n,M,ds,o,r,i _ _ _ q⟩⟩⟩
def methP(c:Ls K C)(hm:Meth K C m f)(hb:Binds K fd a [])(F:jo P w K mg cq pZ k f fd a (jU K (cl g)))(e:iB b)(i:∀ds Q,b ds Q->g ds Q):l9 P w K mg cq k C m (cl b):=
 ⟨GD e,c,f,fd,a,hm,hb,F.imp λh H Q E zq=>by obtain⟨F,j,M,ds,o,r,n,q⟩:=zq;exact ⟨F,j,M,ds,o,r,n,i _ _ q⟩⟩
def afK(hm:Mk K C f)(hb:Binds K fd a [])(F:jo P w K mg cq pZ k f fd a (jU K g))(c:oz b)(i:∀ds M Q,b ds M Q->g ds M Q):oV P w K mg cq k C b:=
 ⟨c,f,fd,a,hm,hb,F.imp λe H Q E zq=>by obtain⟨F,h,M,ds,o,r,q⟩:=zq;exact ⟨F,h,M,ds,o,r,i _ _ _ q⟩⟩
end
def TU(h:EI (gU i))(a:IQ gs):IQ (gX (gU i) gs):=λd b M P q=>by
 cases d with
 |nil=>exact q.elim
 |cons d r=>
  have:=a r _ M P q;simpa[gX,gU] using this
def XI(a:IQ gs):EI (iU n gs):=ab7 a
theorem kZ{st:Ms->Prop}(f:D->D)(b:st M):∀(xs acc:List D),acc.length+xs.length<=az->
  (∀x∈xs,∀c:Option D->nC->Ms->Prop,(∀a,Bs fr a=e->c (aa (f x)) a M)->FA g tt j x e M c)->Q (acc++xs.map f) M->lQ fr g tt j st Q xs acc e M
 |[],acc,_,_,q=>by rw[ajs,aR] at q;exact q
 |x::xs,acc,i,h,q=>by refine h x aE _ λa e1=>⟨b,by simp at i;lia,?_⟩;rw[e1];refine kZ f b xs _ (by simp at i |-;lia) (λy m=>h y (ax _ m)) ?_;rw[aX];exact q
theorem tK{st:Ms->Prop}(f:D->Option D)(a:st M):∀(xs acc:List D),acc.length+xs.length<=az->
  (∀x∈xs,∀j:Option D->nC->Ms->Prop,(∀b,Bs fr b=m->j (f x) b M)->FA g tt n x m M j)->Q (acc++xs.filterMap f) M->lQ fr g tt n st Q xs acc m M
 |[],acc,_,_,q=>by rw[List.filterMap_nil,aR] at q;exact q
 |x::xs,acc,c,h,q=>by
  refine h x aE _ λb e1=>⟨a,?_⟩;cases e:f x with
  |none=>
   rw[List.filterMap_cons_none e] at q;rw[e1];exact tK f a xs acc (by simp at c |-;lia) (λy i=>h y (ax _ i)) q
  |some d=>
   rw[List.filterMap_cons_some e] at q;refine⟨by simp at c;lia,?_⟩;rw[e1];refine tK f a xs _ (by simp at c |-;lia) (λy i=>h y (ax _ i)) ?_;rw[aX];exact q
theorem oC{st:Ms->Prop}(Pv:Nat->nC->Ms->Prop)(f:∀j a M,Pv j a M->st M):∀(xs:List D) (i:Nat) (a:nC) (M:Ms),Pv i a M->
  (∀j x a M,xs[j]?=aa x->Pv (i+j) a M->∀N:nC->Ms->Prop,(∀b c,Pv (i+j+1) b c->N b c)->g x a M λn M1=>tb {E with nx:=N,ct:=N,bk:=E.nx} n M1)->
  (∀a M,Pv (i+xs.length) a M->E.nx a M)->qJ g tb st E xs a M
 |[],i,a,M,p,_,e=>e a M p
 |x::xs,i,a,M,p,h,e=>by
  refine h 0 x a M rfl p _ λb c m=>⟨f _ _ _ m,?_⟩;exact oC Pv f xs (i+1) b c m (λj y a M o r N u=>h (j+1) y a M (by simpa using o) (by rw[show i+(j+1)=i+1+j by lia];exact r) N λb c q=>u b c (by rw[show i+1+j+1=i+(j+1)+1 by lia];exact q))
   (λa M p=>e a M (by rw[aQ,show i+(xs.length+1)=i+1+xs.length by lia];exact p))
mutual
noncomputable def dv (M:Ms):D->D
 |.non=>.non|.bl b=>.bl b|.int i=>.int i|.str x=>.str x|.ty n=>.ty n|.qO ns=>.qO ns|.cls C=>.cls C
 |.loc k=>vw M (.loc k)
 |.tup ds=>.tup (uT M ds)|.lst ds=>.lst (uT M ds)|.jP a ds=>.jP a (uT M ds)|.ins C ns ds=>.ins C ns (uT M ds)|.exc C ns ds=>.exc C ns (uT M ds)
noncomputable def uT (M:Ms):List D->List D
 |[]=>[]
 |d::ds=>dv M d::uT M ds
end
theorem Oc(M:Ms):∀ds:List D,uT M ds=ds.map (dv M)
 |[]=>rfl
 |d::ds=>by unfold uT;rw[Oc M ds];rfl
mutual
theorem aal (M:Ms):∀d:D,nl d=ai->dv M d=d
 |.non,_=>rfl|.bl _,_=>rfl|.int _,_=>rfl|.str _,_=>rfl|.ty _,_=>rfl|.qO _,_=>rfl|.cls _,_=>rfl
 |.loc _,h=>by unfold nl at h;cases h
 |.tup ds,h=>by unfold dv;unfold nl at h;rw[zH M ds h]
 |.lst ds,h=>by unfold dv;unfold nl at h;rw[zH M ds h]
 |.jP a ds,h=>by unfold dv;unfold nl at h;rw[zH M ds h]
 |.ins C ns ds,h=>by unfold dv;unfold nl at h;rw[zH M ds h]
 |.exc C ns ds,h=>by unfold dv;unfold nl at h;rw[zH M ds h]
theorem zH (M:Ms):∀ds:List D,lN ds=ai->uT M ds=ds
 |[],_=>rfl
 |d::ds,h=>by unfold uT;unfold lN at h;rw[aU] at h;rw[aal M d h.1,zH M ds h.2]
end
def xj(M:Ms)(ds:List D):(uT M ds).length=ds.length:=by rw[Oc,ak]
section
variable {K:af}
mutual
theorem acw (o:OK K F f H M):∀(d:D) (v:V),Rep K f (jk F f M H) d v->Rep K f H (dv M d) v
 |.non,v,h=>by unfold dv;unfold Rep at h |-;exact h
 |.bl _,v,h=>by unfold dv;unfold Rep at h |-;exact h
 |.int _,v,h=>by unfold dv;unfold Rep at h |-;exact h
 |.str _,v,h=>by unfold dv;unfold Rep at h |-;exact h
 |.ty _,v,h=>by unfold dv;unfold Rep at h |-;exact h
 |.cls _,v,h=>by unfold dv;unfold Rep at h |-;exact h
 |.qO ns,v,h=>by unfold dv;unfold Rep at h |-;obtain⟨a,r,q⟩:=h;exact⟨a,r,kb ib q⟩
 |.loc k,v,h=>by unfold dv;exact Rep.mono (bc _) ib _ _ (zx o _ _ h)
 |.tup ds,v,h=>by unfold dv;unfold Rep at h |-;obtain⟨a,b,r,q,z⟩:=h;exact⟨a,b,r,mw ib q,tL o ds b z⟩
 |.lst ds,v,h=>by unfold dv;unfold Rep at h |-;obtain⟨a,b,r,q,z⟩:=h;exact⟨a,b,r,ib _ _ q,tL o ds b z⟩
 |.jP e ds,v,h=>by unfold dv;unfold Rep at h |-;obtain⟨a,b,r,q,l,z⟩:=h;exact⟨a,b,r,Gy ib q,by rw[xj];exact l,tL o ds b z⟩
 |.ins C ns ds,v,h=>by unfold dv;unfold Rep at h |-;obtain⟨a,c,b,r,q,l,z⟩:=h;exact⟨a,c,b,r,ib _ _ q,by rw[xj];exact l,tL o ds b z⟩
 |.exc C ns ds,v,h=>by unfold dv;unfold Rep at h |-;obtain⟨a,b,r,q,l,z⟩:=h;exact⟨a,b,r,ib _ _ q,by rw[xj];exact l,tL o ds b z⟩
theorem tL (o:OK K F a H M):∀(ds:List D) (b:List V),gO K a (jk F a M H) ds b->gO K a H (uT M ds) b
 |[],b,h=>by unfold uT;unfold gO at h |-;exact h
 |d::ds,b,h=>by unfold uT;unfold gO at h |-;obtain⟨v,r,q,z,y⟩:=h;exact⟨v,r,q,acw o d v z,tL o ds r y⟩
end
end
noncomputable def sc:D->Bool
 |.non|.bl _|.int _|.str _|.ty _=>ai
 |_=>ao
def bor (g:GP):GN:=λds M Q=>lN (uT M ds)=ai/\g (uT M ds) λd=>sc d=ai/\Q d M
def TV(m:iB g):oz (bor g):=λds M P Q w q=>⟨q.1,m _ _ _ (λd q=>⟨q.1,w _ _ q.2⟩) q.2⟩
def acx{K:af}(h:sc d=ai)(r:Rep K b H d v):Rep K β a d v:=by cases d<;>first|(cases h;done)|(exact r)
def TW{K:af}(t:Tb K H):OK K [] [] H []:=⟨rfl,gB,λ_ h=>by simp at h,λ_ h=>by simp at h,λk o h=>by simp at h,t⟩
def CI (H a:Hp):Prop:=∀b o,H b=aa o->uN (aa o)=aa o->a b=aa o
def CJ:CI H (kE [] H):=λb o e v=>jF (by simp) e v
def L8{K:af}(e:CI H b)(h:w4 K H a xs):w4 K b a xs:=by
 rcases h with(h|⟨o,h⟩)|h
 .exact .inl (.inl (e _ _ h rfl))
 .exact .inl (.inr ⟨o,e _ _ h rfl⟩)
 .exact .inr h
def CK{K:af}(e:CI H b)(h:nr K H a xs):nr K b a xs:=by
 rcases h with(h|⟨o,h⟩)|h
 .exact .inl (.inl (e _ _ h rfl))
 .exact .inl (.inr ⟨o,e _ _ h rfl⟩)
 .exact .inr h
mutual
theorem Rep.yt {K:af} {α:List ar} {H c:Hp} (e:CI H c):∀(d:D) (v:V),Rep K α H d v->Rep K α c d v
 |.non,v,h=>by unfold Rep at h |-;exact h
 |.bl _,v,h=>by unfold Rep at h |-;exact h
 |.int _,v,h=>by unfold Rep at h |-;exact h
 |.str _,v,h=>by unfold Rep at h |-;exact h
 |.ty _,v,h=>by unfold Rep at h |-;exact h
 |.tup ds,v,h=>by unfold Rep at h |-;obtain⟨a,b,r,q,z⟩:=h;exact⟨a,b,r,L8 e q,gO.yt e ds b z⟩
 |.lst ds,v,h=>by unfold Rep at h |-;obtain⟨a,b,r,q,z⟩:=h;exact⟨a,b,r,e _ _ q rfl,gO.yt e ds b z⟩
 |.qO ns,v,h=>by unfold Rep at h |-;obtain⟨a,r,q⟩:=h;exact⟨a,r,CK e q⟩
 |.jP g ds,v,h=>by unfold Rep at h |-;obtain⟨a,b,r,q,l,z⟩:=h;exact⟨a,b,r,(by rcases q with q|⟨o,q⟩<;>first|exact .inl (e _ _ q rfl)|exact .inr ⟨o,e _ _ q rfl⟩),l,gO.yt e ds b z⟩
 |.ins C ns ds,v,h=>by unfold Rep at h |-;obtain⟨a,f,b,r,q,l,z⟩:=h;exact⟨a,f,b,r,e _ _ q rfl,l,gO.yt e ds b z⟩
 |.exc C ns ds,v,h=>by unfold Rep at h |-;obtain⟨a,b,r,q,l,z⟩:=h;exact⟨a,b,r,e _ _ q rfl,l,gO.yt e ds b z⟩
 |.loc k,v,h=>by unfold Rep at h |-;exact h
 |.cls _,v,h=>by unfold Rep at h |-;exact h
theorem gO.yt {K:af} {α:List ar} {H c:Hp} (e:CI H c):∀(ds:List D) (b:List V),gO K α H ds b->gO K α c ds b
 |[],b,h=>by unfold gO at h |-;exact h
 |d::ds,b,h=>by unfold gO at h |-;obtain⟨v,r,q,z,y⟩:=h;exact⟨v,r,q,Rep.yt e d v z,gO.yt e ds r y⟩
end
def OK.aam{K:af}(o:OK K F α H M)(s:CI H c)(t:Tb K c):OK K F α c M/\Ext F α H M α c M:=by
 have sx:∀a,uN (H a)≠am->c a=H a:=λa h=>by
  cases e:H a with
  |none=>exact absurd (by rw[e]) h
  |some x=>
   rw[e] at h;exact s a x e (by cases x<;>first|rfl|exact absurd rfl h)
 have sh:∀A,jC (kE A H) _:=λA b x e=>by obtain⟨g,i,f⟩:=p0 e;exact jF g (s b x i f) f
 refine⟨⟨o.ml,o.nd,λa ha=>⟨(o.fr a ha).1,by rw[sx a (o.fr a ha).2];exact(o.fr a ha).2⟩,λa ha=>by rw[sx a (o.al a ha)];exact o.al a ha,λk x h=>?_,t⟩,⟨bc _,sh _,λa ha=>sx a (o.fr a ha).2⟩⟩;obtain⟨a,e,r⟩:=o.own k x h;exact⟨a,e,r.mono (bc _) (sh _) (sx a (o.SS a (nB.mpr ⟨k,x,e,h⟩)))⟩
section
variable {K:af}
def hasB(h:lM P w K mg cq k x c (jU K (cl g)))(m:iB a)(i:∀ds Q,a ds Q->g ds Q):iu P w K mg cq k x c (bor a):=
 ⟨TV m,let⟨f,fd,e,kp,b,F⟩:=h;⟨f,fd,e,kp,b,F.imp λA H Q E ⟨F,B,M,ds,o,r,n,q⟩=>by
  refine⟨[],[],[],uT M ds,TW o.tb,?_,n,i _ _ (m _ _ _ (λd q=>?_) q)⟩
  .exact gO.yt CJ _ _ (gO.nl _ _ n (tL o _ _ r))
  .obtain⟨j,q⟩:=q;intro v ii p e' u y;have s:=λb ob hb vb=>by have:=e'.same b ob (by show kE ([]++[]) H b=_;exact jF (by simp) hb vb);exact ib _ _ this
   obtain⟨z,e2⟩:=o.aam s u.tb;exact q v B p e2 z (acx j y)⟩⟩
end
def L9{a:List (Key×V)}{k:Key}{v:V}(h:k∉a.map (·.1)):qI a k v=a++[(k,v)]:=by unfold qI;rw[if_neg];intro z;obtain⟨p,b,e⟩:=List.any_eq_true.mp z;exact h (bC.mpr ⟨p,b,of_decide_eq_true e⟩)
theorem CL:∀(more a:List (Key×V)),((a++more).map (·.1)).Nodup->uW a more=a++more
 |[],a,_=>by rw[aR];rfl
 |p::r,a,h=>by
  have b:p.1∉a.map (·.1):=λz=>by rw[aM,de] at h;exact h.2.2 p.1 z p.1 (by simp) rfl
  show uW (qI a p.1 p.2) r=_;rw[L9 b,CL r (a++[(p.1,p.2)]) (by rw[aX];exact h),aX];rfl
def CM:List (DE×DE)->nC->Ms->(List (D×D)->Ms->Prop)->Prop
 |[],_,M,Q=>Q [] M
 | (tk,b)::r,a,M,Q=>tk a M λk M1=>b a M1 λv M2=>CM r a M2 λc e=>Q ((k,v)::c) e
abbrev pK(K:af)(F f:List ar)(H:Hp)(M:Ms)(Q:List (V×V)->Hp->Prop):List (D×D)->Ms->Prop:=λe b=>∀c ii a,Ext F f H M ii a b->OK K F ii a b->gO K ii (jk F ii b a) (e.map (·.1)) (c.map (·.1))->gO K ii (jk F ii b a) (e.map (·.2)) (c.map (·.2))->Q c a
structure JP(X:Cx)(pos:dA)(keys:List (Option bv))(values:List bv)(ts:List (DE×DE)):Prop where
 mono:∀δ M (P Q:List (D×D)->Ms->Prop),(∀ps M,P ps M->Q ps M)->CM ts δ M P->CM ts δ M Q
 p:∃NO,PPs X pos keys values NO/\∀F α δ M σ H Q,R X.K F α H σ δ M->CM ts δ M (pK X.K F α H M Q)->Gr NO σ H Q
section
variable {X:Cx} {k:bv} {tk:DE}
def acy:JP X pos [] [] []:=⟨λa M P Q w q=>w _ _ q,[],WO,λF c a M b H Q r q=>q [] c H Ext.refl r.ok gO.nil gO.nil⟩
def XJ(b:JE X k tk)(c:JE X v tv)(e:JP X pos keys values ts):JP X pos (aa k::keys) (v::values) ((tk,tv)::ts):=by obtain⟨L,f,g⟩:=e.p;refine⟨λa M P Q w q=>b.mono a _ _ _ (λ_ M1 q=>c.mono a _ _ _ (λ_ M2 q=>e.mono a _ _ _ (λh i q=>w _ _ q) q) q) q,_,Sw b.p c.p f,λF O a M K H Q r q=>?_⟩;refine⟨F,O,a,M,r,b.mono a _ _ _ (λN M1 q x j H1 e1 m n=>⟨F,j,a,M1,r.grow e1 m,c.mono a _ _ _ (λdv M2 q y o u e2 z A=>?_) q⟩) q⟩;refine g F o a M2 K u _ (r.grow (e1.trans e2) z) (e.mono a _ _ _ (λh i q B C E e3 G I J=>?_) q);exact q ((x,y)::B) C E ((e1.trans e2).trans e3) G (gO.cons (e3.rep (e2.rep n)) I) (gO.cons (e3.rep A) J)
noncomputable def Jk:List (D×D)->Option (List Key)
 |[]=>aa []
 | (k,_)::r=>match IT k,Jk r with
  |some k,aa a=>aa (k::a)
  |_,_=>am
theorem FF{K:af}{v:List ar}{H:Hp}:∀(b:List (D×D)) (a:List (V×V)) (c:List Key),Jk b=aa c->gO K v H (b.map (·.1)) (a.map (·.1))->a=(c.zip (a.map (·.2))).map (λg=>(kV g.1,g.2))/\c.length=a.length
 |[],a,c,h,r=>by
  cases h;cases a with
  |nil=>exact⟨rfl,rfl⟩
  |cons p a=>have:=gO.length _ _ r;simp at this
 | (k,d)::b,a,c,h,r=>by
  cases a with
  |nil=>have:=gO.length _ _ r;simp at this
  |cons p a=>
   unfold Jk at h;rw[aZ,aZ] at r;unfold gO at r;obtain⟨x,xs,e,i,j⟩:=r;obtain⟨rfl,rfl⟩:=List.cons.inj e;cases f:IT k with
   |none=>rw[f] at h;cases h
   |some o=>
    cases er:Jk b with
    |none=>rw[f,er] at h;cases h
    |some kr=>
     rw[f,er] at h;cases h;obtain⟨m,n⟩:=FF b a kr er j;have:=sH i f;obtain⟨q,u⟩:=p;subst this;refine⟨?_,by simp[n]⟩;rw[aZ,ck,aZ,<-m]
end
section
variable {X:Cx}
def EK:G2:=λx y M Q=>match vw M x,vw M y with
 |.tup xs,.tup []=>Q (.bl xs.isEmpty) M
 |.lst xs,.lst []=>Q (.bl xs.isEmpty) M
 |_,_=>False
def acz(hu:X.A.units+1<gw):JC X .Eq EK:=by
 refine⟨λx y M P Q w q=>?_,λcf s K H x y v u Q I O T h=>?_⟩
 .unfold EK at q |-;generalize vw M x=a at q |-;generalize vw M y=b at q |-;match a,b,q with
  |.tup xs,.tup [],q=>exact w _ _ q
  |.lst xs,.lst [],q=>exact w _ _ q
 .obtain⟨F,S,M,da,db,o,U,Y,h⟩:=h;unfold EK at h;generalize e1:vw M da=a at h;generalize e2:vw M db=b at h;match a,b,h,e1,e2 with
  |.tup xs,.tup [],h,e1,e2=>
   obtain⟨p,vs,rfl,z,B⟩:=mN o U e1;obtain⟨i,C,rfl,f,c⟩:=mN o Y e2;obtain rfl:v=bI p:=O;obtain rfl:u=bI i:=T;unfold gO at c;subst c;obtain⟨ig,E,it,_⟩:=I.tuple z;obtain⟨II,g,G,_⟩:=I.tuple f;have J:=gO.length _ _ B;have L:=Paired.length E;cases g;have m:s.heap.IsTuple p ig.toArray:=it;have hb:s.heap.IsTuple i (ajw ([]:List ah)):=G;refine PySem.SeqAt.eq_tupleAt (e:=λ_=>ai) m hb (by lia) (λj h1 N=>absurd N (by simp)) ⟨.bl _,H,I,rfl,?_⟩;have:((bY (min ig.toArray.size (ajw ([]:List ah)).size)).all (λ_=>ai)&&ig.toArray.size==(ajw ([]:List ah)).size)=xs.isEmpty:=by have l:xs.length=ig.length:=J.trans L;cases xs<;>cases ig<;>simp at l |-
   rw[this];exact vK.now o h iZ
  |.lst xs,.lst [],h,e1,e2=>
   obtain⟨p,vs,rfl,z,B⟩:=jg o U e1;obtain⟨i,C,rfl,f,c⟩:=jg o Y e2;obtain rfl:v=bI p:=O;obtain rfl:u=bI i:=T;unfold gO at c;subst c;obtain⟨_,ig,n,E,e⟩:=I.iC p _ z;obtain⟨_,II,n2,g,e2⟩:=I.iC i _ f;have J:=gO.length _ _ B;have L:=Paired.length E;cases g;have m:s.heap.IsList p ig.toArray:=⟨_,e,rfl,n,rfl⟩;have hb:s.heap.IsList i (ajw ([]:List ah)):=⟨_,e2,rfl,n2,rfl⟩;have l:xs.length=ig.length:=J.trans L;cases xs with
   |nil=>
    cases ig with
    |cons b t=>simp at l
    |nil=>exact PySem.SeqAt.eq_listAt (e:=λ_=>ai) m hb rfl (by lia) (λj h1 N=>absurd N (by simp)) ⟨.bl ai,H,I,rfl,vK.now o h iZ⟩
   |cons a r=>
    cases ig with
    |nil=>simp at l
    |cons b t=>exact PySem.SeqAt.eq_list_lengthsAt m hb (by simp) (by lia) ⟨.bl ao,H,I,rfl,vK.now o h iZ⟩
end
section
variable {x:aB}
def Jl:GM:=λd ds M Q=>match d,ds with
 |.loc k,[y]=>∃es xs,M[k]?=aa (aa (.lst es))/\vw M y=.lst xs/\es.length+xs.length<=az/\Q .non (M.set k (aa (.lst (es++xs))))
 |_,_=>False
def Qa:JM X "list.extend" Jl:=by
 refine⟨λd ds M P Q w q=>?_,λcf s E H x xs v us Q I m rs h=>?_⟩
 .match d,ds,q with
  |.loc k,[x],⟨es,xs,c,e,f,q⟩=>exact⟨es,xs,c,e,f,w _ _ q⟩
 .obtain⟨F,G,M,d,ds,ok,r,g,h⟩:=h;match d,ds,h,r,g with
  |.loc k,[y],⟨es,xs,c,e,f,q⟩,r,g=>
   obtain⟨a,n,rfl,o,i,p⟩:=BA ok r c;obtain⟨u,z,A⟩:=sI g;subst z;obtain⟨b,ws,rfl,B,j⟩:=jg ok A e;obtain⟨C,e2⟩:=p _ _ (gO.append _ _ _ _ i j);exact PL cf s E H _ _ v us Q I m rs ⟨a,b,n,ws,rfl,rfl,o,B,by rw[<-gO.length _ _ i,<-gO.length _ _ j];exact f,q _ G _ e2 C qP⟩
end
section
variable {X:Cx} {x:aB} {pos:dA}
def Od (i:Nat)(C:Int->Int->Prop)(f:Int->Int->D)(te:DE):DS:=λE c M=>match c[i]? with
 |some (aa (.int a))=>te c M λd M1=>match d with
  |.int b=>C a b/\E.nx (c.set i (aa (f a b))) M1
  |_=>False
 |_=>False
set_option tactic.hygienic true in
def XM{f:Int->Int->Int}(i:Nat)(h:X.N.Nodup)(g:JE X e te)(j:PIp X op (rI C λa b=>.int (f a b)))(hi:X.N[i]?=aa x:=by rfl)(m:Loc X.env.scope x:=by first|exact dP rfl|exact c9 rfl)
(n:X.fn x=ai\/X.env.scope.names.lookup x=aa .local:=by first|exact .inl rfl|exact .inr rfl|assumption):JS X (.AugAssign (.Name x p) op e pos) (Od i C (λa b=>.int (f a b)) te):=by
 refine⟨λP Q c M w q=>?_,PS.weak (abh h hi m g.p j n) λE o H q=>?_⟩
 .unfold Od at q |-;split at q
  .refine g.mono c _ _ _ (λd M1 q=>?_) q;cases d<;>first|exact q.elim|exact⟨q.1,w.nx _ _ q.2⟩
  .exact q.elim
 .obtain⟨F,I,c,M,r,q⟩:=q;unfold Od at q;split at q
  .rename_i a ha;obtain⟨v,y,z⟩:=r.sl i _ ha;subst z;refine⟨.int a,y,F,I,c,M,r,g.mono c _ _ _ (λd M1 q u A H1 e1 B G=>?_) q⟩;cases d<;>first|exact q.elim|skip
   subst G;exact⟨a,_,rfl,rfl,q.1,q.2 _ A H1 e1 ((r.grow e1 B).set i5)⟩
  .exact q.elim
def acA:PIp X .Add (rI (λ_ _=>True) λa b=>.int (a+b)):=λcf s e H x y v u Q I c f h=>by obtain⟨a,b,g,j,_,q⟩:=h;exact WC cf s e H x y v u Q I c f ⟨a,b,g,j,q⟩
noncomputable def qQ(k:Key)(d:D)(a:List Key)(ds:List D):List Key×List D:=if a.any (λx=>decide (x=k))=ai then(a,dj (λx y=>if x=k then d else y) a ds) else(a++[k],ds++[d])
theorem Oe:∀(a:List Key) (b:List V),a.length=b.length->((a.zip b).any λc=>decide (c.1=k))=a.any λx=>decide (x=k)
 |[],[],_=>rfl
 |[],_::_,h=>by simp at h
 |_::_,[],h=>by simp at h
 |x::a,v::b,h=>by rw[ck,dN,dN,Oe a b (by simpa using h)]
theorem Og:∀(a:List Key) (b:List V),(a.zip b).map (λc=>if c.1=k then(c.1,v) else c)=a.zip (dj (λx y=>if x=k then v else y) a b)
 |[],_=>rfl
 |_::_,[]=>rfl
 |x::a,y::b=>by rw[ck,aZ,fH,Og a b];by_cases e:x=k<;>simp[e]
theorem Jm{K:af}(rd:Rep K c H d v):∀(a:List Key) (ds:List D) (b:List V),gO K c H ds b->gO K c H (dj (λx y=>if x=k then d else y) a ds) (dj (λx y=>if x=k then v else y) a b)
 |[],ds,b,h=>by exact gO.nil
 |x::a,[],b,h=>by subst h;exact gO.nil
 |x::a,y::ds,b,h=>by
  obtain⟨u,r,rfl,z,t⟩:=h;rw[fH,fH];refine gO.cons ?_ (Jm rd a ds r t);by_cases e:x=k
  .rw[if_pos e,if_pos e];exact rd
  .rw[if_neg e,if_neg e];exact z
def Qb{K:af}(rd:Rep K c H d v)(a:List Key)(ds:List D)(b:List V)(h:gO K c H ds b)(l:a.length=ds.length):
  ∃ws,qI (a.zip b) k v=(qQ k d a ds).1.zip ws/\(qQ k d a ds).1.length=(qQ k d a ds).2.length/\gO K c H (qQ k d a ds).2 ws:=by
 have lv:=gO.length _ _ h;unfold qI qQ;rw[Oe a b (by lia)];by_cases e:(a.any λx=>decide (x=k))=ai
 .rw[if_pos e,if_pos e];refine⟨_,Og a b,?_,Jm rd a ds b h⟩;show a.length=(dj _ a ds).length;rw[gk];lia
 .rw[if_neg e,if_neg e];refine⟨b++[v],?_,by simp[l],gO.append _ _ _ _ h (gO.one rd)⟩;rw[List.zip_append (by lia)];rfl
def TX (to ti tv:DE):DS:=λE a M=>tv a M λv M1=>to a M1 λo M2=>ti a M2 λk f=>match o with
 |.loc j=>∃b ds c,f[j]?=aa (aa (.jP b ds))/\IT k=aa c/\b.length<az/\E.nx a (f.set j (aa (.jP (qQ c v b ds).1 (qQ c v b ds).2)))
 |_=>False
set_option tactic.hygienic true in
def XN(T:X.A.units+1<gw)(h:JE X o to)(hi:JE X i ti)(m:JE X e tv)(U:c5 e (aa (.Subscript o i x6)) pos.line X.env=pure ao:=by rfl):JS X (.Assign [.Subscript o i x6] e pos) (TX to ti tv):=by
 refine⟨λP Q b M w q=>m.mono b _ _ _ (λv M1 q=>h.mono b _ _ _ (λod M2 q=>hi.mono b _ _ _ (λk Y q=>?_) q) q) q,PS.weak (WN T h.p hi.p m.p U) λE K H q=>?_⟩
 .cases od<;>first|exact q.elim|skip
  obtain⟨c,ds,f,g,n,B,q⟩:=q;exact⟨c,ds,f,g,n,B,w.nx _ _ q⟩
 .obtain⟨F,S,b,M,r,q⟩:=q;refine⟨F,S,b,M,r,m.mono b _ _ _ (λd M1 q v iq H1 e1 o1 r1=>⟨F,iq,b,M1,r.grow e1 o1,h.mono b _ _ _ (λod M2 q u sZ H2 e2 o2 r2=>⟨F,sZ,b,M2,r.grow (e1.trans e2) o2,hi.mono b _ _ _ (λk Y q y yk H3 e3 I r3=>?_) q⟩) q⟩) q⟩;cases od<;>first|exact q.elim|skip
  rename_i j q0;obtain⟨c,ds,f,g,n,B,q⟩:=q;have C:=e3.rep r2;obtain⟨a,J,rfl⟩:=C;obtain⟨a',L,N,hq,G,O⟩:=I.own j _ g;rw[J] at L;cases L;have rd:=(e2.trans e3).rep r1;obtain⟨ws,i1,i2,i3⟩:=Qb (k:=f) rd c ds N O G;cases sH r3 n;have je:(c.zip N).length<az:=by rw[dJ,<-gO.length _ _ O,G,ajA,<-G];exact B
  obtain⟨o4,e4⟩:=I.write (y:=.jP _ _) (z:=.dK (qI _ f v)) g J (λHh eh=>by subst eh;exact⟨ws,by rw[gZ,i1],i2,i3⟩)
  have ex:=((e1.trans e2).trans e3).trans e4;exact⟨a,_,rfl,LB.k hq je,q K yk _ ex (r.grow ex o4)⟩
end
section
variable {x:aB}
end
noncomputable def uR(a b:aB):Bool:=!decide (b.cps.toList<a.cps.toList)
def Oh{a b:aB}(h:a.cps.toList=b.cps.toList):a=b:=by cases a;congr 1;exact Array.toList_inj.mp h
def TY(h:uR a b=ai)(g:uR b a=ai):a=b:=by unfold uR at h g;simp only [fJ,decide_eq_false_iff_not] at h g;exact Oh (List.le_antisymm (gK.mp h) (gK.mp g))
def Qc(a b:aB):uR a b=ai\/uR b a=ai:=by
 unfold uR;simp only [fJ,decide_eq_false_iff_not];by_cases h:b.cps.toList<a.cps.toList
 .right;exactλg=>List.lt_irrefl _ (List.lt_trans h g)
 .left;exact h
def FG(h:uR a b=ai)(g:uR b c=ai):uR a c=ai:=by unfold uR at*;simp only [fJ,decide_eq_false_iff_not] at*;exact gK.mpr (List.le_trans (gK.mp h) (gK.mp g))
section
variable {β:Type}
noncomputable def u6(key:β->aB)(x:β):List β->List β
 |[]=>[x]
 |y::r=>if uR (key x) (key y)=ai then x::y::r else y::u6 key x r
noncomputable def Qd(key:β->aB):List β->List β
 |[]=>[]
 |x::r=>u6 key x (Qd key r)
theorem zI(key:β->aB)(x:β):∀l:List β,(u6 key x l).Perm (x::l)
 |[]=>fh _
 |y::r=>by
  unfold u6;split
  .exact fh _
  .exact((zI key x r).cons y).trans (gy.swap x y r)
theorem p7(key:β->aB):∀l:List β,(Qd key l).Perm l
 |[]=>fh _
 |x::r=>(zI key x _).trans ((p7 key r).cons x)
set_option tactic.hygienic true in
theorem AF(key:β->aB)(x:β):∀l:List β,l.Pairwise (λa b=>uR (key a) (key b)=ai)->(u6 key x l).Pairwise (λa b=>uR (key a) (key b)=ai)
 |[],_=>by simp[u6]
 |y::r,h=>by
  unfold u6;have hc:=dD.mp h;split
  .rename_i e;refine dD.mpr ⟨λz c=>?_,h⟩;rcases aN.mp c with rfl|c
   .exact e
   .exact FG e (hc.1 z c)
  .rename_i e;refine dD.mpr ⟨λz c=>?_,AF key x r hc.2⟩;rcases aN.mp ((zI key x r).mem_iff.mp c) with rfl|c
   .rcases Qc (key y) (key z) with f|f
    .exact f
    .exact absurd f e
   .exact hc.1 z c
theorem xk(key:β->aB):∀l:List β,(Qd key l).Pairwise (λa b=>uR (key a) (key b)=ai)
 |[]=>ajz
 |x::r=>AF key x _ (xk key r)
theorem CO{key:β->aB}:∀{l m:List β},l.Perm m->l.Pairwise (λa b=>uR (key a) (key b)=ai)->m.Pairwise (λa b=>uR (key a) (key b)=ai)->(∀a∈l,∀b∈l,key a=key b->a=b)->l=m
 |[],m,p,_,_,_=>(List.nil_perm.mp p).symm
 |x::l,m,p,h,g,i=>by
  cases m with
  |nil=>exact absurd p (by simp)
  |cons y m=>
   have hc:=dD.mp h;have f:=dD.mp g;have e:x=y:=by
    have n:=p.mem_iff.mp aE;have j:=p.mem_iff.mpr aE;rcases aN.mp n with e|o
    .exact e
    .rcases aN.mp j with e|c
     .exact e.symm
     .exact i x aE y j (TY (hc.1 y c) (f.1 x o))
   subst e;rw[CO p.cons_inv hc.2 f.2 λa ha b hb=>i a (ax _ ha) b (ax _ hb)]
def BB{l m:List β}(p:l.Perm m)(h:l.Pairwise (λa b=>uR (key a) (key b)=ai))(i:∀a∈m,∀b∈m,key a=key b->a=b):l=Qd key m:=
 CO (p.trans (p7 key m).symm) h (xk key m) λa ha b hb=>i a (p.mem_iff.mp ha) b (p.mem_iff.mp hb)
end
noncomputable def AG:List aB->List aB:=Qd id
theorem CP:∀(p:aB) (l:List aB),risingS p l=ai->(p::l).Pairwise (λa b=>uR a b=ai)
 |p,[],_=>by simp
 |p,x::r,h=>by
  have h:(!ltCps _ _&&risingS x r)=ai:=h;rw[aU] at h;have e:=CP x r h.2;have f:=by have:=h.1;rw[ltCps_eq] at this;exact this
  refine dD.mpr ⟨λz c=>?_,e⟩;rcases aN.mp c with rfl|c
  .exact f
  .exact FG f ((dD.mp e).1 z c)
theorem Ma:∀(l:List aB),ak0 l=ai->l.Pairwise (λa b=>uR a b=ai)
 |[],_=>ajz
 |x::r,h=>CP x r h
def Qe(p:l.Perm m)(h:ak0 l=ai):l=AG m:=BB p (Ma l h) λ_ _ _ _ e=>e
end L3
namespace L2
section
variable {prog:aP} {A:bq} {s:aq}
def CQ{C:List ah->Prop}
(hc:∀R:List ah->aq->Prop,(∀(f:aw) (tk:Nat) (acc:List ah),(∀b o,s.heap.get? b=aa o->f.get? b=aa o)->C acc->R acc {s with heap:=f,toks:=tk})->wpAny (model prog w) A.in1 (collect x) R E s)
(n:∀acc,C acc->acc.length<64/\∃ss,cZ acc ss)
(h:∀(c f:aw) (p:ar) (tk e:Nat) (acc:List ah) (out:List ah) (ss a:List aB),C acc->cZ acc ss->(∀b o,s.heap.get? b=aa o->c.get? b=aa o)->(∀b o,c.get? b=aa o->f.get? b=aa o)->c.objs.size<=p->
   f.get? p=aa {cls:=.type ap,data:=.seq out.toArray e}->cZ out a->a.Perm ss->ak0 a=ai->Q (.ref p) {s with heap:=f,toks:=tk}):
  wpAny (model prog w) A (call (.builtin gc) [x]) Q E s:=by
 refine gG akq akc akd (ak1 _) ?_;refine ae (av ?_);refine ae (hc _ λc tk acc q ca=>?_);obtain⟨r,ss,g⟩:=n acc ca;refine ae (fC ?_ (by rw[bD];lia));have i:(c.push _).get? _=aa (bX ap acc.toArray 0):=aJ _ rfl;refine ae (bJ (cT ajX ⟨_,i,rfl⟩ ajU (list_sort_treeK akK i g.keysOf (λB G rest e=>ak2 (by rw[<-e];exact g)) r λH a1 a2=>⟨_,rfl,?_⟩) (akA _)));obtain⟨a,u,v,y⟩:=sorted_out_str g a1 a2;obtain⟨e,z⟩:=alZ i;refine av ⟨_,rfl,h c _ _ tk e acc _ ss a ca g q (λb o m=>?_) (aC _) (by exact z) u v y⟩;have lt:=aH m;have j:b<(c.push (bX ap acc.toArray 0)).objs.size:=by rw[ajQ];exact cV lt
 exact(alS (bg lt) j).trans (aj _ m)
end
section
variable {prog:aP} {A:bq} {s:aq} {qK:Array Keyed} {κ:PyProof.Rows.KeyKind}
theorem FH:∀f n r:Nat,r<=1->minRun' f n r<=n+r
 |0,n,r,_=>aC _
 |f+1,n,r,h=>by
  rw[minRun'_succ];by_cases hn:n<64
  .rw[if_pos hn];exact aC _
  .rw[if_neg hn];have:=FH f (n/2) (max r (n%2)) (by lia);lia
def Qf{st:SortSt}(g:κ.OneLt)(h:KeysOf κ qK)(m:SBase qK st)(o:1<=qK.size)(up:ajG κ (ajl st) qK.size)(q:Q (aa qK.size) st):wpS (model prog w) A E s (countRun' 0 qK.size) Q st:=by
 rw[countRun0_eq];refine ajH (wpS_ascLoopK g h (aC _) (aC 1) o m (λi j a b=>up i j a (by lia)) λn n1 n2 _ c=>?_);have e:n=qK.size:=by
  by_cases e:n=qK.size
  .exact e
  .have p:=c.resolve_left e;have f:κ.blt _ _=ao:=up (n- 1) n (by lia) (by lia);rw[p] at f;cases f
 subst e;rw[if_pos (by simp)];exact akB q
def TZ{st:SortSt}(g:κ.OneLt)(h:KeysOf κ qK)(a:SBase qK st)(j:1<=qK.size)(up:ajG κ (ajl st) qK.size)
(q:∀e,ajl e=ajl st->akC e=am->Q () e):wpS (model prog w) A E s sortRuns' Q st:=by
 have u:=FH qK.size qK.size 0 (bu _);have sz:=a.size;have m:=q (akD st ((aj1 st).push (0,qK.size,0))) rfl a.failed;have n:(aj1 st).push (0,qK.size,0)=#[(0,qK.size,0)]:=by rw[a.pend];rfl
 rw[sortRuns'_eq];refine ajH (wpS_get ?_);rw[sz];refine ajH (wpS_mono (wpS_forRange (I:=λi c t=>(i=0/\c=(am,0)/\t=st)\/(1<=i/\c=(am,qK.size)/\t=akD st ((aj1 st).push (0,qK.size,0)))) (Q:=λc t=>c=(am,qK.size)/\t=akD st ((aj1 st).push (0,qK.size,0))) ?s ?f (.inl ⟨rfl,rfl,rfl⟩)) ?r);case f=>
  rintro c t (⟨z,_⟩|⟨_,o,p⟩)
  .omega
  .exact⟨o,p⟩
 case s=>
  rintro i c t _ _ (⟨rfl,rfl,rfl⟩|⟨_,rfl,rfl⟩)
  .rw[if_neg (by lia)];refine ajH (Qf g h a j up ?_);dsimp only;rw[if_neg (by lia)];refine ajH (wpS_get ?_);rw[show(aj1 t).back?=am by rw[a.pend];rfl];refine ajH (wpS_modify (akB (.inr ⟨aC 1,?_,rfl⟩)));rw[ba]
  .rw[if_pos (aC _)];exact akB ⟨rfl,rfl⟩
 case r=>
  intro c t b;obtain⟨rfl,rfl⟩:=b;refine ajH (wpS_mono (wpS_forRange (I:=λ_ c t=>c=(am,())/\t=akD st ((aj1 st).push (0,qK.size,0))) ?_ (λ_ _ z=>z) ⟨rfl,rfl⟩) ?_)
  .intro i c t _ _ b;obtain⟨rfl,rfl⟩:=b;refine ajH (wpS_get ?_);rw[if_pos (by rw[n];exact aC 1)];exact akB ⟨rfl,rfl⟩
  .intro c t b;obtain⟨rfl,rfl⟩:=b;exact akB m
def T0(f:s.heap.get? a=aa (bX ap b.toArray n))(i:cZ b ss)(p:2<=b.length)(B:b.length<=1000)
(up:ajG strKind (aj2 b) (aj2 b).size)(h:P (.done (.ret .none)) {s with heap:=sortedHeap s.heap a b ((aj2 b).map (·.2))}):
  wpAny (model prog w) A (bU.«list.sort» ⟨[.ref a],[]⟩) P E s:=by
 have ha:=aH f;have g:=fM f (λ_=>#[]);generalize j:s.heap.update a (bP λ_=>#[])=q at g;have m:((q.push (bX dy b.toArray 0)).push (bX ap #[] 0)).get? a=aa _:=aj _ (aj _ g);have big:¬b.toArray.size<2:=by simp;lia
 rw[alK];refine ae (ake f rfl (ae (d6 f rfl ?_)));rw[j];refine ae (gz (s:={s with heap:=q}) g rfl (ae (ajW (ae (fC (bJ ?_))))));dsimp only;rw[if_neg big,if_neg big];obtain⟨c,e,r,rfl⟩:∃c e r,b=c::e::r:=by
  match b,p with
  |c::e::r,_=>exact⟨c,e,r,rfl⟩
 rw[ak2 i];refine ae (av ?_);refine ae (cc (TZ (κ:=strKind) akK (Q:=λ_ t=>ajl t=aj2 (c::e::r)/\akC t=am) i.keysOf ⟨Array.Perm.refl _,rfl,rfl,rfl⟩ (by rw[akf];lia) up λt u v=>⟨u,v⟩) ?_ λ_ _ z=>z)
 rintro⟨⟨⟩,t⟩ C ⟨rfl,e1,e2⟩
 dsimp only;rw[e1,e2];have y:(Array.map (λx:Keyed=>x.2) (aj2 (c::e::r))).size<=az:=by rw[Array.size_map,akf,bD];lia
 unfold sortedHeap at h;rw[j] at h;refine ae (gz m rfl (ae (d6 m rfl ?_ (hsz2:=Nat.le_succ_of_le y))));rw[bne_self_eq_false,if_neg bi];exact av h
def FK{x:ah}{C:List ah->Prop}
(hc:∀R:List ah->aq->Prop,(∀(f:aw) (tk:Nat) (acc:List ah),(∀b o,s.heap.get? b=aa o->f.get? b=aa o)->C acc->R acc {s with heap:=f,toks:=tk})->wpAny (model prog w) A.in1 (collect x) R E s)
(J:∀acc,C acc->cZ acc ss)(Y:2<=ss.length)(lz:ss.length<=1000)(up:ss.Pairwise λa b=>L3.uR a b=ai)
(h:∀(c f:aw) (p:ar) (tk e:Nat) (acc:List ah),C acc->(∀b o,s.heap.get? b=aa o->c.get? b=aa o)->(∀b o,c.get? b=aa o->f.get? b=aa o)->c.objs.size<=p->
   f.get? p=aa {cls:=.type ap,data:=.seq acc.toArray e}->Q (.ref p) {s with heap:=f,toks:=tk}):
  wpAny (model prog w) A (call (.builtin gc) [x]) Q E s:=by
 refine gG akq akc akd (ak1 _) ?_;refine ae (av (ae (hc _ λc tk acc L ca=>?_)));have g:=J acc ca;have hl:=g.length;refine ae (fC ?_ (by rw[bD];lia));have n:(c.push (bX ap acc.toArray 0)).get? c.objs.size=aa _:=aJ _ rfl;have r:ajG strKind _ (aj2 acc).size:=λi j M v=>by
  rw[akf] at v;have at_:∀i,i<acc.length->∃(y:aB),ss[i]?=aa y/\KK strKind _ i=y.cps.toList:=λi hi=>by
   obtain⟨y,t,B⟩:=g.all acc[i] (fU hi);refine⟨y,?_,KK_str (t:=t) (q:=acc[i]) (by rw[akf];exact hi) ?_⟩
   .rw[<-g.strs,bn,ay hi,B];rfl
   .unfold aj2;rw[Array.getElem_zip];refine Prod.ext ?_ ?_
    .simpa using B
    .simp
  obtain⟨y,u,N⟩:=at_ i (by lia);obtain⟨z,m,O⟩:=at_ j v;show decide _=ao;rw[N,O];by_cases e:i=j
  .subst e;rw[u] at m;cases m;simpa using List.lt_irrefl _
  .have G:j<ss.length:=by lia
   have H:i<ss.length:=by lia
   have:=dI.mp up i j H G (by lia);rw[ay H] at u;rw[ay G] at m;cases u;cases m;unfold L3.uR at this;simpa using this
 refine ae (bJ (cT ajX ⟨_,n,rfl⟩ ajU (T0 n g (by lia) (by lia) r ⟨_,rfl,?_⟩) (akA _)));obtain⟨e,T⟩:=alZ (vs:=acc) n;have U:(aj2 acc).map (·.2)=acc.toArray:=by apply Array.ext';rw[Array.toList_map,pairsOf_toList,fX (aC _)]
 refine av ⟨_,rfl,h c _ c.objs.size tk e acc ca L (λb o I=>?_) (aC _) (T.trans (by rw[U]))⟩;have lt:=aH I;exact(alS (bg lt) (by rw[ajQ];exact cV lt)).trans (aj _ I)
end
def CS (ss:List aB):Prop:=ss.length<64\/(2<=ss.length/\ss.length<=1000/\ss.Pairwise λa b=>L3.uR a b=ai)
def CS.l(h:CS ss):ss.length<=1000:=by rcases h with h|h<;>lia
def FM(h:ss.Pairwise λa b=>L3.uR a b=ai):ak0 ss=ai:=by refine sortedS_of_pairwise ss (h.imp λ{a b} z=>?_);rw[ltCps_eq];unfold L3.uR at z;simpa using z
section
variable {X:Cx}
theorem FN:∀{a:List ah} {ss:List aB},cZ a ss->Vals (ss.map V.str) a
 |_,_,.nil=>.nil
 |_,_,.cons x t h=>.cons ⟨t,rfl⟩ (FN h)
theorem zJ:∀{ss:List aB} {a:List ah},Vals (ss.map V.str) a->cZ a ss
 |[],_,h=>by cases h;exact .nil
 |x::ss,_,h=>by
  cases h with
  |cons r t=>obtain⟨u,rfl⟩:=r;exact .cons x u (zJ t)
def tM(I:Inv X cf y H s)(v:a.length<=1000)(q:∀l,H l=am->Q (.ref l) (upd H l (.lst ((L3.AG a).map V.str)))){g f:aw}
(j:∀b o,s.heap.get? b=aa o->g.get? b=aa o)(m:∀b o,g.get? b=aa o->f.get? b=aa o)(h:g.objs.size<=p)(n:f.get? p=aa {cls:=.type ap,data:=.seq out.toArray e})(r:cZ out c)(pm:c.Perm a)(sd:ak0 c=ai):
  EP X cf y Q (.ref p) {s with heap:=f,toks:=tk}:=by
 have e1:=L3.Qe pm sd;subst e1;have i:=I.kept (t':=tk) j;have u:((L3.AG a).map V.str).length<=az:=by rw[ak,pm.length_eq,bD];lia
 exact⟨.ref p,_,i.laid m h (show jq X.prog X.w _ f _ (.lst _) from⟨u,out,e,FN r,n⟩),rfl,q p (i.iC.fresh h)⟩
def GV:nz X (.builtin gc) (λxs H Q=>∃p ss,xs=[.ref p]/\nr X.K H p (ss.map V.str)/\CS ss/\∀l,H l=am->Q (.ref l) (upd H l (.lst ((L3.AG ss).map V.str)))):=by
 intro cf s F H xs us Q I r h;obtain⟨p,ss,rfl,z,f,q⟩:=h;obtain⟨u,rfl,B⟩:=vals1 r;cases B;obtain⟨ig,n,pl,_⟩:=I.list z;have a:=zJ n;have C:=n.length;rw[ak] at C;have v:=f.l;have cl:∀R:List ah->aq->Prop,(∀(c:aw) (tk:Nat) (acc:List ah),(∀b o,s.heap.get? b=aa o->c.get? b=aa o)->acc=ig->R acc {s with heap:=c,toks:=tk})->wpAny (model X.prog X.w) X.A.in1 _ R X.xe s:=λR h=>by refine ak3 pl.isList ?_ (by rw[bD];lia);refine h _ s.toks ig (λb o q=>?_) rfl;have lt:=aH q;rw[dU _ _ _ _ (bg lt),aj _ q]
 rcases f with f|⟨E,G,y⟩
 .refine CQ cl (λacc e=>⟨by rw[e];lia,ss,by rw[e];exact a⟩) (λJ c p tk e acc out s1 s2 ca sa g i j m L pm sd=>?_);subst ca;have e2:s1=ss:=by rw[<-sa.strs,a.strs]
  subst e2;exact tM I v q g i j m L pm sd
 .exact FK cl (λacc e=>by rw[e];exact a) E G y λJ c p tk e acc ca g i j m=>tM I v q g i j m (by rw[ca];exact a) (fh _) (FM y)
def acB(h:(iM P w).is (.inr x) v=ai):∃t,v=.str x t:=by
 have h:eC x v=ai:=h;cases v<;>first|(simp[eC] at h;done)|skip
 simp[eC] at h;subst h;exact⟨_,rfl⟩
theorem FQ:∀{b:List ah} {a:List (Key×ah)} {ss:List aB},a.map (·.1)=ss.map dW->b.length=a.length->(∀(i:Nat) (v:ah),b[i]?=aa v->∃k x,a[i]?=aa (k,x)/\(iM P w).is k v=ai)->cZ b ss
 |[],a,ss,e,l,h=>by
  cases a with
  |nil=>
   cases ss with
   |nil=>exact .nil
   |cons _ _=>simp at e
  |cons _ _=>simp at l
 |v::b,[],ss,e,l,h=>by simp at l
 |v::b,(k,x)::a,[],e,l,h=>by simp at e
 |v::b,(k,x)::a,y::ss,e,l,h=>by simp only [aZ,List.cons.injEq] at e;obtain⟨e1,e2⟩:=e;subst e1;obtain⟨k',f,e3,e4⟩:=h 0 v rfl;cases e3;obtain⟨t,rfl⟩:=acB e4;exact .cons y t (FQ e2 (by simpa using l) λi u c=>h (i+1) u (by simpa using c))
def GW(N:X.A.handled=am):nz X (.builtin gc) (λxs H Q=>∃p j ss,xs=[.ref p]/\Rd H p (.dK j)/\j.map (·.1)=ss.map dW/\CS ss/\∀l,H l=am->Q (.ref l) (upd H l (.lst ((L3.AG ss).map V.str)))):=by
 intro cf s F H xs us Q I r h;obtain⟨p,j,ss,rfl,E,G,m,q⟩:=h;obtain⟨u,rfl,O⟩:=vals1 r;cases O;obtain⟨z,hd,g,rel,dd⟩:=Av I.iC E;obtain⟨ep,J⟩:=dd.dictAt;have c:g.map (·.1)=ss.map dW:=by
  rw[<-G];clear G dd J E;induction rel with
  |nil=>rfl
  |cons r t T=>rw[aZ,aZ,r.1,T (by simp at z;lia)]
 have U:=by have:=congrArg f8 c;simpa using this
 have key:∀acc:List ah,(∃a:Array ah,acc=a.toList/\ItemsOf (λi v=>∃k x,g[i]?=aa (k,x)/\(iM X.prog X.w).is k v=ai) a g.length)->cZ acc ss:=by intro acc Y;obtain⟨a,rfl,i1,i2⟩:=Y;exact FQ c (by exact i1) λi v hv=>i2 i v (by rw[<-cY];exact hv)
 have L:=m.l;have cl:∀R:List ah->aq->Prop,(∀(f:aw) (tk:Nat) (acc:List ah),(∀b o,s.heap.get? b=aa o->f.get? b=aa o)->(∃a:Array ah,acc=a.toList/\ItemsOf (λi v=>∃k x,g[i]?=aa (k,x)/\(iM X.prog X.w).is k v=ai) a _)->R acc _)->wpAny _ X.A.in1 _ R X.xe s:=
  λR h=>W.kdu_collect (W.kdl_dict hd) N J (by rw[bD];lia) λf tk acc k i=>h f tk _ k ⟨acc,rfl,i⟩
 rcases m with m|⟨g1,g2,M⟩
 .refine CQ cl (λacc ca=>⟨?_,ss,key acc ca⟩) (λh1 f p tk e acc out s1 s2 ca sa n y B C ho pm sd=>?_)
  .rw[(key acc ca).length];lia
  .have e2:s1=ss:=by rw[<-sa.strs,(key acc ca).strs]
   subst e2;exact tM I L q n y B C ho pm sd
 .exact FK cl key g1 g2 M λh1 f p tk e acc ca n y B C=>tM I L q n y B C (key acc ca) (fh _) (FM M)
end
end L2
namespace L3
open L2
section
variable {X:Cx}
def XO:D->(List aB->Prop)->Prop
 |.lst xs,C=>∃ss:List aB,xs=ss.map D.str/\CS ss/\C ss
 |.jP a _,C=>∃ss:List aB,a=ss.map dW/\CS ss/\C ss
 |_,_=>False
def Qh(w:∀ss,C ss->a ss)(h:XO d C):XO d a:=by cases d<;>first|exact h.elim|(obtain⟨ss,b,c,e⟩:=h;exact⟨ss,b,c,w _ e⟩)
def Jo:GF:=λds M Q=>match ds with
 |[d]=>XO (vw M d) λss=>Q (.lst ((AG ss).map .str)) M
 |_=>False
theorem zL{K:af}:∀{ss:List aB} {a:List V},gO K b H (ss.map D.str) a->a=ss.map V.str
 |[],a,h=>by exact h
 |x::ss,a,h=>by obtain⟨v,r,rfl,z,y⟩:=h;rw[z,zL y];rfl
def Md(j:X.A.handled=am):JBF X (.builtin gc) Jo:=by
 refine⟨λds M P Q w q=>?_,λcf s y H xs us Q I rs h=>?_⟩
 .match ds,q with
  |[d],q=>exact Qh (λss q=>w _ _ q) q
 .obtain⟨F,B,M,ds,o,b,h⟩:=h;match ds,h,b with
  |[d],q,b=>
   obtain⟨v,m,i⟩:=sI b;subst m;have q:XO (vw M d) λss=>fK X.K F B H M Q _ M:=q;generalize e1:vw M d=z at q;cases z<;>first|exact q.elim|skip
   .obtain⟨ss,rfl,c,q⟩:=q;obtain⟨a,n,rfl,e,f⟩:=jg o i e1;have e2:=zL f;subst e2;exact GV cf s y H _ us Q I rs ⟨a,ss,rfl,nr.of e,c,λp g=>q p _ B H Ext.refl o g ⟨_,rfl,gO.of_map _ _ (λ_=>pC) _⟩⟩
   .obtain⟨ss,rfl,c,q⟩:=q;obtain⟨a,n,rfl,e,r,f⟩:=w9 o i e1;have u:=gO.length _ _ f;refine GW j cf s y H _ us Q I rs ⟨a,_,ss,rfl,e,?_,c,λp g=>q p _ B H Ext.refl o g ⟨_,rfl,gO.of_map _ _ (λ_=>pC) _⟩⟩;rw[List.map_fst_zip (by lia)]
end
end L3
namespace L2
noncomputable def A9(val:Nat->aB):Nat->List aB
 |0=>[]
 |i+1=>ajR (A9 val i) (val i)
theorem Oi(val:Nat->aB):∀i,(A9 val i).length<=i
 |0=>aC _
 |i+1=>by
  have a:=Oi val i;unfold A9 ajR;split
  .omega
  .simp;lia
def T1(a:List aB)(v k:aB):(ajR a v).any (·==k)=(a.any (·==k)||decide (k=v)):=by
 unfold ajR;by_cases h:a.any (·==v)=ai
 .rw[if_pos h];by_cases e:k=v
  .subst e;rw[h];rfl
  .simp[e]
 .rw[if_neg h];by_cases e:k=v
  .subst e;simp
  .have hb:(v==k)=ao:=by simpa usingλz:v=k=>e z.symm
   simp[hb,e]
def T2(a:List aB)(v:aB):(ajR a v).length=if a.any (·==v) then a.length else a.length+1:=by unfold ajR;split<;>simp
section
variable {prog:aP} {A:bq} {s:aq}
abbrev zM(prog:aP)(w:bt)(h:aw)(a:ar)(val:Nat->aB)(i:Nat):Prop:=h.SetOf (PySem.strKind prog w) a (λk=>(A9 val i).any (·==k)) (A9 val i).length
def Qi{R:akx->aq->Prop}{It:ar}{I h:List ar}{G:Array akg->Array akg->Prop}{n:Nat}{P:Nat->ah->Prop}{St:Nat->aq->Prop}(W:WalksS prog w A.in1 It I h G n P St)(a:ar)(c:a∉I)
(val:Nat->aB)(j:∀i v,P i v->∃t,v=.str (val i) t)(hb:n+1<aj3):∀(k i:Nat) (s:aq),n- i=k->i<=n->St i s->zM prog w s.heap a val i->
   (∀m,Moved (a::h) G s m->zM prog w m.heap a val n->R (.ok (.ret .none)) m)->codeAny (model prog w) A (.builtin "set.update.loop" ⟨[.ref a,.ref It],[]⟩) R s:=by
 have f:a∉h:=λz=>c (W.sub _ z);intro k;induction k with
 |zero=>
  intro i s J hi p q r;obtain rfl:i=n:=by lia
  refine gH aje ?_;rw[bq.under_plainId ajf _];refine ae (W.done s _ _ p λs1 g=>?_);show wpAny _ A.in1 (ret cE) _ _ s1;obtain⟨o,es,u,t,y,more⟩:=q;exact av (r s1 (g.mono λb z=>ax _ z) ⟨o,es,u,t,g.heap a _ f y,more⟩)
 |succ k L=>
  intro i s J hi p q r;have lt:i<n:=by lia
  refine gH aje ?_;show wpAny _ A.in1 (pyNext (.ref It) >>= _) _ _ s;refine ae (W.item i s _ _ lt p λv s1 M B g=>?_);obtain⟨t,rfl⟩:=j i v M;have N:zM prog w s1.heap a val i:=by obtain⟨o,es,u,tb,y,more⟩:=q;exact⟨o,es,u,tb,g.heap a _ f y,more⟩
  refine ae (bJ ?_);unfold setAdd;refine bJ (ae ((PySem.strKind prog w).pyHash (k:=val i) (PySem.strKind_is _ _ _ _) ?_));have room:(A9 val i).length+1<aj3:=by have:=Oi val i;lia
  refine wpAny_setAddHashed_of (knd:=PySem.strKind prog w) (s:={s1 with toks:=s1.toks+1}) (PySem.strKind_is _ _ _ _) rfl N room λO sb Q=>?_;have T:zM prog w O a val (i+1):=SetOf_congr Q (λk=>(T1 _ _ _).symm) (T2 _ _).symm;refine av ⟨akL ajf _,L (i+1) _ (by lia) lt (W.frame _ s1 _ _ B (cG _) λb C o e=>?_) T λU H Y=>?_⟩
  .rw[sb.2 b λz=>c (z▸C)];exact e
  .refine r U (Moved.trans W.gtrans ((g.mono λb z=>ax _ z).then_heap (cG _) λb o C e=>?_) H) Y;rw[sb.2 b λz=>C (z▸aE)];exact e
theorem Oj:∀{a:List ah} {ss:List aB},cZ a ss->∀(i:Nat) (v:ah),a[i]?=aa v->∃t,v=.str (ss.getD i ⟨#[]⟩) t
 |_,_,.nil,i,v,h=>by simp at h
 |_,_,.cons x t r,0,v,h=>by simp at h;exact⟨t,h.symm⟩
 |_,_,.cons x t r,i+1,v,h=>by obtain⟨u,e⟩:=Oj r i v (by simpa using h);exact⟨u,by rw[e];rfl⟩
def Qj(L:A.handled=am)(M:s.heap.IsList l items)(hi:cZ items.toList ss)(hb:items.size+1<aj3)
(N:∀(f:aw) (tk:Nat),zM prog w f s.heap.objs.size (λi=>ss.getD i ⟨#[]⟩) items.size->(∀b o,s.heap.get? b=aa o->f.get? b=aa o)->Q (.ref s.heap.objs.size) {s with heap:=f,toks:=tk}):
  wpAny (model prog w) A (call (.type fi) [.ref l]) Q E s:=by
 obtain⟨c,tl,O⟩:=PySem.F.called_set.mro;have T:=PySem.F.called_set.made;have Xm:=PySem.F.called_set.sub;refine eJ (alL ?_);show wpAny _ _ (alz (.type fi) _) _ _ _;refine av ⟨Code.quiet_builtin _ (by decide+kernel),gH PySem.F.entry_type_call ?_⟩;rw[bq.under_plain (weight_type_call_type fi [.ref l] []) rfl];have n1:=PySem.F.called_set.notType;have n2:=PySem.F.called_set.canCreate;have n3:=PySem.F.typeCall_set_1 (.ref l);repeat (any_goals (first|assumption|wp_step))
 refine cX (code_set_new_1 (.ref l) (E:=E) (Q₁:=λv s1=>∃a:Bool,v=.ref s.heap.objs.size/\s1={s with heap:=s.heap.push {cls:=.type fi,dict:=am,data:=.set #[] 0 (.fresh 0 0 a)}}) λa=>⟨a,rfl,rfl⟩) λr s1 q=>?_;cases r with
 |error e=>exact q
 |ok fl=>
  cases fl with
  |ret v=>
   obtain⟨a,rfl,rfl⟩:=q;have j:(s.heap.push {cls:=.type fi,dict:=am,data:=.set #[] 0 (.fresh 0 0 a)}).get? s.heap.objs.size=aa {cls:=.type fi,dict:=am,data:=.set #[] 0 (.fresh 0 0 a)}:=aJ _ rfl;have u:aq.TypeIs {s with heap:=s.heap.push {cls:=.type fi,dict:=am,data:=.set #[] 0 (.fresh 0 0 a)}} (.ref s.heap.objs.size) fi:=⟨_,j,rfl⟩;have n4:=PySem.F.called_set.init.lookup;have n5:=PySem.F.called_set.init.bind (.ref s.heap.objs.size);repeat (any_goals (first|assumption|wp_step))
   refine cX (eW (R:=wants (λr s2=>r=.none/\∃f tk,s2={s with heap:=f,toks:=tk}/\zM prog w f s.heap.objs.size (λi=>ss.getD i ⟨#[]⟩) items.size/\(∀b o,s.heap.get? b=aa o->f.get? b=aa o)) E) PySem.F.called_set.init.plain PySem.F.entry_set_init (check_set_init_1 u ?_)) λU s2 g=>?_
   .obtain⟨Y,h,J,nl,LW⟩:=M;obtain⟨oc,od,ot,os⟩:=Y;simp only at J LW;subst J;subst LW;have m:(s.heap.push {cls:=.type fi,dict:=am,data:=.set #[] 0 (.fresh 0 0 a)}).IsList l items:=⟨_,aj _ h,rfl,nl,rfl⟩;have ai7:(s.heap.push {cls:=.type fi,dict:=am,data:=.set #[] 0 (.fresh 0 0 a)}).get? l=aa {cls:=.type ap,dict:=od,data:=.seq items nl,slots:=os}:=aj _ h;have m1:=PySem.F.sub_list_set;have m2:=PySem.F.sub_list_frozenset;have m3:(eN ap==eN fe)=ao:=by decide
    unfold bU.«set.__init__» noKeywords bU.Frozenset.updateFrom;generalize y:akt=PI
    wp_walk
    subst y;refine dS m (ae (wpAny_runValue ?_));have n:l<s.heap.objs.size:=aH h;have h3:A.in1.in1.in1.handled=am:=by simp[L]
    have B:l≠(s.heap.push {cls:=.type fi,dict:=am,data:=.set #[] 0 (.fresh 0 0 a)}).objs.size:=by rw[bZ];exact bg (cV n)
    have C:s.heap.objs.size∉[(s.heap.push {cls:=.type fi,dict:=am,data:=.set #[] 0 (.fresh 0 0 a)}).objs.size,l]:=by rw[bZ];simp only [aN,bN,or_false,not_or];exact⟨bg (ajr _),dM n⟩
    refine Qi ((aku.list h3 _ l B items).toS) s.heap.objs.size C (λi=>ss.getD i ⟨#[]⟩) (λi v hv=>Oj hi i v (by rw[cY];exact hv)) hb (items.size- 0) 0 _ (by lia) (bu _) ⟨⟨_,aJ _ rfl,rfl,rfl⟩,(m.push _)⟩ ?s0 ?fn;case s0=>exact SetOf_congr ((setObjOf_fresh (knd:=PySem.strKind prog w) a).setOf (aj _ j) (by unfold aj3;lia)) (λ_=>rfl) rfl
    case fn=>
     intro s3 p S3;obtain⟨G,g3,d3,t3,o3⟩:=s3;have eg:g3=s.gens:=p.gens;have ed:d3=s.drawn:=p.drawn;have eo:o3=s.os:=p.os;subst eg ed eo;refine av ?_;show wpAny _ _ (ret cE) _ _ _;refine av ⟨rfl,G,t3,rfl,S3,λb o e=>p.heap b o ?_ (aj _ (aj _ e))⟩;have z:=aH e;rw[bZ];simp only [aN,bN,or_false,not_or];exact⟨bg z,bg (cV z)⟩
   .cases U with
    |error e=>exact g
    |ok H=>
     cases H with
     |ret r=>
      obtain⟨rfl,f,tk,rfl,S4,k4⟩:=g;repeat (any_goals (first|assumption|wp_step))
      exact N _ _ S4 k4
     |_=>exact g.elim
  |_=>exact q.elim
end
section
variable {X:Cx}
noncomputable def XR(ss:List aB):Nat:=(A9 (λi=>ss.getD i ⟨#[]⟩) ss.length).length
noncomputable def XT(P:aP)(w:bt)(a:ar)(n:Nat):HO:=.ext λh=>∃S,h.SetOf (PySem.strKind P w) a S n
def XU(x:h.SetOf (PySem.strKind P w) a S n):jq P w H h a (XT P w a n):=by obtain⟨o,es,g,t,f,more⟩:=x;refine⟨⟨S,o,es,g,t,f,more⟩,⟨o,f⟩,λr u ⟨i,j,b,c,m,e1,q⟩ k=>⟨i,j,b,c,m,k _ e1,q⟩⟩
def Qk(c:X.A.handled=am):nz X (.type fi) (λxs H Q=>∃p ss,xs=[.ref p]/\nr X.K H p (ss.map V.str)/\ss.length<1000/\∀l,H l=am->Q (.ref l) (upd H l (XT X.prog X.w l (XR ss)))):=by
 intro cf s e H xs us Q I r h;obtain⟨p,ss,rfl,f,j,q⟩:=h;obtain⟨u,rfl,g⟩:=vals1 r;cases g;obtain⟨ig,a,pl,_⟩:=I.list f;have i:=zJ a;have b:=a.length;rw[ak] at b;refine Qj c pl.isList (by simpa using i) (by rw[aO];unfold aj3;lia) λm tk S k=>?_;have e3:ig.toArray.size=ss.length:=by rw[aO,b]
 rw[e3] at S;exact⟨.ref _,_,I.laid k (aC _) (XU S),rfl,q _ (I.iC.fresh (aC _))⟩
def Ql:nz X (.builtin kI) (λxs H Q=>∃p n,xs=[.ref p]/\H p=aa (XT X.prog X.w p n)/\Q (.int n) H):=by
 intro cf s e H xs us Q I r h;obtain⟨p,n,rfl,a,q⟩:=h;obtain⟨u,rfl,b⟩:=vals1 r;cases b;obtain⟨⟨S,o,es,g,t,c,hex,hd,i,hm,hb,f,hn⟩,_⟩:=(I.iC p _ a);subst hn;refine call_len_set c hex hd f ?_ ⟨.int es.size,H,I.tok _,⟨_,rfl⟩,q⟩;unfold aj3 at hb;have:(es.size:Int)<4096:=by lia
 exact Int.lt_of_lt_of_le this (by decide)
end
end L2
namespace L3
open L2
section
variable {X:Cx}
def Ol (te:DE):DE:=λa M Q=>te a M λd M1=>∃ss:List aB,vw M1 d=.lst (ss.map .str)/\ss.length<1000/\Q (.int (XR ss)) M1
def T3(m:X.A.handled=am)(ml:X.mg kI=am)(ms:X.mg fi=am)(b:JE X e te)(n:Gl X kI:=by rfl)(gs:Gl X fi:=by rfl)
(h:aV [.Call (.Name fi p2) [e] [] Me] X.env=[(ao,eval (.Call (.Name fi p2) [e] [] Me) X.env)]:=by rfl)(i:aV [e] X.env=[(ao,eval e X.env)]:=by rfl):
  JE X (.Call (.Name kI p) [.Call (.Name fi p2) [e] [] Me] [] pos) (Ol te):=by
 have s1:PE X (.Call (.Name fi p2) [e] [] Me) _:=zp (Qk m) gs ms (by rfl) (x8 b.p Gp i) (hn:=by decide) (qH:=by decide) (he:=i) (sC:=rfl);have s2:=Cd (p:=p) (pos:=pos) (Ql (X:=X)) n ml (by rfl) (x8 s1 Gp h) (hn:=by decide) (qH:=by decide) (he:=h) (sC:=rfl);refine⟨λc M P Q w q=>b.mono c _ _ _ (λd M1 q=>?_) q,PE.weak s2 λo H Q q=>?_⟩
 .obtain⟨ss,f,g,q⟩:=q;exact⟨ss,f,g,w _ _ q⟩
 .obtain⟨F,u,c,M,r,q⟩:=q;refine⟨F,u,c,M,r,b.mono c _ _ _ (λd M1 q v y H1 e1 j z=>?_) q⟩;obtain⟨ss,f,g,q⟩:=q;obtain⟨a,I,rfl,B,C⟩:=jg j z f;have e2:=zL C;subst e2;refine⟨a,ss,rfl,nr.of B,g,λl E=>⟨l,_,rfl,gZ,?_⟩⟩;obtain⟨G,e2⟩:=j.laid (x:=XT X.prog X.w l (XR ss)) E;exact q _ y _ (e1.trans e2) G i5
end
end L3
namespace L2
section
variable {prog:aP} {w:bt} {κ:Type} [DecidableEq κ] {knd:PySem.KeyKind prog w κ} {A:bq} {E:ah->aq->Prop} {s:aq} {d:ar} {g8:List (κ×ah)} {k:κ} {key v:ah}
def Jp(h:knd.is k key=ai)(hm:s.heap.DictOf knd d g8)(y:g8.length<=az)(yes:∀u,fY g8 k=aa u->Q u {s with toks:=s.toks+1})
(no:fY g8 k=am->∀m,m.DictOf knd d (g8++[(k,v)])->bM d s.heap m->Q v {s with heap:=m,toks:=s.toks+1}):wpAny (model prog w) A (akE d key v) Q E s:=by
 have mp:=hm.mapOf;obtain⟨o,es,B,c,hc,hd,r,n,hn⟩:=hm;have sz:es.size<=az:=by have e1:=n.length;rw[bT] at e1;lia
 have fnd:alf knd.is es k=fY g8 k:=by obtain⟨L,C,G,f,_,g,_,H⟩:=mp;rw[c] at f;cases f;rw[hd] at g;cases g;exact H k
 unfold akE;try with_reducible refine bJ ?_
 refine ae (knd.pyHash h ?_);refine ae (wpAny_dictFind_of h c hd r ?_);have I:(es.findIdx? λe=>knd.is k e.key)=g8.findIdx? λJ=>decide (J.1=k):=by rw[<-n.findIdx k];obtain⟨l⟩:=es;simp
 cases hi:es.findIdx? λe=>knd.is k e.key with
 |some i=>
  have j:fY g8 k=(es[i]?).map (·.val):=by rw[<-fnd,aj8,hi]
  refine ae (alx c hd ?_);cases p:es[i]? with
  |none=>
   have lt:=(Array.findIdx?_eq_some_iff_findIdx_eq.mp hi).1;rw[Array.getElem?_eq_getElem lt] at p;cases p
  |some e=>
   rw[p] at j;exact ae (ajk (av (yes e.val j)))
 |none=>
  have j:fY g8 k=am:=by rw[<-fnd,aj8,hi]
  have q:=not_mem_of_findIdx_none (I▸hi);refine ae (ajk (ae (wpAny_updateDictKeys (hz:=sz) c hd (av (no j _ ⟨_,_,B+1,cJ _ c (cn.isFreed_of_dict (cn.data_mapDictKeys hd _)),hc.mapDictKeys _,cn.data_mapDictKeys hd _,r.push h _,?_,?_⟩ (cA ..))))))
  .have z:=n.append h (knd.hash k) v;simpa using z
  .rw[aM,de];refine⟨hn,by simp,λa ha b hb=>?_⟩;simp only [aZ,ajs,bp] at hb;subst hb;exactλz=>q (z▸ha)
def GX(c:knd.is k key=ai)(lo:(d==cW)=ao):
  MeetsIn prog w (bU.«dict.setdefault» ⟨[.ref d,key,v],[]⟩) (λ_ R s=>∃g8,s.heap.DictOf knd d g8/\g8.length<=az/\(∀u,fY g8 k=aa u->R (.ok (.ret u)) {s with toks:=s.toks+1})/\
   (fY g8 k=am->∀a,a.DictOf knd d (g8++[(k,v)])->bM d s.heap a->R (.ok (.ret v)) {s with heap:=a,toks:=s.toks+1})):=
 .of_wp λA R s ⟨g8,hm,e,f,g⟩=>by refine ae ?_;refine ae (ak5 hm.mapOf.typeIs ?_);refine av ?_;show wpAny _ _ (if(d==cW)=ai then _ else(akE d key v >>= _)) _ _ s;rw[if_neg (by rw[lo];exact bi)];exact ae (Jp c hm e (λu h=>av ⟨u,rfl,f u h⟩) λhn a b sb=>av ⟨v,rfl,g hn a b sb⟩)
end
theorem Om(r:RelV v u):∀{b:List _} {c:List _},KV b c->KV (b++[(k,v)]) (c++[(k,u)])
 |_,_,.nil=>.cons ⟨rfl,r⟩ .nil
 |_,_,.cons a t=>.cons a (Om r t)
def Qm:MtR X "dict.setdefault" (λx xs H Q=>∃a b k v,x=.ref a/\xs=[kV k,v]/\H a=aa (.dK b)/\(∀u,rM b k=aa u->Q u H)/\(rM b k=am->b.length<az/\Q v (upd H a (.dK (b++[(k,v)]))))):=by
 intro cf s G H x xs v us Q I n rs h;obtain⟨a,b,k,z,rfl,rfl,f,yes,no⟩:=h;cases n;obtain⟨C,E,rfl,o,i⟩:=vals2 rs;obtain⟨p,lo,j,rel,dd⟩:=Su I.iC f;have r:j.length<=az:=by rw[<-rel.length];exact p
 refine call_meetsIn PySem.F.slot_dict_setdefault dd.typeIs PySem.F.entry_dict_setdefault (PySem.F.args_dict_setdefault_3 _ _ _) (GX (Au o) lo) ⟨j,dd,r,λu w=>?_,λhn A m sb=>?_⟩
 .have c:=rel.val k;rw[w] at c;cases e:rM b k with
  |none=>rw[e] at c;cases c
  |some y=>
   rw[e] at c;exact⟨y,H,I.tok _,c,yes y e⟩
 .have e:rM b k=am:=by
   have c:=rel.val k;rw[hn] at c;cases e:rM b k with
   |none=>rfl
   |some y=>rw[e] at c;cases c
  obtain⟨n1,q⟩:=no e;have B:∃q,A.get? a=aa q:=let⟨q,_,_,f,_⟩:=m;⟨q,f⟩;have g:KV (b++[(k,z)]) _:=Om i rel;exact⟨z,_,Bo I (by rw[f];exact dg) sb B (Gq (by simp;lia) lo g m),i,q⟩
end L2
namespace L3
open L2
def Jq:GM:=λd ds M Q=>match d,ds with
 |.loc j,[k,v]=>∃a es b,M[j]?=aa (aa (.jP a es))/\IT k=aa b/\(∀x,oB b a es=aa x->Q x M)/\(oB b a es=am->a.length<az/\Q v (M.set j (aa (.jP (a++[b]) (es++[v])))))
 |_,_=>False
def Qn:JM X "dict.setdefault" Jq:=by
 refine⟨λd ds M P Q w q=>?_,λcf s K H x xs v us Q I N rs h=>?_⟩
 .match d,ds,q with
  |.loc j,[k,v],⟨c,es,f,m,o,p,n⟩=>exact⟨c,es,f,m,o,λx e=>w _ _ (p x e),λe=>⟨(n e).1,w _ _ (n e).2⟩⟩
 .obtain⟨F,S,M,d,ds,ok,r,A,h⟩:=h;match d,ds,h,r,A with
  |.loc j,[k,y],⟨c,es,f,m,o,p,n⟩,r,A=>
   obtain⟨a,C,rfl⟩:=r;obtain⟨a',E,g,O,G,rd⟩:=ok.own j _ m;rw[C] at E;cases E;obtain⟨u1,i,rfl,T,J⟩:=FD A;have e1:=sH T o;subst e1;have hv:=gO.length _ _ rd;obtain⟨L,U⟩:=yo c es g rd G;refine Qm cf s K H _ _ v us Q I N rs ⟨a,c.zip g,f,i,rfl,rfl,O,λu B=>?_,λhn=>?_⟩
   .cases e:oB f c es with
    |none=>rw[U e] at B;cases B
    |some x=>
     obtain⟨Y,b,ru⟩:=L x e;rw[B] at b;cases b;exact vK.now ok (p x e) ru
   .have e:oB f c es=am:=by
     cases e:oB f c es with
     |none=>rfl
     |some x=>obtain⟨Y,b,_⟩:=L x e;rw[hn] at b;cases b
    obtain⟨n1,q⟩:=n e;refine⟨by rw[dJ];lia,?_⟩;have ez:c.zip g++[(f,i)]=(c++[f]).zip (g++[i]):=by rw[List.zip_append (by lia)];rfl
    obtain⟨o2,e2⟩:=ok.write (y:=.jP _ _) (z:=.dK (c.zip g++[(f,i)])) m C (λHh eh=>by subst eh;exact⟨g++[i],by rw[gZ,ez],by simp[G],gO.append _ _ _ _ rd (gO.one J)⟩)
    exact q _ S _ e2 o2 (e2.rep J)
end L3
namespace L2
section
variable {prog:aP} {A:bq} {s:aq}
def GY:alg (.type ap) "keys"=pure am:=am_miss_of_fast (by kernel_rfl)
def XV{a:ar}{o:cn}{xs:Array ah}{k:Nat}{Q:Option ah->aq->Prop}(j:s.heap.get? a=aa o)(hc:o.cls=.type ap)(h:o.data=.seq xs k)(hd:o.dict=am)(n:A.handled=am)
(p:∀(i:aw) (tk:Nat),(∀b o,s.heap.get? b=aa o->i.get? b=aa o)->Q am {s with heap:=i,toks:=tk}):wpAny (model prog w) A (alb (.ref a) "keys") Q E s:=by
 obtain⟨c,jP,q,sl⟩:=o;simp only at hc h hd;subst hc h hd;obtain⟨r,g,d,tk,os⟩:=s;have ty:∀f,(⟨r,g,d,f,os⟩:aq).TypeIs (.ref a) ap:=λ_=>⟨_,j,rfl⟩;have u:=sub_AttributeError;have v:=PySem.F.slot_list_getattribute.lookup;have y:=PySem.F.slot_list_getattribute.bind (.ref a);have z:=am_list_getattr_none;unfold alb getAttrBy? getAttrBy;repeat (any_goals (first|assumption|exact ty _|((with_reducible show wpAny _ _ (call (ah.builtin "list.__getattribute__") _ _) _ _ _);refine ajP PySem.F.slot_list_getattribute (ty _) am_entry_list_getattribute (PySem.F.args_list_getattribute_2 _ _) (meets_getattribute_miss_list a xs k sl "keys" _ GY (by decide) (by rw[bD];decide)) ⟨j,n,λi f e m=>?_⟩)|wp_step))
 obtain⟨B,C,G⟩:=m.there;show wpAny _ _ (alk _ _ _ _ _ _ _) _ _ _;unfold alk;repeat (any_goals (first|assumption|wp_step))
 exact p i f m.keeps
end
def u7:entryFor table uaF=aa bU.«dict.update.loop»:=entryFor_of_tree (by kernel_rfl)
def u8:plainId uaF=ai:=by decide+kernel
section
variable {prog:aP} {w:bt} {κ:Type} [DecidableEq κ] {knd:PySem.KeyKind prog w κ} {A:bq} {E:ah->aq->Prop} {s:aq}
def Mf{k:κ}(h:k∉a.map (·.1)):stored a k v=a++[(k,v)]:=by
 unfold stored;rw[if_neg];rw[List.any_eq_true]
 rintro⟨b,c,e⟩
 exact h (bC.mpr ⟨b,c,of_decide_eq_true e⟩)
def GZ (h:aw)(v:ah)(key val:ah):Prop:=∃a,v=.ref a/\aj4 h a #[key,val]
def pair_items(b:GZ s.heap v key val)(q:Q [key,val] s):wpAny (model prog w) A (bU.Dict.pairItems v) Q E s:=by obtain⟨a,rfl,o,e,hc,n,hd⟩:=b;obtain⟨c,f,h,sl⟩:=o;subst hc hd;obtain⟨b,g,d,tk,os⟩:=s;have ty:(⟨b,g,d,tk,os⟩:aq).TypeIs (.ref a) dy:=⟨_,e,rfl⟩;refine ae (akW ty ?_);refine ae (ae (wpAny_load e (av (av ?_))));exact q
set_option tactic.hygienic true in
def T4{R:akx->aq->Prop}{It:ar}{N m:List ar}{P:Nat->ah->Prop}{St:Nat->aq->Prop}{c:List (κ×ah)}{keys:List ah}(W:WalksS prog w A.in1 It N m G c.length P St)(d:ar)(O:d∉N)(lo:(d==cW)=ao)
(nd:(c.map (·.1)).Nodup)(hz:c.length<=az)(n:aw)(Y:∀i v,P i v->∃k key u,c[i]?=aa (k,u)/\knd.is k key=ai/\GZ n v key u)(r:n.get? d=am)(y:∀b∈m,n.get? b=am):
  ∀(k i:Nat) (s:aq),c.length- i=k->i<=c.length->St i s->(∀b o,n.get? b=aa o->s.heap.get? b=aa o)->s.heap.DictOf knd d (c.take i)->
   (∀B,Moved (d::m) G s B->B.heap.DictOf knd d c->R (.ok (.ret .none)) B)->codeAny (model prog w) A (.builtin uaF ⟨[.ref d,.ref It,ajj i,.none],[]⟩) R s:=by
 have g:d∉m:=λz=>O (W.sub _ z);intro k;induction k with
 |zero=>
  intro i s hk hi C h p H;obtain rfl:i=c.length:=by lia
  refine gH u7 ?_;refine ae (W.done s _ _ C λs1 f=>?_);rw[List.take_length] at p;refine ae (av (av (H s1 (f.mono λb z=>ax _ z) (p.at λo e=>f.heap d _ g e))))
 |succ k ih=>
  intro i s hk hi C h p H;have lt:i<c.length:=by lia
  refine gH u7 ?_;refine ae (W.item i s _ _ lt C λv s1 hv I f=>?_);obtain⟨kk,key,u,e1,e2,a,rfl,o,ho,ht⟩:=Y i v hv;have Q:=λb o e=>f.heap b o (λz=>by rw[y b z] at e;cases e) (h b o e);refine ae (bJ ?_);refine ae (wpAny_tryCatch (pair_items ⟨a,rfl,o,Q _ _ ho,ht⟩ ?_));have D1:s1.heap.DictOf knd d (c.take i):=p.at λo e=>f.heap d _ g e;refine bJ (wpAny_dictSet_pairs (hsz:=by rw[bW];lia) e2 D1 λT U sb=>?_);have J:kk∉(c.take i).map (·.1):=by
   intro z;obtain⟨⟨k',u'⟩,hm,rfl⟩:=bC.mp z;obtain⟨j,q⟩:=eI.mp hm;rw[List.getElem?_take] at q;split at q
   .rename_i ji;have g1:(c.map (·.1))[j]?=aa k':=by rw[bn,q];rfl
    have g2:(c.map (·.1))[i]?=aa k':=by rw[bn,e1];rfl
    have:=(gL (by rw[ak];lia) nd).mp (g1.trans g2.symm);lia
   .cases q
  rw[Mf J] at U;have D3:T.DictOf knd d (c.take (i+1)):=by rw[List.take_add_one,e1];exact U
  refine av ⟨akL u8 _,ih (i+1) _ (by lia) lt (W.frame _ s1 _ _ I (cG _) λb L o e=>?_) (λb o e=>?_) D3 λs4 M D4=>?_⟩
  .rw[sb.2 b λz=>O (z▸L)];exact e
  .show T.get? b=aa o;rw[sb.2 b λz=>by rw[z,r] at e;cases e];exact Q b o e
  .refine H s4 (Moved.trans W.gtrans ((f.mono λb z=>ax _ z).then_heap (cG _) λb o L e=>?_) M) D4;rw[sb.2 b λz=>L (z▸aE)];exact e
def Mg(C:A.handled=am)(j:PlainL s.heap l items)(L:items.size=f.length)(nd:(f.map (·.1)).Nodup)(M:f.length<=az)(big:cW<s.heap.objs.size)
(N:∀(i:Nat) (v:ah),items[i]?=aa v->∃k key u,f[i]?=aa (k,u)/\knd.is k key=ai/\GZ s.heap v key u)
(O:∀(m:aw) (tk:Nat),m.DictOf knd s.heap.objs.size f->(∀b o,s.heap.get? b=aa o->m.get? b=aa o)->Q (.ref s.heap.objs.size) {s with heap:=m,toks:=tk}):
  wpAny (model prog w) A (call (.type fe) [.ref l]) Q E s:=by
 refine callType_codes (Q₁:=λv s1=>v=.ref s.heap.objs.size/\s1={s with heap:=s.heap.push {cls:=.type fe,data:=.dict #[]}}) PySem.F.kt_called_dict (PySem.F.kt_typeCall_dict_1 _) PySem.F.entry_dict_init (kt_code_dict_new _ ⟨rfl,rfl⟩) ?_
 rintro v s1 ⟨rfl,rfl⟩
 have p:(s.heap.push {cls:=.type fe,data:=.dict #[]}).DictOf knd s.heap.objs.size []:=aw.DictOf.new s.heap;refine⟨p.typeIs,PySem.F.args_dict_init_2 _ _,?_⟩;unfold bU.«dict.__init__»;refine ae ?_;unfold bU.Dict.selfAndRest;refine ae (ak5 p.typeIs ?_);refine av ?_;show wpAny _ _ (bU.Dict.updateFrom "dict.__init__" s.heap.objs.size (.ref l) [] .none) _ _ _;unfold bU.Dict.updateFrom;obtain⟨lt,H⟩:l<s.heap.objs.size/\(s.heap.push {cls:=.type fe,data:=.dict #[]}).IsList l items:=⟨aH j.isList.choose_spec.1,j.isList.push _⟩;refine ae (akW H.typeIs ?_);rw[if_pos (by decide)];obtain⟨o,n,I,hc,hd,q⟩:∃o n,s.heap.get? l=aa o/\o.cls=.type ap/\o.data=.seq items n/\o.dict=am:=let⟨o,n,a1,a2,a3,a4⟩:=j;⟨o,n,a1,a2,a4,a3⟩;refine ae (XV (aj _ I) hc hd q C λc T g=>?_);rw[if_pos (by rfl)];refine ae (ajk ?_);have J:c.IsList l items:=H.at λo e=>g _ _ e;refine ae (dS J ?_);refine av ⟨akL u8 _,?_⟩;have r:∀b o,s.heap.get? b=aa o->c.get? b=aa o:=λb o e=>g b o (aj _ e);have y:l<c.objs.size:=aH (r _ _ I);have B:=g _ _ (aJ _ rfl);have a:s.heap.objs.size<c.objs.size:=aH B;have W:=(aku.list (prog:=prog) (w:=w) (A:=A.in1.in1) (by simp[C]) c.objs.size l (bg y) items).toS;rw[L] at W;have U:(c.push {cls:=.type "list_iterator",data:=.fields #[.ref l,.int 0 0]}).DictOf knd s.heap.objs.size []:=(p.at λo e=>g _ _ e).push _;refine T4 (keys:=[]) W s.heap.objs.size (by simp only [aN,bN,or_false,not_or];exact⟨bg a,dM lt⟩) (beq_eq_false_iff_ne.mpr (dM big)) nd M s.heap N (cy (aC _))
  (λb hb=>by rw[bp.mp hb];exact cy (c7 a)) (f.length- 0) 0 _ (by lia) (bu _) ?st ?kp ?dd ?fn
 case st=>exact⟨⟨_,aJ _ rfl,rfl,rfl⟩,J.push _⟩
 case kp=>exactλb o e=>aj _ (r b o e)
 case dd=>rw[List.take_zero];exact U
 intro Y h D4;obtain⟨h4,g4,d4,t4,o4⟩:=Y;have eg:g4=s.gens:=h.gens;have ed:d4=s.drawn:=h.drawn;have eo:o4=s.os:=h.os;subst eg ed eo;refine⟨rfl,O h4 t4 D4 λb o e=>h.heap b o ?_ (aj _ (r b o e))⟩;have z:=aH e;simp only [aN,bN,or_false,not_or];exact⟨bg z,bg (ajy z a)⟩
end
section
variable {X:Cx}
def G0 (K:af)(H:Hp):List V->List (Key×V)->Prop
 |[],[]=>True
 |y::b,(k,u)::r=>(∃a,y=.ref a/\w4 K H a [kV k,u])/\G0 K H b r
 |_,_=>False
theorem AH(I:Inv X cf F H s):∀{f:List V} {g:List _} {ig:List ah},G0 X.K H f g->Vals f ig->
  ∃c:List _,KV g c/\ig.length=c.length/\∀(i:Nat) (v:ah),ig[i]?=aa v->∃k key u,c[i]?=aa (k,u)/\(iM X.prog X.w).is k key=ai/\GZ s.heap v key u
 |[],[],ig,_,r=>by cases r;exact⟨[],.nil,rfl,λi v h=>by simp at h⟩
 |[],_::_,_,h,_=>h.elim
 |_::_,[],_,h,_=>h.elim
 |y::f,(k,u)::g,ig,⟨⟨a,e,m⟩,h⟩,r=>by
  subst e;cases r with
  |@cons _ b _ bs n o=>
   cases n;obtain⟨c,p,q,z⟩:=AH I h o;obtain⟨A,B,C,_⟩:=I.tuple m;obtain⟨key,val,rfl,E,G⟩:=vals2 B;refine⟨(k,val)::c,.cons ⟨rfl,G⟩ p,by simp[q],λi v j=>?_⟩;cases i with
   |zero=>simp at j;subst j;exact⟨k,key,val,rfl,Au E,a,rfl,C⟩
   |succ i=>exact z i v (by simpa using j)
theorem Oo:∀{b:List (Key×V)} {c:List _},KV b c->c.map (·.1)=b.map (·.1)
 |_,_,.nil=>rfl
 |_,_,.cons a t=>by rw[aZ,aZ,a.1,Oo t]
def Mh(f:X.A.handled=am):nz X (.type fe) (λxs H Q=>∃p b a,xs=[.ref p]/\nr X.K H p b/\G0 X.K H b a/\(a.map (·.1)).Nodup/\∀l,H l=am->Q (.ref l) (upd H l (.dK a))):=by intro cf s F H xs us Q I r h;obtain⟨p,b,a,rfl,g,j,nd,q⟩:=h;obtain⟨u,rfl,m⟩:=vals1 r;cases m;obtain⟨ig,e,pl,y⟩:=I.list g;have z:=e.length;obtain⟨B,c,n,o⟩:=AH I j e;have C:=c.length;refine Mg f pl (by rw[aO,n]) (by rw[Oo c];exact nd) (by lia) I.big (λi v w=>o i v (by simpa using w)) λE tk D k=>?_;exact⟨.ref _,_,I.laid k (aC _) (Gq (by lia) (beq_eq_false_iff_ne.mpr (ci (bg I.big))) c D),rfl,q _ (I.iC.fresh (aC _))⟩
end
end L2
namespace L3
open L2
section
variable {X:Cx}
noncomputable def kD:Key->D
 |.inl i=>.int i
 |.inr x=>.str x
noncomputable def prD(kd:Key×D):D:=.tup [kD kd.1,kd.2]
def T6:GF:=λds M Q=>match ds with
 |[d]=>∃Jr:List (Key×D),vw M d=.lst (Jr.map prD)/\(Jr.map (·.1)).Nodup/\Q (.jP (Jr.map (·.1)) (Jr.map (·.2))) M
 |_=>False
def acC{K:af}(h:Rep K a H (kD k) v):v=kV k:=by cases k<;>(exact h)
theorem CT{K:af}(e:jC H c):∀{Jr:List _} {b:List V},gO K q H (Jr.map prD) b->∃us:List V,G0 K c b ((Jr.map (·.1)).zip us)/\gO K q H (Jr.map (·.2)) us
 |[],b,h=>by subst h;exact⟨[],trivial,gO.nil⟩
 | (k,d)::Jr,b,h=>by obtain⟨v,r,rfl,z,y⟩:=h;obtain⟨a,ws,rfl,f,g⟩:=z;obtain⟨p,i,rfl,j,m⟩:=FD g;cases acC j;obtain⟨us,n,o⟩:=CT e y;exact⟨i::us,⟨⟨a,rfl,mw e f⟩,n⟩,gO.cons m o⟩
def T7(g:X.A.handled=am):JBF X (.type fe) T6:=by
 refine⟨λds M P Q w q=>?_,λcf s B H xs us Q I rs h=>?_⟩
 .match ds,q with
  |[d],⟨Jr,b,c,q⟩=>exact⟨Jr,b,c,w _ _ q⟩
 .obtain⟨F,C,M,ds,o,e,h⟩:=h;match ds,h,e with
  |[d],⟨Jr,b,c,q⟩,e=>
   obtain⟨v,i,j⟩:=sI e;subst i;obtain⟨a,m,rfl,n,r⟩:=jg o j b;obtain⟨ws,u,f⟩:=CT ib r;have y:=gO.length _ _ f;rw[ak] at y;exact Mh g cf s B H _ us Q I rs ⟨a,m,_,rfl,nr.of n,u,by rw[List.map_fst_zip (by simp;lia)];exact c,λp z=>q p _ C H Ext.refl o z ⟨ws,rfl,by simp,f⟩⟩
end
end L3
namespace L2
section
variable {fs:List ar}
structure Cq(P:aP)(w:bt)(fs:List ar)(H:Hp)(s s':aq):Prop where
 os:s'.os=s.os
 bare:fE s'.gens
 iC:sy P w H s'.heap
 un:Un fs [] H H s.heap s'.heap
theorem Cq.refl(b:fE s.gens)(h:sy P w H s.heap):Cq P w fs H s s:=⟨rfl,b,h,Un.refl⟩
theorem Cq.trans(a:Cq P w fs H s s1)(b:Cq P w fs H s1 s2):Cq P w fs H s s2:=⟨b.os.trans a.os,b.bare,b.iC,a.un.trans b.un⟩
theorem Cq.kept(c:Cq P w fs H s s1)(k:∀b o,s1.heap.get? b=aa o->h'.get? b=aa o):Cq P w fs H s {s1 with heap:=h',toks:=tk}:=c.trans ⟨rfl,c.bare,c.iC.kept k,Un.kept k⟩
def Cq.other(c:Cq P w fs H s s1)(sb:bM a s1.heap i)(ha:H a=am)(hn:s.heap.get? a=am):Cq P w fs H s {s1 with heap:=i,toks:=tk}:=by
 have ne:∀{b:ar} {u:HO},H b=aa u->b≠a:=λe z=>by rw[z,ha] at e;cases e
 have g:∀{b:ar} {o:cn},s.heap.get? b=aa o->b≠a:=λe z=>by rw[z,hn] at e;cases e
 refine⟨c.os,c.bare,λb o e=>(c.iC b o e).tm (λh u hb q=>?_) (λ_ q=>q) (λ_ _ q=>q),⟨λb o e n hb f=>?_,λb o e n hb f=>?_,c.un.free,λb o e f=>?_,c.un.tq,c.un.qF,c.un.sA⟩⟩
 .have z:h≠a:=by
   rcases hb with rfl|hb
   .exact ne e
   .exact ne hb
  exact(sb.2 h z).trans q
 .exact(sb.2 b (g e)).trans (c.un.keep b o e n hb f)
 .obtain⟨sl,q⟩:=c.un.slot b o e n hb f;exact⟨sl,(sb.2 b (g e)).trans q⟩
 .obtain⟨j,q⟩:=c.un.there b o e f;exact⟨j,(sb.2 b (g e)).trans q⟩
def Cq.at(c:Cq P w fs H s s1)(e:s.heap.get? b=aa o)(n:H b=am)(hb:b∉fs):s1.heap.get? b=aa o:=c.un.keep b o e n hb (by simp)
theorem FR:∀{a:List ah} {ss:List aB},cZ a ss->cZ (a++[.str x t]) (ss++[x])
 |_,_,.nil=>.cons x t .nil
 |_,_,.cons y u h=>.cons y u (FR h)
def Qo(b:cZ keys.toList ss)(a:2<=keys.size):keyKind' keys=pure oneType':=by
 obtain⟨l⟩:=keys;match l,b,a with
 |[],_,a=>simp at a
 |[_],_,a=>simp at a
 |v1::c::r,b,_=>exact ak2 b
def Qp{keys:Array ah}{b:List ah}(c:cZ keys.toList ss):KeysOf ajg (keys.zip b.toArray):=by intro p a;rw[ksk_zip] at a;obtain⟨x,t,e⟩:=c.all _ (gb a).1;exact⟨x.cps.toList,by rw[e]⟩
def Js (ss:List aB)(b out:List ah):Prop:=∃a:List (aB×ah),a.Perm (ss.zip b)/\out=a.map Prod.snd/\a.Pairwise (λp q=>L3.uR p.1 q.1=ai)
def afO{keys:Array ah}(g:cZ keys.toList ss)(r:xs.Perm (keys.zip c.toArray))(v:ajG ajg xs xs.size):Js ss c (xs.map (·.2)).toList:=by
 have n:xs.toList.Perm (keys.toList.zip c):=by rw[<-ksk_zip];exact Array.perm_iff_toList_perm.mp r
 refine⟨xs.toList.map λp:Keyed=>(strOf p.1,p.2),?_,?_,?_⟩
 .have e:(keys.toList.zip c).map (λp:Keyed=>(strOf p.1,p.2))=ss.zip c:=by rw[<-g.strs,List.zip_map_left];exact eU λ⟨x,y⟩ _=>rfl
  rw[<-e];exact n.map _
 .rw[Array.toList_map,bd];rfl
 .rw[dI];intro i j hi z f;have b:=by simpa using hi
  have a:=by simpa using z
  have q:=v i j (c7 f) a;have mem:∀k (h:k<xs.size),∃x t,xs[k].1=ah.str x t:=λk h=>by have m:=n.mem_iff.mp (show xs[k]∈xs.toList by simp);exact g.all _ (gb m).1
  obtain⟨x,t,ex⟩:=mem i b;obtain⟨y,u,o⟩:=mem j a;rw[KK_str b (Prod.ext ex rfl),KK_str a (Prod.ext o rfl)] at q;simp only [List.getElem_map,Array.getElem_toList];rw[show strOf xs[i].1=x by rw[ex];rfl,show strOf xs[j].1=y by rw[o];rfl];change decide _=ao at q;unfold L3.uR;rw[q];rfl
section
variable {s0 s:aq} {vs:List ah} {ss:List aB} {keys:Array ah}
def Op{st:SortSt}(c:Cq P w fs H s0 s)(r:s.heap.get? kS=aa (bX ap keys e))(na:s.heap.get? a=aa (bX ap #[] e1))(f:kS≠a)(m:H kS=am/\s0.heap.get? kS=am)(n:H a=am/\s0.heap.get? a=am)
(o:cZ keys.toList ss)(C:ss.length=vs.length)(G:vs.length<64)(p:(ajl st).Perm (keys.zip vs.toArray))(u:ajG ajg (ajl st) (ajl st).size)(v:akC st=am)
(y:∀g tk out B,Cq P w fs H s0 {s with heap:=g,toks:=tk}->g.get? a=aa (bX ap out B)->Js ss vs out.toList->Pq (.done (.ret .none)) {s with heap:=g,toks:=tk}):
  wpAny (model P w) A (ksk_tail a ao e1 (.ref kS) st) Pq E s:=by
 have q:keys.size=vs.length:=by have z:=o.length;rw[bT] at z;lia
 have h:(ajl st).size=vs.length:=by rw[p.size_eq,Array.size_zip,q,aO,ajA]
 have b1:=cA s.heap kS (bP λ_=>(#[]:Array ah));have b:(s.heap.update kS (bP λ_=>(#[]:Array ah))).get? a=aa (bX ap #[] e1):=(b1.2 a f.symm).trans na;have b2:=cA (s.heap.update kS (bP λ_=>(#[]:Array ah))) a (bP λ_=>(ajl st).map (·.2));obtain⟨i,j⟩:∃i,((s.heap.update kS (bP λ_=>(#[]:Array ah))).update a (bP λ_=>(ajl st).map (·.2))).get? a=aa (bX ap ((ajl st).map (·.2)) i):=⟨_,fM b λ_=>(ajl st).map (·.2)⟩;unfold ksk_tail;try dsimp only
 refine ae (d6 r rfl ?_ (by rw[q,bD];lia) (bu _));refine ae (akp ?_);refine ae (gz b rfl ?_);refine ae (d6 b rfl ?_ (bu _) (bh (gv (show(Array.map (·.2) (ajl st)).size=vs.length by rw[Array.size_map];exact h)) (by rw[bD];lia)));rw[v];simp only [bne_self_eq_false,fj,if_false];refine av (y _ _ _ i ((c.other (tk:=s.toks) b1 m.1 m.2).other (tk:=s.toks) b2 n.1 n.2) j (afO o p u))
def acD(c:Cq P w fs H s0 s)(p:s.heap.get? kS=aa (bX ap keys e))(na:s.heap.get? a=aa (bX ap #[] e1))(f:kS≠a)(q:H kS=am/\s0.heap.get? kS=am)(r:H a=am/\s0.heap.get? a=am)
(g:cZ keys.toList ss)(u:ss.length=vs.length)(m:vs.length<64)
(v:∀n tk out B,Cq P w fs H s0 {s with heap:=n,toks:=tk}->n.get? a=aa (bX ap out B)->Js ss vs out.toList->Pq (.done (.ret .none)) {s with heap:=n,toks:=tk}):
  wpAny (model P w) A (ksk_end a ao vs.toArray e1 (.ref kS) keys) Pq E s:=by
 have C:keys.size=vs.length:=by have z:=g.length;rw[bT] at z;lia
 have o:(keys.zip vs.toArray).size=vs.length:=by rw[Array.size_zip,C,aO,ajA]
 unfold ksk_end;try dsimp only
 by_cases b:vs.toArray.size<2
 .rw[if_pos b,if_pos b];refine ae (av ?_);refine Op c p na f q r g u m (Array.Perm.refl _) ?_ rfl v;intro i j G I;have J:j<(keys.zip _).size:=I;rw[aO] at b;obtain rfl:i=j:=by lia
  exact KeyOrd.kle_refl _
 .rw[if_neg b,if_neg b];rw[aO] at b;rw[Qo g (by lia)];refine ae (av ?_);refine ae (cc (wpS_sortRunsK akK
   (Q:=λ_ h=>(ajl h).Perm _/\akC h=am/\ajG _ (ajl h) _)
   (Qp g) ⟨Array.Perm.refl _,rfl,rfl,rfl⟩ (by lia) (by rw[o];exact m) λh L M N=>⟨L,M,N⟩) ?_ λ_ _ z=>z)
  rintro⟨⟨⟩,h⟩ U ⟨rfl,y,O,T⟩
  exact Op c p na f q r g u m y (by rw[y.size_eq];exact T) O v
end
end
section
variable {A:bq} {fs:List ar} {s0 s:aq} {vs:List ah} {ss:List aB}
def XW(c:Cq P w fs H s0 s)(J:s.heap.get? kS=aa (bX ap #[] 0))(na:s.heap.get? a=aa (bX ap #[] e1))(o:kS≠a)(r:H kS=am/\s0.heap.get? kS=am)(G:H a=am/\s0.heap.get? a=am)(L:kS∉fs)(M:a∉fs)
(N:ss.length=vs.length)(O:vs.length<64)
(turn:∀(i:Nat) (v:ah) (k:aB) (s1:aq),vs[i]?=aa v->ss[i]?=aa k->Cq P w fs H s0 s1->wpAny (model P w) A (call f [v]) (λu s2=>(∃t,u=.str k t)/\Cq P w fs H s1 s2) (λ_ _=>False) s1)
(Q:∀b out m,Cq P w fs H s0 b->b.heap.get? a=aa (bX ap out m)->Js ss vs out.toList->Pq (.done (.ret .none)) b):
  wpAny (model P w) A (ksk_rest a f ao vs.toArray e1 (.ref kS)) Pq E s:=by
 refine ae (ajk ?_);rw[<-Array.forIn_toList];refine ae (ksk_fold (λi b=>∃kA e,Cq P w fs H s0 b/\b.heap.get? kS=aa (bX ap kA e)/\b.heap.get? a=aa _/\cZ kA.toList (ss.take i)) vs 0 s ⟨#[],0,c,J,na,by simpa using cZ.nil⟩ ?step ?done);case step=>
  rintro j x b I ⟨kA,e,m,g,h,n⟩
  simp only [ba] at n |-;have hj:=(au.mp I).1;obtain⟨k,p⟩:∃k,ss[j]?=aa k:=⟨_,ay (by omega)⟩;have hz:=by have z:=n.length;rw[bT,bW] at z;omega
  refine ae (gr (cc (turn j x k b I p m) (λv s2 T=>?_) λ_ _ z=>z.elim));obtain⟨⟨t,rfl⟩,y⟩:=T;have q:=y.at g r.1 L;have B:=y.at h G.1 M;have b1:=cA s2.heap kS (bP (·.push (.str k t)));obtain⟨e2,C⟩:∃e2,(s2.heap.update kS (bP _)).get? kS=aa _:=⟨_,fM q (·.push _)⟩;have U:ss.take (j+1)=ss.take j++[k]:=by rw[List.take_add_one,p];rfl
  refine ae (d6 q rfl ?_ (by rw[bD];omega) (bh (gv (Array.size_push ..)) (by rw[bD];omega)));refine av ⟨rfl,kA.push _,e2,(m.trans y).other b1 r.1 r.2,C,(b1.2 a o.symm).trans B,?_⟩;rw[U,Array.toList_push];exact FR n
 case done=>
  rintro b ⟨kA,e,m,g,h,n⟩
  rw[d8 (by lia)] at n;refine ae (ake g rfl ?_);exact acD m g h o r G n N O λh' tk out Y q1 q2 q3=>Q _ out Y q1 q2 q3
def XX(c:Cq P w fs H s0 s)(h:s.heap.get? a=aa (bX ap vs.toArray n))(j:H a=am/\s0.heap.get? a=am)(y:a∉fs)(B:∀b∈fs,b<s0.heap.objs.size)(m:s0.heap.objs.size<=a)(C:ss.length=vs.length)(G:vs.length<64)
(turn:∀(i:Nat) (v:ah) (k:aB) (s1:aq),vs[i]?=aa v->ss[i]?=aa k->Cq P w fs H s0 s1->wpAny (model P w) A (call f [v]) (λu s2=>(∃t,u=.str k t)/\Cq P w fs H s1 s2) (λ_ _=>False) s1)
(I:∀p out J,Cq P w fs H s0 p->p.heap.get? a=aa (bX ap out J)->Js ss vs out.toList->Pq (.done (.ret .none)) p):
  wpAny (model P w) A (ksk_tree a f ao) Pq E s:=by
 have ha:=aH h;have b1:=cA s.heap a (bP λ_=>(#[]));obtain⟨e1,g⟩:∃e1,(s.heap.update a _).get? a=aa (bX ap #[] e1):=⟨_,fM h λ_=>#[]⟩;have r:Cq P w fs H s0 {s with heap:=s.heap.update a _,toks:=s.toks}:=c.other b1 j.1 j.2;have e:((s.heap.update a (bP λ_=>(#[]))).push (bX dy vs.toArray 0)).objs.size=s.heap.objs.size+1:=by rw[ajQ,ajm]
 have L:Cq P w fs H s0 {s with heap:=((s.heap.update a _).push (bX dy vs.toArray 0)).push (bX ap #[] 0),toks:=s.toks}:=r.kept λb o q=>aj _ (aj _ q);have lt:=Nat.lt_succ_of_le (bh m (c7 ha));refine ae (ake h rfl ?_);refine ae (d6 h rfl ?_ (by rw[aO,bD];lia) (bu _));refine ae (gz g rfl ?_);refine ae (ajW ?_ (by show vs.length<=_;rw[bD];lia));refine ae (fC ?_ (bu _));refine bJ ?_;refine XW
  L (aJ _ rfl) (aj _ (aj _ g)) (by rw[e];exact dM (cV ha)) ⟨?_,?_⟩ j ?_ y C G turn I
 .rw[e];exact r.iC.fresh (by rw[ajm];exact cG _)
 .rw[e];exact cy (c7 lt)
 .rw[e];exactλz=>absurd (B _ z) (Nat.not_lt.mpr (c7 lt))
def Mi(r:fE s.gens)(j:sy P w H s.heap)(n:∀b∈fs,b<s.heap.objs.size)(y:s.heap.IsList l vs.toArray)(B:ss.length=vs.length)(C:vs.length<64)
(turn:∀(i:Nat) (v:ah) (k:aB) (s1:aq),vs[i]?=aa v->ss[i]?=aa k->Cq P w fs H s s1->wpAny (model P w) A.in1.in1 (call (.ref q) [v]) (λu s2=>(∃t,u=.str k t)/\Cq P w fs H s1 s2) (λ_ _=>False) s1)
(G:∀p c out g,Cq P w fs H s c->s.heap.objs.size<=p->c.heap.get? p=aa (bX ap out g)->Js ss vs out.toList->Q (.ref p) c):
  wpAny (model P w) A (call (.builtin gc) [.ref l] [(ajB "key",.ref q)]) Q E s:=by
 refine call_function_entry_kw akq akc akd (ksk_s1 _ _) ?_;unfold bU.«sorted»;refine ae (m:=checkCount gc 1 1 _) (av ?_);refine ae (ak3 y ?_ (by rw[bD];lia));refine ae (fC ?_ (by rw[bD];lia));have h:((s.heap.push (bX ap #[] 0)).update s.heap.objs.size (bP (·++vs.toArray))).objs.size=s.heap.objs.size+1:=by rw[ajm,ajQ]
 have e:(((s.heap.push (bX ap #[] 0)).update s.heap.objs.size (bP (·++vs.toArray))).push (bX ap vs.toArray 0)).get? (s.heap.objs.size+1)=aa (bX ap vs.toArray 0):=by rw[<-h];exact aJ _ rfl
 have keep:∀b o,s.heap.get? b=aa o->(((s.heap.push (bX ap #[] 0)).update s.heap.objs.size (bP (·++vs.toArray))).push (bX ap vs.toArray 0)).get? b=aa o:=λb o z=>by have lt:b<s.heap.objs.size:=aH z;rw[aiq _ _ _ (by rw[h];exact bg (cV lt)),dU _ _ _ _ (bg lt),aiq _ _ _ (bg lt)];exact z
 rw[h];have I:Cq P w fs H s {s with heap:=((s.heap.push (bX ap #[] 0)).update s.heap.objs.size (bP (·++vs.toArray))).push (bX ap vs.toArray 0),toks:=s.toks}:=(Cq.refl r j).kept keep;refine ae (bJ (wpAny_call_entry_kw ajX ⟨_,e,rfl⟩ ajU ?body (ksk_l1 _ _)));case body=>
  rw[ksk_t1];refine XX I e ⟨j.fresh (cG _),cy (cG _)⟩ (λz=>absurd (n _ z) (Nat.not_lt.mpr (cG _))) n (cG _) B C turn λc out g J L M=>⟨_,rfl,?_⟩;exact av ⟨_,rfl,G _ c out g J (cG _) L M⟩
end
open PySem.W
def T8(x:h.CodeRec (.ref c) q):jq P w H h c (yj c q):=by
 refine⟨x,?_,λf i ⟨b,o,a,t,e,g,r⟩ k=>?_⟩
 .obtain⟨b,o,a,t,e,g,r⟩:=x;cases e;exact⟨o,g⟩
 .cases e;exact⟨c,o,a,t,rfl,k _ g,r⟩
def Qq(x:jq P w H h c (yj c q)):h.CodeRec (.ref c) q:=x.1
def G1(e:x=.int i t)(m:y=.int j u)(l:List ah)(h:gj l):gj (l++[x,y,c]):=by
 subst e m
 fun_induction gj l with
 |case1=>simp[gj]
 |case2 a b d f g r n=>simpa[gj] using n h
 |case3=>exact h.elim
set_option tactic.hygienic true in
def Mj(l:List ah)(h:gj l)(e:ajF pos (l++[.int i t,.int j u,c])=aa v):ajF pos l=aa v\/v=c:=by
 fun_induction gj l with
 |case1=>
  simp only [bL,ajF] at e;split at e
  .cases e;exact .inr rfl
  .cases e
 |case2 a b d f g r m=>
  simp only [List.cons_append,ajF] at e |-;split at e
  .rename_i hc;rw[if_pos hc];exact .inl e
  .rename_i hc;rw[if_neg hc];exact m h e
 |case3=>exact h.elim
structure XY(cq:aw)(mg:aB->Option ah)(cd:ah)(c P:ar):Prop where
 cd:cd=.ref c
 hd:CodeHd cq c P
 bl:cq.BuiltinsAt mg P
 gP:bf≠P
def FS{h a:aw}(x:h.BuiltinsAt mg P)(k:∀b o,h.get? b=aa o->a.get? b=aa o):a.BuiltinsAt mg P:=
 let⟨c,ob,b1,b2,b3,b4,b5,e⟩:=x;⟨c,ob,b1,b2,b3,b4,k _ _ b5,e⟩
section
variable {X:Cx} {s:aq}
def XZ(I:Inv X cf c H s)(m:H P=aa (.xV ps))(h:ajJ P s.heap i)(hc:s.heap.objs.size<=a)(rc:i.CodeRec (.ref a) q)(ht:i.get? P=aa (tabObj (ps++more))):
  Un X.fs [] H (upd (upd H a (yj a q)) P (.xV (ps++more))) s.heap i/\sy X.prog X.w (upd (upd H a (yj a q)) P (.xV (ps++more))) i:=by
 have fc:=I.iC.fresh hc;have p:∀{b:ar},H b=am->b≠P:=λe z=>by rw[z,m] at e;cases e
 have v:∀{b:ar} {o:cn},s.heap.get? b=aa o->b≠a:=λe=>bg (bw (aH e) hc);have nt:∀{b:ar} {o:HO},H b=aa o->(∀ps,o≠.xV ps)->b≠P/\b≠a:=λ{b o} e n=>⟨λz=>by rw[z,m] at e;exact n ps (bA e).symm,λz=>by rw[z,fc] at e;cases e⟩;refine⟨⟨λb o e n _ _=>h b o (p n) e,λb o e n _ _=>⟨o.slots,h b o (p n) e⟩,λb o e n _=>?_,λb o e _=>?_,λb xs e=>?_,λb o u e=>?_,λb y e=>?_⟩,λb o e=>?_⟩
 .rw[gR (p n),gR (v e)];exact n
 .by_cases z:b=P
  .exact⟨_,z▸ht⟩
  .exact⟨o,h b o z e⟩
 .obtain⟨f,g⟩:=nt e (λ_ z=>by cases z);rw[gR f,gR g];exact e
 .obtain⟨f,g⟩:=nt e (λ_ z=>by cases z);rw[gR f,gR g];exact e
 .by_cases z:b=P
  .subst z;rw[m] at e;cases e;exact⟨more,gZ⟩
  .have j:b≠a:=λz=>by rw[z,fc] at e;cases e
   exact⟨#[],by rw[gR z,gR j,e];simp⟩
 .by_cases z:b=P
  .subst z;rw[gZ] at e;cases e;exact ht
  .rw[gR z] at e;by_cases j:b=a
   .subst j;rw[gZ] at e;cases e;exact T8 rc
   .rw[gR j] at e;refine(I.iC b o e).tm (λr u hb q=>h r u ?_ q) (λr q=>?_) (λr xs q=>?_)
    .rcases hb with rfl|hb
     .exact z
     .exact(nt hb (λ_ z=>by cases z)).1
    .obtain⟨f,g⟩:=nt q (λ_ z=>by cases z);rw[gR f,gR g];exact q
    .obtain⟨f,g⟩:=nt q (λ_ z=>by cases z);rw[gR f,gR g];exact q
def T9(L:XY X.cq X.mg X.env.code c P)(I:Inv X cf r H s)(j:H P=aa (.xV ps))(g:NW (X.env.qual++hD) H ps)(B:aj7 scope X.env=pure [])(M:alm params X.env=([],[]))
(C:∀f a pm h n q,Inv X cf r n q->s.heap.objs.size<=f->n f=am->q.heap.get? f=aa (kla_obj hD (X.env.qual++hD) params body scope [] pm a h)->n a=aa (yj a (X.env.qual++hD))->uH P (X.env.qual++hD) H n->Q (.ref f) q):
  wpAny (model X.prog X.w) A (eval (.Lambda params body scope pos) X.env) Q E s:=by
 have G:=(I.iC P _ j);refine kla_eval M ?_;cases e:ajF pos _ with
 |none=>
  refine kla_makeFunction B I.ok.glob (I.mod.glob.keeps I.bk) L.cd (L.hd.keeps I.bk) G g.ok e L.gP (FS L.bl I.bk) λa h m tk N hc lt rc ht=>?_;obtain⟨O,J⟩:=XZ I j N hc rc ht;have p:=I.un (t':=tk) O J;have fc:=I.iC.fresh hc;have u:a≠P:=λz=>by rw[z,j] at fc;cases fc
  have y:=p.kept (t':=tk) (h':=m.push (kla_obj hD (X.env.qual++hD) params body scope [] ((X.mg jD).getD .none) a h)) λb o e=>aj _ e;refine C _ a _ h _ _ y (bh hc (c7 lt)) (J.fresh (aC _)) (aJ _ rfl) (by rw[gR u,gZ]) ⟨⟨_,gZ,?_,λT v i=>?_⟩,.inr ⟨a,_,fc,u,rfl⟩⟩
  .rw[Array.toList_append];exact G1 rfl rfl _ g.ok
  .rw[Array.toList_append] at i;rcases Mj _ g.ok i with i|i
   .obtain⟨U,e2,e3⟩:=g.cs T v i;refine⟨U,e2,?_⟩;rw[gR (λz=>by rw[z,j] at e3;cases e3),gR (λz=>by rw[z,fc] at e3;cases e3)];exact e3
   .exact⟨a,i,by rw[gR u,gZ]⟩
 |some v=>
  obtain⟨a,e2,e3⟩:=g.cs pos v e;refine kla_makeFunctionHit B I.ok.glob (I.mod.glob.keeps I.bk) L.cd (L.hd.keeps I.bk) G g.ok e (FS L.bl I.bk) λh m tk k sz=>?_;subst e2;have p:=I.kept (t':=tk) k;have y:=p.kept (t':=tk) (h':=m.push (kla_obj hD (X.env.qual++hD) params body scope [] ((X.mg jD).getD .none) a h)) λb o e=>aj _ e;exact C _ a _ h H _ y sz (p.iC.fresh (aC _)) (aJ _ rfl) e3 ⟨⟨ps,j,g⟩,.inl rfl⟩
end
section
variable {K:af} {A:bq} {s:aq} {x:aB} {scope:cS} {t:TE} {k:Nat}
def Ua(g:A3 P w K mg cq A cv s H)(h:iV (k+1) A)(p:s.heap.get? f=aa (kla_obj hD qual params body scope [] pm c Li))(rc:s.heap.CodeRec (.ref c) qual)(S:ju [x] [x] scope)
(hb:∀u,dQ (kla_fn hD qual params body scope [] pm (.ref c) Li) ⟨[u],[]⟩=pure [(x,u)])(B:RelV v u)
(C:iV k (A.deeper (dY qual scope s.heap.objs.size f (.ref c)))->PE (rK pZ P w K mg cq [x] qual scope f (.ref c) A cv s H E0).ED body t)(q:t [aa v] H Q):
  codeAny (model P w) A (.call (.ref f) ⟨[u],[]⟩) (λr i=>∃a,r=.ok (.ret a)/\CE cv P w H s Q a i) s:=by
 have j:=g.mod.nolimit.keeps λb o e=>(g.bs b o e).1;have E:∀y∈[(x,u)],scope.names.lookup y.1=aa .local\/(scope.names.lookup y.1=aa .cell/\((akN (s.heap.objs.size+1) _ []).lookup y.1).isSome=ai):=λy G=>by
  rw[bp.mp G];rcases S.par x (by simp) with z|z
  .exact .inl z
  .exact .inr ⟨z,W.cellsFrom_some _ _ _ (.inl z)⟩
 refine kla_callFunE h.depth p rfl S.co S.gen rfl rc ?_;rw[hb u];refine av (aky S.kind E λenv L s1 z=>?_);subst L;refine⟨j.keeps z.toInCall.keep,kla_codeExpr ?_⟩;have I:Inv (rK pZ P w K mg cq [x] qual scope f (.ref c) A cv s H E0) [] _ H s1:=Fq S h.hd g rfl (.cons B .nil) z;refine cc ((C (h.deeper _)).ED [] s1 _ H Q I q) (λa i m=>?_) λe i m=>?_
 .obtain⟨M,N,J,n,O⟩:=m;exact⟨a,rfl,M,N,J.os,J.bare,J.cq,J.iC,n,O⟩
 .refine cc m (λ_ _ z=>(z).elim) (λ_ _ z=>(z).elim)
end
section
variable {K:af}
def nD (K:af)(H:Hp):List V->List aB->Prop
 |[],[]=>True
 |y::b,k::c=>(∃a zs,y=.ref a/\w4 K H a (.str k::zs))/\nD K H b c
 |_,_=>False
theorem nD.length:∀{a:List V} {b:List aB},nD K H a b->a.length=b.length
 |[],[],_=>rfl
 |[],_::_,h=>h.elim
 |_::_,[],h=>h.elim
 |_::a,_::b,h=>by rw[aQ,aQ,nD.length h.2]
theorem nD.get:∀{b:List V} {c:List aB} {i:Nat} {y:V} {k:aB},nD K H b c->b[i]?=aa y->c[i]?=aa k->∃a zs,y=.ref a/\w4 K H a (.str k::zs)
 |[],[],i,y,k,_,e,_=>by simp at e
 |[],_::_,_,_,_,h,_,_=>h.elim
 |_::_,[],_,_,_,h,_,_=>h.elim
 |y::b,k::c,0,_,_,h,e,g=>by simp at e g;subst e g;exact h.1
 |y::b,k::c,i+1,_,_,h,e,g=>nD.get h.2 (by simpa using e) (by simpa using g)
def uH.keep(t:uH P q H H')(f:∃a,H P=aa (.xV a))(e:H b=aa o)(n:∀a,o≠.xV a):H' b=aa o:=by
 obtain⟨a,f⟩:=f;rcases t.2 with h|⟨c,g,hc,i,h⟩
 .rw[h];exact e
 .rw[h,gR (λz=>by rw[z,f] at e;exact n a (bA e).symm),gR (λz=>by rw[z,hc] at e;cases e)];exact e
def uH.sqL(t:uH P q H H')(b:∃c,H P=aa (.xV c))(h:nr K H a xs):nr K H' a xs:=by
 rcases h with(h|⟨o,h⟩)|h
 .exact .inl (.inl (t.keep b h (λ_ z=>by cases z)))
 .exact .inl (.inr ⟨o,t.keep b h (λ_ z=>by cases z)⟩)
 .exact .inr h
def uH.sqT(t:uH P q H H')(b:∃c,H P=aa (.xV c))(h:w4 K H a xs):w4 K H' a xs:=by
 rcases h with(h|⟨o,h⟩)|h
 .exact .inl (.inl (t.keep b h (λ_ z=>by cases z)))
 .exact .inl (.inr ⟨o,t.keep b h (λ_ z=>by cases z)⟩)
 .exact .inr h
theorem uH.keyed(t:uH P q H H')(f:∃g,H P=aa (.xV g)):∀{b:List V} {c:List aB},nD K H b c->nD K H' b c
 |[],[],_=>trivial
 |[],_::_,h=>h.elim
 |_::_,[],h=>h.elim
 |_::b,_::c,⟨⟨a,zs,e,h⟩,r⟩=>⟨⟨a,zs,e,t.sqT f h⟩,t.keyed f r⟩
noncomputable def jL{β:Type}(a:List aB)(b:List β):List β:=(L3.Qd aY (a.zip b)).map Prod.snd
def KVs:List (aB×V)->List (aB×ah)->Prop:=Paired λp q=>p.1=q.1/\RelV p.2 q.2
theorem Oq(r:p.1=q.1/\RelV p.2 q.2):∀{l:List _} {m:List _},KVs l m->KVs (L3.u6 aY p l) (L3.u6 aY q m)
 |_,_,.nil=>.cons r .nil
 |_,_,.cons h t=>by
  unfold L3.u6;rw[r.1,h.1];split
  .exact .cons r (.cons h t)
  .exact .cons h (Oq r t)
theorem Ot:∀{l:List _} {m:List _},KVs l m->KVs (L3.Qd aY l) (L3.Qd aY m)
 |_,_,.nil=>.nil
 |_,_,.cons h t=>Oq h (Ot t)
theorem Ou:∀(a:List aB) {b:List V} {c:List ah},Vals b c->KVs (a.zip b) (a.zip c)
 |[],_,_,_=>.nil
 |_::_,_,_,.nil=>.nil
 |_::a,_,_,.cons r t=>.cons ⟨rfl,r⟩ (Ou a t)
theorem Ov:∀{l:List _} {m:List _},KVs l m->Vals (l.map Prod.snd) (m.map Prod.snd)
 |_,_,.nil=>.nil
 |_,_,.cons h t=>.cons h.2 (Ov t)
def CU(r:Vals b c):Vals (jL a b) (jL a c):=Ov (Ot (Ou a r))
def AI{β:Type}{c:List aB}{g:List β}(nd:c.Nodup):∀a∈c.zip g,∀b∈c.zip g,a.1=b.1->a=b:=by intro a ha b hb e;obtain⟨i,hi⟩:=eI.mp ha;obtain⟨j,f⟩:=eI.mp hb;have h:=eR.mp hi;have m:=eR.mp f;have lt:=(au.mp h.1).1;have:i=j:=(gL lt nd).mp (h.1.trans (by rw[m.1,e]));subst this;rw[hi] at f;exact bA f
def Jt(nd:a.Nodup)(h:Js a b out):out=jL a b:=by obtain⟨g,c,e,f⟩:=h;rw[e,L3.BB c f (AI nd)];rfl
end
section
variable {X:Cx} {x:aB} {k:Nat}
def acE (K:af)(P:ar)(q:aB)(te:TE):TE:=λc H Q=>te c H λv H1=>∃a b f h,v=.ref a/\nr K H1 a b/\nD K H1 b f/\f.Nodup/\b.length<64/\H1 P=aa (.xV h)/\NW q H1 h/\
 ∀g l,uH P q H1 g->g l=am->Q (.ref l) (upd g l (.lst (jL f b)))
def Ub(L:XY X.cq X.mg X.env.code c P)(hr:iV (k+4) X.A)(ms:X.mg gc=am)(he:PE X e te)(S:ju [x] [x] scope)(hd:(x==(dV:aB))=ao)(xW:(x==(mr:aB))=ao)(hv:Rz scope x)
(XQ:aj7 scope X.env=pure [])(RG:alm params X.env=([],[]))
(hb:∀pm c T u,dQ (kla_fn hD (X.env.qual++hD) params (.Subscript (.Name x np) (.Constant (.int 0) j cp) sp) scope [] pm (.ref c) T) ⟨[u],[]⟩=pure [(x,u)])(gs:Gl X gc:=by rfl)
(U:aV [e] X.env=[(ao,eval e X.env)]:=by rfl)
(Y:eF [⟨aa "key",.Lambda params (.Subscript (.Name x np) (.Constant (.int 0) j cp) sp) scope G3,LA⟩] X.env=[(aa (ajB "key"),eval (.Lambda params (.Subscript (.Name x np) (.Constant (.int 0) j cp) sp) scope G3) X.env)]:=by rfl):
  PE X (.Call (.Name gc p) [e] [⟨aa "key",.Lambda params (.Subscript (.Name x np) (.Constant (.int 0) j cp) sp) scope G3,LA⟩] pos) (acE X.K P (X.env.qual++hD) te):=by
 intro cf s F H Q I h;refine c8 (wZ I gs ms (u:=.builtin gc) (by rfl) ?_ (by decide) (by decide));have hA:(ajE pos (eF [⟨aa "key",.Lambda params (.Subscript (.Name x np) (.Constant (.int 0) j cp) sp) scope G3,LA⟩] X.env)).all (·.1.isSome)=ai:=by rw[Y];rfl
 refine callWith_builtin_kwB (by rw[U];rfl) (by rw[Y];rfl) (evalArgs_kw2 hA ?_ U);rw[U,Y];refine Calls.spliced_cons (jB (he cf s F H _ I h) λu s1 ⟨v,H1,N,rv,a,B,C,O,ev,hq,hk,nd,Jn,hP,gt,q⟩=>Calls.spliced_nil ?_);subst ev;cases rv;show wpAny _ _ (evalAll [(do let v<-eval (.Lambda params (.Subscript (.Name x np) (.Constant (.int 0) j cp) sp) scope G3) X.env;ajY pos;pure v)]) _ _ s1;refine wpAny_evalAll_cons (ae (T9 L N hP gt XQ RG λf c' pm T g s2 m fz fn fo rc tt=>ae (fw (av (wpAny_evalAll_nil ?_)))));show wpAny (model X.prog X.w) X.A (call (.builtin gc) ([]++[bI a]) [(ajB "key",.ref f)]) _ _ s2;have J:∃O,H1 P=aa (.xV O):=⟨O,hP⟩;obtain⟨ig,r',pl,hz⟩:=m.list (tt.sqL J hq);have je:=r'.length;have kl:=hk.length;have ff1:∀b∈sx X.stack,b<s1.heap.objs.size:=λb z=>by
  rcases aN.mp (N.tu b z) with z|z
  .rw[z];exact N.lt
  .exact Nat.lt_of_not_le λy=>N.aa2 y z
 have ff:∀b∈sx X.stack,b<s2.heap.objs.size:=λb z=>by
  rcases aN.mp (m.tu b z) with z|z
  .rw[z];exact m.lt
  .exact Nat.lt_of_not_le λy=>m.aa2 y z
 refine Mi (fs:=sx X.stack) (H:=g) (ss:=C) m.bare m.iC ff pl.isList (by lia) (by lia) (λi v key s3 M hk3 E=>?_) (λp s' out c'' G pz hp ho=>?_)
 .have hI:Inv X cf F g s3:=m.As E.os E.un E.iC E.bare (λb z=>absurd z (by simp));obtain⟨y,hy,ry⟩:∃y,B[i]?=aa y/\RelV y v:=by
   have li:i<B.length:=by have:=(au.mp M).1;lia
   obtain⟨u3,e3,r3⟩:=r'.get (ay li);rw[M] at e3;cases e3;exact⟨_,ay li,r3⟩
  obtain⟨ya,zs,ey,hy2⟩:=(tt.keyed J hk).get hy hk3;subst ey;cases ry;have fo3:=E.at fo fn λz=>absurd (ff1 _ z) (Nat.not_lt.mpr fz);have rc3:s3.heap.CodeRec (.ref c') (X.env.qual++hD):=Qq (E.iC c' _ rc);refine eJ (cX (Ua (k:=k) (t:=tOp (aeY X.K) (Pp 0) (tC (.int 0))) (Q:=λv H'=>v=.str key/\H'=g) (A:=X.A.in1.in1) (cv:=X.stack) hI.Sl.in1.in1 (iV.mono (hr.in1.in1) (by lia)) fo3 rc3 S (λu=>hb pm c' T u) (v:=.ref ya) rfl (λ_=>?_) ?_) λr s4 hr4=>?_)
  .exact ZV Sz (wY (i:=0) rfl hv hd xW) RZ (λ_ _=>rfl)
  .exact⟨.ref ya,rfl,ya,_,0,.str key,rfl,rfl,hy2,by unfold wL PK;simp,rfl,rfl⟩
  .obtain⟨u',rfl,v',H',os,bare,un,iC,rv',e1,e2⟩:=hr4;subst e1 e2;exact⟨rv',⟨os,bare,iC,un⟩⟩
 .have fp:g p=am:=m.iC.fresh pz;have lz:(jL C B).length<=az:=by
   have z:(jL C B).length=(C.zip B).length:=by unfold jL;rw[ak];exact(L3.p7 _ _).length_eq
   rw[z,dJ,bD];lia
  have eo:=Jt nd ho;have ne:∀{b:ar} {u:HO},g b=aa u->b≠p:=λe z=>by rw[z,fp] at e;cases e
  have un:Un (sx X.stack) [] g (upd g p (.lst (jL C B))) s2.heap s'.heap:=⟨G.un.keep,G.un.slot,λb o e n hx=>by rw[gR (bg (bw (aH e) pz))];exact n,G.un.there,λb xs e=>by rw[gR (ne e)];exact e,λb o u e=>by rw[gR (ne e)];exact e,λb O e=>⟨#[],by rw[gR (ne e),e];simp⟩⟩;have iC:sy X.prog X.w (upd g p (.lst (jL C B))) s'.heap:=λb o e=>by
   by_cases z:b=p
   .subst z;rw[gZ] at e;cases e;exact⟨lz,out.toList,c'',by rw[eo];exact CU r',by rw[Array.toArray_toList];exact hp⟩
   .rw[gR z] at e;exact(G.iC b o e).tm (λ_ _ _ q=>q) (λb' q=>by rw[gR (ne q)];exact q) λb' xs q=>by rw[gR (ne q)];exact q
  exact⟨.ref p,_,m.As G.os un iC G.bare (λb z=>absurd z (by simp)),rfl,q g p tt fp⟩
end
end L2
namespace L3
open L2
def afP{K:af}(t:Tb K H)(e:W.tabIn K fy=aa (c,P))(tt:uH P (abS fy) H a):Tb K a:=λx b f g e'=>by
 have ex:=by simpa[W7] using b
 subst ex;rw[e] at e';cases e';exact tt.1
def Qr(tt:uH P q H c)(f:∃a,H P=aa (.xV a)):CI H c:=λb o e v=>tt.keep f e λa z=>by rw[z] at v;cases v
section
variable {K:af}
def xl:List D->List aB->Prop
 |[],[]=>True
 |x::xs,k::a=>(∃ds,x=.tup (.str k::ds))/\xl xs a
 |_,_=>False
theorem xn(e:jC H f):∀{xs:List D} {c:List aB} {b:List V},xl xs c->gO K o H xs b->nD K f b c
 |[],[],b,_,r=>by subst r;trivial
 |[],_::_,_,h,_=>h.elim
 |_::_,[],_,h,_=>h.elim
 |x::xs,k::c,b,⟨⟨ds,ex⟩,h⟩,r=>by subst ex;obtain⟨v,n,rfl,z,y⟩:=r;obtain⟨a,ws,rfl,g,i⟩:=z;obtain⟨u,j,rfl,m,_⟩:=i;subst m;exact⟨⟨a,j,rfl,mw e g⟩,xn e h y⟩
theorem FT(r:Rep K A H x v):∀{b:List aB} {xs:List D} {c:List V},gO K A H xs c->b.length=xs.length->∃(a:List aB) (g:List D) (f:List V),u6 aY (k,x) (b.zip xs)=a.zip g/\u6 aY (k,v) (b.zip c)=a.zip f/\a.length=g.length/\gO K A H g f
 |[],xs,c,h,l=>by
  have e:xs=[]:=by cases xs<;>simp_all
  exact⟨[k],[x],[v],rfl,rfl,rfl,gO.one r⟩
 |k'::b,[],c,h,l=>by simp at l
 |k'::b,y::xs,c,h,l=>by
  obtain⟨u,n,rfl,z,t⟩:=h;rw[ck,ck];unfold u6;by_cases e:uR k k'=ai
  .rw[if_pos e,if_pos e];exact⟨k::k'::b,x::y::xs,v::u::n,rfl,rfl,by simpa using l,gO.cons r (gO.cons z t)⟩
  .rw[if_neg e,if_neg e];obtain⟨i,j,m,o,p,q,w⟩:=FT r t (by simpa using l);exact⟨k'::i,y::j,u::m,by rw[o];rfl,by rw[p];rfl,by simpa using q,gO.cons z w⟩
theorem Ju:∀{b:List aB} {xs:List D} {c:List V},gO K v H xs c->b.length=xs.length->∃(a:List aB) (g:List D) (f:List V),Qd aY (b.zip xs)=a.zip g/\Qd aY (b.zip c)=a.zip f/\a.length=g.length/\gO K v H g f
 |[],xs,c,h,l=>by
  have e:xs=[]:=by cases xs<;>simp_all
  exact⟨[],[],[],rfl,rfl,rfl,gO.nil⟩
 |k'::b,[],c,h,l=>by simp at l
 |k::b,y::xs,c,h,l=>by obtain⟨u,r,rfl,z,t⟩:=h;rw[ck,ck];unfold Qd;obtain⟨i,j,m,n,o,p,q⟩:=Ju t (by simpa using l);rw[n,o];exact FT z q p
def CV(h:gO K o H xs c)(l:a.length=xs.length):gO K o H (jL a xs) (jL a c):=by obtain⟨e,f,g,i,j,m,b⟩:=Ju h l;have n:=gO.length _ _ b;unfold jL;rw[i,j,fX (by lia),fX (by lia)];exact b
theorem xp:∀{xs:List D} {a:List aB},xl xs a->xs.length=a.length
 |[],[],_=>rfl
 |[],_::_,h=>h.elim
 |_::_,[],h=>h.elim
 |_::xs,_::a,h=>by rw[aQ,aQ,xp h.2]
end
section
variable {X:Cx} {x:aB} {k:Nat}
def Uc (te:DE):DF:=λb M Q=>te b M λd M1=>∃xs a,vw M1 d=.lst xs/\xl xs a/\a.Nodup/\xs.length<64/\Q (.lst (jL a xs)) M1
structure afQ(X:Cx):Prop where
 ex:∃c P,W.tabIn X.K fy=aa (c,P)/\XY X.cq X.mg X.env.code c P
 q:X.env.qual++hD=abS fy
def Ud(L:afQ X)(E:iV (k+4) X.A)(ms:X.mg gc=am)(h:JE X e te)(S:ju [x] [x] scope)(hd:(x==(dV:aB))=ao:=by decide)(G:(x==(mr:aB))=ao:=by decide)(I:Rz scope x:=by first|exact dP rfl|exact c9 (dP rfl))
(J:aj7 scope X.env=pure []:=by rfl)(N:alm params X.env=([],[]):=by rfl)
(hb:∀pm c O u,dQ (W.kla_fn hD (X.env.qual++hD) params (.Subscript (.Name x np) (.Constant (.int 0) j cp) sp) scope [] pm (.ref c) O) ⟨[u],[]⟩=pure [(x,u)]:=by intros;rfl)(gs:Gl X gc:=by rfl)
(T:aV [e] X.env=[(ao,eval e X.env)]:=by rfl)
(U:eF [⟨aa "key",.Lambda params (.Subscript (.Name x np) (.Constant (.int 0) j cp) sp) scope G3,LA⟩] X.env=[(aa (ajB "key"),eval (.Lambda params (.Subscript (.Name x np) (.Constant (.int 0) j cp) sp) scope G3) X.env)]:=by rfl):
  JF X (.Call (.Name gc p) [e] [⟨aa "key",.Lambda params (.Subscript (.Name x np) (.Constant (.int 0) j cp) sp) scope G3,LA⟩] pos) (Uc te):=by
 obtain⟨c,P,ht,Y⟩:=L.ex;refine⟨λb M A B w q=>h.mono b _ _ _ (λd M1 q=>?_) q,PE.weak (Ub Y E ms h.p S hd G I J N hb gs T U) λK H Q q=>?_⟩
 .obtain⟨xs,i,m,f,n,y,q⟩:=q;exact⟨xs,i,m,f,n,y,w _ _ q⟩
 .obtain⟨F,Z,b,M,r,q⟩:=q;refine⟨F,Z,b,M,r,h.mono b _ _ _ (λd M1 q v iq H1 e1 g r1=>?_) q⟩;obtain⟨xs,i,m,f,n,y,q⟩:=q;obtain⟨a,vs,rfl,sq,o⟩:=jg g r1 m;obtain⟨z,C,hg⟩:=g.tb _ (by simp[W7]) c P ht;have hl:=gO.length _ _ o;refine⟨a,vs,i,z,rfl,nr.of sq,xn ib f o,n,by lia,C,by rw[L.q];exact hg,λH2 l tt SF=>?_⟩;rw[L.q] at tt;obtain⟨o2,e2⟩:=g.aam (Qr tt ⟨z,C⟩) (afP g.tb ht tt);exact q l _ iq H2 (e1.trans e2) o2 SF ⟨_,rfl,CV (e2.Ck o) (xp f).symm⟩
end
structure CW(K:af)(mg:aB->Option ah)(cq:aw):Prop where
 RW:K.In cq
 glob:cq.Ns bf mg
 tab:∃c P,W.tabIn K fy=aa (c,P)/\W.CodeHd cq c P/\cq.BuiltinsAt mg P/\bf≠P
def afR (K:af)(mg:aB->Option ah)(cq:aw)(ik:ah):Prop:=∃c P,W.tabIn K fy=aa (c,P)/\XY cq mg ik c P
section
variable {K:af}
def afS{st:cN}(F:gY K mg fy st)(a:CW K mg cq)(e:iE st=body)(es:ij st=scope)(S:ju N b scope)
(hb:∀(kV doc pm:ah) (an:Option ar) (ik ct:ah) (us:List ah),us.length=b.length->dQ (dk fy fy (jE st) (iE st) (ij st) .none kV doc pm an ik ct) ⟨us,[]⟩=pure (b.zip us))
(g:∀(f:ar) (ik:ah) (A:bq) (cv:List gq) (s:aq) (H:Hp) (E:XK),afR K mg cq ik->iV k (A.deeper (dY fy scope s.heap.objs.size f ik))->Fz (rK pZ P w K mg cq N fy scope f ik A cv s H E).ED body tb):
  lM P w K mg cq (k+1) fy b (jU K (cl (jl N.length b.length tb))):=by obtain⟨f,fd,F,m⟩:=F;obtain⟨c,i,ht,hd,bl,gP⟩:=a.tab;refine⟨f,fd,m,F.kp,F.binds hb,?_⟩;obtain⟨oc,od,kV,doc,pm,an,ik,ct,IB,rfl,lk,j⟩:=F.ex;have n:=W.law_code a.RW a.glob ht m (a.RW _ _ lk) rfl;subst e es;refine Sr lk j S (λu H Q E zq=>by obtain⟨F,B,M,ds,o,r,hn,v,q⟩:=zq;rw[<-gO.length _ _ r];exact v) λA cv s H u Q E y h=>?_;obtain⟨t,q,z⟩:=LU (g f ik A cv s H E ⟨c,i,ht,n,hd,bl,gP⟩ y) rfl h;exact⟨t,q.p.ED,z⟩
def ais(h:afR K mg cq ik):afQ (rK pZ P w K mg cq N fy scope f ik A cv s H E).ED:=⟨h,rfl⟩
end
def afT{K:af}(h:W.noTabs K=ai)(e:K.lookup a=aa (W.tabObj c)):False:=by have b:=bG.mp h (a,_) (W.mem_of_lookupK e);exact absurd (b) bi
def Qs{P:aP}{w:bt}{K:af}{mg N:aB->Option ah}{k:Nat}{O a c T:ar}{fd:cI}{x:aB}{sp:Sp}{f:aq}{B:List ah}{ns:List Int}
(Q:K.In f.heap)(A:f.heap.Ns bf mg)(hb:f.heap.Ns ald N)(U:∀x:aB,x≠jD->N x=bR x)(Y:f.heap.NoLimit)(hg:f.gens=#[])
(ha:f.heap.get? a=aa {cls:=.type ap,data:=.seq B.toArray})(hi:akZ B ns)(hl:ns.length<=az)(hr:iV k akb)
(ht:W.tabIn K fy=aa (c,T))(nt:W.noTabs K=ai)(p:f.heap.get? T=aa (W.tabObj #[]))(hd:W.CodeHd f.heap c T)(bl:f.heap.BuiltinsAt mg T)(ct:isCodeTable f.heap T)
(F:∀cq:aw,CW K mg cq->jo P w K mg cq pZ k O fd [x] sp)(afU:∀(s:aq) (u:ah),aj0 s fd ⟨[u],[]⟩ [(x,u)])
(Wa:∀H:Hp,Tb K H->nr K H a (ns.map V.int)->sp [.ref a] H (λv _=>v=.bl ai) λ_ _ _=>False):
  codeAny (model P w) akb (.call (.ref O) ⟨[.ref a],[]⟩) (λr g=>r=.ok (.ret (.bool ai))/\OldK f.heap g.heap/\g.os=f.os/\fE g.gens) f:=by
 have rv:=Fv hi;have aiu:=hi.length;have aT:a≠T:=λz=>by rw[z,p] at ha;cases ha
 have kT:K.lookup T=am:=by
  cases e:K.lookup T with
  |none=>rfl
  |some o=>have:=Q _ _ e;rw[p] at this;cases this;exact(afT nt e).elim
 have G:∀H:Hp,H T=aa (.xV #[])->(∀b,b≠T->H b=am\/∃o xs,H b=aa (.qN o (.lst xs)))->nr K H a (ns.map V.int)->sy P w H f.heap->(∀b,H b≠am->b=a\/b=T)->(H a≠am->K.lookup a=am)->
   codeAny (model P w) akb (.call (.ref O) ⟨[.ref a],[]⟩) (λr g=>r=.ok (.ret (.bool ai))/\OldK f.heap g.heap/\g.os=f.os/\fE g.gens) f:=by
  intro H Wg hO hS iC hA hK;have L:∀{b:ar} {o:cn},f.heap.get? b=aa o->H b=am->(B6 f.heap H).get? b=aa o:=λe n=>RV e n;have free:∀{b:ar} {o:cn},f.heap.get? b=aa o->o.cls≠.none->(b=a->False)->H b=am:=λ{b o} e hc na=>by
   cases q:H b with
   |none=>rfl
   |some u=>
    rcases hA b (by rw[q];simp) with z|z
    .exact(na z).elim
    .subst z;rw[p] at e;cases e;exact absurd rfl hc
  have noA:∀{b:ar} {o:cn} {es:Array DictEntry} {C:Nat},f.heap.get? b=aa o->o.data=.dict es C->H b=am:=λ{b o es C} e d=>by
   cases q:H b with
   |none=>rfl
   |some u=>
    rcases hA b (by rw[q];simp) with z|z
    .subst z;rw[ha] at e;cases e;cases(show Data.seq B.toArray _=Data.dict es C from d)
    .subst z;rw[p] at e;cases e;cases d
  have i:∀{b:ar} {m:aB->Option ah},f.heap.Ns b m->(B6 f.heap H).Ns b m:=λ{b m} ⟨o,es,C,e,d,r⟩=>⟨o,es,C,L e (noA e d),d,r⟩;have I:K.In (B6 f.heap H):=λb o e=>L (Q b o e) (by
   cases q:H b with
   |none=>rfl
   |some u=>
    rcases hA b (by rw[q];simp) with z|z
    .subst z;rw[hK (by rw[q];simp)] at e;cases e
    .subst z;rw[kT] at e;cases e)
  have hM:Mod K mg (B6 f.heap H):=⟨I,i A,⟨N,i hb,U⟩,let⟨mc,h1,h2⟩:=Y;⟨mc,i h1,h2⟩⟩;have e0:A3 P w K mg (B6 f.heap H) akb [] f H:=⟨rfl,hM,λb o e=>Wv e,gv (Pn _ _),trivial,λb hb=>absurd (show b∈([]:List ar) from hb) (by simp),iC,.of_eq hg⟩;have hdB:W.CodeHd (B6 f.heap H) c T:=by obtain⟨o,vs',file,tf,afW,tg,inF,text,tt,e,r1,r⟩:=hd;exact⟨o,vs',file,tf,afW,tg,inF,text,tt,L e (free e (by rw[r1];simp) (λz=>by subst z;rw[ha] at e;cases e;exact absurd r1 (show¬eN ap=eN lK by decide))),r1,r⟩
  have blB:(B6 f.heap H).BuiltinsAt mg T:=by obtain⟨bm,ob,b1,b2,b3,b4,b5,b6,b7⟩:=bl;exact⟨bm,ob,b1,b2,b3,b4,L b5 (free b5 (by rw[b6];simp) (λz=>by subst z;rw[ha] at b5;cases b5;exact absurd b6 (show¬eN ap=eN "module" by decide))),b6,b7⟩
  have gT:bf≠T:=λz=>by obtain⟨o,es,C,e,d,_⟩:=A;rw[z,p] at e;cases e;cases d
  have tb:Tb K H:=λy hy c' T' e'=>by
   have ey:y=fy:=by simpa[W7] using hy
   subst ey;rw[ht] at e';cases e';exact⟨#[],Wg,by simp[gj],λpos v hv=>by simp[ajF] at hv⟩
  refine cX ((F _ ⟨I,i A,c,T,ht,hdB,blB,gT⟩).run akb [] f H ⟨[.ref a],[]⟩ [.ref a] [.ref a] _ _ hr e0 (afU f (.ref a)) (.cons rfl .nil) (Wa H tb hS)) λr g h=>?_;cases r with
  |error e=>exact(show False from h).elim
  |ok fl=>
   cases fl with
   |next=>exact b9 h
   |brk=>exact b9 h
   |cont=>exact b9 h
   |ret u=>
    obtain⟨v,H',os,bare,un,X0,r',q⟩:=h;have q':v=.bl ai:=q;subst q';obtain rfl:u=ah.bool ai:=r';have M:∃more,g.heap.get? T=aa (W.tabObj more):=by obtain⟨more,z⟩:=un.sA T _ Wg;exact⟨#[]++more,(show jq P w H' g.heap T (.xV _) from X0 T _ z)⟩
    have keep:∀b o,b≠T->f.heap.get? b=aa o->g.heap.get? b=aa o:=λb o E e=>by
     rcases hO b E with z|⟨ob,xs,z⟩
     .exact un.keep b o e z (by intro z;exact absurd (show b∈([]:List ar) from z) (by simp)) (by simp)
     .have z2:=un.qF b ob _ z;obtain⟨e1,_⟩:=iC b _ z;obtain⟨e2,_⟩:=X0 b _ z2;rw[e] at e1;cases e1;exact e2
    obtain⟨more,M⟩:=M;refine⟨rfl,⟨λb o e=>?_,λb o e=>?_⟩,os,bare⟩
    .by_cases z:b=T
     .subst z;rw[p] at e;cases e;exact .inr (.inl ⟨ct,rfl,#[],more,rfl,by rw[Array.empty_append];exact M⟩)
     .exact .inl (keep b o z e)
    .by_cases z:b=T
     .exact⟨_,z▸M⟩
     .exact⟨o,keep b o z e⟩
 cases hk:K.lookup a with
 |some o=>
  have e:=Q a o hk;rw[ha] at e;cases e;refine G (λb=>if b=T then aa (.xV #[]) else am) (if_pos rfl) (λb E=>.inl (if_neg E)) (.inr ⟨_,B.toArray,_,hk,rfl,rfl,rfl,by rw[aO,aiu];exact hl,by simpa using rv⟩) (λb u z=>?_) (λb z=>?_) λz=>absurd (if_neg aT) z
  .by_cases hb:b=T
   .subst hb;have j:=(if_pos rfl).symm.trans z;cases j;exact p
   .have j:=(if_neg hb).symm.trans z;cases j
  .by_cases hb:b=T
   .exact .inr hb
   .exact absurd (if_neg hb) z
 |none=>
  refine G (λb=>if b=T then aa (.xV #[]) else if b=a then aa _ else am) (if_pos rfl) (λb E=>?_) (.inl (.inr ⟨{cls:=.type ap,data:=.seq B.toArray},by show(if a=T then _ else if a=a then _ else _)=_;rw[if_neg aT,if_pos rfl]⟩)) (λb u z=>?_) (λb z=>?_) λ_=>hk
  .by_cases hb:b=a
   .exact .inr ⟨_,_,by show(if b=T then _ else if b=a then _ else _)=_;rw[if_neg E,if_pos hb]⟩
   .exact .inl (by show(if b=T then _ else if b=a then _ else _)=_;rw[if_neg E,if_neg hb])
  .by_cases J:b=T
   .subst J;have j:=(if_pos rfl).symm.trans z;cases j;exact p
   .have z1:=(if_neg J).symm.trans z;by_cases hb:b=a
    .have j:=(if_pos hb).symm.trans z1;cases j;subst hb;exact⟨ha,by rw[ak];exact hl,B,_,rv,ha⟩
    .have j:=(if_neg hb).symm.trans z1;cases j
  .by_cases J:b=T
   .exact .inr J
   .by_cases hb:b=a
    .exact .inl hb
    .exact absurd (by show(if b=T then _ else if b=a then _ else _)=_;rw[if_neg J,if_neg hb]) z
def afX{l:W.OpenLaw}{k:Nat}{q:aP}{K:Params->af}{g:GP}{x:aB}(hn:l.most=aa 63)(I:d.params.defaults=[])(J:iV k akb)
(L:∀(w:bt) (h:aw),M w h->(K w.params).In h)(acF:(recsOf q).find? (λe=>e.name==(fy:aB))=aa d2)(ht:∀w:bt,(W.tabIn (K w.params) fy).isSome=ai)(nt:∀w:bt,W.noTabs (K w.params)=ai)
(j:iB g)(N:∀ns:List Int,ns.length<=63->g [.qO ns] λd=>d=.bl ai)
(F:∀(w:bt) (mg:aB->Option ah) (i:ar) (h:aw),(K w.params).In h->h.Ns bf mg->mg d.name=aa (.ref i)->
   ∃fd:cI,(∀(s:aq) (u:ah),aj0 s fd ⟨[u],[]⟩ [(x,u)])/\∀cq:aw,CW (K w.params) mg cq->jo l.prog w (K w.params) mg cq pZ k i fd [x] (jU (K w.params) (cl g))):
  W.WalkO q ZW XP M l.row.toRowW d [] (λf B=>PySem.call f B):=by
 refine Att.IL hn I λw hU O mg mb i o pm cd doc a B ns G Y ho hd xW m n Q C U=>?_;have p:=L w _ Y;obtain⟨fd,hb,hF⟩:=F w mg i _ p G.T.g m;obtain⟨⟨c,T⟩,E⟩:=Option.isSome_iff_exists.mp (ht w);obtain⟨hc,y⟩:=W.tab_of G.T p acF E;have bl:O.heap.BuiltinsAt mg T:=by
  obtain⟨bm,ob,b1,b2,b3,b4,b5,A⟩:=G.T.bmain;refine⟨bm,ob,b1,b2,λz=>?_,λz=>?_,b3,b4,b5,A⟩
  .obtain⟨o',es,ep,e,dd,_⟩:=G.T.g;rw[z,e] at b3;cases b3;rw[dd] at A;cases A
  .rw[z,y] at b3;cases b3;cases b4
 refine Qs p G.T.g G.T.b G.T.builtins G.T.nolimit U n Q (bh C (by decide)) J E (nt w) y hc bl (hc.tab y).isCodeTable hF hb λH tb hS=>?_;refine⟨[],[],[],[.qO ns],TW tb,gO.one ?_,rfl,j _ _ _ (λdd e v ii H' _ _ r=>?_) (N ns C)⟩
 .refine⟨a,rfl,?_⟩;exact CK CJ hS
 .subst e;exact r
end L3
namespace L2
theorem yu(f:Nat->Int):∀n,akF f (n+1)=f 0+akF (λi=>f (i+1)) n
 |0=>by simp[akF]
 |n+1=>by have a:=yu f n;show akF f (n+1)+f (n+1)=f 0+(akF (λi=>f (i+1)) n+f (n+1));lia
theorem AJ:∀(f:Nat->Int) (l:List Int),(∀i,i<l.length->f i=l.getD i 0)->akF f l.length=l.sum
 |f,[],_=>rfl
 |f,x::l,h=>by rw[aQ,yu,AJ (λi=>f (i+1)) l λi hi=>(by have:=h (i+1) (by simp;lia);simpa using this),h 0 (by simp)];rfl
section
variable {X:Cx}
def Qt(hc:X.calm=ai):nz X (.builtin "sum") (λxs H Q=>∃(a:ar) (ns:List Int),xs=[V.ref a]/\nr X.K H a (ns.map V.int)/\Q (.int ns.sum) H):=by
 intro cf s F H xs us Q I r h;obtain⟨a,ns,rfl,G,q⟩:=h;obtain⟨u,rfl,g⟩:=vals1 r;cases g;obtain⟨ig,w,p,hz⟩:=I.list G;have J:X.A.in1.handled=am:=I.ok.hd hc;have B:a<s.heap.objs.size:=by obtain⟨o,n,e,_⟩:=p;exact aH e
 have L:=by have:=w.length;rw[ak] at this;exact this.symm
 refine call_sum_walkAnyS (dS p.isList ?_);refine⟨s.heap.objs.size,_,_,_,_,_,_,λi=>ns.getD i 0,rfl,(aku.list J s.heap.objs.size a (bg B) ig.toArray).toS,⟨⟨_,aJ _ rfl,rfl,rfl⟩,p.isList.push _⟩,λb hb=>?_,λi v c=>?_,λM C f=>?_⟩
 .rw[bZ];simp only [aN,bN,or_false] at hb;rcases hb with rfl|rfl
  .exact ajr _
  .exact cV B
 .have c:ig[i]?=aa v:=by simpa using c
  have hi:i<ig.length:=(au.mp c).1;have hb:(ns.map V.int)[i]?=aa (V.int (ns.getD i 0)):=by rw[bn,bF,ay (by lia)];rfl
  obtain⟨u,E,g⟩:=w.get hb;rw[c] at E;cases E;exact g
 .have e:akF (λi=>ns.getD i 0) ig.toArray.size=ns.sum:=by rw[aO,L];exact AJ _ _ λi _=>rfl
  rw[e];have k:=λb o z=>f.heap b o (λy=>by rw[bp.mp y] at z;exact absurd (aH z) (cB _)) (aj _ z);obtain⟨h',N,O,j,m⟩:=M;have T:N=s.gens:=f.gens;have U:O=s.drawn:=f.drawn;have Y:m=s.os:=f.os;subst T U Y;exact⟨.int ns.sum,H,I.kept (t':=j) k,⟨C,rfl⟩,q⟩
end
end L2
namespace L3
open L2
section
variable {X:Cx}
def acG:GN:=λds M Q=>match ds with
 |[d]=>∃ns:List Int,vw M d=.lst (ns.map .int)/\Q (.int ns.sum) M
 |_=>False
theorem FU{K:af}:∀{ss:List Int} {a:List V},gO K b H (ss.map D.int) a->a=ss.map V.int
 |[],a,h=>by exact h
 |x::ss,a,h=>by obtain⟨v,r,rfl,z,y⟩:=h;rw[z,FU y];rfl
def acH(hc:X.calm=ai:=by rfl):JB X (.builtin "sum") acG:=by
 refine⟨λds M P Q w q=>?_,λcf s m H xs us Q I rs h=>?_⟩
 .match ds,q with
  |[d],⟨ns,b,q⟩=>exact⟨ns,b,w _ _ q⟩
 .obtain⟨F,n,M,ds,o,c,h⟩:=h;match ds,h,c with
  |[d],⟨ns,b,q⟩,c=>
   obtain⟨v,e,f⟩:=sI c;subst e;obtain⟨a,j,rfl,g,i⟩:=jg o f b;have e2:=FU i;subst e2;exact Qt hc cf s m H _ us Q I rs ⟨a,ns,rfl,nr.of g,vK.now o q i5⟩
end
end L3
end
local macro_rules | `(tactic| walk_at "i") => `(tactic| ((conv => whnf); first | refine ⟨_, rfl, ?_⟩ | refine ⟨rfl, ?_⟩ | refine ⟨ag rfl, ?_⟩))
local macro_rules | `(tactic| walk_at "d") => `(tactic| ((repeat walk_at "i"); try (conv => whnf)))
namespace FJ
open PySem PySem.Spec L2 L3
def CY (K:af):DS:=(ia (Az (iH (kY K) (gM (gN 0) (gM (dC (.ty ic)) gQ))) (Z5 (iH (kY K) (gM (gN 0) (gM (dC (.ty jd)) gQ))))))
def zN (K:af):DS:=(hG (iA (SW (oR (gW (iH (kY K) (gM (gN 0) (gM (dC (.ty hX)) gQ))))) (oR (gW (oS Bv Bv (dC (.int 1)) (iH oU (gM (gN 0) gQ)) (dC (.int 8)))))) (ia (dC (.bl ao))) hV)
 (ia (iH P5 (gM (iS (iX [am] (iO (gN 0)) (gU 0) nv (oS Bv Bv (dC (.str "a")) (gN 0) (dC (.str "z"))))) gQ))))
def CZ (K:af):DS:=(aak K ec (gN 0) (gN 1))
def oF (K:af):DS:=(ia (iH GQ (gM (iS (iX [am] (iO (TL K ec (gN 0))) (gU 0) nv (dIf (gW (iH (kY K) (gM (gN 0) (gM (dC (.ty dy)) gQ)))) (lD (Xx CG (gM (gN 0) gQ))) (gN 0)))) gQ)))
def AK:DS:=(ia (lD (jI gQ)))
def wR:DS:=(ia (dC (.bl ao)))
def qR:DS:=(ia (dC (.bl ai)))
def yv:DS:=(ia (dC (.bl ao)))
def sJ (K:af):DS:=(ia (lD (Xx CG (gM (Ja (TL K ec (gN 0)) (my (dC (.int 2))) j0) gQ))))
def u9 (K:af):DS:=(ia (lD (jI (gM (g9 i7 (TL K ec (gN 0)) (Jb (dC (.int 1)))) gQ))))
def xq:DS:=(ia (dC (.bl ao)))
def sL (K:af):DS:=(ia (lD (Xx CG (gM (g9 i7 (TL K ec (gN 0)) (dC (.int 1))) gQ))))
def tN (K:af)(a:GN):DS:=(hG (iA (SW (oR (gW (iH (kY K) (gM (gN 1) (gM (dC (.ty ap)) gQ))))) (oR (gW (oS Bv Bv (dC (.int 1)) (iH oU (gM (gN 1) gQ)) (dC (.int 60)))))) (ia (dC (.bl ao))) hV)
 (ia (iH P5 (gM (iS (iX [am,aa 0] (iO (gN 1)) (gU 0) nv (iH a (gM (gN 1) (gM (gN 0) gQ))))) gQ))))
def C0 (K:af)(c:GN)(a:GN)(b:GN):DS:=(hG (iA (gW (g9 nQ (gN 0) (dC (.str la)))) (ia (iH c (gM (gN 1) gQ))) hV)
 (hG (iA (gW (g9 nQ (gN 0) (dC (.str jm)))) (ia (Az (iH a (gM (gN 1) gQ)) (oS Bv Bv (dC (.int 0)) (gN 1) (dC (.int 3))))) hV)
 (hG (iA (gW (g9 nQ (gN 0) (dC (.str mB)))) (ia (Az (iH a (gM (gN 1) gQ)) (oS Bv Bv (dC (.int (-2147483648))) (gN 1) (dC (.int 2147483647))))) hV)
 (hG (iA (gW (g9 nQ (gN 0) (dC (.str "truth")))) (ia (iH (kY K) (gM (gN 1) (gM (dC (.ty jd)) gQ)))) hV)
 (hG (iA (gW (g9 nQ (gN 0) (dC (.str ew)))) (ia (iH b (gM (dC (.str mB)) (gM (gN 1) gQ)))) hV)
 (ia (iH b (gM (dC (.str la)) (gM (gN 1) gQ)))))))))
def C1 (K:af)(a:ar)(b:List (aB×D))(c:GN):DS:=(hG (iA (SW (oR (gW (iH (kY K) (gM (gN 0) (gM (dC (.ty dy)) gQ))))) (gW (g9 nQ (iH oU (gM (gN 0) gQ)) (dC (.int 0))))) (ia (dC (.bl ao))) hV)
 (hG (iA (SW (oR (gW (iH (kY K) (gM (g9 i7 (gN 0) (dC (.int 0))) (gM (dC (.ty hX)) gQ))))) (gW (g9 (GU ai a b) (g9 i7 (gN 0) (dC (.int 0))) (dC (.cls a))))) (ia (dC (.bl ao))) hV)
 (hG (iF 1 (g9 (GR a b) (dC (.cls a)) (g9 i7 (gN 0) (dC (.int 0)))))
 (hG (iA (gW (g9 IY (iH oU (gM (gN 0) gQ)) (g9 iL (dC (.int 1)) (iH oU (gM (gN 1) gQ))))) (ia (dC (.bl ao))) hV)
 (ia (iH P5 (gM (iS (iX [am,am] (aah (gM (gN 1) (gM (Ja (gN 0) (my (dC (.int 1))) j0) gQ))) (iU 2 (gX (gU 0) (gX (gU 1) iT))) nv (iH c (gM (gN 0) (gM (gN 1) gQ))))) gQ)))))))
def C2 (a:ar)(b:GN)(c:ar)(e:GN)(f:ar)(g:GN)(h:ar)(i:GN)(j:ar)(m:GN)(n:ar)(o:GN):DS:=(hG (iF 1 (g9 i7 (gN 0) (dC (.int 0))))
 (hG (iA (gW (g9 nQ (gN 1) (dC (.str fi)))) (ia (rQ a b (gM (gN 0) gQ))) hV)
 (hG (iA (gW (g9 nQ (gN 1) (dC (.str jp)))) (ia (rQ c e (gM (gN 0) gQ))) hV)
 (hG (iA (gW (g9 (By ao) (gN 1) (iP (gM (dC (.str lR)) (gM (dC (.str me)) gQ))))) (ia (rQ f g (gM (gN 0) gQ))) hV)
 (hG (iA (gW (g9 (By ao) (gN 1) (iP (gM (dC (.str nb)) (gM (dC (.str lc)) gQ))))) (ia (rQ h i (gM (gN 0) gQ))) hV)
 (hG (iA (gW (g9 (By ao) (gN 1) (iP (gM (dC (.str lp)) (gM (dC (.str lr)) (gM (dC (.str kf)) gQ)))))) (ia (rQ j m (gM (gN 0) gQ))) hV)
 (ia (rQ n o (gM (gN 0) gQ)))))))))
def Jw (K:af)(a:GN)(b:ar)(c:GN)(e:ar)(f:GN)(g:ar)(h:GN)(i:GN):DS:=(hG (iA (oR (gW (iH a (gM (gN 0) gQ)))) (ia (dC .non)) hV)
 (hG (iF 1 (iH GQ (gM (iS (iX [am] (iO (gN 0)) (gU 0) nv (dIf (gW (iH (kY K) (gM (gN 0) (gM (dC (.ty ap)) gQ)))) (iH GQ (gM (gN 0) gQ)) (gN 0)))) gQ)))
 (hG (iA (gW (g9 nQ (g9 i7 (gN 1) (dC (.int 0))) (dC (.str kt)))) (ia (rQ b c (gM (gN 1) gQ))) hV)
 (hG (iA (gW (g9 nQ (g9 i7 (gN 1) (dC (.int 0))) (dC (.str ew)))) (ia (rQ e f (gM (gN 1) gQ))) hV)
 (hG (iA (gW (g9 nQ (g9 i7 (gN 1) (dC (.int 0))) (dC (.str el)))) (ia (rQ g h (gM (gN 1) gQ))) hV)
 (ia (iH i (gM (gN 1) gQ))))))))
noncomputable def low(x:aB):Bool:=x.cps.toList.all λc=>decide (97<=c)&&decide (c<=122)
noncomputable def mC(x:aB):Bool:=decide (1<=x.length)&&decide (x.length<=8)&&low x
noncomputable def qT(b:Int):Bool:=decide (0<=b)&&decide (b<=3)
noncomputable def okN(n:Int):Bool:=decide (-2147483648<=n)&&decide (n<=2147483647)
def nE:GP:=λds Q=>∃i:Int,ds=[.int i]/\Q (.bl ai)
def Ba:iB nE:=by
 rintro ds P Q w ⟨i,h,q⟩
 exact⟨i,h,w _ q⟩
def Jx(K:af):∀ds Q,nE ds Q->jl 1 1 (CY K) ds Q:=by
 rintro ds Q ⟨i,h,q⟩
 subst h;exact⟨rfl,_,rfl,_,rfl,rfl,q⟩
def nF:GP:=λds Q=>∃w:aB,mC w=ai/\ds=[.str w]/\Q (.bl ai)
def C3:iB nF:=by
 rintro ds P Q w ⟨i,a,h,q⟩
 exact⟨i,a,h,w _ q⟩
def BD{Q:DK}(h:a<=b)(q:Q (.bl ai) M):Bv (.int a) (.int b) M Q:=by show Q _ M;rw[decide_eq_true h];exact q
def afY{Q:DK}(h:97<=c)(q:Q (.bl ai) M):Bv (.str "a") (.str ⟨#[c]⟩) M Q:=by show Q (.bl (!decide ([c]<[97]))) M;rw[show decide _=ao by simp[fP];lia];exact q
def afZ{Q:DK}(h:c<=122)(q:Q (.bl ai) M):Bv (.str ⟨#[c]⟩) (.str "z") M Q:=by show Q (.bl (!decide ([122]<[c]))) M;rw[show decide _=ao by simp[fP];lia];exact q
def Jy{xs:List D}(q:Q (.bl ai) M):P5 [.lst ([]++xs.map λ_=>D.bl ai)] M Q:=by refine⟨xs.map λ_=>ai,by rw[bd];rfl,?_⟩;rw[show(xs.map λ_=>ai).all id=ai by simp];exact q
def Ml(K:af):∀ds Q,nF ds Q->jl 1 1 (zN K) ds Q:=by
 rintro ds Q ⟨x,hw,h,q⟩
 subst h;unfold mC at hw;rw[aU,aU,decide_eq_true_eq,decide_eq_true_eq] at hw;obtain⟨⟨n,g⟩,i⟩:=hw;have b:x.length<=az:=bh g (by decide);have a:=@BD;have e:=@afY;have f:=@afZ;unfold zN;generalize Bv=ge at a e f |-;refine⟨rfl,_,rfl,_,if_pos b,?_⟩;refine a (by lia) ?_;refine a (by lia) ?_;refine⟨_,rfl,rfl,?_⟩;refine kZ (λ_=>.bl ai) ?_ _ _ ?_ (λy j o m=>?_) ?_
 .exact rfl
 .rw[bE,ba,ak];exact b
 .obtain⟨c,hc,rfl⟩:=bC.mp j;have:=bG.mp i c hc;rw[aU,decide_eq_true_eq,decide_eq_true_eq] at this;exact e this.1 (f this.2 (m _ rfl))
 .exact Jy ⟨rfl,q⟩
inductive zO:aB->D->Prop
 |w {x:aB}:mC x=ai->zO la (.str x)
 |b {i:Int}:qT i=ai->zO jm (.int i)
 |n {i:Int}:okN i=ai->zO mB (.int i)
 |t {b:Bool}:zO "truth" (.bl b)
inductive RK:aB->D->Prop
 |a {f:aB} {d:D}:zO f d->RK f d
 |ns {ds:List D}:1<=ds.length->ds.length<=60->(∀d∈ds,zO mB d)->RK ew (.lst ds)
 |ws {ds:List D}:1<=ds.length->ds.length<=60->(∀d∈ds,zO la d)->RK fq (.lst ds)
theorem zO.nl(h:zO f d):nl d=ai:=by cases h<;>rfl
def Jz(h:∀d∈ds,zO f d):lN ds=ai:=by rw[GC];exact bG.mpr λd hd=>(h d hd).nl
theorem RK.nl(h:RK f d):lN [.str f,d]=ai:=by
 have:=by
  cases h with
  |a h=>exact h.nl
  |ns _ _ h=>exact Jz h
  |ws _ _ h=>exact Jz h
 show(ai&&(L3.nl d&&ai))=ai;rw[this];rfl
def G4:GP:=λds Q=>∃f d,zO f d/\ds=[.str f,d]/\Q (.bl ai)
def G5:iB G4:=by
 rintro ds P Q w ⟨f,d,a,h,q⟩
 exact⟨f,d,a,h,w _ q⟩
def acI:GP:=λds Q=>∃f xs,1<=xs.length/\xs.length<=60/\(∀d∈xs,zO f d)/\ds=[.str f,.lst xs]/\Q (.bl ai)
def Qu:iB acI:=by
 rintro ds P Q w ⟨f,d,a,b,c,h,q⟩
 exact⟨f,d,a,b,c,h,w _ q⟩
def C4:GP:=λds Q=>∃f d,RK f d/\ds=[.str f,d]/\Q (.bl ai)
def JD:iB C4:=by
 rintro ds P Q w ⟨f,d,a,h,q⟩
 exact⟨f,d,a,h,w _ q⟩
def Ue(h:zO f d)(q:Q (.bl ai)):jl 2 2 (C0 K (cl nF) (cl nE) g) [.str f,d] Q:=by
 have a:=@BD;unfold C0;generalize Bv=ge at a |-;cases h with
 |w h=>exact⟨rfl,rfl,_,h,rfl,rfl,q⟩
 |b h=>
  unfold qT at h;rw[aU,decide_eq_true_eq,decide_eq_true_eq] at h;exact⟨rfl,rfl,_,rfl,a h.1 (a h.2 ⟨rfl,q⟩)⟩
 |n h=>
  unfold okN at h;rw[aU,decide_eq_true_eq,decide_eq_true_eq] at h;exact⟨rfl,rfl,_,rfl,a h.1 (a h.2 ⟨rfl,q⟩)⟩
 |t=>exact⟨rfl,_,rfl,rfl,q⟩
def Uf(K:af)(g:GN):∀ds Q,G4 ds Q->jl 2 2 (C0 K (cl nF) (cl nE) g) ds Q:=by
 rintro ds Q ⟨f,d,h,e,q⟩
 subst e;exact Ue h q
def af0(K:af):∀ds Q,acI ds Q->jl 2 2 (tN K (cl G4)) ds Q:=by
 rintro ds Q ⟨f,xs,j,h,c,e,q⟩
 subst e;have b:=@BD;unfold tN;generalize Bv=ge at b |-;refine⟨rfl,_,rfl,_,rfl,?_⟩;refine b (by lia) ?_;refine b (by lia) ?_;refine⟨_,rfl,rfl,?_⟩;refine kZ (λ_=>.bl ai) ?_ _ _ ?_ (λy g m i=>?_) ?_
 .exact rfl
 .rw[bE,ba];exact bh h (by decide)
 .exact⟨RK.nl (.a (c y g)),f,y,c y g,rfl,i _ rfl⟩
 .exact Jy ⟨rfl,q⟩
def X2(K:af):∀ds Q,C4 ds Q->jl 2 2 (C0 K (cl nF) (cl nE) (cl acI)) ds Q:=by
 rintro ds Q ⟨f,d,h,e,q⟩
 subst e;cases h with
 |a h=>exact Ue h q
 |ns b c g=>exact⟨rfl,(RK.ns b c g).nl,_,_,b,c,g,rfl,rfl,q⟩
 |ws b c g=>exact⟨rfl,(RK.ws b c g).nl,_,_,b,c,g,rfl,rfl,q⟩
open PySem PySem.Spec PyProof.Rows.KTD L2 L3
noncomputable def fm(l:List aB):D:=.tup (l.map .str)
noncomputable def aan:List (aB×D):=[(kt,fm [la,"truth"]),(fi,fm [jm,mB]),("add",fm [jm,jm]),(pa,fm [jm,jm]),(lf,fm [jm]),("ask",fm [jm]),(nb,fm [la]),(lp,fm [jm,la]),(lr,fm [la]),(lR,fm []),(me,fm []),(kf,fm [jm,jm,la]),(lc,fm [jm,la]),(jp,fm [jm,la,la]),(ew,fm [ew]),(el,fm [fq])]
inductive Rw
 |mark (w:aB) (b:Bool)|set (b n:Int)|add (b c:Int)|take (b c:Int)|say (b:Int)|ask (b:Int)|jump (w:aB)|jumpif (b:Int) (w:aB)|call (w:aB)|back|stop
 |load (b c:Int) (w:aB)|jumpby (b:Int) (w:aB)|alike (b:Int) (w v:aB)|numbers (ns:List Int)|table (ws:List aB)
 deriving DecidableEq
noncomputable def Rw.d:Rw->D
 |.mark w b=>.tup [.str kt,.str w,.bl b]|.set b n=>.tup [.str fi,.int b,.int n]|.add b c=>.tup [.str "add",.int b,.int c]|.take b c=>.tup [.str pa,.int b,.int c]
 |.say b=>.tup [.str lf,.int b]|.ask b=>.tup [.str "ask",.int b]|.jump w=>.tup [.str nb,.str w]|.jumpif b w=>.tup [.str lp,.int b,.str w]|.call w=>.tup [.str lr,.str w]
 |.back=>.tup [.str lR]|.stop=>.tup [.str me]|.load b c w=>.tup [.str kf,.int b,.int c,.str w]|.jumpby b w=>.tup [.str lc,.int b,.str w]|.alike b w v=>.tup [.str jp,.int b,.str w,.str v]
 |.numbers ns=>.tup [.str ew,.lst (ns.map .int)]|.table ws=>.tup [.str el,.lst (ws.map .str)]
noncomputable def Rw.t:Rw->D
 |.numbers ns=>.tup [.str ew,.tup (ns.map .int)]|.table ws=>.tup [.str el,.tup (ws.map .str)]
 |r=>r.d
noncomputable def Rw.ok:Rw->Bool
 |.mark w _=>mC w|.set b n=>qT b&&okN n|.add b c=>qT b&&qT c|.take b c=>qT b&&qT c|.say b=>qT b|.ask b=>qT b|.jump w=>mC w|.jumpif b w=>qT b&&mC w|.call w=>mC w
 |.back=>ai|.stop=>ai|.load b c w=>qT b&&qT c&&mC w|.jumpby b w=>qT b&&mC w|.alike b w v=>qT b&&mC w&&mC v
 |.numbers ns=>decide (1<=ns.length)&&decide (ns.length<=60)&&ns.all okN
 |.table ws=>decide (1<=ws.length)&&decide (ws.length<=60)&&ws.all mC
def b1(h:(a&&b)=ai):a=ai:=(aU _ _▸h).1
def b2(h:(a&&b)=ai):b=ai:=(aU _ _▸h).2
def C5:GP:=λds Q=>∃r:Rw,r.ok=ai/\ds=[r.d]/\Q (.bl ai)
def EL:iB C5:=by
 rintro ds P Q w ⟨r,a,h,q⟩
 exact⟨r,a,h,w _ q⟩
def pf{Q:DK}(h:RK f d)(q:Q (.bl ai) M):cl C4 [.str f,d] M Q:=⟨h.nl,f,d,h,rfl,q⟩
def acJ(h:(Rw.numbers ns).ok=ai):RK ew (.lst (ns.map .int)):=by refine .ns (by rw[ak];exact of_decide_eq_true (b1 (b1 h))) (by rw[ak];exact of_decide_eq_true (b2 (b1 h))) λd hd=>?_;obtain⟨n,hn,rfl⟩:=bC.mp hd;exact .n (bG.mp (b2 h) n hn)
def acK(h:(Rw.table ws).ok=ai):RK fq (.lst (ws.map .str)):=by refine .ws (by rw[ak];exact of_decide_eq_true (b1 (b1 h))) (by rw[ak];exact of_decide_eq_true (b2 (b1 h))) λd hd=>?_;obtain⟨n,hn,rfl⟩:=bC.mp hd;exact .w (bG.mp (b2 h) n hn)
def Qv(K:af)(c:ar):∀ds Q,C5 ds Q->jl 2 1 (C1 K c aan (cl C4)) ds Q:=by
 rintro ds Q ⟨r,h,e,q⟩
 subst e;have pf:=@pf;unfold C1;generalize cl C4=g at pf |-;have L:∀{a b:Nat},Nat.ble a b=ai->a<=b:=ag;refine⟨rfl,?_⟩;cases r;all_goals walk_at "d";refine⟨λh=>Nat.one_ne_zero h.1,_,_,rfl,rfl,⟨rfl,rfl⟩,?_⟩
 case mark=>exact⟨rfl,rfl,pf (.a (.w h)) ⟨⟨rfl,rfl⟩,L rfl,rfl,rfl,pf (.a .t) ⟨⟨rfl,rfl⟩,L rfl,[ai,ai],rfl,rfl,q⟩⟩⟩
 case set=>exact⟨rfl,rfl,pf (.a (.b (b1 h))) ⟨⟨rfl,rfl⟩,L rfl,rfl,rfl,pf (.a (.n (b2 h))) ⟨⟨rfl,rfl⟩,L rfl,[ai,ai],rfl,rfl,q⟩⟩⟩
 case add=>exact⟨rfl,rfl,pf (.a (.b (b1 h))) ⟨⟨rfl,rfl⟩,L rfl,rfl,rfl,pf (.a (.b (b2 h))) ⟨⟨rfl,rfl⟩,L rfl,[ai,ai],rfl,rfl,q⟩⟩⟩
 case take=>exact⟨rfl,rfl,pf (.a (.b (b1 h))) ⟨⟨rfl,rfl⟩,L rfl,rfl,rfl,pf (.a (.b (b2 h))) ⟨⟨rfl,rfl⟩,L rfl,[ai,ai],rfl,rfl,q⟩⟩⟩
 case say=>exact⟨rfl,rfl,pf (.a (.b h)) ⟨⟨rfl,rfl⟩,L rfl,[ai],rfl,rfl,q⟩⟩
 case ask=>exact⟨rfl,rfl,pf (.a (.b h)) ⟨⟨rfl,rfl⟩,L rfl,[ai],rfl,rfl,q⟩⟩
 case jump=>exact⟨rfl,rfl,pf (.a (.w h)) ⟨⟨rfl,rfl⟩,L rfl,[ai],rfl,rfl,q⟩⟩
 case jumpif=>exact⟨rfl,rfl,pf (.a (.b (b1 h))) ⟨⟨rfl,rfl⟩,L rfl,rfl,rfl,pf (.a (.w (b2 h))) ⟨⟨rfl,rfl⟩,L rfl,[ai,ai],rfl,rfl,q⟩⟩⟩
 case call=>exact⟨rfl,rfl,pf (.a (.w h)) ⟨⟨rfl,rfl⟩,L rfl,[ai],rfl,rfl,q⟩⟩
 case back=>exact⟨[],rfl,rfl,q⟩
 case stop=>exact⟨[],rfl,rfl,q⟩
 case load=>exact⟨rfl,rfl,pf (.a (.b (b1 (b1 h)))) ⟨⟨rfl,rfl⟩,L rfl,rfl,rfl,pf (.a (.b (b2 (b1 h)))) ⟨⟨rfl,rfl⟩,L rfl,rfl,rfl,pf (.a (.w (b2 h))) ⟨⟨rfl,rfl⟩,L rfl,[ai,ai,ai],rfl,rfl,q⟩⟩⟩⟩
 case jumpby=>exact⟨rfl,rfl,pf (.a (.b (b1 h))) ⟨⟨rfl,rfl⟩,L rfl,rfl,rfl,pf (.a (.w (b2 h))) ⟨⟨rfl,rfl⟩,L rfl,[ai,ai],rfl,rfl,q⟩⟩⟩
 case alike=>exact⟨rfl,rfl,pf (.a (.b (b1 (b1 h)))) ⟨⟨rfl,rfl⟩,L rfl,rfl,rfl,pf (.a (.w (b2 (b1 h)))) ⟨⟨rfl,rfl⟩,L rfl,rfl,rfl,pf (.a (.w (b2 h))) ⟨⟨rfl,rfl⟩,L rfl,[ai,ai,ai],rfl,rfl,q⟩⟩⟩⟩
 case numbers=>exact⟨rfl,rfl,pf (acJ h) ⟨⟨rfl,rfl⟩,L rfl,[ai],rfl,rfl,q⟩⟩
 case table=>exact⟨rfl,rfl,pf (acK h) ⟨⟨rfl,rfl⟩,L rfl,[ai],rfl,rfl,q⟩⟩
structure CA where
 (Row Mark Code Data Ug Last Set Alike Uh Leave jM Table:ar)
inductive Kn
 |Mark|Ug|Last|Set|Alike|Uh|Leave|jM|Table
noncomputable def CA.at(c:CA):Kn->ar
 |.Mark=>c.Mark|.Ug=>c.Ug|.Last=>c.Last|.Set=>c.Set|.Alike=>c.Alike|.Uh=>c.Uh|.Leave=>c.Leave|.jM=>c.jM|.Table=>c.Table
noncomputable def Rw.kn:Rw->Kn
 |.mark _ _=>.Mark|.set _ _=>.Set|.add _ _|.take _ _|.say _|.ask _=>.Ug|.jump _|.jumpby _ _=>.Leave|.jumpif _ _|.call _|.load _ _ _=>.Uh|.back|.stop=>.Last
 |.alike _ _ _=>.Alike|.numbers _=>.jM|.table _=>.Table
noncomputable def Rw.cls(c:CA)(r:Rw):ar:=c.at r.kn
noncomputable def Rw.ins(c:CA)(r:Rw):D:=.ins (r.cls c) [ec] [r.t]
def nG (K:af):GN:=λds M Q=>∃M1 C d,ds=[.loc M1.length,d]/\M=M1++[aa (.ins C [] [])]/\p6 K C ec/\Q .non (M1++[aa (.ins C [ec] [d])])
def JH:oz (nG K):=by
 rintro ds M P Q w ⟨M1,C,d,a,b,c,q⟩
 exact⟨M1,C,d,a,b,c,w _ _ q⟩
def Ow{β:Type}{M:List β}{x:β}:(M++[x])[M.length]?=aa x:=by simp
def Ox{β:Type}{M:List β}{x y:β}:(M++[x]).set M.length y=M++[y]:=by simp
def X3:∀ds M Q,nG K ds M Q->Cs 2 2 (CZ K) ds M Q:=by
 rintro ds M Q ⟨M1,C,d,a,b,c,q⟩
 subst a b;refine⟨rfl,?_⟩;refine⟨C,[],[],Ow,c,by decide,?_⟩;rw[Ox];exact q
noncomputable def Rw.code:Rw->Bool
 |.mark _ _|.numbers _|.table _=>ao
 |_=>ai
def qd (c:CA):GP:=λds Q=>∃r:Rw,r.code=ai/\ds=[r.t]/\Q (r.ins c)
def Bb:iB (qd c):=by
 rintro ds P Q w ⟨r,a,b,q⟩
 exact⟨r,a,b,w _ q⟩
structure FOk(K:af)(c:CA):Prop where
 f:∀r:Rw,p6 K (r.cls c) ec
def JJ{Q:DK}(r:Rw)(h:p6 K (r.cls c) ec)(n:nl r.t=ai)(q:Q (r.ins c) M):nG K [.loc M.length,r.t] (M++[aa (.ins (r.cls c) [] [])]) λd M2=>d=.non/\∃ns es,M2=M++[aa (.ins (r.cls c) ns es)]/\lN es=ai/\Q (.ins (r.cls c) ns es) M:=
 ⟨M,_,_,rfl,rfl,h,rfl,_,_,rfl,by unfold lN;rw[n];rfl,q⟩
def Rw.Wh(r:Rw):nl r.d=ai:=by cases r<;>first|rfl|exact(show(ai&&(lN _&&ai))=ai by rw[jQ (λ_=>rfl)];rfl)
def Rw.nlt(r:Rw):nl r.t=ai:=by cases r<;>first|rfl|(show(ai&&(lN _&&ai))=ai;rw[jQ (λ_=>rfl)];rfl)
def Rw.nli(c:CA)(r:Rw):nl (r.ins c)=ai:=by show(nl r.t&&ai)=ai;rw[r.nlt];rfl
def JK(f:FOk K c):∀ds Q,qd c ds Q->jl 2 1 (C2 c.Set (nG K) c.Alike (nG K) c.Last (nG K) c.Leave (nG K) c.Uh (nG K) c.Ug (nG K)) ds Q:=by
 rintro ds Q ⟨r,b,e,q⟩
 subst e;have g:=f.f r;have a:=r.nlt;have mk:=λh i=>JJ (M:=[]) (Q:=h) r g a i;cases r<;>first|(cases b;done)|skip
 all_goals
  walk_at "d";exact mk _ ⟨a,q⟩
def C6 (c:CA):GN:=λds M Q=>∃r:Rw,r.ok=ai/\ds=[r.d]/\Q (r.ins c) M
def EM:oz (C6 c):=by
 rintro ds M P Q w ⟨r,a,b,q⟩
 exact⟨r,a,b,w _ _ q⟩
def X4(e:dv M x=d):uT M [x]=[d]:=by unfold uT;rw[e];rfl
noncomputable def itL:D->Bool
 |.str _|.int _|.bl _|.lst _=>ai
 |_=>ao
noncomputable def toT:D->D
 |.lst xs=>.tup xs
 |d=>d
noncomputable def Rw.itd(r:Rw):List D:=match r.d with|.tup ds=>ds|_=>[]
def Rw.af1(r:Rw):r.d=.tup r.itd:=by cases r<;>rfl
def Rw.af2(r:Rw):r.t=.tup (r.itd.map toT):=by cases r<;>rfl
def Rw.acL(r:Rw):r.itd.all itL=ai:=by cases r<;>rfl
def Rw.X5(r:Rw):r.itd.length<=az:=bh (m:=4) (by cases r<;>exact ag rfl) (by decide)
def Qw(f:FOk K c):∀ds M Q,C6 c ds M Q->Cs 2 1 (Jw K (bor C5) c.Mark (nG K) c.jM (nG K) c.Table (nG K) (cl (qd c))) ds M Q:=by
 rintro ds M Q ⟨r,i,j,q⟩
 subst j;have m:=f.f r;have b:=r.nlt;have mk:=λn o=>JJ (M:=M) (Q:=n) r m b o;have g:=r.Wh;have hd:lN [r.d]=ai:=by unfold lN;rw[g];rfl
 have hn:lN [r.t]=ai:=by unfold lN;rw[b];rfl
 have p:r.code=ai->cl (qd c) [r.t] M Q:=λh=>⟨hn,r,h,rfl,q⟩;refine⟨rfl,?_⟩;conv=>whnf
 rw[X4 (aal M _ g)];refine⟨hd,r,i,rfl,rfl,?_⟩;rw[r.af1];refine⟨_,rfl,rfl,?_⟩;refine kZ toT ?_ _ _ ?_ (λx a v u=>?_) ?_
 .exact rfl
 .rw[bE,ba];exact r.X5
 .have a:=bG.mp r.acL x a;cases x<;>first|(cases a;done)|skip
  all_goals
   walk_at "d";exact u _ rfl
 have e:=r.af2;cases r;all_goals
  cases e;walk_at "d";first|exact(p rfl).2|exact mk _ q
noncomputable def Rw.qf:Rw->Bool
 |.mark _ _|.numbers _|.table _|.jump _|.jumpby _ _|.back|.stop=>ao
 |_=>ai
noncomputable def Rw.names:Rw->List D
 |.jump w|.jumpif _ w|.call w|.load _ _ w|.jumpby _ w=>[.str w]
 |.alike _ w v=>[.str w,.str v]
 |.table ws=>ws.map .str
 |_=>[]
def BE (c:CA)(k:Kn):GP:=λds Q=>∃r:Rw,r.kn=k/\ds=[r.ins c]/\Q r.d
def C7 (c:CA)(k:Kn):GN:=λds M Q=>∃(r:Rw) (x:aB) (xs:List D),r.kn=k/\ds=[r.ins c]/\r.d=.tup [.str x,.lst xs]/\Q (.tup [.str x,.loc M.length]) (M++[aa (.lst xs)])
def v8 (c:CA)(k:Kn):GN:=λds M Q=>∃r:Rw,r.kn=k/\ds=[r.ins c]/\Q (.loc M.length) (M++[aa (.lst r.names)])
def tT (c:CA)(k:Kn):GP:=λds Q=>∃r:Rw,r.kn=k/\ds=[r.ins c]/\Q (.bl r.qf)
def yB:iB (BE c k):=by
 rintro ds P Q w ⟨r,a,b,q⟩
 exact⟨r,a,b,w _ q⟩
def jh:iB (tT c k):=by
 rintro ds P Q w ⟨r,a,b,q⟩
 exact⟨r,a,b,w _ q⟩
def EN{c:CA}{k:Kn}:oz (C7 c k):=by
 rintro ds M P Q w ⟨r,x,xs,a,b,e,q⟩
 exact⟨r,x,xs,a,b,e,w _ _ q⟩
def jw:oz (v8 c k):=by
 rintro ds M P Q w ⟨r,a,b,q⟩
 exact⟨r,a,b,w _ _ q⟩
def C8(h:lN xs=ai):nl (.tup [.str x,.lst xs])=ai:=by show(ai&&(lN xs&&ai))=ai;rw[h];rfl
def yC{ns:List Int}:lN (ns.map D.int)=ai:=jQ (λ_=>rfl) _
def qg{ns:List aB}:lN (ns.map D.str)=ai:=jQ (λ_=>rfl) _
noncomputable def plI:D->Bool
 |.str _|.int _|.bl _=>ai
 |_=>ao
noncomputable def Rw.ig(r:Rw):List D:=match r.t with|.tup ds=>ds|_=>[]
def Rw.af3(r:Rw):r.t=.tup r.ig:=by cases r<;>rfl
def Rw.X6(r:Rw):r.ig.length<=az:=bh (m:=4) (by cases r<;>exact ag rfl) (by decide)
def Rw.aiv(r:Rw)(h:r.ig.all plI=ai):r.d=.tup r.ig:=by cases r<;>first|rfl|cases h
def JL(f:FOk K c)(k:Kn):∀ds Q,BE c k ds Q->jl 1 1 (oF K) ds Q:=by
 rintro ds Q ⟨r,m,i,q⟩
 subst i;have g:=f.f r;have h:=r.nlt;by_cases b:r.ig.all plI=ai
 .rw[r.aiv b] at q;unfold Rw.ins;rw[r.af3] at h |-;refine⟨rfl,_,_,_,_,rfl,g,rfl,_,rfl,rfl,?_⟩;refine kZ (λd=>d) ?_ _ _ ?_ (λx a n j=>?_) ?_
  .exact rfl
  .rw[bE,ba];exact r.X6
  .have a:=bG.mp b x a;cases x<;>first|(cases a;done)|skip
   all_goals
    walk_at "d";exact j _ rfl
  .have e:r.ig.map (vw [])=r.ig:=(eU λx a=>by cases x<;>first|rfl|cases a).trans (List.map_id' _)
   rw[List.map_id'];show nl (.tup (r.ig.map (vw [])))=ai/\Q (.tup (r.ig.map (vw [])));rw[e];exact⟨h,q⟩
 .cases r<;>first|exact absurd rfl b|skip
  all_goals
   refine⟨rfl,?_⟩;refine⟨_,_,_,_,rfl,g,rfl,?_⟩;walk_at "d";first|exact⟨C8 yC,q⟩|exact⟨C8 qg,q⟩
def Qx{K:af}{c:CA}(f:FOk K c)(k:Kn):∀ds M Q,C7 c k ds M Q->Cs 1 1 (oF K) ds M Q:=by
 rintro ds M Q ⟨r,x,xs,g,b,a,q⟩
 subst b;have e:=f.f r;cases r<;>first|(cases a;done)|skip
 all_goals
  cases a;refine⟨rfl,?_⟩;conv=>whnf
  refine⟨_,_,_,_,rfl,e,rfl,?_⟩;walk_at "d";exact q
def mO(a:k=.Mark\/k=.Ug\/k=.Last\/k=.Set\/k=.jM):∀ds M Q,v8 c k ds M Q->Cs 1 1 AK ds M Q:=by
 rintro ds M Q ⟨r,b,e,q⟩
 subst e b;cases r<;>first|(simp[Rw.kn] at a;done)|skip
 all_goals
  refine⟨rfl,?_⟩;walk_at "d";exact q
def C9(f:FOk K c)(a:k=.Alike):∀ds M Q,v8 c k ds M Q->Cs 1 1 (sJ K) ds M Q:=by
 rintro ds M Q ⟨r,b,e,q⟩
 subst e b;have g:=f.f r;cases r<;>first|(simp[Rw.kn] at a;done)|skip
 all_goals
  refine⟨rfl,?_⟩;refine⟨_,_,_,_,rfl,g,rfl,?_⟩;refine⟨λh=>Nat.succ_ne_zero 1 h.1,?_⟩;walk_at "d";exact q
def yD(f:FOk K c)(a:k=.Uh\/k=.Leave):∀ds M Q,v8 c k ds M Q->Cs 1 1 (u9 K) ds M Q:=by
 rintro ds M Q ⟨r,b,e,q⟩
 subst e b;have g:=f.f r;cases r<;>first|(simp[Rw.kn] at a;done)|skip
 all_goals
  refine⟨rfl,?_⟩;refine⟨_,_,_,_,rfl,g,rfl,?_⟩;walk_at "d";exact q
def Db(f:FOk K c)(a:k=.Table):∀ds M Q,v8 c k ds M Q->Cs 1 1 (sL K) ds M Q:=by
 rintro ds M Q ⟨r,b,e,q⟩
 subst e b;have g:=f.f r;cases r<;>first|(simp[Rw.kn] at a;done)|skip
 all_goals
  refine⟨rfl,?_⟩;refine⟨_,_,_,_,rfl,g,rfl,?_⟩;walk_at "d";exact q
def JN(a:k=.Mark\/k=.jM\/k=.Table\/k=.Last\/k=.Leave):∀ds Q,tT c k ds Q->jl 1 1 wR ds Q:=by
 rintro ds Q ⟨r,b,e,q⟩
 subst e b;cases r<;>first|(simp[Rw.kn] at a;done)|exact⟨rfl,rfl,q⟩
def Oy(a:k=.Ug\/k=.Set\/k=.Alike\/k=.Uh):∀ds Q,tT c k ds Q->jl 1 1 qR ds Q:=by
 rintro ds Q ⟨r,b,e,q⟩
 subst e b;cases r<;>first|(simp[Rw.kn] at a;done)|exact⟨rfl,rfl,q⟩
def pH (c:CA):zF:=λC m g=>∃k:Kn,C=c.at k/\g=v8 c k
def Ui (c:CA):zF:=λC m g=>∃k:Kn,C=c.at k/\g=cl (tT c k)
def jf (c:CA):zF:=λC m g=>∃k:Kn,C=c.at k/\g=cl (BE c k)
def AL:DS:=(hG (iF 2 (g9 (gI (λ_ j=>0<j) λi j=>.int (i%j)) (g9 zE (g9 iL (g9 iL (g9 (gI (λ_ j=>0<j) λi j=>.int (i%j)) (gN 0) (dC (.int 2147483647))) (g9 zE (dC (.int 7919)) (gN 1))) (dC (.int 1))) (dC (.int 48271))) (dC (.int 2147483647))))
 (hG (iF 2 (g9 (gI (λ_ j=>0<j) λi j=>.int (i%j)) (g9 zE (gN 2) (g9 iL (g9 (gI xZ λi j=>.int (i/j)) (gN 2) (dC (.int 1009))) (dC (.int 69621)))) (dC (.int 2147483647))))
 (ia (g9 (gI (λ_ j=>0<j) λi j=>.int (i%j)) (g9 zE (g9 iL (gN 2) (g9 zE (dC (.int 31)) (gN 1))) (g9 iL (g9 (gI xZ λi j=>.int (i/j)) (gN 2) (dC (.int 16807))) (dC (.int 40692)))) (dC (.int 2147483629))))))
def v9:GP:=λds Q=>∃a k:Int,ds=[.int a,.int k]/\0<=k/\k<=1000/\∀n:Int,0<=n->n<2147483629->Q (.int n)
def G6:iB v9:=by
 rintro ds P Q w ⟨a,k,b,c,e,q⟩
 exact⟨a,k,b,c,e,λn x y=>w _ (q n x y)⟩
def Uj:∀ds Q,v9 ds Q->jl 3 2 AL ds Q:=by
 rintro ds Q ⟨a,k,f,h,j,q⟩
 subst f;have b:(0:Int)<2147483647:=by decide
 have g:(0:Int)<2147483629:=by decide
 have c:∀i,xZ i 1009/\xZ i 16807:=λi=>⟨⟨by decide,by decide⟩,⟨by decide,by decide⟩⟩;have e:Pw 7919 k/\Pw 31 k:=⟨.inl (by decide),.inl (by decide)⟩;exact⟨rfl,b,e.1,.inr (by decide),b,(c _).1,.inl (by lia),b,e.2,(c _).2,.inl (by lia),g,rfl,q _ (by lia) (by lia)⟩
def kJ{k:Nat}{x:β}(h:xs[k]?=aa x):wL xs (k:Int)=aa x:=by have a:=(au.mp h).1;unfold wL PK;rw[if_pos (by lia),if_pos (by lia)];simpa using h
def vj{xs:List β}{k:Nat}:cutD xs (aa (k:Int)) am=xs.drop k:=by
 unfold cutD;rw[HT.Bp,HT.IH];by_cases h:k<=xs.length
 .rw[gm h,d8 (by rw[dn];lia)]
 .rw[Nat.min_eq_right (by lia),List.drop_eq_nil_of_le (aC _),List.drop_eq_nil_of_le (by lia)];simp
def Mm{xs:List β}{k:Nat}:cutD xs am (aa (k:Int))=xs.take k:=by unfold cutD;rw[HT.Bp,HT.IH];simp
def X7{xs:List β}(h:m<=xs.length)(a:k<=m):cutD xs (aa (k:Int)) (aa (m:Int))=(xs.drop k).take (m- k):=by unfold cutD;rw[HT.Bp,HT.Bp,gm h,gm (by lia)]
structure CF(K:af)(C:ar):Prop where
 pg:W.plainGet K C aB.empty=ai
 hd:W.hasDictIn K C=ai
 po:W.plainOver K C=ai
 sa:aF K (.ref C) oo=aa (aa (.builtin ov))
 Lj:W.makesIn K C=ai
 kc:dr K (.ref C)=ai
 ha:aF K (.ref C) mu=aa (aa (.builtin im))
 hn:W.specialIn K (.builtin im) pu=aa (aa (.builtin pw))
 htk:W.takesIn K (.builtin im)=aa ai
 hm:W.mroIn K C (.type ix)=aa ai
def CF.cls(h:CF K C):Ls K C:=⟨h.pg,h.hd,h.po,h.sa⟩
def CF.af4(h:CF K C):N9 K C:=⟨h.cls,h.ha,h.hn,h.htk,h.hm⟩
structure RF(K:af)(C fI fW fA fG fL:ar):Prop where
 c:CF K C
 nT:aF K (.ref C) ec=aa am
 aI:aF K (.ref C) ft=aa (aa (.ref fI))
 aW:aF K (.ref C) fq=aa (aa (.ref fW))
 aA:aF K (.ref C) hB=aa (aa (.ref fA))
 aG:aF K (.ref C) hJ=aa (aa (.ref fG))
 aL:aF K (.ref C) "lengths"=aa (aa (.ref fL))
structure MF(K:af)(n q:aB)(st:cN)(f:ar):Prop where
 ex:∃fd,uG K n q st f fd
 fn:W.isFn K (.ref f)=ai
 kp:dr K (.ref f)=ai
def af5{kV doc pm ik ct:ah}(l:K.lookup f=aa ⟨oc,od,.func (dk x qual (jE st) (iE st) (ij st) .none kV doc pm an ik ct),IB⟩)
(c:W.codeIn K ik qual=ai)(k:dr K (.ref f)=ai)(i:W.isFn K (.ref f)=ai):MF K x qual st f:=⟨⟨_,LJ l c k⟩,i,k⟩
def wS(c:Ls K C)(hm:Meth K C m f)(hb:Binds K fd a [])(F:jo P w K mg cq pZ k f fd a (jU K g))(e:oz b)(i:∀ds M Q,b ds M Q->g ds M Q):l9 P w K mg cq k C m b:=
 ⟨e,c,f,fd,a,hm,hb,F.imp λh H Q E zq=>by obtain⟨F,j,M,ds,o,r,q⟩:=zq;exact ⟨F,j,M,ds,o,r,i _ _ _ q⟩⟩
def acM(l:K.lookup b=aa o)(hc:o.cls=.type dy)(a:o.data=.seq us.toArray n)(c:us.length<=az)(e:Vals (fs.map V.str) us):TR K (fm fs) (.ref b):=
 ⟨.ref b,rfl,λf H=>by exact⟨b,fs.map V.str,rfl,.inr ⟨o,us.toArray,n,l,hc,a,by simpa using c,by simpa using e⟩,gO.of_map _ _ (λ_=>pC) _⟩⟩
def Uk:Vals (([]).map V.str) []:=.nil
def Qy(h:Vals (fs.map V.str) us):Vals ((x::fs).map V.str) (.str x t::us):=.cons ⟨t,rfl⟩ h
def acN(lo:(a==cW)=ao)(l:K.lookup a=aa o)(hc:o.ExactDict)(hd:o.data=.dict es.toArray b)(c:Rows (TR K) es rows):zG K a rows:=
 ⟨lo,o,es.toArray,b,l,hc,hd,by simpa using c⟩
def sN (K:af):DS:=(ia (Az (iH (kY K) (gM (gN 0) (gM (dC (.ty dy)) gQ))) (Az (g9 (RH λi j=>.bl (decide (j<i))) (iH oU (gM (gN 0) gQ)) (dC (.int 0))) (Az (iH (kY K) (gM (g9 i7 (gN 0) (dC (.int 0))) (gM (dC (.ty hX)) gQ))) (g9 nQ (g9 i7 (gN 0) (dC (.int 0))) (dC (.str kt)))))))
def wT (a:GN):DS:=(ia (iH oU (gM (iS (iX [am] (iO (gN 0)) (gU 0) (gW (iH a (gM (gN 0) gQ))) (gN 0))) gQ)))
def vk (a:GN):DS:=(ia (g9 (RH λi j=>.int (i- j)) (iH oU (gM (gN 0) gQ)) (iH a (gM (gN 0) gQ))))
def FV (K:af)(a:GN)(b:GN):DS:=(hG (iA (SW (oR (gW (iH (kY K) (gM (gN 0) (gM (dC (.ty dy)) gQ))))) (gW (g9 IY (iH oU (gM (gN 0) gQ)) (dC (.int 2))))) (ia (dC (.bl ao))) hV)
 (hG (iA (SW (oR (gW (iH a (gM (g9 i7 (gN 0) (dC (.int 0))) gQ)))) (oR (gW (iH (kY K) (gM (g9 i7 (gN 0) (dC (.int 1))) (gM (dC (.ty ap)) gQ)))))) (ia (dC (.bl ao))) hV)
 (ia (oS Bv Bv (dC (.int 1)) (iH b (gM (g9 i7 (gN 0) (dC (.int 1))) gQ)) (dC (.int 60))))))
def AM (K:af)(a:GN)(b:GN)(c:GN):DS:=(hG (iA (SW (oR (gW (iH (kY K) (gM (gN 0) (gM (dC (.ty ap)) gQ))))) (oR (gW (oS Bv Bv (dC (.int 1)) (iH oU (gM (gN 0) gQ)) (dC (.int 12)))))) (ia (dC (.bl ao))) hV)
 (hG (iA (oR (gW (iH P5 (gM (iS (iX [am] (iO (gN 0)) (gU 0) nv (iH a (gM (gN 0) gQ)))) gQ)))) (ia (dC (.bl ao))) hV)
 (hG (iA (gW (g9 IY (Ol (iS (iX [am] (iO (gN 0)) (gU 0) nv (g9 i7 (gN 0) (dC (.int 0)))))) (iH oU (gM (gN 0) gQ)))) (ia (dC (.bl ao))) hV)
 (hG (iA (gW (g9 (RH λi j=>.bl (decide (j<i))) (iH acG (gM (iS (iX [am] (iO (gN 0)) (gU 0) nv (iH b (gM (g9 i7 (gN 0) (dC (.int 1))) gQ)))) gQ)) (dC (.int 200)))) (ia (dC (.bl ao))) hV)
 (ia (g9 Bv (iH acG (gM (iS (iX [am] (iO (gN 0)) (gU 0) nv (iH c (gM (g9 i7 (gN 0) (dC (.int 1))) gQ)))) gQ)) (dC (.int 200))))))))
def FX (a:GN):DS:=(hG (iF 2 (lD (jI gQ)))
 (hG (lH (lJ (gM (gN 1) gQ)) (iU 2 (gX (gU 3) (gX (gU 4) iT))) (hG (iF 5 (iH a (gM (gN 4) gQ)))
 (hG (iA (gW (g9 gIs (gN 5) (dC .non))) tJ hV)
 (jV (Bz ap i0 (gN 2) (gM (gN 5) gQ))))))
 (ia (gN 2))))
def mP (K:af)(a:ar):DS:=(hG (lH (iO (gN 0)) (gU 1) (iA (oR (gW (iH (kY K) (gM (gN 1) (gM (dC (.cls a)) gQ))))) (ia (gN 1)) hV))
 (ia (dC .non)))
def ma (K:af)(a:GN)(b:zF)(c:ar)(e:ar):DS:=(lH (lJ (gM (gN 1) gQ)) (iU 2 (gX (gU 2) (gX (gU 3) iT))) (hG (iF 4 (iH a (gM (Ja (gN 1) (my (g9 iL (gN 2) (dC (.int 1)))) j0) gQ)))
 (hG (iA (Co (gW (u5 b hJ (gN 3) gQ)) (oR (gW (iH (kY K) (gM (gN 4) (gM (dC (.cls c)) gQ)))))) tJ hV)
 (iA (Co (gW (iH (kY K) (gM (gN 3) (gM (dC (.cls e)) gQ)))) (gW (g9 gIs (gN 4) (dC .non)))) tJ hV))))
def AN (a:GN)(b:GN)(c:GN):DS:=(hG (iA (oR (gW (iH a (gM (gN 0) gQ)))) tJ hV)
 (hG (iF 1 (iS (iX [am] (iO (gN 0)) (gU 0) nv (iP (gM (g9 i7 (gN 0) (dC (.int 0))) (gM (iH b (gM (g9 i7 (gN 0) (dC (.int 0))) (gM (g9 i7 (gN 0) (dC (.int 1))) gQ))) gQ))))))
 (hG (lH (iO (gN 1)) (iU 2 (gX (gU 2) (gX (gU 3) iT))) (jV (iH c (gM (gN 2) (gM (gN 3) gQ)))))
 (ia (gN 1)))))
def FY:DS:=(ia (iS (Uc (gN 0))))
def oW (K:af)(c:ar)(jf:zF):DS:=(hG (iF 2 (lD (jI gQ)))
 (hG (iF 3 (dC (.int 0)))
 (hG (lH (iO (gN 1)) (gU 4) (iA (gW (iH (kY K) (gM (gN 4) (gM (dC (.cls c)) gQ)))) (hG (EH (Ja (u5 jf fq (gN 4) gQ) (my (dC (.int 1))) j0) (iU 2 (gX (gU 5) (gX (gU 6) iT))))
 (jV (Bz ap i0 (gN 2) (gM (iP (gM (gN 5) (gM (gN 6) (gM (iP (gM (gN 0) (gM (gN 3) gQ))) gQ)))) gQ)))) (Od 3 (λ_ _=>True) (λa b=>.int (a+b)) (dC (.int 1)))))
 (ia (gN 2)))))
def Dc (a:GN)(b:GN):DS:=(hG (iF 1 (lD (jI gQ)))
 (hG (lH (iO (iH a (gM (gN 0) gQ))) (iU 2 (gX (gU 2) (gX (gU 3) iT))) (jV (Bz ap Jl (gN 1) (gM (iH b (gM (gN 2) (gM (gN 3) gQ))) gQ))))
 (ia (gN 1))))
def vm:DS:=(hG (iF 1 (lD GB))
 (hG (lH (iO (gN 0)) (iU 3 (gX (gU 2) (gX (gU 3) (gX (gU 4) iT)))) (iA (gW (gN 3)) (jV (Bz ap i0 (Bz fe Jq (gN 1) (gM (gN 2) (gM (lD (jI gQ)) gQ))) (gM (g9 i7 (gN 4) (dC (.int 0))) gQ))) hV))
 (ia (gN 1))))
def sO (a:GN):DS:=(hG (iF 1 (iH a (gM (gN 0) gQ)))
 (lH (iO (iS (Xx Jo (gM (gN 1) gQ)))) (gU 2) (iA (gW (g9 (RH λi j=>.bl (decide (j<i))) (iH oU (gM (g9 i7 (gN 1) (gN 2)) gQ)) (dC (.int 1)))) tJ hV)))
def AO (a:GN)(b:GN):DS:=(hG (iF 1 (iH a (gM (gN 0) gQ)))
 (hG (jV (iH b (gM (gN 1) gQ)))
 (hG (iF 2 (lD GB))
 (hG (lH (iO (gN 1)) (iU 3 (gX (gU 3) (gX (gU 4) (gX (gU 5) iT)))) (iA (SW (gW (gN 4)) (gW (g9 (By ai) (gN 3) (gN 2)))) (TX (gN 2) (gN 3) (gN 5)) hV))
 (ia (gN 2))))))
def oX (K:af)(a:ar):DS:=(ia (iS (iX [am] (iO (gN 0)) (gU 0) (oR (gW (iH (kY K) (gM (gN 0) (gM (dC (.cls a)) gQ))))) (gN 0))))
def AQ (a:GN)(b:GN):DS:=(ia (iS (Xx T6 (gM (iS (iX [am,am] (iO (iH a (gM (gN 0) gQ))) (iU 2 (gX (gU 0) (gX (gU 1) iT))) nv (iP (gM (gN 0) (gM (iH b (gM (gN 1) gQ)) gQ))))) gQ))))
def Dd:DS:=(ia (g9 i7 (g9 i7 (gN 0) (g9 i7 (gN 1) (dC (.int 0)))) (g9 i7 (gN 1) (dC (.int 1)))))
def tV (K:af)(jf:zF)(a:ar)(b:ar)(c:ar):DS:=(hG (iF 2 (g9 i7 (u5 jf fq (gN 0) gQ) (dC (.int 0))))
 (hG (iA (gW (g9 nQ (gN 2) (dC (.str jp)))) (ia (dC (.bl ai))) hV)
 (hG (iA (gW (g9 nQ (gN 2) (dC (.str kf)))) (ia (iH (kY K) (gM (gN 1) (gM (dC (.cls a)) gQ)))) hV)
 (hG (iA (gW (g9 nQ (gN 2) (dC (.str lc)))) (ia (iH (kY K) (gM (gN 1) (gM (dC (.cls b)) gQ)))) hV)
 (ia (iH (kY K) (gM (gN 1) (gM (dC (.cls c)) gQ))))))))
def qh (pH:zF)(a:GN)(b:GN):DS:=(lH (lJ (gM (g9 i7 (gN 1) (gN 0)) gQ)) (iU 2 (gX (gU 3) (gX (gU 4) iT))) (lH (iO (u5 pH hB (gN 4) gQ)) (gU 5) (hG (iA (gW (g9 (By ai) (gN 5) (gN 2))) tJ hV)
 (iA (oR (gW (iH a (gM (gN 4) (gM (iH b (gM (gN 1) (gM (g9 i7 (gN 2) (gN 5)) gQ))) gQ))))) tJ hV))))
def De (a:GN)(b:GN)(c:GN)(e:GN):DS:=(hG (iF 1 (iH a (gM (gN 0) gQ)))
 (hG (iF 2 (iH b (gM (gN 1) gQ)))
 (hG (iF 3 (iH c (gM (gN 1) gQ)))
 (hG (lH (iO (gN 1)) (iU 2 (gX (gU 4) (gX (gU 5) iT))) (jV (iH e (gM (gN 4) (gM (gN 3) (gM (gN 2) gQ))))))
 (ia (iP (gM (gN 3) (gM (gN 2) gQ))))))))
def acO(h:a=b)(q:Q (.bl ao) M):IY (.int a) (.int b) M Q:=by subst h;show Q _ M;rw[beq_self_eq_true];exact q
def acP(h:¬b<a)(q:Q (.bl ao) M):(RH λi j=>.bl (decide (j<i))) (.int a) (.int b) M Q:=by show Q (.bl _) M;rw[decide_eq_false h];exact q
abbrev Pt:=aB×List Rw
noncomputable def jt(p:Pt):D:=.tup [.str p.1,.lst (p.2.map Rw.d)]
noncomputable def EO(c:CA)(p:Pt):D:=.tup [.str p.1,.lst (p.2.map (Rw.ins c))]
noncomputable def Rw.iy:Rw->Bool
 |.mark _ _=>ai
 |_=>ao
noncomputable def markD:D->Bool
 |.tup (.str k::_)=>k==kt
 |_=>ao
def G7(r:Rw):markD r.d=r.iy:=by cases r<;>rfl
noncomputable def kh(rs:List Rw):Nat:=(rs.filter Rw.iy).length
noncomputable def wG(rs:List Rw):Nat:=rs.length- kh rs
def yF:GP:=λds Q=>∃r:Rw,ds=[r.d]/\Q (.bl r.iy)
def EQ:iB yF:=by
 rintro ds P Q w ⟨r,h,q⟩
 exact⟨r,h,w _ q⟩
def Qz(K:af):∀ds Q,yF ds Q->jl 1 1 (sN K) ds Q:=by
 rintro ds Q ⟨r,h,q⟩
 subst h;cases r;all_goals
  walk_at "d";exact q
def Df(rs:List Rw):lN (rs.map Rw.d)=ai:=jQ Rw.Wh rs
def BF:GP:=λds Q=>∃rs:List Rw,ds=[.lst (rs.map Rw.d)]/\rs.length<=1000/\Q (.int (kh rs))
def G8:iB BF:=by
 rintro ds P Q w ⟨r,h,l,q⟩
 exact⟨r,h,l,w _ q⟩
def Dg(rs:List Rw):((rs.map Rw.d).filterMap λd=>if markD d=ai then aa d else am).length=kh rs:=by
 unfold kh;induction rs with
 |nil=>rfl
 |cons r rs a=>
  rw[aZ,du,gg,G7];cases r.iy with
  |true=>simp only [if_true,aQ,a]
  |false=>simp only [fj,if_false,a]
def kK(h:n<=1000):n<=az:=bh h (by decide)
def Ul:∀ds Q,BF ds Q->jl 1 1 (wT (cl yF)) ds Q:=by
 rintro ds Q ⟨rs,h,l,q⟩
 subst h;refine⟨rfl,?_⟩;refine⟨_,rfl,rfl,?_⟩;refine tK (λd=>if markD d=ai then aa d else am) ?_ _ _ ?_ (λx a e c=>?_) ?_
 .exact rfl
 .rw[ak,bE,ba];exact kK l
 .obtain⟨r,_,rfl⟩:=bC.mp a;refine⟨by unfold lN;rw[r.Wh];rfl,r,rfl,?_⟩;have:=c _ (show Bs [am] [aa r.d]=_ from rfl);rw[G7] at this;generalize r.iy=b at this |-;cases b<;>exact this
 .refine⟨_,rfl,?_⟩;refine⟨rfl,?_⟩;rw[bL,Dg];exact q
def QC(rs:List Rw):kh rs<=rs.length:=dG _ _
def yG:GP:=λds Q=>∃rs:List Rw,ds=[.lst (rs.map Rw.d)]/\rs.length<=1000/\Q (.int (wG rs))
def ER:iB yG:=by
 rintro ds P Q w ⟨r,h,l,q⟩
 exact⟨r,h,l,w _ q⟩
def BG(rs:List Rw):lN [.lst (rs.map Rw.d)]=ai:=by show(lN _&&ai)=ai;rw[Df];rfl
def QD:∀ds Q,yG ds Q->jl 1 1 (vk (cl BF)) ds Q:=by
 rintro ds Q ⟨rs,h,l,q⟩
 subst h;refine⟨rfl,?_⟩;refine⟨_,rfl,?_⟩;refine⟨BG rs,rs,rfl,l,?_⟩;refine⟨rfl,?_⟩;show Q (.int _);have e:((rs.map Rw.d).length:Int)- (kh rs:Int)=((wG rs:Nat):Int):=by have:=QC rs;rw[ak];unfold wG;lia
 rw[e];exact q
structure af6(p:Pt):Prop where
 w:mC p.1=ai
 lo:1<=wG p.2
 hi:wG p.2<=60
 len:p.2.length<=1000
def Um(p:Pt):nl (jt p)=ai:=by show(ai&&(lN _&&ai))=ai;rw[Df];rfl
def zP:GP:=λds Q=>∃p:Pt,ds=[jt p]/\af6 p/\Q (.bl ai)
def Dh:iB zP:=by
 rintro ds P Q w ⟨p,h,l,q⟩
 exact⟨p,h,l,w _ q⟩
def Mn(K:af):∀ds Q,zP ds Q->jl 1 1 (FV K (cl nF) (cl yG)) ds Q:=by
 rintro ds Q ⟨p,h,ok,q⟩
 subst h;walk_at "d";refine⟨p.1,ok.w,rfl,?_⟩;walk_at "d";refine⟨BG p.2,p.2,rfl,ok.len,?_⟩;have a:(1:Int)<=(wG p.2:Int):=by have:=ok.lo;lia
 have b:(wG p.2:Int)<=60:=by have:=ok.hi;lia
 show(match D.bl _ with|D.bl ai=>nl _=ai/\Q _|D.bl ao=>nl _=ai/\Q _|_=>False);rw[decide_eq_true a,decide_eq_true b];exact⟨rfl,q⟩
structure af7(ps:List Pt):Prop where
 lo:1<=ps.length
 hi:ps.length<=12
 all:∀p∈ps,af6 p
 nd:(ps.map aY).Nodup
 rows:(ps.map λp=>(wG p.2:Int)).sum<=200
 marks:(ps.map λp=>(kh p.2:Int)).sum<=200
def nI(a:List Pt):lN (a.map jt)=ai:=jQ Um a
def mR(a:List Pt):lN [.lst (a.map jt)]=ai:=by show(lN _&&ai)=ai;rw[nI];rfl
theorem FZ:∀(val:Nat->aB) (n:Nat),(∀i j,i<j->j<n->val i≠val j)->(A9 val n).length=n/\∀k,(A9 val n).any (·==k)=ai->∃i,i<n/\val i=k
 |val,0,_=>⟨rfl,λk h=>by simp[A9] at h⟩
 |val,n+1,h=>by
  obtain⟨g,f⟩:=FZ val n λi j a b=>h i j a (by lia);have hn:(A9 val n).any (·==val n)=ao:=by
   cases e:(A9 val n).any _ with
   |false=>rfl
   |true=>obtain⟨i,a,b⟩:=f _ e;exact absurd b (h i n a (by lia))
  constructor
  .show(PyProof.Rows.step_dedup _ _).length=_;rw[T2,hn,g];rfl
  .intro k c;have c:(PyProof.Rows.step_dedup _ (val n)).any _=ai:=c;rw[T1,Bool.or_eq_true] at c;rcases c with c|c
   .obtain⟨i,a,b⟩:=f k c;exact⟨i,by lia,b⟩
   .exact⟨n,by lia,(of_decide_eq_true c).symm⟩
def Di(rs:List Rw):((rs.map Rw.d).filter markD).length=kh rs:=by
 unfold kh;induction rs with
 |nil=>rfl
 |cons r rs a=>
  rw[aZ,du,du,G7];cases r.iy with
  |true=>simp only [if_true,aQ,a]
  |false=>simp only [fj,if_false,a]
def Oz(rs:List Rw):(((rs.map Rw.d).length- ((rs.map Rw.d).filter markD).length:Nat):Int)=(wG rs:Int):=by rw[Di,ak];rfl
def Mo(h:ss.Nodup):XR ss=ss.length:=by refine(FZ _ _ λi j a b=>?_).1;rw[bF,bF,ay (by lia),ay b];exactλz=>absurd ((fR h).mp z) (by lia)
def Uo:GP:=λds Q=>∃a:List Pt,ds=[.lst (a.map jt)]/\af7 a/\Q (.bl ai)
def Mp:iB Uo:=by
 rintro ds P Q w ⟨p,h,l,q⟩
 exact⟨p,h,l,w _ q⟩
def acQ(K:af):∀ds Q,Uo ds Q->jl 1 1 (AM K (cl zP) (cl yG) (cl BF)) ds Q:=by
 rintro ds Q ⟨a,h,ok,q⟩
 subst h;have f:(a.map jt).length<=az:=by rw[ak];exact kK (by have:=ok.hi;lia)
 have b1:(1:Int)<=((a.map jt).length:Int):=by have:=ok.lo;rw[ak];lia
 have b2:((a.map jt).length:Int)<=12:=by have:=ok.hi;rw[ak];lia
 conv=>whnf
 walk_at "d";rw[decide_eq_true b1];walk_at "d";rw[decide_eq_true b2];conv=>whnf
 refine⟨_,rfl,rfl,?_⟩;refine kZ (λ_=>.bl ai) ?_ _ _ ?_ (λx b g c=>?_) ?_
 .exact rfl
 .rw[bE,ba];exact f
 .obtain⟨p,e,rfl⟩:=bC.mp b;exact⟨by unfold lN;rw[Um];rfl,p,rfl,ok.all p e,c _ rfl⟩
 refine⟨(a.map jt).map λ_=>ai,(by rw[bd,bd,bd];rfl),?_⟩;rw[show((a.map jt).map λ_=>ai).all id=ai by simp];conv=>whnf
 refine⟨_,rfl,rfl,?_⟩;refine kZ (λd=>match d with|.tup (n::_)=>n|_=>.non) ?_ _ _ ?_ (λx b g c=>?_) ?_
 .exact rfl
 .rw[bE,ba];exact f
 .obtain⟨p,e,rfl⟩:=bC.mp b;exact⟨_,rfl,c _ rfl⟩
 refine⟨a.map aY,(by rw[bd,bd];rfl),by rw[ak];have:=ok.hi;lia,?_⟩;refine⟨_,rfl,?_⟩;refine acO (by rw[Mo ok.nd];simp) ?_;conv=>whnf
 refine⟨_,rfl,rfl,?_⟩;refine kZ (λd=>match d with|.tup [_,.lst rs]=>.int ((rs.length- (rs.filter markD).length:Nat):Int)|_=>.non) ?_ _ _ ?_ (λx b g c=>?_) ?_
 .exact rfl
 .rw[bE,ba];exact f
 .obtain⟨p,e,rfl⟩:=bC.mp b;refine⟨_,rfl,BG p.2,p.2,rfl,(ok.all p e).len,?_⟩;rw[<-Oz p.2];exact c _ rfl
 refine⟨a.map λp=>(wG p.2:Int),(by rw[bd,bd];exact congrArg D.lst (eU λp _=>congrArg D.int (Oz p.2))),?_⟩;dsimp only [dC];refine acP ?_ ?_
 .have:=ok.rows;lia
 conv=>whnf
 refine⟨_,rfl,rfl,?_⟩;refine kZ (λd=>match d with|.tup [_,.lst rs]=>.int ((rs.filter markD).length:Int)|_=>.non) ?_ _ _ ?_ (λx b g c=>?_) ?_
 .exact rfl
 .rw[bE,ba];exact f
 .obtain⟨p,e,rfl⟩:=bC.mp b;refine⟨_,rfl,BG p.2,p.2,rfl,(ok.all p e).len,?_⟩;rw[<-Di p.2];exact c _ rfl
 refine⟨a.map λp=>(kh p.2:Int),(by rw[bd,bd];exact congrArg D.lst (eU λp _=>congrArg (λn:Nat=>D.int n) (Di p.2))),?_⟩;dsimp only [dC];refine BD ?_ ?_
 .exact ok.marks
 .exact⟨rfl,q⟩
def qV(c:CA)(rs:List Rw):lN (rs.map (Rw.ins c))=ai:=jQ (Rw.nli c) rs
def zQ (c:CA):GP:=λds Q=>∃(n:aB) (rs:List Rw),ds=[.str n,.lst (rs.map Rw.d)]/\(∀r∈rs,r.ok=ai)/\rs.length<=1000/\Q (.lst (rs.map (Rw.ins c)))
def Dj:iB (zQ c):=by
 rintro ds P Q w ⟨n,rs,h,ok,l,q⟩
 exact⟨n,rs,h,ok,l,w _ q⟩
def take_snoc{β:Type}{l:List β}{x:β}(h:l[j]?=aa x):l.take (j+1)=l.take j++[x]:=by rw[List.take_add_one,h];rfl
def get_map{β a:Type}{f:β->a}{l:List β}{j:Nat}{y:a}(h:(l.map f)[j]?=aa y):∃x,l[j]?=aa x/\y=f x:=by
 rw[bn] at h;cases e:l[j]? with
 |none=>rw[e] at h;cases h
 |some x=>rw[e] at h;cases h;exact⟨x,rfl,rfl⟩
def sP{l:List D}{j:Nat}(h:(l.mapIdx λi d=>D.tup [.int i,d])[j]?=aa y):∃x,l[j]?=aa x/\y=.tup [.int j,x]:=by
 rw[List.getElem?_mapIdx] at h;cases e:l[j]? with
 |none=>rw[e] at h;cases h
 |some x=>rw[e] at h;cases h;exact⟨x,rfl,rfl⟩
def Mq:∀ds Q,zQ c ds Q->jl 6 2 (FX (C6 c)) ds Q:=by
 rintro ds Q ⟨n,rs,h,ok,l,q⟩
 subst h;refine⟨rfl,?_⟩;refine⟨bu _,?_⟩;refine⟨_,rfl,rfl,?_⟩;refine oC (λj a M=>∃b e f,M=[aa (.lst ((rs.take j).map (Rw.ins c)))]/\a=[aa (.str n),aa _,aa (.loc 0),b,e,f]) (λ_ _ _ _=>?_) _ 0 _ _ ⟨am,am,am,rfl,rfl⟩ (λj x a M o g N i=>?_) (λa M g=>?_)
 .exact rfl
 .obtain⟨b,e,f,rfl,rfl⟩:=g;obtain⟨y,p,rfl⟩:=sP o;obtain⟨r,m,rfl⟩:=get_map p;have u:=ok r (aS m);rw[ba] at i |-;refine⟨rfl,rfl,?_⟩;refine⟨r,u,rfl,?_⟩;refine⟨rfl,_,rfl,?_,i _ _ ⟨_,_,_,?_,rfl⟩⟩
  .rw[ak,bW];exact b8 (bh (Nat.min_le_right _ _) l) (by decide)
  .rw[take_snoc m,aM];rfl
 .obtain⟨b,e,f,rfl,rfl⟩:=g;rw[ba,dB,ak,List.take_length];exact⟨qV c rs,q⟩
noncomputable def jy:List Rw->Option Rw
 |[]=>am
 |r::rs=>if r.iy then jy rs else aa r
noncomputable def ES(c:CA):Option Rw->D
 |none=>.non
 |some r=>r.ins c
structure Up(K:af)(c:CA):Prop where
 io:∀k:Kn,N9 K (c.at k)
 mark:∀k,bb K (.ref (c.at k)) (.ref c.Mark)=aa (match k with|.Mark=>ai|_=>ao)
 code:∀k,bb K (.ref (c.at k)) (.ref c.Code)=aa (match k with|.Mark|.jM|.Table=>ao|_=>ai)
 nums:∀k,bb K (.ref (c.at k)) (.ref c.jM)=aa (match k with|.jM=>ai|_=>ao)
 aiw:∀k,bb K (.ref (c.at k)) (.ref c.Table)=aa (match k with|.Table=>ai|_=>ao)
 aix:bb K (.type oP) (.ref c.Code)=aa ao
def yH(a:Up K c)(r:Rw){M:Ms}{Q:DK}(q:Q (.bl r.iy) M):kY K [r.ins c,.cls c.Mark] M Q:=by refine⟨.ref (c.at r.kn),r.iy,rfl,λC ns es e=>by cases e;exact a.io _,?_,q⟩;rw[a.mark];cases r<;>rfl
def JQ(a:Up K c)(r:Rw){M:Ms}{Q:DK}(q:Q (.bl r.code) M):kY K [r.ins c,.cls c.Code] M Q:=by refine⟨.ref (c.at r.kn),r.code,rfl,λC ns es e=>by cases e;exact a.io _,?_,q⟩;rw[a.code];cases r<;>rfl
def BH (c:CA):GP:=λds Q=>∃rs:List Rw,ds=[.lst (rs.map (Rw.ins c))]/\Q (ES c (jy rs))
def G9:iB (BH c):=by
 rintro ds P Q w ⟨rs,h,q⟩
 exact⟨rs,h,w _ q⟩
def Uq(g:Up K c):∀ds Q,BH c ds Q->jl 2 1 (mP K c.Mark) ds Q:=by
 rintro ds Q ⟨rs,h,q⟩
 subst h;have b:=@yH K c g;unfold mP;generalize kY K=i at b |-;refine⟨rfl,?_⟩;refine⟨_,rfl,rfl,?_⟩;have gen:∀(l:List Rw) (st:Ms->Prop) (o:Option D),st []->ES c (jy l)=ES c (jy rs)->qJ (gU 1) (iA (oR (gW (iH (i) (gM (gN 1) (gM (dC (.cls c.Mark)) gQ))))) (ia (gN 1)) hV) st ⟨λ_ _=>nl (.non)=ai/\Q .non,λd f=>nl (fz f d)=ai/\Q (fz f d),λ_ _=>False,λ_ _=>False⟩ (l.map (Rw.ins c)) [aa (.lst (rs.map (Rw.ins c))),o] []:=by
  intro l;induction l with
  |nil=>intro st o a e;rw[<-e] at q;exact⟨rfl,q⟩
  |cons r l j=>
   intro st o a e;refine b r ?_;cases hm:r.iy with
   |true=>
    refine⟨a,j st _ a ?_⟩;rw[<-e];show ES c _=ES c (if r.iy=ai then _ else _);rw[hm];rfl
   |false=>
    have e':ES c (jy rs)=r.ins c:=by rw[<-e];show ES c (if r.iy=ai then _ else _)=_;rw[hm];rfl
    rw[e'] at q;exact⟨r.nli c,q⟩
 exact gen rs _ am rfl rfl
noncomputable def BI:Option Rw->Bool
 |some r=>r.code
 |none=>ao
noncomputable def mS:List Rw->Bool
 |[]=>ai
 |r::rs=>(!r.qf||BI (jy rs))&&(!r.iy||(jy rs).isSome)&&mS rs
theorem vn:∀{rs:List Rw} {j:Nat} {r:Rw},mS rs=ai->rs[j]?=aa r->(r.qf=ai->BI (jy (rs.drop (j+1)))=ai)/\(r.iy=ai->(jy (rs.drop (j+1))).isSome=ai)
 |r::rs,0,a,h,e=>by cases e;unfold mS at h;rw[aU,aU,Bool.or_eq_true,Bool.or_eq_true] at h;refine⟨λg=>h.1.1.resolve_left (by rw[g];decide),λg=>h.1.2.resolve_left (by rw[g];decide)⟩
 |r::rs,j+1,a,h,e=>by unfold mS at h;rw[aU] at h;exact vn (rs:=rs) h.2 e
 |[],_,_,_,e=>by cases e
def QH(a:Up K c)(o:Option Rw){M:Ms}{Q:DK}(q:Q (.bl (BI o)) M):kY K [ES c o,.cls c.Code] M Q:=by
 cases o with
 |some r=>exact JQ a r q
 |none=>exact⟨.type _,ao,rfl,(λC ns es e=>nomatch e),a.aix,q⟩
def Ur(o:Option Rw){M:Ms}{Q:DK}(q:Q (.bl (!o.isSome)) M):gIs (ES c o) .non M Q:=by cases o<;>exact q
def rR (c:CA):GP:=λds Q=>∃(n:aB) (rs:List Rw),ds=[.str n,.lst (rs.map (Rw.ins c))]/\mS rs=ai/\Q .non
def xr:iB (rR c):=by
 rintro ds P Q w ⟨n,rs,h,ok,q⟩
 exact⟨n,rs,h,ok,w _ q⟩
def Dk(f:Up K c):∀ds Q,rR c ds Q->jl 5 2 (ma K (cl (BH c)) (Ui c) c.Code c.Mark) ds Q:=by
 rintro ds Q ⟨n,rs,h,ok,q⟩
 subst h;have g:=@yH K c f;have i:=@QH K c f;have is:=@Ur c;unfold ma;generalize kY K=C at g i |-;generalize gIs=gs at is |-;refine⟨rfl,?_⟩;refine⟨_,rfl,rfl,?_⟩;refine oC (λj a M=>∃m p u,M=[]/\a=[aa (.str n),aa _,m,p,u]) (λ_ _ _ zq=>by obtain⟨_,_,_,e,_⟩:=zq;rw[e]) _ 0 _ _ ⟨am,am,am,rfl,rfl⟩ (λj x a M E v N w=>?_) (λa M v=>?_)
 .obtain⟨m,p,u,rfl,rfl⟩:=v;obtain⟨y,G,rfl⟩:=sP E;obtain⟨r,H,rfl⟩:=get_map G;obtain⟨z,A⟩:=vn ok H;refine⟨rfl,rfl,?_⟩;conv=>whnf
  rw[show cutD _ _ am=(rs.drop (j+1)).map _ by rw[show(j:Int)+1=((j+1:Nat):Int) from rfl,vj,eZ]];refine⟨by show(lN _&&ai)=ai;rw[qV];rfl,rs.drop (j+1),rfl,?_⟩;generalize jy _=o at z A |-;have tl:∀b,b=[aa (.str n),aa (.lst (rs.map (Rw.ins c))),aa (.int j),aa (r.ins c),aa (ES c o)]->(iA (Co (gW (iH C (gM (gN 3) (gM (dC (.cls c.Mark)) gQ)))) (gW (g9 gs (gN 4) (dC .non)))) tJ hV) ⟨N,λd B=>nl (fz B d)=ai/\Q (fz B d),λ_ _=>Q .non,N⟩ b []:=by
   intro b e;subst e;refine g r ?_;cases hm:r.iy with
   |true=>
    refine is o ?_;rw[A hm];exact w _ _ ⟨_,_,_,rfl,rfl⟩
   |false=>
    exact w _ _ ⟨_,_,_,rfl,rfl⟩
  refine⟨_,_,_,_,rfl,rfl,⟨r.kn,rfl,rfl⟩,by unfold lN;rw[r.nli];rfl,r,rfl,rfl,?_⟩;cases I:r.qf with
  |true=>
   refine i o ?_;rw[z I];exact tl _ rfl
  |false=>exact tl _ rfl
 .exact q
structure QJ(ps:List Pt):Prop where
 zR:af7 ps
 rows:∀p∈ps,∀r∈p.2,r.ok=ai
 ends:∀p∈ps,mS p.2=ai
def acR(c:CA)(p:Pt):nl (EO c p)=ai:=by show(ai&&(lN _&&ai))=ai;rw[qV];rfl
def Ha(c:CA)(a:List Pt):lN (a.map (EO c))=ai:=jQ (acR c) a
def Dl (c:CA):GP:=λds Q=>∃a:List Pt,ds=[.lst (a.map jt)]/\QJ a/\Q (.lst (a.map (EO c)))
def ET:iB (Dl c):=by
 rintro ds P Q w ⟨rs,h,ok,q⟩
 exact⟨rs,h,ok,w _ q⟩
theorem ke{β:Type}(e f:β->D)(b:st M):∀(xs:List β) (acc:List D),acc.length+xs.length<=az->
  (∀x∈xs,∀c:Option D->nC->Ms->Prop,(∀a,Bs fr a=i->c (aa (f x)) a M)->FA g tt m (e x) i M c)->Q (acc++xs.map f) M->lQ fr g tt m st Q (xs.map e) acc i M
 |[],acc,_,_,q=>by rw[ajs,aR] at q;exact q
 |x::xs,acc,j,h,q=>by refine h x aE _ λa e1=>⟨b,by simp at j;lia,?_⟩;rw[e1];refine ke e f b xs _ (by simp at j |-;lia) (λy n=>h y (ax _ n)) ?_;rw[aX];exact q
theorem kg{β:Type}(e f:β->D)(p:β->Bool)(a:st M):∀(xs:List β) (acc:List D),acc.length+xs.length<=az->
  (∀x∈xs,∀j:Option D->nC->Ms->Prop,(∀b,Bs fr b=m->j (if p x=ai then aa (f x) else am) b M)->FA g tt o (e x) m M j)->Q (acc++(xs.filter p).map f) M->lQ fr g tt o st Q (xs.map e) acc m M
 |[],acc,_,_,q=>by rw[List.filter_nil,ajs,aR] at q;exact q
 |x::xs,acc,c,h,q=>by
  refine h x aE _ λb e1=>⟨a,?_⟩;rw[du] at q;cases n:p x with
  |false=>
   rw[n] at q;rw[e1];exact kg e f p a xs acc (by simp at c |-;lia) (λy i=>h y (ax _ i)) q
  |true=>
   rw[n] at q;refine⟨by simp at c;lia,?_⟩;rw[e1];refine kg e f p a xs _ (by simp at c |-;lia) (λy i=>h y (ax _ i)) ?_;rw[aX];exact q
theorem i8{β:Type}(e:β->D)(Pv:List β->List β->nC->Ms->Prop)(j:∀a b c M,Pv a b c M->st M):∀(xs pre:List β) (c:nC) (M:Ms),Pv pre xs c M->
  (∀pre x xs c M,Pv pre (x::xs) c M->∀N:nC->Ms->Prop,(∀f i,Pv (pre++[x]) xs f i->N f i)->g (e x) c M λn M1=>tb {E with nx:=N,ct:=N,bk:=E.nx} n M1)->
  (∀pre c M,Pv pre [] c M->E.nx c M)->qJ g tb st E (xs.map e) c M
 |[],pre,c,M,p,_,z=>z pre c M p
 |x::xs,pre,c,M,p,h,z=>by exact h pre x xs c M p _ λf i m=>⟨j _ _ _ _ m,i8 e Pv j xs _ f i m h z⟩
def QK:∀ds Q,Dl c ds Q->jl 4 1 (AN (cl Uo) (cl (zQ c)) (cl (rR c))) ds Q:=by
 rintro ds Q ⟨f,h,ok,q⟩
 subst h;have p:f.length<=az:=kK (by have:=ok.zR.hi;lia);refine⟨rfl,mR f,f,rfl,ok.zR,?_⟩;refine⟨_,rfl,rfl,?_⟩;refine ke jt (EO c) ?_ _ _ ?_ (λx g v r=>?_) ?_
 .exact rfl
 .rw[bE,ba];exact p
 .refine⟨_,rfl,_,rfl,_,rfl,?_,x.1,x.2,rfl,ok.rows x g,(ok.zR.all x g).len,?_⟩
  .show(ai&&(lN _&&ai))=ai;rw[Df];rfl
  .exact⟨ag rfl,r _ rfl⟩
 refine⟨_,rfl,rfl,?_⟩;refine i8 (EO c) (λa b i M=>f=a++b/\∃j m,M=[]/\i=[aa _,aa _,j,m]) (λ_ _ _ _ zq=>by obtain⟨_,_,_,e,_⟩:=zq;rw[e]) f [] _ _ ⟨rfl,am,am,rfl,rfl⟩ (λpre x xs i M n N u=>?_) (λpre i M n=>?_)
 .obtain⟨o,j,m,rfl,rfl⟩:=n;have g:x∈f:=by rw[o];simp
  refine⟨rfl,rfl,?_,x.1,x.2,rfl,ok.ends x g,u _ _ ⟨by rw[o];simp,_,_,rfl,rfl⟩⟩;show(ai&&(lN _&&ai))=ai;rw[qV];rfl
 .obtain⟨o,j,m,rfl,rfl⟩:=n;exact⟨Ha c f,q⟩
noncomputable def mI(a:List Pt):List Pt:=jL (a.map aY) a
theorem F0(c:CA):∀a:List Pt,xl (a.map (EO c)) (a.map aY)
 |[]=>trivial
 |p::a=>⟨⟨_,rfl⟩,F0 c a⟩
theorem JR(g:β->a)(p:aB×β):∀l:List _,L3.u6 aY (p.1,g p.2) (l.map λq=>(q.1,g q.2))=(L3.u6 aY p l).map λq=>(q.1,g q.2)
 |[]=>rfl
 |q::l=>by
  rw[aZ];unfold L3.u6;split
  .rfl
  .rw[JR g p l];rfl
theorem OA(g:β->a):∀l:List _,L3.Qd aY (l.map λq=>(q.1,g q.2))=(L3.Qd aY l).map λq=>(q.1,g q.2)
 |[]=>rfl
 |q::l=>by show L3.u6 aY _ _=_;rw[OA g l,JR];rfl
def wg(g:β->b)(a:List aB)(l:List β):jL a (l.map g)=(jL a l).map g:=by
 unfold jL;have:a.zip (l.map g)=(a.zip l).map λq=>(q.1,g q.2):=by rw[List.zip_map_right];rfl
 rw[this,OA,bd,bd];rfl
def sQ (c:CA):GP:=λds Q=>∃a:List Pt,ds=[.lst (a.map (EO c))]/\(a.map aY).Nodup/\a.length<64/\Q (.lst ((mI a).map (EO c)))
def Dm:iB (sQ c):=by
 rintro ds P Q w ⟨a,h,nd,l,q⟩
 exact⟨a,h,nd,l,w _ q⟩
def Mr:∀ds Q,sQ c ds Q->jl 1 1 FY ds Q:=by
 rintro ds Q ⟨a,h,nd,l,q⟩
 subst h;refine⟨rfl,_,_,rfl,F0 c a,nd,by rw[ak];exact l,?_⟩;rw[wg];exact⟨Ha c _,q⟩
abbrev Mk:=aB×Bool×aB×Nat
noncomputable def Mt(m:Mk):D:=.tup [.str m.1,.bl m.2.1,.tup [.str m.2.2.1,.int m.2.2.2]]
def Mu(m:Mk):nl (Mt m)=ai:=rfl
noncomputable def iR(n:aB):Nat->List Rw->List Mk
 |_,[]=>[]
 |k,.mark w b::rs=>(w,b,n,k)::iR n k rs
 |k,_::rs=>iR n (k+1) rs
def lh(h:r.iy=ao):iR n k (r::rs)=iR n (k+1) rs:=by cases r<;>first|rfl|cases h
theorem vo(n:aB):∀(k:Nat) (rs:List Rw),(iR n k rs).length<=rs.length
 |_,[]=>aC _
 |k,r::rs=>by
  cases hm:r.iy with
  |false=>rw[lh hm];exact Nat.le_succ_of_le (vo n _ rs)
  |true=>cases r<;>first|(cases hm;done)|exact Nat.succ_le_succ (vo n k rs)
def xt (c:CA):GP:=λds Q=>∃(n:aB) (rs:List Rw),ds=[.str n,.lst (rs.map (Rw.ins c))]/\rs.length<=1000/\Q (.lst ((iR n 0 rs).map Mt))
def Bc:iB (xt c):=by
 rintro ds P Q w ⟨n,a,h,l,q⟩
 exact⟨n,a,h,l,w _ q⟩
def JU(u:Up K c):∀ds Q,xt c ds Q->jl 7 2 (oW K c.Mark (jf c)) ds Q:=by
 rintro ds Q ⟨n,rs,h,l,q⟩
 subst h;have p:=@yH K c u;unfold oW;generalize kY K=y at p |-;refine⟨rfl,?_⟩;refine⟨bu _,?_⟩;refine⟨_,rfl,rfl,?_⟩;refine i8 _ (λa b g M=>∃(k:Nat) (ms:List Mk) (i j m:Option D),iR n 0 rs=ms++iR n k b/\M=[aa (.lst (ms.map Mt))]/\g=[aa (.str n),aa _,aa (.loc 0),aa (.int k),i,j,m]) (λ_ _ _ _ zq=>by obtain⟨_,_,_,_,_,_,e,_⟩:=zq;exact rfl) rs [] _ _ ⟨0,[],am,am,am,rfl,rfl,rfl⟩ (λpre x xs g M o N r=>?_) (λpre g M o=>?_)
 .obtain⟨k,ms,i,j,m,f,rfl,rfl⟩:=o;refine p x ?_;cases hm:x.iy with
  |true=>
   cases x with
   |mark w b=>
    have v:(ms.map Mt).length<az:=by have:=vo n 0 rs;rw[f,aD] at this;rw[ak];exact b8 (show ms.length<=1000 by lia) (by decide)
    refine⟨_,_,_,_,rfl,rfl,⟨.Mark,rfl,rfl⟩,by rfl,.mark w b,rfl,rfl,?_⟩;refine⟨λz=>Nat.one_ne_zero z.1,rfl,rfl,rfl,?_⟩;refine⟨ag rfl,?_⟩;refine⟨ag rfl,?_⟩;refine⟨_,rfl,v,r _ _ ⟨k,ms++[(w,b,n,k)],_,_,_,?_,?_,rfl⟩⟩
    .rw[f,aX];rfl
    .rw[aM];rfl
   |_=>cases hm
  |false=>
   exact⟨trivial,r _ _ ⟨k+1,ms,_,_,_,by rw[f,lh hm],rfl,rfl⟩⟩
 .obtain⟨k,ms,i,j,m,f,rfl,rfl⟩:=o;have e:iR n 0 rs=ms:=by rw[f];exact aR _
  rw[e] at q;exact⟨jQ Mu ms,q⟩
def Mv(a:List aB)(l:List β)(h:a.length=l.length):(jL a l).Perm l:=by refine(gy.map _ (L3.p7 _ _)).trans ?_;rw[fX (by lia)]
def kL(a:List Pt):(mI a).Perm a:=Mv _ _ (by simp)
noncomputable def iw(a:List Pt):List Mk:=(mI a).flatMap λp=>iR p.1 0 p.2
structure acS(ps:List Pt):Prop where
 nd:(ps.map aY).Nodup
 l:ps.length<64
 len:∀p∈ps,p.2.length<=1000
 ml:(iw ps).length<=1000
def xu (c:CA):GP:=λds Q=>∃a:List Pt,ds=[.lst (a.map (EO c))]/\acS a/\Q (.lst ((iw a).map Mt))
def Bd:iB (xu c):=by
 rintro ds P Q w ⟨a,h,l,q⟩
 exact⟨a,h,l,w _ q⟩
def Dn(c:CA)(a:List Pt):lN [.lst (a.map (EO c))]=ai:=by show(lN _&&ai)=ai;rw[Ha];rfl
def JV:∀ds Q,xu c ds Q->jl 4 1 (Dc (cl (sQ c)) (cl (xt c))) ds Q:=by
 rintro ds Q ⟨f,h,ok,q⟩
 subst h;refine⟨rfl,?_⟩;refine⟨bu _,?_⟩;refine⟨Dn c f,f,rfl,ok.nd,ok.l,?_⟩;refine⟨_,rfl,rfl,?_⟩;refine i8 (EO c) (λa b i M=>∃(j m:Option D),mI f=a++b/\M=[aa (.lst ((a.flatMap λp=>iR p.1 0 p.2).map Mt))]/\i=[aa _,aa (.loc 0),j,m]) (λ_ _ _ _ zq=>by obtain⟨_,_,_,e,_⟩:=zq;exact rfl) _ [] _ _ ⟨am,am,rfl,rfl,rfl⟩ (λpre x xs i M n N o=>?_) (λpre i M n=>?_)
 .obtain⟨j,m,g,rfl,rfl⟩:=n;have r:x∈f:=(kL f).mem_iff.mp (by rw[g];simp);refine⟨rfl,rfl,rfl,?_,x.1,x.2,rfl,ok.len x r,?_⟩
  .show(ai&&(lN _&&ai))=ai;rw[qV];rfl
  .refine⟨_,_,rfl,rfl,?_,o _ _ ⟨_,_,by rw[g,aX];rfl,?_,rfl⟩⟩
   .refine kK (bh ?_ ok.ml);unfold iw;rw[g,dh,df,aD,aD,ak,ak];lia
   .rw[dh,df,List.flatMap_nil,aR,aM];rfl
 .obtain⟨j,m,g,rfl,rfl⟩:=n;rw[aR] at g;have e:iw f=pre.flatMap λp=>iR p.1 0 p.2:=by unfold iw;rw[g]
  rw[e] at q;exact⟨jQ Mu _,q⟩
noncomputable def iN(ms:List Mk):List Mk:=ms.filter λm=>m.2.1
noncomputable def locs(l:List Mk):List D:=(bY l.length).map λi=>D.loc (i+1)
noncomputable def stM(l:List Mk):Ms:=aa (.jP (l.map λm=>.inr m.1) (locs l))::l.map λm=>aa (.lst [.str m.2.2.1])
theorem F2{w:aB}:∀(S:List Mk) (es:List D),w∉S.map aY->oB (.inr w) (S.map λm=>.inr m.1) es=am
 |[],_,_=>rfl
 |_::_,[],_=>rfl
 |m::S,e::es,h=>by rw[aZ];unfold oB;rw[aZ,aN,not_or] at h;rw[if_neg (λz=>h.1 (by cases z;rfl)),F2 S es h.2]
def X8(S:List Mk):(stM S).length=S.length+1:=by simp[stM]
def QL(S:List Mk)(m:Mk):locs (S++[m])=locs S++[.loc (S.length+1)]:=by unfold locs;rw[aD,bO,List.range_succ,aM];rfl
def OB(S:List Mk)(d x:Option OD):((stM S++[x]).set 0 d)[S.length+1]?=aa x:=by unfold stM;rw[List.cons_append,List.set_cons_zero,List.getElem?_cons_succ];simp
def Us(S:List Mk)(w p:aB)(b:Bool)(k:Nat):((stM S++[aa (OD.lst [])]).set 0 (aa (OD.jP ((S.map λm=>dW m.1)++[dW w]) (locs S++[D.loc (S.length+1)])))).set (S.length+1) (aa (OD.lst ([]++[D.str p])))=stM (S++[(w,b,p,k)]):=by
 unfold stM;rw[List.cons_append,List.set_cons_zero,List.set_cons_succ,QL,aM,aM];congr 1;have:S.length=(S.map λm=>(aa (OD.lst [.str m.2.2.1]):Option OD)).length:=by simp
 rw[this,Ox];rfl
def yI:GN:=λds M Q=>∃ms:List Mk,ds=[.lst (ms.map Mt)]/\M=[]/\((iN ms).map aY).Nodup/\ms.length<=1000/\Q (.loc 0) (stM (iN ms))
def EU:oz yI:=by
 rintro ds M P Q w ⟨ms,h,a,b,c,q⟩
 exact⟨ms,h,a,b,c,w _ _ q⟩
def QM:∀ds M Q,yI ds M Q->Cs 5 1 vm ds M Q:=by
 rintro ds M Q ⟨ms,h,u,nd,A,q⟩
 subst h u;refine⟨rfl,?_⟩;conv=>whnf
 refine⟨_,rfl,rfl,?_⟩;refine i8 Mt (λa b g M=>∃(i j m:Option D),ms=a++b/\M=stM (iN a)/\g=[aa (.lst (ms.map Mt)),aa (.loc 0),i,j,m]) (λ_ _ _ _ zq=>by obtain⟨_,_,_,_,e,_⟩:=zq;exact rfl) ms [] _ _ ⟨am,am,am,rfl,rfl,rfl⟩ (λpre x xs g M n N v=>?_) (λpre g M n=>?_)
 .obtain⟨i,j,m,c,rfl,rfl⟩:=n;obtain⟨w,b,p,k⟩:=x;have o:iN (pre++[(w,b,p,k)])=iN pre++iN [(w,b,p,k)]:=gD ..;have r:ms=pre++[(w,b,p,k)]++xs:=by rw[c,aX];rfl
  cases b with
  |false=>
   refine⟨rfl,rfl,?_⟩;exact v _ _ ⟨_,_,_,r,by rw[o];exact(congrArg stM (aR _)).symm,rfl⟩
  |true=>
   have f:((iN pre++[(w,ai,p,k)]).map aY).Nodup:=by have:=nd;rw[r] at this;unfold iN at this;rw[gD,aM] at this;rw[<-show iN (pre++[(w,ai,p,k)])=iN pre++[(w,ai,p,k)] from o];exact(de.mp this).1
   have hw:w∉(iN pre).map aY:=by rw[aM] at f;exactλz=>(de.mp f).2.2 w z w (by simp) rfl
   have y:(iN pre).length<=1000:=by
    have u:(iN pre).length<=pre.length:=dG _ _;have B:pre.length<=ms.length:=by rw[c];simp
    lia
   refine⟨rfl,rfl,rfl,bu _,_,_,_,rfl,rfl,(λx ex=>?_),(λ_=>⟨?_,?_⟩)⟩
   .have:=F2 (iN pre) (locs (iN pre)) hw;exact absurd (this.symm.trans ex) (by simp)
   .rw[ak];exact b8 y (by decide)
   .rw[X8];refine⟨?_,_,rfl,?_⟩
    .show tyD ap (Xi _ ((stM (iN pre)++[aa (OD.lst [])]).set 0 _)[(iN pre).length+1]?)=ai;rw[OB];rfl
    .refine⟨_,OB _ _ _,by decide,v _ _ ⟨_,_,_,r,?_,rfl⟩⟩;rw[o];exact Us _ w p ai k
 .obtain⟨i,j,m,c,rfl,rfl⟩:=n;rw[aR] at c;rw[c] at q;exact q
theorem F3{w:aB}:∀(S:List Mk) (es:List D),w∈S.map aY->es.length=S.length->∃i,i<S.length/\oB (.inr w) (S.map λm=>.inr m.1) es=es[i]?
 |[],_,h,_=>by simp at h
 |_::_,[],_,h=>by simp at h
 |m::S,e::es,h,a=>by
  rw[aZ];unfold oB;by_cases hw:m.1=w
  .exact⟨0,by simp,by rw[if_pos (by rw[hw])];rfl⟩
  .rw[aZ,aN] at h;obtain⟨i,c,b⟩:=F3 S es (h.resolve_left (λz=>hw z.symm)) (by simpa using a);exact⟨i+1,by simp;lia,by rw[if_neg (λz=>hw (by cases z;rfl)),b];rfl⟩
def acT{S:List Mk}{i:Nat}(h:i<S.length):(locs S)[i]?=aa (.loc (i+1))/\∃p,(stM S)[i+1]?=aa (aa (.lst [.str p])):=by
 constructor
 .unfold locs;rw[bn,List.getElem?_range h];rfl
 .refine⟨(S[i]'h).2.2.1,?_⟩;unfold stM;rw[List.getElem?_cons_succ,bn,ay h];rfl
def QN(h:w∈AG ss):w∈ss:=(L3.p7 _ _).mem_iff.mp h
structure Ut(ms:List Mk):Prop where
 nd:((iN ms).map aY).Nodup
 few:CS ((iN ms).map aY)
 len:ms.length<=1000
def Hb:GP:=λds Q=>∃ms:List Mk,ds=[.lst (ms.map Mt)]/\Ut ms/\Q .non
def Hc:iB Hb:=by
 rintro ds P Q w ⟨a,h,l,q⟩
 exact⟨a,h,l,w _ q⟩
def Uu:∀ds Q,Hb ds Q->jl 3 1 (sO yI) ds Q:=by
 rintro ds Q ⟨ms,h,ok,q⟩
 subst h;refine⟨rfl,ms,rfl,rfl,ok.nd,ok.len,?_⟩;refine⟨(iN ms).map aY,by rw[bd];rfl,ok.few,?_⟩;refine⟨_,rfl,rfl,?_⟩;refine i8 D.str (λa b c M=>∃(f:Option D),AG ((iN ms).map aY)=a++b/\M=stM (iN ms)/\c=[aa (.lst (ms.map Mt)),aa (.loc 0),f]) (λ_ _ _ _ zq=>by obtain⟨_,_,e,_⟩:=zq;exact rfl) _ [] _ _ ⟨am,rfl,rfl,rfl⟩ (λpre x xs c M g N m=>?_) (λpre c M g=>?_)
 .obtain⟨f,j,rfl,rfl⟩:=g;have n:x∈(iN ms).map aY:=QN (by rw[j];simp);obtain⟨i,hi,o⟩:=F3 (iN ms) (locs (iN ms)) n (by simp[locs]);obtain⟨r,p,u⟩:=acT hi;refine⟨_,_,rfl,o.trans r,?_⟩;refine⟨1,by show afG (Xi _ (stM _)[i+1]?)=_;rw[u];rfl,?_⟩;exact m _ _ ⟨_,by rw[j,aX];rfl,rfl,rfl⟩
 .exact q
noncomputable def iI{β:Type}(w:aB):List (aB×β)->Option β
 |[]=>am
 | (x,v)::l=>if x=w then aa v else iI w l
noncomputable def rS{β:Type}(w:aB)(v:β)(l:List (aB×β)):List (aB×β):=if(iI w l).isSome=ai then l.map (λx=>if x.1=w then(x.1,v) else x) else l++[(w,v)]
noncomputable def kA{β:Type}(l:List (aB×β)):List Key:=l.map λx=>.inr x.1
noncomputable def vA{β:Type}(f:β->D)(l:List (aB×β)):List D:=l.map λx=>f x.2
theorem rT(f:β->D)(w:aB):∀l:List _,oB (.inr w) (kA l) (vA f l)=(iI w l).map f
 |[]=>rfl
 | (x,v)::l=>by
  show(if(dW x:Key)=.inr w then aa (f v) else oB (.inr w) (kA l) (vA f l))=_;unfold iI;by_cases h:x=w
  .rw[if_pos (by rw[h]),if_pos h];rfl
  .rw[if_neg (λz=>h (by cases z;rfl)),if_neg h,rT f w l]
theorem aao(w:aB):∀l:List (aB×β),((kA l).any λx=>decide (x=.inr w))=(iI w l).isSome
 |[]=>rfl
 | (x,v)::l=>by
  show(decide _||(kA l).any λx=>decide _)=_;unfold iI;by_cases h:x=w
  .rw[if_pos h,decide_eq_true (by rw[h])];rfl
  .rw[if_neg h,decide_eq_false (λz=>h (by cases z;rfl)),aao w l];rfl
theorem aap(f:β->D)(w:aB)(v:β):∀l:List _,dj (λ(x:Key) y=>if x=.inr w then f v else y) (kA l) (vA f l)=vA f (l.map λx=>if x.1=w then(x.1,v) else x)
 |[]=>rfl
 | (x,u)::l=>by
  show(if(dW x:Key)=.inr w then f v else f u)::dj _ (kA l) (vA f l)=_;rw[aap f w v l];by_cases h:x=w
  .rw[if_pos (by rw[h])];show _=f (if x=w then(x,v) else(x,u)).2::_;rw[if_pos h];rfl
  .rw[if_neg (λz=>h (by cases z;rfl))];show _=f (if x=w then(x,v) else(x,u)).2::_;rw[if_neg h];rfl
def acU(w:aB)(v:β)(l:List _):kA (l.map λx=>if x.1=w then(x.1,v) else x)=kA l:=by unfold kA;rw[bd];refine eU λx _=>?_;show(dW (if x.1=w then(x.1,v) else x).1:Key)=.inr x.1;split<;>rfl
def aaq(f:β->D)(w:aB)(v:β)(l:List _):qQ (.inr w) (f v) (kA l) (vA f l)=(kA (rS w v l),vA f (rS w v l)):=by
 unfold qQ rS;rw[aao];by_cases h:(iI w l).isSome=ai
 .rw[if_pos h,if_pos h,aap,acU]
 .rw[if_neg h,if_neg h];unfold kA vA;rw[aM,aM];rfl
def Uv(w:aB)(v:β)(l:List _):(rS w v l).length<=l.length+1:=by
 unfold rS;split
 .rw[ak];lia
 .simp
abbrev Pl:=aB×Nat
noncomputable def OC(p:Pl):D:=.tup [.str p.1,.int p.2]
noncomputable def mT(l:List (aB×Pl))(m:Mk):List (aB×Pl):=if(m.2.1||!(iI m.1 l).isSome)=ai then rS m.1 m.2.2 l else l
noncomputable def placesOf(ms:List Mk):List (aB×Pl):=ms.foldl mT []
def Hd(ms:List Mk):(placesOf ms).length<=ms.length:=by
 have gen:∀(ms:List Mk) (l:List _),(ms.foldl mT l).length<=l.length+ms.length:=by
  intro ms;induction ms with
  |nil=>intro l;exact aC _
  |cons m ms a=>
   intro l;rw[List.foldl_cons,aQ];have b:=a (mT l m);have c:(mT l m).length<=l.length+1:=by
    unfold mT;split
    .exact Uv _ _ _
    .omega
   lia
 have:=gen ms [];rw[bE,ba] at this;exact this
noncomputable def EV(l:List (aB×Pl)):D:=.jP (kA l) (vA OC l)
def He(l:List _):nl (EV l)=ai:=jQ (λ_=>rfl) l
structure aiy(ps:List Pt):Prop where
 mi:acS ps
 tw:Ut (iw ps)
def Dp (c:CA):GP:=λds Q=>∃a:List Pt,ds=[.lst (a.map (EO c))]/\aiy a/\Q (EV (placesOf (iw a)))
def EW{c:CA}:iB (Dp c):=by
 rintro ds P Q w ⟨a,h,l,q⟩
 exact⟨a,h,l,w _ q⟩
def acV(ms:List Mk):lN [.lst (ms.map Mt)]=ai:=by show(lN _&&ai)=ai;rw[jQ Mu];rfl
def QP{c:CA}:∀ds Q,Dp c ds Q->jl 6 1 (AO (cl (xu c)) (cl Hb)) ds Q:=by
 rintro ds Q ⟨j,h,ok,q⟩
 subst h;refine⟨rfl,Dn c j,j,rfl,ok.mi,?_⟩;refine⟨acV _,_,rfl,ok.tw,?_⟩;obtain⟨_,tw⟩:=ok;generalize iw j=ms at tw q |-;conv=>whnf
 refine⟨_,rfl,rfl,?_⟩;refine i8 Mt (λa b o M=>∃(f g i:Option D),ms=a++b/\M=[aa (.jP (kA (placesOf a)) (vA OC (placesOf a)))]/\o=[aa (.lst (j.map (EO c))),aa (.lst (ms.map Mt)),aa (.loc 0),f,g,i]) (λ_ _ _ _ zq=>by obtain⟨_,_,_,_,e,_⟩:=zq;exact rfl) ms [] _ _ ⟨am,am,am,rfl,rfl,rfl⟩ (λpre x xs o M p N v=>?_) (λpre o M p=>?_)
 .obtain⟨f,g,i,m,rfl,rfl⟩:=p;have y:placesOf (pre++[x])=mT (placesOf pre) x:=by unfold placesOf;rw[List.foldl_append];rfl
  have B:(placesOf pre).length<=1000:=by
   have C:=Hd pre;have E:pre.length<=ms.length:=by rw[m];simp
   have:=tw.len;lia
  have z:ms=pre++[x]++xs:=by rw[m,aX];rfl
  have r:(kA (placesOf pre)).length<az:=by unfold kA;rw[ak];exact b8 B (by decide)
  obtain⟨w,b,pl⟩:=x;have put:mT (placesOf pre) (w,b,pl)=rS w pl (placesOf pre)->∀f g i:Option D,∃n ds u,([aa (.jP (kA (placesOf pre)) (vA OC (placesOf pre)))]:Ms)[0]?=aa (aa (.jP n ds))/\IT (.str w)=aa u/\n.length<az/\N [aa (.lst (j.map (EO c))),aa (.lst (ms.map Mt)),aa (.loc 0),f,g,i] ([aa (.jP (kA (placesOf pre)) (vA OC (placesOf pre)))].set 0 (aa (.jP (qQ u (OC pl) n ds).1 (qQ u (OC pl) n ds).2))):=by intro e f g i;refine⟨_,_,_,rfl,rfl,r,v _ _ ⟨f,g,i,z,?_,rfl⟩⟩;rw[y,e,aaq];rfl
  cases b with
  |true=>exact⟨rfl,rfl,put rfl _ _ _⟩
  |false=>
   refine⟨rfl,rfl,(iI w (placesOf pre)).isSome,?_,?_⟩
   .show aa (oB (.inr w) (kA (placesOf pre)) (vA OC (placesOf pre))).isSome=_;rw[rT,gF]
   .cases A:(iI w (placesOf pre)).isSome with
    |true=>exact v _ _ ⟨_,_,_,z,by rw[y];unfold mT;dsimp only;rw[A];rfl,rfl⟩
    |false=>exact put (by unfold mT;dsimp only;rw[A];rfl) _ _ _
 .obtain⟨f,g,i,m,rfl,rfl⟩:=p;rw[aR] at m;rw[m] at q;exact⟨He _,q⟩
noncomputable def bare(rs:List Rw):List Rw:=rs.filter λr=>!r.iy
def Ya{K:af}{c:CA}(a:Up K c)(r:Rw){M:Ms}{Q:DK}(q:Q (.bl (match r with|.numbers _=>ai|_=>ao)) M):kY K [r.ins c,.cls c.jM] M Q:=by refine⟨.ref (c.at r.kn),_,rfl,λC ns es e=>by cases e;exact a.io _,?_,q⟩;rw[a.nums];cases r<;>rfl
def Yb{K:af}{c:CA}(a:Up K c)(r:Rw){M:Ms}{Q:DK}(q:Q (.bl (match r with|.table _=>ai|_=>ao)) M):kY K [r.ins c,.cls c.Table] M Q:=by refine⟨.ref (c.at r.kn),_,rfl,λC ns es e=>by cases e;exact a.io _,?_,q⟩;rw[a.aiw];cases r<;>rfl
def wj (c:CA):GP:=λds Q=>∃rs:List Rw,ds=[.lst (rs.map (Rw.ins c))]/\rs.length<=1000/\Q (.lst ((bare rs).map (Rw.ins c)))
def Dq:iB (wj c):=by
 rintro ds P Q w ⟨rs,h,l,q⟩
 exact⟨rs,h,l,w _ q⟩
def Mw(b:Up K c):∀ds Q,wj c ds Q->jl 1 1 (oX K c.Mark) ds Q:=by
 rintro ds Q ⟨rs,h,l,q⟩
 subst h;have a:=@yH K c b;unfold oX;generalize kY K=f at a |-;refine⟨rfl,?_⟩;refine⟨_,rfl,rfl,?_⟩;refine kg _ (Rw.ins c) (λr=>!r.iy) ?_ _ _ ?_ (λx g i e=>?_) ?_
 .exact rfl
 .rw[bE,ba];exact kK l
 .refine a x ?_;have:=e _ (show Bs [am] [aa (x.ins c)]=_ from rfl);cases hm:x.iy with
  |true=>rw[hm] at this;exact this
  |false=>rw[hm] at this;exact this
 .exact⟨qV c _,q⟩
abbrev Br:=List (aB×List Rw)
noncomputable def ie(a:List Pt):Br:=(mI a).map λp=>(p.1,bare p.2)
noncomputable def EY(c:CA)(rs:List Rw):D:=.lst (rs.map (Rw.ins c))
noncomputable def sR(c:CA)(b:Br):D:=.jP (kA b) (vA (EY c) b)
def yJ(c:CA)(b:Br):nl (sR c b)=ai:=jQ (f:=λx:aB×List Rw=>EY c x.2) (λp=>qV c p.2) b
structure af8(ps:List Pt):Prop where
 nd:(ps.map aY).Nodup
 l:ps.length<64
 len:∀p∈ps,p.2.length<=1000
def Mx (c:CA):GP:=λds Q=>∃a:List Pt,ds=[.lst (a.map (EO c))]/\af8 a/\Q (sR c (ie a))
def JY:iB (Mx c):=by
 rintro ds P Q w ⟨a,h,l,q⟩
 exact⟨a,h,l,w _ q⟩
def Yc{c:CA}:∀ds Q,Mx c ds Q->jl 1 1 (AQ (cl (sQ c)) (cl (wj c))) ds Q:=by
 rintro ds Q ⟨f,h,ok,q⟩
 subst h;refine⟨rfl,Dn c f,f,rfl,ok.nd,ok.l,?_⟩;refine⟨_,rfl,rfl,?_⟩;have g:=kL f;refine ke (EO c) (λp=>prD (.inr p.1,EY c (bare p.2))) ?_ _ _ ?_ (λx i r j=>?_) ?_
 .exact rfl
 .rw[bE,ba,g.length_eq];exact kK (by have:=ok.l;lia)
 .refine⟨rfl,rfl,?_,x.2,rfl,ok.len x (g.mem_iff.mp i),ag rfl,?_⟩
  .show(lN _&&ai)=ai;rw[qV];rfl
  .exact j _ rfl
 .refine⟨(mI f).map λp=>(.inr p.1,EY c (bare p.2)),(by rw[bd];rfl),?_,?_⟩
  .rw[bd];have m:=(g.map aY).nodup_iff.mpr ok.nd;have n:((λx:Key×D=>x.1)∘λp:Pt=>((.inr p.1:Key),EY c (bare p.2)))=(dW:aB->Key)∘aY:=rfl;rw[n,<-bd];exact List.Pairwise.map _ (λa b o e=>o (by cases e;rfl)) m
  .have e:(OD.jP (((mI f).map λp=>((.inr p.1:Key),EY c (bare p.2))).map (·.1)) (((mI f).map λp=>((.inr p.1:Key),EY c (bare p.2))).map (·.2))).toD=sR c (ie f):=by show D.jP _ _=D.jP _ _;unfold ie kA vA;rw[bd,bd,bd,bd];rfl
   dsimp only;rw[e];exact⟨yJ c _,q⟩
noncomputable def Uw(b:Br)(p:Pl):Option Rw:=(iI p.1 b).bind λrs=>rs[p.2]?
def JZ(h:Uw b p=aa r):∃rs,iI p.1 b=aa rs/\rs[p.2]?=aa r:=by
 unfold Uw at h;cases e:iI p.1 b with
 |none=>rw[e] at h;cases h
 |some rs=>rw[e] at h;exact⟨rs,rfl,h⟩
def Yd (c:CA):GP:=λds Q=>∃(b:Br) (p:Pl) (r:Rw),ds=[sR c b,OC p]/\Uw b p=aa r/\Q (r.ins c)
def QQ:iB (Yd c):=by
 rintro ds P Q w ⟨b,p,r,h,l,q⟩
 exact⟨b,p,r,h,l,w _ q⟩
def af9:∀ds Q,Yd c ds Q->jl 2 2 Dd ds Q:=by
 rintro ds Q ⟨b,p,r,h,e,q⟩
 subst h;obtain⟨rs,e1,e2⟩:=JZ e;refine⟨rfl,_,rfl,.inr p.1,EY c rs,rfl,by rw[rT,e1];rfl,_,rfl,r.ins c,?_,r.nli c,q⟩;exact kJ (by rw[bn,e2];rfl)
noncomputable def rV(r a:Rw):Bool:=match r with
 |.alike _ _ _=>ai
 |.load _ _ _=>(match a with|.numbers _=>ai|_=>ao)
 |.jumpby _ _=>(match a with|.table _=>ai|_=>ao)
 |_=>a.code
def Ux (c:CA):GP:=λds Q=>∃r a:Rw,ds=[r.ins c,a.ins c]/\Q (.bl (rV r a))
def My:iB (Ux c):=by
 rintro ds P Q w ⟨b,p,h,q⟩
 exact⟨b,p,h,w _ q⟩
def acW(b:Up K c):∀ds Q,Ux c ds Q->jl 3 2 (tV K (jf c) c.jM c.Table c.Code) ds Q:=by
 rintro ds Q ⟨r,a,h,q⟩
 subst h;have e:=@Ya K c b;have f:=@Yb K c b;have g:=@JQ K c b;unfold tV;generalize kY K=i at e f g |-;refine⟨rfl,_,_,_,_,rfl,rfl,⟨r.kn,rfl,rfl⟩,by unfold lN;rw[r.nli];rfl,r,rfl,rfl,?_⟩;cases r;all_goals
  walk_at "d";first|exact q|exact e a ⟨rfl,q⟩|exact f a ⟨rfl,q⟩|exact g a ⟨rfl,q⟩
noncomputable def Rw.AR:Rw->List aB
 |.jump w|.jumpif _ w|.call w|.load _ _ w|.jumpby _ w=>[w]
 |.alike _ w v=>[w,v]
 |.table ws=>ws
 |_=>[]
def Rw.Uy(r:Rw):r.names=r.AR.map D.str:=by cases r<;>rfl
noncomputable def ka(b:Br)(pl:List (aB×Pl))(r:Rw)(w:aB):Bool:=match iI w pl with
 |none=>ao
 |some p=>match Uw b p with
  |none=>ao
  |some a=>rV r a
noncomputable def Uz(b:Br)(pl:List (aB×Pl))(rs:List Rw):Bool:=rs.all λr=>r.AR.all (ka b pl r)
structure aiz(ps:List Pt):Prop where
 lk:QJ ps
 ml:(iw ps).length<=1000
 tw:Ut (iw ps)
 ai8:∀p∈ps,∃rs,iI p.1 (ie ps)=aa rs/\Uz (ie ps) (placesOf (iw ps)) rs=ai
abbrev ki(a:List Pt):List (aB×Pl):=placesOf (iw a)
noncomputable def fd(pl:List (aB×Pl))(w:aB):Pl:=(iI w pl).getD ("",0)
def found(pl:List (aB×Pl))(r:Rw):Prop:=∀w∈r.AR,(iI w pl).isSome=ai
noncomputable def nrD(C:ar)(c:CA)(b:Br)(pl:List (aB×Pl)):D:=.ins C [nR,nk] [sR c b,EV pl]
structure NOk(K:af)(C:ar):Prop where
 bare:p6 K C nR
 places:p6 K C nk
structure RS where
 used:Nat
 bx:List Int
 kept:List Pl
 ans:List Int
noncomputable def sb(s:RS)(b v:Int):RS:={s with bx:=s.bx.set b.toNat v}
noncomputable def Mz:List aB:=["store","inputs","used","boxes","kept","answers","end"]
structure RC where
 (CR CN:ar) (c:CA) (b:Br) (pl:List (aB×Pl)) (ins:List Int)
noncomputable def RC.sd(k:RC):D:=nrD k.CN k.c k.b k.pl
noncomputable def RC.id(k:RC):D:=.lst (k.ins.map .int)
structure RL(K:af)(C:ar):Prop where
 f:∀x∈Mz,p6 K C x
theorem RL.store{K:af}{C:ar}(h:RL K C):p6 K C "store":=h.f _ (by simp[Mz])
theorem RL.inputs{K:af}{C:ar}(h:RL K C):p6 K C "inputs":=h.f _ (by simp[Mz])
theorem RL.used{K:af}{C:ar}(h:RL K C):p6 K C "used":=h.f _ (by simp[Mz])
theorem RL.boxes{K:af}{C:ar}(h:RL K C):p6 K C "boxes":=h.f _ (by simp[Mz])
theorem RL.kept{K:af}{C:ar}(h:RL K C):p6 K C "kept":=h.f _ (by simp[Mz])
theorem RL.answers{K:af}{C:ar}(h:RL K C):p6 K C "answers":=h.f _ (by simp[Mz])
structure SOk(k:RC)(s:RS):Prop where
 b4:s.bx.length=4
 us:s.used<=k.ins.length
 kp:s.kept.length<=40
 an:s.ans.length<=1000000
structure ai9(k:RC)(r:Rw):Prop where
 code:r.code=ai
 ok:r.ok=ai
 fnd:found k.pl r
 ld:∀x y w,r=.load x y w->∃ns,Uw k.b (fd k.pl w)=aa (.numbers ns)
 jb:∀x w,r=.jumpby x w->∃ws,Uw k.b (fd k.pl w)=aa (.table ws)/\(Rw.table ws).ok=ai/\found k.pl (.table ws)
 al:∀x w v,r=.alike x w v->L3.pl (OC (fd k.pl w))=ai/\L3.pl (OC (fd k.pl v))=ai
structure aga(k:RC)(s t:RS):Prop where
 b4:t.bx.length=4
 us:t.used<=k.ins.length
 kp:t.kept.length<=40
 an:t.ans.length<=s.ans.length+1
def aga.ok{k:RC}{s t:RS}(h:aga k s t)(l:s.ans.length<1000000):SOk k t:=⟨h.b4,h.us,h.kp,by have:=h.an;lia⟩
theorem zS{β:Type}{w:aB}{v:β}:∀{l:List (aB×β)},iI w l=aa v->(w,v)∈l
 |[],h=>by cases h
 | (x,u)::l,h=>by
  unfold iI at h;by_cases e:x=w
  .rw[if_pos e] at h;cases h;rw[e];exact aE
  .rw[if_neg e] at h;exact ax _ (zS h)
section
variable {CR:ar} {ins:List Int}
end
end FJ
section
open PySem PySem.Spec PyProof.Rows
namespace L2
end L2
namespace L3
open L2
end L3
end
namespace L2
open PySem PySem.W PyProof.Rows
def kG {β:Type}(n:Nat)(f:Nat->Nat->Bool):KasT β->(β->Prop)->Prop
 |.ret a,Q=>Q a
 |.ask i j k,Q=>i<n/\j<n/\i≠j/\kG n f (k (f i j)) Q
theorem wm{Q:m->Prop}:∀t:KasT β,kG n f t (λa=>kG n f (g a) Q)->kG n f (t.bind g) Q
 |.ret _,h=>h
 |.ask i j k,⟨b,c,e,h⟩=>⟨b,c,e,wm _ h⟩
theorem tW{Q R:β->Prop}(w:∀a,Q a->R a):∀t:KasT β,kG n f t Q->kG n f t R
 |.ret _,h=>w _ h
 |.ask i j k,⟨b,c,e,h⟩=>⟨b,c,e,tW w _ h⟩
theorem aar{J:aq->Prop}{R:β->aq->Prop}
(hc:∀i j (C:Bool->aq->Prop) s,i<n->j<n->i≠j->J s->(∀b,J b->C (f i j) b)->c i j C s)(m:∀a s,Q a->J s->R a s):∀(t:KasT β) (s:aq),J s->kG n f t Q->t.kasWp c R s
 |.ret a,s,e,h=>m a s h e
 |.ask i j k,s,e,⟨o,p,q,h⟩=>hc i j _ s o p q e λb g=>aar hc m _ b g h
section
variable {p:Array Nat}
structure Ord(n:Nat)(f:Nat->Nat->Bool):Prop where
 tr:∀i j k,f i j=ai->f j k=ai->f i k=ai
 tot:∀i j,i<n->j<n->i≠j->f i j=ao->f j i=ai
structure Row(n:Nat)(p:Array Nat):Prop where
 sz:p.size=n
 pm:p.toList.Perm (bY n)
abbrev tX(p:Array Nat)(i:Nat):Nat:=p.getD i 0
def MA(h:i<p.size):p[i]?=aa (tX p i):=by simp[h]
def OE(h:p[i]?=q[j]?):tX p i=tX q j:=by unfold tX;rw[Array.getD_eq_getD_getElem?,Array.getD_eq_getD_getElem?,h]
def Row.lt(r:Row n p)(h:i<n):tX p i<n:=by
 have e:=MA (by rw[r.sz];exact h);have m:tX p i∈p.toList:=by rw[Array.mem_toList_iff];exact Array.mem_of_getElem? e
 exact fD.mp (r.pm.mem_iff.mp m)
def Row.ne(r:Row n p)(hi:i<n)(a:j<n)(h:i≠j):tX p i≠tX p j:=λe=>by have nd:=r.pm.nodup_iff.mpr List.nodup_range;have e1:=MA (by rw[r.sz];exact hi);have e2:=MA (by rw[r.sz];exact a);rw[e] at e1;rw[<-cY] at e1 e2;exact h ((gL (by rw[bT,r.sz];exact hi) nd).mp (e1.trans e2.symm))
def Row.perm(r:Row n p)(h:q.Perm p):Row n q:=⟨h.size_eq.trans r.sz,h.toList.trans r.pm⟩
def Be (f:Nat->Nat->Bool)(p:Array Nat)(m:Nat):Prop:=∀i j,i<j->j<m->f (tX p i) (tX p j)=ai
def J0 (f:Nat->Nat->Bool)(p:Array Nat)(m:Nat):Prop:=∀i j,i<j->j<m->f (tX p j) (tX p i)=ai
def Be.one:Be f p 1:=λi j a b=>by lia
def Be.snoc(o:Ord n f)(h:Be f p m)(a:1<=m)(e:f (tX p (m- 1)) (tX p m)=ai):Be f p (m+1):=λi j hi b=>by
 by_cases z:j<m
 .exact h i j hi z
 .have:j=m:=by lia
  subst this;by_cases y:i=j- 1
  .rw[y];exact e
  .exact o.tr _ _ _ (h i (j- 1) (by lia) (by lia)) e
def J0.snoc(o:Ord n f)(h:J0 f p m)(a:1<=m)(e:f (tX p m) (tX p (m- 1))=ai):J0 f p (m+1):=λi j hi b=>by
 by_cases z:j<m
 .exact h i j hi z
 .have:j=m:=by lia
  subst this;by_cases y:i=j- 1
  .rw[y];exact e
  .exact o.tr _ _ _ e (h i (j- 1) (by lia) (by lia))
theorem MB(o:Ord n f)(r:Row n p):∀(u m:Nat),1<=m->m+u<=n->Be f p m->kG n f (kas_asc p u m) λx=>m<=x/\x<=m+u/\Be f p x
 |0,m,a,b,h=>⟨aC _,aC _,h⟩
 |u+1,m,a,b,h=>by
  refine⟨r.lt (by lia),r.lt (by lia),r.ne (by lia) (by lia) (by lia),?_⟩;cases c:f _ _ with
  |true=>exact⟨aC _,by lia,h⟩
  |false=>
   have e:=o.tot _ _ (r.lt (by lia)) (r.lt (by lia)) (r.ne (by lia) (by lia) (by lia)) c;exact tW (λx g=>⟨by lia,by lia,g.2.2⟩) _ (MB o r u (m+1) (by lia) (by lia) (h.snoc o a e))
theorem OG(o:Ord n f)(r:Row n p):∀(u m:Nat),1<=m->m+u<=n->J0 f p m->kG n f (kas_desc u p m 0) λx=>x.1=p/\x.2.2=0/\m<=x.2.1/\x.2.1<=m+u/\J0 f p x.2.1
 |0,m,b,g,h=>⟨rfl,rfl,aC _,aC _,h⟩
 |u+1,m,b,g,h=>by
  refine⟨r.lt (by lia),r.lt (by lia),r.ne (by lia) (by lia) (by lia),?_⟩;cases c:f _ _ with
  |true=>exact tW (λx a=>⟨a.1,a.2.1,by lia,by lia,a.2.2.2.2⟩) _ (OG o r u (m+1) (by lia) (by lia) (h.snoc o b c))
  |false=>
   have e:=o.tot _ _ (r.lt (by lia)) (r.lt (by lia)) (r.ne (by lia) (by lia) (by lia)) c;refine⟨r.lt (by lia),r.lt (by lia),r.ne (by lia) (by lia) (by lia),?_⟩;rw[e];exact⟨rfl,rfl,aC _,Nat.le_add_right _ _,h⟩
def UA(hm:m<=p.size)(a:k<m):tX (kas_rev p 0 m) k=tX p (m- 1- k):=by
 refine OE ?_;unfold kas_rev;rw[getElem?_mirror hm _ (by lia)];split
 .rw[ba]
 .have:k=m- 1- k:=by lia
  rw[<-this]
def Ye(hm:m<=p.size)(h:J0 f p m):Be f (kas_rev p 0 m) m:=λi j hi a=>by rw[UA hm (by lia),UA hm a];exact h _ _ (by lia) (by lia)
def Yf(o:Ord n f)(r:Row n p)(b:1<=m)(c:m<=n)(h:J0 f p m):kG n f (kas_tail3 m n p) λx=>1<=x.1/\x.1<=n/\Row n x.2/\Be f x.2 x.1:=by have a:Row n (kas_rev p 0 m):=r.perm (mirror_perm _ _ _ _);refine wm _ (tW (λx e=>?_) _ (MB o a (n- m) m b (by lia) (Ye (by rw[r.sz];exact c) h)));exact⟨by lia,by lia,a,e.2.2⟩
def Yg(o:Ord n f)(r:Row n p)(b:2<=n)(e:f (tX p 1) (tX p 0)=ai):kG n f (kas_descPart 1 n p) λx=>1<=x.1/\x.1<=n/\Row n x.2/\Be f x.2 x.1:=by
 have d:J0 f p 2:=λi j hi c=>by
  obtain rfl:i=0:=by lia
  obtain rfl:j=1:=by lia
  exact e
 refine wm _ (tW (λx a=>?_) _ (OG o r (n- 2) 2 (by lia) (by lia) d));obtain⟨q,m,z⟩:=x;obtain⟨e1,e2,e3,e4,e5⟩:=a;dsimp only at e1 e2 e3 e4 e5 |-;subst e1 e2;exact Yf o r (by lia) (by lia) e5
def UB(o:Ord n f)(r:Row n p)(h:2<=n):kG n f (kas_count n p) λx=>1<=x.1/\x.1<=n/\Row n x.2/\Be f x.2 x.1:=by
 have key:kG n f (kas_asc p (n- 1) 1) λx=>1<=x/\x<=n/\Be f p x/\(x=1->f (tX p 1) (tX p 0)=ai):=by
  obtain⟨u,i⟩:∃u,n- 1=u+1:=⟨n- 2,by lia⟩;rw[i];refine⟨r.lt (by lia),r.lt (by lia),r.ne (by lia) (by lia) (by lia),?_⟩;cases c:f _ _ with
  |true=>exact⟨aC _,by lia,Be.one,λ_=>by first|rfl|exact c⟩
  |false=>
   have e:=o.tot _ _ (r.lt (by lia)) (r.lt (by lia)) (r.ne (by lia) (by lia) (by lia)) c;exact tW (λx a=>⟨by lia,by lia,a.2.2,λz=>by lia⟩) _ (MB o r u 2 (by lia) (by lia) (Be.one.snoc o (aC _) e))
 refine wm _ (tW (λx a=>?_) _ key);obtain⟨b,g,ha,j⟩:=a;split
 .exact⟨b,g,r,ha⟩
 .split
  .refine⟨r.lt (by lia),r.lt (by lia),r.ne (by lia) (by lia) (by lia),?_⟩;rw[ha 0 (x- 1) (by lia) (by lia)];exact⟨b,g,r,ha⟩
  .obtain rfl:x=1:=by lia
   exact Yg o r h (j rfl)
theorem Dr(o:Ord n f)(r:Row n p)(a:k<n)(ha:Be f p k):∀(u l h:Nat),l<=h->h<=k->h- l<=u->(∀i,i<l->f (tX p i) (tX p k)=ai)->(∀i,h<=i->i<k->f (tX p k) (tX p i)=ai)->
  kG n f (kas_place p k u l h) λx=>x<=k/\(∀i,i<x->f (tX p i) (tX p k)=ai)/\∀i,x<=i->i<k->f (tX p k) (tX p i)=ai
 |0,l,h,q,m,v,b,g=>⟨by lia,b,λi hi=>g i (by lia)⟩
 |u+1,l,h,q,m,v,b,g=>by
  unfold kas_place;split
  .exact⟨by lia,b,λi hi=>g i (by lia)⟩
  .refine⟨r.lt a,r.lt (by lia),r.ne a (by lia) (by lia),?_⟩;cases c:f _ _ with
   |true=>
    refine Dr o r a ha u l _ (by lia) (by lia) (by lia) b λi hi j=>?_;by_cases z:i=(l+h)/2
    .rw[z];exact c
    .exact o.tr _ _ _ c (ha _ _ (by lia) j)
   |false=>
    have e:=o.tot _ _ (r.lt a) (r.lt (by lia)) (r.ne a (by lia) (by lia)) c;refine Dr o r a ha u _ h (by lia) m (by lia) (λi hi=>?_) g;by_cases z:i=(l+h)/2
    .rw[z];exact e
    .exact o.tr _ _ _ (ha i _ (by lia) (by lia)) e
set_option tactic.hygienic true in
def Yh(m:k<p.size)(v:x<=k)(ha:Be f p k)(o:∀i,i<x->f (tX p i) (tX p k)=ai)(q:∀i,x<=i->i<k->f (tX p k) (tX p i)=ai):Be f (bubble p k (k- x)) (k+1):=by
 have g:∀j,j<=k->tX _ j=if j=x then tX p k else if x<j then tX p (j- 1) else tX p j:=λj h=>by
  have e:=getElem?_bubble m (k- x) (by lia) j;have r:k- (k- x)=x:=by lia
  rw[r] at e;split at e
  .rename_i z;rw[if_pos z];exact OE e
  .rename_i z;rw[if_neg z];split at e
   .rename_i y;rw[if_pos y.1];exact OE e
   .rename_i y;rw[if_neg λu=>y ⟨u,h⟩];exact OE e
 intro i j hi h;rw[g i (by lia),g j (by lia)];by_cases a:i=x
 .rw[if_pos a,if_neg (by lia),if_pos (by lia)];exact q _ (by lia) (by lia)
 .rw[if_neg a];by_cases b:x<i
  .rw[if_pos b,if_neg (by lia),if_pos (by lia)];exact ha _ _ (by lia) (by lia)
  .rw[if_neg b];by_cases c:j=x
   .rw[if_pos c];exact o _ (by lia)
   .rw[if_neg c];by_cases d:x<j
    .rw[if_pos d];by_cases e:i=j- 1
     .omega
     .exact ha _ _ (by lia) (by lia)
    .rw[if_neg d];exact ha _ _ hi (by lia)
theorem UC(o:Ord n f):∀(u:Nat) (p:Array Nat) (k:Nat),Row n p->k+u=n->Be f p k->kG n f (kas_bin u p k) λq=>Row n q/\Be f q n
 |0,p,k,r,e,ha=>by
  obtain rfl:k=n:=by lia
  exact⟨r,ha⟩
 |u+1,p,k,r,e,ha=>by refine wm _ (tW (λx a=>?_) _ (Dr o r (by lia) ha k 0 k (bu _) (aC _) (by lia) (λi hi=>by lia) (λi hi b=>by lia)));exact UC o u _ (k+1) (r.perm (bubble_perm _ _ _)) (by lia) (Yh (by rw[r.sz];lia) a.1 ha a.2.1 a.2.2)
def Yi(o:Ord n f)(b:2<=n):kG n f (kas_sort n) λq=>Row n q/\Be f q n:=by
 have r:Row n (ajw (bY n)):=⟨by simp,by simp⟩;refine wm _ (tW (λx c=>?_) _ (UB o r b));obtain⟨m,q⟩:=x;obtain⟨e,g,a,ha⟩:=c;split
 .rw[show max m 1=m by lia];exact UC o (n- m) q m a (by lia) ha
 .obtain rfl:m=n:=by lia
  exact⟨a,ha⟩
end
open PySem.Spec
section
variable {prog:aP} {s:aq}
def UD (h:aw)(a:List ah)(b:List aB):Prop:=∃fs,KatTups h a fs/\cZ fs b
theorem tY:∀{c fs:List ah},KatTups h c fs->(∀b o,h.get? b=aa o->o.cls=.type dy->f.get? b=aa o)->KatTups f c fs
 |[],[],_,_=>trivial
 |[],_::_,t,_=>t.elim
 |_::_,[],t,_=>t.elim
 |_::_,_::_,⟨⟨a,o,xs,n,e,g,hc,hd,i⟩,t⟩,k=>⟨⟨a,o,xs,n,e,k a o g hc,hc,hd,i⟩,tY t k⟩
theorem xv:∀{b fs:List ah},KatTups h b fs->∀{i:Nat} {v:ah},b[i]?=aa v->∃a o xs n f,v=.ref a/\h.get? a=aa o/\o.data=.seq xs n/\xs[0]?=aa f/\fs[i]?=aa f
 |[],[],_,i,v,e=>by simp at e
 |[],_::_,t,_,_,_=>t.elim
 |_::_,[],t,_,_,_=>t.elim
 |_::_,f::_,⟨⟨a,o,xs,n,e,c,hc,hd,g⟩,t⟩,0,v,h=>by cases h;exact⟨a,o,xs,n,f,e,c,hd,g,rfl⟩
 |_::_,_::_,⟨_,t⟩,i+1,v,h=>by have:=xv t (by simpa using h);simpa using this
theorem qW:∀{a fs:List ah},KatTups h a fs->a.length=fs.length
 |[],[],_=>rfl
 |[],_::_,t=>t.elim
 |_::_,[],t=>t.elim
 |_::_,_::_,⟨_,t⟩=>by rw[aQ,aQ,qW t]
theorem yL:∀{fs:List ah} {a:List aB},cZ fs a->∀{i:Nat} {f:ah},fs[i]?=aa f->∃k t,f=.str k t/\a[i]?=aa k
 |_,_,.nil,i,f,e=>by simp at e
 |_,_,.cons x t h,0,f,e=>by cases e;exact⟨x,t,rfl,rfl⟩
 |_,_,.cons x t h,i+1,f,e=>by have:=yL h (by simpa using e);simpa using this
noncomputable def Yj(a:List aB)(i j:Nat):Bool:=decide ((a.getD i "").cps.toList<(a.getD j "").cps.toList)
def Yk(nd:a.Nodup):Ord a.length (Yj a) where
 tr:=λi j k b c=>by exact decide_eq_true (List.lt_trans (of_decide_eq_true b) (of_decide_eq_true c))
 tot:=λi j hi f ne h=>by
  have h:=of_decide_eq_false h;refine decide_eq_true ?_;rcases List.le_iff_lt_or_eq.mp (gK.mp h) with z|z
  .exact z
  .refine absurd ?_ ne;have e:=L3.Oh z;rw[bF,bF,ay hi,ay f] at e;exact(fR nd).mp e.symm
def Yl(M:UD s.heap m g)(hi:i<m.length)(J:j<m.length)(nd:g.Nodup)(ne:i≠j)(h:C (Yj g i j) s):kas_ask prog w A (tuples' ai) m i j C s:=by
 obtain⟨fs,t,st⟩:=M;have U:=qW t;have Y:=st.length;obtain⟨a,o,xs,n,f,e,N,hd,c,O⟩:=xv t (ay hi);obtain⟨a',o',L,n',f',e',Q,p,b,u⟩:=xv t (ay J);obtain⟨k,tk,rfl,v⟩:=yL st O;obtain⟨k',y,rfl,B⟩:=yL st u;unfold kas_ask;rw[bF,bF,ay hi,ay J,e,e'];refine kat_lt N hd Q p ?_;obtain⟨r,er⟩:∃r,xs.toList=.str k tk::r:=by
  rw[<-cY] at c;cases q:xs.toList with
  |nil=>rw[q] at c;simp at c
  |cons x r=>rw[q] at c;simp at c;exact⟨r,by rw[c]⟩
 obtain⟨r',G⟩:∃r,L.toList=.str k' y::r:=by
  rw[<-cY] at b;cases q:L.toList with
  |nil=>rw[q] at b;simp at b
  |cons x r=>rw[q] at b;simp at b;exact⟨r,by rw[b]⟩
 rw[er,G];have T:¬k=k':=λz=>by
  subst z;have H:i<g.length:=by lia
  have I:j<g.length:=by lia
  rw[ay H] at v;rw[ay I] at B;exact ne ((fR nd).mp ((bA v).trans (bA B).symm))
 refine kat_cons (alC ?_);rw[decide_eq_false T];refine oneLt_str ?_;have:Yj g i j=decide (k.cps.toList<k'.cps.toList):=by unfold Yj;rw[bF,bF,v,B,Option.getD_some,Option.getD_some]
 rw[<-this];exact h
def Hg(t:KatTups s.heap a fs)(st:cZ fs f)(b:0<fs.length)(h:Q (tuples' ai) s):wpAny (model prog w) A (keyKind' a.toArray) Q E s:=by
 refine kat_kind (T:=.type hX) t b (λv c=>?_) rfl ?_
 .obtain⟨i,hi,e⟩:=List.getElem_of_mem c;obtain⟨k,tk,e2,_⟩:=yL st (by rw[ay hi,e]);subst e2;exact .now
 .exact h
def EZ(G:s.heap.get? a=aa (bX ap f.toArray n))(Jn:f.length<64)(hh:UD s.heap f H)(nd:H.Nodup)
(jG:∀(m:aw) (e:Nat) (p:Array Nat),(∀b o,b≠a->s.heap.get? b=aa o->m.get? b=aa o)->Row f.length p->Be (Yj H) p f.length->m.get? a=aa (bX ap (p.toList.map λi=>f.getD i cE).toArray e)->P (.done (.ret .none)) {s with heap:=m}):
  wpAny (model prog w) A (bU.«list.sort» ⟨[.ref a],[]⟩) P E s:=by
 obtain⟨fs,t,st⟩:=hh;have l1:=qW t;have l2:=st.length;have s1:=cA s.heap a (bP λ_=>(#[]:Array ah));obtain⟨e1,B⟩:∃e1,(s.heap.update a (bP λ_=>(#[]:Array ah))).get? a=aa (bX ap #[] e1):=⟨_,fM G λ_=>#[]⟩;have M:∀b o,b≠a->s.heap.get? b=aa o->(((s.heap.update a (bP λ_=>(#[]:Array ah))).push (bX dy f.toArray 0)).push (bX ap #[] 0)).get? b=aa o:=λb o I q=>
  aj _ (aj _ ((s1.2 b I).trans q))
 have g:(((s.heap.update a (bP λ_=>(#[]:Array ah))).push (bX dy f.toArray 0)).push (bX ap #[] 0)).get? a=aa (bX ap #[] e1):=aj _ (aj _ B);have N:=tY t λb o q c=>M b o (λz=>by subst z;rw[G] at q;cases q;exact absurd (eN.inj c) (by decide)) q
 rw[alK];refine ae (ake G rfl ?_);refine ae (d6 G rfl ?_ (by rw[aO,bD];lia) (bu _));refine ae (gz B rfl ?_);refine ae (ajW ?_ (by show f.length<=_;rw[bD];lia));refine ae (fC ?_ (bu _));refine bJ ?_;dsimp only;generalize hh6:((s.heap.update a (bP λ_=>(#[]:Array ah))).push (bX dy f.toArray 0)).push (bX ap #[] 0)=u at M g N |-;have last:∀out:List ah,out.length<64->∃m e,(∀b o,b≠a->s.heap.get? b=aa o->m.get? b=aa o)/\m.get? a=aa (bX ap out.toArray e)/\m=u.update a (bP λ_=>out.toArray):=λout hz=>by have s2:=cA u a (bP λ_=>out.toArray);obtain⟨O,T⟩:∃O,(u.update a (bP λ_=>out.toArray)).get? a=aa (bX ap out.toArray O):=⟨_,fM g λ_=>out.toArray⟩;exact⟨_,O,λb o I q=>(s2.2 b I).trans (M b o I q),T,rfl⟩
 by_cases y:f.toArray.size<2
 .rw[if_pos y,if_pos y];rw[aO] at y;refine ae (av ?_);rw[StateT.run_pure];refine ae (av ?_);dsimp only;refine ae (gz g rfl ?_);have eo:=by show Array.map (·.2) (f.toArray.zip f.toArray)=f.toArray;simp;exact fX (aC _)
  rw[eo];refine ae (d6 g rfl ?_ (bu _) (by rw[aO,bD];lia));simp only [bne_self_eq_false,fj,if_false];obtain⟨m,e,U,Y,q3⟩:=last f (by lia);rw[<-q3];refine av (jG m e (bY f.length).toArray U ⟨by simp,by simp⟩ (λi j hi hj=>by lia) ?_);rw[Y];congr 3;have:(bY f.length).map (λi=>f.getD i cE)=f:=by
   apply List.ext_getElem
   .simp
   .intro i h1 y;simp at h1;simp[h1]
  simpa using this.symm
 .rw[if_neg y,if_neg y];rw[aO] at y;refine ae (Hg (s:={s with heap:=u}) N st (by lia) ?_);have o:=Yk nd;rw[<-l2,<-l1] at o;have go:(kas_sort f.length).kasWp (kas_ask prog w A (tuples' ai) f) (λp v=>(Row f.length p/\Be (Yj H) p f.length)/\v={s with heap:=u}) {s with heap:=u}:=
   aar (J:=λv=>v={s with heap:=u}) (λi j C v hi hj ne e hC=>by subst e;exact Yl (s:={s with heap:=u}) ⟨fs,N,st⟩ hi hj nd ne (hC _ rfl)) (λp v h e=>⟨h,e⟩) _ _ rfl (Yi o (by lia))
  refine ae (cc (kat_run (Q:=λL v=>∃p:Array Nat,p.size=f.length/\ajl L=p.map (kas_item (f.toArray.zip f.toArray))/\akC L=am/\(Row f.length p/\Be (Yj H) p f.length)/\v={s with heap:=u})
   rfl (by lia) Jn (λp' L v a1 a2 a3 a4=>⟨p',a1,a2,a3,a4⟩) go) ?_ λ_ _ e=>e)
  rintro⟨⟨⟩,L⟩ v ⟨p,hp,har,hf,⟨r,ha'⟩,rfl⟩
  dsimp only;have xh:=kat_snds rfl har;have uQ:(p.toList.map λi=>f.getD i cE).length=f.length:=by rw[ak,bT,hp]
  rw[xh];obtain⟨m,e,U,Y,q3⟩:=last (p.toList.map λi=>f.getD i cE) (by lia);refine ae (gz g rfl ?_);refine ae (d6 g rfl ?_ (bu _) (by rw[aO,uQ,bD];lia));rw[hf];simp only [bne_self_eq_false,fj,if_false];rw[<-q3];exact av (jG m e p U r ha' Y)
def MC(u:s.heap.IsList l c.toArray)(v:c.length<64)(y:UD s.heap c j)(nd:j.Nodup)
(B:∀(f:aw) (D:ar) (e:Nat) (p:Array Nat),(∀b o,s.heap.get? b=aa o->f.get? b=aa o)->s.heap.objs.size<=D->Row c.length p->Be (Yj j) p c.length->f.get? D=aa (bX ap (p.toList.map λi=>c.getD i cE).toArray e)->Q (.ref D) {s with heap:=f}):
  wpAny (model prog w) A (call (.builtin gc) [.ref l]) Q E s:=by
 refine gG akq akc akd (ak1 _) ?_;refine ae (av ?_);refine ae (ak3 u ?_ (by rw[bD];lia));refine ae (fC ?_ (by rw[bD];lia));have g:((s.heap.push (bX ap #[] 0)).update s.heap.objs.size (bP (·++c.toArray))).objs.size=s.heap.objs.size+1:=by rw[ajm,ajQ]
 have m:(((s.heap.push (bX ap #[] 0)).update s.heap.objs.size (bP (·++c.toArray))).push (bX ap c.toArray 0)).get? (s.heap.objs.size+1)=aa (bX ap c.toArray 0):=by rw[<-g];exact aJ _ rfl
 have keep:∀b o,s.heap.get? b=aa o->(((s.heap.push _).update _ _).push (bX ap c.toArray 0)).get? b=aa o:=λb o q=>by have h:=aH q;rw[aiq _ _ _ (by rw[g];exact bg (cV h)),dU _ _ _ _ (bg h),aiq _ _ _ (bg h)];exact q
 rw[g];refine ae (bJ (cT ajX ⟨_,m,rfl⟩ ajU ?body (akA _)));case body=>
  obtain⟨fs,t,st⟩:=y;refine EZ (s:={s with heap:=((s.heap.push _).update _ _).push _}) m v ⟨fs,tY t λb o q _=>keep b o q,st⟩ nd λf e p k r a q=>⟨_,rfl,av ⟨_,rfl,?_⟩⟩;exact B f _ e p (λb o n=>k b o (λz=>absurd (aH n) (by rw[z];exact Nat.not_lt.mpr (cG _))) (keep b o n)) (cG _) r a q
end
section
variable {X:Cx}
def UE(o:b.length=a.length)(r:Row a.length p)(ha:Be (Yj b) p a.length):Js b a (p.toList.map λi=>a.getD i cE):=by
 have q:b.zip a=(bY a.length).map λi=>(b.getD i "",a.getD i cE):=by
  apply List.ext_getElem
  .simp[o]
  .intro i m n;simp at m n;have u:i<b.length:=by lia
   simp[m,n,ay u]
 refine⟨p.toList.map λi=>(b.getD i "",a.getD i cE),?_,by rw[bd];rfl,?_⟩
 .rw[q];exact r.pm.map _
 .rw[eM,dI];intro i j hi c e;rw[bT,r.sz] at hi c;have h:=of_decide_eq_true (ha i j e c);have g:∀k (f:k<p.toList.length),tX p k=p.toList[k]:=λk f=>by rw[bT] at f;simp[f]
  rw[g i (by rw[bT,r.sz];exact hi),g j (by rw[bT,r.sz];exact c)] at h;unfold L3.uR;rw[decide_eq_false (λz=>List.lt_irrefl _ (List.lt_trans h z))];rfl
theorem J1(I:Inv X cf u H s):∀{b:List V} {c:List aB} {f:List ah},nD X.K H b c->Vals b f->∃fs,KatTups s.heap f fs/\cZ fs c
 |[],[],_,_,.nil=>⟨[],trivial,.nil⟩
 |[],_::_,_,h,_=>h.elim
 |_::_,[],_,h,_=>h.elim
 |_::b,k::c,_,⟨⟨a,zs,e,h⟩,r⟩,.cons g t=>by
  subst e;obtain⟨fs,i,j⟩:=J1 I r t;obtain⟨ig,m,⟨o,p,hc,n,hd⟩,_⟩:=I.tuple h;cases m with
  |cons q _=>
   obtain⟨tk,rfl⟩:=q;obtain rfl:=(g);exact⟨_::fs,⟨⟨a,o,_,n,rfl,p,hc,hd,rfl⟩,i⟩,.cons k tk j⟩
def Hi:nz X (.builtin gc) (λxs H Q=>∃p a b,xs=[.ref p]/\nr X.K H p a/\nD X.K H a b/\b.Nodup/\a.length<64/\∀l,H l=am->Q (.ref l) (upd H l (.lst (jL b a)))):=by
 intro cf s F H xs us Q I r h;obtain⟨p,a,b,rfl,m,n,nd,B,q⟩:=h;obtain⟨u,rfl,o⟩:=vals1 r;cases o;obtain⟨ig,c,pl,_⟩:=I.list m;have C:=c.length;obtain⟨fs,f,g⟩:=J1 I n c;have E:=qW f;have G:=g.length;refine MC pl.isList (by lia) ⟨fs,f,g⟩ nd λv D e p kp i y ha j=>?_;rw[Jt nd (UE (by lia) y ha)] at j;have z:Vals (jL b a) _:=CU c;have A:(jL b a).length<=az:=by unfold jL;rw[ak,(L3.p7 _ _).length_eq,dJ];lia
 exact⟨.ref D,_,I.laid kp i (show jq X.prog X.w _ v _ (.lst _) from⟨A,jL b ig,e,z,j⟩),rfl,q D (I.iC.fresh i)⟩
end
end L2
section
open PySem PySem.Spec PyProof.Rows
namespace L3
open L2
def BJ:GF:=λds M Q=>match ds with
 |[d]=>∃xs a,vw M d=.lst xs/\xl xs a/\a.Nodup/\xs.length<64/\Q (.lst (jL a xs)) M
 |_=>False
def QR:JBF X (.builtin gc) BJ:=by
 refine⟨λds M P Q w q=>?_,λcf s A H xs us Q I rs h=>?_⟩
 .unfold BJ at*;split at q
  .obtain⟨xs,c,e,b,f,i,q⟩:=q;exact⟨xs,c,e,b,f,i,w _ _ q⟩
  .exact q.elim
 .obtain⟨F,B,M,ds,o,j,h⟩:=h;unfold BJ at h;split at h
  .obtain⟨xs,c,e,b,f,i,q⟩:=h;obtain⟨v,m,n⟩:=sI j;subst m;obtain⟨a,r,rfl,u,g⟩:=jg o n e;have z:=gO.length _ _ g;exact Hi cf s A H _ us Q I rs ⟨a,r,c,rfl,nr.of u,xn ib b g,f,by lia,λp y=>q p _ B H Ext.refl o y ⟨_,rfl,CV g (xp b).symm⟩⟩
  .exact h.elim
end L3
namespace L2
noncomputable def Iti(a:ar)(o:cn)(b:List (Key×V)):It:=⟨λi H=>H a=aa (.qN o (.dK b))/\i<b.length,
 λi H x c=>∃p k v,x=.ref p/\H p=am/\b[i]?=aa (k,v)/\c=upd H p (.tup [kV k,v]),λi H=>H a=aa (.qN o (.dK b))/\i=b.length⟩
def agb(h:(iM P w).is k u=ai):RelV (kV k) u:=by
 cases k with
 |inl i=>
  have h:ajD i u=ai:=h;cases u<;>first|(simp[ajD] at h;done)|skip
  simp[ajD] at h;subst h;exact⟨_,rfl⟩
 |inr x=>
  have h:eC x u=ai:=h;cases u<;>first|(simp[eC] at h;done)|skip
  simp[eC] at h;subst h;exact⟨_,rfl⟩
def tnI (it a:ar)(o:cn)(n:Nat)(i:Nat)(h:aw):Prop:=∃es b ok c,o.data=.dict es b/\IsItemIter h it a i n b ok c
def agc(r:KV a b){i:Nat}{k:Key}(h:a[i]?=aa (k,v)):∃u,b[i]?=aa (k,u)/\RelV v u:=by
 induction r generalizing i with
 |nil=>simp at h
 |@cons p q _ _ r _ c=>
  cases i with
  |zero=>
   simp at h;subst h;exact⟨q.2,by simp;exact Prod.ext r.1.symm rfl,r.2⟩
  |succ i=>
   obtain⟨u,e,f⟩:=c (by simpa using h);exact⟨u,by simpa using e,f⟩
def MD{P:aP}{w:bt}{K:af}{elts:List bv}{n:Nat}{pos:dA}(it a:ar)(o:cn)(f:List (Key×V)):Turn P w K (.Tuple elts n pos) (Iti a o f) [it] it (tnI it a o f.length) where
 mem:=by simp
 obj:=λi h st b hb=>by obtain⟨es,c,ok,g,_,e⟩:=st;cases bp.mp hb;exact⟨_,e,λv z=>by cases z⟩
 keep:=λi h h' st k=>by obtain⟨es,c,ok,g,d,e⟩:=st;exact⟨es,c,ok,g,d,k it (by simp) _ e⟩
 item:=by intro X C hw G hc i cf s F H E I B st J;subst C hw G;obtain⟨es,c,ok,g,d,e⟩:=st;obtain⟨L,hi⟩:=J;obtain⟨j,z,hd,vs,rel,ob,M,N,m,O,r,T⟩:=(show jq X.prog X.w H s.heap a (.qN o (.dK f)) from I.iC a _ L);rw[j] at m;cases m;rw[d] at r;cases r;obtain⟨⟨k,v⟩,hx⟩:∃p,f[i]?=aa p:=⟨_,ay hi⟩;obtain⟨u,hu,ru⟩:=agc rel hx;rw[rel.length] at e;refine wpAny_pyNext_items_item (knd:=iM X.prog X.w) e ⟨o,es,j,O,d,T⟩ hu λkey h' hk xh hT hz U=>⟨.ref s.heap.objs.size,rfl,?_⟩;refine wpAny_letOwnedTupleGo_items xh λY LM hs=>?_;have y:s.heap.objs.size≠it:=λz=>absurd (aH e) (by rw[<-z];exact cB _);have kk:∀b q,b∉[it]->s.heap.get? b=aa q->Y.get? b=aa q:=λb q hb eb=>(hs.2 b (λz=>hb (by simp[z]))).trans (U b q (λz=>hb (by simp[z])) eb);have hTs:aj4 Y s.heap.objs.size #[key,u]:=⟨_,(hs.2 _ y).trans hT,rfl,_,rfl⟩;have Ts:H s.heap.objs.size=am:=I.iC.fresh (aC _);have I2:Inv X cf F (upd H s.heap.objs.size (.tup [kV k,v])) {s with heap:=Y,toks:=s.toks}:=I.GL [it] kk (λb hb=>B b hb) (aC _) (by show 2<=az;decide) (ig:=[key,u]) (.cons (agb hk) (.cons ru .nil)) hTs;refine⟨.ref s.heap.objs.size,_,I2,rfl,⟨_,k,v,rfl,Ts,hx,rfl⟩,⟨es,c,_,_,d,by rw[rel.length];exact LM⟩,λb hb=>?_⟩;rw[gR λq=>y (by rw[<-q];exact bp.mp hb)];exact(B b hb).1
 done:=by intro X C hw G hc i cf s F H E I B st J;subst C hw G;obtain⟨es,c,ok,g,d,e⟩:=st;obtain⟨L,rfl⟩:=J;obtain⟨j,z,hd,vs,rel,ob,M,N,m,O,r,T⟩:=(show jq X.prog X.w H s.heap a (.qN o (.dK f)) from I.iC a _ L);rw[j] at m;cases m;rw[d] at r;cases r;have LL:X.A.handled=am:=I.ok.hd hc;rw[rel.length] at e;refine wpAny_pyNext_items_end (knd:=iM X.prog X.w) LL e ⟨o,es,j,O,d,T⟩ (by simp) λh' he=>⟨rfl,?_⟩;exact I.GK (t':=s.toks) [it] (λb q hb eb=>he b q (λz=>hb (by simp[z])) eb) (λb hb=>B b hb)
 self:=λA i s Q E st h=>by obtain⟨es,c,ok,g,d,e⟩:=st;exact W.kcp_self e h
section
variable {X:Cx} {apos i6:dA}
def acX (X:Cx)(to:TE):TI:=λc H R=>to c H λx H1=>∃a b,x=.ref a/\
 ((H1 a=aa (.dK b)/\∀o,(∀o u,X.hW a≠aa (.qN o u))->R (Iti a o b) (upd H1 a (.qN o (.dK b))))\/∃o,H1 a=aa (.qN o (.dK b))/\R (Iti a o b) H1)
def UF(N:PE X o to)(O:cM o "items" X.env (eval o X.env)=eval o X.env:=by rfl)(Q:(apos.endLine==i6.line)=ai:=by rfl):
  PI X (.Tuple elts n x6) (.Call (.Attribute o "items" apos) [] [] i6) (acX X to):=by
 intro cf s K H R I h;refine akQ O Q (jB (N cf s K H _ I h) λv s1 T=>?_);obtain⟨x,H1,G,U,a,f,e,q⟩:=T;subst e;obtain rfl:v=bI a:=U;have key:∃i ob,i a=aa (.qN ob (.dK f))/\Inv X cf K i s1/\R (Iti a ob f) i:=by
  rcases q with⟨B,q⟩|⟨ob,B,q⟩
  .obtain⟨ob,g,j,Y⟩:=G.freeze B;exact⟨_,ob,gZ,j,q ob Y⟩
  .exact⟨H1,ob,B,G,q⟩
 obtain⟨i,ob,hH,j,q⟩:=key;have C:=(show jq X.prog X.w i s1.heap a (.qN ob (.dK f)) from j.iC a _ hH);obtain⟨c,z,hd,y,rel,ob',es,m,p,A,E,J⟩:=C;rw[c] at p;cases p;have r:s1.heap.DictOf (iM X.prog X.w) a y:=⟨ob,es,m,c,A,E,J⟩;refine⟨fe,"dict.items",PySem.F.plainAttrs_dict,PySem.F.slot_dict_items,PySem.F.type_dict_items,⟨ob,c,A.1⟩,λb e=>?_,fB rfl (PySem.evalArgs_none ?_)⟩
 .cases e;exact⟨ob,c,A.2.1⟩
 refine call_meetsIn PySem.F.slot_dict_items r.typeIs PySem.F.entry_dict_items (PySem.F.args_dict_items_1 _) (meets_dict_items (iM X.prog X.w) a hd) ⟨⟨y,r⟩,?_⟩;have L:∀b u,s1.heap.get? b=aa u->(s1.heap.push {cls:=.type "dict_items",data:=.fields #[.ref a]}).get? b=aa u:=λb u e=>aj _ e;refine wpAny_pyIter_items (knd:=iM X.prog X.w) (d:=a) (kvs:=y) (ep:=m) ⟨_,aJ _ rfl,rfl,rfl⟩ ⟨ob,es,L a ob c,A,E,J⟩ ?_;have g2:∀b u,s1.heap.get? b=aa u->((s1.heap.push {cls:=.type "dict_items",data:=.fields #[.ref a]}).push {cls:=.type uac,data:=.fields #[.none,.bool ao,.ref a,.int 0 0,.int y.length 0,.int m 0,.none,.none]}).get? b=aa u:=
  λb u e=>aj _ (L b u e)
 have M:s1.heap.objs.size<=(s1.heap.push {cls:=.type "dict_items",data:=.fields #[.ref a]}).objs.size:=by rw[ajQ];exact cG _
 refine⟨_,[_],tnI _ a ob f.length,Iti a ob f,i,rfl,j.kept (t':=s1.toks) g2,MD _ a ob f,⟨es,m,.none,.none,E,?_⟩,λb hb=>?_,q⟩
 .rw[rel.length];exact aJ _ rfl
 .cases bp.mp hb;exact j.Iw M (j.iC.fresh M)
end
end L2
namespace L3
open L2
noncomputable def OH:Key->D
 |.inl i=>.int i
 |.inr x=>.str x
def Ym{K:af}(k:Key):Rep K a H (OH k) (kV k):=by cases k<;>(unfold OH;rfl)
noncomputable def qX(a:List Key)(ds:List D):List D:=dj (λk d=>.tup [OH k,d]) a ds
section
variable {X:Cx}
def J2{M1:Ms}(j:jk F e M1 H1 a=aa (.qN ob (.dK (b.zip c))))(L:b.length=ds.length)(m:gO X.K e (jk F e M1 H1) ds c):
  ab3 X.K F e H1 M1 (Iti a ob (b.zip c)) (qX b ds) (λ_=>True):=by
 have lv:=gO.length _ _ m;have z:(qX b ds).length=ds.length:=by unfold qX;rw[gk];lia
 have A:(b.zip c).length=(qX b ds).length:=by rw[dJ,z];lia
 refine⟨λi n ii q r p s o _ hi=>⟨(iz (s a _ j)).2,by lia⟩,λi n ii q r x M d B s o _ hd y=>?_,λn ii q r p s o _=>⟨(iz (s a _ j)).2,A.symm⟩⟩;obtain⟨p,k,v,rfl,u,f,rfl⟩:=y;have w:=eR.mp f;have C:=w.2;have E:=w.1;obtain⟨G,h,H⟩:=gO.get' ds c i v m C;have I:=by
  have g:(qX b ds)[i]?=aa (.tup [OH k,G]):=by show(dj _ b ds)[i]?=_;rw[ajC,E,h]
  rw[hd] at g;exact bA g
 subst I;obtain⟨J,e2⟩:=o.laid u;exact⟨J,e2,kH o u (gO.cons (Ym k) (gO.cons (Rep.mono B s _ _ H) gO.nil)) e2⟩
def Hj (to:DE):DI:=λb M Q=>to b M λd M1=>∃a ds,d=.jP a ds/\Q (qX a ds) (λ_=>True) M1
def UG(f:JE X o to)(y:cM o "items" X.env (eval o X.env)=eval o X.env:=by rfl)(A:(apos.endLine==B.line)=ai:=by rfl):
  JI X (.Tuple elts n I) (.Call (.Attribute o "items" apos) [] [] B) (Hj to):=by
 refine⟨λb M P Q w q=>f.mono b _ _ _ (λd M1 q=>?_) q,PI.weak (UF f.p y A) λJ H Q q=>?_⟩
 .obtain⟨g,ds,e,q⟩:=q;exact⟨g,ds,e,w _ _ _ q⟩
 .obtain⟨F,K,b,M,r,q⟩:=q;refine⟨F,K,b,M,r,f.mono b _ _ _ (λd M1 q v j H1 e1 c C=>?_) q⟩;obtain⟨g,ds,rfl,q⟩:=q;obtain⟨a,E,rfl,i,m,u⟩:=C;refine⟨a,g.zip E,rfl,?_⟩;rcases i with h|⟨ob,h⟩
  .obtain⟨na,ha⟩:=iz h;refine .inl ⟨ha,λob G=>?_⟩;have z:=LO.dict (ob:=ob) c ha na G;exact q _ j H1 _ _ e1 c z (J2 (jF na gZ rfl) m (gO.imp z.rep _ _ u))
  .obtain⟨na,ha⟩:=iz h;exact .inr ⟨ob,ha,q _ j H1 H1 id e1 c (LO.refl c) (J2 h m u)⟩
end
end L3
namespace L2
section
variable {prog:aP} {w:bt} {A:bq} {E:ah->aq->Prop} {s:aq} {a b:ar} {K:Type} [DecidableEq K] {knd:PySem.KeyKind prog w K} {vs ws:List (K×ah)}
end
end L2
namespace L3
open L2
section
variable {X:Cx}
def Yn(h:b∈lv g (M.set k am)):b∈lv g M:=by
 obtain⟨j,o,c,a⟩:=nB.mp h;have e:j≠k:=λz=>by
  subst z;by_cases f:j<M.length
  .rw[cC f] at a;cases a
  .rw[dF (by rw[fg];lia)] at a;cases a
 rw[cb λz=>e z.symm] at a;exact nB.mpr ⟨j,o,c,a⟩
def OK.give{K:af}(o:OK K F α H M)(k:Nat):OK K F α H (M.set k am)/\Ext F α H M α H (M.set k am):=by
 have c:jC (jk F α M H) (jk F α (M.set k am) H):=λb x h=>by
  obtain⟨n,q⟩:=iz h;refine kW h (λw=>n ?_) q;rcases bj.mp w with w|w
  .exact bV _ (Yn w)
  .exact bH _ w
 refine⟨⟨by rw[fg];exact o.ml,o.nd,o.fr,o.al,λj x h=>?_,o.tb⟩,bc _,c,λ_ _=>rfl⟩;have e:j≠k:=λz=>by
  subst z;by_cases f:j<M.length
  .rw[cC f] at h;cases h
  .rw[dF (by rw[fg];lia)] at h;cases h
 rw[cb λz=>e z.symm] at h;obtain⟨a,g,i⟩:=o.own j x h;exact⟨a,g,i.mono (bc _) c rfl⟩
def UH (i:Nat):DE:=λa M Q=>∃(k:Nat) (es:List D),a[i]?=aa (aa (.loc k))/\M[k]?=aa (aa (.lst es))/\Q (.lst es) (M.set k am)
def acY(i:Nat)(o:X.N[i]?=aa x:=by rfl)(p:Rz X.env.scope x:=by first|exact dP rfl|exact c9 (dP rfl)|exact c9 (c9 rfl))(hd:(x==(dV:aB))=ao:=by decide)
(u:(x==(mr:aB))=ao:=by decide):JE X (.Name x pos) (UH i):=by
 refine⟨λy M P Q h q=>?_,PE.weak (wY o p hd u) λJ H Q h=>?_⟩
 .obtain⟨k,es,c,f,q⟩:=q;exact⟨k,es,c,f,h _ _ q⟩
 .obtain⟨F,K,y,M,r,k,es,c,f,q⟩:=h;obtain⟨v,e,z⟩:=r.sl i _ c;obtain⟨a,g,rfl⟩:=z;obtain⟨I,m,A,B,C⟩:=r.ok.own k _ f;rw[g] at m;cases m;obtain⟨E,e2⟩:=r.ok.give k;refine⟨.ref a,e,q _ K H e2 E ?_⟩;refine⟨a,A,rfl,jF (λw=>?_) B rfl,e2.Ck C⟩;rcases bj.mp w with w|w
  .obtain⟨j,x,n,b⟩:=nB.mp w;have:j=k:=(gL (au.mp n).1 r.ok.nd).mp (n.trans g.symm);subst this;by_cases G:j<M.length
   .rw[cC G] at b;cases b
   .rw[dF (by rw[fg];lia)] at b;cases b
  .exact(r.ok.fr a w).1 (aS g)
end
end L3
namespace L2
section
variable {prog:aP} {A:bq} {s:aq}
theorem F4(f:t≠it):∀(n i:Nat) (s:aq) (Q:List ah->aq->Prop),s.heap.IsListIter it t i->s.heap.IsList t items->i+n<=items.size->
  (∀a,a.IsListIter it t (i+n)->bM it s.heap a->Q ((items.toList.drop i).take n) {s with heap:=a})->wpAny (model prog w) A (draw (.ref it) n) Q E s
 |0,i,s,Q,b,_,_,c=>by exact av (by simpa using c s.heap b (bM.refl ..))
 |n+1,i,s,Q,b,ht,j,c=>by
  have g:i<items.size:=by lia
  refine ae (akU b ht (x:=items[i]) (by simp[g]) λq m h=>?_);refine ae (bJ (F4 f n (i+1) _ _ m (ht.extBut h.extBut f) (by lia) λo e p=>av ?_));have hd:items.toList.drop i=items[i]::items.toList.drop (i+1):=by simp[dH,g]
  have:=c o (by rw[show i+(n+1)=i+1+n by lia];exact e) (h.trans p);rw[hd] at this;exact this
def J3(j:A.handled=am)(ht:s.heap.IsList t items)
(hn:(cD elts env).length=items.size)(a:(cD elts env).findIdx? (·.1)=am)
(h:∀f,ajJ s.heap.objs.size s.heap f->wpAny (model prog w) A (alV ((cD elts env).map (·.2)) items.toList) Q E {s with heap:=f}):
  wpAny (model prog w) A (assign (.Tuple elts x1 pos) env (.ref t)) Q E s:=by
 refine ae (fw ?_);unfold unpack;rw[hn,a];refine ae (bJ ?_);have g:t≠s.heap.objs.size:=by obtain⟨o,m,_⟩:=ht;exact bg (aH m)
 refine ae ?_;refine ae (ajT ht.typeIs PySem.F.slot_list_iter.lookup ?_);refine av ?_;refine ae (bJ (dS ht ?_));refine ae (bJ (F4 g _ 0 _ _ ⟨_,aJ _ rfl,rfl,rfl⟩ (ht.push _) (by lia) λu n i=>?_));have p:List.take items.size (List.drop 0 items.toList)=items.toList:=by exact d8 (by simp)
 rw[p];rw[if_neg (by simp)];have c:=(ht.push _).extBut i.extBut g;refine ae (bJ (ak4 j n c (by simp) λq r=>?_));refine av (h q λb o hb e=>r b o hb (i.extBut b o hb (aj _ e)))
end
section
variable {X:Cx}
def aiA (K:af)(n:Nat)(t:ZM):TG:=λv b H Q=>∃a xs,v=.ref a/\nr K H a xs/\xs.length=n/\t xs b H Q
def ac0(hc:X.calm=ai)(h:RD X es t)
(hn:(cD es X.env).length=n:=by rfl)(f:(cD es X.env).findIdx? (·.1)=am:=by rfl):PG X (.Tuple es k pos) (aiA X.K n t):=by intro cf s w H v u Q I r hw;obtain⟨a,xs,e1,g,i,hw⟩:=hw;subst e1;cases r;obtain⟨ig,c,ht,p⟩:=I.list g;refine J3 (I.ok.hd hc) ht.isList (by simp[hn,<-i,c.length]) f λq j=>?_;have m:=I.kept (t':=s.toks) λb o e=>j b o (bg (aH e)) e;exact h cf _ w H xs _ Q m (by simpa using c) hw
end
end L2
namespace L3
open L2
section
variable {X:Cx}
def J8 (n:Nat)(gs:Z8):DG:=λd a M Q=>match d with|.lst ds=>ds.length=n/\gs ds a M Q|_=>False
def ac1(h:JGs X es gs)(hc:X.calm=ai:=by rfl)(hn:(cD es X.env).length=n:=by rfl)(c:(cD es X.env).findIdx? (·.1)=am:=by rfl):JG X (.Tuple es k pos) (J8 n gs):=by
 refine⟨λd b M P Q w q=>?_,PG.weak (ac0 hc h.p hn c) λv g H Q q=>?_⟩
 .unfold J8 at*;split at q
  .exact⟨q.1,h.mono _ _ _ _ _ w q.2⟩
  .exact q.elim
 .obtain⟨F,i,b,M,d,r,rd,q⟩:=q;unfold J8 at q;split at q
  .obtain⟨a,e,rfl,f,z⟩:=rd;exact⟨a,e,rfl,nr.of (ib _ _ f),by rw[<-gO.length _ _ z];exact q.1,F,i,b,M,_,r,z,q.2⟩
  .exact q.elim
end
end L3
namespace L2
end L2
namespace L3
open L2
end L3
namespace L3
open L2
end L3
namespace L2
section
variable {prog:aP} {w:bt} {κ:Type} [DecidableEq κ] {knd:PySem.KeyKind prog w κ} {A:bq} {E:ah->aq->Prop} {s:aq}
noncomputable def wU(b:List (κ×ah)):List (κ×ah):=b.foldl (λd a=>stored d a.1 a.2) []
end
end L2
namespace L3
open L2
end L3
namespace L2
end L2
namespace L3
open L2
section
variable {keys:List (Option bv)} {values:List bv}
def Hk (ts:List (DE×DE)):DE:=λc M Q=>CM ts c (M++[aa (.jP [] [])]) λb M1=>M1[M.length]?=aa (aa (.jP [] []))/\∃a,Jk b=aa a/\decide (a.Nodup/\a.length<=15)=ai/\Q (.loc M.length) (M1.set M.length (aa (.jP a (b.map (·.2)))))
def Yo(h:JP X pos keys values ts)(J:keys.all (·.isSome)=ai)(L:keys.length=values.length)(N:keys≠[])(n:keys.length<=15):JE X (.Dict keys values pos) (Hk ts):=by
 obtain⟨NO,O,T⟩:=h.p;refine⟨λg M P Q w q=>h.mono g _ _ _ (λi M1 zq=>by obtain⟨j,b,u,m,q⟩:=zq;exact ⟨j,b,u,m,w _ _ q⟩) q,PE.weak (WP O J L N n) λK H Q q=>?_⟩;obtain⟨F,S,g,M,r,q⟩:=q;unfold Hk at q;intro p A;obtain⟨U,e2⟩:=r.ok.enter (x:=.jP [] []) A (yi (o:=.dK []) A) ⟨[],gZ,rfl,gO.nil⟩;refine T F (S++[p]) g (M++[aa (.jP [] [])]) K _ _ (r.grow e2 U) (h.mono g _ _ _ (λi M1 q c Y H3 e3 B rk C=>?_) q);obtain⟨j,b,u,m,q⟩:=q;obtain⟨ev,lk⟩:=FF i c b u rk;have Jh:(S++[p])[M.length]?=aa p:=by rw[<-r.ok.ml];simp
 have f:=Gz e3.pre Jh;obtain⟨a,E,ws,hq,_,G⟩:=B.own M.length (.jP [] []) j;rw[f] at E;cases E;have ez:ws=[]:=by unfold gO at G;exact G
 subst ez;have nd:b.Nodup:=(of_decide_eq_true m).1;have I:(c.map (·.2)).length=b.length:=by rw[ak,lk]
 have em:uW [] (b.zip (c.map (·.2)))=b.zip (c.map (·.2)):=by have:=CL (b.zip (c.map (·.2))) [] (by rw[bL,List.map_fst_zip (by lia)];exact nd);rw[this,bL]
 have v:b.length=(i.map (·.2)).length:=by have:=gO.length _ _ C;rw[this,I]
 obtain⟨o4,e4⟩:=B.write (y:=.jP b (i.map (·.2))) (z:=.dK (b.zip (c.map (·.2)))) j f (λHh e=>⟨c.map (·.2),gZ,v,by rw[e];exact C⟩);refine⟨hq,b.zip (c.map (·.2)),ev,?_,?_⟩
 .rw[dJ,I,ajA];exact(of_decide_eq_true m).2
 .rw[em];exact q (.ref p) Y _ ((e2.trans e3).trans e4) o4 (by unfold Rep;exact⟨p,f,rfl⟩)
end
def AS (_ j:Int):Prop:=0<j/\j<2^200
def UI:sY X (binaryOp .FloorDiv) (rI AS λi j=>.int (i/j)):=opI λi j _ _ _ _ _ hc q=>by
 have b:(0:Int)<j:=hc.1;have c:j<2^200:=hc.2;refine floordiv_int (by lia) (by rw[Int.fdiv_eq_ediv_of_nonneg i (by lia)];exact q) (.inl (PyProof.noPylong_of_log2 ?_));have a:j.natAbs<2^200:=by lia
 have:=(Nat.log2_lt (by lia:j.natAbs≠0)).mpr a;lia
def UJ:JO X .FloorDiv (gI AS λi j=>.int (i/j)):=⟨Bu,λcf s m H x y v u Q I c e h=>by
 obtain⟨F,n,M,f,g,o,a,b,h⟩:=h;cases f<;>cases g<;>first|exact h.elim|skip
 unfold Rep at a b;exact UI cf s m H x y v u Q I c e ⟨_,_,a,b,h.1,vK.now o h.2 i5⟩⟩
end L3
namespace L2
section
variable {prog:aP} {w:bt} {A:bq} {E:ah->aq->Prop} {s:aq} {a b:ar} {K:Type} [DecidableEq K] {knd:PySem.KeyKind prog w K} {vs ws:List (K×ah)}
end
end L2
namespace L3
open L2
end L3
namespace L2
def MG(n:Nat):sliceRange ((n:Int)- 1) (-1) (-1)=(bY n).reverse:=by
 unfold sliceRange;rw[if_neg (by decide)];by_cases h:n=0
 .subst h;rfl
 .rw[if_pos (by lia)];have e:(((n:Int)- 1- -1- -1- 1)/(- -1)).toNat=n:=by rw[show(- -1:Int)=1 from rfl];lia
  dsimp only;rw[e];apply List.ext_getElem (by simp);intro i a b;simp at a b |-;lia
def QU(ig:List ah):akP ig.toArray am am (aa (-1))=ig.reverse.toArray:=by
 unfold akP;have e:eV am am (aa (-1)) ig.toArray.size=(((ig.length:Nat):Int)- 1,-1,-1):=by unfold eV;simp
 rw[e];rw[MG];congr 1;rw[List.filterMap_reverse];congr 1;apply List.ext_getElem?;intro i;have key:∀(l:List Nat) (i:Nat),(∀y∈l,y<ig.length)->(l.filterMap λj=>ig.toArray[j]?)[i]?=l[i]?.bind λj=>ig[j]?:=by
  intro l;induction l with
  |nil=>intro i _;simp
  |cons y l a=>
   intro i h;have lt:=h y aE;have e:ig.toArray[y]?=aa ig[y]:=by simp[lt]
   rw[List.filterMap_cons_some e];cases i with
   |zero=>simp[lt]
   |succ i=>exact a i λz m=>h z (ax _ m)
 rw[key _ i λy m=>fD.mp m];by_cases lt:i<ig.length
 .rw[ay (by simpa using lt),List.getElem_range];rfl
 .rw[dF (by simpa using lt),dF (by simpa using lt)];rfl
section
variable {X:Cx} {st:bv}
def aiB (K:af)(te:TE)(ts:TO):TE:=λc H Q=>te c H λx H1=>ts c H1 λi b=>i=aa (-1)/\∃a xs,x=.ref a/\nr K b a xs/\∀p,b p=am->Q (.ref p) (upd b p (.lst xs.reverse))
def ac2(g:PE X e te)(j:PO X (aa st) ts):PE X (.Subscript e (.Slice am am (aa st) p2) pos) (aiB X.K te ts):=by intro cf s C H Q I h;refine alh (jB (g cf s C H _ I h) λv s1 c=>?_);obtain⟨x,H1,m,n,p⟩:=c;refine wpAny_Slice ?_;refine av (av (jB (j cf s1 C H1 _ m p) λu s3 c=>?_));obtain⟨i,B,w,y,rfl,a,xs,rfl,z,q⟩:=c;cases n;have k:∀b ob,s3.heap.get? b=aa ob->(s3.heap.push {cls:=.type "slice",data:=.fields #[.none,.none,u]}).get? b=aa ob:=λb ob q=>aj _ q;have f:=w.kept (t':=s3.toks) k;obtain⟨ig,r,ht,A⟩:=f.list z;have E:=r.length;refine alP ht.isList.typeIs aka.lookup ?_ (by with_unfolding_all rfl);refine akI ht.isList (aw.IsSliceOf.new ..) .none .none y (by simp) ?_ (by rw[aO];lia);rw[QU];exact⟨.ref _,_,f.laid (o:=.lst _) (λb ob q=>aj _ q) (aC _) ⟨by rw[List.length_reverse];exact A,_,0,r.reverse,aJ _ rfl⟩,rfl,q _ (f.iC.fresh (aC _))⟩
end
end L2
namespace L3
open L2
section
variable {st:bv}
def agh (te:DE)(ts:DO):DE:=λa M Q=>te a M λd M1=>ts a M1 λi M2=>i=aa (-1)/\∃xs,vw M2 d=.lst xs/\Q (.lst xs.reverse) M2
theorem J9{K:af}:∀{ds:List D} {a:List V},gO K b H ds a->gO K b H ds.reverse a.reverse
 |[],a,h=>by subst h;rfl
 |d::ds,a,h=>by obtain⟨v,r,rfl,z,y⟩:=h;rw[fF,fF];exact gO.append _ _ _ _ (J9 y) (by exact⟨v,[],rfl,z,by rfl⟩)
def agi(c:JE X e te)(f:JOp X (aa st) ts):JE X (.Subscript e (.Slice am am (aa st) p2) pos) (agh te ts):=by
 refine⟨λb M P Q w q=>c.mono b _ _ _ (λd M1 q=>f.mono b _ _ _ (λi M2 q=>?_) q) q,PE.weak (ac2 c.p f.p) λG H Q q=>?_⟩
 .obtain⟨g,xs,h,q⟩:=q;exact⟨g,xs,h,w _ _ q⟩
 .obtain⟨F,I,b,M,r,q⟩:=q;refine⟨F,I,b,M,r,c.mono b _ _ _ (λd M1 q v n H1 e1 o u=>⟨F,n,b,M1,r.grow e1 o,f.mono b _ _ _ (λi M2 q C E e2 j=>?_) q⟩) q⟩;obtain⟨g,xs,h,q⟩:=q;have y:=e2.rep u;obtain⟨a,z,rfl,A,B⟩:=jg j y h;exact⟨g,a,z,rfl,nr.of A,λp m=>vK.new j m (vK.grow (e1.trans e2) _ _ q) (mx j m (J9 B))⟩
end
end L3
namespace L2
def Rec (h:aw)(e:ar)(cls:ah)(od:Option ar)(T:ar):Prop:=
 ∃a b c f,h.get? e=aa a/\a.cls=cls/\a.dict=od/\a.data=.fields b/\b[1]?=aa (.ref T)/\T≠e/\h.get? T=aa c/\c.data=.fields f/\f[3]?=aa .none
def QV (h:aw)(e:ar)(cls:ah)(od:Option ar):Prop:=∃a,h.get? e=aa ⟨cls,od,.fields #[a,.none,.none,.none,.bool ao,.none],#[]⟩
def MH (S R:List ar)(h a:aw):Prop:=∀b o,h.get? b=aa o->b∉R->(b∉S->a.get? b=aa o)/\∃sl,a.get? b=aa {o with slots:=sl}
section
variable {A:bq} {s:aq}
def Ds(f:Array ah->Array ah)(o:cn):(dO f o).dict=o.dict:=by unfold dO;split<;>rfl
def UK
(O:A.frames=aa (env::cv))(G:s.heap.FunFrames cq (env::cv))(U:env.frame=aa L)
(H:s.heap.get? e=aa r)(hd:r.data=.fields I)(u:1<I.size)
(h:∀v T,s.heap.objs.size<=T->Rec v e r.cls r.dict T->MH (sx (env::cv)) [e] s.heap v->Q () {s with heap:=v}):
  wpAny M A (do let a<-frameOf env;let pl<-entryPlaceOf L Y;let b<-EntryCells.newEntry head a .none (ajj L) .none pl;setField (.ref e) 1 b) (λ_ s'=>wpAny M A (akR (.ref e) am) Q E s') E s:=by
 have w:e∉(env::cv).filterMap _:=λhm=>by obtain⟨_,o,n,y⟩:=G.mem hm;rw[H] at n;injection n with n;subst n;exact y I hd
 refine ae (wpAny_frameOf_fun O G U λc p=>?_);refine ae (wpAny_entryPlaceOf λpl J=>?_);refine ae (ajt ?_ (J.sizeOk5 _ _ _ _ _));have i:=(p.2.1 e w).trans H;have N:=aj {cls:=.type "traceback",dict:=am,data:=.fields ([head,.ref L,.none,ajj L,.none]++(if pl.isEmpty then bQ 6 cE else pl)).toArray} i;refine f6 N hd u ?_;have g:=dM (aH i);have B:=c6 hd (·.setIfInBounds 1 (bI c.objs.size));have j:=cJ _ N (eK B);have m:=(cj (c.push {cls:=.type "traceback",dict:=am,data:=.fields ([head,.ref L,.none,ajj L,.none]++(if pl.isEmpty then bQ 6 cE else pl)).toArray})
  (dO (·.setIfInBounds 1 (bI c.objs.size))) (ci g)).trans (aJ c rfl)
 refine ae (cm j B (x:=.ref c.objs.size) (by simp[u]) ?_);have keep:∀b o,b≠e->c.get? b=aa o->
   (((c.push {cls:=.type "traceback",dict:=am,data:=.fields ([head,.ref L,.none,ajj L,.none]++(if pl.isEmpty then bQ 6 cE else pl)).toArray}).update e (dO (·.setIfInBounds 1 (bI c.objs.size)))).update _
    (dO (·.setIfInBounds 3 ((am).elim cE λf=>ajj f)))).get? b=aa o:=λb o q hb=>by have C:=dM (aH hb);rw[cj _ _ C,cj _ _ (ci q)];exact aj _ hb
 refine f6 m rfl (by simp only [aO,aD,aQ]<;>lia) (h _ c.objs.size ?_ ?_ λb o hb hn=>?_)
 .exact gv p.1.symm
 .refine⟨_,_,_,_,?_,cn.cls_mapFields _ _,Ds _ _,B,by simp[u],g,cJ _ m (eK (c6 rfl _)),c6 rfl _,by first|(simp;done)|(rcases J with rfl|⟨_,_,_,_,_,_,_,rfl⟩<;>simp)⟩;rw[cj _ _ g];exact j
 .have q:b≠e:=λz=>hn (by simp[z]);obtain⟨sl,hs⟩:=p.2.2 b o hb;exact⟨λhS=>keep b o q ((p.2.1 b hS).trans hb),sl,keep b _ q hs⟩
def Ka
(f:A.frames=aa (env::cv))(g:s.heap.FunFrames cq (env::cv))(b:env.frame=aa L)(i:QV s.heap e cls od)
(h:∀a T,s.heap.objs.size<=T->Rec a e cls od T->MH (sx (env::cv)) [e] s.heap a->Q () {s with heap:=a}):wpAny M A (leaving env (.ref e)) Q E s:=by obtain⟨j,c⟩:=i;unfold leaving akS;simp only [b];refine ae (ae (cm c rfl rfl ?_));exact UK f g b c rfl (by show 1<6;decide) h
def F5
(y:A.frames=aa (env::cv))(B:s.heap.FunFrames cq (env::cv))(p:env.frame=aa L)(j:Rec s.heap e cls od f)
(h:∀g T,s.heap.objs.size<=T->Rec g e cls od T->MH (sx (env::cv)) [e,f] s.heap g->Q () {s with heap:=g}):wpAny M A (akS (.ref e) env) (λ_ C=>wpAny M A (akR (.ref e) am) Q E C) E s:=by
 obtain⟨J,r,N,G,u,rfl,rfl,hd,v,m,n,a,w⟩:=j;unfold akS;simp only [p];refine ae (cm u hd v ?_);refine ae (cm n a w ?_);refine ae (f6 n a (cU.mp w).1 ?_);have other:∀b,b≠f->(s.heap.update f (dO (·.setIfInBounds 3 cE))).get? b=s.heap.get? b:=λb hb=>cj _ _ (ci hb);have H:∀b o,s.heap.get? b=aa o->(∀r,o.data≠.fields r)->b≠f:=λb o hb c q=>by rw[q,n] at hb;injection hb with hb;subst hb;exact c G a
 refine UK y (B.of_keeps λb o hb c=>⟨o,(other b (H b o hb c)).trans hb,rfl⟩) p ((other e (ci m)).trans u) hd (cU.mp v).1
  λg T hn j I=>h g T ?_ j λb o hb i=>?_
 .have e:=aw.size_after_update s.heap f (dO (·.setIfInBounds 3 cE));rw[e] at hn;exact hn
 .exact I b o ((other b λz=>i (by simp[z])).trans hb) λz=>i (by simp at z;simp[z])
def MJ
(b:A.frames=aa (env::cv))(c:s.heap.FunFrames cq (env::cv))(f:env.frame=aa L)(g:Rec s.heap e cls od i)
(h:∀a T,s.heap.objs.size<=T->Rec a e cls od T->MH (sx (env::cv)) [e,i] s.heap a->Q () {s with heap:=a}):wpAny M A (leaving env (.ref e)) Q E s:=
 ae (F5 b c f g h)
end
def jq.there{P:aP}{w:bt}{H:Hp}{h:aw}{a:ar}{o:HO}(x:jq P w H h a o):∃ob,h.get? a=aa ob:=by
 cases o with
 |lst xs=>obtain⟨_,_,_,_,e⟩:=x;exact⟨_,e⟩
 |tup xs=>obtain⟨_,_,_,o,e,_⟩:=x;exact⟨_,e⟩
 |dK b=>obtain⟨_,_,_,_,o,_,_,e,_⟩:=x;exact⟨_,e⟩
 |dT b=>obtain⟨_,_,_,_,o,_,_,e,_⟩:=x;exact⟨_,e⟩
 |set S n=>obtain⟨o,_,_,_,e,_⟩:=x;exact⟨_,e⟩
 |ins C c fs=>obtain⟨_,_,_,e,_⟩:=x;exact⟨_,e⟩
 |own y=>exact x
 |xd fs=>obtain⟨_,⟨_,_,_,e,_⟩,_⟩:=x;exact⟨_,e⟩
 |rng lo hi=>obtain⟨_,_,_,e⟩:=x;exact⟨_,e⟩
 |qN ob u=>obtain⟨e,_⟩:=x;exact⟨_,e⟩
 |xV g=>exact⟨_,(show h.get? a=aa _ from x)⟩
 |dE i b=>obtain⟨_,_,_,_,o,_,e,_⟩:=x;exact⟨_,e⟩
 |xc C fs=>obtain⟨_,_,e,_⟩:=x;exact⟨_,e⟩
 |met f y=>exact⟨_,(show h.get? a=aa _ from x)⟩
 |ext j=>obtain⟨_,e,_⟩:=x;exact e
theorem sy.none{P:aP}{w:bt}{H:Hp}{h:aw}{a:ar}(x:sy P w H h)(e:h.get? a=am):H a=am:=by
 cases q:H a with
 |none=>rfl
 |some o=>obtain⟨ob,g⟩:=(x a o q).there;rw[e] at g;cases g
section
variable {X:Cx} {s:aq}
def Inv.frN(I:Inv X cf σ H s)(hb:b∈sx X.stack):H b=am:=by
 rcases aN.mp (I.tu b hb) with z|z
 .rw[z];exact I.free
 .obtain⟨_,o,a,_⟩:=I.ok.wD.mem z;exact I.cq.free b o a (I.ok.RX b z) λq=>I.ok.Ll b q z
def Inv.left(I:Inv X cf σ H s)(hex:X.ex=[])(h:∀b∈R,X.hU.heap.get? b=am/\H b=am)(c:MH (sx X.stack) R s.heap h'):
  Un X.fs [] X.hW H X.hU.heap h'/\sy X.prog X.w H h':=by
 have nx:∀b,b∉X.ex:=λb z=>by rw[hex] at z;cases z
 have f:∀b o,X.hU.heap.get? b=aa o->b∉R:=λb o e z=>by rw[(h b z).1] at e;cases e
 refine⟨⟨λb o e n hb _=>?_,λb o e n hb _=>?_,λb o e n _=>I.cq.free b o e n (nx b),λb o e _=>?_,I.cq.tq,I.cq.qF,I.cq.sA⟩,λa o e=>?_⟩
 .refine(c b o (I.cq.keep b o e n hb (nx b)) (f b o e)).1 λz=>?_;rcases aN.mp (I.tu b z) with q|q
  .have:=aH e;rw[q] at this;exact absurd (bw this I.ok.above) (cB _)
  .exact hb q
 .obtain⟨sl,q⟩:=I.cq.slot b o e n hb (nx b);obtain⟨i,g⟩:=(c b _ q (f b o e)).2;exact⟨i,g⟩
 .obtain⟨j,q⟩:=I.cq.there b o e (nx b);obtain⟨i,g⟩:=(c b _ q (f b o e)).2;exact⟨_,g⟩
 .refine(I.iC a o e).tm (λb u hb q=>?_) (λ_ q=>q) λ_ _ q=>q;have hn:H b≠am:=by
   rcases hb with rfl|hb
   .rw[e];exactλz=>by cases z
   .rw[hb];exactλz=>by cases z
  exact(c b u q λz=>hn (h b z).2).1 λz=>hn (I.frN z)
end
def Wi (P:aP)(w:bt):PC:=λcv H s E e a=>∃x C od b T,e=.ref x/\a.os=s.os/\fE a.gens/\Un (sx cv) [] H b s.heap a.heap/\sy P w b a.heap/\
 Rec a.heap x C od T/\s.heap.objs.size<=x/\s.heap.objs.size<=T/\b x=am/\b T=am/\E C od b
section
variable {K:af} {hU:aq}
abbrev BK(P:aP)(w:bt)(K:af)(mg:aB->Option ah)(cq:aw)(N:List aB)(qual:aB)(scope:cS)(f:ar)(cd:ah)(A:bq)(cv:List gq)(s:aq)(H:Hp)(E:XK):Cx:=rK (Wi P w) P w K mg cq N qual scope f cd A cv s H E
def Inv.MK(I:Inv X cf σ H s):X.hU.heap.objs.size<=s.heap.objs.size:=by obtain⟨m,⟨o,es,b,a,_⟩,_⟩:=I.loc;exact c7 (b8 I.ok.above (aH a))
def UO(I:Inv (BK P w K mg cq N qual scope f cd A cv hU hW E) cf n H s)
(g:QV s.heap x C od)(a:hU.heap.objs.size<=x)(c:H x=am)(h:E C od H):(BK P w K mg cq N qual scope f cd A cv hU hW E).xe (.ref x) s:=by refine Ka I.ok.frames I.stack rfl g λm T e i j=>?_;obtain⟨u,iC⟩:=I.left rfl (λb hb=>by cases bp.mp hb;exact⟨cy a,c⟩) j;exact⟨x,C,od,H,T,rfl,I.os,I.bare,u,iC,i,a,bh I.MK e,c,I.iC.fresh e,h⟩
def agj:uU (Wi P w) (BK P w K mg cq N qual scope f cd A cv hU hW E) E:=λcf F H s e J I h=>by
 obtain⟨x,C,od,j,T,rfl,m,n,u,iC,o,c,p,g,q,r⟩:=h;have a:=I.As m u iC n (λb hb=>by cases hb);refine MJ a.ok.frames a.stack rfl o λL v i y z=>?_;obtain⟨B,G⟩:=a.left rfl (λb hb=>by
  rcases aN.mp hb with rfl|hb
  .exact⟨cy (bh I.MK c),g⟩
  .cases bp.mp hb;exact⟨cy (bh I.MK p),q⟩) z
 exact⟨x,C,od,j,v,rfl,a.os,a.bare,B,G,y,bh I.MK c,bh a.MK i,g,a.iC.fresh i,r⟩
end
open PySem.W PySem.Calls Builtin
section
variable {prog:aP} {A:bq} {R:akx->aq->Prop} {h:aw} {d:alN} {t:Nat} {os:alA}
variable {bs:List ah} {sn:List aB} {sub:List ah}
abbrev xw(C t:ar):cn:={cls:=.ref C,data:=.fields #[.ref t,.none,.none,.none,.bool ao,.none]}
abbrev xx(us:List ah):cn:={cls:=.type dy,data:=.seq us.toArray}
def UP(F:akh B newId zT bmB)(T:OwnTail h bmB bm){rest:List ah}
(c:h.get? C=aa (eX nm q C N bs bm nw sn sub ab col dd k0 k1 k2 k3 k5 newId))(call:Looks (model prog w) h (specialOf (.ref C) "__call__") (aa (.builtin kz)))(typ:Looks (model prog w) h (aln (.ref C) (.type "type")) ai)
(hi:Looks (model prog w) h (alg (.ref C) ft) (aa (.ref f)))(hb:∀self,Looks (model prog w) h (bindSpecial (.ref f) self) (.ref f,[self]))(i:rest.length<=az)
(n:codeAny (model prog w) (A.under (.builtin kz ⟨.ref C::rest,[]⟩)) (.call (.ref f) ⟨.ref (h.objs.size+1)::rest,[]⟩) (InitBack (h.objs.size+1) R) ⟨(h.push (xx rest)).push (xw C h.objs.size),g,d,t,os⟩):
  codeAny (model prog w) A (.call (.ref C) ⟨rest,[]⟩) R ⟨h,g,d,t,os⟩:=by
 refine alL ?_;show wpAny _ _ (alz (.ref C) _) _ _ _;refine nd_load c ?_;show wpAny _ _ (alz.viaDunder (.ref C) _) _ _ _;unfold alz.viaDunder;refine ae (call.at ?_);dsimp only;rw[tc_bind];refine ae (av (ae (av ?_)));refine av (a:=Fin.again (.call (.builtin kz) ⟨.ref C::rest,[]⟩)) (And.intro rfl ?_);refine codeAny_call_builtin_at (Code.quiet_builtin _ (by decide+kernel)) entry_typeCall (check_slot tc_kind tc_split typ (tc_args _ _ _) ?_);unfold bU.«type.__call__»;repeat (first|with_reducible refine ajx c ?_|with_reducible refine wpAny_madeBy_exc c ?_|wp_step)
 refine codeAny_call_builtin_code (Code.quiet_builtin _ F.quiet) (wpAny_check_new_subT F T c ?_);refine codeAny_exc_new_subT F T c ?_ i;show wpAny _ _ _ _ _ _;have k:∀b o,h.get? b=aa o->((h.push (xx rest)).push (xw C h.objs.size)).get? b=aa o:=λb o e=>aj _ (aj _ e);have p:((h.push (xx rest)).push (xw C h.objs.size)).get? (h.objs.size+1)=aa (xw C h.objs.size):=by heap_get
 have j:=k _ _ c;have G:Looks (model prog w) ((h.push (xx rest)).push (xw C h.objs.size)) (akY (.ref (h.objs.size+1))) (.ref C):=(Looks.ld p).andThen .now;have m:(bI C::bm).contains (.ref C)=ai:=by simp
 have s1:Looks (model prog w) ((h.push (xx rest)).push (xw C h.objs.size)) (isSubtype (.ref C) (.ref C)) ai:=by intro A Q E s u y;obtain⟨H,g,d,t,os⟩:=s;refine gJ (u _ _ j) ?_;rw[m];exact y
 have I:=hi.keeps k;have b1:=(hb (.ref (h.objs.size+1))).keeps k;unfold aln callSpecial? specialOf;repeat (first|with_reducible refine eJ ?_|lk)
 refine cX n λr J z=>?_;rcases r with e|(v|_|_|_)<;>first|exact z|exact z.elim|skip
 obtain⟨rfl,z⟩:=z;exact av (av z)
end
end L2
namespace L2
open PySem.W
section
variable {prog:aP} {A:bq} {s:aq} {K:af} {x:ar}
def XF (h:aw)(x:ar)(od:Option ar)(a:aB->Option ah):Prop:=match od with
 |none=>∀n,a n=am
 |some b=>b≠x/\h.Ns1 b a
noncomputable def Kb:List ah->Bool
 |[.type a,.type b,.type c,.type d]=>a==pb&&b==ra&&c==iv&&d==ix
 |.ref _::r=>Kb r
 |_=>ao
theorem Kc(self:ah):∀l:List ah,Kb l=ai->refuseLoop self oo l=pure ()
 |[.type a,.type b,.type c,.type d],h=>by simp only [Kb,aU,beq_iff_eq] at h;obtain⟨⟨⟨rfl,rfl⟩,rfl⟩,rfl⟩:=h;exact PySem.F.store_ValueError.passes self
 |.ref C::r,h=>by rw[refuseLoop_ref];exact Kc self r (by simpa only [Kb] using h)
def Ke (K:af)(C:ar):Prop:=(W.clsIn K C).any (λcd=>Kb cd.mro)=ai
def QX(X:K.In s.heap)(I:W.InstAt s.heap x r C od)(m:Ke K C)(b:W.subIn K (.ref C) (.type ix)=aa ai)(hn:aF K (.ref C) name=aa am)
(h:wpAny (model prog w) A.in1 (bU.ObjectAttr.storeInOwnDict (.ref x) (.ref C) (.str name tk) name v ao)
   (λn a=>match n with
    |.done f=>R (.ok f) a
    |.again j=>j.quiet=ai/\codeAny (model prog w) A j R a) (λe a=>R (.error e) a) s):
  codeAny (model prog w) A (.call (.builtin ov) ⟨[.ref x,.str name tk,v],[]⟩) R s:=by
 have F:=PySem.F.store_ValueError;obtain⟨cd,o,c⟩:=W.any_some m;have g:W.Looks (model prog w) s.heap (akY (.ref x)) (.ref C):=by obtain⟨p,hc,_⟩:=I;rw[<-hc];exact(W.Looks.ld p).andThen .now
 have s1:=W.looks_subIn (M:=model prog w) X b;have typ:W.Looks (model prog w) s.heap (aln (.ref x) (.type ix)) ai:=by exact g.andThen s1
 have e1:=F.slot.plain;have e2:=F.entry;have e3:=F.args (.ref x) (.str name tk) v;have e4:=F.kind;have e5:=F.split;refine eW e1 e2 ?_;with_reducible refine check_slot e4 e5 typ e3 ?_
 rw[W.osa_eq,refuse_eq];have q:mroOf (.ref C)=(classData C >>= λcd=>pure cd.mro):=rfl;have i:bU.ObjectAttr.storeTaker? am=pure am:=rfl;with_reducible refine ae ?_
 with_reducible refine ae ?_
 with_reducible refine g.at ?_
 rw[q];with_reducible refine ae ?_
 with_reducible refine ae ?_
 with_reducible refine(W.looks_clsIn X o).at ?_
 with_reducible refine av ?_
 rw[Kc _ _ c];with_reducible refine av ?_
 with_reducible refine ae ?_
 with_reducible refine g.at ?_
 with_reducible refine ae ?_
 with_reducible refine(W.looks_findIn X hn).at ?_
 rw[i];with_reducible refine ae ?_
 with_reducible refine av ?_
 exact h
def Yp(X:K.In s.heap)(q:s.heap.get? x=aa f)(hc:f.cls=.ref C)(hf:f.data=.fields Y)(hm:XF s.heap x f.dict B)
(g:aF K (.ref C) oo=aa (aa (.builtin ov)))(hp:Ke K C)(H:W.subIn K (.ref C) (.type ix)=aa ai)(ht:aF K (.ref C) name=aa am)(hh:W.hasDictIn K C=ai)
(hw:PySem.Within B ns)(uQ:ns.length<az)
(h:∀c a t',c.get? x=aa {f with dict:=aa a}->(f.dict=aa a\/(f.dict=am/\a=s.heap.objs.size))->a≠x->c.Ns1 a (λy=>if y=name then aa v else B y)->(∀b o,b≠x->b≠a->s.heap.get? b=aa o->c.get? b=aa o)->Q () {s with heap:=c,toks:=t'}):
  wpAny (model prog w) A (alr (.ref x) name v) Q E s:=by
 obtain⟨oc,od,odt,IB⟩:=f;cases hc;cases hf;have I:∃G,W.InstAt s.heap x ⟨.ref C,od,.fields Y,IB⟩ C G:=by
  cases od with
  |none=>exact⟨am,q,rfl,rfl,trivial⟩
  |some a=>
   obtain⟨_,o,es,ep,ho,_⟩:=hm;exact⟨aa o,q,rfl,rfl,ho⟩
 obtain⟨G,I⟩:=I;refine W.set_plain X I g (QX (s:={s with toks:=s.toks+1}) X I hp H ht ?_);obtain⟨cd,xW,J⟩:=W.any_some hh;refine ae (av (ae (ae (akv q ?_))));dsimp only;refine ae (W.Looks.here (s:={s with toks:=s.toks+1}) (W.looks_clsIn X xW) ?_);rw[J];cases od with
 |none=>
  have hm:∀n,B n=am:=hm;have r:(s.heap.push {cls:=.type fe,data:=.dict #[]}).get? x=aa ⟨.ref C,am,.fields Y,IB⟩:=aj _ q;have i:x≠s.heap.objs.size:=bg (aH q);refine ae (wpAny_alloc ?_);refine ae (wpAny_update r ?_);refine av ?_;have L:((s.heap.push {cls:=.type fe,data:=.dict #[]}).update x λo=>{cls:=o.cls,dict:=aa s.heap.objs.size,data:=o.data,slots:=o.slots}).get? s.heap.objs.size
    =aa {cls:=.type fe,data:=.dict #[]}:=
   (dU _ _ _ _ i.symm).trans (aw.get?_push_at rfl rfl)
  have M:((s.heap.push {cls:=.type fe,data:=.dict #[]}).update x λo=>{cls:=o.cls,dict:=aa s.heap.objs.size,data:=o.data,slots:=o.slots}).Ns s.heap.objs.size (λ_=>am):=
   ⟨_,#[],_,L,rfl,λe he=>absurd he (by simp),λ_=>rfl⟩
  refine ae (av (ae (akV (aw.Ns1.of_empty M) λc u g=>?_)));obtain⟨oD,N,O,j,m,T⟩:=u.count (Within.cons name v Within.nil);refine ae (akl j (by rw[m];exact akm (bh T (by rw[aQ,bE,bD];lia))) ?_);refine av (h c s.heap.objs.size _ ?_ (.inr ⟨rfl,rfl⟩) i.symm ?_ λb o z p hb=>?_)
  .exact(g.2 x i).trans (cJ _ r rfl)
  .obtain⟨G,es,ep,e1,e2,e3,eu,e4⟩:=u;exact⟨G,es,ep,e1,e2,e3,eu,λy=>by rw[e4 y];by_cases hy:y=name<;>simp[hy,hm]⟩
  .exact(g.2 b p).trans ((dU _ _ _ _ z).trans (aj _ hb))
 |some a=>
  obtain⟨sG,U⟩:=(show a≠x/\s.heap.Ns1 a B from hm);show wpAny _ _ (pure (aa a)) _ _ _;refine av ?_;refine ae (av (ae (akV (s:={s with toks:=s.toks+1}) U λc u g=>?_)));obtain⟨oD,N,O,j,m,T⟩:=u.count (Within.cons name v hw);refine ae (akl j (by rw[m];exact akm (bh T (by rw[aQ];lia))) ?_);refine av (h c a _ ((g.2 x sG.symm).trans q) (.inl rfl) sG u λb o z p hb=>(g.2 b p).trans hb)
end
section
variable {prog:aP} {A:bq} {h:aw} {d:alN} {t:Nat} {os:alA}
variable {x:ar} {bs:List ah} {sub:List ah} {k1:Option ah}
def UQ(F:akh B newId zT bmB)(T:OwnTail h bmB bm)
(y:h.get? C=aa (eX nm q C N bs bm nw sn sub ab col dd k0 k1 k2 k3 k5 newId))(p:h.get? x=aa c)(f:c.cls=.ref C)(hd:c.data=.fields i)(L:1<i.size)
(z:∀j a,j.get? x=aa {c with data:=.fields (i.setIfInBounds 0 a)}->(∀b o,b≠x->h.get? b=aa o->j.get? b=aa o)->Q .none ⟨j,g,d,t,os⟩):
  wpAny (model prog w) A (call (.builtin zT) [.ref x,u]) Q E ⟨h,g,d,t,os⟩:=by
 obtain⟨oc,od,G,IB⟩:=c;cases f;cases hd;refine eJ (eW F.init.plain F.initEntry (wpAny_check_init_subT F T y p rfl ?_))
 wp_walk
 obtain⟨m,H⟩:∃a,i[0]?=aa a:=⟨_,Array.getElem?_eq_getElem (by lia)⟩;rw[H];refine av ?_;have r:=aj (h:=h) {cls:=.type dy,data:=.seq [u].toArray} p;refine ae (f6 r rfl (by lia) ?_);have I:∀n:Unit->aq->Prop,n () ⟨(h.push {cls:=.type dy,data:=.seq [u].toArray}).update x (dO (·.setIfInBounds 0 (.ref h.objs.size))),g,d,t,os⟩->∀v,wpAny (model prog w) A.in1 (match m with|bI J=>letGo [m]|x=>pure ()) n v _:=λn q v=>by
  cases m<;>first|exact av q|skip
  wp_walk
  exact q
 refine I _ (av ?_) _;refine z _ (.ref h.objs.size) ?_ λb o hb e=>?_
 .exact cJ _ r (eK (c6 rfl _))
 .rw[cj _ _ (ci hb)];exact aj _ e
end
section
variable {X:Cx}
def agm (te:TE):TE:=λa H Q=>te a H λx H1=>match x with
 |.str y=>y.length<=az/\Q (.str y) H1
 |.int i=>i.natAbs.log2<1920/\Q (.str (toString i)) H1
 |_=>False
def Inv.tk(I:Inv X cf σ H s)(a:Nat):Inv X cf σ H {s with toks:=a}:=⟨I.ok,I.os,I.bare,I.cq,I.loc,I.cell,I.free,I.mo,I.pin,I.iC,I.len⟩
set_option tactic.hygienic true in
def ac3(h:PE X value te):PE X (.FormattedValue value (-1) am pos) (agm te):=by
 intro cf s e H Q I c;refine FormattedValue_plain (jB (h cf s e H _ I c) λv s1 f=>?_);obtain⟨x,H1,a,b,q⟩:=f;cases x<;>first|exact q.elim|skip
 .rename_i i;obtain⟨t,rfl⟩:=b;refine formatField_int_small q.1 ?_;exact⟨.str _,H1,a.tk _,⟨_,rfl⟩,q.2⟩
 .rename_i y;obtain⟨t,rfl⟩:=b;exact formatField_str (λg tk=>⟨.str y,H1,a.tk _,⟨_,rfl⟩,q.2⟩) q.1
abbrev TJ:=aB->St->Hp->VK->Prop
def PJ (X:Cx)(es:List bv)(t:TJ):Prop:=∀(acc:aB) (cf:List (ar×cn)) (s:aq) (a:St) (H:Hp) (Q:VK),Inv X cf a H s->t acc a H Q->wpAny (model X.prog X.w) X.A (joinParts acc (evalEach es X.env)) (EP X cf a Q) X.xe s
def aaw:TJ:=λacc _ H Q=>acc.length<=az/\Q (.str acc) H
def UR (te:TE)(a:TJ):TJ:=λacc b H Q=>te b H λx H1=>∃y,x=.str y/\(acc++y).length<=az/\a (acc++y) b H1 Q
def ac4:PJ X [] aaw:=λacc cf s a H Q I q=>joinParts_nil ⟨.str acc,H,I.tk _,⟨_,rfl⟩,q.2⟩ q.1
def OJ(h:PE X e te)(a:PJ X es b):PJ X (e::es) (UR te b):=by intro acc cf s m H Q I c;refine joinParts_cons (jB (h cf s m H _ I c) λv s1 f=>?_);obtain⟨x,H1,g,i,y,e1,j,q⟩:=f;subst e1;obtain⟨t,rfl⟩:=i;exact⟨j,a _ cf s1 m H1 Q g q⟩
def Yq(h:PJ X (e::e2::es) a):PE X (.JoinedStr (e::e2::es) pos) (a aB.empty):=λcf s b H Q I q=>JoinedStr_many (h _ cf s b H Q I q)
end
noncomputable def rX(x C:ar)(od:Option ar):HO:=.ext λh=>QV h x (.ref C) od
noncomputable def RM(b:ar)(fs:List (aB×V)):HO:=.ext λh=>∃a,h.Ns1 b a/\(∀f,rH (fs.lookup f) (a f))/\PySem.Within a (fs.map (·.1))
structure Kf(K:af)(C:ar):Prop where
 hd:W.hasDictIn K C=ai
 po:Ke K C
 so:W.subIn K (.ref C) (.type ix)=aa ai
 sa:aF K (.ref C) oo=aa (aa (.builtin ov))
def MN(r:QV h x (.ref C) od):jq P w H h x (rX x C od):=by obtain⟨a,e⟩:=r;refine⟨⟨a,e⟩,⟨_,e⟩,λc f ⟨b,q⟩ k=>⟨b,k _ q⟩⟩
def agn(n:h.Ns1 b a)(r:∀f,rH (fs.lookup f) (a f))(wi:PySem.Within a (fs.map (·.1))):jq P w H h b (RM b fs):=by obtain⟨o,es,j,e,q⟩:=id n;exact⟨⟨a,n,r,wi⟩,⟨_,e⟩,λm p ⟨c,g,i⟩ k=>⟨c,g.at k,i⟩⟩
def XD (H:Hp)(x:ar)(od:Option ar)(fs:List (aB×V)):Prop:=match od with
 |none=>fs=[]
 |some a=>a≠x/\H a=aa (RM a fs)
section
variable {X:Cx} {s:aq} {x:ar}
def Yr(I:Inv X cf F H s)(ex:H x=aa (rX x C od))(hd:XD H x od fs)(c:Kf X.K C)(n:jZ X.K C f)(hl:fs.length<1000)(O:RelV y u)
(h:∀J a,(od=aa a\/(od=am/\H a=am))->a≠x->Inv X cf F (upd (upd H a (RM a (pB f y fs))) x (rX x C (aa a))) J->Q () J):wpAny (model X.prog X.w) A (alr (.ref x) f u) Q E s:=by
 obtain⟨⟨T,Y⟩,_,_⟩:=(I.iC x _ ex);obtain⟨m,xf,rl,wi⟩:∃m,XF s.heap x od m/\(∀g,rH (fs.lookup g) (m g))/\PySem.Within m (fs.map (·.1)):=by
  cases od with
  |none=>
   cases(show fs=[] from hd);exact⟨λ_=>am,λ_=>rfl,λ_=>trivial,λy hy=>absurd rfl hy⟩
  |some a=>
   obtain⟨ne,Wk⟩:=(hd);obtain⟨⟨m,nn,r,wi⟩,_,_⟩:=(I.iC a _ Wk);exact⟨m,⟨ne,nn⟩,r,wi⟩
 refine Yp I.qG Y rfl rfl xf c.sa c.po c.so n c.hd wi (by rw[ak,bD];lia) λL a t' M i ne hn kp=>?_;have i:od=aa a\/(od=am/\a=s.heap.objs.size):=i;have G:od=aa a\/(od=am/\H a=am):=by
  rcases i with e|⟨e,rfl⟩
  .exact .inl e
  .exact .inr ⟨e,I.iC.fresh (aC _)⟩
 have j:∀b o,s.heap.get? b=aa o->H b=am->b≠a:=λb o e q z=>by
  rcases i with e2|⟨_,rfl⟩
  .rw[e2] at hd;have:=(hd).2;rw[<-z,q] at this;cases this
  .have:=aH e;rw[z] at this;exact absurd this (cB _)
 have p:∀b u,H b=aa u->(∀φ,u≠.ext φ)->b≠x/\b≠a:=λb u e N=>by
  refine⟨λz=>?_,λz=>?_⟩
  .rw[z,ex] at e;exact N _ (bA e).symm
  .subst z;rcases G with e2|⟨_,e2⟩
   .rw[e2] at hd;have:=(hd).2;rw[e] at this;exact N _ (bA this)
   .rw[e] at e2;cases e2
 have nx:∀b,H b=am->b≠x:=λb e z=>by rw[z,ex] at e;cases e
 have U:Un (sx X.stack) [] H (upd (upd H a (RM a (pB f y fs))) x (rX x C (aa a))) s.heap L:=by
  refine⟨λb o e q _ _=>kp b o (nx b q) (j b o e q) e,λb o e q _ _=>⟨o.slots,kp b o (nx b q) (j b o e q) e⟩,λb o e q _=>?_,λb o e _=>?_,λb xs q=>?_,λb o u q=>?_,λb ps q=>⟨#[],?_⟩⟩
  .rw[gR (nx b q),gR (j b o e q)];exact q
  .by_cases z:b=x
   .subst z;exact⟨_,M⟩
   .by_cases B:b=a
    .subst B;obtain⟨o',_,_,e',_⟩:=hn;exact⟨_,e'⟩
    .exact⟨o,kp b o z B e⟩
  .have:=p b _ q λ_ z=>by cases z
   rw[gR this.1,gR this.2];exact q
  .have:=p b _ q λ_ z=>by cases z
   rw[gR this.1,gR this.2];exact q
  .have:=p b _ q λ_ z=>by cases z
   rw[gR this.1,gR this.2,q];simp
 have iC:sy X.prog X.w (upd (upd H a (RM a (pB f y fs))) x (rX x C (aa a))) L:=λb u q=>by
  by_cases z:b=x
  .subst z;rw[gZ] at q;cases q;exact MN ⟨T,M⟩
  .rw[gR z] at q;by_cases B:b=a
   .subst B;rw[gZ] at q;cases q;refine agn hn (λg=>?_) λg hg=>?_
    .rw[uS];by_cases q:g=f
     .rw[if_pos q,if_pos q];exact O
     .rw[if_neg q,if_neg q];exact rl g
    .by_cases q:g=f
     .rw[q];exact(sB f y fs).1
     .refine(sB f y fs).2 g (wi g λz=>hg ?_);rw[if_neg q];exact z
   .rw[gR B] at q;refine(I.iC b u q).tm (λc v hc r=>?_) (λc r=>?_) λc xs r=>?_
    .rcases hc with rfl|hc
     .exact kp c v z B r
     .have:=p c _ hc λ_ z=>by cases z
      exact kp c v this.1 this.2 r
    .have:=p c _ r λ_ z=>by cases z
     rw[gR this.1,gR this.2];exact r
    .have:=p c _ r λ_ z=>by cases z
     rw[gR this.1,gR this.2];exact r
 exact h _ a G ne (I.As rfl U iC I.bare λb hb=>by cases hb)
end
structure Kg(K:af)(B:ar):Prop where
 gs:W.specialIn K (.ref B) pA=aa (aa (.builtin "type.__getattribute__"))
 rd:W.readsIn K B (.type "type")=ai
 fc:W.findCls K (.ref B) (.type "type") ft=aa (.val (.builtin rb))
structure Kh(K:af)(C:ar):Prop where
 obj:∃nm q N bs bm nw sn sub ab col dd k0 k1 k2 k3 k5,K.lookup C=aa (eX nm q C N bs bm nw sn sub ab col dd k0 k1 k2 k3 k5 nu)/\∀h,K.In h->OwnTail h [.type pb,.type ra,.type iv,.type ix] bm
section
variable {X:Cx} {o:bv} {apos:dA}
def US (K:af)(B:ar)(to:TE)(ta:TA):TE:=λe H Q=>to e H λb a=>b=.ref B/\ta e a λc H1=>∃x C od m,c=[.ref x,m]/\H1 x=aa (rX x C od)/\Kh K C/\Q .non H1
def UT(FB:akh pb nu rb [.type pb,.type ra,.type iv,.type ix])
(I:Inv X cf B H s)(ex:H x=aa (rX x C od))(c:Kh X.K C)(h:∀m,Inv X cf B H m->Q .none m):wpAny (model X.prog X.w) A (call (.builtin rb) [.ref x,u]) Q E s:=by
 obtain⟨⟨G,p⟩,_,_⟩:=(I.iC x _ ex);obtain⟨nm,q,N,bs,J,nw,sn,sub,L,col,dd,M,O,U,Y,k5,f,T⟩:=c.obj;have f:=I.qG _ _ f;have T:=T s.heap I.qG;have nx:∀b,H b=am->b≠x:=λb e z=>by rw[z,ex] at e;cases e
 have i:=I;obtain⟨hh,g,d,t,os⟩:=s;refine UQ FB T f p rfl rfl (by show 1<6;decide) λy a n kp=>h _ ?_;have j:QV y x (.ref C) od:=⟨a,n⟩;refine i.As (ch:=[]) rfl ⟨λb o e q _ _=>kp b o (nx b q) e,λb o e q _ _=>⟨o.slots,kp b o (nx b q) e⟩,λb o e q _=>q,λb o e _=>?_,λb xs q=>q,λb o u q=>q,λb ps q=>⟨#[],by rw[q];simp⟩⟩ (λb u q=>?_) i.bare λb hb=>by cases hb
 .by_cases z:b=x
  .subst z;exact⟨_,n⟩
  .exact⟨o,kp b o z e⟩
 .by_cases z:b=x
  .subst z;rw[ex] at q;cases q;exact MN j
  .refine(i.iC b u q).tm (λc v hc r=>kp c v ?_ r) (λc r=>r) λc xs r=>r;rcases hc with rfl|hc
   .exact z
   .exactλz=>by rw[z,ex] at hc;cases hc
def UU(FB:akh pb nu rb [.type pb,.type ra,.type iv,.type ix])(g:Kg X.K B)(p:PE X o to)(ha:PA X [e,e2] ta)
(ht:eval (.Call (.Attribute o ft apos) [e,e2] [] pos) X.env=(do
   let j<-eval o X.env
   ajY apos.atName
   let(f,first)<-holding [j] (akk j ft pl)
   alR pos f first (cO pos (aV [e,e2] X.env)) (ajE pos (eF [] X.env))):=by rfl)
(v:aV [e,e2] X.env=(ao,eval e X.env)::aV [e2] X.env:=by rfl)(w:(cO pos (aV [e2] X.env)).any (·.1)=ao:=by rfl):
  PE X (.Call (.Attribute o ft apos) [e,e2] [] pos) (US X.K B to ta):=by
 intro cf s F H Q I h;refine W.methodCall_KW (jB (p cf s F H _ I h) λu s1 zq=>?_) ht;obtain⟨b,y,a,z,A,q⟩:=zq;subst A;obtain rfl:u=bI B:=z;refine W.method_cls a.qG g.gs (W.cls_value a.qG g.rd g.fc rfl ?_);have a:=a.tk (s1.toks+1);have n:=ha pos cf _ F y _ a q;rw[v] at n |-;refine fB (by show(ao||(cO pos _).any (·.1))=ao;rw[w]<;>rfl) (Calls.evalArgs_plain ?_);refine jB n λus s2 E=>?_;obtain⟨T,G,J,i,x,C,od,m,L,ex,c,M⟩:=E;subst L;cases i with
 |cons r N=>
  cases N with
  |cons U i=>
   cases i;cases r;exact UT FB J ex c λY O=>⟨.non,G,O,rfl,M⟩
end
noncomputable def Wl(x:ar)(H:Hp):Hp:=λb=>if b=x then am else H b
def yM:Wl x H x=am:=by unfold Wl;rw[if_pos rfl]
def Hl(h:b≠x):Wl x H b=H b:=by unfold Wl;rw[if_neg h]
section
variable {s:aq}
def Inv.drop(I:Inv X cf σ H s)(f:H x=aa (.ext g)):Inv X cf σ (Wl x H) s:=by
 have hn:∀b,H b=am->Wl x H b=am:=λb e=>by
  by_cases z:b=x
  .rw[z];exact yM
  .rw[Hl z];exact e
 have a:∀b u,H b=aa u->(∀g,u≠.ext g)->Wl x H b=aa u:=λb u e h=>by rw[Hl λz=>by rw[z,f] at e;exact h _ (bA e).symm];exact e
 refine⟨I.ok,I.os,I.bare,⟨I.cq.keep,I.cq.slot,λb o q n f=>hn b (I.cq.free b o q n f),I.cq.there,λb xs q=>a b _ (I.cq.tq b xs q) (λ_ z=>by cases z),λb o u q=>a b _ (I.cq.qF b o u q) (λ_ z=>by cases z),λb i q=>?_⟩,I.loc,I.cell,hn _ I.free,λx c e=>hn _ (I.mo x c e),λp j=>?_,λb u q=>?_,I.len⟩
 .obtain⟨m,e⟩:=I.cq.sA b i q;exact⟨m,a b _ e λ_ z=>by cases z⟩
 .obtain⟨w,y,A⟩:=I.pin p j;exact⟨w,hn _ y,A⟩
 .have z:b≠x:=λz=>by rw[z,yM] at q;cases q
  rw[Hl z] at q;exact(I.iC b u q).tm (λc v _ r=>r) (λc r=>a c _ r (λ_ z=>by cases z)) (λc xs r=>a c _ r (λ_ z=>by cases z))
end
section
variable {A:bq} {s:aq}
variable {bs bm:List ah} {sub:List ah}
def QY(f:bm.contains (.type iv)=ai)(g:A.handled=am)
(h:wpAny M A x (λv a=>∃e od,v=.ref e/\a.heap.get? C=aa (eX nm q C N bs bm nw sn sub ab col dd k0 k1 k2 k3 k5 newId)/\QV a.heap e (.ref C) od/\E (.ref e) a) E s):
  wpAny M A (raiseStmt env (aa x) am) Q E s:=by
 have b:(bI C::bm).contains (.type iv)=ai:=by rw[List.contains_cons,f,Bool.or_true]
 refine ae (cc h (λv a i=>?_) λ_ _ x=>x);obtain⟨e,od,rfl,c,⟨n,j⟩,m⟩:=i;repeat (first|with_reducible refine ajx j ?_|with_reducible refine ajx c ?_|(with_reducible refine gJ c ?_;rw[b])|wp_step)
 exact wpAny_raiseNew_none g m
end
structure XMk(K:af)(C f:ar):Prop where
 x:Kh K C
 call:W.specialIn K (.ref C) "__call__"=aa (aa (.builtin kz))
 typ:W.instIn K (.ref C) (.type "type")=aa ai
 init:aF K (.ref C) ft=aa (aa (.ref f))
 fn:W.isFn K (.ref f)=ai
 kp:dr K (.ref C)=ai
section
variable {X:Cx} {k:Nat} {fd:cI} {ps:List aB}
def Ys(M:XMk X.K C f)(F:jo X.prog X.w X.K X.mg X.cq CX k f fd ps sp)(G:iV (k+1) X.A)(hb:Binds X.K fd ps [])
(J:uU CX X E)(I:Inv X cf P H s)(r:Vals n us)(L:us.length<=az)
(h:∀x,H x=am->s.heap.objs.size<=x->sp (.ref x::n) (upd H x (rX x C am)) (λv m=>v=.non/\Q (.ref x) m) E):
  wpAny (model X.prog X.w) X.A (call (.ref C) us) (EP X cf P Q) X.xe s:=by
 have p:=h _ (I.iC.fresh (cG _)) (cG _);have y:∀b u,s.heap.get? b=aa u->(s.heap.push (xx us)).get? b=aa u:=λb u e=>aj _ e;have e2:=by
  have:=aJ (s.heap.push (xx us)) (o:=xw C s.heap.objs.size) rfl
  rwa [bZ] at this
 have j:Inv X cf P (upd H (s.heap.objs.size+1) _) {s with heap:=(s.heap.push _).push _}:=
  (I.kept (t':=s.toks) y).laid (λb u e=>aj _ e) (gv (bZ _ _)) (MN ⟨_,e2⟩)
 have z:Vals (V.ref (s.heap.objs.size+1)::n) _:=.cons rfl r;have O:=by have e:=z.length;rw[F.len _ _ _ _ p] at e;exact e.symm
 obtain⟨nm,q,N,bs,bm,nw,sn,sub,ab,col,dd,k0,y,k2,k3,k5,U,T⟩:=M.x.obj;have Y:(bI (s.heap.objs.size+1)::us++[]).length=ps.length:=by rw[aR];exact O
 have B:=hb _ _ j.qG Y;rw[aR] at B;have key:=F.run _ X.stack _ _ _ _ _ _ E (G.make C us []) (j.Sl.make C us []) B z p;have c:=I.qG;have jG:∀(r:akx) (a:aq),CR CX X.stack X.prog X.w _ _ (λv m=>v=.non/\Q _ m) E r a->
   W.InitBack _ (λr a=>match r with|.ok (.ret v)=>EP X cf P Q v a|.ok _=>False|.error e=>X.xe e a) r a:=λr a i=>by
  cases r with
  |error e=>exact J cf P _ _ e a j i
  |ok fl=>
   cases fl with
   |ret u=>
    obtain⟨v,H',I3,rv,ev,q3⟩:=j.after i;subst ev;exact⟨rv,⟨V.ref (s.heap.objs.size+1),H',I3,rfl,q3⟩⟩
   |next=>exact b9 i
   |brk=>exact b9 i
   |cont=>exact b9 i
 obtain⟨hh,g,d,t,os⟩:=s;refine eJ ?_;refine UP PySem.F.excBase_ValueError (T hh c) (c _ _ U) (W.looks_specialIn c M.call) (W.looks_instIn c M.typ) (W.looks_findIn c M.init) (λself=>W.bind_fn c self (beq_iff_eq.mp M.fn)) L ?_;exact cX key jG
end
section
variable {K:af} {hU:aq}
variable {k:Nat} {fd:cI} {x:aB} {t:TA}
def ac5 (C:ar)(sp:Sp)(E:XK)(t:TA):TS:=λ_ c H=>t c H λa H1=>a.length<=az/\∀x,H1 x=am->sp (.ref x::a) (upd H1 x (rX x C am)) (λv b=>v=.non/\∃od,b x=aa (rX x C od)/\E (.ref C) od (Wl x b)) E0
def UV(M:XMk K C f)(F:jo P w K mg cq pZ k f fd ps sp)(mono:∀b H (Q i:VK),(∀v H,Q v H->i v H)->sp b H Q E0->sp b H i E0)
(L:iV (k+1) (BK P w K mg cq N qual scope fn cd A cv hU hW E).A)(hb:Binds K fd ps [])(O:Gl (BK P w K mg cq N qual scope fn cd A cv hU hW E) x)(hm:mg x=aa (.ref C))
(ha:PA (BK P w K mg cq N qual scope fn cd A cv hU hW E) (e::es) t)(U:(x==(dV:aB))=ao:=by decide)
(Y:aV (e::es) (BK P w K mg cq N qual scope fn cd A cv hU hW E).env=(ao,eval e (BK P w K mg cq N qual scope fn cd A cv hU hW E).env)::aV es (BK P w K mg cq N qual scope fn cd A cv hU hW E).env:=by rfl)
(sC:(cO i6 (aV es (BK P w K mg cq N qual scope fn cd A cv hU hW E).env)).any (·.1)=ao:=by rfl):
  PS (BK P w K mg cq N qual scope fn cd A cv hU hW E) (.Raise (aa (.Call (.Name x p) (e::es) [] i6)) am pos) (ac5 C sp E t):=by
 intro cf s S H D I h;obtain⟨nm,q,N',bs,j,nw,sn,sub,m,col,dd,n,o,u,z,B,hC,T⟩:=M.x.obj;have pY:=(T cq I.ok.mod.RW).hasType PySem.F.excBase_ValueError.hasBase;have hh:=I.ok.hd rfl;refine ae (fw (QY (C:=C) (nm:=nm) (q:=q) (N:=N') (bs:=bs) (bm:=j) (nw:=nw) (sn:=sn) (sub:=sub) (ab:=m) (col:=col) (dd:=dd) (k0:=n) (k1:=o) (k2:=u) (k3:=z) (k5:=B) (newId:=nu) pY hh ?_));refine ae (jB (Q:=EP (BK P w K mg cq N qual scope fn cd A cv hU hW E) cf S λv a=>∃y od,v=.ref y/\hU.heap.objs.size<=y/\a y=aa (rX y C od)/\E (.ref C) od (Wl y a)) ?_ λv s3 h3=>ae (fw (av ?_)))
 .refine c8 (tz I O hm ?_ U);refine W.callWith_K I.ok.mod.RW M.kp (jB (ha i6 cf s S H _ I h) λus s1 ⟨b,H1,c,r,hz,q⟩=>⟨c.qG,?_⟩) Y sC;refine Ys M F L hb IM c r (by rw[bL,<-r.length];exact hz) λy hy hn=>mono _ _ _ _ (λv a zq=>by obtain⟨e1,od,e2,e3⟩:=zq;exact ⟨e1,y,od,rfl,bh c.MK hn,e2,e3⟩) (q y hy)
 .obtain⟨v',a,g,rv,y,od,rfl,hn,G,hE⟩:=h3;cases rv;obtain⟨J,_,_⟩:=(g.iC y _ G);exact⟨y,od,rfl,g.qG _ _ hC,J,UO (g.drop G) J hn yM hE⟩
end
section
variable {X:Cx} {pos:dA}
def aax (K:af)(ta tv:TE)(f:aB):TS:=λD e H=>tv e H λy H1=>ta e H1 λx c=>∃a C od fs,x=.ref a/\c a=aa (rX a C od)/\XD c a od fs/\Kf K C/\jZ K C f/\fs.length<1000/\
 ∀b,(od=aa b\/(od=am/\c b=am))->b≠a->D.nx e (upd (upd c b (RM b (pB f y fs))) a (rX a C (aa b)))
def Yu(ha:PE X o ta)(b:PE X value tv)(e:c5 value (aa (.Attribute o f rJ)) pos.line X.env=pure ao):PS X (.Assign [.Attribute o f rJ] value pos) (aax X.K ta tv f):=by intro cf s E H D I h;refine aki (jB (b cf s E H _ I h) λu s1 ⟨y,H1,g,i,q⟩=>jB (ha cf s1 E H1 _ g q) λj s2 zq=>?_) e;obtain⟨x,B,m,p,a,C,od,fs,ex,r,hd,c,n,l,v⟩:=zq;subst ex;obtain rfl:j=bI a:=p;exact Yr m r hd c n l i λs3 w z ne A=>⟨E,_,A,v w z ne⟩
end
structure Far(X:Cx)(cf:List (ar×cn))(b:ar):Prop where
 s0:X.hU.heap.objs.size<=b
 lo:b≠X.env.locals
 ce:∀x c,X.env.cells.lookup x=aa c->c≠b
 pi:∀p∈X.pn++cf,p.1≠b
section
variable {X:Cx} {σ:St} {s:aq} {h':aw}
def Inv.UW(I:Inv X cf σ H s)(hb:s.heap.objs.size<=b):Far X cf b:=by
 refine⟨bh I.MK hb,λz=>?_,λx c e z=>?_,λp f z=>?_⟩
 .obtain⟨m,⟨o,es,g,a,_⟩,_⟩:=I.loc;have:=aH a;rw[<-z] at this;exact absurd (bw this hb) (cB _)
 .obtain⟨v,o,a,_⟩:=I.cell x c e;have:=aH a;rw[z] at this;exact absurd (bw this hb) (cB _)
 .have:=aH (I.pin p f).1;rw[z] at this;exact absurd (bw this hb) (cB _)
def Inv.aay(I:Inv X cf σ H s)(f:∀b∈R,Far X cf b/\H b=am)(g:MH (sx X.stack) R s.heap h'):Inv X cf σ H {s with heap:=h',toks:=t'}:=by
 refine I.As rfl ⟨λb o e n hb c=>(g b o e c).1 hb,λb o e n hb c=>(g b o e c).2,λb o e n c=>n,λb o e c=>?_,λb xs q=>q,λb o u q=>q,λb h q=>⟨#[],by rw[q];simp⟩⟩ (λa o e=>?_) I.bare λb hb=>⟨.inr (f b hb).1.s0,(f b hb).1.lo,(f b hb).1.ce,(f b hb).1.pi⟩
 .obtain⟨sl,q⟩:=(g b o e c).2;exact⟨_,q⟩
 .refine(I.iC a o e).tm (λb u hb q=>?_) (λ_ q=>q) λ_ _ q=>q;have hn:H b≠am:=by
   rcases hb with rfl|hb
   .rw[e];exactλz=>by cases z
   .rw[hb];exactλz=>by cases z
  exact(g b u q λz=>hn (f b z).2).1 λz=>hn (I.frN z)
def Inv.aaz(I:Inv X cf σ H s)(g:H x=am)(UW:Far X cf x)(ok:jq X.prog X.w (upd H x o) s.heap x o):Inv X cf σ (upd H x o) s:=by
 have a:∀b u,H b=aa u->upd H x o b=aa u:=λb u e=>by rw[gR λz=>by rw[z,g] at e;cases e];exact e
 have h:=cy UW.s0;refine⟨I.ok,I.os,I.bare,⟨I.cq.keep,I.cq.slot,λb ob q n i=>?_,I.cq.there,λb xs q=>a b _ (I.cq.tq b xs q),λb ob u q=>a b _ (I.cq.qF b ob u q),λb j q=>?_⟩,I.loc,I.cell,?_,λy c e=>?_,λp f=>?_,λb u q=>?_,I.len⟩
 .rw[gR λz=>by rw[z,h] at q;cases q];exact I.cq.free b ob q n i
 .obtain⟨m,e⟩:=I.cq.sA b j q;exact⟨m,a b _ e⟩
 .rw[gR (ci UW.lo)];exact I.free
 .rw[gR (UW.ce y c e)];exact I.mo y c e
 .obtain⟨A,B,C⟩:=I.pin p f;exact⟨A,by rw[gR (UW.pi p f)];exact B,C⟩
 .by_cases z:b=x
  .subst z;rw[gZ] at q;cases q;exact ok
  .rw[gR z] at q;exact(I.iC b u q).tm (λc v _ r=>r) (λc r=>a c _ r) (λc xs r=>a c _ r)
abbrev Cx.LW(X:Cx)(e:ah):Cx:={X with A:=X.A.mark (aa e),calm:=ao,xe:=λ_ _=>False}
theorem Inv.LW(I:Inv X cf σ H s)(e:ah):Inv (X.LW e) cf σ H s:=
 ⟨⟨I.ok.mod,I.ok.kind,I.ok.glob,I.ok.blt,I.ok.above,I.ok.inj,I.ok.has,I.ok.cab,(λz=>by cases z),I.ok.frames,I.ok.stk,I.ok.exf,I.ok.bs,I.ok.Po,I.ok.Ir,I.ok.Ll,I.ok.wD,I.ok.RX⟩,I.os,I.bare,I.cq,I.loc,I.cell,I.free,I.mo,I.pin,I.iC,I.len⟩
def Inv.OL(ok:X.Ok)(I:Inv (X.LW e) cf σ H s):Inv X cf σ H s:=⟨ok,I.os,I.bare,I.cq,I.loc,I.cell,I.free,I.mo,I.pin,I.iC,I.len⟩
def yN(I:Inv X cf σ H s)(G:X.N.Nodup)(hi:X.N[i]?=aa n)(J:X.env.kindOf n=aa .local)
(h:∀r,Inv X cf (σ.set i am) H r->Q () r):wpAny (model X.prog X.w) A (do bindName X.env n .none;unbindBehindTheSuite X.env n pos) Q E s:=by
 obtain⟨m,hn,L⟩:=id I.loc;have RY:=I.RY;refine wpAny_nameGoes_keeps J hn (by rw[I.ok.kind];rfl) λh' v M a=>h _ ?_;have hb:∀b o,X.hU.heap.get? b=aa o->h'.get? b=s.heap.get? b:=λb o e=>a.2 b (bg (bw (aH e) I.ok.above));refine⟨I.ok,I.os,I.bare,⟨λb o e n g f=>(hb b o e).trans (I.cq.keep b o e n g f),λb o e n g f=>?_,I.cq.free,λb o e f=>?_,I.cq.tq,I.cq.qF,I.cq.sA⟩,⟨_,M,λj y O e1 e2 e3=>?_⟩,λy c e=>?_,I.free,I.mo,λp T=>?_,λb u e=>?_,by simpa using I.len⟩
 .obtain⟨sl,e1⟩:=I.cq.slot b o e n g f;exact⟨sl,(hb b o e).trans e1⟩
 .obtain⟨U,e1⟩:=I.cq.there b o e f;exact⟨U,(hb b o e).trans e1⟩
 .have B:j≠i:=λz=>by subst z;rw[List.getElem?_set] at e2;rw[if_pos rfl] at e2;split at e2<;>cases e2
  rw[cb (ci B)] at e2;obtain⟨Y,r',q⟩:=L j y O e1 e2 e3;refine⟨Y,r',?_⟩;rcases q with⟨k,e⟩|⟨k,c,e,z⟩
  .refine .inl ⟨k,?_⟩;have:y≠n:=λe=>B (B7 G e1 (e▸hi));simp[this,e]
  .exact .inr ⟨k,c,e,z.sameBut a (RY y c e)⟩
 .obtain⟨C,z⟩:=I.cell y c e;exact⟨C,z.sameBut a (RY y c e)⟩
 .obtain⟨e,n,ne,nf,d⟩:=I.pin p T;exact⟨(a.2 p.1 ne).trans e,n,ne,nf,d⟩
 .refine(I.iC b u e).tm (λc C hc q=>(a.2 c ?_).trans q) (λ_ q=>q) λ_ _ q=>q
  rintro rfl
  rcases hc with rfl|hc
  .rw[I.free] at e;cases e
  .rw[I.free] at hc;cases hc
end
def XDD (H:Hp)(od:Option ar)(fs:List (aB×V)):Prop:=match od with
 |none=>fs=[]
 |some a=>H a=aa (RM a fs)
noncomputable def hdH(H:Hp)(x C:ar)(od:Option ar)(fs:List (aB×V)):Hp:=match od with
 |none=>upd H x (.xc C fs)
 |some a=>upd (upd H a (.own x)) x (.xc C fs)
def Inv.MP(I:Inv X cf σ H s)(f:H x=am)(UW:Far X cf x)(hd:XDD H od fs)
(e:s.heap.get? x=aa b)(g:b.cls=.ref C)(h:b.dict=od)(i:b.data=.fields j):Inv X cf σ (hdH H x C od fs) s:=by
 cases od with
 |none=>
  refine I.aaz f UW ⟨b,j,e,g,i,.inl ⟨h,hd⟩⟩
 |some a=>
  have c:H a=aa _:=hd;have ne:a≠x:=λz=>by rw[z,f] at c;cases c
  obtain⟨⟨m,n,r,wi⟩,⟨o,p⟩,_⟩:=(I.iC a _ c);have q:∀o u,X.hW a≠aa _:=λo u z=>by have:=I.cq.qF a o u z;rw[c] at this;cases this
  have v:=I.ghost (w':=.own x) c (λ_ z=>by cases z) (λ_ z=>by cases z) (λ_ z=>by cases z) q ⟨o,p⟩;refine v.aaz (by rw[gR (ci ne)];exact f) UW ⟨b,j,e,g,i,.inr ⟨a,m,h,ne,?_,n,r⟩⟩;rw[gR ne,gZ]
structure QZ(K:af)(C B:ar):Prop where
 c:∃nm q N bs bm nw sn sub ab col dd k0 k1 k2 k3 k5,K.lookup C=aa (eX nm q C N bs bm nw sn sub ab col dd k0 k1 k2 k3 k5 nu)/\(bI C::bm).contains (.ref B)=ai
 b:∃nm q N bs bm nw sn sub ab col dd k0 k1 k2 k3 k5,K.lookup B=aa (eX nm q B N bs bm nw sn sub ab col dd k0 k1 k2 k3 k5 nu)/\(bI B::bm).contains (.type iv)=ai
section
variable {X:Cx} {s:aq}
def MQ(j:X.K.In s.heap)(O:s.heap.get? x=aa m)(hc:m.cls=.ref C)(sub:QZ X.K C B)(h:Q ai s):wpAny (model X.prog X.w) A (excMatches (.ref x) (.ref B)) Q E s:=by
 obtain⟨nm,q,N,bs,T,nw,sn,n,U,col,dd,Y,k1,k2,k3,k5,e,g⟩:=sub.c;obtain⟨o,q',N',Wm,p,r,u,v,y,z,RE,G,I,J,L,M,a,i⟩:=sub.b;have e:=j _ _ e;have a:=j _ _ a;have f:=tc_notTuple;unfold excMatches;repeat (first|(with_reducible rw[hc])|with_reducible refine ajx a ?_|(with_reducible refine gJ a ?_;rw[i])|(with_reducible refine gJ e ?_;rw[g])|wp_step)
 exact h
def Q0(I:Inv X cf F H s)(p:Rec s.heap x C od T)(r:Far X cf T)(u:H T=am)(h:∀a,Inv X cf F H a->Rec a.heap x C od T->Q () a):
  wpAny (model X.prog X.w) A (akR (.ref x) am) Q E s:=by
 obtain⟨v,y,J,L,f,B,G,g,i,j,m,c,n⟩:=p;refine wpAny_setFlight_none f g i m c (cU.mp n).1 (h _ (I.aay (λb hb=>by cases bp.mp hb;exact⟨r,u⟩) λb o e hb=>?_) ?_)
 .have:b≠T:=λz=>hb (by simp[z]);have q:=(cj s.heap (dO (·.setIfInBounds 3 .none)) (ci this)).trans e;exact⟨λ_=>q,o.slots,q⟩
 .refine⟨v,y,_,_,(dU _ _ _ _ (ci j)).trans f,B,G,g,i,j,cJ _ m (eK (c6 c _)),c6 c _,by simp[(cU.mp n).1]⟩
end
abbrev Cx.wp(X:Cx)(pn:List (ar×cn))(E:ah->aq->Prop):Cx:={X with pn:=pn,xe:=E}
section
variable {X:Cx} {s:aq}
theorem Cx.Ok.wp(ok:X.Ok)(pn:List _)(E:ah->aq->Prop):(X.wp pn E).Ok:=
 ⟨ok.mod,ok.kind,ok.glob,ok.blt,ok.above,ok.inj,ok.has,ok.cab,ok.hd,ok.frames,ok.stk,ok.exf,ok.bs,ok.Po,ok.Ir,ok.Ll,ok.wD,ok.RX⟩
theorem Inv.wp(I:Inv X cf σ H s)(E:ah->aq->Prop):Inv (X.wp (X.pn++cf) E) [] σ H s:=
 ⟨I.ok.wp _ _,I.os,I.bare,I.cq,I.loc,I.cell,I.free,I.mo,λp a=>I.pin p (by rw[aR] at a;exact a),I.iC,I.len⟩
def Inv.E1(ok:X.Ok)(I:Inv (X.wp (X.pn++cf) E) Iu σ H s):Inv X cf σ H s:=
 ⟨ok,I.os,I.bare,I.cq,I.loc,I.cell,I.free,I.mo,λp a=>I.pin p (bV _ a),I.iC,I.len⟩
theorem SP.E1(ok:X.Ok)(h:SP (X.wp (X.pn++cf) E) [] D f c):SP X cf D f c:=by
 cases f with
 |next=>obtain⟨a,b,I,q⟩:=h;exact⟨a,b,I.E1 ok,q⟩
 |brk=>obtain⟨a,b,I,q⟩:=h;exact⟨a,b,I.E1 ok,q⟩
 |cont=>obtain⟨a,b,I,q⟩:=h;exact⟨a,b,I.E1 ok,q⟩
 |ret u=>obtain⟨v,a,b,I,r,q⟩:=h;exact⟨v,a,b,I.E1 ok,r,q⟩
end
noncomputable def dE(i:Nat)(D:Ends):Ends:=⟨λa H=>D.nx (a.set i am) H,D.rt,λa H=>D.bk (a.set i am) H,λa H=>D.ct (a.set i am) H⟩
section
variable {th:TS}
end
section
variable {prog:aP} {s:aq} {K:af} {x:ar}
def Yv(X:K.In s.heap)(I:InstAt s.heap x ox C od)(a:findIn K (.ref C) pA=aa (aa (.builtin uae)))(b:findIn K (.ref C) "__getattr__"=aa am)
(g:subIn K (.ref C) (.type iv)=aa ai)(i:findObj K C od name=aa (.value v))(j:handedIn v=ai)(h:Q v {s with toks:=s.toks+1}):wpAny (model prog w) A (alq (.ref x) name expr) Q E s:=by have FB:=PySem.F.attrBase_ValueError;have c:=I.type (M:=model prog w);have m:=looks_find (M:=model prog w) X I i;have f:Looks (model prog w) s.heap (hookBefore (.ref C)) am:=looks_hook X (by exact b);refine ae (wpAny_mkText (bJ (ae (c _ _ _ _ (λ_ _ e=>e) (ae (looks_findIn X a _ _ _ _ (λ_ _ e=>e) ?_))))));dsimp only;refine ae (f _ _ _ _ (λ_ _ e=>e) (ae (gr (bJ ?_))));unfold alI;rw[show(expr&&onTheHeap _)=ao from Bool.and_false _];unfold alU;rw[FB.ga.bind];refine eJ ?_;refine eW FB.ga.plain PySem.F.entry_bexc_ga ?_;refine@check_slot (model prog w) _ _ _ _ iv pA (.ref x) _ [] _ (by decide+kernel) (by decide+kernel) (c.andThen (looks_subIn X g)) (PySem.F.args_bexc_ga (.ref x) (.str name s.toks)) ?_;refine ae (av (ae (av (ae (c.at (ae (m.at ?_)))))));refine av ?_;show wpAny _ _ (handedOut v) _ _ _;rw[handedOut_of j];exact av h
end
structure Kj(K:af)(C:ar):Prop where
 hd:hasDictIn K C=ai
 ga:findIn K (.ref C) pA=aa (aa (.builtin uae))
 gh:findIn K (.ref C) "__getattr__"=aa am
 sb:subIn K (.ref C) (.type iv)=aa ai
 cl:findIn K (.ref C) mu=aa (aa (.builtin im))
 cg:specialIn K (.builtin im) pu=aa (aa (.builtin pw))
 tk:takesIn K (.builtin im)=aa ai
 ob:mroIn K C (.type ix)=aa ai
section
variable {prog:aP} {s:aq} {K:af} {x:ar}
def Q1(G:Kj K C)(X:K.In s.heap)(I:InstAt s.heap x ox C od)(h:Q (aa (.ref C)) {s with toks:=s.toks+1}):wpAny (model prog w) A (alb (.ref x) mu) Q E s:=by
 have FB:=PySem.F.attrBase_ValueError;have c:findObj K C od mu=aa (.bind (.builtin pw) (.builtin im)):=by obtain⟨cd,hc,_⟩:=any_some G.hd;unfold findObj;rw[hc,Option.bind_some,G.cl,Option.bind_some];dsimp only;rw[G.cg,Option.bind_some];dsimp only;rw[G.tk];rfl
 have a:=I.type (M:=model prog w);have f:=looks_find (M:=model prog w) X I c;have b:Looks (model prog w) s.heap (hookBefore (.ref C)) am:=looks_hook X (by rw[if_pos (by rfl)];exact G.gh);unfold alb getAttrBy?;refine ae (wpAny_mkText (ae (gr ?_)));unfold getAttrBy;refine bJ (ae (a _ _ _ _ (λ_ _ e=>e) (ae (looks_findIn X G.ga _ _ _ _ (λ_ _ e=>e) ?_))));dsimp only;refine ae (b _ _ _ _ (λ_ _ e=>e) (ae (gr (bJ ?_))));unfold alI;rw[if_neg (by decide)];unfold alU;rw[FB.ga.bind];refine eJ ?_;refine eW FB.ga.plain PySem.F.entry_bexc_ga ?_;refine@check_slot (model prog w) _ _ {s with toks:=s.toks+1} uae iv pA (.ref x) [.str mu s.toks] [] _ (by decide+kernel) (by decide+kernel) (a.andThen (looks_subIn X G.sb)) (PySem.F.args_bexc_ga (.ref x) (.str mu s.toks)) ?_;obtain⟨i,g,d,t,os⟩:=s;refine ae (av (ae (av (ae (a.at (ae (f.at ?_)))))));refine ae (bJ (eJ (class_get (ox:=ox) (od:=od) X I G.ob ?_)));refine av ?_;show wpAny _ _ (handedOut (.ref C)) _ _ _;rw[handedOut_of rfl];exact av (av h)
set_option tactic.hygienic true in
def UZ(G:Kj K C):KitX K (.ref x) (.ref C) (λh=>InstAt h x ox C od) where
 ty:=λ_ _ _ I=>I.type
 it:=λ_ _ X _=>by
  obtain⟨b,a,_⟩:=any_some G.hd;unfold clsIn at a;split at a
  .rename_i i j c m f;intro o p r u k q;exact ae (akv (k _ _ (X _ _ f)) (av q))
  .cases a
 ne:=λh v dd ig n sl X g=>by
  obtain⟨b,a,_⟩:=any_some G.hd;refine Bool.eq_false_iff.mpr λq=>?_;have e:=bI.inj (beq_iff_eq.mp q);subst e;unfold clsIn at a;split at a
  .rename_i i j c m f;have z:=(X _ _ f).symm.trans g;cases z
  .cases a
 ca:=λX I k=>Q1 G X I k
end
section
variable {X:Cx} {s:aq}
def Inv.excAt(I:Inv X cf σ H s)(j:H a=aa (.xc C fs)):
  ∃m h,InstAt s.heap a m C h/\∀v,fs.lookup f=aa v->∃u d,h=aa d/\lookIn f d=aa (aa u)/\RelV v u:=by
 obtain⟨n,E,i,p,w,b⟩:=(I.iC a _ j);obtain⟨oc,odd,y,IB⟩:=n;cases p;cases w;rcases b with⟨b,rfl⟩|⟨G,A,b,ne,J,B,r⟩
 .cases(b);exact⟨_,am,⟨i,rfl,rfl,trivial⟩,λv e=>by cases e⟩
 .cases(b);obtain⟨d,c,g⟩:=Fk B;refine⟨_,aa d,⟨i,rfl,rfl,c⟩,λv e=>?_⟩;have q:=r f;rw[e] at q;cases z:A f with
  |none=>rw[z] at q;exact q.elim
  |some u=>rw[z] at q;exact⟨u,d,rfl,by rw[g,z],q⟩
def agq (K:af)(ta:TE)(f:aB):TE:=λb H Q=>ta b H λx H1=>∃a C fs v,x=.ref a/\H1 a=aa (.xc C fs)/\Kj K C/\jZ K C f/\fs.lookup f=aa v/\Q v H1
def Yw(g:PE X o ta)(hb:cM o f X.env (eval o X.env)=eval o X.env):PE X (.Attribute o f pos) (agq X.K ta f):=by intro cf s w H Q I h;refine NM hb (jB (g cf s w H _ I h) λu s1 i=>?_);obtain⟨x,H1,b,j,a,C,fs,v,ex,m,G,na,n,q⟩:=i;subst ex;obtain rfl:u=bI a:=j;obtain⟨p,r,J,L⟩:=b.excAt m;obtain⟨u,d,rfl,c,e⟩:=L v n;exact Yv b.qG J G.ga G.gh G.sb (findObj_own G.hd na rfl c) (Fl e) ⟨v,H1,b.tk _,e,q⟩
def Yx(I:Inv X cf m H s)(g:H a=aa (.xc C fs))(G:Kj X.K C)(e:kitOne X.K (.ref C) c=aa b)
(h:∀tk,Q (.bool b) {s with toks:=tk}):wpAny (model X.prog X.w) A (call (.builtin mv) [.ref a,c]) Q E s:=by obtain⟨i,j,J,_⟩:=I.excAt (f:=("":aB)) g;exact kia_one (UZ G) I.qG J e (λz=>nomatch z) h
end
abbrev XS:=St->XK
def tZ (X:Cx)(E:XS):Prop:=∀(cf:List (ar×cn)) (b:St) (H:Hp) (s:aq) (e:ah) (a:aq),Inv X cf b H s->Wi X.prog X.w X.stack H s (E b) e a->X.xe e a
section
variable {K:af}
def aaA:tZ (BK P w K mg cq N qual scope f cd A cv hU hW E) λ_=>E:=λcf b H s e a I h=>agj cf b H s e a I h
end
section
variable {X:Cx} {k:Nat} {fd:cI} {ps:List aB} {x:aB} {t:TA}
def Yy(F:jo X.prog X.w X.K X.mg X.cq (Wi X.prog X.w) k f fd ps sp)(g:iV k X.A)(hb:Binds X.K fd ps [])(i:tZ X E)
(I:Inv X cf m H s)(r:Vals b us)(h:sp b H Q (E m)):wpAny (model X.prog X.w) X.A (call (.ref f) us) (EP X cf m Q) X.xe s:=by
 have j:us.length=ps.length:=by rw[<-r.length];exact F.len _ _ _ _ h
 have c:=hb s us I.qG (by rw[aR];exact j);rw[aR] at c;refine eJ (cX (F.run X.A X.stack s H _ us b Q (E m) g I.Sl c r h) λr n a=>?_);cases r with
 |error e=>exact i cf m H s e n I a
 |ok fl=>
  cases fl with
  |ret u=>exact I.after a
  |next=>exact b9 a
  |brk=>exact b9 a
  |cont=>exact b9 a
def ac7 (sp:Sp)(E:XS)(t:TA):TE:=λb H Q=>t b H λa H1=>sp a H1 Q (E b)
def qL (P:aP)(w:bt)(K:af)(mg:aB->Option ah)(cq:aw)(k:Nat)(x:aB)(ps:List aB)(sp:Sp):Prop:=
 ∃f fd,mg x=aa (.ref f)/\dr K (.ref f)=ai/\Binds K fd ps []/\jo P w K mg cq (Wi P w) k f fd ps sp
def U0(h:qL X.prog X.w X.K X.mg X.cq k x ps sp)(c:iV k X.A)(g:tZ X E)(ha:PA X (e::es) t)(i:Gl X x:=by rfl)(j:(x==(dV:aB))=ao:=by decide)
(n:aV (e::es) X.env=(ao,eval e X.env)::aV es X.env:=by rfl)(u:(cO pos (aV es X.env)).any (·.1)=ao:=by rfl):
  PE X (.Call (.Name x p) (e::es) [] pos) (ac7 sp E t):=by obtain⟨f,fd,m,kp,b,F⟩:=h;intro cf s o H Q I h;refine c8 (tz I i m ?_ j);refine W.callWith_K I.ok.mod.RW kp (jB (ha pos cf s o H _ I h) λus s1 ⟨v,H1,a,r,q⟩=>⟨a.qG,?_⟩) n u;exact Yy F c b g a r q
end
section
variable {K:af}
theorem qL.mono{j k:Nat}{x:aB}{a:List aB}{sp:Sp}(h:qL P w K mg cq j x a sp)(c:j<=k):qL P w K mg cq k x a sp:=by obtain⟨f,fd,m,kp,b,F⟩:=h;exact⟨f,fd,m,kp,b,F.mono c⟩
theorem qL.imp(h:qL P w K mg cq k x e sp)(i:∀c H Q E,a c H Q E->sp c H Q E):qL P w K mg cq k x e a:=by obtain⟨f,fd,m,kp,b,F⟩:=h;exact⟨f,fd,m,kp,b,F.imp i⟩
def qL.has{k:Nat}{x:aB}{c:List aB}{sp:Sp}(h:qL P w K mg cq k x c sp):lM P w K mg cq k x c λa H Q _=>sp a H Q E0:=by
 obtain⟨f,fd,m,kp,b,F⟩:=h;refine⟨f,fd,m,kp,b,λa H Q E q=>F.len _ _ _ _ q,λA cv s H args us a Q E i j hb r q=>cX (F.run A cv s H args us a Q E0 i j hb r q) λr n g=>?_⟩;cases r with
 |error e=>obtain⟨_,_,_,_,_,_,_,_,_,_,_,_,_,_,_,z⟩:=g;exact z.elim
 |ok fl=>cases fl<;>exact g
def gY.agr{st:cN}(F:gY K mg x st)(c:iE st=body)(es:ij st=scope)(S:ju N b scope)
(hb:∀(kV doc pm:ah) (an:Option ar) (ik ct:ah) (us:List ah),us.length=b.length->dQ (dk x x (jE st) (iE st) (ij st) .none kV doc pm an ik ct) ⟨us,[]⟩=pure (b.zip us))
(len:∀a H Q E,sp a H Q E->a.length=b.length)
(e:∀(f:ar) (ik:ah) (A:bq) (cv:List gq) (s:aq) (H:Hp) (a:List V) (Q:VK) (E:XK),iV k (A.deeper (dY x scope s.heap.objs.size f ik))->sp a H Q E->
   ∃t,wX (BK P w K mg cq N x scope f ik A cv s H E) body t/\t {nx:=λ_ g=>Q .non g,rt:=Q} (start N a) H):qL P w K mg cq (k+1) x b sp:=by subst c es;obtain⟨f,fd,F,m⟩:=F;refine⟨f,fd,m,F.kp,F.binds hb,?_⟩;obtain⟨oc,od,kV,doc,pm,an,ik,ct,IB,rfl,lk,h⟩:=F.ex;exact Sr lk h S len λA cv s H a Q E i j=>e f ik A cv s H a Q E i j
end
def Hm (H:Hp)(od:Option ar):Prop:=∀a,od=aa a->∀q,H a≠aa (L2.yj a q)
def ags (K:af)(i:Nat)(B:ar)(tb:XS->TS)(th:TS):TS:=λD e H=>
 tb (λb C od a=>∃c fs,C=.ref c/\QZ K c B/\XDD a od fs/\∀x,a x=am->Hm a od->th (dE i D) (b.set i (aa (.ref x))) (hdH a x c od fs)) D e H
def Inv.ac8(I:Inv X cf σ H s)(h:XDD H od fs):Hm H od:=λa e q z=>by subst e;obtain⟨⟨f,b,_,_⟩,_⟩:=(I.iC a _ h);obtain⟨c,_⟩:=(I.iC a _ z);obtain⟨g,oc,i,t,e,n2,n3,_⟩:=c;cases e;obtain⟨o,es,j,n1⟩:=b;rw[n1.1] at n2;cases n2;rw[n1.2.1] at n3;cases n3
section
variable {X:Cx} {th:TS}
def Yz(i9:X.stack=X.env::X.cv)(UL:X.env.frame=aa X.env.locals)(L:X.N.Nodup)(hi:X.N[i]?=aa n)(Q:X.env.kindOf n=aa .local)(Jh:Loc X.env.scope n)(hf:X.fn n=ai\/X.env.scope.names.lookup n=aa .local)
(hg:Gl X tn)(hm:X.mg tn=aa (.ref B))(qH:(tn==(dV:aB))=ao)
(hb:∀(pn:List (ar×cn)) (E':ah->aq->Prop) (Ex:XS),tZ (X.wp pn E') Ex->wX (X.wp pn E') body (tb Ex))
(hh:∀e,wX (X.LW e) (UY::Ki) th):
  PS X (.Try body [.ExceptHandler (aa (.Name tn tp)) (aa n) (UY::Ki) UX] [] [] pos) (ags X.K i B tb th):=by
 intro cf s σ H D I h;refine wpAny_Try_except ?_;have len:=I.len;have g:=I.ok;refine cc (hb (X.pn++cf) (λe iY=>wpAny (model X.prog X.w) X.A (akS e X.env) (λ_ EE=>wpAny (model X.prog X.w) X.A (akR e am) (λ_ zn=>wpAny (model X.prog X.w) X.A _ (SP X cf D) X.xe zn) X.xe EE) X.xe iY)
  (λG C od j=>∃c fs,C=.ref c/\QZ X.K c B/\XDD j od fs/\∀x,j x=am->Hm j od->th (dE i D) _ (hdH j x c od fs)) ?_ [] s σ H D (I.wp _) h) (λf s1 q=>?_) λe s1 q=>q
 .intro Iu σ1 H1 s1 e s' I1 hc;obtain⟨x,C,od,j,T,rfl,ho,hgb,u,iC,hr,hx,hT,Wj,Wg,c,fs,rfl,sub,M,hth⟩:=hc;have U:=I1.As (ch:=[]) ho u iC hgb (λb hb=>by cases hb);have O:=I1.UW hx;have fT:=I1.UW hT;have aiF:X.A.frames=aa (X.env::X.cv):=by rw[<-i9];exact g.frames
  have aiG:s'.heap.FunFrames X.cq (X.env::X.cv):=by rw[<-i9];exact U.stack
  refine F5 aiF aiG UL hr λh' T' Jv Y hL=>?_;have hL':MH (sx X.stack) [x,T] s'.heap h':=by rw[i9];exact hL
  have I3:=U.aay (t':=s'.toks) (R:=[x,T]) (λb hb=>by
   rcases aN.mp hb with rfl|hb
   .exact⟨O,Wj⟩
   .cases bp.mp hb;exact⟨fT,Wg⟩) hL'
  have m:=U.UW Jv;have aiH:j T'=am:=U.iC.fresh Jv;have J:=I3.E1 g;have gx:Far X cf x:=⟨O.s0,O.lo,O.ce,λp hp=>O.pi p (bV _ hp)⟩;have gT:Far X cf T':=⟨m.s0,m.lo,m.ce,λp hp=>m.pi p (bV _ hp)⟩;have Y:=Y;have J':=J.LW (.ref x);refine wpAny_handleBy_cons (codeAny_handlers_test (tz (X:=X.LW (.ref x)) J' hg hm ?_ qH)) (by intro q;cases q);have Yt:=Y;obtain⟨oe,vs,oT,ts,he,hc1,hc2,_⟩:=Yt;refine MQ (X:=X) J.qG he hc1 sub ?_;refine codeAny_handlers_suite_as (Q0 (X:=X) J Y gT aiH λs4 J4 r4=>?_);refine zm (X:=X) J4 L hi Jh (v:=.ref x) rfl (λs5 J5 zq=>?_) hf;obtain⟨a,hs,ha⟩:=zq;have hxa:x≠a:=by
   rcases ha with rfl|ha
   .exact gx.lo
   .exact ci (gx.ce _ a ha)
  have J6:Inv X cf (σ1.set i (aa (.ref x))) (hdH j x c od fs) s5:=by obtain⟨oe,vs,_,_,e,h1,h2,h3,_⟩:=r4;exact J5.MP Wj gx M ((hs.2 x hxa).trans e) h1 h2 h3
  refine cc (hh (.ref x) cf s5 _ _ (dE i D) (J6.LW _) (hth x Wj (J.ac8 M))) (λf s6 q=>?_) λ_ _ z=>z.elim;cases f with
  |next=>obtain⟨G,y,o,q⟩:=q;exact yN (o.OL g) L hi Q λs7 E=>⟨_,y,E,q⟩
  |brk=>obtain⟨G,y,o,q⟩:=q;exact yN (o.OL g) L hi Q λs7 E=>⟨_,y,E,q⟩
  |cont=>obtain⟨G,y,o,q⟩:=q;exact yN (o.OL g) L hi Q λs7 E=>⟨_,y,E,q⟩
  |ret u=>obtain⟨v,G,y,o,r,q⟩:=q;exact yN (o.OL g) L hi Q λs7 E=>⟨v,_,y,E,r,q⟩
 .cases f with
  |next=>
   obtain⟨G,j,o,q⟩:=q;exact ajS ⟨G,j,o.E1 g,q⟩
  |brk=>exact SP.E1 (f:=.brk) g q
  |cont=>exact SP.E1 (f:=.cont) g q
  |ret u=>exact SP.E1 (f:=.ret u) g q
end
end L2
namespace L3
open L2
structure EX where
 C:ar
 ns:List aB
 ds:List D
abbrev EB:=EX->nC->Ms->Prop
def EB.le(x y:EB):Prop:=∀e a M,x e a M->y e a M
def EB.rfl(x:EB):x.le x:=λ_ _ _ h=>h
abbrev xK(K:af)(F g:List ar)(H:Hp)(M:Ms)(E:XS):EB:=λx f b=>∀c ii a od e,Ext F g H M ii a b->R K F ii a c f b->x.ns.length=x.ds.length->XDD a od (x.ns.zip e)->gO K ii (jk F ii b a) x.ds e->E c (.ref x.C) od a
def xK.grow{K:af}(e:Ext F α H M ii a b):EB.le (xK K F α H M E) (xK K F ii a b E):=λx j m h c f g od i e2=>h c f g od i (e.trans e2)
abbrev XE:=EB->DE
abbrev XA:=EB->DA
abbrev XB:=EB->DS
def lEX (K:af)(E:XS)(t:XE):TE:=λb H Q=>∃F c a M,R K F c H b a M/\t (xK K F c H M E) a M (vK K F c H M Q)
def lAX (K:af)(E:XS)(t:XA):TA:=λb H Q=>∃F c a M,R K F c H b a M/\t (xK K F c H M E) a M (aK K F c H M Q)
def lSX (K:af)(E:XS)(t:XB):TS:=λD b H=>∃F c a M,R K F c H b a M/\t (xK K F c H M E) (uI K F c H M D) a M
structure JEX(X:Cx)(E:XS)(e:bv)(t:XE):Prop where
 mono:∀(x y:EB) δ M (P Q:DK),x.le y->(∀d M,P d M->Q d M)->t x δ M P->t y δ M Q
 p:PE X e (lEX X.K E t)
structure JAX(X:Cx)(E:XS)(es:List bv)(t:XA):Prop where
 mono:∀(x y:EB) δ M (P Q:List D->Ms->Prop),x.le y->(∀d M,P d M->Q d M)->t x δ M P->t y δ M Q
 p:PA X es (lAX X.K E t)
structure YA(X:Cx)(E:XS)(st:cN)(t:XB):Prop where
 mono:∀(x y:EB) (P Q:jK) δ M,x.le y->P.le Q->t x P δ M->t y Q δ M
 p:PS X st (lSX X.K E t)
structure RN(X:Cx)(E:XS)(st:List cN)(t:XB):Prop where
 mono:∀(x y:EB) (P Q:jK) δ M,x.le y->P.le Q->t x P δ M->t y Q δ M
 p:wX X st (lSX X.K E t)
section
variable {X:Cx} {t:XB} {pos:dA} {x:aB} {st:cN} {bs:List cN}
def JA.tox{t:DA}(h:JA X es t):JAX X E es λ_=>t:=⟨λx y a M P Q _ w q=>h.mono _ _ _ _ w q,h.p⟩
def JS.tox{t:DS}(h:JS X st t):YA X E st λ_=>t:=⟨λx y P Q a M _ w q=>h.mono _ _ _ _ w q,h.p⟩
def Fz.tox{t:DS}(h:Fz X Lg t):RN X E Lg λ_=>t:=⟨λx y P Q a M _ w q=>h.mono _ _ _ _ w q,h.p⟩
abbrev MR:=List D->(D->Prop)->(EX->Prop)->Prop
abbrev AT(g:MR):Prop:=∀ds (P Q:D->Prop) (x y:EX->Prop),(∀d,P d->Q d)->(∀e,x e->y e)->g ds P x->g ds Q y
abbrev yK(K:af)(F c:List ar)(H:Hp)(M:Ms)(E:XK):EX->Prop:=λx=>∀a od b,Ext F c H M c a M->OK K F c a M->x.ns.length=x.ds.length->XDD a od (x.ns.zip b)->gO K c (jk F c M a) x.ds b->E (.ref x.C) od a
def E2 (K:af)(g:MR):Sp:=λa H Q E=>∃F b M ds,OK K F b H M/\gO K b (jk F b M H) ds a/\lN ds=ai/\g ds (λd=>vK K F b H M Q d M) (yK K F b H M E)
structure Dt(P:aP)(w:bt)(K:af)(mg:aB->Option ah)(cq:aw)(k:Nat)(x:aB)(ps:List aB)(g:MR):Prop where
 mono:AT g
 p:qL P w K mg cq k x ps (E2 K g)
def dCX (g:MR)(tt:XA):XE:=λx a M Q=>tt x a M λds M1=>lN ds=ai/\g ds (λd=>Q d M1) λe=>x e a M1
def agt(h:Dt X.prog X.w X.K X.mg X.cq k x I g)(b:iV k X.A)(f:tZ X E)(ha:JAX X E (e::es) tt)(m:Gl X x:=by rfl)(n:(x==(dV:aB))=ao:=by decide)
(o:aV (e::es) X.env=(ao,eval e X.env)::aV es X.env:=by rfl)(z:(cO pos (aV es X.env)).any (·.1)=ao:=by rfl):JEX X E (.Call (.Name x p) (e::es) [] pos) (dCX g tt):=by refine⟨λx y a M P Q v w q=>ha.mono _ _ a _ _ _ v (λds M1 q=>⟨q.1,h.mono _ _ _ _ _ (λd q=>w _ _ q) (λe q=>v _ _ _ q) q.2⟩) q,PE.weak (U0 h.p b f ha.p m n o z) λc H Q q=>?_⟩;obtain⟨F,u,a,M,r,q⟩:=q;refine⟨F,u,a,M,r,ha.mono _ _ a _ _ _ (EB.rfl _) (λds M1 q J i H1 e1 j B=>?_) q⟩;exact⟨F,i,M1,ds,j,B,q.1,h.mono _ _ _ _ _ (λd q=>vK.grow e1 _ _ q) (λex q C od ws e2 G l f b=>q c i C od ws (e1.trans e2) ((r.grow e1 j).grow e2 G) l f b) q.2⟩
def Kl (t u:XB):XB:=λx=>hG (t x) (u x)
def YB(h:YA X E st t):RN X E [st] t:=⟨h.mono,NK h.p⟩
def U1(a:YA X E st t)(b:RN X E Lg u):RN X E (st::Lg) (Kl t u):=by refine⟨λx y P Q f M v w q=>a.mono _ _ {P with nx:=u x P} _ _ _ v ⟨λf M q=>b.mono _ _ _ _ _ _ v w q,w.rt,w.bk,w.ct⟩ q,wX.weak (xX a.p b.p) λD c H q=>?_⟩;obtain⟨F,e,f,M,r,q⟩:=q;refine⟨F,e,f,M,r,a.mono _ _ _ _ _ _ (EB.rfl _) ?_ q⟩;exact⟨λg M1 q h i H1 e1 j=>⟨F,i,g,M1,j,b.mono _ _ _ _ _ _ (xK.grow e1) (uI.grow e1) q⟩,λ_ _ q=>q,λ_ _ q=>q,λ_ _ q=>q⟩
def xIf (c:DT)(t u:XB):XB:=λx=>iA c (t x) (u x)
def ac9(hc:JT X c tA)(ha:RN X E as t)(hb:RN X E bs u):YA X E (.If c as bs pos) (xIf tA t u):=by
 refine⟨λx y P Q a M v w q=>hc.mono a _ _ _ (λb M1 q=>?_) q,PS.weak (ZL hc.p ha.p hb.p) λD e H q=>?_⟩
 .cases b with
  |true=>exact ha.mono _ _ _ _ _ _ v w q
  |false=>exact hb.mono _ _ _ _ _ _ v w q
 .obtain⟨F,h,a,M,r,q⟩:=q;refine⟨F,h,a,M,r,hc.mono a _ _ _ (λb M1 q f H1 e1 g=>?_) q⟩;cases b with
  |true=>
   exact⟨F,f,a,M1,r.grow e1 g,ha.mono _ _ _ _ _ _ (xK.grow e1) (uI.grow e1) q⟩
  |false=>
   exact⟨F,f,a,M1,r.grow e1 g,hb.mono _ _ _ _ _ _ (xK.grow e1) (uI.grow e1) q⟩
def aaB (te:XE):XB:=λx=>jV (te x)
def U2(b:JEX X E e te)(f:c5 e am pos.line X.env=pure ao:=by rfl):YA X E (.Expr e pos) (aaB te):=by refine⟨λx y P Q a M v w q=>b.mono _ _ a _ _ _ v (λd M1 q=>w.nx _ _ q) q,PS.weak (Gj b.p f) λD c H q=>?_⟩;obtain⟨F,j,a,M,r,q⟩:=q;exact⟨F,j,a,M,r,b.mono _ _ a _ _ _ (EB.rfl _) (λd M1 q v g H1 e1 h i=>q c g H1 e1 (r.grow e1 h)) q⟩
def agu (i:Nat)(te:XE):XB:=λx=>iF i (te x)
def YC(i:Nat)(f:X.N.Nodup)(b:JEX X E e te)(hi:X.N[i]?=aa x:=by rfl)(g:Loc X.env.scope x:=by first|exact dP rfl|exact c9 rfl)(h:c5 e (aa (.Name x p)) pos.line X.env=pure ao:=by rfl)
(j:X.fn x=ai\/X.env.scope.names.lookup x=aa .local:=by first|exact .inl rfl|exact .inr rfl|assumption):YA X E (.Assign [.Name x p] e pos) (agu i te):=by refine⟨λx y P Q a M v w q=>b.mono _ _ a _ _ _ v (λd M1 q=>w.nx _ _ q) q,PS.weak (R8 f hi g b.p h j) λD c H q=>?_⟩;obtain⟨F,u,a,M,r,q⟩:=q;exact⟨F,u,a,M,r,b.mono _ _ a _ _ _ (EB.rfl _) (λd M1 q v m H1 e1 n o=>q _ m H1 e1 ((r.grow e1 n).set o)) q⟩
def ada (te:XE)(g:DG):XB:=λx=>EH (te x) g
def YD(b:JEX X E e te)(f:JG X tg g)(h:akG [tg] e pos.line X.env=pure ao:=by rfl)(hw:akH [tg] e X.env=pure am:=by rfl)
(i:(cD [tg] X.env).map (·.2)=[assign tg X.env]:=by rfl):YA X E (.Assign [tg] e pos) (ada te g):=by refine⟨λx y P Q a M v w q=>b.mono _ _ a _ _ _ v (λd M1 q=>f.mono _ _ _ _ _ w.nx q) q,PS.weak (R7 b.p f.p h hw i) λD c H q=>?_⟩;obtain⟨F,o,a,M,r,q⟩:=q;refine⟨F,o,a,M,r,b.mono _ _ a _ _ _ (EB.rfl _) (λd M1 q v j H1 e1 m n=>?_) q⟩;exact⟨F,j,a,M1,d,r.grow e1 m,n,f.mono _ _ _ _ _ (sK.grow e1) q⟩
end
def E3 (n m:Nat)(tb:XB):MR:=λds Q b=>ds.length=m/\tb (λe _ _=>lN e.ds=ai/\b e) ⟨λ_ _=>Q .non,λd a=>nl (fz a d)=ai/\Q (fz a d),λ_ _=>False,λ_ _=>False⟩ (p4 n ds) []
section
variable {P:aP} {K:af}
def Q2(hb:∀(x y:EB) (P Q:jK) a M,x.le y->P.le Q->tb x P a M->tb y Q a M):AT (E3 n m tb):=λds P Q x y w v q=>⟨q.1,by
 refine hb _ _ _ _ _ _ (λe _ _ q=>⟨q.1,v _ q.2⟩) ?_ q.2;exact⟨λ_ _ q=>w _ q,λ_ _ q=>⟨q.1,w _ q.2⟩,λ_ _ q=>q,λ_ _ q=>q⟩⟩
def YE{m:List aB}(g:RN X (λ_=>E) body tb)(u:X.K=K)(h:E2 K (E3 n.length m.length tb) f H Q E):
  ∃t,wX X body t/\t {nx:=λ_ b=>Q .non b,rt:=Q} (L2.start n f) H:=by
 subst u;obtain⟨F,w,M,ds,o,r,hn,I,q⟩:=h;have y:OK X.K _ [] H []:=⟨rfl,gB,λa ha=>⟨by simp,by
  rcases bj.mp ha with ha|ha
  .exact o.SS a ha
  .exact(o.fr a ha).2⟩,λa ha=>(by simp at ha),λk x h=>(by simp at h),o.tb⟩
 have z:gO X.K [] _ ds f:=gO.nl ds f hn r;refine⟨_,g.p,lv w M++F,[],p4 n.length ds,[],Bq y z,?_⟩;refine g.mono _ _ _ _ _ _ (λe J i ⟨nl,A⟩ B ii b od ws ext C l xd G=>?ex) ?le q;case ex=>
  obtain⟨e1,c⟩:=p5 o ext C.ok;exact A b od ws e1 c l xd (gO.nl _ _ nl (gO.mono (bc _) pE _ _ G))
 case le=>
  refine⟨λL i q B ii b e r=>?_,λd i q v ii b e j r=>?_,λ_ _ q=>q.elim,λ_ _ q=>q.elim⟩
  .obtain⟨e1,c⟩:=p5 o e r.ok;exact q _ w b e1 c qP
  .obtain⟨e1,c⟩:=p5 o e j;exact q.2 v w b e1 c (Rep.nl _ _ q.1 (Tg j d v r))
def U3(h:qL P w K mg cq k x b (E2 K g))(m:AT a)(i:∀ds Q y,a ds Q y->g ds Q y):Dt P w K mg cq k x b a:=
 ⟨m,h.imp λc H Q E zq=>by obtain⟨F,e,M,ds,o,r,n,q⟩:=zq;exact ⟨F,e,M,ds,o,r,n,i _ _ _ q⟩⟩
def Dt.calm{k:Nat}{x:aB}{a:List aB}{g:MR}(h:Dt P w K mg cq k x a g):iu P w K mg cq k x a (cl λds Q=>g ds Q λ_=>False):=
 ⟨GD λds P Q w q=>h.mono _ _ _ _ _ w (λ_ q=>q) q,let⟨f,fd,m,kp,b,F⟩:=h.p.has;⟨f,fd,m,kp,b,F.imp λc H Q E zq=>by obtain⟨F,α,M,ds,o,r,n,q⟩:=zq;exact ⟨F,α,M,ds,o,r,n,h.mono _ _ _ _ _ (λ_ q=>q) (λ_ q=>q.elim) q⟩⟩⟩
end
noncomputable def adb(v:V):Bool:=match v with|.int n=>decide (n.natAbs.log2<1920)&&decide ((toString n:aB).length<=4000)|.str y=>decide (y.length<=4000)|_=>ao
noncomputable def Q3(v:D):Bool:=match v with|.int n=>decide (n.natAbs.log2<1920)&&decide ((toString n:aB).length<=4000)|.str y=>decide (y.length<=4000)|_=>ao
theorem U4{K:af}{f:List ar}{H:Hp}:∀(ds:List D) (a:List V),gO K f H ds a->ds.all Q3=ai->a.all adb=ai
 |[],a,r,_=>by unfold gO at r;subst r;rfl
 |d::ds,a,r,h=>by unfold gO at r;obtain⟨v,ws,rfl,b,e⟩:=r;rw[dm,aU] at h |-;refine⟨?_,U4 ds ws e h.2⟩;have c:=h.1;cases d<;>first|(cases c;done)|(unfold Rep at b;subst b;exact c)
def spI (C:ar)(ns:List aB):Sp:=λb H Q _=>∃x ws,b=.ref x::ws/\ws.length=ns.length/\ws.all adb=ai/\H x=aa (rX x C am)/\
 ∀a,H a=am->a≠x->Q .non (upd (upd H a (RM a (ns.zip ws))) x (rX x C (aa a)))
def YF{H:Hp}{x e:ar}{a b c:HO}(g:H x=am)(ne:e≠x):Wl x (upd (upd (upd H x a) e b) x c)=upd H e b:=by
 funext y;by_cases h:y=x
 .subst h;rw[yM,gR (ci ne),g]
 .rw[Hl h,gR h];by_cases f:y=e
  .subst f;rw[gZ,gZ]
  .rw[gR f,gR f,gR h]
def MS (C:ar)(ns:List aB)(tt:DA):XB:=λx _ a M=>tt a M λds M1=>ds.length=ns.length/\ds.all Q3=ai/\ds.length<=az/\x ⟨C,ns,ds⟩ a M1
section
variable {K:af}
variable {k:Nat} {fd:cI} {ns:List aB} {x:aB}
structure yO(P:aP)(w:bt)(K:af)(mg:aB->Option ah)(cq:aw)(k:Nat)(x:aB)(C:ar)(ns:List aB):Prop where
 m:mg x=aa (.ref C)
 ok:∃f fd ps,XMk K C f/\Binds K fd ps []/\jo P w K mg cq pZ k f fd ps (spI C ns)
def Q4(h:yO P w K mg cq k x C ns)(B:iV (k+1) (BK P w K mg cq N qual scope fn cd A cv hU hW E).A)(ha:JA (BK P w K mg cq N qual scope fn cd A cv hU hW E) (e::es) tt)(G:Gl (BK P w K mg cq N qual scope fn cd A cv hU hW E) x:=by rfl)
(I:(x==(dV:aB))=ao:=by decide)
(J:aV (e::es) (BK P w K mg cq N qual scope fn cd A cv hU hW E).env=(ao,eval e (BK P w K mg cq N qual scope fn cd A cv hU hW E).env)::aV es (BK P w K mg cq N qual scope fn cd A cv hU hW E).env:=by rfl)
(L:(cO i6 (aV es (BK P w K mg cq N qual scope fn cd A cv hU hW E).env)).any (·.1)=ao:=by rfl):
  YA (BK P w K mg cq N qual scope fn cd A cv hU hW E) (λ_=>E) (.Raise (aa (.Call (.Name x p) (e::es) [] i6)) am pos) (MS C ns tt):=by obtain⟨hm,f,fd,ps,M,hb,F⟩:=h;refine⟨λx y P Q b M v w q=>ha.mono b _ _ _ (λds M1 q=>⟨q.1,q.2.1,q.2.2.1,v _ _ _ q.2.2.2⟩) q,PS.weak (UV M F (λc H Q Q' w zq=>by obtain⟨x,ws,g,i,j,m,O⟩:=zq;exact ⟨x,ws,g,i,j,m,λa T U=>w _ _ (O a T U)⟩) B hb G hm ha.p I J L) λD S H q=>?_⟩;obtain⟨F,W,b,M,r,q⟩:=q;refine⟨F,W,b,M,r,ha.mono b _ _ _ (λds M1 q c Y H1 e1 o n=>?_) q⟩;obtain⟨g,i,j,m⟩:=q;have u:=gO.length _ _ n;refine⟨by rw[<-u];exact j,λx hx=>⟨x,c,rfl,by rw[<-u];exact g,U4 _ _ n i,gZ,λa z ne=>⟨rfl,aa a,gZ,?_⟩⟩⟩;rw[gR ne] at z;rw[YF hx ne];obtain⟨o2,e2⟩:=o.laid (x:=RM a (ns.zip c)) z;exact m S Y _ (aa a) c (e1.trans e2) ((r.grow e1 o).grow e2 o2) g.symm gZ (e2.Ck n)
end
section
variable {K:af} {σ:L2.St} {δ:nC}
def R.unset(r:R K F α H σ δ M)(i:Nat):R K F α H (σ.set i am) (δ.set i am) M:=by
 refine⟨r.ok,by simp[r.len],λj d h=>?_⟩;by_cases a:j=i
 .subst a;by_cases b:j<δ.length
  .simp[b] at h
  .simp[b] at h
 .rw[cb (ci a)] at h |-;exact r.sl j d h
def OK.ghost(o:OK K F α H M)(g:H p=aa (.ext I))(m:∀q,H p≠aa (yj p q)):OK K F α (upd H p x) M/\Ext F α H M α (upd H p x) M:=by
 have n:uN (H p)=am:=by rw[g]
 have sx:∀a,uN (H a)≠am->upd H p x a=H a:=λa h=>gR λz=>by subst z;exact h n
 have i:jC (jk F α M H) (jk F α M (upd H p x)):=λb y q=>by obtain⟨z,j,u⟩:=p0 q;exact kW q z (by rw[sx b (by rw[j,u];exactλz=>by cases z)];exact j)
 refine⟨⟨o.ml,o.nd,λa ha=>⟨(o.fr a ha).1,by rw[sx a (o.fr a ha).2];exact(o.fr a ha).2⟩,λa ha=>by rw[sx a (o.al a ha)];exact o.al a ha,λk y h=>?_,λy w c P e=>?_⟩,⟨bc _,i,λa ha=>sx a (o.fr a ha).2⟩⟩
 .obtain⟨a,e,r⟩:=o.own k y h;exact⟨a,e,r.mono (bc _) i (sx a r.uN)⟩
 .obtain⟨A,f,B,C⟩:=o.tb y w c P e;refine⟨A,by rw[gR λz=>by rw[z,g] at f;cases f];exact f,B,λpos v E=>?_⟩;obtain⟨G,e1,e2⟩:=C pos v E;exact⟨G,e1,by rw[gR λz=>by subst z;exact m _ e2];exact e2⟩
def OK.MP(o:OK K F α H M)(a:H x=am)(xd:XDD H od fs)(g:Hm H od):OK K F α (hdH H x c od fs) M/\Ext F α H M α (hdH H x c od fs) M/\jk F α M (hdH H x c od fs) x=aa (.xc c fs):=by
 have f:∀H1,kE _ (upd H1 x (.xc c fs)) x=aa _:=λH1=>jF (o.new a) gZ rfl;cases od with
 |none=>
  obtain⟨b,e1⟩:=o.laid a;exact⟨b,e1,f _⟩
 |some e=>
  have hd:H e=aa _:=xd;obtain⟨b,e1⟩:=o.ghost (x:=.own x) hd (g e rfl);have ne:x≠e:=λz=>by rw[<-z,a] at hd;cases hd
  obtain⟨h,e2⟩:=b.laid (by rw[gR ne];exact a);exact⟨h,e1.trans e2,f _⟩
end
noncomputable def dEd(i:Nat)(E:jK):jK:=⟨λa M=>E.nx (a.set i am) M,E.rt,λa M=>E.bk (a.set i am) M,λa M=>E.ct (a.set i am) M⟩
def agv (K:af)(i:Nat)(B:ar)(tb:XB)(th:DS):DS:=λE a M=>tb (λe b c=>QZ K e.C B/\th (dEd i E) (b.set i (aa (.exc e.C e.ns e.ds))) c) E a M
section
variable {X:Cx}
def adc(L:X.N.Nodup)(hm:X.mg j=aa (.ref B))
(hb:∀(pn:List _) (h:ah->aq->Prop) (a:XS),tZ (X.wp pn h) a->RN (X.wp pn h) a body tb)
(v:∀e,Fz (X.LW e) (O::T) th)(hi:X.N[i]?=aa n:=by rfl)(U:X.env.kindOf n=aa .local:=by rfl)(Y:Loc X.env.scope n:=by first|exact dP rfl|exact c9 rfl)(hf:X.fn n=ai\/X.env.scope.names.lookup n=aa .local:=by first|exact .inl rfl|exact .inr rfl|assumption)
(hg:Gl X j:=by rfl)(qH:(j==(dV:aB))=ao:=by decide)(i9:X.stack=X.env::X.cv:=by rfl)(UL:X.env.frame=aa X.env.locals:=by rfl):
  JS X (.Try body [.ExceptHandler (aa (.Name j tp)) (aa n) (O::T) UX] [] [] pos) (agv X.K i B tb th):=by
 have y:=(v .none).mono;have b:=(hb [] (λ_ _=>True) (λ_ _ _ _=>False) λ_ _ _ _ _ _ _ _=>trivial).mono;refine⟨λP Q z M w q=>b _ _ _ _ _ _ (λe lW m q=>⟨q.1,y _ _ _ _ ?_ q.2⟩) w q,PS.weak (Yz (tb:=λa=>lSX X.K a tb) (th:=lS X.K th) i9 UL L hi U Y hf hg hm qH (λpn h a hp=>(hb pn h a hp).p) λe=>(v e).p) λD E H q=>?_⟩
 .exact⟨λ_ _ q=>w.nx _ _ q,w.rt,λ_ _ q=>w.bk _ _ q,λ_ _ q=>w.ct _ _ q⟩
 .obtain⟨F,S,z,M,r,q⟩:=q;refine⟨F,S,z,M,r,b _ _ _ _ _ _ (λex lW m ⟨sub,q⟩ jn ii H' od o e1 A l xd rp=>⟨ex.C,ex.ns.zip o,rfl,sub,xd,λx hx nc=>?_⟩) (jK.le.refl _) q⟩;obtain⟨o2,e2,u⟩:=A.ok.MP hx xd nc;have rx:Rep X.K ii (jk F ii m (hdH H' x ex.C od (ex.ns.zip o))) (.exc ex.C ex.ns ex.ds) (.ref x):=by exact⟨x,o,rfl,u,l,e2.Ck rp⟩
  refine⟨F,ii,_,m,(A.grow e2 o2).set rx,y _ _ _ _ ?_ q⟩;have e12:=e1.trans e2;exact⟨λG I q J c f e3 g=>q _ c f (e12.trans e3) (g.unset i),vK.grow e12,λG I q J c f e3 g=>q _ c f (e12.trans e3) (g.unset i),λG I q J c f e3 g=>q _ c f (e12.trans e3) (g.unset i)⟩
end
abbrev FP:=aB⊕Nat
def tFP:FP->TE
 |.inl c=>tC (.str c)
 |.inr i=>agm (Pp i)
def tJs:List FP->TJ
 |[]=>aaw
 |p::a=>UR (tFP p) (tJs a)
structure FPs(X:Cx)(es:List bv)(ps:List FP):Prop where
 p:PJ X es (tJs ps)
def tFs (K:af):List aB->Nat->TS
 |[],_=>λD a H=>D.nx a H
 |f::r,i=>aba (aax K (Pp 0) (Pp i) f) (tFs K r (i+1))
structure JFs(X:Cx)(Lg:List cN)(ns:List aB)(i:Nat):Prop where
 p:wX X Lg (tFs X.K ns i)
section
variable {X:Cx} {x:aB} {pos:dA}
def OM:FPs X [] []:=⟨ac4⟩
def Du{j}(h:FPs X es ps):FPs X (.Constant (.str c) j pos::es) (.inl c::ps):=⟨OJ R0 h.p⟩
def F6(i:Nat)(h:FPs X es ps)(a:X.N[i]?=aa x:=by rfl)(b:Rz X.env.scope x:=by first|exact dP rfl|exact c9 (dP rfl)|exact c9 (c9 rfl))(hd:(x==(dV:aB))=ao:=by decide)
(e:(x==(mr:aB))=ao:=by decide):FPs X (.FormattedValue (.Name x p) (-1) am pos::es) (.inr i::ps):=⟨OJ (ac3 (wY a b hd e)) h.p⟩
def ON:JFs X [] [] i:=⟨NJ⟩
def sS{m:dA}{s:aB}(h:JFs X Lg ns (i+1))(a:X.N[0]?=aa s:=by rfl)(n:X.N[i]?=aa x:=by rfl)(b:Rz X.env.scope s:=by first|exact dP rfl|exact c9 (dP rfl)|exact c9 (c9 rfl))(o:Rz X.env.scope x:=by first|exact dP rfl|exact c9 (dP rfl)|exact c9 (c9 rfl))
(e:(s==(dV:aB))=ao:=by decide)(g:(s==(mr:aB))=ao:=by decide)(hd:(x==(dV:aB))=ao:=by decide)(q:(x==(mr:aB))=ao:=by decide)
(r:c5 (.Name x m) (aa (.Attribute (.Name s p) f rJ)) pos.line X.env=pure ao:=by rfl):JFs X (.Assign [.Attribute (.Name s p) f rJ] (.Name x m) pos::Lg) (f::ns) i:=
 ⟨xX (Yu (wY a b e g) (wY n o hd q) r) h.p⟩
end
def okP (a:L2.St):FP->Prop
 |.inl c=>c.length<=4000
 |.inr i=>∃v,a[i]?=aa (aa v)/\adb v=ai
set_option tactic.hygienic true in
theorem U5{q:L2.St}{H:Hp}{Q:VK}(j:∀y,Q (.str y) H):∀(b:List FP) (acc:aB),acc.length+4000*b.length<=az->(∀p∈b,okP q p)->tJs b acc q H Q
 |[],acc,h,_=>⟨by simpa using h,j acc⟩
 |p::b,acc,h,ok=>by
  have f:∀y:aB,y.length<=4000->(acc++y).length<=az/\(acc++y).length+4000*b.length<=az:=λy m=>by have:(acc++y).length=acc.length+y.length:=PySem.Str.length_append _ _;rw[aQ] at h;lia
  have go:∀y:aB,y.length<=4000->tJs b (acc++y) q H Q:=λy m=>U5 j b _ (f y m).2 λp o=>ok p (ax _ o);have g:=ok p aE;cases p with
  |inl c=>exact⟨c,rfl,(f c g).1,go c g⟩
  |inr i=>
   obtain⟨v,e,a⟩:=g;refine⟨v,e,?_⟩;cases v<;>first|(cases a;done)|skip
   .rename_i n;have a:(decide (n.natAbs.log2<1920)&&decide ((toString n:aB).length<=4000))=ai:=a;rw[aU,decide_eq_true_eq,decide_eq_true_eq] at a;exact⟨a.1,_,rfl,(f _ a.2).1,go _ a.2⟩
   .rename_i y;have a:decide (y.length<=4000)=ai:=a;rw[decide_eq_true_eq] at a;exact⟨bh a (by decide),_,rfl,(f _ a).1,go _ a⟩
noncomputable def cH(H:Hp)(x a C:ar)(l:List (aB×V)):Hp:=upd (upd H a (RM a l)) x (rX x C (aa a))
def agw{H:Hp}{x a C:ar}{l e:List (aB×V)}(ne:a≠x):upd (upd (cH H x a C l) a (RM a e)) x (rX x C (aa a))=cH H x a C e:=by
 funext b;unfold cH;by_cases h:b=x
 .subst h;rw[gZ,gZ]
 .rw[gR h,gR h];by_cases c:b=a
  .subst c;rw[gZ,gZ]
  .rw[gR c,gR c,gR h,gR c]
theorem Km:∀{l:List _},f∉l.map (·.1)->pB f y l=l++[(f,y)]
 |[],_=>rfl
 | (g,v)::l,h=>by have a:g≠f:=λz=>h (by rw[z];simp);show(if g=f then _ else _)=_;rw[if_neg a,Km λz=>h (by exact ax _ z)];rfl
theorem aaC{K:af}{D:Ends}{A:L2.St}{H:Hp}{x b C:ar}(m:A[0]?=aa (aa (.ref x)))(c:Kf K C)(ne:b≠x):∀(ns:List aB) (i:Nat) (ws:List V) (l:List (aB×V)),ns.length=ws.length->(∀j v,ws[j]?=aa v->A[i+j]?=aa (aa v))->(l.map (·.1)++ns).Nodup->l.length+ns.length<1000->(∀f∈ns,jZ K C f)->
  D.nx A (cH H x b C (l++ns.zip ws))->tFs K ns i D A (cH H x b C l)
 |[],i,ws,l,_,_,_,_,_,q=>by rw[List.zip_nil_left,aR] at q;exact q
 |f::ns,i,[],l,e,_,_,_,_,q=>by cases e
 |f::ns,i,y::ws,l,e,n,nd,o,na,q=>by
  have p:f∉l.map (·.1):=λz=>by rw[de] at nd;exact nd.2.2 f z f aE rfl
  refine⟨y,by simpa using n 0 y rfl,.ref x,m,x,C,aa b,l,rfl,?_,⟨ne,?_⟩,c,na f aE,by rw[aQ] at o;lia,λr a u=>?_⟩
  .unfold cH;rw[gZ]
  .unfold cH;rw[gR ne,gZ]
  .rcases a with a|⟨a,_⟩
   .cases a;rw[agw ne,Km p];refine aaC m c ne ns (i+1) ws (l++[(f,y)]) (by simpa using e) (λj v h=>?_) ?_ (by simp at o |-;lia) (λg w=>na g (ax _ w)) ?_
    .have:=n (j+1) v (by simpa using h);rw[<-this];congr 1;lia
    .rw[aM];simpa using nd
    .rw[aX];exact q
   .cases a
def U6{K:af}{D:Ends}{p:L2.St}{H:Hp}{x C:ar}{f y}{ns:List aB}{ws:List V}(i:p[0]?=aa (aa (.ref x)))(c:Kf K C)(e:ns.length=ws.length)(m:∀j v,(y::ws)[j]?=aa v->p[1+j]?=aa (aa v))(nd:(f::ns).Nodup)(o:ns.length<900)(na:∀g∈f::ns,jZ K C g)
(ex:H x=aa (rX x C am))(q:∀a,H a=am->a≠x->D.nx p (cH H x a C ((f::ns).zip (y::ws)))):tFs K (f::ns) 1 D p H:=by
 refine⟨y,by simpa using m 0 y rfl,.ref x,i,x,C,am,[],rfl,ex,rfl,c,na f aE,by decide,λa b ne=>?_⟩;rcases b with b|⟨_,b⟩
 .cases b
 .refine aaC i c ne ns 2 ws [(f,y)] e (λj v h=>?_) (by simpa using nd) (by simp;lia) (λg n=>na g (ax _ n)) (q a b ne);have:=m (j+1) v (by simpa using h);rw[<-this];congr 1;lia
def Dv{i:Nat}(h:a[i]?=aa v):(L2.start N a)[i]?=aa (aa v):=by unfold L2.start;have:=(au.mp h).1;rw[bB (by simpa using this),bn,h];rfl
abbrev agx(K:af)(B:ar)(a:List FP)(ns:List aB):TS:=aba (ZK (US K B (tC (.ref B)) (Sj (Pp 0) (Sj (tJs a aB.empty) WJ)))) (tFs K ns 1)
def agy{X:Cx}{b s:aB}{e e2:bv}{es:List bv}{n:List cN}{o:List FP}{ns:List aB}{B:ar}{p g a apos c pos:dA}{pl:Sem Bool}(u:Kg X.K B)(hm:X.mg b=aa (.ref B))(v:FPs X (e::e2::es) o)(w:JFs X n ns 1)
(y:Gl X b:=by rfl)(z:(b==(dV:aB))=ao:=by decide)(h:X.N[0]?=aa s:=by rfl)(i:Rz X.env.scope s:=by first|exact dP rfl|exact c9 (dP rfl)|exact c9 (c9 rfl))
(j:(s==(dV:aB))=ao:=by decide)(m:(s==(mr:aB))=ao:=by decide)
(ht:eval (.Call (.Attribute (.Name b p) ft apos) [.Name s g,.JoinedStr (e::e2::es) a] [] c) X.env=(do
   let q<-eval (.Name b p) X.env
   ajY apos.atName
   let(f,first)<-holding [q] (akk q ft pl)
   alR c f first (cO c (aV [.Name s g,.JoinedStr (e::e2::es) a] X.env)) (ajE c (eF [] X.env))):=by rfl)
(r:aV [.Name s g,.JoinedStr (e::e2::es) a] X.env=(ao,eval (.Name s g) X.env)::aV [.JoinedStr (e::e2::es) a] X.env:=by rfl)(A:aV [.JoinedStr (e::e2::es) a] X.env=(ao,eval (.JoinedStr (e::e2::es) a) X.env)::aV [] X.env:=by rfl)(C:(cO c (aV [.JoinedStr (e::e2::es) a] X.env)).any (·.1)=ao:=by rfl)
(E:c5 (.Call (.Attribute (.Name b p) ft apos) [.Name s g,.JoinedStr (e::e2::es) a] [] c) am pos.line X.env=pure ao:=by rfl):
  wX X (.Expr (.Call (.Attribute (.Name b p) ft apos) [.Name s g,.JoinedStr (e::e2::es) a] [] c) pos::n) (agx X.K B o ns):=
 xX (Gj (UU PySem.F.excBase_ValueError u (NI y hm rfl z) (x8 (wY h i j m) (x8 (Yq v.p) Gp A) r) ht r C) E) w.p
section
variable {K:af}
noncomputable def Iw(n:Nat):FP->Bool
 |.inl c=>decide (c.length<=4000)
 |.inr i=>decide (1<=i)&&decide (i<=n)
def U7{x qual:aB}{st:cN}{f:ar}{fd:cI}{N b:List aB}{k:Nat}{body:List cN}{scope:cS}{C B:ar}{ns:List aB}{a:List FP}(F:uG K x qual st f fd)(G:iE st=body)(es:ij st=scope)(S:ju N b scope)
(c:Kf K C)(co:Kh K C)(na:∀g∈ns,jZ K C g)
(I:∀(ik:ah) (A:bq) (cv:List gq) (s:aq) (H:Hp) (E:XK),wX (rK pZ P w K mg cq N qual scope f ik A cv s H E).ED body (agx K B a ns))
(nd:ns.Nodup:=by decide)(J:ns.length<900:=by decide)(L:0<ns.length:=by decide)(m:b.length=ns.length+1:=by rfl)(n:a.all (Iw ns.length)=ai:=by decide)(M:a.length<=100:=by decide):
  jo P w K mg cq pZ (k+1) f fd b (spI C ns):=by
 subst G es;refine F.ok S (λO H Q E zq=>by obtain⟨x,ws,e,hw,_⟩:=zq;rw[e,m,aQ,hw]) λik A cv s H O Q E hr h=>⟨_,I ik A cv s H E,?_⟩;obtain⟨x,ws,rfl,hw,T,r,q⟩:=h;have u:(L2.start N (.ref x::ws))[0]?=aa (aa (.ref x)):=Dv rfl;refine⟨rfl,.ref x,u,U5 (λy=>⟨x,C,am,.str y,rfl,r,co,?fs⟩) a _ ?sz λp U=>?op⟩;case fs=>
  show tFs K ns 1 {nx:=λ_ Y=>Q .non Y,rt:=Q} _ H;cases ns with
  |nil=>cases L
  |cons f ns=>
   cases ws with
   |nil=>cases hw
   |cons y ws=>exact U6 u c (by simpa using hw.symm) (λj v h=>Dv (by rw[Nat.add_comm];simpa using h)) nd (by rw[aQ] at J;lia) na r λdx h1 h2=>q dx h1 h2
 case sz=>
  show 0+_<=_;have:az=16777216:=rfl;lia
 case op=>
  have o:=bG.mp n p U;cases p with
  |inl c=>
   have o:decide (c.length<=4000)=ai:=o;rw[decide_eq_true_eq] at o;exact o
  |inr i=>
   have o:(decide (1<=i)&&decide (i<=ns.length))=ai:=o;rw[aU,decide_eq_true_eq,decide_eq_true_eq] at o;obtain⟨j,rfl⟩:∃j,i=j+1:=⟨i- 1,by lia⟩;have z:j<ws.length:=by lia
   exact⟨ws[j],Dv (by simp[z]),bG.mp T _ (fU z)⟩
end
theorem Ko{K:af}:∀(ns:List aB) (ds:List D) (a:List V) (d:D),gO K g H ds a->(ns.zip ds).lookup f=aa d->∃v,(ns.zip a).lookup f=aa v/\Rep K g H d v
 |[],ds,a,d,r,h=>by cases h
 |n::ns,[],a,d,r,h=>by cases h
 |n::ns,x::ds,a,d,r,h=>by
  obtain⟨v,ws,rfl,b,c⟩:=r;rw[ck,dq] at h |-;cases e:f==n with
  |true=>rw[e] at h;cases h;exact⟨v,rfl,b⟩
  |false=>rw[e] at h;exact Ko ns ds ws d c h
def Dw (K:af)(f:aB)(b:DE):DE:=λc M Q=>b c M λd M1=>match d with
 |.exc C ns ds=>Kj K C/\jZ K C f/\∃a,(ns.zip ds).lookup f=aa a/\Q a M1
 |_=>False
section
variable {X:Cx}
def adf(c:JE X o te)(hb:cM o f X.env (eval o X.env)=eval o X.env:=by rfl):JE X (.Attribute o f pos) (Dw X.K f te):=by
 refine⟨λb M P Q w q=>c.mono b _ _ _ (λd M1 q=>?_) q,PE.weak (Yw c.p hb) λB H Q q=>?_⟩
 .cases d<;>first|exact q.elim|skip
  obtain⟨e,g,j,h,i⟩:=q;exact⟨e,g,j,h,w _ _ i⟩
 .obtain⟨F,C,b,M,r,q⟩:=q;refine⟨F,C,b,M,r,c.mono b _ _ _ (λd M1 q v m H1 e1 n u=>?_) q⟩;cases d<;>first|exact q.elim|skip
  obtain⟨e,g,j,h,i⟩:=q;obtain⟨a,A,rfl,ha,l,rs⟩:=u;obtain⟨v,y,z⟩:=Ko _ _ _ _ rs h;exact⟨a,_,_,v,rfl,ib _ _ ha,e,g,y,i v m H1 e1 n z⟩
def U8 (K:af):GN:=λds M Q=>match ds with
 |[.exc C ns es,.cls B]=>∃b,Kj K C/\bb K (.ref C) (.ref B)=aa b/\Q (.bl b) M
 |_=>False
def adg:JB X (.builtin mv) (U8 X.K):=by
 refine⟨λds M P Q w q=>?_,λcf s f H xs us Q I rs h=>?_⟩
 .match ds,q with
  |[.exc C ns es,.cls B],⟨b,e1,e2,q⟩=>exact⟨b,e1,e2,w _ _ q⟩
 .obtain⟨F,z,M,ds,o,c,h⟩:=h;match ds,h,c with
  |[.exc C ns es,.cls B],⟨b,e1,e2,q⟩,c=>
   obtain⟨v,u,e,g,i⟩:=FD c;subst e;subst i;obtain⟨a,y,rfl,ha,l,j⟩:=g;obtain⟨m,n,rfl,p,r⟩:=vals2 rs;obtain rfl:m=bI a:=p;obtain rfl:n=bI B:=r;exact Yx I (ib _ _ ha) e1 e2 λtk=>⟨.bl b,H,I.tok tk,rfl,vK.now o q iZ⟩
end
end L3
namespace L2
inductive TC(hW:Hp)(P:Hp->Prop):Hp->Prop
 |cq {H:Hp}:P H->TC hW P H
 |zu {H:Hp} {a:ar} {o:cn} {g8:List (Key×V)}:H a=aa (.qN o (.dK g8))->(∀o u,hW a≠aa (.qN o u))->TC hW P (upd H a (.dK g8))->TC hW P H
abbrev tcE(hW:Hp)(E:XK):XK:=λC od=>TC hW (E C od)
def TC.th(h:TH X (TC X.hW P) H):TC X.hW P H:=by
 rcases h with h|⟨a,o,b,e,n,h⟩
 .exact h
 .exact .zu e n h
section
variable {P:aP}
def U9(h:Wi P w cv H s (tcE H E) e y):Wi P w cv H s E e y:=by
 obtain⟨x,C,od,U,T,rfl,A,B,u,iC,G,f,I,g,i,J⟩:=h;induction J with
 |cq h=>exact⟨x,C,od,_,T,rfl,A,B,u,iC,G,f,I,g,i,h⟩
 |@zu H1 a o Y ha L _ M=>
  have j:∀b,H1 b=am->b≠a:=λb h z=>by rw[z,ha] at h;cases h
  refine M ⟨u.keep,u.slot,λb o q n f=>?_,u.there,λb xs q=>?_,λb o p q=>?_,λb N q=>?_⟩ (λb ob q=>?_) (by rw[gR (j _ g)];exact g) (by rw[gR (j _ i)];exact i)
  .have:=u.free b o q n f;rw[gR (j b this)];exact this
  .have:=u.tq b xs q;rw[gR λz=>by rw[z,ha] at this;cases this];exact this
  .have:=u.qF b o p q;rw[gR λz=>L o p (by rw[<-z];exact q)];exact this
  .obtain⟨m,e⟩:=u.sA b N q;exact⟨m,by rw[gR λz=>by rw[z,ha] at e;cases e];exact e⟩
  .by_cases z:b=a
   .subst z;rw[gZ] at q;cases q;obtain⟨_,z,hd,O,r,ob,es,Q,e,c⟩:=(iC b _ ha);exact⟨z,hd,O,r,ob,es,Q,e,c⟩
   .rw[gR z] at q;refine(iC b ob q).tm (λc v _ r=>r) (λc r=>?_) (λc xs r=>?_)
    .rw[gR λz=>by rw[z,ha] at r;cases r];exact r
    .rw[gR λz=>by rw[z,ha] at r;cases r];exact r
variable {K:af}
def jo.zu{sp a:Sp}(F:jo P w K mg cq (Wi P w) k f fd g a)(h:∀b H Q E,sp b H Q E->a b H Q (tcE H E)):jo P w K mg cq (Wi P w) k f fd g sp:=
 ⟨λb H Q E q=>F.len _ _ _ _ (h _ _ _ _ q),λA cv s H args us b Q E i j hb r q=>cX (F.run A cv s H args us b Q _ i j hb r (h _ _ _ _ q)) λr m c=>by
  cases r with
  |error e=>exact U9 c
  |ok fl=>cases fl<;>exact c⟩
end
end L2
namespace L3
open L2
section
variable {K:af}
def Va{st:cN}(F:gY K mg x st)(n:iE st=body)(es:ij st=scope)(S:ju N a scope)
(hb:∀(kV doc pm:ah) (an:Option ar) (ik ct:ah) (us:List ah),us.length=a.length->dQ (dk x x (jE st) (iE st) (ij st) .none kV doc pm an ik ct) ⟨us,[]⟩=pure (a.zip us))
(i:∀(f:ar) (ik:ah) (A:bq) (cv:List gq) (s:aq) (H:Hp) (E:XK),iV k (A.deeper (dY x scope s.heap.objs.size f ik))->RN (BK P w K mg cq N x scope f ik A cv s H (tcE H E)) (λ_=>tcE H E) body tb):
  qL P w K mg cq (k+1) x a (E2 K (E3 N.length a.length tb)):=by
 have p:qL P w K mg cq (k+1) x a (λc H Q g=>∃E,g=tcE H E/\E2 K (E3 N.length a.length tb) c H Q E):=
  F.agr n es S hb (λc H Q g zq=>by obtain⟨E,_,F,C,M,ds,o,r,hn,u,q⟩:=zq;rw[<-gO.length _ _ r];exact u) λf ik A cv s H c Q g j zq=>by obtain⟨E,e,F,C,M,ds,o,r,hn,q⟩:=zq;subst e;exact YE (i f ik A cv s H E j) rfl ⟨F,C,M,ds,o,r,hn,Q2 (i f ik A cv s H E j).mono _ _ _ _ _ (λ_ q=>q) (λex q v od ws e1 y l xd z=>.cq (q v od ws e1 y l xd z)) q⟩
 obtain⟨f,fd,m,kp,b,B⟩:=p;exact⟨f,fd,m,kp,b,B.zu λc H Q E h=>⟨E,rfl,h⟩⟩
end
section
variable {X:Cx}
def YH (a:DI)(g:DG)(tb:XB):XB:=λx=>lH a g (tb x)
theorem zU{tb:XB}{st:Ms->Prop}(f:∀d a M (P Q:nC->Ms->Prop),(∀a M,P a M->Q a M)->g d a M P->g d a M Q)(hb:∀(x y:EB) (P Q:jK) a M,x.le y->P.le Q->tb x P a M->tb y Q a M)(v:x.le y)(w:P.le Q):∀xs a M,qJ g (tb x) st P xs a M->qJ g (tb y) st Q xs a M
 |[],a,M,q=>w.nx _ _ q
 |z::xs,a,M,q=>f _ _ _ _ _ (λh M1 q=>hb x y {P with nx:=λc b=>st b/\qJ g (tb x) st P xs c b,ct:=λc b=>st b/\qJ g (tb x) st P xs c b,bk:=P.nx} _ _ _ v ⟨λc b q=>⟨q.1,zU f hb v w xs c b q.2⟩,w.rt,w.nx,λc b q=>⟨q.1,zU f hb v w xs c b q.2⟩⟩ q) q
def YI(hi:JI X tg e ti)(hg:JG X tg g)(hb:RN X E body tb)(hE:∀S C od H,TH X (E S C od) H->E S C od H)(hp:ajZ (model X.prog X.w) X.A X.env X.xe)(hc:X.calm=ai:=by rfl)
(hs:∀x,cx e X.env x=pure x:=by intro _;rfl):YA X E (.For tg e body [] pos) (YH ti g tb):=by
 refine⟨λx y P Q G M v w q=>hi.mono G _ _ _ (λitems st M1 q=>⟨q.1,zU hg.mono hb.mono v w _ _ _ q.2⟩) q,yn (Sa hp hc hi.p hg.p hb.p hs) λD S H q=>?_⟩;obtain⟨F,W,G,M,r,q⟩:=q;refine⟨F,W,G,M,r,hi.mono G _ _ _ (λitems st M1 q J iq H1 Hf T e1 o1 z it=>?_) q⟩;obtain⟨s1,q⟩:=q;refine⟨λi m jn n=>m=items.length- i/\i<=items.length/\∃ii O f,Ext F iq Hf M1 ii n f/\R X.K F ii n jn O f/\st f/\qJ g _ st _ (items.drop i) O f,⟨_,rfl,bu _,iq,G,M1,Ext.refl,z.rs (r.grow e1 o1),s1,q⟩,?_⟩
 rintro i m jn n ⟨rfl,hi',ii,O,f,e',B,s',U⟩
 by_cases Y:i<items.length
 .rw[dH Y] at U;refine .inr ⟨it.go i F ii n f e'.pre e'.same B.ok s' Y,λIy I=>∃sZ Xg M2,Ext F iq Hf M1 sZ I M2/\R X.K F sZ I Iy Xg M2/\st M2/\qJ g _ st _ _ Xg M2,λIy I h=>⟨_,by lia,rfl,Y,h⟩,λx I y=>?_⟩;obtain⟨o2,e2,rx⟩:=it.ZO i F ii n f x I items[i] e'.pre e'.same B.ok s' (by simp[Y]) y;refine⟨F,ii,O,f,items[i],B.grow e2 o2,rx,hg.mono _ _ _ _ _ (λTf M3 q3 Sb yk H3 e3 r3=>⟨F,yk,Tf,M3,r3,hb.mono _ _ _ _ _ _ ?ex ?le q3⟩) U⟩;case ex=>
   have wP:=(e'.trans e2).trans e3;intro ex L c o N a b od vs e4 j l xd rp;obtain⟨u,t2,t3⟩:=z.e a b c (wP.trans e4) j.ok;refine hE _ _ _ _ (z.h a b c _ (wP.trans e4) (o N a (T b) od vs (e1.trans u) (z.rt (wP.trans e4) j) l ?_ (gO.imp t3 _ _ rp)));cases od with
   |none=>exact xd
   |some dx=>exact z.k a b c dx _ (wP.trans e4) xd
  case le=>
   have wP:=(e'.trans e2).trans e3;refine⟨λL c o N a b e4 j=>⟨a,L,c,wP.trans e4,j,o⟩,λd c o v a b e4 o4 j=>?_,λL c o N a b e4 j=>?_,λL c o N a b e4 j=>⟨a,L,c,wP.trans e4,j,o⟩⟩
   .obtain⟨u,t2,t3⟩:=z.e a b c (wP.trans e4) o4;exact z.h a b c _ (wP.trans e4) (o v a (T b) (e1.trans u) t2 (t3 d v j))
   .obtain⟨u,_,_⟩:=z.e a b c (wP.trans e4) j.ok;exact z.h a b c _ (wP.trans e4) (o N a (T b) (e1.trans u) (z.rt (wP.trans e4) j))
 .have e:i=items.length:=by lia
  subst e;rw[List.drop_length] at U;obtain⟨u,_,_⟩:=z.e ii n f e' B.ok;exact .inl ⟨it.stop F ii n f e'.pre e'.same B.ok s',z.h ii n f _ e' (U jn ii (T n) (e1.trans u) (z.rt e' B))⟩
end
end L3
namespace L2
def aiI (h:aw)(e:ar)(cls:ah)(od:Option ar)(T:ar):Prop:=
 ∃a b c f v,h.get? e=aa a/\a.cls=cls/\a.dict=od/\a.data=.fields b/\b[1]?=aa (.ref T)/\T≠e/\h.get? T=aa c/\c.data=.fields f/\f[3]?=aa v
def Rec.any{h:aw}{e:ar}{cls:ah}{od:Option ar}{T:ar}(r:Rec h e cls od T):aiI h e cls od T:=by obtain⟨a,b,c,f,g,i,j,m,n,o,p,q,u⟩:=r;exact⟨a,b,c,f,.none,g,i,j,m,n,o,p,q,u⟩
section
variable {s:aq}
end
section
variable {iter:bv}
end
section
variable {iter:bv}
end
end L2
namespace L3
open L2
section
variable {K:af}
def Vb:jC (jk (p::F) a M H) (jk F a M H):=λb x h=>by
 obtain⟨z,q⟩:=iz h;refine kW h (λw=>z ?_) q;rcases bj.mp w with w|w
 .exact bV _ w
 .exact bH _ (ax _ w)
def R.shown(b:p∉F)(r:R K (p::F) α H σ δ M){x:HO}(c:H p=aa x):R K F α H σ δ M:=by
 have e:=r.ok.er b;obtain⟨a,_⟩:=e.laid (p:=p) (x:=x) GG;rw[ab5 c] at a;exact⟨a,r.len,λi d h=>by obtain⟨v,f,g⟩:=r.sl i d h;exact⟨v,f,Rep.mono (bc _) Vb _ _ g⟩⟩
end
section
variable {iter:bv}
end
section
variable {iter:bv}
end
end L3
namespace L2
open PySem.W PySem.Calls Builtin
section
variable {prog:aP} {R:akx->aq->Prop} {d:alN} {t:Nat}
variable {bs:List ah} {sub:List ah}
end
section
variable {prog:aP} {d:alN} {t:Nat}
variable {x:ar} {bs:List ah} {sub:List ah}
end
structure aja(K:af)(C:ar):Prop where
 x:Kh K C
 call:W.specialIn K (.ref C) "__call__"=aa (aa (.builtin kz))
 typ:W.instIn K (.ref C) (.type "type")=aa ai
 init:aF K (.ref C) ft=aa (aa (.builtin rb))
 kp:dr K (.ref C)=ai
section
variable {x:aB} {t:TA}
end
end L2
namespace L3
open L2
section
variable {x:aB}
end
abbrev MT:List ah:=[.type pb,.type ra,.type iv,.type ix]
structure OO(K:af)(C P:ar):Prop where
 hd:W.hasDictIn K C=ai
 po:Ke K C
 so:W.subIn K (.ref C) (.type ix)=aa ai
 sa:aF K (.ref C) oo=aa (aa (.builtin ov))
 call:W.specialIn K (.ref C) "__call__"=aa (aa (.builtin kz))
 typ:W.instIn K (.ref C) (.type "type")=aa ai
 kp:dr K (.ref C)=ai
 ga:aF K (.ref C) pA=aa (aa (.builtin uae))
 gh:aF K (.ref C) "__getattr__"=aa am
 sb:W.subIn K (.ref C) (.type iv)=aa ai
 cl:aF K (.ref C) mu=aa (aa (.builtin im))
 cg:W.specialIn K (.builtin im) pu=aa (aa (.builtin pw))
 tk:W.takesIn K (.builtin im)=aa ai
 ob:W.mroIn K C (.type ix)=aa ai
 oc:∃nm q N bs bm nw sn sub ab col dd k0 k1 k2 k3 k5,K.lookup C=aa (eX nm q C N bs bm nw sn sub ab col dd k0 k1 k2 k3 k5 nu)/\W.tailIn K MT bm=ai/\(bI C::bm).contains (.ref P)=ai/\(bI C::bm).contains (.type iv)=ai
def adh{K:af}(l:K.lookup C=aa (eX nm q C N bs a nw sn sub e col dd f g h i j nu))
(t:W.tailIn K MT a=ai)(c:(bI C::a).contains (.ref P)=ai)(b:(bI C::a).contains (.type iv)=ai):∃nm q N bs a nw sn sub e col dd f g h i j,K.lookup C=aa (eX nm q C N bs a nw sn sub e col dd f g h i j nu)/\W.tailIn K MT a=ai/\(bI C::a).contains (.ref P)=ai/\(bI C::a).contains (.type iv)=ai:=
 ⟨_,_,_,_,_,_,_,_,_,_,_,_,_,_,_,_,l,t,c,b⟩
section
variable {K:af}
def OO.cls(h:OO K C P):Kf K C:=⟨h.hd,h.po,h.so,h.sa⟩
def OO.get(h:OO K C P):Kj K C:=⟨h.hd,h.ga,h.gh,h.sb,h.cl,h.cg,h.tk,h.ob⟩
def OO.obj(h:OO K C P):Kh K C:=by obtain⟨nm,q,N,bs,a,nw,sn,sub,b,col,dd,c,e,f,g,i,l,t,_⟩:=h.oc;exact⟨nm,q,N,bs,a,nw,sn,sub,b,col,dd,c,e,f,g,i,l,λh X=>W.tail_of_in X t⟩
theorem OO.sub(h:OO K C P)(b:OO K P Q):QZ K C P:=by obtain⟨nm,q,N,bs,y,nw,sn,sub,z,col,dd,A,B,E,G,H,l,t,c,_⟩:=h.oc;obtain⟨a,I,J,L,e,f,g,i,j,m,M,n,o,p,r,u,v,O,T,w⟩:=b.oc;exact⟨⟨_,_,_,_,_,_,_,_,_,_,_,_,_,_,_,_,l,c⟩,⟨_,_,_,_,_,_,_,_,_,_,_,_,_,_,_,_,v,w⟩⟩
structure ExI(K:af)(C f:ar)(q:aB)(st:cN):Prop where
 init:aF K (.ref C) ft=aa (aa (.ref f))
 ex:∃fd,uG K ft q st f fd
 fn:W.isFn K (.ref f)=ai
def adi{st:cN}{kV doc pm ik ct:ah}(i:aF K (.ref C) ft=aa (aa (.ref f)))(l:K.lookup f=aa ⟨oc,od,.func (dk ft qual (jE st) (iE st) (ij st) .none kV doc pm an ik ct),IB⟩)
(c:W.codeIn K ik qual=ai)(k:dr K (.ref f)=ai)(n:W.isFn K (.ref f)=ai):ExI K C f qual st:=⟨i,⟨_,LJ l c k⟩,n⟩
def OO.mk_(h:OO K C P){st:cN}(i:ExI K C f q st):XMk K C f:=⟨h.obj,h.call,h.typ,i.init,i.fn,h.kp⟩
end
abbrev sl(ss:List aB):D:=.lst (ss.map .str)
def spT (K:af)(C:ar)(c e:aB):Sp:=λf H Q _=>∃x w a ss,f=[.ref x,.str w,.ref a]/\w.length<=4000/\H a=aa (.lst (ss.map V.str))/\pl (sl ss)=ai/\(cQ.shown (toP (sl ss))).length<=4000/\H x=aa (rX x C am)/\
 ∀b l,H b=am->H l=am->l≠b->Q .non (cH (upd H l (.lst (ss.map V.str))) x b C [(c,.str w),(e,.ref l)])
section
variable {k:Nat} {fd:cI} {x:aB}
structure agz(P:aP)(w:bt)(K:af)(mg:aB->Option ah)(cq:aw)(k:Nat)(x:aB)(C:ar)(f1 f2:aB):Prop where
 m:mg x=aa (.ref C)
 ok:∃f fd ps,XMk K C f/\Binds K fd ps []/\jo P w K mg cq pZ k f fd ps (spT K C f1 f2)
end
noncomputable def wH(M:Ms):Nat->D->D
 |0,d=>d
 |n+1,d=>match vw M d with
  |.lst ds=>.lst (ds.map (wH M n))
  |.tup ds=>.tup (ds.map (wH M n))
  |z=>z
section
variable {K:af}
theorem Dx{b:Hp}{f:D->D}(h:∀d v,Rep K c H d v->Rep K c b (f d) v):∀(ds:List D) (a:List V),gO K c H ds a->gO K c b (ds.map f) a
 |[],a,r=>by unfold gO at r;subst r;exact gO.nil
 |d::ds,a,r=>by unfold gO at r;obtain⟨v,r,rfl,z,y⟩:=r;exact gO.cons (h d v z) (Dx h ds r y)
theorem BL(o:OK K F u H M):∀(n:Nat) (d:D) (v:V),Rep K u (jk F u M H) d v->Rep K u (kE F H) (wH M n d) v
 |0,d,v,h=>Rep.mono (bc _) pE d v h
 |n+1,d,v,h=>by
  have b:=zx o d v h;unfold wH;generalize e:vw M d=z at b |-;cases z<;>first|exact b|skip
  .cases d<;>first|(cases e;done)|skip
   .cases e;unfold Rep at h;obtain⟨a,c,rfl,g,z⟩:=h;show Rep K u _ (.tup _) _;unfold Rep;exact⟨a,c,rfl,mw pE g,Dx (BL o n) _ _ z⟩
   .rcases rP e with e|⟨x,j,e⟩
    .cases e
    .cases x<;>cases e
  .obtain⟨a,c,rfl,q,r⟩:=jg o h e;unfold Rep at b;obtain⟨m,i,e',f,p⟩:=b;cases e';have:=ib _ _ f;rw[q] at this;cases this;show Rep K u _ (.lst _) _;unfold Rep;exact⟨a,c,rfl,f,Dx (BL o n) _ _ r⟩
end
end L3
namespace L2
end L2
namespace L3
open L2
end L3
namespace L2
end L2
namespace L3
open L2
end L3
namespace L2
section
variable {prog:aP} {s:aq}
end
end L2
namespace L3
open L2
section
variable {st:cN} {t:DS}
end
end L3
namespace L2
end L2
namespace L3
open L2
end L3
namespace L2
open PySem.W
def aiJ (h:aw)(e:ar):Prop:=∃a b,h.get? e=aa a/\a.data=.fields b/\b[2]?=aa .none
section
variable {s:aq}
end
def CX2 (P:aP)(w:bt):PC:=λcv H s E e a=>∃x C od b T,e=.ref x/\a.os=s.os/\fE a.gens/\Un (sx cv) [] H b s.heap a.heap/\sy P w b a.heap/\
 Rec a.heap x C od T/\aiJ a.heap x/\s.heap.objs.size<=x/\s.heap.objs.size<=T/\b x=am/\b T=am/\E C od b
section
variable {k:Nat} {fd:cI} {x:aB} {t:TA}
end
section
variable {k:Nat} {fd:cI} {x:aB} {t:TA}
def OP (P:aP)(w:bt)(K:af)(mg:aB->Option ah)(cq:aw)(k:Nat)(x:aB)(ps:List aB)(sp:Sp):Prop:=
 ∃f fd,mg x=aa (.ref f)/\dr K (.ref f)=ai/\Binds K fd ps []/\jo P w K mg cq (CX2 P w) k f fd ps sp
end
section
variable {K:af}
theorem OP.mono{j k:Nat}{x:aB}{a:List aB}{sp:Sp}(h:OP P w K mg cq j x a sp)(c:j<=k):OP P w K mg cq k x a sp:=by obtain⟨f,fd,m,kp,b,F⟩:=h;exact⟨f,fd,m,kp,b,F.mono c⟩
end
end L2
namespace L3
open L2
section
variable {t:XB} {x:aB} {st:cN} {bs:List cN}
structure aiK(P:aP)(w:bt)(K:af)(mg:aB->Option ah)(cq:aw)(k:Nat)(x:aB)(ps:List aB)(g:MR):Prop where
 mono:AT g
 p:OP P w K mg cq k x ps (E2 K g)
end
section
variable {k:Nat} {fd:cI} {x:aB}
end
end L3
namespace L2
open PySem.W
section
variable {prog:aP} {s:aq}
variable {bs:List ah} {sub:List ah}
end
structure OQ(k:Nat)(A:bq):Prop where
 dp:A.depth+3*k+5<akw
 un:A.units+16*k+200<gw
 gd:A.guards=aa []
def OQ.mono{j k:Nat}{A:bq}(r:OQ k A)(h:j<=k):OQ j A:=⟨by have:=r.dp;lia,by have:=r.un;lia,r.gd⟩
structure OR(P:aP)(w:bt)(K:af)(mg:aB->Option ah)(cq:aw)(CX:PC)(k:Nat)(f:ar)(fd:cI)(ps:List aB)(sp:Sp):Prop where
 len:∀vs H Q E,sp vs H Q E->vs.length=ps.length
 run:∀(A:bq) (cv:List gq) (s:aq) (H:Hp) (args:Args) (us:List ah) (vs:List V) (Q:VK) (E:XK),OQ k A->A3 P w K mg cq A cv s H->aj0 s fd args (ps.zip us)->Vals vs us->sp vs H Q E->
  codeAny (model P w) A (.call (.ref f) args) (CR CX cv P w H s Q E) s
theorem OR.mono{P:aP}{w:bt}{K:af}{mg:aB->Option ah}{cq:aw}{a:PC}{j k:Nat}{f:ar}{fd:cI}{b:List aB}{sp:Sp}(F:OR P w K mg cq a j f fd b sp)(h:j<=k):
  OR P w K mg cq a k f fd b sp:=⟨F.len,λA cv s H args us c Q E e=>F.run A cv s H args us c Q E (e.mono h)⟩
section
variable {k:Nat} {fd:cI}
end
end L2
namespace L3
open L2
end L3
namespace L2
open PySem.W
section
variable {s:aq}
end
section
variable {k:Nat} {fd:cI} {x:aB} {t:TA}
end
section
variable {k:Nat} {x:aB} {t:TA}
end
end L2
namespace L3
open L2
abbrev Vc:=List D->Ms->DK->(EX->Ms->Prop)->Prop
abbrev Kp(g:Vc):Prop:=∀ds M (P Q:DK) (x y:EX->Ms->Prop),(∀d M,P d M->Q d M)->(∀e M,x e M->y e M)->g ds M P x->g ds M Q y
abbrev zK(K:af)(F e:List ar)(H:Hp)(M:Ms)(E:XK):EX->Ms->Prop:=λx b=>∀ii a od c,Ext F e H M ii a b->OK K F ii a b->x.ns.length=x.ds.length->XDD a od (x.ns.zip c)->gO K ii (jk F ii b a) x.ds c->E (.ref x.C) od a
def MU (K:af)(g:Vc):Sp:=λa H Q E=>∃F b M ds,OK K F b H M/\gO K b (jk F b M H) ds a/\g ds M (vK K F b H M Q) (zK K F b H M E)
def Q5 (n m:Nat)(tb:XB):Vc:=λds M Q b=>ds.length=m/\tb (λe _ a=>b e a) ⟨λ_ a=>Q .non a,Q,λ_ _=>False,λ_ _=>False⟩ (p4 n ds) M
section
variable {P:aP} {K:af}
def Q6{n m:Nat}{tb:XB}(hb:∀(x y:EB) (P Q:jK) a M,x.le y->P.le Q->tb x P a M->tb y Q a M):Kp (Q5 n m tb):=λds M P Q x y w v q=>⟨q.1,by
 refine hb _ _ _ _ _ _ (λe _ M q=>v _ _ q) ?_ q.2;exact⟨λ_ _ q=>w _ _ q,λ_ _ q=>w _ _ q,λ_ _ q=>q,λ_ _ q=>q⟩⟩
def YJ{n:List aB}{ps:List aB}{X:Cx}{body:List cN}{tb:XB}{E:XK}(b:RN X (λ_=>E) body tb){H:Hp}{c:List V}{Q:VK}(f:X.K=K)(h:MU K (Q5 n.length ps.length tb) c H Q E):
  ∃t,wX X body t/\t {nx:=λ_ a=>Q .non a,rt:=Q} (L2.start n c) H:=by subst f;obtain⟨F,w,M,ds,o,r,u,q⟩:=h;refine⟨_,b.p,F,w,p4 n.length ds,M,Bq o r,b.mono _ _ _ _ _ _ (λe v g q i ii a od ws ext j l xd m=>q ii a od ws ext j.ok l xd m) ?_ q⟩;exact⟨λy g q i ii a e r=>q _ ii a e r.ok qP,λ_ _ q=>q,λ_ _ q=>q.elim,λ_ _ q=>q.elim⟩
structure YK(P:aP)(w:bt)(K:af)(mg:aB->Option ah)(cq:aw)(k:Nat)(C:ar)(m:aB)(g:Vc):Prop where
 mono:Kp g
 cl:Ls K C
 ok:∃f fd ps,Meth K C m f/\Binds K fd ps []/\jo P w K mg cq (Wi P w) k f fd ps (MU K g)
def l9.x{k:Nat}{C:ar}{m:aB}{g:GN}(h:l9 P w K mg cq k C m g):YK P w K mg cq k C m λds M Q _=>g ds M Q:=by
 obtain⟨f,fd,j,a,b,F⟩:=h.ok;refine⟨λds M P Q _ _ w _ q=>h.mono _ _ _ _ w q,h.cl,f,fd,j,a,b,λc H Q E q=>F.len c H Q E q,λA cv s H args us c Q E n o hb r q=>cX (F.run A cv s H args us c Q E n o hb r q) λr p i=>?_⟩;cases r with
 |error e=>exact i.elim
 |ok fl=>cases fl<;>exact i
structure ajb(P:aP)(w:bt)(K:af)(mg:aB->Option ah)(cq:aw)(k:Nat)(f:ar)(g:MR):Prop where
 mono:AT g
 ok:∃fd ps,dr K (.ref f)=ai/\Binds K fd ps []/\jo P w K mg cq (CX2 P w) k f fd ps (E2 K g)
end
section
variable {x:aB} {k:Nat}
end
structure agA(P:aP)(w:bt)(K:af)(mg:aB->Option ah)(cq:aw)(k:Nat)(x:aB)(C:ar)(ns:List aB):Prop where
 m:mg x=aa (.ref C)
 ok:∃f fd ps,XMk K C f/\Binds K fd ps []/\OR P w K mg cq pZ k f fd ps (spI C ns)
section
variable {k:Nat} {x:aB}
end
end L3
namespace L2
open PySem.W
end L2
namespace L3
open L2
def spR (C:ar)(f:aB):Sp:=λb H Q _=>∃x w,b=[.ref x,.str w]/\(reprText w).length<=4000/\H x=aa (rX x C am)/\
 ∀a,H a=am->a≠x->Q .non (upd (upd H a (RM a [(f,.str w)])) x (rX x C (aa a)))
section
variable {x:aB}
end
section
variable {k:Nat} {fd:cI} {x:aB}
structure agB(P:aP)(w:bt)(K:af)(mg:aB->Option ah)(cq:aw)(k:Nat)(x:aB)(C:ar)(f1:aB):Prop where
 m:mg x=aa (.ref C)
 ok:∃f fd ps,XMk K C f/\Binds K fd ps []/\jo P w K mg cq pZ k f fd ps (spR C f1)
end
noncomputable def tgN:bv->List aB
 |.Name x _=>[x]
 |.Tuple es _ _=>es.filterMap λe=>match e with|.Name x _=>aa x|_=>am
 |_=>[]
noncomputable def RO(N:List aB)(tg:bv)(fr:List (Option Nat)):List aB:=tgN tg++fr.filterMap λo=>o.bind λi=>N[i]?
section
variable {X:Cx} {iter:bv}
def agC(h:yg X.N (RO X.N target fr) fr scope X.env.scope=ai)(hi:JI X target iter ti)(a:EI g)
(b:∀C ex cf hU hW,JG (uO X scope (RO X.N target fr) C ex cf hU hW λ_ _=>False) target g)(ht:∀C ex cf hU hW,Z9 (uO X scope (RO X.N target fr) C ex cf hU hW λ_ _=>False) ifs tt)(c:∀C ex cf hU hW,JE (uO X scope (RO X.N target fr) C ex cf hU hW λ_ _=>False) elt te)
(e:X.calm=ai:=by rfl)(f:∀x,cx iter X.env x=pure x:=by intro _;rfl):JF X (.ListComp elt [⟨target,iter,ifs,0⟩] scope pos) (iX fr ti g tt te):=
 Bt (l8.of h) hi a b ht c e f
def agD{N:List aB}(h:decide N.Nodup=ai):N.Nodup:=of_decide_eq_true h
def agE(i:Nat){x:aB}{p a:dA}(b:X.N.Nodup)(h:yg X.N (RO X.N target fr) fr scope X.env.scope=ai)(hi:JI X target iter ti)(c:EI g)
(e:∀C ex cf hU hW,JG (uO X scope (RO X.N target fr) C ex cf hU hW λ_ _=>False) target g)(ht:∀C ex cf hU hW,Z9 (uO X scope (RO X.N target fr) C ex cf hU hW λ_ _=>False) ifs tt)(f:∀C ex cf hU hW,JE (uO X scope (RO X.N target fr) C ex cf hU hW λ_ _=>False) elt te)
(j:X.N[i]?=aa x:=by rfl)(m:Loc X.env.scope x:=by first|exact dP rfl|exact c9 rfl)
(n:c5 (.ListComp elt [⟨target,iter,ifs,0⟩] scope pos) (aa (.Name x p)) a.line X.env=pure ai:=by rfl)(o:X.fn x=ai\/X.env.scope.names.lookup x=aa .local:=by first|exact .inl rfl|exact .inr rfl|assumption)
(q:X.calm=ai:=by rfl)(r:∀x,cx iter X.env x=pure x:=by intro _;rfl):
  JS X (.Assign [.Name x p] (.ListComp elt [⟨target,iter,ifs,0⟩] scope pos) a) (iF i (iS (iX fr ti g tt te))):=Tj i b (l8.of h) hi c e ht f j m n o q r
def agF(i:Nat){x:aB}{p a:dA}(b:X.N.Nodup)(h:yg X.N (RO X.N target fr) fr scope X.env.scope=ai)(hi:JI X target iter ti)(c:EI g)
(e:∀C ex cf hU hW,JG (uO X scope (RO X.N target fr) C ex cf hU hW λ_ _=>False) target g)(ht:∀C ex cf hU hW,Z9 (uO X scope (RO X.N target fr) C ex cf hU hW λ_ _=>False) ifs tt)(f:∀C ex cf hU hW,JE (uO X scope (RO X.N target fr) C ex cf hU hW λ_ _=>False) elt te)
(j:X.N[i]?=aa x:=by rfl)(m:Loc X.env.scope x:=by first|exact dP rfl|exact c9 rfl)
(n:c5 (.ListComp elt [⟨target,iter,ifs,0⟩] scope pos) (aa (.Name x p)) a.line X.env=pure ai:=by rfl)(o:X.fn x=ai\/X.env.scope.names.lookup x=aa .local:=by first|exact .inl rfl|exact .inr rfl|assumption)
(q:X.calm=ai:=by rfl)(r:∀x,cx iter X.env x=pure x:=by intro _;rfl):
  JS X (.Assign [.Name x p] (.ListComp elt [⟨target,iter,ifs,0⟩] scope pos) a) (iF i (lD (iX fr ti g tt te))):=Tk i b (l8.of h) hi c e ht f j m n o q r
end
structure OS(P:aP)(w:bt)(K:af)(mg:aB->Option ah)(cq:aw)(k:Nat)(x:aB)(ps:List aB)(g:Vc):Prop where
 mono:Kp g
 p:qL P w K mg cq k x ps (MU K g)
def dCG (g:Vc)(tt:XA):XE:=λx a M Q=>tt x a M λds M1=>g ds M1 Q λe M2=>x e a M2
section
variable {X:Cx} {x:aB}
def adj{k:Nat}{i:List aB}{g:Vc}(h:OS X.prog X.w X.K X.mg X.cq k x i g)(b:iV k X.A)(c:tZ X E)(ha:JAX X E (e::es) tt)(j:Gl X x:=by rfl)(m:(x==(dV:aB))=ao:=by decide)
(n:aV (e::es) X.env=(ao,eval e X.env)::aV es X.env:=by rfl)(o:(cO pos (aV es X.env)).any (·.1)=ao:=by rfl):JEX X E (.Call (.Name x p) (e::es) [] pos) (dCG g tt):=by refine⟨λx y a M P Q v w q=>ha.mono _ _ a _ _ _ v (λds M1 q=>h.mono _ _ _ _ _ _ w (λe M q=>v _ _ _ q) q) q,PE.weak (U0 h.p b c ha.p j m n o) λL H Q q=>?_⟩;obtain⟨F,N,a,M,r,q⟩:=q;refine⟨F,N,a,M,r,ha.mono _ _ a _ _ _ (EB.rfl _) (λds M1 q I u H1 e1 f z=>?_) q⟩;exact⟨F,u,M1,ds,f,z,h.mono _ _ _ _ _ _ (vK.grow e1) (λex J q B C od ws e3 G l c b=>q L B C od ws (e1.trans e3) ((r.grow e1 f).grow e3 G) l c b) q⟩
end
section
variable {K:af}
def agG{x:aB}{st:cN}{N a:List aB}{k:Nat}{body:List cN}{scope:cS}{tb:XB}(F:gY K mg x st)(n:iE st=body)(es:ij st=scope)(S:ju N a scope)
(hb:∀(kV doc pm:ah) (an:Option ar) (ik ct:ah) (us:List ah),us.length=a.length->dQ (dk x x (jE st) (iE st) (ij st) .none kV doc pm an ik ct) ⟨us,[]⟩=pure (a.zip us))
(i:∀(f:ar) (ik:ah) (A:bq) (cv:List gq) (s:aq) (H:Hp) (E:XK),iV k (A.deeper (dY x scope s.heap.objs.size f ik))->RN (BK P w K mg cq N x scope f ik A cv s H (tcE H E)) (λ_=>tcE H E) body tb):
  qL P w K mg cq (k+1) x a (MU K (Q5 N.length a.length tb)):=by
 have p:qL P w K mg cq (k+1) x a (λc H Q g=>∃E,g=tcE H E/\MU K (Q5 N.length a.length tb) c H Q E):=
  F.agr n es S hb (λc H Q g zq=>by obtain⟨E,_,F,G,M,ds,o,r,u,q⟩:=zq;rw[<-gO.length _ _ r];exact u) λf ik A cv s H c Q g j zq=>by obtain⟨E,e,F,G,M,ds,o,r,q⟩:=zq;subst e;exact YJ (ps:=a) (i f ik A cv s H E j) rfl ⟨F,G,M,ds,o,r,Q6 (i f ik A cv s H E j).mono _ _ _ _ _ _ (λ_ _ q=>q) (λex C q ii v od ws e1 y l xd z=>.cq (q ii v od ws e1 y l xd z)) q⟩
 obtain⟨f,fd,m,kp,b,B⟩:=p;exact⟨f,fd,m,kp,b,B.zu λc H Q E h=>⟨E,rfl,h⟩⟩
def agH{k:Nat}{x:aB}{b:List aB}{g a:Vc}(h:qL P w K mg cq k x b (MU K g))(m:Kp a)(i:∀ds M Q y,a ds M Q y->g ds M Q y):OS P w K mg cq k x b a:=
 ⟨m,h.imp λc H Q E zq=>by obtain⟨F,e,M,ds,o,r,q⟩:=zq;exact ⟨F,e,M,ds,o,r,i _ _ _ _ q⟩⟩
end
section
variable {X:Cx}
def YL:G2:=λx y M Q=>okE (wH M 6 x) (wH M 6 y)/\Q (.bl (!yq (wH M 6 x) (wH M 6 y))) M
def adk(c:X.A.units+64<gw):JC X .NotEq YL:=by refine⟨λx y M P Q w q=>⟨q.1,w _ _ q.2⟩,λcf s B H x y v u Q I e f h=>?_⟩;obtain⟨F,C,M,r,z,o,g,i,⟨a,b,j,m⟩,h⟩:=h;obtain⟨as,n⟩:=Rep.reads I _ x v (Rep.mono (bc _) ib _ _ (BL o 6 _ _ g)) e a;obtain⟨bs,p⟩:=Rep.reads I _ y u (Rep.mono (bc _) ib _ _ (BL o 6 _ _ i)) f b;refine ne_dataH n p (pV a j) (pV b m) c ⟨.bl _,H,I,rfl,?_⟩;rw[toP_eqv _ _ a b];exact vK.now o h iZ
end
end L3
end
namespace kF
open PySem PySem.Spec PyProof.Rows L2 L3 FJ
abbrev oG:L3.G2:=gI (λ_ j=>0<j) λi j=>.int (i%j)
abbrev adl:L3.G2:=gI abl λi j=>.int (i^j.toNat)
abbrev adm:L3.G2:=RH λi j=>.int (i- j)
noncomputable def top(i:Nat):cN:=PySem.Challenge.pw_farjump_k18_aims.main.body.getD i (.Pass ⟨0,0,0,0⟩)
section
variable {K:af} {k:Nat}
structure FI(s:cN)(N ps:List aB) where
 b:List cN
 c:cS
 hb:iE s=b
 hc:ij s=c
 sc:ju N ps c
local macro_rules | `(tactic| walk_at "a") => `(tactic| exact ⟨_, _, by (conv => lhs; whnf), by (conv => lhs; whnf), rfl, rfl, rfl, by decide +kernel, rfl, by decide +kernel, by decide +kernel⟩)
theorem us1:∀{us:List ah},us.length=1->∃a,us=[a]
 |[a],_=>⟨a,rfl⟩
def us2{us:List ah}(h:us.length=2):∃a b,us=[a,b]:=by
 cases us with
 |nil=>nomatch h
 |cons a r=>
  obtain⟨b,q⟩:=us1 (Nat.succ.inj h);exact⟨a,b,congrArg (a::·) q⟩
def us3{us:List ah}(h:us.length=3):∃a b c,us=[a,b,c]:=by
 cases us with
 |nil=>nomatch h
 |cons a r=>
  obtain⟨b,c,q⟩:=us2 (Nat.succ.inj h);exact⟨a,b,c,congrArg (a::·) q⟩
def us4{us:List ah}(h:us.length=4):∃a b c d,us=[a,b,c,d]:=by
 cases us with
 |nil=>nomatch h
 |cons a r=>
  obtain⟨b,c,d,q⟩:=us3 (Nat.succ.inj h);exact⟨a,b,c,d,congrArg (a::·) q⟩
local macro_rules | `(tactic| walk_at "c") => `(tactic| (intro _ _ _ _ _ _ us hl; first | (obtain ⟨_, e⟩ := us1 hl; subst e; rfl) | (obtain ⟨_, _, e⟩ := us2 hl; subst e; rfl) | (obtain ⟨_, _, _, e⟩ := us3 hl; subst e; rfl) | (obtain ⟨_, _, _, _, e⟩ := us4 hl; subst e; rfl) | (obtain ⟨_, _, _, _, _, e⟩ := us5 hl; subst e; rfl) | (obtain ⟨_, _, _, _, _, _, e⟩ := us6 hl; subst e; rfl)))
structure Zs(mg:aB->Option ah):Prop where
 isinstance:mg mv=am
 int:mg ic=am
 bool:mg jd=am
 str:mg hX=am
 len:mg kI=am
 all:mg "all"=am
 tuple:mg dy=am
 list:mg ap=am
 zip:mg hR=am
 set:mg fi=am
 sum:mg "sum"=am
 enumerate:mg hY=am
 sorted:mg gc=am
 dict:mg fe=am
 range:mg ky=am
 Dy:∃t,mg "LONGEST_WORD"=aa (.int 8 t)
 Dz:∃t,mg "LONGEST_LIST"=aa (.int 60 t)
 MV:∃t,mg "LAST_BOX"=aa (.int 3 t)
 DB:∃t,mg "LEAST_NUMBER"=aa (.int (-2147483648) t)
 yP:∃t,mg uaG=aa (.int 2147483647 t)
 wI:∃t,mg uaH=aa (.int 60 t)
 Hn:∃t,mg "MOST_PARTS"=aa (.int 12 t)
 Kq:∃t,mg "MOST_ROWS"=aa (.int 200 t)
 Ho:∃t,mg "MOST_MARKS"=aa (.int 200 t)
variable {fd:cI} {mG lU mU t9 mV nU iD iW jX lZ qZ mJ ua:GN} {jf pH:zF}
def adn:bR "all"=aa (.builtin "all"):=by decide+kernel
def YM:bR jd=aa (.type jd):=by decide+kernel
def OT:bR fe=aa (.type fe):=by decide+kernel
def ado:bR ic=aa (.type ic):=by decide+kernel
def rY:bR mv=aa (.builtin mv):=by decide+kernel
def adp:bR kI=aa (.builtin kI):=by decide+kernel
def Hq:bR ap=aa (.type ap):=by decide+kernel
def F7:bR gc=aa (.builtin gc):=by decide+kernel
def adq:bR hX=aa (.type hX):=by decide+kernel
def adr:bR "sum"=aa (.builtin "sum"):=by decide+kernel
def yR:bR dy=aa (.type dy):=by decide+kernel
open Lean in
def rdF(s:String):MacroM (TSyntax `tactic):=do
 let mut al:Array (TSyntax `tactic):=#[]
 let n(t:String):Term:=mkIdent t.toName
 for r in s.splitOn "|" do
  let mut st:List (Array Term):=[#[]]
  let mut ts:Array (TSyntax `tactic):=#[]
  let mut g:=ao
  for t in r.splitOn " " do
   if t==";" then g:=ai
   else if g then ts:=ts.push (<-`(tactic|walk_at $(Syntax.mkStrLit t)))
   else if t=="(" then st:=#[]::st
   else if t==")" then st:=match st with
    |a::b::l=>b.push (Syntax.mkApp a[0]! (a.extract 1 a.size))::l
    |_=>st
   else
    let e:Term<-match t with
    |"?"=>`(?_)
    |"_"=>`(_)
    |"A"=>`(by assumption)
    |"K"=>`(by kernel_rfl)
    |"F"=>`(fun _ _ _ _ _=>?_)
    |"H"=>`(fun _ _ _ _=>?_)
    |"G"=>`(fun _=>?_)
    |"@"=>do pure ⟨<-`(Parser.Term.namedArgument|($(mkIdent `hp) := $(n "ajZ.leaving")))⟩
    |"J"=>`(fun _ _ _ _ h=>$(n "TC.th") h)
    |"+"=>do pure ⟨<-`(Parser.Term.namedArgument|($(mkIdent `f) := fun a b=>a+b))⟩
    |_=>pure (n t)
    st:=match st with
    |a::l=>a.push e::l
    |_=>st
  let a:=st.head!
  let e:=Syntax.mkApp a[0]! (a.extract 1 a.size)
  al:=al.push (<-if g then `(tactic|(refine $e;($[$ts:tactic];*))) else `(tactic|exact $e))
 `(tactic|first $[|$al:tactic]*)
local macro_rules
|`(tactic|walk_at "p")=>rdF "aai ( iV.units A )|afC ( iV.units A )|afo|afp|afn|afE A|Tx A|acz A|afq|Jj A|Tn|adk ( iV.units A )|aai A"
|`(tactic|walk_at "rdO_")=>rdF "acd|aca|ab9|acb|acp|Xk|UJ"
|`(tactic|walk_at "g")=>rdF "Cp|yl ? ? ; e g"
|`(tactic|walk_at "e")=>rdF "j_v _|Z1|afb|afd ( jx A ) ? ? ; e e|aid A A ? ; g|afj ? ; g|S9 ? ; y|Z7 ? ; y|aib ? ? ? ; rdO_ e e|aia|afa|Z2 ? ? ? ; p e e|j_b acq ( Zs.len A ) adp ? ; g|j_b TK ( Zs.isinstance A ) rY ? ; g|j_b acr ( Zs.all A ) adn ? ; g|j_b acH ( Zs.sum A ) adr ? ; g|j_b adg ( Zs.isinstance A ) rY ? ; g|act P9 PySem.F.plainAttrs_list PySem.F.slot_list_append PySem.F.type_list_append ? ? ; e g|act Qa PySem.F.plainAttrs_list PySem.F.slot_list_extend PySem.F.type_list_extend ? ? ; e g|act Qn PySem.F.plainAttrs_dict PySem.F.slot_dict_setdefault PySem.F.type_dict_setdefault ? ? ; e g|Xa A|acY _|afF ? ; e|aio ? ? ? ; e t t|afh ? ; e|afg ? ? ; e e|Xy A A ? ; e|Xz A A A ? ; g|aaj ? ; e|adf ? ; e|afi ? ? ? ; j e e|NY ? ? ? ? ? ; p p e e e|afd ( acv A ) ? ? ; e e|j_t Je ( Zs.tuple A ) yR ? ; g|T3 ( iV.hd A ) ( Zs.len A ) ( Zs.set A ) ? ; e|W9 ( Zs.Dy A )|W9 ( Zs.Dz A )|W9 ( Zs.MV A )|W9 ( Zs.DB A )|W9 ( Zs.yP A )|W9 ( Zs.wI A )|W9 ( Zs.Hn A )|W9 ( Zs.Kq A )|W9 ( Zs.Ho A )|afc ( Zs.int A ) ado|afc ( Zs.bool A ) YM|afc ( Zs.str A ) adq|afc ( Zs.tuple A ) yR|afc ( Zs.list A ) Hq|afc ( Zs.dict A ) OT|aff ? ; e|Yo ? rfl rfl ( dw _ _ ) ( ag rfl ) ; rdD_|afk A A|aic ? ? ; e e|agi ? ? ; e t|afJ TN PySem.F.plainAttrs_list PySem.F.slot_list_clear PySem.F.type_list_clear ? ; e"
|`(tactic|walk_at "t")=>rdF "Tz|TD ? ; e"
|`(tactic|walk_at "y")=>rdF "abY ? ; g|Ta|agC K ? ? F F F ; o q n v e|acs Jf ( Zs.list A ) Hq ? ; g|afH QR ( Zs.sorted A ) F7 ? ; g|afH ( Md ( iV.hd A ) ) ( Zs.sorted A ) F7 ? ; g|acs ( T7 ( iV.hd A ) ) ( Zs.dict A ) OT ? ; g"
|`(tactic|walk_at "rdD_")=>rdF "acy|XJ ? ? ? ; e e rdD_"
|`(tactic|walk_at "q")=>rdF "N4|XI ? ; rdM_"
|`(tactic|walk_at "rdM_")=>rdF "ab6|TU ? ? ; q rdM_"
|`(tactic|walk_at "v")=>rdF "N2|Xj ? ; j"
|`(tactic|walk_at "n")=>rdF "NZ _ A|NZ _ ( agD K )|ab1 ? ; x|ac1 ? ; x|acu ? ? ; e e"
|`(tactic|walk_at "x")=>rdF "Xf|Td ? ? ; n x"
|`(tactic|walk_at "o")=>rdF "P4 ? ( Zs.range A ) ; g|Xt ? ( Zs.enumerate A ) ; g|acl ? ( Zs.zip A ) ; g|UG ? ; e|Tw ? ; e"
|`(tactic|walk_at "j")=>rdF "abU ? ? ? ; p e e|abV ? ; j|Z3 ( Z4 ? ? ) ; j r|Z3 ( SX ? ? ) ; j r|SY ? ? ? ? ? ; p p e e e|SV ? ; e"
|`(tactic|walk_at "r")=>rdF "Z4 ? ? ; j r|SX ? ? ; j r|abW ? ; j|Xb ? ; j"
|`(tactic|walk_at "b")=>rdF "abZ|Xd ? ? ; s b|LP ? ; s"
|`(tactic|walk_at "s")=>rdF "LQ ? ; e|afl ? ? ? ; j b b|Xe ? ; e|agE _ A K ? ? F F F ; o q n v e|agF _ A K ? ? F F F ; o q n v e|ab0 _ A ? ; e|Te ? ? ? ; o n b|Te ? ? ? @ ; o n b|XN A ? ? ? ; e e e|ab2 ? ? ; e n|XM + _ A Z1 acA|XM + _ A ( j_v _ ) acA|Tc|XG ? ? ; e e|adc A A H G ; m b"
|`(tactic|walk_at "m")=>rdF "Fz.tox ? ; b|U1 ? ? ; rdY_ m|YB ? ; rdY_"
|`(tactic|walk_at "rdY_")=>rdF "JS.tox ? ; s|U2 ? ; u|YC _ A ? ; u|ac9 ? ? ? ; j m m|YD ? ? ; u n|YI ? ? ? J ajZ.leaving ; o n m|Q4 A A ? ; g"
|`(tactic|walk_at "u")=>rdF "JE.tox ? ; e|agt A A A ? ; z|agt A A aaA ? ; z|adj A A A ? ; z|adj A A aaA ? ; z"
|`(tactic|walk_at "z")=>rdF "JA.tox ? ; g"
noncomputable def qj:FI (hZ (top 7) 0) [cr,ef,ek,eH] [cr,ef,ek,eH]:=by walk_at "a"
def DC{B C:ar}(F:uG K ft uaI (hZ (top 7) 0) f fd)(a:Kg K B)(m:mg uaf=aa (.ref B))(c:Kf K C)(co:Kh K C)(na:∀g∈([ef,ek,eH]:List aB),jZ K C g):jo P w K mg cq pZ (k+1) f fd [cr,ef,ek,eH] (spI C [ef,ek,eH]):=
 U7 F qj.hb qj.hc qj.sc c co na (λik A cv s H E=>agy (pl:=_) a m (Du (F6 2 (Du (F6 3 (Du (F6 1 OM)))))) (sS (sS (sS ON))))
def Bf(F:uG K ft uaI (hZ (top 7) 0) f fd):Binds K fd [cr,ef,ek,eH] []:=F.binds (by walk_at "c")
noncomputable def oY:FI (hZ (top 8) 0) [cr,ef,ek,eH] [cr,ef,ek,eH]:=by walk_at "a"
def Bg{B C:ar}(F:uG K ft uaJ (hZ (top 8) 0) f fd)(a:Kg K B)(m:mg uaf=aa (.ref B))(c:Kf K C)(co:Kh K C)(na:∀g∈([ef,ek,eH]:List aB),jZ K C g):jo P w K mg cq pZ (k+1) f fd [cr,ef,ek,eH] (spI C [ef,ek,eH]):=
 U7 F oY.hb oY.hc oY.sc c co na (λik A cv s H E=>agy (pl:=_) a m (Du (F6 2 (Du (F6 3 (Du (F6 1 (Du OM))))))) (sS (sS (sS ON))))
def zV(F:uG K ft uaJ (hZ (top 8) 0) f fd):Binds K fd [cr,ef,ek,eH] []:=F.binds (by walk_at "c")
noncomputable def ub:FI (top 11) [dt] [dt]:=by walk_at "a"
def MW(D:gY K mg rh (top 11))(Z:Zs mg):lM P w K mg cq (k+1) rh [dt] (jU K (cl (jl 1 1 (CY K)))):=
 iQ D ub.hb ub.hc ub.sc (by walk_at "c") λf ik A cv s H E a=>by have b:=il a;have nd:=ub.sc.nd;walk_at "b"
noncomputable def wq:FI (top 12) [dt] [dt]:=by walk_at "a"
def Q7(D:gY K mg qa (top 12))(Z:Zs mg):lM P w K mg cq (k+1) qa [dt] (jU K (cl (jl 1 1 (zN K)))):=
 iQ D wq.hb wq.hc wq.sc (by walk_at "c") λf ik A cv s H E a=>by have b:=il a;have nd:=wq.sc.nd;walk_at "b"
noncomputable def uc:FI (hZ (top 19) 0) [cr,ec] [cr,ec]:=by walk_at "a"
def MX(F:uG K ft "Row.__init__" (hZ (top 19) 0) f fd):jo P w K mg cq pZ (k+1) f fd [cr,ec] (jU K (Cs 2 2 (CZ K))):=
 P7 F uc.hb uc.hc uc.sc λik A cv s H E a=>by have b:=il a;have nd:=uc.sc.nd;walk_at "b"
def Kr(F:uG K ft "Row.__init__" (hZ (top 19) 0) f fd):Binds K fd [cr,ec] []:=F.binds (by walk_at "c")
noncomputable def jA:FI (hZ (top 19) 1) [cr] [cr]:=by walk_at "a"
def AU(Z:Zs mg)(f:ar)(ik:ah)(A:bq)(cv:List gq)(s:aq)(H:Hp)(E:XK)(a:iV k (A.deeper (dY qb jA.c s.heap.objs.size f ik))):
  Fz (rK pZ P w K mg cq [cr] qb jA.c f ik A cv s H E).ED jA.b (oF K):=by have e:=il a;exact(LP (LQ (j_t Je Z.tuple yR (yl (S9 (Bt (N:=["one"]) (fr:=[am]) (l8.of (PP:=[cr]) (w5:=jA.c) (by decide+kernel)) (Tw (aaj (j_v 0))) N4 (λ_ _ _ _ _=>(NZ 0 (show List.Nodup (["one"]:List aB) by decide+kernel))) (λ_ _ _ _ _=>N2) (λ_ _ _ _ _=>(afi (SV (j_b TK Z.isinstance rY (yl (j_v 0) (yl (afc Z.tuple yR) Cp)))) (Z7 (acs Jf Z.list Hq (yl (j_v 0) Cp))) (j_v 0))))) Cp))))
def AV(F:uG K fq qb (hZ (top 19) 1) f fd)(Z:Zs mg):jo P w K mg cq pZ (k+1) f fd [cr] (jU K (cl (jl 1 1 (oF K)))):=
 P8 F jA.hb jA.hc jA.sc (λik A cv s H E a=>AU Z f ik A cv s H E a)
def Hr(F:uG K fq qb (hZ (top 19) 1) f fd)(Z:Zs mg):jo P w K mg cq pZ (k+1) f fd [cr] (jU K (Cs 1 1 (oF K))):=
 P7 F jA.hb jA.hc jA.sc (λik A cv s H E a=>AU Z f ik A cv s H E a)
def ud(F:uG K fq qb (hZ (top 19) 1) f fd):Binds K fd [cr] []:=F.binds (by walk_at "c")
noncomputable def re:FI (hZ (top 19) 3) [cr] [cr]:=by walk_at "a"
def oJ(F:uG K hB "Row.asked" (hZ (top 19) 3) f fd):jo P w K mg cq pZ (k+1) f fd [cr] (jU K (Cs 1 1 AK)):=
 P7 F re.hb re.hc re.sc λik A cv s H E a=>by have b:=il a;have nd:=re.sc.nd;walk_at "b"
def mW(F:uG K hB "Row.asked" (hZ (top 19) 3) f fd):Binds K fd [cr] []:=F.binds (by walk_at "c")
noncomputable def nW:FI (hZ (top 19) 4) [cr] [cr]:=by walk_at "a"
def rZ(F:uG K hJ "Row.goes_on" (hZ (top 19) 4) f fd):jo P w K mg cq pZ (k+1) f fd [cr] (jU K (cl (jl 1 1 wR))):=
 P8 F nW.hb nW.hc nW.sc λik A cv s H E a=>by have b:=il a;have nd:=nW.sc.nd;walk_at "b"
def qk(F:uG K hJ "Row.goes_on" (hZ (top 19) 4) f fd):Binds K fd [cr] []:=F.binds (by walk_at "c")
noncomputable def kq:FI (hZ (top 21) 0) [cr] [cr]:=by walk_at "a"
def ku(F:uG K hJ uaK (hZ (top 21) 0) f fd):jo P w K mg cq pZ (k+1) f fd [cr] (jU K (cl (jl 1 1 qR))):=
 P8 F kq.hb kq.hc kq.sc λik A cv s H E a=>by have b:=il a;have nd:=kq.sc.nd;walk_at "b"
def j5(F:uG K hJ uaK (hZ (top 21) 0) f fd):Binds K fd [cr] []:=F.binds (by walk_at "c")
noncomputable def kx:FI (hZ (top 24) 0) [cr] [cr]:=by walk_at "a"
def yS(F:uG K hJ uaL (hZ (top 24) 0) f fd):jo P w K mg cq pZ (k+1) f fd [cr] (jU K (cl (jl 1 1 yv))):=
 P8 F kx.hb kx.hc kx.sc λik A cv s H E a=>by have b:=il a;have nd:=kx.sc.nd;walk_at "b"
def xy(F:uG K hJ uaL (hZ (top 24) 0) f fd):Binds K fd [cr] []:=F.binds (by walk_at "c")
noncomputable def lu:FI (hZ (top 26) 1) [cr] [cr]:=by walk_at "a"
def zW(F:uG K hB uaM (hZ (top 26) 1) f fd)(Z:Zs mg):jo P w K mg cq pZ (k+1) f fd [cr] (jU K (Cs 1 1 (sJ K))):=
 P7 F lu.hb lu.hc lu.sc λik A cv s H E a=>by have b:=il a;have nd:=lu.sc.nd;walk_at "b"
def yT(F:uG K hB uaM (hZ (top 26) 1) f fd):Binds K fd [cr] []:=F.binds (by walk_at "c")
noncomputable def mX:FI (hZ (top 27) 1) [cr] [cr]:=by walk_at "a"
def vq(F:uG K hB "AimRow.asked" (hZ (top 27) 1) f fd):jo P w K mg cq pZ (k+1) f fd [cr] (jU K (Cs 1 1 (u9 K))):=
 P7 F mX.hb mX.hc mX.sc λik A cv s H E a=>by have b:=il a;have nd:=mX.sc.nd;walk_at "b"
def uK(F:uG K hB "AimRow.asked" (hZ (top 27) 1) f fd):Binds K fd [cr] []:=F.binds (by walk_at "c")
noncomputable def j6:FI (hZ (top 28) 0) [cr] [cr]:=by walk_at "a"
def xz(F:uG K hJ uaN (hZ (top 28) 0) f fd):jo P w K mg cq pZ (k+1) f fd [cr] (jU K (cl (jl 1 1 xq))):=
 P8 F j6.hb j6.hc j6.sc λik A cv s H E a=>by have b:=il a;have nd:=j6.sc.nd;walk_at "b"
def wJ(F:uG K hJ uaN (hZ (top 28) 0) f fd):Binds K fd [cr] []:=F.binds (by walk_at "c")
noncomputable def lx:FI (hZ (top 30) 1) [cr] [cr]:=by walk_at "a"
def zX(F:uG K hB uaO (hZ (top 30) 1) f fd)(Z:Zs mg):jo P w K mg cq pZ (k+1) f fd [cr] (jU K (Cs 1 1 (sL K))):=
 P7 F lx.hb lx.hc lx.sc λik A cv s H E a=>by have b:=il a;have nd:=lx.sc.nd;walk_at "b"
def yU(F:uG K hB uaO (hZ (top 30) 1) f fd):Binds K fd [cr] []:=F.binds (by walk_at "c")
noncomputable def pJ:FI (top 31) [nA,dt] [nA,dt]:=by walk_at "a"
def Hs(D:gY K mg uag (top 31))(Z:Zs mg)(a:iu P w K mg cq k "fits" [nA,dt] vf):lM P w K mg cq (k+1) uag [nA,dt] (jU K (cl (jl 2 2 (tN K vf)))):=
 iQ D pJ.hb pJ.hc pJ.sc (by walk_at "c") λf ik A cv s H E b=>by have c:=il b;have nd:=pJ.sc.nd;walk_at "b"
noncomputable def Ht:FI (top 32) [nA,dt] [nA,dt]:=by walk_at "a"
def Vd(D:gY K mg "fits" (top 32))(Z:Zs mg)(c:iu P w K mg cq k qa [dt] mz)(a:iu P w K mg cq k rh [dt] p8)(e:iu P w K mg cq k uag [nA,dt] k7):lM P w K mg cq (k+1) "fits" [nA,dt] (jU K (cl (jl 2 2 (C0 K mz p8 k7)))):=
 iQ D Ht.hb Ht.hc Ht.sc (by walk_at "c") λf ik A cv s H E b=>by have g:=il b;have nd:=Ht.sc.nd;walk_at "b"
noncomputable def yV:FI (top 33) [dt,"forms"] [dt]:=by walk_at "a"
def Ve(D:gY K mg "is_row" (top 33))(Z:Zs mg)(a:mg "FORMS"=aa (.ref qS))(b:zG K qS yw)(c:iu P w K mg cq k "fits" [nA,dt] vf):lM P w K mg cq (k+1) "is_row" [dt] (jU K (cl (jl 2 1 (C1 K qS yw vf)))):=
 iQ D yV.hb yV.hc yV.sc (by walk_at "c") λf ik A cv s H E e=>by have g:=il e;have nd:=yV.sc.nd;walk_at "b"
noncomputable def ue:FI (top 34) [ec,"kind"] [ec]:=by walk_at "a"
def MY(D:gY K mg ri (top 34))(a:mg "SetRow"=aa (.ref vg))(b:oV P w K mg cq k vg yx)(c:mg "AlikeRow"=aa (.ref p9))(e:oV P w K mg cq k p9 tO)(g:mg "LastRow"=aa (.ref sM))(h:oV P w K mg cq k sM v6)(i:mg "LeaveRow"=aa (.ref qc))(j:oV P w K mg cq k qc tQ)(m:mg "AimRow"=aa (.ref vh))(n:oV P w K mg cq k vh yy)(o:mg "BoxRow"=aa (.ref vi))(p:oV P w K mg cq k vi yz):lM P w K mg cq ((k+1)+1) ri [ec] (jU K (cl (jl 2 1 (C2 vg yx p9 tO sM v6 qc tQ vh yy vi yz)))):=
 iQ D ue.hb ue.hc ue.sc (by walk_at "c") λf ik A cv s H E q=>by have r:=il q;have nd:=ue.sc.nd;walk_at "b"
noncomputable def yW:FI (top 35) [dt,ec] [dt]:=by walk_at "a"
def Vf(D:gY K mg "row_of" (top 35))(Z:Zs mg)(a:iu P w K mg cq (k+1) "is_row" [dt] yA)(h:mg pc=aa (.ref iG))(b:oV P w K mg cq k iG v7)(i:mg uah=aa (.ref jv))(j:oV P w K mg cq k jv pG)(m:mg "TableRow"=aa (.ref j3))(c:oV P w K mg cq k j3 tR)(e:iu P w K mg cq (k+1) ri [ec] tS):lM P w K mg cq ((k+1)+1) "row_of" [dt] (jU K (Cs 2 1 (Jw K yA iG v7 jv pG j3 tR tS))):=
 Ob D yW.hb yW.hc yW.sc (by walk_at "c") λf ik A cv s H E g=>by have n:=il g;have nd:=yW.sc.nd;walk_at "b"
noncomputable def lB:FI (top 41) [dt] [dt]:=by walk_at "a"
def zY(D:gY K mg ro (top 41))(Z:Zs mg):lM P w K mg cq (k+1) ro [dt] (jU K (cl (jl 1 1 (sN K)))):=
 iQ D lB.hb lB.hc lB.sc (by walk_at "c") λf ik A cv s H E a=>by have b:=il a;have nd:=lB.sc.nd;walk_at "b"
noncomputable def nY:FI (top 42) [jr] [jr]:=by walk_at "a"
def E4(D:gY K mg rz (top 42))(Z:Zs mg)(b:iu P w K mg cq k ro [dt] k8):lM P w K mg cq (k+1) rz [jr] (jU K (cl (jl 1 1 (wT k8)))):=
 iQ D nY.hb nY.hc nY.sc (by walk_at "c") λf ik A cv s H E a=>by have c:=il a;have nd:=nY.sc.nd;walk_at "b"
noncomputable def mY:FI (top 43) [jr] [jr]:=by walk_at "a"
def DH(D:gY K mg rN (top 43))(Z:Zs mg)(b:iu P w K mg cq k rz [jr] jz):lM P w K mg cq (k+1) rN [jr] (jU K (cl (jl 1 1 (vk jz)))):=
 iQ D mY.hb mY.hc mY.sc (by walk_at "c") λf ik A cv s H E a=>by have c:=il a;have nd:=mY.sc.nd;walk_at "b"
noncomputable def wv:FI (top 44) [dt] [dt]:=by walk_at "a"
def Ra(D:gY K mg "is_part" (top 44))(Z:Zs mg)(b:iu P w K mg cq k qa [dt] mz)(c:iu P w K mg cq k rN [jr] jj):lM P w K mg cq (k+1) "is_part" [dt] (jU K (cl (jl 1 1 (FV K mz jj)))):=
 iQ D wv.hb wv.hc wv.sc (by walk_at "c") λf ik A cv s H E a=>by have e:=il a;have nd:=wv.sc.nd;walk_at "b"
noncomputable def rf:FI (top 45) [dt] [dt]:=by walk_at "a"
def Ks(D:gY K mg uai (top 45))(Z:Zs mg)(a:iu P w K mg cq k "is_part" [dt] wa)(c:iu P w K mg cq k rN [jr] jj)(e:iu P w K mg cq k rz [jr] jz):lM P w K mg cq (k+1) uai [dt] (jU K (cl (jl 1 1 (AM K wa jj jz)))):=
 iQ D rf.hb rf.hc rf.sc (by walk_at "c") λf ik A cv s H E b=>by have g:=il b;have nd:=rf.sc.nd;walk_at "b"
noncomputable def wx:FI (top 46) [ef,jr,gi,mB,dt,eH] [ef,jr]:=by walk_at "a"
def Rb(D:gY K mg "rows_of" (top 46))(Z:Zs mg)(a:iu P w K mg cq k "row_of" [dt] yE):lM P w K mg cq (k+1) "rows_of" [ef,jr] (jU K (cl (jl 6 2 (FX yE)))):=
 iQ D wx.hb wx.hc wx.sc (by walk_at "c") λf ik A cv s H E b=>by have c:=il b;have nd:=wx.sc.nd;walk_at "b"
noncomputable def kB:FI (top 47) [gi,eH] [gi]:=by walk_at "a"
def yX(D:gY K mg sm (top 47))(Z:Zs mg)(b:mg pc=aa (.ref iG)):lM P w K mg cq (k+1) sm [gi] (jU K (cl (jl 2 1 (mP K iG)))):=
 iQ D kB.hb kB.hc kB.sc (by walk_at "c") λf ik A cv s H E a=>by have c:=il a;have nd:=kB.sc.nd;walk_at "b"
noncomputable def j7:FI (top 48) [ef,gi,mB,eH,"behind"] [ef,gi]:=by walk_at "a"
def xA(D:gY K mg uaj (top 48))(Z:Zs mg)(c:iu P w K mg cq k sm [gi] km)(a:∀C g,wb C hJ g->l9 P w K mg cq k C hJ g)(e:mg "CodeRow"=aa (.ref mD))(h:mg pc=aa (.ref iG)):lM P w K mg cq (k+1) uaj [ef,gi] (jU K (cl (jl 5 2 (ma K km wb mD iG)))):=
 iQ D j7.hb j7.hc j7.sc (by walk_at "c") λf ik A cv s H E b=>by have i:=il b;have nd:=j7.sc.nd;walk_at "b"
noncomputable def rg:FI (top 49) [fv,ec,ef,gi] [fv]:=by walk_at "a"
def Kt(D:gY K mg uak (top 49))(a:iu P w K mg cq k uai [dt] qU)(b:iu P w K mg cq k "rows_of" [ef,jr] wd)(e:iu P w K mg cq k uaj [ef,gi] j4):lM P w K mg cq (k+1) uak [fv] (jU K (cl (jl 4 1 (AN qU wd j4)))):=
 iQ D rg.hb rg.hc rg.sc (by walk_at "c") λf ik A cv s H E c=>by have g:=il c;have nd:=rg.sc.nd;walk_at "b"
noncomputable def zZ:FI (top 51) [fv] [fv]:=by walk_at "a"
def Rf(D:gY K mg fy (top 51))(b:CW K mg cq)(Z:Zs mg):lM P w K mg cq ((k+4)+1) fy [fv] (jU K (cl (jl 1 1 FY))):=
 afS D b zZ.hb zZ.hc zZ.sc (by walk_at "c") λf ik A cv s H E c a=>by have e:=il a;exact(LP (LQ (S9 (Ud (k:=k) (ais c) a Z.sorted (j_v 0) ⟨rfl,rfl,rfl,by decide+kernel,rfl,by decide+kernel,by decide+kernel⟩))))
noncomputable def l5:FI (top 52) [ek,gi,lj,mB,eH,ef,"strong"] [ek,gi]:=by walk_at "a"
def Bh(D:gY K mg ual (top 52))(Z:Zs mg)(b:mg pc=aa (.ref iG))(c:∀C g,jf C fq g->l9 P w K mg cq k C fq g):lM P w K mg cq (k+1) ual [ek,gi] (jU K (cl (jl 7 2 (oW K iG jf)))):=
 iQ D l5.hb l5.hc l5.sc (by walk_at "c") λf ik A cv s H E a=>by have e:=il a;have nd:=l5.sc.nd;walk_at "b"
noncomputable def uf:FI (top 53) [ec,lj,ek,gi] [ec]:=by walk_at "a"
def M6(D:gY K mg "marks_in" (top 53))(b:iu P w K mg cq k fy [fv] mE)(c:iu P w K mg cq k ual [ek,gi] lX):lM P w K mg cq (k+1) "marks_in" [ec] (jU K (cl (jl 4 1 (Dc mE lX)))):=
 iQ D uf.hb uf.hc uf.sc (by walk_at "c") λf ik A cv s H E a=>by have e:=il a;have nd:=uf.sc.nd;walk_at "b"
noncomputable def mZ:FI (top 54) [lj,fv,ef,"strong",pe] [lj]:=by walk_at "a"
def DM(D:gY K mg sw (top 54)):lM P w K mg cq (k+1) sw [lj] (jU K (Cs 5 1 vm)):=
 Ob D mZ.hb mZ.hc mZ.sc (by walk_at "c") λf ik A cv s H E a=>by have b:=il a;have nd:=mZ.sc.nd;walk_at "b"
noncomputable def lC:FI (top 55) [lj,fv,ef] [lj]:=by walk_at "a"
def z6(D:gY K mg uam (top 55))(Z:Zs mg)(b:iu P w K mg cq k sw [lj] mQ):lM P w K mg cq (k+1) uam [lj] (jU K (cl (jl 3 1 (sO mQ)))):=
 iQ D lC.hb lC.hc lC.sc (by walk_at "c") λf ik A cv s H E a=>by have c:=il a;have nd:=lC.sc.nd;walk_at "b"
noncomputable def rj:FI (top 56) [ec,lj,nk,ef,"strong",pe] [ec]:=by walk_at "a"
def Ku(D:gY K mg uan (top 56))(a:iu P w K mg cq k "marks_in" [ec] tU)(c:iu P w K mg cq k uam [lj] k9):lM P w K mg cq (k+1) uan [ec] (jU K (cl (jl 6 1 (AO tU k9)))):=
 iQ D rj.hb rj.hc rj.sc (by walk_at "c") λf ik A cv s H E b=>by have e:=il b;have nd:=rj.sc.nd;walk_at "b"
noncomputable def l6:FI (top 57) [gi] [gi]:=by walk_at "a"
def Bi(D:gY K mg sE (top 57))(Z:Zs mg)(b:mg pc=aa (.ref iG)):lM P w K mg cq (k+1) sE [gi] (jU K (cl (jl 1 1 (oX K iG)))):=
 iQ D l6.hb l6.hc l6.sc (by walk_at "c") λf ik A cv s H E a=>by have c:=il a;have nd:=l6.sc.nd;walk_at "b"
noncomputable def rm:FI (top 58) [ec] [ec]:=by walk_at "a"
def Kv(D:gY K mg uao (top 58))(Z:Zs mg)(b:iu P w K mg cq k fy [fv] mE)(c:iu P w K mg cq k sE [gi] lY):lM P w K mg cq (k+1) uao [ec] (jU K (cl (jl 1 1 (AQ mE lY)))):=
 iQ D rm.hb rm.hc rm.sc (by walk_at "c") λf ik A cv s H E a=>by have e:=il a;have nd:=rm.sc.nd;walk_at "b"
noncomputable def ug:FI (top 59) ["lists",pe] ["lists",pe]:=by walk_at "a"
def M7(D:gY K mg tP (top 59)):lM P w K mg cq (k+1) tP ["lists",pe] (jU K (cl (jl 2 2 Dd))):=
 iQ D ug.hb ug.hc ug.sc (by walk_at "c") λf ik A cv s H E a=>by have b:=il a;have nd:=ug.sc.nd;walk_at "b"
noncomputable def pL:FI (top 60) [eH,"aim","kind"] [eH,"aim"]:=by walk_at "a"
def Hv(D:gY K mg uap (top 60))(Z:Zs mg)(b:∀C g,jf C fq g->l9 P w K mg cq k C fq g)(c:mg uah=aa (.ref jv))(e:mg "TableRow"=aa (.ref j3))(h:mg "CodeRow"=aa (.ref mD)):lM P w K mg cq (k+1) uap [eH,"aim"] (jU K (cl (jl 3 2 (tV K jf jv j3 mD)))):=
 iQ D pL.hb pL.hc pL.sc (by walk_at "c") λf ik A cv s H E a=>by have i:=il a;have nd:=pL.sc.nd;walk_at "b"
noncomputable def m4:FI (top 61) [ek,nR,nk,mB,eH,ef] [ek,nR,nk]:=by walk_at "a"
def qh (pH:zF)(mK:ar)(lg:GN)(nH:GN)(kN:ar):XB:=(YH (lJ (gM (g9 i7 (gN 1) (gN 0)) gQ)) (iU 2 (gX (gU 3) (gX (gU 4) iT))) (YH (iO (u5 pH hB (gN 4) gQ)) (gU 5) (Kl (xIf (gW (g9 (By ai) (gN 5) (gN 2))) (MS mK [ef,ek,eH] (gM (gN 5) (gM (gN 0) (gM (gN 3) gQ)))) (λ_=>hV))
 (xIf (oR (gW (iH lg (gM (gN 4) (gM (iH nH (gM (gN 1) (gM (g9 i7 (gN 2) (gN 5)) gQ))) gQ))))) (MS kN [ef,ek,eH] (gM (gN 5) (gM (gN 0) (gM (gN 3) gQ)))) (λ_=>hV)))))
def DN(D:gY K mg uaq (top 61))(Z:Zs mg)(a:∀C g,pH C hB g->l9 P w K mg cq (k+1) C hB g)(b:yO P w K mg cq k "Lacking" mK [ef,ek,eH])(i:iu P w K mg cq (k+1) uap [eH,"aim"] lg)(c:iu P w K mg cq (k+1) tP ["lists",pe] nH)(e:yO P w K mg cq k "WrongAim" kN [ef,ek,eH]):qL P w K mg cq ((k+1)+1) uaq [ek,nR,nk] (E2 K (E3 6 3 (qh pH mK lg nH kN))):=
 Va D m4.hb m4.hc m4.sc (by walk_at "c") λf ik A cv s H E h=>by have j:=il h;have nd:=m4.sc.nd;walk_at "m"
noncomputable def yY:FI (top 62) [fv,ec,nk,nR,ek,gi] [fv]:=by walk_at "a"
def De (mF:GN)(mG:GN)(mH:GN)(jR:MR):XB:=(Kl (λ_=>(iF 1 (iH mF (gM (gN 0) gQ))))
 (Kl (λ_=>(iF 2 (iH mG (gM (gN 1) gQ))))
 (Kl (λ_=>(iF 3 (iH mH (gM (gN 1) gQ))))
 (Kl (YH (iO (gN 1)) (iU 2 (gX (gU 4) (gX (gU 5) iT))) (aaB (dCX jR (λ_=>(gM (gN 4) (gM (gN 3) (gM (gN 2) gQ)))))))
 (λ_=>(ia (iP (gM (gN 3) (gM (gN 2) gQ)))))))))
def Vh(D:gY K mg uJ (top 62))(a:iu P w K mg cq k uak [fv] mF)(b:iu P w K mg cq k uan [ec] mG)(c:iu P w K mg cq k uao [ec] mH)(g:Dt P w K mg cq k uaq [ek,nR,nk] jR):qL P w K mg cq (k+1) uJ [fv] (E2 K (E3 6 1 (De mF mG mH jR))):=
 Va D yY.hb yY.hc yY.sc (by walk_at "c") λf ik A cv s H E e=>by have h:=il e;have nd:=yY.sc.nd;walk_at "m"
noncomputable def rn:FI (top 63) [fv,nR,nk] [fv]:=by walk_at "a"
def Hw (oI:MR)(jf:zF):XB:=(Kl (ada (dCX oI (λ_=>(gM (gN 0) gQ))) (iU 2 (gX (gU 1) (gX (gU 2) iT))))
 (λ_=>(ia (iS (iX [am,am] (Hj (gN 1)) (iU 2 (gX (gU 0) (gX (gU 1) iT))) nv (iP (gM (gN 0) (gM (iS (iX [am] (iO (gN 1)) (gU 0) nv (u5 jf fq (gN 0) gQ))) gQ))))))))
def YR(D:gY K mg nP (top 63))(b:Dt P w K mg cq k uJ [fv] oI)(c:∀C g,jf C fq g->l9 P w K mg cq k C fq g):qL P w K mg cq (k+1) nP [fv] (E2 K (E3 3 1 (Hw oI jf))):=
 Va D rn.hb rn.hc rn.sc (by walk_at "c") λf ik A cv s H E a=>by have e:=il a;have nd:=rn.sc.nd;walk_at "m"
def DP (oI:MR)(jf:zF):XB:=(Kl (ada (dCX oI (λ_=>(gM (gN 0) gQ))) (iU 2 (gX (gU 1) (gX (gU 2) iT))))
 (λ_=>(ia (iS (iX [am,am] (Hj (gN 1)) (iU 2 (gX (gU 0) (gX (gU 1) iT))) nv (iP (gM (gN 0) (gM (lD (iX [am] (iO (gN 1)) (gU 0) nv (u5 jf fq (gN 0) gQ))) gQ))))))))
def Vk(D:gY K mg nP (top 63))(b:Dt P w K mg cq k uJ [fv] oI)(c:∀C g,jf C fq g->l9 P w K mg cq k C fq g):qL P w K mg cq (k+1) nP [fv] (MU K (Q5 3 1 (DP oI jf))):=
 agG D rn.hb rn.hc rn.sc (by walk_at "c") λf ik A cv s H E a=>by have e:=il a;have nd:=rn.sc.nd;walk_at "m"
noncomputable def nZ:FI (top 65) [mm,gl] [mm,gl]:=by walk_at "a"
def r6:DS:=(hG (iA (gW (g9 gLt (gN 1) (iH oU (gM (gN 0) gQ)))) (ia (g9 i7 (gN 0) (gN 1))) hV)
 (ia (dC (.int 0))))
def E6(D:gY K mg uM (top 65))(Z:Zs mg):lM P w K mg cq (k+1) uM [mm,gl] (jU K (cl (jl 2 2 r6))):=
 iQ D nZ.hb nZ.hc nZ.sc (by walk_at "c") λf ik A cv s H E a=>by have b:=il a;have nd:=nZ.sc.nd;walk_at "b"
noncomputable def rq:FI (top 66) [fx,gl,"_law_number_here"] [fx,gl]:=by walk_at "a"
def Kw(D:gY K mg uY (top 66)):lM P w K mg cq (k+1) uY [fx,gl] (jU K (cl (jl 3 2 AL))):=
 iQ D rq.hb rq.hc rq.sc (by walk_at "c") λf ik A cv s H E a=>by have b:=il a;have nd:=rq.sc.nd;walk_at "b"
noncomputable def rA:FI (top 67) [fx,vl,pj,"_law_rest",gl,"_law_size"] [fx,vl]:=by walk_at "a"
def vt (oH:GN):DS:=(hG (iF 2 (lD (jI gQ)))
 (hG (iF 3 (g9 (gI AS λi j=>.int (i/j)) (gN 0) (dC (.int 2))))
 (hG (lH (lJ (gM (gN 1) gQ)) (iU 2 (gX (gU 4) (gX (gU 5) iT))) (iA (Co (gW (g9 nQ (g9 oG (gN 0) (dC (.int 2))) (dC (.int 0)))) (gW (g9 (By ai) (gN 3) (iP (gM (dC (.int 0)) (gM (Jb (dC (.int 1))) gQ)))))) (hG (jV (Bz ap i0 (gN 2) (gM (g9 oG (gN 3) (gN 5)) gQ)))
 (iF 3 (g9 (gI AS λi j=>.int (i/j)) (gN 3) (gN 5)))) (jV (Bz ap i0 (gN 2) (gM (g9 oG (g9 iL (iH oH (gM (g9 (gI AS λi j=>.int (i/j)) (gN 0) (dC (.int 2))) (gM (gN 4) gQ))) (g9 adl (iH oH (gM (g9 (gI AS λi j=>.int (i/j)) (gN 0) (dC (.int 2))) (gM (g9 iL (gN 4) (dC (.int 97))) gQ))) (dC (.int 7)))) (gN 5)) gQ)))))
 (ia (gN 2)))))
def Kx(D:gY K mg vp (top 67))(Z:Zs mg)(a:iu P w K mg cq k uY [fx,gl] oH):lM P w K mg cq (k+1) vp [fx,vl] (jU K (cl (jl 6 2 (vt oH)))):=
 iQ D rA.hb rA.hc rA.sc (by walk_at "c") λf ik A cv s H E b=>by have c:=il b;have nd:=rA.sc.nd;walk_at "b"
noncomputable def rB:FI (top 68) ["_law_kinds_here"] []:=by walk_at "a"
def AW:DS:=(hG (iF 0 (iS (jI (gM (dC (.str fi)) (gM (dC (.str "add")) (gM (dC (.str pa)) (gM (dC (.str lf)) (gM (dC (.str "ask")) (gM (dC (.str nb)) (gM (dC (.str lp)) (gM (dC (.str lr)) (gM (dC (.str lR)) (gM (dC (.str me)) (gM (dC (.str kf)) (gM (dC (.str lc)) (gM (dC (.str jp)) gQ))))))))))))))))
 (ia (g9 iL (gN 0) (iS (jI (gM (dC (.str ew)) (gM (dC (.str el)) (gM (dC (.str lf)) (gM (dC (.str lp)) (gM (dC (.str lr)) (gM (dC (.str fi)) (gM (dC (.str lf)) gQ))))))))))))
def Ky(D:gY K mg vr (top 68)):lM P w K mg cq (k+1) vr [] (jU K (cl (jl 1 0 AW))):=
 iQ D rB.hb rB.hc rB.sc (λ_ _ _ _ _ _ us a=>match us,a with|[],_=>rfl) λf ik A cv s H E b=>by have c:=il b;have nd:=rB.sc.nd;walk_at "b"
noncomputable def oa:FI (top 69) [kv] [kv]:=by walk_at "a"
def wV:DS:=(ia (g9 (By ao) (gN 0) (iP (gM (dC (.str fi)) (gM (dC (.str "add")) (gM (dC (.str pa)) (gM (dC (.str lf)) (gM (dC (.str "ask")) (gM (dC (.str lp)) (gM (dC (.str lr)) (gM (dC (.str kf)) (gM (dC (.str jp)) gQ))))))))))))
def E7(D:gY K mg vu (top 69)):lM P w K mg cq (k+1) vu [kv] (jU K (cl (jl 1 1 wV))):=
 iQ D oa.hb oa.hc oa.sc (by walk_at "c") λf ik A cv s H E a=>by have b:=il a;have nd:=oa.sc.nd;walk_at "b"
noncomputable def m5:FI (top 70) [fx,nX,"_law_parts_here",pj,gl,kv,pk,"_law_c",pr,fk] [fx,nX]:=by walk_at "a"
def vy (jW:GN)(qY:GN)(lU:GN):DS:=(hG (iF 2 (iH jW (gM (gN 0) (gM (g9 iL (iS (jI (gM (gN 1) gQ))) (g9 zE (iS (jI (gM (dC (.int 20)) (gM (dC (.int 4)) (gM (dC (.int 4)) (gM (g9 adl (dC (.int 10)) (dC (.int 10))) gQ)))))) (gN 1))) gQ))))
 (hG (iF 3 (lD (jI gQ)))
 (hG (lH (zD (gM (g9 iL (dC (.int 1)) (g9 i7 (gN 2) (dC (.int 0)))) gQ)) (gU 4) (hG (EH (Ja (gN 2) (my (g9 iL (dC (.int 1)) (g9 zE (dC (.int 4)) (gN 4)))) (my (g9 iL (dC (.int 5)) (g9 zE (dC (.int 4)) (gN 4))))) (J8 4 (gX (gU 5) (gX (gU 6) (gX (gU 7) (gX (gU 8) iT))))))
 (hG (iF 9 (iP (gM (g9 i7 (iH qY gQ) (gN 5)) (gM (gN 6) (gM (gN 7) (gM (gN 8) gQ))))))
 (hG (iA (Co (gW (g9 (By ao) (g9 i7 (gN 9) (dC (.int 0))) (iP (gM (dC (.str ew)) (gM (dC (.str el)) gQ))))) (Co (gW (g9 IY (gN 3) (iS (jI gQ)))) (gW (iH lU (gM (g9 i7 (g9 i7 (gN 3) (Jb (dC (.int 1)))) (dC (.int 0))) gQ))))) (jV (Bz ap i0 (gN 3) (gM (iP (gM (dC (.str lR)) (gM (dC (.int 0)) (gM (dC (.int 0)) (gM (dC (.int 0)) gQ))))) gQ))) hV)
 (jV (Bz ap i0 (gN 3) (gM (gN 9) gQ)))))))
 (hG (iA (gW (iH lU (gM (g9 i7 (g9 i7 (gN 3) (Jb (dC (.int 1)))) (dC (.int 0))) gQ))) (jV (Bz ap i0 (gN 3) (gM (iP (gM (g9 i7 (iS (jI (gM (dC (.str me)) (gM (dC (.str lR)) gQ)))) (g9 oG (g9 i7 (gN 2) (dC (.int 2))) (dC (.int 2)))) (gM (dC (.int 0)) (gM (dC (.int 0)) (gM (dC (.int 0)) gQ))))) gQ))) hV)
 (ia (gN 3))))))
def DQ(D:gY K mg uar (top 70))(Z:Zs mg)(c:iu P w K mg cq k vp [fx,vl] jW)(a:iu P w K mg cq k vr [] qY)(e:iu P w K mg cq k vu [kv] lU):lM P w K mg cq (k+1) uar [fx,nX] (jU K (cl (jl 10 2 (vy jW qY lU)))):=
 iQ D m5.hb m5.hc m5.sc (by walk_at "c") λf ik A cv s H E b=>by have g:=il b;have nd:=m5.sc.nd;walk_at "b"
noncomputable def uh:FI (top 71) [qe,gl,"_law_letters"] [qe,gl]:=by walk_at "a"
def DR:DS:=(hG (iF 2 (dC (.str uaP)))
 (ia (g9 iL (g9 iL (g9 i7 (gN 2) (gN 0)) (g9 i7 (gN 2) (g9 (gI xZ λi j=>.int (i/j)) (gN 1) (dC (.int 26))))) (g9 i7 (gN 2) (g9 oG (gN 1) (dC (.int 26)))))))
def M8(D:gY K mg vv (top 71)):lM P w K mg cq (k+1) vv [qe,gl] (jU K (cl (jl 3 2 DR))):=
 iQ D uh.hb uh.hc uh.sc (by walk_at "c") λf ik A cv s H E a=>by have b:=il a;have nd:=uh.sc.nd;walk_at "b"
noncomputable def pN:FI (top 72) [pr] [pr]:=by walk_at "a"
def yZ:DS:=(ia (g9 i7 (iS (jI (gM (g9 adm (g9 oG (gN 0) (dC (.int 7))) (dC (.int 2))) (gM (g9 adm (g9 oG (gN 0) (dC (.int 41))) (dC (.int 20))) (gM (g9 adm (g9 oG (gN 0) (dC (.int 4294967296))) (dC (.int 2147483648))) gQ))))) (g9 oG (g9 (gI xZ λi j=>.int (i/j)) (gN 0) (dC (.int 9))) (dC (.int 3)))))
def Hx(D:gY K mg vx (top 72)):lM P w K mg cq (k+1) vx [pr] (jU K (cl (jl 1 1 yZ))):=
 iQ D pN.hb pN.hc pN.sc (by walk_at "c") λf ik A cv s H E a=>by have b:=il a;have nd:=pN.sc.nd;walk_at "b"
noncomputable def pO:FI (top 73) [fk,qq,uas,uat,kv,pk,"_law_c",pr,ol,"_law_some"] [fk,qq,uas,uat]:=by walk_at "a"
def y0 (mU:GN)(t9:GN):DS:=(hG (EH (gN 0) (iU 4 (gX (gU 4) (gX (gU 5) (gX (gU 6) (gX (gU 7) iT))))))
 (hG (iF 8 (g9 i7 (gN 1) (g9 oG (gN 7) (iH oU (gM (gN 1) gQ)))))
 (hG (iA (SW (Co (gW (g9 nQ (gN 4) (dC (.str kf)))) (gW (g9 EK (gN 2) (iS (jI gQ))))) (Co (gW (g9 nQ (gN 4) (dC (.str jp)))) (gW (g9 nQ (g9 oG (gN 7) (dC (.int 5))) (dC (.int 0)))))) (ia (iP (gM (dC (.str lf)) (gM (gN 5) gQ)))) hV)
 (hG (iA (Co (gW (g9 nQ (gN 4) (dC (.str lc)))) (gW (g9 EK (gN 3) (iS (jI gQ))))) (ia (iP (gM (dC (.str lR)) gQ))) hV)
 (hG (iA (gW (g9 nQ (gN 4) (dC (.str kf)))) (ia (iP (gM (gN 4) (gM (gN 5) (gM (gN 6) (gM (g9 i7 (gN 2) (g9 oG (gN 7) (iH oU (gM (gN 2) gQ)))) gQ)))))) hV)
 (hG (iA (gW (g9 nQ (gN 4) (dC (.str lc)))) (ia (iP (gM (gN 4) (gM (gN 5) (gM (g9 i7 (gN 3) (g9 oG (gN 7) (iH oU (gM (gN 3) gQ)))) gQ))))) hV)
 (hG (iA (gW (g9 nQ (gN 4) (dC (.str jp)))) (hG (iF 9 (g9 iL (g9 iL (gN 1) (gN 2)) (gN 3)))
 (ia (iP (gM (gN 4) (gM (gN 5) (gM (g9 i7 (gN 9) (g9 oG (gN 7) (iH oU (gM (gN 9) gQ)))) (gM (g9 i7 (gN 9) (g9 oG (g9 (gI xZ λi j=>.int (i/j)) (gN 7) (dC (.int 7))) (iH oU (gM (gN 9) gQ)))) gQ))))))) hV)
 (hG (iA (gW (g9 nQ (gN 4) (dC (.str ew)))) (ia (iP (gM (gN 4) (gM (iS (iX [am,aa 7] (zD (gM (g9 iL (dC (.int 1)) (g9 oG (gN 7) (dC (.int 4)))) gQ)) (gU 0) nv (iH mU (gM (g9 iL (g9 (gI xZ λi j=>.int (i/j)) (gN 1) (dC (.int 3))) (g9 zE (dC (.int 5)) (gN 0))) gQ)))) gQ)))) hV)
 (hG (iA (gW (g9 nQ (gN 4) (dC (.str el)))) (ia (iP (gM (gN 4) (gM (iS (iX [am,aa 1,aa 7] (zD (gM (g9 iL (dC (.int 1)) (g9 oG (gN 7) (dC (.int 4)))) gQ)) (gU 0) nv (g9 i7 (gN 1) (g9 oG (g9 iL (g9 (gI xZ λi j=>.int (i/j)) (gN 2) (dC (.int 5))) (g9 zE (dC (.int 3)) (gN 0))) (iH oU (gM (gN 1) gQ)))))) gQ)))) hV)
 (hG (iA (gW (g9 nQ (gN 4) (dC (.str fi)))) (ia (iP (gM (gN 4) (gM (gN 5) (gM (iH mU (gM (gN 7) gQ)) gQ))))) hV)
 (hG (iA (gW (g9 (By ao) (gN 4) (iP (gM (dC (.str "add")) (gM (dC (.str pa)) gQ))))) (ia (iP (gM (gN 4) (gM (gN 5) (gM (gN 6) gQ))))) hV)
 (hG (iA (gW (g9 (By ao) (gN 4) (iP (gM (dC (.str lf)) (gM (dC (.str "ask")) gQ))))) (ia (iP (gM (gN 4) (gM (gN 5) gQ)))) hV)
 (ia (iH t9 (gM (gN 4) (gM (gN 5) (gM (gN 8) gQ)))))))))))))))))
def Hy(D:gY K mg uau (top 73))(Z:Zs mg)(c:iu P w K mg cq k vx [pr] mU)(a:iu P w K mg cq k wc [kv,pk,ol] t9):lM P w K mg cq (k+1) uau [fk,qq,uas,uat] (jU K (Cs 10 4 (y0 mU t9))):=
 Ob D pO.hb pO.hc pO.sc (by walk_at "c") λf ik A cv s H E b=>by have e:=il b;have nd:=pO.sc.nd;walk_at "b"
noncomputable def ui:FI (top 74) [kv,pk,ol] [kv,pk,ol]:=by walk_at "a"
def DU:DS:=(hG (iA (gW (g9 nQ (gN 0) (dC (.str lp)))) (ia (iP (gM (gN 0) (gM (gN 1) (gM (gN 2) gQ))))) hV)
 (hG (iA (gW (g9 (By ao) (gN 0) (iP (gM (dC (.str nb)) (gM (dC (.str lr)) gQ))))) (ia (iP (gM (gN 0) (gM (gN 2) gQ)))) hV)
 (ia (iP (gM (gN 0) gQ)))))
def M9(D:gY K mg wc (top 74)):lM P w K mg cq (k+1) wc [kv,pk,ol] (jU K (cl (jl 3 3 DU))):=
 iQ D ui.hb ui.hc ui.sc (by walk_at "c") λf ik A cv s H E a=>by have b:=il a;have nd:=ui.sc.nd;walk_at "b"
noncomputable def og:FI (top 75) [ly] [ly]:=by walk_at "a"
def wW:DS:=(ia (g9 EK (iS (iX [am] (iO (gN 0)) (gU 0) (gW (g9 (By ai) (g9 i7 (gN 0) (dC (.int 0))) (iP (gM (dC (.str ew)) (gM (dC (.str el)) gQ))))) (gN 0))) (iS (jI gQ))))
def E8(D:gY K mg wh (top 75)):lM P w K mg cq (k+1) wh [ly] (jU K (cl (jl 1 1 wW))):=
 iQ D og.hb og.hc og.sc (by walk_at "c") λf ik A cv s H E a=>by have b:=il a;have nd:=og.sc.nd;walk_at "b"
noncomputable def j8:FI (top 76) [fb,pj,wk,ly] [fb]:=by walk_at "a"
def ql:DS:=(hG (iF 1 (iS (jI gQ)))
 (hG (lH (iO (gN 0)) (iU 2 (gX (gU 2) (gX (gU 3) iT))) (iF 1 (g9 iL (gN 1) (iS (iX [am] (iO (gN 3)) (gU 0) (gW (g9 nQ (g9 i7 (gN 0) (dC (.int 0))) (dC (.str kt)))) (g9 i7 (gN 0) (dC (.int 1))))))))
 (ia (gN 1))))
def xB(D:gY K mg wu (top 76)):lM P w K mg cq (k+1) wu [fb] (jU K (cl (jl 4 1 ql))):=
 iQ D j8.hb j8.hc j8.sc (by walk_at "c") λf ik A cv s H E a=>by have b:=il a;have nd:=j8.sc.nd;walk_at "b"
noncomputable def oh:FI (top 77) [uav,nX,"_law_bones",lm,qe,ly,gl,fk,kv,pj,"_law_told_here"] [uav,nX]:=by walk_at "a"
def r9 (mV:GN)(nU:GN)(iD:GN)(iW:GN):DS:=(hG (iF 2 (lD (iX [am,aa 1] (iO (gN 0)) (gU 0) nv (iH mV (gM (gN 0) (gM (gN 1) gQ))))))
 (hG (iA (gW (g9 nQ (iS (iX [am] (iO (gN 2)) (gU 0) (gW (iH nU (gM (gN 0) gQ))) (gN 0))) (gN 2))) (EH (g9 iL (iS (jI (gM (iP (gM (dC (.str lf)) (gM (dC (.int 0)) (gM (dC (.int 0)) (gM (dC (.int 0)) gQ))))) (gM (iP (gM (dC (.str me)) (gM (dC (.int 0)) (gM (dC (.int 0)) (gM (dC (.int 0)) gQ))))) gQ)))) (g9 i7 (gN 2) (dC (.int 0)))) (TQ (gN 2) (dC (.int 0)))) hV)
 (hG (iF 3 (Hk [((dC (.str ew)),(lD (jI gQ))),((dC (.str el)),(lD (jI gQ))),((dC (.str lK)),(lD (jI gQ)))]))
 (hG (lH (lJ (gM (gN 2) gQ)) (iU 2 (gX (gU 4) (gX (gU 5) iT))) (lH (lJ (gM (gN 5) gQ)) (iU 2 (gX (gU 6) (gX (gU 7) iT))) (hG (iF 8 (g9 i7 (gN 7) (dC (.int 0))))
 (hG (iA (gW (g9 (By ai) (gN 8) (iP (gM (dC (.str ew)) (gM (dC (.str el)) gQ))))) (iF 8 (dC (.str lK))) hV)
 (jV (Bz ap i0 (g9 i7 (gN 3) (gN 8)) (gM (iH iD (gM (gN 4) (gM (gN 6) gQ))) gQ)))))))
 (hG (iF 9 (lD (jI gQ)))
 (hG (lH (lJ (gM (gN 2) gQ)) (iU 2 (gX (gU 4) (gX (gU 5) iT))) (hG (iF 10 (lD (jI gQ)))
 (hG (lH (lJ (gM (gN 5) gQ)) (iU 2 (gX (gU 6) (gX (gU 7) iT))) (hG (jV (Bz ap i0 (gN 10) (gM (iP (gM (dC (.str kt)) (gM (iH iD (gM (gN 4) (gM (gN 6) gQ))) (gM (g9 nQ (g9 oG (g9 i7 (gN 7) (dC (.int 3))) (dC (.int 2))) (dC (.int 0))) gQ)))) gQ)))
 (jV (Bz ap i0 (gN 10) (gM (iH iW (gM (gN 7) (gM (g9 i7 (gN 3) (dC (.str lK))) (gM (g9 i7 (gN 3) (dC (.str ew))) (gM (g9 i7 (gN 3) (dC (.str el))) gQ))))) gQ)))))
 (jV (Bz ap i0 (gN 9) (gM (iP (gM (g9 iL (g9 i7 (dC (.str "abcdefghijkl")) (gN 4)) (dC (.str ek))) (gM (UH 10) gQ))) gQ))))))
 (ia (iP (gM (gN 9) (gM (g9 i7 (gN 3) (dC (.str lK))) gQ))))))))))
def E9(D:gY K mg uaw (top 77))(Z:Zs mg)(c:iu P w K mg cq k uar [fx,nX] mV)(e:iu P w K mg cq k wh [ly] nU)(a:iu P w K mg cq k vv [qe,gl] iD)(g:iu P w K mg cq k uau [fk,qq,uas,uat] iW):lM P w K mg cq (k+1) uaw [uav,nX] (jU K (cl (jl 11 2 (r9 mV nU iD iW)))):=
 iQ D oh.hb oh.hc oh.sc (by walk_at "c") λf ik A cv s H E b=>by have h:=il b;have nd:=oh.sc.nd;walk_at "b"
noncomputable def l7:FI (top 78) [fk,lm,fx,ol,"_law_at"] [fk,lm,fx]:=by walk_at "a"
def exH:DE:=(g9 i7 (g9 iL (gN 1) (iS (jI (gM (dC (.str "zzz")) gQ)))) (g9 oG (g9 (gI xZ λi j=>.int (i/j)) (gN 2) (dC (.int 7))) (g9 iL (dC (.int 1)) (iH oU (gM (gN 1) gQ)))))
def oZ:DS:=(hG (iF 3 exH)
 (hG (iA (gW (g9 (By ao) (g9 i7 (gN 0) (dC (.int 0))) (iP (gM (dC (.str nb)) (gM (dC (.str lr)) (gM (dC (.str lp)) (gM (dC (.str lc)) (gM (dC (.str kf)) gQ)))))))) (ia (g9 iL (Ja (gN 0) j0 (my (Jb (dC (.int 1))))) (iP (gM (gN 3) gQ)))) hV)
 (hG (iA (Co (gW (g9 nQ (g9 i7 (gN 0) (dC (.int 0))) (dC (.str jp)))) (gW (g9 nQ (g9 oG (gN 2) (dC (.int 2))) (dC (.int 0))))) (ia (g9 iL (Ja (gN 0) j0 (my (dC (.int 2)))) (iP (gM (gN 3) (gM (g9 i7 (gN 0) (dC (.int 3))) gQ))))) hV)
 (hG (iA (gW (g9 nQ (g9 i7 (gN 0) (dC (.int 0))) (dC (.str jp)))) (ia (g9 iL (Ja (gN 0) j0 (my (dC (.int 3)))) (iP (gM (gN 3) gQ)))) hV)
 (hG (iA (gW (g9 nQ (g9 i7 (gN 0) (dC (.int 0))) (dC (.str el)))) (hG (iF 4 (g9 oG (gN 2) (iH oU (gM (g9 i7 (gN 0) (dC (.int 1))) gQ))))
 (ia (iP (gM (g9 i7 (gN 0) (dC (.int 0))) (gM (g9 iL (g9 iL (Ja (g9 i7 (gN 0) (dC (.int 1))) j0 (my (gN 4))) (iS (jI (gM (gN 3) gQ)))) (Ja (g9 i7 (gN 0) (dC (.int 1))) (my (g9 iL (gN 4) (dC (.int 1)))) j0)) gQ))))) hV)
 (ia (gN 0)))))))
def Bj(D:gY K mg xm (top 78))(Z:Zs mg):lM P w K mg cq (k+1) xm [fk,lm,fx] (jU K (cl (jl 5 3 oZ))):=
 iQ D l7.hb l7.hc l7.sc (by walk_at "c") λf ik A cv s H E a=>by have b:=il a;have nd:=l7.sc.nd;walk_at "b"
noncomputable def pP:FI (top 79) [fb,lm,fx,"_law_at",wk,ly,"_law_asking",gl,"_law_told_here"] [fb,lm,fx]:=by walk_at "a"
def uj (jX:GN)(lZ:GN):DS:=(hG (iF 3 (g9 oG (gN 2) (iH oU (gM (gN 0) gQ))))
 (hG (EH (g9 i7 (gN 0) (gN 3)) (iU 2 (gX (gU 4) (gX (gU 5) iT))))
 (hG (iF 6 (iS (iX [am,aa 5] (zD (gM (iH oU (gM (gN 5) gQ)) gQ)) (gU 0) (gW (g9 IY (iH jX (gM (g9 i7 (gN 1) (gN 0)) gQ)) (iS (jI gQ)))) (gN 0))))
 (hG (iA (gW (g9 EK (gN 6) (iS (jI gQ)))) (ia (gN 0)) hV)
 (hG (iF 7 (g9 i7 (gN 6) (g9 oG (g9 (gI xZ λi j=>.int (i/j)) (gN 2) (dC (.int 5))) (iH oU (gM (gN 6) gQ)))))
 (hG (iF 8 (g9 iL (g9 iL (Ja (gN 5) j0 (my (gN 7))) (iS (jI (gM (iH lZ (gM (g9 i7 (gN 5) (gN 7)) (gM (gN 1) (gM (g9 (gI xZ λi j=>.int (i/j)) (gN 2) (dC (.int 60))) gQ)))) gQ)))) (Ja (gN 5) (my (g9 iL (gN 7) (dC (.int 1)))) j0)))
 (ia (g9 iL (g9 iL (Ja (gN 0) j0 (my (gN 3))) (iS (jI (gM (iP (gM (gN 4) (gM (gN 8) gQ))) gQ)))) (Ja (gN 0) (my (g9 iL (gN 3) (dC (.int 1)))) j0)))))))))
def Hz(D:gY K mg uax (top 79))(Z:Zs mg)(b:iu P w K mg cq k qs [fk] jX)(c:iu P w K mg cq k xm [fk,lm,fx] lZ):lM P w K mg cq (k+1) uax [fb,lm,fx] (jU K (cl (jl 9 3 (uj jX lZ)))):=
 iQ D pP.hb pP.hc pP.sc (by walk_at "c") λf ik A cv s H E a=>by have e:=il a;have nd:=pP.sc.nd;walk_at "b"
noncomputable def rC:FI (top 80) [fk] [fk]:=by walk_at "a"
def AX:DS:=(hG (iA (gW (g9 (By ao) (g9 i7 (gN 0) (dC (.int 0))) (iP (gM (dC (.str nb)) (gM (dC (.str lr)) (gM (dC (.str lp)) (gM (dC (.str lc)) (gM (dC (.str kf)) gQ)))))))) (ia (iS (jI (gM (g9 i7 (gN 0) (Jb (dC (.int 1)))) gQ)))) hV)
 (hG (iA (gW (g9 nQ (g9 i7 (gN 0) (dC (.int 0))) (dC (.str jp)))) (ia (iS (jI (gM (g9 i7 (gN 0) (dC (.int 2))) (gM (g9 i7 (gN 0) (dC (.int 3))) gQ))))) hV)
 (hG (iA (gW (g9 nQ (g9 i7 (gN 0) (dC (.int 0))) (dC (.str el)))) (ia (g9 i7 (gN 0) (dC (.int 1)))) hV)
 (ia (iS (jI gQ))))))
def KC(D:gY K mg qs (top 80)):lM P w K mg cq (k+1) qs [fk] (jU K (cl (jl 1 1 AX))):=
 iQ D rC.hb rC.hc rC.sc (by walk_at "c") λf ik A cv s H E a=>by have b:=il a;have nd:=rC.sc.nd;walk_at "b"
noncomputable def rE:FI (top 81) [fk,za] [fk,za]:=by walk_at "a"
def AY:DS:=(hG (iA (gW (g9 nQ (g9 i7 (gN 0) (dC (.int 0))) (dC (.str kf)))) (ia (g9 nQ (gN 1) (dC (.str ew)))) hV)
 (hG (iA (gW (g9 nQ (g9 i7 (gN 0) (dC (.int 0))) (dC (.str lc)))) (ia (g9 nQ (gN 1) (dC (.str el)))) hV)
 (ia (afe (g9 nQ (g9 i7 (gN 0) (dC (.int 0))) (dC (.str jp))) (g9 (By ai) (gN 1) (iP (gM (dC (.str ew)) (gM (dC (.str el)) gQ))))))))
def KD(D:gY K mg zb (top 81)):lM P w K mg cq (k+1) zb [fk,za] (jU K (cl (jl 2 2 AY))):=
 iQ D rE.hb rE.hc rE.sc (by walk_at "c") λf ik A cv s H E a=>by have b:=il a;have nd:=rE.sc.nd;walk_at "b"
noncomputable def rF:FI (top 82) [fb,pj,wk,ly,gl,fk] [fb]:=by walk_at "a"
def stB:DS:=(iA (gW (g9 nQ (g9 i7 (gN 5) (dC (.int 0))) (dC (.str kt)))) (TX (gN 1) (g9 i7 (gN 5) (dC (.int 1))) (g9 i7 (g9 i7 (iS (iX [am] (iO (Ja (gN 3) (my (gN 4)) j0)) (gU 0) (gW (g9 IY (g9 i7 (gN 0) (dC (.int 0))) (dC (.str kt)))) (gN 0))) (dC (.int 0))) (dC (.int 0)))) hV)
def vz:DS:=(hG (iF 1 (lD GB))
 (hG (lH (iO (gN 0)) (iU 2 (gX (gU 2) (gX (gU 3) iT))) (lH (lJ (gM (gN 3) gQ)) (iU 2 (gX (gU 4) (gX (gU 5) iT))) stB))
 (ia (gN 1))))
def KG(D:gY K mg zt (top 82))(Z:Zs mg):lM P w K mg cq (k+1) zt [fb] (jU K (cl (jl 6 1 vz))):=
 iQ D rF.hb rF.hc rF.sc (by walk_at "c") λf ik A cv s H E a=>by have b:=il a;have nd:=rF.sc.nd;walk_at "b"
noncomputable def wy:FI (top 83) [fb,"_law_stood_here",wk,ly,gl,fk,ol] [fb]:=by walk_at "a"
def duB (mJ:GN):DS:=(hG (iA (gW (g9 (By ai) (gN 6) (gN 1))) (ia (iP (gM (dC (.str "lacking")) (gM (gN 6) (gM (gN 2) (gM (gN 4) gQ)))))) hV)
 (iA (oR (gW (iH mJ (gM (gN 5) (gM (g9 i7 (gN 1) (gN 6)) gQ))))) (ia (iP (gM (dC (.str "aim")) (gM (gN 6) (gM (gN 2) (gM (gN 4) gQ)))))) hV))
def z7 (qZ:GN)(jX:GN)(mJ:GN):DS:=(hG (iF 1 (iH qZ (gM (gN 0) gQ)))
 (hG (lH (iO (gN 0)) (iU 2 (gX (gU 2) (gX (gU 3) iT))) (lH (lJ (gM (iS (iX [am] (iO (gN 3)) (gU 0) (gW (g9 IY (g9 i7 (gN 0) (dC (.int 0))) (dC (.str kt)))) (gN 0))) gQ)) (iU 2 (gX (gU 4) (gX (gU 5) iT))) (lH (iO (iH jX (gM (gN 5) gQ))) (gU 6) (duB mJ))))
 (ia (dC .non))))
def Ri(D:gY K mg "_law_due" (top 83))(Z:Zs mg)(a:iu P w K mg cq k zt [fb] qZ)(e:iu P w K mg cq k qs [fk] jX)(b:iu P w K mg cq k zb [fk,za] mJ):lM P w K mg cq (k+1) "_law_due" [fb] (jU K (cl (jl 7 1 (z7 qZ jX mJ)))):=
 iQ D wy.hb wy.hc wy.sc (by walk_at "c") λf ik A cv s H E c=>by have g:=il c;have nd:=wy.sc.nd;walk_at "b"
noncomputable def uk:FI (top 84) [fb,pj,"_law_word","e","_law_marks"] [fb]:=by walk_at "a"
def xC (K:af)(q8:ar)(a:Vc)(BM:ar)(BN:ar)(kN:ar)(mK:ar):DS:=(hG (iF 1 (dC .non))
 (hG (iF 2 (dC .non))
 (hG (agv K 3 q8 (agu 1 (dCG a (λ_=>(gM (gN 0) gQ)))) (hG (iF 4 (iS (jI (gM (iH (U8 K) (gM (gN 3) (gM (dC (.cls mK)) gQ))) (gM (iH (U8 K) (gM (gN 3) (gM (dC (.cls kN)) gQ))) (gM (iH (U8 K) (gM (gN 3) (gM (dC (.cls BN)) gQ))) (gM (iH (U8 K) (gM (gN 3) (gM (dC (.cls BM)) gQ))) gQ)))))))
 (hG (iF 2 (iP (gM (dC (.str "other")) gQ)))
 (hG (iA (gW (g9 nQ (gN 4) (iS (jI (gM (dC (.bl ai)) (gM (dC (.bl ao)) (gM (dC (.bl ao)) (gM (dC (.bl ao)) gQ)))))))) (iF 2 (iP (gM (dC (.str "lacking")) (gM (Dw K ef (gN 3)) (gM (Dw K ek (gN 3)) (gM (Dw K eH (gN 3)) gQ)))))) hV)
 (iA (gW (g9 nQ (gN 4) (iS (jI (gM (dC (.bl ao)) (gM (dC (.bl ai)) (gM (dC (.bl ao)) (gM (dC (.bl ao)) gQ)))))))) (iF 2 (iP (gM (dC (.str "aim")) (gM (Dw K ef (gN 3)) (gM (Dw K ek (gN 3)) (gM (Dw K eH (gN 3)) gQ)))))) hV)))))
 (ia (iP (gM (gN 2) (gM (gN 1) gQ)))))))
def Na{a:Vc}(D:gY K mg uay (top 84))(Z:Zs mg)(c:mg uaf=aa (.ref q8))(e:OS P w K mg cq k nP [fv] a)(g:mg "NoEnd"=aa (.ref BM))(h:mg "Twice"=aa (.ref BN))(i:mg "WrongAim"=aa (.ref kN))(j:mg "Lacking"=aa (.ref mK)):lM P w K mg cq (k+1) uay [fb] (jU K (Cs 5 1 (xC K q8 a BM BN kN mK))):=
 Ob D uk.hb uk.hc uk.sc (by walk_at "c") λf ik A cv s H E b=>by have m:=il b;have n:=b.units;have nd:=uk.sc.nd;walk_at "b"
noncomputable def pQ:FI (top 85) [fk] [fk]:=by walk_at "a"
def y3:DS:=(hG (iA (gW (g9 (By ao) (g9 i7 (gN 0) (dC (.int 0))) (iP (gM (dC (.str ew)) (gM (dC (.str el)) gQ))))) (ia (iP (gM (g9 i7 (gN 0) (dC (.int 0))) (gM (iS (Xx CG (gM (g9 i7 (gN 0) (dC (.int 1))) gQ))) gQ)))) hV)
 (ia (gN 0)))
def HA(D:gY K mg uaa (top 85))(Z:Zs mg):lM P w K mg cq (k+1) uaa [fk] (jU K (cl (jl 1 1 y3))):=
 iQ D pQ.hb pQ.hc pQ.sc (by walk_at "c") λf ik A cv s H E a=>by have b:=il a;have nd:=pQ.sc.nd;walk_at "b"
noncomputable def ul:FI (top 86) [fb] [fb]:=by walk_at "a"
def DV:DS:=(ia (iS (iX [am,am] (iO (iS (Xx BJ (gM (gN 0) gQ)))) (iU 2 (gX (gU 0) (gX (gU 1) iT))) nv (iP (gM (gN 0) (gM (iS (iX [am] (iO (gN 1)) (gU 0) (gW (g9 IY (g9 i7 (gN 0) (dC (.int 0))) (dC (.str kt)))) (gN 0))) gQ))))))
def Nb(D:gY K mg uab (top 86))(Z:Zs mg):lM P w K mg cq (k+1) uab [fb] (jU K (cl (jl 1 1 DV))):=
 iQ D ul.hb ul.hc ul.sc (by walk_at "c") λf ik A cv s H E a=>by have b:=il a;have nd:=ul.sc.nd;walk_at "b"
noncomputable def rG:FI (top 87) [fb,"_law_word",pj,"_law_kept",wk,ly,fk] [fb]:=by walk_at "a"
def rwB:DS:=(iA (gW (g9 (By ao) (g9 i7 (gN 6) (dC (.int 0))) (iP (gM (dC (.str ew)) (gM (dC (.str el)) gQ))))) (jV (Bz ap i0 (g9 i7 (gN 6) (dC (.int 1))) (gM (dC (.str "x")) gQ))) hV)
def ptB:DS:=(hG (lH (iO (gN 5)) (gU 6) rwB)
 (jV (Bz ap Oa (gN 5) gQ)))
def vB (K:af)(ua:GN)(wo:GN)(qi:GN)(pI:GN)(yQ:GN):DS:=(hG (EH (iH ua (gM (gN 0) gQ)) (iU 2 (gX (gU 1) (gX (gU 2) iT))))
 (hG (iA (gW (g9 IY (gN 1) (iH wo (gM (gN 0) gQ)))) (ia (dC (.bl ao))) hV)
 (hG (iA (gW (g9 Tl (gN 1) (dC .non))) (ia (dC (.bl ai))) hV)
 (hG (iA (SW (oR (gW (iH (kY K) (gM (gN 2) (gM (dC (.ty ap)) gQ))))) (gW (g9 YL (gN 2) (iH qi (gM (gN 0) gQ))))) (ia (dC (.bl ao))) hV)
 (hG (iF 3 (iS (iX [am,am] (iO (gN 0)) (iU 2 (gX (gU 0) (gX (gU 1) iT))) nv (iP (gM (gN 0) (gM (iS (iX [am] (iO (gN 1)) (gU 0) nv (iH pI (gM (gN 0) gQ)))) gQ))))))
 (hG (lH (iO (gN 2)) (iU 2 (gX (gU 4) (gX (gU 5) iT))) ptB)
 (ia (Az (g9 nQ (gN 0) (gN 3)) (g9 nQ (iH yQ (gM (gN 0) gQ)) (iH qi (gM (gN 0) gQ)))))))))))
def KH(D:gY K mg uaz (top 87))(Z:Zs mg)(a:iu P w K mg cq k uay [fb] ua)(b:iu P w K mg cq k "_law_due" [fb] wo)(c:iu P w K mg cq k uab [fb] qi)(h:iu P w K mg cq k uaa [fk] pI)(e:iu P w K mg cq k nP [fv] yQ):lM P w K mg cq (k+1) uaz [fb] (jU K (cl (jl 7 1 (vB K ua wo qi pI yQ)))):=
 iQ D rG.hb rG.hc rG.sc (by walk_at "c") λf ik A cv s H E g=>by have i:=il g;have nd:=rG.sc.nd;walk_at "b"
noncomputable def DW:FI (top 88) [mm,"_law_first",fb,qq,lm,fx] [mm]:=by walk_at "a"
def lwT (kM:GN)(jc:GN)(lq:GN):DS:=(hG (iA (oR (gW (iH kM (gM (gN 2) gQ)))) (ia (dC (.bl ao))) hV)
 (hG (iF 4 (iH jc (gM (gN 2) gQ)))
 (hG (lH (iO (Ja (gN 0) (my (dC (.int 5))) (my (dC (.int 13))))) (gU 5) (hG (iF 2 (iH lq (gM (gN 2) (gM (gN 4) (gM (gN 5) gQ)))))
 (iA (oR (gW (iH kM (gM (gN 2) gQ)))) (ia (dC (.bl ao))) hV)))
 (ia (dC (.bl ai))))))
def Vm (jW:GN)(lV:GN)(nV:GN)(kM:GN)(jc:GN)(lq:GN):DS:=(hG (iF 1 (iH jW (gM (iH lV (gM (gN 0) (gM (dC (.int 0)) gQ))) (gM (iS (jI (gM (dC (.int 4)) (gM (dC (.int 2)) gQ)))) gQ))))
 (hG (EH (iH nV (gM (iS (iX [am,aa 0] (zD (gM (g9 iL (dC (.int 1)) (g9 i7 (gN 1) (dC (.int 0)))) gQ)) (gU 0) nv (iH lV (gM (gN 1) (gM (g9 iL (dC (.int 1)) (gN 0)) gQ))))) (gM (dC (.int 11)) gQ))) (iU 2 (gX (gU 2) (gX (gU 3) iT))))
 (hG (iA (gW (g9 nQ (g9 i7 (gN 1) (dC (.int 1))) (dC (.int 1)))) (iF 2 (agh (gN 2) (my (Jb (dC (.int 1)))))) hV)
 (lwT kM jc lq))))
def agT(Z:Zs mg)(g:iu P w K mg cq k vp [fx,vl] jW)(h:iu P w K mg cq k uM [mm,gl] lV)(i:iu P w K mg cq k uaw [uav,nX] nV)(a:iu P w K mg cq k uaz [fb] kM)(j:iu P w K mg cq k wu [fb] jc)(m:iu P w K mg cq k uax [fb,lm,fx] lq)(f:ar)(ik:ah)(A:bq)(cv:List gq)(s:aq)(H:Hp)(E:XK)(e:iV k (A.deeper (dY "law" DW.c s.heap.objs.size f ik))):
  Fz (rK pZ P w K mg cq [mm,"_law_first",fb,qq,lm,fx] "law" DW.c f ik A cv s H E).ED DW.b (Vm jW lV nV kM jc lq):=by have n:=il e;have nd:=DW.sc.nd;walk_at "b"
end
end kF
namespace kF
open PySem PySem.Spec PyProof.Rows.KTD L2 L3 FJ
abbrev Lj(a:List Pt):List Mk:=a.flatMap λp=>iR p.1 0 p.2
noncomputable def lP(ms:List Mk):List (aB×Pl):=ms.foldl (λl m=>rS m.1 m.2.2 l) []
theorem oi{β:Type}{w:aB}:∀{l:List (aB×β)},w∉l.map aY->iI w l=am
 |[],_=>rfl
 | (x,v)::l,h=>by unfold iI;rw[if_neg λe=>h (by rw[e];exact aE)];exact oi λz=>h (ax _ z)
theorem mL{β:Type}{w:aB}{v:β}:∀{l:List (aB×β)},(l.map aY).Nodup->(w,v)∈l->iI w l=aa v
 |[],_,h=>by cases h
 | (x,u)::l,nd,h=>by
  rw[aZ,eD] at nd;unfold iI;rcases aN.mp h with e|h
  .cases e;rw[if_pos rfl]
  .rw[if_neg λe=>nd.1 (by rw[e];exact bC.mpr ⟨_,h,rfl⟩)];exact mL nd.2 h
theorem HB{β a:Type}(f:β->aB)(g:β->a):∀(xs:List β) (l:List (aB×a)),(l.map aY++xs.map f).Nodup->xs.foldl (λl x=>rS (f x) (g x) l) l=l++xs.map λx=>(f x,g x)
 |[],l,_=>by simp
 |x::xs,l,nd=>by
  have b:iI (f x) l=am:=oi λz=>by rw[de] at nd;exact nd.2.2 _ z _ (by simp) rfl
  have e:rS (f x) (g x) l=l++[(f x,g x)]:=by unfold rS;rw[b];rfl
  show xs.foldl _ (rS (f x) (g x) l)=_;rw[e,HB f g xs _ (by simpa[aM] using nd)];simp
def Vn{ms:List Mk}(nd:(ms.map aY).Nodup):lP ms=ms.map λm=>(m.1,m.2.2):=by unfold lP;rw[HB aY (λm:Mk=>m.2.2) ms [] (by simpa using nd)];rfl
def z8{ms:List Mk}(nd:(ms.map aY).Nodup):placesOf ms=lP ms:=by
 unfold placesOf lP
 suffices h:∀(ms:List Mk) (l:List (aB×Pl)),(l.map aY++ms.map aY).Nodup->ms.foldl mT l=ms.foldl (λl m=>rS m.1 m.2.2 l) l from h ms [] (by simpa using nd)
 intro ms;induction ms with
 |nil=>intro l _;rfl
 |cons m ms b=>
  intro l nd;have a:iI m.1 l=am:=oi λz=>by rw[de] at nd;exact nd.2.2 _ z _ (by simp) rfl
  have e:mT l m=rS m.1 m.2.2 l:=by unfold mT;rw[a];simp
  have e2:rS m.1 m.2.2 l=l++[(m.1,m.2.2)]:=by unfold rS;rw[a];rfl
  show ms.foldl mT (mT l m)=ms.foldl _ (rS m.1 m.2.2 l);rw[e];refine b _ ?_;rw[e2];simpa[aM] using nd
def aaN{x:D}{xs:List D}{M:Ms}{Q:DK}(h:vw M x=.lst xs)(q:Q (.bl xs.isEmpty) M):EK x (.lst []) M Q:=by unfold EK;rw[h];exact q
def agU{a b:Int}{M:Ms}{Q:DK}(h:a<b)(q:Q (.bl ai) M):gLt (.int a) (.int b) M Q:=by show Q (.bl (decide (a<b))) M;rw[decide_eq_true h];exact q
def agV{a b:Int}{M:Ms}{Q:DK}(h:¬a<b)(q:Q (.bl ao) M):gLt (.int a) (.int b) M Q:=by show Q (.bl (decide (a<b))) M;rw[decide_eq_false h];exact q
def agW{a b:Int}{M:Ms}{Q:DK}(q:Q (.bl (decide (a=b))) M):nQ (.int a) (.int b) M Q:=by show Q (.bl (a==b)) M;rw[show(a==b)=decide (a=b) from rfl];exact q
def HC:GP:=λds Q=>∃(ns:List Int) (k:Nat),ds=[.qO ns,.int k]/\∀i:Int,Q (.int i)
def KI:iB HC:=by
 rintro ds P Q w ⟨ns,k,h,q⟩
 exact⟨ns,k,h,λi=>w _ (q i)⟩
def YW:∀ds Q,HC ds Q->jl 2 2 r6 ds Q:=by
 rintro ds Q ⟨ns,k,h,q⟩
 subst h;have ty:=@agU;have a:=@agV;unfold r6;generalize gLt=b at ty a |-;refine⟨rfl,?_⟩;refine⟨ns.length,rfl,?_⟩;by_cases h:(k:Int)<ns.length
 .refine ty h ?_;exact⟨_,kJ (ay (show k<ns.length by lia)),rfl,q _⟩
 .refine a h ?_;exact⟨rfl,q _⟩
def below(ns sz:List Int):Prop:=ns.length=sz.length/\∀(i:Nat) (a z:Int),ns[i]?=aa a->sz[i]?=aa z->0<=a/\a<z
def BO:GP:=λds Q=>∃(c:Int) (sz:List Int),ds=[.int c,.lst (sz.map .int)]/\sz.length<=800/\(∀z∈sz,0<z/\z<2^200)/\∀ns,below ns sz->Q (.lst (ns.map .int))
def HD:iB BO:=by
 rintro ds P Q w ⟨c,sz,h,l,a,q⟩
 exact⟨c,sz,h,l,a,λi b=>w _ (q i b)⟩
def Nd{ns sz:List Int}{j:Nat}{a z:Int}(c:ns.length=j)(e:sz[j]?=aa z)(h:∀(i:Nat) (a z:Int),ns[i]?=aa a->sz[i]?=aa z->0<=a/\a<z)(f:0<=a)(g:a<z):
  ∀(i:Nat) (b y:Int),(ns++[a])[i]?=aa b->sz[i]?=aa y->0<=b/\b<y:=λi b y e1 e2=>by
 by_cases hi:i<ns.length
 .rw[bB hi] at e1;exact h i b y e1 e2
 .rw[cz (by lia)] at e1;have m:i=j:=by have:=(au.mp e1).1;simp at this;lia
  subst m;rw[c,gA] at e1;rw[e] at e2;cases e1;cases e2;exact⟨f,g⟩
def Vo:∀ds Q,BO ds Q->jl 6 2 (vt (cl v9)) ds Q:=by
 rintro ds Q ⟨c,sz,h,U,H,q⟩
 subst h;have eq:=@agW;unfold vt;generalize nQ=ge at eq |-;refine⟨rfl,bu _,⟨by decide,by decide⟩,_,rfl,rfl,?_⟩;refine oC (λj p M=>∃(ns:List Int) (r:Int) (u v:Option D),ns.length=j/\(∀(i:Nat) (a z:Int),ns[i]?=aa a->sz[i]?=aa z->0<=a/\a<z)/\M=[aa (.lst (ns.map .int))]/\p=[aa (.int c),aa (.lst (sz.map .int)),aa (.loc 0),aa (.int r),u,v])
  (λ_ _ _ _=>rfl) _ 0 _ _ ⟨[],_,am,am,rfl,λi a z e=>by simp at e,rfl,rfl⟩ (λj x p M I w N C=>?_) (λp M w=>?_)
 .obtain⟨ns,r,u,v,g,hb,rfl,rfl⟩:=w;obtain⟨y,J,rfl⟩:=sP I;obtain⟨z,b,rfl⟩:=get_map J;rw[ba] at g C;have f:=H z (aS b);have L:j<sz.length:=(au.mp b).1;have E:(ns.map D.int).length<az:=by rw[ak];exact b8 (show ns.length<=1000 by lia) (by decide)
  refine⟨rfl,rfl,?_⟩;have next:∀(a A:Int) (o:Option D),0<=a->a<z->N [aa (.int c),aa (.lst (sz.map .int)),aa (.loc 0),aa (.int A),aa (.int j),aa (.int z)] [aa (.lst (ns.map .int++[.int a]))]:=λa A o O T=>
   C _ _ ⟨ns++[a],A,_,_,by simp[g],Nd g b hb O T,by simp,rfl⟩
  have other:(jV (Bz ap i0 (gN 2) (gM (g9 oG (g9 iL (iH (cl v9) (gM (g9 (gI AS λi j=>.int (i/j)) (gN 0) (dC (.int 2))) (gM (gN 4) gQ))) (g9 adl (iH (cl v9) (gM (g9 (gI AS λi j=>.int (i/j)) (gN 0) (dC (.int 2))) (gM (g9 iL (gN 4) (dC (.int 97))) gQ))) (dC (.int 7)))) (gN 5)) gQ)))
    ⟨N,λd G=>nl (fz G d)=ai/\Q (fz G d),λ_ _=>False,λ_ _=>False⟩ [aa (.int c),aa (.lst (sz.map .int)),aa (.loc 0),aa (.int r),aa (.int j),aa (.int z)] [aa (.lst (ns.map .int))]:=by refine⟨rfl,⟨by decide,by decide⟩,rfl,c/2,j,rfl,by lia,by lia,λn n1 n2=>?_⟩;refine⟨⟨by decide,by decide⟩,rfl,c/2,j+97,rfl,by lia,by lia,λm Y m2=>?_⟩;refine⟨⟨by decide,by decide,by lia⟩,f.1,_,rfl,E,next _ _ am (gp _ (by lia)) (fu _ f.1)⟩
  refine⟨(by decide:(0:Int)<2),?_⟩;refine eq ?_;by_cases hc:c%2=0
  .rw[decide_eq_true hc];refine⟨ag rfl,((0:Int)==r||((-1:Int)==r||false)),rfl,?_⟩;by_cases B:0=r\/-1=r
   .have e:((0:Int)==r||((-1:Int)==r||false))=ai:=by rcases B with h|h<;>simp[<-h]
    rw[e];exact other
   .have e:((0:Int)==r||((-1:Int)==r||false))=ao:=by simp;exact⟨λh=>B (.inl h),λh=>B (.inr h)⟩
    rw[e];refine⟨rfl,f.1,_,rfl,E,⟨f.1,f.2⟩,next _ _ am (gp _ (by lia)) (fu _ f.1)⟩
  .rw[decide_eq_false hc];exact other
 .obtain⟨ns,r,u,v,g,hb,rfl,rfl⟩:=w;refine⟨yC,q ns ⟨?_,hb⟩⟩;rw[g,ba,dB,ak]
inductive Kd
 |set|add|take|say|ask|jump|jumpif|call|back|stop|load|jumpby|alike|numbers|table
 deriving DecidableEq
noncomputable def Kd.s:Kd->aB
 |.set=>fi|.add=>"add"|.take=>pa|.say=>lf|.ask=>"ask"|.jump=>nb|.jumpif=>lp|.call=>lr|.back=>lR|.stop=>me
 |.load=>kf|.jumpby=>lc|.alike=>jp|.numbers=>ew|.table=>el
noncomputable def Kd.qf:Kd->Bool
 |.set|.add|.take|.say|.ask|.jumpif|.call|.load|.alike=>ai
 |_=>ao
noncomputable def Kd.data:Kd->Bool
 |.numbers|.table=>ai
 |_=>ao
noncomputable def Jr:List Kd:=[.set,.add,.take,.say,.ask,.jump,.jumpif,.call,.back,.stop,.load,.jumpby,.alike,.numbers,.table,.say,.jumpif,.call,.set,.say]
structure Bn where
 (k:Kd) (b c m:Int)
noncomputable def Bn.d(x:Bn):D:=.tup [.str x.k.s,.int x.b,.int x.c,.int x.m]
theorem Bn.nl(x:Bn):L3.nl x.d=ai:=rfl
def Nf(l:List Bn):lN (l.map Bn.d)=ai:=jQ Bn.nl l
structure Bn.Ok(x:Bn):Prop where
 b:0<=x.b/\x.b<=3
 c:0<=x.c/\x.c<=3
 m:0<=x.m/\x.m<10000000000
def BP:GP:=λds Q=>ds=[]/\Q (.lst (Jr.map λk=>.str k.s))
def HE:iB BP:=by
 rintro ds P Q w ⟨h,q⟩
 exact⟨h,w _ q⟩
def Vp:∀ds Q,BP ds Q->jl 1 0 AW ds Q:=by
 rintro ds Q ⟨h,q⟩
 subst h;refine⟨rfl,?_⟩;walk_at "d";exact q
def tT:GP:=λds Q=>∃k:Kd,ds=[.str k.s]/\Q (.bl k.qf)
def jh:iB tT:=by
 rintro ds P Q w ⟨k,h,q⟩
 exact⟨k,h,w _ q⟩
def YX:∀ds Q,tT ds Q->jl 1 1 wV ds Q:=by
 rintro ds Q ⟨k,h,q⟩
 subst h;cases k<;>exact⟨rfl,ag rfl,_,rfl,rfl,q⟩
noncomputable def z9(p k:Nat):aB:=⟨#[97+p]⟩++⟨#[97+k/26]⟩++⟨#[97+k%26]⟩
def jS:GP:=λds Q=>∃p k:Nat,p<26/\k<676/\ds=[.int p,.int k]/\Q (.str (z9 p k))
def KJ:iB jS:=by
 rintro ds P Q w ⟨p,k,a,b,h,q⟩
 exact⟨p,k,a,b,h,w _ q⟩
def Ng:∀i,i<26->(uaP:aB).cps.toList[i]?=aa (97+i):=by decide+kernel
def YY:∀ds Q,jS ds Q->jl 3 2 DR ds Q:=by
 rintro ds Q ⟨p,k,a,b,h,q⟩
 subst h;refine⟨rfl,?_⟩;refine⟨by decide+kernel,_,kJ (Ng p a),?_⟩;refine⟨⟨by decide,by decide⟩,by decide+kernel,_,kJ (Ng (k/26) (by lia)),?_⟩;refine⟨show 1+1<=az by decide,(by decide:(0:Int)<26),by decide+kernel,_,kJ (Ng (k%26) (by lia)),?_⟩;exact⟨by rw[PySem.Str.length_append];exact(show 1+1+1<=az by decide),rfl,q⟩
noncomputable def num(m:Int):Int:=if m/9%3=0 then m%7- 2 else if m/9%3=1 then m%41- 20 else m%4294967296- 2147483648
def Vq(m:Int):okN (num m)=ai:=by
 unfold num okN;rw[aU,decide_eq_true_eq,decide_eq_true_eq];split
 .omega
 .split<;>lia
def y4:GP:=λds Q=>∃m:Int,ds=[.int m]/\Q (.int (num m))
def Fa:iB y4:=by
 rintro ds P Q w ⟨k,h,q⟩
 exact⟨k,h,w _ q⟩
def Rj:∀ds Q,y4 ds Q->jl 1 1 yZ ds Q:=by
 rintro ds Q ⟨m,h,q⟩
 subst h;refine⟨rfl,(by decide:(0:Int)<7),(by decide:(0:Int)<41),(by decide:(0:Int)<4294967296),ag rfl,⟨by decide,by decide⟩,(by decide:(0:Int)<3),?_⟩;have a:m/9%3=0\/m/9%3=1\/m/9%3=2:=by lia
 unfold num at q;rcases a with e|e|e
 .rw[if_pos e] at q;exact⟨.int (m%7- 2),show wL _ (m/9%3)=aa _ by rw[e];rfl,rfl,q⟩
 .rw[if_neg (by lia),if_pos e] at q;exact⟨.int (m%41- 20),show wL _ (m/9%3)=aa _ by rw[e];rfl,rfl,q⟩
 .rw[if_neg (by lia),if_neg (by lia)] at q;exact⟨.int (m%4294967296- 2147483648),show wL _ (m/9%3)=aa _ by rw[e];rfl,rfl,q⟩
noncomputable def jO(k:Kd)(b:Int)(w:aB):Rw:=match k with
 |.jumpif=>.jumpif b w|.jump=>.jump w|.call=>.call w|.back=>.back|_=>.stop
noncomputable def Kd.gn:Kd->Bool
 |.jumpif|.jump|.call|.back|.stop=>ai
 |_=>ao
def HF:GP:=λds Q=>∃(k:Kd) (b:Int) (w:aB),ds=[.str k.s,.int b,.str w]/\k.gn=ai/\Q (jO k b w).d
def KL:iB HF:=by
 rintro ds P Q w ⟨k,b,u,h,g,q⟩
 exact⟨k,b,u,h,g,w _ q⟩
def YZ:∀ds Q,HF ds Q->jl 3 3 DU ds Q:=by
 rintro ds Q ⟨k,b,w,h,g,q⟩
 subst h;cases k<;>first|(cases g;done)|(refine⟨rfl,?_⟩;walk_at "d";exact q)
def sT:GP:=λds Q=>∃bs:List Bn,ds=[.lst (bs.map Bn.d)]/\bs.length<=1000/\Q (.bl (bs.filter λx=>!x.k.data).isEmpty)
def Fb:iB sT:=by
 rintro ds P Q w ⟨bs,h,l,q⟩
 exact⟨bs,h,l,w _ q⟩
def Rl:∀ds Q,sT ds Q->jl 1 1 wW ds Q:=by
 rintro ds Q ⟨bs,h,l,q⟩
 subst h;refine⟨rfl,?_⟩;refine⟨_,rfl,rfl,?_⟩;refine kg Bn.d Bn.d (λx=>!x.k.data) ?_ _ _ ?_ (λy f g a=>?_) ?_
 .exact rfl
 .rw[bE,ba];exact kK l
 .have z:=a _ (show Bs [am] [aa y.d]=_ from rfl);obtain⟨k,b,c,m⟩:=y;cases k<;>exact⟨_,rfl,ag rfl,_,rfl,z⟩
 .refine⟨bu _,aaN rfl ⟨rfl,?_⟩⟩;rw[bL];have e:((bs.filter λx=>!x.k.data).map Bn.d).isEmpty=(bs.filter λx=>!x.k.data).isEmpty:=by cases bs.filter λx=>!x.k.data<;>rfl
  show Q (.bl ((bs.filter λx=>!x.k.data).map Bn.d).isEmpty);rw[e];exact q
def RT (l:List Bn):Prop:=∀i x y,l[i]?=aa x->l[i+1]?=aa y->x.k.qf=ai->y.k.data=ao
def OV:RT []:=λi x y h=>by simp at h
def DX{l:List Bn}{x:Bn}(h:RT l)(g:∀z,l.getLast?=aa z->z.k.qf=ai->x.k.data=ao):RT (l++[x]):=λi a b ha hb=>by
 have lb:=(au.mp hb).1;rw[aD,bO] at lb;rw[bB (by lia)] at ha;by_cases e:i+1<l.length
 .rw[bB e] at hb;exact h i a b ha hb
 .have e1:i+1=l.length:=by lia
  rw[cz (by lia),e1,gA] at hb;cases hb;refine g a ?_;rw[List.getLast?_eq_getElem?,<-e1,Nat.add_sub_cancel];exact ha
structure Vr(bs:List Bn):Prop where
 lo:1<=bs.length
 hi:bs.length<=23
 ok:∀x∈bs,x.Ok
 ch:RT bs
 en:∀z,bs.getLast?=aa z->z.k.qf=ao
abbrev szs:List Int:=[11]++(bQ 11 [20,4,4,10000000000]).flatten
def aiM{ns:List Int}(h:below ns szs):∀k:Nat,k<11->∃a b c d,(ns.drop (1+4*k)).take 4=[a,b,c,d]/\(0<=a/\a<20)/\(0<=b/\b<4)/\(0<=c/\c<4)/\(0<=d/\d<10000000000):=by
 obtain⟨j,hb⟩:=h;have r:ns.length=45:=by rw[j];rfl
 intro k m;have g:∀i,i<45->∃a,ns[i]?=aa a:=λi hi=>⟨_,ay (by lia)⟩;obtain⟨a,ha⟩:=g (1+4*k) (by lia);obtain⟨b,f⟩:=g (1+4*k+1) (by lia);obtain⟨c,hc⟩:=g (1+4*k+2) (by lia);obtain⟨d,hd⟩:=g (1+4*k+3) (by lia);have e:∀i x,ns[i]?=aa x->ns.drop i=x::ns.drop (i+1):=λi x n=>by obtain⟨o,p⟩:=au.mp n;rw[dH o,p]
 have s:∀k,k<11->szs[1+4*k]?=aa 20/\szs[1+4*k+1]?=aa 4/\szs[1+4*k+2]?=aa 4/\szs[1+4*k+3]?=aa 10000000000:=by decide+kernel
 obtain⟨s1,s2,s3,q⟩:=s k m;exact⟨a,b,c,d,by rw[e _ _ ha,e _ _ f,e _ _ hc,e _ _ hd];rfl,hb _ _ _ ha s1,hb _ _ _ f s2,hb _ _ _ hc s3,hb _ _ _ hd q⟩
def agX{a:Int}(h:0<=a/\a<20):∃k:Kd,wL (Jr.map λk=>D.str k.s) a=aa (.str k.s):=by
 have g:∀i,i<20->(Jr[i]?).isSome=ai:=by decide+kernel
 obtain⟨n,rfl⟩:∃n:Nat,a=n:=⟨a.toNat,by lia⟩;have:=g n (by lia);cases e:Jr[n]? with
 |none=>rw[e] at this;cases this
 |some k=>exact⟨k,kJ (by rw[bn,e];rfl)⟩
theorem BQ{β:Type}{f:β->D}:∀l:List β,(∀x∈l,L3.pl (f x)=ai)->Bx (l.map f)=ai
 |[],_=>rfl
 |x::l,h=>by show(L3.pl (f x)&&Bx (l.map f))=ai;rw[h x aE,BQ l λy a=>h y (ax _ a)];rfl
theorem BR{β:Type}{f:β->D}{n:Nat}:∀l:List β,(∀x∈l,dp (f x)<=n)->CC (l.map f)<=n
 |[],_=>bu _
 |x::l,h=>by show max (dp (f x)) (CC (l.map f))<=n;have:=h x aE;have:=BR l λy a=>h y (ax _ a);lia
def agY(k:Kd):cR k.s=ai:=by cases k<;>decide+kernel
def aaO(x:Bn):L3.pl x.d=ai:=by show(cR x.k.s&&(ai&&(ai&&(ai&&ai))))=ai;rw[agY];rfl
def aaP(x:Bn):dp x.d<=1:=by show dp (.tup [.str _,.int _,.int _,.int _])<=1;simp[dp,CC]
def HG{bs:List Bn}{x:D}{M:Ms}{Q:DK}(h:vw M x=.lst (bs.map Bn.d))(q:Q (.bl (!bs.isEmpty)) M):IY x (.lst []) M Q:=by
 unfold IY;rw[h];have e:yq (.lst (bs.map Bn.d)) (.lst [])=bs.isEmpty:=by cases bs<;>rfl
 have a:dp (.lst (bs.map Bn.d))<=60:=by have:=BR (f:=Bn.d) (n:=1) bs λx _=>aaP x;show CC (bs.map Bn.d)+1<=60;lia
 refine⟨⟨BQ bs λx _=>aaO x,rfl,a,show dp (.lst [])<=60 by decide⟩,?_⟩;show Q (.bl (!yq (.lst (bs.map Bn.d)) (.lst []))) M;rw[e];exact q
def adJ{n j:Nat}{x:D}(h:(A8 0 n)[j]?=aa x):x=.int j/\j<n:=by unfold A8 at h;obtain⟨i,b,c⟩:=FJ.get_map h;have:=au.mp b;obtain⟨e,a⟩:=this;simp at e a;subst c;refine⟨?_,by lia⟩;simp[<-a]
def bn0(k:Kd):(Bn.mk k 0 0 0).Ok:=⟨⟨Int.le_refl _,show(0:Int)<=3 by decide⟩,⟨Int.le_refl _,show(0:Int)<=3 by decide⟩,⟨Int.le_refl _,show(0:Int)<10000000000 by decide⟩⟩
def Aa:GP:=λds Q=>∃c:Int,ds=[.int c,.int 11]/\∀bs,Vr bs->Q (.lst (bs.map Bn.d))
def KN:iB Aa:=by
 rintro ds P Q w ⟨c,h,q⟩
 exact⟨c,h,λbs g=>w _ (q bs g)⟩
def Y0:∀ds Q,Aa ds Q->jl 10 2 (vy (cl BO) (cl BP) (cl tT)) ds Q:=by
 rintro ds Q ⟨c,h,q⟩
 subst h;refine⟨rfl,ag rfl,?_⟩;refine⟨⟨by decide,by decide,by decide⟩,?_⟩;refine⟨ag rfl,?_⟩;refine⟨⟨by decide,by decide,ag rfl⟩,?_⟩;refine⟨ag rfl,?_⟩;refine⟨rfl,c,szs,rfl,ag rfl,by decide+kernel,λns hb=>?_⟩;obtain⟨p,H⟩:∃p,ns[0]?=aa p:=⟨_,ay (by rw[hb.1];exact ag rfl)⟩;have hp8:=hb.2 0 p 11 H rfl;have T:wL (ns.map D.int) 0=aa (.int p):=kJ (k:=0) (by rw[bn,H];rfl);refine⟨bu _,_,T,?_⟩;refine⟨⟨by lia,by lia⟩,trivial,?_⟩;refine oC (λj U M=>∃(bs:List Bn) (Y o5 o6 o7 o8 o9:Option D),bs.length<=2*j/\(1<=j->1<=bs.length)/\(∀x∈bs,x.Ok)/\RT bs/\M=[aa (.lst (bs.map Bn.d))]/\U=[aa (.int c),aa (.int 11),aa (.lst (ns.map D.int)),aa (.loc 0),Y,o5,o6,o7,o8,o9])
  (λ_ _ _ _=>trivial) _ 0 _ _ ⟨[],am,am,am,am,am,am,bu _,λh=>absurd h (by decide),λr h=>(by cases h),OV,rfl,rfl⟩ (λj x U M hx H N hN=>?_) (λU M H=>?_)
 .obtain⟨bs,Y,o5,o6,o7,o8,o9,hj,n,I,hc,rfl,rfl⟩:=H;obtain⟨rfl,hj8⟩:=adJ hx;rw[ba] at hj n hN;obtain⟨a,b,d,m,e3,ha,Io,hd,hm⟩:=aiM hb j (by lia);obtain⟨k,hk⟩:=agX ha;have aiN:cutD (ns.map D.int) (aa (1+4*(j:Int))) (aa (5+4*(j:Int)))=[.int a,.int b,.int d,.int m]:=by have:=X7 (xs:=ns.map D.int) (k:=1+4*j) (m:=5+4*j) (by rw[ak,hb.1];show 5+4*j<=45;lia) (by lia);rw[show((1+4*j:Nat):Int)=1+4*(j:Int) by push_cast;rfl,show((5+4*j:Nat):Int)=5+4*(j:Int) by push_cast;rfl,show 5+4*j- (1+4*j)=4 by lia,<-eZ,<-ajh,e3] at this;exact this
  have xo:(Bn.mk k b d m).Ok:=⟨⟨Io.1,by show b<=3;lia⟩,⟨hd.1,by show d<=3;lia⟩,hm⟩;have O:∀(E:jK),E.nx=N->∀A:List Bn,A.length<=2*j+1->(∀y∈A,y.Ok)->RT A->(∀z,A.getLast?=aa z->z.k.qf=ai->k.data=ao)->
    jV (Bz ap i0 (gN 3) (gM (gN 9) gQ)) E [aa (.int c),aa (.int 11),aa (.lst (ns.map D.int)),aa (.loc 0),aa (.int j),aa (.int a),aa (.int b),aa (.int d),aa (.int m),aa (Bn.mk k b d m).d] [aa (.lst (A.map Bn.d))]:=λE u A l o ch g=>by
   refine⟨rfl,_,rfl,?_,?_⟩
   .rw[ak];exact b8 (show A.length<=1000 by lia) (by decide)
   .rw[u];refine hN _ _ ⟨A++[Bn.mk k b d m],_,_,_,_,_,_,by rw[aD,bO];lia,λ_=>by rw[aD,bO];lia,λy J=>?_,DX ch g,by rw[aM];rfl,rfl⟩;rcases bj.mp J with h|h
    .exact o y h
    .rw[bp.mp h];exact xo
  refine⟨.inl ⟨by decide,by decide⟩,.inl ⟨by decide,by decide⟩,?_⟩;show J8 _ _ (D.lst (cutD (ns.map D.int) (aa (1+4*(j:Int))) (aa (5+4*(j:Int))))) _ _ _;rw[aiN];refine⟨rfl,rfl,?_⟩;refine⟨rfl,rfl,_,hk,ag rfl,?_⟩;clear hk;cases f:k.data with
  |false=>
   have B:=λE u=>O E u bs (by lia) I hc (λ_ _ _=>f);cases k<;>first|(cases f;done)|exact⟨_,rfl,ag rfl,_,rfl,B _ rfl⟩
  |true=>
   rcases List.eq_nil_or_concat bs with C|⟨l,z,L⟩
   .subst C;have B:=λE u=>O E u [] (bu _) (λy h=>by cases h) OV (λz h=>by cases h);cases k<;>first|(cases f;done)|exact⟨_,rfl,ag rfl,_,rfl,bu _,HG (bs:=[]) rfl (B _ rfl)⟩
   .rw[List.concat_eq_append] at L;subst L;have zl:(l++[z]).getLast?=aa z:=by simp
    have em:(l++[z]).isEmpty=ao:=by simp
    have w:wL ((l++[z]).map Bn.d) (-1)=aa z.d:=by rw[aM];exact IJ _ _
    have sl:((l++[z]).map Bn.d).length<az:=by rw[ak];exact b8 (show(l++[z]).length<=1000 by lia) (by decide)
    cases i:z.k.qf with
    |false=>
     have B:=λE u=>O E u (l++[z]) (by lia) I hc (λz' h g=>by rw[zl] at h;cases h;rw[i] at g;cases g);cases k<;>first|(cases f;done)|(refine⟨_,rfl,ag rfl,_,rfl,bu _,HG (bs:=l++[z]) rfl ?_⟩;rw[em];refine⟨_,w,_,rfl,rfl,z.k,rfl,?_⟩;rw[i];exact B _ rfl)
    |true=>
     have B:=λE u=>O E u (l++[z]++[Bn.mk .back 0 0 0]) (by rw[aD,bO];lia) (λy J=>by
      rcases bj.mp J with h|h
      .exact I y h
      .rw[bp.mp h];exact bn0 _) (DX hc λ_ _ _=>rfl) (λz' h g=>by rw[List.getLast?_concat] at h;cases h;cases g)
     rw[aM] at B;cases k<;>first|(cases f;done)|(refine⟨_,rfl,ag rfl,_,rfl,bu _,HG (bs:=l++[z]) rfl ?_⟩;rw[em];refine⟨_,w,_,rfl,rfl,z.k,rfl,?_⟩;rw[i];exact⟨rfl,ag rfl,_,rfl,sl,B _ rfl⟩)
 .obtain⟨bs,Y,o5,o6,o7,o8,o9,hj,n,I,hc,rfl,rfl⟩:=H;have rl:(A8 0 (1+p).toNat).length=(1+p).toNat:=by simp[A8]
  rw[ba,rl] at hj n;rcases List.eq_nil_or_concat bs with C|⟨l,z,L⟩
  .subst C;have:=n (by lia);cases this
  .rw[List.concat_eq_append] at L;subst L;have zl:(l++[z]).getLast?=aa z:=by simp
   have w:wL ((l++[z]).map Bn.d) (-1)=aa z.d:=by rw[aM];exact IJ _ _
   have sl:((l++[z]).map Bn.d).length<az:=by rw[ak];exact b8 (show(l++[z]).length<=1000 by lia) (by decide)
   have ll:1<=(l++[z]).length:=by simp
   refine⟨_,w,_,rfl,rfl,z.k,rfl,?_⟩;cases i:z.k.qf with
   |false=>exact⟨Nf _,q _ ⟨ll,by lia,I,hc,λz' h=>by rw[zl] at h;cases h;exact i⟩⟩
   |true=>
    obtain⟨v,hv⟩:∃v,ns[2]?=aa v:=⟨_,ay (by rw[hb.1];exact ag rfl)⟩;have aiO:wL (ns.map D.int) 2=aa (.int v):=kJ (k:=2) (by rw[bn,hv];rfl);have en:∀G:Kd,G.qf=ao->G.data=ao->lN ((l++[z]).map Bn.d++[(Bn.mk G 0 0 0).d])=ai/\Q (.lst ((l++[z]).map Bn.d++[(Bn.mk G 0 0 0).d])):=λG g1 g2=>by
     have e:(l++[z]).map Bn.d++[(Bn.mk G 0 0 0).d]=(l++[z]++[Bn.mk G 0 0 0]).map Bn.d:=by rw[aM (l₁:=l++[z])];rfl
     rw[e];refine⟨Nf _,q _ ⟨by simp,by rw[aD,bO];lia,λy J=>?_,DX hc λ_ _ _=>g2,λz' h=>by rw[List.getLast?_concat] at h;cases h;exact g1⟩⟩;rcases bj.mp J with h|h
     .exact I y h
     .rw[bp.mp h];exact bn0 _
    refine⟨rfl,ag rfl,_,aiO,(by decide:(0:Int)<2),?_⟩;have h2:v%2=0\/v%2=1:=by lia
    rcases h2 with e|e
    .exact⟨.str me,show wL _ (v%2)=aa _ by rw[e];rfl,ag rfl,_,rfl,sl,en .stop rfl rfl⟩
    .exact⟨.str lR,show wL _ (v%2)=aa _ by rw[e];rfl,ag rfl,_,rfl,sl,en .back rfl rfl⟩
noncomputable def um(l:List aB)(m:Int):aB:=l.getD (m%(l.length:Int)).toNat ""
noncomputable def fill(cs ns a:List aB)(x:Bn):Rw:=match x.k with
 |.load=>if ns=[] then .say x.b else .load x.b x.c (um ns x.m)
 |.alike=>if x.m%5=0 then .say x.b else .alike x.b (um (cs++ns++a) x.m) (um (cs++ns++a) (x.m/7))
 |.jumpby=>if a=[] then .back else .jumpby x.b (um a x.m)
 |.numbers=>.numbers ((bY (1+x.m%4).toNat).map λ(j:Nat)=>num (x.m/3+5*(j:Int)))
 |.table=>.table ((bY (1+x.m%4).toNat).map λ(j:Nat)=>um cs (x.m/5+3*(j:Int)))
 |.set=>.set x.b (num x.m)
 |.add=>.add x.b x.c
 |.take=>.take x.b x.c
 |.say=>.say x.b
 |.ask=>.ask x.b
 |k=>jO k x.b (um cs x.m)
def kO{l:List aB}{m:Int}(h:l≠[]):um l m∈l:=by
 have a:0<l.length:=List.length_pos_iff.mpr h;have b:=gp m (show(l.length:Int)≠0 by lia);have c:=fu m (show(0:Int)<l.length by lia);have lt:(m%(l.length:Int)).toNat<l.length:=by lia
 unfold um;rw[bF,ay lt];exact fU lt
def Y1{l:List aB}{m:Int}(h:l≠[]):wL (l.map D.str) (m%(l.length:Int))=aa (.str (um l m)):=by
 have a:0<l.length:=List.length_pos_iff.mpr h;have b:=gp m (show(l.length:Int)≠0 by lia);have c:=fu m (show(0:Int)<l.length by lia);obtain⟨n,hn⟩:∃n:Nat,m%(l.length:Int)=n:=⟨(m%(l.length:Int)).toNat,by lia⟩;unfold um;rw[hn];have lt:n<l.length:=by lia
 refine kJ ?_;rw[bn,ay lt,fN,bF,ay lt];rfl
def Rm(cs ns a:List aB)(x:Bn):(fill cs ns a x).qf=x.k.qf:=by obtain⟨k,b,c,m⟩:=x;cases k<;>first|rfl|(unfold fill;dsimp only;split<;>rfl)
def F8(cs ns a:List aB)(x:Bn):(fill cs ns a x).code=!x.k.data:=by obtain⟨k,b,c,m⟩:=x;cases k<;>first|rfl|(unfold fill;dsimp only;split<;>rfl)
def pW(cs ns a:List aB)(x:Bn):(fill cs ns a x).iy=ao:=by obtain⟨k,b,c,m⟩:=x;cases k<;>first|rfl|(unfold fill;dsimp only;split<;>rfl)
set_option tactic.hygienic true in
def Y2{cs ns a:List aB}{x:Bn}(o:x.Ok)(hc:cs≠[])(f:∀w∈cs,mC w=ai)(wn:∀w∈ns,mC w=ai)(wt:∀w∈a,mC w=ai):(fill cs ns a x).ok=ai:=by
 have bo:qT x.b=ai:=by unfold qT;rw[aU,decide_eq_true_eq,decide_eq_true_eq];exact o.b
 have co:qT x.c=ai:=by unfold qT;rw[aU,decide_eq_true_eq,decide_eq_true_eq];exact o.c
 have wp:mC (um cs x.m)=ai:=f _ (kO hc);have all:∀w∈cs++ns++a,mC w=ai:=λw hw=>by
  rcases bj.mp hw with h|h
  .rcases bj.mp h with h|h
   .exact f w h
   .exact wn w h
  .exact wt w h
 have ne:cs++ns++a≠[]:=by simp[hc]
 have e:1<=(1+x.m%4).toNat/\(1+x.m%4).toNat<=60:=by lia
 obtain⟨k,b,c,m⟩:=x;cases k;case load=>
  unfold fill;dsimp only;split
  .exact bo
  .rename_i h;show(qT b&&qT c&&mC _)=ai;rw[show qT b=ai from bo,show qT c=ai from co,wn _ (kO h)];rfl
 case alike=>
  unfold fill;dsimp only;split
  .exact bo
  .show(qT b&&mC _&&mC _)=ai;rw[show qT b=ai from bo,all _ (kO ne),all _ (kO ne)];rfl
 case jumpby=>
  unfold fill;dsimp only;split
  .rfl
  .rename_i h;show(qT b&&mC _)=ai;rw[show qT b=ai from bo,wt _ (kO h)];rfl
 case numbers=>
  show(decide (1<=_)&&decide (_<=60)&&List.all _ okN)=ai;rw[ak,dL,decide_eq_true e.1,decide_eq_true e.2,List.all_map];simp only [Bool.true_and];exact bG.mpr λj _=>Vq _
 case table=>
  show(decide (1<=_)&&decide (_<=60)&&List.all _ mC)=ai;rw[ak,dL,decide_eq_true e.1,decide_eq_true e.2,List.all_map];simp only [Bool.true_and];exact bG.mpr λj _=>f _ (kO hc)
 case set=>show(qT b&&okN _)=ai;rw[show qT b=ai from bo,Vq];rfl
 case add=>show(qT b&&qT c)=ai;rw[show qT b=ai from bo,show qT c=ai from co];rfl
 case take=>show(qT b&&qT c)=ai;rw[show qT b=ai from bo,show qT c=ai from co];rfl
 case say=>exact bo
 case ask=>exact bo
 case jump=>exact wp
 case jumpif=>show(qT b&&mC _)=ai;rw[show qT b=ai from bo,wp];rfl
 case call=>exact wp
 case back=>rfl
 case stop=>rfl
def jT:GN:=λds M Q=>∃(x:Bn) (cs ns a:List aB) (b c:Option OD) (rest:Ms),ds=[x.d,.loc 4,.loc 2,.loc 3]/\M=b::c::aa (.lst (ns.map .str))::aa (.lst (a.map .str))::aa (.lst (cs.map .str))::rest/\x.Ok/\cs≠[]/\cs.length<=1000/\ns.length<=1000/\a.length<=1000/\Q (fill cs ns a x).d M
def Fc:oz jT:=by
 rintro ds M P Q w ⟨x,cs,ns,f,g,i,rest,h,a1,a,b,c,d,e,q⟩
 exact⟨x,cs,ns,f,g,i,rest,h,a1,a,b,c,d,e,w _ _ q⟩
def Rn:∀ds M Q,jT ds M Q->Cs 10 4 (y0 (cl y4) (cl HF)) ds M Q:=by
 rintro ds M Q ⟨x,cs,ns,f,H,I,rest,h,y,ok,hc,J,ln,lt,q⟩
 subst h y;have len:∀l:List aB,l≠[]->(0:Int)<((l.map D.str).length:Int):=λl h=>by have:=List.length_pos_iff.mpr h;rw[ak];lia
 have i:∀(l:List aB) (m:Int),l≠[]->wL (l.map D.str) (m%((l.map D.str).length:Int))=aa (.str (um l m)):=λl m h=>by rw[ak];exact Y1 h
 have r:=i cs x.m hc;have u:=len cs hc;obtain⟨k,b,c,m⟩:=x;refine⟨rfl,rfl,rfl,_,rfl,u,_,r,?_⟩;clear r;cases k;case add=>walk_at "d";exact q
 case take=>walk_at "d";exact q
 case say=>walk_at "d";exact q
 case ask=>walk_at "d";exact q
 case set=>walk_at "d";exact q
 case jump=>walk_at "d";exact⟨.jump,b,_,rfl,rfl,q⟩
 case jumpif=>walk_at "d";exact⟨.jumpif,b,_,rfl,rfl,q⟩
 case call=>walk_at "d";exact⟨.call,b,_,rfl,rfl,q⟩
 case back=>walk_at "d";exact⟨.back,b,_,rfl,rfl,q⟩
 case stop=>walk_at "d";exact⟨.stop,b,_,rfl,rfl,q⟩
 case load=>
  by_cases hn:ns=[]
  .subst hn;walk_at "d";exact q
  .have g:=len ns hn;have pn:=i ns m hn;rw[show fill cs ns f ⟨.load,b,c,m⟩=Rw.load b c (um ns m) from if_neg hn] at q;obtain⟨a,l,rfl⟩:=eO hn;walk_at "d";exact⟨g,_,pn,ag rfl,q⟩
 case alike=>
  refine⟨(by decide:(0:Int)<5),?_⟩;by_cases n:m%5=0
  .rw[show fill cs ns f ⟨.alike,b,c,m⟩=Rw.say b from if_pos n] at q;show(if(m%5==0)=ai then _ else _);rw[if_pos (by rw[n];rfl)];exact⟨ag rfl,q⟩
  .rw[show fill cs ns f ⟨.alike,b,c,m⟩=Rw.alike b (um (cs++ns++f) m) (um (cs++ns++f) (m/7)) from if_neg n] at q;show(if(m%5==0)=ai then _ else _);rw[if_neg (by rw[beq_iff_eq];exact n)];have e:cs.map D.str++ns.map D.str++f.map D.str=(cs++ns++f).map D.str:=by rw[aM,aM]
   have o:cs++ns++f≠[]:=by simp[hc]
   have g:=len _ o;have v:=i _ m o;have w:=i _ (m/7) o;rw[<-e] at g v w;have A:(cs.map D.str).length+(ns.map D.str).length<=az:=by rw[ak,ak];exact bh (show _<=2000 by lia) (by decide)
   have B:(cs.map D.str++ns.map D.str).length+(f.map D.str).length<=az:=by rw[aD,ak,ak,ak];exact bh (show _<=3000 by lia) (by decide)
   exact⟨A,B,_,rfl,g,_,v,⟨by decide,by decide⟩,_,rfl,g,_,w,ag rfl,q⟩
 case jumpby=>
  by_cases hn:f=[]
  .subst hn;walk_at "d";exact q
  .have g:=len f hn;have pn:=i f m hn;rw[show fill cs ns f ⟨.jumpby,b,c,m⟩=Rw.jumpby b (um f m) from if_neg hn] at q;obtain⟨a,l,rfl⟩:=eO hn;walk_at "d";exact⟨g,_,pn,ag rfl,q⟩
 case numbers=>
  walk_at "d";refine⟨(by decide:(0:Int)<4),⟨?_,?_⟩,trivial,?_⟩
  .show(-2^62:Int)<=1+m%4;lia
  .show(1+m%4:Int)<2^62;lia
  show lQ _ _ _ _ _ _ ((bY (1+m%4).toNat).map _) _ _ _;refine ke _ (λj:Nat=>D.int (num (m/3+5*(j:Int)))) trivial _ _ ?_ (λj C E p=>?_) ?_
  .rw[bE,ba,dL];exact kK (by lia)
  .have z:=p _ (show Bs [am,aa 7] [aa (.int (0+(j:Int))),aa (.int m)]=_ from rfl);refine⟨⟨by decide,by decide⟩,.inl ⟨by decide,by decide⟩,rfl,_,rfl,?_⟩;rw[Int.zero_add] at z |-;exact z
  .rw[bL];have e:(fill cs ns f ⟨.numbers,b,c,m⟩).d=.tup [.str ew,.lst ((bY (1+m%4).toNat).map λj:Nat=>D.int (num (m/3+5*(j:Int))))]:=by show D.tup [_,.lst (gC _ (gC _ _))]=_;rw[bd];rfl
   rw[e] at q;exact⟨ag rfl,q⟩
 case table=>
  walk_at "d";refine⟨(by decide:(0:Int)<4),⟨?_,?_⟩,trivial,?_⟩
  .show(-2^62:Int)<=1+m%4;lia
  .show(1+m%4:Int)<2^62;lia
  show lQ _ _ _ _ _ _ ((bY (1+m%4).toNat).map _) _ _ _;refine ke _ (λj:Nat=>D.str (um cs (m/5+3*(j:Int)))) trivial _ _ ?_ (λj C E p=>?_) ?_
  .rw[bE,ba,dL];exact kK (by lia)
  .have z:=p _ (show Bs [am,aa 1,aa 7] [aa (.int (0+(j:Int))),aa (.loc 4),aa (.int m)]=_ from rfl);have G:=i cs (m/5+3*(j:Int)) hc;refine⟨⟨by decide,by decide⟩,.inl ⟨by decide,by decide⟩,_,rfl,u,_,?_,z⟩;rw[<-G];rw[Int.zero_add]
  .rw[bL];have e:(fill cs ns f ⟨.table,b,c,m⟩).d=.tup [.str el,.lst ((bY (1+m%4).toNat).map λj:Nat=>D.str (um cs (m/5+3*(j:Int))))]:=by show D.tup [_,.lst (gC _ (gC _ _))]=_;rw[bd];rfl
   rw[e] at q;exact⟨ag rfl,q⟩
noncomputable def Cu:Kd->Bool
 |.numbers=>ai
 |_=>ao
noncomputable def EA:Kd->Bool
 |.table=>ai
 |_=>ao
noncomputable def Ab(k:Kd):Bool:=!k.data
noncomputable def Ac(f:Kd->Bool)(p:Nat)(l:List (Bn×Nat)):List aB:=(l.filter λx=>f x.1.k).map λx=>z9 p x.2
noncomputable def ny(f:Kd->Bool)(l:List (List Bn×Nat)):List aB:=l.flatMap λx=>Ac f x.2 x.1.zipIdx
noncomputable def kC(cs ns a:List aB)(p:Nat)(l:List (Bn×Nat)):List Rw:=l.flatMap λx=>[.mark (z9 p x.2) (x.1.m%2==0),fill cs ns a x.1]
noncomputable def HH(p:Nat):aB:=⟨#[97+p]⟩++ek
noncomputable def BS(cs ns a:List aB)(l:List (List Bn×Nat)):List Pt:=l.map λx=>(HH x.2,kC cs ns a x.2 x.1.zipIdx)
noncomputable def prog(a:List (List Bn)):List Pt:=BS (ny Ab a.zipIdx) (ny Cu a.zipIdx) (ny EA a.zipIdx) a.zipIdx
structure OW(bs:List Bn):Prop where
 lo:1<=bs.length
 hi:bs.length<=25
 ok:∀x∈bs,x.Ok
 ch:RT bs
 en:∀z,bs.getLast?=aa z->z.k.qf=ao
structure HI(ip:List (List Bn)):Prop where
 lo:1<=ip.length
 hi:ip.length<=4
 all:∀bs∈ip,OW bs
 code:ny Ab ip.zipIdx≠[]
def Y3(p k:Nat):(z9 p k).cps.toList=[97+p,97+k/26,97+k%26]:=rfl
def Vs{p k a k':Nat}(h:p<a\/(p=a/\k<k')):uR (z9 p k) (z9 a k')=ai/\z9 p k≠z9 a k':=by
 have ne:z9 p k≠z9 a k':=λe=>by have:=congrArg (λs:aB=>s.cps.toList) e;simp only [Y3,List.cons.injEq] at this;lia
 refine⟨?_,ne⟩;unfold uR;rw[Y3,Y3];simp only [fJ,decide_eq_false_iff_not,fP];simp;lia
def aaQ{p k:Nat}(a:p<26)(b:k<676):mC (z9 p k)=ai:=by
 have:k/26<26:=by lia
 have:k%26<26:=by lia
 unfold mC low;rw[Y3];show(decide (1<=3)&&decide (3<=8)&&_)=ai;simp;lia
def agZ{p:Nat}(a:p<26):mC (HH p)=ai:=by
 have:∀p,p<26->mC (HH p)=ai:=by decide+kernel
 exact this p a
def adK{p a:Nat}(h:p<a):uR (HH p) (HH a)=ai/\HH p≠HH a:=by
 have c:∀p,(HH p).cps.toList=[97+p,112,97,114,116]:=λp=>rfl;refine⟨?_,λe=>?_⟩
 .unfold uR;rw[c,c];simp only [fJ,decide_eq_false_iff_not,fP];simp;lia
 .have:=congrArg (λs:aB=>s.cps.toList) e;simp only [c,List.cons.injEq] at this;lia
def Nh{β:Type}(l:List β)(n:Nat):(l.zipIdx n).Pairwise λa b=>a.2<b.2:=by rw[dI];intro i j hi c h;simp;lia
def Vt{f:Kd->Bool}{b:List (List Bn)}{w:aB}(h:w∈ny f b.zipIdx):∃p k bs x,b[p]?=aa bs/\bs[k]?=aa x/\f x.k=ai/\w=z9 p k:=by unfold ny Ac at h;obtain⟨⟨bs,p⟩,hb,h⟩:=dz.mp h;obtain⟨⟨x,k⟩,a,rfl⟩:=bC.mp h;obtain⟨a,c⟩:=cK.mp a;exact⟨p,k,bs,x,by simpa[bS] using hb,by simpa[bS] using a,c,rfl⟩
theorem DY(cs ns a:List aB)(n:aB)(p:Nat):∀(bs:List Bn) (j:Nat),iR n j (kC cs ns a p (bs.zipIdx j))=(bs.zipIdx j).map λx=>(z9 p x.2,x.1.m%2==0,n,x.2)
 |[],j=>rfl
 |x::bs,j=>by rw[fV];show(_,_,_,_)::iR n j (fill cs ns a x::kC cs ns a p (bs.zipIdx (j+1)))=_;rw[lh (pW _ _ _ _),DY cs ns a n p bs (j+1)];rfl
theorem bare_rows(cs ns a:List aB)(p:Nat):∀(l:List (Bn×Nat)),bare (kC cs ns a p l)=l.map λx=>fill cs ns a x.1
 |[]=>rfl
 |x::l=>by show List.filter _ (_::fill cs ns a x.1::kC cs ns a p l)=_;rw[ajn (by simp[Rw.iy]),ajo (by rw[pW];rfl)];exact congrArg _ (bare_rows cs ns a p l)
def Y4{β a:Type}(f:β->a)(l:List β)(j:Nat):(l.zipIdx j).map (λx=>f x.1)=l.map f:=by rw[show(λx:β×Nat=>f x.1)=f∘aY from rfl,<-bd,List.zipIdx_map_fst]
noncomputable def RU(l:List (List Bn×Nat)):List FJ.Mk:=l.flatMap λx=>x.1.zipIdx.map λy=>(z9 x.2 y.2,y.1.m%2==0,HH x.2,y.2)
def OX(cs ns a:List aB)(l:List (List Bn×Nat)):Lj (BS cs ns a l)=RU l:=by unfold Lj BS RU;rw[List.flatMap_map];congr 1;funext x;exact DY _ _ _ _ _ _ _
def Vu(c:List (List Bn)):((RU c.zipIdx).map aY).Pairwise λa b=>uR a b=ai/\a≠b:=by
 rw[eM];unfold RU;rw[List.pairwise_flatMap];refine⟨λx e=>?_,(Nh c 0).imp λ{a b} h=>?_⟩
 .rw[eM];exact(Nh x.1 0).imp λ{a b} h=>Vs (.inr ⟨rfl,h⟩)
 .intro x e y f;obtain⟨g,_,rfl⟩:=bC.mp e;obtain⟨i,_,rfl⟩:=bC.mp f;exact Vs (.inl h)
def Ni(cs ns e:List aB)(c:List (List Bn)):((BS cs ns e c.zipIdx).map aY).Pairwise λa b=>uR a b=ai/\a≠b:=by unfold BS;rw[bd,eM];exact(Nh c 0).imp λ{a b} h=>adK h
def KO(cs ns n:List aB)(o:List (List Bn)):mI (BS cs ns n o.zipIdx)=BS cs ns n o.zipIdx:=by
 have c:=Ni cs ns n o;generalize BS cs ns n o.zipIdx=m at c;unfold mI jL;have e:(m.map aY).zip m=m.map λp=>(p.1,p):=by have:=List.zip_map' (f:=aY) (g:=id) (l:=m);simpa using this
 rw[e];rw[eM] at c;have:=BB (key:=aY) (fh (m.map λp=>(p.1,p))) (by rw[eM];exact c.imp λh=>h.1) (λa ha b hb h=>by
  obtain⟨a,q,rfl⟩:=bC.mp ha;obtain⟨b,u,rfl⟩:=bC.mp hb;obtain⟨i,hi,rfl⟩:=ajI.mp q;obtain⟨j,r,rfl⟩:=ajI.mp u;rw[dI] at c;rcases Nat.lt_trichotomy i j with z|z|z
  .exact absurd h (c i j hi r z).2
  .subst z;rfl
  .exact absurd h.symm (c j i r hi z).2)
 rw[<-this,bd];exact List.map_id _
section
variable {ip:List (List Bn)}
def DZ{β:Type}{l:List β}{k:Nat}{x:β}(h:l[k]?=aa x):l.zipIdx[k]?=aa (x,k):=by rw[List.getElem?_zipIdx,h];simp
def OY(ip:List (List Bn)):((RU ip.zipIdx).map aY).Nodup:=(Vu ip).imp λh=>h.2
def vC:iw (BS cs ns ts ip.zipIdx)=RU ip.zipIdx:=by unfold iw;rw[KO];exact OX _ _ _ _
def adL{p k:Nat}{bs:List Bn}{x:Bn}(a:ip[p]?=aa bs)(b:bs[k]?=aa x):iI (z9 p k) (ki (BS cs ns ts ip.zipIdx))=aa (HH p,k):=by unfold ki;rw[vC,z8 (OY ip),Vn (OY ip)];refine mL (by rw[bd];exact OY ip) ?_;refine bC.mpr ⟨(z9 p k,x.m%2==0,HH p,k),?_,rfl⟩;unfold RU;exact dz.mpr ⟨(bs,p),aS (DZ a),bC.mpr ⟨(x,k),aS (DZ b),rfl⟩⟩
def OZ{p:Nat}{bs:List Bn}(a:ip[p]?=aa bs):iI (HH p) (ie (BS cs ns ts ip.zipIdx))=aa (bs.map (fill cs ns ts)):=by
 unfold ie;rw[KO];refine mL ?_ ?_
 .rw[bd];exact(Ni cs ns ts ip).imp λh=>h.2
 .refine bC.mpr ⟨(HH p,kC cs ns ts p bs.zipIdx),bC.mpr ⟨(bs,p),aS (DZ a),rfl⟩,?_⟩;show(HH p,bare _)=_;rw[bare_rows,Y4]
def adM{p k:Nat}{bs:List Bn}{x:Bn}(a:ip[p]?=aa bs)(b:bs[k]?=aa x):Uw (ie (BS cs ns ts ip.zipIdx)) (HH p,k)=aa (fill cs ns ts x):=by unfold Uw;rw[OZ a];show(bs.map (fill cs ns ts))[k]?=_;rw[bn,b];rfl
def adN{f:Kd->Bool}{w:aB}{r:Rw}(h:w∈ny f ip.zipIdx)(g:∀x:Bn,f x.k=ai->rV r (fill cs ns ts x)=ai):ka (ie (BS cs ns ts ip.zipIdx)) (ki (BS cs ns ts ip.zipIdx)) r w=ai:=by obtain⟨p,k,bs,x,a,b,c,rfl⟩:=Vt h;unfold ka;rw[adL a b];dsimp only;rw[adM a b];exact g x c
end
def Ro{cs ns a:List aB}(x:Bn)(h:Ab x.k=ai):(fill cs ns a x).code=ai:=by rw[F8];exact h
set_option tactic.hygienic true in
def Rp{e:List (List Bn)}(hc:ny Ab e.zipIdx≠[])(x:Bn):(fill (ny Ab e.zipIdx) (ny Cu e.zipIdx) (ny EA e.zipIdx) x).AR.all (ka (ie (prog e)) (ki (prog e)) (fill (ny Ab e.zipIdx) (ny Cu e.zipIdx) (ny EA e.zipIdx) x))=ai:=by
 have an:∀{f:Kd->Bool} {w:aB} {r:Rw},w∈ny f e.zipIdx->(∀x:Bn,f x.k=ai->rV r (fill (ny Ab e.zipIdx) (ny Cu e.zipIdx) (ny EA e.zipIdx) x)=ai)->ka (ie (prog e)) (ki (prog e)) r w=ai:=λh g=>adN h g;have all:∀w∈ny Ab e.zipIdx++ny Cu e.zipIdx++ny EA e.zipIdx,∀a b c,ka (ie (prog e)) (ki (prog e)) (.alike a b c) w=ai:=λw hw a b c=>by
  rcases bj.mp hw with h|h
  .rcases bj.mp h with h|h
   .exact an h λ_ _=>rfl
   .exact an h λ_ _=>rfl
  .exact an h λ_ _=>rfl
 have ne:ny Ab e.zipIdx++ny Cu e.zipIdx++ny EA e.zipIdx≠[]:=by simp[hc]
 obtain⟨k,b,c,m⟩:=x;have cd:∀(r:Rw) (m:Int),(∀a,rV r a=a.code)->ka (ie (prog e)) (ki (prog e)) r (um (ny Ab e.zipIdx) m)=ai:=λr m n=>an (kO hc) λx i=>by rw[n];exact Ro x i
 cases k;case load=>
  unfold fill;dsimp only;split
  .rfl
  .rename_i h;show(ka _ _ _ _&&ai)=ai;rw[an (kO h) λx i=>?_];rfl;obtain⟨k,b,c,m⟩:=x;cases k<;>first|(cases i;done)|rfl
 case alike=>
  unfold fill;dsimp only;split
  .rfl
  .show(ka _ _ _ _&&(ka _ _ _ _&&ai))=ai;rw[all _ (kO ne),all _ (kO ne)];rfl
 case jumpby=>
  unfold fill;dsimp only;split
  .rfl
  .rename_i h;show(ka _ _ _ _&&ai)=ai;rw[an (kO h) λx i=>?_];rfl;obtain⟨k,b,c,m⟩:=x;cases k<;>first|(cases i;done)|rfl
 case table=>
  show List.all (gC _ _) _=ai;rw[List.all_map];exact bG.mpr λj _=>cd _ _ λ_=>rfl
 case jump=>show(ka _ _ _ _&&ai)=ai;rw[cd _ _ λ_=>rfl];rfl
 case jumpif=>show(ka _ _ _ _&&ai)=ai;rw[cd _ _ λ_=>rfl];rfl
 case call=>show(ka _ _ _ _&&ai)=ai;rw[cd _ _ λ_=>rfl];rfl
 all_goals rfl
def Vv{x:Bn}{l:List Bn}(h:RT (x::l)):RT l:=λi a b ha hb=>h (i+1) a b ha hb
theorem F9(cs ns a:List aB)(p:Nat):∀(bs:List Bn) (j:Nat),RT bs->(∀z,bs.getLast?=aa z->z.k.qf=ao)->mS (kC cs ns a p (bs.zipIdx j))=ai
 |[],j,_,_=>rfl
 |x::bs,j,h,e=>by
  have c:=F9 cs ns a p bs (j+1) (Vv h) (λz b=>by
   cases bs with
   |nil=>cases b
   |cons y l=>exact e z (by rw[ajp];exact b))
  rw[fV];show mS (.mark _ _::fill cs ns a x::kC cs ns a p (bs.zipIdx (j+1)))=ai;have f:jy (fill cs ns a x::kC cs ns a p (bs.zipIdx (j+1)))=aa (fill cs ns a x):=by unfold jy;rw[pW];rfl
  unfold mS;rw[f];show(ai&&ai&&mS _)=ai;unfold mS;rw[c,pW,Rm];cases bs with
  |nil=>
   rw[e x rfl];rfl
  |cons y l=>
   have i:jy (kC cs ns a p ((y::l).zipIdx (j+1)))=aa (fill cs ns a y):=by rw[fV];show jy (.mark _ _::fill cs ns a y::_)=_;unfold jy;show jy (fill cs ns a y::_)=_;unfold jy;rw[pW];rfl
   rw[i];show(ai&&ai&&((!x.k.qf||(fill cs ns a y).code)&&ai&&ai))=ai;rw[F8];cases g:x.k.qf with
   |false=>rfl
   |true=>rw[h 0 x y rfl rfl g];rfl
theorem D5(cs ns a:List aB)(p:Nat):∀(l:List (Bn×Nat)),(kC cs ns a p l).length=2*l.length/\kh (kC cs ns a p l)=l.length
 |[]=>⟨rfl,rfl⟩
 |x::l=>by obtain⟨c,b⟩:=D5 cs ns a p l;have e:kC cs ns a p (x::l)=.mark (z9 p x.2) (x.1.m%2==0)::fill cs ns a x.1::kC cs ns a p l:=rfl;rw[e];refine⟨by rw[aQ,aQ,aQ,c];lia,?_⟩;unfold kh at b |-;rw[ajo rfl,ajn (by rw[pW];decide),aQ,aQ,b]
theorem Nj{β:Type}(f:β->Int)(b:Int):∀l:List β,(∀x∈l,f x<=b)->(l.map f).sum<=b*(l.length:Int)
 |[],_=>by simp
 |x::l,h=>by
  rw[aZ,List.sum_cons,aQ];have:=Nj f b l λy a=>h y (ax _ a);have:=h x aE
  push_cast
  rw[Int.mul_add];lia
def Y5{cs ns a:List aB}{b:List (List Bn)}{q:Pt}(h:q∈BS cs ns a b.zipIdx):∃p bs,b[p]?=aa bs/\q=(HH p,kC cs ns a p bs.zipIdx):=by unfold BS at h;obtain⟨⟨bs,p⟩,hb,rfl⟩:=bC.mp h;exact⟨p,bs,by simpa[bS] using hb,rfl⟩
def adO{a:List (List Bn)}(o:HI a){f:Kd->Bool}{w:aB}(h:w∈ny f a.zipIdx):mC w=ai:=by obtain⟨p,k,bs,x,b,c,_,rfl⟩:=Vt h;have:=o.hi;have:=(au.mp b).1;have:=(o.all bs (aS b)).hi;have:=(au.mp c).1;exact aaQ (by lia) (by lia)
def D6{a:List (List Bn)}(o:HI a)(f:Kd->Bool):(ny f a.zipIdx).length<=100:=by
 have:∀(l:List (List Bn×Nat)),(∀x∈l,x.1.length<=25)->(ny f l).length<=25*l.length:=by
  intro l;induction l with
  |nil=>intro _;exact aC _
  |cons x l b=>
   intro h;have:=b λy c=>h y (ax _ c);show(Ac f x.2 x.1.zipIdx++ny f l).length<=_;rw[aD,aQ];have g:(Ac f x.2 x.1.zipIdx).length<=x.1.length:=by unfold Ac;rw[ak];exact bh (dG _ _) (by rw[d9];exact aC _)
   have:=h x aE;lia
 have h:=this a.zipIdx λx e=>by
  obtain⟨bs,p⟩:=x;have:a[p]?=aa bs:=by simpa[bS] using e
  exact(o.all bs (aS this)).hi
 rw[d9] at h;have:=o.hi;lia
def Y6{c:List (List Bn)}(o:HI c):aiz (prog c):=by
 have u:(prog c).length=c.length:=by unfold prog BS;rw[ak,d9]
 have mp:∀q∈prog c,∃p bs,c[p]?=aa bs/\p<4/\OW bs/\q=(HH p,kC (ny Ab c.zipIdx) (ny Cu c.zipIdx) (ny EA c.zipIdx) p bs.zipIdx):=λq f=>by obtain⟨p,bs,g,y⟩:=Y5 f;have:=(au.mp g).1;have:=o.hi;exact⟨p,bs,g,by lia,o.all bs (aS g),y⟩
 have n:∀q∈prog c,kh q.2<=25/\1<=wG q.2/\wG q.2<=25/\q.2.length<=50:=λq f=>by obtain⟨p,bs,g,j,so,rfl⟩:=mp q f;obtain⟨e1,e2⟩:=D5 (ny Ab c.zipIdx) (ny Cu c.zipIdx) (ny EA c.zipIdx) p bs.zipIdx;rw[d9] at e1 e2;have:=so.lo;have:=so.hi;dsimp only;unfold wG;exact⟨by lia,by lia,by lia,by lia⟩
 have hb:(prog c).length<=4:=by rw[u];exact o.hi
 have ml:(iw (prog c)).length<=100:=by
  have e:iw (prog c)=RU c.zipIdx:=vC;rw[e];have h:(RU c.zipIdx).map aY=ny (λ_=>ai) c.zipIdx:=by unfold RU ny Ac;rw[List.map_flatMap];congr 1;funext x;rw[List.filter_eq_self.mpr λ_ _=>rfl,bd];rfl
  have:=D6 o λ_=>ai;rw[<-h,ak] at this;exact this
 have z:((iw (prog c)).map aY).Pairwise λa b=>uR a b=ai/\a≠b:=by have e:iw (prog c)=RU c.zipIdx:=vC;rw[e];exact Vu c
 have v:((iN (iw (prog c))).map aY).Pairwise λa b=>uR a b=ai/\a≠b:=z.sublist (List.Sublist.map _ List.filter_sublist);have sl:(iN (iw (prog c))).length<=100:=bh (dG _ _) ml;refine⟨⟨⟨by rw[u];exact o.lo,by lia,λq f=>?_,?_,?_,?_⟩,λq f r i=>?_,λq f=>?_⟩,by lia,⟨v.imp λh=>h.2,?_,by lia⟩,λq f=>?_⟩
 .obtain⟨B,A,C,E⟩:=n q f;obtain⟨p,bs,g,j,so,rfl⟩:=mp q f;exact⟨agZ (by lia),A,by lia,by lia⟩
 .exact(Ni _ _ _ c).imp λh=>h.2
 .have:=Nj (λp:Pt=>(wG p.2:Int)) 25 (prog c) λq f=>by have:=(n q f).2.2.1;lia
  lia
 .have:=Nj (λp:Pt=>(kh p.2:Int)) 25 (prog c) λq f=>by have:=(n q f).1;lia
  lia
 .obtain⟨p,bs,g,j,so,rfl⟩:=mp q f;unfold kC at i;obtain⟨⟨x,k⟩,m,i⟩:=dz.mp i;have m:bs[k]?=aa x:=by simpa[bS] using m
  rcases aN.mp i with e|i
  .subst e;have:=(au.mp m).1;have:=so.hi;show mC _=ai;exact aaQ (by lia) (by lia)
  .rw[bp.mp i];exact Y2 (so.ok x (aS m)) o.code (λw h=>adO o h) (λw h=>adO o h) (λw h=>adO o h)
 .obtain⟨p,bs,g,j,so,rfl⟩:=mp q f;exact F9 _ _ _ _ bs 0 so.ch so.en
 .by_cases h:(iN (iw (prog c))).length<64
  .exact .inl (by rw[ak];exact h)
  .exact .inr ⟨by rw[ak];lia,by rw[ak];lia,v.imp λh=>h.1⟩
 .obtain⟨p,bs,g,j,so,rfl⟩:=mp q f;refine⟨_,OZ g,?_⟩;unfold Uz;rw[List.all_map];exact bG.mpr λx _=>Rp o.code x
end kF
namespace kF
open PySem PySem.Spec PyProof.Rows.KTD L2 L3 FJ
noncomputable def pR(bs:List Bn):D:=.lst (bs.map Bn.d)
def adP(bs:List Bn):nl (pR bs)=ai:=Nf bs
def HJ (a:GN):DS:=(hG (iF 8 (g9 i7 (gN 7) (dC (.int 0))))
 (hG (iA (gW (g9 (By ai) (gN 8) (iP (gM (dC (.str ew)) (gM (dC (.str el)) gQ))))) (iF 8 (dC (.str lK))) hV)
 (jV (Bz ap i0 (g9 i7 (gN 3) (gN 8)) (gM (iH a (gM (gN 4) (gM (gN 6) gQ))) gQ)))))
def O0 (a:GN):DS:=(lH (lJ (gM (gN 5) gQ)) (iU 2 (gX (gU 6) (gX (gU 7) iT))) (HJ a))
def BU (a:GN):DS:=(lH (lJ (gM (gN 2) gQ)) (iU 2 (gX (gU 4) (gX (gU 5) iT))) (O0 a))
def HK (a b:GN):DS:=(hG (jV (Bz ap i0 (gN 10) (gM (iP (gM (dC (.str kt)) (gM (iH a (gM (gN 4) (gM (gN 6) gQ))) (gM (g9 nQ (g9 oG (g9 i7 (gN 7) (dC (.int 3))) (dC (.int 2))) (dC (.int 0))) gQ)))) gQ)))
 (jV (Bz ap i0 (gN 10) (gM (iH b (gM (gN 7) (gM (g9 i7 (gN 3) (dC (.str lK))) (gM (g9 i7 (gN 3) (dC (.str ew))) (gM (g9 i7 (gN 3) (dC (.str el))) gQ))))) gQ))))
def O1 (a b:GN):DS:=(lH (lJ (gM (gN 5) gQ)) (iU 2 (gX (gU 6) (gX (gU 7) iT))) (HK a b))
def Nk:DS:=(jV (Bz ap i0 (gN 9) (gM (iP (gM (g9 iL (g9 i7 (dC (.str "abcdefghijkl")) (gN 4)) (dC (.str ek))) (gM (UH 10) gQ))) gQ)))
def BV (a b:GN):DS:=(lH (lJ (gM (gN 2) gQ)) (iU 2 (gX (gU 4) (gX (gU 5) iT))) (hG (iF 10 (lD (jI gQ))) (hG (O1 a b) Nk)))
def HL (a b:GN):DS:=(hG (iF 3 (Hk [((dC (.str ew)),(lD (jI gQ))),((dC (.str el)),(lD (jI gQ))),((dC (.str lK)),(lD (jI gQ)))]))
 (hG (BU a)
 (hG (iF 9 (lD (jI gQ)))
 (hG (BV a b)
 (ia (iP (gM (gN 9) (gM (g9 i7 (gN 3) (dC (.str lK))) gQ))))))))
abbrev pM(b:List D)(ns a cs:List aB)(rest:Ms):Ms:=aa (.lst b)::aa (.jP [.inr ew,.inr el,.inr lK] [.loc 2,.loc 3,.loc 4])::aa (.lst (ns.map .str))::aa (.lst (a.map .str))::aa (.lst (cs.map .str))::rest
def D7(f:Kd->Bool)(p:Nat)(l:List (Bn×Nat))(x:Bn×Nat):Ac f p (l++[x])=Ac f p l++(if f x.1.k=ai then[z9 p x.2] else[]):=by
 unfold Ac;rw[gD,aM];congr 1;by_cases h:f x.1.k=ai
 .rw[if_pos h,ajo (p:=λx:Bn×Nat=>f x.1.k) h];rfl
 .rw[if_neg h,ajn (p:=λx:Bn×Nat=>f x.1.k) h];rfl
def D8(f:Kd->Bool)(l:List (List Bn×Nat))(x:List Bn×Nat):ny f (l++[x])=ny f l++Ac f x.2 x.1.zipIdx:=by unfold ny;rw[dh];simp
def y6{β:Type}(f:β->D)(l:List β):((l.map f).mapIdx λi d=>D.tup [.int i,d])=l.zipIdx.map λx=>D.tup [.int x.2,f x.1]:=by rw[List.mapIdx_eq_zipIdx_map,List.zipIdx_map,bd];rfl
def ag0{E:jK}{o q f r u:Option D}{b:List D}{rest:Ms}{ns g cs:List aB}{p k:Nat}{x:Bn}{bs:List Bn}(i:p<26)(j:k<676)(ln:ns.length<1000)(lt:g.length<1000)(v:cs.length<1000)
(h:∀f a c e,a=ns++(if Cu x.k=ai then[z9 p k] else[])->c=g++(if EA x.k=ai then[z9 p k] else[])->e=cs++(if Ab x.k=ai then[z9 p k] else[])->E.nx [o,q,aa (.loc 0),aa (.loc 1),aa (.int p),aa (pR bs),aa (.int k),aa x.d,f,r,u] (pM b a c e rest)):
  HJ (cl jS) E [o,q,aa (.loc 0),aa (.loc 1),aa (.int p),aa (pR bs),aa (.int k),aa x.d,f,r,u] (pM b ns g cs rest):=by
 obtain⟨kd,xb,xc,w⟩:=x;have m:∀l:List aB,l.length<1000->(l.map D.str).length<az:=λl h=>by rw[ak];exact ajy h (by decide)
 have n:∀l:List aB,l.map D.str++[D.str (z9 p k)]=(l++[z9 p k]).map D.str:=λl=>by rw[aM];rfl
 cases kd;case numbers=>
  refine⟨_,rfl,ag rfl,_,rfl,?_⟩;refine⟨_,_,rfl,rfl,rfl,rfl,p,k,i,j,rfl,_,rfl,m _ ln,?_⟩;rw[n];exact h _ _ _ _ rfl (aR _).symm (aR _).symm
 case table=>
  refine⟨_,rfl,ag rfl,_,rfl,?_⟩;refine⟨_,_,rfl,rfl,rfl,rfl,p,k,i,j,rfl,_,rfl,m _ lt,?_⟩;rw[n];exact h _ _ _ _ (aR _).symm rfl (aR _).symm
 all_goals
  refine⟨_,rfl,ag rfl,_,rfl,?_⟩;refine⟨_,_,rfl,rfl,rfl,rfl,p,k,i,j,rfl,_,rfl,m _ v,?_⟩;rw[n];exact h _ _ _ _ (aR _).symm (aR _).symm rfl
section
variable {E:jK} {rest:Ms} {ns ts cs:List aB} {bs:List Bn} {ip:List (List Bn)}
def in1(c:p<26)(o:bs.length<=100)(ln:ns.length+(Ac Cu p bs.zipIdx).length<1000)(lt:ts.length+(Ac EA p bs.zipIdx).length<1000)(q:cs.length+(Ac Ab p bs.zipIdx).length<1000)
(h:∀o6 o7 o8,E.nx [c0,c1,aa (.loc 0),aa (.loc 1),aa (.int p),aa (pR bs),o6,o7,o8,o9,Ga] (pM (ip.map pR) (ns++Ac Cu p bs.zipIdx) (ts++Ac EA p bs.zipIdx) (cs++Ac Ab p bs.zipIdx) rest)):
  O0 (cl jS) E [c0,c1,aa (.loc 0),aa (.loc 1),aa (.int p),aa (pR bs),o6,o7,o8,o9,Ga] (pM (ip.map pR) ns ts cs rest):=by
 have st:=@ag0;unfold O0;generalize HJ (cl jS)=t at st |-;refine⟨_,rfl,rfl,?_⟩;rw[y6];have ll:∀(f:Kd->Bool) (pre xs:List (Bn×Nat)),bs.zipIdx=pre++xs->(Ac f p pre).length<=(Ac f p bs.zipIdx).length:=λf pre xs e=>by rw[e];unfold Ac;rw[gD,aM,aD];lia
 refine i8 (λx:Bn×Nat=>D.tup [.int x.2,x.1.d]) (λpre xs a M=>bs.zipIdx=pre++xs/\∃o6 o7 o8,a=[c0,c1,aa (.loc 0),aa (.loc 1),aa (.int p),aa (pR bs),o6,o7,o8,o9,Ga]/\M=pM (ip.map pR) (ns++Ac Cu p pre) (ts++Ac EA p pre) (cs++Ac Ab p pre) rest) (λ_ _ _ _ _=>rfl) _ [] _ _ ?_ (λpre x xs a M b N g=>?_) (λpre a M b=>?_)
 .refine⟨rfl,_,_,_,rfl,?_⟩;show _=pM _ (ns++[]) (ts++[]) (cs++[]) rest;rw[aR,aR,aR]
 .obtain⟨e,o6,o7,o8,rfl,rfl⟩:=b;obtain⟨x,k⟩:=x;have i:bs[k]?=aa x:=by
   have:(x,k)∈bs.zipIdx:=by rw[e];simp
   simpa[bS] using this
  have r:=(au.mp i).1;refine⟨rfl,rfl,?_⟩;show t _ [c0,c1,aa (.loc 0),aa (.loc 1),aa (.int p),aa (pR bs),aa (.int k),aa x.d,o8,o9,Ga] (pM (ip.map pR) (ns++Ac Cu p pre) (ts++Ac EA p pre) (cs++Ac Ab p pre) rest);refine st c (by lia) ?_ ?_ ?_ ?_
  .rw[aD];have:=ll Cu _ _ e;lia
  .rw[aD];have:=ll EA _ _ e;lia
  .rw[aD];have:=ll Ab _ _ e;lia
  .intro o8 j m n e1 e2 e3;refine g _ _ ⟨by rw[e,aX];rfl,_,_,_,rfl,?_⟩;rw[D7,D7,D7,e1,e2,e3,aX,aX,aX]
 .obtain⟨e,o6,o7,o8,rfl,rfl⟩:=b;rw[aR] at e;rw[<-e];exact h _ _ _
def ag1(o:HI ip)(h:∀o4 o5 o6 o7 o8,E.nx [c0,c1,aa (.loc 0),aa (.loc 1),o4,o5,o6,o7,o8,o9,Ga] (pM (ip.map pR) (ny Cu ip.zipIdx) (ny EA ip.zipIdx) (ny Ab ip.zipIdx) rest)):
  BU (cl jS) E [c0,c1,aa (.loc 0),aa (.loc 1),o4,o5,o6,o7,o8,o9,Ga] (pM (ip.map pR) [] [] [] rest):=by
 have st:=@in1;unfold BU;generalize O0 (cl jS)=t at st |-;refine⟨_,rfl,rfl,?_⟩;rw[y6];have ll:∀(f:Kd->Bool) (pre xs:List (List Bn×Nat)) (x:List Bn×Nat),ip.zipIdx=pre++x::xs->(ny f pre).length+(Ac f x.2 x.1.zipIdx).length<1000:=λf pre xs x e=>by have:=D6 o f;rw[e] at this;unfold ny at this;rw[dh,df,aD,aD] at this;show(List.flatMap _ pre).length+_<_;lia
 refine i8 (λx:List Bn×Nat=>D.tup [.int x.2,pR x.1]) (λpre xs b M=>ip.zipIdx=pre++xs/\∃o4 o5 o6 o7 o8,b=[c0,c1,aa (.loc 0),aa (.loc 1),o4,o5,o6,o7,o8,o9,Ga]/\M=pM (ip.map pR) (ny Cu pre) (ny EA pre) (ny Ab pre) rest) (λ_ _ _ _ a=>by obtain⟨_,_,_,_,_,_,_,rfl⟩:=a;rfl) _ [] _ _ ?_ (λpre x xs b M a N g=>?_) (λpre b M a=>?_)
 .exact⟨rfl,_,_,_,_,_,rfl,rfl⟩
 .obtain⟨e,o4,o5,o6,o7,o8,rfl,rfl⟩:=a;obtain⟨bs,p⟩:=x;have c:ip[p]?=aa bs:=by
   have:(bs,p)∈ip.zipIdx:=by rw[e];simp
   simpa[bS] using this
  have n:=(au.mp c).1;have:=o.hi;have hb:=(o.all bs (aS c)).hi;refine⟨rfl,rfl,?_⟩;have i:=ll Cu _ _ _ e;have j:=ll EA _ _ _ e;have m:=ll Ab _ _ _ e;show t _ [c0,c1,aa (.loc 0),aa (.loc 1),aa (.int p),aa (pR bs),o6,o7,o8,o9,Ga] (pM (ip.map pR) (ny Cu pre) (ny EA pre) (ny Ab pre) rest);refine st ?_ ?_ i j m ?_
  .omega
  .omega
  .intro o6 o7 o8;refine g _ _ ⟨by rw[e,aX];rfl,_,_,_,_,_,rfl,?_⟩;rw[D8,D8,D8]
 .obtain⟨e,o4,o5,o6,o7,o8,rfl,rfl⟩:=a;rw[aR] at e;rw[<-e];exact h _ _ _ _ _
end
section
variable {E:jK} {rest jO:Ms} {ns ts cs:List aB} {p k:Nat} {bs:List Bn} {ip:List (List Bn)}
abbrev qM(b:List D)(ns ts cs:List aB)(fo:List D)(jO:Ms):Ms:=pM b ns ts cs (aa (.lst fo)::jO)
def adQ{β:Type}(l:List β)(x:β):(l++[x])[l.length]?=aa x:=by rw[cz (aC _),gA];rfl
def Y7{β:Type}(l:List β)(x y:β):(l++[x]).set l.length y=l++[y]:=by rw[List.set_append_right _ _ (aC _),gA];rfl
def adR(x y:Option OD):(qM b ns ts cs fo (jO++[x])).set (jO.length+6) y=qM b ns ts cs fo (jO++[y]):=by show aa _::aa _::aa _::aa _::aa _::aa _::(jO++[x]).set jO.length y=_;rw[Y7]
def Vw(x:Option OD):(qM b ns ts cs fo (jO++[x]))[jO.length+6]?=aa x:=by show(jO++[x])[jO.length]?=_;exact adQ _ _
def ag2{x:Bn}{to:List Rw}(ok:x.Ok)(hc:cs≠[])(a:p<26)(c:k<676)(lt:to.length<1000)(e:cs.length<=1000)(ln:ns.length<=1000)(f:ts.length<=1000)
(h:E.nx [c0,c1,aa (.loc 0),aa (.loc 1),aa (.int p),aa (pR bs),aa (.int k),aa x.d,o8,aa (.loc 5),aa (.loc (jO.length+6))] (qM b ns ts cs fo (jO++[aa (.lst ((to++[.mark (z9 p k) (x.m%2==0),fill cs ns ts x]).map Rw.d))]))):
  HK (cl jS) jT E [c0,c1,aa (.loc 0),aa (.loc 1),aa (.int p),aa (pR bs),aa (.int k),aa x.d,o8,aa (.loc 5),aa (.loc (jO.length+6))] (qM b ns ts cs fo (jO++[aa (.lst (to.map Rw.d))])):=by
 have g:(to.map Rw.d).length<az:=by rw[ak];exact ajy lt (by decide)
 have i:(to.map Rw.d++[(Rw.mark (z9 p k) (x.m%2==0)).d]).length<az:=by rw[aD,ak];exact b8 (show _<=1000 from lt) (by decide)
 refine⟨?_,rfl,p,k,a,c,rfl,_,rfl,(by decide:(0:Int)<2),ag rfl,_,Vw _,g,?_⟩
 .show tyD ap (Xi _ (qM b ns ts cs fo _)[jO.length+6]?)=ai;rw[Vw];rfl
 rw[adR];refine⟨?_,_,_,rfl,rfl,_,_,rfl,rfl,_,_,rfl,rfl,x,cs,ns,ts,_,_,_,rfl,rfl,ok,hc,e,ln,f,_,Vw _,i,?_⟩
 .show tyD ap (Xi _ (qM b ns ts cs fo _)[jO.length+6]?)=ai;rw[Vw];rfl
 rw[adR];rw[aM] at h;rw[aX];exact h
def Nl(p:Nat)(l:List (Bn×Nat))(x:Bn×Nat):kC cs ns ts p (l++[x])=kC cs ns ts p l++[.mark (z9 p x.2) (x.1.m%2==0),fill cs ns ts x.1]:=by unfold kC;rw[dh];simp
def in2(ok:∀x∈bs,x.Ok)(hc:cs≠[])(g:p<26)(n:bs.length<=100)(i:cs.length<=1000)(ln:ns.length<=1000)(j:ts.length<=1000)
(h:∀o6 o7,E.nx [c0,c1,aa (.loc 0),aa (.loc 1),aa (.int p),aa (pR bs),o6,o7,o8,aa (.loc 5),aa (.loc (jO.length+6))] (qM b ns ts cs fo (jO++[aa (.lst ((kC cs ns ts p bs.zipIdx).map Rw.d))]))):
  O1 (cl jS) jT E [c0,c1,aa (.loc 0),aa (.loc 1),aa (.int p),aa (pR bs),o6,o7,o8,aa (.loc 5),aa (.loc (jO.length+6))] (qM b ns ts cs fo (jO++[aa (.lst [])])):=by
 have st:=@ag2;unfold O1;generalize HK (cl jS) jT=t at st |-;refine⟨_,rfl,rfl,?_⟩;rw[y6];refine i8 (λx:Bn×Nat=>D.tup [.int x.2,x.1.d]) (λpre xs a M=>bs.zipIdx=pre++xs/\∃o6 o7,a=[c0,c1,aa (.loc 0),aa (.loc 1),aa (.int p),aa (pR bs),o6,o7,o8,aa (.loc 5),aa (.loc (jO.length+6))]/\M=qM b ns ts cs fo (jO++[aa (.lst ((kC cs ns ts p pre).map Rw.d))])) (λ_ _ _ _ _=>rfl) _ [] _ _ ⟨rfl,_,_,rfl,rfl⟩ (λpre x xs a M c N m=>?_) (λpre a M c=>?_)
 .obtain⟨e,o6,o7,rfl,rfl⟩:=c;obtain⟨x,k⟩:=x;have f:bs[k]?=aa x:=by
   have:(x,k)∈bs.zipIdx:=by rw[e];simp
   simpa[bS] using this
  have o:=(au.mp f).1;have q:pre.length<=100:=by have:=congrArg f8 e;rw[d9,aD] at this;lia
  refine⟨rfl,rfl,?_⟩;show t _ [c0,c1,aa (.loc 0),aa (.loc 1),aa (.int p),aa (pR bs),aa (.int k),aa x.d,o8,aa (.loc 5),aa (.loc (jO.length+6))] (qM b ns ts cs fo (jO++[aa (.lst ((kC cs ns ts p pre).map Rw.d))]));refine st (ok x (aS f)) hc g (by lia) (by rw[(D5 cs ns ts p pre).1];lia) i ln j ?_;refine m _ _ ⟨by rw[e,aX];rfl,_,_,rfl,?_⟩;rw[Nl]
 .obtain⟨e,o6,o7,rfl,rfl⟩:=c;rw[aR] at e;rw[<-e];exact h _ _
def Vx(l:List (List Bn×Nat))(x:List Bn×Nat):BS cs ns ts (l++[x])=BS cs ns ts l++[(HH x.2,kC cs ns ts x.2 x.1.zipIdx)]:=by unfold BS;rw[aM];rfl
def adS:∀i,i<12->("abcdefghijkl":aB).cps.toList[i]?=aa (97+i):=by decide+kernel
def aiP{to:List Rw}{a:List Pt}(c:p<12)(e:a.length<1000)
(h:E.nx [c0,c1,aa (.loc 0),aa (.loc 1),aa (.int p),o5,o6,o7,o8,aa (.loc 5),aa (.loc (jO.length+6))] (qM b ns ts cs ((a++[(HH p,to)]).map jt) (jO++[am]))):
  Nk E [c0,c1,aa (.loc 0),aa (.loc 1),aa (.int p),o5,o6,o7,o8,aa (.loc 5),aa (.loc (jO.length+6))] (qM b ns ts cs (a.map jt) (jO++[aa (.lst (to.map Rw.d))])):=by
 have f:(a.map jt).length<az:=by rw[ak];exact ajy e (by decide)
 refine⟨rfl,by decide+kernel,_,kJ (adS p c),(by decide:1+4<=az),_,_,rfl,Vw _,?_⟩;rw[adR];refine⟨ag rfl,_,rfl,f,?_⟩;rw[aM] at h;exact h
def ag3(o:HI ip)(hc:cs≠[])(i:cs.length<=1000)(ln:ns.length<=1000)(j:ts.length<=1000)(h:∀o4 o5 o6 o7 o8 Ga jO,E.nx [c0,c1,aa (.loc 0),aa (.loc 1),o4,o5,o6,o7,o8,aa (.loc 5),Ga] (qM (ip.map pR) ns ts cs ((BS cs ns ts ip.zipIdx).map jt) jO)):
  BV (cl jS) jT E [c0,c1,aa (.loc 0),aa (.loc 1),o4,o5,o6,o7,o8,aa (.loc 5),Ga] (qM (ip.map pR) ns ts cs [] []):=by
 have st:=@in2;have a:=@aiP;unfold BV;generalize O1 (cl jS) jT=t at st |-;generalize Nk=m at a |-;refine⟨_,rfl,rfl,?_⟩;rw[y6];refine i8 (λx:List Bn×Nat=>D.tup [.int x.2,pR x.1]) (λpre xs f M=>ip.zipIdx=pre++xs/\∃o4 o5 o6 o7 o8 Ga jO,f=[c0,c1,aa (.loc 0),aa (.loc 1),o4,o5,o6,o7,o8,aa (.loc 5),Ga]/\M=qM (ip.map pR) ns ts cs ((BS cs ns ts pre).map jt) jO) (λ_ _ _ _ c=>by obtain⟨_,_,_,_,_,_,_,_,_,rfl⟩:=c;rfl) _ [] _ _ ⟨rfl,_,_,_,_,_,_,_,rfl,rfl⟩ (λpre x xs f M c N n=>?_) (λpre f M c=>?_)
 .obtain⟨e,o4,o5,o6,o7,o8,Ga,jO,rfl,rfl⟩:=c;obtain⟨bs,p⟩:=x;have g:ip[p]?=aa bs:=by
   have:(bs,p)∈ip.zipIdx:=by rw[e];simp
   simpa[bS] using this
  have q:=(au.mp g).1;have:=o.hi;have so:=o.all bs (aS g);have hb:=so.hi;have r:pre.length<=4:=by have:=congrArg f8 e;rw[d9,aD] at this;lia
  refine⟨rfl,rfl,bu _,?_⟩;show t _ [c0,c1,aa (.loc 0),aa (.loc 1),aa (.int p),aa (pR bs),o6,o7,o8,aa (.loc 5),aa (.loc (jO.length+6))] (qM (ip.map pR) ns ts cs ((BS cs ns ts pre).map jt) (jO++[aa (.lst [])]));refine st so.ok hc (by lia) (by lia) i ln j λo6 o7=>?_;show m _ _ _;refine a (by lia) (by unfold BS;rw[ak];lia) ?_;refine n _ _ ⟨by rw[e,aX];rfl,_,_,_,_,_,_,jO++[am],rfl,?_⟩;rw[Vx]
 .obtain⟨e,o4,o5,o6,o7,o8,Ga,jO,rfl,rfl⟩:=c;rw[aR] at e;rw[<-e];exact h _ _ _ _ _ _ _
def Y8(o:HI ip)(h:∀M:Ms,fz M (.tup [.loc 5,.loc 4])=.tup [.lst ((prog ip).map jt),.lst ((ny Ab ip.zipIdx).map .str)]->E.rt (.tup [.loc 5,.loc 4]) M):
  HL (cl jS) jT E [c0,c1,aa (.loc 0),am,am,am,am,am,am,am,am] [aa (.lst (ip.map pR))]:=by have s1:=@ag1;have s2:=@ag3;unfold HL;generalize BU (cl jS)=t at s1 |-;generalize BV (cl jS) jT=a at s2 |-;refine⟨bu _,bu _,bu _,rfl,_,rfl,by decide+kernel,?_⟩;show t _ [c0,c1,aa (.loc 0),aa (.loc 1),am,am,am,am,am,am,am] (pM (ip.map pR) [] [] [] []);refine s1 o λo4 o5 o6 o7 o8=>⟨bu _,?_⟩;show a _ [c0,c1,aa (.loc 0),aa (.loc 1),o4,o5,o6,o7,o8,aa (.loc 5),am] (qM (ip.map pR) _ _ _ [] []);refine s2 o o.code (by have:=D6 o Ab;lia) (by have:=D6 o Cu;lia) (by have:=D6 o EA;lia) λo4 o5 o6 o7 o8 Ga jO=>?_;exact⟨_,_,rfl,rfl,ag rfl,h _ rfl⟩
end
mutual
theorem y7:∀d:D,L3.pl d=ai->yq d d=ai
 |.non,_=>rfl
 |.bl b,_=>by cases b<;>rfl
 |.int i,_=>by unfold yq;simp
 |.str s,_=>by unfold yq;simp
 |.tup ds,h=>by unfold yq;unfold L3.pl at h;exact Ad ds h
 |.lst ds,h=>by unfold yq;unfold L3.pl at h;exact Ad ds h
 |.ty _,h=>by unfold L3.pl at h;cases h
 |.qO ns,h=>by unfold L3.pl at h;cases h
 |.cls _,h=>by unfold L3.pl at h;cases h
 |.loc _,h=>by unfold L3.pl at h;cases h
 |.jP _ _,h=>by unfold L3.pl at h;cases h
 |.ins _ _ _,h=>by unfold L3.pl at h;cases h
 |.exc _ _ _,h=>by unfold L3.pl at h;cases h
theorem Ad:∀ds:List D,L3.Bx ds=ai->EJ ds ds=ai
 |[],_=>rfl
 |d::ds,h=>by unfold EJ;unfold Bx at h;rw[aU] at h;rw[y7 d h.1,Ad ds h.2];rfl
end
theorem D9{st:Ms->Prop}{Q:List D->Ms->Prop}{M:Ms}(f:st M):∀(cs:List Int) (acc:List (List Bn)),(∀bs∈acc,Vr bs)->acc.length+cs.length<=4->(∀a:List (List Bn),a.length=acc.length+cs.length->(∀bs∈a,Vr bs)->Q (a.map pR) M)->
  lQ [am,aa 1] (gU 0) nv (iH (cl Aa) (gM (gN 0) (gM (gN 1) gQ))) st Q (cs.map .int) (acc.map pR) [am,aa (.int 11)] M
 |[],acc,ha,g,q=>q acc rfl ha
 |c::cs,acc,ha,g,q=>by
  rw[aZ];unfold lQ;refine⟨rfl,c,rfl,λbs hb=>⟨f,?_,?_⟩⟩
  .rw[ak];exact b8 (show acc.length<=4 by lia) (by decide)
  .have:=D9 f cs (acc++[bs]) (λb h=>by
    rcases bj.mp h with h|h
    .exact ha b h
    .rw[bp.mp h];exact hb) (by rw[aD,bO];rw[aQ] at g;lia) (λa e o=>q a (by rw[e,aD,bO,aQ];lia) o)
   rw[aM] at this;exact this
def Vy{b:List (List Bn)}{bs:List Bn}{x:Bn}{f:Kd->Bool}(h:bs∈b)(c:x∈bs)(e:f x.k=ai):ny f b.zipIdx≠[]:=by obtain⟨p,g⟩:=eI.mp h;obtain⟨k,i⟩:=eI.mp c;refine List.ne_nil_of_mem (a:=z9 p k) ?_;unfold ny Ac;exact dz.mpr ⟨(bs,p),aS (DZ g),bC.mpr ⟨(x,k),cK.mpr ⟨aS (DZ i),e⟩,rfl⟩⟩
def sk2{bs:List Bn}(h:Vr bs):OW bs:=⟨h.lo,by have:=h.hi;lia,h.ok,h.ch,h.en⟩
def KP{x:Bn}{l:List Bn}(h:RT l)(g:∀y,l[0]?=aa y->x.k.qf=ai->y.k.data=ao):RT (x::l):=λi a b ha hb=>by
 cases i with
 |zero=>cases ha;exact g b hb
 |succ i=>exact h i a b ha hb
def Y9{bs:List Bn}(h:Vr bs):OW (⟨.say,0,0,0⟩::⟨.stop,0,0,0⟩::bs):=by
 refine⟨by simp,by have:=h.hi;simp;lia,λx a=>?_,?_,λz b=>?_⟩
 .rcases aN.mp a with rfl|a
  .exact bn0 _
  .rcases aN.mp a with rfl|a
   .exact bn0 _
   .exact h.ok x a
 .exact KP (KP h.ch λy _ e=>by cases e) λy e _=>by cases e;rfl
 .have ne:bs≠[]:=by have:=h.lo;intro e;rw[e] at this;simp at this
  obtain⟨y,l,rfl⟩:=eO ne;rw[ajp,ajp] at b;exact h.en z b
def bpl (bs:List Bn):L3.pl (pR bs)=ai:=BQ bs λx _=>aaO x
def bdp(bs:List Bn):dp (pR bs)<=2:=by have:=BR (f:=Bn.d) (n:=1) bs λx _=>aaP x;show CC (bs.map Bn.d)+1<=2;lia
def Vz(a:List (List Bn)):L3.pl (.lst (a.map pR))=ai/\dp (.lst (a.map pR))<=60:=by have:=BR (f:=pR) (n:=2) a λx _=>bdp x;refine⟨BQ a λx _=>bpl x,?_⟩;show CC (a.map pR)+1<=60;lia
def Ae:GP:=λds Q=>∃cs:List Int,ds=[.lst (cs.map .int),.int 11]/\1<=cs.length/\cs.length<=4/\∀a,HI a->Q (.tup [.lst ((prog a).map jt),.lst ((ny Ab a.zipIdx).map .str)])
def Ea:iB Ae:=by
 rintro ds P Q w ⟨c,h,a,b,q⟩
 exact⟨c,h,a,b,λbs g=>w _ (q bs g)⟩
def Za(a:List (List Bn)):nl (.tup [.lst ((prog a).map jt),.lst ((ny Ab a.zipIdx).map .str)])=ai:=by show(lN ((prog a).map jt)&&(lN ((ny Ab a.zipIdx).map D.str)&&ai))=ai;rw[nI,jQ (λ_=>rfl)];rfl
set_option tactic.hygienic true in
def Nm:∀ds Q,Ae ds Q->jl 11 2 (r9 (cl Aa) (cl sT) (cl jS) jT) ds Q:=by
 rintro ds Q ⟨cs,h,B,C,q⟩
 subst h;have rs:=@Y8;have m:r9 (cl Aa) (cl sT) (cl jS) jT=hG (iF 2 (lD (iX [am,aa 1] (iO (gN 0)) (gU 0) nv (iH (cl Aa) (gM (gN 0) (gM (gN 1) gQ))))))
  (hG (iA (gW (g9 nQ (iS (iX [am] (iO (gN 2)) (gU 0) (gW (iH (cl sT) (gM (gN 0) gQ))) (gN 0))) (gN 2))) (EH (g9 iL (iS (jI (gM (iP (gM (dC (.str lf)) (gM (dC (.int 0)) (gM (dC (.int 0)) (gM (dC (.int 0)) gQ))))) (gM (iP (gM (dC (.str me)) (gM (dC (.int 0)) (gM (dC (.int 0)) (gM (dC (.int 0)) gQ))))) gQ)))) (g9 i7 (gN 2) (dC (.int 0)))) (TQ (gN 2) (dC (.int 0)))) hV) (HL (cl jS) jT)):=rfl
 rw[m];clear m;generalize HL (cl jS) jT=t at rs |-;refine⟨rfl,_,rfl,rfl,?_⟩;refine D9 (M:=[]) ?_ cs [] (λb h=>by cases h) (by rw[bE];lia) λa c f=>?_
 .exact rfl
 rw[bE,ba] at c;refine⟨_,rfl,rfl,?_⟩;refine kg pR pR (λbs=>(bs.filter λx=>!x.k.data).isEmpty) ?_ a [] ?_ (λbs hb E u=>?_) ?_
 .exact rfl
 .rw[bE];exact kK (by lia)
 .have z:=u _ (show Bs [am] [aa (pR bs)]=_ from rfl);have:=(f bs hb).hi;have n1:lN [pR bs]=ai:=by show(nl (pR bs)&&ai)=ai;rw[adP];rfl
  refine⟨n1,bs,rfl,by lia,?_⟩;cases e:(bs.filter λx=>!x.k.data).isEmpty with
  |true=>rw[e] at z;exact z
  |false=>rw[e] at z;exact z
 .rw[bL];have b1:=Vz (a.filter λbs=>(bs.filter λx=>!x.k.data).isEmpty);have b2:=Vz a;refine⟨⟨b1.1,b2.1,b1.2,b2.2⟩,?_⟩;show(if yq (.lst ((a.filter λbs=>(bs.filter λx=>!x.k.data).isEmpty).map pR)) (.lst (a.map pR))=ai then _ else _);have n:∀a:List (List Bn),HI a->t ⟨λ_ _=>Q .non,λd p=>nl (fz p d)=ai/\Q (fz p d),λ_ _=>False,λ_ _=>False⟩ [aa (.lst (cs.map .int)),aa (.int 11),aa (.loc 0),am,am,am,am,am,am,am,am] [aa (.lst (a.map pR))]:=λa o=>rs o λM e=>by show nl (fz M _)=ai/\Q (fz M _);rw[e];exact⟨Za a,q a o⟩
  split
  .obtain⟨g,rest,rfl⟩:=eO (show a≠[] by intro e;rw[e] at c;simp at c;lia);have r:=f g aE;have v:2+(g.map Bn.d).length<=az:=by rw[ak];have:=r.hi;exact kK (by lia)
   refine⟨ag rfl,ag rfl,ag rfl,pR g,kJ (k:=0) rfl,v,0,?_,?_⟩
   .unfold PK;simp
   refine n ((⟨.say,0,0,0⟩::⟨.stop,0,0,0⟩::g)::rest) ⟨by simp,by rw[aQ] at c |-;lia,λbs hb=>?_,Vy aE aE rfl⟩;rcases aN.mp hb with rfl|hb
   .exact Y9 r
   .exact sk2 (f bs (ax _ hb))
  .rename_i w;refine n a ⟨by lia,by lia,λbs hb=>sk2 (f bs hb),?_⟩;have:¬∀bs∈a,(bs.filter λx=>!x.k.data).isEmpty=ai:=λy=>w (by rw[List.filter_eq_self.mpr y];exact y7 _ b2.1)
   have:∃bs∈a,(bs.filter λx=>!x.k.data).isEmpty≠ai:=Classical.byContradiction λhn=>this λbs hb=>Classical.byContradiction λh=>hn ⟨bs,hb,h⟩;obtain⟨bs,hb,h⟩:=this;obtain⟨x,A⟩:=List.exists_mem_of_ne_nil (bs.filter λx=>!x.k.data) (by intro e;rw[e] at h;exact h rfl);obtain⟨i,j⟩:=cK.mp A;exact Vy hb i j
noncomputable def EC(b:Br)(pl:List (aB×Pl))(r:Rw):List aB->Option (aB×Bool)
 |[]=>am
 |w::ws=>if ka b pl r w then EC b pl r ws else aa (w,(iI w pl).isNone)
noncomputable def Bk(b:Br)(pl:List (aB×Pl)):Nat->List Rw->Option (aB×Bool×Nat)
 |_,[]=>am
 |i,r::rs=>match EC b pl r r.AR with
  |some (w,l)=>aa (w,l,i)
  |none=>Bk b pl (i+1) rs
noncomputable def Bl(b:Br)(pl:List (aB×Pl)):List Pt->Option (aB×Bool×aB×Nat)
 |[]=>am
 |p::a=>match Bk b pl 0 (bare p.2) with
  |some (w,l,i)=>aa (w,l,p.1,i)
  |none=>Bl b pl a
def Pin (b:Br)(pl:List (aB×Pl)):Prop:=∀w p,iI w pl=aa p->∃a,Uw b p=aa a
noncomputable def exA(L W:ar)(w:aB)(l:Bool)(n:aB)(i:Nat):EX:=⟨if l then L else W,[ef,ek,eH],[.str w,.str n,.int i]⟩
def Zb(L W:ar)(w:aB)(l:Bool)(n:aB)(i:Nat):lN (exA L W w l n i).ds=ai:=rfl
def adT (rs:List Rw):Prop:=∀r∈rs,∀w∈r.AR,w.length<=4000
def aiQ{i:Nat}(h:i<=1000):Q3 (.int i)=ai:=by
 have:∀i:Fin 1001,Q3 (.int (i.val:Int))=ai:=by decide+kernel
 exact this ⟨i,by lia⟩
def ag4{w:aB}(h:w.length<=4000):Q3 (.str w)=ai:=decide_eq_true h
def ag5{w n:aB}{i:Nat}(a:w.length<=4000)(b:n.length<=4000)(c:i<=1000):[D.str w,.str n,.int i].all Q3=ai:=by rw[dm,dm,dm,ag4 a,ag4 b,aiQ c];rfl
def HM (c:CA)(L W:ar):MR:=λds Q X=>∃(n:aB) (b:Br) (pl:List (aB×Pl)) (rs:List Rw),ds=[.str n,sR c b,EV pl]/\iI n b=aa rs/\Pin b pl/\adT rs/\n.length<=4000/\rs.length<=1000/\
 (Bk b pl 0 rs=am->Q .non)/\∀w l i,Bk b pl 0 rs=aa (w,l,i)->X (exA L W w l n i)
def HN{c:CA}{L W:ar}:AT (HM c L W):=by
 rintro ds P Q x y w v ⟨n,b,p,r,f,g,h,j,m,o,q,u⟩
 exact⟨n,b,p,r,f,g,h,j,m,o,λe=>w _ (q e),λa l i e=>v _ (u a l i e)⟩
theorem O2{b:Br}{pl:List (aB×Pl)}{r:Rw}{w:aB}{l:Bool}:∀{ws:List aB},EC b pl r ws=aa (w,l)->w∈ws
 |x::ws,h=>by
  unfold EC at h;split at h
  .exact ax _ (O2 h)
  .cases h;exact aE
set_option tactic.hygienic true in
theorem HP{b:Br}{pl:List (aB×Pl)}{r:Rw}{x:aB}{xs:List aB}:∀{a:List aB},EC b pl r a=am->EC b pl r (a++x::xs)=EC b pl r (x::xs)
 |[],_=>rfl
 |y::a,h=>by
  unfold EC at h;split at h
  .rename_i c;show EC b pl r (y::(a++x::xs))=_;rw[EC,if_pos c];exact HP h
  .cases h
set_option tactic.hygienic true in
theorem Eb{b:Br}{pl:List (aB×Pl)}{r:Rw}{x:aB}(c:ka b pl r x=ai):∀{a:List aB},EC b pl r a=am->EC b pl r (a++[x])=am
 |[],_=>by show EC b pl r [x]=am;rw[EC,if_pos c];rfl
 |y::a,h=>by
  unfold EC at h;split at h
  .rename_i e;show EC b pl r (y::(a++[x]))=_;rw[EC,if_pos e];exact Eb c h
  .cases h
theorem HQ{b:Br}{pl:List (aB×Pl)}{r:Rw}{rs:List Rw}:∀{a:List Rw} {i:Nat},Bk b pl i a=am->Bk b pl i (a++r::rs)=Bk b pl (i+a.length) (r::rs)
 |[],i,_=>rfl
 |y::a,i,h=>by
  unfold Bk at h;show Bk b pl i (y::(a++r::rs))=_;rw[Bk];split at h
  .cases h
  .rw[HQ h,aQ,show i+1+a.length=i+(a.length+1) by lia]
theorem Ec{b:Br}{pl:List (aB×Pl)}{r:Rw}(c:EC b pl r r.AR=am):∀{a:List Rw} {i:Nat},Bk b pl i a=am->Bk b pl i (a++[r])=am
 |[],i,_=>by show Bk b pl i [r]=am;rw[Bk,c];rfl
 |y::a,i,h=>by
  unfold Bk at h;show Bk b pl i (y::(a++[r]))=_;rw[Bk];split at h
  .cases h
  .exact Ec c h
theorem HR{b:Br}{pl:List (aB×Pl)}{r:Pt}{rs:List Pt}:∀{a:List Pt},Bl b pl a=am->Bl b pl (a++r::rs)=Bl b pl (r::rs)
 |[],_=>rfl
 |y::a,h=>by
  unfold Bl at h;show Bl b pl (y::(a++r::rs))=_;rw[Bl];split at h
  .cases h
  .exact HR h
theorem Ed{b:Br}{pl:List (aB×Pl)}{r:Pt}(c:Bk b pl 0 (bare r.2)=am):∀{a:List Pt},Bl b pl a=am->Bl b pl (a++[r])=am
 |[],_=>by show Bl b pl [r]=am;rw[Bl,c];rfl
 |y::a,h=>by
  unfold Bl at h;show Bl b pl (y::(a++[r]))=_;rw[Bl];split at h
  .cases h
  .exact Ed c h
def VA{c:CA}{L W:ar}:∀ds Q X,HM c L W ds Q X->E3 6 3 (qh (pH c) L (cl (Ux c)) (cl (Yd c)) W) ds Q X:=by
 rintro ds Q X ⟨n,b,pl,rs,h,e,pin,sh,i,rl,q,J⟩
 subst h;refine⟨rfl,.inr n,EY c rs,rfl,by rw[rT,e];rfl,_,rfl,rfl,?_⟩;refine oC (λj f M=>Bk b pl 0 (rs.take j)=am/\∃B C m,f=[aa (.str n),aa (sR c b),aa (EV pl),B,C,m]) (λ_ _ _ _=>rfl) _ 0 _ _ ⟨rfl,am,am,am,rfl⟩ (λj x f M O g N E=>?_) (λf M g=>?_)
 .rw[ba] at g E;obtain⟨hb,B,C,m,rfl⟩:=g;obtain⟨y,T,rfl⟩:=sP O;obtain⟨r,v,rfl⟩:=get_map T;have U:=(au.mp v).1;have Y:rs.take (j+1)=rs.take j++[r]:=by rw[List.take_succ,v];rfl
  have ed:rs=rs.take j++r::rs.drop (j+1):=by rw[<-(au.mp v).2,ej,fQ]
  refine⟨rfl,rfl,_,_,_,_,rfl,rfl,⟨r.kn,rfl,rfl⟩,r,rfl,rfl,?_⟩;refine⟨r.names,by show xi (Xi _ (M++[aa (.lst r.names)])[M.length]?)=_;rw[Ow];rfl,rfl,?_⟩;rw[r.Uy];refine i8 D.str (λa z f M'=>r.AR=a++z/\EC b pl r a=am/\M'=M++[aa (.lst (r.AR.map D.str))]/\∃m,f=[aa (.str n),aa (sR c b),aa (EV pl),aa (.int j),aa (r.ins c),m]) (λ_ _ _ _ zq=>by obtain⟨_,_,e,_⟩:=zq;rw[e]) _ [] _ _ ⟨rfl,rfl,rfl,m,rfl⟩ (λpre x xs f M1 g N1 w=>?_) (λpre f M1 zq=>by obtain⟨e1,e2,_,o,e⟩:=zq;exact E _ _ ⟨by rw[Y];exact Ec (by rw[e1,aR];exact e2) hb,_,_,_,e⟩);obtain⟨A,hn,rfl,o,rfl⟩:=g;have hw:x∈r.AR:=by rw[A];simp
  have u:=sh r (aS v) x hw;have bad:ka b pl r x≠ai->X (exA L W x (iI x pl).isNone n j):=λha=>J _ _ _ (by rw[ed,HQ hb,Bk,A,HP hn,EC,if_neg ha];show aa (x,(iI x pl).isNone,0+(rs.take j).length)=_;rw[bW,gm (c7 U),ba])
  cases ex:iI x pl with
  |none=>
   refine⟨ao,by show aa (oB (.inr x) (kA pl) (vA OC pl)).isSome=_;rw[rT,ex];rfl,?_⟩;have:=bad (by unfold ka;rw[ex];exactλz=>by cases z);rw[ex] at this;exact⟨rfl,ag5 u i (by lia),ag rfl,rfl,this⟩
  |some p=>
   obtain⟨a,G⟩:=pin x p ex;refine⟨ai,by show aa (oB (.inr x) (kA pl) (vA OC pl)).isSome=_;rw[rT,ex];rfl,?_⟩;refine⟨.inr x,OC p,rfl,by rw[rT,ex];rfl,?_,b,p,a,rfl,G,?_⟩
   .show(nl (sR c b)&&(nl (OC p)&&ai))=ai;rw[yJ];rfl
   refine⟨by show(nl (r.ins c)&&(nl (a.ins c)&&ai))=ai;rw[r.nli,a.nli];rfl,r,a,rfl,?_⟩;have H:ka b pl r x=rV r a:=by unfold ka;rw[ex];dsimp only;rw[G]
   cases I:rV r a with
   |true=>exact w _ _ ⟨by rw[A,aX];rfl,Eb (H.trans I) hn,rfl,_,rfl⟩
   |false=>
    have:=bad (by rw[H,I];exactλz=>by cases z);rw[ex] at this;exact⟨rfl,ag5 u i (by lia),ag rfl,rfl,this⟩
 .obtain⟨hb,_⟩:=g;refine q ?_;rw[ba,dB,ak,d8 (aC _)] at hb;exact hb
structure Wf(ps:List Pt):Prop where
 lk:QJ ps
 ml:(iw ps).length<=1000
 tw:Ut (iw ps)
 pin:Pin (ie ps) (ki ps)
 brs:∀p∈ps,iI p.1 (ie ps)=aa (bare p.2)
 nm:((Lj ps).map aY).Nodup
def Wf.mi{a:List Pt}(h:Wf a):acS a:=⟨h.lk.zR.nd,by have:=h.lk.zR.hi;lia,λp b=>(h.lk.zR.all p b).len,h.ml⟩
def Wf.br{a:List Pt}(h:Wf a):af8 a:=⟨h.mi.nd,h.mi.l,h.mi.len⟩
def O3{w:aB}(h:mC w=ai):w.length<=4000:=bh (of_decide_eq_true (b2 (b1 h))) (by decide)
def VB{r:Rw}(h:r.ok=ai):∀w∈r.AR,mC w=ai:=by
 intro w hw;cases r<;>first|(cases hw;done)|skip
 case jump=>rw[bp.mp hw];exact h
 case jumpif=>rw[bp.mp hw];exact b2 h
 case call=>rw[bp.mp hw];exact h
 case load=>rw[bp.mp hw];exact b2 h
 case jumpby=>rw[bp.mp hw];exact b2 h
 case alike=>
  rcases aN.mp hw with e|e
  .rw[e];exact b2 (b1 h)
  .rw[bp.mp e];exact b2 h
 case table=>exact bG.mp (b2 h) w hw
abbrev bad(a:List Pt):Option (aB×Bool×aB×Nat):=Bl (ie a) (ki a) a
def wz (c:CA)(L W:ar):MR:=λds Q X=>∃a:List Pt,ds=[.lst (a.map jt)]/\Wf a/\(bad a=am->Q (.tup [sR c (ie a),EV (ki a)]))/\∀w l n i,bad a=aa (w,l,n,i)->X (exA L W w l n i)
def Ee{c:CA}{L W:ar}:AT (wz c L W):=by
 rintro ds P Q x y w v ⟨b,h,ok,f,g⟩
 exact⟨b,h,ok,λe=>w _ (f e),λa l n i e=>v _ (g a l n i e)⟩
def Nn{c:CA}{L W:ar}:∀ds Q X,wz c L W ds Q X->E3 6 1 (De (cl (Dl c)) (cl (Dp c)) (cl (Mx c)) (HM c L W)) ds Q X:=by
 rintro ds Q X ⟨b,h,ok,p,q⟩
 subst h;refine⟨rfl,mR b,b,rfl,ok.lk,?_⟩;refine⟨Dn c b,b,rfl,⟨ok.mi,ok.tw⟩,?_⟩;refine⟨Dn c b,b,rfl,ok.br,?_⟩;refine⟨_,rfl,rfl,?_⟩;refine i8 (EO c) (λa z j M=>b=a++z/\Bl (ie b) (ki b) a=am/\M=[]/\∃m n,j=[aa (.lst (b.map jt)),aa (.lst (b.map (EO c))),aa (EV (ki b)),aa (sR c (ie b)),m,n]) (λ_ _ _ _ _=>rfl) b [] _ _ ⟨rfl,rfl,rfl,am,am,rfl⟩ (λpre x xs j M o N u=>?_) (λpre j M o=>?_)
 .obtain⟨f,hb,rfl,m,n,rfl⟩:=o;have g:x∈b:=by rw[f];simp
  refine⟨rfl,rfl,?_,x.1,ie b,ki b,bare x.2,rfl,ok.brs x g,ok.pin,?_,O3 (ok.lk.zR.all x g).w,?_,λe=>?_,λw l i e=>⟨rfl,?_⟩⟩
  .show(ai&&(nl (sR c (ie b))&&(nl (EV (ki b))&&ai)))=ai;rw[yJ,He];rfl
  .exactλr v w hw=>O3 (VB (ok.lk.rows x g r (cK.mp v).1) w hw)
  .exact bh (dG _ _) (ok.br.len x g)
  .exact u _ _ ⟨by rw[aX];exact f,Ed e hb,rfl,_,_,rfl⟩
  .refine q w l x.1 i ?_;have y:Bl (ie b) (ki b) (pre++x::xs)=aa (w,l,x.1,i):=by rw[HR hb,Bl,e]
   exact(congrArg (Bl (ie b) (ki b)) f).trans y
 .obtain⟨f,hb,rfl,m,n,rfl⟩:=o;refine⟨ag rfl,?_,p (by rw[aR] at f;rw[<-f] at hb;exact hb)⟩;show(nl (sR c (ie b))&&(nl (EV (ki b))&&ai))=ai;rw[yJ,He];rfl
theorem HS(c:CA):∀b:Br,qX (kA b) (vA (EY c) b)=b.map (EO c)
 |[]=>rfl
 |p::b=>by have:=HS c b;unfold qX kA vA at*;rw[aZ,aZ,fH,this];rfl
def Ef (c:CA)(L W:ar):MR:=λds Q X=>∃a:List Pt,ds=[.lst (a.map jt)]/\Wf a/\(bad a=am->Q (.lst ((ie a).map jt)))/\∀w l n i,bad a=aa (w,l,n,i)->X (exA L W w l n i)
def Fd{c:CA}{L W:ar}:AT (Ef c L W):=by
 rintro ds P Q x y w v ⟨b,h,ok,f,g⟩
 exact⟨b,h,ok,λe=>w _ (f e),λa l n i e=>v _ (g a l n i e)⟩
def KQ{a:List Pt}(ok:Wf a):(ie a).length<=1000:=by have:=ok.lk.zR.hi;have:=(kL a).length_eq;unfold ie;rw[ak];lia
def O4{a:List Pt}(ok:Wf a){p:aB×List Rw}(b:p∈ie a):p.2.length<=1000:=by obtain⟨x,c,e⟩:=bC.mp b;have f:=ok.br.len x ((kL a).mem_iff.mp c);rw[<-e];exact bh (dG _ _) f
def Rq{c:CA}{L W:ar}:∀ds Q X,Ef c L W ds Q X->E3 3 1 (Hw (wz c L W) (jf c)) ds Q X:=by
 rintro ds Q X ⟨a,h,ok,f,g⟩
 subst h;unfold Hw;refine⟨rfl,mR a,a,rfl,ok,λe=>?_,λw l n i e=>⟨Zb L W w l n i,g w l n i e⟩⟩;have q:=f e;refine⟨rfl,rfl,_,_,rfl,trivial,?_⟩;rw[HS];refine ke (EO c) jt trivial (ie a) [] (by show 0+_<=_;rw[ba];exact kK (KQ ok)) (λp j u m=>?_) ?_
 .refine⟨rfl,rfl,_,rfl,rfl,?_⟩;refine ke (Rw.ins c) Rw.d (by rfl) p.2 [] (by show 0+_<=_;rw[ba];exact kK (O4 ok j)) (λr v o b=>?_) ?_
  .exact⟨_,_,_,_,rfl,rfl,⟨r.kn,rfl,rfl⟩,by unfold lN;rw[r.nli];rfl,r,rfl,rfl,b _ rfl⟩
  .rw[bL];exact⟨ag rfl,m _ rfl⟩
 .rw[bL];exact⟨nI _,q⟩
noncomputable def _root_.FJ.Rw.kd:Rw->aB
 |.mark _ _=>kt|.set _ _=>fi|.add _ _=>"add"|.take _ _=>pa|.say _=>lf|.ask _=>"ask"|.jump _=>nb|.jumpif _ _=>lp|.call _=>lr|.back=>lR|.stop=>me
 |.load _ _ _=>kf|.jumpby _ _=>lc|.alike _ _ _=>jp|.numbers _=>ew|.table _=>el
def Eg:GP:=λds Q=>∃r:Rw,ds=[r.d]/\Q (.lst (r.AR.map .str))
def KR:iB Eg:=by
 rintro ds P Q w ⟨r,h,q⟩
 exact⟨r,h,w _ q⟩
set_option tactic.hygienic true in
def Zc:∀ds Q,Eg ds Q->jl 1 1 AX ds Q:=by
 rintro ds Q ⟨r,h,q⟩
 subst h;refine⟨rfl,?_⟩;cases r;case table ws=>
  walk_at "d";first|exact q|exact⟨qg,q⟩
 all_goals
  walk_at "d";first|exact q|exact⟨rfl,q⟩
def wA:GP:=λds Q=>∃r a:Rw,ds=[r.d,.str a.kd]/\r.AR≠[]/\a.iy=ao/\Q (.bl (rV r a))
def HU:iB wA:=by
 rintro ds P Q w ⟨r,a,h,b,c,q⟩
 exact⟨r,a,h,b,c,w _ q⟩
def VC:∀ds Q,wA ds Q->jl 2 2 AY ds Q:=by
 rintro ds Q ⟨r,a,h,b,c,q⟩
 subst h;refine⟨rfl,?_⟩;cases r<;>first|(exact absurd rfl b;done)|skip
 all_goals
  cases a<;>first|(cases c;done)|skip
  all_goals
   walk_at "d";first|exact q|exact⟨rfl,q⟩
def y9:GP:=λds Q=>∃r:Rw,ds=[r.d]/\(match r with|.numbers ns=>ns.length<=1000|.table ws=>ws.length<=1000|_=>True)/\Q r.d
def Fe:iB y9:=by
 rintro ds P Q w ⟨r,h,a,q⟩
 exact⟨r,h,a,w _ q⟩
set_option tactic.hygienic true in
def Rr:∀ds Q,y9 ds Q->jl 1 1 y3 ds Q:=by
 rintro ds Q ⟨r,h,a,q⟩
 subst h;refine⟨rfl,?_⟩;cases r;case table ws=>
  walk_at "d";first|exact q|exact⟨C8 qg,q⟩
 case numbers ws=>
  walk_at "d";first|exact q|exact⟨C8 yC,q⟩
 all_goals
  walk_at "d";first|exact q|exact⟨rfl,q⟩
noncomputable def HV:List Rw->List (aB×aB)
 |[]=>[]
 |.mark w _::rs=>((bare rs).head?.map λa=>(w,a.kd)).toList++HV rs
 |_::rs=>HV rs
def HW{r:Rw}{rs:List Rw}(h:r.iy=ao):HV (r::rs)=HV rs:=by cases r<;>first|rfl|cases h
noncomputable def Lk(l:List (aB×aB))(xs:List (aB×aB)):List (aB×aB):=xs.foldl (λl x=>rS x.1 x.2 l) l
noncomputable def wU(a:List Pt):List (aB×aB):=a.flatMap λp=>HV p.2
noncomputable def stood(a:List Pt):List (aB×aB):=Lk [] (wU a)
def HX (rs:List Rw):Prop:=∀(k:Nat) (w:aB) (b:Bool),rs[k]?=aa (.mark w b)->bare (rs.drop (k+1))≠[]
def Zd{β:Type}(w:aB)(v:β)(l:List (aB×β)):l.length<=(rS w v l).length:=by
 unfold rS;split
 .rw[ak];exact aC _
 .rw[aD];lia
theorem HY:∀(xs l:List (aB×aB)),l.length<=(Lk l xs).length
 |[],l=>aC _
 |x::xs,l=>bh (Zd x.1 x.2 l) (HY xs _)
abbrev sdD(l:List (aB×aB)):OD:=.jP (kA l) (vA D.str l)
set_option tactic.hygienic true in
def adU{l:List (aB×aB)}{j:Nat}{r:Rw}{rs:List Rw}{T:List (aB×aB)}{x0 x2:Option D}{E:jK}(f:rs[j]?=aa r)(hn:HX rs)(o:rs.length<=1000)(c:Lk l (HV (rs.drop j))=T)(y:l.length<=1000)
(q:∀m:List (aB×aB),Lk m (HV (rs.drop (j+1)))=T->E.nx [x0,aa (.loc 0),x2,aa (.lst (rs.map Rw.d)),aa (.int j),aa r.d] [aa (sdD m)]):
  stB E [x0,aa (.loc 0),x2,aa (.lst (rs.map Rw.d)),aa (.int j),aa r.d] [aa (sdD l)]:=by
 have z:=(au.mp f).1;have g:rs.drop j=r::rs.drop (j+1):=by rw[<-(au.mp f).2,ej]
 cases hm:r.iy with
 |false=>
  rw[g,HW hm] at c;have:=q l c;cases r<;>first|(cases hm;done)|exact⟨_,rfl,this⟩
 |true=>
  cases r<;>first|cases hm|skip
  rename_i w b;obtain⟨a,as,n⟩:∃a as,bare (rs.drop (j+1))=a::as:=by
   cases e:bare (rs.drop (j+1)) with
   |nil=>exact absurd e (hn j w b f)
   |cons a as=>exact⟨a,as,rfl⟩
  rw[g] at c;have h:Lk (rS w a.kd l) (HV (rs.drop (j+1)))=T:=by rw[<-c];show _=Lk l (((bare (rs.drop (j+1))).head?.map λa=>(w,a.kd)).toList++_);rw[n];rfl
  have p:=q _ h;have u:bare (rs.drop j)=a::as:=by rw[g];exact n
  refine⟨_,rfl,_,rfl,rfl,?_⟩;rw[vj,<-eZ];refine kg Rw.d Rw.d (λr=>!r.iy) ?_ (rs.drop j) [] (by show 0+_<=_;rw[ba,dn];exact kK (by lia)) (λx A B v=>?_) ?_
  .exact rfl
  .cases x<;>exact⟨_,rfl,v _ rfl⟩
  .rw[bL];show(dC (.int 0)) _ _ _;have i:(rs.drop j).filter (λr=>!r.iy)=a::as:=u;rw[i,aZ];have fin2:E.nx [x0,aa (.loc 0),x2,aa (.lst (rs.map Rw.d)),aa (.int j),aa (Rw.mark w b).d] [aa (.jP (qQ (.inr w) (.str a.kd) (kA l) (vA D.str l)).1 (qQ (.inr w) (.str a.kd) (kA l) (vA D.str l)).2)]:=by have e2:qQ (.inr w) (.str a.kd) (kA l) (vA D.str l)=_:=aaq D.str w a.kd l;rw[e2];exact p
   have hb:(kA l).length<az:=by unfold kA;rw[ak,bD];lia
   refine⟨a.d,kJ (k:=0) rfl,?_⟩;cases a<;>exact⟨_,rfl,_,rfl,_,_,.inr w,rfl,rfl,hb,fin2⟩
def BW:GP:=λds Q=>∃a:List Pt,ds=[.lst (a.map jt)]/\(∀p∈a,HX p.2/\p.2.length<=1000)/\(stood a).length<=1000/\Q (.jP (kA (stood a)) (vA D.str (stood a)))
def HZ:iB BW:=by
 rintro ds P Q w ⟨a,h,b,c,q⟩
 exact⟨a,h,b,c,w _ q⟩
def ag6(l:List (aB×aB)):lN (vA D.str l)=ai:=by unfold vA;exact jQ (f:=λx:aB×aB=>D.str x.2) (λ_=>rfl) l
def VD:∀ds Q,BW ds Q->jl 6 1 vz ds Q:=by
 rintro ds Q ⟨c,h,B,L,q⟩
 subst h;unfold vz;have z:=@adU;generalize stB=sb at z |-;refine⟨rfl,_,rfl,rfl,?_⟩;refine i8 jt (λpre xs e M=>c=pre++xs/\∃(l:List (aB×aB)) (n o a b:Option D),Lk l (wU xs)=stood c/\M=[aa (sdD l)]/\e=[aa (.lst (c.map jt)),aa (.loc 0),n,o,a,b]) (λ_ _ _ _ _=>rfl) c [] _ _ ⟨rfl,[],am,am,am,am,rfl,rfl,rfl⟩ (λpre p xs e M h N C=>?_) (λpre e M h=>?_)
 .obtain⟨u,l,n,o,a,b,v,rfl,rfl⟩:=h;obtain⟨hn,w⟩:=B p (by rw[u];simp);have A:Lk (Lk l (HV p.2)) (wU xs)=stood c:=by rw[<-v];show _=Lk l (HV p.2++_);unfold Lk;rw[List.foldl_append];rfl
  refine⟨rfl,rfl,_,rfl,rfl,?_⟩;refine oC (λj e M=>∃(f:List (aB×aB)) (a b:Option D),Lk f (HV (p.2.drop j))=Lk l (HV p.2)/\M=[aa (sdD f)]/\e=[aa (.lst (c.map jt)),aa (.loc 0),aa (.str p.1),aa (.lst (p.2.map Rw.d)),a,b]) (λ_ _ _ zq=>by obtain⟨_,_,_,_,_,_⟩:=zq;exact rfl) _ 0 _ _ ⟨l,a,b,rfl,rfl,rfl⟩ (λj x e M E g O i=>?_) (λe M g=>?_)
  .rw[ba] at g i;obtain⟨f,a,b,m,rfl,rfl⟩:=g;obtain⟨y,G,rfl⟩:=sP E;obtain⟨r,H,rfl⟩:=get_map G;refine⟨rfl,rfl,z H hn w m ?_ λI e2=>i _ _ ⟨I,_,_,e2,rfl,rfl⟩⟩;have a1:=HY (HV (p.2.drop j)) f;rw[m] at a1;have a2:=HY (wU xs) (Lk l (HV p.2));rw[A] at a2;lia
  .rw[ba,dB,ak] at g;obtain⟨f,a,b,m,rfl,rfl⟩:=g;rw[List.drop_of_length_le (aC _)] at m;have J:f=Lk l (HV p.2):=m;exact C _ _ ⟨by rw[aX];exact u,f,_,_,_,_,by rw[J];exact A,rfl,rfl⟩
 .obtain⟨u,l,n,o,a,b,v,rfl,rfl⟩:=h;have w:l=stood c:=v;subst w;exact⟨ag6 _,q⟩
theorem Gb:∀rs:List Rw,(bare rs).head?=jy rs
 |[]=>rfl
 |r::rs=>by
  unfold jy;cases hm:r.iy with
  |true=>rw[if_pos rfl,<-Gb rs];unfold bare;rw[du,if_neg (by rw[hm];decide)]
  |false=>rw[if_neg (by decide)];unfold bare;rw[du,if_pos (by rw[hm];rfl)];rfl
def O5{rs:List Rw}(h:mS rs=ai):HX rs:=λk w b e z=>by have:=(vn h e).2 rfl;rw[<-Gb,z] at this;cases this
def BX{r:Rw}{rs:List Rw}(h:HX (r::rs)):HX rs:=λk w b e=>h (k+1) w b e
set_option tactic.hygienic true in
theorem Ia(n:aB):∀(rs:List Rw) (k:Nat),HX rs->(HV rs).map aY=(iR n k rs).map aY
 |[],_,_=>rfl
 |r::rs,k,h=>by
  cases hm:r.iy with
  |false=>rw[HW hm,lh hm];exact Ia n rs _ (BX h)
  |true=>
   cases r<;>first|cases hm|skip
   rename_i w b;have c:=h 0 w b rfl;have f:=Ia n rs k (BX h);show((((bare rs).head?.map λa=>(w,a.kd)).toList++HV rs).map aY)=w::(iR n k rs).map aY;cases e:bare rs with
   |nil=>exact absurd e c
   |cons a as=>rw[aM,f];rfl
theorem sU:∀{a:List Pt},(∀p∈a,HX p.2)->(wU a).map aY=(Lj a).map aY
 |[],_=>rfl
 |p::a,h=>by have b:=sU λq c=>h q (ax _ c);unfold wU Lj at*;rw[df,df,aM,aM,b,Ia p.1 p.2 0 (h p aE)]
def Wf.hn{a:List Pt}(h:Wf a):∀p∈a,HX p.2:=λp b=>O5 (h.lk.ends p b)
theorem Wf.stood{a:List Pt}(h:Wf a):stood a=wU a:=by
 have nd:((wU a).map aY).Nodup:=by rw[sU h.hn];exact h.nm
 unfold kF.stood Lk;rw[HB aY Prod.snd (wU a) [] (by simpa using nd),bL];exact List.map_id' _
set_option tactic.hygienic true in
theorem VE{n w:aB}{b:Bool}{p:Pl}:∀{rs:List Rw} {k:Nat},(w,b,p)∈iR n k rs->∃i,p=(n,k+i)/\∀a,(bare rs)[i]?=aa a->(w,a.kd)∈HV rs
 |[],k,h=>by cases h
 |r::rs,k,h=>by
  cases hm:r.iy with
  |false=>
   rw[lh hm] at h;obtain⟨i,e,f⟩:=VE h;refine⟨i+1,by rw[e,show k+1+i=k+(i+1) by lia],λa ha=>?_⟩;rw[HW hm];refine f a ?_;unfold bare at ha;rw[du,if_pos (by rw[hm];rfl)] at ha;exact ha
  |true=>
   cases r<;>first|cases hm|skip
   rename_i c g;rcases aN.mp h with e|h
   .cases e;refine⟨0,rfl,λa ha=>?_⟩;show _∈((bare rs).head?.map λa=>(w,a.kd)).toList++HV rs;have:(bare rs).head?=aa a:=by have hb:bare (Rw.mark w b::rs)=bare rs:=rfl;rw[hb] at ha;rw[List.head?_eq_getElem?];exact ha
    rw[this];exact bV _ (aE)
   .obtain⟨i,e,f⟩:=VE h;exact⟨i,e,λa ha=>bH _ (f a ha)⟩
def Wf.Eh{a:List Pt}:(iw a).Perm (Lj a):=(kL a).flatMap_right _
def Wf.plc{a:List Pt}(h:Wf a):ki a=(iw a).map λm=>(m.1,m.2.2):=by have nd:((iw a).map aY).Nodup:=(Wf.Eh.map aY).nodup_iff.mpr h.nm;show placesOf (iw a)=_;rw[z8 nd,Vn nd]
def Wf.no{a:List Pt}(h:Wf a){w:aB}(e:iI w (ki a)=am):iI w (kF.stood a)=am:=by
 rw[h.stood];refine oi λz=>?_;rw[sU h.hn] at z;obtain⟨m,hm,rfl⟩:=bC.mp z;have nd:((iw a).map aY).Nodup:=(Wf.Eh.map aY).nodup_iff.mpr h.nm;have:iI m.1 (ki a)=aa m.2.2:=by rw[h.plc];refine mL (by rw[bd];exact nd) (bC.mpr ⟨m,Wf.Eh.mem_iff.mpr hm,rfl⟩)
 rw[e] at this;cases this
def Wf.yes{c:List Pt}(h:Wf c){w:aB}{p:Pl}{a:Rw}(e:iI w (ki c)=aa p)(ha:Uw (ie c) p=aa a):iI w (kF.stood c)=aa a.kd/\a.iy=ao:=by
 rw[h.plc] at e;obtain⟨m,hm,n⟩:=bC.mp (zS e);obtain⟨q,j,g⟩:=dz.mp (Wf.Eh.mem_iff.mp hm);obtain⟨o,b,r⟩:=m;cases n;obtain⟨i,e1,f⟩:=VE g;subst e1;obtain⟨rs,e2,e3⟩:=JZ ha;rw[h.brs q j] at e2;cases e2;rw[ba] at e3;refine⟨?_,?_⟩
 .rw[h.stood];exact mL (by rw[sU h.hn];exact h.nm) (dz.mpr ⟨q,j,f a e3⟩)
 .have:=(cK.mp (aS e3)).2;cases hm:a.iy with
  |true=>rw[hm] at this;cases this
  |false=>rfl
noncomputable def xD:Option (aB×Bool×aB×Nat)->D
 |none=>.non
 |some (w,l,n,i)=>.tup [.str (if l then"lacking" else"aim"),.str w,.str n,.int i]
def Ze(o:Option (aB×Bool×aB×Nat)):nl (xD o)=ai:=by rcases o with _|⟨w,l,n,i⟩<;>rfl
def VF:GP:=λds Q=>∃a:List Pt,ds=[.lst (a.map jt)]/\Wf a/\Q (xD (bad a))
def Np:iB VF:=by
 rintro ds P Q w ⟨a,h,b,q⟩
 exact⟨a,h,b,w _ q⟩
def Wf.stl{a:List Pt}(h:Wf a):(kF.stood a).length<=1000:=by have:=congrArg f8 (sU h.hn);rw[ak,ak] at this;rw[h.stood,this,<-Wf.Eh.length_eq];exact h.ml
abbrev sD(a:List Pt):D:=.jP (kA (kF.stood a)) (vA D.str (kF.stood a))
def adV{b:List Pt}(ok:Wf b){x0 x3:Option D}{n w:aB}{j:Nat}{r:Rw}{E:jK}{M:Ms}(hn:r.AR≠[])
(i:ka (ie b) (ki b) r w=ai->E.nx [x0,aa (sD b),aa (.str n),x3,aa (.int j),aa r.d,aa (.str w)] M)
(c:ka (ie b) (ki b) r w≠ai->E.rt (xD (aa (w,(iI w (ki b)).isNone,n,j))) M):
  duB (cl wA) E [x0,aa (sD b),aa (.str n),x3,aa (.int j),aa r.d,aa (.str w)] M:=by
 cases ex:iI w (ki b) with
 |none=>
  rw[ex] at c;refine⟨ao,by show aa (oB (.inr w) (kA (kF.stood b)) (vA D.str (kF.stood b))).isSome=_;rw[rT,ok.no ex];rfl,?_⟩;exact⟨ag rfl,c (by unfold ka;rw[ex];exactλz=>by cases z)⟩
 |some p=>
  rw[ex] at c;obtain⟨a,e⟩:=ok.pin w p ex;obtain⟨f,m⟩:=ok.yes ex e;have g:ka (ie b) (ki b) r w=rV r a:=by unfold ka;rw[ex];dsimp only;rw[e]
  refine⟨ai,by show aa (oB (.inr w) (kA (kF.stood b)) (vA D.str (kF.stood b))).isSome=_;rw[rT,f];rfl,?_⟩;refine⟨.inr w,.str a.kd,rfl,by rw[rT,f];rfl,?_,r,a,rfl,hn,m,?_⟩
  .show(nl r.d&&(ai&&ai))=ai;rw[r.Wh];rfl
  .cases h:rV r a with
   |true=>exact i (g.trans h)
   |false=>exact⟨ag rfl,c (by rw[g,h];exactλz=>by cases z)⟩
def adW:∀ds Q,VF ds Q->jl 7 1 (z7 (cl BW) (cl Eg) (cl wA)) ds Q:=by
 rintro ds Q ⟨b,h,ok,q⟩
 subst h;unfold z7;have L:=@adV b ok;generalize duB (cl wA)=db at L |-;refine⟨rfl,mR b,b,rfl,λp A=>⟨ok.hn p A,ok.br.len p A⟩,ok.stl,?_⟩;refine⟨_,rfl,rfl,?_⟩;refine i8 jt (λpre xs c M=>b=pre++xs/\Bl (ie b) (ki b) pre=am/\M=[]/\∃(C E f g e:Option D),c=[aa (.lst (b.map jt)),aa (sD b),C,E,f,g,e]) (λ_ _ _ _ _=>rfl) b [] _ _ ⟨rfl,rfl,rfl,am,am,am,am,am,rfl⟩ (λpre p xs c M h N T=>?_) (λpre c M h=>?_)
 .obtain⟨n,hb,rfl,C,E,f,g,e,rfl⟩:=h;have A:p∈b:=by rw[n];simp
  refine⟨rfl,rfl,_,rfl,rfl,?_⟩;refine kg Rw.d Rw.d (λr=>!r.iy) ?_ p.2 [] (by show 0+_<=_;rw[ba];exact kK (ok.br.len p A)) (λx O Kk U=>?_) ?_
  .exact rfl
  .cases x<;>exact⟨_,rfl,U _ rfl⟩
  .rw[bL];have Y:p.2.filter (λr=>!r.iy)=bare p.2:=rfl;rw[Y];refine⟨_,rfl,rfl,?_⟩;refine oC (λj c M=>Bk (ie b) (ki b) 0 ((bare p.2).take j)=am/\M=[]/\∃(f g e:Option D),c=[aa (.lst (b.map jt)),aa (sD b),aa (.str p.1),aa (.lst (p.2.map Rw.d)),f,g,e]) (λ_ _ _ _=>rfl) _ 0 _ _ ⟨rfl,rfl,f,g,e,rfl⟩ (λj x c M O u N' v=>?_) (λc M u=>?_)
   .rw[ba] at u v;obtain⟨B,rfl,f,g,e,rfl⟩:=u;obtain⟨y,hy,rfl⟩:=sP O;obtain⟨r,G,rfl⟩:=get_map hy;have hj:=(au.mp G).1;have et:(bare p.2).take (j+1)=(bare p.2).take j++[r]:=by rw[List.take_succ,G];rfl
    have ed:bare p.2=(bare p.2).take j++r::(bare p.2).drop (j+1):=by rw[<-(au.mp G).2,ej,fQ]
    refine⟨rfl,rfl,?_,r,rfl,_,rfl,rfl,?_⟩
    .show(nl r.d&&ai)=ai;rw[r.Wh];rfl
    refine i8 D.str (λa z c M'=>r.AR=a++z/\EC (ie b) (ki b) r a=am/\M'=[]/\∃e,c=[aa (.lst (b.map jt)),aa (sD b),aa (.str p.1),aa (.lst (p.2.map Rw.d)),aa (.int j),aa r.d,e]) (λ_ _ _ _ _=>rfl) r.AR [] _ _ ⟨rfl,rfl,rfl,e,rfl⟩ (λH x xs2 c M1 i N1 I=>?_) (λH c M1 i=>?_)
    .obtain⟨m,w,rfl,o,rfl⟩:=i;refine L (by rw[m];simp) (λha=>I _ _ ⟨by rw[m,aX];rfl,Eb ha w,rfl,_,rfl⟩) λha=>?_;have h3:Bk (ie b) (ki b) 0 (bare p.2)=aa (x,(iI x (ki b)).isNone,j):=by rw[ed,HQ B,Bk,m,HP w,EC,if_neg ha];show aa (x,(iI x (ki b)).isNone,0+((bare p.2).take j).length)=_;rw[bW,gm (c7 hj),ba]
     have h4:Bl (ie b) (ki b) (pre++p::xs)=aa (x,(iI x (ki b)).isNone,p.1,j):=by rw[HR hb,Bl,h3]
     have J:bad b=aa (x,(iI x (ki b)).isNone,p.1,j):=(congrArg (Bl (ie b) (ki b)) n).trans h4;rw[J] at q;have h6:=Ze (aa (x,(iI x (ki b)).isNone,p.1,j));exact⟨h6,q⟩
    .obtain⟨e1,e2,rfl,o,rfl⟩:=i;exact v _ _ ⟨by rw[et];exact Ec (by rw[e1,aR];exact e2) B,rfl,_,_,_,rfl⟩
   .rw[ba,dB,ak,d8 (aC _)] at u;obtain⟨B,rfl,f,g,e,rfl⟩:=u;exact T _ _ ⟨by rw[aX];exact n,Ed B hb,rfl,_,_,_,_,_,rfl⟩
 .obtain⟨n,hb,rfl,C,E,f,g,e,rfl⟩:=h;rw[aR] at n;have J:bad b=am:=by rw[<-n] at hb;exact hb
  rw[J] at q;exact⟨rfl,q⟩
def VG (c:CA):zF:=λC m g=>∃k:Kn,C=c.at k/\(g=cl (BE c k)\/g=C7 c k)
noncomputable def uP(r:Rw)(M:Ms):D×Ms:=match r with
 |.numbers ns=>(.tup [.str ew,.loc M.length],M++[aa (.lst (ns.map .int))])
 |.table ws=>(.tup [.str el,.loc M.length],M++[aa (.lst (ws.map .str))])
 |r=>(r.d,M)
noncomputable def jY:List Rw->Ms->List D×Ms
 |[],M=>([],M)
 |r::rs,M=>((uP r M).1::(jY rs (uP r M).2).1,(jY rs (uP r M).2).2)
noncomputable def uL(p:aB×List Rw)(M:Ms):D×Ms:=(.tup [.str p.1,.loc (jY p.2 M).2.length],(jY p.2 M).2++[aa (.lst (jY p.2 M).1)])
noncomputable def kj:List (aB×List Rw)->Ms->List D×Ms
 |[],M=>([],M)
 |p::a,M=>((uL p M).1::(kj a (uL p M).2).1,(kj a (uL p M).2).2)
set_option tactic.hygienic true in
def Zf{c:CA}{r:Rw}{a:nC}{M:Ms}{Q:DK}(q:Q (uP r M).1 (uP r M).2):u5 (VG c) fq (gN 0) gQ (aa (r.ins c)::a) M Q:=by
 have pl:(∀ns,r≠.numbers ns)->(∀ws,r≠.table ws)->uP r M=(r.d,M):=λb e=>by cases r<;>first|rfl|exact absurd rfl (b _)|exact absurd rfl (e _)
 cases r;case numbers ns=>exact⟨_,_,_,_,rfl,rfl,⟨.jM,rfl,.inr rfl⟩,_,_,_,rfl,rfl,rfl,q⟩
 case table ns=>exact⟨_,_,_,_,rfl,rfl,⟨.Table,rfl,.inr rfl⟩,_,_,_,rfl,rfl,rfl,q⟩
 all_goals
  exact⟨_,_,_,_,rfl,rfl,⟨_,rfl,.inl rfl⟩,rfl,_,rfl,rfl,q⟩
theorem KS{c:CA}{st:Ms->Prop}(a:∀M,st M){Q:List D->Ms->Prop}:∀(rs:List Rw) (acc:List D) (M:Ms),acc.length+rs.length<=az->Q (acc++(jY rs M).1) (jY rs M).2->lQ [am] (gU 0) nv (u5 (VG c) fq (gN 0) gQ) st Q (rs.map (Rw.ins c)) acc [am] M
 |[],acc,M,_,q=>by rw[show acc++(jY [] M).1=acc from aR _] at q;exact q
 |r::rs,acc,M,b,q=>by rw[aZ];unfold lQ;rw[aQ] at b;refine Zf ⟨a _,by lia,?_⟩;refine KS a rs _ _ (by rw[aD,bO];lia) ?_;rw[aX];exact q
theorem Gc{c:CA}{st:Ms->Prop}(b:∀M,st M){Q:List D->Ms->Prop}:∀(a:List (aB×List Rw)) (acc:List D) (M:Ms),acc.length+a.length<=az->(∀p∈a,p.2.length<=1000)->Q (acc++(kj a M).1) (kj a M).2->lQ [am,am] (iU 2 (gX (gU 0) (gX (gU 1) iT))) nv (iP (gM (gN 0) (gM (lD (iX [am] (iO (gN 1)) (gU 0) nv (u5 (VG c) fq (gN 0) gQ))) gQ))) st Q (a.map (EO c)) acc [am,am] M
 |[],acc,M,_,_,q=>by rw[show acc++(kj [] M).1=acc from aR _] at q;exact q
 |p::a,acc,M,f,e,q=>by rw[aZ];unfold lQ;rw[aQ] at f;refine⟨rfl,rfl,_,rfl,rfl,?_⟩;refine KS (λ_=>rfl) p.2 [] M (by show 0+_<=_;rw[ba];exact kK (e p aE)) ?_;rw[bL];refine⟨ag rfl,b _,by lia,?_⟩;refine Gc b a _ _ (by rw[aD,bO];lia) (λq g=>e q (ax _ g)) ?_;rw[aX];exact q
def zc (c:CA)(L W:ar):Vc:=λds M Q X=>∃a:List Pt,ds=[.lst (a.map jt)]/\Wf a/\(bad a=am->Q (.lst (kj (ie a) M).1) (kj (ie a) M).2)/\∀w l n i,bad a=aa (w,l,n,i)->X (exA L W w l n i) M
def Ff{c:CA}{L W:ar}:Kp (zc c L W):=by
 rintro ds M P Q x y w v ⟨b,h,ok,f,g⟩
 exact⟨b,h,ok,λe=>w _ _ (f e),λa l n i e=>v _ _ (g a l n i e)⟩
def Rs{c:CA}{L W:ar}:∀ds M Q X,zc c L W ds M Q X->Q5 3 1 (DP (wz c L W) (VG c)) ds M Q X:=by
 rintro ds M Q X ⟨a,h,ok,b,f⟩
 subst h;unfold DP;refine⟨rfl,mR a,a,rfl,ok,λe=>?_,λw l n i e=>f w l n i e⟩;have q:=b e;refine⟨rfl,rfl,_,_,rfl,trivial,?_⟩;rw[HS];refine Gc (λ_=>trivial) (ie a) [] M (by show 0+_<=_;rw[ba];exact kK (KQ ok)) (λp g=>O4 ok g) ?_;rw[bL];exact q
theorem Gd:∀a:List Pt,xl (a.map jt) (a.map aY)
 |[]=>trivial
 |p::a=>⟨⟨_,rfl⟩,Gd a⟩
def BY:GP:=λds Q=>∃a:List Pt,ds=[.lst (a.map jt)]/\Wf a/\Q (.lst ((ie a).map jt))
def Ib:iB BY:=by
 rintro ds P Q w ⟨a,h,b,q⟩
 exact⟨a,h,b,w _ q⟩
def VH:∀ds Q,BY ds Q->jl 1 1 DV ds Q:=by
 rintro ds Q ⟨a,h,ok,q⟩
 subst h;have es:jL (a.map aY) (a.map jt)=(mI a).map jt:=by rw[FJ.wg];rfl
 have c:=kL a;refine⟨rfl,_,a.map aY,rfl,Gd a,ok.mi.nd,by rw[ak];exact ok.mi.l,?_⟩;rw[es];refine⟨_,rfl,rfl,?_⟩;refine ke jt (λp=>jt (p.1,bare p.2)) ?_ _ _ ?_ (λx f j g=>?_) ?_
 .exact rfl
 .rw[bE,ba,c.length_eq];exact kK (by have:=ok.mi.l;lia)
 .refine⟨rfl,rfl,_,rfl,rfl,?_⟩;refine kg Rw.d Rw.d (λr=>!r.iy) ?_ x.2 [] (by show 0+_<=_;rw[ba];exact kK (ok.br.len x (c.mem_iff.mp f))) (λy m i b=>?_) ?_
  .exact rfl
  .cases y<;>exact⟨_,rfl,b _ rfl⟩
  .rw[bL];exact⟨ag rfl,g _ rfl⟩
 .rw[bL];have e:(mI a).map (λp=>jt (p.1,bare p.2))=(ie a).map jt:=by unfold ie;rw[bd];rfl
  rw[e];exact⟨nI _,q⟩
structure XC(K:af)(PE C:ar):Prop where
 sub:QZ K C PE
 get:Kj K C
 n1:jZ K C ef
 n2:jZ K C ek
 n3:jZ K C eH
structure XF(K:af)(PE L W T N:ar):Prop where
 l:XC K PE L
 w:XC K PE W
 ll:bb K (.ref L) (.ref L)=aa ai
 lw:bb K (.ref L) (.ref W)=aa ao
 lt:bb K (.ref L) (.ref T)=aa ao
 ln:bb K (.ref L) (.ref N)=aa ao
 wl:bb K (.ref W) (.ref L)=aa ao
 ww:bb K (.ref W) (.ref W)=aa ai
 wt:bb K (.ref W) (.ref T)=aa ao
 wn:bb K (.ref W) (.ref N)=aa ao
def Nq:GN:=λds M Q=>∃a:List Pt,ds=[.lst (a.map jt)]/\Wf a/\(bad a=am->Q (.tup [.non,.lst (kj (ie a) M).1]) (kj (ie a) M).2)/\∀b,bad a=aa b->Q (.tup [xD (aa b),.non]) M
def KU:oz Nq:=by
 rintro ds M P Q w ⟨a,h,b,c,f⟩
 exact⟨a,h,b,λe=>w _ _ (c e),λn e=>w _ _ (f n e)⟩
def Zg{K:af}{c:CA}{PE L W T N:ar}(x:XF K PE L W T N):∀ds M Q,Nq ds M Q->Cs 5 1 (xC K PE (zc c L W) N T W L) ds M Q:=by
 rintro ds M Q ⟨a,h,ok,b,f⟩
 subst h;refine⟨rfl,?_⟩;unfold xC;refine⟨a,rfl,ok,λe=>?_,λw l n i e=>?_⟩
 .exact⟨ag rfl,b e⟩
 .have q:=f _ e;cases l with
  |true=>
   refine⟨x.l.sub,?_⟩;refine⟨ai,x.l.get,x.ll,ao,x.l.get,x.lw,ao,x.l.get,x.lt,ao,x.l.get,x.ln,ag rfl,?_⟩;refine⟨ag rfl,?_⟩;refine⟨ag rfl,⟨rfl,rfl,ag rfl,ag rfl⟩,?_⟩;refine⟨x.l.get,x.l.n1,_,rfl,x.l.get,x.l.n2,_,rfl,x.l.get,x.l.n3,_,rfl,ag rfl,?_⟩;refine⟨ag rfl,⟨rfl,rfl,ag rfl,ag rfl⟩,?_⟩;exact⟨ag rfl,q⟩
  |false=>
   refine⟨x.w.sub,?_⟩;refine⟨ao,x.w.get,x.wl,ai,x.w.get,x.ww,ao,x.w.get,x.wt,ao,x.w.get,x.wn,ag rfl,?_⟩;refine⟨ag rfl,?_⟩;refine⟨ag rfl,⟨rfl,rfl,ag rfl,ag rfl⟩,?_⟩;refine⟨ag rfl,⟨rfl,rfl,ag rfl,ag rfl⟩,?_⟩;refine⟨x.w.get,x.w.n1,_,rfl,x.w.get,x.w.n2,_,rfl,x.w.get,x.w.n3,_,rfl,ag rfl,?_⟩;exact⟨ag rfl,q⟩
noncomputable def zd:Rw->Option (aB×List D)
 |.numbers ns=>aa (ew,ns.map .int)
 |.table ws=>aa (el,ws.map .str)
 |_=>am
def KW (M:Ms):Nat->List Rw->List D->Nat->Prop
 |a,[],ds,b=>ds=[]/\b=a
 |a,r::rs,ds,b=>∃d c,ds=d::c/\match zd r with
  |some x=>d=.tup [.str x.1,.loc a]/\M[a]?=aa (aa (.lst x.2))/\KW M (a+1) rs c b
  |none=>d=r.d/\KW M a rs c b
def Ws (M:Ms):Nat->List (aB×List Rw)->List D->Nat->Prop
 |a,[],ds,b=>ds=[]/\b=a
 |a,p::f,ds,b=>∃c e k,ds=.tup [.str p.1,.loc k]::c/\KW M a p.2 e k/\M[k]?=aa (aa (.lst e))/\Ws M (k+1) f c b
theorem KW.le{M:Ms}:∀{rs:List Rw} {a b:Nat} {ds:List D},KW M a rs ds b->a<=b
 |[],a,b,ds,h=>by rw[h.2];exact aC _
 |r::rs,a,b,ds,h=>by
  obtain⟨d,f,e,h⟩:=h;cases c:zd r with
  |some x=>rw[c] at h;have:=KW.le h.2.2;lia
  |none=>rw[c] at h;exact KW.le h.2
theorem KW.mono{M M':Ms}:∀{rs:List Rw} {a b:Nat} {ds:List D},KW M a rs ds b->(∀k,a<=k->k<b->M'[k]?=M[k]?)->KW M' a rs ds b
 |[],a,b,ds,h,_=>h
 |r::rs,a,b,ds,h,e=>by
  obtain⟨d,f,e1,h⟩:=h;refine⟨d,f,e1,?_⟩;cases c:zd r with
  |some x=>
   rw[c] at h;have:=KW.le h.2.2;exact⟨h.1,by rw[e a (aC _) (by lia)];exact h.2.1,KW.mono h.2.2 λk i g=>e k (by lia) g⟩
  |none=>rw[c] at h;exact⟨h.1,KW.mono h.2 e⟩
set_option tactic.hygienic true in
theorem Af:∀(rs:List Rw) (M:Ms),∃t,(jY rs M).2=M++t
 |[],M=>⟨[],(aR _).symm⟩
 |r::rs,M=>by
  obtain⟨t,e⟩:=Af rs (uP r M).2;show∃t,(jY rs (uP r M).2).2=M++t;rw[e];cases r;case numbers ns=>exact⟨[aa (.lst (ns.map .int))]++t,by rw[<-aX];rfl⟩
  case table ns=>exact⟨[aa (.lst (ns.map .str))]++t,by rw[<-aX];rfl⟩
  all_goals exact⟨t,rfl⟩
theorem Ei:∀(a:List (aB×List Rw)) (M:Ms),∃t,(kj a M).2=M++t
 |[],M=>⟨[],(aR _).symm⟩
 |p::a,M=>by obtain⟨t,e⟩:=Ei a (uL p M).2;obtain⟨b,e'⟩:=Af p.2 M;show∃t,(kj a (uL p M).2).2=M++t;rw[e];show∃s,((jY p.2 M).2++[aa (.lst (jY p.2 M).1)])++t=M++s;rw[e',aX,aX];exact⟨_,rfl⟩
def BZ{β:Type}{a b:List β}{k:Nat}(h:k<a.length):(a++b)[k]?=a[k]?:=bB h
set_option tactic.hygienic true in
theorem KY:∀(rs:List Rw) (M:Ms),KW (jY rs M).2 M.length rs (jY rs M).1 (jY rs M).2.length
 |[],M=>⟨rfl,rfl⟩
 |r::rs,M=>by
  have a:=KY rs (uP r M).2;refine⟨(uP r M).1,(jY rs (uP r M).2).1,rfl,?_⟩;have lst:∀(x:aB×List D),uP r M=(.tup [.str x.1,.loc M.length],M++[aa (.lst x.2)])->(uP r M).1=.tup [.str x.1,.loc M.length]/\(jY (r::rs) M).2[M.length]?=aa (aa (.lst x.2))/\KW (jY (r::rs) M).2 (M.length+1) rs (jY rs (uP r M).2).1 (jY (r::rs) M).2.length:=λx e=>by
   have e2:(uP r M).2=M++[aa (.lst x.2)]:=by rw[e]
   refine⟨by rw[e],?_,?_⟩
   .obtain⟨t,b⟩:=Af rs (uP r M).2;show(jY rs (uP r M).2).2[M.length]?=_;rw[b,e2,BZ (by rw[aD];show _<_+1;lia),cz (aC _),gA];rfl
   .have e3:(uP r M).2.length=M.length+1:=by rw[e2,aD];rfl
    rw[e3] at a;exact a
  cases r;case numbers ns=>exact lst (ew,ns.map .int) rfl
  case table ns=>exact lst (el,ns.map .str) rfl
  all_goals exact⟨rfl,a⟩
theorem Ws.mono{M M':Ms}:∀{c:List (aB×List Rw)} {a b:Nat} {ds:List D},Ws M a c ds b->(∀k,a<=k->k<b->M'[k]?=M[k]?)->a<=b/\Ws M' a c ds b
 |[],a,b,ds,h,_=>⟨by rw[h.2];exact aC _,h⟩
 |p::c,a,b,ds,h,e=>by obtain⟨i,m,k,e1,f,n,g⟩:=h;have o:=f.le;have r:=(Ws.mono (M':=M) g λ_ _ _=>rfl).1;obtain⟨_,q⟩:=Ws.mono g λj a1 a2=>e j (by lia) a2;exact⟨by lia,i,m,k,e1,f.mono λj a1 a2=>e j a1 (by lia),by rw[e k o (by lia)];exact n,q⟩
theorem Ge:∀(a:List (aB×List Rw)) (M:Ms),Ws (kj a M).2 M.length a (kj a M).1 (kj a M).2.length
 |[],M=>⟨rfl,rfl⟩
 |p::a,M=>by
  have c:=Ge a (uL p M).2;obtain⟨t,e⟩:=Ei a (uL p M).2;have f:=KY p.2 M;have b:(uL p M).2=(jY p.2 M).2++[aa (.lst (jY p.2 M).1)]:=rfl;have g:(uL p M).2.length=(jY p.2 M).2.length+1:=by rw[b,aD];rfl
  refine⟨(kj a (uL p M).2).1,(jY p.2 M).1,(jY p.2 M).2.length,rfl,?_,?_,?_⟩
  .refine f.mono λk _ h=>?_;show(kj a (uL p M).2).2[k]?=_;rw[e,BZ (by lia),b,BZ h]
  .show(kj a (uL p M).2).2[_]?=_;rw[e,BZ (by lia),b,cz (aC _),gA];rfl
  .rw[g] at c;exact c
def O6(M:Ms)(n:Nat)(ns:List Int):(ns.map D.int).map (wH M n)=ns.map D.int:=by rw[bd];congr 1;funext i;cases n<;>rfl
def O7(M:Ms)(n:Nat)(ns:List aB):(ns.map D.str).map (wH M n)=ns.map D.str:=by rw[bd];congr 1;funext i;cases n<;>rfl
set_option tactic.hygienic true in
def VI(M:Ms)(n:Nat)(r:Rw):wH M (n+2) r.d=r.d:=by
 cases r;case numbers ns=>
  show D.tup [.str ew,.lst ((ns.map D.int).map (wH M n))]=_;rw[O6];rfl
 case table ns=>
  show D.tup [.str el,.lst ((ns.map D.str).map (wH M n))]=_;rw[O7];rfl
 all_goals rfl
def Ej{M:Ms}{k:Nat}{o:OD}(h:M[k]?=aa (aa o)):vw M (.loc k)=o.toD:=by show Xi k M[k]?=_;rw[h];rfl
def Nt{M:Ms}{k n:Nat}{es:List D}(h:M[k]?=aa (aa (.lst es))):wH M (n+1) (.loc k)=.lst (es.map (wH M n)):=by show(match vw M (.loc k) with|.lst ds=>D.lst (ds.map (wH M n))|.tup ds=>.tup (ds.map (wH M n))|z=>z)=_;rw[Ej h];rfl
set_option tactic.hygienic true in
theorem B0{M:Ms}{n:Nat}:∀{rs:List Rw} {a b:Nat} {ds:List D},KW M a rs ds b->ds.map (wH M (n+2))=rs.map Rw.d
 |[],a,b,ds,h=>by rw[h.1];rfl
 |r::rs,a,b,ds,h=>by
  obtain⟨d,c,rfl,h⟩:=h;rw[aZ,aZ];cases r;case numbers ns=>
   rw[B0 h.2.2,h.1];show D.tup [.str ew,wH M (n+1) (.loc a)]::_=_;rw[Nt h.2.1];show D.tup [.str ew,.lst ((ns.map D.int).map (wH M n))]::_=_;rw[O6];rfl
  case table ns=>
   rw[B0 h.2.2,h.1];show D.tup [.str el,wH M (n+1) (.loc a)]::_=_;rw[Nt h.2.1];show D.tup [.str el,.lst ((ns.map D.str).map (wH M n))]::_=_;rw[O7];rfl
  all_goals rw[B0 h.2,h.1,VI]
theorem KZ{M:Ms}{n:Nat}:∀{c:List (aB×List Rw)} {a b:Nat} {ds:List D},Ws M a c ds b->ds.map (wH M (n+4))=c.map jt
 |[],a,b,ds,h=>by rw[h.1];rfl
 |p::c,a,b,ds,h=>by obtain⟨i,j,k,rfl,e,f,g⟩:=h;rw[aZ,aZ,KZ g];show D.tup [.str p.1,wH M (n+3) (.loc k)]::_=_;rw[Nt f,B0 e];rfl
def VJ(M:Ms)(n:Nat)(a:List Pt):(a.map jt).map (wH M (n+4))=a.map jt:=by rw[bd];congr 1;funext p;show D.tup [.str p.1,.lst ((p.2.map Rw.d).map (wH M (n+2)))]=jt p;rw[bd,show wH M (n+2)∘Rw.d=Rw.d from funext λr=>VI M n r];rfl
def adX{r:Rw}(h:zd r=am){x0 x1 x2 x3 a b:Option D}{E:jK}{M:Ms}(q:E.nx [x0,x1,x2,x3,a,b,aa r.d] M):rwB E [x0,x1,x2,x3,a,b,aa r.d] M:=by cases r<;>first|(cases h;done)|exact⟨_,rfl,ag rfl,_,rfl,q⟩
def Zh{x:aB}{a:Nat}{es:List D}{x0 x1 x2 x3 b c:Option D}{E:jK}{M:Ms}(f:x=ew\/x=el)(e:M[a]?=aa (aa (.lst es)))(h:es.length<=1000)
(q:E.nx [x0,x1,x2,x3,b,c,aa (.tup [.str x,.loc a])] (M.set a (aa (.lst (es++[.str "x"]))))):rwB E [x0,x1,x2,x3,b,c,aa (.tup [.str x,.loc a])] M:=by
 have ht:tyD ap (vw M (.loc a))=ai:=by rw[Ej e];rfl
 have g:es.length<az:=by rw[bD];lia
 rcases f with rfl|rfl<;>exact⟨_,rfl,ag rfl,_,rfl,_,rfl,ht,es,e,g,q⟩
theorem Ag{st:Ms->Prop}{E:jK}{k:Nat}{x0 x1 x2 x3 m n:Option D}:∀{rs:List Rw} {a:Nat} {ds:List D} {M:Ms} {o:Option D},KW M a rs ds k->(∀r∈rs,∀x,zd r=aa x->x.2.length<=1000)->
  (∀b,(∀j,k<=j->b[j]?=M[j]?)->st b)->(∀o b,b.length=M.length->(∀j,k<=j->b[j]?=M[j]?)->E.nx [x0,x1,x2,x3,m,n,o] b)->qJ (gU 6) rwB st E ds [x0,x1,x2,x3,m,n,o] M
 |[],a,ds,M,o,h,_,g,q=>by rw[h.1];exact q o M rfl λ_ _=>rfl
 |r::rs,a,ds,M,o,h,p,g,q=>by
  obtain⟨d,B,rfl,h⟩:=h;unfold qJ;have u:∀r∈rs,∀x,zd r=aa x->x.2.length<=1000:=λw y=>p w (ax _ y);cases e:zd r with
  |none=>
   rw[e] at h;obtain⟨rfl,h⟩:=h;exact adX e ⟨g M λ_ _=>rfl,Ag h u g q⟩
  |some x=>
   rw[e] at h;obtain⟨rfl,v,h⟩:=h;have le:=h.le;have i:∀j,k<=j->(M.set a (aa (.lst (x.2++[.str "x"]))))[j]?=M[j]?:=λj f=>cb (by lia);have z:x.1=ew\/x.1=el:=by cases r<;>first|(cases e;done)|(cases e;first|exact .inl rfl|exact .inr rfl)
   refine Zh z v (p r aE x e) ⟨g _ i,Ag (h.mono λj v _=>cb (by lia)) u (λb c=>g b λj f=>(c j f).trans (i j f)) λo b A c=>q o b (by rw[A,fg]) λj f=>(c j f).trans (i j f)⟩
theorem Ek{st:Ms->Prop}{E:jK}{x0 x1 x2 x3:Option D}(w:∀M,st M)(q:∀e f g i,E.nx [x0,x1,x2,x3,e,f,g] i):∀{u:List (aB×List Rw)} {a b:Nat} {ds:List D} {M:Ms} {e f g:Option D},Ws M a u ds b->(∀p∈u,∀r∈p.2,∀x,zd r=aa x->x.2.length<=1000)->
  qJ (iU 2 (gX (gU 4) (gX (gU 5) iT))) ptB st E ds [x0,x1,x2,x3,e,f,g] M
 |[],a,b,ds,M,e,f,g,h,_=>by rw[h.1];exact q _ _ _ _
 |p::u,a,b,ds,M,e,f,g,h,y=>by
  obtain⟨H,n,k,rfl,A,v,B⟩:=h;unfold qJ;refine⟨rfl,rfl,?_⟩;have z:vw M (.loc k)=.lst n:=Ej v;refine⟨n,by rw[z];rfl,rfl,?_⟩;refine Ag A (y p aE) (λi c=>?_) λo i I c=>?_
  .show vw i (.loc k)=vw M (.loc k);rw[z];exact Ej (by rw[c k (aC _)];exact v)
  .have m:i[k]?=aa (aa (.lst n)):=by rw[c k (aC _)];exact v
   refine⟨by rw[Ej m];rfl,n,m,w _,?_⟩;exact Ek w q (Ws.mono B λj a1 _=>by rw[cb (by lia)];exact c j (by lia)).2 λC G=>y C (ax _ G)
def ze{x:aB}(h:x.cps.toList.all (λc=>decide (c<0x110000))=ai):cR x=ai:=by unfold cR;rw[<-Array.all_toList];exact h
def oj{w:aB}(h:mC w=ai):cR w=ai:=by unfold mC low at h;simp only [aU] at h;refine ze ?_;rw[bG] at h |-;intro c hc;have:=h.2 c hc;simp only [aU,decide_eq_true_eq] at this |-;lia
def VL(ns:List Int):L3.Bx (ns.map D.int)=ai:=by induction ns with|nil=>rfl|cons n ns a=>rw[aZ];unfold L3.Bx;rw[a];rfl
def K0{ws:List aB}(h:ws.all mC=ai):L3.Bx (ws.map D.str)=ai:=by
 induction ws with
 |nil=>rfl
 |cons w ws a=>
  rw[dm,aU] at h;rw[aZ];unfold L3.Bx L3.pl;rw[a h.2,Bool.and_true];exact oj h.1
def VM(ns:List Int):CC (ns.map D.int)=0:=by induction ns with|nil=>rfl|cons n ns a=>rw[aZ];unfold CC;rw[a];rfl
def K1(ns:List aB):CC (ns.map D.str)=0:=by induction ns with|nil=>rfl|cons n ns a=>rw[aZ];unfold CC;rw[a];rfl
def aiS{r:Rw}(h:r.ok=ai):L3.pl r.d=ai:=by cases r<;>unfold Rw.ok at h<;>simp only [aU,decide_eq_true_eq] at h<;>simp only [Rw.d,L3.pl,L3.Bx,aU]<;>(repeat' apply And.intro);all_goals first|rfl|trivial|exact ze rfl|exact oj h|exact oj h.1|exact oj h.2|exact oj h.1.2|exact VL _|exact K0 h.2
set_option tactic.hygienic true in
def aiT(r:Rw):dp r.d<=2:=by
 cases r;case numbers ns=>show max 0 (max (CC (ns.map D.int)+1) 0)+1<=2;rw[VM];decide
 case table ns=>show max 0 (max (CC (ns.map D.str)+1) 0)+1<=2;rw[K1];decide
 all_goals exact ag rfl
def ag7{xs:List Rw}(h:∀x∈xs,x.ok=ai):L3.Bx (xs.map Rw.d)=ai/\CC (xs.map Rw.d)<=2:=by
 induction xs with
 |nil=>exact⟨rfl,bu _⟩
 |cons x xs a=>
  obtain⟨b,c⟩:=a λy e=>h y (ax _ e);rw[aZ];unfold L3.Bx CC;rw[b,aiS (h x aE)];exact⟨rfl,Nat.max_le.mpr ⟨aiT x,c⟩⟩
def ag8{p:Pt}(hw:mC p.1=ai)(a:∀r∈p.2,r.ok=ai):L3.pl (jt p)=ai/\dp (jt p)<=4:=by
 obtain⟨b,c⟩:=ag7 a;refine⟨?_,?_⟩
 .show(cR p.1&&(L3.Bx (p.2.map Rw.d)&&ai))=ai;rw[b,oj hw];rfl
 .show max 0 (max (CC (p.2.map Rw.d)+1) 0)+1<=4;lia
def VN{c:List Pt}(h:∀p∈c,mC p.1=ai/\∀r∈p.2,r.ok=ai):L3.Bx (c.map jt)=ai/\CC (c.map jt)<=4:=by
 induction c with
 |nil=>exact⟨rfl,bu _⟩
 |cons x xs e=>
  obtain⟨f,g⟩:=e λy i=>h y (ax _ i);obtain⟨a,b⟩:=h x aE;obtain⟨j,m⟩:=ag8 a b;rw[aZ];unfold L3.Bx CC;rw[f,j];exact⟨rfl,Nat.max_le.mpr ⟨m,g⟩⟩
def Wf.okp{a:List Pt}(h:Wf a):∀p∈a,mC p.1=ai/\∀r∈p.2,r.ok=ai:=λp b=>⟨(h.lk.zR.all p b).w,h.lk.rows p b⟩
def Wf.okb{c:List Pt}(h:Wf c):∀p∈ie c,mC p.1=ai/\∀r∈p.2,r.ok=ai:=λp e=>by obtain⟨x,f,rfl⟩:=bC.mp e;obtain⟨a,b⟩:=h.okp x ((kL c).mem_iff.mp f);exact⟨a,λr g=>b r (cK.mp g).1⟩
def O8{a:List Pt}(h:∀p∈a,mC p.1=ai/\∀r∈p.2,r.ok=ai):okE (.lst (a.map jt)) (.lst (a.map jt)):=by
 obtain⟨b,e⟩:=VN h;have c:dp (.lst (a.map jt))<=60:=by show CC (a.map jt)+1<=60;lia
 exact⟨b,b,c,c⟩
def VO{a:List Pt}(h:∀p∈a,mC p.1=ai/\∀r∈p.2,r.ok=ai):yq (.lst (a.map jt)) (.lst (a.map jt))=ai:=y7 _ (VN h).1
set_option tactic.hygienic true in
def Zi{r:Rw}(h:r.ok=ai){x:aB×List D}(e:zd r=aa x):x.2.length<=1000:=by
 cases r<;>first|(cases e;done)|skip
 case numbers ns=>cases e;show(ns.map D.int).length<=_;rw[ak];exact bh (of_decide_eq_true (b2 (b1 h))) (by decide)
 case table ns=>cases e;show(ns.map D.str).length<=_;rw[ak];exact bh (of_decide_eq_true (b2 (b1 h))) (by decide)
def Zj{x y a:D}{M:Ms}{Q:DK}(e1:wH M 6 x=a)(e2:wH M 6 y=a)(ok:okE a a)(h:yq a a=ai)(q:Q (.bl ao) M):YL x y M Q:=by unfold YL;rw[e1,e2,h];exact⟨ok,q⟩
def Zk{a:List Pt}{M:Ms}{Q:DK}(h:∀p∈a,mC p.1=ai/\∀r∈p.2,r.ok=ai)(q:Q (.bl ai) M):nQ (.lst (a.map jt)) (.lst (a.map jt)) M Q:=by refine⟨O8 h,?_⟩;have e:=VO h;show Q (.bl (yq (.lst (a.map jt)) (.lst (a.map jt)))) M;rw[e];exact q
set_option tactic.hygienic true in
theorem aaR{b:Br}{pl:List (aB×Pl)}{w:aB}{l:Bool}{j:Nat}:∀{rs:List Rw} {i:Nat},Bk b pl i rs=aa (w,l,j)->∃r∈rs,w∈r.AR
 |r::rs,i,h=>by
  unfold Bk at h;split at h
  .rename_i e;cases h;exact⟨r,aE,O2 e⟩
  .obtain⟨a,c,f⟩:=aaR h;exact⟨a,ax _ c,f⟩
set_option tactic.hygienic true in
theorem aaS{b:Br}{pl:List (aB×Pl)}{w n:aB}{l:Bool}{j:Nat}:∀{a:List Pt},Bl b pl a=aa (w,l,n,j)->∃p∈a,p.1=n/\∃r∈bare p.2,w∈r.AR
 |p::a,h=>by
  unfold Bl at h;split at h
  .rename_i e;cases h;exact⟨p,aE,rfl,aaR e⟩
  .obtain⟨c,f,g⟩:=aaS h;exact⟨c,ax _ f,g⟩
def ag9{c:List Pt}(ok:Wf c){w n:aB}{l:Bool}{i:Nat}(e:bad c=aa (w,l,n,i)):mC w=ai/\mC n=ai:=by obtain⟨p,f,rfl,r,g,hw⟩:=aaS e;obtain⟨a,b⟩:=ok.okp p f;exact⟨VB (b r (cK.mp g).1) w hw,a⟩
def Zl{o:Option (aB×Bool×aB×Nat)}{M:Ms}{Q:DK}(ok:okE (xD o) (xD o))(h:yq (xD o) (xD o)=ai)(q:Q (.bl ao) M):IY (xD o) (xD o) M Q:=by
 rcases o with _|⟨w,l,n,i⟩
 .exact⟨ok,q⟩
 .refine⟨ok,?_⟩;show Q (.bl (!yq (xD (aa (w,l,n,i))) (xD (aa (w,l,n,i))))) M;rw[h];exact q
def zf:GP:=λds Q=>∃a:List Pt,ds=[.lst (a.map jt)]/\Wf a/\Q (.bl ai)
def Ic:iB zf:=by
 rintro ds P Q w ⟨a,h,b,q⟩
 exact⟨a,h,b,w _ q⟩
def zg (c:CA):GP:=λds Q=>∃a:List Pt,ds=[.lst (a.map jt)]/\Wf a/\bad a=am/\Q (.lst ((ie a).map jt))
def Fg{c:CA}:iB (zg c):=by
 rintro ds P Q w ⟨a,h,b,e,q⟩
 exact⟨a,h,b,e,w _ q⟩
def Nu{c:CA}{L W:ar}:∀ds Q,zg c ds Q->Ef c L W ds Q λ_=>False:=by
 rintro ds Q ⟨a,h,b,e,q⟩
 exact⟨a,h,b,λ_=>q,λw l n i e'=>by rw[e] at e';cases e'⟩
def VP{K:af}{c:CA}:∀ds Q,zf ds Q->jl 7 1 (vB K Nq (cl VF) (cl BY) (cl y9) (cl (zg c))) ds Q:=by
 rintro ds Q ⟨a,h,ok,q⟩
 subst h;unfold vB;have pp:=@Ek;have f:=mR a;have j:=@Zk;generalize ptB=H at pp |-;generalize nQ=ge at j |-;have fn:=@Zl;generalize IY=gn at fn |-;refine⟨rfl,a,rfl,ok,λe=>?_,λb e=>?_⟩
 .have F:=Ge (ie a) [];generalize kj (ie a) []=O at F |-;obtain⟨fd,M1⟩:=O;refine⟨rfl,rfl,f,a,rfl,ok,?_⟩;rw[e];refine fn (o:=am) ⟨rfl,rfl,ag rfl,ag rfl⟩ rfl ?_;refine⟨ai,rfl,f,a,rfl,ok,?_⟩;have e1:wH M1 6 (.lst fd)=.lst ((ie a).map jt):=by show D.lst (fd.map (wH M1 5))=_;rw[KZ (n:=1) F]
  have e2:wH M1 6 (.lst ((ie a).map jt))=.lst ((ie a).map jt):=by show D.lst (((ie a).map jt).map (wH M1 5))=_;rw[VJ M1 1]
  refine Zj e1 e2 (O8 ok.okb) (VO ok.okb) ?_;refine⟨_,rfl,rfl,?_⟩;refine ke jt jt ?_ a [] (by show 0+_<=_;rw[ba];exact kK (by have:=ok.mi.l;lia)) (λx g I v=>?_) ?_
  .exact rfl
  .refine⟨rfl,rfl,_,rfl,rfl,?_⟩;refine ke Rw.d Rw.d ?_ x.2 [] (by show 0+_<=_;rw[ba];exact kK (ok.br.len x g)) (λy z A m=>?_) ?_
   .exact rfl
   .refine⟨by show(nl y.d&&ai)=ai;rw[y.Wh];rfl,y,rfl,?_,m _ rfl⟩;have h:=ok.lk.rows x g y z;cases y<;>first|trivial|exact bh (of_decide_eq_true (b2 (b1 h))) (by decide)
   .rw[bL];exact⟨ag rfl,v _ rfl⟩
  .rw[bL];refine⟨_,rfl,rfl,?_⟩;refine pp (λ_=>rfl) (λJ L M N=>?_) F λp B r C x g=>Zi ((ok.okb p B).2 r C) g;refine j ok.okp ?_;refine⟨f,a,rfl,ok,e,f,a,rfl,ok,?_⟩;refine j ok.okb ?_;exact⟨rfl,q⟩
 .refine⟨rfl,rfl,f,a,rfl,ok,?_⟩;rw[e];obtain⟨w,l,n,i⟩:=b;have hw:mC w=ai/\mC n=ai:=ag9 ok e;have u:L3.pl (xD (aa (w,l,n,i)))=ai:=by
   cases l with
   |true=>
    show(cR "lacking"&&(cR w&&(cR n&&(ai&&ai))))=ai;rw[oj hw.1,oj hw.2,ze (x:="lacking") rfl];rfl
   |false=>
    show(cR "aim"&&(cR w&&(cR n&&(ai&&ai))))=ai;rw[oj hw.1,oj hw.2,ze (x:="aim") rfl];rfl
  have E:=y7 _ u;have G:okE (xD (aa (w,l,n,i))) (xD (aa (w,l,n,i))):=⟨u,u,by cases l<;>exact ag rfl,by cases l<;>exact ag rfl⟩;refine fn G E ?_;exact⟨rfl,q⟩
abbrev Sh:=Option (aB×Bool)×Bool×Bool
noncomputable def sh(r:Rw):Sh:=(match r with|.mark w b=>aa (w,b)|_=>am,r.qf,r.code)
noncomputable def mkS(n:aB):Nat->List Sh->List Mk
 |_,[]=>[]
 |k,(aa (w,b),_)::rs=>(w,b,n,k)::mkS n k rs
 |k,(am,_)::rs=>mkS n (k+1) rs
set_option tactic.hygienic true in
theorem VQ(n:aB):∀(rs:List Rw) (k:Nat),iR n k rs=mkS n k (rs.map sh)
 |[],_=>rfl
 |r::rs,k=>by
  cases r;case mark w b=>show(w,b,n,k)::iR n k rs=(w,b,n,k)::mkS n k (rs.map sh);rw[VQ n rs k]
  all_goals exact VQ n rs (k+1)
def Ie(r:Rw):r.iy=(sh r).1.isSome:=by cases r<;>rfl
noncomputable def nS(l:List Sh):Nat:=(l.filter λx=>x.1.isSome).length
def aha(rs:List Rw):kh rs=nS (rs.map sh):=by unfold kh nS;rw[List.filter_map,ak];congr 2;funext r;exact Ie r
def VR(rs:List Rw):wG rs=(rs.map sh).length- nS (rs.map sh):=by unfold wG;rw[aha,ak]
noncomputable def fS:List Sh->Option Sh
 |[]=>am
 |r::rs=>if r.1.isSome then fS rs else aa r
theorem ahb:∀rs:List Rw,(jy rs).map sh=fS (rs.map sh)
 |[]=>rfl
 |r::rs=>by
  show(if r.iy then jy rs else aa r).map sh=if(sh r).1.isSome then fS (rs.map sh) else aa (sh r);rw[Ie r];cases(sh r).1.isSome with
  |true=>exact ahb rs
  |false=>rfl
noncomputable def eS:List Sh->Bool
 |[]=>ai
 |r::rs=>(!r.2.1||((fS rs).map λx=>x.2.2).getD ao)&&(!r.1.isSome||(fS rs).isSome)&&eS rs
theorem adY:∀rs:List Rw,mS rs=eS (rs.map sh)
 |[]=>rfl
 |r::rs=>by show((!r.qf||BI (jy rs))&&(!r.iy||(jy rs).isSome)&&mS rs)=((!r.qf||((fS (rs.map sh)).map λx=>x.2.2).getD ao)&&(!(sh r).1.isSome||(fS (rs.map sh)).isSome)&&eS (rs.map sh));rw[<-ahb,adY rs,Ie r];cases jy rs<;>rfl
abbrev gS(p:Pt):aB×List Sh:=(p.1,p.2.map sh)
def Sm (a b:List Pt):Prop:=b.map gS=a.map gS
def Sm.sort{a b:List Pt}(h:Sm a b):Sm (mI a) (mI b):=by
 have e:b.map aY=a.map aY:=by have:=congrArg (gC aY) h;rw[bd,bd] at this;exact this
 show(jL (b.map aY) b).map gS=(jL (a.map aY) a).map gS;rw[<-wg,<-wg,e,h]
def B1(a:List Pt):(a.flatMap λp=>iR p.1 0 p.2)=(a.map gS).flatMap λx=>mkS x.1 0 x.2:=by rw[List.flatMap_map];congr 1;funext p;exact VQ p.1 p.2 0
def Sm.mi{a b:List Pt}(h:Sm a b):iw b=iw a:=by show((mI b).flatMap λp=>iR p.1 0 p.2)=(mI a).flatMap λp=>iR p.1 0 p.2;rw[B1,B1,h.sort]
theorem Sm.Lj{a b:List Pt}(h:Sm a b):Lj b=Lj a:=by show(b.flatMap λp=>iR p.1 0 p.2)=a.flatMap λp=>iR p.1 0 p.2;rw[B1,B1,h]
def Sm.mem{a b:List Pt}(h:Sm a b){q:Pt}(c:q∈b):∃p∈a,gS q=gS p:=by
 have:gS q∈a.map gS:=by rw[<-h];exact bC.mpr ⟨q,c,rfl⟩
 obtain⟨p,f,e⟩:=bC.mp this;exact⟨p,f,e.symm⟩
def Sm.len{a b:List Pt}(h:Sm a b):b.length=a.length:=by have:=congrArg f8 h;rw[ak,ak] at this;exact this
def Sm.lk{c b:List Pt}(h:Sm c b)(k:QJ c)(ok:∀p∈b,∀r∈p.2,r.ok=ai):QJ b:=by
 have e1:b.map aY=c.map aY:=by have:=congrArg (gC aY) h;rw[bd,bd] at this;exact this
 have j:∀f:List Sh->Int,(b.map λp=>f (p.2.map sh))=c.map λp=>f (p.2.map sh):=λf=>by have:=congrArg (gC λx:aB×List Sh=>f x.2) h;rw[bd,bd] at this;exact this
 refine⟨⟨by rw[h.len];exact k.zR.lo,by rw[h.len];exact k.zR.hi,λq g=>?_,by rw[e1];exact k.zR.nd,?_,?_⟩,ok,λq g=>?_⟩
 .obtain⟨p,i,e⟩:=h.mem g;have a:=k.zR.all p i;have en:q.1=p.1:=congrArg (λx:aB×List Sh=>x.1) e;have es:q.2.map sh=p.2.map sh:=congrArg (λx:aB×List Sh=>x.2) e;have m:q.2.length=p.2.length:=by have:=congrArg f8 es;rw[ak,ak] at this;exact this
  exact⟨by rw[en];exact a.w,by rw[VR,es,<-VR];exact a.lo,by rw[VR,es,<-VR];exact a.hi,by rw[m];exact a.len⟩
 .have:=j λl=>((l.length- nS l:Nat):Int);simp only [<-VR] at this;rw[this];exact k.zR.rows
 .have:=j λl=>((nS l:Nat):Int);simp only [<-aha] at this;rw[this];exact k.zR.marks
 .obtain⟨p,i,e⟩:=h.mem g;have es:q.2.map sh=p.2.map sh:=congrArg (λx:aB×List Sh=>x.2) e;rw[adY,es,<-adY];exact k.ends p i
def adZ{a:List Pt}(nd:(a.map aY).Nodup):∀p∈a,iI p.1 (ie a)=aa (bare p.2):=λp c=>by have b:=kL a;refine mL ?_ (bC.mpr ⟨p,b.mem_iff.mpr c,rfl⟩);unfold ie;rw[bd];exact(b.map aY).nodup_iff.mpr nd
set_option tactic.hygienic true in
theorem VS{n w:aB}{b:Bool}{p:Pl}:∀{rs:List Rw} {k:Nat},HX rs->(w,b,p)∈iR n k rs->∃i a,p=(n,k+i)/\(bare rs)[i]?=aa a
 |[],k,_,h=>by cases h
 |r::rs,k,hn,h=>by
  cases hm:r.iy with
  |false=>
   rw[lh hm] at h;obtain⟨i,a,e,f⟩:=VS (BX hn) h;refine⟨i+1,a,by rw[e,show k+1+i=k+(i+1) by lia],?_⟩;unfold bare;rw[du,if_pos (by rw[hm];rfl)];exact f
  |true=>
   cases r<;>first|cases hm|skip
   rename_i g j;rcases aN.mp h with e|h
   .cases e;have c:=hn 0 w b rfl;cases e:bare rs with
    |nil=>exact absurd e c
    |cons a as=>exact⟨0,a,rfl,by show(bare rs)[0]?=_;rw[e];rfl⟩
   .obtain⟨i,a,e,f⟩:=VS (BX hn) h;exact⟨i,a,e,f⟩
def VT{c:List Pt}(lk:QJ c)(ml:(iw c).length<=1000)(tw:Ut (iw c))(nm:((Lj c).map aY).Nodup):Wf c:=by have hb:=adZ lk.zR.nd;refine⟨lk,ml,tw,λw p e=>?_,hb,nm⟩;have nd:((iw c).map aY).Nodup:=(Wf.Eh.map aY).nodup_iff.mpr nm;have e':iI w (placesOf (iw c))=aa p:=e;rw[z8 nd,Vn nd] at e';obtain⟨m,hm,j⟩:=bC.mp (zS e');obtain⟨q,h,g⟩:=dz.mp (Wf.Eh.mem_iff.mp hm);obtain⟨n,b,o⟩:=m;cases j;obtain⟨i,a,e1,f⟩:=VS (O5 (lk.ends q h)) g;subst e1;refine⟨a,?_⟩;unfold Uw;rw[show iI (q.1,0+i).1 (ie c)=aa (bare q.2) from hb q h];show(bare q.2)[0+i]?=_;rw[ba];exact f
def Sm.wf{b a:List Pt}(h:Sm b a)(k:Wf b)(ok:∀p∈a,∀r∈p.2,r.ok=ai):Wf a:=
 VT (h.lk k.lk ok) (by rw[h.mi];exact k.ml) (by rw[h.mi];exact k.tw) (by rw[h.Lj];exact k.nm)
def Zm{a:List (List Bn)}(o:HI a):Wf (prog a):=by have h:=Y6 o;exact VT h.lk h.ml h.tw (by rw[show Lj (prog a)=RU a.zipIdx from OX _ _ _ _];exact OY a)
def VU{a:List Pt}(nd:(a.map aY).Nodup):FJ.mI a.reverse=FJ.mI a:=by
 have b:∀l:List Pt,(l.map aY).zip l=l.map λp=>(p.1,p):=λl=>by
  induction l with
  |nil=>rfl
  |cons x l c=>rw[aZ,ck,c];rfl
 unfold FJ.mI jL;congr 1;refine L3.BB (key:=aY) ((L3.p7 _ _).trans ?_) (L3.xk _ _) (AI nd);rw[b,b];exact(List.reverse_perm a).map _
def O9(l:List Int):l.reverse.sum=l.sum:=by
 induction l with
 |nil=>rfl
 |cons x l a=>rw[fF,List.sum_append,a];simp;lia
def ad0{a:List Pt}(h:Wf a):Wf a.reverse:=by
 have m:∀{p:Pt},p∈a.reverse->p∈a:=λh=>List.mem_reverse.mp h;have mi:iw a.reverse=iw a:=by show(mI a.reverse).flatMap _=_;rw[VU h.lk.zR.nd];rfl
 have mp:(Lj a.reverse).Perm (Lj a):=(List.reverse_perm a).flatMap_right _;refine VT ⟨⟨by rw[List.length_reverse];exact h.lk.zR.lo,by rw[List.length_reverse];exact h.lk.zR.hi,λp b=>h.lk.zR.all p (m b),by rw[ajq];exact(List.reverse_perm _).nodup_iff.mpr h.lk.zR.nd,by rw[ajq,O9];exact h.lk.zR.rows,by rw[ajq,O9];exact h.lk.zR.marks⟩,λp b=>h.lk.rows p (m b),λp b=>h.lk.ends p (m b)⟩ (by rw[mi];exact h.ml) (by rw[mi];exact h.tw) ((mp.map aY).nodup_iff.mpr h.nm)
def Ig:GP:=λds Q=>∃(r:Rw) (ns:List aB) (x:Int),ds=[r.d,.lst (ns.map .str),.int x]/\r.ok=ai/\(∀n∈ns,mC n=ai)/\ns.length<=1000/\∀a:Rw,a.ok=ai->sh a=sh r->Q a.d
def K2:iB Ig:=by
 rintro ds P Q w ⟨r,ns,x,h,c,e,f,q⟩
 exact⟨r,ns,x,h,c,e,f,λg a b=>w _ (q g a b)⟩
def B2(x:Int){n:Nat}(h:0<n):∃k:Nat,x%(n:Int)=(k:Int)/\k<n:=by have a:=gp x (show(n:Int)≠0 by lia);have b:=fu x (show(0:Int)<n by lia);exact⟨(x%n).toNat,by lia,by lia⟩
def ad1{r:Option D}{ns:List aB}{x:Int}{c:nC}{M:Ms}{Q:DK}(hn:∀n∈ns,mC n=ai)(j:ns.length<=1000)(q:∀nm,mC nm=ai->Q (.str nm) M):exH (r::aa (.lst (ns.map .str))::aa (.int x)::c) M Q:=by
 obtain⟨k,e1,e2⟩:=B2 (x/7) (n:=1+ns.length) (by lia);have e:∃nm,(ns++[("zzz":aB)])[k]?=aa nm/\mC nm=ai:=by
  have a:k<(ns++[("zzz":aB)]).length:=by rw[aD];show k<_+1;lia
  refine⟨(ns++[("zzz":aB)])[k],ay a,?_⟩;rcases bj.mp (fU a) with h|h
  .exact hn _ h
  .rw[bp.mp h];decide+kernel
 obtain⟨nm,f,g⟩:=e;have b:(ns.map D.str).length=ns.length:=ak _;have i:wL (ns.map D.str++[D.str "zzz"]) (x/7%(1+(ns.length:Int)))=aa (.str nm):=by
  rw[show(1+(ns.length:Int))=((1+ns.length:Nat):Int) by lia,e1];refine kJ ?_;have:ns.map D.str++[D.str "zzz"]=(ns++[("zzz":aB)]).map D.str:=by rw[aM];rfl
  rw[this,bn,f];rfl
 refine⟨ag rfl,by rw[b,bD];show _+1<=_;lia,⟨by decide,by decide⟩,ns.length,congrArg aa b,by show(0:Int)<1+(ns.length:Int);lia,_,i,q nm g⟩
set_option tactic.hygienic true in
def Zn:∀ds Q,Ig ds Q->jl 5 3 oZ ds Q:=by
 rintro ds Q ⟨r,ns,x,h,ok,hn,m,q⟩
 subst h;unfold oZ;have f:=@ad1;generalize exH=ex at f |-;refine⟨rfl,f hn m λnm hw=>?_⟩;cases r;case jump w=>
  walk_at "d";refine⟨λh=>absurd h.2 (show¬HT.oQ 2 2 (aa (-1))=2 by decide),ag rfl,dw _ _,ag rfl,?_⟩;exact⟨rfl,q (.jump nm) hw rfl⟩
 case jumpif b w=>
  walk_at "d";refine⟨λh=>absurd h.2 (show¬HT.oQ 3 3 (aa (-1))=3 by decide),ag rfl,dw _ _,ag rfl,?_⟩;exact⟨rfl,q (.jumpif b nm) (by show(qT b&&mC nm)=ai;rw[b1 ok,hw];rfl) rfl⟩
 case call w=>
  walk_at "d";refine⟨λh=>absurd h.2 (show¬HT.oQ 2 2 (aa (-1))=2 by decide),ag rfl,dw _ _,ag rfl,?_⟩;exact⟨rfl,q (.call nm) hw rfl⟩
 case load b c w=>
  walk_at "d";refine⟨λh=>absurd h.2 (show¬HT.oQ 4 4 (aa (-1))=4 by decide),ag rfl,dw _ _,ag rfl,?_⟩;exact⟨rfl,q (.load b c nm) (by show(qT b&&qT c&&mC nm)=ai;rw[b1 ok,hw];rfl) rfl⟩
 case jumpby b w=>
  walk_at "d";refine⟨λh=>absurd h.2 (show¬HT.oQ 3 3 (aa (-1))=3 by decide),ag rfl,dw _ _,ag rfl,?_⟩;exact⟨rfl,q (.jumpby b nm) (by show(qT b&&mC nm)=ai;rw[b1 ok,hw];rfl) rfl⟩
 case alike b w v=>
  have g:=b1 (b1 ok);have o:=b2 (b1 ok);have p:=b2 ok;rcases Int.emod_two_eq x with e|e
  .walk_at "d";refine⟨show(0:Int)<2 by decide,?_⟩;dsimp only;rw[e];walk_at "d";refine⟨λh=>absurd h.2 (show¬HT.oQ 4 4 (aa 2)=4 by decide),?_⟩;walk_at "d";refine⟨dw _ _,ag rfl,?_⟩;exact⟨rfl,q (.alike b nm v) (by show(qT b&&mC nm&&mC v)=ai;rw[g,hw,p];rfl) rfl⟩
  .walk_at "d";refine⟨show(0:Int)<2 by decide,?_⟩;dsimp only;rw[e];walk_at "d";refine⟨λh=>absurd h.2 (show¬HT.oQ 4 4 (aa 3)=4 by decide),?_⟩;walk_at "d";refine⟨dw _ _,ag rfl,?_⟩;exact⟨rfl,q (.alike b w nm) (by show(qT b&&mC w&&mC nm)=ai;rw[g,hw,o];rfl) rfl⟩
 case numbers ms=>
  walk_at "d";exact⟨(Rw.numbers ms).Wh,q _ ok rfl⟩
 case table ws=>
  have u:=of_decide_eq_true (b1 (b1 ok));have y:=of_decide_eq_true (b2 (b1 ok));have i:=b2 ok;have B:(ws.map D.str).length=ws.length:=ak _;obtain⟨k,e1,e2⟩:=B2 x (n:=(ws.map D.str).length) (by lia);have z:cutD (ws.map D.str) am (aa (k:Int))=(ws.take k).map D.str:=by rw[Mm,ajh]
  have j:cutD (ws.map D.str) (aa ((k:Int)+1)) am=(ws.drop (k+1)).map D.str:=by rw[show(k:Int)+1=((k+1:Nat):Int) by lia,vj,eZ]
  have A:nl (.tup [.str el,.lst ((ws.take k).map D.str++[.str nm]++(ws.drop (k+1)).map D.str)])=ai/\Q (.tup [.str el,.lst ((ws.take k).map D.str++[.str nm]++(ws.drop (k+1)).map D.str)]):=by
   have e:(ws.take k).map D.str++[.str nm]++(ws.drop (k+1)).map D.str=(ws.take k++[nm]++ws.drop (k+1)).map D.str:=by rw[aM,aM];rfl
   rw[e];have ln:(ws.take k++[nm]++ws.drop (k+1)).length=ws.length:=by rw[aD,aD,bW,dn];show min k ws.length+1+_=_;lia
   refine⟨C8 qg,q (.table (ws.take k++[nm]++ws.drop (k+1))) ?_ rfl⟩;show(decide (1<=(ws.take k++[nm]++ws.drop (k+1)).length)&&decide ((ws.take k++[nm]++ws.drop (k+1)).length<=60)&&(ws.take k++[nm]++ws.drop (k+1)).all mC)=ai;rw[ln,decide_eq_true u,decide_eq_true y];refine bG.mpr λw a=>?_;rcases bj.mp a with h|h
   .rcases bj.mp h with h|h
    .exact bG.mp i w (ajL h)
    .rw[bp.mp h];exact hw
   .exact bG.mp i w (ajM h)
  walk_at "d";refine⟨show(0:Int)<((ws.map D.str).length:Int) by lia,?_⟩;dsimp only;rw[e1];refine⟨_,rfl,_,rfl,ag rfl,?_⟩;rw[z];refine⟨by rw[ak,bW,bD];show min _ _+1<=_;lia,_,rfl,?_⟩;refine⟨?_,ag rfl,?_⟩
  .show((ws.take k).map D.str++[D.str nm]).length+(cutD (ws.map D.str) (aa ((k:Int)+1)) am).length<=az;rw[j,aD,ak,ak,bW,dn,bD];show min _ _+1+_<=_;lia
  show nl (.tup [.str el,.lst ((ws.take k).map D.str++[.str nm]++cutD (ws.map D.str) (aa ((k:Int)+1)) am)])=ai/\Q (.tup [.str el,.lst ((ws.take k).map D.str++[.str nm]++cutD (ws.map D.str) (aa ((k:Int)+1)) am)]);rw[j];exact A
 all_goals
  walk_at "d";first|exact q _ ok rfl|exact⟨rfl,q _ ok rfl⟩|exact⟨Rw.Wh _,q _ ok rfl⟩
def VW{ws:List aB}{M:Ms}{Q:DK}(h:∀w∈ws,mC w=ai)(q:Q (.bl (!ws.isEmpty)) M):IY (.lst (ws.map .str)) (.lst []) M Q:=by
 have a:L3.Bx (ws.map D.str)=ai:=K0 (bG.mpr h);have b:dp (.lst (ws.map D.str))<=60:=by show CC (ws.map D.str)+1<=60;rw[K1];decide
 refine⟨⟨a,rfl,b,ag rfl⟩,?_⟩;cases ws<;>exact q
def Pb(n:Nat):A8 0 n=(bY n).map λ(i:Nat)=>D.int i:=by unfold A8;congr 1;funext i;rw[Int.zero_add]
noncomputable def ad2(rs:List Rw):List Nat:=(bY rs.length).filter λj=>!((rs[j]?.map Rw.AR).getD []).isEmpty
def vD:GP:=λds Q=>∃(a:List Pt) (ns:List aB) (x:Int),ds=[.lst (a.map jt),.lst (ns.map .str),.int x]/\Wf a/\(∀n∈ns,mC n=ai)/\ns.length<=1000/\∀b,Wf b->Q (.lst (b.map jt))
def Fh:iB vD:=by
 rintro ds P Q w ⟨b,ns,x,h,c,e,f,q⟩
 exact⟨b,ns,x,h,c,e,f,λg a=>w _ (q g a)⟩
def ad3{b:List Pt}{a k:Nat}{p:Pt}{r c:Rw}(ha:b[a]?=aa p)(f:p.2[k]?=aa r)(e:sh c=sh r):Sm b (b.take a++[(p.1,p.2.take k++[c]++p.2.drop (k+1))]++b.drop (a+1)):=by
 have e1:b=b.take a++[p]++b.drop (a+1):=by rw[aX];show b=b.take a++p::b.drop (a+1);rw[<-(au.mp ha).2,ej,fQ]
 have e2:p.2=p.2.take k++[r]++p.2.drop (k+1):=by rw[aX];show p.2=p.2.take k++r::p.2.drop (k+1);rw[<-(au.mp f).2,ej,fQ]
 unfold Sm;conv=>rhs;rw[e1]
 rw[aM,aM,aM,aM];congr 2;show[(p.1,(p.2.take k++[c]++p.2.drop (k+1)).map sh)]=[(p.1,p.2.map sh)];conv=>rhs;rw[e2]
 rw[aM,aM,aM,aM];show[(p.1,(p.2.take k).map sh++[sh c]++_)]=_;rw[e];rfl
def ad4{e:List Pt}{a k:Nat}{p:Pt}{g:Rw}(h:∀p∈e,∀r∈p.2,r.ok=ai)(ha:e[a]?=aa p)(i:g.ok=ai):∀q∈e.take a++[(p.1,p.2.take k++[g]++p.2.drop (k+1))]++e.drop (a+1),∀r∈q.2,r.ok=ai:=by
 intro q b r f;rcases bj.mp b with b|b
 .rcases bj.mp b with b|b
  .exact h q (ajL b) r f
  .rw[bp.mp b] at f;rcases bj.mp f with c|c
   .rcases bj.mp c with c|c
    .exact h p (aS ha) r (ajL c)
    .rw[bp.mp c];exact i
   .exact h p (aS ha) r (ajM c)
 .exact h q (ajM b) r f
def Rt:∀ds Q,vD ds Q->jl 9 3 (uj (cl Eg) (cl Ig)) ds Q:=by
 rintro ds Q ⟨b,ns,x,h,ok,hn,I,q⟩
 subst h;unfold uj;have fn:=@VW;generalize IY=gn at fn |-;have J:(b.map jt).length=b.length:=ak _;obtain⟨a,a1,a2⟩:=B2 x (n:=b.length) ok.lk.zR.lo;obtain⟨p,v⟩:∃p,b[a]?=aa p:=⟨_,ay a2⟩;have f:=aS v;have L:=ok.lk.zR.hi;have M:=ok.br.len p f;have er:(p.2.map Rw.d).length=p.2.length:=ak _;refine⟨rfl,b.length,congrArg aa J,show(0:Int)<(b.length:Int) by have:=ok.lk.zR.lo;lia,?_⟩;dsimp only;rw[a1];refine⟨jt p,kJ (by rw[bn,v];rfl),rfl,rfl,p.2.length,congrArg aa er,⟨?_,?_⟩,trivial,?_⟩
 .omega
 .omega
 rw[fN,Pb];refine kg (λi:Nat=>D.int i) (λi:Nat=>D.int i) (λj=>!((p.2[j]?.map Rw.AR).getD []).isEmpty) ?_ (bY p.2.length) [] (by show 0+_<=_;rw[ba,dL];exact kK M) (λj N Kk O=>?_) ?_
 .exact trivial
 .obtain⟨r,g⟩:∃r,p.2[j]?=aa r:=⟨_,ay (fD.mp N)⟩;have m:=ok.lk.rows p f r (aS g);refine⟨r.d,kJ (by rw[bn,g];rfl),by show(nl r.d&&ai)=ai;rw[r.Wh];rfl,r,rfl,bu _,?_⟩;refine fn (VB m) ?_;have:=O _ (show Bs [am,aa 5] [aa (.int j),aa (.lst (p.2.map Rw.d))]=_ from rfl);rw[g] at this;cases hc:(r.AR.isEmpty) with
  |true=>rw[show((aa r).map Rw.AR).getD []=r.AR from rfl,hc] at this;exact this
  |false=>rw[show((aa r).map Rw.AR).getD []=r.AR from rfl,hc] at this;exact this
 .rw[bL];have T:(bY p.2.length).filter (λj=>!((p.2[j]?.map Rw.AR).getD []).isEmpty)=ad2 p.2:=rfl;rw[T];have u:∀k∈ad2 p.2,k<p.2.length:=λk w=>fD.mp (cK.mp w).1;generalize ad2 p.2=U at u;have E:=@aaN;generalize EK=ge at E |-;refine⟨bu _,E rfl ?_⟩;cases U with
  |nil=>exact⟨nI b,q b ok⟩
  |cons c e=>
   have y:(((c::e).map λi:Nat=>D.int i)).length=(c::e).length:=ak _;obtain⟨j,Y,j2⟩:=B2 (x/5) (n:=(c::e).length) (Nat.succ_pos _);obtain⟨k,w⟩:∃k,(c::e)[j]?=aa k:=⟨_,ay j2⟩;have z:=u k (aS w);obtain⟨r,g⟩:∃r,p.2[k]?=aa r:=⟨_,ay z⟩;have m:=ok.lk.rows p f r (aS g);have c1:cutD (p.2.map Rw.d) am (aa (k:Int))=(p.2.take k).map Rw.d:=by rw[Mm,ajh]
   have G:cutD (p.2.map Rw.d) (aa ((k:Int)+1)) am=(p.2.drop (k+1)).map Rw.d:=by rw[show(k:Int)+1=((k+1:Nat):Int) by lia,vj,eZ]
   have A:cutD (b.map jt) am (aa (a:Int))=(b.take a).map jt:=by rw[Mm,ajh]
   have H:cutD (b.map jt) (aa ((a:Int)+1)) am=(b.drop (a+1)).map jt:=by rw[show(a:Int)+1=((a+1:Nat):Int) by lia,vj,eZ]
   have ea:wL ((c::e).map λi:Nat=>D.int i) (x/5%(((c::e).length:Nat):Int))=aa (.int k):=by rw[Y];exact kJ (by rw[bn,w];rfl)
   refine⟨⟨by decide,by decide⟩,(c::e).length,congrArg aa y,show(0:Int)<(((c::e).length:Nat):Int) by rw[aQ];lia,.int k,ea,?_⟩;refine⟨r.d,kJ (by rw[bn,g];rfl),⟨by decide,by decide⟩,?_,r,ns,x/60,rfl,m,hn,I,λo B C=>⟨ag rfl,?_⟩⟩
   .show(nl r.d&&(lN (ns.map D.str)&&(ai&&ai)))=ai;rw[r.Wh,qg];rfl
   rw[c1];refine⟨by rw[ak,bW,bD];show min _ _+1<=_;lia,?_⟩;refine⟨?_,?_⟩
   .show((p.2.take k).map Rw.d++[o.d]).length+(cutD (p.2.map Rw.d) (aa ((k:Int)+1)) am).length<=az;rw[G,aD,ak,ak,bW,dn,bD];show min _ _+1+_<=_;lia
   refine⟨ag rfl,ag rfl,?_⟩;refine⟨?_,?_⟩
   .show(cutD (b.map jt) am (aa (a:Int))).length+1<=az;rw[A,ak,bW,bD];lia
   refine⟨?_,?_⟩
   .show(cutD (b.map jt) am (aa (a:Int))++[_]).length+(cutD (b.map jt) (aa ((a:Int)+1)) am).length<=az;rw[A,H,aD,ak,ak,bW,dn,bD];show min _ _+1+_<=_;lia
   show nl (.lst (cutD (b.map jt) am (aa (a:Int))++[.tup [.str p.1,.lst ((p.2.take k).map Rw.d++[o.d]++cutD (p.2.map Rw.d) (aa ((k:Int)+1)) am)]]++cutD (b.map jt) (aa ((a:Int)+1)) am))=ai/\Q (.lst (cutD (b.map jt) am (aa (a:Int))++[.tup [.str p.1,.lst ((p.2.take k).map Rw.d++[o.d]++cutD (p.2.map Rw.d) (aa ((k:Int)+1)) am)]]++cutD (b.map jt) (aa ((a:Int)+1)) am));have ee:(cutD (b.map jt) am (aa (a:Int))++[D.tup [.str p.1,.lst ((p.2.take k).map Rw.d++[o.d]++cutD (p.2.map Rw.d) (aa ((k:Int)+1)) am)]]++cutD (b.map jt) (aa ((a:Int)+1)) am)=(b.take a++[(p.1,p.2.take k++[o]++p.2.drop (k+1))]++b.drop (a+1)).map jt:=by rw[G,A,H,aM,aM];congr 2;show _=[D.tup [.str p.1,.lst ((p.2.take k++[o]++p.2.drop (k+1)).map Rw.d)]];rw[aM,aM];rfl
   rw[ee];exact⟨nI _,q _ ((ad3 v g C).wf ok (ad4 ok.lk.rows v B))⟩
noncomputable def mn:Rw->aB
 |.mark w _=>w
 |_=>""
noncomputable def mnR(rs:List Rw):List aB:=(rs.filter Rw.iy).map mn
noncomputable def Wu(a:List Pt):List aB:=a.flatMap λp=>mnR p.2
theorem Pc:∀a:List Pt,((Wu a).length:Int)=(a.map λp=>(kh p.2:Int)).sum
 |[]=>rfl
 |p::a=>by have b:=Pc a;unfold Wu at*;rw[df,aD,aZ,List.sum_cons,<-b];unfold mnR kh;rw[ak];lia
def ahd{a:List Pt}(h:∀p∈a,∀r∈p.2,r.ok=ai):∀n∈Wu a,mC n=ai:=λn hn=>by
 obtain⟨p,b,c⟩:=dz.mp hn;obtain⟨r,f,e⟩:=bC.mp c;obtain⟨g,i⟩:=cK.mp f;have:=h p b r g;cases r<;>first|(cases i;done)|skip
 rw[<-e];exact this
def wB:GP:=λds Q=>∃a:List Pt,ds=[.lst (a.map jt)]/\Wf a/\∀ns:List aB,(∀n∈ns,mC n=ai)->ns.length<=1000->Q (.lst (ns.map .str))
def Ih:iB wB:=by
 rintro ds P Q w ⟨c,h,e,q⟩
 exact⟨c,h,e,λns a b=>w _ (q ns a b)⟩
set_option tactic.hygienic true in
def VX:∀ds Q,wB ds Q->jl 4 1 ql ds Q:=by
 rintro ds Q ⟨a,h,ok,q⟩
 subst h;have ml:(Wu a).length<=1000:=by have:=Pc a;have:=ok.lk.zR.marks;lia
 refine⟨rfl,bu _,_,rfl,rfl,?_⟩;refine i8 jt (λpre xs f M=>a=pre++xs/\M=[]/\∃(g i:Option D),f=[aa (.lst (a.map jt)),aa (.lst ((Wu pre).map .str)),g,i]) (λ_ _ _ _ _=>rfl) a [] _ _ ⟨rfl,rfl,am,am,rfl⟩ (λpre p xs f M h N j=>?_) (λpre f M h=>?_)
 .obtain⟨c,rfl,g,i,rfl⟩:=h;have m:p∈a:=by rw[c];simp
  refine⟨rfl,rfl,_,rfl,rfl,?_⟩;refine kg Rw.d (λr=>D.str (mn r)) Rw.iy ?_ p.2 [] (by show 0+_<=_;rw[ba];exact kK (ok.br.len p m)) (λy o n e=>?_) ?_
  .exact rfl
  .cases y;case mark w b=>exact⟨_,rfl,_,rfl,e _ rfl⟩
   all_goals exact⟨_,rfl,e _ rfl⟩
  .rw[bL];have e1:(p.2.filter Rw.iy).map (λr=>D.str (mn r))=(mnR p.2).map .str:=by unfold mnR;rw[bd];rfl
   rw[e1];have u:(Wu pre).length+(mnR p.2).length<=1000:=by rw[c] at ml;unfold Wu at ml |-;rw[dh,df,aD,aD] at ml;lia
   have e2:(Wu pre).map D.str++(mnR p.2).map .str=(Wu (pre++[p])).map .str:=by unfold Wu;rw[dh,aM,df,List.flatMap_nil,aR]
   refine⟨by rw[ak,ak,bD];lia,?_⟩;refine j _ _ ⟨by rw[aX];exact c,rfl,aa (.str p.1),aa (.lst (p.2.map Rw.d)),?_⟩;rw[<-e2];rfl
 .obtain⟨c,rfl,g,i,rfl⟩:=h;rw[aR] at c;subst c;exact⟨qg,q _ (ahd ok.lk.rows) ml⟩
theorem K3{β i:Type}{fr:List (Option Nat)}{g:DG}{tt:DT}{j:DE}{st:Ms->Prop}{Q:List D->Ms->Prop}{a:nC}{M:Ms}(e:i->D)(f:β->D)(m:st M):∀(xs:List i) (acc:List β),acc.length+xs.length<=1000->
  (∀x∈xs,∀n:Option D->nC->Ms->Prop,(∀b c,Bs fr c=a->n (aa (f b)) c M)->FA g tt j (e x) a M n)->
  (∀bs:List β,bs.length=acc.length+xs.length->Q (bs.map f) M)->lQ fr g tt j st Q (xs.map e) (acc.map f) a M
 |[],acc,o,_,q=>q acc rfl
 |x::xs,acc,o,h,q=>by rw[aZ];unfold lQ;rw[aQ] at o;refine h x aE _ λb c e1=>⟨m,by rw[ak];exact b8 (show acc.length<=1000 by lia) (by decide),?_⟩;rw[e1];have:=K3 e f m xs (acc++[b]) (by rw[aD,bO];lia) (λy p=>h y (ax _ p)) (λbs hb=>q bs (by rw[hb,aD,bO,aQ];lia));rw[aM] at this;exact this
def ad5{ns:List Int}{x y:Int}(h:below ns [x,y]):∃a b,ns=[a,b]/\(0<=a/\a<x)/\(0<=b/\b<y):=by
 obtain⟨e,c⟩:=h;match ns,e,c with
 |[a,b],_,c=>exact⟨a,b,rfl,c 0 a x rfl rfl,c 1 b y rfl rfl⟩
def VY{β a:Type}(f:β->a)(xs:List β)(lo hi:Option Int):cutD (xs.map f) lo hi=(cutD xs lo hi).map f:=by unfold cutD;rw[ak,ajh,eZ]
def Pd:GP:=λds Q=>∃sc:List Int,ds=[.qO sc]/\Q (.bl ai)
def Nv:iB Pd:=by
 rintro ds P Q w ⟨a,h,q⟩
 exact⟨a,h,w _ q⟩
def ad6{sc:List Int}{a:List Pt}{x1 x3 j c:Option D}{E:jK}(ok:Wf a)(q:E.rt (.bl ai) []):lwT (cl zf) (cl wB) (cl vD) E [aa (.qO sc),x1,aa (.lst (a.map jt)),x3,j,c] []:=by
 refine⟨mR a,a,rfl,ok,?_⟩;refine⟨mR a,a,rfl,ok,λns m n=>?_⟩;refine⟨_,rfl,rfl,?_⟩;have hc:∃cs:List Int,cutD (sc.map D.int) (aa 5) (aa 13)=cs.map D.int:=⟨_,VY _ _ _ _⟩;obtain⟨cs,hc⟩:=hc;rw[hc];refine i8 D.int (λpre xs g M=>M=[]/\∃(e:List Pt) (c:Option D),Wf e/\g=[aa (.qO sc),x1,aa (.lst (e.map jt)),x3,aa (.lst (ns.map .str)),c]) (λ_ _ _ _ _=>rfl) cs [] _ _ ⟨rfl,a,c,ok,rfl⟩ (λpre x xs g M h N o=>?_) (λpre g M h=>?_)
 .obtain⟨rfl,e,c,i,rfl⟩:=h;refine⟨?_,e,ns,x,rfl,i,m,n,λb f=>?_⟩
  .show(lN (e.map jt)&&(lN (ns.map D.str)&&(ai&&ai)))=ai;rw[nI,qg];rfl
  .refine⟨mR b,b,rfl,f,?_⟩;exact o _ _ ⟨rfl,b,_,f,rfl⟩
 .obtain⟨rfl,_⟩:=h;exact q
def ad7:∀ds Q,Pd ds Q->jl 6 1 (Vm (cl BO) (cl HC) (cl Ae) (cl zf) (cl wB) (cl vD)) ds Q:=by
 rintro ds Q ⟨sc,j,q⟩
 subst j;unfold Vm;have c:=@ad6;generalize lwT (cl zf) (cl wB) (cl vD)=lt at c |-;refine⟨rfl,rfl,sc,0,rfl,λm=>?_⟩;refine⟨ag rfl,rfl,m,[4,2],rfl,by decide,by decide,λp n=>?_⟩;obtain⟨a,b,rfl,ha,hb⟩:=ad5 n;refine⟨_,rfl,?_⟩;refine⟨⟨?_,?_⟩,trivial,?_⟩
 .show(-2^62:Int)<=1+a;lia
 .show(1+a:Int)<2^62;lia
 rw[Pb];refine K3 (λi:Nat=>D.int i) (λi:Int=>D.int i) ?_ _ [] ?_ (λk r u o=>?_) (λcs f=>?_)
 .exact trivial
 .rw[bE,dL];show 0+(1+a).toNat<=1000;lia
 .refine⟨rfl,sc,1+k,rfl,λi=>?_⟩;exact o i _ rfl
 rw[bE,ba,dL] at f;have n1:lN [.lst (cs.map D.int),.int 11]=ai:=by show(lN (cs.map D.int)&&(ai&&ai))=ai;rw[yC];rfl
 refine⟨n1,cs,rfl,by lia,by lia,λh ob=>?_⟩;have ok:=Zm ob;refine⟨rfl,rfl,.int b,rfl,?_⟩;have g:b=0\/b=1:=by lia
 rcases g with rfl|rfl
 .exact c ok ⟨rfl,q⟩
 .refine⟨rfl,_,rfl,?_⟩;have e:((prog h).map jt).reverse=(prog h).reverse.map jt:=(ajq).symm;rw[e];exact c (ad0 ok) ⟨rfl,q⟩
end kF
namespace kF
open PySem PySem.Spec L2 L3 FJ
structure RB(K:af)(C fI fW fA fG:ar):Prop where
 c:CF K C
 nT:aF K (.ref C) ec=aa am
 aI:aF K (.ref C) ft=aa (aa (.ref fI))
 aW:aF K (.ref C) fq=aa (aa (.ref fW))
 aA:aF K (.ref C) hB=aa (aa (.ref fA))
 aG:aF K (.ref C) hJ=aa (aa (.ref fG))
def all_mk{l:W.OpenLaw}{w:bt}{K:af}{h:aw}{mg:aB->Option ah}{fa:ar}(X:K.In h)(G:h.Ns bf mg)(hfa:mg "law"=aa (.ref fa))
{a z U Y Ny xE Nz xF b i cF md Ii u Ij y K4 Gf:ar}{B I fA fG Em VZ Pe Pf V0 aaT:ar}{t0 t1 t2 t3 t4 t5 t6 t7 t8:alM}
(vE:bz K bf pc=aa (aa (.ref a)))
(AZ:bz K bf "CodeRow"=aa (aa (.ref z)))
(NA:bz K bf "BoxRow"=aa (aa (.ref U)))
(En:bz K bf "LastRow"=aa (aa (.ref Y)))
(NB:bz K bf "SetRow"=aa (aa (.ref Ny)))
(xG:bz K bf "AlikeRow"=aa (aa (.ref xE)))
(NC:bz K bf "AimRow"=aa (aa (.ref Nz)))
(xH:bz K bf "LeaveRow"=aa (aa (.ref xF)))
(oK:bz K bf uah=aa (aa (.ref b)))
(vF:bz K bf "TableRow"=aa (aa (.ref i)))
(Eo:bz K bf "FORMS"=aa (aa (.ref cF)))
(mf:bz K bf uaf=aa (aa (.ref md)))
(Ep:bz K bf "Twice"=aa (aa (.ref Ii)))
(sV:bz K bf "Lacking"=aa (aa (.ref u)))
(Er:bz K bf "NoEnd"=aa (aa (.ref Ij)))
(pX:bz K bf "WrongAim"=aa (aa (.ref y)))
(A0:RB K a B I fA fG)
(K5:RB K U B I fA Em)
(A1:RB K Y B I fA VZ)
(K6:RB K Ny B I fA Em)
(vG:RB K xE B I Pf Em)
(K7:RB K Nz B I V0 Em)
(vH:RB K xF B I V0 Pe)
(oM:RB K b B I fA fG)
(vI:RB K i B I aaT fG)
(Zo:MF K ft "Row.__init__" (hZ (top 19) 0) B)
(Ik:MF K fq qb (hZ (top 19) 1) I)
(Ah:MF K hB "Row.asked" (hZ (top 19) 3) fA)
(Il:MF K hJ "Row.goes_on" (hZ (top 19) 4) fG)
(kP:MF K hJ uaK (hZ (top 21) 0) Em)
(vJ:MF K hJ uaL (hZ (top 24) 0) VZ)
(sW:MF K hJ uaN (hZ (top 28) 0) Pe)
(sX:MF K hB uaM (hZ (top 26) 1) Pf)
(uo:MF K hB "AimRow.asked" (hZ (top 27) 1) V0)
(zh:MF K hB uaO (hZ (top 30) 1) aaT)
(tb:zG K cF FJ.aan)
(kQ:bz K bf "LONGEST_WORD"=aa (aa (.int (8) t0)))
(kR:bz K bf "LONGEST_LIST"=aa (aa (.int (60) t1)))
(qm:bz K bf "LAST_BOX"=aa (aa (.int (3) t2)))
(kU:bz K bf "LEAST_NUMBER"=aa (aa (.int (-2147483648) t3)))
(jN:bz K bf uaG=aa (aa (.int (2147483647) t4)))
(js:bz K bf uaH=aa (aa (.int (60) t5)))
(m6:bz K bf "MOST_PARTS"=aa (aa (.int (12) t6)))
(oN:bz K bf "MOST_ROWS"=aa (aa (.int (200) t7)))
(m8:bz K bf "MOST_MARKS"=aa (aa (.int (200) t8)))
(m9:bz K bf mv=aa am)
(K8:bz K bf ic=aa am)
(Es:bz K bf jd=aa am)
(K9:bz K bf hX=aa am)
(La:bz K bf kI=aa am)
(Lb:bz K bf "all"=aa am)
(zi:bz K bf dy=aa am)
(Et:bz K bf ap=aa am)
(Lc:bz K bf hR=aa am)
(Ld:bz K bf fi=aa am)
(Le:bz K bf "sum"=aa am)
(oO:bz K bf hY=aa am)
(vL:bz K bf gc=aa am)
(Eu:bz K bf fe=aa am)
(zj:bz K bf ky=aa am)
(xI:gY K mg rh (top 11))
(Ai:gY K mg qa (top 12))
(pS:gY K mg uag (top 31))
(Im:gY K mg "fits" (top 32))
(Ev:gY K mg "is_row" (top 33))
(xJ:gY K mg ri (top 34))
(Ew:gY K mg "row_of" (top 35))
(nJ:gY K mg ro (top 41))
(se:gY K mg rz (top 42))
(qo:gY K mg rN (top 43))
(Aj:gY K mg "is_part" (top 44))
(vM:gY K mg uai (top 45))
(Ak:gY K mg "rows_of" (top 46))
(ng:gY K mg sm (top 47))
(mh:gY K mg uaj (top 48))
(vN:gY K mg uak (top 49))
(Al:gY K mg fy (top 51))
(pd:gY K mg ual (top 52))
(xL:gY K mg "marks_in" (top 53))
(qp:gY K mg sw (top 54))
(nK:gY K mg uam (top 55))
(vO:gY K mg uan (top 56))
(ph:gY K mg sE (top 57))
(vP:gY K mg uao (top 58))
(xM:gY K mg tP (top 59))
(uq:gY K mg uap (top 60))
(qr:gY K mg uaq (top 61))
(Ey:gY K mg uJ (top 62))
(B3:gY K mg nP (top 63))
(qt:gY K mg uM (top 65))
(ur:gY K mg uY (top 66))
(ut:gY K mg vp (top 67))
(uu:gY K mg vr (top 68))
(qu:gY K mg vu (top 69))
(pq:gY K mg uar (top 70))
(vQ:gY K mg vv (top 71))
(sf:gY K mg vx (top 72))
(sg:gY K mg uau (top 73))
(vR:gY K mg wc (top 74))
(qv:gY K mg wh (top 75))
(lL:gY K mg wu (top 76))
(qw:gY K mg uaw (top 77))
(nL:gY K mg xm (top 78))
(si:gY K mg uax (top 79))
(uv:gY K mg qs (top 80))
(uw:gY K mg zb (top 81))
(ux:gY K mg zt (top 82))
(xN:gY K mg "_law_due" (top 83))
(vS:gY K mg uay (top 84))
(sj:gY K mg uaa (top 85))
(vT:gY K mg uab (top 86))
(uy:gY K mg uaz (top 87))
(V1:gY K mg "law" (top 88))
(xO:bb K (.ref a) (.ref a)=aa ai)
(Am:bb K (.ref U) (.ref a)=aa ao)
(xP:bb K (.ref Y) (.ref a)=aa ao)
(An:bb K (.ref Ny) (.ref a)=aa ao)
(vU:bb K (.ref xE) (.ref a)=aa ao)
(Ao:bb K (.ref Nz) (.ref a)=aa ao)
(vV:bb K (.ref xF) (.ref a)=aa ao)
(sk:bb K (.ref b) (.ref a)=aa ao)
(vW:bb K (.ref i) (.ref a)=aa ao)
(xQ:bb K (.ref a) (.ref z)=aa ao)
(Ap:bb K (.ref U) (.ref z)=aa ai)
(xR:bb K (.ref Y) (.ref z)=aa ai)
(Aq:bb K (.ref Ny) (.ref z)=aa ai)
(vX:bb K (.ref xE) (.ref z)=aa ai)
(Ar:bb K (.ref Nz) (.ref z)=aa ai)
(vY:bb K (.ref xF) (.ref z)=aa ai)
(sr:bb K (.ref b) (.ref z)=aa ao)
(vZ:bb K (.ref i) (.ref z)=aa ao)
(su:bb K (.ref a) (.ref b)=aa ao)
(uz:bb K (.ref U) (.ref b)=aa ao)
(sv:bb K (.ref Y) (.ref b)=aa ao)
(uA:bb K (.ref Ny) (.ref b)=aa ao)
(qy:bb K (.ref xE) (.ref b)=aa ao)
(uB:bb K (.ref Nz) (.ref b)=aa ao)
(qz:bb K (.ref xF) (.ref b)=aa ao)
(nM:bb K (.ref b) (.ref b)=aa ai)
(qA:bb K (.ref i) (.ref b)=aa ao)
(v0:bb K (.ref a) (.ref i)=aa ao)
(xS:bb K (.ref U) (.ref i)=aa ao)
(v3:bb K (.ref Y) (.ref i)=aa ao)
(xT:bb K (.ref Ny) (.ref i)=aa ao)
(uC:bb K (.ref xE) (.ref i)=aa ao)
(xU:bb K (.ref Nz) (.ref i)=aa ao)
(uD:bb K (.ref xF) (.ref i)=aa ao)
(qB:bb K (.ref b) (.ref i)=aa ao)
(uE:bb K (.ref i) (.ref i)=aa ai)
(ad8:bb K (.type oP) (.ref z)=aa ao)
(uF:OO K md md)
(qC:OO K u md)
(nN:OO K y md)
(zk:ExI K u K4 uaI (hZ (top 7) 0))
(wC:ExI K y Gf uaJ (hZ (top 8) 0))
(xb:Kg K md)
(om:aF K (.ref u) ef=aa am)
(oq:aF K (.ref u) ek=aa am)
(pT:aF K (.ref u) eH=aa am)
(nO:bb K (.ref u) (.ref u)=aa ai)
(nh:bb K (.ref u) (.ref y)=aa ao)
(qD:bb K (.ref u) (.ref Ii)=aa ao)
(qE:bb K (.ref u) (.ref Ij)=aa ao)
(ni:aF K (.ref y) ef=aa am)
(nj:aF K (.ref y) ek=aa am)
(ou:aF K (.ref y) eH=aa am)
(nq:bb K (.ref y) (.ref u)=aa ao)
(mj:bb K (.ref y) (.ref y)=aa ai)
(pv:bb K (.ref y) (.ref Ii)=aa ao)
(px:bb K (.ref y) (.ref Ij)=aa ao)
  :∃fd:cI,(∀(s:aq) (v:ah),aj0 s fd ⟨[v],[]⟩ [(mm,v)])/\∀cq:aw,CW K mg cq->jo l.prog w K mg cq pZ 13 fa fd [mm] (jU K (cl Pd)):=by
 obtain⟨f,fd,F,m⟩:=id V1;have e:=hfa.symm.trans m;cases e;have m9:=dc X G m9;have K8:=dc X G K8;have Es:=dc X G Es;have K9:=dc X G K9;have La:=dc X G La;have Lb:=dc X G Lb;have zi:=dc X G zi;have Et:=dc X G Et;have Lc:=dc X G Lc;have Ld:=dc X G Ld;have Le:=dc X G Le;have oO:=dc X G oO;have vL:=dc X G vL;have Eu:=dc X G Eu;have zj:=dc X G zj;have kQ:∃t,mg "LONGEST_WORD"=aa (.int (8) t):=⟨_,cP X G kQ⟩;have kR:∃t,mg "LONGEST_LIST"=aa (.int (60) t):=⟨_,cP X G kR⟩;have qm:∃t,mg "LAST_BOX"=aa (.int (3) t):=⟨_,cP X G qm⟩;have kU:∃t,mg "LEAST_NUMBER"=aa (.int (-2147483648) t):=⟨_,cP X G kU⟩;have jN:∃t,mg uaG=aa (.int (2147483647) t):=⟨_,cP X G jN⟩;have js:∃t,mg uaH=aa (.int (60) t):=⟨_,cP X G js⟩;have m6:∃t,mg "MOST_PARTS"=aa (.int (12) t):=⟨_,cP X G m6⟩;have oN:∃t,mg "MOST_ROWS"=aa (.int (200) t):=⟨_,cP X G oN⟩;have m8:∃t,mg "MOST_MARKS"=aa (.int (200) t):=⟨_,cP X G m8⟩;have vE:=cP X G vE;have AZ:=cP X G AZ;have NA:=cP X G NA;have En:=cP X G En;have NB:=cP X G NB;have xG:=cP X G xG;have NC:=cP X G NC;have xH:=cP X G xH;have oK:=cP X G oK;have vF:=cP X G vF;have Eo:=cP X G Eo;have mf:=cP X G mf;have Ep:=cP X G Ep;have sV:=cP X G sV;have Er:=cP X G Er;have pX:=cP X G pX;have Z:Zs mg:=⟨m9,K8,Es,K9,La,Lb,zi,Et,Lc,Ld,Le,oO,vL,Eu,zj,kQ,kR,qm,kU,jN,js,m6,oN,m8⟩;refine⟨fd,F.abR λ_ _ _ _ _ _ _=>rfl,λcq TB=>?_⟩;have xf:XF K md u y Ii Ij:=⟨⟨qC.sub uF,qC.get,om,oq,pT⟩,⟨nN.sub uF,nN.get,ni,nj,ou⟩,nO,nh,qD,qE,nq,mj,pv,px⟩;obtain⟨fdL,FL⟩:=zk.ex;have rL:∀j,yO l.prog w K mg cq (j+1) "Lacking" u [ef,ek,eH]:=λj=>⟨sV,K4,fdL,_,qC.mk_ zk,Bf FL,DC (k:=j) FL xb mf qC.cls qC.obj λg hg=>by
  simp only [aN,bN,or_false] at hg;rcases hg with rfl|rfl|rfl
  .exact om
  .exact oq
  .exact pT⟩
 obtain⟨fdW,FW⟩:=wC.ex;have rW:∀j,yO l.prog w K mg cq (j+1) "WrongAim" y [ef,ek,eH]:=λj=>⟨pX,Gf,fdW,_,nN.mk_ wC,zV FW,Bg (k:=j) FW xb mf nN.cls nN.obj λg hg=>by
  simp only [aN,bN,or_false] at hg;rcases hg with rfl|rfl|rfl
  .exact ni
  .exact nj
  .exact ou⟩
 obtain⟨c,hc⟩:∃c:CA,c=CA.mk a a z a U Y Ny xE Nz xF b i:=⟨_,rfl⟩;have L:∀k,CF K (c.at k):=λk=>by subst hc;cases k<;>first|exact A0.c|exact K5.c|exact A1.c|exact K6.c|exact vG.c|exact K7.c|exact vH.c|exact oM.c|exact vI.c
 have nT:∀k,aF K (.ref (c.at k)) ec=aa am:=λk=>by subst hc;cases k<;>first|exact A0.nT|exact K5.nT|exact A1.nT|exact K6.nT|exact vG.nT|exact K7.nT|exact vH.nT|exact oM.nT|exact vI.nT
 have fo:∀k,p6 K (c.at k) ec:=λk=>⟨(L k).cls,nT k⟩;have aI:∀k,aF K (.ref (c.at k)) ft=aa (aa (.ref B)):=λk=>by subst hc;cases k<;>first|exact A0.aI|exact K5.aI|exact A1.aI|exact K6.aI|exact vG.aI|exact K7.aI|exact vH.aI|exact oM.aI|exact vI.aI
 have aW:∀k,aF K (.ref (c.at k)) fq=aa (aa (.ref I)):=λk=>by subst hc;cases k<;>first|exact A0.aW|exact K5.aW|exact A1.aW|exact K6.aW|exact vG.aW|exact K7.aW|exact vH.aW|exact oM.aW|exact vI.aW
 have N:FOk K c:=⟨λr=>fo r.kn⟩;have ko:Up K c:=⟨λk=>(L k).af4,λk=>by subst hc;cases k<;>first|exact xO|exact Am|exact xP|exact An|exact vU|exact Ao|exact vV|exact sk|exact vW,λk=>by subst hc;cases k<;>first|exact xQ|exact Ap|exact xR|exact Aq|exact vX|exact Ar|exact vY|exact sr|exact vZ,λk=>by subst hc;cases k<;>first|exact su|exact uz|exact sv|exact uA|exact qy|exact uB|exact qz|exact nM|exact qA,λk=>by subst hc;cases k<;>first|exact v0|exact xS|exact v3|exact xT|exact uC|exact xU|exact uD|exact qB|exact uE,by subst hc;exact ad8⟩;have vE:mg pc=aa (.ref c.Mark):=by subst hc;exact vE
 have AZ:mg "CodeRow"=aa (.ref c.Code):=by subst hc;exact AZ
 have NA:mg "BoxRow"=aa (.ref c.Ug):=by subst hc;exact NA
 have En:mg "LastRow"=aa (.ref c.Last):=by subst hc;exact En
 have NB:mg "SetRow"=aa (.ref c.Set):=by subst hc;exact NB
 have xG:mg "AlikeRow"=aa (.ref c.Alike):=by subst hc;exact xG
 have NC:mg "AimRow"=aa (.ref c.Uh):=by subst hc;exact NC
 have xH:mg "LeaveRow"=aa (.ref c.Leave):=by subst hc;exact xH
 have oK:mg uah=aa (.ref c.jM):=by subst hc;exact oK
 have vF:mg "TableRow"=aa (.ref c.Table):=by subst hc;exact vF
 have V2:∀j,iu l.prog w K mg cq (j+1) rh [dt] (cl nE):=λj=>jH (MW xI Z) Ba (Jx K);have V3:∀j,iu l.prog w K mg cq (j+1) qa [dt] (cl nF):=λj=>jH (Q7 Ai Z) C3 (Ml K);have ad9:=jH (Vd (k:=1) (k7:=λ_ _ _=>False) Im Z (V3 0) (V2 0) (afI 1 pS (λ_ _ _ _ _ _ us hl=>match us,hl with|[_,_],_=>rfl))) G5 (Uf K _);have hIl:=jH (Hs (k:=2) pS Z ad9) Qu (af0 K);have ahe:=jH (Vd (k:=3) Im Z (V3 2) (V2 2) hIl) JD (X2 K);have ahf:=hasB (Ve (k:=4) Ev Z Eo tb ahe) EL (Qv K _);obtain⟨_,ahg⟩:=Zo.ex;obtain⟨_,Ru⟩:=Ik.ex;obtain⟨_,J⟩:=Ah.ex;obtain⟨_,Rv⟩:=Il.ex;obtain⟨_,T⟩:=kP.ex;obtain⟨_,Lf⟩:=vJ.ex;obtain⟨_,Gg⟩:=sW.ex;obtain⟨_,Gh⟩:=sX.ex;obtain⟨_,B4⟩:=uo.ex;obtain⟨_,Pg⟩:=zh.ex;have O:∀j k,oV l.prog w K mg cq (j+1) (c.at k) (nG K):=λj k=>afK ⟨(L k).Lj,aI k,Zo.fn,(L k).kc⟩ (Kr ahg) (MX ahg) JH X3;have ahh:iu l.prog w K mg cq 5 ri [ec] (cl (qd c)):=jH (MY (k:=3) xJ NB (O 2 .Set) xG (O 2 .Alike) En (O 2 .Last) xH (O 2 .Leave) NC (O 2 .Uh) NA (O 2 .Ug)) Bb (JK N);have aea:=XH (Vf (k:=4) Ew Z ahf vE (O 3 .Mark) oK (O 3 .jM) vF (O 3 .Table) ahh) EM (Qw N);have ND:∀j C g,jf c C fq g->l9 l.prog w K mg cq (j+1) C fq g:=by
  rintro j C g ⟨k,rfl,rfl⟩
  exact methP (L k).cls ⟨aW k,Ik.fn,Ik.kp⟩ (ud Ru) (AV Ru Z) yB (JL N k)
 have aeb:∀j C g,pH c C hB g->l9 l.prog w K mg cq (j+1) C hB g:=by
  rintro j C g ⟨k,rfl,rfl⟩
  have cl:=(L k).cls;cases k;case Mark=>exact wS cl ⟨by subst hc;exact A0.aA,Ah.fn,Ah.kp⟩ (mW J) (oJ J) jw (mO (by simp))
  case Ug=>exact wS cl ⟨by subst hc;exact K5.aA,Ah.fn,Ah.kp⟩ (mW J) (oJ J) jw (mO (by simp))
  case Last=>exact wS cl ⟨by subst hc;exact A1.aA,Ah.fn,Ah.kp⟩ (mW J) (oJ J) jw (mO (by simp))
  case Set=>exact wS cl ⟨by subst hc;exact K6.aA,Ah.fn,Ah.kp⟩ (mW J) (oJ J) jw (mO (by simp))
  case jM=>exact wS cl ⟨by subst hc;exact oM.aA,Ah.fn,Ah.kp⟩ (mW J) (oJ J) jw (mO (by simp))
  case Alike=>exact wS cl ⟨by subst hc;exact vG.aA,sX.fn,sX.kp⟩ (yT Gh) (zW Gh Z) jw (C9 N rfl)
  case Uh=>exact wS cl ⟨by subst hc;exact K7.aA,uo.fn,uo.kp⟩ (uK B4) (vq B4) jw (yD N (.inl rfl))
  case Leave=>exact wS cl ⟨by subst hc;exact vH.aA,uo.fn,uo.kp⟩ (uK B4) (vq B4) jw (yD N (.inr rfl))
  case Table=>exact wS cl ⟨by subst hc;exact vI.aA,zh.fn,zh.kp⟩ (yU Pg) (zX Pg Z) jw (Db N rfl)
 have ahi:∀j C g,Ui c C hJ g->l9 l.prog w K mg cq (j+1) C hJ g:=by
  rintro j C g ⟨k,rfl,rfl⟩
  have cl:=(L k).cls;cases k;case Mark=>exact methP cl ⟨by subst hc;exact A0.aG,Il.fn,Il.kp⟩ (qk Rv) (rZ Rv) FJ.jh (JN (by simp))
  case jM=>exact methP cl ⟨by subst hc;exact oM.aG,Il.fn,Il.kp⟩ (qk Rv) (rZ Rv) FJ.jh (JN (by simp))
  case Table=>exact methP cl ⟨by subst hc;exact vI.aG,Il.fn,Il.kp⟩ (qk Rv) (rZ Rv) FJ.jh (JN (by simp))
  case Last=>exact methP cl ⟨by subst hc;exact A1.aG,vJ.fn,vJ.kp⟩ (xy Lf) (yS Lf) FJ.jh (JN (by simp))
  case Leave=>exact methP cl ⟨by subst hc;exact vH.aG,sW.fn,sW.kp⟩ (wJ Gg) (xz Gg) FJ.jh (JN (by simp))
  case Ug=>exact methP cl ⟨by subst hc;exact K5.aG,kP.fn,kP.kp⟩ (j5 T) (ku T) FJ.jh (Oy (by simp))
  case Set=>exact methP cl ⟨by subst hc;exact K6.aG,kP.fn,kP.kp⟩ (j5 T) (ku T) FJ.jh (Oy (by simp))
  case Alike=>exact methP cl ⟨by subst hc;exact vG.aG,kP.fn,kP.kp⟩ (j5 T) (ku T) FJ.jh (Oy (by simp))
  case Uh=>exact methP cl ⟨by subst hc;exact K7.aG,kP.fn,kP.kp⟩ (j5 T) (ku T) FJ.jh (Oy (by simp))
 have Zr:∀j,iu l.prog w K mg cq (j+1) ro [dt] (cl yF):=λj=>jH (zY nJ Z) EQ (Qz K);have V4:=λj:Nat=>jH (E4 se Z (Zr j)) G8 Ul;have Ph:=λj:Nat=>jH (DH qo Z (V4 j)) ER QD;have Zt:=λj:Nat=>jH (Ra Aj Z (V3 (j+2)) (Ph j)) Dh (Mn K);have aiU:=λj:Nat=>jH (Ks vM Z (Zt j) (Ph (j+1)) (V4 (j+2))) Mp (acQ K);have Zu:=jH (Rb (k:=6) Ak Z aea) Dj Mq;have aec:∀j,iu l.prog w K mg cq (j+1) sm [gi] (cl (BH c)):=λj=>jH (yX ng Z vE) G9 (Uq ko);have Zv:=λj:Nat=>jH (xA mh Z (aec j) (ahi j) AZ vE) xr (Dk ko);have Zw:=jH (Kt (k:=7) vN (aiU 2) Zu (Zv 5)) ET QK;have Pj:∀j,iu l.prog w K mg cq (j+5) fy [fv] (cl (sQ c)):=λj=>jH (Rf Al TB Z) Dm Mr;have V5:=λj:Nat=>jH (Bh pd Z vE (ND j)) Bc (JU ko);have V6:=λj:Nat=>jH (M6 xL (Pj j) (V5 (j+3))) Bd JV;have Zx:∀j,iu l.prog w K mg cq (j+1) sw [lj] FJ.yI:=λj=>XH (DM qp) FJ.EU FJ.QM;have aed:=λj:Nat=>jH (z6 nK Z (Zx j)) FJ.Hc FJ.Uu;have Zy:=λj:Nat=>jH (Ku vO (V6 j) (aed (j+4))) FJ.EW FJ.QP;have V7:∀j,iu l.prog w K mg cq (j+1) sE [gi] (cl (wj c)):=λj=>jH (Bi ph Z vE) Dq (Mw ko);have ahj:=λj:Nat=>jH (Kv vP Z (Pj j) (V7 (j+4))) JY Yc;have hAt:∀j,iu l.prog w K mg cq (j+1) tP ["lists",pe] (cl (Yd c)):=λj=>jH (M7 xM) QQ af9;have aiV:=λj:Nat=>jH (Hv uq Z (ND j) oK vF AZ) My (acW ko);have ahk:=λj:Nat=>U3 (DN (k:=j+1) qr Z (aeb (j+1)) (rL j) (aiV j) (hAt (j+1)) (rW j)) HN VA;have ahl:=λj:Nat=>U3 (Vh (k:=j+8) Ey (Zw.up (by lia)) (Zy (j+1)) (ahj (j+2)) (ahk (j+5))) Ee Nn;have aee:=λj:Nat=>U3 (YR (k:=j+9) B3 (ahl j) (ND (j+8))) Fd Rq;have Zz:∀j,iu l.prog w K mg cq (j+10) nP [fv] (cl (zg c)):=λj=>jH (aee j).calm.p Fg Nu;have mWO:∀j C g,VG c C fq g->l9 l.prog w K mg cq (j+1) C fq g:=by
  rintro j C g ⟨k,rfl,rfl|rfl⟩
  .exact methP (L k).cls ⟨aW k,Ik.fn,Ik.kp⟩ (ud Ru) (AV Ru Z) yB (JL N k)
  .exact wS (L k).cls ⟨aW k,Ik.fn,Ik.kp⟩ (ud Ru) (Hr Ru Z) EN (Qx N k)
 have ZA:∀j,OS l.prog w K mg cq (j+10) nP [fv] (zc c u y):=λj=>agH (Vk (k:=j+9) B3 (ahl j) (mWO (j+8))) Ff Rs;have ahm:=λj:Nat=>XH (Na (k:=j+10) vS Z mf (ZA j) Er Ep pX sV) KU (Zg xf);have aef:∀j,iu l.prog w K mg cq (j+1) zt [fb] (cl BW):=λj=>jH (KG ux Z) HZ VD;have aaU:∀j,iu l.prog w K mg cq (j+1) qs [fk] (cl Eg):=λj=>jH (KC uv) KR Zc;have aeg:∀j,iu l.prog w K mg cq (j+1) zb [fk,za] (cl wA):=λj=>jH (KD uw) HU VC;have aiW:=λj:Nat=>jH (Ri xN Z (aef j) (aaU j) (aeg j)) Np adW;have ZB:∀j,iu l.prog w K mg cq (j+1) uaa [fk] (cl y9):=λj=>jH (HA sj Z) Fe Rr;have aeh:∀j,iu l.prog w K mg cq (j+1) uab [fb] (cl BY):=λj=>jH (Nb vT Z) Ib VH;have aei:=λj:Nat=>jH (KH (k:=j+11) uy Z (ahm j) (aiW (j+9)) (aeh (j+10)) (ZB (j+10)) (Zz (j+1))) Ic VP;have ahn:∀j,iu l.prog w K mg cq (j+1) xm [fk,lm,fx] (cl Ig):=λj=>jH (Bj nL Z) K2 Zn;have ZC:=λj:Nat=>jH (Hz si Z (aaU j) (ahn j)) Fh Rt;have aej:∀j,iu l.prog w K mg cq (j+1) wu [fb] (cl wB):=λj=>jH (xB lL) Ih VX;have aho:∀j,iu l.prog w K mg cq (j+1) uM [mm,gl] (cl HC):=λj=>jH (E6 qt Z) KI YW;have aek:∀j,iu l.prog w K mg cq (j+1) uY [fx,gl] (cl v9):=λj=>jH (Kw ur) G6 Uj;have V8:=λj:Nat=>jH (Kx ut Z (aek j)) HD Vo;have ael:∀j,iu l.prog w K mg cq (j+1) vr [] (cl BP):=λj=>jH (Ky uu) HE Vp;have aem:∀j,iu l.prog w K mg cq (j+1) vu [kv] (cl tT):=λj=>jH (E7 qu) jh YX;have ahp:=λj:Nat=>jH (DQ pq Z (V8 j) (ael (j+1)) (aem (j+1))) KN Y0;have ahq:∀j,iu l.prog w K mg cq (j+1) vv [qe,gl] (cl jS):=λj=>jH (M8 vQ) KJ YY;have ZD:∀j,iu l.prog w K mg cq (j+1) vx [pr] (cl y4):=λj=>jH (Hx sf) Fa Rj;have ahr:∀j,iu l.prog w K mg cq (j+1) wc [kv,pk,ol] (cl HF):=λj=>jH (M9 vR) KL YZ;have ZE:=λj:Nat=>XH (Hy sg Z (ZD j) (ahr j)) Fc Rn;have ZF:∀j,iu l.prog w K mg cq (j+1) wh [ly] (cl sT):=λj=>jH (E8 qv) Fb Rl;have ahs:=λj:Nat=>jH (E9 (k:=j+3) qw Z (ahp j) (ZF (j+2)) (ahq (j+2)) (ZE (j+1))) Ea Nm;have hL:=P8 F DW.hb DW.hc DW.sc (λik A cv s H E hr=>agT (P:=l.prog) (w:=w) (cq:=cq) (k:=12) Z (V8 10) (aho 11) (ahs 8) (aei 0) (aej 11) (ZC 10) fa ik A cv s H E hr);exact hL.imp λvs H Q E ⟨F,S,M,ds,o,r,n,q⟩=>⟨F,S,M,ds,o,r,n,ad7 _ _ q⟩
end kF
open PySem PySem.W PyProof.Rows
local macro_rules | `(tactic| walk_at "f") => `(tactic| (refine' L2.SN (by assumption) (by assumption) ?a ?l ?c ?k; (case a => k_is); (case l => k_is); (case c => k_is); (case k => k_is)))
local macro_rules | `(tactic| walk_at "k") => `(tactic| (refine' FJ.af5 ?l ?c ?k ?i; (case l => k_is); (case c => k_is); (case k => k_is); (case i => k_is)))
local macro_rules | `(tactic| walk_at "l") => `(tactic| (refine' ⟨⟨?a1, ?a2, ?a3, ?a4, ?a5, ?a6, ?a7, ?a8, ?a9, ?a10⟩, ?b1, ?b2, ?b3, ?b4, ?b5⟩; (case a1 => k_is); (case a2 => k_is); (case a3 => k_is); (case a4 => k_is); (case a5 => k_is); (case a6 => k_is); (case a7 => k_is); (case a8 => k_is); (case a9 => k_is); (case a10 => k_is); (case b1 => k_is); (case b2 => k_is); (case b3 => k_is); (case b4 => k_is); (case b5 => k_is)))
local macro_rules | `(tactic| walk_at "k_row") => `(tactic| (refine KTD.Rows.cons rfl ?_ ?_; focus (refine' FJ.acM ?va ?vb ?vc ?vd ?ve; (case va => k_is); (case vb => rfl); (case vc => rfl); (case vd => exact ag rfl); (case ve => (repeat (first | exact FJ.Uk | refine FJ.Qy ?_))))))
local macro_rules | `(tactic| walk_at "h") => `(tactic| first | k_is | kernel_rfl | rfl)
local macro_rules | `(tactic| walk_at "w") => `(tactic| (refine' ⟨?e1, ?e2, ?e3, ?e4, ?e5, ?e6, ?e7, ?e8, ?e9, ?e10, ?e11, ?e12, ?wP, ?e14, L3.adh ?e15 ?e16 ?e17 ?e18⟩; (case e1 => walk_at "h"); (case e2 => unfold L2.Ke; kernel_rfl); (case e3 => walk_at "h"); (case e4 => walk_at "h"); (case e5 => walk_at "h"); (case e6 => walk_at "h"); (case e7 => walk_at "h"); (case e8 => walk_at "h"); (case e9 => walk_at "h"); (case e10 => walk_at "h"); (case e11 => walk_at "h"); (case e12 => walk_at "h"); (case wP => walk_at "h"); (case e14 => walk_at "h"); (case e15 => k_is); (case e16 => walk_at "h"); (case e17 => first | rfl | kernel_rfl | k_is); (case e18 => first | rfl | kernel_rfl | k_is)))
local macro_rules | `(tactic| walk_at "k_exi") => `(tactic| (refine' L3.adi ?e1 ?e2 ?e3 ?e4 ?e5; (case e1 => k_is); (case e2 => k_is); (case e3 => k_is); (case e4 => k_is); (case e5 => k_is)))
local macro_rules|`(command|#print $s:str)=>do
 let mut r:=#[];let mut n:=0;let mut k:=0
 for c in s.getString.toList do
  n:=n*90+(c.toNat-if c.toNat<92 then 35 else 37);k:=k+1
  if k%10=0 then r:=r.push (<-`(command|def $(Lean.mkIdent (.mkSimple s!"tw{n}")):ident:=0)).raw;n:=0
 return Lean.mkNullNode r
namespace PySem.W.Fast
#print "K2;>%BSmZ=EGx*|Biu>U$KSG~Ocy02E;59%)jG$7'DV~AINDAe:|g8c4:mgP>H%L]S&4~&1$H2zKdLfy>_#ssu]FTG'eBmm]Y%ck%mgfzR'p*}Fpg@d<l;v,OUSTY.E%7>2#xqTjWg*A&`0s<qPrj1'GHHy?1A,=53V9n=?7Wy.w#psSYBoa'&jx3cstO,ML(tHQiN4KN&Rl43HQ>4DG]~QGs3y;MTjCa/c=cQ2X#g%=.8tDBp>mKNAKFn(2i0;^rzh$9EoFP-47?/.CYV#@U:n^<qeNk=1&v}6H)XY4,$'MRM~rVB7}K-Hw2hJb(T27G,U1&LbzY_Evm&Oq>Hz37nlI`gpW4/M(y,fZKLx5FK*u.~/fWj2_?M_8b]X:PSPLoED&S<GL?Rd]HDT%CfB`V'9sPAK*R>)~VJTk)v_?44>xl5Flh}(g@R~$2;4ur}bsE^$lG<|-WEYS%M=+#qEBL5AA5,&g$YwPAGq5usNh0*F1#~C(v?]k3>(lkUaq:gB7R#E^{?$JHhIbrRfU?-I-DhZKbd7a.7BKm3Ul#f-H2LnJ$)EN#/<MffGk5#';2|Q=bf<KFN+8/Jf1ko(1='AM57dqRD=`901j;$>BElr<S-G{:4FcI?4.>TE{1M'K-pn,)HyQ&dKAx5*8VAK*|VO5Bb~gT%vWfGL=%dWEUr6f<BU|,DUxiJA~~gx(=<f*I;&S0R1z|EK7##E^/UQi/OqXOFQ|*u.9Rvweqm4w,rx8QL*NY@;voDU4@jl%&?GM~gp),%2y#sk9TtTXKQtKxU2o^MG;={i<`)}DMr=&7#9x/vAE^nA3;op*0$l_8:<`zz5zhs&_fPzN.96S$]57#SAK$&9G?TJiJ1,RndE)+u,)r2<`)._8;.K#U=wg<AO/7}Dg~*P(0+Nbne8.0wEPF%@qOOH$4&%SmEy&p%L(%Ui`nt?l2a]@9'W4ZJ*g5x^HXM_qHW`_Q8du-pHPSf=Ob_btPC|8F-@053=}&h)-8U*9<U(6?teIDo9.zJO'I.F.BhC5%5%BzkAn`M?n7'*#Q#@|EN|&{;)(hSgFfRcA;F2mg*W:F`BtbD$^+myx;3cR3CnR'$PAV`MuKn}DPalrNoaRYo7PH~0`RRb(H3bhi3Juo.M6WY&(S]Y|&x9ew.nLbj'm?`%#^vRL=xD;.$@U8?2pLum*0,P{2yFk8mgld%7aV@HAdnFZ--'tD`1M_5GK;Jcii/z%0MpfBI3?4i.HLr:rbp&aI*ZUdSB}1_%r*P,S}Zh4J8==mbh@8;Hk6$xQ`Xb>1O])OTfDdH6=]ivM4'%v*VH+,UfNf3NGwo+aV)S_5sWHGP`3r,N>d7h1o;`.-%BT;vLB+tRWY>~$C48L($$5w0+OzG2Ul=W`8Bg?62GF%8Iu1&/,NhKz/sVU/(@DRv]xOZ'>KO.A,3I{7uE:m^MHqhGusfekC3CO>A46hG(jt#+t~vy|yUa)3kdOyCQ<5v2Kf1E/Dc5V$y=T`~S47gH&4i@_]VbV#I|hR3dx*3<I%dXW'<pCD`tHOy^;p+7EK7=`L+tg5Y.~Bz>?6&=Y#7SV;LdhJJ1dL~b<.b9gbTF+4kF$8$4D$9j'aF&9q9k70X(T+J0pcKLj4hO/aO_y'T&0$I9y~#P-llFySxL~u?&'+bfJ_=RwW#E]uW<@QerDN=$_W]UncRQLM&6vj;7($U1^iJ^30;Mj|+v<<*(<*_a?]3iM.UAj9*W2@)K]EH{n<z4-<5Hw56%CK=vT:{%3>]+Z6k+b2S)6?}v#(d%gm<B0m+>9|ahODnuQP5;7iHalJ*9T.-;`F%CSDWc4g/TUc=%inkE)rG%%.~&X/M8u4XNx=e&Hrw]DHn$u><Ee(G8kWPok|d%KKCYP4g{P+|%J/#<j7Ppo8MT3ppf~5$KU:>A6d,oIMZ-~jm/8D3/zZ5x5kjP*Ipf:>~6}&sG~k.EE+?C=Bar1&_C)2&HIhz,MoK,3IX=iM?-VYK*IAl1hb3PsIeQGZ,V6^C9apA=U65q^/g4`@K^pkD6,>pL6V;QN#Lkb]hX~<,%.P]mM_xQK?(0QF@-1wcP#Liq$I9E?%XCQp^gxOl*el.vVNKz~H}V~,x]PL'Es:e(8]E%c>^r0,3Gnno$f@A,e3KUC2<yv}'Rz`K=yyC7Xw6%*9hxx_AhK$-'))+=}o|jv1qWtWepR<j<PDFJYJLcx&J$v*-2`/gA{%f295ndVKEWD>/?ODb3$QrVCp]8{:c^fGKjZ;h/$Jm?yZAi7>/@J&Xr>Bn:t::#a7A|A:z=po>Z,Qw)W2SydZn##BzG0p$@,eV@yP{BeP3O15p1#e7Z&=@0af{(=e_X9C}J`}Ox&rcPfP:P:e>AVMu1vtU.|rbL57gdL.Q,{=`NBOkFswE1,Kkjs8l=+&z.W-uCbS$Ki+(1U%3eMF~'dz]crkD4&;M9o$I&V@UEfmOj+u2EVcp#},V5q.`)Tq7^mIsJyugtG=ty5>D=w0q1G6~$s=vM=A;j1LQCj{ifv<BBc*&Q2bG|_2T}Z5.~1f8%bg.EH{Nzt15Vu|sGXRK2~)/~9&<y{#Hu@=:Dm$Q5/^;uRpinZ,KR_zQ>H~v%s}FemOQ7yQ&o-Rk%fg%((H::W@OCaA_Ggv#W2cR5AY/2BI_RO<Sb^SFo(t6=+^y]>rnOb%VD4F.Kf]kAIoOFhr7w*5;Ar_K?r*r)hlo@DG_@P"
end PySem.W.Fast
set_option maxRecDepth 100000 in
set_option maxHeartbeats 0 in
theorem PySem.Challenge.cw_farjump_k18_aims_holds : PySem.Challenge.rw_farjump_k18_aims.Holds := by
 w_on;o_law;k_head;(case hw=>w_witness2)
 k_fill
 refine' L3.afX (l:=PySem.Challenge.rw_farjump_k18_aims) (g:=kF.Pd) (k:=13) (x:="_law_script") rfl rfl ⟨rfl,by decide,by decide,rfl⟩ (λw h Y=>PySem.W.km_in_of Y) ?acF ?ht ?nt kF.Nv (λns _=>⟨ns,rfl,rfl⟩) ?F
 case acF=>first|exact(Option.some_get (by kernel_rfl)).symm|rfl
 case ht=>intro w;first|kernel_rfl|rfl
 case nt=>intro w;first|kernel_rfl|rfl
 case F=>
  intro w mg fa h KX G hmg
  refine' kF.all_mk KX G hmg ?vE ?AZ ?NA ?En ?NB ?xG ?NC ?xH ?oK ?vF ?Eo ?mf ?Ep ?sV ?Er ?pX ?A0 ?K5 ?A1 ?K6 ?vG ?K7 ?vH ?oM ?vI ?Zo ?Ik ?Ah ?Il ?kP ?vJ ?sW ?sX ?uo ?zh ?tb ?kQ ?kR ?qm ?kU ?jN ?js ?m6 ?oN ?m8 ?m9 ?K8 ?Es ?K9 ?La ?Lb ?zi ?Et ?Lc ?Ld ?Le ?oO ?vL ?Eu ?zj ?xI ?Ai ?pS ?Im ?Ev ?xJ ?Ew ?nJ ?se ?qo ?Aj ?vM ?Ak ?ng ?mh ?vN ?Al ?pd ?xL ?qp ?nK ?vO ?ph ?vP ?xM ?uq ?qr ?Ey ?B3 ?qt ?ur ?ut ?uu ?qu ?pq ?vQ ?sf ?sg ?vR ?qv ?lL ?qw ?nL ?si ?uv ?uw ?ux ?xN ?vS ?sj ?vT ?uy ?V1 ?xO ?Am ?xP ?An ?vU ?Ao ?vV ?sk ?vW ?xQ ?Ap ?xR ?Aq ?vX ?Ar ?vY ?sr ?vZ ?su ?uz ?sv ?uA ?qy ?uB ?qz ?nM ?qA ?v0 ?xS ?v3 ?xT ?uC ?xU ?uD ?qB ?uE ?ad8 ?uF ?qC ?nN ?zk ?wC ?xb ?om ?oq ?pT ?nO ?nh ?qD ?qE ?ni ?nj ?ou ?nq ?mj ?pv ?px
  (case vE|AZ|NA|En|NB|xG|NC|xH|oK|vF|Eo|mf|Ep|sV|Er|pX=>k_is)
  (case A0|K5|A1|K6|vG|K7|vH|oM|vI=>walk_at "l")
  (case Zo|Ik|Ah|Il|kP|vJ|sW|sX|uo|zh=>walk_at "k")
  (case kQ|kR|qm|kU|jN|js|m6|oN|m8|m9|K8|Es|K9|La|Lb|zi|Et|Lc|Ld|Le|oO|vL|Eu|zj=>k_is)
  (case xI|Ai|pS|Im|Ev|xJ|Ew|nJ|se|qo|Aj|vM|Ak|ng|mh|vN|Al|pd|xL|qp|nK|vO|ph|vP|xM|uq|qr|Ey|B3|qt|ur|ut|uu|qu|pq|vQ|sf|sg|vR|qv|lL|qw|nL|si|uv|uw|ux|xN|vS|sj|vT|uy|V1=>walk_at "f")
  (case xO|Am|xP|An|vU|Ao|vV|sk|vW|xQ|Ap|xR|Aq|vX|Ar|vY|sr|vZ|su|uz|sv|uA|qy|uB|qz|nM|qA|v0|xS|v3|xT|uC|xU|uD|qB|uE|ad8=>rfl)
  (case zk|wC=>walk_at "k_exi")
  (case uF|qC|nN=>walk_at "w")
  (case xb=>refine' ⟨?x1,?x2,?x3⟩;(case x1=>walk_at "h");(case x2=>walk_at "h");(case x3=>walk_at "h"))
  (case om|oq|pT=>walk_at "h")
  (case nO|nh|qD|qE=>first|rfl|kernel_rfl|k_is)
  (case ni|nj|ou=>walk_at "h")
  (case nq|mj|pv|px=>first|rfl|kernel_rfl|k_is)
  case tb=>
   refine' FJ.acN ?tlo ?tl ?tc ?td ?tr
   case tl=>k_is
   case tlo=>rfl
   case tc=>exact⟨rfl,rfl,rfl⟩
   case td=>rfl
   case tr=>
    iterate 16 walk_at "k_row"
    exact KTD.Rows.nil
#print axioms PySem.Challenge.cw_farjump_k18_aims_holds
