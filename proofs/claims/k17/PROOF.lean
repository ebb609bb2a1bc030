import PyProof.Rows.All
import Wide.All
import OpenK.AllK
import Wide.FinOn
import Lean
import PyProof.EqAt
import PyProof.EqKinds
import PyProof.TupleCall
import KE.KSortTup
import KE.KPairComp
import PyProof.P3Eq
import PyProof.DictWalks
import KE.KDictSum
import PyProof.StationsW
import PyProof.ExcClass2
import PyProof.ExcBaseAll.ValueError
import PyProof.RulesTry
import PyProof.RulesAs
import PyProof.NsDelKeeps
import PyProof.ExcAttrAll.ValueError
import KE.KIsAll
import PyProof.ReprRoads
import PySem.Challenge.RW_farjump_k17_two_strong_ones
set_option Elab.async false
set_option linter.all false
set_option maxRecDepth 100000
set_option maxHeartbeats 4000000
theorem zE1{A:Sort _}{p:A->Prop}{G:Prop}(h:∃a,p a)(k:∀a,p a->G):G:=h.elim k
theorem zE2{A:Sort _}{B:Sort _}{p:A->B->Prop}{G:Prop}(h:∃a b,p a b)(k:∀a b,p a b->G):G:=zE1 h λa h=>zE1 h (k a)
theorem zE3{A:Sort _}{B:Sort _}{C:Sort _}{p:A->B->C->Prop}{G:Prop}(h:∃a b c,p a b c)(k:∀a b c,p a b c->G):G:=zE1 h λa h=>zE2 h (k a)
theorem zE4{A:Sort _}{B:Sort _}{C:Sort _}{D:Sort _}{p:A->B->C->D->Prop}{G:Prop}(h:∃a b c d,p a b c d)(k:∀a b c d,p a b c d->G):G:=zE1 h λa h=>zE3 h (k a)
theorem zE5{A:Sort _}{B:Sort _}{C:Sort _}{D:Sort _}{E:Sort _}{p:A->B->C->D->E->Prop}{G:Prop}(h:∃a b c d e,p a b c d e)(k:∀a b c d e,p a b c d e->G):G:=zE1 h λa h=>zE4 h (k a)
theorem zE6{A:Sort _}{B:Sort _}{C:Sort _}{D:Sort _}{E:Sort _}{F:Sort _}{p:A->B->C->D->E->F->Prop}{G:Prop}(h:∃a b c d e f,p a b c d e f)(k:∀a b c d e f,p a b c d e f->G):G:=zE1 h λa h=>zE5 h (k a)
theorem zA2{p q G:Prop}(h:p/\q)(f:p->q->G):G:=f h.1 h.2
theorem zA3{p q r G:Prop}(h:p/\q/\r)(f:p->q->r->G):G:=zA2 h.2 (f h.1)
theorem zA4{p q r s G:Prop}(h:p/\q/\r/\s)(f:p->q->r->s->G):G:=zA3 h.2 (f h.1)
theorem zA5{p q r s t G:Prop}(h:p/\q/\r/\s/\t)(f:p->q->r->s->t->G):G:=zA4 h.2 (f h.1)
theorem zA6{p q r s t u G:Prop}(h:p/\q/\r/\s/\t/\u)(f:p->q->r->s->t->u->G):G:=zA5 h.2 (f h.1)
theorem zA7{p q r s t u v G:Prop}(h:p/\q/\r/\s/\t/\u/\v)(f:p->q->r->s->t->u->v->G):G:=zA6 h.2 (f h.1)
theorem zA8{p q r s t u v w G:Prop}(h:p/\q/\r/\s/\t/\u/\v/\w)(f:p->q->r->s->t->u->v->w->G):G:=zA7 h.2 (f h.1)
theorem zA9{p q r s t u v w x G:Prop}(h:p/\q/\r/\s/\t/\u/\v/\w/\x)(f:p->q->r->s->t->u->v->w->x->G):G:=zA8 h.2 (f h.1)
theorem zA10{p q r s t u v w x y G:Prop}(h:p/\q/\r/\s/\t/\u/\v/\w/\x/\y)(f:p->q->r->s->t->u->v->w->x->y->G):G:=zA9 h.2 (f h.1)
theorem zI2{A:Sort _}{B:Sort _}{p:A->B->Prop}(a:A)(b:B)(h:p a b):∃a b,p a b:=⟨a,b,h⟩
theorem zI3{A:Sort _}{B:Sort _}{C:Sort _}{p:A->B->C->Prop}(a:A)(b:B)(c:C)(h:p a b c):∃a b c,p a b c:=⟨a,b,c,h⟩
theorem zI4{A:Sort _}{B:Sort _}{C:Sort _}{D:Sort _}{p:A->B->C->D->Prop}(a:A)(b:B)(c:C)(d:D)(h:p a b c d):∃a b c d,p a b c d:=⟨a,b,c,d,h⟩
theorem zI5{A:Sort _}{B:Sort _}{C:Sort _}{D:Sort _}{E:Sort _}{p:A->B->C->D->E->Prop}(a:A)(b:B)(c:C)(d:D)(e:E)(h:p a b c d e):∃a b c d e,p a b c d e:=⟨a,b,c,d,e,h⟩
open Lean in
local macro_rules
|`(tactic|rcases $h:ident with ⟨$ps,*⟩)=>`(tactic|obtain ⟨$ps,*⟩:=$h)
|`(tactic|rintro $rs:rintroPat*)=>do
 let l:=rs[rs.size-1]!.raw[0]
 unless l.isOfKind ``Parser.Tactic.rcasesPat.tuple do Macro.throwUnsupported
 let p:TSyntax `rcasesPat:=⟨l⟩
 let z:=mkIdent (<-Macro.addMacroScope `zz)
 let r:=rs.pop
 if r.size==0 then `(tactic|(intro $z:ident;obtain $p:rcasesPat := $z)) else `(tactic|(rintro $r*;intro $z:ident;obtain $p:rcasesPat := $z))
|`(tactic|exact ⟨$es,*⟩)=>do if es.getElems.size<3 then Macro.throwUnsupported else `(tactic|refine ⟨$es,*⟩)
|`(tactic|refine ⟨$es,*⟩)=>do
 let es:=es.getElems
 let n:=es.size
 if n<3 then Macro.throwUnsupported
 let m:=min 5 (n-1)
 let mut al:Array (TSyntax `tactic):=#[]
 for z in [0:m-1] do
  let i:=m-z
  let r:=es[i:n].toArray
  let q<-if r.size==1 then pure r[0]! else `(⟨$r,*⟩)
  al:=al.push (<-`(tactic|refine $(mkIdent (.mkSimple s!"zI{i}")) $(es[0:i].toArray)* $q))
 `(tactic|first $[|$al:tactic]*)
|`(tactic|obtain ⟨$ps,*⟩:=$h:term)=>do
 let ps:=ps.getElems
 let n:=ps.size
 if n<2 then Macro.throwUnsupported
 let nw(s:String):MacroM Ident:=do return mkIdent (<-Macro.addMacroScope (.mkSimple s))
 unless h.raw.isIdent do
  let t<-nw "zz"
  return <-`(tactic|(have $t := $h;obtain ⟨$ps,*⟩:=$t))
 let h:Ident:=⟨h.raw⟩
 let mut bs:Array Ident:=#[]
 let mut mo:Array (Option (TSyntax `tactic)):=#[]
 let sh(q:Syntax):String:=(q.reprint.getD "").trimAscii.toString
 for i in [0:n] do
  let q:=ps[i]!.raw
  let o:=(q.find? λs=>s.isOfKind ``Parser.Tactic.rcasesPat.one).getD .missing
  if sh o==sh q&&sh q != "rfl" then
   bs:=bs.push ⟨o[0]⟩
   mo:=mo.push none
  else
   let x<-nw s!"x{i}"
   bs:=bs.push x
   if sh q=="_" then mo:=mo.push none
   else
    let p:TSyntax ``Parser.Tactic.rcasesPatMed:=⟨q[0]⟩
    mo:=mo.push (some (<-`(tactic|obtain $p:rcasesPatMed := $x)))
 let t<-nw "xx"
 let y<-nw "yy"
 let mut al:Array (TSyntax `tactic):=#[]
 let k:=((List.range n).find? λi=>((sh ps[i]!.raw).splitOn "rfl").length>1).getD n
 for (c,m) in [("zE",min 6 (n-1)),("zA",min 10 n-1)] do
  let m:=min m (k+1)
  for z in [0:m] do
   let i:=m-z
   let w:=i+1==n&&k+1>=n
   let mut ws:Array (TSyntax ``binderIdent):=#[]
   let mut hit:=false
   let mut g:Array Ident:=#[]
   for x in if w then bs else bs[0:i].toArray.push t do
    if x.getId==h.getId then
     hit:=true
     ws:=#[<-`(binderIdent|$x:ident)]
     g:=g.push y
    else
     if x.getId.hasMacroScopes then ws:=ws.push (<-`(binderIdent|_))
     g:=g.push x
   let mut s:Array (TSyntax `tactic):=#[<-`(tactic|refine $(mkIdent (.mkSimple s!"{c}{if c=="zE" then i else i+1}")) $h fun $g* => ?_),<-`(tactic|try clear $h)]
   if hit then s:=s.push (<-`(tactic|rename_i $ws*))
   for j in [0:if w then n else i] do
    if let some y:=mo[j]! then s:=s.push y
   unless w do
    let r:=ps[i:n].toArray
    if r.size==1 then
     s:=s++#[<-`(tactic|have $(bs[n-1]!) := $t),<-`(tactic|clear $t)]
     if let some y:=mo[n-1]! then s:=s.push y
    else s:=s.push (<-`(tactic|obtain ⟨$r,*⟩:=$t))
   al:=al.push (<-`(tactic|($[$s:tactic];*)))
 `(tactic|first $[|$al:tactic]*)
noncomputable section
open Option renaming some->ae,none->am,isSome_map->ahA,isSome_iff_exists->ahD,bind_some->ahQ
open PySem renaming wpAny_bind->ag,Value->ai,wpAny_pure->ak,Shared->ao,Heap->av,Addr->aw,sizeLine->aE,Str->aJ,starEach->aP,Program->aQ,mainGlobals->aZ,Around->bj,wpAny_holding->bv,World->bw,Expr->bE,Builtin->bH,wpAny_call_entry->bM,sizeLine_eq->bT,PyData->bX,bootBuiltins->cb,Stmt->cc,sysModules->cj,wpAny_callSpecial?_slot->cx,wpAny_mono->cz,Obj->cE,wpAny_field->cJ,SetTable->cK,wpAny_truthy_bool->cO,assignEach->cT,wpAny_setField->c5,codeAny_mono->c6,codeAny_builtin->c7,backTo->c9,scanBound->dw,attributeBase->dz,swapsWith->dB,wpAny_newObj_type->dD,wpAny_pyIter_list->dF,rawInt->dL,Scope->dN,wpAny_attempt->dO,wpAny_Call_Name_kw->dQ,foldedSetIterable->dX,FuncData->dY,bindArgs->dZ,NameKind->d6,valueAt->d7,codeAny_call_builtin->d9,wpAny_call->eF,wpAny_setEntries_of->eO,wpAny_seqItems->eS,IsPair->eT,keywordEach->eW,strIterType->eX,Pos->eZ,wpAny_setField_rec->fb,wpAny_newList->fe,wpAny_dictEntries->fj,wpAny_setState_of->ft,sliceBounds->fB,wpAny_rule->fC,excClassObj->fD,cLine->fH,plainId_quiet->fN,wpAny_pyIter_tuple->fV,TriplesOk->gB,wpAny_isInstance->gC,wpAny_standAt->aht,wpAny_passesOwn->ahz,wpAny_specialOf->ahB,wpAny_isSubtype_exc->ahF,wpAny_richCompare_same_room->ahK,tupleKind_room_in1->ahR,wpAny_newTuple->ahS,Env->ah1,Draws->ah2,IsZip->ah3,fits_of_scanBound->ah5,wpAny_loadPart_at->ah6,pyIter->ah7,PassesOwn->aid,backToKw->aie,codeAmong->aif,GenState->aii,Keyword->aiq,getItem->air,wpAny_typeOf->ais,wpAny_execs_nil->aiv,Walks->aiw,codeAny_of_tree->aix,wpAny_updateSeq_pair->aiy,relayAll->aiB,wpAny_fieldsOf->aiC,behindInMarks->aiG,wpAny_onRaise->aiH,wpAny_load->aiJ,call_meets->aiK,closureFor->aiL,findBy_of_findIdx?->aiM,slot_dict_contains->aiN,isInstance->aiO,BindsTo->aiP,slot_list_getitem->aiQ,callerA->aiR,wpAny_pyIter_slot->aiW,ExcBaseFacts->aiX,plainObj_wpAny_Assign_Attribute->aiY,tupleKind->aiZ,getMethod->ai0,wpAny_lookBehind->ai1,pastItsLine_dict->ai2,Result->ai3,IsPart->ai4,Arguments->ai5,wpAny_askSetting->ai6,pickOrder->ai7,wpAny_letGo->ai8,standAt->ai9,notedBy->aja,Operator->ajc,wpAny_loadPart->ajd,wpAny_newFunctionEnv_cells->aje,wpAny_runValue->ajj,dictSetDefault->ajk,preSum->ajl,swapsWithSole->ajm,swappedStores->ajn,wpAny_getItem_list_slice->ajo,wpAny_comprehension_free->ajp,lastMarks->ajr,cellsFrom->ajs,atKey->ajt,slicePick->aju,setFlight->ajv,noteFrame->ajw,isTrue->ajx,wpAny_pyNext_list_item->ajy,wpAny_nsSet1->ajz,ItemsOf->ajD,callAny->ajE,wpAny_pyNext_list_end->ajF,weight_type_call_type->ajG,wpAny_notOrdered_dict->ajH,Drawn->ajI,wpAny_loadName_local->ajJ,bindL->ajK,bindC->ajL,wpAny_letTemporaryGo->ajM,wpAny_of_eq->ajN,Moved->ajO,getAttr?->ajP,entryFor->ajQ,richCompare->ajR,wpAny_loadName_cell->ajT,builtinsNs->ajU,wpAny_Name->ajV,findBy->ajW,typeLookup->ajX,typeIs_str->ajZ,typeIs_int->aj0,getattributeRaised->aj1,defaultsOf->aj2,wpAny_assign_Name->aj3,getAttr->aj4,setAttr->aj5,wpAny_sequenceKey->aj6,wpAny_pyIter_strU->aj7,wpAny_pyIter_enum->aj8,dictGet->aj9,slot_dict_getitem->aka,wpAny_dictFind_of->akb,ElemsOf->akc,wpAny_storeSet_of->akd,setNext->ake,wpAny_setEpoch_of->akf,OsState->akg,wpAny_pyHash_str->akh,wpAny_eqBool_str->aki,storeName->akj,wpAny_execs_cons->akk,inplaceOp->akl,noFill_tuple_add->akm,wpAny_pyIter_zip->akn,check_set_init_1->ako,entryFor_of_tree->akp,callGetattribute->akq,wpAny_operating->akr,wpAny_dictEpoch->aku,wpAny_ite_split->akv,wpAny_updateSeq->akw,Tok->akx,recursionLimit->aky,typeOf->akB,letTemporaryGo->akC,firstArgMember->akD,isSubtype_stop->akE,callWith->akF,entryFor_alias->akI,boundAndCalled->akJ,assignInOrder->akK,intBits_le_64->akL,seq_tuple_add->akM,call_list_seq->akN,wpAny_handled->akO
open PySem.Heap renaming get?_push_of_some->ah,get?_push_size->az,lt_size->aB,SameBut->bg,get?_update_other->bI,size_push->bW,get?_update_self->ck,get?_none_of_le->cR,get?_update_ne->d8,ExtBut->gg,get?_push_ne->ahJ,size_update->ahX
open Bool renaming true->aj,false->aq,false_ne_true->aM,and_eq_true->aY,false_eq_true->eN,eq_iff_iff->gj
open List renaming getElem?_eq_some_iff->ap,length_map->ar,getElem?_eq_getElem->ax,mem_cons_of_mem->ay,mem_cons->aC,mem_cons_self->aH,size_toArray->aN,getElem?_append_left->aR,prefix_refl->aS,mem_map->aV,map_cons->aX,append_nil->ba,length_cons->bc,mem_append->bd,mem_singleton->bf,map_append->bh,getElem?_map->bq,append_assoc->bt,getElem?_set_ne->bx,map_map->bB,getD_eq_getElem?_getD->bD,mem_of_getElem?->bF,getElem?_set_self->bG,replicate->bL,length_append->bN,mem_append_right->bO,not_mem_nil->bP,all_eq_true->bR,mem_append_left->bS,length_nil->cm,getElem?_eq_none->cn,length_filter_le->cu,mem_filter->cy,Nodup->cD,zip_cons_cons->cI,nodup_cons->cL,range->cQ,map_congr_left->cV,length_zip->cY,prefix_append->cZ,getElem?_append_right->df,nodup_append->dg,nodup_nil->dh,getElem?_zip_eq_some->dj,pairwise_cons->dk,zipWith->dG,any_cons->dH,length_take->dI,lookup_cons->dJ,mem_iff_getElem?->dM,drop_eq_getElem_cons->dP,mem_range->ej,length_eq_zero_iff->eA,filter_cons->eB,mem_flatMap->eC,zipWith_cons_cons->eM,filter_append->eQ,filter_eq_nil_iff->eR,Perm->eV,contains_iff_mem->eY,getElem_inj->fg,filter_sublist->fw,length_mapIdx->fJ,find?_eq_none->fM,reverse_cons->fO,ext_getElem?->fQ,length_range->fR,flatMap_cons->fS,foldl_append->fU,getElem_mem->fX,map_snd_zip->fY,any_eq_true->f6,lookup->gb,of_mem_zip->gk,foldl_cons->gm,nil_append->gp,length_set->gu,filterMap_cons->gA,length_zipWith->gE,map_nil->ahu,set_cons_succ->ahy,pairwise_iff_getElem->ahE,length->ahG,not_lt->ahH,getElem?_inj->ahI,all_cons->ahL,filterMap_cons_some->ahO,take_length->ahW,pairwise_singleton->ahY,take_of_length_le->ah4,forIn_cons->ah8,getElem?_zipWith->aib,getElem?_mapIdx->ail,lt_irrefl->ain
open Nat renaming le_of_ble_eq_true->au,le_refl->aD,ne_of_lt->aO,le_trans->bi,lt_of_lt_of_le->bp,zero_le->bC,zero_add->bJ,lt_of_le_of_lt->bY,lt_succ_of_lt->cA,le_succ->cB,lt_irrefl->cS,ne_of_gt->du,le_of_lt->dR,lt_succ_self->fu,le_of_eq->ahw,not_lt->aia
open Prod renaming fst->aU,snd->aio
open Option.some renaming inj->bn
open Array renaming length_toList->bu,getElem?_toList->bQ,getElem?_eq_getElem->cG,getElem?_eq_some_iff->de
open PySem.Value renaming ref->bA,none->cC,type->cU,isStrOf->eU,isInt->aic,str->aij
open PySem.Heap.SameBut renaming update->bU
open Ne renaming symm->bV
open PySem.Obj renaming data_mapFields->bZ,mapSeq->ci,isFreed_of_fields->cX,mapFields->di,cls_mapFields->ahN
open PyProof.Rows renaming seqObj->b8,StrsAre->cM,step_dedup->cW,callWith_type1->eD,envOfC->eG,listUpdate_at->eJ,slot_tuple_getitem->fE,get?_update_seq->fP,AllBare->f7,size_push'->gF,seqEpoch_at->ahx,entry_list_sort->ahC,strKind->ahP,slot_list_sort->ahT,arrOf->ahU,step_dedup->ahV,SortedToK->aig,wpS_bind->aih,plain_sorted->ait,entry_sorted->aiu,kind_sorted->aiz,args_list_sort->aiA,pendingOf->aiD,pairsOf->aiE,IsTup->aiF,strKind_oneLt->aiI,args_sorted1->aiS,keyKind_strs->aiT,listItems_at->aiU,pairsOf_size->aiV,sortedS->ajb,sortedHeap_old->ajf,wpS_pure->ajg,failedOf->ajh,setPending->aji,sortedHeap_at->ajq,subscriptTail_builtinR->ajA,IntsAre->ajB,collect_list->ajC,FormattedValue_plain->ajS,Subscript_->ajY,list_sort_treeK->aks,list_sort_plain->akt,slicePart_none->akz,tail_any->akA,sorted_out_str->akG,setObjOf_fresh->akH
open PySem.SeqAt renaming EqAt->b9
open False renaming elim->cw
open PyProof.Rows.F renaming plain_set_update_loop->cN,entry_set_update_loop->dn
open Sum renaming inr->c8
open PySem.SetTable renaming below->dq,grown->gy
open PySem.PyData renaming strOk->dA,depth->gq,shown->gz,depthAll->ah0,intsShortAll->aip
open Int renaming toNat_natCast->dS
open List.Perm renaming refl->dU
open True renaming intro->dW
open PySem.Builtin.SmallTypes renaming nextOf->eI,ownedTupleIsFree->eL
open Or renaming inr->eK,inl->fF
open PySem.NameKind renaming free->fh
open PySem.AutoSeq1 renaming wpAny_loadPart'->fi
open PySem.Calls renaming call_function_entry->fq,callWith_builtin->ahZ
open PySem.F renaming slot_tuple_iterator_next->fv,slot_zip_next->aik
open PySem.Around renaming under_plainId->fZ
open PySem.Builtin.Slice renaming slicePlaces->f8
open PySem.SetTable.below renaming go->f9
open List.Pairwise renaming nil->gf
open PySem.Builtin.List renaming listTooLong->gn
open PySem.Builtin.Str renaming occurrences->ahv
open ForInStep renaming yield->ahM
open PySem.Str renaming ofString->ah9
open PySem.F renaming plainAttrs_list->af,type_list_append->aF,slot_list_append->bb
open PySem.W renaming Frag->bz,findIn->dr,kitOne->dt,nsIn->dy,mg_of->dV,mg_none_of->ec,fnOf->ee,keepIn->ef
section
open PySem PySem.Spec PyProof.Rows
namespace L2
abbrev Key:=Sum Int aJ
noncomputable def F8:Key->ai->Bool
 |.inl k,v=>aic k v
 |.inr x,v=>eU x v
noncomputable def af6(w:bw):Key->Int
 |.inl k=>hashInt k
 |.inr x=>hashStr w x
theorem jP:∀{k:Key} {v:ai},F8 k v=aj->(∃i t,k=Sum.inl i/\v=ai.int i t)\/(∃x t,k=c8 x/\v=aij x t)
 |.inl i,v,h=>by obtain⟨t,e⟩:=ai.isInt_shape h;exact .inl ⟨i,t,rfl,e⟩
 |.inr x,v,h=>by obtain⟨t,e⟩:=ai.isStrOf_shape h;exact .inr ⟨x,t,rfl,e⟩
theorem Rn(i:Int)(t:akx):F8 (.inl i) (.int i t)=aj:=by simp[F8,aic]
theorem Ro(x:aJ)(t:akx):F8 (.inr x) (.str x t)=aj:=by simp[F8,eU]
theorem aby(a b:Int):decide ((Sum.inl a:Key)=Sum.inl b)=(a==b):=by
 by_cases e:a=b
 .subst e;simp
 .have h:¬(Sum.inl a:Key)=Sum.inl b:=λq=>e (Sum.inl.inj q);rw[decide_eq_false h];exact(beq_eq_false_iff_ne.mpr e).symm
theorem abz(a b:aJ):decide ((c8 a:Key)=c8 b)=decide (a=b):=by
 by_cases e:a=b
 .simp
 .have h:¬(c8 a:Key)=c8 b:=λq=>e (c8.inj q);rw[decide_eq_false h,decide_eq_false e]
theorem abA(a:Int)(b:aJ):decide ((Sum.inl a:Key)=c8 b)=aq:=decide_eq_false (λq=>nomatch q)
theorem abB(a:aJ)(b:Int):decide ((c8 a:Key)=Sum.inl b)=aq:=decide_eq_false (λq=>nomatch q)
noncomputable def iF(prog:aQ)(w:bw):PySem.KeyKind prog w Key where
 is:=F8
 hash:=af6 w
 inj:=λv a b ha f=>by
  rcases jP ha with⟨i,t,rfl,rfl⟩|⟨x,t,rfl,rfl⟩
  .rcases jP f with⟨j,u,rfl,e⟩|⟨y,u,rfl,e⟩
   .injection e with e1 _;rw[e1]
   .exact nomatch e
  .rcases jP f with⟨j,u,rfl,e⟩|⟨y,u,rfl,e⟩
   .exact nomatch e
   .injection e with e1 _;rw[e1]
 byValue:=λk v h=>by rcases jP h with⟨i,t,rfl,rfl⟩|⟨x,t,rfl,rfl⟩<;>rfl
 pyHash:=λc h=>by
  rcases jP c with⟨i,t,rfl,rfl⟩|⟨x,t,rfl,rfl⟩
  .exact wpAny_pyHash_int h
  .exact akh h
 eqBool:=λg c h=>by
  rcases jP g with⟨i,t,rfl,rfl⟩|⟨x,t,rfl,rfl⟩
  .rcases jP c with⟨j,u,rfl,rfl⟩|⟨y,u,rfl,rfl⟩
   .rw[aby] at h;exact wpAny_eqBool_int h
   .rw[abA] at h;exact b9.int_str i t y u _ _ _ _ h
  .rcases jP c with⟨j,u,rfl,rfl⟩|⟨y,u,rfl,rfl⟩
   .rw[abB] at h;exact b9.str_int x t j u _ _ _ _ h
   .rw[abz] at h;exact aki h
 «strs»:=λk x t v h=>by
  rcases jP h with⟨i,u,rfl,e⟩|⟨y,u,rfl,e⟩
  .exact nomatch e
  .injection e with e1 _;subst e1;cases v<;>rfl
theorem Jy(prog:aQ)(w:bw)(i:Int)(t:akx):(iF prog w).is (.inl i) (.int i t)=aj:=Rn i t
theorem Jz(prog:aQ)(w:bw)(x:aJ)(t:akx):(iF prog w).is (.inr x) (.str x t)=aj:=Ro x t
inductive V where
 |non|bl (b:Bool)|int (i:Int)|str (x:aJ)|TM (b:Array UInt8)|flt (b:UInt64)|ref (a:aw)|ty (n:String)
 deriving DecidableEq
def RelV:V->ai->Prop
 |.non,u=>u=cC
 |.bl b,u=>u=ai.bool b
 |.int i,u=>∃t,u=ai.int i t
 |.str x,u=>∃t,u=aij x t
 |.TM b,u=>∃t,u=ai.bytes b t
 |.flt b,u=>∃t,u=ai.float b t
 |.ref a,u=>u=bA a
 |.ty n,u=>u=cU n
abbrev Vals:List V->List ai->Prop:=Paired RelV
theorem Vals.length(r:Vals xs us):xs.length=us.length:=Paired.length r
theorem Vals.get:∀{xs:List V} {us:List ai} {i:Nat} {x:V},Vals xs us->xs[i]?=ae x->∃u,us[i]?=ae u/\RelV x u
 |_,_,_,_,.nil,e=>by simp at e
 |_,_,0,_,.cons r _,e=>by simp at e;subst e;exact⟨_,rfl,r⟩
 |_,_,i+1,x,.cons _ t,e=>by obtain⟨u,a,b⟩:=Vals.get t (by simpa using e);exact⟨u,by simpa using a,b⟩
theorem Vals.set{x:V}{u:ai}(r:RelV x u):∀{xs:List V} {us:List ai} (i:Nat),Vals xs us->Vals (xs.set i x) (us.set i u)
 |_,_,_,.nil=>.nil
 |_,_,0,.cons _ t=>.cons r t
 |_,_,i+1,.cons q t=>.cons q (Vals.set r i t)
theorem Vals.append:∀{xs a:List V} {us ws:List ai},Vals xs us->Vals a ws->Vals (xs++a) (us++ws)
 |_,_,_,_,.nil,s=>s
 |_,_,_,_,.cons r t,s=>.cons r (Vals.append t s)
theorem Vals.take:∀{xs:List V} {us:List ai} (n:Nat),Vals xs us->Vals (xs.take n) (us.take n)
 |_,_,0,_=>.nil
 |_,_,_+1,.nil=>.nil
 |_,_,n+1,.cons r t=>.cons r (Vals.take n t)
theorem Vals.drop:∀{xs:List V} {us:List ai} (n:Nat),Vals xs us->Vals (xs.drop n) (us.drop n)
 |_,_,0,r=>r
 |_,_,_+1,.nil=>.nil
 |_,_,n+1,.cons _ t=>Vals.drop n t
def rq:Option V->Option ai->Prop
 |some v,ae u=>RelV v u
 |none,am=>True
 |_,_=>False
def KV {a:Type}:List (a×V)->List (a×ai)->Prop:=Paired λ(p:a×V) (q:a×ai)=>p.1=q.1/\RelV p.2 q.2
noncomputable def kV:Key->V
 |.inl i=>.int i
 |.inr x=>.str x
inductive HO where
 /- - a list-/
 |lst (xs:List V)
 /- - a tuple (never changes)-/
 |tup (xs:List V)
 /- - a dict whose keys are ints and texts;one whose keys are tuples of ints and texts (the empty one is both)-/
 |dK (hU:List (Key×V))|dT (hU:List (List Key×V))
 /- - a set of ints:its members,its size-/
 |set (S:Int->Bool) (n:Nat)
 /- - an instance of the class at C,its dict at dx,its attributes-/
 |ins (C dx:aw) (fs:List (aJ×V))
 /- - the dict of the instance at x-/
 |own (x:aw)
 /- - the dict of an exception-/
 |xd (fs:List (aJ×V))
 /- - a bound method,f of x-/
 |met (f x:aw)
 /- - a range object lo,lo+1,.. below hi-/
 |rng (lo hi:Int)
 /- - a thing ahk is known to the object (the af7;a dict while a loop walks it):read,never written while it is so-/
 |qD (o:cE) (u:HO)
 /- - a code adZ table-/
 |yJ (ps:Array ai)
 |dE (ep:Nat) (hU:List (Key×V))
 |xc (C:aw) (fs:List (aJ×V))
 /- - any other thing,by ahl is aj of its one object (a def of ahh own:ahm a S n:=HO.ext λh=>..)-/
 |ext (φ:av->Prop)
abbrev Hp:=aw->Option HO
noncomputable def upd(H:Hp)(a:aw)(o:HO):Hp:=λb=>if b=a then ae o else H b
theorem gS:upd H a o a=ae o:=by unfold upd;rw[if_pos rfl]
theorem gM(h:b≠a):upd H a o b=H b:=by unfold upd;rw[if_neg h]
theorem ad0{H:Hp}(h:H a=ae o)(c:H b=ae u)(d:o≠u):a≠b:=by intro e;subst e;rw[h] at c;exact d (bn c)
theorem i5{H:Hp}(h:H a=ae o)(c:H b=am):a≠b:=by intro e;subst e;rw[h] at c;cases c
section
variable (P:aQ) (w:bw)
def jd (H:Hp)(h:av)(a:aw):HO->Prop
 |.lst xs=>xs.length<=aE/\∃(its:List ai) (n:Nat),Vals xs its/\h.get? a=ae {cls:=.type "list",data:=.seq its.toArray n}
 |.tup xs=>xs.length<=aE/\∃its:List ai,Vals xs its/\aiF h a its.toArray
 |.dK e=>e.length<=aE/\(a==cj)=aq/\∃g,KV e g/\h.DictOf (iF P w) a g
 |.dT e=>e.length<=aE/\(a==cj)=aq/\∃xs:List (List Key×aw×ai),
   Paired (λ(p:List Key×V) (q:List Key×aw×ai)=>p.1=q.1/\H q.2.1=ae (.tup (p.1.map kV))/\RelV p.2 q.2.2) e xs/\
   ∃o es j,h.get? a=ae o/\o.ExactDict/\o.data=.dict es j/\es.toList=xs.map (entryOfKey (aiZ (iF P w)))/\(xs.map (·.1)).Nodup
 |.set S n=>h.SetOf (intKind P w) a S n
 |.ins C b fs=>H b=ae (.own a)/\fs.length<=1000/\b≠a/\h.get? a=ae (W.instObj C b)/\
   ∃c,h.Ns1 b c/\(∀f,rq (fs.lookup f) (c f))/\PySem.Within c (fs.map (·.1))
 |.own _=>∃o,h.get? a=ae o
 |.xd fs=>∃c,h.Ns1 a c/\∀f,rq (fs.lookup f) (c f)
 |.rng lo hi=>∃t u v,h.get? a=ae {cls:=.type "range",data:=.fields #[.int lo t,.int hi u,.int 1 v]}
 |.qD o u=>h.get? a=ae o/\jd H h a u
 |.yJ y=>h.get? a=ae {cls:=.none,data:=.fields y}
 |.dE j e=>e.length<=aE/\(a==cj)=aq/\∃g,KV e g/\h.DictAt (iF P w) a g j
 |.xc C fs=>∃i g,h.get? a=ae i/\i.cls=.ref C/\i.data=.fields g/\((i.dict=am/\fs=[])\/∃b c,i.dict=ae b/\b≠a/\H b=ae (.own a)/\h.Ns1 b c/\∀f,rq (fs.lookup f) (c f))
 |.met f x=>h.get? a=ae (W.methodObj (.ref f) (.ref x))
 |.ext m=>m h/\(∃o,h.get? a=ae o)/\∀r s:av,m r->(∀o,r.get? a=ae o->s.get? a=ae o)->m s
def sN (H:Hp)(h:av):Prop:=∀a o,H a=ae o->jd P w H h a o
end
section
variable {P:aQ} {w:bw} {H H':Hp} {h h':av} {a:aw} {o:HO}
theorem jd.lt(x:jd P w H h a o):a<h.objs.size:=by
 cases o with
 |lst xs=>obtain⟨_,_,_,_,e⟩:=x;exact aB e
 |tup xs=>obtain⟨_,_,_,p⟩:=x;exact p.lt
 |dK b=>obtain⟨_,_,_,_,o,_,_,e,_⟩:=x;exact aB e
 |dT b=>obtain⟨_,_,_,_,o,_,_,e,_⟩:=x;exact aB e
 |set S n=>obtain⟨o,_,_,_,e,_⟩:=x;exact aB e
 |ins C c fs=>obtain⟨_,_,_,e,_⟩:=x;exact aB e
 |own y=>obtain⟨_,e⟩:=x;exact aB e
 |xd fs=>obtain⟨_,⟨_,_,_,e,_⟩,_⟩:=x;exact aB e
 |rng lo hi=>obtain⟨_,_,_,e⟩:=x;exact aB e
 |qD ob u=>obtain⟨e,_⟩:=x;exact aB e
 |yJ g=>exact aB (x)
 |dE i b=>obtain⟨_,_,_,_,o,_,e,_⟩:=x;exact aB e
 |xc C fs=>obtain⟨_,_,e,_⟩:=x;exact aB e
 |met f y=>exact aB (x)
 |ext j=>obtain⟨_,⟨_,e⟩,_⟩:=x;exact aB e
theorem Paired.abC:∀{c:List α} {e:List β},Paired F c e->(∀a b,F a b->G a b)->Paired G c e
 |_,_,.nil,_=>.nil
 |_,_,.cons r t,f=>.cons (f _ _ r) (Paired.abC t f)
theorem jd.sQ(x:jd P w H h a o)(k:∀b u,(b=a\/H b=ae (.own a))->h.get? b=ae u->h'.get? b=ae u)
(s:∀b,H b=ae (.own a)->H' b=ae (.own a))(ht:∀b xs,H b=ae (.tup xs)->H' b=ae (.tup xs)):jd P w H' h' a o:=by
 induction o with
 |lst xs=>obtain⟨z,its,n,r,e⟩:=x;exact⟨z,its,n,r,k _ _ (.inl rfl) e⟩
 |tup xs=>obtain⟨z,its,r,ob,e,c⟩:=x;exact⟨z,its,r,ob,k _ _ (.inl rfl) e,c⟩
 |dK A=>obtain⟨z,y,i,r,ob,es,g,e,c⟩:=x;exact⟨z,y,i,r,ob,es,g,k _ _ (.inl rfl) e,c⟩
 |dT A=>
  obtain⟨z,y,xs,r,ob,es,g,e,c⟩:=x;exact⟨z,y,xs,Paired.abC r λp q z=>⟨z.1,ht _ _ z.2.1,z.2.2⟩,ob,es,g,k _ _ (.inl rfl) e,c⟩
 |set S n=>obtain⟨ob,es,g,t,e,c⟩:=x;exact⟨ob,es,g,t,k _ _ (.inl rfl) e,c⟩
 |ins C B fs=>
  obtain⟨d,z,ne,e,j,⟨od,es,g,e2,c⟩,r⟩:=x;exact⟨s _ d,z,ne,k _ _ (.inl rfl) e,j,⟨od,es,g,k _ _ (.inr d) e2,c⟩,r⟩
 |own y=>obtain⟨ob,e⟩:=x;exact⟨ob,k _ _ (.inl rfl) e⟩
 |xd fs=>obtain⟨j,⟨od,es,g,e,c⟩,r⟩:=x;exact⟨j,⟨od,es,g,k _ _ (.inl rfl) e,c⟩,r⟩
 |rng lo hi=>obtain⟨t,u,v,e⟩:=x;exact⟨t,u,v,k _ _ (.inl rfl) e⟩
 |qD ob u G=>obtain⟨e,q⟩:=x;exact⟨k _ _ (.inl rfl) e,G q⟩
 |dE g A=>obtain⟨z,y,i,r,ob,es,e,c⟩:=x;exact⟨z,y,i,r,ob,es,k _ _ (.inl rfl) e,c⟩
 |xc C fs=>
  obtain⟨I,i,e,J,L,m⟩:=x;refine⟨I,i,k _ _ (.inl rfl) e,J,L,?_⟩;rcases m with m|⟨B,j,M,N,E,⟨od,es,g,e2,c⟩,O⟩
  .exact .inl m
  .exact .inr ⟨B,j,M,N,s _ E,⟨od,es,g,k _ _ (.inr E) e2,c⟩,O⟩
 |yJ Q=>
  have e:=x;exact k a _ (.inl rfl) e
 |met f y=>
  have e:=x;exact k a _ (.inl rfl) e
 |ext T=>obtain⟨p,⟨o,e⟩,st⟩:=x;exact⟨st _ _ p λo q=>k _ _ (.inl rfl) q,⟨o,k _ _ (.inl rfl) e⟩,st⟩
theorem sN.lt(x:sN P w H h)(e:H a=ae o):a<h.objs.size:=(x a o e).lt
theorem sN.fresh(x:sN P w H h)(e:h.objs.size<=a):H a=am:=by
 cases q:H a with
 |none=>rfl
 |some u=>exact absurd (bp (x.lt q) e) (cS _)
theorem sN.kept(x:sN P w H h)(k:∀b u,h.get? b=ae u->h'.get? b=ae u):sN P w H h':=λa o e=>
 (x a o e).sQ (λb u _ q=>k b u q) (λ_ q=>q) λ_ _ q=>q
theorem sN.laid(x:sN P w H h)(k:∀b u,h.get? b=ae u->h'.get? b=ae u)(g:h.objs.size<=a)(new:jd P w (upd H a o) h' a o):sN P w (upd H a o) h':=λb u e=>by
 have hn:=x.fresh g;by_cases f:b=a
 .subst f;rw[gS] at e;cases e;exact new
 .rw[gM f] at e;exact(x b u e).sQ (λc v _ q=>k c v q) (λc q=>by rw[gM (i5 q hn)];exact q) λc xs q=>by rw[gM (i5 q hn)];exact q
end
def Rd (H:Hp)(a:aw)(u:HO):Prop:=H a=ae u\/∃o,H a=ae (.qD o u)
theorem Rd.ok(r:Rd H a u)(x:sN P w H h):jd P w H h a u:=by
 rcases r with r|⟨o,r⟩
 .exact x a u r
 .obtain⟨_,q⟩:=x a _ r;exact q
def Mut:Option HO->Prop
 |some (.lst _)=>True
 |some (.dK _)=>True
 |some (.dT _)=>True
 |some (.set _ _)=>True
 |some (.ins _ _ _)=>True
 |some (.ext _)=>True
 |some (.dE _ _)=>True
 |_=>False
section
variable {P:aQ} {w:bw} {H:Hp} {h h':av} {x e:aw} {o':HO}
theorem sN.write(ok:sN P w H h)(f:Mut (H x))(o:e=x\/H e=ae (.own x))(k:∀b u,b≠e->h.get? b=ae u->h'.get? b=ae u)(m:∃u,h'.get? e=ae u)
(new:jd P w (upd H x o') h' x o'):sN P w (upd H x o') h':=λb u q=>by
 have a:∀c y,H c=ae (.own y)->c≠x:=λc y r z=>by subst z;rw[r] at f;exact f
 have n:∀c xs,H c=ae (.tup xs)->c≠x:=λc xs r z=>by subst z;rw[r] at f;exact f
 by_cases g:b=x
 .subst g;rw[gS] at q;cases q;exact new
 .rw[gM g] at q;by_cases i:b=e
  .have p:H b=ae (.own x):=by
    rcases o with z|z
    .exact absurd (i.trans z) g
    .rw[i];exact z
   rw[q] at p;cases p;obtain⟨v,s⟩:=m;exact⟨v,by rw[i];exact s⟩
  .refine(ok b u q).sQ (λc v j r=>k c v ?_ r) (λc r=>by rw[gM (a c b r)];exact r) λc xs r=>by rw[gM (n c xs r)];exact r
   rcases j with rfl|j
   .exact i
   .rintro rfl
    rcases o with z|z
    .exact a c b j z
    .rw[j] at z;cases z;exact g rfl
end
structure Un(fs ex:List aw)(H H':Hp)(h h':av):Prop where
 keep:∀b o,h.get? b=ae o->H b=am->b∉fs->b∉ex->h'.get? b=ae o
 slot:∀b o,h.get? b=ae o->H b=am->b∈fs->b∉ex->∃sl,h'.get? b=ae {o with slots:=sl}
 free:∀b o,h.get? b=ae o->H b=am->b∉ex->H' b=am
 there:∀b o,h.get? b=ae o->b∉ex->∃o',h'.get? b=ae o'
 uO:∀b xs,H b=ae (.tup xs)->H' b=ae (.tup xs)
 rA:∀b o u,H b=ae (.qD o u)->H' b=ae (.qD o u)
 sR:∀b ps,H b=ae (.yJ ps)->∃more,H' b=ae (.yJ (ps++more))
section
variable {fs fs' ex ex':List aw} {H H1 H2:Hp} {h h1 h2 h':av} {a x e:aw} {o:HO}
theorem Un.any(u:Un fs ex H H1 h h1)(q:h.get? b=ae ob)(n:H b=am)(c:b∉ex):∃sl,h1.get? b=ae {ob with slots:=sl}:=by
 by_cases f:b∈fs
 .exact u.slot b ob q n f c
 .exact⟨ob.slots,u.keep b ob q n f c⟩
theorem Un.trans(a:Un fs ex H H1 h h1)(b:Un fs ex H1 H2 h1 h2):Un fs ex H H2 h h2 where
 keep:=λc ob q n g f=>b.keep c ob (a.keep c ob q n g f) (a.free c ob q n f) g f
 slot:=λc ob q n g f=>by obtain⟨sl,e1⟩:=a.slot c ob q n g f;obtain⟨i,e2⟩:=b.slot c _ e1 (a.free c ob q n f) g f;exact⟨i,e2⟩
 free:=λc ob q n f=>by obtain⟨j,e1⟩:=a.there c ob q f;exact b.free c j e1 (a.free c ob q n f) f
 there:=λc ob q f=>by obtain⟨j,e1⟩:=a.there c ob q f;exact b.there c j e1 f
 uO:=λc xs q=>b.uO c xs (a.uO c xs q)
 rA:=λc ob xs q=>b.rA c ob xs (a.rA c ob xs q)
 sR:=λc m q=>by obtain⟨p,e1⟩:=a.sR c m q;obtain⟨r,e2⟩:=b.sR c _ e1;exact⟨p++r,by rw[e2,Array.append_assoc]⟩
theorem Un.kept(k:∀b u,h.get? b=ae u->h'.get? b=ae u):Un fs ex H H h h':=
 ⟨λb ob q _ _ _=>k b ob q,λb ob q _ _ _=>⟨ob.slots,k b ob q⟩,λ_ _ _ n _=>n,λb ob q _=>⟨ob,k b ob q⟩,λ_ _ q=>q,λ_ _ _ q=>q,λ_ c q=>⟨#[],by rw[q];simp⟩⟩
theorem Un.refl:Un fs ex H H h h:=Un.kept λ_ _ q=>q
theorem Un.laid(k:∀b u,h.get? b=ae u->h'.get? b=ae u)(c:h.objs.size<=a)(hn:H a=am):Un fs ex H (upd H a o) h h' where
 keep:=λb u q _ _ _=>k b u q
 slot:=λb u q _ _ _=>⟨u.slots,k b u q⟩
 free:=λb u q n _=>by rw[gM (aO (bp (aB q) c))];exact n
 there:=λb u q _=>⟨u,k b u q⟩
 uO:=λb xs q=>by rw[gM (i5 q hn)];exact q
 rA:=λb u xs q=>by rw[gM (i5 q hn)];exact q
 sR:=λb f q=>⟨#[],by rw[gM (i5 q hn),q];simp⟩
theorem Un.write(c:Mut (H x))(m:e=x\/H e=ae (.own x))(k:∀b u,b≠e->h.get? b=ae u->h'.get? b=ae u)(f:∃u,h'.get? e=ae u):Un fs ex H (upd H x o) h h':=by
 have g:∀b,H b=am->b≠x:=λb n z=>by subst z;rw[n] at c;exact c
 have i:∀b,H b=am->b≠e:=λb n z=>by
  subst z;rcases m with r|r
  .exact g b n r
  .rw[n] at r;cases r
 have hm:∀b u,H b=ae u->¬Mut (ae u)->b≠x:=λb u q nm z=>by subst z;rw[q] at c;exact nm c
 refine⟨λb u q n _ _=>k b u (i b n) q,λb u q n _ _=>⟨u.slots,k b u (i b n) q⟩,λb u q n _=>by rw[gM (g b n)];exact n,λb u q _=>?_,
  λb xs q=>by rw[gM (hm b _ q λz=>z)];exact q,λb u xs q=>by rw[gM (hm b _ q λz=>z)];exact q,λb p q=>⟨#[],by rw[gM (hm b _ q λz=>z),q];simp⟩⟩
 by_cases j:b=e
 .subst j;exact f
 .exact⟨u,k b u j q⟩
end
noncomputable def trk(h:av)(H:Hp):List aw:=(cQ h.objs.size).filter λa=>(H a).isSome
noncomputable def CT(h:av)(H:Hp):av:=W.hideAll h (trk h H)
theorem Rp(h:av)(H:Hp):(CT h H).objs.size=h.objs.size:=W.hideAll_size _ _
theorem T5(e:h.get? b=ae o)(n:H b=am):(CT h H).get? b=ae o:=
 W.hideAll_get _ e λhm=>by have q:=(cy.mp hm).2;rw[n] at q;simp at q
theorem X9(e:(CT h H).get? b=ae o):h.get? b=ae o/\H b=am:=by
 have e':=W.of_hideAll _ e;refine⟨e',?_⟩;cases q:H b with
 |none=>rfl
 |some x=>
  have hm:b∈trk h H:=cy.mpr ⟨ej.mpr (aB e'),by simp[q]⟩;have z:(CT h H).get? b=am:=W.hideAll_none _ hm;rw[z] at e;cases e
noncomputable def Ya(g h:av)(L:aw):List (aw×cE):=(cQ h.objs.size).filterMap λa=>if a=L\/(g.get? a).isSome=aj then am else(h.get? a).map λo=>(a,o)
noncomputable def rest(g h:av)(L d:aw):List (aw×cE):=(Ya g h L).filter λp=>decide (p.1≠d)
structure Mod(K:bz)(mg:aJ->Option ai)(cv:av):Prop where
 T6:K.In cv
 glob:cv.Ns aZ mg
 blt:∃mb,cv.Ns ajU mb/\∀x:aJ,x≠"__name__"->mb x=cb x
 nolimit:cv.NoLimit
structure Cx where
 prog:aQ
 w:bw
 K:bz
 mg:aJ->Option ai
 cv:av
 A:bj
 N:List aJ
 ig:ao
 ik:Hp
 env:ah1
 cP:List ah1
 stack:List ah1
 ex:List aw
 fn:aJ->Bool
 calm:Bool
 pn:List (aw×cE)
 xe:ai->ao->Prop
noncomputable def rW(l:List ah1):List aw:=l.filterMap (·.frame)
abbrev Cx.fs(X:Cx):List aw:=rW X.cP
def T7 (sc:dN)(x:aJ):Prop:=sc.names.lookup x=ae .local\/sc.names.lookup x=ae .cell\/sc.names.lookup x=ae .free
def Loc (sc:dN)(x:aJ):Prop:=sc.names.lookup x=ae .local\/sc.names.lookup x=ae .cell
def Look (env:ah1)(h:av)(m:aJ->Option ai)(x:aJ)(u:ai):Prop:=
 (env.kindOf x=ae .local/\m x=ae u)\/((env.kindOf x=ae .cell\/env.kindOf x=ae .free)/\∃c,env.cells.lookup x=ae c/\h.IsCell c (ae u))
structure Cx.Ok(X:Cx):Prop where
 mod:Mod X.K X.mg X.cv
 kind:X.env.scope.kind=.function
 glob:X.env.globals=aZ
 blt:X.env.builtins=ajU
 above:X.ig.heap.objs.size<=X.env.locals
 inj:∀x y c,X.env.cells.lookup x=ae c->X.env.cells.lookup y=ae c->x=y
 has:∀x,(X.env.kindOf x=ae .cell\/X.env.kindOf x=ae .free)->∃c,X.env.cells.lookup x=ae c
 cab:∀x c,X.fn x=aj->X.env.cells.lookup x=ae c->X.ig.heap.objs.size<=c
 hd:X.calm=aj->X.A.handled=am
 frames:X.A.frames=ae X.stack
 stk:X.stack=X.cP\/(X.stack=X.env::X.cP/\X.env.frame=ae X.env.locals)
 exf:∀b∈X.ex,b≠X.env.locals/\∀x c,X.env.cells.lookup x=ae c->c≠b
 bs:∀b o,X.cv.get? b=ae o->X.ig.heap.get? b=ae o/\X.ik b=am
 Rq:X.cv.objs.size<=X.ig.heap.objs.size
 JD:∀b o,X.cv.get? b=ae o->b∉X.ex
 Mx:∀b∈X.ex,b∉X.fs
 xg:X.ig.heap.FunFrames X.cv X.cP
 T8:∀b∈X.fs,X.ik b=am
structure Inv(X:Cx)(cq:List (aw×cE))(σ:List (Option V))(H:Hp)(s:ao):Prop where
 ok:X.Ok
 os:s.os=X.ig.os
 bare:f7 s.gens
 cv:Un X.fs X.ex X.ik H X.ig.heap s.heap
 loc:∃m,s.heap.Ns X.env.locals m/\∀(i:Nat) (x:aJ) (v:V),X.N[i]?=ae x->σ[i]?=ae (ae v)->T7 X.env.scope x->∃u,RelV v u/\Look X.env s.heap m x u
 cell:∀x c,X.env.cells.lookup x=ae c->∃v,s.heap.IsCell c v
 free:H X.env.locals=am
 lZ:∀x c,X.env.cells.lookup x=ae c->H c=am
 pin:∀p∈X.pn++cq,s.heap.get? p.1=ae p.2/\H p.1=am/\p.1≠X.env.locals/\p.1∉X.fs/\∀v,p.2.data≠.cell v
 iz:sN X.prog X.w H s.heap
 len:σ.length=X.N.length
section
variable {X:Cx} {cq:List (aw×cE)} {σ:List (Option V)} {H H':Hp} {s:ao} {h':av}
theorem Cx.Ok.af9(ok:X.Ok)(e:X.cv.get? b=ae o):b∉X.fs:=λa=>by have:=(ok.xg.mem a).1;rw[e] at this;cases this
theorem Inv.bs(I:Inv X cq σ H s):∀b o,X.cv.get? b=ae o->s.heap.get? b=ae o/\H b=am:=λb o e=>
 ⟨I.cv.keep b o (I.ok.bs b o e).1 (I.ok.bs b o e).2 (I.ok.af9 e) (I.ok.JD b o e),I.cv.free b o (I.ok.bs b o e).1 (I.ok.bs b o e).2 (I.ok.JD b o e)⟩
theorem Inv.bk(I:Inv X cq σ H s):∀b o,X.cv.get? b=ae o->s.heap.get? b=ae o:=λb o e=>(I.bs b o e).1
theorem Inv.mod(I:Inv X cq σ H s):Mod X.K X.mg X.cv:=I.ok.mod
theorem Inv.qE(I:Inv X cq σ H s):X.K.In s.heap:=I.ok.mod.T6.keeps I.bk
theorem Inv.lt(I:Inv X cq σ H s):X.env.locals<s.heap.objs.size:=let⟨_,hn,_⟩:=I.loc;hn.lt
theorem Inv.sz(I:Inv X cq σ H s):X.ig.heap.objs.size<=s.heap.objs.size:=bi I.ok.above (dR I.lt)
theorem Inv.abD(I:Inv X cq σ H s)(h:s.heap.objs.size<=a):a∉X.fs:=λb=>by obtain⟨_,o,c,_⟩:=I.ok.xg.mem b;exact absurd (bp (aB c) (bi I.sz h)) (cS _)
theorem Inv.T9(I:Inv X cq σ H s):∀x c,X.env.cells.lookup x=ae c->c≠X.env.locals:=λx c e z=>by obtain⟨v,o,a,hd⟩:=I.cell x c e;obtain⟨m,⟨g,es,h,b,f,_⟩,_⟩:=I.loc;rw[z,b] at a;cases a;rw[f] at hd;cases hd
theorem Inv.xg(I:Inv X cq σ H s):s.heap.FunFrames X.cv X.cP:=by
 have all:∀(l:List ah1),(∀b∈rW l,b∈X.fs)->X.ig.heap.FunFrames X.cv l->s.heap.FunFrames X.cv l:=by
  intro l;induction l with
  |nil=>intro _ _;trivial
  |cons env r h=>
   intro g i;obtain⟨j,⟨L,o,a,hn,m,hd⟩,n⟩:=i;have c:=g L (by unfold rW;rw[gA,a];exact aH);obtain⟨sl,e⟩:=I.cv.slot L o m (I.ok.T8 L c) c λz=>I.ok.Mx L z c;exact⟨j,⟨L,_,a,hn,e,hd⟩,h (λb f=>g b (by unfold rW;rw[gA,a];exact ay _ f)) n⟩
 exact all X.cP (λ_ f=>f) I.ok.xg
theorem Inv.stack(I:Inv X cq σ H s):s.heap.FunFrames X.cv X.stack:=by
 rcases I.ok.stk with e|⟨e,a⟩
 .rw[e];exact I.xg
 .rw[e];obtain⟨m,hn,_⟩:=I.loc;refine .cons (by rw[I.ok.kind];decide) a hn ?_ I.xg;exact cR (bi I.ok.Rq I.ok.above)
theorem Inv.sT(I:Inv X cq σ H s):∀b∈rW X.stack,b∈X.env.locals::X.fs:=λb a=>by
 rcases I.ok.stk with e|⟨e,c⟩
 .rw[e] at a;exact ay _ a
 .rw[e] at a;unfold rW at a;rw[gA,c] at a;exact a
theorem Inv.Pd(I:Inv X cq σ H s):∀b∈rW X.stack,H b=am:=λb a=>by
 rcases aC.mp (I.sT b a) with e|a
 .rw[e];exact I.free
 .obtain⟨_,o,c,_⟩:=I.ok.xg.mem a;exact I.cv.free b o c (I.ok.T8 b a) λz=>I.ok.Mx b z a
theorem Inv.step{ch:List aw}(I:Inv X cq σ H s)
(y:∀b∈ch,(b∈X.ex\/X.ig.heap.objs.size<=b)/\b≠X.env.locals/\(∀x c,X.env.cells.lookup x=ae c->c≠b)/\∀p∈X.pn++cq,p.1≠b)
(keep:∀b o,b≠X.env.locals->b∉X.fs->b∉ch->s.heap.get? b=ae o->H b=am->h'.get? b=ae o)
(slot:∀b o,b≠X.env.locals->b∈X.fs->b∉ch->s.heap.get? b=ae o->H b=am->∃sl,h'.get? b=ae {o with slots:=sl})(free:∀b o,b∉ch->s.heap.get? b=ae o->H b=am->H' b=am)
(there:∀b o,b∉ch->s.heap.get? b=ae o->∃A,h'.get? b=ae A)
(uO:∀b xs,H b=ae (.tup xs)->H' b=ae (.tup xs))(rA:∀b o u,H b=ae (.qD o u)->H' b=ae (.qD o u))(sR:∀b E,H b=ae (.yJ E)->∃more,H' b=ae (.yJ (E++more)))
(ns:∀m,s.heap.Ns X.env.locals m->h'.Ns X.env.locals m)(iz:sN X.prog X.w H' h')(N:f7 O):
  Inv X cq σ H' {s with heap:=h',gens:=O,drawn:=Y,toks:=t'}:=by
 have B:∀b o,X.ig.heap.get? b=ae o->b≠X.env.locals:=λb o e=>aO (bp (aB e) I.ok.above);have g:∀b o,X.ig.heap.get? b=ae o->b∉X.ex->b∉ch:=λb o e a h=>by
  rcases(y b h).1 with z|z
  .exact a z
  .exact absurd (bp (aB e) z) (cS _)
 have C:∀x c,X.env.cells.lookup x=ae c->∀v,s.heap.IsCell c v->h'.IsCell c v:=λx c e v ⟨o,j,hd⟩=>by
  have f:=λz=>(y c z).2.2.1 x c e rfl;by_cases J:c∈X.fs
  .obtain⟨sl,q⟩:=slot c o (I.T9 x c e) J f j (I.lZ x c e);exact⟨_,q,hd⟩
  .exact⟨o,keep c o (I.T9 x c e) J f j (I.lZ x c e),hd⟩
 refine⟨I.ok,I.os,N,⟨λb o e n h a=>?_,λb o e n h a=>?_,λb o e n a=>?_,λb o e a=>?_,λb xs e=>uO b xs (I.cv.uO b xs e),λb o xs e=>rA b o xs (I.cv.rA b o xs e),λb E e=>?_⟩,?_,λx c e=>?_,?_,λx c e=>?_,λp L=>?_,iz,I.len⟩
 .exact keep b o (B b o e) h (g b o e a) (I.cv.keep b o e n h a) (I.cv.free b o e n a)
 .obtain⟨sl,e1⟩:=I.cv.slot b o e n h a;obtain⟨G,e2⟩:=slot b _ (B b o e) h (g b o e a) e1 (I.cv.free b o e n a);exact⟨G,e2⟩
 .obtain⟨A,e1⟩:=I.cv.there b o e a;exact free b A (g b o e a) e1 (I.cv.free b o e n a)
 .obtain⟨A,e1⟩:=I.cv.there b o e a;exact there b A (g b o e a) e1
 .obtain⟨Q,e1⟩:=I.cv.sR b E e;obtain⟨T,e2⟩:=sR b _ e1;exact⟨Q++T,by rw[e2,Array.append_assoc]⟩
 .obtain⟨m,hn,U⟩:=I.loc;refine⟨m,ns m hn,λi x v e1 e2 e3=>?_⟩;obtain⟨u,r,l⟩:=U i x v e1 e2 e3;refine⟨u,r,?_⟩;rcases l with l|⟨k,c,e,z⟩
  .exact .inl l
  .exact .inr ⟨k,c,e,C x c e _ z⟩
 .obtain⟨v,z⟩:=I.cell x c e;exact⟨v,C x c e v z⟩
 .obtain⟨m,⟨o,_,_,j,_⟩,_⟩:=I.loc;exact free _ o (λz=>(y _ z).2.1 rfl) j I.free
 .obtain⟨v,o,j,hd⟩:=I.cell x c e;exact free c o (λz=>(y c z).2.2.1 x c e rfl) j (I.lZ x c e)
 .obtain⟨e,n,ne,M,d⟩:=I.pin p L;have f:=λz=>(y p.1 z).2.2.2 p L rfl;exact⟨keep p.1 p.2 ne M f e n,free p.1 p.2 f e n,ne,M,d⟩
theorem Inv.un(I:Inv X cq σ H s)(u:Un X.fs [] H H' s.heap h')(iz:sN X.prog X.w H' h'):Inv X cq σ H' {s with heap:=h',toks:=t'}:=by
 obtain⟨m,⟨o,es,p,f,r⟩,_⟩:=id I.loc;obtain⟨sl,h⟩:=u.any f I.free (by simp);exact I.step (ch:=[]) (λ_ z=>nomatch z) (λb o _ a _ e n=>u.keep b o e n a (by simp)) (λb o _ a _ e n=>u.slot b o e n a (by simp)) (λb o _ e n=>u.free b o e n (by simp)) (λb o _ e=>u.there b o e (by simp)) u.uO u.rA u.sR (λq hm=>by obtain⟨v,i,c,g,j⟩:=hm;rw[f] at g;cases g;exact⟨_,i,c,h,j⟩) iz I.bare
theorem Inv.call{q:ajI}{ch:List aw}(I:Inv X cq σ H s)(u:Un (rW X.stack) ch H H' s.heap h')(iz:sN X.prog X.w H' h')(v:f7 y)
(h:∀b∈ch,(b∈X.ex\/X.ig.heap.objs.size<=b)/\b≠X.env.locals/\(∀x c,X.env.cells.lookup x=ae c->c≠b)/\∀p∈X.pn++cq,p.1≠b):
  Inv X cq σ H' {s with heap:=h',gens:=y,drawn:=q,toks:=E}:=by
 obtain⟨m,⟨o,es,G,i,r⟩,_⟩:=id I.loc;obtain⟨sl,f⟩:=u.any i I.free λz=>(h _ z).2.1 rfl;exact I.step h (λb o f A a e n=>u.keep b o e n (λz=>(aC.mp (I.sT b z)).elim f A) a) (λb o _ _ a e n=>u.any e n a) (λb o a e n=>u.free b o e n a) (λb o a e=>u.there b o e a) u.uO u.rA u.sR (λJ hm=>by obtain⟨L,B,g,j,C⟩:=hm;rw[i] at j;cases j;exact⟨_,B,g,f,C⟩) iz v
theorem Inv.turned(I:Inv X cq σ H s)(k:∀b o,b≠it->s.heap.get? b=ae o->h'.get? b=ae o)(hn:H it=am)(g:it≠X.env.locals)
(h:it∈X.ex\/X.ig.heap.objs.size<=it)(i:∀x c,X.env.cells.lookup x=ae c->c≠it)(j:∀p∈X.pn++cq,p.1≠it):Inv X cq σ H {s with heap:=h',toks:=t'}:=by
 have f:∀b u,H b=ae u->b≠it:=λb u e z=>by rw[z,hn] at e;cases e
 refine I.step (ch:=[it]) (λb w=>?_) (λb o _ _ a e _=>k b o (λz=>a (by simp[z])) e) (λb o _ _ a e _=>⟨o.slots,k b o (λz=>a (by simp[z])) e⟩) (λ_ _ _ _ n=>n)
  (λb o a e=>⟨o,k b o (λz=>a (by simp[z])) e⟩) (λ_ _ e=>e) (λ_ _ _ e=>e) (λb B e=>⟨#[],by rw[e];simp⟩) (λm hm=>?_) (λb u e=>?_) I.bare
 .have e:=by simpa using w
  subst e;exact⟨h,g,i,j⟩
 .obtain⟨o,es,y,A,r⟩:=hm;exact⟨o,es,y,k _ o (bV g) A,r⟩
 .refine(I.iz b u e).sQ (λc v a q=>k c v ?_ q) (λ_ q=>q) λ_ _ q=>q;rcases a with z|z
  .rw[z];exact f b u e
  .exact f c _ z
theorem Inv.tok(I:Inv X cq σ H s)(t:Nat):Inv X cq σ H {s with toks:=t}:=I.un Un.refl I.iz
theorem Inv.kept(I:Inv X cq σ H s)(k:∀b u,s.heap.get? b=ae u->h'.get? b=ae u):Inv X cq σ H {s with heap:=h',toks:=t'}:=I.un (Un.kept k) (I.iz.kept k)
theorem Inv.laid(I:Inv X cq σ H s)(k:∀b u,s.heap.get? b=ae u->h'.get? b=ae u)(c:s.heap.objs.size<=a)(new:jd X.prog X.w (upd H a o) h' a o):
  Inv X cq σ (upd H a o) {s with heap:=h',toks:=t'}:=I.un (Un.laid k c (I.iz.fresh c)) (I.iz.laid k c new)
theorem Inv.write(I:Inv X cq σ H s)(c:Mut (H x))(f:e=x\/H e=ae (.own x))(k:∀b u,b≠e->s.heap.get? b=ae u->h'.get? b=ae u)(a:∃u,h'.get? e=ae u)
(new:jd X.prog X.w (upd H x o) h' x o):Inv X cq σ (upd H x o) {s with heap:=h',toks:=g}:=I.un (Un.write c f k a) (I.iz.write c f k a new)
theorem Inv.Pe(I:Inv X cq σ H s)(h:∀p∈a,s.heap.get? p.1=ae p.2/\H p.1=am/\p.1≠X.env.locals/\p.1∉X.fs/\∀v,p.2.data≠.cell v):Inv X a σ H s:=
 ⟨I.ok,I.os,I.bare,I.cv,I.loc,I.cell,I.free,I.lZ,λp b=>(bd.mp b).elim (λz=>I.pin p (bS _ z)) (h p),I.iz,I.len⟩
theorem CV{N:List aJ}(c:N.Nodup){i j:Nat}(a:N[i]?=ae x)(b:N[j]?=ae x):i=j:=by obtain⟨e,e1⟩:=ap.mp a;obtain⟨f,e2⟩:=ap.mp b;exact(fg c).mp (e1.trans e2.symm)
theorem Ap(I:Inv X cq σ H s)(hN:X.N.Nodup)(hi:X.N[i]?=ae x)(B:Loc X.env.scope x)(r:RelV v u)
(h:∀s',Inv X cq (σ.set i (ae v)) H s'->(∃a,bg a s.heap s'.heap/\(a=X.env.locals\/X.env.cells.lookup x=ae a))->Q () s')(hf:X.fn x=aj\/X.env.scope.names.lookup x=ae .local:=by first|exact .inl rfl|exact .inr rfl|assumption):wpAny M A (akj X.env x u) Q E s:=by
 obtain⟨m,hn,hl⟩:=id I.loc;have abE:(X.env.scope.kind==.class||(X.env.scope.kind==.module&&X.env.locals !=X.env.globals))=aq:=by rw[I.ok.kind];rfl
 have O:i<σ.length:=by rw[I.len];exact(ap.mp hi).1
 have T9:=I.T9;have Pf:∀{a:aw} {h':av},(∃o,s.heap.get? a=ae o/\H a=am)->bg a s.heap h'->sN X.prog X.w H h':=λ{a h'} ha f b ob e=>by
  obtain⟨_,_,T⟩:=ha;refine(I.iz b ob e).sQ (λc w' g q=>(f.2 c ?_).trans q) (λ_ q=>q) λ_ _ q=>q
  rintro rfl
  rcases g with rfl|g
  .rw[T] at e;cases e
  .rw[T] at g;cases g
 rcases B with C|C
 .refine wpAny_storeName_local C hn (λh' XR f=>?_) abE;obtain⟨oL,_,_,Mt,_⟩:=id hn;refine h _ ⟨I.ok,I.os,I.bare,⟨λb o e n G B=>?_,λb o e n G B=>?_,I.cv.free,λb o e B=>?_,I.cv.uO,I.cv.rA,I.cv.sR⟩,⟨_,XR,λj y v' e1 e2 e3=>?_⟩,λy c e=>?_,I.free,I.lZ,λp hp=>?_,Pf ⟨oL,Mt,I.free⟩ f,by simpa using I.len⟩ ⟨_,f,.inl rfl⟩
  .exact(f.2 b (aO (bp (aB e) I.ok.above))).trans (I.cv.keep b o e n G B)
  .obtain⟨sl,e1⟩:=I.cv.slot b o e n G B;exact⟨sl,(f.2 b (aO (bp (aB e) I.ok.above))).trans e1⟩
  .obtain⟨o',e1⟩:=I.cv.there b o e B;exact⟨o',(f.2 b (aO (bp (aB e) I.ok.above))).trans e1⟩
  .by_cases J:j=i
   .subst J;rw[hi] at e1;cases e1;rw[bG O] at e2;cases e2;exact⟨u,r,.inl ⟨C,by simp⟩⟩
   .rw[bx (bV J)] at e2;obtain⟨u',r',q⟩:=hl j y v' e1 e2 e3;refine⟨u',r',?_⟩;rcases q with⟨k,e⟩|⟨k,c,e,z⟩
    .refine .inl ⟨k,?_⟩;have:y≠x:=λe=>J (CV hN e1 (e▸hi));simp[this,e]
    .exact .inr ⟨k,c,e,z.sameBut f (T9 y c e)⟩
  .obtain⟨w',z⟩:=I.cell y c e;exact⟨w',z.sameBut f (T9 y c e)⟩
  .obtain⟨e,n,ne,nf,d⟩:=I.pin p hp;exact⟨(f.2 p.1 ne).trans e,n,ne,nf,d⟩
 .have L:X.fn x=aj:=by
   rcases hf with z|z
   .exact z
   .rw[z] at C;cases C
  obtain⟨c,g⟩:=I.ok.has x (.inl C);obtain⟨w',z⟩:=I.cell x c g;refine wpAny_storeName_cell I.ok.kind C g z (λh' U f=>?_);obtain⟨oc,Y,aga⟩:=id z;refine h {s with heap:=h'} ⟨I.ok,I.os,I.bare,⟨λb o e n G B=>?_,λb o e n G B=>?_,I.cv.free,λb o e B=>?_,I.cv.uO,I.cv.rA,I.cv.sR⟩,⟨m,hn.sameBut f (bV (T9 x c g)),λj y v' e1 e2 e3=>?_⟩,λy c' e=>?_,I.free,I.lZ,λp hp=>?_,Pf ⟨oc,Y,I.lZ x c g⟩ f,by simpa using I.len⟩ ⟨c,f,.inr g⟩
  .exact(f.2 b (aO (bp (aB e) (I.ok.cab x c L g)))).trans (I.cv.keep b o e n G B)
  .obtain⟨sl,e1⟩:=I.cv.slot b o e n G B;exact⟨sl,(f.2 b (aO (bp (aB e) (I.ok.cab x c L g)))).trans e1⟩
  .obtain⟨o',e1⟩:=I.cv.there b o e B;exact⟨o',(f.2 b (aO (bp (aB e) (I.ok.cab x c L g)))).trans e1⟩
  .by_cases J:j=i
   .subst J;rw[hi] at e1;cases e1;rw[bG O] at e2;cases e2;exact⟨u,r,.inr ⟨.inl C,c,g,U⟩⟩
   .rw[bx (bV J)] at e2;obtain⟨u',r',q⟩:=hl j y v' e1 e2 e3;refine⟨u',r',?_⟩;rcases q with q|⟨k,c',e,z'⟩
    .exact .inl q
    .refine .inr ⟨k,c',e,z'.sameBut f ?_⟩
     rintro rfl
     exact J (CV hN e1 (I.ok.inj _ _ _ e g▸hi))
  .by_cases hcc:c'=c
   .subst hcc;exact⟨_,U⟩
   .obtain⟨w2,z2⟩:=I.cell y c' e;exact⟨w2,z2.sameBut f hcc⟩
  .obtain⟨e,n,ne,nf,d⟩:=I.pin p hp;refine⟨(f.2 p.1 ?_).trans e,n,ne,nf,d⟩;intro q;rw[q,Y] at e;have q':oc=p.2:=bn e;exact d w' (by rw[<-q'];exact aga)
theorem CW(I:Inv X cq σ H s)(b:X.N.Nodup)(hi:X.N[i]?=ae x)(c:Loc X.env.scope x)(r:RelV v u)
(h:∀a,Inv X cq (σ.set i (ae v)) H a->Q () a)(e:X.fn x=aj\/X.env.scope.names.lookup x=ae .local:=by first|exact .inl rfl|exact .inr rfl|assumption):wpAny M A (akj X.env x u) Q E s:=
 Ap I b hi c r (λa f _=>h a f) e
theorem Inv.Bp(I:Inv X cq σ H s)(f:a.os=s.os)(u:Un (rW X.stack) ch H H' s.heap a.heap)(iz:sN X.prog X.w H' a.heap)(g:f7 a.gens)
(h:∀b∈ch,(b∈X.ex\/X.ig.heap.objs.size<=b)/\b≠X.env.locals/\(∀x c,X.env.cells.lookup x=ae c->c≠b)/\∀p∈X.pn++cq,p.1≠b):Inv X cq σ H' a:=by obtain⟨h',i,j,m,n⟩:=a;have e:=f;subst e;exact I.call u iz g h
end
abbrev XK:=ai->Option aw->Hp->Prop
abbrev St:=List (Option V)
abbrev VK:=V->Hp->Prop
abbrev TE:=St->Hp->VK->Prop
abbrev TT:=St->Hp->(Bool->Hp->Prop)->Prop
abbrev TA:=St->Hp->(List V->Hp->Prop)->Prop
structure Ends where
 nx:St->Hp->Prop
 rt:VK
 bk:St->Hp->Prop:=λ_ _=>False
 ct:St->Hp->Prop:=λ_ _=>False
abbrev TS:=Ends->St->Hp->Prop
def EP (X:Cx)(cq:List (aw×cE))(σ:St)(Q:VK)(u:ai)(b:ao):Prop:=∃v a,Inv X cq σ a b/\RelV v u/\Q v a
def TP (X:Cx)(cq:List (aw×cE))(σ:St)(Q:Bool->Hp->Prop)(b:Bool)(c:ao):Prop:=∃a,Inv X cq σ a c/\Q b a
def AP (X:Cx)(cq:List (aw×cE))(σ:St)(Q:List V->Hp->Prop)(us:List ai)(c:ao):Prop:=∃a b,Inv X cq σ b c/\Vals a us/\Q a b
def SP (X:Cx)(cq:List (aw×cE))(D:Ends)(f:Flow)(c:ao):Prop:=
 match f with
 |.next=>∃b a,Inv X cq b a c/\D.nx b a
 |.brk=>∃b a,Inv X cq b a c/\D.bk b a
 |.cont=>∃b a,Inv X cq b a c/\D.ct b a
 |.ret u=>∃v b a,Inv X cq b a c/\RelV v u/\D.rt v a
def PE (X:Cx)(e:bE)(t:TE):Prop:=
 ∀(cq:List (aw×cE)) (s:ao) (σ:St) (H:Hp) (Q:VK),Inv X cq σ H s->t σ H Q->wpAny (model X.prog X.w) X.A (eval e X.env) (EP X cq σ Q) X.xe s
def PT (X:Cx)(e:bE)(t:TT):Prop:=
 ∀(cq:List (aw×cE)) (s:ao) (σ:St) (H:Hp) (Q:Bool->Hp->Prop),Inv X cq σ H s->t σ H Q->wpAny (model X.prog X.w) X.A (ajx e X.env (eval e X.env)) (TP X cq σ Q) X.xe s
def PW (X:Cx)(e:bE)(t:TT):Prop:=
 ∀(a:Sem ai) (cq:List (aw×cE)) (s:ao) (σ:St) (H:Hp) (Q:Bool->Hp->Prop),Inv X cq σ H s->t σ H Q->wpAny (model X.prog X.w) X.A (ajx e X.env a) (TP X cq σ Q) X.xe s
theorem PW.pt(h:PW X e t):PT X e t:=h _
def PA (X:Cx)(es:List bE)(t:TA):Prop:=
 ∀(pos:eZ) (cq:List (aw×cE)) (s:ao) (σ:St) (H:Hp) (Q:List V->Hp->Prop),Inv X cq σ H s->t σ H Q->wpAny (model X.prog X.w) X.A (spliced (c9 pos (aP es X.env))) (AP X cq σ Q) X.xe s
def PS (X:Cx)(st:cc)(t:TS):Prop:=
 ∀(cq:List (aw×cE)) (s:ao) (σ:St) (H:Hp) (D:Ends),Inv X cq σ H s->t D σ H->wpAny (model X.prog X.w) X.A (exec st X.env) (SP X cq D) X.xe s
def yL (X:Cx)(st:List cc)(t:TS):Prop:=
 ∀(cq:List (aw×cE)) (s:ao) (σ:St) (H:Hp) (D:Ends),Inv X cq σ H s->t D σ H->wpAny (model X.prog X.w) X.A (execs st X.env) (SP X cq D) X.xe s
theorem jQ{t:Sem α}(h:wpAny M A t Q E s)(b:∀a s,Q a s->c a s):wpAny M A t c E s:=cz h b λ_ _ x=>x
section
variable {X:Cx}
def Aq (i:Nat):TE:=λσ H Q=>∃v,σ[i]?=ae (ae v)/\Q v H
def tC (v:V):TE:=λ_ H Q=>Q v H
theorem rB(j:X.N[i]?=ae x)(n:T7 X.env.scope x)(hd:(x==("__debug__":aJ))=aq:=by decide)(o:(x==("__classdict__":aJ))=aq:=by decide):PE X (.Name x pos) (Aq i):=by
 intro cq s σ H Q I h;obtain⟨v,e,h⟩:=h;obtain⟨m,hn,p⟩:=I.loc;obtain⟨u,r,l⟩:=p i x v j e n;have b:EP X cq σ Q u s:=⟨v,H,I,r,h⟩;rcases l with⟨a,hm⟩|⟨a,c,f,g⟩
 .exact ajV (ajJ I.ok.kind a hn hm b) hd
 .rcases a with a|a
  .exact ajV (ajT I.ok.kind a f g b) hd
  .exact ajV (wpAny_loadName_free I.ok.kind a f g b o) hd
theorem Ub:PE X (.Constant (.int i) j pos) (tC (.int i)):=λ_ _ _ H _ I h=>wpAny_Constant_int ⟨.int i,H,I.tok _,⟨_,rfl⟩,h⟩
theorem ad5:PE X (.Constant (.bool b) j pos) (tC (.bl b)):=λ_ _ _ H _ I h=>Constant_bool ⟨.bl b,H,I,rfl,h⟩
theorem abF:PE X (.Constant .none j pos) (tC .non):=λ_ _ _ H _ I h=>Constant_none ⟨.non,H,I,rfl,h⟩
theorem My:PE X (.Constant (.str x) j pos) (tC (.str x)):=λ_ _ _ H _ I h=>Calls.Constant_str ⟨.str x,H,I.tok _,⟨_,rfl⟩,h⟩
def Gl (X:Cx)(x:aJ):Prop:=X.env.kindOf x=ae .globalImplicit
theorem wB(I:Inv X cq σ H s)(a:Gl X x)(hm:X.mg x=ae u)(h:Q u s)
(hd:(x==("__debug__":aJ))=aq:=by decide):wpAny (model X.prog X.w) X.A (eval (.Name x pos) X.env) Q E s:=
 Calls.Name_function_global I.ok.kind a (Calls.loadGlobal_global (by rw[I.ok.glob];exact I.mod.glob.keeps I.bk) hm h) hd
theorem xI(I:Inv X cq σ H s)(a:Gl X x)(hm:X.mg x=am)(b:cb x=ae u)(h:Q u s)
(hn:x≠"__name__":=by decide)(hd:(x==("__debug__":aJ))=aq:=by decide):wpAny (model X.prog X.w) X.A (eval (.Name x pos) X.env) Q E s:=by obtain⟨f,c,e⟩:=I.mod.blt;exact Calls.Name_function_global I.ok.kind a (Calls.loadGlobal_builtin (by rw[I.ok.glob];exact I.mod.glob.keeps I.bk) hm (by rw[I.ok.blt];exact c.keeps I.bk) ((e x hn).trans b) h) hd
theorem Ph(a:Gl X x)(hm:X.mg x=ae u)(r:RelV v u)(hd:(x==("__debug__":aJ))=aq:=by decide):PE X (.Name x pos) (tC v):=
 λ_ _ _ H _ I h=>wB I a hm ⟨v,H,I,r,h⟩ hd
theorem Yb(a:Gl X x)(hm:X.mg x=am)(b:cb x=ae u)(r:RelV v u)(hn:x≠"__name__":=by decide)(hd:(x==("__debug__":aJ))=aq:=by decide):PE X (.Name x pos) (tC v):=
 λ_ _ _ H _ I h=>xI I a hm b ⟨v,H,I,r,h⟩ hn hd
variable {a b:bE} {ta tb:TE} {pos:eZ}
def tB (t:TE):TT:=λσ H Q=>t σ H λx H1=>∃c,x=.bl c/\Q c H1
theorem abG(h:PE X e t)(f:∀c,ajx e X.env c=(do let v<-c;ai9 e.pos;holding [v] (truthy v)):=by intro _;rfl):PT X e (tB t):=by intro cq s σ H Q I hw;refine isTrue_plain (jQ (h cq s σ H _ I hw) λv s1 ⟨x,H1,g,i,j⟩=>?_) (f _);obtain⟨d,rfl,q⟩:=j;cases i;exact cO ⟨H1,g,q⟩
variable {tA Uc:TT} {rest:List bE}
def agb (t u:TT):TT:=λσ H Q=>t σ H λc H1=>if c=aj then u σ H1 Q else Q aq H1
def tOr (t u:TT):TT:=λσ H Q=>t σ H λc H1=>if c=aj then Q aj H1 else u σ H1 Q
def agc (t:TT):TT:=λσ H Q=>t σ H λc H1=>Q (!c) H1
theorem pw_and1(ha:PT X a tA):PW X (.BoolOp .And [a] pos) tA:=by
 intro f cq s σ H Q I h;refine isTrue_and (jQ (ha cq s σ H Q I h) λc s1 e=>?_);cases c with
 |true=>exact isTrue_and_nil e
 |false=>exact e
theorem pw_or1(ha:PT X a tA):PW X (.BoolOp .Or [a] pos) tA:=by
 intro f cq s σ H Q I h;refine isTrue_or (jQ (ha cq s σ H Q I h) λc s1 e=>?_);cases c with
 |false=>exact isTrue_or_nil e
 |true=>exact e
theorem pw_and(ha:PT X a tA)(g:PW X (.BoolOp .And (b::rest) pos) Uc):PW X (.BoolOp .And (a::b::rest) pos) (agb tA Uc):=by
 intro i cq s σ H Q I h;refine isTrue_and (jQ (ha cq s σ H _ I h) λc s1 j=>?_);obtain⟨H1,e,f⟩:=j;cases c with
 |true=>exact g i cq s1 σ H1 Q e f
 |false=>exact⟨H1,e,f⟩
theorem pw_or(ha:PT X a tA)(g:PW X (.BoolOp .Or (b::rest) pos) Uc):PW X (.BoolOp .Or (a::b::rest) pos) (tOr tA Uc):=by
 intro i cq s σ H Q I h;refine isTrue_or (jQ (ha cq s σ H _ I h) λc s1 j=>?_);obtain⟨H1,e,f⟩:=j;cases c with
 |true=>exact⟨H1,e,f⟩
 |false=>exact g i cq s1 σ H1 Q e f
theorem abH(ha:PT X a tA):PT X (.UnaryOp .Not a pos) (agc tA):=by intro cq s σ H Q I h;exact isTrue_not (ha cq s σ H (λc H1=>Q (!c) H1) I h)
def ad6 (ta tb:TE):TE:=λσ H Q=>ta σ H λx H1=>∃c,x=.bl c/\if c=aj then tb σ H1 Q else Q (.bl aq) H1
def ad7 (ta:TE):TE:=λσ H Q=>ta σ H λx H1=>∃c,x=.bl c/\Q (.bl (!c)) H1
theorem abI(h:PE X a t):PE X (.BoolOp op [a] pos) t:=λcq s σ H Q I hw=>BoolOp_one (h cq s σ H Q I hw)
theorem abJ(ha:PE X a ta)(g:PE X (.BoolOp .And (b::rest) pos) tb):PE X (.BoolOp .And (a::b::rest) pos) (ad6 ta tb):=by
 intro cq s σ H Q I h;refine BoolOp_and (jQ (ha cq s σ H _ I h) λv s1 i=>?_);obtain⟨x,H1,f,j,e⟩:=i;obtain⟨c,rfl,e⟩:=e;cases j;refine cO ?_;cases c with
 |true=>exact g cq s1 σ H1 Q f e
 |false=>exact⟨.bl aq,H1,f,rfl,e⟩
theorem abK(ha:PE X a ta):PE X (.UnaryOp .Not a pos) (ad7 ta):=by intro cq s σ H Q I h;refine UnaryOp_ (jQ (ha cq s σ H _ I h) λv s1 f=>?_);obtain⟨x,H1,g,i,e⟩:=f;obtain⟨c,rfl,e⟩:=e;cases i;exact not_of (cO ⟨.bl (!c),H1,g,rfl,e⟩)
def tIf (t:TT)(ta tb:TE):TE:=λσ H Q=>t σ H λc H1=>if c=aj then ta σ H1 Q else tb σ H1 Q
theorem Ud(g:PT X c tA)(ha:PE X a ta)(i:PE X b tb):PE X (.IfExp c a b pos) (tIf tA ta tb):=by
 intro cq s σ H Q I h;refine wpAny_IfExp (jQ (g cq s σ H _ I h) λd s1 j=>?_);obtain⟨H1,e,f⟩:=j;cases d with
 |true=>exact ha cq s1 σ H1 Q e f
 |false=>exact i cq s1 σ H1 Q e f
end
def mo (K:bz)(H:Hp)(a:aw)(xs:List V):Prop:=
 Rd H a (.lst xs)\/
  ∃(o:cE) (its:Array ai) (n:Nat),K.lookup a=ae o/\o.cls=.type "list"/\o.dict=am/\o.data=.seq its n/\its.size<=aE/\Vals xs its.toList
def xr (K:bz)(H:Hp)(a:aw)(xs:List V):Prop:=
 Rd H a (.tup xs)\/
  ∃(o:cE) (its:Array ai) (n:Nat),K.lookup a=ae o/\o.cls=.type "tuple"/\o.data=.seq its n/\its.size<=aE/\Vals xs its.toList
noncomputable def agd:ai->Option V
 |.none=>ae .non
 |.bool b=>ae (.bl b)
 |.int i _=>ae (.int i)
 |.str x _=>ae (.str x)
 |.bytes b _=>ae (.TM b)
 |.float b _=>ae (.flt b)
 |.ref a=>ae (.ref a)
 |.type n=>ae (.ty n)
 |_=>am
theorem RelV.abs(r:RelV x u):agd u=ae x:=by
 cases x with
 |non=>cases r;rfl
 |bl _=>cases r;rfl
 |int _=>obtain⟨t,rfl⟩:=r;rfl
 |str _=>obtain⟨t,rfl⟩:=r;rfl
 |TM _=>obtain⟨t,rfl⟩:=r;rfl
 |flt _=>obtain⟨t,rfl⟩:=r;rfl
 |ref _=>cases r;rfl
 |ty _=>cases r;rfl
theorem RelV.inj(r:RelV x u)(q:RelV y u):x=y:=bn (r.abs.symm.trans q.abs)
theorem Vals.inj:∀{xs a:List V} {us:List ai},Vals xs us->Vals a us->xs=a
 |_,_,_,.nil,.nil=>rfl
 |_,_,_,.cons r t,.cons b c=>by rw[r.inj b,Vals.inj t c]
section
variable {X:Cx} {cq:List (aw×cE)} {σ:St} {H:Hp} {s:ao} {a:aw} {xs ys:List V}
theorem mo.of{K:bz}(h:H a=ae (.lst xs)):mo K H a xs:=.inl (.inl h)
theorem Inv.list(I:Inv X cq σ H s)(h:mo X.K H a xs):∃its:List ai,Vals xs its/\PlainL s.heap a its.toArray/\xs.length<=aE:=by
 rcases h with h|⟨o,its,n,b,c,hd,f,g,r⟩
 .obtain⟨z,its,n,r,e⟩:=h.ok I.iz;exact⟨its,r,⟨_,n,e,rfl,rfl,rfl⟩,z⟩
 .refine⟨its.toList,r,⟨o,n,I.qE a o b,c,hd,by simpa using f⟩,?_⟩;have e:=r.length;simp only [bu] at e;omega
theorem Inv.tuple(I:Inv X cq σ H s)(h:xr X.K H a xs):∃its:List ai,Vals xs its/\aiF s.heap a its.toArray/\xs.length<=aE:=by
 rcases h with h|⟨o,its,n,b,c,f,g,r⟩
 .obtain⟨z,its,r,p⟩:=h.ok I.iz;exact⟨its,r,p,z⟩
 .refine⟨its.toList,r,⟨o,I.qE a o b,c,n,by simpa using f⟩,?_⟩;have e:=r.length;simp only [bu] at e;omega
theorem Inv.JJ(I:Inv X cq σ H s)(h:mo X.K H a xs)(c:mo X.K H a ys):xs=ys:=by
 obtain⟨its,r,⟨o,n,e,_,_,d⟩,_⟩:=I.list h;obtain⟨i,f,⟨j,m,e',_,_,b⟩,_⟩:=I.list c;rw[e] at e';cases e';rw[d] at b;injection b with g _;have:=by simpa using congrArg Array.toList g
 subst this;exact r.inj f
theorem Inv.F9(I:Inv X cq σ H s)(h:xr X.K H a xs)(c:xr X.K H a ys):xs=ys:=by
 obtain⟨its,r,⟨o,e,_,n,d⟩,_⟩:=I.tuple h;obtain⟨i,f,⟨j,e',_,m,b⟩,_⟩:=I.tuple c;rw[e] at e';cases e';rw[d] at b;injection b with g _;have:=by simpa using congrArg Array.toList g
 subst this;exact r.inj f
end
abbrev Cx.CZ(X:Cx)(E:ai->ao->Prop):Cx:={X with xe:=E}
abbrev Cx.Fw(X:Cx):Cx:=X.CZ λ_ _=>False
theorem Cx.Ok.CZ{X:Cx}(ok:X.Ok)(E:ai->ao->Prop):(X.CZ E).Ok:=
 ⟨ok.mod,ok.kind,ok.glob,ok.blt,ok.above,ok.inj,ok.has,ok.cab,ok.hd,ok.frames,ok.stk,ok.exf,ok.bs,ok.Rq,ok.JD,ok.Mx,ok.xg,ok.T8⟩
theorem Cx.Ok.sU{X:Cx}(ok:(X.CZ E).Ok):X.Ok:=
 ⟨ok.mod,ok.kind,ok.glob,ok.blt,ok.above,ok.inj,ok.has,ok.cab,ok.hd,ok.frames,ok.stk,ok.exf,ok.bs,ok.Rq,ok.JD,ok.Mx,ok.xg,ok.T8⟩
section
variable {X:Cx} {cq:List (aw×cE)} {σ:St} {H:Hp} {s:ao} {E:ai->ao->Prop}
theorem Inv.CZ(I:Inv X cq σ H s)(E:ai->ao->Prop):Inv (X.CZ E) cq σ H s:=⟨I.ok.CZ E,I.os,I.bare,I.cv,I.loc,I.cell,I.free,I.lZ,I.pin,I.iz,I.len⟩
theorem Inv.sU(I:Inv (X.CZ E) cq σ H s):Inv X cq σ H s:=⟨I.ok.sU,I.os,I.bare,I.cv,I.loc,I.cell,I.free,I.lZ,I.pin,I.iz,I.len⟩
theorem SP.sU(h:SP (X.CZ E) cq D f c):SP X cq D f c:=by
 cases f with
 |next=>obtain⟨a,b,I,q⟩:=h;exact⟨a,b,I.sU,q⟩
 |brk=>obtain⟨a,b,I,q⟩:=h;exact⟨a,b,I.sU,q⟩
 |cont=>obtain⟨a,b,I,q⟩:=h;exact⟨a,b,I.sU,q⟩
 |ret u=>obtain⟨v,a,b,I,r,q⟩:=h;exact⟨v,a,b,I.sU,r,q⟩
theorem PE.Fw(h:PE X.Fw e t):PE X e t:=λcq s σ H Q I hw=>
 cz (h cq s σ H Q (I.CZ _) hw) (λ_ _ ⟨v,a,b,r,q⟩=>⟨v,a,b.sU,r,q⟩) λ_ _ z=>cw z
theorem yL.Fw{st:List cc}(h:yL X.Fw st t):yL X st t:=λcq s σ H D I hw=>
 cz (h cq s σ H D (I.CZ _) hw) (λ_ _ q=>q.sU) λ_ _ z=>cw z
end
section
variable {X:Cx} {st:cc} {rest:List cc} {t u:TS} {e:bE} {te:TE} {pos:eZ}
def ad8:TS:=λD σ H=>D.nx σ H
def Yc (t u:TS):TS:=λD σ H=>t {D with nx:=u D} σ H
theorem Yd:yL X [] ad8:=λ_ _ σ H _ I h=>aiv ⟨σ,H,I,h⟩
theorem yM(a:PS X st t)(b:yL X rest u):yL X (st::rest) (Yc t u):=by
 intro cq s σ H D I h;refine akk (jQ (a cq s σ H _ I h) λf s1 q=>?_);cases f with
 |next=>
  obtain⟨c,g,i,q⟩:=q;exact b cq s1 c g D i q
 |ret v=>exact q
 |brk=>exact q
 |cont=>exact q
theorem Ht(a:PS X st t):yL X [st] t:=by
 intro cq s σ H D I h;refine akk (jQ (a cq s σ H D I h) λf s1 q=>?_);cases f with
 |next=>exact aiv q
 |ret v=>exact q
 |brk=>exact q
 |cont=>exact q
theorem Inv.quiet(I:Inv X cq σ H s):interactive X.env=aq:=by simp[interactive,I.ok.kind]
def aaK (te:TE):TS:=λD σ H=>te σ H λ_ H1=>D.nx σ H1
theorem Hu(a:PE X e te)(b:dB e am pos.line X.env=pure aq:=by rfl):PS X (.Expr e pos) (aaK te):=by intro cq s σ H D I h;exact wpAny_Expr_any (jQ (a cq s σ H _ I h) λv s1 ⟨x,H1,c,g,f⟩=>⟨σ,H1,c,f⟩) I.quiet b
def age (te:TE):TS:=λD σ H=>te σ H D.rt
theorem Uf(a:PE X e te):PS X (.Return (ae e) pos) (age te):=by intro cq s σ H D I h;exact wpAny_Return_some (jQ (a cq s σ H _ I h) λv s1 ⟨x,H1,b,c,f⟩=>⟨x,σ,H1,b,c,f⟩)
def agf (c:TT)(t u:TS):TS:=λD σ H=>c σ H λb H1=>if b=aj then t D σ H1 else u D σ H1
theorem aaL(i:PT X c tc)(ha:yL X a t)(j:yL X b u):PS X (.If c a b pos) (agf tc t u):=by
 intro cq s σ H D I h;refine wpAny_If (jQ (i cq s σ H _ I h) λd s1 m=>?_);obtain⟨H1,f,g⟩:=m;cases d with
 |true=>exact ha cq s1 σ H1 D f g
 |false=>exact j cq s1 σ H1 D f g
def abL:TS:=λ_ _ _=>False
theorem Ug:PS X st abL:=λ_ _ _ _ _ _ h=>h.elim
end
abbrev TG:=V->St->Hp->(St->Hp->Prop)->Prop
abbrev TGs:=List V->St->Hp->(St->Hp->Prop)->Prop
def PG (X:Cx)(target:bE)(t:TG):Prop:=
 ∀(cq:List (aw×cE)) (s:ao) (σ:St) (H:Hp) (v:V) (u:ai) (Q:St->Hp->Prop),Inv X cq σ H s->RelV v u->t v σ H Q->
  wpAny (model X.prog X.w) X.A (assign target X.env u) (λ_ c=>∃a b,Inv X cq a b c/\Q a b) X.xe s
def TQ (X:Cx)(e:List bE)(t:TGs):Prop:=
 ∀(cq:List (aw×cE)) (s:ao) (σ:St) (H:Hp) (a:List V) (us:List ai) (Q:St->Hp->Prop),Inv X cq σ H s->Vals a us->t a σ H Q->
  wpAny (model X.prog X.w) X.A (akK ((cT e X.env).map (·.2)) us) (λ_ f=>∃b c,Inv X cq b c f/\Q b c) X.xe s
abbrev TIp:=V->V->Hp->VK->Prop
def PIp (X:Cx)(op:ajc)(t:TIp):Prop:=
 ∀(cq:List (aw×cE)) (s:ao) (σ:St) (H:Hp) (x y:V) (v u:ai) (Q:VK),Inv X cq σ H s->RelV x v->RelV y u->t x y H Q->
  wpAny (model X.prog X.w) X.A (akl op v u) (EP X cq σ Q) X.xe s
section
variable {X:Cx} {pos:eZ}
def aaM (i:Nat):TG:=λv σ H Q=>Q (σ.set i (ae v)) H
theorem Ye(a:X.N.Nodup)(hi:X.N[i]?=ae x)(b:Loc X.env.scope x)(c:X.fn x=aj\/X.env.scope.names.lookup x=ae .local:=by first|exact .inl rfl|exact .inr rfl|assumption):PG X (.Name x pos) (aaM i):=by intro cq s σ H v u Q I r h;exact aj3 (CW I a hi b r (λf e=>⟨_,H,e,h⟩) c)
def agg:TGs:=λa σ H Q=>a=[]/\Q σ H
def ad9 (t:TG)(u:TGs):TGs:=λa σ H Q=>∃v r,a=v::r/\t v σ H λb c=>u r b c Q
theorem Yf:TQ X [] agg:=by intro cq s σ H a us Q I r h;obtain⟨e,h⟩:=h;exact assignInOrder_nil ⟨σ,H,I,h⟩
theorem Uh(b:PG X e t)(c:TQ X es u)
(f:(cT (e::es) X.env).map (·.2)=assign e X.env::(cT es X.env).map (·.2):=by rfl):TQ X (e::es) (ad9 t u):=by
 intro cq s σ H n us Q I r h;obtain⟨v,o,e1,h⟩:=h;subst e1;cases r with
 |cons r g=>
  rw[f];refine assignInOrder_cons (jQ (b cq s σ H _ _ _ I r h) λ_ s1 i=>?_);obtain⟨a,H1,j,m⟩:=i;exact c cq s1 a H1 _ _ Q j g m
def agh (K:bz)(n:Nat)(t:TGs):TG:=λv σ H Q=>∃a xs,v=.ref a/\xr K H a xs/\xs.length=n/\t xs σ H Q
theorem abM(f:X.calm=aj)(h:TQ X es t)
(hn:(cT es X.env).length=n:=by rfl)(g:(cT es X.env).findIdx? (·.1)=am:=by rfl):PG X (.Tuple es k pos) (agh X.K n t):=by intro cq s σ H v u Q I r hw;obtain⟨a,xs,e1,i,j,hw⟩:=hw;subst e1;cases r;obtain⟨its,c,ht,q⟩:=I.tuple i;refine assign_Tuple_tuple (I.ok.hd f) ht (by simp[hn,<-j,c.length]) g λw m=>?_;have p:=I.kept (t':=s.toks) λb o e=>m b o (aO (aB e)) e;exact h cq _ σ H xs _ Q p (by simpa using c) hw
def aea (a:TE)(g:TG):TS:=λD σ H=>a σ H λx H1=>g x σ H1 D.nx
theorem Ui(a:PE X e b)(c:PG X tg g)(f:ajm [tg] e pos.line X.env=pure aq:=by rfl)(hw:ajn [tg] e X.env=pure am:=by rfl)
(i:(cT [tg] X.env).map (·.2)=[assign tg X.env]:=by rfl):PS X (.Assign [tg] e pos) (aea b g):=by intro cq s σ H D I h;refine wpAny_Assign_stores (jQ (a cq s σ H _ I h) λv s1 ⟨x,H1,j,m,n⟩=>?_) f hw;rw[i];exact jQ (c cq s1 σ H1 x v _ j m n) λ_ s2 q=>q
theorem Uj(a:X.N.Nodup)(hi:X.N[i]?=ae x)(b:Loc X.env.scope x)(c:PE X e f)(g:dB e (ae (.Name x j)) pos.line X.env=pure aq:=by rfl)(m:X.fn x=aj\/X.env.scope.names.lookup x=ae .local:=by first|exact .inl rfl|exact .inr rfl|assumption):
  PS X (.Assign [.Name x j] e pos) (aea f (aaM i)):=by intro cq s σ H D I h;refine wpAny_Assign_Name (jQ (c cq s σ H _ I h) λv s1 ⟨y,H1,n,o,p⟩=>?_) g;exact CW n a hi b o (λs2 q=>⟨_,H1,q,p⟩) m
def agi (i:Nat)(a:TE)(b:TIp):TS:=λD σ H=>∃x,σ[i]?=ae (ae x)/\a σ H λy H1=>b x y H1 λz c=>D.nx (σ.set i (ae z)) c
theorem abN(g:X.N.Nodup)(hi:X.N[i]?=ae x)(b:Loc X.env.scope x)(j:PE X e n)(o:PIp X op p)(q:X.fn x=aj\/X.env.scope.names.lookup x=ae .local:=by first|exact .inl rfl|exact .inr rfl|assumption):
  PS X (.AugAssign (.Name x sV) op e pos) (agi i n p):=by
 intro cq s σ H D I h;obtain⟨v,e1,h⟩:=h;obtain⟨m,hn,B⟩:=I.loc;have uP:T7 X.env.scope x:=by rcases b with k|k;exact .inl k;exact .inr (.inl k)
 obtain⟨u,r,l⟩:=B i x v hi e1 uP;refine wpAny_AugAssign_Name ?_;have go:wpAny (model X.prog X.w) X.A (eval e X.env) (λw C=>wpAny (model X.prog X.w) X.A (akl op u w) (λr E=>wpAny (model X.prog X.w) X.A (akj X.env x r) (λ_=>SP X cq D .next) X.xe E) X.xe C) X.xe s:=by refine jQ (j cq s σ H _ I h) λw s1 f=>?_;obtain⟨y,H1,G,J,L⟩:=f;refine jQ (o cq s1 σ H1 v y u w _ G r J L) λz s2 f=>?_;obtain⟨zv,M,O,Q,T⟩:=f;exact CW O g hi b Q (λs3 U=>⟨_,M,U,T⟩) q
 rcases l with⟨a,hm⟩|⟨a,c,Y,Pg⟩
 .exact ajJ I.ok.kind a hn hm go
 .rcases a with a|a
  .exact ajT I.ok.kind a Y Pg go
  .rcases b with k|k
   .have:X.env.scope.names.lookup x=ae .free:=a;rw[k] at this;cases this
   .have:X.env.scope.names.lookup x=ae .free:=a;rw[k] at this;cases this
end
section
variable {X:Cx} {pos:eZ}
end
structure It where
 go:Nat->Hp->Prop
 yld:Nat->Hp->V->Hp->Prop
 stop:Nat->Hp->Prop
def sW (X:Cx)(cq:List (aw×cE))(H:Hp)(b:aw):Prop:=
 H b=am/\b≠X.env.locals/\b∉X.fs/\(b∈X.ex\/X.ig.heap.objs.size<=b)/\(∀x c,X.env.cells.lookup x=ae c->c≠b)/\∀p∈X.pn++cq,p.1≠b
theorem Inv.Mz(I:Inv X cq σ H s)(a:s.heap.objs.size<=b)(hn:f b=am):sW X cq f b:=by
 refine⟨hn,du (bp I.lt a),I.abD a,.inr (bi I.sz a),λx c e z=>?_,λp g z=>?_⟩
 .obtain⟨v,q⟩:=I.cell x c e;exact absurd (bp q.lt (by rw[z];exact a)) (cS _)
 .exact absurd (bp (aB (I.pin p g).1) (by rw[z];exact a)) (cS _)
structure Turn(P:aQ)(w:bw)(K:bz)(tg:bE)(J:It)(fp:List aw)(it:aw)(tn:Nat->av->Prop):Prop where
 mem:it∈fp
 obj:∀i h,tn i h->∀b∈fp,∃o,h.get? b=ae o/\∀v,o.data≠.cell v
 keep:∀i h h',tn i h->(∀b∈fp,∀o,h.get? b=ae o->h'.get? b=ae o)->tn i h'
 item:∀(X:Cx),X.prog=P->X.w=w->X.K=K->X.calm=aj->∀(i:Nat) (cq:List (aw×cE)) (s:ao) (σ:St) (H:Hp) (E:ai->ao->Prop),Inv X cq σ H s->(∀b∈fp,sW X cq H b)->tn i s.heap->J.go i H->
  wpAny (model P w) X.A (pyNext (.ref it)) (λr s1=>∃u,r=ae u/\
   wpAny (model P w) X.A (letOwnedTupleGo tg (.ref it) u) (λ_ s2=>∃x H',Inv X cq σ H' s2/\RelV x u/\J.yld i H x H'/\tn (i+1) s2.heap/\∀b∈fp,H' b=am) E s1) E s
 done:∀(X:Cx),X.prog=P->X.w=w->X.K=K->X.calm=aj->∀(i:Nat) (cq:List (aw×cE)) (s:ao) (σ:St) (H:Hp) (E:ai->ao->Prop),Inv X cq σ H s->(∀b∈fp,sW X cq H b)->tn i s.heap->J.stop i H->
  wpAny (model P w) X.A (pyNext (.ref it)) (λr s1=>r=am/\Inv X cq σ H s1) E s
 self:∀(A:bj) (i:Nat) (s:ao) (Q:ai->ao->Prop) (E:ai->ao->Prop),tn i s.heap->Q (.ref it) s->wpAny (model P w) A (ah7 (.ref it)) Q E s
abbrev TI:=St->Hp->(It->Hp->Prop)->Prop
def PIE (X:Cx)(cq:List (aw×cE))(σ:St)(tg:bE)(R:It->Hp->Prop)(a:ai)(s2:ao):Prop:=
 ∃(it:aw) (e:List aw) (f:Nat->av->Prop) (J:It) (c:Hp),a=.ref it/\Inv X cq σ c s2/\Turn X.prog X.w X.K tg J e it f/\f 0 s2.heap/\(∀b∈e,sW X cq c b)/\R J c
def PI (X:Cx)(tg iter:bE)(wi:TI):Prop:=
 ∀(cq:List (aw×cE)) (s:ao) (σ:St) (H:Hp) (R:It->Hp->Prop),Inv X cq σ H s->wi σ H R->
  wpAny (model X.prog X.w) X.A (eval iter X.env) (λv s1=>wpAny (model X.prog X.w) X.A (ah7 v) (PIE X cq σ tg R) X.xe s1) X.xe s
theorem JK(b:s.heap.get? it=ae o)(c:o.cls=.type n)(hd:o.data=.fields e)
(hn:["enumerate","zip","dict_itemiterator","dict_reverseitemiterator","odict_iterator","itertools.zip_longest","itertools.pairwise"].contains n=aq)(a:Q () s):wpAny M A (letOwnedTupleGo tg (.ref it) u) Q E s:=by
 cases tg<;>first
  |exact ak a
  | (cases u<;>first
    |exact ak a
    | (refine ag (aiJ b ?_)
       rw[c,hd];show wpAny M A (if(["enumerate","zip","dict_itemiterator","dict_reverseitemiterator","odict_iterator","itertools.zip_longest","itertools.pairwise"].contains n&&e[0]?==ae _)=aj then _ else _) Q E s;rw[if_neg (by intro h;rw[hn] at h;cases h)];exact ak a))
noncomputable def Itl(K:bz)(a:aw):It:=
 ⟨λi H=>∃xs x,mo K H a xs/\xs[i]?=ae x,λi H x b=>b=H/\∀xs,mo K H a xs->xs[i]?=ae x,λi H=>∃xs,mo K H a xs/\xs.length<=i⟩
noncomputable def Itt(K:bz)(a:aw):It:=
 ⟨λi H=>∃xs x,xr K H a xs/\xs[i]?=ae x,λi H x b=>b=H/\∀xs,xr K H a xs->xs[i]?=ae x,λi H=>∃xs,xr K H a xs/\xs.length<=i⟩
noncomputable def Itr(lo:Int)(n:Nat):It:=⟨λi _=>i<n,λi H x a=>a=H/\x=.int (lo+i),λi _=>n<=i⟩
theorem Rr{K:bz}(a it:aw):Turn P w K tg (Itl K a) [it] it (λi h=>h.IsListIter it a i) where
 mem:=by simp
 obj:=λi h st b f=>by
  have e:b=it:=by simpa using f
  subst e;obtain⟨o,e,c,d⟩:=st;exact⟨o,e,λv z=>by rw[d] at z;cases z⟩
 keep:=λi h L st k=>st.at λo e=>k it (by simp) o e
 item:=by intro X m hw n M i cq s σ H E I g st q;subst m hw n;obtain⟨xs,x,j,r⟩:=q;obtain⟨its,y,p,O⟩:=I.list j;obtain⟨u,Q,T⟩:=y.get r;obtain⟨A,B,U,C,G,J⟩:=g it (by simp);refine ajy st p.isList (x:=u) (by simpa using Q) λL N sb=>?_;have Y:=I.turned (t':=s.toks) (λb o f e=>(sb.2 b f).trans e) A B C G J;obtain⟨o,e,c,d⟩:=id N;exact⟨u,rfl,JK e c d (by decide) ⟨x,H,Y,T,⟨rfl,λys hy=>by rw[I.JJ hy j];exact r⟩,N,λb f=>(g b f).1⟩⟩
 done:=by intro X m hw n M i cq s σ H E I g st q;subst m hw n;obtain⟨xs,j,r⟩:=q;obtain⟨its,y,p,O⟩:=I.list j;obtain⟨A,B,U,C,G,J⟩:=g it (by simp);have hl:=y.length;exact ajF (I.ok.hd M) st p.isList (by simp;omega) λL eb=>⟨rfl,I.turned (λb o f e=>eb b o f e) A B C G J⟩
 self:=λ_ _ _ _ _ st h=>wpAny_pyIter_listiter st h
theorem MA{w:bw}{K:bz}{tg:bE}(a it:aw):Turn P w K tg (Itt K a) [it] it (λi h=>h.IsTupleIter it a i) where
 mem:=by simp
 obj:=λi h st b f=>by
  have e:b=it:=by simpa using f
  subst e;obtain⟨o,e,c,d⟩:=st;exact⟨o,e,λv z=>by rw[d] at z;cases z⟩
 keep:=λi h L st k=>st.at λo e=>k it (by simp) o e
 item:=by intro X m hw n M i cq s σ H E I g st q;subst m hw n;obtain⟨xs,x,j,r⟩:=q;obtain⟨its,y,p,O⟩:=I.tuple j;obtain⟨u,Q,T⟩:=y.get r;obtain⟨A,B,U,C,G,J⟩:=g it (by simp);refine wpAny_pyNext_tuple_item st (p) (x:=u) (by simpa using Q) λL N sb=>?_;have Y:=I.turned (t':=s.toks) (λb o f e=>(sb.2 b f).trans e) A B C G J;obtain⟨o,e,c,d⟩:=id N;exact⟨u,rfl,JK e c d (by decide) ⟨x,H,Y,T,⟨rfl,λys hy=>by rw[I.F9 hy j];exact r⟩,N,λb f=>(g b f).1⟩⟩
 done:=by intro X m hw n M i cq s σ H E I g st q;subst m hw n;obtain⟨xs,j,r⟩:=q;obtain⟨its,y,p,O⟩:=I.tuple j;obtain⟨A,B,U,C,G,J⟩:=g it (by simp);have hl:=y.length;exact wpAny_pyNext_tuple_end (I.ok.hd M) st (p) (by simp;omega) λL eb=>⟨rfl,I.turned (λb o f e=>eb b o f e) A B C G J⟩
 self:=λ_ _ _ _ _ st h=>wpAny_pyIter_tupleiter st h
theorem MB{K:bz}(it:aw)(lo:Int)(n:Nat):Turn P w K tg (Itr lo n) [it] it (λi h=>IsRangeIter h it (lo+(i:Nat)*1) ((n:Int)- (i:Nat)) 1) where
 mem:=by simp
 obj:=λi h st b a=>by
  have e:=by simpa using a
  subst e;exact⟨_,st,λv z=>by have B:=z;cases B⟩
 keep:=λi h c st k=>k it (by simp) _ st
 item:=by intro X x hw y g i cq s σ H E I f st j;subst x hw y;obtain⟨m,p,C,q,r,u⟩:=f it (by simp);have W:=aiw.range (prog:=X.prog) (w:=X.w) (I.ok.hd g) it lo 1 n;refine W.item i s _ _ j st λv c tk G A J=>?_;obtain⟨t,rfl⟩:=G;have L:Inv X cq σ H {s with heap:=c,toks:=tk}:=I.turned (λb o a e=>J b o (by simpa using a) e) m p q r u;refine⟨_,rfl,JK (s:={s with heap:=c,toks:=tk}) A rfl rfl (by decide) ⟨.int (lo+i),H,L,⟨t,?_⟩,⟨rfl,rfl⟩,A,λb a=>(f b a).1⟩⟩;rw[Int.mul_one]
 done:=by intro X x hw y g i cq s σ H E I f st j;obtain⟨m,p,C,q,r,u⟩:=f it (by simp);exact wpAny_pyNext_range_end (I.ok.hd g) st (by have:n<=i:=j;omega) λc M=>⟨rfl,I.turned (λb o a e=>M b o a e) m p q r u⟩
 self:=λ_ _ _ _ _ st h=>wpAny_pyIter_rangeiter st h
section
variable {X:Cx} {tg:bE}
theorem Uk{lo hi:Int}(I:Inv X cq σ H s)(c:-(2^62)<=lo)(f:lo<2^62)(g:-(2^62)<=hi)(h:hi<2^62)
(q:R (Itr lo (hi- lo).toNat) H):wpAny (model X.prog X.w) X.A (ah7 (.ref s.heap.objs.size)) (PIE X cq σ tg R) E {s with heap:=s.heap.push {cls:=.type "range",data:=.fields #[.int lo t,.int hi u,.int 1 v]},toks:=tk}:=by
 refine wpAny_pyIter_range (IsRange.new ..) (small_one c f g h) ?_;have a:Inv X cq σ H {s with heap:=s.heap.push {cls:=.type "range",data:=.fields #[.int lo t,.int hi u,.int 1 v]},toks:=tk}:=I.kept λb o e=>ah _ e;refine⟨(s.heap.push _).objs.size,[(s.heap.push _).objs.size],_,_,H,rfl,
  a.kept λb o e=>ah _ e,MB _ lo _,?_,λb i=>?_,q⟩
 .have e1:lo+((0:Nat):Int)*1=lo:=by simp
  have e2:(((hi- lo).toNat:Nat):Int)- ((0:Nat):Int)=bH.Range.rangeSize lo hi 1:=by rw[rangeSize_one];split<;>omega
  rw[e1,e2];exact az _ rfl
 .have e:b=(s.heap.push {cls:=.type "range",data:=.fields #[.int lo t,.int hi u,.int 1 v]}).objs.size:=by simpa using i
  subst e;exact a.Mz (aD _) (a.iz.fresh (aD _))
def aeb (a:TA):TI:=λσ H R=>a σ H λb H1=>∃j:Int,b=[.int j]/\-(2^62)<=j/\j<2^62/\R (Itr 0 j.toNat) H1
theorem Rs(c:Gl X "range")(hm:X.mg "range"=am)(ha:PA X [a] f)(g:aP [a] X.env=[(aq,eval a X.env)]:=by rfl):PI X tg (.Call (.Name "range" p) [a] [] pos) (aeb f):=by
 intro cq s σ H R I h;refine Call_ (xI I c hm boot_range (eD (jQ (ha pos cq s σ H _ I h) λus s1 ⟨u,H1,i,m,b⟩=>?_) g rfl));obtain⟨j,e,b,n,q⟩:=b;subst e;cases m with
 |cons r o=>
  cases o;obtain⟨t,rfl⟩:=r;exact call_range_1 (Uk i (by omega) (by omega) b n (by simpa using q))
def agj (wi:TI)(g:TG)(tb:TS):TS:=λD σ H=>wi σ H λJ H1=>∃W:Nat->Nat->St->Hp->Prop,(∃m,W 0 m σ H1)/\∀i m σ H,W i m σ H->
 (J.stop i H/\D.nx σ H)\/(J.go i H/\∃N:St->Hp->Prop,(∀b a,N b a->∃c,c<m/\W (i+1) c b a)/\∀x a,J.yld i H x a->g x σ a λe f=>tb {D with nx:=N,ct:=N,bk:=D.nx} e f)
noncomputable def C1(a:List aw)(h:av):List (aw×cE):=a.filterMap λb=>(h.get? b).map λo=>(b,o)
theorem sX(a:b∈c)(e:h.get? b=ae o):(b,o)∈C1 c h:=List.mem_filterMap.mpr ⟨b,a,by rw[e];rfl⟩
theorem Rt(a:p∈C1 c h):p.1∈c/\h.get? p.1=ae p.2:=by
 obtain⟨b,f,e⟩:=List.mem_filterMap.mp a;cases q:h.get? b with
 |none=>rw[q] at e;cases e
 |some o=>
  rw[q] at e;have e':=bn e;subst e';exact⟨f,q⟩
theorem Inv.pinned(I:Inv X cq σ H s)(f:∀b∈a,sW X cq H b)(g:∀b∈a,∃o,s.heap.get? b=ae o/\∀v,o.data≠.cell v):Inv X (cq++C1 a s.heap) σ H s:=
 I.Pe λp h=>(bd.mp h).elim (λz=>I.pin p (bO _ z)) λz=>by obtain⟨c,e⟩:=Rt z;obtain⟨i,j,m,_⟩:=f p.1 c;obtain⟨o,e',d⟩:=g p.1 c;rw[e] at e';cases e';exact⟨e,i,j,m,d⟩
theorem Inv.yN(I:Inv X (cq++pl) σ H s):Inv X cq σ H s:=I.Pe λp a=>I.pin p (bO _ (bS _ a))
theorem Ul(C:aid (model X.prog X.w) X.A X.env X.xe)(hc:X.calm=aj)(hi:PI X tg iter wi)(hg:PG X tg g)(a:yL X body tb)
(hs:∀x,dX iter X.env x=pure x:=by intro _;rfl):PS X (.For tg iter body [] pos) (agj wi g tb):=by
 intro cq s σ H D I h;refine wpAny_For (jQ (hi cq s σ H _ I h) λv s1 h1=>jQ h1 λitv s2 h2=>?_) hs;obtain⟨it,E,tn,J,H2,e,I2,T,Y,f2,W,⟨m0,w0⟩,turn⟩:=h2;subst e;have MC:∀{q:Hp},(∀b∈E,q b=am)->∀b∈E,sW X cq q b:=λhn b a=>⟨hn b a,(f2 b a).2⟩;refine codeAny_forLoop_any (λn s'=>∃i G q,Inv X cq G q s'/\tn i s'.heap/\(∀b∈E,q b=am)/\W i n G q) ?_ m0 ⟨0,σ,H2,I2,Y,λb a=>(f2 b a).1,w0⟩;intro n s3 y;obtain⟨i,L,U,I3,M,O,w3⟩:=y;rcases turn i n L U w3 with⟨stop,qn⟩|⟨go,N,hN,step⟩
 .refine ahz C (jQ (T.done X rfl rfl rfl hc i cq s3 L U X.xe I3 (MC O) M stop) λr s4 y=>?_);obtain⟨hr,I4⟩:=y;subst hr;exact aiv ⟨L,U,I4,qn⟩
 .refine ahz C (jQ (T.item X rfl rfl rfl hc i cq s3 L U X.xe I3 (MC O) M go) λr s4 y=>?_);obtain⟨u,hr,h4⟩:=y;subst hr;refine ahz C (jQ h4 λ_ s5 y=>?_);obtain⟨x,H5,I5,r5,y5,B,fr5⟩:=y;have I5':=I5.pinned (MC fr5) (T.obj _ _ B);refine ahz C (jQ (hg _ s5 L H5 x u _ I5' r5 (step x H5 y5)) λ_ s6 y=>?_);obtain⟨σ6,H6,I6,q6⟩:=y;refine ahz C (jQ (a _ s6 σ6 H6 _ I6 q6) λf s7 z=>?_);have again:∀{c:St} {j:Hp},Inv X (cq++C1 E s5.heap) c j s7->N c j->∃m,m<n/\∃i G q,Inv X cq G q s7/\tn i s7.heap/\(∀b∈E,q b=am)/\W i m G q:=λ{c j} p Q=>by obtain⟨m',hm,w7⟩:=hN c j Q;refine⟨m',hm,i+1,c,j,p.yN,T.keep _ _ _ B λb a o e=>(p.pin (b,o) (bO _ (bO _ (sX a e)))).1,λb a=>?_,w7⟩;obtain⟨o,e,d⟩:=T.obj _ _ B b a;exact(p.pin (b,o) (bO _ (bO _ (sX a e)))).2.1
  cases f with
  |next=>obtain⟨c,j,p,Q⟩:=z;exact again p Q
  |cont=>obtain⟨c,j,p,Q⟩:=z;exact again p Q
  |brk=>obtain⟨c,j,p,z⟩:=z;exact⟨c,j,p.yN,z⟩
  |ret v=>obtain⟨x7,c,j,p,r7,z⟩:=z;exact⟨x7,c,j,p.yN,r7,z⟩
end
abbrev R2:=V->V->Hp->VK->Prop
def sY (X:Cx)(f:ai->ai->Sem ai)(r:R2):Prop:=
 ∀(cq:List (aw×cE)) (s:ao) (σ:St) (H:Hp) (x y:V) (v u:ai) (Q:VK),Inv X cq σ H s->RelV x v->RelV y u->r x y H Q->
  wpAny (model X.prog X.w) X.A (f v u) (EP X cq σ Q) X.xe s
def UnR (X:Cx)(f:ai->Sem ai)(r:V->Hp->VK->Prop):Prop:=
 ∀(cq:List (aw×cE)) (s:ao) (σ:St) (H:Hp) (x:V) (v:ai) (Q:VK),Inv X cq σ H s->RelV x v->r x H Q->
  wpAny (model X.prog X.w) X.A (f v) (EP X cq σ Q) X.xe s
def mF (X:Cx)(f:ai)(r:List V->Hp->VK->Prop):Prop:=
 ∀(cq:List (aw×cE)) (s:ao) (σ:St) (H:Hp) (xs:List V) (us:List ai) (Q:VK),Inv X cq σ H s->Vals xs us->r xs H Q->
  wpAny (model X.prog X.w) X.A (call f us) (EP X cq σ Q) X.xe s
def tOp (r:R2)(a tb:TE):TE:=λσ H Q=>a σ H λx H1=>tb σ H1 λy b=>r x y b Q
def tUn (r:V->Hp->VK->Prop)(a:TE):TE:=λσ H Q=>a σ H λx H1=>r x H1 Q
def rI (C:Int->Int->Prop)(g:Int->Int->V):R2:=λx y H Q=>∃i j,x=.int i/\y=.int j/\C i j/\Q (g i j) H
def rI0 (g:Int->Int->V):R2:=λx y H Q=>∃i j,x=.int i/\y=.int j/\Q (g i j) H
def rU (g:Int->V):V->Hp->VK->Prop:=λx H Q=>∃i,x=.int i/\Q (g i) H
section
variable {X:Cx} {a b c:bE} {ta tb tc:TE} {pos:eZ}
theorem abO(ha:PE X a ta)(i:PE X b tb){R:V->V->Hp->Prop}(I:Inv X cq σ H s)
(h:ta σ H λx H1=>tb σ H1 λy e=>R x y e){f:ai->ai->Sem ai}
(j:∀v u s2 x y e,Inv X cq σ e s2->RelV x v->RelV y u->R x y e->wpAny (model X.prog X.w) X.A (f v u) Q X.xe s2):
  wpAny (model X.prog X.w) X.A (eval a X.env) (λv m=>wpAny (model X.prog X.w) X.A (eval b X.env) (λu n=>wpAny (model X.prog X.w) X.A (f v u) Q X.xe n) X.xe m) X.xe s:=by refine jQ (ha cq s σ H _ I h) λv s1 g=>?_;obtain⟨x,H1,o,p,q⟩:=g;refine jQ (i cq s1 σ H1 _ o q) λu s2 g=>?_;obtain⟨y,e,r,z,B⟩:=g;exact j v u s2 x y e r p z B
theorem aec(e:sY X (binaryOp op) r)(ha:PE X a ta)(f:PE X b tb):PE X (.BinOp a op b pos) (tOp r ta tb):=by intro cq s σ H Q I h;exact wpAny_BinOp (abO ha f I h λv u s2 x y g i j m q=>e cq s2 σ g x y v u Q i j m q)
theorem aed(e:UnR X (unaryOp op) r)(ha:PE X a ta):PE X (.UnaryOp op a pos) (tUn r ta):=by intro cq s σ H Q I h;exact UnaryOp_ (jQ (ha cq s σ H _ I h) λv s1 ⟨x,H1,f,g,i⟩=>e cq s1 σ H1 x v Q f g i)
theorem opI{g:Int->Int->Int}
(rule:∀(i j:Int) (t u:akx) (s:ao) (Q:ai->ao->Prop) (E:ai->ao->Prop),C i j->Q (.int (g i j) s.toks) {s with toks:=s.toks+1}->wpAny (model X.prog X.w) X.A (f (.int i t) (.int j u)) Q E s):
  sY X f (rI C λi j=>.int (g i j)):=by intro cq s σ H x y v u Q I e m h;obtain⟨i,j,rfl,rfl,n,q⟩:=h;obtain⟨t,rfl⟩:=e;obtain⟨o,rfl⟩:=m;exact rule i j t o s _ _ n ⟨.int (g i j),H,I.tok _,⟨_,rfl⟩,q⟩
theorem abP{g:Int->Int->Int}
(rule:∀(i j:Int) (t u:akx) (s:ao) (Q:ai->ao->Prop) (E:ai->ao->Prop),Q (.int (g i j) s.toks) {s with toks:=s.toks+1}->wpAny (model X.prog X.w) X.A (f (.int i t) (.int j u)) Q E s):
  sY X f (rI0 λi j=>.int (g i j)):=by intro cq s σ H x y v u Q I e m h;obtain⟨i,j,rfl,rfl,q⟩:=h;obtain⟨t,rfl⟩:=e;obtain⟨n,rfl⟩:=m;exact rule i j t n s _ _ ⟨.int (g i j),H,I.tok _,⟨_,rfl⟩,q⟩
theorem abQ{g:Int->Int->Bool}
(rule:∀(i j:Int) (t u:akx) (s:ao) (Q:ai->ao->Prop) (E:ai->ao->Prop),Q (.bool (g i j)) s->wpAny (model X.prog X.w) X.A (f (.int i t) (.int j u)) Q E s):
  sY X f (rI0 λi j=>.bl (g i j)):=by intro cq s σ H x y v u Q I e m h;obtain⟨i,j,rfl,rfl,q⟩:=h;obtain⟨t,rfl⟩:=e;obtain⟨n,rfl⟩:=m;exact rule i j t n s _ _ ⟨.bl (g i j),H,I,rfl,q⟩
def As (i j:Int):Prop:=0<j/\j<1073741824
def Yg (i j:Int):Prop:=0<=j/\j<=1000000/\i.natAbs<2^64
def Ru (i j:Int):Prop:=(-(2^64)<i/\i<2^64)\/(-(2^64)<j/\j<2^64)
theorem Ru.ok(h:Ru i j):IntMulOk i j:=by
 rcases h with⟨e,f⟩|⟨e,f⟩
 .exact .of_left (akL e f)
 .exact .of_right (akL e f)
theorem abR:sY X (binaryOp .Add) (rI0 λi j=>.int (i+j)):=abP λ_ _ _ _ _ _ _ q=>add_int q
theorem abS:sY X (binaryOp .Sub) (rI0 λi j=>.int (i- j)):=abP λ_ _ _ _ _ _ _ q=>sub_int q
theorem abT:sY X (binaryOp .Mult) (rI Ru λi j=>.int (i*j)):=opI λ_ _ _ _ _ _ _ e q=>mul_int q e.ok
theorem Yh:sY X (binaryOp .FloorDiv) (rI As λi j=>.int (i/j)):=opI λi j _ _ _ _ _ e q=>by have f:=e.1;have g:=e.2;exact floordiv_int (by omega) (by rw[Int.fdiv_eq_ediv_of_nonneg i (by omega)];exact q) (.inl (PyProof.noPylong_small (by omega)))
theorem abU:sY X (binaryOp .Mod) (rI (λ_ j=>0<j) λi j=>.int (i%j)):=opI λi j _ _ _ _ _ e q=>by exact mod_int' (by omega) (by rw[Int.fmod_eq_emod_of_nonneg i (by omega)];exact q)
theorem abV:sY X (binaryOp .Pow) (rI Yg λi j=>.int (i^j.toNat)):=opI λ_ _ _ _ _ _ _ e q=>pow_int_small e.1 e.2.1 e.2.2 q
theorem Yi:sY X (akl .Add) (rI0 λi j=>.int (i+j)):=abP λ_ _ _ _ _ _ _ q=>iadd_int q
theorem unI{g:Int->Int}
(rule:∀(i:Int) (t:akx) (s:ao) (Q:ai->ao->Prop) (E:ai->ao->Prop),Q (.int (g i) s.toks) {s with toks:=s.toks+1}->wpAny (model X.prog X.w) X.A (f (.int i t)) Q E s):
  UnR X f (rU λi=>.int (g i)):=by intro cq s σ H x v Q I e h;obtain⟨i,rfl,q⟩:=h;obtain⟨t,rfl⟩:=e;exact rule i t s _ _ ⟨.int (g i),H,I.tok _,⟨_,rfl⟩,q⟩
theorem abW:UnR X (unaryOp .USub) (rU λi=>.int (-i)):=unI λ_ _ _ _ _ q=>neg_int q
end
noncomputable def aee:V->V->Bool
 |.non,.non=>aj|.non,.int _=>aj|.int _,.non=>aj|.non,.bl _=>aj|.bl _,.non=>aj|.non,.str _=>aj|.str _,.non=>aj
 |.int _,.int _=>aj|.bl _,.bl _=>aj|.str _,.str _=>aj|.TM _,.TM _=>aj
 |.int _,.str _=>aj|.str _,.int _=>aj|.bl _,.str _=>aj|.str _,.bl _=>aj
 |_,_=>aq
def rEq:R2:=λx y H Q=>aee x y=aj/\Q (.bl (decide (x=y))) H
def rNe:R2:=λx y H Q=>aee x y=aj/\Q (.bl (!decide (x=y))) H
theorem Hv:decide (V.int i=V.int j)=(i==j):=by rw[gj];simp
theorem Up:decide (V.bl i=V.bl j)=(i==j):=by rw[gj];simp
theorem Hw:decide (V.str i=V.str j)=(i==j):=by rw[gj];simp
theorem Pj:decide (V.TM i=V.TM j)=(i.toList==j.toList):=by rw[gj];cases i;cases j;simp
section
variable {X:Cx} {a b c:bE} {ta tb tc:TE} {pos:eZ}
theorem iI(I:Inv X cq σ H s)(q:Q (.bl k) H)(e:k=k'):EP X cq σ Q (.bool k') s:=by subst e;exact⟨.bl k,H,I,rfl,q⟩
theorem aaN:sY X (compareOp .Eq) rEq:=by
 intro cq s σ H x y v u Q I m e h;obtain⟨g,q⟩:=h;cases x with
 |non=>
  cases m;cases y with
  |non=>cases e;exact PySem.EqNone.eq_none_none (iI I q (by simp))
  |bl j=>cases e;exact PySem.EqNone.eq_none_bool (iI I q (by simp))
  |int j=>obtain⟨f,rfl⟩:=e;exact PySem.EqNone.eq_none_int (iI I q (by simp))
  |str j=>obtain⟨f,rfl⟩:=e;exact PySem.EqNone.eq_none_str (iI I q (by simp))
  |_=>exact absurd (show aq=aj from g) aM
 |bl i=>
  cases m;cases y with
  |non=>cases e;exact PySem.EqNone.eq_bool_none (iI I q (by simp))
  |bl j=>cases e;exact eq_bool (iI I q Up)
  |str j=>obtain⟨f,rfl⟩:=e;exact PySem.EqMixed.eq_bool_str (iI I q (by simp))
  |_=>exact absurd (show aq=aj from g) aM
 |int i=>
  obtain⟨t,rfl⟩:=m;cases y with
  |non=>cases e;exact PySem.EqNone.eq_int_none (iI I q (by simp))
  |int j=>obtain⟨f,rfl⟩:=e;exact eq_int (iI I q Hv)
  |str j=>obtain⟨f,rfl⟩:=e;exact PySem.EqMixed.eq_int_str (iI I q (by simp))
  |_=>exact absurd (show aq=aj from g) aM
 |str i=>
  obtain⟨t,rfl⟩:=m;cases y with
  |non=>cases e;exact PySem.EqNone.eq_str_none (iI I q (by simp))
  |bl j=>cases e;exact PySem.EqMixed.eq_str_bool (iI I q (by simp))
  |int j=>obtain⟨f,rfl⟩:=e;exact PySem.EqMixed.eq_str_int (iI I q (by simp))
  |str j=>obtain⟨f,rfl⟩:=e;exact eq_str (iI I q Hw)
  |_=>exact absurd (show aq=aj from g) aM
 |TM i=>
  obtain⟨t,rfl⟩:=m;cases y with
  |TM j=>obtain⟨f,rfl⟩:=e;exact W.eq_bytes (iI I q Pj)
  |_=>exact absurd (show aq=aj from g) aM
 |_=>cases y<;>exact absurd (show aq=aj from g) aM
theorem aaO:sY X (compareOp .NotEq) rNe:=by
 intro cq s σ H x y v u Q I m e h;obtain⟨g,q⟩:=h;cases x with
 |non=>
  cases m;cases y with
  |non=>cases e;exact PySem.EqNone.ne_none_none (iI I q (by simp))
  |bl j=>cases e;exact PySem.EqNone.ne_none_bool (iI I q (by simp))
  |int j=>obtain⟨f,rfl⟩:=e;exact PySem.EqNone.ne_none_int (iI I q (by simp))
  |str j=>obtain⟨f,rfl⟩:=e;exact PySem.EqNone.ne_none_str (iI I q (by simp))
  |_=>exact absurd (show aq=aj from g) aM
 |bl i=>
  cases m;cases y with
  |non=>cases e;exact PySem.EqNone.ne_bool_none (iI I q (by simp))
  |bl j=>cases e;exact ne_bool (iI I q (congrArg not Up))
  |str j=>obtain⟨f,rfl⟩:=e;exact PySem.EqMixed.ne_bool_str (iI I q (by simp))
  |_=>exact absurd (show aq=aj from g) aM
 |int i=>
  obtain⟨t,rfl⟩:=m;cases y with
  |non=>cases e;exact PySem.EqNone.ne_int_none (iI I q (by simp))
  |int j=>obtain⟨f,rfl⟩:=e;exact ne_int (iI I q (congrArg not Hv))
  |str j=>obtain⟨f,rfl⟩:=e;exact PySem.EqMixed.ne_int_str (iI I q (by simp))
  |_=>exact absurd (show aq=aj from g) aM
 |str i=>
  obtain⟨t,rfl⟩:=m;cases y with
  |non=>cases e;exact PySem.EqNone.ne_str_none (iI I q (by simp))
  |bl j=>cases e;exact PySem.EqMixed.ne_str_bool (iI I q (by simp))
  |int j=>obtain⟨f,rfl⟩:=e;exact PySem.EqMixed.ne_str_int (iI I q (by simp))
  |str j=>obtain⟨f,rfl⟩:=e;exact ne_str (iI I q (congrArg not Hw))
  |_=>exact absurd (show aq=aj from g) aM
 |TM i=>
  obtain⟨t,rfl⟩:=m;cases y with
  |TM j=>obtain⟨f,rfl⟩:=e;exact W.ne_bytes (iI I q (congrArg not Pj))
  |_=>exact absurd (show aq=aj from g) aM
 |_=>cases y<;>exact absurd (show aq=aj from g) aM
theorem aef:sY X (compareOp .Lt) (rI0 λi j=>.bl (decide (i<j))):=abQ λ_ _ _ _ _ _ _ q=>lt_int q
theorem aeg:sY X (compareOp .LtE) (rI0 λi j=>.bl (decide (i<=j))):=abQ λ_ _ _ _ _ _ _ q=>le_int q
theorem aeh:sY X (compareOp .Gt) (rI0 λi j=>.bl (decide (j<i))):=abQ λ_ _ _ _ _ _ _ q=>gt_int q
theorem Rv:sY X (compareOp .Lt) (λx y H Q=>∃i j,x=.str i/\y=.str j/\Q (.bl (decide (i.cps.toList<j.cps.toList))) H):=by intro cq s σ H x y v u Q I e f h;obtain⟨i,j,rfl,rfl,q⟩:=h;obtain⟨t,rfl⟩:=e;obtain⟨g,rfl⟩:=f;exact lt_str (iI I q rfl)
theorem Rx:sY X (compareOp .In) (λx y H Q=>∃i j,x=.str i/\y=.str j/\Q (.bl (!(ahv j i 0 j.length 1).isEmpty)) H):=by intro cq s σ H x y v u Q I e f h;obtain⟨i,j,rfl,rfl,q⟩:=h;obtain⟨t,rfl⟩:=e;obtain⟨g,rfl⟩:=f;exact in_str (iI I q rfl)
theorem abX:sY X (compareOp .Is) (λx y H Q=>y=.non/\Q (.bl (decide (x=.non))) H):=by
 intro cq s σ H x y v u Q I e f h;obtain⟨rfl,q⟩:=h;cases f;refine is_none_gen (iI I q ?_);cases x<;>first
  | (rfl)
  | (obtain⟨t,rfl⟩:=e;rfl)
theorem Yj:sY X (compareOp .IsNot) (λx y H Q=>y=.non/\Q (.bl (!decide (x=.non))) H):=by
 intro cq s σ H x y v u Q I e f h;obtain⟨rfl,q⟩:=h;cases f;refine isnot_none_gen (iI I q ?_);cases x<;>first
  | (rfl)
  | (obtain⟨t,rfl⟩:=e;rfl)
theorem Hx:sY X (compareOp .NotIn) (λx y H Q=>∃i j,x=.str i/\y=.str j/\Q (.bl (!(!(ahv j i 0 j.length 1).isEmpty))) H):=by intro cq s σ H x y v u Q I e f h;obtain⟨i,j,rfl,rfl,q⟩:=h;obtain⟨t,rfl⟩:=e;obtain⟨g,rfl⟩:=f;exact notIn_str (iI I q rfl)
theorem Yk(e:sY X (compareOp op) r)(ha:PE X a ta)(f:PE X b tb)(hm:aiG op b=aq):PE X (.Compare a [op] [b] pos) (tOp r ta tb):=by intro cq s σ H Q I h;exact wpAny_Compare1 (abO ha f I h λv u s2 x y g i j m q=>e cq s2 σ g x y v u Q i j m q) hm
def aaP (t:TE):TT:=λσ H Q=>t σ H λx e=>∃k,x=.bl k/\Q k e
theorem Yl(f:sY X (compareOp op) r)(ha:PE X a ta)(g:PE X b tb)(hm:aiG op b=aq):PT X (.Compare a [op] [b] pos) (aaP (tOp r ta tb)):=by
 intro cq s σ H Q I h;refine wpAny_isTrue_Compare1 (jQ (ha cq s σ H _ I h) λv s1 ⟨x,H1,i,j,m⟩=>jQ (g cq s1 σ H1 _ i m) λu s2 ⟨y,n,o,p,q⟩=>
  jQ (f cq s2 σ n x y v u _ o j p q) λc s3 ⟨z,w,A,B,k,e,C⟩=>?_) hm
 subst e;cases B;exact cO ⟨w,A,C⟩
def MD (r f:R2)(ta tb tc:TE):TE:=λσ H Q=>ta σ H λx H1=>tb σ H1 λy g=>r x y g λz e=>∃k,z=.bl k/\
 (if k=aj then tc σ e λh i=>f y h i Q else Q (.bl aq) e)
theorem Uq(n:sY X (compareOp op) r)(o:sY X (compareOp f) p)(ha:PE X a ta)(q:PE X b tb)(w:PE X c tc)
(hm:ajr [op,f] [b,c]=aq:=by with_unfolding_all rfl):PE X (.Compare a [op,f] [b,c] pos) (MD r p ta tb tc):=by
 intro cq s σ H Q I h;refine Compare_chain (jQ (ha cq s σ H _ I h) λv s1 ⟨x,H1,A,B,C⟩=>chain_link (jQ (q cq s1 σ H1 _ A C) λu s2 ⟨y,E,G,g,J⟩=>
  jQ (n cq s2 σ E x y v u _ G B g J) λd s3 ⟨z,i,j,L,k,e,m⟩=>?_)) hm
 subst e;cases L;refine cO ?_;cases k with
 |false=>exact ite_ff ⟨.bl aq,i,j,rfl,m⟩
 |true=>exact ite_tt (chain_last (jQ (w cq s3 σ i _ j m) λM N ⟨O,T,U,Y,q4⟩=>o cq N σ T y O u M Q U g Y q4))
theorem Ur(n:sY X (compareOp op) r)(o:sY X (compareOp f) p)(ha:PE X a ta)(q:PE X b tb)(w:PE X c tc)
(hm:ajr [op,f] [b,c]=aq:=by with_unfolding_all rfl):PT X (.Compare a [op,f] [b,c] pos) (aaP (MD r p ta tb tc)):=by
 intro cq s σ H Q I h;refine isTrue_chain (jQ (ha cq s σ H _ I h) λv s1 ⟨x,H1,A,B,C⟩=>test_link (jQ (q cq s1 σ H1 _ A C) λu s2 ⟨y,E,G,g,J⟩=>
  jQ (n cq s2 σ E x y v u _ G B g J) λd s3 ⟨z,i,j,L,k,e,m⟩=>?_)) hm
 subst e;cases L;refine cO ?_;cases k with
 |false=>
  obtain⟨k',e',M⟩:=m;cases e';exact ite_ff ⟨i,j,M⟩
 |true=>
  refine ite_tt (test_last (jQ (w cq s3 σ i _ j m) λN O ⟨T,U,Y,r4,q4⟩=>jQ (o cq O σ U y T u N _ Y g r4 q4) λd' s5 zq=>?_));obtain⟨z2,H5,I5,r5,k2,e2,q5⟩:=zq;subst e2;cases r5;exact cO ⟨H5,I5,q5⟩
theorem C2:(aE:Nat)<2^63:=by decide
theorem ME:sY X (binaryOp .Add) (λx y H Q=>∃i j,x=.str i/\y=.str j/\i.length+j.length<=aE/\Q (.str (i++j)) H):=by intro cq s σ H x y v u Q I e f h;obtain⟨i,j,rfl,rfl,g,q⟩:=h;obtain⟨t,rfl⟩:=e;obtain⟨m,rfl⟩:=f;exact add_str (λm tk=>⟨.str (i++j),H,I.tok _,⟨_,rfl⟩,q⟩) g
theorem vals1(r:Vals [x] us):∃u,us=[u]/\RelV x u:=by
 cases r with
 |cons e f=>cases f;exact⟨_,rfl,e⟩
theorem vals2(r:Vals [x,y] us):∃u e,us=[u,e]/\RelV x u/\RelV y e:=by
 cases r with
 |cons f g=>
  cases g with
  |cons h i=>cases i;exact⟨_,_,rfl,f,h⟩
end
structure MG(h:av)(x dx C:aw)(mA:aJ->Option ai):Prop where
 obj:h.get? x=ae (W.instObj C dx)
 ns:h.Ns1 dx mA
 ne:dx≠x
theorem Ga{h:av}(n:h.Ns1 b c):∃od,h.get? b=ae od/\∀name,W.lookIn name od=ae (c name):=by
 obtain⟨o,es,p,f,hd,g,_,hm⟩:=n;refine⟨o,f,λname=>?_⟩;have e:=hm name;unfold nsFind ajW at e;rw[<-Array.find?_toList] at e;unfold W.lookIn;rw[hd];dsimp only;split
 .rename_i y q;rw[q] at e;exact congrArg ae e
 .rename_i q;rw[q] at e;have a:es.toList.any (·.refKey)=aq:=by rw[List.any_eq_false];intro y i;obtain⟨z,t,j⟩:=g y (Array.mem_toList_iff.mp i);simp[DictEntry.refKey,j]
  have m:¬es.toList.any (·.refKey)=aj:=by rw[a];exact aM
  rw[if_neg m];exact congrArg ae e
theorem MG.look(I:MG h x a C b):∃od,W.InstAt h x (W.instObj C a) C (ae od)/\∀name,W.lookIn name od=ae (b name):=
 let⟨od,c,e⟩:=Ga I.ns
 ⟨od,⟨I.obj,rfl,rfl,c⟩,e⟩
section
variable {prog:aQ} {w:bw} {A:bj} {E:ai->ao->Prop} {s:ao} {K:bz} {x dx C f:aw} {mA:aJ->Option ai} {name:aJ} {v:ai}
theorem nS(X:K.In s.heap)(I:MG s.heap x dx C mA)(b:W.plainGet K C name=aj)(c:W.hasDictIn K C=aj)
(ha:dr K (.ref C) name=ae am)(e:mA name=ae v)(a:W.handedIn v=aj)(h:Q v {s with toks:=s.toks+1}):
  wpAny (model prog w) A (aj4 (.ref x) name expr) Q E s:=by obtain⟨od,J,g⟩:=I.look;exact W.get_value X J (W.plainGet_of b).1 (W.findObj_own c ha rfl (by rw[g,e])) a h
theorem Us(X:K.In s.heap)(I:MG s.heap x dx C mA)(a:W.plainGet K C name=aj)
(b:dr K (.ref C) name=ae (ae (.ref f)))(ht:W.isFn K (.ref f)=aj)(c:mA name=am)(h:Q (.ref f,[.ref x]) s):
  wpAny (model prog w) A (ai0 (.ref x) name pl) Q E s:=by obtain⟨od,J,e⟩:=I.look;exact W.method_fn X J (W.plainGet_of a).1 (W.plainGet_of a).2 b (beq_iff_eq.mp ht) (by show(W.lookIn name od).map _=ae aq;rw[e,c];rfl) h
theorem Ym(X:K.In s.heap)(I:MG s.heap x dx C mA)
(j:dr K (.ref C) "__setattr__"=ae (ae (.builtin "object.__setattr__")))(m:W.plainOver K C=aj)(ht:W.takerIn K C name=ae am)(n:W.hasDictIn K C=aj)
(hw:PySem.Within mA ns)(B:ns.length<=aE)
(h:∀c,MG c x dx C (λy=>if y=name then ae v else mA y)->bg dx s.heap c->Q () {s with heap:=c,toks:=s.toks+2}):
  wpAny (model prog w) A (aj5 (.ref x) name v) Q E s:=by obtain⟨od,J,G⟩:=I.look;refine W.set_plain X J j (W.osa_open X J m ht λb=>?_);obtain⟨cd,o,p⟩:=W.any_some n;have q:=I.obj;refine ag (ak (ag (ag (ajd q (ag (W.Looks.here (W.looks_clsIn X o) ?_))))));rw[p];refine ak (ag (ak (ag ?_)));refine ajz I.ns λc a i=>?_;obtain⟨H,r,u,e,g,z⟩:=a.count (PySem.Within.cons name v hw);refine ag (ai1 e (by rw[g];exact ai2 (bi z (by rw[bc];omega))) ?_);exact ak (h _ ⟨(i.2 _ (bV I.ne)).trans I.obj,a,I.ne⟩ i)
theorem Uu(X:K.In s.heap)(hm:W.makesIn K C=aj)
(hi:dr K (.ref C) "__init__"=ae (ae (.ref f)))(b:W.typeIn K (.ref f)=ae (.type "function"))
(h:codeAny (model prog w) (A.under (.builtin "type.__call__" ⟨.ref C::a,kw⟩)) (.call (.ref f) ⟨.ref (s.heap.objs.size+1)::a,kw⟩) (W.InitBack (s.heap.objs.size+1) R)
   {s with heap:=(s.heap.push W.emptyDict).push (W.instObj C s.heap.objs.size)}):
  codeAny (model prog w) A (.call (.ref C) ⟨a,kw⟩) R s:=by exact W.make_core (W.makes_of X hm) (W.looks_findIn X hi) (λself=>W.bind_fn X self b) (.inl rfl) h
end
noncomputable def nw(f:aJ)(v:V):List (aJ×V)->List (aJ×V)
 |[]=>[(f,v)]
 | (g,x)::r=>if g=f then(g,v)::r else(g,x)::nw f v r
theorem uV(f g:aJ)(v:V):∀fs:List _,(nw f v fs).lookup g=if g=f then ae v else fs.lookup g
 |[]=>by
  show gb g [(f,v)]=_;by_cases h:g=f
  .have a:=beq_iff_eq.mpr h;simp only [gb,a,if_pos h]
  .have a:=beq_eq_false_iff_ne.mpr h;simp only [gb,a,if_neg h]
 | (k,x)::r=>by
  have c:=uV f g v r;rw[show nw f v _=(if k=f then(k,v)::r else(k,x)::nw f v r) from rfl];by_cases b:k=f
  .rw[if_pos b];by_cases h:g=k
   .have a:=beq_iff_eq.mpr h;simp only [gb,a,if_pos (h.trans b)]
   .have a:=beq_eq_false_iff_ne.mpr h;simp only [gb,a,if_neg (λe:g=f=>h (e.trans b.symm))]
  .rw[if_neg b];by_cases h:g=k
   .have a:=beq_iff_eq.mpr h;simp only [gb,a,if_neg (λe:g=f=>b (h.symm.trans e))]
   .have a:=beq_eq_false_iff_ne.mpr h;simp only [gb,a];exact c
theorem rX(f:aJ)(v:V):∀fs:List _,f∈(nw f v fs).map (·.1)/\∀g,g∈fs.map (·.1)->g∈(nw f v fs).map (·.1)
 |[]=>⟨by simp[nw],λg h=>by simp at h⟩
 | (k,x)::r=>by
  obtain⟨b,c⟩:=rX f v r;rw[show nw f v _=(if k=f then(k,v)::r else(k,x)::nw f v r) from rfl];by_cases a:k=f
  .subst a;exact⟨by simp,λg h=>by simpa using h⟩
  .rw[if_neg a];refine⟨?_,λg h=>?_⟩
   .exact ay _ b
   .rcases aC.mp h with e|e
    .exact aC.mpr (.inl e)
    .exact ay _ (c g e)
theorem Bs(f:aJ)(v:V):∀fs:List _,(nw f v fs).length<=fs.length+1
 |[]=>by simp[nw]
 | (k,x)::r=>by
  have b:=Bs f v r;rw[show nw f v _=(if k=f then(k,v)::r else(k,x)::nw f v r) from rfl];by_cases a:k=f
  .rw[if_pos a,bc,bc];omega
  .rw[if_neg a,bc,bc];omega
theorem rq.some_of(r:rq (ae v) o):∃u,o=ae u/\RelV v u:=by
 cases o with
 |none=>exact(r).elim
 |some u=>exact⟨u,rfl,r⟩
theorem rq.none_of(r:rq am o):o=am:=by
 cases o with
 |none=>rfl
 |some u=>exact(r).elim
theorem Gb(r:RelV v u):W.handedIn u=aj:=by
 cases v with
 |non=>cases(r);rfl
 |bl b=>cases(r);rfl
 |int i=>obtain⟨t,e⟩:=(r);cases e;rfl
 |str x=>obtain⟨t,e⟩:=(r);cases e;rfl
 |TM b=>obtain⟨t,e⟩:=(r);cases e;rfl
 |flt b=>obtain⟨t,e⟩:=(r);cases e;rfl
 |ref a=>cases(r);rfl
 |ty n=>cases(r);rfl
section
variable {P:aQ} {w:bw} {H H':Hp} {h h':av} {a C dx:aw} {fs fs':List (aJ×V)}
theorem Cp(iz:sN P w H h)(e:H a=ae (.ins C dx fs)):∃b,MG h a dx C b/\(∀f,rq (fs.lookup f) (b f))/\PySem.Within b (fs.map (·.1))/\fs.length<=1000/\H dx=ae (.own a):=by obtain⟨d,z,ne,ob,b,n,r,q⟩:=(iz a _ e);exact⟨b,⟨ob,n,ne⟩,r,q,z,d⟩
end
structure Pk(K:bz)(C:aw):Prop where
 pg:W.plainGet K C aJ.empty=aj
 hd:W.hasDictIn K C=aj
 po:W.plainOver K C=aj
 sa:dr K (.ref C) "__setattr__"=ae (ae (.builtin "object.__setattr__"))
theorem Pk.get{K:bz}(c:Pk K C)(f:aJ):W.plainGet K C f=aj:=c.pg
def kY (K:bz)(C:aw)(f:aJ):Prop:=dr K (.ref C) f=ae am
theorem kY.aei{K:bz}(n:kY K C f):W.takerIn K C f=ae am:=by unfold W.takerIn;rw[n];rfl
structure Con(K:bz)(C:aw)(f:aJ)(v:V)(u:ai):Prop where
 at_:dr K (.ref C) f=ae (ae u)
 rel:RelV v u
 get:W.specialIn K u "__get__"=ae am
 cp:W.copiedNames.contains f=aq
structure Meth(K:bz)(C:aw)(m:aJ)(f:aw):Prop where
 at_:dr K (.ref C) m=ae (ae (.ref f))
 fn:W.isFn K (.ref f)=aj
 kp:ef K (.ref f)=aj
section
variable {X:Cx} {cq:List (aw×cE)} {σ:St} {H:Hp} {s:ao} {a C dx:aw} {fs:List (aJ×V)} {f:aJ} {v:V} {A:bj} {E:ai->ao->Prop}
theorem MH(I:Inv X cq σ H s)(e:H a=ae (.ins C dx fs))(c:Pk X.K C)(n:kY X.K C f)(l:fs.lookup f=ae v)
(h:∀u g,Inv X cq σ H g->RelV v u->Q u g):wpAny (model X.prog X.w) A (aj4 (.ref a) f b) Q E s:=by obtain⟨m,O,r,_,_,_⟩:=Cp I.iz e;obtain⟨u,j,i⟩:=rq.some_of (by rw[<-l];exact r f);exact nS I.qE O (c.get f) c.hd n j (Gb i) (h u _ (I.tok _) i)
theorem MI(I:Inv X cq σ H s)(e:H a=ae (.ins C dx fs))(c:Pk X.K C)(k:Meth X.K C m g)(l:fs.lookup m=am)
(h:Q (.ref g,[.ref a]) s):wpAny (model X.prog X.w) A (ai0 (.ref a) m pl) Q E s:=by obtain⟨b,O,r,_,_,_⟩:=Cp I.iz e;have hn:=rq.none_of (by rw[<-l];exact r m);exact Us I.qE O (c.get m) k.at_ k.fn hn h
theorem MJ(I:Inv X cq σ H s)(e:H a=ae (.ins C dx fs))(c:Pk X.K C)(n:kY X.K C f)(M:fs.length<1000)(p:RelV y u)
(h:∀j,Inv X cq σ (upd H a (.ins C dx (nw f y fs))) j->Q () j):wpAny (model X.prog X.w) A (aj5 (.ref a) f u) Q E s:=by
 obtain⟨x,O,r,wi,_,m⟩:=Cp I.iz e;have B:(fs.map (·.1)).length<=aE:=by rw[ar,bT];omega
 refine Ym I.qE O c.sa c.po n.aei c.hd wi B λG i sb=>h _ ?_;have hd:∃o,G.get? dx=ae o:=let⟨o,_,_,e',_⟩:=i.ns;⟨o,e'⟩;refine I.write (by rw[e];exact dW) (.inr m) (λb q J z=>(sb.2 b J).trans z) hd ?_;refine⟨by rw[gM O.ne];exact m,?_,O.ne,i.obj,_,i.ns,λg=>?_,λg L=>?_⟩
 .have:=Bs f y fs;omega
 .rw[uV];by_cases q:g=f
  .rw[if_pos q,if_pos q];exact p
  .rw[if_neg q,if_neg q];exact r g
 .by_cases q:g=f
  .rw[q];exact(rX f y fs).1
  .refine(rX f y fs).2 g (wi g λz=>L ?_);show(if g=f then ae u else x g)=am;rw[if_neg q];exact z
theorem Inv.made(I:Inv X cq σ H s):Inv X cq σ (upd (upd H s.heap.objs.size (.own (s.heap.objs.size+1))) (s.heap.objs.size+1) (.ins C s.heap.objs.size []))
  {s with heap:=(s.heap.push W.emptyDict).push (W.instObj C s.heap.objs.size)}:=by
 have e1:(s.heap.push _).get? _=ae W.emptyDict:=az s.heap rfl;have e2:=by
  have:=az (s.heap.push W.emptyDict) (o:=W.instObj C s.heap.objs.size) rfl
  rwa [bW] at this
 have e3:(s.heap.push _).Ns _ (λ_=>am):=⟨W.emptyDict,#[],_,e1,rfl,(λe c=>absurd c (by simp)),λ_=>rfl⟩;have g:=I.laid (o:=.own (s.heap.objs.size+1)) (t':=s.toks) (λb u q=>ah _ q) (aD _) ⟨_,e1⟩;refine g.laid (λb u q=>ah _ q) (ahw (bW _ _)) ?_;have ne:s.heap.objs.size≠s.heap.objs.size+1:=aO (fu _);refine⟨by rw[gM ne,gS],bC _,ne,e2,λ_=>am,(av.Ns1.of_empty e3).at λo q=>ah _ q,λ_=>dW,λy h=>absurd rfl h⟩
theorem Pm(b:dz e f env (eval e env)=eval e env)
(h:wpAny (model prog w) A (eval e env) (λo c=>wpAny (model prog w) A (aj4 o f aj) Q E c) E s):wpAny (model prog w) A (eval (.Attribute e f pos) env) Q E s:=
 Attribute_any_ h (by rw[arm_eval_Attribute,b])
end
def agk (K:bz)(b:TE)(f:aJ):TE:=λσ H Q=>b σ H λx H1=>∃a C c fs v,x=.ref a/\H1 a=ae (.ins C c fs)/\Pk K C/\kY K C f/\fs.lookup f=ae v/\Q v H1
def agl (K:bz)(e g:TE)(f:aJ):TS:=λD σ H=>g σ H λy H1=>e σ H1 λx b=>∃a C c fs,x=.ref a/\b a=ae (.ins C c fs)/\Pk K C/\kY K C f/\fs.length<1000/\
 D.nx σ (upd b a (.ins C c (nw f y fs)))
section
variable {X:Cx} {o e value:bE} {f:aJ} {pos sV yO:eZ} {ta tv:TE}
theorem abY(b:PE X e ta)(g:dz e f X.env (eval e X.env)=eval e X.env):PE X (.Attribute e f pos) (agk X.K ta f):=by intro cq s σ H Q I h;refine Pm g (jQ (b cq s σ H _ I h) λu s1 i=>?_);obtain⟨x,H1,j,m,a,C,y,fs,v,ex,p,c,n,l,q⟩:=i;subst ex;obtain rfl:u=bA a:=m;exact MH j p c n l λz s2 r w=>⟨v,H1,r,w,q⟩
theorem abZ(ha:PE X o ta)(b:PE X value tv)(g:dB value (ae (.Attribute o f sV)) pos.line X.env=pure aq):PS X (.Assign [.Attribute o f sV] value pos) (agl X.K ta tv f):=by intro cq s σ H D I h;refine aiY (jQ (b cq s σ H _ I h) λu s1 ⟨y,H1,i,j,q⟩=>jQ (ha cq s1 σ H1 _ i q) λm s2 ⟨x,A,p,r,a,C,B,fs,ex,v,c,n,l,w⟩=>?_) g;subst ex;obtain rfl:m=bA a:=r;exact MJ p v c n l j λs3 z=>⟨σ,_,z,w⟩
end
section
variable {X:Cx} {cq:List (aw×cE)} {σ:St} {H:Hp} {s:ao} {A:bj} {E:ai->ao->Prop} {Q:ai->ao->Prop} {c:ai} {b:Bool}
inductive B3(K:bz)(H:Hp):V->ai->Prop where
 |non:B3 K H .non (.type "NoneType")
 |bl (x:Bool):B3 K H (.bl x) (.type "bool")
 |int (i:Int):B3 K H (.int i) (.type "int")
 |str (x:aJ):B3 K H (.str x) (.type "str")
 |flt (x:UInt64):B3 K H (.flt x) (.type "float")
 |lst {a:aw} {xs:List V} (e:H a=ae (.lst xs)):B3 K H (.ref a) (.type "list")
 |qD {a:aw} {o:cE} {xs:List V} (e:H a=ae (.qD o (.lst xs))):B3 K H (.ref a) (.type "list")
 |tup {a:aw} {xs:List V} (e:H a=ae (.tup xs)):B3 K H (.ref a) (.type "tuple")
 |dK {a:aw} {hU:List (Key×V)} (e:H a=ae (.dK hU)):B3 K H (.ref a) (.type "dict")
 |dT {a:aw} {hU:List (List Key×V)} (e:H a=ae (.dT hU)):B3 K H (.ref a) (.type "dict")
 |ins {a C dx:aw} {fs:List (aJ×V)} (e:H a=ae (.ins C dx fs)) (cl:Pk K C) (ha:dr K (.ref C) "__class__"=ae (ae (.builtin "object.__class__")))
   (hn:W.specialIn K (.builtin "object.__class__") "__get__"=ae (ae (.builtin "getset_descriptor.__get__"))) (htk:W.takesIn K (.builtin "object.__class__")=ae aj)
   (hm:W.mroIn K C (.type "object")=ae aj):B3 K H (.ref a) (.ref C)
theorem pJ(I:Inv X cq σ H s)(f:RelV x u)(ty:B3 X.K H x t)(e:dt X.K t c=ae b)(h:∀tk,Q (.bool b) {s with toks:=tk}):
  wpAny (model X.prog X.w) A (call (.builtin "isinstance") [u,c]) Q E s:=by
 cases ty with
 |non=>cases(f);exact W.kia_one W.kitx_none I.qE dW e (λz=>nomatch z) h
 |bl y=>cases(f);exact W.kia_one W.kitx_bool I.qE dW e (λz=>nomatch z) h
 |int i=>obtain⟨t,q⟩:=(f);cases q;exact W.kia_one W.kitx_int I.qE dW e (λz=>nomatch z) h
 |str y=>obtain⟨t,q⟩:=(f);cases q;exact W.kia_one W.kitx_str I.qE dW e (λz=>nomatch z) h
 |flt y=>obtain⟨t,q⟩:=(f);cases q;exact W.kia_one W.kitx_float I.qE dW e (λz=>nomatch z) h
 |@lst a xs g=>
  cases(show u=bA a from f);obtain⟨_,_,n,_,j⟩:=(I.iz a _ g);exact W.kia_one W.kitx_list I.qE ⟨_,j,rfl⟩ e (λz=>nomatch z) h
 |@qD a ob xs g=>
  cases(f);obtain⟨_,_,_,n,_,j⟩:=(I.iz a _ g);exact W.kia_one W.kitx_list I.qE ⟨_,j,rfl⟩ e (λz=>nomatch z) h
 |@tup a xs g=>
  cases(f);obtain⟨_,_,_,p⟩:=(I.iz a _ g);obtain⟨o,j,m,_⟩:=p;exact W.kia_one W.kitx_tuple I.qE ⟨o,j,m⟩ e (λz=>nomatch z) h
 |@dK a r g=>
  cases(show u=bA a from f);obtain⟨_,_,B,_,p⟩:=(I.iz a _ g);obtain⟨o,es,v,j,m,_⟩:=p;exact W.kia_one W.kitx_dict I.qE ⟨o,j,m.1⟩ e (λz=>nomatch z) h
 |@dT a r g=>
  cases(show u=bA a from f);obtain⟨_,_,xs,_,o,es,v,j,m,_⟩:=(I.iz a _ g);exact W.kia_one W.kitx_dict I.qE ⟨o,j,m.1⟩ e (λz=>nomatch z) h
 |@ins a C G fs g cl ha hn htk hm=>
  cases(f);obtain⟨L,O,_⟩:=Cp I.iz g;obtain⟨od,J,_⟩:=O.look;exact W.kia_one (W.kitx_own (cl.get _) cl.hd ha hn htk hm) I.qE J e (λz=>nomatch z) h
end
structure iV(k:Nat)(A:bj):Prop where
 hd:A.handled=am
 dp:A.depth+3*k+5<aky
 un:A.units+16*k+200<fH
 gd:A.guards=ae []
theorem iV.mono(r:iV k A)(h:j<=k):iV j A:=⟨r.hd,by have:=r.dp;omega,by have:=r.un;omega,r.gd⟩
theorem iV.deeper(r:iV (k+1) A)(env:ah1):iV k (A.deeper env):=
 ⟨r.hd,by have:=r.dp;show A.depth+1+3*k+5<_;omega,by have:=r.un;show A.units+3+16*k+200<_;omega,r.gd⟩
theorem iV.in1(r:iV (k+1) A):iV k A.in1:=
 ⟨r.hd,by have:=r.dp;show A.depth+3*k+5<_;omega,by have:=r.un;show A.units+1+16*k+200<_;omega,r.gd⟩
theorem MK{A:bj}:(A.under (.builtin "type.__call__" ⟨.ref C::us,kw⟩)).depth=A.depth+1:=by first|rfl|simp[guardIds]
theorem ML{A:bj}:(A.under (.builtin "type.__call__" ⟨.ref C::us,kw⟩)).units=A.units+1:=by first|rfl|simp[Code.cUnits]
theorem iV.make(r:iV (k+1) A)(C:aw)(us:List ai)(kw:List _):iV k (A.under (.builtin "type.__call__" ⟨.ref C::us,kw⟩)):=
 ⟨r.hd,by have:=r.dp;rw[MK];omega,by have:=r.un;rw[ML];omega,by exact r.gd⟩
theorem iV.depth(r:iV k A):A.depth<aky:=by have:=r.dp;omega
theorem iV.units(r:iV k A):A.units+64<fH:=by have:=r.un;omega
def ab0:TA:=λ_ H Q=>Q [] H
def Pn (a:TE)(tr:TA):TA:=λσ H Q=>a σ H λx H1=>tr σ H1 λxs b=>Q (x::xs) b
section
variable {X:Cx} {e:bE} {es:List bE} {te:TE} {t:TA} {pos:eZ}
theorem xJ:PA X [] ab0:=λ_ _ _ _ H Q I h=>Calls.spliced_nil ⟨[],H,I,.nil,h⟩
theorem qF(ha:PE X e te)(a:PA X es t)(b:aP (e::es) X.env=(aq,eval e X.env)::aP es X.env:=by rfl):PA X (e::es) (Pn te t):=by intro pos cq s σ H Q I h;rw[b];show wpAny _ _ (spliced ((aq,eval e X.env)::c9 pos _)) _ _ s;refine Calls.spliced_cons (jQ (ha cq s σ H _ I h) λu s1 c=>?_);obtain⟨x,H1,f,g,i⟩:=c;exact jQ (a pos cq s1 σ H1 _ f i) λus s2 ⟨xs,j,m,n,o⟩=>⟨x::xs,j,m,.cons g n,o⟩
def agm (t:TA):TE:=λσ H Q=>t σ H λxs H1=>xs.length<=aE/\∀p,H1 p=am->Q (.ref p) (upd H1 p (.tup xs))
def agn (t:TA):TE:=λσ H Q=>t σ H λxs H1=>xs.length<=aE/\∀p,H1 p=am->Q (.ref p) (upd H1 p (.lst xs))
theorem ab1{x1}(h:PA X es t):PE X (.Tuple es x1 pos) (agm t):=by intro cq s σ H Q I c;refine wpAny_Tuple_spliced (jQ (h pos cq s σ H _ I c) λus s1 ⟨xs,H1,a,r,z,q⟩=>⟨by rw[<-r.length];exact z,?_⟩);have f:=a.iz.fresh (aD _);refine⟨.ref _,upd H1 _ _,a.laid (λb u e=>ah _ e) (aD _) ?_,rfl,q _ f⟩;exact⟨z,us,r,⟨_,az _ rfl,rfl,_,rfl⟩⟩
theorem ab2(h:PA X es t):PE X (.List es pos) (agn t):=by intro cq s σ H Q I c;refine wpAny_List_spliced (jQ (h pos cq s σ H _ I c) λus s1 ⟨xs,H1,a,r,z,q⟩=>⟨by rw[<-r.length];exact z,?_⟩);have f:=a.iz.fresh (aD _);refine⟨.ref _,upd H1 _ _,a.laid (λb u e=>ah _ e) (aD _) ?_,rfl,q _ f⟩;exact⟨z,us,0,r,az _ rfl⟩
end
abbrev Sp:=List V->Hp->VK->XK->Prop
abbrev Yn:=List ah1->Hp->ao->XK->ai->ao->Prop
structure C3(P:aQ)(w:bw)(K:bz)(mg:aJ->Option ai)(cv:av)(A:bj)(cP:List ah1)(s:ao)(H:Hp):Prop where
 frames:A.frames=ae cP
 mod:Mod K mg cv
 bs:∀b o,cv.get? b=ae o->s.heap.get? b=ae o/\H b=am
 Rq:cv.objs.size<=s.heap.objs.size
 xg:s.heap.FunFrames cv cP
 T8:∀b∈rW cP,H b=am
 iz:sN P w H s.heap
 bare:f7 s.gens
def CE (cP:List ah1)(P:aQ)(w:bw)(H:Hp)(s:ao)(Q:VK)(u:ai)(a:ao):Prop:=
 ∃v b,a.os=s.os/\f7 a.gens/\Un (rW cP) [] H b s.heap a.heap/\sN P w b a.heap/\RelV v u/\Q v b
def CR (b:Yn)(cP:List ah1)(P:aQ)(w:bw)(H:Hp)(s:ao)(Q:VK)(E:XK)(r:ai3)(a:ao):Prop:=
 match r with
 |.ok (.ret u)=>CE cP P w H s Q u a
 |.ok _=>False
 |.error e=>b cP H s E e a
structure jR(P:aQ)(w:bw)(K:bz)(mg:aJ->Option ai)(cv:av)(CX:Yn)(k:Nat)(f:aw)(fd:dY)(ps:List aJ)(sp:Sp):Prop where
 len:∀vs H Q E,sp vs H Q E->vs.length=ps.length
 run:∀(A:bj) (cP:List ah1) (s:ao) (H:Hp) (args:Args) (us:List ai) (vs:List V) (Q:VK) (E:XK),iV k A->C3 P w K mg cv A cP s H->aiP s fd args (ps.zip us)->Vals vs us->sp vs H Q E->
  codeAny (model P w) A (.call (.ref f) args) (CR CX cP P w H s Q E) s
theorem jR.mono{K:bz}(F:jR P w K mg cv a j f fd b sp)(h:j<=k):
  jR P w K mg cv a k f fd b sp:=⟨F.len,λA cP s H args us c Q E e=>F.run A cP s H args us c Q E (e.mono h)⟩
theorem jR.imp{K:bz}(F:jR P w K mg cv c k f fd e sp)
(h:∀a H Q E,b a H Q E->sp a H Q E):jR P w K mg cv c k f fd e b:=
 ⟨λa H Q E q=>F.len a H Q E (h _ _ _ _ q),λA cP s H args us a Q E g i j m n=>F.run A cP s H args us a Q E g i j m (h _ _ _ _ n)⟩
theorem C3.make{K:bz}(e:C3 P w K mg cv A cP s H)(C:aw)(us:List ai)(kw:List _):
  C3 P w K mg cv (A.under (.builtin "type.__call__" ⟨.ref C::us,kw⟩)) cP s H:=⟨by first|exact e.frames|(simpa[pushEnvs] using e.frames),e.mod,e.bs,e.Rq,e.xg,e.T8,e.iz,e.bare⟩
theorem C3.in1{K:bz}{mg:aJ->Option ai}{cv:av}{A:bj}{cP:List ah1}{s:ao}{H:Hp}(e:C3 P w K mg cv A cP s H):
  C3 P w K mg cv A.in1 cP s H:=⟨e.frames,e.mod,e.bs,e.Rq,e.xg,e.T8,e.iz,e.bare⟩
section
variable {X:Cx} {cq:List (aw×cE)} {σ:St} {H:Hp} {s s':ao}
theorem Inv.Uv(I:Inv X cq σ H s):C3 X.prog X.w X.K X.mg X.cv X.A X.stack s H:=
 ⟨I.ok.frames,I.ok.mod,I.bs,bi I.ok.Rq I.sz,I.stack,I.Pd,I.iz,I.bare⟩
theorem Inv.after(I:Inv X cq σ H s)(h:CE X.stack X.prog X.w H s Q u s'):EP X cq σ Q u s':=by obtain⟨v,c,os,bare,un,iz,r,q⟩:=h;obtain⟨e,g,d,t,a⟩:=s';obtain rfl:a=s.os:=os;exact⟨v,c,I.call un iz bare (λb z=>absurd z (by simp)),r,q⟩
end
def aaQ (sp:Sp)(xh:List V)(E:XK)(t:TA):TE:=λσ H Q=>t σ H λa H1=>sp (a++xh) H1 Q E
def aej (C:aw)(sp:Sp)(xh:List V)(E:XK)(t:TA):TE:=λσ H Q=>t σ H λb H1=>∀x a,H1 x=am->H1 a=am->a≠x->
 sp (.ref x::(b++xh)) (upd (upd H1 a (.own x)) x (.ins C a [])) (λv c=>v=.non/\Q (.ref x) c) E
def Binds(K:bz)(fd:dY)(a:List aJ)(ds:List ai):Prop:=
 ∀(s:ao) (us:List ai),K.In s.heap->(us++ds).length=a.length->aiP s fd ⟨us,[]⟩ (a.zip (us++ds))
theorem Binds.all{K:bz}(h:∀us:List ai,us.length=a.length->dZ fd ⟨us,[]⟩=pure (a.zip us)):Binds K fd a []:=λs us _ b=>by rw[ba] at b |-;exact .of_eq (h us b)
def xL (b:Yn)(X:Cx)(E:XK):Prop:=∀(cq:List (aw×cE)) (σ:St) (H:Hp) (s:ao) (e:ai) (a:ao),Inv X cq σ H s->b X.stack H s E e a->X.xe e a
section
variable {X:Cx} {CX:Yn} {k:Nat} {f C:aw} {fd:dY} {ps:List aJ} {sp:Sp} {xh:List V} {ds:List ai} {E:XK} {x m:aJ} {p pos apos:eZ} {e o:bE} {es:List bE} {ta:TE} {t:TA}
theorem Uw(F:jR X.prog X.w X.K X.mg X.cv CX k f fd ps sp)(c:iV k X.A)(g:Binds X.K fd ps ds)(hd:Vals xh ds)(i:xL CX X E)
(I:Inv X cq σ H s)(r:Vals vs us)(h:sp (vs++xh) H Q E):wpAny (model X.prog X.w) X.A (call (.ref f) us) (EP X cq σ Q) X.xe s:=by
 have b:=r.append hd;have j:(us++ds).length=ps.length:=by rw[<-b.length];exact F.len _ _ _ _ h
 refine eF (c6 (F.run X.A X.stack s H _ _ _ Q E c I.Uv (g s us I.qE j) b h) λr n a=>?_);cases r with
 |error e=>exact i cq σ H s e n I a
 |ok fl=>
  cases fl with
  |ret u=>exact I.after a
  |next=>exact cw a
  |brk=>exact cw a
  |cont=>exact cw a
theorem Yo(F:jR X.prog X.w X.K X.mg X.cv CX k f fd ps sp)(b:iV k X.A)(c:Gl X x)(hm:X.mg x=ae (.ref f))(g:ef X.K (.ref f)=aj)(i:Binds X.K fd ps ds)(hd:Vals xh ds)(j:xL CX X E)
(ha:PA X (e::es) t)(n:(x==("__debug__":aJ))=aq:=by decide)(u:aP (e::es) X.env=(aq,eval e X.env)::aP es X.env:=by rfl)(v:(c9 pos (aP es X.env)).any (·.1)=aq:=by rfl):
  PE X (.Call (.Name x p) (e::es) [] pos) (aaQ sp xh E t):=by intro cq s σ H Q I h;refine dQ (wB I c hm ?_ n);refine W.callWith_K I.ok.mod.T6 g (jQ (ha pos cq s σ H _ I h) λus s1 ⟨y,H1,a,r,q⟩=>⟨a.qE,?_⟩) u v;exact Uw F b i hd j a r q
structure Mk(K:bz)(C f:aw):Prop where
 makes:W.makesIn K C=aj
 init:dr K (.ref C) "__init__"=ae (ae (.ref f))
 fn:W.isFn K (.ref f)=aj
 kp:ef K (.ref C)=aj
theorem Ux(M:Mk X.K C f)(F:jR X.prog X.w X.K X.mg X.cv CX k f fd ps sp)(n:iV (k+1) X.A)(q:Binds X.K fd ps ds)(hd:Vals xh ds)
(y:xL CX X E)(I:Inv X cq σ H s)(r:Vals g us)
(h:∀x b,H x=am->H b=am->b≠x->sp (.ref x::(g++xh)) (upd (upd H b (.own x)) x (.ins C b [])) (λv z=>v=.non/\Q (.ref x) z) E):
  wpAny (model X.prog X.w) X.A (call (.ref C) us) (EP X cq σ Q) X.xe s:=by
 have i:=h _ _ (I.iz.fresh (cB _)) (I.iz.fresh (aD _)) (aO (fu _));have c:=Inv.made (C:=C) I;have j:Vals (V.ref (s.heap.objs.size+1)::(g++xh)) _:=.cons rfl (r.append hd);have B:=by have e:=j.length;rw[F.len _ _ _ _ i] at e;exact e.symm
 refine eF (Uu I.qE M.makes M.init (beq_iff_eq.mp M.fn) (c6 (F.run _ X.stack _ _ _ _ _ _ E (n.make C us [])
  (c.Uv.make C us []) (q _ _ c.qE B) j i) λr G a=>?_))
 cases r with
 |error e=>exact y cq σ _ _ e G c a
 |ok fl=>
  cases fl with
  |ret u=>
   obtain⟨v,J,L,N,O,T⟩:=c.after a;subst O;exact⟨N,⟨V.ref _,J,L,rfl,T⟩⟩
  |next=>exact cw a
  |brk=>exact cw a
  |cont=>exact cw a
theorem Yp(M:Mk X.K C f)(F:jR X.prog X.w X.K X.mg X.cv CX k f fd ps sp)(b:iV (k+1) X.A)(c:Gl X x)(hm:X.mg x=ae (.ref C))(g:Binds X.K fd ps ds)(hd:Vals xh ds)(i:xL CX X E)
(ha:PA X (e::es) t)(j:(x==("__debug__":aJ))=aq:=by decide)(n:aP (e::es) X.env=(aq,eval e X.env)::aP es X.env:=by rfl)(u:(c9 pos (aP es X.env)).any (·.1)=aq:=by rfl):
  PE X (.Call (.Name x p) (e::es) [] pos) (aej C sp xh E t):=by intro cq s σ H Q I h;refine dQ (wB I c hm ?_ j);refine W.callWith_K I.ok.mod.T6 M.kp (jQ (ha pos cq s σ H _ I h) λus s1 ⟨v,H1,a,r,q⟩=>⟨a.qE,?_⟩) n u;exact Ux M F b g hd i a r q
end
section
variable {X:Cx} {CX:Yn} {k:Nat} {f C:aw} {fd:dY} {ps ks:List aJ} {sp:Sp} {E:XK} {x m:aJ} {p pos apos MN:eZ} {e o:bE} {es:List bE} {kws:List aiq} {te ta:TE} {t tk:TA} {nm:Option aJ}
structure ago(K:bz)(fd:dY)(ps ks:List aJ)(g:List ai->List ai->List ai)(gV:List V->List V->List V):Prop where
 to:∀(s:ao) (us ws:List ai),K.In s.heap->(g us ws).length=ps.length->aiP s fd ⟨us,ks.zip ws⟩ (ps.zip (g us ws))
 rel:∀{vs:List V} {us:List ai} {zs:List V} {ws:List ai},Vals vs us->Vals zs ws->Vals (gV vs zs) (g us ws)
variable {g:List ai->List ai->List ai} {gV:List V->List V->List V}
end
structure gU(N P:List aJ)(sc:dN):Prop where
 kind:sc.kind=.function
 co:sc.isCoroutine=aq
 gen:sc.isGenerator=aq
 nd:N.Nodup
 pre:N.take P.length=P
 par:∀x∈P,sc.names.lookup x=ae .local\/sc.names.lookup x=ae .cell
 ab3:∀y∈sc.names,y.2≠.free
theorem Gc{kindOf:aJ->Option d6}:∀{binds:List _} {m:aJ->Option ai},(∀v,(x,v)∉binds)->ajK kindOf binds m x=m x
 |[],_,_=>rfl
 | (n,v)::r,m,h=>by
  unfold ajK;rw[Gc λw hw=>h w (ay _ hw)];split
  .have:x≠n:=by rintro rfl;exact h v aH
   simp[this]
  .rfl
theorem Gd{kindOf:aJ->Option d6}:∀{binds:List _} {m:aJ->Option ai},(∀v,(x,v)∉binds)->ajL kindOf binds m x=m x
 |[],_,_=>rfl
 | (n,v)::r,m,h=>by
  unfold ajL;rw[Gd λw hw=>h w (ay _ hw)];split
  .rfl
  .have:x≠n:=by rintro rfl;exact h v aH
   simp[this]
theorem Ge{kindOf:aJ->Option d6}:∀{P:List aJ} {a:List ai} {i:Nat} {m:aJ->Option ai},P.Nodup->P[i]?=ae x->a[i]?=ae v->kindOf x=ae .local->
  ajK kindOf (P.zip a) m x=ae v
 |[],_,_,_,_,h,_,_=>by simp at h
 |_::_,[],_,_,_,_,h,_=>by simp at h
 |p::P,w::a,0,m,nd,b,c,e=>by simp at b c;subst b;subst c;show ajK kindOf ((p,w)::P.zip a) m p=_;unfold ajK;rw[Gc λv f=>(cL.mp nd).1 (gk f).1,if_pos e];simp
 |p::P,w::a,i+1,m,nd,b,c,e=>by unfold ajK;exact Ge (cL.mp nd).2 (by simpa using b) (by simpa using c) e
theorem Gf{kindOf:aJ->Option d6}:∀{P:List aJ} {a:List ai} {i:Nat} {m:aJ->Option ai},P.Nodup->P[i]?=ae x->a[i]?=ae v->kindOf x≠ae .local->
  ajL kindOf (P.zip a) m x=ae v
 |[],_,_,_,_,h,_,_=>by simp at h
 |_::_,[],_,_,_,_,h,_=>by simp at h
 |p::P,w::a,0,m,nd,b,c,e=>by simp at b c;subst b;subst c;show ajL kindOf ((p,w)::P.zip a) m p=_;unfold ajL;rw[Gd λv f=>(cL.mp nd).1 (gk f).1,if_neg e];simp
 |p::P,w::a,i+1,m,nd,b,c,e=>by unfold ajL;exact Gf (cL.mp nd).2 (by simpa using b) (by simpa using c) e
noncomputable def start(N:List aJ)(a:List V):St:=a.map ae++bL (N.length- a.length) am
noncomputable def rC(b:Yn)(P:aQ)(w:bw)(K:bz)(mg:aJ->Option ai)(cv:av)(N:List aJ)(qual:aJ)(scope:dN)(f:aw)(cd:ai)(A:bj)(cP:List ah1)(s:ao)(H:Hp)(E:XK):Cx where
 prog:=P
 w:=w
 K:=K
 mg:=mg
 cv:=cv
 A:=A.deeper (eG qual scope s.heap.objs.size f cd)
 N:=N
 ig:=s
 ik:=H
 env:=eG qual scope s.heap.objs.size f cd
 cP:=cP
 stack:=eG qual scope s.heap.objs.size f cd::cP
 ex:=[]
 calm:=aj
 fn:=λ_=>aj
 pn:=[]
 xe:=λe c=>wpAny (model P w) (A.deeper (eG qual scope s.heap.objs.size f cd)) (leaving (eG qual scope s.heap.objs.size f cd) e) (λ_ a=>b cP H s E e a) (λe' a=>b cP H s E e' a) c
theorem JN{sc:dN}(h:sc.names.lookup x=ae .cell):∃c,(ajs n sc.names []).lookup x=ae c:=by have q:=W.cellsFrom_some sc.names n [] (.inl h);exact ahD.mp q
theorem Gg{K:bz}{E:XK}
(S:gU N o scope)(hd:A.handled=am)(j:C3 P w K mg cv A cP s H)(Q:n.length=o.length)(r:Vals n us)
(x:InCallC s s.heap.objs.size (ajK (eG qual scope s.heap.objs.size f cd).kindOf (o.zip us) λ_=>am) (ajs (s.heap.objs.size+1) scope.names []) (ajL (eG qual scope s.heap.objs.size f cd).kindOf (o.zip us) λ_=>am) s1):
  Inv (rC M P w K mg cv N qual scope f cd A cP s H E) [] (start N n) H s1:=by
 have T:=by have:=congrArg ahG S.pre;rw[dI] at this;omega
 obtain⟨I,tk,rfl,J⟩:=x.done;have m:∀b:aw,b∉(rC M P w K mg cv N qual scope f cd A cP s H E).ex:=λb z=>absurd (show b∈([]) from z) (by simp);refine⟨⟨j.mod,S.kind,rfl,rfl,aD _,λy z c I g=>?_,λy B=>?_,λy c _ h=>?_,λ_=>hd,bj.frames_deeper j.frames,.inr ⟨rfl,rfl⟩,λb z=>absurd z (m b),j.bs,j.Rq,λb _ _=>m b,λb z=>absurd z (m b),j.xg,j.T8⟩,
  rfl,j.bare,Un.kept J,⟨_,x.toInCall.ns,λi y v I g U=>?_⟩,λy c h=>⟨_,x.cell y c h⟩,j.iz.fresh (aD _),λy c h=>?_,λp C=>absurd (show p∈([]) from C) (by simp),j.iz.kept J,?_⟩
 .exact name_of_addr x.apart (PySem.mem_of_lookup I) (PySem.mem_of_lookup g)
 .rcases B with B|B
  .exact JN B
  .exact absurd rfl (S.ab3 _ (PySem.mem_of_lookup B))
 .exact dR (x.above y c (PySem.mem_of_lookup h))
 .have hi:i<n.length:=by
   unfold start at g;by_cases hi:i<n.length
   .exact hi
   .rw[df (by simpa using hi)] at g;rw[List.getElem?_replicate] at g;split at g<;>cases g
  have ha:n[i]?=ae v:=by
   unfold start at g;rw[aR (by simpa using hi),bq] at g;cases e:n[i]? with
   |none=>rw[e] at g;cases g
   |some a=>rw[e] at g;cases g;rfl
  obtain⟨u,L,O⟩:=r.get ha;have C:o[i]?=ae y:=by rw[<-S.pre,List.getElem?_take_of_lt (by omega)];exact I
  have G:o.Nodup:=by rw[<-S.pre];exact S.nd.sublist (List.take_sublist _ _)
  refine⟨u,O,?_⟩;rcases S.par y (bF C) with k|k
  .exact .inl ⟨k,Ge G C L k⟩
  .obtain⟨c,e⟩:=JN k;refine .inr ⟨.inl k,c,e,?_⟩;have q:=x.cell y c e;rw[Gf G C L (by show scope.names.lookup y≠_;rw[k];decide)] at q;exact q
 .exact j.iz.fresh (dR (x.above y c (PySem.mem_of_lookup h)))
 .unfold start;show _=N.length;rw[bN,ar,List.length_replicate];omega
theorem Uy{K:bz}{G kV doc pm ip ct oc:ai}
(lk:K.lookup f=ae ⟨oc,od,.func (ee name qual params body scope G kV doc pm an ip ct),JQ⟩)(T:W.codeIn K ip qual=aj)(S:gU N j scope)
(len:∀c H Q E,sp c H Q E->c.length=j.length)
(U:∀(A:bj) (cP:List ah1) (s:ao) (H:Hp) (c:List V) (Q:VK) (E:XK),iV k (A.deeper (eG qual scope s.heap.objs.size f ip))->sp c H Q E->
   ∃t,yL (rC m P w K mg cv N qual scope f ip A cP s H E) body t/\t {nx:=λ_ a=>Q .non a,rt:=Q} (start N c) H):
  jR P w K mg cv m (k+1) f (ee name qual params body scope G kV doc pm an ip ct) j sp:=by
 refine⟨len,λA cP s H args us c Q E p h Y r L=>?_⟩;have hl:=len _ _ _ _ L;have M:=h.mod.T6.keeps λb o e=>(h.bs b o e).1;have z:=h.mod.nolimit.keeps λb o e=>(h.bs b o e).1;have Uz:∀y∈j.zip us,scope.names.lookup y.1=ae .local\/(scope.names.lookup y.1=ae .cell/\((ajs (s.heap.objs.size+1) _ []).lookup y.1).isSome=aj):=λ⟨n,v⟩ hy=>by
  rcases S.par n (gk hy).1 with q|q
  .exact .inl q
  .exact .inr ⟨q,W.cellsFrom_some _ _ _ (.inl q)⟩
 refine codeAny_call_function p.depth (M _ _ lk) rfl S.co S.gen rfl (W.codeRec_of M T) (Y _ _ _ _ ?_);refine aje S.kind Uz λenv he s1 x=>?_;subst he;refine⟨z.keeps x.toInCall.keep,codeAny_func ?_⟩;obtain⟨t,ht,hq⟩:=U A cP s H c Q E (p.deeper _) L;have I:Inv (rC m P w K mg cv N qual scope f ip A cP s H E) [] _ H s1:=Gg S p.hd h hl r x;refine cz (ht [] s1 _ H _ I hq) (λfl B g=>?_) λe B g=>g;have O:∀{i:St} {a:Hp} {v:V} {u:ai},Inv (rC m P w K mg cv N qual scope f ip A cP s H E) [] i a B->RelV v u->Q v a->CE cP P w H s Q u B:=
  λ{i a v u} J C q=>⟨v,a,J.os,J.bare,J.cv,J.iz,C,q⟩
 cases fl with
 |ret u=>
  obtain⟨v,i,a,J,C,q⟩:=g;exact O J C q
 |next=>
  obtain⟨i,a,J,q⟩:=g;exact O (v:=V.non) J rfl q
 |brk=>
  obtain⟨_,_,_,q⟩:=g;exact cw q
 |cont=>
  obtain⟨_,_,_,q⟩:=g;exact cw q
section
variable {X:Cx} {x:aJ} {p pos:eZ} {e:bE} {es:List bE} {t:TA} {id T:String} {r:List V->Hp->VK->Prop}
def tCB (r:List V->Hp->VK->Prop)(t:TA):TE:=λσ H Q=>t σ H λa H1=>r a H1 Q
theorem yP(a:mF X (.builtin id) r)(b:Gl X x)(hm:X.mg x=am)(c:cb x=ae (.builtin id))(ha:PA X (e::es) t)(hn:x≠"__name__":=by decide)(sO:(x==("__debug__":aJ))=aq:=by decide)
(he:aP (e::es) X.env=(aq,eval e X.env)::aP es X.env:=by rfl)(qG:(c9 pos (aP es X.env)).any (·.1)=aq:=by rfl):PE X (.Call (.Name x p) (e::es) [] pos) (tCB r t):=by intro cq s σ H Q I h;refine dQ (xI I b hm c ?_ hn sO);exact PyProof.Rows.callWith_builtin1 (jQ (ha pos cq s σ H _ I h) λus s1 ⟨f,H1,g,i,j⟩=>a cq s1 σ H1 f us Q g i j) he qG
theorem rZ(a:mF X (.type T) r)(b:Gl X x)(hm:X.mg x=am)(c:cb x=ae (.type T))(ha:PA X (e::es) t)(hn:x≠"__name__":=by decide)(sO:(x==("__debug__":aJ))=aq:=by decide)
(he:aP (e::es) X.env=(aq,eval e X.env)::aP es X.env:=by rfl)(qG:(c9 pos (aP es X.env)).any (·.1)=aq:=by rfl):PE X (.Call (.Name x p) (e::es) [] pos) (tCB r t):=by intro cq s σ H Q I h;refine dQ (xI I b hm c ?_ hn sO);exact eD (jQ (ha pos cq s σ H _ I h) λus s1 ⟨f,H1,g,i,j⟩=>a cq s1 σ H1 f us Q g i j) he qG
end
section
variable {κ:Type} [DecidableEq κ]
noncomputable def rE(a:List (κ×V))(k:κ):Option V:=(a.find? λb=>decide (b.1=k)).map (·.2)
noncomputable def xM(b:List (κ×V))(k:κ)(v:V):List (κ×V):=
 if(b.any λa=>decide (a.1=k))=aj then b.map (λa=>if a.1=k then(a.1,v) else a) else b++[(k,v)]
theorem yQ{k:κ}(e:p.1=k):rE (p::r) k=ae p.2:=by simp[rE,e]
theorem yR{k:κ}(e:¬p.1=k):rE (p::r) k=rE r k:=by simp[rE,e]
theorem JR(k:κ):∀a:List _,(a.any λb=>decide (b.1=k))=(rE a k).isSome
 |[]=>rfl
 |p::r=>by
  rw[dH];by_cases e:p.1=k
  .simp only [yQ e,decide_eq_true e,Bool.true_or,Option.isSome_some]
  .rw[yR e,decide_eq_false e];exact JR k r
theorem Bt(a:List _)(k:κ)(v:V):(xM a k v).length<=a.length+1:=by
 unfold xM;split
 .rw[ar];omega
 .rw[bN,bc,cm];omega
theorem rq.r6(r:rq o u):o.isSome=u.isSome:=by
 cases o with
 |none=>cases u with
  |none=>rfl
  |some _=>exact(r).elim
 |some _=>cases u with
  |none=>exact(r).elim
  |some _=>rfl
theorem KV.val(r:KV f g)(k:κ):rq (rE f k) (d7 g k):=by
 induction r with
 |nil=>exact dW
 |@cons p q m a h t i=>
  obtain⟨c,j⟩:=h;by_cases e:p.1=k
  .have e':=c.symm.trans e;have b:d7 (q::a) k=ae q.2:=by simp[d7,e']
   rw[yQ e,b];exact j
  .have e':¬q.1=k:=λz=>e (c.trans z);have b:d7 (q::a) k=d7 a k:=by simp[d7,e']
   rw[yR e,b];exact i
theorem KV.any(r:KV b c)(k:κ):(b.any λa=>decide (a.1=k))=c.any λa=>decide (a.1=k):=by
 induction r with
 |nil=>rfl
 |cons h t e=>rw[dH,dH,e,h.1]
theorem KV.ab4(r:KV c f)(k:κ)(g:RelV y u):
  KV (c.map λa=>if a.1=k then(a.1,y) else a) (f.map λa=>if a.1=k then(a.1,u) else a):=by
 induction r with
 |nil=>exact .nil
 |@cons p q m n h t i=>
  rw[aX,aX];refine .cons ?_ i;obtain⟨b,j⟩:=h;by_cases e:p.1=k
  .rw[if_pos e,if_pos (b.symm.trans e)];exact⟨b,g⟩
  .rw[if_neg e,if_neg (λz=>e (b.trans z))];exact⟨b,j⟩
theorem KV.put(r:KV c a)(k:κ)(b:RelV y u):KV (xM c k y) (stored a k u):=by
 unfold xM stored;rw[r.any k];by_cases e:(a.any λf=>decide (f.1=k))=aj
 .rw[if_pos e,if_pos e];exact r.ab4 k b
 .rw[if_neg e,if_neg e];exact Paired.snoc r ⟨rfl,b⟩
theorem KV.keys{a:List (κ×V)}{b:List (κ×ai)}(r:KV a b):a.map (·.1)=b.map (·.1):=by
 unfold KV at r;induction r with
 |nil=>rfl
 |cons h t c=>rw[aX,aX,c,h.1]
theorem KV.length{a:List (κ×V)}(r:KV a b):a.length=b.length:=Paired.length r
end
theorem C4(r:RelV (kV k) u):(iF P w).is k u=aj:=by
 cases k with
 |inl i=>obtain⟨t,e⟩:=(r);subst e;exact Jy P w i t
 |inr x=>obtain⟨t,e⟩:=(r);subst e;exact Jz P w x t
theorem Gh:∀{a:List Key} {us:List ai},Vals (a.map kV) us->ItemsAre (iF P w) a us
 |[],_,r=>by cases r;exact .nil
 |k::a,_,r=>by
  cases r with
  |cons h t=>exact .cons (C4 h) (Gh t)
abbrev KT(H:Hp):List (List Key×V)->List (List Key×aw×ai)->Prop:=Paired λp q=>p.1=q.1/\H q.2.1=ae (.tup (p.1.map kV))/\RelV p.2 q.2.2
theorem KT.val(r:KT H f xs)(k:List Key):rq (rE f k) ((ajt xs k).map (·.2)):=by
 induction r with
 |nil=>exact dW
 |@cons p q j a h t g=>
  obtain⟨c,_,i⟩:=h;by_cases e:p.1=k
  .have e':=c.symm.trans e;have b:ajt (q::a) k=ae q.2:=by simp[ajt,e']
   rw[yQ e,b];exact i
  .have e':¬q.1=k:=λz=>e (c.trans z);have b:ajt (q::a) k=ajt a k:=by simp[ajt,e']
   rw[yR e,b];exact g
theorem KT.ab4(r:KT H f xs)(k:List Key)(g:RelV y u):
  KT H (f.map λb=>if b.1=k then(b.1,y) else b) (xs.map (putAt k u)):=by
 induction r with
 |nil=>exact .nil
 |@cons p q m n h t i=>
  rw[aX];refine .cons ?_ i;obtain⟨a,c,j⟩:=h;unfold putAt;by_cases e:p.1=k
  .rw[if_pos e,if_pos (a.symm.trans e)];exact⟨a,c,g⟩
  .rw[if_neg e,if_neg (λz=>e (a.trans z))];exact⟨a,c,j⟩
theorem KT.put(r:KT H a xs)(k:List Key)(f:H b=ae (.tup (k.map kV)))(c:RelV y u):
  KT H (xM a k y) (storedH xs k b u):=by
 have e:(a.any λg=>decide (g.1=k))=(ajt xs k).isSome:=by rw[JR,(r.val k).r6,ahA]
 unfold xM storedH;rw[e];by_cases q:(ajt xs k).isSome=aj
 .rw[if_pos q,if_pos q];exact r.ab4 k c
 .rw[if_neg q,if_neg q];exact Paired.snoc r ⟨rfl,f,c⟩
theorem KT.keeps(r:KT H c xs)(ht:∀b a,H b=ae (.tup a)->e b=ae (.tup a)):KT e c xs:=
 Paired.abC r λ_ _ z=>⟨z.1,ht _ _ z.2.1,z.2.2⟩
section
variable {P:aQ} {w:bw} {H:Hp} {h:av} {a:aw}
theorem aaR(ok:sN P w H h)(e:Rd H a u):jd P w H h a u:=e.ok ok
theorem uG(ok:sN P w H h)(e:Rd H a (.dK b)):b.length<=aE/\(a==cj)=aq/\∃c,KV b c/\h.DictOf (iF P w) a c:=
 aaR ok e
theorem aaS(ok:sN P w H h)(e:H a=ae (.dK b)):b.length<=aE/\(a==cj)=aq/\∃c,KV b c/\h.DictOf (iF P w) a c:=uG ok (.inl e)
theorem C5(ok:sN P w H h)(e:H a=ae (.tup (b.map kV))):(aiZ (iF P w)).is h b a:=by obtain⟨_,its,r,o,c,f,n,g⟩:=(ok a _ e);exact⟨o,its.toArray,n,c,f,g,by simpa using Gh r⟩
theorem JU(ok:sN P w H h)(e:Rd H a (.dT c)):c.length<=aE/\(a==cj)=aq/\
  ∃xs,KT H c xs/\h.DictOfH (aiZ (iF P w)) a xs:=by
 obtain⟨z,y,xs,r,o,es,g,i,j,n,s,u⟩:=(aaR ok e);refine⟨z,y,xs,r,o,es,g,i,j,n,s,λx b=>?_,u⟩;have all:∀{l:List _} {m:List _},KT H l m->∀x∈m,(aiZ (iF P w)).is h x.1 x.2.1:=by
  intro l m q;induction q with
  |nil=>intro x b;exact nomatch b
  |@cons p q A B f t v=>
   intro x b;rcases aC.mp b with e|b
   .subst e;exact C5 ok (by rw[<-f.1];exact f.2.1)
   .exact v x b
 exact all r x b
theorem aek(ok:sN P w H h)(e:H a=ae (.dT b)):b.length<=aE/\(a==cj)=aq/\
  ∃xs,KT H b xs/\h.DictOfH (aiZ (iF P w)) a xs:=JU ok (.inl e)
end
def yS (H:Hp)(a:aw)(y:V)(r:Option V):Prop:=
 (∃c k,Rd H a (.dK c)/\y=kV k/\r=rE c k)\/∃c k b,Rd H a (.dT c)/\y=.ref b/\H b=ae (.tup (k.map kV))/\r=rE c k
def MP (H:Hp)(a:aw)(y v:V)(e:Hp):Prop:=
 (∃c k,H a=ae (.dK c)/\y=kV k/\c.length<aE/\e=upd H a (.dK (xM c k v)))\/
 ∃c k b,H a=ae (.dT c)/\y=.ref b/\H b=ae (.tup (k.map kV))/\c.length<aE/\e=upd H a (.dT (xM c k v))
theorem yS.k{H:Hp}{a:aw}{b:List (Key×V)}{k:Key}(e:H a=ae (.dK b)):yS H a (kV k) (rE b k):=.inl ⟨b,k,.inl e,rfl,rfl⟩
theorem yS.t{H:Hp}{a b:aw}{c:List (List Key×V)}{k:List Key}(e:H a=ae (.dT c))(f:H b=ae (.tup (k.map kV))):yS H a (.ref b) (rE c k):=.inr ⟨c,k,b,.inl e,rfl,f,rfl⟩
theorem MP.k{k:Key}(e:H a=ae (.dK b))(c:b.length<aE):MP H a (kV k) v (upd H a (.dK (xM b k v))):=.inl ⟨b,k,e,rfl,c,rfl⟩
theorem MP.t{H:Hp}{a b:aw}{c:List (List Key×V)}{k:List Key}{v:V}(e:H a=ae (.dT c))(f:H b=ae (.tup (k.map kV)))(g:c.length<aE):
  MP H a (.ref b) v (upd H a (.dT (xM c k v))):=.inr ⟨c,k,b,e,rfl,f,g,rfl⟩
section
variable {X:Cx} {cq:List (aw×cE)} {σ:St} {H:Hp} {s:ao} {a:aw} {y v:V} {u r:ai} {o:Option V} {A:bj} {E:ai->ao->Prop}
theorem Inv.big(I:Inv X cq σ H s):cj<s.heap.objs.size:=by have h:=(I.mod.glob.keeps I.bk).lt;exact Nat.lt_trans (by decide) h
theorem RC(q:A.units+1<fH)(I:Inv X cq σ H s)(g:yS H a y (ae v))(m:RelV y u)(h:∀c n,Inv X cq σ H n->RelV v c->Q c n):
  wpAny (model X.prog X.w) A (air (.ref a) u) Q E s:=by
 rcases g with⟨x,k,e,f,l⟩|⟨x,k,b,e,f,B,l⟩
 .subst f;obtain⟨z,hd,G,rel,dd⟩:=uG I.iz e;obtain⟨c,hw,i⟩:=rq.some_of (by rw[l];exact rel.val k);exact wpAny_getItem_of (C4 m) dd.mapOf hw (h c _ (I.tok _) i)
 .subst f;cases(m);obtain⟨z,hd,xs,rel,dd⟩:=JU I.iz e;obtain⟨c,hw,i⟩:=rq.some_of (by rw[l];exact rel.val k);obtain⟨p,C,j⟩:=Option.map_eq_some_iff.mp hw;refine wpAny_getItem_heap (ahR q) (C5 I.iz B) dd C ?_;rw[j];exact h c _ (I.tok _) i
theorem agp(j:A.units+1<fH)(I:Inv X cq σ H s)(g:yS H a y o)(f:RelV y u)(h:∀i,Inv X cq σ H i->Q (.bool o.isSome) i):
  wpAny (model X.prog X.w) A (compareOp .In u (.ref a)) Q E s:=by
 rcases g with⟨m,k,e,c,l⟩|⟨m,k,b,e,c,n,l⟩
 .subst c;obtain⟨z,hd,p,rel,dd⟩:=uG I.iz e;refine wpAny_in_of (C4 f) hd dd.mapOf ?_;rw[<-(rel.val k).r6,<-l];exact h _ (I.tok _)
 .subst c;cases(f);obtain⟨z,hd,xs,rel,dd⟩:=JU I.iz e;refine wpAny_in_heap (ahR j) (C5 I.iz n) hd dd ?_;have q:=(rel.val k).r6;rw[ahA] at q;rw[<-q,<-l];exact h _ (I.tok _)
theorem Yq(j:A.units+1<fH)(I:Inv X cq σ H s)(g:yS H a y o)(f:RelV y u)(h:∀i,Inv X cq σ H i->Q (.bool (!o.isSome)) i):
  wpAny (model X.prog X.w) A (compareOp .NotIn u (.ref a)) Q E s:=by
 rcases g with⟨m,k,e,c,l⟩|⟨m,k,b,e,c,n,l⟩
 .subst c;obtain⟨z,hd,p,rel,dd⟩:=uG I.iz e;refine wpAny_notIn_of (C4 f) hd dd.mapOf ?_;rw[<-(rel.val k).r6,<-l];exact h _ (I.tok _)
 .subst c;cases(f);obtain⟨z,hd,xs,rel,dd⟩:=JU I.iz e;refine wpAny_notIn_heap (ahR j) (C5 I.iz n) hd dd ?_;have q:=(rel.val k).r6;rw[ahA] at q;rw[<-q,<-l];exact h _ (I.tok _)
theorem Hy(I:Inv X cq σ H s)(e:Mut (H a))(f:bg a s.heap c)(g:∃q,c.get? a=ae q)(new:jd X.prog X.w (upd H a ob) c a ob):
  Inv X cq σ (upd H a ob) {s with heap:=c,toks:=i}:=
 I.write e (.inl rfl) (λb q h z=>(f.2 b h).trans z) g new
theorem MQ(z:b.length<=aE)(hd:(a==cj)=aq)(rel:KV b c)(dd:e.DictOf (iF P w) a c):
  jd P w f e a (.dK b):=⟨z,hd,c,rel,dd⟩
theorem RD(O:A.units+1<fH)(I:Inv X cq σ H s)(g:MP H a y v T)(B:RelV y u)(C:RelV v r)(h:∀G,Inv X cq σ T G->Q () G):
  wpAny (model X.prog X.w) A (setItem (.ref a) u r) Q E s:=by
 rcases g with⟨f,k,e,m,l,n⟩|⟨f,k,b,e,m,J,l,n⟩
 .subst m n;obtain⟨z,hd,U,rel,dd⟩:=aaS I.iz e;have L:U.length<=aE:=by rw[<-rel.length];exact z
  have p:(xM f k v).length<=aE:=by have:=Bt f k v;omega
  refine wpAny_setItem_pairs (hsz:=L) (C4 B) dd λM i x=>h _ ?_;have he:∃q,M.get? a=ae q:=let⟨q,_,_,j,_⟩:=i;⟨q,j⟩;exact Hy I (by rw[e];exact dW) x he (MQ p hd (rel.put k C) i)
 .subst m n;cases(B);obtain⟨z,hd,xs,rel,dd⟩:=aek I.iz e;have L:xs.length<=aE:=by rw[<-Paired.length rel];exact z
  have p:(xM f k v).length<=aE:=by have:=Bt f k v;omega
  refine wpAny_setItem_heap (ahR O) (C5 I.iz J) dd λM i x=>h _ ?_;obtain⟨q,es,ep,j,h2,h3,h4,_,h5⟩:=i;refine Hy I (by rw[e];exact dW) x ⟨q,j⟩ ⟨p,hd,_,(rel.put k J C).keeps λc ys N=>?_,q,es,ep,j,h2,h3,h4,h5⟩;rw[gM (ad0 N e (λz=>nomatch z))];exact N
end
section
variable {X:Cx} {cq:List (aw×cE)} {σ:St} {H:Hp} {s:ao} {a:aw} {hU:List (Key×V)} {k:Key} {u:ai} {A:bj} {E:ai->ao->Prop}
theorem ael(I:Inv X cq σ H s)(e:Rd H a (.dK hU))(h:∀t b,Inv X cq σ H b->Q (.int hU.length t) b):wpAny (model X.prog X.w) A (call (.builtin "len") [.ref a]) Q E s:=by obtain⟨z,hd,c,rel,dd⟩:=uG I.iz e;refine call_len_dict hd dd (by rw[<-rel.length];rw[bT] at z;omega) ?_;rw[<-rel.length];exact h _ _ (I.tok _)
end
theorem JY(I:Inv X cq σ H s)(g:yS H a y o):s.TypeIs (.ref a) "dict":=by
 rcases g with⟨c,k,e,_,_⟩|⟨c,k,b,e,_,_,_⟩
 .obtain⟨_,_,f,_,dd⟩:=uG I.iz e;exact dd.typeIs
 .obtain⟨_,_,xs,_,dd⟩:=JU I.iz e;exact dd.typeIs
def aem (td ty c:TE):TS:=λD σ H=>c σ H λv H1=>td σ H1 λx e=>ty σ e λy f=>∃a b,x=.ref a/\MP f a y v b/\D.nx σ b
section
variable {X:Cx} {o i e value:bE} {pos sV yO:eZ} {td ty tv:TE}
theorem Ys(b:X.A.units+1<fH)(c:PE X o td)(hi:PE X i ty)(f:PE X value tv)(j:dB value (ae (.Subscript o i sV)) pos.line X.env=pure aq):
  PS X (.Assign [.Subscript o i sV] value pos) (aem td ty tv):=by intro cq s σ H D I h;refine wpAny_Assign_Subscript (jQ (f cq s σ H _ I h) λr s1 ⟨v,H1,m,n,p⟩=>jQ (c cq s1 σ H1 _ m p) λu s2 ⟨x,q,w,z,B⟩=>jQ (hi cq s2 σ q _ w B) λM s3 ⟨y,N,C,E,a,G,ex,g,J⟩=>?_) j;subst ex;obtain rfl:u=bA a:=z;exact RD b C g E n λO L=>⟨σ,G,L,J⟩
end
theorem UA(h:av)(a:cj<h.objs.size):jd P w H (h.push {cls:=.type "dict",data:=.dict #[]}) h.objs.size (.dK []):=
 ⟨bC _,beq_eq_false_iff_ne.mpr (bV (aO a)),[],.nil,av.DictOf.new h⟩
def ab5:TE:=λ_ H Q=>∀p,H p=am->Q (.ref p) (upd H p (.dK []))
section
variable {X:Cx} {pos:eZ}
theorem UB:PE X (.Dict [] [] pos) ab5:=λcq s σ H Q I h=>
 wpAny_Dict_empty ⟨.ref _,_,I.laid (λ_ _ q=>ah _ q) (aD _) (UA s.heap I.big),rfl,h _ (I.iz.fresh (aD _))⟩
end
def MR:List (TE×TE)->St->Hp->(List (V×V)->Hp->Prop)->Prop
 |[],_,H,Q=>Q [] H
 | (tk,a)::r,σ,H,Q=>tk σ H λx H1=>a σ H1 λy b=>MR r σ b λc e=>Q ((x,y)::c) e
abbrev VV:List (V×V)->List (ai×ai)->Prop:=Paired λp q=>RelV p.1 q.1/\RelV p.2 q.2
def PPs (X:Cx)(pos:eZ)(keys:List (Option bE))(values:List bE)(a:List (TE×TE)):Prop:=
 ∀(cq:List (aw×cE)) (s:ao) (σ:St) (H:Hp) (Q:List (V×V)->Hp->Prop),Inv X cq σ H s->MR a σ H Q->
  wpAny (model X.prog X.w) X.A (evalPairs (pairTrees keys values X.env pos)) (λe f=>∃b c,Inv X cq σ c f/\VV b e/\Q b c) X.xe s
structure M1(X:Cx)(o:bE)(m:aJ)(apos:eZ)(e:bE)(jo:eZ):Prop where
 cv:dz o m X.env (eval o X.env)=eval o X.env
 few:((c9 jo (aP [e] X.env)).all (λx=>!x.1)&&(aie jo (eW [] X.env)).all (λx=>x.1.isSome)
  &&decide (([e]:List bE).length+([]:List aiq).length+(if([]:List aiq).isEmpty then 0 else 1)<30))=aj
 line:(apos.endLine==jo.line)=aj
 trees:c9 jo (aP [e] X.env)=[(aq,eval e X.env)]
structure M2(X:Cx)(o:bE)(m:aJ)(apos:eZ)(e f:bE)(jo:eZ):Prop where
 cv:dz o m X.env (eval o X.env)=eval o X.env
 few:((c9 jo (aP [e,f] X.env)).all (λx=>!x.1)&&(aie jo (eW [] X.env)).all (λx=>x.1.isSome)
  &&decide (([e,f]:List bE).length+([]:List aiq).length+(if([]:List aiq).isEmpty then 0 else 1)<30))=aj
 line:(apos.endLine==jo.line)=aj
 trees:c9 jo (aP [e,f] X.env)=[(aq,eval e X.env),(aq,eval f X.env)]
section
variable {X:Cx} {cq:List (aw×cE)} {σ:St} {H:Hp} {s:ao} {a:aw} {y d:V} {u r:ai} {o:Option V} {A:bj} {E:ai->ao->Prop}
end
section
variable {X:Cx} {o e f:bE} {apos jo:eZ} {td ty tx:TE}
end
section
variable {X:Cx} {cq:List (aw×cE)} {σ:St} {H:Hp} {s:ao} {a:aw} {hU:List (Key×V)} {A:bj} {E:ai->ao->Prop}
end
section
variable {X:Cx} {cq:List (aw×cE)} {σ:St} {H:Hp} {s:ao} {a:aw} {y:V} {u:ai} {A:bj} {E:ai->ao->Prop}
end
end L2
end
namespace HT
open PySem PyProof.Rows
section
open PySem.SeqAt
open PySem.AutoSeq1 (wpAny_loadPart')
open PySem.MeetsSeq PySem.MeetsSeq2 PySem.MeetsSeq3
end
section
variable {prog:aQ} {w:bw} {A:bj} {E:ai->ao->Prop} {s:ao}
theorem Yt(ht:aiF s.heap t a.toArray)(q:aiF s.heap b ws.toArray)(i:a≠[])
(r:ws=[]->Q (.ref t) s)(u:ws≠[]->Q (.ref s.heap.objs.size) {s with heap:=s.heap.push {cls:=.type "tuple",data:=.seq (a++ws).toArray}})
(v:a.length+ws.length<=aE):wpAny (model prog w) A (binaryOp .Add (.ref t) (.ref b)) Q E s:=by
 obtain⟨⟨cls,dd,data,sl⟩,g,j,n,hd⟩:=id ht;obtain⟨⟨x,c,data2,f⟩,h,m,o,p⟩:=id q;simp only at j hd m p;subst j hd m p;have e:a.toArray++ws.toArray=(a++ws).toArray:=by simp
 by_cases hw:ws=[]
 .exact concat_meets ⟨_,g,rfl⟩ ⟨_,h,rfl⟩ akm akM PySem.F.slot_tuple_add PySem.F.entry_tuple_add (PySem.F.args_tuple_add_2 _ _)
   (tuple_addW1 t b _ _ n o dd c sl f (by simpa using i) (by simp[hw])) ⟨g,h,r hw⟩
 .refine concat_meets ⟨_,g,rfl⟩ ⟨_,h,rfl⟩ akm akM PySem.F.slot_tuple_add PySem.F.entry_tuple_add (PySem.F.args_tuple_add_2 _ _)
   (tuple_addW2 t b _ _ n o dd c sl f (by simpa using i) (by simpa using hw) (by exact v)) ⟨g,h,?_⟩
  rw[e];exact u hw
noncomputable def qA(n d:Nat):Option Int->Nat
 |none=>d
 |some v=>if v<0 then(v+(n:Int)).toNat else min v.toNat n
theorem C6(n d:Nat):qA n d am=d:=rfl
theorem Cr(n d k:Nat):qA n d (ae (k:Int))=min k n:=by show(if(k:Int)<0 then((k:Int)+(n:Int)).toNat else min _ n)=min k n;rw[if_neg (by omega),dS]
theorem Po(v:Int)(n d:Nat):(if v<0 then max (v+(n:Int)) 0 else min v (n:Int))=((qA n d (ae v):Nat):Int):=by
 show(if v<0 then max _ 0 else min v _)=(((if v<0 then(v+(n:Int)).toNat else min v.toNat n):Nat):Int);by_cases a:v<0
 .simp only [if_pos a];omega
 .simp only [if_neg a];omega
theorem MS(lo hi:Option Int)(n:Nat):bH.Slice.sliceAdjust lo hi 1 (n:Int)=(((qA n 0 lo:Nat):Int),((qA n n hi:Nat):Int)):=by
 refine Prod.ext ?_ ?_
 .cases lo with
  |none=>rfl
  |some v=>exact Po v n 0
 .cases hi with
  |none=>rfl
  |some v=>exact Po v n n
theorem MT(i j:Nat):f8 (i:Int) (j:Int) 1=j- i:=by unfold f8;split<;>omega
theorem C7(p:ai4 v o)(h:Q o s):wpAny (model prog w) A (bH.Slice.slicePartIndex v) Q E s:=by
 cases p with
 |none=>exact akz h
 |int i t=>exact slicePart_int h
theorem At{lo hi:Option Int}{n:Nat}(f:s.heap.IsSliceOf sl c e .none)(pl:ai4 c lo)(g:ai4 e hi)
(h:Q (((qA n 0 lo:Nat):Int),1,qA n n hi- qA n 0 lo) s):wpAny (model prog w) A (bH.Slice.sliceApplied (.ref sl) (pure (n:Int))) Q E s:=by obtain⟨os,a,i,b⟩:=id f;refine ag (ag (cJ a b (x:=c) rfl (ag (cJ a b (x:=e) rfl (ag (cJ a b rfl (ak ?_)))))));refine ag (akz ?_);refine ag (C7 pl (ag (C7 g (ag (ak ?_)))));show wpAny _ _ (match bH.Slice.sliceAdjust lo hi 1 _ with|(lo,hi)=>pure (lo,(1:Int),f8 lo hi 1)) _ _ s;rw[MS lo hi n];show wpAny _ _ (pure _) _ _ s;rw[MT];exact ak h
theorem UC(xs:Array ai)(i k:Nat):((cQ k).filterMap λ(m:Nat)=>xs[((i:Int)+(m:Int)*1).toNat]?).toArray=((xs.toList.drop i).take k).toArray:=by
 have e:(λ(m:Nat)=>xs[((i:Int)+(m:Int)*1).toNat]?)=λm=>xs[i+m]?:=by
  funext m;have:((i:Int)+(m:Int)*1).toNat=i+m:=by omega
  rw[this]
 rw[e];have:=pick_run xs i k;rw[List.filterMap_map] at this;have e2:((λx=>xs[x]?)∘λx=>i+x)=λm=>xs[i+m]?:=rfl;rw[e2] at this;rw[this]
theorem yT{lo hi:Option Int}(ht:aiF s.heap t items)(g:s.heap.IsSliceOf sl i j .none)(pl:ai4 i lo)(m:ai4 j hi)
(hw:¬(qA items.size 0 lo=0/\qA items.size items.size hi=items.size))
(h:Q (.ref s.heap.objs.size) {s with heap:=s.heap.push {cls:=.type "tuple",data:=.seq ((items.toList.drop (qA items.size 0 lo)).take (qA items.size items.size hi- qA items.size 0 lo)).toArray}})
(o:items.size<=aE):wpAny (model prog w) A (air (.ref t) (.ref sl)) Q E s:=by
 have a:=by show((items.toList.drop (qA items.size 0 lo)).take (qA items.size items.size hi- qA items.size 0 lo)).toArray.size<=aE;rw[aN,dI,List.length_drop,bu];omega
 obtain⟨os,b,c,n⟩:=id g;have e:s.TypeIs (.ref sl) "slice":=⟨os,b,c⟩;unfold air;try with_reducible refine bv ?_
 refine ag (aj6 ht.typeIs (by decide) ?_);refine ag (cx ht.typeIs fE
  (bM fE ht.typeIs entry_tuple_getitem ?_ (args_tuple_getitem _ _)))
 show wpAny _ _ (bH.Tuple.tupleItemsOf (.ref t) >>= _) _ _ s;refine ag (tupleItemsOf_ ht ?_);refine ag (ais e ?_);refine ag (At g pl m ?_);have f:¬((((qA items.size 0 lo:Nat):Int)==0&&(1:Int)==1&&(qA items.size items.size hi- qA items.size 0 lo)==items.size)=aj):=by intro q;rw[aY,aY] at q;have p:=eq_of_beq q.1.1;have r:=eq_of_beq q.2;exact hw ⟨by omega,by omega⟩
 show wpAny _ _ (if(((qA items.size 0 lo:Nat):Int)==0&&(1:Int)==1&&(qA items.size items.size hi- qA items.size 0 lo)==items.size)=aj then _ else _) _ _ s;rw[if_neg f,UC];first
  |exact ag (dD (ak ⟨_,rfl,ak h⟩) a)
  |exact ag _
  |exact ag _
  |exact ag _
end
end HT
section
open PySem PySem.Spec PyProof.Rows
namespace L2
abbrev TO:=St->Hp->(Option Int->Hp->Prop)->Prop
def PO (X:Cx)(e:Option bE)(t:TO):Prop:=
 ∀(cq:List (aw×cE)) (s:ao) (σ:St) (H:Hp) (Q:Option Int->Hp->Prop),Inv X cq σ H s->t σ H Q->
  wpAny (model X.prog X.w) X.A (evalPart e X.env) (λu b=>∃o a,Inv X cq σ a b/\ai4 u o/\Q o a) X.xe s
def Yv:TO:=λ_ H Q=>Q am H
def aeo (t:TE):TO:=λσ H Q=>t σ H λx H1=>∃i,x=.int i/\Q (ae i) H1
section
variable {X:Cx} {e:bE} {te:TE} {lo hi:Option bE} {tl th:TO} {pos p2:eZ}
theorem Yw:PO X am Yv:=by intro cq s σ H Q I h;exact ak ⟨am,H,I,.none,h⟩
theorem Yx(h:PE X e te):PO X (ae e) (aeo te):=by intro cq s σ H Q I hw;refine jQ (h cq s σ H _ I hw) λu s1 a=>?_;obtain⟨x,H1,b,c,f⟩:=a;obtain⟨i,rfl,q⟩:=f;obtain⟨t,rfl⟩:=c;exact⟨ae i,H1,b,.int i t,q⟩
def XU (X:Cx)(r:V->Option Int->Option Int->Hp->VK->Prop):Prop:=
 ∀(cq:List (aw×cE)) (s:ao) (σ:St) (H:Hp) (x:V) (v a b:ai) (lo hi:Option Int) (sl:aw) (Q:VK),Inv X cq σ H s->RelV x v->s.heap.IsSliceOf sl a b .none->ai4 a lo->ai4 b hi->r x lo hi H Q->
  ∃T id,ajX (.type T) "__getitem__"=pure (ae (.builtin id))/\s.TypeIs v T/\wpAny (model X.prog X.w) X.A (air v (.ref sl)) (EP X cq σ Q) X.xe s
theorem XU.or(h:XU X r)(i:XU X j):XU X (λx lo hi H Q=>r x lo hi H Q\/j x lo hi H Q):=by
 intro cq s σ H x v a b lo hi sl Q I c f pl g q;rcases q with q|q
 .exact h cq s σ H x v a b lo hi sl Q I c f pl g q
 .exact i cq s σ H x v a b lo hi sl Q I c f pl g q
def tSl (r:V->Option Int->Option Int->Hp->VK->Prop)(te:TE)(tl th:TO):TE:=λσ H Q=>te σ H λx H1=>tl σ H1 λl a=>th σ a λu b=>r x l u b Q
theorem UD(i:XU X r)(j:PE X e te)(m:PO X lo tl)(n:PO X hi th):PE X (.Subscript e (.Slice lo hi am p2) pos) (tSl r te tl th):=by intro cq s σ H Q I h;refine ajY (jQ (j cq s σ H _ I h) λv s1 a=>?_);obtain⟨x,H1,o,p,w⟩:=a;refine wpAny_Slice (jQ (m cq s1 σ H1 _ o w) λc s2 ⟨l,y,z,pl,A⟩=>jQ (n cq s2 σ y _ z A) λf s3 a=>?_);obtain⟨u,g,B,C,E⟩:=a;refine ak ?_;have G:Inv X cq σ g {s3 with heap:=s3.heap.push {cls:=.type "slice",data:=.fields #[c,f,.none]}}:=B.kept λb ob q=>ah _ q;obtain⟨T,id,J,ht,L⟩:=i cq _ σ g x v c f l u _ Q G p (av.IsSliceOf.new ..) pl C E;exact akA ht J L (by with_unfolding_all rfl)
noncomputable def RG(xs:List V)(lo hi:Option Int):List V:=(xs.drop (HT.qA xs.length 0 lo)).take (HT.qA xs.length xs.length hi- HT.qA xs.length 0 lo)
theorem Bu(xs:List V)(lo hi:Option Int):(RG xs lo hi).length<=xs.length:=by unfold RG;rw[dI,List.length_drop];omega
def agr (K:bz):V->Option Int->Option Int->Hp->VK->Prop:=λx lo hi H Q=>∃a xs,x=.ref a/\xr K H a xs/\
 ¬(HT.qA xs.length 0 lo=0/\HT.qA xs.length xs.length hi=xs.length)/\∀p,H p=am->Q (.ref p) (upd H p (.tup (RG xs lo hi)))
theorem ab6:XU X (agr X.K):=by
 intro cq s σ H x v n o lo hi sl Q I g i pl j h;obtain⟨a,xs,rfl,m,hw,q⟩:=h;cases g;obtain⟨its,r,ht,f⟩:=I.tuple m;have c:its.toArray.size=xs.length:=by exact r.length.symm
 refine⟨"tuple",_,fE.lookup,ht.typeIs,?_⟩;refine HT.yT ht i pl j (by rw[c];exact hw) ?_ (by rw[c];exact f);rw[c];refine⟨.ref _,_,I.laid (λb ob q=>ah _ q) (aD _) ?_,rfl,q _ (I.iz.fresh (aD _))⟩;exact⟨bi (Bu xs lo hi) f,_,(r.drop _).take _,aiF.new _ _⟩
def aep (K:bz):R2:=λx y H Q=>∃a b xs c,x=.ref a/\y=.ref b/\xr K H a xs/\xr K H b c/\xs≠[]/\xs.length+c.length<=aE/\
 (c=[]->Q (.ref a) H)/\(c≠[]->∀p,H p=am->Q (.ref p) (upd H p (.tup (xs++c))))
theorem Vals.Hz(r:Vals xs us):us=[]↔xs=[]:=by
 cases r with
 |nil=>simp
 |cons _ _=>simp
theorem Yy:sY X (binaryOp .Add) (aep X.K):=by intro cq s σ H x y v u Q I i j h;obtain⟨a,b,xs,A,rfl,rfl,ha,m,n,g,o,p⟩:=h;cases i;cases j;obtain⟨its,f,r,_⟩:=I.tuple ha;obtain⟨B,c,p2,_⟩:=I.tuple m;refine HT.Yt r p2 (λz=>n (f.Hz.mp z)) (λz=>⟨.ref a,H,I,rfl,o (c.Hz.mp z)⟩) (λz=>?_) (by rw[<-f.length,<-c.length];exact g);refine⟨.ref _,_,I.laid (λb ob q=>ah _ q) (aD _) ?_,rfl,p (λw=>z (c.Hz.mpr w)) _ (I.iz.fresh (aD _))⟩;exact⟨by rw[bN];exact g,_,f.append c,aiF.new _ _⟩
end
noncomputable def ixN(n:Nat)(i:Int):Option Nat:=if 0<=i then(if i<n then ae i.toNat else am) else if-(n:Int)<=i then ae (i+n).toNat else am
noncomputable def Fx{α:Type}(xs:List α)(i:Int):Option α:=(ixN xs.length i).bind λj=>xs[j]?
theorem Yz(h:ixN n i=ae j):seqIndex? i n=ae j/\j<n/\-(n:Int)<=i/\i<n:=by
 unfold ixN at h;by_cases b:0<=i
 .rw[if_pos b] at h;by_cases a:i<n
  .rw[if_pos a] at h;have e:=bn h;exact⟨by rw[seqIndex_of b a,e],by omega,by omega,a⟩
  .rw[if_neg a] at h;cases h
 .rw[if_neg b] at h;by_cases a:-(n:Int)<=i
  .rw[if_pos a] at h;have e:=bn h;exact⟨by rw[seqIndex_neg (by omega) a,e],by omega,a,by omega⟩
  .rw[if_neg a] at h;cases h
theorem HA{v:α}(h:Fx xs i=ae v):∃j,seqIndex? i xs.length=ae j/\xs[j]?=ae v/\j<xs.length/\-(xs.length:Int)<=i/\i<xs.length:=by
 unfold Fx at h;cases e:ixN _ i with
 |none=>rw[e] at h;cases h
 |some j=>
  rw[e] at h;obtain⟨a,b,c,f⟩:=Yz e;exact⟨j,a,h,b,c,f⟩
def Pp (b:bE):Prop:=∀o i,subscripted b aq o i=operate [o,i] (air o i)
def IxR (X:Cx)(r:R2):Prop:=
 ∀(value slice:bE) (cq:List (aw×cE)) (s:ao) (σ:St) (H:Hp) (x y:V) (v u:ai) (Q:VK),Inv X cq σ H s->RelV x v->RelV y u->r x y H Q->
  subscripted slice aq v u=operate [v,u] (air v u)->wpAny (model X.prog X.w) X.A (subscriptTail value slice v u) (EP X cq σ Q) X.xe s
def MtR (X:Cx)(id:String)(r:V->List V->Hp->VK->Prop):Prop:=
 ∀(cq:List (aw×cE)) (s:ao) (σ:St) (H:Hp) (x:V) (xs:List V) (v:ai) (us:List ai) (Q:VK),Inv X cq σ H s->RelV x v->Vals xs us->r x xs H Q->
  wpAny (model X.prog X.w) X.A (call (.builtin id) (v::us)) (EP X cq σ Q) X.xe s
section
variable {X:Cx} {a b:bE} {ta tb:TE} {pos:eZ}
theorem aaT(c:IxR X r)(ha:PE X a ta)(e:PE X b tb)(f:Pp b):PE X (.Subscript a b pos) (tOp r ta tb):=by intro cq s σ H Q I h;exact ajY (abO ha e I h λv u s2 x y g i j m q=>c a b cq s2 σ g x y v u Q i j m q (f _ _))
def ags (K:bz):R2:=λx y H Q=>∃p xs i v,x=.ref p/\y=.int i/\mo K H p xs/\Fx xs i=ae v/\Q v H
def aeq (K:bz):R2:=λx y H Q=>∃p xs i v,x=.ref p/\y=.int i/\xr K H p xs/\Fx xs i=ae v/\Q v H
def agt:R2:=λx y H Q=>∃z i c,x=.str z/\y=.int i/\z.length<=aE/\Fx z.cps.toList i=ae c/\Q (.str ⟨#[c]⟩) H
theorem Pr:IxR X (ags X.K):=by
 intro value slice cq s σ H x y v u Q I o A h f;obtain⟨p,xs,i,z,rfl,rfl,B,C,q⟩:=h;cases o;obtain⟨t,rfl⟩:=A;obtain⟨its,r,pl,N⟩:=I.list B;obtain⟨j,c,E,O,G,J⟩:=HA C;obtain⟨w,g,L⟩:=r.get E;have M:=r.length;have hn:=C2;have m:EP X cq σ Q w s:=⟨z,H,I,L,q⟩;by_cases n:0<=i
 .have e:=by rw[seqIndex_of n J] at c;exact bn c
  exact item_listR pl.isList n (by omega) (by rw[e];simpa using g) m f
 .have e:(i+(its.toArray.size:Int)).toNat=j:=by rw[seqIndex_neg (by omega) G] at c;rw[aN,<-M];exact bn c
  exact ajA pl.isList.typeIs aiQ.lookup
   (wpAny_getItem_list_neg pl.isList (by omega) (by rw[aN]<;>omega) (by omega) (by rw[e];simpa using g) ⟨rfl,m⟩) f
theorem UE:IxR X (aeq X.K):=by
 intro value slice cq s σ H x y v u Q I c e h f;obtain⟨p,xs,i,z,rfl,rfl,g,m,q⟩:=h;cases c;obtain⟨t,rfl⟩:=e;obtain⟨its,r,pl,G⟩:=I.tuple g;obtain⟨j,n,o,J,L,M⟩:=HA m;obtain⟨w,A,B⟩:=r.get o;have C:=r.length;have hn:=C2;have E:EP X cq σ Q w s:=⟨z,H,I,B,q⟩;exact ajA pl.typeIs slot_tuple_getitem.lookup
  (getItem_tuple pl (by omega) (by omega) (by rw[aN,<-C];exact n) (by simpa using A) ⟨rfl,E⟩) f
theorem ab7:IxR X agt:=by
 intro value slice cq s σ H x y v u Q I f g h m;obtain⟨z,i,c,rfl,rfl,A,n,q⟩:=h;obtain⟨t,rfl⟩:=f;obtain⟨B,rfl⟩:=g;obtain⟨j,e,o,C,p,r⟩:=HA n;have w:z.cps.toList.length=z.length:=by simp[aJ.length]
 rw[w] at e p r;have hn:=C2;exact akA (ajZ s z t) slot_str_getitem.lookup (getItem_str (by have e1:decide (i< -(2^63:Int))=aq:=decide_eq_false (by omega);have e2:decide (i>=2^63)=aq:=decide_eq_false (by omega);rw[e1,e2,Bool.or_false]) (by rw[e];simpa using o) ⟨.str _,H,I.tok _,⟨_,rfl⟩,q⟩) m
theorem Inv.lst{cq:List (aw×cE)}{σ:St}{H:Hp}{s:ao}{p:aw}{xs:List V}(I:Inv X cq σ H s)(h:H p=ae (.lst xs)):
  ∃(its:List ai) (n:Nat),Vals xs its/\s.heap.get? p=ae {cls:=.type "list",data:=.seq its.toArray n}/\xs.length<=aE:=by obtain⟨z,its,n,r,e⟩:=I.iz p _ h;exact⟨its,n,r,e,z⟩
theorem HB(lo hi:Option Int)(n:Nat):(fB lo hi am n).1=((HT.qA n 0 lo:Nat):Int)/\(fB lo hi am n).2.1=((HT.qA n n hi:Nat):Int)/\(fB lo hi am n).2.2=1:=by
 refine⟨?_,?_,rfl⟩
 .cases lo with
  |none=>simp[fB,HT.qA]
  |some i=>
   simp only [fB,HT.qA,Option.getD_none,show(1:Int)>0 by decide,if_true];by_cases h:i<0
   .simp only [h,if_true]<;>omega
   .simp only [h,if_false]<;>omega
 .cases hi with
  |none=>simp[fB,HT.qA]
  |some i=>
   simp only [fB,HT.qA,Option.getD_none,show(1:Int)>0 by decide,if_true];by_cases h:i<0
   .simp only [h,if_true]<;>omega
   .simp only [h,if_false]<;>omega
theorem Fy(its:List ai)(lo hi:Option Int):aju its.toArray lo hi am=((its.drop (HT.qA its.length 0 lo)).take (HT.qA its.length its.length hi- HT.qA its.length 0 lo)).toArray:=by obtain⟨c,e,f⟩:=HB lo hi _;unfold aju;rw[c,e,f];simp only [sliceRange_one,pick_run]<;>rfl
def agu (K:bz):V->Option Int->Option Int->Hp->VK->Prop:=λx lo hi H Q=>∃a xs,x=.ref a/\mo K H a xs/\∀p,H p=am->Q (.ref p) (upd H p (.lst (RG xs lo hi)))
theorem YA:XU X (agu X.K):=by intro cq s σ H x v m n lo hi sl Q I c e pl f h;obtain⟨a,xs,rfl,g,q⟩:=h;cases c;obtain⟨its,r,ht,i⟩:=I.list g;have j:=r.length;refine⟨"list",_,aiQ.lookup,ht.isList.typeIs,?_⟩;refine ajo ht.isList e pl f .none (by simp) ?_ (by rw[aN]<;>omega);rw[Fy,<-j];refine⟨.ref _,_,I.laid (λb ob q=>ah _ q) (aD _) ?_,rfl,q _ (I.iz.fresh (aD _))⟩;exact⟨bi (Bu xs lo hi) i,_,0,(r.drop _).take _,az _ rfl⟩
noncomputable def xt:V->Bool
 |.non=>aj
 |.bl _=>aj
 |.int _=>aj
 |.str _=>aj
 |_=>aq
noncomputable def YB:V->V->Bool
 |.non,.non=>aj
 |.bl a,.bl b=>a==b
 |.bl a,.int b=>(if a then 1 else 0)==b
 |.int a,.bl b=>a==(if b then 1 else 0)
 |.int a,.int b=>a==b
 |.str a,.str b=>a==b
 |_,_=>aq
theorem ab8(f:RelV y u)(c:RelV x v)(h:xt y=aj)(g:xt x=aj):b9 A s u v (YB y x):=by
 cases y with
 |non=>
  cases f;cases x with
  |non=>cases c;exact b9.same _
  |bl b=>cases c;exact b9.none_bool b
  |int b=>obtain⟨t,rfl⟩:=c;exact b9.none_int b t
  |str b=>obtain⟨t,rfl⟩:=c;exact b9.none_str b t
  |_=>exact absurd (show aq=aj from g) aM
 |bl a=>
  cases f;cases x with
  |non=>cases c;exact b9.bool_none a
  |bl b=>cases c;exact b9.bool_bool a b
  |int b=>obtain⟨t,rfl⟩:=c;exact b9.bool_int a b t
  |str b=>obtain⟨t,rfl⟩:=c;exact b9.bool_str a b t
  |_=>exact absurd (show aq=aj from g) aM
 |int a=>
  obtain⟨e,rfl⟩:=f;cases x with
  |non=>cases c;exact b9.int_none a e
  |bl b=>cases c;exact b9.int_bool a e b
  |int b=>obtain⟨t,rfl⟩:=c;exact b9.int_int a e b t
  |str b=>obtain⟨t,rfl⟩:=c;exact b9.int_str a e b t
  |_=>exact absurd (show aq=aj from g) aM
 |str a=>
  obtain⟨e,rfl⟩:=f;cases x with
  |non=>cases c;exact b9.str_none a e
  |bl b=>cases c;exact b9.str_bool a e b
  |int b=>obtain⟨t,rfl⟩:=c;exact b9.str_int a e b t
  |str b=>obtain⟨t,rfl⟩:=c;exact b9.str_str a e b t
  |_=>exact absurd (show aq=aj from g) aM
 |_=>exact absurd (show aq=aj from h) aM
noncomputable def MU(x:V)(u:ai):Bool:=match u with
 |.none=>YB .non x
 |.bool b=>YB (.bl b) x
 |.int i _=>YB (.int i) x
 |.str z _=>YB (.str z) x
 |_=>aq
theorem UF(r:RelV y u)(f:xt y=aj):MU x u=YB y x:=by
 cases y with
 |non=>cases r;rfl
 |bl b=>cases r;rfl
 |int i=>obtain⟨t,rfl⟩:=r;rfl
 |str z=>obtain⟨t,rfl⟩:=r;rfl
 |_=>exact absurd (f) aM
theorem yU:∀{xs:List V} {us:List ai},Vals xs us->xs.all xt=aj->us.any (MU x)=xs.any λy=>YB y x
 |_,_,.nil,_=>rfl
 |y::xs,u::us,.cons r t,f=>by rw[ahL,aY] at f;rw[dH,dH,UF r f.1,yU t f.2]
theorem uW(e:RelV x v)(g:xt x=aj):∀{xs:List V} {us:List ai},Vals xs us->xs.all xt=aj->∀u∈us,b9 A s u v (MU x u)
 |_,_,.nil,_=>λu c=>by cases c
 |y::xs,u::us,.cons r t,f=>λh c=>by
  rw[ahL,aY] at f;rcases aC.mp c with rfl|c
  .rw[UF r f.1];exact ab8 r e f.1 g
  .exact uW e g t f.2 h c
noncomputable def inV(x:V)(xs:List V):Bool:=xs.any λy=>YB y x
def rIn (K:bz)(neg:Bool):R2:=λx y H Q=>∃p xs,y=.ref p/\(mo K H p xs\/xr K H p xs)/\xt x=aj/\xs.all xt=aj/\Q (.bl (if neg then !inV x xs else inV x xs)) H
theorem Gi:sY X (compareOp .In) (rIn X.K aq):=by
 intro cq s σ H x y v u Q I e g h;obtain⟨p,xs,rfl,c,f,fs,q⟩:=h;cases g;rcases c with c|c
 .obtain⟨its,r,pl,i⟩:=I.list c;refine SeqAt.in_listAt (MU x) pl.isList (λw hw=>uW e f r fs w (by simpa using hw)) ⟨.bl _,H,I,rfl,?_⟩;rw[show its.toArray.any (MU x)=its.any (MU x) by simp,yU r fs];exact q
 .obtain⟨its,r,pl,i⟩:=I.tuple c;refine SeqAt.in_tupleAt (MU x) pl (λw hw=>uW e f r fs w (by simpa using hw)) ⟨.bl _,H,I,rfl,?_⟩;rw[show its.toArray.any (MU x)=its.any (MU x) by simp,yU r fs];exact q
theorem yV:sY X (compareOp .NotIn) (rIn X.K aj):=by
 intro cq s σ H x y v u Q I e g h;obtain⟨p,xs,rfl,c,f,fs,q⟩:=h;cases g;rcases c with c|c
 .obtain⟨its,r,pl,i⟩:=I.list c;refine SeqAt.notIn_listAt (MU x) pl.isList (λw hw=>uW e f r fs w (by simpa using hw)) ⟨.bl _,H,I,rfl,?_⟩;rw[show its.toArray.any (MU x)=its.any (MU x) by simp,yU r fs];exact q
 .obtain⟨its,r,pl,i⟩:=I.tuple c;refine SeqAt.notIn_tupleAt (MU x) pl (λw hw=>uW e f r fs w (by simpa using hw)) ⟨.bl _,H,I,rfl,?_⟩;rw[show its.toArray.any (MU x)=its.any (MU x) by simp,yU r fs];exact q
theorem sZ:mF X (.builtin "len") (λxs H Q=>∃p e,xs=[.ref p]/\(mo X.K H p e\/xr X.K H p e)/\Q (.int e.length) H):=by
 intro cq s σ H xs us Q I r h;obtain⟨p,e,rfl,c,q⟩:=h;obtain⟨u,rfl,i⟩:=vals1 r;cases i;have hn:=C2;rcases c with c|c
 .obtain⟨its,f,pl,j⟩:=I.list c;have g:=f.length;exact Calls.call_len_list pl.isList (by simp only [aN]<;>omega) ⟨.int _,H,I.tok _,⟨s.toks+1,by rw[aN,g]⟩,q⟩
 .obtain⟨its,f,pl,j⟩:=I.tuple c;have g:=f.length;exact len_tuple pl (by simp only [aN]<;>omega) ⟨.int _,H,I.tok _,⟨s.toks+1,by rw[aN,g]⟩,q⟩
theorem HC:mF X (.builtin "len") (λxs H Q=>∃z,xs=[.str z]/\z.length<=aE/\Q (.int z.length) H):=by intro cq s σ H xs us Q I r h;obtain⟨z,rfl,c,q⟩:=h;obtain⟨u,rfl,t,rfl⟩:=vals1 r;have hn:=C2;exact len_str (by omega) ⟨.int z.length,H,I.tok _,⟨_,rfl⟩,q⟩
theorem pc:mF X (.type "list") (λxs H Q=>∃p f,xs=[.ref p]/\(mo X.K H p f\/xr X.K H p f)/\∀l,H l=am->Q (.ref l) (upd H l (.lst f))):=by
 intro cq s σ H xs us Q I r h;obtain⟨p,f,rfl,j,q⟩:=h;obtain⟨u,rfl,A⟩:=vals1 r;cases A;have y:∀(its:List ai),Vals f its->f.length<=aE->∀(c:av) (i:Nat),(∀b z,s.heap.get? b=ae z->c.get? b=ae z)->
   c.get? _=ae _->EP X cq σ Q _ _:=λits g m c i kp e=>
  ⟨.ref _,_,I.laid (t':=s.toks) kp (aD _) (show jd X.prog X.w _ c _ (.lst f) from⟨m,its,i,g,e⟩),rfl,q _ (I.iz.fresh (aD _))⟩
 rcases j with j|j
 .obtain⟨its,g,pl,m⟩:=I.list j;have B:=g.length;obtain⟨o,v,x,n,hd⟩:=pl.isList;exact akN p (.inl rfl) v x hd (λc i kp e=>y its g m c i kp e) (by simp only [aN]<;>omega)
 .obtain⟨its,g,pl,m⟩:=I.tuple j;have B:=g.length;obtain⟨o,v,x,n,hd⟩:=pl;exact akN p (.inr rfl) v x hd (λc i kp e=>y its g m c i kp e) (by simp only [aN]<;>omega)
theorem xu:mF X (.type "tuple") (λxs H Q=>∃p c,xs=[.ref p]/\((mo X.K H p c/\∀l,H l=am->Q (.ref l) (upd H l (.tup c)))\/(xr X.K H p c/\Q (.ref p) H))):=by
 intro cq s σ H xs us Q I r h;obtain⟨p,c,rfl,h⟩:=h;obtain⟨u,rfl,m⟩:=vals1 r;cases m;rcases h with⟨f,q⟩|⟨f,q⟩
 .obtain⟨its,g,pl,i⟩:=I.list f;have x:=g.length;refine call_tuple_list pl.isList (λy kp=>?_) (by simp only [aN]<;>omega);have j:=I.kept (t':=s.toks) kp;have v:=
   j.laid (t':=s.toks) (λb o e=>ah _ e) (aD _) (show jd X.prog X.w _ _ _ (.tup c) from⟨i,its,g,aiF.new _ _⟩)
  exact⟨.ref _,_,v,rfl,q _ (j.iz.fresh (aD _))⟩
 .obtain⟨its,g,pl,i⟩:=I.tuple f;exact call_tuple_same pl ⟨.ref p,H,I,rfl,q⟩
def tyV (K:bz)(T:String)(x:V)(H:Hp):Prop:=match x with
 |.str _=>T="str"
 |.int _=>T="int"
 |.ref p=>(T="list"/\∃xs,mo K H p xs)\/(T="tuple"/\∃o,K.lookup p=ae o/\o.cls=.type "tuple"/\o.dict=am)\/
   (T="dict"/\((∃c,Rd H p (.dK c))\/(∃c,H p=ae (.dT c))\/∃e c,H p=ae (.dE e c)))\/(T="set"/\∃S n,H p=ae (.set S n))
 |_=>False
theorem ab9(I:Inv X cq σ H s)(r:RelV x v)(ty:tyV X.K T x H):
  s.TypeIs v T/\∀a,v=.ref a->∃ob,s.heap.get? a=ae ob/\ob.dict=am:=by
 cases x with
 |str z=>
  obtain⟨t,rfl⟩:=r;cases(ty);exact⟨ajZ s z t,λ_ e=>nomatch e⟩
 |int i=>
  obtain⟨t,rfl⟩:=r;cases(ty);exact⟨aj0 s i t,λ_ e=>nomatch e⟩
 |ref p=>
  cases r;rcases ty with⟨rfl,xs,h⟩|⟨rfl,o,f,j,hd⟩|⟨rfl,f⟩|⟨rfl,S,n,f⟩
  .obtain⟨its,_,pl,_⟩:=I.list h;refine⟨pl.isList.typeIs,λa e=>?_⟩;cases e;obtain⟨o,n,e,c,hd,_⟩:=pl;exact⟨o,e,hd⟩
  .refine⟨⟨o,I.qE p o f,j⟩,λa e=>?_⟩;cases e;exact⟨o,I.qE _ o f,hd⟩
  .have z:∃o,s.heap.get? p=ae o/\o.ExactDict:=by
    rcases f with⟨g,f⟩|⟨g,f⟩|⟨m,g,f⟩
    .obtain⟨_,_,_,_,o,_,_,e,ex,_⟩:=f.ok I.iz;exact⟨o,e,ex⟩
    .obtain⟨_,_,_,_,o,_,_,e,ex,_⟩:=I.iz p _ f;exact⟨o,e,ex⟩
    .obtain⟨_,_,_,_,o,_,e,ex,_⟩:=I.iz p _ f;exact⟨o,e,ex⟩
   obtain⟨o,e,ex⟩:=z;refine⟨⟨o,e,ex.1⟩,λa e2=>?_⟩;cases e2;exact⟨o,e,ex.2.1⟩
  .obtain⟨o,_,_,_,e,ex,_⟩:=I.iz p _ f;refine⟨⟨o,e,ex.1⟩,λa e2=>?_⟩;cases e2;exact⟨o,e,ex.2.1⟩
 |_=>exact cw ty
def tBM (K:bz)(T:String)(r:V->List V->Hp->VK->Prop)(to:TE)(t:TA):TE:=λσ H Q=>to σ H λx H1=>tyV K T x H1/\t σ H1 λxs c=>r x xs c Q
variable {o e:bE} {es:List bE} {to:TE} {t:TA} {name:aJ} {apos jo:eZ} {T id:String} {r:V->List V->Hp->VK->Prop}
theorem aer(m:PlainAttrs T)(slot:Slot T name id)(c:akB (.builtin id)=pure (.type "method_descriptor"))(hm:MtR X id r)(n:PE X o to)(ha:PA X (e::es) t)
(p:dz o name X.env (eval o X.env)=eval o X.env:=by rfl)
(f:((c9 jo (aP (e::es) X.env)).all (λx=>!x.1)&&(aie jo (eW [] X.env)).all (λx=>x.1.isSome)
   &&decide ((e::es).length+([]:List aiq).length+(if([]:List aiq).isEmpty then 0 else 1)<30))=aj:=by rfl)
(q:(apos.endLine==jo.line)=aj:=by rfl)(u:aP (e::es) X.env=(aq,eval e X.env)::aP es X.env:=by rfl)(w:(c9 jo (aP es X.env)).any (·.1)=aq:=by rfl):
  PE X (.Call (.Attribute o name apos) (e::es) [] jo) (tBM X.K T r to t):=by intro cq s σ H Q I h;refine wpAny_Call_method_late p f q rfl (jQ (n cq s σ H _ I h) λv s1 y=>?_);obtain⟨x,H1,g,i,ty,z⟩:=y;obtain⟨A,B⟩:=ab9 g i ty;refine⟨T,id,m,slot,c,A,B,?_⟩;have j:=ha jo cq s1 σ H1 _ g z;rw[u] at j |-;refine ahZ (by show(aq||(c9 jo _).any (·.1))=aq;rw[w]<;>rfl) (Calls.evalArgs_plain ?_);exact jQ j λus s2 ⟨C,E,G,J,L⟩=>hm cq s2 σ E x C v us Q G i J L
end
def MtM (X:Cx)(id:String)(r:V->List V->Hp->VK->Prop):Prop:=
 ∀(cq:List (aw×cE)) (s:ao) (σ:St) (H:Hp) (x:V) (xs:List V) (v:ai) (us:List ai) (Q:VK),Inv X cq σ H s->RelV x v->Vals xs us->r x xs H Q->
  wpAny (model X.prog X.w) X.A (call (.builtin id) (v::us)) (EP X cq σ Q) X.xe s
theorem Vals.one:∀{x:V} {us:List ai},Vals [x] us->∃u,us=[u]/\RelV x u
 |_,_,.cons r .nil=>⟨_,rfl,r⟩
theorem Vals.reverse(h:Vals xs us):Vals xs.reverse us.reverse:=by
 induction h with
 |nil=>exact .nil
 |cons r t a=>rw[fO,fO];exact Vals.append a (.cons r .nil)
theorem Vals.rep(h:Vals xs us):∀k:Nat,Vals (bL k xs).flatten (bL k us).flatten
 |0=>.nil
 |k+1=>by exact Vals.append h (Vals.rep h k)
theorem foldl_rep(its:List ai):∀(k:Nat) (acc:List ai),
  List.foldl (λx1 x2=>x1++x2) acc.toArray (bL k its.toArray)=(acc++(bL k its).flatten).toArray
 |0,acc=>by simp
 |k+1,acc=>by
  have e:acc.toArray++its.toArray=(acc++its).toArray:=by simp
  have e2:(acc++its)++(bL k its).flatten=acc++(bL (k+1) its).flatten:=by rw[List.replicate_succ,List.flatten_cons,bt]
  rw[<-e2,<-foldl_rep its k _,<-e,List.replicate_succ,gm]
section
variable {X:Cx} {cq:List (aw×cE)} {σ:St} {H:Hp} {s:ao} {l b:aw} {xs ys zs:List V}
theorem Inv.aes{its a:List ai}(I:Inv X cq σ H s)(c:H l=ae (.lst xs))
(e:s.heap.get? l=ae {cls:=.type "list",data:=.seq its.toArray n})(g:f its.toArray=a.toArray)(h:Vals ys a)(i:ys.length<=aE):
  Inv X cq σ (upd H l (.lst ys)) {s with heap:=s.heap.update l (ci f),toks:=o}:=by have q:=PySem.IsL.update e f;rw[g] at q;refine I.write (by rw[c];exact trivial) (.inl rfl) (λp u j m=>(bI s.heap _ (bV j)).trans m) ⟨_,q⟩ ?_;exact⟨i,a,_,h,q⟩
theorem Inv.acb(I:Inv X cq σ H s)(a:Vals ys its)(c:ys.length<=aE):
  Inv X cq σ (upd H s.heap.objs.size (.lst ys)) {s with heap:=s.heap.push {cls:=.type "list",data:=.seq its.toArray},toks:=e}:=
 I.laid (λ_ _ q=>ah _ q) (aD _) ⟨c,its,0,a,az _ rfl⟩
theorem Inv.fresh(I:Inv X cq σ H s):H s.heap.objs.size=am:=I.iz.fresh (aD _)
theorem Inv.RI(I:Inv X cq σ H s)(a:H l=ae (.lst xs)):xs.length<=aE/\∃(its:List ai) (n:Nat),Vals xs its/\xs.length=its.length/\s.heap.get? l=ae {cls:=.type "list",data:=.seq its.toArray n}:=by obtain⟨z,its,n,r,e⟩:=I.iz l _ a;exact⟨z,its,n,r,r.length,e⟩
theorem JZ(h:n<=aE):gn n=aq:=by exact decide_eq_false (by omega)
end
section
variable {X:Cx}
def YC:V->List V->Hp->VK->Prop:=λx a H Q=>∃l xs y,x=.ref l/\a=[y]/\H l=ae (.lst xs)/\xs.length<aE/\Q .non (upd H l (.lst (xs++[y])))
theorem Gj:MtM X "list.append" YC:=by intro cq s σ H x g v us Q I b c h;obtain⟨l,xs,y,rfl,rfl,a,i,q⟩:=h;cases b;obtain⟨u,rfl,f⟩:=c.one;obtain⟨z,its,n,r,j,e⟩:=I.RI a;refine aiK bb ⟨_,e,rfl⟩ F.entry_list_append (F.args_list_append_2 _ _) (PySem.list_append l _ n u (by rw[aN];omega)) ⟨e,?_⟩;refine⟨.non,_,I.aes a e (by simp) (r.append (.cons f .nil)) ?_,rfl,q⟩;rw[bN,List.length_singleton];omega
def YD:V->List V->Hp->VK->Prop:=λx a H Q=>∃l b xs zs,x=.ref l/\a=[.ref b]/\H l=ae (.lst xs)/\H b=ae (.lst zs)/\xs.length+zs.length<=aE/\Q .non (upd H l (.lst (xs++zs)))
theorem RJ:MtM X "list.extend" YD:=by
 intro cq s σ H x y v us Q I f g h;obtain⟨l,b,xs,zs,rfl,rfl,a,i,A,q⟩:=h;cases f;obtain⟨u,rfl,j⟩:=g.one;cases j;obtain⟨z,its,n,r,B,e⟩:=I.RI a;obtain⟨C,c,m,o,E,e2⟩:=I.RI i;have p:its.toArray.size+c.toArray.size<=aE:=by rw[aN,aN];omega
 have w:¬(!its.toArray.isEmpty&&gn (its.toArray.size+c.toArray.size))=aj:=by rw[JZ p,Bool.and_false];exact aM
 refine aiK F.slot_list_extend ⟨_,e,rfl⟩ F.entry_list_extend (F.args_list_extend_2 _ _)
  (AutoSeq1.list_extend_list_list_0 l _ n b _ m w (by omega) (by omega)) ⟨e,e2,?_⟩
 refine⟨.non,_,I.aes a e (by simp) (r.append o) ?_,rfl,q⟩;rw[bN];omega
def agv:R2:=λx y H Q=>∃l b xs zs,x=.ref l/\y=.ref b/\H l=ae (.lst xs)/\H b=ae (.lst zs)/\xs.length+zs.length<=aE/\∀p,H p=am->Q (.ref p) (upd H p (.lst (xs++zs)))
theorem acd:sY X (binaryOp .Add) agv:=by
 intro cq s σ H x y v u Q I c f h;obtain⟨l,b,xs,zs,rfl,rfl,g,i,o,q⟩:=h;cases c;cases f;obtain⟨z,its,n,r,p,e⟩:=I.RI g;obtain⟨w,a,A,j,B,e2⟩:=I.RI i;refine PySem.P.add_list e e2 ?_ (by rw[aN,aN];omega);have m:its.toArray++a.toArray=(its++a).toArray:=by simp
 rw[m];exact⟨.ref _,_,I.acb (r.append j) (by rw[bN];omega),rfl,q _ I.fresh⟩
def agw:R2:=λx y H Q=>∃l k xs,x=.ref l/\y=.int k/\H l=ae (.lst xs)/\-(2^63)<=k/\k<2^63/\xs.length*k.toNat<=aE/\
 ∀p,H p=am->Q (.ref p) (upd H p (.lst (bL k.toNat xs).flatten))
theorem YF{α:Type}(xs:List α)(k:Nat):(bL k xs).flatten.length=k*xs.length:=by
 induction k with
 |zero=>simp
 |succ k a=>rw[List.replicate_succ,List.flatten_cons,bN,a,Nat.succ_mul,Nat.add_comm]
theorem ace:sY X (binaryOp .Mult) agw:=by
 intro cq s σ H x y v u Q I i j h;obtain⟨l,k,xs,rfl,rfl,o,p,w,g,q⟩:=h;cases i;obtain⟨t,rfl⟩:=j;obtain⟨z,its,n,r,A,e⟩:=I.RI o;have B:its.toArray.size*k.toNat<=aE:=by rw[aN,<-A];exact g
 have b:¬its.toArray.size*k.toNat>(2^63- 1)/8:=by
  have:(aE:Nat)<=(2^63- 1)/8:=by decide
  omega
 have c:¬(!bH.List.listFitsIndex k)=aj:=by rw[fitsIndex_both p w];exact aM
 have C:¬gn (its.toArray.size*k.toNat)=aj:=by rw[JZ B];exact aM
 have f:List.foldl (λx1 x2=>x1++x2) #[] (bL (if its.toArray.isEmpty=aj then 0 else k.toNat) its.toArray)=(bL k.toNat its).flatten.toArray:=by
  have E:=λm=>by have:=foldl_rep its m [];rw[gp] at this;exact this
  rw[E];cases its with
  |nil=>simp
  |cons a J=>rw[if_neg (by simp)]
 refine wpAny_binaryOp_repeat_ref (U:="int") (by decide) ⟨_,e,rfl⟩ (λG=>aj0 G k t) noFill_list_mul F.fills_int_mul F.slot_int_rmul repeat_list F.slot_int_index.lookup
  (aiK F.slot_int_rmul (aj0 s k t) F.entry_int_rmul (F.args_int_rmul_2 _ _) (int___rmul___int_list k t l its.toArray n)
   ⟨e,rfl,⟨_,e,rfl⟩,aiK F.slot_list_mul ⟨_,e,rfl⟩ F.entry_list_mul (F.args_list_mul_2 _ _) (AutoListH.list___mul___list_int_3 l its.toArray n k t c b C) ⟨e,?_⟩⟩)
 rw[f];exact⟨.ref _,_,I.acb (r.rep k.toNat) (by rw[YF,Nat.mul_comm];exact g),rfl,q _ I.fresh⟩
end
section
variable {prog:aQ} {w:bw} {A:bj} {E:ai->ao->Prop} {s:ao}
end
section
variable {X:Cx}
end
end L2
end
namespace Att
open PySem PySem.W PySem.Calls PyProof.Rows
theorem B4:∀(ns:List Int) (c:List ai),WellAll P h c (ns.map WData.int)->ajB c ns:=by
 intro ns;induction ns with
 |nil=>
  intro c w;cases w;exact .nil
 |cons n ns e=>
  intro c w;cases w with
  |cons a b=>
   cases a;exact .cons _ _ (e _ b)
theorem RK{l:OpenLaw}(hn:l.most=ae n)
(i:l.row.toRowW.claim.pre args=aj)(c:WellAll P h e args):
  ∃a j ns,e=[bA a]/\args=[WData.list (ns.map WData.int)]/\h.get? a=ae {cls:=.type "list",data:=.seq j.toArray}/\ajB j ns/\ns.length<=n:=by
 have f:WShape.hasAll [] args _=aj:=(pre_splitW i).1;have o:l.pre.holds [] _=aj:=(pre_splitW i).2;obtain⟨d,r,rfl,p,q⟩:=hasAllW_cons f;obtain rfl:=hasAllW_nil q;obtain⟨xs,rfl,s⟩:=hasW_list p;obtain⟨ns,rfl⟩:=items_int s;have u:=by
  have b:=by have b:=(holds_andW o).1;rw[hn] at b;exact b
  have m:=condW_of b (w_not (w_lt w_lit (w_len_list (w_arg rfl))));first
   | (exact absurd m (by decide))
   | (simp at m;omega)
 cases c with
 |cons v w=>
  cases w;cases v with
  |list x g=>exact⟨_,_,ns,rfl,rfl,x,B4 ns _ g,u⟩
theorem RL(l:OpenLaw)(args:List WData):l.row.toRowW.claim.post args (.bool aj) args=aj:=
 postW_of
  (by first|rfl|decide|simp[WShape.has])
  (w_eq_bool (w_res rfl) w_lit) rfl
theorem J0{l:OpenLaw}
(hn:l.most=ae n)(u:d.params.defaults=[])
(call:∀(w:bw) (ig b:ao) (mg h:aJ->Option ai) (e:aw) (o:cE) (pm cd doc:ai) (a:aw) (c:List ai) (ns:List Int),
   Ground q i [] v w ig mg h b.heap->x w b.heap->
   b.heap.get? e=ae o->o.data=.func (docDef d.name d.params d.body d.scope pm cd doc)->b.heap.CodeRec cd d.name->mg d.name=ae (.ref e)->
   b.heap.get? a=ae {cls:=.type "list",data:=.seq c.toArray}->ajB c ns->ns.length<=n->b.gens=#[]->
   codeAny (model l.prog w) aiR (.call (.ref e) ⟨[.ref a],[]⟩) (λr g=>r=.ok (.ret (.bool aj))/\OldK b.heap g.heap/\g.os=b.os/\f7 g.gens) b):
  WalkO q i v x l.row.toRowW d [] (λf c=>PySem.call f c):=by intro w ig b mg h G Y e o pm cd doc y kV z hd A s j B args C as E H I m J;obtain rfl:y=.none:=Dflts.none s u;obtain rfl:kV=.none:=Dflts.noKw s;obtain⟨a,c,ns,rfl,rfl,p,L,M⟩:=RK hn E m;refine enter_call (c6 (call w ig b mg h e o pm cd doc a c ns G Y z (fd_plain hd) A j p L M B) λr g N=>?_);obtain⟨rfl,O,Q,T⟩:=N;exact⟨.inl ⟨.bool aj,.bool aj,[],rfl,λ_=>rfl,.bool aj,RL l _,λ_=>⟨gf,λ_ hm=>(nomatch hm)⟩⟩,O,Q,T⟩
section
variable {prog:aQ} {w:bw} {A:bj} {E:ai->ao->Prop} {s:ao} {K:Frag}
end
end Att
section
open PySem PySem.Spec PyProof.Rows
namespace L2
theorem Gk:∀{a:List ai} {ns:List Int},ajB a ns->Vals (ns.map V.int) a
 |_,_,.nil=>.nil
 |_,_,.cons n t h=>.cons ⟨t,rfl⟩ (Gk h)
abbrev KOf{K:bz}{h:av}(_:K.In h):bz:=K
noncomputable def mN(s:cc)(j:Nat):cc:=match s with
 |.ClassDef _ _ _ body _ _ _ _ _ _ _=>body.getD j (.Pass ⟨0,0,0,0⟩)
 |_=>.Pass ⟨0,0,0,0⟩
noncomputable def jJ(s:cc):ai5:=match s with
 |.FunctionDef _ a _ _ _ _ _ _ _ _=>a
 |_=>{posonlyargs:=[],args:=[],vararg:=am,kwonlyargs:=[],kw_defaults:=[],kwarg:=am,defaults:=[]}
noncomputable def iC(s:cc):List cc:=match s with
 |.FunctionDef _ _ b _ _ _ _ _ _ _=>b
 |_=>[]
noncomputable def h9(s:cc):dN:=match s with
 |.FunctionDef _ _ _ _ _ _ sc _ _ _=>sc
 |_=>{kind:=.function,names:=[],isGenerator:=aq,isCoroutine:=aq}
abbrev rF:Yn:=λ_ _ _ _ _ _=>False
abbrev E0:XK:=λ_ _ _=>False
theorem Ps:xL rF X E0:=λ_ _ _ _ _ _ _ h=>h.elim
structure uY(K:bz)(x qual:aJ)(st:cc)(f:aw)(fd:dY):Prop where
 ex:∃(oc:ai) (od:Option aw) (kV doc pm:ai) (an:Option aw) (ip ct:ai) (JQ:Array (Option ai)),
  fd=ee x qual (jJ st) (iC st) (h9 st) .none kV doc pm an ip ct/\K.lookup f=ae ⟨oc,od,.func fd,JQ⟩/\W.codeIn K ip qual=aj
 kp:ef K (.ref f)=aj
section
variable {P:aQ} {w:bw} {K:bz} {mg:aJ->Option ai} {cv:av}
theorem uY.ok{st:cc}(F:uY K x qual st f fd)(S:gU N b (h9 st))(len:∀a H Q E,sp a H Q E->a.length=b.length)
(c:∀(ip:ai) (A:bj) (cP:List ah1) (s:ao) (H:Hp) (a:List V) (Q:VK) (E:XK),iV k (A.deeper (eG qual (h9 st) s.heap.objs.size f ip))->sp a H Q E->
   ∃t,yL (rC rF P w K mg cv N qual (h9 st) f ip A cP s H E).Fw (iC st) t/\t {nx:=λ_ e=>Q .non e,rt:=Q} (start N a) H):jR P w K mg cv rF (k+1) f fd b sp:=by obtain⟨oc,od,kV,doc,pm,an,ip,ct,JQ,rfl,lk,g⟩:=F.ex;refine Uy lk g S len λA cP s H a Q E i j=>?_;obtain⟨t,h,q⟩:=c ip A cP s H a Q E i j;exact⟨t,h.Fw,q⟩
theorem uY.binds{st:cc}(F:uY K x qual st f fd)
(h:∀(kV doc pm:ai) (an:Option aw) (ip ct:ai) (us:List ai),us.length=a.length->dZ (ee x qual (jJ st) (iC st) (h9 st) .none kV doc pm an ip ct) ⟨us,[]⟩=pure (a.zip us)):Binds K fd a []:=by obtain⟨oc,od,kV,doc,pm,an,ip,ct,JQ,rfl,lk,b⟩:=F.ex;exact .all (h kV doc pm an ip ct)
theorem MW{st:cc}{kV doc pm ip ct:ai}(l:K.lookup f=ae ⟨oc,od,.func (ee x qual (jJ st) (iC st) (h9 st) .none kV doc pm an ip ct),JQ⟩)
(c:W.codeIn K ip qual=aj)(k:ef K (.ref f)=aj):uY K x qual st f (ee x qual (jJ st) (iC st) (h9 st) .none kV doc pm an ip ct):=⟨⟨oc,od,kV,doc,pm,an,ip,ct,JQ,rfl,l,c⟩,k⟩
end
theorem je(a:iV k A):A.units+1<fH:=bY (Nat.add_le_add_left (by decide) _) a.units
section
variable {X:Cx}
end
def jD (H a:Hp):Prop:=∀b o,H b=ae o->a b=ae o
theorem jD.refl(H:Hp):jD H H:=λ_ _ h=>h
theorem jD.trans(a:jD H H1)(b:jD H1 e):jD H e:=λc o h=>b c o (a c o h)
theorem jD.seq{K:bz}{H b:Hp}{a:aw}{xs:List V}(e:jD H b)(h:mo K H a xs):mo K b a xs:=by
 rcases h with(h|⟨o,h⟩)|h
 .exact .inl (.inl (e _ _ h))
 .exact .inl (.inr ⟨o,e _ _ h⟩)
 .exact .inr h
section
variable {κ:Type} [DecidableEq κ]
end
end L2
namespace L2
noncomputable def Fz(env:ah1):List (aJ×d6)->List (aJ×aw)->List (aJ×aw)
 |[],acc=>acc
 | (n,k)::r,acc=>Fz env r (if(k==fh)=aj then(n,(env.cells.lookup n).getD 0)::acc else acc)
theorem xv(h:∀x∈scope.names,x.2=.free->∃c,env.cells.lookup x.1=ae c):aiL scope env=pure (Fz env scope.names []):=by
 unfold aiL;generalize ([])=acc;generalize scope.names=l at h;induction l generalizing acc with
 |nil=>rfl
 |cons x r b=>
  obtain⟨n,k⟩:=x;have b:=λa=>b a λy i=>h y (ay _ i);simp only [ah8,Fz];by_cases f:k=.free
  .obtain⟨c,g⟩:=h (n,k) aH f;subst f;have e:cellOf env n=pure c:=by unfold cellOf;rw[g]
   simp only [e,g];exact b _
  .have:(k==fh)=aq:=by simpa using f
   simp only [this];exact b acc
theorem J1:∀(l:List _) (acc:List _),(∀z d,acc.lookup z=ae d->env.cells.lookup z=ae d)->(∀x∈l,x.2=.free->∃c,env.cells.lookup x.1=ae c)->
  (Fz env l acc).lookup y=ae c->env.cells.lookup y=ae c
 |[],acc,ha,_,e=>ha y c e
 | (n,k)::r,acc,ha,h,e=>by
  refine J1 r _ ?_ (λx i=>h x (ay _ i)) e;intro z d a;split at a
  .rename_i g;have g:=by simpa using g
   obtain⟨j,b⟩:=h (n,k) aH g;rw[dJ,b] at a;by_cases f:z=n
   .subst f;simp only [beq_self_eq_true] at a;rw[b];exact a
   .have:(z==n)=aq:=by simpa using f
    rw[this] at a;exact ha z d a
  .exact ha z d a
theorem C9:∀(l:List _) (acc:List _),((∃c,acc.lookup y=ae c)\/(y,fh)∈l)->∃c,(Fz env l acc).lookup y=ae c
 |[],acc,h=>h.elim (λx=>x) λx=>by cases x
 | (n,k)::r,acc,h=>by
  refine C9 r _ ?_;rcases h with⟨c,a⟩|h
  .left;split
   .rw[dJ];split
    .exact⟨_,rfl⟩
    .exact⟨c,a⟩
   .exact⟨c,a⟩
  .rcases aC.mp h with h|h
   .cases h;simp
   .exact .inr h
noncomputable def B5(X:Cx)(scope:dN)(N:List aJ)(C:aw)(ex:List aw)(cq:List (aw×cE))(ig:ao)(ik:Hp)(E:ai->ao->Prop):Cx where
 prog:=X.prog
 w:=X.w
 K:=X.K
 mg:=X.mg
 cv:=X.cv
 A:=X.A
 N:=N
 ig:=ig
 ik:=ik
 env:=compEnvC scope (Fz X.env scope.names []) C X.env
 cP:=X.stack
 stack:=X.stack
 ex:=ex
 fn:=λ_=>aq
 calm:=X.calm
 pn:=X.pn++cq
 xe:=E
noncomputable def slots(fr:List (Option Nat))(σ:St):St:=fr.map λo=>match o with
 |none=>am
 |some j=>(σ[j]?).getD am
noncomputable def Pu(b N:List aJ)(fr:List (Option Nat))(scope a:dN):Bool:=
 (N.zip fr).all (λp=>match p.2 with
  |none=>aj
  |some j=>decide (b[j]?=ae p.1)&&decide (scope.names.lookup p.1=ae .free))&&
 scope.names.all (λx=>x.2!=.cell&&(x.2!=.free||(a.names.lookup x.1==ae .cell||a.names.lookup x.1==ae .free))&&(x.2!=.local||decide (scope.names.lookup x.1=ae .local)))&&
 decide (fr.length=N.length)&&(scope.kind==.function)
structure iW(X:Cx)(N:List aJ)(fr:List (Option Nat))(scope:dN):Prop where
 cell:∀y∈scope.names,y.2≠.cell
 free:∀y∈scope.names,y.2=.free->X.env.kindOf y.1=ae .cell\/X.env.kindOf y.1=ae .free
 loc:∀y∈scope.names,y.2=.local->scope.names.lookup y.1=ae .local
 slot:∀(i j:Nat) (x:aJ),N[i]?=ae x->fr[i]?=ae (ae j)->X.N[j]?=ae x/\scope.names.lookup x=ae .free
 len:fr.length=N.length
 kind:scope.kind=.function
theorem iW.of(h:Pu pM N fr scope jt=aj)(c:X.N=pM:=by rfl)(e:X.env.scope.names=jt.names:=by rfl):iW X N fr scope:=by
 unfold Pu at h;simp only [aY,decide_eq_true_eq,bR,beq_iff_eq] at h;obtain⟨⟨⟨f,b⟩,g⟩,m⟩:=h;refine⟨λy a=>?_,λy a n=>?_,λy a o=>?_,λi j x e1 e2=>?_,g,m⟩
 .have:=(b y a).1.1;simpa using this
 .have:=(b y a).1.2;unfold ah1.kindOf;rw[e];simpa[n] using this
 .have:=(b y a).2;simpa[o] using this
 .have hm:(x,ae j)∈N.zip fr:=by refine bF (i:=i) ?_;rw[dj];exact⟨e1,e2⟩
  have:=f _ hm;rw[c];simpa using this
theorem RM{i:Nat}(h:(slots fr σ)[i]?=ae (ae v)):∃j:Nat,fr[i]?=ae (ae j)/\σ[j]?=ae (ae v):=by
 unfold slots at h;rw[bq] at h;cases e:fr[i]? with
 |none=>rw[e] at h;cases h
 |some o=>
  rw[e] at h;cases o with
  |none=>cases h
  |some j=>
   refine⟨j,rfl,?_⟩;have a:=by simpa using h
   cases e2:σ[j]? with
   |none=>rw[e2] at a;cases a
   |some q=>rw[e2] at a;simp at a;rw[a]
theorem tm{scope:dN}{env:ah1}:∀{l:List _} {x:aJ} {k:d6},
  (l.map λ(n,k)=>if(k==fh&&env.scope.kind==.function&&env.kindOf n==ae .cell) then(n,d6.cell) else(n,k)).lookup x=ae k->
  ∃k',(x,k')∈l/\l.lookup x=ae k'/\(k=k'\/(k'=.free/\k=.cell))
 |[],x,k,h=>by cases h
 | (n,e)::r,x,k,h=>by
  simp only [aX] at h;by_cases a:x=n
  .subst a;refine⟨e,aH,by simp,?_⟩;split at h
   .rename_i b;simp at h;have:=by simp at b;exact b.1.1
    exact .inr ⟨this,h.symm⟩
   .simp at h;exact .inl h.symm
  .have c:(x==n)=aq:=by simpa using a
   have f:=by split at h<;>(rw[dJ,c] at h;exact h)
   obtain⟨k',m,g,q⟩:=tm (scope:=scope) f;exact⟨k',ay _ m,by rw[dJ,c];exact g,q⟩
theorem Bv{env:ah1}:∀{l:List _} {x:aJ},l.lookup x=ae .free->
  (l.map λ(n,k)=>if(k==fh&&env.scope.kind==.function&&env.kindOf n==ae .cell) then(n,d6.cell) else(n,k)).lookup x=ae .cell\/
  (l.map λ(n,k)=>if(k==fh&&env.scope.kind==.function&&env.kindOf n==ae .cell) then(n,d6.cell) else(n,k)).lookup x=ae .free
 |[],x,h=>by cases h
 | (n,c)::r,x,h=>by
  simp only [aX];by_cases a:x=n
  .subst a;simp at h;subst h;split
   .left;simp
   .right;simp
  .have b:(x==n)=aq:=by simpa using a
   rw[dJ,b] at h;have:=Bv (env:=env) h;split<;>(rw[dJ,b];exact this)
section
variable {X:Cx} {cq:List (aw×cE)} {σ:St} {H:Hp} {s:ao} {N:List aJ} {fr:List (Option Nat)} {scope:dN} {fp:List aw} {E:ai->ao->Prop}
theorem Inv.UI(I:Inv X cq σ H s)(c:iW X N fr scope):∀x∈scope.names,x.2=.free->∃c,X.env.cells.lookup x.1=ae c:=λx a b=>I.ok.has x.1 (c.free x a b)
theorem Inv.aaV(I:Inv X cq σ H s)(c:iW X N fr scope)(h:(Fz X.env scope.names []).lookup y=ae a):X.env.cells.lookup y=ae a:=
 J1 _ [] (λ_ _ e=>by cases e) (I.UI c) h
theorem Inv.block(I:Inv X cq σ H s)(c:iW X N fr scope)(A:∀b∈fp,sW X cq H b)(M:∀b∈fp,b<s.heap.objs.size)(hn:Y.Ns s.heap.objs.size m)(B:∀b o,s.heap.get? b=ae o->Y.get? b=ae o):
  Inv (B5 X scope N s.heap.objs.size fp cq s H E) [] (slots fr σ) H {s with heap:=Y,toks:=t'}:=by
 have cg:∀y a,(Fz X.env scope.names []).lookup y=ae a->X.env.cells.lookup y=ae a:=λy a=>I.aaV c;refine⟨⟨I.ok.mod,c.kind,I.ok.glob,I.ok.blt,aD _,λx y a h1 h2=>I.ok.inj x y a (cg x a h1) (cg y a h2),λx hx=>?_,λx a A=>(by cases A),I.ok.hd,I.ok.frames,.inl rfl,λb g=>?_,I.bs,bi I.ok.Rq I.sz,λb o e g=>?_,λb g=>?_,I.stack,I.Pd⟩,
  rfl,I.bare,Un.kept B,⟨m,hn,λi x v e1 e2 e3=>?_⟩,λx a e=>?_,I.iz.fresh (aD _),λx a e=>I.lZ x a (cg x a e),λp hp=>?_,I.iz.kept B,?_⟩
 .have Pw:=hx;have:(x,fh)∈scope.names:=by
   rcases Pw with h|h
   .obtain⟨k',L,_,q⟩:=tm (scope:=scope) h;rcases q with q|q
    .subst q;exact absurd rfl (c.cell _ L)
    .rw[<-q.1];exact L
   .obtain⟨k',L,_,q⟩:=tm (scope:=scope) h;rcases q with q|q
    .subst q;exact L
    .cases q.2
  exact C9 scope.names [] (.inr this)
 .obtain⟨f0,C,G,f,O,f5⟩:=A b g;exact⟨aO (M b g),λx a e=>O x a (cg x a e)⟩
 .obtain⟨f0,C,G,f,O,f5⟩:=A b g;rcases f with f|f
  .exact I.ok.JD b o e f
  .exact absurd (bp (aB e) (bi I.ok.Rq f)) (cS _)
 .obtain⟨f0,C,G,f,O,f5⟩:=A b g;intro z;rcases aC.mp (I.sT b z) with z|z
  .exact C z
  .exact G z
 .obtain⟨j,C,G⟩:=RM e2;obtain⟨g1,Q⟩:=c.slot i j x e1 C;have J:=c.free (x,.free) (PySem.mem_of_lookup Q) rfl;have uP:T7 X.env.scope x:=.inr J;obtain⟨m0,_,hl⟩:=I.loc;obtain⟨u,r,lk⟩:=hl j x v g1 G uP;refine⟨u,r,.inr ⟨Bv Q,?_⟩⟩;obtain⟨a,ha⟩:=C9 (env:=X.env) (y:=x) scope.names [] (.inr (PySem.mem_of_lookup Q));refine⟨a,ha,?_⟩;have T:=cg x a ha;rcases lk with⟨q,_⟩|⟨_,a',e',z⟩
  .rcases J with w|w<;>(rw[q] at w;cases w)
  .rw[T] at e';cases e';obtain⟨o,U,hd⟩:=z;exact⟨o,B _ o U,hd⟩
 .obtain⟨v,o,U,hd⟩:=I.cell x a (cg x a e);exact⟨v,o,B _ o U,hd⟩
 .rw[ba] at hp;obtain⟨e,n,ne,nf,d⟩:=I.pin p hp;refine⟨B _ _ e,n,aO (aB e),λz=>?_,d⟩;rcases aC.mp (I.sT p.1 z) with z|z
  .exact ne z
  .exact nf z
 .unfold slots;rw[ar];exact c.len
theorem Inv.unblock(I:Inv X cq σ H s)(a:∀b∈fp,sW X cq H b)(J:Inv (B5 X scope N C fp cq s H E) m n c e):Inv X cq σ c e:=
 I.Bp J.os J.cv J.iz J.bare λb f=>by obtain⟨o,g,p,h,i,j⟩:=a b f;exact⟨h,g,i,j⟩
end
theorem uZ(I:Nat->ao->Prop)
(turn:∀n s,I n s->wpAny (model prog w) A (pyNext it) (λr i=>match r with
   |none=>R (.ok .next) i
   |some v=>wpAny (model prog w) A (letOwnedTupleGo target it v) (λ_ f=>wpAny (model prog w) A (assign target env v) (λ_ p=>
     wpAny (model prog w) A (forIn ifs aj λc r=>if r=aj then do let ok<-ajx c env (eval c env);pure (ahM ok) else pure (ahM r)) (λok j=>
      if ok=aj then wpAny (model prog w) A (eval elt env) (λx q=>
       wpAny (model prog w) A (call (.builtin "list.append") [acc,x]) (λ_ g=>∃m,m<n/\I m g) (aja (model prog w) A env λe a=>R (.error e) a) q) (aja (model prog w) A env λe a=>R (.error e) a) j
      else∃m,m<n/\I m j) (aja (model prog w) A env λe a=>R (.error e) a) p) (aja (model prog w) A env λe a=>R (.error e) a) f) (aja (model prog w) A env λe a=>R (.error e) a) i) (aja (model prog w) A env λe a=>R (.error e) a) s)
(n:Nat)(h:I n s):
  codeAny (model prog w) A (.compLoop (.ListComp elt [⟨target,iter,ifs,0⟩] scope pos) 0 it acc env) R s:=by
 refine codeAny_loop rfl I (λn s z=>?_) n h;show wpAny _ A _ _ _ s;refine wpAny_noted ?_;rw[compTurn_list];refine ag (aht (ag (cz (turn n s z) (λr i u=>?_) λ_ _ b=>b)));cases r with
 |none=>exact ak u
 |some v=>
  refine ag (cz u (λ_ f o=>?_) λ_ _ b=>b);refine ag (cz o (λ_ p B=>ag (cz B (λok j y=>?_) λ_ _ b=>b)) λ_ _ b=>b);cases ok with
  |false=>exact ak ⟨rfl,y⟩
  |true=>
   exact ag (ag (cz y (λx q C=>ag (cz C (λ_ g E=>ak (ak ⟨rfl,E⟩)) λ_ _ b=>b)) λ_ _ b=>b))
def PIf (X:Cx)(ifs:List bE)(t:TT):Prop:=
 ∀(cq:List (aw×cE)) (s:ao) (σ:St) (H:Hp) (Q:Bool->Hp->Prop),Inv X cq σ H s->t σ H Q->
  wpAny (model X.prog X.w) X.A (forIn ifs aj λc r=>if r=aj then do let ok<-ajx c X.env (eval c X.env);pure (ahM ok) else pure (ahM r)) (TP X cq σ Q) X.xe s
def agA:TT:=λ_ H Q=>Q aj H
theorem YH:PIf X [] agA:=λ_ _ _ H _ I h=>wpAny_tests_nil ⟨H,I,h⟩
theorem YI(h:PT X c t):PIf X [c] t:=λcq s σ H Q I q=>wpAny_tests_one (h cq s σ H Q I q)
def Px (fr:List (Option Nat))(wi:TI)(g:TG)(tt:TT)(q:TE):TE:=λσ H Q=>wi σ H λJ H1=>∀p,H1 p=am->
 ∃W:Nat->Nat->List V->St->Hp->Prop,(∃m,W 0 m [] (slots fr σ) (upd H1 p (.lst [])))/\∀i m a σ H,W i m a σ H->
   (J.stop i H/\Q (.ref p) H)\/(J.go i H/\∃N:List V->St->Hp->Prop,(∀c h e,N c h e->∃j,j<m/\W (i+1) j c h e)/\
   ∀x e,J.yld i H x e->g x σ e λf r=>tt f r λb n=>if b=aj then q f n λv o=>o p=ae (.lst a)/\a.length<aE/\N (a++[v]) f (upd o p (.lst (a++[v]))) else N a f n)
section
variable {X:Cx} {N:List aJ} {fr:List (Option Nat)} {scope:dN} {elt target iter:bE} {ifs:List bE} {wi:TI} {g:TG} {tt:TT} {te:TE} {pos:eZ}
theorem Gm(c:iW X N fr scope)(u4:X.calm=aj)(hi:PI X target iter wi)
(hg:∀C ex cq ig ik,PG (B5 X scope N C ex cq ig ik λ_ _=>False) target g)
(ht:∀C ex cq ig ik,PIf (B5 X scope N C ex cq ig ik λ_ _=>False) ifs tt)
(he:∀C ex cq ig ik,PE (B5 X scope N C ex cq ig ik λ_ _=>False) elt te)
{cq:List (aw×cE)}{s:ao}{σ:St}{H:Hp}{Q:VK}{R:ai->aw->ai3->ao->Prop}(I:Inv X cq σ H s)(h:Px fr wi g tt te σ H Q)
(jn:∀p C m s' j,Inv X cq σ j s'->sW X cq j C->s'.heap.Ns C m->Q (.ref p) j->R (.ref p) C (.ok .next) s'):
  wpAny (model X.prog X.w) X.A (eval iter X.env) (λx iJ=>wpAny (model X.prog X.w) X.A (ah7 x) (λit C0=>wpAny (model X.prog X.w) X.A (newList []) (λacc Ar=>
   wpAny (model X.prog X.w) X.A (newFunctionEnv scope X.env.globals (Fz X.env scope.names []) [] X.env.qual am .none (ae X.env)) (λaev YG=>
    codeAny (model X.prog X.w) X.A (.compStart (.ListComp elt [⟨target,iter,ifs,0⟩] scope pos) 0 it acc {aev with scope:=relabel scope X.env}) (R acc aev.locals) YG) X.xe Ar) X.xe C0) X.xe iJ) X.xe s:=by
 refine jQ (hi cq s σ H _ I h) λv s1 h1=>jQ h1 λitv s2 h2=>?_;obtain⟨it,B,tn,J,G,e,I2,T,st2,f2,h2⟩:=h2;subst e;have aew:∀b∈B,b<s2.heap.objs.size:=λb f=>by obtain⟨o,e,_⟩:=T.obj _ _ st2 b f;exact aB e
 have hp0:G s2.heap.objs.size=am:=I2.fresh;obtain⟨W,⟨m0,w0⟩,turn⟩:=h2 _ hp0;refine dD ?_;generalize hs3:({s2 with heap:=s2.heap.push {cls:=.type "list",dict:=am,data:=.seq ([]:List ai).toArray}}:ao)=s3;have Y:s3={s2 with heap:=s2.heap.push {cls:=.type "list",data:=.seq ([]:List ai).toArray},toks:=s2.toks}:=hs3.symm;have I3:Inv X cq σ (upd G s2.heap.objs.size (.lst [])) s3:=by rw[Y];exact I2.acb .nil (bC _)
 have sz3:s3.heap.objs.size=s2.heap.objs.size+1:=by rw[Y];exact bW ..
 have nep:∀b∈B,b≠s2.heap.objs.size:=λb f=>aO (aew b f);have f3:∀b∈B,sW X cq (upd G s2.heap.objs.size (.lst [])) b:=λb f=>⟨by rw[gM (nep b f)];exact(f2 b f).1,(f2 b f).2⟩;have st3:tn 0 s3.heap:=T.keep _ _ _ st2 λb f o e=>by rw[Y];exact ah _ e
 refine wpAny_newFunctionEnv c.cell (by intro y hy;simp at hy) (λh4 hn4 aex=>?_) c.kind;try dsimp only at hn4 aex |-
 have k4:∀b o,s3.heap.get? b=ae o->h4.get? b=ae o:=λb o e=>aex.extBut b o (aO (aB e)) (ah _ e);have aaX:∀b∈B,b<s3.heap.objs.size:=λb f=>by rw[sz3];exact cA (aew b f)
 have I4:Inv (B5 X scope N s3.heap.objs.size B cq s3 (upd G s2.heap.objs.size (.lst [])) λ_ _=>False) [] (slots fr σ) (upd G s2.heap.objs.size (.lst [])) {s3 with heap:=h4,toks:=s3.toks+([]:List (aJ×ai)).length}:=I3.block c f3 aaX hn4 k4;have st4:tn 0 h4:=T.keep _ _ _ st3 λb f o e=>k4 b o e;have MC:∀{j:Hp},(∀b∈B,j b=am)->∀b∈B,sW (B5 X scope N s3.heap.objs.size B cq s3 (upd G s2.heap.objs.size (.lst [])) λ_ _=>False) [] j b:=λ{j} hn b f=>by
  obtain⟨g0,g1,g2,g3,g4,g5⟩:=f3 b f;refine⟨hn b f,aO (aaX b f),λz=>?_,.inl f,λx a e=>g4 x a (I3.aaV c e),λp hp=>?_⟩
  .rcases aC.mp (I3.sT b z) with z|z
   .exact g1 z
   .exact g2 z
  .rw[ba] at hp;exact g5 p hp
 have loop:∀s5:ao,s5={s3 with heap:=h4,toks:=s3.toks+([]:List (aJ×ai)).length}->codeAny (model X.prog X.w) X.A (.compLoop (.ListComp elt [⟨target,iter,ifs,0⟩] scope pos) 0 (.ref it) (.ref s2.heap.objs.size) (compEnvC scope (Fz X.env scope.names []) s3.heap.objs.size X.env)) (R (.ref s2.heap.objs.size) s3.heap.objs.size) s5:=by
  rintro s5 rfl
  refine uZ (λn s'=>∃i ys jl j,Inv (B5 X scope N s3.heap.objs.size B cq s3 (upd G s2.heap.objs.size (.lst [])) λ_ _=>False) [] jl j s'/\tn i s'.heap/\(∀b∈B,j b=am)/\W i n ys jl j) ?_ m0
   ⟨0,[],slots fr σ,_,I4,st4,λb f=>(f3 b f).1,w0⟩
  rintro n s6 ⟨i,ys,M,H6,I6,st6,fr6,w6⟩
  rcases turn i n ys M H6 w6 with⟨stop,q⟩|⟨go,Nx,hN,step⟩
  .refine jQ (T.done (B5 X scope N s3.heap.objs.size B cq s3 (upd G s2.heap.objs.size (.lst [])) λ_ _=>False) rfl rfl rfl u4 i [] s6 M H6 _ I6 (MC fr6) st6 stop) λr s7 zq=>?_;obtain⟨hr,I7⟩:=zq;subst hr;obtain⟨m7,n7,_⟩:=I7.loc;exact jn _ _ m7 s7 H6 (I3.unblock f3 I7) (I3.Mz (aD _) I7.free) n7 q
  .refine jQ (T.item (B5 X scope N s3.heap.objs.size B cq s3 (upd G s2.heap.objs.size (.lst [])) λ_ _=>False) rfl rfl rfl u4 i [] s6 M H6 _ I6 (MC fr6) st6 go) λr s7 zq=>?_;obtain⟨u,hr,h7⟩:=zq;subst hr;refine jQ h7 λ_ s8 zq=>?_;obtain⟨x,H8,I8,r8,y8,st8,fr8⟩:=zq;have I8':=I8.pinned (MC fr8) (T.obj _ _ st8);refine cz (hg _ _ _ _ _ _ s8 M H8 x u _ I8' r8 (step x H8 y8)) (λ_ s9 ⟨O,H9,I9,q9⟩=>?_) λ_ _ z=>cw z;refine cz (ht _ _ _ _ _ _ s9 O H9 _ I9 q9) (λb RN ⟨H10,I10,U⟩=>?_) λ_ _ z=>cw z;have again:∀{TV:ao} {YJ:St} {E:Hp} {ys':List V},Inv (B5 X scope N s3.heap.objs.size B cq s3 (upd G s2.heap.objs.size (.lst [])) λ_ _=>False) ([]++C1 B s8.heap) YJ E TV->Nx ys' YJ E->∃m,m<n/\∃i ys jl j,Inv (B5 X scope N s3.heap.objs.size B cq s3 (upd G s2.heap.objs.size (.lst [])) λ_ _=>False) [] jl j TV/\tn i TV.heap/\(∀b∈B,j b=am)/\W i m ys jl j:=λ{TV YJ E ys'} L n11=>by obtain⟨m',hm,w11⟩:=hN _ _ _ n11;refine⟨m',hm,i+1,ys',YJ,E,L.yN,T.keep _ _ _ st8 λb f o e=>(L.pin (b,o) (bO _ (bO _ (sX f e)))).1,λb f=>?_,w11⟩;obtain⟨o,e,d⟩:=T.obj _ _ st8 b f;exact(L.pin (b,o) (bO _ (bO _ (sX f e)))).2.1
   cases b with
   |false=>
    rw[if_neg aM] at U |-;exact again I10 U
   |true=>
    rw[if_pos rfl] at U |-;refine cz (he _ _ _ _ _ _ RN O H10 _ I10 U) (λu11 TV ⟨x11,E,L,r11,agB,agC,q11⟩=>?_) λ_ _ z=>cw z;refine cz (Gj (X:=B5 X scope N s3.heap.objs.size B cq s3 (upd G s2.heap.objs.size (.lst [])) λ_ _=>False) _ TV O E (.ref s2.heap.objs.size) [x11] (.ref s2.heap.objs.size) [u11] (λ_ j=>Nx (ys++[x11]) O j) L rfl (.cons r11 .nil) ⟨_,ys,x11,rfl,rfl,agB,agC,q11⟩) (λ_ s12 ⟨_,H12,I12,_,q12⟩=>?_) λ_ _ z=>cw z;exact again I12 q12
 exact codeAny_compStart_list (loop _ rfl) (T.self X.A 0 _ _ _ st4 (loop _ rfl))
theorem Inv.aaY(I:Inv X cq σ H s)(f:sW X cq H C)(a:bg C s.heap c):Inv X cq σ H {s with heap:=c}:=by obtain⟨h,i,q,j,m,n⟩:=f;exact I.turned (λb o p e=>(a.2 b p).trans e) h i j m n
theorem YK(c:iW X N fr scope)(b:X.calm=aj)(hi:PI X target iter wi)
(e:∀C ex cq ig ik,PG (B5 X scope N C ex cq ig ik λ_ _=>False) target g)
(ht:∀C ex cq ig ik,PIf (B5 X scope N C ex cq ig ik λ_ _=>False) ifs tt)
(i:∀C ex cq ig ik,PE (B5 X scope N C ex cq ig ik λ_ _=>False) elt te)
(j:∀x,dX iter X.env x=pure x:=by intro _;rfl):PE X (.ListComp elt [⟨target,iter,ifs,0⟩] scope pos) (Px fr wi g tt te):=by intro cq s σ H Q I h;refine ajp rfl j (xv (I.UI c)) c.kind c.loc (Gm c b hi e ht i I h λp C m r n o f hn q=>?_);exact⟨m,hn,λu a=>⟨.ref p,n,o.aaY f a,rfl,q⟩⟩
def aey (i:Nat)(te:TE):TS:=λD σ H=>te σ H λv H1=>D.nx (σ.set i (ae v)) H1
theorem YL(c:iW X N fr scope)(u:X.calm=aj)(hi:PI X target iter wi)
(w:∀C ex cq ig ik,PG (B5 X scope N C ex cq ig ik λ_ _=>False) target g)
(ht:∀C ex cq ig ik,PIf (B5 X scope N C ex cq ig ik λ_ _=>False) ifs tt)
(z:∀C ex cq ig ik,PE (B5 X scope N C ex cq ig ik λ_ _=>False) elt te)
(A:X.N.Nodup)(B:X.N[i]?=ae y)(E:Loc X.env.scope y)
(b:dB (.ListComp elt [⟨target,iter,ifs,0⟩] scope pos) (ae (.Name y G)) j.line X.env=pure aj:=by rfl)(J:X.fn y=aj\/X.env.scope.names.lookup y=ae .local:=by first|exact .inl rfl|exact .inr rfl|assumption)
(L:∀x,dX iter X.env x=pure x:=by intro _;rfl):PS X (.Assign [.Name y G] (.ListComp elt [⟨target,iter,ifs,0⟩] scope pos) j) (aey i (Px fr wi g tt te)):=by
 intro cq s σ H D I h;rw[exec_Assign_Name_used _ _ _ _ b];refine ag (aht (ag ?_));refine ag (jQ (ajp rfl L (xv (I.UI c)) c.kind c.loc
  (Gm c u hi w ht z I h λp C m M O Q f hn q=>?_)) (λ_ M T=>ak (ak T)))
 refine aj3 (Ap (v:=.ref p) Q A B E rfl (λs2 U n=>?_) J);obtain⟨a,sb,ha⟩:=n;have o:C≠a:=by
  rcases ha with ha|ha
  .rw[ha];exact f.2.1
  .exactλe=>f.2.2.2.2.1 y a ha e.symm
 exact⟨m,hn.sameBut sb o,λY r=>⟨_,O,U.aaY f r,q⟩⟩
end
noncomputable def Its(x:aJ):It:=⟨λi _=>i<x.cps.size,λi H v a=>a=H/\∃c,x.cps[i]?=ae c/\v=.str ⟨#[c]⟩,λi _=>x.cps.size<=i⟩
theorem oj:eX x="str_ascii_iterator"\/eX x="str_iterator":=by
 unfold eX;split
 .exact .inl rfl
 .exact .inr rfl
theorem UJ{w:bw}{K:bz}(it:aw)(x:aJ)(t:akx):Turn P w K tg (Its x) [it] it (λi h=>h.IsStrIter it (eX x) x t i/\i<=x.cps.size) where
 mem:=by simp
 obj:=λi h st b a=>by
  have e:b=it:=by simpa using a
  subst e;obtain⟨⟨o,e,c,d⟩,_⟩:=st;exact⟨o,e,λv z=>by rw[d] at z;cases z⟩
 keep:=λi h f st k=>by obtain⟨⟨o,e,c,d⟩,l⟩:=st;exact⟨⟨o,k it (by simp) o e,c,d⟩,l⟩
 item:=by
  intro X J hw L n i cq s σ H E I p st g;subst J hw L;obtain⟨q,r,U,y,B,C⟩:=p it (by simp);rcases oj (x:=x) with e|e
  .rw[e] at st |-;have W:=aiw.strAscii (prog:=X.prog) (w:=X.w) (I.ok.hd n) it x t;refine W.item i s _ _ g st.1 λv f tk M G j=>?_;obtain⟨c,u,m,rfl⟩:=M;have N:Inv X cq σ H {s with heap:=f,toks:=tk}:=I.turned (λb o a e=>j b o (by simpa using a) e) q r y B C;obtain⟨o,e1,O,T⟩:=id G;exact⟨_,rfl,JK (s:={s with heap:=f,toks:=tk}) e1 O T (by decide) ⟨.str ⟨#[c]⟩,H,N,⟨u,rfl⟩,⟨rfl,c,m,rfl⟩,⟨G,g⟩,λb a=>(p b a).1⟩⟩
  .rw[e] at st |-;have W:=aiw.strWide (prog:=X.prog) (w:=X.w) (I.ok.hd n) it x t;refine W.item i s _ _ g st.1 λv f tk M G j=>?_;obtain⟨c,u,m,rfl⟩:=M;have N:Inv X cq σ H {s with heap:=f,toks:=tk}:=I.turned (λb o a e=>j b o (by simpa using a) e) q r y B C;obtain⟨o,e1,O,T⟩:=id G;exact⟨_,rfl,JK (s:={s with heap:=f,toks:=tk}) e1 O T (by decide) ⟨.str ⟨#[c]⟩,H,N,⟨u,rfl⟩,⟨rfl,c,m,rfl⟩,⟨G,g⟩,λb a=>(p b a).1⟩⟩
 done:=by
  intro X J hw L n i cq s σ H E I p st g;subst J hw L;obtain⟨q,r,U,y,B,C⟩:=p it (by simp);have g:x.cps.size<=i:=g;obtain⟨st,l⟩:=st;have hi:i=x.cps.size:=by omega
  subst hi;rcases oj (x:=x) with e|e
  .rw[e] at st;exact(aiw.strAscii (w:=X.w) (I.ok.hd n) it x t).done s _ _ st λf tk j=>⟨rfl,I.turned (λb o a e=>j b o (by simpa using a) e) q r y B C⟩
  .rw[e] at st;exact(aiw.strWide (w:=X.w) (I.ok.hd n) it x t).done s _ _ st λf tk j=>⟨rfl,I.turned (λb o a e=>j b o (by simpa using a) e) q r y B C⟩
 self:=λA i s Q E st h=>by
  obtain⟨st,l⟩:=st;rcases oj (x:=x) with e|e
  .rw[e] at st;exact wpAny_pyIter_striter_ascii st h
  .rw[e] at st;exact wpAny_pyIter_striter_wide st h
section
variable {X:Cx} {tg:bE}
theorem UK(m:X.calm=aj):mF X (.builtin "all") (λxs H Q=>∃(a:aw) (bs:List Bool),xs=[V.ref a]/\mo X.K H a (bs.map V.bl)/\Q (.bl (bs.all id)) H):=by
 intro cq s σ H xs us Q I r h;obtain⟨a,bs,rfl,w,q⟩:=h;obtain⟨u,rfl,c⟩:=vals1 r;cases c;obtain⟨its,f,p,N⟩:=I.list w;have y:X.A.in1.handled=am:=I.ok.hd m;refine call_all_walk (dF p.isList ?_);have z:a<s.heap.objs.size:=by obtain⟨o,n,e,_⟩:=p;exact aB e
 have B:its.length=bs.length:=by have:=f.length;rw[ar] at this;exact this.symm
 have C:∀(i:Nat) (v:ai),its[i]?=ae v->v=.bool (bs.getD i aq):=λi v e=>by
  have hi:i<its.length:=(ap.mp e).1;have E:(bs.map V.bl)[i]?=ae (V.bl (bs.getD i aq)):=by rw[bq,bD,ax (by omega)];rfl
  obtain⟨u,g,c⟩:=f.get E;rw[e] at g;cases g;exact c
 refine⟨s.heap.objs.size,_,_,_,_,_,λi=>bs.getD i aq,rfl,aiw.list y s.heap.objs.size a (aO z) its.toArray,⟨⟨_,az _ rfl,rfl,rfl⟩,p.isList.push _⟩,λi v O T U G J=>?_,λY tk L=>?_⟩
 .have:=C i v (by simpa using G);subst this;exact cO J
 .have e:(cQ its.toArray.size).all (λi=>bs.getD i aq)=bs.all id:=by
   rw[aN,B];have key:∀l:List Bool,(cQ l.length).all (λi=>l.getD i aq)=l.all id:=by
    intro l;rw[gj];simp only [bR,ej,id];constructor
    .intro h x M;obtain⟨i,hi,rfl⟩:=List.mem_iff_getElem.mp M;have:=h i hi
     rwa [bD,ax hi] at this
    .intro h i hi;rw[bD,ax hi];exact h _ (fX hi)
   exact key bs
  rw[e];refine⟨.bl _,H,I.kept (t':=tk) λb o j=>?_,rfl,q⟩;exact L b o (by simpa using aO (aB j)) (ah _ j)
theorem RO:sY X (compareOp .LtE) (λx y H Q=>∃i j,x=.str i/\y=.str j/\Q (.bl (!decide (j.cps.toList<i.cps.toList))) H):=by intro cq s σ H x y v u Q I a b h;obtain⟨i,j,rfl,rfl,q⟩:=h;obtain⟨t,rfl⟩:=a;obtain⟨c,rfl⟩:=b;exact P.le_str (iI I q rfl)
theorem acj:XU X (λx lo hi H Q=>∃z,x=.str z/\z.length<=aE/\Q (.str (Txt.slice z lo hi)) H):=by
 intro cq s σ H x v c e lo hi sl Q I f g pl a h;obtain⟨z,rfl,m,q⟩:=h;obtain⟨t,rfl⟩:=f;have key:∀(l u:Option _),partValue l=c->partValue u=e->l.map (·.1)=lo->u.map (·.1)=hi->wpAny (model X.prog X.w) X.A (air (.str z t) (.ref sl)) (EP X cq σ Q) X.xe s:=by
  rintro l u rfl rfl rfl rfl
  refine wpAny_getItem_str_slice (st:=am) g rfl (post_val_or_str ⟨bi (Txt.slice_le z _ _) m,λn k=>⟨.str _,H,I.tok k,⟨_,rfl⟩,q⟩⟩)
 refine⟨"str",_,F.slot_str_getitem.lookup,ajZ _ _ _,?_⟩;cases pl with
 |none=>
  cases a with
  |none=>exact key am am rfl rfl rfl rfl
  |int j u=>exact key am (ae (j,u)) rfl rfl rfl rfl
 |int i b=>
  cases a with
  |none=>exact key (ae (i,b)) am rfl rfl rfl rfl
  |int j u=>exact key (ae (i,b)) (ae (j,u)) rfl rfl rfl rfl
end
def hG (K:bz)(mg:aJ->Option ai)(x:aJ)(st:cc):Prop:=∃f fd,uY K x x st f fd/\mg x=ae (.ref f)
def oZ (P:aQ)(w:bw)(K:bz)(mg:aJ->Option ai)(cv:av)(k:Nat)(x:aJ)(a:List aJ)(sp:Sp):Prop:=
 ∃f fd,mg x=ae (.ref f)/\ef K (.ref f)=aj/\Binds K fd a []/\jR P w K mg cv rF k f fd a sp
theorem UL{K:bz}(X:K.In h)(G:h.Ns aZ mg){st:cc}{kV doc pm ip ct:ai}
(a:dy K aZ x=ae (ae (.ref f)))(l:K.lookup f=ae ⟨oc,od,.func (ee x x (jJ st) (iC st) (h9 st) .none kV doc pm an ip ct),JQ⟩)
(c:W.codeIn K ip x=aj)(k:ef K (.ref f)=aj):hG K mg x st:=⟨f,_,MW l c k,dV X G a⟩
section
variable {P:aQ} {w:bw} {K:bz} {mg:aJ->Option ai} {cv:av}
theorem hG.has{st:cc}(F:hG K mg x st)(S:gU N b (h9 st))
(c:∀(kV doc pm:ai) (an:Option aw) (ip ct:ai) (us:List ai),us.length=b.length->dZ (ee x x (jJ st) (iC st) (h9 st) .none kV doc pm an ip ct) ⟨us,[]⟩=pure (b.zip us))
(len:∀a H Q E,sp a H Q E->a.length=b.length)
(e:∀(f:aw) (ip:ai) (A:bj) (cP:List ah1) (s:ao) (H:Hp) (a:List V) (Q:VK) (E:XK),iV k (A.deeper (eG x (h9 st) s.heap.objs.size f ip))->sp a H Q E->
   ∃t,yL (rC rF P w K mg cv N x (h9 st) f ip A cP s H E).Fw (iC st) t/\t {nx:=λ_ g=>Q .non g,rt:=Q} (start N a) H):oZ P w K mg cv (k+1) x b sp:=by obtain⟨f,fd,F,m⟩:=F;exact⟨f,fd,m,F.kp,F.binds c,F.ok S len (e f)⟩
theorem oZ.mono(h:oZ P w K mg cv j x c sp)(a:j<=k):oZ P w K mg cv k x c sp:=by obtain⟨f,fd,m,kp,b,F⟩:=h;exact⟨f,fd,m,kp,b,F.mono a⟩
end
section
variable {X:Cx} {k:Nat} {x:aJ} {ps:List aJ} {sp:Sp} {p pos:eZ} {e:bE} {es:List bE} {t:TA}
theorem aez(h:oZ X.prog X.w X.K X.mg X.cv k x ps sp)(a:iV k X.A)(ha:PA X (e::es) t)(c:Gl X x:=by rfl)(g:(x==("__debug__":aJ))=aq:=by decide)
(i:aP (e::es) X.env=(aq,eval e X.env)::aP es X.env:=by rfl)(j:(c9 pos (aP es X.env)).any (·.1)=aq:=by rfl):
  PE X (.Call (.Name x p) (e::es) [] pos) (aaQ sp [] E0 t):=by obtain⟨f,fd,m,kp,b,F⟩:=h;exact Yo F a c m kp b .nil Ps ha g i j
end
theorem Dc(h:H p=am):jD H (upd H p o):=λb u e=>by rw[gM (i5 e h)];exact e
section
variable {P:aQ} {w:bw} {K:bz} {mg:aJ->Option ai} {cv:av}
theorem hG.hasB{st:cc}(F:hG K mg x st)(c:iC st=body)(es:h9 st=scope)(S:gU N b scope)
(e:∀(kV doc pm:ai) (an:Option aw) (ip ct:ai) (us:List ai),us.length=b.length->dZ (ee x x (jJ st) (iC st) (h9 st) .none kV doc pm an ip ct) ⟨us,[]⟩=pure (b.zip us))
(len:∀a H Q E,sp a H Q E->a.length=b.length)
(g:∀(f:aw) (ip:ai) (A:bj) (cP:List ah1) (s:ao) (H:Hp) (a:List V) (Q:VK) (E:XK),iV k (A.deeper (eG x scope s.heap.objs.size f ip))->sp a H Q E->
   ∃t,yL (rC rF P w K mg cv N x scope f ip A cP s H E).Fw body t/\t {nx:=λ_ h=>Q .non h,rt:=Q} (start N a) H):oZ P w K mg cv (k+1) x b sp:=by subst c es;exact F.has S e len g
end
structure QE(X:Cx)(e:bE)(t:TE):Prop where p:PE X e t
structure QT(X:Cx)(e:bE)(t:TT):Prop where p:PT X e t
structure QW(X:Cx)(e:bE)(t:TT):Prop where p:PW X e t
structure QA(X:Cx)(es:List bE)(t:TA):Prop where p:PA X es t
structure QS(X:Cx)(st:cc)(t:TS):Prop where p:PS X st t
structure QB(X:Cx)(st:List cc)(t:TS):Prop where p:yL X st t
structure QG(X:Cx)(tg:bE)(g:TG):Prop where p:PG X tg g
structure QGs(X:Cx)(tg:List bE)(g:TGs):Prop where p:TQ X tg g
structure QI(X:Cx)(tg iter:bE)(wi:TI):Prop where p:PI X tg iter wi
structure QF(X:Cx)(ifs:List bE)(t:TT):Prop where p:PIf X ifs t
structure QO(X:Cx)(e:Option bE)(t:TO):Prop where p:PO X e t
structure ROp(X:Cx)(op:ajc)(r:R2):Prop where p:sY X (binaryOp op) r
structure aho(X:Cx)(op:CmpOp)(r:R2):Prop where p:sY X (compareOp op) r
structure RUn(X:Cx)(op:UnaryOp)(r:V->Hp->VK->Prop):Prop where p:UnR X (unaryOp op) r
structure RB(X:Cx)(id:String)(r:List V->Hp->VK->Prop):Prop where p:mF X (.builtin id) r
structure RTy(X:Cx)(T:String)(r:List V->Hp->VK->Prop):Prop where p:mF X (.type T) r
structure RIx(X:Cx)(r:R2):Prop where p:IxR X r
structure RSl(X:Cx)(r:V->Option Int->Option Int->Hp->VK->Prop):Prop where p:XU X r
structure RMt(X:Cx)(id:String)(r:V->List V->Hp->VK->Prop):Prop where p:MtR X id r
section
variable {X:Cx} {a b c e:bE} {es rest:List bE} {ta tb tc te:TE} {t u:TS} {tA Uc:TT} {tt:TA} {pos p p2 p3:eZ} {x:aJ}
end
section
variable {P:aQ} {w:bw} {K:bz} {mg:aJ->Option ai} {cv:av}
theorem hG.ack{st:cc}(F:hG K mg x st)(c:iC st=body)(es:h9 st=scope)(S:gU N b scope)
(e:∀(kV doc pm:ai) (an:Option aw) (ip ct:ai) (us:List ai),us.length=b.length->dZ (ee x x (jJ st) (iC st) (h9 st) .none kV doc pm an ip ct) ⟨us,[]⟩=pure (b.zip us))
(len:∀a H Q E,sp a H Q E->a.length=b.length)
(g:∀(f:aw) (ip:ai) (A:bj) (cP:List ah1) (s:ao) (H:Hp) (a:List V) (Q:VK) (E:XK),iV k (A.deeper (eG x scope s.heap.objs.size f ip))->sp a H Q E->
   ∃t,QB (rC rF P w K mg cv N x scope f ip A cP s H E).Fw body t/\t {nx:=λ_ i=>Q .non i,rt:=Q} (start N a) H):oZ P w K mg cv (k+1) x b sp:=
 F.hasB c es S e len λf ip A cP s H a Q E j h=>let⟨t,q,z⟩:=g f ip A cP s H a Q E j h;⟨t,q.p,z⟩
theorem uY.acl{st:cc}(F:uY K x x st f fd)
(h:∀(kV doc pm:ai) (an:Option aw) (ip ct:ai) (u:ai),dZ (ee x x (jJ st) (iC st) (h9 st) .none kV doc pm an ip ct) ⟨[u],[]⟩=pure [(y,u)]):∀(s:ao) (v:ai),aiP s fd ⟨[v],[]⟩ [(y,v)]:=by obtain⟨oc,od,kV,doc,pm,an,ip,ct,JQ,rfl,lk,a⟩:=F.ex;exactλs v=>.of_eq (h kV doc pm an ip ct v)
end
open PySem.W
noncomputable def yX(c:aw)(q:aJ):HO:=.ext λh=>h.CodeRec (.ref c) q
structure Py(q:aJ)(H:Hp)(ps:Array ai):Prop where
 ok:gB ps.toList
 cs:∀pos v,aif pos ps.toList=ae v->∃c,v=.ref c/\H c=ae (yX c q)
def uH (P:aw)(q:aJ)(H a:Hp):Prop:=(∃b,a P=ae (.yJ b)/\Py q a b)/\(a=H\/∃c b,H c=am/\c≠P/\a=upd (upd H c (yX c q)) P (.yJ b))
end L2
namespace L3
open L2
@[reducible] def uP:Option HO->Option HO
 |some (.yJ _)=>am
 |some (.ext _)=>am
 |o=>o
theorem UM(h:uP x=ae o):x=ae o/\uP (ae o)=ae o:=by
 cases x with
 |none=>cases h
 |some y=>cases y<;>first|(cases h;done)|(cases h;exact⟨rfl,rfl⟩)
theorem Dd(h:uP x≠am):x≠am:=λz=>h (by rw[z])
noncomputable def YM:List aJ:=["by_name"]
noncomputable def acm(x:aJ):aJ:=x++".<locals>."++"<lambda>"
def Tb (K:bz)(H:Hp):Prop:=∀x∈YM,∀c P,W.tabIn K x=ae (c,P)->∃a,H P=ae (.yJ a)/\Py (acm x) H a
theorem Tb.imp{K:bz}(t:Tb K H)(h:∀b o,H b=ae o->uP (ae o)=am->a b=ae o):Tb K a:=λx f c P e=>by obtain⟨g,i,j,m⟩:=t x f c P e;refine⟨g,h _ _ i rfl,j,λpos v n=>?_⟩;obtain⟨p,e1,e2⟩:=m pos v n;exact⟨p,e1,h _ _ e2 rfl⟩
theorem Tb.same{K:bz}(t:Tb K H)(h:jD H a):Tb K a:=t.imp λb o e _=>h b o e
theorem Tb.upd{K:bz}(t:Tb K H)(h:uP (H p)≠am\/H p=am):Tb K (upd H p x):=t.imp λb o e v=>by
 rw[gM λz=>?_]
 .exact e
 .subst z;rcases h with h|h
  .rw[e] at h;exact h v
  .rw[h] at e;cases e
inductive D where
 |non|bl (b:Bool)|int (i:Int)|str (x:aJ)|ty (n:String)
 |tup (ds:List D)|lst (ds:List D)|jf (ks:List Key) (ds:List D)
 |ins (C:aw) (ns:List aJ) (ds:List D)|qH (ns:List Int)|loc (k:Nat)|cls (C:aw)|exc (C:aw) (ns:List aJ) (ds:List D)
inductive OD where
 |lst (ds:List D)|jf (ks:List Key) (ds:List D)|ins (C:aw) (ns:List aJ) (ds:List D)|fz (k ep:Nat) (ks:List Key) (ds:List D)
abbrev Ms:=List (Option OD)
mutual
def Rep (K:bz) (α:List aw) (H:Hp):D->V->Prop
 |.non,v=>v=.non
 |.bl b,v=>v=.bl b
 |.int i,v=>v=.int i
 |.str x,v=>v=.str x
 |.ty n,v=>v=.ty n
 |.tup ds,v=>∃a c,v=.ref a/\xr K H a c/\gL K α H ds c
 |.lst ds,v=>∃a c,v=.ref a/\H a=ae (.lst c)/\gL K α H ds c
 |.qH ns,v=>∃a,v=.ref a/\mo K H a (ns.map V.int)
 |.jf e ds,v=>∃a c,v=.ref a/\Rd H a (.dK (e.zip c))/\e.length=ds.length/\gL K α H ds c
 |.ins C ns ds,v=>∃a f c,v=.ref a/\H a=ae (.ins C f (ns.zip c))/\ns.length=ds.length/\gL K α H ds c
 |.loc k,v=>∃a,α[k]?=ae a/\v=.ref a
 |.cls C,v=>v=.ref C
 |.exc C ns ds,v=>∃a c,v=.ref a/\H a=ae (.xc C (ns.zip c))/\ns.length=ds.length/\gL K α H ds c
def gL (K:bz) (α:List aw) (H:Hp):List D->List V->Prop
 |[],c=>c=[]
 |d::ds,c=>∃v r,c=v::r/\Rep K α H d v/\gL K α H ds r
end
theorem ny{K:bz}(e:jD H b)(h:xr K H a xs):xr K b a xs:=by
 rcases h with(h|⟨o,h⟩)|h
 .exact .inl (.inl (e _ _ h))
 .exact .inl (.inr ⟨o,e _ _ h⟩)
 .exact .inr h
theorem kN{K:bz}(e:jD H b)(h:mo K H a xs):mo K b a xs:=by
 rcases h with(h|⟨o,h⟩)|h
 .exact .inl (.inl (e _ _ h))
 .exact .inl (.inr ⟨o,e _ _ h⟩)
 .exact .inr h
theorem Cs(e:jD H b)(h:Rd H a u):Rd b a u:=by
 rcases h with h|⟨o,h⟩
 .exact .inl (e _ _ h)
 .exact .inr ⟨o,e _ _ h⟩
theorem Pz(p:α <+: β){k:Nat}{a:aw}(h:α[k]?=ae a):β[k]?=ae a:=by obtain⟨t,rfl⟩:=p;have:=(ap.mp h).1;rw[aR this];exact h
mutual
theorem Rep.mono {K:bz} {α β:List aw} {H c:Hp} (p:α <+: β) (e:jD H c):∀(d:D) (v:V),Rep K α H d v->Rep K β c d v
 |.non,v,h=>by unfold Rep at h |-;exact h
 |.bl _,v,h=>by unfold Rep at h |-;exact h
 |.int _,v,h=>by unfold Rep at h |-;exact h
 |.str _,v,h=>by unfold Rep at h |-;exact h
 |.ty _,v,h=>by unfold Rep at h |-;exact h
 |.tup ds,v,h=>by unfold Rep at h |-;obtain⟨a,b,r,q,z⟩:=h;exact⟨a,b,r,ny e q,gL.mono p e ds b z⟩
 |.lst ds,v,h=>by unfold Rep at h |-;obtain⟨a,b,r,q,z⟩:=h;exact⟨a,b,r,e _ _ q,gL.mono p e ds b z⟩
 |.qH ns,v,h=>by unfold Rep at h |-;obtain⟨a,r,q⟩:=h;exact⟨a,r,kN e q⟩
 |.jf g ds,v,h=>by unfold Rep at h |-;obtain⟨a,b,r,q,l,z⟩:=h;exact⟨a,b,r,Cs e q,l,gL.mono p e ds b z⟩
 |.ins C ns ds,v,h=>by unfold Rep at h |-;obtain⟨a,f,b,r,q,l,z⟩:=h;exact⟨a,f,b,r,e _ _ q,l,gL.mono p e ds b z⟩
 |.exc C ns ds,v,h=>by unfold Rep at h |-;obtain⟨a,b,r,q,l,z⟩:=h;exact⟨a,b,r,e _ _ q,l,gL.mono p e ds b z⟩
 |.loc k,v,h=>by unfold Rep at h |-;obtain⟨a,r,q⟩:=h;exact⟨a,Pz p r,q⟩
 |.cls _,v,h=>by unfold Rep at h |-;exact h
theorem gL.mono {K:bz} {α β:List aw} {H c:Hp} (p:α <+: β) (e:jD H c):∀(ds:List D) (b:List V),gL K α H ds b->gL K β c ds b
 |[],b,h=>by unfold gL at h |-;exact h
 |d::ds,b,h=>by unfold gL at h |-;obtain⟨v,r,q,z,y⟩:=h;exact⟨v,r,q,Rep.mono p e d v z,gL.mono p e ds r y⟩
end
section
variable {K:bz} {α:List aw} {H:Hp}
theorem gL.length:∀(ds:List D) (a:List V),gL K α H ds a->ds.length=a.length
 |[],a,h=>by rw[h];rfl
 |d::ds,a,h=>by obtain⟨v,r,rfl,_,y⟩:=h;rw[bc,bc,gL.length ds r y]
theorem gL.get:∀(ds:List D) (a:List V) (i:Nat) (d:D),gL K α H ds a->ds[i]?=ae d->∃v,a[i]?=ae v/\Rep K α H d v
 |[],a,i,d,h,e=>by simp at e
 |x::ds,a,0,d,h,e=>by obtain⟨v,r,rfl,z,_⟩:=h;simp at e;subst e;exact⟨v,rfl,z⟩
 |x::ds,a,i+1,d,h,e=>by obtain⟨v,r,rfl,_,y⟩:=h;obtain⟨u,b,c⟩:=gL.get ds r i d y (by simpa using e);exact⟨u,by simpa using b,c⟩
theorem gL.get':∀(ds:List D) (a:List V) (i:Nat) (v:V),gL K α H ds a->a[i]?=ae v->∃d,ds[i]?=ae d/\Rep K α H d v
 |[],a,i,d,h,e=>by subst h;simp at e
 |x::ds,a,0,d,h,e=>by obtain⟨v,r,rfl,z,_⟩:=h;simp at e;subst e;exact⟨x,rfl,z⟩
 |x::ds,a,i+1,d,h,e=>by obtain⟨v,r,rfl,_,y⟩:=h;obtain⟨u,b,c⟩:=gL.get' ds r i d y (by simpa using e);exact⟨u,by simpa using b,c⟩
theorem gL.append:∀(ds es:List D) (a us:List V),gL K α H ds a->gL K α H es us->gL K α H (ds++es) (a++us)
 |[],es,a,us,h,g=>by subst h;exact g
 |d::ds,es,a,us,h,g=>by obtain⟨v,r,rfl,z,y⟩:=h;exact⟨v,_,rfl,z,gL.append ds es r us y g⟩
theorem gL.nil:gL K α H [] []:=by rfl
theorem gL.cons(q:Rep K α H d v)(h:gL K α H ds a):gL K α H (d::ds) (v::a):=by exact⟨v,a,rfl,q,h⟩
theorem gL.one(q:Rep K α H d v):gL K α H [d] [v]:=gL.cons q gL.nil
theorem gL.take:∀(n:Nat) (ds:List D) (a:List V),gL K α H ds a->gL K α H (ds.take n) (a.take n)
 |0,ds,a,h=>by simpa using gL.nil
 |n+1,[],a,h=>by subst h;simpa using gL.nil
 |n+1,d::ds,a,h=>by obtain⟨v,r,rfl,z,y⟩:=h;exact gL.cons z (gL.take n ds r y)
theorem gL.drop:∀(n:Nat) (ds:List D) (a:List V),gL K α H ds a->gL K α H (ds.drop n) (a.drop n)
 |0,ds,a,h=>h
 |n+1,[],a,h=>by subst h;simpa using gL.nil
 |n+1,d::ds,a,h=>by obtain⟨v,r,rfl,z,y⟩:=h;exact gL.drop n ds r y
theorem gL.set{d:D}{v:V}(q:Rep K α H d v):∀(i:Nat) (ds:List D) (a:List V),gL K α H ds a->gL K α H (ds.set i d) (a.set i v)
 |i,[],a,h=>by unfold gL at h;subst h;simpa using gL.nil
 |0,x::ds,a,h=>by unfold gL at h;obtain⟨u,r,rfl,z,y⟩:=h;exact gL.cons q y
 |i+1,x::ds,a,h=>by unfold gL at h;obtain⟨u,r,rfl,z,y⟩:=h;exact gL.cons z (gL.set q i ds r y)
theorem gL.of_map{β:Type}(f:β->D)(g:β->V)(h:∀a,Rep K α H (f a) (g a)):∀l:List β,gL K α H (l.map f) (l.map g)
 |[]=>gL.nil
 |a::l=>gL.cons (h a) (gL.of_map f g h l)
theorem gL.rep(h:gL K α H ds a):∀k:Nat,gL K α H (bL k ds).flatten (bL k a).flatten
 |0=>gL.nil
 |k+1=>by exact gL.append _ _ _ _ h (gL.rep h k)
theorem gL.at(h:gL K α H ds a)(e:Fx ds i=ae d):∃v,Fx a i=ae v/\Rep K α H d v:=by
 unfold Fx at e |-;rw[<-gL.length _ _ h];cases q:ixN _ i with
 |none=>rw[q] at e;cases e
 |some j=>
  rw[q] at e;exact gL.get ds a j d h e
theorem iQ:Rep K α H (.int i) (.int i):=by rfl
theorem iX:Rep K α H (.bl i) (.bl i):=by rfl
theorem nU:Rep K α H (.str i) (.str i):=by rfl
theorem YN:Rep K α H (.cls C) (.ref C):=by rfl
theorem tq:Rep K α H .non .non:=by rfl
theorem acn:Rep K α H (.ty n) (.ty n):=by rfl
end
noncomputable def kX(A:List aw)(H:Hp):Hp:=λb=>if b∈A then am else uP (H b)
theorem kI(h:p∉A):kX A H p=uP (H p):=by unfold kX;rw[if_neg h]
theorem pd(h:p∈A):kX A H p=am:=by unfold kX;rw[if_pos h]
theorem pN(h:kX A H p=ae o):p∉A/\H p=ae o/\uP (ae o)=ae o:=by
 by_cases z:p∈A
 .rw[pd z] at h;cases h
 .rw[kI z] at h;exact⟨z,UM h⟩
theorem iB(h:kX A H p=ae o):p∉A/\H p=ae o:=⟨(pN h).1,(pN h).2.1⟩
theorem hW:jD (kX A H) H:=λb o e=>(iB e).2
theorem jK(h:p∉A)(e:H p=ae o)(v:uP (ae o)=ae o):kX A H p=ae o:=by rw[kI h,e];exact v
theorem ma(h:kX A H b=ae o)(a:b∉B)(e:c b=ae o):kX B c b=ae o:=jK a e (pN h).2.2
theorem Gn(h:jD H a):jD (kX A H) (kX A a):=λb o e=>ma e (iB e).1 (h b o (iB e).2)
noncomputable def lv:List aw->Ms->List aw
 |a::α,ae _::M=>a::lv α M
 |_::α,am::M=>lv α M
 |_,_=>[]
theorem nz:∀{α:List aw} {M:Ms} {a:aw},a∈lv α M↔∃(k:Nat) (o:OD),α[k]?=ae a/\M[k]?=ae (ae o)
 |[],M,a=>by cases M<;>simp[lv]
 |b::α,[],a=>by simp[lv]
 |b::α,ae x::M,a=>by
  simp only [lv,aC,nz];constructor
  .rintro(rfl|⟨k,o,c,e⟩)
   .exact⟨0,x,rfl,rfl⟩
   .exact⟨k+1,o,by simpa using c,by simpa using e⟩
  .rintro⟨k,o,c,e⟩
   cases k with
   |zero=>left;simpa using c.symm
   |succ k=>right;exact⟨k,o,by simpa using c,by simpa using e⟩
 |b::α,am::M,a=>by
  simp only [lv,nz];constructor
  .rintro⟨k,o,c,e⟩
   exact⟨k+1,o,by simpa using c,by simpa using e⟩
  .rintro⟨k,o,c,e⟩
   cases k with
   |zero=>simp at e
   |succ k=>exact⟨k,o,by simpa using c,by simpa using e⟩
abbrev ja(F α:List aw)(M:Ms)(H:Hp):Hp:=kX (lv α M++F) H
def B6 (K:bz)(α:List aw)(e H:Hp):OD->aw->Prop
 |.lst ds,a=>∃b,H a=ae (.lst b)/\gL K α e ds b
 |.jf c ds,a=>∃b,H a=ae (.dK (c.zip b))/\c.length=ds.length/\gL K α e ds b
 |.ins C ns ds,a=>∃f b,H a=ae (.ins C f (ns.zip b))/\ns.length=ds.length/\gL K α e ds b
 |.fz k g c ds,a=>α[k]?=ae a/\∃b,H a=ae (.dE g (c.zip b))/\c.length=ds.length/\gL K α e ds b
structure OK(K:bz)(F α:List aw)(H:Hp)(M:Ms):Prop where
 ml:α.length=M.length
 nd:α.Nodup
 fr:∀a∈F,a∉α/\uP (H a)≠am
 al:∀a∈α,uP (H a)≠am
 own:∀(k:Nat) o,M[k]?=ae (ae o)->∃a,α[k]?=ae a/\B6 K α (ja F α M H) H o a
 tb:Tb K H
structure Ext(F α:List aw)(H:Hp)(M:Ms)(ia:List aw)(H':Hp)(M':Ms):Prop where
 pre:α <+: ia
 same:jD (ja F α M H) (ja F ia M' H')
 fr:∀a∈F,H' a=H a
abbrev oM:=List (Option D)
structure R(K:bz)(F α:List aw)(H:Hp)(σ:L2.St)(δ:oM)(M:Ms):Prop where
 ok:OK K F α H M
 len:σ.length=δ.length
 sl:∀(i:Nat) d,δ[i]?=ae (ae d)->∃v,σ[i]?=ae (ae v)/\Rep K α (ja F α M H) d v
section
variable {K:bz} {F α ia UN:List aw} {H H' H'':Hp} {M M' Fu:Ms} {σ:L2.St} {δ:oM}
theorem Ext.refl:Ext F α H M α H M:=⟨aS _,jD.refl _,λ_ _=>rfl⟩
theorem Ext.trans(e:Ext F α H M ia H' M')(e':Ext F ia H' M' UN H'' Fu):Ext F α H M UN H'' Fu:=
 ⟨e.pre.trans e'.pre,e.same.trans e'.same,λa h=>(e'.fr a h).trans (e.fr a h)⟩
theorem Ext.rep(e:Ext F α H M ia H' M')(h:Rep K α (ja F α M H) d v):Rep K ia (ja F ia M' H') d v:=Rep.mono e.pre e.same d v h
theorem Ext.FA(e:Ext F α H M ia H' M')(h:gL K α (ja F α M H) d v):gL K ia (ja F ia M' H') d v:=gL.mono e.pre e.same d v h
theorem R.grow(r:R K F α H σ δ M)(e:Ext F α H M ia H' M')(o:OK K F ia H' M'):R K F ia H' σ δ M':=
 ⟨o,r.len,λi d q=>by obtain⟨v,a,b⟩:=r.sl i d q;exact⟨v,a,e.rep b⟩⟩
theorem OK.live(o:OK K F α H M):∀a∈lv α M,H a≠am:=λa ha=>by
 obtain⟨k,x,f,g⟩:=nz.mp ha;obtain⟨b,e,r⟩:=o.own k x g;rw[f] at e;cases e;cases x with
 |lst ds=>obtain⟨c,e,_⟩:=r;rw[e];exactλz=>by cases z
 |jf h ds=>obtain⟨c,e,_⟩:=r;rw[e];exactλz=>by cases z
 |ins C ns ds=>obtain⟨i,c,e,_⟩:=r;rw[e];exactλz=>by cases z
 |fz k j h ds=>obtain⟨_,c,e,_⟩:=r;rw[e];exactλz=>by cases z
theorem OK.new(o:OK K F α H M)(h:H p=am):p∉lv α M++F:=λz=>by
 rcases bd.mp z with z|z
 .exact o.live p z h
 .exact(o.fr p z).2 (by rw[h])
theorem B6.uP(r:B6 K α f H x a):uP (H a)≠am:=by
 cases x with
 |lst ds=>obtain⟨b,e,_⟩:=r;rw[e];exactλz=>by cases z
 |jf c ds=>obtain⟨b,e,_⟩:=r;rw[e];exactλz=>by cases z
 |ins C ns ds=>obtain⟨g,b,e,_⟩:=r;rw[e];exactλz=>by cases z
 |fz k h c ds=>obtain⟨_,b,e,_⟩:=r;rw[e];exactλz=>by cases z
theorem B6.some{c:Hp}{x:OD}{a:aw}(r:B6 K α c H x a):H a≠am:=by
 cases x with
 |lst ds=>obtain⟨b,e,_⟩:=r;rw[e];exactλz=>by cases z
 |jf f ds=>obtain⟨b,e,_⟩:=r;rw[e];exactλz=>by cases z
 |ins C ns ds=>obtain⟨g,b,e,_⟩:=r;rw[e];exactλz=>by cases z
 |fz k h f ds=>obtain⟨_,b,e,_⟩:=r;rw[e];exactλz=>by cases z
theorem OK.PB(o:OK K F α H M):∀a∈lv α M,uP (H a)≠am:=λa ha=>by obtain⟨k,x,c,f⟩:=nz.mp ha;obtain⟨b,e,r⟩:=o.own k x f;rw[c] at e;cases e;exact r.uP
theorem B6.mono(p:α <+: ia)(e:jD f c)(ha:H' a=H a)(h:B6 K α f H o a):B6 K ia c H' o a:=by
 cases o with
 |lst ds=>obtain⟨b,q,r⟩:=h;exact⟨b,by rw[ha];exact q,gL.mono p e _ _ r⟩
 |jf i ds=>obtain⟨b,q,l,r⟩:=h;exact⟨b,by rw[ha];exact q,l,gL.mono p e _ _ r⟩
 |ins C ns ds=>obtain⟨j,b,q,l,r⟩:=h;exact⟨j,b,by rw[ha];exact q,l,gL.mono p e _ _ r⟩
 |fz k m i ds=>
  obtain⟨g,b,q,l,r⟩:=h;exact⟨by obtain⟨β,rfl⟩:=p;rw[aR (ap.mp g).1];exact g,b,by rw[ha];exact q,l,gL.mono p e _ _ r⟩
theorem OK.grow(o:OK K F α H M)(s:jD H H'):OK K F α H' M/\Ext F α H M α H' M:=by
 have rW:∀a,H a≠am->H' a=H a:=λa h=>by
  cases e:H a with
  |none=>exact absurd e h
  |some x=>exact s a x e
 refine⟨⟨o.ml,o.nd,λa ha=>⟨(o.fr a ha).1,by rw[rW a (Dd (o.fr a ha).2)];exact(o.fr a ha).2⟩,λa ha=>by rw[rW a (Dd (o.al a ha))];exact o.al a ha,λk x h=>?_,o.tb.same s⟩,⟨aS _,(Gn s),λa ha=>rW a (Dd (o.fr a ha).2)⟩⟩;obtain⟨a,e,r⟩:=o.own k x h;exact⟨a,e,r.mono (aS _) (Gn s) (rW a (o.live a (nz.mpr ⟨k,x,e,h⟩)))⟩
theorem OK.laid(o:OK K F α H M)(h:H p=am):OK K F α (upd H p x) M/\Ext F α H M α (upd H p x) M:=o.grow (Dc h)
theorem wC:∀{α β:List aw} {M N:Ms},α.length=M.length->lv (α++β) (M++N)=lv α M++lv β N
 |[],β,[],N,_=>by simp[lv]
 |a::α,β,ae x::M,N,h=>by have:=wC (β:=β) (N:=N) (by simpa using h);simp[lv,this]
 |a::α,β,am::M,N,h=>by have:=wC (β:=β) (N:=N) (by simpa using h);simp[lv,this]
theorem OK.De(o:OK K F α H M)(h:H p=am)(s:jD H H'):jD (ja F α M H) (ja F (α++[p]) (M++[ae x]) H'):=λb y q=>by
 have a:lv (α++[p]) (M++[ae x])=lv α M++[p]:=by rw[wC o.ml];rfl
 have c:=q;obtain⟨z,q⟩:=iB q;have e:b≠p:=λz=>by rw[z,h] at q;cases q
 show kX _ H' b=_;rw[a];refine ma c (λw=>?_) (s b y q)
 .simp only [bd,bf] at w z;rcases w with(w|w)|w
  .exact z (.inl w)
  .exact e w
  .exact z (.inr w)
theorem OK.enter(o:OK K F α H M)(h:H p=am)(s:jD H H')(r:B6 K (α++[p]) (ja F (α++[p]) (M++[ae x]) H') H' x p):
  OK K F (α++[p]) H' (M++[ae x])/\Ext F α H M (α++[p]) H' (M++[ae x]):=by
 have n:=λz=>o.al p z (by rw[h]);obtain⟨f,e'⟩:=o.grow s;have g:=o.De (x:=x) h s;have pf:=λz=>(o.fr p z).2 (by rw[h]);refine⟨⟨by simp[o.ml],by rw[dg];exact⟨o.nd,by simp,λa ha b i=>by simp at i;subst i;exactλz=>n (z▸ha)⟩,λa ha=>⟨λz=>?_,(f.fr a ha).2⟩,λa ha=>?_,λk y c=>?_,f.tb⟩,⟨cZ _ _,g,e'.fr⟩⟩
 .rcases bd.mp z with z|z
  .exact(o.fr a ha).1 z
  .simp at z;subst z;exact pf ha
 .rcases bd.mp ha with z|z
  .exact f.al a z
  .simp at z;subst z;exact r.uP
 .by_cases j:k<M.length
  .rw[aR j] at c;obtain⟨a,m,q⟩:=o.own k y c;refine⟨a,by rw[aR (by rw[o.ml];exact j)];exact m,q.mono (cZ _ _) g ?_⟩;cases e:H a with
   |none=>exact absurd e (o.live a (nz.mpr ⟨k,y,m,c⟩))
   |some z=>exact s a z e
  .have:k=M.length:=by have:=(ap.mp c).1;simp at this;omega
   subst this;simp at c;subst c;exact⟨p,by rw[<-o.ml];simp,r⟩
theorem MZ:∀{α:List aw} {M:Ms} {k:Nat} {x y:OD},M[k]?=ae (ae x)->lv α (M.set k (ae y))=lv α M
 |[],M,k,x,y,h=>by cases M<;>cases k<;>simp[lv]
 |a::α,[],k,x,y,h=>by simp at h
 |a::α,ae z::M,0,x,y,h=>by simp[lv]
 |a::α,am::M,0,x,y,h=>by simp at h
 |a::α,ae z::M,k+1,x,y,h=>by simp only [ahy,lv];rw[MZ (by simpa using h)]
 |a::α,am::M,k+1,x,y,h=>by simp only [ahy,lv];exact MZ (by simpa using h)
theorem OK.write(o:OK K F α H M)(h:M[k]?=ae (ae x))(ha:α[k]?=ae a)(r:∀p,p=ja F α M H->B6 K α p (upd H a z) y a):
  OK K F α (upd H a z) (M.set k (ae y))/\Ext F α H M α (upd H a z) (M.set k (ae y)):=by
 have u:lv α (M.set k (ae y))=lv α M:=MZ h;have hm:=nz.mpr ⟨k,x,ha,h⟩;have i:ja F α (M.set k (ae y)) (upd H a z)=ja F α M H:=by
  funext b;show kX _ _ b=kX _ _ b;rw[u];by_cases c:b∈lv α M++F
  .rw[pd c,pd c]
  .rw[kI c,kI c,gM (λe=>c (by rw[e];exact bS _ hm))]
 have q:=λw=>(o.fr a w).1 (bF ha);refine⟨⟨by simp[o.ml],o.nd,λb c=>⟨(o.fr b c).1,by rw[gM (λe=>q (by rw[<-e];exact c))];exact(o.fr b c).2⟩,λb c=>(by
  by_cases e:b=a
  .subst e;exact(r _ rfl).uP
  .rw[gM e];exact o.al b c),λj w g=>?_,o.tb.upd (.inl (o.al a (bF ha)))⟩,⟨aS _,by rw[i];exact jD.refl _,λb c=>gM (λe=>q (by rw[<-e];exact c))⟩⟩
 have m:=(ap.mp h).1;by_cases f:j=k
 .subst f;rw[bG m] at g;cases g;exact⟨a,ha,r _ i⟩
 .rw[bx (bV f)] at g;obtain⟨b,s,v⟩:=o.own j w g;have n:b≠a:=λe=>f (by subst e;have A:=ap.mp ha;have B:=ap.mp s;exact(fg o.nd).mp (B.2.trans A.2.symm))
  refine⟨b,s,?_⟩;rw[i];exact v.mono (aS _) (jD.refl _) (gM n)
theorem R.set(r:R K F α H σ δ M){i:Nat}{d:D}{v:V}(q:Rep K α (ja F α M H) d v):R K F α H (σ.set i (ae v)) (δ.set i (ae d)) M:=by
 have c:=r.len;refine⟨r.ok,by simp[c],λj e h=>?_⟩;by_cases b:j=i
 .subst b;have a:j<δ.length:=by
   rcases Nat.lt_or_ge j _ with x|x
   .exact x
   .rw[cn (by simpa using x)] at h;cases h
  rw[bG a] at h;cases h;exact⟨v,bG (by omega),q⟩
 .rw[bx (bV b)] at h |-;exact r.sl j e h
end
theorem PE.weak(h:PE X e t)(w:∀σ H Q,a σ H Q->t σ H Q):PE X e a:=λcq s σ H Q I q=>h cq s σ H Q I (w σ H Q q)
theorem PT.weak(h:PT X e t)(w:∀σ H Q,a σ H Q->t σ H Q):PT X e a:=λcq s σ H Q I q=>h cq s σ H Q I (w σ H Q q)
theorem PW.weak(h:PW X e t)(w:∀σ H Q,a σ H Q->t σ H Q):PW X e a:=λb cq s σ H Q I q=>h b cq s σ H Q I (w σ H Q q)
theorem PA.weak(h:PA X e t)(w:∀σ H Q,a σ H Q->t σ H Q):PA X e a:=λpos cq s σ H Q I q=>h pos cq s σ H Q I (w σ H Q q)
theorem PS.weak(h:PS X e t)(w:∀D σ H,a D σ H->t D σ H):PS X e a:=λcq s σ H D I q=>h cq s σ H D I (w D σ H q)
theorem yL.weak(h:yL X e t)(w:∀D σ H,a D σ H->t D σ H):yL X e a:=λcq s σ H D I q=>h cq s σ H D I (w D σ H q)
abbrev DK:=D->Ms->Prop
abbrev DE:=oM->Ms->DK->Prop
abbrev DT:=oM->Ms->(Bool->Ms->Prop)->Prop
abbrev DA:=oM->Ms->(List D->Ms->Prop)->Prop
abbrev vK(K:bz)(F α:List aw)(H:Hp)(M:Ms)(Q:VK):DK:=λd c=>∀v a b,Ext F α H M a b c->OK K F a b c->Rep K a (ja F a c b) d v->Q v b
abbrev bK(K:bz)(F α:List aw)(H:Hp)(M:Ms)(Q:Bool->Hp->Prop):Bool->Ms->Prop:=λb c=>∀e a,Ext F α H M e a c->OK K F e a c->Q b a
abbrev aK(K:bz)(F α:List aw)(H:Hp)(M:Ms)(Q:List V->Hp->Prop):List D->Ms->Prop:=λds c=>∀e a b,Ext F α H M a b c->OK K F a b c->gL K a (ja F a c b) ds e->Q e b
def lE (K:bz)(t:DE):TE:=λσ H Q=>∃F α a M,R K F α H σ a M/\t a M (vK K F α H M Q)
def lT (K:bz)(t:DT):TT:=λσ H Q=>∃F α a M,R K F α H σ a M/\t a M (bK K F α H M Q)
def lA (K:bz)(t:DA):TA:=λσ H Q=>∃F α a M,R K F α H σ a M/\t a M (aK K F α H M Q)
structure JE(X:Cx)(e:bE)(t:DE):Prop where
 mono:∀δ M (P Q:DK),(∀d M,P d M->Q d M)->t δ M P->t δ M Q
 p:PE X e (lE X.K t)
structure JT(X:Cx)(e:bE)(t:DT):Prop where
 mono:∀δ M (P Q:Bool->Ms->Prop),(∀d M,P d M->Q d M)->t δ M P->t δ M Q
 p:PT X e (lT X.K t)
structure JW(X:Cx)(e:bE)(t:DT):Prop where
 mono:∀δ M (P Q:Bool->Ms->Prop),(∀d M,P d M->Q d M)->t δ M P->t δ M Q
 p:PW X e (lT X.K t)
structure JA(X:Cx)(es:List bE)(t:DA):Prop where
 mono:∀δ M (P Q:List D->Ms->Prop),(∀d M,P d M->Q d M)->t δ M P->t δ M Q
 p:PA X es (lA X.K t)
section
variable {K:bz} {F α ia:List aw} {H H':Hp} {M M':Ms}
theorem vK.grow(e:Ext F α H M ia H' M'):∀d a,vK K F α H M Q d a->vK K F ia H' M' Q d a:=λd a h v b c e2 f g=>h v b c (e.trans e2) f g
theorem bK.grow(e:Ext F α H M ia H' M'):∀d a,bK K F α H M Q d a->bK K F ia H' M' Q d a:=λd a h b c e2 f=>h b c (e.trans e2) f
theorem vK.now(o:OK K F α H M)(h:vK K F α H M Q d M)(r:Rep K α (ja F α M H) d v):Q v H:=h v α H Ext.refl o r
theorem vK.new(o:OK K F α H M)(a:H p=am)(h:vK K F α H M Q d M)(r:Ext F α H M α (upd H p x) M->Rep K α (ja F α M (upd H p x)) d v):Q v (upd H p x):=
 let⟨b,e'⟩:=o.laid a;h v α _ e' b (r e')
end
abbrev G2:=D->D->Ms->DK->Prop
abbrev GN:=List D->Ms->DK->Prop
def rD (K:bz)(g:G2):R2:=λx y H Q=>∃F α M a b,OK K F α H M/\Rep K α (ja F α M H) a x/\Rep K α (ja F α M H) b y/\g a b M (vK K F α H M Q)
def rDs (K:bz)(g:GN):List V->Hp->VK->Prop:=λxs H Q=>∃F α M ds,OK K F α H M/\gL K α (ja F α M H) ds xs/\g ds M (vK K F α H M Q)
abbrev xw(g:G2):Prop:=∀x y M (P Q:DK),(∀d M,P d M->Q d M)->g x y M P->g x y M Q
abbrev qI(g:GN):Prop:=∀xs M (P Q:DK),(∀d M,P d M->Q d M)->g xs M P->g xs M Q
structure JO(X:Cx)(op:ajc)(g:G2):Prop where
 mono:xw g
 p:sY X (binaryOp op) (rD X.K g)
structure JC(X:Cx)(op:CmpOp)(g:G2):Prop where
 mono:xw g
 p:sY X (compareOp op) (rD X.K g)
structure JX(X:Cx)(g:G2):Prop where
 mono:xw g
 p:IxR X (rD X.K g)
structure JB(X:Cx)(f:ai)(g:GN):Prop where
 mono:qI g
 p:mF X f (rDs X.K g)
abbrev GS:=D->Option Int->Option Int->Ms->DK->Prop
def agE (K:bz)(g:GS):V->Option Int->Option Int->Hp->VK->Prop:=λx lo hi H Q=>∃F α M d,OK K F α H M/\Rep K α (ja F α M H) d x/\g d lo hi M (vK K F α H M Q)
structure JSl(X:Cx)(g:GS):Prop where
 mono:∀x lo hi M (P Q:DK),(∀d M,P d M->Q d M)->g x lo hi M P->g x lo hi M Q
 p:XU X (agE X.K g)
section
variable {X:Cx} {a b c e:bE} {es rest:List bE} {ta tb tc te:DE} {tA Uc:DT} {tt:DA} {pos p p2 p3:eZ} {x:aJ}
def gK (i:Nat):DE:=λf M Q=>match f[i]? with|some (ae d)=>Q d M|_=>False
theorem gY(i:Nat)(f:X.N[i]?=ae x:=by rfl)(g:T7 X.env.scope x:=by first|exact fF rfl|exact eK (fF rfl)|exact eK (eK rfl))(hd:(x==("__debug__":aJ))=aq:=by decide)
(j:(x==("__classdict__":aJ))=aq:=by decide):JE X (.Name x pos) (gK i):=by
 refine⟨λm M P Q h q=>?_,PE.weak (rB f g hd j) λσ H Q h=>?_⟩
 .unfold gK at*;split at q
  .exact h _ _ q
  .exact q
 .obtain⟨F,α,m,M,r,h⟩:=h;unfold gK at h;split at h
  .rename_i d hd;obtain⟨v,e,q⟩:=r.sl i d hd;exact⟨v,e,vK.now r.ok h q⟩
  .exact h.elim
def dC (d:D):DE:=λ_ M Q=>Q d M
theorem j_c(h:PE X e (tC v))(r:∀α H,Rep X.K α H d v):JE X e (dC d):=
 ⟨λf M P Q h q=>h _ _ q,PE.weak h λσ H Q ⟨F,α,f,M,g,h⟩=>vK.now g.ok h (r _ _)⟩
theorem gX{i j}:JE X (.Constant (.int i) j pos) (dC (.int i)):=j_c Ub λ_ _=>iQ
theorem tu{b j}:JE X (.Constant (.bool b) j pos) (dC (.bl b)):=j_c ad5 λ_ _=>iX
theorem Bw{j}:JE X (.Constant .none j pos) (dC .non):=j_c abF λ_ _=>tq
theorem iG{y j}:JE X (.Constant (.str y) j pos) (dC (.str y)):=j_c My λ_ _=>nU
theorem UO(hm:X.mg x=ae u)(r:RelV v u)(f:∀α H,Rep X.K α H d v)(g:Gl X x:=by rfl)(hd:(x==("__debug__":aJ))=aq:=by decide):JE X (.Name x pos) (dC d):=j_c (Ph g hm r hd) f
theorem ph(hm:∃t,X.mg x=ae (.int i t))(f:Gl X x:=by rfl)(hd:(x==("__debug__":aJ))=aq:=by decide):JE X (.Name x pos) (dC (.int i)):=by obtain⟨t,hm⟩:=hm;exact UO (v:=.int i) hm ⟨t,rfl⟩ (λ_ _=>iQ) f hd
theorem lB(hm:X.mg x=ae (.ref C))(f:Gl X x:=by rfl)(hd:(x==("__debug__":aJ))=aq:=by decide):JE X (.Name x pos) (dC (.cls C)):=UO (v:=.ref C) hm rfl (λ_ _=>YN) f hd
theorem xO(hm:X.mg x=am)(f:cb x=ae (.type n))(g:Gl X x:=by rfl)(hn:x≠"__name__":=by decide)(hd:(x==("__debug__":aJ))=aq:=by decide):JE X (.Name x pos) (dC (.ty n)):=
 j_c (Yb (v:=.ty n) g hm f rfl hn hd) λ_ _=>acn
def iq (g:G2)(ta tb:DE):DE:=λf M Q=>ta f M λx M1=>tb f M1 λy M2=>g x y M2 Q
theorem Df(mg:xw g)(ha:JE X a ta)(i:JE X b tb):∀f M (P Q:DK),(∀d M,P d M->Q d M)->iq g ta tb f M P->iq g ta tb f M Q:=
 λf M P Q h q=>ha.mono f _ _ _ (λd M1 q=>i.mono f _ _ _ (λj M2 q=>mg d j M2 P Q h q) q) q
theorem PC(mg:xw g)(ha:JE X a ta)(i:JE X b tb)(h:lE X.K (iq g ta tb) σ H Q):tOp (rD X.K g) (lE X.K ta) (lE X.K tb) σ H Q:=by
 obtain⟨F,α,f,M,r,h⟩:=h;exact⟨F,α,f,M,r,ha.mono f _ _ _ (λj M1 m v n H1 e1 o q=>⟨F,n,f,M1,r.grow e1 o,i.mono f _ _ _ (λs M2 w u y B e2 z A=>
  ⟨F,y,M2,j,s,z,e2.rep q,A,mg _ _ _ _ _ (vK.grow (e1.trans e2)) w⟩) m⟩) h⟩
theorem i6(o:JO X op g)(ha:JE X a ta)(f:JE X b tb):JE X (.BinOp a op b pos) (iq g ta tb):=⟨Df o.mono ha f,PE.weak (aec o.p ha.p f.p) λσ H Q h=>PC o.mono ha f h⟩
theorem Dg(o:JC X op g)(ha:JE X a ta)(f:JE X b tb)(hm:aiG op b=aq:=by rfl):JE X (.Compare a [op] [b] pos) (iq g ta tb):=⟨Df o.mono ha f,PE.weak (Yk o.p ha.p f.p hm) λσ H Q h=>PC o.mono ha f h⟩
theorem jc(o:JX X g)(ha:JE X a ta)(f:JE X b tb)(i:Pp b:=by exactλ_ _=>rfl):JE X (.Subscript a b pos) (iq g ta tb):=⟨Df o.mono ha f,PE.weak (aaT o.p ha.p f.p i) λσ H Q h=>PC o.mono ha f h⟩
def hZ (te:DE):DT:=λf M Q=>te f M λd M1=>match d with|.bl b=>Q b M1|_=>False
theorem xP(h:JE X e te):∀f M (P Q:Bool->Ms->Prop),(∀d M,P d M->Q d M)->hZ te f M P->hZ te f M Q:=λf M P Q w q=>h.mono f _ _ _ (λd M1 q=>by cases d<;>first|exact w _ _ q|exact q) q
theorem iR(h:JE X e te)(i:∀f,ajx e X.env f=(do let v<-f;ai9 e.pos;holding [v] (truthy v)):=by intro _;rfl):JT X e (hZ te):=by
 refine⟨xP h,PT.weak (abG h.p i) λσ H Q q=>?_⟩;obtain⟨F,α,g,M,r,q⟩:=q;refine⟨F,α,g,M,r,h.mono g _ _ _ (λd M1 q v j H1 e1 m n=>?_) q⟩;cases d<;>first|exact q.elim|skip
 exact⟨_,n,q j H1 e1 m⟩
theorem iy(o:JC X op g)(ha:JE X a ta)(f:JE X b tb)(hm:aiG op b=aq:=by rfl):JT X (.Compare a [op] [b] pos) (hZ (iq g ta tb)):=by
 have h:JE X (.Compare a [op] [b] pos) _:=Dg o ha f hm;refine⟨xP h,PT.weak (Yl o.p ha.p f.p hm) λσ H Q q=>?_⟩;obtain⟨F,α,i,M,r,q⟩:=q;refine PC o.mono ha f ⟨F,α,i,M,r,h.mono i _ _ _ (λd M1 q v j H1 e1 m n=>?_) q⟩;cases d<;>first|exact q.elim|skip
 exact⟨_,n,q j H1 e1 m⟩
def pO (t:DT):DT:=λf M Q=>t f M λb M1=>Q (!b) M1
theorem jZ(h:JT X a tA):JT X (.UnaryOp .Not a pos) (pO tA):=
 ⟨λf M P Q w q=>h.mono f _ _ _ (λb M1 q=>w _ _ q) q,PT.weak (abH h.p) λσ H Q ⟨F,α,f,M,r,q⟩=>⟨F,α,f,M,r,q⟩⟩
theorem o9(h:JW X e tA):JT X e tA:=⟨h.mono,h.p.pt⟩
def FC (t u:DT):DT:=λf M Q=>t f M λb M1=>if b=aj then u f M1 Q else Q aq M1
def UP (t u:DT):DT:=λf M Q=>t f M λb M1=>if b=aj then Q aj M1 else u f M1 Q
theorem tz(h:JT X a tA):JW X (.BoolOp .And [a] pos) tA:=⟨h.mono,pw_and1 h.p⟩
theorem tD(h:JT X a tA):JW X (.BoolOp .Or [a] pos) tA:=⟨h.mono,pw_or1 h.p⟩
theorem u5(ha:JT X a tA)(g:JW X (.BoolOp .And (b::rest) pos) Uc):JW X (.BoolOp .And (a::b::rest) pos) (FC tA Uc):=by
 refine⟨λf M P Q w q=>ha.mono f _ _ _ (λb M1 q=>?_) q,PW.weak (pw_and ha.p g.p) λσ H Q q=>?_⟩
 .cases b with
  |true=>exact g.mono f _ _ _ w q
  |false=>exact w _ _ q
 .obtain⟨F,α,f,M,r,q⟩:=q;refine⟨F,α,f,M,r,ha.mono f _ _ _ (λb M1 q h H1 e1 i=>?_) q⟩;cases b with
  |true=>
   exact⟨F,h,f,M1,r.grow e1 i,g.mono f _ _ _ (bK.grow e1) q⟩
  |false=>
   exact q h H1 e1 i
theorem yY(ha:JT X a tA)(g:JW X (.BoolOp .Or (b::rest) pos) Uc):JW X (.BoolOp .Or (a::b::rest) pos) (UP tA Uc):=by
 refine⟨λf M P Q w q=>ha.mono f _ _ _ (λb M1 q=>?_) q,PW.weak (pw_or ha.p g.p) λσ H Q q=>?_⟩
 .cases b with
  |true=>exact w _ _ q
  |false=>exact g.mono f _ _ _ w q
 .obtain⟨F,α,f,M,r,q⟩:=q;refine⟨F,α,f,M,r,ha.mono f _ _ _ (λb M1 q h H1 e1 i=>?_) q⟩;cases b with
  |false=>
   exact⟨F,h,f,M1,r.grow e1 i,g.mono f _ _ _ (bK.grow e1) q⟩
  |true=>
   exact q h H1 e1 i
def Bx (ta tb:DE):DE:=λf M Q=>ta f M λx M1=>match x with|.bl aj=>tb f M1 Q|.bl aq=>Q (.bl aq) M1|_=>False
def aaZ (ta:DE):DE:=λf M Q=>ta f M λx M1=>match x with|.bl b=>Q (.bl (!b)) M1|_=>False
theorem J2{op}(h:JE X a te):JE X (.BoolOp op [a] pos) te:=⟨h.mono,abI h.p⟩
theorem Dh(ha:JE X a ta)(g:JE X (.BoolOp .And (b::rest) pos) tb):JE X (.BoolOp .And (a::b::rest) pos) (Bx ta tb):=by
 refine⟨λf M P Q w q=>ha.mono f _ _ _ (λd M1 q=>?_) q,PE.weak (abJ ha.p g.p) λσ H Q q=>?_⟩
 .cases d<;>first|exact q.elim|skip
  rename_i b;cases b with
  |true=>exact g.mono f _ _ _ w q
  |false=>exact w _ _ q
 .obtain⟨F,α,f,M,r,q⟩:=q;refine⟨F,α,f,M,r,ha.mono f _ _ _ (λd M1 q v h H1 e1 i j=>?_) q⟩;cases d<;>first|exact q.elim|skip
  rename_i b;cases b with
  |true=>
   refine⟨aj,j,?_⟩;exact⟨F,h,f,M1,r.grow e1 i,g.mono f _ _ _ (vK.grow e1) q⟩
  |false=>
   refine⟨aq,j,?_⟩;exact q _ h H1 e1 i iX
theorem aeA(ha:JE X a ta):JE X (.UnaryOp .Not a pos) (aaZ ta):=by
 refine⟨λf M P Q w q=>ha.mono f _ _ _ (λd M1 q=>?_) q,PE.weak (abK ha.p) λσ H Q q=>?_⟩
 .cases d<;>first|exact q.elim|exact w _ _ q
 .obtain⟨F,α,f,M,r,q⟩:=q;refine⟨F,α,f,M,r,ha.mono f _ _ _ (λd M1 q v g H1 e1 h i=>?_) q⟩;cases d<;>first|exact q.elim|skip
  exact⟨_,i,q _ g H1 e1 h iX⟩
def dIf (t:DT)(ta tb:DE):DE:=λf M Q=>t f M λc M1=>if c=aj then ta f M1 Q else tb f M1 Q
theorem aeB(g:JT X c tA)(ha:JE X a ta)(h:JE X b tb):JE X (.IfExp c a b pos) (dIf tA ta tb):=by
 refine⟨λf M P Q w q=>g.mono f _ _ _ (λb M1 q=>?_) q,PE.weak (Ud g.p ha.p h.p) λσ H Q q=>?_⟩
 .cases b with
  |true=>exact ha.mono f _ _ _ w q
  |false=>exact h.mono f _ _ _ w q
 .obtain⟨F,α,f,M,r,q⟩:=q;refine⟨F,α,f,M,r,g.mono f _ _ _ (λb M1 q i H1 e1 j=>?_) q⟩;cases b with
  |true=>
   exact⟨F,i,f,M1,r.grow e1 j,ha.mono f _ _ _ (vK.grow e1) q⟩
  |false=>
   exact⟨F,i,f,M1,r.grow e1 j,h.mono f _ _ _ (vK.grow e1) q⟩
def oO (g i:G2)(ta tb tc:DE):DE:=λf M Q=>ta f M λx M1=>tb f M1 λy M2=>g x y M2 λz h=>match z with|.bl aj=>tc f h λw j=>i y w j Q|.bl aq=>Q (.bl aq) h|_=>False
theorem J3(o:JC X op g)(i:JC X n h)(ha:JE X a ta)(j:JE X b tb)(m:JE X c tc):∀f M (P Q:DK),(∀d M,P d M->Q d M)->oO g h ta tb tc f M P->oO g h ta tb tc f M Q:=
 λf M P Q w q=>ha.mono f _ _ _ (λx M1 q=>j.mono f _ _ _ (λy M2 q=>o.mono _ _ _ _ _ (λz r q=>by
  cases z<;>first|exact q.elim|skip
  rename_i k;cases k with
  |true=>exact m.mono f _ _ _ (λu s q=>i.mono _ _ _ _ _ w q) q
  |false=>exact w _ _ q) q) q) q
theorem Gp(o:JC X op g)(y:JC X Ry j)(ha:JE X a ta)(A:JE X b tb)(B:JE X c tc)(h:lE X.K (oO g j ta tb tc) σ H Q):MD (rD X.K g) (rD X.K j) (lE X.K ta) (lE X.K tb) (lE X.K tc) σ H Q:=by
 obtain⟨F,α,f,M,r,h⟩:=h;refine⟨F,α,f,M,r,ha.mono f _ _ _ (λC M1 E v G H1 e1 I J=>⟨F,G,f,M1,r.grow e1 I,A.mono f _ _ _ (λm M2 L u N H2 e2 O n=>?_) E⟩) h⟩;refine⟨F,N,M2,C,m,O,e2.rep J,n,o.mono _ _ _ _ _ (λd T i w q U e3 s Y=>?_) L⟩;have xx:=(e1.trans e2).trans e3;cases d<;>first|exact i.elim|skip
 rename_i k;refine⟨k,Y,?_⟩;cases k with
 |false=>exact i _ q U xx s iX
 |true=>
  refine⟨F,q,f,T,r.grow xx s,B.mono f _ _ _ (λdc M4 h5 z xi H4 e4 o4 r4=>?_) i⟩;exact⟨F,xi,M4,m,dc,o4,(e3.trans e4).rep n,r4,y.mono _ _ _ _ _ (vK.grow (xx.trans e4)) h5⟩
theorem yZ(o:JC X op g)(f:JC X m n)(ha:JE X a ta)(i:JE X b tb)(j:JE X c tc)(hm:ajr [op,m] [b,c]=aq:=by with_unfolding_all rfl):JE X (.Compare a [op,m] [b,c] pos) (oO g n ta tb tc):=
 ⟨J3 o f ha i j,PE.weak (Uq o.p f.p ha.p i.p j.p hm) λσ H Q h=>Gp o f ha i j h⟩
theorem Dj(o:JC X op g)(f:JC X j s)(ha:JE X a ta)(h:JE X b tb)(i:JE X c tc)(hm:ajr [op,j] [b,c]=aq:=by with_unfolding_all rfl):JT X (.Compare a [op,j] [b,c] pos) (hZ (oO g s ta tb tc)):=by
 have m:JE X (.Compare a _ [b,c] pos) _:=yZ o f ha h i hm;refine⟨xP m,PT.weak (Ur o.p f.p ha.p h.p i.p hm) λσ H Q q=>?_⟩;obtain⟨F,α,n,M,r,q⟩:=q;refine Gp o f ha h i ⟨F,α,n,M,r,m.mono n _ _ _ (λd M1 q v u H1 e1 w y=>?_) q⟩;cases d<;>first|exact q.elim|skip
 exact⟨_,y,q u H1 e1 w⟩
def gR:DA:=λ_ M Q=>Q [] M
def gH (te:DE)(tt:DA):DA:=λf M Q=>te f M λx M1=>tt f M1 λxs M2=>Q (x::xs) M2
theorem gJ:JA X [] gR:=⟨λf M P Q w q=>w _ _ q,PA.weak xJ λσ H Q ⟨F,α,f,M,r,q⟩=>q [] α H Ext.refl r.ok gL.nil⟩
theorem gG(ha:JE X e te)(g:JA X es tt)(h:aP (e::es) X.env=(aq,eval e X.env)::aP es X.env:=by rfl):JA X (e::es) (gH te tt):=by refine⟨λf M P Q w q=>ha.mono f _ _ _ (λx M1 q=>g.mono f _ _ _ (λxs M2 q=>w _ _ q) q) q,PA.weak (qF ha.p g.p h) λσ H Q q=>?_⟩;obtain⟨F,α,f,M,r,q⟩:=q;refine⟨F,α,f,M,r,ha.mono f _ _ _ (λd M1 q v i H1 e1 j m=>⟨F,i,f,M1,r.grow e1 j,g.mono f _ _ _ (λds M2 q y n o e2 s u=>?_) q⟩) q⟩;exact q _ n o (e1.trans e2) s (gL.cons (e2.rep m) u)
theorem kZ{K:bz}{p:aw}(o:OK K F α H M)(g:H p=am)(h:gL K α (ja F α M H) ds f)(e:Ext F α H M α (upd H p (.lst f)) M):Rep K α (ja F α M (upd H p (.lst f))) (.lst ds) (.ref p):=by exact⟨p,f,rfl,by show kX _ _ p=_;rw[kI (o.new g),gS],e.FA h⟩
theorem k7{K:bz}{p:aw}(o:OK K F α H M)(g:H p=am)(h:gL K α (ja F α M H) ds f)(e:Ext F α H M α (upd H p (.tup f)) M):Rep K α (ja F α M (upd H p (.tup f))) (.tup ds) (.ref p):=by exact⟨p,f,rfl,.inl (.inl (by show kX _ _ p=_;rw[kI (o.new g),gS])),e.FA h⟩
def nA (tt:DA):DE:=λf M Q=>tt f M λds M1=>ds.length<=aE/\Q (.tup ds) M1
theorem kJ{x1}(h:JA X es tt):JE X (.Tuple es x1 pos) (nA tt):=by refine⟨λf M P Q w q=>h.mono f _ _ _ (λds M1 q=>⟨q.1,w _ _ q.2⟩) q,PE.weak (ab1 h.p) λσ H Q q=>?_⟩;obtain⟨F,α,f,M,r,q⟩:=q;refine⟨F,α,f,M,r,h.mono f _ _ _ (λds M1 q m n H1 e1 g i=>?_) q⟩;exact⟨by rw[<-gL.length ds m i];exact q.1,λp j=>vK.new g j (vK.grow e1 _ _ q.2) (k7 g j i)⟩
def iS (g:GN)(tt:DA):DE:=λf M Q=>tt f M λds M1=>g ds M1 Q
theorem Dk(m:qI g)(ha:JA X es tt):∀f M (P Q:DK),(∀d M,P d M->Q d M)->iS g tt f M P->iS g tt f M Q:=λf M P Q w q=>ha.mono f _ _ _ (λds M1 q=>m _ _ _ _ w q) q
theorem UQ(o:JB X f g)(ha:JA X es tt)(h:lE X.K (iS g tt) σ H Q):tCB (rDs X.K g) (lA X.K tt) σ H Q:=by obtain⟨F,α,i,M,r,h⟩:=h;exact⟨F,α,i,M,r,ha.mono i _ _ _ (λds M1 q s j H1 e1 m n=>⟨F,j,M1,ds,m,n,o.mono _ _ _ _ (vK.grow e1) q⟩) h⟩
theorem pP{id:String}(o:JB X (.builtin id) g)(hm:X.mg x=am)(f:cb x=ae (.builtin id))(ha:JA X (e::es) tt)(i:Gl X x:=by rfl)(hn:x≠"__name__":=by decide)(j:(x==("__debug__":aJ))=aq:=by decide)
(m:aP (e::es) X.env=(aq,eval e X.env)::aP es X.env:=by rfl)(n:(c9 pos (aP es X.env)).any (·.1)=aq:=by rfl):JE X (.Call (.Name x p) (e::es) [] pos) (iS g tt):=
 ⟨Dk o.mono ha,PE.weak (yP o.p i hm f ha.p hn j m n) λσ H Q h=>UQ o ha h⟩
theorem j_t(o:JB X (.type T) g)(hm:X.mg x=am)(f:cb x=ae (.type T))(ha:JA X (e::es) tt)(i:Gl X x:=by rfl)(hn:x≠"__name__":=by decide)(j:(x==("__debug__":aJ))=aq:=by decide)
(m:aP (e::es) X.env=(aq,eval e X.env)::aP es X.env:=by rfl)(n:(c9 pos (aP es X.env)).any (·.1)=aq:=by rfl):JE X (.Call (.Name x p) (e::es) [] pos) (iS g tt):=
 ⟨Dk o.mono ha,PE.weak (rZ o.p i hm f ha.p hn j m n) λσ H Q h=>UQ o ha h⟩
def lY (K:bz)(g:GN):Sp:=λf H Q _=>∃F α M ds,OK K F α H M/\gL K α (ja F α M H) ds f/\g ds M (vK K F α H M Q)
structure iu(P:aQ)(w:bw)(K:bz)(mg:aJ->Option ai)(cv:av)(k:Nat)(x:aJ)(ps:List aJ)(g:GN):Prop where
 mono:qI g
 p:oZ P w K mg cv k x ps (lY K g)
theorem iu.up{K:bz}(h:iu P w K mg cv j x i g)(f:j<=k):iu P w K mg cv k x i g:=⟨h.mono,h.p.mono f⟩
theorem jj(h:iu X.prog X.w X.K X.mg X.cv k x y g)(i:iV k X.A)(ha:JA X (e::es) tt)(j:Gl X x:=by rfl)(m:(x==("__debug__":aJ))=aq:=by decide)
(n:aP (e::es) X.env=(aq,eval e X.env)::aP es X.env:=by rfl)(o:(c9 pos (aP es X.env)).any (·.1)=aq:=by rfl):JE X (.Call (.Name x p) (e::es) [] pos) (iS g tt):=by refine⟨Dk h.mono ha,PE.weak (aez h.p i ha.p j m n o) λσ H Q q=>?_⟩;obtain⟨F,α,f,M,r,q⟩:=q;refine⟨F,α,f,M,r,ha.mono f _ _ _ (λds M1 q z s H1 e1 u v=>?_) q⟩;show lY X.K g _ H1 Q E0;rw[ba];exact⟨F,s,M1,ds,u,v,h.mono _ _ _ _ (vK.grow e1) q⟩
end
end L3
namespace L2
section
variable {X:Cx} {cq:List (aw×cE)} {σ:St} {H:Hp} {s:ao} {a:aw} {hU:List (Key×V)}
theorem Inv.ghost(I:Inv X cq σ H s)(ha:H a=ae w)(i:∀xs,w≠.tup xs)(y:∀x,w≠.own x)(A:∀g,w≠.yJ g)(B:∀o u,X.ik a≠ae (.qD o u))
(ok:jd X.prog X.w (upd H a w') s.heap a w'):Inv X cq σ (upd H a w') s:=by
 have f:∀b,H b=am->b≠a:=λb h z=>by rw[z,ha] at h;cases h
 refine⟨I.ok,I.os,I.bare,⟨I.cv.keep,I.cv.slot,λb o q n C=>?_,I.cv.there,λb xs q=>?_,λb o u q=>?_,λb g q=>?_⟩,I.loc,I.cell,?_,λx c e=>?_,λp E=>?_,λb ob q=>?_,I.len⟩
 .have:=I.cv.free b o q n C;rw[gM (f b this)];exact this
 .have:=I.cv.uO b xs q;rw[gM λz=>by rw[z,ha] at this;exact i xs (bn this)];exact this
 .have:=I.cv.rA b o u q;rw[gM λz=>B o u (by rw[<-z];exact q)];exact this
 .obtain⟨m,e⟩:=I.cv.sR b g q;exact⟨m,by rw[gM λz=>by rw[z,ha] at e;exact A _ (bn e)];exact e⟩
 .rw[gM (f _ I.free)];exact I.free
 .rw[gM (f _ (I.lZ x c e))];exact I.lZ x c e
 .obtain⟨G,j,J⟩:=I.pin p E;exact⟨G,by rw[gM (f _ j)];exact j,J⟩
 .by_cases z:b=a
  .subst z;rw[gS] at q;cases q;exact ok
  .rw[gM z] at q;refine(I.iz b ob q).sQ (λc v _ r=>r) (λc r=>?_) (λc xs r=>?_)
   .rw[gM λz=>by rw[z,ha] at r;exact y _ (bn r)];exact r
   .rw[gM λz=>by rw[z,ha] at r;exact i _ (bn r)];exact r
theorem Inv.freeze(I:Inv X cq σ H s)(ha:H a=ae (.dK hU)):∃o,s.heap.get? a=ae o/\Inv X cq σ (upd H a (.qD o (.dK hU))) s/\∀o u,X.ik a≠ae (.qD o u):=by
 have b:∀o u,X.ik a≠ae (.qD o u):=λo u z=>by have:=I.cv.rA a o u z;rw[ha] at this;cases this
 obtain⟨z,hd,f,r,o,es,g,e,c⟩:=(I.iz a _ ha);exact⟨o,e,I.ghost ha (λ_ z=>by cases z) (λ_ z=>by cases z) (λ_ z=>by cases z) b ⟨e,z,hd,f,r,o,es,g,e,c⟩,b⟩
theorem Inv.B7(I:Inv X cq σ H s)(ha:H a=ae (.qD o (.dK hU)))(b:∀o u,X.ik a≠ae (.qD o u)):Inv X cq σ (upd H a (.dK hU)) s:=by obtain⟨_,z,hd,f,r,ob,es,g,e,c⟩:=(I.iz a _ ha);exact I.ghost ha (λ_ z=>by cases z) (λ_ z=>by cases z) (λ_ z=>by cases z) b ⟨z,hd,f,r,ob,es,g,e,c⟩
def TH (X:Cx)(P:Hp->Prop)(H:Hp):Prop:=P H\/∃a o hU,H a=ae (.qD o (.dK hU))/\(∀o u,X.ik a≠ae (.qD o u))/\P (upd H a (.dK hU))
theorem TH.get(I:Inv X cq σ H s)(h:TH X P H):∃b,Inv X cq σ b s/\P b:=by
 rcases h with h|⟨a,o,hU,e,n,h⟩
 .exact⟨H,I,h⟩
 .exact⟨_,I.B7 e n,h⟩
noncomputable def thD(X:Cx)(D:Ends):Ends:=⟨λσ=>TH X (D.nx σ),λv=>TH X (D.rt v),λσ=>TH X (D.bk σ),λσ=>TH X (D.ct σ)⟩
theorem Dl{st:cc}(h:PS X st t)(w:∀D σ H,n D σ H->t (thD X D) σ H):PS X st n:=λcq s σ H D I q=>
 jQ (h cq s σ H _ I (w D σ H q)) λf o j=>by
  cases f with
  |next=>obtain⟨b,m,c,q⟩:=j;obtain⟨e,g,i⟩:=TH.get c q;exact⟨b,e,g,i⟩
  |brk=>obtain⟨b,m,c,q⟩:=j;obtain⟨e,g,i⟩:=TH.get c q;exact⟨b,e,g,i⟩
  |cont=>obtain⟨b,m,c,q⟩:=j;obtain⟨e,g,i⟩:=TH.get c q;exact⟨b,e,g,i⟩
  |ret u=>obtain⟨v,b,m,c,r,q⟩:=j;obtain⟨e,g,i⟩:=TH.get c q;exact⟨v,b,e,g,r,i⟩
theorem UR(h:PE X e t)(w:∀σ H Q,b σ H Q->t σ H (λv=>TH X (Q v))):PE X e b:=λcq s σ H Q I q=>
 jQ (h cq s σ H _ I (w σ H Q q)) λu j ⟨v,m,c,r,q⟩=>by obtain⟨f,g,i⟩:=TH.get c q;exact⟨v,f,g,r,i⟩
end
end L2
namespace L3
open L2
def YO (H c:Hp):Prop:=∀b o,H b=ae o->c b=ae o\/∃a,(o=.dK a\/∃ob,o=.qD ob (.dK a))/\Rd c b (.dK a)
section
variable {K:bz} {H H':Hp} {a:aw}
theorem Dm(e:YO H H')(h:H a=ae u)(c:∀b,u≠.dK b)(f:∀ob b,u≠.qD ob (.dK b)):H' a=ae u:=by
 rcases e a u h with q|⟨b,rfl|⟨ob,rfl⟩,_⟩
 .exact q
 .exact absurd rfl (c b)
 .exact absurd rfl (f ob b)
theorem US(e:YO H H')(h:Rd H a u)(c:∀b,u≠.dK b)(f:∀ob b,u≠.qD ob (.dK b)):Rd H' a u:=by
 rcases h with h|⟨o,h⟩
 .exact .inl (Dm e h c f)
 .exact .inr ⟨o,Dm e h (λ_ z=>by cases z) λ_ b z=>by cases z;exact c b rfl⟩
theorem aco(e:YO H H')(h:Rd H a (.dK b)):Rd H' a (.dK b):=by
 rcases h with h|⟨o,h⟩
 .rcases e a _ h with q|⟨l,z|⟨ob,z⟩,q⟩
  .exact .inl q
  .cases z;exact q
  .cases z
 .rcases e a _ h with q|⟨l,z|⟨ob,z⟩,q⟩
  .exact .inr ⟨o,q⟩
  .cases z
  .cases z;exact q
theorem UT(e:YO H H')(h:xr K H a xs):xr K H' a xs:=by
 rcases h with h|h
 .exact .inl (US e h (λ_ z=>by cases z) λ_ _ z=>by cases z)
 .exact .inr h
theorem UU(e:YO H H')(h:mo K H a xs):mo K H' a xs:=by
 rcases h with h|h
 .exact .inl (US e h (λ_ z=>by cases z) λ_ _ z=>by cases z)
 .exact .inr h
end
mutual
theorem Rep.alt {K:bz} {α:List aw} {H c:Hp} (e:YO H c):∀(d:D) (v:V),Rep K α H d v->Rep K α c d v
 |.non,v,h=>by unfold Rep at h |-;exact h
 |.bl _,v,h=>by unfold Rep at h |-;exact h
 |.int _,v,h=>by unfold Rep at h |-;exact h
 |.str _,v,h=>by unfold Rep at h |-;exact h
 |.ty _,v,h=>by unfold Rep at h |-;exact h
 |.tup ds,v,h=>by unfold Rep at h |-;obtain⟨a,b,r,q,z⟩:=h;exact⟨a,b,r,UT e q,gL.alt e ds b z⟩
 |.lst ds,v,h=>by unfold Rep at h |-;obtain⟨a,b,r,q,z⟩:=h;exact⟨a,b,r,Dm e q (λ_ z=>by cases z) (λ_ _ z=>by cases z),gL.alt e ds b z⟩
 |.qH ns,v,h=>by unfold Rep at h |-;obtain⟨a,r,q⟩:=h;exact⟨a,r,UU e q⟩
 |.jf g ds,v,h=>by unfold Rep at h |-;obtain⟨a,b,r,q,l,z⟩:=h;exact⟨a,b,r,aco e q,l,gL.alt e ds b z⟩
 |.ins C ns ds,v,h=>by unfold Rep at h |-;obtain⟨a,f,b,r,q,l,z⟩:=h;exact⟨a,f,b,r,Dm e q (λ_ z=>by cases z) (λ_ _ z=>by cases z),l,gL.alt e ds b z⟩
 |.exc C ns ds,v,h=>by unfold Rep at h |-;obtain⟨a,b,r,q,l,z⟩:=h;exact⟨a,b,r,Dm e q (λ_ z=>by cases z) (λ_ _ z=>by cases z),l,gL.alt e ds b z⟩
 |.loc k,v,h=>by unfold Rep at h |-;exact h
 |.cls _,v,h=>by unfold Rep at h |-;exact h
theorem gL.alt {K:bz} {α:List aw} {H c:Hp} (e:YO H c):∀(ds:List D) (b:List V),gL K α H ds b->gL K α c ds b
 |[],b,h=>by unfold gL at h |-;exact h
 |d::ds,b,h=>by unfold gL at h |-;obtain⟨v,r,q,z,y⟩:=h;exact⟨v,r,q,Rep.alt e d v z,gL.alt e ds r y⟩
end
section
variable {K:bz} {F α:List aw} {H:Hp} {M:Ms} {a:aw} {hU:List (Key×V)} {w w':HO}
def Two (hU:List (Key×V))(w:HO):Prop:=w=.dK hU\/∃ob,w=.qD ob (.dK hU)
theorem Two.uP(t:Two hU w):uP (ae w)=ae w:=by rcases t with rfl|⟨ob,rfl⟩<;>rfl
theorem HD(ha:H a=ae w)(t:Two hU w)(c:Two hU w'):YO (kX A H) (kX A (upd H a w')):=λb o e=>by
 obtain⟨n,q,v⟩:=pN e;by_cases z:b=a
 .subst z;rw[ha] at q;cases q;refine .inr ⟨hU,t,?_⟩;have g:kX A (upd H b w') b=ae w':=jK n gS c.uP;rcases c with rfl|⟨ob,rfl⟩
  .exact .inl g
  .exact .inr ⟨ob,g⟩
 .exact .inl (jK n (by rw[gM z];exact q) v)
theorem OK.two(o:OK K F α H M)(ha:H a=ae w)(na:a∉lv α M++F)(t:Two hU w)(i:Two hU w'):OK K F α (upd H a w') M:=by
 refine⟨o.ml,o.nd,λb f=>⟨(o.fr b f).1,?_⟩,λb f=>?_,λk x j=>?_,o.tb.upd (.inl ?_)⟩
 .rw[gM λz=>na (bO _ (by rw[<-z];exact f))];exact(o.fr b f).2
 .by_cases z:b=a
  .rw[z,gS,i.uP];exactλz=>by cases z
  .rw[gM z];exact o.al b f
 .obtain⟨b,e,r⟩:=o.own k x j;have h:b≠a:=λz=>na (bS _ (by rw[<-z];exact nz.mpr ⟨k,x,e,j⟩));refine⟨b,e,?_⟩;have al:YO (ja F α M H) _:=HD ha t i;cases x with
  |lst ds=>obtain⟨c,q,r⟩:=r;exact⟨c,by rw[gM h];exact q,gL.alt al _ _ r⟩
  |jf m ds=>obtain⟨c,q,l,r⟩:=r;exact⟨c,by rw[gM h];exact q,l,gL.alt al _ _ r⟩
  |ins C ns ds=>obtain⟨n,c,q,l,r⟩:=r;exact⟨n,c,by rw[gM h];exact q,l,gL.alt al _ _ r⟩
  |fz k p m ds=>obtain⟨g,c,q,l,r⟩:=r;exact⟨g,c,by rw[gM h];exact q,l,gL.alt al _ _ r⟩
 .rw[ha,t.uP];exactλz=>by cases z
theorem Ext.B7{ob:cE}(ha:H a=ae (.dK hU))(na:a∉lv α M++F)(e:Ext F α (upd H a (.qD ob (.dK hU))) M c f h):
  f a=ae (.qD ob (.dK hU))/\a∉lv c h++F/\Ext F α H M c (upd f a (.dK hU)) h:=by
 have g:=e.same a _ (jK na gS rfl);obtain⟨i,p⟩:=iB g;refine⟨p,i,e.pre,λb o q=>?_,λb j=>?_⟩
 .obtain⟨n,q,v⟩:=pN q;by_cases z:b=a
  .subst z;rw[ha] at q;cases q;exact jK i gS rfl
  .have:=e.same b o (jK n (by rw[gM z];exact q) v);obtain⟨r,s⟩:=iB this;exact jK r (by rw[gM z];exact s) v
 .have m:b≠a:=λz=>na (bO _ (by rw[<-z];exact j));rw[gM m,e.fr b j,gM m]
end
noncomputable def er(p:aw)(H:Hp):Hp:=λb=>if b=p then am else H b
structure M0(X:Cx)(F il:List aw)(H1 Hf:Hp)(M1:Ms)(T:Hp->Hp):Prop where
 ok:OK X.K F il Hf M1
 rep:∀d v,Rep X.K il (ja F il M1 H1) d v->Rep X.K il (ja F il M1 Hf) d v
 e:∀ia H' M',Ext F il Hf M1 ia H' M'->OK X.K F ia H' M'->Ext F il H1 M1 ia (T H') M'/\OK X.K F ia (T H') M'/\∀d v,Rep X.K ia (ja F ia M' H') d v->Rep X.K ia (ja F ia M' (T H')) d v
 h:∀ia H' M' (P:Hp->Prop),Ext F il Hf M1 ia H' M'->P (T H')->TH X P H'
 c:∀p H' x,Hf p=am->H' p=ae x->upd (T (er p H')) p x=T H'
 n:∀p H',Hf p=am->H' p=am->T H' p=am
 k:∀ia H' M' b φ,Ext F il Hf M1 ia H' M'->H' b=ae (.ext φ)->T H' b=ae (.ext φ)
theorem gL.imp{K:bz}(f:∀d v,Rep K α H d v->Rep K α b d v):∀(ds:List D) (a:List V),gL K α H ds a->gL K α b ds a
 |[],a,h=>by exact h
 |d::ds,a,h=>by obtain⟨v,r,q,z,y⟩:=h;exact⟨v,r,q,f d v z,gL.imp f ds r y⟩
section
variable {X:Cx} {F il:List aw} {H1 Hf:Hp} {M1:Ms} {T:Hp->Hp}
theorem M0.refl(o:OK X.K F il H1 M1):M0 X F il H1 H1 M1 id:=
 ⟨o,λ_ _ r=>r,λ_ _ _ e o=>⟨e,o,λ_ _ r=>r⟩,λ_ _ _ _ _ p=>.inl p,λp a x _ h=>by
  funext b;show upd (er p a) p x b=a b;by_cases z:b=p
  .rw[z,gS,h]
  .rw[gM z];unfold er;rw[if_neg z],λ_ _ _ h=>h,λ_ _ _ _ _ _ h=>h⟩
theorem M0.rs(z:M0 X F il H1 Hf M1 T)(r:R X.K F il H1 σ a M1):R X.K F il Hf σ a M1:=⟨z.ok,r.len,λi d q=>by obtain⟨v,b,c⟩:=r.sl i d q;exact⟨v,b,z.rep d v c⟩⟩
theorem M0.rt{c:Hp}{h:oM}(z:M0 X F il H1 Hf M1 T)(e:Ext F il Hf M1 b c f)(a:R X.K F b c g h f):R X.K F b (T c) g h f:=by
 obtain⟨_,j,m⟩:=z.e _ _ _ e a.ok;exact⟨j,a.len,λi d q=>by obtain⟨v,n,o⟩:=a.sl i d q;exact⟨v,n,m d v o⟩⟩
theorem M0.dict(o:OK X.K F il H1 M1)(ha:H1 a=ae (.dK i))(na:a∉lv il M1++F)(s:∀o u,X.ik a≠ae (.qD o u)):
  M0 X F il H1 (upd H1 a (.qD ob (.dK i))) M1 (λc=>upd c a (.dK i)):=by
 have t:Two i _:=.inl rfl;have j:Two i _:=.inr ⟨ob,rfl⟩;refine⟨o.two ha na t j,λd v r=>Rep.alt (HD ha t j) d v r,λn c q e o=>?_,λn c q P e p=>?_,λp c x g w=>?_,λp c g hn=>?_,λn c q b E e h=>?_⟩
 .obtain⟨f,A,B⟩:=Ext.B7 ha na e;exact⟨B,o.two f A j t,λd v C=>Rep.alt (HD f j t) d v C⟩
 .obtain⟨f,_,_⟩:=Ext.B7 ha na e;exact .inr ⟨a,ob,_,f,s,p⟩
 .have m:p≠a:=λz=>by rw[z,gS] at g;cases g
  funext b;by_cases z:b=p
  .rw[z,gS,gM m];exact w.symm
  .rw[gM z];by_cases y:b=a
   .rw[y,gS,gS]
   .rw[gM y,gM y];unfold er;rw[if_neg z]
 .rw[gM λz=>by rw[z,gS] at g;cases g];exact hn
 .obtain⟨f,_,_⟩:=Ext.B7 ha na e;rw[gM λz=>by rw[z,f] at h;cases h];exact h
end
def agF (K:bz)(α:List aw)(c:Hp):OD->HO->Prop
 |.lst ds,b=>∃a,b=.lst a/\gL K α c ds a
 |.jf e ds,b=>∃a,b=.dK (e.zip a)/\e.length=ds.length/\gL K α c ds a
 |.ins _ _ _,_=>False
 |.fz _ _ _ _,_=>False
noncomputable def OD.toD:OD->D
 |.lst ds=>.lst ds
 |.jf a ds=>.jf a ds
 |.ins C ns ds=>.ins C ns ds
 |.fz k _ _ _=>.loc k
abbrev DF:=oM->Ms->(OD->Ms->Prop)->Prop
abbrev fK(K:bz)(F α:List aw)(H:Hp)(M:Ms)(Q:VK):OD->Ms->Prop:=λo M1=>∀p b a H1,Ext F α H M a H1 M1->OK K F a H1 M1->H1 p=am->agF K a (ja F a M1 H1) o b->Q (.ref p) (upd H1 p b)
def lF (K:bz)(t:DF):TE:=λσ H Q=>∃F α a M,R K F α H σ a M/\t a M (fK K F α H M Q)
structure JF(X:Cx)(e:bE)(t:DF):Prop where
 mono:∀δ M (P Q:OD->Ms->Prop),(∀d M,P d M->Q d M)->t δ M P->t δ M Q
 p:PE X e (lF X.K t)
section
variable {K:bz} {F α ia:List aw} {H H':Hp} {M M':Ms}
theorem fK.grow(e:Ext F α H M ia H' M'):∀d a,fK K F α H M Q d a->fK K F ia H' M' Q d a:=λd a h p b c f e2 g i j=>h p b c f (e.trans e2) g i j
theorem fK.qD{M1:Ms}(h:vK K F α H M Q o.toD M1):fK K F α H M Q o M1:=by
 intro p i j H1 e1 b c a;have q:=vK.grow e1 _ _ h;refine vK.new b c q λe=>?_;cases o with
 |lst ds=>obtain⟨f,rfl,r⟩:=a;exact kZ b c r e
 |jf g ds=>
  obtain⟨f,rfl,l,r⟩:=a;exact⟨p,f,rfl,.inl (by show kX _ _ p=_;rw[kI (b.new c),gS]),l,e.FA r⟩
 |ins C ns ds=>exact a.elim
 |fz k m g ds=>exact a.elim
theorem fK.own{M1:Ms}(h:vK K F α H M Q (.loc M1.length) (M1++[ae o])):fK K F α H M Q o M1:=by
 intro p f m H1 e1 c a b;have g:=c.De (x:=o) a (Dc (o:=f) a);obtain⟨i,e2⟩:=c.enter (x:=o) (H':=upd H1 p f) a (Dc a) (by
  cases o with
  |lst ds=>obtain⟨e,rfl,r⟩:=b;exact⟨e,gS,gL.mono (cZ _ _) g _ _ r⟩
  |jf j ds=>obtain⟨e,rfl,l,r⟩:=b;exact⟨e,gS,l,gL.mono (cZ _ _) g _ _ r⟩
  |ins C ns ds=>exact b.elim
  |fz k n j ds=>exact b.elim)
 refine h _ _ _ (e1.trans e2) i ?_;exact⟨p,by rw[<-c.ml];simp,rfl⟩
end
section
variable {X:Cx} {a b c e:bE} {es rest:List bE} {ta tb tc te:DE} {tA Uc:DT} {tt:DA} {pos p p2 p3:eZ} {x:aJ} {tf:DF}
def j5 (t:DF):DE:=λf M Q=>t f M λo M1=>Q o.toD M1
def rJ (t:DF):DE:=λf M Q=>t f M λo M1=>Q (.loc M1.length) (M1++[ae o])
theorem jg(h:JF X e tf):JE X e (j5 tf):=⟨λf M P Q w q=>h.mono f _ _ _ (λo M1 q=>w _ _ q) q,PE.weak h.p λσ H Q ⟨F,α,f,M,r,q⟩=>⟨F,α,f,M,r,h.mono f _ _ _ (λo M1 q=>fK.qD q) q⟩⟩
theorem mO(h:JF X e tf):JE X e (rJ tf):=⟨λf M P Q w q=>h.mono f _ _ _ (λo M1 q=>w _ _ q) q,PE.weak h.p λσ H Q ⟨F,α,f,M,r,q⟩=>⟨F,α,f,M,r,h.mono f _ _ _ (λo M1 q=>fK.own q) q⟩⟩
def qB (tt:DA):DF:=λf M Q=>tt f M λds M1=>ds.length<=aE/\Q (.lst ds) M1
theorem j0(h:JA X es tt):JF X (.List es pos) (qB tt):=by refine⟨λf M P Q w q=>h.mono f _ _ _ (λds M1 q=>⟨q.1,w _ _ q.2⟩) q,PE.weak (ab2 h.p) λσ H Q q=>?_⟩;obtain⟨F,α,f,M,r,q⟩:=q;refine⟨F,α,f,M,r,h.mono f _ _ _ (λds M1 q g j H1 e1 m i=>?_) q⟩;exact⟨by rw[<-gL.length ds g i];exact q.1,λp n=>q.2 p _ j H1 e1 m n ⟨g,rfl,i⟩⟩
def Av:DF:=λf M Q=>Q (.jf [] []) M
theorem y0:JF X (.Dict [] [] pos) Av:=
 ⟨λf M P Q w q=>w _ _ q,PE.weak UB λσ H Q ⟨F,α,f,M,r,q⟩=>λp g=>q p _ α H Ext.refl r.ok g ⟨[],rfl,rfl,gL.nil⟩⟩
end
structure om where
 nx:oM->Ms->Prop
 rt:DK
 bk:oM->Ms->Prop
 ct:oM->Ms->Prop
abbrev DS:=om->oM->Ms->Prop
structure om.le(P Q:om):Prop where
 nx:∀δ M,P.nx δ M->Q.nx δ M
 rt:∀d M,P.rt d M->Q.rt d M
 bk:∀δ M,P.bk δ M->Q.bk δ M
 ct:∀δ M,P.ct δ M->Q.ct δ M
theorem om.le.refl(P:om):P.le P:=⟨λ_ _ h=>h,λ_ _ h=>h,λ_ _ h=>h,λ_ _ h=>h⟩
abbrev sK(K:bz)(F α:List aw)(H:Hp)(M:Ms)(Q:L2.St->Hp->Prop):oM->Ms->Prop:=λf b=>∀c e a,Ext F α H M e a b->R K F e a c f b->Q c a
noncomputable def uI(K:bz)(F α:List aw)(H:Hp)(M:Ms)(E:Ends):om:=⟨sK K F α H M E.nx,vK K F α H M E.rt,sK K F α H M E.bk,sK K F α H M E.ct⟩
def lS (K:bz)(t:DS):TS:=λE σ H=>∃F α a M,R K F α H σ a M/\t (uI K F α H M E) a M
section
variable {K:bz} {F α ia:List aw} {H H':Hp} {M M':Ms}
theorem sK.grow(e:Ext F α H M ia H' M'):∀d a,sK K F α H M Q d a->sK K F ia H' M' Q d a:=λd a h v b c e2 f=>h v b c (e.trans e2) f
theorem uI.grow(e:Ext F α H M ia H' M'):(uI K F α H M E).le (uI K F ia H' M' E):=⟨sK.grow e,vK.grow e,sK.grow e,sK.grow e⟩
end
structure JS(X:Cx)(st:cc)(t:DS):Prop where
 mono:∀(P Q:om) δ M,P.le Q->t P δ M->t Q δ M
 p:PS X st (lS X.K t)
structure FD(X:Cx)(st:List cc)(t:DS):Prop where
 mono:∀(P Q:om) δ M,P.le Q->t P δ M->t Q δ M
 p:yL X st (lS X.K t)
section
variable {X:Cx} {c e:bE} {te:DE} {tA:DT} {t u:DS} {pos p p2:eZ} {x:aJ} {st:cc} {XW as bs:List cc}
def iD:DS:=λE a M=>E.nx a M
def ib (t u:DS):DS:=λE a M=>t {E with nx:=u E} a M
theorem ij:FD X [] iD:=⟨λP Q a M w q=>w.nx _ _ q,yL.weak Yd λE σ H ⟨F,α,a,M,r,q⟩=>q σ α H Ext.refl r⟩
theorem gN(h:JS X st t):FD X [st] t:=⟨h.mono,Ht h.p⟩
theorem gO(a:JS X st t)(b:FD X XW u):FD X (st::XW) (ib t u):=by refine⟨λP Q f M w q=>a.mono {P with nx:=u P} _ _ _ ⟨λf M q=>b.mono _ _ _ _ w q,w.rt,w.bk,w.ct⟩ q,yL.weak (yM a.p b.p) λE σ H q=>?_⟩;obtain⟨F,α,f,M,r,q⟩:=q;refine⟨F,α,f,M,r,a.mono {uI X.K F α H M E with nx:=u _} _ _ _ ⟨λg M1 q h i H1 e1 j=>⟨F,i,g,M1,j,b.mono _ _ _ _ (uI.grow e1) q⟩,λ_ _ q=>q,λ_ _ q=>q,λ_ _ q=>q⟩ q⟩
def iA (te:DE):DS:=λE a M=>te a M E.rt
theorem g8(b:JE X e te):JS X (.Return (ae e) pos) (iA te):=⟨λP Q a M w q=>b.mono a _ _ _ w.rt q,PS.weak (Uf b.p) λE σ H ⟨F,α,a,M,r,q⟩=>⟨F,α,a,M,r,q⟩⟩
def tE:DS:=λ_ _ _=>False
theorem r9:JS X st tE:=⟨λP Q a M w q=>q,PS.weak Ug λE σ H ⟨F,α,a,M,r,q⟩=>q⟩
def i7 (c:DT)(t u:DS):DS:=λE a M=>c a M λb M1=>if b=aj then t E a M1 else u E a M1
theorem iH(f:JT X c tA)(ha:FD X as t)(g:FD X bs u):JS X (.If c as bs pos) (i7 tA t u):=by
 refine⟨λP Q a M w q=>f.mono a _ _ _ (λb M1 q=>?_) q,PS.weak (aaL f.p ha.p g.p) λE σ H q=>?_⟩
 .cases b with
  |true=>exact ha.mono _ _ _ _ w q
  |false=>exact g.mono _ _ _ _ w q
 .obtain⟨F,α,a,M,r,q⟩:=q;refine⟨F,α,a,M,r,f.mono a _ _ _ (λb M1 q h H1 e1 i=>?_) q⟩;cases b with
  |true=>
   exact⟨F,h,a,M1,r.grow e1 i,ha.mono _ _ _ _ (uI.grow e1) q⟩
  |false=>
   exact⟨F,h,a,M1,r.grow e1 i,g.mono _ _ _ _ (uI.grow e1) q⟩
def mP (te:DE):DS:=λE a M=>te a M λ_ M1=>E.nx a M1
theorem kO(b:JE X e te)(f:dB e am pos.line X.env=pure aq:=by rfl):JS X (.Expr e pos) (mP te):=by refine⟨λP Q a M w q=>b.mono a _ _ _ (λd M1 q=>w.nx _ _ q) q,PS.weak (Hu b.p f) λE σ H q=>?_⟩;obtain⟨F,α,a,M,r,q⟩:=q;exact⟨F,α,a,M,r,b.mono a _ _ _ (λd M1 q v g H1 e1 h i=>q σ g H1 e1 (r.grow e1 h)) q⟩
def iO (i:Nat)(te:DE):DS:=λE a M=>te a M λd M1=>E.nx (a.set i (ae d)) M1
theorem ii(i:Nat)(f:X.N.Nodup)(b:JE X e te)(hi:X.N[i]?=ae x:=by rfl)(g:Loc X.env.scope x:=by first|exact fF rfl|exact eK rfl)(h:dB e (ae (.Name x p)) pos.line X.env=pure aq:=by rfl)
(j:X.fn x=aj\/X.env.scope.names.lookup x=ae .local:=by first|exact .inl rfl|exact .inr rfl|assumption):JS X (.Assign [.Name x p] e pos) (iO i te):=by refine⟨λP Q a M w q=>b.mono a _ _ _ (λd M1 q=>w.nx _ _ q) q,PS.weak (Uj f hi g b.p h j) λE σ H q=>?_⟩;obtain⟨F,α,a,M,r,q⟩:=q;exact⟨F,α,a,M,r,b.mono a _ _ _ (λd M1 q v m H1 e1 n o=>q _ m H1 e1 ((r.grow e1 n).set o)) q⟩
abbrev DG:=D->oM->Ms->(oM->Ms->Prop)->Prop
abbrev DGs:=List D->oM->Ms->(oM->Ms->Prop)->Prop
def lG (K:bz)(g:DG):TG:=λv σ H Q=>∃F α a M d,R K F α H σ a M/\Rep K α (ja F α M H) d v/\g d a M (sK K F α H M Q)
def lGs (K:bz)(g:DGs):TGs:=λb σ H Q=>∃F α a M ds,R K F α H σ a M/\gL K α (ja F α M H) ds b/\g ds a M (sK K F α H M Q)
structure JG(X:Cx)(tg:bE)(g:DG):Prop where
 mono:∀d δ M (P Q:oM->Ms->Prop),(∀δ M,P δ M->Q δ M)->g d δ M P->g d δ M Q
 p:PG X tg (lG X.K g)
structure JGs(X:Cx)(tg:List bE)(g:DGs):Prop where
 mono:∀d δ M (P Q:oM->Ms->Prop),(∀δ M,P δ M->Q δ M)->g d δ M P->g d δ M Q
 p:TQ X tg (lGs X.K g)
theorem PG.weak(h:PG X tg g)(w:∀v σ H Q,a v σ H Q->g v σ H Q):PG X tg a:=λcq s σ H v u Q I r q=>h cq s σ H v u Q I r (w v σ H Q q)
theorem TQ.weak(h:TQ X tg g)(w:∀v σ H Q,a v σ H Q->g v σ H Q):TQ X tg a:=λcq s σ H v u Q I r q=>h cq s σ H v u Q I r (w v σ H Q q)
def gZ (i:Nat):DG:=λd a M Q=>Q (a.set i (ae d)) M
theorem gW(i:Nat)(a:X.N.Nodup)(hi:X.N[i]?=ae x:=by rfl)(b:Loc X.env.scope x:=by first|exact fF rfl|exact eK rfl)(f:X.fn x=aj\/X.env.scope.names.lookup x=ae .local:=by first|exact .inl rfl|exact .inr rfl|assumption):JG X (.Name x pos) (gZ i):=
 ⟨λd g M P Q w q=>w _ _ q,PG.weak (Ye a hi b f) λv σ H Q ⟨F,α,g,M,d,r,rd,q⟩=>q _ α H Ext.refl (r.set rd)⟩
def kK:DGs:=λds a M Q=>ds=[]/\Q a M
def ie (g:DG)(gs:DGs):DGs:=λds a M Q=>match ds with|d::r=>g d a M λb M1=>gs r b M1 Q|[]=>False
theorem i9:JGs X [] kK:=⟨λd a M P Q w q=>⟨q.1,w _ _ q.2⟩,TQ.weak Yf λv σ H Q ⟨F,α,a,M,ds,r,rd,e,q⟩=>by subst e;exact⟨rd,q σ α H Ext.refl r⟩⟩
theorem hV(a:JG X e g)(b:JGs X es gs)(h:(cT (e::es) X.env).map (·.2)=assign e X.env::(cT es X.env).map (·.2):=by rfl):JGs X (e::es) (ie g gs):=by
 refine⟨λd f M P Q w q=>?_,TQ.weak (Uh a.p b.p h) λv σ H Q q=>?_⟩
 .cases d with
  |nil=>exact q.elim
  |cons d r=>exact a.mono _ _ _ _ _ (λf M q=>b.mono _ _ _ _ _ w q) q
 .obtain⟨F,α,f,M,ds,r,rd,q⟩:=q;cases ds with
  |nil=>exact q.elim
  |cons d i=>
   obtain⟨v1,j,rfl,m,n⟩:=rd;refine⟨v1,j,rfl,F,α,f,M,d,r,m,a.mono _ _ _ _ _ (λo M1 q s y H1 e1 z=>?_) q⟩;exact⟨F,y,o,M1,i,z,e1.FA n,b.mono _ _ _ _ _ (sK.grow e1) q⟩
def kL (n:Nat)(gs:DGs):DG:=λd a M Q=>match d with|.tup ds=>ds.length=n/\gs ds a M Q|_=>False
theorem j8(h:JGs X es gs)(f:X.calm=aj:=by rfl)(hn:(cT es X.env).length=n:=by rfl)(g:(cT es X.env).findIdx? (·.1)=am:=by rfl):JG X (.Tuple es k pos) (kL n gs):=by
 refine⟨λd b M P Q w q=>?_,PG.weak (abM f h.p hn g) λv σ H Q q=>?_⟩
 .cases d<;>first|exact q.elim|exact⟨q.1,h.mono _ _ _ _ _ w q.2⟩
 .obtain⟨F,α,b,M,d,r,rd,q⟩:=q;cases d<;>first|exact q.elim|skip
  obtain⟨a,i,rfl,j,z⟩:=rd;exact⟨a,i,rfl,ny hW j,by rw[<-gL.length _ _ z];exact q.1,F,α,b,M,_,r,z,q.2⟩
def UV (te:DE)(g:DG):DS:=λE a M=>te a M λd M1=>g d a M1 E.nx
theorem M6(b:JE X e te)(f:JG X tg g)(h:ajm [tg] e pos.line X.env=pure aq:=by rfl)(hw:ajn [tg] e X.env=pure am:=by rfl)
(i:(cT [tg] X.env).map (·.2)=[assign tg X.env]:=by rfl):JS X (.Assign [tg] e pos) (UV te g):=by refine⟨λP Q a M w q=>b.mono a _ _ _ (λd M1 q=>f.mono _ _ _ _ _ w.nx q) q,PS.weak (Ui b.p f.p h hw i) λE σ H q=>?_⟩;obtain⟨F,α,a,M,r,q⟩:=q;refine⟨F,α,a,M,r,b.mono a _ _ _ (λd M1 q v j H1 e1 m n=>?_) q⟩;exact⟨F,j,a,M1,d,r.grow e1 m,n,f.mono _ _ _ _ _ (sK.grow e1) q⟩
structure acp(K:bz)(F il:List aw)(H1:Hp)(M1:Ms)(J:It)(items:List D)(st:Ms->Prop):Prop where
 go:∀i F' ia H' M',il <+: ia->jD (ja F il M1 H1) (ja F' ia M' H')->OK K F' ia H' M'->st M'->i<items.length->J.go i H'
 yld:∀(i:Nat) F' ia H' M' x H2 d,il <+: ia->jD (ja F il M1 H1) (ja F' ia M' H')->OK K F' ia H' M'->st M'->items[i]?=ae d->J.yld i H' x H2->OK K F' ia H2 M'/\Ext F' ia H' M' ia H2 M'/\Rep K ia (ja F' ia M' H2) d x
 stop:∀F' ia H' M',il <+: ia->jD (ja F il M1 H1) (ja F' ia M' H')->OK K F' ia H' M'->st M'->J.stop items.length H'
abbrev DI:=oM->Ms->(List D->(Ms->Prop)->Ms->Prop)->Prop
abbrev iK(X:Cx)(F α:List aw)(H:Hp)(M:Ms)(Q:It->Hp->Prop):List D->(Ms->Prop)->Ms->Prop:=λitems st M1=>∀J a H1 b T,Ext F α H M a H1 M1->OK X.K F a H1 M1->M0 X F a H1 b M1 T->acp X.K F a b M1 J items st->Q J b
def lI (X:Cx)(t:DI):TI:=λσ H Q=>∃F α a M,R X.K F α H σ a M/\t a M (iK X F α H M Q)
structure JI(X:Cx)(tg e:bE)(t:DI):Prop where
 mono:∀δ M (P Q:List D->(Ms->Prop)->Ms->Prop),(∀l s M,P l s M->Q l s M)->t δ M P->t δ M Q
 p:PI X tg e (lI X t)
theorem PI.weak{t a:TI}(h:PI X tg e t)(w:∀σ H Q,a σ H Q->t σ H Q):PI X tg e a:=λcq s σ H Q I q=>h cq s σ H Q I (w σ H Q q)
def tF (g:DG)(tb:DS)(st:Ms->Prop)(E:om):List D->oM->Ms->Prop
 |[]=>λb M=>E.nx b M
 |x::xs=>λb M=>g x b M λh M1=>tb {E with nx:=λf a=>st a/\tF g tb st E xs f a,ct:=λf a=>st a/\tF g tb st E xs f a,bk:=E.nx} h M1
def nr (b:DI)(g:DG)(tb:DS):DS:=λE a M=>b a M λitems st M1=>st M1/\tF g tb st E items a M1
theorem Aw{st:Ms->Prop}(h:∀d a M (P Q:oM->Ms->Prop),(∀a M,P a M->Q a M)->g d a M P->g d a M Q)(i:∀(P Q:om) a M,P.le Q->tb P a M->tb Q a M)(w:P.le Q):∀xs a M,tF g tb st P xs a M->tF g tb st Q xs a M
 |[],a,M,q=>w.nx _ _ q
 |x::xs,a,M,q=>h _ _ _ _ _ (λj M1 q=>i {P with nx:=λf b=>st b/\tF g tb st P xs f b,ct:=λf b=>st b/\tF g tb st P xs f b,bk:=P.nx} _ _ _ ⟨λf b q=>⟨q.1,Aw h i w xs f b q.2⟩,w.rt,w.nx,λf b q=>⟨q.1,Aw h i w xs f b q.2⟩⟩ q) q
theorem jE(hi:JI X tg e ti)(hg:JG X tg g)(hb:FD X body tb)(hp:aid (model X.prog X.w) X.A X.env X.xe:=by exact aid.never)(hc:X.calm=aj:=by rfl)
(hs:∀x,dX e X.env x=pure x:=by intro _;rfl):JS X (.For tg e body [] pos) (nr ti g tb):=by
 refine⟨λP Q G M w q=>hi.mono G _ _ _ (λitems st M1 q=>⟨q.1,Aw hg.mono hb.mono w _ _ _ q.2⟩) q,Dl (Ul hp hc hi.p hg.p hb.p hs) λE σ H q=>?_⟩;obtain⟨F,α,G,M,r,q⟩:=q;refine⟨F,α,G,M,r,hi.mono G _ _ _ (λitems st M1 q J il H1 Hf T e1 o1 z it=>?_) q⟩;obtain⟨s1,q⟩:=q;refine⟨λi m jl j=>m=items.length- i/\i<=items.length/\∃f N a,Ext F il Hf M1 f j a/\R X.K F f j jl N a/\st a/\tF g tb st _ (items.drop i) N a,⟨_,rfl,bC _,il,G,M1,Ext.refl,z.rs (r.grow e1 o1),s1,q⟩,?_⟩
 rintro i m jl j ⟨rfl,RP,f,N,a,e',C,s',O⟩
 by_cases U:i<items.length
 .rw[dP U] at O;refine .inr ⟨it.go i F f j a e'.pre e'.same C.ok s' U,λJL I=>∃uS YQ M2,Ext F il Hf M1 uS I M2/\R X.K F uS I JL YQ M2/\st M2/\tF g tb st _ _ YQ M2,λJL I h=>⟨_,by omega,rfl,U,h⟩,λx I y=>?_⟩;obtain⟨o2,e2,rx⟩:=it.yld i F f j a x I items[i] e'.pre e'.same C.ok s' (by simp[U]) y;refine⟨F,f,N,a,items[i],C.grow e2 o2,rx,hg.mono _ _ _ _ _ (λUW M3 q3 Um Di H3 e3 r3=>⟨F,Di,UW,M3,r3,hb.mono _ _ _ _ ?_ q3⟩) O⟩;have xx:=(e'.trans e2).trans e3;refine⟨λY n B YR b o e4 s=>⟨b,Y,n,xx.trans e4,s,B⟩,λd n B v b o e4 o4 s=>?_,λY n B YR b o e4 s=>?_,λY n B YR b o e4 s=>⟨b,Y,n,xx.trans e4,s,B⟩⟩
  .obtain⟨L,t2,t3⟩:=z.e b o n (xx.trans e4) o4;exact z.h b o n _ (xx.trans e4) (B v b (T o) (e1.trans L) t2 (t3 d v s))
  .obtain⟨L,_,_⟩:=z.e b o n (xx.trans e4) s.ok;exact z.h b o n _ (xx.trans e4) (B YR b (T o) (e1.trans L) (z.rt (xx.trans e4) s))
 .have e:i=items.length:=by omega
  subst e;rw[List.drop_length] at O;obtain⟨L,_,_⟩:=z.e f j a e' C.ok;exact .inl ⟨it.stop F f j a e'.pre e'.same C.ok s',z.h f j a _ e' (O jl f (T j) (e1.trans L) (z.rt e' C))⟩
end
mutual
noncomputable def nl:D->Bool
 |.non|.bl _|.int _|.str _|.ty _|.qH _|.cls _=>aj
 |.loc _=>aq
 |.tup ds|.lst ds|.jf _ ds|.ins _ _ ds|.exc _ _ ds=>lu ds
noncomputable def lu:List D->Bool
 |[]=>aj
 |d::ds=>nl d&&lu ds
end
mutual
theorem Rep.nl {K:bz} {α β:List aw} {H:Hp}:∀(d:D) (v:V),L3.nl d=aj->Rep K α H d v->Rep K β H d v
 |.non,v,_,h=>by unfold Rep at h |-;exact h
 |.bl _,v,_,h=>by unfold Rep at h |-;exact h
 |.int _,v,_,h=>by unfold Rep at h |-;exact h
 |.str _,v,_,h=>by unfold Rep at h |-;exact h
 |.ty _,v,_,h=>by unfold Rep at h |-;exact h
 |.qH _,v,_,h=>by unfold Rep at h |-;exact h
 |.cls _,v,_,h=>by unfold Rep at h |-;exact h
 |.loc _,v,n,h=>by unfold L3.nl at n;cases n
 |.tup ds,v,n,h=>by unfold Rep at h |-;unfold L3.nl at n;obtain⟨a,b,r,q,z⟩:=h;exact⟨a,b,r,q,gL.nl ds b n z⟩
 |.lst ds,v,n,h=>by unfold Rep at h |-;unfold L3.nl at n;obtain⟨a,b,r,q,z⟩:=h;exact⟨a,b,r,q,gL.nl ds b n z⟩
 |.jf e ds,v,n,h=>by unfold Rep at h |-;unfold L3.nl at n;obtain⟨a,b,r,q,l,z⟩:=h;exact⟨a,b,r,q,l,gL.nl ds b n z⟩
 |.ins C ns ds,v,n,h=>by unfold Rep at h |-;unfold L3.nl at n;obtain⟨a,c,b,r,q,l,z⟩:=h;exact⟨a,c,b,r,q,l,gL.nl ds b n z⟩
 |.exc C ns ds,v,n,h=>by unfold Rep at h |-;unfold L3.nl at n;obtain⟨a,b,r,q,l,z⟩:=h;exact⟨a,b,r,q,l,gL.nl ds b n z⟩
theorem gL.nl {K:bz} {α β:List aw} {H:Hp}:∀(d:List D) (v:List V),L3.lu d=aj->gL K α H d v->gL K β H d v
 |[],v,_,h=>by unfold gL at h |-;exact h
 |d::ds,v,n,h=>by unfold gL at h |-;unfold L3.lu at n;rw[aY] at n;obtain⟨u,r,q,z,y⟩:=h;exact⟨u,r,q,Rep.nl d u n.1 z,gL.nl ds r n.2 y⟩
end
theorem HE:∀ds:List D,lu ds=ds.all nl
 |[]=>rfl
 |d::ds=>by unfold lu;rw[ahL,HE ds]
theorem jL{β:Type}{f:β->D}(h:∀b,nl (f b)=aj)(l:List β):lu (l.map f)=aj:=by rw[HE];simp[h]
noncomputable def M7(k:Nat):Option (Option OD)->D
 |some (ae o)=>o.toD
 |_=>.loc k
noncomputable def vw(M:Ms):D->D
 |.loc k=>M7 k M[k]?
 |d=>d
noncomputable def fz(M:Ms):D->D
 |.tup ds=>.tup (ds.map (vw M))
 |d=>vw M d
section
variable {K:bz} {F α:List aw} {H:Hp} {M:Ms}
theorem qJ:jD (ja F α M H) (kX F H):=λb o e=>by obtain⟨z,q⟩:=iB e;exact ma e (λw=>z (bO _ w)) q
theorem OK.agG(o:OK K F α H M)(h:a∈α):a∉F:=λw=>(o.fr a w).1 h
theorem Ax(o:OK K F α H M):∀(d:D) (v:V),Rep K α (ja F α M H) d v->Rep K α (kX F H) (vw M d) v:=λd v h=>by
 have gen:=Rep.mono (aS _) qJ d v h;cases d with
 |loc k=>
  show Rep K α _ (M7 k M[k]?) v;cases e:M[k]? with
  |none=>exact gen
  |some x=>
   cases x with
   |none=>exact gen
   |some y=>
    obtain⟨a,g,c⟩:=o.own k y e;obtain⟨p,i,rfl⟩:=h;rw[g] at i;cases i;have f:a∉F:=o.agG (bF g);cases y with
    |lst ds=>
     obtain⟨b,q,r⟩:=c;show Rep K α _ (.lst ds) _;exact⟨a,b,rfl,jK f q rfl,gL.mono (aS _) qJ _ _ r⟩
    |jf m ds=>
     obtain⟨b,q,l,r⟩:=c;show Rep K α _ (.jf m ds) _;exact⟨a,b,rfl,.inl (jK f q rfl),l,gL.mono (aS _) qJ _ _ r⟩
    |ins C ns ds=>
     obtain⟨n,b,q,l,r⟩:=c;exact⟨a,n,b,rfl,jK f q rfl,l,gL.mono (aS _) qJ _ _ r⟩
    |fz j s m ds=>
     show Rep K α _ (.loc j) _;exact⟨a,c.1,rfl⟩
 |_=>exact gen
theorem tG(e:vw M (.loc k)=d):d=.loc k\/∃o,M[k]?=ae (ae o)/\d=o.toD:=by
 have e:M7 k M[k]?=d:=e;cases h:M[k]? with
 |none=>rw[h] at e;exact .inl e.symm
 |some x=>
  cases x with
  |none=>rw[h] at e;exact .inl e.symm
  |some o=>rw[h] at e;exact .inr ⟨o,rfl,e.symm⟩
theorem HF(o:OK K F α H M):∀(ds:List D) (a:List V),gL K α (ja F α M H) ds a->gL K α (kX F H) (ds.map (vw M)) a
 |[],a,h=>by subst h;exact gL.nil
 |d::ds,a,h=>by obtain⟨v,r,rfl,z,y⟩:=h;exact gL.cons (Ax o d v z) (HF o ds r y)
theorem UX(o:OK K F α H M):∀(d:D) (v:V),Rep K α (ja F α M H) d v->Rep K α (kX F H) (fz M d) v:=λd v h=>by
 cases d with
 |tup ds=>
  obtain⟨a,b,rfl,c,z⟩:=h;show Rep K α _ (.tup _) _;exact⟨a,b,rfl,ny qJ c,HF o _ _ z⟩
 |_=>exact Ax o _ v h
theorem ju(o:OK K F α H M)(h:Rep K α (ja F α M H) d v)(e:vw M d=.lst ds):∃a b,v=.ref a/\H a=ae (.lst b)/\gL K α (ja F α M H) ds b:=by
 cases d with
 |lst es=>
  cases(e);obtain⟨a,b,rfl,q,z⟩:=h;exact⟨a,b,rfl,hW _ _ q,z⟩
 |loc k=>
  rcases tG e with e|⟨x,f,e⟩
  .cases e
  .cases x<;>cases e;obtain⟨a,g,b,q,r⟩:=o.own k _ f;obtain⟨i,c,rfl⟩:=h;rw[g] at c;cases c;exact⟨a,b,rfl,q,r⟩
 |_=>cases e
theorem _root_.L2.yS.kr{H:Hp}{a:aw}{b:List (Key×V)}{k:Key}(e:Rd H a (.dK b)):yS H a (kV k) (rE b k):=.inl ⟨b,k,e,rfl,rfl⟩
theorem oP(o:OK K F α H M)(h:Rep K α (ja F α M H) d v)(e:vw M d=.jf c ds):∃a b,v=.ref a/\Rd H a (.dK (c.zip b))/\c.length=ds.length/\gL K α (ja F α M H) ds b:=by
 cases d with
 |jf ls es=>
  cases(e);obtain⟨a,b,rfl,q,l,z⟩:=h;exact⟨a,b,rfl,Cs hW q,l,z⟩
 |loc k=>
  rcases tG e with e|⟨x,g,e⟩
  .cases e
  .cases x<;>cases e;obtain⟨a,i,b,q,l,r⟩:=o.own k _ g;obtain⟨j,f,rfl⟩:=h;rw[i] at f;cases f;exact⟨a,b,rfl,.inl q,l,r⟩
 |_=>cases e
theorem M8(o:OK K F α H M)(h:Rep K α (ja F α M H) d v)(e:vw M d=.ins C ns ds):∃a c b,v=.ref a/\H a=ae (.ins C c (ns.zip b))/\ns.length=ds.length/\gL K α (ja F α M H) ds b:=by
 cases d with
 |ins j ls es=>
  cases(e);obtain⟨a,c,b,rfl,q,l,z⟩:=h;exact⟨a,c,b,rfl,hW _ _ q,l,z⟩
 |loc k=>
  rcases tG e with e|⟨x,g,e⟩
  .cases e
  .cases x<;>cases e;obtain⟨a,i,c,b,q,l,r⟩:=o.own k _ g;obtain⟨m,f,rfl⟩:=h;rw[i] at f;cases f;exact⟨a,c,b,rfl,q,l,r⟩
 |_=>cases e
theorem M9(e:vw M d=.tup ds):d=.tup ds:=by
 cases d with
 |loc k=>rcases tG e with e|⟨x,a,e⟩<;>first|cases e|(cases x<;>cases e)
 |_=>exact e
theorem mQ(e:vw M d=.str x):d=.str x:=by
 cases d with
 |loc k=>rcases tG e with e|⟨x,a,e⟩<;>first|cases e|(cases x<;>cases e)
 |_=>exact e
theorem u6(e:vw M d=.qH x):d=.qH x:=by
 cases d with
 |loc k=>rcases tG e with e|⟨x,a,e⟩<;>first|cases e|(cases x<;>cases e)
 |_=>exact e
theorem xQ(e:vw M d=.int x):d=.int x:=by
 cases d with
 |loc k=>rcases tG e with e|⟨x,a,e⟩<;>first|cases e|(cases x<;>cases e)
 |_=>exact e
theorem mR(o:OK K F α H M)(h:Rep K α (ja F α M H) d v)(e:vw M d=.tup ds):∃a b,v=.ref a/\xr K H a b/\gL K α (ja F α M H) ds b:=by cases M9 e;obtain⟨a,b,rfl,q,z⟩:=h;exact⟨a,b,rfl,ny hW q,z⟩
end
abbrev GP:=List D->(D->Prop)->Prop
def cl (g:GP):GN:=λds M Q=>lu ds=aj/\g ds λd=>Q d M
abbrev iM(g:GP):Prop:=∀ds (P Q:D->Prop),(∀d,P d->Q d)->g ds P->g ds Q
theorem PD(m:iM g):qI (cl g):=λxs M P Q w q=>⟨q.1,m _ _ _ (λd q=>w _ _ q) q.2⟩
noncomputable def pQ(n:Nat)(ds:List D):oM:=ds.map ae++bL (n- ds.length) am
def J8 (n m:Nat)(tb:DS):GN:=λds M Q=>ds.length=m/\tb ⟨λ_ a=>Q .non a,Q,λ_ _=>False,λ_ _=>False⟩ (pQ n ds) M
def kq (n m:Nat)(tb:DS):GP:=λds Q=>ds.length=m/\tb ⟨λ_ _=>Q .non,λd a=>nl (fz a d)=aj/\Q (fz a d),λ_ _=>False,λ_ _=>False⟩ (pQ n ds) []
section
variable {P:aQ} {w:bw} {K:bz} {mg:aJ->Option ai} {cv:av}
theorem Ct(o:OK K F α H M)(r:gL K α (ja F α M H) ds a):R K F α H (L2.start N a) (pQ N.length ds) M:=by
 have b:=gL.length _ _ r;refine⟨o,by simp[L2.start,pQ,b],λi d h=>?_⟩;unfold pQ at h;by_cases hi:i<ds.length
 .rw[aR (by simpa using hi)] at h;rw[bq] at h;cases e:ds[i]? with
  |none=>rw[e] at h;cases h
  |some x=>
   rw[e] at h;cases h;obtain⟨v,e1,c⟩:=gL.get ds a i d r e;refine⟨v,?_,c⟩;unfold L2.start;rw[aR (by simp;omega),bq,e1];rfl
 .rw[df (by simp;omega)] at h;have:=bF h;rw[List.mem_replicate] at this;cases this.2
theorem UY{c:List aJ}(b:FD X body tb)(f:X.K=K)(h:lY K (J8 n.length c.length tb) g H Q E):
  ∃t,QB X body t/\t {nx:=λ_ a=>Q .non a,rt:=Q} (L2.start n g) H:=by subst f;obtain⟨F,α,M,ds,o,r,j,q⟩:=h;refine⟨_,⟨b.p⟩,F,α,pQ n.length ds,M,Ct o r,?_⟩;refine b.mono _ _ _ _ ?_ q;exact⟨λm s q u i a e r=>q _ i a e r.ok tq,λ_ _ q=>q,λ_ _ q=>q.elim,λ_ _ q=>q.elim⟩
theorem mw{M2:Ms}(o:OK K F α H M)(e2:Ext (lv α M++F) [] H [] i c M2)(j:OK K (lv α M++F) i c M2):Ext F α H M α c M/\OK K F α c M:=by
 have f:=λb x h=>qJ _ _ (e2.same b x (by exact h))
 have fr:=e2.fr;have al:∀a,uP (H a)≠am->uP (c a)≠am:=λa h=>by
  by_cases z:a∈lv α M++F
  .rw[fr a z];exact h
  .cases e:H a with
   |none=>exact absurd (by rw[e]) h
   |some x=>
    rw[e] at h;have v:uP (ae x)=ae x:=by cases x<;>first|rfl|exact absurd rfl h
    have:=hW _ _ (f a x (jK z e v));rw[this,v];exactλz=>by cases z
 refine⟨⟨aS _,f,λa ha=>fr a (bO _ ha)⟩,o.ml,o.nd,λa ha=>⟨(o.fr a ha).1,al a (o.fr a ha).2⟩,λa ha=>al a (o.al a ha),λk x h=>?_,j.tb⟩;obtain⟨a,g,m⟩:=o.own k x h;exact⟨a,g,m.mono (aS _) f (fr a (bS _ (nz.mpr ⟨k,x,g,h⟩)))⟩
theorem Na{j:List aJ}(g:FD X body tb)(m:X.K=K)(h:lY K (cl (kq n.length j.length tb)) c H Q E):
  ∃t,QB X body t/\t {nx:=λ_ b=>Q .non b,rt:=Q} (L2.start n c) H:=by
 subst m;obtain⟨F,α,M,ds,o,r,hn,A,q⟩:=h;have s:OK X.K _ [] H []:=⟨rfl,dh,λa ha=>⟨by simp,by
  rcases bd.mp ha with ha|ha
  .exact o.PB a ha
  .exact(o.fr a ha).2⟩,λa ha=>(by simp at ha),λk x h=>(by simp at h),o.tb⟩
 have u:gL X.K [] _ ds c:=gL.nl ds c hn r;refine⟨_,⟨g.p⟩,lv α M++F,[],pQ n.length ds,[],Ct s u,?_⟩;refine g.mono _ _ _ _ ?_ q;refine⟨λB y q C z b e r=>?_,λd y q v z b e i r=>?_,λ_ _ q=>q.elim,λ_ _ q=>q.elim⟩
 .obtain⟨e1,f⟩:=mw o e r.ok;exact q _ α b e1 f tq
 .obtain⟨e1,f⟩:=mw o e i;exact q.2 v α b e1 f (Rep.nl _ _ q.1 (UX i d v r))
end
noncomputable def Ay(fr:List (Option Nat))(a:oM):oM:=fr.map λo=>match o with
 |none=>am
 |some j=>(a[j]?).getD am
noncomputable def HG(fr:List (Option Nat))(a:oM):oM:=dG (λo d=>match o with|none=>am|some _=>d) fr a
def Gq (g:DG)(tt:DT)(e:DE)(x:D)(f:oM)(M:Ms)(c:Option D->oM->Ms->Prop):Prop:=
 g x f M λa M1=>tt a M1 λb M2=>if b=aj then e a M2 λd h=>c (ae d) a h else c am a M2
def uJ (fr:List (Option Nat))(g:DG)(tt:DT)(a:DE)(st:Ms->Prop)(Q:List D->Ms->Prop):List D->List D->oM->Ms->Prop
 |[],acc,_,M=>Q acc M
 |x::xs,acc,c,M=>Gq g tt a x c M λo b M1=>st M1/\match o with
  |some d=>acc.length<aE/\uJ fr g tt a st Q xs (acc++[d]) (HG fr b) M1
  |none=>uJ fr g tt a st Q xs acc (HG fr b) M1
def l4 (fr:List (Option Nat))(b:DI)(g:DG)(tt:DT)(c:DE):DF:=λa M Q=>b a M λitems st M1=>st M1/\uJ fr g tt c st (λds e=>Q (.lst ds) e) items [] (Ay fr a) M1
structure JIf(X:Cx)(ifs:List bE)(t:DT):Prop where
 mono:∀δ M (P Q:Bool->Ms->Prop),(∀d M,P d M->Q d M)->t δ M P->t δ M Q
 p:PIf X ifs (lT X.K t)
def xR:DT:=λ_ M Q=>Q aj M
theorem kP:JIf X [] xR:=⟨λa M P Q w q=>w _ _ q,λcq s σ H Q I ⟨F,α,a,M,r,q⟩=>YH cq s σ H Q I (q α H Ext.refl r.ok)⟩
theorem Cu(h:JT X c t):JIf X [c] t:=⟨h.mono,YI h.p⟩
section
variable {K:bz} {F α ia UN:List aw} {H H' H'':Hp} {M M' Fu:Ms} {σ:L2.St} {δ:oM} {p:aw}
theorem R.slots(r:R K F α H σ δ M)(fr:List _):R K F α H (L2.slots fr σ) (Ay fr δ) M:=by
 refine⟨r.ok,by simp[L2.slots,Ay],λi d h=>?_⟩;unfold Ay at h;unfold L2.slots;rw[bq] at h |-;cases e:fr[i]? with
 |none=>rw[e] at h;cases h
 |some o=>
  rw[e] at h;cases o with
  |none=>cases h
  |some j=>
   have h:=by simpa using h
   cases e2:δ[j]? with
   |none=>rw[e2] at h;cases h
   |some q=>
    rw[e2] at h;subst h;obtain⟨v,e3,a⟩:=r.sl j d e2;exact⟨v,by show ae ((σ[j]?).getD am)=_;rw[e3];rfl,a⟩
theorem R.HG(r:R K F α H σ δ M)(a:fr.length=δ.length):R K F α H σ (L3.HG fr δ) M:=by
 refine⟨r.ok,by simp[L3.HG,a,r.len],λi d h=>?_⟩;unfold L3.HG at h;rw[aib] at h;cases e:fr[i]? with
 |none=>rw[e] at h;simp at h
 |some o=>
  cases e2:δ[i]? with
  |none=>rw[e,e2] at h;simp at h
  |some q=>
   rw[e,e2] at h;cases o with
   |none=>simp at h
   |some j=>
    have h:=by simpa using h
    subst h;exact r.sl i d e2
theorem Ext.skip(o:OK K F α H M)(g:H p=am)(e:Ext F α H M ia H' M')(e':Ext (p::F) ia H' M' UN H'' Fu):Ext F α H M UN H'' Fu:=by
 refine⟨e.pre.trans e'.pre,λb x h=>?_,λa ha=>(e'.fr a (ay _ ha)).trans (e.fr a ha)⟩;have i:b≠p:=λz=>by have:=(iB h).2;rw[z,g] at this;cases this
 have c:=iB (e.same b x h);have j:ja (p::F) ia M' H' b=ae x:=by
  refine ma h (λw=>c.1 ?_) c.2
  .simp only [bd,aC] at w |-;rcases w with w|w|w
   .exact .inl w
   .exact absurd w i
   .exact .inr w
 have f:=iB (e'.same b x j);refine ma h (λw=>f.1 ?_) f.2
 .simp only [bd,aC] at w |-;rcases w with w|w
  .exact .inl w
  .exact .inr (.inr w)
theorem Ext.RQ(f:H p=am)(g:p∉F)(e:Ext F α H M ia H' M'):Ext F α H M ia (upd H' p x) M':=by
 refine⟨e.pre,λb y h=>?_,λa ha=>by rw[gM λz=>g (by rw[<-z];exact ha)];exact e.fr a ha⟩;have i:b≠p:=λz=>by have:=(iB h).2;rw[z,f] at this;cases this
 have c:=iB (e.same b y h);exact ma h c.1 (by rw[gM i];exact c.2)
theorem Dn:ja (p::F) α M (upd H p x)=ja (p::F) α M H:=by
 funext b;show kX _ _ b=kX _ _ b;by_cases a:b∈lv α M++p::F
 .rw[pd a,pd a]
 .rw[kI a,kI a,gM λz=>a (by rw[z];simp)]
theorem OK.RQ(o:OK K (p::F) α H M)(f:uP (ae x)=ae x:=by rfl):OK K (p::F) α (upd H p x) M:=by
 have b:=(o.fr p aH).1;refine⟨o.ml,o.nd,λa ha=>⟨(o.fr a ha).1,?_⟩,λa ha=>?_,λk y h=>?_,o.tb.upd (.inl (o.fr p aH).2)⟩
 .by_cases e:a=p
  .rw[e,gS,f];exactλz=>by cases z
  .rw[gM e];exact(o.fr a ha).2
 .rw[gM λz=>b (by rw[<-z];exact ha)];exact o.al a ha
 .obtain⟨a,c,g⟩:=o.own k y h;rw[Dn];exact⟨a,c,g.mono (aS _) (jD.refl _) (gM λz=>b (by rw[<-z];exact bF c))⟩
theorem R.RQ(r:R K (p::F) α H σ δ M)(a:uP (ae x)=ae x:=by rfl):R K (p::F) α (upd H p x) σ δ M:=⟨r.ok.RQ a,r.len,λi d h=>by obtain⟨v,b,c⟩:=r.sl i d h;rw[Dn];exact⟨v,b,c⟩⟩
theorem R.acq(r:R K F α H σ δ M)(f:H p=am)(n:uP (ae x)=ae x:=by rfl):R K (p::F) α (upd H p x) σ δ M:=by
 have o:=r.ok;have c:=λz=>o.al p z (by rw[f]);have g:jD (ja F α M H) (ja (p::F) α M (upd H p x)):=λb y h=>by
  obtain⟨z,q⟩:=iB h;have j:b≠p:=λz=>by rw[z,f] at q;cases q
  refine ma h (λw=>z ?_) (by rw[gM j];exact q)
  .simp only [bd,aC] at w |-;rcases w with w|w|w
   .exact .inl w
   .exact absurd w j
   .exact .inr w
 refine⟨⟨o.ml,o.nd,λa ha=>?_,λa ha=>?_,λk y h=>?_,o.tb.upd (.inr f)⟩,r.len,λi d h=>?_⟩
 .rcases aC.mp ha with e|e
  .subst e;exact⟨c,by rw[gS,n];exactλz=>by cases z⟩
  .refine⟨(o.fr a e).1,?_⟩;rw[gM λz=>(o.fr a e).2 (by rw[z,f])];exact(o.fr a e).2
 .rw[gM λz=>c (by rw[<-z];exact ha)];exact o.al a ha
 .obtain⟨a,m,s⟩:=o.own k y h;exact⟨a,m,s.mono (aS _) g (gM λz=>c (by rw[<-z];exact bF m))⟩
 .obtain⟨v,u,A⟩:=r.sl i d h;exact⟨v,u,Rep.mono (aS _) g _ _ A⟩
theorem PF:er p H p=am:=by unfold er;rw[if_pos rfl]
theorem Dp(h:b≠p):er p H b=H b:=by unfold er;rw[if_neg h]
theorem UZ(o:OK K (p::F) α H M):ja F α M (er p H)=ja (p::F) α M H:=by
 funext b;show kX _ _ b=kX _ _ b;by_cases e:b=p
 .subst e;rw[pd (A:=lv α M++b::F) (by simp)];by_cases z:b∈lv α M++F
  .rw[pd z]
  .rw[kI z,PF]
 .by_cases z:b∈lv α M++F
  .rw[pd z,pd (by simp only [bd,aC] at z |-;rcases z with z|z;exact .inl z;exact .inr (.inr z))]
  .rw[kI z,kI (by simp only [bd,aC] at z |-;rintro(w|w|w);exact z (.inl w);exact e w;exact z (.inr w)),Dp e]
theorem OK.er(o:OK K (p::F) α H M)(g:p∉F):OK K F α (L3.er p H) M:=by
 have c:=(o.fr p aH).1;refine⟨o.ml,o.nd,λa ha=>⟨(o.fr a (ay _ ha)).1,?_⟩,λa ha=>?_,λk x h=>?_,o.tb.imp λb y e v=>?_⟩
 .rw[Dp λz=>g (by rw[<-z];exact ha)];exact(o.fr a (ay _ ha)).2
 .rw[Dp λz=>c (by rw[<-z];exact ha)];exact o.al a ha
 .obtain⟨a,f,i⟩:=o.own k x h;rw[UZ o];exact⟨a,f,i.mono (aS _) (jD.refl _) (Dp λz=>c (by rw[<-z];exact bF f))⟩
 .rw[Dp λz=>(o.fr p aH).2 (by rw[<-z,e];exact v)];exact e
theorem Ext.er(f:H p=am)(g:p∉F)(e:Ext F α H M ia H' M'):Ext F α H M ia (L3.er p H') M':=by
 refine⟨e.pre,λb y h=>?_,λa ha=>by rw[Dp λz=>g (by rw[<-z];exact ha)];exact e.fr a ha⟩;have i:b≠p:=λz=>by have:=(iB h).2;rw[z,f] at this;cases this
 have c:=iB (e.same b y h);exact ma h c.1 (by rw[Dp i];exact c.2)
end
section
variable {X:Cx} {N:List aJ} {fr:List (Option Nat)} {scope:dN} {elt target iter:bE} {ifs:List bE} {ti:DI} {g:DG} {tt:DT} {te:DE} {pos:eZ}
theorem xS(c:∀d a M (P Q:oM->Ms->Prop),(∀a M,P a M->Q a M)->g d a M P->g d a M Q)(ht:∀a M (P Q:Bool->Ms->Prop),(∀d M,P d M->Q d M)->tt a M P->tt a M Q)(e:∀a M (P Q:DK),(∀d M,P d M->Q d M)->te a M P->te a M Q)
{st:Ms->Prop}(w:∀l M,P l M->Q l M):∀xs acc a M,uJ fr g tt te st P xs acc a M->uJ fr g tt te st Q xs acc a M
 |[],acc,a,M,q=>w _ _ q
 |x::xs,acc,a,M,q=>by
  refine c _ _ _ _ _ (λf M1 q=>ht _ _ _ _ (λb M2 q=>?_) q) q;cases b with
  |true=>
   exact e _ _ _ _ (λd h q=>⟨q.1,q.2.1,xS c ht e w xs _ _ _ q.2.2⟩) q
  |false=>
   exact⟨q.1,xS c ht e w xs _ _ _ q.2⟩
theorem Gu(hI:JI X target iter ti)(hg:∀d a M (P Q:oM->Ms->Prop),(∀a M,P a M->Q a M)->g d a M P->g d a M Q)(ht:∀a M (P Q:Bool->Ms->Prop),(∀d M,P d M->Q d M)->tt a M P->tt a M Q)(he:∀a M (P Q:DK),(∀d M,P d M->Q d M)->te a M P->te a M Q)
(hgl:∀d a M (P:oM->Ms->Prop),g d a M P->g d a M λoq M1=>oq.length=a.length/\P oq M1)(h:lF X.K (l4 fr ti g tt te) σ H Q):Px fr (lI X ti) (lG X.K g) (lT X.K tt) (lE X.K te) σ H (λv=>TH X (Q v)):=by
 obtain⟨F,α,a,M,r,h⟩:=h;refine⟨F,α,a,M,r,hI.mono a _ _ _ (λitems st M1 q J il H0 H1 T e1 o1 z it p s=>?_) h⟩;obtain⟨s1,q⟩:=q;have u:p∉F:=λw=>(z.ok.fr p w).2 (by rw[s]);refine⟨λi m O jl j=>m=items.length- i/\i<=items.length/\∃o U f acc,Ext F il H1 M1 o j f/\R X.K (p::F) o j jl U f/\U.length=fr.length/\st f/\j p=ae (.lst O)/\gL X.K o (ja (p::F) o f j) acc O/\
   uJ fr g tt te st (λds f=>fK X.K F α H M Q (.lst ds) f) (items.drop i) acc U f,⟨_,rfl,bC _,il,Ay fr a,M1,[],Ext.refl.RQ s u,((z.rs (r.grow e1 o1)).slots fr).acq s,by simp[Ay],s1,gS,gL.nil,q⟩,?_⟩
 rintro i m O jl j ⟨rfl,RP,o,U,f,acc,e',I,A,s',hy,ry,q'⟩
 have C:jD (ja F il M1 H1) (ja (p::F) o f j):=λb x h=>by
  have hb:b≠p:=λw=>by have:=(iB h).2;rw[w,s] at this;cases this
  have h1:=iB (e'.same b x h);refine ma h (λw=>h1.1 ?_) h1.2
  .simp only [bd,aC] at w |-;rcases w with w|w|w
   .exact .inl w
   .exact absurd w hb
   .exact .inr w
 by_cases xN:i<items.length
 .rw[dP xN] at q';refine .inr ⟨it.go i (p::F) o j f e'.pre C I.ok s' xN,λE JL L=>∃uS YQ M2 Y,Ext F il H1 M1 uS L M2/\R X.K (p::F) uS L JL YQ M2/\YQ.length=fr.length/\st M2/\L p=ae (.lst E)/\gL X.K uS _ Y E/\
   uJ fr g tt te st (λds f=>fK X.K F α H M Q (.lst ds) f) _ Y YQ M2,λE JL L h=>⟨_,by omega,rfl,xN,h⟩,λx L y=>?_⟩
  obtain⟨o2,e2,rx⟩:=it.yld i (p::F) o j f x L items[i] e'.pre C I.ok s' (by simp[xN]) y;refine⟨p::F,o,U,f,items[i],I.grow e2 o2,rx,hg _ _ _ _ _ (λUW M3 q3 Um Di H3 e3 r3=>?_) (hgl _ _ _ _ q')⟩;obtain⟨l3,q3⟩:=q3;refine⟨p::F,Di,UW,M3,r3,ht _ _ _ _ (λb M4 q4 xi H4 e4 o4=>?_) q3⟩;have B:=(e2.trans e3).trans e4;have pm:p∈p::F:=aH;cases b with
  |false=>
   show(if aq=aj then _ else _);refine⟨xi,HG fr UW,M4,acc,Ext.skip z.ok s e' B,(r3.grow e4 o4).HG (by rw[l3,A]),by simp[HG,l3,A],q4.1,by rw[B.fr p pm];exact hy,B.FA ry,q4.2⟩
  |true=>
   show(if aj=aj then _ else _);refine⟨p::F,xi,UW,M4,r3.grow e4 o4,he _ _ _ _ (λd M5 q5 v α5 H5 e5 o5 r5=>?_) q4⟩;have G:=B.trans e5;have ry5:=G.FA ry;refine⟨by rw[G.fr p pm];exact hy,by rw[<-gL.length _ _ ry];exact q5.2.1,α5,HG fr UW,M5,acc++[d],(Ext.skip z.ok s e' G).RQ s u,(((r3.grow e4 o4).grow e5 o5).HG (by rw[l3,A])).RQ,by simp[HG,l3,A],q5.1,gS,?_,q5.2.2⟩;rw[Dn];exact gL.append _ _ _ _ ry5 (gL.one r5)
 .have e:i=items.length:=by omega
  subst e;rw[List.drop_length] at q';refine .inl ⟨it.stop (p::F) o j f e'.pre C I.ok s',?_⟩;have eE:=e'.er s u;have oE:=I.ok.er u;obtain⟨t1,t2,t3⟩:=z.e o (L3.er p j) f eE oE;have hn:T (L3.er p j) p=am:=z.n p _ s PF;have:=q' p (.lst O) o _ (e1.trans t1) t2 hn ⟨O,rfl,?_⟩
  .rw[z.c p j _ s hy] at this;exact z.h o j f _ e' this
  .refine gL.imp t3 _ _ ?_;rw[UZ I.ok];exact ry
abbrev RR(g:DG):Prop:=∀d a M (P:oM->Ms->Prop),g d a M P->g d a M λb M1=>b.length=a.length/\P b M1
abbrev J9(g:DGs):Prop:=∀d a M (P:oM->Ms->Prop),g d a M P->g d a M λb M1=>b.length=a.length/\P b M1
theorem iY:RR (gZ i):=λd a M P q=>⟨by simp,q⟩
theorem HH:J9 kK:=λd a M P q=>⟨q.1,rfl,q.2⟩
theorem acr(a:J9 gs):RR (kL n gs):=λd b M P q=>by cases d<;>first|exact q.elim|exact⟨q.1,a _ _ _ _ q.2⟩
theorem jM(c:iW X N fr scope)(hi:JI X target iter ti)(a:RR g)
(b:∀C ex cq ig ik,JG (B5 X scope N C ex cq ig ik λ_ _=>False) target g)(ht:∀C ex cq ig ik,JIf (B5 X scope N C ex cq ig ik λ_ _=>False) ifs tt)(e:∀C ex cq ig ik,JE (B5 X scope N C ex cq ig ik λ_ _=>False) elt te)
(i:X.calm=aj:=by rfl)(j:∀x,dX iter X.env x=pure x:=by intro _;rfl):JF X (.ListComp elt [⟨target,iter,ifs,0⟩] scope pos) (l4 fr ti g tt te):=by
 have mg:=(b 0 [] [] X.ig X.ik).mono;have mt:=(ht 0 [] [] X.ig X.ik).mono;have f:=(e 0 [] [] X.ig X.ik).mono;exact⟨λm M P Q w q=>hi.mono _ _ _ _ (λl s M1 q=>⟨q.1,xS mg mt f (λl M q=>w _ _ q) _ _ _ _ q.2⟩) q,
  UR (YK c i hi.p (λ_ _ _ _ _=>(b _ _ _ _ _).p) (λ_ _ _ _ _=>(ht _ _ _ _ _).p) (λ_ _ _ _ _=>(e _ _ _ _ _).p) j) λσ H Q h=>Gu hi mg mt f a h⟩
theorem U0(i:Nat)(s:X.N.Nodup)(c:iW X N fr scope)(hi:JI X target iter ti)(a:RR g)
(b:∀C ex cq ig ik,JG (B5 X scope N C ex cq ig ik λ_ _=>False) target g)(ht:∀C ex cq ig ik,JIf (B5 X scope N C ex cq ig ik λ_ _=>False) ifs tt)(e:∀C ex cq ig ik,JE (B5 X scope N C ex cq ig ik λ_ _=>False) elt te)
(u:X.N[i]?=ae x:=by rfl)(y:Loc X.env.scope x:=by first|exact fF rfl|exact eK rfl)
(f:dB (.ListComp elt [⟨target,iter,ifs,0⟩] scope pos) (ae (.Name x p)) z.line X.env=pure aj:=by rfl)(A:X.fn x=aj\/X.env.scope.names.lookup x=ae .local:=by first|exact .inl rfl|exact .inr rfl|assumption)
(h:X.calm=aj:=by rfl)(j:∀x,dX iter X.env x=pure x:=by intro _;rfl):
  JS X (.Assign [.Name x p] (.ListComp elt [⟨target,iter,ifs,0⟩] scope pos) z) (iO i (j5 (l4 fr ti g tt te))):=by
 have mg:=(b 0 [] [] X.ig X.ik).mono;have mt:=(ht 0 [] [] X.ig X.ik).mono;have B:=(e 0 [] [] X.ig X.ik).mono;have m:JF X (.ListComp elt _ scope pos) _:=jM c hi a b ht e h j;have cv:=YL (g:=lG X.K g) (tt:=lT X.K tt) (te:=lE X.K te) c h hi.p (λ_ _ _ _ _=>(b _ _ _ _ _).p) (λ_ _ _ _ _=>(ht _ _ _ _ _).p) (λ_ _ _ _ _=>(e _ _ _ _ _).p) s u y f A j;refine⟨λP Q n M w q=>?_,Dl cv λE σ H q=>Gu hi mg mt B a ?_⟩
 .unfold iO j5 at q |-;refine m.mono _ _ _ _ ?_ q;exactλo M1 q=>w.nx _ _ q
 .obtain⟨F,α,n,M,r,q⟩:=q;refine⟨F,α,n,M,r,?_⟩;unfold iO j5 at q;refine m.mono _ _ _ _ ?_ q;exactλo M1 q=>fK.qD λv G I e1 J L=>q _ G I e1 ((r.grow e1 J).set L)
end
def gI (C:Int->Int->Prop)(f:Int->Int->D):G2:=λx y M Q=>match x,y with|.int i,.int j=>C i j/\Q (f i j) M|_,_=>False
theorem HI:xw (gI C f):=by
 intro x y M P Q w q;unfold gI at*;split at q
 .exact⟨q.1,w _ _ q.2⟩
 .exact q.elim
def PH (f:Int->Int->D):G2:=λx y M Q=>match x,y with|.int i,.int j=>Q (f i j) M|_,_=>False
theorem Ka:xw (PH f):=by
 intro x y M P Q w q;unfold PH at*;split at q
 .exact w _ _ q
 .exact q.elim
section
variable {X:Cx}
theorem aa0{K:bz}(h:rD K (PH f) x y H Q):∃F α M i j,OK K F α H M/\x=.int i/\y=.int j/\vK K F α H M Q (f i j) M:=by
 obtain⟨F,α,M,c,e,o,a,b,h⟩:=h;unfold PH at h;split at h<;>first|exact h.elim|skip
 exact⟨F,α,M,_,_,o,a,b,h⟩
theorem acs{K:bz}(h:rD K (gI C f) x y H Q):∃F α M i j,OK K F α H M/\x=.int i/\y=.int j/\C i j/\vK K F α H M Q (f i j) M:=by
 obtain⟨F,α,M,c,e,o,a,b,h⟩:=h;unfold gI at h;split at h<;>first|exact h.elim|skip
 exact⟨F,α,M,_,_,o,a,b,h⟩
theorem U1:JO X .Sub (PH λi j=>.int (i- j)):=⟨Ka,λcq s σ H x y v u Q I a b h=>by obtain⟨F,α,M,i,j,o,c,e,h⟩:=aa0 h;exact abS cq s σ H x y v u Q I a b ⟨_,_,c,e,vK.now o h iQ⟩⟩
theorem tH:JO X .FloorDiv (gI As λi j=>.int (i/j)):=⟨HI,λcq s σ H x y v u Q I a b h=>by obtain⟨F,α,M,i,j,o,c,e,h,f⟩:=acs h;exact Yh cq s σ H x y v u Q I a b ⟨_,_,c,e,h,vK.now o f iQ⟩⟩
theorem oQ:JO X .Mod (gI (λ_ j=>0<j) λi j=>.int (i%j)):=⟨HI,λcq s σ H x y v u Q I a b h=>by obtain⟨F,α,M,i,j,o,c,e,h,f⟩:=acs h;exact abU cq s σ H x y v u Q I a b ⟨_,_,c,e,h,vK.now o f iQ⟩⟩
theorem act:JO X .Pow (gI Yg λi j=>.int (i^j.toNat)):=⟨HI,λcq s σ H x y v u Q I a b h=>by obtain⟨F,α,M,i,j,o,c,e,h,f⟩:=acs h;exact abV cq s σ H x y v u Q I a b ⟨_,_,c,e,h,vK.now o f iQ⟩⟩
theorem PK:JC X .Gt (PH λi j=>.bl (decide (j<i))):=⟨Ka,λcq s σ H x y v u Q I a b h=>by obtain⟨F,α,M,i,j,o,c,e,h⟩:=aa0 h;exact aeh cq s σ H x y v u Q I a b ⟨_,_,c,e,vK.now o h iX⟩⟩
def gLt:G2:=λx y M Q=>match x,y with|.int i,.int j=>Q (.bl (decide (i<j))) M|.str i,.str j=>Q (.bl (decide (i.cps.toList<j.cps.toList))) M|_,_=>False
def Cv:G2:=λx y M Q=>match x,y with|.int i,.int j=>Q (.bl (decide (i<=j))) M|.str i,.str j=>Q (.bl (!decide (j.cps.toList<i.cps.toList))) M|_,_=>False
theorem aa1:JC X .Lt gLt:=by
 refine⟨λx y M P Q w q=>?_,λcq s σ H x y v u Q I a b h=>?_⟩
 .unfold gLt at*;split at q<;>first|exact q.elim|exact w _ _ q
 .obtain⟨F,α,M,f,g,o,c,e,h⟩:=h;unfold gLt at h;split at h<;>first|exact h.elim|skip
  .exact aef cq s σ H x y v u Q I a b ⟨_,_,c,e,vK.now o h iX⟩
  .exact Rv cq s σ H x y v u Q I a b ⟨_,_,c,e,vK.now o h iX⟩
theorem pR:JC X .LtE Cv:=by
 refine⟨λx y M P Q w q=>?_,λcq s σ H x y v u Q I a b h=>?_⟩
 .unfold Cv at*;split at q<;>first|exact q.elim|exact w _ _ q
 .obtain⟨F,α,M,f,g,o,c,e,h⟩:=h;unfold Cv at h;split at h<;>first|exact h.elim|skip
  .exact aeg cq s σ H x y v u Q I a b ⟨_,_,c,e,vK.now o h iX⟩
  .exact RO cq s σ H x y v u Q I a b ⟨_,_,c,e,vK.now o h iX⟩
noncomputable def isN:D->Bool
 |.non=>aj
 |_=>aq
theorem PL{K:bz}(h:Rep K α H d v):decide (v=.non)=isN d:=by
 cases d<;>unfold Rep at h;case tup=>obtain⟨_,_,rfl,_⟩:=h;rfl
 case lst=>obtain⟨_,_,rfl,_⟩:=h;rfl
 case jf=>obtain⟨_,_,rfl,_⟩:=h;rfl
 case ins=>obtain⟨_,_,_,rfl,_⟩:=h;rfl
 case exc=>obtain⟨_,_,rfl,_⟩:=h;rfl
 case qH=>obtain⟨_,rfl,_⟩:=h;rfl
 case loc=>obtain⟨_,_,rfl⟩:=h;rfl
 all_goals subst h;rfl
def gIs:G2:=λx y M Q=>match y with|.non=>Q (.bl (isN x)) M|_=>False
def U2:G2:=λx y M Q=>match y with|.non=>Q (.bl (!isN x)) M|_=>False
theorem U3:JC X .Is gIs:=by
 refine⟨λx y M P Q w q=>?_,λcq s σ H x y v u Q I a b h=>?_⟩
 .cases y<;>first|exact q.elim|exact w _ _ q
 .obtain⟨F,α,M,g,c,o,e,f,h⟩:=h;cases c<;>first|exact h.elim|skip
  exact abX cq s σ H x y v u Q I a b ⟨f,by rw[PL e];exact vK.now o h iX⟩
theorem U4:JC X .IsNot U2:=by
 refine⟨λx y M P Q w q=>?_,λcq s σ H x y v u Q I a b h=>?_⟩
 .cases y<;>first|exact q.elim|exact w _ _ q
 .obtain⟨F,α,M,g,c,o,e,f,h⟩:=h;cases c<;>first|exact h.elim|skip
  exact Yj cq s σ H x y v u Q I a b ⟨f,by rw[PL e];exact vK.now o h iX⟩
def j9:G2:=λx y M Q=>match vw M x,vw M y with
 |.int i,.int j=>Q (.int (i+j)) M
 |.str i,.str j=>i.length+j.length<=aE/\Q (.str (i++j)) M
 |.lst xs,.lst a=>xs.length+a.length<=aE/\Q (.lst (xs++a)) M
 |.tup xs,.tup a=>xs≠[]/\xs.length+a.length<=aE/\Q (.tup (xs++a)) M
 |_,_=>False
theorem jO:JO X .Add j9:=by
 refine⟨λx y M P Q w q=>?_,λcq s σ H x y v u Q I j m h=>?_⟩
 .unfold j9 at q |-;generalize vw M x=a at q |-;generalize vw M y=b at q |-;split at q<;>first|exact q.elim|exact w _ _ q|exact⟨q.1,w _ _ q.2⟩|exact⟨q.1,q.2.1,w _ _ q.2.2⟩
 .obtain⟨F,α,M,E,G,o,c,n,h⟩:=h;unfold j9 at h;generalize e1:vw M E=a at h;generalize e2:vw M G=b at h;split at h<;>first|exact h.elim|skip
  .cases xQ e1;cases xQ e2;exact abR cq s σ H x y v u Q I j m ⟨_,_,c,n,vK.now o h iQ⟩
  .cases mQ e1;cases mQ e2;exact ME cq s σ H x y v u Q I j m ⟨_,_,c,n,h.1,vK.now o h.2 nU⟩
  .obtain⟨a,A,rfl,B,f⟩:=ju o c e1;obtain⟨b,us,rfl,C,g⟩:=ju o n e2;have r:=gL.length _ _ f;have z:=gL.length _ _ g;exact acd cq s σ H _ _ v u Q I j m ⟨a,b,A,us,rfl,rfl,B,C,by rw[<-r,<-z];exact h.1,λp i=>vK.new o i h.2 (kZ o i (gL.append _ _ _ _ f g))⟩
  .obtain⟨a,A,rfl,B,f⟩:=mR o c e1;obtain⟨b,us,rfl,C,g⟩:=mR o n e2;have r:=gL.length _ _ f;have z:=gL.length _ _ g;refine Yy cq s σ H _ _ v u Q I j m ⟨a,b,A,us,rfl,rfl,B,C,?_,by rw[<-r,<-z];exact h.2.1,λe=>?_,λ_ p i=>vK.new o i h.2.2 (k7 o i (gL.append _ _ _ _ f g))⟩
   .intro e;subst e;exact h.1 (eA.mp r)
   .subst e;have:=eA.mp z;subst this;refine vK.now o h.2.2 ?_;rw[ba];rw[M9 e1] at c;exact c
noncomputable def RS:D->Option Key
 |.int i=>ae (.inl i)
 |.str x=>ae (.inr x)
 |_=>am
noncomputable def nB(k:Key):List Key->List D->Option D
 |k'::a,d::ds=>if k'=k then ae d else nB k a ds
 |_,_=>am
theorem u7{K:bz}(h:Rep K α H d v)(e:RS d=ae k):v=kV k:=by
 cases d<;>cases e
 .exact h
 .exact h
theorem se{K:bz}:∀(a:List Key) (ds:List D) (b:List V),gL K α H ds b->a.length=ds.length->
  (∀d,nB k a ds=ae d->∃v,rE (a.zip b) k=ae v/\Rep K α H d v)/\(nB k a ds=am->rE (a.zip b) k=am)
 |[],ds,b,h,l=>⟨λd e=>by simp[nB] at e,λ_=>rfl⟩
 |k'::a,[],b,h,l=>by simp at l
 |k'::a,d::ds,b,h,l=>by
  obtain⟨v,r,rfl,z,y⟩:=h;have c:=se (k:=k) a ds r y (by simpa using l);rw[cI];by_cases e:k'=k
  .rw[yQ e];unfold nB;rw[if_pos e];exact⟨λf e'=>⟨v,rfl,by cases e';exact z⟩,λe'=>by cases e'⟩
  .rw[yR e];unfold nB;rw[if_neg e];exact c
theorem YS(c:X.A.units+1<fH):IxR X (λx y H Q=>∃a v,x=.ref a/\yS H a y (ae v)/\Q v H):=by
 intro value slice cq s σ H x y v u Q I e f h i;obtain⟨a,z,rfl,g,q⟩:=h;cases e;refine ag ?_;refine ag (ahB (JY I g) PySem.F.slot_dict_getitem.lookup ?_);have b:wpAny (model X.prog X.w) X.A (subscripted slice aq (.ref a) u) (λr j=>wpAny (model X.prog X.w) X.A (akC value (.ref a) r >>= λ_=>pure r) (EP X cq σ Q) X.xe j) X.xe s:=by rw[i];exact akr (RC c I g f λo s3 m n=>ag (ajM (ak ⟨z,H,m,n,q⟩)))
 first
  |exact ak (ag b)
  |exact ag _
  |exact ag b
def mS:G2:=λx y M Q=>match vw M x,y with
 |.lst xs,.int i=>∃d,Fx xs i=ae d/\Q d M
 |.tup xs,.int i=>∃d,Fx xs i=ae d/\Q d M
 |.qH xs,.int i=>∃d,Fx xs i=ae d/\Q (.int d) M
 |.str z,.int i=>z.length<=aE/\∃c,Fx z.cps.toList i=ae c/\Q (.str ⟨#[c]⟩) M
 |.jf a ds,y=>∃k d,RS y=ae k/\nB k a ds=ae d/\Q d M
 |_,_=>False
theorem jx(J:X.A.units+1<fH):JX X mS:=by
 refine⟨λx y M P Q w q=>?_,λvalue slice cq s σ H x y v u Q I n p h r=>?_⟩
 .unfold mS at q |-;generalize vw M x=a at q |-;split at q<;>first
   |exact q.elim
   | (obtain⟨k,d,f,C,g⟩:=q;exact⟨k,d,f,C,w _ _ g⟩)
   | (obtain⟨d,f,g⟩:=q;exact⟨d,f,w _ _ g⟩)
   | (obtain⟨L,d,f,g⟩:=q;exact⟨L,d,f,w _ _ g⟩)
 .obtain⟨F,α,M,N,db,o,m,b,h⟩:=h;unfold mS at h;generalize e1:vw M N=a at h;split at h<;>first|exact h.elim|skip
  .obtain⟨a,z,rfl,i,B⟩:=ju o m e1;unfold Rep at b;obtain⟨d,e,h⟩:=h;obtain⟨w,E,G⟩:=B.at e;exact Pr value slice cq s σ H _ y v u Q I n p ⟨a,z,_,w,rfl,b,mo.of i,E,vK.now o h G⟩ r
  .obtain⟨a,z,rfl,i,B⟩:=mR o m e1;unfold Rep at b;obtain⟨d,e,h⟩:=h;obtain⟨w,E,G⟩:=B.at e;exact UE value slice cq s σ H _ y v u Q I n p ⟨a,z,_,w,rfl,b,i,E,vK.now o h G⟩ r
  .cases u6 e1;unfold Rep at m b;obtain⟨a,rfl,i⟩:=m;obtain⟨d,e,h⟩:=h;refine Pr value slice cq s σ H _ y v u Q I n p ⟨a,_,_,.int d,rfl,b,kN hW i,?_,vK.now o h iQ⟩ r;unfold Fx at e |-;rw[ar];cases q:ixN _ _ with
   |none=>rw[q] at e;cases e
   |some j=>
    rw[q] at e;show(List.map V.int _)[j]?=_;have e':(_:List Int)[j]?=ae d:=e;rw[bq,e'];rfl
  .cases mQ e1;obtain⟨O,c,e,h⟩:=h;exact ab7 value slice cq s σ H x y v u Q I n p ⟨_,_,c,m,b,O,e,vK.now o h nU⟩ r
  .obtain⟨k,d,f,C,g⟩:=h;obtain⟨a,z,rfl,i,T,B⟩:=oP o m e1;obtain⟨U,Y,rv⟩:=(se _ _ z B T).1 d C;cases u7 b f;exact YS J value slice cq s σ H _ _ v u Q I n p ⟨a,U,rfl,by rw[<-Y];exact yS.kr i,vK.now o g rv⟩ r
noncomputable def cutD{β:Type}(xs:List β)(lo hi:Option Int):List β:=(xs.drop (HT.qA xs.length 0 lo)).take (HT.qA xs.length xs.length hi- HT.qA xs.length 0 lo)
theorem gL.cut{K:bz}(h:gL K α H ds a)(lo hi:Option Int):gL K α H (cutD ds lo hi) (RG a lo hi):=by unfold cutD RG;rw[gL.length _ _ h];exact gL.take _ _ _ (gL.drop _ _ _ h)
end
end L3
end
namespace PySem
open Sem (wp)
open Builtin
section
variable {prog:aQ} {w:bw} {A:bj} {E:ai->ao->Prop} {s:ao}
theorem u8(b:s.heap.IsTupleIter it t i)
(ht:s.heap.IsTuple t items)(e:items[i]?=ae x)
(f:∀c,c.IsTupleIter it t (i+1)->bg it s.heap c->Q x {s with heap:=c}):
  wpAny (model prog w) A (eI (.ref it)) Q E s:=by
 obtain⟨o,a,g,hd⟩:=id b;obtain⟨j,h,_,nl,Jw⟩:=ht;refine ag (cx b.typeIs fv
  (bM fv b.typeIs F.entry_tuple_iterator_next ?_ (F.args_tuple_iterator_next_1 _)))
 show wpAny _ _ (field _ 0 >>= _) _ _ s;refine ag (cJ a hd (x:=.ref t) rfl ?_);refine ag (cJ a hd rfl ?_);refine ag (eS h Jw ?_);simp only [dS,e];refine ag (c5 a hd (by simp) (ak ⟨x,rfl,ak (f _ ?_ (bU ..))⟩));exact⟨_,ck _ a (cX (bZ hd _)),(ahN ..).trans g,by
  rw[bZ hd];simp[dL]⟩
theorem xk(g:A.handled=am)
(b:s.heap.IsTupleIter it l i)(h:s.heap.IsTuple l items)(j:items[i]?=am)
(n:∀c e,gg it s.heap c->(∃o,c.get? e=ae o/\o.cls=.type "StopIteration")->E (.ref e) {s with heap:=c}):
  wpAny (model prog w) A (eI (.ref it)) Q E s:=by
 obtain⟨o,f,q,hd⟩:=id b;obtain⟨r,p,_,nl,Jw⟩:=h;refine ag (cx b.typeIs fv
  (bM fv b.typeIs F.entry_tuple_iterator_next ?_ (F.args_tuple_iterator_next_1 _)))
 show wpAny _ _ (field (.ref it) 0 >>= _) _ _ s;refine ag (cJ f hd (x:=.ref l) rfl ?_);refine ag (cJ f hd (x:=.int i 0) rfl ?_);refine ag (eS p Jw ?_);simp only [dS,j];refine ag (fC (ag (c5 f hd (by simp) ?_)));refine ag ?_;refine ag (m:=akD _ _) (ajN (a:=cC) (by first|rfl|(rfl)) ?_);refine dD ?_ (by size_fits);refine ag (akO ?_);first|rw[g]|rw[g]
 refine ag (ak (wpAny_throw ?_));exact n _ _ (((bU ..).extBut.push _).push _) ⟨_,az _ rfl,rfl⟩
end
theorem Dq(f:A.handled=am)(it l:aw)(g:l≠it)(items:Array ai):
  ah2 prog w A it [it,l] items.size (λi v=>items[i]?=ae v) (λi h=>h.IsTupleIter it l i/\h.IsTuple l items) where
 live:=λ_ _ st=>let⟨o,a,_⟩:=st.1;⟨o,a⟩
 frame:=λ_ _ _ st e=>⟨let⟨o,a,r⟩:=st.1;⟨o,e it (by simp) o a,r⟩,let⟨o,a,r⟩:=st.2;⟨o,e l (by simp) o a,r⟩⟩
 item:=λi s Q E hi st j=>by refine u8 st.1 st.2 (x:=items[i]) (by simp[hi]) λm c b=>?_;exact j _ m s.toks (by simp[hi]) ⟨c,st.2.extBut b.extBut g⟩ b
 done:=λs Q E st n=>xk f st.1 st.2 (by simp) n
theorem pk(D:ah2 prog w A it a n P St)(h:∀i v,P i v->P' i v):ah2 prog w A it a n P' St where
 live:=D.live
 frame:=D.frame
 item:=λi s Q E hi st b=>D.item i s Q E hi st λx c tk p=>b x c tk (h _ _ p)
 done:=D.done
theorem B8(l:aw)(items:Array ai):
  Meets (bH.«enumerate.__new__» ⟨[.type "enumerate",.ref l],[]⟩) (λ_ R s=>s.heap.IsTuple l items/\
   R (.ok (.ret (.ref (s.heap.push {cls:=.type "tuple_iterator",data:=.fields #[.ref l,.int 0 0]}).objs.size)))
    {s with heap:=(s.heap.push {cls:=.type "tuple_iterator",data:=.fields #[.ref l,.int 0 0]}).push {cls:=.type "enumerate",data:=.fields #[.none,.bool aq,.ref s.heap.objs.size,dL 0,.none,.none]}}):=
 .of_wp λprog w A R s h=>by
  obtain⟨i,g,d,tk,os⟩:=s;obtain⟨f,h⟩:=h;have m:=sub_enumerate;have a:av.IsTuple (ao.heap ⟨i,g,d,tk,os⟩) l items:=f;obtain⟨⟨c,jf,j,sl⟩,b,e,n,hd⟩:=f;replace e:c=.type "tuple":=e;replace hd:j=.seq items n:=hd;subst e hd
  wp_walk using fi b
  refine wpAny_stack_any λst=>ak ?_;split
  .rename_i c _ _ _ _ _;cases(c==cU "enumerate")
   .wp_walk using fi b,fV a
    exact⟨_,rfl,h⟩
   .wp_walk using fi b,fV a
    exact⟨_,rfl,h⟩
  .wp_walk using fi b,fV a
   exact⟨_,rfl,h⟩
section
variable {prog:aQ} {w:bw} {A:bj} {E:ai->ao->Prop} {s:ao}
theorem Dr(f:s.heap.IsTuple l items)
(h:∀a,IsEnum a (s.heap.objs.size+1) s.heap.objs.size 0 .none->a.IsTupleIter s.heap.objs.size l 0->a.objs.size=s.heap.objs.size+2->
   (∀b o,s.heap.get? b=ae o->a.get? b=ae o)->Q (.ref (s.heap.objs.size+1)) {s with heap:=a}):
  wpAny (model prog w) A (call (.type "enumerate") [.ref l]) Q E s:=by
 refine callType_new F.called_enumerate (by decide) (F.typeCall_enumerate_1 _) (F.newCall_enumerate_1 _) (λobj=>F.args_object_init_2 obj _) F.entry_enumerate_new
  (B8 l items) ⟨f,?_⟩
 have c:(s.heap.push {cls:=.type "tuple_iterator",data:=.fields #[.ref l,.int 0 0]}).objs.size=s.heap.objs.size+1:=bW ..;rw[c];have e:=by
  have:=az (s.heap.push {cls:=.type "tuple_iterator",data:=.fields #[.ref l,.int 0 0]})
   (o:={cls:=.type "enumerate",data:=.fields #[.none,.bool aq,.ref s.heap.objs.size,dL 0,.none,.none]}) rfl
  rw[c] at this;exact this
 refine⟨⟨_,e,rfl⟩,h _ e ⟨_,ah _ (az _ rfl),rfl,rfl⟩ (by rw[bW,c]) λb o x=>ah _ (ah _ x)⟩
end
open Sem (wp)
open Builtin
structure Gv(z TI TO i1 i2:aw)(RT Kb:List aw):Prop where
 TIz:TI≠z
 TOz:TO≠z
 TITO:TI≠TO
 TIi1:TI≠i1
 TIi2:TI≠i2
 i1m:i1∈RT
 i2m:i2∈Kb
 zf1:z∉RT
 zf2:z∉Kb
 of1:TO∉RT
 of2:TO∉Kb
 aeD:i1∉Kb
 agI:i2∉RT
section
variable {prog:aQ} {w:bw} {A:bj} {E:ai->ao->Prop} {s:ao} {z TI TO i1 i2:aw} {RT Kb:List aw} {n1 n2:Nat} {P1 P2:Nat->ai->Prop} {S1 S2:Nat->av->Prop}
theorem lC(D:ah2 prog w A it a n P St)(st:St i h)(f:bg c h g)(j:c∉a):St i g:=
 D.frame _ _ _ st λb m o e=>f.extBut b o (λq=>j (by rw[<-q];exact m)) e
theorem Az{i:Nat}{a b:ai}{Q:ai->ao->Prop}(Z:Gv z TI TO i1 i2 RT Kb)(B:ah2 prog w A i1 RT n1 P1 S1)(C:ah2 prog w A i2 Kb n2 P2 S2)
(H:ah3 s.heap z TI TO .none)(YT:eT s.heap TI (.ref i1) (.ref i2))(RU:eT s.heap TO a b)(h1:S1 i s.heap)(h2:S2 i s.heap)(l1:i<n1)(l2:i<n2)
(hQ:∀x y h tk,P1 i x->P2 i y->ah3 h z TI TO (dL s.heap.objs.size)->eT h TO x y->S1 (i+1) h->S2 (i+1) h->eT h s.heap.objs.size x y->h.objs.size=s.heap.objs.size+1->
   (∀c o,c≠z->c≠TO->c≠i1->c≠i2->s.heap.get? c=ae o->h.get? c=ae o)->Q (.ref s.heap.objs.size) {s with heap:=h,toks:=tk}):
  wpAny (model prog w) A (bH.«zip.__next__» ⟨[.ref z],[]⟩) (λjn s'=>∃v,jn=.done (.ret v)/\Q v s') E s:=by
 have i1z:i1≠z:=λq=>Z.zf1 (by rw[<-q];exact Z.i1m);have i2z:i2≠z:=λq=>Z.zf2 (by rw[<-q];exact Z.i2m);have acu:TO≠i1:=λq=>Z.of1 (by rw[q];exact Z.i1m);have agJ:TO≠i2:=λq=>Z.of2 (by rw[q];exact Z.i2m);show wpAny _ _ (field (.ref z) 2 >>= _) _ _ _;refine ag (cJ H rfl (x:=.bool aq) rfl ?_);show wpAny _ _ (field (.ref z) 3 >>= _) _ _ _;refine ag (cJ H rfl (x:=.ref TI) rfl ?_);refine ag (eS YT rfl ?_);show wpAny _ _ (eL (.ref z) >>= _) _ _ _;refine ag ?_;unfold eL;refine ag (cJ H rfl (x:=.none) rfl (ak ?_));simp only [if_true];refine ag (fC ?_);refine ag (cJ H rfl (x:=.ref TO) rfl ?_);refine ag (fb H (by simp) λoi Bz I=>?_);replace Bz:ah3 oi z TI TO .ellipsis:=Bz;refine ag ?_;simp only [List.zipIdx_cons,List.zipIdx_nil,ah8,List.forIn_nil];refine ag (ag (aiH ?_));show wpAny _ _ (eI (.ref i1) >>= _) _ _ _;refine ag (B.item i {s with heap:=oi} _ _ l1 (lC B h1 I Z.zf1) λx J YU p1 aa2 j=>ak ?_);replace j:bg i1 oi J:=j;have Ds:eT J TO a b:=j.extBut _ _ acu (I.extBut _ _ Z.TOz RU);refine ag (eS (s:={s with heap:=J,toks:=YU}) Ds rfl ?_);refine ag (aiy (s:={s with heap:=J,toks:=YU}) Ds λY HJ m=>?_);replace HJ:eT Y TO x b:=HJ;replace m:bg TO J Y:=m;refine ag (ai8 (ak ?_));refine ag (ag (aiH ?_));show wpAny _ _ (eI (.ref i2) >>= _) _ _ _;refine ag (C.item i {s with heap:=Y,toks:=YU} _ _ l2 (lC C (lC C (lC C h2 I Z.zf2) j Z.aeD) m Z.of2) λy L g p2 aeE n=>ak ?_);replace n:bg i2 Y L:=n;have U7:eT L TO x b:=n.extBut _ _ agJ HJ;refine ag (eS (s:={s with heap:=L,toks:=g}) U7 rfl ?_);refine ag (aiy (s:={s with heap:=L,toks:=g}) U7 λf HK p=>?_);replace HK:eT f TO x y:=HK;replace p:bg TO L f:=p;refine ag (ai8 (ak (ak ?_)));refine ag (eS (s:={s with heap:=f,toks:=g}) HK rfl ?_);refine ag (ahS ?_);have uR:f.objs.size=s.heap.objs.size:=by rw[p.1,n.1,m.1,j.1,I.1]
 have M:ah3 f z TI TO .ellipsis:=p.extBut _ _ Z.TOz.symm (n.extBut _ _ i2z.symm (m.extBut _ _ Z.TOz.symm (j.extBut _ _ i1z.symm Bz)));have aeF:∀c o,c≠z->c≠TO->c≠i1->c≠i2->s.heap.get? c=ae o->f.get? c=ae o:=λc o r c2 c3 c4 e=>
  p.extBut _ _ c2 (n.extBut _ _ c4 (m.extBut _ _ c2 (j.extBut _ _ c3 (I.extBut _ _ r e))))
 have aeG:S1 (i+1) f:=lC B (lC B (lC B aa2 m Z.of1) n Z.agI) p Z.of1;have aeH:S2 (i+1) f:=lC C aeE p Z.of2;have N:z<f.objs.size:=aB M;refine ag ?_;unfold bH.SmallTypes.ownedTupleHandOut;have aeJ:ah3 (f.push {cls:=.type "tuple",data:=.seq #[x,y]}) z TI TO .ellipsis:=ah _ M;refine ag (fb (s:={s with heap:=f.push {cls:=.type "tuple",data:=.seq #[x,y]},toks:=g}) aeJ (by simp) λu U8 U9=>?_);replace U8:ah3 u z TI TO (dL f.objs.size):=U8;refine fb (s:={s with heap:=u,toks:=g}) U8 (by simp) λG PM O=>?_;replace PM:ah3 G z TI TO (dL f.objs.size):=PM;replace O:bg z u G:=O;have up:∀c o,c≠z->f.get? c=ae o->G.get? c=ae o:=λc o r e=>O.extBut _ _ r (U9.extBut _ _ r (ah _ e));have T:eT G f.objs.size x y:=O.extBut _ _ (du N) (U9.extBut _ _ (du N) (az _ rfl));have U:G.objs.size=f.objs.size+1:=by rw[O.1,U9.1,bW]
 rw[uR] at PM T U;refine ak ⟨_,rfl,?_⟩;show Q (.ref f.objs.size) _;rw[uR];exact hQ x y G g p1 p2 PM (up _ _ Z.TOz HK) (B.frame _ _ _ aeG λc hc o e=>up c o (λq=>Z.zf1 (by rw[<-q];exact hc)) e) (C.frame _ _ _ aeH λc hc o e=>up c o (λq=>Z.zf2 (by rw[<-q];exact hc)) e) T U
  λc o r c2 c3 c4 e=>up c o r (aeF c o r c2 c3 c4 e)
theorem B9(Z:Gv z TI TO i1 i2 RT Kb)(I:ah2 prog w A i1 RT n1 P1 S1)(J:ah2 prog w A i2 Kb n2 P2 S2)
(r:ah3 s.heap z TI TO .none)(YT:eT s.heap TI (.ref i1) (.ref i2))(RU:eT s.heap TO a b)(h1:S1 i s.heap)(h2:S2 i s.heap)(Va:i=n1\/(i<n1/\i=n2))
(hE:∀N e tk,(∀c o,c≠z->c≠TO->c≠i1->c≠i2->s.heap.get? c=ae o->N.get? c=ae o)->(∃o,N.get? e=ae o/\o.cls=.type "StopIteration")->E (.ref e) {s with heap:=N,toks:=tk}):
  wpAny (model prog w) A (bH.«zip.__next__» ⟨[.ref z],[]⟩) Q E s:=by
 have u:i1≠z:=λq=>Z.zf1 (by rw[<-q];exact Z.i1m);have O:i2≠z:=λq=>Z.zf2 (by rw[<-q];exact Z.i2m);have T:TO≠i1:=λq=>Z.of1 (by rw[q];exact Z.i1m);show wpAny _ _ (field (.ref z) 2 >>= _) _ _ _;refine ag (cJ r rfl (x:=.bool aq) rfl ?_);show wpAny _ _ (field (.ref z) 3 >>= _) _ _ _;refine ag (cJ r rfl (x:=.ref TI) rfl ?_);refine ag (eS YT rfl ?_);refine ag ?_;unfold eL;refine ag (cJ r rfl (x:=.none) rfl (ak ?_));simp only [if_true];refine ag (fC ?_);refine ag (cJ r rfl (x:=.ref TO) rfl ?_);refine ag (fb r (by simp) λv L p=>?_);replace L:ah3 v z TI TO .ellipsis:=L;refine ag ?_;simp only [List.zipIdx_cons,List.zipIdx_nil,ah8,List.forIn_nil];refine ag (ag (aiH ?_));rcases Va with rfl|⟨l1,rfl⟩
 .refine ag (I.done {s with heap:=v} _ _ (lC I h1 p Z.zf1) λj e g U=>?_);obtain⟨Y,f,h⟩:=U;replace g:gg i1 v j:=g;have y:ah3 j z TI TO .ellipsis:=g _ _ u.symm L;have n:e≠z:=λx=>by subst x;rw[y] at f;cases f;simp at h
  exact fb (s:={s with heap:=j}) y (by simp) λB _ m=>hE B e s.toks (λc o C _ c3 _ x=>m.extBut _ _ C (g _ _ c3 (p.extBut _ _ C x))) ⟨Y,m.extBut _ _ n f,h⟩
 .refine ag (I.item i {s with heap:=v} _ _ l1 (lC I h1 p Z.zf1) λx j G p1 aa2 g=>ak ?_);replace g:bg i1 v j:=g;have Ds:eT j TO a b:=g.extBut _ _ T (p.extBut _ _ Z.TOz RU);refine ag (eS (s:={s with heap:=j,toks:=G}) Ds rfl ?_);refine ag (aiy (s:={s with heap:=j,toks:=G}) Ds λB HJ m=>?_);replace m:bg TO j B:=m;refine ag (ai8 (ak ?_));refine ag (ag (aiH ?_));refine ag (J.done {s with heap:=B,toks:=G} _ _ (lC J (lC J (lC J h2 p Z.zf2) g Z.aeD) m Z.of2) λDb e M U=>?_);obtain⟨Y,f,h⟩:=U;replace M:gg i2 B Db:=M;have H:ah3 Db z TI TO .ellipsis:=M _ _ O.symm (m.extBut _ _ Z.TOz.symm (g.extBut _ _ u.symm L));have n:e≠z:=λx=>by subst x;rw[H] at f;cases f;simp at h
  exact fb (s:={s with heap:=Db,toks:=G}) H (by simp) λrH _ xy=>hE rH e G (λc o C c2 c3 c4 x=>xy.extBut _ _ C (M _ _ c4 (m.extBut _ _ c2 (g.extBut _ _ c3 (p.extBut _ _ C x))))) ⟨Y,xy.extBut _ _ n f,h⟩
theorem Kd(Z:Gv z TI TO i1 i2 RT Kb)(h:ah2 prog w A.in1 i1 RT n1 P1 S1)(j:ah2 prog w A.in1 i2 Kb n2 P2 S2)
(f:ah3 s.heap z TI TO .none)(m:eT s.heap TI (.ref i1) (.ref i2))(n:eT s.heap TO a b)(p:S1 i s.heap)(q:S2 i s.heap)(r:i<n1)(u:i<n2)
(v:∀x y e tk,P1 i x->P2 i y->ah3 e z TI TO (dL s.heap.objs.size)->eT e TO x y->S1 (i+1) e->S2 (i+1) e->eT e s.heap.objs.size x y->e.objs.size=s.heap.objs.size+1->
   (∀c o,c≠z->c≠TO->c≠i1->c≠i2->s.heap.get? c=ae o->e.get? c=ae o)->Q (ae (.ref s.heap.objs.size)) {s with heap:=e,toks:=tk}):
  wpAny (model prog w) A (pyNext (.ref z)) Q E s:=by
 have g:s.TypeIs (.ref z) "zip":=⟨_,f,rfl⟩;exact ag (dO (cx g aik
  (bM aik g F.entry_zip_next
   (Az Z h j f m n p q r u λx y e tk b1 b2 a1 a2 a3 a4 a5 a6 a7=>ak (v x y e tk b1 b2 a1 a2 a3 a4 a5 a6 a7)) (F.args_zip_next_1 _))))
theorem Nb(Z:Gv z TI TO i1 i2 RT Kb)(j:ah2 prog w A.in1 i1 RT n1 P1 S1)(m:ah2 prog w A.in1 i2 Kb n2 P2 S2)
(g:ah3 s.heap z TI TO .none)(n:eT s.heap TI (.ref i1) (.ref i2))(p:eT s.heap TO a b)(q:S1 i s.heap)(r:S2 i s.heap)(u:i=n1\/(i<n1/\i=n2))
(v:∀f tk,(∀c o,c≠z->c≠TO->c≠i1->c≠i2->s.heap.get? c=ae o->f.get? c=ae o)->Q am {s with heap:=f,toks:=tk}):wpAny (model prog w) A (pyNext (.ref z)) Q E s:=by
 have h:s.TypeIs (.ref z) "zip":=⟨_,g,rfl⟩;refine ag (dO (cx h aik
  (bM aik h F.entry_zip_next (B9 Z j m g n p q r u λf e tk x y=>?_) (F.args_zip_next_1 _))))
 obtain⟨o,B,C⟩:=y;refine ag (gC ⟨o,B,C⟩ akE ?_);exact ak (v _ _ x)
end
def AA (v:ai)(ob:cE)(h:av):Prop:=∀(prog:aQ) (w:bw) (A:bj) (E:ai->ao->Prop) (s:ao) (Q:ai->ao->Prop),s.heap=h->Q (.ref s.heap.objs.size) {s with heap:=s.heap.push ob}->wpAny (model prog w) A (ah7 v) Q E s
abbrev acw(h:av)(a b:cE):av:=(h.push a).push b
abbrev YV(h:av)(a b:cE):av:=(acw h a b).push {cls:=.type "tuple",data:=.seq #[.ref h.objs.size,.ref (h.push a).objs.size]}
abbrev acx(h:av)(a b:cE):av:=(YV h a b).push {cls:=.type "tuple",data:=.seq #[.none,.none]}
abbrev Nc(h:av)(a b:cE):av:=(acx h a b).push {cls:=.type "zip",data:=.fields #[.none,.bool aq,.bool aq,.ref (acw h a b).objs.size,.ref (YV h a b).objs.size]}
theorem HL(v1 j:ai)(a c:cE):
  Meets (bH.«zip.__new__» ⟨[.type "zip",v1,j],[]⟩) (λ_ R s=>AA v1 a s.heap/\AA j c (s.heap.push a)/\
   R (.ok (.ret (.ref (acx s.heap a c).objs.size))) {s with heap:=Nc s.heap a c}):=
 .of_wp λprog w A R s h=>by
  obtain⟨b,g,d,tk,os⟩:=s;obtain⟨e,m,h⟩:=h;have n:=sub_zip;have f:∀(A:bj) (E:ai->ao->Prop) (Q:ai->ao->Prop),Q (.ref b.objs.size) ⟨b.push a,g,d,tk,os⟩->wpAny (model prog w) A (ah7 v1) Q E ⟨b,g,d,tk,os⟩:=λA E Q q=>e prog w A E ⟨b,g,d,tk,os⟩ Q rfl q;have i:=λA E Q q=>m prog w A E ⟨b.push a,g,d,tk,os⟩ Q rfl q
  wp_walk using f _ _ _,i _ _ _
  exact⟨_,rfl,h⟩
section
variable {prog:aQ} {w:bw} {A:bj} {E:ai->ao->Prop} {s:ao}
theorem Ke(u:AA v1 a s.heap)(v:AA n b (s.heap.push a))(y:a.isFreed=aq)(z:b.isFreed=aq)
(h:∀e,ah3 e (s.heap.objs.size+4) (s.heap.objs.size+2) (s.heap.objs.size+3) .none->eT e (s.heap.objs.size+2) (.ref s.heap.objs.size) (.ref (s.heap.objs.size+1))->
   eT e (s.heap.objs.size+3) .none .none->e.get? s.heap.objs.size=ae a->e.get? (s.heap.objs.size+1)=ae b->e.objs.size=s.heap.objs.size+5->
   (∀c o,s.heap.get? c=ae o->e.get? c=ae o)->Q (.ref (s.heap.objs.size+4)) {s with heap:=e}):
  wpAny (model prog w) A (call (.type "zip") [v1,n]) Q E s:=by
 refine callType_new F.called_zip (by decide) (F.typeCall_zip_2 _ _) (F.newCall_zip_2 _ _) (λobj=>F.args_object_init_3 obj _ _) F.entry_zip_new
  (HL v1 n a b) ⟨u,v,?_⟩
 have f:(s.heap.push a).objs.size=s.heap.objs.size+1:=bW ..;have g:(acw s.heap a b).objs.size=s.heap.objs.size+2:=by rw[bW,f]
 have i:(YV s.heap a b).objs.size=s.heap.objs.size+3:=by rw[bW,g]
 have j:(acx s.heap a b).objs.size=s.heap.objs.size+4:=by rw[bW,i]
 have B:(Nc s.heap a b).objs.size=s.heap.objs.size+5:=by rw[bW,j]
 have m:(Nc s.heap a b).get? _=ae _:=az _ rfl;have p:(Nc s.heap a b).get? (YV s.heap a b).objs.size=ae _:=ah _ (az _ rfl);have q:(Nc s.heap a b).get? _=ae _:=ah _ (ah _ (az _ rfl));have r:(Nc s.heap a b).get? (s.heap.push a).objs.size=ae b:=ah _ (ah _ (ah _ (az _ z)));have C:(Nc s.heap a b).get? s.heap.objs.size=ae a:=ah _ (ah _ (ah _ (ah _ (az _ y))));show _/\_;rw[g,i,j] at m;rw[f,g] at q;rw[i] at p;rw[f] at r;rw[j];exact⟨⟨_,m,rfl⟩,h _ m q p C r B λc o x=>
  ah _ (ah _ (ah _ (ah _ (ah _ x))))⟩
end
end PySem
section
open PySem PySem.Spec PyProof.Rows
namespace L2
section
variable {X:Cx} {cq:List (aw×cE)} {σ:L2.St} {H:Hp} {s:ao} {h':av}
theorem Inv.HM(ch:List aw)(I:Inv X cq σ H s)(k:∀b o,b∉ch->s.heap.get? b=ae o->h'.get? b=ae o)(g:∀b∈ch,sW X cq H b):Inv X cq σ H {s with heap:=h',toks:=t'}:=by
 have f:∀b u,H b=ae u->b∉ch:=λb u e z=>by have:=(g b z).1;rw[this] at e;cases e
 have h:=λz=>(g _ z).2.1 rfl;refine I.step (λb i=>?_) (λb o _ _ a e _=>k b o a e) (λb o _ _ a e _=>⟨o.slots,k b o a e⟩) (λ_ _ _ _ n=>n)
  (λb o a e=>⟨o,k b o a e⟩) (λ_ _ e=>e) (λ_ _ _ e=>e) (λb B e=>⟨#[],by rw[e];simp⟩) (λm hm=>?_) (λb u e=>?_) I.bare
 .obtain⟨C,j,E,p,w,x⟩:=g b i;exact⟨p,j,w,x⟩
 .obtain⟨o,es,y,A,r⟩:=hm;exact⟨o,es,y,k _ o h A,r⟩
 .refine(I.iz b u e).sQ (λc v a q=>k c v ?_ q) (λ_ q=>q) λ_ _ q=>q;rcases a with z|z
  .rw[z];exact f b u e
  .exact f c _ z
end
section
variable {X:Cx} {cq:List (aw×cE)} {σ:L2.St} {H:Hp} {s:ao} {h':av}
theorem Inv.HN(ch:List aw)(I:Inv X cq σ H s)(k:∀b o,b∉ch->s.heap.get? b=ae o->h'.get? b=ae o)(i:∀b∈ch,sW X cq H b)(j:s.heap.objs.size<=T)
(w:p.length<=aE)(r:Vals p its)(ht:aiF h' T its.toArray):Inv X cq σ (upd H T (.tup p)) {s with heap:=h',toks:=J}:=by
 have f:∀b u,H b=ae u->b∉ch:=λb u e z=>by have:=(i b z).1;rw[this] at e;cases e
 have g:=I.iz.fresh j;have neT:∀b o,s.heap.get? b=ae o->b≠T:=λb o e=>aO (bp (aB e) j);have x:=λz=>(i _ z).2.1 rfl;refine I.step (λb h=>?_) (λb o _ _ a e _=>k b o a e) (λb o _ _ a e _=>⟨o.slots,k b o a e⟩) (λb o _ e n=>by rw[gM (neT b o e)];exact n)
  (λb o a e=>⟨o,k b o a e⟩) (λb xs e=>by rw[gM (i5 e g)];exact e) (λb o u e=>by rw[gM (i5 e g)];exact e) (λb L e=>⟨#[],by rw[gM (i5 e g),e];simp⟩) (λm hm=>?_) (λb u e=>?_) I.bare
 .obtain⟨M,y,N,A,B,C⟩:=i b h;exact⟨A,y,B,C⟩
 .obtain⟨o,es,E,G,r⟩:=hm;exact⟨o,es,E,k _ o x G,r⟩
 .by_cases h:b=T
  .subst h;rw[gS] at e;cases e;exact⟨w,its,r,ht⟩
  .rw[gM h] at e;refine(I.iz b u e).sQ (λc v a q=>k c v ?_ q) (λc q=>by rw[gM (i5 q g)];exact q) λc xs q=>by rw[gM (i5 q g)];exact q
   rcases a with z|z
   .rw[z];exact f b u e
   .exact f c _ z
end
inductive Sk where
 |L (a:aw)|T (a:aw)|S (z:aJ) (t:akx)
noncomputable def Sk.val:Sk->ai
 |.L a=>.ref a
 |.T a=>.ref a
 |.S z t=>.str z t
noncomputable def Sk.obj:Sk->cE
 |.L a=>{cls:=.type "list_iterator",data:=.fields #[.ref a,.int 0 0]}
 |.T a=>{cls:=.type "tuple_iterator",data:=.fields #[.ref a,.int 0 0]}
 |.S z t=>{cls:=.type (eX z),data:=.fields #[.str z t,.int 0 0]}
def Sk.st(it:aw):Sk->Nat->av->Prop
 |.L a,i,h=>h.IsListIter it a i
 |.T a,i,h=>h.IsTupleIter it a i
 |.S z t,i,h=>h.IsStrIter it (eX z) z t i
def Sk.seq(K:bz)(H:Hp):Sk->List V->Prop
 |.L a,b=>mo K H a b
 |.T a,b=>xr K H a b
 |.S z _,b=>b=z.cps.toList.map λc=>V.str ⟨#[c]⟩
theorem Sk.Dt{k:Sk}(st:k.st it i h):∃o,h.get? it=ae o/\∃n fs,o.cls=.type n/\o.data=.fields fs/\["enumerate","zip","dict_itemiterator","dict_reverseitemiterator","odict_iterator","itertools.zip_longest","itertools.pairwise"].contains n=aq:=by
 cases k with
 |L a=>obtain⟨o,e,c,d⟩:=st;exact⟨o,e,_,_,c,d,by decide⟩
 |T a=>obtain⟨o,e,c,d⟩:=st;exact⟨o,e,_,_,c,d,by decide⟩
 |S z t=>
  obtain⟨o,e,c,d⟩:=st;refine⟨o,e,_,_,c,d,?_⟩;rcases oj with q|q<;>(rw[q];decide)
theorem Sk.y3{k:Sk}(st:k.st it i h)(b:∀o,h.get? it=ae o->c.get? it=ae o):k.st it i c:=by
 cases k with
 |L a=>obtain⟨o,e,r⟩:=st;exact⟨o,b o e,r⟩
 |T a=>obtain⟨o,e,r⟩:=st;exact⟨o,b o e,r⟩
 |S z t=>obtain⟨o,e,r⟩:=st;exact⟨o,b o e,r⟩
theorem Sk.Vc{k:Sk}(e:h.get? it=ae k.obj):k.st it 0 h:=by
 cases k with
 |L a=>exact⟨_,e,rfl,rfl⟩
 |T a=>exact⟨_,e,rfl,rfl⟩
 |S z t=>exact⟨_,e,rfl,rfl⟩
section
variable {X:Cx} {cq:List (aw×cE)} {σ:L2.St} {H:Hp} {s:ao}
theorem Sk.inj(I:Inv X cq σ H s){k:Sk}(h:k.seq X.K H c)(b:k.seq X.K H zs):c=zs:=by
 cases k with
 |L a=>exact I.JJ h b
 |T a=>exact I.F9 h b
 |S z t=>exact h.trans b.symm
theorem YW(I:Inv X cq σ H s)(a:sW X cq H b):H b=am/\X.K.lookup b=am:=by
 refine⟨a.1,?_⟩;cases e:X.K.lookup b with
 |none=>rfl
 |some o=>
  have c:=I.ok.mod.T6 b o e;rcases a.2.2.2.1 with z|z
  .exact absurd z (I.ok.JD b o c)
  .exact absurd (bp (aB c) (bi I.ok.Rq z)) (cS _)
theorem Sk.PN(I:Inv X cq σ H s)(c:sW X cq H b)(h:mo X.K H a f\/xr X.K H a f):a≠b:=λe=>by subst e;obtain⟨g,i⟩:=YW I c;rcases h with((h|⟨_,h⟩)|⟨_,_,_,h,_⟩)|((h|⟨_,h⟩)|⟨_,_,_,h,_⟩);all_goals first|(rw[g] at h;cases h)|(rw[i] at h;cases h)
theorem Sk.draws{A:bj}(I:Inv X cq σ H s)(o:A.handled=am){k:Sk}{f:List V}(g:k.seq X.K H f){it:aw}(N:sW X cq H it){i:Nat}(st:k.st it i s.heap):
  ∃C St,ah2 X.prog X.w A it C f.length (λi v=>∃y,f[i]?=ae y/\RelV y v) St/\St i s.heap/\it∈C/\(∀b,sW X cq H b->b≠it->b∉C)/\∀j h,St j h->k.st it j h:=by
 cases k with
 |L a=>
  obtain⟨its,r,p,Q⟩:=I.list g;have E:a≠it:=Sk.PN I N (.inl g);refine⟨[it,a],(λi h=>h.IsListIter it a i/\h.IsList a its.toArray),?_,⟨st,p.isList⟩,by simp,λb m e=>?_,λj h q=>q.1⟩
  .have D:=pk (P':=λi v=>∃y,f[i]?=ae y/\RelV y v) (ah2.list (prog:=X.prog) (w:=X.w) o it a E its.toArray) (λi v e=>by
    have hi:i<its.length:=by have:=(de.mp e).1;simpa using this
    have n:i<f.length:=by rw[r.length];exact hi
    obtain⟨u,G,J⟩:=r.get (i:=i) (x:=f[i]) (by simp[n]);have:u=v:=by
     have e':its[i]?=ae v:=by simpa using e
     rw[G] at e';exact bn e'
    subst this;exact⟨f[i],by simp[n],J⟩)
   rw[aN,<-r.length] at D;exact D
  .have:=Sk.PN I m (.inl g);simp only [aC,bP,or_false]
   rintro(q|q)
   .exact e q
   .exact this q.symm
 |T a=>
  obtain⟨its,r,p,Q⟩:=I.tuple g;have E:a≠it:=Sk.PN I N (.inr g);refine⟨[it,a],(λi h=>h.IsTupleIter it a i/\h.IsTuple a its.toArray),?_,⟨st,(show s.heap.IsTuple a its.toArray from p)⟩,by simp,λb m e=>?_,λj h q=>q.1⟩
  .have D:=pk (P':=λi v=>∃y,f[i]?=ae y/\RelV y v) (Dq (prog:=X.prog) (w:=X.w) o it a E its.toArray) (λi v e=>by
    have hi:i<its.length:=by have:=(de.mp e).1;simpa using this
    have n:i<f.length:=by rw[r.length];exact hi
    obtain⟨u,G,J⟩:=r.get (i:=i) (x:=f[i]) (by simp[n]);have:u=v:=by
     have e':its[i]?=ae v:=by simpa using e
     rw[G] at e';exact bn e'
    subst this;exact⟨f[i],by simp[n],J⟩)
   rw[aN,<-r.length] at D;exact D
  .have:=Sk.PN I m (.inr g);simp only [aC,bP,or_false]
   rintro(q|q)
   .exact e q
   .exact this q.symm
 |S z t=>
  have g:f=z.cps.toList.map λc=>V.str ⟨#[c]⟩:=g;subst g;have B:∀(i:Nat) (v:ai),(∃(c:Nat) (u:akx),z.cps[i]?=ae c/\v=aij ⟨#[c]⟩ u)->∃y,(z.cps.toList.map λc=>V.str ⟨#[c]⟩)[i]?=ae y/\RelV y v:=by
   rintro i v ⟨c,u,U,Y⟩
   refine⟨.str ⟨#[c]⟩,?_,u,Y⟩;rw[bq,bQ,U];rfl
  have O:(z.cps.toList.map λc=>V.str ⟨#[c]⟩).length=z.cps.size:=by simp
  have key:eX z="str_ascii_iterator"\/eX z="str_iterator":=oj;rcases key with e|e
  .have M:s.heap.IsStrIter it "str_ascii_iterator" z t i:=by rw[<-e];exact st
   refine⟨[it],_,by rw[O];exact pk (ah2.strAscii o it z t) B,M,by simp,λb m e=>by simpa using e,λj h q=>by show h.IsStrIter it (eX z) z t j;rw[e];exact q⟩
  .have M:s.heap.IsStrIter it "str_iterator" z t i:=by rw[<-e];exact st
   refine⟨[it],_,by rw[O];exact pk (ah2.strWide o it z t) B,M,by simp,λb m e=>by simpa using e,λj h q=>by show h.IsStrIter it (eX z) z t j;rw[e];exact q⟩
theorem Sk.iter(I:Inv X cq σ H s){k:Sk}(b:k.seq X.K H f):AA k.val k.obj s.heap:=by
 intro prog w A E g Q e q;cases k with
 |L a=>
  obtain⟨its,r,p,c⟩:=I.list b;exact dF (by rw[e];exact p.isList) q
 |T a=>
  obtain⟨its,r,p,c⟩:=I.tuple b;exact fV (by rw[e];exact(p)) q
 |S z t=>exact aj7 q
theorem Sk.aeK(I:Inv X cq σ H s){k:Sk}(b:k.seq X.K H f)(o:cE):AA k.val k.obj (s.heap.push o):=by
 intro prog w A E g Q e q;cases k with
 |L a=>
  obtain⟨its,r,p,c⟩:=I.list b;exact dF (by rw[e];exact p.isList.push _) q
 |T a=>
  obtain⟨its,r,p,c⟩:=I.tuple b;exact fV (by rw[e];exact av.IsTuple.push (p) _) q
 |S z t=>exact aj7 q
end
theorem Sk.freed(k:Sk):k.obj.isFreed=aq:=by cases k<;>rfl
noncomputable def Ite(K:bz)(k:Sk):It:=⟨λi H=>∃a y,k.seq K H a/\a[i]?=ae y,λi H x b=>∃p,x=.ref p/\H p=am/\∀a,k.seq K H a->∃y,a[i]?=ae y/\b=upd H p (.tup [.int i,y]),λi H=>∃a,k.seq K H a/\a.length=i⟩
theorem RW{P:aQ}{w:bw}{K:bz}{elts:List bE}{n:Nat}{pos:eZ}(k:Sk)(e it:aw)(O:e≠it):Turn P w K (.Tuple elts n pos) (Ite K k) [e,it] e (λi h=>(∃old,IsEnum h e it i old)/\k.st it i h) where
 mem:=by simp
 obj:=λi h st b a=>by
  obtain⟨⟨old,f⟩,s⟩:=st;simp only [aC,bP,or_false] at a;rcases a with rfl|rfl
  .exact⟨_,f,λv z=>by cases z⟩
  .obtain⟨o,e,n,fs,c,d,_⟩:=Sk.Dt s;exact⟨o,e,λv z=>by rw[d] at z;cases z⟩
 keep:=λi h U st Y=>by obtain⟨⟨old,f⟩,s⟩:=st;exact⟨⟨old,Y e (by simp) _ f⟩,Sk.y3 s λo q=>Y it (by simp) o q⟩
 item:=by
  intro X B hw hK hc i cq s σ H E I g st hg;subst B hw hK;obtain⟨ys,y,hq,C⟩:=hg;obtain⟨⟨old,f⟩,j⟩:=st;have m:=g e (by simp);have p:=g it (by simp);have MX:X.A.in1.handled=am:=I.ok.hd hc;obtain⟨fp,St,D,u,hm,xT,js⟩:=Sk.draws I MX hq p j;have W:=WalksT.enumerateD (A:=X.A) D e O (xT e m O) hm;have hi:i<ys.length:=(ap.mp C).1;refine W.item i s _ _ hi ⟨⟨old,f⟩,u⟩ λT acf U tk B hT agK G hk=>⟨.ref T,rfl,?_⟩;obtain⟨t,x,⟨y',J,ry⟩,rfl⟩:=B;have:y'=y:=by rw[C] at J;exact(bn J).symm
  subst this;have hap:=W.apart i T U G;refine W.go elts n pos i T {s with heap:=U,toks:=tk} _ E G λTW L M=>?_;have N:T∉[e,it]:=hap;have Y:=λb o a eb=>M b o a (hk b o a eb);have hTs:TW.IsTuple T #[.int i t,x]:=by obtain⟨o,ho,r⟩:=agK;exact⟨o,M T o N ho,r⟩
  have Vb:H T=am:=I.iz.fresh hT;have I2:Inv X cq σ (upd H T (.tup [.int i,y'])) {s with heap:=TW,toks:=tk}:=I.HN [e,it] Y (λb a=>g b a) hT (by show 2<=aE;decide) (its:=[.int i t,x]) (.cons ⟨t,rfl⟩ (.cons ry .nil)) hTs;refine⟨.ref T,_,I2,rfl,⟨T,rfl,Vb,λzs hz=>?_⟩,⟨L.1,js _ _ L.2⟩,λb a=>?_⟩
  .rw[Sk.inj I hz hq];exact⟨y',C,rfl⟩
  .rw[gM λq=>N (by rw[<-q];exact a)];exact(g b a).1
 done:=by intro X B hw hK hc i cq s σ H E I g st hg;subst B hw hK;obtain⟨ys,hq,C⟩:=hg;obtain⟨⟨old,f⟩,j⟩:=st;have m:=g e (by simp);have p:=g it (by simp);have MX:X.A.in1.handled=am:=I.ok.hd hc;obtain⟨fp,St,D,u,hm,xT,js⟩:=Sk.draws I MX hq p j;have W:=WalksT.enumerateD (A:=X.A) D e O (xT e m O) hm;subst C;exact W.done s _ _ ⟨⟨old,f⟩,u⟩ λU tk hk=>⟨rfl,I.HM [e,it] hk (λb a=>g b a)⟩
 self:=λA i s Q E st h=>by obtain⟨⟨old,f⟩,_⟩:=st;exact aj8 f h
noncomputable def Itz(K:bz)(k k2:Sk):It:=⟨λi H=>∃a zs y z,k.seq K H a/\k2.seq K H zs/\a[i]?=ae y/\zs[i]?=ae z,
 λi H x b=>∃p,x=.ref p/\H p=am/\∀a zs,k.seq K H a->k2.seq K H zs->∃y z,a[i]?=ae y/\zs[i]?=ae z/\b=upd H p (.tup [y,z]),
 λi H=>∃a zs,k.seq K H a/\k2.seq K H zs/\(i=a.length\/(i<a.length/\i=zs.length))⟩
theorem Vd{P:aQ}{w:bw}{K:bz}{elts:List bE}{n:Nat}{pos:eZ}(k k2:Sk)(z TI TO g j:aw)(nd:[z,TI,TO,g,j].Nodup):Turn P w K (.Tuple elts n pos) (Itz K k k2) [z,TI,TO,g,j] z
  (λi h=>ah3 h z TI TO .none/\eT h TI (.ref g) (.ref j)/\(∃a b,eT h TO a b)/\k.st g i h/\k2.st j i h) where
 mem:=by simp
 obj:=λi h st b f=>by
  obtain⟨J,C,⟨a,c,L⟩,M,N⟩:=st;simp only [aC,bP,or_false] at f;rcases f with rfl|rfl|rfl|rfl|rfl
  .exact⟨_,J,λv z=>by cases z⟩
  .exact⟨_,C,λv z=>by cases z⟩
  .exact⟨_,L,λv z=>by cases z⟩
  .obtain⟨o,e,n,fs,c,d,_⟩:=Sk.Dt M;exact⟨o,e,λv z=>by rw[d] at z;cases z⟩
  .obtain⟨o,e,n,fs,c,d,_⟩:=Sk.Dt N;exact⟨o,e,λv z=>by rw[d] at z;cases z⟩
 keep:=λi h h' st O=>by obtain⟨J,C,⟨a,c,L⟩,M,N⟩:=st;exact⟨O z (by simp) _ J,O TI (by simp) _ C,⟨a,c,O TO (by simp) _ L⟩,Sk.y3 M λo q=>O g (by simp) o q,Sk.y3 N λo q=>O j (by simp) o q⟩
 item:=by
  intro X hP hw hK hc i cq s σ H E I m st hg;subst hP hw hK;obtain⟨ys,zs,y,y2,hq,G,hy,T⟩:=hg;obtain⟨J,C,⟨a,c,L⟩,M,N⟩:=st;have p:=m z (by simp);have YT:=m TI (by simp);have RU:=m TO (by simp);have r:=m g (by simp);have x:=m j (by simp);simp only [cL,aC,bP,or_false,not_or,dh,and_true,not_false_eq_true] at nd;obtain⟨⟨n1,n2,n3,n4⟩,⟨n5,n6,n7⟩,⟨n8,n9⟩,B⟩:=nd;have MX:X.A.in1.handled=am:=I.ok.hd hc;obtain⟨fp,St,D,U,hm,Y,js⟩:=Sk.draws I MX hq r M;obtain⟨Kb,St2,D2,acy,hm2,Du,YX⟩:=Sk.draws I MX G x N;have Z:Gv z TI TO g j fp Kb:=⟨bV n1,bV n2,n5,n6,n7,hm,hm2,Y z p n3,Du z p n4,Y TO RU n8,Du TO RU n9,Du g r B,Y j x (bV B)⟩;have l1:i<ys.length:=(ap.mp hy).1;have l2:i<zs.length:=(ap.mp T).1;refine Kd Z D D2 J C L U acy l1 l2 λu v h' tk p1 p2 g1 g2 g3 g4 g5 g6 g7=>⟨.ref s.heap.objs.size,rfl,?_⟩;obtain⟨y',hy',ry⟩:=p1;obtain⟨y2',aeM,ry2⟩:=p2;have e1:y'=y:=by rw[hy] at hy';exact(bn hy').symm
  have e2:y2'=y2:=by rw[T] at aeM;exact(bn aeM).symm
  subst e1 e2;refine wpAny_letOwnedTupleGo_zip (s:={s with heap:=h',toks:=tk}) g1 λTW agL Ve=>?_;replace Ve:bg z h' TW:=Ve;have lt:∀{c o},s.heap.get? c=ae o->s.heap.objs.size≠c:=λe=>du (aB e);have O:∀b o,b∉[z,TI,TO,g,j]->s.heap.get? b=ae o->TW.get? b=ae o:=λb o f eb=>by simp only [aC,bP,or_false,not_or] at f;exact Ve.extBut _ _ f.1 (g7 b o f.1 f.2.2.1 f.2.2.2.1 f.2.2.2.2 eb)
  have hTz:s.heap.objs.size≠z:=lt J;have hTn:s.heap.objs.size∉[z,TI,TO,g,j]:=by
   simp only [aC,bP,or_false,not_or];refine⟨hTz,lt C,lt L,?_,?_⟩
   .obtain⟨o,e,_⟩:=Sk.Dt M;exact lt e
   .obtain⟨o,e,_⟩:=Sk.Dt N;exact lt e
  have hTs:aiF TW s.heap.objs.size #[u,v]:=⟨_,Ve.extBut _ _ hTz g5,rfl,_,rfl⟩;have Vb:H s.heap.objs.size=am:=I.iz.fresh (aD _);have I2:Inv X cq σ (upd H s.heap.objs.size (.tup [y',y2'])) {s with heap:=TW,toks:=tk}:=I.HN [z,TI,TO,g,j] O (λb f=>m b f) (aD _) (by show 2<=aE;decide) (its:=[u,v]) (.cons ry (.cons ry2 .nil)) hTs;have up:∀c o,c≠z->h'.get? c=ae o->TW.get? c=ae o:=λc o hc e=>Ve.extBut _ _ hc e;refine⟨.ref s.heap.objs.size,_,I2,rfl,⟨_,rfl,Vb,λas bs ha f=>?_⟩,⟨agL,up _ _ (bV n1) (g7 _ _ (bV n1) n5 n6 n7 C),⟨_,_,up _ _ (bV n2) g2⟩,Sk.y3 (js _ _ g3) λo q=>up _ _ (bV n3) q,Sk.y3 (YX _ _ g4) λo q=>up _ _ (bV n4) q⟩,λb f=>?_⟩
  .rw[Sk.inj I ha hq,Sk.inj I f G];exact⟨y',y2',hy,T,rfl⟩
  .rw[gM λq=>hTn (by rw[<-q];exact f)];exact(m b f).1
 done:=by intro X hP hw hK hc i cq s σ H E I m st hg;subst hP hw hK;obtain⟨ys,zs,hq,G,Va⟩:=hg;obtain⟨J,C,⟨a,c,L⟩,M,N⟩:=st;have p:=m z (by simp);have YT:=m TI (by simp);have RU:=m TO (by simp);have r:=m g (by simp);have x:=m j (by simp);simp only [cL,aC,bP,or_false,not_or,dh,and_true,not_false_eq_true] at nd;obtain⟨⟨n1,n2,n3,n4⟩,⟨n5,n6,n7⟩,⟨n8,n9⟩,B⟩:=nd;have MX:X.A.in1.handled=am:=I.ok.hd hc;obtain⟨fp,St,D,U,hm,Y,js⟩:=Sk.draws I MX hq r M;obtain⟨Kb,St2,D2,acy,hm2,Du,YX⟩:=Sk.draws I MX G x N;have Z:Gv z TI TO g j fp Kb:=⟨bV n1,bV n2,n5,n6,n7,hm,hm2,Y z p n3,Du z p n4,Y TO RU n8,Du TO RU n9,Du g r B,Y j x (bV B)⟩;refine Nb Z D D2 J C L U acy Va λh' tk hk=>⟨rfl,I.HM [z,TI,TO,g,j] (λb o f eb=>?_) (λb f=>m b f)⟩;simp only [aC,bP,or_false,not_or] at f;exact hk b o f.1 f.2.2.1 f.2.2.2.1 f.2.2.2.2 eb
 self:=λA i s Q E st h=>akn st.1 h
def Nd (K:bz)(H:Hp)(x:V)(b:Sk->Prop):Prop:=(∃a,x=.ref a/\(∃c,mo K H a c)/\b (.L a))\/(∃a,x=.ref a/\(∃c,xr K H a c)/\b (.T a))\/(∃z,x=.str z/\∀t,b (.S z t))
theorem Nd.get{K:bz}(h:Nd K H x c)(r:RelV x u):∃k:Sk,u=k.val/\(∃b,k.seq K H b)/\c k:=by
 rcases h with⟨a,rfl,⟨b,h⟩,q⟩|⟨a,rfl,⟨b,h⟩,q⟩|⟨z,rfl,q⟩
 .exact⟨.L a,r,⟨b,h⟩,q⟩
 .exact⟨.T a,r,⟨b,h⟩,q⟩
 .obtain⟨t,rfl⟩:=r;exact⟨.S z t,rfl,⟨_,rfl⟩,q t⟩
noncomputable def Sk.it(K:bz):Sk->It
 |.L a=>Itl K a
 |.T a=>Itt K a
 |.S z _=>Its z
section
variable {X:Cx} {tg:bE}
def agM (K:bz)(a:TE):TI:=λσ H R=>a σ H λx H1=>Nd K H1 x λk=>R (k.it K) H1
theorem acz(i:PE X e j):PI X tg e (agM X.K j):=by
 intro cq s σ H R I h;refine jQ (i cq s σ H _ I h) λv s1 m=>?_;obtain⟨x,H1,f,n,p⟩:=m;obtain⟨k,rfl,⟨u,r⟩,q⟩:=p.get n;refine(Sk.iter f r) _ _ _ _ s1 _ rfl ?_;have c:∀b∈[s1.heap.objs.size],sW X cq H1 b:=λb c=>by
  have e:=by simpa using c
  subst e;exact f.Mz (aD _) (f.iz.fresh (aD _))
 have g:Inv X cq σ H1 {s1 with heap:=s1.heap.push k.obj}:=f.kept λb o e=>ah _ e;cases k with
 |L a=>exact⟨s1.heap.objs.size,[s1.heap.objs.size],_,_,H1,rfl,g,Rr a _,⟨_,az _ rfl,rfl,rfl⟩,c,q⟩
 |T a=>exact⟨s1.heap.objs.size,[s1.heap.objs.size],_,_,H1,rfl,g,MA a _,⟨_,az _ rfl,rfl,rfl⟩,c,q⟩
 |S z t=>exact⟨s1.heap.objs.size,[s1.heap.objs.size],_,_,H1,rfl,g,UJ _ z t,⟨⟨_,az _ rfl,rfl,rfl⟩,bC _⟩,c,q⟩
def aeN (K:bz)(a:TA):TI:=λσ H R=>a σ H λb H1=>∃x,b=[x]/\Nd K H1 x λk=>R (Ite K k) H1
theorem YY(E:Gl X "enumerate")(hm:X.mg "enumerate"=am)(ha:PA X [a] G)(m:aP [a] X.env=[(aq,eval a X.env)]:=by rfl):
  PI X (.Tuple elts n J) (.Call (.Name "enumerate" p) [a] [] pos) (aeN X.K G):=by
 intro cq s σ H R I h;refine Call_ (xI I E hm boot_enumerate (eD (jQ (ha pos cq s σ H _ I h) λus s1 ⟨Q,H1,g,M,y⟩=>?_) m rfl));obtain⟨x,rfl,y⟩:=y;obtain⟨u,rfl,N⟩:=vals1 M;obtain⟨k,rfl,⟨U,m⟩,q⟩:=y.get N;have B:∀c:av,IsEnum c _ _ 0 .none->k.st _ 0 c->(∀b o,s1.heap.get? b=ae o->c.get? b=ae o)->
   wpAny (model X.prog X.w) X.A _ (PIE X cq σ (.Tuple elts n J) R) X.xe {s1 with heap:=c}:=λc e f v=>by
  refine aj8 e ?_;have ne:s1.heap.objs.size+1≠s1.heap.objs.size:=by omega
  refine⟨s1.heap.objs.size+1,[s1.heap.objs.size+1,s1.heap.objs.size],_,_,H1,rfl,g.kept v,RW k _ _ ne,⟨⟨_,e⟩,f⟩,λb C=>?_,q⟩;have i:s1.heap.objs.size<=b:=by simp only [aC,bP,or_false] at C;rcases C with rfl|rfl<;>omega
  exact g.Mz i (g.iz.fresh i)
 cases k with
 |L a=>
  obtain⟨its,r,pl,O⟩:=g.list m;exact call_enumerate_list pl.isList λc e f v j=>B c e f j
 |T a=>
  obtain⟨its,r,pl,O⟩:=g.tuple m;exact Dr (pl) λc e f v j=>B c e f j
 |S z t=>exact call_enumerate_str λc e f v j=>B c e f j
theorem RX:cb "zip"=ae (.type "zip"):=by decide+kernel
def agN (K:bz)(a:TA):TI:=λσ H R=>a σ H λb H1=>∃x y,b=[x,y]/\Nd K H1 x λk=>Nd K H1 y λk2=>R (Itz K k k2) H1
theorem acA(o:Gl X "zip")(hm:X.mg "zip"=am)(ha:PA X [a,b] r)(g:aP [a,b] X.env=[(aq,eval a X.env),(aq,eval b X.env)]:=by rfl)(f:aP [b] X.env=[(aq,eval b X.env)]:=by rfl):
  PI X (.Tuple elts n L) (.Call (.Name "zip" p) [a,b] [] pos) (agN X.K r):=by
 intro cq s σ H R I h;refine Call_ (xI I o hm RX (eD (jQ (ha pos cq s σ H _ I h) λus s1 ⟨M,H1,c,w,i⟩=>?_) (by rw[g,f]) (by rw[f];rfl)));obtain⟨x,y,rfl,i⟩:=i;obtain⟨u,v,rfl,z,A⟩:=vals2 w;obtain⟨k,rfl,⟨N,g⟩,q⟩:=i.get z;obtain⟨k2,rfl,⟨zs,f⟩,q⟩:=q.get A;refine Ke (Sk.iter c g) (Sk.aeK c f _) k.freed k2.freed λO j B C E G Q J=>?_;refine akn j ?_;refine⟨_,[s1.heap.objs.size+4,s1.heap.objs.size+2,s1.heap.objs.size+3,s1.heap.objs.size,s1.heap.objs.size+1],_,_,H1,rfl,c.kept J,Vd k k2 _ _ _ _ _ (by simp),⟨j,B,⟨_,_,C⟩,Sk.Vc E,Sk.Vc G⟩,λb m=>?_,q⟩;have e:s1.heap.objs.size<=b:=by simp only [aC,bP,or_false] at m;rcases m with rfl|rfl|rfl|rfl|rfl<;>omega
 exact c.Mz e (c.iz.fresh e)
end
end L2
namespace L3
open L2
noncomputable def xU:D->Option (List D)
 |.lst ds=>ae ds
 |.tup ds=>ae ds
 |.qH ns=>ae (ns.map D.int)
 |.str z=>ae (z.cps.toList.map λc=>D.str ⟨#[c]⟩)
 |_=>am
def SkV (d:D)(v:V)(k:Sk):Prop:=match d with
 |.lst _|.qH _=>∃a,v=.ref a/\k=.L a
 |.tup _=>∃a,v=.ref a/\k=.T a
 |.str z=>v=.str z/\∃t,k=.S z t
 |_=>False
section
variable {K:bz} {F α:List aw} {H:Hp} {M:Ms}
theorem Cw(o:OK K F α H M)(r:Rep K α (ja F α M H) d v)(e:xU (vw M d)=ae items)(b:SkV (vw M d) v k):∃g,k.seq K H g/\gL K α (ja F α M H) items g:=by
 generalize e1:vw M d=x at e b;cases x<;>first|(cases e;done)|skip
 .cases e;have e2:=mQ e1;obtain⟨rfl,t,rfl⟩:=b;exact⟨_,rfl,gL.of_map _ _ (λc=>nU) _⟩
 .cases e;obtain⟨a,rfl,rfl⟩:=b;obtain⟨h,f,e3,q,z⟩:=mR o r e1;cases e3;exact⟨f,q,z⟩
 .cases e;obtain⟨a,rfl,rfl⟩:=b;obtain⟨h,f,e3,q,z⟩:=ju o r e1;cases e3;exact⟨f,mo.of q,z⟩
 .cases e;have e2:=u6 e1;subst e2;obtain⟨a,rfl,rfl⟩:=b;obtain⟨h,e3,q⟩:=r;cases e3;exact⟨_,kN hW q,gL.of_map _ _ (λc=>iQ) _⟩
theorem HP(o:OK K F α H M)(r:Rep K α (ja F α M H) d v)(e:xU (vw M d)=ae items)(h:∀k,SkV (vw M d) v k->b k):Nd K H v b:=by
 generalize e1:vw M d=x at e h;cases x<;>first|(cases e;done)|skip
 .have e2:=mQ e1;subst e2;subst r;exact .inr (.inr ⟨_,rfl,λt=>h _ ⟨rfl,t,rfl⟩⟩)
 .obtain⟨a,c,rfl,q,z⟩:=mR o r e1;exact .inr (.inl ⟨a,rfl,⟨_,q⟩,h _ ⟨a,rfl,rfl⟩⟩)
 .obtain⟨a,c,rfl,q,z⟩:=ju o r e1;exact .inl ⟨a,rfl,⟨_,mo.of q⟩,h _ ⟨a,rfl,rfl⟩⟩
 .have e2:=u6 e1;subst e2;obtain⟨a,rfl,q⟩:=r;exact .inl ⟨a,rfl,⟨_,kN hW q⟩,h _ ⟨a,rfl,rfl⟩⟩
end
section
variable {X:Cx} {tg e a b:bE} {te:DE} {tt:DA} {p pos yO:eZ} {elts:List bE} {n:Nat}
def jh (te:DE):DI:=λc M Q=>te c M λd M1=>∃items,xU (vw M1 d)=ae items/\Q items (λf=>vw f d=vw M1 d) M1
theorem iP(J:JE X e te):JI X tg e (jh te):=by
 refine⟨λG M P Q w q=>J.mono G _ _ _ (λd M1 q=>?_) q,PI.weak (acz J.p) λσ H Q q=>?_⟩
 .obtain⟨items,e,q⟩:=q;exact⟨items,e,w _ _ _ q⟩
 .obtain⟨F,α,G,M,r,q⟩:=q;refine⟨F,α,G,M,r,J.mono G _ _ _ (λd M1 q v N H1 e1 O r1=>?_) q⟩;obtain⟨items,ei,q⟩:=q;refine HP O r1 ei λk hk=>q _ N H1 H1 id e1 O (M0.refl O) ?_;have key:∀j f m h,N <+: f->jD (ja F N M1 H1) _->OK X.K j f m h->vw h d=vw M1 d->∃g,k.seq X.K m g/\gL X.K f _ items g:=λj f m h y A s u=>
   Cw s (Rep.mono y A d v r1) (by rw[u];exact ei) (by rw[u];exact hk)
  refine⟨λi j f m h y A s u hi=>?_,λi j f m h x B d' y A s u hd C=>?_,λj f m h y A s u=>?_⟩
  .obtain⟨g,o,E⟩:=key j f m h y A s u;have I:=gL.length _ _ E;cases k with
   |L a=>exact⟨g,g[i],o,by simp⟩
   |T a=>exact⟨g,g[i],o,by simp⟩
   |S z t=>
    show i<z.cps.size;rw[o] at I;simpa[I] using hi
  .obtain⟨g,o,E⟩:=key j f m h y A s u;have U:∀B,B=m->g[i]?=ae x->OK X.K j f B h/\Ext j f m h f B h/\Rep X.K f (ja j f h B) d' x:=λB e Y=>by subst e;obtain⟨d2,e2,r2⟩:=gL.get' _ _ i x E Y;rw[hd] at e2;cases e2;exact⟨s,Ext.refl,r2⟩
   cases k with
   |L a=>exact U _ C.1 (C.2 g o)
   |T a=>exact U _ C.1 (C.2 g o)
   |S z t=>
    obtain⟨e,c,hc,Y⟩:=C;refine U _ e ?_;rw[o,bq,bQ,hc,Y];rfl
  .obtain⟨g,o,E⟩:=key j f m h y A s u;have I:=gL.length _ _ E;cases k with
   |L a=>exact⟨g,o,by omega⟩
   |T a=>exact⟨g,o,by omega⟩
   |S z t=>
    show z.cps.size<=items.length;rw[I,o];simp
def xV (tt:DA):DI:=λc M Q=>tt c M λds M1=>match ds with
 |[d]=>∃items,xU (vw M1 d)=ae items/\Q (items.mapIdx λi d=>.tup [.int i,d]) (λf=>vw f d=vw M1 d) M1
 |_=>False
theorem sf{K:bz}(h:gL K α H [d] c):∃v,c=[v]/\Rep K α H d v:=by obtain⟨v,r,rfl,z,y⟩:=h;subst y;exact⟨v,rfl,z⟩
theorem BA{K:bz}{d e:D}(h:gL K α H [d,e] c):∃v u,c=[v,u]/\Rep K α H d v/\Rep K α H e u:=by obtain⟨v,r,rfl,z,y⟩:=h;obtain⟨u,rfl,w⟩:=sf y;exact⟨v,u,rfl,z,w⟩
theorem wD(ha:JA X [a] tt)(hm:X.mg "enumerate"=am)(U:Gl X "enumerate":=by rfl)(f:aP [a] X.env=[(aq,eval a X.env)]:=by rfl):JI X (.Tuple elts n yO) (.Call (.Name "enumerate" p) [a] [] pos) (xV tt):=by
 refine⟨λC M P Q w q=>ha.mono C _ _ _ (λds M1 q=>?_) q,PI.weak (YY U hm ha.p f) λσ H Q q=>?_⟩
 .match ds,q with
  |[d],⟨items,e,q⟩=>exact⟨items,e,w _ _ _ q⟩
 .obtain⟨F,α,C,M,r,q⟩:=q;refine⟨F,α,C,M,r,ha.mono C _ _ _ (λds M1 q vs L H1 e1 E G=>?_) q⟩;match ds,q,G with
  |[d],⟨items,N,q⟩,G=>
   obtain⟨v,Y,O⟩:=sf G;subst Y;refine⟨v,rfl,HP E O N λk hk=>q _ L H1 H1 id e1 E (M0.refl E) ?_⟩;have key:∀o c g h,L <+: c->jD _ _->OK X.K o c g h->vw h d=vw M1 d->∃j,k.seq X.K g j/\gL X.K c _ items j:=λo c g h u f m s=>
    Cw m (Rep.mono u f d v O) (by rw[s];exact N) (by rw[s];exact hk)
   refine⟨λi o c g h u f m s hi=>?_,λi o c g h x H2 d' u f m s hd I=>?_,λo c g h u f m s=>?_⟩
   .obtain⟨j,z,A⟩:=key o c g h u f m s;have hl:=gL.length _ _ A;rw[fJ] at hi;exact⟨j,j[i]'(by omega),z,by simp⟩
   .obtain⟨j,z,A⟩:=key o c g h u f m s;obtain⟨p,rfl,T,I⟩:=I;obtain⟨y,J,rfl⟩:=I j z;obtain⟨d2,e2,r2⟩:=gL.get' _ _ i y A J;rw[ail,e2] at hd;cases hd;obtain⟨o2,B⟩:=m.laid T;exact⟨o2,B,k7 m T (gL.cons iQ (gL.one r2)) B⟩
   .obtain⟨j,z,A⟩:=key o c g h u f m s;have hl:=gL.length _ _ A;exact⟨j,z,by rw[fJ];omega⟩
def aa7 (tt:DA):DI:=λg M Q=>tt g M λds M1=>match ds with
 |[d,e]=>∃xs c,xU (vw M1 d)=ae xs/\xU (vw M1 e)=ae c/\Q (dG (λa b=>.tup [a,b]) xs c) (λf=>vw f d=vw M1 d/\vw f e=vw M1 e) M1
 |_=>False
theorem acB(ha:JA X [a,b] tt)(hm:X.mg "zip"=am)(hg:Gl X "zip":=by rfl)(h:aP [a,b] X.env=[(aq,eval a X.env),(aq,eval b X.env)]:=by rfl)(Ut:aP [b] X.env=[(aq,eval b X.env)]:=by rfl):
  JI X (.Tuple elts n yO) (.Call (.Name "zip" p) [a,b] [] pos) (aa7 tt):=by
 refine⟨λO M P Q w q=>ha.mono O _ _ _ (λds M1 q=>?_) q,PI.weak (acA hg hm ha.p h Ut) λσ H Q q=>?_⟩
 .match ds,q with
  |[d,e],⟨xs,j,e1,e2,q⟩=>exact⟨xs,j,e1,e2,w _ _ _ q⟩
 .obtain⟨F,α,O,M,r,q⟩:=q;refine⟨F,α,O,M,r,ha.mono O _ _ _ (λds M1 q vs Y H1 e1 T C=>?_) q⟩;match ds,q,C with
  |[d,d2],⟨items,acC,ei,E,q⟩,C=>
   obtain⟨v,u,rfl,C,U⟩:=BA C;refine⟨v,u,rfl,HP T C ei λk hk=>HP T U E λk2 hk2=>q _ Y H1 H1 id e1 T (M0.refl T) ?_⟩;have key:∀m c f g,Y <+: c->jD _ _->OK X.K m c f g->vw g d=vw M1 d->∃j,k.seq X.K f j/\gL X.K c _ items j:=λm c f g A h o s=>
    Cw o (Rep.mono A h d v C) (by rw[s];exact ei) (by rw[s];exact hk)
   have B:∀m c f g,Y <+: c->jD _ _->OK X.K m c f g->vw g d2=vw M1 d2->∃j,k2.seq X.K f j/\gL X.K c _ acC j:=λm c f g A h o s=>
    Cw o (Rep.mono A h d2 u U) (by rw[s];exact E) (by rw[s];exact hk2)
   refine⟨λi m c f g A h o s hi=>?_,λi m c f g x H2 d' A h o s hd hy=>?_,λm c f g A h o s=>?_⟩
   .obtain⟨j,G,I⟩:=key m c f g A h o s.1;obtain⟨zs,J,L⟩:=B m c f g A h o s.2;have hl:=gL.length _ _ I;have YE:=gL.length _ _ L;rw[gE] at hi;exact⟨j,zs,j[i]'(by omega),zs[i]'(by omega),G,J,by simp,by simp⟩
   .obtain⟨j,G,I⟩:=key m c f g A h o s.1;obtain⟨zs,J,L⟩:=B m c f g A h o s.2;obtain⟨p,rfl,YZ,hy⟩:=hy;obtain⟨y,z,hy1,hz1,rfl⟩:=hy j zs G J;obtain⟨x1,e2,U⟩:=gL.get' _ _ i y I hy1;obtain⟨x2,e3,r3⟩:=gL.get' _ _ i z L hz1;rw[aib,e2,e3] at hd;cases hd;obtain⟨o2,N⟩:=o.laid YZ;exact⟨o2,N,k7 o YZ (gL.cons U (gL.one r3)) N⟩
   .obtain⟨j,G,I⟩:=key m c f g A h o s.1;obtain⟨zs,J,L⟩:=B m c f g A h o s.2;have hl:=gL.length _ _ I;have YE:=gL.length _ _ L;refine⟨j,zs,G,J,?_⟩;rw[gE];omega
noncomputable def Dv(lo:Int)(n:Nat):List D:=(cQ n).map λ(i:Nat)=>D.int (lo+(i:Int))
theorem acE{K:bz}{M1:Ms}{lo:Int}:acp K F v H1 M1 (Itr lo n) (Dv lo n) λ_=>True:=by
 refine⟨λi f g h m o q c r hi=>?_,λi f g h m x w y o q c r hd s=>?_,λf g h m o q c r=>?_⟩
 .show i<n;simpa[Dv] using hi
 .obtain⟨rfl,rfl⟩:=s;unfold Dv at hd;rw[bq] at hd;cases e:(cQ n)[i]? with
  |none=>rw[e] at hd;cases hd
  |some j=>
   rw[e] at hd;have:j=i:=by have:=ap.mp e;obtain⟨z,u⟩:=this;simpa using u.symm
   subst this;cases hd;exact⟨c,Ext.refl,iQ⟩
 .show n<=(Dv lo n).length;simp[Dv]
def HQ (tt:DA):DI:=λc M Q=>tt c M λds M1=>match ds with
 |[.int j]=>(-(2^62)<=j/\j<2^62)/\Q (Dv 0 j.toNat) (λ_=>True) M1
 |_=>False
theorem AB(ha:JA X [a] tt)(hm:X.mg "range"=am)(i:Gl X "range":=by rfl)(m:aP [a] X.env=[(aq,eval a X.env)]:=by rfl):JI X tg (.Call (.Name "range" p) [a] [] pos) (HQ tt):=by
 refine⟨λc M P Q w q=>ha.mono c _ _ _ (λds M1 q=>?_) q,PI.weak (Rs i hm ha.p m) λσ H Q q=>?_⟩
 .match ds,q with
  |[.int j],⟨e,q⟩=>exact⟨e,w _ _ _ q⟩
 .obtain⟨F,α,c,M,r,q⟩:=q;refine⟨F,α,c,M,r,ha.mono c _ _ _ (λds M1 q x o H1 e1 g f=>?_) q⟩;match ds,q,f with
  |[.int j],⟨h,q⟩,f=>
   obtain⟨v,s,u⟩:=sf f;subst s;subst u;exact⟨j,rfl,h.1,h.2,q _ o H1 H1 id e1 g (M0.refl g) acE⟩
end
mutual
noncomputable def toP:D->bX
 |.non=>.none
 |.bl b=>.bool b
 |.int i=>.int i
 |.str x=>.str x
 |.tup ds=>.tuple (toPs ds)
 |.lst ds=>.list (toPs ds)
 |.ty _|.jf _ _|.ins _ _ _|.exc _ _ _|.qH _|.loc _|.cls _=>.dict []
noncomputable def toPs:List D->List bX
 |[]=>[]
 |d::ds=>toP d::toPs ds
end
mutual
noncomputable def pl:D->Bool
 |.non|.bl _|.int _=>aj
 |.str x=>dA x
 |.tup ds|.lst ds=>Vf ds
 |.ty _|.jf _ _|.ins _ _ _|.exc _ _ _|.qH _|.loc _|.cls _=>aq
noncomputable def Vf:List D->Bool
 |[]=>aj
 |d::ds=>pl d&&Vf ds
end
mutual
noncomputable def dp:D->Nat
 |.tup ds|.lst ds=>dps ds+1
 |.non|.bl _|.int _|.str _|.ty _|.jf _ _|.ins _ _ _|.exc _ _ _|.qH _|.loc _|.cls _=>0
noncomputable def dps:List D->Nat
 |[]=>0
 |d::ds=>max (dp d) (dps ds)
end
mutual
noncomputable def Dw:D->D->Bool
 |.non,.non=>aj
 |.bl a,.bl b=>a==b
 |.bl a,.int j=>(if a then 1 else 0)==j
 |.int i,.bl b=>i==(if b then 1 else 0)
 |.int i,.int j=>i==j
 |.str x,.str y=>x==y
 |.lst xs,.lst c=>Dx xs c
 |.tup xs,.tup c=>Dx xs c
 |_,_=>aq
noncomputable def Dx:List D->List D->Bool
 |[],[]=>aj
 |x::xs,y::c=>Dw x y&&Dx xs c
 |_,_=>aq
end
mutual
theorem toP_lay:∀d:D,pl d=aj->(toP d).canLay0=aj
 |.non,_=>rfl
 |.bl _,_=>rfl
 |.int _,_=>rfl
 |.str _,h=>by unfold toP;unfold pl at h;simpa[bX.canLay0] using h
 |.tup ds,h=>by unfold toP;unfold pl at h;simp[bX.canLay0,toPs_lay ds h]
 |.lst ds,h=>by unfold toP;unfold pl at h;simp[bX.canLay0,toPs_lay ds h]
 |.ty _,h|.jf _ _,h|.ins _ _ _,h|.exc _ _ _,h|.qH _,h|.loc _,h|.cls _,h=>by unfold pl at h;cases h
theorem toPs_lay:∀ds:List D,Vf ds=aj->bX.canLayAll0 (toPs ds)=aj
 |[],_=>by unfold toPs;rfl
 |d::ds,h=>by unfold Vf at h;rw[aY] at h;unfold toPs;simp[bX.canLayAll0,toP_lay d h.1,toPs_lay ds h.2]
end
mutual
theorem toP_depth:∀d:D,(toP d).depth<=dp d+1
 |.non|.bl _|.int _|.str _=>by unfold toP;simp[gq]
 |.tup ds=>by unfold toP dp;have:=toPs_depth ds;simp only [gq];omega
 |.lst ds=>by unfold toP dp;have:=toPs_depth ds;simp only [gq];omega
 |.ty _|.jf _ _|.ins _ _ _|.exc _ _ _|.qH _|.loc _|.cls _=>by unfold toP;simp[gq,bX.depthKv]
theorem toPs_depth:∀ds:List D,ah0 (toPs ds)<=dps ds+1
 |[]=>by unfold toPs;simp[ah0]
 |d::ds=>by unfold toPs dps;have a:=toP_depth d;have b:=toPs_depth ds;simp only [ah0];omega
end
mutual
theorem toP_eqv:∀x y:D,pl x=aj->pl y=aj->(toP x).eqv (toP y)=Dw x y
 |.non,y,_,h=>by cases y<;>first|(unfold pl at h;cases h;done)|(unfold toP Dw;rfl)
 |.bl a,y,_,h=>by cases y<;>first|(unfold pl at h;cases h;done)|(unfold toP Dw;rfl)
 |.int a,y,_,h=>by cases y<;>first|(unfold pl at h;cases h;done)|(unfold toP Dw;rfl)
 |.str a,y,_,h=>by cases y<;>first|(unfold pl at h;cases h;done)|(unfold toP Dw;rfl)
 |.tup xs,y,g,h=>by
  cases y<;>first|(unfold pl at h;cases h;done)|skip
  case tup b=>unfold pl at g h;unfold toP Dw;simp only [bX.eqv];exact toPs_eqv xs b g h
  all_goals unfold toP Dw;rfl
 |.lst xs,y,g,h=>by
  cases y<;>first|(unfold pl at h;cases h;done)|skip
  case lst b=>unfold pl at g h;unfold toP Dw;simp only [bX.eqv];exact toPs_eqv xs b g h
  all_goals unfold toP Dw;rfl
 |.ty _,_,g,_|.jf _ _,_,g,_|.ins _ _ _,_,g,_|.exc _ _ _,_,g,_|.qH _,_,g,_|.loc _,_,g,_|.cls _,_,g,_=>by unfold pl at g;cases g
theorem toPs_eqv:∀x y:List D,Vf x=aj->Vf y=aj->bX.eqvAll (toPs x) (toPs y)=Dx x y
 |[],[],_,_=>by unfold toPs Dx;rfl
 |[],y::b,_,_=>by unfold toPs Dx;rfl
 |x::xs,[],_,_=>by unfold toPs Dx;rfl
 |x::xs,y::b,g,h=>by unfold Vf at g h;rw[aY] at g h;unfold toPs Dx;simp only [bX.eqvAll];rw[toP_eqv x y g.1 h.1,toPs_eqv xs b g.2 h.2]
end
mutual
theorem Rep.reads {X:Cx} {cq:List (aw×cE)} {σ:L2.St} {H:Hp} {s:ao} {α:List aw} (I:Inv X cq σ H s):∀(d:D) (x:V) (v:ai),Rep X.K α H d x->RelV x v->pl d=aj->∃as,Reads s.heap v (toP d) as
 |.non,x,v,h,r,_=>by unfold Rep at h;subst h;cases r;unfold toP;exact⟨_,.none⟩
 |.bl _,x,v,h,r,_=>by unfold Rep at h;subst h;cases r;unfold toP;exact⟨_,.bool _⟩
 |.int _,x,v,h,r,_=>by unfold Rep at h;subst h;obtain⟨t,rfl⟩:=r;unfold toP;exact⟨_,.int _ _⟩
 |.str _,x,v,h,r,_=>by unfold Rep at h;subst h;obtain⟨t,rfl⟩:=r;unfold toP;exact⟨_,.str _ _⟩
 |.tup ds,x,v,h,r,c=>by unfold Rep at h;obtain⟨a,b,rfl,q,z⟩:=h;cases r;obtain⟨its,f,⟨o,e,cl,n,dd⟩,_⟩:=I.tuple q;obtain⟨as,w⟩:=gL.reads I ds b its z f (by unfold pl at c;exact c);unfold toP;exact⟨_,.tuple e cl dd (by simpa using w)⟩
 |.lst ds,x,v,h,r,c=>by unfold Rep at h;obtain⟨a,b,rfl,q,z⟩:=h;cases r;obtain⟨_,its,n,f,e⟩:=I.iz a _ q;obtain⟨as,w⟩:=gL.reads I ds b its z f (by unfold pl at c;exact c);unfold toP;exact⟨_,.list e rfl rfl (by simpa using w)⟩
 |.ty _,x,v,h,r,c|.jf _ _,x,v,h,r,c|.ins _ _ _,x,v,h,r,c|.exc _ _ _,x,v,h,r,c|.qH _,x,v,h,r,c|.loc _,x,v,h,r,c|.cls _,x,v,h,r,c=>by unfold pl at c;cases c
theorem gL.reads {X:Cx} {cq:List (aw×cE)} {σ:L2.St} {H:Hp} {s:ao} {α:List aw} (I:Inv X cq σ H s):∀(ds:List D) (xs:List V) (b:List ai),gL X.K α H ds xs->Vals xs b->Vf ds=aj->∃as,ReadsAll s.heap b (toPs ds) as
 |[],xs,b,h,r,_=>by unfold gL at h;subst h;cases r;unfold toPs;exact⟨_,.nil⟩
 |d::ds,xs,b,h,r,c=>by
  unfold gL at h;obtain⟨x,g,rfl,q,z⟩:=h;unfold Vf at c;rw[aY] at c;unfold toPs;cases r with
  |cons i j=>
   obtain⟨as,m⟩:=Rep.reads I d x _ q i c.1;obtain⟨bs,p⟩:=gL.reads I ds g _ z j c.2;exact⟨_,.cons m p⟩
end
theorem wE(h:pl d=aj)(hd:dp d<=60):SeqAt.shaped (toP d)=aj:=by unfold SeqAt.shaped;have:=toP_depth d;rw[toP_lay d h];exact decide_eq_true (by omega)
section
variable {X:Cx}
def okE (x y:D):Prop:=pl x=aj/\pl y=aj/\dp x<=60/\dp y<=60
def Nf (x y:D)(Q:Bool->Prop):Prop:=match x,y with
 |.str a,.str b=>Q (a==b)
 |.int a,.int b=>Q (a==b)
 |x,y=>okE x y/\Q (Dw x y)
theorem Gw(w:∀b,P b->Q b)(h:Nf x y P):Nf x y Q:=by
 unfold Nf at h |-;split<;>simp only at h
 .exact w _ h
 .exact w _ h
 .exact⟨h.1,w _ h.2⟩
def Ca:G2:=λx y M Q=>Nf (vw M x) (vw M y) λb=>Q (.bl b) M
def gNe:G2:=λx y M Q=>Nf (vw M x) (vw M y) λb=>Q (.bl (!b)) M
theorem PP(p:X.A.units+64<fH)(I:L2.Inv X cq σ H s)(f:RelV x v)(g:RelV y u)(o:OK X.K F α H M)
(m:Rep X.K α (ja F α M H) E x)(n:Rep X.K α (ja F α M H) G y)(h:Nf (vw M E) (vw M G) C)(neg:Bool)(c:∀b,C b->Q (.bl (if neg then !b else b)) H):
  wpAny (model X.prog X.w) X.A (compareOp (if neg then .NotEq else .Eq) v u) (EP X cq σ Q) X.xe s:=by
 unfold Nf at h;split at h
 .rename_i a b e1 e2;cases mQ e1;cases mQ e2;subst m n;have e:decide _=(a==b):=Hw;cases neg with
  |false=>exact aaN cq s σ H _ _ v u Q I f g ⟨rfl,by rw[e];exact c _ h⟩
  |true=>exact aaO cq s σ H _ _ v u Q I f g ⟨rfl,by rw[e];exact c _ h⟩
 .rename_i a b e1 e2;cases xQ e1;cases xQ e2;subst m n;have e:decide _=(a==b):=Hv;cases neg with
  |false=>exact aaN cq s σ H _ _ v u Q I f g ⟨rfl,by rw[e];exact c _ h⟩
  |true=>exact aaO cq s σ H _ _ v u Q I f g ⟨rfl,by rw[e];exact c _ h⟩
 .obtain⟨⟨i,j,q,r⟩,h⟩:=h;obtain⟨as,z⟩:=Rep.reads I _ x v (Rep.mono (aS _) hW _ _ (Ax o _ _ m)) f i;obtain⟨bs,B⟩:=Rep.reads I _ y u (Rep.mono (aS _) hW _ _ (Ax o _ _ n)) g j;cases neg with
  |false=>
   refine eq_dataH z B (wE i q) (wE j r) p ⟨.bl _,H,I,rfl,?_⟩;rw[toP_eqv _ _ i j];exact c _ h
  |true=>
   refine ne_dataH z B (wE i q) (wE j r) p ⟨.bl _,H,I,rfl,?_⟩;rw[toP_eqv _ _ i j];exact c _ h
theorem lR(a:X.A.units+64<fH):JC X .Eq Ca:=by refine⟨λx y M P Q w q=>Gw (λb q=>w _ _ q) q,λcq s σ H x y v u Q I c e h=>?_⟩;obtain⟨F,α,M,i,j,o,f,g,h⟩:=h;exact PP a I c e o f g h aq λb q=>vK.now o q iX
theorem Kf(a:X.A.units+64<fH):JC X .NotEq gNe:=by refine⟨λx y M P Q w q=>Gw (λb q=>w _ _ q) q,λcq s σ H x y v u Q I c e h=>?_⟩;obtain⟨F,α,M,i,j,o,f,g,h⟩:=h;exact PP a I c e o f g h aj λb q=>vK.now o q iX
noncomputable def fl:D->Bool
 |.non|.bl _|.int _|.str _=>aj
 |_=>aq
noncomputable def vOf:D->V
 |.bl b=>.bl b
 |.int i=>.int i
 |.str x=>.str x
 |_=>.non
theorem Dy{K:bz}(h:fl d=aj)(r:Rep K α H d v):v=vOf d/\xt v=aj:=by
 cases d<;>first|(cases h;done)|skip
 all_goals subst r;exact⟨rfl,rfl⟩
theorem aeO(h:fl x=aj)(g:fl y=aj):YB (vOf x) (vOf y)=Dw x y:=by
 cases x<;>first|(cases h;done)|skip
 all_goals cases y<;>first|(cases g;done)|(rfl)
theorem y4{K:bz}(b:fl x=aj):∀(ds:List D) (a:List V),ds.all fl=aj->gL K α H ds a->a.all xt=aj/\inV (vOf x) a=ds.any λy=>Dw y x
 |[],a,_,h=>by subst h;exact⟨rfl,rfl⟩
 |d::ds,a,g,h=>by obtain⟨v,r,rfl,z,y⟩:=h;rw[ahL,aY] at g;obtain⟨e,c⟩:=y4 b ds r g.2 y;obtain⟨e1,e2⟩:=Dy g.1 z;subst e1;refine⟨by rw[ahL,e2,e];rfl,?_⟩;unfold inV at c |-;rw[dH,dH,aeO g.1 b,c]
theorem BB{K:bz}(h:gL K α H ds b)(c:a.length=ds.length):(rE (a.zip b) k).isSome=(nB k a ds).isSome:=by
 obtain⟨f,g⟩:=se a ds b h c;cases e:nB k a ds with
 |none=>rw[g e];rfl
 |some d=>obtain⟨j,i,_⟩:=f d e;rw[i];rfl
noncomputable def inD(x y:D):Option Bool:=match y with
 |.lst ds=>if(fl x&&ds.all fl)=aj then ae (ds.any λy=>Dw y x) else am
 |.tup ds=>if(fl x&&ds.all fl)=aj then ae (ds.any λy=>Dw y x) else am
 |.str j=>match x with
  |.str i=>ae (!(ahv j i 0 j.length 1).isEmpty)
  |_=>am
 |.jf a ds=>match RS x with
  |some k=>ae (nB k a ds).isSome
  |none=>am
 |_=>am
def Vg (neg:Bool):G2:=λx y M Q=>∃b,inD x (vw M y)=ae b/\Q (.bl (if neg then !b else b)) M
theorem Kg:xw (Vg neg):=by
 rintro x y M P Q w ⟨b,e,q⟩
 exact⟨b,e,w _ _ q⟩
theorem Vh(C:X.A.units+1<fH):JC X .In (Vg aq):=by
 refine⟨Kg,λcq s σ H x y v u Q I g i h=>?_⟩;obtain⟨F,α,M,E,G,o,j,m,b,c,h⟩:=h;generalize e1:vw M G=z at c;unfold inD at c;cases z<;>first|(cases c;done)|skip
 .have e2:=mQ e1;subst e2;subst m;cases E<;>first|(cases c;done)|skip
  subst j;cases c;exact Rx cq s σ H _ _ v u Q I g i ⟨_,_,rfl,rfl,vK.now o h iX⟩
 .obtain⟨a,n,rfl,q,f⟩:=mR o m e1;simp only at c;split at c
  .rename_i e;rw[aY] at e;cases c;obtain⟨p,r⟩:=Dy e.1 j;obtain⟨w,B⟩:=y4 e.1 _ _ e.2 f;refine Gi cq s σ H _ _ v u Q I g i ⟨a,n,rfl,.inr q,r,w,?_⟩;subst p;rw[B];exact vK.now o h iX
  .cases c
 .obtain⟨a,n,rfl,q,f⟩:=ju o m e1;simp only at c;split at c
  .rename_i e;rw[aY] at e;cases c;obtain⟨p,r⟩:=Dy e.1 j;obtain⟨w,B⟩:=y4 e.1 _ _ e.2 f;refine Gi cq s σ H _ _ v u Q I g i ⟨a,n,rfl,.inl (mo.of q),r,w,?_⟩;subst p;rw[B];exact vK.now o h iX
  .cases c
 .obtain⟨a,n,rfl,q,J,f⟩:=oP o m e1;simp only at c;split at c
  .rename_i k L;cases c;cases u7 j L;obtain rfl:u=bA a:=i;refine agp C I (yS.kr q) g λO N=>⟨.bl _,H,N,rfl,?_⟩;rw[BB f J];exact vK.now o h iX
  .cases c
theorem y6(C:X.A.units+1<fH):JC X .NotIn (Vg aj):=by
 refine⟨Kg,λcq s σ H x y v u Q I g i h=>?_⟩;obtain⟨F,α,M,E,G,o,j,m,b,c,h⟩:=h;generalize e1:vw M G=z at c;unfold inD at c;cases z<;>first|(cases c;done)|skip
 .have e2:=mQ e1;subst e2;subst m;cases E<;>first|(cases c;done)|skip
  subst j;cases c;exact Hx cq s σ H _ _ v u Q I g i ⟨_,_,rfl,rfl,vK.now o h iX⟩
 .obtain⟨a,n,rfl,q,f⟩:=mR o m e1;simp only at c;split at c
  .rename_i e;rw[aY] at e;cases c;obtain⟨p,r⟩:=Dy e.1 j;obtain⟨w,B⟩:=y4 e.1 _ _ e.2 f;refine yV cq s σ H _ _ v u Q I g i ⟨a,n,rfl,.inr q,r,w,?_⟩;subst p;rw[B];exact vK.now o h iX
  .cases c
 .obtain⟨a,n,rfl,q,f⟩:=ju o m e1;simp only at c;split at c
  .rename_i e;rw[aY] at e;cases c;obtain⟨p,r⟩:=Dy e.1 j;obtain⟨w,B⟩:=y4 e.1 _ _ e.2 f;refine yV cq s σ H _ _ v u Q I g i ⟨a,n,rfl,.inl (mo.of q),r,w,?_⟩;subst p;rw[B];exact vK.now o h iX
  .cases c
 .obtain⟨a,n,rfl,q,J,f⟩:=oP o m e1;simp only at c;split at c
  .rename_i k L;cases c;cases u7 j L;obtain rfl:u=bA a:=i;refine Yq C I (yS.kr q) g λO N=>⟨.bl _,H,N,rfl,?_⟩;rw[BB f J];exact vK.now o h iX
  .cases c
end
section
variable {X:Cx} {a b c e:bE} {es rest:List bE} {ta tb tc te:DE} {tA:DT} {tt:DA} {pos p p2 p3:eZ} {x:aJ}
abbrev DO:=oM->Ms->(Option Int->Ms->Prop)->Prop
def lO (K:bz)(t:DO):TO:=λσ H Q=>∃F α g M,R K F α H σ g M/\t g M λi h=>∀j f,Ext F α H M j f h->OK K F j f h->Q i f
structure JOp(X:Cx)(e:Option bE)(t:DO):Prop where
 mono:∀δ M (P Q:Option Int->Ms->Prop),(∀d M,P d M->Q d M)->t δ M P->t δ M Q
 p:PO X e (lO X.K t)
theorem PO.weak{e:Option bE}{t f:TO}(h:PO X e t)(w:∀σ H Q,f σ H Q->t σ H Q):PO X e f:=by intro cq s σ H Q I q;exact h cq s σ H Q I (w σ H Q q)
def qK:DO:=λ_ M Q=>Q am M
def u9 (te:DE):DO:=λf M Q=>te f M λd M1=>match d with|.int i=>Q (ae i) M1|_=>False
theorem pS:JOp X am qK:=⟨λf M P Q w q=>w _ _ q,PO.weak Yw λσ H Q ⟨F,α,f,M,r,q⟩=>q α H Ext.refl r.ok⟩
theorem l7(h:JE X e te):JOp X (ae e) (u9 te):=by
 refine⟨λf M P Q w q=>h.mono f _ _ _ (λd M1 q=>?_) q,PO.weak (Yx h.p) λσ H Q q=>?_⟩
 .cases d<;>first|exact q.elim|exact w _ _ q
 .obtain⟨F,α,f,M,r,q⟩:=q;refine⟨F,α,f,M,r,h.mono f _ _ _ (λd M1 q v i H1 e1 j g=>?_) q⟩;cases d<;>first|exact q.elim|skip
  unfold Rep at g;exact⟨_,g,q i H1 e1 j⟩
def Y0 (te:DE)(tl th:DO):DE:=λg M Q=>te g M λd M1=>tl g M1 λlo M2=>th g M2 λhi f=>match vw f d with
 |.lst xs=>Q (.lst (cutD xs lo hi)) f
 |.qH xs=>Q (.lst (cutD (xs.map D.int) lo hi)) f
 |.tup xs=>¬(HT.qA xs.length 0 lo=0/\HT.qA xs.length xs.length hi=xs.length)/\Q (.tup (cutD xs lo hi)) f
 |.str z=>z.length<=aE/\Q (.str (Txt.slice z lo hi)) f
 |_=>False
theorem Kh{lo hi:Option bE}{tl th:DO}(E:JE X e te)(s:JOp X lo tl)(G:JOp X hi th):JE X (.Subscript e (.Slice lo hi am p2) pos) (Y0 te tl th):=by
 refine⟨λg M P Q w q=>E.mono g _ _ _ (λd M1 q=>s.mono g _ _ _ (λi M2 q=>G.mono g _ _ _ (λj f q=>?_) q) q) q,PE.weak (UD (YA.or (ab6.or acj)) E.p s.p G.p) λσ H Q q=>?_⟩
 .generalize vw f d=z at q |-;cases z<;>first|exact q.elim|exact w _ _ q|exact⟨q.1,w _ _ q.2⟩
 .obtain⟨F,α,g,M,r,q⟩:=q;refine⟨F,α,g,M,r,E.mono g _ _ _ (λd M1 q v J H1 e1 L N=>⟨F,J,g,M1,r.grow e1 L,s.mono g _ _ _ (λi M2 q O U e2 T=>⟨F,O,g,M2,r.grow (e1.trans e2) T,G.mono g _ _ _ (λj f q y A e3 h=>?_) q⟩) q⟩) q⟩;have xx:=(e1.trans e2).trans e3;have o:=(e2.trans e3).rep N;have m:(match vw f d with
   |.lst xs=>vK X.K F y A f Q (.lst (cutD xs i j)) f
   |.qH xs=>vK X.K F y A f Q (.lst (cutD (xs.map D.int) i j)) f
   |.tup xs=>¬(HT.qA xs.length 0 i=0/\HT.qA xs.length xs.length j=xs.length)/\vK X.K F y A f Q (.tup (cutD xs i j)) f
   |.str z=>z.length<=aE/\vK X.K F y A f Q (.str (Txt.slice z i j)) f
   |_=>False):=by generalize vw f d=z at q |-;cases z<;>first|exact q.elim|exact vK.grow xx _ _ q|exact⟨q.1,vK.grow xx _ _ q.2⟩
  clear q;generalize B:vw f d=z at m;cases z<;>first|exact m.elim|skip
  .cases mQ B;unfold Rep at o;exact .inr (.inr ⟨_,o,m.1,vK.now h m.2 nU⟩)
  .obtain⟨a,I,rfl,u,C⟩:=mR h o B;have s:=gL.length _ _ C;refine .inr (.inl ⟨a,I,rfl,u,by rw[<-s];exact m.1,λp n=>vK.new h n m.2 (k7 h n (gL.cut C i j))⟩)
  .obtain⟨a,I,rfl,u,C⟩:=ju h o B;exact .inl ⟨a,I,rfl,mo.of u,λp n=>vK.new h n m (kZ h n (gL.cut C i j))⟩
  .cases u6 B;unfold Rep at o;obtain⟨a,rfl,u⟩:=o;refine .inl ⟨a,_,rfl,kN hW u,λp n=>vK.new h n m (kZ h n (gL.cut (gL.of_map _ _ (λc=>iQ) _) i j))⟩
def Y1 (te:DE):DE:=λf M Q=>te f M λd M1=>match d with|.int i=>Q (.int (-i)) M1|_=>False
theorem Vi(h:JE X e te):JE X (.UnaryOp .USub e pos) (Y1 te):=by
 refine⟨λf M P Q w q=>h.mono f _ _ _ (λd M1 q=>?_) q,PE.weak (aed abW h.p) λσ H Q q=>?_⟩
 .cases d<;>first|exact q.elim|exact w _ _ q
 .obtain⟨F,α,f,M,r,q⟩:=q;refine⟨F,α,f,M,r,h.mono f _ _ _ (λd M1 q v i H1 e1 j g=>?_) q⟩;cases d<;>first|exact q.elim|skip
  unfold Rep at g;exact⟨_,g,q _ i H1 e1 j iQ⟩
def y7:G2:=λx y M Q=>match vw M x,y with
 |.int i,.int j=>Ru i j/\Q (.int (i*j)) M
 |.lst xs,.int k=>(-(2^63)<=k/\k<2^63/\xs.length*k.toNat<=aE)/\Q (.lst (bL k.toNat xs).flatten) M
 |.str z,.int k=>MulOk z k/\Q (.str (Txt.mul z k)) M
 |_,_=>False
theorem Ng:sY X (binaryOp .Mult) (λx y H Q=>∃z k,x=.str z/\y=.int k/\MulOk z k/\Q (.str (Txt.mul z k)) H):=by intro cq s σ H x y v u Q I f g h;obtain⟨z,k,rfl,rfl,ok,q⟩:=h;obtain⟨t,rfl⟩:=f;obtain⟨i,rfl⟩:=g;exact SB.mul ok λi k=>⟨.str _,H,I.tok _,⟨_,rfl⟩,q⟩
theorem pT:JO X .Mult y7:=by
 refine⟨λx y M P Q w q=>?_,λcq s σ H x y v u Q I i j h=>?_⟩
 .unfold y7 at q |-;generalize vw M x=a at q |-;split at q<;>first|exact q.elim|exact⟨q.1,w _ _ q.2⟩
 .obtain⟨F,α,M,r,C,o,g,f,h⟩:=h;unfold y7 at h;generalize e1:vw M r=a at h;split at h<;>first|exact h.elim|skip
  .cases xQ e1;unfold Rep at g f;exact abT cq s σ H x y v u Q I i j ⟨_,_,g,f,h.1,vK.now o h.2 iQ⟩
  .obtain⟨a,z,rfl,A,m⟩:=ju o g e1;unfold Rep at f;subst f;have B:=gL.length _ _ m;exact ace cq s σ H _ _ v u Q I i j ⟨a,_,z,rfl,rfl,A,h.1.1,h.1.2.1,by rw[<-B];exact h.1.2.2,λp n=>vK.new o n h.2 (kZ o n (gL.rep m _))⟩
  .cases mQ e1;unfold Rep at g f;exact Ng cq s σ H x y v u Q I i j ⟨_,_,g,f,h.1,vK.now o h.2 nU⟩
noncomputable def agO:D->Option Nat
 |.lst ds=>ae ds.length
 |.tup ds=>ae ds.length
 |.qH ns=>ae ns.length
 |.str z=>if z.length<=aE then ae z.length else am
 |.jf f _=>ae f.length
 |_=>am
def vf:GN:=λds M Q=>match ds with
 |[d]=>∃n:Nat,agO (vw M d)=ae n/\Q (.int n) M
 |_=>False
theorem mx:JB X (.builtin "len") vf:=by
 refine⟨λds M P Q w q=>?_,λcq s σ H xs us Q I rs h=>?_⟩
 .match ds,q with
  |[d],⟨n,e,q⟩=>exact⟨n,e,w _ _ q⟩
 .obtain⟨F,α,M,ds,o,u,h⟩:=h;match ds,h,u with
  |[d],⟨n,f,q⟩,u=>
   obtain⟨v,E,g⟩:=sf u;subst E;generalize e1:vw M d=z at f;cases z<;>first|(cases f;done)|skip
   .cases mQ e1;unfold Rep at g;subst g;rename_i y _;have f:(if y.length<=aE then ae y.length else am)=ae n:=f;by_cases A:y.length<=aE
    .rw[if_pos A] at f;cases f;exact HC cq s σ H _ us Q I rs ⟨_,rfl,A,vK.now o q iQ⟩
    .rw[if_neg A] at f;cases f
   .cases f;obtain⟨a,r,rfl,i,j⟩:=mR o g e1;have m:=gL.length _ _ j;refine sZ cq s σ H _ us Q I rs ⟨a,r,rfl,.inr i,?_⟩;rw[<-m];exact vK.now o q iQ
   .cases f;obtain⟨a,r,rfl,i,j⟩:=ju o g e1;have m:=gL.length _ _ j;refine sZ cq s σ H _ us Q I rs ⟨a,r,rfl,.inl (mo.of i),?_⟩;rw[<-m];exact vK.now o q iQ
   .cases f;obtain⟨a,r,rfl,i,C,j⟩:=oP o g e1;have m:=gL.length _ _ j;obtain⟨J,rfl,B⟩:=vals1 rs;cases B;refine ael I i λt L G=>⟨.int _,H,G,⟨t,rfl⟩,?_⟩;rw[cY,<-m,C,Nat.min_self,<-C];exact vK.now o q iQ
   .cases u6 e1;cases f;unfold Rep at g;obtain⟨a,rfl,i⟩:=g;refine sZ cq s σ H _ us Q I rs ⟨a,_,rfl,.inl (kN hW i),?_⟩;rw[ar];exact vK.now o q iQ
def RZ:GN:=λds M Q=>match ds with
 |[d]=>∃bs:List Bool,vw M d=.lst (bs.map D.bl)/\Q (.bl (bs.all id)) M
 |_=>False
theorem Ki{K:bz}{α:List aw}{H:Hp}:∀(bs:List Bool) (f:List V),gL K α H (bs.map D.bl) f->f=bs.map V.bl
 |[],f,h=>by unfold gL at h;exact h
 |b::bs,f,h=>by rw[aX] at h;unfold gL at h;obtain⟨v,r,rfl,z,y⟩:=h;unfold Rep at z;subst z;rw[Ki bs r y];rfl
theorem HR(g:X.calm=aj:=by rfl):JB X (.builtin "all") RZ:=by
 refine⟨λds M P Q w q=>?_,λcq s σ H xs us Q I rs h=>?_⟩
 .match ds,q with
  |[d],⟨n,e,q⟩=>exact⟨n,e,w _ _ q⟩
 .obtain⟨F,α,M,ds,o,f,h⟩:=h;match ds,h,f with
  |[d],⟨bs,i,q⟩,f=>
   obtain⟨v,j,m⟩:=sf f;subst j;obtain⟨a,r,rfl,u,y⟩:=ju o m i;have:=Ki bs r y;subst this;exact UK g cq s σ H _ us Q I rs ⟨a,bs,rfl,mo.of u,vK.now o q iX⟩
noncomputable def kd:D->Option String
 |.non=>ae "NoneType"
 |.bl _=>ae "bool"
 |.int _=>ae "int"
 |.str _=>ae "str"
 |.tup _=>ae "tuple"
 |.lst _|.qH _=>ae "list"
 |.jf _ _=>ae "dict"
 |_=>am
noncomputable def isK(k n:String):Option Bool:=if(["int","bool","str","tuple","list","dict"].contains n&&["NoneType","bool","int","str","tuple","list","dict"].contains k)=aj then ae (k==n||(k=="bool"&&n=="int")) else am
noncomputable def isT(n:String)(d:D):Option Bool:=match kd d with
 |some k=>isK k n
 |none=>am
theorem Y2{K:bz}:(["int","bool","str","tuple","list","dict"].all λn=>["NoneType","bool","int","str","tuple","list","dict"].all λk=>dt K (.type k) (.type n)==isK k n)=aj:=rfl
theorem Y3{K:bz}{k n:String}{b:Bool}(h:isK k n=ae b):dt K (.type k) (.type n)=ae b:=by
 have g:=h;unfold isK at h;split at h
 .rename_i f;rw[aY,eY,eY] at f;rw[eq_of_beq (bR.mp (bR.mp (Y2 (K:=K)) n f.1) k f.2),g]
 .cases h
structure PQ(K:bz)(C:aw):Prop where
 cl:Pk K C
 ha:dr K (.ref C) "__class__"=ae (ae (.builtin "object.__class__"))
 hn:W.specialIn K (.builtin "object.__class__") "__get__"=ae (ae (.builtin "getset_descriptor.__get__"))
 htk:W.takesIn K (.builtin "object.__class__")=ae aj
 hm:W.mroIn K C (.type "object")=ae aj
noncomputable def tyv:D->Option ai
 |.non=>ae (.type "NoneType")
 |.bl _=>ae (.type "bool")
 |.int _=>ae (.type "int")
 |.str _=>ae (.type "str")
 |.tup _=>ae (.type "tuple")
 |.lst _|.qH _=>ae (.type "list")
 |.jf _ _=>ae (.type "dict")
 |.ins C _ _=>ae (.ref C)
 |_=>am
theorem Y4{K:bz}{n:String}{d:D}{b:Bool}(h:isT n d=ae b):∃t,tyv d=ae t/\dt K t (.type n)=ae b/\∀C ns es,d≠.ins C ns es:=by cases d<;>first|(cases h;done)|exact⟨_,rfl,Y3 h,λ_ _ _ z=>by cases z⟩
theorem Kj{cq:List (aw×cE)}{s:ao}{σ:L2.St}{H:Hp}(I:L2.Inv X cq σ H s){F α:List aw}{M:Ms}{d:D}{x:V}{u t c:ai}{B:Bool}{Q:ai->ao->Prop}(o:OK X.K F α H M)(r:Rep X.K α (ja F α M H) d x)(g:RelV x u)
(f:tyv (vw M d)=ae t)(hi:∀C ns es,vw M d=.ins C ns es->PQ X.K C)(e:dt X.K t c=ae B)(h:∀tk,Q (.bool B) {s with toks:=tk}):wpAny (model X.prog X.w) X.A (call (.builtin "isinstance") [u,c]) Q X.xe s:=by
 generalize e1:vw M d=z at f hi;cases z<;>first|(cases f;done)|skip
 case non=>
  have:d=.non:=by cases d with
   |loc k=>rcases tG e1 with e|⟨y,E,e⟩<;>first|cases e|(cases y<;>cases e)
   |_=>exact e1
  subst this;unfold Rep at r;subst r;cases f;exact pJ I g .non e h
 case bl G=>
  have:d=.bl G:=by cases d with
   |loc k=>rcases tG e1 with e|⟨y,E,e⟩<;>first|cases e|(cases y<;>cases e)
   |_=>exact e1
  subst this;unfold Rep at r;subst r;cases f;exact pJ I g (.bl _) e h
 case int=>
  cases xQ e1;unfold Rep at r;subst r;cases f;exact pJ I g (.int _) e h
 case str=>
  cases mQ e1;unfold Rep at r;subst r;cases f;exact pJ I g (.str _) e h
 case tup=>
  cases f;obtain⟨a,q,rfl,i,v⟩:=mR o r e1;obtain rfl:u=bA a:=g;obtain⟨its,J,⟨ob,j,m,_⟩,_⟩:=I.tuple i;exact W.kia_one W.kitx_tuple I.qE ⟨ob,j,m⟩ e (λz=>nomatch z) h
 case lst=>
  cases f;obtain⟨a,q,rfl,i,v⟩:=ju o r e1;exact pJ I g (.lst i) e h
 case jf=>
  cases f;obtain⟨a,q,rfl,i,L,v⟩:=oP o r e1;obtain rfl:u=bA a:=g;obtain⟨_,_,N,_,ob,_,_,j,m,_⟩:=uG I.iz i;exact W.kia_one W.kitx_dict I.qE ⟨ob,j,m.1⟩ e (λz=>nomatch z) h
 case ins=>
  cases f;obtain⟨a,O,q,rfl,i,L,v⟩:=M8 o r e1;have k:=hi _ _ _ rfl;exact pJ I g (.ins i k.cl k.ha k.hn k.htk k.hm) e h
 case qH=>
  cases f;cases u6 e1;unfold Rep at r;obtain⟨a,rfl,i⟩:=r;obtain rfl:u=bA a:=g;obtain⟨its,J,⟨ob,n,j,m,_⟩,_⟩:=I.list (kN hW i);exact W.kia_one W.kitx_list I.qE ⟨ob,j,m⟩ e (λz=>nomatch z) h
def lD (K:bz):GN:=λds M Q=>match ds with
 |[d,.ty n]=>∃b,isT n (vw M d)=ae b/\Q (.bl b) M
 |[d,.cls C]=>∃t b,tyv (vw M d)=ae t/\(∀C ns es,vw M d=.ins C ns es->PQ K C)/\dt K t (.ref C)=ae b/\Q (.bl b) M
 |_=>False
theorem jF:JB X (.builtin "isinstance") (lD X.K):=by
 refine⟨λds M P Q w q=>?_,λcq s σ H xs us Q I rs h=>?_⟩
 .match ds,q with
  |[d,.ty n],⟨b,e,q⟩=>exact⟨b,e,w _ _ q⟩
  |[d,.cls n],⟨t,b,e1,e2,e3,q⟩=>exact⟨t,b,e1,e2,e3,w _ _ q⟩
 .obtain⟨F,α,M,ds,o,f,h⟩:=h;match ds,h,f with
  |[d,.ty n],⟨b,e,q⟩,f=>
   obtain⟨v,u,i,j,g⟩:=BA f;subst i;unfold Rep at g;subst g;obtain⟨A,m,rfl,r,y⟩:=vals2 rs;obtain rfl:m=cU n:=y;obtain⟨t,e1,e2,e3⟩:=Y4 (K:=X.K) e;exact Kj I o j r e1 (λC ns es z=>absurd z (e3 C ns es)) e2 λtk=>⟨.bl b,H,I.tok tk,rfl,vK.now o q iX⟩
  |[d,.cls C],⟨t,b,e1,e2,e3,q⟩,f=>
   obtain⟨v,u,i,j,g⟩:=BA f;subst i;unfold Rep at g;subst g;obtain⟨A,m,rfl,r,y⟩:=vals2 rs;obtain rfl:m=bA C:=y;exact Kj I o j r e1 e2 e3 λtk=>⟨.bl b,H,I.tok tk,rfl,vK.now o q iX⟩
def HS:GN:=λds M Q=>match ds with
 |[d]=>match vw M d with
  |.lst xs=>Q (.tup xs) M
  |.tup xs=>Q (.tup xs) M
  |_=>False
 |_=>False
theorem Dz:JB X (.type "tuple") HS:=by
 refine⟨λds M P Q w q=>?_,λcq s σ H xs us Q I rs h=>?_⟩
 .match ds,q with
  |[d],q=>
   have q:(match vw M d with|.lst xs=>P (.tup xs) M|.tup xs=>P (.tup xs) M|_=>False):=q;show(match vw M d with|.lst xs=>Q (.tup xs) M|.tup xs=>Q (.tup xs) M|_=>False);generalize vw M d=z at q |-;cases z<;>first|exact q.elim|exact w _ _ q
 .obtain⟨F,α,M,ds,o,f,h⟩:=h;match ds,h,f with
  |[d],q,f=>
   obtain⟨v,r,g⟩:=sf f;subst r;have q:(match vw M d with|.lst xs=>vK X.K F α H M Q (.tup xs) M|.tup xs=>vK X.K F α H M Q (.tup xs) M|_=>False):=q;generalize e1:vw M d=z at q;cases z<;>first|exact q.elim|skip
   .cases M9 e1;obtain⟨a,i,rfl,j,m⟩:=mR o g e1;exact xu cq s σ H _ us Q I rs ⟨a,i,rfl,.inr ⟨j,vK.now o q g⟩⟩
   .obtain⟨a,i,rfl,j,m⟩:=ju o g e1;exact xu cq s σ H _ us Q I rs ⟨a,i,rfl,.inl ⟨mo.of j,λp n=>vK.new o n q (k7 o n m)⟩⟩
abbrev GF:=List D->Ms->(OD->Ms->Prop)->Prop
def rDF (K:bz)(g:GF):List V->Hp->VK->Prop:=λxs H Q=>∃F α M ds,OK K F α H M/\gL K α (ja F α M H) ds xs/\g ds M (fK K F α H M Q)
structure JBF(X:Cx)(f:ai)(g:GF):Prop where
 mono:∀xs M (P Q:OD->Ms->Prop),(∀d M,P d M->Q d M)->g xs M P->g xs M Q
 p:mF X f (rDF X.K g)
def TX (g:GF)(tt:DA):DF:=λf M Q=>tt f M λds M1=>g ds M1 Q
theorem Vj{T:String}{g:GF}(o:JBF X (.type T) g)(hm:X.mg x=am)(h:cb x=ae (.type T))(ha:JA X (e::es) tt)(i:Gl X x:=by rfl)(hn:x≠"__name__":=by decide)(j:(x==("__debug__":aJ))=aq:=by decide)
(m:aP (e::es) X.env=(aq,eval e X.env)::aP es X.env:=by rfl)(n:(c9 pos (aP es X.env)).any (·.1)=aq:=by rfl):JF X (.Call (.Name x p) (e::es) [] pos) (TX g tt):=by refine⟨λf M P Q w q=>ha.mono f _ _ _ (λds M1 q=>o.mono _ _ _ _ w q) q,PE.weak (rZ o.p i hm h ha.p hn j m n) λσ H Q q=>?_⟩;obtain⟨F,α,f,M,r,q⟩:=q;exact⟨F,α,f,M,r,ha.mono f _ _ _ (λds M1 q y s H1 e1 u v=>⟨F,s,M1,ds,u,v,o.mono _ _ _ _ (fK.grow e1) q⟩) q⟩
theorem Y5{id:String}{g:GF}(o:JBF X (.builtin id) g)(hm:X.mg x=am)(h:cb x=ae (.builtin id))(ha:JA X (e::es) tt)(i:Gl X x:=by rfl)(hn:x≠"__name__":=by decide)(j:(x==("__debug__":aJ))=aq:=by decide)
(m:aP (e::es) X.env=(aq,eval e X.env)::aP es X.env:=by rfl)(n:(c9 pos (aP es X.env)).any (·.1)=aq:=by rfl):JF X (.Call (.Name x p) (e::es) [] pos) (TX g tt):=by refine⟨λf M P Q w q=>ha.mono f _ _ _ (λds M1 q=>o.mono _ _ _ _ w q) q,PE.weak (yP o.p i hm h ha.p hn j m n) λσ H Q q=>?_⟩;obtain⟨F,α,f,M,r,q⟩:=q;exact⟨F,α,f,M,r,ha.mono f _ _ _ (λds M1 q y s H1 e1 u v=>⟨F,s,M1,ds,u,v,o.mono _ _ _ _ (fK.grow e1) q⟩) q⟩
def DB:GF:=λds M Q=>match ds with
 |[d]=>match vw M d with
  |.lst xs=>Q (.lst xs) M
  |.tup xs=>Q (.lst xs) M
  |.qH xs=>Q (.lst (xs.map D.int)) M
  |_=>False
 |_=>False
theorem y9:JBF X (.type "list") DB:=by
 refine⟨λds M P Q w q=>?_,λcq s σ H xs us Q I rs h=>?_⟩
 .match ds,q with
  |[d],q=>
   have q:(match vw M d with|.lst xs=>P (.lst xs) M|.tup xs=>P (.lst xs) M|.qH xs=>P (.lst (xs.map D.int)) M|_=>False):=q;show(match vw M d with|.lst xs=>Q (.lst xs) M|.tup xs=>Q (.lst xs) M|.qH xs=>Q (.lst (xs.map D.int)) M|_=>False);generalize vw M d=z at q |-;cases z<;>first|exact q.elim|exact w _ _ q
 .obtain⟨F,α,M,ds,o,m,h⟩:=h;match ds,h,m with
  |[d],q,m=>
   obtain⟨v,r,j⟩:=sf m;subst r;have q:(match vw M d with|.lst xs=>fK X.K F α H M Q (.lst xs) M|.tup xs=>fK X.K F α H M Q (.lst xs) M|.qH xs=>fK X.K F α H M Q (.lst (xs.map D.int)) M|_=>False):=q;generalize e1:vw M d=z at q;cases z<;>first|exact q.elim|skip
   .obtain⟨a,f,rfl,g,n⟩:=mR o j e1;exact pc cq s σ H _ us Q I rs ⟨a,f,rfl,.inr g,λp i=>q p _ α H Ext.refl o i ⟨f,rfl,n⟩⟩
   .obtain⟨a,f,rfl,g,n⟩:=ju o j e1;exact pc cq s σ H _ us Q I rs ⟨a,f,rfl,.inl (mo.of g),λp i=>q p _ α H Ext.refl o i ⟨f,rfl,n⟩⟩
   .cases u6 e1;unfold Rep at j;obtain⟨a,rfl,g⟩:=j;exact pc cq s σ H _ us Q I rs ⟨a,_,rfl,.inl (kN hW g),λp i=>q p _ α H Ext.refl o i ⟨_,rfl,gL.of_map _ _ (λc=>iQ) _⟩⟩
end
noncomputable def Kl(f:aJ):List aJ->List D->Option D
 |n::ns,d::ds=>if n=f then ae d else Kl f ns ds
 |_,_=>am
theorem Nh{v:V}{ns:List aJ}:(((n,v)::ns.zip a).lookup f)=if n=f then ae v else(ns.zip a).lookup f:=by
 rw[dJ];by_cases h:n=f
 .subst h;simp
 .have:(f==n)=aq:=by simpa usingλz=>h z.symm
  rw[this,if_neg h]
theorem DC{K:bz}:∀(ns:List aJ) (ds:List D) (a:List V),gL K α H ds a->ns.length=ds.length->
  (∀d,Kl f ns ds=ae d->∃v,(ns.zip a).lookup f=ae v/\Rep K α H d v)/\(Kl f ns ds=am->(ns.zip a).lookup f=am)
 |[],ds,a,h,l=>⟨λd e=>by simp[Kl] at e,λ_=>rfl⟩
 |n::ns,[],a,h,l=>by simp at l
 |n::ns,d::ds,a,h,l=>by
  obtain⟨v,r,rfl,z,y⟩:=h;have b:=DC (f:=f) ns ds r y (by simpa using l);rw[cI,Nh];unfold Kl;by_cases e:n=f
  .rw[if_pos e,if_pos e];exact⟨λc e'=>⟨v,rfl,by cases e';exact z⟩,λe'=>by cases e'⟩
  .rw[if_neg e,if_neg e];exact b
structure Gx(K:bz)(C:aw)(f:aJ):Prop where
 cl:Pk K C
 na:kY K C f
section
variable {X:Cx} {a b c e o value:bE} {es rest:List bE} {ta tb tc te to tv:DE} {tA:DT} {tt:DA} {pos sV p p2 p3 apos jo:eZ} {x f m:aJ}
def Vk (K:bz)(f:aJ)(te:DE):DE:=λg M Q=>te g M λd M1=>∃C ns ds x,vw M1 d=.ins C ns ds/\Gx K C f/\Kl f ns ds=ae x/\Q x M1
theorem PR(h:JE X e te)(u:dz e f X.env (eval e X.env)=eval e X.env:=by rfl):JE X (.Attribute e f pos) (Vk X.K f te):=by
 refine⟨λg M P Q w q=>h.mono g _ _ _ (λd M1 q=>?_) q,PE.weak (abY h.p u) λσ H Q q=>?_⟩
 .obtain⟨C,ns,ds,x,j,i,n,q⟩:=q;exact⟨C,ns,ds,x,j,i,n,w _ _ q⟩
 .obtain⟨F,α,g,M,r,q⟩:=q;refine⟨F,α,g,M,r,h.mono g _ _ _ (λd M1 q v y H1 e1 s z=>?_) q⟩;obtain⟨C,ns,ds,x,j,i,n,q⟩:=q;obtain⟨a,A,B,rfl,E,G,I⟩:=M8 s z j;obtain⟨v,J,L⟩:=(DC ns ds B I G).1 x n;exact⟨a,C,A,_,v,rfl,E,i.cl,i.na,J,q v y H1 e1 s L⟩
abbrev FE:=aw->aJ->GN->Prop
structure pU(P:aQ)(w:bw)(K:bz)(mg:aJ->Option ai)(cv:av)(k:Nat)(C:aw)(m:aJ)(g:GN):Prop where
 mono:qI g
 cl:Pk K C
 ok:∃f fd ps,Meth K C m f/\Binds K fd ps []/\jR P w K mg cv rF k f fd ps (lY K g)
def Gy (T:FE)(m:aJ)(to:DE)(tt:DA):DE:=λh M Q=>to h M λd M1=>∃C ns es g,vw M1 d=.ins C ns es/\Kl m ns es=am/\T C m g/\tt h M1 λds M2=>g (d::ds) M2 Q
theorem zc{pl:Sem Bool}(N:∀C g,T C m g->pU X.prog X.w X.K X.mg X.cv k C m g)(Y:iV k X.A)(B:JE X o to)
(ht:eval (.Call (.Attribute o m apos) [] [] pos) X.env=(do
   let O<-eval o X.env
   ai9 apos.atName
   let(f,first)<-holding [O] (ai0 O m pl)
   akF pos f first (c9 pos (aP [] X.env)) (aie pos (eW [] X.env))):=by rfl):
  JE X (.Call (.Attribute o m apos) [] [] pos) (Gy T m to gR):=by
 refine⟨λj M P Q w q=>B.mono j _ _ _ (λd M1 q=>?_) q,?_⟩
 .obtain⟨C,ns,es,g,E,G,n,q⟩:=q;exact⟨C,ns,es,g,E,G,n,(N C g n).mono _ _ _ _ w q⟩
 .intro cq s σ H Q I h;obtain⟨F,α,j,M,r,q⟩:=h;refine W.methodCall_KW (jQ (B.p cq s σ H _ I ⟨F,α,j,M,r,B.mono j _ _ _ (λd M1 q v i H1 e1 y z=>(show(λv H1=>∃M1 i d,Ext F α H M i H1 M1/\OK X.K F i H1 M1/\Rep X.K i (ja F i M1 H1) d v/\∃C ns es g,vw M1 d=.ins C ns es/\Kl m ns es=am/\T C m g/\g [d] M1 _) v H1 from⟨M1,i,d,e1,y,z,q⟩)) q⟩) λu s1 ⟨v,H1,J,rx,M1,i,d,e1,y,z,C,ns,Mr,g,E,G,n,q⟩=>?_) ht;obtain⟨a,dx,U,rfl,sq,hl,zz⟩:=M8 y z E;obtain rfl:u=bA a:=rx;have L:=N C g n;obtain⟨f,fd,ps,hm,hb,FO⟩:=L.ok;refine MI J sq L.cl hm ((DC ns Mr U zz hl).2 G) ?_;exact W.callWith_K0 J.qE hm.kp (Uw (vs:=[.ref a]) FO Y hb .nil Ps J (.cons rfl .nil) ⟨F,i,M1,[d],y,gL.one z,L.mono _ _ _ _ (vK.grow e1) q⟩)
structure oR(P:aQ)(w:bw)(K:bz)(mg:aJ->Option ai)(cv:av)(k:Nat)(C:aw)(g:GN):Prop where
 mono:qI g
 ok:∃f fd ps,Mk K C f/\Binds K fd ps []/\jR P w K mg cv rF k f fd ps (lY K g)
def rK (C:aw)(g:GN)(tt:DA):DE:=λh M Q=>tt h M λds M1=>g (.loc M1.length::ds) (M1++[ae (.ins C [] [])]) λd M2=>d=.non/\∃ns es,M2=M1++[ae (.ins C ns es)]/\lu es=aj/\Q (.ins C ns es) M1
end
mutual
def lb (n:Nat):D->Prop
 |.loc k=>k<n
 |.tup ds|.lst ds|.jf _ ds|.ins _ _ ds|.exc _ _ ds=>R0 n ds
 |.non|.bl _|.int _|.str _|.ty _|.qH _|.cls _=>True
def R0 (n:Nat):List D->Prop
 |[]=>True
 |d::ds=>lb n d/\R0 n ds
end
mutual
theorem Rep.lb {K:bz} {α:List aw} {H:Hp}:∀(d:D) (v:V),Rep K α H d v->L3.lb α.length d
 |.non,v,_|.bl _,v,_|.int _,v,_|.str _,v,_|.ty _,v,_|.qH _,v,_|.cls _,v,_=>by unfold L3.lb;trivial
 |.loc k,v,h=>by unfold Rep at h;unfold L3.lb;obtain⟨a,e,_⟩:=h;exact(ap.mp e).1
 |.tup ds,v,h=>by unfold Rep at h;unfold L3.lb;obtain⟨a,b,r,q,z⟩:=h;exact gL.lb ds b z
 |.lst ds,v,h=>by unfold Rep at h;unfold L3.lb;obtain⟨a,b,r,q,z⟩:=h;exact gL.lb ds b z
 |.jf c ds,v,h=>by unfold Rep at h;unfold L3.lb;obtain⟨a,b,r,q,l,z⟩:=h;exact gL.lb ds b z
 |.ins C ns ds,v,h=>by unfold Rep at h;unfold L3.lb;obtain⟨a,f,b,r,q,l,z⟩:=h;exact gL.lb ds b z
 |.exc C ns ds,v,h=>by unfold Rep at h;unfold L3.lb;obtain⟨a,b,r,q,l,z⟩:=h;exact gL.lb ds b z
theorem gL.lb {K:bz} {α:List aw} {H:Hp}:∀(d:List D) (v:List V),gL K α H d v->L3.R0 α.length d
 |[],v,h=>by unfold L3.R0;trivial
 |d::ds,v,h=>by unfold gL at h;unfold L3.R0;obtain⟨u,r,q,z,y⟩:=h;exact⟨Rep.lb d u z,gL.lb ds r y⟩
end
mutual
theorem Rep.shrink {K:bz} {α β:List aw} {H:Hp} (p:α <+: β):∀(d:D) (v:V),L3.lb α.length d->Rep K β H d v->Rep K α H d v
 |.non,v,_,h|.bl _,v,_,h|.int _,v,_,h|.str _,v,_,h|.ty _,v,_,h|.qH _,v,_,h|.cls _,v,_,h=>by unfold Rep at h |-;exact h
 |.loc k,v,n,h=>by unfold Rep at h |-;unfold L3.lb at n;obtain⟨a,e,r⟩:=h;obtain⟨t,rfl⟩:=p;rw[aR n] at e;exact⟨a,e,r⟩
 |.tup ds,v,n,h=>by unfold Rep at h |-;unfold L3.lb at n;obtain⟨a,b,r,q,z⟩:=h;exact⟨a,b,r,q,gL.shrink p ds b n z⟩
 |.lst ds,v,n,h=>by unfold Rep at h |-;unfold L3.lb at n;obtain⟨a,b,r,q,z⟩:=h;exact⟨a,b,r,q,gL.shrink p ds b n z⟩
 |.jf f ds,v,n,h=>by unfold Rep at h |-;unfold L3.lb at n;obtain⟨a,b,r,q,l,z⟩:=h;exact⟨a,b,r,q,l,gL.shrink p ds b n z⟩
 |.ins C ns ds,v,n,h=>by unfold Rep at h |-;unfold L3.lb at n;obtain⟨a,c,b,r,q,l,z⟩:=h;exact⟨a,c,b,r,q,l,gL.shrink p ds b n z⟩
 |.exc C ns ds,v,n,h=>by unfold Rep at h |-;unfold L3.lb at n;obtain⟨a,b,r,q,l,z⟩:=h;exact⟨a,b,r,q,l,gL.shrink p ds b n z⟩
theorem gL.shrink {K:bz} {α β:List aw} {H:Hp} (p:α <+: β):∀(d:List D) (v:List V),L3.R0 α.length d->gL K β H d v->gL K α H d v
 |[],v,_,h=>by unfold gL at h |-;exact h
 |d::ds,v,n,h=>by unfold gL at h |-;unfold L3.R0 at n;obtain⟨u,r,q,z,y⟩:=h;exact⟨u,r,q,Rep.shrink p d u n.1 z,gL.shrink p ds r n.2 y⟩
end
theorem B6.R0{K:bz}(h:B6 K α e H o a):match o with|.lst ds=>L3.R0 α.length ds|.jf _ ds=>L3.R0 α.length ds|.ins _ _ ds=>L3.R0 α.length ds|.fz _ _ _ ds=>L3.R0 α.length ds:=by
 cases o with
 |lst ds=>obtain⟨b,_,r⟩:=h;exact gL.lb _ _ r
 |jf c ds=>obtain⟨b,_,_,r⟩:=h;exact gL.lb _ _ r
 |ins C ns ds=>obtain⟨f,b,_,_,r⟩:=h;exact gL.lb _ _ r
 |fz k g c ds=>obtain⟨_,b,_,_,r⟩:=h;exact gL.lb _ _ r
theorem OK.B7{K:bz}{F c α:List aw}{x H:Hp}{M N:Ms}(m:OK K F c x M)(h:OK K F α H (M++N))(pre:c <+: α):OK K F c H M/\jD (ja F α (M++N) H) (ja F c M H):=by
 obtain⟨β,rfl⟩:=pre;have v:=m.ml;have p:lv _ (M++N)=lv c M++lv β N:=wC v;have g:jD (ja F _ (M++N) H) (ja F c M H):=λb y e=>by
  obtain⟨z,q⟩:=iB e;rw[p] at z;refine ma e (λw=>z ?_) q
  .simp only [bd] at w |-;rcases w with w|w
   .exact .inl (.inl w)
   .exact .inr w
 refine⟨⟨v,m.nd,λa ha=>⟨(m.fr a ha).1,(h.fr a ha).2⟩,λa ha=>h.al a (bS _ ha),λk y s=>?_,h.tb⟩,g⟩;have A:=(ap.mp s).1;obtain⟨a,u,n⟩:=h.own k y (by rw[aR A];exact s);rw[aR (by omega)] at u;obtain⟨G,i,j⟩:=m.own k y s;rw[u] at i;cases i;have o:=j.R0;refine⟨a,u,?_⟩;cases y with
 |lst ds=>
  obtain⟨f,q,r⟩:=n;exact⟨f,q,gL.shrink (cZ _ _) _ _ o (gL.mono (aS _) g _ _ r)⟩
 |jf B ds=>
  obtain⟨f,q,l,r⟩:=n;exact⟨f,q,l,gL.shrink (cZ _ _) _ _ o (gL.mono (aS _) g _ _ r)⟩
 |ins C ns ds=>
  obtain⟨E,f,q,l,r⟩:=n;exact⟨E,f,q,l,gL.shrink (cZ _ _) _ _ o (gL.mono (aS _) g _ _ r)⟩
 |fz k I B ds=>
  obtain⟨_,f,q,l,r⟩:=n;exact⟨j.1,f,q,l,gL.shrink (cZ _ _) _ _ o (gL.mono (aS _) g _ _ r)⟩
section
variable {X:Cx} {a b c e o value:bE} {es rest:List bE} {ta tb tc te to tv:DE} {tA:DT} {tt:DA} {pos sV p p2 p3 apos jo:eZ} {x f m:aJ}
theorem pv(s:oR X.prog X.w X.K X.mg X.cv k C g)(U:iV (k+1) X.A)(hm:X.mg x=ae (.ref C))(ha:JA X (e::es) tt)(Y:Gl X x:=by rfl)(sO:(x==("__debug__":aJ))=aq:=by decide)
(he:aP (e::es) X.env=(aq,eval e X.env)::aP es X.env:=by rfl)(qG:(c9 pos (aP es X.env)).any (·.1)=aq:=by rfl):JE X (.Call (.Name x p) (e::es) [] pos) (rK C g tt):=by
 obtain⟨f,fd,ps,mk,hb,FO⟩:=s.ok;refine⟨λj M P Q w q=>ha.mono j _ _ _ (λds M1 q=>s.mono _ _ _ _ (λd M2 q=>?_) q) q,PE.weak (Yp mk FO U Y hm hb .nil Ps ha.p sO he qG) λσ H Q q=>?_⟩
 .obtain⟨q1,ns,es,q2,q3,q4⟩:=q;exact⟨q1,ns,es,q2,q3,w _ _ q4⟩
 obtain⟨F,α,j,M,r,q⟩:=q;refine⟨F,α,j,M,r,ha.mono j _ _ _ (λds M1 q vs h H1 e1 i r1 y u n B xj=>?_) q⟩;have s0:jD H1 (upd (upd H1 u (.own y)) y (.ins C u [])):=λb ob e=>by rw[gM (i5 e n),gM (i5 e B)];exact e
 obtain⟨o2,e2⟩:=i.enter (x:=.ins C [] []) n s0 ⟨u,[],gS,rfl,gL.nil⟩;rw[ba];have I:(h++[y])[M1.length]?=ae y:=by rw[<-i.ml];simp
 refine⟨F,h++[y],M1++[ae (.ins C [] [])],.loc M1.length::ds,o2,gL.cons ?_ (e2.FA r1),s.mono _ _ _ _ (λd M2 q v Di J e3 L N=>?_) q⟩
 .unfold Rep;exact⟨y,I,rfl⟩
 .obtain⟨rfl,ns,fs,rfl,hn,q⟩:=q;unfold Rep at N;have pre:h <+: Di:=(cZ _ _).trans e3.pre;obtain⟨o4,O⟩:=OK.B7 i L pre;have ey:=Pz e3.pre I;obtain⟨a,T,dx,ws,hq,hl,rr⟩:=L.own M1.length (.ins C ns fs) (by simp);rw[ey] at T;cases T;have E:y∉F:=λz=>(i.fr y z).2 (by rw[n]);have G:y∉lv h M1:=λz=>i.live y z n;have xx:=e2.trans e3;refine⟨N,q _ h J (e1.trans ⟨aS _,xx.same.trans O,xx.fr⟩) o4 ?_⟩;unfold Rep;refine⟨y,dx,ws,rfl,?_,hl,gL.nl _ _ hn (gL.mono (aS _) O _ _ rr)⟩;show kX _ J y=_;exact jK (λz=>(bd.mp z).elim G E) hq rfl
noncomputable def putN(f:aJ)(d:D):List aJ->List D->List aJ×List D
 |n::ns,e::es=>if n=f then(n::ns,d::es) else((n::(putN f d ns es).1),(e::(putN f d ns es).2))
 |ns,es=>(ns++[f],es++[d])
theorem Km{K:bz}(rd:Rep K α H d v):∀(ns:List aJ) (ds:List D) (g:List V),gL K α H ds g->ns.length=ds.length->
  ∃ws,nw f v (ns.zip g)=(putN f d ns ds).1.zip ws/\(putN f d ns ds).1.length=(putN f d ns ds).2.length/\gL K α H (putN f d ns ds).2 ws
 |[],[],g,h,l=>by exact⟨[v],rfl,rfl,gL.one rd⟩
 |[],e::es,g,h,l=>by simp at l
 |n::ns,[],g,h,l=>by simp at l
 |n::ns,i::es,g,h,l=>by
  obtain⟨u,r,rfl,z,y⟩:=h;obtain⟨ws,j,q,s⟩:=Km rd ns es r y (by simpa using l);by_cases e:n=f
  .subst e;have e1:putN n d (n::ns) (i::es)=(n::ns,d::es):=by unfold putN;rw[if_pos rfl]
   rw[e1];refine⟨v::r,?_,by simpa using l,gL.cons rd y⟩;unfold nw;simp
  .have e1:putN f d (n::ns) (i::es)=(n::(putN f d ns es).1,i::(putN f d ns es).2):=by rw[putN,if_neg e]
   rw[e1];refine⟨u::ws,?_,by simpa using q,gL.cons z s⟩;unfold nw;simp[e,j]
def aa8 (K:bz)(f:aJ)(to tv:DE):DS:=λE g M=>tv g M λd M1=>to g M1 λo M2=>match o with
 |.loc k=>∃C ns ds,M2[k]?=ae (ae (.ins C ns ds))/\Gx K C f/\ns.length<1000/\E.nx g (M2.set k (ae (.ins C (putN f d ns ds).1 (putN f d ns ds).2)))
 |_=>False
theorem Y6(j:JE X o to)(n:JE X value tv)(N:dB value (ae (.Attribute o f sV)) pos.line X.env=pure aq:=by rfl):JS X (.Assign [.Attribute o f sV] value pos) (aa8 X.K f to tv):=by
 refine⟨λP Q g M w q=>n.mono g _ _ _ (λd M1 q=>j.mono g _ _ _ (λo M2 q=>?_) q) q,PS.weak (abZ j.p n.p N) λE σ H q=>?_⟩
 .cases o<;>first|exact q.elim|skip
  obtain⟨C,ns,ds,h,i,A,q⟩:=q;exact⟨C,ns,ds,h,i,A,w.nx _ _ q⟩
 .obtain⟨F,α,g,M,r,q⟩:=q;refine⟨F,α,g,M,r,n.mono g _ _ _ (λd M1 q v O H1 e1 T U=>⟨F,O,g,M1,r.grow e1 T,j.mono g _ _ _ (λod M2 q u Y H2 e2 B r2=>?_) q⟩) q⟩;cases od<;>first|exact q.elim|skip
  rename_i k;obtain⟨C,ns,ds,h,i,A,q⟩:=q;obtain⟨a,G,rfl⟩:=r2;obtain⟨a',I,s,J,hq,L,rr⟩:=B.own k _ h;rw[G] at I;cases I;obtain⟨ws,i1,i2,i3⟩:=Km (f:=f) (e2.rep U) ns ds J rr L;have iN:(ns.zip J).length<1000:=by rw[cY,L];omega
  obtain⟨o3,e3⟩:=B.write (y:=.ins C _ _) (z:=.ins C s (nw f v _)) h G (λHh eh=>by subst eh;exact⟨s,ws,by rw[gS,i1],i2,i3⟩)
  exact⟨a,C,s,_,rfl,hq,i.cl,i.na,iN,q σ Y _ ((e1.trans e2).trans e3) (r.grow ((e1.trans e2).trans e3) o3)⟩
end
section
variable {P:aQ} {w:bw} {K:bz} {mg:aJ->Option ai} {cv:av}
theorem Vl{st:cc}(F:uY K x qual st f fd)(b:iC st=body)(es:h9 st=scope)(S:gU N a scope)
(c:∀(ip:ai) (A:bj) (cP:List ah1) (s:ao) (H:Hp) (E:XK),iV k (A.deeper (eG qual scope s.heap.objs.size f ip))->FD (rC rF P w K mg cv N qual scope f ip A cP s H E).Fw body tb):
  jR P w K mg cv rF (k+1) f fd a (lY K (J8 N.length a.length tb)):=by subst b es;exact F.ok S (λe H Q E ⟨F,α,M,ds,o,r,g,q⟩=>by rw[<-gL.length _ _ r];exact g) λip A cP s H e Q E i h=>let⟨t,q,z⟩:=UY (c ip A cP s H E i) rfl h;⟨t,q.p,z⟩
theorem R4{st:cc}(F:uY K x qual st f fd)(b:iC st=body)(es:h9 st=scope)(S:gU N a scope)
(c:∀(ip:ai) (A:bj) (cP:List ah1) (s:ao) (H:Hp) (E:XK),iV k (A.deeper (eG qual scope s.heap.objs.size f ip))->FD (rC rF P w K mg cv N qual scope f ip A cP s H E).Fw body tb):
  jR P w K mg cv rF (k+1) f fd a (lY K (cl (kq N.length a.length tb))):=by subst b es;exact F.ok S (λe H Q E ⟨F,α,M,ds,o,r,hn,g,q⟩=>by rw[<-gL.length _ _ r];exact g) λip A cP s H e Q E i h=>let⟨t,q,z⟩:=Na (c ip A cP s H E i) rfl h;⟨t,q.p,z⟩
theorem aeP{st:cc}(k:Nat)(F:hG K mg x st)
(b:∀(kV doc pm:ai) (an:Option aw) (ip ct:ai) (us:List ai),us.length=a.length->dZ (ee x x (jJ st) (iC st) (h9 st) .none kV doc pm an ip ct) ⟨us,[]⟩=pure (a.zip us)):iu P w K mg cv k x a λ_ _ _=>False:=by obtain⟨f,fd,F,m⟩:=F;exact⟨λ_ _ _ _ _ q=>q,f,fd,m,F.kp,F.binds b,⟨λc H Q E ⟨_,_,_,_,_,_,q⟩=>q.elim,λA cP s H args us c Q E _ _ _ _ ⟨_,_,_,_,_,_,q⟩=>q.elim⟩⟩
end
abbrev GM:=D->List D->Ms->DK->Prop
def rDm (K:bz)(g:GM):V->List V->Hp->VK->Prop:=λx xs H Q=>∃F α M d ds,OK K F α H M/\Rep K α (ja F α M H) d x/\gL K α (ja F α M H) ds xs/\g d ds M (vK K F α H M Q)
structure JM(X:Cx)(id:String)(g:GM):Prop where
 mono:∀d ds M (P Q:DK),(∀d M,P d M->Q d M)->g d ds M P->g d ds M Q
 p:MtR X id (rDm X.K g)
noncomputable def Vm(T:String)(d:D):Bool:=match d with
 |.lst _|.qH _=>T=="list"
 |.str _=>T=="str"
 |.int _=>T=="int"
 |.jf _ _=>T=="dict"
 |_=>aq
section
variable {X:Cx} {a b c e o value:bE} {es rest:List bE} {ta tb tc te to tv:DE} {tA:DT} {tt:DA} {pos sV p p2 p3 apos jo:eZ} {x f m name:aJ} {T id:String} {g:GM}
theorem acF(ok:OK X.K F α H M)(r:Rep X.K α (ja F α M H) d v)(h:Vm T (vw M d)=aj):tyV X.K T v H:=by
 generalize e1:vw M d=z at h;cases z<;>first|(cases h;done)|skip
 .cases xQ e1;subst r;exact beq_iff_eq.mp h
 .cases mQ e1;subst r;exact beq_iff_eq.mp h
 .obtain⟨a,j,rfl,i,_⟩:=ju ok r e1;exact .inl ⟨beq_iff_eq.mp h,j,mo.of i⟩
 .obtain⟨a,j,rfl,i,_⟩:=oP ok r e1;exact .inr (.inr (.inl ⟨beq_iff_eq.mp h,.inl ⟨_,i⟩⟩))
 .cases u6 e1;obtain⟨a,rfl,i⟩:=r;exact .inl ⟨beq_iff_eq.mp h,_,kN hW i⟩
def Mu (T:String)(g:GM)(to:DE)(tt:DA):DE:=λh M Q=>to h M λd M1=>Vm T (vw M1 d)=aj/\tt h M1 λds M2=>g d ds M2 Q
theorem zd(i:JM X id g)(z:PlainAttrs T)(slot:Slot T name id)(j:akB (.builtin id)=pure (.type "method_descriptor"))(n:JE X o to)(ha:JA X (e::es) tt)
(A:dz o name X.env (eval o X.env)=eval o X.env:=by rfl)
(s:((c9 jo (aP (e::es) X.env)).all (λx=>!x.1)&&(aie jo (eW [] X.env)).all (λx=>x.1.isSome)
   &&decide ((e::es).length+([]:List aiq).length+(if([]:List aiq).isEmpty then 0 else 1)<30))=aj:=by rfl)
(B:(apos.endLine==jo.line)=aj:=by rfl)(C:aP (e::es) X.env=(aq,eval e X.env)::aP es X.env:=by rfl)(E:(c9 jo (aP es X.env)).any (·.1)=aq:=by rfl):
  JE X (.Call (.Attribute o name apos) (e::es) [] jo) (Mu T g to tt):=by refine⟨λh M P Q w q=>n.mono h _ _ _ (λd M1 q=>⟨q.1,ha.mono h _ _ _ (λds M2 q=>i.mono _ _ _ _ _ w q) q.2⟩) q,PE.weak (aer z slot j i.p n.p ha.p A s B C E) λσ H Q q=>?_⟩;obtain⟨F,α,h,M,r,q⟩:=q;refine⟨F,α,h,M,r,n.mono h _ _ _ (λd M1 q v G H1 e1 u y=>⟨acF u y q.1,F,G,h,M1,r.grow e1 u,ha.mono h _ _ _ (λds M2 q N I O e2 J L=>?_) q.2⟩) q⟩;exact⟨F,I,M2,d,ds,J,e2.rep y,L,i.mono _ _ _ _ _ (vK.grow (e1.trans e2)) q⟩
theorem PU(ok:OK X.K F α H M)(r:Rep X.K α (ja F α M H) (.loc k) v)(h:M[k]?=ae (ae (.lst ds))):
  ∃a i,v=.ref a/\H a=ae (.lst i)/\gL X.K α (ja F α M H) ds i/\∀es ws,gL X.K α (ja F α M H) es ws->OK X.K F α (upd H a (.lst ws)) (M.set k (ae (.lst es)))/\Ext F α H M α (upd H a (.lst ws)) (M.set k (ae (.lst es))):=by obtain⟨a,j,rfl⟩:=r;obtain⟨y,n,i,q,s⟩:=ok.own k _ h;rw[j] at n;cases n;exact⟨a,i,rfl,q,s,λes ws u=>ok.write h j λz w=>by subst w;exact⟨ws,gS,u⟩⟩
def ka:GM:=λd ds M Q=>match d,ds with
 |.loc k,[x]=>∃es,M[k]?=ae (ae (.lst es))/\es.length<aE/\Q .non (M.set k (ae (.lst (es++[x]))))
 |_,_=>False
theorem kb:JM X "list.append" ka:=by
 refine⟨λd ds M P Q w q=>?_,λcq s σ H x xs v us Q I A rs h=>?_⟩
 .match d,ds,q with
  |.loc k,[x],⟨es,i,j,q⟩=>exact⟨es,i,j,w _ _ q⟩
 .obtain⟨F,α,M,d,ds,ok,r,n,h⟩:=h;match d,ds,h,r,n with
  |.loc k,[y],⟨es,i,j,q⟩,r,n=>
   obtain⟨a,B,rfl,C,z,E⟩:=PU ok r i;obtain⟨u,G,J⟩:=sf n;subst G;obtain⟨L,e2⟩:=E _ _ (gL.append _ _ _ _ z (gL.one J));exact Gj cq s σ H _ _ v us Q I A rs ⟨a,B,u,rfl,rfl,C,by rw[<-gL.length _ _ z];exact j,q _ α _ e2 L tq⟩
end
open PyProof.Rows.KTD
def Vn (K:bz)(d:D)(u:ai):Prop:=∃v,RelV v u/\∀α H,Rep K α H d v
structure AD(K:bz)(a:aw)(rows:List (aJ×D)):Prop where
 lo:(a==cj)=aq
 ex:∃o es ep,K.lookup a=ae o/\o.ExactDict/\o.data=.dict es ep/\Rows (Vn K) es.toList rows
section
variable {prog:aQ} {w:bw} {A:bj} {E:ai->ao->Prop} {s:ao} {K:bz} {a:aw} {rows:List (aJ×D)} {k:aJ} {tk:akx}
theorem AD.typeIs(T:AD K a rows)(h:K.In s.heap):s.TypeIs (.ref a) "dict":=let⟨o,_,_,b,c,_⟩:=T.ex;⟨o,h _ _ b,c.1⟩
theorem AD.get(T:AD K a rows)(j:K.In s.heap)(m:∀d v,datumAt k rows=ae d->Vn K d v->Q (ae v) {s with toks:=s.toks+1})(n:datumAt k rows=am->Q am {s with toks:=s.toks+1}):
  wpAny (model prog w) A (aj9 a (.str k tk)) Q E s:=by
 obtain⟨o,es,r,f,u,hd,g⟩:=T.ex;have f:=j _ _ f;unfold aj9;refine ag (akh (ag (kt_dictFind_strs f hd (by obtain⟨l⟩:=es;simpa using g.exact) ?_)));have c:Q (ajW (λk v=>v.isStr k) es k) {s with toks:=s.toks+1}:=by
  have p:ajW (λk v=>v.isStr k) es k=(es.toList.find? λe=>e.key.isStr k).map (·.val):=by obtain⟨l⟩:=es;simp[ajW]
  rw[p];cases b:datumAt k rows with
  |some d=>obtain⟨v,q,h⟩:=g.find_some b;rw[q];exact m d v b h
  |none=>rw[g.find_none b];exact n b
 rw[aiM] at c;cases hi:es.findIdx? λe=>e.key.isStr k with
 |none=>rw[hi] at c;exact ak c
 |some i=>rw[hi] at c;exact ag (fj f hd (ak c))
theorem AD.item(T:AD K a rows)(b:K.In s.heap)(hm:datumAt k rows=ae d)(h:∀v,Vn K d v->Q v {s with toks:=s.toks+1}):
  wpAny (model prog w) A (air (.ref a) (.str k tk)) Q E s:=by
 have ht:=T.typeIs b;unfold air;try with_reducible refine bv ?_
 refine ag (aj6 ht (by decide) ?_);refine ag (cx ht aka
  (bM aka ht entry_dict_getitem ?_ (args_dict_getitem _ _)))
 show wpAny _ _ (aj9 a _ >>= _) _ _ s;exact ag (T.get b (λe v ha c=>ak ⟨v,rfl,ak (h v (by rw[hm] at ha;cases ha;exact c))⟩) λhn=>by rw[hm] at hn;cases hn)
theorem AD.isin{Q:ai->ao->Prop}(T:AD K a rows)(e:K.In s.heap)(neg:Bool)(h:Q (.bool (if neg then !inKeys k rows else inKeys k rows)) {s with toks:=s.toks+1}):wpAny (model prog w) A (compareOp (if neg then .NotIn else .In) (.str k tk) (.ref a)) Q E s:=by
 have ht:s.TypeIs (.ref a) "dict":=T.typeIs e;have key:∀(b:Bool->ao->Prop),b (inKeys k rows) {s with toks:=s.toks+1}->wpAny (model prog w) A (contains (.ref a) (.str k tk)) b E s:=λb h=>by
  unfold contains;try with_reducible refine bv ?_
  refine ag (ahB ht aiN.lookup ?_);rw[if_neg (by rw[beq_builtin_none];exact aM)];refine ag (wpAny_callSpecialUnlessNone?_slot (name:=ah9 "__contains__") ht aiN
   (bM aiN ht entry_dict_contains ?_ (args_dict_contains _ _)))
  show wpAny _ _ (aj9 a (.str k tk) >>= _) _ _ s;refine ag (T.get e (λd v ha _=>?_) λhn=>?_)
  .have c:inKeys k rows=aj:=by rw[<-isSome_datumAt,ha];rfl
   rw[c] at h;show wpAny _ _ (ret (.bool aj)) _ _ _;exact ak ⟨_,rfl,cO h⟩
  .have c:inKeys k rows=aq:=by rw[<-isSome_datumAt,hn];rfl
   rw[c] at h;exact ag (wpAny_pendingKey_other T.lo (ak ⟨_,rfl,cO h⟩))
 cases neg with
 |false=>
  exact ag (key _ (ak h))
 |true=>
  exact ag (key _ (ak h))
end
section
variable {X:Cx} {a:aw} {rows:List (aJ×D)}
def HU (a:aw)(rows:List (aJ×D)):G2:=λx y M Q=>match x,y with
 |.cls b,.str k=>b=a/\∃d,datumAt k rows=ae d/\Q d M
 |_,_=>False
theorem acG(T:AD X.K a rows):JX X (HU a rows):=by
 refine⟨λx y M P Q w q=>?_,λvalue slice cq s σ H x y v u Q I e f h g=>?_⟩
 .unfold HU at*;split at q<;>first|exact q.elim|(obtain⟨i,d,j,q⟩:=q;exact⟨i,d,j,w _ _ q⟩)
 .obtain⟨F,α,M,G,J,o,m,n,h⟩:=h;unfold HU at h;split at h<;>first|exact h.elim|skip
  obtain⟨rfl,d,hd,q⟩:=h;subst m n;rename_i b k;obtain rfl:v=bA b:=e;obtain⟨t,rfl⟩:=f;have ht:=T.typeIs I.qE;refine ag ?_;refine ag (ahB ht PySem.F.slot_dict_getitem.lookup ?_);have c:wpAny (model X.prog X.w) X.A (subscripted slice aq (.ref b) (.str k t)) (λr p=>wpAny (model X.prog X.w) X.A (akC value (.ref b) r >>= λ_=>pure r) (EP X cq σ Q) X.xe p) X.xe s:=by rw[g];refine akr (T.item I.qE hd λL z=>ag (ajM (ak ?_)));obtain⟨B,C,E⟩:=z;exact⟨B,H,I.tok _,C,vK.now o q (E _ _)⟩
  first
   |exact ak (ag c)
   |exact ag _
   |exact ag c
def HV (neg:Bool)(a:aw)(rows:List (aJ×D)):G2:=λx y M Q=>match x,y with
 |.str k,.cls b=>b=a/\Q (.bl (if neg then !inKeys k rows else inKeys k rows)) M
 |_,_=>False
theorem Ko(T:AD X.K a rows):JC X .NotIn (HV aj a rows):=by
 refine⟨λx y M P Q w q=>?_,λcq s σ H x y v u Q I c e h=>?_⟩
 .unfold HV at*;split at q<;>first|exact q.elim|exact⟨q.1,w _ _ q.2⟩
 .obtain⟨F,α,M,i,j,o,f,g,h⟩:=h;unfold HV at h;split at h<;>first|exact h.elim|skip
  obtain⟨rfl,q⟩:=h;subst f g;obtain⟨t,rfl⟩:=c;rename_i k b;obtain rfl:u=bA b:=e;exact T.isin I.qE aj ⟨.bl _,H,I.tok _,rfl,vK.now o q iX⟩
end
end L3
namespace L3
open L2
section
variable {P:aQ} {w:bw} {K:bz} {mg:aJ->Option ai} {cv:av}
theorem jG{st:cc}(F:hG K mg x st)(b:iC st=body)(es:h9 st=scope)(S:gU N a scope)
(c:∀(kV doc pm:ai) (an:Option aw) (ip ct:ai) (us:List ai),us.length=a.length->dZ (ee x x (jJ st) (iC st) (h9 st) .none kV doc pm an ip ct) ⟨us,[]⟩=pure (a.zip us))
(e:∀(f:aw) (ip:ai) (A:bj) (cP:List ah1) (s:ao) (H:Hp) (E:XK),iV k (A.deeper (eG x scope s.heap.objs.size f ip))->FD (rC rF P w K mg cv N x scope f ip A cP s H E).Fw body tb):
  oZ P w K mg cv (k+1) x a (lY K (cl (kq N.length a.length tb))):=
 F.ack b es S c (λg H Q E ⟨F,α,M,ds,o,r,hn,i,q⟩=>by rw[<-gL.length _ _ r];exact i) λf ip A cP s H g Q E j h=>Na (e f ip A cP s H E j) rfl h
theorem aa9{st:cc}(F:hG K mg x st)(b:iC st=body)(es:h9 st=scope)(S:gU N a scope)
(c:∀(kV doc pm:ai) (an:Option aw) (ip ct:ai) (us:List ai),us.length=a.length->dZ (ee x x (jJ st) (iC st) (h9 st) .none kV doc pm an ip ct) ⟨us,[]⟩=pure (a.zip us))
(e:∀(f:aw) (ip:ai) (A:bj) (cP:List ah1) (s:ao) (H:Hp) (E:XK),iV k (A.deeper (eG x scope s.heap.objs.size f ip))->FD (rC rF P w K mg cv N x scope f ip A cP s H E).Fw body tb):
  oZ P w K mg cv (k+1) x a (lY K (J8 N.length a.length tb)):=
 F.ack b es S c (λg H Q E ⟨F,α,M,ds,o,r,i,q⟩=>by rw[<-gL.length _ _ r];exact i) λf ip A cP s H g Q E j h=>UY (e f ip A cP s H E j) rfl h
theorem lU(h:oZ P w K mg cv k x c (lY K (cl g)))(m:iM a)(i:∀ds Q,a ds Q->g ds Q):iu P w K mg cv k x c (cl a):=
 ⟨PD m,let⟨f,fd,e,kp,b,F⟩:=h;⟨f,fd,e,kp,b,F.imp λj H Q E ⟨F,α,M,ds,o,r,n,q⟩=>⟨F,α,M,ds,o,r,n,i _ _ q⟩⟩⟩
theorem aeQ(h:oZ P w K mg cv k x c (lY K g))(m:qI a)(i:∀ds M Q,a ds M Q->g ds M Q):iu P w K mg cv k x c a:=
 ⟨m,let⟨f,fd,e,kp,b,F⟩:=h;⟨f,fd,e,kp,b,F.imp λj H Q E ⟨F,α,M,ds,o,r,q⟩=>⟨F,α,M,ds,o,r,i _ _ _ q⟩⟩⟩
theorem methP(c:Pk K C)(hm:Meth K C m f)(e:Binds K fd a [])(F:jR P w K mg cv rF k f fd a (lY K (cl g)))(h:iM b)(i:∀ds Q,b ds Q->g ds Q):pU P w K mg cv k C m (cl b):=
 ⟨PD h,c,f,fd,a,hm,e,F.imp λj H Q E ⟨F,α,M,ds,o,r,n,q⟩=>⟨F,α,M,ds,o,r,n,i _ _ q⟩⟩
theorem aeR(hm:Mk K C f)(c:Binds K fd a [])(F:jR P w K mg cv rF k f fd a (lY K g))(e:qI b)(i:∀ds M Q,b ds M Q->g ds M Q):oR P w K mg cv k C b:=
 ⟨e,f,fd,a,hm,c,F.imp λh H Q E ⟨F,α,M,ds,o,r,q⟩=>⟨F,α,M,ds,o,r,i _ _ _ q⟩⟩
end
theorem ou(h:RR (gZ i))(a:J9 gs):J9 (ie (gZ i) gs):=λd b M P q=>by
 cases d with
 |nil=>exact q.elim
 |cons d r=>
  have:=a r _ M P q;simpa[ie,gZ] using this
theorem Cy(a:J9 gs):RR (kL n gs):=acr a
theorem lH{st:Ms->Prop}(f:D->D)(b:st M):∀(xs acc:List D),acc.length+xs.length<=aE->
  (∀x∈xs,∀c:Option D->oM->Ms->Prop,(∀a,HG fr a=e->c (ae (f x)) a M)->Gq g tt j x e M c)->Q (acc++xs.map f) M->uJ fr g tt j st Q xs acc e M
 |[],acc,_,_,q=>by rw[ahu,ba] at q;exact q
 |x::xs,acc,i,h,q=>by refine h x aH _ λa e1=>⟨b,by simp at i;omega,?_⟩;rw[e1];refine lH f b xs _ (by simp at i |-;omega) (λy m=>h y (ay _ m)) ?_;rw[bt];exact q
theorem tI{st:Ms->Prop}(f:D->Option D)(a:st M):∀(xs acc:List D),acc.length+xs.length<=aE->
  (∀x∈xs,∀j:Option D->oM->Ms->Prop,(∀b,HG fr b=m->j (f x) b M)->Gq g tt n x m M j)->Q (acc++xs.filterMap f) M->uJ fr g tt n st Q xs acc m M
 |[],acc,_,_,q=>by rw[List.filterMap_nil,ba] at q;exact q
 |x::xs,acc,c,h,q=>by
  refine h x aH _ λb e1=>⟨a,?_⟩;cases e:f x with
  |none=>
   rw[List.filterMap_cons_none e] at q;rw[e1];exact tI f a xs acc (by simp at c |-;omega) (λy i=>h y (ay _ i)) q
  |some d=>
   rw[ahO e] at q;refine⟨by simp at c;omega,?_⟩;rw[e1];refine tI f a xs _ (by simp at c |-;omega) (λy i=>h y (ay _ i)) ?_;rw[bt];exact q
theorem pV{st:Ms->Prop}(Pv:Nat->oM->Ms->Prop)(f:∀j a M,Pv j a M->st M):∀(xs:List D) (i:Nat) (a:oM) (M:Ms),Pv i a M->
  (∀j x a M,xs[j]?=ae x->Pv (i+j) a M->∀N:oM->Ms->Prop,(∀b c,Pv (i+j+1) b c->N b c)->g x a M λn M1=>tb {E with nx:=N,ct:=N,bk:=E.nx} n M1)->
  (∀a M,Pv (i+xs.length) a M->E.nx a M)->tF g tb st E xs a M
 |[],i,a,M,p,_,e=>e a M p
 |x::xs,i,a,M,p,h,e=>by
  refine h 0 x a M rfl p _ λb c m=>⟨f _ _ _ m,?_⟩;exact pV Pv f xs (i+1) b c m (λj y a M o r N s=>h (j+1) y a M (by simpa using o) (by rw[show i+(j+1)=i+1+j by omega];exact r) N λb c q=>s b c (by rw[show i+1+j+1=i+(j+1)+1 by omega];exact q))
   (λa M p=>e a M (by rw[bc,show i+(xs.length+1)=i+1+xs.length by omega];exact p))
mutual
noncomputable def dv (M:Ms):D->D
 |.non=>.non|.bl b=>.bl b|.int i=>.int i|.str x=>.str x|.ty n=>.ty n|.qH ns=>.qH ns|.cls C=>.cls C
 |.loc k=>vw M (.loc k)
 |.tup ds=>.tup (xh M ds)|.lst ds=>.lst (xh M ds)|.jf a ds=>.jf a (xh M ds)|.ins C ns ds=>.ins C ns (xh M ds)|.exc C ns ds=>.exc C ns (xh M ds)
noncomputable def xh (M:Ms):List D->List D
 |[]=>[]
 |d::ds=>dv M d::xh M ds
end
theorem PV(M:Ms):∀ds:List D,xh M ds=ds.map (dv M)
 |[]=>rfl
 |d::ds=>by unfold xh;rw[PV M ds];rfl
mutual
theorem aba (M:Ms):∀d:D,nl d=aj->dv M d=d
 |.non,_=>rfl|.bl _,_=>rfl|.int _,_=>rfl|.str _,_=>rfl|.ty _,_=>rfl|.qH _,_=>rfl|.cls _,_=>rfl
 |.loc _,h=>by unfold nl at h;cases h
 |.tup ds,h=>by unfold dv;unfold nl at h;rw[AE M ds h]
 |.lst ds,h=>by unfold dv;unfold nl at h;rw[AE M ds h]
 |.jf a ds,h=>by unfold dv;unfold nl at h;rw[AE M ds h]
 |.ins C ns ds,h=>by unfold dv;unfold nl at h;rw[AE M ds h]
 |.exc C ns ds,h=>by unfold dv;unfold nl at h;rw[AE M ds h]
theorem AE (M:Ms):∀ds:List D,lu ds=aj->xh M ds=ds
 |[],_=>rfl
 |d::ds,h=>by unfold xh;unfold lu at h;rw[aY] at h;rw[aba M d h.1,AE M ds h.2]
end
theorem xW(M:Ms)(ds:List D):(xh M ds).length=ds.length:=by rw[PV,ar]
section
variable {K:bz} {F α:List aw} {H:Hp} {M:Ms}
mutual
theorem acH (o:OK K F α H M):∀(d:D) (v:V),Rep K α (ja F α M H) d v->Rep K α H (dv M d) v
 |.non,v,h=>by unfold dv;unfold Rep at h |-;exact h
 |.bl _,v,h=>by unfold dv;unfold Rep at h |-;exact h
 |.int _,v,h=>by unfold dv;unfold Rep at h |-;exact h
 |.str _,v,h=>by unfold dv;unfold Rep at h |-;exact h
 |.ty _,v,h=>by unfold dv;unfold Rep at h |-;exact h
 |.cls _,v,h=>by unfold dv;unfold Rep at h |-;exact h
 |.qH ns,v,h=>by unfold dv;unfold Rep at h |-;obtain⟨a,r,q⟩:=h;exact⟨a,r,kN hW q⟩
 |.loc k,v,h=>by unfold dv;exact Rep.mono (aS _) hW _ _ (Ax o _ _ h)
 |.tup ds,v,h=>by unfold dv;unfold Rep at h |-;obtain⟨a,b,r,q,z⟩:=h;exact⟨a,b,r,ny hW q,tJ o ds b z⟩
 |.lst ds,v,h=>by unfold dv;unfold Rep at h |-;obtain⟨a,b,r,q,z⟩:=h;exact⟨a,b,r,hW _ _ q,tJ o ds b z⟩
 |.jf e ds,v,h=>by unfold dv;unfold Rep at h |-;obtain⟨a,b,r,q,l,z⟩:=h;exact⟨a,b,r,Cs hW q,by rw[xW];exact l,tJ o ds b z⟩
 |.ins C ns ds,v,h=>by unfold dv;unfold Rep at h |-;obtain⟨a,c,b,r,q,l,z⟩:=h;exact⟨a,c,b,r,hW _ _ q,by rw[xW];exact l,tJ o ds b z⟩
 |.exc C ns ds,v,h=>by unfold dv;unfold Rep at h |-;obtain⟨a,b,r,q,l,z⟩:=h;exact⟨a,b,r,hW _ _ q,by rw[xW];exact l,tJ o ds b z⟩
theorem tJ (o:OK K F α H M):∀(ds:List D) (b:List V),gL K α (ja F α M H) ds b->gL K α H (xh M ds) b
 |[],b,h=>by unfold xh;unfold gL at h |-;exact h
 |d::ds,b,h=>by unfold xh;unfold gL at h |-;obtain⟨v,r,q,z,y⟩:=h;exact⟨v,r,q,acH o d v z,tJ o ds r y⟩
end
end
section
variable {X:Cx}
end
noncomputable def sc:D->Bool
 |.non|.bl _|.int _|.str _|.ty _=>aj
 |_=>aq
def bor (g:GP):GN:=λds M Q=>lu (xh M ds)=aj/\g (xh M ds) λd=>sc d=aj/\Q d M
theorem Vo(m:iM g):qI (bor g):=λds M P Q w q=>⟨q.1,m _ _ _ (λd q=>⟨q.1,w _ _ q.2⟩) q.2⟩
theorem acI{K:bz}(h:sc d=aj)(r:Rep K α H d v):Rep K β a d v:=by cases d<;>first|(cases h;done)|(exact r)
theorem Vp{K:bz}(t:Tb K H):OK K [] [] H []:=⟨rfl,dh,λ_ h=>by simp at h,λ_ h=>by simp at h,λk o h=>by simp at h,t⟩
def DH (H a:Hp):Prop:=∀b o,H b=ae o->uP (ae o)=ae o->a b=ae o
theorem DJ:DH H (kX [] H):=λb o e v=>jK (by simp) e v
theorem Ni{K:bz}(e:DH H b)(h:xr K H a xs):xr K b a xs:=by
 rcases h with(h|⟨o,h⟩)|h
 .exact .inl (.inl (e _ _ h rfl))
 .exact .inl (.inr ⟨o,e _ _ h rfl⟩)
 .exact .inr h
theorem DL{K:bz}(e:DH H b)(h:mo K H a xs):mo K b a xs:=by
 rcases h with(h|⟨o,h⟩)|h
 .exact .inl (.inl (e _ _ h rfl))
 .exact .inl (.inr ⟨o,e _ _ h rfl⟩)
 .exact .inr h
mutual
theorem Rep.ze {K:bz} {α:List aw} {H c:Hp} (e:DH H c):∀(d:D) (v:V),Rep K α H d v->Rep K α c d v
 |.non,v,h=>by unfold Rep at h |-;exact h
 |.bl _,v,h=>by unfold Rep at h |-;exact h
 |.int _,v,h=>by unfold Rep at h |-;exact h
 |.str _,v,h=>by unfold Rep at h |-;exact h
 |.ty _,v,h=>by unfold Rep at h |-;exact h
 |.tup ds,v,h=>by unfold Rep at h |-;obtain⟨a,b,r,q,z⟩:=h;exact⟨a,b,r,Ni e q,gL.ze e ds b z⟩
 |.lst ds,v,h=>by unfold Rep at h |-;obtain⟨a,b,r,q,z⟩:=h;exact⟨a,b,r,e _ _ q rfl,gL.ze e ds b z⟩
 |.qH ns,v,h=>by unfold Rep at h |-;obtain⟨a,r,q⟩:=h;exact⟨a,r,DL e q⟩
 |.jf g ds,v,h=>by unfold Rep at h |-;obtain⟨a,b,r,q,l,z⟩:=h;exact⟨a,b,r,(by rcases q with q|⟨o,q⟩<;>first|exact .inl (e _ _ q rfl)|exact .inr ⟨o,e _ _ q rfl⟩),l,gL.ze e ds b z⟩
 |.ins C ns ds,v,h=>by unfold Rep at h |-;obtain⟨a,f,b,r,q,l,z⟩:=h;exact⟨a,f,b,r,e _ _ q rfl,l,gL.ze e ds b z⟩
 |.exc C ns ds,v,h=>by unfold Rep at h |-;obtain⟨a,b,r,q,l,z⟩:=h;exact⟨a,b,r,e _ _ q rfl,l,gL.ze e ds b z⟩
 |.loc k,v,h=>by unfold Rep at h |-;exact h
 |.cls _,v,h=>by unfold Rep at h |-;exact h
theorem gL.ze {K:bz} {α:List aw} {H c:Hp} (e:DH H c):∀(ds:List D) (b:List V),gL K α H ds b->gL K α c ds b
 |[],b,h=>by unfold gL at h |-;exact h
 |d::ds,b,h=>by unfold gL at h |-;obtain⟨v,r,q,z,y⟩:=h;exact⟨v,r,q,Rep.ze e d v z,gL.ze e ds r y⟩
end
theorem OK.abb{K:bz}(o:OK K F α H M)(s:DH H c)(t:Tb K c):OK K F α c M/\Ext F α H M α c M:=by
 have rW:∀a,uP (H a)≠am->c a=H a:=λa h=>by
  cases e:H a with
  |none=>exact absurd (by rw[e]) h
  |some x=>
   rw[e] at h;exact s a x e (by cases x<;>first|rfl|exact absurd rfl h)
 have f:∀A,jD (kX A H) _:=λA b x e=>by obtain⟨i,j,g⟩:=pN e;exact jK i (s b x j g) g
 refine⟨⟨o.ml,o.nd,λa ha=>⟨(o.fr a ha).1,by rw[rW a (o.fr a ha).2];exact(o.fr a ha).2⟩,λa ha=>by rw[rW a (o.al a ha)];exact o.al a ha,λk x h=>?_,t⟩,⟨aS _,f _,λa ha=>rW a (o.fr a ha).2⟩⟩;obtain⟨a,e,r⟩:=o.own k x h;exact⟨a,e,r.mono (aS _) (f _) (rW a (o.PB a (nz.mpr ⟨k,x,e,h⟩)))⟩
section
variable {P:aQ} {w:bw} {K:bz} {mg:aJ->Option ai} {cv:av}
theorem hasB(h:oZ P w K mg cv k x c (lY K (cl g)))(m:iM a)(i:∀ds Q,a ds Q->g ds Q):iu P w K mg cv k x c (bor a):=
 ⟨Vo m,let⟨f,fd,e,kp,b,F⟩:=h;⟨f,fd,e,kp,b,F.imp λB H Q E ⟨F,α,M,ds,o,r,n,q⟩=>by
  refine⟨[],[],[],xh M ds,Vp o.tb,?_,n,i _ _ (m _ _ _ (λd q=>?_) q)⟩
  .exact gL.ze DJ _ _ (gL.nl _ _ n (tJ o _ _ r))
  .obtain⟨j,q⟩:=q;intro v C p e' u y;have s:=λb ob z vb=>by have:=e'.same b ob (by show kX ([]++[]) H b=_;exact jK (by simp) z vb);exact hW _ _ this
   obtain⟨A,e2⟩:=o.abb s u.tb;exact q v α p e2 A (acI j y)⟩⟩
end
def HW:List (DE×DE)->oM->Ms->(List (D×D)->Ms->Prop)->Prop
 |[],_,M,Q=>Q [] M
 | (tk,b)::r,a,M,Q=>tk a M λk M1=>b a M1 λv M2=>HW r a M2 λc e=>Q ((k,v)::c) e
abbrev pK(K:bz)(F α:List aw)(H:Hp)(M:Ms)(Q:List (V×V)->Hp->Prop):List (D×D)->Ms->Prop:=λf c=>∀e a b,Ext F α H M a b c->OK K F a b c->gL K a (ja F a c b) (f.map (·.1)) (e.map (·.1))->gL K a (ja F a c b) (f.map (·.2)) (e.map (·.2))->Q e b
structure JP(X:Cx)(pos:eZ)(keys:List (Option bE))(values:List bE)(ts:List (DE×DE)):Prop where
 mono:∀δ M (P Q:List (D×D)->Ms->Prop),(∀ps M,P ps M->Q ps M)->HW ts δ M P->HW ts δ M Q
 p:∃trs,PPs X pos keys values trs/\∀F α δ M σ H Q,R X.K F α H σ δ M->HW ts δ M (pK X.K F α H M Q)->MR trs σ H Q
section
variable {X:Cx} {pos:eZ} {k v:bE} {keys:List (Option bE)} {values:List bE} {tk tv:DE} {ts:List (DE×DE)}
end
section
variable {X:Cx}
end
section
variable {X:Cx} {x:aJ} {pos:eZ} {a b:bE} {ta tb:DE}
def Kp:GM:=λd ds M Q=>match d,ds with
 |.loc k,[y]=>∃es xs,M[k]?=ae (ae (.lst es))/\vw M y=.lst xs/\es.length+xs.length<=aE/\Q .non (M.set k (ae (.lst (es++xs))))
 |_,_=>False
theorem R5:JM X "list.extend" Kp:=by
 refine⟨λd ds M P Q w q=>?_,λcq s σ H x xs v us Q I m rs h=>?_⟩
 .match d,ds,q with
  |.loc k,[x],⟨es,xs,c,e,f,q⟩=>exact⟨es,xs,c,e,f,w _ _ q⟩
 .obtain⟨F,α,M,d,ds,ok,r,g,h⟩:=h;match d,ds,h,r,g with
  |.loc k,[y],⟨es,xs,c,e,f,q⟩,r,g=>
   obtain⟨a,n,rfl,o,i,p⟩:=PU ok r c;obtain⟨u,z,A⟩:=sf g;subst z;obtain⟨b,ws,rfl,B,j⟩:=ju ok A e;obtain⟨C,e2⟩:=p _ _ (gL.append _ _ _ _ i j);exact RJ cq s σ H _ _ v us Q I m rs ⟨a,b,n,ws,rfl,rfl,o,B,by rw[<-gL.length _ _ i,<-gL.length _ _ j];exact f,q _ α _ e2 C tq⟩
end
section
variable {X:Cx} {tg:bE} {a b c:bE} {tt:DA} {p pos:eZ}
end
section
variable {X:Cx} {x:aJ} {pos p yO:eZ} {e o i:bE} {te to ti tv:DE} {op:ajc}
def PX (i:Nat)(C:Int->Int->Prop)(f:Int->Int->D)(te:DE):DS:=λE c M=>match c[i]? with
 |some (ae (.int a))=>te c M λd M1=>match d with
  |.int b=>C a b/\E.nx (c.set i (ae (f a b))) M1
  |_=>False
 |_=>False
theorem Y7{f:Int->Int->Int}(i:Nat)(h:X.N.Nodup)(g:JE X e te)(j:PIp X op (rI C λa b=>.int (f a b)))(hi:X.N[i]?=ae x:=by rfl)(m:Loc X.env.scope x:=by first|exact fF rfl|exact eK rfl)
(n:X.fn x=aj\/X.env.scope.names.lookup x=ae .local:=by first|exact .inl rfl|exact .inr rfl|assumption):JS X (.AugAssign (.Name x p) op e pos) (PX i C (λa b=>.int (f a b)) te):=by
 refine⟨λP Q c M w q=>?_,PS.weak (abN h hi m g.p j n) λE σ H q=>?_⟩
 .unfold PX at q |-;split at q
  .refine g.mono c _ _ _ (λd M1 q=>?_) q;cases d<;>first|exact q.elim|exact⟨q.1,w.nx _ _ q.2⟩
  .exact q.elim
 .obtain⟨F,α,c,M,r,q⟩:=q;unfold PX at q;split at q
  .rename_i a ha;obtain⟨v,s,y⟩:=r.sl i _ ha;subst y;refine⟨.int a,s,F,α,c,M,r,g.mono c _ _ _ (λd M1 q u z H1 e1 A B=>?_) q⟩;cases d<;>first|exact q.elim|skip
   subst B;exact⟨a,_,rfl,rfl,q.1,q.2 _ z H1 e1 ((r.grow e1 A).set iQ)⟩
  .exact q.elim
theorem acJ:PIp X .Add (rI (λ_ _=>True) λa b=>.int (a+b)):=λcq s σ H x y v u Q I c f h=>by obtain⟨a,b,g,j,_,q⟩:=h;exact Yi cq s σ H x y v u Q I c f ⟨a,b,g,j,q⟩
noncomputable def sg(k:Key)(d:D)(a:List Key)(ds:List D):List Key×List D:=if a.any (λx=>decide (x=k))=aj then(a,dG (λx y=>if x=k then d else y) a ds) else(a++[k],ds++[d])
theorem PY:∀(a:List Key) (b:List V),a.length=b.length->((a.zip b).any λc=>decide (c.1=k))=a.any λx=>decide (x=k)
 |[],[],_=>rfl
 |[],_::_,h=>by simp at h
 |_::_,[],h=>by simp at h
 |x::a,v::b,h=>by rw[cI,dH,dH,PY a b (by simpa using h)]
theorem PZ:∀(a:List Key) (b:List V),(a.zip b).map (λc=>if c.1=k then(c.1,v) else c)=a.zip (dG (λx y=>if x=k then v else y) a b)
 |[],_=>rfl
 |_::_,[]=>rfl
 |x::a,y::b=>by rw[cI,aX,eM,PZ a b];by_cases e:x=k<;>simp[e]
theorem Kq{K:bz}(rd:Rep K α H d v):∀(a:List Key) (ds:List D) (b:List V),gL K α H ds b->gL K α H (dG (λx y=>if x=k then d else y) a ds) (dG (λx y=>if x=k then v else y) a b)
 |[],ds,b,h=>by exact gL.nil
 |x::a,[],b,h=>by subst h;exact gL.nil
 |x::a,y::ds,b,h=>by
  obtain⟨u,r,rfl,z,t⟩:=h;rw[eM,eM];refine gL.cons ?_ (Kq rd a ds r t);by_cases e:x=k
  .rw[if_pos e,if_pos e];exact rd
  .rw[if_neg e,if_neg e];exact z
theorem R6{K:bz}(rd:Rep K α H d v)(a:List Key)(ds:List D)(b:List V)(h:gL K α H ds b)(l:a.length=ds.length):
  ∃ws,xM (a.zip b) k v=(sg k d a ds).1.zip ws/\(sg k d a ds).1.length=(sg k d a ds).2.length/\gL K α H (sg k d a ds).2 ws:=by
 have lv:=gL.length _ _ h;unfold xM sg;rw[PY a b (by omega)];by_cases e:(a.any λx=>decide (x=k))=aj
 .rw[if_pos e,if_pos e];refine⟨_,PZ a b,?_,Kq rd a ds b h⟩;show a.length=(dG _ a ds).length;rw[gE];omega
 .rw[if_neg e,if_neg e];refine⟨b++[v],?_,by simp[l],gL.append _ _ _ _ h (gL.one rd)⟩;rw[List.zip_append (by omega)];rfl
def P0 (to ti tv:DE):DS:=λE a M=>tv a M λv M1=>to a M1 λo M2=>ti a M2 λk f=>match o with
 |.loc j=>∃b ds c,f[j]?=ae (ae (.jf b ds))/\RS k=ae c/\b.length<aE/\E.nx a (f.set j (ae (.jf (sg c v b ds).1 (sg c v b ds).2)))
 |_=>False
theorem P4(O:X.A.units+1<fH)(h:JE X o to)(hi:JE X i ti)(m:JE X e tv)(T:dB e (ae (.Subscript o i yO)) pos.line X.env=pure aq:=by rfl):JS X (.Assign [.Subscript o i yO] e pos) (P0 to ti tv):=by
 refine⟨λP Q b M w q=>m.mono b _ _ _ (λv M1 q=>h.mono b _ _ _ (λod M2 q=>hi.mono b _ _ _ (λk U q=>?_) q) q) q,PS.weak (Ys O h.p hi.p m.p T) λE σ H q=>?_⟩
 .cases od<;>first|exact q.elim|skip
  obtain⟨c,ds,f,g,n,s,q⟩:=q;exact⟨c,ds,f,g,n,s,w.nx _ _ q⟩
 .obtain⟨F,α,b,M,r,q⟩:=q;refine⟨F,α,b,M,r,m.mono b _ _ _ (λd M1 q v Y H1 e1 o1 r1=>⟨F,Y,b,M1,r.grow e1 o1,h.mono b _ _ _ (λod M2 q u uS H2 e2 o2 r2=>⟨F,uS,b,M2,r.grow (e1.trans e2) o2,hi.mono b _ _ _ (λk U q y Di H3 e3 G r3=>?_) q⟩) q⟩) q⟩;cases od<;>first|exact q.elim|skip
  rename_i j q0;obtain⟨c,ds,f,g,n,s,q⟩:=q;have B:=e3.rep r2;obtain⟨a,I,rfl⟩:=B;obtain⟨a',J,L,hq,C,N⟩:=G.own j _ g;rw[I] at J;cases J;have rd:=(e2.trans e3).rep r1;obtain⟨ws,i1,i2,i3⟩:=R6 (k:=f) rd c ds L N C;cases u7 r3 n;have iN:(c.zip L).length<aE:=by rw[cY,<-gL.length _ _ N,C,Nat.min_self,<-C];exact s
  obtain⟨o4,e4⟩:=G.write (y:=.jf _ _) (z:=.dK (xM _ f v)) g I (λHh eh=>by subst eh;exact⟨ws,by rw[gS,i1],i2,i3⟩)
  have ex:=((e1.trans e2).trans e3).trans e4;exact⟨a,_,rfl,MP.k hq iN,q σ Di _ ex (r.grow ex o4)⟩
end
section
variable {X:Cx} {x:aJ} {pos p yO:eZ} {e o i:bE} {te to ti tv:DE} {op:ajc}
end
noncomputable def uT(a b:aJ):Bool:=!decide (b.cps.toList<a.cps.toList)
theorem P5{a b:aJ}(h:a.cps.toList=b.cps.toList):a=b:=by cases a;congr 1;exact Array.toList_inj.mp h
theorem Vq(h:uT a b=aj)(g:uT b a=aj):a=b:=by unfold uT at h g;simp only [Bool.not_eq_true',decide_eq_false_iff_not] at h g;exact P5 (List.le_antisymm (ahH.mp h) (ahH.mp g))
theorem Vr(a:aJ):uT a a=aj:=by unfold uT;simp[ain]
theorem R7(a b:aJ):uT a b=aj\/uT b a=aj:=by
 unfold uT;simp only [Bool.not_eq_true',decide_eq_false_iff_not];by_cases h:b.cps.toList<a.cps.toList
 .right;exactλg=>ain _ (List.lt_trans h g)
 .left;exact h
theorem Gz(h:uT a b=aj)(g:uT b c=aj):uT a c=aj:=by unfold uT at*;simp only [Bool.not_eq_true',decide_eq_false_iff_not] at*;exact ahH.mpr (List.le_trans (ahH.mp h) (ahH.mp g))
section
variable {β:Type}
noncomputable def vg(key:β->aJ)(x:β):List β->List β
 |[]=>[x]
 |y::r=>if uT (key x) (key y)=aj then x::y::r else y::vg key x r
noncomputable def P6(key:β->aJ):List β->List β
 |[]=>[]
 |x::r=>vg key x (P6 key r)
theorem AF(key:β->aJ)(x:β):∀l:List β,(vg key x l).Perm (x::l)
 |[]=>dU _
 |y::r=>by
  unfold vg;split
  .exact dU _
  .exact((AF key x r).cons y).trans (eV.swap x y r)
theorem jS(key:β->aJ):∀l:List β,(P6 key l).Perm l
 |[]=>dU _
 |x::r=>(AF key x _).trans ((jS key r).cons x)
theorem BC(key:β->aJ)(x:β):∀l:List β,l.Pairwise (λa b=>uT (key a) (key b)=aj)->(vg key x l).Pairwise (λa b=>uT (key a) (key b)=aj)
 |[],_=>by simp[vg]
 |y::r,h=>by
  unfold vg;have f:=dk.mp h;split
  .rename_i e;refine dk.mpr ⟨λz c=>?_,h⟩;rcases aC.mp c with rfl|c
   .exact e
   .exact Gz e (f.1 z c)
  .rename_i e;refine dk.mpr ⟨λz c=>?_,BC key x r f.2⟩;rcases aC.mp ((AF key x r).mem_iff.mp c) with rfl|c
   .rcases R7 (key y) (key z) with g|g
    .exact g
    .exact absurd g e
   .exact f.1 z c
theorem pW(key:β->aJ):∀l:List β,(P6 key l).Pairwise (λa b=>uT (key a) (key b)=aj)
 |[]=>gf
 |x::r=>BC key x _ (pW key r)
theorem DM{key:β->aJ}:∀{l m:List β},l.Perm m->l.Pairwise (λa b=>uT (key a) (key b)=aj)->m.Pairwise (λa b=>uT (key a) (key b)=aj)->(∀a∈l,∀b∈l,key a=key b->a=b)->l=m
 |[],m,p,_,_,_=>(List.nil_perm.mp p).symm
 |x::l,m,p,h,g,i=>by
  cases m with
  |nil=>exact absurd p (by simp)
  |cons y m=>
   have f:=dk.mp h;have j:=dk.mp g;have e:x=y:=by
    have o:=p.mem_iff.mp aH;have n:=p.mem_iff.mpr aH;rcases aC.mp o with e|q
    .exact e
    .rcases aC.mp n with e|c
     .exact e.symm
     .exact i x aH y n (Vq (f.1 y c) (j.1 x q))
   subst e;rw[DM p.cons_inv f.2 j.2 λa ha b r=>i a (ay _ ha) b (ay _ r)]
theorem tK{l m:List β}(p:l.Perm m)(h:l.Pairwise (λa b=>uT (key a) (key b)=aj))(i:∀a∈m,∀b∈m,key a=key b->a=b):l=P6 key m:=
 DM (p.trans (jS key m).symm) h (pW key m) λa ha b c=>i a (p.mem_iff.mp ha) b (p.mem_iff.mp c)
end
noncomputable def jH:List aJ->List aJ:=P6 id
theorem DN:∀(p:aJ) (l:List aJ),risingS p l=aj->(p::l).Pairwise (λa b=>uT a b=aj)
 |p,[],_=>by simp
 |p,x::r,h=>by
  have h:(!ltCps _ _&&risingS x r)=aj:=h;rw[aY] at h;have e:=DN x r h.2;have f:=by have:=h.1;rw[ltCps_eq] at this;exact this
  refine dk.mpr ⟨λz c=>?_,e⟩;rcases aC.mp c with rfl|c
  .exact f
  .exact Gz f ((dk.mp e).1 z c)
theorem Nj:∀(l:List aJ),ajb l=aj->l.Pairwise (λa b=>uT a b=aj)
 |[],_=>gf
 |x::r,h=>DN x r h
theorem GA(p:l.Perm m)(h:ajb l=aj):l=jH m:=tK p (Nj l h) λ_ _ _ _ e=>e
end L3
namespace L2
section
variable {prog:aQ} {w:bw} {A:bj} {E:ai->ao->Prop} {s:ao}
theorem DP{C:List ai->Prop}
(m:∀R:List ai->ao->Prop,(∀(c:av) (tk:Nat) (acc:List ai),(∀b o,s.heap.get? b=ae o->c.get? b=ae o)->C acc->R acc {s with heap:=c,toks:=tk})->wpAny (model prog w) A.in1 (collect x) R E s)
(n:∀acc,C acc->acc.length<64/\∃ss,cM acc ss)
(h:∀(a c:av) (p:aw) (tk e:Nat) (acc:List ai) (out:List ai) (ss f:List aJ),C acc->cM acc ss->(∀b o,s.heap.get? b=ae o->a.get? b=ae o)->(∀b o,a.get? b=ae o->c.get? b=ae o)->a.objs.size<=p->
   c.get? p=ae {cls:=.type "list",data:=.seq out.toArray e}->cM out f->f.Perm ss->ajb f=aj->Q (.ref p) {s with heap:=c,toks:=tk}):
  wpAny (model prog w) A (call (.builtin "sorted") [x]) Q E s:=by
 refine fq aiz ait aiu (aiS _) ?_;refine ag (ak ?_);refine ag (m _ λa tk acc k1 ca=>?_);obtain⟨q,ss,g⟩:=n acc ca;refine ag (fe ?_ (by rw[bT];omega));have i:(a.push _).get? _=ae (b8 "list" acc.toArray 0):=az _ rfl;refine ag (bv (bM ahT ⟨_,i,rfl⟩ ahC (aks aiI i g.keysOf (λz B rest e=>aiT (by rw[<-e];exact g)) q λG a1 a2=>⟨_,rfl,?_⟩) (aiA _)));obtain⟨f,r,u,v⟩:=akG g a1 a2;obtain⟨e,y⟩:=ajq i;refine ak ⟨_,rfl,h a _ _ tk e acc _ ss f ca g k1 (λb o k2=>?_) (aD _) (by exact y) r u v⟩;have lt:=aB k2;have j:b<(a.push (b8 "list" acc.toArray 0)).objs.size:=by rw[gF];exact cA lt
 exact(ajf (aO lt) j).trans (ah _ k2)
end
section
variable {prog:aQ} {w:bw} {A:bj} {E:ai->ao->Prop} {s:ao} {qC:Array Keyed} {κ:PyProof.Rows.KeyKind}
theorem GB:∀f n r:Nat,r<=1->minRun' f n r<=n+r
 |0,n,r,_=>aD _
 |f+1,n,r,h=>by
  rw[minRun'_succ];by_cases hn:n<64
  .rw[if_pos hn];exact aD _
  .rw[if_neg hn];have:=GB f (n/2) (max r (n%2)) (by omega);omega
theorem R8{st:SortSt}(g:κ.OneLt)(h:KeysOf κ qC)(m:SBase qC st)(o:1<=qC.size)(up:aig κ (ahU st) qC.size)(q:Q (ae qC.size) st):wpS (model prog w) A E s (countRun' 0 qC.size) Q st:=by
 rw[countRun0_eq];refine aih (wpS_ascLoopK g h (aD _) (aD 1) o m (λi j a b=>up i j a (by omega)) λn r u _ c=>?_);have e:n=qC.size:=by
  by_cases e:n=qC.size
  .exact e
  .have p:=c.resolve_left e;have f:κ.blt _ _=aq:=up (n- 1) n (by omega) (by omega);rw[p] at f;cases f
 subst e;rw[if_pos (by simp)];exact ajg q
theorem Vs{st:SortSt}(g:κ.OneLt)(h:KeysOf κ qC)(a:SBase qC st)(j:1<=qC.size)(up:aig κ (ahU st) qC.size)
(q:∀e,ahU e=ahU st->ajh e=am->Q () e):wpS (model prog w) A E s sortRuns' Q st:=by
 have u:=GB qC.size qC.size 0 (bC _);have sz:=a.size;have m:=q (aji st ((aiD st).push (0,qC.size,0))) rfl a.failed;have n:(aiD st).push (0,qC.size,0)=#[(0,qC.size,0)]:=by rw[a.pend];rfl
 rw[sortRuns'_eq];refine aih (wpS_get ?_);rw[sz];refine aih (wpS_mono (wpS_forRange (I:=λi c t=>(i=0/\c=(am,0)/\t=st)\/(1<=i/\c=(am,qC.size)/\t=aji st ((aiD st).push (0,qC.size,0)))) (Q:=λc t=>c=(am,qC.size)/\t=aji st ((aiD st).push (0,qC.size,0))) ?s ?f (.inl ⟨rfl,rfl,rfl⟩)) ?r);case f=>
  rintro c t (⟨z,_⟩|⟨_,o,p⟩)
  .omega
  .exact⟨o,p⟩
 case s=>
  rintro i c t _ _ (⟨rfl,rfl,rfl⟩|⟨_,rfl,rfl⟩)
  .rw[if_neg (by omega)];refine aih (R8 g h a j up ?_);dsimp only;rw[if_neg (by omega)];refine aih (wpS_get ?_);rw[show(aiD t).back?=am by rw[a.pend];rfl];refine aih (wpS_modify (ajg (.inr ⟨aD 1,?_,rfl⟩)));rw[bJ]
  .rw[if_pos (aD _)];exact ajg ⟨rfl,rfl⟩
 case r=>
  intro c t b;obtain⟨rfl,rfl⟩:=b;refine aih (wpS_mono (wpS_forRange (I:=λ_ c t=>c=(am,())/\t=aji st ((aiD st).push (0,qC.size,0))) ?_ (λ_ _ z=>z) ⟨rfl,rfl⟩) ?_)
  .intro i c t _ _ b;obtain⟨rfl,rfl⟩:=b;refine aih (wpS_get ?_);rw[if_pos (by rw[n];exact aD 1)];exact ajg ⟨rfl,rfl⟩
  .intro c t b;obtain⟨rfl,rfl⟩:=b;exact ajg m
theorem Vt(f:s.heap.get? a=ae (b8 "list" b.toArray n))(i:cM b ss)(p:2<=b.length)(B:b.length<=1000)
(up:aig strKind (aiE b) (aiE b).size)(h:P (.done (.ret .none)) {s with heap:=sortedHeap s.heap a b ((aiE b).map (·.2))}):
  wpAny (model prog w) A (bH.«list.sort» ⟨[.ref a],[]⟩) P E s:=by
 have ha:=aB f;have g:=fP f (λ_=>#[]);generalize j:s.heap.update a (ci λ_=>#[])=q at g;have m:((q.push (b8 "tuple" b.toArray 0)).push (b8 "list" #[] 0)).get? a=ae _:=ah _ (ah _ g);have big:¬b.toArray.size<2:=by simp;omega
 rw[akt];refine ag (aiU f rfl (ag (eJ f rfl ?_)));rw[j];refine ag (ahx (s:={s with heap:=q}) g rfl (ag (ahS (ag (fe (bv ?_))))));dsimp only;rw[if_neg big,if_neg big];obtain⟨c,e,r,rfl⟩:∃c e r,b=c::e::r:=by
  match b,p with
  |c::e::r,_=>exact⟨c,e,r,rfl⟩
 rw[aiT i];refine ag (ak ?_);refine ag (cz (Vs (κ:=strKind) aiI (Q:=λ_ t=>ahU t=aiE (c::e::r)/\ajh t=am) i.keysOf ⟨Array.Perm.refl _,rfl,rfl,rfl⟩ (by rw[aiV];omega) up λt u v=>⟨u,v⟩) ?_ λ_ _ z=>z)
 rintro⟨⟨⟩,t⟩ C ⟨rfl,e1,e2⟩
 dsimp only;rw[e1,e2];have y:(Array.map (λx:Keyed=>x.2) (aiE (c::e::r))).size<=aE:=by rw[Array.size_map,aiV,bT];omega
 unfold sortedHeap at h;rw[j] at h;refine ag (ahx m rfl (ag (eJ m rfl ?_ (hsz2:=Nat.le_succ_of_le y))));rw[bne_self_eq_false,if_neg aM];exact ak h
theorem GC{x:ai}{C:List ai->Prop}
(I:∀R:List ai->ao->Prop,(∀(f:av) (tk:Nat) (acc:List ai),(∀b o,s.heap.get? b=ae o->f.get? b=ae o)->C acc->R acc {s with heap:=f,toks:=tk})->wpAny (model prog w) A.in1 (collect x) R E s)
(J:∀acc,C acc->cM acc ss)(U:2<=ss.length)(Y:ss.length<=1000)(up:ss.Pairwise λa b=>L3.uT a b=aj)
(h:∀(c f:av) (p:aw) (tk e:Nat) (acc:List ai),C acc->(∀b o,s.heap.get? b=ae o->c.get? b=ae o)->(∀b o,c.get? b=ae o->f.get? b=ae o)->c.objs.size<=p->
   f.get? p=ae {cls:=.type "list",data:=.seq acc.toArray e}->Q (.ref p) {s with heap:=f,toks:=tk}):
  wpAny (model prog w) A (call (.builtin "sorted") [x]) Q E s:=by
 refine fq aiz ait aiu (aiS _) ?_;refine ag (ak (ag (I _ λc tk acc k1 ca=>?_)));have g:=J acc ca;have hl:=g.length;refine ag (fe ?_ (by rw[bT];omega));have n:(c.push (b8 "list" acc.toArray 0)).get? c.objs.size=ae _:=az _ rfl;have r:aig strKind _ (aiE acc).size:=λi j L v=>by
  rw[aiV] at v;have at_:∀i,i<acc.length->∃(y:aJ),ss[i]?=ae y/\KK strKind _ i=y.cps.toList:=λi hi=>by
   obtain⟨y,t,B⟩:=g.all acc[i] (fX hi);refine⟨y,?_,KK_str (t:=t) (q:=acc[i]) (by rw[aiV];exact hi) ?_⟩
   .rw[<-g.strs,bq,ax hi,B];rfl
   .unfold aiE;rw[Array.getElem_zip];refine Prod.ext ?_ ?_
    .simpa using B
    .simp
  obtain⟨y,u,M⟩:=at_ i (by omega);obtain⟨z,m,N⟩:=at_ j v;show decide _=aq;rw[M,N];by_cases e:i=j
  .subst e;rw[u] at m;cases m;simpa using ain _
  .have G:j<ss.length:=by omega
   have H:i<ss.length:=by omega
   have:=ahE.mp up i j H G (by omega);rw[ax H] at u;rw[ax G] at m;cases u;cases m;unfold L3.uT at this;simpa using this
 refine ag (bv (bM ahT ⟨_,n,rfl⟩ ahC (Vt n g (by omega) (by omega) r ⟨_,rfl,?_⟩) (aiA _)));obtain⟨e,O⟩:=ajq (vs:=acc) n;have T:(aiE acc).map (·.2)=acc.toArray:=by apply Array.ext';rw[Array.toList_map,pairsOf_toList,fY (aD _)]
 refine ak ⟨_,rfl,h c _ c.objs.size tk e acc ca k1 (λb o k2=>?_) (aD _) (O.trans (by rw[T]))⟩;have lt:=aB k2;exact(ajf (aO lt) (by rw[gF];exact cA lt)).trans (ah _ k2)
end
def si (ss:List aJ):Prop:=ss.length<64\/(2<=ss.length/\ss.length<=1000/\ss.Pairwise λa b=>L3.uT a b=aj)
theorem si.l(h:si ss):ss.length<=1000:=by rcases h with h|h<;>omega
theorem AG(h:ss.Pairwise λa b=>L3.uT a b=aj):ajb ss=aj:=by refine sortedS_of_pairwise ss (h.imp λ{a b} z=>?_);rw[ltCps_eq];unfold L3.uT at z;simpa using z
section
variable {X:Cx}
theorem GD:∀{a:List ai} {ss:List aJ},cM a ss->Vals (ss.map V.str) a
 |_,_,.nil=>.nil
 |_,_,.cons x t h=>.cons ⟨t,rfl⟩ (GD h)
theorem wF:∀{ss:List aJ} {a:List ai},Vals (ss.map V.str) a->cM a ss
 |[],_,h=>by cases h;exact .nil
 |x::ss,_,h=>by
  cases h with
  |cons r t=>obtain⟨u,rfl⟩:=r;exact .cons x u (wF t)
theorem pX(I:Inv X cq σ H s)(u:a.length<=1000)(q:∀l,H l=am->Q (.ref l) (upd H l (.lst ((L3.jH a).map V.str)))){f c:av}
(k1:∀b o,s.heap.get? b=ae o->f.get? b=ae o)(k2:∀b o,f.get? b=ae o->c.get? b=ae o)(g:f.objs.size<=p)(j:c.get? p=ae {cls:=.type "list",data:=.seq out.toArray e})(m:cM out h)(pm:h.Perm a)(n:ajb h=aj):
  EP X cq σ Q (.ref p) {s with heap:=c,toks:=tk}:=by
 have e1:=L3.GA pm n;subst e1;have i:=I.kept (t':=tk) k1;have r:((L3.jH a).map V.str).length<=aE:=by rw[ar,pm.length_eq,bT];omega
 exact⟨.ref p,_,i.laid k2 g (show jd X.prog X.w _ c _ (.lst _) from⟨r,out,e,GD m,j⟩),rfl,q p (i.iz.fresh g)⟩
theorem HY:mF X (.builtin "sorted") (λxs H Q=>∃p ss,xs=[.ref p]/\mo X.K H p (ss.map V.str)/\si ss/\∀l,H l=am->Q (.ref l) (upd H l (.lst ((L3.jH ss).map V.str)))):=by
 intro cq s σ H xs us Q I r h;obtain⟨p,ss,rfl,v,f,q⟩:=h;obtain⟨u,rfl,x⟩:=vals1 r;cases x;obtain⟨its,j,pl,_⟩:=I.list v;have a:=wF j;have y:=j.length;rw[ar] at y;have m:=f.l;have cl:∀R:List ai->ao->Prop,(∀(c:av) (tk:Nat) (acc:List ai),(∀b o,s.heap.get? b=ae o->c.get? b=ae o)->acc=its->R acc {s with heap:=c,toks:=tk})->wpAny (model X.prog X.w) X.A.in1 _ R X.xe s:=λR h=>by refine ajC pl.isList ?_ (by rw[bT];omega);refine h _ s.toks its (λb o q=>?_) rfl;have lt:=aB q;rw[d8 _ _ _ _ (aO lt),ah _ q]
 rcases f with f|⟨z,B,n⟩
 .refine DP cl (λacc e=>⟨by rw[e];omega,ss,by rw[e];exact a⟩) (λC c p tk e acc out s1 s2 ca sa k1 k2 g i E pm G=>?_);subst ca;have e2:s1=ss:=by rw[<-sa.strs,a.strs]
  subst e2;exact pX I m q k1 k2 g i E pm G
 .exact GC cl (λacc e=>by rw[e];exact a) z B n λC c p tk e acc ca k1 k2 g i=>pX I m q k1 k2 g i (by rw[ca];exact a) (dU _) (AG n)
theorem acK(h:(iF P w).is (.inr x) v=aj):∃t,v=.str x t:=by
 have h:eU x v=aj:=h;cases v<;>first|(simp[eU] at h;done)|skip
 simp[eU] at h;subst h;exact⟨_,rfl⟩
theorem GG:∀{b:List ai} {a:List (Key×ai)} {ss:List aJ},a.map (·.1)=ss.map c8->b.length=a.length->(∀(i:Nat) (v:ai),b[i]?=ae v->∃k x,a[i]?=ae (k,x)/\(iF P w).is k v=aj)->cM b ss
 |[],a,ss,e,l,h=>by
  cases a with
  |nil=>
   cases ss with
   |nil=>exact .nil
   |cons _ _=>simp at e
  |cons _ _=>simp at l
 |v::b,[],ss,e,l,h=>by simp at l
 |v::b,(k,x)::a,[],e,l,h=>by simp at e
 |v::b,(k,x)::a,y::ss,e,l,h=>by simp only [aX,List.cons.injEq] at e;obtain⟨e1,e2⟩:=e;subst e1;obtain⟨k',f,e3,e4⟩:=h 0 v rfl;cases e3;obtain⟨t,rfl⟩:=acK e4;exact .cons y t (GG e2 (by simpa using l) λi u c=>h (i+1) u (by simpa using c))
theorem HZ(L:X.A.handled=am):mF X (.builtin "sorted") (λxs H Q=>∃p j ss,xs=[.ref p]/\Rd H p (.dK j)/\j.map (·.1)=ss.map c8/\si ss/\∀l,H l=am->Q (.ref l) (upd H l (.lst ((L3.jH ss).map V.str)))):=by
 intro cq s σ H xs us Q I r h;obtain⟨p,j,ss,rfl,B,C,m,q⟩:=h;obtain⟨u,rfl,M⟩:=vals1 r;cases M;obtain⟨z,hd,g,rel,dd⟩:=uG I.iz B;obtain⟨ep,E⟩:=dd.dictAt;have c:g.map (·.1)=ss.map c8:=by
  rw[<-C];clear C dd E B;induction rel with
  |nil=>rfl
  |cons r t N=>rw[aX,aX,r.1,N (by simp at z;omega)]
 have O:=by have:=congrArg ahG c;simpa using this
 have key:∀acc:List ai,(∃a:Array ai,acc=a.toList/\ajD (λi v=>∃k x,g[i]?=ae (k,x)/\(iF X.prog X.w).is k v=aj) a g.length)->cM acc ss:=by intro acc T;obtain⟨a,rfl,U,Y⟩:=T;exact GG c (by exact U) λi v hv=>Y i v (by rw[<-bQ];exact hv)
 have G:=m.l;have cl:∀R:List ai->ao->Prop,(∀(f:av) (tk:Nat) (acc:List ai),(∀b o,s.heap.get? b=ae o->f.get? b=ae o)->(∃a:Array ai,acc=a.toList/\ajD (λi v=>∃k x,g[i]?=ae (k,x)/\(iF X.prog X.w).is k v=aj) a _)->R acc _)->wpAny _ X.A.in1 _ R X.xe s:=
  λR h=>W.kdu_collect (W.kdl_dict hd) L E (by rw[bT];omega) λf tk acc k i=>h f tk _ k ⟨acc,rfl,i⟩
 rcases m with m|⟨g1,g2,J⟩
 .refine DP cl (λacc ca=>⟨?_,ss,key acc ca⟩) (λh1 f p tk e acc out s1 s2 ca sa k1 k2 n y ho pm sd=>?_)
  .rw[(key acc ca).length];omega
  .have e2:s1=ss:=by rw[<-sa.strs,(key acc ca).strs]
   subst e2;exact pX I G q k1 k2 n y ho pm sd
 .exact GC cl key g1 g2 J λh1 f p tk e acc ca k1 k2 n y=>pX I G q k1 k2 n y (key acc ca) (dU _) (AG J)
end
end L2
namespace L3
open L2
section
variable {X:Cx}
def Vu:D->(List aJ->Prop)->Prop
 |.lst xs,C=>∃ss:List aJ,xs=ss.map D.str/\si ss/\C ss
 |.jf a _,C=>∃ss:List aJ,a=ss.map c8/\si ss/\C ss
 |_,_=>False
theorem R9(w:∀ss,C ss->a ss)(h:Vu d C):Vu d a:=by cases d<;>first|exact h.elim|(obtain⟨ss,b,c,e⟩:=h;exact⟨ss,b,c,w _ e⟩)
def vh:GF:=λds M Q=>match ds with
 |[d]=>Vu (vw M d) λss=>Q (.lst ((jH ss).map .str)) M
 |_=>False
theorem sj{K:bz}:∀{ss:List aJ} {a:List V},gL K α H (ss.map D.str) a->a=ss.map V.str
 |[],a,h=>by exact h
 |x::ss,a,h=>by obtain⟨v,r,rfl,z,y⟩:=h;rw[z,sj y];rfl
theorem xX(j:X.A.handled=am):JBF X (.builtin "sorted") vh:=by
 refine⟨λds M P Q w q=>?_,λcq s σ H xs us Q I rs h=>?_⟩
 .match ds,q with
  |[d],q=>exact R9 (λss q=>w _ _ q) q
 .obtain⟨F,α,M,ds,o,b,h⟩:=h;match ds,h,b with
  |[d],q,b=>
   obtain⟨v,m,i⟩:=sf b;subst m;have q:Vu (vw M d) λss=>fK X.K F α H M Q _ M:=q;generalize e1:vw M d=z at q;cases z<;>first|exact q.elim|skip
   .obtain⟨ss,rfl,c,q⟩:=q;obtain⟨a,n,rfl,e,f⟩:=ju o i e1;have e2:=sj f;subst e2;exact HY cq s σ H _ us Q I rs ⟨a,ss,rfl,mo.of e,c,λp g=>q p _ α H Ext.refl o g ⟨_,rfl,gL.of_map _ _ (λ_=>nU) _⟩⟩
   .obtain⟨ss,rfl,c,q⟩:=q;obtain⟨a,n,rfl,e,r,f⟩:=oP o i e1;have u:=gL.length _ _ f;refine HZ j cq s σ H _ us Q I rs ⟨a,_,ss,rfl,e,?_,c,λp g=>q p _ α H Ext.refl o g ⟨_,rfl,gL.of_map _ _ (λ_=>nU) _⟩⟩;rw[List.map_fst_zip (by omega)]
end
end L3
namespace L2
noncomputable def pw(val:Nat->aJ):Nat->List aJ
 |0=>[]
 |i+1=>ahV (pw val i) (val i)
theorem Ia(val:Nat->aJ):∀i,(pw val i).length<=i
 |0=>aD _
 |i+1=>by
  have a:=Ia val i;unfold pw ahV;split
  .omega
  .simp;omega
theorem Nk(σ:List aJ)(v k:aJ):(ahV σ v).any (·==k)=(σ.any (·==k)||decide (k=v)):=by
 unfold ahV;by_cases h:σ.any (·==v)=aj
 .rw[if_pos h];by_cases e:k=v
  .subst e;rw[h];rfl
  .simp[e]
 .rw[if_neg h];by_cases e:k=v
  .subst e;simp
  .have a:(v==k)=aq:=by simpa usingλz:v=k=>e z.symm
   simp[a,e]
theorem Nl(σ:List aJ)(v:aJ):(ahV σ v).length=if σ.any (·==v) then σ.length else σ.length+1:=by unfold ahV;split<;>simp
section
variable {prog:aQ} {w:bw} {A:bj} {E:ai->ao->Prop} {s:ao}
abbrev AH(prog:aQ)(w:bw)(h:av)(a:aw)(val:Nat->aJ)(i:Nat):Prop:=h.SetOf (PySem.strKind prog w) a (λk=>(pw val i).any (·==k)) (pw val i).length
theorem Sa{R:ai3->ao->Prop}{It:aw}{H h:List aw}{G:Array aii->Array aii->Prop}{n:Nat}{P:Nat->ai->Prop}{St:Nat->ao->Prop}(W:WalksS prog w A.in1 It H h G n P St)(a:aw)(c:a∉H)
(val:Nat->aJ)(j:∀i v,P i v->∃t,v=.str (val i) t)(Y:n+1<dw):∀(k i:Nat) (s:ao),n- i=k->i<=n->St i s->AH prog w s.heap a val i->
   (∀m,ajO (a::h) G s m->AH prog w m.heap a val n->R (.ok (.ret .none)) m)->codeAny (model prog w) A (.builtin "set.update.loop" ⟨[.ref a,.ref It],[]⟩) R s:=by
 have f:a∉h:=λz=>c (W.sub _ z);intro k;induction k with
 |zero=>
  intro i s I hi p q r;obtain rfl:i=n:=by omega
  refine c7 dn ?_;rw[fZ cN _];refine ag (W.done s _ _ p λs1 g=>?_);show wpAny _ A.in1 (ret cC) _ _ s1;obtain⟨o,es,u,t,x,more⟩:=q;exact ak (r s1 (g.mono λb z=>ay _ z) ⟨o,es,u,t,g.heap a _ f x,more⟩)
 |succ k J=>
  intro i s I hi p q r;have lt:i<n:=by omega
  refine c7 dn ?_;show wpAny _ A.in1 (pyNext (.ref It) >>= _) _ _ s;refine ag (W.item i s _ _ lt p λv s1 L y g=>?_);obtain⟨t,rfl⟩:=j i v L;have M:AH prog w s1.heap a val i:=by obtain⟨o,es,u,tb,x,more⟩:=q;exact⟨o,es,u,tb,g.heap a _ f x,more⟩
  refine ag (bv ?_);unfold setAdd;refine bv (ag ((PySem.strKind prog w).pyHash (k:=val i) (PySem.strKind_is _ _ _ _) ?_));have room:(pw val i).length+1<dw:=by have:=Ia val i;omega
  refine wpAny_setAddHashed_of (knd:=PySem.strKind prog w) (s:={s1 with toks:=s1.toks+1}) (PySem.strKind_is _ _ _ _) rfl M room λN sb O=>?_;have Q:AH prog w N a val (i+1):=SetOf_congr O (λk=>(Nk _ _ _).symm) (Nl _ _).symm;refine ak ⟨fN cN _,J (i+1) _ (by omega) lt (W.frame _ s1 _ _ y (cB _) λb B o e=>?_) Q λT C U=>?_⟩
  .rw[sb.2 b λz=>c (z▸B)];exact e
  .refine r T (ajO.trans W.gtrans ((g.mono λb z=>ay _ z).then_heap (cB _) λb o B e=>?_) C) U;rw[sb.2 b λz=>B (z▸aH)];exact e
theorem Ib:∀{a:List ai} {ss:List aJ},cM a ss->∀(i:Nat) (v:ai),a[i]?=ae v->∃t,v=.str (ss.getD i ⟨#[]⟩) t
 |_,_,.nil,i,v,h=>by simp at h
 |_,_,.cons x t r,0,v,h=>by simp at h;exact⟨t,h.symm⟩
 |_,_,.cons x t r,i+1,v,h=>by obtain⟨u,e⟩:=Ib r i v (by simpa using h);exact⟨u,by rw[e];rfl⟩
theorem Sb(I:A.handled=am)(J:s.heap.IsList l items)(hi:cM items.toList ss)(L:items.size+1<dw)
(M:∀(a:av) (tk:Nat),AH prog w a s.heap.objs.size (λi=>ss.getD i ⟨#[]⟩) items.size->(∀b o,s.heap.get? b=ae o->a.get? b=ae o)->Q (.ref s.heap.objs.size) {s with heap:=a,toks:=tk}):
  wpAny (model prog w) A (call (.type "set") [.ref l]) Q E s:=by
 obtain⟨c,tl,N⟩:=PySem.F.called_set.mro;have O:=PySem.F.called_set.made;have U6:=PySem.F.called_set.sub;refine eF (aix ?_);show wpAny _ _ (ajE (.type "set") _) _ _ _;refine ak ⟨Code.quiet_builtin _ (by decide+kernel),c7 PySem.F.entry_type_call ?_⟩;rw[bj.under_plain (ajG "set" [.ref l] []) rfl];have n1:=PySem.F.called_set.notType;have n2:=PySem.F.called_set.canCreate;have n3:=PySem.F.typeCall_set_1 (.ref l);repeat (any_goals (first|assumption|wp_step))
 refine c6 (code_set_new_1 (.ref l) (E:=E) (Q₁:=λv s1=>∃led:Bool,v=.ref s.heap.objs.size/\s1={s with heap:=s.heap.push {cls:=.type "set",dict:=am,data:=.set #[] 0 (.fresh 0 0 led)}}) λled=>⟨led,rfl,rfl⟩) λr s1 m=>?_;cases r with
 |error e=>exact m
 |ok fl=>
  cases fl with
  |ret v=>
   obtain⟨led,rfl,rfl⟩:=m;have g:(s.heap.push {cls:=.type "set",dict:=am,data:=.set #[] 0 (.fresh 0 0 led)}).get? s.heap.objs.size=ae {cls:=.type "set",dict:=am,data:=.set #[] 0 (.fresh 0 0 led)}:=az _ rfl;have n:ao.TypeIs {s with heap:=s.heap.push {cls:=.type "set",dict:=am,data:=.set #[] 0 (.fresh 0 0 led)}} (.ref s.heap.objs.size) "set":=⟨_,g,rfl⟩;have n4:=PySem.F.called_set.init.lookup;have n5:=PySem.F.called_set.init.bind (.ref s.heap.objs.size);repeat (any_goals (first|assumption|wp_step))
   refine c6 (d9 (R:=wants (λr s2=>r=.none/\∃a tk,s2={s with heap:=a,toks:=tk}/\AH prog w a s.heap.objs.size (λi=>ss.getD i ⟨#[]⟩) items.size/\(∀b o,s.heap.get? b=ae o->a.get? b=ae o)) E) PySem.F.called_set.init.plain PySem.F.entry_set_init (ako n ?_)) λT s2 f=>?_
   .obtain⟨U,p,G,nl,Jw⟩:=J;obtain⟨oc,od,ot,os⟩:=U;simp only at G Jw;subst G;subst Jw;have H:(s.heap.push {cls:=.type "set",dict:=am,data:=.set #[] 0 (.fresh 0 0 led)}).IsList l items:=⟨_,ah _ p,rfl,nl,rfl⟩;have Y:(s.heap.push {cls:=.type "set",dict:=am,data:=.set #[] 0 (.fresh 0 0 led)}).get? l=ae {cls:=.type "list",dict:=od,data:=.seq items nl,slots:=os}:=ah _ p;have m1:=PySem.F.sub_list_set;have m2:=PySem.F.sub_list_frozenset;have m3:(cU "list"==cU "dict")=aq:=by decide
    unfold bH.«set.__init__» noKeywords bH.Frozenset.updateFrom;generalize q:ah7=PI
    wp_walk
    subst q;refine dF H (ag (ajj ?_));have h:l<s.heap.objs.size:=aB p;have h3:A.in1.in1.in1.handled=am:=by simp[I]
    have u:l≠(s.heap.push {cls:=.type "set",dict:=am,data:=.set #[] 0 (.fresh 0 0 led)}).objs.size:=by rw[bW];exact aO (cA h)
    have x:s.heap.objs.size∉[(s.heap.push {cls:=.type "set",dict:=am,data:=.set #[] 0 (.fresh 0 0 led)}).objs.size,l]:=by rw[bW];simp only [aC,bP,or_false,not_or];exact⟨aO (fu _),du h⟩
    refine Sa ((aiw.list h3 _ l u items).toS) s.heap.objs.size x (λi=>ss.getD i ⟨#[]⟩) (λi v hv=>Ib hi i v (by rw[bQ];exact hv)) L (items.size- 0) 0 _ (by omega) (bC _) ⟨⟨_,az _ rfl,rfl,rfl⟩,(H.push _)⟩ ?s0 ?fn;case s0=>exact SetOf_congr ((akH (knd:=PySem.strKind prog w) led).setOf (ah _ g) (by unfold dw;omega)) (λ_=>rfl) rfl
    case fn=>
     intro s3 j S3;obtain⟨y,g3,d3,t3,o3⟩:=s3;have eg:g3=s.gens:=j.gens;have ed:d3=s.drawn:=j.drawn;have eo:o3=s.os:=j.os;subst eg ed eo;refine ak ?_;show wpAny _ _ (ret cC) _ _ _;refine ak ⟨rfl,y,t3,rfl,S3,λb o e=>j.heap b o ?_ (ah _ (ah _ e))⟩;have z:=aB e;rw[bW];simp only [aC,bP,or_false,not_or];exact⟨aO z,aO (cA z)⟩
   .cases T with
    |error e=>exact f
    |ok B=>
     cases B with
     |ret r=>
      obtain⟨rfl,a,tk,rfl,S4,k4⟩:=f;repeat (any_goals (first|assumption|wp_step))
      exact M _ _ S4 k4
     |_=>exact f.elim
  |_=>exact m.elim
end
section
variable {X:Cx} {p pos p2 DU:eZ} {e:bE} {te:TE}
noncomputable def Y8(ss:List aJ):Nat:=(pw (λi=>ss.getD i ⟨#[]⟩) ss.length).length
noncomputable def Y9(P:aQ)(w:bw)(a:aw)(n:Nat):HO:=.ext λh=>∃S,h.SetOf (PySem.strKind P w) a S n
theorem Za(x:h.SetOf (PySem.strKind P w) a S n):jd P w H h a (Y9 P w a n):=by obtain⟨o,es,g,t,f,more⟩:=x;refine⟨⟨S,o,es,g,t,f,more⟩,⟨o,f⟩,λr s ⟨i,j,b,c,m,e1,q⟩ k=>⟨i,j,b,c,m,k _ e1,q⟩⟩
theorem Sc(c:X.A.handled=am):mF X (.type "set") (λxs H Q=>∃p ss,xs=[.ref p]/\mo X.K H p (ss.map V.str)/\ss.length<1000/\∀l,H l=am->Q (.ref l) (upd H l (Y9 X.prog X.w l (Y8 ss)))):=by
 intro cq s σ H xs us Q I r h;obtain⟨p,ss,rfl,f,j,q⟩:=h;obtain⟨u,rfl,g⟩:=vals1 r;cases g;obtain⟨its,a,pl,_⟩:=I.list f;have i:=wF a;have b:=a.length;rw[ar] at b;refine Sb c pl.isList (by simpa using i) (by rw[aN];unfold dw;omega) λm tk S k=>?_;have e3:its.toArray.size=ss.length:=by rw[aN,b]
 rw[e3] at S;exact⟨.ref _,_,I.laid k (aD _) (Za S),rfl,q _ (I.iz.fresh (aD _))⟩
theorem Sd:mF X (.builtin "len") (λxs H Q=>∃p n,xs=[.ref p]/\H p=ae (Y9 X.prog X.w p n)/\Q (.int n) H):=by
 intro cq s σ H xs us Q I r h;obtain⟨p,n,rfl,a,q⟩:=h;obtain⟨u,rfl,b⟩:=vals1 r;cases b;obtain⟨⟨S,o,es,i,t,c,hex,hd,j,hm,f,g,hn⟩,_⟩:=(I.iz p _ a);subst hn;refine call_len_set c hex hd g ?_ ⟨.int es.size,H,I.tok _,⟨_,rfl⟩,q⟩;unfold dw at f;have:(es.size:Int)<4096:=by omega
 exact Int.lt_of_lt_of_le this (by decide)
end
end L2
namespace L3
open L2
section
variable {X:Cx} {p pos p2 DU:eZ} {e:bE} {te:DE}
def P8 (te:DE):DE:=λa M Q=>te a M λd M1=>∃ss:List aJ,vw M1 d=.lst (ss.map .str)/\ss.length<1000/\Q (.int (Y8 ss)) M1
theorem Vx(m:X.A.handled=am)(ml:X.mg "len"=am)(ms:X.mg "set"=am)(b:JE X e te)(gl:Gl X "len":=by rfl)(gs:Gl X "set":=by rfl)
(h:aP [.Call (.Name "set" p2) [e] [] DU] X.env=[(aq,eval (.Call (.Name "set" p2) [e] [] DU) X.env)]:=by rfl)(i:aP [e] X.env=[(aq,eval e X.env)]:=by rfl):
  JE X (.Call (.Name "len" p) [.Call (.Name "set" p2) [e] [] DU] [] pos) (P8 te):=by
 have s1:PE X (.Call (.Name "set" p2) [e] [] DU) _:=rZ (Sc m) gs ms (by rfl) (qF b.p xJ i) (hn:=by decide) (sO:=by decide) (he:=i) (qG:=rfl);have s2:=yP (p:=p) (pos:=pos) (Sd (X:=X)) gl ml (by rfl) (qF s1 xJ h) (hn:=by decide) (sO:=by decide) (he:=h) (qG:=rfl);refine⟨λc M P Q w q=>b.mono c _ _ _ (λd M1 q=>?_) q,PE.weak s2 λσ H Q q=>?_⟩
 .obtain⟨ss,f,g,q⟩:=q;exact⟨ss,f,g,w _ _ q⟩
 .obtain⟨F,α,c,M,r,q⟩:=q;refine⟨F,α,c,M,r,b.mono c _ _ _ (λd M1 q v s H1 e1 j u=>?_) q⟩;obtain⟨ss,f,g,q⟩:=q;obtain⟨a,E,rfl,y,z⟩:=ju j u f;have e2:=sj z;subst e2;refine⟨a,ss,rfl,mo.of y,g,λl B=>⟨l,_,rfl,gS,?_⟩⟩;obtain⟨C,e2⟩:=j.laid (x:=Y9 X.prog X.w l (Y8 ss)) B;exact q _ s _ (e1.trans e2) C iQ
end
end L3
namespace L2
section
variable {prog:aQ} {w:bw} {κ:Type} [DecidableEq κ] {knd:PySem.KeyKind prog w κ} {A:bj} {E:ai->ao->Prop} {s:ao} {d:aw} {hU:List (κ×ai)} {k:κ} {key v:ai}
theorem Kt(g:knd.is k key=aj)(hm:s.heap.DictOf knd d hU)(B:hU.length<=aE)(yes:∀u,d7 hU k=ae u->Q u {s with toks:=s.toks+1})
(no:d7 hU k=am->∀j,j.DictOf knd d (hU++[(k,v)])->bg d s.heap j->Q v {s with heap:=j,toks:=s.toks+1}):wpAny (model prog w) A (ajk d key v) Q E s:=by
 have mp:=hm.mapOf;obtain⟨o,es,C,c,G,hd,q,m,hn⟩:=hm;have sz:es.size<=aE:=by have e1:=m.length;rw[bu] at e1;omega
 have f:ajW knd.is es k=d7 hU k:=by obtain⟨N,H,I,r,_,x,_,J⟩:=mp;rw[c] at r;cases r;rw[hd] at x;cases x;exact J k
 unfold ajk;try with_reducible refine bv ?_
 refine ag (knd.pyHash g ?_);refine ag (akb g c hd q ?_);have L:(es.findIdx? λe=>knd.is k e.key)=hU.findIdx? λM=>decide (M.1=k):=by rw[<-m.findIdx k];obtain⟨l⟩:=es;simp
 cases hi:es.findIdx? λe=>knd.is k e.key with
 |some i=>
  have h:d7 hU k=(es[i]?).map (·.val):=by rw[<-f,aiM,hi]
  refine ag (fj c hd ?_);cases n:es[i]? with
  |none=>
   have lt:=(Array.findIdx?_eq_some_iff_findIdx_eq.mp hi).1;rw[cG lt] at n;cases n
  |some e=>
   rw[n] at h;exact ag (fC (ak (yes e.val h)))
 |none=>
  have h:d7 hU k=am:=by rw[<-f,aiM,hi]
  have p:=not_mem_of_findIdx_none (L▸hi);refine ag (fC (ag (wpAny_updateDictKeys (hz:=sz) c hd (ak (no h _ ⟨_,_,C+1,ck _ c (cE.isFreed_of_dict (cE.data_mapDictKeys hd _)),G.mapDictKeys _,cE.data_mapDictKeys hd _,q.push g _,?_,?_⟩ (bU ..))))))
  .have z:=m.append g (knd.hash k) v;simpa using z
  .rw[bh,dg];refine⟨hn,by simp,λa ha b y=>?_⟩;simp only [aX,ahu,bf] at y;subst y;exactλz=>p (z▸ha)
theorem Ic(c:knd.is k key=aj)(lo:(d==cj)=aq):
  MeetsIn prog w (bH.«dict.setdefault» ⟨[.ref d,key,v],[]⟩) (λ_ R s=>∃hU,s.heap.DictOf knd d hU/\hU.length<=aE/\(∀u,d7 hU k=ae u->R (.ok (.ret u)) {s with toks:=s.toks+1})/\
   (d7 hU k=am->∀a,a.DictOf knd d (hU++[(k,v)])->bg d s.heap a->R (.ok (.ret v)) {s with heap:=a,toks:=s.toks+1})):=
 .of_wp λA R s ⟨hU,hm,e,f,g⟩=>by refine ag ?_;refine ag (ajH hm.mapOf.typeIs ?_);refine ak ?_;show wpAny _ _ (if(d==cj)=aj then _ else(ajk d key v >>= _)) _ _ s;rw[if_neg (by rw[lo];exact aM)];exact ag (Kt c hm e (λu h=>ak ⟨u,rfl,f u h⟩) λhn a b sb=>ak ⟨v,rfl,g hn a b sb⟩)
end
section
variable {X:Cx}
theorem P9(r:RelV v u):∀{b:List _} {c:List _},KV b c->KV (b++[(k,v)]) (c++[(k,u)])
 |_,_,.nil=>.cons ⟨rfl,r⟩ .nil
 |_,_,.cons a t=>.cons a (P9 r t)
theorem Se:MtR X "dict.setdefault" (λx xs H Q=>∃a b k v,x=.ref a/\xs=[kV k,v]/\H a=ae (.dK b)/\(∀u,rE b k=ae u->Q u H)/\(rE b k=am->b.length<aE/\Q v (upd H a (.dK (b++[(k,v)]))))):=by
 intro cq s σ H x xs v us Q I n rs h;obtain⟨a,b,k,z,rfl,rfl,f,yes,no⟩:=h;cases n;obtain⟨C,E,rfl,o,i⟩:=vals2 rs;obtain⟨p,lo,j,rel,dd⟩:=aaS I.iz f;have r:j.length<=aE:=by rw[<-rel.length];exact p
 refine call_meetsIn PySem.F.slot_dict_setdefault dd.typeIs PySem.F.entry_dict_setdefault (PySem.F.args_dict_setdefault_3 _ _ _) (Ic (C4 o) lo) ⟨j,dd,r,λu w=>?_,λhn A m sb=>?_⟩
 .have c:=rel.val k;rw[w] at c;cases e:rE b k with
  |none=>rw[e] at c;cases c
  |some y=>
   rw[e] at c;exact⟨y,H,I.tok _,c,yes y e⟩
 .have e:rE b k=am:=by
   have c:=rel.val k;rw[hn] at c;cases e:rE b k with
   |none=>rfl
   |some y=>rw[e] at c;cases c
  obtain⟨G,q⟩:=no e;have B:∃q,A.get? a=ae q:=let⟨q,_,_,f,_⟩:=m;⟨q,f⟩;have g:KV (b++[(k,z)]) _:=P9 i rel;exact⟨z,_,Hy I (by rw[f];exact dW) sb B (MQ (by simp;omega) lo g m),i,q⟩
end
end L2
namespace L3
open L2
section
variable {X:Cx}
def DV:GM:=λd ds M Q=>match d,ds with
 |.loc j,[k,v]=>∃a es b,M[j]?=ae (ae (.jf a es))/\RS k=ae b/\(∀x,nB b a es=ae x->Q x M)/\(nB b a es=am->a.length<aE/\Q v (M.set j (ae (.jf (a++[b]) (es++[v])))))
 |_,_=>False
theorem GH:JM X "dict.setdefault" DV:=by
 refine⟨λd ds M P Q w q=>?_,λcq s σ H x xs v us Q I N rs h=>?_⟩
 .match d,ds,q with
  |.loc j,[k,v],⟨b,es,c,m,o,p,n⟩=>exact⟨b,es,c,m,o,λx e=>w _ _ (p x e),λe=>⟨(n e).1,w _ _ (n e).2⟩⟩
 .obtain⟨F,α,M,d,ds,ok,r,A,h⟩:=h;match d,ds,h,r,A with
  |.loc j,[k,y],⟨b,es,c,m,o,p,n⟩,r,A=>
   obtain⟨a,C,rfl⟩:=r;obtain⟨a',E,f,O,G,rd⟩:=ok.own j _ m;rw[C] at E;cases E;obtain⟨u1,g,rfl,T,J⟩:=BA A;have e1:=u7 T o;subst e1;have hv:=gL.length _ _ rd;obtain⟨L,U⟩:=se b es f rd G;refine Se cq s σ H _ _ v us Q I N rs ⟨a,b.zip f,c,g,rfl,rfl,O,λu B=>?_,λhn=>?_⟩
   .cases e:nB c b es with
    |none=>rw[U e] at B;cases B
    |some x=>
     obtain⟨Y,i,ru⟩:=L x e;rw[B] at i;cases i;exact vK.now ok (p x e) ru
   .have e:nB c b es=am:=by
     cases e:nB c b es with
     |none=>rfl
     |some x=>obtain⟨Y,i,_⟩:=L x e;rw[hn] at i;cases i
    obtain⟨n1,q⟩:=n e;refine⟨by rw[cY];omega,?_⟩;have ez:b.zip f++[(c,g)]=(b++[c]).zip (f++[g]):=by rw[List.zip_append (by omega)];rfl
    obtain⟨o2,e2⟩:=ok.write (y:=.jf _ _) (z:=.dK (b.zip f++[(c,g)])) m C (λHh eh=>by subst eh;exact⟨f++[g],by rw[gS,ez],by simp[G],gL.append _ _ _ _ rd (gL.one J)⟩)
    exact q _ α _ e2 o2 (e2.rep J)
end
end L3
namespace L2
section
variable {prog:aQ} {w:bw} {A:bj} {E:ai->ao->Prop} {s:ao}
theorem Ie:ajX (.type "list") "keys"=pure am:=am_miss_of_fast (by kernel_rfl)
theorem Zc{a:aw}{o:cE}{xs:Array ai}{k:Nat}{Q:Option ai->ao->Prop}(j:s.heap.get? a=ae o)(m:o.cls=.type "list")(h:o.data=.seq xs k)(hd:o.dict=am)(p:A.handled=am)
(q:∀(i:av) (tk:Nat),(∀b o,s.heap.get? b=ae o->i.get? b=ae o)->Q am {s with heap:=i,toks:=tk}):wpAny (model prog w) A (ajP (.ref a) "keys") Q E s:=by
 obtain⟨c,jf,r,sl⟩:=o;simp only at m h hd;subst m h hd;obtain⟨u,g,d,tk,os⟩:=s;have ty:∀f,(⟨u,g,d,f,os⟩:ao).TypeIs (.ref a) "list":=λ_=>⟨_,j,rfl⟩;have v:=sub_AttributeError;have x:=PySem.F.slot_list_getattribute.lookup;have y:=PySem.F.slot_list_getattribute.bind (.ref a);have z:=am_list_getattr_none;unfold ajP getAttrBy? getAttrBy;repeat (any_goals (first|assumption|exact ty _|((with_reducible show wpAny _ _ (call (ai.builtin "list.__getattribute__") _ _) _ _ _);refine aiK PySem.F.slot_list_getattribute (ty _) am_entry_list_getattribute (PySem.F.args_list_getattribute_2 _ _) (meets_getattribute_miss_list a xs k sl "keys" _ Ie (by decide) (by rw[bT];decide)) ⟨j,p,λi f e n=>?_⟩)|wp_step))
 obtain⟨B,C,G⟩:=n.there;show wpAny _ _ (aj1 _ _ _ _ _ _ _) _ _ _;unfold aj1;repeat (any_goals (first|assumption|wp_step))
 exact q i f n.keeps
end
theorem vi:ajQ table "dict.update.loop"=ae bH.«dict.update.loop»:=akp (by kernel_rfl)
theorem vk:plainId "dict.update.loop"=aj:=by decide+kernel
section
variable {prog:aQ} {w:bw} {κ:Type} [DecidableEq κ] {knd:PySem.KeyKind prog w κ} {A:bj} {E:ai->ao->Prop} {s:ao}
theorem Nn{k:κ}(h:k∉a.map (·.1)):stored a k v=a++[(k,v)]:=by
 unfold stored;rw[if_neg];rw[f6]
 rintro⟨b,c,e⟩
 exact h (aV.mpr ⟨b,c,of_decide_eq_true e⟩)
def Ig (h:av)(v:ai)(key val:ai):Prop:=∃a,v=.ref a/\aiF h a #[key,val]
theorem pair_items(b:Ig s.heap v key val)(q:Q [key,val] s):wpAny (model prog w) A (bH.Dict.pairItems v) Q E s:=by obtain⟨a,rfl,o,e,f,n,hd⟩:=b;obtain⟨c,h,i,sl⟩:=o;subst f hd;obtain⟨b,g,d,tk,os⟩:=s;have ty:(⟨b,g,d,tk,os⟩:ao).TypeIs (.ref a) "tuple":=⟨_,e,rfl⟩;refine ag (ais ty ?_);refine ag (ag (aiJ e (ak (ak ?_))));exact q
theorem Vy{R:ai3->ao->Prop}{It:aw}{M m:List aw}{P:Nat->ai->Prop}{St:Nat->ao->Prop}{c:List (κ×ai)}{keys:List ai}(W:WalksS prog w A.in1 It M m G c.length P St)(d:aw)(N:d∉M)(lo:(d==cj)=aq)
(nd:(c.map (·.1)).Nodup)(hz:c.length<=aE)(n:av)(T:∀i v,P i v->∃k key u,c[i]?=ae (k,u)/\knd.is k key=aj/\Ig n v key u)(r:n.get? d=am)(x:∀b∈m,n.get? b=am):
  ∀(k i:Nat) (s:ao),c.length- i=k->i<=c.length->St i s->(∀b o,n.get? b=ae o->s.heap.get? b=ae o)->s.heap.DictOf knd d (c.take i)->
   (∀y,ajO (d::m) G s y->y.heap.DictOf knd d c->R (.ok (.ret .none)) y)->codeAny (model prog w) A (.builtin "dict.update.loop" ⟨[.ref d,.ref It,dL i,.none],[]⟩) R s:=by
 have g:d∉m:=λz=>N (W.sub _ z);intro k;induction k with
 |zero=>
  intro i s U hi B h p C;obtain rfl:i=c.length:=by omega
  refine c7 vi ?_;refine ag (W.done s _ _ B λs1 f=>?_);rw[ahW] at p;refine ag (ak (ak (C s1 (f.mono λb z=>ay _ z) (p.at λo e=>f.heap d _ g e))))
 |succ k Y=>
  intro i s U hi B h p C;have lt:i<c.length:=by omega
  refine c7 vi ?_;refine ag (W.item i s _ _ lt B λv s1 hv H f=>?_);obtain⟨kk,key,u,e1,e2,a,rfl,o,ho,ht⟩:=T i v hv;have k1:=λb o e=>f.heap b o (λz=>by rw[x b z] at e;cases e) (h b o e);refine ag (bv ?_);refine ag (wpAny_tryCatch (pair_items ⟨a,rfl,o,k1 _ _ ho,ht⟩ ?_));have D1:s1.heap.DictOf knd d (c.take i):=p.at λo e=>f.heap d _ g e;refine bv (wpAny_dictSet_pairs (hsz:=by rw[dI];omega) e2 D1 λO Q sb=>?_);have I:kk∉(c.take i).map (·.1):=by
   intro z;obtain⟨⟨k',u'⟩,hm,rfl⟩:=aV.mp z;obtain⟨j,q⟩:=dM.mp hm;rw[List.getElem?_take] at q;split at q
   .rename_i ji;have g1:(c.map (·.1))[j]?=ae k':=by rw[bq,q];rfl
    have g2:(c.map (·.1))[i]?=ae k':=by rw[bq,e1];rfl
    have:=(ahI (by rw[ar];omega) nd).mp (g1.trans g2.symm);omega
   .cases q
  rw[Nn I] at Q;have D3:O.DictOf knd d (c.take (i+1)):=by rw[List.take_add_one,e1];exact Q
  refine ak ⟨fN vk _,Y (i+1) _ (by omega) lt (W.frame _ s1 _ _ H (cB _) λb J o e=>?_) (λb o e=>?_) D3 λs4 L D4=>?_⟩
  .rw[sb.2 b λz=>N (z▸J)];exact e
  .show O.get? b=ae o;rw[sb.2 b λz=>by rw[z,r] at e;cases e];exact k1 b o e
  .refine C s4 (ajO.trans W.gtrans ((f.mono λb z=>ay _ z).then_heap (cB _) λb o J e=>?_) L) D4;rw[sb.2 b λz=>J (z▸aH)];exact e
theorem Np(y:A.handled=am)(h:PlainL s.heap l items)(I:items.size=f.length)(nd:(f.map (·.1)).Nodup)(J:f.length<=aE)(big:cj<s.heap.objs.size)
(L:∀(i:Nat) (v:ai),items[i]?=ae v->∃k key u,f[i]?=ae (k,u)/\knd.is k key=aj/\Ig s.heap v key u)
(M:∀(j:av) (tk:Nat),j.DictOf knd s.heap.objs.size f->(∀b o,s.heap.get? b=ae o->j.get? b=ae o)->Q (.ref s.heap.objs.size) {s with heap:=j,toks:=tk}):
  wpAny (model prog w) A (call (.type "dict") [.ref l]) Q E s:=by
 refine callType_codes (Q₁:=λv s1=>v=.ref s.heap.objs.size/\s1={s with heap:=s.heap.push {cls:=.type "dict",data:=.dict #[]}}) PySem.F.kt_called_dict (PySem.F.kt_typeCall_dict_1 _) PySem.F.entry_dict_init (kt_code_dict_new _ ⟨rfl,rfl⟩) ?_
 rintro v s1 ⟨rfl,rfl⟩
 have m:(s.heap.push {cls:=.type "dict",data:=.dict #[]}).DictOf knd s.heap.objs.size []:=av.DictOf.new s.heap;refine⟨m.typeIs,PySem.F.args_dict_init_2 _ _,?_⟩;unfold bH.«dict.__init__»;refine ag ?_;unfold bH.Dict.selfAndRest;refine ag (ajH m.typeIs ?_);refine ak ?_;show wpAny _ _ (bH.Dict.updateFrom "dict.__init__" s.heap.objs.size (.ref l) [] .none) _ _ _;unfold bH.Dict.updateFrom;obtain⟨lt,C⟩:l<s.heap.objs.size/\(s.heap.push {cls:=.type "dict",data:=.dict #[]}).IsList l items:=⟨aB h.isList.choose_spec.1,h.isList.push _⟩;refine ag (ais C.typeIs ?_);rw[if_pos (by decide)];obtain⟨o,n,G,N,hd,p⟩:∃o n,s.heap.get? l=ae o/\o.cls=.type "list"/\o.data=.seq items n/\o.dict=am:=let⟨o,n,a1,a2,a3,a4⟩:=h;⟨o,n,a1,a2,a4,a3⟩;refine ag (Zc (ah _ G) N hd p y λc O k2=>?_);rw[if_pos (by rfl)];refine ag (fC ?_);have H:c.IsList l items:=C.at λo e=>k2 _ _ e;refine ag (dF H ?_);refine ak ⟨fN vk _,?_⟩;have q:∀b o,s.heap.get? b=ae o->c.get? b=ae o:=λb o e=>k2 b o (ah _ e);have r:l<c.objs.size:=aB (q _ _ G);have x:=k2 _ _ (az _ rfl);have a:s.heap.objs.size<c.objs.size:=aB x;have W:=(aiw.list (prog:=prog) (w:=w) (A:=A.in1.in1) (by simp[y]) c.objs.size l (aO r) items).toS;rw[I] at W;have T:(c.push {cls:=.type "list_iterator",data:=.fields #[.ref l,.int 0 0]}).DictOf knd s.heap.objs.size []:=(m.at λo e=>k2 _ _ e).push _;refine Vy (keys:=[]) W s.heap.objs.size (by simp only [aC,bP,or_false,not_or];exact⟨aO a,du lt⟩) (beq_eq_false_iff_ne.mpr (du big)) nd J s.heap L (cR (aD _))
  (λb U=>by rw[bf.mp U];exact cR (dR a)) (f.length- 0) 0 _ (by omega) (bC _) ?st ?kp ?dd ?fn
 case st=>exact⟨⟨_,az _ rfl,rfl,rfl⟩,H.push _⟩
 case kp=>exactλb o e=>ah _ (q b o e)
 case dd=>rw[List.take_zero];exact T
 intro Y g D4;obtain⟨h4,g4,d4,t4,o4⟩:=Y;have eg:g4=s.gens:=g.gens;have ed:d4=s.drawn:=g.drawn;have eo:o4=s.os:=g.os;subst eg ed eo;refine⟨rfl,M h4 t4 D4 λb o e=>g.heap b o ?_ (ah _ (q b o e))⟩;have z:=aB e;simp only [aC,bP,or_false,not_or];exact⟨aO z,aO (Nat.lt_trans z a)⟩
end
section
variable {X:Cx}
def Ih (K:bz)(H:Hp):List V->List (Key×V)->Prop
 |[],[]=>True
 |y::b,(k,u)::r=>(∃a,y=.ref a/\xr K H a [kV k,u])/\Ih K H b r
 |_,_=>False
theorem BD(I:Inv X cq σ H s):∀{f:List V} {g:List _} {its:List ai},Ih X.K H f g->Vals f its->
  ∃c:List _,KV g c/\its.length=c.length/\∀(i:Nat) (v:ai),its[i]?=ae v->∃k key u,c[i]?=ae (k,u)/\(iF X.prog X.w).is k key=aj/\Ig s.heap v key u
 |[],[],its,_,r=>by cases r;exact⟨[],.nil,rfl,λi v h=>by simp at h⟩
 |[],_::_,_,h,_=>h.elim
 |_::_,[],_,h,_=>h.elim
 |y::f,(k,u)::g,its,⟨⟨a,e,m⟩,h⟩,r=>by
  subst e;cases r with
  |@cons _ b _ bs n o=>
   cases n;obtain⟨c,p,q,x⟩:=BD I h o;obtain⟨z,A,B,_⟩:=I.tuple m;obtain⟨key,val,rfl,C,E⟩:=vals2 A;refine⟨(k,val)::c,.cons ⟨rfl,E⟩ p,by simp[q],λi v j=>?_⟩;cases i with
   |zero=>simp at j;subst j;exact⟨k,key,val,rfl,C4 C,a,rfl,B⟩
   |succ i=>exact x i v (by simpa using j)
theorem Qa:∀{b:List (Key×V)} {c:List _},KV b c->c.map (·.1)=b.map (·.1)
 |_,_,.nil=>rfl
 |_,_,.cons a t=>by rw[aX,aX,a.1,Qa t]
theorem Nq(f:X.A.handled=am):mF X (.type "dict") (λxs H Q=>∃p b a,xs=[.ref p]/\mo X.K H p b/\Ih X.K H b a/\(a.map (·.1)).Nodup/\∀l,H l=am->Q (.ref l) (upd H l (.dK a))):=by intro cq s σ H xs us Q I r h;obtain⟨p,b,a,rfl,g,j,nd,q⟩:=h;obtain⟨u,rfl,m⟩:=vals1 r;cases m;obtain⟨its,e,pl,x⟩:=I.list g;have y:=e.length;obtain⟨z,c,n,o⟩:=BD I j e;have B:=c.length;refine Np f pl (by rw[aN,n]) (by rw[Qa c];exact nd) (by omega) I.big (λi v w=>o i v (by simpa using w)) λC tk D k=>?_;exact⟨.ref _,_,I.laid k (aD _) (MQ (by omega) (beq_eq_false_iff_ne.mpr (bV (aO I.big))) c D),rfl,q _ (I.iz.fresh (aD _))⟩
end
end L2
namespace L3
open L2
section
variable {X:Cx}
noncomputable def kD:Key->D
 |.inl i=>.int i
 |.inr x=>.str x
noncomputable def prD(kd:Key×D):D:=.tup [kD kd.1,kd.2]
def VA:GF:=λds M Q=>match ds with
 |[d]=>∃a:List (Key×D),vw M d=.lst (a.map prD)/\(a.map (·.1)).Nodup/\Q (.jf (a.map (·.1)) (a.map (·.2))) M
 |_=>False
theorem acM{K:bz}(h:Rep K α H (kD k) v):v=kV k:=by cases k<;>(exact h)
theorem DW{K:bz}(e:jD H f):∀{b:List _} {c:List V},gL K α H (b.map prD) c->∃us:List V,Ih K f c ((b.map (·.1)).zip us)/\gL K α H (b.map (·.2)) us
 |[],c,h=>by subst h;exact⟨[],trivial,gL.nil⟩
 | (k,d)::b,c,h=>by obtain⟨v,r,rfl,z,y⟩:=h;obtain⟨a,ws,rfl,g,i⟩:=z;obtain⟨q,j,rfl,m,n⟩:=BA i;cases acM m;obtain⟨us,o,p⟩:=DW e y;exact⟨j::us,⟨⟨a,rfl,ny e g⟩,o⟩,gL.cons n p⟩
theorem VB(i:X.A.handled=am):JBF X (.type "dict") VA:=by
 refine⟨λds M P Q w q=>?_,λcq s σ H xs us Q I rs h=>?_⟩
 .match ds,q with
  |[d],⟨f,b,c,q⟩=>exact⟨f,b,c,w _ _ q⟩
 .obtain⟨F,α,M,ds,o,e,h⟩:=h;match ds,h,e with
  |[d],⟨f,b,c,q⟩,e=>
   obtain⟨v,j,m⟩:=sf e;subst j;obtain⟨a,n,rfl,r,u⟩:=ju o m b;obtain⟨ws,x,g⟩:=DW hW u;have y:=gL.length _ _ g;rw[ar] at y;exact Nq i cq s σ H _ us Q I rs ⟨a,n,_,rfl,mo.of r,x,by rw[List.map_fst_zip (by simp;omega)];exact c,λp z=>q p _ α H Ext.refl o z ⟨ws,rfl,by simp,g⟩⟩
end
end L3
namespace L2
section
variable {P:aQ} {w:bw} {A:bj} {E:ai->ao->Prop} {H:Hp} {fs:List aw}
structure Cq(P:aQ)(w:bw)(fs:List aw)(H:Hp)(s s':ao):Prop where
 os:s'.os=s.os
 bare:f7 s'.gens
 iz:sN P w H s'.heap
 un:Un fs [] H H s.heap s'.heap
theorem Cq.refl(b:f7 s.gens)(h:sN P w H s.heap):Cq P w fs H s s:=⟨rfl,b,h,Un.refl⟩
theorem Cq.trans(a:Cq P w fs H s s1)(b:Cq P w fs H s1 s2):Cq P w fs H s s2:=⟨b.os.trans a.os,b.bare,b.iz,a.un.trans b.un⟩
theorem Cq.kept(c:Cq P w fs H s s1)(k:∀b o,s1.heap.get? b=ae o->h'.get? b=ae o):Cq P w fs H s {s1 with heap:=h',toks:=tk}:=c.trans ⟨rfl,c.bare,c.iz.kept k,Un.kept k⟩
theorem Cq.other(c:Cq P w fs H s s1)(sb:bg a s1.heap j)(ha:H a=am)(hn:s.heap.get? a=am):Cq P w fs H s {s1 with heap:=j,toks:=tk}:=by
 have ne:∀{b:aw} {u:HO},H b=ae u->b≠a:=λe z=>by rw[z,ha] at e;cases e
 have h:∀{b:aw} {o:cE},s.heap.get? b=ae o->b≠a:=λe z=>by rw[z,hn] at e;cases e
 refine⟨c.os,c.bare,λb o e=>(c.iz b o e).sQ (λi u f q=>?_) (λ_ q=>q) (λ_ _ q=>q),⟨λb o e n f g=>?_,λb o e n f g=>?_,c.un.free,λb o e g=>?_,c.un.uO,c.un.rA,c.un.sR⟩⟩
 .have z:i≠a:=by
   rcases f with rfl|f
   .exact ne e
   .exact ne f
  exact(sb.2 i z).trans q
 .exact(sb.2 b (h e)).trans (c.un.keep b o e n f g)
 .obtain⟨sl,q⟩:=c.un.slot b o e n f g;exact⟨sl,(sb.2 b (h e)).trans q⟩
 .obtain⟨m,q⟩:=c.un.there b o e g;exact⟨m,(sb.2 b (h e)).trans q⟩
theorem Cq.at(c:Cq P w fs H s s1)(e:s.heap.get? b=ae o)(n:H b=am)(a:b∉fs):s1.heap.get? b=ae o:=c.un.keep b o e n a (by simp)
theorem GI:∀{a:List ai} {ss:List aJ},cM a ss->cM (a++[.str x t]) (ss++[x])
 |_,_,.nil=>.cons x t .nil
 |_,_,.cons y u h=>.cons y u (GI h)
theorem Sf(b:cM keys.toList ss)(a:2<=keys.size):keyKind' keys=pure oneType':=by
 obtain⟨l⟩:=keys;match l,b,a with
 |[],_,a=>simp at a
 |[_],_,a=>simp at a
 |v1::c::r,b,_=>exact aiT b
theorem Sg{keys:Array ai}{b:List ai}(c:cM keys.toList ss):KeysOf ahP (keys.zip b.toArray):=by intro p a;rw[ksk_zip] at a;obtain⟨x,t,e⟩:=c.all _ (gk a).1;exact⟨x.cps.toList,by rw[e]⟩
def Ku (ss:List aJ)(b out:List ai):Prop:=∃a:List (aJ×ai),a.Perm (ss.zip b)/\out=a.map aio/\a.Pairwise (λp q=>L3.uT p.1 q.1=aj)
theorem aeV{keys:Array ai}(f:cM keys.toList ss)(r:xs.Perm (keys.zip a.toArray))(s:aig ahP xs xs.size):Ku ss a (xs.map (·.2)).toList:=by
 have g:xs.toList.Perm (keys.toList.zip a):=by rw[<-ksk_zip];exact Array.perm_iff_toList_perm.mp r
 refine⟨xs.toList.map λp:Keyed=>(strOf p.1,p.2),?_,?_,?_⟩
 .have e:(keys.toList.zip a).map (λp:Keyed=>(strOf p.1,p.2))=ss.zip a:=by rw[<-f.strs,List.zip_map_left];exact cV λ⟨x,y⟩ _=>rfl
  rw[<-e];exact g.map _
 .rw[Array.toList_map,bB];rfl
 .rw[ahE];intro i j hi v b;have n:=by simpa using hi
  have c:=by simpa using v
  have q:=s i j (dR b) c;have mem:∀k (h:k<xs.size),∃x t,xs[k].1=aij x t:=λk h=>by have m:=g.mem_iff.mp (show xs[k]∈xs.toList by simp);exact f.all _ (gk m).1
  obtain⟨x,t,ex⟩:=mem i n;obtain⟨y,u,o⟩:=mem j c;rw[KK_str n (Prod.ext ex rfl),KK_str c (Prod.ext o rfl)] at q;simp only [List.getElem_map,Array.getElem_toList];rw[show strOf xs[i].1=x by rw[ex];rfl,show strOf xs[j].1=y by rw[o];rfl];change decide _=aq at q;unfold L3.uT;rw[q];rfl
section
variable {s0 s:ao} {a kS:aw} {vs:List ai} {ss:List aJ} {keys:Array ai} {e e1:Nat} {Pq:PySem.Fin->ao->Prop}
theorem Qb{st:SortSt}(c:Cq P w fs H s0 s)(nk:s.heap.get? kS=ae (b8 "list" keys e))(na:s.heap.get? a=ae (b8 "list" #[] e1))(b:kS≠a)(j:H kS=am/\s0.heap.get? kS=am)(m:H a=am/\s0.heap.get? a=am)
(n:cM keys.toList ss)(x:ss.length=vs.length)(y:vs.length<64)(o:(ahU st).Perm (keys.zip vs.toArray))(q:aig ahP (ahU st) (ahU st).size)(r:ajh st=am)
(u:∀f tk out v,Cq P w fs H s0 {s with heap:=f,toks:=tk}->f.get? a=ae (b8 "list" out v)->Ku ss vs out.toList->Pq (.done (.ret .none)) {s with heap:=f,toks:=tk}):
  wpAny (model P w) A (ksk_tail a aq e1 (.ref kS) st) Pq E s:=by
 have p:keys.size=vs.length:=by have z:=n.length;rw[bu] at z;omega
 have g:(ahU st).size=vs.length:=by rw[o.size_eq,Array.size_zip,p,aN,Nat.min_self]
 have b1:=bU s.heap kS (ci λ_=>(#[]:Array ai));have XY:(s.heap.update kS (ci λ_=>(#[]:Array ai))).get? a=ae (b8 "list" #[] e1):=(b1.2 a b.symm).trans na;have b2:=bU (s.heap.update kS (ci λ_=>(#[]:Array ai))) a (ci λ_=>(ahU st).map (·.2));obtain⟨h,i⟩:∃h,((s.heap.update kS (ci λ_=>(#[]:Array ai))).update a (ci λ_=>(ahU st).map (·.2))).get? a=ae (b8 "list" ((ahU st).map (·.2)) h):=⟨_,fP XY λ_=>(ahU st).map (·.2)⟩;unfold ksk_tail;try dsimp only
 refine ag (eJ nk rfl ?_ (by rw[p,bT];omega) (bC _));refine ag (ai8 ?_);refine ag (ahx XY rfl ?_);refine ag (eJ XY rfl ?_ (bC _) (bi (ahw (show(Array.map (·.2) (ahU st)).size=vs.length by rw[Array.size_map];exact g)) (by rw[bT];omega)));rw[r];simp only [bne_self_eq_false,eN,if_false];refine ak (u _ _ _ h ((c.other (tk:=s.toks) b1 j.1 j.2).other (tk:=s.toks) b2 m.1 m.2) i (aeV n o q))
theorem acN(c:Cq P w fs H s0 s)(nk:s.heap.get? kS=ae (b8 "list" keys e))(na:s.heap.get? a=ae (b8 "list" #[] e1))(f:kS≠a)(p:H kS=am/\s0.heap.get? kS=am)(q:H a=am/\s0.heap.get? a=am)
(g:cM keys.toList ss)(r:ss.length=vs.length)(m:vs.length<64)
(u:∀n tk out x,Cq P w fs H s0 {s with heap:=n,toks:=tk}->n.get? a=ae (b8 "list" out x)->Ku ss vs out.toList->Pq (.done (.ret .none)) {s with heap:=n,toks:=tk}):
  wpAny (model P w) A (ksk_end a aq vs.toArray e1 (.ref kS) keys) Pq E s:=by
 have y:keys.size=vs.length:=by have z:=g.length;rw[bu] at z;omega
 have o:(keys.zip vs.toArray).size=vs.length:=by rw[Array.size_zip,y,aN,Nat.min_self]
 unfold ksk_end;try dsimp only
 by_cases b:vs.toArray.size<2
 .rw[if_pos b,if_pos b];refine ag (ak ?_);refine Qb c nk na f p q g r m (Array.Perm.refl _) ?_ rfl u;intro i j B C;have G:j<(keys.zip _).size:=C;rw[aN] at b;obtain rfl:i=j:=by omega
  exact KeyOrd.kle_refl _
 .rw[if_neg b,if_neg b];rw[aN] at b;rw[Sf g (by omega)];refine ag (ak ?_);refine ag (cz (wpS_sortRunsK aiI
   (Q:=λ_ h=>(ahU h).Perm _/\ajh h=am/\aig _ (ahU h) _)
   (Sg g) ⟨Array.Perm.refl _,rfl,rfl,rfl⟩ (by omega) (by rw[o];exact m) λh I J L=>⟨I,J,L⟩) ?_ λ_ _ z=>z)
  rintro⟨⟨⟩,h⟩ O ⟨rfl,v,M,N⟩
  exact Qb c nk na f p q g r m v (by rw[v.size_eq];exact N) M u
end
end
section
variable {P:aQ} {w:bw} {A:bj} {E:ai->ao->Prop} {H:Hp} {fs:List aw} {s0 s:ao} {a kS:aw} {vs:List ai} {ss:List aJ} {e1:Nat} {Pq:PySem.Fin->ao->Prop} {f:ai}
theorem Zd(c:Cq P w fs H s0 s)(nk:s.heap.get? kS=ae (b8 "list" #[] 0))(na:s.heap.get? a=ae (b8 "list" #[] e1))(o:kS≠a)(r:H kS=am/\s0.heap.get? kS=am)(C:H a=am/\s0.heap.get? a=am)(I:kS∉fs)(J:a∉fs)
(L:ss.length=vs.length)(M:vs.length<64)
(turn:∀(i:Nat) (v:ai) (k:aJ) (s1:ao),vs[i]?=ae v->ss[i]?=ae k->Cq P w fs H s0 s1->wpAny (model P w) A (call f [v]) (λu s2=>(∃t,u=.str k t)/\Cq P w fs H s1 s2) (λ_ _=>False) s1)
(N:∀b out m,Cq P w fs H s0 b->b.heap.get? a=ae (b8 "list" out m)->Ku ss vs out.toList->Pq (.done (.ret .none)) b):
  wpAny (model P w) A (ksk_rest a f aq vs.toArray e1 (.ref kS)) Pq E s:=by
 refine ag (fC ?_);rw[<-Array.forIn_toList];refine ag (ksk_fold (λi b=>∃kA e,Cq P w fs H s0 b/\b.heap.get? kS=ae (b8 "list" kA e)/\b.heap.get? a=ae _/\cM kA.toList (ss.take i)) vs 0 s ⟨#[],0,c,nk,na,by simpa using cM.nil⟩ ?step ?done);case step=>
  rintro j x b G ⟨kA,e,m,g,h,n⟩
  simp only [bJ] at n |-;have hj:=(ap.mp G).1;obtain⟨k,p⟩:∃k,ss[j]?=ae k:=⟨_,ax (by omega)⟩;have hz:=by have z:=n.length;rw[bu,dI] at z;omega
  refine ag (dO (cz (turn j x k b G p m) (λv s2 O=>?_) λ_ _ z=>z.elim));obtain⟨⟨t,rfl⟩,y⟩:=O;have q:=y.at g r.1 I;have XZ:=y.at h C.1 J;have b1:=bU s2.heap kS (ci (·.push (.str k t)));obtain⟨e2,B⟩:∃e2,(s2.heap.update kS (ci _)).get? kS=ae _:=⟨_,fP q (·.push _)⟩;have Q:ss.take (j+1)=ss.take j++[k]:=by rw[List.take_add_one,p];rfl
  refine ag (eJ q rfl ?_ (by rw[bT];omega) (bi (ahw (Array.size_push ..)) (by rw[bT];omega)));refine ak ⟨rfl,kA.push _,e2,(m.trans y).other b1 r.1 r.2,B,(b1.2 a o.symm).trans XZ,?_⟩;rw[Q,Array.toList_push];exact GI n
 case done=>
  rintro b ⟨kA,e,m,g,h,n⟩
  rw[ah4 (by omega)] at n;refine ag (aiU g rfl ?_);exact acN m g h o r C n L M λh' tk out T U Y q3=>N _ out T U Y q3
theorem Ze(c:Cq P w fs H s0 s)(h:s.heap.get? a=ae (b8 "list" vs.toArray n))(j:H a=am/\s0.heap.get? a=am)(x:a∉fs)(y:∀b∈fs,b<s0.heap.objs.size)(m:s0.heap.objs.size<=a)(B:ss.length=vs.length)(C:vs.length<64)
(turn:∀(i:Nat) (v:ai) (k:aJ) (s1:ao),vs[i]?=ae v->ss[i]?=ae k->Cq P w fs H s0 s1->wpAny (model P w) A (call f [v]) (λu s2=>(∃t,u=.str k t)/\Cq P w fs H s1 s2) (λ_ _=>False) s1)
(G:∀p out I,Cq P w fs H s0 p->p.heap.get? a=ae (b8 "list" out I)->Ku ss vs out.toList->Pq (.done (.ret .none)) p):
  wpAny (model P w) A (ksk_tree a f aq) Pq E s:=by
 have ha:=aB h;have b1:=bU s.heap a (ci λ_=>(#[]));obtain⟨e1,g⟩:∃e1,(s.heap.update a _).get? a=ae (b8 "list" #[] e1):=⟨_,fP h λ_=>#[]⟩;have r:Cq P w fs H s0 {s with heap:=s.heap.update a _,toks:=s.toks}:=c.other b1 j.1 j.2;have e:((s.heap.update a (ci λ_=>(#[]))).push (b8 "tuple" vs.toArray 0)).objs.size=s.heap.objs.size+1:=by rw[gF,ahX]
 have J:Cq P w fs H s0 {s with heap:=((s.heap.update a _).push (b8 "tuple" vs.toArray 0)).push (b8 "list" #[] 0),toks:=s.toks}:=r.kept λb o q=>ah _ (ah _ q);have lt:=Nat.lt_succ_of_le (bi m (dR ha));refine ag (aiU h rfl ?_);refine ag (eJ h rfl ?_ (by rw[aN,bT];omega) (bC _));refine ag (ahx g rfl ?_);refine ag (ahS ?_ (by show vs.length<=_;rw[bT];omega));refine ag (fe ?_ (bC _));refine bv ?_;refine Zd
  J (az _ rfl) (ah _ (ah _ g)) (by rw[e];exact du (cA ha)) ⟨?_,?_⟩ j ?_ x B C turn G
 .rw[e];exact r.iz.fresh (by rw[ahX];exact cB _)
 .rw[e];exact cR (dR lt)
 .rw[e];exactλz=>absurd (y _ z) (aia.mpr (dR lt))
theorem Nr(r:f7 s.gens)(j:sN P w H s.heap)(n:∀b∈fs,b<s.heap.objs.size)(x:s.heap.IsList l vs.toArray)(y:ss.length=vs.length)(B:vs.length<64)
(turn:∀(i:Nat) (v:ai) (k:aJ) (s1:ao),vs[i]?=ae v->ss[i]?=ae k->Cq P w fs H s s1->wpAny (model P w) A.in1.in1 (call (.ref q) [v]) (λu s2=>(∃t,u=.str k t)/\Cq P w fs H s1 s2) (λ_ _=>False) s1)
(C:∀p c out g,Cq P w fs H s c->s.heap.objs.size<=p->c.heap.get? p=ae (b8 "list" out g)->Ku ss vs out.toList->Q (.ref p) c):
  wpAny (model P w) A (call (.builtin "sorted") [.ref l] [(ah9 "key",.ref q)]) Q E s:=by
 refine call_function_entry_kw aiz ait aiu (ksk_s1 _ _) ?_;unfold bH.«sorted»;refine ag (m:=checkCount "sorted" 1 1 _) (ak ?_);refine ag (ajC x ?_ (by rw[bT];omega));refine ag (fe ?_ (by rw[bT];omega));have h:((s.heap.push (b8 "list" #[] 0)).update s.heap.objs.size (ci (·++vs.toArray))).objs.size=s.heap.objs.size+1:=by rw[ahX,gF]
 have e:(((s.heap.push (b8 "list" #[] 0)).update s.heap.objs.size (ci (·++vs.toArray))).push (b8 "list" vs.toArray 0)).get? (s.heap.objs.size+1)=ae (b8 "list" vs.toArray 0):=by rw[<-h];exact az _ rfl
 have keep:∀b o,s.heap.get? b=ae o->(((s.heap.push (b8 "list" #[] 0)).update s.heap.objs.size (ci (·++vs.toArray))).push (b8 "list" vs.toArray 0)).get? b=ae o:=λb o z=>by have lt:b<s.heap.objs.size:=aB z;rw[ahJ _ _ _ (by rw[h];exact aO (cA lt)),d8 _ _ _ _ (aO lt),ahJ _ _ _ (aO lt)];exact z
 rw[h];have G:Cq P w fs H s {s with heap:=((s.heap.push (b8 "list" #[] 0)).update s.heap.objs.size (ci (·++vs.toArray))).push (b8 "list" vs.toArray 0),toks:=s.toks}:=(Cq.refl r j).kept keep;refine ag (bv (wpAny_call_entry_kw ahT ⟨_,e,rfl⟩ ahC ?body (ksk_l1 _ _)));case body=>
  rw[ksk_t1];refine Ze G e ⟨j.fresh (cB _),cR (cB _)⟩ (λz=>absurd (n _ z) (aia.mpr (cB _))) n (cB _) y B turn λc out g I J L=>⟨_,rfl,?_⟩;exact ak ⟨_,rfl,C _ c out g I (cB _) J L⟩
end
open PySem.W
theorem VD(x:h.CodeRec (.ref c) q):jd P w H h c (yX c q):=by
 refine⟨x,?_,λf i ⟨b,o,a,t,e,g,r⟩ k=>?_⟩
 .obtain⟨b,o,a,t,e,g,r⟩:=x;cases e;exact⟨o,g⟩
 .cases e;exact⟨c,o,a,t,rfl,k _ g,r⟩
theorem Sh(x:jd P w H h c (yX c q)):h.CodeRec (.ref c) q:=x.1
theorem Ii(e:x=.int i t)(m:y=.int j u)(l:List ai)(h:gB l):gB (l++[x,y,c]):=by
 subst e m
 fun_induction gB l with
 |case1=>simp[gB]
 |case2 a b d f g r n=>simpa[gB] using n h
 |case3=>exact h.elim
theorem Nt(l:List ai)(h:gB l)(e:aif pos (l++[.int i t,.int j u,c])=ae v):aif pos l=ae v\/v=c:=by
 fun_induction gB l with
 |case1=>
  simp only [gp,aif] at e;split at e
  .cases e;exact .inr rfl
  .cases e
 |case2 a b d f g r n=>
  simp only [List.cons_append,aif] at e |-;split at e
  .rename_i m;rw[if_pos m];exact .inl e
  .rename_i m;rw[if_neg m];exact n h e
 |case3=>exact h.elim
structure Zf(cv:av)(mg:aJ->Option ai)(cd:ai)(c P:aw):Prop where
 cd:cd=.ref c
 hd:CodeHd cv c P
 bl:cv.BuiltinsAt mg P
 gP:aZ≠P
theorem GJ{h a:av}(x:h.BuiltinsAt mg P)(k:∀b o,h.get? b=ae o->a.get? b=ae o):a.BuiltinsAt mg P:=
 let⟨c,ob,b1,b2,b3,b4,b5,e⟩:=x;⟨c,ob,b1,b2,b3,b4,k _ _ b5,e⟩
section
variable {X:Cx} {cq:List (aw×cE)} {σ:L2.St} {H:Hp} {s:ao} {A:bj} {E:ai->ao->Prop} {c P:aw} {ps:Array ai} {params:ai5} {body:bE} {scope:dN} {pos:eZ} {Q:ai->ao->Prop}
theorem Zg(I:Inv X cq σ H s)(m:H P=ae (.yJ ps))(h:gg P s.heap i)(x:s.heap.objs.size<=a)(rc:i.CodeRec (.ref a) q)(ht:i.get? P=ae (tabObj (ps++more))):
  Un X.fs [] H (upd (upd H a (yX a q)) P (.yJ (ps++more))) s.heap i/\sN X.prog X.w (upd (upd H a (yX a q)) P (.yJ (ps++more))) i:=by
 have fc:=I.iz.fresh x;have p:∀{b:aw},H b=am->b≠P:=λe z=>by rw[z,m] at e;cases e
 have y:∀{b:aw} {o:cE},s.heap.get? b=ae o->b≠a:=λe=>aO (bp (aB e) x);have nt:∀{b:aw} {o:HO},H b=ae o->(∀ps,o≠.yJ ps)->b≠P/\b≠a:=λ{b o} e n=>⟨λz=>by rw[z,m] at e;exact n ps (bn e).symm,λz=>by rw[z,fc] at e;cases e⟩;refine⟨⟨λb o e n _ _=>h b o (p n) e,λb o e n _ _=>⟨o.slots,h b o (p n) e⟩,λb o e n _=>?_,λb o e _=>?_,λb xs e=>?_,λb o u e=>?_,λb B e=>?_⟩,λb o e=>?_⟩
 .rw[gM (p n),gM (y e)];exact n
 .by_cases z:b=P
  .exact⟨_,z▸ht⟩
  .exact⟨o,h b o z e⟩
 .obtain⟨f,g⟩:=nt e (λ_ z=>by cases z);rw[gM f,gM g];exact e
 .obtain⟨f,g⟩:=nt e (λ_ z=>by cases z);rw[gM f,gM g];exact e
 .by_cases z:b=P
  .subst z;rw[m] at e;cases e;exact⟨more,gS⟩
  .have j:b≠a:=λz=>by rw[z,fc] at e;cases e
   exact⟨#[],by rw[gM z,gM j,e];simp⟩
 .by_cases z:b=P
  .subst z;rw[gS] at e;cases e;exact ht
  .rw[gM z] at e;by_cases j:b=a
   .subst j;rw[gS] at e;cases e;exact VD rc
   .rw[gM j] at e;refine(I.iz b o e).sQ (λr u v q=>h r u ?_ q) (λr q=>?_) (λr xs q=>?_)
    .rcases v with rfl|v
     .exact z
     .exact(nt v (λ_ z=>by cases z)).1
    .obtain⟨f,g⟩:=nt q (λ_ z=>by cases z);rw[gM f,gM g];exact q
    .obtain⟨f,g⟩:=nt q (λ_ z=>by cases z);rw[gM f,gM g];exact q
theorem VE(L:Zf X.cv X.mg X.env.code c P)(I:Inv X cq σ H s)(j:H P=ae (.yJ ps))(g:Py (X.env.qual++"<lambda>") H ps)(B:aiL scope X.env=pure [])(J:aj2 params X.env=([],[]))
(C:∀f a pm h n q,Inv X cq σ n q->s.heap.objs.size<=f->n f=am->q.heap.get? f=ae (kla_obj "<lambda>" (X.env.qual++"<lambda>") params body scope [] pm a h)->n a=ae (yX a (X.env.qual++"<lambda>"))->uH P (X.env.qual++"<lambda>") H n->Q (.ref f) q):
  wpAny (model X.prog X.w) A (eval (.Lambda params body scope pos) X.env) Q E s:=by
 have G:=(I.iz P _ j);refine kla_eval J ?_;cases e:aif pos _ with
 |none=>
  refine kla_makeFunction B I.ok.glob (I.mod.glob.keeps I.bk) L.cd (L.hd.keeps I.bk) G g.ok e L.gP (GJ L.bl I.bk) λa h m tk M r lt rc ht=>?_;obtain⟨N,k1⟩:=Zg I j M r rc ht;have p:=I.un (t':=tk) N k1;have fc:=I.iz.fresh r;have x:a≠P:=λz=>by rw[z,j] at fc;cases fc
  have y:=p.kept (t':=tk) (h':=m.push (kla_obj "<lambda>" (X.env.qual++"<lambda>") params body scope [] ((X.mg "__name__").getD .none) a h)) λb o e=>ah _ e;refine C _ a _ h _ _ y (bi r (dR lt)) (k1.fresh (aD _)) (az _ rfl) (by rw[gM x,gS]) ⟨⟨_,gS,?_,λO v i=>?_⟩,.inr ⟨a,_,fc,x,rfl⟩⟩
  .rw[Array.toList_append];exact Ii rfl rfl _ g.ok
  .rw[Array.toList_append] at i;rcases Nt _ g.ok i with i|i
   .obtain⟨T,e2,e3⟩:=g.cs O v i;refine⟨T,e2,?_⟩;rw[gM (λz=>by rw[z,j] at e3;cases e3),gM (λz=>by rw[z,fc] at e3;cases e3)];exact e3
   .exact⟨a,i,by rw[gM x,gS]⟩
 |some v=>
  obtain⟨a,e2,e3⟩:=g.cs pos v e;refine kla_makeFunctionHit B I.ok.glob (I.mod.glob.keeps I.bk) L.cd (L.hd.keeps I.bk) G g.ok e (GJ L.bl I.bk) λh m tk k sz=>?_;subst e2;have p:=I.kept (t':=tk) k;have y:=p.kept (t':=tk) (h':=m.push (kla_obj "<lambda>" (X.env.qual++"<lambda>") params body scope [] ((X.mg "__name__").getD .none) a h)) λb o e=>ah _ e;exact C _ a _ h H _ y sz (p.iz.fresh (aD _)) (az _ rfl) e3 ⟨⟨ps,j,g⟩,.inl rfl⟩
end
section
variable {P:aQ} {w:bw} {K:bz} {mg:aJ->Option ai} {cv:av} {A:bj} {cP:List ah1} {s:ao} {H:Hp} {f c:aw} {x qual:aJ} {params:ai5} {body:bE} {scope:dN} {pm Mv:ai} {t:TE} {u:ai} {v:V} {Q:VK} {k:Nat}
theorem VF(g:C3 P w K mg cv A cP s H)(h:iV (k+1) A)(p:s.heap.get? f=ae (kla_obj "<lambda>" qual params body scope [] pm c Mv))(rc:s.heap.CodeRec (.ref c) qual)(S:gU [x] [x] scope)
(B:∀u,dZ (kla_fn "<lambda>" qual params body scope [] pm (.ref c) Mv) ⟨[u],[]⟩=pure [(x,u)])(C:RelV v u)
(E:iV k (A.deeper (eG qual scope s.heap.objs.size f (.ref c)))->PE (rC rF P w K mg cv [x] qual scope f (.ref c) A cP s H E0).Fw body t)(q:t [ae v] H Q):
  codeAny (model P w) A (.call (.ref f) ⟨[u],[]⟩) (λr i=>∃a,r=.ok (.ret a)/\CE cP P w H s Q a i) s:=by
 have j:=g.mod.nolimit.keeps λb o e=>(g.bs b o e).1;have G:∀y∈[(x,u)],scope.names.lookup y.1=ae .local\/(scope.names.lookup y.1=ae .cell/\((ajs (s.heap.objs.size+1) _ []).lookup y.1).isSome=aj):=λy L=>by
  rw[bf.mp L];rcases S.par x (by simp) with z|z
  .exact .inl z
  .exact .inr ⟨z,W.cellsFrom_some _ _ _ (.inl z)⟩
 refine kla_callFunE h.depth p rfl S.co S.gen rfl rc ?_;rw[B u];refine ak (aje S.kind G λenv M s1 z=>?_);subst M;refine⟨j.keeps z.toInCall.keep,kla_codeExpr ?_⟩;have I:Inv (rC rF P w K mg cv [x] qual scope f (.ref c) A cP s H E0) [] _ H s1:=Gg S h.hd g rfl (.cons C .nil) z;refine cz ((E (h.deeper _)).Fw [] s1 _ H Q I q) (λa i m=>?_) λe i m=>?_
 .obtain⟨N,O,J,n,T⟩:=m;exact⟨a,rfl,N,O,J.os,J.bare,J.cv,J.iz,n,T⟩
 .refine cz m (λ_ _ z=>(z).elim) (λ_ _ z=>(z).elim)
end
section
variable {K:bz} {H H':Hp}
def nC (K:bz)(H:Hp):List V->List aJ->Prop
 |[],[]=>True
 |y::b,k::c=>(∃a zs,y=.ref a/\xr K H a (.str k::zs))/\nC K H b c
 |_,_=>False
theorem nC.length:∀{a:List V} {b:List aJ},nC K H a b->a.length=b.length
 |[],[],_=>rfl
 |[],_::_,h=>h.elim
 |_::_,[],h=>h.elim
 |_::a,_::b,h=>by rw[bc,bc,nC.length h.2]
theorem nC.get:∀{b:List V} {c:List aJ} {i:Nat} {y:V} {k:aJ},nC K H b c->b[i]?=ae y->c[i]?=ae k->∃a zs,y=.ref a/\xr K H a (.str k::zs)
 |[],[],i,y,k,_,e,_=>by simp at e
 |[],_::_,_,_,_,h,_,_=>h.elim
 |_::_,[],_,_,_,h,_,_=>h.elim
 |y::b,k::c,0,_,_,h,e,g=>by simp at e g;subst e g;exact h.1
 |y::b,k::c,i+1,_,_,h,e,g=>nC.get h.2 (by simpa using e) (by simpa using g)
theorem uH.keep(t:uH P q H H')(f:∃a,H P=ae (.yJ a))(e:H b=ae o)(n:∀a,o≠.yJ a):H' b=ae o:=by
 obtain⟨a,f⟩:=f;rcases t.2 with h|⟨c,g,i,j,h⟩
 .rw[h];exact e
 .rw[h,gM (λz=>by rw[z,f] at e;exact n a (bn e).symm),gM (λz=>by rw[z,i] at e;cases e)];exact e
theorem uH.sqL(t:uH P q H H')(b:∃c,H P=ae (.yJ c))(h:mo K H a xs):mo K H' a xs:=by
 rcases h with(h|⟨o,h⟩)|h
 .exact .inl (.inl (t.keep b h (λ_ z=>by cases z)))
 .exact .inl (.inr ⟨o,t.keep b h (λ_ z=>by cases z)⟩)
 .exact .inr h
theorem uH.sqT(t:uH P q H H')(b:∃c,H P=ae (.yJ c))(h:xr K H a xs):xr K H' a xs:=by
 rcases h with(h|⟨o,h⟩)|h
 .exact .inl (.inl (t.keep b h (λ_ z=>by cases z)))
 .exact .inl (.inr ⟨o,t.keep b h (λ_ z=>by cases z)⟩)
 .exact .inr h
theorem uH.keyed(t:uH P q H H')(f:∃g,H P=ae (.yJ g)):∀{b:List V} {c:List aJ},nC K H b c->nC K H' b c
 |[],[],_=>trivial
 |[],_::_,h=>h.elim
 |_::_,[],h=>h.elim
 |_::b,_::c,⟨⟨a,zs,e,h⟩,r⟩=>⟨⟨a,zs,e,t.sqT f h⟩,t.keyed f r⟩
noncomputable def ke{β:Type}(a:List aJ)(b:List β):List β:=(L3.P6 aU (a.zip b)).map aio
def KVs:List (aJ×V)->List (aJ×ai)->Prop:=Paired λp q=>p.1=q.1/\RelV p.2 q.2
theorem Qc(r:p.1=q.1/\RelV p.2 q.2):∀{l:List _} {m:List _},KVs l m->KVs (L3.vg aU p l) (L3.vg aU q m)
 |_,_,.nil=>.cons r .nil
 |_,_,.cons h t=>by
  unfold L3.vg;rw[r.1,h.1];split
  .exact .cons r (.cons h t)
  .exact .cons h (Qc r t)
theorem Qd:∀{l:List _} {m:List _},KVs l m->KVs (L3.P6 aU l) (L3.P6 aU m)
 |_,_,.nil=>.nil
 |_,_,.cons h t=>Qc h (Qd t)
theorem Qe:∀(a:List aJ) {b:List V} {c:List ai},Vals b c->KVs (a.zip b) (a.zip c)
 |[],_,_,_=>.nil
 |_::_,_,_,.nil=>.nil
 |_::a,_,_,.cons r t=>.cons ⟨rfl,r⟩ (Qe a t)
theorem Qf:∀{l:List _} {m:List _},KVs l m->Vals (l.map aio) (m.map aio)
 |_,_,.nil=>.nil
 |_,_,.cons h t=>.cons h.2 (Qf t)
theorem DX(r:Vals b c):Vals (ke a b) (ke a c):=Qf (Qd (Qe a r))
theorem BE{β:Type}{c:List aJ}{g:List β}(nd:c.Nodup):∀a∈c.zip g,∀b∈c.zip g,a.1=b.1->a=b:=by intro a ha b m e;obtain⟨i,hi⟩:=dM.mp ha;obtain⟨j,f⟩:=dM.mp m;have h:=dj.mp hi;have n:=dj.mp f;have lt:=(ap.mp h.1).1;have:i=j:=(ahI lt nd).mp (h.1.trans (by rw[n.1,e]));subst this;rw[hi] at f;exact bn f
theorem Kv(nd:a.Nodup)(h:Ku a b out):out=ke a b:=by obtain⟨g,c,e,f⟩:=h;rw[e,L3.tK c f (BE nd)];rfl
end
section
variable {X:Cx} {c P:aw} {e:bE} {te:TE} {p pos Ij MN np sp cp:eZ} {params:ai5} {scope:dN} {x:aJ} {k j:Nat}
def acO (K:bz)(P:aw)(q:aJ)(te:TE):TE:=λσ H Q=>te σ H λv H1=>∃a b f h,v=.ref a/\mo K H1 a b/\nC K H1 b f/\f.Nodup/\b.length<64/\H1 P=ae (.yJ h)/\Py q H1 h/\
 ∀g l,uH P q H1 g->g l=am->Q (.ref l) (upd g l (.lst (ke f b)))
theorem VG(L:Zf X.cv X.mg X.env.code c P)(hr:iV (k+4) X.A)(ms:X.mg "sorted"=am)(he:PE X e te)(S:gU [x] [x] scope)(hd:(x==("__debug__":aJ))=aq)(Bq:(x==("__classdict__":aJ))=aq)(hv:T7 scope x)
(TY:aiL scope X.env=pure [])(TU:aj2 params X.env=([],[]))
(hb:∀pm c T u,dZ (kla_fn "<lambda>" (X.env.qual++"<lambda>") params (.Subscript (.Name x np) (.Constant (.int 0) j cp) sp) scope [] pm (.ref c) T) ⟨[u],[]⟩=pure [(x,u)])(gs:Gl X "sorted":=by rfl)
(U:aP [e] X.env=[(aq,eval e X.env)]:=by rfl)
(Y:eW [⟨ae "key",.Lambda params (.Subscript (.Name x np) (.Constant (.int 0) j cp) sp) scope Ij,MN⟩] X.env=[(ae (ah9 "key"),eval (.Lambda params (.Subscript (.Name x np) (.Constant (.int 0) j cp) sp) scope Ij) X.env)]:=by rfl):
  PE X (.Call (.Name "sorted" p) [e] [⟨ae "key",.Lambda params (.Subscript (.Name x np) (.Constant (.int 0) j cp) sp) scope Ij,MN⟩] pos) (acO X.K P (X.env.qual++"<lambda>") te):=by
 intro cq s σ H Q I h;refine dQ (xI I gs ms (u:=.builtin "sorted") (by rfl) ?_ (by decide) (by decide));have hA:(aie pos (eW [⟨ae "key",.Lambda params (.Subscript (.Name x np) (.Constant (.int 0) j cp) sp) scope Ij,MN⟩] X.env)).all (·.1.isSome)=aj:=by rw[Y];rfl
 refine callWith_builtin_kwB (by rw[U];rfl) (by rw[Y];rfl) (evalArgs_kw2 hA ?_ U);rw[U,Y];refine Calls.spliced_cons (jQ (he cq s σ H _ I h) λu s1 ⟨v,H1,N,rv,a,B,C,O,ev,hq,hk,nd,HX,hP,gt,q⟩=>Calls.spliced_nil ?_);subst ev;cases rv;show wpAny _ _ (evalAll [(do let v<-eval (.Lambda params (.Subscript (.Name x np) (.Constant (.int 0) j cp) sp) scope Ij) X.env;ai9 pos;pure v)]) _ _ s1;refine wpAny_evalAll_cons (ag (VE L N hP gt TY TU λf c' pm T g s2 m fz fn fo rc tt=>ag (aht (ak (wpAny_evalAll_nil ?_)))));show wpAny (model X.prog X.w) X.A (call (.builtin "sorted") ([]++[bA a]) [(ah9 "key",.ref f)]) _ _ s2;have J:∃O,H1 P=ae (.yJ O):=⟨O,hP⟩;obtain⟨its,r',pl,hz⟩:=m.list (tt.sqL J hq);have iN:=r'.length;have kl:=hk.length;have ff1:∀b∈rW X.stack,b<s1.heap.objs.size:=λb z=>by
  rcases aC.mp (N.sT b z) with z|z
  .rw[z];exact N.lt
  .exact Nat.lt_of_not_le λy=>N.abD y z
 have ff:∀b∈rW X.stack,b<s2.heap.objs.size:=λb z=>by
  rcases aC.mp (m.sT b z) with z|z
  .rw[z];exact m.lt
  .exact Nat.lt_of_not_le λy=>m.abD y z
 refine Nr (fs:=rW X.stack) (H:=g) (ss:=C) m.bare m.iz ff pl.isList (by omega) (by omega) (λi v key s3 M hk3 E=>?_) (λp s' out c'' G pz hp ho=>?_)
 .have hI:Inv X cq σ g s3:=m.Bp E.os E.un E.iz E.bare (λb z=>absurd z (by simp));obtain⟨y,hy,ry⟩:∃y,B[i]?=ae y/\RelV y v:=by
   have li:i<B.length:=by have:=(ap.mp M).1;omega
   obtain⟨u3,e3,r3⟩:=r'.get (ax li);rw[M] at e3;cases e3;exact⟨_,ax li,r3⟩
  obtain⟨ya,zs,ey,hy2⟩:=(tt.keyed J hk).get hy hk3;subst ey;cases ry;have fo3:=E.at fo fn λz=>absurd (ff1 _ z) (aia.mpr fz);have rc3:s3.heap.CodeRec (.ref c') (X.env.qual++"<lambda>"):=Sh (E.iz c' _ rc);refine eF (c6 (VF (k:=k) (t:=tOp (aeq X.K) (Aq 0) (tC (.int 0))) (Q:=λv H'=>v=.str key/\H'=g) (A:=X.A.in1.in1) (cP:=X.stack) hI.Uv.in1.in1 (iV.mono (hr.in1.in1) (by omega)) fo3 rc3 S (λu=>hb pm c' T u) (v:=.ref ya) rfl (λ_=>?_) ?_) λr s4 hr4=>?_)
  .exact aaT UE (rB (i:=0) rfl hv hd Bq) Ub (λ_ _=>rfl)
  .exact⟨.ref ya,rfl,ya,_,0,.str key,rfl,rfl,hy2,by unfold Fx ixN;simp,rfl,rfl⟩
  .obtain⟨u',rfl,v',H',os,bare,un,iz,rv',e1,e2⟩:=hr4;subst e1 e2;exact⟨rv',⟨os,bare,iz,un⟩⟩
 .have fp:g p=am:=m.iz.fresh pz;have lz:(ke C B).length<=aE:=by
   have z:(ke C B).length=(C.zip B).length:=by unfold ke;rw[ar];exact(L3.jS _ _).length_eq
   rw[z,cY,bT];omega
  have eo:=Kv nd ho;have ne:∀{b:aw} {u:HO},g b=ae u->b≠p:=λe z=>by rw[z,fp] at e;cases e
  have un:Un (rW X.stack) [] g (upd g p (.lst (ke C B))) s2.heap s'.heap:=⟨G.un.keep,G.un.slot,λb o e n hx=>by rw[gM (aO (bp (aB e) pz))];exact n,G.un.there,λb xs e=>by rw[gM (ne e)];exact e,λb o u e=>by rw[gM (ne e)];exact e,λb O e=>⟨#[],by rw[gM (ne e),e];simp⟩⟩;have iz:sN X.prog X.w (upd g p (.lst (ke C B))) s'.heap:=λb o e=>by
   by_cases z:b=p
   .subst z;rw[gS] at e;cases e;exact⟨lz,out.toList,c'',by rw[eo];exact DX r',by rw[Array.toArray_toList];exact hp⟩
   .rw[gM z] at e;exact(G.iz b o e).sQ (λ_ _ _ q=>q) (λb' q=>by rw[gM (ne q)];exact q) λb' xs q=>by rw[gM (ne q)];exact q
  exact⟨.ref p,_,m.Bp G.os un iz G.bare (λb z=>absurd z (by simp)),rfl,q g p tt fp⟩
end
end L2
namespace L3
open L2
theorem aeW{K:bz}(t:Tb K H)(e:W.tabIn K "by_name"=ae (c,P))(tt:uH P (acm "by_name") H a):Tb K a:=λx b f g e'=>by
 have ex:=by simpa[YM] using b
 subst ex;rw[e] at e';cases e';exact tt.1
theorem Si(tt:uH P q H c)(f:∃a,H P=ae (.yJ a)):DH H c:=λb o e v=>tt.keep f e λa z=>by rw[z] at v;cases v
section
variable {K:bz} {α:List aw} {H:Hp}
def xY:List D->List aJ->Prop
 |[],[]=>True
 |x::xs,k::a=>(∃ds,x=.tup (.str k::ds))/\xY xs a
 |_,_=>False
theorem xZ(e:jD H f):∀{xs:List D} {c:List aJ} {b:List V},xY xs c->gL K α H xs b->nC K f b c
 |[],[],b,_,r=>by subst r;trivial
 |[],_::_,_,h,_=>h.elim
 |_::_,[],_,h,_=>h.elim
 |x::xs,k::c,b,⟨⟨ds,ex⟩,h⟩,r=>by subst ex;obtain⟨v,n,rfl,z,y⟩:=r;obtain⟨a,ws,rfl,g,i⟩:=z;obtain⟨u,j,rfl,m,_⟩:=i;subst m;exact⟨⟨a,j,rfl,ny e g⟩,xZ e h y⟩
theorem GK(r:Rep K α H x v):∀{a:List aJ} {xs:List D} {b:List V},gL K α H xs b->a.length=xs.length->∃(c:List aJ) (f:List D) (m:List V),vg aU (k,x) (a.zip xs)=c.zip f/\vg aU (k,v) (a.zip b)=c.zip m/\c.length=f.length/\gL K α H f m
 |[],xs,b,h,l=>by
  have e:xs=[]:=by cases xs<;>simp_all
  exact⟨[k],[x],[v],rfl,rfl,rfl,gL.one r⟩
 |k'::a,[],b,h,l=>by simp at l
 |k'::a,y::xs,b,h,l=>by
  obtain⟨u,n,rfl,z,t⟩:=h;rw[cI,cI];unfold vg;by_cases e:uT k k'=aj
  .rw[if_pos e,if_pos e];exact⟨k::k'::a,x::y::xs,v::u::n,rfl,rfl,by simpa using l,gL.cons r (gL.cons z t)⟩
  .rw[if_neg e,if_neg e];obtain⟨g,i,j,o,p,q,s⟩:=GK r t (by simpa using l);exact⟨k'::g,y::i,u::j,by rw[o];rfl,by rw[p];rfl,by simpa using q,gL.cons z s⟩
theorem Kw:∀{a:List aJ} {xs:List D} {b:List V},gL K α H xs b->a.length=xs.length->∃(c:List aJ) (f:List D) (g:List V),P6 aU (a.zip xs)=c.zip f/\P6 aU (a.zip b)=c.zip g/\c.length=f.length/\gL K α H f g
 |[],xs,b,h,l=>by
  have e:xs=[]:=by cases xs<;>simp_all
  exact⟨[],[],[],rfl,rfl,rfl,gL.nil⟩
 |k'::a,[],b,h,l=>by simp at l
 |k::a,y::xs,b,h,l=>by obtain⟨u,r,rfl,z,t⟩:=h;rw[cI,cI];unfold P6;obtain⟨i,j,m,n,o,p,q⟩:=Kw t (by simpa using l);rw[n,o];exact GK z q p
theorem DY(h:gL K α H xs c)(l:a.length=xs.length):gL K α H (ke a xs) (ke a c):=by obtain⟨e,f,g,i,j,m,b⟩:=Kw h l;have n:=gL.length _ _ b;unfold ke;rw[i,j,fY (by omega),fY (by omega)];exact b
theorem x0:∀{xs:List D} {a:List aJ},xY xs a->xs.length=a.length
 |[],[],_=>rfl
 |[],_::_,h=>h.elim
 |_::_,[],h=>h.elim
 |_::xs,_::a,h=>by rw[bc,bc,x0 h.2]
end
section
variable {X:Cx} {c P:aw} {e:bE} {te:DE} {p pos Ij MN np sp cp:eZ} {params:ai5} {scope:dN} {x:aJ} {k j:Nat}
def VH (te:DE):DF:=λb M Q=>te b M λd M1=>∃xs a,vw M1 d=.lst xs/\xY xs a/\a.Nodup/\xs.length<64/\Q (.lst (ke a xs)) M1
structure aeX(X:Cx):Prop where
 ex:∃c P,W.tabIn X.K "by_name"=ae (c,P)/\Zf X.cv X.mg X.env.code c P
 q:X.env.qual++"<lambda>"=acm "by_name"
theorem VI(L:aeX X)(C:iV (k+4) X.A)(ms:X.mg "sorted"=am)(h:JE X e te)(S:gU [x] [x] scope)(hd:(x==("__debug__":aJ))=aq:=by decide)(E:(x==("__classdict__":aJ))=aq:=by decide)(G:T7 scope x:=by first|exact fF rfl|exact eK (fF rfl))
(I:aiL scope X.env=pure []:=by rfl)(J:aj2 params X.env=([],[]):=by rfl)
(N:∀pm c O u,dZ (W.kla_fn "<lambda>" (X.env.qual++"<lambda>") params (.Subscript (.Name x np) (.Constant (.int 0) j cp) sp) scope [] pm (.ref c) O) ⟨[u],[]⟩=pure [(x,u)]:=by intros;rfl)(gs:Gl X "sorted":=by rfl)
(T:aP [e] X.env=[(aq,eval e X.env)]:=by rfl)
(U:eW [⟨ae "key",.Lambda params (.Subscript (.Name x np) (.Constant (.int 0) j cp) sp) scope Ij,MN⟩] X.env=[(ae (ah9 "key"),eval (.Lambda params (.Subscript (.Name x np) (.Constant (.int 0) j cp) sp) scope Ij) X.env)]:=by rfl):
  JF X (.Call (.Name "sorted" p) [e] [⟨ae "key",.Lambda params (.Subscript (.Name x np) (.Constant (.int 0) j cp) sp) scope Ij,MN⟩] pos) (VH te):=by
 obtain⟨c,P,ht,Y⟩:=L.ex;refine⟨λb M A B w q=>h.mono b _ _ _ (λd M1 q=>?_) q,PE.weak (VG Y C ms h.p S hd E G I J N gs T U) λσ H Q q=>?_⟩
 .obtain⟨xs,i,m,f,n,s,q⟩:=q;exact⟨xs,i,m,f,n,s,w _ _ q⟩
 .obtain⟨F,α,b,M,r,q⟩:=q;refine⟨F,α,b,M,r,h.mono b _ _ _ (λd M1 q v il H1 e1 g r1=>?_) q⟩;obtain⟨xs,i,m,f,n,s,q⟩:=q;obtain⟨a,vs,rfl,sq,o⟩:=ju g r1 m;obtain⟨y,z,hg⟩:=g.tb _ (by simp[YM]) c P ht;have hl:=gL.length _ _ o;refine⟨a,vs,i,y,rfl,mo.of sq,xZ hW f o,n,by omega,z,by rw[L.q];exact hg,λH2 l tt YE=>?_⟩;rw[L.q] at tt;obtain⟨o2,e2⟩:=g.abb (Si tt ⟨y,z⟩) (aeW g.tb ht tt);exact q l _ il H2 (e1.trans e2) o2 YE ⟨_,rfl,DY (e2.FA o) (x0 f).symm⟩
end
structure DZ(K:bz)(mg:aJ->Option ai)(cv:av):Prop where
 T6:K.In cv
 glob:cv.Ns aZ mg
 tab:∃c P,W.tabIn K "by_name"=ae (c,P)/\W.CodeHd cv c P/\cv.BuiltinsAt mg P/\aZ≠P
def aeY (K:bz)(mg:aJ->Option ai)(cv:av)(ip:ai):Prop:=∃c P,W.tabIn K "by_name"=ae (c,P)/\Zf cv mg ip c P
section
variable {P:aQ} {w:bw} {K:bz} {mg:aJ->Option ai} {cv:av}
theorem aeZ{st:cc}(F:hG K mg "by_name" st)(a:DZ K mg cv)(e:iC st=body)(es:h9 st=scope)(S:gU N b scope)
(g:∀(kV doc pm:ai) (an:Option aw) (ip ct:ai) (us:List ai),us.length=b.length->dZ (ee "by_name" "by_name" (jJ st) (iC st) (h9 st) .none kV doc pm an ip ct) ⟨us,[]⟩=pure (b.zip us))
(i:∀(f:aw) (ip:ai) (A:bj) (cP:List ah1) (s:ao) (H:Hp) (E:XK),aeY K mg cv ip->iV k (A.deeper (eG "by_name" scope s.heap.objs.size f ip))->FD (rC rF P w K mg cv N "by_name" scope f ip A cP s H E).Fw body tb):
  oZ P w K mg cv (k+1) "by_name" b (lY K (cl (kq N.length b.length tb))):=by obtain⟨f,fd,F,m⟩:=F;obtain⟨c,j,ht,hd,bl,gP⟩:=a.tab;refine⟨f,fd,m,F.kp,F.binds g,?_⟩;obtain⟨oc,od,kV,doc,pm,an,ip,ct,JQ,rfl,lk,n⟩:=F.ex;have u:=W.law_code a.T6 a.glob ht m (a.T6 _ _ lk) rfl;subst e es;refine Uy lk n S (λv H Q E ⟨F,α,M,ds,o,r,hn,x,q⟩=>by rw[<-gL.length _ _ r];exact x) λA cP s H v Q E y h=>?_;obtain⟨t,q,z⟩:=Na (i f ip A cP s H E ⟨c,j,ht,u,hd,bl,gP⟩ y) rfl h;exact⟨t,q.p.Fw,z⟩
theorem agS(h:aeY K mg cv ip):aeX (rC rF P w K mg cv N "by_name" scope f ip A cP s H E).Fw:=⟨h,rfl⟩
end
theorem ae0{K:bz}(h:W.noTabs K=aj)(e:K.lookup a=ae (W.tabObj c)):False:=by have b:=bR.mp h (a,_) (W.mem_of_lookupK e);exact absurd (b) aM
theorem Sj{P:aQ}{w:bw}{K:bz}{mg O:aJ->Option ai}{k:Nat}{Q a c T:aw}{fd:dY}{x:aJ}{sp:Sp}{f:ao}{C:List ai}{ns:List Int}
(U:K.In f.heap)(B:f.heap.Ns aZ mg)(g:f.heap.Ns ajU O)(Y:∀x:aJ,x≠"__name__"->O x=cb x)(agT:f.heap.NoLimit)(hg:f.gens=#[])
(ha:f.heap.get? a=ae {cls:=.type "list",data:=.seq C.toArray})(hi:ajB C ns)(hl:ns.length<=aE)(hr:iV k aiR)
(ht:W.tabIn K "by_name"=ae (c,T))(nt:W.noTabs K=aj)(A:f.heap.get? T=ae (W.tabObj #[]))(hd:W.CodeHd f.heap c T)(bl:f.heap.BuiltinsAt mg T)(ct:isCodeTable f.heap T)
(F:∀cv:av,DZ K mg cv->jR P w K mg cv rF k Q fd [x] sp)(ae1:∀(s:ao) (u:ai),aiP s fd ⟨[u],[]⟩ [(x,u)])
(TR:∀H:Hp,Tb K H->mo K H a (ns.map V.int)->sp [.ref a] H (λv _=>v=.bl aj) λ_ _ _=>False):
  codeAny (model P w) aiR (.call (.ref Q) ⟨[.ref a],[]⟩) (λr i=>r=.ok (.ret (.bool aj))/\OldK f.heap i.heap/\i.os=f.os/\f7 i.gens) f:=by
 have rv:=Gk hi;have agU:=hi.length;have aT:a≠T:=λz=>by rw[z,A] at ha;cases ha
 have kT:K.lookup T=am:=by
  cases e:K.lookup T with
  |none=>rfl
  |some o=>have:=U _ _ e;rw[A] at this;cases this;exact(ae0 nt e).elim
 have I:∀H:Hp,H T=ae (.yJ #[])->(∀b,b≠T->H b=am\/∃o xs,H b=ae (.qD o (.lst xs)))->mo K H a (ns.map V.int)->sN P w H f.heap->(∀b,H b≠am->b=a\/b=T)->(H a≠am->K.lookup a=am)->
   codeAny (model P w) aiR (.call (.ref Q) ⟨[.ref a],[]⟩) (λr i=>r=.ok (.ret (.bool aj))/\OldK f.heap i.heap/\i.os=f.os/\f7 i.gens) f:=by
  intro H X1 hO hS iz hA hK;have M:∀{b:aw} {o:cE},f.heap.get? b=ae o->H b=am->(CT f.heap H).get? b=ae o:=λe n=>T5 e n;have free:∀{b:aw} {o:cE},f.heap.get? b=ae o->o.cls≠.none->(b=a->False)->H b=am:=λ{b o} e hc na=>by
   cases q:H b with
   |none=>rfl
   |some u=>
    rcases hA b (by rw[q];simp) with z|z
    .exact(na z).elim
    .subst z;rw[A] at e;cases e;exact absurd rfl hc
  have noA:∀{b:aw} {o:cE} {es:Array DictEntry} {E:Nat},f.heap.get? b=ae o->o.data=.dict es E->H b=am:=λ{b o es E} e d=>by
   cases q:H b with
   |none=>rfl
   |some u=>
    rcases hA b (by rw[q];simp) with z|z
    .subst z;rw[ha] at e;cases e;cases(show Data.seq C.toArray _=Data.dict es E from d)
    .subst z;rw[A] at e;cases e;cases d
  have j:∀{b:aw} {m:aJ->Option ai},f.heap.Ns b m->(CT f.heap H).Ns b m:=λ{b m} ⟨o,es,E,e,d,r⟩=>⟨o,es,E,M e (noA e d),d,r⟩;have J:K.In (CT f.heap H):=λb o e=>M (U b o e) (by
   cases q:H b with
   |none=>rfl
   |some u=>
    rcases hA b (by rw[q];simp) with z|z
    .subst z;rw[hK (by rw[q];simp)] at e;cases e
    .subst z;rw[kT] at e;cases e)
  have hM:Mod K mg (CT f.heap H):=⟨J,j B,⟨O,j g,Y⟩,let⟨mc,h1,h2⟩:=agT;⟨mc,j h1,h2⟩⟩;have e0:C3 P w K mg (CT f.heap H) aiR [] f H:=⟨rfl,hM,λb o e=>X9 e,ahw (Rp _ _),trivial,λb g=>absurd (show b∈([]:List aw) from g) (by simp),iz,.of_eq hg⟩;have hdB:W.CodeHd (CT f.heap H) c T:=by obtain⟨o,Zh,file,tf,ae3,tg,inF,text,tt,e,r1,r⟩:=hd;exact⟨o,Zh,file,tf,ae3,tg,inF,text,tt,M e (free e (by rw[r1];simp) (λz=>by subst z;rw[ha] at e;cases e;exact absurd r1 (show¬cU "list"=cU "code" by decide))),r1,r⟩
  have blB:(CT f.heap H).BuiltinsAt mg T:=by obtain⟨bm,ob,b1,b2,b3,b4,b5,b6,b7⟩:=bl;exact⟨bm,ob,b1,b2,b3,b4,M b5 (free b5 (by rw[b6];simp) (λz=>by subst z;rw[ha] at b5;cases b5;exact absurd b6 (show¬cU "list"=cU "module" by decide))),b6,b7⟩
  have gT:aZ≠T:=λz=>by obtain⟨o,es,E,e,d,_⟩:=B;rw[z,A] at e;cases e;cases d
  have tb:Tb K H:=λy hy c' T' e'=>by
   have ey:y="by_name":=by simpa[YM] using hy
   subst ey;rw[ht] at e';cases e';exact⟨#[],X1,by simp[gB],λpos v hv=>by simp[aif] at hv⟩
  refine c6 ((F _ ⟨J,j B,c,T,ht,hdB,blB,gT⟩).run aiR [] f H ⟨[.ref a],[]⟩ [.ref a] [.ref a] _ _ hr e0 (ae1 f (.ref a)) (.cons rfl .nil) (TR H tb hS)) λr i h=>?_;cases r with
  |error e=>exact(show False from h).elim
  |ok fl=>
   cases fl with
   |next=>exact cw h
   |brk=>exact cw h
   |cont=>exact cw h
   |ret u=>
    obtain⟨v,H',os,bare,un,Zi,r',q⟩:=h;have q':v=.bl aj:=q;subst q';obtain rfl:u=ai.bool aj:=r';have N:∃more,i.heap.get? T=ae (W.tabObj more):=by obtain⟨more,z⟩:=un.sR T _ X1;exact⟨#[]++more,(show jd P w H' i.heap T (.yJ _) from Zi T _ z)⟩
    have keep:∀b o,b≠T->f.heap.get? b=ae o->i.heap.get? b=ae o:=λb o G e=>by
     rcases hO b G with z|⟨ob,xs,z⟩
     .exact un.keep b o e z (by intro z;exact absurd (show b∈([]:List aw) from z) (by simp)) (by simp)
     .have z2:=un.rA b ob _ z;obtain⟨e1,_⟩:=iz b _ z;obtain⟨e2,_⟩:=Zi b _ z2;rw[e] at e1;cases e1;exact e2
    obtain⟨more,N⟩:=N;refine⟨rfl,⟨λb o e=>?_,λb o e=>?_⟩,os,bare⟩
    .by_cases z:b=T
     .subst z;rw[A] at e;cases e;exact .inr (.inl ⟨ct,rfl,#[],more,rfl,by rw[Array.empty_append];exact N⟩)
     .exact .inl (keep b o z e)
    .by_cases z:b=T
     .exact⟨_,z▸N⟩
     .exact⟨o,keep b o z e⟩
 cases hk:K.lookup a with
 |some o=>
  have e:=U a o hk;rw[ha] at e;cases e;refine I (λb=>if b=T then ae (.yJ #[]) else am) (if_pos rfl) (λb G=>.inl (if_neg G)) (.inr ⟨_,C.toArray,_,hk,rfl,rfl,rfl,by rw[aN,agU];exact hl,by simpa using rv⟩) (λb u z=>?_) (λb z=>?_) λz=>absurd (if_neg aT) z
  .by_cases g:b=T
   .subst g;have p:=(if_pos rfl).symm.trans z;cases p;exact A
   .have p:=(if_neg g).symm.trans z;cases p
  .by_cases g:b=T
   .exact .inr g
   .exact absurd (if_neg g) z
 |none=>
  refine I (λb=>if b=T then ae (.yJ #[]) else if b=a then ae _ else am) (if_pos rfl) (λb G=>?_) (.inl (.inr ⟨{cls:=.type "list",data:=.seq C.toArray},by show(if a=T then _ else if a=a then _ else _)=_;rw[if_neg aT,if_pos rfl]⟩)) (λb u z=>?_) (λb z=>?_) λ_=>hk
  .by_cases g:b=a
   .exact .inr ⟨_,_,by show(if b=T then _ else if b=a then _ else _)=_;rw[if_neg G,if_pos g]⟩
   .exact .inl (by show(if b=T then _ else if b=a then _ else _)=_;rw[if_neg G,if_neg g])
  .by_cases L:b=T
   .subst L;have p:=(if_pos rfl).symm.trans z;cases p;exact A
   .have z1:=(if_neg L).symm.trans z;by_cases g:b=a
    .have p:=(if_pos g).symm.trans z1;cases p;subst g;exact⟨ha,by rw[ar];exact hl,C,_,rv,ha⟩
    .have p:=(if_neg g).symm.trans z1;cases p
  .by_cases L:b=T
   .exact .inr L
   .by_cases g:b=a
    .exact .inl g
    .exact absurd (by show(if b=T then _ else if b=a then _ else _)=_;rw[if_neg L,if_neg g]) z
theorem ae4{l:W.OpenLaw}{k:Nat}{q:aQ}{K:Params->bz}{g:GP}{x:aJ}(hn:l.most=ae 63)(J:d.params.defaults=[])(L:iV k aiR)
(M:∀(w:bw) (h:av),N w h->(K w.params).In h)(acP:(recsOf q).find? (λe=>e.name==("by_name":aJ))=ae d2)(ht:∀w:bw,(W.tabIn (K w.params) "by_name").isSome=aj)(nt:∀w:bw,W.noTabs (K w.params)=aj)
(j:iM g)(O:∀ns:List Int,ns.length<=63->g [.qH ns] λd=>d=.bl aj)
(F:∀(w:bw) (mg:aJ->Option ai) (i:aw) (h:av),(K w.params).In h->h.Ns aZ mg->mg d.name=ae (.ref i)->
   ∃fd:dY,(∀(s:ao) (u:ai),aiP s fd ⟨[u],[]⟩ [(x,u)])/\∀cv:av,DZ (K w.params) mg cv->jR l.prog w (K w.params) mg cv rF k i fd [x] (lY (K w.params) (cl g))):
  W.WalkO q Q XP N l.row.toRowW d [] (λf B=>PySem.call f B):=by
 refine Att.J0 hn J λw ig U mg mb i o pm cd doc a B ns G Y ho hd Bq m n UH C hg=>?_;have p:=M w _ Y;obtain⟨fd,hb,hF⟩:=F w mg i _ p G.T.g m;obtain⟨⟨c,T⟩,E⟩:=ahD.mp (ht w);obtain⟨I,y⟩:=W.tab_of G.T p acP E;have bl:U.heap.BuiltinsAt mg T:=by
  obtain⟨bm,ob,b1,b2,b3,b4,b5,A⟩:=G.T.bmain;refine⟨bm,ob,b1,b2,λz=>?_,λz=>?_,b3,b4,b5,A⟩
  .obtain⟨o',es,ep,e,dd,_⟩:=G.T.g;rw[z,e] at b3;cases b3;rw[dd] at A;cases A
  .rw[z,y] at b3;cases b3;cases b4
 refine Sj p G.T.g G.T.b G.T.builtins G.T.nolimit hg n UH (bi C (by decide)) L E (nt w) y I bl (I.tab y).isCodeTable hF hb λH tb hS=>?_;refine⟨[],[],[],[.qH ns],Vp tb,gL.one ?_,rfl,j _ _ _ (λdd e v ia H' _ _ r=>?_) (O ns C)⟩
 .refine⟨a,rfl,?_⟩;exact DL DJ hS
 .subst e;exact r
end L3
namespace L2
theorem zf(f:Nat->Int):∀n,ajl f (n+1)=f 0+ajl (λi=>f (i+1)) n
 |0=>by simp[ajl]
 |n+1=>by have a:=zf f n;show ajl f (n+1)+f (n+1)=f 0+(ajl (λi=>f (i+1)) n+f (n+1));omega
theorem BG:∀(f:Nat->Int) (l:List Int),(∀i,i<l.length->f i=l.getD i 0)->ajl f l.length=l.sum
 |f,[],_=>rfl
 |f,x::l,h=>by rw[bc,zf,BG (λi=>f (i+1)) l λi hi=>(by have:=h (i+1) (by simp;omega);simpa using this),h 0 (by simp)];rfl
section
variable {X:Cx}
theorem Sl(G:X.calm=aj):mF X (.builtin "sum") (λxs H Q=>∃(a:aw) (ns:List Int),xs=[V.ref a]/\mo X.K H a (ns.map V.int)/\Q (.int ns.sum) H):=by
 intro cq s σ H xs us Q I r h;obtain⟨a,ns,rfl,J,q⟩:=h;obtain⟨u,rfl,j⟩:=vals1 r;cases j;obtain⟨its,x,p,hz⟩:=I.list J;have L:X.A.in1.handled=am:=I.ok.hd G;have B:a<s.heap.objs.size:=by obtain⟨o,n,e,_⟩:=p;exact aB e
 have M:=by have:=x.length;rw[ar] at this;exact this.symm
 refine call_sum_walkAnyS (dF p.isList ?_);refine⟨s.heap.objs.size,_,_,_,_,_,_,λi=>ns.getD i 0,rfl,(aiw.list L s.heap.objs.size a (aO B) its.toArray).toS,⟨⟨_,az _ rfl,rfl,rfl⟩,p.isList.push _⟩,λb c=>?_,λi v f=>?_,λN C g=>?_⟩
 .rw[bW];simp only [aC,bP,or_false] at c;rcases c with rfl|rfl
  .exact fu _
  .exact cA B
 .have f:its[i]?=ae v:=by simpa using f
  have hi:i<its.length:=(ap.mp f).1;have c:(ns.map V.int)[i]?=ae (V.int (ns.getD i 0)):=by rw[bq,bD,ax (by omega)];rfl
  obtain⟨u,E,j⟩:=x.get c;rw[f] at E;cases E;exact j
 .have e:ajl (λi=>ns.getD i 0) its.toArray.size=ns.sum:=by rw[aN,M];exact BG _ _ λi _=>rfl
  rw[e];have k:=λb o z=>g.heap b o (λy=>by rw[bf.mp y] at z;exact absurd (aB z) (cS _)) (ah _ z);obtain⟨h',O,T,m,w⟩:=N;have U:O=s.gens:=g.gens;have Y:T=s.drawn:=g.drawn;have eo:w=s.os:=g.os;subst U Y eo;exact⟨.int ns.sum,H,I.kept (t':=m) k,⟨C,rfl⟩,q⟩
end
end L2
namespace L3
open L2
section
variable {X:Cx}
def acQ:GN:=λds M Q=>match ds with
 |[d]=>∃ns:List Int,vw M d=.lst (ns.map .int)/\Q (.int ns.sum) M
 |_=>False
theorem GL{K:bz}:∀{ss:List Int} {a:List V},gL K α H (ss.map D.int) a->a=ss.map V.int
 |[],a,h=>by exact h
 |x::ss,a,h=>by obtain⟨v,r,rfl,z,y⟩:=h;rw[z,GL y];rfl
theorem VJ(e:X.calm=aj:=by rfl):JB X (.builtin "sum") acQ:=by
 refine⟨λds M P Q w q=>?_,λcq s σ H xs us Q I rs h=>?_⟩
 .match ds,q with
  |[d],⟨ns,b,q⟩=>exact⟨ns,b,w _ _ q⟩
 .obtain⟨F,α,M,ds,o,c,h⟩:=h;match ds,h,c with
  |[d],⟨ns,b,q⟩,c=>
   obtain⟨v,f,g⟩:=sf c;subst f;obtain⟨a,m,rfl,i,j⟩:=ju o g b;have e2:=GL j;subst e2;exact Sl e cq s σ H _ us Q I rs ⟨a,ns,rfl,mo.of i,vK.now o q iQ⟩
end
end L3
namespace L2
section
variable {X:Cx}
end
end L2
namespace L3
open L2
section
variable {X:Cx}
end
end L3
end
namespace L2
open PySem PySem.W PyProof.Rows
def kG {β:Type}(n:Nat)(f:Nat->Nat->Bool):KasT β->(β->Prop)->Prop
 |.ret a,Q=>Q a
 |.ask i j k,Q=>i<n/\j<n/\i≠j/\kG n f (k (f i j)) Q
theorem wG{Q:m->Prop}:∀t:KasT β,kG n f t (λa=>kG n f (g a) Q)->kG n f (t.bind g) Q
 |.ret _,h=>h
 |.ask i j k,⟨b,c,e,h⟩=>⟨b,c,e,wG _ h⟩
theorem tL{Q R:β->Prop}(w:∀a,Q a->R a):∀t:KasT β,kG n f t Q->kG n f t R
 |.ret _,h=>w _ h
 |.ask i j k,⟨b,c,e,h⟩=>⟨b,c,e,tL w _ h⟩
theorem abd{J:ao->Prop}{R:β->ao->Prop}
(g:∀i j (C:Bool->ao->Prop) s,i<n->j<n->i≠j->J s->(∀b,J b->C (f i j) b)->c i j C s)(m:∀a s,Q a->J s->R a s):∀(t:KasT β) (s:ao),J s->kG n f t Q->t.kasWp c R s
 |.ret a,s,e,h=>m a s h e
 |.ask i j k,s,e,⟨o,p,q,h⟩=>g i j _ s o p q e λb r=>abd g m _ b r h
section
variable {n:Nat} {f:Nat->Nat->Bool} {p:Array Nat}
structure Ord(n:Nat)(f:Nat->Nat->Bool):Prop where
 tr:∀i j k,f i j=aj->f j k=aj->f i k=aj
 tot:∀i j,i<n->j<n->i≠j->f i j=aq->f j i=aj
structure Row(n:Nat)(p:Array Nat):Prop where
 sz:p.size=n
 pm:p.toList.Perm (cQ n)
abbrev tM(p:Array Nat)(i:Nat):Nat:=p.getD i 0
theorem Nu(h:i<p.size):p[i]?=ae (tM p i):=by simp[h]
theorem Qh(h:p[i]?=q[j]?):tM p i=tM q j:=by unfold tM;rw[Array.getD_eq_getD_getElem?,Array.getD_eq_getD_getElem?,h]
theorem Row.lt(r:Row n p)(h:i<n):tM p i<n:=by
 have e:=Nu (by rw[r.sz];exact h);have m:tM p i∈p.toList:=by rw[Array.mem_toList_iff];exact Array.mem_of_getElem? e
 exact ej.mp (r.pm.mem_iff.mp m)
theorem Row.ne(r:Row n p)(hi:i<n)(a:j<n)(h:i≠j):tM p i≠tM p j:=λe=>by have nd:=r.pm.nodup_iff.mpr List.nodup_range;have e1:=Nu (by rw[r.sz];exact hi);have e2:=Nu (by rw[r.sz];exact a);rw[e] at e1;rw[<-bQ] at e1 e2;exact h ((ahI (by rw[bu,r.sz];exact hi) nd).mp (e1.trans e2.symm))
theorem Row.perm(r:Row n p)(h:q.Perm p):Row n q:=⟨h.size_eq.trans r.sz,h.toList.trans r.pm⟩
def Cb (f:Nat->Nat->Bool)(p:Array Nat)(m:Nat):Prop:=∀i j,i<j->j<m->f (tM p i) (tM p j)=aj
def Kx (f:Nat->Nat->Bool)(p:Array Nat)(m:Nat):Prop:=∀i j,i<j->j<m->f (tM p j) (tM p i)=aj
theorem Cb.one:Cb f p 1:=λi j a b=>by omega
theorem Cb.snoc(o:Ord n f)(h:Cb f p m)(a:1<=m)(e:f (tM p (m- 1)) (tM p m)=aj):Cb f p (m+1):=λi j hi b=>by
 by_cases z:j<m
 .exact h i j hi z
 .have:j=m:=by omega
  subst this;by_cases y:i=j- 1
  .rw[y];exact e
  .exact o.tr _ _ _ (h i (j- 1) (by omega) (by omega)) e
theorem Kx.snoc(o:Ord n f)(h:Kx f p m)(a:1<=m)(e:f (tM p m) (tM p (m- 1))=aj):Kx f p (m+1):=λi j hi b=>by
 by_cases z:j<m
 .exact h i j hi z
 .have:j=m:=by omega
  subst this;by_cases y:i=j- 1
  .rw[y];exact e
  .exact o.tr _ _ _ e (h i (j- 1) (by omega) (by omega))
theorem Nv(o:Ord n f)(r:Row n p):∀(u m:Nat),1<=m->m+u<=n->Cb f p m->kG n f (kas_asc p u m) λx=>m<=x/\x<=m+u/\Cb f p x
 |0,m,a,b,h=>⟨aD _,aD _,h⟩
 |u+1,m,a,b,h=>by
  refine⟨r.lt (by omega),r.lt (by omega),r.ne (by omega) (by omega) (by omega),?_⟩;cases c:f _ _ with
  |true=>exact⟨aD _,by omega,h⟩
  |false=>
   have e:=o.tot _ _ (r.lt (by omega)) (r.lt (by omega)) (r.ne (by omega) (by omega) (by omega)) c;exact tL (λx g=>⟨by omega,by omega,g.2.2⟩) _ (Nv o r u (m+1) (by omega) (by omega) (h.snoc o a e))
theorem Qi(o:Ord n f)(r:Row n p):∀(u m:Nat),1<=m->m+u<=n->Kx f p m->kG n f (kas_desc u p m 0) λx=>x.1=p/\x.2.2=0/\m<=x.2.1/\x.2.1<=m+u/\Kx f p x.2.1
 |0,m,b,g,h=>⟨rfl,rfl,aD _,aD _,h⟩
 |u+1,m,b,g,h=>by
  refine⟨r.lt (by omega),r.lt (by omega),r.ne (by omega) (by omega) (by omega),?_⟩;cases c:f _ _ with
  |true=>exact tL (λx a=>⟨a.1,a.2.1,by omega,by omega,a.2.2.2.2⟩) _ (Qi o r u (m+1) (by omega) (by omega) (h.snoc o b c))
  |false=>
   have e:=o.tot _ _ (r.lt (by omega)) (r.lt (by omega)) (r.ne (by omega) (by omega) (by omega)) c;refine⟨r.lt (by omega),r.lt (by omega),r.ne (by omega) (by omega) (by omega),?_⟩;rw[e];exact⟨rfl,rfl,aD _,Nat.le_add_right _ _,h⟩
theorem VL(hm:m<=p.size)(a:k<m):tM (kas_rev p 0 m) k=tM p (m- 1- k):=by
 refine Qh ?_;unfold kas_rev;rw[getElem?_mirror hm _ (by omega)];split
 .rw[bJ]
 .have:k=m- 1- k:=by omega
  rw[<-this]
theorem Zk(hm:m<=p.size)(h:Kx f p m):Cb f (kas_rev p 0 m) m:=λi j hi a=>by rw[VL hm (by omega),VL hm a];exact h _ _ (by omega) (by omega)
theorem Zl(o:Ord n f)(r:Row n p)(b:1<=m)(c:m<=n)(h:Kx f p m):kG n f (kas_tail3 m n p) λx=>1<=x.1/\x.1<=n/\Row n x.2/\Cb f x.2 x.1:=by have a:Row n (kas_rev p 0 m):=r.perm (mirror_perm _ _ _ _);refine wG _ (tL (λx e=>?_) _ (Nv o a (n- m) m b (by omega) (Zk (by rw[r.sz];exact c) h)));exact⟨by omega,by omega,a,e.2.2⟩
theorem Zm(o:Ord n f)(r:Row n p)(b:2<=n)(e:f (tM p 1) (tM p 0)=aj):kG n f (kas_descPart 1 n p) λx=>1<=x.1/\x.1<=n/\Row n x.2/\Cb f x.2 x.1:=by
 have d:Kx f p 2:=λi j hi c=>by
  obtain rfl:i=0:=by omega
  obtain rfl:j=1:=by omega
  exact e
 refine wG _ (tL (λx a=>?_) _ (Qi o r (n- 2) 2 (by omega) (by omega) d));obtain⟨q,m,z⟩:=x;obtain⟨e1,e2,e3,e4,e5⟩:=a;dsimp only at e1 e2 e3 e4 e5 |-;subst e1 e2;exact Zl o r (by omega) (by omega) e5
theorem VM(o:Ord n f)(r:Row n p)(h:2<=n):kG n f (kas_count n p) λx=>1<=x.1/\x.1<=n/\Row n x.2/\Cb f x.2 x.1:=by
 have key:kG n f (kas_asc p (n- 1) 1) λx=>1<=x/\x<=n/\Cb f p x/\(x=1->f (tM p 1) (tM p 0)=aj):=by
  obtain⟨u,i⟩:∃u,n- 1=u+1:=⟨n- 2,by omega⟩;rw[i];refine⟨r.lt (by omega),r.lt (by omega),r.ne (by omega) (by omega) (by omega),?_⟩;cases c:f _ _ with
  |true=>exact⟨aD _,by omega,Cb.one,λ_=>by first|rfl|exact c⟩
  |false=>
   have e:=o.tot _ _ (r.lt (by omega)) (r.lt (by omega)) (r.ne (by omega) (by omega) (by omega)) c;exact tL (λx a=>⟨by omega,by omega,a.2.2,λz=>by omega⟩) _ (Nv o r u 2 (by omega) (by omega) (Cb.one.snoc o (aD _) e))
 refine wG _ (tL (λx a=>?_) _ key);obtain⟨b,g,ha,j⟩:=a;split
 .exact⟨b,g,r,ha⟩
 .split
  .refine⟨r.lt (by omega),r.lt (by omega),r.ne (by omega) (by omega) (by omega),?_⟩;rw[ha 0 (x- 1) (by omega) (by omega)];exact⟨b,g,r,ha⟩
  .obtain rfl:x=1:=by omega
   exact Zm o r h (j rfl)
theorem D5(o:Ord n f)(r:Row n p)(a:k<n)(ha:Cb f p k):∀(u l h:Nat),l<=h->h<=k->h- l<=u->(∀i,i<l->f (tM p i) (tM p k)=aj)->(∀i,h<=i->i<k->f (tM p k) (tM p i)=aj)->
  kG n f (kas_place p k u l h) λx=>x<=k/\(∀i,i<x->f (tM p i) (tM p k)=aj)/\∀i,x<=i->i<k->f (tM p k) (tM p i)=aj
 |0,l,h,q,m,s,b,g=>⟨by omega,b,λi hi=>g i (by omega)⟩
 |u+1,l,h,q,m,s,b,g=>by
  unfold kas_place;split
  .exact⟨by omega,b,λi hi=>g i (by omega)⟩
  .refine⟨r.lt a,r.lt (by omega),r.ne a (by omega) (by omega),?_⟩;cases c:f _ _ with
   |true=>
    refine D5 o r a ha u l _ (by omega) (by omega) (by omega) b λi hi j=>?_;by_cases z:i=(l+h)/2
    .rw[z];exact c
    .exact o.tr _ _ _ c (ha _ _ (by omega) j)
   |false=>
    have e:=o.tot _ _ (r.lt a) (r.lt (by omega)) (r.ne a (by omega) (by omega)) c;refine D5 o r a ha u _ h (by omega) m (by omega) (λi hi=>?_) g;by_cases z:i=(l+h)/2
    .rw[z];exact e
    .exact o.tr _ _ _ (ha i _ (by omega) (by omega)) e
theorem Zn(m:k<p.size)(u:x<=k)(ha:Cb f p k)(o:∀i,i<x->f (tM p i) (tM p k)=aj)(q:∀i,x<=i->i<k->f (tM p k) (tM p i)=aj):Cb f (bubble p k (k- x)) (k+1):=by
 have g:∀j,j<=k->tM _ j=if j=x then tM p k else if x<j then tM p (j- 1) else tM p j:=λj h=>by
  have e:=getElem?_bubble m (k- x) (by omega) j;have r:k- (k- x)=x:=by omega
  rw[r] at e;split at e
  .rename_i z;rw[if_pos z];exact Qh e
  .rename_i z;rw[if_neg z];split at e
   .rename_i y;rw[if_pos y.1];exact Qh e
   .rename_i y;rw[if_neg λs=>y ⟨s,h⟩];exact Qh e
 intro i j hi h;rw[g i (by omega),g j (by omega)];by_cases a:i=x
 .rw[if_pos a,if_neg (by omega),if_pos (by omega)];exact q _ (by omega) (by omega)
 .rw[if_neg a];by_cases b:x<i
  .rw[if_pos b,if_neg (by omega),if_pos (by omega)];exact ha _ _ (by omega) (by omega)
  .rw[if_neg b];by_cases c:j=x
   .rw[if_pos c];exact o _ (by omega)
   .rw[if_neg c];by_cases d:x<j
    .rw[if_pos d];by_cases e:i=j- 1
     .omega
     .exact ha _ _ (by omega) (by omega)
    .rw[if_neg d];exact ha _ _ hi (by omega)
theorem VN(o:Ord n f):∀(u:Nat) (p:Array Nat) (k:Nat),Row n p->k+u=n->Cb f p k->kG n f (kas_bin u p k) λq=>Row n q/\Cb f q n
 |0,p,k,r,e,ha=>by
  obtain rfl:k=n:=by omega
  exact⟨r,ha⟩
 |u+1,p,k,r,e,ha=>by refine wG _ (tL (λx a=>?_) _ (D5 o r (by omega) ha k 0 k (bC _) (aD _) (by omega) (λi hi=>by omega) (λi hi b=>by omega)));exact VN o u _ (k+1) (r.perm (bubble_perm _ _ _)) (by omega) (Zn (by rw[r.sz];omega) a.1 ha a.2.1 a.2.2)
theorem Zo(o:Ord n f)(b:2<=n):kG n f (kas_sort n) λq=>Row n q/\Cb f q n:=by
 have r:Row n (List.toArray (cQ n)):=⟨by simp,by simp⟩;refine wG _ (tL (λx c=>?_) _ (VM o r b));obtain⟨m,q⟩:=x;obtain⟨e,g,a,ha⟩:=c;split
 .rw[show max m 1=m by omega];exact VN o (n- m) q m a (by omega) ha
 .obtain rfl:m=n:=by omega
  exact⟨a,ha⟩
end
open PySem.Spec
section
variable {prog:aQ} {w:bw} {A:bj} {E:ai->ao->Prop} {s:ao}
def VO (h:av)(a:List ai)(b:List aJ):Prop:=∃fs,KatTups h a fs/\cM fs b
theorem tN:∀{c fs:List ai},KatTups h c fs->(∀b o,h.get? b=ae o->o.cls=.type "tuple"->g.get? b=ae o)->KatTups g c fs
 |[],[],_,_=>trivial
 |[],_::_,t,_=>t.elim
 |_::_,[],t,_=>t.elim
 |_::_,_::_,⟨⟨a,o,xs,n,e,i,f,hd,j⟩,t⟩,k=>⟨⟨a,o,xs,n,e,k a o i f,f,hd,j⟩,tN t k⟩
theorem x4:∀{b fs:List ai},KatTups h b fs->∀{i:Nat} {v:ai},b[i]?=ae v->∃a o xs n f,v=.ref a/\h.get? a=ae o/\o.data=.seq xs n/\xs[0]?=ae f/\fs[i]?=ae f
 |[],[],_,i,v,e=>by simp at e
 |[],_::_,t,_,_,_=>t.elim
 |_::_,[],t,_,_,_=>t.elim
 |_::_,f::_,⟨⟨a,o,xs,n,e,c,j,hd,g⟩,t⟩,0,v,h=>by cases h;exact⟨a,o,xs,n,f,e,c,hd,g,rfl⟩
 |_::_,_::_,⟨_,t⟩,i+1,v,h=>by have:=x4 t (by simpa using h);simpa using this
theorem qL:∀{a fs:List ai},KatTups h a fs->a.length=fs.length
 |[],[],_=>rfl
 |[],_::_,t=>t.elim
 |_::_,[],t=>t.elim
 |_::_,_::_,⟨_,t⟩=>by rw[bc,bc,qL t]
theorem zg:∀{fs:List ai} {a:List aJ},cM fs a->∀{i:Nat} {f:ai},fs[i]?=ae f->∃k t,f=.str k t/\a[i]?=ae k
 |_,_,.nil,i,f,e=>by simp at e
 |_,_,.cons x t h,0,f,e=>by cases e;exact⟨x,t,rfl,rfl⟩
 |_,_,.cons x t h,i+1,f,e=>by have:=zg h (by simpa using e);simpa using this
noncomputable def Zp(a:List aJ)(i j:Nat):Bool:=decide ((a.getD i "").cps.toList<(a.getD j "").cps.toList)
theorem Zq(nd:a.Nodup):Ord a.length (Zp a) where
 tr:=λi j k b c=>by exact decide_eq_true (List.lt_trans (of_decide_eq_true b) (of_decide_eq_true c))
 tot:=λi j hi f ne h=>by
  have h:=of_decide_eq_false h;refine decide_eq_true ?_;rcases List.le_iff_lt_or_eq.mp (ahH.mp h) with z|z
  .exact z
  .refine absurd ?_ ne;have e:=L3.P5 z;rw[bD,bD,ax hi,ax f] at e;exact(fg nd).mp e.symm
theorem Zr(I:VO s.heap m g)(hi:i<m.length)(G:j<m.length)(nd:g.Nodup)(ne:i≠j)(h:C (Zp g i j) s):kas_ask prog w A (tuples' aj) m i j C s:=by
 obtain⟨fs,t,st⟩:=I;have T:=qL t;have U:=st.length;obtain⟨a,o,xs,n,f,e,J,hd,c,L⟩:=x4 t (ax hi);obtain⟨Y,o',H,n',f',e',M,N,b,p⟩:=x4 t (ax G);obtain⟨k,tk,rfl,u⟩:=zg st L;obtain⟨k',v,rfl,y⟩:=zg st p;unfold kas_ask;rw[bD,bD,ax hi,ax G,e,e'];refine kat_lt J hd M N ?_;obtain⟨r,er⟩:∃r,xs.toList=.str k tk::r:=by
  rw[<-bQ] at c;cases q:xs.toList with
  |nil=>rw[q] at c;simp at c
  |cons x r=>rw[q] at c;simp at c;exact⟨r,by rw[c]⟩
 obtain⟨r',B⟩:∃r,H.toList=.str k' v::r:=by
  rw[<-bQ] at b;cases q:H.toList with
  |nil=>rw[q] at b;simp at b
  |cons x r=>rw[q] at b;simp at b;exact⟨r,by rw[b]⟩
 rw[er,B];have nk:¬k=k':=λz=>by
  subst z;have O:i<g.length:=by omega
  have Q:j<g.length:=by omega
  rw[ax O] at u;rw[ax Q] at y;exact ne ((fg nd).mp ((bn u).trans (bn y).symm))
 refine kat_cons (aki ?_);rw[decide_eq_false nk];refine oneLt_str ?_;have:Zp g i j=decide (k.cps.toList<k'.cps.toList):=by unfold Zp;rw[bD,bD,u,y,Option.getD_some,Option.getD_some]
 rw[<-this];exact h
theorem Ik(t:KatTups s.heap a fs)(st:cM fs f)(b:0<fs.length)(h:Q (tuples' aj) s):wpAny (model prog w) A (keyKind' a.toArray) Q E s:=by
 refine kat_kind (T:=.type "str") t b (λv c=>?_) rfl ?_
 .obtain⟨i,hi,e⟩:=List.getElem_of_mem c;obtain⟨k,tk,e2,_⟩:=zg st (by rw[ax hi,e]);subst e2;exact .now
 .exact h
theorem FF(B:s.heap.get? a=ae (b8 "list" f.toArray n))(HX:f.length<64)(hh:VO s.heap f G)(nd:G.Nodup)
(jn:∀(m:av) (e:Nat) (p:Array Nat),(∀b o,b≠a->s.heap.get? b=ae o->m.get? b=ae o)->Row f.length p->Cb (Zp G) p f.length->m.get? a=ae (b8 "list" (p.toList.map λi=>f.getD i cC).toArray e)->P (.done (.ret .none)) {s with heap:=m}):
  wpAny (model prog w) A (bH.«list.sort» ⟨[.ref a],[]⟩) P E s:=by
 obtain⟨fs,t,st⟩:=hh;have l1:=qL t;have l2:=st.length;have s1:=bU s.heap a (ci λ_=>(#[]:Array ai));obtain⟨e1,y⟩:∃e1,(s.heap.update a (ci λ_=>(#[]:Array ai))).get? a=ae (b8 "list" #[] e1):=⟨_,fP B λ_=>#[]⟩;have L:∀b o,b≠a->s.heap.get? b=ae o->(((s.heap.update a (ci λ_=>(#[]:Array ai))).push (b8 "tuple" f.toArray 0)).push (b8 "list" #[] 0)).get? b=ae o:=λb o H q=>
  ah _ (ah _ ((s1.2 b H).trans q))
 have g:(((s.heap.update a (ci λ_=>(#[]:Array ai))).push (b8 "tuple" f.toArray 0)).push (b8 "list" #[] 0)).get? a=ae (b8 "list" #[] e1):=ah _ (ah _ y);have M:=tN t λb o q c=>L b o (λz=>by subst z;rw[B] at q;cases q;exact absurd (cU.inj c) (by decide)) q
 rw[akt];refine ag (aiU B rfl ?_);refine ag (eJ B rfl ?_ (by rw[aN,bT];omega) (bC _));refine ag (ahx y rfl ?_);refine ag (ahS ?_ (by show f.length<=_;rw[bT];omega));refine ag (fe ?_ (bC _));refine bv ?_;dsimp only;generalize hh6:((s.heap.update a (ci λ_=>(#[]:Array ai))).push (b8 "tuple" f.toArray 0)).push (b8 "list" #[] 0)=u at L g M |-;have last:∀out:List ai,out.length<64->∃m e,(∀b o,b≠a->s.heap.get? b=ae o->m.get? b=ae o)/\m.get? a=ae (b8 "list" out.toArray e)/\m=u.update a (ci λ_=>out.toArray):=λout hz=>by have s2:=bU u a (ci λ_=>out.toArray);obtain⟨N,Yu⟩:∃N,(u.update a (ci λ_=>out.toArray)).get? a=ae (b8 "list" out.toArray N):=⟨_,fP g λ_=>out.toArray⟩;exact⟨_,N,λb o H q=>(s2.2 b H).trans (L b o H q),Yu,rfl⟩
 by_cases x:f.toArray.size<2
 .rw[if_pos x,if_pos x];rw[aN] at x;refine ag (ak ?_);rw[StateT.run_pure];refine ag (ak ?_);dsimp only;refine ag (ahx g rfl ?_);have eo:=by show Array.map (·.2) (f.toArray.zip f.toArray)=f.toArray;simp;exact fY (aD _)
  rw[eo];refine ag (eJ g rfl ?_ (bC _) (by rw[aN,bT];omega));simp only [bne_self_eq_false,eN,if_false];obtain⟨m,e,O,T,U⟩:=last f (by omega);rw[<-U];refine ak (jn m e (cQ f.length).toArray O ⟨by simp,by simp⟩ (λi j hi hj=>by omega) ?_);rw[T];congr 3;have:(cQ f.length).map (λi=>f.getD i cC)=f:=by
   apply List.ext_getElem
   .simp
   .intro i h1 x;simp at h1;simp[h1]
  simpa using this.symm
 .rw[if_neg x,if_neg x];rw[aN] at x;refine ag (Ik (s:={s with heap:=u}) M st (by omega) ?_);have o:=Zq nd;rw[<-l2,<-l1] at o;have go:(kas_sort f.length).kasWp (kas_ask prog w A (tuples' aj) f) (λp v=>(Row f.length p/\Cb (Zp G) p f.length)/\v={s with heap:=u}) {s with heap:=u}:=
   abd (J:=λv=>v={s with heap:=u}) (λi j C v hi hj ne e hC=>by subst e;exact Zr (s:={s with heap:=u}) ⟨fs,M,st⟩ hi hj nd ne (hC _ rfl)) (λp v h e=>⟨h,e⟩) _ _ rfl (Zo o (by omega))
  refine ag (cz (kat_run (Q:=λI v=>∃p:Array Nat,p.size=f.length/\ahU I=p.map (kas_item (f.toArray.zip f.toArray))/\ajh I=am/\(Row f.length p/\Cb (Zp G) p f.length)/\v={s with heap:=u})
   rfl (by omega) HX (λp' I v a1 a2 a3 a4=>⟨p',a1,a2,a3,a4⟩) go) ?_ λ_ _ e=>e)
  rintro⟨⟨⟩,I⟩ v ⟨p,hp,Y,hf,⟨r,ha'⟩,rfl⟩
  dsimp only;have xT:=kat_snds rfl Y;have uR:(p.toList.map λi=>f.getD i cC).length=f.length:=by rw[ar,bu,hp]
  rw[xT];obtain⟨m,e,O,T,U⟩:=last (p.toList.map λi=>f.getD i cC) (by omega);refine ag (ahx g rfl ?_);refine ag (eJ g rfl ?_ (bC _) (by rw[aN,uR,bT];omega));rw[hf];simp only [bne_self_eq_false,eN,if_false];rw[<-U];exact ak (jn m e p O r ha' T)
theorem Nw(u:s.heap.IsList l c.toArray)(v:c.length<64)(x:VO s.heap c j)(nd:j.Nodup)
(y:∀(f:av) (D:aw) (e:Nat) (p:Array Nat),(∀b o,s.heap.get? b=ae o->f.get? b=ae o)->s.heap.objs.size<=D->Row c.length p->Cb (Zp j) p c.length->f.get? D=ae (b8 "list" (p.toList.map λi=>c.getD i cC).toArray e)->Q (.ref D) {s with heap:=f}):
  wpAny (model prog w) A (call (.builtin "sorted") [.ref l]) Q E s:=by
 refine fq aiz ait aiu (aiS _) ?_;refine ag (ak ?_);refine ag (ajC u ?_ (by rw[bT];omega));refine ag (fe ?_ (by rw[bT];omega));have g:((s.heap.push (b8 "list" #[] 0)).update s.heap.objs.size (ci (·++c.toArray))).objs.size=s.heap.objs.size+1:=by rw[ahX,gF]
 have m:(((s.heap.push (b8 "list" #[] 0)).update s.heap.objs.size (ci (·++c.toArray))).push (b8 "list" c.toArray 0)).get? (s.heap.objs.size+1)=ae (b8 "list" c.toArray 0):=by rw[<-g];exact az _ rfl
 have keep:∀b o,s.heap.get? b=ae o->(((s.heap.push _).update _ _).push (b8 "list" c.toArray 0)).get? b=ae o:=λb o q=>by have h:=aB q;rw[ahJ _ _ _ (by rw[g];exact aO (cA h)),d8 _ _ _ _ (aO h),ahJ _ _ _ (aO h)];exact q
 rw[g];refine ag (bv (bM ahT ⟨_,m,rfl⟩ ahC ?body (aiA _)));case body=>
  obtain⟨fs,t,st⟩:=x;refine FF (s:={s with heap:=((s.heap.push _).update _ _).push _}) m v ⟨fs,tN t λb o q _=>keep b o q,st⟩ nd λf e p k r a q=>⟨_,rfl,ak ⟨_,rfl,?_⟩⟩;exact y f _ e p (λb o n=>k b o (λz=>absurd (aB n) (by rw[z];exact aia.mpr (cB _))) (keep b o n)) (cB _) r a q
end
section
variable {X:Cx}
theorem VP(o:b.length=a.length)(r:Row a.length p)(ha:Cb (Zp b) p a.length):Ku b a (p.toList.map λi=>a.getD i cC):=by
 have q:b.zip a=(cQ a.length).map λi=>(b.getD i "",a.getD i cC):=by
  apply List.ext_getElem
  .simp[o]
  .intro i m n;simp at m n;have s:i<b.length:=by omega
   simp[m,n,ax s]
 refine⟨p.toList.map λi=>(b.getD i "",a.getD i cC),?_,by rw[bB];rfl,?_⟩
 .rw[q];exact r.pm.map _
 .rw[List.pairwise_map,ahE];intro i j hi c e;rw[bu,r.sz] at hi c;have h:=of_decide_eq_true (ha i j e c);have g:∀k (f:k<p.toList.length),tM p k=p.toList[k]:=λk f=>by rw[bu] at f;simp[f]
  rw[g i (by rw[bu,r.sz];exact hi),g j (by rw[bu,r.sz];exact c)] at h;unfold L3.uT;rw[decide_eq_false (λz=>ain _ (List.lt_trans h z))];rfl
theorem Ky(I:Inv X cq σ H s):∀{b:List V} {c:List aJ} {f:List ai},nC X.K H b c->Vals b f->∃fs,KatTups s.heap f fs/\cM fs c
 |[],[],_,_,.nil=>⟨[],trivial,.nil⟩
 |[],_::_,_,h,_=>h.elim
 |_::_,[],_,h,_=>h.elim
 |_::b,k::c,_,⟨⟨a,zs,e,h⟩,r⟩,.cons g t=>by
  subst e;obtain⟨fs,i,j⟩:=Ky I r t;obtain⟨its,m,⟨o,p,q,n,hd⟩,_⟩:=I.tuple h;cases m with
  |cons u _=>
   obtain⟨tk,rfl⟩:=u;obtain rfl:=(g);exact⟨_::fs,⟨⟨a,o,_,n,rfl,p,q,hd,rfl⟩,i⟩,.cons k tk j⟩
theorem Il:mF X (.builtin "sorted") (λxs H Q=>∃p a b,xs=[.ref p]/\mo X.K H p a/\nC X.K H a b/\b.Nodup/\a.length<64/\∀l,H l=am->Q (.ref l) (upd H l (.lst (ke b a)))):=by
 intro cq s σ H xs us Q I r h;obtain⟨p,a,b,rfl,i,j,nd,y,q⟩:=h;obtain⟨u,rfl,m⟩:=vals1 r;cases m;obtain⟨its,c,pl,_⟩:=I.list i;have z:=c.length;obtain⟨fs,k1,k2⟩:=Ky I j c;have A:=qL k1;have B:=k2.length;refine Nw pl.isList (by omega) ⟨fs,k1,k2⟩ nd λn D e p kp f o ha g=>?_;rw[Kv nd (VP (by omega) o ha)] at g;have v:Vals (ke b a) _:=DX c;have x:(ke b a).length<=aE:=by unfold ke;rw[ar,(L3.jS _ _).length_eq,cY];omega
 exact⟨.ref D,_,I.laid kp f (show jd X.prog X.w _ n _ (.lst _) from⟨x,ke b its,e,v,g⟩),rfl,q D (I.iz.fresh f)⟩
end
end L2
section
open PySem PySem.Spec PyProof.Rows
namespace L3
open L2
section
variable {X:Cx}
def CB:GF:=λds M Q=>match ds with
 |[d]=>∃xs a,vw M d=.lst xs/\xY xs a/\a.Nodup/\xs.length<64/\Q (.lst (ke a xs)) M
 |_=>False
theorem Sm:JBF X (.builtin "sorted") CB:=by
 refine⟨λds M P Q w q=>?_,λcq s σ H xs us Q I rs h=>?_⟩
 .unfold CB at*;split at q
  .obtain⟨xs,c,e,b,f,i,q⟩:=q;exact⟨xs,c,e,b,f,i,w _ _ q⟩
  .exact q.elim
 .obtain⟨F,α,M,ds,o,j,h⟩:=h;unfold CB at h;split at h
  .obtain⟨xs,c,e,b,f,i,q⟩:=h;obtain⟨v,m,n⟩:=sf j;subst m;obtain⟨a,r,rfl,u,g⟩:=ju o n e;have y:=gL.length _ _ g;exact Il cq s σ H _ us Q I rs ⟨a,r,c,rfl,mo.of u,xZ hW b g,f,by omega,λp x=>q p _ α H Ext.refl o x ⟨_,rfl,DY g (x0 b).symm⟩⟩
  .exact h.elim
end
end L3
namespace L2
noncomputable def Iti(a:aw)(o:cE)(b:List (Key×V)):It:=⟨λi H=>H a=ae (.qD o (.dK b))/\i<b.length,
 λi H x c=>∃p k v,x=.ref p/\H p=am/\b[i]?=ae (k,v)/\c=upd H p (.tup [kV k,v]),λi H=>H a=ae (.qD o (.dK b))/\i=b.length⟩
theorem ae5(h:(iF P w).is k u=aj):RelV (kV k) u:=by
 cases k with
 |inl i=>
  have h:aic i u=aj:=h;cases u<;>first|(simp[aic] at h;done)|skip
  simp[aic] at h;subst h;exact⟨_,rfl⟩
 |inr x=>
  have h:eU x u=aj:=h;cases u<;>first|(simp[eU] at h;done)|skip
  simp[eU] at h;subst h;exact⟨_,rfl⟩
def tnI (it a:aw)(o:cE)(n:Nat)(i:Nat)(h:av):Prop:=∃es b ok c,o.data=.dict es b/\IsItemIter h it a i n b ok c
theorem VQ(r:KV a b){i:Nat}{k:Key}(h:a[i]?=ae (k,v)):∃u,b[i]?=ae (k,u)/\RelV v u:=by
 induction r generalizing i with
 |nil=>simp at h
 |@cons p q _ _ r _ c=>
  cases i with
  |zero=>
   simp at h;subst h;exact⟨q.2,by simp;exact Prod.ext r.1.symm rfl,r.2⟩
  |succ i=>
   obtain⟨u,e,f⟩:=c (by simpa using h);exact⟨u,by simpa using e,f⟩
theorem Ny{P:aQ}{w:bw}{K:bz}{elts:List bE}{n:Nat}{pos:eZ}(it a:aw)(o:cE)(g:List (Key×V)):Turn P w K (.Tuple elts n pos) (Iti a o g) [it] it (tnI it a o g.length) where
 mem:=by simp
 obj:=λi h st b c=>by obtain⟨es,f,ok,j,_,e⟩:=st;cases bf.mp c;exact⟨_,e,λv z=>by cases z⟩
 keep:=λi h h' st k=>by obtain⟨es,f,ok,j,d,e⟩:=st;exact⟨es,f,ok,j,d,k it (by simp) _ e⟩
 item:=by intro X C hw G hc i cq s σ H E I B st J;subst C hw G;obtain⟨es,f,ok,j,d,e⟩:=st;obtain⟨L,hi⟩:=J;obtain⟨m,z,hd,vs,rel,ob,Mr,M,r,N,x,O⟩:=(show jd X.prog X.w H s.heap a (.qD o (.dK g)) from I.iz a _ L);rw[m] at r;cases r;rw[d] at x;cases x;obtain⟨⟨k,v⟩,hx⟩:∃p,g[i]?=ae p:=⟨_,ax hi⟩;obtain⟨u,hu,ru⟩:=VQ rel hx;rw[rel.length] at e;refine wpAny_pyNext_items_item (knd:=iF X.prog X.w) e ⟨o,es,m,N,d,O⟩ hu λkey h' hk xT hT hz T=>⟨.ref s.heap.objs.size,rfl,?_⟩;refine wpAny_letOwnedTupleGo_items xT λU MY hs=>?_;have y:s.heap.objs.size≠it:=λz=>absurd (aB e) (by rw[<-z];exact cS _);have kk:∀b q,b∉[it]->s.heap.get? b=ae q->U.get? b=ae q:=λb q c Y=>(hs.2 b (λz=>c (by simp[z]))).trans (T b q (λz=>c (by simp[z])) Y);have hTs:aiF U s.heap.objs.size #[key,u]:=⟨_,(hs.2 _ y).trans hT,rfl,_,rfl⟩;have Vb:H s.heap.objs.size=am:=I.iz.fresh (aD _);have I2:Inv X cq σ (upd H s.heap.objs.size (.tup [kV k,v])) {s with heap:=U,toks:=s.toks}:=I.HN [it] kk (λb c=>B b c) (aD _) (by show 2<=aE;decide) (its:=[key,u]) (.cons (ae5 hk) (.cons ru .nil)) hTs;refine⟨.ref s.heap.objs.size,_,I2,rfl,⟨_,k,v,rfl,Vb,hx,rfl⟩,⟨es,f,_,_,d,by rw[rel.length];exact MY⟩,λb c=>?_⟩;rw[gM λq=>y (by rw[<-q];exact bf.mp c)];exact(B b c).1
 done:=by intro X C hw G hc i cq s σ H E I B st J;subst C hw G;obtain⟨es,f,ok,j,d,e⟩:=st;obtain⟨L,rfl⟩:=J;obtain⟨m,z,hd,vs,rel,ob,Mr,M,r,N,x,O⟩:=(show jd X.prog X.w H s.heap a (.qD o (.dK g)) from I.iz a _ L);rw[m] at r;cases r;rw[d] at x;cases x;have MX:X.A.handled=am:=I.ok.hd hc;rw[rel.length] at e;refine wpAny_pyNext_items_end (knd:=iF X.prog X.w) MX e ⟨o,es,m,N,d,O⟩ (by simp) λh' he=>⟨rfl,?_⟩;exact I.HM (t':=s.toks) [it] (λb q c Y=>he b q (λz=>c (by simp[z])) Y) (λb c=>B b c)
 self:=λA i s Q E st h=>by obtain⟨es,f,ok,j,d,e⟩:=st;exact W.kcp_self e h
section
variable {X:Cx} {o:bE} {to:TE} {apos jo yO:eZ} {elts:List bE} {n:Nat}
def acR (X:Cx)(to:TE):TI:=λσ H R=>to σ H λx H1=>∃a b,x=.ref a/\
 ((H1 a=ae (.dK b)/\∀o,(∀o u,X.ik a≠ae (.qD o u))->R (Iti a o b) (upd H1 a (.qD o (.dK b))))\/∃o,H1 a=ae (.qD o (.dK b))/\R (Iti a o b) H1)
theorem VR(N:PE X o to)(O:dz o "items" X.env (eval o X.env)=eval o X.env:=by rfl)(Q:(apos.endLine==jo.line)=aj:=by rfl):
  PI X (.Tuple elts n yO) (.Call (.Attribute o "items" apos) [] [] jo) (acR X to):=by
 intro cq s σ H R I h;refine wpAny_Call_method0_late O Q (jQ (N cq s σ H _ I h) λv s1 T=>?_);obtain⟨x,H1,G,U,a,f,e,q⟩:=T;subst e;obtain rfl:v=bA a:=U;have key:∃i ob,i a=ae (.qD ob (.dK f))/\Inv X cq σ i s1/\R (Iti a ob f) i:=by
  rcases q with⟨B,q⟩|⟨ob,B,q⟩
  .obtain⟨ob,g,j,Y⟩:=G.freeze B;exact⟨_,ob,gS,j,q ob Y⟩
  .exact⟨H1,ob,B,G,q⟩
 obtain⟨i,ob,hH,j,q⟩:=key;have C:=(show jd X.prog X.w i s1.heap a (.qD ob (.dK f)) from j.iz a _ hH);obtain⟨c,z,hd,y,rel,ob',es,m,p,A,E,J⟩:=C;rw[c] at p;cases p;have r:s1.heap.DictOf (iF X.prog X.w) a y:=⟨ob,es,m,c,A,E,J⟩;refine⟨"dict","dict.items",PySem.F.plainAttrs_dict,PySem.F.slot_dict_items,PySem.F.type_dict_items,⟨ob,c,A.1⟩,λb e=>?_,ahZ rfl (PySem.evalArgs_none ?_)⟩
 .cases e;exact⟨ob,c,A.2.1⟩
 refine call_meetsIn PySem.F.slot_dict_items r.typeIs PySem.F.entry_dict_items (PySem.F.args_dict_items_1 _) (meets_dict_items (iF X.prog X.w) a hd) ⟨⟨y,r⟩,?_⟩;have L:∀b u,s1.heap.get? b=ae u->(s1.heap.push {cls:=.type "dict_items",data:=.fields #[.ref a]}).get? b=ae u:=λb u e=>ah _ e;refine wpAny_pyIter_items (knd:=iF X.prog X.w) (d:=a) (kvs:=y) (ep:=m) ⟨_,az _ rfl,rfl,rfl⟩ ⟨ob,es,L a ob c,A,E,J⟩ ?_;have g2:∀b u,s1.heap.get? b=ae u->((s1.heap.push {cls:=.type "dict_items",data:=.fields #[.ref a]}).push {cls:=.type "dict_itemiterator",data:=.fields #[.none,.bool aq,.ref a,.int 0 0,.int y.length 0,.int m 0,.none,.none]}).get? b=ae u:=
  λb u e=>ah _ (L b u e)
 have M:s1.heap.objs.size<=(s1.heap.push {cls:=.type "dict_items",data:=.fields #[.ref a]}).objs.size:=by rw[gF];exact cB _
 refine⟨_,[_],tnI _ a ob f.length,Iti a ob f,i,rfl,j.kept (t':=s1.toks) g2,Ny _ a ob f,⟨es,m,.none,.none,E,?_⟩,λb hb=>?_,q⟩
 .rw[rel.length];exact az _ rfl
 .cases bf.mp hb;exact j.Mz M (j.iz.fresh M)
end
end L2
namespace L3
open L2
noncomputable def Qj:Key->D
 |.inl i=>.int i
 |.inr x=>.str x
theorem Zt{K:bz}(k:Key):Rep K α H (Qj k) (kV k):=by cases k<;>(unfold Qj;rfl)
noncomputable def nV(a:List Key)(ds:List D):List D:=dG (λk d=>.tup [Qj k,d]) a ds
section
variable {X:Cx}
theorem Kz{M1:Ms}(j:ja F e M1 H1 a=ae (.qD ob (.dK (b.zip c))))(M:b.length=ds.length)(m:gL X.K e (ja F e M1 H1) ds c):
  acp X.K F e H1 M1 (Iti a ob (b.zip c)) (nV b ds) (λ_=>True):=by
 have lv:=gL.length _ _ m;have A:(nV b ds).length=ds.length:=by unfold nV;rw[gE];omega
 have B:(b.zip c).length=(nV b ds).length:=by rw[cY,A];omega
 refine⟨λi n q r u p s o _ hi=>⟨(iB (s a _ j)).2,by omega⟩,λi n q r u x N d C s o _ hd y=>?_,λn q r u p s o _=>⟨(iB (s a _ j)).2,B.symm⟩⟩;obtain⟨p,k,v,rfl,w,f,rfl⟩:=y;have z:=dj.mp f;have E:=z.2;have G:=z.1;obtain⟨H,h,I⟩:=gL.get' ds c i v m E;have J:=by
  have g:(nV b ds)[i]?=ae (.tup [Qj k,H]):=by show(dG _ b ds)[i]?=_;rw[aib,G,h]
  rw[hd] at g;exact bn g
 subst J;obtain⟨L,e2⟩:=o.laid w;exact⟨L,e2,k7 o w (gL.cons (Zt k) (gL.cons (Rep.mono C s _ _ I) gL.nil)) e2⟩
def Im (to:DE):DI:=λb M Q=>to b M λd M1=>∃a ds,d=.jf a ds/\Q (nV a ds) (λ_=>True) M1
theorem KA(f:JE X o to)(u:dz o "items" X.env (eval o X.env)=eval o X.env:=by rfl)(x:(apos.endLine==y.line)=aj:=by rfl):
  JI X (.Tuple elts n E) (.Call (.Attribute o "items" apos) [] [] y) (Im to):=by
 refine⟨λb M P Q w q=>f.mono b _ _ _ (λd M1 q=>?_) q,PI.weak (VR f.p u x) λσ H Q q=>?_⟩
 .obtain⟨g,ds,e,q⟩:=q;exact⟨g,ds,e,w _ _ _ q⟩
 .obtain⟨F,α,b,M,r,q⟩:=q;refine⟨F,α,b,M,r,f.mono b _ _ _ (λd M1 q v j H1 e1 c A=>?_) q⟩;obtain⟨g,ds,rfl,q⟩:=q;obtain⟨a,B,rfl,i,m,s⟩:=A;refine⟨a,g.zip B,rfl,?_⟩;rcases i with h|⟨ob,h⟩
  .obtain⟨na,ha⟩:=iB h;refine .inl ⟨ha,λob C=>?_⟩;have z:=M0.dict (ob:=ob) c ha na C;exact q _ j H1 _ _ e1 c z (Kz (jK na gS rfl) m (gL.imp z.rep _ _ s))
  .obtain⟨na,ha⟩:=iB h;exact .inr ⟨ob,ha,q _ j H1 H1 id e1 c (M0.refl c) (Kz h m s)⟩
end
end L3
namespace L2
section
variable {prog:aQ} {w:bw} {A:bj} {E:ai->ao->Prop} {s:ao} {a b:aw} {K:Type} [DecidableEq K] {knd:PySem.KeyKind prog w K} {vs ws:List (K×ai)}
theorem Nz(g:∀i,i<n->∀e:ForInStep β->ao->Prop,e (.yield c) s->wpAny M A (body i c) e E s)(h:Q c s):
  wpAny M A (forIn [0:n] c body) Q E s:=by
 rw[Std.Legacy.Range.forIn_eq_forIn_range'];have gen:∀l:List Nat,(∀i∈l,i<n)->wpAny M A (forIn l c body) Q E s:=by
  intro l;induction l with
  |nil=>intro _;exact ak h
  |cons x r j=>
   intro f;rw[ah8];refine ag (g x (f x aH) _ ?_);exact j λi hi=>f i (ay _ hi)
 refine gen _ λi hi=>?_;simp[Std.Legacy.Range.size] at hi;omega
theorem D6{id:String}(ha:(a==cj)=aq)(J:(b==cj)=aq)(L:s.heap.DictOf knd a vs)(M:s.heap.DictOf knd b ws)(N:vs.length=ws.length)
(q:∀k v,(k,v)∈vs->∃g,d7 ws k=ae g/\b9 A s v g aj)(h:Q aj s):wpAny (model prog w) A (bH.Dict.samePairs id a b) Q E s:=by
 obtain⟨o,es,ep,m,hc,hd,O,C,hn⟩:=L;obtain⟨o',n,T,r,U,u,Y,x,XR⟩:=M;have z1:es.size=vs.length:=by rw[<-C.length];simp
 have z2:n.size=ws.length:=by rw[<-x.length];simp
 unfold bH.Dict.samePairs bH.Dict.showsAll;rw[if_neg (by rw[ha];exact aM),if_neg (by rw[J];exact aM)];refine ag (ak ?_);refine ag (ak ?_);refine ag (fj m hd ?_);refine ag (fj r u ?_);rw[if_neg (by rw[z1,z2,N];simp)];refine ag (aku m hd ?_);refine ag (Nz (λi hi R' hR=>?_) ?_)
 .refine ag (fj m hd ?_);rw[cG hi];have RP:i<vs.length:=by omega
  obtain⟨⟨k,v⟩,G⟩:∃p,vs[i]?=ae p:=⟨_,ax RP⟩;have y:es.toList[i]?=ae es[i]:=by rw[bQ,cG hi]
  obtain⟨p1,p2⟩:=C.get? y G;obtain⟨k2,H,q2⟩:=O es[i] (Array.getElem_mem hi);have ek:=knd.inj _ _ _ H p1;subst ek;obtain⟨g,c,heq⟩:=q k2 v (bF G);have B:∃j,(n.findIdx? λe=>knd.is k2 e.key)=ae j/\∃f,n[j]?=ae f/\f.val=g:=by
   cases z:n.toList.findIdx? λe=>knd.is k2 e.key with
   |none=>
    rw[<-x.find k2] at c;rw[List.findIdx?_eq_none_iff] at z;rw[fM.mpr λe q=>by rw[z e q];exact aM] at c;cases c
   |some j=>
    obtain⟨f,f1,f2,I⟩:=x.at z;refine⟨j,(List.findIdx?_toArray _ _).trans z,f,by rw[<-bQ];exact f1,?_⟩;rw[c] at I;exact(bn I).symm
  obtain⟨j,hj,f,hf,rfl⟩:=B;refine ag (bv ?_);rw[q2];refine ag (akb H r u Y ?_);rw[hj];refine ag (fj r u ?_);rw[hf];refine bv ?_;rw[p2];refine heq prog w _ _ ?_;refine ag (aku m hd ?_);rw[if_neg (by simp)];exact ak hR
 .exact ak h
theorem KC(g:A.units<fH)(ha:(a==cj)=aq)(i:(b==cj)=aq)(c:s.heap.DictOf knd a vs)(e:s.heap.DictOf knd b ws)(j:vs.length=ws.length)
(m:∀k v,(k,v)∈vs->∃f,d7 ws k=ae f/\b9 A.in1 s v f aj)(h:Q (.bool aj) s):wpAny (model prog w) A (compareOp .Eq (.ref a) (.ref b)) Q E s:=by show wpAny _ A (ajR .Eq (.ref a) (.ref b)) Q E s;refine ahK c.typeIs e.typeIs PySem.F.slot_dict_eq (bM PySem.F.slot_dict_eq c.typeIs PySem.F.entry_dict_eq ?_ (PySem.F.args_dict_eq_2 _ _)) g;refine ag ?_;refine ak ?_;refine ag (gC e.typeIs PySem.F.kt_sub_dict ?_);refine ag (ak ?_);refine ag (ak ?_);refine ag (D6 ha i c e j m ?_);exact ak ⟨_,rfl,(λz=>nomatch z),h⟩
theorem KD(g:A.units<fH)(ha:(a==cj)=aq)(i:(b==cj)=aq)(c:s.heap.DictOf knd a vs)(e:s.heap.DictOf knd b ws)(j:vs.length=ws.length)
(m:∀k v,(k,v)∈vs->∃f,d7 ws k=ae f/\b9 A.in1 s v f aj)(h:Q (.bool aq) s):wpAny (model prog w) A (compareOp .NotEq (.ref a) (.ref b)) Q E s:=by show wpAny _ A (ajR .NotEq (.ref a) (.ref b)) Q E s;refine ahK c.typeIs e.typeIs PySem.F.slot_dict_ne (bM PySem.F.slot_dict_ne c.typeIs PySem.F.entry_dict_ne ?_ (PySem.F.args_dict_ne_2 _ _)) g;refine ag ?_;refine ak ?_;refine ag (gC e.typeIs PySem.F.kt_sub_dict ?_);refine ag (ak ?_);refine ag (ak ?_);refine ag (D6 ha i c e j m ?_);exact ak ⟨_,rfl,(λz=>nomatch z),h⟩
end
end L2
namespace L3
open L2
def Sn (b:List Key)(ds:List D)(c:List Key)(e:List D):Prop:=
 b.length=c.length/\∀(i:Nat) (k:Key) (d:D),b[i]?=ae k->ds[i]?=ae d->∃a,nB k c e=ae a/\okE d a/\Dw d a=aj
def KG (r:Bool):G2:=λx y M Q=>match vw M x,vw M y with
 |.jf a ds,.jf b c=>Sn a ds b c/\Q (.bl r) M
 |_,_=>False
theorem NA:xw (KG r):=by
 intro x y M P Q w q;unfold KG at*;generalize vw M x=a at q |-;generalize vw M y=b at q |-;split at q
 .exact⟨q.1,w _ _ q.2⟩
 .exact q.elim
section
variable {X:Cx}
theorem Sq(hu:X.A.units+64<fH)(I:L2.Inv X cq σ H s)(o:OK X.K F α H M)
(O:Rep X.K α (ja F α M H) Q x)(T:Rep X.K α (ja F α M H) U y)(e1:vw M Q=.jf j ds)(e2:vw M U=.jf C E)(h:Sn j ds C E):
  ∃a b c ws,x=.ref a/\y=.ref b/\(a==cj)=aq/\(b==cj)=aq/\s.heap.DictOf (iF X.prog X.w) a c/\s.heap.DictOf (iF X.prog X.w) b ws/\c.length=ws.length/\
   ∀k v,(k,v)∈c->∃f,d7 ws k=ae f/\b9 X.A.in1 s v f aj:=by
 obtain⟨a,c,rfl,Y,l1,G⟩:=oP o O e1;obtain⟨b,ws,rfl,q2,l2,J⟩:=oP o T e2;obtain⟨_,n1,us,k1,d1⟩:=uG I.iz Y;obtain⟨_,n2,m,k2,d2⟩:=uG I.iz q2;have m1:=gL.length _ _ G;have m2:=gL.length _ _ J;have p1:=k1.length;have p2:=k2.length;rw[cY] at p1 p2;refine⟨a,b,us,m,rfl,rfl,n1,n2,d1,d2,by have:=h.1;omega,λk u Zb=>?_⟩;obtain⟨i,hi⟩:=dM.mp Zb;have RP:i<(j.zip c).length:=by have:=(ap.mp hi).1;rw[cY];omega
 obtain⟨⟨k0,v⟩,L⟩:∃p,(j.zip c)[i]?=ae p:=⟨_,ax RP⟩;obtain⟨u0,e,ru⟩:=VQ k1 L;rw[hi] at e;cases e;have N:=dj.mp L;obtain⟨d,hd,rd⟩:=gL.get' ds c i v G N.2;obtain⟨g,g1,⟨n,q,c3,c4⟩,g3⟩:=h.2 i k d N.1 hd;obtain⟨f,g4,r⟩:=(se C E ws J l2).1 g g1;obtain⟨z,g5,B⟩:=rq.some_of (by rw[<-g4];exact k2.val k);obtain⟨as,w1⟩:=Rep.reads I _ v u (Rep.mono (aS _) hW _ _ rd) ru n;obtain⟨bs,w2⟩:=Rep.reads I _ f z (Rep.mono (aS _) hW _ _ r) B q;refine⟨z,g5,?_⟩;have dd:=toP_depth d;have:=SeqAt.eqAt_reads (toP d) (toP g) X.A.in1 s u z as bs w1 w2 (toP_lay d n) (toP_lay g q) (by show X.A.units+1+_<_;omega);rw[toP_eqv d g n q,g3] at this;exact this
theorem acS(c:X.A.units+64<fH):JC X .NotEq (KG aq):=by
 refine⟨NA,λcq s σ H x y v u Q I e f h=>?_⟩;obtain⟨F,α,M,r,w,o,g,i,h⟩:=h;unfold KG at h;split at h
 .rename_i e1 e2;obtain⟨a,b,z,ws,rfl,rfl,j,m,n,p,l,q⟩:=Sq c I o g i e1 e2 h.1;obtain rfl:v=bA a:=e;obtain rfl:u=bA b:=f;exact KD (by omega) j m n p l q ⟨.bl aq,H,I,rfl,vK.now o h.2 iX⟩
 .exact h.elim
end
section
variable {X:Cx}
theorem Zu(h:b∈lv α (M.set k am)):b∈lv α M:=by
 obtain⟨j,o,c,a⟩:=nz.mp h;have e:j≠k:=λz=>by
  subst z;by_cases f:j<M.length
  .rw[bG f] at a;cases a
  .rw[cn (by rw[gu];omega)] at a;cases a
 rw[bx λz=>e z.symm] at a;exact nz.mpr ⟨j,o,c,a⟩
theorem OK.give{K:bz}(o:OK K F α H M)(k:Nat):OK K F α H (M.set k am)/\Ext F α H M α H (M.set k am):=by
 have c:jD (ja F α M H) (ja F α (M.set k am) H):=λb x h=>by
  obtain⟨n,q⟩:=iB h;refine ma h (λw=>n ?_) q;rcases bd.mp w with w|w
  .exact bS _ (Zu w)
  .exact bO _ w
 refine⟨⟨by rw[gu];exact o.ml,o.nd,o.fr,o.al,λj x h=>?_,o.tb⟩,aS _,c,λ_ _=>rfl⟩;have e:j≠k:=λz=>by
  subst z;by_cases f:j<M.length
  .rw[bG f] at h;cases h
  .rw[cn (by rw[gu];omega)] at h;cases h
 rw[bx λz=>e z.symm] at h;obtain⟨a,g,i⟩:=o.own j x h;exact⟨a,g,i.mono (aS _) c rfl⟩
def abe (i:Nat):DE:=λa M Q=>∃(k:Nat) (es:List D),a[i]?=ae (ae (.loc k))/\M[k]?=ae (ae (.lst es))/\Q (.lst es) (M.set k am)
theorem acT(i:Nat)(o:X.N[i]?=ae x:=by rfl)(p:T7 X.env.scope x:=by first|exact fF rfl|exact eK (fF rfl)|exact eK (eK rfl))(hd:(x==("__debug__":aJ))=aq:=by decide)
(s:(x==("__classdict__":aJ))=aq:=by decide):JE X (.Name x pos) (abe i):=by
 refine⟨λu M P Q h q=>?_,PE.weak (rB o p hd s) λσ H Q h=>?_⟩
 .obtain⟨k,es,c,f,q⟩:=q;exact⟨k,es,c,f,h _ _ q⟩
 .obtain⟨F,α,u,M,r,k,es,c,f,q⟩:=h;obtain⟨v,e,y⟩:=r.sl i _ c;obtain⟨a,g,rfl⟩:=y;obtain⟨G,m,z,A,B⟩:=r.ok.own k _ f;rw[g] at m;cases m;obtain⟨C,e2⟩:=r.ok.give k;refine⟨.ref a,e,q _ α H e2 C ?_⟩;refine⟨a,z,rfl,jK (λw=>?_) A rfl,e2.FA B⟩;rcases bd.mp w with w|w
  .obtain⟨j,x,n,b⟩:=nz.mp w;have:j=k:=(ahI (ap.mp n).1 r.ok.nd).mp (n.trans g.symm);subst this;by_cases E:j<M.length
   .rw[bG E] at b;cases b
   .rw[cn (by rw[gu];omega)] at b;cases b
  .exact(r.ok.fr a w).1 (bF g)
end
end L3
namespace L2
section
variable {prog:aQ} {w:bw} {A:bj} {E:ai->ao->Prop} {s:ao}
theorem GO(f:t≠it):∀(n i:Nat) (s:ao) (Q:List ai->ao->Prop),s.heap.IsListIter it t i->s.heap.IsList t items->i+n<=items.size->
  (∀a,a.IsListIter it t (i+n)->bg it s.heap a->Q ((items.toList.drop i).take n) {s with heap:=a})->wpAny (model prog w) A (draw (.ref it) n) Q E s
 |0,i,s,Q,b,_,_,c=>by exact ak (by simpa using c s.heap b (bg.refl ..))
 |n+1,i,s,Q,b,ht,j,c=>by
  have g:i<items.size:=by omega
  refine ag (ajy b ht (x:=items[i]) (by simp[g]) λq m h=>?_);refine ag (bv (GO f n (i+1) _ _ m (ht.extBut h.extBut f) (by omega) λo e p=>ak ?_));have hd:items.toList.drop i=items[i]::items.toList.drop (i+1):=by simp[dP,g]
  have:=c o (by rw[show i+(n+1)=i+1+n by omega];exact e) (h.trans p);rw[hd] at this;exact this
theorem KH(n:A.handled=am)(ht:s.heap.IsList t items)
(hn:(cT elts env).length=items.size)(a:(cT elts env).findIdx? (·.1)=am)
(h:∀g,gg s.heap.objs.size s.heap g->wpAny (model prog w) A (akK ((cT elts env).map (·.2)) items.toList) Q E {s with heap:=g}):
  wpAny (model prog w) A (assign (.Tuple elts x1 pos) env (.ref t)) Q E s:=by
 refine ag (aht ?_);unfold unpack;rw[hn,a];refine ag (bv ?_);have i:t≠s.heap.objs.size:=by obtain⟨o,p,_⟩:=ht;exact aO (aB p)
 refine ag ?_;refine ag (ahB ht.typeIs PySem.F.slot_list_iter.lookup ?_);refine ak ?_;refine ag (bv (dF ht ?_));refine ag (bv (GO i _ 0 _ _ ⟨_,az _ rfl,rfl,rfl⟩ (ht.push _) (by omega) λv q j=>?_));have c:List.take items.size (List.drop 0 items.toList)=items.toList:=by exact ah4 (by simp)
 rw[c];rw[if_neg (by simp)];have f:=(ht.push _).extBut j.extBut i;refine ag (bv (ajF n q f (by simp) λr u=>?_));refine ak (h r λb o m e=>u b o m (j.extBut b o m (ah _ e)))
end
section
variable {X:Cx} {pos:eZ}
def agV (K:bz)(n:Nat)(t:TGs):TG:=λv σ H Q=>∃a xs,v=.ref a/\mo K H a xs/\xs.length=n/\t xs σ H Q
theorem acV(f:X.calm=aj)(h:TQ X es t)
(hn:(cT es X.env).length=n:=by rfl)(g:(cT es X.env).findIdx? (·.1)=am:=by rfl):PG X (.Tuple es k pos) (agV X.K n t):=by intro cq s σ H v u Q I r hw;obtain⟨a,xs,e1,i,j,hw⟩:=hw;subst e1;cases r;obtain⟨its,c,ht,q⟩:=I.list i;refine KH (I.ok.hd f) ht.isList (by simp[hn,<-j,c.length]) g λw m=>?_;have p:=I.kept (t':=s.toks) λb o e=>m b o (aO (aB e)) e;exact h cq _ σ H xs _ Q p (by simpa using c) hw
end
end L2
namespace L3
open L2
section
variable {X:Cx} {pos:eZ}
def KI (n:Nat)(gs:DGs):DG:=λd a M Q=>match d with|.lst ds=>ds.length=n/\gs ds a M Q|_=>False
theorem acW(h:JGs X es gs)(c:X.calm=aj:=by rfl)(hn:(cT es X.env).length=n:=by rfl)(e:(cT es X.env).findIdx? (·.1)=am:=by rfl):JG X (.Tuple es k pos) (KI n gs):=by
 refine⟨λd b M P Q w q=>?_,PG.weak (acV c h.p hn e) λv σ H Q q=>?_⟩
 .unfold KI at*;split at q
  .exact⟨q.1,h.mono _ _ _ _ _ w q.2⟩
  .exact q.elim
 .obtain⟨F,α,b,M,d,r,rd,q⟩:=q;unfold KI at q;split at q
  .obtain⟨a,f,rfl,g,z⟩:=rd;exact⟨a,f,rfl,mo.of (hW _ _ g),by rw[<-gL.length _ _ z];exact q.1,F,α,b,M,_,r,z,q.2⟩
  .exact q.elim
end
end L3
namespace L2
section
variable {X:Cx} {o:bE} {to:TE} {apos jo:eZ} {tg:bE}
end
end L2
namespace L3
open L2
section
variable {X:Cx}
end
noncomputable def afa(M:Ms):D->D
 |.jf a ds=>.jf a (ds.map (vw M))
 |d=>d
noncomputable def fz2(M:Ms)(d:D):D:=afa M (vw M d)
section
variable {K:bz} {F α:List aw} {H:Hp} {M:Ms}
theorem Zv(o:OK K F α H M)(d:D)(v:V)(h:Rep K α (ja F α M H) d v):Rep K α (kX F H) (fz2 M d) v:=by
 have c:=Ax o d v h;unfold fz2;generalize e:vw M d=z at c |-;cases z<;>first|exact c|skip
 rename_i i ds;obtain⟨a,f,rfl,q,l,r⟩:=oP o h e;obtain⟨n,j,e',g,p,s⟩:=c;cases e';have m:i.zip j=i.zip f:=by
  rcases q with q|⟨u,q⟩<;>rcases Cs hW g with b|⟨w,b⟩<;>rw[q] at b<;>injection b with b
  .injection b with b;exact b.symm
  .cases b
  .cases b
  .injection b with _ b;injection b with b;exact b.symm
 rw[m] at g;exact⟨a,f,rfl,g,by rw[ar];exact l,HF o ds f r⟩
def Zw (n m:Nat)(tb:DS):GP:=λds Q=>ds.length=m/\tb ⟨λ_ _=>Q .non,λd a=>nl (fz2 a d)=aj/\Q (fz2 a d),λ_ _=>False,λ_ _=>False⟩ (pQ n ds) []
theorem Zx{j:List aJ}(g:FD X body tb)(m:X.K=K)(h:lY K (cl (Zw n.length j.length tb)) c H Q E):
  ∃t,QB X body t/\t {nx:=λ_ b=>Q .non b,rt:=Q} (L2.start n c) H:=by
 subst m;obtain⟨F,α,M,ds,o,r,hn,z,q⟩:=h;have s:OK X.K _ [] H []:=⟨rfl,dh,λa ha=>⟨by simp,by
  rcases bd.mp ha with ha|ha
  .exact o.PB a ha
  .exact(o.fr a ha).2⟩,λa ha=>(by simp at ha),λk x h=>(by simp at h),o.tb⟩
 have u:gL X.K [] _ ds c:=gL.nl ds c hn r;refine⟨_,⟨g.p⟩,lv α M++F,[],pQ n.length ds,[],Ct s u,?_⟩;refine g.mono _ _ _ _ ?_ q;refine⟨λA w q B y b e r=>?_,λd w q v y b e i r=>?_,λ_ _ q=>q.elim,λ_ _ q=>q.elim⟩
 .obtain⟨e1,f⟩:=mw o e r.ok;exact q _ α b e1 f tq
 .obtain⟨e1,f⟩:=mw o e i;exact q.2 v α b e1 f (Rep.nl _ _ q.1 (Zv i d v r))
end
theorem acX{K:bz}{st:cc}(F:hG K mg x st)(b:iC st=body)(es:h9 st=scope)(S:gU N a scope)
(c:∀(kV doc pm:ai) (an:Option aw) (ip ct:ai) (us:List ai),us.length=a.length->dZ (ee x x (jJ st) (iC st) (h9 st) .none kV doc pm an ip ct) ⟨us,[]⟩=pure (a.zip us))
(e:∀(f:aw) (ip:ai) (A:bj) (cP:List ah1) (s:ao) (H:Hp) (E:XK),iV k (A.deeper (eG x scope s.heap.objs.size f ip))->FD (rC rF P w K mg cv N x scope f ip A cP s H E).Fw body tb):
  oZ P w K mg cv (k+1) x a (lY K (cl (Zw N.length a.length tb))):=
 F.ack b es S c (λg H Q E ⟨F,α,M,ds,o,r,hn,i,q⟩=>by rw[<-gL.length _ _ r];exact i) λf ip A cP s H g Q E j h=>Zx (e f ip A cP s H E j) rfl h
section
variable {X:Cx}
end
end L3
namespace L3
open L2
section
variable {X:Cx}
end
end L3
namespace L2
section
variable {prog:aQ} {w:bw} {κ:Type} [DecidableEq κ] {knd:PySem.KeyKind prog w κ} {A:bj} {E:ai->ao->Prop} {s:ao}
end
section
variable {X:Cx}
end
end L2
namespace L3
open L2
section
variable {X:Cx}
end
end L3
namespace L2
section
variable {X:Cx}
end
end L2
namespace L3
open L2
section
variable {X:Cx}
end
section
variable {X:Cx} {pos:eZ} {keys:List (Option bE)} {values:List bE} {ts:List (DE×DE)}
end
section
variable {X:Cx}
end
section
variable {K:bz}
end
end L3
namespace L2
section
variable {prog:aQ} {w:bw} {A:bj} {E:ai->ao->Prop} {s:ao} {a b:aw} {K:Type} [DecidableEq K] {knd:PySem.KeyKind prog w K} {vs ws:List (K×ai)}
theorem VS(f:A.units<fH)(ha:(a==cj)=aq)(g:(b==cj)=aq)(i:s.heap.DictOf knd a vs)(j:s.heap.DictOf knd b ws)(m:vs.length=ws.length)
(n:∀k v,(k,v)∈vs->∃c,d7 ws k=ae c/\b9 A.in1 s v c aj)(h:Q aj s):wpAny (model prog w) A (eqBool (.ref a) (.ref b)) Q E s:=by
 by_cases e:a=b
 .subst e;exact b9.same _ prog w E Q h
 .refine bv (akv (λz=>absurd (by have:=eq_of_beq z;injection this) e) λ_=>?_);exact ag (KC f ha g i j m n (cO h))
theorem VT(q:A.units<fH)(u:s.heap.IsTuple l #[x1,x2])(v:s.heap.IsTuple r #[x,y])
(B:b9 A.in1 s x1 x aj)(e:∀(R:Bool->ao->Prop) (C:ai->ao->Prop),R aj s->wpAny (model prog w) A.in1 (eqBool x2 y) R C s)(h:Q (.bool aj) s):
  wpAny (model prog w) A (compareOp .Eq (.ref l) (.ref r)) Q E s:=by
 obtain⟨⟨cls,dd,data,sl⟩,f,i,n,hd⟩:=id u;obtain⟨⟨G,H,data2,I⟩,j,m,L,o⟩:=id v;simp only at i hd m o;subst i hd m o;show wpAny (model prog w) A (ajR .Eq (.ref l) (.ref r)) Q E s;have p:s.TypeIs (.ref l) "tuple":=⟨_,f,rfl⟩;have J:s.TypeIs (.ref r) "tuple":=⟨_,j,rfl⟩;refine ahK p J PySem.F.slot_tuple_eq (bM PySem.F.slot_tuple_eq p PySem.F.entry_tuple_eq ?_ (PySem.F.args_tuple_eq_2 _ _)) q;have M:=AutoSeq1.sub_tuple_tuple;obtain⟨N,g,d,tk,os⟩:=s;have c:=B prog w;refine ag (ak ?_);dsimp only;generalize O:eqBool=T at c e |-
 wp_walk using wpAny_loadPart' f,wpAny_loadPart' j
 refine c _ _ ?_
 wp_walk
 refine e _ _ ?_
 wp_walk
 exact⟨_,rfl,(λz=>nomatch z),h⟩
end
end L2
theorem L2.iV.acY(r:L2.iV k A):A.units+66<PySem.cLine:=by have:=r.un;omega
namespace L3
open L2
def KJ:G2:=λx y M Q=>match vw M x,vw M y with
 |.tup [a,d],.tup [b,e]=>(okE a b/\Dw a b=aj)/\(∃c ds f g,vw M d=.jf c ds/\vw M e=.jf f g/\Sn c ds f g)/\Q (.bl aj) M
 |_,_=>False
theorem NC:xw KJ:=by
 intro x y M P Q w q;unfold KJ at*;generalize vw M x=a at q |-;generalize vw M y=b at q |-;split at q
 .exact⟨q.1,q.2.1,w _ _ q.2.2⟩
 .exact q.elim
section
variable {X:Cx}
theorem NF(hu:X.A.units+66<fH)(I:L2.Inv X cq σ H s)(o:OK X.K F α H M)
(O:Rep X.K α (ja F α M H) Q x)(T:Rep X.K α (ja F α M H) U y)(e1:vw M Q=.jf j ds)(e2:vw M U=.jf C E)(h:Sn j ds C E):
  ∃a b c ws,x=.ref a/\y=.ref b/\(a==cj)=aq/\(b==cj)=aq/\s.heap.DictOf (iF X.prog X.w) a c/\s.heap.DictOf (iF X.prog X.w) b ws/\c.length=ws.length/\
   ∀k v,(k,v)∈c->∃f,d7 ws k=ae f/\b9 X.A.in1.in1 s v f aj:=by
 obtain⟨a,c,rfl,Y,l1,G⟩:=oP o O e1;obtain⟨b,ws,rfl,q2,l2,J⟩:=oP o T e2;obtain⟨_,n1,us,k1,d1⟩:=uG I.iz Y;obtain⟨_,n2,m,k2,d2⟩:=uG I.iz q2;have m1:=gL.length _ _ G;have m2:=gL.length _ _ J;have p1:=k1.length;have p2:=k2.length;rw[cY] at p1 p2;refine⟨a,b,us,m,rfl,rfl,n1,n2,d1,d2,by have:=h.1;omega,λk u Zb=>?_⟩;obtain⟨i,hi⟩:=dM.mp Zb;have RP:i<(j.zip c).length:=by have:=(ap.mp hi).1;rw[cY];omega
 obtain⟨⟨k0,v⟩,L⟩:∃p,(j.zip c)[i]?=ae p:=⟨_,ax RP⟩;obtain⟨u0,e,ru⟩:=VQ k1 L;rw[hi] at e;cases e;have N:=dj.mp L;obtain⟨d,hd,rd⟩:=gL.get' ds c i v G N.2;obtain⟨g,g1,⟨n,q,c3,c4⟩,g3⟩:=h.2 i k d N.1 hd;obtain⟨f,g4,r⟩:=(se C E ws J l2).1 g g1;obtain⟨z,g5,B⟩:=rq.some_of (by rw[<-g4];exact k2.val k);obtain⟨as,w1⟩:=Rep.reads I _ v u (Rep.mono (aS _) hW _ _ rd) ru n;obtain⟨bs,w2⟩:=Rep.reads I _ f z (Rep.mono (aS _) hW _ _ r) B q;refine⟨z,g5,?_⟩;have dd:=toP_depth d;have:=SeqAt.eqAt_reads (toP d) (toP g) X.A.in1.in1 s u z as bs w1 w2 (toP_lay d n) (toP_lay g q) (by show X.A.units+1+1+_<_;omega);rw[toP_eqv d g n q,g3] at this;exact this
theorem acZ(m:X.A.units+66<fH):JC X .Eq KJ:=by
 refine⟨NC,λcq s σ H x y v u Q I n w h=>?_⟩;obtain⟨F,α,M,da,db,o,B,C,h⟩:=h;unfold KJ at h;split at h
 .rename_i a d b e e1 e2;obtain⟨⟨⟨f,g,c3,c4⟩,E⟩,⟨ks,ds,Fv,So,G,J,L⟩,q⟩:=h;obtain⟨l,N,rfl,s1,O⟩:=mR o B e1;obtain⟨r,ws,rfl,s2,T⟩:=mR o C e2;obtain⟨v1,v2,rfl,a1,a2⟩:=BA O;obtain⟨U,w2,rfl,b1,b2⟩:=BA T;obtain rfl:v=bA l:=n;obtain rfl:u=bA r:=w;obtain⟨i1,Y,t1,_⟩:=I.tuple s1;obtain⟨i2,r2,t2,_⟩:=I.tuple s2;obtain⟨i,m2,rfl,k1,k2⟩:=vals2 Y;obtain⟨j,n2,rfl,j1,j2⟩:=vals2 r2;obtain⟨as,y1⟩:=Rep.reads I _ v1 i (Rep.mono (aS _) hW _ _ a1) k1 f;obtain⟨bs,y2⟩:=Rep.reads I _ U j (Rep.mono (aS _) hW _ _ b1) j1 g;obtain⟨p,p',N,ws,rfl,rfl,h1,h2,d1,d2,hl,he⟩:=NF m I o a2 b2 G J L;obtain rfl:m2=bA p:=k2;obtain rfl:n2=bA p':=j2;have dd:=toP_depth a;have c:=SeqAt.eqAt_reads (toP a) (toP b) X.A.in1 s i j as bs y1 y2 (toP_lay a f) (toP_lay b g) (by show X.A.units+1+_<_;omega);rw[toP_eqv a b f g,E] at c;exact VT (by omega) t1 t2 c (λR E' z=>VS (by show X.A.units+1<_;omega) h1 h2 d1 d2 hl he z) ⟨.bl aj,H,I,rfl,vK.now o q iX⟩
 .exact h.elim
end
end L3
namespace L2
theorem NG(n:Nat):sliceRange ((n:Int)- 1) (-1) (-1)=(cQ n).reverse:=by
 unfold sliceRange;rw[if_neg (by decide)];by_cases h:n=0
 .subst h;rfl
 .rw[if_pos (by omega)];have e:(((n:Int)- 1- -1- -1- 1)/(- -1)).toNat=n:=by rw[show(- -1:Int)=1 from rfl];omega
  dsimp only;rw[e];apply List.ext_getElem (by simp);intro i a b;simp at a b |-;omega
theorem Sr(its:List ai):aju its.toArray am am (ae (-1))=its.reverse.toArray:=by
 unfold aju;have e:fB am am (ae (-1)) its.toArray.size=(((its.length:Nat):Int)- 1,-1,-1):=by unfold fB;simp
 rw[e];rw[NG];congr 1;rw[List.filterMap_reverse];congr 1;apply fQ;intro i;have key:∀(l:List Nat) (i:Nat),(∀y∈l,y<its.length)->(l.filterMap λj=>its.toArray[j]?)[i]?=l[i]?.bind λj=>its[j]?:=by
  intro l;induction l with
  |nil=>intro i _;simp
  |cons y l a=>
   intro i h;have lt:=h y aH;have e:its.toArray[y]?=ae its[y]:=by simp[lt]
   rw[ahO e];cases i with
   |zero=>simp[lt]
   |succ i=>exact a i λz m=>h z (ay _ m)
 rw[key _ i λy m=>ej.mp m];by_cases lt:i<its.length
 .rw[ax (by simpa using lt),List.getElem_range];rfl
 .rw[cn (by simpa using lt),cn (by simpa using lt)];rfl
section
variable {X:Cx} {e st:bE} {te:TE} {ts:TO} {p2 pos:eZ}
def agW (K:bz)(te:TE)(ts:TO):TE:=λσ H Q=>te σ H λx H1=>ts σ H1 λi b=>i=ae (-1)/\∃a xs,x=.ref a/\mo K b a xs/\∀p,b p=am->Q (.ref p) (upd b p (.lst xs.reverse))
theorem ac0(g:PE X e te)(j:PO X (ae st) ts):PE X (.Subscript e (.Slice am am (ae st) p2) pos) (agW X.K te ts):=by intro cq s σ H Q I h;refine ajY (jQ (g cq s σ H _ I h) λv s1 c=>?_);obtain⟨x,H1,m,n,p⟩:=c;refine wpAny_Slice ?_;refine ak (ak (jQ (j cq s1 σ H1 _ m p) λu s3 c=>?_));obtain⟨i,B,w,y,rfl,a,xs,rfl,z,q⟩:=c;cases n;have k:∀b ob,s3.heap.get? b=ae ob->(s3.heap.push {cls:=.type "slice",data:=.fields #[.none,.none,u]}).get? b=ae ob:=λb ob q=>ah _ q;have f:=w.kept (t':=s3.toks) k;obtain⟨its,r,ht,A⟩:=f.list z;have E:=r.length;refine akA ht.isList.typeIs aiQ.lookup ?_ (by with_unfolding_all rfl);refine ajo ht.isList (av.IsSliceOf.new ..) .none .none y (by simp) ?_ (by rw[aN];omega);rw[Sr];exact⟨.ref _,_,f.laid (o:=.lst _) (λb ob q=>ah _ q) (aD _) ⟨by rw[List.length_reverse];exact A,_,0,r.reverse,az _ rfl⟩,rfl,q _ (f.iz.fresh (aD _))⟩
end
end L2
namespace L3
open L2
section
variable {X:Cx} {e st:bE} {te:DE} {ts:DO} {p2 pos:eZ}
def afb (te:DE)(ts:DO):DE:=λa M Q=>te a M λd M1=>ts a M1 λi M2=>i=ae (-1)/\∃xs,vw M2 d=.lst xs/\Q (.lst xs.reverse) M2
theorem KL{K:bz}:∀{ds:List D} {a:List V},gL K α H ds a->gL K α H ds.reverse a.reverse
 |[],a,h=>by subst h;rfl
 |d::ds,a,h=>by obtain⟨v,r,rfl,z,y⟩:=h;rw[fO,fO];exact gL.append _ _ _ _ (KL y) (by exact⟨v,[],rfl,z,by rfl⟩)
theorem afc(c:JE X e te)(f:JOp X (ae st) ts):JE X (.Subscript e (.Slice am am (ae st) p2) pos) (afb te ts):=by
 refine⟨λb M P Q w q=>c.mono b _ _ _ (λd M1 q=>f.mono b _ _ _ (λi M2 q=>?_) q) q,PE.weak (ac0 c.p f.p) λσ H Q q=>?_⟩
 .obtain⟨g,xs,h,q⟩:=q;exact⟨g,xs,h,w _ _ q⟩
 .obtain⟨F,α,b,M,r,q⟩:=q;refine⟨F,α,b,M,r,c.mono b _ _ _ (λd M1 q v n H1 e1 o s=>⟨F,n,b,M1,r.grow e1 o,f.mono b _ _ _ (λi M2 q A B e2 j=>?_) q⟩) q⟩;obtain⟨g,xs,h,q⟩:=q;have u:=e2.rep s;obtain⟨a,x,rfl,y,z⟩:=ju j u h;exact⟨g,a,x,rfl,mo.of y,λp m=>vK.new j m (vK.grow (e1.trans e2) _ _ q) (kZ j m (KL z))⟩
end
end L3
namespace L2
section
variable {prog:aQ} {w:bw} {A:bj} {E:ai->ao->Prop} {s:ao}
noncomputable def xm(w:bw):Bool:=w.params.followText "set-order"
def agX (w:bw)(n:Nat)(t:cK):Prop:=t.led=!xm w/\(n=0\/t.plain=aq)
def kQ (prog:aQ)(w:bw)(h:av)(a:aw)(S:aJ->Bool)(n:Nat):Prop:=
 ∃o es b t,h.get? a=ae o/\o.ExactSet/\o.data=.set es b t/\akc (PySem.strKind prog w) es.toList/\(∀k,S k=aj↔∃e∈es.toList,(PySem.strKind prog w).is k e.2=aj)
  /\es.size<dw/\t.fits es.size=aj/\es.size=n/\agX w n t
theorem VU(t:cK)(n:Nat):(t.orStandIn n).led=t.led:=by unfold cK.orStandIn cK.standIn;split<;>rfl
theorem Zy(t:cK)(es:Array _)(h:Int)(x:ai):(layNew t es h x).2.1.led=t.led:=by
 unfold layNew;split
 .exact VU _ _
 .rfl
theorem Ss(t:cK)(es:Array _)(n:Nat):(aiB t es n).2.1.led=t.led/\(t.plain=aq->(aiB t es n).2.1.plain=aq):=by
 unfold aiB;split
 .rename_i b o e;unfold cK.relaid cK.laid at e;cases a:cK.layClean _ _ with
  |none=>rw[a] at e;exact nomatch e
  |some c=>
   rw[a] at e;simp only [Option.bind_eq_bind,ahQ,Option.pure_def,Option.some.injEq,Prod.mk.injEq] at e;obtain⟨e1,_⟩:=e;dsimp only;split
   .subst e1;exact⟨rfl,id⟩
   .exact⟨rfl,λ_=>rfl⟩
 .exact⟨rfl,λ_=>rfl⟩
theorem Ql{g:Bool->Sem Unit}(N:∀(b:Bool) (z:ao) (B:Unit->ao->Prop),B () z->wpAny (model prog w) A (g b) B E z)
(C:s.heap.get? a=ae o)(n:o.ExactSet)(hd:o.data=.set es Q t)
(r:akc (PySem.strKind prog w) fs.toList)(hm:∀k',G k'=aj↔∃e∈fs.toList,(PySem.strKind prog w).is k' e.2=aj)
(p:fs.size<dw)(H:u.fits fs.size=aj)(I:u.led=!xm w)(J:u.plain=aq)
(h:∀x,bg a s.heap x->kQ prog w x a G fs.size->R (ae aj) {s with heap:=x}):
  wpAny (model prog w) A (do
    storeSet a fs u
    if(!O&&u.tooFull)=aj then do
      g (aiB u fs (gy fs.size)).2.2
      storeSet a (aiB u fs (gy fs.size)).1 (aiB u fs (gy fs.size)).2.1
      pure (ae aj)
     else pure (ae aj)) R E s:=by
 refine ag (akd C hd ?_ (ah5 p));have k1:=(SetOf_store C n hd r hm p H).1;have sb:=bU s.heap a (cE.putSet fs u);by_cases c:(!O&&u.tooFull)=aj
 .rw[if_pos c];have pm:=relayAll_perm u fs (gy fs.size);have y:=relayAll_fits u fs (gy fs.size);obtain⟨L,M⟩:=Ss u fs _;generalize aiB u fs _=Z at pm y L M |-;obtain⟨gs,v,T⟩:=Z;have sz:gs.size=fs.size:=by rw[<-bu,pm.length_eq,bu]
  have i:=r.perm pm;have j:∀k',G k'=aj↔∃e∈gs.toList,(PySem.strKind prog w).is k' e.2=aj:=λk'=>
   (hm k').trans ⟨λ⟨e,m,q⟩=>⟨e,pm.mem_iff.mpr m,q⟩,λ⟨e,m,q⟩=>⟨e,pm.mem_iff.mp m,q⟩⟩
  have f:=sz▸p;refine ag (N _ _ _ (ag (akd k1 rfl ?_ (ah5 f))));have k2:=(SetOf_store k1 n rfl i j f y).1;exact ak (h _ (sb.trans (bU _ a _)) ⟨_,gs,_,v,k2,n,rfl,i,j,f,y,sz,L.trans I,.inr (M J)⟩)
 .rw[if_neg c];exact ak (h _ sb ⟨_,fs,_,u,k1,n,rfl,r,hm,p,H,rfl,I,.inr J⟩)
theorem ac1(hS:kQ prog w s.heap a S n)(room:n+1<dw)
(h:∀f,bg a s.heap f->kQ prog w f a (λk'=>S k'||decide (k'=k)) (if S k then n else n+1)->Q (!S k) {s with heap:=f}):
  wpAny (model prog w) A (setAddHashed a (.str k tk) ((PySem.strKind prog w).hash k)) Q E s:=by
 obtain⟨o,es,ep,t,i,y,hd,x,p,O,B,hn,C,hp⟩:=hS;have G:(PySem.strKind prog w).is k (.str k tk)=aj:=PySem.strKind_is _ _ _ _;have r:(aij k tk).scannable=aj:=rfl;refine bv (ag (ft i hd B ?_));dsimp only;rw[byScan_of r O x,if_pos rfl];refine ag (ag (fC (ag (wpAny_setScan_of G i hd B x ?_))));cases T:List.findIdx? (λe=>(PySem.strKind prog w).is k e.2) es.toList with
 |some j=>
  dsimp only;obtain⟨hj,H,_⟩:=List.findIdx?_eq_some_iff_getElem.mp T;have g:S k=aj:=(p k).mpr ⟨_,fX hj,H⟩;have z:=h s.heap (bg.refl a s.heap) ⟨o,es,ep,t,i,y,hd,x,λk'=>by
   show(S k'||decide (k'=k))=aj↔_;by_cases e:k'=k
   .subst e;rw[g];exact⟨λ_=>(p k').mp g,λ_=>rfl⟩
   .rw[decide_eq_false e,Bool.or_false];exact p k',O,B,by rw[g];exact hn,C,by rw[g];exact hp⟩
  rw[g] at z;exact ak (ak z)
 |none=>
  have g:S k=aq:=by
   cases c:S k with
   |false=>rfl
   |true=>
    obtain⟨e,m,q⟩:=(p k).mp c;exact absurd q (by rw[List.findIdx?_eq_none_iff.mp T e m];exact aM)
  have pm:=layNew_perm t es ((PySem.strKind prog w).hash k) (.str k tk);have I:=layNew_fits t es ((PySem.strKind prog w).hash k) (.str k tk);have J:=Zy t es ((PySem.strKind prog w).hash k) (.str k tk);generalize layNew t es _ (.str k tk)=Z at pm I J |-;obtain⟨fs,u,dm,gv⟩:=Z;rw[Array.toList_push] at pm;have sz:fs.size=n+1:=by rw[<-bu,pm.length_eq,bN,bu,hn];rfl
  have U:=(x.push G r).perm pm;have hm:=mem_push_iff G p pm;have v:fs.size<dw:=by rw[sz];exact room
  rw[g] at h;have Y:∀f,bg a s.heap f->kQ prog w f a (λk'=>S k'||decide (k'=k)) fs.size->Q aj _:=λf sb z=>by rw[sz] at z;exact h f sb z
  have L:∀(b:Bool) (M:ao) (N:Unit->ao->Prop),N () M->wpAny (model prog w) A (match b with|true=>rule "set.scan.the-table-gave-way"|false=>pure ()) N E M:=λb M N q=>by
   cases b
   .exact ak q
   .exact fC q
  refine ag (L _ _ _ ?_);by_cases c:u.plain=aj
  .rw[if_pos c];refine ag ?_;refine ak ?_;exact Ql L i y hd U hm v (cK.fits_plain_off I) (J.trans C) rfl λf sb z=>ak (Y f sb z)
  .rw[if_neg c];refine ag (ak ?_);exact Ql L i y hd U hm v I (J.trans C) (by simpa using c) λf sb z=>ak (Y f sb z)
end
section
variable {prog:aQ} {w:bw} {A:bj} {E:ai->ao->Prop} {s:ao}
abbrev KN(prog:aQ)(w:bw)(h:av)(a:aw)(val:Nat->aJ)(i:Nat):Prop:=kQ prog w h a (λk=>(pw val i).any (·==k)) (pw val i).length
theorem kQ.congr{h:av}{a:aw}{S b:aJ->Bool}{n c:Nat}(x:kQ prog w h a S n)(e:∀k,S k=b k)(hn:n=c):kQ prog w h a b c:=by obtain⟨o,es,f,t,g,i,hd,j,m,r⟩:=x;subst hn;exact⟨o,es,f,t,g,i,hd,j,λk=>by rw[<-e k];exact m k,r⟩
theorem kQ.of{h:av}{a:aw}{S b:aJ->Bool}{led:Bool}(x:h.SetOf (PySem.strKind prog w) a S 0)(f:h.get? a=ae {cls:=.type "set",dict:=am,data:=.set #[] 0 (.fresh 0 0 led)})(g:led=!xm w)(i:∀k,S k=b k:=by intro _;rfl):kQ prog w h a b 0:=by obtain⟨o,es,r,t,c,j,hd,m,n,p,q,hn⟩:=x;have e:=f.symm.trans c;cases e;cases hd;exact⟨_,_,_,_,c,j,rfl,m,λk=>by rw[<-i k];exact n k,p,q,hn,g,.inl rfl⟩
theorem VW(a:ai){Vv:ai->ao->Prop}(h:Vv (.ref s.heap.objs.size) {s with heap:=s.heap.push {cls:=.type "set",dict:=am,data:=.set #[] 0 (.fresh 0 0 (!xm w))}}):
  codeAny (model prog w) A (.call (.builtin "set.__new__") ⟨[.type "set",a],[]⟩) (wants Vv E) s:=by
 refine aix (show wpAny _ A.in1 (do checkBuiltinCall "set.__new__" ⟨[.type "set",a],[]⟩;again (.builtin "set.__new__" ⟨[.type "set",a],[]⟩)) _ _ s from ?_);refine ag (ajN (F.newCall_set_1 a) (ak ⟨fN F.plain_set_new _,c7 F.entry_set_new ?_⟩));rw[fZ F.plain_set_new _];unfold bH.«set.__new__» bH.Frozenset.newClass;have ss:=sub_set_self;obtain⟨b,g,d,tk,os⟩:=s;dsimp only
 wp_walk
 refine ai6 (ak ?_);dsimp only;simp only [newObj];refine ag (wpAny_alloc (ak ?_));exact ak h
theorem Sv{R:ai3->ao->Prop}{It:aw}{H h:List aw}{G:Array aii->Array aii->Prop}{n:Nat}{P:Nat->ai->Prop}{St:Nat->ao->Prop}(W:WalksS prog w A.in1 It H h G n P St)(a:aw)(c:a∉H)
(val:Nat->aJ)(j:∀i v,P i v->∃t,v=.str (val i) t)(Y:n+1<dw):∀(k i:Nat) (s:ao),n- i=k->i<=n->St i s->KN prog w s.heap a val i->
   (∀m,ajO (a::h) G s m->KN prog w m.heap a val n->R (.ok (.ret .none)) m)->codeAny (model prog w) A (.builtin "set.update.loop" ⟨[.ref a,.ref It],[]⟩) R s:=by
 have f:a∉h:=λz=>c (W.sub _ z);intro k;induction k with
 |zero=>
  intro i s I hi p q r;obtain rfl:i=n:=by omega
  refine c7 dn ?_;rw[fZ cN _];show wpAny _ A.in1 (pyNext (.ref It) >>= _) _ _ s;refine ag (W.done s _ _ p λs1 g=>?_);show wpAny _ A.in1 (ret cC) _ _ s1;obtain⟨o,es,u,t,x,more⟩:=q;exact ak (r s1 (g.mono λb z=>ay _ z) ⟨o,es,u,t,g.heap a _ f x,more⟩)
 |succ k J=>
  intro i s I hi p q r;have lt:i<n:=by omega
  refine c7 dn ?_;rw[fZ cN _];show wpAny _ A.in1 (pyNext (.ref It) >>= _) _ _ s;refine ag (W.item i s _ _ lt p λv s1 L y g=>?_);obtain⟨t,rfl⟩:=j i v L;have M:KN prog w s1.heap a val i:=by obtain⟨o,es,u,tb,x,more⟩:=q;exact⟨o,es,u,tb,g.heap a _ f x,more⟩
  show wpAny _ A.in1 (holding [aij (val i) t] (setAdd a (.str (val i) t)) >>= _) _ _ s1;refine ag (bv ?_);unfold setAdd;refine bv (ag ((PySem.strKind prog w).pyHash (k:=val i) (PySem.strKind_is _ _ _ _) ?_));have room:(pw val i).length+1<dw:=by have:=Ia val i;omega
  refine ac1 (s:={s1 with toks:=s1.toks+1}) M room λN sb O=>?_;have Q:KN prog w N a val (i+1):=kQ.congr O (λk=>(Nk _ _ _).symm) (Nl _ _).symm;refine ak ⟨fN cN _,J (i+1) _ (by omega) lt (W.frame _ s1 _ _ y (cB _) λb B o e=>?_) Q λT C U=>?_⟩
  .rw[sb.2 b λz=>c (z▸B)];exact e
  .refine r T (ajO.trans W.gtrans ((g.mono λb z=>ay _ z).then_heap (cB _) λb o B e=>?_) C) U;rw[sb.2 b λz=>B (z▸aH)];exact e
theorem Sw{l:aw}{items:Array ai}{ss:List aJ}{Q:ai->ao->Prop}(I:A.handled=am)(J:s.heap.IsList l items)(hi:cM items.toList ss)(L:items.size+1<dw)
(M:∀(a:av) (tk:Nat),KN prog w a s.heap.objs.size (λi=>ss.getD i ⟨#[]⟩) items.size->(∀b o,s.heap.get? b=ae o->a.get? b=ae o)->Q (.ref s.heap.objs.size) {s with heap:=a,toks:=tk}):
  wpAny (model prog w) A (call (.type "set") [.ref l]) Q E s:=by
 obtain⟨c,tl,N⟩:=PySem.F.called_set.mro;have O:=PySem.F.called_set.made;have U6:=PySem.F.called_set.sub;refine eF (aix ?_);show wpAny _ _ (ajE (.type "set") _) _ _ _;refine ak ⟨Code.quiet_builtin _ (by decide+kernel),c7 PySem.F.entry_type_call ?_⟩;rw[bj.under_plain (ajG "set" [.ref l] []) rfl];have n1:=PySem.F.called_set.notType;have n2:=PySem.F.called_set.canCreate;have n3:=PySem.F.typeCall_set_1 (.ref l);repeat (any_goals (first|assumption|wp_step))
 refine c6 (VW (.ref l) (E:=E) (Vv:=λv s1=>v=.ref s.heap.objs.size/\s1={s with heap:=s.heap.push {cls:=.type "set",dict:=am,data:=.set #[] 0 (.fresh 0 0 (!xm w))}}) ⟨rfl,rfl⟩) λr s1 n=>?_;cases r with
 |error e=>exact n
 |ok fl=>
  cases fl with
  |ret v=>
   obtain⟨rfl,rfl⟩:=n;obtain⟨led,h⟩:∃led,led=!xm w:=⟨_,rfl⟩;rw[<-h];have f:(s.heap.push {cls:=.type "set",dict:=am,data:=.set #[] 0 (.fresh 0 0 led)}).get? s.heap.objs.size=ae {cls:=.type "set",dict:=am,data:=.set #[] 0 (.fresh 0 0 led)}:=az _ rfl;have p:ao.TypeIs {s with heap:=s.heap.push {cls:=.type "set",dict:=am,data:=.set #[] 0 (.fresh 0 0 led)}} (.ref s.heap.objs.size) "set":=⟨_,f,rfl⟩;have n4:=PySem.F.called_set.init.lookup;have n5:=PySem.F.called_set.init.bind (.ref s.heap.objs.size);repeat (any_goals (first|assumption|wp_step))
   refine c6 (d9 (R:=wants (λr s2=>r=.none/\∃a tk,s2={s with heap:=a,toks:=tk}/\KN prog w a s.heap.objs.size (λi=>ss.getD i ⟨#[]⟩) items.size/\(∀b o,s.heap.get? b=ae o->a.get? b=ae o)) E) PySem.F.called_set.init.plain PySem.F.entry_set_init (ako p ?_)) λT s2 g=>?_
   .obtain⟨U,q,G,nl,Jw⟩:=J;obtain⟨oc,od,ot,os⟩:=U;simp only at G Jw;subst G;subst Jw;have H:(s.heap.push {cls:=.type "set",dict:=am,data:=.set #[] 0 (.fresh 0 0 led)}).IsList l items:=⟨_,ah _ q,rfl,nl,rfl⟩;have Y:(s.heap.push {cls:=.type "set",dict:=am,data:=.set #[] 0 (.fresh 0 0 led)}).get? l=ae {cls:=.type "list",dict:=od,data:=.seq items nl,slots:=os}:=ah _ q;have m1:=PySem.F.sub_list_set;have m2:=PySem.F.sub_list_frozenset;have m3:(cU "list"==cU "dict")=aq:=by decide
    unfold bH.«set.__init__» noKeywords bH.Frozenset.updateFrom;generalize u:ah7=PI
    wp_walk
    subst u;refine dF H (ag (ajj ?_));have j:l<s.heap.objs.size:=aB q;have h3:A.in1.in1.in1.handled=am:=by simp[I]
    have x:l≠(s.heap.push {cls:=.type "set",dict:=am,data:=.set #[] 0 (.fresh 0 0 led)}).objs.size:=by rw[bW];exact aO (cA j)
    have y:s.heap.objs.size∉[(s.heap.push {cls:=.type "set",dict:=am,data:=.set #[] 0 (.fresh 0 0 led)}).objs.size,l]:=by rw[bW];simp only [aC,bP,or_false,not_or];exact⟨aO (fu _),du j⟩
    refine Sv ((aiw.list h3 _ l x items).toS) s.heap.objs.size y (λi=>ss.getD i ⟨#[]⟩) (λi v hv=>Ib hi i v (by rw[bQ];exact hv)) L (items.size- 0) 0 _ (by omega) (bC _) ⟨⟨_,az _ rfl,rfl,rfl⟩,(H.push _)⟩ ?s0 ?fn;case s0=>exact kQ.of ((akH (knd:=PySem.strKind prog w) led).setOf (ah _ f) (by unfold dw;omega)) (ah _ f) h
    case fn=>
     intro s3 m S3;obtain⟨B,g3,d3,t3,o3⟩:=s3;have eg:g3=s.gens:=m.gens;have ed:d3=s.drawn:=m.drawn;have eo:o3=s.os:=m.os;subst eg ed eo;refine ak ?_;show wpAny _ _ (ret cC) _ _ _;refine ak ⟨rfl,B,t3,rfl,S3,λb o e=>m.heap b o ?_ (ah _ (ah _ e))⟩;have z:=aB e;rw[bW];simp only [aC,bP,or_false,not_or];exact⟨aO z,aO (cA z)⟩
   .cases T with
    |error e=>exact g
    |ok C=>
     cases C with
     |ret r=>
      obtain⟨rfl,a,tk,rfl,S4,k4⟩:=g;repeat (any_goals (first|assumption|wp_step))
      exact M _ _ S4 k4
     |_=>exact g.elim
  |_=>exact n.elim
end
theorem KO:ajQ table "set.__iter__"=ae bH.«frozenset.__iter__»:=akI (id':="frozenset.__iter__") (by kernel_rfl) rfl (by decide+kernel) (by kernel_rfl)
theorem mT:Slot "set_iterator" "__next__" "set_iterator.__next__":=
 .of (owner:="set_iterator") (n:="__next__") (by kernel_rfl) (by decide+kernel) (by decide+kernel) (by decide+kernel) (by first|exact .inl (by decide+kernel)|exact .inr (by decide+kernel)) (by kernel_rfl)
theorem Qm:Slot "set_iterator" "__iter__" "set_iterator.__iter__":=
 .of (owner:="set_iterator") (n:="__iter__") (by kernel_rfl) (by decide+kernel) (by decide+kernel) (by decide+kernel) (by first|exact .inl (by decide+kernel)|exact .inr (by decide+kernel)) (by kernel_rfl)
theorem zi:ajQ table "set_iterator.__next__"=ae bH.«set_iterator.__next__»:=akp (by kernel_rfl)
theorem VX:ajQ table "set_iterator.__iter__"=ae bH.«dict_keyiterator.__iter__»:=akI (id':="dict_keyiterator.__iter__") (by kernel_rfl) rfl (by decide+kernel) (by kernel_rfl)
theorem CC(a:ai):argsOk "set_iterator.__next__" ⟨[a],[]⟩:=by kernel_rfl
theorem Zz(a:ai):argsOk "set_iterator.__iter__" ⟨[a],[]⟩:=by kernel_rfl
section
variable {prog:aQ} {w:bw} {A:bj} {E:ai->ao->Prop} {s:ao}
theorem VY(a:s.TypeIs (.ref r) "set")(h:Q aq s):wpAny (model prog w) A (bH.List.listLengthHint (.ref r)) Q E s:=by refine ag (ahB a PySem.F.slot_set_len.lookup ?_);generalize ja:("set.__len__")=c;subst ja;refine ag (gC (b:=aj) a (by kernel_rfl) ?_);exact ag (ais a (ak h))
theorem wp_choose(hn:n≠0)(h:∀i d,i<n->Q i {s with drawn:=d}):wpAny (model prog w) A (choose a n) Q E s:=
 λ_ _ _=>⟨hn,h _ _ (Nat.mod_lt _ (Nat.pos_of_ne_zero hn))⟩
theorem x5{α:Type}:∀(l:List α) (i:Nat) (h:i<l.length),(l[i]::l.eraseIdx i).Perm l
 |x::r,0,_=>dU _
 |x::r,i+1,h=>(eV.swap _ _ _).trans ((x5 r i _).cons x)
theorem Qn:∀(n:Nat) (xs:List α) {s:ao} {Q:List α->ao->Prop},xs.length=n->(∀b d,b.Perm xs->Q b {s with drawn:=d})->wpAny (model prog w) A (drawOrder n xs) Q E s
 |0,xs,s,Q,a,h=>by have e:=eA.mp a;subst e;exact ak (h [] s.drawn (dU _))
 |n+1,[],s,Q,a,h=>nomatch a
 |n+1,x::xs,s,Q,a,h=>by refine ag (wp_choose (by simp) λi d hi=>?_);have e:=ax hi;rw[e];refine ag (Qn n _ (by rw[List.length_eraseIdx,if_pos hi,a];rfl) λb c pm=>ak (h _ c ?_));exact(pm.cons _).trans (x5 _ i hi)
def GQ (h:av)(it:aw)(fst:ai)(i:Nat)(a:ai)(n b:Nat):Prop:=
 ∃o,h.get? it=ae o/\o.cls=.type "set_iterator"/\o.data=.fields #[fst,.int i 0,a,.int n 0,.int b 0]
theorem GQ.ty(x:GQ s.heap it fst i c n e):s.TypeIs (.ref it) "set_iterator":=by obtain⟨o,a,b,_⟩:=x;exact⟨o,a,b⟩
def Io (h:av)(a:aw)(es:Array (Int×ai))(b:Nat)(t:cK):Prop:=∃o,h.get? a=ae o/\o.ExactSet/\o.data=.set es b t
end
section
variable {prog:aQ} {w:bw} {A:bj} {E:ai->ao->Prop} {s:ao}
theorem KP(ht:s.heap.get? a=ae o)(hd:o.data=.seq pl m)(h:Q (ae pl) s):wpAny (model prog w) A (seqItems? (.ref a)) Q E s:=by refine ag (aiJ ht ?_);rw[hd];exact ak h
theorem GQ.next(x:GQ h it fst i a n b):GQ (h.update it (di (·.setIfInBounds 1 (dL ((i:Int)+1))))) it fst (i+1) a n b:=by obtain⟨o,c,e,hd⟩:=x;exact⟨_,ck _ c (cX (bZ hd _)),(ahN ..).trans e,by rw[bZ hd];simp[dL]⟩
theorem GR(g:A.handled=am)(h:∀f,(∀b o,s.heap.get? b=ae o->f.get? b=ae o)->Q am {s with heap:=f}):
  wpAny (model prog w) A.in1 (newExc (.type "StopIteration") [] >>= λe=>(raiseNew e:Sem Fin)) (λi c=>∃v,i=Fin.done (Flow.ret v)/\wpAny (model prog w) A (match(Except.ok (ae v)) with
        |Except.ok (ae v)=>pure (ae v)
        |Except.ok am=>unsupported "iter:the-iterator's-class-has-lost-its-__next__-amid-the-walk"
        |Except.error e=>do
         let b<-aiO e (cU "StopIteration")
         if b=aj then pure am else throw e) Q E c)
   (λe c=>wpAny (model prog w) A (match(Except.error e:Except ai (Option ai)) with
      |Except.ok (ae v)=>pure (ae v)
      |Except.ok am=>unsupported "iter:the-iterator's-class-has-lost-its-__next__-amid-the-walk"
      |Except.error e=>do
       let b<-aiO e (cU "StopIteration")
       if b=aj then pure am else throw e) Q E c) s:=by refine ag ?_;refine ag (m:=akD _ _) (ajN (a:=cC) (by first|rfl|(rfl)) ?_);refine dD ?_ (by size_fits);refine ag (akO ?_);rw[g];refine ag (ak (wpAny_throw ?_));refine ag (gC (b:=aj) ⟨_,az _ rfl,rfl⟩ akE ?_);exact ak (h _ λb o e=>ah _ (ah _ e))
theorem NH{i p n c m:Nat}(b:GQ s.heap it (.ref g) i (.ref a) n c)
(v:Io s.heap a es c t)(j:t.fits es.size=aj)(hn:es.size=n)(ht:s.heap.get? g=ae y)(e:y.data=.seq pl m)(z:pl[i]?=ae (.int p q))(B:es[p]?=ae x)
(h:∀f,GQ f it (.ref g) (i+1) (.ref a) n c->bg it s.heap f->Q (ae x.2) {s with heap:=f}):wpAny (model prog w) A (pyNext (.ref it)) Q E s:=by obtain⟨o,r,C,hd⟩:=id b;obtain⟨G,ha,hex,u⟩:=v;refine ag (dO (cx b.ty mT (bM mT b.ty zi ?_ (CC _))));refine ag (ak ?_);refine ag (aiC r hd ?_);refine ag (eO ha u j ?_);rw[if_neg (by rw[hn];simp)];refine ag (KP ht e ?_);dsimp only;rw[dS,z];refine ag (ag (ft ha u j ?_));dsimp only;rw[dS,dS,if_neg (by simp),B];refine ak ?_;refine ag (c5 r hd (by simp) ?_);exact ak ⟨_,rfl,ak (h _ b.next (bU ..))⟩
theorem Sx(q:A.handled=am)(f:GQ s.heap it (.ref r) i (.ref a) n u)
(v:Io s.heap a es u t)(x:t.fits es.size=aj)(hn:es.size=n)(ht:s.heap.get? r=ae y)(g:y.data=.seq pl m)(z:pl[i]?=am)
(h:∀c,gg it s.heap c->Q am {s with heap:=c}):wpAny (model prog w) A (pyNext (.ref it)) Q E s:=by obtain⟨o,j,G,hd⟩:=id f;obtain⟨H,ha,hex,B⟩:=v;refine ag (dO (cx f.ty mT (bM mT f.ty zi ?_ (CC _))));refine ag (ak ?_);refine ag (aiC j hd ?_);refine ag (eO ha B x ?_);rw[if_neg (by rw[hn];simp)];refine ag (KP ht g ?_);dsimp only;rw[dS,z];refine ag (c5 j hd (by simp) ?_);have C:=ck (di (·.setIfInBounds 0 (dL 0))) j (cX (bZ hd _));refine ag (c5 C (bZ hd _) (by simp) ?_);refine GR q λc k=>h c λb o p e=>k b o ?_;exact(bI _ _ (bV p)).trans ((bI _ _ (bV p)).trans e)
end
section
variable {prog:aQ} {w:bw} {A:bj} {E:ai->ao->Prop} {s:ao}
theorem CD(h:Q (xm w) s):wpAny (model prog w) A setsByText Q E s:=by exact ag (ai6 (ak h))
theorem Qo(nx:Nat->Nat):∀(n k:Nat) (l:List _) (o:Array (Int×ai)),l.length=n->((ai7.go nx n k l o).toList).Perm (o.toList++l)
 |0,k,l,o,h=>by have e:=eA.mp h;subst e;unfold ai7.go;rw[ba]
 |n+1,k,l,o,h=>by have hi:nx k%l.length<l.length:=Nat.mod_lt _ (by omega);unfold ai7.go;rw[ax hi];refine(Qo nx n (k+1) _ _ (by rw[List.length_eraseIdx,if_pos hi,h];rfl)).trans ?_;rw[Array.toList_push,bt];exact(x5 l _ hi).append_left _
theorem AI(nx:Nat->Nat)(es:Array (Int×ai)):(ai7 nx es).toList.Perm es.toList:=by exact(Qo nx _ 0 _ #[] (by simp)).trans (by simp)
noncomputable def VZ(w:bw)(a:aw)(b:Nat)(es:Array (Int×ai)):Array (Int×ai):=ai7 (w.params.setOrder a b) es
theorem Qp{sl i n b:Nat}(c:GQ s.heap it (.int sl 0) i (.ref a) n b)
(m:Io s.heap a es b t)(p:t.fits es.size=aj)(hn:es.size=n)(q:∀(R:Option _->ao->Prop) (r:ai->ao->Prop),R (ae (x,j)) s->wpAny (model prog w) A.in1 (ake a sl i b) R r s)
(h:∀e,GQ e it (.int j 0) (i+1) (.ref a) n b->bg it s.heap e->Q (ae x) {s with heap:=e}):wpAny (model prog w) A (pyNext (.ref it)) Q E s:=by obtain⟨o,f,u,hd⟩:=id c;obtain⟨y,ha,hex,v⟩:=m;refine ag (dO (cx c.ty mT (bM mT c.ty zi ?_ (CC _))));refine ag (ak ?_);refine ag (aiC f hd ?_);refine ag (eO ha v p ?_);rw[if_neg (by rw[hn];simp)];refine ag (q _ _ ?_);refine ag (c5 f hd (by simp) ?_);have g:=ck (di (·.setIfInBounds 0 (dL j))) f (cX (bZ hd _));have x1:GQ _ it (.int j 0) i (.ref a) n b:=⟨_,g,(ahN ..).trans u,by rw[bZ hd];simp[dL]⟩;refine ag (c5 g (bZ hd _) (by simp) ?_);exact ak ⟨_,rfl,ak (h _ x1.next ((bU ..).trans (bU ..)))⟩
theorem V0{sl i n f:Nat}(m:A.handled=am)(g:GQ s.heap it (.int sl 0) i (.ref a) n f)
(p:Io s.heap a es f t)(q:t.fits es.size=aj)(hn:es.size=n)(r:∀(R:Option _->ao->Prop) (u:ai->ao->Prop),R am s->wpAny (model prog w) A.in1 (ake a sl i f) R u s)
(h:∀c,gg it s.heap c->Q am {s with heap:=c}):wpAny (model prog w) A (pyNext (.ref it)) Q E s:=by obtain⟨o,j,y,hd⟩:=id g;obtain⟨z,ha,hex,v⟩:=p;refine ag (dO (cx g.ty mT (bM mT g.ty zi ?_ (CC _))));refine ag (ak ?_);refine ag (aiC j hd ?_);refine ag (eO ha v q ?_);rw[if_neg (by rw[hn];simp)];refine ag (r _ _ ?_);refine ag (c5 j hd (by simp) ?_);refine GR m λc k=>h c λb o x e=>k b o ?_;exact(bI _ _ (bV x)).trans e
theorem GU(b:xm w=aj)(j:Io s.heap a es c t)(f:t.fits es.size=aj)
(h:R (((VZ w a c es)[i]?).map λe=>(e.2,sl)) s):wpAny (model prog w) A (ake a sl i c) R E s:=by obtain⟨m,ha,hex,g⟩:=j;refine ag (ft ha g f ?_);refine ag (CD ?_);rw[b,if_pos rfl,if_neg (by simp)];refine ag (ag (ft ha g f ?_));refine ag (CD ?_);rw[b];exact ag (ai6 (ak (ak h)))
theorem KQ(b:xm w=aq)(c:Io s.heap a es e t)(f:t.fits es.size=aj)(g:es.size<=1)(m:t.led=aj)
(h:R (match es[dq t.place sl]?,t.place[dq t.place sl]? with|some (_,x),ae j=>ae (x,j+1)|_,_=>am) s):wpAny (model prog w) A (ake a sl i e) R E s:=by obtain⟨o,ha,hex,n⟩:=c;refine ag (ft ha n f ?_);refine ag (CD ?_);rw[b,if_neg aM];refine akv (λz=>absurd (show(!t.plain&&decide _)=aj from z) (by simp;intro _;exact g)) λ_=>?_;refine ag (show wpAny _ _ (if(!t.led&&!es.isEmpty)=aj then _ else _) _ _ _ from ?_);rw[if_neg (by simp[m])];exact ak (ak h)
theorem NI(j:Nat):dq #[j] 0=0:=by unfold dq f9;simp[f9]
theorem Sy(j:Nat):dq #[j] (j+1)=1:=by unfold dq f9;simp[f9]
end
section
variable {prog:aQ} {w:bw} {A:bj} {E:ai->ao->Prop} {s:ao}
theorem Io.ty(x:Io s.heap a es e t):s.TypeIs (.ref a) "set":=by obtain⟨o,b,c,_⟩:=x;exact⟨o,b,c.1⟩
theorem Io.at(x:Io h a es b t)(k:∀o,h.get? a=ae o->c.get? a=ae o):Io c a es b t:=by obtain⟨o,e,f⟩:=x;exact⟨o,k _ e,f⟩
theorem GQ.at(x:GQ h it fst i a n b)(k:∀o,h.get? it=ae o->c.get? it=ae o):GQ c it fst i a n b:=by obtain⟨o,e,f⟩:=x;exact⟨o,k _ e,f⟩
noncomputable def BH(fst:ai)(a:aw)(n b:Nat):cE:={cls:=.type "set_iterator",data:=.fields #[fst,.int 0 0,.ref a,.int n 0,.int b 0]}
theorem Qq(b:Io s.heap a es f t)(c:t.fits es.size=aj)(h:Q (!xm w&&(!t.plain&&decide (es.size>1))) s):
  wpAny (model prog w) A (setDrawn a) Q E s:=by obtain⟨g,ha,hex,e⟩:=b;exact ag (ft ha e c (ag (CD (ak h))))
theorem NJ(b:Io s.heap a es f t)(c:t.fits es.size=aj)(hn:es.size=n)(g:(!xm w&&(!t.plain&&decide (es.size>1)))=aq)
(h:Q (.ref s.heap.objs.size) {s with heap:=s.heap.push (BH (.int 0 0) a n f)}):wpAny (model prog w) A (ah7 (.ref a)) Q E s:=by obtain⟨i,ha,hex,e⟩:=id b;refine aiW b.ty PySem.F.slot_set_iter (bM PySem.F.slot_set_iter b.ty KO ?_ (PySem.F.args_set_iter_1 _));refine ag (ag (ak (ak ?_)));refine ag (ag (eO ha e c (ak ?_)));refine ag (Qq b c ?_);rw[g];refine ag (ak ?_);refine ag (akf ha e c ?_);refine ag (dD (ak ⟨_,rfl,"set_iterator",_,⟨_,az _ rfl,rfl⟩,mT.lookup,?_⟩));simpa[dL,hn,BH] using h
theorem NK(c:Io s.heap a es g t)(e:t.fits es.size=aj)(hn:es.size=n)(j:n<dw)(m:(!xm w&&(!t.plain&&decide (es.size>1)))=aj)
(h:∀(b:List Nat) d,b.Perm (cQ n)->Q (.ref (s.heap.objs.size+1)) {s with heap:=(s.heap.push (b8 "tuple" (b.map λ(i:Nat)=>dL i).toArray 0)).push (BH (.ref s.heap.objs.size) a n g),drawn:=d}):wpAny (model prog w) A (ah7 (.ref a)) Q E s:=by
 obtain⟨p,ha,hex,f⟩:=id c;refine aiW c.ty PySem.F.slot_set_iter (bM PySem.F.slot_set_iter c.ty KO ?_ (PySem.F.args_set_iter_1 _));refine ag (ag (ak (ak ?_)));refine ag (ag (eO ha f e (ak ?_)));refine ag (Qq c e ?_);rw[m];refine ag (Qn _ _ (by simp) λb d pm=>?_);rw[hn] at pm;have o:b.length=n:=by rw[pm.length_eq,fR]
 refine ag (ahS ?_ (by rw[ar,o];exact ah5 j));have k1:=ah (b8 "tuple" (b.map λ(i:Nat)=>dL i).toArray 0) ha;refine ag (akf k1 f e ?_);refine ag (dD (ak ⟨_,rfl,"set_iterator",_,⟨_,az _ rfl,rfl⟩,mT.lookup,?_⟩));have z:=h b d pm;simpa[dL,hn,BH] using z
theorem Ip(a:GQ s.heap it fst i b n c)(h:Q (.ref it) s):wpAny (model prog w) A (ah7 (.ref it)) Q E s:=by refine aiW a.ty Qm (bM Qm a.ty VX ?_ (Zz _));exact ak ⟨_,rfl,"set_iterator",_,a.ty,mT.lookup,h⟩
end
section
variable {prog:aQ} {w:bw} {A:bj} {E:ai->ao->Prop} {s:ao}
def ZA (L:List (Int×ai)):Nat->ai->Prop:=λi v=>∃e,L[i]?=ae e/\v=e.2
theorem Sz(c:xm w=aj)(q:A.handled=am)(ne:a≠I)(g:t.fits es.size=aj)(hn:es.size=n):
  aiw prog w A I [I,a] [I] n (ZA (VZ w a f es).toList) (λi h=>GQ h I (.int 0 0) i (.ref a) n f/\Io h a es f t) where
 sub:=λb c=>by simp at c;simp[c]
 frame:=λ_ _ _ st k=>⟨st.1.at λo e=>k I (by simp) o e,st.2.at λo e=>k a (by simp) o e⟩
 item:=λi s Q E hi st h=>by have j:(VZ w a f es).toList.length=n:=(AI _ es).length_eq.trans (by rw[bu,hn]);obtain⟨x,p⟩:∃x,(VZ w a f es).toList[i]?=ae x:=⟨_,ax (by rw[j];exact hi)⟩;refine Qp st.1 st.2 g hn (λR u r=>GU c st.2 g (by rw[<-bQ,p];exact r)) λm x1 sb=>h x.2 m s.toks ⟨x,p,rfl⟩ ⟨x1,st.2.at λo e=>(sb.2 a ne).trans e⟩ λb o c e=>(sb.2 b λz=>c (by simp[z])).trans e
 done:=λs Q E st h=>by have j:(VZ w a f es).toList.length=n:=(AI _ es).length_eq.trans (by rw[bu,hn]);exact V0 q st.1 st.2 g hn (λR u r=>GU c st.2 g (by rw[<-bQ,cn (by rw[j];exact aD _)];exact r)) λm k=>h m s.toks λb o c e=>k b o (λz=>c (by simp[z])) e
 self:=λ_ _ _ _ st h=>Ip st.1 h
theorem V1(f:xm w=aq)(v:A.handled=am)(ne:a≠I)(c:t.fits es.size=aj)(hn:es.size=n)(C:n<=1)(q:t.led=aj):
  aiw prog w A I [I,a] [I] n (ZA es.toList) (λi h=>GQ h I (.int (if i=0 then 0 else t.place.getD 0 0+1:Nat) 0) i (.ref a) n y/\Io h a es y t) where
 sub:=λb f=>by simp at f;simp[f]
 frame:=λ_ _ _ st k=>⟨st.1.at λo e=>k I (by simp) o e,st.2.at λo e=>k a (by simp) o e⟩
 item:=λi s Q E hi st h=>by
  obtain rfl:n=1:=by omega
  obtain rfl:i=0:=by omega
  have m:t.place.size=1:=by unfold cK.fits at c;simp only [aY,beq_iff_eq] at c;rw[c.1,hn]
  obtain⟨j,g⟩:∃j,t.place=#[j]:=⟨t.place[0],by
   apply Array.ext (by simp[m]);intro k k1 k2;simp at k2;subst k2;rfl⟩
  obtain⟨x,u⟩:∃x,es[0]?=ae x:=⟨_,cG (by omega)⟩;refine Qp st.1 st.2 c hn (λR B r=>KQ f st.2 c (by omega) q (by rw[g,if_pos rfl,NI,u];exact r)) λp x1 sb=>h x.2 p s.toks ⟨x,by rw[bQ];exact u,rfl⟩ ⟨?_,st.2.at λo e=>(sb.2 a ne).trans e⟩ λb o f e=>(sb.2 b λz=>f (by simp[z])).trans e
  rw[g];exact x1
 done:=λs Q E st h=>by
  refine V0 v st.1 st.2 c hn (λR B r=>KQ f st.2 c (by omega) q ?_) λp k=>h p s.toks λb o f e=>k b o (λz=>f (by simp[z])) e;by_cases e:n=0
  .subst e;have e2:es=#[]:=Array.eq_empty_of_size_eq_zero hn;subst e2;simpa using r
  .obtain rfl:n=1:=by omega
   have m:t.place.size=1:=by unfold cK.fits at c;simp only [aY,beq_iff_eq] at c;rw[c.1,hn]
   obtain⟨j,g⟩:∃j,t.place=#[j]:=⟨t.place[0],by
    apply Array.ext (by simp[m]);intro k k1 k2;simp at k2;subst k2;rfl⟩
   rw[if_neg (by decide),g];have e3:(#[j]).getD 0 0=j:=rfl;rw[e3,Sy,Array.getElem?_eq_none (xs:=es) (by omega)];exact r
 self:=λ_ _ _ _ st h=>Ip st.1 h
theorem V2(es:Array (Int×ai)):∀(a:List Nat),(∀y∈a,y<es.size)->∀i:Nat,(a.filterMap λi=>es[i]?)[i]?=a[i]?.bind λy=>es[y]?
 |[],_,i=>by simp
 |y::a,h,i=>by
  have lt:=h y aH;have e:=cG lt;rw[ahO e];cases i with
  |zero=>simp[e]
  |succ i=>simpa using V2 es a (λz m=>h z (ay _ m)) i
theorem NL(v:A.handled=am)(ne:a≠I)(nt:g≠I)(p:t.fits es.size=aj)(hn:es.size=n){c:List Nat}(pm:c.Perm (cQ n)):
  aiw prog w A I [I,a,g] [I] n (ZA (c.filterMap λi=>es[i]?)) (λi h=>GQ h I (.ref g) i (.ref a) n x/\Io h a es x t/\h.get? g=ae (b8 "tuple" (c.map λ(i:Nat)=>dL i).toArray 0)) where
 sub:=λb f=>by simp at f;simp[f]
 frame:=λ_ _ _ st k=>⟨st.1.at λo e=>k I (by simp) o e,st.2.1.at λo e=>k a (by simp) o e,k g (by simp) _ st.2.2⟩
 item:=λi s Q E hi st h=>by
  have r:c.length=n:=by rw[pm.length_eq,fR]
  have u:c[i]?=ae c[i]:=ax (by omega);have lt:c[i]<es.size:=by rw[hn];exact ej.mp (pm.mem_iff.mp (fX _))
  refine NH st.1 st.2.1 p hn st.2.2 rfl (q:=0) ?_ (cG lt) λj x1 sb=>h _ j s.toks ⟨es[c[i]],?_,rfl⟩ ⟨x1,st.2.1.at λo e=>(sb.2 a ne).trans e,(sb.2 g nt).trans st.2.2⟩ λb o f e=>(sb.2 b λz=>f (by simp[z])).trans e
  .simp[u,dL]
  .rw[V2 es c (λy m=>by rw[hn];exact ej.mp (pm.mem_iff.mp m)) i,u];exact cG lt
 done:=λs Q E st h=>by
  have r:c.length=n:=by rw[pm.length_eq,fR]
  exact Sx v st.1 st.2.1 p hn st.2.2 rfl (by simp[r]) λj k=>h j s.toks λb o f e=>k b o (λz=>f (by simp[z])) e
 self:=λ_ _ _ _ st h=>Ip st.1 h
end
section
variable {prog:aQ} {w:bw} {A:bj} {E:ai->ao->Prop} {s:ao}
theorem D7:∀(L:List _),akc (PySem.strKind prog w) L->∃ss,cM (L.map (·.2)) ss/\∀k,k∈ss↔∃e∈L,(PySem.strKind prog w).is k e.2=aj
 |[],_=>⟨[],.nil,λk=>by simp⟩
 |e::L,h=>by
  obtain⟨ss,a,b⟩:=D7 L h.tail;obtain⟨⟨k,c,_⟩,_⟩:=h.head;obtain⟨t,ht⟩:=ai.isStrOf_shape (c);refine⟨k::ss,?_,λk'=>?_⟩
  .rw[aX,ht];exact .cons k t a
  .rw[aC,b k'];constructor
   .rintro(rfl|⟨z,m,q⟩)
    .exact⟨e,aH,c⟩
    .exact⟨z,ay _ m,q⟩
   .rintro⟨z,m,q⟩
    rcases aC.mp m with rfl|m
    .exact .inl ((PySem.strKind prog w).inj z.2 k' k q c)
    .exact .inr ⟨z,m,q⟩
def GV (S:aJ->Bool)(n:Nat)(acc:List ai):Prop:=∃ss,cM acc ss/\ss.length=n/\∀k,S k=aj↔k∈ss
theorem NM{es:Array _}(f:akc (PySem.strKind prog w) es.toList)(hm:∀k,S k=aj↔∃e∈es.toList,(PySem.strKind prog w).is k e.2=aj)(hn:es.size=n)(pm:L.Perm es.toList)(ha:ajD (ZA L) acc n):GV S n acc.toList:=by
 obtain⟨ss,a,b⟩:=D7 L (f.perm pm);have j:L.length=n:=by rw[pm.length_eq,bu,hn]
 have e:acc.toList=L.map (·.2):=by
  apply fQ;intro i;by_cases lt:i<n
  .have c:i<acc.toList.length:=by rw[bu,ha.1];exact lt
   obtain⟨x,g,h⟩:=ha.2 i _ (by rw[<-bQ];exact ax c);rw[ax c,bq,g,h];rfl
  .rw[cn (by rw[bu,ha.1];omega),cn (by rw[ar];omega)]
 refine⟨ss,e▸a,?_,λk=>(hm k).trans (Iff.trans ?_ (b k).symm)⟩
 .have:=a.length;rw[ar] at this;omega
 .exact⟨λ⟨z,m,q⟩=>⟨z,pm.mem_iff.mpr m,q⟩,λ⟨z,m,q⟩=>⟨z,pm.mem_iff.mp m,q⟩⟩
theorem V3(es:Array (Int×ai)):((cQ es.size).filterMap λi=>es[i]?)=es.toList:=by
 apply fQ;intro i;rw[V2 es _ (λy m=>ej.mp m) i];by_cases lt:i<es.size
 .rw[ax (by simpa using lt)];simp
 .rw[cn (by simpa using lt),cn (by simpa using lt)];rfl
theorem V4(u:A.handled=am)(L:kQ prog w s.heap a S n)
(h:∀(I:aw) (f:av) d (g:List aw) (P:Nat->ai->Prop) (St:Nat->av->Prop),(∀b o,s.heap.get? b=ae o->f.get? b=ae o)->s.heap.objs.size<=I->(∀b∈g,b=a\/s.heap.objs.size<=b)->aiw prog w A I g [I] n P St->St 0 f->
   (∀acc,ajD P acc n->GV S n acc.toList)->Q (.ref I) {s with heap:=f,drawn:=d}):wpAny (model prog w) A (ah7 (.ref a)) Q E s:=by
 obtain⟨o,es,c,t,z,M,hd,v,x,N,j,hn,B,y⟩:=L;have p:Io s.heap a es c t:=⟨o,z,M,hd⟩;have C:=aB z;have ne:=aO C;cases q:(!xm w&&(!t.plain&&decide (es.size>1)))
 .refine NJ p j hn q ?_;have G:GQ (s.heap.push (BH _ a n c)) _ (.int 0 0) 0 (.ref a) n c:=⟨_,az _ rfl,rfl,rfl⟩;have H:Io (s.heap.push (BH (.int 0 0) a n c)) a es c t:=p.at λo e=>ah _ e;have g:∀b∈[s.heap.objs.size,a],b=a\/s.heap.objs.size<=b:=λb m=>by
   rcases aC.mp m with rfl|m
   .exact .inr (aD _)
   .exact .inl (bf.mp m)
  cases r:xm w
  .have f:n<=1:=by
    rcases y with rfl|y
    .exact bC _
    .rw[r,y] at q;simp at q;omega
   rw[r] at B;exact h _ _ s.drawn _ _ _ (λb o e=>ah _ e) (aD _) g (V1 r u ne j hn f B) ⟨G,H⟩ λacc ha=>NM v x hn (dU _) ha
  .exact h _ _ s.drawn _ _ _ (λb o e=>ah _ e) (aD _) g (Sz r u ne j hn) ⟨G,H⟩ λacc ha=>NM v x hn (AI _ es) ha
 .refine NK p j hn (hn▸N) q λJ d pm=>?_;have e1:∀b o,s.heap.get? b=ae o->((s.heap.push (b8 "tuple" (J.map λ(i:Nat)=>dL i).toArray 0)).push (BH (.ref s.heap.objs.size) a n c)).get? b=ae o:=λb o e=>ah _ (ah _ e);have sz:(s.heap.push (b8 "tuple" (J.map λ(i:Nat)=>dL i).toArray 0)).objs.size=s.heap.objs.size+1:=gF ..;refine h _ _ d _ _ _ e1 (cB _) (λb m=>?_) (NL u (aO (cA C)) (aO (fu _)) j hn pm) ⟨⟨BH _ a n c,(congrArg _ sz.symm).trans (az _ rfl),rfl,rfl⟩,p.at λo e=>e1 _ _ e,ah _ (az _ rfl)⟩ λacc ha=>NM v x hn ?_ ha
  .simp only [aC,bP,or_false] at m;rcases m with rfl|rfl|rfl
   .exact .inr (cB _)
   .exact .inl rfl
   .exact .inr (aD _)
  .refine(pm.filterMap _).trans ?_;rw[<-hn];exact eV.of_eq (V3 es)
end
section
variable {prog:aQ} {w:bw} {A:bj} {E:ai->ao->Prop} {s:ao}
theorem kQ.ty(x:kQ prog w s.heap a S n):s.TypeIs (.ref a) "set":=by obtain⟨o,es,e,t,b,c,_⟩:=x;exact⟨o,b,c.1⟩
theorem kQ.at(x:kQ prog w h a S n)(k:∀o,h.get? a=ae o->b.get? a=ae o):kQ prog w b a S n:=by obtain⟨o,es,c,t,e,r⟩:=x;exact⟨o,es,c,t,k _ e,r⟩
theorem kQ.lt(x:kQ prog w h a S n):a<h.objs.size/\n<dw:=by obtain⟨o,es,e,t,b,f,hd,g,i,c,j,hn,_⟩:=x;exact⟨aB b,hn▸c⟩
theorem ZB(Q:A.handled=am)(u:kQ prog w s.heap a S n)(ne:g≠a)(res:ai)(N:s.heap.get? g=ae {cls:=.type "list",data:=.seq #[] U})
(Y:∀y tk d acc c,(∀b o,b≠g->s.heap.get? b=ae o->y.get? b=ae o)->y.get? g=ae {cls:=.type "list",dict:=am,data:=.seq acc c,slots:=#[]}->GV S n acc.toList->R (.ok (.ret res)) {s with heap:=y,toks:=tk,drawn:=d}):
  wpAny (model prog w) A.in1 (bH.List.listExtendWith (.ref g) (.ref a) res) (λB i=>match B with|.done f=>R (.ok f) i|.again v=>v.quiet=aj/\codeAny (model prog w) A v R i) (λe i=>R (.error e) i) s:=by
 have lS:=aB N;unfold bH.List.listExtendWith;refine ag (ais (T:="set") u.ty ?_);have C:bH.List.listSameRef (.ref g) (.ref a)=aq:=by simp[bH.List.listSameRef,ne]
 simp only [C,show(cU "set"==cU "list")=aq by decide,show(cU "set"==cU "tuple")=aq by decide,Bool.or_false,eN,if_false];refine ag (V4 (A:=A.in1) Q u λI C d fp P St k1 hI G W st B=>?_);have p:g∉fp:=λm=>by
  rcases G _ m with e|e
  .exact ne e
  .exact absurd lS (aia.mpr e)
 have key:∀(h:av) (H:Nat),St 0 h->(∀b o,b≠g->s.heap.get? b=ae o->h.get? b=ae o)->h.get? g=ae {cls:=.type "list",data:=.seq #[] H}->codeAny (model prog w) A (.builtin "list.extend.loop" ⟨[.ref g,.ref I,res],[]⟩) R {s with heap:=h,drawn:=d}:=by
  intro h H js hk x;refine codeAny_extend_loopS W.toS (ah5 u.lt.2) g p res n 0 _ #[] H rfl (bC _) js x (ajD.nil _) λi O v hm J NN=>?_;rw[ajO.eq_with hm];refine Y i.heap i.toks d O v (λb o j e=>hm.heap b o (λL=>?_) (hk b o j e)) J (B O NN);have lb:=aB e;rcases aC.mp L with e'|L
  .exact j e'
  .rw[bf.mp L] at lb;exact absurd lb (aia.mpr hI)
 have x:=k1 _ _ N;refine ag (bv (VY (kQ.ty (s:={s with heap:=C,drawn:=d}) (u.at λo e=>k1 _ _ e)) ?_));refine ag (fC ?_);refine ag ?_;refine ag (akw x rfl ?_);have q:=ck (ci (·.push cC)) x rfl;refine akw (hz:=by seq_fits) q rfl ?_;have M:=ck (ci (·.pop)) q rfl;refine ak ⟨fN PySem.F.plain_extend_loop _,key _ _ ?_ (λb o j e=>?_) M⟩
 .refine W.frame 0 _ _ st λb j o e=>?_;have r:b≠g:=λz=>p (z▸j);exact(bI _ _ (bV r)).trans ((bI _ _ (bV r)).trans e)
 .exact(bI _ _ (bV j)).trans ((bI _ _ (bV j)).trans (k1 _ _ e))
theorem KR(v:A.handled=am)(u:kQ prog w s.heap a S n)
(h:∀(c:av) (tk:Nat) d (acc:List ai),(∀b o,s.heap.get? b=ae o->c.get? b=ae o)->GV S n acc->R acc {s with heap:=c,toks:=tk,drawn:=d}):
  wpAny (model prog w) A (collect (.ref a)) R E s:=by
 have z:=u.lt.1;refine ag (ajj (c7 entry_proto_collect' ?_));refine ag (dD ?_);refine ak ⟨fN PySem.F.plain_list_iadd _,c7 entry_list_iadd' ?_⟩;have B:(s.heap.push _).get? _=ae {cls:=.type "list",data:=.seq #[]}:=az _ rfl;have key:=ZB (s:={s with heap:=s.heap.push _})
  (R:=λ(q) (r)=>∃(c:av) (tk:Nat) (d:ajI) (i:Array ai) (j:Nat),q=.ok _/\r={s with heap:=c,toks:=tk,drawn:=d}/\
   (∀b o,s.heap.get? b=ae o->c.get? b=ae o)/\c.get? _=ae {cls:=.type "list",dict:=am,data:=.seq i j,slots:=#[]}/\GV S n i.toList)
  v (u.at λo e=>ah _ e) (du z) (.ref s.heap.objs.size) B
  (λc tk d i j m g p=>⟨c,tk,d,i,j,rfl,rfl,λb o e=>m b o (aO (aB e)) (ah _ e),g,p⟩)
 refine cz key (λC r x=>?_) λe r x=>?_
 .cases C with
  |done f=>
   obtain⟨c,tk,d,i,j,e,rfl,m,g,p⟩:=x;cases e;exact ag (aiJ g (ak (h c tk d _ m p)))
  |again G=>
   refine⟨x.1,c6 x.2 λq H y=>?_⟩;obtain⟨c,tk,d,i,j,rfl,rfl,m,g,p⟩:=y;exact ag (aiJ g (ak (h c tk d _ m p)))
 .obtain⟨_,_,_,_,_,e',_⟩:=x;cases e'
end
section
variable {prog:aQ} {w:bw} {A:bj} {E:ai->ao->Prop} {s:ao}
noncomputable def SA(ss:List aJ):List aJ:=pw (λi=>ss.getD i ⟨#[]⟩) ss.length
theorem tO(val:Nat->aJ):∀i,(pw val i).Nodup
 |0=>dh
 |i+1=>by
  have c:=tO val i;unfold pw ahV;split
  .exact c
  .rename_i h;refine dg.mpr ⟨c,ahY _ _,λa ha b f e=>h ?_⟩;rw[bf] at f;subst e f;exact f6.mpr ⟨_,ha,by simp⟩
theorem Iq:∀{m l:List aJ},m.Nodup->(∀k∈m,k∈l)->l.length=m.length->l.Perm m
 |[],l,_,_,h=>by rw[eA.mp h]
 |x::m,l,hn,a,h=>by
  have b:=a x aH;have c:=cL.mp hn;refine(List.perm_cons_erase b).trans ((Iq c.2 (λk f=>?_) ?_).cons x)
  .have ne:k≠x:=λe=>c.1 (by rw[<-e];exact f);exact(List.mem_erase_of_ne ne).mpr (a k (ay _ f))
  .rw[List.length_erase_of_mem b,h];rfl
theorem V5(h:GV (λk=>(pw val n).any (·==k)) (pw val n).length acc):∃ss,cM acc ss/\ss.Perm (pw val n):=by obtain⟨ss,a,b,c⟩:=h;refine⟨ss,a,Iq (tO val n) (λk e=>(c k).mp ?_) b⟩;exact f6.mpr ⟨k,e,by simp⟩
theorem SD{C:List ai->Prop}
(m:∀R:List ai->ao->Prop,(∀(c:av) (tk:Nat) d (acc:List ai),(∀b o,s.heap.get? b=ae o->c.get? b=ae o)->C acc->R acc {s with heap:=c,toks:=tk,drawn:=d})->wpAny (model prog w) A.in1 (collect x) R E s)
(n:∀acc,C acc->acc.length<64/\∃ss,cM acc ss)
(h:∀(a c:av) (p:aw) (tk e:Nat) d (acc:List ai) (out:List ai) (ss f:List aJ),C acc->cM acc ss->(∀b o,s.heap.get? b=ae o->a.get? b=ae o)->(∀b o,a.get? b=ae o->c.get? b=ae o)->a.objs.size<=p->
   c.get? p=ae {cls:=.type "list",data:=.seq out.toArray e}->cM out f->f.Perm ss->ajb f=aj->Q (.ref p) {s with heap:=c,toks:=tk,drawn:=d}):
  wpAny (model prog w) A (call (.builtin "sorted") [x]) Q E s:=by
 refine fq aiz ait aiu (aiS _) ?_;refine ag (ak ?_);refine ag (m _ λa tk d acc k1 ca=>?_);obtain⟨q,ss,g⟩:=n acc ca;refine ag (fe ?_ (by rw[bT];omega));have i:(a.push _).get? _=ae (b8 "list" acc.toArray 0):=az _ rfl;refine ag (bv (bM ahT ⟨_,i,rfl⟩ ahC (aks aiI i g.keysOf (λz B rest e=>aiT (by rw[<-e];exact g)) q λG a1 a2=>⟨_,rfl,?_⟩) (aiA _)));obtain⟨f,r,u,v⟩:=akG g a1 a2;obtain⟨e,y⟩:=ajq i;refine ak ⟨_,rfl,h a _ _ tk e d acc _ ss f ca g k1 (λb o k2=>?_) (aD _) (by exact y) r u v⟩;have lt:=aB k2;have j:b<(a.push (b8 "list" acc.toArray 0)).objs.size:=by rw[gF];exact cA lt
 exact(ajf (aO lt) j).trans (ah _ k2)
end
section
variable {X:Cx} {p pos p2 DU:eZ} {e:bE} {te:TE}
theorem Inv.draw(I:Inv X cq σ H s)(d:ajI):Inv X cq σ H {s with drawn:=d}:=⟨I.ok,I.os,I.bare,I.cv,I.loc,I.cell,I.free,I.lZ,I.pin,I.iz,I.len⟩
noncomputable def txO(P:aQ)(w:bw)(a:aw)(ss:List aJ):HO:=.ext λh=>KN P w h a (λi=>ss.getD i ⟨#[]⟩) ss.length
theorem ac2(x:KN P w h a (λi=>ss.getD i ⟨#[]⟩) ss.length):jd P w H h a (txO P w a ss):=by obtain⟨o,es,c,t,b,more⟩:=id x;exact⟨x,⟨o,b⟩,λf g x1 k=>kQ.at x1 λo e=>k _ e⟩
theorem NO(c:X.A.handled=am):mF X (.type "set") (λxs H Q=>∃p ss,xs=[.ref p]/\mo X.K H p (ss.map V.str)/\ss.length<1000/\∀l,H l=am->Q (.ref l) (upd H l (txO X.prog X.w l ss))):=by
 intro cq s σ H xs us Q I r h;obtain⟨p,ss,rfl,f,j,q⟩:=h;obtain⟨u,rfl,g⟩:=vals1 r;cases g;obtain⟨its,a,pl,_⟩:=I.list f;have i:=wF a;have b:=a.length;rw[ar] at b;refine Sw c pl.isList (by simpa using i) (by rw[aN];unfold dw;omega) λm tk S k=>?_;have e3:its.toArray.size=ss.length:=by rw[aN,b]
 rw[e3] at S;exact⟨.ref _,_,I.laid k (aD _) (ac2 S),rfl,q _ (I.iz.fresh (aD _))⟩
theorem Ir(g:X.A.handled=am):mF X (.builtin "sorted") (λxs H Q=>∃p ss,xs=[.ref p]/\H p=ae (txO X.prog X.w p ss)/\(SA ss).length<64/\∀l,H l=am->Q (.ref l) (upd H l (.lst ((L3.jH (SA ss)).map V.str)))):=by
 intro cq s σ H xs us Q I r h;obtain⟨p,ss,rfl,i,x,q⟩:=h;obtain⟨u,rfl,j⟩:=vals1 r;cases j;obtain⟨T,_⟩:=(I.iz p _ i);refine SD (C:=λacc=>∃s1,cM acc s1/\s1.Perm (SA ss)) (λR h=>KR (A:=X.A.in1) g T λf tk d acc k c=>h f tk d acc k (V5 c)) (λacc ⟨s1,a,b⟩=>⟨?_,s1,a⟩) (λy f p tk e d acc out s1 s2 ca sa k1 k2 m n o pm v=>?_)
 .have:=a.length;rw[this,b.length_eq];omega
 .obtain⟨s3,a,b⟩:=ca;have e2:s3=s1:=by rw[<-sa.strs,a.strs]
  subst e2;exact pX (I.draw d) (by omega) q k1 k2 m n o (pm.trans b) v
end
end L2
namespace L3
open L2
section
variable {X:Cx} {p pos p2 DU:eZ} {e:bE} {te:DE}
def wH (te:DE):DF:=λa M Q=>te a M λd M1=>∃ss:List aJ,vw M1 d=.lst (ss.map .str)/\ss.length<1000/\(SA ss).length<64/\Q (.lst ((jH (SA ss)).map .str)) M1
theorem NP(j:X.A.handled=am)(ml:X.mg "sorted"=am)(ms:X.mg "set"=am)(b:JE X e te)(gl:Gl X "sorted":=by rfl)(gs:Gl X "set":=by rfl)
(m:aP [.Call (.Name "set" p2) [e] [] DU] X.env=[(aq,eval (.Call (.Name "set" p2) [e] [] DU) X.env)]:=by rfl)(n:aP [e] X.env=[(aq,eval e X.env)]:=by rfl):
  JF X (.Call (.Name "sorted" p) [.Call (.Name "set" p2) [e] [] DU] [] pos) (wH te):=by
 have s1:PE X (.Call (.Name "set" p2) [e] [] DU) _:=rZ (NO j) gs ms (by rfl) (qF b.p xJ n) (hn:=by decide) (sO:=by decide) (he:=n) (qG:=rfl);have s2:=yP (p:=p) (pos:=pos) (Ir (X:=X) j) gl ml (by rfl) (qF s1 xJ m) (hn:=by decide) (sO:=by decide) (he:=m) (qG:=rfl);refine⟨λc M P Q w q=>b.mono c _ _ _ (λd M1 q=>?_) q,PE.weak s2 λσ H Q q=>?_⟩
 .obtain⟨ss,f,g,h,q⟩:=q;exact⟨ss,f,g,h,w _ _ q⟩
 .obtain⟨F,α,c,M,r,q⟩:=q;refine⟨F,α,c,M,r,b.mono c _ _ _ (λd M1 q v y H1 e1 o z=>?_) q⟩;obtain⟨ss,f,g,h,q⟩:=q;obtain⟨a,I,rfl,B,C⟩:=ju o z f;have e2:=sj C;subst e2;refine⟨a,ss,rfl,mo.of B,g,λl E=>⟨l,ss,rfl,gS,h,λp2 i=>?_⟩⟩;obtain⟨G,e2⟩:=o.laid (x:=txO X.prog X.w l ss) E;exact q p2 _ y _ (e1.trans e2) G i ⟨_,rfl,gL.of_map _ _ (λ_=>nU) _⟩
end
end L3
namespace L2
def Rec (h:av)(e:aw)(cls:ai)(od:Option aw)(T:aw):Prop:=
 ∃a b c f,h.get? e=ae a/\a.cls=cls/\a.dict=od/\a.data=.fields b/\b[1]?=ae (.ref T)/\T≠e/\h.get? T=ae c/\c.data=.fields f/\f[3]?=ae .none
def SE (h:av)(e:aw)(cls:ai)(od:Option aw):Prop:=∃a,h.get? e=ae ⟨cls,od,.fields #[a,.none,.none,.none,.bool aq,.none],#[]⟩
def Left (S R:List aw)(h a:av):Prop:=∀b o,h.get? b=ae o->b∉R->(b∉S->a.get? b=ae o)/\∃sl,a.get? b=ae {o with slots:=sl}
section
variable {M:Model} {A:bj} {E:ai->ao->Prop} {s:ao}
theorem D8(f:Array ai->Array ai)(o:cE):(di f o).dict=o.dict:=by unfold di;split<;>rfl
theorem V6
(U:A.frames=ae (env::cP))(H:s.heap.FunFrames cv (env::cP))(Y:env.frame=ae L)
(I:s.heap.get? e=ae u)(hd:u.data=.fields J)(v:1<J.size)
(h:∀w T,s.heap.objs.size<=T->Rec w e u.cls u.dict T->Left (rW (env::cP)) [e] s.heap w->Q () {s with heap:=w}):
  wpAny M A (do let a<-frameOf env;let pl<-entryPlaceOf L af4;let b<-EntryCells.newEntry head a .none (dL L) .none pl;setField (.ref e) 1 b) (λ_ s'=>wpAny M A (ajv (.ref e) am) Q E s') E s:=by
 have y:e∉(env::cP).filterMap _:=λhm=>by obtain⟨_,o,p,B⟩:=H.mem hm;rw[I] at p;injection p with p;subst p;exact B J hd
 refine ag (wpAny_frameOf_fun U H Y λc q=>?_);refine ag (wpAny_entryPlaceOf λpl N=>?_);refine ag (dD ?_ (N.sizeOk5 _ _ _ _ _));have i:=(q.2.1 e y).trans I;have O:=ah {cls:=.type "traceback",dict:=am,data:=.fields ([head,.ref L,.none,dL L,.none]++(if pl.isEmpty then bL 6 cC else pl)).toArray} i;refine c5 O hd v ?_;have g:=du (aB i);have C:=bZ hd (·.setIfInBounds 1 (bA c.objs.size));have j:=ck _ O (cX C);have m:=(bI (c.push {cls:=.type "traceback",dict:=am,data:=.fields ([head,.ref L,.none,dL L,.none]++(if pl.isEmpty then bL 6 cC else pl)).toArray})
  (di (·.setIfInBounds 1 (bA c.objs.size))) (bV g)).trans (az c rfl)
 refine ag (cJ j C (x:=.ref c.objs.size) (by simp[v]) ?_);have keep:∀b o,b≠e->c.get? b=ae o->
   (((c.push {cls:=.type "traceback",dict:=am,data:=.fields ([head,.ref L,.none,dL L,.none]++(if pl.isEmpty then bL 6 cC else pl)).toArray}).update e (di (·.setIfInBounds 1 (bA c.objs.size)))).update _
    (di (·.setIfInBounds 3 ((am).elim cC λf=>dL f)))).get? b=ae o:=λb o r n=>by have G:=du (aB n);rw[bI _ _ G,bI _ _ (bV r)];exact ah _ n
 refine c5 m rfl (by simp only [aN,bN,bc]<;>omega) (h _ c.objs.size ?_ ?_ λb o n hn=>?_)
 .exact ahw q.1.symm
 .refine⟨_,_,_,_,?_,ahN _ _,D8 _ _,C,by simp[v],g,ck _ m (cX (bZ rfl _)),bZ rfl _,by first|(simp;done)|(rcases N with rfl|⟨_,_,_,_,_,_,_,rfl⟩<;>simp)⟩;rw[bI _ _ g];exact j
 .have r:b≠e:=λz=>hn (by simp[z]);obtain⟨sl,hs⟩:=q.2.2 b o n;exact⟨λhS=>keep b o r ((q.2.1 b hS).trans n),sl,keep b _ r hs⟩
theorem KS
(f:A.frames=ae (env::cP))(g:s.heap.FunFrames cv (env::cP))(b:env.frame=ae L)(i:SE s.heap e cls od)
(h:∀a T,s.heap.objs.size<=T->Rec a e cls od T->Left (rW (env::cP)) [e] s.heap a->Q () {s with heap:=a}):wpAny M A (leaving env (.ref e)) Q E s:=by obtain⟨j,c⟩:=i;unfold leaving ajw;simp only [b];refine ag (ag (cJ c rfl rfl ?_));exact V6 f g b c rfl (by show 1<6;decide) h
theorem GX
(y:A.frames=ae (env::cP))(B:s.heap.FunFrames cv (env::cP))(r:env.frame=ae L)(m:Rec s.heap e cls od g)
(h:∀i T,s.heap.objs.size<=T->Rec i e cls od T->Left (rW (env::cP)) [e,g] s.heap i->Q () {s with heap:=i}):wpAny M A (ajw (.ref e) env) (λ_ C=>wpAny M A (ajv (.ref e) am) Q E C) E s:=by
 obtain⟨J,u,N,G,v,rfl,rfl,hd,w,n,p,c,x⟩:=m;unfold ajw;simp only [r];refine ag (cJ v hd w ?_);refine ag (cJ p c x ?_);refine ag (c5 p c (de.mp x).1 ?_);have other:∀b,b≠g->(s.heap.update g (di (·.setIfInBounds 3 cC))).get? b=s.heap.get? b:=λb a=>bI _ _ (bV a);have H:∀b o,s.heap.get? b=ae o->(∀u,o.data≠.fields u)->b≠g:=λb o a f q=>by rw[q,p] at a;injection a with a;subst a;exact f G c
 refine V6 y (B.of_keeps λb o a f=>⟨o,(other b (H b o a f)).trans a,rfl⟩) r ((other e (bV n)).trans v) hd (de.mp w).1
  λi T hn m I=>h i T ?_ m λb o a j=>?_
 .have e:=av.size_after_update s.heap g (di (·.setIfInBounds 3 cC));rw[e] at hn;exact hn
 .exact I b o ((other b λz=>j (by simp[z])).trans a) λz=>j (by simp at z;simp[z])
theorem NR
(b:A.frames=ae (env::cP))(c:s.heap.FunFrames cv (env::cP))(f:env.frame=ae L)(g:Rec s.heap e cls od i)
(h:∀a T,s.heap.objs.size<=T->Rec a e cls od T->Left (rW (env::cP)) [e,i] s.heap a->Q () {s with heap:=a}):wpAny M A (leaving env (.ref e)) Q E s:=
 ag (GX b c f g h)
end
theorem jd.there{P:aQ}{w:bw}{H:Hp}{h:av}{a:aw}{o:HO}(x:jd P w H h a o):∃ob,h.get? a=ae ob:=by
 cases o with
 |lst xs=>obtain⟨_,_,_,_,e⟩:=x;exact⟨_,e⟩
 |tup xs=>obtain⟨_,_,_,o,e,_⟩:=x;exact⟨_,e⟩
 |dK b=>obtain⟨_,_,_,_,o,_,_,e,_⟩:=x;exact⟨_,e⟩
 |dT b=>obtain⟨_,_,_,_,o,_,_,e,_⟩:=x;exact⟨_,e⟩
 |set S n=>obtain⟨o,_,_,_,e,_⟩:=x;exact⟨_,e⟩
 |ins C c fs=>obtain⟨_,_,_,e,_⟩:=x;exact⟨_,e⟩
 |own y=>exact x
 |xd fs=>obtain⟨_,⟨_,_,_,e,_⟩,_⟩:=x;exact⟨_,e⟩
 |rng lo hi=>obtain⟨_,_,_,e⟩:=x;exact⟨_,e⟩
 |qD ob u=>obtain⟨e,_⟩:=x;exact⟨_,e⟩
 |yJ g=>exact⟨_,(show h.get? a=ae _ from x)⟩
 |dE i b=>obtain⟨_,_,_,_,o,_,e,_⟩:=x;exact⟨_,e⟩
 |xc C fs=>obtain⟨_,_,e,_⟩:=x;exact⟨_,e⟩
 |met f y=>exact⟨_,(show h.get? a=ae _ from x)⟩
 |ext j=>obtain⟨_,e,_⟩:=x;exact e
theorem sN.none{P:aQ}{w:bw}{H:Hp}{h:av}{a:aw}(x:sN P w H h)(e:h.get? a=am):H a=am:=by
 cases q:H a with
 |none=>rfl
 |some o=>obtain⟨ob,g⟩:=(x a o q).there;rw[e] at g;cases g
section
variable {X:Cx} {cq:List (aw×cE)} {σ:St} {H:Hp} {s:ao} {h':av}
theorem Inv.frN(I:Inv X cq σ H s)(a:b∈rW X.stack):H b=am:=by
 rcases aC.mp (I.sT b a) with z|z
 .rw[z];exact I.free
 .obtain⟨_,o,c,_⟩:=I.ok.xg.mem z;exact I.cv.free b o c (I.ok.T8 b z) λq=>I.ok.Mx b q z
theorem Inv.left(I:Inv X cq σ H s)(hex:X.ex=[])(j:∀b∈R,X.ig.heap.get? b=am/\H b=am)(g:Left (rW X.stack) R s.heap h'):
  Un X.fs [] X.ik H X.ig.heap h'/\sN X.prog X.w H h':=by
 have nx:∀b,b∉X.ex:=λb z=>by rw[hex] at z;cases z
 have h:∀b o,X.ig.heap.get? b=ae o->b∉R:=λb o e z=>by rw[(j b z).1] at e;cases e
 refine⟨⟨λb o e n c _=>?_,λb o e n c _=>?_,λb o e n _=>I.cv.free b o e n (nx b),λb o e _=>?_,I.cv.uO,I.cv.rA,I.cv.sR⟩,λa o e=>?_⟩
 .refine(g b o (I.cv.keep b o e n c (nx b)) (h b o e)).1 λz=>?_;rcases aC.mp (I.sT b z) with q|q
  .have:=aB e;rw[q] at this;exact absurd (bp this I.ok.above) (cS _)
  .exact c q
 .obtain⟨sl,q⟩:=I.cv.slot b o e n c (nx b);obtain⟨f,i⟩:=(g b _ q (h b o e)).2;exact⟨f,i⟩
 .obtain⟨m,q⟩:=I.cv.there b o e (nx b);obtain⟨f,i⟩:=(g b _ q (h b o e)).2;exact⟨_,i⟩
 .refine(I.iz a o e).sQ (λb u c q=>?_) (λ_ q=>q) λ_ _ q=>q;have hn:H b≠am:=by
   rcases c with rfl|c
   .rw[e];exactλz=>by cases z
   .rw[c];exactλz=>by cases z
  exact(g b u q λz=>hn (j b z).2).1 λz=>hn (I.frN z)
end
def ZD (P:aQ)(w:bw):Yn:=λcP H s E e a=>∃x C od b T,e=.ref x/\a.os=s.os/\f7 a.gens/\Un (rW cP) [] H b s.heap a.heap/\sN P w b a.heap/\
 Rec a.heap x C od T/\s.heap.objs.size<=x/\s.heap.objs.size<=T/\b x=am/\b T=am/\E C od b
section
variable {P:aQ} {w:bw} {K:bz} {mg:aJ->Option ai} {cv:av} {N:List aJ} {qual:aJ} {scope:dN} {f:aw} {cd:ai} {A:bj} {cP:List ah1} {ig:ao} {ik:Hp} {E:XK}
abbrev D9(P:aQ)(w:bw)(K:bz)(mg:aJ->Option ai)(cv:av)(N:List aJ)(qual:aJ)(scope:dN)(f:aw)(cd:ai)(A:bj)(cP:List ah1)(s:ao)(H:Hp)(E:XK):Cx:=rC (ZD P w) P w K mg cv N qual scope f cd A cP s H E
theorem Inv.NS(I:Inv X cq σ H s):X.ig.heap.objs.size<=s.heap.objs.size:=by obtain⟨m,⟨o,es,b,a,_⟩,_⟩:=I.loc;exact dR (bY I.ok.above (aB a))
theorem Wa(I:Inv (D9 P w K mg cv N qual scope f cd A cP ig ik E) cq σ H s)
(g:SE s.heap x C od)(a:ig.heap.objs.size<=x)(c:H x=am)(h:E C od H):(D9 P w K mg cv N qual scope f cd A cP ig ik E).xe (.ref x) s:=by refine KS I.ok.frames I.stack rfl g λn T e i j=>?_;obtain⟨u,iz⟩:=I.left rfl (λb m=>by cases bf.mp m;exact⟨cR a,c⟩) j;exact⟨x,C,od,H,T,rfl,I.os,I.bare,u,iz,i,a,bi I.NS e,c,I.iz.fresh e,h⟩
theorem aff:xL (ZD P w) (D9 P w K mg cv N qual scope f cd A cP ig ik E) E:=λcq σ H s e L I h=>by
 obtain⟨x,C,od,m,T,rfl,n,o,u,iz,p,g,q,i,r,v⟩:=h;have a:=I.Bp n u iz o (λb c=>by cases c);refine NR a.ok.frames a.stack rfl p λM y j z B=>?_;obtain⟨G,J⟩:=a.left rfl (λb c=>by
  rcases aC.mp c with rfl|c
  .exact⟨cR (bi I.NS g),i⟩
  .cases bf.mp c;exact⟨cR (bi I.NS q),r⟩) B
 exact⟨x,C,od,m,y,rfl,a.os,a.bare,G,J,z,bi I.NS g,bi a.NS j,i,a.iz.fresh j,v⟩
end
open PySem.W PySem.Calls Builtin
section
variable {prog:aQ} {w:bw} {A:bj} {R:ai3->ao->Prop} {h:av} {g:Array aii} {d:ajI} {t:Nat} {os:akg}
variable {nm q:aJ} {C N f:aw} {bs bm bmB:List ai} {nD:Bool} {sn:List aJ} {sub:List ai} {ab:Bool} {col:Option Bool} {dd:Option aw} {k0 k1 k2 k3 k5:Option ai} {B newId AJ:String}
abbrev x6(C t:aw):cE:={cls:=.ref C,data:=.fields #[.ref t,.none,.none,.none,.bool aq,.none]}
abbrev x8(us:List ai):cE:={cls:=.type "tuple",data:=.seq us.toArray}
theorem Wb(F:aiX B newId AJ bmB)(T:OwnTail h bmB bm){rest:List ai}
(c:h.get? C=ae (fD nm q C N bs bm nD sn sub ab col dd k0 k1 k2 k3 k5 newId))(call:Looks (model prog w) h (specialOf (.ref C) "__call__") (ae (.builtin "type.__call__")))(typ:Looks (model prog w) h (aiO (.ref C) (.type "type")) aj)
(hi:Looks (model prog w) h (ajX (.ref C) "__init__") (ae (.ref f)))(n:∀self,Looks (model prog w) h (bindSpecial (.ref f) self) (.ref f,[self]))(i:rest.length<=aE)
(p:codeAny (model prog w) (A.under (.builtin "type.__call__" ⟨.ref C::rest,[]⟩)) (.call (.ref f) ⟨.ref (h.objs.size+1)::rest,[]⟩) (InitBack (h.objs.size+1) R) ⟨(h.push (x8 rest)).push (x6 C h.objs.size),g,d,t,os⟩):
  codeAny (model prog w) A (.call (.ref C) ⟨rest,[]⟩) R ⟨h,g,d,t,os⟩:=by
 refine aix ?_;show wpAny _ _ (ajE (.ref C) _) _ _ _;refine nd_load c ?_;show wpAny _ _ (ajE.viaDunder (.ref C) _) _ _ _;unfold ajE.viaDunder;refine ag (call.at ?_);dsimp only;rw[tc_bind];refine ag (ak (ag (ak ?_)));refine ak (a:=Fin.again (.call (.builtin "type.__call__") ⟨.ref C::rest,[]⟩)) (And.intro rfl ?_);refine codeAny_call_builtin_at (Code.quiet_builtin _ (by decide+kernel)) entry_typeCall (check_slot tc_kind tc_split typ (tc_args _ _ _) ?_);unfold bH.«type.__call__»;repeat (first|with_reducible refine ah6 c ?_|with_reducible refine wpAny_madeBy_exc c ?_|wp_step)
 refine codeAny_call_builtin_code (Code.quiet_builtin _ F.quiet) (wpAny_check_new_subT F T c ?_);refine codeAny_exc_new_subT F T c ?_ i;show wpAny _ _ _ _ _ _;have k:∀b o,h.get? b=ae o->((h.push (x8 rest)).push (x6 C h.objs.size)).get? b=ae o:=λb o e=>ah _ (ah _ e);have u:((h.push (x8 rest)).push (x6 C h.objs.size)).get? (h.objs.size+1)=ae (x6 C h.objs.size):=by heap_get
 have j:=k _ _ c;have G:Looks (model prog w) ((h.push (x8 rest)).push (x6 C h.objs.size)) (akB (.ref (h.objs.size+1))) (.ref C):=(Looks.ld u).andThen .now;have m:(bA C::bm).contains (.ref C)=aj:=by simp
 have s1:Looks (model prog w) ((h.push (x8 rest)).push (x6 C h.objs.size)) (isSubtype (.ref C) (.ref C)) aj:=by intro A Q E s x y;obtain⟨H,g,d,t,os⟩:=s;refine ahF (x _ _ j) ?_;rw[m];exact y
 have I:=hi.keeps k;have b1:=(n (.ref (h.objs.size+1))).keeps k;unfold aiO callSpecial? specialOf;repeat (first|with_reducible refine eF ?_|lk)
 refine c6 p λr J z=>?_;rcases r with e|(v|_|_|_)<;>first|exact z|exact z.elim|skip
 obtain⟨rfl,z⟩:=z;exact ak (ak z)
end
end L2
namespace L2
open PySem.W
section
variable {prog:aQ} {w:bw} {A:bj} {E:ai->ao->Prop} {s:ao} {K:bz} {C x:aw} {name:aJ} {v:ai}
def XF (h:av)(x:aw)(od:Option aw)(a:aJ->Option ai):Prop:=match od with
 |none=>∀n,a n=am
 |some b=>b≠x/\h.Ns1 b a
noncomputable def KU:List ai->Bool
 |[.type a,.type b,.type c,.type d]=>a=="ValueError"&&b=="Exception"&&c=="BaseException"&&d=="object"
 |.ref _::r=>KU r
 |_=>aq
theorem KW(self:ai):∀l:List ai,KU l=aj->refuseLoop self "__setattr__" l=pure ()
 |[.type a,.type b,.type c,.type d],h=>by simp only [KU,aY,beq_iff_eq] at h;obtain⟨⟨⟨rfl,rfl⟩,rfl⟩,rfl⟩:=h;exact PySem.F.store_ValueError.passes self
 |.ref C::r,h=>by rw[refuseLoop_ref];exact KW self r (by simpa only [KU] using h)
def KY (K:bz)(C:aw):Prop:=(W.clsIn K C).any (λcd=>KU cd.mro)=aj
theorem SG(X:K.In s.heap)(I:W.InstAt s.heap x u C od)(m:KY K C)(b:W.subIn K (.ref C) (.type "object")=ae aj)(hn:dr K (.ref C) name=ae am)
(h:wpAny (model prog w) A.in1 (bH.ObjectAttr.storeInOwnDict (.ref x) (.ref C) (.str name tk) name v aq)
   (λn a=>match n with
    |.done f=>R (.ok f) a
    |.again j=>j.quiet=aj/\codeAny (model prog w) A j R a) (λe a=>R (.error e) a) s):
  codeAny (model prog w) A (.call (.builtin "object.__setattr__") ⟨[.ref x,.str name tk,v],[]⟩) R s:=by
 have F:=PySem.F.store_ValueError;obtain⟨cd,o,c⟩:=W.any_some m;have g:W.Looks (model prog w) s.heap (akB (.ref x)) (.ref C):=by obtain⟨p,q,_⟩:=I;rw[<-q];exact(W.Looks.ld p).andThen .now
 have s1:=W.looks_subIn (M:=model prog w) X b;have typ:W.Looks (model prog w) s.heap (aiO (.ref x) (.type "object")) aj:=by exact g.andThen s1
 have e1:=F.slot.plain;have e2:=F.entry;have e3:=F.args (.ref x) (.str name tk) v;have e4:=F.kind;have e5:=F.split;refine d9 e1 e2 ?_;with_reducible refine check_slot e4 e5 typ e3 ?_
 rw[W.osa_eq,refuse_eq];have r:mroOf (.ref C)=(classData C >>= λcd=>pure cd.mro):=rfl;have i:bH.ObjectAttr.storeTaker? am=pure am:=rfl;with_reducible refine ag ?_
 with_reducible refine ag ?_
 with_reducible refine g.at ?_
 rw[r];with_reducible refine ag ?_
 with_reducible refine ag ?_
 with_reducible refine(W.looks_clsIn X o).at ?_
 with_reducible refine ak ?_
 rw[KW _ _ c];with_reducible refine ak ?_
 with_reducible refine ag ?_
 with_reducible refine g.at ?_
 with_reducible refine ag ?_
 with_reducible refine(W.looks_findIn X hn).at ?_
 rw[i];with_reducible refine ag ?_
 with_reducible refine ak ?_
 exact h
theorem ZE(X:K.In s.heap)(q:s.heap.get? x=ae f)(hc:f.cls=.ref C)(hf:f.data=.fields Y)(hm:XF s.heap x f.dict B)
(g:dr K (.ref C) "__setattr__"=ae (ae (.builtin "object.__setattr__")))(hp:KY K C)(H:W.subIn K (.ref C) (.type "object")=ae aj)(ht:dr K (.ref C) name=ae am)(hh:W.hasDictIn K C=aj)
(hw:PySem.Within B ns)(uR:ns.length<aE)
(h:∀c a t',c.get? x=ae {f with dict:=ae a}->(f.dict=ae a\/(f.dict=am/\a=s.heap.objs.size))->a≠x->c.Ns1 a (λy=>if y=name then ae v else B y)->(∀b o,b≠x->b≠a->s.heap.get? b=ae o->c.get? b=ae o)->Q () {s with heap:=c,toks:=t'}):
  wpAny (model prog w) A (aj5 (.ref x) name v) Q E s:=by
 obtain⟨oc,od,odt,JQ⟩:=f;cases hc;cases hf;have I:∃G,W.InstAt s.heap x ⟨.ref C,od,.fields Y,JQ⟩ C G:=by
  cases od with
  |none=>exact⟨am,q,rfl,rfl,trivial⟩
  |some a=>
   obtain⟨_,o,es,ep,ho,_⟩:=hm;exact⟨ae o,q,rfl,rfl,ho⟩
 obtain⟨G,I⟩:=I;refine W.set_plain X I g (SG (s:={s with toks:=s.toks+1}) X I hp H ht ?_);obtain⟨cd,Bq,Ua⟩:=W.any_some hh;refine ag (ak (ag (ag (ajd q ?_))));dsimp only;refine ag (W.Looks.here (s:={s with toks:=s.toks+1}) (W.looks_clsIn X Bq) ?_);rw[Ua];cases od with
 |none=>
  have hm:∀n,B n=am:=hm;have r:(s.heap.push {cls:=.type "dict",data:=.dict #[]}).get? x=ae ⟨.ref C,am,.fields Y,JQ⟩:=ah _ q;have i:x≠s.heap.objs.size:=aO (aB q);refine ag (wpAny_alloc ?_);refine ag (wpAny_update r ?_);refine ak ?_;have J:((s.heap.push {cls:=.type "dict",data:=.dict #[]}).update x λo=>{cls:=o.cls,dict:=ae s.heap.objs.size,data:=o.data,slots:=o.slots}).get? s.heap.objs.size
    =ae {cls:=.type "dict",data:=.dict #[]}:=
   (d8 _ _ _ _ i.symm).trans (av.get?_push_at rfl rfl)
  have L:((s.heap.push {cls:=.type "dict",data:=.dict #[]}).update x λo=>{cls:=o.cls,dict:=ae s.heap.objs.size,data:=o.data,slots:=o.slots}).Ns s.heap.objs.size (λ_=>am):=
   ⟨_,#[],_,J,rfl,λe he=>absurd he (by simp),λ_=>rfl⟩
  refine ag (ak (ag (ajz (av.Ns1.of_empty L) λc u g=>?_)));obtain⟨oD,M,N,j,m,O⟩:=u.count (Within.cons name v Within.nil);refine ag (ai1 j (by rw[m];exact ai2 (bi O (by rw[bc,cm,bT];omega))) ?_);refine ak (h c s.heap.objs.size _ ?_ (.inr ⟨rfl,rfl⟩) i.symm ?_ λb o z p T=>?_)
  .exact(g.2 x i).trans (ck _ r rfl)
  .obtain⟨G,es,ep,e1,e2,e3,eu,e4⟩:=u;exact⟨G,es,ep,e1,e2,e3,eu,λy=>by rw[e4 y];by_cases hy:y=name<;>simp[hy,hm]⟩
  .exact(g.2 b p).trans ((d8 _ _ _ _ z).trans (ah _ T))
 |some a=>
  obtain⟨xj,U⟩:=(show a≠x/\s.heap.Ns1 a B from hm);show wpAny _ _ (pure (ae a)) _ _ _;refine ak ?_;refine ag (ak (ag (ajz (s:={s with toks:=s.toks+1}) U λc u g=>?_)));obtain⟨oD,M,N,j,m,O⟩:=u.count (Within.cons name v hw);refine ag (ai1 j (by rw[m];exact ai2 (bi O (by rw[bc];omega))) ?_);refine ak (h c a _ ((g.2 x xj.symm).trans q) (.inl rfl) xj u λb o z p T=>(g.2 b p).trans T)
end
section
variable {prog:aQ} {w:bw} {A:bj} {E:ai->ao->Prop} {h:av} {g:Array aii} {d:ajI} {t:Nat} {os:akg}
variable {nm q:aJ} {C N x:aw} {bs bm bmB:List ai} {nD:Bool} {sn:List aJ} {sub:List ai} {ab:Bool} {col:Option Bool} {dd:Option aw} {k0 k1 k2 k3 k5:Option ai} {B newId AJ:String}
theorem Wc(F:aiX B newId AJ bmB)(T:OwnTail h bmB bm)
(v:h.get? C=ae (fD nm q C N bs bm nD sn sub ab col dd k0 k1 k2 k3 k5 newId))(p:h.get? x=ae c)(f:c.cls=.ref C)(hd:c.data=.fields i)(L:1<i.size)
(y:∀j a,j.get? x=ae {c with data:=.fields (i.setIfInBounds 0 a)}->(∀b o,b≠x->h.get? b=ae o->j.get? b=ae o)->Q .none ⟨j,g,d,t,os⟩):
  wpAny (model prog w) A (call (.builtin AJ) [.ref x,u]) Q E ⟨h,g,d,t,os⟩:=by
 obtain⟨oc,od,z,JQ⟩:=c;cases f;cases hd;refine eF (d9 F.init.plain F.initEntry (wpAny_check_init_subT F T v p rfl ?_))
 wp_walk
 obtain⟨m,G⟩:∃a,i[0]?=ae a:=⟨_,cG (by omega)⟩;rw[G];refine ak ?_;have r:=ah (h:=h) {cls:=.type "tuple",data:=.seq [u].toArray} p;refine ag (c5 r rfl (by omega) ?_);have H:∀n:Unit->ao->Prop,n () ⟨(h.push {cls:=.type "tuple",data:=.seq [u].toArray}).update x (di (·.setIfInBounds 0 (.ref h.objs.size))),g,d,t,os⟩->∀s,wpAny (model prog w) A.in1 (match m with|bA I=>letGo [m]|x=>pure ()) n s _:=λn q s=>by
  cases m<;>first|exact ak q|skip
  wp_walk
  exact q
 refine H _ (ak ?_) _;refine y _ (.ref h.objs.size) ?_ λb o J e=>?_
 .exact ck _ r (cX (bZ rfl _))
 .rw[bI _ _ (bV J)];exact ah _ e
end
section
variable {X:Cx} {value e:bE} {es:List bE} {te:TE} {pos:eZ}
def ac3 (te:TE):TE:=λσ H Q=>te σ H λx H1=>match x with
 |.str y=>y.length<=aE/\Q (.str y) H1
 |.int i=>i.natAbs.log2<1920/\Q (.str (toString i)) H1
 |_=>False
theorem Inv.tk(I:Inv X cq σ H s)(a:Nat):Inv X cq σ H {s with toks:=a}:=⟨I.ok,I.os,I.bare,I.cv,I.loc,I.cell,I.free,I.lZ,I.pin,I.iz,I.len⟩
theorem ac4(h:PE X value te):PE X (.FormattedValue value (-1) am pos) (ac3 te):=by
 intro cq s σ H Q I c;refine ajS (jQ (h cq s σ H _ I c) λv s1 f=>?_);obtain⟨x,H1,a,b,q⟩:=f;cases x<;>first|exact q.elim|skip
 .rename_i i;obtain⟨t,rfl⟩:=b;refine formatField_int_small q.1 ?_;exact⟨.str _,H1,a.tk _,⟨_,rfl⟩,q.2⟩
 .rename_i y;obtain⟨t,rfl⟩:=b;exact formatField_str (λg tk=>⟨.str y,H1,a.tk _,⟨_,rfl⟩,q.2⟩) q.1
abbrev TJ:=aJ->St->Hp->VK->Prop
def PJ (X:Cx)(es:List bE)(t:TJ):Prop:=∀(acc:aJ) (cq:List (aw×cE)) (s:ao) (σ:St) (H:Hp) (Q:VK),Inv X cq σ H s->t acc σ H Q->wpAny (model X.prog X.w) X.A (joinParts acc (evalEach es X.env)) (EP X cq σ Q) X.xe s
def Wd:TJ:=λacc _ H Q=>acc.length<=aE/\Q (.str acc) H
def AL (te:TE)(a:TJ):TJ:=λacc σ H Q=>te σ H λx H1=>∃y,x=.str y/\(acc++y).length<=aE/\a (acc++y) σ H1 Q
theorem ac5:PJ X [] Wd:=λacc cq s σ H Q I q=>joinParts_nil ⟨.str acc,H,I.tk _,⟨_,rfl⟩,q.2⟩ q.1
theorem CG(h:PE X e te)(a:PJ X es b):PJ X (e::es) (AL te b):=by intro acc cq s σ H Q I c;refine joinParts_cons (jQ (h cq s σ H _ I c) λv s1 f=>?_);obtain⟨x,H1,g,i,y,e1,j,q⟩:=f;subst e1;obtain⟨t,rfl⟩:=i;exact⟨j,a _ cq s1 σ H1 Q g q⟩
theorem ZF(h:PJ X (e::e2::es) a):PE X (.JoinedStr (e::e2::es) pos) (a aJ.empty):=λcq s σ H Q I q=>JoinedStr_many (h _ cq s σ H Q I q)
end
noncomputable def sk(x C:aw)(od:Option aw):HO:=.ext λh=>SE h x (.ref C) od
noncomputable def SH(b:aw)(fs:List (aJ×V)):HO:=.ext λh=>∃a,h.Ns1 b a/\(∀f,rq (fs.lookup f) (a f))/\PySem.Within a (fs.map (·.1))
structure We(K:bz)(C:aw):Prop where
 hd:W.hasDictIn K C=aj
 po:KY K C
 so:W.subIn K (.ref C) (.type "object")=ae aj
 sa:dr K (.ref C) "__setattr__"=ae (ae (.builtin "object.__setattr__"))
theorem NT(r:SE h x (.ref C) od):jd P w H h x (sk x C od):=by obtain⟨a,e⟩:=r;refine⟨⟨a,e⟩,⟨_,e⟩,λc f ⟨b,q⟩ k=>⟨b,k _ q⟩⟩
theorem afi(n:h.Ns1 b a)(r:∀f,rq (fs.lookup f) (a f))(wi:PySem.Within a (fs.map (·.1))):jd P w H h b (SH b fs):=by obtain⟨o,es,j,e,q⟩:=id n;exact⟨⟨a,n,r,wi⟩,⟨_,e⟩,λm p ⟨c,g,i⟩ k=>⟨c,g.at k,i⟩⟩
def XD (H:Hp)(x:aw)(od:Option aw)(fs:List (aJ×V)):Prop:=match od with
 |none=>fs=[]
 |some a=>a≠x/\H a=ae (SH a fs)
section
variable {X:Cx} {cq:List (aw×cE)} {σ:St} {H:Hp} {s:ao} {A:bj} {E:ai->ao->Prop} {C x:aw} {f:aJ}
theorem ZG(I:Inv X cq σ H s)(ex:H x=ae (sk x C od))(hd:XD H x od fs)(c:We X.K C)(n:kY X.K C f)(hl:fs.length<1000)(T:RelV y u)
(h:∀L a,(od=ae a\/(od=am/\H a=am))->a≠x->Inv X cq σ (upd (upd H a (SH a (nw f y fs))) x (sk x C (ae a))) L->Q () L):wpAny (model X.prog X.w) A (aj5 (.ref x) f u) Q E s:=by
 obtain⟨⟨Y,hx⟩,_,_⟩:=(I.iz x _ ex);obtain⟨m,xf,rl,wi⟩:∃m,XF s.heap x od m/\(∀g,rq (fs.lookup g) (m g))/\PySem.Within m (fs.map (·.1)):=by
  cases od with
  |none=>
   cases(show fs=[] from hd);exact⟨λ_=>am,λ_=>rfl,λ_=>trivial,λy hy=>absurd rfl hy⟩
  |some a=>
   obtain⟨ne,T0⟩:=(hd);obtain⟨⟨m,nn,r,wi⟩,_,_⟩:=(I.iz a _ T0);exact⟨m,⟨ne,nn⟩,r,wi⟩
 refine ZE I.qE hx rfl rfl xf c.sa c.po c.so n c.hd wi (by rw[ar,bT];omega) λM a t' N i ne hn kp=>?_;have i:od=ae a\/(od=am/\a=s.heap.objs.size):=i;have G:od=ae a\/(od=am/\H a=am):=by
  rcases i with e|⟨e,rfl⟩
  .exact .inl e
  .exact .inr ⟨e,I.iz.fresh (aD _)⟩
 have j:∀b o,s.heap.get? b=ae o->H b=am->b≠a:=λb o e q z=>by
  rcases i with e2|⟨_,rfl⟩
  .rw[e2] at hd;have:=(hd).2;rw[<-z,q] at this;cases this
  .have:=aB e;rw[z] at this;exact absurd this (cS _)
 have p:∀b u,H b=ae u->(∀φ,u≠.ext φ)->b≠x/\b≠a:=λb u e O=>by
  refine⟨λz=>?_,λz=>?_⟩
  .rw[z,ex] at e;exact O _ (bn e).symm
  .subst z;rcases G with e2|⟨_,e2⟩
   .rw[e2] at hd;have:=(hd).2;rw[e] at this;exact O _ (bn this)
   .rw[e] at e2;cases e2
 have nx:∀b,H b=am->b≠x:=λb e z=>by rw[z,ex] at e;cases e
 have U:Un (rW X.stack) [] H (upd (upd H a (SH a (nw f y fs))) x (sk x C (ae a))) s.heap M:=by
  refine⟨λb o e q _ _=>kp b o (nx b q) (j b o e q) e,λb o e q _ _=>⟨o.slots,kp b o (nx b q) (j b o e q) e⟩,λb o e q _=>?_,λb o e _=>?_,λb xs q=>?_,λb o u q=>?_,λb ps q=>⟨#[],?_⟩⟩
  .rw[gM (nx b q),gM (j b o e q)];exact q
  .by_cases z:b=x
   .subst z;exact⟨_,N⟩
   .by_cases B:b=a
    .subst B;obtain⟨o',_,_,e',_⟩:=hn;exact⟨_,e'⟩
    .exact⟨o,kp b o z B e⟩
  .have:=p b _ q λ_ z=>by cases z
   rw[gM this.1,gM this.2];exact q
  .have:=p b _ q λ_ z=>by cases z
   rw[gM this.1,gM this.2];exact q
  .have:=p b _ q λ_ z=>by cases z
   rw[gM this.1,gM this.2,q];simp
 have iz:sN X.prog X.w (upd (upd H a (SH a (nw f y fs))) x (sk x C (ae a))) M:=λb u q=>by
  by_cases z:b=x
  .subst z;rw[gS] at q;cases q;exact NT ⟨Y,N⟩
  .rw[gM z] at q;by_cases B:b=a
   .subst B;rw[gS] at q;cases q;refine afi hn (λg=>?_) λg hg=>?_
    .rw[uV];by_cases q:g=f
     .rw[if_pos q,if_pos q];exact T
     .rw[if_neg q,if_neg q];exact rl g
    .by_cases q:g=f
     .rw[q];exact(rX f y fs).1
     .refine(rX f y fs).2 g (wi g λz=>hg ?_);rw[if_neg q];exact z
   .rw[gM B] at q;refine(I.iz b u q).sQ (λc v J r=>?_) (λc r=>?_) λc xs r=>?_
    .rcases J with rfl|J
     .exact kp c v z B r
     .have:=p c _ J λ_ z=>by cases z
      exact kp c v this.1 this.2 r
    .have:=p c _ r λ_ z=>by cases z
     rw[gM this.1,gM this.2];exact r
    .have:=p c _ r λ_ z=>by cases z
     rw[gM this.1,gM this.2];exact r
 exact h _ a G ne (I.Bp rfl U iz I.bare λb hb=>by cases hb)
end
structure Qr(K:bz)(B:aw):Prop where
 gs:W.specialIn K (.ref B) "__getattribute__"=ae (ae (.builtin "type.__getattribute__"))
 rd:W.readsIn K B (.type "type")=aj
 fc:W.findCls K (.ref B) (.type "type") "__init__"=ae (.val (.builtin "ValueError.__init__"))
structure NU(K:bz)(C:aw):Prop where
 obj:∃nm q N bs bm nD sn sub ab col dd k0 k1 k2 k3 k5,K.lookup C=ae (fD nm q C N bs bm nD sn sub ab col dd k0 k1 k2 k3 k5 "ValueError.__new__")/\∀h,K.In h->OwnTail h [.type "ValueError",.type "Exception",.type "BaseException",.type "object"] bm
section
variable {X:Cx} {o e e2:bE} {to t1 t2:TE} {ta:TA} {apos pos:eZ} {B:aw}
def Wf (K:bz)(B:aw)(to:TE)(ta:TA):TE:=λσ H Q=>to σ H λb a=>b=.ref B/\ta σ a λc H1=>∃x C od m,c=[.ref x,m]/\H1 x=ae (sk x C od)/\NU K C/\Q .non H1
theorem Wg(FB:aiX "ValueError" "ValueError.__new__" "ValueError.__init__" [.type "ValueError",.type "Exception",.type "BaseException",.type "object"])
(I:Inv X cq σ H s)(ex:H x=ae (sk x C od))(c:NU X.K C)(h:∀n,Inv X cq σ H n->Q .none n):wpAny (model X.prog X.w) A (call (.builtin "ValueError.__init__") [.ref x,u]) Q E s:=by
 obtain⟨⟨L,y⟩,_,_⟩:=(I.iz x _ ex);obtain⟨nm,q,N,bs,M,O,sn,sub,U,col,dd,Y,k1,k2,k3,k5,i,T⟩:=c.obj;have i:=I.qE _ _ i;have T:=T s.heap I.qE;have nx:∀b,H b=am->b≠x:=λb e z=>by rw[z,ex] at e;cases e
 have j:=I;obtain⟨hh,g,d,t,os⟩:=s;refine Wc FB T i y rfl rfl (by show 1<6;decide) λG a p kp=>h _ ?_;have m:SE G x (.ref C) od:=⟨a,p⟩;refine j.Bp (ch:=[]) rfl ⟨λb o e q _ _=>kp b o (nx b q) e,λb o e q _ _=>⟨o.slots,kp b o (nx b q) e⟩,λb o e q _=>q,λb o e _=>?_,λb xs q=>q,λb o u q=>q,λb ps q=>⟨#[],by rw[q];simp⟩⟩ (λb u q=>?_) j.bare λb J=>by cases J
 .by_cases z:b=x
  .subst z;exact⟨_,p⟩
  .exact⟨o,kp b o z e⟩
 .by_cases z:b=x
  .subst z;rw[ex] at q;cases q;exact NT m
  .refine(j.iz b u q).sQ (λc v f r=>kp c v ?_ r) (λc r=>r) λc xs r=>r;rcases f with rfl|f
   .exact z
   .exactλz=>by rw[z,ex] at f;cases f
theorem Wh(FB:aiX "ValueError" "ValueError.__new__" "ValueError.__init__" [.type "ValueError",.type "Exception",.type "BaseException",.type "object"])(g:Qr X.K B)(p:PE X o to)(ha:PA X [e,e2] ta)
(ht:eval (.Call (.Attribute o "__init__" apos) [e,e2] [] pos) X.env=(do
   let j<-eval o X.env
   ai9 apos.atName
   let(f,first)<-holding [j] (ai0 j "__init__" pl)
   akF pos f first (c9 pos (aP [e,e2] X.env)) (aie pos (eW [] X.env))):=by rfl)
(v:aP [e,e2] X.env=(aq,eval e X.env)::aP [e2] X.env:=by rfl)(w:(c9 pos (aP [e2] X.env)).any (·.1)=aq:=by rfl):
  PE X (.Call (.Attribute o "__init__" apos) [e,e2] [] pos) (Wf X.K B to ta):=by
 intro cq s σ H Q I h;refine W.methodCall_KW (jQ (p cq s σ H _ I h) λu s1 ⟨b,y,a,z,A,q⟩=>?_) ht;subst A;obtain rfl:u=bA B:=z;refine W.method_cls a.qE g.gs (W.cls_value a.qE g.rd g.fc rfl ?_);have a:=a.tk (s1.toks+1);have n:=ha pos cq _ σ y _ a q;rw[v] at n |-;refine ahZ (by show(aq||(c9 pos _).any (·.1))=aq;rw[w]<;>rfl) (Calls.evalArgs_plain ?_);refine jQ n λus s2 E=>?_;obtain⟨T,G,J,i,x,C,od,m,L,ex,c,M⟩:=E;subst L;cases i with
 |cons r N=>
  cases N with
  |cons U i=>
   cases i;cases r;exact Wg FB J ex c λY O=>⟨.non,G,O,rfl,M⟩
end
noncomputable def X4(x:aw)(H:Hp):Hp:=λb=>if b=x then am else H b
theorem zj:X4 x H x=am:=by unfold X4;rw[if_pos rfl]
theorem Iu(h:b≠x):X4 x H b=H b:=by unfold X4;rw[if_neg h]
section
variable {X:Cx} {cq:List (aw×cE)} {σ:St} {H:Hp} {s:ao}
theorem Inv.drop(I:Inv X cq σ H s)(f:H x=ae (.ext g)):Inv X cq σ (X4 x H) s:=by
 have hn:∀b,H b=am->X4 x H b=am:=λb e=>by
  by_cases z:b=x
  .rw[z];exact zj
  .rw[Iu z];exact e
 have a:∀b u,H b=ae u->(∀g,u≠.ext g)->X4 x H b=ae u:=λb u e h=>by rw[Iu λz=>by rw[z,f] at e;exact h _ (bn e).symm];exact e
 refine⟨I.ok,I.os,I.bare,⟨I.cv.keep,I.cv.slot,λb o q n f=>hn b (I.cv.free b o q n f),I.cv.there,λb xs q=>a b _ (I.cv.uO b xs q) (λ_ z=>by cases z),λb o u q=>a b _ (I.cv.rA b o u q) (λ_ z=>by cases z),λb i q=>?_⟩,I.loc,I.cell,hn _ I.free,λx c e=>hn _ (I.lZ x c e),λp j=>?_,λb u q=>?_,I.len⟩
 .obtain⟨m,e⟩:=I.cv.sR b i q;exact⟨m,a b _ e λ_ z=>by cases z⟩
 .obtain⟨w,y,A⟩:=I.pin p j;exact⟨w,hn _ y,A⟩
 .have z:b≠x:=λz=>by rw[z,zj] at q;cases q
  rw[Iu z] at q;exact(I.iz b u q).sQ (λc v _ r=>r) (λc r=>a c _ r (λ_ z=>by cases z)) (λc xs r=>a c _ r (λ_ z=>by cases z))
end
section
variable {M:Model} {A:bj} {E:ai->ao->Prop} {env:ah1} {s:ao}
variable {nm q:aJ} {C N:aw} {bs bm:List ai} {nD:Bool} {sn:List aJ} {sub:List ai} {ab:Bool} {col:Option Bool} {dd:Option aw} {k0 k1 k2 k3 k5:Option ai} {newId:String}
theorem SI(f:bm.contains (.type "BaseException")=aj)(g:A.handled=am)
(h:wpAny M A x (λv a=>∃e od,v=.ref e/\a.heap.get? C=ae (fD nm q C N bs bm nD sn sub ab col dd k0 k1 k2 k3 k5 newId)/\SE a.heap e (.ref C) od/\E (.ref e) a) E s):
  wpAny M A (raiseStmt env (ae x) am) Q E s:=by
 have b:(bA C::bm).contains (.type "BaseException")=aj:=by rw[List.contains_cons,f,Bool.or_true]
 refine ag (cz h (λv a i=>?_) λ_ _ x=>x);obtain⟨e,od,rfl,c,⟨n,j⟩,m⟩:=i;repeat (first|with_reducible refine ah6 j ?_|with_reducible refine ah6 c ?_|(with_reducible refine ahF c ?_;rw[b])|wp_step)
 exact wpAny_raiseNew_none g m
end
structure XMk(K:bz)(C f:aw):Prop where
 x:NU K C
 call:W.specialIn K (.ref C) "__call__"=ae (ae (.builtin "type.__call__"))
 typ:W.instIn K (.ref C) (.type "type")=ae aj
 init:dr K (.ref C) "__init__"=ae (ae (.ref f))
 fn:W.isFn K (.ref f)=aj
 kp:ef K (.ref C)=aj
section
variable {X:Cx} {CX:Yn} {k:Nat} {f C:aw} {fd:dY} {ps:List aJ} {sp:Sp} {E:XK}
theorem ZH(M:XMk X.K C f)(F:jR X.prog X.w X.K X.mg X.cv CX k f fd ps sp)(B:iV (k+1) X.A)(G:Binds X.K fd ps [])
(J:xL CX X E)(I:Inv X cq σ H s)(r:Vals n us)(L:us.length<=aE)
(h:∀x,H x=am->s.heap.objs.size<=x->sp (.ref x::n) (upd H x (sk x C am)) (λv m=>v=.non/\Q (.ref x) m) E):
  wpAny (model X.prog X.w) X.A (call (.ref C) us) (EP X cq σ Q) X.xe s:=by
 have p:=h _ (I.iz.fresh (cB _)) (cB _);have k1:∀b u,s.heap.get? b=ae u->(s.heap.push (x8 us)).get? b=ae u:=λb u e=>ah _ e;have e2:=by
  have:=az (s.heap.push (x8 us)) (o:=x6 C s.heap.objs.size) rfl
  rwa [bW] at this
 have j:Inv X cq σ (upd H (s.heap.objs.size+1) _) {s with heap:=(s.heap.push _).push _}:=
  (I.kept (t':=s.toks) k1).laid (λb u e=>ah _ e) (ahw (bW _ _)) (NT ⟨_,e2⟩)
 have y:Vals (V.ref (s.heap.objs.size+1)::n) _:=.cons rfl r;have O:=by have e:=y.length;rw[F.len _ _ _ _ p] at e;exact e.symm
 obtain⟨nm,q,N,bs,bm,nD,sn,sub,ab,col,dd,k0,k1,k2,k3,k5,U,T⟩:=M.x.obj;have Y:(bA (s.heap.objs.size+1)::us++[]).length=ps.length:=by rw[ba];exact O
 have z:=G _ _ j.qE Y;rw[ba] at z;have key:=F.run _ X.stack _ _ _ _ _ _ E (B.make C us []) (j.Uv.make C us []) z y p;have c:=I.qE;have jn:∀(r:ai3) (a:ao),CR CX X.stack X.prog X.w _ _ (λv m=>v=.non/\Q _ m) E r a->
   W.InitBack _ (λr a=>match r with|.ok (.ret v)=>EP X cq σ Q v a|.ok _=>False|.error e=>X.xe e a) r a:=λr a i=>by
  cases r with
  |error e=>exact J cq σ _ _ e a j i
  |ok fl=>
   cases fl with
   |ret u=>
    obtain⟨v,H',I3,rv,ev,q3⟩:=j.after i;subst ev;exact⟨rv,⟨V.ref (s.heap.objs.size+1),H',I3,rfl,q3⟩⟩
   |next=>exact cw i
   |brk=>exact cw i
   |cont=>exact cw i
 obtain⟨hh,g,d,t,os⟩:=s;refine eF ?_;refine Wb PySem.F.excBase_ValueError (T hh c) (c _ _ U) (W.looks_specialIn c M.call) (W.looks_instIn c M.typ) (W.looks_findIn c M.init) (λself=>W.bind_fn c self (beq_iff_eq.mp M.fn)) L ?_;exact c6 key jn
end
section
variable {P:aQ} {w:bw} {K:bz} {mg:aJ->Option ai} {cv:av} {N:List aJ} {qual:aJ} {scope:dN} {fn:aw} {cd:ai} {A:bj} {cP:List ah1} {ig:ao} {ik:Hp} {E:XK}
variable {k:Nat} {f C:aw} {fd:dY} {ps:List aJ} {sp:Sp} {x:aJ} {p pos jo:eZ} {e:bE} {es:List bE} {t:TA}
def ac6 (C:aw)(sp:Sp)(E:XK)(t:TA):TS:=λ_ σ H=>t σ H λa H1=>a.length<=aE/\∀x,H1 x=am->sp (.ref x::a) (upd H1 x (sk x C am)) (λv b=>v=.non/\∃od,b x=ae (sk x C od)/\E (.ref C) od (X4 x b)) E0
theorem Wi(M:XMk K C f)(F:jR P w K mg cv rF k f fd ps sp)(mono:∀c H (Q j:VK),(∀v H,Q v H->j v H)->sp c H Q E0->sp c H j E0)
(G:iV (k+1) (D9 P w K mg cv N qual scope fn cd A cP ig ik E).A)(J:Binds K fd ps [])(L:Gl (D9 P w K mg cv N qual scope fn cd A cP ig ik E) x)(hm:mg x=ae (.ref C))
(ha:PA (D9 P w K mg cv N qual scope fn cd A cP ig ik E) (e::es) t)(O:(x==("__debug__":aJ))=aq:=by decide)
(U:aP (e::es) (D9 P w K mg cv N qual scope fn cd A cP ig ik E).env=(aq,eval e (D9 P w K mg cv N qual scope fn cd A cP ig ik E).env)::aP es (D9 P w K mg cv N qual scope fn cd A cP ig ik E).env:=by rfl)
(Y:(c9 jo (aP es (D9 P w K mg cv N qual scope fn cd A cP ig ik E).env)).any (·.1)=aq:=by rfl):
  PS (D9 P w K mg cv N qual scope fn cd A cP ig ik E) (.Raise (ae (.Call (.Name x p) (e::es) [] jo)) am pos) (ac6 C sp E t):=by
 intro cq s σ H D I h;obtain⟨nm,q,N',bs,m,n,sn,sub,o,col,dd,u,k1,k2,k3,z,hC,T⟩:=M.x.obj;have uX:=(T cv I.ok.mod.T6).hasType PySem.F.excBase_ValueError.hasBase;have hh:=I.ok.hd rfl;refine ag (aht (SI (C:=C) (nm:=nm) (q:=q) (N:=N') (bs:=bs) (bm:=m) (nD:=n) (sn:=sn) (sub:=sub) (ab:=o) (col:=col) (dd:=dd) (k0:=u) (k1:=k1) (k2:=k2) (k3:=k3) (k5:=z) (newId:="ValueError.__new__") uX hh ?_));refine ag (jQ (Q:=EP (D9 P w K mg cv N qual scope fn cd A cP ig ik E) cq σ λv b=>∃y od,v=.ref y/\ig.heap.objs.size<=y/\b y=ae (sk y C od)/\E (.ref C) od (X4 y b)) ?_ λv s3 h3=>ag (aht (ak ?_)))
 .refine dQ (wB I L hm ?_ O);refine W.callWith_K I.ok.mod.T6 M.kp (jQ (ha jo cq s σ H _ I h) λus s1 ⟨c,H1,g,r,hz,q⟩=>⟨g.qE,?_⟩) U Y;refine ZH M F G J Ps g r (by rw[gp,<-r.length];exact hz) λy hy hn=>mono _ _ _ _ (λv b ⟨e1,od,e2,e3⟩=>⟨e1,y,od,rfl,bi g.NS hn,e2,e3⟩) (q y hy)
 .obtain⟨v',b,i,rv,y,od,rfl,hn,B,hE⟩:=h3;cases rv;obtain⟨a,_,_⟩:=(i.iz y _ B);exact⟨y,od,rfl,i.qE _ _ hC,a,Wa (i.drop B) a hn zj hE⟩
end
section
variable {X:Cx} {o value:bE} {ta tv:TE} {f:aJ} {pos sV:eZ}
def KZ (K:bz)(ta tv:TE)(f:aJ):TS:=λD σ H=>tv σ H λy H1=>ta σ H1 λx c=>∃a C od fs,x=.ref a/\c a=ae (sk a C od)/\XD c a od fs/\We K C/\kY K C f/\fs.length<1000/\
 ∀b,(od=ae b\/(od=am/\c b=am))->b≠a->D.nx σ (upd (upd c b (SH b (nw f y fs))) a (sk a C (ae b)))
theorem Qs(ha:PE X o ta)(b:PE X value tv)(e:dB value (ae (.Attribute o f sV)) pos.line X.env=pure aq):PS X (.Assign [.Attribute o f sV] value pos) (KZ X.K ta tv f):=by intro cq s σ H D I h;refine aiY (jQ (b cq s σ H _ I h) λu s1 ⟨y,H1,g,i,q⟩=>jQ (ha cq s1 σ H1 _ g q) λj s2 ⟨x,B,m,p,a,C,od,fs,ex,r,hd,c,n,l,v⟩=>?_) e;subst ex;obtain rfl:j=bA a:=p;exact ZG m r hd c n l i λs3 w z ne A=>⟨σ,_,A,v w z ne⟩
end
structure Far(X:Cx)(cq:List (aw×cE))(b:aw):Prop where
 s0:X.ig.heap.objs.size<=b
 lo:b≠X.env.locals
 ce:∀x c,X.env.cells.lookup x=ae c->c≠b
 pi:∀p∈X.pn++cq,p.1≠b
section
variable {X:Cx} {cq:List (aw×cE)} {σ:St} {H:Hp} {s:ao} {h':av}
theorem Inv.Wj(I:Inv X cq σ H s)(a:s.heap.objs.size<=b):Far X cq b:=by
 refine⟨bi I.NS a,λz=>?_,λx c e z=>?_,λp g z=>?_⟩
 .obtain⟨m,⟨o,es,h,f,_⟩,_⟩:=I.loc;have:=aB f;rw[<-z] at this;exact absurd (bp this a) (cS _)
 .obtain⟨v,o,f,_⟩:=I.cell x c e;have:=aB f;rw[z] at this;exact absurd (bp this a) (cS _)
 .have:=aB (I.pin p g).1;rw[z] at this;exact absurd (bp this a) (cS _)
theorem Inv.abk(I:Inv X cq σ H s)(g:∀b∈R,Far X cq b/\H b=am)(h:Left (rW X.stack) R s.heap h'):Inv X cq σ H {s with heap:=h',toks:=t'}:=by
 refine I.Bp rfl ⟨λb o e n c f=>(h b o e f).1 c,λb o e n c f=>(h b o e f).2,λb o e n f=>n,λb o e f=>?_,λb xs q=>q,λb o u q=>q,λb i q=>⟨#[],by rw[q];simp⟩⟩ (λa o e=>?_) I.bare λb c=>⟨.inr (g b c).1.s0,(g b c).1.lo,(g b c).1.ce,(g b c).1.pi⟩
 .obtain⟨sl,q⟩:=(h b o e f).2;exact⟨_,q⟩
 .refine(I.iz a o e).sQ (λb u c q=>?_) (λ_ q=>q) λ_ _ q=>q;have hn:H b≠am:=by
   rcases c with rfl|c
   .rw[e];exactλz=>by cases z
   .rw[c];exactλz=>by cases z
  exact(h b u q λz=>hn (g b z).2).1 λz=>hn (I.frN z)
theorem Inv.abl(I:Inv X cq σ H s)(g:H x=am)(Wj:Far X cq x)(ok:jd X.prog X.w (upd H x o) s.heap x o):Inv X cq σ (upd H x o) s:=by
 have a:∀b u,H b=ae u->upd H x o b=ae u:=λb u e=>by rw[gM λz=>by rw[z,g] at e;cases e];exact e
 have h:=cR Wj.s0;refine⟨I.ok,I.os,I.bare,⟨I.cv.keep,I.cv.slot,λb ob q n i=>?_,I.cv.there,λb xs q=>a b _ (I.cv.uO b xs q),λb ob u q=>a b _ (I.cv.rA b ob u q),λb j q=>?_⟩,I.loc,I.cell,?_,λy c e=>?_,λp f=>?_,λb u q=>?_,I.len⟩
 .rw[gM λz=>by rw[z,h] at q;cases q];exact I.cv.free b ob q n i
 .obtain⟨m,e⟩:=I.cv.sR b j q;exact⟨m,a b _ e⟩
 .rw[gM (bV Wj.lo)];exact I.free
 .rw[gM (Wj.ce y c e)];exact I.lZ y c e
 .obtain⟨A,B,C⟩:=I.pin p f;exact⟨A,by rw[gM (Wj.pi p f)];exact B,C⟩
 .by_cases z:b=x
  .subst z;rw[gS] at q;cases q;exact ok
  .rw[gM z] at q;exact(I.iz b u q).sQ (λc v _ r=>r) (λc r=>a c _ r) (λc xs r=>a c _ r)
abbrev Cx.Jw(X:Cx)(e:ai):Cx:={X with A:=X.A.mark (ae e),calm:=aq,xe:=λ_ _=>False}
theorem Inv.Jw(I:Inv X cq σ H s)(e:ai):Inv (X.Jw e) cq σ H s:=
 ⟨⟨I.ok.mod,I.ok.kind,I.ok.glob,I.ok.blt,I.ok.above,I.ok.inj,I.ok.has,I.ok.cab,(λz=>by cases z),I.ok.frames,I.ok.stk,I.ok.exf,I.ok.bs,I.ok.Rq,I.ok.JD,I.ok.Mx,I.ok.xg,I.ok.T8⟩,I.os,I.bare,I.cv,I.loc,I.cell,I.free,I.lZ,I.pin,I.iz,I.len⟩
theorem Inv.Qt(ok:X.Ok)(I:Inv (X.Jw e) cq σ H s):Inv X cq σ H s:=⟨ok,I.os,I.bare,I.cv,I.loc,I.cell,I.free,I.lZ,I.pin,I.iz,I.len⟩
theorem zk(I:Inv X cq σ H s)(J:X.N.Nodup)(hi:X.N[i]?=ae n)(L:X.env.kindOf n=ae .local)
(h:∀B,Inv X cq (σ.set i am) H B->Q () B):wpAny (model X.prog X.w) A (do bindName X.env n .none;unbindBehindTheSuite X.env n pos) Q E s:=by
 obtain⟨m,hn,M⟩:=id I.loc;have T9:=I.T9;refine wpAny_nameGoes_keeps L hn (by rw[I.ok.kind];rfl) λh' v O a=>h _ ?_;have r:∀b o,X.ig.heap.get? b=ae o->h'.get? b=s.heap.get? b:=λb o e=>a.2 b (aO (bp (aB e) I.ok.above));refine⟨I.ok,I.os,I.bare,⟨λb o e n x f=>(r b o e).trans (I.cv.keep b o e n x f),λb o e n x f=>?_,I.cv.free,λb o e f=>?_,I.cv.uO,I.cv.rA,I.cv.sR⟩,⟨_,O,λj y T e1 e2 e3=>?_⟩,λy c e=>?_,I.free,I.lZ,λp U=>?_,λb u e=>?_,by simpa using I.len⟩
 .obtain⟨sl,e1⟩:=I.cv.slot b o e n x f;exact⟨sl,(r b o e).trans e1⟩
 .obtain⟨Y,e1⟩:=I.cv.there b o e f;exact⟨Y,(r b o e).trans e1⟩
 .have C:j≠i:=λz=>by subst z;rw[List.getElem?_set] at e2;rw[if_pos rfl] at e2;split at e2<;>cases e2
  rw[bx (bV C)] at e2;obtain⟨u',r',q⟩:=M j y T e1 e2 e3;refine⟨u',r',?_⟩;rcases q with⟨k,e⟩|⟨k,c,e,z⟩
  .refine .inl ⟨k,?_⟩;have:y≠n:=λe=>C (CV J e1 (e▸hi));simp[this,e]
  .exact .inr ⟨k,c,e,z.sameBut a (T9 y c e)⟩
 .obtain⟨G,z⟩:=I.cell y c e;exact⟨G,z.sameBut a (T9 y c e)⟩
 .obtain⟨e,n,ne,nf,d⟩:=I.pin p U;exact⟨(a.2 p.1 ne).trans e,n,ne,nf,d⟩
 .refine(I.iz b u e).sQ (λc G g q=>(a.2 c ?_).trans q) (λ_ q=>q) λ_ _ q=>q
  rintro rfl
  rcases g with rfl|g
  .rw[I.free] at e;cases e
  .rw[I.free] at g;cases g
end
def XDD (H:Hp)(od:Option aw)(fs:List (aJ×V)):Prop:=match od with
 |none=>fs=[]
 |some a=>H a=ae (SH a fs)
noncomputable def hdH(H:Hp)(x C:aw)(od:Option aw)(fs:List (aJ×V)):Hp:=match od with
 |none=>upd H x (.xc C fs)
 |some a=>upd (upd H a (.own x)) x (.xc C fs)
theorem Inv.NV(I:Inv X cq σ H s)(f:H x=am)(Wj:Far X cq x)(hd:XDD H od fs)
(e:s.heap.get? x=ae b)(g:b.cls=.ref C)(h:b.dict=od)(i:b.data=.fields j):Inv X cq σ (hdH H x C od fs) s:=by
 cases od with
 |none=>
  refine I.abl f Wj ⟨b,j,e,g,i,.inl ⟨h,hd⟩⟩
 |some a=>
  have c:H a=ae _:=hd;have ne:a≠x:=λz=>by rw[z,f] at c;cases c
  obtain⟨⟨m,n,r,wi⟩,⟨o,p⟩,_⟩:=(I.iz a _ c);have q:∀o u,X.ik a≠ae _:=λo u z=>by have:=I.cv.rA a o u z;rw[c] at this;cases this
  have v:=I.ghost (w':=.own x) c (λ_ z=>by cases z) (λ_ z=>by cases z) (λ_ z=>by cases z) q ⟨o,p⟩;refine v.abl (by rw[gM (bV ne)];exact f) Wj ⟨b,j,e,g,i,.inr ⟨a,m,h,ne,?_,n,r⟩⟩;rw[gM ne,gS]
structure SJ(K:bz)(C B:aw):Prop where
 c:∃nm q N bs bm nD sn sub ab col dd k0 k1 k2 k3 k5,K.lookup C=ae (fD nm q C N bs bm nD sn sub ab col dd k0 k1 k2 k3 k5 "ValueError.__new__")/\(bA C::bm).contains (.ref B)=aj
 b:∃nm q N bs bm nD sn sub ab col dd k0 k1 k2 k3 k5,K.lookup B=ae (fD nm q B N bs bm nD sn sub ab col dd k0 k1 k2 k3 k5 "ValueError.__new__")/\(bA B::bm).contains (.type "BaseException")=aj
section
variable {X:Cx} {cq:List (aw×cE)} {σ:St} {H:Hp} {s:ao} {A:bj} {E:ai->ao->Prop}
theorem NW(j:X.K.In s.heap)(U:s.heap.get? x=ae m)(n:m.cls=.ref C)(sub:SJ X.K C B)(h:Q aj s):wpAny (model X.prog X.w) A (excMatches (.ref x) (.ref B)) Q E s:=by
 obtain⟨nm,q,N,bs,Y,nD,sn,o,ab,col,dd,k0,k1,k2,k3,k5,e,g⟩:=sub.c;obtain⟨p,q',N',r,u,v,y,z,G,I,Yr,J,L,M,O,T,a,i⟩:=sub.b;have e:=j _ _ e;have a:=j _ _ a;have f:=tc_notTuple;unfold excMatches;repeat (first|(with_reducible rw[n])|with_reducible refine ah6 a ?_|(with_reducible refine ahF a ?_;rw[i])|(with_reducible refine ahF e ?_;rw[g])|wp_step)
 exact h
theorem SK(I:Inv X cq σ H s)(r:Rec s.heap x C od T)(u:Far X cq T)(v:H T=am)(h:∀a,Inv X cq σ H a->Rec a.heap x C od T->Q () a):
  wpAny (model X.prog X.w) A (ajv (.ref x) am) Q E s:=by
 obtain⟨y,B,L,M,g,G,J,i,j,m,n,c,p⟩:=r;refine wpAny_setFlight_none g i j n c (de.mp p).1 (h _ (I.abk (λb f=>by cases bf.mp f;exact⟨u,v⟩) λb o e f=>?_) ?_)
 .have:b≠T:=λz=>f (by simp[z]);have q:=(bI s.heap (di (·.setIfInBounds 3 .none)) (bV this)).trans e;exact⟨λ_=>q,o.slots,q⟩
 .refine⟨y,B,_,_,(d8 _ _ _ _ (bV m)).trans g,G,J,i,j,m,ck _ n (cX (bZ c _)),bZ c _,by simp[(de.mp p).1]⟩
end
abbrev Cx.wp(X:Cx)(pn:List (aw×cE))(E:ai->ao->Prop):Cx:={X with pn:=pn,xe:=E}
section
variable {X:Cx} {cq JH:List (aw×cE)} {σ:St} {H:Hp} {s:ao} {E:ai->ao->Prop}
theorem Cx.Ok.wp(ok:X.Ok)(pn:List _)(E:ai->ao->Prop):(X.wp pn E).Ok:=
 ⟨ok.mod,ok.kind,ok.glob,ok.blt,ok.above,ok.inj,ok.has,ok.cab,ok.hd,ok.frames,ok.stk,ok.exf,ok.bs,ok.Rq,ok.JD,ok.Mx,ok.xg,ok.T8⟩
theorem Inv.wp(I:Inv X cq σ H s)(E:ai->ao->Prop):Inv (X.wp (X.pn++cq) E) [] σ H s:=
 ⟨I.ok.wp _ _,I.os,I.bare,I.cv,I.loc,I.cell,I.free,I.lZ,λp a=>I.pin p (by rw[ba] at a;exact a),I.iz,I.len⟩
theorem Inv.FH(ok:X.Ok)(I:Inv (X.wp (X.pn++cq) E) JH σ H s):Inv X cq σ H s:=
 ⟨ok,I.os,I.bare,I.cv,I.loc,I.cell,I.free,I.lZ,λp a=>I.pin p (bS _ a),I.iz,I.len⟩
theorem SP.FH(ok:X.Ok)(h:SP (X.wp (X.pn++cq) E) [] D f c):SP X cq D f c:=by
 cases f with
 |next=>obtain⟨a,b,I,q⟩:=h;exact⟨a,b,I.FH ok,q⟩
 |brk=>obtain⟨a,b,I,q⟩:=h;exact⟨a,b,I.FH ok,q⟩
 |cont=>obtain⟨a,b,I,q⟩:=h;exact⟨a,b,I.FH ok,q⟩
 |ret u=>obtain⟨v,a,b,I,r,q⟩:=h;exact⟨v,a,b,I.FH ok,r,q⟩
end
noncomputable def dE(i:Nat)(D:Ends):Ends:=⟨λσ H=>D.nx (σ.set i am) H,D.rt,λσ H=>D.bk (σ.set i am) H,λσ H=>D.ct (σ.set i am) H⟩
section
variable {X:Cx} {i:Nat} {n tn:aJ} {tp ac7 pos:eZ} {B:aw} {body:List cc} {Wk:cc} {K0:List cc} {tb:XK->TS} {th:TS}
end
section
variable {prog:aQ} {w:bw} {A:bj} {E:ai->ao->Prop} {s:ao} {K:bz} {x C:aw} {name:aJ} {v:ai} {ox:cE} {od:Option cE}
theorem ZI(X:K.In s.heap)(I:InstAt s.heap x ox C od)(a:findIn K (.ref C) "__getattribute__"=ae (ae (.builtin "BaseException.__getattribute__")))(b:findIn K (.ref C) "__getattr__"=ae am)
(g:subIn K (.ref C) (.type "BaseException")=ae aj)(i:findObj K C od name=ae (.value v))(j:handedIn v=aj)(h:Q v {s with toks:=s.toks+1}):wpAny (model prog w) A (aj4 (.ref x) name expr) Q E s:=by have FB:=PySem.F.attrBase_ValueError;have c:=I.type (M:=model prog w);have m:=looks_find (M:=model prog w) X I i;have f:Looks (model prog w) s.heap (hookBefore (.ref C)) am:=looks_hook X (by exact b);refine ag (wpAny_mkText (bv (ag (c _ _ _ _ (λ_ _ e=>e) (ag (looks_findIn X a _ _ _ _ (λ_ _ e=>e) ?_))))));dsimp only;refine ag (f _ _ _ _ (λ_ _ e=>e) (ag (dO (bv ?_))));unfold akq;rw[show(expr&&onTheHeap _)=aq from Bool.and_false _];unfold akJ;rw[FB.ga.bind];refine eF ?_;refine d9 FB.ga.plain PySem.F.entry_bexc_ga ?_;refine@check_slot (model prog w) _ _ _ _ "BaseException" "__getattribute__" (.ref x) _ [] _ (by decide+kernel) (by decide+kernel) (c.andThen (looks_subIn X g)) (PySem.F.args_bexc_ga (.ref x) (.str name s.toks)) ?_;refine ag (ak (ag (ak (ag (c.at (ag (m.at ?_)))))));refine ak ?_;show wpAny _ _ (handedOut v) _ _ _;rw[handedOut_of j];exact ak h
end
structure K1(K:bz)(C:aw):Prop where
 hd:hasDictIn K C=aj
 ga:findIn K (.ref C) "__getattribute__"=ae (ae (.builtin "BaseException.__getattribute__"))
 gh:findIn K (.ref C) "__getattr__"=ae am
 sb:subIn K (.ref C) (.type "BaseException")=ae aj
 cl:findIn K (.ref C) "__class__"=ae (ae (.builtin "object.__class__"))
 cg:specialIn K (.builtin "object.__class__") "__get__"=ae (ae (.builtin "getset_descriptor.__get__"))
 tk:takesIn K (.builtin "object.__class__")=ae aj
 ob:mroIn K C (.type "object")=ae aj
section
variable {prog:aQ} {w:bw} {A:bj} {E:ai->ao->Prop} {s:ao} {K:bz} {x C:aw} {ox:cE} {od:Option cE}
theorem SM(G:K1 K C)(X:K.In s.heap)(I:InstAt s.heap x ox C od)(h:Q (ae (.ref C)) {s with toks:=s.toks+1}):wpAny (model prog w) A (ajP (.ref x) "__class__") Q E s:=by
 have FB:=PySem.F.attrBase_ValueError;have c:findObj K C od "__class__"=ae (.bind (.builtin "getset_descriptor.__get__") (.builtin "object.__class__")):=by obtain⟨cd,f,_⟩:=any_some G.hd;unfold findObj;rw[f,ahQ,G.cl,ahQ];dsimp only;rw[G.cg,ahQ];dsimp only;rw[G.tk];rfl
 have a:=I.type (M:=model prog w);have i:=looks_find (M:=model prog w) X I c;have b:Looks (model prog w) s.heap (hookBefore (.ref C)) am:=looks_hook X (by rw[if_pos (by rfl)];exact G.gh);unfold ajP getAttrBy?;refine ag (wpAny_mkText (ag (dO ?_)));unfold getAttrBy;refine bv (ag (a _ _ _ _ (λ_ _ e=>e) (ag (looks_findIn X G.ga _ _ _ _ (λ_ _ e=>e) ?_))));dsimp only;refine ag (b _ _ _ _ (λ_ _ e=>e) (ag (dO (bv ?_))));unfold akq;rw[if_neg (by decide)];unfold akJ;rw[FB.ga.bind];refine eF ?_;refine d9 FB.ga.plain PySem.F.entry_bexc_ga ?_;refine@check_slot (model prog w) _ _ {s with toks:=s.toks+1} "BaseException.__getattribute__" "BaseException" "__getattribute__" (.ref x) [.str "__class__" s.toks] [] _ (by decide+kernel) (by decide+kernel) (a.andThen (looks_subIn X G.sb)) (PySem.F.args_bexc_ga (.ref x) (.str "__class__" s.toks)) ?_;obtain⟨j,g,d,t,os⟩:=s;refine ag (ak (ag (ak (ag (a.at (ag (i.at ?_)))))));refine ag (bv (eF (class_get (ox:=ox) (od:=od) X I G.ob ?_)));refine ak ?_;show wpAny _ _ (handedOut (.ref C)) _ _ _;rw[handedOut_of rfl];exact ak (ak h)
theorem Wl(G:K1 K C):KitX K (.ref x) (.ref C) (λh=>InstAt h x ox C od) where
 ty:=λ_ _ _ I=>I.type
 it:=λ_ _ X _=>by
  obtain⟨b,a,_⟩:=any_some G.hd;unfold clsIn at a;split at a
  .rename_i j m c f g;intro o p r u k q;exact ag (ajd (k _ _ (X _ _ g)) (ak q))
  .cases a
 ne:=λh v dd its n sl X i=>by
  obtain⟨b,a,_⟩:=any_some G.hd;refine Bool.eq_false_iff.mpr λq=>?_;have e:=bA.inj (beq_iff_eq.mp q);subst e;unfold clsIn at a;split at a
  .rename_i j m c f g;have z:=(X _ _ g).symm.trans i;cases z
  .cases a
 ca:=λX I k=>SM G X I k
end
section
variable {X:Cx} {cq:List (aw×cE)} {σ:St} {H:Hp} {s:ao} {o:bE} {ta:TE} {f:aJ} {pos:eZ}
theorem Inv.excAt(I:Inv X cq σ H s)(i:H a=ae (.xc C fs)):
  ∃j g,InstAt s.heap a j C g/\∀v,fs.lookup f=ae v->∃u d,g=ae d/\lookIn f d=ae (ae u)/\RelV v u:=by
 obtain⟨m,B,h,n,p,b⟩:=(I.iz a _ i);obtain⟨oc,odd,w,JQ⟩:=m;cases n;cases p;rcases b with⟨b,rfl⟩|⟨E,x,b,ne,G,y,r⟩
 .cases(b);exact⟨_,am,⟨h,rfl,rfl,trivial⟩,λv e=>by cases e⟩
 .cases(b);obtain⟨d,c,A⟩:=Ga y;refine⟨_,ae d,⟨h,rfl,rfl,c⟩,λv e=>?_⟩;have q:=r f;rw[e] at q;cases z:x f with
  |none=>rw[z] at q;exact q.elim
  |some u=>rw[z] at q;exact⟨u,d,rfl,by rw[A,z],q⟩
def afl (K:bz)(ta:TE)(f:aJ):TE:=λσ H Q=>ta σ H λx H1=>∃a C fs v,x=.ref a/\H1 a=ae (.xc C fs)/\K1 K C/\kY K C f/\fs.lookup f=ae v/\Q v H1
theorem ZJ(g:PE X o ta)(i:dz o f X.env (eval o X.env)=eval o X.env):PE X (.Attribute o f pos) (afl X.K ta f):=by intro cq s σ H Q I h;refine Pm i (jQ (g cq s σ H _ I h) λu s1 j=>?_);obtain⟨x,H1,b,m,a,C,fs,v,ex,n,G,na,p,q⟩:=j;subst ex;obtain rfl:u=bA a:=m;obtain⟨r,w,J,L⟩:=b.excAt n;obtain⟨u,d,rfl,c,e⟩:=L v p;exact ZI b.qE J G.ga G.gh G.sb (findObj_own G.hd na rfl c) (Gb e) ⟨v,H1,b.tk _,e,q⟩
theorem ZK(I:Inv X cq σ H s)(g:H a=ae (.xc C fs))(G:K1 X.K C)(e:kitOne X.K (.ref C) c=ae b)
(h:∀tk,Q (.bool b) {s with toks:=tk}):wpAny (model X.prog X.w) A (call (.builtin "isinstance") [.ref a,c]) Q E s:=by obtain⟨i,j,J,_⟩:=I.excAt (f:=("":aJ)) g;exact kia_one (Wl G) I.qE J e (λz=>nomatch z) h
end
abbrev XS:=St->XK
def wI (X:Cx)(E:XS):Prop:=∀(cq:List (aw×cE)) (σ:St) (H:Hp) (s:ao) (e:ai) (a:ao),Inv X cq σ H s->ZD X.prog X.w X.stack H s (E σ) e a->X.xe e a
section
variable {P:aQ} {w:bw} {K:bz} {mg:aJ->Option ai} {cv:av} {N:List aJ} {qual:aJ} {scope:dN} {f:aw} {cd:ai} {A:bj} {cP:List ah1} {ig:ao} {ik:Hp} {E:XK}
theorem Qu:wI (D9 P w K mg cv N qual scope f cd A cP ig ik E) λ_=>E:=λcq σ H s e a I h=>aff cq σ H s e a I h
end
section
variable {X:Cx} {k:Nat} {f C:aw} {fd:dY} {ps:List aJ} {sp:Sp} {E:XS} {x m:aJ} {p pos apos:eZ} {e o:bE} {es:List bE} {ta:TE} {t:TA}
theorem ZL(F:jR X.prog X.w X.K X.mg X.cv (ZD X.prog X.w) k f fd ps sp)(g:iV k X.A)(i:Binds X.K fd ps [])(j:wI X E)
(I:Inv X cq σ H s)(r:Vals b us)(h:sp b H Q (E σ)):wpAny (model X.prog X.w) X.A (call (.ref f) us) (EP X cq σ Q) X.xe s:=by
 have n:us.length=ps.length:=by rw[<-r.length];exact F.len _ _ _ _ h
 have c:=i s us I.qE (by rw[ba];exact n);rw[ba] at c;refine eF (c6 (F.run X.A X.stack s H _ us b Q (E σ) g I.Uv c r h) λr q a=>?_);cases r with
 |error e=>exact j cq σ H s e q I a
 |ok fl=>
  cases fl with
  |ret u=>exact I.after a
  |next=>exact cw a
  |brk=>exact cw a
  |cont=>exact cw a
def ac9 (sp:Sp)(E:XS)(t:TA):TE:=λσ H Q=>t σ H λa H1=>sp a H1 Q (E σ)
def zm (P:aQ)(w:bw)(K:bz)(mg:aJ->Option ai)(cv:av)(k:Nat)(x:aJ)(ps:List aJ)(sp:Sp):Prop:=
 ∃f fd,mg x=ae (.ref f)/\ef K (.ref f)=aj/\Binds K fd ps []/\jR P w K mg cv (ZD P w) k f fd ps sp
theorem ada(h:zm X.prog X.w X.K X.mg X.cv k x ps sp)(c:iV k X.A)(g:wI X E)(ha:PA X (e::es) t)(i:Gl X x:=by rfl)(j:(x==("__debug__":aJ))=aq:=by decide)
(n:aP (e::es) X.env=(aq,eval e X.env)::aP es X.env:=by rfl)(u:(c9 pos (aP es X.env)).any (·.1)=aq:=by rfl):
  PE X (.Call (.Name x p) (e::es) [] pos) (ac9 sp E t):=by obtain⟨f,fd,m,kp,b,F⟩:=h;intro cq s σ H Q I h;refine dQ (wB I i m ?_ j);refine W.callWith_K I.ok.mod.T6 kp (jQ (ha pos cq s σ H _ I h) λus s1 ⟨v,H1,a,r,q⟩=>⟨a.qE,?_⟩) n u;exact ZL F c b g a r q
end
section
variable {P:aQ} {w:bw} {K:bz} {mg:aJ->Option ai} {cv:av}
theorem zm.imp(h:zm P w K mg cv k x e sp)(i:∀c H Q E,a c H Q E->sp c H Q E):zm P w K mg cv k x e a:=by obtain⟨f,fd,m,kp,b,F⟩:=h;exact⟨f,fd,m,kp,b,F.imp i⟩
theorem hG.ag1{st:cc}(F:hG K mg x st)(c:iC st=body)(es:h9 st=scope)(S:gU N b scope)
(e:∀(kV doc pm:ai) (an:Option aw) (ip ct:ai) (us:List ai),us.length=b.length->dZ (ee x x (jJ st) (iC st) (h9 st) .none kV doc pm an ip ct) ⟨us,[]⟩=pure (b.zip us))
(len:∀a H Q E,sp a H Q E->a.length=b.length)
(g:∀(f:aw) (ip:ai) (A:bj) (cP:List ah1) (s:ao) (H:Hp) (a:List V) (Q:VK) (E:XK),iV k (A.deeper (eG x scope s.heap.objs.size f ip))->sp a H Q E->
   ∃t,yL (D9 P w K mg cv N x scope f ip A cP s H E) body t/\t {nx:=λ_ h=>Q .non h,rt:=Q} (start N a) H):zm P w K mg cv (k+1) x b sp:=by subst c es;obtain⟨f,fd,F,m⟩:=F;refine⟨f,fd,m,F.kp,F.binds e,?_⟩;obtain⟨oc,od,kV,doc,pm,an,ip,ct,JQ,rfl,lk,i⟩:=F.ex;exact Uy lk i S len λA cP s H a Q E j n=>g f ip A cP s H a Q E j n
end
def Iv (H:Hp)(od:Option aw):Prop:=∀a,od=ae a->∀q,H a≠ae (L2.yX a q)
def afm (K:bz)(i:Nat)(B:aw)(tb:XS->TS)(th:TS):TS:=λD σ H=>
 tb (λb C od a=>∃c fs,C=.ref c/\SJ K c B/\XDD a od fs/\∀x,a x=am->Iv a od->th (dE i D) (b.set i (ae (.ref x))) (hdH a x c od fs)) D σ H
theorem Inv.adb(I:Inv X cq σ H s)(h:XDD H od fs):Iv H od:=λa e q z=>by subst e;obtain⟨⟨j,i,_,_⟩,_⟩:=(I.iz a _ h);obtain⟨c,_⟩:=(I.iz a _ z);obtain⟨m,oc,n,t,e,b,f,_⟩:=c;cases e;obtain⟨o,es,p,g⟩:=i;rw[g.1] at b;cases b;rw[g.2.1] at f;cases f
section
variable {X:Cx} {i:Nat} {n tn:aJ} {tp ac7 pos:eZ} {B:aw} {body:List cc} {Wk:cc} {K0:List cc} {tb:XS->TS} {th:TS}
theorem ZM(js:X.stack=X.env::X.cP)(V7:X.env.frame=ae X.env.locals)(M:X.N.Nodup)(hi:X.N[i]?=ae n)(U:X.env.kindOf n=ae .local)(R3:Loc X.env.scope n)(hf:X.fn n=aj\/X.env.scope.names.lookup n=ae .local)
(hg:Gl X tn)(hm:X.mg tn=ae (.ref B))(sO:(tn==("__debug__":aJ))=aq)
(y:∀(pn:List (aw×cE)) (E':ai->ao->Prop) (Ex:XS),wI (X.wp pn E') Ex->yL (X.wp pn E') body (tb Ex))
(hh:∀e,yL (X.Jw e) (Wk::K0) th):
  PS X (.Try body [.ExceptHandler (ae (.Name tn tp)) (ae n) (Wk::K0) ac7] [] [] pos) (afm X.K i B tb th):=by
 intro cq s σ H D I h;refine wpAny_Try_except ?_;have len:=I.len;have g:=I.ok;refine cz (y (X.pn++cq) (λe iJ=>wpAny (model X.prog X.w) X.A (ajw e X.env) (λ_ C0=>wpAny (model X.prog X.w) X.A (ajv e am) (λ_ Ar=>wpAny (model X.prog X.w) X.A _ (SP X cq D) X.xe Ar) X.xe C0) X.xe iJ)
  (λL C od j=>∃c fs,C=.ref c/\SJ X.K c B/\XDD j od fs/\∀x,j x=am->Iv j od->th (dE i D) _ (hdH j x c od fs)) ?_ [] s σ H D (I.wp _) h) (λf s1 q=>?_) λe s1 q=>q
 .intro JH σ1 H1 s1 e s' I1 hc;obtain⟨x,C,od,j,T,rfl,ho,hgb,u,iz,hr,hx,hT,X3,X1,c,fs,rfl,sub,O,hth⟩:=hc;have Y:=I1.Bp (ch:=[]) ho u iz hgb (λb y=>by cases y);have Q:=I1.Wj hx;have fT:=I1.Wj hT;have ag2:X.A.frames=ae (X.env::X.cP):=by rw[<-js];exact g.frames
  have ag3:s'.heap.FunFrames X.cv (X.env::X.cP):=by rw[<-js];exact Y.stack
  refine GX ag2 ag3 V7 hr λh' T' Qg X2 hL=>?_;have hL':Left (rW X.stack) [x,T] s'.heap h':=by rw[js];exact hL
  have I3:=Y.abk (t':=s'.toks) (R:=[x,T]) (λb y=>by
   rcases aC.mp y with rfl|y
   .exact⟨Q,X3⟩
   .cases bf.mp y;exact⟨fT,X1⟩) hL'
  have m:=Y.Wj Qg;have ag4:j T'=am:=Y.iz.fresh Qg;have J:=I3.FH g;have gx:Far X cq x:=⟨Q.s0,Q.lo,Q.ce,λp hp=>Q.pi p (bS _ hp)⟩;have gT:Far X cq T':=⟨m.s0,m.lo,m.ce,λp hp=>m.pi p (bS _ hp)⟩;have X2:=X2;have J':=J.Jw (.ref x);refine wpAny_handleBy_cons (codeAny_handlers_test (wB (X:=X.Jw (.ref x)) J' hg hm ?_ sO)) (by intro q;cases q);have hr0:=X2;obtain⟨oe,vs,oT,ts,he,hc1,Yu,_⟩:=hr0;refine NW (X:=X) J.qE he hc1 sub ?_;refine codeAny_handlers_suite_as (SK (X:=X) J X2 gT ag4 λs4 J4 r4=>?_);refine Ap (X:=X) J4 M hi R3 (v:=.ref x) rfl (λs5 J5 ⟨a,hs,ha⟩=>?_) hf;have hxa:x≠a:=by
   rcases ha with rfl|ha
   .exact gx.lo
   .exact bV (gx.ce _ a ha)
  have J6:Inv X cq (σ1.set i (ae (.ref x))) (hdH j x c od fs) s5:=by obtain⟨oe,vs,_,_,e,h1,h2,h3,_⟩:=r4;exact J5.NV X3 gx O ((hs.2 x hxa).trans e) h1 h2 h3
  refine cz (hh (.ref x) cq s5 _ _ (dE i D) (J6.Jw _) (hth x X3 (J.adb O))) (λf s6 q=>?_) λ_ _ z=>z.elim;cases f with
  |next=>obtain⟨L,E,o,q⟩:=q;exact zk (o.Qt g) M hi U λs7 G=>⟨_,E,G,q⟩
  |brk=>obtain⟨L,E,o,q⟩:=q;exact zk (o.Qt g) M hi U λs7 G=>⟨_,E,G,q⟩
  |cont=>obtain⟨L,E,o,q⟩:=q;exact zk (o.Qt g) M hi U λs7 G=>⟨_,E,G,q⟩
  |ret u=>obtain⟨v,L,E,o,r,q⟩:=q;exact zk (o.Qt g) M hi U λs7 G=>⟨v,_,E,G,r,q⟩
 .cases f with
  |next=>
   obtain⟨L,j,o,q⟩:=q;exact aiv ⟨L,j,o.FH g,q⟩
  |brk=>exact SP.FH (f:=.brk) g q
  |cont=>exact SP.FH (f:=.cont) g q
  |ret u=>exact SP.FH (f:=.ret u) g q
end
end L2
namespace L3
open L2
structure EX where
 C:aw
 ns:List aJ
 ds:List D
abbrev GY:=EX->oM->Ms->Prop
def GY.le(x y:GY):Prop:=∀e a M,x e a M->y e a M
theorem GY.rfl(x:GY):x.le x:=λ_ _ _ h=>h
abbrev xK(K:bz)(F α:List aw)(H:Hp)(M:Ms)(E:XS):GY:=λx g c=>∀e b a od f,Ext F α H M b a c->R K F b a e g c->x.ns.length=x.ds.length->XDD a od (x.ns.zip f)->gL K b (ja F b c a) x.ds f->E e (.ref x.C) od a
theorem xK.grow{K:bz}(e:Ext F α H M a b c):GY.le (xK K F α H M E) (xK K F a b c E):=λx m n h f g i od j e2=>h f g i od j (e.trans e2)
abbrev XE:=GY->DE
abbrev XA:=GY->DA
abbrev XB:=GY->DS
def lEX (K:bz)(E:XS)(t:XE):TE:=λσ H Q=>∃F α a M,R K F α H σ a M/\t (xK K F α H M E) a M (vK K F α H M Q)
def lAX (K:bz)(E:XS)(t:XA):TA:=λσ H Q=>∃F α a M,R K F α H σ a M/\t (xK K F α H M E) a M (aK K F α H M Q)
def lSX (K:bz)(E:XS)(t:XB):TS:=λD σ H=>∃F α a M,R K F α H σ a M/\t (xK K F α H M E) (uI K F α H M D) a M
structure JEX(X:Cx)(E:XS)(e:bE)(t:XE):Prop where
 mono:∀(x y:GY) δ M (P Q:DK),x.le y->(∀d M,P d M->Q d M)->t x δ M P->t y δ M Q
 p:PE X e (lEX X.K E t)
structure JAX(X:Cx)(E:XS)(es:List bE)(t:XA):Prop where
 mono:∀(x y:GY) δ M (P Q:List D->Ms->Prop),x.le y->(∀d M,P d M->Q d M)->t x δ M P->t y δ M Q
 p:PA X es (lAX X.K E t)
structure X6(X:Cx)(E:XS)(st:cc)(t:XB):Prop where
 mono:∀(x y:GY) (P Q:om) δ M,x.le y->P.le Q->t x P δ M->t y Q δ M
 p:PS X st (lSX X.K E t)
structure X7(X:Cx)(E:XS)(st:List cc)(t:XB):Prop where
 mono:∀(x y:GY) (P Q:om) δ M,x.le y->P.le Q->t x P δ M->t y Q δ M
 p:yL X st (lSX X.K E t)
section
variable {X:Cx} {E:XS} {c e:bE} {te:XE} {tt:XA} {tA:DT} {t u:XB} {pos p p2:eZ} {x:aJ} {st:cc} {XW as bs:List cc} {es:List bE}
theorem JA.Iw{t:DA}(h:JA X es t):JAX X E es λ_=>t:=⟨λx y a M P Q _ w q=>h.mono _ _ _ _ w q,h.p⟩
theorem JS.Iw{t:DS}(h:JS X st t):X6 X E st λ_=>t:=⟨λx y P Q a M _ w q=>h.mono _ _ _ _ w q,h.p⟩
theorem FD.Iw{t:DS}(h:FD X XW t):X7 X E XW λ_=>t:=⟨λx y P Q a M _ w q=>h.mono _ _ _ _ w q,h.p⟩
abbrev K2:=List D->(D->Prop)->(EX->Prop)->Prop
abbrev BI(g:K2):Prop:=∀ds (P Q:D->Prop) (x y:EX->Prop),(∀d,P d->Q d)->(∀e,x e->y e)->g ds P x->g ds Q y
abbrev yK(K:bz)(F α:List aw)(H:Hp)(M:Ms)(E:XK):EX->Prop:=λx=>∀a od b,Ext F α H M α a M->OK K F α a M->x.ns.length=x.ds.length->XDD a od (x.ns.zip b)->gL K α (ja F α M a) x.ds b->E (.ref x.C) od a
def FI (K:bz)(g:K2):Sp:=λa H Q E=>∃F α M ds,OK K F α H M/\gL K α (ja F α M H) ds a/\lu ds=aj/\g ds (λd=>vK K F α H M Q d M) (yK K F α H M E)
structure sr(P:aQ)(w:bw)(K:bz)(mg:aJ->Option ai)(cv:av)(k:Nat)(x:aJ)(ps:List aJ)(g:K2):Prop where
 mono:BI g
 p:zm P w K mg cv k x ps (FI K g)
def dCX (g:K2)(tt:XA):XE:=λx a M Q=>tt x a M λds M1=>lu ds=aj/\g ds (λd=>Q d M1) λe=>x e a M1
theorem GZ(h:sr X.prog X.w X.K X.mg X.cv k x G g)(b:iV k X.A)(f:wI X E)(ha:JAX X E (e::es) tt)(m:Gl X x:=by rfl)(n:(x==("__debug__":aJ))=aq:=by decide)
(o:aP (e::es) X.env=(aq,eval e X.env)::aP es X.env:=by rfl)(s:(c9 pos (aP es X.env)).any (·.1)=aq:=by rfl):JEX X E (.Call (.Name x p) (e::es) [] pos) (dCX g tt):=by refine⟨λx y a M P Q v w q=>ha.mono _ _ a _ _ _ v (λds M1 q=>⟨q.1,h.mono _ _ _ _ _ (λd q=>w _ _ q) (λe q=>v _ _ _ q) q.2⟩) q,PE.weak (ada h.p b f ha.p m n o s) λσ H Q q=>?_⟩;obtain⟨F,α,a,M,r,q⟩:=q;refine⟨F,α,a,M,r,ha.mono _ _ a _ _ _ (GY.rfl _) (λds M1 q I i H1 e1 j z=>?_) q⟩;exact⟨F,i,M1,ds,j,z,q.1,h.mono _ _ _ _ _ (λd q=>vK.grow e1 _ _ q) (λex q B od ws e2 C l f b=>q σ i B od ws (e1.trans e2) ((r.grow e1 j).grow e2 C) l f b) q.2⟩
def Ea (t u:XB):XB:=λx=>ib (t x) (u x)
theorem nW(h:X6 X E st t):X7 X E [st] t:=⟨h.mono,Ht h.p⟩
theorem l8(a:X6 X E st t)(b:X7 X E XW u):X7 X E (st::XW) (Ea t u):=by refine⟨λx y P Q f M v w q=>a.mono _ _ {P with nx:=u x P} _ _ _ v ⟨λf M q=>b.mono _ _ _ _ _ _ v w q,w.rt,w.bk,w.ct⟩ q,yL.weak (yM a.p b.p) λD σ H q=>?_⟩;obtain⟨F,α,f,M,r,q⟩:=q;refine⟨F,α,f,M,r,a.mono _ _ _ _ _ _ (GY.rfl _) ?_ q⟩;exact⟨λg M1 q h i H1 e1 j=>⟨F,i,g,M1,j,b.mono _ _ _ _ _ _ (xK.grow e1) (uI.grow e1) q⟩,λ_ _ q=>q,λ_ _ q=>q,λ_ _ q=>q⟩
def afn (te:XE):XB:=λx=>iA (te x)
theorem ZN(b:JEX X E e te):X6 X E (.Return (ae e) pos) (afn te):=
 ⟨λx y P Q a M v w q=>b.mono _ _ a _ _ _ v w.rt q,PS.weak (Uf b.p) λD σ H ⟨F,α,a,M,r,q⟩=>⟨F,α,a,M,r,q⟩⟩
def xIf (c:DT)(t u:XB):XB:=λx=>i7 c (t x) (u x)
theorem Wm(f:JT X c tA)(ha:X7 X E as t)(g:X7 X E bs u):X6 X E (.If c as bs pos) (xIf tA t u):=by
 refine⟨λx y P Q a M v w q=>f.mono a _ _ _ (λb M1 q=>?_) q,PS.weak (aaL f.p ha.p g.p) λD σ H q=>?_⟩
 .cases b with
  |true=>exact ha.mono _ _ _ _ _ _ v w q
  |false=>exact g.mono _ _ _ _ _ _ v w q
 .obtain⟨F,α,a,M,r,q⟩:=q;refine⟨F,α,a,M,r,f.mono a _ _ _ (λb M1 q h H1 e1 i=>?_) q⟩;cases b with
  |true=>
   exact⟨F,h,a,M1,r.grow e1 i,ha.mono _ _ _ _ _ _ (xK.grow e1) (uI.grow e1) q⟩
  |false=>
   exact⟨F,h,a,M1,r.grow e1 i,g.mono _ _ _ _ _ _ (xK.grow e1) (uI.grow e1) q⟩
def abm (te:XE):XB:=λx=>mP (te x)
theorem Wn(b:JEX X E e te)(f:dB e am pos.line X.env=pure aq:=by rfl):X6 X E (.Expr e pos) (abm te):=by refine⟨λx y P Q a M v w q=>b.mono _ _ a _ _ _ v (λd M1 q=>w.nx _ _ q) q,PS.weak (Hu b.p f) λD σ H q=>?_⟩;obtain⟨F,α,a,M,r,q⟩:=q;exact⟨F,α,a,M,r,b.mono _ _ a _ _ _ (GY.rfl _) (λd M1 q v g H1 e1 h i=>q σ g H1 e1 (r.grow e1 h)) q⟩
def ZO (i:Nat)(te:XE):XB:=λx=>iO i (te x)
theorem Ix(i:Nat)(f:X.N.Nodup)(b:JEX X E e te)(hi:X.N[i]?=ae x:=by rfl)(g:Loc X.env.scope x:=by first|exact fF rfl|exact eK rfl)(h:dB e (ae (.Name x p)) pos.line X.env=pure aq:=by rfl)
(j:X.fn x=aj\/X.env.scope.names.lookup x=ae .local:=by first|exact .inl rfl|exact .inr rfl|assumption):X6 X E (.Assign [.Name x p] e pos) (ZO i te):=by refine⟨λx y P Q a M v w q=>b.mono _ _ a _ _ _ v (λd M1 q=>w.nx _ _ q) q,PS.weak (Uj f hi g b.p h j) λD σ H q=>?_⟩;obtain⟨F,α,a,M,r,q⟩:=q;exact⟨F,α,a,M,r,b.mono _ _ a _ _ _ (GY.rfl _) (λd M1 q v m H1 e1 n o=>q _ m H1 e1 ((r.grow e1 n).set o)) q⟩
def afo (te:XE)(g:DG):XB:=λx=>UV (te x) g
theorem ZP(b:JEX X E e te)(f:JG X tg g)(h:ajm [tg] e pos.line X.env=pure aq:=by rfl)(hw:ajn [tg] e X.env=pure am:=by rfl)
(i:(cT [tg] X.env).map (·.2)=[assign tg X.env]:=by rfl):X6 X E (.Assign [tg] e pos) (afo te g):=by refine⟨λx y P Q a M v w q=>b.mono _ _ a _ _ _ v (λd M1 q=>f.mono _ _ _ _ _ w.nx q) q,PS.weak (Ui b.p f.p h hw i) λD σ H q=>?_⟩;obtain⟨F,α,a,M,r,q⟩:=q;refine⟨F,α,a,M,r,b.mono _ _ a _ _ _ (GY.rfl _) (λd M1 q v j H1 e1 m n=>?_) q⟩;exact⟨F,j,a,M1,d,r.grow e1 m,n,f.mono _ _ _ _ _ (sK.grow e1) q⟩
end
def zn (n m:Nat)(tb:XB):K2:=λds Q b=>ds.length=m/\tb (λe _ _=>lu e.ds=aj/\b e) ⟨λ_ _=>Q .non,λd a=>nl (fz a d)=aj/\Q (fz a d),λ_ _=>False,λ_ _=>False⟩ (pQ n ds) []
section
variable {P:aQ} {w:bw} {K:bz} {mg:aJ->Option ai} {cv:av}
theorem SN(b:∀(x y:GY) (P Q:om) a M,x.le y->P.le Q->tb x P a M->tb y Q a M):BI (zn n m tb):=λds P Q x y w v q=>⟨q.1,by
 refine b _ _ _ _ _ _ (λe _ _ q=>⟨q.1,v _ q.2⟩) ?_ q.2;exact⟨λ_ _ q=>w _ q,λ_ _ q=>⟨q.1,w _ q.2⟩,λ_ _ q=>q,λ_ _ q=>q⟩⟩
theorem ZQ{s:List aJ}(g:X7 X (λ_=>E) body tb)(u:X.K=K)(h:FI K (zn n.length s.length tb) f H Q E):
  ∃t,yL X body t/\t {nx:=λ_ b=>Q .non b,rt:=Q} (L2.start n f) H:=by
 subst u;obtain⟨F,α,M,ds,o,r,hn,I,q⟩:=h;have y:OK X.K _ [] H []:=⟨rfl,dh,λa ha=>⟨by simp,by
  rcases bd.mp ha with ha|ha
  .exact o.PB a ha
  .exact(o.fr a ha).2⟩,λa ha=>(by simp at ha),λk x h=>(by simp at h),o.tb⟩
 have z:gL X.K [] _ ds f:=gL.nl ds f hn r;refine⟨_,g.p,lv α M++F,[],pQ n.length ds,[],Ct y z,?_⟩;refine g.mono _ _ _ _ _ _ (λe J i ⟨nl,A⟩ B j b od ws ext C l xd G=>?ex) ?le q;case ex=>
  obtain⟨e1,c⟩:=mw o ext C.ok;exact A b od ws e1 c l xd (gL.nl _ _ nl (gL.mono (aS _) qJ _ _ G))
 case le=>
  refine⟨λL i q B j b e r=>?_,λd i q v j b e m r=>?_,λ_ _ q=>q.elim,λ_ _ q=>q.elim⟩
  .obtain⟨e1,c⟩:=mw o e r.ok;exact q _ α b e1 c tq
  .obtain⟨e1,c⟩:=mw o e m;exact q.2 v α b e1 c (Rep.nl _ _ q.1 (UX m d v r))
theorem K3(h:zm P w K mg cv k x b (FI K g))(m:BI a)(i:∀ds Q y,a ds Q y->g ds Q y):sr P w K mg cv k x b a:=
 ⟨m,h.imp λc H Q E ⟨F,α,M,ds,o,r,n,q⟩=>⟨F,α,M,ds,o,r,n,i _ _ _ q⟩⟩
end
noncomputable def ag5(v:V):Bool:=match v with|.int n=>decide (n.natAbs.log2<1920)&&decide ((toString n:aJ).length<=4000)|.str y=>decide (y.length<=4000)|_=>aq
def spI (C:aw)(ns:List aJ):Sp:=λb H Q _=>∃x ws,b=.ref x::ws/\ws.length=ns.length/\ws.all ag5=aj/\H x=ae (sk x C am)/\
 ∀a,H a=am->a≠x->Q .non (upd (upd H a (SH a (ns.zip ws))) x (sk x C (ae a)))
section
variable {P:aQ} {w:bw} {K:bz} {mg:aJ->Option ai} {cv:av} {N:List aJ} {qual:aJ} {scope:dN} {fn:aw} {cd:ai} {A:bj} {cP:List ah1} {ig:ao} {ik:Hp} {E:XK}
variable {k:Nat} {f C:aw} {fd:dY} {ps ns:List aJ} {x:aJ} {p pos jo:eZ} {e:bE} {es:List bE} {tt:DA}
structure af5(P:aQ)(w:bw)(K:bz)(mg:aJ->Option ai)(cv:av)(k:Nat)(x:aJ)(C:aw)(ns:List aJ):Prop where
 m:mg x=ae (.ref C)
 ok:∃f fd ps,XMk K C f/\Binds K fd ps []/\jR P w K mg cv rF k f fd ps (spI C ns)
end
section
variable {K:bz} {F α ia:List aw} {H H':Hp} {M M':Ms} {σ:L2.St} {δ:oM}
theorem R.unset(r:R K F α H σ δ M)(i:Nat):R K F α H (σ.set i am) (δ.set i am) M:=by
 refine⟨r.ok,by simp[r.len],λj d h=>?_⟩;by_cases a:j=i
 .subst a;by_cases b:j<δ.length
  .simp[b] at h
  .simp[b] at h
 .rw[bx (bV a)] at h |-;exact r.sl j d h
theorem OK.ghost(o:OK K F α H M)(g:H p=ae (.ext G))(m:∀q,H p≠ae (yX p q)):OK K F α (upd H p x) M/\Ext F α H M α (upd H p x) M:=by
 have n:uP (H p)=am:=by rw[g]
 have rW:∀a,uP (H a)≠am->upd H p x a=H a:=λa h=>gM λz=>by subst z;exact h n
 have i:jD (ja F α M H) (ja F α M (upd H p x)):=λb y q=>by obtain⟨z,j,s⟩:=pN q;exact ma q z (by rw[rW b (by rw[j,s];exactλz=>by cases z)];exact j)
 refine⟨⟨o.ml,o.nd,λa ha=>⟨(o.fr a ha).1,by rw[rW a (o.fr a ha).2];exact(o.fr a ha).2⟩,λa ha=>by rw[rW a (o.al a ha)];exact o.al a ha,λk y h=>?_,λy u c P e=>?_⟩,⟨aS _,i,λa ha=>rW a (o.fr a ha).2⟩⟩
 .obtain⟨a,e,r⟩:=o.own k y h;exact⟨a,e,r.mono (aS _) i (rW a r.uP)⟩
 .obtain⟨w,f,A,B⟩:=o.tb y u c P e;refine⟨w,by rw[gM λz=>by rw[z,g] at f;cases f];exact f,A,λpos v C=>?_⟩;obtain⟨E,e1,e2⟩:=B pos v C;exact⟨E,e1,by rw[gM λz=>by subst z;exact m _ e2];exact e2⟩
theorem OK.NV(o:OK K F α H M)(a:H x=am)(xd:XDD H od fs)(g:Iv H od):OK K F α (hdH H x c od fs) M/\Ext F α H M α (hdH H x c od fs) M/\ja F α M (hdH H x c od fs) x=ae (.xc c fs):=by
 have f:∀H1,kX _ (upd H1 x (.xc c fs)) x=ae _:=λH1=>jK (o.new a) gS rfl;cases od with
 |none=>
  obtain⟨b,e1⟩:=o.laid a;exact⟨b,e1,f _⟩
 |some e=>
  have hd:H e=ae _:=xd;obtain⟨b,e1⟩:=o.ghost (x:=.own x) hd (g e rfl);have ne:x≠e:=λz=>by rw[<-z,a] at hd;cases hd
  obtain⟨h,e2⟩:=b.laid (by rw[gM ne];exact a);exact⟨h,e1.trans e2,f _⟩
end
noncomputable def dEd(i:Nat)(E:om):om:=⟨λa M=>E.nx (a.set i am) M,E.rt,λa M=>E.bk (a.set i am) M,λa M=>E.ct (a.set i am) M⟩
def afp (K:bz)(i:Nat)(B:aw)(tb:XB)(th:DS):DS:=λE a M=>tb (λe b c=>SJ K e.C B/\th (dEd i E) (b.set i (ae (.exc e.C e.ns e.ds))) c) E a M
section
variable {X:Cx} {E:XS} {e:bE} {pos:eZ}
theorem adc(O:X.N.Nodup)(hm:X.mg j=ae (.ref B))
(v:∀(pn:List _) (h:ai->ao->Prop) (a:XS),wI (X.wp pn h) a->X7 (X.wp pn h) a body tb)
(y:∀e,FD (X.Jw e) (T::U) th)(hi:X.N[i]?=ae n:=by rfl)(Y:X.env.kindOf n=ae .local:=by rfl)(R3:Loc X.env.scope n:=by first|exact fF rfl|exact eK rfl)(hf:X.fn n=aj\/X.env.scope.names.lookup n=ae .local:=by first|exact .inl rfl|exact .inr rfl|assumption)
(hg:Gl X j:=by rfl)(sO:(j==("__debug__":aJ))=aq:=by decide)(js:X.stack=X.env::X.cP:=by rfl)(V7:X.env.frame=ae X.env.locals:=by rfl):
  JS X (.Try body [.ExceptHandler (ae (.Name j tp)) (ae n) (T::U) ac7] [] [] pos) (afp X.K i B tb th):=by
 have z:=(y .none).mono;have b:=(v [] (λ_ _=>True) (λ_ _ _ _=>False) λ_ _ _ _ _ _ _ _=>trivial).mono;refine⟨λP Q A M w q=>b _ _ _ _ _ _ (λe mG m q=>⟨q.1,z _ _ _ _ ?_ q.2⟩) w q,PS.weak (ZM (tb:=λa=>lSX X.K a tb) (th:=lS X.K th) js V7 O hi Y R3 hf hg hm sO (λpn h a hp=>(v pn h a hp).p) λe=>(y e).p) λD σ H q=>?_⟩
 .exact⟨λ_ _ q=>w.nx _ _ q,w.rt,λ_ _ q=>w.bk _ _ q,λ_ _ q=>w.ct _ _ q⟩
 .obtain⟨F,α,A,M,r,q⟩:=q;refine⟨F,α,A,M,r,b _ _ _ _ _ _ (λex mG m ⟨sub,q⟩ jl o H' od s e1 G l xd rp=>⟨ex.C,ex.ns.zip s,rfl,sub,xd,λx hx nc=>?_⟩) (om.le.refl _) q⟩;obtain⟨o2,e2,u⟩:=G.ok.NV hx xd nc;have rx:Rep X.K o (ja F o m (hdH H' x ex.C od (ex.ns.zip s))) (.exc ex.C ex.ns ex.ds) (.ref x):=by exact⟨x,s,rfl,u,l,e2.FA rp⟩
  refine⟨F,o,_,m,(G.grow e2 o2).set rx,z _ _ _ _ ?_ q⟩;have e12:=e1.trans e2;exact⟨λI J q L c f e3 g=>q _ c f (e12.trans e3) (g.unset i),vK.grow e12,λI J q L c f e3 g=>q _ c f (e12.trans e3) (g.unset i),λI J q L c f e3 g=>q _ c f (e12.trans e3) (g.unset i)⟩
end
abbrev FP:=aJ⊕Nat
def tFP:FP->TE
 |.inl c=>tC (.str c)
 |.inr i=>ac3 (Aq i)
def tJs:List FP->TJ
 |[]=>Wd
 |p::a=>AL (tFP p) (tJs a)
structure FPs(X:Cx)(es:List bE)(ps:List FP):Prop where
 p:PJ X es (tJs ps)
def tFs (K:bz):List aJ->Nat->TS
 |[],_=>λD σ H=>D.nx σ H
 |f::r,i=>Yc (KZ K (Aq 0) (Aq i) f) (tFs K r (i+1))
structure JFs(X:Cx)(XW:List cc)(ns:List aJ)(i:Nat):Prop where
 p:yL X XW (tFs X.K ns i)
section
variable {X:Cx} {es:List bE} {ps:List FP} {c x f:aJ} {j:Option aJ} {p pos sV:eZ} {i:Nat} {XW:List cc} {ns:List aJ}
end
noncomputable def cH(H:Hp)(x a C:aw)(l:List (aJ×V)):Hp:=upd (upd H a (SH a l)) x (sk x C (ae a))
theorem K4:∀{l:List _},f∉l.map (·.1)->nw f y l=l++[(f,y)]
 |[],_=>rfl
 | (g,v)::l,h=>by have a:g≠f:=λz=>h (by rw[z];simp);show(if g=f then _ else _)=_;rw[if_neg a,K4 λz=>h (by exact ay _ z)];rfl
theorem Eb{i:Nat}(h:a[i]?=ae v):(L2.start N a)[i]?=ae (ae v):=by unfold L2.start;have:=(ap.mp h).1;rw[aR (by simpa using this),bq,h];rfl
section
variable {P:aQ} {w:bw} {K:bz} {mg:aJ->Option ai} {cv:av}
noncomputable def Mz(n:Nat):FP->Bool
 |.inl c=>decide (c.length<=4000)
 |.inr i=>decide (1<=i)&&decide (i<=n)
end
theorem K5{K:bz}:∀(ns:List aJ) (ds:List D) (a:List V) (d:D),gL K α H ds a->(ns.zip ds).lookup f=ae d->∃v,(ns.zip a).lookup f=ae v/\Rep K α H d v
 |[],ds,a,d,r,h=>by cases h
 |n::ns,[],a,d,r,h=>by cases h
 |n::ns,x::ds,a,d,r,h=>by
  obtain⟨v,ws,rfl,b,c⟩:=r;rw[cI,dJ] at h |-;cases e:f==n with
  |true=>rw[e] at h;cases h;exact⟨v,rfl,b⟩
  |false=>rw[e] at h;exact K5 ns ds ws d c h
def Qv (K:bz)(f:aJ)(b:DE):DE:=λc M Q=>b c M λd M1=>match d with
 |.exc C ns ds=>K1 K C/\kY K C f/\∃a,(ns.zip ds).lookup f=ae a/\Q a M1
 |_=>False
section
variable {X:Cx} {o:bE} {te:DE} {f:aJ} {pos:eZ}
theorem NX(c:JE X o te)(m:dz o f X.env (eval o X.env)=eval o X.env:=by rfl):JE X (.Attribute o f pos) (Qv X.K f te):=by
 refine⟨λb M P Q w q=>c.mono b _ _ _ (λd M1 q=>?_) q,PE.weak (ZJ c.p m) λσ H Q q=>?_⟩
 .cases d<;>first|exact q.elim|skip
  obtain⟨e,g,j,h,i⟩:=q;exact⟨e,g,j,h,w _ _ i⟩
 .obtain⟨F,α,b,M,r,q⟩:=q;refine⟨F,α,b,M,r,c.mono b _ _ _ (λd M1 q v n H1 e1 s u=>?_) q⟩;cases d<;>first|exact q.elim|skip
  obtain⟨e,g,j,h,i⟩:=q;obtain⟨a,z,rfl,ha,l,rs⟩:=u;obtain⟨v,x,y⟩:=K5 _ _ _ _ rs h;exact⟨a,_,_,v,rfl,hW _ _ ha,e,g,x,i v n H1 e1 s y⟩
def ZR (K:bz):GN:=λds M Q=>match ds with
 |[.exc C ns es,.cls B]=>∃b,K1 K C/\dt K (.ref C) (.ref B)=ae b/\Q (.bl b) M
 |_=>False
theorem NY:JB X (.builtin "isinstance") (ZR X.K):=by
 refine⟨λds M P Q w q=>?_,λcq s σ H xs us Q I rs h=>?_⟩
 .match ds,q with
  |[.exc C ns es,.cls B],⟨b,e1,e2,q⟩=>exact⟨b,e1,e2,w _ _ q⟩
 .obtain⟨F,α,M,ds,o,c,h⟩:=h;match ds,h,c with
  |[.exc C ns es,.cls B],⟨b,e1,e2,q⟩,c=>
   obtain⟨v,u,e,g,i⟩:=BA c;subst e;subst i;obtain⟨a,r,rfl,ha,l,x⟩:=g;obtain⟨j,m,rfl,n,p⟩:=vals2 rs;obtain rfl:j=bA a:=n;obtain rfl:m=bA B:=p;exact ZK I (hW _ _ ha) e1 e2 λtk=>⟨.bl b,H,I.tok tk,rfl,vK.now o q iX⟩
end
end L3
namespace L2
inductive TC(ik:Hp)(P:Hp->Prop):Hp->Prop
 |cv {H:Hp}:P H->TC ik P H
 |B7 {H:Hp} {a:aw} {o:cE} {hU:List (Key×V)}:H a=ae (.qD o (.dK hU))->(∀o u,ik a≠ae (.qD o u))->TC ik P (upd H a (.dK hU))->TC ik P H
abbrev tcE(ik:Hp)(E:XK):XK:=λC od=>TC ik (E C od)
theorem TC.th(h:TH X (TC X.ik P) H):TC X.ik P H:=by
 rcases h with h|⟨a,o,b,e,n,h⟩
 .exact h
 .exact .B7 e n h
section
variable {P:aQ} {w:bw}
theorem Wo(h:ZD P w cP H s (tcE H E) e y):ZD P w cP H s E e y:=by
 obtain⟨x,C,od,U,T,rfl,A,B,u,iz,G,f,I,g,i,J⟩:=h;induction J with
 |cv h=>exact⟨x,C,od,_,T,rfl,A,B,u,iz,G,f,I,g,i,h⟩
 |@B7 H1 a o Y ha L _ M=>
  have j:∀b,H1 b=am->b≠a:=λb h z=>by rw[z,ha] at h;cases h
  refine M ⟨u.keep,u.slot,λb o q n f=>?_,u.there,λb xs q=>?_,λb o p q=>?_,λb N q=>?_⟩ (λb ob q=>?_) (by rw[gM (j _ g)];exact g) (by rw[gM (j _ i)];exact i)
  .have:=u.free b o q n f;rw[gM (j b this)];exact this
  .have:=u.uO b xs q;rw[gM λz=>by rw[z,ha] at this;cases this];exact this
  .have:=u.rA b o p q;rw[gM λz=>L o p (by rw[<-z];exact q)];exact this
  .obtain⟨m,e⟩:=u.sR b N q;exact⟨m,by rw[gM λz=>by rw[z,ha] at e;cases e];exact e⟩
  .by_cases z:b=a
   .subst z;rw[gS] at q;cases q;obtain⟨_,z,hd,O,r,ob,es,Q,e,c⟩:=(iz b _ ha);exact⟨z,hd,O,r,ob,es,Q,e,c⟩
   .rw[gM z] at q;refine(iz b ob q).sQ (λc v _ r=>r) (λc r=>?_) (λc xs r=>?_)
    .rw[gM λz=>by rw[z,ha] at r;cases r];exact r
    .rw[gM λz=>by rw[z,ha] at r;cases r];exact r
variable {K:bz} {mg:aJ->Option ai} {cv:av}
theorem jR.B7{sp a:Sp}(F:jR P w K mg cv (ZD P w) k f fd g a)(h:∀b H Q E,sp b H Q E->a b H Q (tcE H E)):jR P w K mg cv (ZD P w) k f fd g sp:=
 ⟨λb H Q E q=>F.len _ _ _ _ (h _ _ _ _ q),λA cP s H args us b Q E i j m r q=>c6 (F.run A cP s H args us b Q _ i j m r (h _ _ _ _ q)) λr n c=>by
  cases r with
  |error e=>exact Wo c
  |ok fl=>cases fl<;>exact c⟩
end
end L2
namespace L3
open L2
section
variable {P:aQ} {w:bw} {K:bz} {mg:aJ->Option ai} {cv:av}
theorem K6{st:cc}(F:hG K mg x st)(n:iC st=body)(es:h9 st=scope)(S:gU N a scope)
(p:∀(kV doc pm:ai) (an:Option aw) (ip ct:ai) (us:List ai),us.length=a.length->dZ (ee x x (jJ st) (iC st) (h9 st) .none kV doc pm an ip ct) ⟨us,[]⟩=pure (a.zip us))
(i:∀(f:aw) (ip:ai) (A:bj) (cP:List ah1) (s:ao) (H:Hp) (E:XK),iV k (A.deeper (eG x scope s.heap.objs.size f ip))->X7 (D9 P w K mg cv N x scope f ip A cP s H (tcE H E)) (λ_=>tcE H E) body tb):
  zm P w K mg cv (k+1) x a (FI K (zn N.length a.length tb)):=by
 have u:zm P w K mg cv (k+1) x a (λc H Q g=>∃E,g=tcE H E/\FI K (zn N.length a.length tb) c H Q E):=
  F.ag1 n es S p (λc H Q g ⟨E,_,F,α,M,ds,o,r,hn,v,q⟩=>by rw[<-gL.length _ _ r];exact v) λf ip A cP s H c Q g j ⟨E,e,F,α,M,ds,o,r,hn,q⟩=>by subst e;exact ZQ (i f ip A cP s H E j) rfl ⟨F,α,M,ds,o,r,hn,SN (i f ip A cP s H E j).mono _ _ _ _ _ (λ_ q=>q) (λex q y od ws e1 z l xd B=>.cv (q y od ws e1 z l xd B)) q⟩
 obtain⟨f,fd,m,kp,b,C⟩:=u;exact⟨f,fd,m,kp,b,C.B7 λc H Q E h=>⟨E,rfl,h⟩⟩
end
section
variable {X:Cx} {E:XS} {e:bE} {pos:eZ}
def afq (a:DI)(g:DG)(tb:XB):XB:=λx=>nr a g (tb x)
theorem AM{tb:XB}{st:Ms->Prop}(f:∀d a M (P Q:oM->Ms->Prop),(∀a M,P a M->Q a M)->g d a M P->g d a M Q)(h:∀(x y:GY) (P Q:om) a M,x.le y->P.le Q->tb x P a M->tb y Q a M)(v:x.le y)(w:P.le Q):∀xs a M,tF g (tb x) st P xs a M->tF g (tb y) st Q xs a M
 |[],a,M,q=>w.nx _ _ q
 |z::xs,a,M,q=>f _ _ _ _ _ (λi M1 q=>h x y {P with nx:=λc b=>st b/\tF g (tb x) st P xs c b,ct:=λc b=>st b/\tF g (tb x) st P xs c b,bk:=P.nx} _ _ _ v ⟨λc b q=>⟨q.1,AM f h v w xs c b q.2⟩,w.rt,w.nx,λc b q=>⟨q.1,AM f h v w xs c b q.2⟩⟩ q) q
theorem ZS(hi:JI X tg e ti)(hg:JG X tg g)(hb:X7 X E body tb)(hE:∀σ C od H,TH X (E σ C od) H->E σ C od H)(hp:aid (model X.prog X.w) X.A X.env X.xe)(hc:X.calm=aj:=by rfl)
(hs:∀x,dX e X.env x=pure x:=by intro _;rfl):X6 X E (.For tg e body [] pos) (afq ti g tb):=by
 refine⟨λx y P Q G M v w q=>hi.mono G _ _ _ (λitems st M1 q=>⟨q.1,AM hg.mono hb.mono v w _ _ _ q.2⟩) q,Dl (Ul hp hc hi.p hg.p hb.p hs) λD σ H q=>?_⟩;obtain⟨F,α,G,M,r,q⟩:=q;refine⟨F,α,G,M,r,hi.mono G _ _ _ (λitems st M1 q J il H1 Hf T e1 o1 z it=>?_) q⟩;obtain⟨s1,q⟩:=q;refine⟨λi m jl o=>m=items.length- i/\i<=items.length/\∃n O f,Ext F il Hf M1 n o f/\R X.K F n o jl O f/\st f/\tF g _ st _ (items.drop i) O f,⟨_,rfl,bC _,il,G,M1,Ext.refl,z.rs (r.grow e1 o1),s1,q⟩,?_⟩
 rintro i m jl o ⟨rfl,RP,n,O,f,e',B,s',U⟩
 by_cases Y:i<items.length
 .rw[dP Y] at U;refine .inr ⟨it.go i F n o f e'.pre e'.same B.ok s' Y,λJL I=>∃uS YQ M2,Ext F il Hf M1 uS I M2/\R X.K F uS I JL YQ M2/\st M2/\tF g _ st _ _ YQ M2,λJL I h=>⟨_,by omega,rfl,Y,h⟩,λx I y=>?_⟩;obtain⟨o2,e2,rx⟩:=it.yld i F n o f x I items[i] e'.pre e'.same B.ok s' (by simp[Y]) y;refine⟨F,n,O,f,items[i],B.grow e2 o2,rx,hg.mono _ _ _ _ _ (λUW M3 q3 Um Di H3 e3 r3=>⟨F,Di,UW,M3,r3,hb.mono _ _ _ _ _ _ ?ex ?le q3⟩) U⟩;case ex=>
   have xx:=(e'.trans e2).trans e3;intro ex L c s N a b od vs e4 j l xd rp;obtain⟨u,t2,t3⟩:=z.e a b c (xx.trans e4) j.ok;refine hE _ _ _ _ (z.h a b c _ (xx.trans e4) (s N a (T b) od vs (e1.trans u) (z.rt (xx.trans e4) j) l ?_ (gL.imp t3 _ _ rp)));cases od with
   |none=>exact xd
   |some dx=>exact z.k a b c dx _ (xx.trans e4) xd
  case le=>
   have xx:=(e'.trans e2).trans e3;refine⟨λL c s N a b e4 j=>⟨a,L,c,xx.trans e4,j,s⟩,λd c s v a b e4 o4 j=>?_,λL c s N a b e4 j=>?_,λL c s N a b e4 j=>⟨a,L,c,xx.trans e4,j,s⟩⟩
   .obtain⟨u,t2,t3⟩:=z.e a b c (xx.trans e4) o4;exact z.h a b c _ (xx.trans e4) (s v a (T b) (e1.trans u) t2 (t3 d v j))
   .obtain⟨u,_,_⟩:=z.e a b c (xx.trans e4) j.ok;exact z.h a b c _ (xx.trans e4) (s N a (T b) (e1.trans u) (z.rt (xx.trans e4) j))
 .have e:i=items.length:=by omega
  subst e;rw[List.drop_length] at U;obtain⟨u,_,_⟩:=z.e n o f e' B.ok;exact .inl ⟨it.stop F n o f e'.pre e'.same B.ok s',z.h n o f _ e' (U jl n (T o) (e1.trans u) (z.rt e' B))⟩
end
end L3
namespace L2
section
variable {M:Model} {A:bj} {E:ai->ao->Prop} {s:ao}
theorem Left.refl{S R:List aw}{h:av}:Left S R h h:=λb o e _=>⟨λ_=>e,o.slots,e⟩
end
section
variable {P:aQ} {w:bw} {K:bz} {mg:aJ->Option ai} {cv:av} {N:List aJ} {qual:aJ} {scope:dN} {f:aw} {cd:ai} {A:bj} {cP:List ah1} {ig:ao} {ik:Hp} {E:XK}
end
section
variable {X:Cx} {N:List aJ} {fr:List (Option Nat)} {scope:dN} {elt target iter:bE} {ifs:List bE} {wi:TI} {g:TG} {tt:TT} {te:TE} {pos:eZ} {Ex:XS}
end
section
variable {P:aQ} {w:bw} {K:bz} {mg:aJ->Option ai} {cv:av} {pM:List aJ} {qual:aJ} {jt:dN} {f:aw} {cd:ai} {A:bj} {cP:List ah1} {ig:ao} {ik:Hp} {E:XK}
variable {N:List aJ} {fr:List (Option Nat)} {scope:dN} {elt target iter:bE} {ifs:List bE} {wi:TI} {g:TG} {tt:TT} {te:TE} {pos:eZ}
end
end L2
namespace L3
open L2
section
variable {K:bz} {F α:List aw} {H:Hp} {M:Ms} {σ:L2.St} {δ:oM} {p:aw}
end
section
variable {X:Cx} {N:List aJ} {fr:List (Option Nat)} {scope:dN} {elt target iter:bE} {ifs:List bE} {ti:DI} {g:DG} {tt:DT} {te:XE} {pos:eZ} {E:XS}
end
section
variable {P:aQ} {w:bw} {K:bz} {mg:aJ->Option ai} {cv:av} {pM:List aJ} {qual:aJ} {jt:dN} {f:aw} {cd:ai} {A:bj} {cP:List ah1} {ig:ao} {ik:Hp} {E:XK}
variable {N:List aJ} {fr:List (Option Nat)} {scope:dN} {elt target iter:bE} {ifs:List bE} {ti:DI} {g:DG} {tt:DT} {te:XE} {pos:eZ}
end
end L3
namespace L2
open PySem.W PySem.Calls Builtin
section
variable {prog:aQ} {w:bw} {A:bj} {R:ai3->ao->Prop} {h:av} {g:Array aii} {d:ajI} {t:Nat} {os:akg}
variable {nm q:aJ} {C N f:aw} {bs bm bmB:List ai} {nD:Bool} {sn:List aJ} {sub:List ai} {ab:Bool} {col:Option Bool} {dd:Option aw} {k0 k1 k2 k3 k5:Option ai} {B newId AJ:String}
end
section
variable {prog:aQ} {w:bw} {A:bj} {E:ai->ao->Prop} {h:av} {g:Array aii} {d:ajI} {t:Nat} {os:akg}
variable {nm q:aJ} {C N x:aw} {bs bm bmB:List ai} {nD:Bool} {sn:List aJ} {sub:List ai} {ab:Bool} {col:Option Bool} {dd:Option aw} {k0 k1 k2 k3 k5:Option ai} {B newId AJ:String}
end
section
variable {X:Cx}
structure ahq(K:bz)(C:aw):Prop where
 x:NU K C
 call:W.specialIn K (.ref C) "__call__"=ae (ae (.builtin "type.__call__"))
 typ:W.instIn K (.ref C) (.type "type")=ae aj
 init:dr K (.ref C) "__init__"=ae (ae (.builtin "ValueError.__init__"))
 kp:ef K (.ref C)=aj
end
section
variable {P:aQ} {w:bw} {K:bz} {mg:aJ->Option ai} {cv:av} {N:List aJ} {qual:aJ} {scope:dN} {fn:aw} {cd:ai} {A:bj} {cP:List ah1} {ig:ao} {ik:Hp} {E:XK}
variable {C:aw} {x:aJ} {p pos jo:eZ} {e:bE} {t:TA}
end
end L2
namespace L3
open L2
section
variable {P:aQ} {w:bw} {K:bz} {mg:aJ->Option ai} {cv:av} {N:List aJ} {qual:aJ} {scope:dN} {fn:aw} {cd:ai} {A:bj} {cP:List ah1} {ig:ao} {ik:Hp} {E:XK}
variable {C:aw} {x:aJ} {p pos jo:eZ} {e:bE} {tt:DA}
end
abbrev N0:List ai:=[.type "ValueError",.type "Exception",.type "BaseException",.type "object"]
structure SO(K:bz)(C P:aw):Prop where
 hd:W.hasDictIn K C=aj
 po:KY K C
 so:W.subIn K (.ref C) (.type "object")=ae aj
 sa:dr K (.ref C) "__setattr__"=ae (ae (.builtin "object.__setattr__"))
 call:W.specialIn K (.ref C) "__call__"=ae (ae (.builtin "type.__call__"))
 typ:W.instIn K (.ref C) (.type "type")=ae aj
 kp:ef K (.ref C)=aj
 ga:dr K (.ref C) "__getattribute__"=ae (ae (.builtin "BaseException.__getattribute__"))
 gh:dr K (.ref C) "__getattr__"=ae am
 sb:W.subIn K (.ref C) (.type "BaseException")=ae aj
 cl:dr K (.ref C) "__class__"=ae (ae (.builtin "object.__class__"))
 cg:W.specialIn K (.builtin "object.__class__") "__get__"=ae (ae (.builtin "getset_descriptor.__get__"))
 tk:W.takesIn K (.builtin "object.__class__")=ae aj
 ob:W.mroIn K C (.type "object")=ae aj
 oc:∃nm q N bs bm nD sn sub ab col dd k0 k1 k2 k3 k5,K.lookup C=ae (fD nm q C N bs bm nD sn sub ab col dd k0 k1 k2 k3 k5 "ValueError.__new__")/\W.tailIn K N0 bm=aj/\(bA C::bm).contains (.ref P)=aj/\(bA C::bm).contains (.type "BaseException")=aj
theorem ade{K:bz}(l:K.lookup C=ae (fD nm q C N bs a e sn sub f col dd g k1 k2 k3 h "ValueError.__new__"))
(t:W.tailIn K N0 a=aj)(c:(bA C::a).contains (.ref P)=aj)(b:(bA C::a).contains (.type "BaseException")=aj):∃nm q N bs a e sn sub f col dd g k1 k2 k3 h,K.lookup C=ae (fD nm q C N bs a e sn sub f col dd g k1 k2 k3 h "ValueError.__new__")/\W.tailIn K N0 a=aj/\(bA C::a).contains (.ref P)=aj/\(bA C::a).contains (.type "BaseException")=aj:=
 ⟨_,_,_,_,_,_,_,_,_,_,_,_,_,_,_,_,l,t,c,b⟩
section
variable {K:bz} {C P:aw}
theorem SO.cls(h:SO K C P):We K C:=⟨h.hd,h.po,h.so,h.sa⟩
theorem SO.get(h:SO K C P):K1 K C:=⟨h.hd,h.ga,h.gh,h.sb,h.cl,h.cg,h.tk,h.ob⟩
theorem SO.obj(h:SO K C P):NU K C:=by obtain⟨nm,q,N,bs,a,b,sn,sub,c,col,dd,e,k1,k2,k3,f,l,t,_⟩:=h.oc;exact⟨nm,q,N,bs,a,b,sn,sub,c,col,dd,e,k1,k2,k3,f,l,λh X=>W.tail_of_in X t⟩
theorem SO.sub(h:SO K C P)(b:SO K P Q):SJ K C P:=by obtain⟨nm,q,N,bs,x,y,sn,sub,z,col,dd,A,k1,k2,k3,B,l,t,c,_⟩:=h.oc;obtain⟨a,E,G,e,f,g,i,j,m,n,H,o,p,r,s,u,v,I,J,w⟩:=b.oc;exact⟨⟨_,_,_,_,_,_,_,_,_,_,_,_,_,_,_,_,l,c⟩,⟨_,_,_,_,_,_,_,_,_,_,_,_,_,_,_,_,v,w⟩⟩
structure ExI(K:bz)(C f:aw)(q:aJ)(st:cc):Prop where
 init:dr K (.ref C) "__init__"=ae (ae (.ref f))
 ex:∃fd,uY K "__init__" q st f fd
 fn:W.isFn K (.ref f)=aj
theorem adf{st:cc}{kV doc pm ip ct:ai}(i:dr K (.ref C) "__init__"=ae (ae (.ref f)))(l:K.lookup f=ae ⟨oc,od,.func (ee "__init__" qual (jJ st) (iC st) (h9 st) .none kV doc pm an ip ct),JQ⟩)
(c:W.codeIn K ip qual=aj)(k:ef K (.ref f)=aj)(n:W.isFn K (.ref f)=aj):ExI K C f qual st:=⟨i,⟨_,MW l c k⟩,n⟩
theorem SO.mk_(h:SO K C P){st:cc}(i:ExI K C f q st):XMk K C f:=⟨h.obj,h.call,h.typ,i.init,i.fn,h.kp⟩
end
def abn (K:bz)(b:TE):TE:=λσ H Q=>b σ H λx H1=>∃(a:aw) (d:D) (α:List aw),x=.ref a/\Rep K α H1 d x/\pl d=aj/\bX.showable (toP d)=aj/\bX.hasDict (toP d)=aq/\(gz (toP d)).length<=aE/\(toP d).depth<=60/\Q (.str (gz (toP d))) H1
section
variable {X:Cx} {value:bE} {te:TE} {pos:eZ}
theorem ZT(b:iV k X.A)(h:PE X value te):PE X (.FormattedValue value (-1) am pos) (abn X.K te):=by intro cq s σ H Q I g;refine ajS (jQ (h cq s σ H _ I g) λv s1 i=>?_);obtain⟨x,H1,c,f,a,d,α,e1,j,m,n,o,p,w,q⟩:=i;subst e1;obtain⟨as,rd⟩:=Rep.reads c d _ v j f m;obtain rfl:v=bA a:=f;refine formatField_of_reads rd n (λz=>by rw[o] at z;cases z) b.gd (by have:=b.un;omega) (λ_ _ e=>e) (λy u tk r=>?_) p;exact⟨.str _,H1,c.kept r,⟨_,rfl⟩,q⟩
end
theorem zo:∀ss:List aJ,bX.showableAll (toPs (ss.map D.str))=aj
 |[]=>rfl
 |w::ss=>by show bX.showableAll (toPs (D.str w::ss.map D.str))=aj;unfold toPs;simp only [bX.showableAll,zo ss];rfl
theorem zp:∀ss:List aJ,bX.hasDictAll (toPs (ss.map D.str))=aq
 |[]=>rfl
 |w::ss=>by show bX.hasDictAll (toPs (D.str w::ss.map D.str))=aq;unfold toPs;simp only [bX.hasDictAll,zp ss];rfl
theorem xz:∀ss:List aJ,ah0 (toPs (ss.map D.str))<=1
 |[]=>bC _
 |w::ss=>by refine Nat.max_le.mpr ⟨?_,xz ss⟩;unfold toP;simp[gq]
abbrev sl(ss:List aJ):D:=.lst (ss.map .str)
theorem afr(ss:List aJ):bX.showable (toP (sl ss))=aj/\bX.hasDict (toP (sl ss))=aq/\(toP (sl ss)).depth<=60:=by
 unfold toP;refine⟨?_,?_,?_⟩
 .exact zo ss
 .exact zp ss
 .simp only [gq];have:=xz ss;omega
def spT (K:bz)(C:aw)(c e:aJ):Sp:=λf H Q _=>∃x w a ss,f=[.ref x,.str w,.ref a]/\w.length<=4000/\H a=ae (.lst (ss.map V.str))/\pl (sl ss)=aj/\(gz (toP (sl ss))).length<=4000/\H x=ae (sk x C am)/\
 ∀b l,H b=am->H l=am->l≠b->Q .non (cH (upd H l (.lst (ss.map V.str))) x b C [(c,.str w),(e,.ref l)])
abbrev tLs(i:Nat)(K:bz):TE:=tCB (λxs H Q=>∃p a,xs=[.ref p]/\(mo K H p a\/xr K H p a)/\∀l,H l=am->Q (.ref l) (upd H l (.lst a))) (Pn (Aq i) ab0)
abbrev abo(K:bz)(B:aw)(a b c e:aJ):TS:=Yc (aaK (Wf K B (tC (.ref B)) (Pn (Aq 0) (Pn (AL (tC (.str a)) (AL (ac3 (Aq 1)) (AL (tC (.str b)) (AL (abn K (Aq 2)) Wd))) aJ.empty) ab0)))) (Yc (KZ K (Aq 0) (Aq 1) c) (KZ K (Aq 0) (tLs 2 K) e))
theorem AN{K:bz}:∀ss:List aJ,gL K α H (ss.map D.str) (ss.map V.str)
 |[]=>by rfl
 |w::ss=>by exact⟨.str w,ss.map V.str,rfl,by rfl,AN ss⟩
section
variable {P:aQ} {w:bw} {K:bz} {mg:aJ->Option ai} {cv:av}
theorem ZU{x qual:aJ}{st:cc}{f:aw}{fd:dY}{N G:List aJ}{k:Nat}{body:List cc}{scope:dN}{C B:aw}{I J i p:aJ}(F:uY K x qual st f fd)(eb:iC st=body)(es:h9 st=scope)(S:gU N G scope)
(c:We K C)(co:NU K C)(XY:kY K C i)(XZ:kY K C p)(hf:i≠p)
(hJ:∀(ip:ai) (A:bj) (cP:List ah1) (s:ao) (H:Hp) (E:XK),iV k (A.deeper (eG qual scope s.heap.objs.size f ip))->yL (rC rF P w K mg cv N qual scope f ip A cP s H E).Fw body (abo K B I J i p))
(L:G.length=3:=by rfl)(hc1:I.length<=4000:=by decide)(Yu:J.length<=4000:=by decide):
  jR P w K mg cv rF (k+1) f fd G (spT K C i p):=by
 subst eb es;refine F.ok S (λvs H Q E ⟨x,w,a,ss,e,_⟩=>by rw[e,L];rfl) λip A cP s H vs Q E hr h=>⟨_,hJ ip A cP s H E hr,?_⟩;obtain⟨x,w,a,ss,rfl,hw,ha,hp,hz,M,q⟩:=h;have O:(L2.start N [V.ref x,.str w,.ref a])[0]?=ae (ae (.ref x)):=Eb rfl;have h1:(L2.start N [V.ref x,.str w,.ref a])[1]?=ae (ae (.str w)):=Eb rfl;have h2:(L2.start N [V.ref x,.str w,.ref a])[2]?=ae (ae (.ref a)):=Eb rfl;obtain⟨k1,k2,k3⟩:=afr ss;have zl:aE=16777216:=rfl;have u:∀a b:aJ,(a++b).length=a.length+b.length:=PySem.Str.length_append;have v:(aJ.empty).length=0:=rfl;have T:a≠x:=λz=>by rw[z,M] at ha;cases ha
 refine⟨rfl,.ref x,O,I,rfl,by rw[u,v];omega,.str w,h1,by omega,w,rfl,by simp only [u,v];omega,J,rfl,by simp only [u,v];omega,.ref a,h2,a,sl ss,[],rfl,?rep,hp,k1,k2,by omega,k3,_,rfl,by simp only [u,v];omega,by simp only [u,v];omega,x,C,am,_,rfl,M,co,?go⟩;case rep=>
  show Rep K [] H (.lst (ss.map .str)) _;unfold Rep;exact⟨a,_,rfl,ha,AN ss⟩
 case go=>
  refine⟨.str w,h1,.ref x,O,x,C,am,[],rfl,M,rfl,c,XY,by decide,λg m ne=>?_⟩;rcases m with m|⟨_,hd⟩
  .cases m
  have U:a≠g:=λz=>by rw[z,hd] at ha;cases ha
  have e1:upd (upd H g (SH g (nw i (.str w) []))) x (sk x C (ae g))=cH H x g C [(i,.str w)]:=rfl;show KZ K (Aq 0) (tLs 2 K) p _ _ (upd (upd H g (SH g (nw i (.str w) []))) x (sk x C (ae g)));rw[e1];have Y:cH H x g C [(i,.str w)] a=ae (.lst (ss.map V.str)):=by unfold cH;rw[gM T,gM U];exact ha
  refine⟨.ref a,h2,a,ss.map V.str,rfl,.inl (mo.of Y),λl j=>?_⟩;have y:l≠x:=λz=>by rw[z] at j;unfold cH at j;rw[gS] at j;cases j
  have nld:l≠g:=λz=>by rw[z] at j;unfold cH at j;rw[gM ne,gS] at j;cases j
  have RY:H l=am:=by unfold cH at j;rw[gM y,gM nld] at j;exact j
  refine⟨.ref x,O,x,C,ae g,[(i,.str w)],rfl,?_,⟨ne,?_⟩,c,XZ,show 1<1000 by decide,λdx' m ne'=>?_⟩
  .rw[gM (bV y)];unfold cH;rw[gS]
  .rw[gM (bV nld)];unfold cH;rw[gM ne,gS]
  .rcases m with m|⟨m,_⟩
   .cases m;have e2:upd (upd (upd (cH H x g C [(i,.str w)]) l (.lst (ss.map V.str))) g (SH g (nw p (.ref l) [(i,.str w)]))) x (sk x C (ae g))=cH (upd H l (.lst (ss.map V.str))) x g C [(i,.str w),(p,.ref l)]:=by
     rw[K4 (by simpa usingλz=>hf z.symm)];funext b;unfold cH;by_cases n:b=x
     .subst n;rw[gS,gS]
     .rw[gM n,gM n];by_cases o:b=g
      .subst o;rw[gS,gS];rfl
      .rw[gM o,gM o];by_cases r:b=l
       .subst r;rw[gS,gS]
       .rw[gM r,gM r,gM n,gM o]
    have z:=q g l hd RY nld;rw[<-e2] at z;exact z
   .cases m
end
def Qw (C:aw)(b c:aJ)(tt:DA):XB:=λx _ a M=>tt a M λds M1=>∃w ss,ds=[.str w,sl ss]/\w.length<=4000/\pl (sl ss)=aj/\(gz (toP (sl ss))).length<=4000/\x ⟨C,[b,c],[.str w,sl ss]⟩ a M1
section
variable {P:aQ} {w:bw} {K:bz} {mg:aJ->Option ai} {cv:av} {N:List aJ} {qual:aJ} {scope:dN} {fn:aw} {cd:ai} {A:bj} {cP:List ah1} {ig:ao} {ik:Hp} {E:XK}
variable {k:Nat} {f C:aw} {fd:dY} {ps ns:List aJ} {x f1 f2:aJ} {p pos jo:eZ} {e:bE} {es:List bE} {tt:DA}
structure Ec(P:aQ)(w:bw)(K:bz)(mg:aJ->Option ai)(cv:av)(k:Nat)(x:aJ)(C:aw)(f1 f2:aJ):Prop where
 m:mg x=ae (.ref C)
 ok:∃f fd ps,XMk K C f/\Binds K fd ps []/\jR P w K mg cv rF k f fd ps (spT K C f1 f2)
theorem adg{x a l:aw}(h:H x=am)(ne:a≠x)(nl:l≠x):X4 x (cH (upd (upd H x o) l L) x a C fs)=upd (upd H l L) a (SH a fs):=by
 funext b;unfold cH;by_cases c:b=x
 .subst c;rw[zj,gM (bV ne),gM (bV nl),h]
 .rw[Iu c,gM c];by_cases hd:b=a
  .subst hd;rw[gS,gS]
  .rw[gM hd,gM hd];by_cases g:b=l
   .subst g;rw[gS,gS]
   .rw[gM g,gM g,gM c]
theorem N2(h:Ec P w K mg cv k x C f1 f2)(Y:iV (k+1) (D9 P w K mg cv N qual scope fn cd A cP ig ik E).A)(ha:JA (D9 P w K mg cv N qual scope fn cd A cP ig ik E) (e::es) tt)(hg:Gl (D9 P w K mg cv N qual scope fn cd A cP ig ik E) x:=by rfl)
(sO:(x==("__debug__":aJ))=aq:=by decide)
(he:aP (e::es) (D9 P w K mg cv N qual scope fn cd A cP ig ik E).env=(aq,eval e (D9 P w K mg cv N qual scope fn cd A cP ig ik E).env)::aP es (D9 P w K mg cv N qual scope fn cd A cP ig ik E).env:=by rfl)
(qG:(c9 jo (aP es (D9 P w K mg cv N qual scope fn cd A cP ig ik E).env)).any (·.1)=aq:=by rfl):
  X6 (D9 P w K mg cv N qual scope fn cd A cP ig ik E) (λ_=>E) (.Raise (ae (.Call (.Name x p) (e::es) [] jo)) am pos) (Qw C f1 f2 tt):=by
 obtain⟨hm,f,fd,ps,M,hb,F⟩:=h;refine⟨λx y P Q B M v w q=>ha.mono B _ _ _ (λds M1 ⟨a,b,i,j,m,n,I⟩=>⟨a,b,i,j,m,n,v _ _ _ I⟩) q,PS.weak (Wi M F (λvs H Q Q' w ⟨x,u,a,ss,i,j,m,n,I,q6,q7⟩=>⟨x,u,a,ss,i,j,m,n,I,q6,λg l h1 h2 h3=>w _ _ (q7 g l h1 h2 h3)⟩) Y hb hg hm ha.p sO he qG) λD σ H q=>?_⟩;obtain⟨F,α,B,M,r,q⟩:=q;refine⟨F,α,B,M,r,ha.mono B _ _ _ (λds M1 q vs il H1 e1 J o=>?_) q⟩;obtain⟨u,ss,rfl,i,j,m,n⟩:=q;obtain⟨v1,vs1,rfl,L,o⟩:=o;obtain⟨v2,vs2,rfl,O,o⟩:=o;subst o;subst L;obtain⟨a,ys,rfl,ea,ry⟩:=O;have ey:=sj ry;subst ey;have c:=by have:=qJ a _ ea;exact hW a _ this
 refine⟨show 2<=aE by decide,λx T=>⟨x,u,a,ss,rfl,i,?_,j,m,gS,λg l G s ne=>⟨rfl,ae g,?_,?_⟩⟩⟩
 .rw[gM λz=>by rw[z,T] at c;cases c];exact c
 .unfold cH;rw[gS]
 .have nd:g≠x:=λz=>by rw[z,gS] at G;cases G
  have nl:l≠x:=λz=>by rw[z,gS] at s;cases s
  rw[gM nd] at G;rw[gM nl] at s;rw[adg T nd nl];obtain⟨U,e2⟩:=J.laid (x:=.lst _) s;obtain⟨o3,e3⟩:=U.laid (p:=g) (by rw[gM (bV ne)];exact G);have rl:=kZ J s (AN ss) e2;refine n σ il _ (ae g) [.str u,.ref l] ((e1.trans e2).trans e3) (((r.grow e1 J).grow e2 U).grow e3 o3) rfl gS ?_;refine⟨_,_,rfl,by unfold Rep;rfl,?_⟩;exact⟨_,_,rfl,e3.rep rl,by rfl⟩
end
section
variable {X:Cx}
theorem afs{b s x1 x2 Y f2 a c:aJ}{B:aw}{p C e apos u pos g h i j m n p3 p4 q7 q8 q9 E G o v H:eZ}{q r}{pl:Sem Bool}{k:Nat}(hr:iV k X.A)(hB:Qr X.K B)(hm:X.mg b=ae (.ref B))(ml:X.mg "list"=am)
(hg:Gl X b:=by rfl)(gl:Gl X "list":=by rfl)(sO:(b==("__debug__":aJ))=aq:=by decide)(w:X.N[0]?=ae s:=by rfl)(I:X.N[1]?=ae x1:=by rfl)(J:X.N[2]?=ae x2:=by rfl)
(x:T7 X.env.scope s:=by first|exact fF rfl|exact eK (fF rfl)|exact eK (eK rfl))(L:T7 X.env.scope x1:=by first|exact fF rfl|exact eK (fF rfl)|exact eK (eK rfl))(M:T7 X.env.scope x2:=by first|exact fF rfl|exact eK (fF rfl)|exact eK (eK rfl))
(y:(s==("__debug__":aJ))=aq:=by decide)(z:(s==("__classdict__":aJ))=aq:=by decide)(O:(x1==("__debug__":aJ))=aq:=by decide)(Q:(x1==("__classdict__":aJ))=aq:=by decide)(RE:(x2==("__debug__":aJ))=aq:=by decide)(T:(x2==("__classdict__":aJ))=aq:=by decide)
(ht:eval (.Call (.Attribute (.Name b p) "__init__" apos) [.Name s C,.JoinedStr [.Constant (.str a) q g,.FormattedValue (.Name x1 h) (-1) am i,.Constant (.str c) r j,.FormattedValue (.Name x2 m) (-1) am n] e] [] u) X.env=(do
   let ov<-eval (.Name b p) X.env
   ai9 apos.atName
   let(f,first)<-holding [ov] (ai0 ov "__init__" pl)
   akF u f first (c9 u (aP [.Name s C,.JoinedStr [.Constant (.str a) q g,.FormattedValue (.Name x1 h) (-1) am i,.Constant (.str c) r j,.FormattedValue (.Name x2 m) (-1) am n] e] X.env)) (aie u (eW [] X.env))):=by rfl)
(js:aP [.Name s C,.JoinedStr [.Constant (.str a) q g,.FormattedValue (.Name x1 h) (-1) am i,.Constant (.str c) r j,.FormattedValue (.Name x2 m) (-1) am n] e] X.env=(aq,eval (.Name s C) X.env)::aP [.JoinedStr [.Constant (.str a) q g,.FormattedValue (.Name x1 h) (-1) am i,.Constant (.str c) r j,.FormattedValue (.Name x2 m) (-1) am n] e] X.env:=by rfl)
(YX:aP [.JoinedStr [.Constant (.str a) q g,.FormattedValue (.Name x1 h) (-1) am i,.Constant (.str c) r j,.FormattedValue (.Name x2 m) (-1) am n] e] X.env=(aq,eval (.JoinedStr [.Constant (.str a) q g,.FormattedValue (.Name x1 h) (-1) am i,.Constant (.str c) r j,.FormattedValue (.Name x2 m) (-1) am n] e) X.env)::aP [] X.env:=by rfl)
(qG:(c9 u (aP [.JoinedStr [.Constant (.str a) q g,.FormattedValue (.Name x1 h) (-1) am i,.Constant (.str c) r j,.FormattedValue (.Name x2 m) (-1) am n] e] X.env)).any (·.1)=aq:=by rfl)
(hs:dB (.Call (.Attribute (.Name b p) "__init__" apos) [.Name s C,.JoinedStr [.Constant (.str a) q g,.FormattedValue (.Name x1 h) (-1) am i,.Constant (.str c) r j,.FormattedValue (.Name x2 m) (-1) am n] e] [] u) am pos.line X.env=pure aq:=by rfl)
(hs1:dB (.Name x1 q8) (ae (.Attribute (.Name s p3) Y q7)) q9.line X.env=pure aq:=by rfl)(Ut:dB (.Call (.Name "list" G) [.Name x2 o] [] v) (ae (.Attribute (.Name s p4) f2 E)) H.line X.env=pure aq:=by rfl)
(U:aP [.Name x2 o] X.env=(aq,eval (.Name x2 o) X.env)::aP [] X.env:=by rfl)(TR:(c9 v (aP [] X.env)).any (·.1)=aq:=by rfl):
  yL X [.Expr (.Call (.Attribute (.Name b p) "__init__" apos) [.Name s C,.JoinedStr [.Constant (.str a) q g,.FormattedValue (.Name x1 h) (-1) am i,.Constant (.str c) r j,.FormattedValue (.Name x2 m) (-1) am n] e] [] u) pos,
   .Assign [.Attribute (.Name s p3) Y q7] (.Name x1 q8) q9,.Assign [.Attribute (.Name s p4) f2 E] (.Call (.Name "list" G) [.Name x2 o] [] v) H] (abo X.K B a c Y f2):=
 yM (Hu (Wh PySem.F.excBase_ValueError hB (Ph hg hm rfl sO) (qF (rB w x y z) (qF (ZF (CG My (CG (ac4 (rB I L O Q)) (CG My (CG (ZT hr (rB J M RE T)) ac5))))) xJ YX) js) ht js qG) hs)
  (yM (Qs (rB w x y z) (rB I L O Q) hs1) (Ht (Qs (rB w x y z) (rZ pc gl ml rfl (qF (rB J M RE T) xJ U) (hn:=by decide) (sO:=by decide) (he:=U) (qG:=TR)) Ut)))
end
end L3
end
local macro_rules | `(tactic| walk_at "i") => `(tactic| ((conv => whnf); first | refine ⟨_, rfl, ?_⟩ | refine ⟨rfl, ?_⟩ | refine ⟨au rfl, ?_⟩))
local macro_rules | `(tactic| walk_at "f") => `(tactic| ((repeat walk_at "i"); try (conv => whnf)))
namespace FJ
open PySem PySem.Spec L2 L3
def Ed (K:bz):DS:=(iA (Bx (iS (lD K) (gH (gK 0) (gH (dC (.ty "int")) gR))) (aaZ (iS (lD K) (gH (gK 0) (gH (dC (.ty "bool")) gR))))))
def AO (K:bz):DS:=(ib (i7 (UP (pO (hZ (iS (lD K) (gH (gK 0) (gH (dC (.ty "str")) gR))))) (pO (hZ (oO Cv Cv (dC (.int 1)) (iS vf (gH (gK 0) gR)) (dC (.int 8)))))) (iA (dC (.bl aq))) iD)
 (iA (iS RZ (gH (j5 (l4 [am] (jh (gK 0)) (gZ 0) xR (oO Cv Cv (dC (.str "a")) (gK 0) (dC (.str "z"))))) gR))))
def Ee (K:bz):DS:=(aa8 K "told" (gK 0) (gK 1))
def BJ (K:bz):DS:=(iA (iS HS (gH (j5 (l4 [am] (jh (Vk K "told" (gK 0))) (gZ 0) xR (dIf (hZ (iS (lD K) (gH (gK 0) (gH (dC (.ty "tuple")) gR)))) (rJ (TX DB (gH (gK 0) gR))) (gK 0)))) gR)))
def BK:DS:=(iA (rJ (qB gR)))
def xA:DS:=(iA (dC (.bl aq)))
def qM:DS:=(iA (dC (.bl aj)))
def zr:DS:=(iA (dC (.bl aq)))
def su (K:bz):DS:=(iA (rJ (TX DB (gH (Y0 (Vk K "told" (gK 0)) (u9 (dC (.int 2))) qK) gR))))
def vm (K:bz):DS:=(iA (rJ (qB (gH (iq mS (Vk K "told" (gK 0)) (Y1 (dC (.int 1)))) gR))))
def x9:DS:=(iA (dC (.bl aq)))
def sw (K:bz):DS:=(iA (rJ (TX DB (gH (iq mS (Vk K "told" (gK 0)) (dC (.int 1))) gR))))
def tQ (K:bz)(a:GN):DS:=(ib (i7 (UP (pO (hZ (iS (lD K) (gH (gK 1) (gH (dC (.ty "list")) gR))))) (pO (hZ (oO Cv Cv (dC (.int 1)) (iS vf (gH (gK 1) gR)) (dC (.int 60)))))) (iA (dC (.bl aq))) iD)
 (iA (iS RZ (gH (j5 (l4 [am,ae 0] (jh (gK 1)) (gZ 0) xR (iS a (gH (gK 1) (gH (gK 0) gR))))) gR))))
def Ef (K:bz)(c:GN)(a:GN)(b:GN):DS:=(ib (i7 (hZ (iq Ca (gK 0) (dC (.str "word")))) (iA (iS c (gH (gK 1) gR))) iD)
 (ib (i7 (hZ (iq Ca (gK 0) (dC (.str "box")))) (iA (Bx (iS a (gH (gK 1) gR)) (oO Cv Cv (dC (.int 0)) (gK 1) (dC (.int 3))))) iD)
 (ib (i7 (hZ (iq Ca (gK 0) (dC (.str "number")))) (iA (Bx (iS a (gH (gK 1) gR)) (oO Cv Cv (dC (.int (-2147483648))) (gK 1) (dC (.int 2147483647))))) iD)
 (ib (i7 (hZ (iq Ca (gK 0) (dC (.str "truth")))) (iA (iS (lD K) (gH (gK 1) (gH (dC (.ty "bool")) gR)))) iD)
 (ib (i7 (hZ (iq Ca (gK 0) (dC (.str "numbers")))) (iA (iS b (gH (dC (.str "number")) (gH (gK 1) gR)))) iD)
 (iA (iS b (gH (dC (.str "word")) (gH (gK 1) gR)))))))))
def Eg (K:bz)(a:aw)(b:List (aJ×D))(c:GN):DS:=(ib (i7 (UP (pO (hZ (iS (lD K) (gH (gK 0) (gH (dC (.ty "tuple")) gR))))) (hZ (iq Ca (iS vf (gH (gK 0) gR)) (dC (.int 0))))) (iA (dC (.bl aq))) iD)
 (ib (i7 (UP (pO (hZ (iS (lD K) (gH (iq mS (gK 0) (dC (.int 0))) (gH (dC (.ty "str")) gR))))) (hZ (iq (HV aj a b) (iq mS (gK 0) (dC (.int 0))) (dC (.cls a))))) (iA (dC (.bl aq))) iD)
 (ib (iO 1 (iq (HU a b) (dC (.cls a)) (iq mS (gK 0) (dC (.int 0)))))
 (ib (i7 (hZ (iq gNe (iS vf (gH (gK 0) gR)) (iq j9 (dC (.int 1)) (iS vf (gH (gK 1) gR))))) (iA (dC (.bl aq))) iD)
 (iA (iS RZ (gH (j5 (l4 [am,am] (aa7 (gH (gK 1) (gH (Y0 (gK 0) (u9 (dC (.int 1))) qK) gR))) (kL 2 (ie (gZ 0) (ie (gZ 1) kK))) xR (iS c (gH (gK 0) (gH (gK 1) gR))))) gR)))))))
def Eh (a:aw)(b:GN)(c:aw)(e:GN)(f:aw)(g:GN)(h:aw)(i:GN)(j:aw)(m:GN)(n:aw)(o:GN):DS:=(ib (iO 1 (iq mS (gK 0) (dC (.int 0))))
 (ib (i7 (hZ (iq Ca (gK 1) (dC (.str "set")))) (iA (rK a b (gH (gK 0) gR))) iD)
 (ib (i7 (hZ (iq Ca (gK 1) (dC (.str "alike")))) (iA (rK c e (gH (gK 0) gR))) iD)
 (ib (i7 (hZ (iq (Vg aq) (gK 1) (nA (gH (dC (.str "back")) (gH (dC (.str "stop")) gR))))) (iA (rK f g (gH (gK 0) gR))) iD)
 (ib (i7 (hZ (iq (Vg aq) (gK 1) (nA (gH (dC (.str "jump")) (gH (dC (.str "jumpby")) gR))))) (iA (rK h i (gH (gK 0) gR))) iD)
 (ib (i7 (hZ (iq (Vg aq) (gK 1) (nA (gH (dC (.str "jumpif")) (gH (dC (.str "call")) (gH (dC (.str "load")) gR)))))) (iA (rK j m (gH (gK 0) gR))) iD)
 (iA (rK n o (gH (gK 0) gR)))))))))
def K7 (K:bz)(a:GN)(b:aw)(c:GN)(e:aw)(f:GN)(g:aw)(h:GN)(i:GN):DS:=(ib (i7 (pO (hZ (iS a (gH (gK 0) gR)))) (iA (dC .non)) iD)
 (ib (iO 1 (iS HS (gH (j5 (l4 [am] (jh (gK 0)) (gZ 0) xR (dIf (hZ (iS (lD K) (gH (gK 0) (gH (dC (.ty "list")) gR)))) (iS HS (gH (gK 0) gR)) (gK 0)))) gR)))
 (ib (i7 (hZ (iq Ca (iq mS (gK 1) (dC (.int 0))) (dC (.str "mark")))) (iA (rK b c (gH (gK 1) gR))) iD)
 (ib (i7 (hZ (iq Ca (iq mS (gK 1) (dC (.int 0))) (dC (.str "numbers")))) (iA (rK e f (gH (gK 1) gR))) iD)
 (ib (i7 (hZ (iq Ca (iq mS (gK 1) (dC (.int 0))) (dC (.str "table")))) (iA (rK g h (gH (gK 1) gR))) iD)
 (iA (iS i (gH (gK 1) gR))))))))
noncomputable def low(x:aJ):Bool:=x.cps.toList.all λc=>decide (97<=c)&&decide (c<=122)
noncomputable def xB(x:aJ):Bool:=decide (1<=x.length)&&decide (x.length<=8)&&low x
noncomputable def Qx(b:Int):Bool:=decide (0<=b)&&decide (b<=3)
noncomputable def okN(n:Int):Bool:=decide (-2147483648<=n)&&decide (n<=2147483647)
def nE:GP:=λds Q=>∃i:Int,ds=[.int i]/\Q (.bl aj)
theorem Cc:iM nE:=by
 rintro ds P Q w ⟨i,h,q⟩
 exact⟨i,h,w _ q⟩
theorem K8(K:bz):∀ds Q,nE ds Q->kq 1 1 (Ed K) ds Q:=by
 rintro ds Q ⟨i,h,q⟩
 subst h;exact⟨rfl,_,rfl,_,rfl,rfl,q⟩
def nF:GP:=λds Q=>∃w:aJ,xB w=aj/\ds=[.str w]/\Q (.bl aj)
theorem Ei:iM nF:=by
 rintro ds P Q w ⟨i,a,h,q⟩
 exact⟨i,a,h,w _ q⟩
theorem CH{Q:DK}(h:a<=b)(q:Q (.bl aj) M):Cv (.int a) (.int b) M Q:=by show Q _ M;rw[decide_eq_true h];exact q
theorem afv{Q:DK}(h:97<=c)(q:Q (.bl aj) M):Cv (.str "a") (.str ⟨#[c]⟩) M Q:=by show Q (.bl (!decide ([c]<[97]))) M;rw[show decide _=aq by simp[List.cons_lt_cons_iff];omega];exact q
theorem afw{Q:DK}(h:c<=122)(q:Q (.bl aj) M):Cv (.str ⟨#[c]⟩) (.str "z") M Q:=by show Q (.bl (!decide ([122]<[c]))) M;rw[show decide _=aq by simp[List.cons_lt_cons_iff];omega];exact q
theorem K9{xs:List D}(q:Q (.bl aj) M):RZ [.lst ([]++xs.map λ_=>D.bl aj)] M Q:=by refine⟨xs.map λ_=>aj,by rw[bB];rfl,?_⟩;rw[show(xs.map λ_=>aj).all id=aj by simp];exact q
theorem N3(K:bz):∀ds Q,nF ds Q->kq 1 1 (AO K) ds Q:=by
 rintro ds Q ⟨x,hw,h,q⟩
 subst h;unfold xB at hw;rw[aY,aY,decide_eq_true_eq,decide_eq_true_eq] at hw;obtain⟨⟨o,g⟩,i⟩:=hw;have b:x.length<=aE:=bi g (by decide);have a:=@CH;have e:=@afv;have f:=@afw;unfold AO;generalize Cv=ge at a e f |-;refine⟨rfl,_,rfl,_,if_pos b,?_⟩;refine a (by omega) ?_;refine a (by omega) ?_;refine⟨_,rfl,rfl,?_⟩;refine lH (λ_=>.bl aj) ?_ _ _ ?_ (λy j p m=>?_) ?_
 .exact rfl
 .rw[cm,bJ,ar];exact b
 .obtain⟨c,n,rfl⟩:=aV.mp j;have:=bR.mp i c n;rw[aY,decide_eq_true_eq,decide_eq_true_eq] at this;exact e this.1 (f this.2 (m _ rfl))
 .exact K9 ⟨rfl,q⟩
inductive AQ:aJ->D->Prop
 |w {x:aJ}:xB x=aj->AQ "word" (.str x)
 |b {i:Int}:Qx i=aj->AQ "box" (.int i)
 |n {i:Int}:okN i=aj->AQ "number" (.int i)
 |t {b:Bool}:AQ "truth" (.bl b)
inductive T3:aJ->D->Prop
 |a {f:aJ} {d:D}:AQ f d->T3 f d
 |ns {ds:List D}:1<=ds.length->ds.length<=60->(∀d∈ds,AQ "number" d)->T3 "numbers" (.lst ds)
 |ws {ds:List D}:1<=ds.length->ds.length<=60->(∀d∈ds,AQ "word" d)->T3 "words" (.lst ds)
theorem AQ.nl(h:AQ f d):nl d=aj:=by cases h<;>rfl
theorem Lb(h:∀d∈ds,AQ f d):lu ds=aj:=by rw[HE];exact bR.mpr λd hd=>(h d hd).nl
theorem T3.nl(h:T3 f d):lu [.str f,d]=aj:=by
 have:=by
  cases h with
  |a h=>exact h.nl
  |ns _ _ h=>exact Lb h
  |ws _ _ h=>exact Lb h
 show(aj&&(L3.nl d&&aj))=aj;rw[this];rfl
def CI:GP:=λds Q=>∃f d,AQ f d/\ds=[.str f,d]/\Q (.bl aj)
theorem Iy:iM CI:=by
 rintro ds P Q w ⟨f,d,a,h,q⟩
 exact⟨f,d,a,h,w _ q⟩
def ZV:GP:=λds Q=>∃f xs,1<=xs.length/\xs.length<=60/\(∀d∈xs,AQ f d)/\ds=[.str f,.lst xs]/\Q (.bl aj)
theorem SQ:iM ZV:=by
 rintro ds P Q w ⟨f,d,a,b,c,h,q⟩
 exact⟨f,d,a,b,c,h,w _ q⟩
def AR:GP:=λds Q=>∃f d,T3 f d/\ds=[.str f,d]/\Q (.bl aj)
theorem Lc:iM AR:=by
 rintro ds P Q w ⟨f,d,a,h,q⟩
 exact⟨f,d,a,h,w _ q⟩
theorem Wp(h:AQ f d)(q:Q (.bl aj)):kq 2 2 (Ef K (cl nF) (cl nE) g) [.str f,d] Q:=by
 have a:=@CH;unfold Ef;generalize Cv=ge at a |-;cases h with
 |w h=>exact⟨rfl,rfl,_,h,rfl,rfl,q⟩
 |b h=>
  unfold Qx at h;rw[aY,decide_eq_true_eq,decide_eq_true_eq] at h;exact⟨rfl,rfl,_,rfl,a h.1 (a h.2 ⟨rfl,q⟩)⟩
 |n h=>
  unfold okN at h;rw[aY,decide_eq_true_eq,decide_eq_true_eq] at h;exact⟨rfl,rfl,_,rfl,a h.1 (a h.2 ⟨rfl,q⟩)⟩
 |t=>exact⟨rfl,_,rfl,rfl,q⟩
theorem Wq(K:bz)(g:GN):∀ds Q,CI ds Q->kq 2 2 (Ef K (cl nF) (cl nE) g) ds Q:=by
 rintro ds Q ⟨f,d,h,e,q⟩
 subst e;exact Wp h q
theorem afx(K:bz):∀ds Q,ZV ds Q->kq 2 2 (tQ K (cl CI)) ds Q:=by
 rintro ds Q ⟨f,xs,j,h,c,e,q⟩
 subst e;have b:=@CH;unfold tQ;generalize Cv=ge at b |-;refine⟨rfl,_,rfl,_,rfl,?_⟩;refine b (by omega) ?_;refine b (by omega) ?_;refine⟨_,rfl,rfl,?_⟩;refine lH (λ_=>.bl aj) ?_ _ _ ?_ (λy g m i=>?_) ?_
 .exact rfl
 .rw[cm,bJ];exact bi h (by decide)
 .exact⟨T3.nl (.a (c y g)),f,y,c y g,rfl,i _ rfl⟩
 .exact K9 ⟨rfl,q⟩
theorem ZW(K:bz):∀ds Q,AR ds Q->kq 2 2 (Ef K (cl nF) (cl nE) (cl ZV)) ds Q:=by
 rintro ds Q ⟨f,d,h,e,q⟩
 subst e;cases h with
 |a h=>exact Wp h q
 |ns b c g=>exact⟨rfl,(T3.ns b c g).nl,_,_,b,c,g,rfl,rfl,q⟩
 |ws b c g=>exact⟨rfl,(T3.ws b c g).nl,_,_,b,c,g,rfl,rfl,q⟩
open PySem PySem.Spec PyProof.Rows.KTD L2 L3
noncomputable def fm(l:List aJ):D:=.tup (l.map .str)
noncomputable def abp:List (aJ×D):=[("mark",fm ["word","truth"]),("set",fm ["box","number"]),("add",fm ["box","box"]),("take",fm ["box","box"]),("say",fm ["box"]),("ask",fm ["box"]),("jump",fm ["word"]),("jumpif",fm ["box","word"]),("call",fm ["word"]),("back",fm []),("stop",fm []),("load",fm ["box","box","word"]),("jumpby",fm ["box","word"]),("alike",fm ["box","word","word"]),("numbers",fm ["numbers"]),("table",fm ["words"])]
inductive Rw
 |mark (w:aJ) (b:Bool)|set (b n:Int)|add (b c:Int)|take (b c:Int)|say (b:Int)|ask (b:Int)|jump (w:aJ)|jumpif (b:Int) (w:aJ)|call (w:aJ)|back|stop
 |load (b c:Int) (w:aJ)|jumpby (b:Int) (w:aJ)|alike (b:Int) (w v:aJ)|numbers (ns:List Int)|table (ws:List aJ)
 deriving DecidableEq
noncomputable def Rw.d:Rw->D
 |.mark w b=>.tup [.str "mark",.str w,.bl b]|.set b n=>.tup [.str "set",.int b,.int n]|.add b c=>.tup [.str "add",.int b,.int c]|.take b c=>.tup [.str "take",.int b,.int c]
 |.say b=>.tup [.str "say",.int b]|.ask b=>.tup [.str "ask",.int b]|.jump w=>.tup [.str "jump",.str w]|.jumpif b w=>.tup [.str "jumpif",.int b,.str w]|.call w=>.tup [.str "call",.str w]
 |.back=>.tup [.str "back"]|.stop=>.tup [.str "stop"]|.load b c w=>.tup [.str "load",.int b,.int c,.str w]|.jumpby b w=>.tup [.str "jumpby",.int b,.str w]|.alike b w v=>.tup [.str "alike",.int b,.str w,.str v]
 |.numbers ns=>.tup [.str "numbers",.lst (ns.map .int)]|.table ws=>.tup [.str "table",.lst (ws.map .str)]
noncomputable def Rw.t:Rw->D
 |.numbers ns=>.tup [.str "numbers",.tup (ns.map .int)]|.table ws=>.tup [.str "table",.tup (ws.map .str)]
 |r=>r.d
noncomputable def Rw.ok:Rw->Bool
 |.mark w _=>xB w|.set b n=>Qx b&&okN n|.add b c=>Qx b&&Qx c|.take b c=>Qx b&&Qx c|.say b=>Qx b|.ask b=>Qx b|.jump w=>xB w|.jumpif b w=>Qx b&&xB w|.call w=>xB w
 |.back=>aj|.stop=>aj|.load b c w=>Qx b&&Qx c&&xB w|.jumpby b w=>Qx b&&xB w|.alike b w v=>Qx b&&xB w&&xB v
 |.numbers ns=>decide (1<=ns.length)&&decide (ns.length<=60)&&ns.all okN
 |.table ws=>decide (1<=ws.length)&&decide (ws.length<=60)&&ws.all xB
theorem b1(h:(a&&b)=aj):a=aj:=(aY _ _▸h).1
theorem b2(h:(a&&b)=aj):b=aj:=(aY _ _▸h).2
def zA:GP:=λds Q=>∃r:Rw,r.ok=aj/\ds=[r.d]/\Q (.bl aj)
theorem FK:iM zA:=by
 rintro ds P Q w ⟨r,a,h,q⟩
 exact⟨r,a,h,w _ q⟩
theorem pf{Q:DK}(h:T3 f d)(q:Q (.bl aj) M):cl AR [.str f,d] M Q:=⟨h.nl,f,d,h,rfl,q⟩
theorem adi(h:(Rw.numbers ns).ok=aj):T3 "numbers" (.lst (ns.map .int)):=by refine .ns (by rw[ar];exact of_decide_eq_true (b1 (b1 h))) (by rw[ar];exact of_decide_eq_true (b2 (b1 h))) λd hd=>?_;obtain⟨n,hn,rfl⟩:=aV.mp hd;exact .n (bR.mp (b2 h) n hn)
theorem adj(h:(Rw.table ws).ok=aj):T3 "words" (.lst (ws.map .str)):=by refine .ws (by rw[ar];exact of_decide_eq_true (b1 (b1 h))) (by rw[ar];exact of_decide_eq_true (b2 (b1 h))) λd hd=>?_;obtain⟨n,hn,rfl⟩:=aV.mp hd;exact .w (bR.mp (b2 h) n hn)
theorem SR(K:bz)(c:aw):∀ds Q,zA ds Q->kq 2 1 (Eg K c abp (cl AR)) ds Q:=by
 rintro ds Q ⟨r,h,e,q⟩
 subst e;have pf:=@pf;unfold Eg;generalize cl AR=g at pf |-;have L:∀{a b:Nat},Nat.ble a b=aj->a<=b:=au;refine⟨rfl,?_⟩;cases r;all_goals walk_at "f";refine⟨λh=>Nat.one_ne_zero h.1,_,_,rfl,rfl,⟨rfl,rfl⟩,?_⟩
 case mark=>exact⟨rfl,rfl,pf (.a (.w h)) ⟨⟨rfl,rfl⟩,L rfl,rfl,rfl,pf (.a .t) ⟨⟨rfl,rfl⟩,L rfl,[aj,aj],rfl,rfl,q⟩⟩⟩
 case set=>exact⟨rfl,rfl,pf (.a (.b (b1 h))) ⟨⟨rfl,rfl⟩,L rfl,rfl,rfl,pf (.a (.n (b2 h))) ⟨⟨rfl,rfl⟩,L rfl,[aj,aj],rfl,rfl,q⟩⟩⟩
 case add=>exact⟨rfl,rfl,pf (.a (.b (b1 h))) ⟨⟨rfl,rfl⟩,L rfl,rfl,rfl,pf (.a (.b (b2 h))) ⟨⟨rfl,rfl⟩,L rfl,[aj,aj],rfl,rfl,q⟩⟩⟩
 case take=>exact⟨rfl,rfl,pf (.a (.b (b1 h))) ⟨⟨rfl,rfl⟩,L rfl,rfl,rfl,pf (.a (.b (b2 h))) ⟨⟨rfl,rfl⟩,L rfl,[aj,aj],rfl,rfl,q⟩⟩⟩
 case say=>exact⟨rfl,rfl,pf (.a (.b h)) ⟨⟨rfl,rfl⟩,L rfl,[aj],rfl,rfl,q⟩⟩
 case ask=>exact⟨rfl,rfl,pf (.a (.b h)) ⟨⟨rfl,rfl⟩,L rfl,[aj],rfl,rfl,q⟩⟩
 case jump=>exact⟨rfl,rfl,pf (.a (.w h)) ⟨⟨rfl,rfl⟩,L rfl,[aj],rfl,rfl,q⟩⟩
 case jumpif=>exact⟨rfl,rfl,pf (.a (.b (b1 h))) ⟨⟨rfl,rfl⟩,L rfl,rfl,rfl,pf (.a (.w (b2 h))) ⟨⟨rfl,rfl⟩,L rfl,[aj,aj],rfl,rfl,q⟩⟩⟩
 case call=>exact⟨rfl,rfl,pf (.a (.w h)) ⟨⟨rfl,rfl⟩,L rfl,[aj],rfl,rfl,q⟩⟩
 case back=>exact⟨[],rfl,rfl,q⟩
 case stop=>exact⟨[],rfl,rfl,q⟩
 case load=>exact⟨rfl,rfl,pf (.a (.b (b1 (b1 h)))) ⟨⟨rfl,rfl⟩,L rfl,rfl,rfl,pf (.a (.b (b2 (b1 h)))) ⟨⟨rfl,rfl⟩,L rfl,rfl,rfl,pf (.a (.w (b2 h))) ⟨⟨rfl,rfl⟩,L rfl,[aj,aj,aj],rfl,rfl,q⟩⟩⟩⟩
 case jumpby=>exact⟨rfl,rfl,pf (.a (.b (b1 h))) ⟨⟨rfl,rfl⟩,L rfl,rfl,rfl,pf (.a (.w (b2 h))) ⟨⟨rfl,rfl⟩,L rfl,[aj,aj],rfl,rfl,q⟩⟩⟩
 case alike=>exact⟨rfl,rfl,pf (.a (.b (b1 (b1 h)))) ⟨⟨rfl,rfl⟩,L rfl,rfl,rfl,pf (.a (.w (b2 (b1 h)))) ⟨⟨rfl,rfl⟩,L rfl,rfl,rfl,pf (.a (.w (b2 h))) ⟨⟨rfl,rfl⟩,L rfl,[aj,aj,aj],rfl,rfl,q⟩⟩⟩⟩
 case numbers=>exact⟨rfl,rfl,pf (adi h) ⟨⟨rfl,rfl⟩,L rfl,[aj],rfl,rfl,q⟩⟩
 case table=>exact⟨rfl,rfl,pf (adj h) ⟨⟨rfl,rfl⟩,L rfl,[aj],rfl,rfl,q⟩⟩
structure CA where
 (Row Mark Code Data Wr Last Set Alike Ws Leave j6 Table:aw)
inductive Kn
 |Mark|Wr|Last|Set|Alike|Ws|Leave|j6|Table
noncomputable def CA.at(c:CA):Kn->aw
 |.Mark=>c.Mark|.Wr=>c.Wr|.Last=>c.Last|.Set=>c.Set|.Alike=>c.Alike|.Ws=>c.Ws|.Leave=>c.Leave|.j6=>c.j6|.Table=>c.Table
noncomputable def Rw.kn:Rw->Kn
 |.mark _ _=>.Mark|.set _ _=>.Set|.add _ _|.take _ _|.say _|.ask _=>.Wr|.jump _|.jumpby _ _=>.Leave|.jumpif _ _|.call _|.load _ _ _=>.Ws|.back|.stop=>.Last
 |.alike _ _ _=>.Alike|.numbers _=>.j6|.table _=>.Table
noncomputable def Rw.cls(c:CA)(r:Rw):aw:=c.at r.kn
noncomputable def Rw.ins(c:CA)(r:Rw):D:=.ins (r.cls c) ["told"] [r.t]
def nG (K:bz):GN:=λds M Q=>∃M1 C d,ds=[.loc M1.length,d]/\M=M1++[ae (.ins C [] [])]/\Gx K C "told"/\Q .non (M1++[ae (.ins C ["told"] [d])])
theorem Ld:qI (nG K):=by
 rintro ds M P Q w ⟨M1,C,d,a,b,c,q⟩
 exact⟨M1,C,d,a,b,c,w _ _ q⟩
theorem Qy{β:Type}{M:List β}{x:β}:(M++[x])[M.length]?=ae x:=by simp
theorem Qz{β:Type}{M:List β}{x y:β}:(M++[x]).set M.length y=M++[y]:=by simp
theorem ZX:∀ds M Q,nG K ds M Q->J8 2 2 (Ee K) ds M Q:=by
 rintro ds M Q ⟨M1,C,d,a,b,c,q⟩
 subst a b;refine⟨rfl,?_⟩;refine⟨C,[],[],Qy,c,by decide,?_⟩;rw[Qz];exact q
noncomputable def Rw.code:Rw->Bool
 |.mark _ _|.numbers _|.table _=>aq
 |_=>aj
def p6 (c:CA):GP:=λds Q=>∃r:Rw,r.code=aj/\ds=[r.t]/\Q (r.ins c)
theorem Cd:iM (p6 c):=by
 rintro ds P Q w ⟨r,a,b,q⟩
 exact⟨r,a,b,w _ q⟩
structure FOk(K:bz)(c:CA):Prop where
 f:∀r:Rw,Gx K (r.cls c) "told"
theorem Le{Q:DK}(r:Rw)(h:Gx K (r.cls c) "told")(n:nl r.t=aj)(q:Q (r.ins c) M):nG K [.loc M.length,r.t] (M++[ae (.ins (r.cls c) [] [])]) λd M2=>d=.non/\∃ns es,M2=M++[ae (.ins (r.cls c) ns es)]/\lu es=aj/\Q (.ins (r.cls c) ns es) M:=
 ⟨M,_,_,rfl,rfl,h,rfl,_,_,rfl,by unfold lu;rw[n];rfl,q⟩
theorem Rw.nld(r:Rw):nl r.d=aj:=by cases r<;>first|rfl|exact(show(aj&&(lu _&&aj))=aj by rw[jL (λ_=>rfl)];rfl)
theorem Rw.nlt(r:Rw):nl r.t=aj:=by cases r<;>first|rfl|(show(aj&&(lu _&&aj))=aj;rw[jL (λ_=>rfl)];rfl)
theorem Rw.nli(c:CA)(r:Rw):nl (r.ins c)=aj:=by show(nl r.t&&aj)=aj;rw[r.nlt];rfl
theorem Lf(f:FOk K c):∀ds Q,p6 c ds Q->kq 2 1 (Eh c.Set (nG K) c.Alike (nG K) c.Last (nG K) c.Leave (nG K) c.Ws (nG K) c.Wr (nG K)) ds Q:=by
 rintro ds Q ⟨r,b,e,q⟩
 subst e;have g:=f.f r;have a:=r.nlt;have mk:=λh i=>Le (M:=[]) (Q:=h) r g a i;cases r<;>first|(cases b;done)|skip
 all_goals
  walk_at "f";exact mk _ ⟨a,q⟩
def zB (c:CA):GN:=λds M Q=>∃r:Rw,r.ok=aj/\ds=[r.d]/\Q (r.ins c) M
theorem FL:qI (zB c):=by
 rintro ds M P Q w ⟨r,a,b,q⟩
 exact⟨r,a,b,w _ _ q⟩
theorem ZY(e:dv M x=d):xh M [x]=[d]:=by unfold xh;rw[e];rfl
noncomputable def itL:D->Bool
 |.str _|.int _|.bl _|.lst _=>aj
 |_=>aq
noncomputable def toT:D->D
 |.lst xs=>.tup xs
 |d=>d
noncomputable def Rw.itd(r:Rw):List D:=match r.d with|.tup ds=>ds|_=>[]
theorem Rw.afy(r:Rw):r.d=.tup r.itd:=by cases r<;>rfl
theorem Rw.afz(r:Rw):r.t=.tup (r.itd.map toT):=by cases r<;>rfl
theorem Rw.adk(r:Rw):r.itd.all itL=aj:=by cases r<;>rfl
theorem Rw.ZZ(r:Rw):r.itd.length<=aE:=bi (m:=4) (by cases r<;>exact au rfl) (by decide)
theorem SS(f:FOk K c):∀ds M Q,zB c ds M Q->J8 2 1 (K7 K (bor zA) c.Mark (nG K) c.j6 (nG K) c.Table (nG K) (cl (p6 c))) ds M Q:=by
 rintro ds M Q ⟨r,i,j,q⟩
 subst j;have m:=f.f r;have b:=r.nlt;have mk:=λn o=>Le (M:=M) (Q:=n) r m b o;have g:=r.nld;have hd:lu [r.d]=aj:=by unfold lu;rw[g];rfl
 have hn:lu [r.t]=aj:=by unfold lu;rw[b];rfl
 have p:r.code=aj->cl (p6 c) [r.t] M Q:=λh=>⟨hn,r,h,rfl,q⟩;refine⟨rfl,?_⟩;conv=>whnf
 rw[ZY (aba M _ g)];refine⟨hd,r,i,rfl,rfl,?_⟩;rw[r.afy];refine⟨_,rfl,rfl,?_⟩;refine lH toT ?_ _ _ ?_ (λx a u s=>?_) ?_
 .exact rfl
 .rw[cm,bJ];exact r.ZZ
 .have a:=bR.mp r.adk x a;cases x<;>first|(cases a;done)|skip
  all_goals
   walk_at "f";exact s _ rfl
 have e:=r.afz;cases r;all_goals
  cases e;walk_at "f";first|exact(p rfl).2|exact mk _ q
noncomputable def Rw.SU:Rw->Bool
 |.mark _ _|.numbers _|.table _|.jump _|.jumpby _ _|.back|.stop=>aq
 |_=>aj
noncomputable def Rw.names:Rw->List D
 |.jump w|.jumpif _ w|.call w|.load _ _ w|.jumpby _ w=>[.str w]
 |.alike _ w v=>[.str w,.str v]
 |.table ws=>ws.map .str
 |_=>[]
def Iz (c:CA)(k:Kn):GP:=λds Q=>∃r:Rw,r.kn=k/\ds=[r.ins c]/\Q r.d
def wL (c:CA)(k:Kn):GN:=λds M Q=>∃r:Rw,r.kn=k/\ds=[r.ins c]/\Q (.loc M.length) (M++[ae (.lst r.names)])
def IA (c:CA)(k:Kn):GP:=λds Q=>∃r:Rw,r.kn=k/\ds=[r.ins c]/\Q (.bl r.SU)
theorem IB:iM (Iz c k):=by
 rintro ds P Q w ⟨r,a,b,q⟩
 exact⟨r,a,b,w _ q⟩
theorem jT:iM (IA c k):=by
 rintro ds P Q w ⟨r,a,b,q⟩
 exact⟨r,a,b,w _ q⟩
theorem jw:qI (wL c k):=by
 rintro ds M P Q w ⟨r,a,b,q⟩
 exact⟨r,a,b,w _ _ q⟩
theorem Wt(h:lu xs=aj):nl (.tup [.str x,.lst xs])=aj:=by show(aj&&(lu xs&&aj))=aj;rw[h];rfl
theorem Ej{ns:List Int}:lu (ns.map D.int)=aj:=jL (λ_=>rfl) _
theorem Ek{ns:List aJ}:lu (ns.map D.str)=aj:=jL (λ_=>rfl) _
noncomputable def plI:D->Bool
 |.str _|.int _|.bl _=>aj
 |_=>aq
noncomputable def Rw.its(r:Rw):List D:=match r.t with|.tup ds=>ds|_=>[]
theorem Rw.afA(r:Rw):r.t=.tup r.its:=by cases r<;>rfl
theorem Rw.Z0(r:Rw):r.its.length<=aE:=bi (m:=4) (by cases r<;>exact au rfl) (by decide)
theorem Rw.ag6(r:Rw)(h:r.its.all plI=aj):r.d=.tup r.its:=by cases r<;>first|rfl|cases h
theorem Wu(f:FOk K c)(k:Kn):∀ds Q,Iz c k ds Q->kq 1 1 (BJ K) ds Q:=by
 rintro ds Q ⟨r,m,i,q⟩
 subst i;have g:=f.f r;have h:=r.nlt;by_cases b:r.its.all plI=aj
 .rw[r.ag6 b] at q;unfold Rw.ins;rw[r.afA] at h |-;refine⟨rfl,_,_,_,_,rfl,g,rfl,_,rfl,rfl,?_⟩;refine lH (λd=>d) ?_ _ _ ?_ (λx a n j=>?_) ?_
  .exact rfl
  .rw[cm,bJ];exact r.Z0
  .have a:=bR.mp b x a;cases x<;>first|(cases a;done)|skip
   all_goals
    walk_at "f";exact j _ rfl
  .have e:r.its.map (vw [])=r.its:=(cV λx a=>by cases x<;>first|rfl|cases a).trans (List.map_id' _)
   rw[List.map_id'];show nl (.tup (r.its.map (vw [])))=aj/\Q (.tup (r.its.map (vw [])));rw[e];exact⟨h,q⟩
 .cases r<;>first|exact absurd rfl b|skip
  all_goals
   refine⟨rfl,?_⟩;refine⟨_,_,_,_,rfl,g,rfl,?_⟩;walk_at "f";first|exact⟨Wt Ej,q⟩|exact⟨Wt Ek,q⟩
theorem mU(a:k=.Mark\/k=.Wr\/k=.Last\/k=.Set\/k=.j6):∀ds M Q,wL c k ds M Q->J8 1 1 BK ds M Q:=by
 rintro ds M Q ⟨r,b,e,q⟩
 subst e b;cases r<;>first|(simp[Rw.kn] at a;done)|skip
 all_goals
  refine⟨rfl,?_⟩;walk_at "f";exact q
theorem El(f:FOk K c)(a:k=.Alike):∀ds M Q,wL c k ds M Q->J8 1 1 (su K) ds M Q:=by
 rintro ds M Q ⟨r,b,e,q⟩
 subst e b;have g:=f.f r;cases r<;>first|(simp[Rw.kn] at a;done)|skip
 all_goals
  refine⟨rfl,?_⟩;refine⟨_,_,_,_,rfl,g,rfl,?_⟩;refine⟨λh=>Nat.succ_ne_zero 1 h.1,?_⟩;walk_at "f";exact q
theorem zC(f:FOk K c)(a:k=.Ws\/k=.Leave):∀ds M Q,wL c k ds M Q->J8 1 1 (vm K) ds M Q:=by
 rintro ds M Q ⟨r,b,e,q⟩
 subst e b;have g:=f.f r;cases r<;>first|(simp[Rw.kn] at a;done)|skip
 all_goals
  refine⟨rfl,?_⟩;refine⟨_,_,_,_,rfl,g,rfl,?_⟩;walk_at "f";exact q
theorem Em(f:FOk K c)(a:k=.Table):∀ds M Q,wL c k ds M Q->J8 1 1 (sw K) ds M Q:=by
 rintro ds M Q ⟨r,b,e,q⟩
 subst e b;have g:=f.f r;cases r<;>first|(simp[Rw.kn] at a;done)|skip
 all_goals
  refine⟨rfl,?_⟩;refine⟨_,_,_,_,rfl,g,rfl,?_⟩;walk_at "f";exact q
theorem Lg(a:k=.Mark\/k=.j6\/k=.Table\/k=.Last\/k=.Leave):∀ds Q,IA c k ds Q->kq 1 1 xA ds Q:=by
 rintro ds Q ⟨r,b,e,q⟩
 subst e b;cases r<;>first|(simp[Rw.kn] at a;done)|exact⟨rfl,rfl,q⟩
theorem QC(a:k=.Wr\/k=.Set\/k=.Alike\/k=.Ws):∀ds Q,IA c k ds Q->kq 1 1 qM ds Q:=by
 rintro ds Q ⟨r,b,e,q⟩
 subst e b;cases r<;>first|(simp[Rw.kn] at a;done)|exact⟨rfl,rfl,q⟩
def tV (c:CA):FE:=λC m g=>∃k:Kn,C=c.at k/\g=wL c k
def Wv (c:CA):FE:=λC m g=>∃k:Kn,C=c.at k/\g=cl (IA c k)
def jU (c:CA):FE:=λC m g=>∃k:Kn,C=c.at k/\g=cl (Iz c k)
def BL:DS:=(ib (iO 2 (iq (gI (λ_ j=>0<j) λi j=>.int (i%j)) (iq y7 (iq j9 (iq j9 (iq (gI (λ_ j=>0<j) λi j=>.int (i%j)) (gK 0) (dC (.int 2147483647))) (iq y7 (dC (.int 7919)) (gK 1))) (dC (.int 1))) (dC (.int 48271))) (dC (.int 2147483647))))
 (ib (iO 2 (iq (gI (λ_ j=>0<j) λi j=>.int (i%j)) (iq y7 (gK 2) (iq j9 (iq (gI As λi j=>.int (i/j)) (gK 2) (dC (.int 1009))) (dC (.int 69621)))) (dC (.int 2147483647))))
 (iA (iq (gI (λ_ j=>0<j) λi j=>.int (i%j)) (iq y7 (iq j9 (gK 2) (iq y7 (dC (.int 31)) (gK 1))) (iq j9 (iq (gI As λi j=>.int (i/j)) (gK 2) (dC (.int 16807))) (dC (.int 40692)))) (dC (.int 2147483629))))))
def wM:GP:=λds Q=>∃a k:Int,ds=[.int a,.int k]/\0<=k/\k<=1000/\∀n:Int,0<=n->n<2147483629->Q (.int n)
theorem IC:iM wM:=by
 rintro ds P Q w ⟨a,k,b,c,e,q⟩
 exact⟨a,k,b,c,e,λn x y=>w _ (q n x y)⟩
theorem Ww:∀ds Q,wM ds Q->kq 3 2 BL ds Q:=by
 rintro ds Q ⟨a,k,f,h,j,q⟩
 subst f;have b:(0:Int)<2147483647:=by decide
 have g:(0:Int)<2147483629:=by decide
 have c:∀i,As i 1009/\As i 16807:=λi=>⟨⟨by decide,by decide⟩,⟨by decide,by decide⟩⟩;have e:Ru 7919 k/\Ru 31 k:=⟨.inl (by decide),.inl (by decide)⟩;exact⟨rfl,b,e.1,.inr (by decide),b,(c _).1,.inl (by omega),b,e.2,(c _).2,.inl (by omega),g,rfl,q _ (by omega) (by omega)⟩
theorem AS{k:Nat}{x:β}(h:xs[k]?=ae x):Fx xs (k:Int)=ae x:=by have a:=(ap.mp h).1;unfold Fx ixN;rw[if_pos (by omega),if_pos (by omega)];simpa using h
theorem Wx{xs:List β}{k:Nat}:cutD xs (ae (k:Int)) am=xs.drop k:=by
 unfold cutD;rw[HT.Cr,HT.C6];by_cases h:k<=xs.length
 .rw[Nat.min_eq_left h,ah4 (by rw[List.length_drop];omega)]
 .rw[Nat.min_eq_right (by omega),List.drop_eq_nil_of_le (aD _),List.drop_eq_nil_of_le (by omega)];simp
theorem Wy{xs:List β}{k:Nat}:cutD xs am (ae (k:Int))=xs.take k:=by unfold cutD;rw[HT.Cr,HT.C6];simp
theorem Z1{xs:List β}(h:m<=xs.length)(a:k<=m):cutD xs (ae (k:Int)) (ae (m:Int))=(xs.drop k).take (m- k):=by unfold cutD;rw[HT.Cr,HT.Cr,Nat.min_eq_left h,Nat.min_eq_left (by omega)]
structure CF(K:bz)(C:aw):Prop where
 pg:W.plainGet K C aJ.empty=aj
 hd:W.hasDictIn K C=aj
 po:W.plainOver K C=aj
 sa:dr K (.ref C) "__setattr__"=ae (ae (.builtin "object.__setattr__"))
 mks:W.makesIn K C=aj
 kc:ef K (.ref C)=aj
 ha:dr K (.ref C) "__class__"=ae (ae (.builtin "object.__class__"))
 hn:W.specialIn K (.builtin "object.__class__") "__get__"=ae (ae (.builtin "getset_descriptor.__get__"))
 htk:W.takesIn K (.builtin "object.__class__")=ae aj
 hm:W.mroIn K C (.type "object")=ae aj
theorem CF.cls(h:CF K C):Pk K C:=⟨h.pg,h.hd,h.po,h.sa⟩
theorem CF.afB(h:CF K C):PQ K C:=⟨h.cls,h.ha,h.hn,h.htk,h.hm⟩
structure RF(K:bz)(C fI fW fA fG fL:aw):Prop where
 c:CF K C
 nT:dr K (.ref C) "told"=ae am
 aI:dr K (.ref C) "__init__"=ae (ae (.ref fI))
 aW:dr K (.ref C) "words"=ae (ae (.ref fW))
 aA:dr K (.ref C) "asked"=ae (ae (.ref fA))
 aG:dr K (.ref C) "goes_on"=ae (ae (.ref fG))
 aL:dr K (.ref C) "lengths"=ae (ae (.ref fL))
structure MF(K:bz)(n q:aJ)(st:cc)(f:aw):Prop where
 ex:∃fd,uY K n q st f fd
 fn:W.isFn K (.ref f)=aj
 kp:ef K (.ref f)=aj
theorem afC{kV doc pm ip ct:ai}(l:K.lookup f=ae ⟨oc,od,.func (ee x qual (jJ st) (iC st) (h9 st) .none kV doc pm an ip ct),JQ⟩)
(c:W.codeIn K ip qual=aj)(k:ef K (.ref f)=aj)(i:W.isFn K (.ref f)=aj):MF K x qual st f:=⟨⟨_,MW l c k⟩,i,k⟩
section
variable {P:aQ} {w:bw} {K:bz} {mg:aJ->Option ai} {cv:av}
theorem zD(c:Pk K C)(hm:Meth K C m f)(e:Binds K fd a [])(F:jR P w K mg cv rF k f fd a (lY K g))(h:qI b)(i:∀ds M Q,b ds M Q->g ds M Q):pU P w K mg cv k C m b:=
 ⟨h,c,f,fd,a,hm,e,F.imp λj H Q E ⟨F,α,M,ds,o,r,q⟩=>⟨F,α,M,ds,o,r,i _ _ _ q⟩⟩
end
theorem adl(l:K.lookup b=ae o)(a:o.cls=.type "tuple")(c:o.data=.seq us.toArray n)(e:us.length<=aE)(f:Vals (fs.map V.str) us):Vn K (fm fs) (.ref b):=
 ⟨.ref b,rfl,λα H=>by exact⟨b,fs.map V.str,rfl,.inr ⟨o,us.toArray,n,l,a,c,by simpa using e,by simpa using f⟩,gL.of_map _ _ (λ_=>nU) _⟩⟩
theorem Wz:Vals (([]).map V.str) []:=.nil
theorem SV(h:Vals (fs.map V.str) us):Vals ((x::fs).map V.str) (.str x t::us):=.cons ⟨t,rfl⟩ h
theorem adm(lo:(a==cj)=aq)(l:K.lookup a=ae o)(b:o.ExactDict)(hd:o.data=.dict es.toArray c)(e:Rows (Vn K) es rows):AD K a rows:=
 ⟨lo,o,es.toArray,c,l,b,hd,by simpa using e⟩
def sy (K:bz):DS:=(iA (Bx (iS (lD K) (gH (gK 0) (gH (dC (.ty "tuple")) gR))) (Bx (iq (PH λi j=>.bl (decide (j<i))) (iS vf (gH (gK 0) gR)) (dC (.int 0))) (Bx (iS (lD K) (gH (iq mS (gK 0) (dC (.int 0))) (gH (dC (.ty "str")) gR))) (iq Ca (iq mS (gK 0) (dC (.int 0))) (dC (.str "mark")))))))
def xC (a:GN):DS:=(iA (iS vf (gH (j5 (l4 [am] (jh (gK 0)) (gZ 0) (hZ (iS a (gH (gK 0) gR))) (gK 0))) gR)))
def vy (a:GN):DS:=(iA (iq (PH λi j=>.int (i- j)) (iS vf (gH (gK 0) gR)) (iS a (gH (gK 0) gR))))
def G1 (K:bz)(a:GN)(b:GN):DS:=(ib (i7 (UP (pO (hZ (iS (lD K) (gH (gK 0) (gH (dC (.ty "tuple")) gR))))) (hZ (iq gNe (iS vf (gH (gK 0) gR)) (dC (.int 2))))) (iA (dC (.bl aq))) iD)
 (ib (i7 (UP (pO (hZ (iS a (gH (iq mS (gK 0) (dC (.int 0))) gR)))) (pO (hZ (iS (lD K) (gH (iq mS (gK 0) (dC (.int 1))) (gH (dC (.ty "list")) gR)))))) (iA (dC (.bl aq))) iD)
 (iA (oO Cv Cv (dC (.int 1)) (iS b (gH (iq mS (gK 0) (dC (.int 1))) gR)) (dC (.int 60))))))
def BM (K:bz)(a:GN)(b:GN)(c:GN):DS:=(ib (i7 (UP (pO (hZ (iS (lD K) (gH (gK 0) (gH (dC (.ty "list")) gR))))) (pO (hZ (oO Cv Cv (dC (.int 1)) (iS vf (gH (gK 0) gR)) (dC (.int 12)))))) (iA (dC (.bl aq))) iD)
 (ib (i7 (pO (hZ (iS RZ (gH (j5 (l4 [am] (jh (gK 0)) (gZ 0) xR (iS a (gH (gK 0) gR)))) gR)))) (iA (dC (.bl aq))) iD)
 (ib (i7 (hZ (iq gNe (P8 (j5 (l4 [am] (jh (gK 0)) (gZ 0) xR (iq mS (gK 0) (dC (.int 0)))))) (iS vf (gH (gK 0) gR)))) (iA (dC (.bl aq))) iD)
 (ib (i7 (hZ (iq (PH λi j=>.bl (decide (j<i))) (iS acQ (gH (j5 (l4 [am] (jh (gK 0)) (gZ 0) xR (iS b (gH (iq mS (gK 0) (dC (.int 1))) gR)))) gR)) (dC (.int 200)))) (iA (dC (.bl aq))) iD)
 (iA (iq Cv (iS acQ (gH (j5 (l4 [am] (jh (gK 0)) (gZ 0) xR (iS c (gH (iq mS (gK 0) (dC (.int 1))) gR)))) gR)) (dC (.int 200))))))))
def G3 (a:GN):DS:=(ib (iO 2 (rJ (qB gR)))
 (ib (nr (xV (gH (gK 1) gR)) (kL 2 (ie (gZ 3) (ie (gZ 4) kK))) (ib (iO 5 (iS a (gH (gK 4) gR)))
 (ib (i7 (hZ (iq gIs (gK 5) (dC .non))) tE iD)
 (mP (Mu "list" ka (gK 2) (gH (gK 5) gR))))))
 (iA (gK 2))))
def mV (K:bz)(a:aw):DS:=(ib (nr (jh (gK 0)) (gZ 1) (i7 (pO (hZ (iS (lD K) (gH (gK 1) (gH (dC (.cls a)) gR))))) (iA (gK 1)) iD))
 (iA (dC .non)))
def my (K:bz)(a:GN)(b:FE)(c:aw)(e:aw):DS:=(nr (xV (gH (gK 1) gR)) (kL 2 (ie (gZ 2) (ie (gZ 3) kK))) (ib (iO 4 (iS a (gH (Y0 (gK 1) (u9 (iq j9 (gK 2) (dC (.int 1)))) qK) gR)))
 (ib (i7 (FC (hZ (Gy b "goes_on" (gK 3) gR)) (pO (hZ (iS (lD K) (gH (gK 4) (gH (dC (.cls c)) gR)))))) tE iD)
 (i7 (FC (hZ (iS (lD K) (gH (gK 3) (gH (dC (.cls e)) gR)))) (hZ (iq gIs (gK 4) (dC .non)))) tE iD))))
def BN (a:GN)(b:GN)(c:GN):DS:=(ib (i7 (pO (hZ (iS a (gH (gK 0) gR)))) tE iD)
 (ib (iO 1 (j5 (l4 [am] (jh (gK 0)) (gZ 0) xR (nA (gH (iq mS (gK 0) (dC (.int 0))) (gH (iS b (gH (iq mS (gK 0) (dC (.int 0))) (gH (iq mS (gK 0) (dC (.int 1))) gR))) gR))))))
 (ib (nr (jh (gK 1)) (kL 2 (ie (gZ 2) (ie (gZ 3) kK))) (mP (iS c (gH (gK 2) (gH (gK 3) gR)))))
 (iA (gK 1)))))
def G4:DS:=(iA (j5 (VH (gK 0))))
def oS (K:bz)(c:aw)(jU:FE):DS:=(ib (iO 2 (rJ (qB gR)))
 (ib (iO 3 (dC (.int 0)))
 (ib (nr (jh (gK 1)) (gZ 4) (i7 (hZ (iS (lD K) (gH (gK 4) (gH (dC (.cls c)) gR)))) (ib (UV (Y0 (Gy jU "words" (gK 4) gR) (u9 (dC (.int 1))) qK) (kL 2 (ie (gZ 5) (ie (gZ 6) kK))))
 (mP (Mu "list" ka (gK 2) (gH (nA (gH (gK 5) (gH (gK 6) (gH (nA (gH (gK 0) (gH (gK 3) gR))) gR)))) gR)))) (PX 3 (λ_ _=>True) (λa b=>.int (a+b)) (dC (.int 1)))))
 (iA (gK 2)))))
def En (a:GN)(b:GN):DS:=(ib (iO 1 (rJ (qB gR)))
 (ib (nr (jh (iS a (gH (gK 0) gR))) (kL 2 (ie (gZ 2) (ie (gZ 3) kK))) (mP (Mu "list" Kp (gK 1) (gH (iS b (gH (gK 2) (gH (gK 3) gR))) gR))))
 (iA (gK 1))))
def vz:DS:=(ib (iO 1 (rJ Av))
 (ib (nr (jh (gK 0)) (kL 3 (ie (gZ 2) (ie (gZ 3) (ie (gZ 4) kK)))) (i7 (hZ (gK 3)) (mP (Mu "list" ka (Mu "dict" DV (gK 1) (gH (gK 2) (gH (rJ (qB gR)) gR))) (gH (iq mS (gK 4) (dC (.int 0))) gR))) iD))
 (iA (gK 1))))
def nH (a:GN):DS:=(ib (iO 1 (iS a (gH (gK 0) gR)))
 (nr (jh (j5 (TX vh (gH (gK 1) gR)))) (gZ 2) (i7 (hZ (iq (PH λi j=>.bl (decide (j<i))) (iS vf (gH (iq mS (gK 1) (gK 2)) gR)) (dC (.int 1)))) tE iD)))
def vB (a:GN)(b:GN):DS:=(ib (iO 1 (iS a (gH (gK 0) gR)))
 (ib (mP (iS b (gH (gK 1) gR)))
 (ib (iO 2 (rJ Av))
 (ib (nr (jh (gK 1)) (kL 3 (ie (gZ 3) (ie (gZ 4) (ie (gZ 5) kK)))) (i7 (UP (hZ (gK 4)) (hZ (iq (Vg aj) (gK 3) (gK 2)))) (P0 (gK 2) (gK 3) (gK 5)) iD))
 (iA (gK 2))))))
def oU (K:bz)(a:aw):DS:=(iA (j5 (l4 [am] (jh (gK 0)) (gZ 0) (pO (hZ (iS (lD K) (gH (gK 0) (gH (dC (.cls a)) gR))))) (gK 0))))
def BO (a:GN)(b:GN):DS:=(iA (j5 (TX VA (gH (j5 (l4 [am,am] (jh (iS a (gH (gK 0) gR))) (kL 2 (ie (gZ 0) (ie (gZ 1) kK))) xR (nA (gH (gK 0) (gH (iS b (gH (gK 1) gR)) gR))))) gR))))
def Eo:DS:=(iA (iq mS (iq mS (gK 0) (iq mS (gK 1) (dC (.int 0)))) (iq mS (gK 1) (dC (.int 1)))))
def tW (K:bz)(jU:FE)(a:aw)(b:aw)(c:aw):DS:=(ib (iO 2 (iq mS (Gy jU "words" (gK 0) gR) (dC (.int 0))))
 (ib (i7 (hZ (iq Ca (gK 2) (dC (.str "alike")))) (iA (dC (.bl aj))) iD)
 (ib (i7 (hZ (iq Ca (gK 2) (dC (.str "load")))) (iA (iS (lD K) (gH (gK 1) (gH (dC (.cls a)) gR)))) iD)
 (ib (i7 (hZ (iq Ca (gK 2) (dC (.str "jumpby")))) (iA (iS (lD K) (gH (gK 1) (gH (dC (.cls b)) gR)))) iD)
 (iA (iS (lD K) (gH (gK 1) (gH (dC (.cls c)) gR))))))))
def vC (tV:FE)(a:GN)(b:GN):DS:=(nr (xV (gH (iq mS (gK 1) (gK 0)) gR)) (kL 2 (ie (gZ 3) (ie (gZ 4) kK))) (nr (jh (Gy tV "asked" (gK 4) gR)) (gZ 5) (ib (i7 (hZ (iq (Vg aj) (gK 5) (gK 2))) tE iD)
 (i7 (pO (hZ (iS a (gH (gK 4) (gH (iS b (gH (gK 1) (gH (iq mS (gK 2) (gK 5)) gR))) gR))))) tE iD))))
def Ep (a:GN)(b:GN)(c:GN)(e:GN):DS:=(ib (iO 1 (iS a (gH (gK 0) gR)))
 (ib (iO 2 (iS b (gH (gK 1) gR)))
 (ib (iO 3 (iS c (gH (gK 1) gR)))
 (ib (nr (jh (gK 1)) (kL 2 (ie (gZ 4) (ie (gZ 5) kK))) (mP (iS e (gH (gK 4) (gH (gK 3) (gH (gK 2) gR))))))
 (iA (nA (gH (gK 3) (gH (gK 2) gR))))))))
end FJ
namespace qz
open PySem PySem.Spec PyProof.Rows L2 L3 FJ
noncomputable def top(i:Nat):cc:=PySem.Challenge.pw_farjump_k17_two_strong_ones.main.body.getD i (.Pass ⟨0,0,0,0⟩)
section
variable {P:aQ} {w:bw} {K:bz} {mg:aJ->Option ai} {cv:av} {k:Nat}
local macro_rules | `(tactic| walk_at "a") => `(tactic| (conv => lhs; whnf))
local macro_rules | `(tactic| walk_at "b") => `(tactic| exact ⟨rfl, rfl, rfl, by decide +kernel, rfl, by decide +kernel, by decide +kernel⟩)
theorem us1:∀{us:List ai},us.length=1->∃a,us=[a]
 |[a],_=>⟨a,rfl⟩
theorem us2{us:List ai}(h:us.length=2):∃a b,us=[a,b]:=by
 cases us with
 |nil=>nomatch h
 |cons a r=>
  obtain⟨b,q⟩:=us1 (Nat.succ.inj h);exact⟨a,b,congrArg _ q⟩
theorem us3{us:List ai}(h:us.length=3):∃a b c,us=[a,b,c]:=by
 cases us with
 |nil=>nomatch h
 |cons a r=>
  obtain⟨b,c,q⟩:=us2 (Nat.succ.inj h);exact⟨a,b,c,congrArg _ q⟩
local macro_rules | `(tactic| walk_at "c") => `(tactic| (intro _ _ _ _ _ _ us hl; first | (obtain ⟨_, e⟩ := us1 hl; subst e; rfl) | (obtain ⟨_, _, e⟩ := us2 hl; subst e; rfl) | (obtain ⟨_, _, _, e⟩ := us3 hl; subst e; rfl) | (obtain ⟨_, _, _, _, e⟩ := us4 hl; subst e; rfl) | (obtain ⟨_, _, _, _, _, e⟩ := us5 hl; subst e; rfl) | (obtain ⟨_, _, _, _, _, _, e⟩ := us6 hl; subst e; rfl)))
abbrev BF(s:cc):={b:List cc // iC s=b}
abbrev SF(s:cc):={b:dN // h9 s=b}
structure Zs(mg:aJ->Option ai):Prop where
 isinstance:mg "isinstance"=am
 int:mg "int"=am
 bool:mg "bool"=am
 str:mg "str"=am
 len:mg "len"=am
 all:mg "all"=am
 tuple:mg "tuple"=am
 list:mg "list"=am
 zip:mg "zip"=am
 set:mg "set"=am
 sum:mg "sum"=am
 enumerate:mg "enumerate"=am
 sorted:mg "sorted"=am
 dict:mg "dict"=am
 range:mg "range"=am
 Er:∃t,mg "LONGEST_WORD"=ae (.int 8 t)
 Es:∃t,mg "LONGEST_LIST"=ae (.int 60 t)
 N4:∃t,mg "LAST_BOX"=ae (.int 3 t)
 Et:∃t,mg "LEAST_NUMBER"=ae (.int (-2147483648) t)
 zF:∃t,mg "GREATEST_NUMBER"=ae (.int 2147483647 t)
 xn:∃t,mg "MOST_ROWS_OF_PART"=ae (.int 60 t)
 ID:∃t,mg "MOST_PARTS"=ae (.int 12 t)
 Lh:∃t,mg "MOST_ROWS"=ae (.int 200 t)
 IE:∃t,mg "MOST_MARKS"=ae (.int 200 t)
variable {f:aw} {fd:dY} {vn mH pY lJ zu tR wJ tS zw zx zy wK px tT tU lK jy jb wN zE kR qO wP kx mJ md kg nI jz mf pA tX mK kh oy kt pB j3 kB oz qP p7 sA tY:GN} {qN vo pZ sx p0 vq vt iE jv ku mI qQ qR wQ CJ:aw} {zt:List (aJ×D)} {wO jU tV:FE} {jC jA zG zH CK:K2}
theorem IF:cb "all"=ae (.builtin "all"):=by decide+kernel
theorem QD:cb "bool"=ae (.type "bool"):=by decide+kernel
theorem Z2:cb "dict"=ae (.type "dict"):=by decide+kernel
theorem adn:cb "int"=ae (.type "int"):=by decide+kernel
theorem g9:cb "isinstance"=ae (.builtin "isinstance"):=by decide+kernel
theorem mz:cb "len"=ae (.builtin "len"):=by decide+kernel
theorem pC:cb "list"=ae (.type "list"):=by decide+kernel
theorem wR:cb "sorted"=ae (.builtin "sorted"):=by decide+kernel
theorem N5:cb "str"=ae (.type "str"):=by decide+kernel
theorem WA:cb "sum"=ae (.builtin "sum"):=by decide+kernel
theorem p8:cb "tuple"=ae (.type "tuple"):=by decide+kernel
abbrev mW:cc:=mN (top 6) 0
noncomputable def IG:BF mW:=⟨_,by walk_at "a"⟩
noncomputable def zI:SF mW:=⟨_,by walk_at "a"⟩
theorem FM:gU ["self","name","parts"] ["self","name","parts"] zI.1:=by walk_at "b"
theorem IH(F:uY K "__init__" "Twice.__init__" mW f fd)(a:Qr K B)(m:mg "PartError"=ae (.ref B))(Z:Zs mg)(c:We K C)(co:NU K C)(XY:kY K C "name")(XZ:kY K C "parts"):jR P w K mg cv rF (k+1) f fd ["self","name","parts"] (spT K C "name" "parts"):=
 ZU F IG.2 zI.2 FM c co XY XZ (by decide) (λip A cP s H E b=>afs b a m Z.list)
theorem FN(F:uY K "__init__" "Twice.__init__" mW f fd):Binds K fd ["self","name","parts"] []:=F.binds (by walk_at "c")
abbrev tZ:cc:=top 11
noncomputable def N6:BF tZ:=⟨_,by walk_at "a"⟩
noncomputable def Eu:SF tZ:=⟨_,by walk_at "a"⟩
theorem Li:gU ["thing"] ["thing"] Eu.1:=by walk_at "b"
theorem N7(D:hG K mg "is_whole" tZ)(Z:Zs mg):oZ P w K mg cv (k+1) "is_whole" ["thing"] (lY K (cl (kq 1 1 (Ed K)))):=
 jG D N6.2 Eu.2 Li (by walk_at "c") λf ip A cP s H E a=>by exact(gN (g8 (Dh (pP jF Z.isinstance g9 (gG (gY 0) (gG (xO Z.int adn) gJ))) (J2 (aeA (pP jF Z.isinstance g9 (gG (gY 0) (gG (xO Z.bool QD) gJ))))))))
abbrev wS:cc:=top 12
noncomputable def SW:BF wS:=⟨_,by walk_at "a"⟩
noncomputable def AT:SF wS:=⟨_,by walk_at "a"⟩
theorem N8:gU ["thing"] ["thing"] AT.1:=by walk_at "b"
theorem SX(D:hG K mg "is_word" wS)(Z:Zs mg):oZ P w K mg cv (k+1) "is_word" ["thing"] (lY K (cl (kq 1 1 (AO K)))):=
 jG D SW.2 AT.2 N8 (by walk_at "c") λf ip A cP s H E a=>by
 exact(gO (iH (o9 (yY (jZ (iR (pP jF Z.isinstance g9 (gG (gY 0) (gG (xO Z.str N5) gJ))))) (tD (jZ (Dj pR pR gX (pP mx Z.len mz (gG (gY 0) gJ)) (ph Z.Er)))))) (gN (g8 tu)) ij)
   (gN (g8 (pP HR Z.all IF (gG (jg (jM (N:=["sign"]) (fr:=[am]) (iW.of (pM:=["thing"]) (jt:=AT.1) (by decide+kernel)) (iP (gY 0)) iY (λ_ _ _ _ _=>(gW 0 (show cD (["sign"]:List aJ) by decide+kernel))) (λ_ _ _ _ _=>kP) (λ_ _ _ _ _=>(yZ pR pR iG (gY 0) iG)))) gJ)))))
abbrev p9:cc:=mN (top 19) 0
noncomputable def N9:BF p9:=⟨_,by walk_at "a"⟩
noncomputable def Ev:SF p9:=⟨_,by walk_at "a"⟩
theorem Lj:gU ["self","told"] ["self","told"] Ev.1:=by walk_at "b"
theorem Oa(F:uY K "__init__" "Row.__init__" p9 f fd):jR P w K mg cv rF (k+1) f fd ["self","told"] (lY K (J8 2 2 (Ee K))):=
 Vl F N9.2 Ev.2 Lj λip A cP s H E a=>by exact(gN (Y6 (gY 0) (gY 1)))
theorem Lk(F:uY K "__init__" "Row.__init__" p9 f fd):Binds K fd ["self","told"] []:=F.binds (by walk_at "c")
abbrev oA:cc:=mN (top 19) 1
noncomputable def Ll:BF oA:=⟨_,by walk_at "a"⟩
noncomputable def vD:SF oA:=⟨_,by walk_at "a"⟩
theorem II:gU ["self"] ["self"] vD.1:=by walk_at "b"
theorem Lm(F:uY K "words" "Row.words" oA f fd)(Z:Zs mg):jR P w K mg cv rF (k+1) f fd ["self"] (lY K (cl (kq 1 1 (BJ K)))):=
 R4 F Ll.2 vD.2 II λip A cP s H E a=>by exact(gN (g8 (j_t Dz Z.tuple p8 (gG (jg (jM (iW.of (pM:=["self"]) (jt:=vD.1) (by decide+kernel)) (iP (PR (gY 0))) iY (λ_ _ _ _ _=>(gW 0 (show cD (["one"]:List aJ) by decide+kernel))) (λ_ _ _ _ _=>kP) (λ_ _ _ _ _=>(aeB (iR (pP jF Z.isinstance g9 (gG (gY 0) (gG (xO Z.tuple p8) gJ)))) (mO (Vj y9 Z.list pC (gG (gY 0) gJ))) (gY 0))))) gJ))))
theorem IJ(F:uY K "words" "Row.words" oA f fd):Binds K fd ["self"] []:=F.binds (by walk_at "c")
abbrev oB:cc:=mN (top 19) 3
noncomputable def Ln:BF oB:=⟨_,by walk_at "a"⟩
noncomputable def BP:SF oB:=⟨_,by walk_at "a"⟩
theorem IK:gU ["self"] ["self"] BP.1:=by walk_at "b"
theorem oC(F:uY K "asked" "Row.asked" oB f fd):jR P w K mg cv rF (k+1) f fd ["self"] (lY K (J8 1 1 BK)):=
 Vl F Ln.2 BP.2 IK λip A cP s H E a=>by exact(gN (g8 (mO (j0 gJ))))
theorem mX(F:uY K "asked" "Row.asked" oB f fd):Binds K fd ["self"] []:=F.binds (by walk_at "c")
abbrev l9:cc:=mN (top 19) 4
noncomputable def FQ:BF l9:=⟨_,by walk_at "a"⟩
noncomputable def xD:SF l9:=⟨_,by walk_at "a"⟩
theorem Ew:gU ["self"] ["self"] xD.1:=by walk_at "b"
theorem rL(F:uY K "goes_on" "Row.goes_on" l9 f fd):jR P w K mg cv rF (k+1) f fd ["self"] (lY K (cl (kq 1 1 xA))):=
 R4 F FQ.2 xD.2 Ew λip A cP s H E a=>by exact(gN (g8 tu))
theorem qc(F:uY K "goes_on" "Row.goes_on" l9 f fd):Binds K fd ["self"] []:=F.binds (by walk_at "c")
abbrev jV:cc:=mN (top 21) 0
noncomputable def zJ:BF jV:=⟨_,by walk_at "a"⟩
noncomputable def qS:SF jV:=⟨_,by walk_at "a"⟩
theorem yb:gU ["self"] ["self"] qS.1:=by walk_at "b"
theorem kU(F:uY K "goes_on" "CodeRow.goes_on" jV f fd):jR P w K mg cv rF (k+1) f fd ["self"] (lY K (cl (kq 1 1 qM))):=
 R4 F zJ.2 qS.2 yb λip A cP s H E a=>by exact(gN (g8 tu))
theorem kC(F:uY K "goes_on" "CodeRow.goes_on" jV f fd):Binds K fd ["self"] []:=F.binds (by walk_at "c")
abbrev jW:cc:=mN (top 24) 0
noncomputable def zK:BF jW:=⟨_,by walk_at "a"⟩
noncomputable def qT:SF jW:=⟨_,by walk_at "a"⟩
theorem yc:gU ["self"] ["self"] qT.1:=by walk_at "b"
theorem zL(F:uY K "goes_on" "LastRow.goes_on" jW f fd):jR P w K mg cv rF (k+1) f fd ["self"] (lY K (cl (kq 1 1 zr))):=
 R4 F zK.2 qT.2 yc λip A cP s H E a=>by exact(gN (g8 tu))
theorem yd(F:uY K "goes_on" "LastRow.goes_on" jW f fd):Binds K fd ["self"] []:=F.binds (by walk_at "c")
abbrev ki:cc:=mN (top 26) 1
noncomputable def AU:BF ki:=⟨_,by walk_at "a"⟩
noncomputable def sB:SF ki:=⟨_,by walk_at "a"⟩
theorem zM:gU ["self"] ["self"] sB.1:=by walk_at "b"
theorem AV(F:uY K "asked" "AlikeRow.asked" ki f fd)(Z:Zs mg):jR P w K mg cv rF (k+1) f fd ["self"] (lY K (J8 1 1 (su K))):=
 Vl F AU.2 sB.2 zM λip A cP s H E a=>by exact(gN (g8 (mO (Vj y9 Z.list pC (gG (Kh (PR (gY 0)) (l7 gX) pS) gJ)))))
theorem zN(F:uY K "asked" "AlikeRow.asked" ki f fd):Binds K fd ["self"] []:=F.binds (by walk_at "c")
abbrev k9:cc:=mN (top 27) 1
noncomputable def Ey:BF k9:=⟨_,by walk_at "a"⟩
noncomputable def vE:SF k9:=⟨_,by walk_at "a"⟩
theorem Ce:gU ["self"] ["self"] vE.1:=by walk_at "b"
theorem vF(F:uY K "asked" "AimRow.asked" k9 f fd):jR P w K mg cv rF (k+1) f fd ["self"] (lY K (J8 1 1 (vm K))):=
 Vl F Ey.2 vE.2 Ce λip A cP s H E a=>by have b:=je a;exact(gN (g8 (mO (j0 (gG (jc (jx b) (PR (gY 0)) (Vi gX)) gJ)))))
theorem uL(F:uY K "asked" "AimRow.asked" k9 f fd):Binds K fd ["self"] []:=F.binds (by walk_at "c")
abbrev jI:cc:=mN (top 28) 0
noncomputable def ye:BF jI:=⟨_,by walk_at "a"⟩
noncomputable def qd:SF jI:=⟨_,by walk_at "a"⟩
theorem xo:gU ["self"] ["self"] qd.1:=by walk_at "b"
theorem yf(F:uY K "goes_on" "LeaveRow.goes_on" jI f fd):jR P w K mg cv rF (k+1) f fd ["self"] (lY K (cl (kq 1 1 x9))):=
 R4 F ye.2 qd.2 xo λip A cP s H E a=>by exact(gN (g8 tu))
theorem xp(F:uY K "goes_on" "LeaveRow.goes_on" jI f fd):Binds K fd ["self"] []:=F.binds (by walk_at "c")
abbrev kj:cc:=mN (top 30) 1
noncomputable def AW:BF kj:=⟨_,by walk_at "a"⟩
noncomputable def sC:SF kj:=⟨_,by walk_at "a"⟩
theorem zO:gU ["self"] ["self"] sC.1:=by walk_at "b"
theorem AX(F:uY K "asked" "TableRow.asked" kj f fd)(Z:Zs mg):jR P w K mg cv rF (k+1) f fd ["self"] (lY K (J8 1 1 (sw K))):=
 Vl F AW.2 sC.2 zO λip A cP s H E a=>by have b:=je a;exact(gN (g8 (mO (Vj y9 Z.list pC (gG (jc (jx b) (PR (gY 0)) gX) gJ)))))
theorem zP(F:uY K "asked" "TableRow.asked" kj f fd):Binds K fd ["self"] []:=F.binds (by walk_at "c")
abbrev pD:cc:=top 31
noncomputable def IL:BF pD:=⟨_,by walk_at "a"⟩
noncomputable def t9:SF pD:=⟨_,by walk_at "a"⟩
theorem FR:gU ["form","thing"] ["form","thing"] t9.1:=by walk_at "b"
theorem IM(D:hG K mg "is_list_of" pD)(Z:Zs mg)(b:iu P w K mg cv k "fits" ["form","thing"] vn):oZ P w K mg cv (k+1) "is_list_of" ["form","thing"] (lY K (cl (kq 2 2 (tQ K vn)))):=
 jG D IL.2 t9.2 FR (by walk_at "c") λf ip A cP s H E a=>by
 have c:=je a;exact(gO (iH (o9 (yY (jZ (iR (pP jF Z.isinstance g9 (gG (gY 1) (gG (xO Z.list pC) gJ))))) (tD (jZ (Dj pR pR gX (pP mx Z.len mz (gG (gY 1) gJ)) (ph Z.Es)))))) (gN (g8 tu)) ij)
   (gN (g8 (pP HR Z.all IF (gG (jg (jM (N:=["one","form"]) (fr:=[am,ae 0]) (iW.of (pM:=["form","thing"]) (jt:=t9.1) (by decide+kernel)) (iP (gY 1)) iY (λ_ _ _ _ _=>(gW 0 (show cD (["one","form"]:List aJ) by decide+kernel))) (λ_ _ _ _ _=>kP) (λ_ _ _ _ _=>(jj b a (gG (gY 1) (gG (gY 0) gJ)))))) gJ)))))
abbrev IN:cc:=top 32
noncomputable def ado:BF IN:=⟨_,by walk_at "a"⟩
noncomputable def WB:SF IN:=⟨_,by walk_at "a"⟩
theorem Z3:gU ["form","thing"] ["form","thing"] WB.1:=by walk_at "b"
theorem WC(D:hG K mg "fits" IN)(Z:Zs mg)(e:iu P w K mg cv k "is_word" ["thing"] mH)(b:iu P w K mg cv k "is_whole" ["thing"] pY)(c:iu P w K mg cv k "is_list_of" ["form","thing"] lJ):oZ P w K mg cv (k+1) "fits" ["form","thing"] (lY K (cl (kq 2 2 (Ef K mH pY lJ)))):=
 jG D ado.2 WB.2 Z3 (by walk_at "c") λf ip A cP s H E a=>by
 have g:=je a;exact(gO (iH (iy (lR a.units) (gY 0) iG) (gN (g8 (jj e a (gG (gY 1) gJ)))) ij)
   (gO (iH (iy (lR a.units) (gY 0) iG) (gN (g8 (Dh (jj b a (gG (gY 1) gJ)) (J2 (yZ pR pR gX (gY 1) (ph Z.N4)))))) ij)
   (gO (iH (iy (lR a.units) (gY 0) iG) (gN (g8 (Dh (jj b a (gG (gY 1) gJ)) (J2 (yZ pR pR (ph Z.Et) (gY 1) (ph Z.zF)))))) ij)
   (gO (iH (iy (lR a.units) (gY 0) iG) (gN (g8 (pP jF Z.isinstance g9 (gG (gY 1) (gG (xO Z.bool QD) gJ))))) ij)
   (gO (iH (iy (lR a.units) (gY 0) iG) (gN (g8 (jj c a (gG iG (gG (gY 1) gJ))))) ij)
   (gN (g8 (jj c a (gG iG (gG (gY 1) gJ))))))))))
abbrev zR:cc:=top 33
noncomputable def WD:BF zR:=⟨_,by walk_at "a"⟩
noncomputable def EA:SF zR:=⟨_,by walk_at "a"⟩
theorem G5:gU ["thing","forms"] ["thing"] EA.1:=by walk_at "b"
theorem WE(D:hG K mg "is_row" zR)(Z:Zs mg)(c:mg "FORMS"=ae (.ref qN))(e:AD K qN zt)(g:iu P w K mg cv k "fits" ["form","thing"] vn):oZ P w K mg cv (k+1) "is_row" ["thing"] (lY K (cl (kq 2 1 (Eg K qN zt vn)))):=
 jG D WD.2 EA.2 G5 (by walk_at "c") λf ip A cP s H E a=>by
 have b:=je a;exact(gO (iH (o9 (yY (jZ (iR (pP jF Z.isinstance g9 (gG (gY 0) (gG (xO Z.tuple p8) gJ))))) (tD (iy (lR a.units) (pP mx Z.len mz (gG (gY 0) gJ)) gX)))) (gN (g8 tu)) ij)
   (gO (iH (o9 (yY (jZ (iR (pP jF Z.isinstance g9 (gG (jc (jx b) (gY 0) gX) (gG (xO Z.str N5) gJ))))) (tD (iy (Ko e) (jc (jx b) (gY 0) gX) (lB c))))) (gN (g8 tu)) ij)
   (gO (ii 1 G5.nd (jc (acG e) (lB c) (jc (jx b) (gY 0) gX)))
   (gO (iH (iy (Kf a.units) (pP mx Z.len mz (gG (gY 0) gJ)) (i6 jO gX (pP mx Z.len mz (gG (gY 1) gJ)))) (gN (g8 tu)) ij)
   (gN (g8 (pP HR Z.all IF (gG (jg (jM (N:=["form","one"]) (fr:=[am,am]) (iW.of (pM:=["thing","forms"]) (jt:=EA.1) (by decide+kernel)) (acB (gG (gY 1) (gG (Kh (gY 0) (l7 gX) pS) gJ)) Z.zip) (Cy (ou iY (ou iY HH))) (λ_ _ _ _ _=>(j8 (hV (gW 0 (show cD (["form","one"]:List aJ) by decide+kernel)) (hV (gW 1 (show cD (["form","one"]:List aJ) by decide+kernel)) i9)))) (λ_ _ _ _ _=>kP) (λ_ _ _ _ _=>(jj g a (gG (gY 0) (gG (gY 1) gJ)))))) gJ))))))))
abbrev ua:cc:=top 34
noncomputable def Oc:BF ua:=⟨_,by walk_at "a"⟩
noncomputable def EB:SF ua:=⟨_,by walk_at "a"⟩
theorem BQ:gU ["told","kind"] ["told"] EB.1:=by walk_at "b"
theorem Od(D:hG K mg "code_row" ua)(c:mg "SetRow"=ae (.ref vo))(e:oR P w K mg cv k vo zu)(g:mg "AlikeRow"=ae (.ref pZ))(h:oR P w K mg cv k pZ tR)(i:mg "LastRow"=ae (.ref sx))(j:oR P w K mg cv k sx wJ)(m:mg "LeaveRow"=ae (.ref p0))(n:oR P w K mg cv k p0 tS)(o:mg "AimRow"=ae (.ref vq))(p:oR P w K mg cv k vq zw)(q:mg "BoxRow"=ae (.ref vt))(r:oR P w K mg cv k vt zx):oZ P w K mg cv ((k+1)+1) "code_row" ["told"] (lY K (cl (kq 2 1 (Eh vo zu pZ tR sx wJ p0 tS vq zw vt zx)))):=
 jG D Oc.2 EB.2 BQ (by walk_at "c") λf ip A cP s H E a=>by
 have b:=je a;exact(gO (ii 1 BQ.nd (jc (jx b) (gY 0) gX))
   (gO (iH (iy (lR a.units) (gY 1) iG) (gN (g8 (pv e a c (gG (gY 0) gJ)))) ij)
   (gO (iH (iy (lR a.units) (gY 1) iG) (gN (g8 (pv h a g (gG (gY 0) gJ)))) ij)
   (gO (iH (iy (Vh b) (gY 1) (kJ (gG iG (gG iG gJ)))) (gN (g8 (pv j a i (gG (gY 0) gJ)))) ij)
   (gO (iH (iy (Vh b) (gY 1) (kJ (gG iG (gG iG gJ)))) (gN (g8 (pv n a m (gG (gY 0) gJ)))) ij)
   (gO (iH (iy (Vh b) (gY 1) (kJ (gG iG (gG iG (gG iG gJ))))) (gN (g8 (pv p a o (gG (gY 0) gJ)))) ij)
   (gN (g8 (pv r a q (gG (gY 0) gJ))))))))))
abbrev zS:cc:=top 35
noncomputable def WM:BF zS:=⟨_,by walk_at "a"⟩
noncomputable def EC:SF zS:=⟨_,by walk_at "a"⟩
theorem G6:gU ["thing","told"] ["thing"] EC.1:=by walk_at "b"
theorem WN(D:hG K mg "row_of" zS)(Z:Zs mg)(c:iu P w K mg cv (k+1) "is_row" ["thing"] zy)(e:mg "MarkRow"=ae (.ref iE))(g:oR P w K mg cv k iE wK)(h:mg "NumbersRow"=ae (.ref jv))(i:oR P w K mg cv k jv px)(j:mg "TableRow"=ae (.ref ku))(m:oR P w K mg cv k ku tT)(n:iu P w K mg cv (k+1) "code_row" ["told"] tU):oZ P w K mg cv ((k+1)+1) "row_of" ["thing"] (lY K (J8 2 1 (K7 K zy iE wK jv px ku tT tU))):=
 aa9 D WM.2 EC.2 G6 (by walk_at "c") λf ip A cP s H E a=>by
 have b:=je a;exact(gO (iH (jZ (iR (jj c a (gG (gY 0) gJ)))) (gN (g8 Bw)) ij)
   (gO (ii 1 G6.nd (j_t Dz Z.tuple p8 (gG (jg (jM (N:=["one"]) (fr:=[am]) (iW.of (pM:=["thing","told"]) (jt:=EC.1) (by decide+kernel)) (iP (gY 0)) iY (λ_ _ _ _ _=>(gW 0 (show cD (["one"]:List aJ) by decide+kernel))) (λ_ _ _ _ _=>kP) (λ_ _ _ _ _=>(aeB (iR (pP jF Z.isinstance g9 (gG (gY 0) (gG (xO Z.list pC) gJ)))) (j_t Dz Z.tuple p8 (gG (gY 0) gJ)) (gY 0))))) gJ)))
   (gO (iH (iy (lR a.units) (jc (jx b) (gY 1) gX) iG) (gN (g8 (pv g a e (gG (gY 1) gJ)))) ij)
   (gO (iH (iy (lR a.units) (jc (jx b) (gY 1) gX) iG) (gN (g8 (pv i a h (gG (gY 1) gJ)))) ij)
   (gO (iH (iy (lR a.units) (jc (jx b) (gY 1) gX) iG) (gN (g8 (pv m a j (gG (gY 1) gJ)))) ij)
   (gN (g8 (jj n a (gG (gY 1) gJ)))))))))
abbrev lM:cc:=top 41
noncomputable def AZ:BF lM:=⟨_,by walk_at "a"⟩
noncomputable def sD:SF lM:=⟨_,by walk_at "a"⟩
theorem zT:gU ["thing"] ["thing"] sD.1:=by walk_at "b"
theorem A0(D:hG K mg "counts_as_mark" lM)(Z:Zs mg):oZ P w K mg cv (k+1) "counts_as_mark" ["thing"] (lY K (cl (kq 1 1 (sy K)))):=
 jG D AZ.2 sD.2 zT (by walk_at "c") λf ip A cP s H E a=>by have b:=je a;exact(gN (g8 (Dh (pP jF Z.isinstance g9 (gG (gY 0) (gG (xO Z.tuple p8) gJ))) (Dh (Dg PK (pP mx Z.len mz (gG (gY 0) gJ)) gX) (Dh (pP jF Z.isinstance g9 (gG (jc (jx b) (gY 0) gX) (gG (xO Z.str N5) gJ))) (J2 (Dg (lR a.units) (jc (jx b) (gY 0) gX) iG)))))))
abbrev nY:cc:=top 42
noncomputable def FS:BF nY:=⟨_,by walk_at "a"⟩
noncomputable def rM:SF nY:=⟨_,by walk_at "a"⟩
theorem ED:gU ["things"] ["things"] rM.1:=by walk_at "b"
theorem FU(D:hG K mg "marks_among" nY)(Z:Zs mg)(a:iu P w K mg cv k "counts_as_mark" ["thing"] lK):oZ P w K mg cv (k+1) "marks_among" ["things"] (lY K (cl (kq 1 1 (xC lK)))):=
 jG D FS.2 rM.2 ED (by walk_at "c") λf ip A cP s H E b=>by exact(gN (g8 (pP mx Z.len mz (gG (jg (jM (fr:=[am]) (iW.of (pM:=["things"]) (jt:=rM.1) (by decide+kernel)) (iP (gY 0)) iY (λ_ _ _ _ _=>(gW 0 (show cD (["thing"]:List aJ) by decide+kernel))) (λ_ _ _ _ _=>(Cu (iR (jj a b (gG (gY 0) gJ))))) (λ_ _ _ _ _=>(gY 0)))) gJ))))
abbrev mY:cc:=top 43
noncomputable def EE:BF mY:=⟨_,by walk_at "a"⟩
noncomputable def vG:SF mY:=⟨_,by walk_at "a"⟩
theorem Cf:gU ["things"] ["things"] vG.1:=by walk_at "b"
theorem EF(D:hG K mg "others_among" mY)(Z:Zs mg)(a:iu P w K mg cv k "marks_among" ["things"] jy):oZ P w K mg cv (k+1) "others_among" ["things"] (lY K (cl (kq 1 1 (vy jy)))):=
 jG D EE.2 vG.2 Cf (by walk_at "c") λf ip A cP s H E b=>by exact(gN (g8 (i6 U1 (pP mx Z.len mz (gG (gY 0) gJ)) (jj a b (gG (gY 0) gJ)))))
abbrev wT:cc:=top 44
noncomputable def S7:BF wT:=⟨_,by walk_at "a"⟩
noncomputable def G7:SF wT:=⟨_,by walk_at "a"⟩
theorem Om:gU ["thing"] ["thing"] G7.1:=by walk_at "b"
theorem S8(D:hG K mg "is_part" wT)(Z:Zs mg)(c:iu P w K mg cv k "is_word" ["thing"] mH)(e:iu P w K mg cv k "others_among" ["things"] jb):oZ P w K mg cv (k+1) "is_part" ["thing"] (lY K (cl (kq 1 1 (G1 K mH jb)))):=
 jG D S7.2 G7.2 Om (by walk_at "c") λf ip A cP s H E a=>by
 have b:=je a;exact(gO (iH (o9 (yY (jZ (iR (pP jF Z.isinstance g9 (gG (gY 0) (gG (xO Z.tuple p8) gJ))))) (tD (iy (Kf a.units) (pP mx Z.len mz (gG (gY 0) gJ)) gX)))) (gN (g8 tu)) ij)
   (gO (iH (o9 (yY (jZ (iR (jj c a (gG (jc (jx b) (gY 0) gX) gJ)))) (tD (jZ (iR (pP jF Z.isinstance g9 (gG (jc (jx b) (gY 0) gX) (gG (xO Z.list pC) gJ)))))))) (gN (g8 tu)) ij)
   (gN (g8 (yZ pR pR gX (jj e a (gG (jc (jx b) (gY 0) gX) gJ)) (ph Z.xn))))))
abbrev qU:cc:=top 45
noncomputable def Lp:BF qU:=⟨_,by walk_at "a"⟩
noncomputable def mL:SF qU:=⟨_,by walk_at "a"⟩
theorem IQ:gU ["thing"] ["thing"] mL.1:=by walk_at "b"
theorem Lq(D:hG K mg "are_parts" qU)(Z:Zs mg)(g:iu P w K mg cv k "is_part" ["thing"] wN)(h:iu P w K mg cv k "others_among" ["things"] jb)(i:iu P w K mg cv k "marks_among" ["things"] jy):oZ P w K mg cv (k+1) "are_parts" ["thing"] (lY K (cl (kq 1 1 (BM K wN jb jy)))):=
 jG D Lp.2 mL.2 IQ (by walk_at "c") λf ip A cP s H E a=>by
 have b:=je a;exact(gO (iH (o9 (yY (jZ (iR (pP jF Z.isinstance g9 (gG (gY 0) (gG (xO Z.list pC) gJ))))) (tD (jZ (Dj pR pR gX (pP mx Z.len mz (gG (gY 0) gJ)) (ph Z.ID)))))) (gN (g8 tu)) ij)
   (gO (iH (jZ (iR (pP HR Z.all IF (gG (jg (jM (N:=["part"]) (fr:=[am]) (iW.of (pM:=["thing"]) (jt:=mL.1) (by decide+kernel)) (iP (gY 0)) iY (λ_ _ _ _ _=>(gW 0 (show cD (["part"]:List aJ) by decide+kernel))) (λ_ _ _ _ _=>kP) (λ_ _ _ _ _=>(jj g a (gG (gY 0) gJ))))) gJ)))) (gN (g8 tu)) ij)
   (gO (iH (iy (Kf a.units) (Vx a.hd Z.len Z.set (jg (jM (N:=["part"]) (fr:=[am]) (iW.of (pM:=["thing"]) (jt:=mL.1) (by decide+kernel)) (iP (gY 0)) iY (λ_ _ _ _ _=>(gW 0 (show cD (["part"]:List aJ) by decide+kernel))) (λ_ _ _ _ _=>kP) (λ_ _ _ _ _=>(jc (jx b) (gY 0) gX))))) (pP mx Z.len mz (gG (gY 0) gJ))) (gN (g8 tu)) ij)
   (gO (iH (iy PK (pP VJ Z.sum WA (gG (jg (jM (N:=["part"]) (fr:=[am]) (iW.of (pM:=["thing"]) (jt:=mL.1) (by decide+kernel)) (iP (gY 0)) iY (λ_ _ _ _ _=>(gW 0 (show cD (["part"]:List aJ) by decide+kernel))) (λ_ _ _ _ _=>kP) (λ_ _ _ _ _=>(jj h a (gG (jc (jx b) (gY 0) gX) gJ))))) gJ)) (ph Z.Lh)) (gN (g8 tu)) ij)
   (gN (g8 (Dg pR (pP VJ Z.sum WA (gG (jg (jM (N:=["part"]) (fr:=[am]) (iW.of (pM:=["thing"]) (jt:=mL.1) (by decide+kernel)) (iP (gY 0)) iY (λ_ _ _ _ _=>(gW 0 (show cD (["part"]:List aJ) by decide+kernel))) (λ_ _ _ _ _=>kP) (λ_ _ _ _ _=>(jj i a (gG (jc (jx b) (gY 0) gX) gJ))))) gJ)) (ph Z.IE))))))))
abbrev wU:cc:=top 46
noncomputable def Ta:BF wU:=⟨_,by walk_at "a"⟩
noncomputable def G8:SF wU:=⟨_,by walk_at "a"⟩
theorem qg:gU ["name","things","rows","number","thing","row"] ["name","things"] G8.1:=by walk_at "b"
theorem Tc(D:hG K mg "rows_of" wU)(Z:Zs mg)(b:iu P w K mg cv k "row_of" ["thing"] zE):oZ P w K mg cv (k+1) "rows_of" ["name","things"] (lY K (cl (kq 6 2 (G3 zE)))):=
 jG D Ta.2 G8.2 qg (by walk_at "c") λf ip A cP s H E a=>by
 have c:=je a;exact(gO (ii 2 qg.nd (mO (j0 gJ)))
   (gO (jE (wD (gG (gY 1) gJ) Z.enumerate) (j8 (hV (gW 3 qg.nd) (hV (gW 4 qg.nd) i9))) (gO (ii 5 qg.nd (jj b a (gG (gY 4) gJ)))
   (gO (iH (iy U3 (gY 5) Bw) (gN r9) ij)
   (gN (kO (zd kb af bb aF (gY 2) (gG (gY 5) gJ)))))))
   (gN (g8 (gY 2)))))
abbrev kW:cc:=top 47
noncomputable def zU:BF kW:=⟨_,by walk_at "a"⟩
noncomputable def qV:SF kW:=⟨_,by walk_at "a"⟩
theorem qh:gU ["rows","row"] ["rows"] qV.1:=by walk_at "b"
theorem zV(D:hG K mg "first_but_marks" kW)(Z:Zs mg)(a:mg "MarkRow"=ae (.ref iE)):oZ P w K mg cv (k+1) "first_but_marks" ["rows"] (lY K (cl (kq 2 1 (mV K iE)))):=
 jG D zU.2 qV.2 qh (by walk_at "c") λf ip A cP s H E b=>by
 exact(gO (jE (iP (gY 0)) (gW 1 qh.nd) (gN (iH (jZ (iR (pP jF Z.isinstance g9 (gG (gY 1) (gG (lB a) gJ))))) (gN (g8 (gY 1))) ij)))
   (gN (g8 Bw)))
abbrev kE:cc:=top 48
noncomputable def yh:BF kE:=⟨_,by walk_at "a"⟩
noncomputable def qi:SF kE:=⟨_,by walk_at "a"⟩
theorem j7:gU ["name","rows","number","row","behind"] ["name","rows"] qi.1:=by walk_at "b"
theorem yi(D:hG K mg "look_behind_rows" kE)(Z:Zs mg)(b:iu P w K mg cv k "first_but_marks" ["rows"] kR)(c:∀C g,wO C "goes_on" g->pU P w K mg cv k C "goes_on" g)(e:mg "CodeRow"=ae (.ref mI))(h:mg "MarkRow"=ae (.ref iE)):oZ P w K mg cv (k+1) "look_behind_rows" ["name","rows"] (lY K (cl (kq 5 2 (my K kR wO mI iE)))):=
 jG D yh.2 qi.2 j7 (by walk_at "c") λf ip A cP s H E a=>by
 have i:=je a;exact(gN (jE (wD (gG (gY 1) gJ) Z.enumerate) (j8 (hV (gW 2 j7.nd) (hV (gW 3 j7.nd) i9))) (gO (ii 4 j7.nd (jj b a (gG (Kh (gY 1) (l7 (i6 jO (gY 2) gX)) pS) gJ)))
   (gO (iH (o9 (u5 (iR (zc c a (gY 3))) (tz (jZ (iR (pP jF Z.isinstance g9 (gG (gY 4) (gG (lB e) gJ)))))))) (gN r9) ij)
   (gN (iH (o9 (u5 (iR (pP jF Z.isinstance g9 (gG (gY 3) (gG (lB h) gJ)))) (tz (iy U3 (gY 4) Bw)))) (gN r9) ij))))))
abbrev qW:cc:=top 49
noncomputable def Lr:BF qW:=⟨_,by walk_at "a"⟩
noncomputable def vH:SF qW:=⟨_,by walk_at "a"⟩
theorem pE:gU ["parts","told","name","rows"] ["parts"] vH.1:=by walk_at "b"
theorem Ls(D:hG K mg "looked_at" qW)(c:iu P w K mg cv k "are_parts" ["thing"] qO)(e:iu P w K mg cv k "rows_of" ["name","things"] wP)(g:iu P w K mg cv k "look_behind_rows" ["name","rows"] kx):oZ P w K mg cv (k+1) "looked_at" ["parts"] (lY K (cl (kq 4 1 (BN qO wP kx)))):=
 jG D Lr.2 vH.2 pE (by walk_at "c") λf ip A cP s H E a=>by
 have b:=je a;exact(gO (iH (jZ (iR (jj c a (gG (gY 0) gJ)))) (gN r9) ij)
   (gO (U0 1 pE.nd (N:=["part"]) (fr:=[am]) (iW.of (pM:=["parts","told","name","rows"]) (jt:=vH.1) (by decide+kernel)) (iP (gY 0)) iY (λ_ _ _ _ _=>(gW 0 (show cD (["part"]:List aJ) by decide+kernel))) (λ_ _ _ _ _=>kP) (λ_ _ _ _ _=>(kJ (gG (jc (jx b) (gY 0) gX) (gG (jj e a (gG (jc (jx b) (gY 0) gX) (gG (jc (jx b) (gY 0) gX) gJ))) gJ)))))
   (gO (jE (iP (gY 1)) (j8 (hV (gW 2 pE.nd) (hV (gW 3 pE.nd) i9))) (gN (kO (jj g a (gG (gY 2) (gG (gY 3) gJ))))))
   (gN (g8 (gY 1))))))
abbrev wV:cc:=top 51
noncomputable def Te:BF wV:=⟨_,by walk_at "a"⟩
noncomputable def G9:SF wV:=⟨_,by walk_at "a"⟩
theorem Op:gU ["parts"] ["parts"] G9.1:=by walk_at "b"
theorem Tf(D:hG K mg "by_name" wV)(a:DZ K mg cv)(Z:Zs mg):oZ P w K mg cv ((k+4)+1) "by_name" ["parts"] (lY K (cl (kq 1 1 G4))):=
 aeZ D a Te.2 G9.2 Op (by walk_at "c") λf ip A cP s H E b c=>by exact(gN (g8 (jg (VI (agS b) c Z.sorted (gY 0) ⟨rfl,rfl,rfl,by decide+kernel,rfl,by decide+kernel,by decide+kernel⟩))))
abbrev mh:cc:=top 52
noncomputable def Cg:BF mh:=⟨_,by walk_at "a"⟩
noncomputable def uM:SF mh:=⟨_,by walk_at "a"⟩
theorem i8:gU ["part","rows","marks","number","row","name","strong"] ["part","rows"] uM.1:=by walk_at "b"
theorem Ch(D:hG K mg "marks_of_part" mh)(Z:Zs mg)(e:mg "MarkRow"=ae (.ref iE))(h:∀C g,jU C "words" g->pU P w K mg cv k C "words" g):oZ P w K mg cv (k+1) "marks_of_part" ["part","rows"] (lY K (cl (kq 7 2 (oS K iE jU)))):=
 jG D Cg.2 uM.2 i8 (by walk_at "c") λf ip A cP s H E c=>by
 have i:=je c;exact(gO (ii 2 i8.nd (mO (j0 gJ)))
   (gO (ii 3 i8.nd gX)
   (gO (jE (iP (gY 1)) (gW 4 i8.nd) (gN (iH (iR (pP jF Z.isinstance g9 (gG (gY 4) (gG (lB e) gJ)))) (gO (M6 (Kh (zc h c (gY 4)) (l7 gX) pS) (j8 (hV (gW 5 i8.nd) (hV (gW 6 i8.nd) i9))))
   (gN (kO (zd kb af bb aF (gY 2) (gG (kJ (gG (gY 5) (gG (gY 6) (gG (kJ (gG (gY 0) (gG (gY 3) gJ))) gJ)))) gJ))))) (gN (Y7 (f:=λa b=>a+b) 3 i8.nd gX acJ)))))
   (gN (g8 (gY 2))))))
abbrev uc:cc:=top 53
noncomputable def Oq:BF uc:=⟨_,by walk_at "a"⟩
noncomputable def EG:SF uc:=⟨_,by walk_at "a"⟩
theorem qX:gU ["told","marks","part","rows"] ["told"] EG.1:=by walk_at "b"
theorem Ot(D:hG K mg "marks_in" uc)(b:iu P w K mg cv k "by_name" ["parts"] mJ)(c:iu P w K mg cv k "marks_of_part" ["part","rows"] md):oZ P w K mg cv (k+1) "marks_in" ["told"] (lY K (cl (kq 4 1 (En mJ md)))):=
 jG D Oq.2 EG.2 qX (by walk_at "c") λf ip A cP s H E a=>by
 have e:=je a;exact(gO (ii 1 qX.nd (mO (j0 gJ)))
   (gO (jE (iP (jj b a (gG (gY 0) gJ))) (j8 (hV (gW 2 qX.nd) (hV (gW 3 qX.nd) i9))) (gN (kO (zd R5 af PySem.F.slot_list_extend PySem.F.type_list_extend (gY 1) (gG (jj c a (gG (gY 2) (gG (gY 3) gJ))) gJ)))))
   (gN (g8 (gY 1)))))
abbrev mZ:cc:=top 54
noncomputable def EH:BF mZ:=⟨_,by walk_at "a"⟩
noncomputable def vJ:SF mZ:=⟨_,by walk_at "a"⟩
theorem kM:gU ["marks","parts","name","strong","place"] ["marks"] vJ.1:=by walk_at "b"
theorem EI(D:hG K mg "strong_parts" mZ):oZ P w K mg cv (k+1) "strong_parts" ["marks"] (lY K (J8 5 1 vz)):=
 aa9 D EH.2 vJ.2 kM (by walk_at "c") λf ip A cP s H E a=>by
 have b:=je a;exact(gO (ii 1 kM.nd (mO y0))
   (gO (jE (iP (gY 0)) (j8 (hV (gW 2 kM.nd) (hV (gW 3 kM.nd) (hV (gW 4 kM.nd) i9)))) (gN (iH (iR (gY 3)) (gN (kO (zd kb af bb aF (zd GH PySem.F.plainAttrs_dict PySem.F.slot_dict_setdefault PySem.F.type_dict_setdefault (gY 1) (gG (gY 2) (gG (mO (j0 gJ)) gJ))) (gG (jc (jx b) (gY 4) gX) gJ)))) ij)))
   (gN (g8 (gY 1)))))
abbrev lN:cc:=top 55
noncomputable def A4:BF lN:=⟨_,by walk_at "a"⟩
noncomputable def sE:SF lN:=⟨_,by walk_at "a"⟩
theorem m4:gU ["marks","parts","name"] ["marks"] sE.1:=by walk_at "b"
def nH (kg:GN)(qQ:aw):XB:=(Ea (λ_=>(iO 1 (iS kg (gH (gK 0) gR))))
 (afq (jh (j5 (TX vh (gH (gK 1) gR)))) (gZ 2) (xIf (hZ (iq (PH λi j=>.bl (decide (j<i))) (iS vf (gH (iq mS (gK 1) (gK 2)) gR)) (dC (.int 1)))) (Qw qQ "name" "parts" (gH (gK 2) (gH (j5 (wH (iq mS (gK 1) (gK 2)))) gR))) (λ_=>iD))))
theorem A5(D:hG K mg "look_for_twice" lN)(Z:Zs mg)(c:iu P w K mg cv (k+1) "strong_parts" ["marks"] kg)(e:Ec P w K mg cv k "Twice" qQ "name" "parts"):zm P w K mg cv ((k+1)+1) "look_for_twice" ["marks"] (FI K (zn 3 1 (nH kg qQ))):=
 K6 D A4.2 sE.2 m4 (by walk_at "c") λf ip A cP s H E a=>by
 have b:=je a;exact(l8 (JS.Iw (ii 1 m4.nd (jj c a (gG (gY 0) gJ))))
   (nW (ZS (iP (jg (Y5 (xX a.hd) Z.sorted wR (gG (gY 1) gJ)))) (gW 2 m4.nd) (nW (Wm (iy PK (pP mx Z.len mz (gG (jc (jx b) (gY 1) (gY 2)) gJ)) gX) (nW (N2 (f1:="name") (f2:="parts") e a (gG (gY 2) (gG (jg (NP a.hd Z.sorted Z.set (jc (jx b) (gY 1) (gY 2)))) gJ)))) (FD.Iw ij))) (λ_ _ _ _ h=>TC.th h) aid.leaving)))
abbrev qY:cc:=top 56
noncomputable def Lv:BF qY:=⟨_,by walk_at "a"⟩
noncomputable def BR:SF qY:=⟨_,by walk_at "a"⟩
theorem lP:gU ["told","marks","places","name","strong","place"] ["told"] BR.1:=by walk_at "b"
def vB (nI:GN)(jC:K2):XB:=(Ea (λ_=>(iO 1 (iS nI (gH (gK 0) gR))))
 (Ea (abm (dCX jC (λ_=>(gH (gK 1) gR))))
 (Ea (λ_=>(iO 2 (rJ Av)))
 (Ea (λ_=>(nr (jh (gK 1)) (kL 3 (ie (gZ 3) (ie (gZ 4) (ie (gZ 5) kK)))) (i7 (UP (hZ (gK 4)) (hZ (iq (Vg aj) (gK 3) (gK 2)))) (P0 (gK 2) (gK 3) (gK 5)) iD)))
 (λ_=>(iA (gK 2)))))))
theorem Lw(D:hG K mg "places_in" qY)(c:iu P w K mg cv k "marks_in" ["told"] nI)(e:sr P w K mg cv k "look_for_twice" ["marks"] jC):zm P w K mg cv (k+1) "places_in" ["told"] (FI K (zn 6 1 (vB nI jC))):=
 K6 D Lv.2 BR.2 lP (by walk_at "c") λf ip A cP s H E a=>by
 have b:=je a;exact(l8 (JS.Iw (ii 1 lP.nd (jj c a (gG (gY 0) gJ))))
   (l8 (Wn (GZ e a Qu (JA.Iw (gG (gY 1) gJ))))
   (l8 (JS.Iw (ii 2 lP.nd (mO y0)))
   (l8 (JS.Iw (jE (iP (gY 1)) (j8 (hV (gW 3 lP.nd) (hV (gW 4 lP.nd) (hV (gW 5 lP.nd) i9)))) (gN (iH (o9 (yY (iR (gY 4)) (tD (iy (y6 b) (gY 3) (gY 2))))) (gN (P4 b (gY 2) (gY 3) (gY 5))) ij)) (hp:=aid.leaving)))
   (nW (JS.Iw (g8 (gY 2))))))))
abbrev zX:cc:=top 57
noncomputable def WQ:BF zX:=⟨_,by walk_at "a"⟩
noncomputable def Lx:SF zX:=⟨_,by walk_at "a"⟩
theorem Tg:gU ["parts"] ["parts"] Lx.1:=by walk_at "b"
def Ly (jA:K2)(jz:GN):XB:=(afn (dCX jA (λ_=>(gH (iS jz (gH (gK 0) gR)) gR))))
theorem WR(D:hG K mg "stands" zX)(b:sr P w K mg cv k "places_in" ["told"] jA)(c:iu P w K mg cv k "looked_at" ["parts"] jz):zm P w K mg cv (k+1) "stands" ["parts"] (FI K (zn 1 1 (Ly jA jz))):=
 K6 D WQ.2 Lx.2 Tg (by walk_at "c") λf ip A cP s H E a=>by exact(nW (ZN (GZ b a Qu (JA.Iw (gG (jj c a (gG (gY 0) gJ)) gJ)))))
abbrev mj:cc:=top 58
noncomputable def Cj:BF mj:=⟨_,by walk_at "a"⟩
noncomputable def oV:SF mj:=⟨_,by walk_at "a"⟩
theorem A7:gU ["rows"] ["rows"] oV.1:=by walk_at "b"
theorem Ck(D:hG K mg "without_marks" mj)(Z:Zs mg)(a:mg "MarkRow"=ae (.ref iE)):oZ P w K mg cv (k+1) "without_marks" ["rows"] (lY K (cl (kq 1 1 (oU K iE)))):=
 jG D Cj.2 oV.2 A7 (by walk_at "c") λf ip A cP s H E b=>by exact(gN (g8 (jg (jM (iW.of (pM:=["rows"]) (jt:=oV.1) (by decide+kernel)) (iP (gY 0)) iY (λ_ _ _ _ _=>(gW 0 (show cD (["row"]:List aJ) by decide+kernel))) (λ_ _ _ _ _=>(Cu (jZ (iR (pP jF Z.isinstance g9 (gG (gY 0) (gG (lB a) gJ))))))) (λ_ _ _ _ _=>(gY 0))))))
abbrev qZ:cc:=top 59
noncomputable def Lz:BF qZ:=⟨_,by walk_at "a"⟩
noncomputable def vN:SF qZ:=⟨_,by walk_at "a"⟩
theorem IS:gU ["told"] ["told"] vN.1:=by walk_at "b"
theorem LA(D:hG K mg "bare_rows" qZ)(Z:Zs mg)(b:iu P w K mg cv k "by_name" ["parts"] mJ)(c:iu P w K mg cv k "without_marks" ["rows"] mf):oZ P w K mg cv (k+1) "bare_rows" ["told"] (lY K (cl (kq 1 1 (BO mJ mf)))):=
 jG D Lz.2 vN.2 IS (by walk_at "c") λf ip A cP s H E a=>by have e:=je a;exact(gN (g8 (jg (Vj (VB a.hd) Z.dict Z2 (gG (jg (jM (fr:=[am,am]) (iW.of (pM:=["told"]) (jt:=vN.1) (by decide+kernel)) (iP (jj b a (gG (gY 0) gJ))) (Cy (ou iY (ou iY HH))) (λ_ _ _ _ _=>(j8 (hV (gW 0 (show cD (["part","rows"]:List aJ) by decide+kernel)) (hV (gW 1 (show cD (["part","rows"]:List aJ) by decide+kernel)) i9)))) (λ_ _ _ _ _=>kP) (λ_ _ _ _ _=>(kJ (gG (gY 0) (gG (jj c a (gG (gY 1) gJ)) gJ)))))) gJ)))))
abbrev ud:cc:=top 60
noncomputable def Ov:BF ud:=⟨_,by walk_at "a"⟩
noncomputable def EK:SF ud:=⟨_,by walk_at "a"⟩
theorem LB:gU ["lists","place"] ["lists","place"] EK.1:=by walk_at "b"
theorem Ow(D:hG K mg "at_place" ud):oZ P w K mg cv (k+1) "at_place" ["lists","place"] (lY K (cl (kq 2 2 Eo))):=
 jG D Ov.2 EK.2 LB (by walk_at "c") λf ip A cP s H E b=>by have a:=je b;exact(gN (g8 (jc (jx a) (jc (jx a) (gY 0) (jc (jx a) (gY 1) gX)) (jc (jx a) (gY 1) gX))))
abbrev pF:cc:=top 61
noncomputable def IT:BF pF:=⟨_,by walk_at "a"⟩
noncomputable def zY:SF pF:=⟨_,by walk_at "a"⟩
theorem xE:gU ["row","aim","kind"] ["row","aim"] zY.1:=by walk_at "b"
theorem IU(D:hG K mg "may_aim_at" pF)(Z:Zs mg)(b:∀C g,jU C "words" g->pU P w K mg cv k C "words" g)(c:mg "NumbersRow"=ae (.ref jv))(e:mg "TableRow"=ae (.ref ku))(h:mg "CodeRow"=ae (.ref mI)):oZ P w K mg cv (k+1) "may_aim_at" ["row","aim"] (lY K (cl (kq 3 2 (tW K jU jv ku mI)))):=
 jG D IT.2 zY.2 xE (by walk_at "c") λf ip A cP s H E a=>by
 have i:=je a;exact(gO (ii 2 xE.nd (jc (jx i) (zc b a (gY 0)) gX))
   (gO (iH (iy (lR a.units) (gY 2) iG) (gN (g8 tu)) ij)
   (gO (iH (iy (lR a.units) (gY 2) iG) (gN (g8 (pP jF Z.isinstance g9 (gG (gY 1) (gG (lB c) gJ))))) ij)
   (gO (iH (iy (lR a.units) (gY 2) iG) (gN (g8 (pP jF Z.isinstance g9 (gG (gY 1) (gG (lB e) gJ))))) ij)
   (gN (g8 (pP jF Z.isinstance g9 (gG (gY 1) (gG (lB h) gJ)))))))))
abbrev m5:cc:=top 62
noncomputable def EL:BF m5:=⟨_,by walk_at "a"⟩
noncomputable def vO:SF m5:=⟨_,by walk_at "a"⟩
theorem mn:gU ["part","bare","places","number","row","name"] ["part","bare","places"] vO.1:=by walk_at "b"
theorem EM(D:hG K mg "look_at_aims" m5)(Z:Zs mg)(c:∀C g,tV C "asked" g->pU P w K mg cv k C "asked" g)(e:iu P w K mg cv k "may_aim_at" ["row","aim"] pA)(h:iu P w K mg cv k "at_place" ["lists","place"] tX):oZ P w K mg cv (k+1) "look_at_aims" ["part","bare","places"] (lY K (cl (kq 6 3 (vC tV pA tX)))):=
 jG D EL.2 vO.2 mn (by walk_at "c") λf ip A cP s H E a=>by
 have b:=je a;exact(gN (jE (wD (gG (jc (jx b) (gY 1) (gY 0)) gJ) Z.enumerate) (j8 (hV (gW 3 mn.nd) (hV (gW 4 mn.nd) i9))) (gN (jE (iP (zc c a (gY 4))) (gW 5 mn.nd) (gO (iH (iy (y6 b) (gY 5) (gY 2)) (gN r9) ij)
   (gN (iH (jZ (iR (jj e a (gG (gY 4) (gG (jj h a (gG (gY 1) (gG (jc (jx b) (gY 2) (gY 5)) gJ))) gJ))))) (gN r9) ij)))))))
abbrev zZ:cc:=top 63
noncomputable def WT:BF zZ:=⟨_,by walk_at "a"⟩
noncomputable def LC:SF zZ:=⟨_,by walk_at "a"⟩
theorem pL:gU ["parts","told","places","bare","part","rows"] ["parts"] LC.1:=by walk_at "b"
def Ep (jz:GN)(jA:K2)(mK:GN)(kh:GN):XB:=(Ea (λ_=>(iO 1 (iS jz (gH (gK 0) gR))))
 (Ea (ZO 2 (dCX jA (λ_=>(gH (gK 1) gR))))
 (Ea (λ_=>(iO 3 (iS mK (gH (gK 1) gR))))
 (Ea (λ_=>(nr (jh (gK 1)) (kL 2 (ie (gZ 4) (ie (gZ 5) kK))) (mP (iS kh (gH (gK 4) (gH (gK 3) (gH (gK 2) gR)))))))
 (λ_=>(iA (nA (gH (gK 3) (gH (gK 2) gR)))))))))
theorem WU(D:hG K mg "let_by" zZ)(b:iu P w K mg cv k "looked_at" ["parts"] jz)(c:sr P w K mg cv k "places_in" ["told"] jA)(e:iu P w K mg cv k "bare_rows" ["told"] mK)(g:iu P w K mg cv k "look_at_aims" ["part","bare","places"] kh):zm P w K mg cv (k+1) "let_by" ["parts"] (FI K (zn 6 1 (Ep jz jA mK kh))):=
 K6 D WT.2 LC.2 pL (by walk_at "c") λf ip A cP s H E a=>by
 have h:=je a;exact(l8 (JS.Iw (ii 1 pL.nd (jj b a (gG (gY 0) gJ))))
   (l8 (Ix 2 pL.nd (GZ c a Qu (JA.Iw (gG (gY 1) gJ))))
   (l8 (JS.Iw (ii 3 pL.nd (jj e a (gG (gY 1) gJ))))
   (l8 (JS.Iw (jE (iP (gY 1)) (j8 (hV (gW 4 pL.nd) (hV (gW 5 pL.nd) i9))) (gN (kO (jj g a (gG (gY 4) (gG (gY 3) (gG (gY 2) gJ)))))) (hp:=aid.leaving)))
   (nW (JS.Iw (g8 (kJ (gG (gY 3) (gG (gY 2) gJ))))))))))
abbrev CL:cc:=top 64
noncomputable def Z5:BF CL:=⟨_,by walk_at "a"⟩
noncomputable def IW:SF CL:=⟨_,by walk_at "a"⟩
theorem EO:gU ["parts","bare","places"] ["parts"] IW.1:=by walk_at "b"
def QJ (zG:K2)(jU:FE):XB:=(Ea (afo (dCX zG (λ_=>(gH (gK 0) gR))) (kL 2 (ie (gZ 1) (ie (gZ 2) kK))))
 (λ_=>(iA (j5 (l4 [am,am] (Im (gK 1)) (kL 2 (ie (gZ 0) (ie (gZ 1) kK))) xR (nA (gH (gK 0) (gH (j5 (l4 [am] (jh (gK 1)) (gZ 0) xR (Gy jU "words" (gK 0) gR))) gR))))))))
theorem Z6(D:hG K mg "bound" CL)(b:sr P w K mg cv k "let_by" ["parts"] zG)(c:∀C g,jU C "words" g->pU P w K mg cv k C "words" g):zm P w K mg cv (k+1) "bound" ["parts"] (FI K (zn 3 1 (QJ zG jU))):=
 K6 D Z5.2 IW.2 EO (by walk_at "c") λf ip A cP s H E a=>by
 have i:=je a;exact(l8 (ZP (GZ b a Qu (JA.Iw (gG (gY 0) gJ))) (j8 (hV (gW 1 EO.nd) (hV (gW 2 EO.nd) i9))))
   (nW (JS.Iw (g8 (jg (jM (N:=["part","rows"]) (fr:=[am,am]) (iW.of (pM:=["parts","bare","places"]) (jt:=IW.1) (by decide+kernel)) (KA (gY 1)) (Cy (ou iY (ou iY HH))) (λ_ _ _ _ _=>(j8 (hV (gW 0 (show cD (["part","rows"]:List aJ) by decide+kernel)) (hV (gW 1 (show cD (["part","rows"]:List aJ) by decide+kernel)) i9)))) (λ_ _ _ _ _=>kP) (λ_ _ _ _ _=>(kJ (gG (gY 0) (gG (jg (jM (N:=["row"]) (fr:=[am]) (iW.of (pM:=["part","rows"]) (jt:={kind:=.function,names:=[(".0",.local),("part",.local),("rows",.local)],isGenerator:=aq,isCoroutine:=aq}) (by decide+kernel)) (iP (gY 1)) iY (λ_ _ _ _ _=>(gW 0 (show cD (["row"]:List aJ) by decide+kernel))) (λ_ _ _ _ _=>kP) (λ_ _ _ _ _=>(zc c a (gY 0))))) gJ))))))))))
abbrev nZ:cc:=top 66
noncomputable def FV:BF nZ:=⟨_,by walk_at "a"⟩
noncomputable def xF:SF nZ:=⟨_,by walk_at "a"⟩
theorem EQ:gU ["_law_script","_law_k"] ["_law_script","_law_k"] xF.1:=by walk_at "b"
def xG:DS:=(ib (i7 (hZ (iq gLt (gK 1) (iS vf (gH (gK 0) gR)))) (iA (iq mS (gK 0) (gK 1))) iD)
 (iA (dC (.int 0))))
theorem FW(D:hG K mg "_law_cell_at" nZ)(Z:Zs mg):oZ P w K mg cv (k+1) "_law_cell_at" ["_law_script","_law_k"] (lY K (cl (kq 2 2 xG))):=
 jG D FV.2 xF.2 EQ (by walk_at "c") λf ip A cP s H E a=>by
 have b:=je a;exact(gO (iH (iy aa1 (gY 1) (pP mx Z.len mz (gG (gY 0) gJ))) (gN (g8 (jc (jx b) (gY 0) (gY 1)))) ij)
   (gN (g8 gX)))
abbrev re:cc:=top 67
noncomputable def LF:BF re:=⟨_,by walk_at "a"⟩
noncomputable def BS:SF re:=⟨_,by walk_at "a"⟩
theorem ue:gU ["_law_cell","_law_k","_law_number"] ["_law_cell","_law_k"] BS.1:=by walk_at "b"
theorem LG(D:hG K mg "_law_mixed" re):oZ P w K mg cv (k+1) "_law_mixed" ["_law_cell","_law_k"] (lY K (cl (kq 3 2 BL))):=
 jG D LF.2 BS.2 ue (by walk_at "c") λf ip A cP s H E a=>by
 exact(gO (ii 2 ue.nd (i6 oQ (i6 pT (i6 jO (i6 jO (i6 oQ (gY 0) gX) (i6 pT gX (gY 1))) gX) gX) gX))
   (gO (ii 2 ue.nd (i6 oQ (i6 pT (gY 2) (i6 jO (i6 tH (gY 2) gX) gX)) gX))
   (gN (g8 (i6 oQ (i6 pT (i6 jO (gY 2) (i6 pT gX (gY 1))) (i6 jO (i6 tH (gY 2) gX) gX)) gX)))))
abbrev rf:cc:=top 68
noncomputable def LH:BF rf:=⟨_,by walk_at "a"⟩
noncomputable def BU:SF rf:=⟨_,by walk_at "a"⟩
theorem lQ:gU ["_law_cell","_law_sizes","_law_found","_law_rest","_law_k","_law_size"] ["_law_cell","_law_sizes"] BU.1:=by walk_at "b"
def vP (oy:GN):DS:=(ib (iO 2 (rJ (qB gR)))
 (ib (iO 3 (iq (gI As λi j=>.int (i/j)) (gK 0) (dC (.int 2))))
 (ib (nr (xV (gH (gK 1) gR)) (kL 2 (ie (gZ 4) (ie (gZ 5) kK))) (i7 (FC (hZ (iq Ca (iq (gI (λ_ j=>0<j) λi j=>.int (i%j)) (gK 0) (dC (.int 2))) (dC (.int 0)))) (hZ (iq (Vg aj) (gK 3) (nA (gH (dC (.int 0)) (gH (Y1 (dC (.int 1))) gR)))))) (ib (mP (Mu "list" ka (gK 2) (gH (iq (gI (λ_ j=>0<j) λi j=>.int (i%j)) (gK 3) (gK 5)) gR)))
 (iO 3 (iq (gI As λi j=>.int (i/j)) (gK 3) (gK 5)))) (mP (Mu "list" ka (gK 2) (gH (iq (gI (λ_ j=>0<j) λi j=>.int (i%j)) (iq j9 (iS oy (gH (iq (gI As λi j=>.int (i/j)) (gK 0) (dC (.int 2))) (gH (gK 4) gR))) (iq (gI Yg λi j=>.int (i^j.toNat)) (iS oy (gH (iq (gI As λi j=>.int (i/j)) (gK 0) (dC (.int 2))) (gH (iq j9 (gK 4) (dC (.int 97))) gR))) (dC (.int 7)))) (gK 5)) gR)))))
 (iA (gK 2)))))
theorem LI(D:hG K mg "_law_parts" rf)(Z:Zs mg)(b:iu P w K mg cv k "_law_mixed" ["_law_cell","_law_k"] oy):oZ P w K mg cv (k+1) "_law_parts" ["_law_cell","_law_sizes"] (lY K (cl (kq 6 2 (vP oy)))):=
 jG D LH.2 BU.2 lQ (by walk_at "c") λf ip A cP s H E a=>by
 have c:=je a;exact(gO (ii 2 lQ.nd (mO (j0 gJ)))
   (gO (ii 3 lQ.nd (i6 tH (gY 0) gX))
   (gO (jE (wD (gG (gY 1) gJ) Z.enumerate) (j8 (hV (gW 4 lQ.nd) (hV (gW 5 lQ.nd) i9))) (gN (iH (o9 (u5 (iy (lR a.units) (i6 oQ (gY 0) gX) gX) (tz (iy (y6 c) (gY 3) (kJ (gG gX (gG (Vi gX) gJ))))))) (gO (kO (zd kb af bb aF (gY 2) (gG (i6 oQ (gY 3) (gY 5)) gJ)))
   (gN (ii 3 lQ.nd (i6 tH (gY 3) (gY 5))))) (gN (kO (zd kb af bb aF (gY 2) (gG (i6 oQ (i6 jO (jj b a (gG (i6 tH (gY 0) gX) (gG (gY 4) gJ))) (i6 act (jj b a (gG (i6 tH (gY 0) gX) (gG (i6 jO (gY 4) gX) gJ))) gX)) (gY 5)) gJ)))))))
   (gN (g8 (gY 2))))))
abbrev pG:cc:=top 69
noncomputable def IX:BF pG:=⟨_,by walk_at "a"⟩
noncomputable def z6:SF pG:=⟨_,by walk_at "a"⟩
theorem j4:gU ["_law_cell","_law_names","_law_most","_law_parts_here","_law_rows","_law_k","_law_way","_law_name","_law_strong"] ["_law_cell","_law_names","_law_most"] z6.1:=by walk_at "b"
def uf (kt:GN):DS:=(ib (iO 3 (iS kt (gH (gK 0) (gH (iq j9 (j5 (qB (gH (gK 2) gR))) (iq y7 (j5 (qB (gH (dC (.int 5)) (gH (iS vf (gH (gK 1) gR)) (gH (dC (.int 2)) gR))))) (gK 2))) gR))))
 (ib (iO 4 (rJ (qB gR)))
 (ib (nr (HQ (gH (iq j9 (dC (.int 1)) (iq mS (gK 3) (dC (.int 0)))) gR)) (gZ 5) (ib (UV (Y0 (gK 3) (u9 (iq j9 (dC (.int 1)) (iq y7 (dC (.int 3)) (gK 5)))) (u9 (iq j9 (dC (.int 4)) (iq y7 (dC (.int 3)) (gK 5))))) (KI 3 (ie (gZ 6) (ie (gZ 7) (ie (gZ 8) kK)))))
 (i7 (hZ (iq gLt (gK 6) (dC (.int 3)))) (mP (Mu "list" ka (gK 4) (gH (nA (gH (dC (.str "mark")) (gH (iq mS (gK 1) (gK 7)) (gH (Bx (iq Ca (gK 8) (dC (.int 1))) (iq Ca (gK 6) (dC (.int 0)))) gR)))) gR))) (mP (Mu "list" ka (gK 4) (gH (iq mS (j5 (qB (gH (nA (gH (dC (.str "stop")) gR)) (gH (nA (gH (dC (.str "numbers")) (gH (j5 (qB (gH (gK 5) (gH (gK 6) gR)))) gR))) gR)))) (iq (PH λi j=>.int (i- j)) (gK 6) (dC (.int 3)))) gR))))))
 (iA (iq j9 (gK 4) (j5 (qB (gH (nA (gH (dC (.str "stop")) gR)) gR))))))))
theorem IY(D:hG K mg "_law_marked" pG)(Z:Zs mg)(c:iu P w K mg cv k "_law_parts" ["_law_cell","_law_sizes"] kt):oZ P w K mg cv (k+1) "_law_marked" ["_law_cell","_law_names","_law_most"] (lY K (cl (kq 9 3 (uf kt)))):=
 jG D IX.2 z6.2 j4 (by walk_at "c") λf ip A cP s H E a=>by
 have b:=je a;exact(gO (ii 3 j4.nd (jj c a (gG (gY 0) (gG (i6 jO (jg (j0 (gG (gY 2) gJ))) (i6 pT (jg (j0 (gG gX (gG (pP mx Z.len mz (gG (gY 1) gJ)) (gG gX gJ))))) (gY 2))) gJ))))
   (gO (ii 4 j4.nd (mO (j0 gJ)))
   (gO (jE (AB (gG (i6 jO gX (jc (jx b) (gY 3) gX)) gJ) Z.range) (gW 5 j4.nd) (gO (M6 (Kh (gY 3) (l7 (i6 jO gX (i6 pT gX (gY 5)))) (l7 (i6 jO gX (i6 pT gX (gY 5))))) (acW (hV (gW 6 j4.nd) (hV (gW 7 j4.nd) (hV (gW 8 j4.nd) i9)))))
   (gN (iH (iy aa1 (gY 6) gX) (gN (kO (zd kb af bb aF (gY 4) (gG (kJ (gG iG (gG (jc (jx b) (gY 1) (gY 7)) (gG (Dh (Dg (lR a.units) (gY 8) gX) (J2 (Dg (lR a.units) (gY 6) gX))) gJ)))) gJ)))) (gN (kO (zd kb af bb aF (gY 4) (gG (jc (jx b) (jg (j0 (gG (kJ (gG iG gJ)) (gG (kJ (gG iG (gG (jg (j0 (gG (gY 5) (gG (gY 6) gJ)))) gJ))) gJ)))) (i6 U1 (gY 6) gX)) gJ))))))))
   (gN (g8 (i6 jO (gY 4) (jg (j0 (gG (kJ (gG iG gJ)) gJ)))))))))
abbrev kF:cc:=top 70
noncomputable def yk:BF kF:=⟨_,by walk_at "a"⟩
noncomputable def qj:SF kF:=⟨_,by walk_at "a"⟩
theorem iU:gU ["_law_cells","_law_names","_law_most","_law_parts_here","_law_found","_law_k","_law_cell","_law_word"] ["_law_cells","_law_names","_law_most"] qj.1:=by walk_at "b"
def mC (kt:GN)(pB:GN):DS:=(ib (iO 3 (iS kt (gH (iq mS (gK 0) (dC (.int 0))) (gH (j5 (qB (gH (dC (.int 12)) (gH (dC (.int 12)) gR)))) gR))))
 (ib (iO 4 (rJ (qB gR)))
 (ib (nr (xV (gH (Y0 (gK 0) (u9 (dC (.int 1))) qK) gR)) (kL 2 (ie (gZ 5) (ie (gZ 6) kK))) (ib (iO 7 (iq mS (dC (.str "abcdefghijkl")) (iq (gI (λ_ j=>0<j) λi j=>.int (i%j)) (iq j9 (iq mS (gK 3) (dC (.int 0))) (iq y7 (iq j9 (dC (.int 1)) (iq y7 (iq (gI (λ_ j=>0<j) λi j=>.int (i%j)) (iq mS (gK 3) (dC (.int 1))) (dC (.int 2))) (dC (.int 4)))) (gK 5))) (dC (.int 12)))))
 (mP (Mu "list" ka (gK 4) (gH (nA (gH (iq y7 (gK 7) (iq j9 (dC (.int 1)) (iq (gI (λ_ j=>0<j) λi j=>.int (i%j)) (gK 5) (dC (.int 3))))) (gH (iS pB (gH (gK 6) (gH (gK 1) (gH (gK 2) gR)))) gR))) gR)))))
 (iA (gK 4)))))
theorem yl(D:hG K mg "_law_marked_parts" kF)(Z:Zs mg)(c:iu P w K mg cv k "_law_parts" ["_law_cell","_law_sizes"] kt)(e:iu P w K mg cv k "_law_marked" ["_law_cell","_law_names","_law_most"] pB):oZ P w K mg cv (k+1) "_law_marked_parts" ["_law_cells","_law_names","_law_most"] (lY K (cl (kq 8 3 (mC kt pB)))):=
 jG D yk.2 qj.2 iU (by walk_at "c") λf ip A cP s H E b=>by
 have a:=je b;exact(gO (ii 3 iU.nd (jj c b (gG (jc (jx a) (gY 0) gX) (gG (jg (j0 (gG gX (gG gX gJ)))) gJ))))
   (gO (ii 4 iU.nd (mO (j0 gJ)))
   (gO (jE (wD (gG (Kh (gY 0) (l7 gX) pS) gJ) Z.enumerate) (j8 (hV (gW 5 iU.nd) (hV (gW 6 iU.nd) i9))) (gO (ii 7 iU.nd (jc (jx a) iG (i6 oQ (i6 jO (jc (jx a) (gY 3) gX) (i6 pT (i6 jO gX (i6 pT (i6 oQ (jc (jx a) (gY 3) gX) gX) gX)) (gY 5))) gX)))
   (gN (kO (zd kb af bb aF (gY 4) (gG (kJ (gG (i6 pT (gY 7) (i6 jO gX (i6 oQ (gY 5) gX))) (gG (jj e b (gG (gY 6) (gG (gY 1) (gG (gY 2) gJ)))) gJ))) gJ))))))
   (gN (g8 (gY 4))))))
abbrev rg:cc:=top 71
noncomputable def LJ:BF rg:=⟨_,by walk_at "a"⟩
noncomputable def BW:SF rg:=⟨_,by walk_at "a"⟩
theorem kH:gU ["_law_parts_here","_law_found","_law_part","_law_rows","_law_k","_law_row"] ["_law_parts_here"] BW.1:=by walk_at "b"
def vR:DS:=(ib (iO 1 (rJ Av))
 (ib (nr (jh (j5 (TX CB (gH (gK 0) gR)))) (kL 2 (ie (gZ 2) (ie (gZ 3) kK))) (ib (iO 4 (dC (.int 0)))
 (nr (jh (gK 3)) (gZ 5) (i7 (hZ (iq Ca (iq mS (gK 5) (dC (.int 0))) (dC (.str "mark")))) (mP (Mu "list" ka (Mu "dict" DV (gK 1) (gH (iq mS (gK 5) (dC (.int 1))) (gH (rJ (qB gR)) gR))) (gH (nA (gH (iq mS (gK 5) (dC (.int 2))) (gH (gK 2) (gH (gK 4) gR)))) gR))) (iO 4 (iq j9 (gK 4) (dC (.int 1))))))))
 (iA (gK 1))))
theorem LL(D:hG K mg "_law_marks" rg)(Z:Zs mg):oZ P w K mg cv (k+1) "_law_marks" ["_law_parts_here"] (lY K (cl (Zw 6 1 vR))):=
 acX D LJ.2 BW.2 kH (by walk_at "c") λf ip A cP s H E b=>by
 have a:=je b;exact(gO (ii 1 kH.nd (mO y0))
   (gO (jE (iP (jg (Y5 Sm Z.sorted wR (gG (gY 0) gJ)))) (j8 (hV (gW 2 kH.nd) (hV (gW 3 kH.nd) i9))) (gO (ii 4 kH.nd gX)
   (gN (jE (iP (gY 3)) (gW 5 kH.nd) (gN (iH (iy (lR b.units) (jc (jx a) (gY 5) gX) iG) (gN (kO (zd kb af bb aF (zd GH PySem.F.plainAttrs_dict PySem.F.slot_dict_setdefault PySem.F.type_dict_setdefault (gY 1) (gG (jc (jx a) (gY 5) gX) (gG (mO (j0 gJ)) gJ))) (gG (kJ (gG (jc (jx a) (gY 5) gX) (gG (gY 2) (gG (gY 4) gJ)))) gJ)))) (gN (ii 4 kH.nd (i6 jO (gY 4) gX)))))))))
   (gN (g8 (gY 1)))))
abbrev ri:cc:=top 72
noncomputable def LM:BF ri:=⟨_,by walk_at "a"⟩
noncomputable def rj:SF ri:=⟨_,by walk_at "a"⟩
theorem ug:gU ["_law_marks_here","_law_name","_law_strong"] ["_law_marks_here"] rj.1:=by walk_at "b"
def vS:DS:=(ib (nr (jh (j5 (TX vh (gH (gK 0) gR)))) (gZ 1) (ib (iO 2 (j5 (TX vh (gH (j5 (l4 [am] (jh (iq mS (gK 0) (gK 1))) (gZ 0) (hZ (iq mS (gK 0) (dC (.int 0)))) (iq mS (gK 0) (dC (.int 1))))) gR))))
 (i7 (hZ (iq (PH λi j=>.bl (decide (j<i))) (iS vf (gH (gK 2) gR)) (dC (.int 1)))) (iA (nA (gH (gK 1) (gH (j5 (l4 [am,am,ae 2] (xV (gH (gK 2) gR)) (kL 2 (ie (gZ 0) (ie (gZ 1) kK))) (hZ (iq (Vg aj) (gK 1) (Y0 (gK 2) qK (u9 (gK 0))))) (gK 1))) gR)))) iD)))
 (iA (dC .non)))
theorem LN(D:hG K mg "_law_twice" ri)(Z:Zs mg):oZ P w K mg cv (k+1) "_law_twice" ["_law_marks_here"] (lY K (cl (kq 3 1 vS))):=
 jG D LM.2 rj.2 ug (by walk_at "c") λf ip A cP s H E b=>by
 have a:=je b;exact(gO (jE (iP (jg (Y5 (xX b.hd) Z.sorted wR (gG (gY 0) gJ)))) (gW 1 ug.nd) (gO (ii 2 ug.nd (jg (Y5 (xX b.hd) Z.sorted wR (gG (jg (jM (N:=["_law_mark"]) (fr:=[am]) (iW.of (pM:=["_law_marks_here","_law_name","_law_strong"]) (jt:=rj.1) (by decide+kernel)) (iP (jc (jx a) (gY 0) (gY 1))) iY (λ_ _ _ _ _=>(gW 0 (show cD (["_law_mark"]:List aJ) by decide+kernel))) (λ_ _ _ _ _=>(Cu (iR (jc (jx a) (gY 0) gX)))) (λ_ _ _ _ _=>(jc (jx a) (gY 0) gX)))) gJ))))
   (gN (iH (iy PK (pP mx Z.len mz (gG (gY 2) gJ)) gX) (gN (g8 (kJ (gG (gY 1) (gG (jg (jM (N:=["_law_k","_law_part","_law_strong"]) (fr:=[am,am,ae 2]) (iW.of (pM:=["_law_marks_here","_law_name","_law_strong"]) (jt:=rj.1) (by decide+kernel)) (wD (gG (gY 2) gJ) Z.enumerate) (Cy (ou iY (ou iY HH))) (λ_ _ _ _ _=>(j8 (hV (gW 0 (show cD (["_law_k","_law_part","_law_strong"]:List aJ) by decide+kernel)) (hV (gW 1 (show cD (["_law_k","_law_part","_law_strong"]:List aJ) by decide+kernel)) i9)))) (λ_ _ _ _ _=>(Cu (iy (y6 a) (gY 1) (Kh (gY 2) pS (l7 (gY 0)))))) (λ_ _ _ _ _=>(gY 1)))) gJ))))) ij))))
   (gN (g8 Bw)))
abbrev wW:cc:=top 73
noncomputable def Th:BF wW:=⟨_,by walk_at "a"⟩
noncomputable def Ha:SF wW:=⟨_,by walk_at "a"⟩
theorem mD:gU ["_law_marks_here","_law_found","_law_name","_law_some","_law_first","_law_mark"] ["_law_marks_here"] Ha.1:=by walk_at "b"
def Hb:DS:=(ib (iO 1 (rJ Av))
 (ib (nr (Im (gK 0)) (kL 2 (ie (gZ 2) (ie (gZ 3) kK))) (ib (iO 4 (iq mS (gK 3) (dC (.int 0))))
 (ib (nr (jh (gK 3)) (gZ 5) (i7 (hZ (iq mS (gK 5) (dC (.int 0)))) (iO 4 (gK 5)) iD))
 (P0 (gK 1) (gK 2) (nA (gH (iq mS (gK 4) (dC (.int 1))) (gH (iq mS (gK 4) (dC (.int 2))) gR)))))))
 (iA (gK 1))))
theorem Ti(D:hG K mg "_law_due" wW):oZ P w K mg cv (k+1) "_law_due" ["_law_marks_here"] (lY K (cl (kq 6 1 Hb))):=
 jG D Th.2 Ha.2 mD (by walk_at "c") λf ip A cP s H E b=>by
 have a:=je b;exact(gO (ii 1 mD.nd (mO y0))
   (gO (jE (KA (gY 0)) (j8 (hV (gW 2 mD.nd) (hV (gW 3 mD.nd) i9))) (gO (ii 4 mD.nd (jc (jx a) (gY 3) gX))
   (gO (jE (iP (gY 3)) (gW 5 mD.nd) (gN (iH (iR (jc (jx a) (gY 5) gX)) (gN (ii 4 mD.nd (gY 5))) ij)))
   (gN (P4 a (gY 1) (gY 2) (kJ (gG (jc (jx a) (gY 4) gX) (gG (jc (jx a) (gY 4) gX) gJ))))))))
   (gN (g8 (gY 1)))))
abbrev uh:cc:=top 74
noncomputable def Oy:BF uh:=⟨_,by walk_at "a"⟩
noncomputable def ER:SF uh:=⟨_,by walk_at "a"⟩
theorem jB:gU ["_law_parts_here","_law_way","_law_found","_law_word","e"] ["_law_parts_here","_law_way"] ER.1:=by walk_at "b"
def ui (K:bz)(qR:aw)(zH:K2)(CK:K2)(qQ:aw)(wQ:aw)(CJ:aw):DS:=(ib (iO 2 (dC .non))
 (ib (iO 3 (dC (.str "")))
 (ib (afp K 4 qR (xIf (hZ (iq Ca (gK 1) (dC (.int 0)))) (ZO 2 (dCX zH (λ_=>(gH (gK 0) gR)))) (ZO 2 (dCX CK (λ_=>(gH (gK 0) gR))))) (ib (iO 3 (dC (.str "other")))
 (i7 (FC (hZ (iS (ZR K) (gH (gK 4) (gH (dC (.cls qQ)) gR)))) (FC (pO (hZ (iS (ZR K) (gH (gK 4) (gH (dC (.cls wQ)) gR))))) (pO (hZ (iS (ZR K) (gH (gK 4) (gH (dC (.cls CJ)) gR))))))) (ib (iO 3 (dC (.str "twice")))
 (ib (iO 2 (nA (gH (Qv K "name" (gK 4)) (gH (j5 (TX DB (gH (Qv K "parts" (gK 4)) gR))) gR))))
 (i7 (pO (hZ (iS (lD K) (gH (Qv K "parts" (gK 4)) (gH (dC (.ty "list")) gR))))) (iO 3 (dC (.str "other"))) iD))) iD)))
 (iA (nA (gH (gK 3) (gH (gK 2) gR)))))))
theorem Oz(D:hG K mg "_law_told" uh)(Z:Zs mg)(c:mg "PartError"=ae (.ref qR))(e:sr P w K mg cv k "stands" ["parts"] zH)(g:sr P w K mg cv k "bound" ["parts"] CK)(h:mg "Twice"=ae (.ref qQ))(j:mg "Lacking"=ae (.ref wQ))(m:mg "NoEnd"=ae (.ref CJ)):oZ P w K mg cv (k+1) "_law_told" ["_law_parts_here","_law_way"] (lY K (cl (kq 5 2 (ui K qR zH CK qQ wQ CJ)))):=
 jG D Oy.2 ER.2 jB (by walk_at "c") λf ip A cP s H E b=>by
 have n:=je b;exact(gO (ii 2 jB.nd Bw)
   (gO (ii 3 jB.nd iG)
   (gO (adc (i:=4) jB.nd c (λ_ _ _ a=>(nW (Wm (iy (lR b.units) (gY 1) gX) (nW (Ix 2 jB.nd (GZ e b a (JA.Iw (gG (gY 0) gJ))))) (nW (Ix 2 jB.nd (GZ g b a (JA.Iw (gG (gY 0) gJ)))))))) (λ_=>(gO (ii 3 jB.nd iG)
   (gN (iH (o9 (u5 (iR (pP NY Z.isinstance g9 (gG (gY 4) (gG (lB h) gJ)))) (u5 (jZ (iR (pP NY Z.isinstance g9 (gG (gY 4) (gG (lB j) gJ))))) (tz (jZ (iR (pP NY Z.isinstance g9 (gG (gY 4) (gG (lB m) gJ))))))))) (gO (ii 3 jB.nd iG)
   (gO (ii 2 jB.nd (kJ (gG (NX (gY 4)) (gG (jg (Vj y9 Z.list pC (gG (NX (gY 4)) gJ))) gJ))))
   (gN (iH (jZ (iR (pP jF Z.isinstance g9 (gG (NX (gY 4)) (gG (xO Z.list pC) gJ))))) (gN (ii 3 jB.nd iG)) ij)))) ij)))))
   (gN (g8 (kJ (gG (gY 3) (gG (gY 2) gJ))))))))
abbrev uj:cc:=top 75
noncomputable def OA:BF uj:=⟨_,by walk_at "a"⟩
noncomputable def ES:SF uj:=⟨_,by walk_at "a"⟩
theorem lc:gU ["_law_parts_here","_law_found","_law_part","_law_rows","_law_told_here","_law_row"] ["_law_parts_here"] ES.1:=by walk_at "b"
def ym:DS:=(ib (iO 1 (rJ (qB gR)))
 (ib (nr (jh (gK 0)) (kL 2 (ie (gZ 2) (ie (gZ 3) kK))) (ib (iO 4 (rJ (qB gR)))
 (ib (nr (jh (gK 3)) (gZ 5) (ib (i7 (hZ (iq Ca (iq mS (gK 5) (dC (.int 0))) (dC (.str "mark")))) (iO 5 (nA (gH (iq mS (gK 5) (dC (.int 0))) (gH (iq mS (gK 5) (dC (.int 1))) (gH (dC (.bl aq)) gR))))) iD)
 (mP (Mu "list" ka (gK 4) (gH (gK 5) gR)))))
 (mP (Mu "list" ka (gK 1) (gH (nA (gH (gK 2) (gH (abe 4) gR))) gR))))))
 (iA (gK 1))))
theorem OB(D:hG K mg "_law_weak" uj):oZ P w K mg cv (k+1) "_law_weak" ["_law_parts_here"] (lY K (cl (kq 6 1 ym))):=
 jG D OA.2 ES.2 lc (by walk_at "c") λf ip A cP s H E b=>by
 have a:=je b;exact(gO (ii 1 lc.nd (mO (j0 gJ)))
   (gO (jE (iP (gY 0)) (j8 (hV (gW 2 lc.nd) (hV (gW 3 lc.nd) i9))) (gO (ii 4 lc.nd (mO (j0 gJ)))
   (gO (jE (iP (gY 3)) (gW 5 lc.nd) (gO (iH (iy (lR b.units) (jc (jx a) (gY 5) gX) iG) (gN (ii 5 lc.nd (kJ (gG (jc (jx a) (gY 5) gX) (gG (jc (jx a) (gY 5) gX) (gG tu gJ)))))) ij)
   (gN (kO (zd kb af bb aF (gY 4) (gG (gY 5) gJ))))))
   (gN (kO (zd kb af bb aF (gY 1) (gG (kJ (gG (gY 2) (gG (acT 4) gJ))) gJ)))))))
   (gN (g8 (gY 1)))))
abbrev WX:cc:=top 76
noncomputable def abq:BF WX:=⟨_,by walk_at "a"⟩
noncomputable def LP:SF WX:=⟨_,by walk_at "a"⟩
theorem oW:gU ["_law_script","_law_many","_law_names","_law_cells","_law_parts_here","_law_marks_here","_law_twice_here","_law_some","_law_way","_law_word","_law_found","_law_weak_here"] ["_law_script"] LP.1:=by walk_at "b"
def WY (j3:GN)(kB:GN)(oz:GN)(qP:GN)(p7:GN)(sA:GN)(tY:GN):DS:=(ib (iO 1 (iq j9 (dC (.int 1)) (iq (gI (λ_ j=>0<j) λi j=>.int (i%j)) (iS j3 (gH (gK 0) (gH (dC (.int 0)) gR))) (dC (.int 10)))))
 (ib (iO 2 (Y0 (j5 (qB (gH (dC (.str "a")) (gH (dC (.str "b")) (gH (dC (.str "go")) (gH (dC (.str "in")) (gH (dC (.str "out")) (gH (dC (.str "abcdefgh")) (gH (dC (.str "aa")) (gH (dC (.str "ab")) (gH (dC (.str "z")) (gH (dC (.str "on")) gR)))))))))))) qK (u9 (iq j9 (dC (.int 1)) (iq (gI (λ_ j=>0<j) λi j=>.int (i%j)) (iq (gI As λi j=>.int (i/j)) (iS j3 (gH (gK 0) (gH (dC (.int 0)) gR))) (dC (.int 10))) (dC (.int 10)))))))
 (ib (iO 3 (iq j9 (j5 (qB (gH (iS j3 (gH (gK 0) (gH (dC (.int 1)) gR))) gR))) (j5 (l4 [am,ae 0] (HQ (gH (gK 1) gR)) (gZ 0) xR (iS j3 (gH (gK 1) (gH (iq j9 (dC (.int 2)) (gK 0)) gR)))))))
 (ib (iO 4 (iS kB (gH (gK 3) (gH (gK 2) (gH (dC (.int 16)) gR)))))
 (ib (iO 5 (iS oz (gH (gK 4) gR)))
 (ib (iO 6 (iS qP (gH (gK 5) gR)))
 (ib (nr (jh (j5 (qB (gH (gK 4) (gH (afb (gK 4) (u9 (Y1 (dC (.int 1))))) gR))))) (gZ 7) (nr (HQ (gH (dC (.int 2)) gR)) (gZ 8) (ib (UV (iS p7 (gH (gK 7) (gH (gK 8) gR))) (kL 2 (ie (gZ 9) (ie (gZ 10) kK))))
 (ib (i7 (FC (hZ (iq U2 (gK 6) (dC .non))) (hZ (iq gNe (nA (gH (gK 9) (gH (gK 10) gR))) (nA (gH (dC (.str "twice")) (gH (gK 6) gR)))))) (iA (dC (.bl aq))) iD)
 (i7 (FC (hZ (iq gIs (gK 6) (dC .non))) (UP (hZ (iq gNe (gK 9) (dC (.str "")))) (FC (hZ (iq Ca (gK 8) (dC (.int 0)))) (hZ (iq (KG aq) (gK 10) (iS sA (gH (gK 5) gR))))))) (iA (dC (.bl aq))) iD)))))
 (ib (iO 11 (iS tY (gH (gK 4) gR)))
 (iA (iq KJ (iS p7 (gH (gK 11) (gH (dC (.int 0)) gR))) (nA (gH (dC (.str "")) (gH (iS sA (gH (iS oz (gH (gK 11) gR)) gR)) gR)))))))))))))
theorem afD(Z:Zs mg)(b:iu P w K mg cv k "_law_cell_at" ["_law_script","_law_k"] j3)(h:iu P w K mg cv k "_law_marked_parts" ["_law_cells","_law_names","_law_most"] kB)(c:iu P w K mg cv k "_law_marks" ["_law_parts_here"] oz)(i:iu P w K mg cv k "_law_twice" ["_law_marks_here"] qP)(e:iu P w K mg cv k "_law_told" ["_law_parts_here","_law_way"] p7)(g:iu P w K mg cv k "_law_due" ["_law_marks_here"] sA)(j:iu P w K mg cv k "_law_weak" ["_law_parts_here"] tY)(f:aw)(ip:ai)(A:bj)(cP:List ah1)(s:ao)(H:Hp)(E:XK)(a:iV k (A.deeper (eG "law" LP.1 s.heap.objs.size f ip))):
  FD (rC rF P w K mg cv ["_law_script","_law_many","_law_names","_law_cells","_law_parts_here","_law_marks_here","_law_twice_here","_law_some","_law_way","_law_word","_law_found","_law_weak_here"] "law" LP.1 f ip A cP s H E).Fw abq.1 (WY j3 kB oz qP p7 sA tY):=by
 have m:=je a;exact(gO (ii 1 oW.nd (i6 jO gX (i6 oQ (jj b a (gG (gY 0) (gG gX gJ))) gX)))
   (gO (ii 2 oW.nd (Kh (jg (j0 (gG iG (gG iG (gG iG (gG iG (gG iG (gG iG (gG iG (gG iG (gG iG (gG iG gJ)))))))))))) pS (l7 (i6 jO gX (i6 oQ (i6 tH (jj b a (gG (gY 0) (gG gX gJ))) gX) gX)))))
   (gO (ii 3 oW.nd (i6 jO (jg (j0 (gG (jj b a (gG (gY 0) (gG gX gJ))) gJ))) (jg (jM (N:=["_law_k","_law_script"]) (fr:=[am,ae 0]) (iW.of (pM:=["_law_script","_law_many","_law_names","_law_cells","_law_parts_here","_law_marks_here","_law_twice_here","_law_some","_law_way","_law_word","_law_found","_law_weak_here"]) (jt:=LP.1) (by decide+kernel)) (AB (gG (gY 1) gJ) Z.range) iY (λ_ _ _ _ _=>(gW 0 (show cD (["_law_k","_law_script"]:List aJ) by decide+kernel))) (λ_ _ _ _ _=>kP) (λ_ _ _ _ _=>(jj b a (gG (gY 1) (gG (i6 jO gX (gY 0)) gJ))))))))
   (gO (ii 4 oW.nd (jj h a (gG (gY 3) (gG (gY 2) (gG gX gJ)))))
   (gO (ii 5 oW.nd (jj c a (gG (gY 4) gJ)))
   (gO (ii 6 oW.nd (jj i a (gG (gY 5) gJ)))
   (gO (jE (iP (jg (j0 (gG (gY 4) (gG (afc (gY 4) (l7 (Vi gX))) gJ))))) (gW 7 oW.nd) (gN (jE (AB (gG gX gJ) Z.range) (gW 8 oW.nd) (gO (M6 (jj e a (gG (gY 7) (gG (gY 8) gJ))) (j8 (hV (gW 9 oW.nd) (hV (gW 10 oW.nd) i9))))
   (gO (iH (o9 (u5 (iy U4 (gY 6) Bw) (tz (iy (Kf a.units) (kJ (gG (gY 9) (gG (gY 10) gJ))) (kJ (gG iG (gG (gY 6) gJ))))))) (gN (g8 tu)) ij)
   (gN (iH (o9 (u5 (iy U3 (gY 6) Bw) (tz (o9 (yY (iy (Kf a.units) (gY 9) iG) (tD (o9 (u5 (iy (lR a.units) (gY 8) gX) (tz (iy (acS a.units) (gY 10) (jj g a (gG (gY 5) gJ)))))))))))) (gN (g8 tu)) ij)))))))
   (gO (ii 11 oW.nd (jj j a (gG (gY 4) gJ)))
   (gN (g8 (Dg (acZ a.acY) (jj e a (gG (gY 11) (gG gX gJ))) (kJ (gG iG (gG (jj g a (gG (jj c a (gG (gY 11) gJ)) gJ)) gJ))))))))))))))
end
end qz
namespace FJ
open PySem PySem.Spec PyProof.Rows.KTD L2 L3
theorem adp(h:a=b)(q:Q (.bl aq) M):gNe (.int a) (.int b) M Q:=by subst h;show Q _ M;rw[beq_self_eq_true];exact q
theorem adq(h:¬b<a)(q:Q (.bl aq) M):(PH λi j=>.bl (decide (j<i))) (.int a) (.int b) M Q:=by show Q (.bl _) M;rw[decide_eq_false h];exact q
abbrev Pt:=aJ×List Rw
noncomputable def oN(p:Pt):D:=.tup [.str p.1,.lst (p.2.map Rw.d)]
noncomputable def Jx(c:CA)(p:Pt):D:=.tup [.str p.1,.lst (p.2.map (Rw.ins c))]
noncomputable def Rw.jk:Rw->Bool
 |.mark _ _=>aj
 |_=>aq
noncomputable def markD:D->Bool
 |.tup (.str k::_)=>k=="mark"
 |_=>aq
theorem Ja(r:Rw):markD r.d=r.jk:=by cases r<;>rfl
noncomputable def m6(rs:List Rw):Nat:=(rs.filter Rw.jk).length
noncomputable def z7(rs:List Rw):Nat:=rs.length- m6 rs
def z8:GP:=λds Q=>∃r:Rw,ds=[r.d]/\Q (.bl r.jk)
theorem FX:iM z8:=by
 rintro ds P Q w ⟨r,h,q⟩
 exact⟨r,h,w _ q⟩
theorem Tk(K:bz):∀ds Q,z8 ds Q->kq 1 1 (sy K) ds Q:=by
 rintro ds Q ⟨r,h,q⟩
 subst h;cases r;all_goals
  walk_at "f";exact q
theorem z9(rs:List Rw):lu (rs.map Rw.d)=aj:=jL Rw.nld rs
def Aa:GP:=λds Q=>∃rs:List Rw,ds=[.lst (rs.map Rw.d)]/\rs.length<=1000/\Q (.int (m6 rs))
theorem Jb:iM Aa:=by
 rintro ds P Q w ⟨r,h,l,q⟩
 exact⟨r,h,l,w _ q⟩
theorem EU(rs:List Rw):((rs.map Rw.d).filterMap λd=>if markD d=aj then ae d else am).length=m6 rs:=by
 unfold m6;induction rs with
 |nil=>rfl
 |cons r rs a=>
  rw[aX,eB,gA,Ja];cases r.jk with
  |true=>simp only [if_true,bc,a]
  |false=>simp only [eN,if_false,a]
theorem qk(h:n<=1000):n<=aE:=bi h (by decide)
theorem WZ:∀ds Q,Aa ds Q->kq 1 1 (xC (cl z8)) ds Q:=by
 rintro ds Q ⟨rs,h,l,q⟩
 subst h;refine⟨rfl,?_⟩;refine⟨_,rfl,rfl,?_⟩;refine tI (λd=>if markD d=aj then ae d else am) ?_ _ _ ?_ (λx a e c=>?_) ?_
 .exact rfl
 .rw[ar,cm,bJ];exact qk l
 .obtain⟨r,_,rfl⟩:=aV.mp a;refine⟨by unfold lu;rw[r.nld];rfl,r,rfl,?_⟩;have:=c _ (show HG [am] [ae r.d]=_ from rfl);rw[Ja] at this;generalize r.jk=b at this |-;cases b<;>exact this
 .refine⟨_,rfl,?_⟩;refine⟨rfl,?_⟩;rw[gp,EU];exact q
theorem Tl(rs:List Rw):m6 rs<=rs.length:=cu _ _
def vT:GP:=λds Q=>∃rs:List Rw,ds=[.lst (rs.map Rw.d)]/\rs.length<=1000/\Q (.int (z7 rs))
theorem FY:iM vT:=by
 rintro ds P Q w ⟨r,h,l,q⟩
 exact⟨r,h,l,w _ q⟩
theorem CM(rs:List Rw):lu [.lst (rs.map Rw.d)]=aj:=by show(lu _&&aj)=aj;rw[z9];rfl
theorem Tn:∀ds Q,vT ds Q->kq 1 1 (vy (cl Aa)) ds Q:=by
 rintro ds Q ⟨rs,h,l,q⟩
 subst h;refine⟨rfl,?_⟩;refine⟨_,rfl,?_⟩;refine⟨CM rs,rs,rfl,l,?_⟩;refine⟨rfl,?_⟩;show Q (.int _);have e:((rs.map Rw.d).length:Int)- (m6 rs:Int)=((z7 rs:Nat):Int):=by have:=Tl rs;rw[ar];unfold z7;omega
 rw[e];exact q
structure afE(p:Pt):Prop where
 w:xB p.1=aj
 lo:1<=z7 p.2
 hi:z7 p.2<=60
 len:p.2.length<=1000
theorem W0(p:Pt):nl (oN p)=aj:=by show(aj&&(lu _&&aj))=aj;rw[z9];rfl
def wX:GP:=λds Q=>∃p:Pt,ds=[oN p]/\afE p/\Q (.bl aj)
theorem EV:iM wX:=by
 rintro ds P Q w ⟨p,h,l,q⟩
 exact⟨p,h,l,w _ q⟩
theorem OE(K:bz):∀ds Q,wX ds Q->kq 1 1 (G1 K (cl nF) (cl vT)) ds Q:=by
 rintro ds Q ⟨p,h,ok,q⟩
 subst h;walk_at "f";refine⟨p.1,ok.w,rfl,?_⟩;walk_at "f";refine⟨CM p.2,p.2,rfl,ok.len,?_⟩;have a:(1:Int)<=(z7 p.2:Int):=by have:=ok.lo;omega
 have b:(z7 p.2:Int)<=60:=by have:=ok.hi;omega
 show(match D.bl _ with|D.bl aj=>nl _=aj/\Q _|D.bl aq=>nl _=aj/\Q _|_=>False);rw[decide_eq_true a,decide_eq_true b];exact⟨rfl,q⟩
structure afF(ps:List Pt):Prop where
 lo:1<=ps.length
 hi:ps.length<=12
 all:∀p∈ps,afE p
 nd:(ps.map aU).Nodup
 rows:(ps.map λp=>(z7 p.2:Int)).sum<=200
 marks:(ps.map λp=>(m6 p.2:Int)).sum<=200
theorem nJ(a:List Pt):lu (a.map oN)=aj:=jL W0 a
theorem m8(a:List Pt):lu [.lst (a.map oN)]=aj:=by show(lu _&&aj)=aj;rw[nJ];rfl
theorem Hd:∀(val:Nat->aJ) (n:Nat),(∀i j,i<j->j<n->val i≠val j)->(pw val n).length=n/\∀k,(pw val n).any (·==k)=aj->∃i,i<n/\val i=k
 |val,0,_=>⟨rfl,λk h=>by simp[pw] at h⟩
 |val,n+1,h=>by
  obtain⟨g,f⟩:=Hd val n λi j a b=>h i j a (by omega);have hn:(pw val n).any (·==val n)=aq:=by
   cases e:(pw val n).any _ with
   |false=>rfl
   |true=>obtain⟨i,a,b⟩:=f _ e;exact absurd b (h i n a (by omega))
  constructor
  .show(cW _ _).length=_;rw[Nl,hn,g];rfl
  .intro k c;have c:(cW _ (val n)).any _=aj:=c;rw[Nk,Bool.or_eq_true] at c;rcases c with c|c
   .obtain⟨i,a,b⟩:=f k c;exact⟨i,by omega,b⟩
   .exact⟨n,by omega,(of_decide_eq_true c).symm⟩
theorem EW(rs:List Rw):((rs.map Rw.d).filter markD).length=m6 rs:=by
 unfold m6;induction rs with
 |nil=>rfl
 |cons r rs a=>
  rw[aX,eB,eB,Ja];cases r.jk with
  |true=>simp only [if_true,bc,a]
  |false=>simp only [eN,if_false,a]
theorem QK(rs:List Rw):(((rs.map Rw.d).length- ((rs.map Rw.d).filter markD).length:Nat):Int)=(z7 rs:Int):=by rw[EW,ar];rfl
theorem OG(h:ss.Nodup):Y8 ss=ss.length:=by refine(Hd _ _ λi j a b=>?_).1;rw[bD,bD,ax (by omega),ax b];exactλz=>absurd ((fg h).mp z) (by omega)
def QL:GP:=λds Q=>∃a:List Pt,ds=[.lst (a.map oN)]/\afF a/\Q (.bl aj)
theorem OH:iM QL:=by
 rintro ds P Q w ⟨p,h,l,q⟩
 exact⟨p,h,l,w _ q⟩
theorem adr(K:bz):∀ds Q,QL ds Q->kq 1 1 (BM K (cl wX) (cl vT) (cl Aa)) ds Q:=by
 rintro ds Q ⟨a,h,ok,q⟩
 subst h;have f:(a.map oN).length<=aE:=by rw[ar];exact qk (by have:=ok.hi;omega)
 have b1:(1:Int)<=((a.map oN).length:Int):=by have:=ok.lo;rw[ar];omega
 have b2:((a.map oN).length:Int)<=12:=by have:=ok.hi;rw[ar];omega
 conv=>whnf
 walk_at "f";rw[decide_eq_true b1];walk_at "f";rw[decide_eq_true b2];conv=>whnf
 refine⟨_,rfl,rfl,?_⟩;refine lH (λ_=>.bl aj) ?_ _ _ ?_ (λx b g c=>?_) ?_
 .exact rfl
 .rw[cm,bJ];exact f
 .obtain⟨p,e,rfl⟩:=aV.mp b;exact⟨by unfold lu;rw[W0];rfl,p,rfl,ok.all p e,c _ rfl⟩
 refine⟨(a.map oN).map λ_=>aj,(by rw[bB,bB,bB];rfl),?_⟩;rw[show((a.map oN).map λ_=>aj).all id=aj by simp];conv=>whnf
 refine⟨_,rfl,rfl,?_⟩;refine lH (λd=>match d with|.tup (n::_)=>n|_=>.non) ?_ _ _ ?_ (λx b g c=>?_) ?_
 .exact rfl
 .rw[cm,bJ];exact f
 .obtain⟨p,e,rfl⟩:=aV.mp b;exact⟨_,rfl,c _ rfl⟩
 refine⟨a.map aU,(by rw[bB,bB];rfl),by rw[ar];have:=ok.hi;omega,?_⟩;refine⟨_,rfl,?_⟩;refine adp (by rw[OG ok.nd];simp) ?_;conv=>whnf
 refine⟨_,rfl,rfl,?_⟩;refine lH (λd=>match d with|.tup [_,.lst rs]=>.int ((rs.length- (rs.filter markD).length:Nat):Int)|_=>.non) ?_ _ _ ?_ (λx b g c=>?_) ?_
 .exact rfl
 .rw[cm,bJ];exact f
 .obtain⟨p,e,rfl⟩:=aV.mp b;refine⟨_,rfl,CM p.2,p.2,rfl,(ok.all p e).len,?_⟩;rw[<-QK p.2];exact c _ rfl
 refine⟨a.map λp=>(z7 p.2:Int),(by rw[bB,bB];exact congrArg D.lst (cV λp _=>congrArg D.int (QK p.2))),?_⟩;dsimp only [dC];refine adq ?_ ?_
 .have:=ok.rows;omega
 conv=>whnf
 refine⟨_,rfl,rfl,?_⟩;refine lH (λd=>match d with|.tup [_,.lst rs]=>.int ((rs.filter markD).length:Int)|_=>.non) ?_ _ _ ?_ (λx b g c=>?_) ?_
 .exact rfl
 .rw[cm,bJ];exact f
 .obtain⟨p,e,rfl⟩:=aV.mp b;refine⟨_,rfl,CM p.2,p.2,rfl,(ok.all p e).len,?_⟩;rw[<-EW p.2];exact c _ rfl
 refine⟨a.map λp=>(m6 p.2:Int),(by rw[bB,bB];exact congrArg D.lst (cV λp _=>congrArg (λn:Nat=>D.int n) (EW p.2))),?_⟩;dsimp only [dC];refine CH ?_ ?_
 .exact ok.marks
 .exact⟨rfl,q⟩
theorem rm(c:CA)(rs:List Rw):lu (rs.map (Rw.ins c))=aj:=jL (Rw.nli c) rs
def wY (c:CA):GP:=λds Q=>∃(n:aJ) (rs:List Rw),ds=[.str n,.lst (rs.map Rw.d)]/\(∀r∈rs,r.ok=aj)/\rs.length<=1000/\Q (.lst (rs.map (Rw.ins c)))
theorem EY:iM (wY c):=by
 rintro ds P Q w ⟨n,rs,h,ok,l,q⟩
 exact⟨n,rs,h,ok,l,w _ q⟩
theorem take_snoc{β:Type}{l:List β}{x:β}(h:l[j]?=ae x):l.take (j+1)=l.take j++[x]:=by rw[List.take_add_one,h];rfl
theorem nS{β a:Type}{f:β->a}{l:List β}{j:Nat}{y:a}(h:(l.map f)[j]?=ae y):∃x,l[j]?=ae x/\y=f x:=by
 rw[bq] at h;cases e:l[j]? with
 |none=>rw[e] at h;cases h
 |some x=>rw[e] at h;cases h;exact⟨x,rfl,rfl⟩
theorem vU{l:List D}{j:Nat}(h:(l.mapIdx λi d=>D.tup [.int i,d])[j]?=ae y):∃x,l[j]?=ae x/\y=.tup [.int j,x]:=by
 rw[ail] at h;cases e:l[j]? with
 |none=>rw[e] at h;cases h
 |some x=>rw[e] at h;cases h;exact⟨x,rfl,rfl⟩
theorem OI:∀ds Q,wY c ds Q->kq 6 2 (G3 (zB c)) ds Q:=by
 rintro ds Q ⟨n,rs,h,ok,l,q⟩
 subst h;refine⟨rfl,?_⟩;refine⟨bC _,?_⟩;refine⟨_,rfl,rfl,?_⟩;refine pV (λj a M=>∃b e f,M=[ae (.lst ((rs.take j).map (Rw.ins c)))]/\a=[ae (.str n),ae _,ae (.loc 0),b,e,f]) (λ_ _ _ _=>?_) _ 0 _ _ ⟨am,am,am,rfl,rfl⟩ (λj x a M o g N i=>?_) (λa M g=>?_)
 .exact rfl
 .obtain⟨b,e,f,rfl,rfl⟩:=g;obtain⟨y,p,rfl⟩:=vU o;obtain⟨r,m,rfl⟩:=nS p;have s:=ok r (bF m);rw[bJ] at i |-;refine⟨rfl,rfl,?_⟩;refine⟨r,s,rfl,?_⟩;refine⟨rfl,_,rfl,?_,i _ _ ⟨_,_,_,?_,rfl⟩⟩
  .rw[ar,dI];exact bY (bi (Nat.min_le_right _ _) l) (by decide)
  .rw[take_snoc m,bh];rfl
 .obtain⟨b,e,f,rfl,rfl⟩:=g;rw[bJ,fJ,ar,ahW];exact⟨rm c rs,q⟩
noncomputable def nK:List Rw->Option Rw
 |[]=>am
 |r::rs=>if r.jk then nK rs else ae r
noncomputable def FZ(c:CA):Option Rw->D
 |none=>.non
 |some r=>r.ins c
structure W1(K:bz)(c:CA):Prop where
 io:∀k:Kn,PQ K (c.at k)
 mark:∀k,dt K (.ref (c.at k)) (.ref c.Mark)=ae (match k with|.Mark=>aj|_=>aq)
 code:∀k,dt K (.ref (c.at k)) (.ref c.Code)=ae (match k with|.Mark|.j6|.Table=>aq|_=>aj)
 nums:∀k,dt K (.ref (c.at k)) (.ref c.j6)=ae (match k with|.j6=>aj|_=>aq)
 ag7:∀k,dt K (.ref (c.at k)) (.ref c.Table)=ae (match k with|.Table=>aj|_=>aq)
 ag8:dt K (.type "NoneType") (.ref c.Code)=ae aq
theorem Ab(a:W1 K c)(r:Rw){M:Ms}{Q:DK}(q:Q (.bl r.jk) M):lD K [r.ins c,.cls c.Mark] M Q:=by refine⟨.ref (c.at r.kn),r.jk,rfl,λC ns es e=>by cases e;exact a.io _,?_,q⟩;rw[a.mark];cases r<;>rfl
theorem LR(a:W1 K c)(r:Rw){M:Ms}{Q:DK}(q:Q (.bl r.code) M):lD K [r.ins c,.cls c.Code] M Q:=by refine⟨.ref (c.at r.kn),r.code,rfl,λC ns es e=>by cases e;exact a.io _,?_,q⟩;rw[a.code];cases r<;>rfl
def CN (c:CA):GP:=λds Q=>∃rs:List Rw,ds=[.lst (rs.map (Rw.ins c))]/\Q (FZ c (nK rs))
theorem Jc:iM (CN c):=by
 rintro ds P Q w ⟨rs,h,q⟩
 exact⟨rs,h,w _ q⟩
section
theorem W2(g:W1 K c):∀ds Q,CN c ds Q->kq 2 1 (mV K c.Mark) ds Q:=by
 rintro ds Q ⟨rs,h,q⟩
 subst h;have b:=@Ab K c g;unfold mV;generalize lD K=i at b |-;refine⟨rfl,?_⟩;refine⟨_,rfl,rfl,?_⟩;have gen:∀(l:List Rw) (st:Ms->Prop) (o:Option D),st []->FZ c (nK l)=FZ c (nK rs)->tF (gZ 1) (i7 (pO (hZ (iS (i) (gH (gK 1) (gH (dC (.cls c.Mark)) gR))))) (iA (gK 1)) iD) st ⟨λ_ _=>nl (.non)=aj/\Q .non,λd f=>nl (fz f d)=aj/\Q (fz f d),λ_ _=>False,λ_ _=>False⟩ (l.map (Rw.ins c)) [ae (.lst (rs.map (Rw.ins c))),o] []:=by
  intro l;induction l with
  |nil=>intro st o a e;rw[<-e] at q;exact⟨rfl,q⟩
  |cons r l j=>
   intro st o a e;refine b r ?_;cases hm:r.jk with
   |true=>
    refine⟨a,j st _ a ?_⟩;rw[<-e];show FZ c _=FZ c (if r.jk=aj then _ else _);rw[hm];rfl
   |false=>
    have e':FZ c (nK rs)=r.ins c:=by rw[<-e];show FZ c (if r.jk=aj then _ else _)=_;rw[hm];rfl
    rw[e'] at q;exact⟨r.nli c,q⟩
 exact gen rs _ am rfl rfl
end
noncomputable def CO:Option Rw->Bool
 |some r=>r.code
 |none=>aq
noncomputable def vV:List Rw->Bool
 |[]=>aj
 |r::rs=>(!r.SU||CO (nK rs))&&(!r.jk||(nK rs).isSome)&&vV rs
theorem BY:∀{rs:List Rw} {j:Nat} {r:Rw},vV rs=aj->rs[j]?=ae r->(r.SU=aj->CO (nK (rs.drop (j+1)))=aj)/\(r.jk=aj->(nK (rs.drop (j+1))).isSome=aj)
 |r::rs,0,a,h,e=>by cases e;unfold vV at h;rw[aY,aY,Bool.or_eq_true,Bool.or_eq_true] at h;refine⟨λg=>h.1.1.resolve_left (by rw[g];decide),λg=>h.1.2.resolve_left (by rw[g];decide)⟩
 |r::rs,j+1,a,h,e=>by unfold vV at h;rw[aY] at h;exact BY (rs:=rs) h.2 e
 |[],_,_,_,e=>by cases e
theorem To(a:W1 K c)(o:Option Rw){M:Ms}{Q:DK}(q:Q (.bl (CO o)) M):lD K [FZ c o,.cls c.Code] M Q:=by
 cases o with
 |some r=>exact LR a r q
 |none=>exact⟨.type _,aq,rfl,(λC ns es e=>nomatch e),a.ag8,q⟩
theorem W3(o:Option Rw){M:Ms}{Q:DK}(q:Q (.bl (!o.isSome)) M):gIs (FZ c o) .non M Q:=by cases o<;>exact q
section
def oh (c:CA):GP:=λds Q=>∃(n:aJ) (rs:List Rw),ds=[.str n,.lst (rs.map (Rw.ins c))]/\vV rs=aj/\Q .non
theorem yo:iM (oh c):=by
 rintro ds P Q w ⟨n,rs,h,ok,q⟩
 exact⟨n,rs,h,ok,w _ q⟩
theorem EZ(f:W1 K c):∀ds Q,oh c ds Q->kq 5 2 (my K (cl (CN c)) (Wv c) c.Code c.Mark) ds Q:=by
 rintro ds Q ⟨n,rs,h,ok,q⟩
 subst h;have g:=@Ab K c f;have i:=@To K c f;have is:=@W3 c;unfold my;generalize lD K=z at g i |-;generalize gIs=gs at is |-;refine⟨rfl,?_⟩;refine⟨_,rfl,rfl,?_⟩;refine pV (λj a M=>∃m p s,M=[]/\a=[ae (.str n),ae _,m,p,s]) (λ_ _ _ ⟨_,_,_,e,_⟩=>by rw[e]) _ 0 _ _ ⟨am,am,am,rfl,rfl⟩ (λj x a M A u N v=>?_) (λa M u=>?_)
 .obtain⟨m,p,s,rfl,rfl⟩:=u;obtain⟨y,B,rfl⟩:=vU A;obtain⟨r,C,rfl⟩:=nS B;obtain⟨k1,k2⟩:=BY ok C;refine⟨rfl,rfl,?_⟩;conv=>whnf
  rw[show cutD _ _ am=(rs.drop (j+1)).map _ by rw[show(j:Int)+1=((j+1:Nat):Int) from rfl,Wx,List.map_drop]];refine⟨by show(lu _&&aj)=aj;rw[rm];rfl,rs.drop (j+1),rfl,?_⟩;generalize nK _=o at k1 k2 |-;have tl:∀b,b=[ae (.str n),ae (.lst (rs.map (Rw.ins c))),ae (.int j),ae (r.ins c),ae (FZ c o)]->(i7 (FC (hZ (iS z (gH (gK 3) (gH (dC (.cls c.Mark)) gR)))) (hZ (iq gs (gK 4) (dC .non)))) tE iD) ⟨N,λd w=>nl (fz w d)=aj/\Q (fz w d),λ_ _=>Q .non,N⟩ b []:=by
   intro b e;subst e;refine g r ?_;cases hm:r.jk with
   |true=>
    refine is o ?_;rw[k2 hm];exact v _ _ ⟨_,_,_,rfl,rfl⟩
   |false=>
    exact v _ _ ⟨_,_,_,rfl,rfl⟩
  refine⟨_,_,_,_,rfl,rfl,⟨r.kn,rfl,rfl⟩,by unfold lu;rw[r.nli];rfl,r,rfl,rfl,?_⟩;cases E:r.SU with
  |true=>
   refine i o ?_;rw[k1 E];exact tl _ rfl
  |false=>exact tl _ rfl
 .exact q
end
structure ads(ps:List Pt):Prop where
 pso:afF ps
 rows:∀p∈ps,∀r∈p.2,r.ok=aj
 ends:∀p∈ps,vV p.2=aj
theorem adt(c:CA)(p:Pt):nl (Jx c p)=aj:=by show(aj&&(lu _&&aj))=aj;rw[rm];rfl
theorem Jd(c:CA)(a:List Pt):lu (a.map (Jx c))=aj:=jL (adt c) a
def vW (c:CA):GP:=λds Q=>∃a:List Pt,ds=[.lst (a.map oN)]/\ads a/\Q (.lst (a.map (Jx c)))
theorem F0:iM (vW c):=by
 rintro ds P Q w ⟨rs,h,ok,q⟩
 exact⟨rs,h,ok,w _ q⟩
theorem sF{β:Type}(e f:β->D)(b:st M):∀(xs:List β) (acc:List D),acc.length+xs.length<=aE->
  (∀x∈xs,∀c:Option D->oM->Ms->Prop,(∀a,HG fr a=i->c (ae (f x)) a M)->Gq g tt m (e x) i M c)->Q (acc++xs.map f) M->uJ fr g tt m st Q (xs.map e) acc i M
 |[],acc,_,_,q=>by rw[ahu,ba] at q;exact q
 |x::xs,acc,j,h,q=>by refine h x aH _ λa e1=>⟨b,by simp at j;omega,?_⟩;rw[e1];refine sF e f b xs _ (by simp at j |-;omega) (λy n=>h y (ay _ n)) ?_;rw[bt];exact q
theorem sG{β:Type}(e f:β->D)(p:β->Bool)(a:st M):∀(xs:List β) (acc:List D),acc.length+xs.length<=aE->
  (∀x∈xs,∀j:Option D->oM->Ms->Prop,(∀b,HG fr b=m->j (if p x=aj then ae (f x) else am) b M)->Gq g tt o (e x) m M j)->Q (acc++(xs.filter p).map f) M->uJ fr g tt o st Q (xs.map e) acc m M
 |[],acc,_,_,q=>by rw[List.filter_nil,ahu,ba] at q;exact q
 |x::xs,acc,c,h,q=>by
  refine h x aH _ λb e1=>⟨a,?_⟩;rw[eB] at q;cases n:p x with
  |false=>
   rw[n] at q;rw[e1];exact sG e f p a xs acc (by simp at c |-;omega) (λy i=>h y (ay _ i)) q
  |true=>
   rw[n] at q;refine⟨by simp at c;omega,?_⟩;rw[e1];refine sG e f p a xs _ (by simp at c |-;omega) (λy i=>h y (ay _ i)) ?_;rw[bt];exact q
theorem iZ{β:Type}(e:β->D)(Pv:List β->List β->oM->Ms->Prop)(j:∀a b c M,Pv a b c M->st M):∀(xs pre:List β) (c:oM) (M:Ms),Pv pre xs c M->
  (∀pre x xs c M,Pv pre (x::xs) c M->∀N:oM->Ms->Prop,(∀f i,Pv (pre++[x]) xs f i->N f i)->g (e x) c M λn M1=>tb {E with nx:=N,ct:=N,bk:=E.nx} n M1)->
  (∀pre c M,Pv pre [] c M->E.nx c M)->tF g tb st E (xs.map e) c M
 |[],pre,c,M,p,_,z=>z pre c M p
 |x::xs,pre,c,M,p,h,z=>by exact h pre x xs c M p _ λf i m=>⟨j _ _ _ _ m,iZ e Pv j xs _ f i m h z⟩
theorem Tp:∀ds Q,vW c ds Q->kq 4 1 (BN (cl QL) (cl (wY c)) (cl (oh c))) ds Q:=by
 rintro ds Q ⟨f,h,ok,q⟩
 subst h;have p:f.length<=aE:=qk (by have:=ok.pso.hi;omega);refine⟨rfl,m8 f,f,rfl,ok.pso,?_⟩;refine⟨_,rfl,rfl,?_⟩;refine sF oN (Jx c) ?_ _ _ ?_ (λx g u r=>?_) ?_
 .exact rfl
 .rw[cm,bJ];exact p
 .refine⟨_,rfl,_,rfl,_,rfl,?_,x.1,x.2,rfl,ok.rows x g,(ok.pso.all x g).len,?_⟩
  .show(aj&&(lu _&&aj))=aj;rw[z9];rfl
  .exact⟨au rfl,r _ rfl⟩
 refine⟨_,rfl,rfl,?_⟩;refine iZ (Jx c) (λa b i M=>f=a++b/\∃j m,M=[]/\i=[ae _,ae _,j,m]) (λ_ _ _ _ ⟨_,_,_,e,_⟩=>by rw[e]) f [] _ _ ⟨rfl,am,am,rfl,rfl⟩ (λpre x xs i M n N s=>?_) (λpre i M n=>?_)
 .obtain⟨o,j,m,rfl,rfl⟩:=n;have g:x∈f:=by rw[o];simp
  refine⟨rfl,rfl,?_,x.1,x.2,rfl,ok.ends x g,s _ _ ⟨by rw[o];simp,_,_,rfl,rfl⟩⟩;show(aj&&(lu _&&aj))=aj;rw[rm];rfl
 .obtain⟨o,j,m,rfl,rfl⟩:=n;exact⟨Jd c f,q⟩
noncomputable def mM(a:List Pt):List Pt:=ke (a.map aU) a
theorem He(c:CA):∀a:List Pt,xY (a.map (Jx c)) (a.map aU)
 |[]=>trivial
 |p::a=>⟨⟨_,rfl⟩,He c a⟩
theorem LS(g:β->a)(p:aJ×β):∀l:List _,L3.vg aU (p.1,g p.2) (l.map λq=>(q.1,g q.2))=(L3.vg aU p l).map λq=>(q.1,g q.2)
 |[]=>rfl
 |q::l=>by
  rw[aX];unfold L3.vg;split
  .rfl
  .rw[LS g p l];rfl
theorem QM(g:β->a):∀l:List _,L3.P6 aU (l.map λq=>(q.1,g q.2))=(L3.P6 aU l).map λq=>(q.1,g q.2)
 |[]=>rfl
 |q::l=>by show L3.vg aU _ _=_;rw[QM g l,LS];rfl
theorem Hg(g:β->b)(a:List aJ)(l:List β):ke a (l.map g)=(ke a l).map g:=by
 unfold ke;have:a.zip (l.map g)=(a.zip l).map λq=>(q.1,g q.2):=by rw[List.zip_map_right];rfl
 rw[this,QM,bB,bB];rfl
def sH (c:CA):GP:=λds Q=>∃a:List Pt,ds=[.lst (a.map (Jx c))]/\(a.map aU).Nodup/\a.length<64/\Q (.lst ((mM a).map (Jx c)))
theorem E1:iM (sH c):=by
 rintro ds P Q w ⟨a,h,nd,l,q⟩
 exact⟨a,h,nd,l,w _ q⟩
theorem OJ:∀ds Q,sH c ds Q->kq 1 1 G4 ds Q:=by
 rintro ds Q ⟨a,h,nd,l,q⟩
 subst h;refine⟨rfl,_,_,rfl,He c a,nd,by rw[ar];exact l,?_⟩;rw[Hg];exact⟨Jd c _,q⟩
abbrev Mk:=aJ×Bool×aJ×Nat
noncomputable def OL(m:Mk):D:=.tup [.str m.1,.bl m.2.1,.tup [.str m.2.2.1,.int m.2.2.2]]
theorem OM(m:Mk):nl (OL m)=aj:=rfl
noncomputable def iL(n:aJ):Nat->List Rw->List Mk
 |_,[]=>[]
 |k,.mark w b::rs=>(w,b,n,k)::iL n k rs
 |k,_::rs=>iL n (k+1) rs
theorem Ac(h:r.jk=aq):iL n k (r::rs)=iL n (k+1) rs:=by cases r<;>first|rfl|cases h
theorem oF(n:aJ):∀(k:Nat) (rs:List Rw),(iL n k rs).length<=rs.length
 |_,[]=>aD _
 |k,r::rs=>by
  cases hm:r.jk with
  |false=>rw[Ac hm];exact Nat.le_succ_of_le (oF n _ rs)
  |true=>cases r<;>first|(cases hm;done)|exact Nat.succ_le_succ (oF n k rs)
section
def uk (c:CA):GP:=λds Q=>∃(n:aJ) (rs:List Rw),ds=[.str n,.lst (rs.map (Rw.ins c))]/\rs.length<=1000/\Q (.lst ((iL n 0 rs).map OL))
theorem Cn:iM (uk c):=by
 rintro ds P Q w ⟨n,a,h,l,q⟩
 exact⟨n,a,h,l,w _ q⟩
theorem LU(s:W1 K c):∀ds Q,uk c ds Q->kq 7 2 (oS K c.Mark (jU c)) ds Q:=by
 rintro ds Q ⟨n,rs,h,l,q⟩
 subst h;have p:=@Ab K c s;unfold oS;generalize lD K=v at p |-;refine⟨rfl,?_⟩;refine⟨bC _,?_⟩;refine⟨_,rfl,rfl,?_⟩;refine iZ _ (λa b g M=>∃(k:Nat) (ms:List Mk) (i j m:Option D),iL n 0 rs=ms++iL n k b/\M=[ae (.lst (ms.map OL))]/\g=[ae (.str n),ae _,ae (.loc 0),ae (.int k),i,j,m]) (λ_ _ _ _ ⟨_,_,_,_,_,_,e,_⟩=>rfl) rs [] _ _ ⟨0,[],am,am,am,rfl,rfl,rfl⟩ (λpre x xs g M o N r=>?_) (λpre g M o=>?_)
 .obtain⟨k,ms,i,j,m,f,rfl,rfl⟩:=o;refine p x ?_;cases hm:x.jk with
  |true=>
   cases x with
   |mark w b=>
    have u:(ms.map OL).length<aE:=by have:=oF n 0 rs;rw[f,bN] at this;rw[ar];exact bY (show ms.length<=1000 by omega) (by decide)
    refine⟨_,_,_,_,rfl,rfl,⟨.Mark,rfl,rfl⟩,by rfl,.mark w b,rfl,rfl,?_⟩;refine⟨λz=>Nat.one_ne_zero z.1,rfl,rfl,rfl,?_⟩;refine⟨au rfl,?_⟩;refine⟨au rfl,?_⟩;refine⟨_,rfl,u,r _ _ ⟨k,ms++[(w,b,n,k)],_,_,_,?_,?_,rfl⟩⟩
    .rw[f,bt];rfl
    .rw[bh];rfl
   |_=>cases hm
  |false=>
   exact⟨trivial,r _ _ ⟨k+1,ms,_,_,_,by rw[f,Ac hm],rfl,rfl⟩⟩
 .obtain⟨k,ms,i,j,m,f,rfl,rfl⟩:=o;have e:iL n 0 rs=ms:=by rw[f];exact ba _
  rw[e] at q;exact⟨jL OM ms,q⟩
end
theorem ON(a:List aJ)(l:List β)(h:a.length=l.length):(ke a l).Perm l:=by refine(eV.map _ (L3.jS _ _)).trans ?_;rw[fY (by omega)]
theorem iT(a:List Pt):(mM a).Perm a:=ON _ _ (by simp)
noncomputable def gQ(a:List Pt):List Mk:=(mM a).flatMap λp=>iL p.1 0 p.2
structure aab(ps:List Pt):Prop where
 nd:(ps.map aU).Nodup
 l:ps.length<64
 len:∀p∈ps,p.2.length<=1000
 ml:(gQ ps).length<=1000
def ul (c:CA):GP:=λds Q=>∃a:List Pt,ds=[.lst (a.map (Jx c))]/\aab a/\Q (.lst ((gQ a).map OL))
theorem Co:iM (ul c):=by
 rintro ds P Q w ⟨a,h,l,q⟩
 exact⟨a,h,l,w _ q⟩
theorem A8(c:CA)(a:List Pt):lu [.lst (a.map (Jx c))]=aj:=by show(lu _&&aj)=aj;rw[Jd];rfl
theorem LV:∀ds Q,ul c ds Q->kq 4 1 (En (cl (sH c)) (cl (uk c))) ds Q:=by
 rintro ds Q ⟨f,h,ok,q⟩
 subst h;refine⟨rfl,?_⟩;refine⟨bC _,?_⟩;refine⟨A8 c f,f,rfl,ok.nd,ok.l,?_⟩;refine⟨_,rfl,rfl,?_⟩;refine iZ (Jx c) (λa b i M=>∃(j m:Option D),mM f=a++b/\M=[ae (.lst ((a.flatMap λp=>iL p.1 0 p.2).map OL))]/\i=[ae _,ae (.loc 0),j,m]) (λ_ _ _ _ ⟨_,_,_,e,_⟩=>rfl) _ [] _ _ ⟨am,am,rfl,rfl,rfl⟩ (λpre x xs i M n N o=>?_) (λpre i M n=>?_)
 .obtain⟨j,m,g,rfl,rfl⟩:=n;have r:x∈f:=(iT f).mem_iff.mp (by rw[g];simp);refine⟨rfl,rfl,rfl,?_,x.1,x.2,rfl,ok.len x r,?_⟩
  .show(aj&&(lu _&&aj))=aj;rw[rm];rfl
  .refine⟨_,_,rfl,rfl,?_,o _ _ ⟨_,_,by rw[g,bt];rfl,?_,rfl⟩⟩
   .refine qk (bi ?_ ok.ml);unfold gQ;rw[g,List.flatMap_append,fS,bN,bN,ar,ar];omega
   .rw[List.flatMap_append,fS,List.flatMap_nil,ba,bh];rfl
 .obtain⟨j,m,g,rfl,rfl⟩:=n;rw[ba] at g;have e:gQ f=pre.flatMap λp=>iL p.1 0 p.2:=by unfold gQ;rw[g]
  rw[e] at q;exact⟨jL OM _,q⟩
noncomputable def jN(ms:List Mk):List Mk:=ms.filter λm=>m.2.1
theorem wZ(h:w∈jH ss):w∈ss:=(L3.jS _ _).mem_iff.mp h
structure afG(ms:List Mk):Prop where
 nd:((jN ms).map aU).Nodup
 few:si ((jN ms).map aU)
 len:ms.length<=1000
noncomputable def h8{β:Type}(w:aJ):List (aJ×β)->Option β
 |[]=>am
 | (x,v)::l=>if x=w then ae v else h8 w l
noncomputable def Ad{β:Type}(w:aJ)(v:β)(l:List (aJ×β)):List (aJ×β):=if(h8 w l).isSome=aj then l.map (λx=>if x.1=w then(x.1,v) else x) else l++[(w,v)]
noncomputable def kA{β:Type}(l:List (aJ×β)):List Key:=l.map λx=>.inr x.1
noncomputable def vA{β:Type}(f:β->D)(l:List (aJ×β)):List D:=l.map λx=>f x.2
theorem vX(f:β->D)(w:aJ):∀l:List _,nB (.inr w) (kA l) (vA f l)=(h8 w l).map f
 |[]=>rfl
 | (x,v)::l=>by
  show(if(c8 x:Key)=.inr w then ae (f v) else nB (.inr w) (kA l) (vA f l))=_;unfold h8;by_cases h:x=w
  .rw[if_pos (by rw[h]),if_pos h];rfl
  .rw[if_neg (λz=>h (by cases z;rfl)),if_neg h,vX f w l]
theorem abr(w:aJ):∀l:List (aJ×β),((kA l).any λx=>decide (x=.inr w))=(h8 w l).isSome
 |[]=>rfl
 | (x,v)::l=>by
  show(decide _||(kA l).any λx=>decide _)=_;unfold h8;by_cases h:x=w
  .rw[if_pos h,decide_eq_true (by rw[h])];rfl
  .rw[if_neg h,decide_eq_false (λz=>h (by cases z;rfl)),abr w l];rfl
theorem abt(f:β->D)(w:aJ)(v:β):∀l:List _,dG (λ(x:Key) y=>if x=.inr w then f v else y) (kA l) (vA f l)=vA f (l.map λx=>if x.1=w then(x.1,v) else x)
 |[]=>rfl
 | (x,u)::l=>by
  show(if(c8 x:Key)=.inr w then f v else f u)::dG _ (kA l) (vA f l)=_;rw[abt f w v l];by_cases h:x=w
  .rw[if_pos (by rw[h])];show _=f (if x=w then(x,v) else(x,u)).2::_;rw[if_pos h];rfl
  .rw[if_neg (λz=>h (by cases z;rfl))];show _=f (if x=w then(x,v) else(x,u)).2::_;rw[if_neg h];rfl
theorem adu(w:aJ)(v:β)(l:List _):kA (l.map λx=>if x.1=w then(x.1,v) else x)=kA l:=by unfold kA;rw[bB];refine cV λx _=>?_;show(c8 (if x.1=w then(x.1,v) else x).1:Key)=.inr x.1;split<;>rfl
theorem abu(f:β->D)(w:aJ)(v:β)(l:List _):sg (.inr w) (f v) (kA l) (vA f l)=(kA (Ad w v l),vA f (Ad w v l)):=by
 unfold sg Ad;rw[abr];by_cases h:(h8 w l).isSome=aj
 .rw[if_pos h,if_pos h,abt,adu]
 .rw[if_neg h,if_neg h];unfold kA vA;rw[bh,bh];rfl
theorem W4(w:aJ)(v:β)(l:List _):(Ad w v l).length<=l.length+1:=by
 unfold Ad;split
 .rw[ar];omega
 .simp
abbrev Pl:=aJ×Nat
noncomputable def Hi(p:Pl):D:=.tup [.str p.1,.int p.2]
noncomputable def m9(l:List (aJ×Pl))(m:Mk):List (aJ×Pl):=if(m.2.1||!(h8 m.1 l).isSome)=aj then Ad m.1 m.2.2 l else l
noncomputable def placesOf(ms:List Mk):List (aJ×Pl):=ms.foldl m9 []
theorem Je(ms:List Mk):(placesOf ms).length<=ms.length:=by
 have gen:∀(ms:List Mk) (l:List _),(ms.foldl m9 l).length<=l.length+ms.length:=by
  intro ms;induction ms with
  |nil=>intro l;exact aD _
  |cons m ms a=>
   intro l;rw[gm,bc];have b:=a (m9 l m);have c:(m9 l m).length<=l.length+1:=by
    unfold m9;split
    .exact W4 _ _ _
    .omega
   omega
 have:=gen ms [];rw[cm,bJ] at this;exact this
noncomputable def E2(l:List (aJ×Pl)):D:=.jf (kA l) (vA Hi l)
theorem w4(l:List _):nl (E2 l)=aj:=jL (λ_=>rfl) l
structure ahr(ps:List Pt):Prop where
 mi:aab ps
 tw:afG (gQ ps)
theorem adv(ms:List Mk):lu [.lst (ms.map OL)]=aj:=by show(lu _&&aj)=aj;rw[jL OM];rfl
noncomputable def bare(rs:List Rw):List Rw:=rs.filter λr=>!r.jk
theorem aac{K:bz}{c:CA}(a:W1 K c)(r:Rw){M:Ms}{Q:DK}(q:Q (.bl (match r with|.numbers _=>aj|_=>aq)) M):lD K [r.ins c,.cls c.j6] M Q:=by refine⟨.ref (c.at r.kn),_,rfl,λC ns es e=>by cases e;exact a.io _,?_,q⟩;rw[a.nums];cases r<;>rfl
theorem aad{K:bz}{c:CA}(a:W1 K c)(r:Rw){M:Ms}{Q:DK}(q:Q (.bl (match r with|.table _=>aj|_=>aq)) M):lD K [r.ins c,.cls c.Table] M Q:=by refine⟨.ref (c.at r.kn),_,rfl,λC ns es e=>by cases e;exact a.io _,?_,q⟩;rw[a.ag7];cases r<;>rfl
section
def w5 (c:CA):GP:=λds Q=>∃rs:List Rw,ds=[.lst (rs.map (Rw.ins c))]/\rs.length<=1000/\Q (.lst ((bare rs).map (Rw.ins c)))
theorem E3:iM (w5 c):=by
 rintro ds P Q w ⟨rs,h,l,q⟩
 exact⟨rs,h,l,w _ q⟩
theorem OO(b:W1 K c):∀ds Q,w5 c ds Q->kq 1 1 (oU K c.Mark) ds Q:=by
 rintro ds Q ⟨rs,h,l,q⟩
 subst h;have a:=@Ab K c b;unfold oU;generalize lD K=f at a |-;refine⟨rfl,?_⟩;refine⟨_,rfl,rfl,?_⟩;refine sG _ (Rw.ins c) (λr=>!r.jk) ?_ _ _ ?_ (λx g i e=>?_) ?_
 .exact rfl
 .rw[cm,bJ];exact qk l
 .refine a x ?_;have:=e _ (show HG [am] [ae (x.ins c)]=_ from rfl);cases hm:x.jk with
  |true=>rw[hm] at this;exact this
  |false=>rw[hm] at this;exact this
 .exact⟨rm c _,q⟩
end
abbrev Br:=List (aJ×List Rw)
noncomputable def lf(a:List Pt):Br:=(mM a).map λp=>(p.1,bare p.2)
noncomputable def F2(c:CA)(rs:List Rw):D:=.lst (rs.map (Rw.ins c))
noncomputable def xH(c:CA)(b:Br):D:=.jf (kA b) (vA (F2 c) b)
theorem Ae(c:CA)(b:Br):nl (xH c b)=aj:=jL (f:=λx:aJ×List Rw=>F2 c x.2) (λp=>rm c p.2) b
structure afH(ps:List Pt):Prop where
 nd:(ps.map aU).Nodup
 l:ps.length<64
 len:∀p∈ps,p.2.length<=1000
def Jf (c:CA):GP:=λds Q=>∃a:List Pt,ds=[.lst (a.map (Jx c))]/\afH a/\Q (xH c (lf a))
theorem LW:iM (Jf c):=by
 rintro ds P Q w ⟨a,h,l,q⟩
 exact⟨a,h,l,w _ q⟩
theorem aae{c:CA}:∀ds Q,Jf c ds Q->kq 1 1 (BO (cl (sH c)) (cl (w5 c))) ds Q:=by
 rintro ds Q ⟨f,h,ok,q⟩
 subst h;refine⟨rfl,A8 c f,f,rfl,ok.nd,ok.l,?_⟩;refine⟨_,rfl,rfl,?_⟩;have g:=iT f;refine sF (Jx c) (λp=>prD (.inr p.1,F2 c (bare p.2))) ?_ _ _ ?_ (λx i r j=>?_) ?_
 .exact rfl
 .rw[cm,bJ,g.length_eq];exact qk (by have:=ok.l;omega)
 .refine⟨rfl,rfl,?_,x.2,rfl,ok.len x (g.mem_iff.mp i),au rfl,?_⟩
  .show(lu _&&aj)=aj;rw[rm];rfl
  .exact j _ rfl
 .refine⟨(mM f).map λp=>(.inr p.1,F2 c (bare p.2)),(by rw[bB];rfl),?_,?_⟩
  .rw[bB];have m:=(g.map aU).nodup_iff.mpr ok.nd;have n:((λx:Key×D=>x.1)∘λp:Pt=>((.inr p.1:Key),F2 c (bare p.2)))=(c8:aJ->Key)∘aU:=rfl;rw[n,<-bB];exact List.Pairwise.map _ (λa b o e=>o (by cases e;rfl)) m
  .have e:(OD.jf (((mM f).map λp=>((.inr p.1:Key),F2 c (bare p.2))).map (·.1)) (((mM f).map λp=>((.inr p.1:Key),F2 c (bare p.2))).map (·.2))).toD=xH c (lf f):=by show D.jf _ _=D.jf _ _;unfold lf kA vA;rw[bB,bB,bB,bB];rfl
   dsimp only;rw[e];exact⟨Ae c _,q⟩
noncomputable def atP(b:Br)(p:Pl):Option Rw:=(h8 p.1 b).bind λrs=>rs[p.2]?
theorem W5(h:atP b p=ae r):∃rs,h8 p.1 b=ae rs/\rs[p.2]?=ae r:=by
 unfold atP at h;cases e:h8 p.1 b with
 |none=>rw[e] at h;cases h
 |some rs=>rw[e] at h;exact⟨rs,rfl,h⟩
def aaf (c:CA):GP:=λds Q=>∃(b:Br) (p:Pl) (r:Rw),ds=[xH c b,Hi p]/\atP b p=ae r/\Q (r.ins c)
theorem Tq:iM (aaf c):=by
 rintro ds P Q w ⟨b,p,r,h,l,q⟩
 exact⟨b,p,r,h,l,w _ q⟩
theorem afI:∀ds Q,aaf c ds Q->kq 2 2 Eo ds Q:=by
 rintro ds Q ⟨b,p,r,h,e,q⟩
 subst h;obtain⟨rs,e1,e2⟩:=W5 e;refine⟨rfl,_,rfl,.inr p.1,F2 c rs,rfl,by rw[vX,e1];rfl,_,rfl,r.ins c,?_,r.nli c,q⟩;exact AS (by rw[bq,e2];rfl)
noncomputable def OP(r a:Rw):Bool:=match r with
 |.alike _ _ _=>aj
 |.load _ _ _=>(match a with|.numbers _=>aj|_=>aq)
 |.jumpby _ _=>(match a with|.table _=>aj|_=>aq)
 |_=>a.code
section
def QN (c:CA):GP:=λds Q=>∃r a:Rw,ds=[r.ins c,a.ins c]/\Q (.bl (OP r a))
theorem OQ:iM (QN c):=by
 rintro ds P Q w ⟨b,p,h,q⟩
 exact⟨b,p,h,w _ q⟩
theorem adw(b:W1 K c):∀ds Q,QN c ds Q->kq 3 2 (tW K (jU c) c.j6 c.Table c.Code) ds Q:=by
 rintro ds Q ⟨r,a,h,q⟩
 subst h;have e:=@aac K c b;have f:=@aad K c b;have g:=@LR K c b;unfold tW;generalize lD K=i at e f g |-;refine⟨rfl,_,_,_,_,rfl,rfl,⟨r.kn,rfl,rfl⟩,by unfold lu;rw[r.nli];rfl,r,rfl,rfl,?_⟩;cases r;all_goals
  walk_at "f";first|exact q|exact e a ⟨rfl,q⟩|exact f a ⟨rfl,q⟩|exact g a ⟨rfl,q⟩
end
noncomputable def Rw.nms:Rw->List aJ
 |.jump w|.jumpif _ w|.call w|.load _ _ w|.jumpby _ w=>[w]
 |.alike _ w v=>[w,v]
 |.table ws=>ws
 |_=>[]
theorem Rw.W6(r:Rw):r.names=r.nms.map D.str:=by cases r<;>rfl
noncomputable def QP(b:Br)(pl:List (aJ×Pl))(r:Rw)(w:aJ):Bool:=match h8 w pl with
 |none=>aq
 |some p=>match atP b p with
  |none=>aq
  |some a=>OP r a
theorem OR{pl:List _}(h:QP b pl r w=aj):∃p a,h8 w pl=ae p/\atP b p=ae a/\OP r a=aj:=by
 unfold QP at h;cases e:h8 w pl with
 |none=>rw[e] at h;cases h
 |some p=>
  rw[e] at h;dsimp only at h;cases e2:atP b p with
  |none=>rw[e2] at h;cases h
  |some a=>rw[e2] at h;exact⟨p,a,rfl,e2,h⟩
noncomputable def Jg(b:Br)(pl:List (aJ×Pl))(rs:List Rw):Bool:=rs.all λr=>r.nms.all (QP b pl r)
def Jh (c:CA):GP:=λds Q=>∃(n:aJ) (b:Br) (pl:List (aJ×Pl)) (rs:List Rw),ds=[.str n,xH c b,E2 pl]/\h8 n b=ae rs/\Jg b pl rs=aj/\Q .non
theorem LX:iM (Jh c):=by
 rintro ds P Q w ⟨n,b,p,r,h,l,z,q⟩
 exact⟨n,b,p,r,h,l,z,w _ q⟩
theorem aag{c:CA}:∀ds Q,Jh c ds Q->kq 6 3 (vC (tV c) (cl (QN c)) (cl (aaf c))) ds Q:=by
 rintro ds Q ⟨n,b,pl,rs,h,e,ok,q⟩
 subst h;refine⟨rfl,.inr n,F2 c rs,rfl,by rw[vX,e];rfl,_,rfl,rfl,?_⟩;refine pV (λj f M=>∃s u g,f=[ae (.str n),ae (xH c b),ae (E2 pl),s,u,g]) (λ_ _ _ ⟨_,_,_,_⟩=>rfl) _ 0 _ _ ⟨am,am,am,rfl⟩ (λj x f M w i N A=>?_) (λf M i=>q);obtain⟨s,u,g,rfl⟩:=i;obtain⟨y,B,rfl⟩:=vU w;obtain⟨r,C,rfl⟩:=nS B;have E:r.nms.all (QP b pl r)=aj:=bR.mp ok r (bF C);refine⟨rfl,rfl,_,_,_,_,rfl,rfl,⟨r.kn,rfl,rfl⟩,r,rfl,rfl,?_⟩;refine⟨r.names,by show xU (M7 _ (M++[ae (.lst r.names)])[M.length]?)=_;rw[Qy];rfl,rfl,?_⟩;rw[r.W6];refine iZ D.str (λa z f G=>r.nms=a++z/\G=M++[ae (.lst (r.nms.map D.str))]/\∃g,f=[ae (.str n),ae (xH c b),ae (E2 pl),ae (.int j),ae (r.ins c),g]) (λ_ _ _ _ ⟨_,e,_⟩=>by rw[e]) _ [] _ _ ⟨rfl,rfl,g,rfl⟩ (λpre x xs f M1 i H m=>?_) (λpre f M1 ⟨_,_,o,e⟩=>A _ _ ⟨_,_,_,e⟩);obtain⟨v,rfl,o,rfl⟩:=i;obtain⟨p,a,e1,e2,e3⟩:=OR (bR.mp E x (by rw[v];simp));refine⟨aj,by show ae (nB (.inr x) (kA pl) (vA Hi pl)).isSome=_;rw[vX,e1];rfl,?_⟩;refine⟨.inr x,Hi p,rfl,by rw[vX,e1];rfl,?_,b,p,a,rfl,e2,?_⟩
 .show(nl (xH c b)&&(nl (Hi p)&&aj))=aj;rw[Ae];rfl
 refine⟨by show(nl (r.ins c)&&(nl (a.ins c)&&aj))=aj;rw[r.nli,a.nli];rfl,r,a,rfl,?_⟩;rw[e3];exact m _ _ ⟨by rw[v,bt];rfl,rfl,_,rfl⟩
structure ahs(ps:List Pt):Prop where
 lk:ads ps
 ml:(gQ ps).length<=1000
 tw:afG (gQ ps)
 aah:∀p∈ps,∃rs,h8 p.1 (lf ps)=ae rs/\Jg (lf ps) (placesOf (gQ ps)) rs=aj
abbrev E4(a:List Pt):List (aJ×Pl):=placesOf (gQ a)
section
end
end FJ
namespace qz
open PySem PySem.Spec PyProof.Rows.KTD L2 L3 FJ
abbrev Gs:=List (aJ×List aJ)
noncomputable def xq(g:Gs)(m:Mk):Gs:=if(h8 m.1 g).isSome=aj then g.map (λx=>if x.1=m.1 then(x.1,x.2++[m.2.2.1]) else x) else g++[(m.1,[m.2.2.1])]
noncomputable def groups(ms:List Mk):Gs:=(jN ms).foldl xq []
noncomputable def gl(l:List aJ):Option OD:=ae (.lst (l.map .str))
theorem QQ:∀(g:Gs) (ds:List D),(h8 w g).isSome=aj->ds.length=g.length->∃i l,i<g.length/\g[i]?=ae (w,l)/\h8 w g=ae l/\nB (.inr w) (kA g) ds=ds[i]?/\
  ((g.map aU).Nodup->∀p,(g.map λx=>if x.1=w then(x.1,x.2++[p]) else x)=g.set i (w,l++[p]))
 |[],_,h,_=>nomatch h
 |_::_,[],_,h=>nomatch h
 | (x,v)::g,d::ds,h,a=>by
  unfold h8 at h |-;by_cases e:x=w
  .subst e;refine⟨0,v,by simp,rfl,by rw[if_pos rfl],?_,λnd p=>?_⟩
   .show(if(c8 x:Key)=.inr x then ae d else _)=_;rw[if_pos rfl];rfl
   .have hn:=(cL.mp nd).1;rw[aX,if_pos rfl];congr 1;conv=>rhs;rw[<-List.map_id g]
    refine cV λy b=>?_;rw[if_neg (λz=>hn (aV.mpr ⟨y,b,z⟩))];rfl
  .rw[if_neg e] at h |-;obtain⟨i,l,n,c,f,j,m⟩:=QQ g ds h (by simpa using a);refine⟨i+1,l,by simp;omega,by simpa using c,f,?_,λnd p=>?_⟩
   .show(if(c8 x:Key)=.inr w then ae d else nB (.inr w) (kA g) ds)=_;rw[if_neg (λz=>e (by cases z;rfl)),j];rfl
   .rw[aX,if_neg e,ahy,m (cL.mp nd).2 p]
theorem Tr(g:Gs)(m:Mk)(nd:(g.map aU).Nodup):((xq g m).map aU).Nodup:=by
 unfold xq;split
 .have e:(g.map λx=>if x.1=m.1 then(x.1,x.2++[m.2.2.1]) else x).map aU=g.map aU:=by rw[bB];refine cV λx _=>?_;show(if x.1=m.1 then(x.1,x.2++[m.2.2.1]) else x).1=x.1;split<;>rfl
  rw[e];exact nd
 .rename_i h;rw[bh];refine dg.mpr ⟨nd,ahY _ _,λa ha b f e=>h ?_⟩;have i:=by simpa using f
  subst e i;obtain⟨x,c,e2⟩:=aV.mp ha;rw[<-e2];clear h f ha nd e2;induction g with
  |nil=>exact nomatch c
  |cons y g j=>
   obtain⟨n,o⟩:=y;unfold h8;by_cases z:n=x.1
   .rw[if_pos z];rfl
   .rw[if_neg z];rcases aC.mp c with rfl|c
    .exact absurd rfl z
    .exact j c
theorem W7(g:Gs)(m:Mk):(xq g m).length<=g.length+1:=by
 unfold xq;split
 .rw[ar];omega
 .simp
theorem Hj:∀(ms:List Mk) (g:Gs),(g.map aU).Nodup->((ms.foldl xq g).map aU).Nodup/\(ms.foldl xq g).length<=g.length+ms.length
 |[],g,h=>⟨h,aD _⟩
 |m::ms,g,h=>by obtain⟨a,b⟩:=Hj ms _ (Tr g m h);have:=W7 g m;exact⟨a,by rw[gm,bc];omega⟩
theorem Hk:∀(ms:List Mk) (g:Gs) (n:Nat),(∀x∈g,x.2.length<=n)->∀x∈ms.foldl xq g,x.2.length<=n+ms.length
 |[],g,n,h,x,b=>h x b
 |m::ms,g,n,h,x,b=>by
  have:=Hk ms _ (n+1) (λy a=>?_) x b
  .rw[bc];omega
  .unfold xq at a;split at a
   .obtain⟨z,c,rfl⟩:=aV.mp a;have:=h z c;split
    .simp;omega
    .omega
   .rcases bd.mp a with a|a
    .have:=h y a;omega
    .rw[bf] at a;subst a;simp
theorem LY(ms:List Mk):∀x∈groups ms,x.2.length<=ms.length:=λx a=>by have c:=Hk _ [] 0 (λy b=>nomatch b) x a;have e:(jN ms).length<=ms.length:=cu _ _;omega
theorem A9(ms:List Mk):((groups ms).map aU).Nodup/\(groups ms).length<=ms.length:=by obtain⟨a,b⟩:=Hj _ [] dh;exact⟨a,bi b (by rw[cm,bJ];exact cu _ _)⟩
structure GS(M:Ms)(g:Gs)(L:List Nat):Prop where
 len:L.length=g.length
 jf:M[0]?=ae (ae (.jf (kA g) (L.map .loc)))
 at_:∀(i:Nat) (x:aJ×List aJ),g[i]?=ae x->∃j,L[i]?=ae j/\j≠0/\M[j]?=ae (gl x.2)
 nd:L.Nodup
theorem adx{g:Gs}(h:g[i]?=ae (w,l)):kA (g.set i (w,a))=kA g:=by
 unfold kA;rw[List.map_set];refine fQ λj=>?_;rw[List.getElem?_set];by_cases e:i=j
 .subst e;have lt:=(ap.mp h).1;rw[if_pos rfl,if_pos (by simpa using lt),bq,h];rfl
 .rw[if_neg e]
def w8:GN:=λds M Q=>∃ms:List Mk,ds=[.lst (ms.map OL)]/\M=[]/\ms.length<=1000/\∀a L,GS a (groups ms) L->Q (.loc 0) a
theorem E5:qI w8:=by
 rintro ds M P Q w ⟨ms,h,a,b,q⟩
 exact⟨ms,h,a,b,λc L g=>w _ _ (q c L g)⟩
theorem GS.more(G:GS M g L)(h:g[i]?=ae (w,l))(c:L[i]?=ae j)(z:Option OD):GS ((M++[z]).set j (gl (l++[p]))) (g.set i (w,l++[p])) L:=by
 obtain⟨s,e1,e2,e3⟩:=G.at_ i _ h;rw[c] at e1;cases e1;have u:=(ap.mp e3).1;have n:=(ap.mp h).1;refine⟨by rw[gu];exact G.len,?_,λa x ha=>?_,G.nd⟩
 .rw[bx e2,aR (by omega),adx h];exact G.jf
 .by_cases e:i=a
  .subst e;rw[bG n] at ha;cases ha;exact⟨j,c,e2,bG (by rw[bN];omega)⟩
  .rw[bx e] at ha;obtain⟨b,f,o,m⟩:=G.at_ a x ha;have lb:=(ap.mp m).1;refine⟨b,f,o,?_⟩;have ne:j≠b:=λz=>by subst z;have q:=ap.mp c;have r:=ap.mp f;exact e ((fg G.nd).mp (q.2.trans r.2.symm))
   rw[bx ne,aR lb];exact m
theorem GS.new(G:GS M g L)(w p:aJ):GS (((M++[ae (OD.lst [])]).set 0 (ae (OD.jf (kA g++[c8 w]) (L.map D.loc++[D.loc M.length])))).set M.length (gl [p])) (g++[(w,[p])]) (L++[M.length]):=by
 have q:=(ap.mp G.jf).1;have lt:∀j∈L,j<M.length:=λj h=>by obtain⟨i,hi⟩:=dM.mp h;have c:=(ap.mp hi).1;rw[G.len] at c;obtain⟨r,e1,_,e3⟩:=G.at_ i _ (ax c);rw[hi] at e1;cases e1;exact(ap.mp e3).1
 refine⟨by rw[bN,bN,G.len];rfl,?_,λa x ha=>?_,dg.mpr ⟨G.nd,ahY _ _,λa ha b m e=>?_⟩⟩
 .rw[bx (by omega),bG (by rw[bN];omega)];unfold kA;rw[bh,bh];rfl
 .by_cases e:a<g.length
  .rw[aR e] at ha;obtain⟨b,n,o,f⟩:=G.at_ a x ha;have lb:=(ap.mp f).1;refine⟨b,by rw[aR (by rw[G.len];exact e)];exact n,o,?_⟩;rw[bx (by omega),bx (by omega),aR lb];exact f
  .have e2:a=g.length:=by have:=(ap.mp ha).1;simp at this;omega
   subst e2;rw[df (aD _),Nat.sub_self] at ha;cases ha;refine⟨M.length,by rw[<-G.len,df (aD _),Nat.sub_self];rfl,by omega,bG (by simp)⟩
 .have s:=by simpa using m
  have:=lt a ha;omega
theorem LZ(pre:List Mk)(m:Mk):groups (pre++[m])=if m.2.1=aj then xq (groups pre) m else groups pre:=by unfold groups jN;rw[eQ,fU];obtain⟨w,b,p⟩:=m;cases b<;>rfl
theorem QR:∀(g:Gs) (ds:List D),(h8 w g).isSome=aq->nB (.inr w) (kA g) ds=am
 |[],_,_=>rfl
 |_::_,[],_=>rfl
 | (x,v)::g,d::ds,h=>by
  unfold h8 at h;by_cases e:x=w
  .rw[if_pos e] at h;cases h
  .rw[if_neg e] at h;show(if(c8 x:Key)=.inr w then ae d else nB (.inr w) (kA g) ds)=am;rw[if_neg (λz=>e (by cases z;rfl)),QR g ds h]
theorem OS:∀ds M Q,w8 ds M Q->J8 5 1 vz ds M Q:=by
 rintro ds M Q ⟨ms,h,r,hl,q⟩
 subst h r;refine⟨rfl,?_⟩;conv=>whnf
 refine⟨_,rfl,rfl,?_⟩;have U:GS [ae (OD.jf [] [])] [] []:=⟨rfl,rfl,λi x h=>by simp at h,dh⟩;refine iZ OL (λa b s M=>∃(u v y:Option D) (L:List Nat),ms=a++b/\GS M (groups a) L/\s=[ae (.lst (ms.map OL)),ae (.loc 0),u,v,y]) (λ_ _ _ _ ⟨_,_,_,_,_,e,_⟩=>rfl) ms [] _ _ ⟨am,am,am,[],rfl,U,rfl⟩ (λpre x xs s M A N B=>?_) (λpre s M A=>?_)
 .obtain⟨u,v,y,L,c,G,rfl⟩:=A;have gs:=LZ pre x;obtain⟨w,b,p,k⟩:=x;have C:ms=pre++[(w,b,p,k)]++xs:=by rw[c,bt];rfl
  obtain⟨nd,Y⟩:=A9 pre;have iN:(groups pre).length<=1000:=by
   have f:pre.length<=ms.length:=by rw[c];simp
   omega
  cases b with
  |false=>
   refine⟨rfl,rfl,?_⟩;exact B _ _ ⟨_,_,_,L,C,by rw[gs];exact G,rfl⟩
  |true=>
   have g:groups (pre++[(w,aj,p,k)])=xq (groups pre) (w,aj,p,k):=gs;have I:(L.map D.loc).length=(groups pre).length:=by rw[ar,G.len]
   have d0:(M++[ae (OD.lst [])])[0]?=ae (ae (.jf (kA (groups pre)) (L.map .loc))):=by rw[aR (by have:=(ap.mp G.jf).1;omega)];exact G.jf
   refine⟨rfl,rfl,by show Vm "dict" (M7 _ M[0]?)=aj;rw[G.jf];rfl,bC _,_,_,_,d0,rfl,(λx ex=>?_),(λex=>⟨?_,?_⟩)⟩
   .cases m:(h8 w (groups pre)).isSome
    .rw[QR _ _ m] at ex;cases ex
    .obtain⟨i,l,r,f,h3,E,J⟩:=QQ (groups pre) _ m I;obtain⟨j,o,g2,H⟩:=G.at_ i _ f;have g4:=(ap.mp H).1;have O:(M++[ae (OD.lst [])])[j]?=ae (gl l):=by rw[aR g4];exact H
     rw[E,bq,o] at ex;cases ex;refine⟨?_,_,rfl,?_⟩
     .show Vm "list" (M7 _ (M++[ae (OD.lst [])])[j]?)=aj;rw[O];rfl
     .refine⟨_,O,?_,B _ _ ⟨_,_,_,L,C,?_,rfl⟩⟩
      .have:=LY pre _ (bF f);have h6:pre.length<=ms.length:=by rw[c];simp
       rw[ar];exact bY (show l.length<=1000 by dsimp only at this;omega) (by decide)
      .rw[g];unfold xq;rw[if_pos m,J nd p];have z:=G.more (p:=p) f o (ae (OD.lst []));unfold gl at z;rw[bh] at z;exact z
   .unfold kA;rw[ar];exact bY iN (by decide)
   .have T:∀d,((M++[ae (OD.lst [])]).set 0 d)[M.length]?=ae (ae (OD.lst [])):=λd=>by have l0:=(ap.mp G.jf).1;rw[bx (by omega),df (aD _),Nat.sub_self];rfl
    refine⟨?_,_,rfl,?_⟩
    .show Vm "list" (M7 _ ((M++[ae (OD.lst [])]).set 0 _)[M.length]?)=aj;rw[T];rfl
    .refine⟨_,T _,by decide,B _ _ ⟨_,_,_,L++[M.length],C,?_,rfl⟩⟩;rw[g];unfold xq;rw[if_neg]
     .exact G.new w p
     .intro m;obtain⟨i,l,r,f,h3,E,J⟩:=QQ (groups pre) _ m I;obtain⟨j,o,g2,H⟩:=G.at_ i _ f;have n:nB (c8 w) (kA (groups pre)) (List.map D.loc L)=am:=ex;rw[E,bq,o] at n;cases n
 .obtain⟨u,v,y,L,c,G,rfl⟩:=A;rw[ba] at c;rw[c] at q;exact q M L G
noncomputable def Ts(ms:List Mk)(n:aJ):List aJ:=(h8 n (groups ms)).getD []
noncomputable def Ba(ms:List Mk):Option aJ:=(jH ((groups ms).map aU)).find? λn=>decide (1<(Ts ms n).length)
noncomputable def Ji(ms:List Mk)(n:aJ):List aJ:=jH (SA (Ts ms n))
structure aai(ms:List Mk):Prop where
 len:ms.length<=1000
 few:si ((groups ms).map aU)
 Ts:∀n,n∈(groups ms).map aU->(Ts ms n).length<1000/\(SA (Ts ms n)).length<64/\n.length<=4000/\pl (sl (Ji ms n))=aj/\(gz (toP (sl (Ji ms n)))).length<=4000
def QU (T:aw):K2:=λds Q X=>∃ms:List Mk,ds=[.lst (ms.map OL)]/\aai ms/\(Ba ms=am->Q .non)/\∀n,Ba ms=ae n->X ⟨T,["name","parts"],[.str n,sl (Ji ms n)]⟩
theorem OT:BI (QU T):=by
 rintro ds P Q x y w v ⟨ms,h,ok,a,b⟩
 exact⟨ms,h,ok,λe=>w _ (a e),λn e=>v _ (b n e)⟩
theorem W8:∀{g:Gs} {y:aJ×List aJ},y∈g->(h8 y.1 g).isSome=aj
 | (a,b)::g,y,h=>by
  unfold h8;by_cases z:a=y.1
  .rw[if_pos z];rfl
  .rw[if_neg z];rcases aC.mp h with rfl|h
   .exact absurd rfl z
   .exact W8 h
theorem ady{T:aw}:∀ds Q X,QU T ds Q X->zn 3 1 (nH w8 T) ds Q X:=by
 rintro ds Q X ⟨ms,h,ok,q,B⟩
 subst h;refine⟨rfl,ms,rfl,rfl,ok.len,λo L G=>?_⟩;have u:vw o (.loc 0)=.jf (kA (groups ms)) (L.map .loc):=by show M7 _ o[0]?=_;rw[G.jf];rfl
 refine(show Vu (vw o (.loc 0)) _ from ?_);rw[u];refine⟨(groups ms).map aU,by unfold kA;rw[bB];rfl,ok.few,?_⟩;refine⟨_,rfl,rfl,?_⟩;refine iZ D.str (λa b f M=>∃(r:Option D),jH ((groups ms).map aU)=a++b/\(∀n∈a,decide (1<(Ts ms n).length)=aq)/\M=o/\f=[ae (.lst (ms.map OL)),ae (.loc 0),r]) (λ_ _ _ _ ⟨_,_,_,e,_⟩=>by rw[e]) _ [] _ _ ⟨am,rfl,(λn h=>nomatch h),rfl,rfl⟩ (λpre x xs f M s N C=>?_) (λpre f M s=>?_)
 .obtain⟨r,m,p,rfl,rfl⟩:=s;have v:x∈(groups ms).map aU:=wZ (by rw[m];simp);have E:(h8 x (groups ms)).isSome=aj:=by obtain⟨y,H,rfl⟩:=aV.mp v;exact W8 H
  obtain⟨i,l,h1,I,J,O,_⟩:=QQ (groups ms) (L.map .loc) E (by rw[ar,G.len]);obtain⟨j,U,g2,Y⟩:=G.at_ i _ I;have g:Ts ms x=l:=by unfold Ts;rw[J];rfl
  obtain⟨k1,w,k2,k3,k4⟩:=ok.Ts x v;rw[g] at k1 w;have z:∀Q:DK,Q (.loc j) M->mS (.loc 0) (.str x) M Q:=λQ q=>by unfold mS;rw[u];exact⟨_,_,rfl,by rw[O,bq,U];rfl,q⟩
  have A:vw M (.loc j)=.lst (l.map .str):=by show M7 _ M[j]?=_;rw[Y];rfl
  refine(show mS (.loc 0) (.str x) M _ from z _ ?_);refine⟨l.length,by rw[A];show ae (l.map D.str).length=_;rw[ar],?_⟩;by_cases c:1<l.length
  .refine(show(if decide ((1:Int)<(l.length:Int))=aj then _ else _) from ?_);rw[if_pos (decide_eq_true (by omega))];have tail:∀(f:oM) (Q:List D->Ms->Prop),f[2]?=ae (ae (.str x))->f[1]?=ae (ae (.loc 0))->Q [.str x,sl (Ji ms x)] M->gH (gK 2) (gH (j5 (wH (iq mS (gK 1) (gK 2)))) gR) f M Q:=λf Q e2 e1 q=>by
    have dv:∀(i:Nat) (d:D) (Q:DK),f[i]?=ae (ae d)->Q d M->gK i f M Q:=λi d Q e q=>by unfold gK;rw[e];exact q
    refine dv 2 _ _ e2 ?_;unfold gH j5 wH iq;refine dv 1 _ _ e1 ?_;refine dv 2 _ _ e2 ?_;refine z _ ⟨l,A,k1,w,?_⟩;unfold Ji at q;rw[g] at q;exact q
   refine tail _ _ rfl rfl ?_;refine⟨x,Ji ms x,rfl,k2,k3,k4,?_,B x ?_⟩
   .unfold sl;show(lu ((Ji ms x).map D.str)&&aj)=aj;rw[jL λ_=>rfl];rfl
   .unfold Ba;rw[m,List.find?_append,fM.mpr λn hn=>by rw[p n hn];exact aM];rw[Option.none_or];rw[List.find?_cons_of_pos (by rw[g];exact decide_eq_true c)]
  .refine(show(if decide ((1:Int)<(l.length:Int))=aj then _ else _) from ?_);rw[if_neg (by rw[decide_eq_false (by omega)];exact aM)];refine C _ _ ⟨_,by rw[m,bt];rfl,λn hn=>?_,rfl,rfl⟩;rcases bd.mp hn with hn|hn
   .exact p n hn
   .rw[bf] at hn;subst hn;rw[g];exact decide_eq_false c
 .obtain⟨r,m,p,rfl,rfl⟩:=s;rw[ba] at m;refine q ?_;unfold Ba;rw[m];exact fM.mpr λn hn=>by rw[p n hn];exact aM
abbrev exT(T:aw)(ms:List Mk)(n:aJ):EX:=⟨T,["name","parts"],[.str n,sl (Ji ms n)]⟩
theorem CP(T:aw)(ms:List Mk)(n:aJ):lu (exT T ms n).ds=aj:=by show(aj&&(nl _&&aj))=aj;show(lu _&&aj)=aj;rw[jL λ_=>rfl];rfl
structure ag9(ps:List Pt):Prop where
 mi:aab ps
 tx:aai (gQ ps)
def sI (c:CA)(T:aw):K2:=λds Q X=>∃a:List Pt,ds=[.lst (a.map (Jx c))]/\ag9 a/\(Ba (gQ a)=am->Q (E2 (placesOf (gQ a))))/\∀n,Ba (gQ a)=ae n->X (exT T (gQ a) n)
theorem E6:BI (sI c T):=by
 rintro ds P Q x y w v ⟨a,h,ok,b,f⟩
 exact⟨a,h,ok,λe=>w _ (b e),λn e=>v _ (f n e)⟩
theorem OU:∀ds Q X,sI c T ds Q X->zn 6 1 (vB (cl (ul c)) (QU T)) ds Q X:=by
 rintro ds Q X ⟨m,h,ok,v,y⟩
 subst h;refine⟨rfl,A8 c m,m,rfl,ok.mi,?_⟩;refine⟨adv _,_,rfl,ok.tx,λe=>?_,λn e=>⟨CP T _ n,y n e⟩⟩;have q:=v e;have tw:=ok.tx;clear v y e;generalize gQ m=ms at tw q |-;conv=>whnf
 refine⟨_,rfl,rfl,?_⟩;refine iZ OL (λa b p M=>∃(f g i:Option D),ms=a++b/\M=[ae (.jf (kA (placesOf a)) (vA Hi (placesOf a)))]/\p=[ae _,ae (.lst (ms.map OL)),ae (.loc 0),f,g,i]) (λ_ _ _ _ ⟨_,_,_,_,e,_⟩=>rfl) ms [] _ _ ⟨am,am,am,rfl,rfl,rfl⟩ (λpre x xs p M r N z=>?_) (λpre p M r=>?_)
 .obtain⟨f,g,i,j,rfl,rfl⟩:=r;have A:placesOf (pre++[x])=m9 (placesOf pre) x:=by unfold placesOf;rw[fU];rfl
  have E:(placesOf pre).length<=1000:=by
   have G:=Je pre;have H:pre.length<=ms.length:=by rw[j];simp
   have:=tw.len;omega
  have B:ms=pre++[x]++xs:=by rw[j,bt];rfl
  have s:(kA (placesOf pre)).length<aE:=by unfold kA;rw[ar];exact bY E (by decide)
  obtain⟨w,b,pl⟩:=x;have put:m9 (placesOf pre) (w,b,pl)=Ad w pl (placesOf pre)->∀f g i:Option D,∃o ds u,([ae (.jf (kA (placesOf pre)) (vA Hi (placesOf pre)))]:Ms)[0]?=ae (ae (.jf o ds))/\RS (.str w)=ae u/\o.length<aE/\N [ae (.lst (m.map (Jx c))),ae (.lst (ms.map OL)),ae (.loc 0),f,g,i] ([ae (.jf (kA (placesOf pre)) (vA Hi (placesOf pre)))].set 0 (ae (.jf (sg u (Hi pl) o ds).1 (sg u (Hi pl) o ds).2))):=by intro e f g i;refine⟨_,_,_,rfl,rfl,s,z _ _ ⟨f,g,i,B,?_,rfl⟩⟩;rw[A,e,abu];rfl
  cases b with
  |true=>exact⟨rfl,rfl,put rfl _ _ _⟩
  |false=>
   refine⟨rfl,rfl,(h8 w (placesOf pre)).isSome,?_,?_⟩
   .show ae _=_;rw[vX,ahA]
   .cases C:(h8 w (placesOf pre)).isSome with
    |true=>exact z _ _ ⟨_,_,_,B,by rw[A];unfold m9;dsimp only;rw[C];rfl,rfl⟩
    |false=>exact put (by unfold m9;dsimp only;rw[C];rfl) _ _ _
 .obtain⟨f,g,i,j,rfl,rfl⟩:=r;rw[ba] at j;rw[j] at q;exact⟨w4 _,q⟩
structure Af(ps:List Pt):Prop where
 lk:ads ps
 ml:(gQ ps).length<=1000
 tx:aai (gQ ps)
 aah:Ba (gQ ps)=am->∀p∈ps,∃rs,h8 p.1 (lf ps)=ae rs/\Jg (lf ps) (placesOf (gQ ps)) rs=aj
theorem Af.mi(h:Af a):aab a:=⟨h.lk.pso.nd,by have:=h.lk.pso.hi;omega,λp b=>(h.lk.pso.all p b).len,h.ml⟩
theorem Af.br(h:Af a):afH a:=⟨h.mi.nd,h.mi.l,h.mi.len⟩
def sJ (c:CA)(T:aw):K2:=λds Q X=>∃a:List Pt,ds=[.lst (a.map oN)]/\Af a/\(Ba (gQ a)=am->Q (E2 (E4 a)))/\∀n,Ba (gQ a)=ae n->X (exT T (gQ a) n)
theorem E7:BI (sJ c T):=by
 rintro ds P Q x y w v ⟨a,h,ok,b,f⟩
 exact⟨a,h,ok,λe=>w _ (b e),λn e=>v _ (f n e)⟩
theorem OV:∀ds Q X,sJ c T ds Q X->zn 1 1 (Ly (sI c T) (cl (vW c))) ds Q X:=by
 rintro ds Q X ⟨a,h,ok,q,b⟩
 subst h;refine⟨rfl,m8 a,a,rfl,ok.lk,?_⟩;exact⟨A8 c a,a,rfl,⟨ok.mi,ok.tx⟩,λe=>⟨w4 _,q e⟩,λn e=>⟨CP T _ n,b n e⟩⟩
def w9 (c:CA)(T:aw):K2:=λds Q X=>∃a:List Pt,ds=[.lst (a.map oN)]/\Af a/\(Ba (gQ a)=am->Q (.tup [xH c (lf a),E2 (E4 a)]))/\∀n,Ba (gQ a)=ae n->X (exT T (gQ a) n)
theorem E8:BI (w9 c T):=by
 rintro ds P Q x y w v ⟨a,h,ok,b,f⟩
 exact⟨a,h,ok,λe=>w _ (b e),λn e=>v _ (f n e)⟩
theorem OW:∀ds Q X,w9 c T ds Q X->zn 6 1 (Ep (cl (vW c)) (sI c T) (cl (Jf c)) (cl (Jh c))) ds Q X:=by
 rintro ds Q X ⟨b,h,ok,o,p⟩
 subst h;refine⟨rfl,m8 b,b,rfl,ok.lk,?_⟩;refine⟨A8 c b,b,rfl,⟨ok.mi,ok.tx⟩,λe=>?_,λn e=>⟨CP T _ n,p n e⟩⟩;have q:=o e;have aah:=ok.aah e;refine⟨A8 c b,b,rfl,ok.br,?_⟩;refine⟨_,rfl,rfl,?_⟩;refine iZ (Jx c) (λa z f M=>b=a++z/\M=[]/\∃g i,f=[ae _,ae _,ae _,ae _,g,i]) (λ_ _ _ _ _=>rfl) b [] _ _ ⟨rfl,rfl,am,am,rfl⟩ (λpre x xs f M j N r=>?_) (λpre f M j=>?_)
 .obtain⟨m,rfl,g,i,rfl⟩:=j;obtain⟨rs,e1,e2⟩:=aah x (by rw[m];simp);refine⟨rfl,rfl,?_,x.1,lf b,E4 b,rs,rfl,e1,e2,r _ _ ⟨by rw[bt];exact m,rfl,_,_,rfl⟩⟩;show(aj&&(nl _&&(nl _&&aj)))=aj;rw[Ae,w4];rfl
 .obtain⟨m,rfl,g,i,rfl⟩:=j;refine⟨au rfl,?_,q⟩;show(nl (xH c _)&&(nl (E2 _)&&aj))=aj;rw[Ae,w4];rfl
theorem QV(c:CA):∀b:Br,nV (kA b) (vA (F2 c) b)=b.map (Jx c)
 |[]=>rfl
 |p::b=>by have:=QV c b;unfold nV kA vA at*;rw[aX,aX,eM,this];rfl
def vY (c:CA)(T:aw):K2:=λds Q X=>∃a:List Pt,ds=[.lst (a.map oN)]/\Af a/\(Ba (gQ a)=am->Q (.lst ((lf a).map oN)))/\∀n,Ba (gQ a)=ae n->X (exT T (gQ a) n)
theorem F3:BI (vY c T):=by
 rintro ds P Q x y w v ⟨a,h,ok,b,f⟩
 exact⟨a,h,ok,λe=>w _ (b e),λn e=>v _ (f n e)⟩
theorem Tt:∀ds Q X,vY c T ds Q X->zn 3 1 (QJ (w9 c T) (jU c)) ds Q X:=by
 rintro ds Q X ⟨a,h,ok,f,g⟩
 subst h;refine⟨rfl,m8 a,a,rfl,ok,λe=>?_,λn e=>⟨CP T _ n,g n e⟩⟩;have q:=f e;refine⟨rfl,rfl,_,_,rfl,trivial,?_⟩;rw[QV];have i:(lf a).length<=1000:=by have:=ok.lk.pso.hi;have:=(iT a).length_eq;unfold lf;rw[ar];omega
 refine sF (Jx c) oN trivial _ [] (by show 0+_<=_;rw[bJ];exact qk i) (λp j y m=>?_) ?_
 .have o:p.2.length<=1000:=by obtain⟨x,s,u⟩:=aV.mp j;have v:=ok.br.len x ((iT a).mem_iff.mp s);rw[<-u];exact bi (cu _ _) v
  refine⟨rfl,rfl,_,rfl,rfl,?_⟩;refine sF _ Rw.d (by rfl) p.2 [] (by show 0+_<=_;rw[bJ];exact qk o) (λr z w b=>?_) ?_
  .exact⟨_,_,_,_,rfl,rfl,⟨r.kn,rfl,rfl⟩,by unfold lu;rw[r.nli];rfl,r,rfl,rfl,b _ rfl⟩
  .exact⟨au rfl,m _ rfl⟩
 .exact⟨nJ _,q⟩
end qz
namespace qz
open PySem PySem.Spec L2 L3 FJ
theorem km{β:Type} [DecidableEq β]:∀(l m:List β),l.Nodup->(∀x∈l,x∈m)->l.length<=m.length
 |[],_,_,_=>bC _
 |x::l,m,h,s=>by have a:=cL.mp h;have hm:=s x aH;have:=km l (m.erase x) a.2 λy b=>(List.mem_erase_of_ne λz=>a.1 (by rw[<-z];exact b)).mpr (s y (ay _ b));rw[List.length_erase_of_mem hm] at this;have:=List.length_pos_of_mem hm;rw[bc];omega
noncomputable def grow(nm:List aJ):Rw->Bool
 |.mark w _=>nm.contains w
 |.stop=>aj
 |.numbers ns=>(Rw.numbers ns).ok
 |_=>aq
structure GRs(nm:List aJ)(n:Nat)(rs:List Rw):Prop where
 all:∀r∈rs,grow nm r=aj
 end_:∃NZ,rs=NZ++[.stop]
 len:rs.length<=n
structure QX(nm:List aJ)(n:Nat)(ps:List Pt):Prop where
 lo:1<=ps.length
 hi:ps.length<=10
 w:∀p∈ps,xB p.1=aj
 nd:(ps.map aU).Nodup
 rows:∀p∈ps,GRs nm n p.2
theorem Jj(hn:∀w∈nm,xB w=aj)(h:grow nm r=aj):r.ok=aj/\r.SU=aq/\r.nms=[]:=by
 cases r<;>first|(cases h;done)|skip
 .exact⟨hn _ (eY.mp h),rfl,rfl⟩
 .exact⟨rfl,rfl,rfl⟩
 .exact⟨h,rfl,rfl⟩
theorem QY(hn:∀w∈nm,xB w=aj):∀rs:List Rw,(∀r∈rs,grow nm r=aj)->vV (rs++[.stop])=aj/\(nK (rs++[.stop])).isSome=aj
 |[],_=>⟨rfl,rfl⟩
 |r::rs,h=>by
  obtain⟨b,a⟩:=QY hn rs λr c=>h r (ay _ c);have e:=(Jj hn (h r aH)).2.1;refine⟨?_,?_⟩
  .show((!r.SU||CO _)&&(!r.jk||(nK (rs++[.stop])).isSome)&&vV (rs++[.stop]))=aj;rw[e,b,a];cases r.jk<;>rfl
  .show(if r.jk then nK _ else ae r).isSome=aj;split
   .exact a
   .rfl
theorem GRs.oth(g:GRs nm n rs):1<=z7 rs/\z7 rs<=n/\m6 rs<=n:=by
 obtain⟨a,rfl⟩:=g.end_;have b:=g.len;have c:m6 (a++[.stop])<=a.length:=by unfold m6;rw[eQ];have:([Rw.stop].filter Rw.jk)=[]:=rfl;rw[this,ba];exact cu _ _
 unfold z7;simp at b |-;omega
theorem OX{β:Type}(f:β->Int)(c:Int):∀l:List β,(∀x∈l,f x<=c)->(l.map f).sum<=c*l.length
 |[],_=>by simp
 |x::l,h=>by
  have:=OX f c l λy a=>h y (ay _ a);have b:=h x aH;rw[aX,List.sum_cons,bc]
  push_cast
  rw[Int.mul_add];omega
theorem E9{β a:Type}(f:β->List a)(c:Nat):∀l:List β,(∀x∈l,(f x).length<=c)->(l.flatMap f).length<=c*l.length
 |[],_=>by simp
 |x::l,h=>by have:=E9 f c l λy b=>h y (ay _ b);have e:=h x aH;rw[fS,bN,bc,Nat.mul_add];omega
theorem rn:∀(k:Nat) (rs:List Rw),(∀r∈rs,grow nm r=aj)->∀m∈iL n k rs,m.1∈nm
 |_,[],_,m,h=>by simp[iL] at h
 |k,r::rs,a,m,h=>by
  have c:=λk=>rn (n:=n) k rs (λr e=>a r (ay _ e)) m;have f:=a r aH;cases r with
  |mark w b=>
   rcases aC.mp h with rfl|h
   .exact eY.mp f
   .exact c k h
  |_=>exact c (k+1) h
theorem um(w:aJ):∀l:List (aJ×β),w∈l.map aU->∃v,h8 w l=ae v/\(w,v)∈l
 |[],h=>by simp at h
 | (x,v)::l,h=>by
  unfold h8;by_cases z:x=w
  .subst z;rw[if_pos rfl];exact⟨v,rfl,aH⟩
  .rw[if_neg z];rw[aX,aC] at h;obtain⟨u,a,b⟩:=um w l (h.resolve_left λe=>z e.symm);exact⟨u,a,ay _ b⟩
theorem W9(h:c.Perm a)(nd:(a.map aU).Nodup):mM c=mM a:=by
 have b:∀l:List Pt,(l.map aU).zip l=l.map λp=>(p.1,p):=λl=>by
  induction l with
  |nil=>rfl
  |cons x l e=>rw[aX,cI,e];rfl
 unfold mM ke;congr 1;refine L3.tK ((L3.jS _ _).trans ?_) (L3.pW _ _) (BE nd);rw[b,b];exact h.map _
inductive T4(S:List aJ):List Rw->List Rw->Prop
 |nil:T4 S [] []
 |cons {r rs NZ}:T4 S rs NZ->T4 S (r::rs) (r::NZ)
 |ins {w rs NZ}:w∈S->T4 S rs NZ->T4 S rs (.mark w aq::NZ)
theorem T4.refl(S:List aJ):∀rs:List Rw,T4 S rs rs
 |[]=>.nil
 |_::rs=>.cons (T4.refl S rs)
theorem T4.at{S:List aJ}{w:aJ}(hw:w∈S):∀(a b:List Rw),T4 S (a++b) (a++.mark w aq::b)
 |[],b=>.ins hw (T4.refl S b)
 |_::a,b=>.cons (T4.at hw a b)
inductive Xa(S:List aJ):List Mk->List Mk->Prop
 |nil:Xa S [] []
 |cons {m ms ms'}:Xa S ms ms'->Xa S (m::ms) (m::ms')
 |ins {m:Mk} {ms ms'}:m.1∈S->m.2.1=aq->Xa S ms ms'->Xa S ms (m::ms')
noncomputable def Jk(w:aJ)(ms:List Mk):Option Pl:=match(ms.filter λm=>m.2.1).filter (λm=>decide (m.1=w)) with
 |m::r=>ae ((m::r).getLast (by simp)).2.2
 |[]=>((ms.filter λm=>decide (m.1=w)).head?).map λm=>m.2.2
theorem Xb(w:aJ)(ms:List Mk)(m:Mk):Jk w (ms++[m])=if m.1=w then(if m.2.1=aj then ae m.2.2 else ae ((Jk w ms).getD m.2.2)) else Jk w ms:=by
 unfold Jk;rw[eQ,eQ,eQ];by_cases hw:m.1=w
 .rw[if_pos hw];by_cases b:m.2.1=aj
  .rw[if_pos b];have e:(([m].filter λm=>m.2.1).filter λm=>decide (m.1=w))=[m]:=by simp[b,hw]
   rw[e];cases q:((ms.filter λm=>m.2.1).filter λm=>decide (m.1=w)) with
   |nil=>rfl
   |cons a r=>
    show ae ((a::(r++[m])).getLast _).2.2=_;have:=by have:=List.getLast_concat (a:=m) (l:=a::r);simpa using this
    rw[this]
  .rw[if_neg b];have e:(([m].filter λm=>m.2.1).filter λm=>decide (m.1=w))=[]:=by simp[b]
   have e2:([m].filter λm=>decide (m.1=w))=[m]:=by simp[hw]
   rw[e,e2,ba];cases q:((ms.filter λm=>m.2.1).filter λm=>decide (m.1=w)) with
   |cons a r=>rfl
   |nil=>
    cases c:ms.filter λm=>decide (m.1=w) with
    |nil=>rfl
    |cons a r=>rfl
 .rw[if_neg hw];have e:(([m].filter λm=>m.2.1).filter λm=>decide (m.1=w))=[]:=by cases b:m.2.1<;>simp[b,hw]
  have e2:([m].filter λm=>decide (m.1=w))=[]:=by simp[hw]
  rw[e,e2,ba,ba]
theorem L4(k w:aJ)(v:β):∀l:List _,h8 w (l.map λx=>if x.1=k then(x.1,v) else x)=if w=k then(h8 w l).map (λ_=>v) else h8 w l
 |[]=>by simp[h8]
 | (x,u)::l=>by
  have a:=L4 k w v l;rw[aX];by_cases h:x=k
  .subst h;rw[if_pos rfl];unfold h8;by_cases z:x=w
   .subst z;rw[if_pos rfl,if_pos rfl,if_pos rfl];rfl
   .rw[if_neg z,if_neg z,a]
  .rw[if_neg h];unfold h8;by_cases z:x=w
   .subst z;rw[if_pos rfl,if_pos rfl,if_neg h]
   .rw[if_neg z,if_neg z,a]
theorem Fa(w k:aJ)(v:β):∀l:List _,h8 w (l++[(k,v)])=(h8 w l).or (if k=w then ae v else am)
 |[]=>by simp[h8]
 | (x,u)::l=>by
  rw[List.cons_append];unfold h8;by_cases z:x=w
  .rw[if_pos z,if_pos z];rfl
  .rw[if_neg z,if_neg z,Fa w k v l]
theorem Fb(w k:aJ)(v:β)(l:List _):h8 w (Ad k v l)=if w=k then ae v else h8 w l:=by
 unfold Ad;split
 .rename_i h;rw[L4];split
  .rename_i e;subst e;cases q:h8 w l with
   |none=>rw[q] at h;cases h
   |some u=>rfl
  .rfl
 .rename_i h;rw[Fa];by_cases e:w=k
  .subst e;cases q:h8 w l with
   |none=>rfl
   |some u=>rw[q] at h;exact absurd rfl h
  .rw[if_neg e,if_neg λz=>e z.symm];cases h8 w l<;>rfl
theorem L5:∀(ms pre:List Mk) (l:List _),(∀w,h8 w l=Jk w pre)->∀w,h8 w (ms.foldl m9 l)=Jk w (pre++ms)
 |[],pre,l,h,w=>by rw[ba];exact h w
 |m::ms,pre,l,h,w=>by
  have:=L5 ms (pre++[m]) (m9 l m) (λw=>?_) w
  .rw[bt] at this;exact this
  .rw[Xb];unfold m9;rw[h m.1];by_cases e:m.1=w
   .subst e;rw[if_pos rfl];by_cases a:m.2.1=aj
    .rw[if_pos a,a,Bool.true_or,if_pos rfl,Fb,if_pos rfl]
    .have b:=by simpa using a
     rw[b];cases q:Jk m.1 pre with
     |none=>rw[if_pos (by rfl),Fb,if_pos rfl];rfl
     |some p=>rw[if_neg (by simp),h m.1,q];rfl
   .split
    .rw[Fb,if_neg λz=>e z.symm];exact h w
    .exact h w
theorem uo(ms:List Mk)(w:aJ):h8 w (placesOf ms)=Jk w ms:=by have:=L5 ms [] [] (λw=>rfl) w;exact this
theorem jX:∀{l:List (aJ×β)},(h8 w l).isSome=aj↔w∈l.map aU
 |[]=>by simp[h8]
 | (x,u)::l=>by
  unfold h8;by_cases z:x=w
  .simp[z]
  .rw[if_neg z,jX,aX,aC];exact⟨.inr,λh=>h.resolve_left λe=>z e.symm⟩
theorem adz(k:aJ)(v:β)(l:List _)(h:(l.map aU).Nodup):((Ad k v l).map aU).Nodup:=by
 unfold Ad;split
 .rw[bB];have:(l.map (aU∘λx=>if x.1=k then(x.1,v) else x))=l.map aU:=cV λx _=>by show(if x.1=k then(x.1,v) else x).1=x.1;split<;>rfl
  rw[this];exact h
 .rename_i e;rw[bh];refine dg.mpr ⟨h,by simp,λa ha b c z=>?_⟩;have c:b=k:=by simpa using c
  rw[z,c] at ha;exact e (jX.mpr ha)
theorem xa(ms:List Mk):((placesOf ms).map aU).Nodup:=by
 have g:∀(ms:List Mk) (l:List _),(l.map aU).Nodup->((ms.foldl m9 l).map aU).Nodup:=λms=>by
  induction ms with
  |nil=>intro l h;exact h
  |cons m ms a=>
   intro l h;refine a _ ?_;unfold m9;split
   .exact adz _ _ _ h
   .exact h
 exact g ms [] (by simp)
theorem Jl(h:∀w,Jk w a=Jk w b):(placesOf a).length=(placesOf b).length/\∀w p,(w,p)∈placesOf a->h8 w (placesOf b)=ae p:=by
 have c:∀w,h8 w (placesOf a)=h8 w (placesOf b):=λw=>by rw[uo,uo,h]
 refine⟨Nat.le_antisymm ?_ ?_,λw p f=>?_⟩
 .have:=km _ _ (xa a) λw hw=>(jX).mp (by rw[<-c];exact jX.mpr hw);simpa using this
 .have:=km _ _ (xa b) λw hw=>(jX).mp (by rw[c];exact jX.mpr hw);simpa using this
 .rw[<-c];have nd:=xa a;generalize placesOf a=l at nd f;induction l with
  |nil=>cases f
  |cons x l g=>
   rw[aX,cL] at nd;unfold h8;rcases aC.mp f with e|e
   .cases e;rw[if_pos rfl]
   .rw[if_neg λz=>nd.1 (by rw[z];exact aV.mpr ⟨_,e,rfl⟩)];exact g nd.2 e
open PyProof.Rows.KTD
theorem afJ{Q:DK}(h:a<b)(q:Q (.bl aj) M):gLt (.int a) (.int b) M Q:=by show Q _ M;rw[decide_eq_true h];exact q
theorem afK{Q:DK}(h:¬a<b)(q:Q (.bl aq) M):gLt (.int a) (.int b) M Q:=by show Q _ M;rw[decide_eq_false h];exact q
theorem afL{Q:DK}(q:Q (.bl (decide (a=b))) M):Ca (.int a) (.int b) M Q:=by exact q
def Jm:GP:=λds Q=>∃(ns:List Int) (k:Nat),ds=[.qH ns,.int k]/\∀i:Int,Q (.int i)
theorem L6:iM Jm:=by intro ds P Q w a;obtain⟨ns,k,h,q⟩:=a;exact⟨ns,k,h,λi=>w _ (q i)⟩
theorem aaj:∀ds Q,Jm ds Q->kq 2 2 xG ds Q:=by
 intro ds Q a;obtain⟨ns,k,h,q⟩:=a;subst h;have ty:=@afJ;have b:=@afK;refine⟨rfl,?_⟩;refine⟨ns.length,rfl,?_⟩;by_cases h:(k:Int)<ns.length
 .refine ty h ?_;exact⟨_,AS (ax (by omega)),rfl,q _⟩
 .refine b h ?_;exact⟨rfl,q _⟩
def below(ns sz:List Int):Prop:=ns.length=sz.length/\∀(i:Nat) (a z:Int),ns[i]?=ae a->sz[i]?=ae z->0<=a/\a<z
def Ag:GP:=λds Q=>∃(c:Int) (sz:List Int),ds=[.int c,.lst (sz.map .int)]/\sz.length<=800/\(∀z∈sz,0<z/\z<1000)/\∀ns,below ns sz->Q (.lst (ns.map .int))
theorem Jn:iM Ag:=by intro ds P Q w e;obtain⟨c,sz,h,l,a,q⟩:=e;exact⟨c,sz,h,l,a,λi b=>w _ (q i b)⟩
theorem OY{ns sz:List Int}(c:ns.length=j)(e:sz[j]?=ae z)(h:∀(i:Nat) (a z:Int),ns[i]?=ae a->sz[i]?=ae z->0<=a/\a<z)(f:0<=a)(g:a<z):
  ∀(i:Nat) (b y:Int),(ns++[a])[i]?=ae b->sz[i]?=ae y->0<=b/\b<y:=λi b y e1 e2=>by
 by_cases hi:i<ns.length
 .rw[aR hi] at e1;exact h i b y e1 e2
 .rw[df (by omega)] at e1;have m:i=j:=by have:=(ap.mp e1).1;simp at this;omega
  subst m;rw[c,Nat.sub_self] at e1;rw[e] at e2;cases e1;cases e2;exact⟨f,g⟩
theorem Xc:∀ds Q,Ag ds Q->kq 6 2 (vP (cl wM)) ds Q:=by
 intro ds Q I;obtain⟨c,sz,h,hl,J,q⟩:=I;subst h;have eq:=@afL;unfold vP;generalize Ca=ge at eq |-;refine⟨rfl,bC _,⟨by decide,by decide⟩,_,rfl,rfl,?_⟩;refine pV (λj p M=>∃(ns:List Int) (r:Int) (s u:Option D),ns.length=j/\(∀(i:Nat) (a z:Int),ns[i]?=ae a->sz[i]?=ae z->0<=a/\a<z)/\M=[ae (.lst (ns.map .int))]/\p=[ae (.int c),ae (.lst (sz.map .int)),ae (.loc 0),ae (.int r),s,u])
  (λ_ _ _ _=>rfl) _ 0 _ _ ⟨[],_,am,am,rfl,λi a z e=>by simp at e,rfl,rfl⟩ (λj x p M L v N C=>?_) (λp M v=>?_)
 .obtain⟨ns,r,s,u,f,w,rfl,rfl⟩:=v;obtain⟨y,O,rfl⟩:=vU L;obtain⟨z,b,rfl⟩:=nS O;rw[bJ] at f C;have g:=J z (bF b);have T:j<sz.length:=(ap.mp b).1;have E:(ns.map D.int).length<aE:=by rw[ar];exact bY (show ns.length<=1000 by omega) (by decide)
  refine⟨rfl,rfl,?_⟩;have next:∀(a A:Int) (o:Option D),0<=a->a<z->N [ae (.int c),ae (.lst (sz.map .int)),ae (.loc 0),ae (.int A),ae (.int j),ae (.int z)] [ae (.lst (ns.map .int++[.int a]))]:=λa A o U Y=>
   C _ _ ⟨ns++[a],A,_,_,by simp[f],OY f b w U Y,by simp,rfl⟩
  have other:(mP (Mu "list" ka (gK 2) (gH (iq (gI (λ_ j=>0<j) λi j=>.int (i%j)) (iq j9 (iS (cl wM) (gH (iq (gI As λi j=>.int (i/j)) (gK 0) (dC (.int 2))) (gH (gK 4) gR))) (iq (gI Yg λi j=>.int (i^j.toNat)) (iS (cl wM) (gH (iq (gI As λi j=>.int (i/j)) (gK 0) (dC (.int 2))) (gH (iq j9 (gK 4) (dC (.int 97))) gR))) (dC (.int 7)))) (gK 5)) gR)))
    ⟨N,λd G=>nl (fz G d)=aj/\Q (fz G d),λ_ _=>False,λ_ _=>False⟩ [ae (.int c),ae (.lst (sz.map .int)),ae (.loc 0),ae (.int r),ae (.int j),ae (.int z)] [ae (.lst (ns.map .int))]:=by refine⟨rfl,⟨by decide,by decide⟩,rfl,c/2,j,rfl,by omega,by omega,λn n1 n2=>?_⟩;refine⟨⟨by decide,by decide⟩,rfl,c/2,j+97,rfl,by omega,by omega,λm m1 m2=>?_⟩;refine⟨⟨by decide,by decide,by omega⟩,g.1,_,rfl,E,next _ _ am (Int.emod_nonneg _ (by omega)) (Int.emod_lt_of_pos _ g.1)⟩
  refine⟨(by decide:(0:Int)<2),?_⟩;refine eq ?_;by_cases H:c%2=0
  .rw[decide_eq_true H];refine⟨au rfl,((0:Int)==r||((-1:Int)==r||false)),rfl,?_⟩;by_cases B:0=r\/-1=r
   .have e:((0:Int)==r||((-1:Int)==r||false))=aj:=by rcases B with h|h<;>simp[<-h]
    rw[e];exact other
   .have e:((0:Int)==r||((-1:Int)==r||false))=aq:=by simp;exact⟨λh=>B (.inl h),λh=>B (.inr h)⟩
    rw[e];refine⟨rfl,g.1,_,rfl,E,⟨g.1,by omega⟩,next _ _ am (Int.emod_nonneg _ (by omega)) (Int.emod_lt_of_pos _ g.1)⟩
  .rw[decide_eq_false H];exact other
 .obtain⟨ns,r,s,u,f,w,rfl,rfl⟩:=v;refine⟨Ej,q ns ⟨?_,w⟩⟩;rw[f,bJ,fJ,ar]
theorem adA(h:(Dv 0 n)[j]?=ae x):x=.int j/\j<n:=by obtain⟨i,b,c⟩:=nS h;have:=ap.mp b;obtain⟨e,a⟩:=this;simp at e a;subst c;refine⟨?_,by omega⟩;simp[<-a]
theorem three(h:below ns ([16]++(bL 16 [5,m,2]).flatten)):∀k:Nat,k<16->∃a b c,(ns.drop (1+3*k)).take 3=[a,b,c]/\(0<=a/\a<5)/\(0<=b/\b<m)/\(0<=c/\c<2):=by
 obtain⟨q,j⟩:=h;have r:ns.length=49:=by rw[q];rfl
 intro k f;have g:∀i,i<49->∃a,ns[i]?=ae a:=λi hi=>⟨_,ax (by omega)⟩;obtain⟨a,ha⟩:=g (1+3*k) (by omega);obtain⟨b,o⟩:=g (1+3*k+1) (by omega);obtain⟨c,p⟩:=g (1+3*k+2) (by omega);have e:∀i x,ns[i]?=ae x->ns.drop i=x::ns.drop (i+1):=λi x s=>by obtain⟨u,v⟩:=ap.mp s;rw[dP u,v]
 refine⟨a,b,c,by rw[e _ _ ha,e _ _ o,e _ _ p];rfl,?_,?_,?_⟩
 .refine j _ a 5 ha ?_;have:∀k,k<16->([16]++(bL 16 [5,m,2]).flatten)[1+3*k]?=ae 5:=λk f=>by
   match k,f with
   |0,_|1,_|2,_|3,_|4,_|5,_|6,_|7,_|8,_|9,_|10,_|11,_|12,_|13,_|14,_|15,_=>rfl
   |n+16,h=>exact absurd h (by omega)
  exact this k f
 .refine j _ b m o ?_;have:∀k,k<16->([16]++(bL 16 [5,m,2]).flatten)[1+3*k+1]?=ae m:=λk f=>by
   match k,f with
   |0,_|1,_|2,_|3,_|4,_|5,_|6,_|7,_|8,_|9,_|10,_|11,_|12,_|13,_|14,_|15,_=>rfl
   |n+16,h=>exact absurd h (by omega)
  exact this k f
 .refine j _ c 2 p ?_;have:∀k,k<16->([16]++(bL 16 [5,m,2]).flatten)[1+3*k+2]?=ae 2:=λk f=>by
   match k,f with
   |0,_|1,_|2,_|3,_|4,_|5,_|6,_|7,_|8,_|9,_|10,_|11,_|12,_|13,_|14,_|15,_=>rfl
   |n+16,h=>exact absurd h (by omega)
  exact this k f
structure Nm(nm:List aJ):Prop where
 lo:1<=nm.length
 hi:nm.length<=10
 w:∀w∈nm,xB w=aj
def Ah:GP:=λds Q=>∃(c:Int) (nm:List aJ),ds=[.int c,.lst (nm.map .str),.int 16]/\Nm nm/\∀rs,GRs nm 17 rs->Q (.lst (rs.map Rw.d))
theorem F4:iM Ah:=by intro ds P Q w a;obtain⟨c,nm,h,l,q⟩:=a;exact⟨c,nm,h,l,λrs g=>w _ (q rs g)⟩
theorem Tu:∀ds Q,Ah ds Q->kq 9 3 (uf (cl Ag)) ds Q:=by
 intro ds Q J;obtain⟨c,nm,h,hn,q⟩:=J;subst h;unfold uf;have H:((nm.map D.str).length:Int)=nm.length:=by rw[ar]
 refine⟨rfl,au rfl,(nm.map D.str).length,rfl,?_⟩;refine⟨au rfl,?_⟩;refine⟨⟨by decide,by decide,au rfl⟩,?_⟩;refine⟨au rfl,?_⟩;refine⟨rfl,c,[16]++(bL 16 [5,((nm.map D.str).length:Int),2]).flatten,rfl,au rfl,?_,λns u=>?_⟩
 .rw[H];intro z L;have:z=16\/z=5\/z=nm.length\/z=2:=by simp[bL] at L;omega
  have:=hn.lo;have:=hn.hi;omega
 .rw[H] at u;obtain⟨p,g⟩:∃p,ns[0]?=ae p:=⟨_,ax (by rw[u.1];exact au rfl)⟩;have O:=u.2 0 p 16 g rfl;have A:Fx (ns.map D.int) 0=ae (.int p):=AS (k:=0) (by rw[bq,g];rfl);refine⟨bC _,_,A,?_⟩;refine⟨⟨by omega,by omega⟩,trivial,?_⟩;refine pV (λj B M=>∃(rs:List Rw) (C i n o:Option D),rs.length=j/\(∀r∈rs,grow nm r=aj)/\M=[ae (.lst (rs.map Rw.d))]/\B=[ae (.int c),ae (.lst (nm.map D.str)),ae (.int 16),ae (.lst (ns.map D.int)),ae (.loc 0),C,i,n,o])
   (λ_ _ _ _=>trivial) _ 0 _ _ ⟨[],am,am,am,am,rfl,λr h=>(by cases h),rfl,rfl⟩ (λj x B M v g N I=>?_) (λB M g=>?_)
  .obtain⟨rs,C,i,n,o,y,E,rfl,rfl⟩:=g;obtain⟨rfl,T⟩:=adA v;rw[bJ] at y I;obtain⟨a,b,d,e3,ha,Y,hd⟩:=three u j (by omega);have f:(rs.map Rw.d).length<aE:=by rw[ar];exact bY (show rs.length<=1000 by omega) (by decide)
   have G:cutD (ns.map D.int) (ae (1+3*(j:Int))) (ae (4+3*(j:Int)))=[.int a,.int b,.int d]:=by have:=Z1 (xs:=ns.map D.int) (k:=1+3*j) (m:=4+3*j) (by rw[ar,u.1];show 4+3*j<=49;omega) (by omega);rw[show((1+3*j:Nat):Int)=1+3*(j:Int) by push_cast;rfl,show((4+3*j:Nat):Int)=4+3*(j:Int) by push_cast;rfl,show 4+3*j- (1+3*j)=3 by omega,<-List.map_drop,<-List.map_take,e3] at this;exact this
   obtain⟨w,hw⟩:∃w,nm[b.toNat]?=ae w:=⟨_,ax (by omega)⟩;have s:Fx (nm.map D.str) b=ae (.str w):=by
    have:=AS (xs:=nm.map D.str) (k:=b.toNat) (x:=.str w) (by rw[bq,hw];rfl)
    rwa [show((b.toNat:Nat):Int)=b by omega] at this
   have e:nm.contains w=aj:=eY.mpr (bF hw);have next:∀(r:Rw) (i n o:Option D),grow nm r=aj->N [ae (.int c),ae (.lst (nm.map D.str)),ae (.int 16),ae (.lst (ns.map D.int)),ae (.loc 0),ae (.int j),i,n,o] [ae (.lst (rs.map Rw.d++[r.d]))]:=λr i n o U=>
    I _ _ ⟨rs++[r],_,_,_,_,by simp[y],λx v=>by
     rcases bd.mp v with h|h
     .exact E x h
     .rw[bf.mp h];exact U,by simp,rfl⟩
   refine⟨.inl ⟨by decide,by decide⟩,.inl ⟨by decide,by decide⟩,?_⟩;show KI _ _ (D.lst (cutD (ns.map D.int) (ae (1+3*(j:Int))) (ae (4+3*(j:Int))))) _ _ _;rw[G];refine⟨rfl,?_⟩;obtain rfl|rfl|rfl|rfl|rfl:a=0\/a=1\/a=2\/a=3\/a=4:=by omega
   .obtain rfl|rfl:d=0\/d=1:=by omega
    .exact⟨rfl,rfl,_,s,au rfl,_,rfl,f,next (.mark w aq) _ _ _ e⟩
    .exact⟨rfl,rfl,_,s,au rfl,_,rfl,f,next (.mark w aj) _ _ _ e⟩
   .obtain rfl|rfl:d=0\/d=1:=by omega
    .exact⟨rfl,rfl,_,s,au rfl,_,rfl,f,next (.mark w aq) _ _ _ e⟩
    .exact⟨rfl,rfl,_,s,au rfl,_,rfl,f,next (.mark w aq) _ _ _ e⟩
   .obtain rfl|rfl:d=0\/d=1:=by omega
    .exact⟨rfl,rfl,_,s,au rfl,_,rfl,f,next (.mark w aq) _ _ _ e⟩
    .exact⟨rfl,rfl,_,s,au rfl,_,rfl,f,next (.mark w aq) _ _ _ e⟩
   .exact⟨rfl,rfl,au rfl,au rfl,au rfl,au rfl,_,rfl,_,rfl,f,next .stop _ _ _ rfl⟩
   .refine⟨rfl,rfl,au rfl,au rfl,au rfl,au rfl,_,rfl,_,rfl,f,next (.numbers [j,4]) _ _ _ ?_⟩;show(decide (1<=2)&&decide (2<=60)&&((decide (-2147483648<=(j:Int))&&decide ((j:Int)<=2147483647))&&aj))=aj;rw[decide_eq_true (show-2147483648<=(j:Int) by omega),decide_eq_true (show(j:Int)<=2147483647 by omega)];rfl
  .obtain⟨rs,C,i,n,o,y,E,rfl,rfl⟩:=g;have iN:rs.length<=16:=by rw[y,bJ];unfold Dv;rw[ar,fR];omega
   have:=q (rs++[.stop]) ⟨λx v=>by
     rcases bd.mp v with h|h
     .exact E x h
     .rw[bf.mp h];rfl,⟨rs,rfl⟩,by simp;omega⟩
   rw[bh] at this;refine⟨au rfl,au rfl,by show(rs.map Rw.d).length+1<=aE;rw[ar];exact bi (show rs.length+1<=1000 by omega) (by decide),?_,this⟩;show lu (rs.map Rw.d++[Rw.stop.d])=aj;have:=z9 (rs++[.stop])
   rwa [bh] at this
noncomputable def wc(a b k:Int):Nat:=(Fx ("abcdefghijkl":aJ).cps.toList ((a+(1+b%2*4)*k)%12)).getD 0
noncomputable def wd(a b k:Int):aJ:=Txt.mul ⟨#[wc a b k]⟩ (1+k%3)
theorem adB:∀a,a<12->∀b,b<12->∀k,k<10->(Fx ("abcdefghijkl":aJ).cps.toList (((a:Nat)+(1+((b:Nat):Int)%2*4)*((k:Nat):Int))%12)).isSome=aj/\xB (wd (a:Nat) (b:Nat) (k:Nat))=aj/\dA (wd (a:Nat) (b:Nat) (k:Nat))=aj:=by decide+kernel
theorem afM:∀a,a<12->∀b,b<12->∀n,n<11->((cQ n).map λ(k:Nat)=>wd (a:Nat) (b:Nat) (k:Int)).Nodup:=by decide+kernel
theorem aak:HT.qA (n+1) d (ae 1)=1:=by unfold HT.qA;simp
theorem L7{h:β}:cutD (h::t) (ae 1) am=t:=by unfold cutD;rw[bc,aak,HT.C6];simp
theorem adC(c:Nat)(n:Int)(h:n=1\/n=2\/n=3):MulOk ⟨#[c]⟩ n:=by
 rcases h with rfl|rfl|rfl
 .exact⟨rfl,λ_ h=>(by cases h),λ_ h=>(by cases h)⟩
 .exact⟨rfl,λ_ _=>(by decide:¬((1:Int)>(2^63- 1)/2)),λ_ _=>rfl⟩
 .exact⟨rfl,λ_ _=>(by decide:¬((1:Int)>(2^63- 1)/3)),λ_ _=>rfl⟩
def Ai:GP:=λds Q=>∃(c:Int) (cs:List Int) (nm:List aJ),ds=[.lst ((c::cs).map .int),.lst (nm.map .str),.int 16]/\1<=cs.length/\cs.length<=10/\Nm nm/\∀a,QX nm 17 a->Q (.lst (a.map oN))
theorem F5:iM Ai:=by intro ds P Q w a;obtain⟨c,cs,nm,h,l,b,e,q⟩:=a;exact⟨c,cs,nm,h,l,b,e,λrs g=>w _ (q rs g)⟩
theorem ahb(c:lu a=aj)(e:lu b=aj):lu [.lst a,.lst b,.int i]=aj:=by show(lu a&&(lu b&&(aj&&aj)))=aj;rw[c,e];rfl
theorem afN{nm:List aJ}:lu [.int c,.lst (nm.map .str),.int 16]=aj:=by show(aj&&(lu _&&(aj&&aj)))=aj;rw[FJ.Ek];rfl
theorem Tw:∀ds Q,Ai ds Q->kq 8 3 (mC (cl Ag) (cl Ah)) ds Q:=by
 intro ds Q O;obtain⟨c,cs,nm,h,l1,l2,hn,q⟩:=O;subst h;unfold mC;refine⟨rfl,_,AS (k:=0) rfl,au rfl,rfl,c,[12,12],rfl,au rfl,?_,λns s=>?_⟩
 .intro z o;have:z=12:=by simp at o;exact o
  omega
 obtain⟨a,b,rfl⟩:∃a b,ns=[a,b]:=by
  have:=s.1;match ns,this with
  |[a,b],_=>exact⟨a,b,rfl⟩
 have ha:=s.2 0 a 12 rfl rfl;have DR:=s.2 1 b 12 rfl rfl;have E:((a.toNat:Nat):Int)=a:=by omega
 have G:((b.toNat:Nat):Int)=b:=by omega
 have W:=adB a.toNat (by omega) b.toNat (by omega);rw[E,G] at W;have H:=afM a.toNat (by omega) b.toNat (by omega);rw[E,G] at H;refine⟨bC _,_,rfl,rfl,?_⟩;refine pV (λj v M=>∃(g:List Pt) (w A B:Option D),(g.map aU=(cQ j).map λ(k:Nat)=>wd a b (k:Int))/\(∀p∈g,GRs nm 17 p.2)/\M=[ae (.lst (g.map oN))]/\v=[ae (.lst ((c::cs).map D.int)),ae (.lst (nm.map D.str)),ae (.int 16),ae (.lst [.int a,.int b]),ae (.loc 0),w,A,B])
   (λ_ _ _ _=>rfl) _ 0 _ _ ⟨[],am,am,am,rfl,λr h=>(by cases h),rfl,rfl⟩ (λj x v M T n N I=>?_) (λv M n=>?_)
 .obtain⟨g,w,A,B,m,C,rfl,rfl⟩:=n;obtain⟨y,J,rfl⟩:=vU T;rw[aX,L7] at J;obtain⟨z,o,rfl⟩:=nS J;have U:j<cs.length:=(ap.mp o).1;rw[bJ] at m I;have Y:g.length=j:=by have:=congrArg ahG m;simpa using this
  have hs:(g.map oN).length<aE:=by rw[ar];exact bY (show g.length<=1000 by omega) (by decide)
  obtain⟨w1,w2,_⟩:=W j (by omega);obtain⟨u,L⟩:=ahD.mp w1;have hm:(1+(j:Int)%3)=1\/(1+(j:Int)%3)=2\/(1+(j:Int)%3)=3:=by omega
  have ew:Txt.mul ⟨#[u]⟩ (1+(j:Int)%3)=wd a b j:=by unfold wd wc;rw[L];rfl
  refine⟨rfl,rfl,_,rfl,_,rfl,(by decide:(0:Int)<2),.inr ⟨by decide,by decide⟩,.inr ⟨by omega,by omega⟩,(by decide:(0:Int)<12),au rfl,u,L,?_⟩;refine⟨rfl,(by decide:(0:Int)<3),adC _ _ hm,afN,z,nm,rfl,hn,λrs hr=>?_⟩;refine⟨au rfl,_,rfl,hs,?_⟩;rw[ew];refine I _ _ ⟨g++[(wd a b j,rs)],_,_,_,?_,?_,by rw[bh];rfl,rfl⟩
  .rw[bh,m,List.range_succ,bh];rfl
  .intro p n;rcases bd.mp n with h|h
   .exact C p h
   .rw[bf.mp h];exact hr
 .obtain⟨g,w,A,B,m,C,rfl,rfl⟩:=n;have e:0+(List.mapIdx (λ(i:Nat) d=>D.tup [.int i,d]) (cutD ((c::cs).map D.int) (ae 1) am)).length=cs.length:=by rw[aX,L7];simp
  have m:g.map aU=(cQ cs.length).map λ(k:Nat)=>wd a b (k:Int):=by rw[<-e];exact m
  have Y:g.length=cs.length:=by have:=congrArg ahG m;simpa using this
  refine⟨nJ g,q g ⟨by omega,by omega,λp n=>?_,by rw[m];exact H _ (by omega),C⟩⟩;have:=List.mem_map_of_mem (f:=aU) n;rw[m] at this;obtain⟨k,h1,h2⟩:=aV.mp this;rw[<-h2];exact(W k (by have:=ej.mp h1;omega)).2.1
noncomputable def L8(m:Mk):D:=.tup [.bl m.2.1,.str m.2.2.1,.int m.2.2.2]
noncomputable def uQ(w:aJ)(ms:List Mk):List Mk:=ms.filter λm=>decide (m.1=w)
theorem Aj(w:aJ)(ms:List Mk)(m:Mk):uQ w (ms++[m])=if m.1=w then uQ w ms++[m] else uQ w ms:=by
 unfold uQ;by_cases h:m.1=w
 .simp[h]
 .simp[h]
structure Gr(G:List (aJ×Nat))(pre:List Mk)(M:Ms):Prop where
 d:M[0]?=ae (ae (.jf (kA G) (vA D.loc G)))
 l:∀w i,(w,i)∈G->1<=i/\M[i]?=ae (ae (.lst ((uQ w pre).map L8)))
 nk:(G.map aU).Nodup
 ni:(G.map aio).Nodup
 cov:∀m∈pre,m.1∈G.map aU
 inn:∀w∈G.map aU,∃m∈pre,m.1=w
theorem Gr.nil:Gr [] [] [ae (.jf [] [])]:=⟨rfl,λ_ _ h=>(by cases h),dh,dh,λ_ h=>(by cases h),λ_ h=>(by cases h)⟩
theorem Bb{β e:Type}{x:β}{a b:e}:∀{l:List _},(l.map aU).Nodup->(x,a)∈l->(x,b)∈l->a=b
 | (y,c)::l,nd,f,g=>by
  rw[aX,cL] at nd;rcases aC.mp f with e1|e1<;>rcases aC.mp g with e2|e2
  .cases e1;cases e2;rfl
  .cases e1;exact absurd (aV.mpr ⟨_,e2,rfl⟩) nd.1
  .cases e2;exact absurd (aV.mpr ⟨_,e1,rfl⟩) nd.1
  .exact Bb nd.2 e1 e2
theorem Hl{β b:Type}{x y:β}{a:b}:∀{l:List _},(l.map aio).Nodup->(x,a)∈l->(y,a)∈l->x=y
 | (z,c)::l,nd,e,f=>by
  rw[aX,cL] at nd;rcases aC.mp e with e1|e1<;>rcases aC.mp f with e2|e2
  .cases e1;cases e2;rfl
  .cases e1;exact absurd (aV.mpr ⟨_,e2,rfl⟩) nd.1
  .cases e2;exact absurd (aV.mpr ⟨_,e1,rfl⟩) nd.1
  .exact Hl nd.2 e1 e2
theorem Gr.found(g:Gr G pre M)(h:(m.1,i)∈G)(x:Option OD):Gr G (pre++[m]) ((M++[x]).set i (ae (.lst ((uQ m.1 pre).map L8++[L8 m])))):=by
 obtain⟨p,hi⟩:=g.l _ _ h;have lt:∀{j:Nat} {y:Option OD},M[j]?=ae y->(M++[x])[j]?=ae y:=λ{j y} e=>by rw[aR (ap.mp e).1];exact e
 have ne:∀{j:Nat} {y:Option OD},j≠i->M[j]?=ae y->((M++[x]).set i (ae (.lst ((uQ m.1 pre).map L8++[L8 m]))))[j]?=ae y:=λ{j y} a e=>by rw[bx (bV a)];exact lt e
 refine⟨ne (by omega) g.d,λw j a=>?_,g.nk,g.ni,λy b=>?_,λw hw=>?_⟩
 .obtain⟨c,f⟩:=g.l w j a;refine⟨c,?_⟩;by_cases e:m.1=w
  .subst e;have:=Bb g.nk h a;subst this;rw[Aj,if_pos rfl,bG (by have:=(ap.mp hi).1;simp;omega),bh];rfl
  .rw[Aj,if_neg e];refine ne (λz=>e ?_) f;subst z;exact Hl g.ni h a
 .rcases bd.mp b with b|b
  .exact g.cov y b
  .rw[bf.mp b];exact aV.mpr ⟨_,h,rfl⟩
 .obtain⟨y,n,o⟩:=g.inn w hw;exact⟨y,bS _ n,o⟩
theorem Gr.new(g:Gr G pre M)(h:m.1∉G.map aU):
  Gr (G++[(m.1,M.length)]) (pre++[m]) (((M++[ae (OD.lst [])]).set 0 (ae (OD.jf (kA G++[c8 m.1]) (vA D.loc G++[D.loc M.length])))).set M.length (ae (OD.lst ([]++[L8 m])))):=by
 have p:=(ap.mp g.d).1;have ne:∀{j:Nat} {y:Option OD},j≠0->M[j]?=ae y->(((M++[ae (OD.lst [])]).set 0 (ae (OD.jf (kA G++[c8 m.1]) (vA D.loc G++[D.loc M.length])))).set M.length (ae (OD.lst ([]++[L8 m]))))[j]?=ae y:=λ{j y} c e=>by have:=(ap.mp e).1;rw[bx (by omega),bx (bV c),aR this];exact e
 have q:uQ m.1 pre=[]:=by unfold uQ;rw[eR];intro y f z;exact h (by rw[<-of_decide_eq_true z];exact g.cov y f)
 refine⟨?_,λw j c=>?_,?_,?_,λy f=>?_,λw hw=>?_⟩
 .rw[bx (by omega),bG (by simp)];unfold kA vA;rw[bh,bh];rfl
 .rcases bd.mp c with c|c
  .obtain⟨r,s⟩:=g.l w j c;refine⟨r,?_⟩;rw[Aj,if_neg λz=>h (aV.mpr ⟨_,c,z.symm⟩)];exact ne (by omega) s
  .cases bf.mp c;refine⟨p,?_⟩;rw[Aj,if_pos rfl,q,bG (by simp)];rfl
 .rw[bh];exact dg.mpr ⟨g.nk,by simp,λa ha b i z=>by
   have i:=by simpa using i
   rw[z,i] at ha;exact h ha⟩
 .rw[bh];refine dg.mpr ⟨g.ni,by simp,λa ha b i z=>?_⟩;have i:=by simpa using i
  obtain⟨⟨w,j⟩,n,o⟩:=aV.mp ha;have:=(ap.mp (g.l w j n).2).1;omega
 .rw[bh];rcases bd.mp f with f|f
  .exact bS _ (g.cov y f)
  .rw[bf.mp f];simp
 .rw[bh] at hw;rcases bd.mp hw with hw|hw
  .obtain⟨y,n,o⟩:=g.inn w hw;exact⟨y,bS _ n,o⟩
  .have hw:=by simpa using hw
   exact⟨m,by simp,hw.symm⟩
theorem Gr.len(g:Gr G pre M):G.length<=pre.length:=by
 have:=km _ _ g.nk λw hw=>by obtain⟨m,a,b⟩:=g.inn w hw;exact aV.mpr ⟨m,a,b⟩
 simpa using this
noncomputable def gD(S:List aJ)(ms:List Mk):D:=.jf (S.map .inr) (S.map λw=>.lst ((uQ w ms).map L8))
theorem abv(S:List aJ)(ms:List Mk):nl (gD S ms)=aj:=jL (f:=λw=>D.lst _) (λw=>jL (λ_=>rfl) (uQ w ms)) S
theorem Gr.fz(g:Gr G pre M):fz2 M (.loc 0)=gD (G.map aU) pre:=by
 unfold fz2;have e:vw M (.loc 0)=.jf (kA G) (vA D.loc G):=by show M7 0 M[0]?=_;rw[g.d];rfl
 rw[e];show D.jf (kA G) _=_;unfold gD kA vA;rw[bB,bB,bB];congr 1;refine cV λx a=>?_;show M7 x.2 M[x.2]?=_;rw[(g.l x.1 x.2 a).2];rfl
structure X8(S:List aJ)(ms:List Mk):Prop where
 nd:S.Nodup
 cov:∀m∈ms,m.1∈S
 inn:∀w∈S,∃m∈ms,m.1=w
def Ak:GP:=λds Q=>∃(nm:List aJ) (a:List Pt),ds=[.lst (a.map oN)]/\QX nm 17 a/\∀S,X8 S (gQ a)->Q (gD S (gQ a))
theorem F6:iM Ak:=by intro ds P Q w a;obtain⟨nm,b,h,g,q⟩:=a;exact⟨nm,b,h,g,λS s=>w _ (q S s)⟩
theorem Hm:∀a:List Pt,xY (a.map oN) (a.map aU)
 |[]=>trivial
 |p::a=>⟨⟨_,rfl⟩,Hm a⟩
theorem Tx:∀ds Q,Ak ds Q->Zw 6 1 vR ds Q:=by
 intro ds Q zq;obtain⟨nm,c,h,g,q⟩:=zq;subst h;unfold vR;refine⟨rfl,c.map oN,c.map aU,rfl,Hm c,g.nd,by rw[ar];have:=g.hi;omega,?_⟩;refine⟨ke (c.map aU) (c.map oN),rfl,rfl,?_⟩;rw[Hg];have B:(gQ c).length<=1000:=by
  have hl:(mM c).length<=10:=by rw[(iT c).length_eq];exact g.hi
  have:=E9 (λp:Pt=>iL p.1 0 p.2) 17 (mM c) λp hq=>bi (oF _ _ _) (g.rows p ((iT c).mem_iff.mp hq)).len;unfold gQ;omega
 refine iZ oN (λa b o M=>∃(G:List (aJ×Nat)) (ms:List Mk) (C E H j:Option D),mM c=a++b/\gQ c=ms++(b.flatMap λp=>iL p.1 0 p.2)/\Gr G ms M/\o=[ae (.lst (c.map oN)),ae (.loc 0),C,E,H,j])
  (λ_ _ _ _ _=>rfl) (mM c) [] _ _ ⟨[],[],am,am,am,am,rfl,rfl,Gr.nil,rfl⟩ (λpre x xs o M s N hN=>?_) (λpre o M s=>?_)
 .obtain⟨G,ms,C,E,H,j,I,hm,e,rfl⟩:=s;obtain⟨n,rs⟩:=x;have hx:(n,rs)∈c:=(iT c).mem_iff.mp (by rw[I];simp);have gx:=g.rows _ hx;rw[fS] at hm;refine⟨rfl,rfl,_,rfl,rfl,?_⟩;refine iZ Rw.d (λa b o M=>∃(G:List (aJ×Nat)) (ms:List Mk) (k:Nat) (j:Option D),rs=a++b/\gQ c=ms++(iL n k b++(xs.flatMap λp=>iL p.1 0 p.2))/\Gr G ms M/\o=[ae (.lst (c.map oN)),ae (.loc 0),ae (.str n),ae (.lst (rs.map Rw.d)),ae (.int k),j])
   (λ_ _ _ _ _=>rfl) rs [] _ _ ⟨G,ms,0,j,rfl,hm,e,rfl⟩ (λY r rest o M s N' A=>?_) (λY o M s=>?_)
  .obtain⟨G,ms,k,j,u,hm,e,rfl⟩:=s;have hr:grow nm r=aj:=gx.all r (by rw[u];simp);cases r<;>first|(cases hr;done)|skip
   .rename_i w b;have J:ms.length<=1000:=by rw[hm,bN] at B;omega
    have L:(uQ w ms).length<=1000:=bi (cu _ _) J;have y:gQ c=(ms++[(w,b,n,k)])++(iL n k rest++(xs.flatMap λp=>iL p.1 0 p.2)):=by rw[hm,bt];rfl
    have hv:nB (.inr w) (kA G) (vA D.loc G)=(h8 w G).map D.loc:=vX D.loc w G;have h0:0<M.length:=(ap.mp e.d).1;have O:Vm "dict" (vw M (.loc 0))=aj:=by show Vm "dict" (M7 0 M[0]?)=aj;rw[e.d];rfl
    have d1:(M++[ae (OD.lst [])])[0]?=ae (ae (.jf (kA G) (vA D.loc G))):=by rw[aR h0];exact e.d
    have T:(kA G).length<aE:=by have:=e.len;unfold kA;rw[ar];exact bY (show G.length<=1000 by omega) (by decide)
    have Xe:rs=Y++[.mark w b]++rest:=by rw[u,bt];rfl
    refine⟨_,rfl,O,_,rfl,bC _,kA G,vA D.loc G,.inr w,d1,rfl,λx ex=>?_,λU=>⟨T,?_⟩⟩
    .rw[hv] at ex;cases q:h8 w G with
     |none=>rw[q] at ex;cases ex
     |some i=>
      rw[q] at ex;cases ex;have hi:(w,i)∈G:=by obtain⟨v,h1,h2⟩:=um w G (jX.mp (by rw[q];rfl));rw[q] at h1;cases h1;exact h2
      obtain⟨i1,hM⟩:=e.l w i hi;have f:(M++[ae (OD.lst [])])[i]?=ae (ae (.lst ((uQ w ms).map L8))):=by rw[aR (ap.mp hM).1];exact hM
      refine⟨by show Vm "list" (M7 i (M++[ae (OD.lst [])])[i]?)=aj;rw[f];rfl,_,rfl,au rfl,_,f,by rw[ar];exact bY L (by decide),?_⟩;exact A _ _ ⟨G,ms++[(w,b,n,k)],k,_,Xe,y,e.found (m:=(w,b,n,k)) hi _,rfl⟩
    .rw[hv] at U;have hw:w∉G.map aU:=λz=>by
      have:=jX.mpr z;cases q:h8 w G with
      |none=>rw[q] at this;cases this
      |some i=>rw[q] at U;cases U
     have f:((M++[ae (OD.lst [])]).set 0 (ae (.jf (kA G++[.inr w]) (vA D.loc G++[.loc M.length]))))[M.length]?=ae (ae (.lst [])):=by rw[bx (by omega)];simp
     refine⟨by show Vm "list" (M7 M.length ((M++[ae (OD.lst [])]).set 0 (ae (.jf (kA G++[.inr w]) (vA D.loc G++[.loc M.length]))))[M.length]?)=aj;rw[f];rfl,_,rfl,au rfl,_,f,by decide,?_⟩;exact A _ _ ⟨_,ms++[(w,b,n,k)],k,_,Xe,y,e.new (m:=(w,b,n,k)) hw,rfl⟩
   .refine⟨_,rfl,?_⟩;exact A _ _ ⟨G,ms,k+1,_,by rw[u,bt];rfl,by rw[hm];rfl,e,rfl⟩
   .refine⟨_,rfl,?_⟩;exact A _ _ ⟨G,ms,k+1,_,by rw[u,bt];rfl,by rw[hm];rfl,e,rfl⟩
  .obtain⟨G,ms,k,j,u,hm,e,rfl⟩:=s;exact hN _ _ ⟨G,ms,_,_,_,_,by rw[I,bt];rfl,hm,e,rfl⟩
 .obtain⟨G,ms,C,E,H,j,I,hm,e,rfl⟩:=s;have hm:gQ c=ms:=by rw[hm];exact ba _
  show nl (fz2 M (.loc 0))=aj/\Q (fz2 M (.loc 0));rw[e.fz,<-hm];exact⟨abv _ _,q _ ⟨e.nk,by rw[hm];exact e.cov,by rw[hm];exact e.inn⟩⟩
theorem Tz{l:List _}(h:(h8 w l).isSome=aq)(v:β):Ad w v l=l++[(w,v)]:=by unfold Ad;rw[h];rfl
noncomputable def stp(c m:Mk):Mk:=if m.2.1=aj then m else c
theorem Hn:∀(l:List Mk) (h:Mk),l.foldl stp h=((l.filter λm=>m.2.1).getLast?).getD h
 |[],h=>rfl
 |m::l,h=>by
  rw[gm,Hn l _,eB];unfold stp;split
  .rw[List.getLast?_cons];rfl
  .rfl
theorem yp(w:aJ)(ms:List Mk):(ms.filter λm=>m.2.1).filter (λm=>decide (m.1=w))=(uQ w ms).filter λm=>m.2.1:=by unfold uQ;rw[List.filter_filter,List.filter_filter];congr 1;funext m;exact Bool.and_comm ..
theorem QZ(e:uQ w ms=h::t):Jk w ms=ae ((uQ w ms).foldl stp h).2.2:=by
 unfold Jk;rw[yp,Hn];cases q:(uQ w ms).filter λm=>m.2.1 with
 |nil=>
  show((uQ w ms).head?).map _=_;rw[e];rfl
 |cons m r=>
  rfl
theorem Xf(e:uQ w ms=[]):Jk w ms=am:=by unfold Jk;rw[yp,e];show((uQ w ms).head?).map _=_;rw[e];rfl
noncomputable def uq(S:List aJ)(ms:List Mk):List (aJ×Pl):=S.map λw=>(w,(Jk w ms).getD ("",0))
theorem Q0(f:aJ->β)(w:aJ):∀S:List aJ,h8 w (S.map λv=>(v,f v))=if w∈S then ae (f w) else am
 |[]=>by simp[h8]
 |v::S=>by
  rw[aX];unfold h8;by_cases h:v=w
  .subst h;rw[if_pos rfl,if_pos (by simp)]
  .rw[if_neg h,Q0 f w S];by_cases z:w∈S
   .rw[if_pos z,if_pos (ay _ z)]
   .rw[if_neg z,if_neg (by rw[aC,not_or];exact⟨λy=>h y.symm,z⟩)]
theorem L9(s:X8 S ms)(h:w∈S):∃a t,uQ w ms=a::t:=by
 obtain⟨m,b,c⟩:=s.inn w h;have:m∈uQ w ms:=cy.mpr ⟨b,decide_eq_true c⟩;cases q:uQ w ms with
 |nil=>rw[q] at this;cases this
 |cons a t=>exact⟨a,t,rfl⟩
theorem Xg(s:X8 S ms)(w:aJ):h8 w (uq S ms)=Jk w ms:=by
 unfold uq;rw[Q0];by_cases h:w∈S
 .rw[if_pos h];obtain⟨a,t,e⟩:=L9 s h;rw[QZ e];rfl
 .rw[if_neg h];refine(Xf ?_).symm;unfold uQ;rw[eR];intro m hm z;exact h (by rw[<-of_decide_eq_true z];exact s.cov m hm)
theorem Q1(S:List aJ)(ms:List Mk):(uq S ms).map aU=S:=by unfold uq;rw[bB];exact List.map_id _
def Q2:GP:=λds Q=>∃(S:List aJ) (ms:List Mk),ds=[gD S ms]/\X8 S ms/\S.length<=1000/\Q (E2 (uq S ms))
theorem OZ:iM Q2:=by intro ds P Q w a;obtain⟨S,ms,h,s,l,q⟩:=a;exact⟨S,ms,h,s,l,w _ q⟩
noncomputable def itD(ms:List Mk)(w:aJ):D:=.tup [.str w,.lst ((uQ w ms).map L8)]
theorem Q3(ms:List Mk):∀S:List aJ,nV (S.map .inr) (S.map λw=>.lst ((uQ w ms).map L8))=S.map (itD ms)
 |[]=>rfl
 |w::S=>by have:=Q3 ms S;unfold nV at*;rw[aX,aX,eM,this];rfl
theorem adD:∀ds Q,Q2 ds Q->kq 6 1 Hb ds Q:=by
 intro ds Q E;obtain⟨S,ms,h,s,L,q⟩:=E;subst h;refine⟨rfl,_,_,rfl,trivial,?_⟩;rw[Q3];refine iZ (itD ms) (λa b e M=>∃(n o r c:Option D),S=a++b/\M=[ae (.jf (kA (uq a ms)) (vA Hi (uq a ms)))]/\e=[ae (gD S ms),ae (.loc 0),n,o,r,c])
  (λ_ _ _ _ _=>trivial) S [] _ _ ⟨am,am,am,am,rfl,rfl,rfl⟩ (λpre w xs e M f N G=>?_) (λpre e M f=>?_)
 .obtain⟨n,o,r,c,g,rfl,rfl⟩:=f;obtain⟨a,t,x⟩:=L9 s (show w∈S by rw[g];simp);have u:Fx ((uQ w ms).map L8) 0=ae (L8 a):=AS (k:=0) (by rw[x];rfl);have hw:w∉(uq pre ms).map aU:=by rw[Q1];have nd:=s.nd;rw[g] at nd;exactλz=>(dg.mp nd).2.2 w z w (by simp) rfl
  have H:(kA (uq pre ms)).length<aE:=by
   have:pre.length<=S.length:=by rw[g];simp
   unfold kA uq;rw[ar,ar];exact bY (show pre.length<=1000 by omega) (by decide)
  refine⟨rfl,rfl,_,u,_,rfl,rfl,?_⟩;refine iZ L8 (λy b e M=>∃(c:Option D),uQ w ms=y++b/\M=[ae _]/\e=[ae (gD S ms),ae (.loc 0),ae (.str w),ae _,ae (L8 (y.foldl stp a)),c])
   (λ_ _ _ _ _=>rfl) (uQ w ms) [] _ _ ⟨c,rfl,rfl,rfl⟩ (λi m rest e M f O A=>?_) (λi e M f=>?_)
  .obtain⟨c,j,rfl,rfl⟩:=f;have B:(i++[m]).foldl stp a=stp (i.foldl stp a) m:=by rw[fU];rfl
   have C:uQ w ms=i++[m]++rest:=by rw[j,bt];rfl
   refine⟨_,rfl,?_⟩;obtain⟨v,b,p,k⟩:=m;cases b with
   |true=>exact A _ _ ⟨_,C,rfl,by rw[B];rfl⟩
   |false=>exact A _ _ ⟨_,C,rfl,by rw[B];rfl⟩
  .obtain⟨c,j,rfl,rfl⟩:=f;rw[ba] at j;subst j;refine⟨_,rfl,_,rfl,au rfl,_,_,_,rfl,rfl,H,?_⟩;refine G _ _ ⟨_,_,_,_,by rw[g,bt];rfl,?_,rfl⟩;have I:uq (pre++[w]) ms=Ad w ((uQ w ms).foldl stp a).2.2 (uq pre ms):=by
    rw[Tz (by
     cases q:(h8 w (uq pre ms)).isSome with
     |false=>rfl
     |true=>exact absurd (jX.mp q) hw)]
    unfold uq;rw[bh];show _++[(w,(Jk w ms).getD ("",0))]=_;rw[QZ x];rfl
   have J:=abu Hi w ((uQ w ms).foldl stp a).2.2 (uq pre ms);rw[I];show[ae (OD.jf (sg (c8 w) (Hi _) (kA (uq pre ms)) _).1 (sg (c8 w) (Hi _) (kA (uq pre ms)) _).2)]=_;rw[J]
 .obtain⟨n,o,r,c,g,rfl,rfl⟩:=f;rw[ba] at g;subst g;exact⟨w4 _,q⟩
theorem Q4{β:Type}{f:β->D}:∀l:List β,(∀x∈l,dp (f x)<=n)->dps (l.map f)<=n
 |[],_=>bC _
 |x::l,h=>by show max _ _<=n;have:=h x aH;have:=Q4 l λy a=>h y (ay _ a);omega
theorem Ma{β:Type}{f:β->D}:∀l:List β,(∀x∈l,Dw (f x) (f x)=aj)->Dx (l.map f) (l.map f)=aj
 |[],_=>rfl
 |x::l,h=>by show(Dw (f x) (f x)&&Dx _ _)=aj;rw[h x aH,Ma l λy a=>h y (ay _ a)];rfl
theorem adE(h:xB w=aj):dA w=aj:=by unfold xB at h;rw[aY] at h;have a:=h.2;unfold low at a;unfold dA;rw[bR] at a;rw[<-Array.all_toList,bR];intro c b;have:=a c b;rw[aY,decide_eq_true_iff,decide_eq_true_iff] at this;simp;omega
structure Pl3(n:Nat)(d:D):Prop where
 p:L3.pl d=aj
 dd:dp d<=n
 e:Dw d d=aj
theorem Ho(k n p:aJ):∀g:Gs,h8 n (g.map λx=>if x.1=k then(x.1,x.2++[p]) else x)=if n=k then(h8 n g).map (·++[p]) else h8 n g
 |[]=>by split<;>rfl
 | (x,v)::g=>by
  have a:=Ho k n p g;rw[aX];by_cases e:x=k
  .rw[if_pos e];unfold h8;by_cases z:x=n
   .rw[if_pos z,if_pos z,if_pos (by rw[<-z,e])];rfl
   .rw[if_neg z,if_neg z,a]
  .rw[if_neg e];unfold h8;by_cases z:x=n
   .rw[if_pos z,if_pos z,if_neg (λh=>e (by rw[z,h]))]
   .rw[if_neg z,if_neg z,a]
theorem Xh(g:Gs)(m:Mk)(n:aJ):h8 n (xq g m)=if n=m.1 then ae ((h8 n g).getD []++[m.2.2.1]) else h8 n g:=by
 unfold xq;by_cases h:(h8 m.1 g).isSome=aj
 .rw[if_pos h,Ho];by_cases e:n=m.1
  .rw[if_pos e,if_pos e,e];cases z:h8 m.1 g with
   |none=>rw[z] at h;cases h
   |some v=>rfl
  .rw[if_neg e,if_neg e]
 .rw[if_neg h,Fa];by_cases e:n=m.1
  .rw[if_pos e,if_pos e.symm,e];cases z:h8 m.1 g with
   |none=>rfl
   |some v=>rw[z] at h;exact absurd rfl h
  .rw[if_neg e,if_neg (λz=>e z.symm),Option.or_none]
noncomputable def vZ(n:aJ)(ms:List Mk):List aJ:=((jN ms).filter λm=>decide (m.1=n)).map λm=>m.2.2.1
theorem Mb(n:aJ):∀(ms:List Mk) (g:Gs),h8 n (ms.foldl xq g)=if n∈ms.map aU then ae ((h8 n g).getD []++(ms.filter λm=>decide (m.1=n)).map λm=>m.2.2.1) else h8 n g
 |[],g=>by simp
 |m::ms,g=>by
  rw[gm,Mb n ms _,Xh,aX,eB];by_cases e:n=m.1
  .subst e;rw[if_pos rfl,if_pos aH,if_pos (decide_eq_true rfl)];by_cases z:m.1∈ms.map aU
   .rw[if_pos z];simp
   .rw[if_neg z];have:=eR.mpr λa ha h=>z (aV.mpr ⟨a,ha,of_decide_eq_true h⟩);rw[this];rfl
  .have ne:¬decide (m.1=n)=aj:=λh=>e (of_decide_eq_true h).symm;rw[if_neg e,if_neg ne];by_cases z:n∈ms.map aU
   .rw[if_pos z,if_pos (ay _ z)]
   .rw[if_neg z,if_neg (λh=>(aC.mp h).elim e z)]
theorem v3(ms:List Mk)(n:aJ):Ts ms n=vZ n ms/\(n∈(groups ms).map aU↔n∈(jN ms).map aU):=by
 have h:=Mb n (jN ms) [];have k:(h8 n _).isSome=aj↔n∈(groups ms).map aU:=jX;unfold Ts;unfold groups at k |-;rw[h] at k |-;by_cases e:n∈(jN ms).map aU
 .rw[if_pos e] at k |-;exact⟨rfl,λ_=>e,λ_=>k.mp rfl⟩
 .rw[if_neg e] at k |-;refine⟨?_,λz=>?_,λz=>absurd z e⟩
  .unfold vZ;have:=eR.mpr λa ha h=>e (aV.mpr ⟨a,ha,of_decide_eq_true h⟩);rw[this];rfl
  .have:=k.mpr z;cases this
theorem Xi(h:k∈SA ss):k∈ss:=by
 have gen:∀i,i<=ss.length->∀k∈pw (λi=>ss.getD i ⟨#[]⟩) i,k∈ss:=by
  intro i;induction i with
  |zero=>intro _ k h;cases h
  |succ i a=>
   intro hi k h;unfold pw cW at h;split at h
   .exact a (by omega) k h
   .rcases bd.mp h with h|h
    .exact a (by omega) k h
    .rw[bf] at h;subst h;rw[bD,ax (by omega)];exact fX _
 exact gen _ (aD _) k h
theorem Q5:∀ss:List aJ,(∀w∈ss,w.length<=8)->bX.weightAll (toPs (ss.map D.str))<=9*ss.length
 |[],_=>bC _
 |w::ss,h=>by
  have b:=Q5 ss λx a=>h x (ay _ a);have c:=h w aH;show bX.weightAll (toPs (D.str w::ss.map D.str))<=_;unfold toPs;simp only [bX.weightAll];have e:bX.weight (toP (D.str w))=w.length:=by rfl
  rw[e,bc];omega
theorem Fc:∀ss:List aJ,aip 13 (toPs (ss.map D.str))=aj
 |[]=>rfl
 |w::ss=>by show aip 13 (toPs (D.str w::ss.map D.str))=aj;unfold toPs;simp only [aip,Fc ss];rfl
theorem Xj(a:L3.pl (sl ss)=aj)(hw:∀w∈ss,w.length<=8)(b:ss.length<=10):(gz (toP (sl ss))).length<=4000:=by
 have c:=bX.shown_le 13 (by decide) _ (bX.leavesShort_of_canLay0 13 _ (toP_lay _ a) (by exact Fc ss));have e:bX.weight (toP (sl ss))<=9*ss.length:=by exact Q5 ss hw
 omega
theorem afO(h:∀w∈ss,xB w=aj):L3.pl (sl ss)=aj:=by
 show L3.Vf _=aj;induction ss with
 |nil=>rfl
 |cons w ss a=>
  show(L3.pl _&&L3.Vf _)=aj;rw[a λx b=>h x (ay _ b),Bool.and_true];exact adE (h w aH)
theorem ql:∀(k:Nat) (rs:List Rw),∀m∈iL n k rs,m.2.2.1=n:=by
 intro k rs;induction rs generalizing k with
 |nil=>intro m h;cases h
 |cons r rs a=>
  intro m h;cases r<;>first
   |exact a _ m h
   | (rcases aC.mp h with rfl|h
      .rfl
      .exact a _ m h)
theorem Xk(h:m∈gQ a):m.2.2.1∈a.map aU:=by obtain⟨p,b,c⟩:=eC.mp h;rw[ql 0 p.2 m c];exact aV.mpr ⟨p,(iT a).mem_iff.mp b,rfl⟩
theorem Q6(h:xB w=aj):w.length<=8:=by unfold xB at h;simp only [aY,decide_eq_true_eq] at h;exact h.1.2
theorem afP(hn:∀w∈nm,xB w=aj)(hm:nm.length<=10)(o:n<=20)(g:QX nm n a)(r:(gQ a).length<1000):aai (gQ a):=by
 have s:=iT a;have e:∀m∈gQ a,m.1∈nm:=λm b=>by obtain⟨p,f,u⟩:=eC.mp b;exact rn 0 p.2 (g.rows p (s.mem_iff.mp f)).all m u
 have sub:∀w∈(groups (gQ a)).map aU,w∈nm:=λw hw=>by obtain⟨m,b,rfl⟩:=aV.mp ((v3 _ w).2.mp hw);exact e m (cy.mp b).1
 refine⟨by omega,.inl ?_,λw hw=>?_⟩
 .have:=km _ nm (A9 (gQ a)).1 sub;omega
 .rw[(v3 (gQ a) w).1];have pp:∀p∈vZ w (gQ a),p∈a.map aU:=λp h=>by obtain⟨m,b,rfl⟩:=aV.mp h;exact Xk (cy.mp (cy.mp b).1).1
  have v:(vZ w (gQ a)).length<1000:=by unfold vZ;rw[ar];have b:((jN (gQ a)).filter λm=>decide (m.1=w)).length<=(jN (gQ a)).length:=cu _ _;have f:(jN (gQ a)).length<=(gQ a).length:=cu _ _;omega
  have x:(SA (vZ w (gQ a))).length<=10:=by have:=km (SA (vZ w (gQ a))) (a.map aU) (tO _ _) λk c=>pp k (Xi c);rw[ar] at this;have:=g.hi;omega
  have i:∀k∈Ji (gQ a) w,xB k=aj:=λk c=>by unfold Ji at c;rw[(v3 (gQ a) w).1] at c;obtain⟨q,b,rfl⟩:=aV.mp (pp k (Xi (wZ c)));exact g.w q b
  have lt:(Ji (gQ a) w).length<=10:=by unfold Ji;rw[(v3 (gQ a) w).1];have:=(L3.jS id (SA (vZ w (gQ a)))).length_eq;show(L3.P6 id _).length<=_;omega
  have j:=afO i;refine⟨v,by omega,by have:=Q6 (hn w (sub w hw));omega,j,?_⟩;exact Xj j (λk c=>Q6 (i k c)) lt
theorem Xl(hn:∀w∈nm,xB w=aj)(hm:nm.length<=10)(b:n<=20)(g:QX nm n c):Af c:=by
 have h:=iT c;have j:(mM c).length<=10:=by rw[h.length_eq];exact g.hi
 have m:(gQ c).length<=200:=by have:=E9 (λp:Pt=>iL p.1 0 p.2) n _ λp a=>bi (oF _ _ _) (g.rows p (h.mem_iff.mp a)).len;have:=Nat.mul_le_mul b j;unfold gQ;omega
 refine⟨⟨⟨g.lo,by have:=g.hi;omega,λp a=>?_,g.nd,?_,?_⟩,λp a r f=>(Jj hn ((g.rows p a).all r f)).1,λp a=>?_⟩,by omega,?_,λ_ p a=>?_⟩
 .have:=(g.rows p a).oth;have:=(g.rows p a).len;exact⟨g.w p a,by omega,by omega,by omega⟩
 .have:=OX (λp:Pt=>(z7 p.2:Int)) n c λp a=>by have:=(g.rows p a).oth;omega
  have i:=Nat.mul_le_mul b g.hi;omega
 .have:=OX (λp:Pt=>(m6 p.2:Int)) n c λp a=>by have:=(g.rows p a).oth;omega
  have i:=Nat.mul_le_mul b g.hi;omega
 .obtain⟨o,e⟩:=(g.rows p a).end_;rw[e];exact(QY hn o λr f=>(g.rows p a).all r (by rw[e];exact bS _ f)).1
 .exact afP hn hm b g (by omega)
 .obtain⟨v,s,i⟩:=um p.1 (lf c) (by unfold lf;rw[bB];exact aV.mpr ⟨p,h.mem_iff.mpr a,rfl⟩)
  refine⟨v,s,?_⟩;obtain⟨q,u,x⟩:=aV.mp i;have y:=h.mem_iff.mp u;obtain rfl:FJ.bare q.2=v:=(Prod.mk.inj x).2;unfold Jg;rw[bR];intro r f;have z:=(cy.mp f).1;rw[(Jj hn ((g.rows q y).all r z)).2.2];rfl
structure XF(K:bz)(PE T La NE:aw):Prop where
 sub:SJ K T PE
 get:K1 K T
 XY:kY K T "name"
 XZ:kY K T "parts"
 k1:dt K (.ref T) (.ref T)=ae aj
 k2:dt K (.ref T) (.ref La)=ae aq
 k3:dt K (.ref T) (.ref NE)=ae aq
noncomputable def Q7(c:CA)(a:List Pt)(w:Int):D:=.tup [.str "",if w=0 then E2 (E4 a) else .lst ((lf a).map oN)]
noncomputable def twD(a:List Pt)(n:aJ):D:=.tup [.str n,sl (Ji (gQ a) n)]
def adF (c:CA):GP:=λds Q=>∃(a:List Pt) (w:Int),ds=[.lst (a.map oN),.int w]/\(w=0\/w=1)/\Af a/\(Ba (gQ a)=am->Q (Q7 c a w))/\∀n,Ba (gQ a)=ae n->Q (.tup [.str "twice",twD a n])
theorem Xm(ss:List aJ):nl (sl ss)=aj:=by exact jL (λ_=>rfl) ss
theorem aal{K:bz}{c:CA}{PE T b f:aw}(x:XF K PE T b f):∀ds Q,adF c ds Q->kq 5 2 (ui K PE (sJ c T) (vY c T) T b f) ds Q:=by
 rintro ds Q ⟨a,w,h,hw,ok,g,i⟩
 subst h;refine⟨rfl,?_⟩;have j:lu ((lf a).map oN)=aj:=nJ _;unfold ui;rcases hw with rfl|rfl
 .refine⟨m8 a,a,rfl,ok,λe=>?_,λn e=>?_⟩
  .refine⟨au rfl,?_,g e⟩;show(aj&&(nl (E2 (E4 a))&&aj))=aj;rw[w4];rfl
  .refine⟨x.sub,?_⟩;refine⟨aj,x.get,x.k1,?_⟩;refine⟨aq,x.get,x.k2,?_⟩;refine⟨aq,x.get,x.k3,?_⟩;refine⟨x.get,x.XY,_,rfl,x.get,x.XZ,_,rfl,?_⟩;refine⟨au rfl,x.get,x.XZ,_,rfl,aj,rfl,?_⟩;refine⟨au rfl,?_,i n e⟩;show(aj&&((aj&&(nl (sl (Ji (gQ a) n))&&aj))&&aj))=aj;rw[Xm];rfl
 .refine⟨m8 a,a,rfl,ok,λe=>?_,λn e=>?_⟩
  .refine⟨au rfl,?_,g e⟩;show(aj&&(lu ((lf a).map oN)&&aj))=aj;rw[j];rfl
  .refine⟨x.sub,?_⟩;refine⟨aj,x.get,x.k1,?_⟩;refine⟨aq,x.get,x.k2,?_⟩;refine⟨aq,x.get,x.k3,?_⟩;refine⟨x.get,x.XY,_,rfl,x.get,x.XZ,_,rfl,?_⟩;refine⟨au rfl,x.get,x.XZ,_,rfl,aj,rfl,?_⟩;refine⟨au rfl,?_,i n e⟩;show(aj&&((aj&&(nl (sl (Ji (gQ a) n))&&aj))&&aj))=aj;rw[Xm];rfl
noncomputable def dd(l:List aJ):List aJ:=l.foldl cW []
theorem Jo(l:List aJ)(w:aJ):dd (l++[w])=if w∈dd l then dd l else dd l++[w]:=by
 have e:dd (l++[w])=cW (dd l) w:=by unfold dd;rw[fU];rfl
 rw[e];generalize dd l=m;unfold cW;by_cases h:w∈m
 .rw[if_pos h,if_pos (f6.mpr ⟨w,h,by simp⟩)]
 .rw[if_neg h,if_neg (λz=>by obtain⟨a,ha,e⟩:=f6.mp z;exact h (by rw[<-eq_of_beq e];exact ha))]
theorem Xn(ss:List aJ):∀i,i<=ss.length->pw (λi=>ss.getD i ⟨#[]⟩) i=dd (ss.take i)
 |0,_=>rfl
 |i+1,h=>by
  have a:=Xn ss i (by omega);have e:ss.take (i+1)=ss.take i++[ss.getD i ⟨#[]⟩]:=by rw[List.take_succ,bD,ax (by omega)];rfl
  rw[e];show cW _ _=_;rw[a];unfold dd;rw[fU];rfl
theorem Xo(ss:List aJ):SA ss=dd ss:=by unfold SA;rw[Xn ss _ (aD _),ahW]
theorem Fd{β:Type}{P:List β->Prop}(b:P [])(c:∀l a,P l->P (l++[a]))(l:List β):P l:=by
 have:∀r:List β,P r.reverse:=by
  intro r;induction r with
  |nil=>exact b
  |cons a r e=>rw[fO];exact c _ _ e
 rw[<-List.reverse_reverse l];exact this _
theorem Q8(l:List aJ):∀w,w∈dd l↔w∈l:=by
 refine Fd (P:=λl=>∀w,w∈dd l↔w∈l) (λw=>Iff.rfl) (λl a b w=>?_) l;rw[Jo];by_cases h:a∈dd l
 .rw[if_pos h,bd,bf,b w];exact⟨.inl,λz=>z.elim id λe=>e▸(b a).mp h⟩
 .rw[if_neg h,bd,bd,b w]
theorem adG(l:List aJ):(dd l).Sublist l:=by
 refine Fd (P:=λl=>(dd l).Sublist l) (List.Sublist.refl _) (λl a b=>?_) l;rw[Jo];by_cases h:a∈dd l
 .rw[if_pos h];exact b.trans (List.sublist_append_left _ _)
 .rw[if_neg h];exact b.append (List.Sublist.refl _)
theorem Mc(l:List aJ):(dd l).Nodup:=by rw[<-Xo];exact tO _ _
theorem Md{a b:List aJ}(ha:a.Nodup)(e:b.Nodup)(h:∀w,w∈a↔w∈b):a.Perm b:=by refine Iq e (λk f=>(h k).mpr f) ?_;have g:=km a b ha λx c=>(h x).mp c;have i:=km b a e λx c=>(h x).mpr c;omega
theorem tK(p:a.Perm b)(s:a.Pairwise λx y=>uT x y=aj):a=jH b:=by refine GA p ?_;exact AG s
theorem Fe(l:List aJ):(jH l).Pairwise λx y=>uT x y=aj:=L3.pW id l
theorem aam(l:List aJ):dd (jH l)=jH (dd l):=by refine tK (Md (Mc _) (Mc _) λw=>?_) ((Fe l).sublist (adG _));rw[Q8,Q8];exact(L3.jS id l).mem_iff
theorem Bc:∀l:List aJ,l.find? p=(l.filter p).head?
 |[]=>rfl
 |x::l=>by
  rw[List.find?_cons,eB];cases p x
  .exact Bc l
  .rfl
theorem TD(ha:a.Nodup)(c:b.Nodup)(h:∀w,p w=aj->(w∈a↔w∈b)):(jH a).find? p=(jH b).find? p:=by rw[Bc,Bc];congr 1;have k:∀l:List aJ,(jH l).filter p=jH _:=λl=>tK ((L3.jS id l).filter p) ((Fe l).sublist fw);rw[k,k];refine tK ((L3.jS id _).trans (Md (ha.sublist fw) (c.sublist fw) λw=>?_)) (Fe _);rw[cy,cy];exact⟨λz=>⟨(h w z.2).mp z.1,z.2⟩,λz=>⟨(h w z.2).mpr z.1,z.2⟩⟩
noncomputable def ltw(S:List aJ)(ms:List Mk):Option aJ:=(jH S).find? λn=>decide (1<(vZ n ms).length)
theorem adH(s:X8 S ms):ltw S ms=Ba ms:=by
 unfold ltw Ba;have e:(λn=>decide (1<(Ts ms n).length))=λn=>decide _:=funext λn=>by rw[(v3 ms n).1]
 rw[e];refine TD s.nd (A9 ms).1 λw hw=>?_;have b:=of_decide_eq_true hw;have a:=by unfold vZ at b;rw[ar] at b;obtain⟨m,hm⟩:=List.exists_mem_of_length_pos (show 0<((jN ms).filter λm=>decide (m.1=w)).length by omega);have:=cy.mp hm;exact aV.mpr ⟨m,this.1,of_decide_eq_true this.2⟩
 refine⟨λ_=>(v3 ms w).2.mpr a,λ_=>?_⟩;obtain⟨m,c,rfl⟩:=aV.mp a;exact s.cov m (cy.mp c).1
theorem Q9(f:aJ->D):∀S:List aJ,w∈S->nB (.inr w) (S.map .inr) (S.map f)=ae (f w)
 |[],h=>nomatch h
 |x::S,h=>by
  show(if(c8 x:Key)=.inr w then ae (f x) else nB (.inr w) _ _)=_;by_cases e:x=w
  .rw[if_pos (by rw[e]),e]
  .rw[if_neg (λz=>e (by cases z;rfl))];exact Q9 f S ((aC.mp h).resolve_left λz=>e z.symm)
theorem adI(w:aJ)(ms:List Mk):vZ w ms=((uQ w ms).filter λm=>m.2.1).map λm=>m.2.2.1:=by unfold vZ jN;rw[yp]
noncomputable def eP(x:Nat×aJ):D:=.tup [.int x.1,.str x.2]
theorem aan(l:List aJ):((l.map D.str).mapIdx λi d=>D.tup [.int i,d])=(l.mapIdx λi w=>(i,w)).map eP:=by apply fQ;intro i;simp only [ail,bq];cases l[i]?<;>rfl
theorem aao(l:List aJ):(((l.mapIdx λi w=>(i,w)).filter λx=>!decide (x.2∈l.take x.1)).map λx=>D.str x.2)=(dd l).map D.str:=by
 have gen:=by
  refine Fd (P:=λl=>((l.mapIdx λi w=>(i,w)).filter λx=>!decide (x.2∈l.take x.1)).map aio=dd l) rfl λl a b=>?_;have e1:(l++[a]).mapIdx (λi w=>(i,w))=(l.mapIdx λi w=>(i,w))++[(l.length,a)]:=by simp
  have e2:((l.mapIdx λi w=>(i,w)).filter λx=>!decide (x.2∈(l++[a]).take x.1))=(l.mapIdx λi w=>(i,w)).filter λx=>!decide (x.2∈l.take x.1):=by refine List.filter_congr λx c=>?_;obtain⟨i,hi,rfl⟩:=List.mem_mapIdx.mp c;rw[List.take_append_of_le_length (by omega)]
  rw[Jo,e1,eQ,e2,bh,b];have e3:(l++[a]).take l.length=l:=by rw[List.take_append_of_le_length (aD _),ahW]
  by_cases h:a∈dd l
  .rw[if_pos h];have:([(l.length,a)].filter λx=>!decide (x.2∈(l++[a]).take x.1))=[]:=by rw[List.filter_cons_of_neg (by rw[e3,decide_eq_true ((Q8 l a).mp h)];decide)];rfl
   rw[this];simp
  .rw[if_neg h];have:([(l.length,a)].filter λx=>!decide (x.2∈(l++[a]).take x.1))=[(l.length,a)]:=by rw[List.filter_cons_of_pos (by rw[e3,decide_eq_false (λz=>h ((Q8 l a).mpr z))];rfl)];rfl
   rw[this];rfl
 rw[<-gen l,bB];rfl
theorem aap(w:aJ)(ss:List aJ):inD (.str w) (.lst (ss.map .str))=ae (decide (w∈ss)):=by
 have a:(ss.map D.str).all fl=aj:=bR.mpr λx b=>by obtain⟨y,_,rfl⟩:=aV.mp b;rfl
 show(if(fl (.str w)&&(ss.map D.str).all fl)=aj then ae _ else am)=_;rw[if_pos (by rw[a];rfl)];congr 1;induction ss with
 |nil=>rfl
 |cons x ss f=>
  have c:=f (bR.mpr λx b=>by obtain⟨y,_,rfl⟩:=aV.mp b;rfl);rw[aX,dH,c];show((x==w)||decide _)=decide _;by_cases e:x=w
  .subst e;simp
  .rw[beq_eq_false_iff_ne.mpr e,Bool.false_or];by_cases z:w∈ss
   .rw[decide_eq_true z,decide_eq_true (ay _ z)]
   .rw[decide_eq_false z,decide_eq_false (λh=>(aC.mp h).elim (λq=>e q.symm) z)]
def Xp:GP:=λds Q=>∃(S:List aJ) (ms:List Mk),ds=[gD S ms]/\X8 S ms/\si S/\(∀n,si (vZ n ms))/\ms.length<=1000/\(ltw S ms=am->Q .non)/\∀n,ltw S ms=ae n->Q (.tup [.str n,sl (jH (dd (vZ n ms)))])
theorem TF:∀ds Q,Xp ds Q->kq 3 1 vS ds Q:=by
 rintro ds Q ⟨S,ms,h,s,B,A,C,E,G⟩
 subst h;refine⟨rfl,S,rfl,B,?_⟩;refine⟨_,rfl,rfl,?_⟩;refine iZ D.str (λa b q M=>∃(r u:Option D),jH S=a++b/\(∀n∈a,decide (1<(vZ n ms).length)=aq)/\M=[]/\q=[ae (gD S ms),r,u]) (λ_ _ _ _ ⟨_,_,_,_,e,_⟩=>by rw[e]) _ [] _ _ ⟨am,am,rfl,(λn h=>nomatch h),rfl,rfl⟩ (λpre x xs q M v N H=>?_) (λpre q M v=>?_)
 .obtain⟨r,u,g,j,rfl,rfl⟩:=v;have I:x∈S:=wZ (by rw[g];simp);have J:(uQ x ms).length<=1000:=bi (cu _ _) C;refine⟨.inr x,_,rfl,Q9 (λw=>.lst ((uQ w ms).map L8)) S I,?_⟩;refine⟨_,rfl,rfl,?_⟩;refine sG L8 (λm=>.str m.2.2.1) (λm=>m.2.1) (by rfl) (uQ x ms) [] (by show 0+_<=_;rw[bJ];exact qk J) (λm hm L o=>?_) ?_
  .obtain⟨w,b,p,k⟩:=m;cases b
   .exact⟨_,rfl,o _ rfl⟩
   .exact⟨_,rfl,_,rfl,o _ rfl⟩
  .refine⟨vZ x ms,by rw[adI,bB];rfl,A x,?_⟩;have ls:(jH (vZ x ms)).length=(vZ x ms).length:=(L3.jS id (vZ x ms)).length_eq;have O:(vZ x ms).length<=1000:=(A x).l;refine⟨(jH (vZ x ms)).length,by show ae ((jH (vZ x ms)).map D.str).length=_;rw[ar],?_⟩;by_cases c:1<(vZ x ms).length
   .refine(show(if decide ((1:Int)<((jH (vZ x ms)).length:Int))=aj then _ else _) from ?_);rw[if_pos (decide_eq_true (by omega))];have z:Q (.tup [.str x,sl (jH (dd (vZ x ms)))]):=G x (by unfold ltw;rw[g,List.find?_append,fM.mpr λn hn=>by rw[j n hn];exact aM,Option.none_or];exact List.find?_cons_of_pos (p:=λn=>decide (1<(vZ n ms).length)) (decide_eq_true c))
    rw[<-aam] at z;generalize jH (vZ x ms)=l at z ls |-;refine⟨_,rfl,rfl,?_⟩;rw[aan];refine sG eP (λx=>.str x.2) (λx=>!decide (x.2∈l.take x.1)) (by rfl) _ [] (by show 0+_<=_;rw[bJ,fJ];exact qk (by omega)) (λy T L o=>?_) ?_
    .obtain⟨i,w⟩:=y;refine⟨rfl,rfl,?_⟩;refine⟨decide (w∈l.take i),?_,?_⟩
     .show inD (.str w) (.lst (cutD (l.map D.str) am (ae (i:Int))))=_;rw[Wy,<-List.map_take,aap]
     .have f:=o;cases hd:decide (w∈l.take i)
      .rw[hd] at f;exact f _ rfl
      .rw[hd] at f;exact f _ rfl
    .rw[gp,aao];refine⟨au rfl,?_,z⟩;show(aj&&(nl (sl (dd l))&&aj))=aj;rw[Xm];rfl
   .refine(show(if decide ((1:Int)<((jH (vZ x ms)).length:Int))=aj then _ else _) from ?_);rw[if_neg (by rw[decide_eq_false (by omega)];exact aM)];refine H _ _ ⟨_,_,by rw[g,bt];rfl,λn hn=>?_,rfl,rfl⟩;rcases bd.mp hn with hn|hn
    .exact j n hn
    .rw[bf] at hn;subst hn;exact decide_eq_false c
 .obtain⟨r,u,g,j,rfl,rfl⟩:=v;rw[ba] at g;refine⟨rfl,E ?_⟩;unfold ltw;rw[g];exact fM.mpr λn hn=>by rw[j n hn];exact aM
noncomputable def wkR:Rw->Rw
 |.mark w _=>.mark w aq
 |r=>r
noncomputable def Mw(a:List Pt):List Pt:=a.map λp=>(p.1,p.2.map wkR)
theorem Xq(d x:Option OD)(R:Ms):(d::(R++[x]))[R.length+1]?=ae x:=by simp
theorem Xr(d x y:Option OD)(R:Ms):(d::(R++[x])).set (R.length+1) y=d::(R++[y]):=by rw[ahy];congr 1;exact Qz ..
theorem O0(N:Ms->Prop){d:Option OD}{R:Ms}{es:List D}{x:D}(b:es.length<aE)(q:N (d::(R++[ae (.lst (es++[x]))]))):
  Vm "list" (vw (d::(R++[ae (.lst es)])) (.loc (R.length+1)))=aj/\∃a,(d::(R++[ae (.lst es)]))[R.length+1]?=ae (ae (.lst a))/\a.length<aE/\N ((d::(R++[ae (.lst es)])).set (R.length+1) (ae (.lst (a++[x])))):=by
 refine⟨?_,es,Xq ..,b,?_⟩
 .show Vm "list" (M7 _ _)=aj;rw[Xq];rfl
 .rw[Xr];exact q
def Jp:GP:=λds Q=>∃(nm:List aJ) (a:List Pt),ds=[.lst (a.map oN)]/\QX nm 17 a/\Q (.lst ((Mw a).map oN))
theorem Me:iM Jp:=by
 rintro ds P Q w ⟨nm,a,h,g,q⟩
 exact⟨nm,a,h,g,w _ q⟩
theorem aaq:∀ds Q,Jp ds Q->kq 6 1 ym ds Q:=by
 rintro ds Q ⟨nm,m,h,g,q⟩
 subst h;unfold ym;refine⟨rfl,bC _,_,rfl,rfl,?_⟩;refine iZ oN (λa b e M=>∃(R:Ms) (s u v c:Option D),m=a++b/\M=ae (.lst ((Mw a).map oN))::R/\e=[ae (.lst (m.map oN)),ae (.loc 0),s,u,v,c])
  (λ_ _ _ _ _=>rfl) m [] _ _ ⟨[],am,am,am,am,rfl,rfl,rfl⟩ (λpre x xs e M f N A=>?_) (λpre e M f=>?_)
 .obtain⟨R,s,u,v,c,i,rfl,rfl⟩:=f;obtain⟨n,rs⟩:=x;have z:GRs nm 17 rs:=g.rows (n,rs) (by rw[i];simp);have B:pre.length<=10:=by have C:=congrArg ahG i;have:=g.hi;simp at C;omega
  refine⟨rfl,rfl,bC _,_,rfl,rfl,?_⟩;refine iZ Rw.d (λa b e M=>∃(c:Option D),rs=a++b/\M=ae (.lst ((Mw pre).map oN))::(R++[ae (.lst ((a.map wkR).map Rw.d))])/\e=[ae (.lst (m.map oN)),ae (.loc 0),ae (.str n),ae (.lst (rs.map Rw.d)),ae (.loc (R.length+1)),c])
   (λ_ _ _ _ _=>rfl) rs [] _ _ ⟨c,rfl,rfl,rfl⟩ (λo r rest e M f p E=>?_) (λo e M f=>?_)
  .obtain⟨c,j,rfl,rfl⟩:=f;have G:grow nm r=aj:=z.all r (by rw[j];simp);have y:((o.map wkR).map Rw.d).length<aE:=by rw[ar,ar];have H:=congrArg ahG j;have:=z.len;simp at H;exact bY (show o.length<=1000 by omega) (by decide)
   have next:∀(c:Option D),p _ (ae (.lst ((Mw pre).map oN))::(R++[ae (.lst ((o.map wkR).map Rw.d++[(wkR r).d]))])):=λc=>
    E _ _ ⟨c,by rw[j,bt];rfl,by rw[bh,bh];rfl,rfl⟩
   cases r<;>first|(cases G;done)|skip
   .rename_i w b;refine⟨_,rfl,_,rfl,_,rfl,au rfl,?_⟩;exact O0 (p _) y (next _)
   .refine⟨_,rfl,?_⟩;exact O0 (p _) y (next _)
   .rename_i ns;refine⟨_,rfl,?_⟩;exact O0 (p _) y (next _)
  .obtain⟨c,j,rfl,rfl⟩:=f;rw[ba] at j;subst j;refine⟨rfl,R.length+1,(rs.map wkR).map Rw.d,rfl,Xq ..,au rfl,?_⟩;rw[Xr];refine⟨(Mw pre).map oN,rfl,by rw[ar];unfold Mw;rw[ar];exact bY (show pre.length<=1000 by omega) (by decide),A _ _ ⟨R++[am],_,_,_,_,by rw[i,bt];rfl,?_,rfl⟩⟩;unfold Mw;rw[bh,bh];rfl
 .obtain⟨R,s,u,v,c,i,rfl,rfl⟩:=f;rw[ba] at i;subst i;exact⟨nJ _,q⟩
theorem Pl3.ok(h:Pl3 n d)(a:Pl3 n b)(hn:n<=60):okE d b:=⟨h.p,a.p,by have:=h.dd;omega,by have:=a.dd;omega⟩
theorem aar(h:Jk w ms=ae p):∃m∈ms,m.2.2=p:=by
 unfold Jk at h;split at h
 .rename_i m r e;have hm:(m::r).getLast (by simp)∈m::r:=List.getLast_mem _;generalize (m::r).getLast (by simp)=x at h hm;rw[<-e] at hm;exact⟨x,(cy.mp (cy.mp hm).1).1,bn h⟩
 .cases q:(ms.filter λm=>decide (m.1=w)).head? with
  |none=>rw[q] at h;cases h
  |some m=>
   rw[q] at h;exact⟨m,(cy.mp (List.mem_of_mem_head? (by rw[q];rfl))).1,bn h⟩
theorem v4:∀(k:Nat) (rs:List Rw),∀m∈iL n k rs,m.2.2.1=n
 |_,[],m,h=>by simp[iL] at h
 |k,r::rs,m,h=>by
  cases r with
  |mark w b=>
   rcases aC.mp h with rfl|h
   .rfl
   .exact v4 k rs m h
  |_=>exact v4 (k+1) rs m h
theorem aas(g:QX nm n a):∀m∈gQ a,xB m.2.2.1=aj:=λm hm=>by obtain⟨p,b,c⟩:=eC.mp hm;rw[v4 0 p.2 m c];exact g.w p ((iT a).mem_iff.mp b)
theorem afQ(h:xB p.1=aj):Pl3 1 (Hi p):=by refine⟨?_,au rfl,by show((p.1==p.1)&&(((p.2:Int)==(p.2:Int))&&aj))=aj;rw[beq_self_eq_true,beq_self_eq_true];rfl⟩;show(dA p.1&&(aj&&aj))=aj;rw[adE h];rfl
theorem Hq(b:st M):∀(xs:List D) (acc:List D),acc.length+xs.length<=aE->
  (∀x∈xs,∀c:Option D->oM->Ms->Prop,(∀(i:Int) a,HG fr a=e->c (ae (.int i)) a M)->Gq g tt j x e M c)->(∀is:List Int,is.length=xs.length->Q (acc++is.map .int) M)->uJ fr g tt j st Q xs acc e M
 |[],acc,_,_,q=>by have:=q [] rfl;rw[ahu,ba] at this;exact this
 |x::xs,acc,f,h,q=>by refine h x aH _ λi a e1=>⟨b,by simp at f;omega,?_⟩;rw[e1];refine Hq b xs _ (by simp at f |-;omega) (λy m=>h y (ay _ m)) λis hi=>?_;rw[bt];exact q (i::is) (by rw[bc,bc,hi])
noncomputable def adJ:List aJ:=["a","b","go","in","out","abcdefgh","aa","ab","z","on"]
theorem adK:∀w∈adJ,xB w=aj:=by decide+kernel
theorem adL(x:Int):∃nm,Nm nm/\cutD (adJ.map D.str) am (ae (1+x%10))=nm.map D.str:=by
 obtain⟨k,a⟩:∃k:Nat,1+x%10=(k:Int):=⟨(1+x%10).toNat,by omega⟩;refine⟨adJ.take k,⟨?_,?_,λw hw=>adK w (List.mem_of_mem_take hw)⟩,?_⟩
 .rw[dI];show 1<=min k 10;omega
 .rw[dI];omega
 .rw[a,Wy,List.map_take]
theorem aat(na:(a.map aU).Nodup)(n:(b.map aU).Nodup)(h:∀w,h8 w a=h8 w b)(hw:∀x∈a,xB x.2.1=aj):Sn (kA a) (vA Hi a) (kA b) (vA Hi b):=by
 have o:a.length=b.length:=by have c:=km _ _ na λw hw=>(jX).mp (by rw[<-h];exact jX.mpr hw);have f:=km _ _ n λw hw=>(jX).mp (by rw[h];exact jX.mpr hw);simp at c f;omega
 refine⟨by unfold kA;rw[ar,ar,o],λi k d q hd=>?_⟩;obtain⟨x,j,rfl⟩:=nS q;obtain⟨y,m,rfl⟩:=nS hd;rw[j] at m;cases m;obtain⟨w,p⟩:=x;have hm:=bF j;have g:=afQ (hw _ hm);obtain⟨v,c,f⟩:=um w a (aV.mpr ⟨_,hm,rfl⟩);have:=Bb na f hm;subst this;exact⟨Hi v,by rw[vX,<-h,c];rfl,g.ok g (by decide),g.e⟩
theorem aau(g:QX nm n b):∀x∈E4 b,xB x.2.1=aj:=λx c=>by obtain⟨w,p⟩:=x;have a:=(Jl λw=>rfl).2 w p c;rw[uo] at a;obtain⟨m,e,rfl⟩:=aar a;exact aas g m e
theorem Ra(g:QX nm n a)(s:X8 S (gQ a)):Sn (kA (E4 a)) (vA Hi (E4 a)) (kA (uq S (gQ a))) (vA Hi (uq S (gQ a))):=
 aat (xa _) (by rw[Q1];exact s.nd) (λw=>by rw[Xg s];exact uo _ w) (aau g)
theorem O1(S:List aJ)(ms:List Mk):lu [gD S ms]=aj:=by show(nl _&&aj)=aj;rw[abv];rfl
noncomputable def Jq(S:List aJ)(ms:List Mk):D:=match ltw S ms with
 |none=>.non
 |some n=>.tup [.str n,sl (jH (dd (vZ n ms)))]
def Rb:GP:=λds Q=>∃(S:List aJ) (ms:List Mk),ds=[gD S ms]/\X8 S ms/\si S/\(∀n,si (vZ n ms))/\ms.length<=1000/\Q (Jq S ms)
theorem O2:iM Rb:=by
 rintro ds P Q w ⟨S,ms,h,s,a,b,l,q⟩
 exact⟨S,ms,h,s,a,b,l,w _ q⟩
theorem adM:∀ds Q,Rb ds Q->kq 3 1 vS ds Q:=by
 rintro ds Q ⟨S,ms,h,s,a,b,l,q⟩
 refine TF ds Q ⟨S,ms,h,s,a,b,l,λe=>?_,λn e=>?_⟩
 .unfold Jq at q;rw[e] at q;exact q
 .unfold Jq at q;rw[e] at q;exact q
noncomputable def Ff(c:CA)(a:List Pt)(w:Int):D:=match Ba (gQ a) with
 |none=>Q7 c a w
 |some n=>.tup [.str "twice",twD a n]
def CQ (c:CA):GP:=λds Q=>∃(a:List Pt) (w:Int),ds=[.lst (a.map oN),.int w]/\(w=0\/w=1)/\Af a/\Q (Ff c a w)
theorem Jr:iM (CQ c):=by
 rintro ds P Q w ⟨e,i,h,a,b,q⟩
 exact⟨e,i,h,a,b,w _ q⟩
theorem Xs{PE T f g:aw}(x:XF K PE T f g):∀ds Q,CQ c ds Q->kq 5 2 (ui K PE (sJ c T) (vY c T) T f g) ds Q:=by
 rintro ds Q ⟨i,w,h,a,b,q⟩
 refine aal x ds Q ⟨i,w,h,a,b,λe=>?_,λn e=>?_⟩
 .unfold Ff at q;rw[e] at q;exact q
 .unfold Ff at q;rw[e] at q;exact q
theorem aav(s:X8 S ms):(Ba ms=am->Jq S ms=.non)/\∀n,Ba ms=ae n->Jq S ms=.tup [.str n,sl (Ji ms n)]:=by unfold Jq;rw[adH s];refine⟨λe=>by rw[e],λn e=>?_⟩;rw[e];unfold Ji;rw[(v3 ms n).1,Xo]
theorem TK(nd:(a.map aU).Nodup):mM a.reverse=mM a:=W9 (List.reverse_perm a) nd
theorem aaw(g:QX nm n b):QX nm n b.reverse:=
 ⟨by rw[List.length_reverse];exact g.lo,by rw[List.length_reverse];exact g.hi,λp a=>g.w p (List.mem_reverse.mp a),by rw[List.map_reverse];exact(List.reverse_perm _).nodup_iff.mpr g.nd,λp a=>g.rows p (List.mem_reverse.mp a)⟩
theorem aax(h:grow nm r=aj):grow nm (wkR r)=aj:=by cases r<;>exact h
theorem adN(g:QX nm n c):QX nm n (Mw c):=by
 unfold Mw;refine⟨by rw[ar];exact g.lo,by rw[ar];exact g.hi,λp a=>?_,by rw[bB];exact g.nd,λp a=>?_⟩
 .obtain⟨q,b,rfl⟩:=aV.mp a;exact g.w q b
 .obtain⟨q,b,rfl⟩:=aV.mp a;have r:=g.rows q b;refine⟨λy f=>?_,?_,by rw[ar];exact r.len⟩
  .obtain⟨z,h,rfl⟩:=aV.mp f;exact aax (r.all z h)
  .obtain⟨i,e⟩:=r.end_;exact⟨i.map wkR,by rw[e,bh];rfl⟩
theorem Xt:∀(k:Nat) (rs:List Rw),∀m∈iL n k (rs.map wkR),m.2.1=aq:=by
 intro k rs;induction rs generalizing k with
 |nil=>intro m h;cases h
 |cons r rs a=>
  intro m h;cases r<;>first
   |exact a _ m h
   | (rcases aC.mp h with rfl|h
      .rfl
      .exact a _ m h)
theorem adO(a:List Pt):Ba (gQ (Mw a))=am:=by
 have e:jN (gQ (Mw a))=[]:=eR.mpr λm hm=>by obtain⟨p,b,c⟩:=eC.mp hm;have f:=(iT _).mem_iff.mp b;obtain⟨q,g,rfl⟩:=aV.mp f;rw[Xt 0 q.2 m c];exact aM
 unfold Ba groups;rw[e];rfl
variable {c:CA}
theorem abw(hn:Nm nm)(g:QX nm n a)(s:X8 S (gQ a)):S.length<=10:=by
 have:=km S nm s.nd λw hw=>by obtain⟨m,b,rfl⟩:=s.inn w hw;obtain⟨p,e,f⟩:=eC.mp b;exact rn 0 p.2 (g.rows p ((iT a).mem_iff.mp e)).all m f
 have:=hn.hi;omega
theorem adP(o:List Pt)(n:aJ):(vZ n (gQ o)).Pairwise λa b=>uT a b=aj:=by
 have s:(mM o).Pairwise λa b=>uT a.1 b.1=aj:=by
  have u:∀l:List Pt,(l.map aU).zip l=l.map λp=>(p.1,p):=λl=>by
   induction l with
   |nil=>rfl
   |cons x l g=>rw[aX,cI,g];rfl
  unfold mM ke;rw[u];refine List.pairwise_map.mpr ((L3.pW aU _).imp_of_mem λ{a b} ha e h=>?_);obtain⟨p,_,rfl⟩:=aV.mp ((L3.jS _ _).mem_iff.mp ha);obtain⟨y,_,rfl⟩:=aV.mp ((L3.jS _ _).mem_iff.mp e);exact h
 have gen:∀l:List Pt,(l.Pairwise λa b=>uT a.1 b.1=aj)->((l.flatMap λp=>iL p.1 0 p.2).map λm=>m.2.2.1).Pairwise λa b=>uT a b=aj:=by
  intro l;induction l with
  |nil=>intro _;exact gf
  |cons p l g=>
   intro h;have r:=dk.mp h;rw[fS,bh];refine List.pairwise_append.mpr ⟨?_,g r.2,λa ha b e=>?_⟩
   .refine List.pairwise_of_forall_mem_list λa ha b e=>?_;obtain⟨m,f,rfl⟩:=aV.mp ha;obtain⟨i,j,rfl⟩:=aV.mp e;rw[ql 0 p.2 m f,ql 0 p.2 i j];exact Vr _
   .obtain⟨m,f,rfl⟩:=aV.mp ha;obtain⟨i,j,rfl⟩:=aV.mp e;obtain⟨q,v,w⟩:=eC.mp j;rw[ql 0 p.2 m f,ql 0 q.2 i w];exact r.1 q v
 have f:=gen _ s;exact f.sublist (((fw).trans fw).map _)
theorem aay(h:(gQ a).length<=1000)(n:aJ):si (vZ n (gQ a)):=by
 have l:(vZ n (gQ a)).length<=1000:=by unfold vZ;rw[ar];have b:((jN (gQ a)).filter λm=>decide (m.1=n)).length<=(jN _).length:=cu _ _;have f:(jN _).length<=(gQ a).length:=cu _ _;omega
 by_cases e:(vZ n (gQ a)).length<64
 .exact .inl e
 .exact .inr ⟨by omega,l,adP a n⟩
theorem Xu(h:Ba ms=ae n):n∈(groups ms).map aU:=
 wZ (List.mem_of_find?_eq_some h)
theorem afR(hn:∀w∈nm,xB w=aj)(g:QX nm k a)(h:Ba (gQ a)=ae n):dA n=aj:=by have b:=(v3 _ n).2.mp (Xu h);obtain⟨m,e,rfl⟩:=aV.mp b;obtain⟨p,f,i⟩:=eC.mp (cy.mp e).1;exact adE (hn _ (rn 0 p.2 (g.rows p ((iT a).mem_iff.mp f)).all m i))
theorem afS(ha:dA a=aj)(hn:dA n=aj)(b:L3.pl (sl ss)=aj):
  okE (.tup [.str a,.tup [.str n,sl ss]]) (.tup [.str a,.tup [.str n,sl ss]])/\Dw (.tup [.str a,.tup [.str n,sl ss]]) (.tup [.str a,.tup [.str n,sl ss]])=aj:=by
 have p:=by show(dA a&&((dA n&&(L3.pl (sl ss)&&aj))&&aj))=aj;rw[ha,hn,b];rfl
 have e:dps (ss.map D.str)<=0:=Q4 ss λ_ _=>aD _;have d:=by show max 0 (max (max 0 (max (dps (ss.map D.str)+1) 0)+1) 0)+1<=60;omega
 refine⟨⟨p,p,d,d⟩,?_⟩;show((a==a)&&(((n==n)&&(Dx _ _&&aj))&&aj))=aj;rw[Ma (f:=D.str) ss λx _=>(beq_self_eq_true x),beq_self_eq_true,beq_self_eq_true];rfl
theorem Xv:dA "twice"=aj:=by decide+kernel
def Rc:GP:=λds Q=>∃ns:List Int,ds=[.qH ns]/\Q (.bl aj)
theorem O3:iM Rc:=by
 rintro ds P Q w ⟨ns,h,q⟩
 exact⟨ns,h,w _ q⟩
theorem adQ:∀ds Q,Rc ds Q->kq 12 1 (WY (cl Jm) (cl Ai) (cl Ak) (cl Rb) (cl (CQ c)) (cl Q2) (cl Jp)) ds Q:=by
 rintro ds Q ⟨ns,h,q⟩
 subst h;unfold WY;refine⟨rfl,rfl,ns,0,rfl,λx=>⟨(by decide:(0:Int)<10),?_⟩⟩;refine⟨au rfl,rfl,ns,0,rfl,λy=>⟨⟨by decide,by decide⟩,(by decide:(0:Int)<10),?_⟩⟩;obtain⟨nm,hn,U⟩:=adL (y/10);have x1:=Int.emod_nonneg x (b:=10) (by decide);have x2:=Int.emod_lt_of_pos x (b:=10) (by decide);refine⟨rfl,ns,1,rfl,λH=>⟨au rfl,⟨by omega,by omega⟩,trivial,?_⟩⟩;have Y:(Dv 0 (1+x%10).toNat).length=(1+x%10).toNat:=by unfold Dv;rw[ar,fR]
 refine Hq trivial _ [] (by show 0+(Dv 0 (1+x%10).toNat).length<=_;rw[Y,bJ];exact qk (by omega)) (λz hz Kk hK=>?_) (λis hi=>?_)
 .obtain⟨k,_,rfl⟩:=aV.mp hz;exact⟨rfl,ns,2+k,by rw[show((2+k:Nat):Int)=2+(0+(k:Int)) by omega],λi=>hK i _ rfl⟩
 rw[Y] at hi;refine⟨by show 1+(is.map D.int).length<=aE;rw[ar,hi];exact qk (by omega),?_⟩;refine⟨ahb (FJ.Ej (ns:=H::is)) ((congrArg lu U).trans (FJ.Ek (ns:=nm))),H,is,nm,congrArg (λz=>[D.lst ((H::is).map D.int),.lst z,.int 16]) U,by omega,by omega,hn,λe g=>?_⟩;have E:Af e:=Xl hn.w hn.hi (by decide) g;refine⟨m8 e,nm,e,rfl,g,λS s=>?_⟩;have hS:=abw hn g s;refine⟨O1 _ _,S,_,rfl,s,.inl (by omega),aay E.ml,E.ml,?_⟩;have mr:gQ e.reverse=gQ e:=by unfold gQ;rw[TK g.nd]
 have lr:Af e.reverse:=Xl hn.w hn.hi (by decide) (aaw g);have B:=aav s;refine⟨rfl,_,rfl,au rfl,_,rfl,rfl,?_⟩;have el:[D.lst (e.map oN),D.lst (e.map oN).reverse]=[e,e.reverse].map λf:List Pt=>D.lst (f.map oN):=by rw[aX,aX,ahu,List.map_reverse]
 rw[el];refine iZ (λf:List Pt=>D.lst (f.map oN)) (λa b r M=>∃(s1 s2 s3 I p j m C:Option D),(∀f∈b,f=e\/f=e.reverse)/\M=[]/\r=[ae (.qH ns),s1,s2,s3,ae (.lst (e.map oN)),ae (gD S (gQ e)),ae (Jq S (gQ e)),I,p,j,m,C])
  (λ_ _ _ _ _=>rfl) _ [] _ _ ⟨_,_,_,am,am,am,am,am,λf h=>by simpa using h,rfl,rfl⟩ (λpre f rest r M o N hN=>?_) (λpre r M o=>?_)
 .obtain⟨s1,s2,s3,I,p,j,m,C,u,rfl,rfl⟩:=o;have hq:=u f aH;have lq:Af f:=by rcases hq with rfl|rfl;exact E;exact lr
  have mq:gQ f=gQ e:=by rcases hq with rfl|rfl;rfl;exact mr
  have J:∀w,Ff c f w=match Ba (gQ e) with|none=>Q7 c f w|some n=>.tup [.str "twice",twD e n]:=λw=>by unfold Ff twD;rw[mq]<;>cases Ba (gQ e)<;>rfl
  refine⟨⟨by omega,by omega⟩,trivial,?_⟩;refine(show tF _ _ _ _ ([(0:Int),1].map D.int) _ _ from ?_);refine iZ D.int (λa b r M=>∃(p j m:Option D),(∀w∈b,w=0\/w=1)/\M=[]/\r=[ae (.qH ns),s1,s2,s3,ae (.lst (e.map oN)),ae (gD S (gQ e)),ae (Jq S (gQ e)),ae (.lst (f.map oN)),p,j,m,C])
   (λ_ _ _ _ _=>trivial) _ [] _ _ ⟨p,j,m,λw h=>by simpa using h,rfl,rfl⟩ (λAl w ahj r M o N' Xd=>?_) (λAl r M o=>?_)
  .obtain⟨p,j,m,A,rfl,rfl⟩:=o;have hw:=A w aH;refine⟨?_,f,w,rfl,hw,lq,?_⟩
   .show(lu (f.map oN)&&(aj&&aj))=aj;rw[nJ];rfl
   have nx:∀j m:Option D,N' [ae (.qH ns),s1,s2,s3,ae (.lst (e.map oN)),ae (gD S (gQ e)),ae (Jq S (gQ e)),ae (.lst (f.map oN)),ae (.int w),j,m,C] []:=λj m=>Xd _ _ ⟨_,_,_,λv L=>A v (ay _ L),rfl,rfl⟩;rw[J];cases ht:Ba (gQ e) with
   |none=>
    have O:=B.1 ht;rw[O] at nx |-;refine⟨rfl,rfl,?_⟩;rcases hw with rfl|rfl
    .refine⟨O1 _ _,S,_,rfl,s,by omega,?_,nx _ _⟩;have o:E4 f=E4 e:=by unfold E4;rw[mq]
     rw[o];exact Ra g s
    .exact nx _ _
   |some n=>
    have O:=B.2 n ht;rw[O] at nx |-;refine⟨rfl,rfl,?_⟩;have ok:=afS (a:="twice") Xv (afR hn.w g ht) (E.tx.Ts n (Xu ht)).2.2.2.1;refine⟨by show 2<=aE;exact qk (by omega),by show 2<=aE;exact qk (by omega),ok.1,?_⟩;have e2:Dw (vw [] (.tup [.str "twice",twD e n])) (vw [] (.tup [.str "twice",.tup [.str n,sl (Ji (gQ e) n)]]))=aj:=ok.2;refine(show(if(!Dw (vw [] (.tup [.str "twice",twD e n])) (vw [] (.tup [.str "twice",.tup [.str n,sl (Ji (gQ e) n)]])))=aj then _ else _) from ?_);rw[e2];exact nx _ _
  .obtain⟨p,j,m,A,rfl,rfl⟩:=o;exact hN _ _ ⟨_,_,_,_,_,_,_,_,λv L=>u v (ay _ L),rfl,rfl⟩
 .obtain⟨s1,s2,s3,I,p,j,m,C,u,rfl,rfl⟩:=o;have G:=adN g;have lw:Af (Mw e):=Xl hn.w hn.hi (by decide) G;refine⟨m8 e,nm,e,rfl,g,?_⟩;refine⟨?_,Mw e,0,rfl,.inl rfl,lw,?_⟩
  .show(lu ((Mw e).map oN)&&(aj&&aj))=aj;rw[nJ];rfl
  have J:Ff c (Mw e) 0=Q7 c (Mw e) 0:=by unfold Ff;rw[adO]
  rw[J];refine⟨m8 _,nm,_,rfl,G,λS' T=>?_⟩;refine⟨O1 _ _,S',_,rfl,T,?_,?_⟩
  .have:=abw hn G T;omega
  refine⟨by show 2<=aE;exact qk (by omega),⟨⟨by decide+kernel,by decide+kernel,by decide+kernel,by decide+kernel⟩,rfl⟩,⟨_,_,_,_,rfl,rfl,Ra G T⟩,rfl,q⟩
end qz
namespace qz
open PySem PySem.Spec L2 L3 FJ
structure RB(K:bz)(C fI fW fA fG:aw):Prop where
 c:CF K C
 nT:dr K (.ref C) "told"=ae am
 aI:dr K (.ref C) "__init__"=ae (ae (.ref fI))
 aW:dr K (.ref C) "words"=ae (ae (.ref fW))
 aA:dr K (.ref C) "asked"=ae (ae (.ref fA))
 aG:dr K (.ref C) "goes_on"=ae (ae (.ref fG))
theorem all_mk{l:W.OpenLaw}{w:bw}{K:bz}{h:av}{mg:aJ->Option ai}{fa:aw}(X:K.In h)(G:h.Ns aZ mg)(hfa:mg "law"=ae (.ref fa))
{i z N O T U Y yr p u cF nL x Fh O7 Xw:aw}{B I fA fG Fi Xx Rf Rg Xy abx:aw}{t0 t1 t2 t3 t4 t5 t6 t7 t8:akx}
(v5:dy K aZ "MarkRow"=ae (ae (.ref i)))
(BZ:dy K aZ "CodeRow"=ae (ae (.ref z)))
(O8:dy K aZ "BoxRow"=ae (ae (.ref N)))
(Fj:dy K aZ "LastRow"=ae (ae (.ref O)))
(O9:dy K aZ "SetRow"=ae (ae (.ref T)))
(yt:dy K aZ "AlikeRow"=ae (ae (.ref U)))
(Pb:dy K aZ "AimRow"=ae (ae (.ref Y)))
(yu:dy K aZ "LeaveRow"=ae (ae (.ref yr)))
(oG:dy K aZ "NumbersRow"=ae (ae (.ref p)))
(v6:dy K aZ "TableRow"=ae (ae (.ref u)))
(Fk:dy K aZ "FORMS"=ae (ae (.ref cF)))
(nM:dy K aZ "PartError"=ae (ae (.ref nL)))
(Bd:dy K aZ "Twice"=ae (ae (.ref x)))
(v7:dy K aZ "Lacking"=ae (ae (.ref Fh)))
(Fl:dy K aZ "NoEnd"=ae (ae (.ref O7)))
(B0:RB K i B I fA fG)
(Mf:RB K N B I fA Fi)
(B1:RB K O B I fA Xx)
(Mg:RB K T B I fA Fi)
(v8:RB K U B I Rg Fi)
(Mh:RB K Y B I Xy Fi)
(v9:RB K yr B I Xy Rf)
(oH:RB K p B I fA fG)
(wa:RB K u B I abx fG)
(aaz:MF K "__init__" "Row.__init__" p9 B)
(Xz:MF K "words" "Row.words" oA I)
(Be:MF K "asked" "Row.asked" oB fA)
(Js:MF K "goes_on" "Row.goes_on" l9 fG)
(lg:MF K "goes_on" "CodeRow.goes_on" jV Fi)
(wb:MF K "goes_on" "LastRow.goes_on" jW Xx)
(sL:MF K "goes_on" "LeaveRow.goes_on" jI Rf)
(sM:MF K "asked" "AlikeRow.asked" ki Rg)
(ur:MF K "asked" "AimRow.asked" k9 Xy)
(Am:MF K "asked" "TableRow.asked" kj abx)
(tb:AD K cF abp)
(lh:dy K aZ "LONGEST_WORD"=ae (ae (.int (8) t0)))
(ln:dy K aZ "LONGEST_LIST"=ae (ae (.int (60) t1)))
(qm:dy K aZ "LAST_BOX"=ae (ae (.int (3) t2)))
(lp:dy K aZ "LEAST_NUMBER"=ae (ae (.int (-2147483648) t3)))
(jY:dy K aZ "GREATEST_NUMBER"=ae (ae (.int (2147483647) t4)))
(jr:dy K aZ "MOST_ROWS_OF_PART"=ae (ae (.int (60) t5)))
(ng:dy K aZ "MOST_PARTS"=ae (ae (.int (12) t6)))
(oI:dy K aZ "MOST_ROWS"=ae (ae (.int (200) t7)))
(nh:dy K aZ "MOST_MARKS"=ae (ae (.int (200) t8)))
(nj:dy K aZ "isinstance"=ae am)
(Mi:dy K aZ "int"=ae am)
(Fm:dy K aZ "bool"=ae am)
(Mj:dy K aZ "str"=ae am)
(Ml:dy K aZ "len"=ae am)
(Mm:dy K aZ "all"=ae am)
(An:dy K aZ "tuple"=ae am)
(Fn:dy K aZ "list"=ae am)
(Mn:dy K aZ "zip"=ae am)
(Mo:dy K aZ "set"=ae am)
(Mp:dy K aZ "sum"=ae am)
(oJ:dy K aZ "enumerate"=ae am)
(wg:dy K aZ "sorted"=ae am)
(Fo:dy K aZ "dict"=ae am)
(Ao:dy K aZ "range"=ae am)
(yv:hG K mg "is_whole" tZ)
(Bf:hG K mg "is_word" wS)
(pH:hG K mg "is_list_of" pD)
(Jt:hG K mg "fits" IN)
(Fp:hG K mg "is_row" zR)
(yw:hG K mg "code_row" ua)
(Fq:hG K mg "row_of" zS)
(nN:hG K mg "counts_as_mark" lM)
(rO:hG K mg "marks_among" nY)
(qo:hG K mg "others_among" mY)
(Bg:hG K mg "is_part" wT)
(wj:hG K mg "are_parts" qU)
(Bh:hG K mg "rows_of" wU)
(nq:hG K mg "first_but_marks" kW)
(mE:hG K mg "look_behind_rows" kE)
(wl:hG K mg "looked_at" qW)
(Bi:hG K mg "by_name" wV)
(oX:hG K mg "marks_of_part" mh)
(yx:hG K mg "marks_in" uc)
(qp:hG K mg "strong_parts" mZ)
(nO:hG K mg "look_for_twice" lN)
(wm:hG K mg "places_in" qY)
(Fs:hG K mg "stands" zX)
(oY:hG K mg "without_marks" mj)
(wn:hG K mg "bare_rows" qZ)
(yy:hG K mg "at_place" ud)
(ut:hG K mg "may_aim_at" pF)
(qr:hG K mg "look_at_aims" m5)
(Ft:hG K mg "let_by" zZ)
(Ju:hG K mg "bound" CL)
(qt:hG K mg "_law_cell_at" nZ)
(uu:hG K mg "_law_mixed" re)
(uv:hG K mg "_law_parts" rf)
(rP:hG K mg "_law_marked" pG)
(lX:hG K mg "_law_marked_parts" kF)
(uw:hG K mg "_law_marks" rg)
(ux:hG K mg "_law_twice" ri)
(yz:hG K mg "_law_due" wW)
(wo:hG K mg "_law_told" uh)
(wq:hG K mg "_law_weak" uj)
(XC:hG K mg "law" WX)
(yA:dt K (.ref i) (.ref i)=ae aj)
(Bj:dt K (.ref N) (.ref i)=ae aq)
(yB:dt K (.ref O) (.ref i)=ae aq)
(Bk:dt K (.ref T) (.ref i)=ae aq)
(wt:dt K (.ref U) (.ref i)=ae aq)
(Bl:dt K (.ref Y) (.ref i)=ae aq)
(wu:dt K (.ref yr) (.ref i)=ae aq)
(rQ:dt K (.ref p) (.ref i)=ae aq)
(wv:dt K (.ref u) (.ref i)=ae aq)
(yC:dt K (.ref i) (.ref z)=ae aq)
(Bm:dt K (.ref N) (.ref z)=ae aj)
(yD:dt K (.ref O) (.ref z)=ae aj)
(Bn:dt K (.ref T) (.ref z)=ae aj)
(ww:dt K (.ref U) (.ref z)=ae aj)
(Bo:dt K (.ref Y) (.ref z)=ae aj)
(wx:dt K (.ref yr) (.ref z)=ae aj)
(rR:dt K (.ref p) (.ref z)=ae aq)
(wy:dt K (.ref u) (.ref z)=ae aq)
(rS:dt K (.ref i) (.ref p)=ae aq)
(uy:dt K (.ref N) (.ref p)=ae aq)
(rV:dt K (.ref O) (.ref p)=ae aq)
(uz:dt K (.ref T) (.ref p)=ae aq)
(qu:dt K (.ref U) (.ref p)=ae aq)
(uA:dt K (.ref Y) (.ref p)=ae aq)
(qv:dt K (.ref yr) (.ref p)=ae aq)
(nQ:dt K (.ref p) (.ref p)=ae aj)
(qw:dt K (.ref u) (.ref p)=ae aq)
(wz:dt K (.ref i) (.ref u)=ae aq)
(yE:dt K (.ref N) (.ref u)=ae aq)
(wA:dt K (.ref O) (.ref u)=ae aq)
(yF:dt K (.ref T) (.ref u)=ae aq)
(uB:dt K (.ref U) (.ref u)=ae aq)
(yG:dt K (.ref Y) (.ref u)=ae aq)
(uC:dt K (.ref yr) (.ref u)=ae aq)
(qx:dt K (.ref p) (.ref u)=ae aq)
(uD:dt K (.ref u) (.ref u)=ae aj)
(adR:dt K (.type "NoneType") (.ref z)=ae aq)
(yH:SO K nL nL)
(yI:SO K x nL)
(Jv:ExI K x Xw "Twice.__init__" mW)
(xb:Qr K nL)
(ro:dr K (.ref x) "name"=ae am)
(pI:dr K (.ref x) "parts"=ae am)
(uE:dt K (.ref x) (.ref x)=ae aj)
(qy:dt K (.ref x) (.ref Fh)=ae aq)
(uF:dt K (.ref x) (.ref O7)=ae aq)
  :∃fd:dY,(∀(s:ao) (v:ai),aiP s fd ⟨[v],[]⟩ [("_law_script",v)])/\∀cv:av,DZ K mg cv->jR l.prog w K mg cv rF 12 fa fd ["_law_script"] (lY K (cl Rc)):=by
 obtain⟨f,fd,F,m⟩:=id XC;have e:=hfa.symm.trans m;cases e;have nj:=ec X G nj;have Mi:=ec X G Mi;have Fm:=ec X G Fm;have Mj:=ec X G Mj;have Ml:=ec X G Ml;have Mm:=ec X G Mm;have An:=ec X G An;have Fn:=ec X G Fn;have Mn:=ec X G Mn;have Mo:=ec X G Mo;have Mp:=ec X G Mp;have oJ:=ec X G oJ;have wg:=ec X G wg;have Fo:=ec X G Fo;have Ao:=ec X G Ao;have lh:∃t,mg "LONGEST_WORD"=ae (.int (8) t):=⟨_,dV X G lh⟩;have ln:∃t,mg "LONGEST_LIST"=ae (.int (60) t):=⟨_,dV X G ln⟩;have qm:∃t,mg "LAST_BOX"=ae (.int (3) t):=⟨_,dV X G qm⟩;have lp:∃t,mg "LEAST_NUMBER"=ae (.int (-2147483648) t):=⟨_,dV X G lp⟩;have jY:∃t,mg "GREATEST_NUMBER"=ae (.int (2147483647) t):=⟨_,dV X G jY⟩;have jr:∃t,mg "MOST_ROWS_OF_PART"=ae (.int (60) t):=⟨_,dV X G jr⟩;have ng:∃t,mg "MOST_PARTS"=ae (.int (12) t):=⟨_,dV X G ng⟩;have oI:∃t,mg "MOST_ROWS"=ae (.int (200) t):=⟨_,dV X G oI⟩;have nh:∃t,mg "MOST_MARKS"=ae (.int (200) t):=⟨_,dV X G nh⟩;have v5:=dV X G v5;have BZ:=dV X G BZ;have O8:=dV X G O8;have Fj:=dV X G Fj;have O9:=dV X G O9;have yt:=dV X G yt;have Pb:=dV X G Pb;have yu:=dV X G yu;have oG:=dV X G oG;have v6:=dV X G v6;have Fk:=dV X G Fk;have nM:=dV X G nM;have Bd:=dV X G Bd;have v7:=dV X G v7;have Fl:=dV X G Fl;have Z:Zs mg:=⟨nj,Mi,Fm,Mj,Ml,Mm,An,Fn,Mn,Mo,Mp,oJ,wg,Fo,Ao,lh,ln,qm,lp,jY,jr,ng,oI,nh⟩;refine⟨fd,F.acl λ_ _ _ _ _ _ _=>rfl,λcv TB=>?_⟩;have xf:XF K nL x Fh O7:=⟨yI.sub yH,yI.get,ro,pI,uE,qy,uF⟩;obtain⟨fdT,FT⟩:=Jv.ex;have rT:∀j,Ec l.prog w K mg cv (j+1) "Twice" x "name" "parts":=λj=>⟨Bd,Xw,fdT,_,yI.mk_ Jv,FN FT,IH (k:=j) FT xb nM Z yI.cls yI.obj ro pI⟩;obtain⟨c,a⟩:∃c:CA,c=CA.mk i i z i N O T U Y yr p u:=⟨_,rfl⟩;have cf:∀k,CF K (c.at k):=λk=>by subst a;cases k<;>first|exact B0.c|exact Mf.c|exact B1.c|exact Mg.c|exact v8.c|exact Mh.c|exact v9.c|exact oH.c|exact wa.c
 have nT:∀k,dr K (.ref (c.at k)) "told"=ae am:=λk=>by subst a;cases k<;>first|exact B0.nT|exact Mf.nT|exact B1.nT|exact Mg.nT|exact v8.nT|exact Mh.nT|exact v9.nT|exact oH.nT|exact wa.nT
 have fo:∀k,Gx K (c.at k) "told":=λk=>⟨(cf k).cls,nT k⟩;have aI:∀k,dr K (.ref (c.at k)) "__init__"=ae (ae (.ref B)):=λk=>by subst a;cases k<;>first|exact B0.aI|exact Mf.aI|exact B1.aI|exact Mg.aI|exact v8.aI|exact Mh.aI|exact v9.aI|exact oH.aI|exact wa.aI
 have aW:∀k,dr K (.ref (c.at k)) "words"=ae (ae (.ref I)):=λk=>by subst a;cases k<;>first|exact B0.aW|exact Mf.aW|exact B1.aW|exact Mg.aW|exact v8.aW|exact Mh.aW|exact v9.aW|exact oH.aW|exact wa.aW
 have y:FOk K c:=⟨λr=>fo r.kn⟩;have ko:W1 K c:=⟨λk=>(cf k).afB,λk=>by subst a;cases k<;>first|exact yA|exact Bj|exact yB|exact Bk|exact wt|exact Bl|exact wu|exact rQ|exact wv,λk=>by subst a;cases k<;>first|exact yC|exact Bm|exact yD|exact Bn|exact ww|exact Bo|exact wx|exact rR|exact wy,λk=>by subst a;cases k<;>first|exact rS|exact uy|exact rV|exact uz|exact qu|exact uA|exact qv|exact nQ|exact qw,λk=>by subst a;cases k<;>first|exact wz|exact yE|exact wA|exact yF|exact uB|exact yG|exact uC|exact qx|exact uD,by subst a;exact adR⟩;have v5:mg "MarkRow"=ae (.ref c.Mark):=by subst a;exact v5
 have BZ:mg "CodeRow"=ae (.ref c.Code):=by subst a;exact BZ
 have O8:mg "BoxRow"=ae (.ref c.Wr):=by subst a;exact O8
 have Fj:mg "LastRow"=ae (.ref c.Last):=by subst a;exact Fj
 have O9:mg "SetRow"=ae (.ref c.Set):=by subst a;exact O9
 have yt:mg "AlikeRow"=ae (.ref c.Alike):=by subst a;exact yt
 have Pb:mg "AimRow"=ae (.ref c.Ws):=by subst a;exact Pb
 have yu:mg "LeaveRow"=ae (.ref c.Leave):=by subst a;exact yu
 have oG:mg "NumbersRow"=ae (.ref c.j6):=by subst a;exact oG
 have v6:mg "TableRow"=ae (.ref c.Table):=by subst a;exact v6
 have XG:∀j,iu l.prog w K mg cv (j+1) "is_whole" ["thing"] (cl nE):=λj=>lU (N7 yv Z) Cc (K8 K);have XH:∀j,iu l.prog w K mg cv (j+1) "is_word" ["thing"] (cl nF):=λj=>lU (SX Bf Z) Ei (N3 K);have adS:iu l.prog w K mg cv 2 "fits" ["form","thing"] (cl CI):=lU (WC (lJ:=λ_ _ _=>False) Jt Z (XH 0) (XG 0) (aeP 1 pH (λ_ _ _ _ _ _ us hl=>match us,hl with|[_,_],_=>rfl))) Iy (Wq K _);have hIl:iu l.prog w K mg cv 3 "is_list_of" ["form","thing"] (cl ZV):=lU (IM pH Z adS) SQ (afx K);have afT:iu l.prog w K mg cv 4 "fits" ["form","thing"] (cl AR):=lU (WC Jt Z (XH 2) (XG 2) hIl) Lc (ZW K);have afU:iu l.prog w K mg cv 5 "is_row" ["thing"] (bor zA):=hasB (WE Fp Z Fk tb afT) FK (SR K _);obtain⟨_,afV⟩:=aaz.ex;obtain⟨_,afW⟩:=Xz.ex;obtain⟨_,J⟩:=Be.ex;obtain⟨_,TL⟩:=Js.ex;obtain⟨_,L⟩:=lg.ex;obtain⟨_,Mq⟩:=wb.ex;obtain⟨_,Hr⟩:=sL.ex;obtain⟨_,Hs⟩:=sM.ex;obtain⟨_,CS⟩:=ur.ex;obtain⟨_,Rh⟩:=Am.ex;have b:∀j k,oR l.prog w K mg cv (j+1) (c.at k) (nG K):=λj k=>aeR ⟨(cf k).mks,aI k,aaz.fn,(cf k).kc⟩ (Lk afV) (Oa afV) Ld ZX;have afX:iu l.prog w K mg cv 5 "code_row" ["told"] (cl (p6 c)):=lU (Od (k:=3) yw O9 (b 2 .Set) yt (b 2 .Alike) Fj (b 2 .Last) yu (b 2 .Leave) Pb (b 2 .Ws) O8 (b 2 .Wr)) Cd (Lf y);have adT:iu l.prog w K mg cv 6 "row_of" ["thing"] (zB c):=aeQ (WN (k:=4) Fq Z afU v5 (b 3 .Mark) oG (b 3 .j6) v6 (b 3 .Table) afX) FL (SS y);have Pc:∀j C g,jU c C "words" g->pU l.prog w K mg cv (j+1) C "words" g:=by
  rintro j C g ⟨k,rfl,rfl⟩
  exact methP (cf k).cls ⟨aW k,Xz.fn,Xz.kp⟩ (IJ afW) (Lm afW Z) IB (Wu y k)
 have adU:∀j C g,tV c C "asked" g->pU l.prog w K mg cv (j+1) C "asked" g:=by
  rintro j C g ⟨k,rfl,rfl⟩
  have cl:=(cf k).cls;cases k;case Mark=>exact zD cl ⟨by subst a;exact B0.aA,Be.fn,Be.kp⟩ (mX J) (oC J) jw (mU (by simp))
  case Wr=>exact zD cl ⟨by subst a;exact Mf.aA,Be.fn,Be.kp⟩ (mX J) (oC J) jw (mU (by simp))
  case Last=>exact zD cl ⟨by subst a;exact B1.aA,Be.fn,Be.kp⟩ (mX J) (oC J) jw (mU (by simp))
  case Set=>exact zD cl ⟨by subst a;exact Mg.aA,Be.fn,Be.kp⟩ (mX J) (oC J) jw (mU (by simp))
  case j6=>exact zD cl ⟨by subst a;exact oH.aA,Be.fn,Be.kp⟩ (mX J) (oC J) jw (mU (by simp))
  case Alike=>exact zD cl ⟨by subst a;exact v8.aA,sM.fn,sM.kp⟩ (zN Hs) (AV Hs Z) jw (El y rfl)
  case Ws=>exact zD cl ⟨by subst a;exact Mh.aA,ur.fn,ur.kp⟩ (uL CS) (vF CS) jw (zC y (.inl rfl))
  case Leave=>exact zD cl ⟨by subst a;exact v9.aA,ur.fn,ur.kp⟩ (uL CS) (vF CS) jw (zC y (.inr rfl))
  case Table=>exact zD cl ⟨by subst a;exact wa.aA,Am.fn,Am.kp⟩ (zP Rh) (AX Rh Z) jw (Em y rfl)
 have afY:∀j C g,Wv c C "goes_on" g->pU l.prog w K mg cv (j+1) C "goes_on" g:=by
  rintro j C g ⟨k,rfl,rfl⟩
  have cl:=(cf k).cls;cases k;case Mark=>exact methP cl ⟨by subst a;exact B0.aG,Js.fn,Js.kp⟩ (qc TL) (rL TL) jT (Lg (by simp))
  case j6=>exact methP cl ⟨by subst a;exact oH.aG,Js.fn,Js.kp⟩ (qc TL) (rL TL) jT (Lg (by simp))
  case Table=>exact methP cl ⟨by subst a;exact wa.aG,Js.fn,Js.kp⟩ (qc TL) (rL TL) jT (Lg (by simp))
  case Last=>exact methP cl ⟨by subst a;exact B1.aG,wb.fn,wb.kp⟩ (yd Mq) (zL Mq) jT (Lg (by simp))
  case Leave=>exact methP cl ⟨by subst a;exact v9.aG,sL.fn,sL.kp⟩ (xp Hr) (yf Hr) jT (Lg (by simp))
  case Wr=>exact methP cl ⟨by subst a;exact Mf.aG,lg.fn,lg.kp⟩ (kC L) (kU L) jT (QC (by simp))
  case Set=>exact methP cl ⟨by subst a;exact Mg.aG,lg.fn,lg.kp⟩ (kC L) (kU L) jT (QC (by simp))
  case Alike=>exact methP cl ⟨by subst a;exact v8.aG,lg.fn,lg.kp⟩ (kC L) (kU L) jT (QC (by simp))
  case Ws=>exact methP cl ⟨by subst a;exact Mh.aG,lg.fn,lg.kp⟩ (kC L) (kU L) jT (QC (by simp))
 have aaA:∀j,iu l.prog w K mg cv (j+1) "counts_as_mark" ["thing"] (cl z8):=λj=>lU (A0 nN Z) FX (Tk K);have XI:∀j,iu l.prog w K mg cv (j+2) "marks_among" ["things"] (cl Aa):=λj=>lU (FU rO Z (aaA j)) Jb WZ;have Ri:∀j,iu l.prog w K mg cv (j+3) "others_among" ["things"] (cl vT):=λj=>lU (EF qo Z (XI j)) FY Tn;have aaB:∀j,iu l.prog w K mg cv (j+4) "is_part" ["thing"] (cl wX):=λj=>lU (S8 Bg Z (XH (j+2)) (Ri j)) EV (OE K);have ahc:∀j,iu l.prog w K mg cv (j+5) "are_parts" ["thing"] (cl QL):=λj=>lU (Lq wj Z (aaB j) (Ri (j+1)) (XI (j+2))) OH (adr K);have aaC:iu l.prog w K mg cv 7 "rows_of" ["name","things"] (cl (wY c)):=lU (Tc Bh Z adT) EY OI;have adV:∀j,iu l.prog w K mg cv (j+1) "first_but_marks" ["rows"] (cl (CN c)):=λj=>lU (zV nq Z v5) Jc (W2 ko);have aaD:∀j,iu l.prog w K mg cv (j+2) "look_behind_rows" ["name","rows"] (cl (oh c)):=λj=>lU (yi mE Z (adV j) (afY j) BZ v5) yo (EZ ko);have Rj:iu l.prog w K mg cv 8 "looked_at" ["parts"] (cl (vW c)):=lU (Ls wl (ahc 2) aaC (aaD 5)) F0 Tp;have Rl:∀j,iu l.prog w K mg cv (j+5) "by_name" ["parts"] (cl (sH c)):=λj=>lU (Tf Bi TB Z) E1 OJ;have XJ:∀j,iu l.prog w K mg cv (j+2) "marks_of_part" ["part","rows"] (cl (uk c)):=λj=>lU (Ch oX Z v5 (Pc j)) Cn (LU ko);have XM:∀j,iu l.prog w K mg cv (j+6) "marks_in" ["told"] (cl (ul c)):=λj=>lU (Ot yx (Rl j) (XJ (j+3))) Co LV;have aaE:∀j,iu l.prog w K mg cv (j+1) "strong_parts" ["marks"] w8:=λj=>aeQ (EI qp) E5 OS;have adW:∀j,sr l.prog w K mg cv (j+3) "look_for_twice" ["marks"] (QU x):=λj=>K3 (A5 (k:=j+1) nO Z (aaE (j+1)) (rT j)) OT ady;have Rm:∀j,sr l.prog w K mg cv (j+7) "places_in" ["told"] (sI c x):=λj=>K3 (Lw wm (XM j) (adW (j+3))) E6 OU;have aaF:sr l.prog w K mg cv 10 "stands" ["parts"] (sJ c x):=K3 (WR (k:=9) Fs (Rm 2) (Rj.up (by decide))) E7 OV;have XN:∀j,iu l.prog w K mg cv (j+1) "without_marks" ["rows"] (cl (w5 c)):=λj=>lU (Ck oY Z v5) E3 (OO ko);have afZ:∀j,iu l.prog w K mg cv (j+6) "bare_rows" ["told"] (cl (Jf c)):=λj=>lU (LA wn Z (Rl j) (XN (j+4))) LW aae;have hAt:∀j,iu l.prog w K mg cv (j+1) "at_place" ["lists","place"] (cl (aaf c)):=λj=>lU (Ow yy) Tq afI;have ahd:∀j,iu l.prog w K mg cv (j+2) "may_aim_at" ["row","aim"] (cl (QN c)):=λj=>lU (IU ut Z (Pc j) oG v6 BZ) OQ (adw ko);have af0:∀j,iu l.prog w K mg cv (j+3) "look_at_aims" ["part","bare","places"] (cl (Jh c)):=λj=>lU (EM qr Z (adU (j+1)) (ahd j) (hAt (j+1))) LX aag;have ahe:sr l.prog w K mg cv 9 "let_by" ["parts"] (w9 c x):=K3 (WU (k:=8) Ft Rj (Rm 1) (afZ 2) (af0 5)) E8 OW;have adX:sr l.prog w K mg cv 10 "bound" ["parts"] (vY c x):=K3 (Z6 (k:=9) Ju ahe (Pc 8)) F3 Tt;have af1:iu l.prog w K mg cv 11 "_law_cell_at" ["_law_script","_law_k"] (cl Jm):=lU (FW qt Z) L6 aaj;have adY:∀j,iu l.prog w K mg cv (j+1) "_law_mixed" ["_law_cell","_law_k"] (cl wM):=λj=>lU (LG uu) IC Ww;have XO:∀j,iu l.prog w K mg cv (j+2) "_law_parts" ["_law_cell","_law_sizes"] (cl Ag):=λj=>lU (LI uv Z (adY j)) Jn Xc;have aaG:∀j,iu l.prog w K mg cv (j+3) "_law_marked" ["_law_cell","_law_names","_law_most"] (cl Ah):=λj=>lU (IY rP Z (XO j)) F4 Tu;have aaH:iu l.prog w K mg cv 11 "_law_marked_parts" ["_law_cells","_law_names","_law_most"] (cl Ai):=lU (yl lX Z (XO 8) (aaG 7)) F5 Tw;have ahf:iu l.prog w K mg cv 11 "_law_marks" ["_law_parts_here"] (cl Ak):=lU (LL uw Z) F6 Tx;have hTw:iu l.prog w K mg cv 11 "_law_twice" ["_law_marks_here"] (cl Rb):=lU (LN ux Z) O2 adM;have af2:iu l.prog w K mg cv 11 "_law_told" ["_law_parts_here","_law_way"] (cl (CQ c)):=lU (Oz (k:=10) wo Z nM aaF adX Bd v7 Fl) Jr (Xs xf);have ahg:iu l.prog w K mg cv 11 "_law_due" ["_law_marks_here"] (cl Q2):=lU (Ti yz) OZ adD;have af3:iu l.prog w K mg cv 11 "_law_weak" ["_law_parts_here"] (cl Jp):=lU (OB wq) Me aaq;have hL:=R4 F abq.2 LP.2 oW (λip A cP s H E hr=>afD (P:=l.prog) (w:=w) (cv:=cv) (k:=11) Z af1 aaH ahf hTw af2 ahg af3 fa ip A cP s H E hr);exact hL.imp λvs H Q E ⟨F,α,M,ds,o,r,n,q⟩=>⟨F,α,M,ds,o,r,n,adQ _ _ q⟩
end qz
open PySem PySem.W PyProof.Rows
local macro_rules | `(tactic| walk_at "d") => `(tactic| (refine' L2.UL (by assumption) (by assumption) ?a ?l ?c ?k; (case a => k_is); (case l => k_is); (case c => k_is); (case k => k_is)))
local macro_rules | `(tactic| walk_at "g") => `(tactic| (refine' FJ.afC ?l ?c ?k ?i; (case l => k_is); (case c => k_is); (case k => k_is); (case i => k_is)))
local macro_rules | `(tactic| walk_at "h") => `(tactic| (refine' ⟨⟨?a1, ?a2, ?a3, ?a4, ?a5, ?a6, ?a7, ?a8, ?a9, ?a10⟩, ?b1, ?b2, ?b3, ?b4, ?b5⟩; (case a1 => k_is); (case a2 => k_is); (case a3 => k_is); (case a4 => k_is); (case a5 => k_is); (case a6 => k_is); (case a7 => k_is); (case a8 => k_is); (case a9 => k_is); (case a10 => k_is); (case b1 => k_is); (case b2 => k_is); (case b3 => k_is); (case b4 => k_is); (case b5 => k_is)))
local macro_rules | `(tactic| walk_at "l") => `(tactic| (refine KTD.Rows.cons rfl ?_ ?_; focus (refine' FJ.adl ?va ?vb ?vc ?vd ?ve; (case va => k_is); (case vb => rfl); (case vc => rfl); (case vd => exact au rfl); (case ve => (repeat (first | exact FJ.Wz | refine FJ.SV ?_))))))
local macro_rules | `(tactic| walk_at "e") => `(tactic| first | k_is | kernel_rfl | rfl)
local macro_rules | `(tactic| walk_at "j") => `(tactic| (refine' ⟨?e1, ?e2, ?e3, ?e4, ?e5, ?e6, ?e7, ?e8, ?e9, ?e10, ?e11, ?e12, ?xx, ?e14, L3.ade ?e15 ?e16 ?e17 ?e18⟩; (case e1 => walk_at "e"); (case e2 => unfold L2.KY; kernel_rfl); (case e3 => walk_at "e"); (case e4 => walk_at "e"); (case e5 => walk_at "e"); (case e6 => walk_at "e"); (case e7 => walk_at "e"); (case e8 => walk_at "e"); (case e9 => walk_at "e"); (case e10 => walk_at "e"); (case e11 => walk_at "e"); (case e12 => walk_at "e"); (case xx => walk_at "e"); (case e14 => walk_at "e"); (case e15 => k_is); (case e16 => walk_at "e"); (case e17 => first | rfl | kernel_rfl | k_is); (case e18 => first | rfl | kernel_rfl | k_is)))
local macro_rules | `(tactic| walk_at "k") => `(tactic| (refine' L3.adf ?e1 ?e2 ?e3 ?e4 ?e5; (case e1 => k_is); (case e2 => k_is); (case e3 => k_is); (case e4 => k_is); (case e5 => k_is)))
namespace PySem.W.Fast
def tw5445372695245690912:=0
def tw12756928075576951745:=0
def tw9111851557221260420:=0
def tw8977606857113650309:=0
def tw2050874066713836933:=0
def tw13317919283160477541:=0
def tw11063409406147083141:=0
def tw8844225007442907144:=0
def tw8057823623113708201:=0
def tw6197631103186798955:=0
def tw3824180922050047980:=0
def tw15920615647881065421:=0
def tw5812959812332166542:=0
def tw9715629733000382030:=0
def tw17807893827925509167:=0
def tw12824359387883224591:=0
def tw13003477477227305616:=0
def tw4472581818175159730:=0
def tw17738679335076229911:=0
def tw7452108504925491128:=0
def tw7987246644548304923:=0
def tw5187636108716651899:=0
def tw7556927757795784059:=0
def tw9604290151967495675:=0
def tw537360751362008795:=0
def tw16390898821005316252:=0
def tw10197042304024460124:=0
def tw4656503355202553535:=0
def tw9429667435918082857:=0
def tw15130946211348529486:=0
def tw641765758683773073:=0
def tw14858735081536989629:=0
def tw16803171869850148670:=0
def tw16513256992857295273:=0
def tw12587142744836247843:=0
def tw14780977034610170438:=0
def tw16939446142025542806:=0
def tw13438058756072243986:=0
def tw16975671940024714436:=0
def tw5295030059886469346:=0
def tw7805096050691527595:=0
def tw8726891711023718944:=0
def tw12003801624670935954:=0
def tw5106802707289395555:=0
def tw8104949705321435767:=0
def tw14407634876774320326:=0
def tw7478804574863866457:=0
def tw5798767059378245629:=0
def tw4934945552045758546:=0
def tw4029016426011653472:=0
def tw3872604136963078686:=0
def tw12138247824746484478:=0
def tw14969696084569011409:=0
def tw11922802440323259988:=0
def tw12245655625848192704:=0
def tw6885025516540213790:=0
def tw5365532535153558543:=0
def tw2862361047846146169:=0
def tw7705113312377708292:=0
def tw521927728131159643:=0
def tw3615743086429390647:=0
def tw11006029432494635451:=0
def tw7180419094567684754:=0
def tw14605092313997626419:=0
def tw5995710082797105035:=0
def tw7251864892791180388:=0
def tw7461372840924836247:=0
def tw13915461156515664131:=0
def tw2573037232433924630:=0
def tw11312165752587966378:=0
def tw16112624908055578450:=0
def tw17730605202771791756:=0
def tw4869898417273377369:=0
def tw4091012888713145815:=0
def tw13945348063922342693:=0
def tw8115149811402073055:=0
def tw3493179680938741433:=0
def tw10009644539492679047:=0
def tw8140803636442439171:=0
def tw9001660280630904488:=0
def tw14282411748975858700:=0
def tw5234184618291201019:=0
def tw4927487130175853696:=0
def tw6801442326395531236:=0
def tw8618509130795268479:=0
def tw5926829474430792040:=0
def tw17471177272181713942:=0
def tw15416283413450112783:=0
def tw12825340534816043502:=0
def tw15646041920913599807:=0
def tw17919469412867006243:=0
def tw3039958707313593402:=0
def tw15750772519705071939:=0
def tw6839036105213787217:=0
def tw10720514182476687835:=0
def tw1400034752359456663:=0
def tw4546366486634573379:=0
def tw3022635395826551674:=0
def tw372111478469533212:=0
def tw17064173270316500463:=0
def tw14652704775795731066:=0
def tw14567678874499292957:=0
def tw17411316175404050166:=0
def tw17062256502736623160:=0
def tw12007893248938392148:=0
def tw1798890330872028260:=0
def tw13008179048730099084:=0
def tw8360810682252498105:=0
def tw16951405875638307570:=0
def tw13796902968378514912:=0
def tw13582506135039263907:=0
def tw3902986210446017190:=0
def tw1065167948821715291:=0
def tw13219855755112126313:=0
def tw546800789145593849:=0
def tw2914190729983414924:=0
def tw10722753345643297393:=0
def tw11361245117678541496:=0
def tw8044867740339977497:=0
def tw6586591162767397989:=0
def tw12403110946909260572:=0
def tw12366966121474704452:=0
def tw12880797086123295088:=0
def tw13044736102159916353:=0
def tw15188701063596523872:=0
def tw11184189314515207612:=0
def tw3102194272442964661:=0
def tw3080752936889401984:=0
def tw4155397133145015383:=0
def tw8890359005745362619:=0
def tw1588979899722976701:=0
def tw15542915623214588689:=0
def tw12989112030344694904:=0
def tw6538787406895269145:=0
def tw3254403081951129910:=0
def tw3563326740555410277:=0
def tw14027242247860371800:=0
def tw17446144638270041006:=0
def tw15275264083623103106:=0
def tw18141012661825592840:=0
def tw7691893260922590816:=0
def tw2972913338927941450:=0
def tw4328618959732881456:=0
def tw75919667446308522:=0
def tw11563111133584311853:=0
def tw8280842115297843415:=0
def tw5927378873184091236:=0
def tw11929710376256406624:=0
def tw16370261999679595412:=0
def tw2306206106407914183:=0
end PySem.W.Fast
set_option maxRecDepth 100000 in
set_option maxHeartbeats 0 in
theorem PySem.Challenge.cw_farjump_k17_two_strong_ones_holds : PySem.Challenge.rw_farjump_k17_two_strong_ones.Holds := by
 w_on;o_law;k_head;(case hw=>w_witness2)
 k_fill
 refine' L3.ae4 (l:=PySem.Challenge.rw_farjump_k17_two_strong_ones) (g:=qz.Rc) (k:=12) (x:="_law_script") rfl rfl ⟨rfl,by decide,by decide,rfl⟩ (λw h Y=>PySem.W.km_in_of Y) ?acP ?ht ?nt qz.O3 (λns _=>⟨ns,rfl,rfl⟩) ?F
 case acP=>first|exact(Option.some_get (by kernel_rfl)).symm|rfl
 case ht=>intro w;first|kernel_rfl|rfl
 case nt=>intro w;first|kernel_rfl|rfl
 case F=>
  intro w mg fa h KX G hmg
  refine' qz.all_mk KX G hmg ?v5 ?BZ ?O8 ?Fj ?O9 ?yt ?Pb ?yu ?oG ?v6 ?Fk ?nM ?Bd ?v7 ?Fl ?B0 ?Mf ?B1 ?Mg ?v8 ?Mh ?v9 ?oH ?wa ?aaz ?Xz ?Be ?Js ?lg ?wb ?sL ?sM ?ur ?Am ?tb ?lh ?ln ?qm ?lp ?jY ?jr ?ng ?oI ?nh ?nj ?Mi ?Fm ?Mj ?Ml ?Mm ?An ?Fn ?Mn ?Mo ?Mp ?oJ ?wg ?Fo ?Ao ?yv ?Bf ?pH ?Jt ?Fp ?yw ?Fq ?nN ?rO ?qo ?Bg ?wj ?Bh ?nq ?mE ?wl ?Bi ?oX ?yx ?qp ?nO ?wm ?Fs ?oY ?wn ?yy ?ut ?qr ?Ft ?Ju ?qt ?uu ?uv ?rP ?lX ?uw ?ux ?yz ?wo ?wq ?XC ?yA ?Bj ?yB ?Bk ?wt ?Bl ?wu ?rQ ?wv ?yC ?Bm ?yD ?Bn ?ww ?Bo ?wx ?rR ?wy ?rS ?uy ?rV ?uz ?qu ?uA ?qv ?nQ ?qw ?wz ?yE ?wA ?yF ?uB ?yG ?uC ?qx ?uD ?adR ?yH ?yI ?Jv ?xb ?ro ?pI ?uE ?qy ?uF
  (case v5=>k_is)
  (case BZ=>k_is)
  (case O8=>k_is)
  (case Fj=>k_is)
  (case O9=>k_is)
  (case yt=>k_is)
  (case Pb=>k_is)
  (case yu=>k_is)
  (case oG=>k_is)
  (case v6=>k_is)
  (case Fk=>k_is)
  (case nM=>k_is)
  (case Bd=>k_is)
  (case v7=>k_is)
  (case Fl=>k_is)
  (case B0=>walk_at "h")
  (case Mf=>walk_at "h")
  (case B1=>walk_at "h")
  (case Mg=>walk_at "h")
  (case v8=>walk_at "h")
  (case Mh=>walk_at "h")
  (case v9=>walk_at "h")
  (case oH=>walk_at "h")
  (case wa=>walk_at "h")
  (case aaz=>walk_at "g")
  (case Xz=>walk_at "g")
  (case Be=>walk_at "g")
  (case Js=>walk_at "g")
  (case lg=>walk_at "g")
  (case wb=>walk_at "g")
  (case sL=>walk_at "g")
  (case sM=>walk_at "g")
  (case ur=>walk_at "g")
  (case Am=>walk_at "g")
  (case lh=>k_is)
  (case ln=>k_is)
  (case qm=>k_is)
  (case lp=>k_is)
  (case jY=>k_is)
  (case jr=>k_is)
  (case ng=>k_is)
  (case oI=>k_is)
  (case nh=>k_is)
  (case nj=>k_is)
  (case Mi=>k_is)
  (case Fm=>k_is)
  (case Mj=>k_is)
  (case Ml=>k_is)
  (case Mm=>k_is)
  (case An=>k_is)
  (case Fn=>k_is)
  (case Mn=>k_is)
  (case Mo=>k_is)
  (case Mp=>k_is)
  (case oJ=>k_is)
  (case wg=>k_is)
  (case Fo=>k_is)
  (case Ao=>k_is)
  (case yv=>walk_at "d")
  (case Bf=>walk_at "d")
  (case pH=>walk_at "d")
  (case Jt=>walk_at "d")
  (case Fp=>walk_at "d")
  (case yw=>walk_at "d")
  (case Fq=>walk_at "d")
  (case nN=>walk_at "d")
  (case rO=>walk_at "d")
  (case qo=>walk_at "d")
  (case Bg=>walk_at "d")
  (case wj=>walk_at "d")
  (case Bh=>walk_at "d")
  (case nq=>walk_at "d")
  (case mE=>walk_at "d")
  (case wl=>walk_at "d")
  (case Bi=>walk_at "d")
  (case oX=>walk_at "d")
  (case yx=>walk_at "d")
  (case qp=>walk_at "d")
  (case nO=>walk_at "d")
  (case wm=>walk_at "d")
  (case Fs=>walk_at "d")
  (case oY=>walk_at "d")
  (case wn=>walk_at "d")
  (case yy=>walk_at "d")
  (case ut=>walk_at "d")
  (case qr=>walk_at "d")
  (case Ft=>walk_at "d")
  (case Ju=>walk_at "d")
  (case qt=>walk_at "d")
  (case uu=>walk_at "d")
  (case uv=>walk_at "d")
  (case rP=>walk_at "d")
  (case lX=>walk_at "d")
  (case uw=>walk_at "d")
  (case ux=>walk_at "d")
  (case yz=>walk_at "d")
  (case wo=>walk_at "d")
  (case wq=>walk_at "d")
  (case XC=>walk_at "d")
  (case yA=>rfl)
  (case Bj=>rfl)
  (case yB=>rfl)
  (case Bk=>rfl)
  (case wt=>rfl)
  (case Bl=>rfl)
  (case wu=>rfl)
  (case rQ=>rfl)
  (case wv=>rfl)
  (case yC=>rfl)
  (case Bm=>rfl)
  (case yD=>rfl)
  (case Bn=>rfl)
  (case ww=>rfl)
  (case Bo=>rfl)
  (case wx=>rfl)
  (case rR=>rfl)
  (case wy=>rfl)
  (case rS=>rfl)
  (case uy=>rfl)
  (case rV=>rfl)
  (case uz=>rfl)
  (case qu=>rfl)
  (case uA=>rfl)
  (case qv=>rfl)
  (case nQ=>rfl)
  (case qw=>rfl)
  (case wz=>rfl)
  (case yE=>rfl)
  (case wA=>rfl)
  (case yF=>rfl)
  (case uB=>rfl)
  (case yG=>rfl)
  (case uC=>rfl)
  (case qx=>rfl)
  (case uD=>rfl)
  (case adR=>rfl)
  (case Jv=>walk_at "k")
  (case yH=>walk_at "j")
  (case yI=>walk_at "j")
  (case xb=>refine' ⟨?x1,?x2,?x3⟩;(case x1=>walk_at "e");(case x2=>walk_at "e");(case x3=>walk_at "e"))
  (case ro=>walk_at "e")
  (case pI=>walk_at "e")
  (case uE=>first|rfl|kernel_rfl|k_is)
  (case qy=>first|rfl|kernel_rfl|k_is)
  (case uF=>first|rfl|kernel_rfl|k_is)
  case tb=>
   refine' FJ.adm ?tlo ?tl ?tc ?td ?tr
   case tl=>k_is
   case tlo=>rfl
   case tc=>exact⟨rfl,rfl,rfl⟩
   case td=>rfl
   case tr=>
    iterate 16 walk_at "l"
    exact KTD.Rows.nil
#print axioms PySem.Challenge.cw_farjump_k17_two_strong_ones_holds
