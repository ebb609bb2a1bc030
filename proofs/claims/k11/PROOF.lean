import PyProof.Rows.All
import Wide.All
import OpenK.AllK
import Wide.FinOn
import Lean
import PyProof.EqAt
import PyProof.EqKinds
import PyProof.TupleCall
import KE.KSortTup
import KE.KPairComp
import PyProof.P3Eq
import PyProof.DictWalks
import PySem.Challenge.RW_farjump_k11_runs
set_option Elab.async false
set_option linter.all false
set_option maxRecDepth 100000
set_option maxHeartbeats 4000000
theorem zE1{A:Sort _}{p:A->Prop}{G:Prop}(h:∃a,p a)(k:∀a,p a->G):G:=h.elim k
theorem zE2{A:Sort _}{B:Sort _}{p:A->B->Prop}{G:Prop}(h:∃a b,p a b)(k:∀a b,p a b->G):G:=zE1 h λa h=>zE1 h (k a)
theorem zE3{A:Sort _}{B:Sort _}{C:Sort _}{p:A->B->C->Prop}{G:Prop}(h:∃a b c,p a b c)(k:∀a b c,p a b c->G):G:=zE1 h λa h=>zE2 h (k a)
theorem zE4{A:Sort _}{B:Sort _}{C:Sort _}{D:Sort _}{p:A->B->C->D->Prop}{G:Prop}(h:∃a b c d,p a b c d)(k:∀a b c d,p a b c d->G):G:=zE1 h λa h=>zE3 h (k a)
theorem zE5{A:Sort _}{B:Sort _}{C:Sort _}{D:Sort _}{E:Sort _}{p:A->B->C->D->E->Prop}{G:Prop}(h:∃a b c d e,p a b c d e)(k:∀a b c d e,p a b c d e->G):G:=zE1 h λa h=>zE4 h (k a)
theorem zE6{A:Sort _}{B:Sort _}{C:Sort _}{D:Sort _}{E:Sort _}{F:Sort _}{p:A->B->C->D->E->F->Prop}{G:Prop}(h:∃a b c d e f,p a b c d e f)(k:∀a b c d e f,p a b c d e f->G):G:=zE1 h λa h=>zE5 h (k a)
theorem zA2{p q G:Prop}(h:p/\q)(f:p->q->G):G:=f h.1 h.2
theorem zA3{p q r G:Prop}(h:p/\q/\r)(f:p->q->r->G):G:=zA2 h.2 (f h.1)
theorem zA4{p q r s G:Prop}(h:p/\q/\r/\s)(f:p->q->r->s->G):G:=zA3 h.2 (f h.1)
theorem zA5{p q r s t G:Prop}(h:p/\q/\r/\s/\t)(f:p->q->r->s->t->G):G:=zA4 h.2 (f h.1)
theorem zA6{p q r s t u G:Prop}(h:p/\q/\r/\s/\t/\u)(f:p->q->r->s->t->u->G):G:=zA5 h.2 (f h.1)
theorem zA7{p q r s t u v G:Prop}(h:p/\q/\r/\s/\t/\u/\v)(f:p->q->r->s->t->u->v->G):G:=zA6 h.2 (f h.1)
theorem zA8{p q r s t u v w G:Prop}(h:p/\q/\r/\s/\t/\u/\v/\w)(f:p->q->r->s->t->u->v->w->G):G:=zA7 h.2 (f h.1)
theorem zA9{p q r s t u v w x G:Prop}(h:p/\q/\r/\s/\t/\u/\v/\w/\x)(f:p->q->r->s->t->u->v->w->x->G):G:=zA8 h.2 (f h.1)
theorem zA10{p q r s t u v w x y G:Prop}(h:p/\q/\r/\s/\t/\u/\v/\w/\x/\y)(f:p->q->r->s->t->u->v->w->x->y->G):G:=zA9 h.2 (f h.1)
theorem zI2{A:Sort _}{B:Sort _}{p:A->B->Prop}(a:A)(b:B)(h:p a b):∃a b,p a b:=⟨a,b,h⟩
theorem zI3{A:Sort _}{B:Sort _}{C:Sort _}{p:A->B->C->Prop}(a:A)(b:B)(c:C)(h:p a b c):∃a b c,p a b c:=⟨a,b,c,h⟩
theorem zI4{A:Sort _}{B:Sort _}{C:Sort _}{D:Sort _}{p:A->B->C->D->Prop}(a:A)(b:B)(c:C)(d:D)(h:p a b c d):∃a b c d,p a b c d:=⟨a,b,c,d,h⟩
theorem zI5{A:Sort _}{B:Sort _}{C:Sort _}{D:Sort _}{E:Sort _}{p:A->B->C->D->E->Prop}(a:A)(b:B)(c:C)(d:D)(e:E)(h:p a b c d e):∃a b c d e,p a b c d e:=⟨a,b,c,d,e,h⟩
open Lean in
local macro_rules
|`(tactic|rcases $h:ident with ⟨$ps,*⟩)=>`(tactic|obtain ⟨$ps,*⟩:=$h)
|`(tactic|rintro $rs:rintroPat*)=>do
 let l:=rs[rs.size-1]!.raw[0]
 unless l.isOfKind ``Parser.Tactic.rcasesPat.tuple do Macro.throwUnsupported
 let p:TSyntax `rcasesPat:=⟨l⟩
 let z:=mkIdent (<-Macro.addMacroScope `zz)
 let r:=rs.pop
 if r.size==0 then `(tactic|(intro $z:ident;obtain $p:rcasesPat := $z)) else `(tactic|(rintro $r*;intro $z:ident;obtain $p:rcasesPat := $z))
|`(tactic|exact ⟨$es,*⟩)=>do if es.getElems.size<3 then Macro.throwUnsupported else `(tactic|refine ⟨$es,*⟩)
|`(tactic|refine ⟨$es,*⟩)=>do
 let es:=es.getElems
 let n:=es.size
 if n<3 then Macro.throwUnsupported
 let m:=min 5 (n-1)
 let mut al:Array (TSyntax `tactic):=#[]
 for z in [0:m-1] do
  let i:=m-z
  let r:=es[i:n].toArray
  let q<-if r.size==1 then pure r[0]! else `(⟨$r,*⟩)
  al:=al.push (<-`(tactic|refine $(mkIdent (.mkSimple s!"zI{i}")) $(es[0:i].toArray)* $q))
 `(tactic|first $[|$al:tactic]*)
|`(tactic|obtain ⟨$ps,*⟩:=$h:term)=>do
 let ps:=ps.getElems
 let n:=ps.size
 if n<2 then Macro.throwUnsupported
 let nw(s:String):MacroM Ident:=do return mkIdent (<-Macro.addMacroScope (.mkSimple s))
 unless h.raw.isIdent do
  let t<-nw "zz"
  return <-`(tactic|(have $t := $h;obtain ⟨$ps,*⟩:=$t))
 let h:Ident:=⟨h.raw⟩
 let mut bs:Array Ident:=#[]
 let mut mo:Array (Option (TSyntax `tactic)):=#[]
 let sh(q:Syntax):String:=(q.reprint.getD "").trimAscii.toString
 for i in [0:n] do
  let q:=ps[i]!.raw
  let o:=(q.find? λs=>s.isOfKind ``Parser.Tactic.rcasesPat.one).getD .missing
  if sh o==sh q&&sh q != "rfl" then
   bs:=bs.push ⟨o[0]⟩
   mo:=mo.push none
  else
   let x<-nw s!"x{i}"
   bs:=bs.push x
   if sh q=="_" then mo:=mo.push none
   else
    let p:TSyntax ``Parser.Tactic.rcasesPatMed:=⟨q[0]⟩
    mo:=mo.push (some (<-`(tactic|obtain $p:rcasesPatMed := $x)))
 let t<-nw "xx"
 let y<-nw "yy"
 let mut al:Array (TSyntax `tactic):=#[]
 let k:=((List.range n).find? λi=>((sh ps[i]!.raw).splitOn "rfl").length>1).getD n
 for (c,m) in [("zE",min 6 (n-1)),("zA",min 10 n-1)] do
  let m:=min m (k+1)
  for z in [0:m] do
   let i:=m-z
   let w:=i+1==n&&k+1>=n
   let mut ws:Array (TSyntax ``binderIdent):=#[]
   let mut hit:=false
   let mut g:Array Ident:=#[]
   for x in if w then bs else bs[0:i].toArray.push t do
    if x.getId==h.getId then
     hit:=true
     ws:=#[<-`(binderIdent|$x:ident)]
     g:=g.push y
    else
     if x.getId.hasMacroScopes then ws:=ws.push (<-`(binderIdent|_))
     g:=g.push x
   let mut s:Array (TSyntax `tactic):=#[<-`(tactic|refine $(mkIdent (.mkSimple s!"{c}{if c=="zE" then i else i+1}")) $h fun $g* => ?_),<-`(tactic|try clear $h)]
   if hit then s:=s.push (<-`(tactic|rename_i $ws*))
   for j in [0:if w then n else i] do
    if let some y:=mo[j]! then s:=s.push y
   unless w do
    let r:=ps[i:n].toArray
    if r.size==1 then
     s:=s++#[<-`(tactic|have $(bs[n-1]!) := $t),<-`(tactic|clear $t)]
     if let some y:=mo[n-1]! then s:=s.push y
    else s:=s.push (<-`(tactic|obtain ⟨$r,*⟩:=$t))
   al:=al.push (<-`(tactic|($[$s:tactic];*)))
 `(tactic|first $[|$al:tactic]*)
noncomputable section
open Option renaming some->aa,none->ao,isSome_map->fX
open Nat renaming le_of_ble_eq_true->ab,le_refl->aM,ne_of_lt->bf,zero_le->bi,zero_add->bt,lt_of_lt_of_le->bB,le_trans->bG,lt_of_le_of_lt->bM,le_succ->ck,lt_succ_of_lt->cU,le_of_lt->dF,lt_irrefl->dN,ne_of_gt->eA,sub_self->eW,le_of_eq->fQ,lt_succ_self->gz,lt_trans->ai3,min_self->ai5
open PySem renaming Value->ae,wpAny_bind->ah,Addr->ak,Shared->aq,wpAny_pure->aw,Str->ay,Heap->az,sizeLine->aC,mainGlobals->aY,Program->ba,starEach->bc,Around->bv,Expr->bC,Builtin->bE,World->bI,Stmt->bL,wpAny_holding->bR,bootBuiltins->bU,sizeLine_eq->b9,Obj->cm,wpAny_mono->cw,assignEach->cz,wpAny_truthy_bool->cA,PyData->cC,NameKind->cE,wpAny_field->cG,sysModules->cH,FuncData->cK,wpAny_call_entry->cM,wpAny_callSpecial?_slot->cX,backTo->c7,Scope->df,foldedSetIterable->dh,wpAny_newObj_type->di,wpAny_pyIter_list->dj,attributeBase->du,wpAny_seqItems->dG,IsPair->dH,strIterType->dO,wpAny_Call_Name_kw->dQ,wpAny_setField_rec->dU,bindArgs->dY,Pos->d8,keywordEach->eI,swapsWith->eL,valueAt->eQ,wpAny_pyIter_tuple->eV,Operator->fj,codeAny_mono->fq,TriplesOk->fH,sliceBounds->fR,wpAny_passesOwn->fV,codeAny_builtin->fY,cLine->gg,tupleKind_room_in1->gh,call_meets->gj,wpAny_rule->gk,getItem->gA,Draws->gB,IsZip->adV,wpAny_standAt->ai1,rawInt->ai2,wpAny_newList->ai6,codeAmong->ajb,Keyword->aji,Env->ajk,wpAny_specialOf->ajl,backToKw->ajn,wpAny_updateSeq_pair->ajo,Arguments->ajp,scanBound->ajq,CmpOp->ajr,behindInMarks->ajs,wpAny_onRaise->aju,pyIter->ajv,closureFor->ajw,findBy_of_findIdx?->ajx,slot_dict_contains->ajy,GenState->ajB,standAt->ajC,BindsTo->ajD,callerA->ajE,tupleKind->ajG,inplaceOp->ajH,IsPart->ajI,seqIndex_of->ajK,wpAny_letGo->ajL,wpAny_execs_nil->ajN,setItem->ajP,notedBy->ajQ,Walks->ajR,wpAny_call->ajS,wpAny_newFunctionEnv_cells->ajT,atKey->ajU,PlainAttrs->ajV,wpAny_newTuple->ajW,dictSetDefault->aj0,preSum->aj1,wpAny_comprehension_free->aj2,wpAny_attempt->aj3,plainId_quiet->aj5,lastMarks->aj6,getMethod->aj7,bindL->aj8,bindC->aj9,cellsFrom->aka,seqIndex?->akb,isTrue->akc,wpAny_pyNext_list_item->akd,Result->ake,wpAny_typeOf->akf,wpAny_getItem_list_neg->akh,wpAny_pyNext_list_end->ako,getitemInPython_of_ne->akp,wpAny_notOrdered_dict->akq,Tok->akr,wpAny_loadName_local->aks,wpAny_letTemporaryGo->akt,wpAny_loadName_cell->akw,builtinsNs->akx,wpAny_Name->aky,findBy->akz,typeIs_str->akA,typeIs_int->akB,checkCount->akC,getattributeRaised->akD,defaultsOf->akE,wpAny_assign_Name->akF,wpAny_sequenceKey->akG,slot_list_getitem->akH,wpAny_pyIter_strU->akI,wpAny_pyIter_enum->akJ,dictGet->akK,wpAny_dictEntries->akL,slot_dict_getitem->akM,wpAny_pyHash_str->akN,storeName->akO,wpAny_execs_cons->akP,PassesOwn->akQ,DictEntry->akR,noFill_tuple_add->akS,seqItems?->akT,wpAny_pyIter_zip->akU,wpAny_operating->akV,Sem->akW,recursionLimit->akX,typeOf->akZ,fitsIndex_both->ak0,letTemporaryGo->ak1,wpAny_setField->ak2,firstArgMember->ak3,IsEnum->ak4,assignInOrder->ak8,swapsWithSole->ak9,swappedStores->ala,intBits_le_64->alb,seq_tuple_add->alc,evalPart_none->ald,call_list_seq->ale
open Bool renaming true->ag,false->ar,false_ne_true->ax,and_eq_true->aQ,false_eq_true->c5,not_eq_true'->eT,eq_iff_iff->fD
open List renaming length_map->ai,getElem?_eq_some_iff->au,mem_cons_self->av,size_toArray->aD,length_append->aE,mem_cons_of_mem->aH,getElem?_eq_getElem->aJ,mem_cons->aO,append_nil->aR,getElem?_map->aS,length_cons->aU,mem_of_getElem?->aV,map_append->aX,map_cons->aZ,prefix_refl->bd,mem_append->bg,length_nil->bj,append_assoc->bn,map_map->bq,getD_eq_getElem?_getD->bu,mem_append_right->bw,getElem?_append_left->bA,all_eq_true->bF,mem_map->bN,length_singleton->bO,replicate->bP,nil_append->bQ,mem_singleton->bS,not_mem_nil->bT,Nodup->bV,mem_zipIdx_iff_getElem?->bW,getElem?_append_right->b8,mem_append_left->cb,prefix_append->cc,zip_cons_cons->ce,getElem?_set_self->cu,range->cB,filter_cons->cD,nodup_append->cO,length_range->cQ,replicate_succ->cW,pairwise_cons->c6,getElem?_set_ne->c9,any_cons->dg,map_congr_left->dm,lookup_cons->dn,zipWith->dz,filter_append->dB,length_zipIdx->dD,nodup_cons->dI,length_zip->dL,mem_iff_getElem?->dP,flatten_cons->dS,exists_cons_of_ne_nil->d6,length_take->d9,drop_eq_getElem_cons->eB,pairwise_iff_getElem->eF,flatMap_append->eG,mem_filter->eK,find?_cons->eM,length_set->eN,getElem?_cons_succ->eP,map_nil->eR,map->eS,pairwise_map->eU,getElem?_eq_none->eY,cons_lt_cons_iff->eZ,length_filter_le->e6,eq_nil_or_concat->e7,concat_eq_append->e8,length_drop->e9,getElem_mem->fb,zipIdx_cons->fe,cons_append->fg,all_cons->fu,lookup->fv,length->fw,of_mem_zip->fE,filterMap_cons->fF,length_pos_iff->fJ,nodup_nil->fS,length_mapIdx->fU,getElem?_zip_eq_some->f6,Perm->gp,map_snd_zip->gu,mem_flatMap->gv,filter_cons_of_neg->gw,filter_cons_of_pos->gx,getLast?_cons_cons->gy,zipWith_cons_cons->aiu,take_of_length_le->ai0,mem_iff_getElem->aje,not_lt->ajh
open PySem.Heap renaming get?_push_of_some->aj,lt_size->aN,get?_push_size->aP,SameBut->bJ,size_push->bZ,get?_none_of_le->dZ,size_update->gq,get?_update_self->ai7,ExtBut->ajf
open Prod renaming fst->bh
open Option.some renaming inj->bD
open PySem.Value renaming ref->bH,none->cY,type->dX,str->fM,isStrOf->f7,int->gf
open PySem.Obj renaming mapSeq->bX
open PySem.Builtin.SmallTypes renaming nextOf->bY,ownedTupleIsFree->cI,ownedTupleHandOut->fT
open PyProof.Rows renaming seqObj->ci,StrsAre->c8,callWith_type1->dq,strKind->dA,envOfC->d7,slot_tuple_getitem->eJ,pairsOf->eO,arrOf->eX,AllBare->fN,listUpdate_at->fO,pendingOf->f9,SortedToK->ajc,wpS_bind->ajd,step_dedup->ajj,get?_update_seq->ajm,subscriptTail->ajt,setPending->ajz,IsTup->ajA,pairsOf_size->ajF,SortSt->ajJ,seqEpoch_at->ajM,entry_list_sort->ajO,slot_list_sort->ajX,size_push'->ajY,wpS_pure->ajZ,strKind_oneLt->aj4,subscriptTail_builtinR->akg,IntsAre->aki,sortedS->akj,plain_sorted->akk,entry_sorted->akl,keyKind_strs->akm,listItems_at->akn,kind_sorted->aku,failedOf->akv,slicePart_none->akY,args_list_sort->ak5,sortedHeap_old->ak6,oneType'->ak7,sortedHeap_at->alf
open PySem.SeqAt renaming EqAt->cj
open PySem.PyData renaming strOk->cn
open Array renaming length_toList->cx,getElem?_toList->cZ
open False renaming elim->cy
open PySem.Heap.SameBut renaming update->cJ
open PySem.Str renaming ofString->cL
open True renaming intro->cS
open Int renaming toNat_natCast->cT,emod_lt_of_pos->fZ,emod_nonneg->ai9
open Ne renaming symm->cV
open Sum renaming inr->de
open PySem.NameKind renaming free->dw,cell->aja
open PySem.Builtin.Slice renaming slicePlaces->dJ,sliceAdjust->ft
open PyProof.Rows.F renaming plain_set_update_loop->dM,entry_set_update_loop->ga
open PySem.Builtin.Tuple renaming tupleExact->dR
open PySem.Builtin.List renaming listTooLong->dW
open PySem.AutoSeq1 renaming wpAny_loadPart'->ef
open PySem.F renaming slot_tuple_iterator_next->eC,slot_zip_next->ajg
open PySem.Around renaming under_plainId->fh
open List.Perm renaming refl->fC
open PySem.Builtin.Str renaming occurrences->fP
open ForInStep renaming yield->f8
open Or renaming inr->gm,inl->ai8
open List.Pairwise renaming nil->ai4
open PySem.F renaming plainAttrs_list->af,type_list_append->aF,slot_list_append->bb
open PySem.W renaming Frag->bz,findIn->cg,kitOne->cN,nsIn->cP,mg_of->cR,mg_none_of->dr,fnOf->dt,keepIn->dy
section
open PySem PySem.Spec PyProof.Rows
namespace L2
abbrev Key:=Sum Int ay
noncomputable def FX:Key->ae->Bool
 |.inl k,v=>ae.isInt k v
 |.inr x,v=>f7 x v
noncomputable def ahG(w:bI):Key->Int
 |.inl k=>hashInt k
 |.inr x=>hashStr w x
theorem kF:∀{k:Key} {v:ae},FX k v=ag->(∃i t,k=Sum.inl i/\v=gf i t)\/(∃x t,k=de x/\v=fM x t)
 |.inl i,v,h=>by obtain⟨t,e⟩:=ae.isInt_shape (k:=i) (v:=v) h;exact .inl ⟨i,t,rfl,e⟩
 |.inr x,v,h=>by obtain⟨t,e⟩:=ae.isStrOf_shape (x:=x) (v:=v) h;exact .inr ⟨x,t,rfl,e⟩
theorem U5(i:Int)(t:akr):FX (.inl i) (.int i t)=ag:=by simp[FX,ae.isInt]
theorem U6(x:ay)(t:akr):FX (.inr x) (.str x t)=ag:=by simp[FX,f7]
theorem adj(a b:Int):decide ((Sum.inl a:Key)=Sum.inl b)=(a==b):=by
 by_cases e:a=b
 .subst e;simp
 .have h:¬(Sum.inl a:Key)=Sum.inl b:=λq=>e (Sum.inl.inj q);rw[decide_eq_false h];exact(beq_eq_false_iff_ne.mpr e).symm
theorem adk(a b:ay):decide ((de a:Key)=de b)=decide (a=b):=by
 by_cases e:a=b
 .subst e;simp
 .have h:¬(de a:Key)=de b:=λq=>e (de.inj q);rw[decide_eq_false h,decide_eq_false e]
theorem adl(a:Int)(b:ay):decide ((Sum.inl a:Key)=de b)=ar:=decide_eq_false (λq=>nomatch q)
theorem adm(a:ay)(b:Int):decide ((de a:Key)=Sum.inl b)=ar:=decide_eq_false (λq=>nomatch q)
noncomputable def i9(prog:ba)(w:bI):PySem.KeyKind prog w Key where
 is:=FX
 hash:=ahG w
 inj:=λv a b ha g=>by
  rcases kF ha with⟨i,t,rfl,rfl⟩|⟨x,t,rfl,rfl⟩
  .rcases kF g with⟨j,u,rfl,e⟩|⟨y,u,rfl,e⟩
   .injection e with c _;rw[c]
   .exact nomatch e
  .rcases kF g with⟨j,u,rfl,e⟩|⟨y,u,rfl,e⟩
   .exact nomatch e
   .injection e with c _;rw[c]
 byValue:=λk v h=>by rcases kF h with⟨i,t,rfl,rfl⟩|⟨x,t,rfl,rfl⟩<;>rfl
 pyHash:=λf h=>by
  rcases kF f with⟨i,t,rfl,rfl⟩|⟨x,t,rfl,rfl⟩
  .exact wpAny_pyHash_int h
  .exact akN h
 eqBool:=λm f h=>by
  rcases kF m with⟨i,t,rfl,rfl⟩|⟨x,t,rfl,rfl⟩
  .rcases kF f with⟨j,u,rfl,rfl⟩|⟨y,u,rfl,rfl⟩
   .rw[adj] at h;exact wpAny_eqBool_int h
   .rw[adl] at h;exact cj.int_str i t y u _ _ _ _ h
  .rcases kF f with⟨j,u,rfl,rfl⟩|⟨y,u,rfl,rfl⟩
   .rw[adm] at h;exact cj.str_int x t j u _ _ _ _ h
   .rw[adk] at h;exact wpAny_eqBool_str h
 «strs»:=λk x t v h=>by
  rcases kF h with⟨i,u,rfl,e⟩|⟨y,u,rfl,e⟩
  .exact nomatch e
  .injection e with c _;subst c;cases v<;>rfl
theorem Q0(prog:ba)(w:bI)(k:Key)(v:ae):(i9 prog w).is k v=FX k v:=rfl
theorem N3(prog:ba)(w:bI)(i:Int)(t:akr):(i9 prog w).is (.inl i) (.int i t)=ag:=U5 i t
theorem N4(prog:ba)(w:bI)(x:ay)(t:akr):(i9 prog w).is (.inr x) (.str x t)=ag:=U6 x t
inductive V where
 |non|bl (b:Bool)|int (i:Int)|str (x:ay)|WO (b:Array UInt8)|flt (b:UInt64)|ref (a:ak)|ty (n:String)
 deriving DecidableEq
def RelV:V->ae->Prop
 |.non,u=>u=cY
 |.bl b,u=>u=ae.bool b
 |.int i,u=>∃t,u=gf i t
 |.str x,u=>∃t,u=fM x t
 |.WO b,u=>∃t,u=ae.bytes b t
 |.flt b,u=>∃t,u=ae.float b t
 |.ref a,u=>u=bH a
 |.ty n,u=>u=dX n
abbrev Vals:List V->List ae->Prop:=Paired RelV
theorem Vals.length{xs:List V}{us:List ae}(r:Vals xs us):xs.length=us.length:=Paired.length r
theorem Vals.get:∀{xs:List V} {us:List ae} {i:Nat} {x:V},Vals xs us->xs[i]?=aa x->∃u,us[i]?=aa u/\RelV x u
 |_,_,_,_,.nil,e=>by simp at e
 |_,_,0,_,.cons r _,e=>by simp at e;subst e;exact⟨_,rfl,r⟩
 |_,_,i+1,x,.cons _ t,e=>by obtain⟨u,a,b⟩:=Vals.get (i:=i) (x:=x) t (by simpa using e);exact⟨u,by simpa using a,b⟩
theorem Vals.set{x:V}{u:ae}(r:RelV x u):∀{xs:List V} {us:List ae} (i:Nat),Vals xs us->Vals (xs.set i x) (us.set i u)
 |_,_,_,.nil=>.nil
 |_,_,0,.cons _ t=>.cons r t
 |_,_,i+1,.cons q t=>.cons q (Vals.set r i t)
theorem Vals.append:∀{xs a:List V} {us ws:List ae},Vals xs us->Vals a ws->Vals (xs++a) (us++ws)
 |_,_,_,_,.nil,s=>s
 |_,_,_,_,.cons r t,s=>.cons r (Vals.append t s)
theorem Vals.take:∀{xs:List V} {us:List ae} (n:Nat),Vals xs us->Vals (xs.take n) (us.take n)
 |_,_,0,_=>.nil
 |_,_,_+1,.nil=>.nil
 |_,_,n+1,.cons r t=>.cons r (Vals.take n t)
theorem Vals.drop:∀{xs:List V} {us:List ae} (n:Nat),Vals xs us->Vals (xs.drop n) (us.drop n)
 |_,_,0,r=>r
 |_,_,_+1,.nil=>.nil
 |_,_,n+1,.cons _ t=>Vals.drop n t
def xu:Option V->Option ae->Prop
 |some v,aa u=>RelV v u
 |none,ao=>True
 |_,_=>False
def KV {a:Type}:List (a×V)->List (a×ae)->Prop:=Paired λ(p:a×V) (q:a×ae)=>p.1=q.1/\RelV p.2 q.2
noncomputable def kV:Key->V
 |.inl i=>.int i
 |.inr x=>.str x
inductive HO where
 /-- a list-/
 |lst (xs:List V)
 /-- a tuple (never changes)-/
 |tup (xs:List V)
 /-- a dict whose keys are ints and texts;one whose keys are tuples of ints and texts (the empty one is both)-/
 |dK (hZ:List (Key×V))|dT (hZ:List (List Key×V))
 /-- a set of ints:ia members,ia size-/
 |set (S:Int->Bool) (n:Nat)
 /-- an instance of the class at C,ia dict at dx,ia attributes-/
 |ins (C dx:ak) (fs:List (ay×V))
 /-- the dict of the instance at x-/
 |own (x:ak)
 /-- the dict of an exception-/
 |xd (fs:List (ay×V))
 /-- a bound method,f of x-/
 |met (f x:ak)
 /-- a range object lo,lo+1,.. below hi-/
 |rng (lo hi:Int)
 /-- a thing aiS is known to the object (the ahH;a dict while a loop walks it):read,never written while it is so-/
 |FY (o:cm) (u:HO)
 /-- a code afv table-/
 |A8 (ps:Array ae)
 |dE (ep:Nat) (hZ:List (Key×V))
 |xc (C:ak) (fs:List (ay×V))
 /-- any other thing,by aiT is ag of ia one object (a def of aiQ own:aiU a S n:=HO.ext λh=>..)-/
 |ext (φ:az->Prop)
abbrev Hp:=ak->Option HO
noncomputable def upd(H:Hp)(a:ak)(o:HO):Hp:=λb=>if b=a then aa o else H b
theorem ip{H:Hp}{a:ak}{o:HO}:upd H a o a=aa o:=by unfold upd;rw[if_pos rfl]
theorem g9{H:Hp}{a b:ak}{o:HO}(h:b≠a):upd H a o b=H b:=by unfold upd;rw[if_neg h]
theorem afw{H:Hp}{a b:ak}{o u:HO}(h:H a=aa o)(c:H b=aa u)(d:o≠u):a≠b:=by intro e;subst e;rw[h] at c;exact d (bD c)
theorem je{H:Hp}{a b:ak}{o:HO}(h:H a=aa o)(c:H b=ao):a≠b:=by intro e;subst e;rw[h] at c;cases c
section
variable (P:ba) (w:bI)
def jK (H:Hp)(h:az)(a:ak):HO->Prop
 |.lst xs=>xs.length<=aC/\∃(ia:List ae) (n:Nat),Vals xs ia/\h.get? a=aa {cls:=.type "list",data:=.seq ia.toArray n}
 |.tup xs=>xs.length<=aC/\∃ia:List ae,Vals xs ia/\ajA h a ia.toArray
 |.dK e=>e.length<=aC/\(a==cH)=ar/\∃g,KV e g/\h.DictOf (i9 P w) a g
 |.dT e=>e.length<=aC/\(a==cH)=ar/\∃xs:List (List Key×ak×ae),
   Paired (λ(p:List Key×V) (q:List Key×ak×ae)=>p.1=q.1/\H q.2.1=aa (.tup (p.1.map kV))/\RelV p.2 q.2.2) e xs/\
   ∃o es j,h.get? a=aa o/\o.ExactDict/\o.data=.dict es j/\es.toList=xs.map (entryOfKey (ajG (i9 P w)))/\(xs.map (·.1)).Nodup
 |.set S n=>h.SetOf (intKind P w) a S n
 |.ins C b fs=>H b=aa (.own a)/\fs.length<=1000/\b≠a/\h.get? a=aa (W.instObj C b)/\
   ∃c,h.Ns1 b c/\(∀f,xu (fs.lookup f) (c f))/\PySem.Within c (fs.map (·.1))
 |.own _=>∃o,h.get? a=aa o
 |.xd fs=>∃c,h.Ns1 a c/\∀f,xu (fs.lookup f) (c f)
 |.rng lo hi=>∃t u v,h.get? a=aa {cls:=.type "range",data:=.fields #[.int lo t,.int hi u,.int 1 v]}
 |.FY o u=>h.get? a=aa o/\jK H h a u
 |.A8 z=>h.get? a=aa {cls:=.none,data:=.fields z}
 |.dE j e=>e.length<=aC/\(a==cH)=ar/\∃g,KV e g/\h.DictAt (i9 P w) a g j
 |.xc C fs=>∃i g,h.get? a=aa i/\i.cls=.ref C/\i.data=.fields g/\((i.dict=ao/\fs=[])\/∃b c,i.dict=aa b/\b≠a/\H b=aa (.own a)/\h.Ns1 b c/\∀f,xu (fs.lookup f) (c f))
 |.met f x=>h.get? a=aa (W.methodObj (.ref f) (.ref x))
 |.ext m=>m h/\(∃o,h.get? a=aa o)/\∀r y:az,m r->(∀o,r.get? a=aa o->y.get? a=aa o)->m y
def xv (H:Hp)(h:az):Prop:=∀a o,H a=aa o->jK P w H h a o
end
section
variable {P:ba} {w:bI} {H H':Hp} {h h':az} {a:ak} {o:HO}
theorem jK.lt(x:jK P w H h a o):a<h.objs.size:=by
 cases o with
 |lst xs=>obtain⟨_,_,_,_,e⟩:=x;exact aN e
 |tup xs=>obtain⟨_,_,_,p⟩:=x;exact p.lt
 |dK b=>obtain⟨_,_,_,_,o,_,_,e,_⟩:=x;exact aN e
 |dT b=>obtain⟨_,_,_,_,o,_,_,e,_⟩:=x;exact aN e
 |set S n=>obtain⟨o,_,_,_,e,_⟩:=x;exact aN e
 |ins C c fs=>obtain⟨_,_,_,e,_⟩:=x;exact aN e
 |own y=>obtain⟨_,e⟩:=x;exact aN e
 |xd fs=>obtain⟨_,⟨_,_,_,e,_⟩,_⟩:=x;exact aN e
 |rng lo hi=>obtain⟨_,_,_,e⟩:=x;exact aN e
 |FY g u=>obtain⟨e,_⟩:=x;exact aN e
 |A8 i=>exact aN (show h.get? a=aa _ from x)
 |dE j b=>obtain⟨_,_,_,_,o,_,e,_⟩:=x;exact aN e
 |xc C fs=>obtain⟨_,_,e,_⟩:=x;exact aN e
 |met f y=>exact aN (show h.get? a=aa _ from x)
 |ext m=>obtain⟨_,⟨_,e⟩,_⟩:=x;exact aN e
theorem Paired.adn{α β:Type}{F G:α->β->Prop}:∀{c:List α} {e:List β},Paired F c e->(∀a b,F a b->G a b)->Paired G c e
 |_,_,.nil,_=>.nil
 |_,_,.cons r t,f=>.cons (f _ _ r) (Paired.adn t f)
theorem jK.FZ(x:jK P w H h a o)(k:∀b u,(b=a\/H b=aa (.own a))->h.get? b=aa u->h'.get? b=aa u)
(E:∀b,H b=aa (.own a)->H' b=aa (.own a))(ht:∀b xs,H b=aa (.tup xs)->H' b=aa (.tup xs)):jK P w H' h' a o:=by
 induction o with
 |lst xs=>obtain⟨z,ia,n,r,e⟩:=x;exact⟨z,ia,n,r,k _ _ (.inl rfl) e⟩
 |tup xs=>obtain⟨z,ia,r,g,e,c⟩:=x;exact⟨z,ia,r,g,k _ _ (.inl rfl) e,c⟩
 |dK G=>obtain⟨z,y,j,r,g,es,i,e,c⟩:=x;exact⟨z,y,j,r,g,es,i,k _ _ (.inl rfl) e,c⟩
 |dT G=>
  obtain⟨z,y,xs,r,g,es,i,e,c⟩:=x;exact⟨z,y,xs,Paired.adn r λp q z=>⟨z.1,ht _ _ z.2.1,z.2.2⟩,g,es,i,k _ _ (.inl rfl) e,c⟩
 |set S n=>obtain⟨g,es,i,t,e,c⟩:=x;exact⟨g,es,i,t,k _ _ (.inl rfl) e,c⟩
 |ins C I fs=>
  obtain⟨d,z,ne,e,m,⟨od,es,i,A,c⟩,r⟩:=x;exact⟨E _ d,z,ne,k _ _ (.inl rfl) e,m,⟨od,es,i,k _ _ (.inr d) A,c⟩,r⟩
 |own y=>obtain⟨g,e⟩:=x;exact⟨g,k _ _ (.inl rfl) e⟩
 |xd fs=>obtain⟨m,⟨od,es,i,e,c⟩,r⟩:=x;exact⟨m,⟨od,es,i,k _ _ (.inl rfl) e,c⟩,r⟩
 |rng lo hi=>obtain⟨t,u,v,e⟩:=x;exact⟨t,u,v,k _ _ (.inl rfl) e⟩
 |FY g u M=>obtain⟨e,q⟩:=x;exact⟨k _ _ (.inl rfl) e,M q⟩
 |dE i G=>obtain⟨z,y,j,r,g,es,e,c⟩:=x;exact⟨z,y,j,r,g,es,k _ _ (.inl rfl) e,c⟩
 |xc C fs=>
  obtain⟨N,j,e,O,Q,B⟩:=x;refine⟨N,j,k _ _ (.inl rfl) e,O,Q,?_⟩;rcases B with B|⟨I,m,T,U,J,⟨od,es,i,A,c⟩,Y⟩
  .exact .inl B
  .exact .inr ⟨I,m,T,U,E _ J,⟨od,es,i,k _ _ (.inr J) A,c⟩,Y⟩
 |A8 L=>
  have e:h.get? a=aa {cls:=.none,data:=.fields L}:=x;show h'.get? a=aa {cls:=.none,data:=.fields L};exact k a _ (.inl rfl) e
 |met f y=>
  have e:h.get? a=aa (W.methodObj (.ref f) (.ref y)):=x;show h'.get? a=aa (W.methodObj (.ref f) (.ref y));exact k a _ (.inl rfl) e
 |ext φ=>obtain⟨p,⟨o,e⟩,st⟩:=x;exact⟨st _ _ p λo q=>k _ _ (.inl rfl) q,⟨o,k _ _ (.inl rfl) e⟩,st⟩
theorem xv.lt(x:xv P w H h)(e:H a=aa o):a<h.objs.size:=(x a o e).lt
theorem xv.fresh(x:xv P w H h)(e:h.objs.size<=a):H a=ao:=by
 cases q:H a with
 |none=>rfl
 |some u=>exact absurd (bB (x.lt q) e) (dN _)
theorem xv.kept(x:xv P w H h)(k:∀b u,h.get? b=aa u->h'.get? b=aa u):xv P w H h':=λa o e=>
 (x a o e).FZ (λb u _ q=>k b u q) (λ_ q=>q) λ_ _ q=>q
theorem xv.laid(x:xv P w H h)(k:∀b u,h.get? b=aa u->h'.get? b=aa u)(g:h.objs.size<=a)(new:jK P w (upd H a o) h' a o):xv P w (upd H a o) h':=λb u e=>by
 have hn:=x.fresh g;by_cases f:b=a
 .subst f;rw[ip] at e;cases e;exact new
 .rw[g9 f] at e;exact(x b u e).FZ (λc v _ q=>k c v q) (λc q=>by rw[g9 (je q hn)];exact q) λc xs q=>by rw[g9 (je q hn)];exact q
end
def Rd (H:Hp)(a:ak)(u:HO):Prop:=H a=aa u\/∃o,H a=aa (.FY o u)
theorem Rd.ok{P:ba}{w:bI}{H:Hp}{h:az}{a:ak}{u:HO}(r:Rd H a u)(x:xv P w H h):jK P w H h a u:=by
 rcases r with r|⟨o,r⟩
 .exact x a u r
 .obtain⟨_,q⟩:=x a _ r;exact q
def Mut:Option HO->Prop
 |some (.lst _)=>True
 |some (.dK _)=>True
 |some (.dT _)=>True
 |some (.set _ _)=>True
 |some (.ins _ _ _)=>True
 |some (.ext _)=>True
 |some (.dE _ _)=>True
 |_=>False
section
variable {P:ba} {w:bI} {H:Hp} {h h':az} {x e:ak} {o':HO}
theorem xv.write(ok:xv P w H h)(g:Mut (H x))(o:e=x\/H e=aa (.own x))(k:∀b u,b≠e->h.get? b=aa u->h'.get? b=aa u)(m:∃u,h'.get? e=aa u)
(new:jK P w (upd H x o') h' x o'):xv P w (upd H x o') h':=λb u q=>by
 have f:∀c y,H c=aa (.own y)->c≠x:=λc y r z=>by subst z;rw[r] at g;exact g
 have n:∀c xs,H c=aa (.tup xs)->c≠x:=λc xs r z=>by subst z;rw[r] at g;exact g
 by_cases i:b=x
 .subst i;rw[ip] at q;cases q;exact new
 .rw[g9 i] at q;by_cases a:b=e
  .have p:H b=aa (.own x):=by
    rcases o with z|z
    .exact absurd (a.trans z) i
    .rw[a];exact z
   rw[q] at p;cases p;obtain⟨v,A⟩:=m;exact⟨v,by rw[a];exact A⟩
  .refine(ok b u q).FZ (λc v j r=>k c v ?_ r) (λc r=>by rw[g9 (f c b r)];exact r) λc xs r=>by rw[g9 (n c xs r)];exact r
   rcases j with rfl|j
   .exact a
   .rintro rfl
    rcases o with z|z
    .exact f c b j z
    .rw[j] at z;cases z;exact i rfl
end
structure Un(fs ex:List ak)(H H':Hp)(h h':az):Prop where
 keep:∀b o,h.get? b=aa o->H b=ao->b∉fs->b∉ex->h'.get? b=aa o
 slot:∀b o,h.get? b=aa o->H b=ao->b∈fs->b∉ex->∃sl,h'.get? b=aa {o with slots:=sl}
 free:∀b o,h.get? b=aa o->H b=ao->b∉ex->H' b=ao
 there:∀b o,h.get? b=aa o->b∉ex->∃o',h'.get? b=aa o'
 C1:∀b xs,H b=aa (.tup xs)->H' b=aa (.tup xs)
 A9:∀b o u,H b=aa (.FY o u)->H' b=aa (.FY o u)
 Ba:∀b ps,H b=aa (.A8 ps)->∃more,H' b=aa (.A8 (ps++more))
section
variable {fs fs' ex ex':List ak} {H H1 H2:Hp} {h h1 h2 h':az} {a x e:ak} {o:HO}
theorem Un.any(u:Un fs ex H H1 h h1){b:ak}{c:cm}(q:h.get? b=aa c)(n:H b=ao)(f:b∉ex):∃sl,h1.get? b=aa {c with slots:=sl}:=by
 by_cases g:b∈fs
 .exact u.slot b c q n g f
 .exact⟨c.slots,u.keep b c q n g f⟩
theorem Un.trans(a:Un fs ex H H1 h h1)(b:Un fs ex H1 H2 h1 h2):Un fs ex H H2 h h2 where
 keep:=λc f q n j g=>b.keep c f (a.keep c f q n j g) (a.free c f q n g) j g
 slot:=λc f q n j g=>by obtain⟨sl,i⟩:=a.slot c f q n j g;obtain⟨m,p⟩:=b.slot c _ i (a.free c f q n g) j g;exact⟨m,p⟩
 free:=λc f q n g=>by obtain⟨r,i⟩:=a.there c f q g;exact b.free c r i (a.free c f q n g) g
 there:=λc f q g=>by obtain⟨r,i⟩:=a.there c f q g;exact b.there c r i g
 C1:=λc xs q=>b.C1 c xs (a.C1 c xs q)
 A9:=λc f xs q=>b.A9 c f xs (a.A9 c f xs q)
 Ba:=λc u q=>by obtain⟨v,i⟩:=a.Ba c u q;obtain⟨w,p⟩:=b.Ba c _ i;exact⟨v++w,by rw[p,Array.append_assoc]⟩
theorem Un.kept(k:∀b u,h.get? b=aa u->h'.get? b=aa u):Un fs ex H H h h':=
 ⟨λb c q _ _ _=>k b c q,λb c q _ _ _=>⟨c.slots,k b c q⟩,λ_ _ _ n _=>n,λb c q _=>⟨c,k b c q⟩,λ_ _ q=>q,λ_ _ _ q=>q,λ_ f q=>⟨#[],by rw[q];simp⟩⟩
theorem Un.refl:Un fs ex H H h h:=Un.kept λ_ _ q=>q
theorem Un.laid(k:∀b u,h.get? b=aa u->h'.get? b=aa u)(c:h.objs.size<=a)(hn:H a=ao):Un fs ex H (upd H a o) h h' where
 keep:=λb u q _ _ _=>k b u q
 slot:=λb u q _ _ _=>⟨u.slots,k b u q⟩
 free:=λb u q n _=>by rw[g9 (bf (bB (aN q) c))];exact n
 there:=λb u q _=>⟨u,k b u q⟩
 C1:=λb xs q=>by rw[g9 (je q hn)];exact q
 A9:=λb u xs q=>by rw[g9 (je q hn)];exact q
 Ba:=λb f q=>⟨#[],by rw[g9 (je q hn),q];simp⟩
theorem Un.write(f:Mut (H x))(m:e=x\/H e=aa (.own x))(k:∀b u,b≠e->h.get? b=aa u->h'.get? b=aa u)(g:∃u,h'.get? e=aa u):Un fs ex H (upd H x o) h h':=by
 have i:∀b,H b=ao->b≠x:=λb n z=>by subst z;rw[n] at f;exact f
 have j:∀b,H b=ao->b≠e:=λb n z=>by
  subst z;rcases m with r|r
  .exact i b n r
  .rw[n] at r;cases r
 have hm:∀b u,H b=aa u->¬Mut (aa u)->b≠x:=λb u q nm z=>by subst z;rw[q] at f;exact nm f
 refine⟨λb u q n _ _=>k b u (j b n) q,λb u q n _ _=>⟨u.slots,k b u (j b n) q⟩,λb u q n _=>by rw[g9 (i b n)];exact n,λb u q _=>?_,
  λb xs q=>by rw[g9 (hm b _ q λz=>z)];exact q,λb u xs q=>by rw[g9 (hm b _ q λz=>z)];exact q,λb p q=>⟨#[],by rw[g9 (hm b _ q λz=>z),q];simp⟩⟩
 by_cases c:b=e
 .subst c;exact g
 .exact⟨u,k b u c q⟩
end
noncomputable def trk(h:az)(H:Hp):List ak:=(cB h.objs.size).filter λa=>(H a).isSome
noncomputable def F0(h:az)(H:Hp):az:=W.hideAll h (trk h H)
theorem U7(h:az)(H:Hp):(F0 h H).objs.size=h.objs.size:=W.hideAll_size _ _
theorem W4{h:az}{H:Hp}{b:ak}{o:cm}(e:h.get? b=aa o)(n:H b=ao):(F0 h H).get? b=aa o:=
 W.hideAll_get _ e λhm=>by have q:(H b).isSome=ag:=(eK.mp hm).2;rw[n] at q;simp at q
theorem aaq{h:az}{H:Hp}{b:ak}{o:cm}(e:(F0 h H).get? b=aa o):h.get? b=aa o/\H b=ao:=by
 have e':h.get? b=aa o:=W.of_hideAll (trk h H) e;refine⟨e',?_⟩;cases q:H b with
 |none=>rfl
 |some x=>
  have hm:b∈trk h H:=eK.mpr ⟨List.mem_range.mpr (aN e'),by simp[q]⟩;have z:(F0 h H).get? b=ao:=W.hideAll_none (trk h H) hm;rw[z] at e;cases e
noncomputable def aar(g h:az)(L:ak):List (ak×cm):=(cB h.objs.size).filterMap λa=>if a=L\/(g.get? a).isSome=ag then ao else(h.get? a).map λo=>(a,o)
noncomputable def rest(g h:az)(L d:ak):List (ak×cm):=(aar g h L).filter λp=>decide (p.1≠d)
structure Mod(K:bz)(mg:ay->Option ae)(cv:az):Prop where
 kin:K.In cv
 glob:cv.Ns aY mg
 blt:∃mb,cv.Ns akx mb/\∀x:ay,x≠"__name__"->mb x=bU x
 nolimit:cv.NoLimit
structure Cx where
 prog:ba
 w:bI
 K:bz
 mg:ay->Option ae
 cv:az
 A:bv
 N:List ay
 iY:aq
 jG:Hp
 env:ajk
 dk:List ajk
 stack:List ajk
 ex:List ak
 fn:ay->Bool
 calm:Bool
 pn:List (ak×cm)
 xe:ae->aq->Prop
noncomputable def E4(l:List ajk):List ak:=l.filterMap (·.frame)
abbrev Cx.fs(X:Cx):List ak:=E4 X.dk
def Vis (sc:df)(x:ay):Prop:=sc.names.lookup x=aa .local\/sc.names.lookup x=aa .cell\/sc.names.lookup x=aa .free
def Loc (sc:df)(x:ay):Prop:=sc.names.lookup x=aa .local\/sc.names.lookup x=aa .cell
def Look (env:ajk)(h:az)(m:ay->Option ae)(x:ay)(u:ae):Prop:=
 (env.kindOf x=aa .local/\m x=aa u)\/((env.kindOf x=aa .cell\/env.kindOf x=aa .free)/\∃c,env.cells.lookup x=aa c/\h.IsCell c (aa u))
structure Cx.Ok(X:Cx):Prop where
 mod:Mod X.K X.mg X.cv
 kind:X.env.scope.kind=.function
 glob:X.env.globals=aY
 blt:X.env.builtins=akx
 above:X.iY.heap.objs.size<=X.env.locals
 inj:∀x y c,X.env.cells.lookup x=aa c->X.env.cells.lookup y=aa c->x=y
 has:∀x,(X.env.kindOf x=aa .cell\/X.env.kindOf x=aa .free)->∃c,X.env.cells.lookup x=aa c
 cab:∀x c,X.fn x=ag->X.env.cells.lookup x=aa c->X.iY.heap.objs.size<=c
 hd:X.calm=ag->X.A.handled=ao
 frames:X.A.frames=aa X.stack
 stk:X.stack=X.dk\/(X.stack=X.env::X.dk/\X.env.frame=aa X.env.locals)
 exf:∀b∈X.ex,b≠X.env.locals/\∀x c,X.env.cells.lookup x=aa c->c≠b
 bs:∀b o,X.cv.get? b=aa o->X.iY.heap.get? b=aa o/\X.jG b=ao
 W5:X.cv.objs.size<=X.iY.heap.objs.size
 U8:∀b o,X.cv.get? b=aa o->b∉X.ex
 aas:∀b∈X.ex,b∉X.fs
 C2:X.iY.heap.FunFrames X.cv X.dk
 frf:∀b∈X.fs,X.jG b=ao
structure Inv(X:Cx)(cq:List (ak×cm))(σ:List (Option V))(H:Hp)(s:aq):Prop where
 ok:X.Ok
 os:s.os=X.iY.os
 bare:fN s.gens
 cv:Un X.fs X.ex X.jG H X.iY.heap s.heap
 loc:∃m,s.heap.Ns X.env.locals m/\∀(i:Nat) (x:ay) (v:V),X.N[i]?=aa x->σ[i]?=aa (aa v)->Vis X.env.scope x->∃u,RelV v u/\Look X.env s.heap m x u
 cell:∀x c,X.env.cells.lookup x=aa c->∃v,s.heap.IsCell c v
 free:H X.env.locals=ao
 wS:∀x c,X.env.cells.lookup x=aa c->H c=ao
 pin:∀p∈X.pn++cq,s.heap.get? p.1=aa p.2/\H p.1=ao/\p.1≠X.env.locals/\p.1∉X.fs/\∀v,p.2.data≠.cell v
 jo:xv X.prog X.w H s.heap
 len:σ.length=X.N.length
section
variable {X:Cx} {cq:List (ak×cm)} {σ:List (Option V)} {H H':Hp} {s:aq} {h':az}
theorem Cx.Ok.ahJ(ok:X.Ok){b:ak}{o:cm}(e:X.cv.get? b=aa o):b∉X.fs:=λa=>by have:=(ok.C2.mem a).1;rw[e] at this;cases this
theorem Inv.bs(I:Inv X cq σ H s):∀b o,X.cv.get? b=aa o->s.heap.get? b=aa o/\H b=ao:=λb o e=>
 ⟨I.cv.keep b o (I.ok.bs b o e).1 (I.ok.bs b o e).2 (I.ok.ahJ e) (I.ok.U8 b o e),I.cv.free b o (I.ok.bs b o e).1 (I.ok.bs b o e).2 (I.ok.U8 b o e)⟩
theorem Inv.bk(I:Inv X cq σ H s):∀b o,X.cv.get? b=aa o->s.heap.get? b=aa o:=λb o e=>(I.bs b o e).1
theorem Inv.mod(I:Inv X cq σ H s):Mod X.K X.mg X.cv:=I.ok.mod
theorem Inv.zM(I:Inv X cq σ H s):X.K.In s.heap:=I.ok.mod.kin.keeps I.bk
theorem Inv.lt(I:Inv X cq σ H s):X.env.locals<s.heap.objs.size:=let⟨_,hn,_⟩:=I.loc;hn.lt
theorem Inv.sz(I:Inv X cq σ H s):X.iY.heap.objs.size<=s.heap.objs.size:=bG I.ok.above (dF I.lt)
theorem Inv.adp(I:Inv X cq σ H s){a:ak}(h:s.heap.objs.size<=a):a∉X.fs:=λb=>by obtain⟨_,o,c,_⟩:=I.ok.C2.mem b;exact absurd (bB (aN c) (bG I.sz h)) (dN _)
theorem Inv.cne(I:Inv X cq σ H s):∀x c,X.env.cells.lookup x=aa c->c≠X.env.locals:=λx c e z=>by obtain⟨v,o,b,hd⟩:=I.cell x c e;obtain⟨m,⟨g,es,h,f,a,_⟩,_⟩:=I.loc;rw[z,f] at b;cases b;rw[a] at hd;cases hd
theorem Inv.C2(I:Inv X cq σ H s):s.heap.FunFrames X.cv X.dk:=by
 have all:∀(l:List ajk),(∀b∈E4 l,b∈X.fs)->X.iY.heap.FunFrames X.cv l->s.heap.FunFrames X.cv l:=by
  intro l;induction l with
  |nil=>intro _ _;trivial
  |cons env r h=>
   intro g i;obtain⟨j,⟨L,o,a,hn,m,hd⟩,n⟩:=i;have c:L∈X.fs:=g L (by unfold E4;rw[fF,a];exact av);obtain⟨sl,e⟩:=I.cv.slot L o m (I.ok.frf L c) c λz=>I.ok.aas L z c;exact⟨j,⟨L,_,a,hn,e,hd⟩,h (λb f=>g b (by unfold E4;rw[fF,a];exact aH _ f)) n⟩
 exact all X.dk (λ_ f=>f) I.ok.C2
theorem Inv.stack(I:Inv X cq σ H s):s.heap.FunFrames X.cv X.stack:=by
 rcases I.ok.stk with e|⟨e,a⟩
 .rw[e];exact I.C2
 .rw[e];obtain⟨m,hn,_⟩:=I.loc;refine .cons (by rw[I.ok.kind];decide) a hn ?_ I.C2;exact dZ (bG I.ok.W5 I.ok.above)
theorem Inv.Ag(I:Inv X cq σ H s):∀b∈E4 X.stack,b∈X.env.locals::X.fs:=λb a=>by
 rcases I.ok.stk with e|⟨e,c⟩
 .rw[e] at a;exact aH _ a
 .rw[e] at a;unfold E4 at a;rw[fF,c] at a;exact a
theorem Inv.Tu(I:Inv X cq σ H s):∀b∈E4 X.stack,H b=ao:=λb a=>by
 rcases aO.mp (I.Ag b a) with e|a
 .rw[e];exact I.free
 .obtain⟨_,o,c,_⟩:=I.ok.C2.mem a;exact I.cv.free b o c (I.ok.frf b a) λz=>I.ok.aas b z a
theorem Inv.step{g':Array ajB}{Q:Nat}{d':Drawn}{ch:List ak}(I:Inv X cq σ H s)
(f:∀b∈ch,(b∈X.ex\/X.iY.heap.objs.size<=b)/\b≠X.env.locals/\(∀x c,X.env.cells.lookup x=aa c->c≠b)/\∀p∈X.pn++cq,p.1≠b)
(keep:∀b o,b≠X.env.locals->b∉X.fs->b∉ch->s.heap.get? b=aa o->H b=ao->h'.get? b=aa o)
(slot:∀b o,b≠X.env.locals->b∈X.fs->b∉ch->s.heap.get? b=aa o->H b=ao->∃sl,h'.get? b=aa {o with slots:=sl})(free:∀b o,b∉ch->s.heap.get? b=aa o->H b=ao->H' b=ao)
(there:∀b o,b∉ch->s.heap.get? b=aa o->∃B,h'.get? b=aa B)
(C1:∀b xs,H b=aa (.tup xs)->H' b=aa (.tup xs))(A9:∀b o u,H b=aa (.FY o u)->H' b=aa (.FY o u))(Ba:∀b J,H b=aa (.A8 J)->∃more,H' b=aa (.A8 (J++more)))
(ns:∀m,s.heap.Ns X.env.locals m->h'.Ns X.env.locals m)(jo:xv X.prog X.w H' h')(T:fN g'):
  Inv X cq σ H' {s with heap:=h',gens:=g',drawn:=d',toks:=Q}:=by
 have C:∀b o,X.iY.heap.get? b=aa o->b≠X.env.locals:=λb o e=>bf (bB (aN e) I.ok.above);have h:∀b o,X.iY.heap.get? b=aa o->b∉X.ex->b∉ch:=λb o e a y=>by
  rcases(f b y).1 with z|z
  .exact a z
  .exact absurd (bB (aN e) z) (dN _)
 have E:∀x c,X.env.cells.lookup x=aa c->∀v,s.heap.IsCell c v->h'.IsCell c v:=λx c e v ⟨o,A,hd⟩=>by
  have g:c∉ch:=λz=>(f c z).2.2.1 x c e rfl;by_cases M:c∈X.fs
  .obtain⟨sl,q⟩:=slot c o (I.cne x c e) M g A (I.wS x c e);exact⟨_,q,hd⟩
  .exact⟨o,keep c o (I.cne x c e) M g A (I.wS x c e),hd⟩
 refine⟨I.ok,I.os,T,⟨λb o e n y a=>?_,λb o e n y a=>?_,λb o e n a=>?_,λb o e a=>?_,λb xs e=>C1 b xs (I.cv.C1 b xs e),λb o xs e=>A9 b o xs (I.cv.A9 b o xs e),λb J e=>?_⟩,?_,λx c e=>?_,?_,λx c e=>?_,λp N=>?_,jo,I.len⟩
 .exact keep b o (C b o e) y (h b o e a) (I.cv.keep b o e n y a) (I.cv.free b o e n a)
 .obtain⟨sl,j⟩:=I.cv.slot b o e n y a;obtain⟨L,G⟩:=slot b _ (C b o e) y (h b o e a) j (I.cv.free b o e n a);exact⟨L,G⟩
 .obtain⟨B,j⟩:=I.cv.there b o e a;exact free b B (h b o e a) j (I.cv.free b o e n a)
 .obtain⟨B,j⟩:=I.cv.there b o e a;exact there b B (h b o e a) j
 .obtain⟨U,j⟩:=I.cv.Ba b J e;obtain⟨Y,G⟩:=Ba b _ j;exact⟨U++Y,by rw[G,Array.append_assoc]⟩
 .obtain⟨m,hn,hl⟩:=I.loc;refine⟨m,ns m hn,λi x v j G e3=>?_⟩;obtain⟨u,r,l⟩:=hl i x v j G e3;refine⟨u,r,?_⟩;rcases l with l|⟨k,c,e,z⟩
  .exact .inl l
  .exact .inr ⟨k,c,e,E x c e _ z⟩
 .obtain⟨v,z⟩:=I.cell x c e;exact⟨v,E x c e v z⟩
 .obtain⟨m,⟨o,_,_,A,_⟩,_⟩:=I.loc;exact free _ o (λz=>(f _ z).2.1 rfl) A I.free
 .obtain⟨v,o,A,hd⟩:=I.cell x c e;exact free c o (λz=>(f c z).2.2.1 x c e rfl) A (I.wS x c e)
 .obtain⟨e,n,ne,O,d⟩:=I.pin p N;have g:p.1∉ch:=λz=>(f p.1 z).2.2.2 p N rfl;exact⟨keep p.1 p.2 ne O g e n,free p.1 p.2 g e n,ne,O,d⟩
theorem Inv.un{t':Nat}(I:Inv X cq σ H s)(u:Un X.fs [] H H' s.heap h')(jo:xv X.prog X.w H' h'):Inv X cq σ H' {s with heap:=h',toks:=t'}:=by
 obtain⟨m,⟨o,es,p,g,r⟩,_⟩:=id I.loc;obtain⟨sl,i⟩:=u.any g I.free (by simp);exact I.step (g':=s.gens) (d':=s.drawn) (ch:=[]) (λ_ z=>nomatch z) (λb o _ a _ e n=>u.keep b o e n a (by simp)) (λb o _ a _ e n=>u.slot b o e n a (by simp)) (λb o _ e n=>u.free b o e n (by simp)) (λb o _ e=>u.there b o e (by simp)) u.C1 u.A9 u.Ba (λx hm=>by obtain⟨y,c,f,h,j⟩:=hm;rw[g] at h;cases h;exact⟨_,c,f,i,j⟩) jo I.bare
theorem Inv.call{g':Array ajB}{t':Nat}{d':Drawn}{ch:List ak}(I:Inv X cq σ H s)(u:Un (E4 X.stack) ch H H' s.heap h')(jo:xv X.prog X.w H' h')(v:fN g')
(f:∀b∈ch,(b∈X.ex\/X.iY.heap.objs.size<=b)/\b≠X.env.locals/\(∀x c,X.env.cells.lookup x=aa c->c≠b)/\∀p∈X.pn++cq,p.1≠b):
  Inv X cq σ H' {s with heap:=h',gens:=g',drawn:=d',toks:=t'}:=by
 obtain⟨m,⟨o,es,B,j,r⟩,_⟩:=id I.loc;obtain⟨sl,g⟩:=u.any j I.free λz=>(f _ z).2.1 rfl;exact I.step (ch:=ch) f (λb o g y a e n=>u.keep b o e n (λz=>(aO.mp (I.Ag b z)).elim g y) a) (λb o _ _ a e n=>u.any e n a) (λb o a e n=>u.free b o e n a) (λb o a e=>u.there b o e a) u.C1 u.A9 u.Ba (λC hm=>by obtain⟨E,h,i,q,A⟩:=hm;rw[j] at q;cases q;exact⟨_,h,i,g,A⟩) jo v
theorem Inv.turned{t':Nat}{it:ak}(I:Inv X cq σ H s)(k:∀b o,b≠it->s.heap.get? b=aa o->h'.get? b=aa o)(hn:H it=ao)(g:it≠X.env.locals)
(h:it∈X.ex\/X.iY.heap.objs.size<=it)(i:∀x c,X.env.cells.lookup x=aa c->c≠it)(j:∀p∈X.pn++cq,p.1≠it):Inv X cq σ H {s with heap:=h',toks:=t'}:=by
 have f:∀b u,H b=aa u->b≠it:=λb u e z=>by rw[z,hn] at e;cases e
 refine I.step (g':=s.gens) (d':=s.drawn) (ch:=[it]) (λb w=>?_) (λb o _ _ a e _=>k b o (λz=>a (by simp[z])) e) (λb o _ _ a e _=>⟨o.slots,k b o (λz=>a (by simp[z])) e⟩) (λ_ _ _ _ n=>n)
  (λb o a e=>⟨o,k b o (λz=>a (by simp[z])) e⟩) (λ_ _ e=>e) (λ_ _ _ e=>e) (λb E e=>⟨#[],by rw[e];simp⟩) (λm hm=>?_) (λb u e=>?_) I.bare
 .have e:b=it:=by simpa using w
  subst e;exact⟨h,g,i,j⟩
 .obtain⟨o,es,y,A,r⟩:=hm;exact⟨o,es,y,k _ o (cV g) A,r⟩
 .refine(I.jo b u e).FZ (λc v a q=>k c v ?_ q) (λ_ q=>q) λ_ _ q=>q;rcases a with z|z
  .rw[z];exact f b u e
  .exact f c _ z
theorem Inv.tok(I:Inv X cq σ H s)(t:Nat):Inv X cq σ H {s with toks:=t}:=I.un (h':=s.heap) (t':=t) Un.refl I.jo
theorem Inv.kept{t':Nat}(I:Inv X cq σ H s)(k:∀b u,s.heap.get? b=aa u->h'.get? b=aa u):Inv X cq σ H {s with heap:=h',toks:=t'}:=I.un (Un.kept k) (I.jo.kept k)
theorem Inv.laid{a:ak}{o:HO}{t':Nat}(I:Inv X cq σ H s)(k:∀b u,s.heap.get? b=aa u->h'.get? b=aa u)(c:s.heap.objs.size<=a)(new:jK X.prog X.w (upd H a o) h' a o):
  Inv X cq σ (upd H a o) {s with heap:=h',toks:=t'}:=I.un (Un.laid k c (I.jo.fresh c)) (I.jo.laid k c new)
theorem Inv.write{x e:ak}{o:HO}{g:Nat}(I:Inv X cq σ H s)(c:Mut (H x))(f:e=x\/H e=aa (.own x))(k:∀b u,b≠e->s.heap.get? b=aa u->h'.get? b=aa u)(a:∃u,h'.get? e=aa u)
(new:jK X.prog X.w (upd H x o) h' x o):Inv X cq σ (upd H x o) {s with heap:=h',toks:=g}:=I.un (Un.write c f k a) (I.jo.write c f k a new)
theorem Inv.Tv{a:List (ak×cm)}(I:Inv X cq σ H s)(h:∀p∈a,s.heap.get? p.1=aa p.2/\H p.1=ao/\p.1≠X.env.locals/\p.1∉X.fs/\∀v,p.2.data≠.cell v):Inv X a σ H s:=
 ⟨I.ok,I.os,I.bare,I.cv,I.loc,I.cell,I.free,I.wS,λp b=>(bg.mp b).elim (λz=>I.pin p (cb _ z)) (h p),I.jo,I.len⟩
theorem N5{N:List ay}(c:N.Nodup){i j:Nat}{x:ay}(a:N[i]?=aa x)(b:N[j]?=aa x):i=j:=by obtain⟨g,e⟩:=au.mp a;obtain⟨h,f⟩:=au.mp b;exact(List.getElem_inj c).mp (e.trans f.symm)
theorem KD{M:Model}{A:bv}{E:ae->aq->Prop}{i:Nat}{x:ay}{v:V}{u:ae}{Q:Unit->aq->Prop}(I:Inv X cq σ H s)(hN:X.N.Nodup)(hi:X.N[i]?=aa x)(C:Loc X.env.scope x)(r:RelV v u)
(h:∀s',Inv X cq (σ.set i (aa v)) H s'->(∃a,bJ a s.heap s'.heap/\(a=X.env.locals\/X.env.cells.lookup x=aa a))->Q () s')(hf:X.fn x=ag\/X.env.scope.names.lookup x=aa .local:=by first|exact .inl rfl|exact .inr rfl|assumption):wpAny M A (akO X.env x u) Q E s:=by
 obtain⟨m,hn,hl⟩:=id I.loc;have ahK:(X.env.scope.kind==.class||(X.env.scope.kind==.module&&X.env.locals !=X.env.globals))=ar:=by rw[I.ok.kind];rfl
 have U:i<σ.length:=by rw[I.len];exact(au.mp hi).1
 have cne:=I.cne;have Tx:∀{a:ak} {h':az},(∃o,s.heap.get? a=aa o/\H a=ao)->bJ a s.heap h'->xv X.prog X.w H h':=λ{a h'} ha f b ob e=>by
  obtain⟨_,_,Y⟩:=ha;refine(I.jo b ob e).FZ (λc w' B q=>(f.2 c ?_).trans q) (λ_ q=>q) λ_ _ q=>q
  rintro rfl
  rcases B with rfl|B
  .rw[Y] at e;cases e
  .rw[Y] at B;cases B
 rcases C with J|J
 .refine wpAny_storeName_local J hn (λh' hn' f=>?_) ahK;obtain⟨oL,_,_,hoL,_⟩:=id hn;refine h _ ⟨I.ok,I.os,I.bare,⟨λb o e n L C=>?_,λb o e n L C=>?_,I.cv.free,λb o e C=>?_,I.cv.C1,I.cv.A9,I.cv.Ba⟩,⟨_,hn',λj y v' g G e3=>?_⟩,λy c e=>?_,I.free,I.wS,λp hp=>?_,Tx ⟨oL,hoL,I.free⟩ f,by simpa using I.len⟩ ⟨_,f,.inl rfl⟩
  .exact(f.2 b (bf (bB (aN e) I.ok.above))).trans (I.cv.keep b o e n L C)
  .obtain⟨sl,g⟩:=I.cv.slot b o e n L C;exact⟨sl,(f.2 b (bf (bB (aN e) I.ok.above))).trans g⟩
  .obtain⟨o',g⟩:=I.cv.there b o e C;exact⟨o',(f.2 b (bf (bB (aN e) I.ok.above))).trans g⟩
  .by_cases O:j=i
   .subst O;rw[hi] at g;cases g;rw[cu U] at G;cases G;exact⟨u,r,.inl ⟨J,by simp⟩⟩
   .rw[c9 (cV O)] at G;obtain⟨u',r',q⟩:=hl j y v' g G e3;refine⟨u',r',?_⟩;rcases q with⟨k,e⟩|⟨k,c,e,z⟩
    .refine .inl ⟨k,?_⟩;have:y≠x:=λe=>O (N5 hN g (e▸hi));simp[this,e]
    .exact .inr ⟨k,c,e,z.sameBut f (cne y c e)⟩
  .obtain⟨w',z⟩:=I.cell y c e;exact⟨w',z.sameBut f (cne y c e)⟩
  .obtain⟨e,n,ne,nf,d⟩:=I.pin p hp;exact⟨(f.2 p.1 ne).trans e,n,ne,nf,d⟩
 .have T:X.fn x=ag:=by
   rcases hf with z|z
   .exact z
   .rw[z] at J;cases J
  obtain⟨c,B⟩:=I.ok.has x (.inl J);obtain⟨w',z⟩:=I.cell x c B;refine wpAny_storeName_cell I.ok.kind J B z (λh' hc' f=>?_);obtain⟨oc,hoc,ahL⟩:=id z;refine h {s with heap:=h'} ⟨I.ok,I.os,I.bare,⟨λb o e n L C=>?_,λb o e n L C=>?_,I.cv.free,λb o e C=>?_,I.cv.C1,I.cv.A9,I.cv.Ba⟩,⟨m,hn.sameBut f (cV (cne x c B)),λj y v' g G e3=>?_⟩,λy c' e=>?_,I.free,I.wS,λp hp=>?_,Tx ⟨oc,hoc,I.wS x c B⟩ f,by simpa using I.len⟩ ⟨c,f,.inr B⟩
  .exact(f.2 b (bf (bB (aN e) (I.ok.cab x c T B)))).trans (I.cv.keep b o e n L C)
  .obtain⟨sl,g⟩:=I.cv.slot b o e n L C;exact⟨sl,(f.2 b (bf (bB (aN e) (I.ok.cab x c T B)))).trans g⟩
  .obtain⟨o',g⟩:=I.cv.there b o e C;exact⟨o',(f.2 b (bf (bB (aN e) (I.ok.cab x c T B)))).trans g⟩
  .by_cases O:j=i
   .subst O;rw[hi] at g;cases g;rw[cu U] at G;cases G;exact⟨u,r,.inr ⟨.inl J,c,B,hc'⟩⟩
   .rw[c9 (cV O)] at G;obtain⟨u',r',q⟩:=hl j y v' g G e3;refine⟨u',r',?_⟩;rcases q with q|⟨k,c',e,z'⟩
    .exact .inl q
    .refine .inr ⟨k,c',e,z'.sameBut f ?_⟩
     rintro rfl
     exact O (N5 hN g (I.ok.inj _ _ _ e B▸hi))
  .by_cases hcc:c'=c
   .subst hcc;exact⟨_,hc'⟩
   .obtain⟨w2,z2⟩:=I.cell y c' e;exact⟨w2,z2.sameBut f hcc⟩
  .obtain⟨e,n,ne,nf,d⟩:=I.pin p hp;refine⟨(f.2 p.1 ?_).trans e,n,ne,nf,d⟩;intro q;rw[q,hoc] at e;have q':oc=p.2:=bD e;exact d w' (by rw[<-q'];exact ahL)
theorem F1{M:Model}{A:bv}{E:ae->aq->Prop}{i:Nat}{x:ay}{v:V}{u:ae}{Q:Unit->aq->Prop}(I:Inv X cq σ H s)(b:X.N.Nodup)(hi:X.N[i]?=aa x)(c:Loc X.env.scope x)(r:RelV v u)
(h:∀a,Inv X cq (σ.set i (aa v)) H a->Q () a)(e:X.fn x=ag\/X.env.scope.names.lookup x=aa .local:=by first|exact .inl rfl|exact .inr rfl|assumption):wpAny M A (akO X.env x u) Q E s:=
 KD I b hi c r (λa f _=>h a f) e
theorem Inv.W7{a:aq}{ch:List ak}(I:Inv X cq σ H s)(j:a.os=s.os)(u:Un (E4 X.stack) ch H H' s.heap a.heap)(jo:xv X.prog X.w H' a.heap)(m:fN a.gens)
(f:∀b∈ch,(b∈X.ex\/X.iY.heap.objs.size<=b)/\b≠X.env.locals/\(∀x c,X.env.cells.lookup x=aa c->c≠b)/\∀p∈X.pn++cq,p.1≠b):Inv X cq σ H' a:=by obtain⟨h',g,h,i,n⟩:=a;have e:n=s.os:=j;subst e;exact I.call (g':=g) (t':=i) (d':=h) u jo m f
end
abbrev XK:=ae->Option ak->Hp->Prop
abbrev St:=List (Option V)
abbrev VK:=V->Hp->Prop
abbrev TE:=St->Hp->VK->Prop
abbrev TT:=St->Hp->(Bool->Hp->Prop)->Prop
abbrev TA:=St->Hp->(List V->Hp->Prop)->Prop
structure Ends where
 nx:St->Hp->Prop
 rt:VK
 bk:St->Hp->Prop:=λ_ _=>False
 ct:St->Hp->Prop:=λ_ _=>False
abbrev TS:=Ends->St->Hp->Prop
def EP (X:Cx)(cq:List (ak×cm))(σ:St)(Q:VK)(u:ae)(b:aq):Prop:=∃v a,Inv X cq σ a b/\RelV v u/\Q v a
def TP (X:Cx)(cq:List (ak×cm))(σ:St)(Q:Bool->Hp->Prop)(b:Bool)(c:aq):Prop:=∃a,Inv X cq σ a c/\Q b a
def AP (X:Cx)(cq:List (ak×cm))(σ:St)(Q:List V->Hp->Prop)(us:List ae)(c:aq):Prop:=∃a b,Inv X cq σ b c/\Vals a us/\Q a b
def SP (X:Cx)(cq:List (ak×cm))(D:Ends)(f:Flow)(c:aq):Prop:=
 match f with
 |.next=>∃b a,Inv X cq b a c/\D.nx b a
 |.brk=>∃b a,Inv X cq b a c/\D.bk b a
 |.cont=>∃b a,Inv X cq b a c/\D.ct b a
 |.ret u=>∃v b a,Inv X cq b a c/\RelV v u/\D.rt v a
def PE (X:Cx)(e:bC)(t:TE):Prop:=
 ∀(cq:List (ak×cm)) (s:aq) (σ:St) (H:Hp) (Q:VK),Inv X cq σ H s->t σ H Q->wpAny (model X.prog X.w) X.A (eval e X.env) (EP X cq σ Q) X.xe s
def PT (X:Cx)(e:bC)(t:TT):Prop:=
 ∀(cq:List (ak×cm)) (s:aq) (σ:St) (H:Hp) (Q:Bool->Hp->Prop),Inv X cq σ H s->t σ H Q->wpAny (model X.prog X.w) X.A (akc e X.env (eval e X.env)) (TP X cq σ Q) X.xe s
def PW (X:Cx)(e:bC)(t:TT):Prop:=
 ∀(a:akW ae) (cq:List (ak×cm)) (s:aq) (σ:St) (H:Hp) (Q:Bool->Hp->Prop),Inv X cq σ H s->t σ H Q->wpAny (model X.prog X.w) X.A (akc e X.env a) (TP X cq σ Q) X.xe s
theorem PW.pt{X:Cx}{e:bC}{t:TT}(h:PW X e t):PT X e t:=h _
def PA (X:Cx)(es:List bC)(t:TA):Prop:=
 ∀(pos:d8) (cq:List (ak×cm)) (s:aq) (σ:St) (H:Hp) (Q:List V->Hp->Prop),Inv X cq σ H s->t σ H Q->wpAny (model X.prog X.w) X.A (spliced (c7 pos (bc es X.env))) (AP X cq σ Q) X.xe s
def PS (X:Cx)(st:bL)(t:TS):Prop:=
 ∀(cq:List (ak×cm)) (s:aq) (σ:St) (H:Hp) (D:Ends),Inv X cq σ H s->t D σ H->wpAny (model X.prog X.w) X.A (exec st X.env) (SP X cq D) X.xe s
def Jo (X:Cx)(st:List bL)(t:TS):Prop:=
 ∀(cq:List (ak×cm)) (s:aq) (σ:St) (H:Hp) (D:Ends),Inv X cq σ H s->t D σ H->wpAny (model X.prog X.w) X.A (execs st X.env) (SP X cq D) X.xe s
theorem kq{α:Type}{t:akW α}{Q b:α->aq->Prop}{M:Model}{A:bv}{E:ae->aq->Prop}{s:aq}(h:wpAny M A t Q E s)(c:∀a s,Q a s->b a s):wpAny M A t b E s:=cw h c λ_ _ x=>x
section
variable {X:Cx}
def afA (i:Nat):TE:=λσ H Q=>∃v,σ[i]?=aa (aa v)/\Q v H
def tC (v:V):TE:=λ_ H Q=>Q v H
theorem Q1{i:Nat}{x:ay}{pos:d8}(j:X.N[i]?=aa x)(n:Vis X.env.scope x)(hd:(x==("__debug__":ay))=ar:=by decide)(o:(x==("__classdict__":ay))=ar:=by decide):PE X (.Name x pos) (afA i):=by
 intro cq s σ H Q I h;obtain⟨v,e,h⟩:=h;obtain⟨m,hn,p⟩:=I.loc;obtain⟨u,r,l⟩:=p i x v j e n;have b:EP X cq σ Q u s:=⟨v,H,I,r,h⟩;rcases l with⟨a,hm⟩|⟨a,c,f,g⟩
 .exact aky (aks I.ok.kind a hn hm b) hd
 .rcases a with a|a
  .exact aky (akw I.ok.kind a f g b) hd
  .exact aky (wpAny_loadName_free I.ok.kind a f g b o) hd
theorem W8{i j pos}:PE X (.Constant (.int i) j pos) (tC (.int i)):=λ_ _ _ H _ I h=>wpAny_Constant_int ⟨.int i,H,I.tok _,⟨_,rfl⟩,h⟩
theorem afB{b j pos}:PE X (.Constant (.bool b) j pos) (tC (.bl b)):=λ_ _ _ H _ I h=>Constant_bool ⟨.bl b,H,I,rfl,h⟩
theorem adq{j pos}:PE X (.Constant .none j pos) (tC .non):=λ_ _ _ H _ I h=>Constant_none ⟨.non,H,I,rfl,h⟩
theorem adr{x j pos}:PE X (.Constant (.str x) j pos) (tC (.str x)):=λ_ _ _ H _ I h=>Calls.Constant_str ⟨.str x,H,I.tok _,⟨_,rfl⟩,h⟩
def Gl (X:Cx)(x:ay):Prop:=X.env.kindOf x=aa .globalImplicit
theorem Fu{E:ae->aq->Prop}{cq:List (ak×cm)}{s:aq}{σ:St}{H:Hp}{x:ay}{u:ae}{pos:d8}{Q:ae->aq->Prop}(I:Inv X cq σ H s)(a:Gl X x)(hm:X.mg x=aa u)(h:Q u s)
(hd:(x==("__debug__":ay))=ar:=by decide):wpAny (model X.prog X.w) X.A (eval (.Name x pos) X.env) Q E s:=
 Calls.Name_function_global I.ok.kind a (Calls.loadGlobal_global (by rw[I.ok.glob];exact I.mod.glob.keeps I.bk) hm h) hd
theorem Ah{E:ae->aq->Prop}{cq:List (ak×cm)}{s:aq}{σ:St}{H:Hp}{x:ay}{u:ae}{pos:d8}{Q:ae->aq->Prop}(I:Inv X cq σ H s)(a:Gl X x)(hm:X.mg x=ao)(b:bU x=aa u)(h:Q u s)
(hn:x≠"__name__":=by decide)(hd:(x==("__debug__":ay))=ar:=by decide):wpAny (model X.prog X.w) X.A (eval (.Name x pos) X.env) Q E s:=by obtain⟨f,c,e⟩:=I.mod.blt;exact Calls.Name_function_global I.ok.kind a (Calls.loadGlobal_builtin (by rw[I.ok.glob];exact I.mod.glob.keeps I.bk) hm (by rw[I.ok.blt];exact c.keeps I.bk) ((e x hn).trans b) h) hd
theorem aat{x:ay}{v:V}{u:ae}{pos:d8}(a:Gl X x)(hm:X.mg x=aa u)(r:RelV v u)(hd:(x==("__debug__":ay))=ar:=by decide):PE X (.Name x pos) (tC v):=
 λ_ _ _ H _ I h=>Fu I a hm ⟨v,H,I,r,h⟩ hd
theorem aau{x:ay}{v:V}{u:ae}{pos:d8}(a:Gl X x)(hm:X.mg x=ao)(b:bU x=aa u)(r:RelV v u)(hn:x≠"__name__":=by decide)(hd:(x==("__debug__":ay))=ar:=by decide):PE X (.Name x pos) (tC v):=
 λ_ _ _ H _ I h=>Ah I a hm b ⟨v,H,I,r,h⟩ hn hd
variable {a b:bC} {ta tb:TE} {pos:d8}
def tB (t:TE):TT:=λσ H Q=>t σ H λx H1=>∃c,x=.bl c/\Q c H1
theorem ads{e:bC}{t:TE}(h:PE X e t)(f:∀c,akc e X.env c=(do let v<-c;ajC e.pos;holding [v] (truthy v)):=by intro _;rfl):PT X e (tB t):=by intro cq s σ H Q I hw;refine isTrue_plain (kq (h cq s σ H _ I hw) λv s1 ⟨x,H1,g,i,j⟩=>?_) (f _);obtain⟨d,rfl,q⟩:=j;cases i;exact cA ⟨H1,g,q⟩
variable {tA W9:TT} {rest:List bC}
def ahM (t u:TT):TT:=λσ H Q=>t σ H λc H1=>if c=ag then u σ H1 Q else Q ar H1
def tOr (t u:TT):TT:=λσ H Q=>t σ H λc H1=>if c=ag then Q ag H1 else u σ H1 Q
def ahN (t:TT):TT:=λσ H Q=>t σ H λc H1=>Q (!c) H1
theorem pw_and1(ha:PT X a tA):PW X (.BoolOp .And [a] pos) tA:=by
 intro f cq s σ H Q I h;refine isTrue_and (kq (ha cq s σ H Q I h) λc s1 e=>?_);cases c with
 |true=>exact isTrue_and_nil e
 |false=>exact e
theorem pw_or1(ha:PT X a tA):PW X (.BoolOp .Or [a] pos) tA:=by
 intro f cq s σ H Q I h;refine isTrue_or (kq (ha cq s σ H Q I h) λc s1 e=>?_);cases c with
 |false=>exact isTrue_or_nil e
 |true=>exact e
theorem pw_and(ha:PT X a tA)(g:PW X (.BoolOp .And (b::rest) pos) W9):PW X (.BoolOp .And (a::b::rest) pos) (ahM tA W9):=by
 intro i cq s σ H Q I h;refine isTrue_and (kq (ha cq s σ H _ I h) λc s1 j=>?_);obtain⟨H1,e,f⟩:=j;cases c with
 |true=>exact g i cq s1 σ H1 Q e f
 |false=>exact⟨H1,e,f⟩
theorem pw_or(ha:PT X a tA)(g:PW X (.BoolOp .Or (b::rest) pos) W9):PW X (.BoolOp .Or (a::b::rest) pos) (tOr tA W9):=by
 intro i cq s σ H Q I h;refine isTrue_or (kq (ha cq s σ H _ I h) λc s1 j=>?_);obtain⟨H1,e,f⟩:=j;cases c with
 |true=>exact⟨H1,e,f⟩
 |false=>exact g i cq s1 σ H1 Q e f
theorem adt(ha:PT X a tA):PT X (.UnaryOp .Not a pos) (ahN tA):=by intro cq s σ H Q I h;exact isTrue_not (ha cq s σ H (λc H1=>Q (!c) H1) I h)
def afC (ta tb:TE):TE:=λσ H Q=>ta σ H λx H1=>∃c,x=.bl c/\if c=ag then tb σ H1 Q else Q (.bl ar) H1
def afD (ta:TE):TE:=λσ H Q=>ta σ H λx H1=>∃c,x=.bl c/\Q (.bl (!c)) H1
theorem adu{op}{t:TE}(h:PE X a t):PE X (.BoolOp op [a] pos) t:=λcq s σ H Q I hw=>BoolOp_one (h cq s σ H Q I hw)
theorem adv(ha:PE X a ta)(g:PE X (.BoolOp .And (b::rest) pos) tb):PE X (.BoolOp .And (a::b::rest) pos) (afC ta tb):=by
 intro cq s σ H Q I h;refine BoolOp_and (kq (ha cq s σ H _ I h) λv s1 i=>?_);obtain⟨x,H1,f,j,e⟩:=i;obtain⟨c,rfl,e⟩:=e;cases j;refine cA ?_;cases c with
 |true=>exact g cq s1 σ H1 Q f e
 |false=>exact⟨.bl ar,H1,f,rfl,e⟩
theorem adw(ha:PE X a ta):PE X (.UnaryOp .Not a pos) (afD ta):=by intro cq s σ H Q I h;refine UnaryOp_ (kq (ha cq s σ H _ I h) λv s1 f=>?_);obtain⟨x,H1,g,i,e⟩:=f;obtain⟨c,rfl,e⟩:=e;cases i;exact not_of (cA ⟨.bl (!c),H1,g,rfl,e⟩)
def tIf (t:TT)(ta tb:TE):TE:=λσ H Q=>t σ H λc H1=>if c=ag then ta σ H1 Q else tb σ H1 Q
theorem Xa{c:bC}(g:PT X c tA)(ha:PE X a ta)(i:PE X b tb):PE X (.IfExp c a b pos) (tIf tA ta tb):=by
 intro cq s σ H Q I h;refine wpAny_IfExp (kq (g cq s σ H _ I h) λd s1 j=>?_);obtain⟨H1,e,f⟩:=j;cases d with
 |true=>exact ha cq s1 σ H1 Q e f
 |false=>exact i cq s1 σ H1 Q e f
end
def p7 (K:bz)(H:Hp)(a:ak)(xs:List V):Prop:=
 Rd H a (.lst xs)\/
  ∃(o:cm) (ia:Array ae) (n:Nat),K.lookup a=aa o/\o.cls=.type "list"/\o.dict=ao/\o.data=.seq ia n/\ia.size<=aC/\Vals xs ia.toList
def Bb (K:bz)(H:Hp)(a:ak)(xs:List V):Prop:=
 Rd H a (.tup xs)\/
  ∃(o:cm) (ia:Array ae) (n:Nat),K.lookup a=aa o/\o.cls=.type "tuple"/\o.data=.seq ia n/\ia.size<=aC/\Vals xs ia.toList
noncomputable def ahO:ae->Option V
 |.none=>aa .non
 |.bool b=>aa (.bl b)
 |.int i _=>aa (.int i)
 |.str x _=>aa (.str x)
 |.bytes b _=>aa (.WO b)
 |.float b _=>aa (.flt b)
 |.ref a=>aa (.ref a)
 |.type n=>aa (.ty n)
 |_=>ao
theorem RelV.abs{x:V}{u:ae}(r:RelV x u):ahO u=aa x:=by
 cases x with
 |non=>cases r;rfl
 |bl _=>cases r;rfl
 |int _=>obtain⟨t,rfl⟩:=r;rfl
 |str _=>obtain⟨t,rfl⟩:=r;rfl
 |WO _=>obtain⟨t,rfl⟩:=r;rfl
 |flt _=>obtain⟨t,rfl⟩:=r;rfl
 |ref _=>cases r;rfl
 |ty _=>cases r;rfl
theorem RelV.inj{x y:V}{u:ae}(r:RelV x u)(q:RelV y u):x=y:=bD (r.abs.symm.trans q.abs)
theorem Vals.inj:∀{xs a:List V} {us:List ae},Vals xs us->Vals a us->xs=a
 |_,_,_,.nil,.nil=>rfl
 |_,_,_,.cons r t,.cons b c=>by rw[r.inj b,Vals.inj t c]
section
variable {X:Cx} {cq:List (ak×cm)} {σ:St} {H:Hp} {s:aq} {a:ak} {xs ys:List V}
theorem p7.of{K:bz}(h:H a=aa (.lst xs)):p7 K H a xs:=.inl (.inl h)
theorem Inv.list(I:Inv X cq σ H s)(h:p7 X.K H a xs):∃ia:List ae,Vals xs ia/\PlainL s.heap a ia.toArray/\xs.length<=aC:=by
 rcases h with h|⟨o,ia,n,b,c,hd,f,g,r⟩
 .obtain⟨z,ia,n,r,e⟩:=h.ok I.jo;exact⟨ia,r,⟨_,n,e,rfl,rfl,rfl⟩,z⟩
 .refine⟨ia.toList,r,⟨o,n,I.zM a o b,c,hd,by simpa using f⟩,?_⟩;have e:=r.length;simp only [cx] at e;omega
theorem Inv.tuple(I:Inv X cq σ H s)(h:Bb X.K H a xs):∃ia:List ae,Vals xs ia/\ajA s.heap a ia.toArray/\xs.length<=aC:=by
 rcases h with h|⟨o,ia,n,b,c,f,g,r⟩
 .obtain⟨z,ia,r,p⟩:=h.ok I.jo;exact⟨ia,r,p,z⟩
 .refine⟨ia.toList,r,⟨o,I.zM a o b,c,n,by simpa using f⟩,?_⟩;have e:=r.length;simp only [cx] at e;omega
theorem Inv.N6(I:Inv X cq σ H s)(h:p7 X.K H a xs)(c:p7 X.K H a ys):xs=ys:=by
 obtain⟨ia,r,⟨o,n,e,_,_,d⟩,_⟩:=I.list h;obtain⟨f,g,⟨j,m,e',_,_,b⟩,_⟩:=I.list c;rw[e] at e';cases e';rw[d] at b;injection b with i _;have:ia=f:=by simpa using congrArg Array.toList i
 subst this;exact r.inj g
theorem Inv.KH(I:Inv X cq σ H s)(h:Bb X.K H a xs)(c:Bb X.K H a ys):xs=ys:=by
 obtain⟨ia,r,⟨o,e,_,n,d⟩,_⟩:=I.tuple h;obtain⟨f,g,⟨j,e',_,m,b⟩,_⟩:=I.tuple c;rw[e] at e';cases e';rw[d] at b;injection b with i _;have:ia=f:=by simpa using congrArg Array.toList i
 subst this;exact r.inj g
end
abbrev Cx.F3(X:Cx)(E:ae->aq->Prop):Cx:={X with xe:=E}
abbrev Cx.KI(X:Cx):Cx:=X.F3 λ_ _=>False
theorem Cx.Ok.F3{X:Cx}(ok:X.Ok)(E:ae->aq->Prop):(X.F3 E).Ok:=
 ⟨ok.mod,ok.kind,ok.glob,ok.blt,ok.above,ok.inj,ok.has,ok.cab,ok.hd,ok.frames,ok.stk,ok.exf,ok.bs,ok.W5,ok.U8,ok.aas,ok.C2,ok.frf⟩
theorem Cx.Ok.vt{X:Cx}{E:ae->aq->Prop}(ok:(X.F3 E).Ok):X.Ok:=
 ⟨ok.mod,ok.kind,ok.glob,ok.blt,ok.above,ok.inj,ok.has,ok.cab,ok.hd,ok.frames,ok.stk,ok.exf,ok.bs,ok.W5,ok.U8,ok.aas,ok.C2,ok.frf⟩
section
variable {X:Cx} {cq:List (ak×cm)} {σ:St} {H:Hp} {s:aq} {E:ae->aq->Prop}
theorem Inv.F3(I:Inv X cq σ H s)(E:ae->aq->Prop):Inv (X.F3 E) cq σ H s:=⟨I.ok.F3 E,I.os,I.bare,I.cv,I.loc,I.cell,I.free,I.wS,I.pin,I.jo,I.len⟩
theorem Inv.vt(I:Inv (X.F3 E) cq σ H s):Inv X cq σ H s:=⟨I.ok.vt,I.os,I.bare,I.cv,I.loc,I.cell,I.free,I.wS,I.pin,I.jo,I.len⟩
theorem SP.vt{D:Ends}{f:Flow}{c:aq}(h:SP (X.F3 E) cq D f c):SP X cq D f c:=by
 cases f with
 |next=>obtain⟨a,b,I,q⟩:=h;exact⟨a,b,I.vt,q⟩
 |brk=>obtain⟨a,b,I,q⟩:=h;exact⟨a,b,I.vt,q⟩
 |cont=>obtain⟨a,b,I,q⟩:=h;exact⟨a,b,I.vt,q⟩
 |ret u=>obtain⟨v,a,b,I,r,q⟩:=h;exact⟨v,a,b,I.vt,r,q⟩
theorem PE.KI{e:bC}{t:TE}(h:PE X.KI e t):PE X e t:=λcq s σ H Q I hw=>
 cw (h cq s σ H Q (I.F3 _) hw) (λ_ _ ⟨v,a,b,r,q⟩=>⟨v,a,b.vt,r,q⟩) λ_ _ z=>cy z
theorem Jo.KI{st:List bL}{t:TS}(h:Jo X.KI st t):Jo X st t:=λcq s σ H D I hw=>
 cw (h cq s σ H D (I.F3 _) hw) (λ_ _ q=>q.vt) λ_ _ z=>cy z
end
section
variable {X:Cx} {st:bL} {rest:List bL} {t u:TS} {e:bC} {te:TE} {pos:d8}
def afE:TS:=λD σ H=>D.nx σ H
def ahP (t u:TS):TS:=λD σ H=>t {D with nx:=u D} σ H
theorem aav:Jo X [] afE:=λ_ _ σ H _ I h=>ajN ⟨σ,H,I,h⟩
theorem Xb(a:PS X st t)(b:Jo X rest u):Jo X (st::rest) (ahP t u):=by
 intro cq s σ H D I h;refine akP (kq (a cq s σ H {D with nx:=u D} I h) λf s1 q=>?_);cases f with
 |next=>
  obtain⟨c,g,i,q⟩:=q;exact b cq s1 c g D i q
 |ret v=>exact q
 |brk=>exact q
 |cont=>exact q
theorem aaw(a:PS X st t):Jo X [st] t:=by
 intro cq s σ H D I h;refine akP (kq (a cq s σ H D I h) λf s1 q=>?_);cases f with
 |next=>exact ajN q
 |ret v=>exact q
 |brk=>exact q
 |cont=>exact q
theorem Inv.quiet{cq:List (ak×cm)}{σ:St}{H:Hp}{s:aq}(I:Inv X cq σ H s):interactive X.env=ar:=by simp[interactive,I.ok.kind]
def afF (te:TE):TS:=λD σ H=>te σ H λ_ H1=>D.nx σ H1
theorem aax(a:PE X e te)(b:eL e ao pos.line X.env=pure ar:=by rfl):PS X (.Expr e pos) (afF te):=by intro cq s σ H D I h;exact wpAny_Expr_any (kq (a cq s σ H _ I h) λv s1 ⟨x,H1,c,g,f⟩=>⟨σ,H1,c,f⟩) I.quiet b
def ahQ (te:TE):TS:=λD σ H=>te σ H D.rt
theorem adx(a:PE X e te):PS X (.Return (aa e) pos) (ahQ te):=by intro cq s σ H D I h;exact wpAny_Return_some (kq (a cq s σ H _ I h) λv s1 ⟨x,H1,b,c,f⟩=>⟨x,σ,H1,b,c,f⟩)
def afG:TS:=λD _ H=>D.rt .non H
theorem aay:PS X (.Return ao pos) afG:=λ_ _ σ H _ I h=>wpAny_Return_none ⟨.non,σ,H,I,rfl,h⟩
def ahR (c:TT)(t u:TS):TS:=λD σ H=>c σ H λb H1=>if b=ag then t D σ H1 else u D σ H1
theorem afH{c:bC}{a b:List bL}{tc:TT}(i:PT X c tc)(ha:Jo X a t)(j:Jo X b u):PS X (.If c a b pos) (ahR tc t u):=by
 intro cq s σ H D I h;refine wpAny_If (kq (i cq s σ H _ I h) λd s1 m=>?_);obtain⟨H1,f,g⟩:=m;cases d with
 |true=>exact ha cq s1 σ H1 D f g
 |false=>exact j cq s1 σ H1 D f g
def ady:TS:=λ_ _ _=>False
theorem Xc:PS X st ady:=λ_ _ _ _ _ _ h=>h.elim
end
abbrev TG:=V->St->Hp->(St->Hp->Prop)->Prop
abbrev WP:=List V->St->Hp->(St->Hp->Prop)->Prop
def PG (X:Cx)(target:bC)(t:TG):Prop:=
 ∀(cq:List (ak×cm)) (s:aq) (σ:St) (H:Hp) (v:V) (u:ae) (Q:St->Hp->Prop),Inv X cq σ H s->RelV v u->t v σ H Q->
  wpAny (model X.prog X.w) X.A (assign target X.env u) (λ_ c=>∃a b,Inv X cq a b c/\Q a b) X.xe s
def WQ (X:Cx)(e:List bC)(t:WP):Prop:=
 ∀(cq:List (ak×cm)) (s:aq) (σ:St) (H:Hp) (a:List V) (us:List ae) (Q:St->Hp->Prop),Inv X cq σ H s->Vals a us->t a σ H Q->
  wpAny (model X.prog X.w) X.A (ak8 ((cz e X.env).map (·.2)) us) (λ_ f=>∃b c,Inv X cq b c f/\Q b c) X.xe s
abbrev Xd:=V->V->V->Hp->(Hp->Prop)->Prop
def adz (X:Cx)(t:Xd):Prop:=
 ∀(cq:List (ak×cm)) (s:aq) (σ:St) (H:Hp) (o i v:V) (a b u:ae) (Q:Hp->Prop),Inv X cq σ H s->RelV o a->RelV i b->RelV v u->t o i v H Q->
  wpAny (model X.prog X.w) X.A (ajP a b u) (λ_ e=>∃c,Inv X cq σ c e/\Q c) X.xe s
abbrev TIp:=V->V->Hp->VK->Prop
def PIp (X:Cx)(op:fj)(t:TIp):Prop:=
 ∀(cq:List (ak×cm)) (s:aq) (σ:St) (H:Hp) (x y:V) (v u:ae) (Q:VK),Inv X cq σ H s->RelV x v->RelV y u->t x y H Q->
  wpAny (model X.prog X.w) X.A (ajH op v u) (EP X cq σ Q) X.xe s
section
variable {X:Cx} {pos:d8}
def acx (i:Nat):TG:=λv σ H Q=>Q (σ.set i (aa v)) H
theorem aaz{i:Nat}{x:ay}(a:X.N.Nodup)(hi:X.N[i]?=aa x)(b:Loc X.env.scope x)(c:X.fn x=ag\/X.env.scope.names.lookup x=aa .local:=by first|exact .inl rfl|exact .inr rfl|assumption):PG X (.Name x pos) (acx i):=by intro cq s σ H v u Q I r h;exact akF (F1 I a hi b r (λf e=>⟨_,H,e,h⟩) c)
def ahS:WP:=λa σ H Q=>a=[]/\Q σ H
def afI (t:TG)(u:WP):WP:=λa σ H Q=>∃v r,a=v::r/\t v σ H λb c=>u r b c Q
theorem aaA:WQ X [] ahS:=by intro cq s σ H a us Q I r h;obtain⟨e,h⟩:=h;subst e;cases r;exact assignInOrder_nil ⟨σ,H,I,h⟩
theorem Xe{e:bC}{es:List bC}{t:TG}{u:WP}(b:PG X e t)(c:WQ X es u)
(f:(cz (e::es) X.env).map (·.2)=assign e X.env::(cz es X.env).map (·.2):=by rfl):WQ X (e::es) (afI t u):=by
 intro cq s σ H o us Q I r h;obtain⟨v,p,g,h⟩:=h;subst g;cases r with
 |cons r i=>
  rw[f];refine assignInOrder_cons (kq (b cq s σ H _ _ _ I r h) λ_ s1 j=>?_);obtain⟨a,H1,m,n⟩:=j;exact c cq s1 a H1 _ _ Q m i n
def ahT (K:bz)(n:Nat)(t:WP):TG:=λv σ H Q=>∃a xs,v=.ref a/\Bb K H a xs/\xs.length=n/\t xs σ H Q
theorem adA{es:List bC}{k:Nat}{t:WP}{n:Nat}(f:X.calm=ag)(h:WQ X es t)
(hn:(cz es X.env).length=n:=by rfl)(g:(cz es X.env).findIdx? (·.1)=ao:=by rfl):PG X (.Tuple es k pos) (ahT X.K n t):=by intro cq s σ H v u Q I r hw;obtain⟨a,xs,i,j,m,hw⟩:=hw;subst i;cases r;obtain⟨ia,c,ht,x⟩:=I.tuple j;refine assign_Tuple_tuple (I.ok.hd f) ht (by simp[hn,<-m,c.length]) g λp q=>?_;have w:Inv X cq σ H {s with heap:=p}:=I.kept (t':=s.toks) λb o e=>q b o (bf (aN e)) e;exact h cq _ σ H xs _ Q w (by simpa using c) hw
def ahU (to a:TE)(t:Xd):TG:=λv σ H Q=>to σ H λo H1=>a σ H1 λi b=>t o i v b λc=>Q σ c
theorem adB{o i:bC}{to e:TE}{t:Xd}(f:PE X o to)(hi:PE X i e)(g:adz X t)
(ha:∀v,assign (.Subscript o i pos) X.env v=(do
   let a<-holding [v] (eval o X.env);let b<-holding [v,a] (eval i X.env)
   ajC pos
   holding [v,a,b] (ajP a b v)
   release [v,a,b] []):=by intro _;rfl):PG X (.Subscript o i pos) (ahU to e t):=by intro cq s σ H v u Q I r h;rw[ha];refine ah (bR (kq (f cq s σ H _ I h) λa s1 c=>?_));obtain⟨x,H1,j,m,n⟩:=c;refine ah (bR (kq (hi cq s1 σ H1 _ j n) λb s2 c=>?_));obtain⟨y,p,q,w,z⟩:=c;refine ah (ai1 (ah (bR (kq (g cq s2 σ p x y v a b u _ q m w r z) λ_ s3 c=>?_))));obtain⟨A,B,C⟩:=c;exact wpAny_release ⟨σ,A,B,C⟩
def afJ (a:TE)(g:TG):TS:=λD σ H=>a σ H λx H1=>g x σ H1 D.nx
theorem adC{tg e:bC}{a:TE}{g:TG}(b:PE X e a)(c:PG X tg g)(f:ak9 [tg] e pos.line X.env=pure ar:=by rfl)(hw:ala [tg] e X.env=pure ao:=by rfl)
(i:(cz [tg] X.env).map (·.2)=[assign tg X.env]:=by rfl):PS X (.Assign [tg] e pos) (afJ a g):=by intro cq s σ H D I h;refine wpAny_Assign_stores (kq (b cq s σ H _ I h) λv s1 ⟨x,H1,j,m,n⟩=>?_) f hw;rw[i];exact kq (c cq s1 σ H1 x v _ j m n) λ_ s2 q=>q
theorem adD{i:Nat}{x:ay}{e:bC}{a:TE}{pos':d8}(b:X.N.Nodup)(hi:X.N[i]?=aa x)(c:Loc X.env.scope x)(f:PE X e a)(g:eL e (aa (.Name x pos')) pos.line X.env=pure ar:=by rfl)(j:X.fn x=ag\/X.env.scope.names.lookup x=aa .local:=by first|exact .inl rfl|exact .inr rfl|assumption):
  PS X (.Assign [.Name x pos'] e pos) (afJ a (acx i)):=by intro cq s σ H D I h;refine wpAny_Assign_Name (kq (f cq s σ H _ I h) λv s1 ⟨y,H1,m,n,o⟩=>?_) g;exact F1 m b hi c n (λs2 p=>⟨_,H1,p,o⟩) j
def ahV (i:Nat)(a:TE)(b:TIp):TS:=λD σ H=>∃x,σ[i]?=aa (aa x)/\a σ H λy H1=>b x y H1 λz c=>D.nx (σ.set i (aa z)) c
theorem adE{i:Nat}{x:ay}{e:bC}{g:TE}{op:fj}{j:TIp}{pos':d8}(n:X.N.Nodup)(hi:X.N[i]?=aa x)(b:Loc X.env.scope x)(o:PE X e g)(p:PIp X op j)(q:X.fn x=ag\/X.env.scope.names.lookup x=aa .local:=by first|exact .inl rfl|exact .inr rfl|assumption):
  PS X (.AugAssign (.Name x pos') op e pos) (ahV i g j):=by
 intro cq s σ H D I h;obtain⟨v,B,h⟩:=h;obtain⟨m,hn,C⟩:=I.loc;have zC:Vis X.env.scope x:=by rcases b with k|k;exact .inl k;exact .inr (.inl k)
 obtain⟨u,r,l⟩:=C i x v hi B zC;refine wpAny_AugAssign_Name ?_;have go:wpAny (model X.prog X.w) X.A (eval e X.env) (λw E=>wpAny (model X.prog X.w) X.A (ajH op u w) (λr G=>wpAny (model X.prog X.w) X.A (akO X.env x r) (λ_=>SP X cq D .next) X.xe G) X.xe E) X.xe s:=by refine kq (o cq s σ H _ I h) λw s1 f=>?_;obtain⟨y,H1,J,L,M⟩:=f;refine kq (p cq s1 σ H1 v y u w _ J r L M) λz s2 f=>?_;obtain⟨zv,O,Q,T,U⟩:=f;exact F1 Q n hi b T (λs3 Y=>⟨_,O,Y,U⟩) q
 rcases l with⟨a,hm⟩|⟨a,c,hc,Tz⟩
 .exact aks I.ok.kind a hn hm go
 .rcases a with a|a
  .exact akw I.ok.kind a hc Tz go
  .rcases b with k|k
   .have:X.env.scope.names.lookup x=aa .free:=a;rw[k] at this;cases this
   .have:X.env.scope.names.lookup x=aa .free:=a;rw[k] at this;cases this
def afK (to e f:TE)(a:V->V->Hp->VK->Prop)(b:TIp)(c:Xd):TS:=λD σ H=>to σ H λo H1=>e σ H1 λi g=>a o i g λx h=>f σ h λy j=>b x y j λz m=>c o i z m λn=>D.nx σ n
def afL (X:Cx)(t:V->V->Hp->VK->Prop):Prop:=
 ∀(cq:List (ak×cm)) (s:aq) (σ:St) (H:Hp) (o i:V) (a b:ae) (Q:VK),Inv X cq σ H s->RelV o a->RelV i b->t o i H Q->
  wpAny (model X.prog X.w) X.A (gA a b) (EP X cq σ Q) X.xe s
theorem aaD{o i e:bC}{to m n:TE}{f:V->V->Hp->VK->Prop}{g:TIp}{j:Xd}{op:fj}{w:d8}(x:PE X o to)(hi:PE X i m)(y:afL X f)(z:PE X e n)(A:PIp X op g)(B:adz X j)
(ha:∀a b new,augStore i a b new=(do holding [new,a,b] (ajP a b new);release [new,a,b] [];pure .next):=by intros;rfl):PS X (.AugAssign (.Subscript o i w) op e pos) (afK to m n f g j):=by intro cq s σ H D I h;refine wpAny_AugAssign_SubscriptAny (kq (x cq s σ H _ I h) λa s1 ⟨p,H1,C,q,E⟩=>?_) ha;refine kq (hi cq s1 σ H1 _ C E) λb s2 c=>?_;obtain⟨r,G,J,u,L⟩:=c;refine kq (y cq s2 σ G p r a b _ J q u L) λold s3 c=>?_;obtain⟨M,N,O,Q,T⟩:=c;refine kq (z cq s3 σ N _ O T) λv U c=>?_;obtain⟨Y,H4,I4,r4,q4⟩:=c;refine kq (A cq U σ H4 M Y old v _ I4 Q r4 q4) λnew s5 c=>?_;obtain⟨x5,H5,I5,r5,q5⟩:=c;exact kq (B cq s5 σ H5 p r x5 a b new _ I5 q u r5 q5) λ_ s6 ⟨H6,I6,q6⟩=>⟨σ,H6,I6,q6⟩
end
section
variable {X:Cx} {pos:d8}
end
structure It where
 go:Nat->Hp->Prop
 yld:Nat->Hp->V->Hp->Prop
 stop:Nat->Hp->Prop
def vz (X:Cx)(cq:List (ak×cm))(H:Hp)(b:ak):Prop:=
 H b=ao/\b≠X.env.locals/\b∉X.fs/\(b∈X.ex\/X.iY.heap.objs.size<=b)/\(∀x c,X.env.cells.lookup x=aa c->c≠b)/\∀p∈X.pn++cq,p.1≠b
theorem Inv.Xf{X:Cx}{cq:List (ak×cm)}{σ:St}{H f:Hp}{s:aq}{b:ak}(I:Inv X cq σ H s)(a:s.heap.objs.size<=b)(hn:f b=ao):vz X cq f b:=by
 refine⟨hn,eA (bB I.lt a),I.adp a,.inr (bG I.sz a),λx c e z=>?_,λp g z=>?_⟩
 .obtain⟨v,q⟩:=I.cell x c e;exact absurd (bB q.lt (by rw[z];exact a)) (dN _)
 .exact absurd (bB (aN (I.pin p g).1) (by rw[z];exact a)) (dN _)
structure Turn(P:ba)(w:bI)(K:bz)(tg:bC)(J:It)(fp:List ak)(it:ak)(tn:Nat->az->Prop):Prop where
 mem:it∈fp
 obj:∀i h,tn i h->∀b∈fp,∃o,h.get? b=aa o/\∀v,o.data≠.cell v
 keep:∀i h h',tn i h->(∀b∈fp,∀o,h.get? b=aa o->h'.get? b=aa o)->tn i h'
 item:∀(X:Cx),X.prog=P->X.w=w->X.K=K->X.calm=ag->∀(i:Nat) (cq:List (ak×cm)) (s:aq) (σ:St) (H:Hp) (E:ae->aq->Prop),Inv X cq σ H s->(∀b∈fp,vz X cq H b)->tn i s.heap->J.go i H->
  wpAny (model P w) X.A (pyNext (.ref it)) (λr s1=>∃u,r=aa u/\
   wpAny (model P w) X.A (letOwnedTupleGo tg (.ref it) u) (λ_ s2=>∃x H',Inv X cq σ H' s2/\RelV x u/\J.yld i H x H'/\tn (i+1) s2.heap/\∀b∈fp,H' b=ao) E s1) E s
 done:∀(X:Cx),X.prog=P->X.w=w->X.K=K->X.calm=ag->∀(i:Nat) (cq:List (ak×cm)) (s:aq) (σ:St) (H:Hp) (E:ae->aq->Prop),Inv X cq σ H s->(∀b∈fp,vz X cq H b)->tn i s.heap->J.stop i H->
  wpAny (model P w) X.A (pyNext (.ref it)) (λr s1=>r=ao/\Inv X cq σ H s1) E s
 self:∀(A:bv) (i:Nat) (s:aq) (Q:ae->aq->Prop) (E:ae->aq->Prop),tn i s.heap->Q (.ref it) s->wpAny (model P w) A (ajv (.ref it)) Q E s
abbrev TI:=St->Hp->(It->Hp->Prop)->Prop
def PIE (X:Cx)(cq:List (ak×cm))(σ:St)(tg:bC)(R:It->Hp->Prop)(a:ae)(s2:aq):Prop:=
 ∃(it:ak) (e:List ak) (f:Nat->az->Prop) (J:It) (c:Hp),a=.ref it/\Inv X cq σ c s2/\Turn X.prog X.w X.K tg J e it f/\f 0 s2.heap/\(∀b∈e,vz X cq c b)/\R J c
def PI (X:Cx)(tg iter:bC)(wi:TI):Prop:=
 ∀(cq:List (ak×cm)) (s:aq) (σ:St) (H:Hp) (R:It->Hp->Prop),Inv X cq σ H s->wi σ H R->
  wpAny (model X.prog X.w) X.A (eval iter X.env) (λv s1=>wpAny (model X.prog X.w) X.A (ajv v) (PIE X cq σ tg R) X.xe s1) X.xe s
theorem N8{M:Model}{A:bv}{E:ae->aq->Prop}{s:aq}{tg:bC}{it:ak}{u:ae}{o:cm}{n:String}{b:Array ae}{Q:Unit->aq->Prop}(c:s.heap.get? it=aa o)(e:o.cls=.type n)(hd:o.data=.fields b)
(hn:["enumerate","zip","dict_itemiterator","dict_reverseitemiterator","odict_iterator","itertools.zip_longest","itertools.pairwise"].contains n=ar)(a:Q () s):wpAny M A (letOwnedTupleGo tg (.ref it) u) Q E s:=by
 unfold letOwnedTupleGo;cases tg<;>first
  |exact aw a
  | (cases u<;>first
    |exact aw a
    | (refine ah (wpAny_load c ?_)
       rw[e,hd];show wpAny M A (if(["enumerate","zip","dict_itemiterator","dict_reverseitemiterator","odict_iterator","itertools.zip_longest","itertools.pairwise"].contains n&&b[0]?==aa (ai2 _))=ag then _ else _) Q E s;rw[if_neg (by intro h;rw[hn,Bool.false_and] at h;cases h)];exact aw a))
noncomputable def Itl(K:bz)(a:ak):It:=
 ⟨λi H=>∃xs x,p7 K H a xs/\xs[i]?=aa x,λi H x b=>b=H/\∀xs,p7 K H a xs->xs[i]?=aa x,λi H=>∃xs,p7 K H a xs/\xs.length<=i⟩
noncomputable def Itt(K:bz)(a:ak):It:=
 ⟨λi H=>∃xs x,Bb K H a xs/\xs[i]?=aa x,λi H x b=>b=H/\∀xs,Bb K H a xs->xs[i]?=aa x,λi H=>∃xs,Bb K H a xs/\xs.length<=i⟩
noncomputable def Itr(lo:Int)(n:Nat):It:=⟨λi _=>i<n,λi H x a=>a=H/\x=.int (lo+i),λi _=>n<=i⟩
theorem U9{P:ba}{w:bI}{K:bz}{tg:bC}(a it:ak):Turn P w K tg (Itl K a) [it] it (λi h=>h.IsListIter it a i) where
 mem:=by simp
 obj:=λi h st b f=>by
  have e:b=it:=by simpa using f
  subst e;obtain⟨o,e,c,d⟩:=st;exact⟨o,e,λv z=>by rw[d] at z;cases z⟩
 keep:=λi h g st k=>st.at λo e=>k it (by simp) o e
 item:=by intro X n hw q M i cq s σ H E I j st r;subst n hw q;obtain⟨xs,x,m,y⟩:=r;obtain⟨ia,A,p,O⟩:=I.list m;obtain⟨u,Q,T⟩:=A.get y;obtain⟨B,C,U,G,J,L⟩:=j it (by simp);refine akd st p.isList (x:=u) (by simpa using Q) λg N sb=>?_;have Y:Inv X cq σ H {s with heap:=g}:=I.turned (t':=s.toks) (λb o f e=>(sb.2 b f).trans e) B C G J L;obtain⟨o,e,c,d⟩:=id N;exact⟨u,rfl,N8 (s:={s with heap:=g}) e c d (by decide) ⟨x,H,Y,T,⟨rfl,λys hy=>by rw[I.N6 hy m];exact y⟩,N,λb f=>(j b f).1⟩⟩
 done:=by intro X n hw q M i cq s σ H E I j st r;subst n hw q;obtain⟨xs,m,y⟩:=r;obtain⟨ia,A,p,O⟩:=I.list m;obtain⟨B,C,U,G,J,L⟩:=j it (by simp);have hl:=A.length;exact ako (I.ok.hd M) st p.isList (by simp;omega) λg eb=>⟨rfl,I.turned (t':=s.toks) (λb o f e=>eb b o f e) B C G J L⟩
 self:=λ_ _ _ _ _ st h=>wpAny_pyIter_listiter st h
theorem Q2{P:ba}{w:bI}{K:bz}{tg:bC}(a it:ak):Turn P w K tg (Itt K a) [it] it (λi h=>h.IsTupleIter it a i) where
 mem:=by simp
 obj:=λi h st b f=>by
  have e:b=it:=by simpa using f
  subst e;obtain⟨o,e,c,d⟩:=st;exact⟨o,e,λv z=>by rw[d] at z;cases z⟩
 keep:=λi h g st k=>st.at λo e=>k it (by simp) o e
 item:=by intro X n hw q M i cq s σ H E I j st r;subst n hw q;obtain⟨xs,x,m,y⟩:=r;obtain⟨ia,A,p,O⟩:=I.tuple m;obtain⟨u,Q,T⟩:=A.get y;obtain⟨B,C,U,G,J,L⟩:=j it (by simp);refine wpAny_pyNext_tuple_item st (show s.heap.IsTuple a ia.toArray from p) (x:=u) (by simpa using Q) λg N sb=>?_;have Y:Inv X cq σ H {s with heap:=g}:=I.turned (t':=s.toks) (λb o f e=>(sb.2 b f).trans e) B C G J L;obtain⟨o,e,c,d⟩:=id N;exact⟨u,rfl,N8 (s:={s with heap:=g}) e c d (by decide) ⟨x,H,Y,T,⟨rfl,λys hy=>by rw[I.KH hy m];exact y⟩,N,λb f=>(j b f).1⟩⟩
 done:=by intro X n hw q M i cq s σ H E I j st r;subst n hw q;obtain⟨xs,m,y⟩:=r;obtain⟨ia,A,p,O⟩:=I.tuple m;obtain⟨B,C,U,G,J,L⟩:=j it (by simp);have hl:=A.length;exact wpAny_pyNext_tuple_end (I.ok.hd M) st (show s.heap.IsTuple a ia.toArray from p) (by simp;omega) λg eb=>⟨rfl,I.turned (t':=s.toks) (λb o f e=>eb b o f e) B C G J L⟩
 self:=λ_ _ _ _ _ st h=>wpAny_pyIter_tupleiter st h
theorem Q3{P:ba}{w:bI}{K:bz}{tg:bC}(it:ak)(lo:Int)(n:Nat):Turn P w K tg (Itr lo n) [it] it (λi h=>IsRangeIter h it (lo+(i:Nat)*1) ((n:Int)- (i:Nat)) 1) where
 mem:=by simp
 obj:=λi h st b a=>by
  have e:b=it:=by simpa using a
  subst e;exact⟨_,st,λv z=>by have C:Data.fields _=Data.cell v:=z;cases C⟩
 keep:=λi h c st k=>k it (by simp) _ st
 item:=by intro X g hw j m i cq s σ H E I f st p;subst g hw j;obtain⟨q,r,G,u,x,y⟩:=f it (by simp);have W:=ajR.range (prog:=X.prog) (w:=X.w) (I.ok.hd m) it lo 1 n;refine W.item i s _ _ p st λv c A J B L=>?_;obtain⟨t,rfl⟩:=J;have M:Inv X cq σ H {s with heap:=c,toks:=A}:=I.turned (λb o a e=>L b o (by simpa using a) e) q r u x y;refine⟨_,rfl,N8 (s:={s with heap:=c,toks:=A}) (n:="range_iterator") B rfl rfl (by decide) ⟨.int (lo+i),H,M,⟨t,?_⟩,⟨rfl,rfl⟩,B,λb a=>(f b a).1⟩⟩;rw[Int.mul_one]
 done:=by intro X g hw j m i cq s σ H E I f st p;subst g hw j;obtain⟨q,r,G,u,x,y⟩:=f it (by simp);exact wpAny_pyNext_range_end (I.ok.hd m) st (by have:n<=i:=p;omega) λc N=>⟨rfl,I.turned (t':=s.toks) (λb o a e=>N b o a e) q r u x y⟩
 self:=λ_ _ _ _ _ st h=>wpAny_pyIter_rangeiter st h
section
variable {X:Cx} {tg:bC}
theorem Xg{cq:List (ak×cm)}{σ:St}{H:Hp}{s:aq}{R:It->Hp->Prop}{E:ae->aq->Prop}{lo hi:Int}{t u v:akr}{a:Nat}(I:Inv X cq σ H s)(f:-(2^62)<=lo)(g:lo<2^62)(h:-(2^62)<=hi)(i:hi<2^62)
(q:R (Itr lo (hi- lo).toNat) H):wpAny (model X.prog X.w) X.A (ajv (.ref s.heap.objs.size)) (PIE X cq σ tg R) E {s with heap:=s.heap.push {cls:=.type "range",data:=.fields #[.int lo t,.int hi u,.int 1 v]},toks:=a}:=by
 refine wpAny_pyIter_range (IsRange.new ..) (small_one f g h i) ?_;have c:Inv X cq σ H {s with heap:=s.heap.push {cls:=.type "range",data:=.fields #[.int lo t,.int hi u,.int 1 v]},toks:=a}:=I.kept λb o e=>aj _ e;refine⟨(s.heap.push {cls:=.type "range",data:=.fields #[.int lo t,.int hi u,.int 1 v]}).objs.size,[(s.heap.push {cls:=.type "range",data:=.fields #[.int lo t,.int hi u,.int 1 v]}).objs.size],_,_,H,rfl,
  c.kept (t':=a) λb o e=>aj _ e,Q3 _ lo (hi- lo).toNat,?_,λb j=>?_,q⟩
 .have m:lo+((0:Nat):Int)*1=lo:=by simp
  have n:(((hi- lo).toNat:Nat):Int)- ((0:Nat):Int)=bE.Range.rangeSize lo hi 1:=by rw[rangeSize_one];split<;>omega
  show IsRangeIter _ _ (lo+((0:Nat):Int)*1) ((((hi- lo).toNat:Nat):Int)- ((0:Nat):Int)) 1;rw[m,n];exact aP _ rfl
 .have e:b=(s.heap.push {cls:=.type "range",data:=.fields #[.int lo t,.int hi u,.int 1 v]}).objs.size:=by simpa using j
  subst e;exact c.Xf (aM _) (c.jo.fresh (aM _))
def afM (a:TA):TI:=λσ H R=>a σ H λb H1=>∃j:Int,b=[.int j]/\-(2^62)<=j/\j<2^62/\R (Itr 0 j.toNat) H1
theorem Va{a:bC}{c:TA}{p pos:d8}(f:Gl X "range")(hm:X.mg "range"=ao)(ha:PA X [a] c)(g:bc [a] X.env=[(ar,eval a X.env)]:=by rfl):PI X tg (.Call (.Name "range" p) [a] [] pos) (afM c):=by
 intro cq s σ H R I h;refine Call_ (Ah I f hm boot_range (dq (kq (ha pos cq s σ H _ I h) λus s1 ⟨u,H1,i,m,b⟩=>?_) g rfl));obtain⟨j,e,b,n,q⟩:=b;subst e;cases m with
 |cons r o=>
  cases o;obtain⟨t,rfl⟩:=r;exact call_range_1 (Xg i (by omega) (by omega) b n (by simpa using q))
def ahW (wi:TI)(g:TG)(tb:TS):TS:=λD σ H=>wi σ H λJ H1=>∃W:Nat->Nat->St->Hp->Prop,(∃m,W 0 m σ H1)/\∀i m σ H,W i m σ H->
 (J.stop i H/\D.nx σ H)\/(J.go i H/\∃N:St->Hp->Prop,(∀b a,N b a->∃c,c<m/\W (i+1) c b a)/\∀x a,J.yld i H x a->g x σ a λe f=>tb {D with nx:=N,ct:=N,bk:=D.nx} e f)
noncomputable def F5(a:List ak)(h:az):List (ak×cm):=a.filterMap λb=>(h.get? b).map λo=>(b,o)
theorem vB{a:List ak}{h:az}{b:ak}{o:cm}(c:b∈a)(e:h.get? b=aa o):(b,o)∈F5 a h:=List.mem_filterMap.mpr ⟨b,c,by rw[e];rfl⟩
theorem Vb{a:List ak}{h:az}{p:ak×cm}(c:p∈F5 a h):p.1∈a/\h.get? p.1=aa p.2:=by
 obtain⟨b,f,e⟩:=List.mem_filterMap.mp c;cases q:h.get? b with
 |none=>rw[q] at e;cases e
 |some o=>
  rw[q] at e;have e':(b,o)=p:=bD e;subst e';exact⟨f,q⟩
theorem Inv.pinned{cq:List (ak×cm)}{σ:St}{H:Hp}{s:aq}{a:List ak}(I:Inv X cq σ H s)(f:∀b∈a,vz X cq H b)(g:∀b∈a,∃o,s.heap.get? b=aa o/\∀v,o.data≠.cell v):Inv X (cq++F5 a s.heap) σ H s:=
 I.Tv λp h=>(bg.mp h).elim (λz=>I.pin p (bw _ z)) λz=>by obtain⟨c,e⟩:=Vb z;obtain⟨i,j,m,_⟩:=f p.1 c;obtain⟨o,e',d⟩:=g p.1 c;rw[e] at e';cases e';exact⟨e,i,j,m,d⟩
theorem Inv.Bc{cq pl:List (ak×cm)}{σ:St}{H:Hp}{s:aq}(I:Inv X (cq++pl) σ H s):Inv X cq σ H s:=I.Tv λp a=>I.pin p (bw _ (cb _ a))
theorem adF{iter:bC}{body:List bL}{wi:TI}{g:TG}{tb:TS}{pos:d8}(E:akQ (model X.prog X.w) X.A X.env X.xe)(hc:X.calm=ag)(hi:PI X tg iter wi)(hg:PG X tg g)(a:Jo X body tb)
(hs:∀x,dh iter X.env x=pure x:=by intro _;rfl):PS X (.For tg iter body [] pos) (ahW wi g tb):=by
 intro cq s σ H D I h;refine wpAny_For (kq (hi cq s σ H _ I h) λv s1 h1=>kq h1 λitv s2 h2=>?_) hs;obtain⟨it,G,tn,J,H2,e,I2,T,Y,f2,W,⟨m0,w0⟩,turn⟩:=h2;subst e;have Q4:∀{y:Hp},(∀b∈G,y b=ao)->∀b∈G,vz X cq y b:=λhn b a=>⟨hn b a,(f2 b a).2⟩;refine codeAny_forLoop_any (λn s'=>∃i L y,Inv X cq L y s'/\tn i s'.heap/\(∀b∈G,y b=ao)/\W i n L y) ?_ m0 ⟨0,σ,H2,I2,Y,λb a=>(f2 b a).1,w0⟩
 rintro n s3 ⟨i,c,U,I3,M,O,w3⟩
 rcases turn i n c U w3 with⟨stop,qn⟩|⟨go,N,hN,step⟩
 .refine fV E (kq (T.done X rfl rfl rfl hc i cq s3 c U X.xe I3 (Q4 O) M stop) λr s4 B=>?_);obtain⟨hr,I4⟩:=B;subst hr;exact ajN ⟨c,U,I4,qn⟩
 .refine fV E (kq (T.item X rfl rfl rfl hc i cq s3 c U X.xe I3 (Q4 O) M go) λr s4 B=>?_);obtain⟨u,hr,h4⟩:=B;subst hr;refine fV E (kq h4 λ_ s5 B=>?_);obtain⟨x,H5,I5,r5,y5,C,fr5⟩:=B;have I5':=I5.pinned (Q4 fr5) (T.obj _ _ C);refine fV E (kq (hg _ s5 c H5 x u _ I5' r5 (step x H5 y5)) λ_ s6 B=>?_);obtain⟨σ6,H6,I6,q6⟩:=B;refine fV E (kq (a _ s6 σ6 H6 _ I6 q6) λf s7 z=>?_);have again:∀{j:St} {p:Hp},Inv X (cq++F5 G s5.heap) j p s7->N j p->∃m,m<n/\∃i L y,Inv X cq L y s7/\tn i s7.heap/\(∀b∈G,y b=ao)/\W i m L y:=λ{j p} q Q=>by obtain⟨m',hm,w7⟩:=hN j p Q;refine⟨m',hm,i+1,j,p,q.Bc,T.keep _ _ _ C λb a o e=>(q.pin (b,o) (bw _ (bw _ (vB a e)))).1,λb a=>?_,w7⟩;obtain⟨o,e,d⟩:=T.obj _ _ C b a;exact(q.pin (b,o) (bw _ (bw _ (vB a e)))).2.1
  cases f with
  |next=>obtain⟨j,p,q,Q⟩:=z;exact again q Q
  |cont=>obtain⟨j,p,q,Q⟩:=z;exact again q Q
  |brk=>obtain⟨j,p,q,z⟩:=z;exact⟨j,p,q.Bc,z⟩
  |ret v=>obtain⟨x7,j,p,q,r7,z⟩:=z;exact⟨x7,j,p,q.Bc,r7,z⟩
end
abbrev R2:=V->V->Hp->VK->Prop
def uF (X:Cx)(f:ae->ae->akW ae)(r:R2):Prop:=
 ∀(cq:List (ak×cm)) (s:aq) (σ:St) (H:Hp) (x y:V) (v u:ae) (Q:VK),Inv X cq σ H s->RelV x v->RelV y u->r x y H Q->
  wpAny (model X.prog X.w) X.A (f v u) (EP X cq σ Q) X.xe s
def UnR (X:Cx)(f:ae->akW ae)(r:V->Hp->VK->Prop):Prop:=
 ∀(cq:List (ak×cm)) (s:aq) (σ:St) (H:Hp) (x:V) (v:ae) (Q:VK),Inv X cq σ H s->RelV x v->r x H Q->
  wpAny (model X.prog X.w) X.A (f v) (EP X cq σ Q) X.xe s
def pr (X:Cx)(f:ae)(r:List V->Hp->VK->Prop):Prop:=
 ∀(cq:List (ak×cm)) (s:aq) (σ:St) (H:Hp) (xs:List V) (us:List ae) (Q:VK),Inv X cq σ H s->Vals xs us->r xs H Q->
  wpAny (model X.prog X.w) X.A (call f us) (EP X cq σ Q) X.xe s
def tOp (r:R2)(a tb:TE):TE:=λσ H Q=>a σ H λx H1=>tb σ H1 λy b=>r x y b Q
def tUn (r:V->Hp->VK->Prop)(a:TE):TE:=λσ H Q=>a σ H λx H1=>r x H1 Q
def rI (C:Int->Int->Prop)(g:Int->Int->V):R2:=λx y H Q=>∃i j,x=.int i/\y=.int j/\C i j/\Q (g i j) H
def rI0 (g:Int->Int->V):R2:=λx y H Q=>∃i j,x=.int i/\y=.int j/\Q (g i j) H
def rU (g:Int->V):V->Hp->VK->Prop:=λx H Q=>∃i,x=.int i/\Q (g i) H
section
variable {X:Cx} {a b c:bC} {ta tb tc:TE} {pos:d8}
theorem adG(ha:PE X a ta)(i:PE X b tb){cq:List (ak×cm)}{s:aq}{σ:St}{H:Hp}{R:V->V->Hp->Prop}(I:Inv X cq σ H s)
(h:ta σ H λx H1=>tb σ H1 λy e=>R x y e){Q:ae->aq->Prop}{f:ae->ae->akW ae}
(j:∀v u s2 x y e,Inv X cq σ e s2->RelV x v->RelV y u->R x y e->wpAny (model X.prog X.w) X.A (f v u) Q X.xe s2):
  wpAny (model X.prog X.w) X.A (eval a X.env) (λv m=>wpAny (model X.prog X.w) X.A (eval b X.env) (λu n=>wpAny (model X.prog X.w) X.A (f v u) Q X.xe n) X.xe m) X.xe s:=by refine kq (ha cq s σ H _ I h) λv s1 g=>?_;obtain⟨x,H1,o,p,q⟩:=g;refine kq (i cq s1 σ H1 _ o q) λu s2 g=>?_;obtain⟨y,e,r,z,B⟩:=g;exact j v u s2 x y e r p z B
theorem afN{op:fj}{r:R2}(e:uF X (binaryOp op) r)(ha:PE X a ta)(f:PE X b tb):PE X (.BinOp a op b pos) (tOp r ta tb):=by intro cq s σ H Q I h;exact wpAny_BinOp (adG ha f I h λv u s2 x y g i j m q=>e cq s2 σ g x y v u Q i j m q)
theorem afO{op:UnaryOp}{r:V->Hp->VK->Prop}(e:UnR X (unaryOp op) r)(ha:PE X a ta):PE X (.UnaryOp op a pos) (tUn r ta):=by intro cq s σ H Q I h;exact UnaryOp_ (kq (ha cq s σ H _ I h) λv s1 ⟨x,H1,f,g,i⟩=>e cq s1 σ H1 x v Q f g i)
theorem opI{f:ae->ae->akW ae}{C:Int->Int->Prop}{g:Int->Int->Int}
(rule:∀(i j:Int) (t u:akr) (s:aq) (Q:ae->aq->Prop) (E:ae->aq->Prop),C i j->Q (.int (g i j) s.toks) {s with toks:=s.toks+1}->wpAny (model X.prog X.w) X.A (f (.int i t) (.int j u)) Q E s):
  uF X f (rI C λi j=>.int (g i j)):=by intro cq s σ H x y v u Q I e m h;obtain⟨i,j,rfl,rfl,n,q⟩:=h;obtain⟨t,rfl⟩:=e;obtain⟨o,rfl⟩:=m;exact rule i j t o s _ _ n ⟨.int (g i j),H,I.tok _,⟨_,rfl⟩,q⟩
theorem aaE{f:ae->ae->akW ae}{g:Int->Int->Int}
(rule:∀(i j:Int) (t u:akr) (s:aq) (Q:ae->aq->Prop) (E:ae->aq->Prop),Q (.int (g i j) s.toks) {s with toks:=s.toks+1}->wpAny (model X.prog X.w) X.A (f (.int i t) (.int j u)) Q E s):
  uF X f (rI0 λi j=>.int (g i j)):=by intro cq s σ H x y v u Q I e m h;obtain⟨i,j,rfl,rfl,q⟩:=h;obtain⟨t,rfl⟩:=e;obtain⟨n,rfl⟩:=m;exact rule i j t n s _ _ ⟨.int (g i j),H,I.tok _,⟨_,rfl⟩,q⟩
theorem aaF{f:ae->ae->akW ae}{g:Int->Int->Bool}
(rule:∀(i j:Int) (t u:akr) (s:aq) (Q:ae->aq->Prop) (E:ae->aq->Prop),Q (.bool (g i j)) s->wpAny (model X.prog X.w) X.A (f (.int i t) (.int j u)) Q E s):
  uF X f (rI0 λi j=>.bl (g i j)):=by intro cq s σ H x y v u Q I e m h;obtain⟨i,j,rfl,rfl,q⟩:=h;obtain⟨t,rfl⟩:=e;obtain⟨n,rfl⟩:=m;exact rule i j t n s _ _ ⟨.bl (g i j),H,I,rfl,q⟩
def F6 (i j:Int):Prop:=0<j/\j<1073741824
def Vc (i j:Int):Prop:=0<=j/\j<=1000000/\i.natAbs<2^64
def Vd (i j:Int):Prop:=(-(2^64)<i/\i<2^64)\/(-(2^64)<j/\j<2^64)
theorem Vd.ok{i j:Int}(h:Vd i j):IntMulOk i j:=by
 rcases h with⟨e,f⟩|⟨e,f⟩
 .exact .of_left (alb e f)
 .exact .of_right (alb e f)
theorem adH:uF X (binaryOp .Add) (rI0 λi j=>.int (i+j)):=aaE λ_ _ _ _ _ _ _ q=>add_int q
theorem adI:uF X (binaryOp .Sub) (rI0 λi j=>.int (i- j)):=aaE λ_ _ _ _ _ _ _ q=>sub_int q
theorem adJ:uF X (binaryOp .Mult) (rI Vd λi j=>.int (i*j)):=opI λ_ _ _ _ _ _ _ e q=>mul_int q e.ok
theorem aaG:uF X (binaryOp .FloorDiv) (rI F6 λi j=>.int (i/j)):=opI λi j _ _ _ _ _ e q=>by have f:(0:Int)<j:=e.1;have g:j<1073741824:=e.2;exact floordiv_int (by omega) (by rw[Int.fdiv_eq_ediv_of_nonneg i (by omega)];exact q) (.inl (PyProof.noPylong_small (by omega)))
theorem adK:uF X (binaryOp .Mod) (rI (λ_ j=>0<j) λi j=>.int (i%j)):=opI λi j _ _ _ _ _ e q=>by have f:(0:Int)<j:=e;exact mod_int' (by omega) (by rw[Int.fmod_eq_emod_of_nonneg i (by omega)];exact q)
theorem adL:uF X (binaryOp .Pow) (rI Vc λi j=>.int (i^j.toNat)):=opI λ_ _ _ _ _ _ _ e q=>pow_int_small e.1 e.2.1 e.2.2 q
theorem aaH:uF X (ajH .Add) (rI0 λi j=>.int (i+j)):=aaE λ_ _ _ _ _ _ _ q=>iadd_int q
theorem aaI:uF X (ajH .Sub) (rI0 λi j=>.int (i- j)):=aaE λ_ _ _ _ _ _ _ q=>isub_int q
theorem unI{f:ae->akW ae}{g:Int->Int}
(rule:∀(i:Int) (t:akr) (s:aq) (Q:ae->aq->Prop) (E:ae->aq->Prop),Q (.int (g i) s.toks) {s with toks:=s.toks+1}->wpAny (model X.prog X.w) X.A (f (.int i t)) Q E s):
  UnR X f (rU λi=>.int (g i)):=by intro cq s σ H x v Q I e h;obtain⟨i,rfl,q⟩:=h;obtain⟨t,rfl⟩:=e;exact rule i t s _ _ ⟨.int (g i),H,I.tok _,⟨_,rfl⟩,q⟩
theorem adM:UnR X (unaryOp .USub) (rU λi=>.int (-i)):=unI λ_ _ _ _ _ q=>neg_int q
end
noncomputable def afP:V->V->Bool
 |.non,.non=>ag|.non,.int _=>ag|.int _,.non=>ag|.non,.bl _=>ag|.bl _,.non=>ag|.non,.str _=>ag|.str _,.non=>ag
 |.int _,.int _=>ag|.bl _,.bl _=>ag|.str _,.str _=>ag|.WO _,.WO _=>ag
 |.int _,.str _=>ag|.str _,.int _=>ag|.bl _,.str _=>ag|.str _,.bl _=>ag
 |_,_=>ar
def rEq:R2:=λx y H Q=>afP x y=ag/\Q (.bl (decide (x=y))) H
def rNe:R2:=λx y H Q=>afP x y=ag/\Q (.bl (!decide (x=y))) H
theorem LP{i j:Int}:decide (V.int i=V.int j)=(i==j):=by rw[fD];simp
theorem Xi{i j:Bool}:decide (V.bl i=V.bl j)=(i==j):=by rw[fD];simp
theorem LQ{i j:ay}:decide (V.str i=V.str j)=(i==j):=by rw[fD];simp
theorem TC{i j:Array UInt8}:decide (V.WO i=V.WO j)=(i.toList==j.toList):=by rw[fD];cases i;cases j;simp
section
variable {X:Cx} {a b c:bC} {ta tb tc:TE} {pos:d8}
theorem iR{cq:List (ak×cm)}{σ:St}{H:Hp}{s:aq}{Q:VK}{k k':Bool}(I:Inv X cq σ H s)(q:Q (.bl k) H)(e:k=k'):EP X cq σ Q (.bool k') s:=by subst e;exact⟨.bl k,H,I,rfl,q⟩
theorem acy:uF X (compareOp .Eq) rEq:=by
 intro cq s σ H x y v u Q I m e h;obtain⟨g,q⟩:=h;cases x with
 |non=>
  cases m;cases y with
  |non=>cases e;exact PySem.EqNone.eq_none_none (iR I q (by simp))
  |bl j=>cases e;exact PySem.EqNone.eq_none_bool (iR I q (by simp))
  |int j=>obtain⟨f,rfl⟩:=e;exact PySem.EqNone.eq_none_int (iR I q (by simp))
  |str j=>obtain⟨f,rfl⟩:=e;exact PySem.EqNone.eq_none_str (iR I q (by simp))
  |_=>exact absurd (show ar=ag from g) ax
 |bl i=>
  cases m;cases y with
  |non=>cases e;exact PySem.EqNone.eq_bool_none (iR I q (by simp))
  |bl j=>cases e;exact eq_bool (iR I q Xi)
  |str j=>obtain⟨f,rfl⟩:=e;exact PySem.EqMixed.eq_bool_str (iR I q (by simp))
  |_=>exact absurd (show ar=ag from g) ax
 |int i=>
  obtain⟨t,rfl⟩:=m;cases y with
  |non=>cases e;exact PySem.EqNone.eq_int_none (iR I q (by simp))
  |int j=>obtain⟨f,rfl⟩:=e;exact eq_int (iR I q LP)
  |str j=>obtain⟨f,rfl⟩:=e;exact PySem.EqMixed.eq_int_str (iR I q (by simp))
  |_=>exact absurd (show ar=ag from g) ax
 |str i=>
  obtain⟨t,rfl⟩:=m;cases y with
  |non=>cases e;exact PySem.EqNone.eq_str_none (iR I q (by simp))
  |bl j=>cases e;exact PySem.EqMixed.eq_str_bool (iR I q (by simp))
  |int j=>obtain⟨f,rfl⟩:=e;exact PySem.EqMixed.eq_str_int (iR I q (by simp))
  |str j=>obtain⟨f,rfl⟩:=e;exact eq_str (iR I q LQ)
  |_=>exact absurd (show ar=ag from g) ax
 |WO i=>
  obtain⟨t,rfl⟩:=m;cases y with
  |WO j=>obtain⟨f,rfl⟩:=e;exact W.eq_bytes (iR I q TC)
  |_=>exact absurd (show ar=ag from g) ax
 |_=>cases y<;>exact absurd (show ar=ag from g) ax
theorem acz:uF X (compareOp .NotEq) rNe:=by
 intro cq s σ H x y v u Q I m e h;obtain⟨g,q⟩:=h;cases x with
 |non=>
  cases m;cases y with
  |non=>cases e;exact PySem.EqNone.ne_none_none (iR I q (by simp))
  |bl j=>cases e;exact PySem.EqNone.ne_none_bool (iR I q (by simp))
  |int j=>obtain⟨f,rfl⟩:=e;exact PySem.EqNone.ne_none_int (iR I q (by simp))
  |str j=>obtain⟨f,rfl⟩:=e;exact PySem.EqNone.ne_none_str (iR I q (by simp))
  |_=>exact absurd (show ar=ag from g) ax
 |bl i=>
  cases m;cases y with
  |non=>cases e;exact PySem.EqNone.ne_bool_none (iR I q (by simp))
  |bl j=>cases e;exact ne_bool (iR I q (congrArg not Xi))
  |str j=>obtain⟨f,rfl⟩:=e;exact PySem.EqMixed.ne_bool_str (iR I q (by simp))
  |_=>exact absurd (show ar=ag from g) ax
 |int i=>
  obtain⟨t,rfl⟩:=m;cases y with
  |non=>cases e;exact PySem.EqNone.ne_int_none (iR I q (by simp))
  |int j=>obtain⟨f,rfl⟩:=e;exact ne_int (iR I q (congrArg not LP))
  |str j=>obtain⟨f,rfl⟩:=e;exact PySem.EqMixed.ne_int_str (iR I q (by simp))
  |_=>exact absurd (show ar=ag from g) ax
 |str i=>
  obtain⟨t,rfl⟩:=m;cases y with
  |non=>cases e;exact PySem.EqNone.ne_str_none (iR I q (by simp))
  |bl j=>cases e;exact PySem.EqMixed.ne_str_bool (iR I q (by simp))
  |int j=>obtain⟨f,rfl⟩:=e;exact PySem.EqMixed.ne_str_int (iR I q (by simp))
  |str j=>obtain⟨f,rfl⟩:=e;exact ne_str (iR I q (congrArg not LQ))
  |_=>exact absurd (show ar=ag from g) ax
 |WO i=>
  obtain⟨t,rfl⟩:=m;cases y with
  |WO j=>obtain⟨f,rfl⟩:=e;exact W.ne_bytes (iR I q (congrArg not TC))
  |_=>exact absurd (show ar=ag from g) ax
 |_=>cases y<;>exact absurd (show ar=ag from g) ax
theorem afQ:uF X (compareOp .Lt) (rI0 λi j=>.bl (decide (i<j))):=aaF λ_ _ _ _ _ _ _ q=>lt_int q
theorem afR:uF X (compareOp .LtE) (rI0 λi j=>.bl (decide (i<=j))):=aaF λ_ _ _ _ _ _ _ q=>le_int q
theorem afS:uF X (compareOp .Gt) (rI0 λi j=>.bl (decide (j<i))):=aaF λ_ _ _ _ _ _ _ q=>gt_int q
theorem afT:uF X (compareOp .GtE) (rI0 λi j=>.bl (decide (j<=i))):=aaF λ_ _ _ _ _ _ _ q=>ge_int q
theorem Ve:uF X (compareOp .Lt) (λx y H Q=>∃i j,x=.str i/\y=.str j/\Q (.bl (decide (i.cps.toList<j.cps.toList))) H):=by intro cq s σ H x y v u Q I e f h;obtain⟨i,j,rfl,rfl,q⟩:=h;obtain⟨t,rfl⟩:=e;obtain⟨g,rfl⟩:=f;exact lt_str (iR I q rfl)
theorem Vf:uF X (compareOp .In) (λx y H Q=>∃i j,x=.str i/\y=.str j/\Q (.bl (!(fP j i 0 j.length 1).isEmpty)) H):=by intro cq s σ H x y v u Q I e f h;obtain⟨i,j,rfl,rfl,q⟩:=h;obtain⟨t,rfl⟩:=e;obtain⟨g,rfl⟩:=f;exact in_str (iR I q rfl)
theorem adN:uF X (compareOp .Is) (λx y H Q=>y=.non/\Q (.bl (decide (x=.non))) H):=by
 intro cq s σ H x y v u Q I e f h;obtain⟨rfl,q⟩:=h;cases f;refine is_none_gen (iR I q ?_);cases x<;>first
  | (cases e;rfl)
  | (obtain⟨t,rfl⟩:=e;rfl)
theorem aaJ:uF X (compareOp .IsNot) (λx y H Q=>y=.non/\Q (.bl (!decide (x=.non))) H):=by
 intro cq s σ H x y v u Q I e f h;obtain⟨rfl,q⟩:=h;cases f;refine isnot_none_gen (iR I q ?_);cases x<;>first
  | (cases e;rfl)
  | (obtain⟨t,rfl⟩:=e;rfl)
theorem LR:uF X (compareOp .NotIn) (λx y H Q=>∃i j,x=.str i/\y=.str j/\Q (.bl (!(!(fP j i 0 j.length 1).isEmpty))) H):=by intro cq s σ H x y v u Q I e f h;obtain⟨i,j,rfl,rfl,q⟩:=h;obtain⟨t,rfl⟩:=e;obtain⟨g,rfl⟩:=f;exact notIn_str (iR I q rfl)
theorem aaK{op:ajr}{r:R2}(e:uF X (compareOp op) r)(ha:PE X a ta)(f:PE X b tb)(hm:ajs op b=ar):PE X (.Compare a [op] [b] pos) (tOp r ta tb):=by intro cq s σ H Q I h;exact wpAny_Compare1 (adG ha f I h λv u s2 x y g i j m q=>e cq s2 σ g x y v u Q i j m q) hm
def acA (t:TE):TT:=λσ H Q=>t σ H λx e=>∃k,x=.bl k/\Q k e
theorem aaL{op:ajr}{r:R2}(f:uF X (compareOp op) r)(ha:PE X a ta)(g:PE X b tb)(hm:ajs op b=ar):PT X (.Compare a [op] [b] pos) (acA (tOp r ta tb)):=by
 intro cq s σ H Q I h;refine wpAny_isTrue_Compare1 (kq (ha cq s σ H _ I h) λv s1 ⟨x,H1,i,j,m⟩=>kq (g cq s1 σ H1 _ i m) λu s2 ⟨y,n,o,p,q⟩=>
  kq (f cq s2 σ n x y v u _ o j p q) λc s3 ⟨z,w,A,B,k,e,C⟩=>?_) hm
 subst e;cases B;exact cA ⟨w,A,C⟩
def Q5 (r f:R2)(ta tb tc:TE):TE:=λσ H Q=>ta σ H λx H1=>tb σ H1 λy g=>r x y g λz e=>∃k,z=.bl k/\
 (if k=ag then tc σ e λh i=>f y h i Q else Q (.bl ar) e)
theorem Xj{op f:ajr}{r g:R2}(o:uF X (compareOp op) r)(p:uF X (compareOp f) g)(ha:PE X a ta)(q:PE X b tb)(w:PE X c tc)
(hm:aj6 [op,f] [b,c]=ar:=by with_unfolding_all rfl):PE X (.Compare a [op,f] [b,c] pos) (Q5 r g ta tb tc):=by
 intro cq s σ H Q I h;refine Compare_chain (kq (ha cq s σ H _ I h) λv s1 ⟨x,H1,A,B,C⟩=>chain_link (kq (q cq s1 σ H1 _ A C) λu s2 ⟨y,E,G,i,J⟩=>
  kq (o cq s2 σ E x y v u _ G B i J) λd s3 ⟨z,j,m,L,k,e,n⟩=>?_)) hm
 subst e;cases L;refine cA ?_;cases k with
 |false=>exact ite_ff ⟨.bl ar,j,m,rfl,n⟩
 |true=>exact ite_tt (chain_last (kq (w cq s3 σ j _ m n) λM N ⟨O,T,U,Y,q4⟩=>p cq N σ T y O u M Q U i Y q4))
theorem Xk{op f:ajr}{r g:R2}(o:uF X (compareOp op) r)(p:uF X (compareOp f) g)(ha:PE X a ta)(q:PE X b tb)(w:PE X c tc)
(hm:aj6 [op,f] [b,c]=ar:=by with_unfolding_all rfl):PT X (.Compare a [op,f] [b,c] pos) (acA (Q5 r g ta tb tc)):=by
 intro cq s σ H Q I h;refine isTrue_chain (kq (ha cq s σ H _ I h) λv s1 ⟨x,H1,A,B,C⟩=>test_link (kq (q cq s1 σ H1 _ A C) λu s2 ⟨y,E,G,i,J⟩=>
  kq (o cq s2 σ E x y v u _ G B i J) λd s3 ⟨z,j,m,L,k,e,n⟩=>?_)) hm
 subst e;cases L;refine cA ?_;cases k with
 |false=>
  obtain⟨k',e',M⟩:=n;cases e';exact ite_ff ⟨j,m,M⟩
 |true=>
  refine ite_tt (test_last (kq (w cq s3 σ j _ m n) λN O ⟨T,U,Y,r4,q4⟩=>kq (p cq O σ U y T u N _ Y i r4 q4) λd' s5 zq=>?_));obtain⟨z2,H5,I5,r5,k2,e2,q5⟩:=zq;subst e2;cases r5;exact cA ⟨H5,I5,q5⟩
theorem Aj:(aC:Nat)<2^63:=by rw[b9];decide
theorem Q6:uF X (binaryOp .Add) (λx y H Q=>∃i j,x=.str i/\y=.str j/\i.length+j.length<=aC/\Q (.str (i++j)) H):=by intro cq s σ H x y v u Q I e f h;obtain⟨i,j,rfl,rfl,g,q⟩:=h;obtain⟨t,rfl⟩:=e;obtain⟨m,rfl⟩:=f;exact add_str (λm n=>⟨.str (i++j),H,I.tok _,⟨_,rfl⟩,q⟩) g
theorem vals1{x:V}{us:List ae}(r:Vals [x] us):∃u,us=[u]/\RelV x u:=by
 cases r with
 |cons e f=>cases f;exact⟨_,rfl,e⟩
theorem vals2{x y:V}{us:List ae}(r:Vals [x,y] us):∃u e,us=[u,e]/\RelV x u/\RelV y e:=by
 cases r with
 |cons f g=>
  cases g with
  |cons h i=>cases i;exact⟨_,_,rfl,f,h⟩
theorem KL:pr X (.type "int") (λxs H Q=>(∃i,xs=[.int i]/\Q (.int i) H)\/∃k,xs=[.bl k]/\Q (.int (if k then 1 else 0)) H):=by
 intro cq s σ H xs us Q I r h;rcases h with⟨i,rfl,q⟩|⟨k,rfl,q⟩
 .obtain⟨u,rfl,t,rfl⟩:=vals1 r;exact call_int_int ⟨.int i,H,I,⟨_,rfl⟩,q⟩
 .obtain⟨u,rfl,e⟩:=vals1 r;cases e;exact call_int_bool ⟨.int (if k then 1 else 0),H,I.tok _,⟨_,rfl⟩,q⟩
end
structure Q7(h:az)(x dx C:ak)(mA:ay->Option ae):Prop where
 obj:h.get? x=aa (W.instObj C dx)
 ns:h.Ns1 dx mA
 ne:dx≠x
theorem Vg{h:az}{b:ak}{c:ay->Option ae}(n:h.Ns1 b c):∃od,h.get? b=aa od/\∀name,W.lookIn name od=aa (c name):=by
 obtain⟨o,es,p,f,hd,g,_,hm⟩:=n;refine⟨o,f,λname=>?_⟩;have e:=hm name;unfold nsFind akz at e;rw[<-Array.find?_toList] at e;unfold W.lookIn;rw[hd];dsimp only;split
 .rename_i y q;rw[q] at e;exact congrArg aa e
 .rename_i q;rw[q] at e;have a:es.toList.any (·.refKey)=ar:=by rw[List.any_eq_false];intro y i;obtain⟨z,t,j⟩:=g y (Array.mem_toList_iff.mp i);simp[akR.refKey,j]
  have m:¬es.toList.any (·.refKey)=ag:=by rw[a];exact ax
  rw[if_neg m];exact congrArg aa e
theorem Q7.look{h:az}{x a C:ak}{b:ay->Option ae}(I:Q7 h x a C b):∃od,W.InstAt h x (W.instObj C a) C (aa od)/\∀name,W.lookIn name od=aa (b name):=
 let⟨od,c,e⟩:=Vg I.ns
 ⟨od,⟨I.obj,rfl,rfl,c⟩,e⟩
section
variable {prog:ba} {w:bI} {A:bv} {E:ae->aq->Prop} {s:aq} {K:bz} {x dx C f:ak} {mA:ay->Option ae} {name:ay} {v:ae}
theorem get_map{expr:Bool}{Q:ae->aq->Prop}(X:K.In s.heap)(I:Q7 s.heap x dx C mA)(b:W.plainGet K C name=ag)(c:W.hasDictIn K C=ag)
(ha:cg K (.ref C) name=aa ao)(e:mA name=aa v)(a:W.handedIn v=ag)(h:Q v {s with toks:=s.toks+1}):
  wpAny (model prog w) A (getAttr (.ref x) name expr) Q E s:=by obtain⟨od,J,g⟩:=I.look;exact W.get_value X J (W.plainGet_of b).1 (W.findObj_own c ha rfl (by rw[g,e])) a h
theorem Xl{pl:akW Bool}{Q:ae×List ae->aq->Prop}(X:K.In s.heap)(I:Q7 s.heap x dx C mA)(a:W.plainGet K C name=ag)
(b:cg K (.ref C) name=aa (aa (.ref f)))(ht:W.isFn K (.ref f)=ag)(c:mA name=ao)(h:Q (.ref f,[.ref x]) s):
  wpAny (model prog w) A (aj7 (.ref x) name pl) Q E s:=by obtain⟨od,J,e⟩:=I.look;exact W.method_fn X J (W.plainGet_of a).1 (W.plainGet_of a).2 b (beq_iff_eq.mp ht) (by show(W.lookIn name od).map (·.isSome)=aa ar;rw[e,c];rfl) h
theorem aaM{ns:List ay}{Q:Unit->aq->Prop}(X:K.In s.heap)(I:Q7 s.heap x dx C mA)
(o:cg K (.ref C) "__setattr__"=aa (aa (.builtin "object.__setattr__")))(p:W.plainOver K C=ag)(ht:W.takerIn K C name=aa ao)(q:W.hasDictIn K C=ag)
(hw:PySem.Within mA ns)(H:ns.length<=aC)
(h:∀g,Q7 g x dx C (λy=>if y=name then aa v else mA y)->bJ dx s.heap g->Q () {s with heap:=g,toks:=s.toks+2}):
  wpAny (model prog w) A (setAttr (.ref x) name v) Q E s:=by obtain⟨od,J,L⟩:=I.look;refine W.set_plain X J o (W.osa_open (s:={s with toks:=s.toks+1}) (r:=ao) X J p ht λb=>?_);obtain⟨cd,u,i⟩:=W.any_some q;have z:s.heap.get? x=aa ⟨.ref C,aa dx,.plain,#[]⟩:=I.obj;refine ah (aw (ah (ah (wpAny_loadPart z (ah (W.Looks.here (s:={s with toks:=s.toks+1}) (W.looks_clsIn X u) ?_))))));rw[i];refine aw (a:=aa dx) (ah (aw (ah ?_)));refine wpAny_nsSet1 (s:={s with toks:=s.toks+1}) I.ns λg c e=>?_;obtain⟨M,B,G,j,m,n⟩:=c.count (PySem.Within.cons name v hw);refine ah (wpAny_lookBehind j (by rw[m];exact pastItsLine_dict (bG n (by rw[aU];omega))) ?_);exact aw (h _ ⟨(e.2 _ (cV I.ne)).trans I.obj,c,I.ne⟩ e)
theorem Xm{R:ake->aq->Prop}{a:List ae}{kw:List (ay×ae)}(X:K.In s.heap)(hm:W.makesIn K C=ag)
(hi:cg K (.ref C) "__init__"=aa (aa (.ref f)))(b:W.typeIn K (.ref f)=aa (.type "function"))
(h:codeAny (model prog w) (A.under (.builtin "type.__call__" ⟨.ref C::a,kw⟩)) (.call (.ref f) ⟨.ref (s.heap.objs.size+1)::a,kw⟩) (W.InitBack (s.heap.objs.size+1) R)
   {s with heap:=(s.heap.push W.emptyDict).push (W.instObj C s.heap.objs.size)}):
  codeAny (model prog w) A (.call (.ref C) ⟨a,kw⟩) R s:=by obtain⟨c,g,d,t,os⟩:=s;exact W.make_core (W.makes_of X hm) (W.looks_findIn X hi) (λself=>W.bind_fn X self b) (.inl rfl) h
end
noncomputable def sY(f:ay)(v:V):List (ay×V)->List (ay×V)
 |[]=>[(f,v)]
 | (g,x)::r=>if g=f then(g,v)::r else(g,x)::sY f v r
theorem Eo(f g:ay)(v:V):∀fs:List (ay×V),(sY f v fs).lookup g=if g=f then aa v else fs.lookup g
 |[]=>by
  show fv g [(f,v)]=_;by_cases h:g=f
  .have a:(g==f)=ag:=beq_iff_eq.mpr h;simp only [fv,a,if_pos h]
  .have a:(g==f)=ar:=beq_eq_false_iff_ne.mpr h;simp only [fv,a,if_neg h]
 | (k,x)::r=>by
  have c:=Eo f g v r;rw[show sY f v ((k,x)::r)=(if k=f then(k,v)::r else(k,x)::sY f v r) from rfl];by_cases b:k=f
  .rw[if_pos b];by_cases h:g=k
   .have a:(g==k)=ag:=beq_iff_eq.mpr h;simp only [fv,a,if_pos (h.trans b)]
   .have a:(g==k)=ar:=beq_eq_false_iff_ne.mpr h;simp only [fv,a,if_neg (λe:g=f=>h (e.trans b.symm))]
  .rw[if_neg b];by_cases h:g=k
   .have a:(g==k)=ag:=beq_iff_eq.mpr h;simp only [fv,a,if_neg (λe:g=f=>b (h.symm.trans e))]
   .have a:(g==k)=ar:=beq_eq_false_iff_ne.mpr h;simp only [fv,a];exact c
theorem C3(f:ay)(v:V):∀fs:List (ay×V),f∈(sY f v fs).map (·.1)/\∀g,g∈fs.map (·.1)->g∈(sY f v fs).map (·.1)
 |[]=>⟨by simp[sY],λg h=>by simp at h⟩
 | (k,x)::r=>by
  obtain⟨b,c⟩:=C3 f v r;rw[show sY f v ((k,x)::r)=(if k=f then(k,v)::r else(k,x)::sY f v r) from rfl];by_cases a:k=f
  .rw[if_pos a];subst a;exact⟨by simp,λg h=>by simpa using h⟩
  .rw[if_neg a];refine⟨?_,λg h=>?_⟩
   .rw[aZ];exact aH _ b
   .rw[aZ] at h |-;rcases aO.mp h with e|e
    .exact aO.mpr (.inl e)
    .exact aH _ (c g e)
theorem Ep(f:ay)(v:V):∀fs:List (ay×V),(sY f v fs).length<=fs.length+1
 |[]=>by simp[sY]
 | (k,x)::r=>by
  have b:=Ep f v r;rw[show sY f v ((k,x)::r)=(if k=f then(k,v)::r else(k,x)::sY f v r) from rfl];by_cases a:k=f
  .rw[if_pos a,aU,aU];omega
  .rw[if_neg a,aU,aU];omega
theorem xu.some_of{v:V}{o:Option ae}(r:xu (aa v) o):∃u,o=aa u/\RelV v u:=by
 cases o with
 |none=>exact(show False from r).elim
 |some u=>exact⟨u,rfl,r⟩
theorem xu.none_of{o:Option ae}(r:xu ao o):o=ao:=by
 cases o with
 |none=>rfl
 |some u=>exact(show False from r).elim
theorem Vh{v:V}{u:ae}(r:RelV v u):W.handedIn u=ag:=by
 cases v with
 |non=>cases(show u=cY from r);rfl
 |bl b=>cases(show u=ae.bool b from r);rfl
 |int i=>obtain⟨t,e⟩:=(show∃t,u=gf i t from r);cases e;rfl
 |str x=>obtain⟨t,e⟩:=(show∃t,u=fM x t from r);cases e;rfl
 |WO b=>obtain⟨t,e⟩:=(show∃t,u=ae.bytes b t from r);cases e;rfl
 |flt b=>obtain⟨t,e⟩:=(show∃t,u=ae.float b t from r);cases e;rfl
 |ref a=>cases(show u=bH a from r);rfl
 |ty n=>cases(show u=dX n from r);rfl
section
variable {P:ba} {w:bI} {H H':Hp} {h h':az} {a C dx:ak} {fs fs':List (ay×V)}
theorem Fv(jo:xv P w H h)(e:H a=aa (.ins C dx fs)):∃b,Q7 h a dx C b/\(∀f,xu (fs.lookup f) (b f))/\PySem.Within b (fs.map (·.1))/\fs.length<=1000/\H dx=aa (.own a):=by obtain⟨d,z,ne,c,b,n,r,q⟩:=(show jK P w H h a (.ins C dx fs) from jo a _ e);exact⟨b,⟨c,n,ne⟩,r,q,z,d⟩
end
structure Q8(K:bz)(C:ak):Prop where
 pg:W.plainGet K C ay.empty=ag
 hd:W.hasDictIn K C=ag
 po:W.plainOver K C=ag
 sa:cg K (.ref C) "__setattr__"=aa (aa (.builtin "object.__setattr__"))
theorem Q8.get{K:bz}{C:ak}(c:Q8 K C)(f:ay):W.plainGet K C f=ag:=c.pg
def xw (K:bz)(C:ak)(f:ay):Prop:=cg K (.ref C) f=aa ao
theorem xw.afU{K:bz}{C:ak}{f:ay}(n:xw K C f):W.takerIn K C f=aa ao:=by unfold W.takerIn;rw[show cg K (.ref C) f=aa ao from n];rfl
structure Con(K:bz)(C:ak)(f:ay)(v:V)(u:ae):Prop where
 at_:cg K (.ref C) f=aa (aa u)
 rel:RelV v u
 get:W.specialIn K u "__get__"=aa ao
 cp:W.copiedNames.contains f=ar
structure Meth(K:bz)(C:ak)(m:ay)(f:ak):Prop where
 at_:cg K (.ref C) m=aa (aa (.ref f))
 fn:W.isFn K (.ref f)=ag
 kp:dy K (.ref f)=ag
section
variable {X:Cx} {cq:List (ak×cm)} {σ:St} {H:Hp} {s:aq} {a C dx:ak} {fs:List (ay×V)} {f:ay} {v:V} {A:bv} {E:ae->aq->Prop}
theorem F8{b:Bool}{Q:ae->aq->Prop}(I:Inv X cq σ H s)(e:H a=aa (.ins C dx fs))(c:Q8 X.K C)(n:xw X.K C f)(l:fs.lookup f=aa v)
(h:∀u g,Inv X cq σ H g->RelV v u->Q u g):wpAny (model X.prog X.w) A (getAttr (.ref a) f b) Q E s:=by obtain⟨j,O,r,_,_,_⟩:=Fv I.jo e;obtain⟨u,m,i⟩:=xu.some_of (v:=v) (o:=j f) (by rw[<-l];exact r f);exact get_map I.zM O (c.get f) c.hd n m (Vh i) (h u _ (I.tok _) i)
theorem F9{m:ay}{g:ak}{pl:akW Bool}{Q:ae×List ae->aq->Prop}(I:Inv X cq σ H s)(e:H a=aa (.ins C dx fs))(c:Q8 X.K C)(k:Meth X.K C m g)(l:fs.lookup m=ao)
(h:Q (.ref g,[.ref a]) s):wpAny (model X.prog X.w) A (aj7 (.ref a) m pl) Q E s:=by obtain⟨b,O,r,_,_,_⟩:=Fv I.jo e;have hn:b m=ao:=xu.none_of (by rw[<-l];exact r m);exact Xl I.zM O (c.get m) k.at_ k.fn hn h
theorem Ga{y:V}{u:ae}{Q:Unit->aq->Prop}(I:Inv X cq σ H s)(e:H a=aa (.ins C dx fs))(c:Q8 X.K C)(n:xw X.K C f)(N:fs.length<1000)(B:RelV y u)
(h:∀j,Inv X cq σ (upd H a (.ins C dx (sY f y fs))) j->Q () j):wpAny (model X.prog X.w) A (setAttr (.ref a) f u) Q E s:=by
 obtain⟨m,O,r,wi,_,p⟩:=Fv I.jo e;have G:(fs.map (·.1)).length<=aC:=by rw[ai,b9];omega
 refine aaM I.zM O c.sa c.po n.afU c.hd wi G λJ i sb=>h _ ?_;have hd:∃o,J.get? dx=aa o:=let⟨o,_,_,e',_⟩:=i.ns;⟨o,e'⟩;refine I.write (x:=a) (e:=dx) (by rw[e];exact cS) (.inr p) (λb q L z=>(sb.2 b L).trans z) hd ?_;refine⟨by rw[g9 O.ne];exact p,?_,O.ne,i.obj,_,i.ns,λg=>?_,λg M=>?_⟩
 .have:=Ep f y fs;omega
 .show xu ((sY f y fs).lookup g) (if g=f then aa u else m g);rw[Eo];by_cases q:g=f
  .rw[if_pos q,if_pos q];exact B
  .rw[if_neg q,if_neg q];exact r g
 .by_cases q:g=f
  .rw[q];exact(C3 f y fs).1
  .refine(C3 f y fs).2 g (wi g λz=>M ?_);show(if g=f then aa u else m g)=ao;rw[if_neg q];exact z
theorem Inv.made(I:Inv X cq σ H s):Inv X cq σ (upd (upd H s.heap.objs.size (.own (s.heap.objs.size+1))) (s.heap.objs.size+1) (.ins C s.heap.objs.size []))
  {s with heap:=(s.heap.push W.emptyDict).push (W.instObj C s.heap.objs.size)}:=by
 have c:(s.heap.push W.emptyDict).get? s.heap.objs.size=aa W.emptyDict:=aP s.heap rfl;have g:((s.heap.push W.emptyDict).push (W.instObj C s.heap.objs.size)).get? (s.heap.objs.size+1)=aa (W.instObj C s.heap.objs.size):=by
  have:=aP (s.heap.push W.emptyDict) (o:=W.instObj C s.heap.objs.size) rfl
  rwa [bZ] at this
 have h:(s.heap.push W.emptyDict).Ns s.heap.objs.size (λ_=>ao):=⟨W.emptyDict,#[],_,c,rfl,(λe i=>absurd i (by simp)),λ_=>rfl⟩;have j:=I.laid (a:=s.heap.objs.size) (o:=.own (s.heap.objs.size+1)) (h':=s.heap.push W.emptyDict) (t':=s.toks) (λb u q=>aj _ q) (aM _) ⟨_,c⟩;refine j.laid (a:=s.heap.objs.size+1) (o:=.ins C s.heap.objs.size []) (t':=s.toks) (λb u q=>aj _ q) (fQ (bZ _ _)) ?_;have ne:s.heap.objs.size≠s.heap.objs.size+1:=bf (gz _);refine⟨by rw[g9 ne,ip],bi _,ne,g,λ_=>ao,(az.Ns1.of_empty h).at λo q=>aj _ q,λ_=>cS,λy n=>absurd rfl n⟩
theorem aaN{prog:ba}{w:bI}{env:ajk}{e:bC}{f:ay}{pos:d8}{s:aq}{Q:ae->aq->Prop}(b:du e f env (eval e env)=eval e env)
(h:wpAny (model prog w) A (eval e env) (λo c=>wpAny (model prog w) A (getAttr o f ag) Q E c) E s):wpAny (model prog w) A (eval (.Attribute e f pos) env) Q E s:=
 Attribute_any_ h (by rw[arm_eval_Attribute,b])
end
def ahX (K:bz)(b:TE)(f:ay):TE:=λσ H Q=>b σ H λx H1=>∃a C c fs v,x=.ref a/\H1 a=aa (.ins C c fs)/\Q8 K C/\xw K C f/\fs.lookup f=aa v/\Q v H1
def ahY (K:bz)(e g:TE)(f:ay):TS:=λD σ H=>g σ H λy H1=>e σ H1 λx b=>∃a C c fs,x=.ref a/\b a=aa (.ins C c fs)/\Q8 K C/\xw K C f/\fs.length<1000/\
 D.nx σ (upd b a (.ins C c (sY f y fs)))
def afV (X:Cx)(op:fj)(a:V->V->Hp->VK->Prop):Prop:=
 ∀(cq:List (ak×cm)) (s:aq) (σ:St) (H:Hp) (x y:V) (u v:ae) (Q:VK),Inv X cq σ H s->RelV x u->RelV y v->a x y H Q->wpAny (model X.prog X.w) X.A (ajH op u v) (EP X cq σ Q) X.xe s
def aaO (K:bz)(g h:TE)(i:V->V->Hp->VK->Prop)(f:ay):TS:=λD σ H=>g σ H λx H1=>∃a C j fs v,x=.ref a/\H1 a=aa (.ins C j fs)/\Q8 K C/\xw K C f/\fs.lookup f=aa v/\
 h σ H1 λy m=>i v y m λz e=>∃c b,e a=aa (.ins C c b)/\b.length<1000/\D.nx σ (upd e a (.ins C c (sY f z b)))
section
variable {X:Cx} {o e value:bC} {f:ay} {pos pos' vy:d8} {ta tv:TE}
theorem adO(b:PE X e ta)(g:du e f X.env (eval e X.env)=eval e X.env):PE X (.Attribute e f pos) (ahX X.K ta f):=by intro cq s σ H Q I h;refine aaN g (kq (b cq s σ H _ I h) λu s1 i=>?_);obtain⟨x,H1,j,m,a,C,y,fs,v,ex,p,c,n,l,q⟩:=i;subst ex;obtain rfl:u=bH a:=m;exact F8 j p c n l λz s2 r w=>⟨v,H1,r,w,q⟩
theorem adP(ha:PE X o ta)(b:PE X value tv)(g:eL value (aa (.Attribute o f pos')) pos.line X.env=pure ar):PS X (.Assign [.Attribute o f pos'] value pos) (ahY X.K ta tv f):=by intro cq s σ H D I h;refine plainObj_wpAny_Assign_Attribute (kq (b cq s σ H _ I h) λu s1 ⟨y,H1,i,j,q⟩=>kq (ha cq s1 σ H1 _ i q) λm s2 ⟨x,A,p,r,a,C,B,fs,ex,v,c,n,l,w⟩=>?_) g;subst ex;obtain rfl:m=bH a:=r;exact Ga p v c n l j λs3 z=>⟨σ,_,z,w⟩
theorem Vi{op:fj}{i:V->V->Hp->VK->Prop}(ha:PE X o ta)(j:PE X value tv)(b:afV X op i):PS X (.AugAssign (.Attribute o f vy) op value pos) (aaO X.K ta tv i f):=by intro cq s σ H D I h;refine wpAny_AugAssign_AttributeAny (kq (ha cq s σ H _ I h) λm s1 g=>?_);obtain⟨x,H1,p,r,a,C,dx,fs,v,ex,w,c,n,l,q⟩:=g;subst ex;obtain rfl:m=bH a:=r;refine F8 p w c n l λu s2 A B=>kq (j cq s2 σ H1 _ A q) λE s3 ⟨y,G,J,L,M⟩=>kq (b cq s3 σ G v y u E _ J B L M) λw4 s4 g=>?_;obtain⟨z,H3,N,O,Q,T,U,Y,q4⟩:=g;exact Ga N U c n Y O λs5 I5=>⟨σ,_,I5,q4⟩
def ahZ:V->V->Hp->VK->Prop:=λx y H Q=>∃i j,x=.int i/\y=.int j/\Q (.int (i+j)) H
theorem adQ:afV X .Add ahZ:=by
 rintro cq s σ H x y u v Q I b c ⟨i,j,rfl,rfl,q⟩
 obtain⟨t,rfl⟩:=(show∃t,u=gf i t from b);obtain⟨a,rfl⟩:=(show∃a,v=gf j a from c);exact PyProof.Rows.iadd_int ⟨.int (i+j),H,I.tok _,⟨_,rfl⟩,q⟩
end
section
variable {X:Cx} {cq:List (ak×cm)} {σ:St} {H:Hp} {s:aq} {A:bv} {E:ae->aq->Prop} {Q:ae->aq->Prop} {c:ae} {b:Bool}
inductive E5(K:bz)(H:Hp):V->ae->Prop where
 |non:E5 K H .non (.type "NoneType")
 |bl (x:Bool):E5 K H (.bl x) (.type "bool")
 |int (i:Int):E5 K H (.int i) (.type "int")
 |str (x:ay):E5 K H (.str x) (.type "str")
 |flt (x:UInt64):E5 K H (.flt x) (.type "float")
 |lst {a:ak} {xs:List V} (e:H a=aa (.lst xs)):E5 K H (.ref a) (.type "list")
 |FY {a:ak} {o:cm} {xs:List V} (e:H a=aa (.FY o (.lst xs))):E5 K H (.ref a) (.type "list")
 |tup {a:ak} {xs:List V} (e:H a=aa (.tup xs)):E5 K H (.ref a) (.type "tuple")
 |dK {a:ak} {hZ:List (Key×V)} (e:H a=aa (.dK hZ)):E5 K H (.ref a) (.type "dict")
 |dT {a:ak} {hZ:List (List Key×V)} (e:H a=aa (.dT hZ)):E5 K H (.ref a) (.type "dict")
 |ins {a C dx:ak} {fs:List (ay×V)} (e:H a=aa (.ins C dx fs)) (cl:Q8 K C) (ha:cg K (.ref C) "__class__"=aa (aa (.builtin "object.__class__")))
   (hn:W.specialIn K (.builtin "object.__class__") "__get__"=aa (aa (.builtin "getset_descriptor.__get__"))) (htk:W.takesIn K (.builtin "object.__class__")=aa ag)
   (hm:W.mroIn K C (.type "object")=aa ag):E5 K H (.ref a) (.ref C)
theorem rQ{x:V}{u t:ae}(I:Inv X cq σ H s)(f:RelV x u)(ty:E5 X.K H x t)(e:cN X.K t c=aa b)(h:∀v,Q (.bool b) {s with toks:=v}):
  wpAny (model X.prog X.w) A (call (.builtin "isinstance") [u,c]) Q E s:=by
 cases ty with
 |non=>cases(show u=cY from f);exact W.kia_one W.kitx_none I.zM cS e (λz=>nomatch z) h
 |bl y=>cases(show u=ae.bool y from f);exact W.kia_one W.kitx_bool I.zM cS e (λz=>nomatch z) h
 |int i=>obtain⟨t,q⟩:=(show∃t,u=gf i t from f);cases q;exact W.kia_one W.kitx_int I.zM cS e (λz=>nomatch z) h
 |str y=>obtain⟨t,q⟩:=(show∃t,u=fM y t from f);cases q;exact W.kia_one W.kitx_str I.zM cS e (λz=>nomatch z) h
 |flt y=>obtain⟨t,q⟩:=(show∃t,u=ae.float y t from f);cases q;exact W.kia_one W.kitx_float I.zM cS e (λz=>nomatch z) h
 |@lst a xs g=>
  cases(show u=bH a from f);obtain⟨_,_,n,_,j⟩:=(show jK X.prog X.w H s.heap a (.lst xs) from I.jo a _ g);exact W.kia_one W.kitx_list I.zM ⟨_,j,rfl⟩ e (λz=>nomatch z) h
 |@FY a B xs g=>
  cases(show u=bH a from f);obtain⟨_,_,_,n,_,j⟩:=(show jK X.prog X.w H s.heap a (.FY B (.lst xs)) from I.jo a _ g);exact W.kia_one W.kitx_list I.zM ⟨_,j,rfl⟩ e (λz=>nomatch z) h
 |@tup a xs g=>
  cases(show u=bH a from f);obtain⟨_,_,_,p⟩:=(show jK X.prog X.w H s.heap a (.tup xs) from I.jo a _ g);obtain⟨o,j,m,_⟩:=p;exact W.kia_one W.kitx_tuple I.zM ⟨o,j,m⟩ e (λz=>nomatch z) h
 |@dK a r g=>
  cases(show u=bH a from f);obtain⟨_,_,L,_,p⟩:=(show jK X.prog X.w H s.heap a (.dK r) from I.jo a _ g);obtain⟨o,es,G,j,m,_⟩:=p;exact W.kia_one W.kitx_dict I.zM ⟨o,j,m.1⟩ e (λz=>nomatch z) h
 |@dT a r g=>
  cases(show u=bH a from f);obtain⟨_,_,xs,_,o,es,G,j,m,_⟩:=(show jK X.prog X.w H s.heap a (.dT r) from I.jo a _ g);exact W.kia_one W.kitx_dict I.zM ⟨o,j,m.1⟩ e (λz=>nomatch z) h
 |@ins a C M fs g cl ha hn htk hm=>
  cases(show u=bH a from f);obtain⟨N,O,_⟩:=Fv I.jo g;obtain⟨od,J,_⟩:=O.look;exact W.kia_one (W.kitx_own (cl.get _) cl.hd ha hn htk hm) I.zM J e (λz=>nomatch z) h
end
structure jU(k:Nat)(A:bv):Prop where
 hd:A.handled=ao
 dp:A.depth+3*k+5<akX
 un:A.units+16*k+200<gg
 gd:A.guards=aa []
theorem jU.mono{j k:Nat}{A:bv}(r:jU k A)(h:j<=k):jU j A:=⟨r.hd,by have:=r.dp;omega,by have:=r.un;omega,r.gd⟩
theorem jU.deeper{k:Nat}{A:bv}(r:jU (k+1) A)(env:ajk):jU k (A.deeper env):=
 ⟨r.hd,by have:=r.dp;show A.depth+1+3*k+5<_;omega,by have:=r.un;show A.units+3+16*k+200<_;omega,r.gd⟩
theorem jU.in1{k:Nat}{A:bv}(r:jU (k+1) A):jU k A.in1:=
 ⟨r.hd,by have:=r.dp;show A.depth+3*k+5<_;omega,by have:=r.un;show A.units+1+16*k+200<_;omega,r.gd⟩
theorem Q9{A:bv}{C:ak}{us:List ae}{kw:List (ay×ae)}:(A.under (.builtin "type.__call__" ⟨.ref C::us,kw⟩)).depth=A.depth+1:=by first|rfl|simp[bv.under,Code.weight,Code.isCreation,Code.isGuard,Code.isCaller,Code.frames,Code.isFrame,guardIds]
theorem Ra{A:bv}{C:ak}{us:List ae}{kw:List (ay×ae)}:(A.under (.builtin "type.__call__" ⟨.ref C::us,kw⟩)).units=A.units+1:=by first|rfl|simp[bv.under,Code.cUnits,Code.frames,Code.isFrame]
theorem Oa{A:bv}{C:ak}{us:List ae}{kw:List (ay×ae)}:(A.under (.builtin "type.__call__" ⟨.ref C::us,kw⟩)).guards=A.guards:=by first|rfl|(show A.guards.map (Code.guards _++·)=A.guards;rw[show Code.guards (.builtin "type.__call__" ⟨.ref C::us,kw⟩)=[] from by first|rfl|simp[Code.guards,Code.isGuard,guardIds]];simp)
theorem jU.make{k:Nat}{A:bv}(r:jU (k+1) A)(C:ak)(us:List ae)(kw:List (ay×ae)):jU k (A.under (.builtin "type.__call__" ⟨.ref C::us,kw⟩)):=
 ⟨r.hd,by have:=r.dp;rw[Q9];omega,by have:=r.un;rw[Ra];omega,by rw[Oa];exact r.gd⟩
theorem jU.depth{k:Nat}{A:bv}(r:jU k A):A.depth<akX:=by have:=r.dp;omega
theorem jU.units{k:Nat}{A:bv}(r:jU k A):A.units+64<gg:=by have:=r.un;omega
def adR:TA:=λ_ H Q=>Q [] H
def afW (a:TE)(tr:TA):TA:=λσ H Q=>a σ H λx H1=>tr σ H1 λxs b=>Q (x::xs) b
section
variable {X:Cx} {e:bC} {es:List bC} {te:TE} {t:TA} {pos:d8}
theorem Rb:PA X [] adR:=λ_ _ _ _ H Q I h=>Calls.spliced_nil ⟨[],H,I,.nil,h⟩
theorem LS(ha:PE X e te)(a:PA X es t)(b:bc (e::es) X.env=(ar,eval e X.env)::bc es X.env:=by rfl):PA X (e::es) (afW te t):=by intro pos cq s σ H Q I h;rw[b];show wpAny _ _ (spliced ((ar,eval e X.env)::c7 pos (bc es X.env))) _ _ s;refine Calls.spliced_cons (kq (ha cq s σ H _ I h) λu s1 c=>?_);obtain⟨x,H1,f,g,i⟩:=c;exact kq (a pos cq s1 σ H1 _ f i) λus s2 ⟨xs,j,m,n,o⟩=>⟨x::xs,j,m,.cons g n,o⟩
def ah0 (t:TA):TE:=λσ H Q=>t σ H λxs H1=>xs.length<=aC/\∀p,H1 p=ao->Q (.ref p) (upd H1 p (.tup xs))
def ah1 (t:TA):TE:=λσ H Q=>t σ H λxs H1=>xs.length<=aC/\∀p,H1 p=ao->Q (.ref p) (upd H1 p (.lst xs))
theorem adS{c}(h:PA X es t):PE X (.Tuple es c pos) (ah0 t):=by intro cq s σ H Q I f;refine wpAny_Tuple_spliced (kq (h pos cq s σ H _ I f) λus s1 ⟨xs,H1,a,r,z,q⟩=>⟨by rw[<-r.length];exact z,?_⟩);have g:H1 s1.heap.objs.size=ao:=a.jo.fresh (aM _);refine⟨.ref s1.heap.objs.size,upd H1 s1.heap.objs.size (.tup xs),a.laid (t':=s1.toks) (λb u e=>aj _ e) (aM _) ?_,rfl,q _ g⟩;exact⟨z,us,r,⟨_,aP _ rfl,rfl,_,rfl⟩⟩
theorem adT(h:PA X es t):PE X (.List es pos) (ah1 t):=by intro cq s σ H Q I c;refine wpAny_List_spliced (kq (h pos cq s σ H _ I c) λus s1 ⟨xs,H1,a,r,z,q⟩=>⟨by rw[<-r.length];exact z,?_⟩);have f:H1 s1.heap.objs.size=ao:=a.jo.fresh (aM _);refine⟨.ref s1.heap.objs.size,upd H1 s1.heap.objs.size (.lst xs),a.laid (t':=s1.toks) (λb u e=>aj _ e) (aM _) ?_,rfl,q _ f⟩;exact⟨z,us,0,r,aP _ rfl⟩
end
abbrev Sp:=List V->Hp->VK->XK->Prop
abbrev CXT:=List ajk->Hp->aq->XK->ae->aq->Prop
structure Gb(P:ba)(w:bI)(K:bz)(mg:ay->Option ae)(cv:az)(A:bv)(dk:List ajk)(s:aq)(H:Hp):Prop where
 frames:A.frames=aa dk
 mod:Mod K mg cv
 bs:∀b o,cv.get? b=aa o->s.heap.get? b=aa o/\H b=ao
 W5:cv.objs.size<=s.heap.objs.size
 C2:s.heap.FunFrames cv dk
 frf:∀b∈E4 dk,H b=ao
 jo:xv P w H s.heap
 bare:fN s.gens
def CE (dk:List ajk)(P:ba)(w:bI)(H:Hp)(s:aq)(Q:VK)(u:ae)(a:aq):Prop:=
 ∃v b,a.os=s.os/\fN a.gens/\Un (E4 dk) [] H b s.heap a.heap/\xv P w b a.heap/\RelV v u/\Q v b
def CR (b:CXT)(dk:List ajk)(P:ba)(w:bI)(H:Hp)(s:aq)(Q:VK)(E:XK)(r:ake)(a:aq):Prop:=
 match r with
 |.ok (.ret u)=>CE dk P w H s Q u a
 |.ok _=>False
 |.error e=>b dk H s E e a
structure ke(P:ba)(w:bI)(K:bz)(mg:ay->Option ae)(cv:az)(CX:CXT)(k:Nat)(f:ak)(fd:cK)(ps:List ay)(sp:Sp):Prop where
 len:∀vs H Q E,sp vs H Q E->vs.length=ps.length
 run:∀(A:bv) (dk:List ajk) (s:aq) (H:Hp) (args:Args) (us:List ae) (vs:List V) (Q:VK) (E:XK),jU k A->Gb P w K mg cv A dk s H->ajD s fd args (ps.zip us)->Vals vs us->sp vs H Q E->
  codeAny (model P w) A (.call (.ref f) args) (CR CX dk P w H s Q E) s
theorem ke.imp{P:ba}{w:bI}{K:bz}{mg:ay->Option ae}{cv:az}{c:CXT}{k:Nat}{f:ak}{fd:cK}{e:List ay}{sp b:Sp}(F:ke P w K mg cv c k f fd e sp)
(h:∀a H Q E,b a H Q E->sp a H Q E):ke P w K mg cv c k f fd e b:=
 ⟨λa H Q E q=>F.len a H Q E (h _ _ _ _ q),λA dk s H args us a Q E g i j m n=>F.run A dk s H args us a Q E g i j m (h _ _ _ _ n)⟩
theorem Gb.make{P:ba}{w:bI}{K:bz}{mg:ay->Option ae}{cv:az}{A:bv}{dk:List ajk}{s:aq}{H:Hp}(e:Gb P w K mg cv A dk s H)(C:ak)(us:List ae)(kw:List (ay×ae)):
  Gb P w K mg cv (A.under (.builtin "type.__call__" ⟨.ref C::us,kw⟩)) dk s H:=⟨by first|exact e.frames|(simpa[bv.under,Code.envs,Code.isFrame,pushEnvs] using e.frames),e.mod,e.bs,e.W5,e.C2,e.frf,e.jo,e.bare⟩
theorem Gb.in1{P:ba}{w:bI}{K:bz}{mg:ay->Option ae}{cv:az}{A:bv}{dk:List ajk}{s:aq}{H:Hp}(e:Gb P w K mg cv A dk s H):
  Gb P w K mg cv A.in1 dk s H:=⟨e.frames,e.mod,e.bs,e.W5,e.C2,e.frf,e.jo,e.bare⟩
section
variable {X:Cx} {cq:List (ak×cm)} {σ:St} {H:Hp} {s s':aq}
theorem Inv.adU(I:Inv X cq σ H s):Gb X.prog X.w X.K X.mg X.cv X.A X.stack s H:=
 ⟨I.ok.frames,I.ok.mod,I.bs,bG I.ok.W5 I.sz,I.stack,I.Tu,I.jo,I.bare⟩
theorem Inv.after{Q:VK}{u:ae}(I:Inv X cq σ H s)(h:CE X.stack X.prog X.w H s Q u s'):EP X cq σ Q u s':=by obtain⟨v,c,os,bare,un,jo,r,q⟩:=h;obtain⟨e,g,d,t,a⟩:=s';obtain rfl:a=s.os:=os;exact⟨v,c,I.call (h':=e) (g':=g) (d':=d) (t':=t) (ch:=[]) un jo bare (λb z=>absurd z (by simp)),r,q⟩
end
def TD (sp:Sp)(wT:List V)(E:XK)(t:TA):TE:=λσ H Q=>t σ H λa H1=>sp (a++wT) H1 Q E
def afX (C:ak)(sp:Sp)(wT:List V)(E:XK)(t:TA):TE:=λσ H Q=>t σ H λb H1=>∀x a,H1 x=ao->H1 a=ao->a≠x->
 sp (.ref x::(b++wT)) (upd (upd H1 a (.own x)) x (.ins C a [])) (λv c=>v=.non/\Q (.ref x) c) E
def Binds(K:bz)(fd:cK)(a:List ay)(ds:List ae):Prop:=
 ∀(s:aq) (us:List ae),K.In s.heap->(us++ds).length=a.length->ajD s fd ⟨us,[]⟩ (a.zip (us++ds))
theorem Binds.all{K:bz}{fd:cK}{a:List ay}(h:∀us:List ae,us.length=a.length->dY fd ⟨us,[]⟩=pure (a.zip us)):Binds K fd a []:=λs us _ b=>by rw[aR] at b |-;exact .of_eq (h us b)
def C4 (b:CXT)(X:Cx)(E:XK):Prop:=∀(cq:List (ak×cm)) (σ:St) (H:Hp) (s:aq) (e:ae) (a:aq),Inv X cq σ H s->b X.stack H s E e a->X.xe e a
section
variable {X:Cx} {CX:CXT} {k:Nat} {f C:ak} {fd:cK} {ps:List ay} {sp:Sp} {wT:List V} {ds:List ae} {E:XK} {x m:ay} {p pos apos:d8} {e o:bC} {es:List bC} {ta:TE} {t:TA}
theorem LU{cq:List (ak×cm)}{σ:St}{H:Hp}{s:aq}{Q:VK}{us:List ae}{vs:List V}(F:ke X.prog X.w X.K X.mg X.cv CX k f fd ps sp)(c:jU k X.A)(g:Binds X.K fd ps ds)(hd:Vals wT ds)(i:C4 CX X E)
(I:Inv X cq σ H s)(r:Vals vs us)(h:sp (vs++wT) H Q E):wpAny (model X.prog X.w) X.A (call (.ref f) us) (EP X cq σ Q) X.xe s:=by
 have b:Vals (vs++wT) (us++ds):=r.append hd;have j:(us++ds).length=ps.length:=by rw[<-b.length];exact F.len _ _ _ _ h
 refine ajS (fq (F.run X.A X.stack s H ⟨us,[]⟩ (us++ds) (vs++wT) Q E c I.adU (g s us I.zM j) b h) λr n a=>?_);cases r with
 |error e=>exact i cq σ H s e n I a
 |ok fl=>
  cases fl with
  |ret u=>exact I.after a
  |next=>exact cy a
  |brk=>exact cy a
  |cont=>exact cy a
theorem aaP(F:ke X.prog X.w X.K X.mg X.cv CX k f fd ps sp)(c:jU k X.A)(g:Gl X x)(hm:X.mg x=aa (.ref f))(i:dy X.K (.ref f)=ag)(j:Binds X.K fd ps ds)(hd:Vals wT ds)(n:C4 CX X E)
(ha:PA X (e::es) t)(u:(x==("__debug__":ay))=ar:=by decide)(v:bc (e::es) X.env=(ar,eval e X.env)::bc es X.env:=by rfl)(y:(c7 pos (bc es X.env)).any (·.1)=ar:=by rfl):
  PE X (.Call (.Name x p) (e::es) [] pos) (TD sp wT E t):=by intro cq s σ H Q I h;refine dQ (Fu I g hm ?_ u);refine W.callWith_K (h₀:=X.cv) I.ok.mod.kin i (kq (ha pos cq s σ H _ I h) λus s1 ⟨z,H1,b,r,q⟩=>⟨b.zM,?_⟩) v y;exact LU F c j hd n b r q
theorem Xn(F:ke X.prog X.w X.K X.mg X.cv CX k f fd ps sp)(a:jU k X.A)(b:Gl X x)(hm:X.mg x=aa (.ref f))(c:dy X.K (.ref f)=ag)(g:Binds X.K fd ps ds)(hd:Vals wT ds)(i:C4 CX X E)
(j:(x==("__debug__":ay))=ar:=by decide):PE X (.Call (.Name x p) [] [] pos) (TD sp wT E adR):=by intro cq s σ H Q I h;refine dQ (Fu I b hm ?_ j);exact W.callWith_K0 I.zM c (LU (us:=[]) F a g hd i I .nil h)
structure Mk(K:bz)(C f:ak):Prop where
 makes:W.makesIn K C=ag
 init:cg K (.ref C) "__init__"=aa (aa (.ref f))
 fn:W.isFn K (.ref f)=ag
 kp:dy K (.ref C)=ag
theorem Xo{cq:List (ak×cm)}{σ:St}{H:Hp}{s:aq}{Q:VK}{us:List ae}{g:List V}(M:Mk X.K C f)(F:ke X.prog X.w X.K X.mg X.cv CX k f fd ps sp)(n:jU (k+1) X.A)(q:Binds X.K fd ps ds)(hd:Vals wT ds)
(y:C4 CX X E)(I:Inv X cq σ H s)(r:Vals g us)
(h:∀x b,H x=ao->H b=ao->b≠x->sp (.ref x::(g++wT)) (upd (upd H b (.own x)) x (.ins C b [])) (λv z=>v=.non/\Q (.ref x) z) E):
  wpAny (model X.prog X.w) X.A (call (.ref C) us) (EP X cq σ Q) X.xe s:=by
 have i:=h (s.heap.objs.size+1) s.heap.objs.size (I.jo.fresh (ck _)) (I.jo.fresh (aM _)) (bf (gz _));have c:=Inv.made (C:=C) I;have j:Vals (V.ref (s.heap.objs.size+1)::(g++wT)) (bH (s.heap.objs.size+1)::(us++ds)):=.cons rfl (r.append hd);have B:(bH (s.heap.objs.size+1)::us++ds).length=ps.length:=by have e:=j.length;rw[F.len _ _ _ _ i] at e;exact e.symm
 refine ajS (Xm (f:=f) I.zM M.makes M.init (beq_iff_eq.mp M.fn) (fq (F.run _ X.stack _ _ ⟨bH (s.heap.objs.size+1)::us,[]⟩ (bH (s.heap.objs.size+1)::(us++ds)) _ _ E (n.make C us [])
  (c.adU.make C us []) (q _ (bH (s.heap.objs.size+1)::us) c.zM B) j i) λr G a=>?_))
 cases r with
 |error e=>exact y cq σ _ _ e G c a
 |ok fl=>
  cases fl with
  |ret u=>
   obtain⟨v,J,L,N,O,T⟩:=c.after a;subst O;exact⟨N,⟨V.ref (s.heap.objs.size+1),J,L,rfl,T⟩⟩
  |next=>exact cy a
  |brk=>exact cy a
  |cont=>exact cy a
theorem TF(M:Mk X.K C f)(F:ke X.prog X.w X.K X.mg X.cv CX k f fd ps sp)(c:jU (k+1) X.A)(g:Gl X x)(hm:X.mg x=aa (.ref C))(i:Binds X.K fd ps ds)(hd:Vals wT ds)(j:C4 CX X E)
(ha:PA X (e::es) t)(n:(x==("__debug__":ay))=ar:=by decide)(u:bc (e::es) X.env=(ar,eval e X.env)::bc es X.env:=by rfl)(v:(c7 pos (bc es X.env)).any (·.1)=ar:=by rfl):
  PE X (.Call (.Name x p) (e::es) [] pos) (afX C sp wT E t):=by intro cq s σ H Q I h;refine dQ (Fu I g hm ?_ n);refine W.callWith_K (h₀:=X.cv) I.ok.mod.kin M.kp (kq (ha pos cq s σ H _ I h) λus s1 ⟨y,H1,b,r,q⟩=>⟨b.zM,?_⟩) u v;exact Xo M F c i hd j b r q
end
section
variable {X:Cx} {CX:CXT} {k:Nat} {f C:ak} {fd:cK} {ps ks:List ay} {sp:Sp} {E:XK} {x m:ay} {p pos apos Rc:d8} {e o:bC} {es:List bC} {kws:List aji} {te ta:TE} {t tk:TA} {nm:Option ay}
structure ah2(K:bz)(fd:cK)(ps ks:List ay)(g:List ae->List ae->List ae)(gV:List V->List V->List V):Prop where
 to:∀(s:aq) (us ws:List ae),K.In s.heap->(g us ws).length=ps.length->ajD s fd ⟨us,ks.zip ws⟩ (ps.zip (g us ws))
 rel:∀{vs:List V} {us:List ae} {zs:List V} {ws:List ae},Vals vs us->Vals zs ws->Vals (gV vs zs) (g us ws)
variable {g:List ae->List ae->List ae} {gV:List V->List V->List V}
end
structure gU(N P:List ay)(sc:df):Prop where
 kind:sc.kind=.function
 co:sc.isCoroutine=ar
 gen:sc.isGenerator=ar
 nd:N.Nodup
 pre:N.take P.length=P
 par:∀x∈P,sc.names.lookup x=aa .local\/sc.names.lookup x=aa .cell
 adW:∀y∈sc.names,y.2≠.free
theorem KN{kindOf:ay->Option cE}{x:ay}:∀{binds:List (ay×ae)} {m:ay->Option ae},(∀v,(x,v)∉binds)->aj8 kindOf binds m x=m x
 |[],_,_=>rfl
 | (n,v)::r,m,h=>by
  unfold aj8;rw[KN λw hw=>h w (aH _ hw)];split
  .have:x≠n:=by rintro rfl;exact h v av
   simp[this]
  .rfl
theorem KO{kindOf:ay->Option cE}{x:ay}:∀{binds:List (ay×ae)} {m:ay->Option ae},(∀v,(x,v)∉binds)->aj9 kindOf binds m x=m x
 |[],_,_=>rfl
 | (n,v)::r,m,h=>by
  unfold aj9;rw[KO λw hw=>h w (aH _ hw)];split
  .rfl
  .have:x≠n:=by rintro rfl;exact h v av
   simp[this]
theorem KP{kindOf:ay->Option cE}{x:ay}{v:ae}:∀{P:List ay} {a:List ae} {i:Nat} {m:ay->Option ae},P.Nodup->P[i]?=aa x->a[i]?=aa v->kindOf x=aa .local->
  aj8 kindOf (P.zip a) m x=aa v
 |[],_,_,_,_,h,_,_=>by simp at h
 |_::_,[],_,_,_,_,h,_=>by simp at h
 |p::P,w::a,0,m,nd,b,c,e=>by simp at b c;subst b;subst c;show aj8 kindOf ((p,w)::P.zip a) m p=_;unfold aj8;rw[KN λv f=>(dI.mp nd).1 (fE f).1,if_pos e];simp
 |p::P,w::a,i+1,m,nd,b,c,e=>by show aj8 kindOf ((p,w)::P.zip a) m x=_;unfold aj8;exact KP (i:=i) (dI.mp nd).2 (by simpa using b) (by simpa using c) e
theorem KQ{kindOf:ay->Option cE}{x:ay}{v:ae}:∀{P:List ay} {a:List ae} {i:Nat} {m:ay->Option ae},P.Nodup->P[i]?=aa x->a[i]?=aa v->kindOf x≠aa .local->
  aj9 kindOf (P.zip a) m x=aa v
 |[],_,_,_,_,h,_,_=>by simp at h
 |_::_,[],_,_,_,_,h,_=>by simp at h
 |p::P,w::a,0,m,nd,b,c,e=>by simp at b c;subst b;subst c;show aj9 kindOf ((p,w)::P.zip a) m p=_;unfold aj9;rw[KO λv f=>(dI.mp nd).1 (fE f).1,if_neg e];simp
 |p::P,w::a,i+1,m,nd,b,c,e=>by show aj9 kindOf ((p,w)::P.zip a) m x=_;unfold aj9;exact KQ (i:=i) (dI.mp nd).2 (by simpa using b) (by simpa using c) e
noncomputable def start(N:List ay)(a:List V):St:=a.map aa++bP (N.length- a.length) ao
noncomputable def vC(b:CXT)(P:ba)(w:bI)(K:bz)(mg:ay->Option ae)(cv:az)(N:List ay)(qual:ay)(scope:df)(f:ak)(cd:ae)(A:bv)(dk:List ajk)(s:aq)(H:Hp)(E:XK):Cx where
 prog:=P
 w:=w
 K:=K
 mg:=mg
 cv:=cv
 A:=A.deeper (d7 qual scope s.heap.objs.size f cd)
 N:=N
 iY:=s
 jG:=H
 env:=d7 qual scope s.heap.objs.size f cd
 dk:=dk
 stack:=d7 qual scope s.heap.objs.size f cd::dk
 ex:=[]
 calm:=ag
 fn:=λ_=>ag
 pn:=[]
 xe:=λe c=>wpAny (model P w) (A.deeper (d7 qual scope s.heap.objs.size f cd)) (leaving (d7 qual scope s.heap.objs.size f cd) e) (λ_ a=>b dk H s E e a) (λe' a=>b dk H s E e' a) c
theorem Ob{sc:df}{n:Nat}{x:ay}(h:sc.names.lookup x=aa .cell):∃c,(aka n sc.names []).lookup x=aa c:=by have q:=W.cellsFrom_some sc.names n [] (.inl h);exact Option.isSome_iff_exists.mp q
theorem KR{J:CXT}{P:ba}{w:bI}{K:bz}{mg:ay->Option ae}{cv:az}{N ps:List ay}{qual:ay}{scope:df}{f:ak}{cd:ae}{A:bv}{dk:List ajk}{s s1:aq}{H:Hp}{E:XK}{us:List ae}{m:List V}
(S:gU N ps scope)(hd:A.handled=ao)(j:Gb P w K mg cv A dk s H)(Q:m.length=ps.length)(r:Vals m us)
(x:InCallC s s.heap.objs.size (aj8 (d7 qual scope s.heap.objs.size f cd).kindOf (ps.zip us) λ_=>ao) (aka (s.heap.objs.size+1) scope.names []) (aj9 (d7 qual scope s.heap.objs.size f cd).kindOf (ps.zip us) λ_=>ao) s1):
  Inv (vC J P w K mg cv N qual scope f cd A dk s H E) [] (start N m) H s1:=by
 have T:ps.length<=N.length:=by have:=congrArg fw S.pre;rw[d9] at this;omega
 obtain⟨I,U,rfl,L⟩:=x.done;have o:∀b:ak,b∉(vC J P w K mg cv N qual scope f cd A dk s H E).ex:=λb z=>absurd (show b∈([]:List ak) from z) (by simp);refine⟨⟨j.mod,S.kind,rfl,rfl,aM _,λy z c I g=>?_,λy B=>?_,λy c _ h=>?_,λ_=>hd,bv.frames_deeper j.frames,.inr ⟨rfl,rfl⟩,λb z=>absurd z (o b),j.bs,j.W5,λb _ _=>o b,λb z=>absurd z (o b),j.C2,j.frf⟩,
  rfl,j.bare,Un.kept L,⟨_,x.toInCall.ns,λi y v I g Y=>?_⟩,λy c h=>⟨_,x.cell y c h⟩,j.jo.fresh (aM _),λy c h=>?_,λp C=>absurd (show p∈([]:List (ak×cm)) from C) (by simp),j.jo.kept L,?_⟩
 .exact name_of_addr x.apart (PySem.mem_of_lookup I) (PySem.mem_of_lookup g)
 .have B:scope.names.lookup y=aa .cell\/scope.names.lookup y=aa .free:=B;rcases B with B|B
  .exact Ob B
  .exact absurd rfl (S.adW _ (PySem.mem_of_lookup B))
 .exact dF (x.above y c (PySem.mem_of_lookup h))
 .have hi:i<m.length:=by
   unfold start at g;by_cases hi:i<m.length
   .exact hi
   .rw[b8 (by simpa using hi)] at g;rw[List.getElem?_replicate] at g;split at g<;>cases g
  have ha:m[i]?=aa v:=by
   unfold start at g;rw[bA (by simpa using hi),aS] at g;cases e:m[i]? with
   |none=>rw[e] at g;cases g
   |some a=>rw[e] at g;cases g;rfl
  obtain⟨u,M,O⟩:=r.get ha;have C:ps[i]?=aa y:=by rw[<-S.pre,List.getElem?_take_of_lt (by omega)];exact I
  have G:ps.Nodup:=by rw[<-S.pre];exact S.nd.sublist (List.take_sublist _ _)
  refine⟨u,O,?_⟩;rcases S.par y (aV C) with k|k
  .exact .inl ⟨k,KP G C M k⟩
  .obtain⟨c,e⟩:=Ob (n:=s.heap.objs.size+1) k;refine .inr ⟨.inl k,c,e,?_⟩;have q:=x.cell y c e;rw[KQ G C M (by show scope.names.lookup y≠_;rw[k];decide)] at q;exact q
 .exact j.jo.fresh (dF (x.above y c (PySem.mem_of_lookup h)))
 .unfold start;show _=N.length;rw[aE,ai,List.length_replicate];omega
theorem acB{j:CXT}{P:ba}{w:bI}{K:bz}{mg:ay->Option ae}{cv:az}{k:Nat}{f:ak}{name qual:ay}{params:ajp}{body:List bL}{scope:df}{L kV doc pm iC ct oc:ae}{an od:Option ak}
{TJ:Array (Option ae)}{N m:List ay}{sp:Sp}(lk:K.lookup f=aa ⟨oc,od,.func (dt name qual params body scope L kV doc pm an iC ct),TJ⟩)(T:W.codeIn K iC qual=ag)(S:gU N m scope)
(len:∀a H Q E,sp a H Q E->a.length=m.length)
(U:∀(A:bv) (dk:List ajk) (s:aq) (H:Hp) (a:List V) (Q:VK) (E:XK),jU k (A.deeper (d7 qual scope s.heap.objs.size f iC))->sp a H Q E->
   ∃t,Jo (vC j P w K mg cv N qual scope f iC A dk s H E) body t/\t {nx:=λ_ c=>Q .non c,rt:=Q} (start N a) H):
  ke P w K mg cv j (k+1) f (dt name qual params body scope L kV doc pm an iC ct) m sp:=by
 refine⟨len,λA dk s H args us a Q E z h Y r i=>?_⟩;have hl:=len _ _ _ _ i;have M:K.In s.heap:=h.mod.kin.keeps λb o e=>(h.bs b o e).1;have B:s.heap.NoLimit:=h.mod.nolimit.keeps λb o e=>(h.bs b o e).1;have Xp:∀y∈m.zip us,scope.names.lookup y.1=aa .local\/(scope.names.lookup y.1=aa .cell/\((aka (s.heap.objs.size+1) scope.names []).lookup y.1).isSome=ag):=λ⟨n,v⟩ hy=>by
  rcases S.par n (fE hy).1 with q|q
  .exact .inl q
  .exact .inr ⟨q,W.cellsFrom_some _ _ _ (.inl q)⟩
 refine codeAny_call_function z.depth (M _ _ lk) rfl S.co S.gen rfl (W.codeRec_of M T) (Y _ _ _ _ ?_);refine ajT S.kind Xp λenv he s1 x=>?_;subst he;refine⟨B.keeps x.toInCall.keep,codeAny_func ?_⟩;obtain⟨t,ht,hq⟩:=U A dk s H a Q E (z.deeper _) i;have I:Inv (vC j P w K mg cv N qual scope f iC A dk s H E) [] (start N a) H s1:=KR S z.hd h hl r x;refine cw (ht [] s1 (start N a) H _ I hq) (λfl C g=>?_) λe C g=>g;have O:∀{p:St} {c:Hp} {v:V} {u:ae},Inv (vC j P w K mg cv N qual scope f iC A dk s H E) [] p c C->RelV v u->Q v c->CE dk P w H s Q u C:=
  λ{p c v u} J G q=>⟨v,c,J.os,J.bare,J.cv,J.jo,G,q⟩
 cases fl with
 |ret u=>
  obtain⟨v,p,c,J,G,q⟩:=g;exact O J G q
 |next=>
  obtain⟨p,c,J,q⟩:=g;exact O (v:=V.non) (u:=cY) J rfl q
 |brk=>
  obtain⟨_,_,_,q⟩:=g;exact cy q
 |cont=>
  obtain⟨_,_,_,q⟩:=g;exact cy q
section
variable {X:Cx} {x:ay} {p pos:d8} {e:bC} {es:List bC} {t:TA} {id T:String} {r:List V->Hp->VK->Prop}
def tCB (r:List V->Hp->VK->Prop)(t:TA):TE:=λσ H Q=>t σ H λa H1=>r a H1 Q
theorem Gc(a:pr X (.builtin id) r)(b:Gl X x)(hm:X.mg x=ao)(c:bU x=aa (.builtin id))(ha:PA X (e::es) t)(hn:x≠"__name__":=by decide)(Ak:(x==("__debug__":ay))=ar:=by decide)
(he:bc (e::es) X.env=(ar,eval e X.env)::bc es X.env:=by rfl)(CV:(c7 pos (bc es X.env)).any (·.1)=ar:=by rfl):PE X (.Call (.Name x p) (e::es) [] pos) (tCB r t):=by intro cq s σ H Q I h;refine dQ (Ah I b hm c ?_ hn Ak);exact PyProof.Rows.callWith_builtin1 (kq (ha pos cq s σ H _ I h) λus s1 ⟨f,H1,g,i,j⟩=>a cq s1 σ H1 f us Q g i j) he CV
theorem C5(a:pr X (.type T) r)(b:Gl X x)(hm:X.mg x=ao)(c:bU x=aa (.type T))(ha:PA X (e::es) t)(hn:x≠"__name__":=by decide)(Ak:(x==("__debug__":ay))=ar:=by decide)
(he:bc (e::es) X.env=(ar,eval e X.env)::bc es X.env:=by rfl)(CV:(c7 pos (bc es X.env)).any (·.1)=ar:=by rfl):PE X (.Call (.Name x p) (e::es) [] pos) (tCB r t):=by intro cq s σ H Q I h;refine dQ (Ah I b hm c ?_ hn Ak);exact dq (kq (ha pos cq s σ H _ I h) λus s1 ⟨f,H1,g,i,j⟩=>a cq s1 σ H1 f us Q g i j) he CV
end
section
variable {κ:Type} [DecidableEq κ]
noncomputable def vD(a:List (κ×V))(k:κ):Option V:=(a.find? λb=>decide (b.1=k)).map (·.2)
noncomputable def ud(b:List (κ×V))(k:κ)(v:V):List (κ×V):=
 if(b.any λa=>decide (a.1=k))=ag then b.map (λa=>if a.1=k then(a.1,v) else a) else b++[(k,v)]
theorem Bd{p:κ×V}{r:List (κ×V)}{k:κ}(e:p.1=k):vD (p::r) k=aa p.2:=by simp[vD,eM,e]
theorem Be{p:κ×V}{r:List (κ×V)}{k:κ}(e:¬p.1=k):vD (p::r) k=vD r k:=by simp[vD,eM,e]
theorem Oc(k:κ):∀a:List (κ×V),(a.any λb=>decide (b.1=k))=(vD a k).isSome
 |[]=>rfl
 |p::r=>by
  rw[dg];by_cases e:p.1=k
  .simp only [Bd e,decide_eq_true e,Bool.true_or,Option.isSome_some]
  .rw[Be e,decide_eq_false e,Bool.false_or];exact Oc k r
theorem xy(a:List (κ×V))(k:κ)(v:V):(ud a k v).length<=a.length+1:=by
 unfold ud;split
 .rw[ai];omega
 .rw[aE,aU,bj];omega
theorem xu.uH{o:Option V}{u:Option ae}(r:xu o u):o.isSome=u.isSome:=by
 cases o with
 |none=>cases u with
  |none=>rfl
  |some _=>exact(show False from r).elim
 |some _=>cases u with
  |none=>exact(show False from r).elim
  |some _=>rfl
theorem KV.val{c:List (κ×V)}{f:List (κ×ae)}(r:KV c f)(k:κ):xu (vD c k) (eQ f k):=by
 unfold KV at r;induction r with
 |nil=>exact cS
 |@cons p q m a h t i=>
  obtain⟨g,j⟩:=h;by_cases e:p.1=k
  .have e':q.1=k:=g.symm.trans e;have b:eQ (q::a) k=aa q.2:=by simp[eQ,eM,e']
   rw[Bd e,b];exact j
  .have e':¬q.1=k:=λz=>e (g.trans z);have b:eQ (q::a) k=eQ a k:=by simp[eQ,eM,e']
   rw[Be e,b];exact i
theorem KV.any{b:List (κ×V)}{c:List (κ×ae)}(r:KV b c)(k:κ):(b.any λa=>decide (a.1=k))=c.any λa=>decide (a.1=k):=by
 unfold KV at r;induction r with
 |nil=>rfl
 |cons h t e=>rw[dg,dg,e,h.1]
theorem KV.adX{c:List (κ×V)}{f:List (κ×ae)}(r:KV c f)(k:κ){y:V}{u:ae}(g:RelV y u):
  KV (c.map λa=>if a.1=k then(a.1,y) else a) (f.map λa=>if a.1=k then(a.1,u) else a):=by
 unfold KV at r |-;induction r with
 |nil=>exact .nil
 |@cons p q m n h t i=>
  rw[aZ,aZ];refine .cons ?_ i;obtain⟨b,j⟩:=h;by_cases e:p.1=k
  .rw[if_pos e,if_pos (b.symm.trans e)];exact⟨b,g⟩
  .rw[if_neg e,if_neg (λz=>e (b.trans z))];exact⟨b,j⟩
theorem KV.put{b:List (κ×V)}{a:List (κ×ae)}(r:KV b a)(k:κ){y:V}{u:ae}(c:RelV y u):KV (ud b k y) (stored a k u):=by
 unfold ud stored;rw[r.any k];by_cases e:(a.any λf=>decide (f.1=k))=ag
 .rw[if_pos e,if_pos e];exact r.adX k c
 .rw[if_neg e,if_neg e];exact Paired.snoc r ⟨rfl,c⟩
theorem KV.length{a:List (κ×V)}{b:List (κ×ae)}(r:KV a b):a.length=b.length:=Paired.length r
end
theorem Er{P:ba}{w:bI}{k:Key}{u:ae}(r:RelV (kV k) u):(i9 P w).is k u=ag:=by
 cases k with
 |inl i=>obtain⟨t,e⟩:=(show∃t,u=gf i t from r);subst e;exact N3 P w i t
 |inr x=>obtain⟨t,e⟩:=(show∃t,u=fM x t from r);subst e;exact N4 P w x t
theorem KS{P:ba}{w:bI}:∀{a:List Key} {us:List ae},Vals (a.map kV) us->ItemsAre (i9 P w) a us
 |[],_,r=>by rw[eR] at r;cases r;exact .nil
 |k::a,_,r=>by
  rw[aZ] at r;cases r with
  |cons h t=>exact .cons (Er h) (KS t)
abbrev KT(H:Hp):List (List Key×V)->List (List Key×ak×ae)->Prop:=Paired λp q=>p.1=q.1/\H q.2.1=aa (.tup (p.1.map kV))/\RelV p.2 q.2.2
theorem KT.val{H:Hp}{c:List (List Key×V)}{xs:List (List Key×ak×ae)}(r:KT H c xs)(k:List Key):xu (vD c k) ((ajU xs k).map (·.2)):=by
 induction r with
 |nil=>exact cS
 |@cons p q j a h t g=>
  obtain⟨f,_,i⟩:=h;by_cases e:p.1=k
  .have e':q.1=k:=f.symm.trans e;have b:ajU (q::a) k=aa q.2:=by simp[ajU,eM,e']
   rw[Bd e,b];exact i
  .have e':¬q.1=k:=λz=>e (f.trans z);have b:ajU (q::a) k=ajU a k:=by simp[ajU,eM,e']
   rw[Be e,b];exact g
theorem KT.adX{H:Hp}{c:List (List Key×V)}{xs:List (List Key×ak×ae)}(r:KT H c xs)(k:List Key){y:V}{u:ae}(g:RelV y u):
  KT H (c.map λb=>if b.1=k then(b.1,y) else b) (xs.map (putAt k u)):=by
 induction r with
 |nil=>exact .nil
 |@cons p q m n h t i=>
  rw[aZ,aZ];refine .cons ?_ i;obtain⟨a,f,j⟩:=h;unfold putAt;by_cases e:p.1=k
  .rw[if_pos e,if_pos (a.symm.trans e)];exact⟨a,f,g⟩
  .rw[if_neg e,if_neg (λz=>e (a.trans z))];exact⟨a,f,j⟩
theorem KT.put{H:Hp}{a:List (List Key×V)}{xs:List (List Key×ak×ae)}(r:KT H a xs)(k:List Key){b:ak}{y:V}{u:ae}(f:H b=aa (.tup (k.map kV)))(c:RelV y u):
  KT H (ud a k y) (storedH xs k b u):=by
 have e:(a.any λg=>decide (g.1=k))=(ajU xs k).isSome:=by rw[Oc,(r.val k).uH,fX]
 unfold ud storedH;rw[e];by_cases q:(ajU xs k).isSome=ag
 .rw[if_pos q,if_pos q];exact r.adX k c
 .rw[if_neg q,if_neg q];exact Paired.snoc r ⟨rfl,f,c⟩
theorem KT.keeps{H a:Hp}{c:List (List Key×V)}{xs:List (List Key×ak×ae)}(r:KT H c xs)(ht:∀b e,H b=aa (.tup e)->a b=aa (.tup e)):KT a c xs:=
 Paired.adn r λ_ _ z=>⟨z.1,ht _ _ z.2.1,z.2.2⟩
section
variable {P:ba} {w:bI} {H:Hp} {h:az} {a:ak}
theorem acC{u:HO}(ok:xv P w H h)(e:Rd H a u):jK P w H h a u:=e.ok ok
theorem Es{b:List (Key×V)}(ok:xv P w H h)(e:Rd H a (.dK b)):b.length<=aC/\(a==cH)=ar/\∃c,KV b c/\h.DictOf (i9 P w) a c:=
 show jK P w H h a (.dK b) from acC ok e
theorem Xq{b:List (Key×V)}(ok:xv P w H h)(e:H a=aa (.dK b)):b.length<=aC/\(a==cH)=ar/\∃c,KV b c/\h.DictOf (i9 P w) a c:=Es ok (.inl e)
theorem Gd{b:List Key}(ok:xv P w H h)(e:H a=aa (.tup (b.map kV))):(ajG (i9 P w)).is h b a:=by obtain⟨_,ia,r,o,c,f,n,g⟩:=(show jK P w H h a (.tup (b.map kV)) from ok a _ e);exact⟨o,ia.toArray,n,c,f,g,by simpa using KS r⟩
theorem Od{c:List (List Key×V)}(ok:xv P w H h)(e:Rd H a (.dT c)):c.length<=aC/\(a==cH)=ar/\
  ∃xs,KT H c xs/\h.DictOfH (ajG (i9 P w)) a xs:=by
 obtain⟨z,y,xs,r,o,es,g,i,j,n,u,v⟩:=(show jK P w H h a (.dT c) from acC ok e);refine⟨z,y,xs,r,o,es,g,i,j,n,u,λx b=>?_,v⟩;have all:∀{l:List (List Key×V)} {m:List (List Key×ak×ae)},KT H l m->∀x∈m,(ajG (i9 P w)).is h x.1 x.2.1:=by
  intro l m q;induction q with
  |nil=>intro x b;exact nomatch b
  |@cons p q B C f t A=>
   intro x b;rcases aO.mp b with e|b
   .subst e;exact Gd ok (by rw[<-f.1];exact f.2.1)
   .exact A x b
 exact all r x b
theorem afY{b:List (List Key×V)}(ok:xv P w H h)(e:H a=aa (.dT b)):b.length<=aC/\(a==cH)=ar/\
  ∃xs,KT H b xs/\h.DictOfH (ajG (i9 P w)) a xs:=Od ok (.inl e)
end
def Jp (H:Hp)(a:ak)(y:V)(r:Option V):Prop:=
 (∃c k,Rd H a (.dK c)/\y=kV k/\r=vD c k)\/∃c k b,Rd H a (.dT c)/\y=.ref b/\H b=aa (.tup (k.map kV))/\r=vD c k
def Xr (H:Hp)(a:ak)(y v:V)(e:Hp):Prop:=
 (∃c k,H a=aa (.dK c)/\y=kV k/\c.length<aC/\e=upd H a (.dK (ud c k v)))\/
 ∃c k b,H a=aa (.dT c)/\y=.ref b/\H b=aa (.tup (k.map kV))/\c.length<aC/\e=upd H a (.dT (ud c k v))
theorem Xr.k{H:Hp}{a:ak}{b:List (Key×V)}{k:Key}{v:V}(e:H a=aa (.dK b))(c:b.length<aC):Xr H a (kV k) v (upd H a (.dK (ud b k v))):=.inl ⟨b,k,e,rfl,c,rfl⟩
section
variable {X:Cx} {cq:List (ak×cm)} {σ:St} {H:Hp} {s:aq} {a:ak} {y v:V} {u r:ae} {o:Option V} {A:bv} {E:ae->aq->Prop}
theorem Inv.big(I:Inv X cq σ H s):cH<s.heap.objs.size:=by have h:aY<s.heap.objs.size:=(I.mod.glob.keeps I.bk).lt;exact ai3 (by decide) h
theorem Vj{Q:ae->aq->Prop}(q:A.units+1<gg)(I:Inv X cq σ H s)(g:Jp H a y (aa v))(m:RelV y u)(h:∀c n,Inv X cq σ H n->RelV v c->Q c n):
  wpAny (model X.prog X.w) A (gA (.ref a) u) Q E s:=by
 rcases g with⟨x,k,e,f,l⟩|⟨x,k,b,e,f,B,l⟩
 .subst f;obtain⟨z,hd,C,rel,dd⟩:=Es I.jo e;obtain⟨c,hw,i⟩:=xu.some_of (v:=v) (o:=eQ C k) (by rw[l];exact rel.val k);exact wpAny_getItem_of (Er m) dd.mapOf hw (h c _ (I.tok _) i)
 .subst f;cases(show u=bH b from m);obtain⟨z,hd,xs,rel,dd⟩:=Od I.jo e;obtain⟨c,hw,i⟩:=xu.some_of (v:=v) (o:=(ajU xs k).map (·.2)) (by rw[l];exact rel.val k);obtain⟨p,G,j⟩:=Option.map_eq_some_iff.mp hw;refine wpAny_getItem_heap (gh q) (Gd I.jo B) dd G ?_;rw[j];exact h c _ (I.tok _) i
theorem ah3{Q:ae->aq->Prop}(j:A.units+1<gg)(I:Inv X cq σ H s)(g:Jp H a y o)(f:RelV y u)(h:∀i,Inv X cq σ H i->Q (.bool o.isSome) i):
  wpAny (model X.prog X.w) A (compareOp .In u (.ref a)) Q E s:=by
 rcases g with⟨m,k,e,c,l⟩|⟨m,k,b,e,c,n,l⟩
 .subst c;obtain⟨z,hd,p,rel,dd⟩:=Es I.jo e;refine wpAny_in_of (Er f) hd dd.mapOf ?_;rw[<-(rel.val k).uH,<-l];exact h _ (I.tok _)
 .subst c;cases(show u=bH b from f);obtain⟨z,hd,xs,rel,dd⟩:=Od I.jo e;refine wpAny_in_heap (gh j) (Gd I.jo n) hd dd ?_;have q:=(rel.val k).uH;rw[fX] at q;rw[<-q,<-l];exact h _ (I.tok _)
theorem aaQ{Q:ae->aq->Prop}(j:A.units+1<gg)(I:Inv X cq σ H s)(g:Jp H a y o)(f:RelV y u)(h:∀i,Inv X cq σ H i->Q (.bool (!o.isSome)) i):
  wpAny (model X.prog X.w) A (compareOp .NotIn u (.ref a)) Q E s:=by
 rcases g with⟨m,k,e,c,l⟩|⟨m,k,b,e,c,n,l⟩
 .subst c;obtain⟨z,hd,p,rel,dd⟩:=Es I.jo e;refine wpAny_notIn_of (Er f) hd dd.mapOf ?_;rw[<-(rel.val k).uH,<-l];exact h _ (I.tok _)
 .subst c;cases(show u=bH b from f);obtain⟨z,hd,xs,rel,dd⟩:=Od I.jo e;refine wpAny_notIn_heap (gh j) (Gd I.jo n) hd dd ?_;have q:=(rel.val k).uH;rw[fX] at q;rw[<-q,<-l];exact h _ (I.tok _)
theorem Fw{c:az}{g:Nat}{f:HO}(I:Inv X cq σ H s)(h:Mut (H a))(i:bJ a s.heap c)(j:∃q,c.get? a=aa q)(new:jK X.prog X.w (upd H a f) c a f):
  Inv X cq σ (upd H a f) {s with heap:=c,toks:=g}:=
 I.write (x:=a) (e:=a) h (.inl rfl) (λb q m z=>(i.2 b m).trans z) j new
theorem LW{P:ba}{w:bI}{f:Hp}{e:az}{b:List (Key×V)}{c:List (Key×ae)}(z:b.length<=aC)(hd:(a==cH)=ar)(rel:KV b c)(dd:e.DictOf (i9 P w) a c):
  jK P w f e a (.dK b):=⟨z,hd,c,rel,dd⟩
theorem Vk{G:Hp}{Q:Unit->aq->Prop}(U:A.units+1<gg)(I:Inv X cq σ H s)(g:Xr H a y v G)(J:RelV y u)(L:RelV v r)(h:∀M,Inv X cq σ G M->Q () M):
  wpAny (model X.prog X.w) A (ajP (.ref a) u r) Q E s:=by
 rcases g with⟨i,k,e,m,l,n⟩|⟨i,k,b,e,m,N,l,n⟩
 .subst m n;obtain⟨z,hd,Y,rel,dd⟩:=Xq I.jo e;have p:Y.length<=aC:=by rw[<-rel.length];exact z
  have x:(ud i k v).length<=aC:=by have:=xy i k v;omega
  refine wpAny_setItem_pairs (hsz:=p) (Er J) dd λO f C=>h _ ?_;have he:∃q,O.get? a=aa q:=let⟨q,_,_,j,_⟩:=f;⟨q,j⟩;exact Fw I (by rw[e];exact cS) C he (LW x hd (rel.put k L) f)
 .subst m n;cases(show u=bH b from J);obtain⟨z,hd,xs,rel,dd⟩:=afY I.jo e;have p:xs.length<=aC:=by rw[<-Paired.length rel];exact z
  have x:(ud i k v).length<=aC:=by have:=xy i k v;omega
  refine wpAny_setItem_heap (hsz:=p) (gh U) (Gd I.jo N) dd λO f C=>h _ ?_;obtain⟨q,es,ep,j,h2,h3,h4,_,h5⟩:=f;refine Fw I (by rw[e];exact cS) C ⟨q,j⟩ ⟨x,hd,_,(rel.put k N L).keeps λc ys T=>?_,q,es,ep,j,h2,h3,h4,h5⟩;rw[g9 (afw T e (λz=>nomatch z))];exact T
end
section
variable {X:Cx} {cq:List (ak×cm)} {σ:St} {H:Hp} {s:aq} {a:ak} {hZ:List (Key×V)} {k:Key} {u:ae} {A:bv} {E:ae->aq->Prop}
theorem afZ{Q:ae->aq->Prop}(I:Inv X cq σ H s)(e:Rd H a (.dK hZ))(h:∀t b,Inv X cq σ H b->Q (.int hZ.length t) b):wpAny (model X.prog X.w) A (call (.builtin "len") [.ref a]) Q E s:=by obtain⟨z,hd,c,rel,dd⟩:=Es I.jo e;refine call_len_dict hd dd (by rw[<-rel.length];rw[b9] at z;omega) ?_;rw[<-rel.length];exact h _ _ (I.tok _)
end
theorem Et{X:Cx}{cq:List (ak×cm)}{σ:St}{H:Hp}{s:aq}{a:ak}{y:V}{o:Option V}(I:Inv X cq σ H s)(g:Jp H a y o):s.TypeIs (.ref a) "dict":=by
 rcases g with⟨c,k,e,_,_⟩|⟨c,k,b,e,_,_,_⟩
 .obtain⟨_,_,f,_,dd⟩:=Es I.jo e;exact dd.typeIs
 .obtain⟨_,_,xs,_,dd⟩:=Od I.jo e;exact dd.typeIs
def af0 (td ty c:TE):TS:=λD σ H=>c σ H λv H1=>td σ H1 λx e=>ty σ e λy f=>∃a b,x=.ref a/\Xr f a y v b/\D.nx σ b
section
variable {X:Cx} {o i e value:bC} {pos pos' vy:d8} {td ty tv:TE}
theorem aaR(b:X.A.units+1<gg)(c:PE X o td)(hi:PE X i ty)(f:PE X value tv)(j:eL value (aa (.Subscript o i pos')) pos.line X.env=pure ar):
  PS X (.Assign [.Subscript o i pos'] value pos) (af0 td ty tv):=by intro cq s σ H D I h;refine wpAny_Assign_Subscript (kq (f cq s σ H _ I h) λr s1 ⟨v,H1,m,n,p⟩=>kq (c cq s1 σ H1 _ m p) λu s2 ⟨x,q,w,z,B⟩=>kq (hi cq s2 σ q _ w B) λM s3 ⟨y,N,C,E,a,G,ex,g,J⟩=>?_) j;subst ex;obtain rfl:u=bH a:=z;exact Vk b C g E n λO L=>⟨σ,G,L,J⟩
end
theorem Oe{P:ba}{w:bI}{H:Hp}(h:az)(a:cH<h.objs.size):jK P w H (h.push {cls:=.type "dict",data:=.dict #[]}) h.objs.size (.dK []):=
 ⟨bi _,beq_eq_false_iff_ne.mpr (cV (bf a)),[],.nil,az.DictOf.new h⟩
def adY:TE:=λ_ H Q=>∀p,H p=ao->Q (.ref p) (upd H p (.dK []))
section
variable {X:Cx} {pos:d8}
theorem Xs:PE X (.Dict [] [] pos) adY:=λcq s σ H Q I h=>
 wpAny_Dict_empty ⟨.ref s.heap.objs.size,_,I.laid (a:=s.heap.objs.size) (o:=.dK []) (t':=s.toks) (λ_ _ q=>aj _ q) (aM _) (Oe s.heap I.big),rfl,h _ (I.jo.fresh (aM _))⟩
end
def LX:List (TE×TE)->St->Hp->(List (V×V)->Hp->Prop)->Prop
 |[],_,H,Q=>Q [] H
 | (a,b)::r,σ,H,Q=>a σ H λx H1=>b σ H1 λy c=>LX r σ c λe f=>Q ((x,y)::e) f
abbrev VV:List (V×V)->List (ae×ae)->Prop:=Paired λp q=>RelV p.1 q.1/\RelV p.2 q.2
def PPs (X:Cx)(pos:d8)(keys:List (Option bC))(values:List bC)(c:List (TE×TE)):Prop:=
 ∀(cq:List (ak×cm)) (s:aq) (σ:St) (H:Hp) (Q:List (V×V)->Hp->Prop),Inv X cq σ H s->LX c σ H Q->
  wpAny (model X.prog X.w) X.A (evalPairs (pairTrees keys values X.env pos)) (λe f=>∃a b,Inv X cq σ b f/\VV a e/\Q a b) X.xe s
theorem aaS{X:Cx}{pos:d8}:PPs X pos [] [] []:=λcq s σ H Q I h=>pairTrees_nil_walk ⟨[],H,I,.nil,h⟩
theorem Xt{X:Cx}{pos:d8}{k v:bC}{a:List (Option bC)}{b:List bC}{c e:TE}{f:List (TE×TE)}(g:PE X k c)(i:PE X v e)(j:PPs X pos a b f):
  PPs X pos (aa k::a) (v::b) ((c,e)::f):=λcq s σ H Q I h=>
 pairTrees_cons_walk (kq (g cq s σ H _ I h) λu s1 ⟨x,H1,m,n,o⟩=>kq (i cq s1 σ H1 _ m o) λE s2 ⟨y,p,q,r,w⟩=>
  kq (j cq s2 σ p _ q w) λws s3 ⟨z,A,B,rel,C⟩=>⟨(x,y)::z,A,B,.cons ⟨n,r⟩ rel,C⟩)
noncomputable def xz(b more:List (Key×V)):List (Key×V):=more.foldl (λacc a=>ud acc a.1 a.2) b
theorem KV.merge:∀{more:List (Key×V)} {rs:List (Key×ae)} {a:List (Key×V)} {b:List (Key×ae)},KV more rs->KV a b->KV (xz a more) (merged b rs):=by
 intro more rs a b r;unfold KV at r;induction r generalizing a b with
 |nil=>intro q;exact q
 |@cons p q g i h t c=>
  intro f;have e:KV (ud a p.1 p.2) (stored b q.1 q.2):=by have:=f.put p.1 h.2;rw[<-h.1];exact this
  exact c e
theorem zN:∀(more a:List (Key×V)),(xz a more).length<=a.length+more.length
 |[],a=>by show a.length<=a.length+0;omega
 |p::r,a=>by have b:=zN r (ud a p.1 p.2);have c:=xy a p.1 p.2;show(xz (ud a p.1 p.2) r).length<=_;rw[aU];omega
theorem Ge{P:ba}{w:bI}:∀{e:List (Key×V)} {ws:List (ae×ae)},VV (e.map λf=>(kV f.1,f.2)) ws->∃rs,Carries (i9 P w) ws rs/\KV e rs
 |[],_,r=>by rw[eR] at r;cases r;exact⟨[],cS,.nil⟩
 |p::e,_,r=>by
  rw[aZ] at r;cases r with
  |@cons a b as bs h t=>
   obtain⟨rs,c,q⟩:=Ge (P:=P) (w:=w) t;obtain⟨b1,b2⟩:=b;exact⟨(p.1,b2)::rs,⟨Er h.1,rfl,c⟩,.cons ⟨rfl,h.2⟩ q⟩
def af1 (e:List (TE×TE)):TE:=λσ H Q=>∀p,H p=ao->LX e σ (upd H p (.dK [])) λf b=>b p=aa (.dK [])/\∃a:List (Key×V),f=a.map (λc=>(kV c.1,c.2))/\a.length<=15/\Q (.ref p) (upd b p (.dK (xz [] a)))
theorem aaT{X:Cx}{pos:d8}{keys:List (Option bC)}{values:List bC}{g:List (TE×TE)}(h:PPs X pos keys values g)(n:keys.all (·.isSome)=ag)(p:keys.length=values.length)(r:keys≠[])
(f:keys.length<=15):PE X (.Dict keys values pos) (af1 g):=by
 intro cq s σ H Q I q;have hn:=I.jo.fresh (aM s.heap.objs.size);have u:=I.laid (a:=s.heap.objs.size) (o:=.dK []) (h':=s.heap.push {cls:=.type "dict",data:=.dict #[]}) (t':=s.toks) (λ_ _ q=>aj _ q) (aM _) (Oe s.heap I.big);refine wpAny_Dict_walk (knd:=i9 X.prog X.w) n p r f (kq (h cq _ σ _ _ u (q _ hn)) λws s2 v=>?_);obtain⟨O,T,j,rel,e,m,x,lk,y⟩:=v;subst x;obtain⟨rs,c,A⟩:=Ge (P:=X.prog) (w:=X.w) rel;obtain⟨z,hd,B,C,dd⟩:=Xq j.jo e;cases C;refine⟨rs,c,dd,λi b E=>⟨.ref s.heap.objs.size,_,?_,rfl,y⟩⟩;have G:(xz [] m).length<=aC:=by have J:=zN m [];rw[bj] at J;rw[b9];omega
 have L:∃q,i.get? s.heap.objs.size=aa q:=let⟨q,_,_,M,_⟩:=b;⟨q,M⟩;exact Fw j (by rw[e];exact cS) E L (LW G hd (A.merge .nil) b)
structure M1(X:Cx)(o:bC)(m:ay)(apos:d8)(e:bC)(mX:d8):Prop where
 cv:du o m X.env (eval o X.env)=eval o X.env
 few:((c7 mX (bc [e] X.env)).all (λx=>!x.1)&&(ajn mX (eI [] X.env)).all (λx=>x.1.isSome)
  &&decide (([e]:List bC).length+([]:List aji).length+(if([]:List aji).isEmpty then 0 else 1)<30))=ag
 line:(apos.endLine==mX.line)=ag
 trees:c7 mX (bc [e] X.env)=[(ar,eval e X.env)]
structure M2(X:Cx)(o:bC)(m:ay)(apos:d8)(e f:bC)(mX:d8):Prop where
 cv:du o m X.env (eval o X.env)=eval o X.env
 few:((c7 mX (bc [e,f] X.env)).all (λx=>!x.1)&&(ajn mX (eI [] X.env)).all (λx=>x.1.isSome)
  &&decide (([e,f]:List bC).length+([]:List aji).length+(if([]:List aji).isEmpty then 0 else 1)<30))=ag
 line:(apos.endLine==mX.line)=ag
 trees:c7 mX (bc [e,f] X.env)=[(ar,eval e X.env),(ar,eval f X.env)]
section
variable {X:Cx} {cq:List (ak×cm)} {σ:St} {H:Hp} {s:aq} {a:ak} {y d:V} {u r:ae} {o:Option V} {A:bv} {E:ae->aq->Prop}
end
section
variable {X:Cx} {o e f:bC} {apos mX:d8} {td ty tx:TE}
end
section
variable {X:Cx} {cq:List (ak×cm)} {σ:St} {H:Hp} {s:aq} {a:ak} {hZ:List (Key×V)} {A:bv} {E:ae->aq->Prop}
end
section
variable {X:Cx} {cq:List (ak×cm)} {σ:St} {H:Hp} {s:aq} {a:ak} {y:V} {u:ae} {A:bv} {E:ae->aq->Prop}
end
end L2
end
namespace HT
open PySem PyProof.Rows
section
open PySem.SeqAt
open PySem.AutoSeq1 (wpAny_loadPart')
open PySem.MeetsSeq PySem.MeetsSeq2 PySem.MeetsSeq3
end
section
variable {prog:ba} {w:bI} {A:bv} {E:ae->aq->Prop} {s:aq}
theorem aaU{t b:ak}{c ws:List ae}{Q:ae->aq->Prop}(ht:ajA s.heap t c.toArray)(q:ajA s.heap b ws.toArray)(m:c≠[])
(r:ws=[]->Q (.ref t) s)(u:ws≠[]->Q (.ref s.heap.objs.size) {s with heap:=s.heap.push {cls:=.type "tuple",data:=.seq (c++ws).toArray}})
(v:c.length+ws.length<=aC):wpAny (model prog w) A (binaryOp .Add (.ref t) (.ref b)) Q E s:=by
 obtain⟨⟨cls,dd,data,sl⟩,j,o,n,hd⟩:=id ht;obtain⟨⟨x,f,data2,g⟩,a,h,p,i⟩:=id q;simp only at o hd h i;subst o hd h i;have e:c.toArray++ws.toArray=(c++ws).toArray:=by simp
 by_cases hw:ws=[]
 .exact concat_meets ⟨_,j,rfl⟩ ⟨_,a,rfl⟩ akS alc PySem.F.slot_tuple_add PySem.F.entry_tuple_add (PySem.F.args_tuple_add_2 _ _)
   (tuple_addW1 t b c.toArray ws.toArray n p dd f sl g (by simpa using m) (by simp[hw])) ⟨j,a,r hw⟩
 .refine concat_meets ⟨_,j,rfl⟩ ⟨_,a,rfl⟩ akS alc PySem.F.slot_tuple_add PySem.F.entry_tuple_add (PySem.F.args_tuple_add_2 _ _)
   (tuple_addW2 t b c.toArray ws.toArray n p dd f sl g (by simpa using m) (by simpa using hw) (by rw[aD,aD];exact v)) ⟨j,a,?_⟩
  rw[e];exact u hw
noncomputable def nY(n d:Nat):Option Int->Nat
 |none=>d
 |some v=>if v<0 then(v+(n:Int)).toNat else min v.toNat n
theorem Xu(n d:Nat):nY n d ao=d:=rfl
theorem LZ(n d k:Nat):nY n d (aa (k:Int))=min k n:=by show(if(k:Int)<0 then((k:Int)+(n:Int)).toNat else min (k:Int).toNat n)=min k n;rw[if_neg (by omega),cT]
theorem adZ(n d:Nat)(hd:d<=n)(o:Option Int):nY n d o<=n:=by
 cases o with
 |none=>exact hd
 |some v=>
  show(if v<0 then(v+(n:Int)).toNat else min v.toNat n)<=n;by_cases a:v<0
  .rw[if_pos a];omega
  .rw[if_neg a];exact Nat.min_le_right _ _
theorem TL(v:Int)(n d:Nat):(if v<0 then max (v+(n:Int)) 0 else min v (n:Int))=((nY n d (aa v):Nat):Int):=by
 show(if v<0 then max (v+(n:Int)) 0 else min v (n:Int))=(((if v<0 then(v+(n:Int)).toNat else min v.toNat n):Nat):Int);by_cases a:v<0
 .simp only [if_pos a];omega
 .simp only [if_neg a];omega
theorem Rf(lo hi:Option Int)(n:Nat):ft lo hi 1 (n:Int)=(((nY n 0 lo:Nat):Int),((nY n n hi:Nat):Int)):=by
 have a:¬((1:Int)<0):=by omega
 unfold ft;simp only [a,if_false];refine Prod.ext ?_ ?_
 .cases lo with
  |none=>rfl
  |some v=>exact TL v n 0
 .cases hi with
  |none=>rfl
  |some v=>exact TL v n n
theorem Rg(i j:Nat):dJ (i:Int) (j:Int) 1=j- i:=by
 unfold dJ;have a:(1:Int)>0:=by omega
 simp only [a,if_true,Int.ediv_one];split<;>omega
theorem Gf{v:ae}{o:Option Int}{Q:Option Int->aq->Prop}(p:ajI v o)(h:Q o s):wpAny (model prog w) A (bE.Slice.slicePartIndex v) Q E s:=by
 cases p with
 |none=>exact akY h
 |int i t=>exact slicePart_int h
theorem C6{sl:ak}{c e:ae}{lo hi:Option Int}{n:Nat}{Q:Int×Int×Nat->aq->Prop}(f:s.heap.IsSliceOf sl c e .none)(pl:ajI c lo)(g:ajI e hi)
(h:Q (((nY n 0 lo:Nat):Int),1,nY n n hi- nY n 0 lo) s):wpAny (model prog w) A (bE.Slice.sliceApplied (.ref sl) (pure (n:Int))) Q E s:=by obtain⟨os,a,i,b⟩:=id f;unfold bE.Slice.sliceApplied bE.Slice.sliceFields;refine ah (ah (cG a b (x:=c) rfl (ah (cG a b (x:=e) rfl (ah (cG a b (x:=.none) rfl (aw ?_)))))));refine ah (akY ?_);show wpAny _ _ (if((1:Int)==0)=ag then _ else _) _ _ s;rw[if_neg (by decide)];refine ah (Gf pl (ah (Gf g (ah (aw ?_)))));show wpAny _ _ (match ft lo hi 1 (n:Int) with|(lo,hi)=>pure (lo,(1:Int),dJ lo hi 1)) _ _ s;rw[Rf lo hi n];show wpAny _ _ (pure (((nY n 0 lo:Nat):Int),(1:Int),dJ ((nY n 0 lo:Nat):Int) ((nY n n hi:Nat):Int) 1)) _ _ s;rw[Rg];exact aw h
theorem Xv(xs:Array ae)(i k:Nat):((cB k).filterMap λ(m:Nat)=>xs[((i:Int)+(m:Int)*1).toNat]?).toArray=((xs.toList.drop i).take k).toArray:=by
 have e:(λ(m:Nat)=>xs[((i:Int)+(m:Int)*1).toNat]?)=λm=>xs[i+m]?:=by
  funext m;have:((i:Int)+(m:Int)*1).toNat=i+m:=by omega
  rw[this]
 rw[e];have:=pick_run xs i k;rw[List.filterMap_map] at this;have a:((λx=>xs[x]?)∘λx=>i+x)=λm=>xs[i+m]?:=rfl;rw[a] at this;rw[this]
theorem Bf{t sl:ak}{items:Array ae}{g i:ae}{lo hi:Option Int}{Q:ae->aq->Prop}(ht:ajA s.heap t items)(j:s.heap.IsSliceOf sl g i .none)(pl:ajI g lo)(n:ajI i hi)
(hw:¬(nY items.size 0 lo=0/\nY items.size items.size hi=items.size))
(h:Q (.ref s.heap.objs.size) {s with heap:=s.heap.push {cls:=.type "tuple",data:=.seq ((items.toList.drop (nY items.size 0 lo)).take (nY items.size items.size hi- nY items.size 0 lo)).toArray}})
(p:items.size<=aC):wpAny (model prog w) A (gA (.ref t) (.ref sl)) Q E s:=by
 have a:sizeOk (.seq ((items.toList.drop (nY items.size 0 lo)).take (nY items.size items.size hi- nY items.size 0 lo)).toArray):=by show((items.toList.drop (nY items.size 0 lo)).take (nY items.size items.size hi- nY items.size 0 lo)).toArray.size<=aC;rw[aD,d9,e9,cx];omega
 have r:nY items.size items.size hi<=items.size:=adZ _ _ (aM _) hi;obtain⟨os,b,c,o⟩:=id j;have e:s.TypeIs (.ref sl) "slice":=⟨os,b,c⟩;unfold gA;try with_reducible refine bR ?_
 first|refine ah (aw ?_)|skip
 refine ah (akG ht.typeIs (by decide) ?_);refine ah (cX (name:=cL "__getitem__") ht.typeIs eJ
  (cM eJ ht.typeIs entry_tuple_getitem ?_ (args_tuple_getitem _ _)))
 show wpAny _ _ (bE.Tuple.tupleItemsOf (.ref t) >>= _) _ _ s;refine ah (tupleItemsOf_ ht ?_);refine ah (akf e ?_);rw[if_pos (by decide)];refine ah (C6 j pl n ?_);have f:¬((((nY items.size 0 lo:Nat):Int)==0&&(1:Int)==1&&(nY items.size items.size hi- nY items.size 0 lo)==items.size)=ag):=by intro q;rw[aQ,aQ] at q;have u:((nY items.size 0 lo:Nat):Int)=0:=eq_of_beq q.1.1;have v:nY items.size items.size hi- nY items.size 0 lo=items.size:=eq_of_beq q.2;exact hw ⟨by omega,by omega⟩
 show wpAny _ _ (if(((nY items.size 0 lo:Nat):Int)==0&&(1:Int)==1&&(nY items.size items.size hi- nY items.size 0 lo)==items.size)=ag then _ else _) _ _ s;rw[if_neg f,Xv];first
  |exact ah (m:=dR _) (di (aw ⟨_,rfl,aw h⟩) a)
  |exact ah (m:=dR _) (di (ah (aw (aw ⟨_,rfl,aw h⟩))) a)
  |exact ah (ah (m:=dR _) (di (aw (aw ⟨_,rfl,aw h⟩)) a))
  |exact ah (ah (m:=dR _) (di (aw ⟨_,rfl,aw h⟩) a))
end
end HT
section
open PySem PySem.Spec PyProof.Rows
namespace L2
abbrev TO:=St->Hp->(Option Int->Hp->Prop)->Prop
def PO (X:Cx)(e:Option bC)(t:TO):Prop:=
 ∀(cq:List (ak×cm)) (s:aq) (σ:St) (H:Hp) (Q:Option Int->Hp->Prop),Inv X cq σ H s->t σ H Q->
  wpAny (model X.prog X.w) X.A (evalPart e X.env) (λu b=>∃o a,Inv X cq σ a b/\ajI u o/\Q o a) X.xe s
def aaV:TO:=λ_ H Q=>Q ao H
def af2 (t:TE):TO:=λσ H Q=>t σ H λx H1=>∃i,x=.int i/\Q (aa i) H1
section
variable {X:Cx} {e:bC} {te:TE} {lo hi:Option bC} {tl th:TO} {pos p2:d8}
theorem aaW:PO X ao aaV:=by intro cq s σ H Q I h;rw[ald];exact aw ⟨ao,H,I,.none,h⟩
theorem aaX(h:PE X e te):PO X (aa e) (af2 te):=by intro cq s σ H Q I hw;rw[evalPart_some];refine kq (h cq s σ H _ I hw) λu s1 a=>?_;obtain⟨x,H1,b,c,f⟩:=a;obtain⟨i,rfl,q⟩:=f;obtain⟨t,rfl⟩:=c;exact⟨aa i,H1,b,.int i t,q⟩
def SlR (X:Cx)(r:V->Option Int->Option Int->Hp->VK->Prop):Prop:=
 ∀(cq:List (ak×cm)) (s:aq) (σ:St) (H:Hp) (x:V) (v a b:ae) (lo hi:Option Int) (sl:ak) (Q:VK),Inv X cq σ H s->RelV x v->s.heap.IsSliceOf sl a b .none->ajI a lo->ajI b hi->r x lo hi H Q->
  ∃T id,typeLookup (.type T) "__getitem__"=pure (aa (.builtin id))/\s.TypeIs v T/\wpAny (model X.prog X.w) X.A (gA v (.ref sl)) (EP X cq σ Q) X.xe s
theorem SlR.or{r a:V->Option Int->Option Int->Hp->VK->Prop}(h:SlR X r)(j:SlR X a):SlR X (λx lo hi H Q=>r x lo hi H Q\/a x lo hi H Q):=by
 intro cq s σ H x v b c lo hi sl Q I f g pl i q;rcases q with q|q
 .exact h cq s σ H x v b c lo hi sl Q I f g pl i q
 .exact j cq s σ H x v b c lo hi sl Q I f g pl i q
def tSl (r:V->Option Int->Option Int->Hp->VK->Prop)(te:TE)(tl th:TO):TE:=λσ H Q=>te σ H λx H1=>tl σ H1 λl a=>th σ a λu b=>r x l u b Q
theorem Xw{r:V->Option Int->Option Int->Hp->VK->Prop}(i:SlR X r)(j:PE X e te)(m:PO X lo tl)(n:PO X hi th):PE X (.Subscript e (.Slice lo hi ao p2) pos) (tSl r te tl th):=by intro cq s σ H Q I h;refine Subscript_ (kq (j cq s σ H _ I h) λv s1 f=>?_);obtain⟨x,H1,o,p,y⟩:=f;refine wpAny_Slice (kq (m cq s1 σ H1 _ o y) λa s2 ⟨l,z,B,pl,C⟩=>kq (n cq s2 σ z _ B C) λc s3 f=>?_);obtain⟨u,g,E,G,J⟩:=f;rw[ald];refine aw ?_;have L:Inv X cq σ g {s3 with heap:=s3.heap.push {cls:=.type "slice",data:=.fields #[a,c,.none]}}:=E.kept (t':=s3.toks) λb Y q=>aj _ q;obtain⟨T,id,M,ht,N⟩:=i cq {s3 with heap:=s3.heap.push {cls:=.type "slice",data:=.fields #[a,c,.none]}} σ g x v a c l u s3.heap.objs.size Q L p (az.IsSliceOf.new ..) pl G J;show wpAny (model X.prog X.w) X.A (ajt e (.Slice lo hi ao p2) v (.ref s3.heap.objs.size)) (EP X cq σ Q) X.xe {s3 with heap:=s3.heap.push {cls:=.type "slice",data:=.fields #[a,c,.none]}};exact tail_any (ops:=[.ref s3.heap.objs.size,v]) ht M N (by with_unfolding_all rfl)
noncomputable def Og(xs:List V)(lo hi:Option Int):List V:=(xs.drop (HT.nY xs.length 0 lo)).take (HT.nY xs.length xs.length hi- HT.nY xs.length 0 lo)
theorem Eu(xs:List V)(lo hi:Option Int):(Og xs lo hi).length<=xs.length:=by unfold Og;rw[d9,e9];omega
def ah4 (K:bz):V->Option Int->Option Int->Hp->VK->Prop:=λx lo hi H Q=>∃a xs,x=.ref a/\Bb K H a xs/\
 ¬(HT.nY xs.length 0 lo=0/\HT.nY xs.length xs.length hi=xs.length)/\∀p,H p=ao->Q (.ref p) (upd H p (.tup (Og xs lo hi)))
theorem ad0:SlR X (ah4 X.K):=by
 intro cq s σ H x v n p lo hi sl Q I g i pl j h;obtain⟨a,xs,rfl,m,hw,q⟩:=h;cases g;obtain⟨ia,r,ht,f⟩:=I.tuple m;have c:ia.toArray.size=xs.length:=by rw[aD];exact r.length.symm
 refine⟨"tuple",_,eJ.lookup,ht.typeIs,?_⟩;refine HT.Bf ht i pl j (by rw[c];exact hw) ?_ (by rw[c];exact f);rw[c];refine⟨.ref s.heap.objs.size,_,I.laid (t':=s.toks) (o:=.tup (Og xs lo hi)) (λb w q=>aj _ q) (aM _) ?_,rfl,q _ (I.jo.fresh (aM _))⟩;exact⟨bG (Eu xs lo hi) f,_,(r.drop (HT.nY xs.length 0 lo)).take (HT.nY xs.length xs.length hi- HT.nY xs.length 0 lo),ajA.new _ _⟩
def af3 (K:bz):R2:=λx y H Q=>∃a b xs c,x=.ref a/\y=.ref b/\Bb K H a xs/\Bb K H b c/\xs≠[]/\xs.length+c.length<=aC/\
 (c=[]->Q (.ref a) H)/\(c≠[]->∀p,H p=ao->Q (.ref p) (upd H p (.tup (xs++c))))
theorem Vals.L0{xs:List V}{us:List ae}(r:Vals xs us):us=[]↔xs=[]:=by
 cases r with
 |nil=>simp
 |cons _ _=>simp
theorem aaY:uF X (binaryOp .Add) (af3 X.K):=by intro cq s σ H x y v u Q I i j h;obtain⟨a,b,xs,m,rfl,rfl,ha,n,p,g,r,A⟩:=h;cases i;cases j;obtain⟨ia,f,B,_⟩:=I.tuple ha;obtain⟨C,c,p2,_⟩:=I.tuple n;refine HT.aaU B p2 (λz=>p (f.L0.mp z)) (λz=>⟨.ref a,H,I,rfl,r (c.L0.mp z)⟩) (λz=>?_) (by rw[<-f.length,<-c.length];exact g);refine⟨.ref s.heap.objs.size,_,I.laid (t':=s.toks) (o:=.tup (xs++m)) (λb G q=>aj _ q) (aM _) ?_,rfl,A (λw=>z (c.L0.mpr w)) _ (I.jo.fresh (aM _))⟩;exact⟨by rw[aE];exact g,_,f.append c,ajA.new _ _⟩
end
noncomputable def QU(n:Nat)(i:Int):Option Nat:=if 0<=i then(if i<n then aa i.toNat else ao) else if-(n:Int)<=i then aa (i+n).toNat else ao
noncomputable def vE{α:Type}(xs:List α)(i:Int):Option α:=(QU xs.length i).bind λj=>xs[j]?
theorem TN{n:Nat}{i:Int}{j:Nat}(h:QU n i=aa j):akb i n=aa j/\j<n/\-(n:Int)<=i/\i<n:=by
 unfold QU at h;by_cases b:0<=i
 .rw[if_pos b] at h;by_cases a:i<n
  .rw[if_pos a] at h;have e:i.toNat=j:=bD h;exact⟨by rw[ajK b a,e],by omega,by omega,a⟩
  .rw[if_neg a] at h;cases h
 .rw[if_neg b] at h;by_cases a:-(n:Int)<=i
  .rw[if_pos a] at h;have e:(i+n).toNat=j:=bD h;exact⟨by rw[seqIndex_neg (by omega) a,e],by omega,a,by omega⟩
  .rw[if_neg a] at h;cases h
theorem Fx{α:Type}{xs:List α}{i:Int}{v:α}(h:vE xs i=aa v):∃j,akb i xs.length=aa j/\xs[j]?=aa v/\j<xs.length/\-(xs.length:Int)<=i/\i<xs.length:=by
 unfold vE at h;cases e:QU xs.length i with
 |none=>rw[e] at h;cases h
 |some j=>
  rw[e] at h;obtain⟨a,b,c,f⟩:=TN e;exact⟨j,a,h,b,c,f⟩
theorem Oh{α:Type}(xs:List α)(v:α):vE (xs++[v]) (-1)=aa v:=by
 have a:(xs++[v]).length=xs.length+1:=by simp
 have e:QU (xs++[v]).length (-1)=aa xs.length:=by unfold QU;rw[a,if_neg (by decide),if_pos (by omega)];congr 1;omega
 unfold vE;rw[e];show(xs++[v])[xs.length]?=aa v;simp
def TQ (b:bC):Prop:=∀o i,subscripted b ar o i=operate [o,i] (gA o i)
def IxR (X:Cx)(r:R2):Prop:=
 ∀(value slice:bC) (cq:List (ak×cm)) (s:aq) (σ:St) (H:Hp) (x y:V) (v u:ae) (Q:VK),Inv X cq σ H s->RelV x v->RelV y u->r x y H Q->
  subscripted slice ar v u=operate [v,u] (gA v u)->wpAny (model X.prog X.w) X.A (ajt value slice v u) (EP X cq σ Q) X.xe s
def MtR (X:Cx)(id:String)(r:V->List V->Hp->VK->Prop):Prop:=
 ∀(cq:List (ak×cm)) (s:aq) (σ:St) (H:Hp) (x:V) (xs:List V) (v:ae) (us:List ae) (Q:VK),Inv X cq σ H s->RelV x v->Vals xs us->r x xs H Q->
  wpAny (model X.prog X.w) X.A (call (.builtin id) (v::us)) (EP X cq σ Q) X.xe s
section
variable {X:Cx} {a b:bC} {ta tb:TE} {pos:d8}
theorem acD{r:R2}(c:IxR X r)(ha:PE X a ta)(e:PE X b tb)(f:TQ b):PE X (.Subscript a b pos) (tOp r ta tb):=by intro cq s σ H Q I h;exact Subscript_ (adG ha e I h λv u s2 x y g i j m q=>c a b cq s2 σ g x y v u Q i j m q (f _ _))
def af4 (K:bz):R2:=λx y H Q=>∃p xs i v,x=.ref p/\y=.int i/\p7 K H p xs/\vE xs i=aa v/\Q v H
def af5 (K:bz):R2:=λx y H Q=>∃p xs i v,x=.ref p/\y=.int i/\Bb K H p xs/\vE xs i=aa v/\Q v H
def ah5:R2:=λx y H Q=>∃z i c,x=.str z/\y=.int i/\z.length<=aC/\vE z.cps.toList i=aa c/\Q (.str ⟨#[c]⟩) H
theorem TR:IxR X (af4 X.K):=by
 intro value slice cq s σ H x y v u Q I o A h f;obtain⟨p,xs,i,z,rfl,rfl,B,C,q⟩:=h;cases o;obtain⟨t,rfl⟩:=A;obtain⟨ia,r,pl,O⟩:=I.list B;obtain⟨j,c,E,T,G,J⟩:=Fx C;obtain⟨w,g,L⟩:=r.get E;have M:=r.length;have hn:=Aj;have m:EP X cq σ Q w s:=⟨z,H,I,L,q⟩;by_cases n:0<=i
 .have e:i.toNat=j:=by rw[ajK n J] at c;exact bD c
  exact item_listR pl.isList n (by omega) (by rw[e];simpa using g) m f
 .have e:(i+(ia.toArray.size:Int)).toNat=j:=by rw[seqIndex_neg (by omega) G] at c;rw[aD,<-M];exact bD c
  exact akg (x:=w) pl.isList.typeIs akH.lookup
   (akh (Q:=λr N=>r=w/\EP X cq σ Q r N) pl.isList (by omega) (by rw[aD]<;>omega) (by omega) (by rw[e];simpa using g) ⟨rfl,m⟩) f
theorem Xx:IxR X (af5 X.K):=by
 intro value slice cq s σ H x y v u Q I c e h f;obtain⟨p,xs,i,z,rfl,rfl,g,m,q⟩:=h;cases c;obtain⟨t,rfl⟩:=e;obtain⟨ia,r,pl,J⟩:=I.tuple g;obtain⟨j,n,o,L,M,N⟩:=Fx m;obtain⟨w,A,B⟩:=r.get o;have C:=r.length;have hn:=Aj;have E:EP X cq σ Q w s:=⟨z,H,I,B,q⟩;exact akg (x:=w) pl.typeIs slot_tuple_getitem.lookup
  (getItem_tuple (j:=j) (Q:=λr G=>r=w/\EP X cq σ Q r G) pl (by omega) (by omega) (by rw[aD,<-C];exact n) (by simpa using A) ⟨rfl,E⟩) f
theorem ad1:IxR X ah5:=by
 intro value slice cq s σ H x y v u Q I f g h m;obtain⟨z,i,c,rfl,rfl,C,n,q⟩:=h;obtain⟨t,rfl⟩:=f;obtain⟨E,rfl⟩:=g;obtain⟨j,e,o,G,p,r⟩:=Fx n;have w:z.cps.toList.length=z.length:=by simp[ay.length]
 rw[w] at e p r;have hn:=Aj;exact tail_any (akA s z t) slot_str_getitem.lookup (getItem_str (c:=c) (by have A:decide (i< -(2^63:Int))=ar:=decide_eq_false (by omega);have B:decide (i>=2^63)=ar:=decide_eq_false (by omega);rw[A,B,Bool.or_false]) (by rw[e];simpa using o) ⟨.str ⟨#[c]⟩,H,I.tok _,⟨_,rfl⟩,q⟩) m
theorem Rh(ia:List ae)(n j:Nat)(u:ae):bX (·.setIfInBounds j u) {cls:=.type "list",data:=.seq ia.toArray n}={cls:=.type "list",data:=.seq (ia.set j u).toArray n}:=by simp[bX]
theorem Inv.lst{cq:List (ak×cm)}{σ:St}{H:Hp}{s:aq}{p:ak}{xs:List V}(I:Inv X cq σ H s)(h:H p=aa (.lst xs)):
  ∃(ia:List ae) (n:Nat),Vals xs ia/\s.heap.get? p=aa {cls:=.type "list",data:=.seq ia.toArray n}/\xs.length<=aC:=by obtain⟨z,ia,n,r,e⟩:=I.jo p _ h;exact⟨ia,n,r,e,z⟩
theorem Inv.ad2{cq:List (ak×cm)}{σ:St}{H:Hp}{s:aq}{p:ak}{xs g:List V}{ia c:List ae}{n i:Nat}{f:cm->cm}(I:Inv X cq σ H s)(h:H p=aa (.lst xs))
(m:s.heap.get? p=aa {cls:=.type "list",data:=.seq ia.toArray n})(j:f {cls:=.type "list",data:=.seq ia.toArray n}={cls:=.type "list",data:=.seq c.toArray i})(r:Vals g c)(o:g.length<=aC)(t:Nat):
  Inv X cq σ (upd H p (.lst g)) {s with heap:=s.heap.update p f,toks:=t}:=by
 have e:(s.heap.update p f).get? p=aa {cls:=.type "list",data:=.seq c.toArray i}:=by rw[ai7 f m (by rw[j]<;>rfl),j]
 refine I.write (x:=p) (e:=p) (by rw[h];trivial) (.inl rfl) (λb u v q=>(az.get?_update_other _ _ (cV v)).trans q) ⟨_,e⟩ ?_;exact⟨o,c,i,r,e⟩
def af6:V->V->V->Hp->(Hp->Prop)->Prop:=λo i v H Q=>∃p xs k j,o=.ref p/\i=.int k/\H p=aa (.lst xs)/\QU xs.length k=aa j/\Q (upd H p (.lst (xs.set j v)))
theorem Oi:adz X af6:=by
 intro cq s σ H o i v J L u Q I A B C h;obtain⟨p,xs,k,j,rfl,rfl,m,E,q⟩:=h;cases A;obtain⟨t,rfl⟩:=B;obtain⟨ia,n,r,e,G⟩:=I.lst m;obtain⟨c,M,w,x⟩:=TN E;have f:=r.length;have hn:=Aj;have y:Inv X cq σ (upd H p (.lst (xs.set j v))) {s with heap:=s.heap.update p (bX (·.setIfInBounds j u))}:=
  I.ad2 m e (Rh ia n j u) (r.set C j) (by rw[eN];exact G) s.toks
 by_cases z:0<=k
 .have g:k.toNat=j:=by rw[ajK z x] at c;exact bD c
  exact W.ki_setAt e z (by omega) (by rw[aD,<-f];exact x) (by rw[g];exact⟨_,y,q⟩)
 .have g:(k+(ia.toArray.size:Int)).toNat=j:=by rw[seqIndex_neg (by omega) w] at c;rw[aD,<-f];exact bD c
  exact W.ki_setBack e (by omega) (by rw[aD,<-f];exact w) (by omega) (by rw[g];exact⟨_,y,q⟩)
theorem L1(lo hi:Option Int)(n:Nat):(fR lo hi ao n).1=((HT.nY n 0 lo:Nat):Int)/\(fR lo hi ao n).2.1=((HT.nY n n hi:Nat):Int)/\(fR lo hi ao n).2.2=1:=by
 refine⟨?_,?_,rfl⟩
 .cases lo with
  |none=>simp[fR,HT.nY]
  |some i=>
   simp only [fR,HT.nY,Option.getD_none,show(1:Int)>0 by decide,if_true];by_cases h:i<0
   .simp only [h,if_true]<;>omega
   .simp only [h,if_false]<;>omega
 .cases hi with
  |none=>simp[fR,HT.nY]
  |some i=>
   simp only [fR,HT.nY,Option.getD_none,show(1:Int)>0 by decide,if_true];by_cases h:i<0
   .simp only [h,if_true]<;>omega
   .simp only [h,if_false]<;>omega
theorem Jr(ia:List ae)(lo hi:Option Int):slicePick ia.toArray lo hi ao=((ia.drop (HT.nY ia.length 0 lo)).take (HT.nY ia.length ia.length hi- HT.nY ia.length 0 lo)).toArray:=by obtain⟨c,e,f⟩:=L1 lo hi ia.toArray.size;unfold slicePick;rw[c,e,f];simp only [sliceRange_one,pick_run,aD]<;>rfl
def ah6 (K:bz):V->Option Int->Option Int->Hp->VK->Prop:=λx lo hi H Q=>∃a xs,x=.ref a/\p7 K H a xs/\∀p,H p=ao->Q (.ref p) (upd H p (.lst (Og xs lo hi)))
theorem aaZ:SlR X (ah6 X.K):=by intro cq s σ H x v m n lo hi sl Q I c e pl f h;obtain⟨a,xs,rfl,g,q⟩:=h;cases c;obtain⟨ia,r,ht,i⟩:=I.list g;have j:=r.length;refine⟨"list",_,akH.lookup,ht.isList.typeIs,?_⟩;refine wpAny_getItem_list_slice ht.isList e pl f .none (by simp) ?_ (by rw[aD]<;>omega);rw[Jr,<-j];refine⟨.ref s.heap.objs.size,_,I.laid (t':=s.toks) (o:=.lst (Og xs lo hi)) (λb u q=>aj _ q) (aM _) ?_,rfl,q _ (I.jo.fresh (aM _))⟩;exact⟨bG (Eu xs lo hi) i,_,0,(r.drop (HT.nY xs.length 0 lo)).take (HT.nY xs.length xs.length hi- HT.nY xs.length 0 lo),aP _ rfl⟩
noncomputable def zO:V->Bool
 |.non=>ag
 |.bl _=>ag
 |.int _=>ag
 |.str _=>ag
 |_=>ar
noncomputable def eqV:V->V->Bool
 |.non,.non=>ag
 |.bl a,.bl b=>a==b
 |.bl a,.int b=>(if a then 1 else 0)==b
 |.int a,.bl b=>a==(if b then 1 else 0)
 |.int a,.int b=>a==b
 |.str a,.str b=>a==b
 |_,_=>ar
theorem ad3{A:bv}{s:aq}{y x:V}{u v:ae}(f:RelV y u)(c:RelV x v)(h:zO y=ag)(g:zO x=ag):cj A s u v (eqV y x):=by
 cases y with
 |non=>
  cases f;cases x with
  |non=>cases c;exact cj.same _
  |bl b=>cases c;exact cj.none_bool b
  |int b=>obtain⟨t,rfl⟩:=c;exact cj.none_int b t
  |str b=>obtain⟨t,rfl⟩:=c;exact cj.none_str b t
  |_=>exact absurd (show ar=ag from g) ax
 |bl a=>
  cases f;cases x with
  |non=>cases c;exact cj.bool_none a
  |bl b=>cases c;exact cj.bool_bool a b
  |int b=>obtain⟨t,rfl⟩:=c;exact cj.bool_int a b t
  |str b=>obtain⟨t,rfl⟩:=c;exact cj.bool_str a b t
  |_=>exact absurd (show ar=ag from g) ax
 |int a=>
  obtain⟨e,rfl⟩:=f;cases x with
  |non=>cases c;exact cj.int_none a e
  |bl b=>cases c;exact cj.int_bool a e b
  |int b=>obtain⟨t,rfl⟩:=c;exact cj.int_int a e b t
  |str b=>obtain⟨t,rfl⟩:=c;exact cj.int_str a e b t
  |_=>exact absurd (show ar=ag from g) ax
 |str a=>
  obtain⟨e,rfl⟩:=f;cases x with
  |non=>cases c;exact cj.str_none a e
  |bl b=>cases c;exact cj.str_bool a e b
  |int b=>obtain⟨t,rfl⟩:=c;exact cj.str_int a e b t
  |str b=>obtain⟨t,rfl⟩:=c;exact cj.str_str a e b t
  |_=>exact absurd (show ar=ag from g) ax
 |_=>exact absurd (show ar=ag from h) ax
noncomputable def Ri(x:V)(u:ae):Bool:=match u with
 |.none=>eqV .non x
 |.bool b=>eqV (.bl b) x
 |.int i _=>eqV (.int i) x
 |.str z _=>eqV (.str z) x
 |_=>ar
theorem Xy{x y:V}{u:ae}(r:RelV y u)(f:zO y=ag):Ri x u=eqV y x:=by
 cases y with
 |non=>cases r;rfl
 |bl b=>cases r;rfl
 |int i=>obtain⟨t,rfl⟩:=r;rfl
 |str z=>obtain⟨t,rfl⟩:=r;rfl
 |_=>exact absurd (show ar=ag from f) ax
theorem Bg{x:V}:∀{xs:List V} {us:List ae},Vals xs us->xs.all zO=ag->us.any (Ri x)=xs.any λy=>eqV y x
 |_,_,.nil,_=>rfl
 |y::xs,u::us,.cons r t,f=>by rw[fu,aQ] at f;rw[dg,dg,Xy r f.1,Bg t f.2]
theorem xA{A:bv}{s:aq}{x:V}{v:ae}(e:RelV x v)(g:zO x=ag):∀{xs:List V} {us:List ae},Vals xs us->xs.all zO=ag->∀u∈us,cj A s u v (Ri x u)
 |_,_,.nil,_=>λu c=>by cases c
 |y::xs,u::us,.cons r t,f=>λh c=>by
  rw[fu,aQ] at f;rcases aO.mp c with rfl|c
  .rw[Xy r f.1];exact ad3 r e f.1 g
  .exact xA e g t f.2 h c
noncomputable def inV(x:V)(xs:List V):Bool:=xs.any λy=>eqV y x
def rIn (K:bz)(neg:Bool):R2:=λx y H Q=>∃p xs,y=.ref p/\(p7 K H p xs\/Bb K H p xs)/\zO x=ag/\xs.all zO=ag/\Q (.bl (if neg then !inV x xs else inV x xs)) H
theorem KU:uF X (compareOp .In) (rIn X.K ar):=by
 intro cq s σ H x y v u Q I e g h;obtain⟨p,xs,rfl,c,f,fs,q⟩:=h;cases g;rcases c with c|c
 .obtain⟨ia,r,pl,i⟩:=I.list c;refine SeqAt.in_listAt (Ri x) pl.isList (λw hw=>xA e f r fs w (by simpa using hw)) ⟨.bl _,H,I,rfl,?_⟩;rw[show ia.toArray.any (Ri x)=ia.any (Ri x) by simp,Bg r fs];exact q
 .obtain⟨ia,r,pl,i⟩:=I.tuple c;refine SeqAt.in_tupleAt (Ri x) pl (λw hw=>xA e f r fs w (by simpa using hw)) ⟨.bl _,H,I,rfl,?_⟩;rw[show ia.toArray.any (Ri x)=ia.any (Ri x) by simp,Bg r fs];exact q
theorem Bh:uF X (compareOp .NotIn) (rIn X.K ag):=by
 intro cq s σ H x y v u Q I e g h;obtain⟨p,xs,rfl,c,f,fs,q⟩:=h;cases g;rcases c with c|c
 .obtain⟨ia,r,pl,i⟩:=I.list c;refine SeqAt.notIn_listAt (Ri x) pl.isList (λw hw=>xA e f r fs w (by simpa using hw)) ⟨.bl _,H,I,rfl,?_⟩;rw[show ia.toArray.any (Ri x)=ia.any (Ri x) by simp,Bg r fs];exact q
 .obtain⟨ia,r,pl,i⟩:=I.tuple c;refine SeqAt.notIn_tupleAt (Ri x) pl (λw hw=>xA e f r fs w (by simpa using hw)) ⟨.bl _,H,I,rfl,?_⟩;rw[show ia.toArray.any (Ri x)=ia.any (Ri x) by simp,Bg r fs];exact q
theorem vF:pr X (.builtin "len") (λxs H Q=>∃p c,xs=[.ref p]/\(p7 X.K H p c\/Bb X.K H p c)/\Q (.int c.length) H):=by
 intro cq s σ H xs us Q I r h;obtain⟨p,c,rfl,e,q⟩:=h;obtain⟨u,rfl,i⟩:=vals1 r;cases i;have hn:=Aj;rcases e with e|e
 .obtain⟨ia,f,pl,j⟩:=I.list e;have g:=f.length;exact Calls.call_len_list pl.isList (by simp only [aD]<;>omega) ⟨.int c.length,H,I.tok _,⟨s.toks+1,by rw[aD,g]⟩,q⟩
 .obtain⟨ia,f,pl,j⟩:=I.tuple e;have g:=f.length;exact len_tuple pl (by simp only [aD]<;>omega) ⟨.int c.length,H,I.tok _,⟨s.toks+1,by rw[aD,g]⟩,q⟩
theorem L4:pr X (.builtin "len") (λxs H Q=>∃z,xs=[.str z]/\z.length<=aC/\Q (.int z.length) H):=by intro cq s σ H xs us Q I r h;obtain⟨z,rfl,c,q⟩:=h;obtain⟨u,rfl,t,rfl⟩:=vals1 r;have hn:=Aj;exact len_str (by omega) ⟨.int z.length,H,I.tok _,⟨_,rfl⟩,q⟩
theorem vG:pr X (.type "list") (λxs H Q=>∃p f,xs=[.ref p]/\(p7 X.K H p f\/Bb X.K H p f)/\∀l,H l=ao->Q (.ref l) (upd H l (.lst f))):=by
 intro cq s σ H xs us Q I r h;obtain⟨p,f,rfl,j,q⟩:=h;obtain⟨u,rfl,A⟩:=vals1 r;cases A;have y:∀(ia:List ae),Vals f ia->f.length<=aC->∀(c:az) (g:Nat),(∀b z,s.heap.get? b=aa z->c.get? b=aa z)->
   c.get? s.heap.objs.size=aa {cls:=.type "list",dict:=ao,data:=.seq ia.toArray g,slots:=#[]}->EP X cq σ Q (.ref s.heap.objs.size) {s with heap:=c}:=λia i m c g kp e=>
  ⟨.ref s.heap.objs.size,_,I.laid (t':=s.toks) kp (aM _) (show jK X.prog X.w _ c _ (.lst f) from⟨m,ia,g,i,e⟩),rfl,q _ (I.jo.fresh (aM _))⟩
 rcases j with j|j
 .obtain⟨ia,i,pl,m⟩:=I.list j;have B:=i.length;obtain⟨o,v,x,n,hd⟩:=pl.isList;exact ale p (.inl rfl) v x hd (λc g kp e=>y ia i m c g kp e) (by simp only [aD]<;>omega)
 .obtain⟨ia,i,pl,m⟩:=I.tuple j;have B:=i.length;obtain⟨o,v,x,n,hd⟩:=pl;exact ale p (.inr rfl) v x hd (λc g kp e=>y ia i m c g kp e) (by simp only [aD]<;>omega)
theorem zP:pr X (.type "tuple") (λxs H Q=>∃p c,xs=[.ref p]/\((p7 X.K H p c/\∀l,H l=ao->Q (.ref l) (upd H l (.tup c)))\/(Bb X.K H p c/\Q (.ref p) H))):=by
 intro cq s σ H xs us Q I r h;obtain⟨p,c,rfl,h⟩:=h;obtain⟨u,rfl,n⟩:=vals1 r;cases n;rcases h with⟨g,q⟩|⟨g,q⟩
 .obtain⟨ia,i,pl,j⟩:=I.list g;have y:=i.length;refine call_tuple_list pl.isList (λf kp=>?_) (by simp only [aD]<;>omega);have m:Inv X cq σ H {s with heap:=f}:=I.kept (t':=s.toks) kp;have x:Inv X cq σ (upd H f.objs.size (.tup c)) {s with heap:=f.push {cls:=.type "tuple",data:=.seq ia.toArray}}:=
   m.laid (t':=s.toks) (λb o e=>aj _ e) (aM _) (show jK X.prog X.w _ _ _ (.tup c) from⟨j,ia,i,ajA.new _ _⟩)
  exact⟨.ref f.objs.size,_,x,rfl,q _ (m.jo.fresh (aM _))⟩
 .obtain⟨ia,i,pl,j⟩:=I.tuple g;exact call_tuple_same pl ⟨.ref p,H,I,rfl,q⟩
def tyV (K:bz)(T:String)(x:V)(H:Hp):Prop:=match x with
 |.str _=>T="str"
 |.int _=>T="int"
 |.ref p=>(T="list"/\∃xs,p7 K H p xs)\/(T="tuple"/\∃o,K.lookup p=aa o/\o.cls=.type "tuple"/\o.dict=ao)\/
   (T="dict"/\((∃c,Rd H p (.dK c))\/(∃c,H p=aa (.dT c))\/∃e c,H p=aa (.dE e c)))\/(T="set"/\∃S n,H p=aa (.set S n))
 |_=>False
theorem Xz{cq:List (ak×cm)}{σ:St}{H:Hp}{s:aq}{T:String}{x:V}{v:ae}(I:Inv X cq σ H s)(r:RelV x v)(ty:tyV X.K T x H):
  s.TypeIs v T/\∀a,v=.ref a->∃h,s.heap.get? a=aa h/\h.dict=ao:=by
 cases x with
 |str z=>
  obtain⟨t,rfl⟩:=r;cases(show T="str" from ty);exact⟨akA s z t,λ_ e=>nomatch e⟩
 |int i=>
  obtain⟨t,rfl⟩:=r;cases(show T="int" from ty);exact⟨akB s i t,λ_ e=>nomatch e⟩
 |ref p=>
  cases r;rcases ty with⟨rfl,xs,m⟩|⟨rfl,o,f,q,hd⟩|⟨rfl,f⟩|⟨rfl,S,n,f⟩
  .obtain⟨ia,_,pl,_⟩:=I.list m;refine⟨pl.isList.typeIs,λa e=>?_⟩;cases e;obtain⟨o,n,e,c,hd,_⟩:=pl;exact⟨o,e,hd⟩
  .refine⟨⟨o,I.zM p o f,q⟩,λa e=>?_⟩;cases e;exact⟨o,I.zM _ o f,hd⟩
  .have z:∃o,s.heap.get? p=aa o/\o.ExactDict:=by
    rcases f with⟨j,f⟩|⟨j,f⟩|⟨u,j,f⟩
    .obtain⟨_,_,_,_,o,_,_,e,ex,_⟩:=f.ok I.jo;exact⟨o,e,ex⟩
    .obtain⟨_,_,_,_,o,_,_,e,ex,_⟩:=I.jo p _ f;exact⟨o,e,ex⟩
    .obtain⟨_,_,_,_,o,_,e,ex,_⟩:=I.jo p _ f;exact⟨o,e,ex⟩
   obtain⟨o,e,ex⟩:=z;refine⟨⟨o,e,ex.1⟩,λa g=>?_⟩;cases g;exact⟨o,e,ex.2.1⟩
  .obtain⟨o,_,_,_,e,ex,_⟩:=I.jo p _ f;refine⟨⟨o,e,ex.1⟩,λa g=>?_⟩;cases g;exact⟨o,e,ex.2.1⟩
 |_=>exact cy ty
def ah7 (K:bz)(T:String)(r:V->List V->Hp->VK->Prop)(to:TE):TE:=λσ H Q=>to σ H λx H1=>tyV K T x H1/\r x [] H1 Q
def tBM (K:bz)(T:String)(r:V->List V->Hp->VK->Prop)(to:TE)(t:TA):TE:=λσ H Q=>to σ H λx H1=>tyV K T x H1/\t σ H1 λxs c=>r x xs c Q
variable {o e:bC} {es:List bC} {to:TE} {t:TA} {name:ay} {apos mX:d8} {T id:String} {r:V->List V->Hp->VK->Prop}
theorem ad4(i:ajV T)(slot:Slot T name id)(c:akZ (.builtin id)=pure (.type "method_descriptor"))(hm:MtR X id r)(j:PE X o to)
(m:du o name X.env (eval o X.env)=eval o X.env:=by rfl)(n:(apos.endLine==mX.line)=ag:=by rfl):PE X (.Call (.Attribute o name apos) [] [] mX) (ah7 X.K T r to):=by intro cq s σ H Q I h;refine wpAny_Call_method0_late m n (kq (j cq s σ H _ I h) λv s1 p=>?_);obtain⟨x,H1,f,g,ty,q⟩:=p;obtain⟨u,w⟩:=Xz f g ty;exact⟨T,id,i,slot,c,u,w,Calls.callWith_builtin rfl (PySem.evalArgs_none (hm cq s1 σ H1 x [] v [] Q f g .nil q))⟩
theorem af7(m:ajV T)(slot:Slot T name id)(c:akZ (.builtin id)=pure (.type "method_descriptor"))(hm:MtR X id r)(n:PE X o to)(ha:PA X (e::es) t)
(p:du o name X.env (eval o X.env)=eval o X.env:=by rfl)
(f:((c7 mX (bc (e::es) X.env)).all (λx=>!x.1)&&(ajn mX (eI [] X.env)).all (λx=>x.1.isSome)
   &&decide ((e::es).length+([]:List aji).length+(if([]:List aji).isEmpty then 0 else 1)<30))=ag:=by rfl)
(q:(apos.endLine==mX.line)=ag:=by rfl)(u:bc (e::es) X.env=(ar,eval e X.env)::bc es X.env:=by rfl)(w:(c7 mX (bc es X.env)).any (·.1)=ar:=by rfl):
  PE X (.Call (.Attribute o name apos) (e::es) [] mX) (tBM X.K T r to t):=by intro cq s σ H Q I h;refine wpAny_Call_method_late p f q rfl (kq (n cq s σ H _ I h) λv s1 y=>?_);obtain⟨x,H1,g,i,ty,z⟩:=y;obtain⟨A,B⟩:=Xz g i ty;refine⟨T,id,m,slot,c,A,B,?_⟩;have j:=ha mX cq s1 σ H1 _ g z;rw[u] at j |-;refine Calls.callWith_builtin (by show(ar||(c7 mX (bc es X.env)).any (·.1))=ar;rw[w]<;>rfl) (Calls.evalArgs_plain ?_);exact kq j λus s2 ⟨C,E,G,J,L⟩=>hm cq s2 σ E x C v us Q G i J L
end
def MtM (X:Cx)(id:String)(r:V->List V->Hp->VK->Prop):Prop:=
 ∀(cq:List (ak×cm)) (s:aq) (σ:St) (H:Hp) (x:V) (xs:List V) (v:ae) (us:List ae) (Q:VK),Inv X cq σ H s->RelV x v->Vals xs us->r x xs H Q->
  wpAny (model X.prog X.w) X.A (call (.builtin id) (v::us)) (EP X cq σ Q) X.xe s
theorem Vals.one:∀{x:V} {us:List ae},Vals [x] us->∃u,us=[u]/\RelV x u
 |_,_,.cons r .nil=>⟨_,rfl,r⟩
theorem Vals.zero:∀{us:List ae},Vals [] us->us=[]
 |_,.nil=>rfl
theorem Vals.dropLast{xs:List V}{us:List ae}(h:Vals xs us):Vals xs.dropLast us.dropLast:=by
 induction h with
 |nil=>exact .nil
 |cons r t a=>
  cases t with
  |nil=>exact .nil
  |cons q b=>exact .cons r a
theorem Vals.eraseIdx:∀{xs:List V} {us:List ae} (i:Nat),Vals xs us->Vals (xs.eraseIdx i) (us.eraseIdx i)
 |_,_,_,.nil=>.nil
 |_,_,0,.cons _ t=>t
 |_,_,i+1,.cons r t=>.cons r (Vals.eraseIdx i t)
theorem Vals.rep{xs:List V}{us:List ae}(h:Vals xs us):∀k:Nat,Vals (bP k xs).flatten (bP k us).flatten
 |0=>.nil
 |k+1=>by rw[cW,cW,dS,dS];exact Vals.append h (Vals.rep h k)
theorem Rl{α:Type}(l:List α):l.eraseIdx (l.length- 1)=l.dropLast:=by
 induction l with
 |nil=>rfl
 |cons a r c=>
  cases r with
  |nil=>rfl
  |cons b r=>
   have e:(a::b::r).length- 1=((b::r).length- 1)+1:=by have f:(a::b::r).length=r.length+2:=rfl;have g:(b::r).length=r.length+1:=rfl;omega
   rw[e,List.eraseIdx_cons_succ,c];all_goals rfl
theorem KW{α:Type}:∀(l:List α) (i:Nat),(l.eraseIdx i).length<=l.length
 |[],_=>aM _
 |_::_,0=>ck _
 |_::r,i+1=>Nat.succ_le_succ (KW r i)
theorem foldl_rep(ia:List ae):∀(k:Nat) (acc:List ae),
  List.foldl (λa b=>a++b) acc.toArray (bP k ia.toArray)=(acc++(bP k ia).flatten).toArray
 |0,acc=>by simp
 |k+1,acc=>by
  have e:acc.toArray++ia.toArray=(acc++ia).toArray:=by simp
  have c:(acc++ia)++(bP k ia).flatten=acc++(bP (k+1) ia).flatten:=by rw[cW,dS,bn]
  rw[<-c,<-foldl_rep ia k (acc++ia),<-e,cW,List.foldl_cons]
section
variable {X:Cx} {cq:List (ak×cm)} {σ:St} {H:Hp} {s:aq} {l b:ak} {xs ys zs:List V}
theorem Inv.aa0{ia zB:List ae}{n:Nat}{f:Array ae->Array ae}{a:Nat}(I:Inv X cq σ H s)(c:H l=aa (.lst xs))
(e:s.heap.get? l=aa {cls:=.type "list",data:=.seq ia.toArray n})(g:f ia.toArray=zB.toArray)(h:Vals ys zB)(i:ys.length<=aC):
  Inv X cq σ (upd H l (.lst ys)) {s with heap:=s.heap.update l (bX f),toks:=a}:=by have q:=PySem.IsL.update e f;rw[g] at q;refine I.write (x:=l) (e:=l) (by rw[c];exact trivial) (.inl rfl) (λo u j m=>(az.get?_update_other s.heap (bX f) (cV j)).trans m) ⟨_,q⟩ ?_;exact⟨i,zB,_,h,q⟩
theorem Inv.ad6{ia:List ae}{t':Nat}(I:Inv X cq σ H s)(a:Vals ys ia)(c:ys.length<=aC):
  Inv X cq σ (upd H s.heap.objs.size (.lst ys)) {s with heap:=s.heap.push {cls:=.type "list",data:=.seq ia.toArray},toks:=t'}:=
 I.laid (λ_ _ q=>aj _ q) (aM _) ⟨c,ia,0,a,aP _ rfl⟩
theorem Inv.fresh(I:Inv X cq σ H s):H s.heap.objs.size=ao:=I.jo.fresh (aM _)
theorem Inv.Oj(I:Inv X cq σ H s)(a:H l=aa (.lst xs)):xs.length<=aC/\∃(ia:List ae) (n:Nat),Vals xs ia/\xs.length=ia.length/\s.heap.get? l=aa {cls:=.type "list",data:=.seq ia.toArray n}:=by obtain⟨z,ia,n,r,e⟩:=I.jo l _ a;exact⟨z,ia,n,r,r.length,e⟩
theorem Ol{n:Nat}(h:n<=aC):dW n=ar:=by unfold dW;exact decide_eq_false (by omega)
end
section
variable {X:Cx}
def aa1:V->List V->Hp->VK->Prop:=λx a H Q=>∃l xs y,x=.ref l/\a=[y]/\H l=aa (.lst xs)/\xs.length<aC/\Q .non (upd H l (.lst (xs++[y])))
theorem KY:MtM X "list.append" aa1:=by intro cq s σ H x g v us Q I b c h;obtain⟨l,xs,y,rfl,rfl,a,i,q⟩:=h;cases b;obtain⟨u,rfl,f⟩:=c.one;obtain⟨z,ia,n,r,j,e⟩:=I.Oj a;refine gj bb ⟨_,e,rfl⟩ F.entry_list_append (F.args_list_append_2 _ _) (PySem.list_append l ia.toArray n u (by rw[aD];omega)) ⟨e,?_⟩;refine⟨.non,_,I.aa0 (zB:=ia++[u]) a e (by simp) (r.append (.cons f .nil)) ?_,rfl,q⟩;rw[aE,bO];omega
def aa2:V->List V->Hp->VK->Prop:=λx a H Q=>∃l b xs zs,x=.ref l/\a=[.ref b]/\H l=aa (.lst xs)/\H b=aa (.lst zs)/\xs.length+zs.length<=aC/\Q .non (upd H l (.lst (xs++zs)))
theorem Vl:MtM X "list.extend" aa2:=by
 intro cq s σ H x B v us Q I f g h;obtain⟨l,b,xs,zs,rfl,rfl,c,i,C,q⟩:=h;cases f;obtain⟨u,rfl,j⟩:=g.one;cases j;obtain⟨z,ia,n,r,E,e⟩:=I.Oj c;obtain⟨G,a,m,o,p,w⟩:=I.Oj i;have y:ia.toArray.size+a.toArray.size<=aC:=by rw[aD,aD];omega
 have A:¬(!ia.toArray.isEmpty&&dW (ia.toArray.size+a.toArray.size))=ag:=by rw[Ol y,Bool.and_false];exact ax
 refine gj F.slot_list_extend ⟨_,e,rfl⟩ F.entry_list_extend (F.args_list_extend_2 _ _)
  (AutoSeq1.list_extend_list_list_0 l ia.toArray n b a.toArray m A (by rw[aD];omega) (by omega)) ⟨e,w,?_⟩
 refine⟨.non,_,I.aa0 (zB:=ia++a) c e (by simp) (r.append o) ?_,rfl,q⟩;rw[aE];omega
def ah8:V->List V->Hp->VK->Prop:=λx a H Q=>∃l xs y,x=.ref l/\a=[]/\H l=aa (.lst xs)/\xs[xs.length- 1]?=aa y/\Q y (upd H l (.lst xs.dropLast))
theorem ad7:MtM X "list.pop" ah8:=by
 intro cq s σ H x p v us Q I f g h;obtain⟨l,xs,y,rfl,rfl,c,i,q⟩:=h;cases f;have a:=g.zero;subst a;obtain⟨z,ia,n,r,j,e⟩:=I.Oj c;obtain⟨u,m,o⟩:=r.get i;have b:ia.toArray[ia.toArray.size- 1]?=aa u:=by show ia.toArray[ia.length- 1]?=aa u;rw[<-cZ,<-j];exact m
 refine gj F.slot_list_pop ⟨_,e,rfl⟩ F.entry_list_pop (F.args_list_pop_1 _) (MeetsSeq.list_pop_last l ia.toArray n u b (by rw[aD];omega)) ⟨e,?_⟩;refine⟨y,_,I.aa0 (zB:=ia.dropLast) c e ?_ r.dropLast ?_,o,q⟩
 .show ia.toArray.eraseIdxIfInBounds (ia.toArray.size- 1)=ia.dropLast.toArray;rw[aD,List.eraseIdxIfInBounds_toArray,Rl]
 .rw[List.length_dropLast];omega
def ad8:V->List V->Hp->VK->Prop:=λx a H Q=>∃l xs i k y,x=.ref l/\a=[.int i]/\H l=aa (.lst xs)/\-(2^63)<=i/\i<2^63/\akb i xs.length=aa k/\xs[k]?=aa y/\Q y (upd H l (.lst (xs.eraseIdx k)))
theorem XB:MtM X "list.pop" ad8:=by
 intro cq s σ H x B v us Q I b c h;obtain⟨l,xs,i,k,y,rfl,rfl,a,f,g,j,m,q⟩:=h;cases b;obtain⟨u,rfl,o⟩:=c.one;obtain⟨t,rfl⟩:=o;obtain⟨z,ia,n,r,p,e⟩:=I.Oj a;obtain⟨w,hw,A⟩:=r.get m;refine gj F.slot_list_pop ⟨_,e,rfl⟩ F.entry_list_pop (F.args_list_pop_2 _ _)
  (MeetsSeq.list_pop_at l ia.toArray n i t k w (ak0 f g) (by rw[aD,<-p];exact j) (by rw[<-cZ];exact hw) (by rw[aD];omega)) ⟨e,?_⟩
 refine⟨y,_,I.aa0 (zB:=ia.eraseIdx k) a e ?_ (r.eraseIdx k) ?_,A,q⟩
 .show ia.toArray.eraseIdxIfInBounds k=(ia.eraseIdx k).toArray;rw[List.eraseIdxIfInBounds_toArray]
 .have:=KW xs k;omega
def ah9:R2:=λx y H Q=>∃l b xs zs,x=.ref l/\y=.ref b/\H l=aa (.lst xs)/\H b=aa (.lst zs)/\xs.length+zs.length<=aC/\∀p,H p=ao->Q (.ref p) (upd H p (.lst (xs++zs)))
theorem ad9:uF X (binaryOp .Add) ah9:=by
 intro cq s σ H x y v u Q I c f h;obtain⟨l,b,xs,zs,rfl,rfl,g,i,w,q⟩:=h;cases c;cases f;obtain⟨z,ia,n,r,A,e⟩:=I.Oj g;obtain⟨B,a,C,j,m,o⟩:=I.Oj i;refine PySem.P.add_list e o ?_ (by rw[aD,aD];omega);have p:ia.toArray++a.toArray=(ia++a).toArray:=by simp
 rw[p];exact⟨.ref _,_,I.ad6 (t':=s.toks) (r.append j) (by rw[aE];omega),rfl,q _ I.fresh⟩
def aia:R2:=λx y H Q=>∃l k xs,x=.ref l/\y=.int k/\H l=aa (.lst xs)/\-(2^63)<=k/\k<2^63/\xs.length*k.toNat<=aC/\
 ∀p,H p=ao->Q (.ref p) (upd H p (.lst (bP k.toNat xs).flatten))
theorem aa3{α:Type}(xs:List α)(k:Nat):(bP k xs).flatten.length=k*xs.length:=by
 induction k with
 |zero=>simp
 |succ k a=>rw[cW,dS,aE,a,Nat.succ_mul,Nat.add_comm]
theorem aea:uF X (binaryOp .Mult) aia:=by
 intro cq s σ H x y v u Q I o p h;obtain⟨l,k,xs,rfl,rfl,w,A,B,j,q⟩:=h;cases o;obtain⟨t,rfl⟩:=p;obtain⟨z,ia,n,r,C,e⟩:=I.Oj w;have E:ia.toArray.size*k.toNat<=aC:=by rw[aD,<-C];exact j
 have b:¬ia.toArray.size*k.toNat>(2^63- 1)/8:=by
  have:(aC:Nat)<=(2^63- 1)/8:=by decide
  omega
 have c:¬(!bE.List.listFitsIndex k)=ag:=by rw[ak0 A B];exact ax
 have G:¬dW (ia.toArray.size*k.toNat)=ag:=by rw[Ol E];exact ax
 have f:List.foldl (λg i=>g++i) #[] (bP (if ia.toArray.isEmpty=ag then 0 else k.toNat) ia.toArray)=(bP k.toNat ia).flatten.toArray:=by
  have J:∀m:Nat,List.foldl (λg i=>g++i) #[] (bP m ia.toArray)=(bP m ia).flatten.toArray:=λm=>by have:=foldl_rep ia m [];rw[bQ] at this;exact this
  rw[J];cases ia with
  |nil=>simp
  |cons a M=>rw[if_neg (by simp)]
 refine wpAny_binaryOp_repeat_ref (T:="list") (U:="int") (by decide) ⟨_,e,rfl⟩ (λL=>akB L k t) noFill_list_mul F.fills_int_mul F.slot_int_rmul repeat_list F.slot_int_index.lookup
  (gj F.slot_int_rmul (akB s k t) F.entry_int_rmul (F.args_int_rmul_2 _ _) (int___rmul___int_list k t l ia.toArray n)
   ⟨e,rfl,⟨_,e,rfl⟩,gj F.slot_list_mul ⟨_,e,rfl⟩ F.entry_list_mul (F.args_list_mul_2 _ _) (AutoListH.list___mul___list_int_3 l ia.toArray n k t c b G) ⟨e,?_⟩⟩)
 rw[f];exact⟨.ref _,_,I.ad6 (t':=s.toks) (r.rep k.toNat) (by rw[aa3,Nat.mul_comm];exact j),rfl,q _ I.fresh⟩
end
section
variable {prog:ba} {w:bI} {A:bv} {E:ae->aq->Prop} {s:aq}
end
section
variable {X:Cx}
end
end L2
end
namespace Att
open PySem PySem.W PySem.Calls PyProof.Rows
theorem E6{P:Params}{h:az}:∀(ns:List Int) (c:List ae),WellAll P h c (ns.map WData.int)->aki c ns:=by
 intro ns;induction ns with
 |nil=>
  intro c w;rw[eR] at w;cases w;exact .nil
 |cons n ns e=>
  intro c w;rw[aZ] at w;cases w with
  |cons a b=>
   cases a;exact .cons _ _ (e _ b)
theorem Vm{l:OpenLaw}{n:Nat}(hn:l.most=aa n){P:Params}{h:az}{args:List WData}{vals:List ae}
(b:l.row.toRowW.claim.pre args=ag)(f:WellAll P h vals args):
  ∃a i ns,vals=[bH a]/\args=[WData.list (ns.map WData.int)]/\h.get? a=aa {cls:=.type "list",data:=.seq i.toArray}/\aki i ns/\ns.length<=n:=by
 have g:WShape.hasAll [] args [.list .int]=ag:=(pre_splitW b).1;have j:l.pre.holds [] {args:=args}=ag:=(pre_splitW b).2;obtain⟨d,r,rfl,m,o⟩:=hasAllW_cons g;obtain rfl:=hasAllW_nil o;obtain⟨xs,rfl,p⟩:=hasW_list m;obtain⟨ns,rfl⟩:=items_int p;have u:ns.length<=n:=by
  unfold OpenLaw.pre at j;have c:(WTm.not (.lt (.lit (.int (n:Int))) (.len (.arg 0)))).holds [] {args:=[.list (ns.map .int)]}=ag:=by have c:=(holds_andW j).1;rw[hn] at c;exact c
  have e:=condW_of c (w_not (w_lt w_lit (w_len_list (w_arg rfl))));rw[ai] at e;refine Nat.le_of_not_lt λq=>?_;have v:(n:Int)<((ns.length:Nat):Int):=by omega
  first
   | (rw[decide_eq_true v] at e;exact absurd e (by decide))
   | (simp at e;omega)
 cases f with
 |cons w x=>
  cases x;cases w with
  |list y z=>exact⟨_,_,ns,rfl,rfl,y,E6 ns _ z,u⟩
theorem Vn(l:OpenLaw)(args:List WData):l.row.toRowW.claim.post args (.bool ag) args=ag:=
 postW_of (r:=l.row.toRowW) (X:=(ag==ag))
  (show WShape.has [] (.bool ag) .bool=ag by first|rfl|decide|simp[WShape.has,WShape.arms,WShape.armsAll])
  (show(WTm.eq .res (.lit (.bool ag))).value [] {args:=args,res:=aa (.bool ag),after:=args}=aa (.bool (ag==ag)) from w_eq_bool (w_res rfl) w_lit) rfl
theorem Om{l:OpenLaw}{n:Nat}{q:ba}{loose:List ay}{u:(ay->Option ae)->az->Prop}{v:bI->az->Prop}{d:DefRec}
(hn:l.most=aa n)(y:d.params.defaults=[])
(call:∀(w:bI) (iY b:aq) (mg h:ay->Option ae) (e:ak) (o:cm) (pm cd doc:ae) (a:ak) (c:List ae) (ns:List Int),
   Ground q loose [] u w iY mg h b.heap->v w b.heap->
   b.heap.get? e=aa o->o.data=.func (docDef d.name d.params d.body d.scope pm cd doc)->b.heap.CodeRec cd d.name->mg d.name=aa (.ref e)->
   b.heap.get? a=aa {cls:=.type "list",data:=.seq c.toArray}->aki c ns->ns.length<=n->b.gens=#[]->
   codeAny (model l.prog w) ajE (.call (.ref e) ⟨[.ref a],[]⟩) (λr g=>r=.ok (.ret (.bool ag))/\OldK b.heap g.heap/\g.os=b.os/\fN g.gens) b):
  WalkO q loose u v l.row.toRowW d [] (λf c=>PySem.call f c):=by intro w iY b mg h G Y e o pm cd doc z kV A hd B x i C args vals as j E H m I;obtain rfl:z=.none:=Dflts.none x y;obtain rfl:kV=.none:=Dflts.noKw x;obtain⟨a,c,ns,rfl,rfl,p,J,L⟩:=Vm hn j m;refine enter_call (fq (call w iY b mg h e o pm cd doc a c ns G Y A (fd_plain hd) B i p J L C) λr g M=>?_);obtain⟨rfl,N,O,Q⟩:=M;exact⟨.inl ⟨.bool ag,.bool ag,[],rfl,λ_=>rfl,.bool ag,Vn l _,λ_=>⟨ai4,λ_ hm=>(nomatch hm)⟩⟩,N,O,Q⟩
section
variable {prog:ba} {w:bI} {A:bv} {E:ae->aq->Prop} {s:aq} {K:Frag}
end
end Att
section
open PySem PySem.Spec PyProof.Rows
namespace L2
theorem KZ:∀{a:List ae} {ns:List Int},aki a ns->Vals (ns.map V.int) a
 |_,_,.nil=>.nil
 |_,_,.cons n t h=>.cons ⟨t,rfl⟩ (KZ h)
abbrev KOf{K:bz}{h:az}(_:K.In h):bz:=K
noncomputable def i6(s:bL)(j:Nat):bL:=match s with
 |.ClassDef _ _ _ body _ _ _ _ _ _ _=>body.getD j (.Pass ⟨0,0,0,0⟩)
 |_=>.Pass ⟨0,0,0,0⟩
noncomputable def lr(s:bL):ajp:=match s with
 |.FunctionDef _ a _ _ _ _ _ _ _ _=>a
 |_=>{posonlyargs:=[],args:=[],vararg:=ao,kwonlyargs:=[],kw_defaults:=[],kwarg:=ao,defaults:=[]}
noncomputable def i7(s:bL):List bL:=match s with
 |.FunctionDef _ _ b _ _ _ _ _ _ _=>b
 |_=>[]
noncomputable def iA(s:bL):df:=match s with
 |.FunctionDef _ _ _ _ _ _ sc _ _ _=>sc
 |_=>{kind:=.function,names:=[],isGenerator:=ar,isCoroutine:=ar}
abbrev p8:CXT:=λ_ _ _ _ _ _=>False
abbrev E0:XK:=λ_ _ _=>False
theorem K0{X:Cx}:C4 p8 X E0:=λ_ _ _ _ _ _ _ h=>h.elim
structure nw(K:bz)(x qual:ay)(st:bL)(f:ak)(fd:cK):Prop where
 ex:∃(oc:ae) (od:Option ak) (kV doc pm:ae) (an:Option ak) (iC ct:ae) (TJ:Array (Option ae)),
  fd=dt x qual (lr st) (i7 st) (iA st) .none kV doc pm an iC ct/\K.lookup f=aa ⟨oc,od,.func fd,TJ⟩/\W.codeIn K iC qual=ag
 kp:dy K (.ref f)=ag
section
variable {P:ba} {w:bI} {K:bz} {mg:ay->Option ae} {cv:az}
theorem nw.ok{x qual:ay}{st:bL}{f:ak}{fd:cK}{N b:List ay}{k:Nat}{sp:Sp}(F:nw K x qual st f fd)(S:gU N b (iA st))(len:∀a H Q E,sp a H Q E->a.length=b.length)
(e:∀(iC:ae) (A:bv) (dk:List ajk) (s:aq) (H:Hp) (a:List V) (Q:VK) (E:XK),jU k (A.deeper (d7 qual (iA st) s.heap.objs.size f iC))->sp a H Q E->
   ∃t,Jo (vC p8 P w K mg cv N qual (iA st) f iC A dk s H E).KI (i7 st) t/\t {nx:=λ_ g=>Q .non g,rt:=Q} (start N a) H):ke P w K mg cv p8 (k+1) f fd b sp:=by obtain⟨oc,od,kV,doc,pm,an,iC,ct,TJ,rfl,lk,i⟩:=F.ex;refine acB lk i S len λA dk s H a Q E j c=>?_;obtain⟨t,h,q⟩:=e iC A dk s H a Q E j c;exact⟨t,h.KI,q⟩
theorem nw.binds{x qual:ay}{st:bL}{f:ak}{fd:cK}{a:List ay}(F:nw K x qual st f fd)
(h:∀(kV doc pm:ae) (an:Option ak) (iC ct:ae) (us:List ae),us.length=a.length->dY (dt x qual (lr st) (i7 st) (iA st) .none kV doc pm an iC ct) ⟨us,[]⟩=pure (a.zip us)):Binds K fd a []:=by obtain⟨oc,od,kV,doc,pm,an,iC,ct,TJ,rfl,lk,b⟩:=F.ex;exact .all (h kV doc pm an iC ct)
theorem XD{x qual:ay}{st:bL}{f:ak}{oc:ae}{od an:Option ak}{TJ:Array (Option ae)}{kV doc pm iC ct:ae}(l:K.lookup f=aa ⟨oc,od,.func (dt x qual (lr st) (i7 st) (iA st) .none kV doc pm an iC ct),TJ⟩)
(c:W.codeIn K iC qual=ag)(k:dy K (.ref f)=ag):nw K x qual st f (dt x qual (lr st) (i7 st) (iA st) .none kV doc pm an iC ct):=⟨⟨oc,od,kV,doc,pm,an,iC,ct,TJ,rfl,l,c⟩,k⟩
end
theorem ig{A:bv}{k:Nat}(a:jU k A):A.units+1<gg:=bM (Nat.add_le_add_left (by decide:1<=64) _) a.units
section
variable {X:Cx}
end
def jV (H a:Hp):Prop:=∀b o,H b=aa o->a b=aa o
theorem jV.refl(H:Hp):jV H H:=λ_ _ h=>h
theorem jV.trans{H H1 e:Hp}(a:jV H H1)(b:jV H1 e):jV H e:=λc o h=>b c o (a c o h)
section
variable {κ:Type} [DecidableEq κ]
end
end L2
namespace L2
noncomputable def E7(env:ajk):List (ay×cE)->List (ay×ak)->List (ay×ak)
 |[],acc=>acc
 | (n,k)::r,acc=>E7 env r (if(k==dw)=ag then(n,(env.cells.lookup n).getD 0)::acc else acc)
theorem zQ{scope:df}{env:ajk}(h:∀x∈scope.names,x.2=.free->∃c,env.cells.lookup x.1=aa c):ajw scope env=pure (E7 env scope.names []):=by
 unfold ajw;generalize ([]:List (ay×ak))=acc;generalize scope.names=l at h;induction l generalizing acc with
 |nil=>rfl
 |cons x r b=>
  obtain⟨n,k⟩:=x;have b:=λa=>b a λy i=>h y (aH _ i);simp only [List.forIn_cons,E7];by_cases f:k=.free
  .obtain⟨c,g⟩:=h (n,k) av f;subst f;have e:cellOf env n=pure c:=by unfold cellOf;simp only at g;rw[g]
   simp only [beq_self_eq_true,if_true,e,g,Option.getD_some];exact b ((n,c)::acc)
  .have:(k==dw)=ar:=by simpa using f
   simp only [this,c5,if_false];exact b acc
theorem Oo{env:ajk}{y:ay}{c:ak}:∀(l:List (ay×cE)) (acc:List (ay×ak)),(∀z d,acc.lookup z=aa d->env.cells.lookup z=aa d)->(∀x∈l,x.2=.free->∃c,env.cells.lookup x.1=aa c)->
  (E7 env l acc).lookup y=aa c->env.cells.lookup y=aa c
 |[],acc,ha,_,e=>ha y c e
 | (n,k)::r,acc,ha,h,e=>by
  unfold E7 at e;refine Oo r _ ?_ (λx i=>h x (aH _ i)) e;intro z d a;split at a
  .rename_i g;have g:k=.free:=by simpa using g
   obtain⟨j,b⟩:=h (n,k) av g;simp only at b;rw[dn,b] at a;by_cases f:z=n
   .subst f;simp only [beq_self_eq_true,Option.getD_some] at a;rw[b];exact a
   .have:(z==n)=ar:=by simpa using f
    rw[this] at a;exact ha z d a
  .exact ha z d a
theorem Gi{env:ajk}{y:ay}:∀(l:List (ay×cE)) (acc:List (ay×ak)),((∃c,acc.lookup y=aa c)\/(y,dw)∈l)->∃c,(E7 env l acc).lookup y=aa c
 |[],acc,h=>h.elim (λx=>x) λx=>by cases x
 | (n,k)::r,acc,h=>by
  unfold E7;refine Gi r _ ?_;rcases h with⟨c,a⟩|h
  .left;split
   .rw[dn];split
    .exact⟨_,rfl⟩
    .exact⟨c,a⟩
   .exact⟨c,a⟩
  .rcases aO.mp h with h|h
   .cases h;left;simp
   .exact .inr h
noncomputable def CW(X:Cx)(scope:df)(N:List ay)(C:ak)(ex:List ak)(cq:List (ak×cm))(iY:aq)(jG:Hp)(E:ae->aq->Prop):Cx where
 prog:=X.prog
 w:=X.w
 K:=X.K
 mg:=X.mg
 cv:=X.cv
 A:=X.A
 N:=N
 iY:=iY
 jG:=jG
 env:=compEnvC scope (E7 X.env scope.names []) C X.env
 dk:=X.stack
 stack:=X.stack
 ex:=ex
 fn:=λ_=>ar
 calm:=X.calm
 pn:=X.pn++cq
 xe:=E
noncomputable def slots(fr:List (Option Nat))(σ:St):St:=fr.map λo=>match o with
 |none=>ao
 |some j=>(σ[j]?).getD ao
noncomputable def TU(a N:List ay)(fr:List (Option Nat))(scope jp:df):Bool:=
 (N.zip fr).all (λp=>match p.2 with
  |none=>ag
  |some j=>decide (a[j]?=aa p.1)&&decide (scope.names.lookup p.1=aa .free))&&
 scope.names.all (λx=>x.2!=.cell&&(x.2!=.free||(jp.names.lookup x.1==aa .cell||jp.names.lookup x.1==aa .free))&&(x.2!=.local||decide (scope.names.lookup x.1=aa .local)))&&
 decide (fr.length=N.length)&&(scope.kind==.function)
structure iW(X:Cx)(N:List ay)(fr:List (Option Nat))(scope:df):Prop where
 cell:∀y∈scope.names,y.2≠.cell
 free:∀y∈scope.names,y.2=.free->X.env.kindOf y.1=aa .cell\/X.env.kindOf y.1=aa .free
 loc:∀y∈scope.names,y.2=.local->scope.names.lookup y.1=aa .local
 slot:∀(i j:Nat) (x:ay),N[i]?=aa x->fr[i]?=aa (aa j)->X.N[j]?=aa x/\scope.names.lookup x=aa .free
 len:fr.length=N.length
 kind:scope.kind=.function
theorem iW.of{X:Cx}{N pb:List ay}{fr:List (Option Nat)}{scope jp:df}(h:TU pb N fr scope jp=ag)(c:X.N=pb:=by rfl)(e:X.env.scope.names=jp.names:=by rfl):iW X N fr scope:=by
 unfold TU at h;simp only [aQ,decide_eq_true_eq,bF,beq_iff_eq] at h;obtain⟨⟨⟨f,b⟩,g⟩,m⟩:=h;refine⟨λy a=>?_,λy a n=>?_,λy a o=>?_,λi j x p q=>?_,g,m⟩
 .have:=(b y a).1.1;simpa using this
 .have:=(b y a).1.2;unfold ajk.kindOf;rw[e];simpa[n] using this
 .have:=(b y a).2;simpa[o] using this
 .have hm:(x,aa j)∈N.zip fr:=by refine aV (i:=i) ?_;rw[f6];exact⟨p,q⟩
  have:=f _ hm;rw[c];simpa using this
theorem Vo{fr:List (Option Nat)}{σ:St}{i:Nat}{v:V}(h:(slots fr σ)[i]?=aa (aa v)):∃j:Nat,fr[i]?=aa (aa j)/\σ[j]?=aa (aa v):=by
 unfold slots at h;rw[aS] at h;cases e:fr[i]? with
 |none=>rw[e] at h;cases h
 |some o=>
  rw[e] at h;cases o with
  |none=>cases h
  |some j=>
   refine⟨j,rfl,?_⟩;have a:(σ[j]?).getD ao=aa v:=by simpa using h
   cases b:σ[j]? with
   |none=>rw[b] at a;cases a
   |some q=>rw[b] at a;simp at a;rw[a]
theorem vH{scope:df}{env:ajk}:∀{l:List (ay×cE)} {x:ay} {k:cE},
  (l.map λ(n,k)=>if(k==dw&&env.scope.kind==.function&&env.kindOf n==aa .cell) then(n,aja) else(n,k)).lookup x=aa k->
  ∃k',(x,k')∈l/\l.lookup x=aa k'/\(k=k'\/(k'=.free/\k=.cell))
 |[],x,k,h=>by cases h
 | (n,a)::r,x,k,h=>by
  simp only [aZ] at h;by_cases b:x=n
  .subst b;refine⟨a,av,by simp,?_⟩;split at h
   .rename_i c;simp at h;have:a=.free:=by simp at c;exact c.1.1
    exact .inr ⟨this,h.symm⟩
   .simp at h;exact .inl h.symm
  .have e:(x==n)=ar:=by simpa using b
   have f:(r.map λ(n,k)=>if(k==dw&&env.scope.kind==.function&&env.kindOf n==aa .cell) then(n,aja) else(n,k)).lookup x=aa k:=by split at h<;>(rw[dn,e] at h;exact h)
   obtain⟨k',m,g,q⟩:=vH (scope:=scope) f;exact⟨k',aH _ m,by rw[dn,e];exact g,q⟩
theorem Ev{env:ajk}:∀{l:List (ay×cE)} {x:ay},l.lookup x=aa .free->
  (l.map λ(n,k)=>if(k==dw&&env.scope.kind==.function&&env.kindOf n==aa .cell) then(n,aja) else(n,k)).lookup x=aa .cell\/
  (l.map λ(n,k)=>if(k==dw&&env.scope.kind==.function&&env.kindOf n==aa .cell) then(n,aja) else(n,k)).lookup x=aa .free
 |[],x,h=>by cases h
 | (n,c)::r,x,h=>by
  simp only [aZ];by_cases a:x=n
  .subst a;simp at h;subst h;split
   .left;simp
   .right;simp
  .have b:(x==n)=ar:=by simpa using a
   rw[dn,b] at h;have:=Ev (env:=env) h;split<;>(rw[dn,b];exact this)
section
variable {X:Cx} {cq:List (ak×cm)} {σ:St} {H:Hp} {s:aq} {N:List ay} {fr:List (Option Nat)} {scope:df} {fp:List ak} {E:ae->aq->Prop}
theorem Inv.XE(I:Inv X cq σ H s)(c:iW X N fr scope):∀x∈scope.names,x.2=.free->∃c,X.env.cells.lookup x.1=aa c:=λx a b=>I.ok.has x.1 (c.free x a b)
theorem Inv.acE(I:Inv X cq σ H s)(c:iW X N fr scope){y:ay}{a:ak}(h:(E7 X.env scope.names []).lookup y=aa a):X.env.cells.lookup y=aa a:=
 Oo scope.names [] (λ_ _ e=>by cases e) (I.XE c) h
theorem Inv.block(I:Inv X cq σ H s)(c:iW X N fr scope)(B:∀b∈fp,vz X cq H b)(O:∀b∈fp,b<s.heap.objs.size){Q:az}{m:ay->Option ae}{t':Nat}(hn:Q.Ns s.heap.objs.size m)(C:∀b o,s.heap.get? b=aa o->Q.get? b=aa o):
  Inv (CW X scope N s.heap.objs.size fp cq s H E) [] (slots fr σ) H {s with heap:=Q,toks:=t'}:=by
 have g:∀y a,(E7 X.env scope.names []).lookup y=aa a->X.env.cells.lookup y=aa a:=λy a=>I.acE c;have aie:∀y a,X.env.cells.lookup y=aa a->a<s.heap.objs.size:=λy a e=>by obtain⟨v,q⟩:=I.cell y a e;exact q.lt
 refine⟨⟨I.ok.mod,c.kind,I.ok.glob,I.ok.blt,aM _,λx y a h1 h2=>I.ok.inj x y a (g x a h1) (g y a h2),λx hx=>?_,λx a B=>(by cases B),I.ok.hd,I.ok.frames,.inl rfl,λb A=>?_,I.bs,bG I.ok.W5 I.sz,λb o e A=>?_,λb A=>?_,I.stack,I.Tu⟩,
  rfl,I.bare,Un.kept C,⟨m,hn,λi x v e1 e2 e3=>?_⟩,λx a e=>?_,I.jo.fresh (aM _),λx a e=>I.wS x a (g x a e),λp hp=>?_,I.jo.kept C,?_⟩
 .have T:(relabel scope X.env).names.lookup x=aa .cell\/(relabel scope X.env).names.lookup x=aa .free:=hx;have:(x,dw)∈scope.names:=by
   rcases T with h|h
   .obtain⟨k',M,_,q⟩:=vH (scope:=scope) h;rcases q with q|q
    .subst q;exact absurd rfl (c.cell _ M)
    .rw[<-q.1];exact M
   .obtain⟨k',M,_,q⟩:=vH (scope:=scope) h;rcases q with q|q
    .subst q;exact M
    .cases q.2
  exact Gi scope.names [] (.inr this)
 .obtain⟨f0,G,J,f,U,f5⟩:=B b A;exact⟨bf (O b A),λx a e=>U x a (g x a e)⟩
 .obtain⟨f0,G,J,f,U,f5⟩:=B b A;rcases f with f|f
  .exact I.ok.U8 b o e f
  .exact absurd (bB (aN e) (bG I.ok.W5 f)) (dN _)
 .obtain⟨f0,G,J,f,U,f5⟩:=B b A;intro z;rcases aO.mp (I.Ag b z) with z|z
  .exact G z
  .exact J z
 .obtain⟨j,G,J⟩:=Vo e2;obtain⟨g1,Y⟩:=c.slot i j x e1 G;have L:X.env.kindOf x=aa .cell\/X.env.kindOf x=aa .free:=c.free (x,.free) (PySem.mem_of_lookup Y) rfl;have zC:Vis X.env.scope x:=.inr L;obtain⟨m0,_,hl⟩:=I.loc;obtain⟨u,r,lk⟩:=hl j x v g1 J zC;refine⟨u,r,.inr ⟨Ev Y,?_⟩⟩;obtain⟨a,ha⟩:=Gi (env:=X.env) (y:=x) scope.names [] (.inr (PySem.mem_of_lookup Y));refine⟨a,ha,?_⟩;have ha':=g x a ha;rcases lk with⟨q,_⟩|⟨_,a',e',z⟩
  .rcases L with w|w<;>(rw[q] at w;cases w)
  .rw[ha'] at e';cases e';obtain⟨o,ho,hd⟩:=z;exact⟨o,C _ o ho,hd⟩
 .obtain⟨v,o,ho,hd⟩:=I.cell x a (g x a e);exact⟨v,o,C _ o ho,hd⟩
 .rw[aR] at hp;obtain⟨e,n,ne,nf,d⟩:=I.pin p hp;refine⟨C _ _ e,n,bf (aN e),λz=>?_,d⟩;rcases aO.mp (I.Ag p.1 z) with z|z
  .exact ne z
  .exact nf z
 .unfold slots;rw[ai];exact c.len
theorem Inv.unblock{a:aq}{e:St}{c:Hp}{f:List (ak×cm)}{C:ak}(I:Inv X cq σ H s)(g:∀b∈fp,vz X cq H b)(J:Inv (CW X scope N C fp cq s H E) f e c a):Inv X cq σ c a:=
 I.W7 (ch:=fp) J.os J.cv J.jo J.bare λb h=>by obtain⟨o,i,p,j,m,n⟩:=g b h;exact⟨j,i,m,n⟩
end
theorem xB{prog:ba}{w:bI}{A:bv}{R:ake->aq->Prop}{s:aq}{elt target iter:bC}{ifs:List bC}{scope:df}{pos:d8}{it acc:ae}{env:ajk}(I:Nat->aq->Prop)
(turn:∀n s,I n s->wpAny (model prog w) A (pyNext it) (λr j=>match r with
   |none=>R (.ok .next) j
   |some v=>wpAny (model prog w) A (letOwnedTupleGo target it v) (λ_ f=>wpAny (model prog w) A (assign target env v) (λ_ q=>
     wpAny (model prog w) A (forIn ifs ag λc r=>if r=ag then do let ok<-akc c env (eval c env);pure (f8 ok) else pure (f8 r)) (λok o=>
      if ok=ag then wpAny (model prog w) A (eval elt env) (λx g=>
       wpAny (model prog w) A (call (.builtin "list.append") [acc,x]) (λ_ i=>∃m,m<n/\I m i) (ajQ (model prog w) A env λe a=>R (.error e) a) g) (ajQ (model prog w) A env λe a=>R (.error e) a) o
      else∃m,m<n/\I m o) (ajQ (model prog w) A env λe a=>R (.error e) a) q) (ajQ (model prog w) A env λe a=>R (.error e) a) f) (ajQ (model prog w) A env λe a=>R (.error e) a) j) (ajQ (model prog w) A env λe a=>R (.error e) a) s)
(n:Nat)(h:I n s):
  codeAny (model prog w) A (.compLoop (.ListComp elt [⟨target,iter,ifs,0⟩] scope pos) 0 it acc env) R s:=by
 refine codeAny_loop rfl I (λn s z=>?_) n h;show wpAny _ A ((compTurn (.ListComp elt [⟨target,iter,ifs,0⟩] scope pos) 0 it acc env).onRaise (λx=>do noteFrame x env;theTreesLotGoes x)) _ _ s;refine wpAny_noted ?_;rw[compTurn_list];refine ah (ai1 (ah (cw (turn n s z) (λr j u=>?_) λ_ _ b=>b)));cases r with
 |none=>exact aw u
 |some v=>
  refine ah (cw u (λ_ f p=>?_) λ_ _ b=>b);refine ah (cw p (λ_ q B=>ah (cw B (λok o y=>?_) λ_ _ b=>b)) λ_ _ b=>b);cases ok with
  |false=>exact aw ⟨rfl,y⟩
  |true=>
   exact ah (ah (cw y (λx g C=>ah (cw C (λ_ i E=>aw (aw ⟨rfl,E⟩)) λ_ _ b=>b)) λ_ _ b=>b))
def PIf (X:Cx)(ifs:List bC)(t:TT):Prop:=
 ∀(cq:List (ak×cm)) (s:aq) (σ:St) (H:Hp) (Q:Bool->Hp->Prop),Inv X cq σ H s->t σ H Q->
  wpAny (model X.prog X.w) X.A (forIn ifs ag λc r=>if r=ag then do let ok<-akc c X.env (eval c X.env);pure (f8 ok) else pure (f8 r)) (TP X cq σ Q) X.xe s
def aif:TT:=λ_ H Q=>Q ag H
theorem aa6{X:Cx}:PIf X [] aif:=λ_ _ _ H _ I h=>wpAny_tests_nil ⟨H,I,h⟩
theorem aa7{X:Cx}{c:bC}{t:TT}(h:PT X c t):PIf X [c] t:=λcq s σ H Q I q=>wpAny_tests_one (h cq s σ H Q I q)
def TV (fr:List (Option Nat))(wi:TI)(g:TG)(tt:TT)(q:TE):TE:=λσ H Q=>wi σ H λJ H1=>∀p,H1 p=ao->
 ∃W:Nat->Nat->List V->St->Hp->Prop,(∃m,W 0 m [] (slots fr σ) (upd H1 p (.lst [])))/\∀i m a σ H,W i m a σ H->
   (J.stop i H/\Q (.ref p) H)\/(J.go i H/\∃N:List V->St->Hp->Prop,(∀c h e,N c h e->∃j,j<m/\W (i+1) j c h e)/\
   ∀x e,J.yld i H x e->g x σ e λf r=>tt f r λb n=>if b=ag then q f n λv o=>o p=aa (.lst a)/\a.length<aC/\N (a++[v]) f (upd o p (.lst (a++[v]))) else N a f n)
section
variable {X:Cx} {N:List ay} {fr:List (Option Nat)} {scope:df} {elt target iter:bC} {ifs:List bC} {wi:TI} {g:TG} {tt:TT} {te:TE} {pos:d8}
theorem K1(c:iW X N fr scope)(sZ:X.calm=ag)(hi:PI X target iter wi)
(hg:∀C ex cq iY jG,PG (CW X scope N C ex cq iY jG λ_ _=>False) target g)
(ht:∀C ex cq iY jG,PIf (CW X scope N C ex cq iY jG λ_ _=>False) ifs tt)
(he:∀C ex cq iY jG,PE (CW X scope N C ex cq iY jG λ_ _=>False) elt te)
{cq:List (ak×cm)}{s:aq}{σ:St}{H:Hp}{Q:VK}{R:ae->ak->ake->aq->Prop}(I:Inv X cq σ H s)(h:TV fr wi g tt te σ H Q)
(k9:∀p C m s' j,Inv X cq σ j s'->vz X cq j C->s'.heap.Ns C m->Q (.ref p) j->R (.ref p) C (.ok .next) s'):
  wpAny (model X.prog X.w) X.A (eval iter X.env) (λx jE=>wpAny (model X.prog X.w) X.A (ajv x) (λit N7=>wpAny (model X.prog X.w) X.A (newList []) (λacc F4=>
   wpAny (model X.prog X.w) X.A (newFunctionEnv scope X.env.globals (E7 X.env scope.names []) [] X.env.qual ao .none (aa X.env)) (λaga aa5=>
    codeAny (model X.prog X.w) X.A (.compStart (.ListComp elt [⟨target,iter,ifs,0⟩] scope pos) 0 it acc {aga with scope:=relabel scope X.env}) (R acc aga.locals) aa5) X.xe F4) X.xe N7) X.xe jE) X.xe s:=by
 refine kq (hi cq s σ H _ I h) λv s1 h1=>kq h1 λitv s2 h2=>?_;obtain⟨it,B,tn,J,L,e,I2,T,st2,f2,h2⟩:=h2;subst e;have agb:∀b∈B,b<s2.heap.objs.size:=λb f=>by obtain⟨o,e,_⟩:=T.obj _ _ st2 b f;exact aN e
 have hp0:L s2.heap.objs.size=ao:=I2.fresh;obtain⟨W,⟨m0,w0⟩,turn⟩:=h2 _ hp0;refine di ?_;generalize hs3:({s2 with heap:=s2.heap.push {cls:=.type "list",dict:=ao,data:=.seq ([]:List ae).toArray}}:aq)=s3;have aec:s3={s2 with heap:=s2.heap.push {cls:=.type "list",data:=.seq ([]:List ae).toArray},toks:=s2.toks}:=hs3.symm;have I3:Inv X cq σ (upd L s2.heap.objs.size (.lst [])) s3:=by rw[aec];exact I2.ad6 .nil (bi _)
 have sz3:s3.heap.objs.size=s2.heap.objs.size+1:=by rw[aec];exact bZ ..
 have nep:∀b∈B,b≠s2.heap.objs.size:=λb f=>bf (agb b f);have f3:∀b∈B,vz X cq (upd L s2.heap.objs.size (.lst [])) b:=λb f=>⟨by rw[g9 (nep b f)];exact(f2 b f).1,(f2 b f).2⟩;have st3:tn 0 s3.heap:=T.keep _ _ _ st2 λb f o e=>by rw[aec];exact aj _ e
 refine wpAny_newFunctionEnv c.cell (by intro y hy;simp at hy) (λh4 hn4 agc=>?_) c.kind;try dsimp only at hn4 agc |-
 have k4:∀b o,s3.heap.get? b=aa o->h4.get? b=aa o:=λb o e=>agc.extBut b o (bf (aN e)) (aj _ e);have acG:∀b∈B,b<s3.heap.objs.size:=λb f=>by rw[sz3];exact cU (agb b f)
 have I4:Inv (CW X scope N s3.heap.objs.size B cq s3 (upd L s2.heap.objs.size (.lst [])) λ_ _=>False) [] (slots fr σ) (upd L s2.heap.objs.size (.lst [])) {s3 with heap:=h4,toks:=s3.toks+([]:List (ay×ae)).length}:=I3.block c f3 acG hn4 k4;have st4:tn 0 h4:=T.keep _ _ _ st3 λb f o e=>k4 b o e;have Q4:∀{j:Hp},(∀b∈B,j b=ao)->∀b∈B,vz (CW X scope N s3.heap.objs.size B cq s3 (upd L s2.heap.objs.size (.lst [])) λ_ _=>False) [] j b:=λ{j} hn b f=>by
  obtain⟨g0,g1,g2,g3,g4,g5⟩:=f3 b f;refine⟨hn b f,bf (acG b f),λz=>?_,.inl f,λx a e=>g4 x a (I3.acE c e),λp hp=>?_⟩
  .rcases aO.mp (I3.Ag b z) with z|z
   .exact g1 z
   .exact g2 z
  .rw[aR] at hp;exact g5 p hp
 have loop:∀s5:aq,s5={s3 with heap:=h4,toks:=s3.toks+([]:List (ay×ae)).length}->codeAny (model X.prog X.w) X.A (.compLoop (.ListComp elt [⟨target,iter,ifs,0⟩] scope pos) 0 (.ref it) (.ref s2.heap.objs.size) (compEnvC scope (E7 X.env scope.names []) s3.heap.objs.size X.env)) (R (.ref s2.heap.objs.size) s3.heap.objs.size) s5:=by
  rintro s5 rfl
  refine xB (λn s'=>∃i ys lY j,Inv (CW X scope N s3.heap.objs.size B cq s3 (upd L s2.heap.objs.size (.lst [])) λ_ _=>False) [] lY j s'/\tn i s'.heap/\(∀b∈B,j b=ao)/\W i n ys lY j) ?_ m0
   ⟨0,[],slots fr σ,_,I4,st4,λb f=>(f3 b f).1,w0⟩
  rintro n s6 ⟨i,ys,O,H6,I6,st6,fr6,w6⟩
  rcases turn i n ys O H6 w6 with⟨stop,q⟩|⟨go,Nx,hN,step⟩
  .refine kq (T.done (CW X scope N s3.heap.objs.size B cq s3 (upd L s2.heap.objs.size (.lst [])) λ_ _=>False) rfl rfl rfl sZ i [] s6 O H6 _ I6 (Q4 fr6) st6 stop) λr s7 zq=>?_;obtain⟨hr,I7⟩:=zq;subst hr;obtain⟨m7,n7,_⟩:=I7.loc;exact k9 _ _ m7 s7 H6 (I3.unblock f3 I7) (I3.Xf (aM _) I7.free) n7 q
  .refine kq (T.item (CW X scope N s3.heap.objs.size B cq s3 (upd L s2.heap.objs.size (.lst [])) λ_ _=>False) rfl rfl rfl sZ i [] s6 O H6 _ I6 (Q4 fr6) st6 go) λr s7 zq=>?_;obtain⟨u,hr,h7⟩:=zq;subst hr;refine kq h7 λ_ s8 zq=>?_;obtain⟨x,H8,I8,r8,y8,st8,fr8⟩:=zq;have I8':=I8.pinned (Q4 fr8) (T.obj _ _ st8);refine cw (hg _ _ _ _ _ _ s8 O H8 x u _ I8' r8 (step x H8 y8)) (λ_ s9 ⟨U,H9,I9,q9⟩=>?_) λ_ _ z=>cy z;refine cw (ht _ _ _ _ _ _ s9 U H9 _ I9 q9) (λb s10 ⟨H10,I10,Y⟩=>?_) λ_ _ z=>cy z;have again:∀{E:aq} {aa8:St} {G:Hp} {ys':List V},Inv (CW X scope N s3.heap.objs.size B cq s3 (upd L s2.heap.objs.size (.lst [])) λ_ _=>False) ([]++F5 B s8.heap) aa8 G E->Nx ys' aa8 G->∃m,m<n/\∃i ys lY j,Inv (CW X scope N s3.heap.objs.size B cq s3 (upd L s2.heap.objs.size (.lst [])) λ_ _=>False) [] lY j E/\tn i E.heap/\(∀b∈B,j b=ao)/\W i m ys lY j:=λ{E aa8 G ys'} M n11=>by obtain⟨m',hm,w11⟩:=hN _ _ _ n11;refine⟨m',hm,i+1,ys',aa8,G,M.Bc,T.keep _ _ _ st8 λb f o e=>(M.pin (b,o) (bw _ (bw _ (vB f e)))).1,λb f=>?_,w11⟩;obtain⟨o,e,d⟩:=T.obj _ _ st8 b f;exact(M.pin (b,o) (bw _ (bw _ (vB f e)))).2.1
   cases b with
   |false=>
    rw[if_neg ax] at Y |-;exact again I10 Y
   |true=>
    rw[if_pos rfl] at Y |-;refine cw (he _ _ _ _ _ _ s10 U H10 _ I10 Y) (λu11 E ⟨x11,G,M,r11,aig,aih,q11⟩=>?_) λ_ _ z=>cy z;refine cw (KY (X:=CW X scope N s3.heap.objs.size B cq s3 (upd L s2.heap.objs.size (.lst [])) λ_ _=>False) _ E U G (.ref s2.heap.objs.size) [x11] (.ref s2.heap.objs.size) [u11] (λ_ j=>Nx (ys++[x11]) U j) M rfl (.cons r11 .nil) ⟨_,ys,x11,rfl,rfl,aig,aih,q11⟩) (λ_ s12 ⟨_,H12,I12,_,q12⟩=>?_) λ_ _ z=>cy z;exact again I12 q12
 exact codeAny_compStart_list (loop _ rfl) (T.self X.A 0 _ _ _ st4 (loop _ rfl))
theorem Inv.acH{cq:List (ak×cm)}{s:aq}{σ:St}{H:Hp}{C:ak}{a:az}(I:Inv X cq σ H s)(f:vz X cq H C)(c:bJ C s.heap a):Inv X cq σ H {s with heap:=a}:=by obtain⟨h,i,q,j,m,n⟩:=f;exact I.turned (t':=s.toks) (λb o p e=>(c.2 b p).trans e) h i j m n
theorem aa9(c:iW X N fr scope)(b:X.calm=ag)(hi:PI X target iter wi)
(e:∀C ex cq iY jG,PG (CW X scope N C ex cq iY jG λ_ _=>False) target g)
(ht:∀C ex cq iY jG,PIf (CW X scope N C ex cq iY jG λ_ _=>False) ifs tt)
(i:∀C ex cq iY jG,PE (CW X scope N C ex cq iY jG λ_ _=>False) elt te)
(j:∀x,dh iter X.env x=pure x:=by intro _;rfl):PE X (.ListComp elt [⟨target,iter,ifs,0⟩] scope pos) (TV fr wi g tt te):=by intro cq s σ H Q I h;rw[eval_ListComp];refine aj2 (use:=ao) rfl j (zQ (I.XE c)) c.kind c.loc (K1 (R:=compPost (model X.prog X.w) X.A X.xe ao (EP X cq σ Q)) c b hi e ht i I h λp C m r n o f hn q=>?_);exact⟨m,hn,λu a=>⟨.ref p,n,o.acH f a,rfl,q⟩⟩
def agd (i:Nat)(te:TE):TS:=λD σ H=>te σ H λv H1=>D.nx (σ.set i (aa v)) H1
theorem TW{i:Nat}{y:ay}{py aba:d8}(c:iW X N fr scope)(u:X.calm=ag)(hi:PI X target iter wi)
(z:∀C ex cq iY jG,PG (CW X scope N C ex cq iY jG λ_ _=>False) target g)
(ht:∀C ex cq iY jG,PIf (CW X scope N C ex cq iY jG λ_ _=>False) ifs tt)
(B:∀C ex cq iY jG,PE (CW X scope N C ex cq iY jG λ_ _=>False) elt te)
(E:X.N.Nodup)(G:X.N[i]?=aa y)(J:Loc X.env.scope y)
(j:eL (.ListComp elt [⟨target,iter,ifs,0⟩] scope pos) (aa (.Name y py)) aba.line X.env=pure ag:=by rfl)(L:X.fn y=ag\/X.env.scope.names.lookup y=aa .local:=by first|exact .inl rfl|exact .inr rfl|assumption)
(M:∀x,dh iter X.env x=pure x:=by intro _;rfl):PS X (.Assign [.Name y py] (.ListComp elt [⟨target,iter,ifs,0⟩] scope pos) aba) (agd i (TV fr wi g tt te)):=by
 intro cq s σ H D I h;rw[exec_Assign_Name_used _ _ _ _ j];refine ah (ai1 (ah ?_));show wpAny _ X.A (do let _<-comprehension (.ListComp elt [⟨target,iter,ifs,0⟩] scope pos) scope X.env _ (newList []) ar (eval iter X.env) (aa (assign (.Name y py) X.env))) _ _ s;refine ah (kq (aj2 (use:=aa (assign (.Name y py) X.env)) (Q:=λ_ b=>SP X cq D .next b) rfl M (zQ (I.XE c)) c.kind c.loc
  (K1 (R:=compPost (model X.prog X.w) X.A X.xe (aa (assign (.Name y py) X.env)) (λ_ b=>SP X cq D .next b)) c u hi z ht B I h λp C m b O T f hn q=>?_)) (λ_ b U=>aw (aw U)))
 show wpAny _ X.A (assign (.Name y py) X.env (.ref p)) _ _ b;refine akF (KD (v:=.ref p) T E G J rfl (λs2 Y n=>?_) L);obtain⟨a,sb,ha⟩:=n;have o:C≠a:=by
  rcases ha with ha|ha
  .rw[ha];exact f.2.1
  .exactλe=>f.2.2.2.2.1 y a ha e.symm
 exact⟨m,hn.sameBut sb o,λh' r=>⟨_,O,Y.acH f r,q⟩⟩
end
noncomputable def Its(x:ay):It:=⟨λi _=>i<x.cps.size,λi H v a=>a=H/\∃c,x.cps[i]?=aa c/\v=.str ⟨#[c]⟩,λi _=>x.cps.size<=i⟩
theorem p9{x:ay}:dO x="str_ascii_iterator"\/dO x="str_iterator":=by
 unfold dO;split
 .exact .inl rfl
 .exact .inr rfl
theorem XF{P:ba}{w:bI}{K:bz}{tg:bC}(it:ak)(x:ay)(t:akr):Turn P w K tg (Its x) [it] it (λi h=>h.IsStrIter it (dO x) x t i/\i<=x.cps.size) where
 mem:=by simp
 obj:=λi h st b a=>by
  have e:b=it:=by simpa using a
  subst e;obtain⟨⟨o,e,c,d⟩,_⟩:=st;exact⟨o,e,λv z=>by rw[d] at z;cases z⟩
 keep:=λi h g st k=>by obtain⟨⟨o,e,c,d⟩,l⟩:=st;exact⟨⟨o,k it (by simp) o e,c,d⟩,l⟩
 item:=by
  intro X L hw M p i cq s σ H E I q st f;subst L hw M;obtain⟨r,y,f2,B,C,G⟩:=q it (by simp);have f:i<x.cps.size:=f;rcases p9 (x:=x) with e|e
  .rw[e] at st |-;have W:=ajR.strAscii (prog:=X.prog) (w:=X.w) (I.ok.hd p) it x t;refine W.item i s _ _ f st.1 λv g j N J m=>?_;obtain⟨c,u,n,rfl⟩:=N;have O:Inv X cq σ H {s with heap:=g,toks:=j}:=I.turned (λb o a e=>m b o (by simpa using a) e) r y B C G;obtain⟨o,T,U,Y⟩:=id J;exact⟨_,rfl,N8 (s:={s with heap:=g,toks:=j}) T U Y (by decide) ⟨.str ⟨#[c]⟩,H,O,⟨u,rfl⟩,⟨rfl,c,n,rfl⟩,⟨J,f⟩,λb a=>(q b a).1⟩⟩
  .rw[e] at st |-;have W:=ajR.strWide (prog:=X.prog) (w:=X.w) (I.ok.hd p) it x t;refine W.item i s _ _ f st.1 λv g j N J m=>?_;obtain⟨c,u,n,rfl⟩:=N;have O:Inv X cq σ H {s with heap:=g,toks:=j}:=I.turned (λb o a e=>m b o (by simpa using a) e) r y B C G;obtain⟨o,T,U,Y⟩:=id J;exact⟨_,rfl,N8 (s:={s with heap:=g,toks:=j}) T U Y (by decide) ⟨.str ⟨#[c]⟩,H,O,⟨u,rfl⟩,⟨rfl,c,n,rfl⟩,⟨J,f⟩,λb a=>(q b a).1⟩⟩
 done:=by
  intro X L hw M p i cq s σ H E I q st f;subst L hw M;obtain⟨r,y,f2,B,C,G⟩:=q it (by simp);have f:x.cps.size<=i:=f;obtain⟨st,l⟩:=st;have hi:i=x.cps.size:=by omega
  subst hi;rcases p9 (x:=x) with e|e
  .rw[e] at st;exact(ajR.strAscii (prog:=X.prog) (w:=X.w) (I.ok.hd p) it x t).done s _ _ st λg j m=>⟨rfl,I.turned (λb o a e=>m b o (by simpa using a) e) r y B C G⟩
  .rw[e] at st;exact(ajR.strWide (prog:=X.prog) (w:=X.w) (I.ok.hd p) it x t).done s _ _ st λg j m=>⟨rfl,I.turned (λb o a e=>m b o (by simpa using a) e) r y B C G⟩
 self:=λA i s Q E st h=>by
  obtain⟨st,l⟩:=st;rcases p9 (x:=x) with e|e
  .rw[e] at st;exact wpAny_pyIter_striter_ascii st h
  .rw[e] at st;exact wpAny_pyIter_striter_wide st h
section
variable {X:Cx} {tg:bC}
theorem XG(m:X.calm=ag):pr X (.builtin "all") (λxs H Q=>∃(a:ak) (bs:List Bool),xs=[V.ref a]/\p7 X.K H a (bs.map V.bl)/\Q (.bl (bs.all id)) H):=by
 intro cq s σ H xs us Q I r h;obtain⟨a,bs,rfl,w,q⟩:=h;obtain⟨u,rfl,c⟩:=vals1 r;cases c;obtain⟨ia,f,p,O⟩:=I.list w;have y:X.A.in1.handled=ao:=I.ok.hd m;refine call_all_walk (dj p.isList ?_);have z:a<s.heap.objs.size:=by obtain⟨o,n,e,_⟩:=p;exact aN e
 have B:ia.length=bs.length:=by have:=f.length;rw[ai] at this;exact this.symm
 have C:∀(i:Nat) (v:ae),ia[i]?=aa v->v=.bool (bs.getD i ar):=λi v e=>by
  have hi:i<ia.length:=(au.mp e).1;have E:(bs.map V.bl)[i]?=aa (V.bl (bs.getD i ar)):=by rw[aS,bu,aJ (by omega)];rfl
  obtain⟨u,g,c⟩:=f.get E;rw[e] at g;cases g;exact c
 refine⟨s.heap.objs.size,_,_,_,_,_,λi=>bs.getD i ar,rfl,ajR.list y s.heap.objs.size a (bf z) ia.toArray,⟨⟨_,aP _ rfl,rfl,rfl⟩,p.isList.push _⟩,λi v T U Y G J=>?_,λh' L M=>?_⟩
 .have:=C i v (by simpa using G);subst this;exact cA J
 .have e:(cB ia.toArray.size).all (λi=>bs.getD i ar)=bs.all id:=by
   rw[aD,B];have key:∀l:List Bool,(cB l.length).all (λi=>l.getD i ar)=l.all id:=by
    intro l;rw[fD];simp only [bF,List.mem_range,id];constructor
    .intro h x N;obtain⟨i,hi,rfl⟩:=aje.mp N;have:=h i hi
     rwa [bu,aJ hi] at this
    .intro h i hi;rw[bu,aJ hi];exact h _ (fb hi)
   exact key bs
  rw[e];refine⟨.bl _,H,I.kept (t':=L) λb o j=>?_,rfl,q⟩;exact M b o (by simpa using bf (aN j)) (aj _ j)
theorem Vr:uF X (compareOp .LtE) (λx y H Q=>∃i j,x=.str i/\y=.str j/\Q (.bl (!decide (j.cps.toList<i.cps.toList))) H):=by intro cq s σ H x y v u Q I a b h;obtain⟨i,j,rfl,rfl,q⟩:=h;obtain⟨t,rfl⟩:=a;obtain⟨c,rfl⟩:=b;exact P.le_str (iR I q rfl)
theorem aed:SlR X (λx lo hi H Q=>∃z,x=.str z/\z.length<=aC/\Q (.str (Txt.slice z lo hi)) H):=by
 intro cq s σ H x v c e lo hi sl Q I f g pl a h;obtain⟨z,rfl,m,q⟩:=h;obtain⟨t,rfl⟩:=f;have key:∀(l u:Option (Int×akr)),partValue l=c->partValue u=e->l.map (·.1)=lo->u.map (·.1)=hi->wpAny (model X.prog X.w) X.A (gA (.str z t) (.ref sl)) (EP X cq σ Q) X.xe s:=by
  rintro l u rfl rfl rfl rfl
  refine wpAny_getItem_str_slice (l:=l) (u:=u) (st:=ao) g rfl (post_val_or_str ⟨bG (Txt.slice_le z _ _) m,λn k=>⟨.str _,H,I.tok k,⟨_,rfl⟩,q⟩⟩)
 refine⟨"str",_,F.slot_str_getitem.lookup,akA _ _ _,?_⟩;cases pl with
 |none=>
  cases a with
  |none=>exact key ao ao rfl rfl rfl rfl
  |int j u=>exact key ao (aa (j,u)) rfl rfl rfl rfl
 |int i b=>
  cases a with
  |none=>exact key (aa (i,b)) ao rfl rfl rfl rfl
  |int j u=>exact key (aa (i,b)) (aa (j,u)) rfl rfl rfl rfl
end
def hG (K:bz)(mg:ay->Option ae)(x:ay)(st:bL):Prop:=∃f fd,nw K x x st f fd/\mg x=aa (.ref f)
def ny (P:ba)(w:bI)(K:bz)(mg:ay->Option ae)(cv:az)(k:Nat)(x:ay)(a:List ay)(sp:Sp):Prop:=
 ∃f fd,mg x=aa (.ref f)/\dy K (.ref f)=ag/\Binds K fd a []/\ke P w K mg cv p8 k f fd a sp
theorem XH{K:bz}{h:az}{mg:ay->Option ae}(X:K.In h)(G:h.Ns aY mg){x:ay}{st:bL}{f:ak}{oc:ae}{od an:Option ak}{TJ:Array (Option ae)}{kV doc pm iC ct:ae}
(a:cP K aY x=aa (aa (.ref f)))(l:K.lookup f=aa ⟨oc,od,.func (dt x x (lr st) (i7 st) (iA st) .none kV doc pm an iC ct),TJ⟩)
(c:W.codeIn K iC x=ag)(k:dy K (.ref f)=ag):hG K mg x st:=⟨f,_,XD l c k,cR X G a⟩
section
variable {P:ba} {w:bI} {K:bz} {mg:ay->Option ae} {cv:az}
theorem hG.has{x:ay}{st:bL}{N a:List ay}{k:Nat}{sp:Sp}(F:hG K mg x st)(S:gU N a (iA st))
(c:∀(kV doc pm:ae) (an:Option ak) (iC ct:ae) (us:List ae),us.length=a.length->dY (dt x x (lr st) (i7 st) (iA st) .none kV doc pm an iC ct) ⟨us,[]⟩=pure (a.zip us))
(len:∀b H Q E,sp b H Q E->b.length=a.length)
(e:∀(f:ak) (iC:ae) (A:bv) (dk:List ajk) (s:aq) (H:Hp) (b:List V) (Q:VK) (E:XK),jU k (A.deeper (d7 x (iA st) s.heap.objs.size f iC))->sp b H Q E->
   ∃t,Jo (vC p8 P w K mg cv N x (iA st) f iC A dk s H E).KI (i7 st) t/\t {nx:=λ_ g=>Q .non g,rt:=Q} (start N b) H):ny P w K mg cv (k+1) x a sp:=by obtain⟨f,fd,F,m⟩:=F;exact⟨f,fd,m,F.kp,F.binds c,F.ok S len (e f)⟩
end
section
variable {X:Cx} {k:Nat} {x:ay} {ps:List ay} {sp:Sp} {p pos:d8} {e:bC} {es:List bC} {t:TA}
theorem age(h:ny X.prog X.w X.K X.mg X.cv k x ps sp)(a:jU k X.A)(ha:PA X (e::es) t)(c:Gl X x:=by rfl)(g:(x==("__debug__":ay))=ar:=by decide)
(i:bc (e::es) X.env=(ar,eval e X.env)::bc es X.env:=by rfl)(j:(c7 pos (bc es X.env)).any (·.1)=ar:=by rfl):
  PE X (.Call (.Name x p) (e::es) [] pos) (TD sp [] E0 t):=by obtain⟨f,fd,m,kp,b,F⟩:=h;exact aaP F a c m kp b .nil K0 ha g i j
theorem aee(h:ny X.prog X.w X.K X.mg X.cv k x ps sp)(a:jU k X.A)(c:Gl X x:=by rfl)(g:(x==("__debug__":ay))=ar:=by decide):PE X (.Call (.Name x p) [] [] pos) (TD sp [] E0 adR):=by obtain⟨f,fd,m,kp,b,F⟩:=h;exact Xn F a c m kp b .nil K0 g
end
theorem Bi{H:Hp}{p:ak}{o:HO}(h:H p=ao):jV H (upd H p o):=λb u e=>by rw[g9 (je e h)];exact e
section
variable {P:ba} {w:bI} {K:bz} {mg:ay->Option ae} {cv:az}
theorem hG.hasB{x:ay}{st:bL}{N a:List ay}{k:Nat}{sp:Sp}{body:List bL}{scope:df}(F:hG K mg x st)(c:i7 st=body)(es:iA st=scope)(S:gU N a scope)
(e:∀(kV doc pm:ae) (an:Option ak) (iC ct:ae) (us:List ae),us.length=a.length->dY (dt x x (lr st) (i7 st) (iA st) .none kV doc pm an iC ct) ⟨us,[]⟩=pure (a.zip us))
(len:∀b H Q E,sp b H Q E->b.length=a.length)
(g:∀(f:ak) (iC:ae) (A:bv) (dk:List ajk) (s:aq) (H:Hp) (b:List V) (Q:VK) (E:XK),jU k (A.deeper (d7 x scope s.heap.objs.size f iC))->sp b H Q E->
   ∃t,Jo (vC p8 P w K mg cv N x scope f iC A dk s H E).KI body t/\t {nx:=λ_ h=>Q .non h,rt:=Q} (start N b) H):ny P w K mg cv (k+1) x a sp:=by subst c es;exact F.has S e len g
end
structure QE(X:Cx)(e:bC)(t:TE):Prop where p:PE X e t
structure QT(X:Cx)(e:bC)(t:TT):Prop where p:PT X e t
structure QW(X:Cx)(e:bC)(t:TT):Prop where p:PW X e t
structure QA(X:Cx)(es:List bC)(t:TA):Prop where p:PA X es t
structure QS(X:Cx)(st:bL)(t:TS):Prop where p:PS X st t
structure QB(X:Cx)(st:List bL)(t:TS):Prop where p:Jo X st t
structure QG(X:Cx)(tg:bC)(g:TG):Prop where p:PG X tg g
structure QGs(X:Cx)(tg:List bC)(g:WP):Prop where p:WQ X tg g
structure QI(X:Cx)(tg iter:bC)(wi:TI):Prop where p:PI X tg iter wi
structure QF(X:Cx)(ifs:List bC)(t:TT):Prop where p:PIf X ifs t
structure QO(X:Cx)(e:Option bC)(t:TO):Prop where p:PO X e t
structure ROp(X:Cx)(op:fj)(r:R2):Prop where p:uF X (binaryOp op) r
structure aiX(X:Cx)(op:ajr)(r:R2):Prop where p:uF X (compareOp op) r
structure RUn(X:Cx)(op:UnaryOp)(r:V->Hp->VK->Prop):Prop where p:UnR X (unaryOp op) r
structure RB(X:Cx)(id:String)(r:List V->Hp->VK->Prop):Prop where p:pr X (.builtin id) r
structure RTy(X:Cx)(T:String)(r:List V->Hp->VK->Prop):Prop where p:pr X (.type T) r
structure RIx(X:Cx)(r:R2):Prop where p:IxR X r
structure RSl(X:Cx)(r:V->Option Int->Option Int->Hp->VK->Prop):Prop where p:SlR X r
structure RMt(X:Cx)(id:String)(r:V->List V->Hp->VK->Prop):Prop where p:MtR X id r
section
variable {X:Cx} {a b c e:bC} {es rest:List bC} {ta tb tc te:TE} {t u:TS} {tA W9:TT} {tt:TA} {pos p p2 p3:d8} {x:ay}
end
section
variable {P:ba} {w:bI} {K:bz} {mg:ay->Option ae} {cv:az}
theorem hG.aef{x:ay}{st:bL}{N b:List ay}{k:Nat}{sp:Sp}{body:List bL}{scope:df}(F:hG K mg x st)(c:i7 st=body)(es:iA st=scope)(S:gU N b scope)
(e:∀(kV doc pm:ae) (an:Option ak) (iC ct:ae) (us:List ae),us.length=b.length->dY (dt x x (lr st) (i7 st) (iA st) .none kV doc pm an iC ct) ⟨us,[]⟩=pure (b.zip us))
(len:∀a H Q E,sp a H Q E->a.length=b.length)
(g:∀(f:ak) (iC:ae) (A:bv) (dk:List ajk) (s:aq) (H:Hp) (a:List V) (Q:VK) (E:XK),jU k (A.deeper (d7 x scope s.heap.objs.size f iC))->sp a H Q E->
   ∃t,QB (vC p8 P w K mg cv N x scope f iC A dk s H E).KI body t/\t {nx:=λ_ i=>Q .non i,rt:=Q} (start N a) H):ny P w K mg cv (k+1) x b sp:=
 F.hasB c es S e len λf iC A dk s H a Q E j h=>let⟨t,q,z⟩:=g f iC A dk s H a Q E j h;⟨t,q.p,z⟩
theorem nw.aeg{x y:ay}{st:bL}{f:ak}{fd:cK}(F:nw K x x st f fd)
(h:∀(kV doc pm:ae) (an:Option ak) (iC ct:ae) (u:ae),dY (dt x x (lr st) (i7 st) (iA st) .none kV doc pm an iC ct) ⟨[u],[]⟩=pure [(y,u)]):∀(s:aq) (v:ae),ajD s fd ⟨[v],[]⟩ [(y,v)]:=by obtain⟨oc,od,kV,doc,pm,an,iC,ct,TJ,rfl,lk,a⟩:=F.ex;exactλs v=>.of_eq (h kV doc pm an iC ct v)
end
open PySem.W
noncomputable def Gk(c:ak)(q:ay):HO:=.ext λh=>h.CodeRec (.ref c) q
structure TX(q:ay)(H:Hp)(ps:Array ae):Prop where
 ok:fH ps.toList
 cs:∀pos v,ajb pos ps.toList=aa v->∃c,v=.ref c/\H c=aa (Gk c q)
def wU (P:ak)(q:ay)(H a:Hp):Prop:=(∃b,a P=aa (.A8 b)/\TX q a b)/\(a=H\/∃c b,H c=ao/\c≠P/\a=upd (upd H c (Gk c q)) P (.A8 b))
end L2
namespace L3
open L2
@[reducible] def zC:Option HO->Option HO
 |some (.A8 _)=>ao
 |some (.ext _)=>ao
 |o=>o
theorem XI{x:Option HO}{o:HO}(h:zC x=aa o):x=aa o/\zC (aa o)=aa o:=by
 cases x with
 |none=>cases h
 |some y=>cases y<;>first|(cases h;done)|(cases h;exact⟨rfl,rfl⟩)
theorem Gm{x:Option HO}(h:zC x≠ao):x≠ao:=λz=>h (by rw[z])
noncomputable def abb:List ay:=["by_name"]
noncomputable def aeh(x:ay):ay:=x++".<locals>."++"<lambda>"
def Tb (K:bz)(H:Hp):Prop:=∀x∈abb,∀c P,W.tabIn K x=aa (c,P)->∃a,H P=aa (.A8 a)/\TX (aeh x) H a
theorem Tb.imp{K:bz}{H a:Hp}(t:Tb K H)(h:∀b o,H b=aa o->zC (aa o)=ao->a b=aa o):Tb K a:=λx f c P e=>by obtain⟨g,i,j,m⟩:=t x f c P e;refine⟨g,h _ _ i rfl,j,λpos v n=>?_⟩;obtain⟨p,q,r⟩:=m pos v n;exact⟨p,q,h _ _ r rfl⟩
theorem Tb.same{K:bz}{H a:Hp}(t:Tb K H)(h:jV H a):Tb K a:=t.imp λb o e _=>h b o e
theorem Tb.upd{K:bz}{H:Hp}{p:ak}{x:HO}(t:Tb K H)(h:zC (H p)≠ao\/H p=ao):Tb K (upd H p x):=t.imp λb o e v=>by
 rw[g9 λz=>?_]
 .exact e
 .subst z;rcases h with h|h
  .rw[e] at h;exact h v
  .rw[h] at e;cases e
inductive D where
 |non|bl (b:Bool)|int (i:Int)|str (x:ay)|ty (n:String)
 |tup (ds:List D)|lst (ds:List D)|kt (ks:List Key) (ds:List D)
 |ins (C:ak) (ns:List ay) (ds:List D)|uI (ns:List Int)|loc (k:Nat)|cls (C:ak)|exc (C:ak) (ns:List ay) (ds:List D)
inductive OD where
 |lst (ds:List D)|kt (ks:List Key) (ds:List D)|ins (C:ak) (ns:List ay) (ds:List D)|fz (k ep:Nat) (ks:List Key) (ds:List D)
abbrev Ms:=List (Option OD)
mutual
def Rep (K:bz) (α:List ak) (H:Hp):D->V->Prop
 |.non,v=>v=.non
 |.bl b,v=>v=.bl b
 |.int i,v=>v=.int i
 |.str x,v=>v=.str x
 |.ty n,v=>v=.ty n
 |.tup ds,v=>∃a c,v=.ref a/\Bb K H a c/\gJ K α H ds c
 |.lst ds,v=>∃a c,v=.ref a/\H a=aa (.lst c)/\gJ K α H ds c
 |.uI ns,v=>∃a,v=.ref a/\p7 K H a (ns.map V.int)
 |.kt e ds,v=>∃a c,v=.ref a/\Rd H a (.dK (e.zip c))/\e.length=ds.length/\gJ K α H ds c
 |.ins C ns ds,v=>∃a f c,v=.ref a/\H a=aa (.ins C f (ns.zip c))/\ns.length=ds.length/\gJ K α H ds c
 |.loc k,v=>∃a,α[k]?=aa a/\v=.ref a
 |.cls C,v=>v=.ref C
 |.exc C ns ds,v=>∃a c,v=.ref a/\H a=aa (.xc C (ns.zip c))/\ns.length=ds.length/\gJ K α H ds c
def gJ (K:bz) (α:List ak) (H:Hp):List D->List V->Prop
 |[],c=>c=[]
 |d::ds,c=>∃v r,c=v::r/\Rep K α H d v/\gJ K α H ds r
end
theorem nL{K:bz}{H b:Hp}{a:ak}{xs:List V}(e:jV H b)(h:Bb K H a xs):Bb K b a xs:=by
 rcases h with(h|⟨o,h⟩)|h
 .exact .inl (.inl (e _ _ h))
 .exact .inl (.inr ⟨o,e _ _ h⟩)
 .exact .inr h
theorem lZ{K:bz}{H b:Hp}{a:ak}{xs:List V}(e:jV H b)(h:p7 K H a xs):p7 K b a xs:=by
 rcases h with(h|⟨o,h⟩)|h
 .exact .inl (.inl (e _ _ h))
 .exact .inl (.inr ⟨o,e _ _ h⟩)
 .exact .inr h
theorem L5{H b:Hp}{a:ak}{u:HO}(e:jV H b)(h:Rd H a u):Rd b a u:=by
 rcases h with h|⟨o,h⟩
 .exact .inl (e _ _ h)
 .exact .inr ⟨o,e _ _ h⟩
theorem yW{α β:List ak}(p:α <+: β){k:Nat}{a:ak}(h:α[k]?=aa a):β[k]?=aa a:=by obtain⟨t,rfl⟩:=p;have:=(au.mp h).1;rw[bA this];exact h
mutual
theorem Rep.mono {K:bz} {α β:List ak} {H c:Hp} (p:α <+: β) (e:jV H c):∀(d:D) (v:V),Rep K α H d v->Rep K β c d v
 |.non,v,h=>by unfold Rep at h |-;exact h
 |.bl _,v,h=>by unfold Rep at h |-;exact h
 |.int _,v,h=>by unfold Rep at h |-;exact h
 |.str _,v,h=>by unfold Rep at h |-;exact h
 |.ty _,v,h=>by unfold Rep at h |-;exact h
 |.tup ds,v,h=>by unfold Rep at h |-;obtain⟨a,b,r,q,z⟩:=h;exact⟨a,b,r,nL e q,gJ.mono p e ds b z⟩
 |.lst ds,v,h=>by unfold Rep at h |-;obtain⟨a,b,r,q,z⟩:=h;exact⟨a,b,r,e _ _ q,gJ.mono p e ds b z⟩
 |.uI ns,v,h=>by unfold Rep at h |-;obtain⟨a,r,q⟩:=h;exact⟨a,r,lZ e q⟩
 |.kt g ds,v,h=>by unfold Rep at h |-;obtain⟨a,b,r,q,l,z⟩:=h;exact⟨a,b,r,L5 e q,l,gJ.mono p e ds b z⟩
 |.ins C ns ds,v,h=>by unfold Rep at h |-;obtain⟨a,f,b,r,q,l,z⟩:=h;exact⟨a,f,b,r,e _ _ q,l,gJ.mono p e ds b z⟩
 |.exc C ns ds,v,h=>by unfold Rep at h |-;obtain⟨a,b,r,q,l,z⟩:=h;exact⟨a,b,r,e _ _ q,l,gJ.mono p e ds b z⟩
 |.loc k,v,h=>by unfold Rep at h |-;obtain⟨a,r,q⟩:=h;exact⟨a,yW p r,q⟩
 |.cls _,v,h=>by unfold Rep at h |-;exact h
theorem gJ.mono {K:bz} {α β:List ak} {H c:Hp} (p:α <+: β) (e:jV H c):∀(ds:List D) (b:List V),gJ K α H ds b->gJ K β c ds b
 |[],b,h=>by unfold gJ at h |-;exact h
 |d::ds,b,h=>by unfold gJ at h |-;obtain⟨v,r,q,z,y⟩:=h;exact⟨v,r,q,Rep.mono p e d v z,gJ.mono p e ds r y⟩
end
section
variable {K:bz} {α:List ak} {H:Hp}
theorem gJ.length:∀(ds:List D) (a:List V),gJ K α H ds a->ds.length=a.length
 |[],a,h=>by unfold gJ at h;rw[h];rfl
 |d::ds,a,h=>by unfold gJ at h;obtain⟨v,r,rfl,_,y⟩:=h;rw[aU,aU,gJ.length ds r y]
theorem gJ.get:∀(ds:List D) (a:List V) (i:Nat) (d:D),gJ K α H ds a->ds[i]?=aa d->∃v,a[i]?=aa v/\Rep K α H d v
 |[],a,i,d,h,e=>by simp at e
 |x::ds,a,0,d,h,e=>by unfold gJ at h;obtain⟨v,r,rfl,z,_⟩:=h;simp at e;subst e;exact⟨v,rfl,z⟩
 |x::ds,a,i+1,d,h,e=>by unfold gJ at h;obtain⟨v,r,rfl,_,y⟩:=h;obtain⟨u,b,c⟩:=gJ.get ds r i d y (by simpa using e);exact⟨u,by simpa using b,c⟩
theorem gJ.get':∀(ds:List D) (a:List V) (i:Nat) (v:V),gJ K α H ds a->a[i]?=aa v->∃d,ds[i]?=aa d/\Rep K α H d v
 |[],a,i,d,h,e=>by unfold gJ at h;subst h;simp at e
 |x::ds,a,0,d,h,e=>by unfold gJ at h;obtain⟨v,r,rfl,z,_⟩:=h;simp at e;subst e;exact⟨x,rfl,z⟩
 |x::ds,a,i+1,d,h,e=>by unfold gJ at h;obtain⟨v,r,rfl,_,y⟩:=h;obtain⟨u,b,c⟩:=gJ.get' ds r i d y (by simpa using e);exact⟨u,by simpa using b,c⟩
theorem gJ.append:∀(ds es:List D) (a us:List V),gJ K α H ds a->gJ K α H es us->gJ K α H (ds++es) (a++us)
 |[],es,a,us,h,g=>by unfold gJ at h;subst h;exact g
 |d::ds,es,a,us,h,g=>by unfold gJ at h;obtain⟨v,r,rfl,z,y⟩:=h;show gJ K α H (d::(ds++es)) (v::(r++us));unfold gJ;exact⟨v,_,rfl,z,gJ.append ds es r us y g⟩
theorem gJ.nil:gJ K α H [] []:=by unfold gJ;rfl
theorem gJ.cons{d:D}{v:V}{ds:List D}{a:List V}(q:Rep K α H d v)(h:gJ K α H ds a):gJ K α H (d::ds) (v::a):=by unfold gJ;exact⟨v,a,rfl,q,h⟩
theorem gJ.one{d:D}{v:V}(q:Rep K α H d v):gJ K α H [d] [v]:=gJ.cons q gJ.nil
theorem gJ.take:∀(n:Nat) (ds:List D) (a:List V),gJ K α H ds a->gJ K α H (ds.take n) (a.take n)
 |0,ds,a,h=>by simpa using gJ.nil
 |n+1,[],a,h=>by unfold gJ at h;subst h;simpa using gJ.nil
 |n+1,d::ds,a,h=>by unfold gJ at h;obtain⟨v,r,rfl,z,y⟩:=h;rw[List.take_succ_cons,List.take_succ_cons];exact gJ.cons z (gJ.take n ds r y)
theorem gJ.drop:∀(n:Nat) (ds:List D) (a:List V),gJ K α H ds a->gJ K α H (ds.drop n) (a.drop n)
 |0,ds,a,h=>h
 |n+1,[],a,h=>by unfold gJ at h;subst h;simpa using gJ.nil
 |n+1,d::ds,a,h=>by unfold gJ at h;obtain⟨v,r,rfl,z,y⟩:=h;rw[List.drop_succ_cons,List.drop_succ_cons];exact gJ.drop n ds r y
theorem gJ.set{d:D}{v:V}(q:Rep K α H d v):∀(i:Nat) (ds:List D) (a:List V),gJ K α H ds a->gJ K α H (ds.set i d) (a.set i v)
 |i,[],a,h=>by unfold gJ at h;subst h;simpa using gJ.nil
 |0,x::ds,a,h=>by unfold gJ at h;obtain⟨u,r,rfl,z,y⟩:=h;exact gJ.cons q y
 |i+1,x::ds,a,h=>by unfold gJ at h;obtain⟨u,r,rfl,z,y⟩:=h;exact gJ.cons z (gJ.set q i ds r y)
theorem gJ.of_map{β:Type}(f:β->D)(g:β->V)(h:∀a,Rep K α H (f a) (g a)):∀l:List β,gJ K α H (l.map f) (l.map g)
 |[]=>gJ.nil
 |a::l=>gJ.cons (h a) (gJ.of_map f g h l)
theorem gJ.rep{ds:List D}{a:List V}(h:gJ K α H ds a):∀k:Nat,gJ K α H (bP k ds).flatten (bP k a).flatten
 |0=>gJ.nil
 |k+1=>by rw[cW,cW,dS,dS];exact gJ.append _ _ _ _ h (gJ.rep h k)
theorem gJ.at{ds:List D}{a:List V}{i:Int}{d:D}(h:gJ K α H ds a)(e:vE ds i=aa d):∃v,vE a i=aa v/\Rep K α H d v:=by
 unfold vE at e |-;rw[<-gJ.length _ _ h];cases q:QU ds.length i with
 |none=>rw[q] at e;cases e
 |some j=>
  rw[q] at e;exact gJ.get ds a j d h e
theorem iU{i:Int}:Rep K α H (.int i) (.int i):=by unfold Rep;rfl
theorem jq{i:Bool}:Rep K α H (.bl i) (.bl i):=by unfold Rep;rfl
theorem qZ{i:ay}:Rep K α H (.str i) (.str i):=by unfold Rep;rfl
theorem abd{C:ak}:Rep K α H (.cls C) (.ref C):=by unfold Rep;rfl
theorem yX:Rep K α H .non .non:=by unfold Rep;rfl
theorem aei{n:String}:Rep K α H (.ty n) (.ty n):=by unfold Rep;rfl
end
noncomputable def kg(A:List ak)(H:Hp):Hp:=λb=>if b∈A then ao else zC (H b)
theorem lL{A:List ak}{H:Hp}{p:ak}(h:p∉A):kg A H p=zC (H p):=by unfold kg;rw[if_neg h]
theorem q8{A:List ak}{H:Hp}{p:ak}(h:p∈A):kg A H p=ao:=by unfold kg;rw[if_pos h]
theorem uJ{A:List ak}{H:Hp}{p:ak}{o:HO}(h:kg A H p=aa o):p∉A/\H p=aa o/\zC (aa o)=aa o:=by
 by_cases z:p∈A
 .rw[q8 z] at h;cases h
 .rw[lL z] at h;exact⟨z,XI h⟩
theorem jh{A:List ak}{H:Hp}{p:ak}{o:HO}(h:kg A H p=aa o):p∉A/\H p=aa o:=⟨(uJ h).1,(uJ h).2.1⟩
theorem il{A:List ak}{H:Hp}:jV (kg A H) H:=λb o e=>(jh e).2
theorem mB{A:List ak}{H:Hp}{p:ak}{o:HO}(h:p∉A)(e:H p=aa o)(v:zC (aa o)=aa o):kg A H p=aa o:=by rw[lL h,e];exact v
theorem nZ{A B:List ak}{H a:Hp}{b:ak}{o:HO}(h:kg A H b=aa o)(c:b∉B)(e:a b=aa o):kg B a b=aa o:=mB c e (uJ h).2.2
theorem K3{A:List ak}{H a:Hp}(h:jV H a):jV (kg A H) (kg A a):=λb o e=>nZ e (jh e).1 (h b o (jh e).2)
noncomputable def lv:List ak->Ms->List ak
 |a::α,aa _::M=>a::lv α M
 |_::α,ao::M=>lv α M
 |_,_=>[]
theorem oa:∀{α:List ak} {M:Ms} {a:ak},a∈lv α M↔∃(k:Nat) (o:OD),α[k]?=aa a/\M[k]?=aa (aa o)
 |[],M,a=>by cases M<;>simp[lv]
 |b::α,[],a=>by simp[lv]
 |b::α,aa x::M,a=>by
  simp only [lv,aO,oa];constructor
  .rintro(rfl|⟨k,o,c,e⟩)
   .exact⟨0,x,rfl,rfl⟩
   .exact⟨k+1,o,by simpa using c,by simpa using e⟩
  .rintro⟨k,o,c,e⟩
   cases k with
   |zero=>left;simpa using c.symm
   |succ k=>right;exact⟨k,o,by simpa using c,by simpa using e⟩
 |b::α,ao::M,a=>by
  simp only [lv,oa];constructor
  .rintro⟨k,o,c,e⟩
   exact⟨k+1,o,by simpa using c,by simpa using e⟩
  .rintro⟨k,o,c,e⟩
   cases k with
   |zero=>simp at e
   |succ k=>exact⟨k,o,by simpa using c,by simpa using e⟩
abbrev jy(F α:List ak)(M:Ms)(H:Hp):Hp:=kg (lv α M++F) H
def Js (K:bz)(α:List ak)(e H:Hp):OD->ak->Prop
 |.lst ds,a=>∃b,H a=aa (.lst b)/\gJ K α e ds b
 |.kt c ds,a=>∃b,H a=aa (.dK (c.zip b))/\c.length=ds.length/\gJ K α e ds b
 |.ins C ns ds,a=>∃f b,H a=aa (.ins C f (ns.zip b))/\ns.length=ds.length/\gJ K α e ds b
 |.fz k g c ds,a=>α[k]?=aa a/\∃b,H a=aa (.dE g (c.zip b))/\c.length=ds.length/\gJ K α e ds b
structure OK(K:bz)(F α:List ak)(H:Hp)(M:Ms):Prop where
 ml:α.length=M.length
 nd:α.Nodup
 fr:∀a∈F,a∉α/\zC (H a)≠ao
 al:∀a∈α,zC (H a)≠ao
 own:∀(k:Nat) o,M[k]?=aa (aa o)->∃a,α[k]?=aa a/\Js K α (jy F α M H) H o a
 tb:Tb K H
structure Ext(F α:List ak)(H:Hp)(M:Ms)(iz:List ak)(H':Hp)(M':Ms):Prop where
 pre:α <+: iz
 same:jV (jy F α M H) (jy F iz M' H')
 fr:∀a∈F,H' a=H a
abbrev pd:=List (Option D)
structure R(K:bz)(F α:List ak)(H:Hp)(σ:L2.St)(δ:pd)(M:Ms):Prop where
 ok:OK K F α H M
 len:σ.length=δ.length
 sl:∀(i:Nat) d,δ[i]?=aa (aa d)->∃v,σ[i]?=aa (aa v)/\Rep K α (jy F α M H) d v
section
variable {K:bz} {F α iz XJ:List ak} {H H' H'':Hp} {M M' Jt:Ms} {σ:L2.St} {δ:pd}
theorem Ext.refl:Ext F α H M α H M:=⟨bd _,jV.refl _,λ_ _=>rfl⟩
theorem Ext.trans(e:Ext F α H M iz H' M')(e':Ext F iz H' M' XJ H'' Jt):Ext F α H M XJ H'' Jt:=
 ⟨e.pre.trans e'.pre,e.same.trans e'.same,λa h=>(e'.fr a h).trans (e.fr a h)⟩
theorem Ext.rep(e:Ext F α H M iz H' M'){d:D}{v:V}(h:Rep K α (jy F α M H) d v):Rep K iz (jy F iz M' H') d v:=Rep.mono e.pre e.same d v h
theorem Ext.Ju(e:Ext F α H M iz H' M'){d:List D}{v:List V}(h:gJ K α (jy F α M H) d v):gJ K iz (jy F iz M' H') d v:=gJ.mono e.pre e.same d v h
theorem R.grow(r:R K F α H σ δ M)(e:Ext F α H M iz H' M')(o:OK K F iz H' M'):R K F iz H' σ δ M':=
 ⟨o,r.len,λi d q=>by obtain⟨v,a,b⟩:=r.sl i d q;exact⟨v,a,e.rep b⟩⟩
theorem OK.live(o:OK K F α H M):∀a∈lv α M,H a≠ao:=λa ha=>by
 obtain⟨k,x,f,g⟩:=oa.mp ha;obtain⟨b,e,r⟩:=o.own k x g;rw[f] at e;cases e;cases x with
 |lst ds=>obtain⟨c,e,_⟩:=r;rw[e];exactλz=>by cases z
 |kt h ds=>obtain⟨c,e,_⟩:=r;rw[e];exactλz=>by cases z
 |ins C ns ds=>obtain⟨i,c,e,_⟩:=r;rw[e];exactλz=>by cases z
 |fz k j h ds=>obtain⟨_,c,e,_⟩:=r;rw[e];exactλz=>by cases z
theorem OK.new(o:OK K F α H M){p:ak}(h:H p=ao):p∉lv α M++F:=λz=>by
 rcases bg.mp z with z|z
 .exact o.live p z h
 .exact(o.fr p z).2 (by rw[h])
theorem Js.zC{c:Hp}{x:OD}{a:ak}(r:Js K α c H x a):zC (H a)≠ao:=by
 cases x with
 |lst ds=>obtain⟨b,e,_⟩:=r;rw[e];exactλz=>by cases z
 |kt f ds=>obtain⟨b,e,_⟩:=r;rw[e];exactλz=>by cases z
 |ins C ns ds=>obtain⟨g,b,e,_⟩:=r;rw[e];exactλz=>by cases z
 |fz k h f ds=>obtain⟨_,b,e,_⟩:=r;rw[e];exactλz=>by cases z
theorem OK.XM(o:OK K F α H M):∀a∈lv α M,zC (H a)≠ao:=λa ha=>by obtain⟨k,x,c,f⟩:=oa.mp ha;obtain⟨b,e,r⟩:=o.own k x f;rw[c] at e;cases e;exact r.zC
theorem Js.mono{f c:Hp}(p:α <+: iz)(e:jV f c){o:OD}{a:ak}(ha:H' a=H a)(h:Js K α f H o a):Js K iz c H' o a:=by
 cases o with
 |lst ds=>obtain⟨b,q,r⟩:=h;exact⟨b,by rw[ha];exact q,gJ.mono p e _ _ r⟩
 |kt i ds=>obtain⟨b,q,l,r⟩:=h;exact⟨b,by rw[ha];exact q,l,gJ.mono p e _ _ r⟩
 |ins C ns ds=>obtain⟨j,b,q,l,r⟩:=h;exact⟨j,b,by rw[ha];exact q,l,gJ.mono p e _ _ r⟩
 |fz k m i ds=>
  obtain⟨g,b,q,l,r⟩:=h;exact⟨by obtain⟨β,rfl⟩:=p;rw[bA (au.mp g).1];exact g,b,by rw[ha];exact q,l,gJ.mono p e _ _ r⟩
theorem OK.grow(o:OK K F α H M)(s:jV H H'):OK K F α H' M/\Ext F α H M α H' M:=by
 have E4:∀a,H a≠ao->H' a=H a:=λa h=>by
  cases e:H a with
  |none=>exact absurd e h
  |some x=>exact s a x e
 refine⟨⟨o.ml,o.nd,λa ha=>⟨(o.fr a ha).1,by rw[E4 a (Gm (o.fr a ha).2)];exact(o.fr a ha).2⟩,λa ha=>by rw[E4 a (Gm (o.al a ha))];exact o.al a ha,λk x h=>?_,o.tb.same s⟩,⟨bd _,(K3 s),λa ha=>E4 a (Gm (o.fr a ha).2)⟩⟩;obtain⟨a,e,r⟩:=o.own k x h;exact⟨a,e,r.mono (bd _) (K3 s) (E4 a (o.live a (oa.mpr ⟨k,x,e,h⟩)))⟩
theorem OK.laid(o:OK K F α H M){p:ak}{x:HO}(h:H p=ao):OK K F α (upd H p x) M/\Ext F α H M α (upd H p x) M:=o.grow (Bi h)
theorem uK:∀{α β:List ak} {M N:Ms},α.length=M.length->lv (α++β) (M++N)=lv α M++lv β N
 |[],β,[],N,_=>by simp[lv]
 |a::α,β,aa x::M,N,h=>by have:=uK (β:=β) (N:=N) (show α.length=M.length by simpa using h);simp[lv,this]
 |a::α,β,ao::M,N,h=>by have:=uK (β:=β) (N:=N) (show α.length=M.length by simpa using h);simp[lv,this]
theorem OK.Gn(o:OK K F α H M){p:ak}{x:OD}(h:H p=ao)(s:jV H H'):jV (jy F α M H) (jy F (α++[p]) (M++[aa x]) H'):=λb y q=>by
 have a:lv (α++[p]) (M++[aa x])=lv α M++[p]:=by rw[uK o.ml];rfl
 have c:=q;obtain⟨z,q⟩:=jh q;have e:b≠p:=λz=>by rw[z,h] at q;cases q
 show kg _ H' b=_;rw[a];refine nZ c (λw=>?_) (s b y q)
 .simp only [bg,bS] at w z;rcases w with(w|w)|w
  .exact z (.inl w)
  .exact e w
  .exact z (.inr w)
theorem OK.enter(o:OK K F α H M){p:ak}{x:OD}(h:H p=ao)(s:jV H H')(r:Js K (α++[p]) (jy F (α++[p]) (M++[aa x]) H') H' x p):
  OK K F (α++[p]) H' (M++[aa x])/\Ext F α H M (α++[p]) H' (M++[aa x]):=by
 have n:p∉α:=λz=>o.al p z (by rw[h]);obtain⟨g,e'⟩:=o.grow s;have i:=o.Gn (x:=x) h s;have pf:p∉F:=λz=>(o.fr p z).2 (by rw[h]);refine⟨⟨by simp[o.ml],by rw[cO];exact⟨o.nd,by simp,λa ha b j=>by simp at j;subst j;exactλz=>n (z▸ha)⟩,λa ha=>⟨λz=>?_,(g.fr a ha).2⟩,λa ha=>?_,λk y c=>?_,g.tb⟩,⟨cc _ _,i,e'.fr⟩⟩
 .rcases bg.mp z with z|z
  .exact(o.fr a ha).1 z
  .simp at z;subst z;exact pf ha
 .rcases bg.mp ha with z|z
  .exact g.al a z
  .simp at z;subst z;exact r.zC
 .by_cases f:k<M.length
  .rw[bA f] at c;obtain⟨a,m,q⟩:=o.own k y c;refine⟨a,by rw[bA (by rw[o.ml];exact f)];exact m,q.mono (cc _ _) i ?_⟩;cases e:H a with
   |none=>exact absurd e (o.live a (oa.mpr ⟨k,y,m,c⟩))
   |some z=>exact s a z e
  .have:k=M.length:=by have:=(au.mp c).1;simp at this;omega
   subst this;simp at c;subst c;exact⟨p,by rw[<-o.ml];simp,r⟩
theorem Rm:∀{α:List ak} {M:Ms} {k:Nat} {x y:OD},M[k]?=aa (aa x)->lv α (M.set k (aa y))=lv α M
 |[],M,k,x,y,h=>by cases M<;>cases k<;>simp[lv]
 |a::α,[],k,x,y,h=>by simp at h
 |a::α,aa z::M,0,x,y,h=>by simp[lv]
 |a::α,ao::M,0,x,y,h=>by simp at h
 |a::α,aa z::M,k+1,x,y,h=>by simp only [List.set_cons_succ,lv];rw[Rm (by simpa using h)]
 |a::α,ao::M,k+1,x,y,h=>by simp only [List.set_cons_succ,lv];exact Rm (by simpa using h)
theorem OK.write(o:OK K F α H M){k:Nat}{x y:OD}{a:ak}{z:HO}(h:M[k]?=aa (aa x))(ha:α[k]?=aa a)(r:∀p,p=jy F α M H->Js K α p (upd H a z) y a):
  OK K F α (upd H a z) (M.set k (aa y))/\Ext F α H M α (upd H a z) (M.set k (aa y)):=by
 have E:lv α (M.set k (aa y))=lv α M:=Rm h;have hm:a∈lv α M:=oa.mpr ⟨k,x,ha,h⟩;have i:jy F α (M.set k (aa y)) (upd H a z)=jy F α M H:=by
  funext b;show kg _ _ b=kg _ _ b;rw[E];by_cases c:b∈lv α M++F
  .rw[q8 c,q8 c]
  .rw[lL c,lL c,g9 (λe=>c (by rw[e];exact cb _ hm))]
 have q:a∉F:=λw=>(o.fr a w).1 (aV ha);refine⟨⟨by simp[o.ml],o.nd,λb c=>⟨(o.fr b c).1,by rw[g9 (λe=>q (by rw[<-e];exact c))];exact(o.fr b c).2⟩,λb c=>(by
  by_cases e:b=a
  .subst e;exact(r _ rfl).zC
  .rw[g9 e];exact o.al b c),λj w g=>?_,o.tb.upd (.inl (o.al a (aV ha)))⟩,⟨bd _,by rw[i];exact jV.refl _,λb c=>g9 (λe=>q (by rw[<-e];exact c))⟩⟩
 have m:k<M.length:=(au.mp h).1;by_cases f:j=k
 .subst f;rw[cu m] at g;cases g;exact⟨a,ha,r _ i⟩
 .rw[c9 (cV f)] at g;obtain⟨b,u,G⟩:=o.own j w g;have n:b≠a:=λe=>f (by subst e;have v:=au.mp ha;have A:=au.mp u;exact(List.getElem_inj (h₀:=A.1) (h₁:=v.1) o.nd).mp (A.2.trans v.2.symm))
  refine⟨b,u,?_⟩;rw[i];exact G.mono (bd _) (jV.refl _) (g9 n)
theorem R.set(r:R K F α H σ δ M){i:Nat}{d:D}{v:V}(q:Rep K α (jy F α M H) d v):R K F α H (σ.set i (aa v)) (δ.set i (aa d)) M:=by
 have c:=r.len;refine⟨r.ok,by simp[c],λj e h=>?_⟩;by_cases b:j=i
 .subst b;have a:j<δ.length:=by
   rcases Nat.lt_or_ge j δ.length with x|x
   .exact x
   .rw[eY (by simpa using x)] at h;cases h
  rw[cu a] at h;cases h;exact⟨v,cu (by omega),q⟩
 .rw[c9 (cV b)] at h |-;exact r.sl j e h
end
theorem PE.weak{X:Cx}{e:bC}{t a:TE}(h:PE X e t)(w:∀σ H Q,a σ H Q->t σ H Q):PE X e a:=λcq s σ H Q I q=>h cq s σ H Q I (w σ H Q q)
theorem PT.weak{X:Cx}{e:bC}{t a:TT}(h:PT X e t)(w:∀σ H Q,a σ H Q->t σ H Q):PT X e a:=λcq s σ H Q I q=>h cq s σ H Q I (w σ H Q q)
theorem PW.weak{X:Cx}{e:bC}{t a:TT}(h:PW X e t)(w:∀σ H Q,a σ H Q->t σ H Q):PW X e a:=λb cq s σ H Q I q=>h b cq s σ H Q I (w σ H Q q)
theorem PA.weak{X:Cx}{e:List bC}{t a:TA}(h:PA X e t)(w:∀σ H Q,a σ H Q->t σ H Q):PA X e a:=λpos cq s σ H Q I q=>h pos cq s σ H Q I (w σ H Q q)
theorem PS.weak{X:Cx}{e:bL}{t a:TS}(h:PS X e t)(w:∀D σ H,a D σ H->t D σ H):PS X e a:=λcq s σ H D I q=>h cq s σ H D I (w D σ H q)
theorem Jo.weak{X:Cx}{e:List bL}{t a:TS}(h:Jo X e t)(w:∀D σ H,a D σ H->t D σ H):Jo X e a:=λcq s σ H D I q=>h cq s σ H D I (w D σ H q)
abbrev DK:=D->Ms->Prop
abbrev DE:=pd->Ms->DK->Prop
abbrev DT:=pd->Ms->(Bool->Ms->Prop)->Prop
abbrev DA:=pd->Ms->(List D->Ms->Prop)->Prop
abbrev vK(K:bz)(F α:List ak)(H:Hp)(M:Ms)(Q:VK):DK:=λd c=>∀v a b,Ext F α H M a b c->OK K F a b c->Rep K a (jy F a c b) d v->Q v b
abbrev bK(K:bz)(F α:List ak)(H:Hp)(M:Ms)(Q:Bool->Hp->Prop):Bool->Ms->Prop:=λb c=>∀e a,Ext F α H M e a c->OK K F e a c->Q b a
abbrev aK(K:bz)(F α:List ak)(H:Hp)(M:Ms)(Q:List V->Hp->Prop):List D->Ms->Prop:=λds c=>∀e a b,Ext F α H M a b c->OK K F a b c->gJ K a (jy F a c b) ds e->Q e b
def lE (K:bz)(t:DE):TE:=λσ H Q=>∃F α a M,R K F α H σ a M/\t a M (vK K F α H M Q)
def lT (K:bz)(t:DT):TT:=λσ H Q=>∃F α a M,R K F α H σ a M/\t a M (bK K F α H M Q)
def lA (K:bz)(t:DA):TA:=λσ H Q=>∃F α a M,R K F α H σ a M/\t a M (aK K F α H M Q)
structure JE(X:Cx)(e:bC)(t:DE):Prop where
 mono:∀δ M (P Q:DK),(∀d M,P d M->Q d M)->t δ M P->t δ M Q
 p:PE X e (lE X.K t)
structure JT(X:Cx)(e:bC)(t:DT):Prop where
 mono:∀δ M (P Q:Bool->Ms->Prop),(∀d M,P d M->Q d M)->t δ M P->t δ M Q
 p:PT X e (lT X.K t)
structure JW(X:Cx)(e:bC)(t:DT):Prop where
 mono:∀δ M (P Q:Bool->Ms->Prop),(∀d M,P d M->Q d M)->t δ M P->t δ M Q
 p:PW X e (lT X.K t)
structure JA(X:Cx)(es:List bC)(t:DA):Prop where
 mono:∀δ M (P Q:List D->Ms->Prop),(∀d M,P d M->Q d M)->t δ M P->t δ M Q
 p:PA X es (lA X.K t)
section
variable {K:bz} {F α iz:List ak} {H H':Hp} {M M':Ms}
theorem vK.grow{Q:VK}(e:Ext F α H M iz H' M'):∀d a,vK K F α H M Q d a->vK K F iz H' M' Q d a:=λd a h v b c f g i=>h v b c (e.trans f) g i
theorem bK.grow{Q:Bool->Hp->Prop}(e:Ext F α H M iz H' M'):∀d a,bK K F α H M Q d a->bK K F iz H' M' Q d a:=λd a h b c f g=>h b c (e.trans f) g
theorem vK.now{Q:VK}{d:D}{v:V}(o:OK K F α H M)(h:vK K F α H M Q d M)(r:Rep K α (jy F α M H) d v):Q v H:=h v α H Ext.refl o r
theorem vK.new{Q:VK}{d:D}{v:V}{p:ak}{x:HO}(o:OK K F α H M)(a:H p=ao)(h:vK K F α H M Q d M)(r:Ext F α H M α (upd H p x) M->Rep K α (jy F α M (upd H p x)) d v):Q v (upd H p x):=
 let⟨b,e'⟩:=o.laid (x:=x) a;h v α _ e' b (r e')
end
abbrev G2:=D->D->Ms->DK->Prop
abbrev GN:=List D->Ms->DK->Prop
def rD (K:bz)(g:G2):R2:=λx y H Q=>∃F α M a b,OK K F α H M/\Rep K α (jy F α M H) a x/\Rep K α (jy F α M H) b y/\g a b M (vK K F α H M Q)
def rDs (K:bz)(g:GN):List V->Hp->VK->Prop:=λxs H Q=>∃F α M ds,OK K F α H M/\gJ K α (jy F α M H) ds xs/\g ds M (vK K F α H M Q)
abbrev Ew(g:G2):Prop:=∀x y M (P Q:DK),(∀d M,P d M->Q d M)->g x y M P->g x y M Q
abbrev jW(g:GN):Prop:=∀xs M (P Q:DK),(∀d M,P d M->Q d M)->g xs M P->g xs M Q
structure JO(X:Cx)(op:fj)(g:G2):Prop where
 mono:Ew g
 p:uF X (binaryOp op) (rD X.K g)
structure JC(X:Cx)(op:ajr)(g:G2):Prop where
 mono:Ew g
 p:uF X (compareOp op) (rD X.K g)
structure JX(X:Cx)(g:G2):Prop where
 mono:Ew g
 p:IxR X (rD X.K g)
structure JB(X:Cx)(f:ae)(g:GN):Prop where
 mono:jW g
 p:pr X f (rDs X.K g)
abbrev GS:=D->Option Int->Option Int->Ms->DK->Prop
def aii (K:bz)(g:GS):V->Option Int->Option Int->Hp->VK->Prop:=λx lo hi H Q=>∃F α M d,OK K F α H M/\Rep K α (jy F α M H) d x/\g d lo hi M (vK K F α H M Q)
structure JSl(X:Cx)(g:GS):Prop where
 mono:∀x lo hi M (P Q:DK),(∀d M,P d M->Q d M)->g x lo hi M P->g x lo hi M Q
 p:SlR X (aii X.K g)
section
variable {X:Cx} {a b c e:bC} {es rest:List bC} {ta tb tc te:DE} {tA W9:DT} {tt:DA} {pos p p2 p3:d8} {x:ay}
def gE (i:Nat):DE:=λf M Q=>match f[i]? with|some (aa d)=>Q d M|_=>False
theorem gM(i:Nat)(f:X.N[i]?=aa x:=by rfl)(g:Vis X.env.scope x:=by first|exact ai8 rfl|exact gm (ai8 rfl)|exact gm (gm rfl))(hd:(x==("__debug__":ay))=ar:=by decide)
(j:(x==("__classdict__":ay))=ar:=by decide):JE X (.Name x pos) (gE i):=by
 refine⟨λm M P Q h q=>?_,PE.weak (Q1 f g hd j) λσ H Q h=>?_⟩
 .unfold gE at*;split at q
  .exact h _ _ q
  .exact q
 .obtain⟨F,α,m,M,r,h⟩:=h;unfold gE at h;split at h
  .rename_i d hd;obtain⟨v,e,q⟩:=r.sl i d hd;exact⟨v,e,vK.now r.ok h q⟩
  .exact h.elim
def dC (d:D):DE:=λ_ M Q=>Q d M
theorem j_c{d:D}{v:V}(h:PE X e (tC v))(r:∀α H,Rep X.K α H d v):JE X e (dC d):=
 ⟨λf M P Q h q=>h _ _ q,PE.weak h λσ H Q ⟨F,α,f,M,g,h⟩=>vK.now g.ok h (r _ _)⟩
theorem gL{i j}:JE X (.Constant (.int i) j pos) (dC (.int i)):=j_c W8 λ_ _=>iU
theorem xg{b j}:JE X (.Constant (.bool b) j pos) (dC (.bl b)):=j_c afB λ_ _=>jq
theorem K4{j}:JE X (.Constant .none j pos) (dC .non):=j_c adq λ_ _=>yX
theorem gO{y j}:JE X (.Constant (.str y) j pos) (dC (.str y)):=j_c adr λ_ _=>qZ
theorem XN{d:D}{v:V}{u:ae}(hm:X.mg x=aa u)(r:RelV v u)(f:∀α H,Rep X.K α H d v)(g:Gl X x:=by rfl)(hd:(x==("__debug__":ay))=ar:=by decide):JE X (.Name x pos) (dC d):=j_c (aat g hm r hd) f
theorem pP{i:Int}(hm:∃t,X.mg x=aa (.int i t))(f:Gl X x:=by rfl)(hd:(x==("__debug__":ay))=ar:=by decide):JE X (.Name x pos) (dC (.int i)):=by obtain⟨t,hm⟩:=hm;exact XN (v:=.int i) hm ⟨t,rfl⟩ (λ_ _=>iU) f hd
theorem og{C:ak}(hm:X.mg x=aa (.ref C))(f:Gl X x:=by rfl)(hd:(x==("__debug__":ay))=ar:=by decide):JE X (.Name x pos) (dC (.cls C)):=XN (v:=.ref C) hm rfl (λ_ _=>abd) f hd
theorem xh{n:String}(hm:X.mg x=ao)(f:bU x=aa (.type n))(g:Gl X x:=by rfl)(hn:x≠"__name__":=by decide)(hd:(x==("__debug__":ay))=ar:=by decide):JE X (.Name x pos) (dC (.ty n)):=
 j_c (aau (v:=.ty n) g hm f rfl hn hd) λ_ _=>aei
def gX (g:G2)(ta tb:DE):DE:=λf M Q=>ta f M λx M1=>tb f M1 λy M2=>g x y M2 Q
theorem Gp{g:G2}(mg:Ew g)(ha:JE X a ta)(i:JE X b tb):∀f M (P Q:DK),(∀d M,P d M->Q d M)->gX g ta tb f M P->gX g ta tb f M Q:=
 λf M P Q h q=>ha.mono f _ _ _ (λd M1 q=>i.mono f _ _ _ (λj M2 q=>mg d j M2 P Q h q) q) q
theorem TY{g:G2}(mg:Ew g)(ha:JE X a ta)(m:JE X b tb){σ:L2.St}{H:Hp}{Q:VK}(h:lE X.K (gX g ta tb) σ H Q):tOp (rD X.K g) (lE X.K ta) (lE X.K tb) σ H Q:=by
 obtain⟨F,α,f,M,r,h⟩:=h;exact⟨F,α,f,M,r,ha.mono f _ _ _ (λn M1 o v q H1 i w y=>⟨F,q,f,M1,r.grow i w,m.mono f _ _ _ (λz M2 A u B G j C E=>
  ⟨F,B,M2,n,z,C,j.rep y,E,mg _ _ _ _ _ (vK.grow (i.trans j)) A⟩) o⟩) h⟩
theorem iw{op:fj}{g:G2}(o:JO X op g)(ha:JE X a ta)(f:JE X b tb):JE X (.BinOp a op b pos) (gX g ta tb):=⟨Gp o.mono ha f,PE.weak (afN o.p ha.p f.p) λσ H Q h=>TY o.mono ha f h⟩
theorem Bj{op:ajr}{g:G2}(o:JC X op g)(ha:JE X a ta)(f:JE X b tb)(hm:ajs op b=ar:=by rfl):JE X (.Compare a [op] [b] pos) (gX g ta tb):=⟨Gp o.mono ha f,PE.weak (aaK o.p ha.p f.p hm) λσ H Q h=>TY o.mono ha f h⟩
theorem g8{g:G2}(o:JX X g)(ha:JE X a ta)(f:JE X b tb)(i:TQ b:=by exactλ_ _=>rfl):JE X (.Subscript a b pos) (gX g ta tb):=⟨Gp o.mono ha f,PE.weak (acD o.p ha.p f.p i) λσ H Q h=>TY o.mono ha f h⟩
def gS (te:DE):DT:=λf M Q=>te f M λd M1=>match d with|.bl b=>Q b M1|_=>False
theorem Al(h:JE X e te):∀f M (P Q:Bool->Ms->Prop),(∀d M,P d M->Q d M)->gS te f M P->gS te f M Q:=λf M P Q w q=>h.mono f _ _ _ (λd M1 q=>by cases d<;>first|exact w _ _ q|exact q) q
theorem jf(h:JE X e te)(j:∀f,akc e X.env f=(do let v<-f;ajC e.pos;holding [v] (truthy v)):=by intro _;rfl):JT X e (gS te):=by
 refine⟨Al h,PT.weak (ads h.p j) λσ H Q q=>?_⟩;obtain⟨F,α,g,M,r,q⟩:=q;refine⟨F,α,g,M,r,h.mono g _ _ _ (λd M1 q v m H1 n o i=>?_) q⟩;cases d<;>first|exact q.elim|skip
 unfold Rep at i;exact⟨_,i,q m H1 n o⟩
theorem gZ{op:ajr}{g:G2}(o:JC X op g)(ha:JE X a ta)(f:JE X b tb)(hm:ajs op b=ar:=by rfl):JT X (.Compare a [op] [b] pos) (gS (gX g ta tb)):=by
 have h:JE X (.Compare a [op] [b] pos) (gX g ta tb):=Bj o ha f hm;refine⟨Al h,PT.weak (aaL o.p ha.p f.p hm) λσ H Q q=>?_⟩;obtain⟨F,α,i,M,r,q⟩:=q;refine TY o.mono ha f ⟨F,α,i,M,r,h.mono i _ _ _ (λd M1 q v m H1 n u j=>?_) q⟩;cases d<;>first|exact q.elim|skip
 unfold Rep at j;exact⟨_,j,q m H1 n u⟩
def ph (t:DT):DT:=λf M Q=>t f M λb M1=>Q (!b) M1
theorem jT(h:JT X a tA):JT X (.UnaryOp .Not a pos) (ph tA):=
 ⟨λf M P Q w q=>h.mono f _ _ _ (λb M1 q=>w _ _ q) q,PT.weak (adt h.p) λσ H Q ⟨F,α,f,M,r,q⟩=>⟨F,α,f,M,r,q⟩⟩
theorem mY(h:JW X e tA):JT X e tA:=⟨h.mono,h.p.pt⟩
def Jv (t u:DT):DT:=λf M Q=>t f M λb M1=>if b=ag then u f M1 Q else Q ar M1
def Gq (t u:DT):DT:=λf M Q=>t f M λb M1=>if b=ag then Q ag M1 else u f M1 Q
theorem vI(h:JT X a tA):JW X (.BoolOp .And [a] pos) tA:=⟨h.mono,pw_and1 h.p⟩
theorem oh(h:JT X a tA):JW X (.BoolOp .Or [a] pos) tA:=⟨h.mono,pw_or1 h.p⟩
theorem xC(ha:JT X a tA)(g:JW X (.BoolOp .And (b::rest) pos) W9):JW X (.BoolOp .And (a::b::rest) pos) (Jv tA W9):=by
 refine⟨λf M P Q w q=>ha.mono f _ _ _ (λb M1 q=>?_) q,PW.weak (pw_and ha.p g.p) λσ H Q q=>?_⟩
 .cases b with
  |true=>rw[if_pos rfl] at q |-;exact g.mono f _ _ _ w q
  |false=>rw[if_neg ax] at q |-;exact w _ _ q
 .obtain⟨F,α,f,M,r,q⟩:=q;refine⟨F,α,f,M,r,ha.mono f _ _ _ (λb M1 q i H1 h j=>?_) q⟩;cases b with
  |true=>
   rw[if_pos rfl] at q;show(if ag=ag then _ else _);rw[if_pos rfl];exact⟨F,i,f,M1,r.grow h j,g.mono f _ _ _ (bK.grow h) q⟩
  |false=>
   rw[if_neg ax] at q;show(if ar=ag then _ else _);rw[if_neg ax];exact q i H1 h j
theorem qc(ha:JT X a tA)(g:JW X (.BoolOp .Or (b::rest) pos) W9):JW X (.BoolOp .Or (a::b::rest) pos) (Gq tA W9):=by
 refine⟨λf M P Q w q=>ha.mono f _ _ _ (λb M1 q=>?_) q,PW.weak (pw_or ha.p g.p) λσ H Q q=>?_⟩
 .cases b with
  |true=>rw[if_pos rfl] at q |-;exact w _ _ q
  |false=>rw[if_neg ax] at q |-;exact g.mono f _ _ _ w q
 .obtain⟨F,α,f,M,r,q⟩:=q;refine⟨F,α,f,M,r,ha.mono f _ _ _ (λb M1 q i H1 h j=>?_) q⟩;cases b with
  |false=>
   rw[if_neg ax] at q;show(if ar=ag then _ else _);rw[if_neg ax];exact⟨F,i,f,M1,r.grow h j,g.mono f _ _ _ (bK.grow h) q⟩
  |true=>
   rw[if_pos rfl] at q;show(if ag=ag then _ else _);rw[if_pos rfl];exact q i H1 h j
def Ex (ta tb:DE):DE:=λf M Q=>ta f M λx M1=>match x with|.bl ag=>tb f M1 Q|.bl ar=>Q (.bl ar) M1|_=>False
def XO (ta:DE):DE:=λf M Q=>ta f M λx M1=>match x with|.bl b=>Q (.bl (!b)) M1|_=>False
theorem Op{op}(h:JE X a te):JE X (.BoolOp op [a] pos) te:=⟨h.mono,adu h.p⟩
theorem Gr(ha:JE X a ta)(g:JE X (.BoolOp .And (b::rest) pos) tb):JE X (.BoolOp .And (a::b::rest) pos) (Ex ta tb):=by
 refine⟨λf M P Q w q=>ha.mono f _ _ _ (λd M1 q=>?_) q,PE.weak (adv ha.p g.p) λσ H Q q=>?_⟩
 .cases d<;>first|exact q.elim|skip
  rename_i b;cases b with
  |true=>exact g.mono f _ _ _ w q
  |false=>exact w _ _ q
 .obtain⟨F,α,f,M,r,q⟩:=q;refine⟨F,α,f,M,r,ha.mono f _ _ _ (λd M1 q v j H1 h m i=>?_) q⟩;cases d<;>first|exact q.elim|skip
  unfold Rep at i;rename_i b;cases b with
  |true=>
   refine⟨ag,i,?_⟩;rw[if_pos rfl];exact⟨F,j,f,M1,r.grow h m,g.mono f _ _ _ (vK.grow h) q⟩
  |false=>
   refine⟨ar,i,?_⟩;rw[if_neg ax];exact q _ j H1 h m jq
theorem acI(ha:JE X a ta):JE X (.UnaryOp .Not a pos) (XO ta):=by
 refine⟨λf M P Q w q=>ha.mono f _ _ _ (λd M1 q=>?_) q,PE.weak (adw ha.p) λσ H Q q=>?_⟩
 .cases d<;>first|exact q.elim|exact w _ _ q
 .obtain⟨F,α,f,M,r,q⟩:=q;refine⟨F,α,f,M,r,ha.mono f _ _ _ (λd M1 q v h H1 i j g=>?_) q⟩;cases d<;>first|exact q.elim|skip
  unfold Rep at g;exact⟨_,g,q _ h H1 i j jq⟩
def dIf (t:DT)(ta tb:DE):DE:=λf M Q=>t f M λc M1=>if c=ag then ta f M1 Q else tb f M1 Q
theorem abe(h:JT X c tA)(ha:JE X a ta)(i:JE X b tb):JE X (.IfExp c a b pos) (dIf tA ta tb):=by
 refine⟨λf M P Q w q=>h.mono f _ _ _ (λb M1 q=>?_) q,PE.weak (Xa h.p ha.p i.p) λσ H Q q=>?_⟩
 .cases b with
  |true=>rw[if_pos rfl] at q |-;exact ha.mono f _ _ _ w q
  |false=>rw[if_neg ax] at q |-;exact i.mono f _ _ _ w q
 .obtain⟨F,α,f,M,r,q⟩:=q;refine⟨F,α,f,M,r,h.mono f _ _ _ (λb M1 q j H1 g m=>?_) q⟩;cases b with
  |true=>
   rw[if_pos rfl] at q;show(if ag=ag then _ else _);rw[if_pos rfl];exact⟨F,j,f,M1,r.grow g m,ha.mono f _ _ _ (vK.grow g) q⟩
  |false=>
   rw[if_neg ax] at q;show(if ar=ag then _ else _);rw[if_neg ax];exact⟨F,j,f,M1,r.grow g m,i.mono f _ _ _ (vK.grow g) q⟩
def nz (g i:G2)(ta tb tc:DE):DE:=λf M Q=>ta f M λx M1=>tb f M1 λy M2=>g x y M2 λz h=>match z with|.bl ag=>tc f h λw j=>i y w j Q|.bl ar=>Q (.bl ar) h|_=>False
theorem Oq{op i:ajr}{g h:G2}(o:JC X op g)(j:JC X i h)(ha:JE X a ta)(m:JE X b tb)(n:JE X c tc):∀f M (P Q:DK),(∀d M,P d M->Q d M)->nz g h ta tb tc f M P->nz g h ta tb tc f M Q:=
 λf M P Q w q=>ha.mono f _ _ _ (λx M1 q=>m.mono f _ _ _ (λy M2 q=>o.mono _ _ _ _ _ (λz r q=>by
  cases z<;>first|exact q.elim|skip
  rename_i k;cases k with
  |true=>exact n.mono f _ _ _ (λu v q=>j.mono _ _ _ _ _ w q) q
  |false=>exact w _ _ q) q) q) q
theorem K5{op J:ajr}{g i:G2}(o:JC X op g)(L:JC X J i)(ha:JE X a ta)(N:JE X b tb)(O:JE X c tc){σ:L2.St}{H:Hp}{Q:VK}(h:lE X.K (nz g i ta tb tc) σ H Q):Q5 (rD X.K g) (rD X.K i) (lE X.K ta) (lE X.K tb) (lE X.K tc) σ H Q:=by
 obtain⟨F,α,f,M,r,h⟩:=h;refine⟨F,α,f,M,r,ha.mono f _ _ _ (λT M1 U v Y H1 n o1 r1=>⟨F,Y,f,M1,r.grow n o1,N.mono f _ _ _ (λq M2 h3 u qJ H2 y o2 A=>?_) U⟩) h⟩;refine⟨F,qJ,M2,T,q,o2,y.rep r1,A,o.mono _ _ _ _ _ (λd M3 j w B H3 C E G=>?_) h3⟩;have m:=(n.trans y).trans C;cases d<;>first|exact j.elim|skip
 unfold Rep at G;rename_i k;refine⟨k,G,?_⟩;cases k with
 |false=>rw[if_neg ax];exact j _ B H3 m E jq
 |true=>
  rw[if_pos rfl];refine⟨F,B,f,M3,r.grow m E,O.mono f _ _ _ (λdc M4 h5 z QV H4 I o4 r4=>?_) j⟩;exact⟨F,QV,M4,q,dc,o4,(C.trans I).rep A,r4,L.mono _ _ _ _ _ (vK.grow (m.trans I)) h5⟩
theorem Bk{op f:ajr}{g n:G2}(o:JC X op g)(i:JC X f n)(ha:JE X a ta)(j:JE X b tb)(m:JE X c tc)(hm:aj6 [op,f] [b,c]=ar:=by with_unfolding_all rfl):JE X (.Compare a [op,f] [b,c] pos) (nz g n ta tb tc):=
 ⟨Oq o i ha j m,PE.weak (Xj o.p i.p ha.p j.p m.p hm) λσ H Q h=>K5 o i ha j m h⟩
theorem xD{op f:ajr}{g h:G2}(o:JC X op g)(i:JC X f h)(ha:JE X a ta)(j:JE X b tb)(m:JE X c tc)(hm:aj6 [op,f] [b,c]=ar:=by with_unfolding_all rfl):JT X (.Compare a [op,f] [b,c] pos) (gS (nz g h ta tb tc)):=by
 have n:JE X (.Compare a [op,f] [b,c] pos) (nz g h ta tb tc):=Bk o i ha j m hm;refine⟨Al n,PT.weak (Xk o.p i.p ha.p j.p m.p hm) λσ H Q q=>?_⟩;obtain⟨F,α,u,M,r,q⟩:=q;refine K5 o i ha j m ⟨F,α,u,M,r,n.mono u _ _ _ (λd M1 q v y H1 z A w=>?_) q⟩;cases d<;>first|exact q.elim|skip
 unfold Rep at w;exact⟨_,w,q y H1 z A⟩
def gK:DA:=λ_ M Q=>Q [] M
def gD (te:DE)(tt:DA):DA:=λf M Q=>te f M λx M1=>tt f M1 λxs M2=>Q (x::xs) M2
theorem gF:JA X [] gK:=⟨λf M P Q w q=>w _ _ q,PA.weak Rb λσ H Q ⟨F,α,f,M,r,q⟩=>q [] α H Ext.refl r.ok gJ.nil⟩
theorem gC(ha:JE X e te)(g:JA X es tt)(j:bc (e::es) X.env=(ar,eval e X.env)::bc es X.env:=by rfl):JA X (e::es) (gD te tt):=by refine⟨λf M P Q w q=>ha.mono f _ _ _ (λx M1 q=>g.mono f _ _ _ (λxs M2 q=>w _ _ q) q) q,PA.weak (LS ha.p g.p j) λσ H Q q=>?_⟩;obtain⟨F,α,f,M,r,q⟩:=q;refine⟨F,α,f,M,r,ha.mono f _ _ _ (λd M1 q v m H1 h n o=>⟨F,m,f,M1,r.grow h n,g.mono f _ _ _ (λds M2 q u y z i A B=>?_) q⟩) q⟩;exact q (v::u) y z (h.trans i) A (gJ.cons (i.rep o) B)
theorem qd{K:bz}{F α:List ak}{H:Hp}{M:Ms}{p:ak}{ds:List D}{f:List V}(o:OK K F α H M)(g:H p=ao)(h:gJ K α (jy F α M H) ds f)(e:Ext F α H M α (upd H p (.lst f)) M):Rep K α (jy F α M (upd H p (.lst f))) (.lst ds) (.ref p):=by unfold Rep;exact⟨p,f,rfl,by show kg _ _ p=_;rw[lL (o.new g),ip],e.Ju h⟩
theorem nM{K:bz}{F α:List ak}{H:Hp}{M:Ms}{p:ak}{ds:List D}{f:List V}(o:OK K F α H M)(g:H p=ao)(h:gJ K α (jy F α M H) ds f)(e:Ext F α H M α (upd H p (.tup f)) M):Rep K α (jy F α M (upd H p (.tup f))) (.tup ds) (.ref p):=by unfold Rep;exact⟨p,f,rfl,.inl (.inl (by show kg _ _ p=_;rw[lL (o.new g),ip])),e.Ju h⟩
def iT (tt:DA):DE:=λf M Q=>tt f M λds M1=>ds.length<=aC/\Q (.tup ds) M1
theorem iD{m}(h:JA X es tt):JE X (.Tuple es m pos) (iT tt):=by refine⟨λf M P Q w q=>h.mono f _ _ _ (λds M1 q=>⟨q.1,w _ _ q.2⟩) q,PE.weak (adS h.p) λσ H Q q=>?_⟩;obtain⟨F,α,f,M,r,q⟩:=q;refine⟨F,α,f,M,r,h.mono f _ _ _ (λds M1 q n u H1 o g i=>?_) q⟩;exact⟨by rw[<-gJ.length ds n i];exact q.1,λp j=>vK.new g j (vK.grow o _ _ q.2) (nM g j i)⟩
def iG (g:GN)(tt:DA):DE:=λf M Q=>tt f M λds M1=>g ds M1 Q
theorem Bl{g:GN}(m:jW g)(ha:JA X es tt):∀f M (P Q:DK),(∀d M,P d M->Q d M)->iG g tt f M P->iG g tt f M Q:=λf M P Q w q=>ha.mono f _ _ _ (λds M1 q=>m _ _ _ _ w q) q
theorem XQ{f:ae}{g:GN}(o:JB X f g)(ha:JA X es tt){σ:L2.St}{H:Hp}{Q:VK}(h:lE X.K (iG g tt) σ H Q):tCB (rDs X.K g) (lA X.K tt) σ H Q:=by obtain⟨F,α,i,M,r,h⟩:=h;exact⟨F,α,i,M,r,ha.mono i _ _ _ (λds M1 q v j H1 m n u=>⟨F,j,M1,ds,n,u,o.mono _ _ _ _ (vK.grow m) q⟩) h⟩
theorem nA{id:String}{g:GN}(o:JB X (.builtin id) g)(hm:X.mg x=ao)(f:bU x=aa (.builtin id))(ha:JA X (e::es) tt)(i:Gl X x:=by rfl)(hn:x≠"__name__":=by decide)(j:(x==("__debug__":ay))=ar:=by decide)
(m:bc (e::es) X.env=(ar,eval e X.env)::bc es X.env:=by rfl)(n:(c7 pos (bc es X.env)).any (·.1)=ar:=by rfl):JE X (.Call (.Name x p) (e::es) [] pos) (iG g tt):=
 ⟨Bl o.mono ha,PE.weak (Gc o.p i hm f ha.p hn j m n) λσ H Q h=>XQ o ha h⟩
theorem j_t{T:String}{g:GN}(o:JB X (.type T) g)(hm:X.mg x=ao)(f:bU x=aa (.type T))(ha:JA X (e::es) tt)(i:Gl X x:=by rfl)(hn:x≠"__name__":=by decide)(j:(x==("__debug__":ay))=ar:=by decide)
(m:bc (e::es) X.env=(ar,eval e X.env)::bc es X.env:=by rfl)(n:(c7 pos (bc es X.env)).any (·.1)=ar:=by rfl):JE X (.Call (.Name x p) (e::es) [] pos) (iG g tt):=
 ⟨Bl o.mono ha,PE.weak (C5 o.p i hm f ha.p hn j m n) λσ H Q h=>XQ o ha h⟩
def jX (K:bz)(g:GN):Sp:=λf H Q _=>∃F α M ds,OK K F α H M/\gJ K α (jy F α M H) ds f/\g ds M (vK K F α H M Q)
structure ie(P:ba)(w:bI)(K:bz)(mg:ay->Option ae)(cv:az)(k:Nat)(x:ay)(ps:List ay)(g:GN):Prop where
 mono:jW g
 p:ny P w K mg cv k x ps (jX K g)
theorem iP{k:Nat}{i:List ay}{g:GN}(h:ie X.prog X.w X.K X.mg X.cv k x i g)(j:jU k X.A)(ha:JA X (e::es) tt)(m:Gl X x:=by rfl)(n:(x==("__debug__":ay))=ar:=by decide)
(o:bc (e::es) X.env=(ar,eval e X.env)::bc es X.env:=by rfl)(u:(c7 pos (bc es X.env)).any (·.1)=ar:=by rfl):JE X (.Call (.Name x p) (e::es) [] pos) (iG g tt):=by refine⟨Bl h.mono ha,PE.weak (age h.p j ha.p m n o u) λσ H Q q=>?_⟩;obtain⟨F,α,f,M,r,q⟩:=q;refine⟨F,α,f,M,r,ha.mono f _ _ _ (λds M1 q v y H1 z B C=>?_) q⟩;show jX X.K g (v++[]) H1 Q E0;rw[aR];exact⟨F,y,M1,ds,B,C,h.mono _ _ _ _ (vK.grow z) q⟩
theorem agf{k:Nat}{f:List ay}{g:GN}(h:ie X.prog X.w X.K X.mg X.cv k x f g)(i:jU k X.A)(j:Gl X x:=by rfl)(m:(x==("__debug__":ay))=ar:=by decide):JE X (.Call (.Name x p) [] [] pos) (iG g gK):=by refine⟨Bl h.mono (gF (X:=X)),PE.weak (aee h.p i j m) λσ H Q q=>?_⟩;obtain⟨F,α,n,M,r,q⟩:=q;show jX X.K g ([]++[]) H Q E0;exact⟨F,α,M,[],r.ok,gJ.nil,q⟩
end
end L3
namespace L2
section
variable {X:Cx} {cq:List (ak×cm)} {σ:St} {H:Hp} {s:aq} {a:ak} {hZ:List (Key×V)}
theorem Inv.ghost{w g:HO}(I:Inv X cq σ H s)(ha:H a=aa w)(j:∀xs,w≠.tup xs)(A:∀x,w≠.own x)(B:∀i,w≠.A8 i)(C:∀o u,X.jG a≠aa (.FY o u))
(ok:jK X.prog X.w (upd H a g) s.heap a g):Inv X cq σ (upd H a g) s:=by
 have f:∀b,H b=ao->b≠a:=λb h z=>by rw[z,ha] at h;cases h
 refine⟨I.ok,I.os,I.bare,⟨I.cv.keep,I.cv.slot,λb o q n E=>?_,I.cv.there,λb xs q=>?_,λb o u q=>?_,λb i q=>?_⟩,I.loc,I.cell,?_,λx c e=>?_,λp G=>?_,λb J q=>?_,I.len⟩
 .have:=I.cv.free b o q n E;rw[g9 (f b this)];exact this
 .have:=I.cv.C1 b xs q;rw[g9 λz=>by rw[z,ha] at this;exact j xs (bD this)];exact this
 .have:=I.cv.A9 b o u q;rw[g9 λz=>C o u (by rw[<-z];exact q)];exact this
 .obtain⟨m,e⟩:=I.cv.Ba b i q;exact⟨m,by rw[g9 λz=>by rw[z,ha] at e;exact B _ (bD e)];exact e⟩
 .rw[g9 (f _ I.free)];exact I.free
 .rw[g9 (f _ (I.wS x c e))];exact I.wS x c e
 .obtain⟨L,y,M⟩:=I.pin p G;exact⟨L,by rw[g9 (f _ y)];exact y,M⟩
 .by_cases z:b=a
  .subst z;rw[ip] at q;cases q;exact ok
  .rw[g9 z] at q;refine(I.jo b J q).FZ (λc v _ r=>r) (λc r=>?_) (λc xs r=>?_)
   .rw[g9 λz=>by rw[z,ha] at r;exact A _ (bD r)];exact r
   .rw[g9 λz=>by rw[z,ha] at r;exact j _ (bD r)];exact r
theorem Inv.aej{o:cm}(I:Inv X cq σ H s)(ha:H a=aa (.FY o (.dK hZ)))(b:∀o u,X.jG a≠aa (.FY o u)):Inv X cq σ (upd H a (.dK hZ)) s:=by obtain⟨_,z,hd,f,r,g,es,h,e,c⟩:=(show jK X.prog X.w H s.heap a (.FY o (.dK hZ)) from I.jo a _ ha);exact I.ghost ha (λ_ z=>by cases z) (λ_ z=>by cases z) (λ_ z=>by cases z) b ⟨z,hd,f,r,g,es,h,e,c⟩
def TH (X:Cx)(P:Hp->Prop)(H:Hp):Prop:=P H\/∃a o hZ,H a=aa (.FY o (.dK hZ))/\(∀o u,X.jG a≠aa (.FY o u))/\P (upd H a (.dK hZ))
theorem TH.get{P:Hp->Prop}(I:Inv X cq σ H s)(h:TH X P H):∃b,Inv X cq σ b s/\P b:=by
 rcases h with h|⟨a,o,hZ,e,n,h⟩
 .exact⟨H,I,h⟩
 .exact⟨_,I.aej e n,h⟩
noncomputable def thD(X:Cx)(D:Ends):Ends:=⟨λσ=>TH X (D.nx σ),λv=>TH X (D.rt v),λσ=>TH X (D.bk σ),λσ=>TH X (D.ct σ)⟩
theorem Gu{st:bL}{t n:TS}(h:PS X st t)(w:∀D σ H,n D σ H->t (thD X D) σ H):PS X st n:=λcq s σ H D I q=>
 kq (h cq s σ H (thD X D) I (w D σ H q)) λf o j=>by
  cases f with
  |next=>obtain⟨b,m,c,q⟩:=j;obtain⟨e,g,i⟩:=TH.get c q;exact⟨b,e,g,i⟩
  |brk=>obtain⟨b,m,c,q⟩:=j;obtain⟨e,g,i⟩:=TH.get c q;exact⟨b,e,g,i⟩
  |cont=>obtain⟨b,m,c,q⟩:=j;obtain⟨e,g,i⟩:=TH.get c q;exact⟨b,e,g,i⟩
  |ret u=>obtain⟨v,b,m,c,r,q⟩:=j;obtain⟨e,g,i⟩:=TH.get c q;exact⟨v,b,e,g,r,i⟩
theorem XR{e:bC}{t b:TE}(h:PE X e t)(w:∀σ H Q,b σ H Q->t σ H (λv=>TH X (Q v))):PE X e b:=λcq s σ H Q I q=>
 kq (h cq s σ H _ I (w σ H Q q)) λu j ⟨v,m,c,r,q⟩=>by obtain⟨f,g,i⟩:=TH.get c q;exact⟨v,f,g,r,i⟩
end
end L2
namespace L3
open L2
section
variable {K:bz} {H H':Hp} {a:ak}
end
section
variable {K:bz} {F α:List ak} {H:Hp} {M:Ms} {a:ak} {hZ:List (Key×V)} {w w':HO}
end
noncomputable def er(p:ak)(H:Hp):Hp:=λb=>if b=p then ao else H b
structure XS(X:Cx)(F iF:List ak)(H1 Hf:Hp)(M1:Ms)(T:Hp->Hp):Prop where
 ok:OK X.K F iF Hf M1
 rep:∀d v,Rep X.K iF (jy F iF M1 H1) d v->Rep X.K iF (jy F iF M1 Hf) d v
 e:∀iz H' M',Ext F iF Hf M1 iz H' M'->OK X.K F iz H' M'->Ext F iF H1 M1 iz (T H') M'/\OK X.K F iz (T H') M'/\∀d v,Rep X.K iz (jy F iz M' H') d v->Rep X.K iz (jy F iz M' (T H')) d v
 h:∀iz H' M' (P:Hp->Prop),Ext F iF Hf M1 iz H' M'->P (T H')->TH X P H'
 c:∀p H' x,Hf p=ao->H' p=aa x->upd (T (er p H')) p x=T H'
 n:∀p H',Hf p=ao->H' p=ao->T H' p=ao
 k:∀iz H' M' b φ,Ext F iF Hf M1 iz H' M'->H' b=aa (.ext φ)->T H' b=aa (.ext φ)
theorem gJ.imp{K:bz}{α:List ak}{H b:Hp}(f:∀d v,Rep K α H d v->Rep K α b d v):∀(ds:List D) (a:List V),gJ K α H ds a->gJ K α b ds a
 |[],a,h=>by unfold gJ at h |-;exact h
 |d::ds,a,h=>by unfold gJ at h |-;obtain⟨v,r,q,z,y⟩:=h;exact⟨v,r,q,f d v z,gJ.imp f ds r y⟩
section
variable {X:Cx} {F iF:List ak} {H1 Hf:Hp} {M1:Ms} {T:Hp->Hp}
theorem XS.refl(o:OK X.K F iF H1 M1):XS X F iF H1 H1 M1 id:=
 ⟨o,λ_ _ r=>r,λ_ _ _ e o=>⟨e,o,λ_ _ r=>r⟩,λ_ _ _ _ _ p=>.inl p,λp a x _ h=>by
  funext b;show upd (er p a) p x b=a b;by_cases z:b=p
  .rw[z,ip,h]
  .rw[g9 z];unfold er;rw[if_neg z],λ_ _ _ h=>h,λ_ _ _ _ _ _ h=>h⟩
theorem XS.rs(z:XS X F iF H1 Hf M1 T){σ:L2.St}{a:pd}(r:R X.K F iF H1 σ a M1):R X.K F iF Hf σ a M1:=⟨z.ok,r.len,λi d q=>by obtain⟨v,b,c⟩:=r.sl i d q;exact⟨v,b,z.rep d v c⟩⟩
theorem XS.rt(z:XS X F iF H1 Hf M1 T){a:List ak}{b:Hp}{c:Ms}{g:L2.St}{h:pd}(e:Ext F iF Hf M1 a b c)(f:R X.K F a b g h c):R X.K F a (T b) g h c:=by
 obtain⟨_,j,m⟩:=z.e _ _ _ e f.ok;exact⟨j,f.len,λi d q=>by obtain⟨v,n,o⟩:=f.sl i d q;exact⟨v,n,m d v o⟩⟩
end
def aij (K:bz)(α:List ak)(c:Hp):OD->HO->Prop
 |.lst ds,b=>∃a,b=.lst a/\gJ K α c ds a
 |.kt e ds,b=>∃a,b=.dK (e.zip a)/\e.length=ds.length/\gJ K α c ds a
 |.ins _ _ _,_=>False
 |.fz _ _ _ _,_=>False
noncomputable def OD.toD:OD->D
 |.lst ds=>.lst ds
 |.kt a ds=>.kt a ds
 |.ins C ns ds=>.ins C ns ds
 |.fz k _ _ _=>.loc k
abbrev DF:=pd->Ms->(OD->Ms->Prop)->Prop
abbrev fK(K:bz)(F α:List ak)(H:Hp)(M:Ms)(Q:VK):OD->Ms->Prop:=λo M1=>∀p b a H1,Ext F α H M a H1 M1->OK K F a H1 M1->H1 p=ao->aij K a (jy F a M1 H1) o b->Q (.ref p) (upd H1 p b)
def lF (K:bz)(t:DF):TE:=λσ H Q=>∃F α a M,R K F α H σ a M/\t a M (fK K F α H M Q)
structure JF(X:Cx)(e:bC)(t:DF):Prop where
 mono:∀δ M (P Q:OD->Ms->Prop),(∀d M,P d M->Q d M)->t δ M P->t δ M Q
 p:PE X e (lF X.K t)
section
variable {K:bz} {F α iz:List ak} {H H':Hp} {M M':Ms}
theorem fK.grow{Q:VK}(e:Ext F α H M iz H' M'):∀d a,fK K F α H M Q d a->fK K F iz H' M' Q d a:=λd a h p b c f g i j m=>h p b c f (e.trans g) i j m
theorem fK.FY{Q:VK}{o:OD}{M1:Ms}(h:vK K F α H M Q o.toD M1):fK K F α H M Q o M1:=by
 intro p m i H1 j b c a;have q:vK K F i H1 M1 Q o.toD M1:=vK.grow j _ _ h;refine vK.new b c q λe=>?_;cases o with
 |lst ds=>obtain⟨f,rfl,r⟩:=a;exact qd b c r e
 |kt g ds=>
  obtain⟨f,rfl,l,r⟩:=a;show Rep K _ _ (.kt g ds) _;unfold Rep;exact⟨p,f,rfl,.inl (by show kg _ _ p=_;rw[lL (b.new c),ip]),l,e.Ju r⟩
 |ins C ns ds=>exact a.elim
 |fz k n g ds=>exact a.elim
theorem fK.own{Q:VK}{o:OD}{M1:Ms}(h:vK K F α H M Q (.loc M1.length) (M1++[aa o])):fK K F α H M Q o M1:=by
 intro p f q H1 i c a b;have g:=c.Gn (x:=o) a (Bi (o:=f) a);obtain⟨j,m⟩:=c.enter (x:=o) (H':=upd H1 p f) a (Bi a) (by
  cases o with
  |lst ds=>obtain⟨e,rfl,r⟩:=b;exact⟨e,ip,gJ.mono (cc _ _) g _ _ r⟩
  |kt n ds=>obtain⟨e,rfl,l,r⟩:=b;exact⟨e,ip,l,gJ.mono (cc _ _) g _ _ r⟩
  |ins C ns ds=>exact b.elim
  |fz k u n ds=>exact b.elim)
 refine h _ _ _ (i.trans m) j ?_;unfold Rep;exact⟨p,by rw[<-c.ml];simp,rfl⟩
end
section
variable {X:Cx} {a b c e:bC} {es rest:List bC} {ta tb tc te:DE} {tA W9:DT} {tt:DA} {pos p p2 p3:d8} {x:ay} {tf:DF}
def jz (t:DF):DE:=λf M Q=>t f M λo M1=>Q o.toD M1
def lN (t:DF):DE:=λf M Q=>t f M λo M1=>Q (.loc M1.length) (M1++[aa o])
theorem i5(h:JF X e tf):JE X e (jz tf):=⟨λf M P Q w q=>h.mono f _ _ _ (λo M1 q=>w _ _ q) q,PE.weak h.p λσ H Q ⟨F,α,f,M,r,q⟩=>⟨F,α,f,M,r,h.mono f _ _ _ (λo M1 q=>fK.FY q) q⟩⟩
theorem kX(h:JF X e tf):JE X e (lN tf):=⟨λf M P Q w q=>h.mono f _ _ _ (λo M1 q=>w _ _ q) q,PE.weak h.p λσ H Q ⟨F,α,f,M,r,q⟩=>⟨F,α,f,M,r,h.mono f _ _ _ (λo M1 q=>fK.own q) q⟩⟩
def ku (tt:DA):DF:=λf M Q=>tt f M λds M1=>ds.length<=aC/\Q (.lst ds) M1
theorem iM(h:JA X es tt):JF X (.List es pos) (ku tt):=by refine⟨λf M P Q w q=>h.mono f _ _ _ (λds M1 q=>⟨q.1,w _ _ q.2⟩) q,PE.weak (adT h.p) λσ H Q q=>?_⟩;obtain⟨F,α,f,M,r,q⟩:=q;refine⟨F,α,f,M,r,h.mono f _ _ _ (λds M1 q g j H1 m n i=>?_) q⟩;exact⟨by rw[<-gJ.length ds g i];exact q.1,λp o=>q.2 p _ j H1 m n o ⟨g,rfl,i⟩⟩
def Gv:DF:=λf M Q=>Q (.kt [] []) M
theorem Bm:JF X (.Dict [] [] pos) Gv:=
 ⟨λf M P Q w q=>w _ _ q,PE.weak Xs λσ H Q ⟨F,α,f,M,r,q⟩=>λp g=>q p _ α H Ext.refl r.ok g ⟨[],rfl,rfl,gJ.nil⟩⟩
end
structure nN where
 nx:pd->Ms->Prop
 rt:DK
 bk:pd->Ms->Prop
 ct:pd->Ms->Prop
abbrev DS:=nN->pd->Ms->Prop
structure nN.le(P Q:nN):Prop where
 nx:∀δ M,P.nx δ M->Q.nx δ M
 rt:∀d M,P.rt d M->Q.rt d M
 bk:∀δ M,P.bk δ M->Q.bk δ M
 ct:∀δ M,P.ct δ M->Q.ct δ M
abbrev sK(K:bz)(F α:List ak)(H:Hp)(M:Ms)(Q:L2.St->Hp->Prop):pd->Ms->Prop:=λf b=>∀c e a,Ext F α H M e a b->R K F e a c f b->Q c a
noncomputable def xE(K:bz)(F α:List ak)(H:Hp)(M:Ms)(E:Ends):nN:=⟨sK K F α H M E.nx,vK K F α H M E.rt,sK K F α H M E.bk,sK K F α H M E.ct⟩
def lS (K:bz)(t:DS):TS:=λE σ H=>∃F α a M,R K F α H σ a M/\t (xE K F α H M E) a M
section
variable {K:bz} {F α iz:List ak} {H H':Hp} {M M':Ms}
theorem sK.grow{Q:L2.St->Hp->Prop}(e:Ext F α H M iz H' M'):∀d a,sK K F α H M Q d a->sK K F iz H' M' Q d a:=λd a h v b c f g=>h v b c (e.trans f) g
theorem xE.grow{E:Ends}(e:Ext F α H M iz H' M'):(xE K F α H M E).le (xE K F iz H' M' E):=⟨sK.grow e,vK.grow e,sK.grow e,sK.grow e⟩
end
structure JS(X:Cx)(st:bL)(t:DS):Prop where
 mono:∀(P Q:nN) δ M,P.le Q->t P δ M->t Q δ M
 p:PS X st (lS X.K t)
structure Ou(X:Cx)(st:List bL)(t:DS):Prop where
 mono:∀(P Q:nN) δ M,P.le Q->t P δ M->t Q δ M
 p:Jo X st (lS X.K t)
section
variable {X:Cx} {c e:bC} {te:DE} {tA:DT} {t u:DS} {pos p p2:d8} {x:ay} {st:bL} {sts as bs:List bL}
def hX:DS:=λE a M=>E.nx a M
def gW (t u:DS):DS:=λE a M=>t {E with nx:=u E} a M
theorem hR:Ou X [] hX:=⟨λP Q a M w q=>w.nx _ _ q,Jo.weak aav λE σ H ⟨F,α,a,M,r,q⟩=>q σ α H Ext.refl r⟩
theorem gH(h:JS X st t):Ou X [st] t:=⟨h.mono,aaw h.p⟩
theorem gG(a:JS X st t)(b:Ou X sts u):Ou X (st::sts) (gW t u):=by refine⟨λP Q f M w q=>a.mono {P with nx:=u P} {Q with nx:=u Q} _ _ ⟨λf M q=>b.mono _ _ _ _ w q,w.rt,w.bk,w.ct⟩ q,Jo.weak (Xb a.p b.p) λE σ H q=>?_⟩;obtain⟨F,α,f,M,r,q⟩:=q;refine⟨F,α,f,M,r,a.mono {xE X.K F α H M E with nx:=u (xE X.K F α H M E)} _ _ _ ⟨λg M1 q h i H1 j m=>⟨F,i,g,M1,m,b.mono _ _ _ _ (xE.grow j) q⟩,λ_ _ q=>q,λ_ _ q=>q,λ_ _ q=>q⟩ q⟩
def hW (te:DE):DS:=λE a M=>te a M E.rt
theorem gN(b:JE X e te):JS X (.Return (aa e) pos) (hW te):=⟨λP Q a M w q=>b.mono a _ _ _ w.rt q,PS.weak (adx b.p) λE σ H ⟨F,α,a,M,r,q⟩=>⟨F,α,a,M,r,q⟩⟩
def XT:DS:=λE a M=>E.rt .non M
theorem TZ:JS X (.Return ao pos) XT:=⟨λP Q a M w q=>w.rt _ _ q,PS.weak aay λE σ H ⟨F,α,a,M,r,q⟩=>q _ α H Ext.refl r.ok yX⟩
def rY:DS:=λ_ _ _=>False
theorem oi:JS X st rY:=⟨λP Q a M w q=>q,PS.weak Xc λE σ H ⟨F,α,a,M,r,q⟩=>q⟩
def ii (c:DT)(t u:DS):DS:=λE a M=>c a M λb M1=>if b=ag then t E a M1 else u E a M1
theorem hV(g:JT X c tA)(ha:Ou X as t)(h:Ou X bs u):JS X (.If c as bs pos) (ii tA t u):=by
 refine⟨λP Q a M w q=>g.mono a _ _ _ (λb M1 q=>?_) q,PS.weak (afH g.p ha.p h.p) λE σ H q=>?_⟩
 .cases b with
  |true=>rw[if_pos rfl] at q |-;exact ha.mono _ _ _ _ w q
  |false=>rw[if_neg ax] at q |-;exact h.mono _ _ _ _ w q
 .obtain⟨F,α,a,M,r,q⟩:=q;refine⟨F,α,a,M,r,g.mono a _ _ _ (λb M1 q i H1 f j=>?_) q⟩;cases b with
  |true=>
   rw[if_pos rfl] at q;show(if ag=ag then _ else _);rw[if_pos rfl];exact⟨F,i,a,M1,r.grow f j,ha.mono _ _ _ _ (xE.grow f) q⟩
  |false=>
   rw[if_neg ax] at q;show(if ar=ag then _ else _);rw[if_neg ax];exact⟨F,i,a,M1,r.grow f j,h.mono _ _ _ _ (xE.grow f) q⟩
def j8 (te:DE):DS:=λE a M=>te a M λ_ M1=>E.nx a M1
theorem jn(b:JE X e te)(g:eL e ao pos.line X.env=pure ar:=by rfl):JS X (.Expr e pos) (j8 te):=by refine⟨λP Q a M w q=>b.mono a _ _ _ (λd M1 q=>w.nx _ _ q) q,PS.weak (aax b.p g) λE σ H q=>?_⟩;obtain⟨F,α,a,M,r,q⟩:=q;exact⟨F,α,a,M,r,b.mono a _ _ _ (λd M1 q v h H1 f i j=>q σ h H1 f (r.grow f i)) q⟩
def iE (i:Nat)(te:DE):DS:=λE a M=>te a M λd M1=>E.nx (a.set i (aa d)) M1
theorem ib(i:Nat)(g:X.N.Nodup)(b:JE X e te)(hi:X.N[i]?=aa x:=by rfl)(h:Loc X.env.scope x:=by first|exact ai8 rfl|exact gm rfl)(j:eL e (aa (.Name x p)) pos.line X.env=pure ar:=by rfl)
(m:X.fn x=ag\/X.env.scope.names.lookup x=aa .local:=by first|exact .inl rfl|exact .inr rfl|assumption):JS X (.Assign [.Name x p] e pos) (iE i te):=by refine⟨λP Q a M w q=>b.mono a _ _ _ (λd M1 q=>w.nx _ _ q) q,PS.weak (adD g hi h b.p j m) λE σ H q=>?_⟩;obtain⟨F,α,a,M,r,q⟩:=q;exact⟨F,α,a,M,r,b.mono a _ _ _ (λd M1 q v n H1 f o y=>q _ n H1 f ((r.grow f o).set y)) q⟩
abbrev DG:=D->pd->Ms->(pd->Ms->Prop)->Prop
abbrev T0:=List D->pd->Ms->(pd->Ms->Prop)->Prop
def lG (K:bz)(g:DG):TG:=λv σ H Q=>∃F α a M d,R K F α H σ a M/\Rep K α (jy F α M H) d v/\g d a M (sK K F α H M Q)
def lGs (K:bz)(g:T0):WP:=λb σ H Q=>∃F α a M ds,R K F α H σ a M/\gJ K α (jy F α M H) ds b/\g ds a M (sK K F α H M Q)
structure JG(X:Cx)(tg:bC)(g:DG):Prop where
 mono:∀d δ M (P Q:pd->Ms->Prop),(∀δ M,P δ M->Q δ M)->g d δ M P->g d δ M Q
 p:PG X tg (lG X.K g)
structure JGs(X:Cx)(tg:List bC)(g:T0):Prop where
 mono:∀d δ M (P Q:pd->Ms->Prop),(∀δ M,P δ M->Q δ M)->g d δ M P->g d δ M Q
 p:WQ X tg (lGs X.K g)
theorem PG.weak{tg:bC}{g a:TG}(h:PG X tg g)(w:∀v σ H Q,a v σ H Q->g v σ H Q):PG X tg a:=λcq s σ H v u Q I r q=>h cq s σ H v u Q I r (w v σ H Q q)
theorem WQ.weak{tg:List bC}{g a:WP}(h:WQ X tg g)(w:∀v σ H Q,a v σ H Q->g v σ H Q):WQ X tg a:=λcq s σ H v u Q I r q=>h cq s σ H v u Q I r (w v σ H Q q)
def gQ (i:Nat):DG:=λd a M Q=>Q (a.set i (aa d)) M
theorem gR(i:Nat)(a:X.N.Nodup)(hi:X.N[i]?=aa x:=by rfl)(b:Loc X.env.scope x:=by first|exact ai8 rfl|exact gm rfl)(f:X.fn x=ag\/X.env.scope.names.lookup x=aa .local:=by first|exact .inl rfl|exact .inr rfl|assumption):JG X (.Name x pos) (gQ i):=
 ⟨λd g M P Q w q=>w _ _ q,PG.weak (aaz a hi b f) λv σ H Q ⟨F,α,g,M,d,r,h,q⟩=>q _ α H Ext.refl (r.set h)⟩
def jr:T0:=λds a M Q=>ds=[]/\Q a M
def hC (g:DG)(a:T0):T0:=λds b M Q=>match ds with|d::r=>g d b M λf M1=>a r f M1 Q|[]=>False
theorem iQ:JGs X [] jr:=⟨λd b M P Q w q=>⟨q.1,w _ _ q.2⟩,WQ.weak aaA λv σ H Q ⟨F,α,b,M,ds,r,a,e,q⟩=>by subst e;unfold gJ at a;exact⟨a,q σ α H Ext.refl r⟩⟩
theorem gY{g:DG}{h:T0}{es:List bC}(a:JG X e g)(b:JGs X es h)(m:(cz (e::es) X.env).map (·.2)=assign e X.env::(cz es X.env).map (·.2):=by rfl):JGs X (e::es) (hC g h):=by
 refine⟨λd f M P Q w q=>?_,WQ.weak (Xe a.p b.p m) λv σ H Q q=>?_⟩
 .cases d with
  |nil=>exact q.elim
  |cons d r=>exact a.mono _ _ _ _ _ (λf M q=>b.mono _ _ _ _ _ w q) q
 .obtain⟨F,α,f,M,ds,r,i,q⟩:=q;cases ds with
  |nil=>exact q.elim
  |cons d n=>
   unfold gJ at i;obtain⟨v1,o,rfl,y,z⟩:=i;refine⟨v1,o,rfl,F,α,f,M,d,r,y,a.mono _ _ _ _ _ (λA M1 q B C H1 j E=>?_) q⟩;exact⟨F,C,A,M1,n,E,j.Ju z,b.mono _ _ _ _ _ (sK.grow j) q⟩
def js (n:Nat)(a:T0):DG:=λd b M Q=>match d with|.tup ds=>ds.length=n/\a ds b M Q|_=>False
theorem jA{es:List bC}{k n:Nat}{b:T0}(h:JGs X es b)(i:X.calm=ag:=by rfl)(hn:(cz es X.env).length=n:=by rfl)(j:(cz es X.env).findIdx? (·.1)=ao:=by rfl):JG X (.Tuple es k pos) (js n b):=by
 refine⟨λd f M P Q w q=>?_,PG.weak (adA i h.p hn j) λv σ H Q q=>?_⟩
 .cases d<;>first|exact q.elim|exact⟨q.1,h.mono _ _ _ _ _ w q.2⟩
 .obtain⟨F,α,f,M,d,r,g,q⟩:=q;cases d<;>first|exact q.elim|skip
  unfold Rep at g;obtain⟨a,m,rfl,o,z⟩:=g;exact⟨a,m,rfl,nL il o,by rw[<-gJ.length _ _ z];exact q.1,F,α,f,M,_,r,z,q.2⟩
def pC (te:DE)(g:DG):DS:=λE a M=>te a M λd M1=>g d a M1 E.nx
theorem kB{tg:bC}{g:DG}(b:JE X e te)(f:JG X tg g)(i:ak9 [tg] e pos.line X.env=pure ar:=by rfl)(hw:ala [tg] e X.env=pure ao:=by rfl)
(j:(cz [tg] X.env).map (·.2)=[assign tg X.env]:=by rfl):JS X (.Assign [tg] e pos) (pC te g):=by refine⟨λP Q a M w q=>b.mono a _ _ _ (λd M1 q=>f.mono _ _ _ _ _ w.nx q) q,PS.weak (adC b.p f.p i hw j) λE σ H q=>?_⟩;obtain⟨F,α,a,M,r,q⟩:=q;refine⟨F,α,a,M,r,b.mono a _ _ _ (λd M1 q v m H1 h n o=>?_) q⟩;exact⟨F,m,a,M1,d,r.grow h n,o,f.mono _ _ _ _ _ (sK.grow h) q⟩
structure agg(K:bz)(F iF:List ak)(H1:Hp)(M1:Ms)(J:It)(items:List D)(st:Ms->Prop):Prop where
 go:∀i F' iz H' M',iF <+: iz->jV (jy F iF M1 H1) (jy F' iz M' H')->OK K F' iz H' M'->st M'->i<items.length->J.go i H'
 yld:∀(i:Nat) F' iz H' M' x H2 d,iF <+: iz->jV (jy F iF M1 H1) (jy F' iz M' H')->OK K F' iz H' M'->st M'->items[i]?=aa d->J.yld i H' x H2->OK K F' iz H2 M'/\Ext F' iz H' M' iz H2 M'/\Rep K iz (jy F' iz M' H2) d x
 stop:∀F' iz H' M',iF <+: iz->jV (jy F iF M1 H1) (jy F' iz M' H')->OK K F' iz H' M'->st M'->J.stop items.length H'
abbrev DI:=pd->Ms->(List D->(Ms->Prop)->Ms->Prop)->Prop
abbrev iK(X:Cx)(F α:List ak)(H:Hp)(M:Ms)(Q:It->Hp->Prop):List D->(Ms->Prop)->Ms->Prop:=λitems st M1=>∀J a H1 b T,Ext F α H M a H1 M1->OK X.K F a H1 M1->XS X F a H1 b M1 T->agg X.K F a b M1 J items st->Q J b
def lI (X:Cx)(t:DI):TI:=λσ H Q=>∃F α a M,R X.K F α H σ a M/\t a M (iK X F α H M Q)
structure JI(X:Cx)(tg e:bC)(t:DI):Prop where
 mono:∀δ M (P Q:List D->(Ms->Prop)->Ms->Prop),(∀l s M,P l s M->Q l s M)->t δ M P->t δ M Q
 p:PI X tg e (lI X t)
theorem PI.weak{tg:bC}{t a:TI}(h:PI X tg e t)(w:∀σ H Q,a σ H Q->t σ H Q):PI X tg e a:=λcq s σ H Q I q=>h cq s σ H Q I (w σ H Q q)
def xi (g:DG)(tb:DS)(st:Ms->Prop)(E:nN):List D->pd->Ms->Prop
 |[]=>λb M=>E.nx b M
 |x::xs=>λb M=>g x b M λh M1=>tb {E with nx:=λf a=>st a/\xi g tb st E xs f a,ct:=λf a=>st a/\xi g tb st E xs f a,bk:=E.nx} h M1
def pi (b:DI)(g:DG)(tb:DS):DS:=λE a M=>b a M λitems st M1=>st M1/\xi g tb st E items a M1
theorem C8{g:DG}{tb:DS}{st:Ms->Prop}(h:∀d b M (P Q:pd->Ms->Prop),(∀b M,P b M->Q b M)->g d b M P->g d b M Q)(i:∀(P Q:nN) b M,P.le Q->tb P b M->tb Q b M){P Q:nN}(w:P.le Q):∀xs b M,xi g tb st P xs b M->xi g tb st Q xs b M
 |[],b,M,q=>w.nx _ _ q
 |x::xs,b,M,q=>h _ _ _ _ _ (λj M1 q=>i {P with nx:=λf a=>st a/\xi g tb st P xs f a,ct:=λf a=>st a/\xi g tb st P xs f a,bk:=P.nx} {Q with nx:=λf a=>st a/\xi g tb st Q xs f a,ct:=λf a=>st a/\xi g tb st Q xs f a,bk:=Q.nx} _ _ ⟨λf a q=>⟨q.1,C8 h i w xs f a q.2⟩,w.rt,w.nx,λf a q=>⟨q.1,C8 h i w xs f a q.2⟩⟩ q) q
theorem kh{tg:bC}{body:List bL}{ti:DI}{g:DG}{tb:DS}(hi:JI X tg e ti)(hg:JG X tg g)(hb:Ou X body tb)(hp:akQ (model X.prog X.w) X.A X.env X.xe:=by exact akQ.never)(hc:X.calm=ag:=by rfl)
(hs:∀x,dh e X.env x=pure x:=by intro _;rfl):JS X (.For tg e body [] pos) (pi ti g tb):=by
 refine⟨λP Q U M w q=>hi.mono U _ _ _ (λitems st M1 q=>⟨q.1,C8 hg.mono hb.mono w _ _ _ q.2⟩) q,Gu (adF hp hc hi.p hg.p hb.p hs) λE σ H q=>?_⟩;obtain⟨F,α,U,M,r,q⟩:=q;refine⟨F,α,U,M,r,hi.mono U _ _ _ (λitems st M1 q J iF H1 Hf T e1 o1 z it=>?_) q⟩;obtain⟨s1,q⟩:=q;refine⟨λi m lY n=>m=items.length- i/\i<=items.length/\∃f rX a,Ext F iF Hf M1 f n a/\R X.K F f n lY rX a/\st a/\xi g tb st (xE X.K F α H M E) (items.drop i) rX a,⟨_,rfl,bi _,iF,U,M1,Ext.refl,z.rs (r.grow e1 o1),s1,q⟩,?_⟩
 rintro i m lY n ⟨rfl,hi',f,rX,a,e',O,s',q'⟩
 by_cases K2:i<items.length
 .rw[eB K2] at q';refine .inr ⟨it.go i F f n a e'.pre e'.same O.ok s' K2,λWR Y=>∃qJ δ2 M2,Ext F iF Hf M1 qJ Y M2/\R X.K F qJ Y WR δ2 M2/\st M2/\xi g tb st (xE X.K F α H M E) (items.drop (i+1)) δ2 M2,λWR Y h=>⟨_,by omega,rfl,K2,h⟩,λx Y y=>?_⟩;obtain⟨o2,e2,rx⟩:=it.yld i F f n a x Y items[i] e'.pre e'.same O.ok s' (by simp[K2]) y;refine⟨F,f,rX,a,items[i],O.grow e2 o2,rx,hg.mono _ _ _ _ _ (λδ3 M3 q3 σ3 Gs H3 e3 r3=>⟨F,Gs,δ3,M3,r3,hb.mono _ _ _ _ ?_ q3⟩) q'⟩;have I:=(e'.trans e2).trans e3;refine⟨λo B L N b C j G=>⟨b,o,B,I.trans j,G,L⟩,λd B L v b C j o4 G=>?_,λo B L N b C j G=>?_,λo B L N b C j G=>⟨b,o,B,I.trans j,G,L⟩⟩
  .obtain⟨t1,t2,t3⟩:=z.e b C B (I.trans j) o4;exact z.h b C B _ (I.trans j) (L v b (T C) (e1.trans t1) t2 (t3 d v G))
  .obtain⟨t1,_,_⟩:=z.e b C B (I.trans j) G.ok;exact z.h b C B _ (I.trans j) (L N b (T C) (e1.trans t1) (z.rt (I.trans j) G))
 .have e:i=items.length:=by omega
  subst e;rw[List.drop_length] at q';obtain⟨t1,_,_⟩:=z.e f n a e' O.ok;exact .inl ⟨it.stop F f n a e'.pre e'.same O.ok s',z.h f n a _ e' (q' lY f (T n) (e1.trans t1) (z.rt e' O))⟩
end
mutual
noncomputable def nl:D->Bool
 |.non|.bl _|.int _|.str _|.ty _|.uI _|.cls _=>ag
 |.loc _=>ar
 |.tup ds|.lst ds|.kt _ ds|.ins _ _ ds|.exc _ _ ds=>l9 ds
noncomputable def l9:List D->Bool
 |[]=>ag
 |d::ds=>nl d&&l9 ds
end
mutual
theorem Rep.nl {K:bz} {α β:List ak} {H:Hp}:∀(d:D) (v:V),L3.nl d=ag->Rep K α H d v->Rep K β H d v
 |.non,v,_,h=>by unfold Rep at h |-;exact h
 |.bl _,v,_,h=>by unfold Rep at h |-;exact h
 |.int _,v,_,h=>by unfold Rep at h |-;exact h
 |.str _,v,_,h=>by unfold Rep at h |-;exact h
 |.ty _,v,_,h=>by unfold Rep at h |-;exact h
 |.uI _,v,_,h=>by unfold Rep at h |-;exact h
 |.cls _,v,_,h=>by unfold Rep at h |-;exact h
 |.loc _,v,n,h=>by unfold L3.nl at n;cases n
 |.tup ds,v,n,h=>by unfold Rep at h |-;unfold L3.nl at n;obtain⟨a,b,r,q,z⟩:=h;exact⟨a,b,r,q,gJ.nl ds b n z⟩
 |.lst ds,v,n,h=>by unfold Rep at h |-;unfold L3.nl at n;obtain⟨a,b,r,q,z⟩:=h;exact⟨a,b,r,q,gJ.nl ds b n z⟩
 |.kt e ds,v,n,h=>by unfold Rep at h |-;unfold L3.nl at n;obtain⟨a,b,r,q,l,z⟩:=h;exact⟨a,b,r,q,l,gJ.nl ds b n z⟩
 |.ins C ns ds,v,n,h=>by unfold Rep at h |-;unfold L3.nl at n;obtain⟨a,c,b,r,q,l,z⟩:=h;exact⟨a,c,b,r,q,l,gJ.nl ds b n z⟩
 |.exc C ns ds,v,n,h=>by unfold Rep at h |-;unfold L3.nl at n;obtain⟨a,b,r,q,l,z⟩:=h;exact⟨a,b,r,q,l,gJ.nl ds b n z⟩
theorem gJ.nl {K:bz} {α β:List ak} {H:Hp}:∀(d:List D) (v:List V),L3.l9 d=ag->gJ K α H d v->gJ K β H d v
 |[],v,_,h=>by unfold gJ at h |-;exact h
 |d::ds,v,n,h=>by unfold gJ at h |-;unfold L3.l9 at n;rw[aQ] at n;obtain⟨u,r,q,z,y⟩:=h;exact⟨u,r,q,Rep.nl d u n.1 z,gJ.nl ds r n.2 y⟩
end
theorem L6:∀ds:List D,l9 ds=ds.all nl
 |[]=>rfl
 |d::ds=>by unfold l9;rw[fu,L6 ds]
theorem jS{β:Type}{f:β->D}(h:∀b,nl (f b)=ag)(l:List β):l9 (l.map f)=ag:=by rw[L6];simp[h]
noncomputable def vwk(k:Nat):Option (Option OD)->D
 |some (aa o)=>o.toD
 |_=>.loc k
noncomputable def vw(M:Ms):D->D
 |.loc k=>vwk k M[k]?
 |d=>d
noncomputable def fz(M:Ms):D->D
 |.tup ds=>.tup (ds.map (vw M))
 |d=>vw M d
section
variable {K:bz} {F α:List ak} {H:Hp} {M:Ms}
theorem yY:jV (jy F α M H) (kg F H):=λb o e=>by obtain⟨z,q⟩:=jh e;exact nZ e (λw=>z (bw _ w)) q
theorem OK.aik(o:OK K F α H M){a:ak}(h:a∈α):a∉F:=λw=>(o.fr a w).1 h
theorem Gw(o:OK K F α H M):∀(d:D) (v:V),Rep K α (jy F α M H) d v->Rep K α (kg F H) (vw M d) v:=λd v h=>by
 have gen:Rep K α (kg F H) d v:=Rep.mono (bd _) yY d v h;cases d with
 |loc k=>
  show Rep K α _ (vwk k M[k]?) v;cases e:M[k]? with
  |none=>exact gen
  |some x=>
   cases x with
   |none=>exact gen
   |some y=>
    obtain⟨a,g,c⟩:=o.own k y e;unfold Rep at h;obtain⟨p,i,rfl⟩:=h;rw[g] at i;cases i;have f:a∉F:=o.aik (aV g);cases y with
    |lst ds=>
     obtain⟨b,q,r⟩:=c;show Rep K α _ (.lst ds) _;unfold Rep;exact⟨a,b,rfl,mB f q rfl,gJ.mono (bd _) yY _ _ r⟩
    |kt m ds=>
     obtain⟨b,q,l,r⟩:=c;show Rep K α _ (.kt m ds) _;unfold Rep;exact⟨a,b,rfl,.inl (mB f q rfl),l,gJ.mono (bd _) yY _ _ r⟩
    |ins C ns ds=>
     obtain⟨n,b,q,l,r⟩:=c;show Rep K α _ (.ins C ns ds) _;unfold Rep;exact⟨a,n,b,rfl,mB f q rfl,l,gJ.mono (bd _) yY _ _ r⟩
    |fz j u m ds=>
     show Rep K α _ (.loc j) _;unfold Rep;exact⟨a,c.1,rfl⟩
 |_=>exact gen
theorem vJ{k:Nat}{d:D}(e:vw M (.loc k)=d):d=.loc k\/∃o,M[k]?=aa (aa o)/\d=o.toD:=by
 have e:vwk k M[k]?=d:=e;cases h:M[k]? with
 |none=>rw[h] at e;exact .inl e.symm
 |some x=>
  cases x with
  |none=>rw[h] at e;exact .inl e.symm
  |some o=>rw[h] at e;exact .inr ⟨o,rfl,e.symm⟩
theorem T1(o:OK K F α H M):∀(ds:List D) (a:List V),gJ K α (jy F α M H) ds a->gJ K α (kg F H) (ds.map (vw M)) a
 |[],a,h=>by unfold gJ at h;subst h;exact gJ.nil
 |d::ds,a,h=>by unfold gJ at h;obtain⟨v,r,rfl,z,y⟩:=h;exact gJ.cons (Gw o d v z) (T1 o ds r y)
theorem aek(o:OK K F α H M):∀(d:D) (v:V),Rep K α (jy F α M H) d v->Rep K α (kg F H) (fz M d) v:=λd v h=>by
 cases d with
 |tup ds=>
  unfold Rep at h;obtain⟨a,b,rfl,c,z⟩:=h;show Rep K α _ (.tup _) _;unfold Rep;exact⟨a,b,rfl,nL yY c,T1 o _ _ z⟩
 |_=>exact Gw o _ v h
theorem ki(o:OK K F α H M){d:D}{v:V}{ds:List D}(h:Rep K α (jy F α M H) d v)(e:vw M d=.lst ds):∃a b,v=.ref a/\H a=aa (.lst b)/\gJ K α (jy F α M H) ds b:=by
 cases d with
 |lst es=>
  cases(show(D.lst es)=.lst ds from e);unfold Rep at h;obtain⟨a,b,rfl,q,z⟩:=h;exact⟨a,b,rfl,il _ _ q,z⟩
 |loc k=>
  rcases vJ e with e|⟨x,f,e⟩
  .cases e
  .cases x<;>cases e;obtain⟨a,g,b,q,r⟩:=o.own k _ f;unfold Rep at h;obtain⟨i,c,rfl⟩:=h;rw[g] at c;cases c;exact⟨a,b,rfl,q,r⟩
 |_=>cases e
theorem _root_.L2.Jp.kr{H:Hp}{a:ak}{b:List (Key×V)}{k:Key}(e:Rd H a (.dK b)):Jp H a (kV k) (vD b k):=.inl ⟨b,k,e,rfl,rfl⟩
theorem Am(o:OK K F α H M){d:D}{v:V}{c:List Key}{ds:List D}(h:Rep K α (jy F α M H) d v)(e:vw M d=.kt c ds):∃a b,v=.ref a/\Rd H a (.dK (c.zip b))/\c.length=ds.length/\gJ K α (jy F α M H) ds b:=by
 cases d with
 |kt ls es=>
  cases(show(D.kt ls es)=.kt c ds from e);unfold Rep at h;obtain⟨a,b,rfl,q,l,z⟩:=h;exact⟨a,b,rfl,L5 il q,l,z⟩
 |loc k=>
  rcases vJ e with e|⟨x,g,e⟩
  .cases e
  .cases x<;>cases e;obtain⟨a,i,b,q,l,r⟩:=o.own k _ g;unfold Rep at h;obtain⟨j,f,rfl⟩:=h;rw[i] at f;cases f;exact⟨a,b,rfl,.inl q,l,r⟩
 |_=>cases e
theorem L7(o:OK K F α H M){d:D}{v:V}{C:ak}{ns:List ay}{ds:List D}(h:Rep K α (jy F α M H) d v)(e:vw M d=.ins C ns ds):∃a c b,v=.ref a/\H a=aa (.ins C c (ns.zip b))/\ns.length=ds.length/\gJ K α (jy F α M H) ds b:=by
 cases d with
 |ins g ls es=>
  cases(show(D.ins g ls es)=.ins C ns ds from e);unfold Rep at h;obtain⟨a,c,b,rfl,q,l,z⟩:=h;exact⟨a,c,b,rfl,il _ _ q,l,z⟩
 |loc k=>
  rcases vJ e with e|⟨x,i,e⟩
  .cases e
  .cases x<;>cases e;obtain⟨a,j,c,b,q,l,r⟩:=o.own k _ i;unfold Rep at h;obtain⟨m,f,rfl⟩:=h;rw[j] at f;cases f;exact⟨a,c,b,rfl,q,l,r⟩
 |_=>cases e
theorem Rn{d:D}{ds:List D}(e:vw M d=.tup ds):d=.tup ds:=by
 cases d with
 |loc k=>rcases vJ e with e|⟨x,a,e⟩<;>first|cases e|(cases x<;>cases e)
 |_=>exact e
theorem oj{d:D}{x:ay}(e:vw M d=.str x):d=.str x:=by
 cases d with
 |loc k=>rcases vJ e with e|⟨x,a,e⟩<;>first|cases e|(cases x<;>cases e)
 |_=>exact e
theorem xF{d:D}{x:List Int}(e:vw M d=.uI x):d=.uI x:=by
 cases d with
 |loc k=>rcases vJ e with e|⟨x,a,e⟩<;>first|cases e|(cases x<;>cases e)
 |_=>exact e
theorem An{d:D}{x:Int}(e:vw M d=.int x):d=.int x:=by
 cases d with
 |loc k=>rcases vJ e with e|⟨x,a,e⟩<;>first|cases e|(cases x<;>cases e)
 |_=>exact e
theorem om(o:OK K F α H M){d:D}{v:V}{ds:List D}(h:Rep K α (jy F α M H) d v)(e:vw M d=.tup ds):∃a b,v=.ref a/\Bb K H a b/\gJ K α (jy F α M H) ds b:=by cases Rn e;unfold Rep at h;obtain⟨a,b,rfl,q,z⟩:=h;exact⟨a,b,rfl,nL il q,z⟩
end
abbrev GP:=List D->(D->Prop)->Prop
def cl (g:GP):GN:=λds M Q=>l9 ds=ag/\g ds λd=>Q d M
abbrev iH(g:GP):Prop:=∀ds (P Q:D->Prop),(∀d,P d->Q d)->g ds P->g ds Q
theorem T2{g:GP}(m:iH g):jW (cl g):=λxs M P Q w q=>⟨q.1,m _ _ _ (λd q=>w _ _ q) q.2⟩
noncomputable def rZ(n:Nat)(ds:List D):pd:=ds.map aa++bP (n- ds.length) ao
def uf (n m:Nat)(tb:DS):GN:=λds M Q=>ds.length=m/\tb ⟨λ_ a=>Q .non a,Q,λ_ _=>False,λ_ _=>False⟩ (rZ n ds) M
def jB (n m:Nat)(tb:DS):GP:=λds Q=>ds.length=m/\tb ⟨λ_ _=>Q .non,λd a=>nl (fz a d)=ag/\Q (fz a d),λ_ _=>False,λ_ _=>False⟩ (rZ n ds) []
section
variable {P:ba} {w:bI} {K:bz} {mg:ay->Option ae} {cv:az}
theorem L8{F α:List ak}{H:Hp}{M:Ms}{N:List ay}{ds:List D}{a:List V}(o:OK K F α H M)(r:gJ K α (jy F α M H) ds a):R K F α H (L2.start N a) (rZ N.length ds) M:=by
 have b:=gJ.length _ _ r;refine⟨o,by simp[L2.start,rZ,b],λi d h=>?_⟩;unfold rZ at h;by_cases hi:i<ds.length
 .rw[bA (by simpa using hi)] at h;rw[aS] at h;cases e:ds[i]? with
  |none=>rw[e] at h;cases h
  |some x=>
   rw[e] at h;cases h;obtain⟨v,c,f⟩:=gJ.get ds a i d r e;refine⟨v,?_,f⟩;unfold L2.start;rw[bA (by simp;omega),aS,c];rfl
 .rw[b8 (by simp;omega)] at h;have:=aV h;rw[List.mem_replicate] at this;cases this.2
theorem XU{n:List ay}{ps:List ay}{X:Cx}{body:List bL}{tb:DS}(b:Ou X body tb){H:Hp}{c:List V}{Q:VK}{E:XK}(f:X.K=K)(h:jX K (uf n.length ps.length tb) c H Q E):
  ∃t,QB X body t/\t {nx:=λ_ a=>Q .non a,rt:=Q} (L2.start n c) H:=by subst f;obtain⟨F,α,M,ds,o,r,i,q⟩:=h;refine⟨_,⟨b.p⟩,F,α,rZ n.length ds,M,L8 o r,?_⟩;refine b.mono _ _ _ _ ?_ q;exact⟨λj m q u g a e r=>q _ g a e r.ok yX,λ_ _ q=>q,λ_ _ q=>q.elim,λ_ _ q=>q.elim⟩
theorem Gx{F α:List ak}{H:Hp}{M:Ms}{g:List ak}{c:Hp}{M2:Ms}(o:OK K F α H M)(i:Ext (lv α M++F) [] H [] g c M2)(m:OK K (lv α M++F) g c M2):Ext F α H M α c M/\OK K F α c M:=by
 have f:jV (jy F α M H) (jy F α M c):=λb x h=>yY _ _ (i.same b x (by show kg (lv [] []++(lv α M++F)) H b=_;exact h))
 have fr:∀a∈lv α M++F,c a=H a:=i.fr;have al:∀a,zC (H a)≠ao->zC (c a)≠ao:=λa h=>by
  by_cases z:a∈lv α M++F
  .rw[fr a z];exact h
  .cases e:H a with
   |none=>exact absurd (by rw[e]) h
   |some x=>
    rw[e] at h;have v:zC (aa x)=aa x:=by cases x<;>first|rfl|exact absurd rfl h
    have:=il _ _ (f a x (show kg _ H a=_ from mB z e v));rw[this,v];exactλz=>by cases z
 refine⟨⟨bd _,f,λa ha=>fr a (bw _ ha)⟩,o.ml,o.nd,λa ha=>⟨(o.fr a ha).1,al a (o.fr a ha).2⟩,λa ha=>al a (o.al a ha),λk x h=>?_,m.tb⟩;obtain⟨a,j,n⟩:=o.own k x h;exact⟨a,j,n.mono (bd _) f (fr a (cb _ (oa.mpr ⟨k,x,j,h⟩)))⟩
theorem Ro{n:List ay}{ps:List ay}{X:Cx}{body:List bL}{tb:DS}(i:Ou X body tb){H:Hp}{c:List V}{Q:VK}{E:XK}(m:X.K=K)(h:jX K (cl (jB n.length ps.length tb)) c H Q E):
  ∃t,QB X body t/\t {nx:=λ_ b=>Q .non b,rt:=Q} (L2.start n c) H:=by
 subst m;obtain⟨F,α,M,ds,o,r,hn,A,q⟩:=h;have o0:OK X.K (lv α M++F) [] H []:=⟨rfl,fS,λa ha=>⟨by simp,by
  rcases bg.mp ha with ha|ha
  .exact o.XM a ha
  .exact(o.fr a ha).2⟩,λa ha=>(by simp at ha),λk x h=>(by simp at h),o.tb⟩
 have u:gJ X.K [] (jy (lv α M++F) [] [] H) ds c:=gJ.nl ds c hn r;refine⟨_,⟨i.p⟩,lv α M++F,[],rZ n.length ds,[],L8 o0 u,?_⟩;refine i.mono _ _ _ _ ?_ q;refine⟨λB y q C z b e r=>?_,λd y q v z b e j r=>?_,λ_ _ q=>q.elim,λ_ _ q=>q.elim⟩
 .obtain⟨f,g⟩:=Gx o e r.ok;exact q _ α b f g yX
 .obtain⟨f,g⟩:=Gx o e j;exact q.2 v α b f g (Rep.nl _ _ q.1 (aek j d v r))
end
noncomputable def C9(fr:List (Option Nat))(a:pd):pd:=fr.map λo=>match o with
 |none=>ao
 |some j=>(a[j]?).getD ao
noncomputable def CZ(fr:List (Option Nat))(a:pd):pd:=dz (λo d=>match o with|none=>ao|some _=>d) fr a
def Ey (g:DG)(tt:DT)(e:DE)(x:D)(f:pd)(M:Ms)(c:Option D->pd->Ms->Prop):Prop:=
 g x f M λa M1=>tt a M1 λb M2=>if b=ag then e a M2 λd h=>c (aa d) a h else c ao a M2
def lQ (fr:List (Option Nat))(g:DG)(tt:DT)(a:DE)(st:Ms->Prop)(Q:List D->Ms->Prop):List D->List D->pd->Ms->Prop
 |[],acc,_,M=>Q acc M
 |x::xs,acc,c,M=>Ey g tt a x c M λo b M1=>st M1/\match o with
  |some d=>acc.length<aC/\lQ fr g tt a st Q xs (acc++[d]) (CZ fr b) M1
  |none=>lQ fr g tt a st Q xs acc (CZ fr b) M1
def jY (fr:List (Option Nat))(b:DI)(g:DG)(tt:DT)(c:DE):DF:=λa M Q=>b a M λitems st M1=>st M1/\lQ fr g tt c st (λds e=>Q (.lst ds) e) items [] (C9 fr a) M1
structure JIf(X:Cx)(ifs:List bC)(t:DT):Prop where
 mono:∀δ M (P Q:Bool->Ms->Prop),(∀d M,P d M->Q d M)->t δ M P->t δ M Q
 p:PIf X ifs (lT X.K t)
def r6:DT:=λ_ M Q=>Q ag M
theorem j3{X:Cx}:JIf X [] r6:=⟨λa M P Q w q=>w _ _ q,λcq s σ H Q I ⟨F,α,a,M,r,q⟩=>aa6 cq s σ H Q I (q α H Ext.refl r.ok)⟩
theorem Bo{X:Cx}{c:bC}{t:DT}(h:JT X c t):JIf X [c] t:=⟨h.mono,aa7 h.p⟩
section
variable {K:bz} {F α iz XJ:List ak} {H H' H'':Hp} {M M' Jt:Ms} {σ:L2.St} {δ:pd} {p:ak}
theorem R.slots(r:R K F α H σ δ M)(fr:List (Option Nat)):R K F α H (L2.slots fr σ) (C9 fr δ) M:=by
 refine⟨r.ok,by simp[L2.slots,C9],λi d h=>?_⟩;unfold C9 at h;unfold L2.slots;rw[aS] at h |-;cases e:fr[i]? with
 |none=>rw[e] at h;cases h
 |some o=>
  rw[e] at h;cases o with
  |none=>cases h
  |some j=>
   have h:(δ[j]?).getD ao=aa d:=by simpa using h
   cases a:δ[j]? with
   |none=>rw[a] at h;cases h
   |some q=>
    rw[a] at h;have h:q=aa d:=h;subst h;obtain⟨v,b,c⟩:=r.sl j d a;exact⟨v,by show aa ((σ[j]?).getD ao)=_;rw[b];rfl,c⟩
theorem R.CZ(r:R K F α H σ δ M){fr:List (Option Nat)}(b:fr.length=δ.length):R K F α H σ (L3.CZ fr δ) M:=by
 refine⟨r.ok,by simp[L3.CZ,b,r.len],λi d h=>?_⟩;unfold L3.CZ at h;rw[List.getElem?_zipWith] at h;cases e:fr[i]? with
 |none=>rw[e] at h;simp at h
 |some o=>
  cases a:δ[i]? with
  |none=>rw[e,a] at h;simp at h
  |some q=>
   rw[e,a] at h;cases o with
   |none=>simp at h
   |some j=>
    have h:q=aa d:=by simpa using h
    subst h;exact r.sl i d a
theorem Ext.skip(o:OK K F α H M)(g:H p=ao)(e:Ext F α H M iz H' M')(e':Ext (p::F) iz H' M' XJ H'' Jt):Ext F α H M XJ H'' Jt:=by
 refine⟨e.pre.trans e'.pre,λb x h=>?_,λa ha=>(e'.fr a (aH _ ha)).trans (e.fr a ha)⟩;have i:b≠p:=λz=>by have:=(jh h).2;rw[z,g] at this;cases this
 have c:=jh (e.same b x h);have j:jy (p::F) iz M' H' b=aa x:=by
  show kg _ H' b=_;refine nZ h (λw=>c.1 ?_) c.2
  .simp only [bg,aO] at w |-;rcases w with w|w|w
   .exact .inl w
   .exact absurd w i
   .exact .inr w
 have f:=jh (e'.same b x j);show kg _ H'' b=_;refine nZ h (λw=>f.1 ?_) f.2
 .simp only [bg,aO] at w |-;rcases w with w|w
  .exact .inl w
  .exact .inr (.inr w)
theorem Ext.Vs(f:H p=ao)(g:p∉F){x:HO}(e:Ext F α H M iz H' M'):Ext F α H M iz (upd H' p x) M':=by
 refine⟨e.pre,λb y h=>?_,λa ha=>by rw[g9 λz=>g (by rw[<-z];exact ha)];exact e.fr a ha⟩;have i:b≠p:=λz=>by have:=(jh h).2;rw[z,f] at this;cases this
 have c:=jh (e.same b y h);show kg _ _ b=_;exact nZ h c.1 (by rw[g9 i];exact c.2)
theorem Gy{x:HO}:jy (p::F) α M (upd H p x)=jy (p::F) α M H:=by
 funext b;show kg _ _ b=kg _ _ b;by_cases a:b∈lv α M++p::F
 .rw[q8 a,q8 a]
 .rw[lL a,lL a,g9 λz=>a (by rw[z];simp)]
theorem OK.Vs(o:OK K (p::F) α H M){x:HO}(f:zC (aa x)=aa x:=by rfl):OK K (p::F) α (upd H p x) M:=by
 have b:p∉α:=(o.fr p av).1;refine⟨o.ml,o.nd,λa ha=>⟨(o.fr a ha).1,?_⟩,λa ha=>?_,λk y h=>?_,o.tb.upd (.inl (o.fr p av).2)⟩
 .by_cases e:a=p
  .rw[e,ip,f];exactλz=>by cases z
  .rw[g9 e];exact(o.fr a ha).2
 .rw[g9 λz=>b (by rw[<-z];exact ha)];exact o.al a ha
 .obtain⟨a,c,g⟩:=o.own k y h;rw[Gy];exact⟨a,c,g.mono (bd _) (jV.refl _) (g9 λz=>b (by rw[<-z];exact aV c))⟩
theorem R.Vs(r:R K (p::F) α H σ δ M){x:HO}(a:zC (aa x)=aa x:=by rfl):R K (p::F) α (upd H p x) σ δ M:=⟨r.ok.Vs a,r.len,λi d h=>by obtain⟨v,b,c⟩:=r.sl i d h;rw[Gy];exact⟨v,b,c⟩⟩
theorem R.ael(r:R K F α H σ δ M)(f:H p=ao){x:HO}(n:zC (aa x)=aa x:=by rfl):R K (p::F) α (upd H p x) σ δ M:=by
 have o:=r.ok;have c:p∉α:=λz=>o.al p z (by rw[f]);have g:jV (jy F α M H) (jy (p::F) α M (upd H p x)):=λb y h=>by
  obtain⟨z,q⟩:=jh h;have j:b≠p:=λz=>by rw[z,f] at q;cases q
  show kg _ _ b=_;refine nZ h (λw=>z ?_) (by rw[g9 j];exact q)
  .simp only [bg,aO] at w |-;rcases w with w|w|w
   .exact .inl w
   .exact absurd w j
   .exact .inr w
 refine⟨⟨o.ml,o.nd,λa ha=>?_,λa ha=>?_,λk y h=>?_,o.tb.upd (.inr f)⟩,r.len,λi d h=>?_⟩
 .rcases aO.mp ha with e|e
  .subst e;exact⟨c,by rw[ip,n];exactλz=>by cases z⟩
  .refine⟨(o.fr a e).1,?_⟩;rw[g9 λz=>(o.fr a e).2 (by rw[z,f])];exact(o.fr a e).2
 .rw[g9 λz=>c (by rw[<-z];exact ha)];exact o.al a ha
 .obtain⟨a,m,u⟩:=o.own k y h;exact⟨a,m,u.mono (bd _) g (g9 λz=>c (by rw[<-z];exact aV m))⟩
 .obtain⟨v,A,B⟩:=r.sl i d h;exact⟨v,A,Rep.mono (bd _) g _ _ B⟩
theorem T3:er p H p=ao:=by unfold er;rw[if_pos rfl]
theorem Gz{b:ak}(h:b≠p):er p H b=H b:=by unfold er;rw[if_neg h]
theorem XV(o:OK K (p::F) α H M):jy F α M (er p H)=jy (p::F) α M H:=by
 have a:p∉α:=(o.fr p av).1;funext b;show kg _ _ b=kg _ _ b;by_cases e:b=p
 .subst e;rw[q8 (A:=lv α M++b::F) (by simp)];by_cases z:b∈lv α M++F
  .rw[q8 z]
  .rw[lL z,T3]
 .by_cases z:b∈lv α M++F
  .rw[q8 z,q8 (by simp only [bg,aO] at z |-;rcases z with z|z;exact .inl z;exact .inr (.inr z))]
  .rw[lL z,lL (by simp only [bg,aO] at z |-;rintro(w|w|w);exact z (.inl w);exact e w;exact z (.inr w)),Gz e]
theorem OK.er(o:OK K (p::F) α H M)(g:p∉F):OK K F α (L3.er p H) M:=by
 have c:p∉α:=(o.fr p av).1;refine⟨o.ml,o.nd,λa ha=>⟨(o.fr a (aH _ ha)).1,?_⟩,λa ha=>?_,λk x h=>?_,o.tb.imp λb y e v=>?_⟩
 .rw[Gz λz=>g (by rw[<-z];exact ha)];exact(o.fr a (aH _ ha)).2
 .rw[Gz λz=>c (by rw[<-z];exact ha)];exact o.al a ha
 .obtain⟨a,f,i⟩:=o.own k x h;rw[XV o];exact⟨a,f,i.mono (bd _) (jV.refl _) (Gz λz=>c (by rw[<-z];exact aV f))⟩
 .rw[Gz λz=>(o.fr p av).2 (by rw[<-z,e];exact v)];exact e
theorem Ext.er(f:H p=ao)(g:p∉F)(e:Ext F α H M iz H' M'):Ext F α H M iz (L3.er p H') M':=by
 refine⟨e.pre,λb y h=>?_,λa ha=>by rw[Gz λz=>g (by rw[<-z];exact ha)];exact e.fr a ha⟩;have i:b≠p:=λz=>by have:=(jh h).2;rw[z,f] at this;cases this
 have c:=jh (e.same b y h);show kg _ _ b=_;exact nZ h c.1 (by rw[Gz i];exact c.2)
end
section
variable {X:Cx} {N:List ay} {fr:List (Option Nat)} {scope:df} {elt target iter:bC} {ifs:List bC} {ti:DI} {g:DG} {tt:DT} {te:DE} {pos:d8}
theorem Ao(c:∀d a M (P Q:pd->Ms->Prop),(∀a M,P a M->Q a M)->g d a M P->g d a M Q)(ht:∀a M (P Q:Bool->Ms->Prop),(∀d M,P d M->Q d M)->tt a M P->tt a M Q)(e:∀a M (P Q:DK),(∀d M,P d M->Q d M)->te a M P->te a M Q)
{st:Ms->Prop}{P Q:List D->Ms->Prop}(w:∀l M,P l M->Q l M):∀xs acc a M,lQ fr g tt te st P xs acc a M->lQ fr g tt te st Q xs acc a M
 |[],acc,a,M,q=>w _ _ q
 |x::xs,acc,a,M,q=>by
  unfold lQ Ey at q |-;refine c _ _ _ _ _ (λf M1 q=>ht _ _ _ _ (λb M2 q=>?_) q) q;cases b with
  |true=>
   rw[if_pos rfl] at q |-;exact e _ _ _ _ (λd h q=>⟨q.1,q.2.1,Ao c ht e w xs _ _ _ q.2.2⟩) q
  |false=>
   rw[if_neg ax] at q |-;exact⟨q.1,Ao c ht e w xs _ _ _ q.2⟩
theorem Db(hI:JI X target iter ti)(hg:∀d a M (P Q:pd->Ms->Prop),(∀a M,P a M->Q a M)->g d a M P->g d a M Q)(ht:∀a M (P Q:Bool->Ms->Prop),(∀d M,P d M->Q d M)->tt a M P->tt a M Q)(he:∀a M (P Q:DK),(∀d M,P d M->Q d M)->te a M P->te a M Q)
(hgl:∀d a M (P:pd->Ms->Prop),g d a M P->g d a M λqI M1=>qI.length=a.length/\P qI M1){σ:L2.St}{H:Hp}{Q:VK}(h:lF X.K (jY fr ti g tt te) σ H Q):TV fr (lI X ti) (lG X.K g) (lT X.K tt) (lE X.K te) σ H (λv=>TH X (Q v)):=by
 obtain⟨F,α,a,M,r,h⟩:=h;refine⟨F,α,a,M,r,hI.mono a _ _ _ (λitems st M1 q J iF H0 H1 T e1 o1 z it p u=>?_) h⟩;obtain⟨s1,q⟩:=q;have A:p∉F:=λw=>(z.ok.fr p w).2 (by rw[u]);refine⟨λi m ys lY j=>m=items.length- i/\i<=items.length/\∃o rX f acc,Ext F iF H1 M1 o j f/\R X.K (p::F) o j lY rX f/\rX.length=fr.length/\st f/\j p=aa (.lst ys)/\gJ X.K o (jy (p::F) o f j) acc ys/\
   lQ fr g tt te st (λds f=>fK X.K F α H M Q (.lst ds) f) (items.drop i) acc rX f,⟨_,rfl,bi _,iF,C9 fr a,M1,[],Ext.refl.Vs u A,((z.rs (r.grow e1 o1)).slots fr).ael u,by simp[C9],s1,ip,gJ.nil,q⟩,?_⟩
 rintro i m ys lY j ⟨rfl,hi',o,rX,f,acc,e',Y,B,s',hy,ry,q'⟩
 have G:jV (jy F iF M1 H1) (jy (p::F) o f j):=λb x h=>by
  have hb:b≠p:=λw=>by have:=(jh h).2;rw[w,u] at this;cases this
  have h1:=jh (e'.same b x h);show kg _ j b=_;refine nZ h (λw=>h1.1 ?_) h1.2
  .simp only [bg,aO] at w |-;rcases w with w|w|w
   .exact .inl w
   .exact absurd w hb
   .exact .inr w
 by_cases K2:i<items.length
 .rw[eB K2] at q';refine .inr ⟨it.go i (p::F) o j f e'.pre G Y.ok s' K2,λI WR L=>∃qJ O M2 agh,Ext F iF H1 M1 qJ L M2/\R X.K (p::F) qJ L WR O M2/\O.length=fr.length/\st M2/\L p=aa (.lst I)/\gJ X.K qJ (jy (p::F) qJ M2 L) agh I/\
   lQ fr g tt te st (λds f=>fK X.K F α H M Q (.lst ds) f) (items.drop (i+1)) agh O M2,λI WR L h=>⟨_,by omega,rfl,K2,h⟩,λx L y=>?_⟩
  obtain⟨o2,e2,rx⟩:=it.yld i (p::F) o j f x L items[i] e'.pre G Y.ok s' (by simp[K2]) y;unfold lQ Ey at q';refine⟨p::F,o,rX,f,items[i],Y.grow e2 o2,rx,hg _ _ _ _ _ (λC M3 q3 σ3 Gs H3 e3 r3=>?_) (hgl _ _ _ _ q')⟩;obtain⟨l3,q3⟩:=q3;refine⟨p::F,Gs,C,M3,r3,ht _ _ _ _ (λb M4 q4 QV H4 e4 o4=>?_) q3⟩;have E:=(e2.trans e3).trans e4;have pm:p∈p::F:=av;cases b with
  |false=>
   rw[if_neg ax] at q4;show(if ar=ag then _ else _);rw[if_neg ax];refine⟨QV,CZ fr C,M4,acc,Ext.skip z.ok u e' E,(r3.grow e4 o4).CZ (by rw[l3,B]),by simp[CZ,l3,B],q4.1,by rw[E.fr p pm];exact hy,E.Ju ry,q4.2⟩
  |true=>
   rw[if_pos rfl] at q4;show(if ag=ag then _ else _);rw[if_pos rfl];refine⟨p::F,QV,C,M4,r3.grow e4 o4,he _ _ _ _ (λd M5 q5 v α5 H5 e5 o5 r5=>?_) q4⟩;have U:=E.trans e5;have ry5:=U.Ju ry;refine⟨by rw[U.fr p pm];exact hy,by rw[<-gJ.length _ _ ry];exact q5.2.1,α5,CZ fr C,M5,acc++[d],(Ext.skip z.ok u e' U).Vs u A,(((r3.grow e4 o4).grow e5 o5).CZ (by rw[l3,B])).Vs,by simp[CZ,l3,B],q5.1,ip,?_,q5.2.2⟩;rw[Gy];exact gJ.append _ _ _ _ ry5 (gJ.one r5)
 .have e:i=items.length:=by omega
  subst e;rw[List.drop_length] at q';refine .inl ⟨it.stop (p::F) o j f e'.pre G Y.ok s',?_⟩;have eE:=e'.er u A;have oE:=Y.ok.er A;obtain⟨t1,t2,t3⟩:=z.e o (L3.er p j) f eE oE;have hn:T (L3.er p j) p=ao:=z.n p _ u T3;have:=q' p (.lst ys) o (T (L3.er p j)) (e1.trans t1) t2 hn ⟨ys,rfl,?_⟩
  .rw[z.c p j _ u hy] at this;exact z.h o j f _ e' this
  .refine gJ.imp t3 _ _ ?_;rw[XV Y.ok];exact ry
abbrev Rp(g:DG):Prop:=∀d a M (P:pd->Ms->Prop),g d a M P->g d a M λb M1=>b.length=a.length/\P b M1
abbrev Ov(g:T0):Prop:=∀d a M (P:pd->Ms->Prop),g d a M P->g d a M λb M1=>b.length=a.length/\P b M1
theorem iZ{i:Nat}:Rp (gQ i):=λd a M P q=>⟨by simp,q⟩
theorem Rq:Ov jr:=λd a M P q=>⟨q.1,rfl,q.2⟩
theorem aem{n:Nat}{a:T0}(b:Ov a):Rp (js n a):=λd c M P q=>by cases d<;>first|exact q.elim|exact⟨q.1,b _ _ _ _ q.2⟩
theorem jC(c:iW X N fr scope)(hi:JI X target iter ti)(a:Rp g)
(b:∀C ex cq iY jG,JG (CW X scope N C ex cq iY jG λ_ _=>False) target g)(ht:∀C ex cq iY jG,JIf (CW X scope N C ex cq iY jG λ_ _=>False) ifs tt)(e:∀C ex cq iY jG,JE (CW X scope N C ex cq iY jG λ_ _=>False) elt te)
(i:X.calm=ag:=by rfl)(j:∀x,dh iter X.env x=pure x:=by intro _;rfl):JF X (.ListComp elt [⟨target,iter,ifs,0⟩] scope pos) (jY fr ti g tt te):=by
 have mg:=(b 0 [] [] X.iY X.jG).mono;have mt:=(ht 0 [] [] X.iY X.jG).mono;have f:=(e 0 [] [] X.iY X.jG).mono;exact⟨λm M P Q w q=>hi.mono _ _ _ _ (λl s M1 q=>⟨q.1,Ao mg mt f (λl M q=>w _ _ q) _ _ _ _ q.2⟩) q,
  XR (aa9 c i hi.p (λ_ _ _ _ _=>(b _ _ _ _ _).p) (λ_ _ _ _ _=>(ht _ _ _ _ _).p) (λ_ _ _ _ _=>(e _ _ _ _ _).p) j) λσ H Q h=>Db hi mg mt f a h⟩
theorem GA(i:Nat){x:ay}{p b:d8}(z:X.N.Nodup)(c:iW X N fr scope)(hi:JI X target iter ti)(a:Rp g)
(e:∀C ex cq iY jG,JG (CW X scope N C ex cq iY jG λ_ _=>False) target g)(ht:∀C ex cq iY jG,JIf (CW X scope N C ex cq iY jG λ_ _=>False) ifs tt)(f:∀C ex cq iY jG,JE (CW X scope N C ex cq iY jG λ_ _=>False) elt te)
(A:X.N[i]?=aa x:=by rfl)(B:Loc X.env.scope x:=by first|exact ai8 rfl|exact gm rfl)
(h:eL (.ListComp elt [⟨target,iter,ifs,0⟩] scope pos) (aa (.Name x p)) b.line X.env=pure ag:=by rfl)(G:X.fn x=ag\/X.env.scope.names.lookup x=aa .local:=by first|exact .inl rfl|exact .inr rfl|assumption)
(j:X.calm=ag:=by rfl)(m:∀x,dh iter X.env x=pure x:=by intro _;rfl):
  JS X (.Assign [.Name x p] (.ListComp elt [⟨target,iter,ifs,0⟩] scope pos) b) (iE i (jz (jY fr ti g tt te))):=by
 have mg:=(e 0 [] [] X.iY X.jG).mono;have mt:=(ht 0 [] [] X.iY X.jG).mono;have I:=(f 0 [] [] X.iY X.jG).mono;have n:JF X (.ListComp elt [⟨target,iter,ifs,0⟩] scope pos) (jY fr ti g tt te):=jC c hi a e ht f j m;have cv:=TW (pos:=pos) (py:=p) (aba:=b) (wi:=lI X ti) (g:=lG X.K g) (tt:=lT X.K tt) (te:=lE X.K te) c j hi.p (λ_ _ _ _ _=>(e _ _ _ _ _).p) (λ_ _ _ _ _=>(ht _ _ _ _ _).p) (λ_ _ _ _ _=>(f _ _ _ _ _).p) z A B h G m;refine⟨λP Q u M w q=>?_,Gu cv λE σ H q=>Db (Q:=λv=>E.nx _) hi mg mt I a ?_⟩
 .unfold iE jz at q |-;refine n.mono _ _ _ _ ?_ q;exactλo M1 q=>w.nx _ _ q
 .obtain⟨F,α,u,M,r,q⟩:=q;refine⟨F,α,u,M,r,?_⟩;unfold iE jz at q;refine n.mono _ _ _ _ ?_ q;exactλo M1 q=>fK.FY λv L O y T U=>q _ L O y ((r.grow y T).set U)
theorem XW(i:Nat){x:ay}{p b:d8}(z:X.N.Nodup)(c:iW X N fr scope)(hi:JI X target iter ti)(a:Rp g)
(e:∀C ex cq iY jG,JG (CW X scope N C ex cq iY jG λ_ _=>False) target g)(ht:∀C ex cq iY jG,JIf (CW X scope N C ex cq iY jG λ_ _=>False) ifs tt)(f:∀C ex cq iY jG,JE (CW X scope N C ex cq iY jG λ_ _=>False) elt te)
(A:X.N[i]?=aa x:=by rfl)(B:Loc X.env.scope x:=by first|exact ai8 rfl|exact gm rfl)
(h:eL (.ListComp elt [⟨target,iter,ifs,0⟩] scope pos) (aa (.Name x p)) b.line X.env=pure ag:=by rfl)(G:X.fn x=ag\/X.env.scope.names.lookup x=aa .local:=by first|exact .inl rfl|exact .inr rfl|assumption)
(j:X.calm=ag:=by rfl)(m:∀x,dh iter X.env x=pure x:=by intro _;rfl):
  JS X (.Assign [.Name x p] (.ListComp elt [⟨target,iter,ifs,0⟩] scope pos) b) (iE i (lN (jY fr ti g tt te))):=by
 have mg:=(e 0 [] [] X.iY X.jG).mono;have mt:=(ht 0 [] [] X.iY X.jG).mono;have I:=(f 0 [] [] X.iY X.jG).mono;have n:JF X (.ListComp elt [⟨target,iter,ifs,0⟩] scope pos) (jY fr ti g tt te):=jC c hi a e ht f j m;have cv:=TW (pos:=pos) (py:=p) (aba:=b) (wi:=lI X ti) (g:=lG X.K g) (tt:=lT X.K tt) (te:=lE X.K te) c j hi.p (λ_ _ _ _ _=>(e _ _ _ _ _).p) (λ_ _ _ _ _=>(ht _ _ _ _ _).p) (λ_ _ _ _ _=>(f _ _ _ _ _).p) z A B h G m;refine⟨λP Q u M w q=>?_,Gu cv λE σ H q=>Db (Q:=λv=>E.nx _) hi mg mt I a ?_⟩
 .unfold iE lN at q |-;refine n.mono _ _ _ _ ?_ q;exactλo M1 q=>w.nx _ _ q
 .obtain⟨F,α,u,M,r,q⟩:=q;refine⟨F,α,u,M,r,?_⟩;unfold iE lN at q;refine n.mono _ _ _ _ ?_ q;exactλo M1 q=>fK.own λv L O y T U=>q _ L O y ((r.grow y T).set U)
end
def gI (C:Int->Int->Prop)(f:Int->Int->D):G2:=λx y M Q=>match x,y with|.int i,.int j=>C i j/\Q (f i j) M|_,_=>False
theorem Fy{C:Int->Int->Prop}{f:Int->Int->D}:Ew (gI C f):=by
 intro x y M P Q w q;unfold gI at*;split at q
 .exact⟨q.1,w _ _ q.2⟩
 .exact q.elim
def Jl (f:Int->Int->D):G2:=λx y M Q=>match x,y with|.int i,.int j=>Q (f i j) M|_,_=>False
theorem GB{f:Int->Int->D}:Ew (Jl f):=by
 intro x y M P Q w q;unfold Jl at*;split at q
 .exact w _ _ q
 .exact q.elim
section
variable {X:Cx}
theorem XX{K:bz}{f:Int->Int->D}{x y:V}{H:Hp}{Q:VK}(h:rD K (Jl f) x y H Q):∃F α M i j,OK K F α H M/\x=.int i/\y=.int j/\vK K F α H M Q (f i j) M:=by
 obtain⟨F,α,M,c,e,o,a,b,h⟩:=h;unfold Jl at h;split at h<;>first|exact h.elim|skip
 unfold Rep at a b;exact⟨F,α,M,_,_,o,a,b,h⟩
theorem aen{K:bz}{C:Int->Int->Prop}{f:Int->Int->D}{x y:V}{H:Hp}{Q:VK}(h:rD K (gI C f) x y H Q):∃F α M i j,OK K F α H M/\x=.int i/\y=.int j/\C i j/\vK K F α H M Q (f i j) M:=by
 obtain⟨F,α,M,c,e,o,a,b,h⟩:=h;unfold gI at h;split at h<;>first|exact h.elim|skip
 unfold Rep at a b;exact⟨F,α,M,_,_,o,a,b,h⟩
theorem Dc:JO X .Sub (Jl λi j=>.int (i- j)):=⟨GB,λcq s σ H x y v u Q I a b h=>by obtain⟨F,α,M,i,j,o,c,e,h⟩:=XX h;exact adI cq s σ H x y v u Q I a b ⟨_,_,c,e,vK.now o h iU⟩⟩
theorem vL:JO X .FloorDiv (gI F6 λi j=>.int (i/j)):=⟨Fy,λcq s σ H x y v u Q I a b h=>by obtain⟨F,α,M,i,j,o,c,e,h,f⟩:=aen h;exact aaG cq s σ H x y v u Q I a b ⟨_,_,c,e,h,vK.now o f iU⟩⟩
theorem jL:JO X .Mod (gI (λ_ j=>0<j) λi j=>.int (i%j)):=⟨Fy,λcq s σ H x y v u Q I a b h=>by obtain⟨F,α,M,i,j,o,c,e,h,f⟩:=aen h;exact adK cq s σ H x y v u Q I a b ⟨_,_,c,e,h,vK.now o f iU⟩⟩
theorem Rr:JO X .Pow (gI Vc λi j=>.int (i^j.toNat)):=⟨Fy,λcq s σ H x y v u Q I a b h=>by obtain⟨F,α,M,i,j,o,c,e,h,f⟩:=aen h;exact adL cq s σ H x y v u Q I a b ⟨_,_,c,e,h,vK.now o f iU⟩⟩
theorem XY:JC X .Gt (Jl λi j=>.bl (decide (j<i))):=⟨GB,λcq s σ H x y v u Q I a b h=>by obtain⟨F,α,M,i,j,o,c,e,h⟩:=XX h;exact afS cq s σ H x y v u Q I a b ⟨_,_,c,e,vK.now o h jq⟩⟩
theorem XZ:JC X .GtE (Jl λi j=>.bl (decide (j<=i))):=⟨GB,λcq s σ H x y v u Q I a b h=>by obtain⟨F,α,M,i,j,o,c,e,h⟩:=XX h;exact afT cq s σ H x y v u Q I a b ⟨_,_,c,e,vK.now o h jq⟩⟩
def Ow:G2:=λx y M Q=>match x,y with|.int i,.int j=>Q (.bl (decide (i<j))) M|.str i,.str j=>Q (.bl (decide (i.cps.toList<j.cps.toList))) M|_,_=>False
def Bp:G2:=λx y M Q=>match x,y with|.int i,.int j=>Q (.bl (decide (i<=j))) M|.str i,.str j=>Q (.bl (!decide (j.cps.toList<i.cps.toList))) M|_,_=>False
theorem Ox:JC X .Lt Ow:=by
 refine⟨λx y M P Q w q=>?_,λcq s σ H x y v u Q I c e h=>?_⟩
 .unfold Ow at*;split at q<;>first|exact q.elim|exact w _ _ q
 .obtain⟨F,α,M,f,g,o,a,b,h⟩:=h;unfold Ow at h;split at h<;>first|exact h.elim|skip
  .unfold Rep at a b;exact afQ cq s σ H x y v u Q I c e ⟨_,_,a,b,vK.now o h jq⟩
  .unfold Rep at a b;exact Ve cq s σ H x y v u Q I c e ⟨_,_,a,b,vK.now o h jq⟩
theorem qf:JC X .LtE Bp:=by
 refine⟨λx y M P Q w q=>?_,λcq s σ H x y v u Q I c e h=>?_⟩
 .unfold Bp at*;split at q<;>first|exact q.elim|exact w _ _ q
 .obtain⟨F,α,M,f,g,o,a,b,h⟩:=h;unfold Bp at h;split at h<;>first|exact h.elim|skip
  .unfold Rep at a b;exact afR cq s σ H x y v u Q I c e ⟨_,_,a,b,vK.now o h jq⟩
  .unfold Rep at a b;exact Vr cq s σ H x y v u Q I c e ⟨_,_,a,b,vK.now o h jq⟩
noncomputable def GC:D->Bool
 |.non=>ag
 |_=>ar
theorem T4{K:bz}{α:List ak}{H:Hp}{d:D}{v:V}(h:Rep K α H d v):decide (v=.non)=GC d:=by
 cases d<;>unfold Rep at h;case non=>subst h;rfl
 case tup=>obtain⟨_,_,rfl,_⟩:=h;rfl
 case lst=>obtain⟨_,_,rfl,_⟩:=h;rfl
 case kt=>obtain⟨_,_,rfl,_⟩:=h;rfl
 case ins=>obtain⟨_,_,_,rfl,_⟩:=h;rfl
 case exc=>obtain⟨_,_,rfl,_⟩:=h;rfl
 case uI=>obtain⟨_,rfl,_⟩:=h;rfl
 case loc=>obtain⟨_,_,rfl⟩:=h;rfl
 all_goals subst h;rfl
def gIs:G2:=λx y M Q=>match y with|.non=>Q (.bl (GC x)) M|_=>False
def Rs:G2:=λx y M Q=>match y with|.non=>Q (.bl (!GC x)) M|_=>False
theorem acJ:JC X .Is gIs:=by
 refine⟨λx y M P Q w q=>?_,λcq s σ H x y v u Q I b c h=>?_⟩
 .cases y<;>first|exact q.elim|exact w _ _ q
 .obtain⟨F,α,M,g,e,o,f,a,h⟩:=h;cases e<;>first|exact h.elim|skip
  unfold Rep at a;exact adN cq s σ H x y v u Q I b c ⟨a,by rw[T4 f];exact vK.now o h jq⟩
theorem X0:JC X .IsNot Rs:=by
 refine⟨λx y M P Q w q=>?_,λcq s σ H x y v u Q I b c h=>?_⟩
 .cases y<;>first|exact q.elim|exact w _ _ q
 .obtain⟨F,α,M,g,e,o,f,a,h⟩:=h;cases e<;>first|exact h.elim|skip
  unfold Rep at a;exact aaJ cq s σ H x y v u Q I b c ⟨a,by rw[T4 f];exact vK.now o h jq⟩
def i8:G2:=λx y M Q=>match vw M x,vw M y with
 |.int i,.int j=>Q (.int (i+j)) M
 |.str i,.str j=>i.length+j.length<=aC/\Q (.str (i++j)) M
 |.lst xs,.lst a=>xs.length+a.length<=aC/\Q (.lst (xs++a)) M
 |.tup xs,.tup a=>xs≠[]/\xs.length+a.length<=aC/\Q (.tup (xs++a)) M
 |_,_=>False
theorem iX:JO X .Add i8:=by
 refine⟨λx y M P Q w q=>?_,λcq s σ H x y v u Q I n r h=>?_⟩
 .unfold i8 at q |-;generalize vw M x=a at q |-;generalize vw M y=b at q |-;split at q<;>first|exact q.elim|exact w _ _ q|exact⟨q.1,w _ _ q.2⟩|exact⟨q.1,q.2.1,w _ _ q.2.2⟩
 .obtain⟨F,α,M,J,L,o,c,f,h⟩:=h;unfold i8 at h;generalize g:vw M J=a at h;generalize z:vw M L=b at h;split at h<;>first|exact h.elim|skip
  .cases An g;cases An z;unfold Rep at c f;exact adH cq s σ H x y v u Q I n r ⟨_,_,c,f,vK.now o h iU⟩
  .cases oj g;cases oj z;unfold Rep at c f;exact Q6 cq s σ H x y v u Q I n r ⟨_,_,c,f,h.1,vK.now o h.2 qZ⟩
  .obtain⟨a,C,rfl,E,i⟩:=ki o c g;obtain⟨b,us,rfl,G,j⟩:=ki o f z;have A:=gJ.length _ _ i;have B:=gJ.length _ _ j;exact ad9 cq s σ H _ _ v u Q I n r ⟨a,b,C,us,rfl,rfl,E,G,by rw[<-A,<-B];exact h.1,λp m=>vK.new o m h.2 (qd o m (gJ.append _ _ _ _ i j))⟩
  .obtain⟨a,C,rfl,E,i⟩:=om o c g;obtain⟨b,us,rfl,G,j⟩:=om o f z;have A:=gJ.length _ _ i;have B:=gJ.length _ _ j;refine aaY cq s σ H _ _ v u Q I n r ⟨a,b,C,us,rfl,rfl,E,G,?_,by rw[<-A,<-B];exact h.2.1,λe=>?_,λ_ p m=>vK.new o m h.2.2 (nM o m (gJ.append _ _ _ _ i j))⟩
   .intro e;subst e;exact h.1 (List.length_eq_zero_iff.mp A)
   .subst e;have:=List.length_eq_zero_iff.mp B;subst this;refine vK.now o h.2.2 ?_;rw[aR];rw[Rn g] at c;exact c
noncomputable def Oy:D->Option Key
 |.int i=>aa (.inl i)
 |.str x=>aa (.inr x)
 |_=>ao
noncomputable def pq(k:Key):List Key->List D->Option D
 |k'::a,d::ds=>if k'=k then aa d else pq k a ds
 |_,_=>ao
theorem uL{K:bz}{α:List ak}{H:Hp}{d:D}{v:V}{k:Key}(h:Rep K α H d v)(e:Oy d=aa k):v=kV k:=by
 cases d<;>cases e
 .unfold Rep at h;exact h
 .unfold Rep at h;exact h
theorem Bq{K:bz}{α:List ak}{H:Hp}{k:Key}:∀(a:List Key) (ds:List D) (b:List V),gJ K α H ds b->a.length=ds.length->
  (∀d,pq k a ds=aa d->∃v,vD (a.zip b) k=aa v/\Rep K α H d v)/\(pq k a ds=ao->vD (a.zip b) k=ao)
 |[],ds,b,h,l=>⟨λd e=>by simp[pq] at e,λ_=>rfl⟩
 |k'::a,[],b,h,l=>by simp at l
 |k'::a,d::ds,b,h,l=>by
  unfold gJ at h;obtain⟨v,r,rfl,z,y⟩:=h;have c:=Bq (k:=k) a ds r y (by simpa using l);rw[ce];by_cases e:k'=k
  .rw[Bd (p:=(k',v)) e];unfold pq;rw[if_pos e];exact⟨λf e'=>⟨v,rfl,by cases e';exact z⟩,λe'=>by cases e'⟩
  .rw[Be (p:=(k',v)) e];unfold pq;rw[if_neg e];exact c
theorem abf(c:X.A.units+1<gg):IxR X (λx y H Q=>∃a v,x=.ref a/\Jp H a y (aa v)/\Q v H):=by
 intro value slice cq s σ H x y v u Q I e f h i;obtain⟨a,z,rfl,g,q⟩:=h;cases e;unfold ajt;refine ah ?_;rw[akp (Et I g).not_modules];refine ah (ajl (Et I g) PySem.F.slot_dict_getitem.lookup ?_);have b:wpAny (model X.prog X.w) X.A (subscripted slice ar (.ref a) u) (λr j=>wpAny (model X.prog X.w) X.A (ak1 value (.ref a) r >>= λ_=>pure r) (EP X cq σ Q) X.xe j) X.xe s:=by rw[i];exact akV (Vj c I g f λo s3 m n=>ah (akt (aw ⟨z,H,m,n,q⟩)))
 first
  |exact aw (ah b)
  |exact ah (aw (ah b))
  |exact ah b
def ij:G2:=λx y M Q=>match vw M x,y with
 |.lst xs,.int i=>∃d,vE xs i=aa d/\Q d M
 |.tup xs,.int i=>∃d,vE xs i=aa d/\Q d M
 |.uI xs,.int i=>∃d,vE xs i=aa d/\Q (.int d) M
 |.str z,.int i=>z.length<=aC/\∃c,vE z.cps.toList i=aa c/\Q (.str ⟨#[c]⟩) M
 |.kt a ds,y=>∃k d,Oy y=aa k/\pq k a ds=aa d/\Q d M
 |_,_=>False
theorem jx(L:X.A.units+1<gg):JX X ij:=by
 refine⟨λx y M P Q w q=>?_,λvalue slice cq s σ H x y v u Q I n p h r=>?_⟩
 .unfold ij at q |-;generalize vw M x=a at q |-;split at q<;>first
   |exact q.elim
   | (obtain⟨k,d,f,E,g⟩:=q;exact⟨k,d,f,E,w _ _ g⟩)
   | (obtain⟨d,f,g⟩:=q;exact⟨d,f,w _ _ g⟩)
   | (obtain⟨N,d,f,g⟩:=q;exact⟨N,d,f,w _ _ g⟩)
 .obtain⟨F,α,M,O,db,o,i,b,h⟩:=h;unfold ij at h;generalize z:vw M O=a at h;split at h<;>first|exact h.elim|skip
  .obtain⟨a,B,rfl,m,C⟩:=ki o i z;unfold Rep at b;obtain⟨d,e,h⟩:=h;obtain⟨w,G,J⟩:=C.at e;exact TR value slice cq s σ H _ y v u Q I n p ⟨a,B,_,w,rfl,b,p7.of m,G,vK.now o h J⟩ r
  .obtain⟨a,B,rfl,m,C⟩:=om o i z;unfold Rep at b;obtain⟨d,e,h⟩:=h;obtain⟨w,G,J⟩:=C.at e;exact Xx value slice cq s σ H _ y v u Q I n p ⟨a,B,_,w,rfl,b,m,G,vK.now o h J⟩ r
  .cases xF z;unfold Rep at i b;obtain⟨a,rfl,m⟩:=i;obtain⟨d,e,h⟩:=h;refine TR value slice cq s σ H _ y v u Q I n p ⟨a,_,_,.int d,rfl,b,lZ il m,?_,vK.now o h iU⟩ r;unfold vE at e |-;rw[ai];cases q:QU _ _ with
   |none=>rw[q] at e;cases e
   |some j=>
    rw[q] at e;show(eS V.int _)[j]?=_;have e':(_:List Int)[j]?=aa d:=e;rw[aS,e'];rfl
  .cases oj z;unfold Rep at i b;obtain⟨T,c,e,h⟩:=h;exact ad1 value slice cq s σ H x y v u Q I n p ⟨_,_,c,i,b,T,e,vK.now o h qZ⟩ r
  .obtain⟨k,d,f,E,g⟩:=h;obtain⟨a,B,rfl,m,U,C⟩:=Am o i z;obtain⟨Y,hv,rv⟩:=(Bq _ _ B C U).1 d E;cases uL b f;exact abf L value slice cq s σ H _ _ v u Q I n p ⟨a,Y,rfl,by rw[<-hv];exact Jp.kr m,vK.now o g rv⟩ r
noncomputable def cutD{β:Type}(xs:List β)(lo hi:Option Int):List β:=(xs.drop (HT.nY xs.length 0 lo)).take (HT.nY xs.length xs.length hi- HT.nY xs.length 0 lo)
theorem gJ.cut{K:bz}{α:List ak}{H:Hp}{ds:List D}{a:List V}(h:gJ K α H ds a)(lo hi:Option Int):gJ K α H (cutD ds lo hi) (Og a lo hi):=by unfold cutD Og;rw[gJ.length _ _ h];exact gJ.take _ _ _ (gJ.drop _ _ _ h)
end
end L3
end
namespace PySem
open Sem (wp)
open Builtin
section
variable {prog:ba} {w:bI} {A:bv} {E:ae->aq->Prop} {s:aq}
theorem xG{it t:ak}{i:Nat}{items}{x:ae}{Q:ae->aq->Prop}(b:s.heap.IsTupleIter it t i)
(ht:s.heap.IsTuple t items)(g:items[i]?=aa x)
(h:∀c,c.IsTupleIter it t (i+1)->bJ it s.heap c->Q x {s with heap:=c}):
  wpAny (model prog w) A (bY (.ref it)) Q E s:=by
 obtain⟨o,a,j,hd⟩:=id b;obtain⟨m,e,_,nl,f⟩:=ht;unfold bY;refine ah (cX (name:=cL "__next__") b.typeIs eC
  (cM eC b.typeIs F.entry_tuple_iterator_next ?_ (F.args_tuple_iterator_next_1 _)))
 show wpAny _ _ (field (.ref it) 0 >>= _) _ _ s;refine ah (cG a hd (x:=.ref t) rfl ?_);show wpAny _ _ (if(bH t==cY)=ag then _ else _) _ _ s;rw[if_neg (show¬((bH t==cY)=ag) from ax)];show wpAny _ _ (field (.ref it) 1 >>= _) _ _ s;refine ah (cG a hd (x:=.int i 0) rfl ?_);show wpAny _ _ (akT (.ref t) >>= _) _ _ s;refine ah (dG e f ?_);simp only [cT,g];refine ah (ak2 a hd (by simp) (aw ⟨x,rfl,aw (h _ ?_ (cJ ..))⟩));exact⟨_,ai7 _ a (cm.isFreed_of_fields (cm.data_mapFields hd _)),(cm.cls_mapFields ..).trans j,by
  rw[cm.data_mapFields hd];simp[ai2]⟩
theorem zE{it l:ak}{i:Nat}{items}{Q:ae->aq->Prop}(j:A.handled=ao)
(b:s.heap.IsTupleIter it l i)(n:s.heap.IsTuple l items)(p:items[i]?=ao)
(q:∀c e,ajf it s.heap c->(∃o,c.get? e=aa o/\o.cls=.type "StopIteration")->E (.ref e) {s with heap:=c}):
  wpAny (model prog w) A (bY (.ref it)) Q E s:=by
 obtain⟨o,f,r,hd⟩:=id b;obtain⟨u,g,_,nl,h⟩:=n;unfold bY;refine ah (cX (name:=cL "__next__") b.typeIs eC
  (cM eC b.typeIs F.entry_tuple_iterator_next ?_ (F.args_tuple_iterator_next_1 _)))
 show wpAny _ _ (field (.ref it) 0 >>= _) _ _ s;refine ah (cG f hd (x:=.ref l) rfl ?_);show wpAny _ _ (if(bH l==cY)=ag then _ else _) _ _ s;rw[if_neg (show¬((bH l==cY)=ag) from ax)];show wpAny _ _ (field (.ref it) 1 >>= _) _ _ s;refine ah (cG f hd (x:=.int i 0) rfl ?_);show wpAny _ _ (akT (.ref l) >>= _) _ _ s;refine ah (dG g h ?_);simp only [cT,p];refine ah (gk (ah (ak2 f hd (by simp) ?_)));show wpAny _ _ (newExc (.type "StopIteration") [] >>= _) _ _ _;refine ah ?_;simp only [newExc,newTuple];refine ah (di ?_ (by size_fits));refine ah (m:=ak3 _ _) (wpAny_of_eq (a:=cY) (by first|rfl|(simp only [ak3];rfl)) ?_);refine di ?_ (by size_fits);simp only [raiseNew];refine ah (wpAny_handled ?_);first|rw[show A.in1.handled=ao from j]|rw[j]
 refine ah (aw (wpAny_throw ?_));exact q _ _ (((cJ ..).extBut.push _).push _) ⟨_,aP _ rfl,rfl⟩
end
theorem GD{prog:ba}{w:bI}{A:bv}(f:A.handled=ao)(it l:ak)(g:l≠it)(items:Array ae):
  gB prog w A it [it,l] items.size (λi v=>items[i]?=aa v) (λi h=>h.IsTupleIter it l i/\h.IsTuple l items) where
 live:=λ_ _ st=>let⟨o,a,_⟩:=st.1;⟨o,a⟩
 frame:=λ_ _ _ st e=>⟨let⟨o,a,r⟩:=st.1;⟨o,e it (by simp) o a,r⟩,let⟨o,a,r⟩:=st.2;⟨o,e l (by simp) o a,r⟩⟩
 item:=λi s Q E hi st j=>by refine xG st.1 st.2 (x:=items[i]) (by simp[hi]) λm c b=>?_;exact j _ m s.toks (by simp[hi]) ⟨c,st.2.extBut b.extBut g⟩ b
 done:=λs Q E st n=>zE f st.1 st.2 (by simp) n
theorem re{prog:ba}{w:bI}{A:bv}{it:ak}{a:List ak}{n:Nat}{P P':Nat->ae->Prop}{St:Nat->az->Prop}(D:gB prog w A it a n P St)(h:∀i v,P i v->P' i v):gB prog w A it a n P' St where
 live:=D.live
 frame:=D.frame
 item:=λi s Q E hi st b=>D.item i s Q E hi st λx c e p=>b x c e (h _ _ p)
 done:=D.done
theorem E8(l:ak)(items:Array ae):
  Meets (bE.«enumerate.__new__» ⟨[.type "enumerate",.ref l],[]⟩) (λ_ R s=>s.heap.IsTuple l items/\
   R (.ok (.ret (.ref (s.heap.push {cls:=.type "tuple_iterator",data:=.fields #[.ref l,.int 0 0]}).objs.size)))
    {s with heap:=(s.heap.push {cls:=.type "tuple_iterator",data:=.fields #[.ref l,.int 0 0]}).push {cls:=.type "enumerate",data:=.fields #[.none,.bool ar,.ref s.heap.objs.size,ai2 0,.none,.none]}}):=
 .of_wp λprog w A R s h=>by
  obtain⟨i,g,d,j,os⟩:=s;obtain⟨f,h⟩:=h;have m:=sub_enumerate;have a:az.IsTuple (aq.heap ⟨i,g,d,j,os⟩) l items:=f;obtain⟨⟨c,kt,o,sl⟩,b,e,n,hd⟩:=f;replace e:c=.type "tuple":=e;replace hd:o=.seq items n:=hd;subst e hd
  wp_walk using ef b
  refine wpAny_stack_any λst=>aw ?_;split
  .rename_i c _ _ _ _ _;cases(c==dX "enumerate")
   .wp_walk using ef b,eV a
    exact⟨_,rfl,h⟩
   .wp_walk using ef b,eV a
    exact⟨_,rfl,h⟩
  .wp_walk using ef b,eV a
   exact⟨_,rfl,h⟩
section
variable {prog:ba} {w:bI} {A:bv} {E:ae->aq->Prop} {s:aq}
theorem GG{l:ak}{items:Array ae}{Q:ae->aq->Prop}(f:s.heap.IsTuple l items)
(h:∀a,ak4 a (s.heap.objs.size+1) s.heap.objs.size 0 .none->a.IsTupleIter s.heap.objs.size l 0->a.objs.size=s.heap.objs.size+2->
   (∀b o,s.heap.get? b=aa o->a.get? b=aa o)->Q (.ref (s.heap.objs.size+1)) {s with heap:=a}):
  wpAny (model prog w) A (call (.type "enumerate") [.ref l]) Q E s:=by
 refine callType_new F.called_enumerate (by decide) (F.typeCall_enumerate_1 _) (F.newCall_enumerate_1 _) (λobj=>F.args_object_init_2 obj _) F.entry_enumerate_new
  (E8 l items) ⟨f,?_⟩
 have c:(s.heap.push {cls:=.type "tuple_iterator",data:=.fields #[.ref l,.int 0 0]}).objs.size=s.heap.objs.size+1:=bZ ..;show _/\_;rw[c];have e:ak4 ((s.heap.push {cls:=.type "tuple_iterator",data:=.fields #[.ref l,.int 0 0]}).push
   {cls:=.type "enumerate",data:=.fields #[.none,.bool ar,.ref s.heap.objs.size,ai2 0,.none,.none]}) (s.heap.objs.size+1) s.heap.objs.size 0 .none:=by
  have:=aP (s.heap.push {cls:=.type "tuple_iterator",data:=.fields #[.ref l,.int 0 0]})
   (o:={cls:=.type "enumerate",data:=.fields #[.none,.bool ar,.ref s.heap.objs.size,ai2 0,.none,.none]}) rfl
  rw[c] at this;exact this
 refine⟨⟨_,e,rfl⟩,h _ e ⟨_,aj _ (aP _ rfl),rfl,rfl⟩ (by rw[bZ,c]) λb o x=>aj _ (aj _ x)⟩
end
open Sem (wp)
open Builtin
structure K6(z TI TO i1 i2:ak)(Vt Oz:List ak):Prop where
 TIz:TI≠z
 TOz:TO≠z
 TITO:TI≠TO
 TIi1:TI≠i1
 TIi2:TI≠i2
 i1m:i1∈Vt
 i2m:i2∈Oz
 zf1:z∉Vt
 zf2:z∉Oz
 of1:TO∉Vt
 of2:TO∉Oz
 agj:i1∉Oz
 ain:i2∉Vt
section
variable {prog:ba} {w:bI} {A:bv} {E:ae->aq->Prop} {s:aq} {z TI TO i1 i2:ak} {Vt Oz:List ak} {n1 n2:Nat} {P1 P2:Nat->ae->Prop} {S1 S2:Nat->az->Prop}
theorem mC{it:ak}{a:List ak}{n:Nat}{P:Nat->ae->Prop}{St:Nat->az->Prop}{i:Nat}{h f:az}{c:ak}(D:gB prog w A it a n P St)(st:St i h)(g:bJ c h f)(j:c∉a):St i f:=
 D.frame _ _ _ st λb m o e=>g.extBut b o (λq=>j (by rw[<-q];exact m)) e
theorem Dd{i:Nat}{a b:ae}{Q:ae->aq->Prop}(Z:K6 z TI TO i1 i2 Vt Oz)(C:gB prog w A i1 Vt n1 P1 S1)(G:gB prog w A i2 Oz n2 P2 S2)
(I:adV s.heap z TI TO .none)(hTI:dH s.heap TI (.ref i1) (.ref i2))(Vu:dH s.heap TO a b)(h1:S1 i s.heap)(h2:S2 i s.heap)(l1:i<n1)(l2:i<n2)
(hQ:∀x y j tk,P1 i x->P2 i y->adV j z TI TO (ai2 s.heap.objs.size)->dH j TO x y->S1 (i+1) j->S2 (i+1) j->dH j s.heap.objs.size x y->j.objs.size=s.heap.objs.size+1->
   (∀c o,c≠z->c≠TO->c≠i1->c≠i2->s.heap.get? c=aa o->j.get? c=aa o)->Q (.ref s.heap.objs.size) {s with heap:=j,toks:=tk}):
  wpAny (model prog w) A (bE.«zip.__next__» ⟨[.ref z],[]⟩) (λk9 s'=>∃v,k9=.done (.ret v)/\Q v s') E s:=by
 have i1z:i1≠z:=λq=>Z.zf1 (by rw[<-q];exact Z.i1m);have i2z:i2≠z:=λq=>Z.zf2 (by rw[<-q];exact Z.i2m);have aeo:TO≠i1:=λq=>Z.of1 (by rw[q];exact Z.i1m);have agk:TO≠i2:=λq=>Z.of2 (by rw[q];exact Z.i2m);show wpAny _ _ (field (.ref z) 2 >>= _) _ _ _;refine ah (cG I rfl (x:=.bool ar) rfl ?_);show wpAny _ _ (field (.ref z) 3 >>= _) _ _ _;refine ah (cG I rfl (x:=.ref TI) rfl ?_);refine ah (dG hTI rfl ?_);show wpAny _ _ (cI (.ref z) >>= _) _ _ _;refine ah ?_;unfold cI;refine ah (cG I rfl (x:=.none) rfl (aw ?_));simp only [if_true];refine ah (gk ?_);refine ah (cG I rfl (x:=.ref TO) rfl ?_);refine ah (dU I (by simp) λzD Ez J=>?_);replace Ez:adV zD z TI TO .ellipsis:=Ez;refine ah ?_;simp only [fe,List.zipIdx_nil,List.forIn_cons,List.forIn_nil];refine ah (ah (aju ?_));show wpAny _ _ (bY (.ref i1) >>= _) _ _ _;refine ah (C.item i {s with heap:=zD} _ _ l1 (mC C h1 J Z.zf1) λx L m p1 acK n=>aw ?_);replace n:bJ i1 zD L:=n;have GH:dH L TO a b:=n.extBut _ _ aeo (J.extBut _ _ Z.TOz Vu);refine ah (dG (s:={s with heap:=L,toks:=m}) GH rfl ?_);refine ah (ajo (s:={s with heap:=L,toks:=m}) GH λC7 L9 p=>?_);replace L9:dH C7 TO x b:=L9;replace p:bJ TO L C7:=p;refine ah (ajL (aw ?_));refine ah (ah (aju ?_));show wpAny _ _ (bY (.ref i2) >>= _) _ _ _;refine ah (G.item i {s with heap:=C7,toks:=m} _ _ l2 (mC G (mC G (mC G h2 J Z.zf2) n Z.agj) p Z.of2) λy M g p2 agl r=>aw ?_);replace r:bJ i2 C7 M:=r;have X1:dH M TO x b:=r.extBut _ _ agk L9;refine ah (dG (s:={s with heap:=M,toks:=g}) X1 rfl ?_);refine ah (ajo (s:={s with heap:=M,toks:=g}) X1 λf Ma u=>?_);replace Ma:dH f TO x y:=Ma;replace u:bJ TO M f:=u;refine ah (ajL (aw (aw ?_)));refine ah (dG (s:={s with heap:=f,toks:=g}) Ma rfl ?_);refine ah (ajW ?_);have F7:f.objs.size=s.heap.objs.size:=by rw[u.1,r.1,p.1,n.1,J.1]
 have N:adV f z TI TO .ellipsis:=u.extBut _ _ Z.TOz.symm (r.extBut _ _ i2z.symm (p.extBut _ _ Z.TOz.symm (n.extBut _ _ i1z.symm Ez)));have agm:∀c o,c≠z->c≠TO->c≠i1->c≠i2->s.heap.get? c=aa o->f.get? c=aa o:=λc o B c2 c3 c4 e=>
  u.extBut _ _ c2 (r.extBut _ _ c4 (p.extBut _ _ c2 (n.extBut _ _ c3 (J.extBut _ _ B e))))
 have agn:S1 (i+1) f:=mC C (mC C (mC C acK p Z.of1) r Z.ain) u Z.of1;have ago:S2 (i+1) f:=mC G agl u Z.of2;have O:z<f.objs.size:=aN N;show wpAny _ _ (fT (.ref z) (.ref f.objs.size) >>= _) _ _ _;refine ah ?_;unfold fT;have agq:adV (f.push {cls:=.type "tuple",data:=.seq #[x,y]}) z TI TO .ellipsis:=aj _ N;refine ah (dU (s:={s with heap:=f.push {cls:=.type "tuple",data:=.seq #[x,y]},toks:=g}) agq (by simp) λh X2 T=>?_);replace X2:adV h z TI TO (ai2 f.objs.size):=X2;replace T:bJ z (f.push {cls:=.type "tuple",data:=.seq #[x,y]}) h:=T;refine dU (s:={s with heap:=h,toks:=g}) X2 (by simp) λH T5 U=>?_;replace T5:adV H z TI TO (ai2 f.objs.size):=T5;replace U:bJ z h H:=U;have up:∀c o,c≠z->f.get? c=aa o->H.get? c=aa o:=λc o B e=>U.extBut _ _ B (T.extBut _ _ B (aj _ e));have Y:dH H f.objs.size x y:=U.extBut _ _ (eA O) (T.extBut _ _ (eA O) (aP _ rfl));have hz8:H.objs.size=f.objs.size+1:=by rw[U.1,T.1,bZ]
 rw[F7] at T5 Y hz8;refine aw ⟨_,rfl,?_⟩;show Q (.ref f.objs.size) _;rw[F7];exact hQ x y H g p1 p2 T5 (up _ _ Z.TOz Ma) (C.frame _ _ _ agn λc hc o e=>up c o (λq=>Z.zf1 (by rw[<-q];exact hc)) e) (G.frame _ _ _ ago λc hc o e=>up c o (λq=>Z.zf2 (by rw[<-q];exact hc)) e) Y hz8
  λc o B c2 c3 c4 e=>up c o B (agm c o B c2 c3 c4 e)
theorem E9{i:Nat}{a b:ae}{Q:Fin->aq->Prop}(Z:K6 z TI TO i1 i2 Vt Oz)(I:gB prog w A i1 Vt n1 P1 S1)(J:gB prog w A i2 Oz n2 P2 S2)
(u:adV s.heap z TI TO .none)(N:dH s.heap TI (.ref i1) (.ref i2))(Vu:dH s.heap TO a b)(h1:S1 i s.heap)(h2:S2 i s.heap)(X3:i=n1\/(i<n1/\i=n2))
(hE:∀O e tk,(∀c o,c≠z->c≠TO->c≠i1->c≠i2->s.heap.get? c=aa o->O.get? c=aa o)->(∃o,O.get? e=aa o/\o.cls=.type "StopIteration")->E (.ref e) {s with heap:=O,toks:=tk}):
  wpAny (model prog w) A (bE.«zip.__next__» ⟨[.ref z],[]⟩) Q E s:=by
 have v:i1≠z:=λq=>Z.zf1 (by rw[<-q];exact Z.i1m);have T:i2≠z:=λq=>Z.zf2 (by rw[<-q];exact Z.i2m);have U:TO≠i1:=λq=>Z.of1 (by rw[q];exact Z.i1m);have agk:TO≠i2:=λq=>Z.of2 (by rw[q];exact Z.i2m);show wpAny _ _ (field (.ref z) 2 >>= _) _ _ _;refine ah (cG u rfl (x:=.bool ar) rfl ?_);show wpAny _ _ (field (.ref z) 3 >>= _) _ _ _;refine ah (cG u rfl (x:=.ref TI) rfl ?_);refine ah (dG N rfl ?_);show wpAny _ _ (cI (.ref z) >>= _) _ _ _;refine ah ?_;unfold cI;refine ah (cG u rfl (x:=.none) rfl (aw ?_));simp only [if_true];refine ah (gk ?_);refine ah (cG u rfl (x:=.ref TO) rfl ?_);refine ah (dU u (by simp) λy L r=>?_);replace L:adV y z TI TO .ellipsis:=L;refine ah ?_;simp only [fe,List.zipIdx_nil,List.forIn_cons,List.forIn_nil];refine ah (ah (aju ?_));show wpAny _ _ (bY (.ref i1) >>= _) _ _ _;rcases X3 with rfl|⟨l1,rfl⟩
 .refine ah (I.done {s with heap:=y} _ _ (mC I h1 r Z.zf1) λm e g Y=>?_);obtain⟨oe,f,h⟩:=Y;replace g:ajf i1 y m:=g;have B:adV m z TI TO .ellipsis:=g _ _ v.symm L;have p:e≠z:=λx=>by subst x;rw[B] at f;cases f;simp at h
  exact dU (s:={s with heap:=m}) B (by simp) λC _ n=>hE C e s.toks (λc o G _ c3 _ x=>n.extBut _ _ G (g _ _ c3 (r.extBut _ _ G x))) ⟨oe,n.extBut _ _ p f,h⟩
 .refine ah (I.item i {s with heap:=y} _ _ l1 (mC I h1 r Z.zf1) λx m j p1 acK g=>aw ?_);replace g:bJ i1 y m:=g;have GH:dH m TO a b:=g.extBut _ _ U (r.extBut _ _ Z.TOz Vu);refine ah (dG (s:={s with heap:=m,toks:=j}) GH rfl ?_);refine ah (ajo (s:={s with heap:=m,toks:=j}) GH λC L9 n=>?_);replace n:bJ TO m C:=n;refine ah (ajL (aw ?_));refine ah (ah (aju ?_));show wpAny _ _ (bY (.ref i2) >>= _) _ _ _;refine ah (J.done {s with heap:=C,toks:=j} _ _ (mC J (mC J (mC J h2 r Z.zf2) g Z.agj) n Z.of2) λGj e M Y=>?_);obtain⟨oe,f,h⟩:=Y;replace M:ajf i2 C Gj:=M;have H:adV Gj z TI TO .ellipsis:=M _ _ T.symm (n.extBut _ _ Z.TOz.symm (g.extBut _ _ v.symm L));have p:e≠z:=λx=>by subst x;rw[H] at f;cases f;simp at h
  exact dU (s:={s with heap:=Gj,toks:=j}) H (by simp) λrW _ zR=>hE rW e j (λc o G c2 c3 c4 x=>zR.extBut _ _ G (M _ _ c4 (n.extBut _ _ c2 (g.extBut _ _ c3 (r.extBut _ _ G x))))) ⟨oe,zR.extBut _ _ p f,h⟩
theorem OC{i:Nat}{a b:ae}{Q:Option ae->aq->Prop}(Z:K6 z TI TO i1 i2 Vt Oz)(m:gB prog w A.in1 i1 Vt n1 P1 S1)(n:gB prog w A.in1 i2 Oz n2 P2 S2)
(h:adV s.heap z TI TO .none)(f:dH s.heap TI (.ref i1) (.ref i2))(p:dH s.heap TO a b)(q:S1 i s.heap)(r:S2 i s.heap)(u:i<n1)(v:i<n2)
(B:∀x y e g,P1 i x->P2 i y->adV e z TI TO (ai2 s.heap.objs.size)->dH e TO x y->S1 (i+1) e->S2 (i+1) e->dH e s.heap.objs.size x y->e.objs.size=s.heap.objs.size+1->
   (∀c o,c≠z->c≠TO->c≠i1->c≠i2->s.heap.get? c=aa o->e.get? c=aa o)->Q (aa (.ref s.heap.objs.size)) {s with heap:=e,toks:=g}):
  wpAny (model prog w) A (pyNext (.ref z)) Q E s:=by
 have j:s.TypeIs (.ref z) "zip":=⟨_,h,rfl⟩;unfold pyNext;exact ah (aj3 (cX (name:=cL "__next__") j ajg
  (cM ajg j F.entry_zip_next
   (Dd Z m n h f p q r u v λx y e g b1 b2 a1 a2 a3 a4 a5 a6 a7=>aw (B x y e g b1 b2 a1 a2 a3 a4 a5 a6 a7)) (F.args_zip_next_1 _))))
theorem Rt{i:Nat}{a b:ae}{Q:Option ae->aq->Prop}(Z:K6 z TI TO i1 i2 Vt Oz)(n:gB prog w A.in1 i1 Vt n1 P1 S1)(p:gB prog w A.in1 i2 Oz n2 P2 S2)
(h:adV s.heap z TI TO .none)(f:dH s.heap TI (.ref i1) (.ref i2))(q:dH s.heap TO a b)(r:S1 i s.heap)(u:S2 i s.heap)(v:i=n1\/(i<n1/\i=n2))
(x:∀g j,(∀c o,c≠z->c≠TO->c≠i1->c≠i2->s.heap.get? c=aa o->g.get? c=aa o)->Q ao {s with heap:=g,toks:=j}):wpAny (model prog w) A (pyNext (.ref z)) Q E s:=by
 have m:s.TypeIs (.ref z) "zip":=⟨_,h,rfl⟩;unfold pyNext;refine ah (aj3 (cX (name:=cL "__next__") m ajg
  (cM ajg m F.entry_zip_next (E9 Z n p h f q r u v λg e j y B=>?_) (F.args_zip_next_1 _))))
 obtain⟨o,C,G⟩:=B;refine ah (wpAny_isInstance (T:="StopIteration") (b:=ag) ⟨o,C,G⟩ isSubtype_stop ?_);exact aw (x _ _ y)
end
def De (v:ae)(a:cm)(h:az):Prop:=∀(prog:ba) (w:bI) (A:bv) (E:ae->aq->Prop) (s:aq) (Q:ae->aq->Prop),s.heap=h->Q (.ref s.heap.objs.size) {s with heap:=s.heap.push a}->wpAny (model prog w) A (ajv v) Q E s
abbrev abh(h:az)(a b:cm):az:=(h.push a).push b
abbrev abi(h:az)(a b:cm):az:=(abh h a b).push {cls:=.type "tuple",data:=.seq #[.ref h.objs.size,.ref (h.push a).objs.size]}
abbrev abj(h:az)(a b:cm):az:=(abi h a b).push {cls:=.type "tuple",data:=.seq #[.none,.none]}
abbrev Ru(h:az)(a b:cm):az:=(abj h a b).push {cls:=.type "zip",data:=.fields #[.none,.bool ar,.bool ar,.ref (abh h a b).objs.size,.ref (abi h a b).objs.size]}
theorem Mb(v1 f:ae)(a e:cm):
  Meets (bE.«zip.__new__» ⟨[.type "zip",v1,f],[]⟩) (λ_ R s=>De v1 a s.heap/\De f e (s.heap.push a)/\
   R (.ok (.ret (.ref (abj s.heap a e).objs.size))) {s with heap:=Ru s.heap a e}):=
 .of_wp λprog w A R s h=>by
  obtain⟨b,g,d,c,os⟩:=s;obtain⟨i,j,h⟩:=h;have o:=sub_zip;have m:∀(A:bv) (E:ae->aq->Prop) (Q:ae->aq->Prop),Q (.ref b.objs.size) ⟨b.push a,g,d,c,os⟩->wpAny (model prog w) A (ajv v1) Q E ⟨b,g,d,c,os⟩:=λA E Q q=>i prog w A E ⟨b,g,d,c,os⟩ Q rfl q;have n:∀(A:bv) (E:ae->aq->Prop) (Q:ae->aq->Prop),Q (.ref (b.push a).objs.size) ⟨(b.push a).push e,g,d,c,os⟩->wpAny (model prog w) A (ajv f) Q E ⟨b.push a,g,d,c,os⟩:=λA E Q q=>j prog w A E ⟨b.push a,g,d,c,os⟩ Q rfl q
  wp_walk using m _ _ _,n _ _ _
  exact⟨_,rfl,h⟩
section
variable {prog:ba} {w:bI} {A:bv} {E:ae->aq->Prop} {s:aq}
theorem OE{v1 f:ae}{a b:cm}{Q:ae->aq->Prop}(u:De v1 a s.heap)(v:De f b (s.heap.push a))(y:a.isFreed=ar)(z:b.isFreed=ar)
(h:∀e,adV e (s.heap.objs.size+4) (s.heap.objs.size+2) (s.heap.objs.size+3) .none->dH e (s.heap.objs.size+2) (.ref s.heap.objs.size) (.ref (s.heap.objs.size+1))->
   dH e (s.heap.objs.size+3) .none .none->e.get? s.heap.objs.size=aa a->e.get? (s.heap.objs.size+1)=aa b->e.objs.size=s.heap.objs.size+5->
   (∀c o,s.heap.get? c=aa o->e.get? c=aa o)->Q (.ref (s.heap.objs.size+4)) {s with heap:=e}):
  wpAny (model prog w) A (call (.type "zip") [v1,f]) Q E s:=by
 refine callType_new F.called_zip (by decide) (F.typeCall_zip_2 _ _) (F.newCall_zip_2 _ _) (λobj=>F.args_object_init_3 obj _ _) F.entry_zip_new
  (Mb v1 f a b) ⟨u,v,?_⟩
 have g:(s.heap.push a).objs.size=s.heap.objs.size+1:=bZ ..;have i:(abh s.heap a b).objs.size=s.heap.objs.size+2:=by rw[bZ,g]
 have j:(abi s.heap a b).objs.size=s.heap.objs.size+3:=by rw[bZ,i]
 have m:(abj s.heap a b).objs.size=s.heap.objs.size+4:=by rw[bZ,j]
 have B:(Ru s.heap a b).objs.size=s.heap.objs.size+5:=by rw[bZ,m]
 have n:(Ru s.heap a b).get? (abj s.heap a b).objs.size=aa _:=aP _ rfl;have p:(Ru s.heap a b).get? (abi s.heap a b).objs.size=aa _:=aj _ (aP _ rfl);have q:(Ru s.heap a b).get? (abh s.heap a b).objs.size=aa _:=aj _ (aj _ (aP _ rfl));have r:(Ru s.heap a b).get? (s.heap.push a).objs.size=aa b:=aj _ (aj _ (aj _ (aP _ z)));have C:(Ru s.heap a b).get? s.heap.objs.size=aa a:=aj _ (aj _ (aj _ (aj _ (aP _ y))));show _/\_;rw[i,j,m] at n;rw[g,i] at q;rw[j] at p;rw[g] at r;rw[m];exact⟨⟨_,n,rfl⟩,h _ n q p C r B λc o x=>
  aj _ (aj _ (aj _ (aj _ (aj _ x))))⟩
end
end PySem
section
open PySem PySem.Spec PyProof.Rows
namespace L2
section
variable {X:Cx} {cq:List (ak×cm)} {σ:L2.St} {H:Hp} {s:aq} {h':az}
theorem Inv.T6{h:Nat}(ch:List ak)(I:Inv X cq σ H s)(k:∀b o,b∉ch->s.heap.get? b=aa o->h'.get? b=aa o)(g:∀b∈ch,vz X cq H b):Inv X cq σ H {s with heap:=h',toks:=h}:=by
 have f:∀b u,H b=aa u->b∉ch:=λb u e z=>by have:=(g b z).1;rw[this] at e;cases e
 have i:X.env.locals∉ch:=λz=>(g _ z).2.1 rfl;refine I.step (g':=s.gens) (d':=s.drawn) (ch:=ch) (λb j=>?_) (λb o _ _ a e _=>k b o a e) (λb o _ _ a e _=>⟨o.slots,k b o a e⟩) (λ_ _ _ _ n=>n)
  (λb o a e=>⟨o,k b o a e⟩) (λ_ _ e=>e) (λ_ _ _ e=>e) (λb G e=>⟨#[],by rw[e];simp⟩) (λm hm=>?_) (λb u e=>?_) I.bare
 .obtain⟨J,p,L,w,x,y⟩:=g b j;exact⟨w,p,x,y⟩
 .obtain⟨o,es,A,B,r⟩:=hm;exact⟨o,es,A,k _ o i B,r⟩
 .refine(I.jo b u e).FZ (λc v a q=>k c v ?_ q) (λ_ q=>q) λ_ _ q=>q;rcases a with z|z
  .rw[z];exact f b u e
  .exact f c _ z
end
section
variable {X:Cx} {cq:List (ak×cm)} {σ:L2.St} {H:Hp} {s:aq} {h':az}
theorem Inv.T7{w:Nat}(ch:List ak){T:ak}{i:List V}{ia:List ae}(I:Inv X cq σ H s)(k:∀b o,b∉ch->s.heap.get? b=aa o->h'.get? b=aa o)(j:∀b∈ch,vz X cq H b)(p:s.heap.objs.size<=T)
(x:i.length<=aC)(r:Vals i ia)(ht:ajA h' T ia.toArray):Inv X cq σ (upd H T (.tup i)) {s with heap:=h',toks:=w}:=by
 have g:∀b u,H b=aa u->b∉ch:=λb u e z=>by have:=(j b z).1;rw[this] at e;cases e
 have a:H T=ao:=I.jo.fresh p;have neT:∀b o,s.heap.get? b=aa o->b≠T:=λb o e=>bf (bB (aN e) p);have y:X.env.locals∉ch:=λz=>(j _ z).2.1 rfl;refine I.step (g':=s.gens) (d':=s.drawn) (ch:=ch) (λb h=>?_) (λb o _ _ f e _=>k b o f e) (λb o _ _ f e _=>⟨o.slots,k b o f e⟩) (λb o _ e n=>by rw[g9 (neT b o e)];exact n)
  (λb o f e=>⟨o,k b o f e⟩) (λb xs e=>by rw[g9 (je e a)];exact e) (λb o u e=>by rw[g9 (je e a)];exact e) (λb N e=>⟨#[],by rw[g9 (je e a),e];simp⟩) (λm hm=>?_) (λb u e=>?_) I.bare
 .obtain⟨O,A,Q,B,C,E⟩:=j b h;exact⟨B,A,C,E⟩
 .obtain⟨o,es,G,J,r⟩:=hm;exact⟨o,es,G,k _ o y J,r⟩
 .by_cases h:b=T
  .subst h;rw[ip] at e;cases e;exact⟨x,ia,r,ht⟩
  .rw[g9 h] at e;refine(I.jo b u e).FZ (λc v f q=>k c v ?_ q) (λc q=>by rw[g9 (je q a)];exact q) λc xs q=>by rw[g9 (je q a)];exact q
   rcases f with z|z
   .rw[z];exact g b u e
   .exact g c _ z
end
inductive Sk where
 |L (a:ak)|T (a:ak)|S (z:ay) (t:akr)
noncomputable def Sk.val:Sk->ae
 |.L a=>.ref a
 |.T a=>.ref a
 |.S z t=>.str z t
noncomputable def Sk.obj:Sk->cm
 |.L a=>{cls:=.type "list_iterator",data:=.fields #[.ref a,.int 0 0]}
 |.T a=>{cls:=.type "tuple_iterator",data:=.fields #[.ref a,.int 0 0]}
 |.S z t=>{cls:=.type (dO z),data:=.fields #[.str z t,.int 0 0]}
def Sk.st(it:ak):Sk->Nat->az->Prop
 |.L a,i,h=>h.IsListIter it a i
 |.T a,i,h=>h.IsTupleIter it a i
 |.S z t,i,h=>h.IsStrIter it (dO z) z t i
def Sk.seq(K:bz)(H:Hp):Sk->List V->Prop
 |.L a,b=>p7 K H a b
 |.T a,b=>Bb K H a b
 |.S z _,b=>b=z.cps.toList.map λc=>V.str ⟨#[c]⟩
theorem Sk.GI{it:ak}{k:Sk}{i:Nat}{h:az}(st:k.st it i h):∃o,h.get? it=aa o/\∃n fs,o.cls=.type n/\o.data=.fields fs/\["enumerate","zip","dict_itemiterator","dict_reverseitemiterator","odict_iterator","itertools.zip_longest","itertools.pairwise"].contains n=ar:=by
 cases k with
 |L a=>obtain⟨o,e,c,d⟩:=st;exact⟨o,e,_,_,c,d,by decide⟩
 |T a=>obtain⟨o,e,c,d⟩:=st;exact⟨o,e,_,_,c,d,by decide⟩
 |S z t=>
  obtain⟨o,e,c,d⟩:=st;refine⟨o,e,_,_,c,d,?_⟩;rcases p9 (x:=z) with q|q<;>(rw[q];decide)
theorem Sk.Bs{it:ak}{k:Sk}{i:Nat}{h c:az}(st:k.st it i h)(b:∀o,h.get? it=aa o->c.get? it=aa o):k.st it i c:=by
 cases k with
 |L a=>obtain⟨o,e,r⟩:=st;exact⟨o,b o e,r⟩
 |T a=>obtain⟨o,e,r⟩:=st;exact⟨o,b o e,r⟩
 |S z t=>obtain⟨o,e,r⟩:=st;exact⟨o,b o e,r⟩
theorem Sk.X4{it:ak}{k:Sk}{h:az}(e:h.get? it=aa k.obj):k.st it 0 h:=by
 cases k with
 |L a=>exact⟨_,e,rfl,rfl⟩
 |T a=>exact⟨_,e,rfl,rfl⟩
 |S z t=>exact⟨_,e,rfl,rfl⟩
section
variable {X:Cx} {cq:List (ak×cm)} {σ:L2.St} {H:Hp} {s:aq}
theorem Sk.inj(I:Inv X cq σ H s){k:Sk}{c zs:List V}(h:k.seq X.K H c)(b:k.seq X.K H zs):c=zs:=by
 cases k with
 |L a=>exact I.N6 h b
 |T a=>exact I.KH h b
 |S z t=>exact h.trans b.symm
theorem abk(I:Inv X cq σ H s){b:ak}(a:vz X cq H b):H b=ao/\X.K.lookup b=ao:=by
 refine⟨a.1,?_⟩;cases e:X.K.lookup b with
 |none=>rfl
 |some o=>
  have c:=I.ok.mod.kin b o e;rcases a.2.2.2.1 with z|z
  .exact absurd z (I.ok.U8 b o c)
  .exact absurd (bB (aN c) (bG I.ok.W5 z)) (dN _)
theorem Sk.T8(I:Inv X cq σ H s){b a:ak}(f:vz X cq H b){c:List V}(h:p7 X.K H a c\/Bb X.K H a c):a≠b:=λe=>by subst e;obtain⟨g,i⟩:=abk I f;rcases h with((h|⟨_,h⟩)|⟨_,_,_,h,_⟩)|((h|⟨_,h⟩)|⟨_,_,_,h,_⟩);all_goals first|(rw[g] at h;cases h)|(rw[i] at h;cases h)
theorem Sk.draws{A:bv}(I:Inv X cq σ H s)(o:A.handled=ao){k:Sk}{f:List V}(g:k.seq X.K H f){it:ak}(N:vz X cq H it){i:Nat}(st:k.st it i s.heap):
  ∃C St,gB X.prog X.w A it C f.length (λi v=>∃y,f[i]?=aa y/\RelV y v) St/\St i s.heap/\it∈C/\(∀b,vz X cq H b->b≠it->b∉C)/\∀j h,St j h->k.st it j h:=by
 cases k with
 |L a=>
  obtain⟨ia,r,p,Q⟩:=I.list g;have E:a≠it:=Sk.T8 I N (.inl g);refine⟨[it,a],(λi h=>h.IsListIter it a i/\h.IsList a ia.toArray),?_,⟨st,p.isList⟩,by simp,λb m e=>?_,λj h q=>q.1⟩
  .have D:=re (P':=λi v=>∃y,f[i]?=aa y/\RelV y v) (gB.list (prog:=X.prog) (w:=X.w) o it a E ia.toArray) (λi v e=>by
    have hi:i<ia.length:=by have:=(Array.getElem?_eq_some_iff.mp e).1;simpa using this
    have n:i<f.length:=by rw[r.length];exact hi
    obtain⟨u,G,J⟩:=r.get (i:=i) (x:=f[i]) (by simp[n]);have:u=v:=by
     have e':ia[i]?=aa v:=by simpa using e
     rw[G] at e';exact bD e'
    subst this;exact⟨f[i],by simp[n],J⟩)
   rw[aD,<-r.length] at D;exact D
  .have:=Sk.T8 I m (.inl g);simp only [aO,bT,or_false]
   rintro(q|q)
   .exact e q
   .exact this q.symm
 |T a=>
  obtain⟨ia,r,p,Q⟩:=I.tuple g;have E:a≠it:=Sk.T8 I N (.inr g);refine⟨[it,a],(λi h=>h.IsTupleIter it a i/\h.IsTuple a ia.toArray),?_,⟨st,(show s.heap.IsTuple a ia.toArray from p)⟩,by simp,λb m e=>?_,λj h q=>q.1⟩
  .have D:=re (P':=λi v=>∃y,f[i]?=aa y/\RelV y v) (GD (prog:=X.prog) (w:=X.w) o it a E ia.toArray) (λi v e=>by
    have hi:i<ia.length:=by have:=(Array.getElem?_eq_some_iff.mp e).1;simpa using this
    have n:i<f.length:=by rw[r.length];exact hi
    obtain⟨u,G,J⟩:=r.get (i:=i) (x:=f[i]) (by simp[n]);have:u=v:=by
     have e':ia[i]?=aa v:=by simpa using e
     rw[G] at e';exact bD e'
    subst this;exact⟨f[i],by simp[n],J⟩)
   rw[aD,<-r.length] at D;exact D
  .have:=Sk.T8 I m (.inr g);simp only [aO,bT,or_false]
   rintro(q|q)
   .exact e q
   .exact this q.symm
 |S z t=>
  have g:f=z.cps.toList.map λc=>V.str ⟨#[c]⟩:=g;subst g;have B:∀(i:Nat) (v:ae),(∃(c:Nat) (u:akr),z.cps[i]?=aa c/\v=fM ⟨#[c]⟩ u)->∃y,(z.cps.toList.map λc=>V.str ⟨#[c]⟩)[i]?=aa y/\RelV y v:=by
   rintro i v ⟨c,u,U,Y⟩
   refine⟨.str ⟨#[c]⟩,?_,u,Y⟩;rw[aS,cZ,U];rfl
  have O:(z.cps.toList.map λc=>V.str ⟨#[c]⟩).length=z.cps.size:=by simp
  have key:dO z="str_ascii_iterator"\/dO z="str_iterator":=p9;rcases key with e|e
  .have M:s.heap.IsStrIter it "str_ascii_iterator" z t i:=by rw[<-e];exact st
   refine⟨[it],_,by rw[O];exact re (gB.strAscii o it z t) B,M,by simp,λb m e=>by simpa using e,λj h q=>by show h.IsStrIter it (dO z) z t j;rw[e];exact q⟩
  .have M:s.heap.IsStrIter it "str_iterator" z t i:=by rw[<-e];exact st
   refine⟨[it],_,by rw[O];exact re (gB.strWide o it z t) B,M,by simp,λb m e=>by simpa using e,λj h q=>by show h.IsStrIter it (dO z) z t j;rw[e];exact q⟩
theorem Sk.iter(I:Inv X cq σ H s){k:Sk}{c:List V}(b:k.seq X.K H c):De k.val k.obj s.heap:=by
 intro prog w A E g Q e q;cases k with
 |L a=>
  obtain⟨ia,r,p,f⟩:=I.list b;exact dj (by rw[e];exact p.isList) q
 |T a=>
  obtain⟨ia,r,p,f⟩:=I.tuple b;exact eV (by rw[e];exact(show s.heap.IsTuple a ia.toArray from p)) q
 |S z t=>exact akI q
theorem Sk.agr(I:Inv X cq σ H s){k:Sk}{c:List V}(b:k.seq X.K H c)(o:cm):De k.val k.obj (s.heap.push o):=by
 intro prog w A E g Q e q;cases k with
 |L a=>
  obtain⟨ia,r,p,f⟩:=I.list b;exact dj (by rw[e];exact p.isList.push _) q
 |T a=>
  obtain⟨ia,r,p,f⟩:=I.tuple b;exact eV (by rw[e];exact az.IsTuple.push (show s.heap.IsTuple a ia.toArray from p) _) q
 |S z t=>exact akI q
end
theorem Sk.freed(k:Sk):k.obj.isFreed=ar:=by cases k<;>rfl
noncomputable def Ite(K:bz)(k:Sk):It:=⟨λi H=>∃a y,k.seq K H a/\a[i]?=aa y,λi H x b=>∃p,x=.ref p/\H p=ao/\∀a,k.seq K H a->∃y,a[i]?=aa y/\b=upd H p (.tup [.int i,y]),λi H=>∃a,k.seq K H a/\a.length=i⟩
theorem Vw{P:ba}{w:bI}{K:bz}{elts:List bC}{n:Nat}{pos:d8}(k:Sk)(e it:ak)(U:e≠it):Turn P w K (.Tuple elts n pos) (Ite K k) [e,it] e (λi h=>(∃old,ak4 h e it i old)/\k.st it i h) where
 mem:=by simp
 obj:=λi h st b a=>by
  obtain⟨⟨old,f⟩,s⟩:=st;simp only [aO,bT,or_false] at a;rcases a with rfl|rfl
  .exact⟨_,f,λv z=>by cases z⟩
  .obtain⟨o,e,n,fs,c,d,_⟩:=Sk.GI s;exact⟨o,e,λv z=>by rw[d] at z;cases z⟩
 keep:=λi h Y st kk=>by obtain⟨⟨old,f⟩,s⟩:=st;exact⟨⟨old,kk e (by simp) _ f⟩,Sk.Bs s λo q=>kk it (by simp) o q⟩
 item:=by
  intro X C hw hK hc i cq s σ H E I g st hg;subst C hw hK;obtain⟨ys,y,hq,G⟩:=hg;obtain⟨⟨old,f⟩,j⟩:=st;have m:=g e (by simp);have p:=g it (by simp);have Vp:X.A.in1.handled=ao:=I.ok.hd hc;obtain⟨fp,St,D,u,hm,GJ,kM⟩:=Sk.draws I Vp hq p j;have W:=WalksT.enumerateD (A:=X.A) D e U (GJ e m U) hm;have hi:i<ys.length:=(au.mp G).1;refine W.item i s _ _ hi ⟨⟨old,f⟩,u⟩ λT vals Y tk C hT aio J hk=>⟨.ref T,rfl,?_⟩;obtain⟨t,x,⟨y',L,ry⟩,rfl⟩:=C;have:y'=y:=by rw[G] at L;exact(bD L).symm
  subst this;have hap:=W.apart i T Y J;refine W.go elts n pos i T {s with heap:=Y,toks:=tk} _ E J λB M N=>?_;have O:T∉[e,it]:=hap;have kk:∀b o,b∉[e,it]->s.heap.get? b=aa o->B.get? b=aa o:=λb o a eb=>N b o a (hk b o a eb);have hTs:B.IsTuple T #[.int i t,x]:=by obtain⟨o,ho,r⟩:=aio;exact⟨o,N T o O ho,r⟩
  have hTH:H T=ao:=I.jo.fresh hT;have I2:Inv X cq σ (upd H T (.tup [.int i,y'])) {s with heap:=B,toks:=tk}:=I.T7 [e,it] kk (λb a=>g b a) hT (by show 2<=aC;decide) (ia:=[.int i t,x]) (.cons ⟨t,rfl⟩ (.cons ry .nil)) hTs;refine⟨.ref T,_,I2,rfl,⟨T,rfl,hTH,λzs hz=>?_⟩,⟨M.1,kM _ _ M.2⟩,λb a=>?_⟩
  .rw[Sk.inj I hz hq];exact⟨y',G,rfl⟩
  .rw[g9 λq=>O (by rw[<-q];exact a)];exact(g b a).1
 done:=by intro X C hw hK hc i cq s σ H E I g st hg;subst C hw hK;obtain⟨ys,hq,G⟩:=hg;obtain⟨⟨old,f⟩,j⟩:=st;have m:=g e (by simp);have p:=g it (by simp);have Vp:X.A.in1.handled=ao:=I.ok.hd hc;obtain⟨fp,St,D,u,hm,GJ,kM⟩:=Sk.draws I Vp hq p j;have W:=WalksT.enumerateD (A:=X.A) D e U (GJ e m U) hm;subst G;exact W.done s _ _ ⟨⟨old,f⟩,u⟩ λY tk hk=>⟨rfl,I.T6 [e,it] hk (λb a=>g b a)⟩
 self:=λA i s Q E st h=>by obtain⟨⟨old,f⟩,_⟩:=st;exact akJ f h
noncomputable def Itz(K:bz)(k b:Sk):It:=⟨λi H=>∃a zs y z,k.seq K H a/\b.seq K H zs/\a[i]?=aa y/\zs[i]?=aa z,
 λi H x c=>∃p,x=.ref p/\H p=ao/\∀a zs,k.seq K H a->b.seq K H zs->∃y z,a[i]?=aa y/\zs[i]?=aa z/\c=upd H p (.tup [y,z]),
 λi H=>∃a zs,k.seq K H a/\b.seq K H zs/\(i=a.length\/(i<a.length/\i=zs.length))⟩
theorem X5{P:ba}{w:bI}{K:bz}{elts:List bC}{n:Nat}{pos:d8}(k k2:Sk)(z TI TO g j:ak)(nd:[z,TI,TO,g,j].Nodup):Turn P w K (.Tuple elts n pos) (Itz K k k2) [z,TI,TO,g,j] z
  (λi h=>adV h z TI TO .none/\dH h TI (.ref g) (.ref j)/\(∃a b,dH h TO a b)/\k.st g i h/\k2.st j i h) where
 mem:=by simp
 obj:=λi h st b f=>by
  obtain⟨L,G,⟨a,c,M⟩,N,O⟩:=st;simp only [aO,bT,or_false] at f;rcases f with rfl|rfl|rfl|rfl|rfl
  .exact⟨_,L,λv z=>by cases z⟩
  .exact⟨_,G,λv z=>by cases z⟩
  .exact⟨_,M,λv z=>by cases z⟩
  .obtain⟨o,e,n,fs,c,d,_⟩:=Sk.GI N;exact⟨o,e,λv z=>by rw[d] at z;cases z⟩
  .obtain⟨o,e,n,fs,c,d,_⟩:=Sk.GI O;exact⟨o,e,λv z=>by rw[d] at z;cases z⟩
 keep:=λi h h' st T=>by obtain⟨L,G,⟨a,c,M⟩,N,O⟩:=st;exact⟨T z (by simp) _ L,T TI (by simp) _ G,⟨a,c,T TO (by simp) _ M⟩,Sk.Bs N λo q=>T g (by simp) o q,Sk.Bs O λo q=>T j (by simp) o q⟩
 item:=by
  intro X hP hw hK hc i cq s σ H E I m st hg;subst hP hw hK;obtain⟨ys,zs,y,y2,hq,J,hy,U⟩:=hg;obtain⟨L,G,⟨a,c,M⟩,N,O⟩:=st;have p:=m z (by simp);have hTI:=m TI (by simp);have Vu:=m TO (by simp);have r:=m g (by simp);have x:=m j (by simp);simp only [dI,aO,bT,or_false,not_or,fS,and_true,not_false_eq_true] at nd;obtain⟨⟨n1,n2,n3,n4⟩,⟨n5,n6,n7⟩,⟨n8,n9⟩,B⟩:=nd;have Vp:X.A.in1.handled=ao:=I.ok.hd hc;obtain⟨fp,St,D,Y,hm,GJ,kM⟩:=Sk.draws I Vp hq r N;obtain⟨Oz,St2,D2,aep,hm2,GK,agt⟩:=Sk.draws I Vp J x O;have Z:K6 z TI TO g j fp Oz:=⟨cV n1,cV n2,n5,n6,n7,hm,hm2,GJ z p n3,GK z p n4,GJ TO Vu n8,GK TO Vu n9,GK g r B,GJ j x (cV B)⟩;have l1:i<ys.length:=(au.mp hy).1;have l2:i<zs.length:=(au.mp U).1;refine OC Z D D2 L G M Y aep l1 l2 λu v h' tk p1 p2 g1 g2 g3 g4 g5 g6 g7=>⟨.ref s.heap.objs.size,rfl,?_⟩;obtain⟨y',hy',ry⟩:=p1;obtain⟨y2',agu,ry2⟩:=p2;have e1:y'=y:=by rw[hy] at hy';exact(bD hy').symm
  have e2:y2'=y2:=by rw[U] at agu;exact(bD agu).symm
  subst e1 e2;refine wpAny_letOwnedTupleGo_zip (s:={s with heap:=h',toks:=tk}) g1 λC aip X6=>?_;replace X6:bJ z h' C:=X6;have lt:∀{c o},s.heap.get? c=aa o->s.heap.objs.size≠c:=λe=>eA (aN e);have T:∀b o,b∉[z,TI,TO,g,j]->s.heap.get? b=aa o->C.get? b=aa o:=λb o f eb=>by simp only [aO,bT,or_false,not_or] at f;exact X6.extBut _ _ f.1 (g7 b o f.1 f.2.2.1 f.2.2.2.1 f.2.2.2.2 eb)
  have hTz:s.heap.objs.size≠z:=lt L;have hTn:s.heap.objs.size∉[z,TI,TO,g,j]:=by
   simp only [aO,bT,or_false,not_or];refine⟨hTz,lt G,lt M,?_,?_⟩
   .obtain⟨o,e,_⟩:=Sk.GI N;exact lt e
   .obtain⟨o,e,_⟩:=Sk.GI O;exact lt e
  have hTs:ajA C s.heap.objs.size #[u,v]:=⟨_,X6.extBut _ _ hTz g5,rfl,_,rfl⟩;have hTH:H s.heap.objs.size=ao:=I.jo.fresh (aM _);have I2:Inv X cq σ (upd H s.heap.objs.size (.tup [y',y2'])) {s with heap:=C,toks:=tk}:=I.T7 [z,TI,TO,g,j] T (λb f=>m b f) (aM _) (by show 2<=aC;decide) (ia:=[u,v]) (.cons ry (.cons ry2 .nil)) hTs;have up:∀c o,c≠z->h'.get? c=aa o->C.get? c=aa o:=λc o hc e=>X6.extBut _ _ hc e;refine⟨.ref s.heap.objs.size,_,I2,rfl,⟨_,rfl,hTH,λas bs ha f=>?_⟩,⟨aip,up _ _ (cV n1) (g7 _ _ (cV n1) n5 n6 n7 G),⟨_,_,up _ _ (cV n2) g2⟩,Sk.Bs (kM _ _ g3) λo q=>up _ _ (cV n3) q,Sk.Bs (agt _ _ g4) λo q=>up _ _ (cV n4) q⟩,λb f=>?_⟩
  .rw[Sk.inj I ha hq,Sk.inj I f J];exact⟨y',y2',hy,U,rfl⟩
  .rw[g9 λq=>hTn (by rw[<-q];exact f)];exact(m b f).1
 done:=by intro X hP hw hK hc i cq s σ H E I m st hg;subst hP hw hK;obtain⟨ys,zs,hq,J,X3⟩:=hg;obtain⟨L,G,⟨a,c,M⟩,N,O⟩:=st;have p:=m z (by simp);have hTI:=m TI (by simp);have Vu:=m TO (by simp);have r:=m g (by simp);have x:=m j (by simp);simp only [dI,aO,bT,or_false,not_or,fS,and_true,not_false_eq_true] at nd;obtain⟨⟨n1,n2,n3,n4⟩,⟨n5,n6,n7⟩,⟨n8,n9⟩,B⟩:=nd;have Vp:X.A.in1.handled=ao:=I.ok.hd hc;obtain⟨fp,St,D,Y,hm,GJ,kM⟩:=Sk.draws I Vp hq r N;obtain⟨Oz,St2,D2,aep,hm2,GK,agt⟩:=Sk.draws I Vp J x O;have Z:K6 z TI TO g j fp Oz:=⟨cV n1,cV n2,n5,n6,n7,hm,hm2,GJ z p n3,GK z p n4,GJ TO Vu n8,GK TO Vu n9,GK g r B,GJ j x (cV B)⟩;refine Rt Z D D2 L G M Y aep X3 λh' tk hk=>⟨rfl,I.T6 [z,TI,TO,g,j] (λb o f eb=>?_) (λb f=>m b f)⟩;simp only [aO,bT,or_false,not_or] at f;exact hk b o f.1 f.2.2.1 f.2.2.2.1 f.2.2.2.2 eb
 self:=λA i s Q E st h=>akU st.1 h
def Rv (K:bz)(H:Hp)(x:V)(b:Sk->Prop):Prop:=(∃a,x=.ref a/\(∃c,p7 K H a c)/\b (.L a))\/(∃a,x=.ref a/\(∃c,Bb K H a c)/\b (.T a))\/(∃z,x=.str z/\∀t,b (.S z t))
theorem Rv.get{K:bz}{H:Hp}{x:V}{u:ae}{c:Sk->Prop}(h:Rv K H x c)(r:RelV x u):∃k:Sk,u=k.val/\(∃b,k.seq K H b)/\c k:=by
 rcases h with⟨a,rfl,⟨b,h⟩,q⟩|⟨a,rfl,⟨b,h⟩,q⟩|⟨z,rfl,q⟩
 .exact⟨.L a,r,⟨b,h⟩,q⟩
 .exact⟨.T a,r,⟨b,h⟩,q⟩
 .obtain⟨t,rfl⟩:=r;exact⟨.S z t,rfl,⟨_,rfl⟩,q t⟩
noncomputable def Sk.it(K:bz):Sk->It
 |.L a=>Itl K a
 |.T a=>Itt K a
 |.S z _=>Its z
section
variable {X:Cx} {tg:bC}
def aiq (K:bz)(a:TE):TI:=λσ H R=>a σ H λx H1=>Rv K H1 x λk=>R (k.it K) H1
theorem aeq{e:bC}{i:TE}(j:PE X e i):PI X tg e (aiq X.K i):=by
 intro cq s σ H R I h;refine kq (j cq s σ H _ I h) λv s1 m=>?_;obtain⟨x,H1,f,n,p⟩:=m;obtain⟨k,rfl,⟨u,r⟩,q⟩:=p.get n;refine(Sk.iter f r) _ _ _ _ s1 _ rfl ?_;have c:∀b∈[s1.heap.objs.size],vz X cq H1 b:=λb c=>by
  have e:b=s1.heap.objs.size:=by simpa using c
  subst e;exact f.Xf (aM _) (f.jo.fresh (aM _))
 have g:Inv X cq σ H1 {s1 with heap:=s1.heap.push k.obj}:=f.kept (t':=s1.toks) λb o e=>aj _ e;cases k with
 |L a=>exact⟨s1.heap.objs.size,[s1.heap.objs.size],_,_,H1,rfl,g,U9 a _,⟨_,aP _ rfl,rfl,rfl⟩,c,q⟩
 |T a=>exact⟨s1.heap.objs.size,[s1.heap.objs.size],_,_,H1,rfl,g,Q2 a _,⟨_,aP _ rfl,rfl,rfl⟩,c,q⟩
 |S z t=>exact⟨s1.heap.objs.size,[s1.heap.objs.size],_,_,H1,rfl,g,XF _ z t,⟨⟨_,aP _ rfl,rfl,rfl⟩,bi _⟩,c,q⟩
def agv (K:bz)(a:TA):TI:=λσ H R=>a σ H λb H1=>∃x,b=[x]/\Rv K H1 x λk=>R (Ite K k) H1
theorem abl{a:bC}{C:TA}{p pos E:d8}{elts:List bC}{n:Nat}(J:Gl X "enumerate")(hm:X.mg "enumerate"=ao)(ha:PA X [a] C)(m:bc [a] X.env=[(ar,eval a X.env)]:=by rfl):
  PI X (.Tuple elts n E) (.Call (.Name "enumerate" p) [a] [] pos) (agv X.K C):=by
 intro cq s σ H R I h;refine Call_ (Ah I J hm boot_enumerate (dq (kq (ha pos cq s σ H _ I h) λus s1 ⟨Q,H1,g,M,y⟩=>?_) m rfl));obtain⟨x,rfl,y⟩:=y;obtain⟨u,rfl,N⟩:=vals1 M;obtain⟨k,rfl,⟨U,m⟩,q⟩:=y.get N;have B:∀c:az,ak4 c (s1.heap.objs.size+1) s1.heap.objs.size 0 .none->k.st s1.heap.objs.size 0 c->(∀b o,s1.heap.get? b=aa o->c.get? b=aa o)->
   wpAny (model X.prog X.w) X.A (ajv (.ref (s1.heap.objs.size+1))) (PIE X cq σ (.Tuple elts n E) R) X.xe {s1 with heap:=c}:=λc e f v=>by
  refine akJ (s:={s1 with heap:=c}) e ?_;have ne:s1.heap.objs.size+1≠s1.heap.objs.size:=by omega
  refine⟨s1.heap.objs.size+1,[s1.heap.objs.size+1,s1.heap.objs.size],_,_,H1,rfl,g.kept (t':=s1.toks) v,Vw k _ _ ne,⟨⟨_,e⟩,f⟩,λb G=>?_,q⟩;have i:s1.heap.objs.size<=b:=by simp only [aO,bT,or_false] at G;rcases G with rfl|rfl<;>omega
  exact g.Xf i (g.jo.fresh i)
 cases k with
 |L a=>
  obtain⟨ia,r,pl,O⟩:=g.list m;exact call_enumerate_list pl.isList λc e f v j=>B c e f j
 |T a=>
  obtain⟨ia,r,pl,O⟩:=g.tuple m;exact GG (show s1.heap.IsTuple a ia.toArray from pl) λc e f v j=>B c e f j
 |S z t=>exact call_enumerate_str λc e f v j=>B c e f j
theorem Vx:bU "zip"=aa (.type "zip"):=by decide+kernel
def air (K:bz)(a:TA):TI:=λσ H R=>a σ H λb H1=>∃x y,b=[x,y]/\Rv K H1 x λk=>Rv K H1 y λc=>R (Itz K k c) H1
theorem aer{a b:bC}{j:TA}{p pos w:d8}{elts:List bC}{n:Nat}(z:Gl X "zip")(hm:X.mg "zip"=ao)(ha:PA X [a,b] j)(g:bc [a,b] X.env=[(ar,eval a X.env),(ar,eval b X.env)]:=by rfl)(c:bc [b] X.env=[(ar,eval b X.env)]:=by rfl):
  PI X (.Tuple elts n w) (.Call (.Name "zip" p) [a,b] [] pos) (air X.K j):=by
 intro cq s σ H R I h;refine Call_ (Ah I z hm Vx (dq (kq (ha pos cq s σ H _ I h) λus s1 ⟨O,H1,e,A,i⟩=>?_) (by rw[g,c]) (by rw[c];rfl)));obtain⟨x,y,rfl,i⟩:=i;obtain⟨u,v,rfl,B,C⟩:=vals2 A;obtain⟨k,rfl,⟨Q,g⟩,q⟩:=i.get B;obtain⟨m,rfl,⟨zs,c⟩,q⟩:=q.get C;refine OE (Sk.iter e g) (Sk.agr e c _) k.freed m.freed λE o G J L M T N=>?_;refine akU (s:={s1 with heap:=E}) o ?_;refine⟨_,[s1.heap.objs.size+4,s1.heap.objs.size+2,s1.heap.objs.size+3,s1.heap.objs.size,s1.heap.objs.size+1],_,_,H1,rfl,e.kept (t':=s1.toks) N,X5 k m _ _ _ _ _ (by simp),⟨o,G,⟨_,_,J⟩,Sk.X4 L,Sk.X4 M⟩,λb r=>?_,q⟩;have f:s1.heap.objs.size<=b:=by simp only [aO,bT,or_false] at r;rcases r with rfl|rfl|rfl|rfl|rfl<;>omega
 exact e.Xf f (e.jo.fresh f)
end
end L2
namespace L3
open L2
noncomputable def Ap:D->Option (List D)
 |.lst ds=>aa ds
 |.tup ds=>aa ds
 |.uI ns=>aa (ns.map D.int)
 |.str z=>aa (z.cps.toList.map λc=>D.str ⟨#[c]⟩)
 |_=>ao
def SkV (d:D)(v:V)(k:Sk):Prop:=match d with
 |.lst _|.uI _=>∃a,v=.ref a/\k=.L a
 |.tup _=>∃a,v=.ref a/\k=.T a
 |.str z=>v=.str z/\∃t,k=.S z t
 |_=>False
section
variable {K:bz} {F α:List ak} {H:Hp} {M:Ms}
theorem Fz(o:OK K F α H M){d:D}{v:V}{items:List D}{k:Sk}(r:Rep K α (jy F α M H) d v)(e:Ap (vw M d)=aa items)(b:SkV (vw M d) v k):∃j,k.seq K H j/\gJ K α (jy F α M H) items j:=by
 generalize g:vw M d=x at e b;cases x<;>first|(exfalso;cases e;done)|skip
 .cases e;have h:=oj g;subst h;obtain⟨rfl,t,rfl⟩:=b;exact⟨_,rfl,gJ.of_map _ _ (λc=>qZ) _⟩
 .cases e;obtain⟨a,rfl,rfl⟩:=b;obtain⟨m,i,f,q,z⟩:=om o r g;cases f;exact⟨i,q,z⟩
 .cases e;obtain⟨a,rfl,rfl⟩:=b;obtain⟨m,i,f,q,z⟩:=ki o r g;cases f;exact⟨i,p7.of q,z⟩
 .cases e;have h:=xF g;subst h;obtain⟨a,rfl,rfl⟩:=b;unfold Rep at r;obtain⟨m,f,q⟩:=r;cases f;exact⟨_,lZ il q,gJ.of_map _ _ (λc=>iU) _⟩
theorem Mc(o:OK K F α H M){d:D}{v:V}{items:List D}{f:Sk->Prop}(r:Rep K α (jy F α M H) d v)(e:Ap (vw M d)=aa items)(h:∀k,SkV (vw M d) v k->f k):Rv K H v f:=by
 generalize b:vw M d=x at e h;cases x<;>first|(exfalso;cases e;done)|skip
 .have c:=oj b;subst c;unfold Rep at r;subst r;exact .inr (.inr ⟨_,rfl,λt=>h _ ⟨rfl,t,rfl⟩⟩)
 .obtain⟨a,g,rfl,q,z⟩:=om o r b;exact .inr (.inl ⟨a,rfl,⟨_,q⟩,h _ ⟨a,rfl,rfl⟩⟩)
 .obtain⟨a,g,rfl,q,z⟩:=ki o r b;exact .inl ⟨a,rfl,⟨_,p7.of q⟩,h _ ⟨a,rfl,rfl⟩⟩
 .have c:=xF b;subst c;unfold Rep at r;obtain⟨a,rfl,q⟩:=r;exact .inl ⟨a,rfl,⟨_,lZ il q⟩,h _ ⟨a,rfl,rfl⟩⟩
end
section
variable {X:Cx} {tg e a b:bC} {te:DE} {tt:DA} {p pos vy:d8} {elts:List bC} {n:Nat}
def jM (te:DE):DI:=λc M Q=>te c M λd M1=>∃items,Ap (vw M1 d)=aa items/\Q items (λf=>vw f d=vw M1 d) M1
theorem jg(N:JE X e te):JI X tg e (jM te):=by
 refine⟨λI M P Q w q=>N.mono I _ _ _ (λd M1 q=>?_) q,PI.weak (aeq N.p) λσ H Q q=>?_⟩
 .obtain⟨items,e,q⟩:=q;exact⟨items,e,w _ _ _ q⟩
 .obtain⟨F,α,I,M,r,q⟩:=q;refine⟨F,α,I,M,r,N.mono I _ _ _ (λd M1 q v O H1 e1 U r1=>?_) q⟩;obtain⟨items,ei,q⟩:=q;refine Mc U r1 ei λk hk=>q _ O H1 H1 id e1 U (XS.refl U) ?_;have key:∀m f o j,O <+: f->jV (jy F O M1 H1) (jy m f j o)->OK X.K m f o j->vw j d=vw M1 d->∃g,k.seq X.K o g/\gJ X.K f (jy m f j o) items g:=λm f o j A B u y=>
   Fz u (Rep.mono A B d v r1) (by rw[y];exact ei) (by rw[y];exact hk)
  refine⟨λi m f o j A B u y hi=>?_,λi m f o j x C d' A B u y hd E=>?_,λm f o j A B u y=>?_⟩
  .obtain⟨g,h,G⟩:=key m f o j A B u y;have J:=gJ.length _ _ G;cases k with
   |L a=>exact⟨g,g[i],h,by simp⟩
   |T a=>exact⟨g,g[i],h,by simp⟩
   |S z t=>
    have h:g=z.cps.toList.map λc=>V.str ⟨#[c]⟩:=h;show i<z.cps.size;rw[h] at J;simpa[J] using hi
  .obtain⟨g,h,G⟩:=key m f o j A B u y;have Y:∀C,C=o->g[i]?=aa x->OK X.K m f C j/\Ext m f o j f C j/\Rep X.K f (jy m f j C) d' x:=λC e hx=>by subst e;obtain⟨d2,e2,r2⟩:=gJ.get' _ _ i x G hx;rw[hd] at e2;cases e2;exact⟨u,Ext.refl,r2⟩
   cases k with
   |L a=>exact Y _ E.1 (E.2 g h)
   |T a=>exact Y _ E.1 (E.2 g h)
   |S z t=>
    obtain⟨e,c,hc,hx⟩:=E;have h:g=z.cps.toList.map λc=>V.str ⟨#[c]⟩:=h;refine Y _ e ?_;rw[h,aS,cZ,hc,hx];rfl
  .obtain⟨g,h,G⟩:=key m f o j A B u y;have J:=gJ.length _ _ G;cases k with
   |L a=>exact⟨g,h,by omega⟩
   |T a=>exact⟨g,h,by omega⟩
   |S z t=>
    have h:g=z.cps.toList.map λc=>V.str ⟨#[c]⟩:=h;show z.cps.size<=items.length;rw[J,h];simp
def pD (tt:DA):DI:=λc M Q=>tt c M λds M1=>match ds with
 |[d]=>∃items,Ap (vw M1 d)=aa items/\Q (items.mapIdx λi d=>.tup [.int i,d]) (λf=>vw f d=vw M1 d) M1
 |_=>False
theorem qU{K:bz}{α:List ak}{H:Hp}{d:D}{c:List V}(h:gJ K α H [d] c):∃v,c=[v]/\Rep K α H d v:=by unfold gJ at h;obtain⟨v,r,rfl,z,y⟩:=h;unfold gJ at y;subst y;exact⟨v,rfl,z⟩
theorem OG{K:bz}{α:List ak}{H:Hp}{d e:D}{c:List V}(h:gJ K α H [d,e] c):∃v u,c=[v,u]/\Rep K α H d v/\Rep K α H e u:=by unfold gJ at h;obtain⟨v,r,rfl,z,y⟩:=h;obtain⟨u,rfl,w⟩:=qU y;exact⟨v,u,rfl,z,w⟩
theorem tj(ha:JA X [a] tt)(hm:X.mg "enumerate"=ao)(Y:Gl X "enumerate":=by rfl)(j:bc [a] X.env=[(ar,eval a X.env)]:=by rfl):JI X (.Tuple elts n vy) (.Call (.Name "enumerate" p) [a] [] pos) (pD tt):=by
 refine⟨λG M P Q w q=>ha.mono G _ _ _ (λds M1 q=>?_) q,PI.weak (abl Y hm ha.p j) λσ H Q q=>?_⟩
 .match ds,q with
  |[d],⟨items,e,q⟩=>exact⟨items,e,w _ _ _ q⟩
 .obtain⟨F,α,G,M,r,q⟩:=q;refine⟨F,α,G,M,r,ha.mono G _ _ _ (λds M1 q vs I H1 e1 J L=>?_) q⟩;match ds,q,L with
  |[d],⟨items,T,q⟩,L=>
   obtain⟨v,ev,U⟩:=qU L;subst ev;refine⟨v,rfl,Mc J U T λk hk=>q _ I H1 H1 id e1 J (XS.refl J) ?_⟩;have key:∀h c f g,I <+: c->jV (jy F I M1 H1) (jy h c g f)->OK X.K h c f g->vw g d=vw M1 d->∃m,k.seq X.K f m/\gJ X.K c (jy h c g f) items m:=λh c f g z j o u=>
    Fz o (Rep.mono z j d v U) (by rw[u];exact T) (by rw[u];exact hk)
   refine⟨λi h c f g z j o u hi=>?_,λi h c f g x H2 d' z j o u hd N=>?_,λh c f g z j o u=>?_⟩
   .obtain⟨m,A,B⟩:=key h c f g z j o u;have hl:=gJ.length _ _ B;rw[fU] at hi;exact⟨m,m[i]'(by omega),A,by simp⟩
   .obtain⟨m,A,B⟩:=key h c f g z j o u;obtain⟨p,rfl,C,N⟩:=N;obtain⟨y,O,rfl⟩:=N m A;obtain⟨d2,e2,r2⟩:=gJ.get' _ _ i y B O;rw[List.getElem?_mapIdx,e2] at hd;cases hd;obtain⟨o2,E⟩:=o.laid (x:=.tup [.int i,y]) C;exact⟨o2,E,nM o C (gJ.cons iU (gJ.one r2)) E⟩
   .obtain⟨m,A,B⟩:=key h c f g z j o u;have hl:=gJ.length _ _ B;exact⟨m,A,by rw[fU];omega⟩
def acP (tt:DA):DI:=λg M Q=>tt g M λds M1=>match ds with
 |[d,e]=>∃xs c,Ap (vw M1 d)=aa xs/\Ap (vw M1 e)=aa c/\Q (dz (λa b=>.tup [a,b]) xs c) (λf=>vw f d=vw M1 d/\vw f e=vw M1 e) M1
 |_=>False
theorem aes(ha:JA X [a,b] tt)(hm:X.mg "zip"=ao)(hg:Gl X "zip":=by rfl)(j:bc [a,b] X.env=[(ar,eval a X.env),(ar,eval b X.env)]:=by rfl)(hs2:bc [b] X.env=[(ar,eval b X.env)]:=by rfl):
  JI X (.Tuple elts n vy) (.Call (.Name "zip" p) [a,b] [] pos) (acP tt):=by
 refine⟨λY M P Q w q=>ha.mono Y _ _ _ (λds M1 q=>?_) q,PI.weak (aer hg hm ha.p j hs2) λσ H Q q=>?_⟩
 .match ds,q with
  |[d,e],⟨xs,m,e1,e2,q⟩=>exact⟨xs,m,e1,e2,w _ _ _ q⟩
 .obtain⟨F,α,Y,M,r,q⟩:=q;refine⟨F,α,Y,M,r,ha.mono Y _ _ _ (λds M1 q vs G H1 e1 o1 E=>?_) q⟩;match ds,q,E with
  |[d,d2],⟨items,aet,ei,I,q⟩,E=>
   obtain⟨v,u,rfl,E,r2⟩:=OG E;refine⟨v,u,rfl,Mc o1 E ei λk hk=>Mc o1 r2 I λk2 hk2=>q _ G H1 H1 id e1 o1 (XS.refl o1) ?_⟩;have key:∀h c f g,G <+: c->jV (jy F G M1 H1) (jy h c g f)->OK X.K h c f g->vw g d=vw M1 d->∃m,k.seq X.K f m/\gJ X.K c (jy h c g f) items m:=λh c f g B j o A=>
    Fz o (Rep.mono B j d v E) (by rw[A];exact ei) (by rw[A];exact hk)
   have C:∀h c f g,G <+: c->jV (jy F G M1 H1) (jy h c g f)->OK X.K h c f g->vw g d2=vw M1 d2->∃m,k2.seq X.K f m/\gJ X.K c (jy h c g f) aet m:=λh c f g B j o A=>
    Fz o (Rep.mono B j d2 u r2) (by rw[A];exact I) (by rw[A];exact hk2)
   refine⟨λi h c f g B j o A hi=>?_,λi h c f g x H2 d' B j o A hd hy=>?_,λh c f g B j o A=>?_⟩
   .obtain⟨m,J,L⟩:=key h c f g B j o A.1;obtain⟨zs,N,O⟩:=C h c f g B j o A.2;have hl:=gJ.length _ _ L;have hl2:=gJ.length _ _ O;rw[List.length_zipWith] at hi;exact⟨m,zs,m[i]'(by omega),zs[i]'(by omega),J,N,by simp,by simp⟩
   .obtain⟨m,J,L⟩:=key h c f g B j o A.1;obtain⟨zs,N,O⟩:=C h c f g B j o A.2;obtain⟨p,rfl,T,hy⟩:=hy;obtain⟨y,z,hy1,hz1,rfl⟩:=hy m zs J N;obtain⟨x1,e2,r2⟩:=gJ.get' _ _ i y L hy1;obtain⟨x2,e3,r3⟩:=gJ.get' _ _ i z O hz1;rw[List.getElem?_zipWith,e2,e3] at hd;cases hd;obtain⟨o2,U⟩:=o.laid (x:=.tup [y,z]) T;exact⟨o2,U,nM o T (gJ.cons r2 (gJ.one r3)) U⟩
   .obtain⟨m,J,L⟩:=key h c f g B j o A.1;obtain⟨zs,N,O⟩:=C h c f g B j o A.2;have hl:=gJ.length _ _ L;have hl2:=gJ.length _ _ O;refine⟨m,zs,J,N,?_⟩;rw[List.length_zipWith];omega
noncomputable def zF(lo:Int)(n:Nat):List D:=(cB n).map λ(i:Nat)=>D.int (lo+(i:Int))
theorem aev{K:bz}{F u:List ak}{H1:Hp}{M1:Ms}{lo:Int}{n:Nat}:agg K F u H1 M1 (Itr lo n) (zF lo n) λ_=>True:=by
 refine⟨λi f g h m o q c r hi=>?_,λi f g h m x y z o q c r hd v=>?_,λf g h m o q c r=>?_⟩
 .show i<n;simpa[zF] using hi
 .obtain⟨rfl,rfl⟩:=v;unfold zF at hd;rw[aS] at hd;cases e:(cB n)[i]? with
  |none=>rw[e] at hd;cases hd
  |some j=>
   rw[e] at hd;have:j=i:=by have:=au.mp e;obtain⟨A,w⟩:=this;simpa using w.symm
   subst this;cases hd;exact⟨c,Ext.refl,iU⟩
 .show n<=(zF lo n).length;simp[zF]
def xH (tt:DA):DI:=λc M Q=>tt c M λds M1=>match ds with
 |[.int j]=>(-(2^62)<=j/\j<2^62)/\Q (zF 0 j.toNat) (λ_=>True) M1
 |_=>False
theorem pE(ha:JA X [a] tt)(hm:X.mg "range"=ao)(m:Gl X "range":=by rfl)(o:bc [a] X.env=[(ar,eval a X.env)]:=by rfl):JI X tg (.Call (.Name "range" p) [a] [] pos) (xH tt):=by
 refine⟨λc M P Q w q=>ha.mono c _ _ _ (λds M1 q=>?_) q,PI.weak (Va m hm ha.p o) λσ H Q q=>?_⟩
 .match ds,q with
  |[.int j],⟨e,q⟩=>exact⟨e,w _ _ _ q⟩
 .obtain⟨F,α,c,M,r,q⟩:=q;refine⟨F,α,c,M,r,ha.mono c _ _ _ (λds M1 q z u H1 x g f=>?_) q⟩;match ds,q,f with
  |[.int j],⟨h,q⟩,f=>
   obtain⟨v,y,i⟩:=qU f;subst y;unfold Rep at i;subst i;exact⟨j,rfl,h.1,h.2,q _ u H1 H1 id x g (XS.refl g) aev⟩
end
mutual
noncomputable def toP:D->cC
 |.non=>.none
 |.bl b=>.bool b
 |.int i=>.int i
 |.str x=>.str x
 |.tup ds=>.tuple (toPs ds)
 |.lst ds=>.list (toPs ds)
 |.ty _|.kt _ _|.ins _ _ _|.exc _ _ _|.uI _|.loc _|.cls _=>.dict []
noncomputable def toPs:List D->List cC
 |[]=>[]
 |d::ds=>toP d::toPs ds
end
mutual
noncomputable def pl:D->Bool
 |.non|.bl _|.int _=>ag
 |.str x=>cn x
 |.tup ds|.lst ds=>K7 ds
 |.ty _|.kt _ _|.ins _ _ _|.exc _ _ _|.uI _|.loc _|.cls _=>ar
noncomputable def K7:List D->Bool
 |[]=>ag
 |d::ds=>pl d&&K7 ds
end
mutual
noncomputable def dp:D->Nat
 |.tup ds|.lst ds=>FA ds+1
 |.non|.bl _|.int _|.str _|.ty _|.kt _ _|.ins _ _ _|.exc _ _ _|.uI _|.loc _|.cls _=>0
noncomputable def FA:List D->Nat
 |[]=>0
 |d::ds=>max (dp d) (FA ds)
end
mutual
noncomputable def Bt:D->D->Bool
 |.non,.non=>ag
 |.bl a,.bl b=>a==b
 |.bl a,.int j=>(if a then 1 else 0)==j
 |.int i,.bl b=>i==(if b then 1 else 0)
 |.int i,.int j=>i==j
 |.str x,.str y=>x==y
 |.lst xs,.lst c=>Jw xs c
 |.tup xs,.tup c=>Jw xs c
 |_,_=>ar
noncomputable def Jw:List D->List D->Bool
 |[],[]=>ag
 |x::xs,y::c=>Bt x y&&Jw xs c
 |_,_=>ar
end
mutual
theorem toP_lay:∀d:D,pl d=ag->(toP d).canLay0=ag
 |.non,_=>rfl
 |.bl _,_=>rfl
 |.int _,_=>rfl
 |.str _,h=>by unfold toP;unfold pl at h;simpa[cC.canLay0] using h
 |.tup ds,h=>by unfold toP;unfold pl at h;simp[cC.canLay0,toPs_lay ds h]
 |.lst ds,h=>by unfold toP;unfold pl at h;simp[cC.canLay0,toPs_lay ds h]
 |.ty _,h|.kt _ _,h|.ins _ _ _,h|.exc _ _ _,h|.uI _,h|.loc _,h|.cls _,h=>by unfold pl at h;cases h
theorem toPs_lay:∀ds:List D,K7 ds=ag->cC.canLayAll0 (toPs ds)=ag
 |[],_=>by unfold toPs;rfl
 |d::ds,h=>by unfold K7 at h;rw[aQ] at h;unfold toPs;simp[cC.canLayAll0,toP_lay d h.1,toPs_lay ds h.2]
end
mutual
theorem toP_depth:∀d:D,(toP d).depth<=dp d+1
 |.non|.bl _|.int _|.str _=>by unfold toP;simp[cC.depth]
 |.tup ds=>by unfold toP dp;have:=toPs_depth ds;simp only [cC.depth];omega
 |.lst ds=>by unfold toP dp;have:=toPs_depth ds;simp only [cC.depth];omega
 |.ty _|.kt _ _|.ins _ _ _|.exc _ _ _|.uI _|.loc _|.cls _=>by unfold toP;simp[cC.depth,cC.depthKv]
theorem toPs_depth:∀ds:List D,cC.depthAll (toPs ds)<=FA ds+1
 |[]=>by unfold toPs;simp[cC.depthAll]
 |d::ds=>by unfold toPs FA;have a:=toP_depth d;have b:=toPs_depth ds;simp only [cC.depthAll];omega
end
mutual
theorem toP_eqv:∀x y:D,pl x=ag->pl y=ag->(toP x).eqv (toP y)=Bt x y
 |.non,y,_,h=>by cases y<;>first|(unfold pl at h;cases h;done)|(unfold toP Bt;rfl)
 |.bl a,y,_,h=>by cases y<;>first|(unfold pl at h;cases h;done)|(unfold toP Bt;rfl)
 |.int a,y,_,h=>by cases y<;>first|(unfold pl at h;cases h;done)|(unfold toP Bt;rfl)
 |.str a,y,_,h=>by cases y<;>first|(unfold pl at h;cases h;done)|(unfold toP Bt;rfl)
 |.tup xs,y,g,h=>by
  cases y<;>first|(unfold pl at h;cases h;done)|skip
  case tup b=>unfold pl at g h;unfold toP Bt;simp only [cC.eqv];exact toPs_eqv xs b g h
  all_goals unfold toP Bt;rfl
 |.lst xs,y,g,h=>by
  cases y<;>first|(unfold pl at h;cases h;done)|skip
  case lst b=>unfold pl at g h;unfold toP Bt;simp only [cC.eqv];exact toPs_eqv xs b g h
  all_goals unfold toP Bt;rfl
 |.ty _,_,g,_|.kt _ _,_,g,_|.ins _ _ _,_,g,_|.exc _ _ _,_,g,_|.uI _,_,g,_|.loc _,_,g,_|.cls _,_,g,_=>by unfold pl at g;cases g
theorem toPs_eqv:∀x y:List D,K7 x=ag->K7 y=ag->cC.eqvAll (toPs x) (toPs y)=Jw x y
 |[],[],_,_=>by unfold toPs Jw;rfl
 |[],y::b,_,_=>by unfold toPs Jw;rfl
 |x::xs,[],_,_=>by unfold toPs Jw;rfl
 |x::xs,y::b,g,h=>by unfold K7 at g h;rw[aQ] at g h;unfold toPs Jw;simp only [cC.eqvAll];rw[toP_eqv x y g.1 h.1,toPs_eqv xs b g.2 h.2]
end
mutual
theorem Rep.reads {X:Cx} {cq:List (ak×cm)} {σ:L2.St} {H:Hp} {s:aq} {α:List ak} (I:Inv X cq σ H s):∀(d:D) (x:V) (v:ae),Rep X.K α H d x->RelV x v->pl d=ag->∃as,Reads s.heap v (toP d) as
 |.non,x,v,h,r,_=>by unfold Rep at h;subst h;cases r;unfold toP;exact⟨_,.none⟩
 |.bl _,x,v,h,r,_=>by unfold Rep at h;subst h;cases r;unfold toP;exact⟨_,.bool _⟩
 |.int _,x,v,h,r,_=>by unfold Rep at h;subst h;obtain⟨t,rfl⟩:=r;unfold toP;exact⟨_,.int _ _⟩
 |.str _,x,v,h,r,_=>by unfold Rep at h;subst h;obtain⟨t,rfl⟩:=r;unfold toP;exact⟨_,.str _ _⟩
 |.tup ds,x,v,h,r,c=>by unfold Rep at h;obtain⟨a,b,rfl,q,z⟩:=h;cases r;obtain⟨ia,f,⟨o,e,cl,n,dd⟩,_⟩:=I.tuple q;obtain⟨as,w⟩:=gJ.reads I ds b ia z f (by unfold pl at c;exact c);unfold toP;exact⟨_,.tuple e cl dd (by simpa using w)⟩
 |.lst ds,x,v,h,r,c=>by unfold Rep at h;obtain⟨a,b,rfl,q,z⟩:=h;cases r;obtain⟨_,ia,n,f,e⟩:=I.jo a _ q;obtain⟨as,w⟩:=gJ.reads I ds b ia z f (by unfold pl at c;exact c);unfold toP;exact⟨_,.list e rfl rfl (by simpa using w)⟩
 |.ty _,x,v,h,r,c|.kt _ _,x,v,h,r,c|.ins _ _ _,x,v,h,r,c|.exc _ _ _,x,v,h,r,c|.uI _,x,v,h,r,c|.loc _,x,v,h,r,c|.cls _,x,v,h,r,c=>by unfold pl at c;cases c
theorem gJ.reads {X:Cx} {cq:List (ak×cm)} {σ:L2.St} {H:Hp} {s:aq} {α:List ak} (I:Inv X cq σ H s):∀(ds:List D) (xs:List V) (b:List ae),gJ X.K α H ds xs->Vals xs b->K7 ds=ag->∃as,ReadsAll s.heap b (toPs ds) as
 |[],xs,b,h,r,_=>by unfold gJ at h;subst h;cases r;unfold toPs;exact⟨_,.nil⟩
 |d::ds,xs,b,h,r,c=>by
  unfold gJ at h;obtain⟨x,g,rfl,q,z⟩:=h;unfold K7 at c;rw[aQ] at c;unfold toPs;cases r with
  |cons i j=>
   obtain⟨as,m⟩:=Rep.reads I d x _ q i c.1;obtain⟨bs,p⟩:=gJ.reads I ds g _ z j c.2;exact⟨_,.cons m p⟩
end
theorem yZ{d:D}(h:pl d=ag)(hd:dp d<=60):SeqAt.shaped (toP d)=ag:=by unfold SeqAt.shaped;have:=toP_depth d;rw[toP_lay d h,Bool.true_and];exact decide_eq_true (by omega)
section
variable {X:Cx}
def okE (x y:D):Prop:=pl x=ag/\pl y=ag/\dp x<=60/\dp y<=60
def Rx (x y:D)(Q:Bool->Prop):Prop:=match x,y with
 |.str a,.str b=>Q (a==b)
 |.int a,.int b=>Q (a==b)
 |x,y=>okE x y/\Q (Bt x y)
theorem K8{x y:D}{P Q:Bool->Prop}(w:∀b,P b->Q b)(h:Rx x y P):Rx x y Q:=by
 unfold Rx at h |-;split<;>simp only at h
 .exact w _ h
 .exact w _ h
 .exact⟨h.1,w _ h.2⟩
def mR:G2:=λx y M Q=>Rx (vw M x) (vw M y) λb=>Q (.bl b) M
def Fa:G2:=λx y M Q=>Rx (vw M x) (vw M y) λb=>Q (.bl (!b)) M
theorem T9(r:X.A.units+64<gg){cq:List (ak×cm)}{s:aq}{σ:L2.St}{H:Hp}{x y:V}{v u:ae}(I:L2.Inv X cq σ H s)(f:RelV x v)(g:RelV y u){F α:List ak}{M:Ms}{z B:D}(o:OK X.K F α H M)
(i:Rep X.K α (jy F α M H) z x)(j:Rep X.K α (jy F α M H) B y){C:Bool->Prop}(h:Rx (vw M z) (vw M B) C){Q:VK}(neg:Bool)(c:∀b,C b->Q (.bl (if neg then !b else b)) H):
  wpAny (model X.prog X.w) X.A (compareOp (if neg then .NotEq else .Eq) v u) (EP X cq σ Q) X.xe s:=by
 unfold Rx at h;split at h
 .rename_i a b p q;cases oj p;cases oj q;unfold Rep at i j;subst i j;have e:decide (V.str a=V.str b)=(a==b):=LQ;cases neg with
  |false=>exact acy cq s σ H _ _ v u Q I f g ⟨rfl,by rw[e];exact c _ h⟩
  |true=>exact acz cq s σ H _ _ v u Q I f g ⟨rfl,by rw[e];exact c _ h⟩
 .rename_i a b p q;cases An p;cases An q;unfold Rep at i j;subst i j;have e:decide (V.int a=V.int b)=(a==b):=LP;cases neg with
  |false=>exact acy cq s σ H _ _ v u Q I f g ⟨rfl,by rw[e];exact c _ h⟩
  |true=>exact acz cq s σ H _ _ v u Q I f g ⟨rfl,by rw[e];exact c _ h⟩
 .obtain⟨⟨m,n,E,G⟩,h⟩:=h;obtain⟨as,J⟩:=Rep.reads I _ x v (Rep.mono (bd _) il _ _ (Gw o _ _ i)) f m;obtain⟨bs,L⟩:=Rep.reads I _ y u (Rep.mono (bd _) il _ _ (Gw o _ _ j)) g n;cases neg with
  |false=>
   refine eq_dataH J L (yZ m E) (yZ n G) r ⟨.bl _,H,I,rfl,?_⟩;rw[toP_eqv _ _ m n];exact c _ h
  |true=>
   refine ne_dataH J L (yZ m E) (yZ n G) r ⟨.bl _,H,I,rfl,?_⟩;rw[toP_eqv _ _ m n];exact c _ h
theorem iB(a:X.A.units+64<gg):JC X .Eq mR:=by refine⟨λx y M P Q w q=>K8 (λb q=>w _ _ q) q,λcq s σ H x y v u Q I c e h=>?_⟩;obtain⟨F,α,M,i,j,o,f,g,h⟩:=h;exact T9 a I c e o f g h ar λb q=>vK.now o q jq
theorem xI(a:X.A.units+64<gg):JC X .NotEq Fa:=by refine⟨λx y M P Q w q=>K8 (λb q=>w _ _ q) q,λcq s σ H x y v u Q I c e h=>?_⟩;obtain⟨F,α,M,i,j,o,f,g,h⟩:=h;exact T9 a I c e o f g h ag λb q=>vK.now o q jq
noncomputable def fl:D->Bool
 |.non|.bl _|.int _|.str _=>ag
 |_=>ar
noncomputable def vOf:D->V
 |.bl b=>.bl b
 |.int i=>.int i
 |.str x=>.str x
 |_=>.non
theorem GL{K:bz}{α:List ak}{H:Hp}{d:D}{v:V}(h:fl d=ag)(r:Rep K α H d v):v=vOf d/\zO v=ag:=by
 cases d<;>first|(cases h;done)|skip
 all_goals unfold Rep at r;subst r;exact⟨rfl,rfl⟩
theorem agw{x y:D}(h:fl x=ag)(g:fl y=ag):eqV (vOf x) (vOf y)=Bt x y:=by
 cases x<;>first|(cases h;done)|skip
 all_goals cases y<;>first|(cases g;done)|(unfold Bt;rfl)
theorem Bu{K:bz}{α:List ak}{H:Hp}{x:D}(b:fl x=ag):∀(ds:List D) (a:List V),ds.all fl=ag->gJ K α H ds a->a.all zO=ag/\inV (vOf x) a=ds.any λy=>Bt y x
 |[],a,_,h=>by unfold gJ at h;subst h;exact⟨rfl,rfl⟩
 |d::ds,a,g,h=>by unfold gJ at h;obtain⟨v,r,rfl,z,y⟩:=h;rw[fu,aQ] at g;obtain⟨e,c⟩:=Bu b ds r g.2 y;obtain⟨f,i⟩:=GL g.1 z;subst f;refine⟨by rw[fu,i,e];rfl,?_⟩;unfold inV at c |-;rw[dg,dg,agw g.1 b,c]
theorem EA{K:bz}{α:List ak}{H:Hp}{k:Key}{a:List Key}{ds:List D}{b:List V}(h:gJ K α H ds b)(c:a.length=ds.length):(vD (a.zip b) k).isSome=(pq k a ds).isSome:=by
 obtain⟨f,g⟩:=Bq (k:=k) a ds b h c;cases e:pq k a ds with
 |none=>rw[g e];rfl
 |some d=>obtain⟨j,i,_⟩:=f d e;rw[i];rfl
noncomputable def inD(x y:D):Option Bool:=match y with
 |.lst ds=>if(fl x&&ds.all fl)=ag then aa (ds.any λy=>Bt y x) else ao
 |.tup ds=>if(fl x&&ds.all fl)=ag then aa (ds.any λy=>Bt y x) else ao
 |.str j=>match x with
  |.str i=>aa (!(fP j i 0 j.length 1).isEmpty)
  |_=>ao
 |.kt a ds=>match Oy x with
  |some k=>aa (pq k a ds).isSome
  |none=>ao
 |_=>ao
def N2 (neg:Bool):G2:=λx y M Q=>∃b,inD x (vw M y)=aa b/\Q (.bl (if neg then !b else b)) M
theorem OH{neg:Bool}:Ew (N2 neg):=by
 rintro x y M P Q w ⟨b,e,q⟩
 exact⟨b,e,w _ _ q⟩
theorem EB(E:X.A.units+1<gg):JC X .In (N2 ar):=by
 refine⟨OH,λcq s σ H x y v u Q I j m h=>?_⟩;obtain⟨F,α,M,G,J,o,f,g,b,c,h⟩:=h;generalize n:vw M J=z at c;unfold inD at c;cases z<;>first|(cases c;done)|skip
 .have L:=oj n;subst L;unfold Rep at g;subst g;cases G<;>first|(cases c;done)|skip
  unfold Rep at f;subst f;cases c;exact Vf cq s σ H _ _ v u Q I j m ⟨_,_,rfl,rfl,vK.now o h jq⟩
 .obtain⟨a,p,rfl,q,i⟩:=om o g n;simp only at c;split at c
  .rename_i e;rw[aQ] at e;cases c;obtain⟨r,w⟩:=GL e.1 f;obtain⟨B,C⟩:=Bu e.1 _ _ e.2 i;refine KU cq s σ H _ _ v u Q I j m ⟨a,p,rfl,.inr q,w,B,?_⟩;subst r;rw[C];exact vK.now o h jq
  .cases c
 .obtain⟨a,p,rfl,q,i⟩:=ki o g n;simp only at c;split at c
  .rename_i e;rw[aQ] at e;cases c;obtain⟨r,w⟩:=GL e.1 f;obtain⟨B,C⟩:=Bu e.1 _ _ e.2 i;refine KU cq s σ H _ _ v u Q I j m ⟨a,p,rfl,.inl (p7.of q),w,B,?_⟩;subst r;rw[C];exact vK.now o h jq
  .cases c
 .obtain⟨a,p,rfl,q,N,i⟩:=Am o g n;simp only at c;split at c
  .rename_i k O;cases c;cases uL f O;obtain rfl:u=bH a:=m;refine ah3 E I (Jp.kr q) j λU T=>⟨.bl _,H,T,rfl,?_⟩;rw[EA i N];exact vK.now o h jq
  .cases c
theorem uM(E:X.A.units+1<gg):JC X .NotIn (N2 ag):=by
 refine⟨OH,λcq s σ H x y v u Q I j m h=>?_⟩;obtain⟨F,α,M,G,J,o,f,g,b,c,h⟩:=h;generalize n:vw M J=z at c;unfold inD at c;cases z<;>first|(cases c;done)|skip
 .have L:=oj n;subst L;unfold Rep at g;subst g;cases G<;>first|(cases c;done)|skip
  unfold Rep at f;subst f;cases c;exact LR cq s σ H _ _ v u Q I j m ⟨_,_,rfl,rfl,vK.now o h jq⟩
 .obtain⟨a,p,rfl,q,i⟩:=om o g n;simp only at c;split at c
  .rename_i e;rw[aQ] at e;cases c;obtain⟨r,w⟩:=GL e.1 f;obtain⟨B,C⟩:=Bu e.1 _ _ e.2 i;refine Bh cq s σ H _ _ v u Q I j m ⟨a,p,rfl,.inr q,w,B,?_⟩;subst r;rw[C];exact vK.now o h jq
  .cases c
 .obtain⟨a,p,rfl,q,i⟩:=ki o g n;simp only at c;split at c
  .rename_i e;rw[aQ] at e;cases c;obtain⟨r,w⟩:=GL e.1 f;obtain⟨B,C⟩:=Bu e.1 _ _ e.2 i;refine Bh cq s σ H _ _ v u Q I j m ⟨a,p,rfl,.inl (p7.of q),w,B,?_⟩;subst r;rw[C];exact vK.now o h jq
  .cases c
 .obtain⟨a,p,rfl,q,N,i⟩:=Am o g n;simp only at c;split at c
  .rename_i k O;cases c;cases uL f O;obtain rfl:u=bH a:=m;refine aaQ E I (Jp.kr q) j λU T=>⟨.bl _,H,T,rfl,?_⟩;rw[EA i N];exact vK.now o h jq
  .cases c
end
section
variable {X:Cx} {a b c e:bC} {es rest:List bC} {ta tb tc te:DE} {tA:DT} {tt:DA} {pos p p2 p3:d8} {x:ay}
abbrev DO:=pd->Ms->(Option Int->Ms->Prop)->Prop
def lO (K:bz)(t:DO):TO:=λσ H Q=>∃F α g M,R K F α H σ g M/\t g M λi h=>∀j f,Ext F α H M j f h->OK K F j f h->Q i f
structure JOp(X:Cx)(e:Option bC)(t:DO):Prop where
 mono:∀δ M (P Q:Option Int->Ms->Prop),(∀d M,P d M->Q d M)->t δ M P->t δ M Q
 p:PO X e (lO X.K t)
theorem PO.weak{e:Option bC}{t f:TO}(h:PO X e t)(w:∀σ H Q,f σ H Q->t σ H Q):PO X e f:=by intro cq s σ H Q I q;exact h cq s σ H Q I (w σ H Q q)
def y0:DO:=λ_ M Q=>Q ao M
def EC (te:DE):DO:=λf M Q=>te f M λd M1=>match d with|.int i=>Q (aa i) M1|_=>False
theorem xJ:JOp X ao y0:=⟨λf M P Q w q=>w _ _ q,PO.weak aaW λσ H Q ⟨F,α,f,M,r,q⟩=>q α H Ext.refl r.ok⟩
theorem r9(h:JE X e te):JOp X (aa e) (EC te):=by
 refine⟨λf M P Q w q=>h.mono f _ _ _ (λd M1 q=>?_) q,PO.weak (aaX h.p) λσ H Q q=>?_⟩
 .cases d<;>first|exact q.elim|exact w _ _ q
 .obtain⟨F,α,f,M,r,q⟩:=q;refine⟨F,α,f,M,r,h.mono f _ _ _ (λd M1 q v i H1 j m g=>?_) q⟩;cases d<;>first|exact q.elim|skip
  unfold Rep at g;exact⟨_,g,q i H1 j m⟩
def dSl (te:DE)(tl h:DO):DE:=λg M Q=>te g M λd M1=>tl g M1 λlo M2=>h g M2 λhi f=>match vw f d with
 |.lst xs=>Q (.lst (cutD xs lo hi)) f
 |.uI xs=>Q (.lst (cutD (xs.map D.int) lo hi)) f
 |.tup xs=>¬(HT.nY xs.length 0 lo=0/\HT.nY xs.length xs.length hi=xs.length)/\Q (.tup (cutD xs lo hi)) f
 |.str z=>z.length<=aC/\Q (.str (Txt.slice z lo hi)) f
 |_=>False
theorem Vy{lo hi:Option bC}{tl O:DO}(G:JE X e te)(u:JOp X lo tl)(I:JOp X hi O):JE X (.Subscript e (.Slice lo hi ao p2) pos) (dSl te tl O):=by
 refine⟨λg M P Q w q=>G.mono g _ _ _ (λd M1 q=>u.mono g _ _ _ (λi M2 q=>I.mono g _ _ _ (λj f q=>?_) q) q) q,PE.weak (Xw (aaZ.or (ad0.or aed)) G.p u.p I.p) λσ H Q q=>?_⟩
 .generalize vw f d=z at q |-;cases z<;>first|exact q.elim|exact w _ _ q|exact⟨q.1,w _ _ q.2⟩
 .obtain⟨F,α,g,M,r,q⟩:=q;refine⟨F,α,g,M,r,G.mono g _ _ _ (λd M1 q v Y H1 J o1 r1=>⟨F,Y,g,M1,r.grow J o1,u.mono g _ _ _ (λi M2 q qJ H2 L o2=>⟨F,qJ,g,M2,r.grow (J.trans L) o2,I.mono g _ _ _ (λj f q A B T h=>?_) q⟩) q⟩) q⟩;have U:=(J.trans L).trans T;have o:=(L.trans T).rep r1;have m:(match vw f d with
   |.lst xs=>vK X.K F A B f Q (.lst (cutD xs i j)) f
   |.uI xs=>vK X.K F A B f Q (.lst (cutD (xs.map D.int) i j)) f
   |.tup xs=>¬(HT.nY xs.length 0 i=0/\HT.nY xs.length xs.length j=xs.length)/\vK X.K F A B f Q (.tup (cutD xs i j)) f
   |.str z=>z.length<=aC/\vK X.K F A B f Q (.str (Txt.slice z i j)) f
   |_=>False):=by generalize vw f d=z at q |-;cases z<;>first|exact q.elim|exact vK.grow U _ _ q|exact⟨q.1,vK.grow U _ _ q.2⟩
  clear q;generalize C:vw f d=z at m;cases z<;>first|exact m.elim|skip
  .cases oj C;unfold Rep at o;exact .inr (.inr ⟨_,o,m.1,vK.now h m.2 qZ⟩)
  .obtain⟨a,N,rfl,y,E⟩:=om h o C;have u:=gJ.length _ _ E;refine .inr (.inl ⟨a,N,rfl,y,by rw[<-u];exact m.1,λp n=>vK.new h n m.2 (nM h n (gJ.cut E i j))⟩)
  .obtain⟨a,N,rfl,y,E⟩:=ki h o C;exact .inl ⟨a,N,rfl,p7.of y,λp n=>vK.new h n m (qd h n (gJ.cut E i j))⟩
  .cases xF C;unfold Rep at o;obtain⟨a,rfl,y⟩:=o;refine .inl ⟨a,_,rfl,lZ il y,λp n=>vK.new h n m (qd h n (gJ.cut (gJ.of_map _ _ (λc=>iU) _) i j))⟩
def Ry (te:DE):DE:=λf M Q=>te f M λd M1=>match d with|.int i=>Q (.int (-i)) M1|_=>False
theorem K9(h:JE X e te):JE X (.UnaryOp .USub e pos) (Ry te):=by
 refine⟨λf M P Q w q=>h.mono f _ _ _ (λd M1 q=>?_) q,PE.weak (afO adM h.p) λσ H Q q=>?_⟩
 .cases d<;>first|exact q.elim|exact w _ _ q
 .obtain⟨F,α,f,M,r,q⟩:=q;refine⟨F,α,f,M,r,h.mono f _ _ _ (λd M1 q v i H1 j m g=>?_) q⟩;cases d<;>first|exact q.elim|skip
  unfold Rep at g;exact⟨_,g,q _ i H1 j m iU⟩
def xj:G2:=λx y M Q=>match vw M x,y with
 |.int i,.int j=>Vd i j/\Q (.int (i*j)) M
 |.lst xs,.int k=>(-(2^63)<=k/\k<2^63/\xs.length*k.toNat<=aC)/\Q (.lst (bP k.toNat xs).flatten) M
 |.str z,.int k=>MulOk z k/\Q (.str (Txt.mul z k)) M
 |_,_=>False
theorem Rz:uF X (binaryOp .Mult) (λx y H Q=>∃z k,x=.str z/\y=.int k/\MulOk z k/\Q (.str (Txt.mul z k)) H):=by intro cq s σ H x y v u Q I f g h;obtain⟨z,k,rfl,rfl,ok,q⟩:=h;obtain⟨t,rfl⟩:=f;obtain⟨i,rfl⟩:=g;exact SB.mul ok λi k=>⟨.str _,H,I.tok _,⟨_,rfl⟩,q⟩
theorem nB:JO X .Mult xj:=by
 refine⟨λx y M P Q w q=>?_,λcq s σ H x y v u Q I i j h=>?_⟩
 .unfold xj at q |-;generalize vw M x=a at q |-;split at q<;>first|exact q.elim|exact⟨q.1,w _ _ q.2⟩
 .obtain⟨F,α,M,z,E,o,g,f,h⟩:=h;unfold xj at h;generalize m:vw M z=a at h;split at h<;>first|exact h.elim|skip
  .cases An m;unfold Rep at g f;exact adJ cq s σ H x y v u Q I i j ⟨_,_,g,f,h.1,vK.now o h.2 iU⟩
  .obtain⟨a,A,rfl,B,n⟩:=ki o g m;unfold Rep at f;subst f;have C:=gJ.length _ _ n;exact aea cq s σ H _ _ v u Q I i j ⟨a,_,A,rfl,rfl,B,h.1.1,h.1.2.1,by rw[<-C];exact h.1.2.2,λp r=>vK.new o r h.2 (qd o r (gJ.rep n _))⟩
  .cases oj m;unfold Rep at g f;exact Rz cq s σ H x y v u Q I i j ⟨_,_,g,f,h.1,vK.now o h.2 qZ⟩
noncomputable def agx:D->Option Nat
 |.lst ds=>aa ds.length
 |.tup ds=>aa ds.length
 |.uI ns=>aa ns.length
 |.str z=>if z.length<=aC then aa z.length else ao
 |.kt f _=>aa f.length
 |_=>ao
def m4:GN:=λds M Q=>match ds with
 |[d]=>∃n:Nat,agx (vw M d)=aa n/\Q (.int n) M
 |_=>False
theorem jt:JB X (.builtin "len") m4:=by
 refine⟨λds M P Q w q=>?_,λcq s σ H xs us Q I rs h=>?_⟩
 .match ds,q with
  |[d],⟨n,e,q⟩=>exact⟨n,e,w _ _ q⟩
 .obtain⟨F,α,M,ds,o,A,h⟩:=h;match ds,h,A with
  |[d],⟨n,en,q⟩,A=>
   obtain⟨v,E,f⟩:=qU A;subst E;generalize i:vw M d=z at en;cases z<;>first|(cases en;done)|skip
   .cases oj i;unfold Rep at f;subst f;rename_i y _;have en:(if y.length<=aC then aa y.length else ao)=aa n:=en;by_cases B:y.length<=aC
    .rw[if_pos B] at en;cases en;exact L4 cq s σ H _ us Q I rs ⟨_,rfl,B,vK.now o q iU⟩
    .rw[if_neg B] at en;cases en
   .cases en;obtain⟨a,u,rfl,g,j⟩:=om o f i;have m:=gJ.length _ _ j;refine vF cq s σ H _ us Q I rs ⟨a,u,rfl,.inr g,?_⟩;rw[<-m];exact vK.now o q iU
   .cases en;obtain⟨a,u,rfl,g,j⟩:=ki o f i;have m:=gJ.length _ _ j;refine vF cq s σ H _ us Q I rs ⟨a,u,rfl,.inl (p7.of g),?_⟩;rw[<-m];exact vK.now o q iU
   .cases en;obtain⟨a,u,rfl,g,r,j⟩:=Am o f i;have m:=gJ.length _ _ j;obtain⟨J,rfl,C⟩:=vals1 rs;cases C;refine afZ I g λt L G=>⟨.int _,H,G,⟨t,rfl⟩,?_⟩;rw[dL,<-m,r,ai5,<-r];exact vK.now o q iU
   .cases xF i;cases en;unfold Rep at f;obtain⟨a,rfl,g⟩:=f;refine vF cq s σ H _ us Q I rs ⟨a,_,rfl,.inl (lZ il g),?_⟩;rw[ai];exact vK.now o q iU
def RA:GN:=λds M Q=>match ds with
 |[d]=>∃bs:List Bool,vw M d=.lst (bs.map D.bl)/\Q (.bl (bs.all id)) M
 |_=>False
theorem OI{K:bz}{α:List ak}{H:Hp}:∀(bs:List Bool) (f:List V),gJ K α H (bs.map D.bl) f->f=bs.map V.bl
 |[],f,h=>by unfold gJ at h;exact h
 |b::bs,f,h=>by rw[aZ] at h;unfold gJ at h;obtain⟨v,r,rfl,z,y⟩:=h;unfold Rep at z;subst z;rw[OI bs r y];rfl
theorem GO(g:X.calm=ag:=by rfl):JB X (.builtin "all") RA:=by
 refine⟨λds M P Q w q=>?_,λcq s σ H xs us Q I rs h=>?_⟩
 .match ds,q with
  |[d],⟨n,e,q⟩=>exact⟨n,e,w _ _ q⟩
 .obtain⟨F,α,M,ds,o,f,h⟩:=h;match ds,h,f with
  |[d],⟨bs,en,q⟩,f=>
   obtain⟨v,i,j⟩:=qU f;subst i;obtain⟨a,m,rfl,r,u⟩:=ki o j en;have:=OI bs m u;subst this;exact XG g cq s σ H _ us Q I rs ⟨a,bs,rfl,p7.of r,vK.now o q jq⟩
noncomputable def kd:D->Option String
 |.non=>aa "NoneType"
 |.bl _=>aa "bool"
 |.int _=>aa "int"
 |.str _=>aa "str"
 |.tup _=>aa "tuple"
 |.lst _|.uI _=>aa "list"
 |.kt _ _=>aa "dict"
 |_=>ao
noncomputable def isK(k n:String):Option Bool:=if(["int","bool","str","tuple","list","dict"].contains n&&["NoneType","bool","int","str","tuple","list","dict"].contains k)=ag then aa (k==n||(k=="bool"&&n=="int")) else ao
noncomputable def Jm(n:String)(d:D):Option Bool:=match kd d with
 |some k=>isK k n
 |none=>ao
theorem abm{K:bz}:(["int","bool","str","tuple","list","dict"].all λn=>["NoneType","bool","int","str","tuple","list","dict"].all λk=>cN K (.type k) (.type n)==isK k n)=ag:=rfl
theorem abn{K:bz}{k n:String}{b:Bool}(h:isK k n=aa b):cN K (.type k) (.type n)=aa b:=by
 have g:=h;unfold isK at h;split at h
 .rename_i f;rw[aQ,List.contains_iff_mem,List.contains_iff_mem] at f;rw[eq_of_beq (bF.mp (bF.mp (abm (K:=K)) n f.1) k f.2),g]
 .cases h
structure Ua(K:bz)(C:ak):Prop where
 cl:Q8 K C
 ha:cg K (.ref C) "__class__"=aa (aa (.builtin "object.__class__"))
 hn:W.specialIn K (.builtin "object.__class__") "__get__"=aa (aa (.builtin "getset_descriptor.__get__"))
 htk:W.takesIn K (.builtin "object.__class__")=aa ag
 hm:W.mroIn K C (.type "object")=aa ag
noncomputable def tyv:D->Option ae
 |.non=>aa (.type "NoneType")
 |.bl _=>aa (.type "bool")
 |.int _=>aa (.type "int")
 |.str _=>aa (.type "str")
 |.tup _=>aa (.type "tuple")
 |.lst _|.uI _=>aa (.type "list")
 |.kt _ _=>aa (.type "dict")
 |.ins C _ _=>aa (.ref C)
 |_=>ao
theorem abo{K:bz}{n:String}{d:D}{b:Bool}(h:Jm n d=aa b):∃t,tyv d=aa t/\cN K t (.type n)=aa b/\∀C ns es,d≠.ins C ns es:=by cases d<;>first|(cases h;done)|exact⟨_,rfl,abn h,λ_ _ _ z=>by cases z⟩
theorem OJ{cq:List (ak×cm)}{s:aq}{σ:L2.St}{H:Hp}(I:L2.Inv X cq σ H s){F α:List ak}{M:Ms}{d:D}{x:V}{u t c:ae}{G:Bool}{Q:ae->aq->Prop}(o:OK X.K F α H M)(r:Rep X.K α (jy F α M H) d x)(i:RelV x u)
(f:tyv (vw M d)=aa t)(hi:∀C ns es,vw M d=.ins C ns es->Ua X.K C)(e:cN X.K t c=aa G)(h:∀J,Q (.bool G) {s with toks:=J}):wpAny (model X.prog X.w) X.A (call (.builtin "isinstance") [u,c]) Q X.xe s:=by
 generalize g:vw M d=z at f hi;cases z<;>first|(cases f;done)|skip
 case non=>
  have:d=.non:=by cases d with
   |loc k=>rcases vJ g with e|⟨y,L,e⟩<;>first|cases e|(cases y<;>cases e)
   |_=>exact g
  subst this;unfold Rep at r;subst r;cases f;exact rQ I i .non e h
 case bl N=>
  have:d=.bl N:=by cases d with
   |loc k=>rcases vJ g with e|⟨y,L,e⟩<;>first|cases e|(cases y<;>cases e)
   |_=>exact g
  subst this;unfold Rep at r;subst r;cases f;exact rQ I i (.bl _) e h
 case int=>
  cases An g;unfold Rep at r;subst r;cases f;exact rQ I i (.int _) e h
 case str=>
  cases oj g;unfold Rep at r;subst r;cases f;exact rQ I i (.str _) e h
 case tup=>
  cases f;obtain⟨a,B,rfl,j,E⟩:=om o r g;obtain rfl:u=bH a:=i;obtain⟨ia,O,⟨m,q,v,_⟩,_⟩:=I.tuple j;exact W.kia_one W.kitx_tuple I.zM ⟨m,q,v⟩ e (λz=>nomatch z) h
 case lst=>
  cases f;obtain⟨a,B,rfl,j,E⟩:=ki o r g;exact rQ I i (.lst j) e h
 case kt=>
  cases f;obtain⟨a,B,rfl,j,T,E⟩:=Am o r g;obtain rfl:u=bH a:=i;obtain⟨_,_,U,_,m,_,_,q,v,_⟩:=Es I.jo j;exact W.kia_one W.kitx_dict I.zM ⟨m,q,v.1⟩ e (λz=>nomatch z) h
 case ins=>
  cases f;obtain⟨a,Y,B,rfl,j,T,E⟩:=L7 o r g;have k:=hi _ _ _ rfl;exact rQ I i (.ins j k.cl k.ha k.hn k.htk k.hm) e h
 case uI=>
  cases f;cases xF g;unfold Rep at r;obtain⟨a,rfl,j⟩:=r;obtain rfl:u=bH a:=i;obtain⟨ia,O,⟨m,n,q,v,_⟩,_⟩:=I.list (lZ il j);exact W.kia_one W.kitx_list I.zM ⟨m,q,v⟩ e (λz=>nomatch z) h
def lu (K:bz):GN:=λds M Q=>match ds with
 |[d,.ty n]=>∃b,Jm n (vw M d)=aa b/\Q (.bl b) M
 |[d,.cls C]=>∃t b,tyv (vw M d)=aa t/\(∀C ns es,vw M d=.ins C ns es->Ua K C)/\cN K t (.ref C)=aa b/\Q (.bl b) M
 |_=>False
theorem jI:JB X (.builtin "isinstance") (lu X.K):=by
 refine⟨λds M P Q w q=>?_,λcq s σ H xs us Q I rs h=>?_⟩
 .match ds,q with
  |[d,.ty n],⟨b,e,q⟩=>exact⟨b,e,w _ _ q⟩
  |[d,.cls n],⟨t,b,f,g,i,q⟩=>exact⟨t,b,f,g,i,w _ _ q⟩
 .obtain⟨F,α,M,ds,o,j,h⟩:=h;match ds,h,j with
  |[d,.ty n],⟨b,e,q⟩,j=>
   obtain⟨v,u,r,y,m⟩:=OG j;subst r;unfold Rep at m;subst m;obtain⟨J,A,rfl,B,E⟩:=vals2 rs;obtain rfl:A=dX n:=E;obtain⟨t,f,g,i⟩:=abo (K:=X.K) e;exact OJ I o y B f (λC ns es z=>absurd z (i C ns es)) g λG=>⟨.bl b,H,I.tok G,rfl,vK.now o q jq⟩
  |[d,.cls C],⟨t,b,f,g,i,q⟩,j=>
   obtain⟨v,u,r,y,m⟩:=OG j;subst r;unfold Rep at m;subst m;obtain⟨J,A,rfl,B,E⟩:=vals2 rs;obtain rfl:A=bH C:=E;exact OJ I o y B f g i λG=>⟨.bl b,H,I.tok G,rfl,vK.now o q jq⟩
def Md:GN:=λds M Q=>match ds with
 |[d]=>match vw M d with
  |.lst xs=>Q (.tup xs) M
  |.tup xs=>Q (.tup xs) M
  |_=>False
 |_=>False
theorem GQ:JB X (.type "tuple") Md:=by
 refine⟨λds M P Q w q=>?_,λcq s σ H xs us Q I rs h=>?_⟩
 .match ds,q with
  |[d],q=>
   have q:(match vw M d with|.lst xs=>P (.tup xs) M|.tup xs=>P (.tup xs) M|_=>False):=q;show(match vw M d with|.lst xs=>Q (.tup xs) M|.tup xs=>Q (.tup xs) M|_=>False);generalize vw M d=z at q |-;cases z<;>first|exact q.elim|exact w _ _ q
 .obtain⟨F,α,M,ds,o,f,h⟩:=h;match ds,h,f with
  |[d],q,f=>
   obtain⟨v,u,g⟩:=qU f;subst u;have q:(match vw M d with|.lst xs=>vK X.K F α H M Q (.tup xs) M|.tup xs=>vK X.K F α H M Q (.tup xs) M|_=>False):=q;generalize i:vw M d=z at q;cases z<;>first|exact q.elim|skip
   .cases Rn i;obtain⟨a,j,rfl,m,n⟩:=om o g i;exact zP cq s σ H _ us Q I rs ⟨a,j,rfl,.inr ⟨m,vK.now o q g⟩⟩
   .obtain⟨a,j,rfl,m,n⟩:=ki o g i;exact zP cq s σ H _ us Q I rs ⟨a,j,rfl,.inl ⟨p7.of m,λp r=>vK.new o r q (nM o r n)⟩⟩
abbrev GF:=List D->Ms->(OD->Ms->Prop)->Prop
def rDF (K:bz)(g:GF):List V->Hp->VK->Prop:=λxs H Q=>∃F α M ds,OK K F α H M/\gJ K α (jy F α M H) ds xs/\g ds M (fK K F α H M Q)
structure JBF(X:Cx)(f:ae)(g:GF):Prop where
 mono:∀xs M (P Q:OD->Ms->Prop),(∀d M,P d M->Q d M)->g xs M P->g xs M Q
 p:pr X f (rDF X.K g)
def WU (g:GF)(tt:DA):DF:=λf M Q=>tt f M λds M1=>g ds M1 Q
theorem RD{T:String}{g:GF}(o:JBF X (.type T) g)(hm:X.mg x=ao)(h:bU x=aa (.type T))(ha:JA X (e::es) tt)(i:Gl X x:=by rfl)(hn:x≠"__name__":=by decide)(j:(x==("__debug__":ay))=ar:=by decide)
(m:bc (e::es) X.env=(ar,eval e X.env)::bc es X.env:=by rfl)(n:(c7 pos (bc es X.env)).any (·.1)=ar:=by rfl):JF X (.Call (.Name x p) (e::es) [] pos) (WU g tt):=by refine⟨λf M P Q w q=>ha.mono f _ _ _ (λds M1 q=>o.mono _ _ _ _ w q) q,PE.weak (C5 o.p i hm h ha.p hn j m n) λσ H Q q=>?_⟩;obtain⟨F,α,f,M,r,q⟩:=q;exact⟨F,α,f,M,r,ha.mono f _ _ _ (λds M1 q A u H1 v y z=>⟨F,u,M1,ds,y,z,o.mono _ _ _ _ (fK.grow v) q⟩) q⟩
theorem ais{id:String}{g:GF}(o:JBF X (.builtin id) g)(hm:X.mg x=ao)(h:bU x=aa (.builtin id))(ha:JA X (e::es) tt)(i:Gl X x:=by rfl)(hn:x≠"__name__":=by decide)(j:(x==("__debug__":ay))=ar:=by decide)
(m:bc (e::es) X.env=(ar,eval e X.env)::bc es X.env:=by rfl)(n:(c7 pos (bc es X.env)).any (·.1)=ar:=by rfl):JF X (.Call (.Name x p) (e::es) [] pos) (WU g tt):=by refine⟨λf M P Q w q=>ha.mono f _ _ _ (λds M1 q=>o.mono _ _ _ _ w q) q,PE.weak (Gc o.p i hm h ha.p hn j m n) λσ H Q q=>?_⟩;obtain⟨F,α,f,M,r,q⟩:=q;exact⟨F,α,f,M,r,ha.mono f _ _ _ (λds M1 q A u H1 v y z=>⟨F,u,M1,ds,y,z,o.mono _ _ _ _ (fK.grow v) q⟩) q⟩
def vM:GF:=λds M Q=>match ds with
 |[d]=>match vw M d with
  |.lst xs=>Q (.lst xs) M
  |.tup xs=>Q (.lst xs) M
  |.uI xs=>Q (.lst (xs.map D.int)) M
  |_=>False
 |_=>False
theorem uN:JBF X (.type "list") vM:=by
 refine⟨λds M P Q w q=>?_,λcq s σ H xs us Q I rs h=>?_⟩
 .match ds,q with
  |[d],q=>
   have q:(match vw M d with|.lst xs=>P (.lst xs) M|.tup xs=>P (.lst xs) M|.uI xs=>P (.lst (xs.map D.int)) M|_=>False):=q;show(match vw M d with|.lst xs=>Q (.lst xs) M|.tup xs=>Q (.lst xs) M|.uI xs=>Q (.lst (xs.map D.int)) M|_=>False);generalize vw M d=z at q |-;cases z<;>first|exact q.elim|exact w _ _ q
 .obtain⟨F,α,M,ds,o,m,h⟩:=h;match ds,h,m with
  |[d],q,m=>
   obtain⟨v,u,j⟩:=qU m;subst u;have q:(match vw M d with|.lst xs=>fK X.K F α H M Q (.lst xs) M|.tup xs=>fK X.K F α H M Q (.lst xs) M|.uI xs=>fK X.K F α H M Q (.lst (xs.map D.int)) M|_=>False):=q;generalize n:vw M d=z at q;cases z<;>first|exact q.elim|skip
   .obtain⟨a,f,rfl,g,r⟩:=om o j n;exact vG cq s σ H _ us Q I rs ⟨a,f,rfl,.inr g,λp i=>q p _ α H Ext.refl o i ⟨f,rfl,r⟩⟩
   .obtain⟨a,f,rfl,g,r⟩:=ki o j n;exact vG cq s σ H _ us Q I rs ⟨a,f,rfl,.inl (p7.of g),λp i=>q p _ α H Ext.refl o i ⟨f,rfl,r⟩⟩
   .cases xF n;unfold Rep at j;obtain⟨a,rfl,g⟩:=j;exact vG cq s σ H _ us Q I rs ⟨a,_,rfl,.inl (lZ il g),λp i=>q p _ α H Ext.refl o i ⟨_,rfl,gJ.of_map _ _ (λc=>iU) _⟩⟩
end
noncomputable def Jx(f:ay):List ay->List D->Option D
 |n::ns,d::ds=>if n=f then aa d else Jx f ns ds
 |_,_=>ao
theorem RE{f n:ay}{v:V}{ns:List ay}{a:List V}:(((n,v)::ns.zip a).lookup f)=if n=f then aa v else(ns.zip a).lookup f:=by
 rw[dn];by_cases h:n=f
 .subst h;simp
 .have:(f==n)=ar:=by simpa usingλz=>h z.symm
  rw[this,if_neg h]
theorem xK{K:bz}{α:List ak}{H:Hp}{f:ay}:∀(ns:List ay) (ds:List D) (a:List V),gJ K α H ds a->ns.length=ds.length->
  (∀d,Jx f ns ds=aa d->∃v,(ns.zip a).lookup f=aa v/\Rep K α H d v)/\(Jx f ns ds=ao->(ns.zip a).lookup f=ao)
 |[],ds,a,h,l=>⟨λd e=>by simp[Jx] at e,λ_=>rfl⟩
 |n::ns,[],a,h,l=>by simp at l
 |n::ns,d::ds,a,h,l=>by
  unfold gJ at h;obtain⟨v,r,rfl,z,y⟩:=h;have b:=xK (f:=f) ns ds r y (by simpa using l);rw[ce,RE];unfold Jx;by_cases e:n=f
  .rw[if_pos e,if_pos e];exact⟨λc e'=>⟨v,rfl,by cases e';exact z⟩,λe'=>by cases e'⟩
  .rw[if_neg e,if_neg e];exact b
structure qg(K:bz)(C:ak)(f:ay):Prop where
 cl:Q8 K C
 na:xw K C f
section
variable {X:Cx} {a b c e o value:bC} {es rest:List bC} {ta tb tc te to tv:DE} {tA:DT} {tt:DA} {pos pos' p p2 p3 apos mX:d8} {x f m:ay}
def kx (K:bz)(f:ay)(te:DE):DE:=λg M Q=>te g M λd M1=>∃C ns ds x,vw M1 d=.ins C ns ds/\qg K C f/\Jx f ns ds=aa x/\Q x M1
theorem jj(h:JE X e te)(y:du e f X.env (eval e X.env)=eval e X.env:=by rfl):JE X (.Attribute e f pos) (kx X.K f te):=by
 refine⟨λg M P Q w q=>h.mono g _ _ _ (λd M1 q=>?_) q,PE.weak (adO h.p y) λσ H Q q=>?_⟩
 .obtain⟨C,ns,ds,x,j,i,n,q⟩:=q;exact⟨C,ns,ds,x,j,i,n,w _ _ q⟩
 .obtain⟨F,α,g,M,r,q⟩:=q;refine⟨F,α,g,M,r,h.mono g _ _ _ (λd M1 q v z H1 A u B=>?_) q⟩;obtain⟨C,ns,ds,x,j,i,n,q⟩:=q;obtain⟨a,E,G,rfl,I,J,L⟩:=L7 u B j;obtain⟨v,N,O⟩:=(xK ns ds G L J).1 x n;exact⟨a,C,E,_,v,rfl,I,i.cl,i.na,N,q v z H1 A u O⟩
abbrev ma:=ak->ay->GN->Prop
structure iS(P:ba)(w:bI)(K:bz)(mg:ay->Option ae)(cv:az)(k:Nat)(C:ak)(m:ay)(g:GN):Prop where
 mono:jW g
 cl:Q8 K C
 ok:∃f fd ps,Meth K C m f/\Binds K fd ps []/\ke P w K mg cv p8 k f fd ps (jX K g)
def mS (T:ma)(m:ay)(to:DE)(tt:DA):DE:=λh M Q=>to h M λd M1=>∃C ns es g,vw M1 d=.ins C ns es/\Jx m ns es=ao/\T C m g/\tt h M1 λds M2=>g (d::ds) M2 Q
theorem qK{pl:akW Bool}{k:Nat}{T:ma}(hT:∀C g,T C m g->iS X.prog X.w X.K X.mg X.cv k C m g)(hr:jU k X.A)(J:JE X o to)(ha:JA X (e::es) tt)
(kM:bc (e::es) X.env=(ar,eval e X.env)::bc es X.env:=by rfl)(CV:(c7 pos (bc es X.env)).any (·.1)=ar:=by rfl)
(ht:eval (.Call (.Attribute o m apos) (e::es) [] pos) X.env=(do
   let ov<-eval o X.env
   ajC apos.atName
   let(f,first)<-holding [ov] (aj7 ov m pl)
   callWith pos f first (c7 pos (bc (e::es) X.env)) (ajn pos (eI [] X.env))):=by rfl):
  JE X (.Call (.Attribute o m apos) (e::es) [] pos) (mS T m to tt):=by
 refine⟨λi M P Q w q=>J.mono i _ _ _ (λd M1 q=>?_) q,?_⟩
 .obtain⟨C,ns,es,g,L,N,y,q⟩:=q;exact⟨C,ns,es,g,L,N,y,ha.mono i _ _ _ (λds M2 q=>(hT C g y).mono _ _ _ _ w q) q⟩
 .intro cq s σ H Q I h;obtain⟨F,α,i,M,r,q⟩:=h;refine W.methodCall_KW (pl:=pl) (kq (J.p cq s σ H _ I ⟨F,α,i,M,r,J.mono i _ _ _ (λd M1 q v j H1 z B E=>(show(λv H1=>∃M1 j d,Ext F α H M j H1 M1/\OK X.K F j H1 M1/\Rep X.K j (jy F j M1 H1) d v/\∃C ns es g,vw M1 d=.ins C ns es/\Jx m ns es=ao/\T C m g/\tt i M1 λds M2=>g (d::ds) M2 (vK X.K F α H M Q)) v H1 from⟨M1,j,d,z,B,E,q⟩)) q⟩) λu s1 ⟨v,H1,I1,rx,M1,j,d,z,B,E,C,ns,O,g,L,N,y,q⟩=>?_) ht;obtain⟨a,dx,vs,rfl,sq,hl,zz⟩:=L7 B E L;obtain rfl:u=bH a:=rx;have U:=hT C g y;obtain⟨f,fd,ps,hm,hb,FO⟩:=U.ok;refine F9 I1 sq U.cl hm ((xK ns O vs zz hl).2 N) ?_;refine W.callWith_K (first:=[.ref a]) (h₀:=X.cv) I.ok.mod.kin hm.kp (kq (ha.p pos cq s1 σ H1 _ I1 ⟨F,j,i,M1,r.grow z B,ha.mono i _ _ _ (λds M2 q n qJ G e2 o2 Y=>(show(λn G=>jX X.K g (V.ref a::n) G Q E0) n G from
   ⟨F,qJ,M2,d::ds,o2,gJ.cons (e2.rep E) Y,U.mono _ _ _ _ (vK.grow (z.trans e2)) q⟩)) q⟩) λus s2 ⟨n,G,I2,Y,q2⟩=>⟨I2.zM,?_⟩) kM CV
  exact LU (us:=.ref a::us) (vs:=.ref a::n) FO hr hb .nil K0 I2 (.cons rfl Y) (by rw[aR];exact q2)
theorem y6{pl:akW Bool}{k:Nat}{T:ma}(U:∀C g,T C m g->iS X.prog X.w X.K X.mg X.cv k C m g)(hr:jU k X.A)(B:JE X o to)
(ht:eval (.Call (.Attribute o m apos) [] [] pos) X.env=(do
   let Y<-eval o X.env
   ajC apos.atName
   let(f,first)<-holding [Y] (aj7 Y m pl)
   callWith pos f first (c7 pos (bc [] X.env)) (ajn pos (eI [] X.env))):=by rfl):
  JE X (.Call (.Attribute o m apos) [] [] pos) (mS T m to gK):=by
 refine⟨λj M P Q w q=>B.mono j _ _ _ (λd M1 q=>?_) q,?_⟩
 .obtain⟨C,ns,es,g,E,G,n,q⟩:=q;exact⟨C,ns,es,g,E,G,n,(U C g n).mono _ _ _ _ w q⟩
 .intro cq s σ H Q I h;obtain⟨F,α,j,M,r,q⟩:=h;refine W.methodCall_KW (pl:=pl) (kq (B.p cq s σ H _ I ⟨F,α,j,M,r,B.mono j _ _ _ (λd M1 q v i H1 J y z=>(show(λv H1=>∃M1 i d,Ext F α H M i H1 M1/\OK X.K F i H1 M1/\Rep X.K i (jy F i M1 H1) d v/\∃C ns es g,vw M1 d=.ins C ns es/\Jx m ns es=ao/\T C m g/\g [d] M1 (vK X.K F α H M Q)) v H1 from⟨M1,i,d,J,y,z,q⟩)) q⟩) λu s1 ⟨v,H1,L,rx,M1,i,d,J,y,z,C,ns,N,g,E,G,n,q⟩=>?_) ht;obtain⟨a,dx,vs,rfl,sq,hl,zz⟩:=L7 y z E;obtain rfl:u=bH a:=rx;have O:=U C g n;obtain⟨f,fd,ps,hm,hb,FO⟩:=O.ok;refine F9 L sq O.cl hm ((xK ns N vs zz hl).2 G) ?_;exact W.callWith_K0 (first:=[.ref a]) L.zM hm.kp (LU (us:=[.ref a]) (vs:=[.ref a]) FO hr hb .nil K0 L (.cons rfl .nil) ⟨F,i,M1,[d],y,gJ.one z,O.mono _ _ _ _ (vK.grow J) q⟩)
structure md(P:ba)(w:bI)(K:bz)(mg:ay->Option ae)(cv:az)(k:Nat)(C:ak)(g:GN):Prop where
 mono:jW g
 ok:∃f fd ps,Mk K C f/\Binds K fd ps []/\ke P w K mg cv p8 k f fd ps (jX K g)
def acQ (C:ak)(g:GN)(tt:DA):DE:=λh M Q=>tt h M λds M1=>g (.loc M1.length::ds) (M1++[aa (.ins C [] [])]) λd M2=>d=.non/\Q (.loc M1.length) M2
def se (C:ak)(g:GN)(tt:DA):DE:=λh M Q=>tt h M λds M1=>g (.loc M1.length::ds) (M1++[aa (.ins C [] [])]) λd M2=>d=.non/\∃ns es,M2=M1++[aa (.ins C ns es)]/\l9 es=ag/\Q (.ins C ns es) M1
theorem aew{k:Nat}{C:ak}{g:GN}(i:md X.prog X.w X.K X.mg X.cv k C g)(I:jU (k+1) X.A)(hm:X.mg x=aa (.ref C))(ha:JA X (e::es) tt)(J:Gl X x:=by rfl)(L:(x==("__debug__":ay))=ar:=by decide)
(N:bc (e::es) X.env=(ar,eval e X.env)::bc es X.env:=by rfl)(O:(c7 pos (bc es X.env)).any (·.1)=ar:=by rfl):JE X (.Call (.Name x p) (e::es) [] pos) (acQ C g tt):=by
 obtain⟨f,fd,ps,mk,T,U⟩:=i.ok;refine⟨λh M P Q w q=>ha.mono h _ _ _ (λds M1 q=>i.mono _ _ _ _ (λd M2 q=>⟨q.1,w _ _ q.2⟩) q) q,PE.weak (TF mk U I J hm T .nil K0 ha.p L N O) λσ H Q q=>?_⟩;obtain⟨F,α,h,M,r,q⟩:=q;refine⟨F,α,h,M,r,ha.mono h _ _ _ (λds M1 q Y iF H1 e1 j r1 y n z u CY=>?_) q⟩;have s0:jV H1 (upd (upd H1 n (.own y)) y (.ins C n [])):=λb ob e=>by rw[g9 (je e z),g9 (je e u)];exact e
 obtain⟨o2,B⟩:=j.enter (x:=.ins C [] []) z s0 ⟨n,[],ip,rfl,gJ.nil⟩;show jX X.K g (V.ref y::(Y++[])) _ _ E0;rw[aR];refine⟨F,iF++[y],M1++[aa (.ins C [] [])],.loc M1.length::ds,o2,gJ.cons ?_ (B.Ju r1),i.mono _ _ _ _ (λd M2 q v Gs H3 E o3 G=>?_) q⟩
 .unfold Rep;exact⟨y,by rw[<-j.ml];simp,rfl⟩
 .obtain⟨rfl,q⟩:=q;unfold Rep at G;refine⟨G,q _ Gs H3 ((e1.trans B).trans E) o3 ?_⟩;unfold Rep;exact⟨y,yW E.pre (by rw[<-j.ml];simp),rfl⟩
end
mutual
def lb (n:Nat):D->Prop
 |.loc k=>k<n
 |.tup ds|.lst ds|.kt _ ds|.ins _ _ ds|.exc _ _ ds=>Vz n ds
 |.non|.bl _|.int _|.str _|.ty _|.uI _|.cls _=>True
def Vz (n:Nat):List D->Prop
 |[]=>True
 |d::ds=>lb n d/\Vz n ds
end
mutual
theorem Rep.lb {K:bz} {α:List ak} {H:Hp}:∀(d:D) (v:V),Rep K α H d v->L3.lb α.length d
 |.non,v,_|.bl _,v,_|.int _,v,_|.str _,v,_|.ty _,v,_|.uI _,v,_|.cls _,v,_=>by unfold L3.lb;trivial
 |.loc k,v,h=>by unfold Rep at h;unfold L3.lb;obtain⟨a,e,_⟩:=h;exact(au.mp e).1
 |.tup ds,v,h=>by unfold Rep at h;unfold L3.lb;obtain⟨a,b,r,q,z⟩:=h;exact gJ.lb ds b z
 |.lst ds,v,h=>by unfold Rep at h;unfold L3.lb;obtain⟨a,b,r,q,z⟩:=h;exact gJ.lb ds b z
 |.kt c ds,v,h=>by unfold Rep at h;unfold L3.lb;obtain⟨a,b,r,q,l,z⟩:=h;exact gJ.lb ds b z
 |.ins C ns ds,v,h=>by unfold Rep at h;unfold L3.lb;obtain⟨a,f,b,r,q,l,z⟩:=h;exact gJ.lb ds b z
 |.exc C ns ds,v,h=>by unfold Rep at h;unfold L3.lb;obtain⟨a,b,r,q,l,z⟩:=h;exact gJ.lb ds b z
theorem gJ.lb {K:bz} {α:List ak} {H:Hp}:∀(d:List D) (v:List V),gJ K α H d v->L3.Vz α.length d
 |[],v,h=>by unfold L3.Vz;trivial
 |d::ds,v,h=>by unfold gJ at h;unfold L3.Vz;obtain⟨u,r,q,z,y⟩:=h;exact⟨Rep.lb d u z,gJ.lb ds r y⟩
end
mutual
theorem Rep.shrink {K:bz} {α β:List ak} {H:Hp} (p:α <+: β):∀(d:D) (v:V),L3.lb α.length d->Rep K β H d v->Rep K α H d v
 |.non,v,_,h|.bl _,v,_,h|.int _,v,_,h|.str _,v,_,h|.ty _,v,_,h|.uI _,v,_,h|.cls _,v,_,h=>by unfold Rep at h |-;exact h
 |.loc k,v,n,h=>by unfold Rep at h |-;unfold L3.lb at n;obtain⟨a,e,r⟩:=h;obtain⟨t,rfl⟩:=p;rw[bA n] at e;exact⟨a,e,r⟩
 |.tup ds,v,n,h=>by unfold Rep at h |-;unfold L3.lb at n;obtain⟨a,b,r,q,z⟩:=h;exact⟨a,b,r,q,gJ.shrink p ds b n z⟩
 |.lst ds,v,n,h=>by unfold Rep at h |-;unfold L3.lb at n;obtain⟨a,b,r,q,z⟩:=h;exact⟨a,b,r,q,gJ.shrink p ds b n z⟩
 |.kt f ds,v,n,h=>by unfold Rep at h |-;unfold L3.lb at n;obtain⟨a,b,r,q,l,z⟩:=h;exact⟨a,b,r,q,l,gJ.shrink p ds b n z⟩
 |.ins C ns ds,v,n,h=>by unfold Rep at h |-;unfold L3.lb at n;obtain⟨a,c,b,r,q,l,z⟩:=h;exact⟨a,c,b,r,q,l,gJ.shrink p ds b n z⟩
 |.exc C ns ds,v,n,h=>by unfold Rep at h |-;unfold L3.lb at n;obtain⟨a,b,r,q,l,z⟩:=h;exact⟨a,b,r,q,l,gJ.shrink p ds b n z⟩
theorem gJ.shrink {K:bz} {α β:List ak} {H:Hp} (p:α <+: β):∀(d:List D) (v:List V),L3.Vz α.length d->gJ K β H d v->gJ K α H d v
 |[],v,_,h=>by unfold gJ at h |-;exact h
 |d::ds,v,n,h=>by unfold gJ at h |-;unfold L3.Vz at n;obtain⟨u,r,q,z,y⟩:=h;exact⟨u,r,q,Rep.shrink p d u n.1 z,gJ.shrink p ds r n.2 y⟩
end
theorem Js.Vz{K:bz}{α:List ak}{c H:Hp}{o:OD}{a:ak}(h:Js K α c H o a):match o with|.lst ds=>L3.Vz α.length ds|.kt _ ds=>L3.Vz α.length ds|.ins _ _ ds=>L3.Vz α.length ds|.fz _ _ _ ds=>L3.Vz α.length ds:=by
 cases o with
 |lst ds=>obtain⟨b,_,r⟩:=h;exact gJ.lb _ _ r
 |kt e ds=>obtain⟨b,_,_,r⟩:=h;exact gJ.lb _ _ r
 |ins C ns ds=>obtain⟨f,b,_,_,r⟩:=h;exact gJ.lb _ _ r
 |fz k g e ds=>obtain⟨_,b,_,_,r⟩:=h;exact gJ.lb _ _ r
theorem OK.aej{K:bz}{F c α:List ak}{B H:Hp}{M N:Ms}(n:OK K F c B M)(h:OK K F α H (M++N))(pre:c <+: α):OK K F c H M/\jV (jy F α (M++N) H) (jy F c M H):=by
 obtain⟨β,rfl⟩:=pre;have g:=n.ml;have u:lv (c++β) (M++N)=lv c M++lv β N:=uK g;have i:jV (jy F (c++β) (M++N) H) (jy F c M H):=λb y e=>by
  obtain⟨z,q⟩:=jh e;rw[u] at z;show kg _ H b=_;refine nZ e (λw=>z ?_) q
  .simp only [bg] at w |-;rcases w with w|w
   .exact .inl (.inl w)
   .exact .inr w
 refine⟨⟨g,n.nd,λa ha=>⟨(n.fr a ha).1,(h.fr a ha).2⟩,λa ha=>h.al a (cb _ ha),λk y v=>?_,h.tb⟩,i⟩;have x:k<M.length:=(au.mp v).1;obtain⟨a,A,o⟩:=h.own k y (by rw[bA x];exact v);rw[bA (by omega)] at A;obtain⟨I,j,m⟩:=n.own k y v;rw[A] at j;cases j;have p:=m.Vz;refine⟨a,A,?_⟩;cases y with
 |lst ds=>
  obtain⟨f,q,r⟩:=o;exact⟨f,q,gJ.shrink (cc _ _) _ _ p (gJ.mono (bd _) i _ _ r)⟩
 |kt E ds=>
  obtain⟨f,q,l,r⟩:=o;exact⟨f,q,l,gJ.shrink (cc _ _) _ _ p (gJ.mono (bd _) i _ _ r)⟩
 |ins C ns ds=>
  obtain⟨G,f,q,l,r⟩:=o;exact⟨G,f,q,l,gJ.shrink (cc _ _) _ _ p (gJ.mono (bd _) i _ _ r)⟩
 |fz k J E ds=>
  obtain⟨_,f,q,l,r⟩:=o;exact⟨m.1,f,q,l,gJ.shrink (cc _ _) _ _ p (gJ.mono (bd _) i _ _ r)⟩
section
variable {X:Cx} {a b c e o value:bC} {es rest:List bC} {ta tb tc te to tv:DE} {tA:DT} {tt:DA} {pos pos' p p2 p3 apos mX:d8} {x f m:ay}
theorem pQ{k:Nat}{C:ak}{g:GN}(B:md X.prog X.w X.K X.mg X.cv k C g)(hr:jU (k+1) X.A)(hm:X.mg x=aa (.ref C))(ha:JA X (e::es) tt)(hg:Gl X x:=by rfl)(Ak:(x==("__debug__":ay))=ar:=by decide)
(he:bc (e::es) X.env=(ar,eval e X.env)::bc es X.env:=by rfl)(CV:(c7 pos (bc es X.env)).any (·.1)=ar:=by rfl):JE X (.Call (.Name x p) (e::es) [] pos) (se C g tt):=by
 obtain⟨f,fd,ps,mk,hb,FO⟩:=B.ok;refine⟨λu M P Q w q=>ha.mono u _ _ _ (λds M1 q=>B.mono _ _ _ _ (λd M2 q=>?_) q) q,PE.weak (TF mk FO hr hg hm hb .nil K0 ha.p Ak he CV) λσ H Q q=>?_⟩
 .obtain⟨q1,ns,es,q2,q3,q4⟩:=q;exact⟨q1,ns,es,q2,q3,w _ _ q4⟩
 obtain⟨F,α,u,M,r,q⟩:=q;refine⟨F,α,u,M,r,ha.mono u _ _ _ (λds M1 q vs h H1 e1 i r1 y E j G CY=>?_) q⟩;have s0:jV H1 (upd (upd H1 E (.own y)) y (.ins C E [])):=λb ob e=>by rw[g9 (je e j),g9 (je e G)];exact e
 obtain⟨o2,N⟩:=i.enter (x:=.ins C [] []) j s0 ⟨E,[],ip,rfl,gJ.nil⟩;show jX X.K g (V.ref y::(vs++[])) _ _ E0;rw[aR];have n:(h++[y])[M1.length]?=aa y:=by rw[<-i.ml];simp
 refine⟨F,h++[y],M1++[aa (.ins C [] [])],.loc M1.length::ds,o2,gJ.cons ?_ (N.Ju r1),B.mono _ _ _ _ (λd M2 q v Gs O I T U=>?_) q⟩
 .unfold Rep;exact⟨y,n,rfl⟩
 .obtain⟨rfl,ns,fs,rfl,hn,q⟩:=q;unfold Rep at U;have pre:h <+: Gs:=(cc _ _).trans I.pre;obtain⟨o4,Y⟩:=OK.aej i T pre;have ey:=yW I.pre n;obtain⟨a,ea,dx,ws,hq,hl,rr⟩:=T.own M1.length (.ins C ns fs) (by simp);rw[ey] at ea;cases ea;have J:y∉F:=λz=>(i.fr y z).2 (by rw[j]);have hya:y∉h:=λz=>i.al y z (by rw[j]);have L:y∉lv h M1:=λz=>i.live y z j;have Ot:=N.trans I;refine⟨U,q _ h O (e1.trans ⟨bd _,Ot.same.trans Y,Ot.fr⟩) o4 ?_⟩;unfold Rep;refine⟨y,dx,ws,rfl,?_,hl,gJ.nl _ _ hn (gJ.mono (bd _) Y _ _ rr)⟩;show kg _ O y=_;exact mB (λz=>(bg.mp z).elim L J) hq rfl
noncomputable def putN(f:ay)(d:D):List ay->List D->List ay×List D
 |n::ns,e::es=>if n=f then(n::ns,d::es) else((n::(putN f d ns es).1),(e::(putN f d ns es).2))
 |ns,es=>(ns++[f],es++[d])
theorem GR{K:bz}{α:List ak}{H:Hp}{f:ay}{d:D}{v:V}(i:Rep K α H d v):∀(ns:List ay) (ds:List D) (g:List V),gJ K α H ds g->ns.length=ds.length->
  ∃ws,sY f v (ns.zip g)=(putN f d ns ds).1.zip ws/\(putN f d ns ds).1.length=(putN f d ns ds).2.length/\gJ K α H (putN f d ns ds).2 ws
 |[],[],g,h,l=>by unfold gJ at h;subst h;exact⟨[v],rfl,rfl,gJ.one i⟩
 |[],e::es,g,h,l=>by simp at l
 |n::ns,[],g,h,l=>by simp at l
 |n::ns,j::es,g,h,l=>by
  unfold gJ at h;obtain⟨u,r,rfl,z,y⟩:=h;obtain⟨ws,w,A,B⟩:=GR (f:=f) i ns es r y (by simpa using l);rw[ce];by_cases e:n=f
  .subst e;have q:putN n d (n::ns) (j::es)=(n::ns,d::es):=by unfold putN;rw[if_pos rfl]
   rw[q];refine⟨v::r,?_,by simpa using l,gJ.cons i y⟩;unfold sY;simp
  .have q:putN f d (n::ns) (j::es)=(n::(putN f d ns es).1,j::(putN f d ns es).2):=by rw[putN,if_neg e]
   rw[q];refine⟨u::ws,?_,by simpa using A,gJ.cons z B⟩;unfold sY;simp[e,w]
def qh (K:bz)(f:ay)(to tv:DE):DS:=λE g M=>tv g M λd M1=>to g M1 λo M2=>match o with
 |.loc k=>∃C ns ds,M2[k]?=aa (aa (.ins C ns ds))/\qg K C f/\ns.length<1000/\E.nx g (M2.set k (aa (.ins C (putN f d ns ds).1 (putN f d ns ds).2)))
 |_=>False
theorem kU(j:JE X o to)(n:JE X value tv)(hs:eL value (aa (.Attribute o f pos')) pos.line X.env=pure ar:=by rfl):JS X (.Assign [.Attribute o f pos'] value pos) (qh X.K f to tv):=by
 refine⟨λP Q g M w q=>n.mono g _ _ _ (λd M1 q=>j.mono g _ _ _ (λo M2 q=>?_) q) q,PS.weak (adP j.p n.p hs) λE σ H q=>?_⟩
 .cases o<;>first|exact q.elim|skip
  obtain⟨C,ns,ds,h,i,J,q⟩:=q;exact⟨C,ns,ds,h,i,J,w.nx _ _ q⟩
 .obtain⟨F,α,g,M,r,q⟩:=q;refine⟨F,α,g,M,r,n.mono g _ _ _ (λd M1 q v iF H1 A o1 r1=>⟨F,iF,g,M1,r.grow A o1,j.mono g _ _ _ (λod M2 q u qJ H2 B L N=>?_) q⟩) q⟩;cases od<;>first|exact q.elim|skip
  rename_i k;obtain⟨C,ns,ds,h,i,J,q⟩:=q;unfold Rep at N;obtain⟨a,O,rfl⟩:=N;obtain⟨a',T,G,I,hq,U,Y⟩:=L.own k _ h;rw[O] at T;cases T;obtain⟨ws,i1,i2,i3⟩:=GR (f:=f) (B.rep r1) ns ds I Y U;have jH:(ns.zip I).length<1000:=by rw[dL,<-gJ.length _ _ Y,U];omega
  obtain⟨o3,e3⟩:=L.write (y:=.ins C (putN f d ns ds).1 (putN f d ns ds).2) (z:=.ins C G (sY f v (ns.zip I))) h O (λHh eh=>by subst eh;exact⟨G,ws,by rw[ip,i1],i2,i3⟩)
  exact⟨a,C,G,_,rfl,hq,i.cl,i.na,jH,q σ qJ _ ((A.trans B).trans e3) (r.grow ((A.trans B).trans e3) o3)⟩
end
section
variable {P:ba} {w:bI} {K:bz} {mg:ay->Option ae} {cv:az}
theorem Bv{x qual:ay}{st:bL}{f:ak}{fd:cK}{N a:List ay}{k:Nat}{body:List bL}{scope:df}{tb:DS}(F:nw K x qual st f fd)(b:i7 st=body)(es:iA st=scope)(S:gU N a scope)
(c:∀(iC:ae) (A:bv) (dk:List ajk) (s:aq) (H:Hp) (E:XK),jU k (A.deeper (d7 qual scope s.heap.objs.size f iC))->Ou (vC p8 P w K mg cv N qual scope f iC A dk s H E).KI body tb):
  ke P w K mg cv p8 (k+1) f fd a (jX K (uf N.length a.length tb)):=by subst b es;exact F.ok S (λe H Q E ⟨F,α,M,ds,o,r,g,q⟩=>by rw[<-gJ.length _ _ r];exact g) λiC A dk s H e Q E i h=>let⟨t,q,z⟩:=XU (ps:=a) (c iC A dk s H E i) rfl h;⟨t,q.p,z⟩
theorem Df{x qual:ay}{st:bL}{f:ak}{fd:cK}{N a:List ay}{k:Nat}{body:List bL}{scope:df}{tb:DS}(F:nw K x qual st f fd)(b:i7 st=body)(es:iA st=scope)(S:gU N a scope)
(c:∀(iC:ae) (A:bv) (dk:List ajk) (s:aq) (H:Hp) (E:XK),jU k (A.deeper (d7 qual scope s.heap.objs.size f iC))->Ou (vC p8 P w K mg cv N qual scope f iC A dk s H E).KI body tb):
  ke P w K mg cv p8 (k+1) f fd a (jX K (cl (jB N.length a.length tb))):=by subst b es;exact F.ok S (λe H Q E ⟨F,α,M,ds,o,r,hn,g,q⟩=>by rw[<-gJ.length _ _ r];exact g) λiC A dk s H e Q E i h=>let⟨t,q,z⟩:=Ro (ps:=a) (c iC A dk s H E i) rfl h;⟨t,q.p,z⟩
theorem agy{x:ay}{st:bL}{a:List ay}(k:Nat)(F:hG K mg x st)
(b:∀(kV doc pm:ae) (an:Option ak) (iC ct:ae) (us:List ae),us.length=a.length->dY (dt x x (lr st) (i7 st) (iA st) .none kV doc pm an iC ct) ⟨us,[]⟩=pure (a.zip us)):ie P w K mg cv k x a λ_ _ _=>False:=by obtain⟨f,fd,F,m⟩:=F;exact⟨λ_ _ _ _ _ q=>q,f,fd,m,F.kp,F.binds b,⟨λc H Q E ⟨_,_,_,_,_,_,q⟩=>q.elim,λA dk s H args us c Q E _ _ _ _ ⟨_,_,_,_,_,_,q⟩=>q.elim⟩⟩
end
abbrev GM:=D->List D->Ms->DK->Prop
def rDm (K:bz)(g:GM):V->List V->Hp->VK->Prop:=λx xs H Q=>∃F α M d ds,OK K F α H M/\Rep K α (jy F α M H) d x/\gJ K α (jy F α M H) ds xs/\g d ds M (vK K F α H M Q)
structure JM(X:Cx)(id:String)(g:GM):Prop where
 mono:∀d ds M (P Q:DK),(∀d M,P d M->Q d M)->g d ds M P->g d ds M Q
 p:MtR X id (rDm X.K g)
noncomputable def tyD(T:String)(d:D):Bool:=match d with
 |.lst _|.uI _=>T=="list"
 |.str _=>T=="str"
 |.int _=>T=="int"
 |.kt _ _=>T=="dict"
 |_=>ar
section
variable {X:Cx} {a b c e o value:bC} {es rest:List bC} {ta tb tc te to tv:DE} {tA:DT} {tt:DA} {pos pos' p p2 p3 apos mX:d8} {x f m name:ay} {T id:String} {g:GM}
theorem X7{F α:List ak}{H:Hp}{M:Ms}{d:D}{v:V}(ok:OK X.K F α H M)(r:Rep X.K α (jy F α M H) d v)(h:tyD T (vw M d)=ag):tyV X.K T v H:=by
 generalize i:vw M d=z at h;cases z<;>first|(cases h;done)|skip
 .cases An i;unfold Rep at r;subst r;exact beq_iff_eq.mp h
 .cases oj i;unfold Rep at r;subst r;exact beq_iff_eq.mp h
 .obtain⟨a,n,rfl,j,_⟩:=ki ok r i;exact .inl ⟨beq_iff_eq.mp h,n,p7.of j⟩
 .obtain⟨a,n,rfl,j,_⟩:=Am ok r i;exact .inr (.inr (.inl ⟨beq_iff_eq.mp h,.inl ⟨_,j⟩⟩))
 .cases xF i;unfold Rep at r;obtain⟨a,rfl,j⟩:=r;exact .inl ⟨beq_iff_eq.mp h,_,lZ il j⟩
def Aq (T:String)(g:GM)(to:DE)(tt:DA):DE:=λh M Q=>to h M λd M1=>tyD T (vw M1 d)=ag/\tt h M1 λds M2=>g d ds M2 Q
theorem uO(i:JM X id g)(C:ajV T)(slot:Slot T name id)(j:akZ (.builtin id)=pure (.type "method_descriptor"))(n:JE X o to)(ha:JA X (e::es) tt)
(E:du o name X.env (eval o X.env)=eval o X.env:=by rfl)
(u:((c7 mX (bc (e::es) X.env)).all (λx=>!x.1)&&(ajn mX (eI [] X.env)).all (λx=>x.1.isSome)
   &&decide ((e::es).length+([]:List aji).length+(if([]:List aji).isEmpty then 0 else 1)<30))=ag:=by rfl)
(G:(apos.endLine==mX.line)=ag:=by rfl)(I:bc (e::es) X.env=(ar,eval e X.env)::bc es X.env:=by rfl)(J:(c7 mX (bc es X.env)).any (·.1)=ar:=by rfl):
  JE X (.Call (.Attribute o name apos) (e::es) [] mX) (Aq T g to tt):=by refine⟨λh M P Q w q=>n.mono h _ _ _ (λd M1 q=>⟨q.1,ha.mono h _ _ _ (λds M2 q=>i.mono _ _ _ _ _ w q) q.2⟩) q,PE.weak (af7 C slot j i.p n.p ha.p E u G I J) λσ H Q q=>?_⟩;obtain⟨F,α,h,M,r,q⟩:=q;refine⟨F,α,h,M,r,n.mono h _ _ _ (λd M1 q v L H1 y z A=>⟨X7 z A q.1,F,L,h,M1,r.grow y z,ha.mono h _ _ _ (λds M2 q Y N H2 B O U=>?_) q.2⟩) q⟩;exact⟨F,N,M2,d,ds,O,B.rep A,U,i.mono _ _ _ _ _ (vK.grow (y.trans B)) q⟩
theorem acR(i:JM X id g)(z:ajV T)(slot:Slot T name id)(j:akZ (.builtin id)=pure (.type "method_descriptor"))(n:JE X o to)
(A:du o name X.env (eval o X.env)=eval o X.env:=by rfl)(B:(apos.endLine==mX.line)=ag:=by rfl):JE X (.Call (.Attribute o name apos) [] [] mX) (Aq T g to gK):=by refine⟨λh M P Q w q=>n.mono h _ _ _ (λd M1 q=>⟨q.1,i.mono _ _ _ _ _ w q.2⟩) q,PE.weak (ad4 z slot j i.p n.p A B) λσ H Q q=>?_⟩;obtain⟨F,α,h,M,r,q⟩:=q;refine⟨F,α,h,M,r,n.mono h _ _ _ (λd M1 q v C H1 E u y=>⟨X7 u y q.1,F,C,M1,d,[],u,y,gJ.nil,i.mono _ _ _ _ _ (vK.grow E) q.2⟩) q⟩
theorem vN{F α:List ak}{H:Hp}{M:Ms}{k:Nat}{ds:List D}{v:V}(ok:OK X.K F α H M)(r:Rep X.K α (jy F α M H) (.loc k) v)(h:M[k]?=aa (aa (.lst ds))):
  ∃a i,v=.ref a/\H a=aa (.lst i)/\gJ X.K α (jy F α M H) ds i/\∀es ws,gJ X.K α (jy F α M H) es ws->OK X.K F α (upd H a (.lst ws)) (M.set k (aa (.lst es)))/\Ext F α H M α (upd H a (.lst ws)) (M.set k (aa (.lst es))):=by unfold Rep at r;obtain⟨a,j,rfl⟩:=r;obtain⟨B,n,i,q,u⟩:=ok.own k _ h;rw[j] at n;cases n;exact⟨a,i,rfl,q,u,λes ws w=>ok.write (y:=.lst es) (z:=.lst ws) h j λC A=>by subst A;exact⟨ws,ip,w⟩⟩
def iN:GM:=λd ds M Q=>match d,ds with
 |.loc k,[x]=>∃es,M[k]?=aa (aa (.lst es))/\es.length<aC/\Q .non (M.set k (aa (.lst (es++[x]))))
 |_,_=>False
theorem jk:JM X "list.append" iN:=by
 refine⟨λd ds M P Q w q=>?_,λcq s σ H x xs v us Q I B rs h=>?_⟩
 .match d,ds,q with
  |.loc k,[x],⟨es,i,j,q⟩=>exact⟨es,i,j,w _ _ q⟩
 .obtain⟨F,α,M,d,ds,ok,r,n,h⟩:=h;match d,ds,h,r,n with
  |.loc k,[y],⟨es,i,j,q⟩,r,n=>
   obtain⟨a,z,rfl,C,A,E⟩:=vN ok r i;obtain⟨u,G,J⟩:=qU n;subst G;obtain⟨L,N⟩:=E (es++[y]) (z++[u]) (gJ.append _ _ _ _ A (gJ.one J));exact KY cq s σ H _ _ v us Q I B rs ⟨a,z,u,rfl,rfl,C,by rw[<-gJ.length _ _ A];exact j,q _ α _ N L yX⟩
def Ub:GM:=λd ds M Q=>match d,ds with
 |.loc k,[]=>∃es x,M[k]?=aa (aa (.lst (es++[x])))/\Q x (M.set k (aa (.lst es)))
 |.loc k,[.int 0]=>∃x es,M[k]?=aa (aa (.lst (x::es)))/\Q x (M.set k (aa (.lst es)))
 |_,_=>False
theorem gJ.dropLast{K:bz}{α:List ak}{H:Hp}{es:List D}{x:D}{i:List V}(h:gJ K α H (es++[x]) i):∃us v,i=us++[v]/\gJ K α H es us/\Rep K α H x v:=by
 induction es generalizing i with
 |nil=>
  obtain⟨v,rfl,r⟩:=qU h;exact⟨[],v,rfl,gJ.nil,r⟩
 |cons d es j=>
  rw[fg] at h;unfold gJ at h;obtain⟨v,r,rfl,z,y⟩:=h;obtain⟨us,u,rfl,n,q⟩:=j y;exact⟨v::us,u,rfl,gJ.cons z n,q⟩
theorem RG:JM X "list.pop" Ub:=by
 refine⟨λd ds M P Q w q=>?_,λcq s σ H x xs v us Q I J rs h=>?_⟩
 .match d,ds,q with
  |.loc k,[],⟨es,x,i,q⟩=>exact⟨es,x,i,w _ _ q⟩
  |.loc k,[.int 0],⟨x,es,i,q⟩=>exact⟨x,es,i,w _ _ q⟩
 .obtain⟨F,α,M,d,ds,ok,r,j,h⟩:=h;match d,ds,h,r,j with
  |.loc k,[],⟨es,x,i,q⟩,r,j=>
   obtain⟨a,N,rfl,A,z,B⟩:=vN ok r i;unfold gJ at j;subst j;obtain⟨ws,u,rfl,C,E⟩:=z.dropLast;obtain⟨G,n⟩:=B es ws C;exact ad7 cq s σ H _ _ v us Q I J rs ⟨a,_,u,rfl,rfl,A,by simp,by rw[List.dropLast_concat];exact q _ α _ n G (n.rep E)⟩
  |.loc k,[.int 0],⟨x,es,i,q⟩,r,j=>
   obtain⟨a,N,rfl,A,z,B⟩:=vN ok r i;obtain⟨u,O,L⟩:=qU j;subst O;unfold Rep at L;subst L;unfold gJ at z;obtain⟨y,ws,rfl,E,C⟩:=z;obtain⟨G,n⟩:=B es ws C;exact XB cq s σ H _ _ v us Q I J rs ⟨a,_,0,0,y,rfl,rfl,A,by decide,by decide,by simp[akb],by simp,q _ α _ n G (n.rep E)⟩
def uP (to q:DE):DG:=λv h M Q=>to h M λo M1=>q h M1 λi M2=>match o with
 |.loc k=>match M2[k]?,i with
  |some (aa (.lst ds)),.int j=>∃n,QU ds.length j=aa n/\Q h (M2.set k (aa (.lst (ds.set n v))))
  |_,_=>False
 |_=>False
theorem sf(B:JE X o to)(hi:JE X e te)
(ha:∀v,assign (.Subscript o e pos) X.env v=(do
   let y<-holding [v] (eval o X.env);let C<-holding [v,y] (eval e X.env)
   ajC pos
   holding [v,y,C] (ajP y C v)
   release [v,y,C] []):=by intro _;rfl):JG X (.Subscript o e pos) (uP to te):=by
 refine⟨λd h M P Q w q=>B.mono h _ _ _ (λod M1 q=>hi.mono h _ _ _ (λi M2 q=>?_) q) q,PG.weak (adB B.p hi.p Oi ha) λv σ H Q q=>?_⟩
 .cases od<;>first|exact q.elim|skip
  rename_i k;simp only at q |-;split at q
  .obtain⟨n,E,q⟩:=q;exact⟨n,E,w _ _ q⟩
  .exact q.elim
 .obtain⟨F,α,h,M,d,r,O,q⟩:=q;refine⟨F,α,h,M,r,B.mono h _ _ _ (λod M1 q u U H1 z Y r1=>⟨F,U,h,M1,r.grow z Y,hi.mono h _ _ _ (λi M2 q w qJ H2 A o2 I=>?_) q⟩) q⟩;cases od<;>first|exact q.elim|skip
  rename_i k;simp only at q;split at q
  .rename_i ds j hk;obtain⟨n,E,q⟩:=q;unfold Rep at I;subst I;obtain⟨a,J,rfl,hH,L,wr⟩:=vN o2 (A.rep r1) hk;have G:=(z.trans A).rep O;obtain⟨o3,N⟩:=wr (ds.set n d) (J.set n v) (gJ.set G n _ _ L);exact⟨a,J,j,n,rfl,rfl,hH,by rw[<-gJ.length _ _ L];exact E,q σ qJ _ ((z.trans A).trans N) (r.grow ((z.trans A).trans N) o3)⟩
  .exact q.elim
end
open PyProof.Rows.KTD
def X8 (K:bz)(d:D)(u:ae):Prop:=∃v,RelV v u/\∀α H,Rep K α H d v
structure Dg(K:bz)(a:ak)(rows:List (ay×D)):Prop where
 lo:(a==cH)=ar
 ex:∃o es ep,K.lookup a=aa o/\o.ExactDict/\o.data=.dict es ep/\Rows (X8 K) es.toList rows
section
variable {prog:ba} {w:bI} {A:bv} {E:ae->aq->Prop} {s:aq} {K:bz} {a:ak} {rows:List (ay×D)} {k:ay} {tk:akr}
theorem Dg.typeIs(T:Dg K a rows)(h:K.In s.heap):s.TypeIs (.ref a) "dict":=let⟨o,_,_,b,c,_⟩:=T.ex;⟨o,h _ _ b,c.1⟩
theorem Dg.get{Q:Option ae->aq->Prop}(T:Dg K a rows)(j:K.In s.heap)(m:∀d v,datumAt k rows=aa d->X8 K d v->Q (aa v) {s with toks:=s.toks+1})(n:datumAt k rows=ao->Q ao {s with toks:=s.toks+1}):
  wpAny (model prog w) A (akK a (.str k tk)) Q E s:=by
 obtain⟨o,es,r,f,u,hd,g⟩:=T.ex;have f:=j _ _ f;unfold akK;try with_reducible refine bR ?_
 refine ah (akN (ah (kt_dictFind_strs (s:={s with toks:=s.toks+1}) f hd (by obtain⟨l⟩:=es;simpa using g.exact) ?_)));have c:Q (akz (λk v=>v.isStr k) es k) {s with toks:=s.toks+1}:=by
  have p:akz (λk v=>v.isStr k) es k=(es.toList.find? λe=>e.key.isStr k).map (·.val):=by obtain⟨l⟩:=es;simp[akz]
  rw[p];cases b:datumAt k rows with
  |some d=>obtain⟨v,q,h⟩:=g.find_some b;rw[q];exact m d v b h
  |none=>rw[g.find_none b];exact n b
 rw[ajx] at c;cases hi:es.findIdx? λe=>e.key.isStr k with
 |none=>rw[hi] at c;exact aw c
 |some i=>rw[hi] at c;exact ah (akL (s:={s with toks:=s.toks+1}) f hd (aw c))
theorem Dg.item{Q:ae->aq->Prop}(T:Dg K a rows)(b:K.In s.heap){d:D}(hm:datumAt k rows=aa d)(h:∀v,X8 K d v->Q v {s with toks:=s.toks+1}):
  wpAny (model prog w) A (gA (.ref a) (.str k tk)) Q E s:=by
 have ht:s.TypeIs (.ref a) "dict":=T.typeIs b;unfold gA;try with_reducible refine bR ?_
 refine ah (akG ht (by decide) ?_);refine ah (cX (name:=cL "__getitem__") ht akM
  (cM akM ht entry_dict_getitem ?_ (args_dict_getitem _ _)))
 show wpAny _ _ (akK a (.str k tk) >>= _) _ _ s;exact ah (T.get b (λe v ha c=>aw ⟨v,rfl,aw (h v (by rw[hm] at ha;cases ha;exact c))⟩) λhn=>by rw[hm] at hn;cases hn)
theorem Dg.isin{Q:ae->aq->Prop}(T:Dg K a rows)(e:K.In s.heap)(neg:Bool)(h:Q (.bool (if neg then !inKeys k rows else inKeys k rows)) {s with toks:=s.toks+1}):wpAny (model prog w) A (compareOp (if neg then .NotIn else .In) (.str k tk) (.ref a)) Q E s:=by
 have ht:s.TypeIs (.ref a) "dict":=T.typeIs e;have key:∀(b:Bool->aq->Prop),b (inKeys k rows) {s with toks:=s.toks+1}->wpAny (model prog w) A (contains (.ref a) (.str k tk)) b E s:=λb h=>by
  unfold contains;try with_reducible refine bR ?_
  refine ah (ajl ht ajy.lookup ?_);show wpAny _ _ (if(aa (ae.builtin "dict.__contains__")==aa cY)=ag then _ else _) _ E s;rw[if_neg (by rw[beq_builtin_none];exact ax)];refine ah (wpAny_callSpecialUnlessNone?_slot (name:=cL "__contains__") ht ajy
   (cM ajy ht entry_dict_contains ?_ (args_dict_contains _ _)))
  show wpAny _ _ (akK a (.str k tk) >>= _) _ _ s;refine ah (T.get e (λd v ha _=>?_) λhn=>?_)
  .have c:inKeys k rows=ag:=by rw[<-isSome_datumAt,ha];rfl
   rw[c] at h;show wpAny _ _ (ret (.bool ag)) _ _ _;exact aw ⟨_,rfl,cA h⟩
  .have c:inKeys k rows=ar:=by rw[<-isSome_datumAt,hn];rfl
   rw[c] at h;show wpAny _ _ (bE.Dict.pendingKey? a (.str k tk) >>= _) _ _ _;exact ah (wpAny_pendingKey_other T.lo (aw ⟨_,rfl,cA h⟩))
 cases neg with
 |false=>
  show wpAny _ _ (do return .bool (<-contains (.ref a) (.str k tk))) Q E s;exact ah (key _ (aw h))
 |true=>
  show wpAny _ _ (do return .bool (!(<-contains (.ref a) (.str k tk)))) Q E s;exact ah (key _ (aw h))
end
section
variable {X:Cx} {a:ak} {rows:List (ay×D)}
def Me (a:ak)(rows:List (ay×D)):G2:=λx y M Q=>match x,y with
 |.cls b,.str k=>b=a/\∃d,datumAt k rows=aa d/\Q d M
 |_,_=>False
theorem aex(T:Dg X.K a rows):JX X (Me a rows):=by
 refine⟨λx y M P Q w q=>?_,λvalue slice cq s σ H x y v u Q I g i h j=>?_⟩
 .unfold Me at*;split at q<;>first|exact q.elim|(obtain⟨m,d,n,q⟩:=q;exact⟨m,d,n,w _ _ q⟩)
 .obtain⟨F,α,M,G,J,o,e,f,h⟩:=h;unfold Me at h;split at h<;>first|exact h.elim|skip
  obtain⟨rfl,d,hd,q⟩:=h;unfold Rep at e f;subst e f;rename_i b k;obtain rfl:v=bH b:=g;obtain⟨t,rfl⟩:=i;have ht:s.TypeIs (.ref b) "dict":=T.typeIs I.zM;unfold ajt;refine ah ?_;rw[akp ht.not_modules];refine ah (ajl ht PySem.F.slot_dict_getitem.lookup ?_);have c:wpAny (model X.prog X.w) X.A (subscripted slice ar (.ref b) (.str k t)) (λr p=>wpAny (model X.prog X.w) X.A (ak1 value (.ref b) r >>= λ_=>pure r) (EP X cq σ Q) X.xe p) X.xe s:=by rw[j];refine akV (T.item I.zM hd λL z=>ah (akt (aw ?_)));obtain⟨B,C,E⟩:=z;exact⟨B,H,I.tok _,C,vK.now o q (E _ _)⟩
  first
   |exact aw (ah c)
   |exact ah (aw (ah c))
   |exact ah c
def Mf (neg:Bool)(a:ak)(rows:List (ay×D)):G2:=λx y M Q=>match x,y with
 |.str k,.cls b=>b=a/\Q (.bl (if neg then !inKeys k rows else inKeys k rows)) M
 |_,_=>False
theorem OL(T:Dg X.K a rows):JC X .NotIn (Mf ag a rows):=by
 refine⟨λx y M P Q w q=>?_,λcq s σ H x y v u Q I f g h=>?_⟩
 .unfold Mf at*;split at q<;>first|exact q.elim|exact⟨q.1,w _ _ q.2⟩
 .obtain⟨F,α,M,i,j,o,c,e,h⟩:=h;unfold Mf at h;split at h<;>first|exact h.elim|skip
  obtain⟨rfl,q⟩:=h;unfold Rep at c e;subst c e;obtain⟨t,rfl⟩:=f;rename_i k b;obtain rfl:u=bH b:=g;exact T.isin I.zM ag ⟨.bl _,H,I.tok _,rfl,vK.now o q jq⟩
end
end L3
namespace L3
open L2
section
variable {P:ba} {w:bI} {K:bz} {mg:ay->Option ae} {cv:az}
theorem jl{x:ay}{st:bL}{N a:List ay}{k:Nat}{body:List bL}{scope:df}{tb:DS}(F:hG K mg x st)(b:i7 st=body)(es:iA st=scope)(S:gU N a scope)
(c:∀(kV doc pm:ae) (an:Option ak) (iC ct:ae) (us:List ae),us.length=a.length->dY (dt x x (lr st) (i7 st) (iA st) .none kV doc pm an iC ct) ⟨us,[]⟩=pure (a.zip us))
(e:∀(f:ak) (iC:ae) (A:bv) (dk:List ajk) (s:aq) (H:Hp) (E:XK),jU k (A.deeper (d7 x scope s.heap.objs.size f iC))->Ou (vC p8 P w K mg cv N x scope f iC A dk s H E).KI body tb):
  ny P w K mg cv (k+1) x a (jX K (cl (jB N.length a.length tb))):=
 F.aef b es S c (λg H Q E ⟨F,α,M,ds,o,r,hn,i,q⟩=>by rw[<-gJ.length _ _ r];exact i) λf iC A dk s H g Q E j h=>Ro (ps:=a) (e f iC A dk s H E j) rfl h
theorem La{x:ay}{st:bL}{N a:List ay}{k:Nat}{body:List bL}{scope:df}{tb:DS}(F:hG K mg x st)(b:i7 st=body)(es:iA st=scope)(S:gU N a scope)
(c:∀(kV doc pm:ae) (an:Option ak) (iC ct:ae) (us:List ae),us.length=a.length->dY (dt x x (lr st) (i7 st) (iA st) .none kV doc pm an iC ct) ⟨us,[]⟩=pure (a.zip us))
(e:∀(f:ak) (iC:ae) (A:bv) (dk:List ajk) (s:aq) (H:Hp) (E:XK),jU k (A.deeper (d7 x scope s.heap.objs.size f iC))->Ou (vC p8 P w K mg cv N x scope f iC A dk s H E).KI body tb):
  ny P w K mg cv (k+1) x a (jX K (uf N.length a.length tb)):=
 F.aef b es S c (λg H Q E ⟨F,α,M,ds,o,r,i,q⟩=>by rw[<-gJ.length _ _ r];exact i) λf iC A dk s H g Q E j h=>XU (ps:=a) (e f iC A dk s H E j) rfl h
theorem kY{k:Nat}{x:ay}{c:List ay}{g a:GP}(h:ny P w K mg cv k x c (jX K (cl g)))(m:iH a)(i:∀ds Q,a ds Q->g ds Q):ie P w K mg cv k x c (cl a):=
 ⟨T2 m,let⟨f,fd,e,kp,b,F⟩:=h;⟨f,fd,e,kp,b,F.imp λj H Q E ⟨F,α,M,ds,o,r,n,q⟩=>⟨F,α,M,ds,o,r,n,i _ _ q⟩⟩⟩
theorem OM{k:Nat}{x:ay}{c:List ay}{g a:GN}(h:ny P w K mg cv k x c (jX K g))(m:jW a)(i:∀ds M Q,a ds M Q->g ds M Q):ie P w K mg cv k x c a:=
 ⟨m,let⟨f,fd,e,kp,b,F⟩:=h;⟨f,fd,e,kp,b,F.imp λj H Q E ⟨F,α,M,ds,o,r,q⟩=>⟨F,α,M,ds,o,r,i _ _ _ q⟩⟩⟩
theorem methP{k:Nat}{C f:ak}{m:ay}{fd:cK}{a:List ay}{g b:GP}(c:Q8 K C)(hm:Meth K C m f)(e:Binds K fd a [])(F:ke P w K mg cv p8 k f fd a (jX K (cl g)))(h:iH b)(i:∀ds Q,b ds Q->g ds Q):iS P w K mg cv k C m (cl b):=
 ⟨T2 h,c,f,fd,a,hm,e,F.imp λj H Q E ⟨F,α,M,ds,o,r,n,q⟩=>⟨F,α,M,ds,o,r,n,i _ _ q⟩⟩
theorem X9{k:Nat}{C f:ak}{fd:cK}{a:List ay}{g b:GN}(hm:Mk K C f)(c:Binds K fd a [])(F:ke P w K mg cv p8 k f fd a (jX K g))(e:jW b)(i:∀ds M Q,b ds M Q->g ds M Q):md P w K mg cv k C b:=
 ⟨e,f,fd,a,hm,c,F.imp λh H Q E ⟨F,α,M,ds,o,r,q⟩=>⟨F,α,M,ds,o,r,i _ _ _ q⟩⟩
end
theorem uQ{i:Nat}{a:T0}(h:Rp (gQ i))(b:Ov a):Ov (hC (gQ i) a):=λd c M P q=>by
 cases d with
 |nil=>exact q.elim
 |cons d r=>
  have:=b r (c.set i (aa d)) M P q;simpa[hC,gQ] using this
theorem Mg{n:Nat}{a:T0}(b:Ov a):Rp (js n a):=aem b
theorem mD{fr:List (Option Nat)}{g:DG}{tt:DT}{c:DE}{st:Ms->Prop}{Q:List D->Ms->Prop}{a:pd}{M:Ms}(f:D->D)(e:st M):∀(xs acc:List D),acc.length+xs.length<=aC->
  (∀x∈xs,∀i:Option D->pd->Ms->Prop,(∀b,CZ fr b=a->i (aa (f x)) b M)->Ey g tt c x a M i)->Q (acc++xs.map f) M->lQ fr g tt c st Q xs acc a M
 |[],acc,_,_,q=>by rw[eR,aR] at q;exact q
 |x::xs,acc,j,h,q=>by unfold lQ;refine h x av _ λb m=>⟨e,by simp at j;omega,?_⟩;rw[m];refine mD f e xs (acc++[f x]) (by simp at j |-;omega) (λy n=>h y (aH _ n)) ?_;rw[bn];exact q
theorem vO{fr:List (Option Nat)}{g:DG}{tt:DT}{b:DE}{st:Ms->Prop}{Q:List D->Ms->Prop}{c:pd}{M:Ms}(f:D->Option D)(i:st M):∀(xs acc:List D),acc.length+xs.length<=aC->
  (∀x∈xs,∀n:Option D->pd->Ms->Prop,(∀a,CZ fr a=c->n (f x) a M)->Ey g tt b x c M n)->Q (acc++xs.filterMap f) M->lQ fr g tt b st Q xs acc c M
 |[],acc,_,_,q=>by rw[List.filterMap_nil,aR] at q;exact q
 |x::xs,acc,j,h,q=>by
  unfold lQ;refine h x av _ λa o=>⟨i,?_⟩;cases e:f x with
  |none=>
   rw[List.filterMap_cons_none e] at q;show lQ fr g tt b st Q xs acc (CZ fr a) M;rw[o];exact vO f i xs acc (by simp at j |-;omega) (λy m=>h y (aH _ m)) q
  |some d=>
   rw[List.filterMap_cons_some e] at q;refine⟨by simp at j;omega,?_⟩;rw[o];refine vO f i xs (acc++[d]) (by simp at j |-;omega) (λy m=>h y (aH _ m)) ?_;rw[bn];exact q
theorem uR{g:DG}{tb:DS}{st:Ms->Prop}{E:nN}(Pv:Nat->pd->Ms->Prop)(f:∀j a M,Pv j a M->st M):∀(xs:List D) (i:Nat) (a:pd) (M:Ms),Pv i a M->
  (∀j x a M,xs[j]?=aa x->Pv (i+j) a M->∀N:pd->Ms->Prop,(∀b c,Pv (i+j+1) b c->N b c)->g x a M λn M1=>tb {E with nx:=N,ct:=N,bk:=E.nx} n M1)->
  (∀a M,Pv (i+xs.length) a M->E.nx a M)->xi g tb st E xs a M
 |[],i,a,M,p,_,e=>e a M p
 |x::xs,i,a,M,p,h,e=>by
  unfold xi;refine h 0 x a M rfl p _ λb c m=>⟨f _ _ _ m,?_⟩;exact uR Pv f xs (i+1) b c m (λj y a M o r N u=>h (j+1) y a M (by simpa using o) (by rw[show i+(j+1)=i+1+j by omega];exact r) N λb c q=>u b c (by rw[show i+1+j+1=i+(j+1)+1 by omega];exact q))
   (λa M p=>e a M (by rw[aU,show i+(xs.length+1)=i+1+xs.length by omega];exact p))
mutual
noncomputable def dv (M:Ms):D->D
 |.non=>.non|.bl b=>.bl b|.int i=>.int i|.str x=>.str x|.ty n=>.ty n|.uI ns=>.uI ns|.cls C=>.cls C
 |.loc k=>vw M (.loc k)
 |.tup ds=>.tup (wT M ds)|.lst ds=>.lst (wT M ds)|.kt a ds=>.kt a (wT M ds)|.ins C ns ds=>.ins C ns (wT M ds)|.exc C ns ds=>.exc C ns (wT M ds)
noncomputable def wT (M:Ms):List D->List D
 |[]=>[]
 |d::ds=>dv M d::wT M ds
end
theorem Uc(M:Ms):∀ds:List D,wT M ds=ds.map (dv M)
 |[]=>rfl
 |d::ds=>by unfold wT;rw[Uc M ds];rfl
mutual
theorem Ya (M:Ms):∀d:D,nl d=ag->dv M d=d
 |.non,_=>rfl|.bl _,_=>rfl|.int _,_=>rfl|.str _,_=>rfl|.ty _,_=>rfl|.uI _,_=>rfl|.cls _,_=>rfl
 |.loc _,h=>by unfold nl at h;cases h
 |.tup ds,h=>by unfold dv;unfold nl at h;rw[Dh M ds h]
 |.lst ds,h=>by unfold dv;unfold nl at h;rw[Dh M ds h]
 |.kt a ds,h=>by unfold dv;unfold nl at h;rw[Dh M ds h]
 |.ins C ns ds,h=>by unfold dv;unfold nl at h;rw[Dh M ds h]
 |.exc C ns ds,h=>by unfold dv;unfold nl at h;rw[Dh M ds h]
theorem Dh (M:Ms):∀ds:List D,l9 ds=ag->wT M ds=ds
 |[],_=>rfl
 |d::ds,h=>by unfold wT;unfold l9 at h;rw[aQ] at h;rw[Ya M d h.1,Dh M ds h.2]
end
theorem Ar(M:Ms)(ds:List D):(wT M ds).length=ds.length:=by rw[Uc,ai]
section
variable {K:bz} {F α:List ak} {H:Hp} {M:Ms}
mutual
theorem aey (o:OK K F α H M):∀(d:D) (v:V),Rep K α (jy F α M H) d v->Rep K α H (dv M d) v
 |.non,v,h=>by unfold dv;unfold Rep at h |-;exact h
 |.bl _,v,h=>by unfold dv;unfold Rep at h |-;exact h
 |.int _,v,h=>by unfold dv;unfold Rep at h |-;exact h
 |.str _,v,h=>by unfold dv;unfold Rep at h |-;exact h
 |.ty _,v,h=>by unfold dv;unfold Rep at h |-;exact h
 |.cls _,v,h=>by unfold dv;unfold Rep at h |-;exact h
 |.uI ns,v,h=>by unfold dv;unfold Rep at h |-;obtain⟨a,r,q⟩:=h;exact⟨a,r,lZ il q⟩
 |.loc k,v,h=>by unfold dv;exact Rep.mono (bd _) il _ _ (Gw o _ _ h)
 |.tup ds,v,h=>by unfold dv;unfold Rep at h |-;obtain⟨a,b,r,q,z⟩:=h;exact⟨a,b,r,nL il q,vP o ds b z⟩
 |.lst ds,v,h=>by unfold dv;unfold Rep at h |-;obtain⟨a,b,r,q,z⟩:=h;exact⟨a,b,r,il _ _ q,vP o ds b z⟩
 |.kt e ds,v,h=>by unfold dv;unfold Rep at h |-;obtain⟨a,b,r,q,l,z⟩:=h;exact⟨a,b,r,L5 il q,by rw[Ar];exact l,vP o ds b z⟩
 |.ins C ns ds,v,h=>by unfold dv;unfold Rep at h |-;obtain⟨a,c,b,r,q,l,z⟩:=h;exact⟨a,c,b,r,il _ _ q,by rw[Ar];exact l,vP o ds b z⟩
 |.exc C ns ds,v,h=>by unfold dv;unfold Rep at h |-;obtain⟨a,b,r,q,l,z⟩:=h;exact⟨a,b,r,il _ _ q,by rw[Ar];exact l,vP o ds b z⟩
theorem vP (o:OK K F α H M):∀(ds:List D) (b:List V),gJ K α (jy F α M H) ds b->gJ K α H (wT M ds) b
 |[],b,h=>by unfold wT;unfold gJ at h |-;exact h
 |d::ds,b,h=>by unfold wT;unfold gJ at h |-;obtain⟨v,r,q,z,y⟩:=h;exact⟨v,r,q,aey o d v z,vP o ds r y⟩
end
end
section
variable {X:Cx}
end
noncomputable def sc:D->Bool
 |.non|.bl _|.int _|.str _|.ty _=>ag
 |_=>ar
def WV (g:GP):GN:=λds M Q=>l9 (wT M ds)=ag/\g (wT M ds) λd=>sc d=ag/\Q d M
theorem Yb{g:GP}(m:iH g):jW (WV g):=λds M P Q w q=>⟨q.1,m _ _ _ (λd q=>⟨q.1,w _ _ q.2⟩) q.2⟩
theorem aez{K:bz}{α β:List ak}{H a:Hp}{d:D}{v:V}(h:sc d=ag)(r:Rep K α H d v):Rep K β a d v:=by cases d<;>first|(cases h;done)|(unfold Rep at r |-;exact r)
theorem Yc{K:bz}{H:Hp}(t:Tb K H):OK K [] [] H []:=⟨rfl,fS,λ_ h=>by simp at h,λ_ h=>by simp at h,λk o h=>by simp at h,t⟩
def ED (H a:Hp):Prop:=∀b o,H b=aa o->zC (aa o)=aa o->a b=aa o
theorem GU{H:Hp}:ED H (kg [] H):=λb o e v=>mB (by simp) e v
theorem RH{K:bz}{H b:Hp}{a:ak}{xs:List V}(e:ED H b)(h:Bb K H a xs):Bb K b a xs:=by
 rcases h with(h|⟨o,h⟩)|h
 .exact .inl (.inl (e _ _ h rfl))
 .exact .inl (.inr ⟨o,e _ _ h rfl⟩)
 .exact .inr h
theorem GV{K:bz}{H b:Hp}{a:ak}{xs:List V}(e:ED H b)(h:p7 K H a xs):p7 K b a xs:=by
 rcases h with(h|⟨o,h⟩)|h
 .exact .inl (.inl (e _ _ h rfl))
 .exact .inl (.inr ⟨o,e _ _ h rfl⟩)
 .exact .inr h
mutual
theorem Rep.Bw {K:bz} {α:List ak} {H c:Hp} (e:ED H c):∀(d:D) (v:V),Rep K α H d v->Rep K α c d v
 |.non,v,h=>by unfold Rep at h |-;exact h
 |.bl _,v,h=>by unfold Rep at h |-;exact h
 |.int _,v,h=>by unfold Rep at h |-;exact h
 |.str _,v,h=>by unfold Rep at h |-;exact h
 |.ty _,v,h=>by unfold Rep at h |-;exact h
 |.tup ds,v,h=>by unfold Rep at h |-;obtain⟨a,b,r,q,z⟩:=h;exact⟨a,b,r,RH e q,gJ.Bw e ds b z⟩
 |.lst ds,v,h=>by unfold Rep at h |-;obtain⟨a,b,r,q,z⟩:=h;exact⟨a,b,r,e _ _ q rfl,gJ.Bw e ds b z⟩
 |.uI ns,v,h=>by unfold Rep at h |-;obtain⟨a,r,q⟩:=h;exact⟨a,r,GV e q⟩
 |.kt g ds,v,h=>by unfold Rep at h |-;obtain⟨a,b,r,q,l,z⟩:=h;exact⟨a,b,r,(by rcases q with q|⟨o,q⟩<;>first|exact .inl (e _ _ q rfl)|exact .inr ⟨o,e _ _ q rfl⟩),l,gJ.Bw e ds b z⟩
 |.ins C ns ds,v,h=>by unfold Rep at h |-;obtain⟨a,f,b,r,q,l,z⟩:=h;exact⟨a,f,b,r,e _ _ q rfl,l,gJ.Bw e ds b z⟩
 |.exc C ns ds,v,h=>by unfold Rep at h |-;obtain⟨a,b,r,q,l,z⟩:=h;exact⟨a,b,r,e _ _ q rfl,l,gJ.Bw e ds b z⟩
 |.loc k,v,h=>by unfold Rep at h |-;exact h
 |.cls _,v,h=>by unfold Rep at h |-;exact h
theorem gJ.Bw {K:bz} {α:List ak} {H c:Hp} (e:ED H c):∀(ds:List D) (b:List V),gJ K α H ds b->gJ K α c ds b
 |[],b,h=>by unfold gJ at h |-;exact h
 |d::ds,b,h=>by unfold gJ at h |-;obtain⟨v,r,q,z,y⟩:=h;exact⟨v,r,q,Rep.Bw e d v z,gJ.Bw e ds r y⟩
end
theorem OK.acS{K:bz}{F α:List ak}{H c:Hp}{M:Ms}(o:OK K F α H M)(s:ED H c)(t:Tb K c):OK K F α c M/\Ext F α H M α c M:=by
 have E4:∀a,zC (H a)≠ao->c a=H a:=λa h=>by
  cases e:H a with
  |none=>exact absurd (by rw[e]) h
  |some x=>
   rw[e] at h;exact s a x e (by cases x<;>first|rfl|exact absurd rfl h)
 have f:∀A,jV (kg A H) (kg A c):=λA b x e=>by obtain⟨i,j,g⟩:=uJ e;exact mB i (s b x j g) g
 refine⟨⟨o.ml,o.nd,λa ha=>⟨(o.fr a ha).1,by rw[E4 a (o.fr a ha).2];exact(o.fr a ha).2⟩,λa ha=>by rw[E4 a (o.al a ha)];exact o.al a ha,λk x h=>?_,t⟩,⟨bd _,f _,λa ha=>E4 a (o.fr a ha).2⟩⟩;obtain⟨a,e,r⟩:=o.own k x h;exact⟨a,e,r.mono (bd _) (f _) (E4 a (o.XM a (oa.mpr ⟨k,x,e,h⟩)))⟩
section
variable {P:ba} {w:bI} {K:bz} {mg:ay->Option ae} {cv:az}
theorem hasB{k:Nat}{x:ay}{c:List ay}{g a:GP}(h:ny P w K mg cv k x c (jX K (cl g)))(m:iH a)(i:∀ds Q,a ds Q->g ds Q):ie P w K mg cv k x c (WV a):=
 ⟨Yb m,let⟨f,fd,j,kp,b,F⟩:=h;⟨f,fd,j,kp,b,F.imp λG H Q E ⟨F,α,M,ds,o,r,n,q⟩=>by
  refine⟨[],[],[],wT M ds,Yc o.tb,?_,n,i _ _ (m _ _ _ (λd q=>?_) q)⟩
  .show gJ K [] (kg ([]++[]) H) _ _;rw[aR];exact gJ.Bw GU _ _ (gJ.nl _ _ n (vP o _ _ r))
  .obtain⟨p,q⟩:=q;intro v I e e' u y;have s:ED H e:=λb z A vb=>by have:=e'.same b z (by show kg ([]++[]) H b=_;rw[aR];exact mB (by simp) A vb);exact il _ _ this
   obtain⟨B,C⟩:=o.acS s u.tb;exact q v α e C B (aez p y)⟩⟩
end
theorem RI{a:List (Key×V)}{k:Key}{v:V}(h:k∉a.map (·.1)):ud a k v=a++[(k,v)]:=by unfold ud;rw[if_neg];intro z;obtain⟨p,b,e⟩:=List.any_eq_true.mp z;exact h (bN.mpr ⟨p,b,of_decide_eq_true e⟩)
theorem GW:∀(more a:List (Key×V)),((a++more).map (·.1)).Nodup->xz a more=a++more
 |[],a,_=>by rw[aR];rfl
 |p::r,a,h=>by
  have b:p.1∉a.map (·.1):=λz=>by rw[aX,cO] at h;exact h.2.2 p.1 z p.1 (by simp) rfl
  show xz (ud a p.1 p.2) r=_;rw[RI b,GW r (a++[(p.1,p.2)]) (by rw[bn];exact h),bn];rfl
def GX:List (DE×DE)->pd->Ms->(List (D×D)->Ms->Prop)->Prop
 |[],_,M,Q=>Q [] M
 | (b,c)::r,a,M,Q=>b a M λk M1=>c a M1 λv M2=>GX r a M2 λe f=>Q ((k,v)::e) f
abbrev pK(K:bz)(F α:List ak)(H:Hp)(M:Ms)(Q:List (V×V)->Hp->Prop):List (D×D)->Ms->Prop:=λf c=>∀e a b,Ext F α H M a b c->OK K F a b c->gJ K a (jy F a c b) (f.map (·.1)) (e.map (·.1))->gJ K a (jy F a c b) (f.map (·.2)) (e.map (·.2))->Q e b
structure JP(X:Cx)(pos:d8)(keys:List (Option bC))(values:List bC)(ts:List (DE×DE)):Prop where
 mono:∀δ M (P Q:List (D×D)->Ms->Prop),(∀ps M,P ps M->Q ps M)->GX ts δ M P->GX ts δ M Q
 p:∃TK,PPs X pos keys values TK/\∀F α δ M σ H Q,R X.K F α H σ δ M->GX ts δ M (pK X.K F α H M Q)->LX TK σ H Q
section
variable {X:Cx} {pos:d8} {k v:bC} {keys:List (Option bC)} {values:List bC} {tk tv:DE} {ts:List (DE×DE)}
theorem Yd:JP X pos [] [] []:=⟨λa M P Q w q=>w _ _ q,[],aaS,λF α a M σ H Q r q=>q [] α H Ext.refl r.ok gJ.nil gJ.nil⟩
theorem vQ(b:JE X k tk)(c:JE X v tv)(e:JP X pos keys values ts):JP X pos (aa k::keys) (v::values) ((tk,tv)::ts):=by obtain⟨T,i,j⟩:=e.p;refine⟨λa M P Q w q=>b.mono a _ _ _ (λ_ M1 q=>c.mono a _ _ _ (λ_ M2 q=>e.mono a _ _ _ (λm n q=>w _ _ q) q) q) q,_,Xt b.p c.p i,λF α a M σ H Q r q=>?_⟩;refine⟨F,α,a,M,r,b.mono a _ _ _ (λU M1 q x o H1 f u z=>⟨F,o,a,M1,r.grow f u,c.mono a _ _ _ (λdv M2 q y A B g C E=>?_) q⟩) q⟩;refine j F A a M2 σ B _ (r.grow (f.trans g) C) (e.mono a _ _ _ (λm n q G I J h L N O=>?_) q);exact q ((x,y)::G) I J ((f.trans g).trans h) L (gJ.cons (h.rep (g.rep z)) N) (gJ.cons (h.rep E) O)
noncomputable def ON:List (D×D)->Option (List Key)
 |[]=>aa []
 | (k,_)::r=>match Oy k,ON r with
  |some k,aa a=>aa (k::a)
  |_,_=>ao
theorem Lb{K:bz}{α:List ak}{H:Hp}:∀(b:List (D×D)) (a:List (V×V)) (c:List Key),ON b=aa c->gJ K α H (b.map (·.1)) (a.map (·.1))->a=(c.zip (a.map (·.2))).map (λg=>(kV g.1,g.2))/\c.length=a.length
 |[],a,c,h,r=>by
  cases h;cases a with
  |nil=>exact⟨rfl,rfl⟩
  |cons p a=>have:=gJ.length _ _ r;simp at this
 | (k,d)::b,a,c,h,r=>by
  cases a with
  |nil=>have:=gJ.length _ _ r;simp at this
  |cons p a=>
   unfold ON at h;rw[aZ,aZ] at r;unfold gJ at r;obtain⟨x,xs,e,i,j⟩:=r;obtain⟨rfl,rfl⟩:=List.cons.inj e;cases f:Oy k with
   |none=>rw[f] at h;cases h
   |some o=>
    cases er:ON b with
    |none=>rw[f,er] at h;cases h
    |some kr=>
     rw[f,er] at h;cases h;obtain⟨m,n⟩:=Lb b a kr er j;have:=uL i f;obtain⟨q,u⟩:=p;subst this;refine⟨?_,by simp[n]⟩;rw[aZ,ce,aZ,<-m]
end
section
variable {X:Cx}
def Jy:G2:=λx y M Q=>match vw M x,vw M y with
 |.tup xs,.tup []=>Q (.bl xs.isEmpty) M
 |.lst xs,.lst []=>Q (.bl xs.isEmpty) M
 |_,_=>False
theorem GY(hu:X.A.units+1<gg):JC X .Eq Jy:=by
 refine⟨λx y M P Q w q=>?_,λcq s σ H x y v u Q I U Y h=>?_⟩
 .unfold Jy at q |-;generalize vw M x=a at q |-;generalize vw M y=b at q |-;match a,b,q with
  |.tup xs,.tup [],q=>exact w _ _ q
  |.lst xs,.lst [],q=>exact w _ _ q
 .obtain⟨F,α,M,da,db,o,ra,rb,h⟩:=h;unfold Jy at h;generalize z:vw M da=a at h;generalize f:vw M db=b at h;match a,b,h,z,f with
  |.tup xs,.tup [],h,z,f=>
   obtain⟨p,vs,rfl,E,G⟩:=om o ra z;obtain⟨m,WT,rfl,g,c⟩:=om o rb f;obtain rfl:v=bH p:=U;obtain rfl:u=bH m:=Y;unfold gJ at c;subst c;obtain⟨ia,J,it,_⟩:=I.tuple E;obtain⟨Jq,i,L,_⟩:=I.tuple g;have N:=gJ.length _ _ G;have O:=Paired.length J;cases i;have B:s.heap.IsTuple p ia.toArray:=it;have C:s.heap.IsTuple m (List.toArray ([]:List ae)):=L;refine PySem.SeqAt.eq_tupleAt (e:=λ_=>ag) B C (by omega) (λj h1 T=>absurd T (by simp)) ⟨.bl _,H,I,rfl,?_⟩;have:((cB (min ia.toArray.size (List.toArray ([]:List ae)).size)).all (λ_=>ag)&&ia.toArray.size==(List.toArray ([]:List ae)).size)=xs.isEmpty:=by have l:xs.length=ia.length:=N.trans O;cases xs<;>cases ia<;>simp at l |-
   rw[this];exact vK.now o h jq
  |.lst xs,.lst [],h,z,f=>
   obtain⟨p,vs,rfl,E,G⟩:=ki o ra z;obtain⟨m,WT,rfl,g,c⟩:=ki o rb f;obtain rfl:v=bH p:=U;obtain rfl:u=bH m:=Y;unfold gJ at c;subst c;obtain⟨_,ia,n,J,e⟩:=I.jo p _ E;obtain⟨_,Jq,n2,i,f⟩:=I.jo m _ g;have N:=gJ.length _ _ G;have O:=Paired.length J;cases i;have B:s.heap.IsList p ia.toArray:=⟨_,e,rfl,n,rfl⟩;have C:s.heap.IsList m (List.toArray ([]:List ae)):=⟨_,f,rfl,n2,rfl⟩;have l:xs.length=ia.length:=N.trans O;cases xs with
   |nil=>
    cases ia with
    |cons b t=>simp at l
    |nil=>exact PySem.SeqAt.eq_listAt (e:=λ_=>ag) B C rfl (by omega) (λj h1 T=>absurd T (by simp)) ⟨.bl ag,H,I,rfl,vK.now o h jq⟩
   |cons a r=>
    cases ia with
    |nil=>simp at l
    |cons b t=>exact PySem.SeqAt.eq_list_lengthsAt B C (by simp) (by omega) ⟨.bl ar,H,I,rfl,vK.now o h jq⟩
end
section
variable {X:Cx} {x:ay} {pos:d8} {a b:bC} {ta tb:DE}
def OO:GM:=λd ds M Q=>match d,ds with
 |.loc k,[y]=>∃es xs,M[k]?=aa (aa (.lst es))/\vw M y=.lst xs/\es.length+xs.length<=aC/\Q .non (M.set k (aa (.lst (es++xs))))
 |_,_=>False
theorem VA:JM X "list.extend" OO:=by
 refine⟨λd ds M P Q w q=>?_,λcq s σ H x xs v us Q I n rs h=>?_⟩
 .match d,ds,q with
  |.loc k,[x],⟨es,xs,c,e,f,q⟩=>exact⟨es,xs,c,e,f,w _ _ q⟩
 .obtain⟨F,α,M,d,ds,ok,r,g,h⟩:=h;match d,ds,h,r,g with
  |.loc k,[y],⟨es,xs,c,e,f,q⟩,r,g=>
   obtain⟨a,i,rfl,o,j,p⟩:=vN ok r c;obtain⟨u,z,A⟩:=qU g;subst z;obtain⟨b,ws,rfl,B,m⟩:=ki ok A e;obtain⟨C,E⟩:=p (es++xs) (i++ws) (gJ.append _ _ _ _ j m);exact Vl cq s σ H _ _ v us Q I n rs ⟨a,b,i,ws,rfl,rfl,o,B,by rw[<-gJ.length _ _ j,<-gJ.length _ _ m];exact f,q _ α _ E C yX⟩
end
section
variable {X:Cx} {tg:bC} {a b c:bC} {tt:DA} {p pos:d8}
end
section
variable {X:Cx} {x:ay} {pos p vy:d8} {e o i:bC} {te to ti tv:DE} {op:fj}
def Ud (i:Nat)(C:Int->Int->Prop)(f:Int->Int->D)(te:DE):DS:=λE c M=>match c[i]? with
 |some (aa (.int a))=>te c M λd M1=>match d with
  |.int b=>C a b/\E.nx (c.set i (aa (f a b))) M1
  |_=>False
 |_=>False
theorem abq{C:Int->Int->Prop}{f:Int->Int->Int}(i:Nat)(n:X.N.Nodup)(g:JE X e te)(y:PIp X op (rI C λa b=>.int (f a b)))(hi:X.N[i]?=aa x:=by rfl)(z:Loc X.env.scope x:=by first|exact ai8 rfl|exact gm rfl)
(A:X.fn x=ag\/X.env.scope.names.lookup x=aa .local:=by first|exact .inl rfl|exact .inr rfl|assumption):JS X (.AugAssign (.Name x p) op e pos) (Ud i C (λa b=>.int (f a b)) te):=by
 refine⟨λP Q c M w q=>?_,PS.weak (adE n hi z g.p y A) λE σ H q=>?_⟩
 .unfold Ud at q |-;split at q
  .refine g.mono c _ _ _ (λd M1 q=>?_) q;cases d<;>first|exact q.elim|exact⟨q.1,w.nx _ _ q.2⟩
  .exact q.elim
 .obtain⟨F,α,c,M,r,q⟩:=q;unfold Ud at q;split at q
  .rename_i a ha;obtain⟨v,B,h⟩:=r.sl i _ ha;unfold Rep at h;subst h;refine⟨.int a,B,F,α,c,M,r,g.mono c _ _ _ (λd M1 q u G H1 j I m=>?_) q⟩;cases d<;>first|exact q.elim|skip
   unfold Rep at m;subst m;exact⟨a,_,rfl,rfl,q.1,q.2 _ G H1 j ((r.grow j I).set iU)⟩
  .exact q.elim
theorem Ye:PIp X .Add (rI (λ_ _=>True) λa b=>.int (a+b)):=λcq s σ H x y v u Q I c f h=>by obtain⟨a,b,g,j,_,q⟩:=h;exact aaH cq s σ H x y v u Q I c f ⟨a,b,g,j,q⟩
theorem aeA:PIp X .Sub (rI (λ_ _=>True) λa b=>.int (a- b)):=λcq s σ H x y v u Q I c f h=>by obtain⟨a,b,g,j,_,q⟩:=h;exact aaI cq s σ H x y v u Q I c f ⟨a,b,g,j,q⟩
noncomputable def qj(k:Key)(d:D)(a:List Key)(ds:List D):List Key×List D:=if a.any (λx=>decide (x=k))=ag then(a,dz (λx y=>if x=k then d else y) a ds) else(a++[k],ds++[d])
theorem Ue{k:Key}:∀(a:List Key) (b:List V),a.length=b.length->((a.zip b).any λc=>decide (c.1=k))=a.any λx=>decide (x=k)
 |[],[],_=>rfl
 |[],_::_,h=>by simp at h
 |_::_,[],h=>by simp at h
 |x::a,v::b,h=>by rw[ce,dg,dg,Ue a b (by simpa using h)]
theorem Uf{k:Key}{v:V}:∀(a:List Key) (b:List V),(a.zip b).map (λc=>if c.1=k then(c.1,v) else c)=a.zip (dz (λx y=>if x=k then v else y) a b)
 |[],_=>rfl
 |_::_,[]=>rfl
 |x::a,y::b=>by rw[ce,aZ,aiu,ce,Uf a b];by_cases e:x=k<;>simp[e]
theorem OP{K:bz}{α:List ak}{H:Hp}{k:Key}{d:D}{v:V}(c:Rep K α H d v):∀(a:List Key) (ds:List D) (b:List V),gJ K α H ds b->gJ K α H (dz (λx y=>if x=k then d else y) a ds) (dz (λx y=>if x=k then v else y) a b)
 |[],ds,b,h=>by show gJ K α H [] [];exact gJ.nil
 |x::a,[],b,h=>by unfold gJ at h;subst h;exact gJ.nil
 |x::a,y::ds,b,h=>by
  unfold gJ at h;obtain⟨u,r,rfl,z,t⟩:=h;rw[aiu,aiu];refine gJ.cons ?_ (OP c a ds r t);by_cases e:x=k
  .rw[if_pos e,if_pos e];exact c
  .rw[if_neg e,if_neg e];exact z
theorem VB{K:bz}{α:List ak}{H:Hp}{k:Key}{d:D}{v:V}(c:Rep K α H d v)(a:List Key)(ds:List D)(b:List V)(h:gJ K α H ds b)(l:a.length=ds.length):
  ∃ws,ud (a.zip b) k v=(qj k d a ds).1.zip ws/\(qj k d a ds).1.length=(qj k d a ds).2.length/\gJ K α H (qj k d a ds).2 ws:=by
 have lv:=gJ.length _ _ h;unfold ud qj;rw[Ue a b (by omega)];by_cases e:(a.any λx=>decide (x=k))=ag
 .rw[if_pos e,if_pos e];refine⟨_,Uf a b,?_,OP c a ds b h⟩;show a.length=(dz _ a ds).length;rw[List.length_zipWith];omega
 .rw[if_neg e,if_neg e];refine⟨b++[v],?_,by simp[l],gJ.append _ _ _ _ h (gJ.one c)⟩;rw[List.zip_append (by omega)];rfl
def OQ (to ti tv:DE):DS:=λE a M=>tv a M λv M1=>to a M1 λo M2=>ti a M2 λk f=>match o with
 |.loc j=>∃b ds c,f[j]?=aa (aa (.kt b ds))/\Oy k=aa c/\b.length<aC/\E.nx a (f.set j (aa (.kt (qj c v b ds).1 (qj c v b ds).2)))
 |_=>False
theorem FC(hu:X.A.units+1<gg)(m:JE X o to)(hi:JE X i ti)(n:JE X e tv)(hs:eL e (aa (.Subscript o i vy)) pos.line X.env=pure ar:=by rfl):JS X (.Assign [.Subscript o i vy] e pos) (OQ to ti tv):=by
 refine⟨λP Q b M w q=>n.mono b _ _ _ (λv M1 q=>m.mono b _ _ _ (λod M2 q=>hi.mono b _ _ _ (λk M3 q=>?_) q) q) q,PS.weak (aaR hu m.p hi.p n.p hs) λE σ H q=>?_⟩
 .cases od<;>first|exact q.elim|skip
  obtain⟨c,ds,f,h,B,C,q⟩:=q;exact⟨c,ds,f,h,B,C,w.nx _ _ q⟩
 .obtain⟨F,α,b,M,r,q⟩:=q;refine⟨F,α,b,M,r,n.mono b _ _ _ (λd M1 q v iF H1 G o1 r1=>⟨F,iF,b,M1,r.grow G o1,m.mono b _ _ _ (λod M2 q u qJ H2 I o2 r2=>⟨F,qJ,b,M2,r.grow (G.trans I) o2,hi.mono b _ _ _ (λk M3 q y Gs H3 J O r3=>?_) q⟩) q⟩) q⟩;cases od<;>first|exact q.elim|skip
  rename_i j q0;obtain⟨c,ds,f,h,B,C,q⟩:=q;have g:=J.rep r2;unfold Rep at g;obtain⟨a,T,rfl⟩:=g;obtain⟨a',U,L,hq,N,Y⟩:=O.own j _ h;rw[T] at U;cases U;have rd:=(I.trans J).rep r1;obtain⟨ws,i1,i2,i3⟩:=VB (k:=f) rd c ds L Y N;cases uL r3 B;have jH:(c.zip L).length<aC:=by rw[dL,<-gJ.length _ _ Y,N,ai5,<-N];exact C
  obtain⟨o4,e4⟩:=O.write (y:=.kt (qj f d c ds).1 (qj f d c ds).2) (z:=.dK (ud (c.zip L) f v)) h T (λHh eh=>by subst eh;exact⟨ws,by rw[ip,i1],i2,i3⟩)
  have ex:=((G.trans I).trans J).trans e4;exact⟨a,_,rfl,Xr.k hq jH,q σ Gs _ ex (r.grow ex o4)⟩
def Ug (K:bz)(f:ay)(to tv:DE):DS:=λE g M=>to g M λo M1=>match o with
 |.loc k=>∃C ns ds a,M1[k]?=aa (aa (.ins C ns ds))/\qg K C f/\Jx f ns ds=aa (.int a)/\tv g M1 λd M2=>∃b c h,d=.int b/\M2[k]?=aa (aa (.ins C c h))/\c.length<1000/\
   E.nx g (M2.set k (aa (.ins C (putN f (.int (a+b)) c h).1 (putN f (.int (a+b)) c h).2)))
 |_=>False
theorem VC{f:ay}(J:JE X o to)(L:JE X e tv):JS X (.AugAssign (.Attribute o f vy) .Add e pos) (Ug X.K f to tv):=by
 refine⟨λP Q c M w q=>J.mono c _ _ _ (λod M1 q=>?_) q,PS.weak (Vi J.p L.p adQ) λE σ H q=>?_⟩
 .cases od<;>first|exact q.elim|skip
  obtain⟨C,ns,ds,a,N,G,O,q⟩:=q;refine⟨C,ns,ds,a,N,G,O,L.mono c _ _ _ (λd M2 q=>?_) q⟩;obtain⟨b,g,j,I,m,T,q⟩:=q;exact⟨b,g,j,I,m,T,w.nx _ _ q⟩
 .obtain⟨F,α,c,M,r,q⟩:=q;refine⟨F,α,c,M,r,J.mono c _ _ _ (λod M1 q u iF H1 I o1 r1=>?_) q⟩;cases od<;>first|exact q.elim|skip
  rename_i k;obtain⟨C,ns,ds,a,N,G,O,q⟩:=q;have n:=r1;unfold Rep at n;obtain⟨p1,U,rfl⟩:=n;obtain⟨p1',yV,dx,vs,hq,hl,rr⟩:=o1.own k _ N;rw[U] at yV;cases yV;obtain⟨v,Y,rv⟩:=(xK ns ds vs rr hl).1 _ O;unfold Rep at rv;subst rv;refine⟨p1,C,dx,_,.int a,rfl,hq,G.cl,G.na,Y,F,iF,c,M1,r.grow I o1,L.mono c _ _ _ (λd M2 q y qJ H2 m o2 r2=>?_) q⟩;obtain⟨b,g,j,rfl,g2,g3,q⟩:=q;unfold Rep at r2;subst r2;refine⟨a,b,rfl,rfl,?_⟩;obtain⟨p2,eb,h,Ui,hq',A,B⟩:=o2.own k _ g2;rw[yW m.pre U] at eb;cases eb;obtain⟨ws,i1,i2,i3⟩:=GR (f:=f) (iU (i:=a+b)) g j Ui B A;have jH:(g.zip Ui).length<1000:=by rw[dL,<-gJ.length _ _ B,A];omega
  obtain⟨o3,T⟩:=o2.write (y:=.ins C (putN f (.int (a+b)) g j).1 (putN f (.int (a+b)) g j).2) (z:=.ins C h (sY f (.int (a+b)) (g.zip Ui))) g2 (yW m.pre U) (λHh eh=>by subst eh;exact⟨h,ws,by rw[ip,i1],i2,i3⟩)
  have ex:=(I.trans m).trans T;exact⟨h,_,hq',jH,q σ qJ _ ex (r.grow ex o3)⟩
end
section
variable {X:Cx} {x:ay} {pos p vy:d8} {e o i:bC} {te to ti tv:DE} {op:fj}
theorem Yf:afL X (af4 X.K):=by
 intro cq s σ H x y v u Q I m n h;obtain⟨p,xs,i,z,rfl,rfl,A,B,q⟩:=h;cases m;obtain⟨t,rfl⟩:=n;obtain⟨ia,r,pl,M⟩:=I.list A;obtain⟨j,a,C,N,E,G⟩:=Fx B;obtain⟨w,c,J⟩:=r.get C;have L:=r.length;have hn:=Aj;have f:EP X cq σ Q w s:=⟨z,H,I,J,q⟩;by_cases g:0<=i
 .have b:i.toNat=j:=by rw[ajK g G] at a;exact bD a
  exact wpAny_getItem_list pl.isList g (by omega) (by rw[b];simpa using c) f
 .have b:(i+(ia.toArray.size:Int)).toNat=j:=by rw[seqIndex_neg (by omega) E] at a;rw[aD,<-L];exact bD a
  exact akh pl.isList (by omega) (by rw[aD]<;>omega) (by omega) (by rw[b];simpa using c) f
def Yg (f:Int->Int->D)(to ti te:DE):DS:=λE c M=>to c M λo M1=>ti c M1 λi M2=>match o with
 |.loc k=>match M2[k]?,i with
  |some (aa (.lst ds)),.int j=>∃a,vE ds j=aa (.int a)/\te c M2 λd g=>match g[k]? with
   |some (aa (.lst h))=>∃b n,d=.int b/\QU h.length j=aa n/\E.nx c (g.set k (aa (.lst (h.set n (f a b)))))
   |_=>False
  |_,_=>False
 |_=>False
theorem Uj{f:Int->Int->Int}(v:JE X o to)(hi:JE X i ti)(A:JE X e te)(hp:PIp X op (rI (λ_ _=>True) λa b=>.int (f a b)))
(ha:∀h m new,augStore i h m new=(do holding [new,h,m] (ajP h m new);release [new,h,m] [];pure .next):=by intros;rfl):
  JS X (.AugAssign (.Subscript o i vy) op e pos) (Yg (λa b=>.int (f a b)) to ti te):=by
 refine⟨λP Q c M w q=>v.mono c _ _ _ (λod M1 q=>hi.mono c _ _ _ (λj M2 q=>?_) q) q,PS.weak (aaD v.p hi.p Yf A.p hp Oi ha) λE σ H q=>?_⟩
 .cases od<;>first|exact q.elim|skip
  simp only at q |-;split at q
  .obtain⟨a,B,q⟩:=q;refine⟨a,B,A.mono c _ _ _ (λd M3 q=>?_) q⟩;split at q
   .obtain⟨b,n,h2,C,q⟩:=q;exact⟨b,n,h2,C,w.nx _ _ q⟩
   .exact q.elim
  .exact q.elim
 .obtain⟨F,α,c,M,r,q⟩:=q;refine⟨F,α,c,M,r,v.mono c _ _ _ (λod M1 q u iF H1 G o1 r1=>⟨F,iF,c,M1,r.grow G o1,hi.mono c _ _ _ (λj M2 q w qJ H2 I T U=>?_) q⟩) q⟩;cases od<;>first|exact q.elim|skip
  rename_i k;simp only at q;split at q
  .rename_i ds j hk;obtain⟨a,B,q⟩:=q;unfold Rep at U;subst U;have Y:=I.rep r1;obtain⟨pa,vs,rfl,hH,rr,wr⟩:=vN T Y hk;obtain⟨z,ez,rz⟩:=rr.at B;unfold Rep at rz;subst rz;refine⟨pa,vs,j,.int a,rfl,rfl,p7.of hH,ez,F,qJ,c,M2,r.grow (G.trans I) T,A.mono c _ _ _ (λd M3 q y Gs H3 e3 o3 r3=>?_) q⟩;split at q
   .rename_i Uh J;obtain⟨b,n,rfl,C,q⟩:=q;unfold Rep at r3;subst r3;obtain⟨pa',Ui,L,N,g,O⟩:=vN o3 (e3.rep Y) J;cases L;obtain⟨o4,e4⟩:=O (Uh.set n (.int (f a b))) (Ui.set n (.int (f a b))) (gJ.set iU n _ _ g);have ex:=((G.trans I).trans e3).trans e4;exact⟨a,b,rfl,rfl,trivial,pa,Ui,j,n,rfl,rfl,N,by rw[<-gJ.length _ _ g];exact C,q σ Gs _ ex (r.grow ex o4)⟩
   .exact q.elim
  .exact q.elim
end
noncomputable def xr(a b:ay):Bool:=!decide (b.cps.toList<a.cps.toList)
theorem abr{a b:ay}(h:a.cps.toList=b.cps.toList):a=b:=by cases a;cases b;congr 1;exact Array.toList_inj.mp h
theorem Yh{a b:ay}(h:xr a b=ag)(g:xr b a=ag):a=b:=by unfold xr at h g;simp only [eT,decide_eq_false_iff_not] at h g;exact abr (List.le_antisymm (ajh.mp h) (ajh.mp g))
theorem VD(a b:ay):xr a b=ag\/xr b a=ag:=by
 unfold xr;simp only [eT,decide_eq_false_iff_not];by_cases h:b.cps.toList<a.cps.toList
 .right;exactλg=>List.lt_irrefl _ (List.lt_trans h g)
 .left;exact h
theorem Lc{a b c:ay}(h:xr a b=ag)(g:xr b c=ag):xr a c=ag:=by unfold xr at*;simp only [eT,decide_eq_false_iff_not] at*;exact ajh.mpr (List.le_trans (ajh.mp h) (ajh.mp g))
section
variable {β:Type}
noncomputable def xL(key:β->ay)(x:β):List β->List β
 |[]=>[x]
 |y::r=>if xr (key x) (key y)=ag then x::y::r else y::xL key x r
noncomputable def Uk(key:β->ay):List β->List β
 |[]=>[]
 |x::r=>xL key x (Uk key r)
theorem Di(key:β->ay)(x:β):∀l:List β,(xL key x l).Perm (x::l)
 |[]=>fC _
 |y::r=>by
  unfold xL;split
  .exact fC _
  .exact((Di key x r).cons y).trans (gp.swap x y r)
theorem xM(key:β->ay):∀l:List β,(Uk key l).Perm l
 |[]=>fC _
 |x::r=>(Di key x _).trans ((xM key r).cons x)
theorem EE(key:β->ay)(x:β):∀l:List β,l.Pairwise (λa b=>xr (key a) (key b)=ag)->(xL key x l).Pairwise (λa b=>xr (key a) (key b)=ag)
 |[],_=>by simp[xL]
 |y::r,h=>by
  unfold xL;have f:=c6.mp h;split
  .rename_i e;refine c6.mpr ⟨λz c=>?_,h⟩;rcases aO.mp c with rfl|c
   .exact e
   .exact Lc e (f.1 z c)
  .rename_i e;refine c6.mpr ⟨λz c=>?_,EE key x r f.2⟩;rcases aO.mp ((Di key x r).mem_iff.mp c) with rfl|c
   .rcases VD (key y) (key z) with g|g
    .exact g
    .exact absurd g e
   .exact f.1 z c
theorem GZ(key:β->ay):∀l:List β,(Uk key l).Pairwise (λa b=>xr (key a) (key b)=ag)
 |[]=>ai4
 |x::r=>EE key x _ (GZ key r)
theorem G0{key:β->ay}:∀{l m:List β},l.Perm m->l.Pairwise (λa b=>xr (key a) (key b)=ag)->m.Pairwise (λa b=>xr (key a) (key b)=ag)->(∀a∈l,∀b∈l,key a=key b->a=b)->l=m
 |[],m,p,_,_,_=>(List.nil_perm.mp p).symm
 |x::l,m,p,h,g,i=>by
  cases m with
  |nil=>exact absurd p (by simp)
  |cons y m=>
   have j:=c6.mp h;have n:=c6.mp g;have e:x=y:=by
    have q:x∈y::m:=p.mem_iff.mp av;have o:y∈x::l:=p.mem_iff.mpr av;rcases aO.mp q with e|c
    .exact e
    .rcases aO.mp o with e|f
     .exact e.symm
     .exact i x av y o (Yh (j.1 y f) (n.1 x c))
   subst e;rw[G0 p.cons_inv j.2 n.2 λa ha b r=>i a (aH _ ha) b (aH _ r)]
theorem Mh{key:β->ay}{l m:List β}(p:l.Perm m)(h:l.Pairwise (λa b=>xr (key a) (key b)=ag))(i:∀a∈m,∀b∈m,key a=key b->a=b):l=Uk key m:=
 G0 (p.trans (xM key m).symm) h (GZ key m) λa ha b c=>i a (p.mem_iff.mp ha) b (p.mem_iff.mp c)
end
noncomputable def zS:List ay->List ay:=Uk id
theorem G1:∀(p:ay) (l:List ay),risingS p l=ag->(p::l).Pairwise (λa b=>xr a b=ag)
 |p,[],_=>by simp
 |p,x::r,h=>by
  have h:(!ltCps x.cps.toList p.cps.toList&&risingS x r)=ag:=h;rw[aQ] at h;have e:=G1 x r h.2;have f:xr p x=ag:=by have:=h.1;rw[ltCps_eq] at this;exact this
  refine c6.mpr ⟨λz c=>?_,e⟩;rcases aO.mp c with rfl|c
  .exact f
  .exact Lc f ((c6.mp e).1 z c)
theorem RJ:∀(l:List ay),akj l=ag->l.Pairwise (λa b=>xr a b=ag)
 |[],_=>ai4
 |x::r,h=>G1 x r h
theorem VE{l m:List ay}(p:l.Perm m)(h:akj l=ag):l=zS m:=Mh (key:=id) p (RJ l h) λ_ _ _ _ e=>e
end L3
namespace L2
section
variable {prog:ba} {w:bI} {A:bv} {E:ae->aq->Prop} {s:aq}
theorem G3{x:ae}{C:List ae->Prop}{Q:ae->aq->Prop}
(v:∀R:List ae->aq->Prop,(∀(g:az) (i:Nat) (acc:List ae),(∀b o,s.heap.get? b=aa o->g.get? b=aa o)->C acc->R acc {s with heap:=g,toks:=i})->wpAny (model prog w) A.in1 (collect x) R E s)
(y:∀acc,C acc->acc.length<64/\∃ss,c8 acc ss)
(h:∀(c g:az) (p:ak) (i e:Nat) (acc:List ae) (out:List ae) (ss a:List ay),C acc->c8 acc ss->(∀b o,s.heap.get? b=aa o->c.get? b=aa o)->(∀b o,c.get? b=aa o->g.get? b=aa o)->c.objs.size<=p->
   g.get? p=aa {cls:=.type "list",data:=.seq out.toArray e}->c8 out a->a.Perm ss->akj a=ag->Q (.ref p) {s with heap:=g,toks:=i}):
  wpAny (model prog w) A (call (.builtin "sorted") [x]) Q E s:=by
 refine Calls.call_function_entry aku akk akl (args_sorted1 _) ?_;unfold bE.«sorted»;refine ah (m:=akC "sorted" 1 1 _) (aw ?_);refine ah (v _ λc i acc z q=>?_);obtain⟨B,ss,j⟩:=y acc q;refine ah (ai6 ?_ (by rw[b9];omega));have f:(c.push (ci "list" acc.toArray 0)).get? c.objs.size=aa (ci "list" acc.toArray 0):=aP _ rfl;refine ah (bR (cM ajX ⟨_,f,rfl⟩ ajO (list_sort_treeK (κ:=strKind) aj4 f j.keysOf (λM N rest e=>akm (by rw[<-e];exact j)) B λr a1 a2=>⟨_,rfl,?_⟩) (ak5 _)));obtain⟨a,G,H,I⟩:=sorted_out_str j a1 a2;obtain⟨e,J⟩:=alf (vs:=acc) (out:=(eX r).map (·.2)) f;refine aw ⟨_,rfl,h c _ c.objs.size i e acc ((eX r).map (·.2)).toList ss a q j z (λb o u=>?_) (aM _) (by rw[Array.toArray_toList];exact J) G H I⟩;have lt:=aN u;have n:b<(c.push (ci "list" acc.toArray 0)).objs.size:=by rw[ajY];exact cU lt
 exact(ak6 (bf lt) n).trans (aj _ u)
end
section
variable {prog:ba} {w:bI} {A:bv} {E:ae->aq->Prop} {s:aq} {qk:Array Keyed} {κ:PyProof.Rows.KeyKind}
theorem Ld:∀f n r:Nat,r<=1->minRun' f n r<=n+r
 |0,n,r,_=>aM _
 |f+1,n,r,h=>by
  rw[minRun'_succ];by_cases hn:n<64
  .rw[if_pos hn];exact aM _
  .rw[if_neg hn];have:=Ld f (n/2) (max r (n%2)) (by omega);omega
theorem VG{st:ajJ}{Q:Option Nat->ajJ->Prop}(g:κ.OneLt)(h:KeysOf κ qk)(m:SBase qk st)(o:1<=qk.size)(up:ajc κ (eX st) qk.size)(q:Q (aa qk.size) st):wpS (model prog w) A E s (countRun' 0 qk.size) Q st:=by
 rw[countRun0_eq];refine ajd (wpS_ascLoopK g h (aM _) (aM 1) o m (λi j a b=>up i j a (by omega)) λn r u _ c=>?_);have e:n=qk.size:=by
  by_cases e:n=qk.size
  .exact e
  .have p:κ.blt (KK κ (eX st) n) (KK κ (eX st) (n- 1))=ag:=c.resolve_left e;have f:κ.blt (KK κ (eX st) n) (KK κ (eX st) (n- 1))=ar:=up (n- 1) n (by omega) (by omega);rw[p] at f;cases f
 subst e;dsimp only;rw[if_pos (by simp)];exact ajZ q
theorem Yi{st:ajJ}{Q:Unit->ajJ->Prop}(e:κ.OneLt)(g:KeysOf κ qk)(a:SBase qk st)(h:1<=qk.size)(up:ajc κ (eX st) qk.size)
(q:∀b,eX b=eX st->akv b=ao->Q () b):wpS (model prog w) A E s sortRuns' Q st:=by
 have p:=Ld qk.size qk.size 0 (bi _);have sz:=a.size;have j:=q (ajz st ((f9 st).push (0,qk.size,0))) rfl a.failed;have m:(f9 st).push (0,qk.size,0)=#[(0,qk.size,0)]:=by rw[a.pend];rfl
 rw[sortRuns'_eq];refine ajd (wpS_get ?_);dsimp only;rw[sz];refine ajd (wpS_mono (wpS_forRange (I:=λi c t=>(i=0/\c=(ao,0)/\t=st)\/(1<=i/\c=(ao,qk.size)/\t=ajz st ((f9 st).push (0,qk.size,0)))) (Q:=λc t=>c=(ao,qk.size)/\t=ajz st ((f9 st).push (0,qk.size,0))) ?s ?f (.inl ⟨rfl,rfl,rfl⟩)) ?r);case f=>
  rintro c t (⟨z,_⟩|⟨_,n,o⟩)
  .omega
  .exact⟨n,o⟩
 case s=>
  rintro i c t _ _ (⟨rfl,rfl,rfl⟩|⟨_,rfl,rfl⟩)
  .dsimp only;rw[if_neg (by omega),Nat.sub_zero];refine ajd (VG e g a h up ?_);dsimp only;rw[if_neg (by omega)];refine ajd (wpS_get ?_);rw[show(f9 t).back?=ao by rw[a.pend];rfl];dsimp only;refine ajd (wpS_modify (ajZ (.inr ⟨aM 1,?_,rfl⟩)));rw[bt]
  .dsimp only;rw[if_pos (aM _)];exact ajZ ⟨rfl,rfl⟩
 case r=>
  rintro c t ⟨rfl,rfl⟩
  dsimp only;refine ajd (wpS_mono (wpS_forRange (I:=λ_ c t=>c=(ao,())/\t=ajz st ((f9 st).push (0,qk.size,0))) (Q:=λc t=>c=(ao,())/\t=ajz st ((f9 st).push (0,qk.size,0))) ?_ (λ_ _ z=>z) ⟨rfl,rfl⟩) ?_)
  .rintro i c t _ _ ⟨rfl,rfl⟩
   refine ajd (wpS_get ?_);rw[if_pos (by show((f9 st).push (0,qk.size,0)).size<=1;rw[m];exact aM 1)];exact ajZ ⟨rfl,rfl⟩
  .rintro c t ⟨rfl,rfl⟩
   exact ajZ j
theorem Yj{a:ak}{b:List ae}{ss:List ay}{n:Nat}{P:PySem.Fin->aq->Prop}(f:s.heap.get? a=aa (ci "list" b.toArray n))(j:c8 b ss)(p:2<=b.length)(H:b.length<=1000)
(up:ajc strKind (eO b) (eO b).size)(h:P (.done (.ret .none)) {s with heap:=sortedHeap s.heap a b ((eO b).map (·.2))}):
  wpAny (model prog w) A (bE.«list.sort» ⟨[.ref a],[]⟩) P E s:=by
 have ha:=aN f;have g:=ajm f (λ_=>#[]);generalize i:s.heap.update a (bX λ_=>#[])=q at g;have u:q.objs.size=s.heap.objs.size:=by rw[<-i,gq]
 have m:((q.push (ci "tuple" b.toArray 0)).push (ci "list" #[] 0)).get? a=aa _:=aj _ (aj _ g);have big:¬b.toArray.size<2:=by simp;omega
 rw[list_sort_plain];refine ah (akn f rfl (ah (fO f rfl ?_)));rw[i];refine ah (ajM (s:={s with heap:=q}) g rfl (ah (ajW (ah (ai6 (bR ?_))))));dsimp only;rw[if_neg big,if_neg big];obtain⟨c,e,r,rfl⟩:∃c e r,b=c::e::r:=by
  match b,p with
  |c::e::r,_=>exact⟨c,e,r,rfl⟩
 rw[akm j];refine ah (aw ?_);refine ah (cw (Yi (κ:=strKind) aj4 (qk:=eO (c::e::r)) (st:=ajJ.mk' ak7 (eO (c::e::r)) #[] 7 ao) (Q:=λ_ t=>eX t=eO (c::e::r)/\akv t=ao) j.keysOf ⟨Array.Perm.refl _,rfl,rfl,rfl⟩ (by rw[ajF];omega) up λt v y=>⟨v,y⟩) ?_ λ_ _ z=>z)
 rintro⟨⟨⟩,t⟩ I ⟨rfl,B,C⟩
 dsimp only;rw[B,C];have G:(Array.map (λx:Keyed=>x.2) (eO (c::e::r))).size<=aC:=by rw[Array.size_map,ajF,b9];omega
 unfold sortedHeap at h;rw[i] at h;refine ah (ajM m rfl (ah (fO m rfl ?_ (hsz2:=Nat.le_succ_of_le G))));rw[bne_self_eq_false,if_neg ax];exact aw h
theorem VH{x:ae}{C:List ae->Prop}{Q:ae->aq->Prop}{ss:List ay}
(N:∀R:List ae->aq->Prop,(∀(g:az) (n:Nat) (acc:List ae),(∀b o,s.heap.get? b=aa o->g.get? b=aa o)->C acc->R acc {s with heap:=g,toks:=n})->wpAny (model prog w) A.in1 (collect x) R E s)
(O:∀acc,C acc->c8 acc ss)(l2:2<=ss.length)(lz:ss.length<=1000)(up:ss.Pairwise λa b=>L3.xr a b=ag)
(h:∀(c g:az) (p:ak) (n e:Nat) (acc:List ae),C acc->(∀b o,s.heap.get? b=aa o->c.get? b=aa o)->(∀b o,c.get? b=aa o->g.get? b=aa o)->c.objs.size<=p->
   g.get? p=aa {cls:=.type "list",data:=.seq acc.toArray e}->Q (.ref p) {s with heap:=g,toks:=n}):
  wpAny (model prog w) A (call (.builtin "sorted") [x]) Q E s:=by
 refine Calls.call_function_entry aku akk akl (args_sorted1 _) ?_;unfold bE.«sorted»;refine ah (m:=akC "sorted" 1 1 _) (aw (ah (N _ λc n acc T G=>?_)));have r:=O acc G;have hl:=r.length;refine ah (ai6 ?_ (by rw[b9];omega));have f:(c.push (ci "list" acc.toArray 0)).get? c.objs.size=aa (ci "list" acc.toArray 0):=aP _ rfl;have v:ajc strKind (eO acc) (eO acc).size:=λi j U H=>by
  rw[ajF] at H;have at_:∀i,i<acc.length->∃(y:ay),ss[i]?=aa y/\KK strKind (eO acc) i=y.cps.toList:=λi hi=>by
   obtain⟨y,t,I⟩:=r.all acc[i] (fb hi);refine⟨y,?_,KK_str (t:=t) (q:=acc[i]) (by rw[ajF];exact hi) ?_⟩
   .rw[<-r.strs,aS,aJ hi,I];rfl
   .unfold eO;rw[Array.getElem_zip];refine Prod.ext ?_ ?_
    .simpa using I
    .simp
  obtain⟨y,B,Y⟩:=at_ i (by omega);obtain⟨z,u,kz⟩:=at_ j H;show decide (KK strKind (eO acc) j<KK strKind (eO acc) i)=ar;rw[Y,kz];by_cases e:i=j
  .subst e;rw[B] at u;cases u;simpa using List.lt_irrefl _
  .have J:j<ss.length:=by omega
   have L:i<ss.length:=by omega
   have:=eF.mp up i j L J (by omega);rw[aJ L] at B;rw[aJ J] at u;cases B;cases u;unfold L3.xr at this;simpa using this
 refine ah (bR (cM ajX ⟨_,f,rfl⟩ ajO (Yj f r (by omega) (by omega) v ⟨_,rfl,?_⟩) (ak5 _)));obtain⟨e,he⟩:=alf (vs:=acc) (out:=(eO acc).map (·.2)) f;have em:(eO acc).map (·.2)=acc.toArray:=by apply Array.ext';rw[Array.toList_map,pairsOf_toList,gu (aM _)]
 refine aw ⟨_,rfl,h c _ c.objs.size n e acc G T (λb o M=>?_) (aM _) (he.trans (by rw[em]))⟩;have lt:=aN M;exact(ak6 (bf lt) (by rw[ajY];exact cU lt)).trans (aj _ M)
end
def OR (ss:List ay):Prop:=ss.length<64\/(2<=ss.length/\ss.length<=1000/\ss.Pairwise λa b=>L3.xr a b=ag)
theorem OR.l{ss:List ay}(h:OR ss):ss.length<=1000:=by rcases h with h|h<;>omega
theorem VI{ss:List ay}(h:ss.Pairwise λa b=>L3.xr a b=ag):akj ss=ag:=by refine sortedS_of_pairwise ss (h.imp λ{a b} z=>?_);rw[ltCps_eq];unfold L3.xr at z;simpa using z
section
variable {X:Cx}
theorem Le:∀{a:List ae} {ss:List ay},c8 a ss->Vals (ss.map V.str) a
 |_,_,.nil=>.nil
 |_,_,.cons x t h=>.cons ⟨t,rfl⟩ (Le h)
theorem Dj:∀{ss:List ay} {a:List ae},Vals (ss.map V.str) a->c8 a ss
 |[],_,h=>by cases h;exact .nil
 |x::ss,_,h=>by
  cases h with
  |cons r t=>obtain⟨u,rfl⟩:=r;exact .cons x u (Dj t)
theorem As{cq:List (ak×cm)}{s:aq}{σ:L2.St}{H:Hp}{Q:VK}{a:List ay}(I:Inv X cq σ H s)(z:a.length<=1000)(q:∀l,H l=ao->Q (.ref l) (upd H l (.lst ((L3.zS a).map V.str)))){f g:az}{p:ak}{h e:Nat}{out:List ae}{c:List ay}
(m:∀b o,s.heap.get? b=aa o->f.get? b=aa o)(n:∀b o,f.get? b=aa o->g.get? b=aa o)(i:f.objs.size<=p)(r:g.get? p=aa {cls:=.type "list",data:=.seq out.toArray e})(u:c8 out c)(pm:c.Perm a)(sd:akj c=ag):
  EP X cq σ Q (.ref p) {s with heap:=g,toks:=h}:=by
 have v:c=L3.zS a:=L3.VE pm sd;subst v;have j:Inv X cq σ H {s with heap:=f,toks:=h}:=I.kept (t':=h) m;have y:((L3.zS a).map V.str).length<=aC:=by rw[ai,pm.length_eq,b9];omega
 exact⟨.ref p,_,j.laid (t':=h) n i (show jK X.prog X.w _ g _ (.lst _) from⟨y,out,e,Le u,r⟩),rfl,q p (j.jo.fresh i)⟩
theorem Ml:pr X (.builtin "sorted") (λxs H Q=>∃p ss,xs=[.ref p]/\p7 X.K H p (ss.map V.str)/\ss.length<64/\∀l,H l=ao->Q (.ref l) (upd H l (.lst ((L3.zS ss).map V.str)))):=by
 intro cq s σ H xs us Q I r h;obtain⟨p,ss,rfl,f,z,q⟩:=h;obtain⟨u,rfl,g⟩:=vals1 r;cases g;obtain⟨ia,a,pl,_⟩:=I.list f;have c:=Dj a;have i:=a.length;rw[ai] at i;refine G3 (C:=λacc=>acc=ia) (λR h=>collect_list pl.isList ?_ (by rw[b9];omega)) (λacc e=>⟨by rw[e];omega,ss,by rw[e];exact c⟩) (λA B p E e acc out s1 s2 j sa m n v w x pm sd=>?_)
 .refine h _ s.toks ia (λb o q=>?_) rfl;have lt:=aN q;rw[az.get?_update_ne _ _ _ _ (bf lt),aj _ q]
 .subst j;have y:s1=ss:=by rw[<-sa.strs,c.strs]
  subst y;exact As I (by omega) q m n v w x pm sd
theorem aeB{P:ba}{w:bI}{x:ay}{v:ae}(h:(i9 P w).is (.inr x) v=ag):∃t,v=.str x t:=by
 rw[Q0] at h;have h:f7 x v=ag:=h;cases v<;>first|(simp[f7] at h;done)|skip
 simp[f7] at h;subst h;exact⟨_,rfl⟩
theorem Lf{P:ba}{w:bI}:∀{b:List ae} {a:List (Key×ae)} {ss:List ay},a.map (·.1)=ss.map de->b.length=a.length->(∀(i:Nat) (v:ae),b[i]?=aa v->∃k x,a[i]?=aa (k,x)/\(i9 P w).is k v=ag)->c8 b ss
 |[],a,ss,e,l,h=>by
  cases a with
  |nil=>
   cases ss with
   |nil=>exact .nil
   |cons _ _=>simp at e
  |cons _ _=>simp at l
 |v::b,[],ss,e,l,h=>by simp at l
 |v::b,(k,x)::a,[],e,l,h=>by simp at e
 |v::b,(k,x)::a,y::ss,e,l,h=>by simp only [aZ,List.cons.injEq] at e;obtain⟨c,f⟩:=e;subst c;obtain⟨k',n,g,j⟩:=h 0 v rfl;cases g;obtain⟨t,rfl⟩:=aeB j;exact .cons y t (Lf f (by simpa using l) λi u m=>h (i+1) u (by simpa using m))
theorem Mm(U:X.A.handled=ao):pr X (.builtin "sorted") (λxs H Q=>∃p y ss,xs=[.ref p]/\Rd H p (.dK y)/\y.map (·.1)=ss.map de/\OR ss/\∀l,H l=ao->Q (.ref l) (upd H l (.lst ((L3.zS ss).map V.str)))):=by
 intro cq s σ H xs us Q I r h;obtain⟨p,y,ss,rfl,L,M,B,q⟩:=h;obtain⟨u,rfl,Y⟩:=vals1 r;cases Y;obtain⟨z,hd,a,rel,dd⟩:=Es I.jo L;obtain⟨N,O⟩:=dd.dictAt;have j:a.map (·.1)=ss.map de:=by
  rw[<-M];clear M dd O L;induction rel with
  |nil=>rfl
  |cons r t ih=>rw[aZ,aZ,r.1,ih (by simp at z;omega)]
 have hvl:a.length=ss.length:=by have:=congrArg fw j;simpa using this
 have key:∀acc:List ae,(∃c:Array ae,acc=c.toList/\ItemsOf (λi v=>∃k x,a[i]?=aa (k,x)/\(i9 X.prog X.w).is k v=ag) c a.length)->c8 acc ss:=by
  rintro acc ⟨c,rfl,i1,i2⟩
  exact Lf j (by rw[cx];exact i1) λi v hv=>i2 i v (by rw[<-cZ];exact hv)
 have m:=B.l;have cl:∀R:List ae->aq->Prop,(∀(f:az) (n:Nat) (acc:List ae),(∀b o,s.heap.get? b=aa o->f.get? b=aa o)->(∃c:Array ae,acc=c.toList/\ItemsOf (λi v=>∃k x,a[i]?=aa (k,x)/\(i9 X.prog X.w).is k v=ag) c a.length)->R acc {s with heap:=f,toks:=n})->wpAny (model X.prog X.w) X.A.in1 (collect (.ref p)) R X.xe s:=
  λR h=>W.kdu_collect (A:=X.A.in1) (W.kdl_dict (knd:=i9 X.prog X.w) (kvs:=a) (ep:=N) hd) U O (by rw[b9];omega) λf n acc k i=>h f n acc.toList k ⟨acc,rfl,i⟩
 rcases B with B|⟨g1,g2,T⟩
 .refine G3 cl (λacc g=>⟨?_,ss,key acc g⟩) (λh1 f p n e acc out s1 s2 g sa C E G J ho pm sd=>?_)
  .rw[(key acc g).length];omega
  .have e2:s1=ss:=by rw[<-sa.strs,(key acc g).strs]
   subst e2;exact As I m q C E G J ho pm sd
 .exact VH cl key g1 g2 T λh1 f p n e acc g C E G J=>As I m q C E G J (key acc g) (fC _) (VI T)
end
end L2
namespace L3
open L2
section
variable {X:Cx}
def abt:D->(List ay->Prop)->Prop
 |.lst xs,C=>∃ss:List ay,xs=ss.map D.str/\ss.length<64/\C ss
 |.kt a _,C=>∃ss:List ay,a=ss.map de/\OR ss/\C ss
 |_,_=>False
theorem VL{d:D}{C a:List ay->Prop}(w:∀ss,C ss->a ss)(h:abt d C):abt d a:=by cases d<;>first|exact h.elim|(obtain⟨ss,b,c,e⟩:=h;exact⟨ss,b,c,w _ e⟩)
def OS:GF:=λds M Q=>match ds with
 |[d]=>abt (vw M d) λss=>Q (.lst ((zS ss).map .str)) M
 |_=>False
theorem Dk{K:bz}{α:List ak}{H:Hp}:∀{ss:List ay} {a:List V},gJ K α H (ss.map D.str) a->a=ss.map V.str
 |[],a,h=>by unfold gJ at h;exact h
 |x::ss,a,h=>by unfold eS gJ at h;obtain⟨v,r,rfl,z,y⟩:=h;unfold Rep at z;rw[z,Dk y];rfl
theorem RK(m:X.A.handled=ao):JBF X (.builtin "sorted") OS:=by
 refine⟨λds M P Q w q=>?_,λcq s σ H xs us Q I rs h=>?_⟩
 .match ds,q with
  |[d],q=>exact VL (λss q=>w _ _ q) q
 .obtain⟨F,α,M,ds,o,b,h⟩:=h;match ds,h,b with
  |[d],q,b=>
   obtain⟨v,n,i⟩:=qU b;subst n;have q:abt (vw M d) λss=>fK X.K F α H M Q (.lst ((zS ss).map .str)) M:=q;generalize j:vw M d=z at q;cases z<;>first|exact q.elim|skip
   .obtain⟨ss,rfl,c,q⟩:=q;obtain⟨a,r,rfl,e,f⟩:=ki o i j;have u:=Dk f;subst u;exact Ml cq s σ H _ us Q I rs ⟨a,ss,rfl,p7.of e,c,λp g=>q p _ α H Ext.refl o g ⟨_,rfl,gJ.of_map _ _ (λ_=>qZ) _⟩⟩
   .obtain⟨ss,rfl,c,q⟩:=q;obtain⟨a,r,rfl,e,x,f⟩:=Am o i j;have y:=gJ.length _ _ f;refine Mm m cq s σ H _ us Q I rs ⟨a,_,ss,rfl,e,?_,c,λp g=>q p _ α H Ext.refl o g ⟨_,rfl,gJ.of_map _ _ (λ_=>qZ) _⟩⟩;rw[List.map_fst_zip (by omega)]
end
end L3
namespace L2
noncomputable def Dl(val:Nat->ay):Nat->List ay
 |0=>[]
 |i+1=>ajj (Dl val i) (val i)
theorem Um(val:Nat->ay):∀i,(Dl val i).length<=i
 |0=>aM _
 |i+1=>by
  have a:=Um val i;unfold Dl ajj;split
  .omega
  .simp;omega
theorem Yk(σ:List ay)(v k:ay):(ajj σ v).any (·==k)=(σ.any (·==k)||decide (k=v)):=by
 unfold ajj;by_cases h:σ.any (·==v)=ag
 .rw[if_pos h];by_cases e:k=v
  .subst e;rw[h];rfl
  .simp[e]
 .rw[if_neg h,List.any_append];by_cases e:k=v
  .subst e;simp
  .have a:(v==k)=ar:=by simpa usingλz:v=k=>e z.symm
   simp[a,e]
theorem Yl(σ:List ay)(v:ay):(ajj σ v).length=if σ.any (·==v) then σ.length else σ.length+1:=by unfold ajj;split<;>simp
section
variable {prog:ba} {w:bI} {A:bv} {E:ae->aq->Prop} {s:aq}
abbrev Dm(prog:ba)(w:bI)(h:az)(a:ak)(val:Nat->ay)(i:Nat):Prop:=h.SetOf (PySem.strKind prog w) a (λk=>(Dl val i).any (·==k)) (Dl val i).length
theorem VM{R:ake->aq->Prop}{It:ak}{H h:List ak}{G:Array ajB->Array ajB->Prop}{n:Nat}{P:Nat->ae->Prop}{St:Nat->aq->Prop}(W:WalksS prog w A.in1 It H h G n P St)(a:ak)(c:a∉H)
(val:Nat->ay)(j:∀i v,P i v->∃t,v=.str (val i) t)(Y:n+1<ajq):∀(k i:Nat) (s:aq),n- i=k->i<=n->St i s->Dm prog w s.heap a val i->
   (∀m,Moved (a::h) G s m->Dm prog w m.heap a val n->R (.ok (.ret .none)) m)->codeAny (model prog w) A (.builtin "set.update.loop" ⟨[.ref a,.ref It],[]⟩) R s:=by
 have f:a∉h:=λz=>c (W.sub _ z);intro k;induction k with
 |zero=>
  intro i s I hi p q r;obtain rfl:i=n:=by omega
  refine fY ga ?_;rw[fh dM _];show wpAny _ A.in1 (pyNext (.ref It) >>= _) _ _ s;refine ah (W.done s _ _ p λs1 g=>?_);show wpAny _ A.in1 (ret cY) _ _ s1;obtain⟨o,es,u,t,x,more⟩:=q;exact aw (r s1 (g.mono λb z=>aH _ z) ⟨o,es,u,t,g.heap a _ f x,more⟩)
 |succ k J=>
  intro i s I hi p q r;have lt:i<n:=by omega
  refine fY ga ?_;rw[fh dM _];show wpAny _ A.in1 (pyNext (.ref It) >>= _) _ _ s;refine ah (W.item i s _ _ lt p λv s1 L y g=>?_);obtain⟨t,rfl⟩:=j i v L;have M:Dm prog w s1.heap a val i:=by obtain⟨o,es,u,tb,x,more⟩:=q;exact⟨o,es,u,tb,g.heap a _ f x,more⟩
  show wpAny _ A.in1 (holding [fM (val i) t] (setAdd a (.str (val i) t)) >>= _) _ _ s1;refine ah (bR ?_);unfold setAdd;refine bR (ah ((PySem.strKind prog w).pyHash (k:=val i) (PySem.strKind_is _ _ _ _) ?_));have room:(Dl val i).length+1<ajq:=by have:=Um val i;omega
  refine wpAny_setAddHashed_of (knd:=PySem.strKind prog w) (s:={s1 with toks:=s1.toks+1}) (PySem.strKind_is _ _ _ _) rfl M room λN sb O=>?_;have Q:Dm prog w N a val (i+1):=SetOf_congr O (λk=>(Yk _ _ _).symm) (Yl _ _).symm;refine aw ⟨aj5 dM _,J (i+1) _ (by omega) lt (W.frame _ s1 _ _ y (ck _) λb B o e=>?_) Q λT C U=>?_⟩
  .rw[sb.2 b λz=>c (z▸B)];exact e
  .refine r T (Moved.trans W.gtrans ((g.mono λb z=>aH _ z).then_heap (ck _) λb o B e=>?_) C) U;rw[sb.2 b λz=>B (z▸av)];exact e
theorem Uo:∀{a:List ae} {ss:List ay},c8 a ss->∀(i:Nat) (v:ae),a[i]?=aa v->∃t,v=.str (ss.getD i ⟨#[]⟩) t
 |_,_,.nil,i,v,h=>by simp at h
 |_,_,.cons x t r,0,v,h=>by simp at h;exact⟨t,h.symm⟩
 |_,_,.cons x t r,i+1,v,h=>by obtain⟨u,e⟩:=Uo r i v (by simpa using h);exact⟨u,by rw[e];rfl⟩
theorem VN{l:ak}{items:Array ae}{ss:List ay}{Q:ae->aq->Prop}(M:A.handled=ao)(N:s.heap.IsList l items)(hi:c8 items.toList ss)(O:items.size+1<ajq)
(T:∀(f:az) (u:Nat),Dm prog w f s.heap.objs.size (λi=>ss.getD i ⟨#[]⟩) items.size->(∀b o,s.heap.get? b=aa o->f.get? b=aa o)->Q (.ref s.heap.objs.size) {s with heap:=f,toks:=u}):
  wpAny (model prog w) A (call (.type "set") [.ref l]) Q E s:=by
 obtain⟨c,tl,U⟩:=PySem.F.called_set.mro;have Y:=PySem.F.called_set.made;have agi:=PySem.F.called_set.sub;refine ajS (codeAny_of_tree ?_);show wpAny _ _ (callAny (.type "set") _) _ _ _;refine aw ⟨Code.quiet_builtin _ (by decide+kernel),fY PySem.F.entry_type_call ?_⟩;rw[bv.under_plain (weight_type_call_type "set" [.ref l] []) rfl];have n1:=PySem.F.called_set.notType;have n2:=PySem.F.called_set.canCreate;have n3:=PySem.F.typeCall_set_1 (.ref l);repeat (any_goals (first|assumption|wp_step))
 refine fq (code_set_new_1 (.ref l) (E:=E) (Q₁:=λv s1=>∃a:Bool,v=.ref s.heap.objs.size/\s1={s with heap:=s.heap.push {cls:=.type "set",dict:=ao,data:=.set #[] 0 (.fresh 0 0 a)}}) λa=>⟨a,rfl,rfl⟩) λr s1 y=>?_;cases r with
 |error e=>exact y
 |ok fl=>
  cases fl with
  |ret v=>
   obtain⟨a,rfl,rfl⟩:=y;have j:(s.heap.push {cls:=.type "set",dict:=ao,data:=.set #[] 0 (.fresh 0 0 a)}).get? s.heap.objs.size=aa {cls:=.type "set",dict:=ao,data:=.set #[] 0 (.fresh 0 0 a)}:=aP _ rfl;have B:aq.TypeIs {s with heap:=s.heap.push {cls:=.type "set",dict:=ao,data:=.set #[] 0 (.fresh 0 0 a)}} (.ref s.heap.objs.size) "set":=⟨_,j,rfl⟩;have n4:=PySem.F.called_set.init.lookup;have n5:=PySem.F.called_set.init.bind (.ref s.heap.objs.size);repeat (any_goals (first|assumption|wp_step))
   refine fq (codeAny_call_builtin (R:=wants (λr s2=>r=.none/\∃f u,s2={s with heap:=f,toks:=u}/\Dm prog w f s.heap.objs.size (λi=>ss.getD i ⟨#[]⟩) items.size/\(∀b o,s.heap.get? b=aa o->f.get? b=aa o)) E) PySem.F.called_set.init.plain PySem.F.entry_set_init (check_set_init_1 B ?_)) λr2 s2 g=>?_
   .obtain⟨ol,h,m,nl,n⟩:=N;obtain⟨oc,od,ot,os⟩:=ol;simp only at m n;subst m;subst n;have p:(s.heap.push {cls:=.type "set",dict:=ao,data:=.set #[] 0 (.fresh 0 0 a)}).IsList l items:=⟨_,aj _ h,rfl,nl,rfl⟩;have aiZ:(s.heap.push {cls:=.type "set",dict:=ao,data:=.set #[] 0 (.fresh 0 0 a)}).get? l=aa {cls:=.type "list",dict:=od,data:=.seq items nl,slots:=os}:=aj _ h;have m1:=PySem.F.sub_list_set;have m2:=PySem.F.sub_list_frozenset;have m3:(dX "list"==dX "dict")=ar:=by decide
    unfold bE.«set.__init__» noKeywords bE.Frozenset.updateFrom;generalize C:ajv=PI
    wp_walk
    subst C;refine dj p (ah (wpAny_runValue ?_));have q:l<s.heap.objs.size:=aN h;have h3:A.in1.in1.in1.handled=ao:=by simp[M]
    have G:l≠(s.heap.push {cls:=.type "set",dict:=ao,data:=.set #[] 0 (.fresh 0 0 a)}).objs.size:=by rw[bZ];exact bf (cU q)
    have H:s.heap.objs.size∉[(s.heap.push {cls:=.type "set",dict:=ao,data:=.set #[] 0 (.fresh 0 0 a)}).objs.size,l]:=by rw[bZ];simp only [aO,bT,or_false,not_or];exact⟨bf (gz _),eA q⟩
    refine VM ((ajR.list h3 _ l G items).toS) s.heap.objs.size H (λi=>ss.getD i ⟨#[]⟩) (λi v hv=>Uo hi i v (by rw[cZ];exact hv)) O (items.size- 0) 0 _ (by omega) (bi _) ⟨⟨_,aP _ rfl,rfl,rfl⟩,(p.push _)⟩ ?s0 ?fn;case s0=>exact SetOf_congr ((setObjOf_fresh (knd:=PySem.strKind prog w) a).setOf (aj _ j) (by unfold ajq;omega)) (λ_=>rfl) rfl
    case fn=>
     intro s3 x S3;obtain⟨I,g3,d3,t3,o3⟩:=s3;have eg:g3=s.gens:=x.gens;have ed:d3=s.drawn:=x.drawn;have eo:o3=s.os:=x.os;subst eg ed eo;refine aw ?_;show wpAny _ _ (ret cY) _ _ _;refine aw ⟨rfl,I,t3,rfl,S3,λb o e=>x.heap b o ?_ (aj _ (aj _ e))⟩;have z:=aN e;rw[bZ];simp only [aO,bT,or_false,not_or];exact⟨bf z,bf (cU z)⟩
   .cases r2 with
    |error e=>exact g
    |ok J=>
     cases J with
     |ret r=>
      obtain⟨rfl,f,u,rfl,S4,k4⟩:=g;repeat (any_goals (first|assumption|wp_step))
      exact T _ _ S4 k4
     |_=>exact g.elim
  |_=>exact y.elim
end
section
variable {X:Cx} {p pos p2 Ym:d8} {e:bC} {te:TE}
noncomputable def Yn(ss:List ay):Nat:=(Dl (λi=>ss.getD i ⟨#[]⟩) ss.length).length
noncomputable def Yo(P:ba)(w:bI)(a:ak)(n:Nat):HO:=.ext λh=>∃S,h.SetOf (PySem.strKind P w) a S n
theorem abu{P:ba}{w:bI}{H:Hp}{h:az}{a:ak}{n:Nat}{S:ay->Bool}(x:h.SetOf (PySem.strKind P w) a S n):jK P w H h a (Yo P w a n):=by obtain⟨o,es,g,t,f,more⟩:=x;refine⟨⟨S,o,es,g,t,f,more⟩,⟨o,f⟩,λu v ⟨i,j,b,c,m,q,r⟩ k=>⟨i,j,b,c,m,k _ q,r⟩⟩
theorem VO(c:X.A.handled=ao):pr X (.type "set") (λxs H Q=>∃p ss,xs=[.ref p]/\p7 X.K H p (ss.map V.str)/\ss.length<1000/\∀l,H l=ao->Q (.ref l) (upd H l (Yo X.prog X.w l (Yn ss)))):=by
 intro cq s σ H xs us Q I r h;obtain⟨p,ss,rfl,f,n,q⟩:=h;obtain⟨u,rfl,g⟩:=vals1 r;cases g;obtain⟨ia,b,pl,_⟩:=I.list f;have i:=Dj b;have a:=b.length;rw[ai] at a;refine VN c pl.isList (ss:=ss) (by simpa using i) (by rw[aD,<-a];unfold ajq;omega) λo j S k=>?_;have m:ia.toArray.size=ss.length:=by rw[aD,a]
 rw[m] at S;exact⟨.ref s.heap.objs.size,_,I.laid (t':=j) k (aM _) (abu S),rfl,q _ (I.jo.fresh (aM _))⟩
theorem VP:pr X (.builtin "len") (λxs H Q=>∃p n,xs=[.ref p]/\H p=aa (Yo X.prog X.w p n)/\Q (.int n) H):=by
 intro cq s σ H xs us Q I r h;obtain⟨p,n,rfl,a,q⟩:=h;obtain⟨u,rfl,b⟩:=vals1 r;cases b;obtain⟨⟨S,o,es,i,t,c,hex,hd,j,hm,f,g,hn⟩,_⟩:=(show jK X.prog X.w H s.heap p (Yo X.prog X.w p n) from I.jo p _ a);subst hn;refine call_len_set c hex hd g ?_ ⟨.int es.size,H,I.tok _,⟨_,rfl⟩,q⟩;unfold ajq at f;have:(es.size:Int)<4096:=by omega
 exact Int.lt_of_lt_of_le this (by decide)
end
end L2
namespace L3
open L2
section
variable {X:Cx} {p pos p2 Ym:d8} {e:bC} {te:DE}
def Up (te:DE):DE:=λa M Q=>te a M λd M1=>∃ss:List ay,vw M1 d=.lst (ss.map .str)/\ss.length<1000/\Q (.int (Yn ss)) M1
theorem Yp(n:X.A.handled=ao)(ml:X.mg "len"=ao)(ms:X.mg "set"=ao)(b:JE X e te)(o:Gl X "len":=by rfl)(u:Gl X "set":=by rfl)
(i:bc [.Call (.Name "set" p2) [e] [] Ym] X.env=[(ar,eval (.Call (.Name "set" p2) [e] [] Ym) X.env)]:=by rfl)(j:bc [e] X.env=[(ar,eval e X.env)]:=by rfl):
  JE X (.Call (.Name "len" p) [.Call (.Name "set" p2) [e] [] Ym] [] pos) (Up te):=by
 have s1:PE X (.Call (.Name "set" p2) [e] [] Ym) _:=C5 (VO n) u ms (by rfl) (LS b.p Rb j) (hn:=by decide) (Ak:=by decide) (he:=j) (CV:=rfl);have s2:=Gc (p:=p) (pos:=pos) (VP (X:=X)) o ml (by rfl) (LS s1 Rb i) (hn:=by decide) (Ak:=by decide) (he:=i) (CV:=rfl);refine⟨λc M P Q w q=>b.mono c _ _ _ (λd M1 q=>?_) q,PE.weak s2 λσ H Q q=>?_⟩
 .obtain⟨ss,f,g,q⟩:=q;exact⟨ss,f,g,w _ _ q⟩
 .obtain⟨F,α,c,M,r,q⟩:=q;refine⟨F,α,c,M,r,b.mono c _ _ _ (λd M1 q v B H1 C m E=>?_) q⟩;obtain⟨ss,f,g,q⟩:=q;obtain⟨a,N,rfl,G,I⟩:=ki m E f;have h:=Dk I;subst h;refine⟨a,ss,rfl,p7.of G,g,λl J=>⟨l,_,rfl,ip,?_⟩⟩;obtain⟨L,h⟩:=m.laid (x:=Yo X.prog X.w l (Yn ss)) J;exact q _ B _ (C.trans h) L iU
end
end L3
namespace L2
section
variable {prog:ba} {w:bI} {κ:Type} [DecidableEq κ] {knd:PySem.KeyKind prog w κ} {A:bv} {E:ae->aq->Prop} {s:aq} {d:ak} {hZ:List (κ×ae)} {k:κ} {key v:ae}
theorem OT{Q:ae->aq->Prop}(h:knd.is k key=ag)(hm:s.heap.DictOf knd d hZ)(y:hZ.length<=aC)(yes:∀u,eQ hZ k=aa u->Q u {s with toks:=s.toks+1})
(no:eQ hZ k=ao->∀m,m.DictOf knd d (hZ++[(k,v)])->bJ d s.heap m->Q v {s with heap:=m,toks:=s.toks+1}):wpAny (model prog w) A (aj0 d key v) Q E s:=by
 have mp:=hm.mapOf;obtain⟨o,es,B,c,C,hd,r,n,hn⟩:=hm;have sz:es.size<=aC:=by have G:=n.length;rw[cx] at G;omega
 have WX:akz knd.is es k=eQ hZ k:=by obtain⟨N,H,I,f,_,g,_,J⟩:=mp;rw[c] at f;cases f;rw[hd] at g;cases g;exact J k
 unfold aj0;try with_reducible refine bR ?_
 refine ah (knd.pyHash h ?_);refine ah (wpAny_dictFind_of (s:={s with toks:=s.toks+1}) h c hd r ?_);have L:(es.findIdx? λe=>knd.is k e.key)=hZ.findIdx? λM=>decide (M.1=k):=by rw[<-n.findIdx k];obtain⟨l⟩:=es;simp
 cases hi:es.findIdx? λe=>knd.is k e.key with
 |some i=>
  have j:eQ hZ k=(es[i]?).map (·.val):=by rw[<-WX,ajx,hi]
  refine ah (akL (s:={s with toks:=s.toks+1}) c hd ?_);cases p:es[i]? with
  |none=>
   exfalso;have lt:i<es.size:=(Array.findIdx?_eq_some_iff_findIdx_eq.mp hi).1;rw[Array.getElem?_eq_getElem lt] at p;cases p
  |some e=>
   rw[p] at j;exact ah (gk (aw (yes e.val j)))
 |none=>
  have j:eQ hZ k=ao:=by rw[<-WX,ajx,hi]
  have q:k∉hZ.map (·.1):=not_mem_of_findIdx_none (L▸hi);refine ah (gk (ah (wpAny_updateDictKeys (hz:=sz) (s:={s with toks:=s.toks+1}) c hd (aw (no j _ ⟨_,_,B+1,ai7 _ c (cm.isFreed_of_dict (cm.data_mapDictKeys hd _)),C.mapDictKeys _,cm.data_mapDictKeys hd _,r.push h _,?_,?_⟩ (cJ ..))))))
  .have z:=n.append h (knd.hash k) v;obtain⟨l⟩:=es;simpa using z
  .rw[aX,cO];refine⟨hn,by simp,λa ha b x=>?_⟩;simp only [aZ,eR,bS] at x;subst x;exactλz=>q (z▸ha)
theorem Mn(c:knd.is k key=ag)(lo:(d==cH)=ar):
  MeetsIn prog w (bE.«dict.setdefault» ⟨[.ref d,key,v],[]⟩) (λ_ R s=>∃hZ,s.heap.DictOf knd d hZ/\hZ.length<=aC/\(∀u,eQ hZ k=aa u->R (.ok (.ret u)) {s with toks:=s.toks+1})/\
   (eQ hZ k=ao->∀a,a.DictOf knd d (hZ++[(k,v)])->bJ d s.heap a->R (.ok (.ret v)) {s with heap:=a,toks:=s.toks+1})):=
 .of_wp λA R s ⟨hZ,hm,e,f,g⟩=>by unfold bE.«dict.setdefault»;refine ah ?_;unfold bE.Dict.keyAndDefault;refine ah (akq hm.mapOf.typeIs ?_);show wpAny _ _ (pure (d,key,aa v)) _ _ s;refine aw ?_;show wpAny _ _ (if(d==cH)=ag then _ else(aj0 d key v >>= _)) _ _ s;rw[if_neg (by rw[lo];exact ax)];exact ah (OT c hm e (λu h=>aw ⟨u,rfl,f u h⟩) λhn a b sb=>aw ⟨v,rfl,g hn a b sb⟩)
end
section
variable {X:Cx}
theorem Uq{b:Type}{k:b}{v:V}{u:ae}(r:RelV v u):∀{c:List (b×V)} {e:List (b×ae)},KV c e->KV (c++[(k,v)]) (e++[(k,u)])
 |_,_,.nil=>.cons ⟨rfl,r⟩ .nil
 |_,_,.cons a t=>.cons a (Uq r t)
theorem VQ:MtR X "dict.setdefault" (λx xs H Q=>∃a b k v,x=.ref a/\xs=[kV k,v]/\H a=aa (.dK b)/\(∀u,vD b k=aa u->Q u H)/\(vD b k=ao->b.length<aC/\Q v (upd H a (.dK (b++[(k,v)]))))):=by
 intro cq s σ H x xs v us Q I n rs h;obtain⟨a,b,k,z,rfl,rfl,g,yes,no⟩:=h;cases n;obtain⟨G,o,rfl,p,m⟩:=vals2 rs;obtain⟨r,lo,i,rel,dd⟩:=Xq I.jo g;have A:i.length<=aC:=by rw[<-rel.length];exact r
 refine call_meetsIn PySem.F.slot_dict_setdefault dd.typeIs PySem.F.entry_dict_setdefault (PySem.F.args_dict_setdefault_3 _ _ _) (Mn (knd:=i9 X.prog X.w) (Er p) lo) ⟨i,dd,A,λu B=>?_,λhn C f sb=>?_⟩
 .have c:=rel.val k;rw[B] at c;cases e:vD b k with
  |none=>rw[e] at c;cases c
  |some y=>
   rw[e] at c;exact⟨y,H,I.tok _,c,yes y e⟩
 .have e:vD b k=ao:=by
   have c:=rel.val k;rw[hn] at c;cases e:vD b k with
   |none=>rfl
   |some y=>rw[e] at c;cases c
  obtain⟨J,q⟩:=no e;have E:∃q,C.get? a=aa q:=let⟨q,_,_,g,_⟩:=f;⟨q,g⟩;have j:KV (b++[(k,z)]) (i++[(k,o)]):=Uq m rel;exact⟨z,_,Fw I (by rw[g];exact cS) sb E (LW (by simp;omega) lo j f),m,q⟩
end
end L2
namespace L3
open L2
section
variable {X:Cx}
def OU:GM:=λd ds M Q=>match d,ds with
 |.loc j,[k,v]=>∃a es b,M[j]?=aa (aa (.kt a es))/\Oy k=aa b/\(∀x,pq b a es=aa x->Q x M)/\(pq b a es=ao->a.length<aC/\Q v (M.set j (aa (.kt (a++[b]) (es++[v])))))
 |_,_=>False
theorem VR:JM X "dict.setdefault" OU:=by
 refine⟨λd ds M P Q w q=>?_,λcq s σ H x xs v us Q I T rs h=>?_⟩
 .match d,ds,q with
  |.loc j,[k,v],⟨b,es,c,m,o,p,n⟩=>exact⟨b,es,c,m,o,λx e=>w _ _ (p x e),λe=>⟨(n e).1,w _ _ (n e).2⟩⟩
 .obtain⟨F,α,M,d,ds,ok,r,A,h⟩:=h;match d,ds,h,r,A with
  |.loc j,[k,y],⟨b,es,c,m,o,p,n⟩,r,A=>
   unfold Rep at r;obtain⟨a,E,rfl⟩:=r;obtain⟨a',G,g,U,J,B⟩:=ok.own j _ m;rw[E] at G;cases G;obtain⟨u1,i,rfl,Y,L⟩:=OG A;have e1:=uL Y o;subst e1;have hv:=gJ.length _ _ B;obtain⟨N,g2⟩:=Bq (k:=c) b es g B J;refine VQ cq s σ H _ _ v us Q I T rs ⟨a,b.zip g,c,i,rfl,rfl,U,λu C=>?_,λhn=>?_⟩
   .cases e:pq c b es with
    |none=>rw[g2 e] at C;cases C
    |some x=>
     obtain⟨u',f,ru⟩:=N x e;rw[C] at f;cases f;exact vK.now ok (p x e) ru
   .have e:pq c b es=ao:=by
     cases e:pq c b es with
     |none=>rfl
     |some x=>obtain⟨u',f,_⟩:=N x e;rw[hn] at f;cases f
    obtain⟨n1,q⟩:=n e;refine⟨by rw[dL];omega,?_⟩;have ez:b.zip g++[(c,i)]=(b++[c]).zip (g++[i]):=by rw[List.zip_append (by omega)];rfl
    obtain⟨o2,O⟩:=ok.write (y:=.kt (b++[c]) (es++[y])) (z:=.dK (b.zip g++[(c,i)])) m E (λHh eh=>by subst eh;exact⟨g++[i],by rw[ip,ez],by simp[J],gJ.append _ _ _ _ B (gJ.one L)⟩)
    exact q _ α _ O o2 (O.rep L)
end
end L3
namespace L2
section
variable {prog:ba} {w:bI} {A:bv} {E:ae->aq->Prop} {s:aq}
theorem Mo:typeLookup (.type "list") "keys"=pure ao:=am_miss_of_fast (by kernel_rfl)
theorem abv{a:ak}{o:cm}{xs:Array ae}{k:Nat}{Q:Option ae->aq->Prop}(m:s.heap.get? a=aa o)(n:o.cls=.type "list")(h:o.data=.seq xs k)(hd:o.dict=ao)(q:A.handled=ao)
(r:∀(j:az) (p:Nat),(∀b o,s.heap.get? b=aa o->j.get? b=aa o)->Q ao {s with heap:=j,toks:=p}):wpAny (model prog w) A (getAttr? (.ref a) "keys") Q E s:=by
 obtain⟨c,kt,u,sl⟩:=o;simp only at n h hd;subst n h hd;obtain⟨v,g,d,p,os⟩:=s;have ty:∀f,(⟨v,g,d,f,os⟩:aq).TypeIs (.ref a) "list":=λ_=>⟨_,m,rfl⟩;have x:=sub_AttributeError;have y:=PySem.F.slot_list_getattribute.lookup;have z:=PySem.F.slot_list_getattribute.bind (.ref a);have B:=am_list_getattr_none;unfold getAttr? getAttrBy? getAttrBy;repeat (any_goals (first|assumption|exact ty _|((with_reducible show wpAny _ _ (call (ae.builtin "list.__getattribute__") _ _) _ _ _);refine gj PySem.F.slot_list_getattribute (ty _) am_entry_list_getattribute (PySem.F.args_list_getattribute_2 _ _) (meets_getattribute_miss_list a xs k sl "keys" _ Mo (by decide) (by rw[b9];decide)) ⟨m,q,λj f e i=>?_⟩)|wp_step))
 obtain⟨C,G,H⟩:=i.there;show wpAny _ _ (akD _ _ _ _ _ _ _) _ _ _;unfold akD;repeat (any_goals (first|assumption|wp_step))
 exact r j f i.keeps
end
theorem xN:entryFor table "dict.update.loop"=aa bE.«dict.update.loop»:=entryFor_of_tree (by kernel_rfl)
theorem oo:plainId "dict.update.loop"=ag:=by decide+kernel
section
variable {prog:ba} {w:bI} {κ:Type} [DecidableEq κ] {knd:PySem.KeyKind prog w κ} {A:bv} {E:ae->aq->Prop} {s:aq}
theorem RL{a:List (κ×ae)}{k:κ}{v:ae}(h:k∉a.map (·.1)):stored a k v=a++[(k,v)]:=by
 unfold stored;rw[if_neg];rw[List.any_eq_true]
 rintro⟨b,c,e⟩
 exact h (bN.mpr ⟨b,c,of_decide_eq_true e⟩)
def Mp (h:az)(v:ae)(key val:ae):Prop:=∃a,v=.ref a/\ajA h a #[key,val]
theorem pair_items{v key val:ae}{Q:List ae->aq->Prop}(b:Mp s.heap v key val)(q:Q [key,val] s):wpAny (model prog w) A (bE.Dict.pairItems v) Q E s:=by obtain⟨a,rfl,o,e,f,n,hd⟩:=b;obtain⟨c,i,j,sl⟩:=o;simp only at f hd;subst f hd;obtain⟨b,g,d,h,os⟩:=s;have ty:(⟨b,g,d,h,os⟩:aq).TypeIs (.ref a) "tuple":=⟨_,e,rfl⟩;unfold bE.Dict.pairItems;refine ah (akf ty ?_);rw[if_pos (by decide)];unfold akT;refine ah (ah (wpAny_load e (aw (aw ?_))));exact q
theorem Yq{R:ake->aq->Prop}{It:ak}{M n:List ak}{G:Array ajB->Array ajB->Prop}{P:Nat->ae->Prop}{St:Nat->aq->Prop}{c:List (κ×ae)}{keys:List ae}(W:WalksS prog w A.in1 It M n G c.length P St)(d:ak)(N:d∉M)(lo:(d==cH)=ar)
(nd:(c.map (·.1)).Nodup)(hz:c.length<=aC)(g:az)(Y:∀i v,P i v->∃k key u,c[i]?=aa (k,u)/\knd.is k key=ag/\Mp g v key u)(r:g.get? d=ao)(x:∀b∈n,g.get? b=ao):
  ∀(k i:Nat) (s:aq),c.length- i=k->i<=c.length->St i s->(∀b o,g.get? b=aa o->s.heap.get? b=aa o)->s.heap.DictOf knd d (c.take i)->
   (∀y,Moved (d::n) G s y->y.heap.DictOf knd d c->R (.ok (.ret .none)) y)->codeAny (model prog w) A (.builtin "dict.update.loop" ⟨[.ref d,.ref It,ai2 i,.none],[]⟩) R s:=by
 have h:d∉n:=λz=>N (W.sub _ z);intro k;induction k with
 |zero=>
  intro i s hk hi B m p C;obtain rfl:i=c.length:=by omega
  refine fY xN ?_;rw[fh oo _];show wpAny _ A.in1 (pyNext (.ref It) >>= _) _ _ s;refine ah (W.done s _ _ B λs1 f=>?_);show wpAny _ A.in1 (bE.Dict.addKeywords d [] >>= λ_=>ret cY) _ _ s1;rw[List.take_length] at p;refine ah (aw (aw (C s1 (f.mono λb z=>aH _ z) (p.at λo e=>f.heap d _ h e))))
 |succ k ih=>
  intro i s hk hi B m p C;have lt:i<c.length:=by omega
  refine fY xN ?_;rw[fh oo _];show wpAny _ A.in1 (pyNext (.ref It) >>= _) _ _ s;refine ah (W.item i s _ _ lt B λv s1 hv H f=>?_);obtain⟨kk,key,u,O,e2,a,rfl,o,ho,ht⟩:=Y i v hv;have Q:∀b o,g.get? b=aa o->s1.heap.get? b=aa o:=λb o e=>f.heap b o (λz=>by rw[x b z] at e;cases e) (m b o e);show wpAny _ A.in1 (holding _ _ >>= _) _ _ s1;refine ah (bR ?_);refine ah (wpAny_tryCatch (pair_items ⟨a,rfl,o,Q _ _ ho,ht⟩ ?_));have D1:s1.heap.DictOf knd d (c.take i):=p.at λo e=>f.heap d _ h e;refine bR (wpAny_dictSet_pairs (hsz:=by rw[d9];omega) e2 D1 λT U sb=>?_);have I:kk∉(c.take i).map (·.1):=by
   intro z;obtain⟨⟨k',u'⟩,hm,rfl⟩:=bN.mp z;obtain⟨j,q⟩:=dP.mp hm;rw[List.getElem?_take] at q;split at q
   .rename_i ji;have g1:(c.map (·.1))[j]?=aa k':=by rw[aS,q];rfl
    have g2:(c.map (·.1))[i]?=aa k':=by rw[aS,O];rfl
    have:=(List.getElem?_inj (by rw[ai];omega) nd).mp (g1.trans g2.symm);omega
   .cases q
  rw[RL I] at U;have D3:T.DictOf knd d (c.take (i+1)):=by rw[List.take_add_one,O];exact U
  refine aw ⟨aj5 oo _,ih (i+1) _ (by omega) lt (W.frame _ s1 _ _ H (ck _) λb J o e=>?_) (λb o e=>?_) D3 λs4 L D4=>?_⟩
  .rw[sb.2 b λz=>N (z▸J)];exact e
  .show T.get? b=aa o;rw[sb.2 b λz=>by rw[z,r] at e;cases e];exact Q b o e
  .refine C s4 (Moved.trans W.gtrans ((f.mono λb z=>aH _ z).then_heap (ck _) λb o J e=>?_) L) D4;rw[sb.2 b λz=>J (z▸av)];exact e
theorem RM{l:ak}{items:Array ae}{hZ:List (κ×ae)}{Q:ae->aq->Prop}(y:A.handled=ao)(h:PlainL s.heap l items)(I:items.size=hZ.length)(nd:(hZ.map (·.1)).Nodup)(J:hZ.length<=aC)(big:cH<s.heap.objs.size)
(L:∀(i:Nat) (v:ae),items[i]?=aa v->∃k key u,hZ[i]?=aa (k,u)/\knd.is k key=ag/\Mp s.heap v key u)
(M:∀(j:az) (N:Nat),j.DictOf knd s.heap.objs.size hZ->(∀b o,s.heap.get? b=aa o->j.get? b=aa o)->Q (.ref s.heap.objs.size) {s with heap:=j,toks:=N}):
  wpAny (model prog w) A (call (.type "dict") [.ref l]) Q E s:=by
 refine callType_codes (Q₁:=λv s1=>v=.ref s.heap.objs.size/\s1={s with heap:=s.heap.push {cls:=.type "dict",data:=.dict #[]}}) PySem.F.kt_called_dict (PySem.F.kt_typeCall_dict_1 _) PySem.F.entry_dict_init (kt_code_dict_new _ ⟨rfl,rfl⟩) ?_
 rintro v s1 ⟨rfl,rfl⟩
 have m:(s.heap.push {cls:=.type "dict",data:=.dict #[]}).DictOf knd s.heap.objs.size []:=az.DictOf.new s.heap;refine⟨m.typeIs,PySem.F.args_dict_init_2 _ _,?_⟩;unfold bE.«dict.__init__»;refine ah ?_;unfold bE.Dict.selfAndRest;refine ah (akq m.typeIs ?_);show wpAny _ _ (pure (s.heap.objs.size,[bH l])) _ _ _;refine aw ?_;show wpAny _ _ (bE.Dict.updateFrom "dict.__init__" s.heap.objs.size (.ref l) [] .none) _ _ _;unfold bE.Dict.updateFrom;obtain⟨lt,C⟩:l<s.heap.objs.size/\(s.heap.push {cls:=.type "dict",data:=.dict #[]}).IsList l items:=⟨aN h.isList.choose_spec.1,h.isList.push _⟩;refine ah (akf C.typeIs ?_);rw[if_pos (by decide)];obtain⟨o,n,G,O,hd,p⟩:∃o n,s.heap.get? l=aa o/\o.cls=.type "list"/\o.data=.seq items n/\o.dict=ao:=let⟨o,n,a1,a2,a3,a4⟩:=h;⟨o,n,a1,a2,a4,a3⟩;refine ah (abv (aj _ G) O hd p y λa T f=>?_);rw[if_pos (by rfl)];refine ah (gk ?_);have H:a.IsList l items:=C.at λo e=>f _ _ e;refine ah (dj H ?_);refine aw ⟨aj5 oo _,?_⟩;have q:∀b o,s.heap.get? b=aa o->a.get? b=aa o:=λb o e=>f b o (aj _ e);have r:l<a.objs.size:=aN (q _ _ G);have x:a.get? s.heap.objs.size=aa {cls:=.type "dict",data:=.dict #[]}:=f _ _ (aP _ rfl);have c:s.heap.objs.size<a.objs.size:=aN x;have W:=(ajR.list (prog:=prog) (w:=w) (A:=A.in1.in1) (by simp[y]) a.objs.size l (bf r) items).toS;rw[I] at W;have U:(a.push {cls:=.type "list_iterator",data:=.fields #[.ref l,.int 0 0]}).DictOf knd s.heap.objs.size []:=(m.at λo e=>f _ _ e).push _;refine Yq (keys:=[]) W s.heap.objs.size (by simp only [aO,bT,or_false,not_or];exact⟨bf c,eA lt⟩) (beq_eq_false_iff_ne.mpr (eA big)) nd J s.heap L (dZ (aM _))
  (λb Y=>by rw[bS.mp Y];exact dZ (dF c)) (hZ.length- 0) 0 _ (by omega) (bi _) ?st ?kp ?dd ?fn
 case st=>exact⟨⟨_,aP _ rfl,rfl,rfl⟩,H.push _⟩
 case kp=>exactλb o e=>aj _ (q b o e)
 case dd=>rw[List.take_zero];exact U
 intro s4 g D4;obtain⟨h4,g4,d4,t4,o4⟩:=s4;have eg:g4=s.gens:=g.gens;have ed:d4=s.drawn:=g.drawn;have eo:o4=s.os:=g.os;subst eg ed eo;refine⟨rfl,M h4 t4 D4 λb o e=>g.heap b o ?_ (aj _ (q b o e))⟩;have z:=aN e;simp only [aO,bT,or_false,not_or];exact⟨bf z,bf (ai3 z c)⟩
end
section
variable {X:Cx}
def Mq (K:bz)(H:Hp):List V->List (Key×V)->Prop
 |[],[]=>True
 |y::b,(k,u)::r=>(∃a,y=.ref a/\Bb K H a [kV k,u])/\Mq K H b r
 |_,_=>False
theorem EF{cq:List (ak×cm)}{s:aq}{σ:L2.St}{H:Hp}(I:Inv X cq σ H s):∀{f:List V} {g:List (Key×V)} {ia:List ae},Mq X.K H f g->Vals f ia->
  ∃c:List (Key×ae),KV g c/\ia.length=c.length/\∀(i:Nat) (v:ae),ia[i]?=aa v->∃k key u,c[i]?=aa (k,u)/\(i9 X.prog X.w).is k key=ag/\Mp s.heap v key u
 |[],[],ia,_,r=>by cases r;exact⟨[],.nil,rfl,λi v h=>by simp at h⟩
 |[],_::_,_,h,_=>h.elim
 |_::_,[],_,h,_=>h.elim
 |y::f,(k,u)::g,ia,⟨⟨a,e,m⟩,h⟩,r=>by
  subst e;cases r with
  |@cons _ b _ bs n o=>
   cases n;obtain⟨c,p,q,x⟩:=EF I h o;obtain⟨z,A,B,_⟩:=I.tuple m;obtain⟨key,val,rfl,C,E⟩:=vals2 A;refine⟨(k,val)::c,.cons ⟨rfl,E⟩ p,by simp[q],λi v j=>?_⟩;cases i with
   |zero=>simp at j;subst j;exact⟨k,key,val,rfl,Er C,a,rfl,B⟩
   |succ i=>exact x i v (by simpa using j)
theorem Ur:∀{b:List (Key×V)} {c:List (Key×ae)},KV b c->c.map (·.1)=b.map (·.1)
 |_,_,.nil=>rfl
 |_,_,.cons a t=>by rw[aZ,aZ,a.1,Ur t]
theorem RN(f:X.A.handled=ao):pr X (.type "dict") (λxs H Q=>∃p b a,xs=[.ref p]/\p7 X.K H p b/\Mq X.K H b a/\(a.map (·.1)).Nodup/\∀l,H l=ao->Q (.ref l) (upd H l (.dK a))):=by intro cq s σ H xs us Q I r h;obtain⟨p,b,a,rfl,g,j,nd,q⟩:=h;obtain⟨u,rfl,m⟩:=vals1 r;cases m;obtain⟨ia,e,pl,B⟩:=I.list g;have C:=e.length;obtain⟨n,c,o,x⟩:=EF I j e;have E:=c.length;refine RM (knd:=i9 X.prog X.w) (hZ:=n) f pl (by rw[aD,o]) (by rw[Ur c];exact nd) (by omega) I.big (λi v y=>x i v (by simpa using y)) λJ z D k=>?_;exact⟨.ref s.heap.objs.size,_,I.laid (t':=z) k (aM _) (LW (by omega) (beq_eq_false_iff_ne.mpr (cV (bf I.big))) c D),rfl,q _ (I.jo.fresh (aM _))⟩
end
end L2
namespace L3
open L2
section
variable {X:Cx}
noncomputable def kD:Key->D
 |.inl i=>.int i
 |.inr x=>.str x
noncomputable def prD(kd:Key×D):D:=.tup [kD kd.1,kd.2]
def Ys:GF:=λds M Q=>match ds with
 |[d]=>∃OV:List (Key×D),vw M d=.lst (OV.map prD)/\(OV.map (·.1)).Nodup/\Q (.kt (OV.map (·.1)) (OV.map (·.2))) M
 |_=>False
theorem aeC{K:bz}{α:List ak}{H:Hp}{k:Key}{v:V}(h:Rep K α H (kD k) v):v=kV k:=by cases k<;>(unfold kD Rep at h;exact h)
theorem G4{K:bz}{α:List ak}{H c:Hp}(e:jV H c):∀{OV:List (Key×D)} {b:List V},gJ K α H (OV.map prD) b->∃us:List V,Mq K c b ((OV.map (·.1)).zip us)/\gJ K α H (OV.map (·.2)) us
 |[],b,h=>by unfold eS gJ at h;subst h;exact⟨[],trivial,gJ.nil⟩
 | (k,d)::OV,b,h=>by unfold eS gJ at h;obtain⟨v,r,rfl,z,y⟩:=h;unfold prD Rep at z;obtain⟨a,ws,rfl,f,g⟩:=z;obtain⟨p,i,rfl,j,m⟩:=OG g;cases aeC j;obtain⟨us,n,o⟩:=G4 e y;exact⟨i::us,⟨⟨a,rfl,nL e f⟩,n⟩,gJ.cons m o⟩
theorem Yt(g:X.A.handled=ao):JBF X (.type "dict") Ys:=by
 refine⟨λds M P Q w q=>?_,λcq s σ H xs us Q I rs h=>?_⟩
 .match ds,q with
  |[d],⟨OV,b,c,q⟩=>exact⟨OV,b,c,w _ _ q⟩
 .obtain⟨F,α,M,ds,o,e,h⟩:=h;match ds,h,e with
  |[d],⟨OV,b,c,q⟩,e=>
   obtain⟨v,i,j⟩:=qU e;subst i;obtain⟨a,m,rfl,n,r⟩:=ki o j b;obtain⟨ws,u,f⟩:=G4 il r;have x:=gJ.length _ _ f;rw[ai] at x;exact RN g cq s σ H _ us Q I rs ⟨a,m,_,rfl,p7.of n,u,by rw[List.map_fst_zip (by simp;omega)];exact c,λp y=>q p _ α H Ext.refl o y ⟨ws,rfl,by simp,f⟩⟩
end
end L3
namespace L2
section
variable {P:ba} {w:bI} {A:bv} {E:ae->aq->Prop} {H:Hp} {fs:List ak}
structure Cq(P:ba)(w:bI)(fs:List ak)(H:Hp)(s s':aq):Prop where
 os:s'.os=s.os
 bare:fN s'.gens
 jo:xv P w H s'.heap
 un:Un fs [] H H s.heap s'.heap
theorem Cq.refl{s:aq}(b:fN s.gens)(h:xv P w H s.heap):Cq P w fs H s s:=⟨rfl,b,h,Un.refl⟩
theorem Cq.trans{s s1 s2:aq}(a:Cq P w fs H s s1)(b:Cq P w fs H s1 s2):Cq P w fs H s s2:=⟨b.os.trans a.os,b.bare,b.jo,a.un.trans b.un⟩
theorem Cq.kept{s s1:aq}{h':az}{a:Nat}(c:Cq P w fs H s s1)(k:∀b o,s1.heap.get? b=aa o->h'.get? b=aa o):Cq P w fs H s {s1 with heap:=h',toks:=a}:=c.trans ⟨rfl,c.bare,c.jo.kept k,Un.kept k⟩
theorem Cq.other{s s1:aq}{i:az}{tk:Nat}{a:ak}(c:Cq P w fs H s s1)(sb:bJ a s1.heap i)(ha:H a=ao)(hn:s.heap.get? a=ao):Cq P w fs H s {s1 with heap:=i,toks:=tk}:=by
 have ne:∀{b:ak} {u:HO},H b=aa u->b≠a:=λe z=>by rw[z,ha] at e;cases e
 have h:∀{b:ak} {o:cm},s.heap.get? b=aa o->b≠a:=λe z=>by rw[z,hn] at e;cases e
 refine⟨c.os,c.bare,λb o e=>(c.jo b o e).FZ (λj u f q=>?_) (λ_ q=>q) (λ_ _ q=>q),⟨λb o e n f g=>?_,λb o e n f g=>?_,c.un.free,λb o e g=>?_,c.un.C1,c.un.A9,c.un.Ba⟩⟩
 .have z:j≠a:=by
   rcases f with rfl|f
   .exact ne e
   .exact ne f
  exact(sb.2 j z).trans q
 .exact(sb.2 b (h e)).trans (c.un.keep b o e n f g)
 .obtain⟨sl,q⟩:=c.un.slot b o e n f g;exact⟨sl,(sb.2 b (h e)).trans q⟩
 .obtain⟨m,q⟩:=c.un.there b o e g;exact⟨m,(sb.2 b (h e)).trans q⟩
theorem Cq.at{s s1:aq}{b:ak}{o:cm}(c:Cq P w fs H s s1)(e:s.heap.get? b=aa o)(n:H b=ao)(a:b∉fs):s1.heap.get? b=aa o:=c.un.keep b o e n a (by simp)
theorem Lg{x:ay}{t:akr}:∀{a:List ae} {ss:List ay},c8 a ss->c8 (a++[.str x t]) (ss++[x])
 |_,_,.nil=>.cons x t .nil
 |_,_,.cons y u h=>.cons y u (Lg h)
theorem VS{keys:Array ae}{ss:List ay}(b:c8 keys.toList ss)(a:2<=keys.size):keyKind' keys=pure ak7:=by
 obtain⟨l⟩:=keys;match l,b,a with
 |[],_,a=>simp at a
 |[_],_,a=>simp at a
 |v1::c::r,b,_=>exact akm b
theorem VT{keys:Array ae}{b:List ae}{ss:List ay}(c:c8 keys.toList ss):KeysOf dA (keys.zip b.toArray):=by intro p a;rw[ksk_zip] at a;obtain⟨x,t,e⟩:=c.all _ (fE a).1;exact⟨x.cps.toList,by rw[e]⟩
def RO (ss:List ay)(b out:List ae):Prop:=∃a:List (ay×ae),a.Perm (ss.zip b)/\out=a.map Prod.snd/\a.Pairwise (λp q=>L3.xr p.1 q.1=ag)
theorem agC{keys:Array ae}{f:List ae}{ss:List ay}(o:c8 keys.toList ss){xs:Array Keyed}(z:xs.Perm (keys.zip f.toArray))(B:ajc dA xs xs.size):RO ss f (xs.map (·.2)).toList:=by
 have r:xs.toList.Perm (keys.toList.zip f):=by rw[<-ksk_zip];exact Array.perm_iff_toList_perm.mp z
 refine⟨xs.toList.map λp:Keyed=>(strOf p.1,p.2),?_,?_,?_⟩
 .have e:(keys.toList.zip f).map (λp:Keyed=>(strOf p.1,p.2))=ss.zip f:=by rw[<-o.strs,List.zip_map_left];exact dm λ⟨x,y⟩ _=>rfl
  rw[<-e];exact r.map _
 .rw[Array.toList_map,bq];rfl
 .rw[eF];intro i j hi C n;have g:i<xs.size:=by simpa using hi
  have c:j<xs.size:=by simpa using C
  have q:=B i j (dF n) c;have mem:∀k (h:k<xs.size),∃x t,xs[k].1=fM x t:=λk h=>by have m:=r.mem_iff.mp (show xs[k]∈xs.toList by simp);exact o.all _ (fE (a:=xs[k].1) (b:=xs[k].2) m).1
  obtain⟨x,t,ex⟩:=mem i g;obtain⟨y,u,v⟩:=mem j c;rw[KK_str g (x:=x) (t:=t) (q:=xs[i].2) (Prod.ext ex rfl),KK_str c (x:=y) (t:=u) (q:=xs[j].2) (Prod.ext v rfl)] at q;simp only [List.getElem_map,Array.getElem_toList];rw[show strOf xs[i].1=x by rw[ex];rfl,show strOf xs[j].1=y by rw[v];rfl];change decide (y.cps.toList<x.cps.toList)=ar at q;unfold L3.xr;rw[q];rfl
section
variable {s0 s:aq} {a kS:ak} {vs:List ae} {ss:List ay} {keys:Array ae} {e e1:Nat} {Pq:PySem.Fin->aq->Prop}
theorem Us{st:ajJ}(c:Cq P w fs H s0 s)(u:s.heap.get? kS=aa (ci "list" keys e))(na:s.heap.get? a=aa (ci "list" #[] e1))(g:kS≠a)(n:H kS=ao/\s0.heap.get? kS=ao)(o:H a=ao/\s0.heap.get? a=ao)
(p:c8 keys.toList ss)(C:ss.length=vs.length)(G:vs.length<64)(q:(eX st).Perm (keys.zip vs.toArray))(v:ajc dA (eX st) (eX st).size)(x:akv st=ao)
(y:∀h f out B,Cq P w fs H s0 {s with heap:=h,toks:=f}->h.get? a=aa (ci "list" out B)->RO ss vs out.toList->Pq (.done (.ret .none)) {s with heap:=h,toks:=f}):
  wpAny (model P w) A (ksk_tail a ar e1 (.ref kS) st) Pq E s:=by
 have r:keys.size=vs.length:=by have z:=p.length;rw[cx] at z;omega
 have i:(eX st).size=vs.length:=by rw[q.size_eq,Array.size_zip,r,aD,ai5]
 have b1:=cJ s.heap kS (bX λ_=>(#[]:Array ae));have b:(s.heap.update kS (bX λ_=>(#[]:Array ae))).get? a=aa (ci "list" #[] e1):=(b1.2 a g.symm).trans na;have b2:=cJ (s.heap.update kS (bX λ_=>(#[]:Array ae))) a (bX λ_=>(eX st).map (·.2));obtain⟨j,m⟩:∃j,((s.heap.update kS (bX λ_=>(#[]:Array ae))).update a (bX λ_=>(eX st).map (·.2))).get? a=aa (ci "list" ((eX st).map (·.2)) j):=⟨_,ajm b λ_=>(eX st).map (·.2)⟩;unfold ksk_tail;try dsimp only
 refine ah (fO u rfl ?_ (by rw[r,b9];omega) (bi _));refine ah (ajL ?_);refine ah (ajM b rfl ?_);refine ah (fO b rfl ?_ (bi _) (bG (fQ (show(Array.map (·.2) (eX st)).size=vs.length by rw[Array.size_map];exact i)) (by rw[b9];omega)));rw[x];simp only [bne_self_eq_false,c5,if_false];refine aw (y _ _ _ j ((c.other (tk:=s.toks) b1 n.1 n.2).other (tk:=s.toks) b2 o.1 o.2) m (agC p q v))
theorem aeD(c:Cq P w fs H s0 s)(q:s.heap.get? kS=aa (ci "list" keys e))(na:s.heap.get? a=aa (ci "list" #[] e1))(g:kS≠a)(r:H kS=ao/\s0.heap.get? kS=ao)(u:H a=ao/\s0.heap.get? a=ao)
(h:c8 keys.toList ss)(v:ss.length=vs.length)(n:vs.length<64)
(x:∀o y out I,Cq P w fs H s0 {s with heap:=o,toks:=y}->o.get? a=aa (ci "list" out I)->RO ss vs out.toList->Pq (.done (.ret .none)) {s with heap:=o,toks:=y}):
  wpAny (model P w) A (ksk_end a ar vs.toArray e1 (.ref kS) keys) Pq E s:=by
 have B:keys.size=vs.length:=by have z:=h.length;rw[cx] at z;omega
 have b:(keys.zip vs.toArray).size=vs.length:=by rw[Array.size_zip,B,aD,ai5]
 unfold ksk_end;try dsimp only
 simp only [c5,if_false];by_cases f:vs.toArray.size<2
 .rw[if_pos f,if_pos f];refine ah (aw ?_);rw[StateT.run_pure];refine ah (aw ?_);try dsimp only
  refine Us (st:=ajJ.mk' general' (keys.zip vs.toArray) #[] 7 ao) c q na g r u h v n (Array.Perm.refl _) ?_ rfl x;intro i j J L;have p:j<(keys.zip vs.toArray).size:=L;rw[b] at p;rw[aD] at f;obtain rfl:i=j:=by omega
  exact KeyOrd.kle_refl _
 .rw[if_neg f,if_neg f];rw[aD] at f;rw[VS h (by rw[B];omega)];refine ah (aw ?_);refine ah (cw (wpS_sortRunsK (κ:=dA) aj4 (a₀:=keys.zip vs.toArray) (st:=ajJ.mk' ak7 (keys.zip vs.toArray) #[] 7 ao)
   (Q:=λ_ m=>(eX m).Perm (keys.zip vs.toArray)/\akv m=ao/\ajc dA (eX m) (keys.zip vs.toArray).size)
   (VT h) ⟨Array.Perm.refl _,rfl,rfl,rfl⟩ (by rw[b];omega) (by rw[b];exact n) λm M N O=>⟨M,N,O⟩) ?_ λ_ _ z=>z)
  rintro⟨⟨⟩,m⟩ s' ⟨rfl,G,T,U⟩
  try dsimp only
  exact Us c q na g r u h v n G (by rw[G.size_eq];exact U) T x
end
end
section
variable {P:ba} {w:bI} {A:bv} {E:ae->aq->Prop} {H:Hp} {fs:List ak} {s0 s:aq} {a kS:ak} {vs:List ae} {ss:List ay} {e1:Nat} {Pq:PySem.Fin->aq->Prop} {f:ae}
theorem abw(c:Cq P w fs H s0 s)(L:s.heap.get? kS=aa (ci "list" #[] 0))(na:s.heap.get? a=aa (ci "list" #[] e1))(o:kS≠a)(r:H kS=ao/\s0.heap.get? kS=ao)(I:H a=ao/\s0.heap.get? a=ao)(M:kS∉fs)(N:a∉fs)
(O:ss.length=vs.length)(Q:vs.length<64)
(turn:∀(i:Nat) (v:ae) (k:ay) (s1:aq),vs[i]?=aa v->ss[i]?=aa k->Cq P w fs H s0 s1->wpAny (model P w) A (call f [v]) (λu s2=>(∃t,u=.str k t)/\Cq P w fs H s1 s2) (λ_ _=>False) s1)
(T:∀b out m,Cq P w fs H s0 b->b.heap.get? a=aa (ci "list" out m)->RO ss vs out.toList->Pq (.done (.ret .none)) b):
  wpAny (model P w) A (ksk_rest a f ar vs.toArray e1 (.ref kS)) Pq E s:=by
 unfold ksk_rest;refine ah (gk ?_);rw[<-Array.forIn_toList];refine ah (ksk_fold (λi b=>∃kA e,Cq P w fs H s0 b/\b.heap.get? kS=aa (ci "list" kA e)/\b.heap.get? a=aa (ci "list" #[] e1)/\c8 kA.toList (ss.take i)) vs 0 s ⟨#[],0,c,L,na,by simpa using c8.nil⟩ ?step ?done);case step=>
  rintro j x b J ⟨kA,e,m,g,h,n⟩
  simp only [bt] at n |-;have hj:j<vs.length:=(au.mp J).1;obtain⟨k,p⟩:∃k,ss[j]?=aa k:=⟨_,aJ (by omega)⟩;have hz:kA.size<=vs.length:=by have z:=n.length;rw[cx,d9] at z;omega
  refine ah (aj3 (cw (turn j x k b J p m) (λv s2 U=>?_) λ_ _ z=>z.elim));obtain⟨⟨t,rfl⟩,y⟩:=U;have q:=y.at g r.1 M;have B:=y.at h I.1 N;have b1:=cJ s2.heap kS (bX (·.push (.str k t)));obtain⟨C,G⟩:∃C,(s2.heap.update kS (bX (·.push (.str k t)))).get? kS=aa (ci "list" (kA.push (.str k t)) C):=⟨_,ajm q (·.push (.str k t))⟩;have Y:ss.take (j+1)=ss.take j++[k]:=by rw[List.take_add_one,p];rfl
  refine ah (fO q rfl ?_ (by rw[b9];omega) (bG (fQ (Array.size_push ..)) (by rw[b9];omega)));refine aw ⟨rfl,kA.push (.str k t),C,(m.trans y).other (tk:=s2.toks) b1 r.1 r.2,G,(b1.2 a o.symm).trans B,?_⟩;rw[Y,Array.toList_push];exact Lg n
 case done=>
  rintro b ⟨kA,e,m,g,h,n⟩
  rw[bt,ai0 (by omega)] at n;try dsimp only
  refine ah (akn g rfl ?_);exact aeD m g h o r I n O Q λh' tk out c3 q1 q2 q3=>T _ out c3 q1 q2 q3
theorem abx{n:Nat}(c:Cq P w fs H s0 s)(h:s.heap.get? a=aa (ci "list" vs.toArray n))(j:H a=ao/\s0.heap.get? a=ao)(x:a∉fs)(y:∀b∈fs,b<s0.heap.objs.size)(m:s0.heap.objs.size<=a)(B:ss.length=vs.length)(C:vs.length<64)
(turn:∀(i:Nat) (v:ae) (k:ay) (s1:aq),vs[i]?=aa v->ss[i]?=aa k->Cq P w fs H s0 s1->wpAny (model P w) A (call f [v]) (λu s2=>(∃t,u=.str k t)/\Cq P w fs H s1 s2) (λ_ _=>False) s1)
(G:∀p out I,Cq P w fs H s0 p->p.heap.get? a=aa (ci "list" out I)->RO ss vs out.toList->Pq (.done (.ret .none)) p):
  wpAny (model P w) A (ksk_tree a f ar) Pq E s:=by
 have ha:a<s.heap.objs.size:=aN h;have b1:=cJ s.heap a (bX λ_=>(#[]:Array ae));obtain⟨e1,g⟩:∃e1,(s.heap.update a (bX λ_=>(#[]:Array ae))).get? a=aa (ci "list" #[] e1):=⟨_,ajm h λ_=>#[]⟩;have r:Cq P w fs H s0 {s with heap:=s.heap.update a (bX λ_=>(#[]:Array ae)),toks:=s.toks}:=c.other b1 j.1 j.2;have e:((s.heap.update a (bX λ_=>(#[]:Array ae))).push (ci "tuple" vs.toArray 0)).objs.size=s.heap.objs.size+1:=by rw[ajY,gq]
 have J:Cq P w fs H s0 {s with heap:=((s.heap.update a (bX λ_=>(#[]:Array ae))).push (ci "tuple" vs.toArray 0)).push (ci "list" #[] 0),toks:=s.toks}:=r.kept λb o q=>aj _ (aj _ q);have lt:s0.heap.objs.size<s.heap.objs.size+1:=Nat.lt_succ_of_le (bG m (dF ha));unfold ksk_tree;refine ah (akn h rfl ?_);refine ah (fO h rfl ?_ (by rw[aD,b9];omega) (bi _));refine ah (ajM g rfl ?_);refine ah (ajW ?_ (by show vs.length<=_;rw[b9];omega));refine ah (ai6 ?_ (bi _));refine bR ?_;refine abw (s:={s with heap:=((s.heap.update a (bX λ_=>(#[]:Array ae))).push (ci "tuple" vs.toArray 0)).push (ci "list" #[] 0)}) (kS:=((s.heap.update a (bX λ_=>(#[]:Array ae))).push (ci "tuple" vs.toArray 0)).objs.size)
  J (aP _ rfl) (aj _ (aj _ g)) (by rw[e];exact eA (cU ha)) ⟨?_,?_⟩ j ?_ x B C turn G
 .rw[e];exact r.jo.fresh (by show(s.heap.update a _).objs.size<=_;rw[gq];exact ck _)
 .rw[e];exact dZ (dF lt)
 .rw[e];exactλz=>absurd (y _ z) (Nat.not_lt.mpr (dF lt))
theorem RP{l:ak}{Q:ae->aq->Prop}{q:ak}(r:fN s.gens)(j:xv P w H s.heap)(n:∀b∈fs,b<s.heap.objs.size)(x:s.heap.IsList l vs.toArray)(y:ss.length=vs.length)(B:vs.length<64)
(turn:∀(i:Nat) (v:ae) (k:ay) (s1:aq),vs[i]?=aa v->ss[i]?=aa k->Cq P w fs H s s1->wpAny (model P w) A.in1.in1 (call (.ref q) [v]) (λu s2=>(∃t,u=.str k t)/\Cq P w fs H s1 s2) (λ_ _=>False) s1)
(C:∀p c out g,Cq P w fs H s c->s.heap.objs.size<=p->c.heap.get? p=aa (ci "list" out g)->RO ss vs out.toList->Q (.ref p) c):
  wpAny (model P w) A (call (.builtin "sorted") [.ref l] [(cL "key",.ref q)]) Q E s:=by
 refine call_function_entry_kw aku akk akl (ksk_s1 _ _) ?_;unfold bE.«sorted»;refine ah (m:=akC "sorted" 1 1 _) (aw ?_);refine ah (collect_list x ?_ (by rw[b9];omega));refine ah (ai6 ?_ (by rw[b9];omega));have h:((s.heap.push (ci "list" #[] 0)).update s.heap.objs.size (bX (·++vs.toArray))).objs.size=s.heap.objs.size+1:=by rw[gq,ajY]
 have e:(((s.heap.push (ci "list" #[] 0)).update s.heap.objs.size (bX (·++vs.toArray))).push (ci "list" vs.toArray 0)).get? (s.heap.objs.size+1)=aa (ci "list" vs.toArray 0):=by rw[<-h];exact aP _ rfl
 have keep:∀b o,s.heap.get? b=aa o->(((s.heap.push (ci "list" #[] 0)).update s.heap.objs.size (bX (·++vs.toArray))).push (ci "list" vs.toArray 0)).get? b=aa o:=λb o z=>by have lt:b<s.heap.objs.size:=aN z;rw[az.get?_push_ne _ _ _ (by rw[h];exact bf (cU lt)),az.get?_update_ne _ _ _ _ (bf lt),az.get?_push_ne _ _ _ (bf lt)];exact z
 show wpAny _ _ _ _ _ {s with heap:=((s.heap.push (ci "list" #[] 0)).update s.heap.objs.size (bX (·++vs.toArray))).push (ci "list" vs.toArray 0)};rw[h];have G:Cq P w fs H s {s with heap:=((s.heap.push (ci "list" #[] 0)).update s.heap.objs.size (bX (·++vs.toArray))).push (ci "list" vs.toArray 0),toks:=s.toks}:=(Cq.refl r j).kept keep;refine ah (bR (wpAny_call_entry_kw ajX ⟨_,e,rfl⟩ ajO ?body (ksk_l1 _ _)));case body=>
  show wpAny (model P w) A.in1.in1 (bE.«list.sort» ⟨[.ref (s.heap.objs.size+1)],[(cL "key",.ref q)]⟩) _ _ _;rw[ksk_t1];refine abx G e ⟨j.fresh (ck _),dZ (ck _)⟩ (λz=>absurd (n _ z) (Nat.not_lt.mpr (ck _))) n (ck _) y B turn λc out g I J L=>⟨_,rfl,?_⟩;exact aw ⟨_,rfl,C _ c out g I (ck _) J L⟩
end
open PySem.W
theorem Yu{P:ba}{w:bI}{H:Hp}{h:az}{c:ak}{q:ay}(x:h.CodeRec (.ref c) q):jK P w H h c (Gk c q):=by
 refine⟨x,?_,λf i ⟨b,o,a,t,e,g,r⟩ k=>?_⟩
 .obtain⟨b,o,a,t,e,g,r⟩:=x;cases e;exact⟨o,g⟩
 .cases e;exact⟨c,o,a,t,rfl,k _ g,r⟩
theorem VU{P:ba}{w:bI}{H:Hp}{h:az}{c:ak}{q:ay}(x:jK P w H h c (Gk c q)):h.CodeRec (.ref c) q:=x.1
theorem Mr{x y c:ae}{i j:Int}{t u:akr}(e:x=.int i t)(m:y=.int j u)(l:List ae)(h:fH l):fH (l++[x,y,c]):=by
 subst e m
 fun_induction fH l with
 |case1=>simp[fH]
 |case2 a b d f g r n=>simpa[fH] using n h
 |case3=>exact h.elim
theorem RQ{pos:d8}{i j:Int}{t u:akr}{c v:ae}(l:List ae)(h:fH l)(e:ajb pos (l++[.int i t,.int j u,c])=aa v):ajb pos l=aa v\/v=c:=by
 fun_induction fH l with
 |case1=>
  simp only [bQ,ajb] at e;split at e
  .cases e;exact .inr rfl
  .cases e
 |case2 a b d f g r n=>
  simp only [fg,ajb] at e |-;split at e
  .rename_i m;rw[if_pos m];exact .inl e
  .rename_i m;rw[if_neg m];exact n h e
 |case3=>exact h.elim
structure aby(cv:az)(mg:ay->Option ae)(cd:ae)(c P:ak):Prop where
 cd:cd=.ref c
 hd:CodeHd cv c P
 bl:cv.BuiltinsAt mg P
 gP:aY≠P
theorem Lh{h a:az}{mg:ay->Option ae}{P:ak}(x:h.BuiltinsAt mg P)(k:∀b o,h.get? b=aa o->a.get? b=aa o):a.BuiltinsAt mg P:=
 let⟨c,e,b1,b2,b3,b4,b5,b6⟩:=x;⟨c,e,b1,b2,b3,b4,k _ _ b5,b6⟩
section
variable {X:Cx} {cq:List (ak×cm)} {σ:L2.St} {H:Hp} {s:aq} {A:bv} {E:ae->aq->Prop} {c P:ak} {ps:Array ae} {params:ajp} {body:bC} {scope:df} {pos:d8} {Q:ae->aq->Prop}
theorem abz{a:ak}{q:ay}{h:az}{more:Array ae}(I:Inv X cq σ H s)(i:H P=aa (.A8 ps))(j:ajf P s.heap h)(y:s.heap.objs.size<=a)(rc:h.CodeRec (.ref a) q)(ht:h.get? P=aa (tabObj (ps++more))):
  Un X.fs [] H (upd (upd H a (Gk a q)) P (.A8 (ps++more))) s.heap h/\xv X.prog X.w (upd (upd H a (Gk a q)) P (.A8 (ps++more))) h:=by
 have m:H a=ao:=I.jo.fresh y;have C:a≠P:=λz=>by rw[z,i] at m;cases m
 have r:∀{b:ak},H b=ao->b≠P:=λe z=>by rw[z,i] at e;cases e
 have B:∀{b:ak} {o:cm},s.heap.get? b=aa o->b≠a:=λe=>bf (bB (aN e) y);have nt:∀{b:ak} {o:HO},H b=aa o->(∀ps,o≠.A8 ps)->b≠P/\b≠a:=λ{b o} e n=>⟨λz=>by rw[z,i] at e;exact n ps (bD e).symm,λz=>by rw[z,m] at e;cases e⟩;refine⟨⟨λb o e n _ _=>j b o (r n) e,λb o e n _ _=>⟨o.slots,j b o (r n) e⟩,λb o e n _=>?_,λb o e _=>?_,λb xs e=>?_,λb o u e=>?_,λb G e=>?_⟩,λb o e=>?_⟩
 .rw[g9 (r n),g9 (B e)];exact n
 .by_cases z:b=P
  .exact⟨_,z▸ht⟩
  .exact⟨o,j b o z e⟩
 .obtain⟨f,g⟩:=nt e (λ_ z=>by cases z);rw[g9 f,g9 g];exact e
 .obtain⟨f,g⟩:=nt e (λ_ z=>by cases z);rw[g9 f,g9 g];exact e
 .by_cases z:b=P
  .subst z;rw[i] at e;cases e;exact⟨more,ip⟩
  .have p:b≠a:=λz=>by rw[z,m] at e;cases e
   exact⟨#[],by rw[g9 z,g9 p,e];simp⟩
 .by_cases z:b=P
  .subst z;rw[ip] at e;cases e;exact ht
  .rw[g9 z] at e;by_cases p:b=a
   .subst p;rw[ip] at e;cases e;exact Yu rc
   .rw[g9 p] at e;refine(I.jo b o e).FZ (λv u x q=>j v u ?_ q) (λv q=>?_) (λv xs q=>?_)
    .rcases x with rfl|x
     .exact z
     .exact(nt x (λ_ z=>by cases z)).1
    .obtain⟨f,g⟩:=nt q (λ_ z=>by cases z);rw[g9 f,g9 g];exact q
    .obtain⟨f,g⟩:=nt q (λ_ z=>by cases z);rw[g9 f,g9 g];exact q
theorem Yv(L:aby X.cv X.mg X.env.code c P)(I:Inv X cq σ H s)(n:H P=aa (.A8 ps))(g:TX (X.env.qual++"<lambda>") H ps)(p:ajw scope X.env=pure [])(U:akE params X.env=([],[]))
(N:∀f a pm h r y,Inv X cq σ r y->s.heap.objs.size<=f->r f=ao->y.heap.get? f=aa (kla_obj "<lambda>" (X.env.qual++"<lambda>") params body scope [] pm a h)->r a=aa (Gk a (X.env.qual++"<lambda>"))->wU P (X.env.qual++"<lambda>") H r->Q (.ref f) y):
  wpAny (model X.prog X.w) A (eval (.Lambda params body scope pos) X.env) Q E s:=by
 have O:s.heap.get? P=aa (tabObj ps):=(show jK X.prog X.w H s.heap P (.A8 ps) from I.jo P _ n);refine kla_eval U ?_;cases e:ajb pos ps.toList with
 |none=>
  refine kla_makeFunction (mg:=X.mg) p I.ok.glob (I.mod.glob.keeps I.bk) L.cd (L.hd.keeps I.bk) O g.ok e L.gP (Lh L.bl I.bk) λa h i q Y B lt rc ht=>?_;obtain⟨u1,T⟩:=abz (more:=#[ai2 pos.line,ai2 pos.col,.ref a]) I n Y B rc ht;have u:=I.un (t':=q) u1 T;have x:H a=ao:=I.jo.fresh B;have G:a≠P:=λz=>by rw[z,n] at x;cases x
  have J:=u.kept (t':=q) (h':=i.push (kla_obj "<lambda>" (X.env.qual++"<lambda>") params body scope [] ((X.mg "__name__").getD .none) a h)) λb o e=>aj _ e;refine N _ a _ h _ _ J (bG B (dF lt)) (T.fresh (aM _)) (aP _ rfl) (by rw[g9 G,ip]) ⟨⟨_,ip,?_,λpos' v m=>?_⟩,.inr ⟨a,_,x,G,rfl⟩⟩
  .rw[Array.toList_append];exact Mr rfl rfl _ g.ok
  .rw[Array.toList_append] at m;rcases RQ _ g.ok m with m|m
   .obtain⟨c2,M,j⟩:=g.cs pos' v m;refine⟨c2,M,?_⟩;rw[g9 (λz=>by rw[z,n] at j;cases j),g9 (λz=>by rw[z,x] at j;cases j)];exact j
   .exact⟨a,m,by rw[g9 G,ip]⟩
 |some v=>
  obtain⟨a,M,j⟩:=g.cs pos v e;refine kla_makeFunctionHit (mg:=X.mg) p I.ok.glob (I.mod.glob.keeps I.bk) L.cd (L.hd.keeps I.bk) O g.ok e (Lh L.bl I.bk) λh i q k sz=>?_;subst M;have u:=I.kept (t':=q) (h':=i) k;have J:=u.kept (t':=q) (h':=i.push (kla_obj "<lambda>" (X.env.qual++"<lambda>") params body scope [] ((X.mg "__name__").getD .none) a h)) λb o e=>aj _ e;exact N _ a _ h H _ J sz (u.jo.fresh (aM _)) (aP _ rfl) j ⟨⟨ps,n,g⟩,.inl rfl⟩
end
section
variable {P:ba} {w:bI} {K:bz} {mg:ay->Option ae} {cv:az} {A:bv} {dk:List ajk} {s:aq} {H:Hp} {f c:ak} {x qual:ay} {params:ajp} {body:bC} {scope:df} {pm QZ:ae} {t:TE} {u:ae} {v:V} {Q:VK} {k:Nat}
theorem Yw(g:Gb P w K mg cv A dk s H)(h:jU (k+1) A)(p:s.heap.get? f=aa (kla_obj "<lambda>" qual params body scope [] pm c QZ))(rc:s.heap.CodeRec (.ref c) qual)(S:gU [x] [x] scope)
(B:∀u,dY (kla_fn "<lambda>" qual params body scope [] pm (.ref c) QZ) ⟨[u],[]⟩=pure [(x,u)])(C:RelV v u)
(E:jU k (A.deeper (d7 qual scope s.heap.objs.size f (.ref c)))->PE (vC p8 P w K mg cv [x] qual scope f (.ref c) A dk s H E0).KI body t)(q:t [aa v] H Q):
  codeAny (model P w) A (.call (.ref f) ⟨[u],[]⟩) (λr i=>∃a,r=.ok (.ret a)/\CE dk P w H s Q a i) s:=by
 have j:s.heap.NoLimit:=g.mod.nolimit.keeps λb o e=>(g.bs b o e).1;have G:∀y∈[(x,u)],scope.names.lookup y.1=aa .local\/(scope.names.lookup y.1=aa .cell/\((aka (s.heap.objs.size+1) scope.names []).lookup y.1).isSome=ag):=λy L=>by
  rw[bS.mp L];rcases S.par x (by simp) with z|z
  .exact .inl z
  .exact .inr ⟨z,W.cellsFrom_some _ _ _ (.inl z)⟩
 refine kla_callFunE h.depth p rfl S.co S.gen rfl rc ?_;rw[B u];refine aw (ajT S.kind G λenv M s1 z=>?_);subst M;refine⟨j.keeps z.toInCall.keep,kla_codeExpr ?_⟩;have I:Inv (vC p8 P w K mg cv [x] qual scope f (.ref c) A dk s H E0) [] (start [x] [v]) H s1:=KR (ps:=[x]) (us:=[u]) S h.hd g rfl (.cons C .nil) z;refine cw ((E (h.deeper _)).KI [] s1 (start [x] [v]) H Q I q) (λa i m=>?_) λe i m=>?_
 .obtain⟨N,O,J,n,T⟩:=m;exact⟨a,rfl,N,O,J.os,J.bare,J.cv,J.jo,n,T⟩
 .refine cw m (λ_ _ z=>(show False from z).elim) (λ_ _ z=>(show False from z).elim)
end
section
variable {K:bz} {H H':Hp}
def sg (K:bz)(H:Hp):List V->List ay->Prop
 |[],[]=>True
 |y::b,k::c=>(∃a zs,y=.ref a/\Bb K H a (.str k::zs))/\sg K H b c
 |_,_=>False
theorem sg.length:∀{a:List V} {b:List ay},sg K H a b->a.length=b.length
 |[],[],_=>rfl
 |[],_::_,h=>h.elim
 |_::_,[],h=>h.elim
 |_::a,_::b,h=>by rw[aU,aU,sg.length h.2]
theorem sg.get:∀{b:List V} {c:List ay} {i:Nat} {y:V} {k:ay},sg K H b c->b[i]?=aa y->c[i]?=aa k->∃a zs,y=.ref a/\Bb K H a (.str k::zs)
 |[],[],i,y,k,_,e,_=>by simp at e
 |[],_::_,_,_,_,h,_,_=>h.elim
 |_::_,[],_,_,_,h,_,_=>h.elim
 |y::b,k::c,0,_,_,h,e,g=>by simp at e g;subst e g;exact h.1
 |y::b,k::c,i+1,_,_,h,e,g=>sg.get h.2 (by simpa using e) (by simpa using g)
theorem wU.keep{P:ak}{q:ay}(t:wU P q H H')(f:∃a,H P=aa (.A8 a)){b:ak}{o:HO}(e:H b=aa o)(n:∀a,o≠.A8 a):H' b=aa o:=by
 obtain⟨a,f⟩:=f;rcases t.2 with h|⟨c,g,i,j,h⟩
 .rw[h];exact e
 .rw[h,g9 (λz=>by rw[z,f] at e;exact n a (bD e).symm),g9 (λz=>by rw[z,i] at e;cases e)];exact e
theorem wU.sqL{P:ak}{q:ay}(t:wU P q H H')(b:∃c,H P=aa (.A8 c)){a:ak}{xs:List V}(h:p7 K H a xs):p7 K H' a xs:=by
 rcases h with(h|⟨o,h⟩)|h
 .exact .inl (.inl (t.keep b h (λ_ z=>by cases z)))
 .exact .inl (.inr ⟨o,t.keep b h (λ_ z=>by cases z)⟩)
 .exact .inr h
theorem wU.sqT{P:ak}{q:ay}(t:wU P q H H')(b:∃c,H P=aa (.A8 c)){a:ak}{xs:List V}(h:Bb K H a xs):Bb K H' a xs:=by
 rcases h with(h|⟨o,h⟩)|h
 .exact .inl (.inl (t.keep b h (λ_ z=>by cases z)))
 .exact .inl (.inr ⟨o,t.keep b h (λ_ z=>by cases z)⟩)
 .exact .inr h
theorem wU.keyed{P:ak}{q:ay}(t:wU P q H H')(f:∃g,H P=aa (.A8 g)):∀{b:List V} {c:List ay},sg K H b c->sg K H' b c
 |[],[],_=>trivial
 |[],_::_,h=>h.elim
 |_::_,[],h=>h.elim
 |_::b,_::c,⟨⟨a,zs,e,h⟩,r⟩=>⟨⟨a,zs,e,t.sqT f h⟩,t.keyed f r⟩
noncomputable def mT{β:Type}(a:List ay)(b:List β):List β:=(L3.Uk bh (a.zip b)).map Prod.snd
def KVs:List (ay×V)->List (ay×ae)->Prop:=Paired λp q=>p.1=q.1/\RelV p.2 q.2
theorem Ut{p:ay×V}{q:ay×ae}(r:p.1=q.1/\RelV p.2 q.2):∀{l:List (ay×V)} {m:List (ay×ae)},KVs l m->KVs (L3.xL bh p l) (L3.xL bh q m)
 |_,_,.nil=>.cons r .nil
 |_,_,.cons (a:=a) (b:=b) h t=>by
  unfold L3.xL;rw[r.1,h.1];split
  .exact .cons r (.cons h t)
  .exact .cons h (Ut r t)
theorem Uu:∀{l:List (ay×V)} {m:List (ay×ae)},KVs l m->KVs (L3.Uk bh l) (L3.Uk bh m)
 |_,_,.nil=>.nil
 |_,_,.cons h t=>Ut h (Uu t)
theorem Uv:∀(a:List ay) {b:List V} {c:List ae},Vals b c->KVs (a.zip b) (a.zip c)
 |[],_,_,_=>.nil
 |_::_,_,_,.nil=>.nil
 |_::a,_,_,.cons r t=>.cons ⟨rfl,r⟩ (Uv a t)
theorem Uw:∀{l:List (ay×V)} {m:List (ay×ae)},KVs l m->Vals (l.map Prod.snd) (m.map Prod.snd)
 |_,_,.nil=>.nil
 |_,_,.cons h t=>.cons h.2 (Uw t)
theorem RR{a:List ay}{b:List V}{c:List ae}(r:Vals b c):Vals (mT a b) (mT a c):=Uw (Uu (Uv a r))
theorem OW{β:Type}{c:List ay}{g:List β}(nd:c.Nodup):∀a∈c.zip g,∀b∈c.zip g,a.1=b.1->a=b:=by intro a ha b m e;obtain⟨i,hi⟩:=dP.mp ha;obtain⟨j,f⟩:=dP.mp m;have h:=f6.mp hi;have n:=f6.mp f;have lt:=(au.mp h.1).1;have:i=j:=(List.getElem?_inj lt nd).mp (h.1.trans (by rw[n.1,e]));subst this;rw[hi] at f;exact bD f
theorem Yx{a:List ay}{b out:List ae}(nd:a.Nodup)(h:RO a b out):out=mT a b:=by obtain⟨g,c,e,f⟩:=h;rw[e,L3.Mh (key:=bh) c f (OW nd)];rfl
end
section
variable {X:Cx} {c P:ak} {e:bC} {te:TE} {p pos Mt Rc np sp cp:d8} {params:ajp} {scope:df} {x:ay} {k j:Nat}
def aeE (K:bz)(P:ak)(q:ay)(te:TE):TE:=λσ H Q=>te σ H λv H1=>∃a b f h,v=.ref a/\p7 K H1 a b/\sg K H1 b f/\f.Nodup/\b.length<64/\H1 P=aa (.A8 h)/\TX q H1 h/\
 ∀g l,wU P q H1 g->g l=ao->Q (.ref l) (upd g l (.lst (mT f b)))
theorem Yy(L:aby X.cv X.mg X.env.code c P)(hr:jU (k+4) X.A)(ms:X.mg "sorted"=ao)(he:PE X e te)(S:gU [x] [x] scope)(hd:(x==("__debug__":ay))=ar)(KG:(x==("__classdict__":ay))=ar)(hv:Vis scope x)
(T:ajw scope X.env=pure [])(WS:akE params X.env=([],[]))
(hb:∀pm c U u,dY (kla_fn "<lambda>" (X.env.qual++"<lambda>") params (.Subscript (.Name x np) (.Constant (.int 0) j cp) sp) scope [] pm (.ref c) U) ⟨[u],[]⟩=pure [(x,u)])(gs:Gl X "sorted":=by rfl)
(Y:bc [e] X.env=[(ar,eval e X.env)]:=by rfl)
(h2:eI [⟨aa "key",.Lambda params (.Subscript (.Name x np) (.Constant (.int 0) j cp) sp) scope Mt,Rc⟩] X.env=[(aa (cL "key"),eval (.Lambda params (.Subscript (.Name x np) (.Constant (.int 0) j cp) sp) scope Mt) X.env)]:=by rfl):
  PE X (.Call (.Name "sorted" p) [e] [⟨aa "key",.Lambda params (.Subscript (.Name x np) (.Constant (.int 0) j cp) sp) scope Mt,Rc⟩] pos) (aeE X.K P (X.env.qual++"<lambda>") te):=by
 intro cq s σ H Q I h;refine dQ (Ah I gs ms (u:=.builtin "sorted") (by rfl) ?_ (by decide) (by decide));have hA:(ajn pos (eI [⟨aa "key",.Lambda params (.Subscript (.Name x np) (.Constant (.int 0) j cp) sp) scope Mt,Rc⟩] X.env)).all (·.1.isSome)=ag:=by rw[h2];rfl
 refine callWith_builtin_kwB (by rw[Y];rfl) (by rw[h2];rfl) (evalArgs_kw2 hA ?_ Y);rw[Y,h2];refine Calls.spliced_cons (kq (he cq s σ H _ I h) λu s1 ⟨v,H1,N,rv,a,B,C,O,ev,hq,hk,nd,VF,hP,gt,q⟩=>Calls.spliced_nil ?_);subst ev;cases rv;show wpAny _ _ (evalAll [(do let v<-eval (.Lambda params (.Subscript (.Name x np) (.Constant (.int 0) j cp) sp) scope Mt) X.env;ajC pos;pure v)]) _ _ s1;refine wpAny_evalAll_cons (ah (Yv L N hP gt T WS λf c' pm U g s2 m fz fn fo rc tt=>ah (ai1 (aw (wpAny_evalAll_nil ?_)))));show wpAny (model X.prog X.w) X.A (call (.builtin "sorted") ([]++[bH a]) [(cL "key",.ref f)]) _ _ s2;have J:∃O,H1 P=aa (.A8 O):=⟨O,hP⟩;obtain⟨ia,r',pl,hz⟩:=m.list (tt.sqL J hq);have jH:=r'.length;have kl:=hk.length;have ff1:∀b∈E4 X.stack,b<s1.heap.objs.size:=λb z=>by
  rcases aO.mp (N.Ag b z) with z|z
  .rw[z];exact N.lt
  .exact Nat.lt_of_not_le λy=>N.adp y z
 have ff:∀b∈E4 X.stack,b<s2.heap.objs.size:=λb z=>by
  rcases aO.mp (m.Ag b z) with z|z
  .rw[z];exact m.lt
  .exact Nat.lt_of_not_le λy=>m.adp y z
 refine RP (fs:=E4 X.stack) (H:=g) (ss:=C) m.bare m.jo ff pl.isList (by omega) (by omega) (λi v key s3 M hk3 E=>?_) (λp s' out c'' G pz hp ho=>?_)
 .have hI:Inv X cq σ g s3:=m.W7 E.os E.un E.jo E.bare (λb z=>absurd z (by simp));obtain⟨y,hy,ry⟩:∃y,B[i]?=aa y/\RelV y v:=by
   have li:i<B.length:=by have:=(au.mp M).1;omega
   obtain⟨u3,e3,r3⟩:=r'.get (aJ li);rw[M] at e3;cases e3;exact⟨_,aJ li,r3⟩
  obtain⟨ya,zs,ey,hy2⟩:=(tt.keyed J hk).get hy hk3;subst ey;cases ry;have fo3:=E.at fo fn λz=>absurd (ff1 _ z) (Nat.not_lt.mpr fz);have rc3:s3.heap.CodeRec (.ref c') (X.env.qual++"<lambda>"):=VU (E.jo c' _ rc);refine ajS (fq (Yw (k:=k) (t:=tOp (af5 X.K) (afA 0) (tC (.int 0))) (Q:=λv H'=>v=.str key/\H'=g) (A:=X.A.in1.in1) (dk:=X.stack) hI.adU.in1.in1 (jU.mono (hr.in1.in1) (by omega)) fo3 rc3 S (λu=>hb pm c' U u) (v:=.ref ya) rfl (λ_=>?_) ?_) λr s4 hr4=>?_)
  .exact acD Xx (Q1 (i:=0) rfl hv hd KG) W8 (λ_ _=>rfl)
  .exact⟨.ref ya,rfl,ya,_,0,.str key,rfl,rfl,hy2,by unfold vE QU;simp,rfl,rfl⟩
  .obtain⟨u',rfl,v',H',os,bare,un,jo,rv',e1,e2⟩:=hr4;subst e1 e2;exact⟨rv',⟨os,bare,jo,un⟩⟩
 .have fp:g p=ao:=m.jo.fresh pz;have lz:(mT C B).length<=aC:=by
   have z:(mT C B).length=(C.zip B).length:=by unfold mT;rw[ai];exact(L3.xM _ _).length_eq
   rw[z,dL,b9];omega
  have eo:=Yx nd ho;have ne:∀{b:ak} {u:HO},g b=aa u->b≠p:=λe z=>by rw[z,fp] at e;cases e
  have un:Un (E4 X.stack) [] g (upd g p (.lst (mT C B))) s2.heap s'.heap:=⟨G.un.keep,G.un.slot,λb o e n hx=>by rw[g9 (bf (bB (aN e) pz))];exact n,G.un.there,λb xs e=>by rw[g9 (ne e)];exact e,λb o u e=>by rw[g9 (ne e)];exact e,λb O e=>⟨#[],by rw[g9 (ne e),e];simp⟩⟩;have jo:xv X.prog X.w (upd g p (.lst (mT C B))) s'.heap:=λb o e=>by
   by_cases z:b=p
   .subst z;rw[ip] at e;cases e;exact⟨lz,out.toList,c'',by rw[eo];exact RR r',by rw[Array.toArray_toList];exact hp⟩
   .rw[g9 z] at e;exact(G.jo b o e).FZ (λ_ _ _ q=>q) (λb' q=>by rw[g9 (ne q)];exact q) λb' xs q=>by rw[g9 (ne q)];exact q
  exact⟨.ref p,_,m.W7 G.os un jo G.bare (λb z=>absurd z (by simp)),rfl,q g p tt fp⟩
end
end L2
namespace L3
open L2
theorem agD{K:bz}{H a:Hp}{c P:ak}(t:Tb K H)(e:W.tabIn K "by_name"=aa (c,P))(tt:wU P (aeh "by_name") H a):Tb K a:=λx b f g e'=>by
 have ex:x="by_name":=by simpa[abb] using b
 subst ex;rw[e] at e';cases e';exact tt.1
theorem VW{H a:Hp}{P:ak}{q:ay}(tt:wU P q H a)(f:∃c,H P=aa (.A8 c)):ED H a:=λb o e v=>tt.keep f e λc z=>by rw[z] at v;cases v
section
variable {K:bz} {α:List ak} {H:Hp}
def G5:List D->List ay->Prop
 |[],[]=>True
 |x::xs,k::a=>(∃ds,x=.tup (.str k::ds))/\G5 xs a
 |_,_=>False
theorem G6{f:Hp}(e:jV H f):∀{xs:List D} {c:List ay} {b:List V},G5 xs c->gJ K α H xs b->sg K f b c
 |[],[],b,_,r=>by unfold gJ at r;subst r;trivial
 |[],_::_,_,h,_=>h.elim
 |_::_,[],_,h,_=>h.elim
 |x::xs,k::c,b,⟨⟨ds,ex⟩,h⟩,r=>by subst ex;unfold gJ at r;obtain⟨v,n,rfl,z,y⟩:=r;unfold Rep at z;obtain⟨a,ws,rfl,j,g⟩:=z;unfold gJ at g;obtain⟨u,m,rfl,i,_⟩:=g;unfold Rep at i;subst i;exact⟨⟨a,m,rfl,nL e j⟩,G6 e h y⟩
theorem Li{k:ay}{x:D}{v:V}(r:Rep K α H x v):∀{c:List ay} {xs:List D} {f:List V},gJ K α H xs f->c.length=xs.length->∃(a:List ay) (b:List D) (j:List V),xL bh (k,x) (c.zip xs)=a.zip b/\xL bh (k,v) (c.zip f)=a.zip j/\a.length=b.length/\gJ K α H b j
 |[],xs,f,h,l=>by
  have e:xs=[]:=by cases xs<;>simp_all
  subst e;unfold gJ at h;subst h;exact⟨[k],[x],[v],rfl,rfl,rfl,gJ.one r⟩
 |k'::c,[],f,h,l=>by simp at l
 |k'::c,y::xs,f,h,l=>by
  unfold gJ at h;obtain⟨u,m,rfl,z,t⟩:=h;rw[ce,ce];unfold xL;by_cases e:xr k k'=ag
  .rw[if_pos e,if_pos e];exact⟨k::k'::c,x::y::xs,v::u::m,rfl,rfl,by simpa using l,gJ.cons r (gJ.cons z t)⟩
  .rw[if_neg e,if_neg e];obtain⟨g,i,n,o,p,q,w⟩:=Li (k:=k) r t (by simpa using l);exact⟨k'::g,y::i,u::n,by rw[o];rfl,by rw[p];rfl,by simpa using q,gJ.cons z w⟩
theorem OX:∀{c:List ay} {xs:List D} {f:List V},gJ K α H xs f->c.length=xs.length->∃(a:List ay) (b:List D) (g:List V),Uk bh (c.zip xs)=a.zip b/\Uk bh (c.zip f)=a.zip g/\a.length=b.length/\gJ K α H b g
 |[],xs,f,h,l=>by
  have e:xs=[]:=by cases xs<;>simp_all
  subst e;unfold gJ at h;subst h;exact⟨[],[],[],rfl,rfl,rfl,gJ.nil⟩
 |k'::c,[],f,h,l=>by simp at l
 |k::c,y::xs,f,h,l=>by unfold gJ at h;obtain⟨u,q,rfl,z,t⟩:=h;rw[ce,ce];unfold Uk;obtain⟨i,j,r,m,n,o,p⟩:=OX t (show c.length=xs.length by simpa using l);rw[m,n];exact Li z p o
theorem RT{a:List ay}{xs:List D}{b:List V}(h:gJ K α H xs b)(l:a.length=xs.length):gJ K α H (mT a xs) (mT a b):=by obtain⟨e,f,j,g,i,m,c⟩:=OX h l;have n:=gJ.length _ _ c;unfold mT;rw[g,i,gu (by omega),gu (by omega)];exact c
theorem G7:∀{xs:List D} {a:List ay},G5 xs a->xs.length=a.length
 |[],[],_=>rfl
 |[],_::_,h=>h.elim
 |_::_,[],h=>h.elim
 |_::xs,_::a,h=>by rw[aU,aU,G7 h.2]
end
section
variable {X:Cx} {c P:ak} {e:bC} {te:DE} {p pos Mt Rc np sp cp:d8} {params:ajp} {scope:df} {x:ay} {k j:Nat}
def Yz (te:DE):DF:=λb M Q=>te b M λd M1=>∃xs a,vw M1 d=.lst xs/\G5 xs a/\a.Nodup/\xs.length<64/\Q (.lst (mT a xs)) M1
structure agE(X:Cx):Prop where
 ex:∃c P,W.tabIn X.K "by_name"=aa (c,P)/\aby X.cv X.mg X.env.code c P
 q:X.env.qual++"<lambda>"=aeh "by_name"
theorem YA(L:agE X)(J:jU (k+4) X.A)(ms:X.mg "sorted"=ao)(h:JE X e te)(S:gU [x] [x] scope)(hd:(x==("__debug__":ay))=ar:=by decide)(N:(x==("__classdict__":ay))=ar:=by decide)(O:Vis scope x:=by first|exact ai8 rfl|exact gm (ai8 rfl))
(i:ajw scope X.env=pure []:=by rfl)(T:akE params X.env=([],[]):=by rfl)
(U:∀pm c Y u,dY (W.kla_fn "<lambda>" (X.env.qual++"<lambda>") params (.Subscript (.Name x np) (.Constant (.int 0) j cp) sp) scope [] pm (.ref c) Y) ⟨[u],[]⟩=pure [(x,u)]:=by intros;rfl)(gs:Gl X "sorted":=by rfl)
(h1:bc [e] X.env=[(ar,eval e X.env)]:=by rfl)
(h2:eI [⟨aa "key",.Lambda params (.Subscript (.Name x np) (.Constant (.int 0) j cp) sp) scope Mt,Rc⟩] X.env=[(aa (cL "key"),eval (.Lambda params (.Subscript (.Name x np) (.Constant (.int 0) j cp) sp) scope Mt) X.env)]:=by rfl):
  JF X (.Call (.Name "sorted" p) [e] [⟨aa "key",.Lambda params (.Subscript (.Name x np) (.Constant (.int 0) j cp) sp) scope Mt,Rc⟩] pos) (Yz te):=by
 obtain⟨c,P,ht,LK⟩:=L.ex;refine⟨λb M A B w q=>h.mono b _ _ _ (λd M1 q=>?_) q,PE.weak (Yy LK J ms h.p S hd N O i T U gs h1 h2) λσ H Q q=>?_⟩
 .obtain⟨xs,m,n,f,o,C,q⟩:=q;exact⟨xs,m,n,f,o,C,w _ _ q⟩
 .obtain⟨F,α,b,M,r,q⟩:=q;refine⟨F,α,b,M,r,h.mono b _ _ _ (λd M1 q v iF H1 e1 g r1=>?_) q⟩;obtain⟨xs,m,n,f,o,C,q⟩:=q;obtain⟨a,vs,rfl,sq,y⟩:=ki g r1 n;obtain⟨E,G,hg⟩:=g.tb "by_name" (by simp[abb]) c P ht;have hl:=gJ.length _ _ y;refine⟨a,vs,m,E,rfl,p7.of sq,G6 il f y,o,by omega,G,by rw[L.q];exact hg,λH2 l tt z=>?_⟩;rw[L.q] at tt;obtain⟨o2,I⟩:=g.acS (VW tt ⟨E,G⟩) (agD g.tb ht tt);exact q l _ iF H2 (e1.trans I) o2 z ⟨_,rfl,RT (I.Ju y) (G7 f).symm⟩
end
structure G8(K:bz)(mg:ay->Option ae)(cv:az):Prop where
 kin:K.In cv
 glob:cv.Ns aY mg
 tab:∃c P,W.tabIn K "by_name"=aa (c,P)/\W.CodeHd cv c P/\cv.BuiltinsAt mg P/\aY≠P
def agF (K:bz)(mg:ay->Option ae)(cv:az)(iC:ae):Prop:=∃c P,W.tabIn K "by_name"=aa (c,P)/\aby cv mg iC c P
section
variable {P:ba} {w:bI} {K:bz} {mg:ay->Option ae} {cv:az}
theorem agG{st:bL}{N a:List ay}{k:Nat}{body:List bL}{scope:df}{tb:DS}(F:hG K mg "by_name" st)(b:G8 K mg cv)(e:i7 st=body)(es:iA st=scope)(S:gU N a scope)
(g:∀(kV doc pm:ae) (an:Option ak) (iC ct:ae) (us:List ae),us.length=a.length->dY (dt "by_name" "by_name" (lr st) (i7 st) (iA st) .none kV doc pm an iC ct) ⟨us,[]⟩=pure (a.zip us))
(i:∀(f:ak) (iC:ae) (A:bv) (dk:List ajk) (s:aq) (H:Hp) (E:XK),agF K mg cv iC->jU k (A.deeper (d7 "by_name" scope s.heap.objs.size f iC))->Ou (vC p8 P w K mg cv N "by_name" scope f iC A dk s H E).KI body tb):
  ny P w K mg cv (k+1) "by_name" a (jX K (cl (jB N.length a.length tb))):=by obtain⟨f,fd,F,m⟩:=F;obtain⟨c,j,ht,hd,bl,gP⟩:=b.tab;refine⟨f,fd,m,F.kp,F.binds g,?_⟩;obtain⟨oc,od,kV,doc,pm,an,iC,ct,TJ,rfl,lk,n⟩:=F.ex;have u:iC=.ref c:=W.law_code b.kin b.glob ht m (b.kin _ _ lk) rfl;subst e es;refine acB lk n S (λv H Q E ⟨F,α,M,ds,o,r,hn,x,q⟩=>by rw[<-gJ.length _ _ r];exact x) λA dk s H v Q E y h=>?_;obtain⟨t,q,z⟩:=Ro (ps:=a) (i f iC A dk s H E ⟨c,j,ht,u,hd,bl,gP⟩ y) rfl h;exact⟨t,q.p.KI,z⟩
theorem aiw{N:List ay}{scope:df}{f:ak}{iC:ae}{A:bv}{dk:List ajk}{s:aq}{H:Hp}{E:XK}(h:agF K mg cv iC):agE (vC p8 P w K mg cv N "by_name" scope f iC A dk s H E).KI:=⟨h,rfl⟩
end
theorem agH{K:bz}(h:W.noTabs K=ag){a:ak}{b:Array ae}(e:K.lookup a=aa (W.tabObj b)):False:=by have c:=bF.mp h (a,_) (W.mem_of_lookupK e);exact absurd (show ar=ag from c) ax
theorem VX{P:ba}{w:bI}{K:bz}{mg U:ay->Option ae}{k:Nat}{Y a c T:ak}{fd:cK}{x:ay}{sp:Sp}{f:aq}{E:List ae}{ns:List Int}
(KX:K.In f.heap)(G:f.heap.Ns aY mg)(g:f.heap.Ns akx U)(hbb:∀x:ay,x≠"__name__"->U x=bU x)(aix:f.heap.NoLimit)(hg:f.gens=#[])
(ha:f.heap.get? a=aa {cls:=.type "list",data:=.seq E.toArray})(hi:aki E ns)(hl:ns.length<=aC)(hr:jU k ajE)
(ht:W.tabIn K "by_name"=aa (c,T))(nt:W.noTabs K=ag)(C:f.heap.get? T=aa (W.tabObj #[]))(hd:W.CodeHd f.heap c T)(bl:f.heap.BuiltinsAt mg T)(ct:isCodeTable f.heap T)
(F:∀cv:az,G8 K mg cv->ke P w K mg cv p8 k Y fd [x] sp)(agI:∀(s:aq) (u:ae),ajD s fd ⟨[u],[]⟩ [(x,u)])
(hsp:∀H:Hp,Tb K H->p7 K H a (ns.map V.int)->sp [.ref a] H (λv _=>v=.bl ag) λ_ _ _=>False):
  codeAny (model P w) ajE (.call (.ref Y) ⟨[.ref a],[]⟩) (λr i=>r=.ok (.ret (.bool ag))/\OldK f.heap i.heap/\i.os=f.os/\fN i.gens) f:=by
 have rv:=KZ hi;have aiy:=hi.length;have aT:a≠T:=λz=>by rw[z,C] at ha;cases ha
 have kT:K.lookup T=ao:=by
  cases e:K.lookup T with
  |none=>rfl
  |some o=>have:=KX _ _ e;rw[C] at this;cases this;exact(agH nt e).elim
 have L:∀H:Hp,H T=aa (.A8 #[])->(∀b,b≠T->H b=ao\/∃o xs,H b=aa (.FY o (.lst xs)))->p7 K H a (ns.map V.int)->xv P w H f.heap->(∀b,H b≠ao->b=a\/b=T)->(H a≠ao->K.lookup a=ao)->
   codeAny (model P w) ajE (.call (.ref Y) ⟨[.ref a],[]⟩) (λr i=>r=.ok (.ret (.bool ag))/\OldK f.heap i.heap/\i.os=f.os/\fN i.gens) f:=by
  intro H M hO hS jo hA hK;have Q:∀{b:ak} {o:cm},f.heap.get? b=aa o->H b=ao->(F0 f.heap H).get? b=aa o:=λe n=>W4 e n;have free:∀{b:ak} {o:cm},f.heap.get? b=aa o->o.cls≠.none->(b=a->False)->H b=ao:=λ{b o} e hc na=>by
   cases q:H b with
   |none=>rfl
   |some u=>
    rcases hA b (by rw[q];simp) with z|z
    .exact(na z).elim
    .subst z;rw[C] at e;cases e;exact absurd rfl hc
  have noA:∀{b:ak} {o:cm} {es:Array akR} {I:Nat},f.heap.get? b=aa o->o.data=.dict es I->H b=ao:=λ{b o es I} e d=>by
   cases q:H b with
   |none=>rfl
   |some u=>
    rcases hA b (by rw[q];simp) with z|z
    .subst z;rw[ha] at e;cases e;cases(show Data.seq E.toArray _=Data.dict es I from d)
    .subst z;rw[C] at e;cases e;cases d
  have p:∀{b:ak} {m:ay->Option ae},f.heap.Ns b m->(F0 f.heap H).Ns b m:=λ{b m} ⟨o,es,I,e,d,r⟩=>⟨o,es,I,Q e (noA e d),d,r⟩;have N:K.In (F0 f.heap H):=λb o e=>Q (KX b o e) (by
   cases q:H b with
   |none=>rfl
   |some u=>
    rcases hA b (by rw[q];simp) with z|z
    .subst z;rw[hK (by rw[q];simp)] at e;cases e
    .subst z;rw[kT] at e;cases e)
  have hM:Mod K mg (F0 f.heap H):=⟨N,p G,⟨U,p g,hbb⟩,let⟨mc,h1,h2⟩:=aix;⟨mc,p h1,h2⟩⟩;have e0:Gb P w K mg (F0 f.heap H) ajE [] f H:=⟨rfl,hM,λb o e=>aaq e,fQ (U7 _ _),trivial,λb g=>absurd (show b∈([]:List ak) from g) (by simp),jo,.of_eq hg⟩;have hdB:W.CodeHd (F0 f.heap H) c T:=by obtain⟨o,Ui,file,tf,agK,tg,inF,text,tt,e,r1,r⟩:=hd;exact⟨o,Ui,file,tf,agK,tg,inF,text,tt,Q e (free e (by rw[r1];simp) (λz=>by subst z;rw[ha] at e;cases e;exact absurd r1 (show¬dX "list"=dX "code" by decide))),r1,r⟩
  have blB:(F0 f.heap H).BuiltinsAt mg T:=by obtain⟨bm,ob,b1,b2,b3,b4,b5,b6,b7⟩:=bl;exact⟨bm,ob,b1,b2,b3,b4,Q b5 (free b5 (by rw[b6];simp) (λz=>by subst z;rw[ha] at b5;cases b5;exact absurd b6 (show¬dX "list"=dX "module" by decide))),b6,b7⟩
  have gT:aY≠T:=λz=>by obtain⟨o,es,I,e,d,_⟩:=G;rw[z,C] at e;cases e;cases d
  have tb:Tb K H:=λy hy c' T' e'=>by
   have ey:y="by_name":=by simpa[abb] using hy
   subst ey;rw[ht] at e';cases e';exact⟨#[],M,by simp[fH],λpos v hv=>by simp[ajb] at hv⟩
  refine fq ((F _ ⟨N,p G,c,T,ht,hdB,blB,gT⟩).run ajE [] f H ⟨[.ref a],[]⟩ [.ref a] [.ref a] _ _ hr e0 (agI f (.ref a)) (.cons rfl .nil) (hsp H tb hS)) λr i h=>?_;cases r with
  |error e=>exact(show False from h).elim
  |ok fl=>
   cases fl with
   |next=>exact cy h
   |brk=>exact cy h
   |cont=>exact cy h
   |ret u=>
    obtain⟨v,H',os,bare,un,O,r',q⟩:=h;have q':v=.bl ag:=q;subst q';obtain rfl:u=ae.bool ag:=r';have A:∃more,i.heap.get? T=aa (W.tabObj more):=by obtain⟨more,z⟩:=un.Ba T _ M;exact⟨#[]++more,(show jK P w H' i.heap T (.A8 _) from O T _ z)⟩
    have keep:∀b o,b≠T->f.heap.get? b=aa o->i.heap.get? b=aa o:=λb o J e=>by
     rcases hO b J with z|⟨ob,xs,z⟩
     .exact un.keep b o e z (by intro z;exact absurd (show b∈([]:List ak) from z) (by simp)) (by simp)
     .have z2:=un.A9 b ob _ z;obtain⟨e1,_⟩:=jo b _ z;obtain⟨e2,_⟩:=O b _ z2;rw[e] at e1;cases e1;exact e2
    obtain⟨more,A⟩:=A;refine⟨rfl,⟨λb o e=>?_,λb o e=>?_⟩,os,bare⟩
    .by_cases z:b=T
     .subst z;rw[C] at e;cases e;exact .inr (.inl ⟨ct,rfl,#[],more,rfl,by rw[Array.empty_append];exact A⟩)
     .exact .inl (keep b o z e)
    .by_cases z:b=T
     .exact⟨_,z▸A⟩
     .exact⟨o,keep b o z e⟩
 cases hk:K.lookup a with
 |some o=>
  have e:=KX a o hk;rw[ha] at e;cases e;refine L (λb=>if b=T then aa (.A8 #[]) else ao) (if_pos rfl) (λb J=>.inl (if_neg J)) (.inr ⟨_,E.toArray,_,hk,rfl,rfl,rfl,by rw[aD,aiy];exact hl,by simpa using rv⟩) (λb u z=>?_) (λb z=>?_) λz=>absurd (if_neg aT) z
  .by_cases g:b=T
   .subst g;have B:=(if_pos rfl).symm.trans z;cases B;exact C
   .have B:=(if_neg g).symm.trans z;cases B
  .by_cases g:b=T
   .exact .inr g
   .exact absurd (if_neg g) z
 |none=>
  refine L (λb=>if b=T then aa (.A8 #[]) else if b=a then aa (.FY {cls:=.type "list",data:=.seq E.toArray} (.lst (ns.map V.int))) else ao) (if_pos rfl) (λb J=>?_) (.inl (.inr ⟨{cls:=.type "list",data:=.seq E.toArray},by show(if a=T then _ else if a=a then _ else _)=_;rw[if_neg aT,if_pos rfl]⟩)) (λb u z=>?_) (λb z=>?_) λ_=>hk
  .by_cases g:b=a
   .exact .inr ⟨_,_,by show(if b=T then _ else if b=a then _ else _)=_;rw[if_neg J,if_pos g]⟩
   .exact .inl (by show(if b=T then _ else if b=a then _ else _)=_;rw[if_neg J,if_neg g])
  .by_cases j:b=T
   .subst j;have B:=(if_pos rfl).symm.trans z;cases B;exact C
   .have z1:=(if_neg j).symm.trans z;by_cases g:b=a
    .have B:=(if_pos g).symm.trans z1;cases B;subst g;exact⟨ha,by rw[ai];exact hl,E,_,rv,ha⟩
    .have B:=(if_neg g).symm.trans z1;cases B
  .by_cases j:b=T
   .exact .inr j
   .by_cases g:b=a
    .exact .inl g
    .exact absurd (by show(if b=T then _ else if b=a then _ else _)=_;rw[if_neg j,if_neg g]) z
theorem agM{l:W.OpenLaw}{k:Nat}{q:ba}{loose:List ay}{L:(ay->Option ae)->az->Prop}{B:bI->az->Prop}{d M:DefRec}{K:Params->bz}{g:GP}{x:ay}(hn:l.most=aa 63)(N:d.params.defaults=[])(O:jU k ajE)
(Q:∀(w:bI) (h:az),B w h->(K w.params).In h)(aeF:(recsOf q).find? (λe=>e.name==("by_name":ay))=aa M)(ht:∀w:bI,(W.tabIn (K w.params) "by_name").isSome=ag)(nt:∀w:bI,W.noTabs (K w.params)=ag)
(j:iH g)(m:∀ns:List Int,ns.length<=63->g [.uI ns] λd=>d=.bl ag)
(F:∀(w:bI) (mg:ay->Option ae) (i:ak) (h:az),(K w.params).In h->h.Ns aY mg->mg d.name=aa (.ref i)->
   ∃fd:cK,(∀(s:aq) (u:ae),ajD s fd ⟨[u],[]⟩ [(x,u)])/\∀cv:az,G8 (K w.params) mg cv->ke l.prog w (K w.params) mg cv p8 k i fd [x] (jX (K w.params) (cl g))):
  W.WalkO q loose L B l.row.toRowW d [] (λf C=>PySem.call f C):=by
 refine Att.Om hn N λw iY U mg mb i o pm cd doc a C ns G Y ho hd KG n p XC E hg=>?_;have y:=Q w _ Y;obtain⟨fd,hb,hF⟩:=F w mg i _ y G.T.g n;obtain⟨⟨c,T⟩,I⟩:=Option.isSome_iff_exists.mp (ht w);obtain⟨J,A⟩:=W.tab_of G.T y aeF I;have bl:U.heap.BuiltinsAt mg T:=by
  obtain⟨bm,ob,b1,b2,b3,b4,b5,b6⟩:=G.T.bmain;refine⟨bm,ob,b1,b2,λz=>?_,λz=>?_,b3,b4,b5,b6⟩
  .obtain⟨o',es,ep,e,dd,_⟩:=G.T.g;rw[z,e] at b3;cases b3;rw[dd] at b6;cases b6
  .rw[z,A] at b3;cases b3;cases b4
 refine VX y G.T.g G.T.b G.T.builtins G.T.nolimit hg p XC (bG E (by decide)) O I (nt w) A J bl (J.tab A).isCodeTable hF hb λH tb hS=>?_;refine⟨[],[],[],[.uI ns],Yc tb,gJ.one ?_,rfl,j _ _ _ (λdd e v iz H' _ _ r=>?_) (m ns E)⟩
 .unfold Rep;refine⟨a,rfl,?_⟩;show p7 _ (kg ([]++[]) H) a _;rw[aR];exact GV GU hS
 .subst e;unfold Rep at r;exact r
end L3
namespace L2
theorem Bx(f:Nat->Int):∀n,aj1 f (n+1)=f 0+aj1 (λi=>f (i+1)) n
 |0=>by simp[aj1]
 |n+1=>by have a:=Bx f n;show aj1 f (n+1)+f (n+1)=f 0+(aj1 (λi=>f (i+1)) n+f (n+1));rw[a];omega
theorem EG:∀(f:Nat->Int) (l:List Int),(∀i,i<l.length->f i=l.getD i 0)->aj1 f l.length=l.sum
 |f,[],_=>rfl
 |f,x::l,h=>by rw[aU,Bx,List.sum_cons,EG (λi=>f (i+1)) l λi hi=>(by have:=h (i+1) (by simp;omega);simpa using this),h 0 (by simp)];rfl
section
variable {X:Cx}
theorem VY(J:X.calm=ag):pr X (.builtin "sum") (λxs H Q=>∃(a:ak) (ns:List Int),xs=[V.ref a]/\p7 X.K H a (ns.map V.int)/\Q (.int ns.sum) H):=by
 intro cq s σ H xs us Q I r h;obtain⟨a,ns,rfl,L,q⟩:=h;obtain⟨u,rfl,j⟩:=vals1 r;cases j;obtain⟨ia,x,p,hz⟩:=I.list L;have M:X.A.in1.handled=ao:=I.ok.hd J;have B:a<s.heap.objs.size:=by obtain⟨o,n,e,_⟩:=p;exact aN e
 have N:ia.length=ns.length:=by have:=x.length;rw[ai] at this;exact this.symm
 refine call_sum_walkAnyS (dj p.isList ?_);refine⟨s.heap.objs.size,_,_,_,_,_,_,λi=>ns.getD i 0,rfl,(ajR.list M s.heap.objs.size a (bf B) ia.toArray).toS,⟨⟨_,aP _ rfl,rfl,rfl⟩,p.isList.push _⟩,λb c=>?_,λi v f=>?_,λC E g=>?_⟩
 .show b<(s.heap.push _).objs.size;rw[bZ];simp only [aO,bT,or_false] at c;rcases c with rfl|rfl
  .exact gz _
  .exact cU B
 .have f:ia[i]?=aa v:=by simpa using f
  have hi:i<ia.length:=(au.mp f).1;have c:(ns.map V.int)[i]?=aa (V.int (ns.getD i 0)):=by rw[aS,bu,aJ (by omega)];rfl
  obtain⟨u,G,j⟩:=x.get c;rw[f] at G;cases G;exact j
 .have e:aj1 (λi=>ns.getD i 0) ia.toArray.size=ns.sum:=by rw[aD,N];exact EG _ _ λi _=>rfl
  rw[e];have k:∀b o,s.heap.get? b=aa o->C.heap.get? b=aa o:=λb o z=>g.heap b o (λy=>by rw[bS.mp y] at z;exact absurd (aN z) (dN _)) (aj _ z);obtain⟨h',O,T,m,w⟩:=C;have U:O=s.gens:=g.gens;have Y:T=s.drawn:=g.drawn;have eo:w=s.os:=g.os;subst U Y eo;exact⟨.int ns.sum,H,I.kept (t':=m) k,⟨E,rfl⟩,q⟩
end
end L2
namespace L3
open L2
section
variable {X:Cx}
def aeG:GN:=λds M Q=>match ds with
 |[d]=>∃ns:List Int,vw M d=.lst (ns.map .int)/\Q (.int ns.sum) M
 |_=>False
theorem Lj{K:bz}{α:List ak}{H:Hp}:∀{ss:List Int} {a:List V},gJ K α H (ss.map D.int) a->a=ss.map V.int
 |[],a,h=>by unfold gJ at h;exact h
 |x::ss,a,h=>by unfold eS gJ at h;obtain⟨v,r,rfl,z,y⟩:=h;unfold Rep at z;rw[z,Lj y];rfl
theorem YB(e:X.calm=ag:=by rfl):JB X (.builtin "sum") aeG:=by
 refine⟨λds M P Q w q=>?_,λcq s σ H xs us Q I rs h=>?_⟩
 .match ds,q with
  |[d],⟨ns,b,q⟩=>exact⟨ns,b,w _ _ q⟩
 .obtain⟨F,α,M,ds,o,c,h⟩:=h;match ds,h,c with
  |[d],⟨ns,b,q⟩,c=>
   obtain⟨v,f,g⟩:=qU c;subst f;obtain⟨a,n,rfl,i,j⟩:=ki o g b;have m:=Lj j;subst m;exact VY e cq s σ H _ us Q I rs ⟨a,ns,rfl,p7.of i,vK.now o q iU⟩
end
end L3
end
local macro_rules | `(tactic| walk_at "e") => `(tactic| ((conv => whnf); first | refine ⟨_, rfl, ?_⟩ | refine ⟨rfl, ?_⟩ | refine ⟨ab rfl, ?_⟩))
local macro_rules | `(tactic| walk_at "b") => `(tactic| ((repeat walk_at "e"); try (conv => whnf)))
namespace FJ
open PySem PySem.Spec L2 L3
def G9 (K:bz):DS:=(hW (Ex (iG (lu K) (gD (gE 0) (gD (dC (.ty "int")) gK))) (XO (iG (lu K) (gD (gE 0) (gD (dC (.ty "bool")) gK))))))
def Dn (K:bz):DS:=(gW (ii (Gq (ph (gS (iG (lu K) (gD (gE 0) (gD (dC (.ty "str")) gK))))) (ph (gS (nz Bp Bp (dC (.int 1)) (iG m4 (gD (gE 0) gK)) (dC (.int 8)))))) (hW (dC (.bl ar))) hX)
 (hW (iG RA (gD (jz (jY [ao] (jM (gE 0)) (gQ 0) r6 (nz Bp Bp (dC (.str "a")) (gE 0) (dC (.str "z"))))) gK))))
def Ha (K:bz):DS:=(qh K "told" (gE 0) (gE 1))
def EH (K:bz):DS:=(hW (iG Md (gD (jz (jY [ao] (jM (kx K "told" (gE 0))) (gQ 0) r6 (dIf (gS (iG (lu K) (gD (gE 0) (gD (dC (.ty "tuple")) gK)))) (lN (WU vM (gD (gE 0) gK))) (gE 0)))) gK)))
def EI:DS:=(hW (lN (ku gK)))
def zT:DS:=(hW (dC (.bl ar)))
def tm:DS:=(hW (dC (.bl ag)))
def By:DS:=(hW (dC (.bl ar)))
def uS (K:bz):DS:=(hW (lN (WU vM (gD (dSl (kx K "told" (gE 0)) (EC (dC (.int 2))) y0) gK))))
def xO (K:bz):DS:=(hW (lN (ku (gD (gX ij (kx K "told" (gE 0)) (Ry (dC (.int 1)))) gK))))
def At:DS:=(hW (dC (.bl ar)))
def uT (K:bz):DS:=(hW (lN (WU vM (gD (gX ij (kx K "told" (gE 0)) (dC (.int 1))) gK))))
def vR (K:bz)(a:GN):DS:=(gW (ii (Gq (ph (gS (iG (lu K) (gD (gE 1) (gD (dC (.ty "list")) gK))))) (ph (gS (nz Bp Bp (dC (.int 1)) (iG m4 (gD (gE 1) gK)) (dC (.int 60)))))) (hW (dC (.bl ar))) hX)
 (hW (iG RA (gD (jz (jY [ao,aa 0] (jM (gE 1)) (gQ 0) r6 (iG a (gD (gE 1) (gD (gE 0) gK))))) gK))))
def Hb (K:bz)(c:GN)(a:GN)(b:GN):DS:=(gW (ii (gS (gX mR (gE 0) (dC (.str "word")))) (hW (iG c (gD (gE 1) gK))) hX)
 (gW (ii (gS (gX mR (gE 0) (dC (.str "box")))) (hW (Ex (iG a (gD (gE 1) gK)) (nz Bp Bp (dC (.int 0)) (gE 1) (dC (.int 3))))) hX)
 (gW (ii (gS (gX mR (gE 0) (dC (.str "number")))) (hW (Ex (iG a (gD (gE 1) gK)) (nz Bp Bp (dC (.int (-2147483648))) (gE 1) (dC (.int 2147483647))))) hX)
 (gW (ii (gS (gX mR (gE 0) (dC (.str "truth")))) (hW (iG (lu K) (gD (gE 1) (gD (dC (.ty "bool")) gK)))) hX)
 (gW (ii (gS (gX mR (gE 0) (dC (.str "numbers")))) (hW (iG b (gD (dC (.str "number")) (gD (gE 1) gK)))) hX)
 (hW (iG b (gD (dC (.str "word")) (gD (gE 1) gK)))))))))
def Hc (K:bz)(a:ak)(b:List (ay×D))(c:GN):DS:=(gW (ii (Gq (ph (gS (iG (lu K) (gD (gE 0) (gD (dC (.ty "tuple")) gK))))) (gS (gX mR (iG m4 (gD (gE 0) gK)) (dC (.int 0))))) (hW (dC (.bl ar))) hX)
 (gW (ii (Gq (ph (gS (iG (lu K) (gD (gX ij (gE 0) (dC (.int 0))) (gD (dC (.ty "str")) gK))))) (gS (gX (Mf ag a b) (gX ij (gE 0) (dC (.int 0))) (dC (.cls a))))) (hW (dC (.bl ar))) hX)
 (gW (iE 1 (gX (Me a b) (dC (.cls a)) (gX ij (gE 0) (dC (.int 0)))))
 (gW (ii (gS (gX Fa (iG m4 (gD (gE 0) gK)) (gX i8 (dC (.int 1)) (iG m4 (gD (gE 1) gK))))) (hW (dC (.bl ar))) hX)
 (hW (iG RA (gD (jz (jY [ao,ao] (acP (gD (gE 1) (gD (dSl (gE 0) (EC (dC (.int 1))) y0) gK))) (js 2 (hC (gQ 0) (hC (gQ 1) jr))) r6 (iG c (gD (gE 0) (gD (gE 1) gK))))) gK)))))))
def Hd (a:ak)(b:GN)(c:ak)(e:GN)(f:ak)(g:GN)(h:ak)(i:GN)(j:ak)(m:GN)(n:ak)(o:GN):DS:=(gW (iE 1 (gX ij (gE 0) (dC (.int 0))))
 (gW (ii (gS (gX mR (gE 1) (dC (.str "set")))) (hW (se a b (gD (gE 0) gK))) hX)
 (gW (ii (gS (gX mR (gE 1) (dC (.str "alike")))) (hW (se c e (gD (gE 0) gK))) hX)
 (gW (ii (gS (gX (N2 ar) (gE 1) (iT (gD (dC (.str "back")) (gD (dC (.str "stop")) gK))))) (hW (se f g (gD (gE 0) gK))) hX)
 (gW (ii (gS (gX (N2 ar) (gE 1) (iT (gD (dC (.str "jump")) (gD (dC (.str "jumpby")) gK))))) (hW (se h i (gD (gE 0) gK))) hX)
 (gW (ii (gS (gX (N2 ar) (gE 1) (iT (gD (dC (.str "jumpif")) (gD (dC (.str "call")) (gD (dC (.str "load")) gK)))))) (hW (se j m (gD (gE 0) gK))) hX)
 (hW (se n o (gD (gE 0) gK)))))))))
def OY (K:bz)(a:GN)(b:ak)(c:GN)(e:ak)(f:GN)(g:ak)(h:GN)(i:GN):DS:=(gW (ii (ph (gS (iG a (gD (gE 0) gK)))) (hW (dC .non)) hX)
 (gW (iE 1 (iG Md (gD (jz (jY [ao] (jM (gE 0)) (gQ 0) r6 (dIf (gS (iG (lu K) (gD (gE 0) (gD (dC (.ty "list")) gK)))) (iG Md (gD (gE 0) gK)) (gE 0)))) gK)))
 (gW (ii (gS (gX mR (gX ij (gE 1) (dC (.int 0))) (dC (.str "mark")))) (hW (se b c (gD (gE 1) gK))) hX)
 (gW (ii (gS (gX mR (gX ij (gE 1) (dC (.int 0))) (dC (.str "numbers")))) (hW (se e f (gD (gE 1) gK))) hX)
 (gW (ii (gS (gX mR (gX ij (gE 1) (dC (.int 0))) (dC (.str "table")))) (hW (se g h (gD (gE 1) gK))) hX)
 (hW (iG i (gD (gE 1) gK))))))))
noncomputable def low(x:ay):Bool:=x.cps.toList.all λc=>decide (97<=c)&&decide (c<=122)
noncomputable def xt(x:ay):Bool:=decide (1<=x.length)&&decide (x.length<=8)&&low x
noncomputable def tu(b:Int):Bool:=decide (0<=b)&&decide (b<=3)
noncomputable def okN(n:Int):Bool:=decide (-2147483648<=n)&&decide (n<=2147483647)
def pF:GP:=λds Q=>∃i:Int,ds=[.int i]/\Q (.bl ag)
theorem Fb:iH pF:=by
 rintro ds P Q w ⟨i,h,q⟩
 exact⟨i,h,w _ q⟩
theorem OZ(K:bz):∀ds Q,pF ds Q->jB 1 1 (G9 K) ds Q:=by
 rintro ds Q ⟨i,h,q⟩
 subst h;exact⟨rfl,_,rfl,_,rfl,rfl,q⟩
def nQ:GP:=λds Q=>∃w:ay,xt w=ag/\ds=[.str w]/\Q (.bl ag)
theorem He:iH nQ:=by
 rintro ds P Q w ⟨i,a,h,q⟩
 exact⟨i,a,h,w _ q⟩
theorem zc{a b:Int}{M:Ms}{Q:DK}(h:a<=b)(q:Q (.bl ag) M):Bp (.int a) (.int b) M Q:=by show Q (.bl (decide (a<=b))) M;rw[decide_eq_true h];exact q
theorem agN{c:Nat}{M:Ms}{Q:DK}(h:97<=c)(q:Q (.bl ag) M):Bp (.str "a") (.str ⟨#[c]⟩) M Q:=by show Q (.bl (!decide ([c]<[97]))) M;rw[show decide ([c]<[97])=ar by simp[eZ];omega];exact q
theorem agO{c:Nat}{M:Ms}{Q:DK}(h:c<=122)(q:Q (.bl ag) M):Bp (.str ⟨#[c]⟩) (.str "z") M Q:=by show Q (.bl (!decide ([122]<[c]))) M;rw[show decide ([122]<[c])=ar by simp[eZ];omega];exact q
theorem O0{xs:List D}{Q:DK}{M:Ms}(q:Q (.bl ag) M):RA [.lst ([]++xs.map λ_=>D.bl ag)] M Q:=by refine⟨xs.map λ_=>ag,by show D.lst _=D.lst _;rw[bQ,bq];rfl,?_⟩;rw[show(xs.map λ_=>ag).all id=ag by simp];exact q
theorem RU(K:bz):∀ds Q,nQ ds Q->jB 1 1 (Dn K) ds Q:=by
 rintro ds Q ⟨x,hw,h,q⟩
 subst h;unfold xt at hw;rw[aQ,aQ,decide_eq_true_eq,decide_eq_true_eq] at hw;obtain⟨⟨o,g⟩,i⟩:=hw;have b:x.length<=aC:=bG g (by decide);have a:=@zc;have e:=@agN;have f:=@agO;unfold Dn;generalize Bp=ge at a e f |-;refine⟨rfl,_,rfl,_,show(if x.length<=aC then _ else _)=_ from if_pos b,?_⟩;refine a (by omega) ?_;refine a (by omega) ?_;refine⟨_,rfl,rfl,?_⟩;refine mD (λ_=>.bl ag) ?_ _ _ ?_ (λy j p m=>?_) ?_
 .exact rfl
 .rw[bj,bt,ai,cx];exact b
 .obtain⟨c,n,rfl⟩:=bN.mp j;have:=bF.mp i c n;rw[aQ,decide_eq_true_eq,decide_eq_true_eq] at this;exact e this.1 (f this.2 (m _ rfl))
 .exact O0 ⟨rfl,q⟩
inductive Dp:ay->D->Prop
 |w {x:ay}:xt x=ag->Dp "word" (.str x)
 |b {i:Int}:tu i=ag->Dp "box" (.int i)
 |n {i:Int}:okN i=ag->Dp "number" (.int i)
 |t {b:Bool}:Dp "truth" (.bl b)
inductive WY:ay->D->Prop
 |a {f:ay} {d:D}:Dp f d->WY f d
 |ns {ds:List D}:1<=ds.length->ds.length<=60->(∀d∈ds,Dp "number" d)->WY "numbers" (.lst ds)
 |ws {ds:List D}:1<=ds.length->ds.length<=60->(∀d∈ds,Dp "word" d)->WY "words" (.lst ds)
theorem Dp.nl{f:ay}{d:D}(h:Dp f d):nl d=ag:=by cases h<;>rfl
theorem O1{f:ay}{ds:List D}(h:∀d∈ds,Dp f d):l9 ds=ag:=by rw[L6];exact bF.mpr λd hd=>(h d hd).nl
theorem WY.nl{f:ay}{d:D}(h:WY f d):l9 [.str f,d]=ag:=by
 have:L3.nl d=ag:=by
  cases h with
  |a h=>exact h.nl
  |ns _ _ h=>exact O1 h
  |ws _ _ h=>exact O1 h
 show(ag&&(L3.nl d&&ag))=ag;rw[this];rfl
def FE:GP:=λds Q=>∃f d,Dp f d/\ds=[.str f,d]/\Q (.bl ag)
theorem Mu:iH FE:=by
 rintro ds P Q w ⟨f,d,a,h,q⟩
 exact⟨f,d,a,h,w _ q⟩
def abB:GP:=λds Q=>∃f xs,1<=xs.length/\xs.length<=60/\(∀d∈xs,Dp f d)/\ds=[.str f,.lst xs]/\Q (.bl ag)
theorem VZ:iH abB:=by
 rintro ds P Q w ⟨f,d,a,b,c,h,q⟩
 exact⟨f,d,a,b,c,h,w _ q⟩
def Dq:GP:=λds Q=>∃f d,WY f d/\ds=[.str f,d]/\Q (.bl ag)
theorem O2:iH Dq:=by
 rintro ds P Q w ⟨f,d,a,h,q⟩
 exact⟨f,d,a,h,w _ q⟩
theorem YC{K:bz}{g:GN}{f:ay}{d:D}{Q:D->Prop}(h:Dp f d)(q:Q (.bl ag)):jB 2 2 (Hb K (cl nQ) (cl pF) g) [.str f,d] Q:=by
 have a:=@zc;unfold Hb;generalize Bp=ge at a |-;cases h with
 |w h=>exact⟨rfl,rfl,_,h,rfl,rfl,q⟩
 |b h=>
  unfold tu at h;rw[aQ,decide_eq_true_eq,decide_eq_true_eq] at h;exact⟨rfl,rfl,_,rfl,a h.1 (a h.2 ⟨rfl,q⟩)⟩
 |n h=>
  unfold okN at h;rw[aQ,decide_eq_true_eq,decide_eq_true_eq] at h;exact⟨rfl,rfl,_,rfl,a h.1 (a h.2 ⟨rfl,q⟩)⟩
 |t=>exact⟨rfl,_,rfl,rfl,q⟩
theorem YD(K:bz)(g:GN):∀ds Q,FE ds Q->jB 2 2 (Hb K (cl nQ) (cl pF) g) ds Q:=by
 rintro ds Q ⟨f,d,h,e,q⟩
 subst e;exact YC h q
theorem agP(K:bz):∀ds Q,abB ds Q->jB 2 2 (vR K (cl FE)) ds Q:=by
 rintro ds Q ⟨f,xs,j,h,c,e,q⟩
 subst e;have b:=@zc;unfold vR;generalize Bp=ge at b |-;refine⟨rfl,_,rfl,_,rfl,?_⟩;refine b (by omega) ?_;refine b (by omega) ?_;refine⟨_,rfl,rfl,?_⟩;refine mD (λ_=>.bl ag) ?_ _ _ ?_ (λy g m i=>?_) ?_
 .exact rfl
 .rw[bj,bt];exact bG h (by decide)
 .exact⟨WY.nl (.a (c y g)),f,y,c y g,rfl,i _ rfl⟩
 .exact O0 ⟨rfl,q⟩
theorem abC(K:bz):∀ds Q,Dq ds Q->jB 2 2 (Hb K (cl nQ) (cl pF) (cl abB)) ds Q:=by
 rintro ds Q ⟨f,d,h,e,q⟩
 subst e;cases h with
 |a h=>exact YC h q
 |ns b c g=>exact⟨rfl,(WY.ns b c g).nl,_,_,b,c,g,rfl,rfl,q⟩
 |ws b c g=>exact⟨rfl,(WY.ws b c g).nl,_,_,b,c,g,rfl,rfl,q⟩
open PySem PySem.Spec PyProof.Rows.KTD L2 L3
noncomputable def fm(l:List ay):D:=.tup (l.map .str)
noncomputable def acT:List (ay×D):=[("mark",fm ["word","truth"]),("set",fm ["box","number"]),("add",fm ["box","box"]),("take",fm ["box","box"]),("say",fm ["box"]),("ask",fm ["box"]),("jump",fm ["word"]),("jumpif",fm ["box","word"]),("call",fm ["word"]),("back",fm []),("stop",fm []),("load",fm ["box","box","word"]),("jumpby",fm ["box","word"]),("alike",fm ["box","word","word"]),("numbers",fm ["numbers"]),("table",fm ["words"])]
inductive Rw
 |mark (w:ay) (b:Bool)|set (b n:Int)|add (b c:Int)|take (b c:Int)|say (b:Int)|ask (b:Int)|jump (w:ay)|jumpif (b:Int) (w:ay)|call (w:ay)|back|stop
 |load (b c:Int) (w:ay)|jumpby (b:Int) (w:ay)|alike (b:Int) (w v:ay)|numbers (ns:List Int)|table (ws:List ay)
 deriving DecidableEq
noncomputable def Rw.d:Rw->D
 |.mark w b=>.tup [.str "mark",.str w,.bl b]|.set b n=>.tup [.str "set",.int b,.int n]|.add b c=>.tup [.str "add",.int b,.int c]|.take b c=>.tup [.str "take",.int b,.int c]
 |.say b=>.tup [.str "say",.int b]|.ask b=>.tup [.str "ask",.int b]|.jump w=>.tup [.str "jump",.str w]|.jumpif b w=>.tup [.str "jumpif",.int b,.str w]|.call w=>.tup [.str "call",.str w]
 |.back=>.tup [.str "back"]|.stop=>.tup [.str "stop"]|.load b c w=>.tup [.str "load",.int b,.int c,.str w]|.jumpby b w=>.tup [.str "jumpby",.int b,.str w]|.alike b w v=>.tup [.str "alike",.int b,.str w,.str v]
 |.numbers ns=>.tup [.str "numbers",.lst (ns.map .int)]|.table ws=>.tup [.str "table",.lst (ws.map .str)]
noncomputable def Rw.t:Rw->D
 |.numbers ns=>.tup [.str "numbers",.tup (ns.map .int)]|.table ws=>.tup [.str "table",.tup (ws.map .str)]
 |r=>r.d
noncomputable def Rw.ok:Rw->Bool
 |.mark w _=>xt w|.set b n=>tu b&&okN n|.add b c=>tu b&&tu c|.take b c=>tu b&&tu c|.say b=>tu b|.ask b=>tu b|.jump w=>xt w|.jumpif b w=>tu b&&xt w|.call w=>xt w
 |.back=>ag|.stop=>ag|.load b c w=>tu b&&tu c&&xt w|.jumpby b w=>tu b&&xt w|.alike b w v=>tu b&&xt w&&xt v
 |.numbers ns=>decide (1<=ns.length)&&decide (ns.length<=60)&&ns.all okN
 |.table ws=>decide (1<=ws.length)&&decide (ws.length<=60)&&ws.all xt
theorem b1{a b:Bool}(h:(a&&b)=ag):a=ag:=(aQ _ _▸h).1
theorem b2{a b:Bool}(h:(a&&b)=ag):b=ag:=(aQ _ _▸h).2
def BE:GP:=λds Q=>∃r:Rw,r.ok=ag/\ds=[r.d]/\Q (.bl ag)
theorem Jz:iH BE:=by
 rintro ds P Q w ⟨r,a,h,q⟩
 exact⟨r,a,h,w _ q⟩
theorem pf{f:ay}{d:D}{M:Ms}{Q:DK}(h:WY f d)(q:Q (.bl ag) M):cl Dq [.str f,d] M Q:=⟨h.nl,f,d,h,rfl,q⟩
theorem aeH{ns:List Int}(h:(Rw.numbers ns).ok=ag):WY "numbers" (.lst (ns.map .int)):=by have h:=h;unfold Rw.ok at h;refine .ns (by rw[ai];exact of_decide_eq_true (b1 (b1 h))) (by rw[ai];exact of_decide_eq_true (b2 (b1 h))) λd hd=>?_;obtain⟨n,hn,rfl⟩:=bN.mp hd;exact .n (bF.mp (b2 h) n hn)
theorem aeI{ws:List ay}(h:(Rw.table ws).ok=ag):WY "words" (.lst (ws.map .str)):=by have h:=h;unfold Rw.ok at h;refine .ws (by rw[ai];exact of_decide_eq_true (b1 (b1 h))) (by rw[ai];exact of_decide_eq_true (b2 (b1 h))) λd hd=>?_;obtain⟨n,hn,rfl⟩:=bN.mp hd;exact .w (bF.mp (b2 h) n hn)
theorem V0(K:bz)(c:ak):∀ds Q,BE ds Q->jB 2 1 (Hc K c acT (cl Dq)) ds Q:=by
 rintro ds Q ⟨r,h,e,q⟩
 subst e;have pf:=@pf;unfold Hc;generalize cl Dq=g at pf |-;have L:∀{a b:Nat},Nat.ble a b=ag->a<=b:=ab;refine⟨rfl,?_⟩;cases r;all_goals walk_at "b";refine⟨λh=>Nat.one_ne_zero h.1,_,_,rfl,rfl,⟨rfl,rfl⟩,?_⟩
 case mark=>exact⟨rfl,rfl,pf (.a (.w h)) ⟨⟨rfl,rfl⟩,L rfl,rfl,rfl,pf (.a .t) ⟨⟨rfl,rfl⟩,L rfl,[ag,ag],rfl,rfl,q⟩⟩⟩
 case set=>exact⟨rfl,rfl,pf (.a (.b (b1 h))) ⟨⟨rfl,rfl⟩,L rfl,rfl,rfl,pf (.a (.n (b2 h))) ⟨⟨rfl,rfl⟩,L rfl,[ag,ag],rfl,rfl,q⟩⟩⟩
 case add=>exact⟨rfl,rfl,pf (.a (.b (b1 h))) ⟨⟨rfl,rfl⟩,L rfl,rfl,rfl,pf (.a (.b (b2 h))) ⟨⟨rfl,rfl⟩,L rfl,[ag,ag],rfl,rfl,q⟩⟩⟩
 case take=>exact⟨rfl,rfl,pf (.a (.b (b1 h))) ⟨⟨rfl,rfl⟩,L rfl,rfl,rfl,pf (.a (.b (b2 h))) ⟨⟨rfl,rfl⟩,L rfl,[ag,ag],rfl,rfl,q⟩⟩⟩
 case say=>exact⟨rfl,rfl,pf (.a (.b h)) ⟨⟨rfl,rfl⟩,L rfl,[ag],rfl,rfl,q⟩⟩
 case ask=>exact⟨rfl,rfl,pf (.a (.b h)) ⟨⟨rfl,rfl⟩,L rfl,[ag],rfl,rfl,q⟩⟩
 case jump=>exact⟨rfl,rfl,pf (.a (.w h)) ⟨⟨rfl,rfl⟩,L rfl,[ag],rfl,rfl,q⟩⟩
 case jumpif=>exact⟨rfl,rfl,pf (.a (.b (b1 h))) ⟨⟨rfl,rfl⟩,L rfl,rfl,rfl,pf (.a (.w (b2 h))) ⟨⟨rfl,rfl⟩,L rfl,[ag,ag],rfl,rfl,q⟩⟩⟩
 case call=>exact⟨rfl,rfl,pf (.a (.w h)) ⟨⟨rfl,rfl⟩,L rfl,[ag],rfl,rfl,q⟩⟩
 case back=>exact⟨[],rfl,rfl,q⟩
 case stop=>exact⟨[],rfl,rfl,q⟩
 case load=>exact⟨rfl,rfl,pf (.a (.b (b1 (b1 h)))) ⟨⟨rfl,rfl⟩,L rfl,rfl,rfl,pf (.a (.b (b2 (b1 h)))) ⟨⟨rfl,rfl⟩,L rfl,rfl,rfl,pf (.a (.w (b2 h))) ⟨⟨rfl,rfl⟩,L rfl,[ag,ag,ag],rfl,rfl,q⟩⟩⟩⟩
 case jumpby=>exact⟨rfl,rfl,pf (.a (.b (b1 h))) ⟨⟨rfl,rfl⟩,L rfl,rfl,rfl,pf (.a (.w (b2 h))) ⟨⟨rfl,rfl⟩,L rfl,[ag,ag],rfl,rfl,q⟩⟩⟩
 case alike=>exact⟨rfl,rfl,pf (.a (.b (b1 (b1 h)))) ⟨⟨rfl,rfl⟩,L rfl,rfl,rfl,pf (.a (.w (b2 (b1 h)))) ⟨⟨rfl,rfl⟩,L rfl,rfl,rfl,pf (.a (.w (b2 h))) ⟨⟨rfl,rfl⟩,L rfl,[ag,ag,ag],rfl,rfl,q⟩⟩⟩⟩
 case numbers=>exact⟨rfl,rfl,pf (aeH h) ⟨⟨rfl,rfl⟩,L rfl,[ag],rfl,rfl,q⟩⟩
 case table=>exact⟨rfl,rfl,pf (aeI h) ⟨⟨rfl,rfl⟩,L rfl,[ag],rfl,rfl,q⟩⟩
structure CA where
 (Row Mark Code Data V1 Last Set Alike V2 Leave j5 Table:ak)
inductive Kn
 |Mark|V1|Last|Set|Alike|V2|Leave|j5|Table
noncomputable def CA.at(c:CA):Kn->ak
 |.Mark=>c.Mark|.V1=>c.V1|.Last=>c.Last|.Set=>c.Set|.Alike=>c.Alike|.V2=>c.V2|.Leave=>c.Leave|.j5=>c.j5|.Table=>c.Table
noncomputable def Rw.kn:Rw->Kn
 |.mark _ _=>.Mark|.set _ _=>.Set|.add _ _|.take _ _|.say _|.ask _=>.V1|.jump _|.jumpby _ _=>.Leave|.jumpif _ _|.call _|.load _ _ _=>.V2|.back|.stop=>.Last
 |.alike _ _ _=>.Alike|.numbers _=>.j5|.table _=>.Table
noncomputable def Rw.cls(c:CA)(r:Rw):ak:=c.at r.kn
noncomputable def Rw.ins(c:CA)(r:Rw):D:=.ins (r.cls c) ["told"] [r.t]
def pG (K:bz):GN:=λds M Q=>∃M1 C d,ds=[.loc M1.length,d]/\M=M1++[aa (.ins C [] [])]/\qg K C "told"/\Q .non (M1++[aa (.ins C ["told"] [d])])
theorem O3{K:bz}:jW (pG K):=by
 rintro ds M P Q w ⟨M1,C,d,a,b,c,q⟩
 exact⟨M1,C,d,a,b,c,w _ _ q⟩
theorem FF{β:Type}{M:List β}{x:β}:(M++[x])[M.length]?=aa x:=by simp
theorem FG{β:Type}{M:List β}{x y:β}:(M++[x]).set M.length y=M++[y]:=by simp
theorem abD{K:bz}:∀ds M Q,pG K ds M Q->uf 2 2 (Ha K) ds M Q:=by
 rintro ds M Q ⟨M1,C,d,a,b,c,q⟩
 subst a b;refine⟨rfl,?_⟩;refine⟨C,[],[],FF,c,by decide,?_⟩;rw[FG];exact q
noncomputable def Rw.code:Rw->Bool
 |.mark _ _|.numbers _|.table _=>ar
 |_=>ag
def sn (c:CA):GP:=λds Q=>∃r:Rw,r.code=ag/\ds=[r.t]/\Q (r.ins c)
theorem Fc{c:CA}:iH (sn c):=by
 rintro ds P Q w ⟨r,a,b,q⟩
 exact⟨r,a,b,w _ q⟩
structure FOk(K:bz)(c:CA):Prop where
 f:∀r:Rw,qg K (r.cls c) "told"
theorem O4{K:bz}{c:CA}{M:Ms}{Q:DK}(r:Rw)(h:qg K (r.cls c) "told")(n:nl r.t=ag)(q:Q (r.ins c) M):pG K [.loc M.length,r.t] (M++[aa (.ins (r.cls c) [] [])]) λd M2=>d=.non/\∃ns es,M2=M++[aa (.ins (r.cls c) ns es)]/\l9 es=ag/\Q (.ins (r.cls c) ns es) M:=
 ⟨M,_,_,rfl,rfl,h,rfl,_,_,rfl,by unfold l9;rw[n];rfl,q⟩
theorem Rw.nld(r:Rw):nl r.d=ag:=by cases r<;>first|rfl|exact(show(ag&&(l9 (eS _ _)&&ag))=ag by rw[jS (λ_=>rfl)];rfl)
theorem Rw.nlt(r:Rw):nl r.t=ag:=by cases r<;>first|rfl|(show(ag&&(l9 _&&ag))=ag;rw[jS (λ_=>rfl)];rfl)
theorem Rw.V3(c:CA)(r:Rw):nl (r.ins c)=ag:=by show(nl r.t&&ag)=ag;rw[r.nlt];rfl
theorem O5{K:bz}{c:CA}(f:FOk K c):∀ds Q,sn c ds Q->jB 2 1 (Hd c.Set (pG K) c.Alike (pG K) c.Last (pG K) c.Leave (pG K) c.V2 (pG K) c.V1 (pG K)) ds Q:=by
 rintro ds Q ⟨r,b,e,q⟩
 subst e;have g:=f.f r;have a:=r.nlt;have mk:=λh i=>O4 (M:=[]) (Q:=h) r g a i;have a:=r.V3 c;cases r<;>first|(cases b;done)|skip
 all_goals
  walk_at "b";exact mk _ ⟨a,q⟩
def BG (c:CA):GN:=λds M Q=>∃r:Rw,r.ok=ag/\ds=[r.d]/\Q (r.ins c) M
theorem JD{c:CA}:jW (BG c):=by
 rintro ds M P Q w ⟨r,a,b,q⟩
 exact⟨r,a,b,w _ _ q⟩
theorem abE{x d:D}{M:Ms}(e:dv M x=d):wT M [x]=[d]:=by unfold wT;rw[e];rfl
noncomputable def itL:D->Bool
 |.str _|.int _|.bl _|.lst _=>ag
 |_=>ar
noncomputable def toT:D->D
 |.lst xs=>.tup xs
 |d=>d
noncomputable def Rw.itd(r:Rw):List D:=match r.d with|.tup ds=>ds|_=>[]
theorem Rw.agQ(r:Rw):r.d=.tup r.itd:=by cases r<;>rfl
theorem Rw.agR(r:Rw):r.t=.tup (r.itd.map toT):=by cases r<;>rfl
theorem Rw.aeJ(r:Rw):r.itd.all itL=ag:=by cases r<;>rfl
theorem Rw.abF(r:Rw):r.itd.length<=aC:=bG (m:=4) (by cases r<;>exact ab rfl) (by decide)
theorem V4{K:bz}{c:CA}(f:FOk K c):∀ds M Q,BG c ds M Q->uf 2 1 (OY K (WV BE) c.Mark (pG K) c.j5 (pG K) c.Table (pG K) (cl (sn c))) ds M Q:=by
 rintro ds M Q ⟨r,i,j,q⟩
 subst j;have m:=f.f r;have b:=r.nlt;have mk:=λn o=>O4 (M:=M) (Q:=n) r m b o;have g:=r.nld;have hd:l9 [r.d]=ag:=by unfold l9;rw[g];rfl
 have hn:l9 [r.t]=ag:=by unfold l9;rw[b];rfl
 have p:r.code=ag->cl (sn c) [r.t] M Q:=λh=>⟨hn,r,h,rfl,q⟩;refine⟨rfl,?_⟩;conv=>whnf
 rw[abE (Ya M _ g)];refine⟨hd,r,i,rfl,rfl,?_⟩;rw[r.agQ];refine⟨_,rfl,rfl,?_⟩;refine mD toT ?_ _ _ ?_ (λx a v u=>?_) ?_
 .exact rfl
 .rw[bj,bt];exact r.abF
 .have a:=bF.mp r.aeJ x a;cases x<;>first|(cases a;done)|skip
  all_goals
   walk_at "b";exact u _ rfl
 rw[bQ];have e:=r.agR;generalize r.itd.map toT=ia at e |-;cases r;all_goals
  cases e;walk_at "b";first|exact(p rfl).2|exact mk _ q
noncomputable def Rw.ug:Rw->Bool
 |.mark _ _|.numbers _|.table _|.jump _|.jumpby _ _|.back|.stop=>ar
 |_=>ag
noncomputable def Rw.names:Rw->List D
 |.jump w|.jumpif _ w|.call w|.load _ _ w|.jumpby _ w=>[.str w]
 |.alike _ w v=>[.str w,.str v]
 |.table ws=>ws.map .str
 |_=>[]
def Mv (c:CA)(k:Kn):GP:=λds Q=>∃r:Rw,r.kn=k/\ds=[r.ins c]/\Q r.d
def zd (c:CA)(k:Kn):GN:=λds M Q=>∃r:Rw,r.kn=k/\ds=[r.ins c]/\Q (.loc M.length) (M++[aa (.lst r.names)])
def vW (c:CA)(k:Kn):GP:=λds Q=>∃r:Rw,r.kn=k/\ds=[r.ins c]/\Q (.bl r.ug)
theorem Mw{c:CA}{k:Kn}:iH (Mv c k):=by
 rintro ds P Q w ⟨r,a,b,q⟩
 exact⟨r,a,b,w _ q⟩
theorem jN{c:CA}{k:Kn}:iH (vW c k):=by
 rintro ds P Q w ⟨r,a,b,q⟩
 exact⟨r,a,b,w _ q⟩
theorem j6{c:CA}{k:Kn}:jW (zd c k):=by
 rintro ds M P Q w ⟨r,a,b,q⟩
 exact⟨r,a,b,w _ _ q⟩
theorem Hg{x:ay}{xs:List D}(h:l9 xs=ag):nl (.tup [.str x,.lst xs])=ag:=by show(ag&&(l9 xs&&ag))=ag;rw[h];rfl
theorem kZ{ns:List Int}:l9 (ns.map D.int)=ag:=jS (λ_=>rfl) _
theorem YE{ns:List ay}:l9 (ns.map D.str)=ag:=jS (λ_=>rfl) _
noncomputable def plI:D->Bool
 |.str _|.int _|.bl _=>ag
 |_=>ar
noncomputable def Rw.ia(r:Rw):List D:=match r.t with|.tup ds=>ds|_=>[]
theorem Rw.agS(r:Rw):r.t=.tup r.ia:=by cases r<;>rfl
theorem Rw.abG(r:Rw):r.ia.length<=aC:=bG (m:=4) (by cases r<;>exact ab rfl) (by decide)
theorem Rw.aiz(r:Rw)(h:r.ia.all plI=ag):r.d=.tup r.ia:=by cases r<;>first|rfl|cases h
theorem YF{K:bz}{c:CA}(f:FOk K c)(k:Kn):∀ds Q,Mv c k ds Q->jB 1 1 (EH K) ds Q:=by
 rintro ds Q ⟨r,n,j,q⟩
 subst j;have h:=f.f r;have i:=r.nlt;by_cases b:r.ia.all plI=ag
 .rw[r.aiz b] at q;unfold Rw.ins;rw[r.agS] at i |-;refine⟨rfl,_,_,_,_,rfl,h,rfl,_,rfl,rfl,?_⟩;refine mD (λd=>d) ?_ _ _ ?_ (λx a o m=>?_) ?_
  .exact rfl
  .rw[bj,bt];exact r.abG
  .have a:=bF.mp b x a;cases x<;>first|(cases a;done)|skip
   all_goals
    walk_at "b";exact m _ rfl
  .have e:r.ia.map (vw [])=r.ia:=(dm (g:=λd=>d) λx a=>by have a:=bF.mp b x a;cases x<;>first|rfl|cases a).trans (List.map_id' _)
   rw[List.map_id'];show nl (.tup (r.ia.map (vw [])))=ag/\Q (.tup (r.ia.map (vw [])));rw[e];exact⟨i,q⟩
 .cases r<;>first|exact absurd rfl b|skip
  all_goals
   refine⟨rfl,?_⟩;conv=>whnf
   refine⟨_,_,_,_,rfl,h,rfl,?_⟩;walk_at "b";first|exact⟨Hg kZ,q⟩|exact⟨Hg YE,q⟩
theorem oq{c:CA}{k:Kn}(a:k=.Mark\/k=.V1\/k=.Last\/k=.Set\/k=.j5):∀ds M Q,zd c k ds M Q->uf 1 1 EI ds M Q:=by
 rintro ds M Q ⟨r,b,e,q⟩
 subst e b;cases r<;>first|(simp[Rw.kn] at a;done)|skip
 all_goals
  refine⟨rfl,?_⟩;walk_at "b";exact q
theorem Hi{K:bz}{c:CA}(f:FOk K c){k:Kn}(a:k=.Alike):∀ds M Q,zd c k ds M Q->uf 1 1 (uS K) ds M Q:=by
 rintro ds M Q ⟨r,b,e,q⟩
 subst e b;have g:=f.f r;cases r<;>first|(simp[Rw.kn] at a;done)|skip
 all_goals
  refine⟨rfl,?_⟩;conv=>whnf
  refine⟨_,_,_,_,rfl,g,rfl,?_⟩;conv=>whnf
  refine⟨λh=>Nat.succ_ne_zero 1 h.1,?_⟩;walk_at "b";exact q
theorem BH{K:bz}{c:CA}(f:FOk K c){k:Kn}(a:k=.V2\/k=.Leave):∀ds M Q,zd c k ds M Q->uf 1 1 (xO K) ds M Q:=by
 rintro ds M Q ⟨r,b,e,q⟩
 subst e b;have g:=f.f r;cases r<;>first|(simp[Rw.kn] at a;done)|skip
 all_goals
  refine⟨rfl,?_⟩;conv=>whnf
  refine⟨_,_,_,_,rfl,g,rfl,?_⟩;walk_at "b";exact q
theorem Hj{K:bz}{c:CA}(f:FOk K c){k:Kn}(a:k=.Table):∀ds M Q,zd c k ds M Q->uf 1 1 (uT K) ds M Q:=by
 rintro ds M Q ⟨r,b,e,q⟩
 subst e b;have g:=f.f r;cases r<;>first|(simp[Rw.kn] at a;done)|skip
 all_goals
  refine⟨rfl,?_⟩;conv=>whnf
  refine⟨_,_,_,_,rfl,g,rfl,?_⟩;walk_at "b";exact q
theorem O6{c:CA}{k:Kn}(a:k=.Mark\/k=.j5\/k=.Table\/k=.Last\/k=.Leave):∀ds Q,vW c k ds Q->jB 1 1 zT ds Q:=by
 rintro ds Q ⟨r,b,e,q⟩
 subst e b;cases r<;>first|(simp[Rw.kn] at a;done)|exact⟨rfl,rfl,q⟩
theorem Ux{c:CA}{k:Kn}(a:k=.V1\/k=.Set\/k=.Alike\/k=.V2):∀ds Q,vW c k ds Q->jB 1 1 tm ds Q:=by
 rintro ds Q ⟨r,b,e,q⟩
 subst e b;cases r<;>first|(simp[Rw.kn] at a;done)|exact⟨rfl,rfl,q⟩
def vX (c:CA):ma:=λC m g=>∃k:Kn,C=c.at k/\g=zd c k
def YG (c:CA):ma:=λC m g=>∃k:Kn,C=c.at k/\g=cl (vW c k)
def jD (c:CA):ma:=λC m g=>∃k:Kn,C=c.at k/\g=cl (Mv c k)
def EJ:DS:=(gW (iE 2 (gX (gI (λ_ j=>0<j) λi j=>.int (i%j)) (gX xj (gX i8 (gX i8 (gX (gI (λ_ j=>0<j) λi j=>.int (i%j)) (gE 0) (dC (.int 2147483647))) (gX xj (dC (.int 7919)) (gE 1))) (dC (.int 1))) (dC (.int 48271))) (dC (.int 2147483647))))
 (gW (iE 2 (gX (gI (λ_ j=>0<j) λi j=>.int (i%j)) (gX xj (gE 2) (gX i8 (gX (gI F6 λi j=>.int (i/j)) (gE 2) (dC (.int 1009))) (dC (.int 69621)))) (dC (.int 2147483647))))
 (hW (gX (gI (λ_ j=>0<j) λi j=>.int (i%j)) (gX xj (gX i8 (gE 2) (gX xj (dC (.int 31)) (gE 1))) (gX i8 (gX (gI F6 λi j=>.int (i/j)) (gE 2) (dC (.int 16807))) (dC (.int 40692)))) (dC (.int 2147483629))))))
def ze:GP:=λds Q=>∃a k:Int,ds=[.int a,.int k]/\0<=k/\k<=1000/\∀n:Int,0<=n->n<2147483629->Q (.int n)
theorem Mx:iH ze:=by
 rintro ds P Q w ⟨a,k,b,c,e,q⟩
 exact⟨a,k,b,c,e,λn x y=>w _ (q n x y)⟩
theorem YH:∀ds Q,ze ds Q->jB 3 2 EJ ds Q:=by
 rintro ds Q ⟨a,k,f,h,j,q⟩
 subst f;have b:(0:Int)<2147483647:=by decide
 have g:(0:Int)<2147483629:=by decide
 have c:∀i,F6 i 1009/\F6 i 16807:=λi=>⟨⟨by decide,by decide⟩,⟨by decide,by decide⟩⟩;have e:Vd 7919 k/\Vd 31 k:=⟨.inl (by decide),.inl (by decide)⟩;exact⟨rfl,b,e.1,.inr (by decide),b,(c _).1,.inl (by omega),b,e.2,(c _).2,.inl (by omega),g,rfl,q _ (by omega) (by omega)⟩
theorem lx{β:Type}{xs:List β}{k:Nat}{x:β}(h:xs[k]?=aa x):vE xs (k:Int)=aa x:=by have a:=(au.mp h).1;unfold vE QU;rw[if_pos (by omega),if_pos (by omega)];simpa using h
theorem YI{β:Type}{xs:List β}{k:Nat}:cutD xs (aa (k:Int)) ao=xs.drop k:=by
 unfold cutD;rw[HT.LZ,HT.Xu];by_cases h:k<=xs.length
 .rw[Nat.min_eq_left h,ai0 (by rw[e9];omega)]
 .rw[Nat.min_eq_right (by omega),List.drop_eq_nil_of_le (aM _),List.drop_eq_nil_of_le (by omega)];simp
theorem abH{β:Type}{xs:List β}{k m:Nat}(h:m<=xs.length)(a:k<=m):cutD xs (aa (k:Int)) (aa (m:Int))=(xs.drop k).take (m- k):=by unfold cutD;rw[HT.LZ,HT.LZ,Nat.min_eq_left h,Nat.min_eq_left (by omega)]
structure CF(K:bz)(C:ak):Prop where
 pg:W.plainGet K C ay.empty=ag
 hd:W.hasDictIn K C=ag
 po:W.plainOver K C=ag
 sa:cg K (.ref C) "__setattr__"=aa (aa (.builtin "object.__setattr__"))
 wW:W.makesIn K C=ag
 kc:dy K (.ref C)=ag
 ha:cg K (.ref C) "__class__"=aa (aa (.builtin "object.__class__"))
 hn:W.specialIn K (.builtin "object.__class__") "__get__"=aa (aa (.builtin "getset_descriptor.__get__"))
 htk:W.takesIn K (.builtin "object.__class__")=aa ag
 hm:W.mroIn K C (.type "object")=aa ag
theorem CF.cls{K:bz}{C:ak}(h:CF K C):Q8 K C:=⟨h.pg,h.hd,h.po,h.sa⟩
theorem CF.agT{K:bz}{C:ak}(h:CF K C):Ua K C:=⟨h.cls,h.ha,h.hn,h.htk,h.hm⟩
structure RF(K:bz)(C fI fW fA fG fL:ak):Prop where
 c:CF K C
 nT:cg K (.ref C) "told"=aa ao
 aI:cg K (.ref C) "__init__"=aa (aa (.ref fI))
 aW:cg K (.ref C) "words"=aa (aa (.ref fW))
 aA:cg K (.ref C) "asked"=aa (aa (.ref fA))
 aG:cg K (.ref C) "goes_on"=aa (aa (.ref fG))
 aL:cg K (.ref C) "lengths"=aa (aa (.ref fL))
structure MF(K:bz)(n q:ay)(st:bL)(f:ak):Prop where
 ex:∃fd,nw K n q st f fd
 fn:W.isFn K (.ref f)=ag
 kp:dy K (.ref f)=ag
theorem agU{K:bz}{x qual:ay}{st:bL}{f:ak}{oc:ae}{od an:Option ak}{TJ:Array (Option ae)}{kV doc pm iC ct:ae}(l:K.lookup f=aa ⟨oc,od,.func (dt x qual (lr st) (i7 st) (iA st) .none kV doc pm an iC ct),TJ⟩)
(c:W.codeIn K iC qual=ag)(k:dy K (.ref f)=ag)(i:W.isFn K (.ref f)=ag):MF K x qual st f:=⟨⟨_,XD l c k⟩,i,k⟩
section
variable {P:ba} {w:bI} {K:bz} {mg:ay->Option ae} {cv:az}
theorem qV{k:Nat}{C f:ak}{m:ay}{fd:cK}{a:List ay}{g b:GN}(c:Q8 K C)(hm:Meth K C m f)(e:Binds K fd a [])(F:ke P w K mg cv p8 k f fd a (jX K g))(h:jW b)(i:∀ds M Q,b ds M Q->g ds M Q):iS P w K mg cv k C m b:=
 ⟨h,c,f,fd,a,hm,e,F.imp λj H Q E ⟨F,α,M,ds,o,r,q⟩=>⟨F,α,M,ds,o,r,i _ _ _ q⟩⟩
end
theorem aeK{K:bz}{b:ak}{o:cm}{us:List ae}{n:Nat}{fs:List ay}(l:K.lookup b=aa o)(a:o.cls=.type "tuple")(c:o.data=.seq us.toArray n)(e:us.length<=aC)(f:Vals (fs.map V.str) us):X8 K (fm fs) (.ref b):=
 ⟨.ref b,rfl,λα H=>by unfold fm Rep;exact⟨b,fs.map V.str,rfl,.inr ⟨o,us.toArray,n,l,a,c,by simpa using e,by simpa using f⟩,gJ.of_map _ _ (λ_=>qZ) _⟩⟩
theorem YJ:Vals (([]:List ay).map V.str) []:=.nil
theorem V5{x:ay}{t:akr}{fs:List ay}{us:List ae}(h:Vals (fs.map V.str) us):Vals ((x::fs).map V.str) (.str x t::us):=.cons ⟨t,rfl⟩ h
theorem aeL{K:bz}{a:ak}{o:cm}{es:List akR}{b:Nat}{rows:List (ay×D)}(lo:(a==cH)=ar)(l:K.lookup a=aa o)(c:o.ExactDict)(hd:o.data=.dict es.toArray b)(e:Rows (X8 K) es rows):Dg K a rows:=
 ⟨lo,o,es.toArray,b,l,c,hd,by simpa using e⟩
def wX (jD:ma):DS:=(hW (mS jD "words" (gE 0) gK))
def ql (K:bz):DS:=(gW (pC (kx K "told" (gE 0)) (js 4 (hC (gQ 2) (hC (gQ 3) (hC (gQ 4) (hC (gQ 5) jr))))))
 (hW (iT (gD (gE 2) (gD (gE 3) (gD (gX ij (gE 1) (gE 4)) (gD (gX ij (gE 1) (gE 5)) gK)))))))
def sr (K:bz):DS:=(hW (gX i8 (dSl (kx K "told" (gE 0)) y0 (EC (Ry (dC (.int 1))))) (iT (gD (gX ij (gE 1) (gX ij (kx K "told" (gE 0)) (Ry (dC (.int 1))))) gK))))
def qm (K:bz):DS:=(hW (iT (gD (gX ij (kx K "told" (gE 0)) (dC (.int 0))) (gD (jz (jY [ao,aa 1] (jM (gX ij (kx K "told" (gE 0)) (dC (.int 1)))) (gQ 0) r6 (gX ij (gE 1) (gE 0)))) gK))))
def uV (K:bz):DS:=(hW (Ex (iG (lu K) (gD (gE 0) (gD (dC (.ty "tuple")) gK))) (Ex (gX (Jl λi j=>.bl (decide (j<i))) (iG m4 (gD (gE 0) gK)) (dC (.int 0))) (Ex (iG (lu K) (gD (gX ij (gE 0) (dC (.int 0))) (gD (dC (.ty "str")) gK))) (gX mR (gX ij (gE 0) (dC (.int 0))) (dC (.str "mark")))))))
def zU (a:GN):DS:=(hW (iG m4 (gD (jz (jY [ao] (jM (gE 0)) (gQ 0) (gS (iG a (gD (gE 0) gK))) (gE 0))) gK)))
def xT (a:GN):DS:=(hW (gX (Jl λi j=>.int (i- j)) (iG m4 (gD (gE 0) gK)) (iG a (gD (gE 0) gK))))
def Lk (K:bz)(a:GN)(b:GN):DS:=(gW (ii (Gq (ph (gS (iG (lu K) (gD (gE 0) (gD (dC (.ty "tuple")) gK))))) (gS (gX Fa (iG m4 (gD (gE 0) gK)) (dC (.int 2))))) (hW (dC (.bl ar))) hX)
 (gW (ii (Gq (ph (gS (iG a (gD (gX ij (gE 0) (dC (.int 0))) gK)))) (ph (gS (iG (lu K) (gD (gX ij (gE 0) (dC (.int 1))) (gD (dC (.ty "list")) gK)))))) (hW (dC (.bl ar))) hX)
 (hW (nz Bp Bp (dC (.int 1)) (iG b (gD (gX ij (gE 0) (dC (.int 1))) gK)) (dC (.int 60))))))
def EK (K:bz)(a:GN)(b:GN)(c:GN):DS:=(gW (ii (Gq (ph (gS (iG (lu K) (gD (gE 0) (gD (dC (.ty "list")) gK))))) (ph (gS (nz Bp Bp (dC (.int 1)) (iG m4 (gD (gE 0) gK)) (dC (.int 12)))))) (hW (dC (.bl ar))) hX)
 (gW (ii (ph (gS (iG RA (gD (jz (jY [ao] (jM (gE 0)) (gQ 0) r6 (iG a (gD (gE 0) gK)))) gK)))) (hW (dC (.bl ar))) hX)
 (gW (ii (gS (gX Fa (Up (jz (jY [ao] (jM (gE 0)) (gQ 0) r6 (gX ij (gE 0) (dC (.int 0)))))) (iG m4 (gD (gE 0) gK)))) (hW (dC (.bl ar))) hX)
 (gW (ii (gS (gX (Jl λi j=>.bl (decide (j<i))) (iG aeG (gD (jz (jY [ao] (jM (gE 0)) (gQ 0) r6 (iG b (gD (gX ij (gE 0) (dC (.int 1))) gK)))) gK)) (dC (.int 200)))) (hW (dC (.bl ar))) hX)
 (hW (gX Bp (iG aeG (gD (jz (jY [ao] (jM (gE 0)) (gQ 0) r6 (iG c (gD (gX ij (gE 0) (dC (.int 1))) gK)))) gK)) (dC (.int 200))))))))
def Ll (a:GN):DS:=(gW (iE 2 (lN (ku gK)))
 (gW (pi (pD (gD (gE 1) gK)) (js 2 (hC (gQ 3) (hC (gQ 4) jr))) (gW (iE 5 (iG a (gD (gE 4) gK)))
 (gW (ii (gS (gX gIs (gE 5) (dC .non))) rY hX)
 (j8 (Aq "list" iN (gE 2) (gD (gE 5) gK))))))
 (hW (gE 2))))
def ou (K:bz)(a:ak):DS:=(gW (pi (jM (gE 0)) (gQ 1) (ii (ph (gS (iG (lu K) (gD (gE 1) (gD (dC (.cls a)) gK))))) (hW (gE 1)) hX))
 (hW (dC .non)))
def nC (K:bz)(a:GN)(b:ma)(c:ak)(e:ak):DS:=(pi (pD (gD (gE 1) gK)) (js 2 (hC (gQ 2) (hC (gQ 3) jr))) (gW (iE 4 (iG a (gD (dSl (gE 1) (EC (gX i8 (gE 2) (dC (.int 1)))) y0) gK)))
 (gW (ii (Jv (gS (mS b "goes_on" (gE 3) gK)) (ph (gS (iG (lu K) (gD (gE 4) (gD (dC (.cls c)) gK)))))) rY hX)
 (ii (Jv (gS (iG (lu K) (gD (gE 3) (gD (dC (.cls e)) gK)))) (gS (gX gIs (gE 4) (dC .non)))) rY hX))))
def EL (a:GN)(b:GN)(c:GN):DS:=(gW (ii (ph (gS (iG a (gD (gE 0) gK)))) rY hX)
 (gW (iE 1 (jz (jY [ao] (jM (gE 0)) (gQ 0) r6 (iT (gD (gX ij (gE 0) (dC (.int 0))) (gD (iG b (gD (gX ij (gE 0) (dC (.int 0))) (gD (gX ij (gE 0) (dC (.int 1))) gK))) gK))))))
 (gW (pi (jM (gE 1)) (js 2 (hC (gQ 2) (hC (gQ 3) jr))) (j8 (iG c (gD (gE 2) (gD (gE 3) gK)))))
 (hW (gE 1)))))
def Lm:DS:=(hW (jz (Yz (gE 0))))
def qL (K:bz)(c:ak)(jD:ma):DS:=(gW (iE 2 (lN (ku gK)))
 (gW (iE 3 (dC (.int 0)))
 (gW (pi (jM (gE 1)) (gQ 4) (ii (gS (iG (lu K) (gD (gE 4) (gD (dC (.cls c)) gK)))) (gW (pC (dSl (mS jD "words" (gE 4) gK) (EC (dC (.int 1))) y0) (js 2 (hC (gQ 5) (hC (gQ 6) jr))))
 (j8 (Aq "list" iN (gE 2) (gD (iT (gD (gE 5) (gD (gE 6) (gD (iT (gD (gE 0) (gD (gE 3) gK))) gK)))) gK)))) (Ud 3 (λ_ _=>True) (λa b=>.int (a+b)) (dC (.int 1)))))
 (hW (gE 2)))))
def Hk (a:GN)(b:GN):DS:=(gW (iE 1 (lN (ku gK)))
 (gW (pi (jM (iG a (gD (gE 0) gK))) (js 2 (hC (gQ 2) (hC (gQ 3) jr))) (j8 (Aq "list" OO (gE 1) (gD (iG b (gD (gE 2) (gD (gE 3) gK))) gK))))
 (hW (gE 1))))
def xU:DS:=(gW (iE 1 (lN Gv))
 (gW (pi (jM (gE 0)) (js 3 (hC (gQ 2) (hC (gQ 3) (hC (gQ 4) jr)))) (ii (gS (gE 3)) (j8 (Aq "list" iN (Aq "dict" OU (gE 1) (gD (gE 2) (gD (lN (ku gK)) gK))) (gD (gX ij (gE 4) (dC (.int 0))) gK))) hX))
 (hW (gE 1))))
def uW (a:GN):DS:=(gW (iE 1 (iG a (gD (gE 0) gK)))
 (pi (jM (jz (WU OS (gD (gE 1) gK)))) (gQ 2) (ii (gS (gX (Jl λi j=>.bl (decide (j<i))) (iG m4 (gD (gX ij (gE 1) (gE 2)) gK)) (dC (.int 1)))) rY hX)))
def EM (a:GN)(b:GN):DS:=(gW (iE 1 (iG a (gD (gE 0) gK)))
 (gW (j8 (iG b (gD (gE 1) gK)))
 (gW (iE 2 (lN Gv))
 (gW (pi (jM (gE 1)) (js 3 (hC (gQ 3) (hC (gQ 4) (hC (gQ 5) jr)))) (ii (Gq (gS (gE 4)) (gS (gX (N2 ag) (gE 3) (gE 2)))) (OQ (gE 2) (gE 3) (gE 5)) hX))
 (hW (gE 2))))))
def qN (K:bz)(a:ak):DS:=(hW (jz (jY [ao] (jM (gE 0)) (gQ 0) (ph (gS (iG (lu K) (gD (gE 0) (gD (dC (.cls a)) gK))))) (gE 0))))
def EN (a:GN)(b:GN):DS:=(hW (jz (WU Ys (gD (jz (jY [ao,ao] (jM (iG a (gD (gE 0) gK))) (js 2 (hC (gQ 0) (hC (gQ 1) jr))) r6 (iT (gD (gE 0) (gD (iG b (gD (gE 1) gK)) gK))))) gK))))
def Hl:DS:=(hW (gX ij (gX ij (gE 0) (gX ij (gE 1) (dC (.int 0)))) (gX ij (gE 1) (dC (.int 1)))))
def vZ (K:bz)(jD:ma)(a:ak)(b:ak)(c:ak):DS:=(gW (iE 2 (gX ij (mS jD "words" (gE 0) gK) (dC (.int 0))))
 (gW (ii (gS (gX mR (gE 2) (dC (.str "alike")))) (hW (dC (.bl ag))) hX)
 (gW (ii (gS (gX mR (gE 2) (dC (.str "load")))) (hW (iG (lu K) (gD (gE 1) (gD (dC (.cls a)) gK)))) hX)
 (gW (ii (gS (gX mR (gE 2) (dC (.str "jumpby")))) (hW (iG (lu K) (gD (gE 1) (gD (dC (.cls b)) gK)))) hX)
 (hW (iG (lu K) (gD (gE 1) (gD (dC (.cls c)) gK))))))))
def xV (vX:ma)(a:GN)(b:GN):DS:=(pi (pD (gD (gX ij (gE 1) (gE 0)) gK)) (js 2 (hC (gQ 3) (hC (gQ 4) jr))) (pi (jM (mS vX "asked" (gE 4) gK)) (gQ 5) (gW (ii (gS (gX (N2 ag) (gE 5) (gE 2))) rY hX)
 (ii (ph (gS (iG a (gD (gE 4) (gD (iG b (gD (gE 1) (gD (gX ij (gE 2) (gE 5)) gK))) gK))))) rY hX))))
def O7 (a:GN)(b:GN)(c:GN)(e:GN):DS:=(gW (iE 1 (iG a (gD (gE 0) gK)))
 (gW (iE 2 (iG b (gD (gE 1) gK)))
 (gW (iE 3 (iG c (gD (gE 1) gK)))
 (gW (pi (jM (gE 1)) (js 2 (hC (gQ 4) (hC (gQ 5) jr))) (j8 (iG e (gD (gE 4) (gD (gE 3) (gD (gE 2) gK))))))
 (hW (iT (gD (gE 3) (gD (gE 2) gK))))))))
def uh (K:bz)(a:GN)(b:ak)(c:GN):DS:=(gW (ii (Gq (ph (gS (iG a (gD (gE 2) gK)))) (gS (gX (N2 ag) (gE 2) (gE 1)))) rY hX)
 (gW (ii (ph (gS (iG (lu K) (gD (iG c (gD (gE 0) (gD (gX ij (gE 1) (gE 2)) gK))) (gD (dC (.cls b)) gK))))) rY hX)
 (hW (gX ij (gE 1) (gE 2)))))
def uX (K:bz):DS:=(gW (qh K "bare" (gE 0) (gE 1))
 (qh K "places" (gE 0) (gE 2)))
def qW (K:bz)(a:GN)(b:ma):DS:=(gW (pC (gE 1) (js 2 (hC (gQ 2) (hC (gQ 3) jr))))
 (hW (iT (gD (mS b "by_places" (iG a (gD (kx K "bare" (gE 0)) (gD (gE 1) gK))) (gD (kx K "places" (gE 0)) gK)) (gD (iT (gD (gE 2) (gD (gX i8 (gE 3) (dC (.int 1))) gK))) gK)))))
def oy (K:bz)(a:GN)(jD:ma):DS:=(hW (gX ij (mS jD "words" (iG a (gD (kx K "bare" (gE 0)) (gD (gE 1) gK))) gK) (dC (.int 1))))
def qo (K:bz)(a:GN)(b:ma):DS:=(hW (gX ij (mS b "by_places" (iG a (gD (kx K "bare" (gE 0)) (gD (gE 1) gK))) (gD (kx K "places" (gE 0)) gK)) (dC (.int 1))))
def Hm (K:bz):DS:=(gW (qh K "store" (gE 0) (gE 1))
 (gW (qh K "inputs" (gE 0) (gE 2))
 (gW (qh K "used" (gE 0) (dC (.int 0)))
 (gW (qh K "boxes" (gE 0) (lN (ku (gD (dC (.int 0)) (gD (dC (.int 0)) (gD (dC (.int 0)) (gD (dC (.int 0)) gK)))))))
 (gW (qh K "kept" (gE 0) (lN (ku gK)))
 (gW (qh K "answers" (gE 0) (lN (ku gK)))
 (qh K "end" (gE 0) (dC .non))))))))
def BJ (K:bz)(pH:ma)(pI:ma)(nD:ma)(a:ma)(b:ma):DS:=(gW (iE 3 (gX ij (gE 1) (dC (.int 0))))
 (gW (ii (gS (gX mR (gE 3) (dC (.str "jump")))) (hW (gX ij (gE 1) (dC (.int 1)))) hX)
 (gW (ii (gS (gX mR (gE 3) (dC (.str "jumpif")))) (hW (dIf (gS (gX mR (gX ij (kx K "boxes" (gE 0)) (gX ij (gE 1) (dC (.int 1)))) (dC (.int 0)))) (gE 2) (gX ij (gE 1) (dC (.int 2))))) hX)
 (gW (ii (gS (gX mR (gE 3) (dC (.str "call")))) (hW (mS pH "do_call" (gE 0) (gD (gX ij (gE 1) (dC (.int 1))) (gD (gE 2) gK)))) hX)
 (gW (ii (gS (gX mR (gE 3) (dC (.str "back")))) (hW (mS pI "do_back" (gE 0) (gD (gE 2) gK))) hX)
 (gW (ii (gS (gX mR (gE 3) (dC (.str "jumpby")))) (hW (mS a "do_jumpby" (gE 0) (gD (gX ij (kx K "boxes" (gE 0)) (gX ij (gE 1) (dC (.int 1)))) (gD (mS nD "table_at" (kx K "store" (gE 0)) (gD (gX ij (gE 1) (dC (.int 2))) gK)) (gD (gE 2) gK))))) hX)
 (gW (ii (gS (gX mR (gE 3) (dC (.str "stop")))) (qh K "end" (gE 0) (dC (.str "stop"))) (j8 (mS b "do_in_boxes" (gE 0) (gD (gE 1) gK))))
 (hW (gE 2)))))))))
def zV (K:bz):DS:=(gW (ii (gS (gX mR (iG m4 (gD (kx K "kept" (gE 0)) gK)) (dC (.int 40)))) (gW (qh K "end" (gE 0) (dC (.str "deep")))
 (hW (gE 2))) hX)
 (gW (j8 (Aq "list" iN (kx K "kept" (gE 0)) (gD (gE 2) gK)))
 (hW (gE 1))))
def zW (K:bz):DS:=(gW (ii (gS (gX mR (iG m4 (gD (kx K "kept" (gE 0)) gK)) (dC (.int 0)))) (gW (qh K "end" (gE 0) (dC (.str "empty")))
 (hW (gE 1))) hX)
 (hW (Aq "list" Ub (kx K "kept" (gE 0)) gK)))
def qO (K:bz):DS:=(gW (ii (ph (gS (nz Bp Ow (dC (.int 0)) (gE 1) (iG m4 (gD (gE 2) gK))))) (gW (qh K "end" (gE 0) (dC (.str "place")))
 (hW (gE 3))) hX)
 (hW (gX ij (gE 2) (gE 1))))
def tH (K:bz)(su:ma)(lD:ma)(pJ:ma):DS:=(gW (iE 2 (gX ij (gE 1) (dC (.int 0))))
 (gW (iE 3 (gX ij (gE 1) (dC (.int 1))))
 (ii (gS (gX mR (gE 2) (dC (.str "set")))) (pC (gX ij (gE 1) (dC (.int 2))) (uP (kx K "boxes" (gE 0)) (gE 3))) (ii (gS (gX mR (gE 2) (dC (.str "add")))) (Yg (λa b=>.int (a+b)) (kx K "boxes" (gE 0)) (gE 3) (gX ij (kx K "boxes" (gE 0)) (gX ij (gE 1) (dC (.int 2))))) (ii (gS (gX mR (gE 2) (dC (.str "take")))) (Yg (λa b=>.int (a- b)) (kx K "boxes" (gE 0)) (gE 3) (gX ij (kx K "boxes" (gE 0)) (gX ij (gE 1) (dC (.int 2))))) (ii (gS (gX mR (gE 2) (dC (.str "say")))) (j8 (Aq "list" iN (kx K "answers" (gE 0)) (gD (gX ij (kx K "boxes" (gE 0)) (gE 3)) gK))) (ii (gS (gX mR (gE 2) (dC (.str "ask")))) (j8 (mS su "do_ask" (gE 0) (gD (gE 3) gK))) (ii (gS (gX mR (gE 2) (dC (.str "load")))) (j8 (mS pJ "do_load" (gE 0) (gD (gE 3) (gD (gX ij (kx K "boxes" (gE 0)) (gX ij (gE 1) (dC (.int 2)))) (gD (mS lD "numbers_at" (kx K "store" (gE 0)) (gD (gX ij (gE 1) (dC (.int 3))) gK)) gK))))) (pC (dIf (gS (gX mR (gX ij (gE 1) (dC (.int 2))) (gX ij (gE 1) (dC (.int 3))))) (dC (.int 1)) (dC (.int 0))) (uP (kx K "boxes" (gE 0)) (gE 3)))))))))))
def BK (K:bz):DS:=(gW (ii (gS (gX mR (kx K "used" (gE 0)) (iG m4 (gD (kx K "inputs" (gE 0)) gK)))) (gW (qh K "end" (gE 0) (dC (.str "ask")))
 XT) hX)
 (gW (pC (gX ij (kx K "inputs" (gE 0)) (kx K "used" (gE 0))) (uP (kx K "boxes" (gE 0)) (gE 1)))
 (Ug K "used" (gE 0) (dC (.int 1)))))
def ui (K:bz):DS:=(gW (ii (ph (gS (nz Bp Ow (dC (.int 0)) (gE 2) (iG m4 (gD (gE 3) gK))))) (gW (qh K "end" (gE 0) (dC (.str "place")))
 XT) hX)
 (pC (gX ij (gE 3) (gE 2)) (uP (kx K "boxes" (gE 0)) (gE 1))))
def Au (K:bz)(a:ak)(b:GN)(mH:ma)(oz:ma):DS:=(gW (iE 4 (acQ a b (gD (gE 0) (gD (gE 2) gK))))
 (gW (pi (xH (gD (gE 3) gK)) (gQ 5) (gW (pC (mS mH "code_at" (gE 0) (gD (gE 1) gK)) (js 2 (hC (gQ 6) (hC (gQ 7) jr))))
 (gW (iE 1 (mS oz "do_row" (gE 4) (gD (gE 6) (gD (gE 7) gK))))
 (ii (gS (gX Rs (kx K "end" (gE 4)) (dC .non))) (hW (iT (gD (kx K "answers" (gE 4)) (gD (kx K "end" (gE 4)) gK)))) hX))))
 (hW (iT (gD (kx K "answers" (gE 4)) (gD (dC (.str "steps")) gK))))))
def EO (a:GN)(b:GN)(c:GN)(e:ak)(f:GN):DS:=(gW (pC (iG a (gD (gE 0) gK)) (js 2 (hC (gQ 4) (hC (gQ 5) jr))))
 (gW (iE 6 (iG b (gD (gE 4) (gD (gE 5) (gD (gE 1) gK)))))
 (hW (iG c (gD (se e f (gD (gE 4) (gD (gE 5) gK))) (gD (gE 6) (gD (gE 2) (gD (gE 3) gK))))))))
theorem aeM{a b:Int}{M:Ms}{Q:DK}(h:a=b)(q:Q (.bl ar) M):Fa (.int a) (.int b) M Q:=by subst h;show Q (.bl (!(a==a))) M;rw[beq_self_eq_true];exact q
theorem My{a b:Int}{M:Ms}{Q:DK}(h:a=b)(q:Q (.bl ag) M):mR (.int a) (.int b) M Q:=by subst h;show Q (.bl (a==a)) M;rw[beq_self_eq_true];exact q
theorem Mz{a b:Int}{M:Ms}{Q:DK}(h:a≠b)(q:Q (.bl ar) M):mR (.int a) (.int b) M Q:=by show Q (.bl (a==b)) M;rw[beq_eq_false_iff_ne.mpr h];exact q
theorem aeN{a b:Int}{M:Ms}{Q:DK}(h:¬b<a)(q:Q (.bl ar) M):(Jl λi j=>.bl (decide (j<i))) (.int a) (.int b) M Q:=by show Q (.bl (decide (b<a))) M;rw[decide_eq_false h];exact q
abbrev Pt:=ay×List Rw
noncomputable def sv(p:Pt):D:=.tup [.str p.1,.lst (p.2.map Rw.d)]
noncomputable def Ln(c:CA)(p:Pt):D:=.tup [.str p.1,.lst (p.2.map (Rw.ins c))]
noncomputable def Rw.ju:Rw->Bool
 |.mark _ _=>ag
 |_=>ar
noncomputable def markD:D->Bool
 |.tup (.str k::_)=>k=="mark"
 |_=>ar
theorem MA(r:Rw):markD r.d=r.ju:=by cases r<;>rfl
noncomputable def nE(rs:List Rw):Nat:=(rs.filter Rw.ju).length
noncomputable def xW(rs:List Rw):Nat:=rs.length- nE rs
def BM:GP:=λds Q=>∃r:Rw,ds=[r.d]/\Q (.bl r.ju)
theorem JH:iH BM:=by
 rintro ds P Q w ⟨r,h,q⟩
 exact⟨r,h,w _ q⟩
theorem V6(K:bz):∀ds Q,BM ds Q->jB 1 1 (uV K) ds Q:=by
 rintro ds Q ⟨r,h,q⟩
 subst h;cases r;all_goals
  walk_at "b";exact q
theorem xX(rs:List Rw):l9 (rs.map Rw.d)=ag:=jS Rw.nld rs
def BN:GP:=λds Q=>∃rs:List Rw,ds=[.lst (rs.map Rw.d)]/\rs.length<=1000/\Q (.int (nE rs))
theorem MB:iH BN:=by
 rintro ds P Q w ⟨r,h,l,q⟩
 exact⟨r,h,l,w _ q⟩
theorem Hn(rs:List Rw):((rs.map Rw.d).filterMap λd=>if markD d=ag then aa d else ao).length=nE rs:=by
 unfold nE;induction rs with
 |nil=>rfl
 |cons r rs a=>
  rw[aZ,cD,fF,MA];cases r.ju with
  |true=>simp only [if_true,aU,a]
  |false=>simp only [c5,if_false,a]
theorem sx{n:Nat}(h:n<=1000):n<=aC:=bG h (by decide)
theorem YK:∀ds Q,BN ds Q->jB 1 1 (zU (cl BM)) ds Q:=by
 rintro ds Q ⟨rs,h,l,q⟩
 subst h;refine⟨rfl,?_⟩;conv=>whnf
 refine⟨_,rfl,rfl,?_⟩;refine vO (λd=>if markD d=ag then aa d else ao) ?_ _ _ ?_ (λx a e c=>?_) ?_
 .exact rfl
 .rw[ai,bj,bt];exact sx l
 .obtain⟨r,_,rfl⟩:=bN.mp a;refine⟨by unfold l9;rw[r.nld];rfl,r,rfl,?_⟩;have:=c _ (show CZ [ao] [aa r.d]=_ from rfl);rw[MA] at this;generalize r.ju=b at this |-;cases b<;>exact this
 .refine⟨_,rfl,?_⟩;refine⟨rfl,?_⟩;show Q (.int ((fw _:Nat):Int));rw[bQ,Hn];exact q
theorem V7(rs:List Rw):nE rs<=rs.length:=e6 _ _
def xY:GP:=λds Q=>∃rs:List Rw,ds=[.lst (rs.map Rw.d)]/\rs.length<=1000/\Q (.int (xW rs))
theorem JJ:iH xY:=by
 rintro ds P Q w ⟨r,h,l,q⟩
 exact⟨r,h,l,w _ q⟩
theorem FH(rs:List Rw):l9 [.lst (rs.map Rw.d)]=ag:=by show(l9 (rs.map Rw.d)&&ag)=ag;rw[xX];rfl
theorem V8:∀ds Q,xY ds Q->jB 1 1 (xT (cl BN)) ds Q:=by
 rintro ds Q ⟨rs,h,l,q⟩
 subst h;refine⟨rfl,?_⟩;conv=>whnf
 refine⟨_,rfl,?_⟩;refine⟨FH rs,rs,rfl,l,?_⟩;refine⟨rfl,?_⟩;show Q (.int (((rs.map Rw.d).length:Int)- (nE rs:Int)));have e:((rs.map Rw.d).length:Int)- (nE rs:Int)=((xW rs:Nat):Int):=by have:=V7 rs;rw[ai];unfold xW;omega
 rw[e];exact q
structure agV(p:Pt):Prop where
 w:xt p.1=ag
 lo:1<=xW p.2
 hi:xW p.2<=60
 len:p.2.length<=1000
theorem YL(p:Pt):nl (sv p)=ag:=by show(ag&&(l9 (p.2.map Rw.d)&&ag))=ag;rw[xX];rfl
def zi:GP:=λds Q=>∃p:Pt,ds=[sv p]/\agV p/\Q (.bl ag)
theorem Ho:iH zi:=by
 rintro ds P Q w ⟨p,h,l,q⟩
 exact⟨p,h,l,w _ q⟩
theorem RV(K:bz):∀ds Q,zi ds Q->jB 1 1 (Lk K (cl nQ) (cl xY)) ds Q:=by
 rintro ds Q ⟨p,h,ok,q⟩
 subst h;refine⟨rfl,?_⟩;conv=>whnf
 walk_at "b";refine⟨p.1,ok.w,rfl,?_⟩;walk_at "b";refine⟨FH p.2,p.2,rfl,ok.len,?_⟩;have a:(1:Int)<=(xW p.2:Int):=by have:=ok.lo;omega
 have b:(xW p.2:Int)<=60:=by have:=ok.hi;omega
 show(match D.bl (decide ((1:Int)<=(xW p.2:Int))) with|D.bl ag=>nl (fz [] (D.bl (decide ((xW p.2:Int)<=60))))=ag/\Q (fz [] (D.bl (decide ((xW p.2:Int)<=60))))|D.bl ar=>nl (fz [] (.bl ar))=ag/\Q (fz [] (.bl ar))|_=>False);rw[decide_eq_true a,decide_eq_true b];exact⟨rfl,q⟩
structure agW(ps:List Pt):Prop where
 lo:1<=ps.length
 hi:ps.length<=12
 all:∀p∈ps,agV p
 nd:(ps.map bh).Nodup
 rows:(ps.map λp=>(xW p.2:Int)).sum<=200
 marks:(ps.map λp=>(nE p.2:Int)).sum<=200
theorem Dr(a:List Pt):l9 (a.map sv)=ag:=jS YL a
theorem BO(a:List Pt):l9 [.lst (a.map sv)]=ag:=by show(l9 (a.map sv)&&ag)=ag;rw[Dr];rfl
theorem Lo:∀(val:Nat->ay) (n:Nat),(∀i j,i<j->j<n->val i≠val j)->(Dl val n).length=n/\∀k,(Dl val n).any (·==k)=ag->∃i,i<n/\val i=k
 |val,0,_=>⟨rfl,λk h=>by simp[Dl] at h⟩
 |val,n+1,h=>by
  obtain⟨g,f⟩:=Lo val n λi j a b=>h i j a (by omega);have hn:(Dl val n).any (·==val n)=ar:=by
   cases e:(Dl val n).any (·==val n) with
   |false=>rfl
   |true=>obtain⟨i,a,b⟩:=f _ e;exact absurd b (h i n a (by omega))
  constructor
  .show(PyProof.Rows.step_dedup _ _).length=_;rw[Yl,hn,g];rfl
  .intro k c;have c:(PyProof.Rows.step_dedup (Dl val n) (val n)).any (·==k)=ag:=c;rw[Yk,Bool.or_eq_true] at c;rcases c with c|c
   .obtain⟨i,a,b⟩:=f k c;exact⟨i,by omega,b⟩
   .exact⟨n,by omega,(of_decide_eq_true c).symm⟩
theorem Hq(rs:List Rw):((rs.map Rw.d).filter markD).length=nE rs:=by
 unfold nE;induction rs with
 |nil=>rfl
 |cons r rs a=>
  rw[aZ,cD,cD,MA];cases r.ju with
  |true=>simp only [if_true,aU,a]
  |false=>simp only [c5,if_false,a]
theorem Uz(rs:List Rw):(((rs.map Rw.d).length- ((rs.map Rw.d).filter markD).length:Nat):Int)=(xW rs:Int):=by rw[Hq,ai];rfl
theorem RW{ss:List ay}(h:ss.Nodup):Yn ss=ss.length:=by unfold Yn;refine(Lo _ _ λi j a b=>?_).1;rw[bu,bu,aJ (by omega),aJ b];exactλz=>absurd ((List.getElem_inj h).mp z) (by omega)
def UA:GP:=λds Q=>∃a:List Pt,ds=[.lst (a.map sv)]/\agW a/\Q (.bl ag)
theorem RX:iH UA:=by
 rintro ds P Q w ⟨p,h,l,q⟩
 exact⟨p,h,l,w _ q⟩
theorem aeO(K:bz):∀ds Q,UA ds Q->jB 1 1 (EK K (cl zi) (cl xY) (cl BN)) ds Q:=by
 rintro ds Q ⟨a,h,ok,q⟩
 subst h;have f:(a.map sv).length<=aC:=by rw[ai];exact sx (by have:=ok.hi;omega)
 have b1:(1:Int)<=((a.map sv).length:Int):=by have:=ok.lo;rw[ai];omega
 have b2:((a.map sv).length:Int)<=12:=by have:=ok.hi;rw[ai];omega
 refine⟨rfl,?_⟩;conv=>whnf
 walk_at "b";rw[decide_eq_true b1];walk_at "b";rw[decide_eq_true b2];conv=>whnf
 refine⟨_,rfl,rfl,?_⟩;refine mD (λ_=>.bl ag) ?_ _ _ ?_ (λx b g c=>?_) ?_
 .exact rfl
 .rw[bj,bt];exact f
 .obtain⟨p,e,rfl⟩:=bN.mp b;exact⟨by unfold l9;rw[YL];rfl,p,rfl,ok.all p e,c _ rfl⟩
 refine⟨(a.map sv).map λ_=>ag,(show D.lst _=D.lst _ by rw[bQ,bq,bq,bq];rfl),?_⟩;rw[show((a.map sv).map λ_=>ag).all id=ag by simp];conv=>whnf
 refine⟨_,rfl,rfl,?_⟩;refine mD (λd=>match d with|.tup (n::_)=>n|_=>.non) ?_ _ _ ?_ (λx b g c=>?_) ?_
 .exact rfl
 .rw[bj,bt];exact f
 .obtain⟨p,e,rfl⟩:=bN.mp b;exact⟨_,rfl,c _ rfl⟩
 refine⟨a.map bh,(show D.lst _=D.lst _ by rw[bQ,bq,bq];rfl),by rw[ai];have:=ok.hi;omega,?_⟩;refine⟨_,rfl,?_⟩;refine aeM (by rw[RW ok.nd];simp) ?_;conv=>whnf
 refine⟨_,rfl,rfl,?_⟩;refine mD (λd=>match d with|.tup [_,.lst rs]=>.int ((rs.length- (rs.filter markD).length:Nat):Int)|_=>.non) ?_ _ _ ?_ (λx b g c=>?_) ?_
 .exact rfl
 .rw[bj,bt];exact f
 .obtain⟨p,e,rfl⟩:=bN.mp b;refine⟨_,rfl,FH p.2,p.2,rfl,(ok.all p e).len,?_⟩;rw[<-Uz p.2];exact c _ rfl
 refine⟨a.map λp=>(xW p.2:Int),(show D.lst _=D.lst _ by rw[bQ,bq,bq];exact congrArg D.lst (dm λp _=>congrArg D.int (Uz p.2))),?_⟩;dsimp only [dC];refine aeN ?_ ?_
 .have:=ok.rows;omega
 conv=>whnf
 refine⟨_,rfl,rfl,?_⟩;refine mD (λd=>match d with|.tup [_,.lst rs]=>.int ((rs.filter markD).length:Int)|_=>.non) ?_ _ _ ?_ (λx b g c=>?_) ?_
 .exact rfl
 .rw[bj,bt];exact f
 .obtain⟨p,e,rfl⟩:=bN.mp b;refine⟨_,rfl,FH p.2,p.2,rfl,(ok.all p e).len,?_⟩;rw[<-Hq p.2];exact c _ rfl
 refine⟨a.map λp=>(nE p.2:Int),(show D.lst _=D.lst _ by rw[bQ,bq,bq];exact congrArg D.lst (dm λp _=>congrArg (λn:Nat=>D.int n) (Hq p.2))),?_⟩;dsimp only [dC];refine zc ?_ ?_
 .exact ok.marks
 .exact⟨rfl,q⟩
theorem tJ(c:CA)(rs:List Rw):l9 (rs.map (Rw.ins c))=ag:=jS (Rw.V3 c) rs
def zj (c:CA):GP:=λds Q=>∃(n:ay) (rs:List Rw),ds=[.str n,.lst (rs.map Rw.d)]/\(∀r∈rs,r.ok=ag)/\rs.length<=1000/\Q (.lst (rs.map (Rw.ins c)))
theorem Hr{c:CA}:iH (zj c):=by
 rintro ds P Q w ⟨n,rs,h,ok,l,q⟩
 exact⟨n,rs,h,ok,l,w _ q⟩
theorem take_snoc{β:Type}{l:List β}{j:Nat}{x:β}(h:l[j]?=aa x):l.take (j+1)=l.take j++[x]:=by rw[List.take_add_one,h];rfl
theorem get_map{β a:Type}{f:β->a}{l:List β}{j:Nat}{y:a}(h:(l.map f)[j]?=aa y):∃x,l[j]?=aa x/\y=f x:=by
 rw[aS] at h;cases e:l[j]? with
 |none=>rw[e] at h;cases h
 |some x=>rw[e] at h;cases h;exact⟨x,rfl,rfl⟩
theorem BP{l:List D}{j:Nat}{y:D}(h:(l.mapIdx λi d=>D.tup [.int i,d])[j]?=aa y):∃x,l[j]?=aa x/\y=.tup [.int j,x]:=by
 rw[List.getElem?_mapIdx] at h;cases e:l[j]? with
 |none=>rw[e] at h;cases h
 |some x=>rw[e] at h;cases h;exact⟨x,rfl,rfl⟩
theorem RY{c:CA}:∀ds Q,zj c ds Q->jB 6 2 (Ll (BG c)) ds Q:=by
 rintro ds Q ⟨n,rs,h,ok,l,q⟩
 subst h;refine⟨rfl,?_⟩;conv=>whnf
 refine⟨bi _,?_⟩;conv=>whnf
 refine⟨_,rfl,rfl,?_⟩;refine uR (λj a M=>∃b e f,M=[aa (.lst ((rs.take j).map (Rw.ins c)))]/\a=[aa (.str n),aa (.lst (rs.map Rw.d)),aa (.loc 0),b,e,f]) (λ_ _ _ _=>?_) _ 0 _ _ ⟨ao,ao,ao,rfl,rfl⟩ (λj x a M o g N i=>?_) (λa M g=>?_)
 .exact rfl
 .obtain⟨b,e,f,rfl,rfl⟩:=g;obtain⟨y,p,rfl⟩:=BP o;obtain⟨r,m,rfl⟩:=get_map p;have u:=ok r (aV m);rw[bt] at i |-;refine⟨rfl,rfl,?_⟩;conv=>whnf
  refine⟨r,u,rfl,?_⟩;conv=>whnf
  refine⟨rfl,_,rfl,?_,i _ _ ⟨_,_,_,?_,rfl⟩⟩
  .rw[ai,d9];exact bM (bG (Nat.min_le_right _ _) l) (by decide)
  .rw[take_snoc m,aX];rfl
 .obtain⟨b,e,f,rfl,rfl⟩:=g;rw[bt,fU,ai,List.take_length];exact⟨tJ c rs,q⟩
noncomputable def kN:List Rw->Option Rw
 |[]=>ao
 |r::rs=>if r.ju then kN rs else aa r
noncomputable def JK(c:CA):Option Rw->D
 |none=>.non
 |some r=>r.ins c
structure WZ(K:bz)(c:CA):Prop where
 io:∀k:Kn,Ua K (c.at k)
 mark:∀k,cN K (.ref (c.at k)) (.ref c.Mark)=aa (match k with|.Mark=>ag|_=>ar)
 code:∀k,cN K (.ref (c.at k)) (.ref c.Code)=aa (match k with|.Mark|.j5|.Table=>ar|_=>ag)
 nums:∀k,cN K (.ref (c.at k)) (.ref c.j5)=aa (match k with|.j5=>ag|_=>ar)
 aiA:∀k,cN K (.ref (c.at k)) (.ref c.Table)=aa (match k with|.Table=>ag|_=>ar)
 aiB:cN K (.type "NoneType") (.ref c.Code)=aa ar
theorem BQ{K:bz}{c:CA}(a:WZ K c)(r:Rw){M:Ms}{Q:DK}(q:Q (.bl r.ju) M):lu K [r.ins c,.cls c.Mark] M Q:=by refine⟨.ref (c.at r.kn),r.ju,rfl,λC ns es e=>by cases e;exact a.io _,?_,q⟩;rw[a.mark];cases r<;>rfl
theorem Hs{K:bz}{c:CA}(a:WZ K c)(r:Rw){M:Ms}{Q:DK}(q:Q (.bl r.code) M):lu K [r.ins c,.cls c.Code] M Q:=by refine⟨.ref (c.at r.kn),r.code,rfl,λC ns es e=>by cases e;exact a.io _,?_,q⟩;rw[a.code];cases r<;>rfl
def FI (c:CA):GP:=λds Q=>∃rs:List Rw,ds=[.lst (rs.map (Rw.ins c))]/\Q (JK c (kN rs))
theorem MC{c:CA}:iH (FI c):=by
 rintro ds P Q w ⟨rs,h,q⟩
 exact⟨rs,h,w _ q⟩
section
theorem YM{K:bz}{c:CA}(g:WZ K c):∀ds Q,FI c ds Q->jB 2 1 (ou K c.Mark) ds Q:=by
 rintro ds Q ⟨rs,h,q⟩
 subst h;have b:=@BQ K c g;unfold ou;generalize lu K=i at b |-;refine⟨rfl,?_⟩;conv=>whnf
 refine⟨_,rfl,rfl,?_⟩;have gen:∀(l:List Rw) (st:Ms->Prop) (o:Option D),st []->JK c (kN l)=JK c (kN rs)->xi (gQ 1) (ii (ph (gS (iG (i) (gD (gE 1) (gD (dC (.cls c.Mark)) gK))))) (hW (gE 1)) hX) st ⟨λ_ _=>nl (.non)=ag/\Q .non,λd f=>nl (fz f d)=ag/\Q (fz f d),λ_ _=>False,λ_ _=>False⟩ (l.map (Rw.ins c)) [aa (.lst (rs.map (Rw.ins c))),o] []:=by
  intro l;induction l with
  |nil=>intro st o a e;rw[<-e] at q;exact⟨rfl,q⟩
  |cons r l j=>
   intro st o a e;conv=>whnf
   refine b r ?_;cases hm:r.ju with
   |true=>
    conv=>whnf
    refine⟨a,j st _ a ?_⟩;rw[<-e];show JK c (kN l)=JK c (if r.ju=ag then _ else _);rw[hm];rfl
   |false=>
    conv=>whnf
    have e':JK c (kN rs)=r.ins c:=by rw[<-e];show JK c (if r.ju=ag then _ else _)=_;rw[hm];rfl
    rw[e'] at q;exact⟨r.V3 c,q⟩
 exact gen rs _ ao rfl rfl
end
noncomputable def MD:Option Rw->Bool
 |some r=>r.code
 |none=>ar
noncomputable def sy:List Rw->Bool
 |[]=>ag
 |r::rs=>(!r.ug||MD (kN rs))&&(!r.ju||(kN rs).isSome)&&sy rs
theorem xZ:∀{rs:List Rw} {j:Nat} {r:Rw},sy rs=ag->rs[j]?=aa r->(r.ug=ag->MD (kN (rs.drop (j+1)))=ag)/\(r.ju=ag->(kN (rs.drop (j+1))).isSome=ag)
 |r::rs,0,a,h,e=>by cases e;unfold sy at h;rw[aQ,aQ,Bool.or_eq_true,Bool.or_eq_true] at h;refine⟨λg=>h.1.1.resolve_left (by rw[g];decide),λg=>h.1.2.resolve_left (by rw[g];decide)⟩
 |r::rs,j+1,a,h,e=>by unfold sy at h;rw[aQ] at h;exact xZ (rs:=rs) h.2 e
 |[],_,_,_,e=>by cases e
theorem V9{K:bz}{c:CA}(a:WZ K c)(o:Option Rw){M:Ms}{Q:DK}(q:Q (.bl (MD o)) M):lu K [JK c o,.cls c.Code] M Q:=by
 cases o with
 |some r=>exact Hs a r q
 |none=>exact⟨.type "NoneType",ar,rfl,(λC ns es e=>nomatch e),a.aiB,q⟩
theorem YN{c:CA}(o:Option Rw){M:Ms}{Q:DK}(q:Q (.bl (!o.isSome)) M):gIs (JK c o) .non M Q:=by cases o<;>exact q
section
def pT (c:CA):GP:=λds Q=>∃(n:ay) (rs:List Rw),ds=[.str n,.lst (rs.map (Rw.ins c))]/\sy rs=ag/\Q .non
theorem Av{c:CA}:iH (pT c):=by
 rintro ds P Q w ⟨n,rs,h,ok,q⟩
 exact⟨n,rs,h,ok,w _ q⟩
theorem Ht{K:bz}{c:CA}(f:WZ K c):∀ds Q,pT c ds Q->jB 5 2 (nC K (cl (FI c)) (YG c) c.Code c.Mark) ds Q:=by
 rintro ds Q ⟨n,rs,h,ok,q⟩
 subst h;have g:=@BQ K c f;have i:=@V9 K c f;have is:=@YN c;unfold nC;generalize lu K=C at g i |-;generalize gIs=E at is |-;refine⟨rfl,?_⟩;conv=>whnf
 refine⟨_,rfl,rfl,?_⟩;refine uR (λj a M=>∃m p u,M=[]/\a=[aa (.str n),aa (.lst (rs.map (Rw.ins c))),m,p,u]) (λ_ _ _ ⟨_,_,_,e,_⟩=>by rw[e]) _ 0 _ _ ⟨ao,ao,ao,rfl,rfl⟩ (λj x a M G v N w=>?_) (λa M v=>?_)
 .obtain⟨m,p,u,rfl,rfl⟩:=v;obtain⟨y,H,rfl⟩:=BP G;obtain⟨r,I,rfl⟩:=get_map H;obtain⟨z,A⟩:=xZ ok I;refine⟨rfl,rfl,?_⟩;conv=>whnf
  rw[show cutD (rs.map (Rw.ins c)) (aa ((j:Int)+1)) ao=(rs.drop (j+1)).map (Rw.ins c) by rw[show(j:Int)+1=((j+1:Nat):Int) from rfl,YI,List.map_drop]];refine⟨by show(l9 _&&ag)=ag;rw[tJ];rfl,rs.drop (j+1),rfl,?_⟩;generalize kN (rs.drop (j+1))=o at z A |-;have tl:∀b,b=[aa (.str n),aa (.lst (rs.map (Rw.ins c))),aa (.int j),aa (r.ins c),aa (JK c o)]->(ii (Jv (gS (iG C (gD (gE 3) (gD (dC (.cls c.Mark)) gK)))) (gS (gX E (gE 4) (dC .non)))) rY hX) ⟨N,λd B=>nl (fz B d)=ag/\Q (fz B d),λ_ _=>Q .non,N⟩ b []:=by
   intro b e;subst e;conv=>whnf
   refine g r ?_;cases hm:r.ju with
   |true=>
    conv=>whnf
    refine is o ?_;rw[A hm];conv=>whnf
    exact w _ _ ⟨_,_,_,rfl,rfl⟩
   |false=>
    conv=>whnf
    exact w _ _ ⟨_,_,_,rfl,rfl⟩
  refine⟨_,_,_,_,rfl,rfl,⟨r.kn,rfl,rfl⟩,by unfold l9;rw[r.V3];rfl,r,rfl,rfl,?_⟩;cases J:r.ug with
  |true=>
   conv=>whnf
   refine i o ?_;rw[z J];exact tl _ rfl
  |false=>exact tl _ rfl
 .exact q
end
structure agX(ps:List Pt):Prop where
 YO:agW ps
 rows:∀p∈ps,∀r∈p.2,r.ok=ag
 ends:∀p∈ps,sy p.2=ag
theorem aeP(c:CA)(p:Pt):nl (Ln c p)=ag:=by show(ag&&(l9 (p.2.map (Rw.ins c))&&ag))=ag;rw[tJ];rfl
theorem ME(c:CA)(a:List Pt):l9 (a.map (Ln c))=ag:=jS (aeP c) a
def BR (c:CA):GP:=λds Q=>∃a:List Pt,ds=[.lst (a.map sv)]/\agX a/\Q (.lst (a.map (Ln c)))
theorem JL{c:CA}:iH (BR c):=by
 rintro ds P Q w ⟨rs,h,ok,q⟩
 exact⟨rs,h,ok,w _ q⟩
theorem nS{β:Type}{fr:List (Option Nat)}{g:DG}{tt:DT}{c:DE}{st:Ms->Prop}{Q:List D->Ms->Prop}{a:pd}{M:Ms}(e f:β->D)(i:st M):∀(xs:List β) (acc:List D),acc.length+xs.length<=aC->
  (∀x∈xs,∀j:Option D->pd->Ms->Prop,(∀b,CZ fr b=a->j (aa (f x)) b M)->Ey g tt c (e x) a M j)->Q (acc++xs.map f) M->lQ fr g tt c st Q (xs.map e) acc a M
 |[],acc,_,_,q=>by rw[eR,aR] at q;exact q
 |x::xs,acc,m,h,q=>by rw[aZ];unfold lQ;refine h x av _ λb n=>⟨i,by simp at m;omega,?_⟩;rw[n];refine nS e f i xs (acc++[f x]) (by simp at m |-;omega) (λy o=>h y (aH _ o)) ?_;rw[bn];exact q
theorem rR{β:Type}{fr:List (Option Nat)}{g:DG}{tt:DT}{b:DE}{st:Ms->Prop}{Q:List D->Ms->Prop}{c:pd}{M:Ms}(e f:β->D)(p:β->Bool)(i:st M):∀(xs:List β) (acc:List D),acc.length+xs.length<=aC->
  (∀x∈xs,∀n:Option D->pd->Ms->Prop,(∀a,CZ fr a=c->n (if p x=ag then aa (f x) else ao) a M)->Ey g tt b (e x) c M n)->Q (acc++(xs.filter p).map f) M->lQ fr g tt b st Q (xs.map e) acc c M
 |[],acc,_,_,q=>by rw[List.filter_nil,eR,aR] at q;exact q
 |x::xs,acc,j,h,q=>by
  rw[aZ];unfold lQ;refine h x av _ λa o=>⟨i,?_⟩;rw[cD] at q;cases r:p x with
  |false=>
   rw[r] at q;show lQ fr g tt b st Q (xs.map e) acc (CZ fr a) M;rw[o];exact rR e f p i xs acc (by simp at j |-;omega) (λy m=>h y (aH _ m)) q
  |true=>
   rw[r] at q;refine⟨by simp at j;omega,?_⟩;rw[o];refine rR e f p i xs (acc++[f x]) (by simp at j |-;omega) (λy m=>h y (aH _ m)) ?_;rw[bn];exact q
theorem jZ{β:Type}{g:DG}{tb:DS}{st:Ms->Prop}{E:nN}(e:β->D)(Pv:List β->List β->pd->Ms->Prop)(j:∀a b c M,Pv a b c M->st M):∀(xs pre:List β) (c:pd) (M:Ms),Pv pre xs c M->
  (∀pre x xs c M,Pv pre (x::xs) c M->∀N:pd->Ms->Prop,(∀f i,Pv (pre++[x]) xs f i->N f i)->g (e x) c M λn M1=>tb {E with nx:=N,ct:=N,bk:=E.nx} n M1)->
  (∀pre c M,Pv pre [] c M->E.nx c M)->xi g tb st E (xs.map e) c M
 |[],pre,c,M,p,_,z=>z pre c M p
 |x::xs,pre,c,M,p,h,z=>by rw[aZ];unfold xi;exact h pre x xs c M p _ λf i m=>⟨j _ _ _ _ m,jZ e Pv j xs _ f i m h z⟩
theorem Wa{c:CA}:∀ds Q,BR c ds Q->jB 4 1 (EL (cl UA) (cl (zj c)) (cl (pT c))) ds Q:=by
 rintro ds Q ⟨f,h,ok,q⟩
 subst h;have p:f.length<=aC:=sx (by have:=ok.YO.hi;omega);refine⟨rfl,BO f,f,rfl,ok.YO,?_⟩;conv=>whnf
 refine⟨_,rfl,rfl,?_⟩;refine nS sv (Ln c) ?_ _ _ ?_ (λx g v r=>?_) ?_
 .exact rfl
 .rw[bj,bt];exact p
 .refine⟨_,rfl,_,rfl,_,rfl,?_,x.1,x.2,rfl,ok.rows x g,(ok.YO.all x g).len,?_⟩
  .show(ag&&(l9 (x.2.map Rw.d)&&ag))=ag;rw[xX];rfl
  .exact⟨ab rfl,r _ rfl⟩
 conv=>whnf
 refine⟨_,rfl,rfl,?_⟩;rw[bQ];refine jZ (Ln c) (λa b i M=>f=a++b/\∃j m,M=[]/\i=[aa (.lst (f.map sv)),aa (.lst (f.map (Ln c))),j,m]) (λ_ _ _ _ ⟨_,_,_,e,_⟩=>by rw[e]) f [] _ _ ⟨rfl,ao,ao,rfl,rfl⟩ (λpre x xs i M n N u=>?_) (λpre i M n=>?_)
 .obtain⟨o,j,m,rfl,rfl⟩:=n;have g:x∈f:=by rw[o];simp
  refine⟨rfl,rfl,?_,x.1,x.2,rfl,ok.ends x g,u _ _ ⟨by rw[o];simp,_,_,rfl,rfl⟩⟩;show(ag&&(l9 (x.2.map (Rw.ins c))&&ag))=ag;rw[tJ];rfl
 .obtain⟨o,j,m,rfl,rfl⟩:=n;exact⟨ME c f,q⟩
noncomputable def wY(a:List Pt):List Pt:=mT (a.map bh) a
theorem Lp(c:CA):∀a:List Pt,G5 (a.map (Ln c)) (a.map bh)
 |[]=>trivial
 |p::a=>⟨⟨_,rfl⟩,Lp c a⟩
theorem O9{β a:Type}(g:β->a)(p:ay×β):∀l:List (ay×β),L3.xL bh (p.1,g p.2) (l.map λq=>(q.1,g q.2))=(L3.xL bh p l).map λq=>(q.1,g q.2)
 |[]=>rfl
 |q::l=>by
  rw[aZ];unfold L3.xL;dsimp only;split
  .rfl
  .rw[O9 g p l];rfl
theorem UB{β a:Type}(g:β->a):∀l:List (ay×β),L3.Uk bh (l.map λq=>(q.1,g q.2))=(L3.Uk bh l).map λq=>(q.1,g q.2)
 |[]=>rfl
 |q::l=>by rw[aZ];show L3.xL bh (q.1,g q.2) (L3.Uk bh (l.map λq=>(q.1,g q.2)))=_;rw[UB g l,O9];rfl
theorem Wb{β b:Type}(g:β->b)(a:List ay)(l:List β):mT a (l.map g)=(mT a l).map g:=by
 unfold mT;have:a.zip (l.map g)=(a.zip l).map λq=>(q.1,g q.2):=by rw[List.zip_map_right];rfl
 rw[this,UB,bq,bq];rfl
def uY (c:CA):GP:=λds Q=>∃a:List Pt,ds=[.lst (a.map (Ln c))]/\(a.map bh).Nodup/\a.length<64/\Q (.lst ((wY a).map (Ln c)))
theorem Hu{c:CA}:iH (uY c):=by
 rintro ds P Q w ⟨a,h,nd,l,q⟩
 exact⟨a,h,nd,l,w _ q⟩
theorem RZ{c:CA}:∀ds Q,uY c ds Q->jB 1 1 Lm ds Q:=by
 rintro ds Q ⟨a,h,nd,l,q⟩
 subst h;refine⟨rfl,_,_,rfl,Lp c a,nd,by rw[ai];exact l,?_⟩;show nl (fz [] (.lst (mT _ _)))=ag/\Q (fz [] (.lst (mT _ _)));rw[Wb];exact⟨ME c _,q⟩
abbrev Mk:=ay×Bool×ay×Nat
noncomputable def R0(m:Mk):D:=.tup [.str m.1,.bl m.2.1,.tup [.str m.2.2.1,.int m.2.2.2]]
theorem R3(m:Mk):nl (R0 m)=ag:=rfl
noncomputable def iu(n:ay):Nat->List Rw->List Mk
 |_,[]=>[]
 |k,.mark w b::rs=>(w,b,n,k)::iu n k rs
 |k,_::rs=>iu n (k+1) rs
theorem mI{n:ay}{k:Nat}{r:Rw}{rs:List Rw}(h:r.ju=ar):iu n k (r::rs)=iu n (k+1) rs:=by cases r<;>first|rfl|cases h
theorem x0(n:ay):∀(k:Nat) (rs:List Rw),(iu n k rs).length<=rs.length
 |_,[]=>aM _
 |k,r::rs=>by
  cases hm:r.ju with
  |false=>rw[mI hm];exact Nat.le_succ_of_le (x0 n _ rs)
  |true=>cases r<;>first|(cases hm;done)|exact Nat.succ_le_succ (x0 n k rs)
section
def v3 (c:CA):GP:=λds Q=>∃(n:ay) (rs:List Rw),ds=[.str n,.lst (rs.map (Rw.ins c))]/\rs.length<=1000/\Q (.lst ((iu n 0 rs).map R0))
theorem Fd{c:CA}:iH (v3 c):=by
 rintro ds P Q w ⟨n,a,h,l,q⟩
 exact⟨n,a,h,l,w _ q⟩
theorem Pb{K:bz}{c:CA}(u:WZ K c):∀ds Q,v3 c ds Q->jB 7 2 (qL K c.Mark (jD c)) ds Q:=by
 rintro ds Q ⟨n,rs,h,l,q⟩
 subst h;have p:=@BQ K c u;unfold qL;generalize lu K=y at p |-;refine⟨rfl,?_⟩;refine⟨bi _,?_⟩;conv=>whnf
 refine⟨_,rfl,rfl,?_⟩;refine jZ (Rw.ins c) (λa b g M=>∃(k:Nat) (ms:List Mk) (i j m:Option D),iu n 0 rs=ms++iu n k b/\M=[aa (.lst (ms.map R0))]/\g=[aa (.str n),aa (.lst (rs.map (Rw.ins c))),aa (.loc 0),aa (.int k),i,j,m]) (λ_ _ _ _ ⟨_,_,_,_,_,_,e,_⟩=>rfl) rs [] _ _ ⟨0,[],ao,ao,ao,rfl,rfl,rfl⟩ (λpre x xs g M o N r=>?_) (λpre g M o=>?_)
 .obtain⟨k,ms,i,j,m,f,rfl,rfl⟩:=o;conv=>whnf
  refine p x ?_;cases hm:x.ju with
  |true=>
   cases x with
   |mark w b=>
    have v:(ms.map R0).length<aC:=by have:=x0 n 0 rs;rw[f,aE] at this;rw[ai];exact bM (show ms.length<=1000 by omega) (by decide)
    refine⟨_,_,_,_,rfl,rfl,⟨.Mark,rfl,rfl⟩,by unfold l9;rw[Rw.V3];rfl,.mark w b,rfl,rfl,?_⟩;conv=>whnf
    refine⟨λz=>Nat.one_ne_zero z.1,rfl,rfl,rfl,?_⟩;conv=>whnf
    refine⟨ab rfl,?_⟩;conv=>whnf
    refine⟨ab rfl,?_⟩;refine⟨_,rfl,v,r _ _ ⟨k,ms++[(w,b,n,k)],_,_,_,?_,?_,rfl⟩⟩
    .rw[f,bn];rfl
    .rw[aX];rfl
   |_=>cases hm
  |false=>
   conv=>whnf
   exact⟨trivial,r _ _ ⟨k+1,ms,_,_,_,by rw[f,mI hm],rfl,rfl⟩⟩
 .obtain⟨k,ms,i,j,m,f,rfl,rfl⟩:=o;have e:iu n 0 rs=ms:=by rw[f];exact aR _
  rw[e] at q;exact⟨jS R3 ms,q⟩
end
theorem R4{β:Type}(a:List ay)(l:List β)(h:a.length=l.length):(mT a l).Perm l:=by unfold mT;refine(gp.map _ (L3.xM _ _)).trans ?_;rw[gu (by omega)]
theorem nG(a:List Pt):(wY a).Perm a:=R4 _ _ (by simp)
noncomputable def ja(a:List Pt):List Mk:=(wY a).flatMap λp=>iu p.1 0 p.2
structure aeQ(ps:List Pt):Prop where
 nd:(ps.map bh).Nodup
 l:ps.length<64
 len:∀p∈ps,p.2.length<=1000
 ml:(ja ps).length<=1000
def v4 (c:CA):GP:=λds Q=>∃a:List Pt,ds=[.lst (a.map (Ln c))]/\aeQ a/\Q (.lst ((ja a).map R0))
theorem Fe{c:CA}:iH (v4 c):=by
 rintro ds P Q w ⟨a,h,l,q⟩
 exact⟨a,h,l,w _ q⟩
theorem Hv(c:CA)(a:List Pt):l9 [.lst (a.map (Ln c))]=ag:=by show(l9 _&&ag)=ag;rw[ME];rfl
theorem Pc{c:CA}:∀ds Q,v4 c ds Q->jB 4 1 (Hk (cl (uY c)) (cl (v3 c))) ds Q:=by
 rintro ds Q ⟨f,h,ok,q⟩
 subst h;refine⟨rfl,?_⟩;refine⟨bi _,?_⟩;conv=>whnf
 refine⟨Hv c f,f,rfl,ok.nd,ok.l,?_⟩;refine⟨_,rfl,rfl,?_⟩;refine jZ (Ln c) (λa b i M=>∃(j m:Option D),wY f=a++b/\M=[aa (.lst ((a.flatMap λp=>iu p.1 0 p.2).map R0))]/\i=[aa (.lst (f.map (Ln c))),aa (.loc 0),j,m]) (λ_ _ _ _ ⟨_,_,_,e,_⟩=>rfl) (wY f) [] _ _ ⟨ao,ao,rfl,rfl,rfl⟩ (λpre x xs i M n N o=>?_) (λpre i M n=>?_)
 .obtain⟨j,m,g,rfl,rfl⟩:=n;have r:x∈f:=(nG f).mem_iff.mp (by rw[g];simp);refine⟨rfl,rfl,rfl,?_,x.1,x.2,rfl,ok.len x r,?_⟩
  .show(ag&&(l9 (x.2.map (Rw.ins c))&&ag))=ag;rw[tJ];rfl
  .refine⟨_,_,rfl,rfl,?_,o _ _ ⟨_,_,by rw[g,bn];rfl,?_,rfl⟩⟩
   .refine sx (bG ?_ ok.ml);unfold ja;rw[g,eG,List.flatMap_cons,aE,aE,ai,ai];omega
   .rw[eG,List.flatMap_cons,List.flatMap_nil,aR,aX];rfl
 .obtain⟨j,m,g,rfl,rfl⟩:=n;rw[aR] at g;have e:ja f=pre.flatMap λp=>iu p.1 0 p.2:=by unfold ja;rw[g]
  rw[e] at q;exact⟨jS R3 _,q⟩
noncomputable def iV(ms:List Mk):List Mk:=ms.filter λm=>m.2.1
noncomputable def locs(l:List Mk):List D:=(cB l.length).map λi=>D.loc (i+1)
noncomputable def stM(l:List Mk):Ms:=aa (.kt (l.map λm=>.inr m.1) (locs l))::l.map λm=>aa (.lst [.str m.2.2.1])
theorem Lq{w:ay}:∀(S:List Mk) (es:List D),w∉S.map bh->pq (.inr w) (S.map λm=>.inr m.1) es=ao
 |[],_,_=>rfl
 |_::_,[],_=>rfl
 |m::S,e::es,h=>by rw[aZ];unfold pq;rw[aZ,aO,not_or] at h;rw[if_neg (λz=>h.1 (by cases z;rfl)),Lq S es h.2]
theorem abI(S:List Mk):(stM S).length=S.length+1:=by simp[stM]
theorem Wc(S:List Mk)(m:Mk):locs (S++[m])=locs S++[.loc (S.length+1)]:=by unfold locs;rw[aE,bO,List.range_succ,aX];rfl
theorem UC(S:List Mk)(d x:Option OD):((stM S++[x]).set 0 d)[S.length+1]?=aa x:=by unfold stM;rw[fg,List.set_cons_zero,eP];simp
theorem YQ(S:List Mk)(w p:ay)(b:Bool)(k:Nat):((stM S++[aa (OD.lst [])]).set 0 (aa (OD.kt ((S.map λm=>de m.1)++[de w]) (locs S++[D.loc (S.length+1)])))).set (S.length+1) (aa (OD.lst ([]++[D.str p])))=stM (S++[(w,b,p,k)]):=by
 unfold stM;rw[fg,List.set_cons_zero,List.set_cons_succ,Wc,aX,aX];congr 1;have:S.length=(S.map λm=>(aa (OD.lst [.str m.2.2.1]):Option OD)).length:=by simp
 rw[this,FG];rfl
def BS:GN:=λds M Q=>∃ms:List Mk,ds=[.lst (ms.map R0)]/\M=[]/\((iV ms).map bh).Nodup/\ms.length<=1000/\Q (.loc 0) (stM (iV ms))
theorem JN:jW BS:=by
 rintro ds M P Q w ⟨ms,h,a,b,c,q⟩
 exact⟨ms,h,a,b,c,w _ _ q⟩
theorem Wd:∀ds M Q,BS ds M Q->uf 5 1 xU ds M Q:=by
 rintro ds M Q ⟨ms,h,u,nd,A,q⟩
 subst h u;refine⟨rfl,?_⟩;conv=>whnf
 refine⟨_,rfl,rfl,?_⟩;refine jZ R0 (λa b i M=>∃(j m n:Option D),ms=a++b/\M=stM (iV a)/\i=[aa (.lst (ms.map R0)),aa (.loc 0),j,m,n]) (λ_ _ _ _ ⟨_,_,_,_,e,_⟩=>rfl) ms [] _ _ ⟨ao,ao,ao,rfl,rfl,rfl⟩ (λpre x xs i M o N v=>?_) (λpre i M o=>?_)
 .obtain⟨j,m,n,f,rfl,rfl⟩:=o;obtain⟨w,b,p,k⟩:=x;have r:iV (pre++[(w,b,p,k)])=iV pre++iV [(w,b,p,k)]:=dB ..;have c:ms=pre++[(w,b,p,k)]++xs:=by rw[f,bn];rfl
  cases b with
  |false=>
   refine⟨rfl,rfl,?_⟩;exact v _ _ ⟨_,_,_,c,by rw[r];exact(congrArg stM (aR _)).symm,rfl⟩
  |true=>
   have g:((iV pre++[(w,ag,p,k)]).map bh).Nodup:=by have:=nd;rw[c] at this;unfold iV at this;rw[dB,aX] at this;rw[<-show iV (pre++[(w,ag,p,k)])=iV pre++[(w,ag,p,k)] from r];exact(cO.mp this).1
   have hw:w∉(iV pre).map bh:=by rw[aX] at g;exactλz=>(cO.mp g).2.2 w z w (by simp) rfl
   have y:(iV pre).length<=1000:=by
    have u:(iV pre).length<=pre.length:=e6 _ _;have B:pre.length<=ms.length:=by rw[f];simp
    omega
   refine⟨rfl,rfl,rfl,bi _,_,_,_,rfl,rfl,(λx ex=>?_),(λ_=>⟨?_,?_⟩)⟩
   .have:=Lq (iV pre) (locs (iV pre)) hw;exact absurd (this.symm.trans ex) (by simp)
   .rw[ai];exact bM y (by decide)
   .rw[abI];refine⟨?_,_,rfl,?_⟩
    .show tyD "list" (vwk _ ((stM (iV pre)++[aa (OD.lst [])]).set 0 _)[(iV pre).length+1]?)=ag;rw[UC];rfl
    .refine⟨_,UC _ _ _,by decide,v _ _ ⟨_,_,_,c,?_,rfl⟩⟩;rw[r];exact YQ _ w p ag k
 .obtain⟨j,m,n,f,rfl,rfl⟩:=o;rw[aR] at f;rw[f] at q;exact q
theorem Lr{w:ay}:∀(S:List Mk) (es:List D),w∈S.map bh->es.length=S.length->∃i,i<S.length/\pq (.inr w) (S.map λm=>.inr m.1) es=es[i]?
 |[],_,h,_=>by simp at h
 |_::_,[],_,h=>by simp at h
 |m::S,e::es,h,a=>by
  rw[aZ];unfold pq;by_cases hw:m.1=w
  .exact⟨0,by simp,by rw[if_pos (by rw[hw])];rfl⟩
  .rw[aZ,aO] at h;obtain⟨i,c,b⟩:=Lr S es (h.resolve_left (λz=>hw z.symm)) (by simpa using a);exact⟨i+1,by simp;omega,by rw[if_neg (λz=>hw (by cases z;rfl)),b];rfl⟩
theorem aeR{S:List Mk}{i:Nat}(h:i<S.length):(locs S)[i]?=aa (.loc (i+1))/\∃p,(stM S)[i+1]?=aa (aa (.lst [.str p])):=by
 constructor
 .unfold locs;rw[aS,List.getElem?_range h];rfl
 .refine⟨(S[i]'h).2.2.1,?_⟩;unfold stM;rw[eP,aS,aJ h];rfl
theorem We{ss:List ay}{w:ay}(h:w∈zS ss):w∈ss:=(L3.xM _ _).mem_iff.mp h
structure aeS(ms:List Mk):Prop where
 nd:((iV ms).map bh).Nodup
 few:OR ((iV ms).map bh)
 len:ms.length<=1000
def FK:GP:=λds Q=>∃ms:List Mk,ds=[.lst (ms.map R0)]/\aeS ms/\Q .non
theorem MG:iH FK:=by
 rintro ds P Q w ⟨a,h,l,q⟩
 exact⟨a,h,l,w _ q⟩
theorem YR:∀ds Q,FK ds Q->jB 3 1 (uW BS) ds Q:=by
 rintro ds Q ⟨ms,h,ok,q⟩
 subst h;refine⟨rfl,ms,rfl,rfl,ok.nd,ok.len,?_⟩;refine⟨(iV ms).map bh,by rw[bq];rfl,ok.few,?_⟩;refine⟨_,rfl,rfl,?_⟩;refine jZ D.str (λa b c M=>∃(f:Option D),zS ((iV ms).map bh)=a++b/\M=stM (iV ms)/\c=[aa (.lst (ms.map R0)),aa (.loc 0),f]) (λ_ _ _ _ ⟨_,_,e,_⟩=>rfl) _ [] _ _ ⟨ao,rfl,rfl,rfl⟩ (λpre x xs c M g N m=>?_) (λpre c M g=>?_)
 .obtain⟨f,j,rfl,rfl⟩:=g;have n:x∈(iV ms).map bh:=We (by rw[j];simp);obtain⟨i,hi,o⟩:=Lr (iV ms) (locs (iV ms)) n (by simp[locs]);obtain⟨r,p,u⟩:=aeR hi;refine⟨_,_,rfl,o.trans r,?_⟩;refine⟨1,by show agx (vwk _ (stM _)[i+1]?)=_;rw[u];rfl,?_⟩;exact m _ _ ⟨_,by rw[j,bn];rfl,rfl,rfl⟩
 .exact q
noncomputable def iJ{β:Type}(w:ay):List (ay×β)->Option β
 |[]=>ao
 | (x,v)::l=>if x=w then aa v else iJ w l
noncomputable def qq{β:Type}(w:ay)(v:β)(l:List (ay×β)):List (ay×β):=if(iJ w l).isSome=ag then l.map (λx=>if x.1=w then(x.1,v) else x) else l++[(w,v)]
noncomputable def kA{β:Type}(l:List (ay×β)):List Key:=l.map λx=>.inr x.1
noncomputable def vA{β:Type}(f:β->D)(l:List (ay×β)):List D:=l.map λx=>f x.2
theorem uj{β:Type}(f:β->D)(w:ay):∀l:List (ay×β),pq (.inr w) (kA l) (vA f l)=(iJ w l).map f
 |[]=>rfl
 | (x,v)::l=>by
  show(if(de x:Key)=.inr w then aa (f v) else pq (.inr w) (kA l) (vA f l))=_;unfold iJ;by_cases h:x=w
  .rw[if_pos (by rw[h]),if_pos h];rfl
  .rw[if_neg (λz=>h (by cases z;rfl)),if_neg h,uj f w l]
theorem acU{β:Type}(w:ay):∀l:List (ay×β),((kA l).any λx=>decide (x=.inr w))=(iJ w l).isSome
 |[]=>rfl
 | (x,v)::l=>by
  show(decide ((de x:Key)=.inr w)||(kA l).any λx=>decide (x=.inr w))=_;unfold iJ;by_cases h:x=w
  .rw[if_pos h,decide_eq_true (by rw[h])];rfl
  .rw[if_neg h,decide_eq_false (λz=>h (by cases z;rfl)),acU w l];rfl
theorem acV{β:Type}(f:β->D)(w:ay)(v:β):∀l:List (ay×β),dz (λ(x:Key) y=>if x=.inr w then f v else y) (kA l) (vA f l)=vA f (l.map λx=>if x.1=w then(x.1,v) else x)
 |[]=>rfl
 | (x,u)::l=>by
  show(if(de x:Key)=.inr w then f v else f u)::dz _ (kA l) (vA f l)=_;rw[acV f w v l];by_cases h:x=w
  .rw[if_pos (by rw[h])];show _=f (if x=w then(x,v) else(x,u)).2::_;rw[if_pos h];rfl
  .rw[if_neg (λz=>h (by cases z;rfl))];show _=f (if x=w then(x,v) else(x,u)).2::_;rw[if_neg h];rfl
theorem aeT{β:Type}(w:ay)(v:β)(l:List (ay×β)):kA (l.map λx=>if x.1=w then(x.1,v) else x)=kA l:=by unfold kA;rw[bq];refine dm λx _=>?_;show(de (if x.1=w then(x.1,v) else x).1:Key)=.inr x.1;split<;>rfl
theorem YS{β:Type}(f:β->D)(w:ay)(v:β)(l:List (ay×β)):qj (.inr w) (f v) (kA l) (vA f l)=(kA (qq w v l),vA f (qq w v l)):=by
 unfold qj qq;rw[acU];by_cases h:(iJ w l).isSome=ag
 .rw[if_pos h,if_pos h,acV,aeT]
 .rw[if_neg h,if_neg h];unfold kA vA;rw[aX,aX];rfl
theorem Hw{β:Type}(w:ay)(v:β)(l:List (ay×β)):(qq w v l).length<=l.length+1:=by
 unfold qq;split
 .rw[ai];omega
 .simp
abbrev Pl:=ay×Nat
noncomputable def j7(p:Pl):D:=.tup [.str p.1,.int p.2]
noncomputable def oA(l:List (ay×Pl))(m:Mk):List (ay×Pl):=if(m.2.1||!(iJ m.1 l).isSome)=ag then qq m.1 m.2.2 l else l
noncomputable def placesOf(ms:List Mk):List (ay×Pl):=ms.foldl oA []
theorem MH(ms:List Mk):(placesOf ms).length<=ms.length:=by
 have gen:∀(ms:List Mk) (l:List (ay×Pl)),(ms.foldl oA l).length<=l.length+ms.length:=by
  intro ms;induction ms with
  |nil=>intro l;exact aM _
  |cons m ms a=>
   intro l;rw[List.foldl_cons,aU];have b:=a (oA l m);have c:(oA l m).length<=l.length+1:=by
    unfold oA;split
    .exact Hw _ _ _
    .omega
   omega
 have:=gen ms [];rw[bj,bt] at this;exact this
noncomputable def rj(l:List (ay×Pl)):D:=.kt (kA l) (vA j7 l)
theorem rm(l:List (ay×Pl)):nl (rj l)=ag:=jS (λ_=>rfl) l
structure aiC(ps:List Pt):Prop where
 mi:aeQ ps
 tw:aeS (ja ps)
def BU (c:CA):GP:=λds Q=>∃a:List Pt,ds=[.lst (a.map (Ln c))]/\aiC a/\Q (rj (placesOf (ja a)))
theorem JQ{c:CA}:iH (BU c):=by
 rintro ds P Q w ⟨a,h,l,q⟩
 exact⟨a,h,l,w _ q⟩
theorem aeU(ms:List Mk):l9 [.lst (ms.map R0)]=ag:=by show(l9 _&&ag)=ag;rw[jS R3];rfl
theorem Wf{c:CA}:∀ds Q,BU c ds Q->jB 6 1 (EM (cl (v4 c)) (cl FK)) ds Q:=by
 rintro ds Q ⟨j,h,ok,q⟩
 subst h;refine⟨rfl,Hv c j,j,rfl,ok.mi,?_⟩;refine⟨aeU _,_,rfl,ok.tw,?_⟩;obtain⟨_,tw⟩:=ok;generalize ja j=ms at tw q |-;conv=>whnf
 refine⟨_,rfl,rfl,?_⟩;refine jZ R0 (λa b p M=>∃(f g i:Option D),ms=a++b/\M=[aa (.kt (kA (placesOf a)) (vA j7 (placesOf a)))]/\p=[aa (.lst (j.map (Ln c))),aa (.lst (ms.map R0)),aa (.loc 0),f,g,i]) (λ_ _ _ _ ⟨_,_,_,_,e,_⟩=>rfl) ms [] _ _ ⟨ao,ao,ao,rfl,rfl,rfl⟩ (λpre x xs p M r N y=>?_) (λpre p M r=>?_)
 .obtain⟨f,g,i,m,rfl,rfl⟩:=r;have z:placesOf (pre++[x])=oA (placesOf pre) x:=by unfold placesOf;rw[List.foldl_append];rfl
  have B:(placesOf pre).length<=1000:=by
   have C:=MH pre;have E:pre.length<=ms.length:=by rw[m];simp
   have:=tw.len;omega
  have n:ms=pre++[x]++xs:=by rw[m,bn];rfl
  have u:(kA (placesOf pre)).length<aC:=by unfold kA;rw[ai];exact bM B (by decide)
  obtain⟨w,b,pl⟩:=x;have put:oA (placesOf pre) (w,b,pl)=qq w pl (placesOf pre)->∀f g i:Option D,∃o ds v,([aa (.kt (kA (placesOf pre)) (vA j7 (placesOf pre)))]:Ms)[0]?=aa (aa (.kt o ds))/\Oy (.str w)=aa v/\o.length<aC/\N [aa (.lst (j.map (Ln c))),aa (.lst (ms.map R0)),aa (.loc 0),f,g,i] ([aa (.kt (kA (placesOf pre)) (vA j7 (placesOf pre)))].set 0 (aa (.kt (qj v (j7 pl) o ds).1 (qj v (j7 pl) o ds).2))):=by intro e f g i;refine⟨_,_,_,rfl,rfl,u,y _ _ ⟨f,g,i,n,?_,rfl⟩⟩;rw[z,e,YS];rfl
  cases b with
  |true=>exact⟨rfl,rfl,put rfl _ _ _⟩
  |false=>
   refine⟨rfl,rfl,(iJ w (placesOf pre)).isSome,?_,?_⟩
   .show aa (pq (.inr w) (kA (placesOf pre)) (vA j7 (placesOf pre))).isSome=_;rw[uj,fX]
   .cases A:(iJ w (placesOf pre)).isSome with
    |true=>exact y _ _ ⟨_,_,_,n,by rw[z];unfold oA;dsimp only;rw[A];rfl,rfl⟩
    |false=>exact put (by unfold oA;dsimp only;rw[A];rfl) _ _ _
 .obtain⟨f,g,i,m,rfl,rfl⟩:=r;rw[aR] at m;rw[m] at q;exact⟨rm _,q⟩
noncomputable def bare(rs:List Rw):List Rw:=rs.filter λr=>!r.ju
theorem abJ{K:bz}{c:CA}(a:WZ K c)(r:Rw){M:Ms}{Q:DK}(q:Q (.bl (match r with|.numbers _=>ag|_=>ar)) M):lu K [r.ins c,.cls c.j5] M Q:=by refine⟨.ref (c.at r.kn),_,rfl,λC ns es e=>by cases e;exact a.io _,?_,q⟩;rw[a.nums];cases r<;>rfl
theorem abK{K:bz}{c:CA}(a:WZ K c)(r:Rw){M:Ms}{Q:DK}(q:Q (.bl (match r with|.table _=>ag|_=>ar)) M):lu K [r.ins c,.cls c.Table] M Q:=by refine⟨.ref (c.at r.kn),_,rfl,λC ns es e=>by cases e;exact a.io _,?_,q⟩;rw[a.aiA];cases r<;>rfl
section
def zk (c:CA):GP:=λds Q=>∃rs:List Rw,ds=[.lst (rs.map (Rw.ins c))]/\rs.length<=1000/\Q (.lst ((bare rs).map (Rw.ins c)))
theorem Hx{c:CA}:iH (zk c):=by
 rintro ds P Q w ⟨rs,h,l,q⟩
 exact⟨rs,h,l,w _ q⟩
theorem R5{K:bz}{c:CA}(b:WZ K c):∀ds Q,zk c ds Q->jB 1 1 (qN K c.Mark) ds Q:=by
 rintro ds Q ⟨rs,h,l,q⟩
 subst h;have a:=@BQ K c b;unfold qN;generalize lu K=f at a |-;refine⟨rfl,?_⟩;refine⟨_,rfl,rfl,?_⟩;refine rR (Rw.ins c) (Rw.ins c) (λr=>!r.ju) ?_ _ _ ?_ (λx g i e=>?_) ?_
 .exact rfl
 .rw[bj,bt];exact sx l
 .conv=>whnf
  refine a x ?_;have:=e _ (show CZ [ao] [aa (x.ins c)]=_ from rfl);cases hm:x.ju with
  |true=>rw[hm] at this;exact this
  |false=>rw[hm] at this;exact this
 .exact⟨tJ c _,q⟩
end
abbrev Br:=List (ay×List Rw)
noncomputable def ik(a:List Pt):Br:=(wY a).map λp=>(p.1,bare p.2)
noncomputable def MI(c:CA)(rs:List Rw):D:=.lst (rs.map (Rw.ins c))
noncomputable def px(c:CA)(b:Br):D:=.kt (kA b) (vA (MI c) b)
theorem mf(c:CA)(b:Br):nl (px c b)=ag:=jS (f:=λx:ay×List Rw=>MI c x.2) (λp=>tJ c p.2) b
structure agY(ps:List Pt):Prop where
 nd:(ps.map bh).Nodup
 l:ps.length<64
 len:∀p∈ps,p.2.length<=1000
def MJ (c:CA):GP:=λds Q=>∃a:List Pt,ds=[.lst (a.map (Ln c))]/\agY a/\Q (px c (ik a))
theorem Pd{c:CA}:iH (MJ c):=by
 rintro ds P Q w ⟨a,h,l,q⟩
 exact⟨a,h,l,w _ q⟩
theorem abL{c:CA}:∀ds Q,MJ c ds Q->jB 1 1 (EN (cl (uY c)) (cl (zk c))) ds Q:=by
 rintro ds Q ⟨f,h,ok,q⟩
 subst h;refine⟨rfl,Hv c f,f,rfl,ok.nd,ok.l,?_⟩;refine⟨_,rfl,rfl,?_⟩;have g:=nG f;refine nS (Ln c) (λp=>prD (.inr p.1,MI c (bare p.2))) ?_ _ _ ?_ (λx i r j=>?_) ?_
 .exact rfl
 .rw[bj,bt,g.length_eq];exact sx (by have:=ok.l;omega)
 .refine⟨rfl,rfl,?_,x.2,rfl,ok.len x (g.mem_iff.mp i),ab rfl,?_⟩
  .show(l9 (x.2.map (Rw.ins c))&&ag)=ag;rw[tJ];rfl
  .exact j _ rfl
 .rw[bQ];refine⟨(wY f).map λp=>(.inr p.1,MI c (bare p.2)),(show D.lst _=D.lst _ by rw[bq];rfl),?_,?_⟩
  .rw[bq];have m:((wY f).map bh).Nodup:=(g.map bh).nodup_iff.mpr ok.nd;have n:((λx:Key×D=>x.1)∘λp:Pt=>((.inr p.1:Key),MI c (bare p.2)))=(de:ay->Key)∘bh:=rfl;rw[n,<-bq];exact List.Pairwise.map _ (λa b o e=>o (by cases e;rfl)) m
  .have e:(OD.kt (((wY f).map λp=>((.inr p.1:Key),MI c (bare p.2))).map (·.1)) (((wY f).map λp=>((.inr p.1:Key),MI c (bare p.2))).map (·.2))).toD=px c (ik f):=by show D.kt _ _=D.kt _ _;unfold ik kA vA;rw[bq,bq,bq,bq];rfl
   dsimp only;rw[e];exact⟨mf c _,q⟩
noncomputable def pA(b:Br)(p:Pl):Option Rw:=(iJ p.1 b).bind λrs=>rs[p.2]?
theorem x6{b:Br}{p:Pl}{r:Rw}(h:pA b p=aa r):∃rs,iJ p.1 b=aa rs/\rs[p.2]?=aa r:=by
 unfold pA at h;cases e:iJ p.1 b with
 |none=>rw[e] at h;cases h
 |some rs=>rw[e] at h;exact⟨rs,rfl,h⟩
def Pe (c:CA):GP:=λds Q=>∃(b:Br) (p:Pl) (r:Rw),ds=[px c b,j7 p]/\pA b p=aa r/\Q (r.ins c)
theorem Wg{c:CA}:iH (Pe c):=by
 rintro ds P Q w ⟨b,p,r,h,l,q⟩
 exact⟨b,p,r,h,l,w _ q⟩
theorem agZ{c:CA}:∀ds Q,Pe c ds Q->jB 2 2 Hl ds Q:=by
 rintro ds Q ⟨b,p,r,h,e,q⟩
 subst h;obtain⟨rs,a,f⟩:=x6 e;refine⟨rfl,_,rfl,.inr p.1,MI c rs,rfl,by rw[uj,a];rfl,_,rfl,r.ins c,?_,r.V3 c,q⟩;exact lx (by rw[aS,f];rfl)
noncomputable def x8(r a:Rw):Bool:=match r with
 |.alike _ _ _=>ag
 |.load _ _ _=>(match a with|.numbers _=>ag|_=>ar)
 |.jumpby _ _=>(match a with|.table _=>ag|_=>ar)
 |_=>a.code
section
def UD (c:CA):GP:=λds Q=>∃r a:Rw,ds=[r.ins c,a.ins c]/\Q (.bl (x8 r a))
theorem R6{c:CA}:iH (UD c):=by
 rintro ds P Q w ⟨b,p,h,q⟩
 exact⟨b,p,h,w _ q⟩
theorem aeV{K:bz}{c:CA}(b:WZ K c):∀ds Q,UD c ds Q->jB 3 2 (vZ K (jD c) c.j5 c.Table c.Code) ds Q:=by
 rintro ds Q ⟨r,a,h,q⟩
 subst h;have e:=@abJ K c b;have f:=@abK K c b;have g:=@Hs K c b;unfold vZ;generalize lu K=i at e f g |-;refine⟨rfl,_,_,_,_,rfl,rfl,⟨r.kn,rfl,rfl⟩,by unfold l9;rw[r.V3];rfl,r,rfl,rfl,?_⟩;cases r;all_goals
  walk_at "b";first|exact q|exact e a ⟨rfl,q⟩|exact f a ⟨rfl,q⟩|exact g a ⟨rfl,q⟩
end
noncomputable def Rw.nms:Rw->List ay
 |.jump w|.jumpif _ w|.call w|.load _ _ w|.jumpby _ w=>[w]
 |.alike _ w v=>[w,v]
 |.table ws=>ws
 |_=>[]
theorem Rw.YT(r:Rw):r.names=r.nms.map D.str:=by cases r<;>rfl
noncomputable def qr(b:Br)(pl:List (ay×Pl))(r:Rw)(w:ay):Bool:=match iJ w pl with
 |none=>ar
 |some p=>match pA b p with
  |none=>ar
  |some a=>x8 r a
theorem Hy{b:Br}{pl:List (ay×Pl)}{r:Rw}{w:ay}(h:qr b pl r w=ag):∃p a,iJ w pl=aa p/\pA b p=aa a/\x8 r a=ag:=by
 unfold qr at h;cases e:iJ w pl with
 |none=>rw[e] at h;cases h
 |some p=>
  rw[e] at h;dsimp only at h;cases c:pA b p with
  |none=>rw[c] at h;cases h
  |some a=>rw[c] at h;exact⟨p,a,rfl,c,h⟩
noncomputable def R7(b:Br)(pl:List (ay×Pl))(rs:List Rw):Bool:=rs.all λr=>r.nms.all (qr b pl r)
def MK (c:CA):GP:=λds Q=>∃(n:ay) (b:Br) (pl:List (ay×Pl)) (rs:List Rw),ds=[.str n,px c b,rj pl]/\iJ n b=aa rs/\R7 b pl rs=ag/\Q .non
theorem Pf{c:CA}:iH (MK c):=by
 rintro ds P Q w ⟨n,b,p,r,h,l,z,q⟩
 exact⟨n,b,p,r,h,l,z,w _ q⟩
theorem abM{c:CA}:∀ds Q,MK c ds Q->jB 6 3 (xV (vX c) (cl (UD c)) (cl (Pe c))) ds Q:=by
 rintro ds Q ⟨n,b,pl,rs,h,e,ok,q⟩
 subst h;refine⟨rfl,.inr n,MI c rs,rfl,by rw[uj,e];rfl,_,rfl,rfl,?_⟩;refine uR (λj f M=>∃u v g,f=[aa (.str n),aa (px c b),aa (rj pl),u,v,g]) (λ_ _ _ ⟨_,_,_,_⟩=>rfl) _ 0 _ _ ⟨ao,ao,ao,rfl⟩ (λj x f M B i N C=>?_) (λf M i=>q);obtain⟨u,v,g,rfl⟩:=i;obtain⟨y,E,rfl⟩:=BP B;obtain⟨r,G,rfl⟩:=get_map E;have H:r.nms.all (qr b pl r)=ag:=bF.mp ok r (aV G);refine⟨rfl,rfl,_,_,_,_,rfl,rfl,⟨r.kn,rfl,rfl⟩,r,rfl,rfl,?_⟩;refine⟨r.names,by show Ap (vwk _ (M++[aa (.lst r.names)])[M.length]?)=_;rw[FF];rfl,rfl,?_⟩;rw[r.YT];refine jZ D.str (λa z f I=>r.nms=a++z/\I=M++[aa (.lst (r.nms.map D.str))]/\∃g,f=[aa (.str n),aa (px c b),aa (rj pl),aa (.int j),aa (r.ins c),g]) (λ_ _ _ _ ⟨_,e,_⟩=>by rw[e]) _ [] _ _ ⟨rfl,rfl,g,rfl⟩ (λpre x xs f M1 i O m=>?_) (λpre f M1 ⟨_,_,o,e⟩=>C _ _ ⟨_,_,_,e⟩);obtain⟨w,rfl,o,rfl⟩:=i;obtain⟨p,a,A,J,L⟩:=Hy (bF.mp H x (by rw[w];simp));refine⟨ag,by show aa (pq (.inr x) (kA pl) (vA j7 pl)).isSome=_;rw[uj,A];rfl,?_⟩;refine⟨.inr x,j7 p,rfl,by rw[uj,A];rfl,?_,b,p,a,rfl,J,?_⟩
 .show(nl (px c b)&&(nl (j7 p)&&ag))=ag;rw[mf];rfl
 refine⟨by show(nl (r.ins c)&&(nl (a.ins c)&&ag))=ag;rw[r.V3,a.V3];rfl,r,a,rfl,?_⟩;rw[L];exact m _ _ ⟨by rw[w,bn];rfl,rfl,_,rfl⟩
structure x9(ps:List Pt):Prop where
 lk:agX ps
 ml:(ja ps).length<=1000
 tw:aeS (ja ps)
 ag0:∀p∈ps,∃rs,iJ p.1 (ik ps)=aa rs/\R7 (ik ps) (placesOf (ja ps)) rs=ag
theorem x9.mi{a:List Pt}(h:x9 a):aeQ a:=⟨h.lk.YO.nd,by have:=h.lk.YO.hi;omega,λp b=>(h.lk.YO.all p b).len,h.ml⟩
theorem x9.br{a:List Pt}(h:x9 a):agY a:=⟨h.mi.nd,h.mi.l,h.mi.len⟩
abbrev nX(a:List Pt):List (ay×Pl):=placesOf (ja a)
def BV (c:CA):GP:=λds Q=>∃a:List Pt,ds=[.lst (a.map sv)]/\x9 a/\Q (.tup [px c (ik a),rj (nX a)])
theorem JR{c:CA}:iH (BV c):=by
 rintro ds P Q w ⟨a,h,l,q⟩
 exact⟨a,h,l,w _ q⟩
theorem Wh{c:CA}:∀ds Q,BV c ds Q->jB 6 1 (O7 (cl (BR c)) (cl (BU c)) (cl (MJ c)) (cl (MK c))) ds Q:=by
 rintro ds Q ⟨b,h,ok,q⟩
 subst h;refine⟨rfl,BO b,b,rfl,ok.lk,?_⟩;refine⟨Hv c b,b,rfl,⟨ok.mi,ok.tw⟩,?_⟩;refine⟨Hv c b,b,rfl,ok.br,?_⟩;refine⟨_,rfl,rfl,?_⟩;refine jZ (Ln c) (λa z e M=>b=a++z/\M=[]/\∃f g,e=[aa (.lst (b.map sv)),aa (.lst (b.map (Ln c))),aa (rj (nX b)),aa (px c (ik b)),f,g]) (λ_ _ _ _ _=>rfl) b [] _ _ ⟨rfl,rfl,ao,ao,rfl⟩ (λpre x xs e M i N m=>?_) (λpre e M i=>?_)
 .obtain⟨j,rfl,f,g,rfl⟩:=i;obtain⟨rs,n,o⟩:=ok.ag0 x (by rw[j];simp);refine⟨rfl,rfl,?_,x.1,ik b,nX b,rs,rfl,n,o,m _ _ ⟨by rw[bn];exact j,rfl,_,_,rfl⟩⟩;show(ag&&(nl (px c (ik b))&&(nl (rj (nX b))&&ag)))=ag;rw[mf,rm];rfl
 .obtain⟨j,rfl,f,g,rfl⟩:=i;refine⟨ab rfl,?_,q⟩;show(nl (px c (ik b))&&(nl (rj (nX b))&&ag))=ag;rw[mf,rm];rfl
def FL (c:CA):GP:=λds Q=>∃(b:Br) (pl:List (ay×Pl)) (w:ay) (p:Pl) (r:Rw),ds=[px c b,rj pl,.str w]/\xt w=ag/\iJ w pl=aa p/\pA b p=aa r/\r.code=ag/\Q (j7 p)
theorem ML{c:CA}:iH (FL c):=by
 rintro ds P Q w ⟨b,pl,s,p,r,h,l,a,e,f,q⟩
 exact⟨b,pl,s,p,r,h,l,a,e,f,w _ q⟩
section
theorem YU{K:bz}{c:CA}(f:WZ K c):∀ds Q,FL c ds Q->jB 3 3 (uh K (cl nQ) c.Code (cl (Pe c))) ds Q:=by
 rintro ds Q ⟨b,pl,w,p,r,h,hw,g,i,j,q⟩
 subst h;have e:=@Hs K c f;unfold uh;generalize lu K=m at e |-;have a:pq (.inr w) (kA pl) (vA j7 pl)=aa (j7 p):=by rw[uj,g];rfl
 refine⟨rfl,rfl,w,hw,rfl,?_⟩;refine⟨ag,by show aa (pq (.inr w) (kA pl) (vA j7 pl)).isSome=_;rw[a];rfl,?_⟩;refine⟨.inr w,j7 p,rfl,a,?_,b,p,r,rfl,i,?_⟩
 .show(nl (px c b)&&(nl (j7 p)&&ag))=ag;rw[mf];rfl
 conv=>whnf
 refine e r ?_;rw[j];exact⟨.inr w,j7 p,rfl,a,rfl,q⟩
end
noncomputable def fd(pl:List (ay×Pl))(w:ay):Pl:=(iJ w pl).getD ("",0)
noncomputable def Rw.bp(pl:List (ay×Pl)):Rw->D
 |.jump w=>.tup [.str "jump",j7 (fd pl w)]|.jumpif b w=>.tup [.str "jumpif",.int b,j7 (fd pl w)]|.call w=>.tup [.str "call",j7 (fd pl w)]
 |.load b c w=>.tup [.str "load",.int b,.int c,j7 (fd pl w)]|.jumpby b w=>.tup [.str "jumpby",.int b,j7 (fd pl w)]|.alike b w v=>.tup [.str "alike",.int b,j7 (fd pl w),j7 (fd pl v)]
 |.table ws=>.tup [.str "table",.lst (ws.map λw=>j7 (fd pl w))]
 |r=>r.d
def found(pl:List (ay×Pl))(r:Rw):Prop:=∀w∈r.nms,(iJ w pl).isSome=ag
theorem m5{pl:List (ay×Pl)}{w:ay}(h:(iJ w pl).isSome=ag):pq (.inr w) (kA pl) (vA j7 pl)=aa (j7 (fd pl w)):=by
 rw[uj];unfold fd;cases e:iJ w pl with
 |none=>rw[e] at h;cases h
 |some p=>rfl
theorem Rw.ag1(pl:List (ay×Pl))(r:Rw):nl (r.bp pl)=ag:=by cases r<;>first|rfl|exact Hg kZ|exact Hg (jS (λ_=>rfl) _)
def Wi (c:CA)(k:Kn):GP:=λds Q=>∃(r:Rw) (pl:List (ay×Pl)),r.kn=k/\ds=[r.ins c,rj pl]/\r.ok=ag/\found pl r/\Q (r.bp pl)
theorem mJ{c:CA}{k:Kn}:iH (Wi c k):=by
 rintro ds P Q w ⟨r,pl,a,b,e,f,q⟩
 exact⟨r,pl,a,b,e,f,w _ q⟩
def aeW (c:CA):ma:=λC m g=>∃k:Kn,C=c.at k/\g=cl (Wi c k)
theorem nl1{d:D}(h:nl d=ag):l9 [d]=ag:=by unfold l9;rw[h];rfl
theorem Wj{d e:D}(h:nl d=ag)(a:nl e=ag):l9 [d,e]=ag:=by unfold l9;rw[h,nl1 a];rfl
theorem uZ{c:CA}{k:Kn}(a:k=.Mark\/k=.V1\/k=.Last\/k=.Set\/k=.j5):∀ds Q,Wi c k ds Q->jB 2 2 (wX (jD c)) ds Q:=by
 rintro ds Q ⟨r,pl,b,g,_,h,q⟩
 subst g b;refine⟨rfl,_,_,_,_,rfl,rfl,⟨r.kn,rfl,rfl⟩,nl1 (r.V3 c),r,rfl,rfl,?_⟩;have e:r.bp pl=r.d:=by cases r<;>first|rfl|(simp[Rw.kn] at a;done)
 have f:fz [] r.d=r.d:=by cases r<;>rfl
 show nl (fz [] r.d)=ag/\Q (fz [] r.d);rw[f];rw[e] at q;exact⟨r.nld,q⟩
theorem Pg{K:bz}{c:CA}(f:FOk K c){k:Kn}(b:k=.Alike):∀ds Q,Wi c k ds Q->jB 6 2 (ql K) ds Q:=by
 rintro ds Q ⟨r,pl,e,g,_,a,q⟩
 subst g e;have h:=f.f r;cases r<;>first|(simp[Rw.kn] at b;done)|skip
 refine⟨rfl,_,_,_,_,rfl,h,rfl,rfl,rfl,?_⟩;refine⟨_,_,rfl,m5 (a _ av),_,_,rfl,m5 (a _ (aH _ av)),ab rfl,rfl,q⟩
theorem Ls{K:bz}{c:CA}(f:FOk K c){k:Kn}(b:k=.V2\/k=.Leave):∀ds Q,Wi c k ds Q->jB 2 2 (sr K) ds Q:=by
 rintro ds Q ⟨r,pl,e,g,_,i,q⟩
 subst g e;have a:=f.f r;cases r<;>first|(simp[Rw.kn] at b;done)|skip
 all_goals
  refine⟨rfl,_,_,_,_,rfl,a,rfl,?_⟩;conv=>whnf
  refine⟨λh=>?_,?_⟩
  .exact absurd h.2 (bf (ab rfl))
  conv=>whnf
  refine⟨_,_,_,_,rfl,a,rfl,?_⟩;conv=>whnf
  refine⟨_,rfl,?_⟩;refine⟨_,_,rfl,m5 (i _ av),?_⟩;walk_at "b";exact⟨List.cons_ne_nil _ _,ab rfl,rfl,q⟩
theorem Ph{K:bz}{c:CA}(f:FOk K c){k:Kn}(b:k=.Table):∀ds Q,Wi c k ds Q->jB 2 2 (qm K) ds Q:=by
 rintro ds Q ⟨r,pl,e,g,ok,h,q⟩
 subst g e;have a:=f.f r;cases r<;>first|(simp[Rw.kn] at b;done)|skip
 rename_i ws;have m:ws.length<=60:=by unfold Rw.ok at ok;rw[aQ,aQ] at ok;exact of_decide_eq_true ok.1.2
 refine⟨rfl,_,_,_,_,rfl,a,rfl,?_⟩;conv=>whnf
 refine⟨_,rfl,?_⟩;refine⟨_,_,_,_,rfl,a,rfl,?_⟩;conv=>whnf
 refine⟨_,rfl,?_⟩;refine⟨_,rfl,rfl,?_⟩;refine nS D.str (λw=>j7 (fd pl w)) ?_ _ _ ?_ (λx i n j=>?_) ?_
 .exact rfl
 .rw[bj,bt];exact sx (by omega)
 .exact⟨_,_,rfl,m5 (h x i),j _ rfl⟩
 .refine⟨ab rfl,?_,q⟩;exact Hg (jS (λ_=>rfl) _)
noncomputable def nrD(C:ak)(c:CA)(b:Br)(pl:List (ay×Pl)):D:=.ins C ["bare","places"] [px c b,rj pl]
theorem MN(C:ak)(c:CA)(b:Br)(pl:List (ay×Pl)):nl (nrD C c b pl)=ag:=Wj (mf c b) (rm pl)
structure NOk(K:bz)(C:ak):Prop where
 bare:qg K C "bare"
 places:qg K C "places"
def FM (C:ak)(c:CA):GN:=λds M Q=>∃M1 b pl,ds=[.loc M1.length,px c b,rj pl]/\M=M1++[aa (.ins C [] [])]/\Q .non (M1++[aa (.ins C ["bare","places"] [px c b,rj pl])])
theorem MP{C:ak}{c:CA}:jW (FM C c):=by
 rintro ds M P Q w ⟨M1,b,pl,a,e,q⟩
 exact⟨M1,b,pl,a,e,w _ _ q⟩
theorem YV{K:bz}{C:ak}{c:CA}(f:NOk K C):∀ds M Q,FM C c ds M Q->uf 3 3 (uX K) ds M Q:=by
 rintro ds M Q ⟨M1,b,pl,a,e,q⟩
 subst a e;refine⟨rfl,?_⟩;refine⟨C,_,_,FF,f.bare,by decide,?_⟩;rw[FG];refine⟨C,_,_,FF,f.places,ab rfl,?_⟩;rw[FG];exact q
def Ds (C:ak)(c:CA):GP:=λds Q=>∃(b:Br) (pl:List (ay×Pl)) (p:Pl) (r:Rw),ds=[nrD C c b pl,j7 p]/\pA b p=aa r/\r.ok=ag/\found pl r/\Q (.tup [r.bp pl,j7 (p.1,p.2+1)])
theorem Hz{C:ak}{c:CA}:iH (Ds C c):=by
 rintro ds P Q w ⟨b,pl,p,r,a,e,f,g,q⟩
 exact⟨b,pl,p,r,a,e,f,g,w _ q⟩
theorem R8{K:bz}{C:ak}{c:CA}(f:NOk K C):∀ds Q,Ds C c ds Q->jB 4 2 (qW K (cl (Pe c)) (aeW c)) ds Q:=by
 rintro ds Q ⟨b,pl,p,r,a,g,h,i,q⟩
 subst a;refine⟨rfl,rfl,rfl,?_⟩;refine⟨_,_,_,_,rfl,f.bare,rfl,Wj (mf c b) rfl,b,p,r,rfl,g,?_⟩;refine⟨_,_,_,_,rfl,rfl,⟨r.kn,rfl,rfl⟩,?_⟩;refine⟨_,_,_,_,rfl,f.places,rfl,Wj (r.V3 c) (rm pl),r,pl,rfl,rfl,h,i,?_⟩;refine⟨ab rfl,ab rfl,?_⟩;have e:fz [] (.tup [r.bp pl,.tup [.str p.1,.int ((p.2:Int)+1)]])=.tup [r.bp pl,j7 (p.1,p.2+1)]:=by cases r<;>rfl
 show nl (fz [] (.tup [r.bp pl,.tup [.str p.1,.int ((p.2:Int)+1)]]))=ag/\Q (fz [] (.tup [r.bp pl,.tup [.str p.1,.int ((p.2:Int)+1)]]));rw[e];exact⟨Wj (r.ag1 pl) rfl,q⟩
def v5 (C:ak)(c:CA):GP:=λds Q=>∃(b:Br) (pl:List (ay×Pl)) (p:Pl) (ns:List Int),ds=[nrD C c b pl,j7 p]/\pA b p=aa (.numbers ns)/\Q (.lst (ns.map .int))
theorem BW{C:ak}{c:CA}:iH (v5 C c):=by
 rintro ds P Q w ⟨b,pl,p,r,a,e,q⟩
 exact⟨b,pl,p,r,a,e,w _ q⟩
theorem JU{K:bz}{C:ak}{c:CA}(f:NOk K C):∀ds Q,v5 C c ds Q->jB 2 2 (oy K (cl (Pe c)) (jD c)) ds Q:=by
 rintro ds Q ⟨b,pl,p,ns,a,e,q⟩
 subst a;refine⟨rfl,_,_,_,_,rfl,f.bare,rfl,Wj (mf c b) rfl,b,p,_,rfl,e,?_⟩;refine⟨_,_,_,_,rfl,rfl,⟨.j5,rfl,rfl⟩,nl1 (Rw.V3 c _),.numbers ns,rfl,rfl,?_⟩;exact⟨_,rfl,kZ,q⟩
def Aw (C:ak)(c:CA):GP:=λds Q=>∃(b:Br) (pl:List (ay×Pl)) (p:Pl) (ws:List ay),ds=[nrD C c b pl,j7 p]/\pA b p=aa (.table ws)/\(Rw.table ws).ok=ag/\found pl (.table ws)/\Q (.lst (ws.map λw=>j7 (fd pl w)))
theorem Ff{C:ak}{c:CA}:iH (Aw C c):=by
 rintro ds P Q w ⟨b,pl,p,r,a,e,f,g,q⟩
 exact⟨b,pl,p,r,a,e,f,g,w _ q⟩
theorem Pj{K:bz}{C:ak}{c:CA}(f:NOk K C):∀ds Q,Aw C c ds Q->jB 2 2 (qo K (cl (Pe c)) (aeW c)) ds Q:=by
 rintro ds Q ⟨b,pl,p,ws,a,e,g,h,q⟩
 subst a;refine⟨rfl,_,_,_,_,rfl,f.bare,rfl,Wj (mf c b) rfl,b,p,_,rfl,e,?_⟩;refine⟨_,_,_,_,rfl,rfl,⟨.Table,rfl,rfl⟩,?_⟩;refine⟨_,_,_,_,rfl,f.places,rfl,Wj (Rw.V3 c _) (rm pl),.table ws,pl,rfl,rfl,g,h,?_⟩;exact⟨_,rfl,jS (λ_=>rfl) _,q⟩
structure RS where
 used:Nat
 bx:List Int
 kept:List Pl
 yb:List Int
noncomputable def gb(s:RS)(b:Int):Int:=s.bx.getD b.toNat 0
noncomputable def sb(s:RS)(b v:Int):RS:={s with bx:=s.bx.set b.toNat v}
abbrev Out:=RS×Pl×Option ay
noncomputable def u0(a b:Pl)(s:RS):Out:=if s.kept.length=40 then(s,b,aa "deep") else({s with kept:=s.kept++[b]},a,ao)
noncomputable def u4(a:Pl)(s:RS):Out:=match s.kept.getLast? with
 |none=>(s,a,aa "empty")
 |some p=>({s with kept:=s.kept.dropLast},p,ao)
noncomputable def Jn(n:Int)(a:List Pl)(b:Pl)(s:RS):Out:=if 0<=n/\n<a.length then(s,a.getD n.toNat ("",0),ao) else(s,b,aa "place")
noncomputable def BX(ins:List Int)(b:Int)(s:RS):RS×Option ay:=if s.used=ins.length then(s,aa "ask") else({sb s b (ins.getD s.used 0) with used:=s.used+1},ao)
noncomputable def mU(b n:Int)(ns:List Int)(s:RS):RS×Option ay:=if 0<=n/\n<ns.length then(sb s b (ns.getD n.toNat 0),ao) else(s,aa "place")
noncomputable def JV:List ay:=["store","inputs","used","boxes","kept","answers","end"]
noncomputable def eD:Option ay->D
 |none=>.non
 |some x=>.str x
structure RC where
 (CR CN:ak) (c:CA) (b:Br) (pl:List (ay×Pl)) (ins:List Int)
noncomputable def RC.sd(k:RC):D:=nrD k.CN k.c k.b k.pl
noncomputable def RC.id(k:RC):D:=.lst (k.ins.map .int)
noncomputable def rM(k:RC)(s:RS)(e:Option ay):Ms:=[aa (.ins k.CR JV [k.sd,k.id,.int s.used,.loc 1,.loc 2,.loc 3,eD e]),aa (.lst (s.bx.map .int)),aa (.lst (s.kept.map j7)),aa (.lst (s.yb.map .int))]
structure Fg(K:bz)(C:ak):Prop where
 f:∀x∈JV,qg K C x
theorem Fg.store{K:bz}{C:ak}(h:Fg K C):qg K C "store":=h.f _ (by simp[JV])
theorem Fg.inputs{K:bz}{C:ak}(h:Fg K C):qg K C "inputs":=h.f _ (by simp[JV])
theorem Fg.used{K:bz}{C:ak}(h:Fg K C):qg K C "used":=h.f _ (by simp[JV])
theorem Fg.boxes{K:bz}{C:ak}(h:Fg K C):qg K C "boxes":=h.f _ (by simp[JV])
theorem Fg.kept{K:bz}{C:ak}(h:Fg K C):qg K C "kept":=h.f _ (by simp[JV])
theorem Fg.answers{K:bz}{C:ak}(h:Fg K C):qg K C "answers":=h.f _ (by simp[JV])
theorem Fg.end_{K:bz}{C:ak}(h:Fg K C):qg K C "end":=h.f _ (by simp[JV])
structure MQ(k:RC)(s:RS):Prop where
 b4:s.bx.length=4
 us:s.used<=k.ins.length
 kp:s.kept.length<=40
 an:s.yb.length<=1000000
def Dt (k:RC):GN:=λds M Q=>∃(s:RS) (a b:Pl),MQ k s/\ds=[.loc 0,j7 a,j7 b]/\M=rM k s ao/\Q (j7 (u0 a b s).2.1) (rM k (u0 a b s).1 (u0 a b s).2.2)
theorem HA{k:RC}:jW (Dt k):=by
 rintro ds M P Q w ⟨s,a,b,c,e,f,q⟩
 exact⟨s,a,b,c,e,f,w _ _ q⟩
theorem R9{K:bz}{k:RC}(f:Fg K k.CR):∀ds M Q,Dt k ds M Q->uf 3 3 (zV K) ds M Q:=by
 rintro ds M Q ⟨s,a,b,c,g,i,q⟩
 subst g i;refine⟨rfl,_,_,_,_,rfl,f.kept,rfl,_,rfl,?_⟩;unfold u0 at q;dsimp only [dC];by_cases h:s.kept.length=40
 .rw[if_pos h] at q;refine My (by rw[ai,h];rfl) ?_;refine⟨_,_,_,rfl,f.end_,ab rfl,q⟩
 .rw[if_neg h] at q;refine Mz (by rw[ai];omega) ?_;refine⟨_,_,_,_,rfl,f.kept,rfl,rfl,_,rfl,?_,?_⟩
  .rw[ai];exact bM c.kp (by decide)
  .have e:s.kept.map j7++[j7 b]=(s.kept++[b]).map j7:=by rw[aX];rfl
   show Q (j7 a) [aa _,aa _,aa (.lst (s.kept.map j7++[j7 b])),aa _];rw[e];exact q
theorem YW{a b:Int}{M:Ms}{Q:DK}(h:¬a<=b)(q:Q (.bl ar) M):Bp (.int a) (.int b) M Q:=by show Q (.bl (decide (a<=b))) M;rw[decide_eq_false h];exact q
theorem UF{a b:Int}{M:Ms}{Q:DK}(h:a<b)(q:Q (.bl ag) M):Ow (.int a) (.int b) M Q:=by show Q (.bl (decide (a<b))) M;rw[decide_eq_true h];exact q
theorem YX{a b:Int}{M:Ms}{Q:DK}(h:¬a<b)(q:Q (.bl ar) M):Ow (.int a) (.int b) M Q:=by show Q (.bl (decide (a<b))) M;rw[decide_eq_false h];exact q
def Du (k:RC):GN:=λds M Q=>∃(s:RS) (b:Pl),MQ k s/\ds=[.loc 0,j7 b]/\M=rM k s ao/\Q (j7 (u4 b s).2.1) (rM k (u4 b s).1 (u4 b s).2.2)
theorem HB{k:RC}:jW (Du k):=by
 rintro ds M P Q w ⟨s,b,a,c,e,q⟩
 exact⟨s,b,a,c,e,w _ _ q⟩
theorem Sa{K:bz}{k:RC}(f:Fg K k.CR):∀ds M Q,Du k ds M Q->uf 2 2 (zW K) ds M Q:=by
 rintro ds M Q ⟨s,b,e,a,c,q⟩
 subst a c;refine⟨rfl,_,_,_,_,rfl,f.kept,rfl,_,rfl,?_⟩;dsimp only [dC];obtain⟨us,bx,kept,yb⟩:=s;rcases e7 kept with h|⟨l,p,h⟩
 .subst h;refine My rfl ?_;exact⟨_,_,_,rfl,f.end_,ab rfl,q⟩
 .rw[e8] at h;subst h;unfold u4 at q;dsimp only at q;rw[List.getLast?_append,List.dropLast_concat] at q;refine Mz (by rw[ai,aE,bO];omega) ?_;refine⟨_,_,_,_,rfl,f.kept,rfl,rfl,l.map j7,j7 p,?_,q⟩;show aa (aa (OD.lst ((l++[p]).map j7)))=_;rw[aX];rfl
def MR (k:RC):GN:=λds M Q=>∃(s:RS) (n:Int) (a:List Pl) (b:Pl),MQ k s/\ds=[.loc 0,.int n,.lst (a.map j7),j7 b]/\M=rM k s ao/\Q (j7 (Jn n a b s).2.1) (rM k (Jn n a b s).1 (Jn n a b s).2.2)
theorem MS{k:RC}:jW (MR k):=by
 rintro ds M P Q w ⟨s,n,a,b,c,e,f,q⟩
 exact⟨s,n,a,b,c,e,f,w _ _ q⟩
theorem FN{β:Type}{l:List β}{n:Int}{d:β}(a:0<=n)(b:n<l.length):vE l n=aa (l.getD n.toNat d):=by obtain⟨m,rfl⟩:∃m:Nat,n=m:=⟨n.toNat,by omega⟩;refine lx ?_;rw[cT,bu,aJ (by omega)];rfl
theorem zm{β a:Type}{f:β->a}{l:List β}{n:Nat}{d:β}:(l.map f).getD n (f d)=f (l.getD n d):=by rw[bu,bu,aS];cases l[n]?<;>rfl
section
theorem YY{K:bz}{k:RC}(f:Fg K k.CR):∀ds M Q,MR k ds M Q->uf 4 4 (qO K) ds M Q:=by
 rintro ds M Q ⟨s,n,i,b,j,a,c,q⟩
 subst a c;have e:=@zc;have g:=@YW;have ty:=@UF;have h:=@YX;unfold qO;generalize Bp=ge at e g |-;generalize Ow=m at ty h |-;unfold Jn at q;refine⟨rfl,?_⟩;conv=>whnf
 by_cases a:0<=n
 .by_cases c:n<i.length
  .rw[if_pos ⟨a,c⟩] at q;refine e a ?_;refine⟨_,rfl,?_⟩;conv=>whnf
   refine ty (by rw[ai];exact c) ?_;exact⟨_,by rw[FN (d:=j7 ("",0)) a (by rw[ai];exact c),zm],q⟩
  .rw[if_neg (λz=>c z.2)] at q;refine e a ?_;refine⟨_,rfl,?_⟩;conv=>whnf
   refine h (by rw[ai];exact c) ?_;exact⟨_,_,_,rfl,f.end_,ab rfl,q⟩
 .rw[if_neg (λz=>a z.1)] at q;refine g a ?_;exact⟨_,_,_,rfl,f.end_,ab rfl,q⟩
end
theorem UG{b:Int}(h:tu b=ag):∃n:Nat,n<4/\b=n:=by unfold tu at h;rw[aQ] at h;have a:=of_decide_eq_true h.1;have c:=of_decide_eq_true h.2;exact⟨b.toNat,by omega,by omega⟩
theorem mV{s:RS}(h:s.bx.length=4){b:Int}(a:tu b=ag):vE (s.bx.map D.int) b=aa (.int (gb s b)):=by obtain⟨n,c,rfl⟩:=UG a;rw[FN (d:=D.int 0) (by omega) (by rw[ai];omega),zm];rfl
theorem oB{s:RS}(h:s.bx.length=4){b:Int}(a:tu b=ag):QU (s.bx.map D.int).length b=aa b.toNat:=by obtain⟨n,c,rfl⟩:=UG a;unfold QU;rw[if_pos (by omega),if_pos (by rw[ai];omega)]
theorem rp{l:List Int}{n:Nat}{v:Int}:(l.map D.int).set n (.int v)=(l.set n v).map D.int:=(List.map_set).symm
def HC (k:RC):GN:=λds M Q=>∃(s:RS) (b:Int),MQ k s/\tu b=ag/\ds=[.loc 0,.int b]/\M=rM k s ao/\Q .non (rM k (BX k.ins b s).1 (BX k.ins b s).2)
theorem JY{k:RC}:jW (HC k):=by
 rintro ds M P Q w ⟨s,b,a,h,c,e,q⟩
 exact⟨s,b,a,h,c,e,w _ _ q⟩
theorem Wk{K:bz}{k:RC}(f:Fg K k.CR):∀ds M Q,HC k ds M Q->uf 2 2 (BK K) ds M Q:=by
 rintro ds M Q ⟨s,b,a,c,e,g,q⟩
 subst e g;refine⟨rfl,_,_,_,_,rfl,f.used,rfl,_,_,_,_,rfl,f.inputs,rfl,_,rfl,?_⟩;unfold BX at q;by_cases h:s.used=k.ins.length
 .rw[if_pos h] at q;refine My (by rw[ai,h]) ?_;exact⟨_,_,_,rfl,f.end_,ab rfl,q⟩
 .rw[if_neg h] at q;have i:(s.used:Int)<k.ins.length:=by have:=a.us;omega
  refine Mz (by rw[ai];omega) ?_;refine⟨_,_,_,_,rfl,f.inputs,rfl,_,_,_,_,rfl,f.used,rfl,?_⟩;refine⟨_,FN (d:=D.int 0) (by omega) (by rw[ai];exact i),?_⟩;refine⟨_,_,_,_,rfl,f.boxes,rfl,?_⟩;refine⟨_,oB a.b4 c,?_⟩;refine⟨_,_,_,_,rfl,f.used,rfl,_,_,_,rfl,rfl,ab rfl,?_⟩;rw[zm];show Q .non [aa _,aa (.lst ((s.bx.map D.int).set b.toNat (.int _))),aa _,aa _];rw[rp];exact q
def Dv (k:RC):GN:=λds M Q=>∃(s:RS) (b n:Int) (ns:List Int),MQ k s/\tu b=ag/\ds=[.loc 0,.int b,.int n,.lst (ns.map .int)]/\M=rM k s ao/\Q .non (rM k (mU b n ns s).1 (mU b n ns s).2)
theorem HD{k:RC}:jW (Dv k):=by
 rintro ds M P Q w ⟨s,b,n,ns,a,h,c,e,q⟩
 exact⟨s,b,n,ns,a,h,c,e,w _ _ q⟩
section
theorem Sb{K:bz}{k:RC}(f:Fg K k.CR):∀ds M Q,Dv k ds M Q->uf 4 4 (ui K) ds M Q:=by
 rintro ds M Q ⟨s,b,n,ns,i,j,a,c,q⟩
 subst a c;have e:=@zc;have g:=@YW;have ty:=@UF;have h:=@YX;unfold ui;generalize Bp=ge at e g |-;generalize Ow=m at ty h |-;unfold mU at q;refine⟨rfl,?_⟩;conv=>whnf
 by_cases a:0<=n
 .by_cases c:n<ns.length
  .rw[if_pos ⟨a,c⟩] at q;refine e a ?_;refine⟨_,rfl,?_⟩;conv=>whnf
   refine ty (by rw[ai];exact c) ?_;refine⟨_,FN (d:=D.int 0) a (by rw[ai];exact c),?_⟩;refine⟨_,_,_,_,rfl,f.boxes,rfl,_,oB i.b4 j,?_⟩;rw[zm];show Q .non [aa _,aa (.lst ((s.bx.map D.int).set b.toNat (.int _))),aa _,aa _];rw[rp];exact q
  .rw[if_neg (λz=>c z.2)] at q;refine e a ?_;refine⟨_,rfl,?_⟩;conv=>whnf
   refine h (by rw[ai];exact c) ?_;exact⟨_,_,_,rfl,f.end_,ab rfl,q⟩
 .rw[if_neg (λz=>a z.1)] at q;refine g a ?_;exact⟨_,_,_,rfl,f.end_,ab rfl,q⟩
end
noncomputable def BY(k:RC)(r:Rw)(s:RS):RS×Option ay:=match r with
 |.set x n=>(sb s x n,ao)
 |.add x y=>(sb s x (gb s x+gb s y),ao)
 |.take x y=>(sb s x (gb s x- gb s y),ao)
 |.say x=>({s with yb:=s.yb++[gb s x]},ao)
 |.ask x=>BX k.ins x s
 |.load x y w=>(match pA k.b (fd k.pl w) with|some (.numbers ns)=>mU x (gb s y) ns s|_=>(s,ao))
 |.alike x w v=>(sb s x (if fd k.pl w=fd k.pl v then 1 else 0),ao)
 |_=>(s,ao)
def Pk (CR CN:ak)(c:CA)(P:RC->GN):GN:=λds M Q=>∃k:RC,k.CR=CR/\k.CN=CN/\k.c=c/\P k ds M Q
theorem tK{CR CN:ak}{c:CA}{P:RC->GN}(h:∀k,jW (P k)):jW (Pk CR CN c P):=by
 rintro ds M A B w ⟨k,a,b,e,q⟩
 exact⟨k,a,b,e,h k _ _ _ _ w q⟩
noncomputable def YZ:Rw->Bool
 |.set _ _|.add _ _|.take _ _|.say _|.ask _|.load _ _ _|.alike _ _ _=>ag
 |_=>ar
structure HE(k:RC)(r:Rw):Prop where
 code:r.code=ag
 ok:r.ok=ag
 WX:found k.pl r
 ld:∀x y w,r=.load x y w->∃ns,pA k.b (fd k.pl w)=aa (.numbers ns)
 jb:∀x w,r=.jumpby x w->∃ws,pA k.b (fd k.pl w)=aa (.table ws)/\(Rw.table ws).ok=ag/\found k.pl (.table ws)
 al:∀x w v,r=.alike x w v->L3.pl (j7 (fd k.pl w))=ag/\L3.pl (j7 (fd k.pl v))=ag
def su (CR CN:ak)(c:CA):ma:=λC m g=>C=CR/\g=Pk CR CN c HC
def pJ (CR CN:ak)(c:CA):ma:=λC m g=>C=CR/\g=Pk CR CN c Dv
def lD (CN:ak)(c:CA):ma:=λC m g=>C=CN/\g=cl (v5 CN c)
def Ay (k:RC):GN:=λds M Q=>∃(s:RS) (r:Rw),MQ k s/\HE k r/\YZ r=ag/\s.yb.length<1000000/\ds=[.loc 0,r.bp k.pl]/\M=rM k s ao/\Q .non (rM k (BY k r s).1 (BY k r s).2)
theorem Fh{k:RC}:jW (Ay k):=by
 rintro ds M P Q w ⟨s,r,a,b,c,e,f,g,q⟩
 exact⟨s,r,a,b,c,e,f,g,w _ _ q⟩
theorem C0{a b:Bool}(h:(a&&b)=ag):a=ag:=by cases a;cases h;rfl
theorem bb2{a b:Bool}(h:(a&&b)=ag):b=ag:=by cases a;cases h;exact h
theorem Y0(p q:Pl):Bt (j7 p) (j7 q)=decide (p=q):=by
 obtain⟨a,i⟩:=p;obtain⟨b,j⟩:=q;show((a==b)&&(((i:Int)==(j:Int))&&ag))=_;rw[Bool.and_true];by_cases c:a=b
 .by_cases e:i=j
  .rw[c,e,decide_eq_true rfl];simp
  .rw[decide_eq_false (λz=>e (by cases z;rfl))];have:((i:Int)==(j:Int))=ar:=beq_eq_false_iff_ne.mpr (by omega);rw[this,Bool.and_false]
 .rw[decide_eq_false (λz=>c (by cases z;rfl)),beq_eq_false_iff_ne.mpr c];rfl
theorem Pm{K:bz}{k:RC}(f:Fg K k.CR):∀ds M Q,Ay k ds M Q->uf 4 2 (tH K (su k.CR k.CN k.c) (lD k.CN k.c) (pJ k.CR k.CN k.c)) ds M Q:=by
 rintro ds M Q ⟨s,r,a,g,i,j,m,o,q⟩
 subst m o;have ok:=g.ok;cases r<;>first|(cases i;done)|skip
 case set x n=>
  refine⟨rfl,?_⟩;walk_at "b";refine⟨_,_,_,_,rfl,f.boxes,rfl,_,oB a.b4 (C0 ok),?_⟩;show Q .non [aa _,aa (.lst ((s.bx.map D.int).set x.toNat (.int n))),aa _,aa _];rw[rp];exact q
 case add x y=>
  refine⟨rfl,?_⟩;walk_at "b";refine⟨_,_,_,_,rfl,f.boxes,rfl,_,mV a.b4 (C0 ok),?_⟩;refine⟨_,_,_,_,rfl,f.boxes,rfl,_,rfl,_,mV a.b4 (bb2 ok),?_⟩;refine⟨_,_,rfl,oB a.b4 (C0 ok),?_⟩;show Q .non [aa _,aa (.lst ((s.bx.map D.int).set x.toNat (.int _))),aa _,aa _];rw[rp];exact q
 case take x y=>
  refine⟨rfl,?_⟩;walk_at "b";refine⟨_,_,_,_,rfl,f.boxes,rfl,_,mV a.b4 (C0 ok),?_⟩;refine⟨_,_,_,_,rfl,f.boxes,rfl,_,rfl,_,mV a.b4 (bb2 ok),?_⟩;refine⟨_,_,rfl,oB a.b4 (C0 ok),?_⟩;show Q .non [aa _,aa (.lst ((s.bx.map D.int).set x.toNat (.int _))),aa _,aa _];rw[rp];exact q
 case say x=>
  refine⟨rfl,?_⟩;walk_at "b";refine⟨_,_,_,_,rfl,f.answers,rfl,rfl,?_⟩;refine⟨_,_,_,_,rfl,f.boxes,rfl,_,mV a.b4 ok,?_⟩;refine⟨_,rfl,?_,?_⟩
  .rw[ai];exact bB j (by decide)
  .show Q .non [aa _,aa _,aa _,aa (.lst (s.yb.map D.int++[.int (gb s x)]))];rw[show s.yb.map D.int++[.int (gb s x)]=(s.yb++[gb s x]).map D.int by rw[aX];rfl];exact q
 case ask x=>
  refine⟨rfl,?_⟩;walk_at "b";exact⟨_,_,_,_,rfl,rfl,⟨rfl,rfl⟩,k,rfl,rfl,rfl,s,x,a,ok,rfl,rfl,q⟩
 case load x y w=>
  obtain⟨ns,e⟩:=g.ld x y w rfl;have q:Q .non (rM k (mU x (gb s y) ns s).1 (mU x (gb s y) ns s).2):=by
   have:BY k (.load x y w) s=mU x (gb s y) ns s:=by show(match pA k.b (fd k.pl w) with|some (.numbers ns)=>mU x (gb s y) ns s|_=>(s,ao))=_;rw[e]
   rw[this] at q;exact q
  refine⟨rfl,?_⟩;walk_at "b";refine⟨_,_,_,_,rfl,rfl,⟨rfl,rfl⟩,?_⟩;refine⟨_,_,_,_,rfl,f.boxes,rfl,_,rfl,_,mV a.b4 (bb2 (C0 ok)),?_⟩;refine⟨_,_,_,_,rfl,f.store,rfl,?_⟩;refine⟨_,_,_,_,rfl,rfl,⟨rfl,rfl⟩,_,rfl,?_⟩;refine⟨Wj (MN _ _ _ _) rfl,k.b,k.pl,fd k.pl w,ns,rfl,e,?_⟩;exact⟨k,rfl,rfl,rfl,s,x,gb s y,ns,a,C0 (C0 ok),rfl,rfl,q⟩
 case alike x w v=>
  obtain⟨p,u⟩:=g.al x w v rfl;refine⟨rfl,?_⟩;walk_at "b";refine⟨⟨p,u,?_,?_⟩,?_⟩
  .show dp (.tup [.str _,.int _])<=60;simp[dp,FA]
  .show dp (.tup [.str _,.int _])<=60;simp[dp,FA]
  have z:Bt (vw (rM k s ao) (j7 (fd k.pl w))) (vw (rM k s ao) (j7 (fd k.pl v)))=decide (fd k.pl w=fd k.pl v):=Y0 (fd k.pl w) (fd k.pl v);dsimp only;rw[z];have q:Q .non (rM k (sb s x (if fd k.pl w=fd k.pl v then 1 else 0)) ao):=q;by_cases h:fd k.pl w=fd k.pl v
  .rw[decide_eq_true h];rw[if_pos h] at q;refine⟨_,_,_,_,rfl,f.boxes,rfl,_,oB a.b4 (C0 (C0 ok)),?_⟩;show Q .non [aa _,aa (.lst ((s.bx.map D.int).set x.toNat (.int _))),aa _,aa _];rw[rp];exact q
  .rw[decide_eq_false h];rw[if_neg h] at q;refine⟨_,_,_,_,rfl,f.boxes,rfl,_,oB a.b4 (C0 (C0 ok)),?_⟩;show Q .non [aa _,aa (.lst ((s.bx.map D.int).set x.toNat (.int _))),aa _,aa _];rw[rp];exact q
noncomputable def nH(k:RC)(r:Rw)(a:Pl)(s:RS):Out:=match r with
 |.jump w=>(s,fd k.pl w,ao)
 |.jumpif x w=>(s,if gb s x=0 then a else fd k.pl w,ao)
 |.call w=>u0 (fd k.pl w) a s
 |.back=>u4 a s
 |.jumpby x w=>(match pA k.b (fd k.pl w) with|some (.table ws)=>Jn (gb s x) (ws.map (fd k.pl)) a s|_=>(s,a,ao))
 |.stop=>(s,a,aa "stop")
 |r=>((BY k r s).1,a,(BY k r s).2)
def pH (CR CN:ak)(c:CA):ma:=λC m g=>C=CR/\g=Pk CR CN c Dt
def pI (CR CN:ak)(c:CA):ma:=λC m g=>C=CR/\g=Pk CR CN c Du
def UH (CR CN:ak)(c:CA):ma:=λC m g=>C=CR/\g=Pk CR CN c MR
def HF (CR CN:ak)(c:CA):ma:=λC m g=>C=CR/\g=Pk CR CN c Ay
def nD (CN:ak)(c:CA):ma:=λC m g=>C=CN/\g=cl (Aw CN c)
def HG (k:RC):GN:=λds M Q=>∃(s:RS) (r:Rw) (b:Pl),MQ k s/\HE k r/\s.yb.length<1000000/\ds=[.loc 0,r.bp k.pl,j7 b]/\M=rM k s ao/\Q (j7 (nH k r b s).2.1) (rM k (nH k r b s).1 (nH k r b s).2.2)
theorem JZ{k:RC}:jW (HG k):=by
 rintro ds M P Q w ⟨s,r,b,a,c,e,f,g,q⟩
 exact⟨s,r,b,a,c,e,f,g,w _ _ q⟩
theorem Wl{K:bz}{k:RC}(f:Fg K k.CR):∀ds M Q,HG k ds M Q->uf 4 3 (BJ K (pH k.CR k.CN k.c) (pI k.CR k.CN k.c) (nD k.CN k.c) (UH k.CR k.CN k.c) (HF k.CR k.CN k.c)) ds M Q:=by
 rintro ds M Q ⟨s,r,b,a,g,m,n,o,q⟩
 subst n o;have ok:=g.ok;have cd:=g.code;cases r<;>first|(cases cd;done)|skip
 case jump w=>
  refine⟨rfl,?_⟩;walk_at "b";exact q
 case jumpif x w=>
  refine⟨rfl,?_⟩;walk_at "b";refine⟨_,_,_,_,rfl,f.boxes,rfl,_,rfl,_,mV a.b4 (C0 ok),?_⟩;have q:Q (j7 (if gb s x=0 then b else fd k.pl w)) (rM k s ao):=q;by_cases h:gb s x=0
  .rw[if_pos h] at q;dsimp only [dC];refine My h ?_;exact q
  .rw[if_neg h] at q;dsimp only [dC];refine Mz h ?_;exact⟨_,rfl,q⟩
 case call w=>
  refine⟨rfl,?_⟩;walk_at "b";exact⟨_,_,_,_,rfl,rfl,⟨rfl,rfl⟩,_,rfl,k,rfl,rfl,rfl,s,fd k.pl w,b,a,rfl,rfl,q⟩
 case back=>
  refine⟨rfl,?_⟩;walk_at "b";exact⟨_,_,_,_,rfl,rfl,⟨rfl,rfl⟩,k,rfl,rfl,rfl,s,b,a,rfl,rfl,q⟩
 case stop=>
  refine⟨rfl,?_⟩;walk_at "b";exact⟨_,_,_,rfl,f.end_,ab rfl,q⟩
 case jumpby x w=>
  obtain⟨ws,e,i,j⟩:=g.jb x w rfl;have q:Q (j7 (Jn (gb s x) (ws.map (fd k.pl)) b s).2.1) (rM k (Jn (gb s x) (ws.map (fd k.pl)) b s).1 (Jn (gb s x) (ws.map (fd k.pl)) b s).2.2):=by
   have:nH k (.jumpby x w) b s=Jn (gb s x) (ws.map (fd k.pl)) b s:=by show(match pA k.b (fd k.pl w) with|some (.table ws)=>Jn (gb s x) (ws.map (fd k.pl)) b s|_=>(s,b,ao))=_;rw[e]
   rw[this] at q;exact q
  refine⟨rfl,?_⟩;walk_at "b";refine⟨_,_,_,_,rfl,rfl,⟨rfl,rfl⟩,?_⟩;refine⟨_,_,_,_,rfl,f.boxes,rfl,_,rfl,_,mV a.b4 (C0 ok),?_⟩;refine⟨_,_,_,_,rfl,f.store,rfl,?_⟩;refine⟨_,_,_,_,rfl,rfl,⟨rfl,rfl⟩,_,rfl,?_⟩;refine⟨Wj (MN _ _ _ _) rfl,k.b,k.pl,fd k.pl w,ws,rfl,e,i,j,?_⟩;refine⟨k,rfl,rfl,rfl,s,gb s x,ws.map (fd k.pl),b,a,?_,rfl,q⟩;rw[bq];rfl
 all_goals
  refine⟨rfl,?_⟩;walk_at "b";exact⟨_,_,_,_,rfl,rfl,⟨rfl,rfl⟩,k,rfl,rfl,rfl,s,_,a,g,rfl,m,rfl,rfl,q⟩
noncomputable def rs0:RS:=⟨0,[0,0,0,0],[],[]⟩
def BZ (k:RC):GN:=λds M Q=>ds=[.loc 0,k.sd,k.id]/\M=[aa (.ins k.CR [] [])]/\Q .non (rM k rs0 ao)
theorem MT{k:RC}:jW (BZ k):=by
 rintro ds M P Q w ⟨a,b,q⟩
 exact⟨a,b,w _ _ q⟩
theorem Y1{K:bz}{k:RC}(f:Fg K k.CR):∀ds M Q,BZ k ds M Q->uf 3 3 (Hm K) ds M Q:=by
 rintro ds M Q ⟨a,b,q⟩
 subst a b;refine⟨rfl,?_⟩;refine⟨_,_,_,rfl,f.store,ab rfl,?_⟩;refine⟨_,_,_,rfl,f.inputs,ab rfl,?_⟩;refine⟨_,_,_,rfl,f.used,ab rfl,?_⟩;refine⟨ab rfl,_,_,_,rfl,f.boxes,ab rfl,?_⟩;refine⟨ab rfl,_,_,_,rfl,f.kept,ab rfl,?_⟩;refine⟨ab rfl,_,_,_,rfl,f.answers,ab rfl,?_⟩;refine⟨_,_,_,rfl,f.end_,ab rfl,?_⟩;exact q
noncomputable def runN(k:RC):Nat->Pl->RS->Option (List Int×ay)
 |0,_,s=>aa (s.yb,"steps")
 |n+1,p,s=>match pA k.b p with
  |none=>ao
  |some r=>if r.code=ag then(match(nH k r (p.1,p.2+1) s).2.2 with
   |some e=>aa ((nH k r (p.1,p.2+1) s).1.yb,e)
   |none=>runN k n (nH k r (p.1,p.2+1) s).2.1 (nH k r (p.1,p.2+1) s).1) else ao
theorem Y2(s:RS)(b v:Int):(sb s b v).bx.length=s.bx.length:=eN
structure mh(k:RC)(s t:RS):Prop where
 b4:t.bx.length=4
 us:t.used<=k.ins.length
 kp:t.kept.length<=40
 an:t.yb.length<=s.yb.length+1
theorem mh.same{k:RC}{s:RS}(h:MQ k s):mh k s s:=⟨h.b4,h.us,h.kp,ck _⟩
theorem mh.box{k:RC}{s:RS}(h:MQ k s)(b v:Int):mh k s (sb s b v):=⟨(Y2 s b v).trans h.b4,h.us,h.kp,ck _⟩
theorem mh.ask{k:RC}{s:RS}(h:MQ k s)(b:Int):mh k s (BX k.ins b s).1:=by
 unfold BX;split
 .exact mh.same h
 .rename_i hn;exact⟨(Y2 s b _).trans h.b4,by have:=h.us;show s.used+1<=_;omega,h.kp,ck _⟩
theorem mh.load{k:RC}{s:RS}(h:MQ k s)(b n:Int)(ns:List Int):mh k s (mU b n ns s).1:=by
 unfold mU;split
 .exact mh.box h _ _
 .exact mh.same h
theorem mh.inb{k:RC}{s:RS}(h:MQ k s)(r:Rw):mh k s (BY k r s).1:=by
 cases r<;>first|exact mh.box h _ _|exact mh.same h|exact mh.ask h _|skip
 .exact⟨h.b4,h.us,h.kp,by show(s.yb++[_]).length<=_;simp⟩
 .rename_i x y w;show mh k s (match pA k.b (fd k.pl w) with|some (.numbers ns)=>mU x (gb s y) ns s|_=>(s,ao)).1;split
  .exact mh.load h _ _ _
  .exact mh.same h
theorem mh.row{k:RC}{s:RS}(h:MQ k s)(r:Rw)(b:Pl):mh k s (nH k r b s).1:=by
 cases r<;>first|exact mh.inb h _|exact mh.same h|skip
 .rename_i w;show mh k s (u0 (fd k.pl w) b s).1;unfold u0;split
  .exact mh.same h
  .rename_i hn;exact⟨h.b4,h.us,by have:=h.kp;show(s.kept++[b]).length<=40;rw[aE,bO];omega,ck _⟩
 .show mh k s (u4 b s).1;unfold u4;split
  .exact mh.same h
  .exact⟨h.b4,h.us,by have:=h.kp;show s.kept.dropLast.length<=40;rw[List.length_dropLast];omega,ck _⟩
 .rename_i x w;show mh k s (match pA k.b (fd k.pl w) with|some (.table ws)=>Jn (gb s x) (ws.map (fd k.pl)) b s|_=>(s,b,ao)).1;split
  .unfold Jn;split<;>exact mh.same h
  .exact mh.same h
theorem mh.ok{k:RC}{s t:RS}(h:mh k s t)(l:s.yb.length<1000000):MQ k t:=⟨h.b4,h.us,h.kp,by have:=h.an;omega⟩
def mH (CN:ak)(c:CA):ma:=λC m g=>C=CN/\g=cl (Ds CN c)
def oz (CR CN:ak)(c:CA):ma:=λC m g=>C=CR/\g=Pk CR CN c HG
noncomputable def v6(x:List Int×ay):D:=.tup [.lst (x.1.map .int),.str x.2]
theorem Pn{K:bz}{k:RC}(f:Fg K k.CR){E:nN}{n:Nat}{p:Pl}{x:List Int×ay}(z:n<=1000000)(A:∀p r,pA k.b p=aa r->r.code=ag->HE k r)(B:runN k n p rs0=aa x)
(w:∀(s:RS) (e:Option ay),x.1=s.yb->E.rt (.tup [.loc 3,.str x.2]) (rM k s e)):Au K k.CR (Pk k.CR k.CN k.c BZ) (mH k.CN k.c) (oz k.CR k.CN k.c) E (rZ 8 [k.sd,j7 p,k.id,.int n]) []:=by
 refine⟨k,rfl,rfl,rfl,rfl,rfl,rfl,?_⟩;refine⟨⟨by omega,by omega⟩,trivial,?_⟩;have gen:∀(xs:List D) (p:Pl) (s:RS) (i j m:Option D),MQ k s->s.yb.length+xs.length<=1000000->runN k xs.length p s=aa x->xi (gQ 5) (gW (pC (mS (mH k.CN k.c) "code_at" (gE 0) (gD (gE 1) gK)) (js 2 (hC (gQ 6) (hC (gQ 7) jr))))
 (gW (iE 1 (mS (oz k.CR k.CN k.c) "do_row" (gE 4) (gD (gE 6) (gD (gE 7) gK))))
 (ii (gS (gX Rs (kx K "end" (gE 4)) (dC .non))) (hW (iT (gD (kx K "answers" (gE 4)) (gD (kx K "end" (gE 4)) gK)))) hX))) (λ_=>True) ⟨λC M=>hW (iT (gD (kx K "answers" (gE 4)) (gD (dC (.str "steps")) gK))) E C M,E.rt,E.bk,E.ct⟩ xs [aa k.sd,aa (j7 p),aa k.id,aa (.int n),aa (.loc 0),i,j,m] (rM k s ao):=by
  intro xs;induction xs with
  |nil=>
   intro p s i j m q g a;cases a;refine⟨_,_,_,_,rfl,f.answers,rfl,ab rfl,?_⟩;exact w _ _ rfl
  |cons y xs G=>
   intro p s i j m q g a;rw[aU] at a g;unfold runN at a;cases er:pA k.b p with
   |none=>rw[er] at a;cases a
   |some r=>
    rw[er] at a;dsimp only at a;by_cases u:r.code=ag
    .rw[if_pos u] at a;have v:=A p r er u;have h:=mh.row q r (p.1,p.2+1);refine⟨_,_,_,_,rfl,rfl,⟨rfl,rfl⟩,Wj (MN _ _ _ _) rfl,k.b,k.pl,p,r,rfl,er,v.ok,v.WX,rfl,rfl,?_⟩;refine⟨_,_,_,_,rfl,rfl,⟨rfl,rfl⟩,k,rfl,rfl,rfl,s,r,(p.1,p.2+1),q,v,by omega,rfl,rfl,?_⟩;generalize nH k r (p.1,p.2+1) s=o at a h |-;obtain⟨t,H,e⟩:=o;dsimp only at a h;refine⟨_,_,_,_,rfl,f.end_,rfl,?_⟩;cases e with
     |none=>
      refine⟨trivial,G H t _ _ _ (h.ok (by omega)) ?_ a⟩;have:=h.an;omega
     |some e=>
      cases a;refine⟨_,_,_,_,rfl,f.answers,rfl,_,_,_,_,rfl,f.end_,rfl,ab rfl,?_⟩;exact w _ _ rfl
    .rw[if_neg u] at a;cases a
 have g:(zF 0 ((n:Int)).toNat).length=n:=by simp[zF]
 exact gen _ p rs0 ao ao ao ⟨rfl,bi _,bi _,bi _⟩ (by rw[g];exact bG (fQ (bt _)) z) (by rw[g];exact B)
theorem zn{β:Type}{w:ay}{v:β}:∀{l:List (ay×β)},iJ w l=aa v->(w,v)∈l
 |[],h=>by cases h
 | (x,u)::l,h=>by
  unfold iJ at h;by_cases e:x=w
  .rw[if_pos e] at h;cases h;rw[e];exact av
  .rw[if_neg e] at h;exact aH _ (zn h)
theorem tL{w:ay}(h:xt w=ag):cn w=ag:=by unfold xt low at h;have h:=bb2 h;unfold cn;rw[bF] at h;rw[<-Array.all_toList,bF];intro c a;have:=h c a;have:=of_decide_eq_true (bb2 this);exact decide_eq_true (by omega)
theorem UI{a:List Pt}{p:Pl}{r:Rw}(h:pA (ik a) p=aa r):∃q∈a,q.1=p.1/\iJ p.1 (ik a)=aa (bare q.2)/\r∈bare q.2:=by obtain⟨n,i⟩:=p;obtain⟨rs,b,c⟩:=x6 h;have hm:=zn b;unfold ik at hm;obtain⟨q,f,e⟩:=bN.mp hm;cases e;exact⟨q,(nG a).mem_iff.mp f,rfl,b,aV c⟩
theorem Y3{rs:List Rw}{r:Rw}(h:r∈bare rs):r∈rs:=(eK.mp h).1
theorem B0{b:List Pt}(ok:x9 b){p:Pl}{r:Rw}(h:pA (ik b) p=aa r):r.ok=ag/\∀w∈r.nms,∃q a,iJ w (nX b)=aa q/\fd (nX b) w=q/\pA (ik b) q=aa a/\x8 r a=ag:=by obtain⟨q,c,e,j,f⟩:=UI h;refine⟨ok.lk.rows q c r (Y3 f),λw hw=>?_⟩;obtain⟨rs,g,m⟩:=ok.ag0 q c;rw[e,j] at g;cases g;have:=bF.mp (bF.mp m r f) w hw;obtain⟨n,a,i,o,u⟩:=Hy this;exact⟨n,a,i,by unfold fd;rw[i];rfl,o,u⟩
theorem Lu{b:List Pt}(ok:x9 b){p:Pl}{r:Rw}(h:pA (ik b) p=aa r):found (nX b) r:=λw hw=>by obtain⟨q,a,z,_⟩:=(B0 ok h).2 w hw;rw[z];rfl
theorem Po{a:List Pt}(ok:x9 a){p:Pl}{r:Rw}(h:pA (ik a) p=aa r):L3.pl (j7 p)=ag:=by obtain⟨q,b,e,_⟩:=UI h;have:=tL ((ok.lk.YO.all q b).w);show(cn p.1&&(ag&&ag))=ag;rw[<-e,this];rfl
theorem MU{g:List Pt}(ok:x9 g){CR CN:ak}{c:CA}{ins:List Int}{p:Pl}{r:Rw}(h:pA (ik g) p=aa r)(n:r.code=ag):HE ⟨CR,CN,c,ik g,nX g,ins⟩ r:=by
 obtain⟨o,i⟩:=B0 ok h;refine⟨n,o,Lu ok h,?_,?_,?_⟩
 .intro x y w e;subst e;obtain⟨q,a,m,f,b,j⟩:=i w av;cases a<;>first|(cases j;done)|skip
  exact⟨_,by rw[f];exact b⟩
 .intro x w e;subst e;obtain⟨q,a,m,f,b,j⟩:=i w av;cases a<;>first|(cases j;done)|skip
  exact⟨_,by rw[f];exact b,(B0 ok b).1,Lu ok b⟩
 .intro x w v e;subst e;obtain⟨q,a,m,f,b,j⟩:=i w av;obtain⟨A,B,C,u,z,E⟩:=i v (aH _ av);exact⟨by rw[f];exact Po ok b,by rw[u];exact Po ok z⟩
noncomputable def W0(CR CN:ak)(c:CA)(a:List Pt)(ins:List Int):RC:=⟨CR,CN,c,ik a,nX a,ins⟩
def MV (a:List Pt)(w:ay)(p:Pl):Prop:=xt w=ag/\iJ w (nX a)=aa p/\∃r,pA (ik a) p=aa r/\r.code=ag
def cod (b:Br)(p:Pl):Prop:=∃r,pA b p=aa r/\r.code=ag
theorem MW:∀{rs:List Rw} {j:Nat} {r:Rw},(bare rs)[j]?=aa r->∃i,rs[i]?=aa r/\r.ju=ar/\(bare rs)[j+1]?=kN (rs.drop (i+1))
 |[],j,r,h=>by simp[bare] at h
 |x::rs,j,r,h=>by
  cases a:x.ju with
  |true=>
   have e:bare (x::rs)=bare rs:=by unfold bare;rw[cD,if_neg (by rw[a];decide)]
   rw[e] at h |-;obtain⟨i,b,c,f⟩:=MW h;exact⟨i+1,by simpa using b,c,by simpa using f⟩
  |false=>
   have e:bare (x::rs)=x::bare rs:=by unfold bare;rw[cD,if_pos (by rw[a];decide)]
   rw[e] at h |-;cases j with
   |zero=>
    cases h;refine⟨0,rfl,a,?_⟩;rw[eP];show(bare rs)[0]?=kN (List.drop 1 (x::rs));rw[List.drop_succ_cons,List.drop_zero];clear e a;induction rs with
    |nil=>rfl
    |cons y rs m=>
     unfold kN;cases g:y.ju with
     |true=>
      have e:bare (y::rs)=bare rs:=by unfold bare;rw[cD,if_neg (by rw[g];decide)]
      rw[e,m,if_pos rfl]
     |false=>
      have e:bare (y::rs)=y::bare rs:=by unfold bare;rw[cD,if_pos (by rw[g];decide)]
      rw[e,if_neg (by decide)];rfl
   |succ j=>
    rw[eP] at h |-;obtain⟨i,b,c,f⟩:=MW h;exact⟨i+1,by simpa using b,c,by simpa using f⟩
theorem oC{b:List Pt}(ok:x9 b){p:Pl}{r:Rw}(h:pA (ik b) p=aa r)(g:r.ug=ag):cod (ik b) (p.1,p.2+1):=by
 obtain⟨n,j⟩:=p;obtain⟨rs,f,u⟩:=x6 h;have m:(n,rs)∈ik b:=zn f;unfold ik at m;obtain⟨q,v,eq⟩:=bN.mp m;cases eq;have c:=(nG b).mem_iff.mp v;obtain⟨i,w,_,x⟩:=MW u;have o:=(xZ (ok.lk.ends q c) w).1 g;rw[<-x] at o;cases e:(bare q.2)[j+1]? with
 |none=>rw[e] at o;cases o
 |some a=>
  rw[e] at o;refine⟨a,?_,o⟩;unfold pA;dsimp only;rw[f];exact e
theorem B1{b:List Pt}(ok:x9 b){p:Pl}{r:Rw}(h:pA (ik b) p=aa r){w:ay}(hw:w∈r.nms)(hm:∀a,x8 r a=a.code):cod (ik b) (fd (nX b) w):=by obtain⟨_,e⟩:=B0 ok h;obtain⟨q,a,i,f,g,c⟩:=e w hw;rw[hm] at c;exact⟨a,by rw[f];exact g,c⟩
section
variable {CR CN:ak} {c:CA} {ps:List Pt} {ins:List Int}
theorem Y4(ok:x9 ps){p:Pl}{r:Rw}{s:RS}(h:pA (ik ps) p=aa r)(g:r.code=ag)(a:∀q∈s.kept,cod (ik ps) q)
(b:(nH (W0 CR CN c ps ins) r (p.1,p.2+1) s).2.2=ao):
  cod (ik ps) (nH (W0 CR CN c ps ins) r (p.1,p.2+1) s).2.1/\∀q∈(nH (W0 CR CN c ps ins) r (p.1,p.2+1) s).1.kept,cod (ik ps) q:=by
 have j:=MU (CR:=CR) (CN:=CN) (c:=c) (ins:=ins) ok h g;cases r with
 |mark _ _=>cases g
 |numbers _=>cases g
 |table _=>cases g
 |jump w=>exact⟨B1 ok h av (λ_=>rfl),a⟩
 |jumpif x w=>
  refine⟨?_,a⟩;show cod _ (if gb s x=0 then(p.1,p.2+1) else fd (nX ps) w);split
  .exact oC ok h rfl
  .exact B1 ok h av (λ_=>rfl)
 |call w=>
  have e:nH (W0 CR CN c ps ins) (.call w) (p.1,p.2+1) s=u0 (fd (nX ps) w) (p.1,p.2+1) s:=rfl;rw[e] at b |-;unfold u0 at b |-;split at b
  .cases b
  .rename_i z;rw[if_neg z];refine⟨B1 ok h av (λ_=>rfl),λq f=>?_⟩;rcases bg.mp f with f|f
   .exact a q f
   .cases bS.mp f;exact oC ok h rfl
 |back=>
  have e:nH (W0 CR CN c ps ins) .back (p.1,p.2+1) s=u4 (p.1,p.2+1) s:=rfl;rw[e] at b |-;unfold u4 at b |-;cases m:s.kept.getLast? with
  |none=>rw[m] at b;cases b
  |some q=>
   refine⟨a q (List.mem_of_getLast? m),λo f=>a o ((List.dropLast_sublist _).subset f)⟩
 |stop=>cases b
 |jumpby x w=>
  obtain⟨ws,i,u,A⟩:=j.jb x w rfl;have e:nH (W0 CR CN c ps ins) (.jumpby x w) (p.1,p.2+1) s=Jn (gb s x) (ws.map (fd (nX ps))) (p.1,p.2+1) s:=by show(match pA (ik ps) (fd (nX ps) w) with|some (.table ws)=>Jn (gb s x) (ws.map (fd (nX ps))) (p.1,p.2+1) s|_=>(s,(p.1,p.2+1),ao))=_;rw[show pA (ik ps) (fd (nX ps) w)=aa (.table ws) from i]
  rw[e] at b |-;unfold Jn at b |-;split at b
  .rename_i z;rw[if_pos z];refine⟨?_,a⟩;have lt:(gb s x).toNat<ws.length:=by have:=z.2;rw[ai] at this;omega
   rw[bu,aS,aJ lt];exact B1 ok i (fb lt) (λ_=>rfl)
  .cases b
 |ask x=>
  refine⟨oC ok h rfl,?_⟩;show∀q∈(BX ins x s).1.kept,_;unfold BX;split<;>exact a
 |load x y w=>
  obtain⟨ns,i⟩:=j.ld x y w rfl;refine⟨oC ok h rfl,?_⟩;show∀q∈(match pA (ik ps) (fd (nX ps) w) with|some (.numbers ns)=>mU x (gb s y) ns s|_=>(s,ao)).1.kept,_;rw[show pA (ik ps) (fd (nX ps) w)=aa (.numbers ns) from i];show∀q∈(mU x (gb s y) ns s).1.kept,_;unfold mU;split<;>exact a
 |set x n=>exact⟨oC ok h rfl,a⟩
 |add x y=>exact⟨oC ok h rfl,a⟩
 |take x y=>exact⟨oC ok h rfl,a⟩
 |say x=>exact⟨oC ok h rfl,a⟩
 |alike x v w=>exact⟨oC ok h rfl,a⟩
theorem Lv(ok:x9 ps):∀(n:Nat) (p:Pl) (s:RS),cod (ik ps) p->(∀q∈s.kept,cod (ik ps) q)->∃x,runN (W0 CR CN c ps ins) n p s=aa x
 |0,p,s,_,_=>⟨_,rfl⟩
 |n+1,p,s,⟨r,a,f⟩,g=>by
  unfold runN;rw[show pA (W0 CR CN c ps ins).b p=aa r from a];dsimp only;rw[if_pos f];have nx:=Y4 (CR:=CR) (CN:=CN) (c:=c) (ins:=ins) ok a f g;cases e:(nH (W0 CR CN c ps ins) r (p.1,p.2+1) s).2.2 with
  |some z=>exact⟨_,rfl⟩
  |none=>
   obtain⟨h,i⟩:=nx e;exact Lv ok n _ _ h i
end
end FJ
section
open PySem PySem.Spec PyProof.Rows
namespace L2
section
variable {X:Cx}
end
end L2
namespace L3
open L2
section
variable {X:Cx}
end
end L3
end
namespace L2
open PySem PySem.W PyProof.Rows
section
variable {n:Nat} {f:Nat->Nat->Bool} {p:Array Nat}
structure Ord(n:Nat)(f:Nat->Nat->Bool):Prop where
 tr:∀i j k,f i j=ag->f j k=ag->f i k=ag
 tot:∀i j,i<n->j<n->i≠j->f i j=ar->f j i=ag
structure Row(n:Nat)(p:Array Nat):Prop where
 sz:p.size=n
 pm:p.toList.Perm (cB n)
end
open PySem.Spec
section
variable {prog:ba} {w:bI} {A:bv} {E:ae->aq->Prop} {s:aq}
end
section
variable {X:Cx}
end
end L2
section
open PySem PySem.Spec PyProof.Rows
namespace L3
open L2
section
variable {X:Cx}
end
end L3
namespace L2
section
variable {X:Cx} {o:bC} {to:TE} {apos mX vy:d8} {elts:List bC} {n:Nat}
end
end L2
namespace L3
open L2
section
variable {X:Cx}
end
end L3
namespace L2
section
variable {prog:ba} {w:bI} {A:bv} {E:ae->aq->Prop} {s:aq} {a b:ak} {K:Type} [DecidableEq K] {knd:PySem.KeyKind prog w K} {vs ws:List (K×ae)}
end
end L2
namespace L3
open L2
section
variable {X:Cx}
end
section
variable {X:Cx}
theorem abN{α:List ak}{M:Ms}{k:Nat}{b:ak}(h:b∈lv α (M.set k ao)):b∈lv α M:=by
 obtain⟨j,o,c,a⟩:=oa.mp h;have e:j≠k:=λz=>by
  subst z;by_cases f:j<M.length
  .rw[cu f] at a;cases a
  .rw[eY (by rw[eN];omega)] at a;cases a
 rw[c9 λz=>e z.symm] at a;exact oa.mpr ⟨j,o,c,a⟩
theorem OK.give{K:bz}{F α:List ak}{H:Hp}{M:Ms}(o:OK K F α H M)(k:Nat):OK K F α H (M.set k ao)/\Ext F α H M α H (M.set k ao):=by
 have c:jV (jy F α M H) (jy F α (M.set k ao) H):=λb x h=>by
  obtain⟨n,q⟩:=jh h;refine nZ h (λw=>n ?_) q;rcases bg.mp w with w|w
  .exact cb _ (abN w)
  .exact bw _ w
 refine⟨⟨by rw[eN];exact o.ml,o.nd,o.fr,o.al,λj x h=>?_,o.tb⟩,bd _,c,λ_ _=>rfl⟩;have e:j≠k:=λz=>by
  subst z;by_cases f:j<M.length
  .rw[cu f] at h;cases h
  .rw[eY (by rw[eN];omega)] at h;cases h
 rw[c9 λz=>e z.symm] at h;obtain⟨a,g,i⟩:=o.own j x h;exact⟨a,g,i.mono (bd _) c rfl⟩
def Y5 (i:Nat):DE:=λa M Q=>∃(k:Nat) (es:List D),a[i]?=aa (aa (.loc k))/\M[k]?=aa (aa (.lst es))/\Q (.lst es) (M.set k ao)
theorem aeX{x:ay}{pos:d8}(i:Nat)(u:X.N[i]?=aa x:=by rfl)(y:Vis X.env.scope x:=by first|exact ai8 rfl|exact gm (ai8 rfl)|exact gm (gm rfl))(hd:(x==("__debug__":ay))=ar:=by decide)
(z:(x==("__classdict__":ay))=ar:=by decide):JE X (.Name x pos) (Y5 i):=by
 refine⟨λA M P Q h q=>?_,PE.weak (Q1 u y hd z) λσ H Q h=>?_⟩
 .obtain⟨k,es,c,f,q⟩:=q;exact⟨k,es,c,f,h _ _ q⟩
 .obtain⟨F,α,A,M,r,k,es,c,f,q⟩:=h;obtain⟨v,e,m⟩:=r.sl i _ c;unfold Rep at m;obtain⟨a,g,rfl⟩:=m;obtain⟨J,n,B,C,E⟩:=r.ok.own k _ f;rw[g] at n;cases n;obtain⟨G,o⟩:=r.ok.give k;refine⟨.ref a,e,q _ α H o G ?_⟩;unfold Rep;refine⟨a,B,rfl,mB (λw=>?_) C rfl,o.Ju E⟩;rcases bg.mp w with w|w
  .obtain⟨j,x,p,b⟩:=oa.mp w;have:j=k:=(List.getElem?_inj (au.mp p).1 r.ok.nd).mp (p.trans g.symm);subst this;by_cases I:j<M.length
   .rw[cu I] at b;cases b
   .rw[eY (by rw[eN];omega)] at b;cases b
  .exact(r.ok.fr a w).1 (aV g)
end
end L3
namespace L2
section
variable {prog:ba} {w:bI} {A:bv} {E:ae->aq->Prop} {s:aq}
theorem Lw{it t:ak}{items:Array ae}(f:t≠it):∀(n i:Nat) (s:aq) (Q:List ae->aq->Prop),s.heap.IsListIter it t i->s.heap.IsList t items->i+n<=items.size->
  (∀a,a.IsListIter it t (i+n)->bJ it s.heap a->Q ((items.toList.drop i).take n) {s with heap:=a})->wpAny (model prog w) A (draw (.ref it) n) Q E s
 |0,i,s,Q,b,_,_,c=>by show wpAny _ _ (pure []) Q E s;exact aw (by simpa using c s.heap b (bJ.refl ..))
 |n+1,i,s,Q,b,ht,j,c=>by
  have g:i<items.size:=by omega
  show wpAny _ _ (pyNext (.ref it) >>= _) Q E s;refine ah (akd b ht (x:=items[i]) (by simp[g]) λq m h=>?_);refine ah (bR (Lw f n (i+1) _ _ m (ht.extBut h.extBut f) (by omega) λo e p=>aw ?_));have hd:items.toList.drop i=items[i]::items.toList.drop (i+1):=by simp[eB,g]
  have:=c o (by rw[show i+(n+1)=i+1+n by omega];exact e) (h.trans p);rw[hd,List.take_succ_cons] at this;exact this
theorem Pp{env:ajk}{elts:List bC}{n}{pos:d8}{t:ak}{items:Array ae}{Q:Unit->aq->Prop}(p:A.handled=ao)(ht:s.heap.IsList t items)
(hn:(cz elts env).length=items.size)(a:(cz elts env).findIdx? (·.1)=ao)
(h:∀g,ajf s.heap.objs.size s.heap g->wpAny (model prog w) A (ak8 ((cz elts env).map (·.2)) items.toList) Q E {s with heap:=g}):
  wpAny (model prog w) A (assign (.Tuple elts n pos) env (.ref t)) Q E s:=by
 rw[assign_Tuple];refine ah (ai1 ?_);unfold unpack;rw[hn,a];refine ah (bR ?_);have i:t≠s.heap.objs.size:=by obtain⟨o,q,_⟩:=ht;exact bf (aN q)
 unfold unpackItems;refine ah ?_;unfold notIterableAtAll;refine ah (ajl ht.typeIs PySem.F.slot_list_iter.lookup ?_);refine aw ?_;simp only [c5,if_false];refine ah (bR (dj ht ?_));refine ah (bR (Lw i items.size 0 _ _ ⟨_,aP _ rfl,rfl,rfl⟩ (ht.push _) (by omega) λr u j=>?_));have v:List.take items.size (List.drop 0 items.toList)=items.toList:=by rw[List.drop_zero];exact ai0 (by simp)
 rw[v];rw[if_neg (by simp)];have c:r.IsList t items:=(ht.push _).extBut j.extBut i;refine ah (bR (ako p u c (by simp) λx f=>?_));simp only [Option.isSome_none,c5,if_false];refine aw (h x λb o m e=>f b o m (j.extBut b o m (aj _ e)))
end
section
variable {X:Cx} {pos:d8}
def aiD (K:bz)(n:Nat)(t:WP):TG:=λv σ H Q=>∃a xs,v=.ref a/\p7 K H a xs/\xs.length=n/\t xs σ H Q
theorem aeZ{es:List bC}{k:Nat}{t:WP}{n:Nat}(f:X.calm=ag)(h:WQ X es t)
(hn:(cz es X.env).length=n:=by rfl)(g:(cz es X.env).findIdx? (·.1)=ao:=by rfl):PG X (.Tuple es k pos) (aiD X.K n t):=by intro cq s σ H v u Q I r hw;obtain⟨a,xs,i,j,m,hw⟩:=hw;subst i;cases r;obtain⟨ia,c,ht,x⟩:=I.list j;refine Pp (I.ok.hd f) ht.isList (by simp[hn,<-m,c.length]) g λp q=>?_;have w:Inv X cq σ H {s with heap:=p}:=I.kept (t':=s.toks) λb o e=>q b o (bf (aN e)) e;exact h cq _ σ H xs _ Q w (by simpa using c) hw
end
end L2
namespace L3
open L2
section
variable {X:Cx} {pos:d8}
def Pr (n:Nat)(a:T0):DG:=λd b M Q=>match d with|.lst ds=>ds.length=n/\a ds b M Q|_=>False
theorem ae0{es:List bC}{k n:Nat}{b:T0}(h:JGs X es b)(f:X.calm=ag:=by rfl)(hn:(cz es X.env).length=n:=by rfl)(g:(cz es X.env).findIdx? (·.1)=ao:=by rfl):JG X (.Tuple es k pos) (Pr n b):=by
 refine⟨λd c M P Q w q=>?_,PG.weak (aeZ f h.p hn g) λv σ H Q q=>?_⟩
 .unfold Pr at*;split at q
  .exact⟨q.1,h.mono _ _ _ _ _ w q.2⟩
  .exact q.elim
 .obtain⟨F,α,c,M,d,r,e,q⟩:=q;unfold Pr at q;split at q
  .unfold Rep at e;obtain⟨a,i,rfl,j,z⟩:=e;exact⟨a,i,rfl,p7.of (il _ _ j),by rw[<-gJ.length _ _ z];exact q.1,F,α,c,M,_,r,z,q.2⟩
  .exact q.elim
end
end L3
namespace L2
section
variable {X:Cx} {o:bC} {to:TE} {apos mX:d8} {tg:bC}
end
end L2
namespace L3
open L2
section
variable {X:Cx}
end
section
variable {K:bz} {F α:List ak} {H:Hp} {M:Ms}
end
section
variable {X:Cx}
def Y6:GN:=λds M Q=>match ds with
 |[.int i]=>Q (.int i) M
 |[.bl b]=>Q (.int (if b then 1 else 0)) M
 |_=>False
theorem Y7:JB X (.type "int") Y6:=by
 refine⟨λds M P Q w q=>?_,λcq s σ H xs us Q I rs h=>?_⟩
 .unfold Y6 at q |-;split at q<;>first|exact q.elim|exact w _ _ q
 .obtain⟨F,α,M,ds,o,b,h⟩:=h;unfold Y6 at h;split at h<;>first|exact h.elim|skip
  .obtain⟨v,rfl,a⟩:=qU b;unfold Rep at a;subst a;exact KL cq s σ H _ us Q I rs (.inl ⟨_,rfl,vK.now o h iU⟩)
  .obtain⟨v,rfl,a⟩:=qU b;unfold Rep at a;subst a;exact KL cq s σ H _ us Q I rs (.inr ⟨_,rfl,vK.now o h iU⟩)
end
end L3
namespace L3
open L2
section
variable {X:Cx}
end
end L3
namespace L2
section
variable {prog:ba} {w:bI} {κ:Type} [DecidableEq κ] {knd:PySem.KeyKind prog w κ} {A:bv} {E:ae->aq->Prop} {s:aq}
end
section
variable {X:Cx}
end
end L2
namespace L3
open L2
section
variable {X:Cx}
end
end L3
namespace L2
section
variable {X:Cx}
end
end L2
namespace L3
open L2
section
variable {X:Cx}
end
section
variable {X:Cx} {pos:d8} {keys:List (Option bC)} {values:List bC} {ts:List (DE×DE)}
def HH (ts:List (DE×DE)):DE:=λc M Q=>GX ts c (M++[aa (.kt [] [])]) λb M1=>M1[M.length]?=aa (aa (.kt [] []))/\∃a,ON b=aa a/\decide (a.Nodup/\a.length<=15)=ag/\Q (.loc M.length) (M1.set M.length (aa (.kt a (b.map (·.2)))))
theorem UJ(h:JP X pos keys values ts)(O:keys.all (·.isSome)=ag)(T:keys.length=values.length)(U:keys≠[])(n:keys.length<=15):JE X (.Dict keys values pos) (HH ts):=by
 obtain⟨TK,Y,p2⟩:=h.p;refine⟨λg M P Q w q=>h.mono g _ _ _ (λi M1 ⟨j,b,u,m,q⟩=>⟨j,b,u,m,w _ _ q⟩) q,PE.weak (aaT Y O T U n) λσ H Q q=>?_⟩;obtain⟨F,α,g,M,r,q⟩:=q;unfold HH at q;intro p B;obtain⟨o2,C⟩:=r.ok.enter (x:=.kt [] []) B (Bi (o:=.dK []) B) ⟨[],ip,rfl,gJ.nil⟩;refine p2 F (α++[p]) g (M++[aa (.kt [] [])]) σ _ _ (r.grow C o2) (h.mono g _ _ _ (λi M1 q c Gs H3 E G rk I=>?_) q);obtain⟨j,b,u,m,q⟩:=q;obtain⟨ev,lk⟩:=Lb i c b u rk;have v:(α++[p])[M.length]?=aa p:=by rw[<-r.ok.ml];simp
 have f:=yW E.pre v;obtain⟨a,J,ws,hq,_,L⟩:=G.own M.length (.kt [] []) j;rw[f] at J;cases J;have ez:ws=[]:=by unfold gJ at L;exact L
 subst ez;have nd:b.Nodup:=(of_decide_eq_true m).1;have N:(c.map (·.2)).length=b.length:=by rw[ai,lk]
 have em:xz [] (b.zip (c.map (·.2)))=b.zip (c.map (·.2)):=by have:=GW (b.zip (c.map (·.2))) [] (by rw[bQ,List.map_fst_zip (by omega)];exact nd);rw[this,bQ]
 have A:b.length=(i.map (·.2)).length:=by have:=gJ.length _ _ I;rw[this,N]
 obtain⟨o4,e4⟩:=G.write (y:=.kt b (i.map (·.2))) (z:=.dK (b.zip (c.map (·.2)))) j f (λHh e=>⟨c.map (·.2),ip,A,by rw[e];exact I⟩);refine⟨hq,b.zip (c.map (·.2)),ev,?_,?_⟩
 .rw[dL,N,ai5];exact(of_decide_eq_true m).2
 .rw[em];exact q (.ref p) Gs _ ((C.trans E).trans e4) o4 (by unfold Rep;exact⟨p,f,rfl⟩)
end
section
variable {X:Cx}
def EQ (_ j:Int):Prop:=0<j/\j<2^200
theorem Y8:uF X (binaryOp .FloorDiv) (rI EQ λi j=>.int (i/j)):=opI λi j _ _ _ _ _ a q=>by
 have c:(0:Int)<j:=a.1;have e:j<2^200:=a.2;refine floordiv_int (by omega) (by rw[Int.fdiv_eq_ediv_of_nonneg i (by omega)];exact q) (.inl (PyProof.noPylong_of_log2 ?_));have b:j.natAbs<2^200:=by omega
 have:=(Nat.log2_lt (by omega:j.natAbs≠0)).mpr b;omega
theorem B2:JO X .FloorDiv (gI EQ λi j=>.int (i/j)):=⟨Fy,λcq s σ H x y v u Q I c e h=>by
 obtain⟨F,α,M,f,g,o,a,b,h⟩:=h;cases f<;>cases g<;>first|exact h.elim|skip
 unfold Rep at a b;exact Y8 cq s σ H x y v u Q I c e ⟨_,_,a,b,h.1,vK.now o h.2 iU⟩⟩
end
def Wm (n m:Nat)(tb:DS):GN:=λds M Q=>l9 ds=ag/\ds.length=m/\tb ⟨λ_ _=>False,λd b=>∃k xs a,d=.tup [.loc k,a]/\b[k]?=aa (aa (.lst xs))/\l9 xs=ag/\nl a=ag/\Q (.tup [.loc M.length,a]) (M++[aa (.lst xs)]),λ_ _=>False,λ_ _=>False⟩ (rZ n ds) []
section
variable {K:bz}
theorem Y9{F α:List ak}{H:Hp}{M:Ms}{g:List ak}{f:Hp}{M2:Ms}{k:Nat}{a:ak}{xs:List D}(o:OK K F α H M)(B:Ext (lv α M++F) [] H [] g f M2)(n:OK K (lv α M++F) g f M2)(C:M2[k]?=aa (aa (.lst xs)))(ha:g[k]?=aa a)(hn:l9 xs=ag):Ext F α H M (α++[a]) f (M++[aa (.lst xs)])/\OK K F (α++[a]) f (M++[aa (.lst xs)])/\jV (jy (lv α M++F) g M2 f) (jy F (α++[a]) (M++[aa (.lst xs)]) f):=by
 have E:a∈lv g M2:=oa.mpr ⟨k,_,ha,C⟩;have u:lv (α++[a]) (M++[aa (.lst xs)])=lv α M++[a]:=by rw[uK o.ml];rfl
 have s2:jV (jy (lv α M++F) g M2 f) (jy F (α++[a]) (M++[aa (.lst xs)]) f):=λb x h=>by
  obtain⟨z,q,v⟩:=uJ h;refine mB ?_ q v;rw[u];intro w;rcases bg.mp w with w|w
  .rcases bg.mp w with w|w
   .exact z (bw _ (cb _ w))
   .rw[bS] at w;subst w;exact z (cb _ E)
  .exact z (bw _ (bw _ w))
 have s1:jV (jy F α M H) (jy (lv α M++F) g M2 f):=λb x h=>B.same b x (by show kg (lv [] []++(lv α M++F)) H b=_;exact h)
 have y:jV (jy F α M H) (jy F (α++[a]) (M++[aa (.lst xs)]) f):=λb x h=>s2 b x (s1 b x h);have fr:∀a∈lv α M++F,f a=H a:=B.fr;have al:∀a,zC (H a)≠ao->zC (f a)≠ao:=λa h=>by
  by_cases z:a∈lv α M++F
  .rw[fr a z];exact h
  .cases e:H a with
   |none=>exact absurd (by rw[e]) h
   |some x=>
    rw[e] at h;have v:zC (aa x)=aa x:=by cases x<;>first|rfl|exact absurd rfl h
    have:=il _ _ (y a x (show kg _ H a=_ from mB z e v));rw[this,v];exactλz=>by cases z
 have a2:a∈g:=aV ha;have G:a∉lv α M++F:=λw=>(n.fr a w).1 a2;have na:a∉α:=λw=>by
  have p:=o.al a w;cases e:H a with
  |none=>rw[e] at p;exact p rfl
  |some x=>
   rw[e] at p;have v:zC (aa x)=aa x:=by cases x<;>first|rfl|exact absurd rfl p
   have:=s1 a x (show kg _ H a=_ from mB G e v);exact(uJ this).1 (cb _ E)
 refine⟨⟨cc _ _,y,λa ha=>fr a (bw _ ha)⟩,⟨by rw[aE,aE,o.ml];rfl,?_,λb i=>⟨?_,al b (o.fr b i).2⟩,λb i=>?_,λj x h=>?_,n.tb⟩,s2⟩
 .rw[cO];refine⟨o.nd,by simp,λb i c I=>?_⟩;rw[bS] at I;subst I;intro e;subst e;exact na i
 .intro w;rcases bg.mp w with w|w
  .exact(o.fr b i).1 w
  .rw[bS] at w;subst w;exact G (bw _ i)
 .rcases bg.mp i with w|w
  .exact al b (o.al b w)
  .rw[bS] at w;subst w;exact n.al b a2
 .by_cases J:j<M.length
  .rw[bA J] at h;obtain⟨b,m,L⟩:=o.own j x h;refine⟨b,?_,L.mono (cc _ _) y (fr b (cb _ (oa.mpr ⟨j,x,m,h⟩)))⟩;rw[bA (by rw[o.ml];exact J)];exact m
  .have A:=(au.mp h).1;rw[aE,bO] at A;have N:j=M.length:=by omega
   subst N;rw[b8 (aM _),eW] at h;cases h;obtain⟨b,m,O,q,r⟩:=n.own k _ C;rw[ha] at m;cases m;refine⟨a,?_,O,q,gJ.mono (bd _) s2 _ _ (gJ.nl _ _ hn r)⟩;rw[b8 (by rw[o.ml];exact aM _),o.ml,eW];rfl
theorem abO{n:List ay}{ps:List ay}{X:Cx}{body:List bL}{tb:DS}(f:Ou X body tb){H:Hp}{b:List V}{Q:VK}{E:XK}(A:X.K=K)(h:jX K (Wm n.length ps.length tb) b H Q E):
  ∃t,QB X body t/\t {nx:=λ_ c=>Q .non c,rt:=Q} (L2.start n b) H:=by
 subst A;obtain⟨F,α,M,ds,o,r,hn,T,q⟩:=h;have o0:OK X.K (lv α M++F) [] H []:=⟨rfl,fS,λa ha=>⟨by simp,by
  rcases bg.mp ha with ha|ha
  .exact o.XM a ha
  .exact(o.fr a ha).2⟩,λa ha=>(by simp at ha),λk x h=>(by simp at h),o.tb⟩
 have B:gJ X.K [] (jy (lv α M++F) [] [] H) ds b:=gJ.nl ds b hn r;refine⟨_,⟨f.p⟩,lv α M++F,[],rZ n.length ds,[],L8 o0 B,?_⟩;refine f.mono _ _ _ _ ?_ q;refine⟨λU C q=>q.elim,λd C q v Y c e g r=>?_,λ_ _ q=>q.elim,λ_ _ q=>q.elim⟩;obtain⟨k,xs,i,rfl,j,nx,G,q⟩:=q;obtain⟨a,m,_⟩:=g.own k _ j;obtain⟨I,J,s2⟩:=Y9 o e g j m nx;refine q v (α++[a]) c I J ?_;unfold Rep at r |-;obtain⟨L,us,rfl,N,z⟩:=r;refine⟨L,us,rfl,nL s2 N,?_⟩;unfold gJ at z |-;obtain⟨u,us,rfl,w,O⟩:=z;refine⟨u,us,rfl,?_,?_⟩
 .unfold Rep at w |-;obtain⟨a',y,rfl⟩:=w;rw[m] at y;cases y;exact⟨a,by rw[<-o.ml,b8 (aM _),eW];rfl,rfl⟩
 .refine gJ.mono (bd _) s2 _ _ (gJ.nl [i] _ ?_ O);show(nl i&&ag)=ag;rw[G];rfl
end
theorem Za{P:ba}{w:bI}{K:bz}{mg:ay->Option ae}{cv:az}{x:ay}{st:bL}{N a:List ay}{k:Nat}{body:List bL}{scope:df}{tb:DS}(F:hG K mg x st)(b:i7 st=body)(es:iA st=scope)(S:gU N a scope)
(c:∀(kV doc pm:ae) (an:Option ak) (iC ct:ae) (us:List ae),us.length=a.length->dY (dt x x (lr st) (i7 st) (iA st) .none kV doc pm an iC ct) ⟨us,[]⟩=pure (a.zip us))
(e:∀(f:ak) (iC:ae) (A:bv) (dk:List ajk) (s:aq) (H:Hp) (E:XK),jU k (A.deeper (d7 x scope s.heap.objs.size f iC))->Ou (vC p8 P w K mg cv N x scope f iC A dk s H E).KI body tb):
  ny P w K mg cv (k+1) x a (jX K (Wm N.length a.length tb)):=
 F.aef b es S c (λg H Q E ⟨F,α,M,ds,o,r,hn,i,q⟩=>by rw[<-gJ.length _ _ r];exact i) λf iC A dk s H g Q E j h=>abO (ps:=a) (e f iC A dk s H E j) rfl h
end L3
end
namespace uG
open PySem PySem.Spec PyProof.Rows L2 L3 FJ
noncomputable def top(i:Nat):bL:=PySem.Challenge.pw_farjump_k11_runs.main.body.getD i (.Pass ⟨0,0,0,0⟩)
section
variable {P:ba} {w:bI} {K:bz} {mg:ay->Option ae} {cv:az} {k:Nat}
local macro_rules | `(tactic| walk_at "a") => `(tactic| (conv => lhs; whnf))
local macro_rules | `(tactic| walk_at "c") => `(tactic| exact ⟨rfl, rfl, rfl, by decide +kernel, rfl, by decide +kernel, by decide +kernel⟩)
theorem us1:∀{us:List ae},us.length=1->∃a,us=[a]
 |[a],_=>⟨a,rfl⟩
theorem us2{us:List ae}(h:us.length=2):∃a b,us=[a,b]:=by
 cases us with
 |nil=>nomatch h
 |cons a r=>
  obtain⟨b,q⟩:=us1 (Nat.succ.inj h);exact⟨a,b,congrArg (a::·) q⟩
theorem us3{us:List ae}(h:us.length=3):∃a b c,us=[a,b,c]:=by
 cases us with
 |nil=>nomatch h
 |cons a r=>
  obtain⟨b,c,q⟩:=us2 (Nat.succ.inj h);exact⟨a,b,c,congrArg (a::·) q⟩
theorem us4{us:List ae}(h:us.length=4):∃a b c d,us=[a,b,c,d]:=by
 cases us with
 |nil=>nomatch h
 |cons a r=>
  obtain⟨b,c,d,q⟩:=us3 (Nat.succ.inj h);exact⟨a,b,c,d,congrArg (a::·) q⟩
local macro_rules | `(tactic| walk_at "d") => `(tactic| (intro _ _ _ _ _ _ us hl; first | (obtain ⟨_, e⟩ := us1 hl; subst e; rfl) | (obtain ⟨_, _, e⟩ := us2 hl; subst e; rfl) | (obtain ⟨_, _, _, e⟩ := us3 hl; subst e; rfl) | (obtain ⟨_, _, _, _, e⟩ := us4 hl; subst e; rfl) | (obtain ⟨_, _, _, _, _, e⟩ := us5 hl; subst e; rfl) | (obtain ⟨_, _, _, _, _, _, e⟩ := us6 hl; subst e; rfl)))
abbrev BF(s:bL):={b:List bL // i7 s=b}
abbrev SF(s:bL):={b:df // iA s=b}
structure Zs(mg:ay->Option ae):Prop where
 isinstance:mg "isinstance"=ao
 int:mg "int"=ao
 bool:mg "bool"=ao
 str:mg "str"=ao
 len:mg "len"=ao
 all:mg "all"=ao
 tuple:mg "tuple"=ao
 list:mg "list"=ao
 zip:mg "zip"=ao
 set:mg "set"=ao
 sum:mg "sum"=ao
 enumerate:mg "enumerate"=ao
 sorted:mg "sorted"=ao
 dict:mg "dict"=ao
 range:mg "range"=ao
 HI:∃t,mg "LONGEST_WORD"=aa (.int 8 t)
 HJ:∃t,mg "LONGEST_LIST"=aa (.int 60 t)
 Sd:∃t,mg "LAST_BOX"=aa (.int 3 t)
 HK:∃t,mg "LEAST_NUMBER"=aa (.int (-2147483648) t)
 B3:∃t,mg "GREATEST_NUMBER"=aa (.int 2147483647 t)
 zG:∃t,mg "MOST_ROWS_OF_PART"=aa (.int 60 t)
 MX:∃t,mg "MOST_PARTS"=aa (.int 12 t)
 Ps:∃t,mg "MOST_ROWS"=aa (.int 200 t)
 MY:∃t,mg "MOST_MARKS"=aa (.int 200 t)
 Pu:∃t,mg "MOST_KEPT"=aa (.int 40 t)
variable {f:ak} {fd:cK} {jD zg vX lg pH pI nD tG pR su lD pJ mH oz:ma} {xP kC si mE BA vS y7 vT BB BC BD y9 rf vU vV mF j9 jO zf BI l5 tz zh lC nR nj ow vY mG nq rg iI tD tE tF ox Uy BL pS v0 tI qt ka tM m6 oF v7 oG pU iL jc kG mK rq v8 v9 kb pV rS lh lq:GN} {tq xQ sj uU sk xR xS iO j4 lw kE O8 qp:ak} {Bz:List (ay×D)}
theorem HL:bU "all"=aa (.builtin "all"):=by decide+kernel
theorem MZ:bU "bool"=aa (.type "bool"):=by decide+kernel
theorem abP:bU "dict"=aa (.type "dict"):=by decide+kernel
theorem M0:bU "int"=aa (.type "int"):=by decide+kernel
theorem hU:bU "isinstance"=aa (.builtin "isinstance"):=by decide+kernel
theorem jv:bU "len"=aa (.builtin "len"):=by decide+kernel
theorem oH:bU "list"=aa (.type "list"):=by decide+kernel
theorem Wn:bU "sorted"=aa (.builtin "sorted"):=by decide+kernel
theorem Se:bU "str"=aa (.type "str"):=by decide+kernel
theorem Zb:bU "sum"=aa (.builtin "sum"):=by decide+kernel
theorem qu:bU "tuple"=aa (.type "tuple"):=by decide+kernel
abbrev wa:bL:=top 12
noncomputable def Sf:BF wa:=⟨_,by walk_at "a"⟩
noncomputable def HM:SF wa:=⟨_,by walk_at "a"⟩
theorem Pw:gU ["thing"] ["thing"] HM.1:=by walk_at "c"
theorem Sg(D:hG K mg "is_whole" wa)(Z:Zs mg):ny P w K mg cv (k+1) "is_whole" ["thing"] (jX K (cl (jB 1 1 (G9 K)))):=
 jl D Sf.2 HM.2 Pw (by walk_at "d") λf iC A dk s H E a=>by have b:=ig a;exact(gH (gN (Gr (nA jI Z.isinstance hU (gC (gM 0) (gC (xh Z.int M0) gF))) (Op (acI (nA jI Z.isinstance hU (gC (gM 0) (gC (xh Z.bool MZ) gF))))))))
abbrev zo:bL:=top 13
noncomputable def Wo:BF zo:=⟨_,by walk_at "a"⟩
noncomputable def Dw:SF zo:=⟨_,by walk_at "a"⟩
theorem Sh:gU ["thing"] ["thing"] Dw.1:=by walk_at "c"
theorem Wp(D:hG K mg "is_word" zo)(Z:Zs mg):ny P w K mg cv (k+1) "is_word" ["thing"] (jX K (cl (jB 1 1 (Dn K)))):=
 jl D Wo.2 Dw.2 Sh (by walk_at "d") λf iC A dk s H E a=>by
 have b:=ig a;exact(gG (hV (mY (qc (jT (jf (nA jI Z.isinstance hU (gC (gM 0) (gC (xh Z.str Se) gF))))) (oh (jT (xD qf qf gL (nA jt Z.len jv (gC (gM 0) gF)) (pP Z.HI)))))) (gH (gN xg)) hR)
   (gH (gN (nA GO Z.all HL (gC (i5 (jC (N:=["sign"]) (fr:=[ao]) (iW.of (pb:=["thing"]) (jp:=Dw.1) (by decide+kernel)) (jg (gM 0)) iZ (λ_ _ _ _ _=>(gR 0 (show bV (["sign"]:List ay) by decide+kernel))) (λ_ _ _ _ _=>j3) (λ_ _ _ _ _=>(Bk qf qf gO (gM 0) gO)))) gF)))))
abbrev sA:bL:=i6 (top 20) 0
noncomputable def Si:BF sA:=⟨_,by walk_at "a"⟩
noncomputable def HN:SF sA:=⟨_,by walk_at "a"⟩
theorem Px:gU ["self","told"] ["self","told"] HN.1:=by walk_at "c"
theorem Sj(F:nw K "__init__" "Row.__init__" sA f fd):ke P w K mg cv p8 (k+1) f fd ["self","told"] (jX K (uf 2 2 (Ha K))):=
 Bv F Si.2 HN.2 Px λiC A dk s H E a=>by have b:=ig a;exact(gH (kU (gM 0) (gM 1)))
theorem Py(F:nw K "__init__" "Row.__init__" sA f fd):Binds K fd ["self","told"] []:=F.binds (by walk_at "d")
abbrev qv:bL:=i6 (top 20) 1
noncomputable def Pz:BF qv:=⟨_,by walk_at "a"⟩
noncomputable def yc:SF qv:=⟨_,by walk_at "a"⟩
theorem M6:gU ["self"] ["self"] yc.1:=by walk_at "c"
theorem PB(F:nw K "words" "Row.words" qv f fd)(Z:Zs mg):ke P w K mg cv p8 (k+1) f fd ["self"] (jX K (cl (jB 1 1 (EH K)))):=
 Df F Pz.2 yc.2 M6 λiC A dk s H E a=>by have b:=ig a;exact(gH (gN (j_t GQ Z.tuple qu (gC (i5 (jC (N:=["one"]) (fr:=[ao]) (iW.of (pb:=["self"]) (jp:=yc.1) (by decide+kernel)) (jg (jj (gM 0))) iZ (λ_ _ _ _ _=>(gR 0 (show bV (["one"]:List ay) by decide+kernel))) (λ_ _ _ _ _=>j3) (λ_ _ _ _ _=>(abe (jf (nA jI Z.isinstance hU (gC (gM 0) (gC (xh Z.tuple qu) gF)))) (kX (RD uN Z.list oH (gC (gM 0) gF))) (gM 0))))) gF))))
theorem M7(F:nw K "words" "Row.words" qv f fd):Binds K fd ["self"] []:=F.binds (by walk_at "d")
abbrev lR:bL:=i6 (top 20) 2
noncomputable def Fi:BF lR:=⟨_,by walk_at "a"⟩
noncomputable def wZ:SF lR:=⟨_,by walk_at "a"⟩
theorem Dx:gU ["self","places"] ["self","places"] wZ.1:=by walk_at "c"
theorem lU(F:nw K "by_places" "Row.by_places" lR f fd)(b:∀C g,jD C "words" g->iS P w K mg cv k C "words" g):ke P w K mg cv p8 (k+1) f fd ["self","places"] (jX K (cl (jB 2 2 (wX jD)))):=
 Df F Fi.2 wZ.2 Dx λiC A dk s H E a=>by have c:=ig a;exact(gH (gN (y6 b a (gM 0))))
theorem k3(F:nw K "by_places" "Row.by_places" lR f fd):Binds K fd ["self","places"] []:=F.binds (by walk_at "d")
abbrev qw:bL:=i6 (top 20) 3
noncomputable def PC:BF qw:=⟨_,by walk_at "a"⟩
noncomputable def ER:SF qw:=⟨_,by walk_at "a"⟩
theorem M8:gU ["self"] ["self"] ER.1:=by walk_at "c"
theorem qx(F:nw K "asked" "Row.asked" qw f fd):ke P w K mg cv p8 (k+1) f fd ["self"] (jX K (uf 1 1 EI)):=
 Bv F PC.2 ER.2 M8 λiC A dk s H E a=>by have b:=ig a;exact(gH (gN (kX (iM gF))))
theorem oI(F:nw K "asked" "Row.asked" qw f fd):Binds K fd ["self"] []:=F.binds (by walk_at "d")
abbrev m8:bL:=i6 (top 20) 4
noncomputable def J0:BF m8:=⟨_,by walk_at "a"⟩
noncomputable def zX:SF m8:=⟨_,by walk_at "a"⟩
theorem HP:gU ["self"] ["self"] zX.1:=by walk_at "c"
theorem uk(F:nw K "goes_on" "Row.goes_on" m8 f fd):ke P w K mg cv p8 (k+1) f fd ["self"] (jX K (cl (jB 1 1 zT))):=
 Df F J0.2 zX.2 HP λiC A dk s H E a=>by have b:=ig a;exact(gH (gN xg))
theorem sC(F:nw K "goes_on" "Row.goes_on" m8 f fd):Binds K fd ["self"] []:=F.binds (by walk_at "d")
abbrev kH:bL:=i6 (top 22) 0
noncomputable def B4:BF kH:=⟨_,by walk_at "a"⟩
noncomputable def tN:SF kH:=⟨_,by walk_at "a"⟩
theorem Az:gU ["self"] ["self"] tN.1:=by walk_at "c"
theorem l6(F:nw K "goes_on" "CodeRow.goes_on" kH f fd):ke P w K mg cv p8 (k+1) f fd ["self"] (jX K (cl (jB 1 1 tm))):=
 Df F B4.2 tN.2 Az λiC A dk s H E a=>by have b:=ig a;exact(gH (gN xg))
theorem lH(F:nw K "goes_on" "CodeRow.goes_on" kH f fd):Binds K fd ["self"] []:=F.binds (by walk_at "d")
abbrev kI:bL:=i6 (top 25) 0
noncomputable def B5:BF kI:=⟨_,by walk_at "a"⟩
noncomputable def tO:SF kI:=⟨_,by walk_at "a"⟩
theorem AA:gU ["self"] ["self"] tO.1:=by walk_at "c"
theorem B6(F:nw K "goes_on" "LastRow.goes_on" kI f fd):ke P w K mg cv p8 (k+1) f fd ["self"] (jX K (cl (jB 1 1 By))):=
 Df F B5.2 tO.2 AA λiC A dk s H E a=>by have b:=ig a;exact(gH (gN xg))
theorem AB(F:nw K "goes_on" "LastRow.goes_on" kI f fd):Binds K fd ["self"] []:=F.binds (by walk_at "d")
abbrev jP:bL:=i6 (top 27) 0
noncomputable def yd:BF jP:=⟨_,by walk_at "a"⟩
noncomputable def qy:SF jP:=⟨_,by walk_at "a"⟩
theorem jF:gU ["self","places","kind","box","one","other"] ["self","places"] qy.1:=by walk_at "c"
theorem ye(F:nw K "by_places" "AlikeRow.by_places" jP f fd):ke P w K mg cv p8 (k+1) f fd ["self","places"] (jX K (cl (jB 6 2 (ql K)))):=
 Df F yd.2 qy.2 jF λiC A dk s H E b=>by
 have a:=ig b;exact(gG (kB (jj (gM 0)) (jA (gY (gR 2 jF.nd) (gY (gR 3 jF.nd) (gY (gR 4 jF.nd) (gY (gR 5 jF.nd) iQ))))))
   (gH (gN (iD (gC (gM 2) (gC (gM 3) (gC (g8 (jx a) (gM 1) (gM 4)) (gC (g8 (jx a) (gM 1) (gM 5)) gF))))))))
theorem xk(F:nw K "by_places" "AlikeRow.by_places" jP f fd):Binds K fd ["self","places"] []:=F.binds (by walk_at "d")
abbrev k5:bL:=i6 (top 27) 1
noncomputable def Dy:BF k5:=⟨_,by walk_at "a"⟩
noncomputable def u5:SF k5:=⟨_,by walk_at "a"⟩
theorem B7:gU ["self"] ["self"] u5.1:=by walk_at "c"
theorem Dz(F:nw K "asked" "AlikeRow.asked" k5 f fd)(Z:Zs mg):ke P w K mg cv p8 (k+1) f fd ["self"] (jX K (uf 1 1 (uS K))):=
 Bv F Dy.2 u5.2 B7 λiC A dk s H E a=>by have b:=ig a;exact(gH (gN (kX (RD uN Z.list oH (gC (Vy (jj (gM 0)) (r9 gL) xJ) gF)))))
theorem B8(F:nw K "asked" "AlikeRow.asked" k5 f fd):Binds K fd ["self"] []:=F.binds (by walk_at "d")
abbrev kj:bL:=i6 (top 28) 0
noncomputable def AD:BF kj:=⟨_,by walk_at "a"⟩
noncomputable def sD:SF kj:=⟨_,by walk_at "a"⟩
theorem zH:gU ["self","places"] ["self","places"] sD.1:=by walk_at "c"
theorem sE(F:nw K "by_places" "AimRow.by_places" kj f fd):ke P w K mg cv p8 (k+1) f fd ["self","places"] (jX K (cl (jB 2 2 (sr K)))):=
 Df F AD.2 sD.2 zH λiC A dk s H E b=>by have a:=ig b;exact(gH (gN (iw iX (Vy (jj (gM 0)) xJ (r9 (K9 gL))) (iD (gC (g8 (jx a) (gM 1) (g8 (jx a) (jj (gM 0)) (K9 gL))) gF)))))
theorem qX(F:nw K "by_places" "AimRow.by_places" kj f fd):Binds K fd ["self","places"] []:=F.binds (by walk_at "d")
abbrev mj:bL:=i6 (top 28) 1
noncomputable def HQ:BF mj:=⟨_,by walk_at "a"⟩
noncomputable def yf:SF mj:=⟨_,by walk_at "a"⟩
theorem Fj:gU ["self"] ["self"] yf.1:=by walk_at "c"
theorem yg(F:nw K "asked" "AimRow.asked" mj f fd):ke P w K mg cv p8 (k+1) f fd ["self"] (jX K (uf 1 1 (xO K))):=
 Bv F HQ.2 yf.2 Fj λiC A dk s H E a=>by have b:=ig a;exact(gH (gN (kX (iM (gC (g8 (jx b) (jj (gM 0)) (K9 gL)) gF)))))
theorem w8(F:nw K "asked" "AimRow.asked" mj f fd):Binds K fd ["self"] []:=F.binds (by walk_at "d")
abbrev km:bL:=i6 (top 29) 0
noncomputable def AE:BF km:=⟨_,by walk_at "a"⟩
noncomputable def sF:SF km:=⟨_,by walk_at "a"⟩
theorem zI:gU ["self"] ["self"] sF.1:=by walk_at "c"
theorem AF(F:nw K "goes_on" "LeaveRow.goes_on" km f fd):ke P w K mg cv p8 (k+1) f fd ["self"] (jX K (cl (jB 1 1 At))):=
 Df F AE.2 sF.2 zI λiC A dk s H E a=>by have b:=ig a;exact(gH (gN xg))
theorem zJ(F:nw K "goes_on" "LeaveRow.goes_on" km f fd):Binds K fd ["self"] []:=F.binds (by walk_at "d")
abbrev jQ:bL:=i6 (top 31) 0
noncomputable def yh:BF jQ:=⟨_,by walk_at "a"⟩
noncomputable def mn:SF jQ:=⟨_,by walk_at "a"⟩
theorem xl:gU ["self","places"] ["self","places"] mn.1:=by walk_at "c"
theorem yi(F:nw K "by_places" "TableRow.by_places" jQ f fd):ke P w K mg cv p8 (k+1) f fd ["self","places"] (jX K (cl (jB 2 2 (qm K)))):=
 Df F yh.2 mn.2 xl λiC A dk s H E b=>by have a:=ig b;exact(gH (gN (iD (gC (g8 (jx a) (jj (gM 0)) gL) (gC (i5 (jC (N:=["name","places"]) (fr:=[ao,aa 1]) (iW.of (pb:=["self","places"]) (jp:=mn.1) (by decide+kernel)) (jg (g8 (jx a) (jj (gM 0)) gL)) iZ (λ_ _ _ _ _=>(gR 0 (show bV (["name","places"]:List ay) by decide+kernel))) (λ_ _ _ _ _=>j3) (λ_ _ _ _ _=>(g8 (jx a) (gM 1) (gM 0))))) gF)))))
theorem xn(F:nw K "by_places" "TableRow.by_places" jQ f fd):Binds K fd ["self","places"] []:=F.binds (by walk_at "d")
abbrev k6:bL:=i6 (top 31) 1
noncomputable def DB:BF k6:=⟨_,by walk_at "a"⟩
noncomputable def u6:SF k6:=⟨_,by walk_at "a"⟩
theorem B9:gU ["self"] ["self"] u6.1:=by walk_at "c"
theorem DC(F:nw K "asked" "TableRow.asked" k6 f fd)(Z:Zs mg):ke P w K mg cv p8 (k+1) f fd ["self"] (jX K (uf 1 1 (uT K))):=
 Bv F DB.2 u6.2 B9 λiC A dk s H E a=>by have b:=ig a;exact(gH (gN (kX (RD uN Z.list oH (gC (g8 (jx b) (jj (gM 0)) gL) gF)))))
theorem Ca(F:nw K "asked" "TableRow.asked" k6 f fd):Binds K fd ["self"] []:=F.binds (by walk_at "d")
abbrev rA:bL:=top 32
noncomputable def M9:BF rA:=⟨_,by walk_at "a"⟩
noncomputable def wb:SF rA:=⟨_,by walk_at "a"⟩
theorem J1:gU ["form","thing"] ["form","thing"] wb.1:=by walk_at "c"
theorem Na(D:hG K mg "is_list_of" rA)(Z:Zs mg)(b:ie P w K mg cv k "fits" ["form","thing"] xP):ny P w K mg cv (k+1) "is_list_of" ["form","thing"] (jX K (cl (jB 2 2 (vR K xP)))):=
 jl D M9.2 wb.2 J1 (by walk_at "d") λf iC A dk s H E a=>by
 have c:=ig a;exact(gG (hV (mY (qc (jT (jf (nA jI Z.isinstance hU (gC (gM 1) (gC (xh Z.list oH) gF))))) (oh (jT (xD qf qf gL (nA jt Z.len jv (gC (gM 1) gF)) (pP Z.HJ)))))) (gH (gN xg)) hR)
   (gH (gN (nA GO Z.all HL (gC (i5 (jC (N:=["one","form"]) (fr:=[ao,aa 0]) (iW.of (pb:=["form","thing"]) (jp:=wb.1) (by decide+kernel)) (jg (gM 1)) iZ (λ_ _ _ _ _=>(gR 0 (show bV (["one","form"]:List ay) by decide+kernel))) (λ_ _ _ _ _=>j3) (λ_ _ _ _ _=>(iP b a (gC (gM 1) (gC (gM 0) gF)))))) gF)))))
abbrev Nb:bL:=top 33
noncomputable def ae1:BF Nb:=⟨_,by walk_at "a"⟩
noncomputable def Zc:SF Nb:=⟨_,by walk_at "a"⟩
theorem abQ:gU ["form","thing"] ["form","thing"] Zc.1:=by walk_at "c"
theorem Zd(D:hG K mg "fits" Nb)(Z:Zs mg)(e:ie P w K mg cv k "is_word" ["thing"] kC)(b:ie P w K mg cv k "is_whole" ["thing"] si)(c:ie P w K mg cv k "is_list_of" ["form","thing"] mE):ny P w K mg cv (k+1) "fits" ["form","thing"] (jX K (cl (jB 2 2 (Hb K kC si mE)))):=
 jl D ae1.2 Zc.2 abQ (by walk_at "d") λf iC A dk s H E a=>by
 have g:=ig a;exact(gG (hV (gZ (iB a.units) (gM 0) gO) (gH (gN (iP e a (gC (gM 1) gF)))) hR)
   (gG (hV (gZ (iB a.units) (gM 0) gO) (gH (gN (Gr (iP b a (gC (gM 1) gF)) (Op (Bk qf qf gL (gM 1) (pP Z.Sd)))))) hR)
   (gG (hV (gZ (iB a.units) (gM 0) gO) (gH (gN (Gr (iP b a (gC (gM 1) gF)) (Op (Bk qf qf (pP Z.HK) (gM 1) (pP Z.B3)))))) hR)
   (gG (hV (gZ (iB a.units) (gM 0) gO) (gH (gN (nA jI Z.isinstance hU (gC (gM 1) (gC (xh Z.bool MZ) gF))))) hR)
   (gG (hV (gZ (iB a.units) (gM 0) gO) (gH (gN (iP c a (gC gO (gC (gM 1) gF))))) hR)
   (gH (gN (iP c a (gC gO (gC (gM 1) gF))))))))))
abbrev Cc:bL:=top 34
noncomputable def Ze:BF Cc:=⟨_,by walk_at "a"⟩
noncomputable def HS:SF Cc:=⟨_,by walk_at "a"⟩
theorem Lx:gU ["thing","forms"] ["thing"] HS.1:=by walk_at "c"
theorem Zf(D:hG K mg "is_row" Cc)(Z:Zs mg)(c:mg "FORMS"=aa (.ref tq))(e:Dg K tq Bz)(g:ie P w K mg cv k "fits" ["form","thing"] xP):ny P w K mg cv (k+1) "is_row" ["thing"] (jX K (cl (jB 2 1 (Hc K tq Bz xP)))):=
 jl D Ze.2 HS.2 Lx (by walk_at "d") λf iC A dk s H E a=>by
 have b:=ig a;exact(gG (hV (mY (qc (jT (jf (nA jI Z.isinstance hU (gC (gM 0) (gC (xh Z.tuple qu) gF))))) (oh (gZ (iB a.units) (nA jt Z.len jv (gC (gM 0) gF)) gL)))) (gH (gN xg)) hR)
   (gG (hV (mY (qc (jT (jf (nA jI Z.isinstance hU (gC (g8 (jx b) (gM 0) gL) (gC (xh Z.str Se) gF))))) (oh (gZ (OL e) (g8 (jx b) (gM 0) gL) (og c))))) (gH (gN xg)) hR)
   (gG (ib 1 Lx.nd (g8 (aex e) (og c) (g8 (jx b) (gM 0) gL)))
   (gG (hV (gZ (xI a.units) (nA jt Z.len jv (gC (gM 0) gF)) (iw iX gL (nA jt Z.len jv (gC (gM 1) gF)))) (gH (gN xg)) hR)
   (gH (gN (nA GO Z.all HL (gC (i5 (jC (N:=["form","one"]) (fr:=[ao,ao]) (iW.of (pb:=["thing","forms"]) (jp:=HS.1) (by decide+kernel)) (aes (gC (gM 1) (gC (Vy (gM 0) (r9 gL) xJ) gF)) Z.zip) (Mg (uQ iZ (uQ iZ Rq))) (λ_ _ _ _ _=>(jA (gY (gR 0 (show bV (["form","one"]:List ay) by decide+kernel)) (gY (gR 1 (show bV (["form","one"]:List ay) by decide+kernel)) iQ)))) (λ_ _ _ _ _=>j3) (λ_ _ _ _ _=>(iP g a (gC (gM 0) (gC (gM 1) gF)))))) gF))))))))
abbrev wd:bL:=top 35
noncomputable def Sm:BF wd:=⟨_,by walk_at "a"⟩
noncomputable def HU:SF wd:=⟨_,by walk_at "a"⟩
theorem ES:gU ["told","kind"] ["told"] HU.1:=by walk_at "c"
theorem Sn(D:hG K mg "code_row" wd)(c:mg "SetRow"=aa (.ref xQ))(e:md P w K mg cv k xQ BA)(g:mg "AlikeRow"=aa (.ref sj))(h:md P w K mg cv k sj vS)(i:mg "LastRow"=aa (.ref uU))(j:md P w K mg cv k uU y7)(m:mg "LeaveRow"=aa (.ref sk))(n:md P w K mg cv k sk vT)(o:mg "AimRow"=aa (.ref xR))(p:md P w K mg cv k xR BB)(q:mg "BoxRow"=aa (.ref xS))(r:md P w K mg cv k xS BC):ny P w K mg cv ((k+1)+1) "code_row" ["told"] (jX K (cl (jB 2 1 (Hd xQ BA sj vS uU y7 sk vT xR BB xS BC)))):=
 jl D Sm.2 HU.2 ES (by walk_at "d") λf iC A dk s H E a=>by
 have b:=ig a;exact(gG (ib 1 ES.nd (g8 (jx b) (gM 0) gL))
   (gG (hV (gZ (iB a.units) (gM 1) gO) (gH (gN (pQ e a c (gC (gM 0) gF)))) hR)
   (gG (hV (gZ (iB a.units) (gM 1) gO) (gH (gN (pQ h a g (gC (gM 0) gF)))) hR)
   (gG (hV (gZ (EB b) (gM 1) (iD (gC gO (gC gO gF)))) (gH (gN (pQ j a i (gC (gM 0) gF)))) hR)
   (gG (hV (gZ (EB b) (gM 1) (iD (gC gO (gC gO gF)))) (gH (gN (pQ n a m (gC (gM 0) gF)))) hR)
   (gG (hV (gZ (EB b) (gM 1) (iD (gC gO (gC gO (gC gO gF))))) (gH (gN (pQ p a o (gC (gM 0) gF)))) hR)
   (gH (gN (pQ r a q (gC (gM 0) gF))))))))))
abbrev Cd:bL:=top 36
noncomputable def Zm:BF Cd:=⟨_,by walk_at "a"⟩
noncomputable def HV:SF Cd:=⟨_,by walk_at "a"⟩
theorem Ly:gU ["thing","told"] ["thing"] HV.1:=by walk_at "c"
theorem Zn(D:hG K mg "row_of" Cd)(Z:Zs mg)(c:ie P w K mg cv (k+1) "is_row" ["thing"] BD)(e:mg "MarkRow"=aa (.ref iO))(g:md P w K mg cv k iO y9)(h:mg "NumbersRow"=aa (.ref j4))(i:md P w K mg cv k j4 rf)(j:mg "TableRow"=aa (.ref lw))(m:md P w K mg cv k lw vU)(n:ie P w K mg cv (k+1) "code_row" ["told"] vV):ny P w K mg cv ((k+1)+1) "row_of" ["thing"] (jX K (uf 2 1 (OY K BD iO y9 j4 rf lw vU vV))):=
 La D Zm.2 HV.2 Ly (by walk_at "d") λf iC A dk s H E a=>by
 have b:=ig a;exact(gG (hV (jT (jf (iP c a (gC (gM 0) gF)))) (gH (gN K4)) hR)
   (gG (ib 1 Ly.nd (j_t GQ Z.tuple qu (gC (i5 (jC (N:=["one"]) (fr:=[ao]) (iW.of (pb:=["thing","told"]) (jp:=HV.1) (by decide+kernel)) (jg (gM 0)) iZ (λ_ _ _ _ _=>(gR 0 (show bV (["one"]:List ay) by decide+kernel))) (λ_ _ _ _ _=>j3) (λ_ _ _ _ _=>(abe (jf (nA jI Z.isinstance hU (gC (gM 0) (gC (xh Z.list oH) gF)))) (j_t GQ Z.tuple qu (gC (gM 0) gF)) (gM 0))))) gF)))
   (gG (hV (gZ (iB a.units) (g8 (jx b) (gM 1) gL) gO) (gH (gN (pQ g a e (gC (gM 1) gF)))) hR)
   (gG (hV (gZ (iB a.units) (g8 (jx b) (gM 1) gL) gO) (gH (gN (pQ i a h (gC (gM 1) gF)))) hR)
   (gG (hV (gZ (iB a.units) (g8 (jx b) (gM 1) gL) gO) (gH (gN (pQ m a j (gC (gM 1) gF)))) hR)
   (gH (gN (iP n a (gC (gM 1) gF)))))))))
abbrev mM:bL:=top 42
noncomputable def DH:BF mM:=⟨_,by walk_at "a"⟩
noncomputable def u8:SF mM:=⟨_,by walk_at "a"⟩
theorem Ce:gU ["thing"] ["thing"] u8.1:=by walk_at "c"
theorem DJ(D:hG K mg "counts_as_mark" mM)(Z:Zs mg):ny P w K mg cv (k+1) "counts_as_mark" ["thing"] (jX K (cl (jB 1 1 (uV K)))):=
 jl D DH.2 u8.2 Ce (by walk_at "d") λf iC A dk s H E a=>by have b:=ig a;exact(gH (gN (Gr (nA jI Z.isinstance hU (gC (gM 0) (gC (xh Z.tuple qu) gF))) (Gr (Bj XY (nA jt Z.len jv (gC (gM 0) gF)) gL) (Gr (nA jI Z.isinstance hU (gC (g8 (jx b) (gM 0) gL) (gC (xh Z.str Se) gF))) (Op (Bj (iB a.units) (g8 (jx b) (gM 0) gL) gO)))))))
abbrev pW:bL:=top 43
noncomputable def J2:BF pW:=⟨_,by walk_at "a"⟩
noncomputable def ul:SF pW:=⟨_,by walk_at "a"⟩
theorem HW:gU ["things"] ["things"] ul.1:=by walk_at "c"
theorem J3(D:hG K mg "marks_among" pW)(Z:Zs mg)(b:ie P w K mg cv k "counts_as_mark" ["thing"] mF):ny P w K mg cv (k+1) "marks_among" ["things"] (jX K (cl (jB 1 1 (zU mF)))):=
 jl D J2.2 ul.2 HW (by walk_at "d") λf iC A dk s H E a=>by have c:=ig a;exact(gH (gN (nA jt Z.len jv (gC (i5 (jC (N:=["thing"]) (fr:=[ao]) (iW.of (pb:=["things"]) (jp:=ul.1) (by decide+kernel)) (jg (gM 0)) iZ (λ_ _ _ _ _=>(gR 0 (show bV (["thing"]:List ay) by decide+kernel))) (λ_ _ _ _ _=>(Bo (jf (iP b a (gC (gM 0) gF))))) (λ_ _ _ _ _=>(gM 0)))) gF))))
abbrev oJ:bL:=top 44
noncomputable def HX:BF oJ:=⟨_,by walk_at "a"⟩
noncomputable def yj:SF oJ:=⟨_,by walk_at "a"⟩
theorem Fk:gU ["things"] ["things"] yj.1:=by walk_at "c"
theorem HY(D:hG K mg "others_among" oJ)(Z:Zs mg)(b:ie P w K mg cv k "marks_among" ["things"] j9):ny P w K mg cv (k+1) "others_among" ["things"] (jX K (cl (jB 1 1 (xT j9)))):=
 jl D HX.2 yj.2 Fk (by walk_at "d") λf iC A dk s H E a=>by have c:=ig a;exact(gH (gN (iw Dc (nA jt Z.len jv (gC (gM 0) gF)) (iP b a (gC (gM 0) gF)))))
abbrev zp:bL:=top 45
noncomputable def Wt:BF zp:=⟨_,by walk_at "a"⟩
noncomputable def Lz:SF zp:=⟨_,by walk_at "a"⟩
theorem Sw:gU ["thing"] ["thing"] Lz.1:=by walk_at "c"
theorem Wu(D:hG K mg "is_part" zp)(Z:Zs mg)(c:ie P w K mg cv k "is_word" ["thing"] kC)(e:ie P w K mg cv k "others_among" ["things"] jO):ny P w K mg cv (k+1) "is_part" ["thing"] (jX K (cl (jB 1 1 (Lk K kC jO)))):=
 jl D Wt.2 Lz.2 Sw (by walk_at "d") λf iC A dk s H E a=>by
 have b:=ig a;exact(gG (hV (mY (qc (jT (jf (nA jI Z.isinstance hU (gC (gM 0) (gC (xh Z.tuple qu) gF))))) (oh (gZ (xI a.units) (nA jt Z.len jv (gC (gM 0) gF)) gL)))) (gH (gN xg)) hR)
   (gG (hV (mY (qc (jT (jf (iP c a (gC (g8 (jx b) (gM 0) gL) gF)))) (oh (jT (jf (nA jI Z.isinstance hU (gC (g8 (jx b) (gM 0) gL) (gC (xh Z.list oH) gF)))))))) (gH (gN xg)) hR)
   (gH (gN (Bk qf qf gL (iP e a (gC (g8 (jx b) (gM 0) gL) gF)) (pP Z.zG))))))
abbrev tQ:bL:=top 46
noncomputable def PF:BF tQ:=⟨_,by walk_at "a"⟩
noncomputable def nU:SF tQ:=⟨_,by walk_at "a"⟩
theorem Nd:gU ["thing"] ["thing"] nU.1:=by walk_at "c"
theorem PH(D:hG K mg "are_parts" tQ)(Z:Zs mg)(e:ie P w K mg cv k "is_part" ["thing"] zf)(g:ie P w K mg cv k "others_among" ["things"] jO)(h:ie P w K mg cv k "marks_among" ["things"] j9):ny P w K mg cv (k+1) "are_parts" ["thing"] (jX K (cl (jB 1 1 (EK K zf jO j9)))):=
 jl D PF.2 nU.2 Nd (by walk_at "d") λf iC A dk s H E a=>by
 have b:=ig a;exact(gG (hV (mY (qc (jT (jf (nA jI Z.isinstance hU (gC (gM 0) (gC (xh Z.list oH) gF))))) (oh (jT (xD qf qf gL (nA jt Z.len jv (gC (gM 0) gF)) (pP Z.MX)))))) (gH (gN xg)) hR)
   (gG (hV (jT (jf (nA GO Z.all HL (gC (i5 (jC (N:=["part"]) (fr:=[ao]) (iW.of (pb:=["thing"]) (jp:=nU.1) (by decide+kernel)) (jg (gM 0)) iZ (λ_ _ _ _ _=>(gR 0 (show bV (["part"]:List ay) by decide+kernel))) (λ_ _ _ _ _=>j3) (λ_ _ _ _ _=>(iP e a (gC (gM 0) gF))))) gF)))) (gH (gN xg)) hR)
   (gG (hV (gZ (xI a.units) (Yp a.hd Z.len Z.set (i5 (jC (N:=["part"]) (fr:=[ao]) (iW.of (pb:=["thing"]) (jp:=nU.1) (by decide+kernel)) (jg (gM 0)) iZ (λ_ _ _ _ _=>(gR 0 (show bV (["part"]:List ay) by decide+kernel))) (λ_ _ _ _ _=>j3) (λ_ _ _ _ _=>(g8 (jx b) (gM 0) gL))))) (nA jt Z.len jv (gC (gM 0) gF))) (gH (gN xg)) hR)
   (gG (hV (gZ XY (nA YB Z.sum Zb (gC (i5 (jC (N:=["part"]) (fr:=[ao]) (iW.of (pb:=["thing"]) (jp:=nU.1) (by decide+kernel)) (jg (gM 0)) iZ (λ_ _ _ _ _=>(gR 0 (show bV (["part"]:List ay) by decide+kernel))) (λ_ _ _ _ _=>j3) (λ_ _ _ _ _=>(iP g a (gC (g8 (jx b) (gM 0) gL) gF))))) gF)) (pP Z.Ps)) (gH (gN xg)) hR)
   (gH (gN (Bj qf (nA YB Z.sum Zb (gC (i5 (jC (N:=["part"]) (fr:=[ao]) (iW.of (pb:=["thing"]) (jp:=nU.1) (by decide+kernel)) (jg (gM 0)) iZ (λ_ _ _ _ _=>(gR 0 (show bV (["part"]:List ay) by decide+kernel))) (λ_ _ _ _ _=>j3) (λ_ _ _ _ _=>(iP h a (gC (g8 (jx b) (gM 0) gL) gF))))) gF)) (pP Z.MY))))))))
abbrev zr:bL:=top 47
noncomputable def Ww:BF zr:=⟨_,by walk_at "a"⟩
noncomputable def LA:SF zr:=⟨_,by walk_at "a"⟩
theorem sH:gU ["name","things","rows","number","thing","row"] ["name","things"] LA.1:=by walk_at "c"
theorem Wx(D:hG K mg "rows_of" zr)(Z:Zs mg)(b:ie P w K mg cv k "row_of" ["thing"] BI):ny P w K mg cv (k+1) "rows_of" ["name","things"] (jX K (cl (jB 6 2 (Ll BI)))):=
 jl D Ww.2 LA.2 sH (by walk_at "d") λf iC A dk s H E a=>by
 have c:=ig a;exact(gG (ib 2 sH.nd (kX (iM gF)))
   (gG (kh (tj (gC (gM 1) gF) Z.enumerate) (jA (gY (gR 3 sH.nd) (gY (gR 4 sH.nd) iQ))) (gG (ib 5 sH.nd (iP b a (gC (gM 4) gF)))
   (gG (hV (gZ acJ (gM 5) K4) (gH oi) hR)
   (gH (jn (uO jk af bb aF (gM 2) (gC (gM 5) gF)))))))
   (gH (gN (gM 2)))))
abbrev l7:bL:=top 48
noncomputable def Cf:BF l7:=⟨_,by walk_at "a"⟩
noncomputable def tR:SF l7:=⟨_,by walk_at "a"⟩
theorem sI:gU ["rows","row"] ["rows"] tR.1:=by walk_at "c"
theorem Cg(D:hG K mg "first_but_marks" l7)(Z:Zs mg)(a:mg "MarkRow"=aa (.ref iO)):ny P w K mg cv (k+1) "first_but_marks" ["rows"] (jX K (cl (jB 2 1 (ou K iO)))):=
 jl D Cf.2 tR.2 sI (by walk_at "d") λf iC A dk s H E b=>by
 have c:=ig b;exact(gG (kh (jg (gM 0)) (gR 1 sI.nd) (gH (hV (jT (jf (nA jI Z.isinstance hU (gC (gM 1) (gC (og a) gF))))) (gH (gN (gM 1))) hR)))
   (gH (gN K4)))
abbrev lJ:bL:=top 49
noncomputable def AH:BF lJ:=⟨_,by walk_at "a"⟩
noncomputable def sJ:SF lJ:=⟨_,by walk_at "a"⟩
theorem kW:gU ["name","rows","number","row","behind"] ["name","rows"] sJ.1:=by walk_at "c"
theorem AI(D:hG K mg "look_behind_rows" lJ)(Z:Zs mg)(b:ie P w K mg cv k "first_but_marks" ["rows"] l5)(c:∀C g,zg C "goes_on" g->iS P w K mg cv k C "goes_on" g)(e:mg "CodeRow"=aa (.ref kE))(h:mg "MarkRow"=aa (.ref iO)):ny P w K mg cv (k+1) "look_behind_rows" ["name","rows"] (jX K (cl (jB 5 2 (nC K l5 zg kE iO)))):=
 jl D AH.2 sJ.2 kW (by walk_at "d") λf iC A dk s H E a=>by
 have i:=ig a;exact(gH (kh (tj (gC (gM 1) gF) Z.enumerate) (jA (gY (gR 2 kW.nd) (gY (gR 3 kW.nd) iQ))) (gG (ib 4 kW.nd (iP b a (gC (Vy (gM 1) (r9 (iw iX (gM 2) gL)) xJ) gF)))
   (gG (hV (mY (xC (jf (y6 c a (gM 3))) (vI (jT (jf (nA jI Z.isinstance hU (gC (gM 4) (gC (og e) gF)))))))) (gH oi) hR)
   (gH (hV (mY (xC (jf (nA jI Z.isinstance hU (gC (gM 3) (gC (og h) gF)))) (vI (gZ acJ (gM 4) K4)))) (gH oi) hR))))))
abbrev tS:bL:=top 50
noncomputable def PJ:BF tS:=⟨_,by walk_at "a"⟩
noncomputable def yk:SF tS:=⟨_,by walk_at "a"⟩
theorem rB:gU ["parts","told","name","rows"] ["parts"] yk.1:=by walk_at "c"
theorem PK(D:hG K mg "looked_at" tS)(c:ie P w K mg cv k "are_parts" ["thing"] tz)(e:ie P w K mg cv k "rows_of" ["name","things"] zh)(g:ie P w K mg cv k "look_behind_rows" ["name","rows"] lC):ny P w K mg cv (k+1) "looked_at" ["parts"] (jX K (cl (jB 4 1 (EL tz zh lC)))):=
 jl D PJ.2 yk.2 rB (by walk_at "d") λf iC A dk s H E a=>by
 have b:=ig a;exact(gG (hV (jT (jf (iP c a (gC (gM 0) gF)))) (gH oi) hR)
   (gG (GA 1 rB.nd (N:=["part"]) (fr:=[ao]) (iW.of (pb:=["parts","told","name","rows"]) (jp:=yk.1) (by decide+kernel)) (jg (gM 0)) iZ (λ_ _ _ _ _=>(gR 0 (show bV (["part"]:List ay) by decide+kernel))) (λ_ _ _ _ _=>j3) (λ_ _ _ _ _=>(iD (gC (g8 (jx b) (gM 0) gL) (gC (iP e a (gC (g8 (jx b) (gM 0) gL) (gC (g8 (jx b) (gM 0) gL) gF))) gF)))))
   (gG (kh (jg (gM 1)) (jA (gY (gR 2 rB.nd) (gY (gR 3 rB.nd) iQ))) (gH (jn (iP g a (gC (gM 2) (gC (gM 3) gF))))))
   (gH (gN (gM 1))))))
abbrev zt:bL:=top 52
noncomputable def Wz:BF zt:=⟨_,by walk_at "a"⟩
noncomputable def LB:SF zt:=⟨_,by walk_at "a"⟩
theorem Sy:gU ["parts"] ["parts"] LB.1:=by walk_at "c"
theorem WA(D:hG K mg "by_name" zt)(b:G8 K mg cv)(Z:Zs mg):ny P w K mg cv ((k+4)+1) "by_name" ["parts"] (jX K (cl (jB 1 1 Lm))):=
 agG D b Wz.2 LB.2 Sy (by walk_at "d") λf iC A dk s H E c a=>by have e:=ig a;exact(gH (gN (i5 (YA (k:=k) (aiw c) a Z.sorted (gM 0) ⟨rfl,rfl,rfl,by decide+kernel,rfl,by decide+kernel,by decide+kernel⟩))))
abbrev nr:bL:=top 53
noncomputable def Fl:BF nr:=⟨_,by walk_at "a"⟩
noncomputable def w9:SF nr:=⟨_,by walk_at "a"⟩
theorem jJ:gU ["part","rows","marks","number","row","name","strong"] ["part","rows"] w9.1:=by walk_at "c"
theorem Fm(D:hG K mg "marks_of_part" nr)(Z:Zs mg)(e:mg "MarkRow"=aa (.ref iO))(h:∀C g,jD C "words" g->iS P w K mg cv k C "words" g):ny P w K mg cv (k+1) "marks_of_part" ["part","rows"] (jX K (cl (jB 7 2 (qL K iO jD)))):=
 jl D Fl.2 w9.2 jJ (by walk_at "d") λf iC A dk s H E c=>by
 have i:=ig c;exact(gG (ib 2 jJ.nd (kX (iM gF)))
   (gG (ib 3 jJ.nd gL)
   (gG (kh (jg (gM 1)) (gR 4 jJ.nd) (gH (hV (jf (nA jI Z.isinstance hU (gC (gM 4) (gC (og e) gF)))) (gG (kB (Vy (y6 h c (gM 4)) (r9 gL) xJ) (jA (gY (gR 5 jJ.nd) (gY (gR 6 jJ.nd) iQ))))
   (gH (jn (uO jk af bb aF (gM 2) (gC (iD (gC (gM 5) (gC (gM 6) (gC (iD (gC (gM 0) (gC (gM 3) gF))) gF)))) gF))))) (gH (abq (f:=λa b=>a+b) 3 jJ.nd gL Ye)))))
   (gH (gN (gM 2))))))
abbrev wj:bL:=top 54
noncomputable def Sz:BF wj:=⟨_,by walk_at "a"⟩
noncomputable def HZ:SF wj:=⟨_,by walk_at "a"⟩
theorem tT:gU ["told","marks","part","rows"] ["told"] HZ.1:=by walk_at "c"
theorem SA(D:hG K mg "marks_in" wj)(b:ie P w K mg cv k "by_name" ["parts"] nR)(c:ie P w K mg cv k "marks_of_part" ["part","rows"] nj):ny P w K mg cv (k+1) "marks_in" ["told"] (jX K (cl (jB 4 1 (Hk nR nj)))):=
 jl D Sz.2 HZ.2 tT (by walk_at "d") λf iC A dk s H E a=>by
 have e:=ig a;exact(gG (ib 1 tT.nd (kX (iM gF)))
   (gG (kh (jg (iP b a (gC (gM 0) gF))) (jA (gY (gR 2 tT.nd) (gY (gR 3 tT.nd) iQ))) (gH (jn (uO VA af PySem.F.slot_list_extend PySem.F.type_list_extend (gM 1) (gC (iP c a (gC (gM 2) (gC (gM 3) gF))) gF)))))
   (gH (gN (gM 1)))))
abbrev oK:bL:=top 55
noncomputable def Ia:BF oK:=⟨_,by walk_at "a"⟩
noncomputable def yl:SF oK:=⟨_,by walk_at "a"⟩
theorem lV:gU ["marks","parts","name","strong","place"] ["marks"] yl.1:=by walk_at "c"
theorem Ib(D:hG K mg "strong_parts" oK):ny P w K mg cv (k+1) "strong_parts" ["marks"] (jX K (uf 5 1 xU)):=
 La D Ia.2 yl.2 lV (by walk_at "d") λf iC A dk s H E a=>by
 have b:=ig a;exact(gG (ib 1 lV.nd (kX Bm))
   (gG (kh (jg (gM 0)) (jA (gY (gR 2 lV.nd) (gY (gR 3 lV.nd) (gY (gR 4 lV.nd) iQ)))) (gH (hV (jf (gM 3)) (gH (jn (uO jk af bb aF (uO VR PySem.F.plainAttrs_dict PySem.F.slot_dict_setdefault PySem.F.type_dict_setdefault (gM 1) (gC (gM 2) (gC (kX (iM gF)) gF))) (gC (g8 (jx b) (gM 4) gL) gF)))) hR)))
   (gH (gN (gM 1)))))
abbrev mN:bL:=top 56
noncomputable def DN:BF mN:=⟨_,by walk_at "a"⟩
noncomputable def vf:SF mN:=⟨_,by walk_at "a"⟩
theorem oM:gU ["marks","parts","name"] ["marks"] vf.1:=by walk_at "c"
theorem DP(D:hG K mg "look_for_twice" mN)(Z:Zs mg)(b:ie P w K mg cv k "strong_parts" ["marks"] ow):ny P w K mg cv (k+1) "look_for_twice" ["marks"] (jX K (cl (jB 3 1 (uW ow)))):=
 jl D DN.2 vf.2 oM (by walk_at "d") λf iC A dk s H E a=>by
 have c:=ig a;exact(gG (ib 1 oM.nd (iP b a (gC (gM 0) gF)))
   (gH (kh (jg (i5 (ais (RK a.hd) Z.sorted Wn (gC (gM 1) gF)))) (gR 2 oM.nd) (gH (hV (gZ XY (nA jt Z.len jv (gC (g8 (jx c) (gM 1) (gM 2)) gF)) gL) (gH oi) hR)))))
abbrev tU:bL:=top 57
noncomputable def PM:BF tU:=⟨_,by walk_at "a"⟩
noncomputable def ET:SF tU:=⟨_,by walk_at "a"⟩
theorem mO:gU ["told","marks","places","name","strong","place"] ["told"] ET.1:=by walk_at "c"
theorem PN(D:hG K mg "places_in" tU)(c:ie P w K mg cv k "marks_in" ["told"] vY)(e:ie P w K mg cv k "look_for_twice" ["marks"] mG):ny P w K mg cv (k+1) "places_in" ["told"] (jX K (cl (jB 6 1 (EM vY mG)))):=
 jl D PM.2 ET.2 mO (by walk_at "d") λf iC A dk s H E a=>by
 have b:=ig a;exact(gG (ib 1 mO.nd (iP c a (gC (gM 0) gF)))
   (gG (jn (iP e a (gC (gM 1) gF)))
   (gG (ib 2 mO.nd (kX Bm))
   (gG (kh (jg (gM 1)) (jA (gY (gR 3 mO.nd) (gY (gR 4 mO.nd) (gY (gR 5 mO.nd) iQ)))) (gH (hV (mY (qc (jf (gM 4)) (oh (gZ (uM b) (gM 3) (gM 2))))) (gH (FC b (gM 2) (gM 3) (gM 5))) hR)))
   (gH (gN (gM 2)))))))
abbrev nu:bL:=top 58
noncomputable def Fo:BF nu:=⟨_,by walk_at "a"⟩
noncomputable def qP:SF nu:=⟨_,by walk_at "a"⟩
theorem DR:gU ["rows"] ["rows"] qP.1:=by walk_at "c"
theorem Fp(D:hG K mg "without_marks" nu)(Z:Zs mg)(a:mg "MarkRow"=aa (.ref iO)):ny P w K mg cv (k+1) "without_marks" ["rows"] (jX K (cl (jB 1 1 (qN K iO)))):=
 jl D Fo.2 qP.2 DR (by walk_at "d") λf iC A dk s H E b=>by have c:=ig b;exact(gH (gN (i5 (jC (N:=["row"]) (fr:=[ao]) (iW.of (pb:=["rows"]) (jp:=qP.1) (by decide+kernel)) (jg (gM 0)) iZ (λ_ _ _ _ _=>(gR 0 (show bV (["row"]:List ay) by decide+kernel))) (λ_ _ _ _ _=>(Bo (jT (jf (nA jI Z.isinstance hU (gC (gM 0) (gC (og a) gF))))))) (λ_ _ _ _ _=>(gM 0))))))
abbrev tV:bL:=top 59
noncomputable def PP:BF tV:=⟨_,by walk_at "a"⟩
noncomputable def ym:SF tV:=⟨_,by walk_at "a"⟩
theorem Nf:gU ["told"] ["told"] ym.1:=by walk_at "c"
theorem PQ(D:hG K mg "bare_rows" tV)(Z:Zs mg)(b:ie P w K mg cv k "by_name" ["parts"] nR)(c:ie P w K mg cv k "without_marks" ["rows"] nq):ny P w K mg cv (k+1) "bare_rows" ["told"] (jX K (cl (jB 1 1 (EN nR nq)))):=
 jl D PP.2 ym.2 Nf (by walk_at "d") λf iC A dk s H E a=>by have e:=ig a;exact(gH (gN (i5 (RD (Yt a.hd) Z.dict abP (gC (i5 (jC (N:=["part","rows"]) (fr:=[ao,ao]) (iW.of (pb:=["told"]) (jp:=ym.1) (by decide+kernel)) (jg (iP b a (gC (gM 0) gF))) (Mg (uQ iZ (uQ iZ Rq))) (λ_ _ _ _ _=>(jA (gY (gR 0 (show bV (["part","rows"]:List ay) by decide+kernel)) (gY (gR 1 (show bV (["part","rows"]:List ay) by decide+kernel)) iQ)))) (λ_ _ _ _ _=>j3) (λ_ _ _ _ _=>(iD (gC (gM 0) (gC (iP c a (gC (gM 1) gF)) gF)))))) gF)))))
abbrev wm:bL:=top 60
noncomputable def SE:BF wm:=⟨_,by walk_at "a"⟩
noncomputable def Ie:SF wm:=⟨_,by walk_at "a"⟩
theorem PR:gU ["lists","place"] ["lists","place"] Ie.1:=by walk_at "c"
theorem SG(D:hG K mg "at_place" wm):ny P w K mg cv (k+1) "at_place" ["lists","place"] (jX K (cl (jB 2 2 Hl))):=
 jl D SE.2 Ie.2 PR (by walk_at "d") λf iC A dk s H E b=>by have a:=ig b;exact(gH (gN (g8 (jx a) (g8 (jx a) (gM 0) (g8 (jx a) (gM 1) gL)) (g8 (jx a) (gM 1) gL))))
abbrev rC:bL:=top 61
noncomputable def Ng:BF rC:=⟨_,by walk_at "a"⟩
noncomputable def Ci:SF rC:=⟨_,by walk_at "a"⟩
theorem zY:gU ["row","aim","kind"] ["row","aim"] Ci.1:=by walk_at "c"
theorem Nh(D:hG K mg "may_aim_at" rC)(Z:Zs mg)(b:∀C g,jD C "words" g->iS P w K mg cv k C "words" g)(c:mg "NumbersRow"=aa (.ref j4))(e:mg "TableRow"=aa (.ref lw))(h:mg "CodeRow"=aa (.ref kE)):ny P w K mg cv (k+1) "may_aim_at" ["row","aim"] (jX K (cl (jB 3 2 (vZ K jD j4 lw kE)))):=
 jl D Ng.2 Ci.2 zY (by walk_at "d") λf iC A dk s H E a=>by
 have i:=ig a;exact(gG (ib 2 zY.nd (g8 (jx i) (y6 b a (gM 0)) gL))
   (gG (hV (gZ (iB a.units) (gM 2) gO) (gH (gN xg)) hR)
   (gG (hV (gZ (iB a.units) (gM 2) gO) (gH (gN (nA jI Z.isinstance hU (gC (gM 1) (gC (og c) gF))))) hR)
   (gG (hV (gZ (iB a.units) (gM 2) gO) (gH (gN (nA jI Z.isinstance hU (gC (gM 1) (gC (og e) gF))))) hR)
   (gH (gN (nA jI Z.isinstance hU (gC (gM 1) (gC (og h) gF)))))))))
abbrev oN:bL:=top 62
noncomputable def Ig:BF oN:=⟨_,by walk_at "a"⟩
noncomputable def yn:SF oN:=⟨_,by walk_at "a"⟩
theorem nv:gU ["part","bare","places","number","row","name"] ["part","bare","places"] yn.1:=by walk_at "c"
theorem Ih(D:hG K mg "look_at_aims" oN)(Z:Zs mg)(c:∀C g,vX C "asked" g->iS P w K mg cv k C "asked" g)(e:ie P w K mg cv k "may_aim_at" ["row","aim"] rg)(h:ie P w K mg cv k "at_place" ["lists","place"] iI):ny P w K mg cv (k+1) "look_at_aims" ["part","bare","places"] (jX K (cl (jB 6 3 (xV vX rg iI)))):=
 jl D Ig.2 yn.2 nv (by walk_at "d") λf iC A dk s H E a=>by
 have b:=ig a;exact(gH (kh (tj (gC (g8 (jx b) (gM 1) (gM 0)) gF) Z.enumerate) (jA (gY (gR 3 nv.nd) (gY (gR 4 nv.nd) iQ))) (gH (kh (jg (y6 c a (gM 4))) (gR 5 nv.nd) (gG (hV (gZ (uM b) (gM 5) (gM 2)) (gH oi) hR)
   (gH (hV (jT (jf (iP e a (gC (gM 4) (gC (iP h a (gC (gM 1) (gC (g8 (jx b) (gM 2) (gM 5)) gF))) gF))))) (gH oi) hR)))))))
abbrev Cj:bL:=top 63
noncomputable def Zr:BF Cj:=⟨_,by walk_at "a"⟩
noncomputable def PU:SF Cj:=⟨_,by walk_at "a"⟩
theorem rT:gU ["parts","told","places","bare","part","rows"] ["parts"] PU.1:=by walk_at "c"
theorem Zt(D:hG K mg "let_by" Cj)(b:ie P w K mg cv k "looked_at" ["parts"] tD)(c:ie P w K mg cv k "places_in" ["told"] tE)(e:ie P w K mg cv k "bare_rows" ["told"] tF)(g:ie P w K mg cv k "look_at_aims" ["part","bare","places"] ox):ny P w K mg cv (k+1) "let_by" ["parts"] (jX K (cl (jB 6 1 (O7 tD tE tF ox)))):=
 jl D Zr.2 PU.2 rT (by walk_at "d") λf iC A dk s H E a=>by
 have h:=ig a;exact(gG (ib 1 rT.nd (iP b a (gC (gM 0) gF)))
   (gG (ib 2 rT.nd (iP c a (gC (gM 1) gF)))
   (gG (ib 3 rT.nd (iP e a (gC (gM 1) gF)))
   (gG (kh (jg (gM 1)) (jA (gY (gR 4 rT.nd) (gY (gR 5 rT.nd) iQ))) (gH (jn (iP g a (gC (gM 4) (gC (gM 3) (gC (gM 2) gF)))))))
   (gH (gN (iD (gC (gM 3) (gC (gM 2) gF)))))))))
abbrev pX:bL:=top 64
noncomputable def J4:BF pX:=⟨_,by walk_at "a"⟩
noncomputable def zZ:SF pX:=⟨_,by walk_at "a"⟩
theorem Ij:gU ["bare","places","start"] ["bare","places","start"] zZ.1:=by walk_at "c"
theorem J5(D:hG K mg "start_place" pX)(Z:Zs mg)(c:ie P w K mg cv k "is_word" ["thing"] kC)(e:mg "CodeRow"=aa (.ref kE))(g:ie P w K mg cv k "at_place" ["lists","place"] iI):ny P w K mg cv (k+1) "start_place" ["bare","places","start"] (jX K (cl (jB 3 3 (uh K kC kE iI)))):=
 jl D J4.2 zZ.2 Ij (by walk_at "d") λf iC A dk s H E a=>by
 have b:=ig a;exact(gG (hV (mY (qc (jT (jf (iP c a (gC (gM 2) gF)))) (oh (gZ (uM b) (gM 2) (gM 1))))) (gH oi) hR)
   (gG (hV (jT (jf (nA jI Z.isinstance hU (gC (iP g a (gC (gM 0) (gC (g8 (jx b) (gM 1) (gM 2)) gF))) (gC (og e) gF))))) (gH oi) hR)
   (gH (gN (g8 (jx b) (gM 1) (gM 2))))))
abbrev k7:bL:=i6 (top 67) 0
noncomputable def DU:BF k7:=⟨_,by walk_at "a"⟩
noncomputable def vg:SF k7:=⟨_,by walk_at "a"⟩
theorem Ck:gU ["self","bare","places"] ["self","bare","places"] vg.1:=by walk_at "c"
theorem DV(F:nw K "__init__" "NamedRows.__init__" k7 f fd):ke P w K mg cv p8 (k+1) f fd ["self","bare","places"] (jX K (uf 3 3 (uX K))):=
 Bv F DU.2 vg.2 Ck λiC A dk s H E a=>by
 have b:=ig a;exact(gG (kU (gM 0) (gM 1))
   (gH (kU (gM 0) (gM 2))))
theorem Cm(F:nw K "__init__" "NamedRows.__init__" k7 f fd):Binds K fd ["self","bare","places"] []:=F.binds (by walk_at "d")
abbrev j0:bL:=i6 (top 67) 1
noncomputable def zK:BF j0:=⟨_,by walk_at "a"⟩
noncomputable def qY:SF j0:=⟨_,by walk_at "a"⟩
theorem mo:gU ["self","place","part","number"] ["self","place"] qY.1:=by walk_at "c"
theorem zL(F:nw K "code_at" "NamedRows.code_at" j0 f fd)(b:ie P w K mg cv k "at_place" ["lists","place"] iI)(c:∀C g,lg C "by_places" g->iS P w K mg cv k C "by_places" g):ke P w K mg cv p8 (k+1) f fd ["self","place"] (jX K (cl (jB 4 2 (qW K iI lg)))):=
 Df F zK.2 qY.2 mo λiC A dk s H E a=>by
 have e:=ig a;exact(gG (kB (gM 1) (jA (gY (gR 2 mo.nd) (gY (gR 3 mo.nd) iQ))))
   (gH (gN (iD (gC (qK c a (iP b a (gC (jj (gM 0)) (gC (gM 1) gF))) (gC (jj (gM 0)) gF)) (gC (iD (gC (gM 2) (gC (iw iX (gM 3) gL) gF))) gF))))))
theorem yo(F:nw K "code_at" "NamedRows.code_at" j0 f fd):Binds K fd ["self","place"] []:=F.binds (by walk_at "d")
abbrev jw:bL:=i6 (top 67) 2
noncomputable def wq:BF jw:=⟨_,by walk_at "a"⟩
noncomputable def oO:SF jw:=⟨_,by walk_at "a"⟩
theorem vh:gU ["self","place"] ["self","place"] oO.1:=by walk_at "c"
theorem wu(F:nw K "numbers_at" "NamedRows.numbers_at" jw f fd)(b:ie P w K mg cv k "at_place" ["lists","place"] iI)(c:∀C g,jD C "words" g->iS P w K mg cv k C "words" g):ke P w K mg cv p8 (k+1) f fd ["self","place"] (jX K (cl (jB 2 2 (oy K iI jD)))):=
 Df F wq.2 oO.2 vh λiC A dk s H E a=>by have e:=ig a;exact(gH (gN (g8 (jx e) (y6 c a (iP b a (gC (jj (gM 0)) (gC (gM 1) gF)))) gL)))
theorem vi(F:nw K "numbers_at" "NamedRows.numbers_at" jw f fd):Binds K fd ["self","place"] []:=F.binds (by walk_at "d")
abbrev jR:bL:=i6 (top 67) 3
noncomputable def yp:BF jR:=⟨_,by walk_at "a"⟩
noncomputable def qz:SF jR:=⟨_,by walk_at "a"⟩
theorem xp:gU ["self","place"] ["self","place"] qz.1:=by walk_at "c"
theorem yq(F:nw K "table_at" "NamedRows.table_at" jR f fd)(b:ie P w K mg cv k "at_place" ["lists","place"] iI)(c:∀C g,lg C "by_places" g->iS P w K mg cv k C "by_places" g):ke P w K mg cv p8 (k+1) f fd ["self","place"] (jX K (cl (jB 2 2 (qo K iI lg)))):=
 Df F yp.2 qz.2 xp λiC A dk s H E a=>by have e:=ig a;exact(gH (gN (g8 (jx e) (qK c a (iP b a (gC (jj (gM 0)) (gC (gM 1) gF))) (gC (jj (gM 0)) gF)) gL)))
theorem xq(F:nw K "table_at" "NamedRows.table_at" jR f fd):Binds K fd ["self","place"] []:=F.binds (by walk_at "d")
abbrev sL:bL:=i6 (top 68) 0
noncomputable def SH:BF sL:=⟨_,by walk_at "a"⟩
noncomputable def Ik:SF sL:=⟨_,by walk_at "a"⟩
theorem PZ:gU ["self","store","inputs"] ["self","store","inputs"] Ik.1:=by walk_at "c"
theorem SI(F:nw K "__init__" "Run.__init__" sL f fd):ke P w K mg cv p8 (k+1) f fd ["self","store","inputs"] (jX K (uf 3 3 (Hm K))):=
 Bv F SH.2 Ik.2 PZ λiC A dk s H E a=>by
 have b:=ig a;exact(gG (kU (gM 0) (gM 1))
   (gG (kU (gM 0) (gM 2))
   (gG (kU (gM 0) gL)
   (gG (kU (gM 0) (kX (iM (gC gL (gC gL (gC gL (gC gL gF)))))))
   (gG (kU (gM 0) (kX (iM gF)))
   (gG (kU (gM 0) (kX (iM gF)))
   (gH (kU (gM 0) K4))))))))
theorem P0(F:nw K "__init__" "Run.__init__" sL f fd):Binds K fd ["self","store","inputs"] []:=F.binds (by walk_at "d")
abbrev oP:bL:=i6 (top 68) 1
noncomputable def Nj:BF oP:=⟨_,by walk_at "a"⟩
noncomputable def Cn:SF oP:=⟨_,by walk_at "a"⟩
theorem z6:gU ["self","row","behind","kind"] ["self","row","behind"] Cn.1:=by walk_at "c"
theorem Nk(F:nw K "do_row" "Run.do_row" oP f fd)(c:∀C g,pH C "do_call" g->iS P w K mg cv k C "do_call" g)(e:∀C g,pI C "do_back" g->iS P w K mg cv k C "do_back" g)(h:∀C g,nD C "table_at" g->iS P w K mg cv k C "table_at" g)(i:∀C g,tG C "do_jumpby" g->iS P w K mg cv k C "do_jumpby" g)(j:∀C g,pR C "do_in_boxes" g->iS P w K mg cv k C "do_in_boxes" g):ke P w K mg cv p8 (k+1) f fd ["self","row","behind"] (jX K (uf 4 3 (BJ K pH pI nD tG pR))):=
 Bv F Nj.2 Cn.2 z6 λiC A dk s H E a=>by
 have b:=ig a;exact(gG (ib 3 z6.nd (g8 (jx b) (gM 1) gL))
   (gG (hV (gZ (iB a.units) (gM 3) gO) (gH (gN (g8 (jx b) (gM 1) gL))) hR)
   (gG (hV (gZ (iB a.units) (gM 3) gO) (gH (gN (abe (gZ (iB a.units) (g8 (jx b) (jj (gM 0)) (g8 (jx b) (gM 1) gL)) gL) (gM 2) (g8 (jx b) (gM 1) gL)))) hR)
   (gG (hV (gZ (iB a.units) (gM 3) gO) (gH (gN (qK c a (gM 0) (gC (g8 (jx b) (gM 1) gL) (gC (gM 2) gF))))) hR)
   (gG (hV (gZ (iB a.units) (gM 3) gO) (gH (gN (qK e a (gM 0) (gC (gM 2) gF)))) hR)
   (gG (hV (gZ (iB a.units) (gM 3) gO) (gH (gN (qK i a (gM 0) (gC (g8 (jx b) (jj (gM 0)) (g8 (jx b) (gM 1) gL)) (gC (qK h a (jj (gM 0)) (gC (g8 (jx b) (gM 1) gL) gF)) (gC (gM 2) gF)))))) hR)
   (gG (hV (gZ (iB a.units) (gM 3) gO) (gH (kU (gM 0) gO)) (gH (jn (qK j a (gM 0) (gC (gM 1) gF)))))
   (gH (gN (gM 2))))))))))
theorem J6(F:nw K "do_row" "Run.do_row" oP f fd):Binds K fd ["self","row","behind"] []:=F.binds (by walk_at "d")
abbrev m9:bL:=i6 (top 68) 2
noncomputable def J7:BF m9:=⟨_,by walk_at "a"⟩
noncomputable def z7:SF m9:=⟨_,by walk_at "a"⟩
theorem Im:gU ["self","aim","behind"] ["self","aim","behind"] z7.1:=by walk_at "c"
theorem J8(F:nw K "do_call" "Run.do_call" m9 f fd)(Z:Zs mg):ke P w K mg cv p8 (k+1) f fd ["self","aim","behind"] (jX K (uf 3 3 (zV K))):=
 Bv F J7.2 z7.2 Im λiC A dk s H E a=>by
 have b:=ig a;exact(gG (hV (gZ (iB a.units) (nA jt Z.len jv (gC (jj (gM 0)) gF)) (pP Z.Pu)) (gG (kU (gM 0) gO)
   (gH (gN (gM 2)))) hR)
   (gG (jn (uO jk af bb aF (jj (gM 0)) (gC (gM 2) gF)))
   (gH (gN (gM 1)))))
theorem Io(F:nw K "do_call" "Run.do_call" m9 f fd):Binds K fd ["self","aim","behind"] []:=F.binds (by walk_at "d")
abbrev ng:bL:=i6 (top 68) 3
noncomputable def J9:BF ng:=⟨_,by walk_at "a"⟩
noncomputable def z8:SF ng:=⟨_,by walk_at "a"⟩
theorem Ip:gU ["self","behind"] ["self","behind"] z8.1:=by walk_at "c"
theorem Ka(F:nw K "do_back" "Run.do_back" ng f fd)(Z:Zs mg):ke P w K mg cv p8 (k+1) f fd ["self","behind"] (jX K (uf 2 2 (zW K))):=
 Bv F J9.2 z8.2 Ip λiC A dk s H E a=>by
 have b:=ig a;exact(gG (hV (gZ (iB a.units) (nA jt Z.len jv (gC (jj (gM 0)) gF)) gL) (gG (kU (gM 0) gO)
   (gH (gN (gM 1)))) hR)
   (gH (gN (acR RG af PySem.F.slot_list_pop PySem.F.type_list_pop (jj (gM 0))))))
theorem Iq(F:nw K "do_back" "Run.do_back" ng f fd):Binds K fd ["self","behind"] []:=F.binds (by walk_at "d")
abbrev lW:bL:=i6 (top 68) 4
noncomputable def Fs:BF lW:=⟨_,by walk_at "a"⟩
noncomputable def xa:SF lW:=⟨_,by walk_at "a"⟩
theorem DW:gU ["self","number","table","behind"] ["self","number","table","behind"] xa.1:=by walk_at "c"
theorem Ft(F:nw K "do_jumpby" "Run.do_jumpby" lW f fd)(Z:Zs mg):ke P w K mg cv p8 (k+1) f fd ["self","number","table","behind"] (jX K (uf 4 4 (qO K))):=
 Bv F Fs.2 xa.2 DW λiC A dk s H E a=>by
 have b:=ig a;exact(gG (hV (jT (xD qf Ox gL (gM 1) (nA jt Z.len jv (gC (gM 2) gF)))) (gG (kU (gM 0) gO)
   (gH (gN (gM 3)))) hR)
   (gH (gN (g8 (jx b) (gM 2) (gM 1)))))
theorem DX(F:nw K "do_jumpby" "Run.do_jumpby" lW f fd):Binds K fd ["self","number","table","behind"] []:=F.binds (by walk_at "d")
abbrev kJ:bL:=i6 (top 68) 5
noncomputable def Co:BF kJ:=⟨_,by walk_at "a"⟩
noncomputable def tW:SF kJ:=⟨_,by walk_at "a"⟩
theorem nI:gU ["self","row","kind","box"] ["self","row"] tW.1:=by walk_at "c"
theorem Cp(F:nw K "do_in_boxes" "Run.do_in_boxes" kJ f fd)(h:∀C g,su C "do_ask" g->iS P w K mg cv k C "do_ask" g)(i:∀C g,lD C "numbers_at" g->iS P w K mg cv k C "numbers_at" g)(j:∀C g,pJ C "do_load" g->iS P w K mg cv k C "do_load" g):ke P w K mg cv p8 (k+1) f fd ["self","row"] (jX K (uf 4 2 (tH K su lD pJ))):=
 Bv F Co.2 tW.2 nI λiC A dk s H E e=>by
 have c:=ig e;exact(gG (ib 2 nI.nd (g8 (jx c) (gM 1) gL))
   (gG (ib 3 nI.nd (g8 (jx c) (gM 1) gL))
   (gH (hV (gZ (iB e.units) (gM 2) gO) (gH (kB (g8 (jx c) (gM 1) gL) (sf (jj (gM 0)) (gM 3)))) (gH (hV (gZ (iB e.units) (gM 2) gO) (gH (Uj (f:=λa b=>a+b) (jj (gM 0)) (gM 3) (g8 (jx c) (jj (gM 0)) (g8 (jx c) (gM 1) gL)) Ye)) (gH (hV (gZ (iB e.units) (gM 2) gO) (gH (Uj (f:=λa b=>a- b) (jj (gM 0)) (gM 3) (g8 (jx c) (jj (gM 0)) (g8 (jx c) (gM 1) gL)) aeA)) (gH (hV (gZ (iB e.units) (gM 2) gO) (gH (jn (uO jk af bb aF (jj (gM 0)) (gC (g8 (jx c) (jj (gM 0)) (gM 3)) gF)))) (gH (hV (gZ (iB e.units) (gM 2) gO) (gH (jn (qK h e (gM 0) (gC (gM 3) gF)))) (gH (hV (gZ (iB e.units) (gM 2) gO) (gH (jn (qK j e (gM 0) (gC (gM 3) (gC (g8 (jx c) (jj (gM 0)) (g8 (jx c) (gM 1) gL)) (gC (qK i e (jj (gM 0)) (gC (g8 (jx c) (gM 1) gL) gF)) gF)))))) (gH (kB (abe (gZ (iB e.units) (g8 (jx c) (gM 1) gL) (g8 (jx c) (gM 1) gL)) gL gL) (sf (jj (gM 0)) (gM 3))))))))))))))))))
theorem AK(F:nw K "do_in_boxes" "Run.do_in_boxes" kJ f fd):Binds K fd ["self","row"] []:=F.binds (by walk_at "d")
abbrev oQ:bL:=i6 (top 68) 6
noncomputable def Nm:BF oQ:=⟨_,by walk_at "a"⟩
noncomputable def Cr:SF oQ:=⟨_,by walk_at "a"⟩
theorem Kc:gU ["self","box"] ["self","box"] Cr.1:=by walk_at "c"
theorem Nn(F:nw K "do_ask" "Run.do_ask" oQ f fd)(Z:Zs mg):ke P w K mg cv p8 (k+1) f fd ["self","box"] (jX K (uf 2 2 (BK K))):=
 Bv F Nm.2 Cr.2 Kc λiC A dk s H E a=>by
 have b:=ig a;exact(gG (hV (gZ (iB a.units) (jj (gM 0)) (nA jt Z.len jv (gC (jj (gM 0)) gF))) (gG (kU (gM 0) gO)
   (gH TZ)) hR)
   (gG (kB (g8 (jx b) (jj (gM 0)) (jj (gM 0))) (sf (jj (gM 0)) (gM 1)))
   (gH (VC (gM 0) gL))))
theorem Ke(F:nw K "do_ask" "Run.do_ask" oQ f fd):Binds K fd ["self","box"] []:=F.binds (by walk_at "d")
abbrev nh:bL:=i6 (top 68) 7
noncomputable def Kf:BF nh:=⟨_,by walk_at "a"⟩
noncomputable def z9:SF nh:=⟨_,by walk_at "a"⟩
theorem Ir:gU ["self","box","number","numbers"] ["self","box","number","numbers"] z9.1:=by walk_at "c"
theorem Kg(F:nw K "do_load" "Run.do_load" nh f fd)(Z:Zs mg):ke P w K mg cv p8 (k+1) f fd ["self","box","number","numbers"] (jX K (uf 4 4 (ui K))):=
 Bv F Kf.2 z9.2 Ir λiC A dk s H E a=>by
 have b:=ig a;exact(gG (hV (jT (xD qf Ox gL (gM 2) (nA jt Z.len jv (gC (gM 3) gF)))) (gG (kU (gM 0) gO)
   (gH TZ)) hR)
   (gH (kB (g8 (jx b) (gM 3) (gM 2)) (sf (jj (gM 0)) (gM 1)))))
theorem Iu(F:nw K "do_load" "Run.do_load" nh f fd):Binds K fd ["self","box","number","numbers"] []:=F.binds (by walk_at "d")
abbrev wv:bL:=top 69
noncomputable def SN:BF wv:=⟨_,by walk_at "a"⟩
noncomputable def Iv:SF wv:=⟨_,by walk_at "a"⟩
theorem nV:gU ["store","place","inputs","steps","run","step","row","behind"] ["store","place","inputs","steps"] Iv.1:=by walk_at "c"
theorem SO(D:hG K mg "run_over" wv)(Z:Zs mg)(b:mg "Run"=aa (.ref O8))(c:md P w K mg cv k O8 Uy)(e:∀C g,mH C "code_at" g->iS P w K mg cv (k+1) C "code_at" g)(h:∀C g,oz C "do_row" g->iS P w K mg cv (k+1) C "do_row" g):ny P w K mg cv ((k+1)+1) "run_over" ["store","place","inputs","steps"] (jX K (Wm 8 4 (Au K O8 Uy mH oz))):=
 Za D SN.2 Iv.2 nV (by walk_at "d") λf iC A dk s H E a=>by
 have i:=ig a;exact(gG (ib 4 nV.nd (aew c a b (gC (gM 0) (gC (gM 2) gF))))
   (gG (kh (pE (gC (gM 3) gF) Z.range) (gR 5 nV.nd) (gG (kB (qK e a (gM 0) (gC (gM 1) gF)) (jA (gY (gR 6 nV.nd) (gY (gR 7 nV.nd) iQ))))
   (gG (ib 1 nV.nd (qK h a (gM 4) (gC (gM 6) (gC (gM 7) gF))))
   (gH (hV (gZ X0 (jj (gM 4)) K4) (gH (gN (iD (gC (jj (gM 4)) (gC (jj (gM 4)) gF))))) hR)))))
   (gH (gN (iD (gC (jj (gM 4)) (gC gO gF)))))))
abbrev tX:bL:=top 70
noncomputable def P5:BF tX:=⟨_,by walk_at "a"⟩
noncomputable def EU:SF tX:=⟨_,by walk_at "a"⟩
theorem rE:gU ["parts","start","inputs","steps","bare","places","place"] ["parts","start","inputs","steps"] EU.1:=by walk_at "c"
theorem P6(D:hG K mg "run_names" tX)(b:ie P w K mg cv (k+1) "let_by" ["parts"] BL)(c:ie P w K mg cv (k+1) "start_place" ["bare","places","start"] pS)(e:ie P w K mg cv (k+1) "run_over" ["store","place","inputs","steps"] v0)(g:mg "NamedRows"=aa (.ref qp))(h:md P w K mg cv k qp tI):ny P w K mg cv ((k+1)+1) "run_names" ["parts","start","inputs","steps"] (jX K (Wm 7 4 (EO BL pS v0 qp tI))):=
 Za D P5.2 EU.2 rE (by walk_at "d") λf iC A dk s H E a=>by
 have i:=ig a;exact(gG (kB (iP b a (gC (gM 0) gF)) (jA (gY (gR 4 rE.nd) (gY (gR 5 rE.nd) iQ))))
   (gG (ib 6 rE.nd (iP c a (gC (gM 4) (gC (gM 5) (gC (gM 1) gF)))))
   (gH (gN (iP e a (gC (pQ h a g (gC (gM 4) (gC (gM 5) gF))) (gC (gM 6) (gC (gM 2) (gC (gM 3) gF)))))))))
abbrev pY:bL:=top 72
noncomputable def Ki:BF pY:=⟨_,by walk_at "a"⟩
noncomputable def Aa:SF pY:=⟨_,by walk_at "a"⟩
theorem Iw:gU ["_law_script","_law_k"] ["_law_script","_law_k"] Aa.1:=by walk_at "c"
def uo:DS:=(gW (ii (gS (gX Ow (gE 1) (iG m4 (gD (gE 0) gK)))) (hW (gX ij (gE 0) (gE 1))) hX)
 (hW (dC (.int 0))))
theorem Kj(D:hG K mg "_law_cell_at" pY)(Z:Zs mg):ny P w K mg cv (k+1) "_law_cell_at" ["_law_script","_law_k"] (jX K (cl (jB 2 2 uo))):=
 jl D Ki.2 Aa.2 Iw (by walk_at "d") λf iC A dk s H E a=>by
 have b:=ig a;exact(gG (hV (gZ Ox (gM 1) (nA jt Z.len jv (gC (gM 0) gF))) (gH (gN (g8 (jx b) (gM 0) (gM 1)))) hR)
   (gH (gN gL)))
abbrev tY:bL:=top 73
noncomputable def P9:BF tY:=⟨_,by walk_at "a"⟩
noncomputable def EV:SF tY:=⟨_,by walk_at "a"⟩
theorem ww:gU ["_law_cell","_law_k","_law_number_here"] ["_law_cell","_law_k"] EV.1:=by walk_at "c"
theorem Qa(D:hG K mg "_law_mixed" tY):ny P w K mg cv (k+1) "_law_mixed" ["_law_cell","_law_k"] (jX K (cl (jB 3 2 EJ))):=
 jl D P9.2 EV.2 ww (by walk_at "d") λf iC A dk s H E a=>by
 have b:=ig a;exact(gG (ib 2 ww.nd (iw jL (iw nB (iw iX (iw iX (iw jL (gM 0) gL) (iw nB gL (gM 1))) gL) gL) gL))
   (gG (ib 2 ww.nd (iw jL (iw nB (gM 2) (iw iX (iw vL (gM 2) gL) gL)) gL))
   (gH (gN (iw jL (iw nB (iw iX (gM 2) (iw nB gL (gM 1))) (iw iX (iw vL (gM 2) gL) gL)) gL)))))
abbrev tZ:bL:=top 74
noncomputable def Qb:BF tZ:=⟨_,by walk_at "a"⟩
noncomputable def EW:SF tZ:=⟨_,by walk_at "a"⟩
theorem mP:gU ["_law_cell","_law_sizes","_law_found","_law_rest","_law_k","_law_size"] ["_law_cell","_law_sizes"] EW.1:=by walk_at "c"
def yr (qt:GN):DS:=(gW (iE 2 (lN (ku gK)))
 (gW (iE 3 (gX (gI EQ λi j=>.int (i/j)) (gE 0) (dC (.int 2))))
 (gW (pi (pD (gD (gE 1) gK)) (js 2 (hC (gQ 4) (hC (gQ 5) jr))) (ii (Jv (gS (gX mR (gX (gI (λ_ j=>0<j) λi j=>.int (i%j)) (gE 0) (dC (.int 2))) (dC (.int 0)))) (gS (gX (N2 ag) (gE 3) (iT (gD (dC (.int 0)) (gD (Ry (dC (.int 1))) gK)))))) (gW (j8 (Aq "list" iN (gE 2) (gD (gX (gI (λ_ j=>0<j) λi j=>.int (i%j)) (gE 3) (gE 5)) gK)))
 (iE 3 (gX (gI EQ λi j=>.int (i/j)) (gE 3) (gE 5)))) (j8 (Aq "list" iN (gE 2) (gD (gX (gI (λ_ j=>0<j) λi j=>.int (i%j)) (gX i8 (iG qt (gD (gX (gI EQ λi j=>.int (i/j)) (gE 0) (dC (.int 2))) (gD (gE 4) gK))) (gX (gI Vc λi j=>.int (i^j.toNat)) (iG qt (gD (gX (gI EQ λi j=>.int (i/j)) (gE 0) (dC (.int 2))) (gD (gX i8 (gE 4) (dC (.int 97))) gK))) (dC (.int 7)))) (gE 5)) gK)))))
 (hW (gE 2)))))
theorem Qc(D:hG K mg "_law_parts" tZ)(Z:Zs mg)(b:ie P w K mg cv k "_law_mixed" ["_law_cell","_law_k"] qt):ny P w K mg cv (k+1) "_law_parts" ["_law_cell","_law_sizes"] (jX K (cl (jB 6 2 (yr qt)))):=
 jl D Qb.2 EW.2 mP (by walk_at "d") λf iC A dk s H E a=>by
 have c:=ig a;exact(gG (ib 2 mP.nd (kX (iM gF)))
   (gG (ib 3 mP.nd (iw B2 (gM 0) gL))
   (gG (kh (tj (gC (gM 1) gF) Z.enumerate) (jA (gY (gR 4 mP.nd) (gY (gR 5 mP.nd) iQ))) (gH (hV (mY (xC (gZ (iB a.units) (iw jL (gM 0) gL) gL) (vI (gZ (uM c) (gM 3) (iD (gC gL (gC (K9 gL) gF))))))) (gG (jn (uO jk af bb aF (gM 2) (gC (iw jL (gM 3) (gM 5)) gF)))
   (gH (ib 3 mP.nd (iw B2 (gM 3) (gM 5))))) (gH (jn (uO jk af bb aF (gM 2) (gC (iw jL (iw iX (iP b a (gC (iw B2 (gM 0) gL) (gC (gM 4) gF))) (iw Rr (iP b a (gC (iw B2 (gM 0) gL) (gC (iw iX (gM 4) gL) gF))) gL)) (gM 5)) gF)))))))
   (gH (gN (gM 2))))))
abbrev ua:bL:=top 75
noncomputable def Qd:BF ua:=⟨_,by walk_at "a"⟩
noncomputable def EY:SF ua:=⟨_,by walk_at "a"⟩
theorem Cs:gU ["_law_kinds_here"] [] EY.1:=by walk_at "c"
def EZ:DS:=(gW (iE 0 (jz (ku (gD (dC (.str "set")) (gD (dC (.str "add")) (gD (dC (.str "take")) (gD (dC (.str "say")) (gD (dC (.str "ask")) (gD (dC (.str "jump")) (gD (dC (.str "jumpif")) (gD (dC (.str "call")) (gD (dC (.str "back")) (gD (dC (.str "stop")) (gD (dC (.str "load")) (gD (dC (.str "jumpby")) (gD (dC (.str "alike")) gK))))))))))))))))
 (hW (gX i8 (gE 0) (jz (ku (gD (dC (.str "numbers")) (gD (dC (.str "table")) (gD (dC (.str "say")) (gD (dC (.str "jumpif")) (gD (dC (.str "call")) (gD (dC (.str "set")) (gD (dC (.str "say")) gK))))))))))))
theorem Qe(D:hG K mg "_law_kinds" ua):ny P w K mg cv (k+1) "_law_kinds" [] (jX K (cl (jB 1 0 EZ))):=
 jl D Qd.2 EY.2 Cs (λ_ _ _ _ _ _ us a=>match us,a with|[],_=>rfl) λf iC A dk s H E b=>by
 have c:=ig b;exact(gG (ib 0 Cs.nd (i5 (iM (gC gO (gC gO (gC gO (gC gO (gC gO (gC gO (gC gO (gC gO (gC gO (gC gO (gC gO (gC gO (gC gO gF))))))))))))))))
   (gH (gN (iw iX (gM 0) (i5 (iM (gC gO (gC gO (gC gO (gC gO (gC gO (gC gO (gC gO gF)))))))))))))
abbrev pZ:bL:=top 76
noncomputable def Kl:BF pZ:=⟨_,by walk_at "a"⟩
noncomputable def Ab:SF pZ:=⟨_,by walk_at "a"⟩
theorem Ix:gU ["_law_kind"] ["_law_kind"] Ab.1:=by walk_at "c"
def Ac:DS:=(hW (gX (N2 ar) (gE 0) (iT (gD (dC (.str "set")) (gD (dC (.str "add")) (gD (dC (.str "take")) (gD (dC (.str "say")) (gD (dC (.str "ask")) (gD (dC (.str "jumpif")) (gD (dC (.str "call")) (gD (dC (.str "load")) (gD (dC (.str "alike")) gK))))))))))))
theorem Km(D:hG K mg "_law_goes_on" pZ):ny P w K mg cv (k+1) "_law_goes_on" ["_law_kind"] (jX K (cl (jB 1 1 Ac))):=
 jl D Kl.2 Ab.2 Ix (by walk_at "d") λf iC A dk s H E a=>by have b:=ig a;exact(gH (gN (Bj (EB b) (gM 0) (iD (gC gO (gC gO (gC gO (gC gO (gC gO (gC gO (gC gO (gC gO (gC gO gF)))))))))))))
abbrev oR:bL:=top 77
noncomputable def Iy:BF oR:=⟨_,by walk_at "a"⟩
noncomputable def yt:SF oR:=⟨_,by walk_at "a"⟩
theorem jd:gU ["_law_cell","_law_most","_law_parts_here","_law_found","_law_k","_law_kind","_law_b","_law_c","_law_more","_law_row"] ["_law_cell","_law_most"] yt.1:=by walk_at "c"
def yu (ka:GN)(tM:GN)(m6:GN):DS:=(gW (iE 2 (iG ka (gD (gE 0) (gD (gX i8 (jz (ku (gD (gE 1) gK))) (gX xj (jz (ku (gD (dC (.int 20)) (gD (dC (.int 4)) (gD (dC (.int 4)) (gD (gX (gI Vc λi j=>.int (i^j.toNat)) (dC (.int 10)) (dC (.int 10))) gK)))))) (gE 1))) gK))))
 (gW (iE 3 (lN (ku gK)))
 (gW (pi (xH (gD (gX i8 (dC (.int 1)) (gX ij (gE 2) (dC (.int 0)))) gK)) (gQ 4) (gW (pC (dSl (gE 2) (EC (gX i8 (dC (.int 1)) (gX xj (dC (.int 4)) (gE 4)))) (EC (gX i8 (dC (.int 5)) (gX xj (dC (.int 4)) (gE 4))))) (Pr 4 (hC (gQ 5) (hC (gQ 6) (hC (gQ 7) (hC (gQ 8) jr))))))
 (gW (iE 9 (iT (gD (gX ij (iG tM gK) (gE 5)) (gD (gE 6) (gD (gE 7) (gD (gE 8) gK))))))
 (gW (ii (Jv (gS (gX (N2 ar) (gX ij (gE 9) (dC (.int 0))) (iT (gD (dC (.str "numbers")) (gD (dC (.str "table")) gK))))) (Jv (gS (gX Fa (gE 3) (jz (ku gK)))) (gS (iG m6 (gD (gX ij (gX ij (gE 3) (Ry (dC (.int 1)))) (dC (.int 0))) gK))))) (j8 (Aq "list" iN (gE 3) (gD (iT (gD (dC (.str "back")) (gD (dC (.int 0)) (gD (dC (.int 0)) (gD (dC (.int 0)) gK))))) gK))) hX)
 (j8 (Aq "list" iN (gE 3) (gD (gE 9) gK)))))))
 (gW (ii (gS (iG m6 (gD (gX ij (gX ij (gE 3) (Ry (dC (.int 1)))) (dC (.int 0))) gK))) (j8 (Aq "list" iN (gE 3) (gD (iT (gD (gX ij (jz (ku (gD (dC (.str "stop")) (gD (dC (.str "back")) gK)))) (gX (gI (λ_ j=>0<j) λi j=>.int (i%j)) (gX ij (gE 2) (dC (.int 2))) (dC (.int 2)))) (gD (dC (.int 0)) (gD (dC (.int 0)) (gD (dC (.int 0)) gK))))) gK))) hX)
 (hW (gE 3))))))
theorem Iz(D:hG K mg "_law_skeleton" oR)(Z:Zs mg)(e:ie P w K mg cv k "_law_parts" ["_law_cell","_law_sizes"] ka)(g:ie P w K mg cv k "_law_kinds" [] tM)(c:ie P w K mg cv k "_law_goes_on" ["_law_kind"] m6):ny P w K mg cv (k+1) "_law_skeleton" ["_law_cell","_law_most"] (jX K (cl (jB 10 2 (yu ka tM m6)))):=
 jl D Iy.2 yt.2 jd (by walk_at "d") λf iC A dk s H E b=>by
 have a:=ig b;exact(gG (ib 2 jd.nd (iP e b (gC (gM 0) (gC (iw iX (i5 (iM (gC (gM 1) gF))) (iw nB (i5 (iM (gC gL (gC gL (gC gL (gC (iw Rr gL gL) gF)))))) (gM 1))) gF))))
   (gG (ib 3 jd.nd (kX (iM gF)))
   (gG (kh (pE (gC (iw iX gL (g8 (jx a) (gM 2) gL)) gF) Z.range) (gR 4 jd.nd) (gG (kB (Vy (gM 2) (r9 (iw iX gL (iw nB gL (gM 4)))) (r9 (iw iX gL (iw nB gL (gM 4))))) (ae0 (gY (gR 5 jd.nd) (gY (gR 6 jd.nd) (gY (gR 7 jd.nd) (gY (gR 8 jd.nd) iQ))))))
   (gG (ib 9 jd.nd (iD (gC (g8 (jx a) (agf g b) (gM 5)) (gC (gM 6) (gC (gM 7) (gC (gM 8) gF))))))
   (gG (hV (mY (xC (gZ (EB a) (g8 (jx a) (gM 9) gL) (iD (gC gO (gC gO gF)))) (xC (gZ (xI b.units) (gM 3) (i5 (iM gF))) (vI (jf (iP c b (gC (g8 (jx a) (g8 (jx a) (gM 3) (K9 gL)) gL) gF))))))) (gH (jn (uO jk af bb aF (gM 3) (gC (iD (gC gO (gC gL (gC gL (gC gL gF))))) gF)))) hR)
   (gH (jn (uO jk af bb aF (gM 3) (gC (gM 9) gF))))))))
   (gG (hV (jf (iP c b (gC (g8 (jx a) (g8 (jx a) (gM 3) (K9 gL)) gL) gF))) (gH (jn (uO jk af bb aF (gM 3) (gC (iD (gC (g8 (jx a) (i5 (iM (gC gO (gC gO gF)))) (iw jL (g8 (jx a) (gM 2) gL) gL)) (gC gL (gC gL (gC gL gF))))) gF)))) hR)
   (gH (gN (gM 3)))))))
abbrev wx:bL:=top 78
noncomputable def SS:BF wx:=⟨_,by walk_at "a"⟩
noncomputable def IA:SF wx:=⟨_,by walk_at "a"⟩
theorem E1:gU ["_law_p","_law_k","_law_letters"] ["_law_p","_law_k"] IA.1:=by walk_at "c"
def IB:DS:=(gW (iE 2 (dC (.str "abcdefghijklmnopqrstuvwxyz")))
 (hW (gX i8 (gX i8 (gX ij (gE 2) (gE 0)) (gX ij (gE 2) (gX (gI F6 λi j=>.int (i/j)) (gE 1) (dC (.int 26))))) (gX ij (gE 2) (gX (gI (λ_ j=>0<j) λi j=>.int (i%j)) (gE 1) (dC (.int 26)))))))
theorem SU(D:hG K mg "_law_name" wx):ny P w K mg cv (k+1) "_law_name" ["_law_p","_law_k"] (jX K (cl (jB 3 2 IB))):=
 jl D SS.2 IA.2 E1 (by walk_at "d") λf iC A dk s H E b=>by
 have a:=ig b;exact(gG (ib 2 E1.nd gO)
   (gH (gN (iw iX (iw iX (g8 (jx a) (gM 2) (gM 0)) (g8 (jx a) (gM 2) (iw vL (gM 1) gL))) (g8 (jx a) (gM 2) (iw jL (gM 1) gL))))))
abbrev rF:bL:=top 79
noncomputable def Np:BF rF:=⟨_,by walk_at "a"⟩
noncomputable def Ct:SF rF:=⟨_,by walk_at "a"⟩
theorem Ko:gU ["_law_more"] ["_law_more"] Ct.1:=by walk_at "c"
def Cu:DS:=(hW (gX ij (jz (ku (gD (gX (Jl λi j=>.int (i- j)) (gX (gI (λ_ j=>0<j) λi j=>.int (i%j)) (gE 0) (dC (.int 7))) (dC (.int 2))) (gD (gX (Jl λi j=>.int (i- j)) (gX (gI (λ_ j=>0<j) λi j=>.int (i%j)) (gE 0) (dC (.int 41))) (dC (.int 20))) (gD (gX (Jl λi j=>.int (i- j)) (gX (gI (λ_ j=>0<j) λi j=>.int (i%j)) (gE 0) (dC (.int 4294967296))) (dC (.int 2147483648))) gK))))) (gX (gI (λ_ j=>0<j) λi j=>.int (i%j)) (gX (gI F6 λi j=>.int (i/j)) (gE 0) (dC (.int 9))) (dC (.int 3)))))
theorem Nq(D:hG K mg "_law_number" rF):ny P w K mg cv (k+1) "_law_number" ["_law_more"] (jX K (cl (jB 1 1 Cu))):=
 jl D Np.2 Ct.2 Ko (by walk_at "d") λf iC A dk s H E a=>by have b:=ig a;exact(gH (gN (g8 (jx b) (i5 (iM (gC (iw Dc (iw jL (gM 0) gL) gL) (gC (iw Dc (iw jL (gM 0) gL) gL) (gC (iw Dc (iw jL (gM 0) gL) gL) gF))))) (iw jL (iw vL (gM 0) gL) gL))))
abbrev rG:bL:=top 80
noncomputable def Nr:BF rG:=⟨_,by walk_at "a"⟩
noncomputable def rH:SF rG:=⟨_,by walk_at "a"⟩
theorem kO:gU ["_law_row","_law_code","_law_numbers","_law_tables","_law_kind","_law_b","_law_c","_law_more","_law_name_here","_law_some"] ["_law_row","_law_code","_law_numbers","_law_tables"] rH.1:=by walk_at "c"
def Cv (oF:GN)(v7:GN):DS:=(gW (pC (gE 0) (js 4 (hC (gQ 4) (hC (gQ 5) (hC (gQ 6) (hC (gQ 7) jr))))))
 (gW (iE 8 (gX ij (gE 1) (gX (gI (λ_ j=>0<j) λi j=>.int (i%j)) (gE 7) (iG m4 (gD (gE 1) gK)))))
 (gW (ii (Gq (Jv (gS (gX mR (gE 4) (dC (.str "load")))) (gS (gX Jy (gE 2) (jz (ku gK))))) (Jv (gS (gX mR (gE 4) (dC (.str "alike")))) (gS (gX mR (gX (gI (λ_ j=>0<j) λi j=>.int (i%j)) (gE 7) (dC (.int 5))) (dC (.int 0)))))) (hW (iT (gD (dC (.str "say")) (gD (gE 5) gK)))) hX)
 (gW (ii (Jv (gS (gX mR (gE 4) (dC (.str "jumpby")))) (gS (gX Jy (gE 3) (jz (ku gK))))) (hW (iT (gD (dC (.str "back")) gK))) hX)
 (gW (ii (gS (gX mR (gE 4) (dC (.str "load")))) (hW (iT (gD (gE 4) (gD (gE 5) (gD (gE 6) (gD (gX ij (gE 2) (gX (gI (λ_ j=>0<j) λi j=>.int (i%j)) (gE 7) (iG m4 (gD (gE 2) gK)))) gK)))))) hX)
 (gW (ii (gS (gX mR (gE 4) (dC (.str "jumpby")))) (hW (iT (gD (gE 4) (gD (gE 5) (gD (gX ij (gE 3) (gX (gI (λ_ j=>0<j) λi j=>.int (i%j)) (gE 7) (iG m4 (gD (gE 3) gK)))) gK))))) hX)
 (gW (ii (gS (gX mR (gE 4) (dC (.str "alike")))) (gW (iE 9 (gX i8 (gX i8 (gE 1) (gE 2)) (gE 3)))
 (hW (iT (gD (gE 4) (gD (gE 5) (gD (gX ij (gE 9) (gX (gI (λ_ j=>0<j) λi j=>.int (i%j)) (gE 7) (iG m4 (gD (gE 9) gK)))) (gD (gX ij (gE 9) (gX (gI (λ_ j=>0<j) λi j=>.int (i%j)) (gX (gI F6 λi j=>.int (i/j)) (gE 7) (dC (.int 7))) (iG m4 (gD (gE 9) gK)))) gK))))))) hX)
 (gW (ii (gS (gX mR (gE 4) (dC (.str "numbers")))) (hW (iT (gD (gE 4) (gD (jz (jY [ao,aa 7] (xH (gD (gX i8 (dC (.int 1)) (gX (gI (λ_ j=>0<j) λi j=>.int (i%j)) (gE 7) (dC (.int 4)))) gK)) (gQ 0) r6 (iG oF (gD (gX i8 (gX (gI F6 λi j=>.int (i/j)) (gE 1) (dC (.int 3))) (gX xj (dC (.int 5)) (gE 0))) gK)))) gK)))) hX)
 (gW (ii (gS (gX mR (gE 4) (dC (.str "table")))) (hW (iT (gD (gE 4) (gD (jz (jY [ao,aa 1,aa 7] (xH (gD (gX i8 (dC (.int 1)) (gX (gI (λ_ j=>0<j) λi j=>.int (i%j)) (gE 7) (dC (.int 4)))) gK)) (gQ 0) r6 (gX ij (gE 1) (gX (gI (λ_ j=>0<j) λi j=>.int (i%j)) (gX i8 (gX (gI F6 λi j=>.int (i/j)) (gE 2) (dC (.int 5))) (gX xj (dC (.int 3)) (gE 0))) (iG m4 (gD (gE 1) gK)))))) gK)))) hX)
 (gW (ii (gS (gX mR (gE 4) (dC (.str "set")))) (hW (iT (gD (gE 4) (gD (gE 5) (gD (iG oF (gD (gE 7) gK)) gK))))) hX)
 (gW (ii (gS (gX (N2 ar) (gE 4) (iT (gD (dC (.str "add")) (gD (dC (.str "take")) gK))))) (hW (iT (gD (gE 4) (gD (gE 5) (gD (gE 6) gK))))) hX)
 (gW (ii (gS (gX (N2 ar) (gE 4) (iT (gD (dC (.str "say")) (gD (dC (.str "ask")) gK))))) (hW (iT (gD (gE 4) (gD (gE 5) gK)))) hX)
 (hW (iG v7 (gD (gE 4) (gD (gE 5) (gD (gE 8) gK)))))))))))))))))
theorem Nt(D:hG K mg "_law_filled" rG)(Z:Zs mg)(c:ie P w K mg cv k "_law_number" ["_law_more"] oF)(e:ie P w K mg cv k "_law_gone" ["_law_kind","_law_b","_law_name_here"] v7):ny P w K mg cv (k+1) "_law_filled" ["_law_row","_law_code","_law_numbers","_law_tables"] (jX K (uf 10 4 (Cv oF v7))):=
 La D Nr.2 rH.2 kO (by walk_at "d") λf iC A dk s H E a=>by
 have b:=ig a;exact(gG (kB (gM 0) (jA (gY (gR 4 kO.nd) (gY (gR 5 kO.nd) (gY (gR 6 kO.nd) (gY (gR 7 kO.nd) iQ))))))
   (gG (ib 8 kO.nd (g8 (jx b) (gM 1) (iw jL (gM 7) (nA jt Z.len jv (gC (gM 1) gF)))))
   (gG (hV (mY (qc (mY (xC (gZ (iB a.units) (gM 4) gO) (vI (gZ (GY b) (gM 2) (i5 (iM gF)))))) (oh (mY (xC (gZ (iB a.units) (gM 4) gO) (vI (gZ (iB a.units) (iw jL (gM 7) gL) gL))))))) (gH (gN (iD (gC gO (gC (gM 5) gF))))) hR)
   (gG (hV (mY (xC (gZ (iB a.units) (gM 4) gO) (vI (gZ (GY b) (gM 3) (i5 (iM gF)))))) (gH (gN (iD (gC gO gF)))) hR)
   (gG (hV (gZ (iB a.units) (gM 4) gO) (gH (gN (iD (gC (gM 4) (gC (gM 5) (gC (gM 6) (gC (g8 (jx b) (gM 2) (iw jL (gM 7) (nA jt Z.len jv (gC (gM 2) gF)))) gF))))))) hR)
   (gG (hV (gZ (iB a.units) (gM 4) gO) (gH (gN (iD (gC (gM 4) (gC (gM 5) (gC (g8 (jx b) (gM 3) (iw jL (gM 7) (nA jt Z.len jv (gC (gM 3) gF)))) gF)))))) hR)
   (gG (hV (gZ (iB a.units) (gM 4) gO) (gG (ib 9 kO.nd (iw iX (iw iX (gM 1) (gM 2)) (gM 3)))
   (gH (gN (iD (gC (gM 4) (gC (gM 5) (gC (g8 (jx b) (gM 9) (iw jL (gM 7) (nA jt Z.len jv (gC (gM 9) gF)))) (gC (g8 (jx b) (gM 9) (iw jL (iw vL (gM 7) gL) (nA jt Z.len jv (gC (gM 9) gF)))) gF)))))))) hR)
   (gG (hV (gZ (iB a.units) (gM 4) gO) (gH (gN (iD (gC (gM 4) (gC (i5 (jC (N:=["_law_j","_law_more"]) (fr:=[ao,aa 7]) (iW.of (pb:=["_law_row","_law_code","_law_numbers","_law_tables","_law_kind","_law_b","_law_c","_law_more","_law_name_here","_law_some"]) (jp:=rH.1) (by decide+kernel)) (pE (gC (iw iX gL (iw jL (gM 7) gL)) gF) Z.range) iZ (λ_ _ _ _ _=>(gR 0 (show bV (["_law_j","_law_more"]:List ay) by decide+kernel))) (λ_ _ _ _ _=>j3) (λ_ _ _ _ _=>(iP c a (gC (iw iX (iw vL (gM 1) gL) (iw nB gL (gM 0))) gF))))) gF))))) hR)
   (gG (hV (gZ (iB a.units) (gM 4) gO) (gH (gN (iD (gC (gM 4) (gC (i5 (jC (N:=["_law_j","_law_code","_law_more"]) (fr:=[ao,aa 1,aa 7]) (iW.of (pb:=["_law_row","_law_code","_law_numbers","_law_tables","_law_kind","_law_b","_law_c","_law_more","_law_name_here","_law_some"]) (jp:=rH.1) (by decide+kernel)) (pE (gC (iw iX gL (iw jL (gM 7) gL)) gF) Z.range) iZ (λ_ _ _ _ _=>(gR 0 (show bV (["_law_j","_law_code","_law_more"]:List ay) by decide+kernel))) (λ_ _ _ _ _=>j3) (λ_ _ _ _ _=>(g8 (jx b) (gM 1) (iw jL (iw iX (iw vL (gM 2) gL) (iw nB gL (gM 0))) (nA jt Z.len jv (gC (gM 1) gF))))))) gF))))) hR)
   (gG (hV (gZ (iB a.units) (gM 4) gO) (gH (gN (iD (gC (gM 4) (gC (gM 5) (gC (iP c a (gC (gM 7) gF)) gF)))))) hR)
   (gG (hV (gZ (EB b) (gM 4) (iD (gC gO (gC gO gF)))) (gH (gN (iD (gC (gM 4) (gC (gM 5) (gC (gM 6) gF)))))) hR)
   (gG (hV (gZ (EB b) (gM 4) (iD (gC gO (gC gO gF)))) (gH (gN (iD (gC (gM 4) (gC (gM 5) gF))))) hR)
   (gH (gN (iP e a (gC (gM 4) (gC (gM 5) (gC (gM 8) gF))))))))))))))))))
abbrev wy:bL:=top 81
noncomputable def SW:BF wy:=⟨_,by walk_at "a"⟩
noncomputable def IC:SF wy:=⟨_,by walk_at "a"⟩
theorem Qg:gU ["_law_kind","_law_b","_law_name_here"] ["_law_kind","_law_b","_law_name_here"] IC.1:=by walk_at "c"
def ID:DS:=(gW (ii (gS (gX mR (gE 0) (dC (.str "jumpif")))) (hW (iT (gD (gE 0) (gD (gE 1) (gD (gE 2) gK))))) hX)
 (gW (ii (gS (gX (N2 ar) (gE 0) (iT (gD (dC (.str "jump")) (gD (dC (.str "call")) gK))))) (hW (iT (gD (gE 0) (gD (gE 2) gK)))) hX)
 (hW (iT (gD (gE 0) gK)))))
theorem SX(D:hG K mg "_law_gone" wy):ny P w K mg cv (k+1) "_law_gone" ["_law_kind","_law_b","_law_name_here"] (jX K (cl (jB 3 3 ID))):=
 jl D SW.2 IC.2 Qg (by walk_at "d") λf iC A dk s H E a=>by
 have b:=ig a;exact(gG (hV (gZ (iB a.units) (gM 0) gO) (gH (gN (iD (gC (gM 0) (gC (gM 1) (gC (gM 2) gF)))))) hR)
   (gG (hV (gZ (EB b) (gM 0) (iD (gC gO (gC gO gF)))) (gH (gN (iD (gC (gM 0) (gC (gM 2) gF))))) hR)
   (gH (gN (iD (gC (gM 0) gF))))))
abbrev p0:bL:=top 82
noncomputable def Kp:BF p0:=⟨_,by walk_at "a"⟩
noncomputable def uq:SF p0:=⟨_,by walk_at "a"⟩
theorem IE:gU ["_law_rows"] ["_law_rows"] uq.1:=by walk_at "c"
def Ae:DS:=(hW (gX Jy (jz (jY [ao] (jM (gE 0)) (gQ 0) (gS (gX (N2 ag) (gX ij (gE 0) (dC (.int 0))) (iT (gD (dC (.str "numbers")) (gD (dC (.str "table")) gK))))) (gE 0))) (jz (ku gK))))
theorem Kq(D:hG K mg "_law_no_code" p0):ny P w K mg cv (k+1) "_law_no_code" ["_law_rows"] (jX K (cl (jB 1 1 Ae))):=
 jl D Kp.2 uq.2 IE (by walk_at "d") λf iC A dk s H E b=>by have a:=ig b;exact(gH (gN (Bj (GY a) (i5 (jC (N:=["_law_row"]) (fr:=[ao]) (iW.of (pb:=["_law_rows"]) (jp:=uq.1) (by decide+kernel)) (jg (gM 0)) iZ (λ_ _ _ _ _=>(gR 0 (show bV (["_law_row"]:List ay) by decide+kernel))) (λ_ _ _ _ _=>(Bo (gZ (uM a) (g8 (jx a) (gM 0) gL) (iD (gC gO (gC gO gF)))))) (λ_ _ _ _ _=>(gM 0)))) (i5 (iM gF)))))
abbrev p4:bL:=top 83
noncomputable def Kr:BF p4:=⟨_,by walk_at "a"⟩
noncomputable def p5:SF p4:=⟨_,by walk_at "a"⟩
theorem iy:gU ["_law_cells","_law_most","_law_bones","_law_names","_law_p","_law_rows","_law_k","_law_row","_law_kind","_law_found","_law_told"] ["_law_cells","_law_most"] p5.1:=by walk_at "c"
def ur (oG:GN)(pU:GN)(iL:GN)(jc:GN):DS:=(gW (iE 2 (lN (jY [ao,aa 1] (jM (gE 0)) (gQ 0) r6 (iG oG (gD (gE 0) (gD (gE 1) gK))))))
 (gW (ii (gS (gX mR (jz (jY [ao] (jM (gE 2)) (gQ 0) (gS (iG pU (gD (gE 0) gK))) (gE 0))) (gE 2))) (pC (gX i8 (jz (ku (gD (iT (gD (dC (.str "say")) (gD (dC (.int 0)) (gD (dC (.int 0)) (gD (dC (.int 0)) gK))))) (gD (iT (gD (dC (.str "stop")) (gD (dC (.int 0)) (gD (dC (.int 0)) (gD (dC (.int 0)) gK))))) gK)))) (gX ij (gE 2) (dC (.int 0)))) (uP (gE 2) (dC (.int 0)))) hX)
 (gW (iE 3 (HH [((dC (.str "numbers")),(lN (ku gK))),((dC (.str "table")),(lN (ku gK))),((dC (.str "code")),(lN (ku gK)))]))
 (gW (pi (pD (gD (gE 2) gK)) (js 2 (hC (gQ 4) (hC (gQ 5) jr))) (pi (pD (gD (gE 5) gK)) (js 2 (hC (gQ 6) (hC (gQ 7) jr))) (gW (iE 8 (gX ij (gE 7) (dC (.int 0))))
 (gW (ii (gS (gX (N2 ag) (gE 8) (iT (gD (dC (.str "numbers")) (gD (dC (.str "table")) gK))))) (iE 8 (dC (.str "code"))) hX)
 (j8 (Aq "list" iN (gX ij (gE 3) (gE 8)) (gD (iG iL (gD (gE 4) (gD (gE 6) gK))) gK)))))))
 (gW (iE 9 (lN (ku gK)))
 (gW (pi (pD (gD (gE 2) gK)) (js 2 (hC (gQ 4) (hC (gQ 5) jr))) (gW (iE 10 (lN (ku gK)))
 (gW (pi (pD (gD (gE 5) gK)) (js 2 (hC (gQ 6) (hC (gQ 7) jr))) (gW (j8 (Aq "list" iN (gE 10) (gD (iT (gD (dC (.str "mark")) (gD (iG iL (gD (gE 4) (gD (gE 6) gK))) (gD (gX mR (gX (gI (λ_ j=>0<j) λi j=>.int (i%j)) (gX ij (gE 7) (dC (.int 3))) (dC (.int 2))) (dC (.int 0))) gK)))) gK)))
 (j8 (Aq "list" iN (gE 10) (gD (iG jc (gD (gE 7) (gD (gX ij (gE 3) (dC (.str "code"))) (gD (gX ij (gE 3) (dC (.str "numbers"))) (gD (gX ij (gE 3) (dC (.str "table"))) gK))))) gK)))))
 (j8 (Aq "list" iN (gE 9) (gD (iT (gD (gX i8 (gX ij (dC (.str "abcdefghijkl")) (gE 4)) (dC (.str "part"))) (gD (Y5 10) gK))) gK))))))
 (hW (iT (gD (gE 9) (gD (gX ij (gE 3) (dC (.str "code"))) gK))))))))))
theorem Ks(D:hG K mg "_law_program" p4)(Z:Zs mg)(e:ie P w K mg cv k "_law_skeleton" ["_law_cell","_law_most"] oG)(g:ie P w K mg cv k "_law_no_code" ["_law_rows"] pU)(c:ie P w K mg cv k "_law_name" ["_law_p","_law_k"] iL)(h:ie P w K mg cv k "_law_filled" ["_law_row","_law_code","_law_numbers","_law_tables"] jc):ny P w K mg cv (k+1) "_law_program" ["_law_cells","_law_most"] (jX K (cl (jB 11 2 (ur oG pU iL jc)))):=
 jl D Kr.2 p5.2 iy (by walk_at "d") λf iC A dk s H E b=>by
 have a:=ig b;exact(gG (XW 2 iy.nd (N:=["_law_cell","_law_most"]) (fr:=[ao,aa 1]) (iW.of (pb:=["_law_cells","_law_most","_law_bones","_law_names","_law_p","_law_rows","_law_k","_law_row","_law_kind","_law_found","_law_told"]) (jp:=p5.1) (by decide+kernel)) (jg (gM 0)) iZ (λ_ _ _ _ _=>(gR 0 (show bV (["_law_cell","_law_most"]:List ay) by decide+kernel))) (λ_ _ _ _ _=>j3) (λ_ _ _ _ _=>(iP e b (gC (gM 0) (gC (gM 1) gF)))))
   (gG (hV (gZ (iB b.units) (i5 (jC (N:=["_law_rows"]) (fr:=[ao]) (iW.of (pb:=["_law_cells","_law_most","_law_bones","_law_names","_law_p","_law_rows","_law_k","_law_row","_law_kind","_law_found","_law_told"]) (jp:=p5.1) (by decide+kernel)) (jg (gM 2)) iZ (λ_ _ _ _ _=>(gR 0 (show bV (["_law_rows"]:List ay) by decide+kernel))) (λ_ _ _ _ _=>(Bo (jf (iP g b (gC (gM 0) gF))))) (λ_ _ _ _ _=>(gM 0)))) (gM 2)) (gH (kB (iw iX (i5 (iM (gC (iD (gC gO (gC gL (gC gL (gC gL gF))))) (gC (iD (gC gO (gC gL (gC gL (gC gL gF))))) gF)))) (g8 (jx a) (gM 2) gL)) (sf (gM 2) gL))) hR)
   (gG (ib 3 iy.nd (UJ (vQ gO (kX (iM gF)) (vQ gO (kX (iM gF)) (vQ gO (kX (iM gF)) Yd))) rfl rfl (List.cons_ne_nil _ _) (ab rfl)))
   (gG (kh (tj (gC (gM 2) gF) Z.enumerate) (jA (gY (gR 4 iy.nd) (gY (gR 5 iy.nd) iQ))) (gH (kh (tj (gC (gM 5) gF) Z.enumerate) (jA (gY (gR 6 iy.nd) (gY (gR 7 iy.nd) iQ))) (gG (ib 8 iy.nd (g8 (jx a) (gM 7) gL))
   (gG (hV (gZ (uM a) (gM 8) (iD (gC gO (gC gO gF)))) (gH (ib 8 iy.nd gO)) hR)
   (gH (jn (uO jk af bb aF (g8 (jx a) (gM 3) (gM 8)) (gC (iP c b (gC (gM 4) (gC (gM 6) gF))) gF)))))))))
   (gG (ib 9 iy.nd (kX (iM gF)))
   (gG (kh (tj (gC (gM 2) gF) Z.enumerate) (jA (gY (gR 4 iy.nd) (gY (gR 5 iy.nd) iQ))) (gG (ib 10 iy.nd (kX (iM gF)))
   (gG (kh (tj (gC (gM 5) gF) Z.enumerate) (jA (gY (gR 6 iy.nd) (gY (gR 7 iy.nd) iQ))) (gG (jn (uO jk af bb aF (gM 10) (gC (iD (gC gO (gC (iP c b (gC (gM 4) (gC (gM 6) gF))) (gC (Bj (iB b.units) (iw jL (g8 (jx a) (gM 7) gL) gL) gL) gF)))) gF)))
   (gH (jn (uO jk af bb aF (gM 10) (gC (iP h b (gC (gM 7) (gC (g8 (jx a) (gM 3) gO) (gC (g8 (jx a) (gM 3) gO) (gC (g8 (jx a) (gM 3) gO) gF))))) gF))))))
   (gH (jn (uO jk af bb aF (gM 9) (gC (iD (gC (iw iX (g8 (jx a) gO (gM 4)) gO) (gC (aeX 10) gF))) gF)))))))
   (gH (gN (iD (gC (gM 9) (gC (g8 (jx a) (gM 3) gO) gF)))))))))))
abbrev wz:bL:=top 84
noncomputable def SY:BF wz:=⟨_,by walk_at "a"⟩
noncomputable def AL:SF wz:=⟨_,by walk_at "a"⟩
theorem ub:gU ["_law_program_here","_law_found","_law_part","_law_rows"] ["_law_program_here"] AL.1:=by walk_at "c"
def IH:DS:=(gW (iE 1 (lN Gv))
 (gW (pi (jM (gE 0)) (js 2 (hC (gQ 2) (hC (gQ 3) jr))) (OQ (gE 1) (gE 2) (jz (jY [ao] (jM (gE 3)) (gQ 0) (gS (gX Fa (gX ij (gE 0) (dC (.int 0))) (dC (.str "mark")))) (gE 0)))))
 (hW (gE 1))))
theorem S0(D:hG K mg "_law_bare" wz):ny P w K mg cv (k+1) "_law_bare" ["_law_program_here"] (jX K (cl (jB 4 1 IH))):=
 jl D SY.2 AL.2 ub (by walk_at "d") λf iC A dk s H E a=>by
 have b:=ig a;exact(gG (ib 1 ub.nd (kX Bm))
   (gG (kh (jg (gM 0)) (jA (gY (gR 2 ub.nd) (gY (gR 3 ub.nd) iQ))) (gH (FC b (gM 1) (gM 2) (i5 (jC (N:=["_law_row"]) (fr:=[ao]) (iW.of (pb:=["_law_program_here","_law_found","_law_part","_law_rows"]) (jp:=AL.1) (by decide+kernel)) (jg (gM 3)) iZ (λ_ _ _ _ _=>(gR 0 (show bV (["_law_row"]:List ay) by decide+kernel))) (λ_ _ _ _ _=>(Bo (gZ (xI a.units) (g8 (jx b) (gM 0) gL) gO))) (λ_ _ _ _ _=>(gM 0)))))))
   (gH (gN (gM 1)))))
abbrev rJ:bL:=top 85
noncomputable def Nv:BF rJ:=⟨_,by walk_at "a"⟩
noncomputable def Cy:SF rJ:=⟨_,by walk_at "a"⟩
theorem kP:gU ["_law_program_here","_law_found","_law_part","_law_rows","_law_k","_law_row"] ["_law_program_here"] Cy.1:=by walk_at "c"
def Cz:DS:=(gW (iE 1 (lN Gv))
 (gW (pi (jM (gE 0)) (js 2 (hC (gQ 2) (hC (gQ 3) jr))) (gW (iE 4 (dC (.int 0)))
 (pi (jM (gE 3)) (gQ 5) (ii (gS (gX mR (gX ij (gE 5) (dC (.int 0))) (dC (.str "mark")))) (OQ (gE 1) (gX ij (gE 5) (dC (.int 1))) (iT (gD (gE 2) (gD (gE 4) gK)))) (iE 4 (gX i8 (gE 4) (dC (.int 1))))))))
 (hW (gE 1))))
theorem Nw(D:hG K mg "_law_places" rJ):ny P w K mg cv (k+1) "_law_places" ["_law_program_here"] (jX K (cl (jB 6 1 Cz))):=
 jl D Nv.2 Cy.2 kP (by walk_at "d") λf iC A dk s H E b=>by
 have a:=ig b;exact(gG (ib 1 kP.nd (kX Bm))
   (gG (kh (jg (gM 0)) (jA (gY (gR 2 kP.nd) (gY (gR 3 kP.nd) iQ))) (gG (ib 4 kP.nd gL)
   (gH (kh (jg (gM 3)) (gR 5 kP.nd) (gH (hV (gZ (iB b.units) (g8 (jx a) (gM 5) gL) gO) (gH (FC a (gM 1) (g8 (jx a) (gM 5) gL) (iD (gC (gM 2) (gC (gM 4) gF))))) (gH (ib 4 kP.nd (iw iX (gM 4) gL)))))))))
   (gH (gN (gM 1)))))
abbrev rK:bL:=top 86
noncomputable def Ny:BF rK:=⟨_,by walk_at "a"⟩
noncomputable def CB:SF rK:=⟨_,by walk_at "a"⟩
theorem ut:gU ["_law_world","_law_name_here","_law_part","_law_k"] ["_law_world","_law_name_here"] CB.1:=by walk_at "c"
def CC:DS:=(gW (pC (gX ij (gX ij (gE 0) (dC (.str "places"))) (gE 1)) (js 2 (hC (gQ 2) (hC (gQ 3) jr))))
 (hW (gX ij (gX ij (gX ij (gE 0) (dC (.str "bare"))) (gE 2)) (gE 3))))
theorem Nz(D:hG K mg "_law_row_at" rK):ny P w K mg cv (k+1) "_law_row_at" ["_law_world","_law_name_here"] (jX K (uf 4 2 CC)):=
 La D Ny.2 CB.2 ut (by walk_at "d") λf iC A dk s H E b=>by
 have a:=ig b;exact(gG (kB (g8 (jx a) (g8 (jx a) (gM 0) gO) (gM 1)) (jA (gY (gR 2 ut.nd) (gY (gR 3 ut.nd) iQ))))
   (gH (gN (g8 (jx a) (g8 (jx a) (g8 (jx a) (gM 0) gO) (gM 2)) (gM 3)))))
abbrev mQ:bL:=top 87
noncomputable def DY:BF mQ:=⟨_,by walk_at "a"⟩
noncomputable def vj:SF mQ:=⟨_,by walk_at "a"⟩
theorem oS:gU ["_law_world","_law_row","_law_boxes","_law_numbers","_law_place"] ["_law_world","_law_row","_law_boxes"] vj.1:=by walk_at "c"
def vk (kG:GN):DS:=(gW (ii (gS (gX mR (gX ij (gE 1) (dC (.int 0))) (dC (.str "set")))) (pC (gX ij (gE 1) (dC (.int 2))) (uP (gE 2) (gX ij (gE 1) (dC (.int 1))))) (ii (gS (gX mR (gX ij (gE 1) (dC (.int 0))) (dC (.str "add")))) (pC (gX i8 (gX ij (gE 2) (gX ij (gE 1) (dC (.int 1)))) (gX ij (gE 2) (gX ij (gE 1) (dC (.int 2))))) (uP (gE 2) (gX ij (gE 1) (dC (.int 1))))) (ii (gS (gX mR (gX ij (gE 1) (dC (.int 0))) (dC (.str "take")))) (pC (gX (Jl λi j=>.int (i- j)) (gX ij (gE 2) (gX ij (gE 1) (dC (.int 1)))) (gX ij (gE 2) (gX ij (gE 1) (dC (.int 2))))) (uP (gE 2) (gX ij (gE 1) (dC (.int 1))))) (ii (gS (gX mR (gX ij (gE 1) (dC (.int 0))) (dC (.str "say")))) (j8 (Aq "list" iN (gX ij (gE 0) (dC (.str "answers"))) (gD (gX ij (gE 2) (gX ij (gE 1) (dC (.int 1)))) gK))) (ii (gS (gX mR (gX ij (gE 1) (dC (.int 0))) (dC (.str "alike")))) (pC (iG Y6 (gD (gX mR (gX ij (gX ij (gE 0) (dC (.str "places"))) (gX ij (gE 1) (dC (.int 2)))) (gX ij (gX ij (gE 0) (dC (.str "places"))) (gX ij (gE 1) (dC (.int 3))))) gK)) (uP (gE 2) (gX ij (gE 1) (dC (.int 1))))) (ii (gS (gX mR (gX ij (gE 1) (dC (.int 0))) (dC (.str "ask")))) (gW (ii (gS (gX Jy (gX ij (gE 0) (dC (.str "left"))) (jz (ku gK)))) (hW (dC (.str "ask"))) hX)
 (pC (Aq "list" Ub (gX ij (gE 0) (dC (.str "left"))) (gD (dC (.int 0)) gK)) (uP (gE 2) (gX ij (gE 1) (dC (.int 1)))))) (ii (gS (gX mR (gX ij (gE 1) (dC (.int 0))) (dC (.str "load")))) (gW (iE 3 (gX ij (iG kG (gD (gE 0) (gD (gX ij (gE 1) (dC (.int 3))) gK))) (dC (.int 1))))
 (gW (iE 4 (gX ij (gE 2) (gX ij (gE 1) (dC (.int 2)))))
 (gW (ii (Gq (gS (gX Ow (gE 4) (dC (.int 0)))) (gS (gX (Jl λi j=>.bl (decide (j<=i))) (gE 4) (iG m4 (gD (gE 3) gK))))) (hW (dC (.str "place"))) hX)
 (pC (gX ij (gE 3) (gE 4)) (uP (gE 2) (gX ij (gE 1) (dC (.int 1)))))))) hX)))))))
 (hW (dC (.str ""))))
theorem DZ(D:hG K mg "_law_plain_step" mQ)(Z:Zs mg)(c:ie P w K mg cv k "_law_row_at" ["_law_world","_law_name_here"] kG):ny P w K mg cv (k+1) "_law_plain_step" ["_law_world","_law_row","_law_boxes"] (jX K (uf 5 3 (vk kG))):=
 La D DY.2 vj.2 oS (by walk_at "d") λf iC A dk s H E b=>by
 have a:=ig b;exact(gG (hV (gZ (iB b.units) (g8 (jx a) (gM 1) gL) gO) (gH (kB (g8 (jx a) (gM 1) gL) (sf (gM 2) (g8 (jx a) (gM 1) gL)))) (gH (hV (gZ (iB b.units) (g8 (jx a) (gM 1) gL) gO) (gH (kB (iw iX (g8 (jx a) (gM 2) (g8 (jx a) (gM 1) gL)) (g8 (jx a) (gM 2) (g8 (jx a) (gM 1) gL))) (sf (gM 2) (g8 (jx a) (gM 1) gL)))) (gH (hV (gZ (iB b.units) (g8 (jx a) (gM 1) gL) gO) (gH (kB (iw Dc (g8 (jx a) (gM 2) (g8 (jx a) (gM 1) gL)) (g8 (jx a) (gM 2) (g8 (jx a) (gM 1) gL))) (sf (gM 2) (g8 (jx a) (gM 1) gL)))) (gH (hV (gZ (iB b.units) (g8 (jx a) (gM 1) gL) gO) (gH (jn (uO jk af bb aF (g8 (jx a) (gM 0) gO) (gC (g8 (jx a) (gM 2) (g8 (jx a) (gM 1) gL)) gF)))) (gH (hV (gZ (iB b.units) (g8 (jx a) (gM 1) gL) gO) (gH (kB (j_t Y7 Z.int M0 (gC (Bj (iB b.units) (g8 (jx a) (g8 (jx a) (gM 0) gO) (g8 (jx a) (gM 1) gL)) (g8 (jx a) (g8 (jx a) (gM 0) gO) (g8 (jx a) (gM 1) gL))) gF)) (sf (gM 2) (g8 (jx a) (gM 1) gL)))) (gH (hV (gZ (iB b.units) (g8 (jx a) (gM 1) gL) gO) (gG (hV (gZ (GY a) (g8 (jx a) (gM 0) gO) (i5 (iM gF))) (gH (gN gO)) hR)
   (gH (kB (uO RG af PySem.F.slot_list_pop PySem.F.type_list_pop (g8 (jx a) (gM 0) gO) (gC gL gF)) (sf (gM 2) (g8 (jx a) (gM 1) gL))))) (gH (hV (gZ (iB b.units) (g8 (jx a) (gM 1) gL) gO) (gG (ib 3 oS.nd (g8 (jx a) (iP c b (gC (gM 0) (gC (g8 (jx a) (gM 1) gL) gF))) gL))
   (gG (ib 4 oS.nd (g8 (jx a) (gM 2) (g8 (jx a) (gM 1) gL)))
   (gG (hV (mY (qc (gZ Ox (gM 4) gL) (oh (gZ XZ (gM 4) (nA jt Z.len jv (gC (gM 3) gF)))))) (gH (gN gO)) hR)
   (gH (kB (g8 (jx a) (gM 3) (gM 4)) (sf (gM 2) (g8 (jx a) (gM 1) gL))))))) hR)))))))))))))
   (gH (gN gO)))
abbrev wB:bL:=top 88
noncomputable def S5:BF wB:=⟨_,by walk_at "a"⟩
noncomputable def II:SF wB:=⟨_,by walk_at "a"⟩
theorem mq:gU ["_law_world","_law_here","_law_boxes","_law_part","_law_k","_law_row","_law_behind","_law_table","_law_place"] ["_law_world","_law_here","_law_boxes"] II.1:=by walk_at "c"
def IJ (kG:GN)(mK:GN):DS:=(gW (pC (gE 1) (js 2 (hC (gQ 3) (hC (gQ 4) jr))))
 (gW (iE 5 (gX ij (gX ij (gX ij (gE 0) (dC (.str "bare"))) (gE 3)) (gE 4)))
 (gW (iE 6 (iT (gD (gE 3) (gD (gX i8 (gE 4) (dC (.int 1))) gK))))
 (gW (ii (gS (gX mR (gX ij (gE 5) (dC (.int 0))) (dC (.str "stop")))) (hW (iT (gD (dC (.str "stop")) (gD (gE 1) gK)))) hX)
 (gW (ii (gS (gX mR (gX ij (gE 5) (dC (.int 0))) (dC (.str "jump")))) (hW (iT (gD (dC (.str "")) (gD (gX ij (gX ij (gE 0) (dC (.str "places"))) (gX ij (gE 5) (dC (.int 1)))) gK)))) hX)
 (gW (ii (gS (gX mR (gX ij (gE 5) (dC (.int 0))) (dC (.str "jumpif")))) (hW (iT (gD (dC (.str "")) (gD (gX ij (jz (ku (gD (gE 6) (gD (gX ij (gX ij (gE 0) (dC (.str "places"))) (gX ij (gE 5) (dC (.int 2)))) gK)))) (iG Y6 (gD (gX Fa (gX ij (gE 2) (gX ij (gE 5) (dC (.int 1)))) (dC (.int 0))) gK))) gK)))) hX)
 (gW (ii (gS (gX mR (gX ij (gE 5) (dC (.int 0))) (dC (.str "jumpby")))) (gW (iE 7 (gX ij (iG kG (gD (gE 0) (gD (gX ij (gE 5) (dC (.int 2))) gK))) (dC (.int 1))))
 (gW (iE 8 (gX ij (gE 2) (gX ij (gE 5) (dC (.int 1)))))
 (gW (ii (Gq (gS (gX Ow (gE 8) (dC (.int 0)))) (gS (gX (Jl λi j=>.bl (decide (j<=i))) (gE 8) (iG m4 (gD (gE 7) gK))))) (hW (iT (gD (dC (.str "place")) (gD (gE 1) gK)))) hX)
 (hW (iT (gD (dC (.str "")) (gD (gX ij (gX ij (gE 0) (dC (.str "places"))) (gX ij (gE 7) (gE 8))) gK))))))) hX)
 (gW (ii (gS (gX mR (gX ij (gE 5) (dC (.int 0))) (dC (.str "call")))) (gW (ii (gS (gX (Jl λi j=>.bl (decide (j<=i))) (iG m4 (gD (gX ij (gE 0) (dC (.str "kept"))) gK)) (dC (.int 40)))) (hW (iT (gD (dC (.str "deep")) (gD (gE 1) gK)))) hX)
 (gW (j8 (Aq "list" iN (gX ij (gE 0) (dC (.str "kept"))) (gD (gE 6) gK)))
 (hW (iT (gD (dC (.str "")) (gD (gX ij (gX ij (gE 0) (dC (.str "places"))) (gX ij (gE 5) (dC (.int 1)))) gK)))))) hX)
 (gW (ii (gS (gX mR (gX ij (gE 5) (dC (.int 0))) (dC (.str "back")))) (gW (ii (gS (gX Jy (gX ij (gE 0) (dC (.str "kept"))) (jz (ku gK)))) (hW (iT (gD (dC (.str "empty")) (gD (gE 1) gK)))) hX)
 (hW (iT (gD (dC (.str "")) (gD (Aq "list" Ub (gX ij (gE 0) (dC (.str "kept"))) gK) gK))))) hX)
 (hW (iT (gD (iG mK (gD (gE 0) (gD (gE 5) (gD (gE 2) gK)))) (gD (gE 6) gK)))))))))))))
theorem S6(D:hG K mg "_law_step" wB)(Z:Zs mg)(c:ie P w K mg cv k "_law_row_at" ["_law_world","_law_name_here"] kG)(e:ie P w K mg cv k "_law_plain_step" ["_law_world","_law_row","_law_boxes"] mK):ny P w K mg cv (k+1) "_law_step" ["_law_world","_law_here","_law_boxes"] (jX K (uf 9 3 (IJ kG mK))):=
 La D S5.2 II.2 mq (by walk_at "d") λf iC A dk s H E b=>by
 have a:=ig b;exact(gG (kB (gM 1) (jA (gY (gR 3 mq.nd) (gY (gR 4 mq.nd) iQ))))
   (gG (ib 5 mq.nd (g8 (jx a) (g8 (jx a) (g8 (jx a) (gM 0) gO) (gM 3)) (gM 4)))
   (gG (ib 6 mq.nd (iD (gC (gM 3) (gC (iw iX (gM 4) gL) gF))))
   (gG (hV (gZ (iB b.units) (g8 (jx a) (gM 5) gL) gO) (gH (gN (iD (gC gO (gC (gM 1) gF))))) hR)
   (gG (hV (gZ (iB b.units) (g8 (jx a) (gM 5) gL) gO) (gH (gN (iD (gC gO (gC (g8 (jx a) (g8 (jx a) (gM 0) gO) (g8 (jx a) (gM 5) gL)) gF))))) hR)
   (gG (hV (gZ (iB b.units) (g8 (jx a) (gM 5) gL) gO) (gH (gN (iD (gC gO (gC (g8 (jx a) (i5 (iM (gC (gM 6) (gC (g8 (jx a) (g8 (jx a) (gM 0) gO) (g8 (jx a) (gM 5) gL)) gF)))) (j_t Y7 Z.int M0 (gC (Bj (xI b.units) (g8 (jx a) (gM 2) (g8 (jx a) (gM 5) gL)) gL) gF))) gF))))) hR)
   (gG (hV (gZ (iB b.units) (g8 (jx a) (gM 5) gL) gO) (gG (ib 7 mq.nd (g8 (jx a) (iP c b (gC (gM 0) (gC (g8 (jx a) (gM 5) gL) gF))) gL))
   (gG (ib 8 mq.nd (g8 (jx a) (gM 2) (g8 (jx a) (gM 5) gL)))
   (gG (hV (mY (qc (gZ Ox (gM 8) gL) (oh (gZ XZ (gM 8) (nA jt Z.len jv (gC (gM 7) gF)))))) (gH (gN (iD (gC gO (gC (gM 1) gF))))) hR)
   (gH (gN (iD (gC gO (gC (g8 (jx a) (g8 (jx a) (gM 0) gO) (g8 (jx a) (gM 7) (gM 8))) gF)))))))) hR)
   (gG (hV (gZ (iB b.units) (g8 (jx a) (gM 5) gL) gO) (gG (hV (gZ XZ (nA jt Z.len jv (gC (g8 (jx a) (gM 0) gO) gF)) gL) (gH (gN (iD (gC gO (gC (gM 1) gF))))) hR)
   (gG (jn (uO jk af bb aF (g8 (jx a) (gM 0) gO) (gC (gM 6) gF)))
   (gH (gN (iD (gC gO (gC (g8 (jx a) (g8 (jx a) (gM 0) gO) (g8 (jx a) (gM 5) gL)) gF))))))) hR)
   (gG (hV (gZ (iB b.units) (g8 (jx a) (gM 5) gL) gO) (gG (hV (gZ (GY a) (g8 (jx a) (gM 0) gO) (i5 (iM gF))) (gH (gN (iD (gC gO (gC (gM 1) gF))))) hR)
   (gH (gN (iD (gC gO (gC (acR RG af PySem.F.slot_list_pop PySem.F.type_list_pop (g8 (jx a) (gM 0) gO)) gF)))))) hR)
   (gH (gN (iD (gC (iP e b (gC (gM 0) (gC (gM 5) (gC (gM 2) gF)))) (gC (gM 6) gF))))))))))))))
abbrev zu:bL:=top 89
noncomputable def WD:BF zu:=⟨_,by walk_at "a"⟩
noncomputable def LC:SF zu:=⟨_,by walk_at "a"⟩
theorem nJ:gU ["_law_program_here","_law_start","_law_inputs","_law_steps","_law_world","_law_boxes","_law_here","_law_turn","_law_word"] ["_law_program_here","_law_start","_law_inputs","_law_steps"] LC.1:=by walk_at "c"
def LD (rq:GN)(v8:GN)(v9:GN):DS:=(gW (iE 4 (HH [((dC (.str "bare")),(iG v8 (gD (gE 0) gK))),((dC (.str "places")),(iG rq (gD (gE 0) gK))),((dC (.str "answers")),(lN (ku gK))),((dC (.str "kept")),(lN (ku gK)))]))
 (gW (OQ (gE 4) (dC (.str "left")) (lN (WU vM (gD (gE 2) gK))))
 (gW (iE 5 (lN (ku (gD (dC (.int 0)) (gD (dC (.int 0)) (gD (dC (.int 0)) (gD (dC (.int 0)) gK)))))))
 (gW (iE 6 (gX ij (gX ij (gE 4) (dC (.str "places"))) (gE 1)))
 (gW (pi (xH (gD (gE 3) gK)) (gQ 7) (gW (pC (iG v9 (gD (gE 4) (gD (gE 6) (gD (gE 5) gK)))) (js 2 (hC (gQ 8) (hC (gQ 6) jr))))
 (ii (gS (gX Fa (gE 8) (dC (.str "")))) (hW (iT (gD (gX ij (gE 4) (dC (.str "answers"))) (gD (gE 8) gK)))) hX)))
 (hW (iT (gD (gX ij (gE 4) (dC (.str "answers"))) (gD (dC (.str "steps")) gK)))))))))
theorem WE(D:hG K mg "_law_run" zu)(Z:Zs mg)(c:ie P w K mg cv k "_law_places" ["_law_program_here"] rq)(e:ie P w K mg cv k "_law_bare" ["_law_program_here"] v8)(g:ie P w K mg cv k "_law_step" ["_law_world","_law_here","_law_boxes"] v9):ny P w K mg cv (k+1) "_law_run" ["_law_program_here","_law_start","_law_inputs","_law_steps"] (jX K (cl (jB 9 4 (LD rq v8 v9)))):=
 jl D WD.2 LC.2 nJ (by walk_at "d") λf iC A dk s H E a=>by
 have b:=ig a;exact(gG (ib 4 nJ.nd (UJ (vQ gO (iP e a (gC (gM 0) gF)) (vQ gO (iP c a (gC (gM 0) gF)) (vQ gO (kX (iM gF)) (vQ gO (kX (iM gF)) Yd)))) rfl rfl (List.cons_ne_nil _ _) (ab rfl)))
   (gG (FC b (gM 4) gO (kX (RD uN Z.list oH (gC (gM 2) gF))))
   (gG (ib 5 nJ.nd (kX (iM (gC gL (gC gL (gC gL (gC gL gF)))))))
   (gG (ib 6 nJ.nd (g8 (jx b) (g8 (jx b) (gM 4) gO) (gM 1)))
   (gG (kh (pE (gC (gM 3) gF) Z.range) (gR 7 nJ.nd) (gG (kB (iP g a (gC (gM 4) (gC (gM 6) (gC (gM 5) gF)))) (jA (gY (gR 8 nJ.nd) (gY (gR 6 nJ.nd) iQ))))
   (gH (hV (gZ (xI a.units) (gM 8) gO) (gH (gN (iD (gC (g8 (jx b) (gM 4) gO) (gC (gM 8) gF))))) hR))))
   (gH (gN (iD (gC (g8 (jx b) (gM 4) gO) (gC gO gF))))))))))
abbrev uc:bL:=top 90
noncomputable def Qh:BF uc:=⟨_,by walk_at "a"⟩
noncomputable def yv:SF uc:=⟨_,by walk_at "a"⟩
theorem NB:gU ["_law_found","_law_due"] ["_law_found","_law_due"] yv.1:=by walk_at "c"
def yw (K:bz):DS:=(gW (ii (Gq (ph (gS (iG (lu K) (gD (gE 0) (gD (dC (.ty "tuple")) gK))))) (Gq (gS (gX Fa (iG m4 (gD (gE 0) gK)) (dC (.int 2)))) (Gq (ph (gS (iG (lu K) (gD (gX ij (gE 0) (dC (.int 0))) (gD (dC (.ty "list")) gK))))) (gS (gX Fa (gE 0) (gE 1)))))) (hW (dC (.bl ar))) hX)
 (hW (iG RA (gD (jz (jY [ao] (jM (gX ij (gE 0) (dC (.int 0)))) (gQ 0) r6 (Ex (iG (lu K) (gD (gE 0) (gD (dC (.ty "int")) gK))) (XO (iG (lu K) (gD (gE 0) (gD (dC (.ty "bool")) gK))))))) gK))))
theorem Qi(D:hG K mg "_law_right" uc)(Z:Zs mg):ny P w K mg cv (k+1) "_law_right" ["_law_found","_law_due"] (jX K (cl (jB 2 2 (yw K)))):=
 jl D Qh.2 yv.2 NB (by walk_at "d") λf iC A dk s H E a=>by
 have b:=ig a;exact(gG (hV (mY (qc (jT (jf (nA jI Z.isinstance hU (gC (gM 0) (gC (xh Z.tuple qu) gF))))) (qc (gZ (xI a.units) (nA jt Z.len jv (gC (gM 0) gF)) gL) (qc (jT (jf (nA jI Z.isinstance hU (gC (g8 (jx b) (gM 0) gL) (gC (xh Z.list oH) gF))))) (oh (gZ (xI a.units) (gM 0) (gM 1))))))) (gH (gN xg)) hR)
   (gH (gN (nA GO Z.all HL (gC (i5 (jC (N:=["_law_one"]) (fr:=[ao]) (iW.of (pb:=["_law_found","_law_due"]) (jp:=yv.1) (by decide+kernel)) (jg (g8 (jx b) (gM 0) gL)) iZ (λ_ _ _ _ _=>(gR 0 (show bV (["_law_one"]:List ay) by decide+kernel))) (λ_ _ _ _ _=>j3) (λ_ _ _ _ _=>(Gr (nA jI Z.isinstance hU (gC (gM 0) (gC (xh Z.int M0) gF))) (Op (acI (nA jI Z.isinstance hU (gC (gM 0) (gC (xh Z.bool MZ) gF))))))))) gF)))))
abbrev Zv:bL:=top 91
noncomputable def acW:BF Zv:=⟨_,by walk_at "a"⟩
noncomputable def IK:SF Zv:=⟨_,by walk_at "a"⟩
theorem oT:gU ["_law_script","_law_first","_law_program_here","_law_code","_law_start","_law_far","_law_asked","_law_inputs","_law_steps","_law_limit","_law_due","_law_kept","_law_handed","_law_found"] ["_law_script"] IK.1:=by walk_at "c"
def acX (ka:GN)(kb:GN)(pV:GN)(rS:GN)(lh:GN)(lq:GN):DS:=(gW (iE 1 (iG ka (gD (iG kb (gD (gE 0) (gD (dC (.int 0)) gK))) (gD (jz (ku (gD (dC (.int 4)) (gD (dC (.int 4)) gK)))) gK))))
 (gW (pC (iG pV (gD (jz (jY [ao,aa 0] (xH (gD (gX i8 (dC (.int 1)) (gX ij (gE 1) (dC (.int 0)))) gK)) (gQ 0) r6 (iG kb (gD (gE 1) (gD (gX i8 (dC (.int 4)) (gE 0)) gK))))) (gD (dC (.int 11)) gK))) (js 2 (hC (gQ 2) (hC (gQ 3) jr))))
 (gW (iE 4 (gX ij (gE 3) (gX (gI (λ_ j=>0<j) λi j=>.int (i%j)) (iG kb (gD (gE 0) (gD (dC (.int 1)) gK))) (iG m4 (gD (gE 3) gK)))))
 (gW (iE 5 (gX (gI Vc λi j=>.int (i^j.toNat)) (dC (.int 10)) (dC (.int 20))))
 (gW (iE 6 (iG ka (gD (iG kb (gD (gE 0) (gD (dC (.int 2)) gK))) (gD (gX i8 (jz (ku (gD (dC (.int 13)) gK))) (gX xj (jz (ku (gD (dC (.int 3)) (gD (gX xj (dC (.int 2)) (gE 5)) gK)))) (dC (.int 12)))) gK))))
 (gW (iE 7 (jz (jY [ao,aa 6,aa 5] (xH (gD (gX ij (gE 6) (dC (.int 0))) gK)) (gQ 0) r6 (gX ij (jz (ku (gD (gX (Jl λi j=>.int (i- j)) (gX ij (gE 1) (gX i8 (dC (.int 2)) (gX xj (dC (.int 2)) (gE 0)))) (gE 2)) (gD (gX (gI (λ_ j=>0<j) λi j=>.int (i%j)) (gX ij (gE 1) (gX i8 (dC (.int 2)) (gX xj (dC (.int 2)) (gE 0)))) (dC (.int 5))) (gD (dC (.int 0)) gK))))) (gX ij (gE 1) (gX i8 (dC (.int 1)) (gX xj (dC (.int 2)) (gE 0))))))))
 (gW (iE 8 (iG ka (gD (iG kb (gD (gE 0) (gD (dC (.int 3)) gK))) (gD (jz (ku (gD (dC (.int 3)) (gD (dC (.int 501)) gK)))) gK))))
 (gW (iE 9 (gX ij (jz (ku (gD (gX ij (gE 8) (dC (.int 1))) (gD (gX (gI (λ_ j=>0<j) λi j=>.int (i%j)) (gX ij (gE 8) (dC (.int 1))) (dC (.int 30))) (gD (dC (.int 500)) gK))))) (gX ij (gE 8) (dC (.int 0)))))
 (gW (iE 10 (iG rS (gD (gE 2) (gD (gE 4) (gD (gE 7) (gD (gE 9) gK))))))
 (gW (iE 11 (jz (jY [ao,ao] (jM (gE 2)) (js 2 (hC (gQ 0) (hC (gQ 1) jr))) r6 (iT (gD (gE 0) (gD (jz (WU vM (gD (gE 1) gK))) gK))))))
 (gW (iE 12 (jz (WU vM (gD (gE 7) gK))))
 (gW (iE 13 (iG lh (gD (gE 2) (gD (gE 4) (gD (gE 12) (gD (gE 9) gK))))))
 (gW (ii (Gq (ph (gS (iG lq (gD (gE 13) (gD (gE 10) gK))))) (Gq (gS (gX Fa (gE 12) (gE 7))) (gS (gX Fa (gE 2) (gE 11))))) (hW (dC (.bl ar))) hX)
 (gW (j8 (Aq "list" iN (gX ij (gE 13) (dC (.int 0))) (gD (dC (.int 7)) gK)))
 (hW (iG lq (gD (iG lh (gD (gE 2) (gD (gE 4) (gD (gE 12) (gD (gE 9) gK))))) (gD (gE 10) gK))))))))))))))))))
theorem ag7(Z:Zs mg)(e:ie P w K mg cv k "_law_parts" ["_law_cell","_law_sizes"] ka)(c:ie P w K mg cv k "_law_cell_at" ["_law_script","_law_k"] kb)(j:ie P w K mg cv k "_law_program" ["_law_cells","_law_most"] pV)(m:ie P w K mg cv k "_law_run" ["_law_program_here","_law_start","_law_inputs","_law_steps"] rS)(g:ie P w K mg cv k "run_names" ["parts","start","inputs","steps"] lh)(h:ie P w K mg cv k "_law_right" ["_law_found","_law_due"] lq)(f:ak)(iC:ae)(A:bv)(dk:List ajk)(s:aq)(H:Hp)(E:XK)(a:jU k (A.deeper (d7 "law" IK.1 s.heap.objs.size f iC))):
  Ou (vC p8 P w K mg cv ["_law_script","_law_first","_law_program_here","_law_code","_law_start","_law_far","_law_asked","_law_inputs","_law_steps","_law_limit","_law_due","_law_kept","_law_handed","_law_found"] "law" IK.1 f iC A dk s H E).KI acW.1 (acX ka kb pV rS lh lq):=by
 have b:=ig a;exact(gG (ib 1 oT.nd (iP e a (gC (iP c a (gC (gM 0) (gC gL gF))) (gC (i5 (iM (gC gL (gC gL gF)))) gF))))
   (gG (kB (iP j a (gC (i5 (jC (N:=["_law_k","_law_script"]) (fr:=[ao,aa 0]) (iW.of (pb:=["_law_script","_law_first","_law_program_here","_law_code","_law_start","_law_far","_law_asked","_law_inputs","_law_steps","_law_limit","_law_due","_law_kept","_law_handed","_law_found"]) (jp:=IK.1) (by decide+kernel)) (pE (gC (iw iX gL (g8 (jx b) (gM 1) gL)) gF) Z.range) iZ (λ_ _ _ _ _=>(gR 0 (show bV (["_law_k","_law_script"]:List ay) by decide+kernel))) (λ_ _ _ _ _=>j3) (λ_ _ _ _ _=>(iP c a (gC (gM 1) (gC (iw iX gL (gM 0)) gF)))))) (gC gL gF))) (jA (gY (gR 2 oT.nd) (gY (gR 3 oT.nd) iQ))))
   (gG (ib 4 oT.nd (g8 (jx b) (gM 3) (iw jL (iP c a (gC (gM 0) (gC gL gF))) (nA jt Z.len jv (gC (gM 3) gF)))))
   (gG (ib 5 oT.nd (iw Rr gL gL))
   (gG (ib 6 oT.nd (iP e a (gC (iP c a (gC (gM 0) (gC gL gF))) (gC (iw iX (i5 (iM (gC gL gF))) (iw nB (i5 (iM (gC gL (gC (iw nB gL (gM 5)) gF)))) gL)) gF))))
   (gG (GA 7 oT.nd (N:=["_law_k","_law_asked","_law_far"]) (fr:=[ao,aa 6,aa 5]) (iW.of (pb:=["_law_script","_law_first","_law_program_here","_law_code","_law_start","_law_far","_law_asked","_law_inputs","_law_steps","_law_limit","_law_due","_law_kept","_law_handed","_law_found"]) (jp:=IK.1) (by decide+kernel)) (pE (gC (g8 (jx b) (gM 6) gL) gF) Z.range) iZ (λ_ _ _ _ _=>(gR 0 (show bV (["_law_k","_law_asked","_law_far"]:List ay) by decide+kernel))) (λ_ _ _ _ _=>j3) (λ_ _ _ _ _=>(g8 (jx b) (i5 (iM (gC (iw Dc (g8 (jx b) (gM 1) (iw iX gL (iw nB gL (gM 0)))) (gM 2)) (gC (iw jL (g8 (jx b) (gM 1) (iw iX gL (iw nB gL (gM 0)))) gL) (gC gL gF))))) (g8 (jx b) (gM 1) (iw iX gL (iw nB gL (gM 0)))))))
   (gG (ib 8 oT.nd (iP e a (gC (iP c a (gC (gM 0) (gC gL gF))) (gC (i5 (iM (gC gL (gC gL gF)))) gF))))
   (gG (ib 9 oT.nd (g8 (jx b) (i5 (iM (gC (g8 (jx b) (gM 8) gL) (gC (iw jL (g8 (jx b) (gM 8) gL) gL) (gC gL gF))))) (g8 (jx b) (gM 8) gL)))
   (gG (ib 10 oT.nd (iP m a (gC (gM 2) (gC (gM 4) (gC (gM 7) (gC (gM 9) gF))))))
   (gG (GA 11 oT.nd (N:=["_law_part","_law_rows"]) (fr:=[ao,ao]) (iW.of (pb:=["_law_script","_law_first","_law_program_here","_law_code","_law_start","_law_far","_law_asked","_law_inputs","_law_steps","_law_limit","_law_due","_law_kept","_law_handed","_law_found"]) (jp:=IK.1) (by decide+kernel)) (jg (gM 2)) (Mg (uQ iZ (uQ iZ Rq))) (λ_ _ _ _ _=>(jA (gY (gR 0 (show bV (["_law_part","_law_rows"]:List ay) by decide+kernel)) (gY (gR 1 (show bV (["_law_part","_law_rows"]:List ay) by decide+kernel)) iQ)))) (λ_ _ _ _ _=>j3) (λ_ _ _ _ _=>(iD (gC (gM 0) (gC (i5 (RD uN Z.list oH (gC (gM 1) gF))) gF)))))
   (gG (ib 12 oT.nd (i5 (RD uN Z.list oH (gC (gM 7) gF))))
   (gG (ib 13 oT.nd (iP g a (gC (gM 2) (gC (gM 4) (gC (gM 12) (gC (gM 9) gF))))))
   (gG (hV (mY (qc (jT (jf (iP h a (gC (gM 13) (gC (gM 10) gF))))) (qc (gZ (xI a.units) (gM 12) (gM 7)) (oh (gZ (xI a.units) (gM 2) (gM 11)))))) (gH (gN xg)) hR)
   (gG (jn (uO jk af bb aF (g8 (jx b) (gM 13) gL) (gC gL gF)))
   (gH (gN (iP h a (gC (iP g a (gC (gM 2) (gC (gM 4) (gC (gM 12) (gC (gM 9) gF))))) (gC (gM 10) gF)))))))))))))))))))
end
end uG
namespace uG
open PySem PySem.Spec PyProof.Rows.KTD L2 L3 FJ
noncomputable def lbD(b:Br):D:=.kt (kA b) (vA (λrs=>.lst (rs.map Rw.d)) b)
noncomputable def wks:List Key:=[.inr "bare",.inr "places",.inr "answers",.inr "kept",.inr "left"]
noncomputable def lM(k:RC)(s:RS):Ms:=[aa (.kt wks [lbD k.b,rj k.pl,.loc 1,.loc 2,.loc 3]),aa (.lst (s.yb.map .int)),aa (.lst (s.kept.map j7)),aa (.lst ((k.ins.drop s.used).map .int)),aa (.lst (s.bx.map .int))]
theorem Zw{pl:List (ay×Pl)}{w:ay}{p:Pl}(h:iJ w pl=aa p):pq (.inr w) (kA pl) (vA j7 pl)=aa (j7 p):=by rw[uj,h];rfl
theorem acY{b:Br}{n:ay}{rs:List Rw}(h:iJ n b=aa rs):pq (.inr n) (kA b) (vA (λrs=>D.lst (rs.map Rw.d)) b)=aa (.lst (rs.map Rw.d)):=by rw[uj,h];rfl
theorem abR{pl:List (ay×Pl)}{w:ay}(h:(iJ w pl).isSome=ag):iJ w pl=aa (fd pl w):=by
 unfold fd;cases e:iJ w pl with
 |none=>rw[e] at h;cases h
 |some p=>rfl
def Ax (P:RC->GN):GN:=λds M Q=>∃k,P k ds M Q
theorem NC{P:RC->GN}(h:∀k,jW (P k)):jW (Ax P):=by
 rintro ds M A B w ⟨k,q⟩
 exact⟨k,h k _ _ _ _ w q⟩
def yx (k:RC):GN:=λds M Q=>∃(s:RS) (w:ay) (r:Rw),ds=[.loc 0,.str w]/\M=lM k s/\(iJ w k.pl).isSome=ag/\pA k.b (fd k.pl w)=aa r/\Q r.d M
theorem Kv{k:RC}:jW (yx k):=by
 rintro ds M P Q w ⟨s,x,r,a,b,c,e,q⟩
 exact⟨s,x,r,a,b,c,e,w _ _ q⟩
theorem WH{k:RC}:∀ds M Q,yx k ds M Q->uf 4 2 CC ds M Q:=by
 rintro ds M Q ⟨s,w,r,a,b,c,e,q⟩
 subst a b;obtain⟨rs,f,g⟩:=x6 e;refine⟨rfl,?_⟩;refine⟨.inr "places",_,rfl,rfl,?_⟩;refine⟨.inr w,_,rfl,Zw (abR c),rfl,rfl,?_⟩;refine⟨.inr "bare",_,rfl,rfl,?_⟩;refine⟨.inr (fd k.pl w).1,_,rfl,acY f,?_⟩;refine⟨r.d,lx (by rw[aS,g];rfl),q⟩
theorem Zx{i j:Nat}{a:pd}{M:Ms}{R:Bool->Ms->Prop}{n:Int}{xs:List D}(hi:a[i]?=aa (aa (.int n)))(b:a[j]?=aa (aa (.lst xs)))(q:R (!decide (0<=n/\n<xs.length)) M):
  Gq (gS (gX Ow (gE i) (dC (.int 0)))) (gS (gX (Jl λi j=>.bl (decide (j<=i))) (gE i) (iG m4 (gD (gE j) gK)))) a M R:=by
 have v1:∀Q:DK,gE i a M Q=Q (.int n) M:=λQ=>by unfold gE;rw[hi]
 have c:∀Q:DK,gE j a M Q=Q (.lst xs) M:=λQ=>by unfold gE;rw[b]
 unfold Gq gS gX;rw[v1];show(if decide (n<0)=ag then R ag M else _);by_cases h:n<0
 .rw[if_pos (decide_eq_true h)];rw[decide_eq_false (λz=>by omega)] at q;exact q
 .rw[if_neg (by rw[decide_eq_true_eq];exact h)];rw[v1];unfold iG gD;rw[c];show∃m:Nat,aa xs.length=aa m/\R (decide ((m:Int)<=n)) M;refine⟨_,rfl,?_⟩;have e:(!decide (0<=n/\n<xs.length))=decide ((xs.length:Int)<=n):=by
   by_cases z:(xs.length:Int)<=n
   .rw[decide_eq_true z,decide_eq_false (λy=>by omega)];rfl
   .rw[decide_eq_false z,decide_eq_true (by omega)];rfl
  rw[e] at q;exact q
theorem Zy{i j:Nat}{a:pd}{M:Ms}{E:nN}{b:DE}{v:DS}{n:Int}{xs:List D}(hi:a[i]?=aa (aa (.int n)))(c:a[j]?=aa (aa (.lst xs)))(e:¬(0<=n/\n<xs.length)->b a M E.rt)(f:(0<=n/\n<xs.length)->v E a M):
  gW (ii (Gq (gS (gX Ow (gE i) (dC (.int 0)))) (gS (gX (Jl λi j=>.bl (decide (j<=i))) (gE i) (iG m4 (gD (gE j) gK))))) (hW b) hX) v E a M:=by
 unfold gW ii;refine Zx hi c ?_;by_cases h:0<=n/\n<xs.length
 .rw[decide_eq_true h];exact f h
 .rw[decide_eq_false h];exact e h
def FP (k:RC):GN:=λds M Q=>∃(s:RS) (r:Rw),MQ k s/\HE k r/\YZ r=ag/\s.yb.length<1000000/\ds=[.loc 0,r.d,.loc 4]/\M=lM k s/\Q (.str ((BY k r s).2.getD "")) (lM k (BY k r s).1)
theorem ND{k:RC}:jW (FP k):=by
 rintro ds M P Q w ⟨s,r,a,b,c,e,f,g,q⟩
 exact⟨s,r,a,b,c,e,f,g,w _ _ q⟩
theorem D6{k:RC}{s:RS}{x:Int}{v:Int}:[aa (OD.kt wks [lbD k.b,rj k.pl,.loc 1,.loc 2,.loc 3]),aa (.lst (s.yb.map .int)),aa (.lst (s.kept.map j7)),aa (.lst ((k.ins.drop s.used).map .int)),aa (.lst ((s.bx.map .int).set x.toNat (.int v)))]=lM k (sb s x v):=by rw[rp];rfl
theorem Zz{k:RC}:∀ds M Q,FP k ds M Q->uf 5 3 (vk (Ax yx)) ds M Q:=by
 rintro ds M Q ⟨s,r,a,c,g,j,o,p,q⟩
 subst o p;have ok:=c.ok;cases r<;>first|(cases g;done)|skip
 case set x n=>
  refine⟨rfl,?_⟩;walk_at "b";refine⟨_,oB a.b4 (C0 ok),?_⟩;show Q (.str "") [_,_,_,_,aa (.lst ((s.bx.map D.int).set x.toNat (.int n)))];rw[D6];exact q
 case add x y=>
  refine⟨rfl,?_⟩;walk_at "b";refine⟨_,mV a.b4 (C0 ok),_,rfl,_,mV a.b4 (bb2 ok),?_⟩;refine⟨_,rfl,_,oB a.b4 (C0 ok),?_⟩;show Q (.str "") [_,_,_,_,aa (.lst ((s.bx.map D.int).set x.toNat (.int _)))];rw[D6];exact q
 case take x y=>
  refine⟨rfl,?_⟩;walk_at "b";refine⟨_,mV a.b4 (C0 ok),_,rfl,_,mV a.b4 (bb2 ok),?_⟩;refine⟨_,rfl,_,oB a.b4 (C0 ok),?_⟩;show Q (.str "") [_,_,_,_,aa (.lst ((s.bx.map D.int).set x.toNat (.int _)))];rw[D6];exact q
 case say x=>
  refine⟨rfl,?_⟩;walk_at "b";refine⟨_,_,rfl,rfl,rfl,_,rfl,_,mV a.b4 ok,_,rfl,?_,?_⟩
  .rw[ai];exact bB j (by decide)
  .show Q (.str "") [_,aa (.lst (s.yb.map D.int++[.int (gb s x)])),_,_,_];rw[show s.yb.map D.int++[.int (gb s x)]=(s.yb++[gb s x]).map D.int by rw[aX];rfl];exact q
 case alike x w v=>
  obtain⟨u,A⟩:=c.al x w v rfl;refine⟨rfl,?_⟩;walk_at "b";refine⟨_,_,rfl,rfl,_,rfl,_,_,rfl,m5 (c.WX _ av),_,_,rfl,rfl,_,rfl,_,_,rfl,m5 (c.WX _ (aH _ av)),⟨u,A,?_,?_⟩,?_⟩
  .show dp (.tup [.str _,.int _])<=60;simp[dp,FA]
  .show dp (.tup [.str _,.int _])<=60;simp[dp,FA]
  have B:Bt (vw (lM k s) (j7 (fd k.pl w))) (vw (lM k s) (j7 (fd k.pl v)))=decide (fd k.pl w=fd k.pl v):=Y0 (fd k.pl w) (fd k.pl v);dsimp only;rw[B];have q:Q (.str "") (lM k (sb s x (if fd k.pl w=fd k.pl v then 1 else 0))):=q;by_cases h:fd k.pl w=fd k.pl v
  .rw[decide_eq_true h];rw[if_pos h] at q;refine⟨_,rfl,_,oB a.b4 (C0 (C0 ok)),?_⟩;show Q (.str "") [_,_,_,_,aa (.lst ((s.bx.map D.int).set x.toNat (.int _)))];rw[D6];exact q
  .rw[decide_eq_false h];rw[if_neg h] at q;refine⟨_,rfl,_,oB a.b4 (C0 (C0 ok)),?_⟩;show Q (.str "") [_,_,_,_,aa (.lst ((s.bx.map D.int).set x.toNat (.int _)))];rw[D6];exact q
 case ask x=>
  have q:Q (.str ((BX k.ins x s).2.getD "")) (lM k (BX k.ins x s).1):=q;have us:=a.us;cases hd:k.ins.drop s.used with
  |nil=>
   have i:s.used=k.ins.length:=by have:=congrArg fw hd;rw[e9,bj] at this;omega
   have e:lM k s=[aa (.kt wks [lbD k.b,rj k.pl,.loc 1,.loc 2,.loc 3]),aa (.lst (s.yb.map .int)),aa (.lst (s.kept.map j7)),aa (.lst []),aa (.lst (s.bx.map .int))]:=by unfold lM;rw[hd];rfl
   unfold BX at q;rw[if_pos i] at q;dsimp only at q;rw[e] at q |-;refine⟨rfl,?_⟩;walk_at "b";refine⟨_,_,rfl,rfl,?_⟩;walk_at "b";exact q
  |cons v f=>
   have i:s.used<k.ins.length:=by have:=congrArg fw hd;rw[e9,aU] at this;omega
   have c:k.ins.getD s.used 0=v:=by have:=congrArg List.head? hd;rw[List.head?_drop] at this;rw[bu,this];rfl
   have g:k.ins.drop (s.used+1)=f:=by have:=congrArg List.tail hd;rw[List.tail_drop] at this;exact this
   have e:lM k s=[aa (.kt wks [lbD k.b,rj k.pl,.loc 1,.loc 2,.loc 3]),aa (.lst (s.yb.map .int)),aa (.lst (s.kept.map j7)),aa (.lst (.int v::f.map .int)),aa (.lst (s.bx.map .int))]:=by unfold lM;rw[hd];rfl
   unfold BX at q;rw[if_neg (by omega),c] at q;rw[e];refine⟨rfl,?_⟩;walk_at "b";refine⟨_,_,rfl,rfl,?_⟩;walk_at "b";refine⟨_,_,rfl,rfl,rfl,_,_,rfl,?_⟩;walk_at "b";refine⟨_,oB a.b4 ok,?_⟩;have z:[aa (OD.kt wks [lbD k.b,rj k.pl,.loc 1,.loc 2,.loc 3]),aa (.lst (s.yb.map .int)),aa (.lst (s.kept.map j7)),aa (.lst (f.map .int)),aa (.lst ((s.bx.map .int).set x.toNat (.int v)))]=lM k {sb s x v with used:=s.used+1}:=by unfold lM;dsimp only;rw[g,rp];rfl
   show Q (.str "") [_,_,_,aa (.lst (f.map .int)),aa (.lst ((s.bx.map D.int).set x.toNat (.int v)))];rw[z];exact q
 case load x y w=>
  obtain⟨ns,e⟩:=c.ld x y w rfl;have q:Q (.str ((mU x (gb s y) ns s).2.getD "")) (lM k (mU x (gb s y) ns s).1):=by
   have:BY k (.load x y w) s=mU x (gb s y) ns s:=by show(match pA k.b (fd k.pl w) with|some (.numbers ns)=>mU x (gb s y) ns s|_=>(s,ao))=_;rw[e]
   rw[this] at q;exact q
  refine⟨rfl,?_⟩;walk_at "b";refine⟨k,s,w,.numbers ns,rfl,rfl,c.WX _ av,e,?_⟩;refine⟨_,rfl,_,rfl,_,mV a.b4 (bb2 (C0 ok)),?_⟩;dsimp only;unfold mU at q;refine Zy (n:=gb s y) (xs:=ns.map D.int) ?_ ?_ (λh=>?_) (λh=>?_)
  .rfl
  .rfl
  .rw[ai] at h;rw[if_neg h] at q;exact q
  .rw[ai] at h;rw[if_pos h] at q;have lt:(gb s y).toNat<ns.length:=by omega
   have C:vE (ns.map D.int) (gb s y)=aa (.int (ns.getD (gb s y).toNat 0)):=by obtain⟨m,hm⟩:∃m:Nat,gb s y=m:=⟨(gb s y).toNat,by omega⟩;rw[hm] at lt |-;rw[cT] at lt |-;refine lx ?_;rw[aS,aJ lt,bu,aJ lt];rfl
   refine⟨_,C,?_⟩;refine⟨_,rfl,_,oB a.b4 (C0 (C0 ok)),?_⟩;show Q (.str "") [_,_,_,_,aa (.lst ((s.bx.map D.int).set x.toNat (.int _)))];rw[D6];exact q
def IL (k:RC):GN:=λds M Q=>∃(s:RS) (p:Pl) (r:Rw),MQ k s/\pA k.b p=aa r/\HE k r/\s.yb.length<1000000/\ds=[.loc 0,j7 p,.loc 4]/\M=lM k s/\
 ∀z,((nH k r (p.1,p.2+1) s).2.2=ao->z=(nH k r (p.1,p.2+1) s).2.1)->Q (.tup [.str ((nH k r (p.1,p.2+1) s).2.2.getD ""),j7 z]) (lM k (nH k r (p.1,p.2+1) s).1)
theorem Qj{k:RC}:jW (IL k):=by
 rintro ds M P Q w ⟨s,p,r,a,b,c,e,f,g,q⟩
 exact⟨s,p,r,a,b,c,e,f,g,λz h=>w _ _ (q z h)⟩
theorem ZA{k:RC}{s:RS}{p:Pl}{r:Rw}{E:nN}{v:DS}(h:pA k.b p=aa r)(q:v E [aa (.loc 0),aa (j7 p),aa (.loc 4),aa (.str p.1),aa (.int p.2),aa r.d,aa (j7 (p.1,p.2+1)),ao,ao] (lM k s)):
  (gW (pC (gE 1) (js 2 (hC (gQ 3) (hC (gQ 4) jr)))) (gW (iE 5 (gX ij (gX ij (gX ij (gE 0) (dC (.str "bare"))) (gE 3)) (gE 4))) (gW (iE 6 (iT (gD (gE 3) (gD (gX i8 (gE 4) (dC (.int 1))) gK)))) v))) E (rZ 9 [.loc 0,j7 p,.loc 4]) (lM k s):=by obtain⟨rs,a,c⟩:=x6 h;refine⟨rfl,rfl,?_⟩;refine⟨.inr "bare",_,rfl,rfl,?_⟩;refine⟨.inr p.1,_,rfl,acY a,?_⟩;refine⟨r.d,lx (by rw[aS,c];rfl),?_⟩;exact⟨ab rfl,q⟩
theorem ZB{k:RC}{s:RS}{b:Pl}:[aa (OD.kt wks [lbD k.b,rj k.pl,.loc 1,.loc 2,.loc 3]),aa (.lst (s.yb.map .int)),aa (.lst (s.kept.map j7++[j7 b])),aa (.lst ((k.ins.drop s.used).map .int)),aa (.lst (s.bx.map .int))]=lM k {s with kept:=s.kept++[b]}:=by unfold lM;dsimp only;rw[aX];rfl
theorem ag8{a b:Int}{M:Ms}{Q:DK}(q:Q (.bl (!(a==b))) M):Fa (.int a) (.int b) M Q:=q
theorem acZ{x:D}{xs:List D}{M:Ms}{Q:DK}(h:vw M x=.lst xs)(q:Q (.bl xs.isEmpty) M):Jy x (.lst []) M Q:=by unfold Jy;rw[h];exact q
theorem abS{k:RC}:∀ds M Q,IL k ds M Q->uf 9 3 (IJ (Ax yx) (Ax FP)) ds M Q:=by
 rintro ds M Q ⟨s,p,r,c,ha,a,f,j,i,q⟩
 subst j i;have ok:=a.ok;refine⟨rfl,ZA ha ?_⟩;have box:YZ r=ag->Q (.tup [.str ((BY k r s).2.getD ""),j7 (p.1,p.2+1)]) (lM k (BY k r s).1):=λo=>by
  have e:nH k r (p.1,p.2+1) s=((BY k r s).1,(p.1,p.2+1),(BY k r s).2):=by cases r<;>first|rfl|(cases o;done)
  rw[e] at q;exact q _ λ_=>rfl
 cases r with
 |mark _ _=>cases a.code
 |numbers _=>cases a.code
 |table _=>cases a.code
 |set x n=>walk_at "b";exact⟨k,s,_,c,a,rfl,f,rfl,rfl,ab rfl,box rfl⟩
 |add x y=>walk_at "b";exact⟨k,s,_,c,a,rfl,f,rfl,rfl,ab rfl,box rfl⟩
 |take x y=>walk_at "b";exact⟨k,s,_,c,a,rfl,f,rfl,rfl,ab rfl,box rfl⟩
 |say x=>walk_at "b";exact⟨k,s,_,c,a,rfl,f,rfl,rfl,ab rfl,box rfl⟩
 |ask x=>walk_at "b";exact⟨k,s,_,c,a,rfl,f,rfl,rfl,ab rfl,box rfl⟩
 |load x y w=>walk_at "b";exact⟨k,s,_,c,a,rfl,f,rfl,rfl,ab rfl,box rfl⟩
 |alike x w v=>walk_at "b";exact⟨k,s,_,c,a,rfl,f,rfl,rfl,ab rfl,box rfl⟩
 |stop=>
  walk_at "b";exact q p λz=>by cases z
 |jump w=>
  walk_at "b";refine⟨_,_,rfl,rfl,_,rfl,_,_,rfl,m5 (a.WX _ av),?_⟩;exact⟨ab rfl,q _ λ_=>rfl⟩
 |jumpif x w=>
  have q:Q (.tup [.str "",j7 (if gb s x=0 then(p.1,p.2+1) else fd k.pl w)]) (lM k s):=q _ λ_=>rfl;have bx:=mV c.b4 (C0 ok);walk_at "b";refine⟨_,_,rfl,rfl,_,rfl,_,_,rfl,m5 (a.WX _ av),?_⟩;refine⟨ab rfl,?_⟩;refine⟨_,rfl,_,bx,?_⟩;by_cases h:gb s x=0
  .rw[if_pos h] at q;rw[h];walk_at "b";exact q
  .rw[if_neg h] at q;have e:(gb s x==0)=ar:=beq_eq_false_iff_ne.mpr h;dsimp only [dC];refine ag8 ?_;rw[e];walk_at "b";exact q
 |jumpby x w=>
  obtain⟨ws,e,i,u⟩:=a.jb x w rfl;have er:nH k (.jumpby x w) (p.1,p.2+1) s=Jn (gb s x) (ws.map (fd k.pl)) (p.1,p.2+1) s:=by show(match pA k.b (fd k.pl w) with|some (.table ws)=>Jn (gb s x) (ws.map (fd k.pl)) (p.1,p.2+1) s|_=>(s,(p.1,p.2+1),ao))=_;rw[e]
  rw[er] at q;walk_at "b";refine⟨k,s,w,.table ws,rfl,rfl,a.WX _ av,e,?_⟩;refine⟨_,rfl,_,rfl,_,mV c.b4 (C0 ok),?_⟩;dsimp only;refine Zy (n:=gb s x) (xs:=ws.map D.str) ?_ ?_ (λh=>?_) (λh=>?_)
  .rfl
  .rfl
  .rw[ai] at h;unfold Jn at q;rw[ai,if_neg h] at q;exact⟨ab rfl,q p λz=>by cases z⟩
  .rw[ai] at h;unfold Jn at q;rw[ai,if_pos h] at q;have q:=q _ λ_=>rfl;have lt:(gb s x).toNat<ws.length:=by omega
   have A:vE (ws.map D.str) (gb s x)=aa (.str (ws[(gb s x).toNat])):=by
    obtain⟨m,hm⟩:∃m:Nat,gb s x=m:=⟨(gb s x).toNat,by omega⟩;have lt':m<ws.length:=by rw[hm,cT] at lt;exact lt
    have:ws[(gb s x).toNat]=ws[m]:=by congr 1;rw[hm,cT]
    rw[this,hm];refine lx ?_;rw[aS,aJ lt'];rfl
   refine⟨_,_,rfl,rfl,_,A,_,_,rfl,m5 (u _ (fb lt)),?_⟩;refine⟨ab rfl,?_⟩;have B:(ws.map (fd k.pl)).getD (gb s x).toNat ("",0)=fd k.pl (ws[(gb s x).toNat]):=by rw[bu,aS,aJ lt];rfl
   dsimp only at q;rw[B] at q;exact q
 |call w=>
  have er:nH k (.call w) (p.1,p.2+1) s=u0 (fd k.pl w) (p.1,p.2+1) s:=rfl;rw[er] at q;unfold u0 at q;have kp:=c.kp;walk_at "b";refine⟨_,_,rfl,rfl,_,rfl,?_⟩;dsimp only;rw[ai];by_cases h:s.kept.length=40
  .rw[if_pos h] at q;show(if decide ((40:Int)<=(s.kept.length:Nat))=ag then _ else _);rw[if_pos (by rw[decide_eq_true_eq];omega)];exact⟨ab rfl,q p λz=>by cases z⟩
  .rw[if_neg h] at q;have q:=q _ λ_=>rfl;show(if decide ((40:Int)<=(s.kept.length:Nat))=ag then _ else _);rw[if_neg (by rw[decide_eq_true_eq];omega)];refine⟨_,_,rfl,rfl,rfl,_,rfl,?_,?_⟩
   .rw[ai];exact bM kp (by decide)
   .have z:(lM k s).set 2 (aa (.lst (s.kept.map j7++[j7 (p.1,p.2+1)])))=lM k {s with kept:=s.kept++[(p.1,p.2+1)]}:=ZB;dsimp only;rw[z];refine⟨_,_,rfl,rfl,_,rfl,_,_,rfl,m5 (a.WX _ av),?_⟩;exact⟨ab rfl,q⟩
 |back=>
  have er:nH k .back (p.1,p.2+1) s=u4 (p.1,p.2+1) s:=rfl;rw[er] at q;unfold u4 at q;rcases e7 s.kept with g|⟨l,b,g⟩
  .have e:lM k s=[aa (.kt wks [lbD k.b,rj k.pl,.loc 1,.loc 2,.loc 3]),aa (.lst (s.yb.map .int)),aa (.lst []),aa (.lst ((k.ins.drop s.used).map .int)),aa (.lst (s.bx.map .int))]:=by unfold lM;rw[g];rfl
   rw[g] at q;have q:=q p λz=>by cases z
   dsimp only [List.getLast?_nil] at q;rw[e] at q |-;walk_at "b";refine⟨_,_,rfl,rfl,?_⟩;walk_at "b";exact q
  .rw[e8] at g;have e:lM k s=[aa (.kt wks [lbD k.b,rj k.pl,.loc 1,.loc 2,.loc 3]),aa (.lst (s.yb.map .int)),aa (.lst (l.map j7++[j7 b])),aa (.lst ((k.ins.drop s.used).map .int)),aa (.lst (s.bx.map .int))]:=by unfold lM;rw[g,aX];rfl
   have C:s.kept.getLast?=aa b:=by rw[g];simp
   have E:s.kept.dropLast=l:=by rw[g];simp
   rw[C] at q;have q:=q b λ_=>rfl;dsimp only at q;rw[E] at q;rw[e];walk_at "b";refine⟨_,_,rfl,rfl,?_⟩;refine⟨bi _,acZ rfl ?_⟩;rw[show(l.map j7++[j7 b]).isEmpty=ar by simp];walk_at "b";refine⟨_,_,rfl,rfl,rfl,_,_,rfl,?_⟩;exact⟨ab rfl,q⟩
noncomputable def lB(a:List Pt):Br:=a.foldl (λl p=>qq p.1 (bare p.2) l) []
theorem abT(a:List Pt)(p:Pt):lB (a++[p])=qq p.1 (bare p.2) (lB a):=by unfold lB;rw[List.foldl_append];rfl
theorem ae2(a:List Pt):(lB a).length<=a.length:=by
 suffices h:∀(a:List Pt) (l:Br),(a.foldl (λl p=>qq p.1 (bare p.2) l) l).length<=l.length+a.length by simpa[lB] using h a []
 intro a;induction a with
 |nil=>intro l;exact aM _
 |cons p a b=>
  intro l;have c:=b (qq p.1 (bare p.2) l);have e:=Hw p.1 (bare p.2) l;rw[aU];show(a.foldl _ (qq p.1 (bare p.2) l)).length<=_;omega
theorem xX(rs:List Rw):l9 (rs.map Rw.d)=ag:=jS Rw.nld rs
theorem ae3(b:Br):nl (lbD b)=ag:=jS (f:=λx:ay×List Rw=>D.lst (x.2.map Rw.d)) (λp=>xX p.2) b
def FQ:GP:=λds Q=>∃a:List Pt,ds=[.lst (a.map sv)]/\a.length<=1000/\(∀p∈a,p.2.length<=1000)/\Q (lbD (lB a))
theorem NE:iH FQ:=by
 rintro ds P Q w ⟨b,h,l,a,q⟩
 exact⟨b,h,l,a,w _ q⟩
theorem ZC:∀ds Q,FQ ds Q->jB 4 1 IH ds Q:=by
 rintro ds Q ⟨c,h,l,ha,q⟩
 subst h;refine⟨rfl,?_⟩;refine⟨_,rfl,rfl,?_⟩;refine jZ sv (λa b g M=>∃(i j:Option D),c=a++b/\M=[aa (.kt (kA (lB a)) (vA (λrs=>D.lst (rs.map Rw.d)) (lB a)))]/\g=[aa (.lst (c.map sv)),aa (.loc 0),i,j]) (λ_ _ _ _ ⟨_,_,_,e,_⟩=>rfl) c [] _ _ ⟨ao,ao,rfl,rfl,rfl⟩ (λpre x xs g M m N p=>?_) (λpre g M m=>?_)
 .obtain⟨i,j,f,rfl,rfl⟩:=m;have n:c=pre++[x]++xs:=by rw[f,bn];rfl
  have u:x∈c:=by rw[f];simp
  have o:(kA (lB pre)).length<aC:=by
   unfold kA;rw[ai];have w:=ae2 pre;have z:pre.length<=c.length:=by rw[f];simp
   exact bM (by omega:(lB pre).length<=1000) (by decide)
  refine⟨rfl,rfl,?_⟩;refine⟨_,rfl,rfl,?_⟩;refine rR Rw.d Rw.d (λr=>!r.ju) ?_ _ _ ?_ (λy A B v=>?_) ?_
  .exact rfl
  .rw[bj,bt];exact sx (ha x u)
  .have:=v _ (show CZ [ao] [aa y.d]=_ from rfl);cases y<;>exact⟨_,rfl,this⟩
  .refine⟨_,_,_,rfl,rfl,o,p _ _ ⟨_,_,n,?_,rfl⟩⟩;have e:=YS (λrs:List Rw=>D.lst (rs.map Rw.d)) x.1 (bare x.2) (lB pre);rw[abT];show[aa (OD.kt (qj (.inr x.1) (D.lst ((bare x.2).map Rw.d)) _ _).1 (qj (.inr x.1) (D.lst ((bare x.2).map Rw.d)) _ _).2)]=_;rw[e]
 .obtain⟨i,j,f,rfl,rfl⟩:=m;rw[aR] at f;subst f;exact⟨ae3 _,q⟩
abbrev wW(a:List Pt):List Mk:=a.flatMap λp=>iu p.1 0 p.2
noncomputable def lP(ms:List Mk):List (ay×Pl):=ms.foldl (λl m=>qq m.1 m.2.2 l) []
theorem abU(ms:List Mk)(m:Mk):lP (ms++[m])=qq m.1 m.2.2 (lP ms):=by unfold lP;rw[List.foldl_append];rfl
theorem ae4(ms:List Mk):(lP ms).length<=ms.length:=by
 suffices h:∀(ms:List Mk) (l:List (ay×Pl)),(ms.foldl (λl m=>qq m.1 m.2.2 l) l).length<=l.length+ms.length by simpa[lP] using h ms []
 intro ms;induction ms with
 |nil=>intro l;exact aM _
 |cons p a b=>
  intro l;have c:=b (qq p.1 p.2.2 l);have e:=Hw p.1 p.2.2 l;rw[aU];show(a.foldl _ (qq p.1 p.2.2 l)).length<=_;omega
noncomputable def nO(rs:List Rw):Nat:=(bare rs).length
theorem qB(n:ay):∀(k:Nat) (a b:List Rw),iu n k (a++b)=iu n k a++iu n (k+nO a) b
 |k,[],b=>by show iu n k b=[]++iu n (k+0) b;rfl
 |k,r::a,b=>by
  cases h:r.ju with
  |true=>
   cases r<;>first|(cases h;done)|skip
   rename_i w c;show(w,c,n,k)::iu n k (a++b)=(w,c,n,k)::iu n k a++iu n (k+nO a) b;rw[qB n k a b];rfl
  |false=>
   rw[fg,mI h,mI h,qB n (k+1) a b];have:nO (r::a)=nO a+1:=by unfold nO bare;rw[cD,if_pos (by rw[h];decide)];rfl
   rw[this,show k+1+nO a=k+(nO a+1) by omega]
def zw:GP:=λds Q=>∃a:List Pt,ds=[.lst (a.map sv)]/\(wW a).length<=1000/\Q (rj (lP (wW a)))
theorem IM:iH zw:=by
 rintro ds P Q w ⟨a,h,l,q⟩
 exact⟨a,h,l,w _ q⟩
theorem S9:∀ds Q,zw ds Q->jB 6 1 Cz ds Q:=by
 rintro ds Q ⟨m,h,l,q⟩
 subst h;refine⟨rfl,?_⟩;refine⟨_,rfl,rfl,?_⟩;refine jZ sv (λa b i M=>∃(v y A g:Option D),m=a++b/\M=[aa (.kt (kA (lP (wW a))) (vA j7 (lP (wW a))))]/\i=[aa (.lst (m.map sv)),aa (.loc 0),v,y,A,g]) (λ_ _ _ _ ⟨_,_,_,_,_,e,_⟩=>rfl) m [] _ _ ⟨ao,ao,ao,ao,rfl,rfl,rfl⟩ (λpre x xs i M j N u=>?_) (λpre i M j=>?_)
 .obtain⟨v,y,A,g,n,rfl,rfl⟩:=j;have B:m=pre++[x]++xs:=by rw[n,bn];rfl
  have I:(wW pre).length+(iu x.1 0 x.2).length<=1000:=by rw[n] at l;simp[wW] at l |-;omega
  have C:wW (pre++[x])=wW pre++iu x.1 0 x.2:=by simp[wW]
  refine⟨rfl,rfl,?_⟩;refine⟨_,rfl,rfl,?_⟩;refine jZ Rw.d (λa b i M=>∃(g:Option D),x.2=a++b/\M=[aa (.kt (kA (lP (wW pre++iu x.1 0 a))) (vA j7 (lP (wW pre++iu x.1 0 a))))]/\i=[aa (.lst (m.map sv)),aa (.loc 0),aa (.str x.1),aa (.lst (x.2.map Rw.d)),aa (.int (nO a)),g]) (λ_ _ _ _ ⟨_,_,e,_⟩=>rfl) x.2 [] _ _ ⟨g,rfl,?_,rfl⟩ (λf r rs i M j N u=>?_) (λf i M j=>?_)
  .show _=[aa (OD.kt (kA (lP (wW pre++[]))) (vA j7 (lP (wW pre++[]))))];rw[aR]
  .obtain⟨g,o,rfl,rfl⟩:=j;have p:x.2=f++[r]++rs:=by rw[o,bn];rfl
   have E:(kA (lP (wW pre++iu x.1 0 f))).length<aC:=by
    unfold kA;rw[ai];have J:=ae4 (wW pre++iu x.1 0 f);have O:(iu x.1 0 f).length<=(iu x.1 0 x.2).length:=by rw[o,qB,aE];omega
    rw[aE] at J;exact bM (by omega:(lP (wW pre++iu x.1 0 f)).length<=1000) (by decide)
   cases hm:r.ju with
   |true=>
    cases r<;>first|(cases hm;done)|skip
    rename_i w c;have G:iu x.1 0 (f++[.mark w c])=iu x.1 0 f++[(w,c,x.1,nO f)]:=by rw[qB,bt];rfl
    have H:nO (f++[.mark w c])=nO f:=by unfold nO bare;rw[dB,aE];rfl
    have L:=YS j7 w ((x.1,nO f):Pl) (lP (wW pre++iu x.1 0 f));walk_at "b";refine⟨_,_,_,rfl,rfl,E,u _ _ ⟨_,p,?_,by rw[H];rfl⟩⟩;rw[G,<-bn,abU];show[aa (OD.kt (qj (.inr w) (j7 (x.1,nO f)) _ _).1 (qj (.inr w) (j7 (x.1,nO f)) _ _).2)]=_;rw[L]
   |false=>
    have G:iu x.1 0 (f++[r])=iu x.1 0 f:=by rw[qB,mI hm];simp[iu]
    have H:nO (f++[r])=nO f+1:=by unfold nO bare;rw[dB,aE,cD,if_pos (by rw[hm];decide)];rfl
    have z:=u [aa (.lst (m.map sv)),aa (.loc 0),aa (.str x.1),aa (.lst (x.2.map Rw.d)),aa (.int ((nO f:Int)+1)),aa r.d] _ ⟨aa r.d,p,rfl,by rw[H];rfl⟩;rw[G] at z;cases r<;>first|(cases hm;done)|(walk_at "b";exact z)
  .obtain⟨g,o,rfl,rfl⟩:=j;rw[aR] at o;exact u _ _ ⟨_,_,_,_,B,by rw[C,o],rfl⟩
 .obtain⟨v,y,A,g,n,rfl,rfl⟩:=j;rw[aR] at n;subst n;exact⟨rm _,q⟩
def AM:GP:=λds Q=>∃(k:RC) (a:List Pt) (w:ay) (p:Pl) (n:Nat) (x:List Int×ay),k.b=lB a/\k.pl=lP (wW a)/\ds=[.lst (a.map sv),.str w,.lst (k.ins.map .int),.int n]/\a.length<=1000/\(∀p∈a,p.2.length<=1000)/\(wW a).length<=1000/\
 n<=1000000/\k.ins.length<=1000/\iJ w k.pl=aa p/\(∀p r,pA k.b p=aa r->r.code=ag->HE k r)/\runN k n p rs0=aa x/\Q (.tup [.lst (x.1.map .int),.str x.2])
theorem Qk:iH AM:=by
 rintro ds P Q w ⟨k,c,u,p,n,x,e,f,g,h,i,j,m,o,r,a,b,q⟩
 exact⟨k,c,u,p,n,x,e,f,g,h,i,j,m,o,r,a,b,w _ q⟩
theorem ac0(a:List Pt):l9 [.lst (a.map sv)]=ag:=BO a
noncomputable def wds:List ay:=["deep","empty","place","stop","ask"]
theorem ae5:∀e∈wds,e≠"":=by decide
theorem ae6:∀e∈wds,cn e=ag:=by decide+kernel
theorem Ql{k:RC}{r:Rw}{b:Pl}{s:RS}{e:ay}(h:(nH k r b s).2.2=aa e):e∈wds:=by
 have g:("deep":ay)∈wds:=by decide
 have i:("empty":ay)∈wds:=by decide
 have c:("place":ay)∈wds:=by decide
 have j:("stop":ay)∈wds:=by decide
 have m:("ask":ay)∈wds:=by decide
 have a:∀n f,(Jn n f b s).2.2=aa e->e∈wds:=λn f h=>by
  unfold Jn at h;split at h
  .cases h
  .cases h;exact c
 have ld:∀x n ns,(mU x n ns s).2=aa e->e∈wds:=λx n ns h=>by
  unfold mU at h;split at h
  .cases h
  .cases h;exact c
 cases r<;>first|(cases h;done)|skip
 case ask x=>
  have h:(BX k.ins x s).2=aa e:=h;unfold BX at h;split at h
  .cases h;exact m
  .cases h
 case call w=>
  have h:(u0 (fd k.pl w) b s).2.2=aa e:=h;unfold u0 at h;split at h
  .cases h;exact g
  .cases h
 case back=>
  have h:(u4 b s).2.2=aa e:=h;unfold u4 at h;split at h
  .cases h;exact i
  .cases h
 case stop=>cases h;exact j
 case load x y w=>
  have h:(match pA k.b (fd k.pl w) with|some (.numbers ns)=>mU x (gb s y) ns s|_=>(s,ao)).2=aa e:=h;split at h
  .exact ld _ _ _ h
  .cases h
 case jumpby x w=>
  have h:(match pA k.b (fd k.pl w) with|some (.table ws)=>Jn (gb s x) (ws.map (fd k.pl)) b s|_=>(s,b,ao)).2.2=aa e:=h;split at h
  .exact a _ _ h
  .cases h
theorem abV{i:Nat}{a:ay}{c:DE}{u:DS}{E:nN}{b:pd}{M:Ms}(hi:b[i]?=aa (aa (.str a)))(h:(a==("":ay))=ar)(q:c b M E.rt):ii (gS (gX Fa (gE i) (dC (.str "")))) (hW c) u E b M:=by
 have v:∀Q:DK,gE i b M Q=Q (.str a) M:=λQ=>by unfold gE;rw[hi]
 unfold ii gS gX;rw[v];show(if(!(a==("":ay)))=ag then _ else _);rw[h];exact q
theorem abW:∀ds Q,AM ds Q->jB 9 4 (LD (cl zw) (cl FQ) (Ax IL)) ds Q:=by
 rintro ds Q ⟨k,g,w,p,n,x,H,I,J,L,N,O,T,h8,U,u,v,q⟩
 subst J;have gen:∀(xs:List D) (p:Pl) (s:RS) (A B:Option D),MQ k s->s.yb.length+xs.length<=1000000->runN k xs.length p s=aa x->
   xi (gQ 7) (gW (pC (iG (Ax IL) (gD (gE 4) (gD (gE 6) (gD (gE 5) gK)))) (js 2 (hC (gQ 8) (hC (gQ 6) jr))))
    (ii (gS (gX Fa (gE 8) (dC (.str "")))) (hW (iT (gD (gX ij (gE 4) (dC (.str "answers"))) (gD (gE 8) gK)))) hX)) (λ_=>True)
    ⟨λY M=>hW (iT (gD (gX ij (gE 4) (dC (.str "answers"))) (gD (dC (.str "steps")) gK))) ⟨λ_ _=>Q .non,λd i=>nl (fz i d)=ag/\Q (fz i d),λ_ _=>False,λ_ _=>False⟩ Y M,λd i=>nl (fz i d)=ag/\Q (fz i d),λ_ _=>False,λ_ _=>False⟩ xs
    [aa (.lst (g.map sv)),aa (.str w),aa (.lst (k.ins.map .int)),aa (.int n),aa (.loc 0),aa (.loc 4),aa (j7 p),A,B] (lM k s):=by
  intro xs;induction xs with
  |nil=>
   intro p s A B C j c;cases c;refine⟨_,_,rfl,rfl,ab rfl,?_⟩;exact⟨Wj kZ rfl,q⟩
  |cons y xs ih=>
   intro p s A B C j c;rw[aU] at c j;unfold FJ.runN at c;cases er:pA k.b p with
   |none=>rw[er] at c;cases c
   |some r=>
    rw[er] at c;dsimp only at c;by_cases E:r.code=ag
    .rw[if_pos E] at c;have ro:=u p r er E;have m:=mh.row C r (p.1,p.2+1);have f:=λ{e:ay} h=>ae5 e (@Ql k r (p.1,p.2+1) s e h);refine⟨k,s,p,r,C,er,ro,by omega,rfl,rfl,λz G=>?_⟩;generalize nH k r (p.1,p.2+1) s=o at c m G f |-;obtain⟨t,p',e⟩:=o;dsimp only at c m G f;refine⟨rfl,rfl,?_⟩;cases e with
     |none=>
      rw[G rfl];refine⟨trivial,ih p' t _ _ (m.ok (by omega)) ?_ c⟩;have:=m.an;omega
     |some e=>
      have ne:=f rfl;cases c;have e1:(e==("":ay))=ar:=beq_eq_false_iff_ne.mpr ne;dsimp only;refine abV (a:=e) rfl e1 ?_;refine⟨_,_,rfl,rfl,ab rfl,?_⟩;exact⟨Wj kZ rfl,q⟩
    .rw[if_neg E] at c;cases c
 refine⟨rfl,?_⟩;refine⟨ac0 g,g,rfl,L,N,ac0 g,g,rfl,O,?_⟩;rw[<-H,<-I];refine⟨bi _,bi _,rfl,_,rfl,by decide+kernel,?_⟩;refine⟨_,_,_,rfl,rfl,by decide+kernel,?_⟩;refine⟨by decide+kernel,?_⟩;refine⟨_,_,rfl,rfl,_,_,rfl,Zw U,?_⟩;refine⟨⟨by omega,by omega⟩,trivial,?_⟩;have j:(zF 0 ((n:Int)).toNat).length=n:=by simp[zF]
 exact gen _ p rs0 ao ao ⟨rfl,bi _,bi _,bi _⟩ (by rw[j];exact bG (fQ (bt _)) T) (by rw[j];exact v)
theorem p6{β:Type}{w:ay}:∀{l:List (ay×β)},w∉l.map bh->iJ w l=ao
 |[],_=>rfl
 | (x,v)::l,h=>by unfold iJ;rw[if_neg λe=>h (by rw[e];exact av)];exact p6 λz=>h (aH _ z)
theorem qC{β:Type}{w:ay}{v:β}:∀{l:List (ay×β)},(l.map bh).Nodup->(w,v)∈l->iJ w l=aa v
 |[],_,h=>by cases h
 | (x,u)::l,nd,h=>by
  rw[aZ,dI] at nd;unfold iJ;rcases aO.mp h with e|h
  .cases e;rw[if_pos rfl]
  .rw[if_neg λe=>nd.1 (by rw[e];exact bN.mpr ⟨_,h,rfl⟩)];exact qC nd.2 h
theorem LF{β:Type}{l m:List (ay×β)}(p:l.Perm m)(nd:(l.map bh).Nodup)(w:ay):iJ w l=iJ w m:=by
 have a:(m.map bh).Nodup:=(p.map bh).nodup_iff.mp nd;cases e:iJ w m with
 |none=>
  refine p6 λh=>?_;obtain⟨x,b,rfl⟩:=bN.mp h;have:=qC (v:=x.2) a (p.mem_iff.mp b);rw[e] at this;cases this
 |some v=>exact qC nd (p.mem_iff.mpr (zn e))
theorem NF{β a:Type}(f:β->ay)(g:β->a):∀(xs:List β) (l:List (ay×a)),(l.map bh++xs.map f).Nodup->xs.foldl (λl x=>qq (f x) (g x) l) l=l++xs.map λx=>(f x,g x)
 |[],l,_=>by simp
 |x::xs,l,nd=>by
  have b:iJ (f x) l=ao:=p6 λz=>by rw[cO] at nd;exact nd.2.2 _ z _ (by simp) rfl
  have e:qq (f x) (g x) l=l++[(f x,g x)]:=by unfold qq;rw[b];rfl
  show xs.foldl _ (qq (f x) (g x) l)=_;rw[e,NF f g xs _ (by simpa[aX] using nd)];simp
theorem ag9{a:List Pt}(nd:(a.map bh).Nodup):lB a=a.map λp=>(p.1,bare p.2):=by unfold lB;rw[NF bh (λp:Pt=>bare p.2) a [] (by simpa using nd)];rfl
theorem ZD{ms:List Mk}(nd:(ms.map bh).Nodup):lP ms=ms.map λm=>(m.1,m.2.2):=by unfold lP;rw[NF bh (λm:Mk=>m.2.2) ms [] (by simpa using nd)];rfl
theorem LG{ms:List Mk}(nd:(ms.map bh).Nodup):placesOf ms=lP ms:=by
 unfold placesOf lP
 suffices h:∀(ms:List Mk) (l:List (ay×Pl)),(l.map bh++ms.map bh).Nodup->ms.foldl oA l=ms.foldl (λl m=>qq m.1 m.2.2 l) l from h ms [] (by simpa using nd)
 intro ms;induction ms with
 |nil=>intro l _;rfl
 |cons m ms b=>
  intro l nd;have a:iJ m.1 l=ao:=p6 λz=>by rw[cO] at nd;exact nd.2.2 _ z _ (by simp) rfl
  have e:oA l m=qq m.1 m.2.2 l:=by unfold oA;rw[a];simp
  have c:qq m.1 m.2.2 l=l++[(m.1,m.2.2)]:=by unfold qq;rw[a];rfl
  show ms.foldl oA (oA l m)=ms.foldl _ (qq m.1 m.2.2 l);rw[e];refine b _ ?_;rw[c];simpa[aX] using nd
structure ZE(k k':RC):Prop where
 b:∀n,iJ n k.b=iJ n k'.b
 pl:∀w,iJ w k.pl=iJ w k'.pl
 ins:k.ins=k'.ins
theorem ZE.at{k k':RC}(h:ZE k k'):pA k.b=pA k'.b:=by funext p;unfold pA;rw[h.b]
theorem ZE.fd{k k':RC}(h:ZE k k'):FJ.fd k.pl=FJ.fd k'.pl:=by funext w;unfold FJ.fd;rw[h.pl]
theorem ZE.row{k k':RC}(h:ZE k k')(r:Rw)(b:Pl)(s:RS):nH k r b s=nH k' r b s:=by cases r<;>simp only [nH,BY,h.at,h.fd,h.ins]
theorem ZE.run{k k':RC}(h:ZE k k'):∀(n:Nat) (p:Pl) (s:RS),FJ.runN k n p s=FJ.runN k' n p s
 |0,_,_=>rfl
 |n+1,p,s=>by
  unfold FJ.runN;rw[h.at];cases pA k'.b p with
  |none=>rfl
  |some r=>
   dsimp only;rw[h.row];split
   .split
    .rfl
    .exact h.run n _ _
   .rfl
theorem ZE.ok{k k':RC}(h:ZE k k'){r:Rw}(o:HE k' r):HE k r:=by
 refine⟨o.code,o.ok,λw hw=>?_,λx y w e=>?_,λx w e=>?_,λx w v e=>?_⟩
 .rw[h.pl];exact o.WX w hw
 .rw[h.at,h.fd];exact o.ld x y w e
 .rw[h.at,h.fd];obtain⟨ws,a,b,c⟩:=o.jb x w e;exact⟨ws,a,b,λu f=>by rw[h.pl];exact c u f⟩
 .rw[h.fd];exact o.al x w v e
theorem alk{CR CN:ak}{c:CA}{a:List Pt}{ins:List Int}(nd:(a.map bh).Nodup)(nm:((wW a).map bh).Nodup):ZE ⟨CR,CN,c,lB a,lP (wW a),ins⟩ (W0 CR CN c a ins):=by
 have pm:(ja a).Perm (wW a):=(nG a).flatMap_right _;have b:((ja a).map bh).Nodup:=(pm.map bh).nodup_iff.mpr nm;refine⟨λn=>?_,λw=>?_,rfl⟩
 .show iJ n (lB a)=iJ n (ik a);rw[ag9 nd];unfold ik;refine LF ((nG a).symm.map _) ?_ n;rw[bq];exact nd
 .show iJ w (lP (wW a))=iJ w (placesOf (ja a));rw[LG b,ZD nm,ZD b];refine LF (pm.symm.map _) ?_ w;rw[bq];exact nm
theorem aha{a b:Int}{M:Ms}{Q:DK}(h:a<b)(q:Q (.bl ag) M):Ow (.int a) (.int b) M Q:=by show Q (.bl (decide (a<b))) M;rw[decide_eq_true h];exact q
theorem ahb{a b:Int}{M:Ms}{Q:DK}(h:¬a<b)(q:Q (.bl ar) M):Ow (.int a) (.int b) M Q:=by show Q (.bl (decide (a<b))) M;rw[decide_eq_false h];exact q
theorem ahc{a b:Int}{M:Ms}{Q:DK}(q:Q (.bl (decide (a=b))) M):mR (.int a) (.int b) M Q:=by show Q (.bl (a==b)) M;rw[show(a==b)=decide (a=b) from rfl];exact q
def NG:GP:=λds Q=>∃(ns:List Int) (k:Nat),ds=[.uI ns,.int k]/\∀i:Int,Q (.int i)
theorem Qm:iH NG:=by
 rintro ds P Q w ⟨ns,k,h,q⟩
 exact⟨ns,k,h,λi=>w _ (q i)⟩
theorem abX:∀ds Q,NG ds Q->jB 2 2 uo ds Q:=by
 rintro ds Q ⟨ns,k,h,q⟩
 subst h;have ty:=@aha;have a:=@ahb;unfold uo;generalize Ow=b at ty a |-;refine⟨rfl,?_⟩;refine⟨ns.length,rfl,?_⟩;by_cases h:(k:Int)<ns.length
 .refine ty h ?_;exact⟨_,lx (aJ (show k<ns.length by omega)),rfl,q _⟩
 .refine a h ?_;exact⟨rfl,q _⟩
def below(ns sz:List Int):Prop:=ns.length=sz.length/\∀(i:Nat) (a z:Int),ns[i]?=aa a->sz[i]?=aa z->0<=a/\a<z
def CD:GP:=λds Q=>∃(c:Int) (sz:List Int),ds=[.int c,.lst (sz.map .int)]/\sz.length<=800/\(∀z∈sz,0<z/\z<2^200)/\∀ns,below ns sz->Q (.lst (ns.map .int))
theorem NH:iH CD:=by
 rintro ds P Q w ⟨c,sz,h,l,a,q⟩
 exact⟨c,sz,h,l,a,λi b=>w _ (q i b)⟩
theorem Ta{ns sz:List Int}{j:Nat}{a z:Int}(f:ns.length=j)(g:sz[j]?=aa z)(h:∀(i:Nat) (a z:Int),ns[i]?=aa a->sz[i]?=aa z->0<=a/\a<z)(m:0<=a)(n:a<z):
  ∀(i:Nat) (b y:Int),(ns++[a])[i]?=aa b->sz[i]?=aa y->0<=b/\b<y:=λi b y c e=>by
 by_cases hi:i<ns.length
 .rw[bA hi] at c;exact h i b y c e
 .rw[b8 (by omega)] at c;have o:i=j:=by have:=(au.mp c).1;simp at this;omega
  subst o;rw[f,eW] at c;rw[g] at e;cases c;cases e;exact⟨m,n⟩
theorem ZF:∀ds Q,CD ds Q->jB 6 2 (yr (cl ze)) ds Q:=by
 rintro ds Q ⟨c,sz,h,hl,J,q⟩
 subst h;have eq:=@ahc;unfold yr;generalize mR=ge at eq |-;refine⟨rfl,bi _,⟨by decide,by decide⟩,_,rfl,rfl,?_⟩;refine uR (λj p M=>∃(ns:List Int) (r:Int) (u v:Option D),ns.length=j/\(∀(i:Nat) (a z:Int),ns[i]?=aa a->sz[i]?=aa z->0<=a/\a<z)/\M=[aa (.lst (ns.map .int))]/\p=[aa (.int c),aa (.lst (sz.map .int)),aa (.loc 0),aa (.int r),u,v])
  (λ_ _ _ _=>rfl) _ 0 _ _ ⟨[],_,ao,ao,rfl,λi a z e=>by simp at e,rfl,rfl⟩ (λj x p M L w N E=>?_) (λp M w=>?_)
 .obtain⟨ns,r,u,v,g,A,rfl,rfl⟩:=w;obtain⟨y,O,rfl⟩:=BP L;obtain⟨z,b,rfl⟩:=get_map O;rw[bt] at g E;have f:=J z (aV b);have T:j<sz.length:=(au.mp b).1;have G:(ns.map D.int).length<aC:=by rw[ai];exact bM (show ns.length<=1000 by omega) (by decide)
  refine⟨rfl,rfl,?_⟩;have next:∀(a B:Int) (o:Option D),0<=a->a<z->N [aa (.int c),aa (.lst (sz.map .int)),aa (.loc 0),aa (.int B),aa (.int j),aa (.int z)] [aa (.lst (ns.map .int++[.int a]))]:=λa B o U Y=>
   E _ _ ⟨ns++[a],B,_,_,by simp[g],Ta g b A U Y,by simp,rfl⟩
  have other:(j8 (Aq "list" iN (gE 2) (gD (gX (gI (λ_ j=>0<j) λi j=>.int (i%j)) (gX i8 (iG (cl ze) (gD (gX (gI EQ λi j=>.int (i/j)) (gE 0) (dC (.int 2))) (gD (gE 4) gK))) (gX (gI Vc λi j=>.int (i^j.toNat)) (iG (cl ze) (gD (gX (gI EQ λi j=>.int (i/j)) (gE 0) (dC (.int 2))) (gD (gX i8 (gE 4) (dC (.int 97))) gK))) (dC (.int 7)))) (gE 5)) gK)))
    ⟨N,λd H=>nl (fz H d)=ag/\Q (fz H d),λ_ _=>False,λ_ _=>False⟩ [aa (.int c),aa (.lst (sz.map .int)),aa (.loc 0),aa (.int r),aa (.int j),aa (.int z)] [aa (.lst (ns.map .int))]:=by refine⟨rfl,⟨by decide,by decide⟩,rfl,c/2,j,rfl,by omega,by omega,λn n1 n2=>?_⟩;refine⟨⟨by decide,by decide⟩,rfl,c/2,j+97,rfl,by omega,by omega,λm m1 m2=>?_⟩;refine⟨⟨by decide,by decide,by omega⟩,f.1,_,rfl,G,next _ _ ao (ai9 _ (by omega)) (fZ _ f.1)⟩
  refine⟨(by decide:(0:Int)<2),?_⟩;refine eq ?_;by_cases I:c%2=0
  .rw[decide_eq_true I];refine⟨ab rfl,((0:Int)==r||((-1:Int)==r||false)),rfl,?_⟩;by_cases C:0=r\/-1=r
   .have e:((0:Int)==r||((-1:Int)==r||false))=ag:=by rcases C with h|h<;>simp[<-h]
    rw[e];exact other
   .have e:((0:Int)==r||((-1:Int)==r||false))=ar:=by simp;exact⟨λh=>C (.inl h),λh=>C (.inr h)⟩
    rw[e];refine⟨rfl,f.1,_,rfl,G,⟨f.1,f.2⟩,next _ _ ao (ai9 _ (by omega)) (fZ _ f.1)⟩
  .rw[decide_eq_false I];exact other
 .obtain⟨ns,r,u,v,g,A,rfl,rfl⟩:=w;refine⟨kZ,q ns ⟨?_,A⟩⟩;rw[g,bt,fU,ai]
inductive Kd
 |set|add|take|say|ask|jump|jumpif|call|back|stop|load|jumpby|alike|numbers|table
 deriving DecidableEq
noncomputable def Kd.s:Kd->ay
 |.set=>"set"|.add=>"add"|.take=>"take"|.say=>"say"|.ask=>"ask"|.jump=>"jump"|.jumpif=>"jumpif"|.call=>"call"|.back=>"back"|.stop=>"stop"
 |.load=>"load"|.jumpby=>"jumpby"|.alike=>"alike"|.numbers=>"numbers"|.table=>"table"
noncomputable def Kd.ug:Kd->Bool
 |.set|.add|.take|.say|.ask|.jumpif|.call|.load|.alike=>ag
 |_=>ar
noncomputable def Kd.data:Kd->Bool
 |.numbers|.table=>ag
 |_=>ar
noncomputable def OV:List Kd:=[.set,.add,.take,.say,.ask,.jump,.jumpif,.call,.back,.stop,.load,.jumpby,.alike,.numbers,.table,.say,.jumpif,.call,.set,.say]
structure Bn where
 (k:Kd) (b c m:Int)
noncomputable def Bn.d(x:Bn):D:=.tup [.str x.k.s,.int x.b,.int x.c,.int x.m]
theorem Bn.nl(x:Bn):L3.nl x.d=ag:=rfl
theorem Tc(l:List Bn):l9 (l.map Bn.d)=ag:=jS Bn.nl l
structure Bn.Ok(x:Bn):Prop where
 b:0<=x.b/\x.b<=3
 c:0<=x.c/\x.c<=3
 m:0<=x.m/\x.m<10000000000
def FR:GP:=λds Q=>ds=[]/\Q (.lst (OV.map λk=>.str k.s))
theorem NI:iH FR:=by
 rintro ds P Q w ⟨h,q⟩
 exact⟨h,w _ q⟩
theorem ZG:∀ds Q,FR ds Q->jB 1 0 EZ ds Q:=by
 rintro ds Q ⟨h,q⟩
 subst h;refine⟨rfl,?_⟩;walk_at "b";exact q
def vW:GP:=λds Q=>∃k:Kd,ds=[.str k.s]/\Q (.bl k.ug)
theorem jN:iH vW:=by
 rintro ds P Q w ⟨k,h,q⟩
 exact⟨k,h,w _ q⟩
theorem abY:∀ds Q,vW ds Q->jB 1 1 Ac ds Q:=by
 rintro ds Q ⟨k,h,q⟩
 subst h;cases k<;>exact⟨rfl,ab rfl,_,rfl,rfl,q⟩
noncomputable def D7(p k:Nat):ay:=⟨#[97+p]⟩++⟨#[97+k/26]⟩++⟨#[97+k%26]⟩
def k8:GP:=λds Q=>∃p k:Nat,p<26/\k<676/\ds=[.int p,.int k]/\Q (.str (D7 p k))
theorem Qn:iH k8:=by
 rintro ds P Q w ⟨p,k,a,b,h,q⟩
 exact⟨p,k,a,b,h,w _ q⟩
theorem Td:∀i,i<26->("abcdefghijklmnopqrstuvwxyz":ay).cps.toList[i]?=aa (97+i):=by decide+kernel
theorem abZ:∀ds Q,k8 ds Q->jB 3 2 IB ds Q:=by
 rintro ds Q ⟨p,k,a,b,h,q⟩
 subst h;refine⟨rfl,?_⟩;refine⟨by decide+kernel,_,lx (Td p a),?_⟩;refine⟨⟨by decide,by decide⟩,by decide+kernel,_,lx (Td (k/26) (by omega)),?_⟩;refine⟨show 1+1<=aC by decide,(by decide:(0:Int)<26),by decide+kernel,_,lx (Td (k%26) (by omega)),?_⟩;exact⟨by rw[PySem.Str.length_append];exact(show 1+1+1<=aC by decide),rfl,q⟩
noncomputable def num(m:Int):Int:=if m/9%3=0 then m%7- 2 else if m/9%3=1 then m%41- 20 else m%4294967296- 2147483648
theorem ZH(m:Int):okN (num m)=ag:=by
 unfold num okN;rw[aQ,decide_eq_true_eq,decide_eq_true_eq];split
 .omega
 .split<;>omega
def CG:GP:=λds Q=>∃m:Int,ds=[.int m]/\Q (.int (num m))
theorem Kw:iH CG:=by
 rintro ds P Q w ⟨k,h,q⟩
 exact⟨k,h,w _ q⟩
theorem WI:∀ds Q,CG ds Q->jB 1 1 Cu ds Q:=by
 rintro ds Q ⟨m,h,q⟩
 subst h;refine⟨rfl,(by decide:(0:Int)<7),(by decide:(0:Int)<41),(by decide:(0:Int)<4294967296),ab rfl,⟨by decide,by decide⟩,(by decide:(0:Int)<3),?_⟩;have a:m/9%3=0\/m/9%3=1\/m/9%3=2:=by omega
 unfold num at q;rcases a with e|e|e
 .rw[if_pos e] at q;exact⟨.int (m%7- 2),show vE _ (m/9%3)=aa _ by rw[e];rfl,rfl,q⟩
 .rw[if_neg (by omega),if_pos e] at q;exact⟨.int (m%41- 20),show vE _ (m/9%3)=aa _ by rw[e];rfl,rfl,q⟩
 .rw[if_neg (by omega),if_neg (by omega)] at q;exact⟨.int (m%4294967296- 2147483648),show vE _ (m/9%3)=aa _ by rw[e];rfl,rfl,q⟩
noncomputable def kR(k:Kd)(b:Int)(w:ay):Rw:=match k with
 |.jumpif=>.jumpif b w|.jump=>.jump w|.call=>.call w|.back=>.back|_=>.stop
noncomputable def Kd.gn:Kd->Bool
 |.jumpif|.jump|.call|.back|.stop=>ag
 |_=>ar
def NJ:GP:=λds Q=>∃(k:Kd) (b:Int) (w:ay),ds=[.str k.s,.int b,.str w]/\k.gn=ag/\Q (kR k b w).d
theorem Qo:iH NJ:=by
 rintro ds P Q w ⟨k,b,u,h,g,q⟩
 exact⟨k,b,u,h,g,w _ q⟩
theorem ab0:∀ds Q,NJ ds Q->jB 3 3 ID ds Q:=by
 rintro ds Q ⟨k,b,w,h,g,q⟩
 subst h;cases k<;>first|(cases g;done)|(refine⟨rfl,?_⟩;walk_at "b";exact q)
def vn:GP:=λds Q=>∃bs:List Bn,ds=[.lst (bs.map Bn.d)]/\bs.length<=1000/\Q (.bl (bs.filter λx=>!x.k.data).isEmpty)
theorem Kx:iH vn:=by
 rintro ds P Q w ⟨bs,h,l,q⟩
 exact⟨bs,h,l,w _ q⟩
theorem WJ:∀ds Q,vn ds Q->jB 1 1 Ae ds Q:=by
 rintro ds Q ⟨bs,h,l,q⟩
 subst h;refine⟨rfl,?_⟩;refine⟨_,rfl,rfl,?_⟩;refine rR Bn.d Bn.d (λx=>!x.k.data) ?_ _ _ ?_ (λy f g a=>?_) ?_
 .exact rfl
 .rw[bj,bt];exact sx l
 .have z:=a _ (show CZ [ao] [aa y.d]=_ from rfl);obtain⟨k,b,c,m⟩:=y;cases k<;>exact⟨_,rfl,ab rfl,_,rfl,z⟩
 .refine⟨bi _,acZ rfl ⟨rfl,?_⟩⟩;rw[bQ];have e:((bs.filter λx=>!x.k.data).map Bn.d).isEmpty=(bs.filter λx=>!x.k.data).isEmpty:=by cases bs.filter λx=>!x.k.data<;>rfl
  show Q (.bl ((bs.filter λx=>!x.k.data).map Bn.d).isEmpty);rw[e];exact q
def W1 (l:List Bn):Prop:=∀i x y,l[i]?=aa x->l[i+1]?=aa y->x.k.ug=ag->y.k.data=ar
theorem UL:W1 []:=λi x y h=>by simp at h
theorem IN{l:List Bn}{x:Bn}(h:W1 l)(g:∀z,l.getLast?=aa z->z.k.ug=ag->x.k.data=ar):W1 (l++[x]):=λi a b ha c=>by
 have lb:=(au.mp c).1;rw[aE,bO] at lb;rw[bA (by omega)] at ha;by_cases e:i+1<l.length
 .rw[bA e] at c;exact h i a b ha c
 .have f:i+1=l.length:=by omega
  rw[b8 (by omega),f,eW] at c;cases c;refine g a ?_;rw[List.getLast?_eq_getElem?,<-f,Nat.add_sub_cancel];exact ha
structure ZI(bs:List Bn):Prop where
 lo:1<=bs.length
 hi:bs.length<=23
 ok:∀x∈bs,x.Ok
 ch:W1 bs
 en:∀z,bs.getLast?=aa z->z.k.ug=ar
abbrev szs:List Int:=[11]++(bP 11 [20,4,4,10000000000]).flatten
theorem aiE{ns:List Int}(h:below ns szs):∀k:Nat,k<11->∃a b c d,(ns.drop (1+4*k)).take 4=[a,b,c,d]/\(0<=a/\a<20)/\(0<=b/\b<4)/\(0<=c/\c<4)/\(0<=d/\d<10000000000):=by
 obtain⟨n,f⟩:=h;have o:ns.length=45:=by rw[n];rfl
 intro k p;have g:∀i,i<45->∃a,ns[i]?=aa a:=λi hi=>⟨_,aJ (by omega)⟩;obtain⟨a,ha⟩:=g (1+4*k) (by omega);obtain⟨b,j⟩:=g (1+4*k+1) (by omega);obtain⟨c,m⟩:=g (1+4*k+2) (by omega);obtain⟨d,hd⟩:=g (1+4*k+3) (by omega);have e:∀i x,ns[i]?=aa x->ns.drop i=x::ns.drop (i+1):=λi x q=>by obtain⟨r,u⟩:=au.mp q;rw[eB r,u]
 have s:∀k,k<11->szs[1+4*k]?=aa 20/\szs[1+4*k+1]?=aa 4/\szs[1+4*k+2]?=aa 4/\szs[1+4*k+3]?=aa 10000000000:=by decide+kernel
 obtain⟨s1,s2,s3,v⟩:=s k p;exact⟨a,b,c,d,by rw[e _ _ ha,e _ _ j,e _ _ m,e _ _ hd];rfl,f _ _ _ ha s1,f _ _ _ j s2,f _ _ _ m s3,f _ _ _ hd v⟩
theorem ahd{a:Int}(h:0<=a/\a<20):∃k:Kd,vE (OV.map λk=>D.str k.s) a=aa (.str k.s):=by
 have g:∀i,i<20->(OV[i]?).isSome=ag:=by decide+kernel
 obtain⟨n,rfl⟩:∃n:Nat,a=n:=⟨a.toNat,by omega⟩;have:=g n (by omega);cases e:OV[n]? with
 |none=>rw[e] at this;cases this
 |some k=>exact⟨k,lx (by rw[aS,e];rfl)⟩
theorem zx{β:Type}{f:β->D}:∀l:List β,(∀x∈l,L3.pl (f x)=ag)->K7 (l.map f)=ag
 |[],_=>rfl
 |x::l,h=>by show(L3.pl (f x)&&K7 (l.map f))=ag;rw[h x av,zx l λy a=>h y (aH _ a)];rfl
theorem zy{β:Type}{f:β->D}{n:Nat}:∀l:List β,(∀x∈l,dp (f x)<=n)->FA (l.map f)<=n
 |[],_=>bi _
 |x::l,h=>by show max (dp (f x)) (FA (l.map f))<=n;have:=h x av;have:=zy l λy a=>h y (aH _ a);omega
theorem ahe(k:Kd):cn k.s=ag:=by cases k<;>decide+kernel
theorem ac1(x:Bn):L3.pl x.d=ag:=by show(cn x.k.s&&(ag&&(ag&&(ag&&ag))))=ag;rw[ahe];rfl
theorem ac2(x:Bn):dp x.d<=1:=by show dp (.tup [.str _,.int _,.int _,.int _])<=1;simp[dp,FA]
theorem NK{bs:List Bn}{x:D}{M:Ms}{Q:DK}(h:vw M x=.lst (bs.map Bn.d))(q:Q (.bl (!bs.isEmpty)) M):Fa x (.lst []) M Q:=by
 unfold Fa;rw[h];have e:Bt (.lst (bs.map Bn.d)) (.lst [])=bs.isEmpty:=by cases bs<;>rfl
 have a:dp (.lst (bs.map Bn.d))<=60:=by have:=zy (f:=Bn.d) (n:=1) bs λx _=>ac2 x;show FA (bs.map Bn.d)+1<=60;omega
 refine⟨⟨zx bs λx _=>ac1 x,rfl,a,show dp (.lst [])<=60 by decide⟩,?_⟩;show Q (.bl (!Bt (.lst (bs.map Bn.d)) (.lst []))) M;rw[e];exact q
theorem ae7{n j:Nat}{x:D}(h:(zF 0 n)[j]?=aa x):x=.int j/\j<n:=by unfold zF at h;obtain⟨i,b,c⟩:=FJ.get_map h;have:=au.mp b;obtain⟨e,a⟩:=this;simp at e a;subst c;refine⟨?_,by omega⟩;simp[<-a]
theorem bn0(k:Kd):(Bn.mk k 0 0 0).Ok:=⟨⟨Int.le_refl _,show(0:Int)<=3 by decide⟩,⟨Int.le_refl _,show(0:Int)<=3 by decide⟩,⟨Int.le_refl _,show(0:Int)<10000000000 by decide⟩⟩
def AN:GP:=λds Q=>∃c:Int,ds=[.int c,.int 11]/\∀bs,ZI bs->Q (.lst (bs.map Bn.d))
theorem Qp:iH AN:=by
 rintro ds P Q w ⟨c,h,q⟩
 exact⟨c,h,λbs g=>w _ (q bs g)⟩
theorem ab1:∀ds Q,AN ds Q->jB 10 2 (yu (cl CD) (cl FR) (cl vW)) ds Q:=by
 rintro ds Q ⟨c,h,q⟩
 subst h;refine⟨rfl,ab rfl,?_⟩;refine⟨⟨by decide,by decide,by decide⟩,?_⟩;refine⟨ab rfl,?_⟩;refine⟨⟨by decide,by decide,ab rfl⟩,?_⟩;refine⟨ab rfl,?_⟩;refine⟨rfl,c,szs,rfl,ab rfl,by decide+kernel,λns L=>?_⟩;obtain⟨p,H⟩:∃p,ns[0]?=aa p:=⟨_,aJ (by rw[L.1];exact ab rfl)⟩;have hp8:=L.2 0 p 11 H rfl;have Y:vE (ns.map D.int) 0=aa (.int p):=lx (k:=0) (by rw[aS,H];rfl);refine⟨bi _,_,Y,?_⟩;refine⟨⟨by omega,by omega⟩,trivial,?_⟩;refine uR (λj δ M=>∃(bs:List Bn) (o4 o5 o6 o7 o8 o9:Option D),bs.length<=2*j/\(1<=j->1<=bs.length)/\(∀x∈bs,x.Ok)/\W1 bs/\M=[aa (.lst (bs.map Bn.d))]/\δ=[aa (.int c),aa (.int 11),aa (.lst (ns.map D.int)),aa (.loc 0),o4,o5,o6,o7,o8,o9])
  (λ_ _ _ _=>trivial) _ 0 _ _ ⟨[],ao,ao,ao,ao,ao,ao,bi _,λh=>absurd h (by decide),λr h=>(by cases h),UL,rfl,rfl⟩ (λj x δ M hx H N hN=>?_) (λδ M H=>?_)
 .obtain⟨bs,o4,o5,o6,o7,o8,o9,hj,u,I,J,rfl,rfl⟩:=H;obtain⟨rfl,hj8⟩:=ae7 hx;rw[bt] at hj u hN;obtain⟨a,b,d,m,e3,ha,QY,hd,hm⟩:=aiE L j (by omega);obtain⟨k,hk⟩:=ahd ha;have aiF:cutD (ns.map D.int) (aa (1+4*(j:Int))) (aa (5+4*(j:Int)))=[.int a,.int b,.int d,.int m]:=by have:=abH (xs:=ns.map D.int) (k:=1+4*j) (m:=5+4*j) (by rw[ai,L.1];show 5+4*j<=45;omega) (by omega);rw[show((1+4*j:Nat):Int)=1+4*(j:Int) by push_cast;rfl,show((5+4*j:Nat):Int)=5+4*(j:Int) by push_cast;rfl,show 5+4*j- (1+4*j)=4 by omega,<-List.map_drop,<-List.map_take,e3] at this;exact this
  have xo:(Bn.mk k b d m).Ok:=⟨⟨QY.1,by show b<=3;omega⟩,⟨hd.1,by show d<=3;omega⟩,hm⟩;have U:∀(E:nN),E.nx=N->∀f:List Bn,f.length<=2*j+1->(∀y∈f,y.Ok)->W1 f->(∀z,f.getLast?=aa z->z.k.ug=ag->k.data=ar)->
    j8 (Aq "list" iN (gE 3) (gD (gE 9) gK)) E [aa (.int c),aa (.int 11),aa (.lst (ns.map D.int)),aa (.loc 0),aa (.int j),aa (.int a),aa (.int b),aa (.int d),aa (.int m),aa (Bn.mk k b d m).d] [aa (.lst (f.map Bn.d))]:=λE w f l o ch g=>by
   refine⟨rfl,_,rfl,?_,?_⟩
   .rw[ai];exact bM (show f.length<=1000 by omega) (by decide)
   .rw[w];refine hN _ _ ⟨f++[Bn.mk k b d m],_,_,_,_,_,_,by rw[aE,bO];omega,λ_=>by rw[aE,bO];omega,λy O=>?_,IN ch g,by rw[aX];rfl,rfl⟩;rcases bg.mp O with h|h
    .exact o y h
    .rw[bS.mp h];exact xo
  refine⟨.inl ⟨by decide,by decide⟩,.inl ⟨by decide,by decide⟩,?_⟩;show Pr _ _ (D.lst (cutD (ns.map D.int) (aa (1+4*(j:Int))) (aa (5+4*(j:Int))))) _ _ _;rw[aiF];refine⟨rfl,rfl,?_⟩;refine⟨rfl,rfl,_,hk,ab rfl,?_⟩;clear hk;cases i:k.data with
  |false=>
   have B:=λE w=>U E w bs (by omega) I J (λ_ _ _=>i);cases k<;>first|(cases i;done)|exact⟨_,rfl,ab rfl,_,rfl,B _ rfl⟩
  |true=>
   rcases e7 bs with C|⟨l,z,T⟩
   .subst C;have B:=λE w=>U E w [] (bi _) (λy h=>by cases h) UL (λz h=>by cases h);cases k<;>first|(cases i;done)|exact⟨_,rfl,ab rfl,_,rfl,bi _,NK (bs:=[]) rfl (B _ rfl)⟩
   .rw[e8] at T;subst T;have zl:(l++[z]).getLast?=aa z:=by simp
    have em:(l++[z]).isEmpty=ar:=by simp
    have A:vE ((l++[z]).map Bn.d) (-1)=aa z.d:=by rw[aX];exact Oh _ _
    have sl:((l++[z]).map Bn.d).length<aC:=by rw[ai];exact bM (show(l++[z]).length<=1000 by omega) (by decide)
    cases n:z.k.ug with
    |false=>
     have B:=λE w=>U E w (l++[z]) (by omega) I J (λz' h g=>by rw[zl] at h;cases h;rw[n] at g;cases g);cases k<;>first|(cases i;done)|(refine⟨_,rfl,ab rfl,_,rfl,bi _,NK (bs:=l++[z]) rfl ?_⟩;rw[em];refine⟨_,A,_,rfl,rfl,z.k,rfl,?_⟩;rw[n];exact B _ rfl)
    |true=>
     have B:=λE w=>U E w (l++[z]++[Bn.mk .back 0 0 0]) (by rw[aE,bO];omega) (λy O=>by
      rcases bg.mp O with h|h
      .exact I y h
      .rw[bS.mp h];exact bn0 _) (IN J λ_ _ _=>rfl) (λz' h g=>by rw[List.getLast?_concat] at h;cases h;cases g)
     rw[aX] at B;cases k<;>first|(cases i;done)|(refine⟨_,rfl,ab rfl,_,rfl,bi _,NK (bs:=l++[z]) rfl ?_⟩;rw[em];refine⟨_,A,_,rfl,rfl,z.k,rfl,?_⟩;rw[n];exact⟨rfl,ab rfl,_,rfl,sl,B _ rfl⟩)
 .obtain⟨bs,o4,o5,o6,o7,o8,o9,hj,u,I,J,rfl,rfl⟩:=H;have rl:(zF 0 (1+p).toNat).length=(1+p).toNat:=by simp[zF]
  rw[bt,rl] at hj u;rcases e7 bs with C|⟨l,z,T⟩
  .subst C;have:=u (by omega);cases this
  .rw[e8] at T;subst T;have zl:(l++[z]).getLast?=aa z:=by simp
   have A:vE ((l++[z]).map Bn.d) (-1)=aa z.d:=by rw[aX];exact Oh _ _
   have sl:((l++[z]).map Bn.d).length<aC:=by rw[ai];exact bM (show(l++[z]).length<=1000 by omega) (by decide)
   have ll:1<=(l++[z]).length:=by simp
   refine⟨_,A,_,rfl,rfl,z.k,rfl,?_⟩;cases n:z.k.ug with
   |false=>exact⟨Tc _,q _ ⟨ll,by omega,I,J,λz' h=>by rw[zl] at h;cases h;exact n⟩⟩
   |true=>
    obtain⟨v,hv⟩:∃v,ns[2]?=aa v:=⟨_,aJ (by rw[L.1];exact ab rfl)⟩;have aiG:vE (ns.map D.int) 2=aa (.int v):=lx (k:=2) (by rw[aS,hv];rfl);have en:∀G:Kd,G.ug=ar->G.data=ar->l9 ((l++[z]).map Bn.d++[(Bn.mk G 0 0 0).d])=ag/\Q (.lst ((l++[z]).map Bn.d++[(Bn.mk G 0 0 0).d])):=λG g1 g2=>by
     have e:(l++[z]).map Bn.d++[(Bn.mk G 0 0 0).d]=(l++[z]++[Bn.mk G 0 0 0]).map Bn.d:=by rw[aX (l₁:=l++[z])];rfl
     rw[e];refine⟨Tc _,q _ ⟨by simp,by rw[aE,bO];omega,λy O=>?_,IN J λ_ _ _=>g2,λz' h=>by rw[List.getLast?_concat] at h;cases h;exact g1⟩⟩;rcases bg.mp O with h|h
     .exact I y h
     .rw[bS.mp h];exact bn0 _
    refine⟨rfl,ab rfl,_,aiG,(by decide:(0:Int)<2),?_⟩;have h2:v%2=0\/v%2=1:=by omega
    rcases h2 with e|e
    .exact⟨.str "stop",show vE _ (v%2)=aa _ by rw[e];rfl,ab rfl,_,rfl,sl,en .stop rfl rfl⟩
    .exact⟨.str "back",show vE _ (v%2)=aa _ by rw[e];rfl,ab rfl,_,rfl,sl,en .back rfl rfl⟩
noncomputable def uu(l:List ay)(m:Int):ay:=l.getD (m%(l.length:Int)).toNat ""
noncomputable def fill(cs ns a:List ay)(x:Bn):Rw:=match x.k with
 |.load=>if ns=[] then .say x.b else .load x.b x.c (uu ns x.m)
 |.alike=>if x.m%5=0 then .say x.b else .alike x.b (uu (cs++ns++a) x.m) (uu (cs++ns++a) (x.m/7))
 |.jumpby=>if a=[] then .back else .jumpby x.b (uu a x.m)
 |.numbers=>.numbers ((cB (1+x.m%4).toNat).map λ(j:Nat)=>num (x.m/3+5*(j:Int)))
 |.table=>.table ((cB (1+x.m%4).toNat).map λ(j:Nat)=>uu cs (x.m/5+3*(j:Int)))
 |.set=>.set x.b (num x.m)
 |.add=>.add x.b x.c
 |.take=>.take x.b x.c
 |.say=>.say x.b
 |.ask=>.ask x.b
 |k=>kR k x.b (uu cs x.m)
theorem lX{l:List ay}{m:Int}(h:l≠[]):uu l m∈l:=by
 have a:0<l.length:=fJ.mpr h;have b:=ai9 m (show(l.length:Int)≠0 by omega);have c:=fZ m (show(0:Int)<l.length by omega);have lt:(m%(l.length:Int)).toNat<l.length:=by omega
 unfold uu;rw[bu,aJ lt];exact fb lt
theorem NL{l:List ay}{m:Int}(h:l≠[]):vE (l.map D.str) (m%(l.length:Int))=aa (.str (uu l m)):=by
 have a:0<l.length:=fJ.mpr h;have b:=ai9 m (show(l.length:Int)≠0 by omega);have c:=fZ m (show(0:Int)<l.length by omega);obtain⟨n,hn⟩:∃n:Nat,m%(l.length:Int)=n:=⟨(m%(l.length:Int)).toNat,by omega⟩;unfold uu;rw[hn];have lt:n<l.length:=by omega
 refine lx ?_;rw[aS,aJ lt,cT,bu,aJ lt];rfl
theorem WK(cs ns a:List ay)(x:Bn):(fill cs ns a x).ug=x.k.ug:=by obtain⟨k,b,c,m⟩:=x;cases k<;>first|rfl|(unfold fill;dsimp only;split<;>rfl)
theorem LH(cs ns a:List ay)(x:Bn):(fill cs ns a x).code=!x.k.data:=by obtain⟨k,b,c,m⟩:=x;cases k<;>first|rfl|(unfold fill;dsimp only;split<;>rfl)
theorem rV(cs ns a:List ay)(x:Bn):(fill cs ns a x).ju=ar:=by obtain⟨k,b,c,m⟩:=x;cases k<;>first|rfl|(unfold fill;dsimp only;split<;>rfl)
theorem ab2{cs ns a:List ay}{x:Bn}(o:x.Ok)(f:cs≠[])(g:∀w∈cs,xt w=ag)(i:∀w∈ns,xt w=ag)(n:∀w∈a,xt w=ag):(fill cs ns a x).ok=ag:=by
 have bo:tu x.b=ag:=by unfold tu;rw[aQ,decide_eq_true_eq,decide_eq_true_eq];exact o.b
 have co:tu x.c=ag:=by unfold tu;rw[aQ,decide_eq_true_eq,decide_eq_true_eq];exact o.c
 have wp:xt (uu cs x.m)=ag:=g _ (lX f);have all:∀w∈cs++ns++a,xt w=ag:=λw hw=>by
  rcases bg.mp hw with h|h
  .rcases bg.mp h with h|h
   .exact g w h
   .exact i w h
  .exact n w h
 have ne:cs++ns++a≠[]:=by simp[f]
 have e:1<=(1+x.m%4).toNat/\(1+x.m%4).toNat<=60:=by omega
 obtain⟨k,b,c,m⟩:=x;cases k;case load=>
  unfold fill;dsimp only;split
  .exact bo
  .rename_i h;show(tu b&&tu c&&xt _)=ag;rw[show tu b=ag from bo,show tu c=ag from co,i _ (lX h)];rfl
 case alike=>
  unfold fill;dsimp only;split
  .exact bo
  .show(tu b&&xt _&&xt _)=ag;rw[show tu b=ag from bo,all _ (lX ne),all _ (lX ne)];rfl
 case jumpby=>
  unfold fill;dsimp only;split
  .rfl
  .rename_i h;show(tu b&&xt _)=ag;rw[show tu b=ag from bo,n _ (lX h)];rfl
 case numbers=>
  show(decide (1<=_)&&decide (_<=60)&&List.all _ okN)=ag;rw[ai,cQ,decide_eq_true e.1,decide_eq_true e.2,List.all_map];simp only [Bool.true_and];exact bF.mpr λj _=>ZH _
 case table=>
  show(decide (1<=_)&&decide (_<=60)&&List.all _ xt)=ag;rw[ai,cQ,decide_eq_true e.1,decide_eq_true e.2,List.all_map];simp only [Bool.true_and];exact bF.mpr λj _=>g _ (lX f)
 case set=>show(tu b&&okN _)=ag;rw[show tu b=ag from bo,ZH];rfl
 case add=>show(tu b&&tu c)=ag;rw[show tu b=ag from bo,show tu c=ag from co];rfl
 case take=>show(tu b&&tu c)=ag;rw[show tu b=ag from bo,show tu c=ag from co];rfl
 case say=>exact bo
 case ask=>exact bo
 case jump=>exact wp
 case jumpif=>show(tu b&&xt _)=ag;rw[show tu b=ag from bo,wp];rfl
 case call=>exact wp
 case back=>rfl
 case stop=>rfl
def kK:GN:=λds M Q=>∃(x:Bn) (cs ns a:List ay) (b c:Option OD) (rest:Ms),ds=[x.d,.loc 4,.loc 2,.loc 3]/\M=b::c::aa (.lst (ns.map .str))::aa (.lst (a.map .str))::aa (.lst (cs.map .str))::rest/\x.Ok/\cs≠[]/\cs.length<=1000/\ns.length<=1000/\a.length<=1000/\Q (fill cs ns a x).d M
theorem Ky:jW kK:=by
 rintro ds M P Q w ⟨x,cs,ns,f,g,i,rest,h,a1,a,b,c,d,e,q⟩
 exact⟨x,cs,ns,f,g,i,rest,h,a1,a,b,c,d,e,w _ _ q⟩
theorem WL:∀ds M Q,kK ds M Q->uf 10 4 (Cv (cl CG) (cl NJ)) ds M Q:=by
 rintro ds M Q ⟨x,cs,ns,f,I,J,rest,h,A,ok,n,L,N,lt,q⟩
 subst h A;have len:∀l:List ay,l≠[]->(0:Int)<((l.map D.str).length:Int):=λl h=>by have:=fJ.mpr h;rw[ai];omega
 have i:∀(l:List ay) (m:Int),l≠[]->vE (l.map D.str) (m%((l.map D.str).length:Int))=aa (.str (uu l m)):=λl m h=>by rw[ai];exact NL h
 have u:=i cs x.m n;have v:=len cs n;obtain⟨k,b,c,m⟩:=x;refine⟨rfl,rfl,rfl,_,rfl,v,_,u,?_⟩;clear u;cases k;case add=>walk_at "b";exact q
 case take=>walk_at "b";exact q
 case say=>walk_at "b";exact q
 case ask=>walk_at "b";exact q
 case set=>walk_at "b";exact q
 case jump=>walk_at "b";exact⟨.jump,b,_,rfl,rfl,q⟩
 case jumpif=>walk_at "b";exact⟨.jumpif,b,_,rfl,rfl,q⟩
 case call=>walk_at "b";exact⟨.call,b,_,rfl,rfl,q⟩
 case back=>walk_at "b";exact⟨.back,b,_,rfl,rfl,q⟩
 case stop=>walk_at "b";exact⟨.stop,b,_,rfl,rfl,q⟩
 case load=>
  by_cases hn:ns=[]
  .subst hn;walk_at "b";exact q
  .have g:=len ns hn;have pn:=i ns m hn;rw[show fill cs ns f ⟨.load,b,c,m⟩=Rw.load b c (uu ns m) from if_neg hn] at q;obtain⟨a,l,rfl⟩:=d6 hn;walk_at "b";exact⟨g,_,pn,ab rfl,q⟩
 case alike=>
  refine⟨(by decide:(0:Int)<5),?_⟩;by_cases o:m%5=0
  .rw[show fill cs ns f ⟨.alike,b,c,m⟩=Rw.say b from if_pos o] at q;show(if(m%5==0)=ag then _ else _);rw[if_pos (by rw[o];rfl)];exact⟨ab rfl,q⟩
  .rw[show fill cs ns f ⟨.alike,b,c,m⟩=Rw.alike b (uu (cs++ns++f) m) (uu (cs++ns++f) (m/7)) from if_neg o] at q;show(if(m%5==0)=ag then _ else _);rw[if_neg (by rw[beq_iff_eq];exact o)];have e:cs.map D.str++ns.map D.str++f.map D.str=(cs++ns++f).map D.str:=by rw[aX,aX]
   have p:cs++ns++f≠[]:=by simp[n]
   have g:=len _ p;have w:=i _ m p;have y:=i _ (m/7) p;rw[<-e] at g w y;have B:(cs.map D.str).length+(ns.map D.str).length<=aC:=by rw[ai,ai];exact bG (show _<=2000 by omega) (by decide)
   have C:(cs.map D.str++ns.map D.str).length+(f.map D.str).length<=aC:=by rw[aE,ai,ai,ai];exact bG (show _<=3000 by omega) (by decide)
   exact⟨B,C,_,rfl,g,_,w,⟨by decide,by decide⟩,_,rfl,g,_,y,ab rfl,q⟩
 case jumpby=>
  by_cases hn:f=[]
  .subst hn;walk_at "b";exact q
  .have g:=len f hn;have pn:=i f m hn;rw[show fill cs ns f ⟨.jumpby,b,c,m⟩=Rw.jumpby b (uu f m) from if_neg hn] at q;obtain⟨a,l,rfl⟩:=d6 hn;walk_at "b";exact⟨g,_,pn,ab rfl,q⟩
 case numbers=>
  walk_at "b";refine⟨(by decide:(0:Int)<4),⟨?_,?_⟩,trivial,?_⟩
  .show(-2^62:Int)<=1+m%4;omega
  .show(1+m%4:Int)<2^62;omega
  show lQ _ _ _ _ _ _ ((cB (1+m%4).toNat).map _) _ _ _;refine nS _ (λj:Nat=>D.int (num (m/3+5*(j:Int)))) trivial _ _ ?_ (λj E G r=>?_) ?_
  .rw[bj,bt,cQ];exact sx (by omega)
  .have z:=r _ (show CZ [ao,aa 7] [aa (.int (0+(j:Int))),aa (.int m)]=_ from rfl);refine⟨⟨by decide,by decide⟩,.inl ⟨by decide,by decide⟩,rfl,_,rfl,?_⟩;rw[Int.zero_add] at z |-;exact z
  .rw[bQ];have e:(fill cs ns f ⟨.numbers,b,c,m⟩).d=.tup [.str "numbers",.lst ((cB (1+m%4).toNat).map λj:Nat=>D.int (num (m/3+5*(j:Int))))]:=by show D.tup [_,.lst (eS _ (eS _ _))]=_;rw[bq];rfl
   rw[e] at q;exact⟨ab rfl,q⟩
 case table=>
  walk_at "b";refine⟨(by decide:(0:Int)<4),⟨?_,?_⟩,trivial,?_⟩
  .show(-2^62:Int)<=1+m%4;omega
  .show(1+m%4:Int)<2^62;omega
  show lQ _ _ _ _ _ _ ((cB (1+m%4).toNat).map _) _ _ _;refine nS _ (λj:Nat=>D.str (uu cs (m/5+3*(j:Int)))) trivial _ _ ?_ (λj E G r=>?_) ?_
  .rw[bj,bt,cQ];exact sx (by omega)
  .have z:=r _ (show CZ [ao,aa 1,aa 7] [aa (.int (0+(j:Int))),aa (.loc 4),aa (.int m)]=_ from rfl);have H:=i cs (m/5+3*(j:Int)) n;refine⟨⟨by decide,by decide⟩,.inl ⟨by decide,by decide⟩,_,rfl,v,_,?_,z⟩;rw[<-H];rw[Int.zero_add]
  .rw[bQ];have e:(fill cs ns f ⟨.table,b,c,m⟩).d=.tup [.str "table",.lst ((cB (1+m%4).toNat).map λj:Nat=>D.str (uu cs (m/5+3*(j:Int))))]:=by show D.tup [_,.lst (eS _ (eS _ _))]=_;rw[bq];rfl
   rw[e] at q;exact⟨ab rfl,q⟩
noncomputable def GC:Kd->Bool
 |.numbers=>ag
 |_=>ar
noncomputable def Jm:Kd->Bool
 |.table=>ag
 |_=>ar
noncomputable def Af(k:Kd):Bool:=!k.data
noncomputable def D8(f:Kd->Bool)(p:Nat)(l:List (Bn×Nat)):List ay:=(l.filter λx=>f x.1.k).map λx=>D7 p x.2
noncomputable def nW(f:Kd->Bool)(l:List (List Bn×Nat)):List ay:=l.flatMap λx=>D8 f x.2 x.1.zipIdx
noncomputable def l8(cs ns a:List ay)(p:Nat)(l:List (Bn×Nat)):List Rw:=l.flatMap λx=>[.mark (D7 p x.2) (x.1.m%2==0),fill cs ns a x.1]
noncomputable def NM(p:Nat):ay:=⟨#[97+p]⟩++"part"
noncomputable def FS(cs ns a:List ay)(l:List (List Bn×Nat)):List Pt:=l.map λx=>(NM x.2,l8 cs ns a x.2 x.1.zipIdx)
noncomputable def prog(a:List (List Bn)):List Pt:=FS (nW Af a.zipIdx) (nW GC a.zipIdx) (nW Jm a.zipIdx) a.zipIdx
structure UM(bs:List Bn):Prop where
 lo:1<=bs.length
 hi:bs.length<=25
 ok:∀x∈bs,x.Ok
 ch:W1 bs
 en:∀z,bs.getLast?=aa z->z.k.ug=ar
structure NN(iq:List (List Bn)):Prop where
 lo:1<=iq.length
 hi:iq.length<=4
 all:∀bs∈iq,UM bs
 code:nW Af iq.zipIdx≠[]
theorem ab3(p k:Nat):(D7 p k).cps.toList=[97+p,97+k/26,97+k%26]:=rfl
theorem ZJ{p k a k':Nat}(h:p<a\/(p=a/\k<k')):xr (D7 p k) (D7 a k')=ag/\D7 p k≠D7 a k':=by
 have ne:D7 p k≠D7 a k':=λe=>by have:=congrArg (λs:ay=>s.cps.toList) e;simp only [ab3,List.cons.injEq] at this;omega
 refine⟨?_,ne⟩;unfold xr;rw[ab3,ab3];simp only [eT,decide_eq_false_iff_not,eZ];simp;omega
theorem ac3{p k:Nat}(a:p<26)(b:k<676):xt (D7 p k)=ag:=by
 have:k/26<26:=by omega
 have:k%26<26:=by omega
 unfold xt low;rw[ab3];show(decide (1<=3)&&decide (3<=8)&&_)=ag;simp;omega
theorem ahf{p:Nat}(a:p<26):xt (NM p)=ag:=by
 have:∀p,p<26->xt (NM p)=ag:=by decide+kernel
 exact this p a
theorem ae8{p a:Nat}(h:p<a):xr (NM p) (NM a)=ag/\NM p≠NM a:=by
 have c:∀p,(NM p).cps.toList=[97+p,112,97,114,116]:=λp=>rfl;refine⟨?_,λe=>?_⟩
 .unfold xr;rw[c,c];simp only [eT,decide_eq_false_iff_not,eZ];simp;omega
 .have:=congrArg (λs:ay=>s.cps.toList) e;simp only [c,List.cons.injEq] at this;omega
theorem Te{β:Type}(l:List β)(n:Nat):(l.zipIdx n).Pairwise λa b=>a.2<b.2:=by rw[eF];intro i j hi c h;simp;omega
theorem Tf{f:Kd->Bool}{b:List (List Bn)}{w:ay}(h:w∈nW f b.zipIdx):∃p k bs x,b[p]?=aa bs/\bs[k]?=aa x/\f x.k=ag/\w=D7 p k:=by unfold nW D8 at h;obtain⟨⟨bs,p⟩,c,h⟩:=gv.mp h;obtain⟨⟨x,k⟩,a,rfl⟩:=bN.mp h;obtain⟨a,e⟩:=eK.mp a;exact⟨p,k,bs,x,by simpa[bW] using c,by simpa[bW] using a,e,rfl⟩
theorem IP(cs ns a:List ay)(n:ay)(p:Nat):∀(bs:List Bn) (j:Nat),iu n j (l8 cs ns a p (bs.zipIdx j))=(bs.zipIdx j).map λx=>(D7 p x.2,x.1.m%2==0,n,x.2)
 |[],j=>rfl
 |x::bs,j=>by rw[fe];show(_,_,_,_)::iu n j (fill cs ns a x::l8 cs ns a p (bs.zipIdx (j+1)))=_;rw[mI (rV _ _ _ _),IP cs ns a n p bs (j+1)];rfl
theorem bare_rows(cs ns a:List ay)(p:Nat):∀(l:List (Bn×Nat)),bare (l8 cs ns a p l)=l.map λx=>fill cs ns a x.1
 |[]=>rfl
 |x::l=>by show List.filter _ (_::fill cs ns a x.1::l8 cs ns a p l)=_;rw[gw (by simp[Rw.ju]),gx (by rw[rV];rfl)];exact congrArg _ (bare_rows cs ns a p l)
theorem ab4{β a:Type}(f:β->a)(l:List β)(j:Nat):(l.zipIdx j).map (λx=>f x.1)=l.map f:=by rw[show(λx:β×Nat=>f x.1)=f∘bh from rfl,<-bq,List.zipIdx_map_fst]
noncomputable def W2(l:List (List Bn×Nat)):List FJ.Mk:=l.flatMap λx=>x.1.zipIdx.map λy=>(D7 x.2 y.2,y.1.m%2==0,NM x.2,y.2)
theorem UN(cs ns a:List ay)(l:List (List Bn×Nat)):wW (FS cs ns a l)=W2 l:=by unfold wW FS W2;rw[List.flatMap_map];congr 1;funext x;exact IP _ _ _ _ _ _ _
theorem ZK(c:List (List Bn)):((W2 c.zipIdx).map bh).Pairwise λa b=>xr a b=ag/\a≠b:=by
 rw[eU];unfold W2;rw[List.pairwise_flatMap];refine⟨λx e=>?_,(Te c 0).imp λ{a b} h=>?_⟩
 .rw[eU];exact(Te x.1 0).imp λ{a b} h=>ZJ (.inr ⟨rfl,h⟩)
 .intro x e y f;obtain⟨g,_,rfl⟩:=bN.mp e;obtain⟨i,_,rfl⟩:=bN.mp f;exact ZJ (.inl h)
theorem Tg(cs ns e:List ay)(c:List (List Bn)):((FS cs ns e c.zipIdx).map bh).Pairwise λa b=>xr a b=ag/\a≠b:=by unfold FS;rw[bq,eU];exact(Te c 0).imp λ{a b} h=>ae8 h
theorem Qq(cs ns n:List ay)(o:List (List Bn)):wY (FS cs ns n o.zipIdx)=FS cs ns n o.zipIdx:=by
 have c:=Tg cs ns n o;generalize FS cs ns n o.zipIdx=m at c;unfold wY mT;have e:(m.map bh).zip m=m.map λp=>(p.1,p):=by have:=List.zip_map' (f:=bh) (g:=id) (l:=m);simpa using this
 rw[e];rw[eU] at c;have:=Mh (key:=bh) (fC (m.map λp=>(p.1,p))) (by rw[eU];exact c.imp λh=>h.1) (λa ha b u h=>by
  obtain⟨a,q,rfl⟩:=bN.mp ha;obtain⟨b,v,rfl⟩:=bN.mp u;obtain⟨i,hi,rfl⟩:=aje.mp q;obtain⟨j,r,rfl⟩:=aje.mp v;rw[eF] at c;rcases Nat.lt_trichotomy i j with z|z|z
  .exact absurd h (c i j hi r z).2
  .subst z;rfl
  .exact absurd h.symm (c j i r hi z).2)
 rw[<-this,bq];exact List.map_id _
section
variable {iq:List (List Bn)} {cs ns ts:List ay}
theorem IQ{β:Type}{l:List β}{k:Nat}{x:β}(h:l[k]?=aa x):l.zipIdx[k]?=aa (x,k):=by rw[List.getElem?_zipIdx,h];simp
theorem UO(iq:List (List Bn)):((W2 iq.zipIdx).map bh).Nodup:=(ZK iq).imp λh=>h.2
theorem yy:ja (FS cs ns ts iq.zipIdx)=W2 iq.zipIdx:=by unfold ja;rw[Qq];exact UN _ _ _ _
theorem ZL{p k:Nat}{bs:List Bn}{x:Bn}(a:iq[p]?=aa bs)(b:bs[k]?=aa x):iJ (D7 p k) (nX (FS cs ns ts iq.zipIdx))=aa (NM p,k):=by unfold nX;rw[yy,LG (UO iq),ZD (UO iq)];refine qC (by rw[bq];exact UO iq) ?_;refine bN.mpr ⟨(D7 p k,x.m%2==0,NM p,k),?_,rfl⟩;unfold W2;exact gv.mpr ⟨(bs,p),aV (IQ a),bN.mpr ⟨(x,k),aV (IQ b),rfl⟩⟩
theorem UP{p:Nat}{bs:List Bn}(a:iq[p]?=aa bs):iJ (NM p) (ik (FS cs ns ts iq.zipIdx))=aa (bs.map (fill cs ns ts)):=by
 unfold ik;rw[Qq];refine qC ?_ ?_
 .rw[bq];exact(Tg cs ns ts iq).imp λh=>h.2
 .refine bN.mpr ⟨(NM p,l8 cs ns ts p bs.zipIdx),bN.mpr ⟨(bs,p),aV (IQ a),rfl⟩,?_⟩;show(NM p,bare _)=_;rw[bare_rows,ab4]
theorem ZM{p k:Nat}{bs:List Bn}{x:Bn}(a:iq[p]?=aa bs)(b:bs[k]?=aa x):pA (ik (FS cs ns ts iq.zipIdx)) (NM p,k)=aa (fill cs ns ts x):=by unfold pA;rw[UP a];show(bs.map (fill cs ns ts))[k]?=_;rw[aS,b];rfl
theorem ae9{f:Kd->Bool}{w:ay}{r:Rw}(h:w∈nW f iq.zipIdx)(g:∀x:Bn,f x.k=ag->x8 r (fill cs ns ts x)=ag):qr (ik (FS cs ns ts iq.zipIdx)) (nX (FS cs ns ts iq.zipIdx)) r w=ag:=by obtain⟨p,k,bs,x,a,b,c,rfl⟩:=Tf h;unfold qr;rw[ZL a b];dsimp only;rw[ZM a b];exact g x c
end
theorem LI{cs ns a:List ay}(x:Bn)(h:Af x.k=ag):(fill cs ns a x).code=ag:=by rw[LH];exact h
theorem WM{e:List (List Bn)}(n:nW Af e.zipIdx≠[])(x:Bn):(fill (nW Af e.zipIdx) (nW GC e.zipIdx) (nW Jm e.zipIdx) x).nms.all (qr (ik (prog e)) (nX (prog e)) (fill (nW Af e.zipIdx) (nW GC e.zipIdx) (nW Jm e.zipIdx) x))=ag:=by
 have an:∀{f:Kd->Bool} {w:ay} {r:Rw},w∈nW f e.zipIdx->(∀x:Bn,f x.k=ag->x8 r (fill (nW Af e.zipIdx) (nW GC e.zipIdx) (nW Jm e.zipIdx) x)=ag)->qr (ik (prog e)) (nX (prog e)) r w=ag:=λh g=>ae9 h g;have all:∀w∈nW Af e.zipIdx++nW GC e.zipIdx++nW Jm e.zipIdx,∀a b c,qr (ik (prog e)) (nX (prog e)) (.alike a b c) w=ag:=λw hw a b c=>by
  rcases bg.mp hw with h|h
  .rcases bg.mp h with h|h
   .exact an h λ_ _=>rfl
   .exact an h λ_ _=>rfl
  .exact an h λ_ _=>rfl
 have ne:nW Af e.zipIdx++nW GC e.zipIdx++nW Jm e.zipIdx≠[]:=by simp[n]
 obtain⟨k,b,c,m⟩:=x;have cd:∀(r:Rw) (m:Int),(∀a,x8 r a=a.code)->qr (ik (prog e)) (nX (prog e)) r (uu (nW Af e.zipIdx) m)=ag:=λr m o=>an (lX n) λx i=>by rw[o];exact LI x i
 cases k;case load=>
  unfold fill;dsimp only;split
  .rfl
  .rename_i h;show(qr _ _ _ _&&ag)=ag;rw[an (lX h) λx i=>?_];rfl;obtain⟨k,b,c,m⟩:=x;cases k<;>first|(cases i;done)|rfl
 case alike=>
  unfold fill;dsimp only;split
  .rfl
  .show(qr _ _ _ _&&(qr _ _ _ _&&ag))=ag;rw[all _ (lX ne),all _ (lX ne)];rfl
 case jumpby=>
  unfold fill;dsimp only;split
  .rfl
  .rename_i h;show(qr _ _ _ _&&ag)=ag;rw[an (lX h) λx i=>?_];rfl;obtain⟨k,b,c,m⟩:=x;cases k<;>first|(cases i;done)|rfl
 case table=>
  show List.all (eS _ _) _=ag;rw[List.all_map];exact bF.mpr λj _=>cd _ _ λ_=>rfl
 case jump=>show(qr _ _ _ _&&ag)=ag;rw[cd _ _ λ_=>rfl];rfl
 case jumpif=>show(qr _ _ _ _&&ag)=ag;rw[cd _ _ λ_=>rfl];rfl
 case call=>show(qr _ _ _ _&&ag)=ag;rw[cd _ _ λ_=>rfl];rfl
 all_goals rfl
theorem ZN{x:Bn}{l:List Bn}(h:W1 (x::l)):W1 l:=λi a b ha c=>h (i+1) a b ha c
theorem LJ(cs ns a:List ay)(p:Nat):∀(bs:List Bn) (j:Nat),W1 bs->(∀z,bs.getLast?=aa z->z.k.ug=ar)->sy (l8 cs ns a p (bs.zipIdx j))=ag
 |[],j,_,_=>rfl
 |x::bs,j,h,e=>by
  have c:=LJ cs ns a p bs (j+1) (ZN h) (λz b=>by
   cases bs with
   |nil=>cases b
   |cons y l=>exact e z (by rw[gy];exact b))
  rw[fe];show sy (.mark _ _::fill cs ns a x::l8 cs ns a p (bs.zipIdx (j+1)))=ag;have f:kN (fill cs ns a x::l8 cs ns a p (bs.zipIdx (j+1)))=aa (fill cs ns a x):=by unfold kN;rw[rV];rfl
  unfold sy;rw[f];show(ag&&ag&&sy _)=ag;unfold sy;rw[c,rV,WK];cases bs with
  |nil=>
   rw[e x rfl];rfl
  |cons y l=>
   have i:kN (l8 cs ns a p ((y::l).zipIdx (j+1)))=aa (fill cs ns a y):=by rw[fe];show kN (.mark _ _::fill cs ns a y::_)=_;unfold kN;show kN (fill cs ns a y::_)=_;unfold kN;rw[rV];rfl
   rw[i];show(ag&&ag&&((!x.k.ug||(fill cs ns a y).code)&&ag&&ag))=ag;rw[LH];cases g:x.k.ug with
   |false=>rfl
   |true=>rw[h 0 x y rfl rfl g];rfl
theorem IS(cs ns a:List ay)(p:Nat):∀(l:List (Bn×Nat)),(l8 cs ns a p l).length=2*l.length/\nE (l8 cs ns a p l)=l.length
 |[]=>⟨rfl,rfl⟩
 |x::l=>by obtain⟨c,b⟩:=IS cs ns a p l;have e:l8 cs ns a p (x::l)=.mark (D7 p x.2) (x.1.m%2==0)::fill cs ns a x.1::l8 cs ns a p l:=rfl;rw[e];refine⟨by rw[aU,aU,aU,c];omega,?_⟩;unfold nE at b |-;rw[gx rfl,gw (by rw[rV];decide),aU,aU,b]
theorem Th{β:Type}(f:β->Int)(b:Int):∀l:List β,(∀x∈l,f x<=b)->(l.map f).sum<=b*(l.length:Int)
 |[],_=>by simp
 |x::l,h=>by
  rw[aZ,List.sum_cons,aU];have:=Th f b l λy a=>h y (aH _ a);have:=h x av
  push_cast
  rw[Int.mul_add];omega
theorem ab5{cs ns a:List ay}{b:List (List Bn)}{q:Pt}(h:q∈FS cs ns a b.zipIdx):∃p bs,b[p]?=aa bs/\q=(NM p,l8 cs ns a p bs.zipIdx):=by unfold FS at h;obtain⟨⟨bs,p⟩,c,rfl⟩:=bN.mp h;exact⟨p,bs,by simpa[bW] using c,rfl⟩
theorem ab6{a:List (List Bn)}(o:NN a){f:Kd->Bool}{w:ay}(h:w∈nW f a.zipIdx):xt w=ag:=by obtain⟨p,k,bs,x,b,c,_,rfl⟩:=Tf h;have:=o.hi;have:=(au.mp b).1;have:=(o.all bs (aV b)).hi;have:=(au.mp c).1;exact ac3 (by omega) (by omega)
theorem IT{a:List (List Bn)}(o:NN a)(f:Kd->Bool):(nW f a.zipIdx).length<=100:=by
 have:∀(l:List (List Bn×Nat)),(∀x∈l,x.1.length<=25)->(nW f l).length<=25*l.length:=by
  intro l;induction l with
  |nil=>intro _;exact aM _
  |cons x l b=>
   intro h;have:=b λy c=>h y (aH _ c);show(D8 f x.2 x.1.zipIdx++nW f l).length<=_;rw[aE,aU];have g:(D8 f x.2 x.1.zipIdx).length<=x.1.length:=by unfold D8;rw[ai];exact bG (e6 _ _) (by rw[dD];exact aM _)
   have:=h x av;omega
 have h:=this a.zipIdx λx e=>by
  obtain⟨bs,p⟩:=x;have:a[p]?=aa bs:=by simpa[bW] using e
  exact(o.all bs (aV this)).hi
 rw[dD] at h;have:=o.hi;omega
theorem ab7{c:List (List Bn)}(o:NN c):x9 (prog c):=by
 have v:(prog c).length=c.length:=by unfold prog FS;rw[ai,dD]
 have mp:∀q∈prog c,∃p bs,c[p]?=aa bs/\p<4/\UM bs/\q=(NM p,l8 (nW Af c.zipIdx) (nW GC c.zipIdx) (nW Jm c.zipIdx) p bs.zipIdx):=λq f=>by obtain⟨p,bs,i,z⟩:=ab5 f;have:=(au.mp i).1;have:=o.hi;exact⟨p,bs,i,by omega,o.all bs (aV i),z⟩
 have u:∀q∈prog c,nE q.2<=25/\1<=xW q.2/\xW q.2<=25/\q.2.length<=50:=λq f=>by obtain⟨p,bs,i,m,g,rfl⟩:=mp q f;obtain⟨A,B⟩:=IS (nW Af c.zipIdx) (nW GC c.zipIdx) (nW Jm c.zipIdx) p bs.zipIdx;rw[dD] at A B;have:=g.lo;have:=g.hi;dsimp only;unfold xW;exact⟨by omega,by omega,by omega,by omega⟩
 have G:(prog c).length<=4:=by rw[v];exact o.hi
 have ml:(ja (prog c)).length<=100:=by
  have e:ja (prog c)=W2 c.zipIdx:=yy;rw[e];have h:(W2 c.zipIdx).map bh=nW (λ_=>ag) c.zipIdx:=by unfold W2 nW D8;rw[List.map_flatMap];congr 1;funext x;rw[List.filter_eq_self.mpr λ_ _=>rfl,bq];rfl
  have:=IT o λ_=>ag;rw[<-h,ai] at this;exact this
 have C:((ja (prog c)).map bh).Pairwise λa b=>xr a b=ag/\a≠b:=by have e:ja (prog c)=W2 c.zipIdx:=yy;rw[e];exact ZK c
 have y:((iV (ja (prog c))).map bh).Pairwise λa b=>xr a b=ag/\a≠b:=C.sublist (List.Sublist.map _ List.filter_sublist);have sl:(iV (ja (prog c))).length<=100:=bG (e6 _ _) ml;refine⟨⟨⟨by rw[v];exact o.lo,by omega,λq f=>?_,?_,?_,?_⟩,λq f r j=>?_,λq f=>?_⟩,by omega,⟨y.imp λh=>h.2,?_,by omega⟩,λq f=>?_⟩
 .obtain⟨H,E,I,J⟩:=u q f;obtain⟨p,bs,i,m,g,rfl⟩:=mp q f;exact⟨ahf (by omega),E,by omega,by omega⟩
 .exact(Tg _ _ _ c).imp λh=>h.2
 .have:=Th (λp:Pt=>(xW p.2:Int)) 25 (prog c) λq f=>by have:=(u q f).2.2.1;omega
  omega
 .have:=Th (λp:Pt=>(nE p.2:Int)) 25 (prog c) λq f=>by have:=(u q f).1;omega
  omega
 .obtain⟨p,bs,i,m,g,rfl⟩:=mp q f;unfold l8 at j;obtain⟨⟨x,k⟩,n,j⟩:=gv.mp j;have n:bs[k]?=aa x:=by simpa[bW] using n
  rcases aO.mp j with e|j
  .subst e;have:=(au.mp n).1;have:=g.hi;show xt _=ag;exact ac3 (by omega) (by omega)
  .rw[bS.mp j];exact ab2 (g.ok x (aV n)) o.code (λw h=>ab6 o h) (λw h=>ab6 o h) (λw h=>ab6 o h)
 .obtain⟨p,bs,i,m,g,rfl⟩:=mp q f;exact LJ _ _ _ _ bs 0 g.ch g.en
 .by_cases h:(iV (ja (prog c))).length<64
  .exact .inl (by rw[ai];exact h)
  .exact .inr ⟨by rw[ai];omega,by rw[ai];omega,y.imp λh=>h.1⟩
 .obtain⟨p,bs,i,m,g,rfl⟩:=mp q f;refine⟨_,UP i,?_⟩;unfold R7;rw[List.all_map];exact bF.mpr λx _=>WM o.code x
theorem ZO{a:List (List Bn)}(o:NN a){w:ay}(h:w∈nW Af a.zipIdx):∃p,MV (prog a) w p:=by have hw:=ab6 o h;obtain⟨p,k,bs,x,b,c,e,rfl⟩:=Tf h;exact⟨_,hw,ZL b c,_,ZM b c,LI x e⟩
end uG
namespace uG
open PySem PySem.Spec PyProof.Rows.KTD L2 L3 FJ
noncomputable def rL(bs:List Bn):D:=.lst (bs.map Bn.d)
theorem afa(bs:List Bn):nl (rL bs)=ag:=Tc bs
def NO (a:GN):DS:=(gW (iE 8 (gX ij (gE 7) (dC (.int 0))))
 (gW (ii (gS (gX (N2 ag) (gE 8) (iT (gD (dC (.str "numbers")) (gD (dC (.str "table")) gK))))) (iE 8 (dC (.str "code"))) hX)
 (j8 (Aq "list" iN (gX ij (gE 3) (gE 8)) (gD (iG a (gD (gE 4) (gD (gE 6) gK))) gK)))))
def UQ (a:GN):DS:=(pi (pD (gD (gE 5) gK)) (js 2 (hC (gQ 6) (hC (gQ 7) jr))) (NO a))
def FT (a:GN):DS:=(pi (pD (gD (gE 2) gK)) (js 2 (hC (gQ 4) (hC (gQ 5) jr))) (UQ a))
def NP (a b:GN):DS:=(gW (j8 (Aq "list" iN (gE 10) (gD (iT (gD (dC (.str "mark")) (gD (iG a (gD (gE 4) (gD (gE 6) gK))) (gD (gX mR (gX (gI (λ_ j=>0<j) λi j=>.int (i%j)) (gX ij (gE 7) (dC (.int 3))) (dC (.int 2))) (dC (.int 0))) gK)))) gK)))
 (j8 (Aq "list" iN (gE 10) (gD (iG b (gD (gE 7) (gD (gX ij (gE 3) (dC (.str "code"))) (gD (gX ij (gE 3) (dC (.str "numbers"))) (gD (gX ij (gE 3) (dC (.str "table"))) gK))))) gK))))
def UR (a b:GN):DS:=(pi (pD (gD (gE 5) gK)) (js 2 (hC (gQ 6) (hC (gQ 7) jr))) (NP a b))
def Ti:DS:=(j8 (Aq "list" iN (gE 9) (gD (iT (gD (gX i8 (gX ij (dC (.str "abcdefghijkl")) (gE 4)) (dC (.str "part"))) (gD (Y5 10) gK))) gK)))
def FU (a b:GN):DS:=(pi (pD (gD (gE 2) gK)) (js 2 (hC (gQ 4) (hC (gQ 5) jr))) (gW (iE 10 (lN (ku gK))) (gW (UR a b) Ti)))
def NQ (a b:GN):DS:=(gW (iE 3 (HH [((dC (.str "numbers")),(lN (ku gK))),((dC (.str "table")),(lN (ku gK))),((dC (.str "code")),(lN (ku gK)))]))
 (gW (FT a)
 (gW (iE 9 (lN (ku gK)))
 (gW (FU a b)
 (hW (iT (gD (gE 9) (gD (gX ij (gE 3) (dC (.str "code"))) gK))))))))
abbrev pM(b:List D)(ns a cs:List ay)(rest:Ms):Ms:=aa (.lst b)::aa (.kt [.inr "numbers",.inr "table",.inr "code"] [.loc 2,.loc 3,.loc 4])::aa (.lst (ns.map .str))::aa (.lst (a.map .str))::aa (.lst (cs.map .str))::rest
theorem IU(f:Kd->Bool)(p:Nat)(l:List (Bn×Nat))(x:Bn×Nat):D8 f p (l++[x])=D8 f p l++(if f x.1.k=ag then[D7 p x.2] else[]):=by
 unfold D8;rw[dB,aX];congr 1;by_cases h:f x.1.k=ag
 .rw[if_pos h,gx (p:=λx:Bn×Nat=>f x.1.k) h];rfl
 .rw[if_neg h,gw (p:=λx:Bn×Nat=>f x.1.k) h];rfl
theorem IV(f:Kd->Bool)(l:List (List Bn×Nat))(x:List Bn×Nat):nW f (l++[x])=nW f l++D8 f x.2 x.1.zipIdx:=by unfold nW;rw[eG];simp
theorem CH{β:Type}(f:β->D)(l:List β):((l.map f).mapIdx λi d=>D.tup [.int i,d])=l.zipIdx.map λx=>D.tup [.int x.2,f x.1]:=by rw[List.mapIdx_eq_zipIdx_map,List.zipIdx_map,bq];rfl
theorem ahg{E:nN}{n o e q r:Option D}{b:List D}{rest:Ms}{ns f cs:List ay}{p k:Nat}{x:Bn}{bs:List Bn}(g:p<26)(i:k<676)(v:ns.length<1000)(lt:f.length<1000)(w:cs.length<1000)
(h:∀e u a c,u=ns++(if GC x.k=ag then[D7 p k] else[])->a=f++(if Jm x.k=ag then[D7 p k] else[])->c=cs++(if Af x.k=ag then[D7 p k] else[])->E.nx [n,o,aa (.loc 0),aa (.loc 1),aa (.int p),aa (rL bs),aa (.int k),aa x.d,e,q,r] (pM b u a c rest)):
  NO (cl k8) E [n,o,aa (.loc 0),aa (.loc 1),aa (.int p),aa (rL bs),aa (.int k),aa x.d,e,q,r] (pM b ns f cs rest):=by
 obtain⟨kd,y,xc,z⟩:=x;have j:∀l:List ay,l.length<1000->(l.map D.str).length<aC:=λl h=>by rw[ai];exact ai3 h (by decide)
 have m:∀l:List ay,l.map D.str++[D.str (D7 p k)]=(l++[D7 p k]).map D.str:=λl=>by rw[aX];rfl
 cases kd;case numbers=>
  refine⟨_,rfl,ab rfl,_,rfl,?_⟩;refine⟨_,_,rfl,rfl,rfl,rfl,p,k,g,i,rfl,_,rfl,j _ v,?_⟩;rw[m];exact h _ _ _ _ rfl (aR _).symm (aR _).symm
 case table=>
  refine⟨_,rfl,ab rfl,_,rfl,?_⟩;refine⟨_,_,rfl,rfl,rfl,rfl,p,k,g,i,rfl,_,rfl,j _ lt,?_⟩;rw[m];exact h _ _ _ _ (aR _).symm rfl (aR _).symm
 all_goals
  refine⟨_,rfl,ab rfl,_,rfl,?_⟩;refine⟨_,_,rfl,rfl,rfl,rfl,p,k,g,i,rfl,_,rfl,j _ w,?_⟩;rw[m];exact h _ _ _ _ (aR _).symm (aR _).symm rfl
section
variable {E:nN} {c0 c1 o4 o5 o6 o7 o8 o9 LL:Option D} {rest:Ms} {ns ts cs:List ay} {p:Nat} {bs:List Bn} {iq:List (List Bn)}
theorem in1(g:p<26)(v:bs.length<=100)(w:ns.length+(D8 GC p bs.zipIdx).length<1000)(lt:ts.length+(D8 Jm p bs.zipIdx).length<1000)(y:cs.length+(D8 Af p bs.zipIdx).length<1000)
(h:∀o6 o7 o8,E.nx [c0,c1,aa (.loc 0),aa (.loc 1),aa (.int p),aa (rL bs),o6,o7,o8,o9,LL] (pM (iq.map rL) (ns++D8 GC p bs.zipIdx) (ts++D8 Jm p bs.zipIdx) (cs++D8 Af p bs.zipIdx) rest)):
  UQ (cl k8) E [c0,c1,aa (.loc 0),aa (.loc 1),aa (.int p),aa (rL bs),o6,o7,o8,o9,LL] (pM (iq.map rL) ns ts cs rest):=by
 have st:=@ahg;unfold UQ;generalize NO (cl k8)=t at st |-;refine⟨_,rfl,rfl,?_⟩;rw[CH];have a:∀(f:Kd->Bool) (pre xs:List (Bn×Nat)),bs.zipIdx=pre++xs->(D8 f p pre).length<=(D8 f p bs.zipIdx).length:=λf pre xs e=>by rw[e];unfold D8;rw[dB,aX,aE];omega
 refine jZ (λx:Bn×Nat=>D.tup [.int x.2,x.1.d]) (λpre xs b M=>bs.zipIdx=pre++xs/\∃o6 o7 o8,b=[c0,c1,aa (.loc 0),aa (.loc 1),aa (.int p),aa (rL bs),o6,o7,o8,o9,LL]/\M=pM (iq.map rL) (ns++D8 GC p pre) (ts++D8 Jm p pre) (cs++D8 Af p pre) rest) (λ_ _ _ _ _=>rfl) _ [] _ _ ?_ (λpre x xs b M c N i=>?_) (λpre b M c=>?_)
 .refine⟨rfl,_,_,_,rfl,?_⟩;show _=pM _ (ns++[]) (ts++[]) (cs++[]) rest;rw[aR,aR,aR]
 .obtain⟨e,o6,o7,o8,rfl,rfl⟩:=c;obtain⟨x,k⟩:=x;have j:bs[k]?=aa x:=by
   have:(x,k)∈bs.zipIdx:=by rw[e];simp
   simpa[bW] using this
  have m:=(au.mp j).1;refine⟨rfl,rfl,?_⟩;show t _ [c0,c1,aa (.loc 0),aa (.loc 1),aa (.int p),aa (rL bs),aa (.int k),aa x.d,o8,o9,LL] (pM (iq.map rL) (ns++D8 GC p pre) (ts++D8 Jm p pre) (cs++D8 Af p pre) rest);refine st g (by omega) ?_ ?_ ?_ ?_
  .rw[aE];have:=a GC _ _ e;omega
  .rw[aE];have:=a Jm _ _ e;omega
  .rw[aE];have:=a Af _ _ e;omega
  .intro o8 z n o q r u;refine i _ _ ⟨by rw[e,bn];rfl,_,_,_,rfl,?_⟩;rw[IU,IU,IU,q,r,u,bn,bn,bn]
 .obtain⟨e,o6,o7,o8,rfl,rfl⟩:=c;rw[aR] at e;rw[<-e];exact h _ _ _
theorem ahh(o:NN iq)(h:∀o4 o5 o6 o7 o8,E.nx [c0,c1,aa (.loc 0),aa (.loc 1),o4,o5,o6,o7,o8,o9,LL] (pM (iq.map rL) (nW GC iq.zipIdx) (nW Jm iq.zipIdx) (nW Af iq.zipIdx) rest)):
  FT (cl k8) E [c0,c1,aa (.loc 0),aa (.loc 1),o4,o5,o6,o7,o8,o9,LL] (pM (iq.map rL) [] [] [] rest):=by
 have st:=@in1;unfold FT;generalize UQ (cl k8)=t at st |-;refine⟨_,rfl,rfl,?_⟩;rw[CH];have b:∀(f:Kd->Bool) (pre xs:List (List Bn×Nat)) (x:List Bn×Nat),iq.zipIdx=pre++x::xs->(nW f pre).length+(D8 f x.2 x.1.zipIdx).length<1000:=λf pre xs x e=>by have:=IT o f;rw[e] at this;unfold nW at this;rw[eG,List.flatMap_cons,aE,aE] at this;show(List.flatMap _ pre).length+_<_;omega
 refine jZ (λx:List Bn×Nat=>D.tup [.int x.2,rL x.1]) (λpre xs c M=>iq.zipIdx=pre++xs/\∃o4 o5 o6 o7 o8,c=[c0,c1,aa (.loc 0),aa (.loc 1),o4,o5,o6,o7,o8,o9,LL]/\M=pM (iq.map rL) (nW GC pre) (nW Jm pre) (nW Af pre) rest) (λ_ _ _ _ a=>by obtain⟨_,_,_,_,_,_,_,rfl⟩:=a;rfl) _ [] _ _ ?_ (λpre x xs c M a N i=>?_) (λpre c M a=>?_)
 .exact⟨rfl,_,_,_,_,_,rfl,rfl⟩
 .obtain⟨e,o4,o5,o6,o7,o8,rfl,rfl⟩:=a;obtain⟨bs,p⟩:=x;have g:iq[p]?=aa bs:=by
   have:(bs,p)∈iq.zipIdx:=by rw[e];simp
   simpa[bW] using this
  have j:=(au.mp g).1;have:=o.hi;have r:=(o.all bs (aV g)).hi;refine⟨rfl,rfl,?_⟩;have m:=b GC _ _ _ e;have n:=b Jm _ _ _ e;have q:=b Af _ _ _ e;show t _ [c0,c1,aa (.loc 0),aa (.loc 1),aa (.int p),aa (rL bs),o6,o7,o8,o9,LL] (pM (iq.map rL) (nW GC pre) (nW Jm pre) (nW Af pre) rest);refine st ?_ ?_ m n q ?_
  .omega
  .omega
  .intro o6 o7 o8;refine i _ _ ⟨by rw[e,bn];rfl,_,_,_,_,_,rfl,?_⟩;rw[IV,IV,IV]
 .obtain⟨e,o4,o5,o6,o7,o8,rfl,rfl⟩:=a;rw[aR] at e;rw[<-e];exact h _ _ _ _ _
end
section
variable {E:nN} {c0 c1 o4 o5 o6 o7 o8 o9 LL:Option D} {rest kR:Ms} {ns ts cs:List ay} {p k:Nat} {bs:List Bn} {iq:List (List Bn)} {b fo:List D}
abbrev qM(b:List D)(ns ts cs:List ay)(fo:List D)(kR:Ms):Ms:=pM b ns ts cs (aa (.lst fo)::kR)
theorem afb{β:Type}(l:List β)(x:β):(l++[x])[l.length]?=aa x:=by rw[b8 (aM _),eW];rfl
theorem ab8{β:Type}(l:List β)(x y:β):(l++[x]).set l.length y=l++[y]:=by rw[List.set_append_right _ _ (aM _),eW];rfl
theorem afc(x y:Option OD):(qM b ns ts cs fo (kR++[x])).set (kR.length+6) y=qM b ns ts cs fo (kR++[y]):=by show aa _::aa _::aa _::aa _::aa _::aa _::(kR++[x]).set kR.length y=_;rw[ab8]
theorem ZP(x:Option OD):(qM b ns ts cs fo (kR++[x]))[kR.length+6]?=aa x:=by show(kR++[x])[kR.length]?=_;exact afb _ _
theorem ahi{x:Bn}{to:List Rw}(ok:x.Ok)(a:cs≠[])(c:p<26)(e:k<676)(lt:to.length<1000)(f:cs.length<=1000)(g:ns.length<=1000)(i:ts.length<=1000)
(h:E.nx [c0,c1,aa (.loc 0),aa (.loc 1),aa (.int p),aa (rL bs),aa (.int k),aa x.d,o8,aa (.loc 5),aa (.loc (kR.length+6))] (qM b ns ts cs fo (kR++[aa (.lst ((to++[.mark (D7 p k) (x.m%2==0),fill cs ns ts x]).map Rw.d))]))):
  NP (cl k8) kK E [c0,c1,aa (.loc 0),aa (.loc 1),aa (.int p),aa (rL bs),aa (.int k),aa x.d,o8,aa (.loc 5),aa (.loc (kR.length+6))] (qM b ns ts cs fo (kR++[aa (.lst (to.map Rw.d))])):=by
 have j:(to.map Rw.d).length<aC:=by rw[ai];exact ai3 lt (by decide)
 have n:(to.map Rw.d++[(Rw.mark (D7 p k) (x.m%2==0)).d]).length<aC:=by rw[aE,ai];exact bM (show _<=1000 from lt) (by decide)
 refine⟨?_,rfl,p,k,c,e,rfl,_,rfl,(by decide:(0:Int)<2),ab rfl,_,ZP _,j,?_⟩
 .show tyD "list" (vwk _ (qM b ns ts cs fo _)[kR.length+6]?)=ag;rw[ZP];rfl
 rw[afc];refine⟨?_,_,_,rfl,rfl,_,_,rfl,rfl,_,_,rfl,rfl,x,cs,ns,ts,_,_,_,rfl,rfl,ok,a,f,g,i,_,ZP _,n,?_⟩
 .show tyD "list" (vwk _ (qM b ns ts cs fo _)[kR.length+6]?)=ag;rw[ZP];rfl
 rw[afc];rw[aX] at h;rw[bn];exact h
theorem Tj(p:Nat)(l:List (Bn×Nat))(x:Bn×Nat):l8 cs ns ts p (l++[x])=l8 cs ns ts p l++[.mark (D7 p x.2) (x.1.m%2==0),fill cs ns ts x.1]:=by unfold l8;rw[eG];simp
theorem in2(ok:∀x∈bs,x.Ok)(g:cs≠[])(i:p<26)(r:bs.length<=100)(j:cs.length<=1000)(m:ns.length<=1000)(n:ts.length<=1000)
(h:∀o6 o7,E.nx [c0,c1,aa (.loc 0),aa (.loc 1),aa (.int p),aa (rL bs),o6,o7,o8,aa (.loc 5),aa (.loc (kR.length+6))] (qM b ns ts cs fo (kR++[aa (.lst ((l8 cs ns ts p bs.zipIdx).map Rw.d))]))):
  UR (cl k8) kK E [c0,c1,aa (.loc 0),aa (.loc 1),aa (.int p),aa (rL bs),o6,o7,o8,aa (.loc 5),aa (.loc (kR.length+6))] (qM b ns ts cs fo (kR++[aa (.lst [])])):=by
 have st:=@ahi;unfold UR;generalize NP (cl k8) kK=t at st |-;refine⟨_,rfl,rfl,?_⟩;rw[CH];refine jZ (λx:Bn×Nat=>D.tup [.int x.2,x.1.d]) (λpre xs a M=>bs.zipIdx=pre++xs/\∃o6 o7,a=[c0,c1,aa (.loc 0),aa (.loc 1),aa (.int p),aa (rL bs),o6,o7,o8,aa (.loc 5),aa (.loc (kR.length+6))]/\M=qM b ns ts cs fo (kR++[aa (.lst ((l8 cs ns ts p pre).map Rw.d))])) (λ_ _ _ _ _=>rfl) _ [] _ _ ⟨rfl,_,_,rfl,rfl⟩ (λpre x xs a M c N o=>?_) (λpre a M c=>?_)
 .obtain⟨e,o6,o7,rfl,rfl⟩:=c;obtain⟨x,k⟩:=x;have f:bs[k]?=aa x:=by
   have:(x,k)∈bs.zipIdx:=by rw[e];simp
   simpa[bW] using this
  have q:=(au.mp f).1;have u:pre.length<=100:=by have:=congrArg fw e;rw[dD,aE] at this;omega
  refine⟨rfl,rfl,?_⟩;show t _ [c0,c1,aa (.loc 0),aa (.loc 1),aa (.int p),aa (rL bs),aa (.int k),aa x.d,o8,aa (.loc 5),aa (.loc (kR.length+6))] (qM b ns ts cs fo (kR++[aa (.lst ((l8 cs ns ts p pre).map Rw.d))]));refine st (ok x (aV f)) g i (by omega) (by rw[(IS cs ns ts p pre).1];omega) j m n ?_;refine o _ _ ⟨by rw[e,bn];rfl,_,_,rfl,?_⟩;rw[Tj]
 .obtain⟨e,o6,o7,rfl,rfl⟩:=c;rw[aR] at e;rw[<-e];exact h _ _
theorem ZQ(l:List (List Bn×Nat))(x:List Bn×Nat):FS cs ns ts (l++[x])=FS cs ns ts l++[(NM x.2,l8 cs ns ts x.2 x.1.zipIdx)]:=by unfold FS;rw[aX];rfl
theorem afd:∀i,i<12->("abcdefghijkl":ay).cps.toList[i]?=aa (97+i):=by decide+kernel
theorem aiH{to:List Rw}{a:List Pt}(c:p<12)(e:a.length<1000)
(h:E.nx [c0,c1,aa (.loc 0),aa (.loc 1),aa (.int p),o5,o6,o7,o8,aa (.loc 5),aa (.loc (kR.length+6))] (qM b ns ts cs ((a++[(NM p,to)]).map sv) (kR++[ao]))):
  Ti E [c0,c1,aa (.loc 0),aa (.loc 1),aa (.int p),o5,o6,o7,o8,aa (.loc 5),aa (.loc (kR.length+6))] (qM b ns ts cs (a.map sv) (kR++[aa (.lst (to.map Rw.d))])):=by
 have f:(a.map sv).length<aC:=by rw[ai];exact ai3 e (by decide)
 refine⟨rfl,by decide+kernel,_,lx (afd p c),(by decide:1+4<=aC),_,_,rfl,ZP _,?_⟩;rw[afc];refine⟨ab rfl,_,rfl,f,?_⟩;rw[aX] at h;exact h
theorem ahj(o:NN iq)(j:cs≠[])(m:cs.length<=1000)(n:ns.length<=1000)(q:ts.length<=1000)(h:∀o4 o5 o6 o7 o8 LL kR,E.nx [c0,c1,aa (.loc 0),aa (.loc 1),o4,o5,o6,o7,o8,aa (.loc 5),LL] (qM (iq.map rL) ns ts cs ((FS cs ns ts iq.zipIdx).map sv) kR)):
  FU (cl k8) kK E [c0,c1,aa (.loc 0),aa (.loc 1),o4,o5,o6,o7,o8,aa (.loc 5),LL] (qM (iq.map rL) ns ts cs [] []):=by
 have st:=@in2;have a:=@aiH;unfold FU;generalize UR (cl k8) kK=t at st |-;generalize Ti=r at a |-;refine⟨_,rfl,rfl,?_⟩;rw[CH];refine jZ (λx:List Bn×Nat=>D.tup [.int x.2,rL x.1]) (λpre xs f M=>iq.zipIdx=pre++xs/\∃o4 o5 o6 o7 o8 LL kR,f=[c0,c1,aa (.loc 0),aa (.loc 1),o4,o5,o6,o7,o8,aa (.loc 5),LL]/\M=qM (iq.map rL) ns ts cs ((FS cs ns ts pre).map sv) kR) (λ_ _ _ _ c=>by obtain⟨_,_,_,_,_,_,_,_,_,rfl⟩:=c;rfl) _ [] _ _ ⟨rfl,_,_,_,_,_,_,_,rfl,rfl⟩ (λpre x xs f M c N u=>?_) (λpre f M c=>?_)
 .obtain⟨e,o4,o5,o6,o7,o8,LL,kR,rfl,rfl⟩:=c;obtain⟨bs,p⟩:=x;have g:iq[p]?=aa bs:=by
   have:(bs,p)∈iq.zipIdx:=by rw[e];simp
   simpa[bW] using this
  have v:=(au.mp g).1;have:=o.hi;have i:=o.all bs (aV g);have w:=i.hi;have y:pre.length<=4:=by have:=congrArg fw e;rw[dD,aE] at this;omega
  refine⟨rfl,rfl,bi _,?_⟩;show t _ [c0,c1,aa (.loc 0),aa (.loc 1),aa (.int p),aa (rL bs),o6,o7,o8,aa (.loc 5),aa (.loc (kR.length+6))] (qM (iq.map rL) ns ts cs ((FS cs ns ts pre).map sv) (kR++[aa (.lst [])]));refine st i.ok j (by omega) (by omega) m n q λo6 o7=>?_;show r _ _ _;refine a (by omega) (by unfold FS;rw[ai];omega) ?_;refine u _ _ ⟨by rw[e,bn];rfl,_,_,_,_,_,_,kR++[ao],rfl,?_⟩;rw[ZQ]
 .obtain⟨e,o4,o5,o6,o7,o8,LL,kR,rfl,rfl⟩:=c;rw[aR] at e;rw[<-e];exact h _ _ _ _ _ _ _
theorem ab9(o:NN iq)(h:∀M:Ms,fz M (.tup [.loc 5,.loc 4])=.tup [.lst ((prog iq).map sv),.lst ((nW Af iq.zipIdx).map .str)]->E.rt (.tup [.loc 5,.loc 4]) M):
  NQ (cl k8) kK E [c0,c1,aa (.loc 0),ao,ao,ao,ao,ao,ao,ao,ao] [aa (.lst (iq.map rL))]:=by have s1:=@ahh;have s2:=@ahj;unfold NQ;generalize FT (cl k8)=t at s1 |-;generalize FU (cl k8) kK=a at s2 |-;refine⟨bi _,bi _,bi _,rfl,_,rfl,by decide+kernel,?_⟩;show t _ [c0,c1,aa (.loc 0),aa (.loc 1),ao,ao,ao,ao,ao,ao,ao] (pM (iq.map rL) [] [] [] []);refine s1 o λo4 o5 o6 o7 o8=>⟨bi _,?_⟩;show a _ [c0,c1,aa (.loc 0),aa (.loc 1),o4,o5,o6,o7,o8,aa (.loc 5),ao] (qM (iq.map rL) _ _ _ [] []);refine s2 o o.code (by have:=IT o Af;omega) (by have:=IT o GC;omega) (by have:=IT o Jm;omega) λo4 o5 o6 o7 o8 LL kR=>?_;exact⟨_,_,rfl,rfl,ab rfl,h _ rfl⟩
end
mutual
theorem CI:∀d:D,L3.pl d=ag->Bt d d=ag
 |.non,_=>rfl
 |.bl b,_=>by cases b<;>rfl
 |.int i,_=>by unfold Bt;simp
 |.str s,_=>by unfold Bt;simp
 |.tup ds,h=>by unfold Bt;unfold L3.pl at h;exact D9 ds h
 |.lst ds,h=>by unfold Bt;unfold L3.pl at h;exact D9 ds h
 |.ty _,h=>by unfold L3.pl at h;cases h
 |.uI ns,h=>by unfold L3.pl at h;cases h
 |.cls _,h=>by unfold L3.pl at h;cases h
 |.loc _,h=>by unfold L3.pl at h;cases h
 |.kt _ _,h=>by unfold L3.pl at h;cases h
 |.ins _ _ _,h=>by unfold L3.pl at h;cases h
 |.exc _ _ _,h=>by unfold L3.pl at h;cases h
theorem D9:∀ds:List D,L3.K7 ds=ag->Jw ds ds=ag
 |[],_=>rfl
 |d::ds,h=>by unfold Jw;unfold K7 at h;rw[aQ] at h;rw[CI d h.1,D9 ds h.2];rfl
end
theorem IW{st:Ms->Prop}{Q:List D->Ms->Prop}{M:Ms}(f:st M):∀(cs:List Int) (acc:List (List Bn)),(∀bs∈acc,ZI bs)->acc.length+cs.length<=4->(∀a:List (List Bn),a.length=acc.length+cs.length->(∀bs∈a,ZI bs)->Q (a.map rL) M)->
  lQ [ao,aa 1] (gQ 0) r6 (iG (cl AN) (gD (gE 0) (gD (gE 1) gK))) st Q (cs.map .int) (acc.map rL) [ao,aa (.int 11)] M
 |[],acc,ha,g,q=>q acc rfl ha
 |c::cs,acc,ha,g,q=>by
  rw[aZ];unfold lQ;refine⟨rfl,c,rfl,λbs i=>⟨f,?_,?_⟩⟩
  .rw[ai];exact bM (show acc.length<=4 by omega) (by decide)
  .have:=IW f cs (acc++[bs]) (λb h=>by
    rcases bg.mp h with h|h
    .exact ha b h
    .rw[bS.mp h];exact i) (by rw[aE,bO];rw[aU] at g;omega) (λa e o=>q a (by rw[e,aE,bO,aU];omega) o)
   rw[aX] at this;exact this
theorem ZR{b:List (List Bn)}{bs:List Bn}{x:Bn}{f:Kd->Bool}(h:bs∈b)(c:x∈bs)(e:f x.k=ag):nW f b.zipIdx≠[]:=by obtain⟨p,g⟩:=dP.mp h;obtain⟨k,i⟩:=dP.mp c;refine List.ne_nil_of_mem (a:=D7 p k) ?_;unfold nW D8;exact gv.mpr ⟨(bs,p),aV (IQ g),bN.mpr ⟨(x,k),eK.mpr ⟨aV (IQ i),e⟩,rfl⟩⟩
theorem sk2{bs:List Bn}(h:ZI bs):UM bs:=⟨h.lo,by have:=h.hi;omega,h.ok,h.ch,h.en⟩
theorem Qr{x:Bn}{l:List Bn}(h:W1 l)(g:∀y,l[0]?=aa y->x.k.ug=ag->y.k.data=ar):W1 (x::l):=λi a b ha c=>by
 cases i with
 |zero=>cases ha;exact g b c
 |succ i=>exact h i a b ha c
theorem aca{bs:List Bn}(h:ZI bs):UM (⟨.say,0,0,0⟩::⟨.stop,0,0,0⟩::bs):=by
 refine⟨by simp,by have:=h.hi;simp;omega,λx a=>?_,?_,λz b=>?_⟩
 .rcases aO.mp a with rfl|a
  .exact bn0 _
  .rcases aO.mp a with rfl|a
   .exact bn0 _
   .exact h.ok x a
 .exact Qr (Qr h.ch λy _ e=>by cases e) λy e _=>by cases e;rfl
 .have ne:bs≠[]:=by have:=h.lo;intro e;rw[e] at this;simp at this
  obtain⟨y,l,rfl⟩:=d6 ne;rw[gy,gy] at b;exact h.en z b
def bpl (bs:List Bn):L3.pl (rL bs)=ag:=zx bs λx _=>ac1 x
theorem bdp(bs:List Bn):dp (rL bs)<=2:=by have:=zy (f:=Bn.d) (n:=1) bs λx _=>ac2 x;show FA (bs.map Bn.d)+1<=2;omega
theorem ZS(a:List (List Bn)):L3.pl (.lst (a.map rL))=ag/\dp (.lst (a.map rL))<=60:=by have:=zy (f:=rL) (n:=2) a λx _=>bdp x;refine⟨zx a λx _=>bpl x,?_⟩;show FA (a.map rL)+1<=60;omega
def zA:GP:=λds Q=>∃cs:List Int,ds=[.lst (cs.map .int),.int 11]/\1<=cs.length/\cs.length<=4/\∀a,NN a->Q (.tup [.lst ((prog a).map sv),.lst ((nW Af a.zipIdx).map .str)])
theorem IX:iH zA:=by
 rintro ds P Q w ⟨c,h,a,b,q⟩
 exact⟨c,h,a,b,λbs g=>w _ (q bs g)⟩
theorem acb(a:List (List Bn)):nl (.tup [.lst ((prog a).map sv),.lst ((nW Af a.zipIdx).map .str)])=ag:=by show(l9 ((prog a).map sv)&&(l9 ((nW Af a.zipIdx).map D.str)&&ag))=ag;rw[Dr,jS (λ_=>rfl)];rfl
theorem Tk:∀ds Q,zA ds Q->jB 11 2 (ur (cl AN) (cl vn) (cl k8) kK) ds Q:=by
 rintro ds Q ⟨cs,h,C,E,q⟩
 subst h;have rs:=@ab9;have n:ur (cl AN) (cl vn) (cl k8) kK=gW (iE 2 (lN (jY [ao,aa 1] (jM (gE 0)) (gQ 0) r6 (iG (cl AN) (gD (gE 0) (gD (gE 1) gK))))))
  (gW (ii (gS (gX mR (jz (jY [ao] (jM (gE 2)) (gQ 0) (gS (iG (cl vn) (gD (gE 0) gK))) (gE 0))) (gE 2))) (pC (gX i8 (jz (ku (gD (iT (gD (dC (.str "say")) (gD (dC (.int 0)) (gD (dC (.int 0)) (gD (dC (.int 0)) gK))))) (gD (iT (gD (dC (.str "stop")) (gD (dC (.int 0)) (gD (dC (.int 0)) (gD (dC (.int 0)) gK))))) gK)))) (gX ij (gE 2) (dC (.int 0)))) (uP (gE 2) (dC (.int 0)))) hX) (NQ (cl k8) kK)):=rfl
 rw[n];clear n;generalize NQ (cl k8) kK=t at rs |-;refine⟨rfl,_,rfl,rfl,?_⟩;refine IW (M:=[]) ?_ cs [] (λb h=>by cases h) (by rw[bj];omega) λa f g=>?_
 .exact rfl
 rw[bj,bt] at f;refine⟨_,rfl,rfl,?_⟩;refine rR rL rL (λbs=>(bs.filter λx=>!x.k.data).isEmpty) ?_ a [] ?_ (λbs c G u=>?_) ?_
 .exact rfl
 .rw[bj];exact sx (by omega)
 .have z:=u _ (show CZ [ao] [aa (rL bs)]=_ from rfl);have:=(g bs c).hi;have v:l9 [rL bs]=ag:=by show(nl (rL bs)&&ag)=ag;rw[afa];rfl
  refine⟨v,bs,rfl,by omega,?_⟩;cases e:(bs.filter λx=>!x.k.data).isEmpty with
  |true=>rw[e] at z;exact z
  |false=>rw[e] at z;exact z
 .rw[bQ];have b1:=ZS (a.filter λbs=>(bs.filter λx=>!x.k.data).isEmpty);have b2:=ZS a;refine⟨⟨b1.1,b2.1,b1.2,b2.2⟩,?_⟩;show(if Bt (.lst ((a.filter λbs=>(bs.filter λx=>!x.k.data).isEmpty).map rL)) (.lst (a.map rL))=ag then _ else _);have p:∀a:List (List Bn),NN a->t ⟨λ_ _=>Q .non,λd r=>nl (fz r d)=ag/\Q (fz r d),λ_ _=>False,λ_ _=>False⟩ [aa (.lst (cs.map .int)),aa (.int 11),aa (.loc 0),ao,ao,ao,ao,ao,ao,ao,ao] [aa (.lst (a.map rL))]:=λa o=>rs o λM e=>by show nl (fz M _)=ag/\Q (fz M _);rw[e];exact⟨acb a,q a o⟩
  split
  .obtain⟨i,rest,rfl⟩:=d6 (show a≠[] by intro e;rw[e] at f;simp at f;omega);have o0:=g i av;have w:2+(i.map Bn.d).length<=aC:=by rw[ai];have:=o0.hi;exact sx (by omega)
   refine⟨ab rfl,ab rfl,ab rfl,rL i,lx (k:=0) rfl,w,0,?_,?_⟩
   .unfold QU;simp
   refine p ((⟨.say,0,0,0⟩::⟨.stop,0,0,0⟩::i)::rest) ⟨by simp,by rw[aU] at f |-;omega,λbs c=>?_,ZR av av rfl⟩;rcases aO.mp c with rfl|c
   .exact aca o0
   .exact sk2 (g bs (aH _ c))
  .rename_i y;refine p a ⟨by omega,by omega,λbs c=>sk2 (g bs c),?_⟩;have:¬∀bs∈a,(bs.filter λx=>!x.k.data).isEmpty=ag:=λA=>y (by rw[List.filter_eq_self.mpr A];exact CI _ b2.1)
   have:∃bs∈a,(bs.filter λx=>!x.k.data).isEmpty≠ag:=Classical.byContradiction λhn=>this λbs c=>Classical.byContradiction λh=>hn ⟨bs,c,h⟩;obtain⟨bs,c,h⟩:=this;obtain⟨x,B⟩:=List.exists_mem_of_ne_nil (bs.filter λx=>!x.k.data) (by intro e;rw[e] at h;exact h rfl);obtain⟨j,m⟩:=eK.mp B;exact ZR c j m
theorem Qs{k:RC}:∀(n:Nat) (p:Pl) (s:RS) (x:List Int×ay),runN k n p s=aa x->MQ k s->s.yb.length+n<=1000000->cn x.2=ag/\x.1.length<=s.yb.length+n
 |0,p,s,x,h,_,_=>by cases h;exact⟨show cn "steps"=ag by decide+kernel,aM _⟩
 |n+1,p,s,x,h,g,m=>by
  unfold FJ.runN at h;cases er:pA k.b p with
  |none=>rw[er] at h;cases h
  |some r=>
   rw[er] at h;dsimp only at h;by_cases f:r.code=ag
   .rw[if_pos f] at h;have c:=mh.row g r (p.1,p.2+1);have a:=@Ql k r (p.1,p.2+1) s;generalize nH k r (p.1,p.2+1) s=o at h c a;obtain⟨t,i,e⟩:=o;dsimp only at h c a;have:=c.an;cases e with
    |none=>
     obtain⟨j,q⟩:=Qs n i t x h (c.ok (by omega)) (by omega);exact⟨j,by omega⟩
    |some e=>
     cases h;exact⟨ae6 e (a rfl),by dsimp only;omega⟩
   .rw[if_neg f] at h;cases h
def rN (CR CN:ak)(c:CA):GN:=λds M Q=>∃(k:RC) (p:Pl) (n:Nat) (x:List Int×ay),k.CR=CR/\k.CN=CN/\k.c=c/\ds=[k.sd,j7 p,k.id,.int n]/\n<=1000000/\(∀p r,pA k.b p=aa r->r.code=ag->HE k r)/\runN k n p rs0=aa x/\Q (.tup [.loc M.length,.str x.2]) (M++[aa (.lst (x.1.map .int))])
theorem CJ{CR CN:ak}{c:CA}:jW (rN CR CN c):=by
 rintro ds M P Q w ⟨k,p,n,x,a1,a2,a3,a,b,e,f,q⟩
 exact⟨k,p,n,x,a1,a2,a3,a,b,e,f,w _ _ q⟩
theorem Kz{K:bz}{CR CN:ak}{c:CA}(f:Fg K CR):∀ds M Q,rN CR CN c ds M Q->Wm 8 4 (Au K CR (Pk CR CN c BZ) (mH CN c) (oz CR CN c)) ds M Q:=by
 rintro ds M Q ⟨k,p,n,x,a1,a2,a3,a,b,g,h,q⟩
 subst a1 a2 a3 a;refine⟨?_,rfl,Pn f b g h λs e i=>⟨3,s.yb.map .int,.str x.2,rfl,rfl,kZ,rfl,?_⟩⟩
 .show(nl (nrD _ _ _ _)&&(ag&&(l9 (k.ins.map D.int)&&(ag&&ag))))=ag;rw[MN,kZ];rfl
 .rw[<-i];exact q
def kQ (CR CN:ak)(c:CA):GN:=λds M Q=>∃(a:List Pt) (w:ay) (p:Pl) (ins:List Int) (n:Nat) (x:List Int×ay),ds=[.lst (a.map sv),.str w,.lst (ins.map .int),.int n]/\x9 a/\MV a w p/\n<=1000000/\runN (W0 CR CN c a ins) n p rs0=aa x/\Q (.tup [.loc M.length,.str x.2]) (M++[aa (.lst (x.1.map .int))])
theorem AO{CR CN:ak}{c:CA}:jW (kQ CR CN c):=by
 rintro ds M P Q w ⟨a,s,p,ins,n,x,b,e,f,g,h,q⟩
 exact⟨a,s,p,ins,n,x,b,e,f,g,h,w _ _ q⟩
theorem US(a:List Pt)(w:ay)(ins:List Int)(n:Nat):l9 [.lst (a.map sv),.str w,.lst (ins.map .int),.int n]=ag:=by show(l9 (a.map sv)&&(ag&&(l9 (ins.map D.int)&&(ag&&ag))))=ag;rw[Dr,kZ];rfl
theorem IY{CR CN:ak}{c:CA}:∀ds M Q,kQ CR CN c ds M Q->Wm 7 4 (EO (cl (BV c)) (cl (FL c)) (rN CR CN c) CN (FM CN c)) ds M Q:=by
 rintro ds M Q ⟨a,w,p,ins,n,x,e,ok,⟨hw,f,r,g,b⟩,hn,i,q⟩
 subst e;refine⟨US _ _ _ _,rfl,BO a,a,rfl,ok,rfl,rfl,?_⟩;refine⟨?_,ik a,nX a,w,p,r,rfl,hw,f,g,b,?_⟩
 .show(nl (px c (ik a))&&(nl (rj (nX a))&&(ag&&ag)))=ag;rw[mf,rm];rfl
 refine⟨[],ik a,nX a,rfl,rfl,rfl,_,_,rfl,Wj (mf _ _) (rm _),?_⟩;refine⟨W0 CR CN c a ins,p,n,x,rfl,rfl,rfl,rfl,hn,λp r h b=>MU ok h b,i,?_⟩;exact⟨_,_,_,rfl,rfl,kZ,rfl,q⟩
theorem CK:∀l:List Int,K7 (l.map D.int)=ag
 |[]=>rfl
 |i::l=>by show(ag&&K7 (l.map D.int))=ag;rw[CK l];rfl
theorem CL:∀l:List Int,FA (l.map D.int)=0
 |[]=>rfl
 |i::l=>by show max 0 (FA (l.map D.int))=0;rw[CL l];rfl
theorem acd{x:List Int×ay}{M:Ms}{Q:DK}(h:cn x.2=ag)(q:Q (.bl ar) M):Fa (v6 x) (v6 x) M Q:=by
 have p:L3.pl (v6 x)=ag:=by show(K7 (x.1.map D.int)&&(cn x.2&&ag))=ag;rw[CK,h];rfl
 have d:dp (v6 x)<=60:=by show max (FA (x.1.map D.int)+1) (max 0 0)+1<=60;rw[CL];decide
 refine⟨⟨p,p,d,d⟩,?_⟩;show Q (.bl (!Bt (v6 x) (v6 x))) M;rw[CI _ p];exact q
def rO:GP:=λds Q=>∃x:List Int×ay,ds=[v6 x,v6 x]/\cn x.2=ag/\x.1.length<=1000/\Q (.bl ag)
theorem NR:iH rO:=by
 rintro ds P Q w ⟨r,a,b,c,q⟩
 exact⟨r,a,b,c,w _ q⟩
theorem ZT{K:bz}:∀ds Q,rO ds Q->jB 2 2 (yw K) ds Q:=by
 rintro ds Q ⟨x,h,c,e,q⟩
 subst h;have a:=@acd;have b:∀{M:Ms} {Q:DK},Q (.bl ar) M->Fa (.int 2) (.int 2) M Q:=λq=>q;unfold yw;generalize Fa=gn at a b |-;refine⟨rfl,?_⟩;refine⟨_,rfl,?_⟩;refine⟨_,rfl,?_⟩;refine b ?_;refine⟨_,rfl,?_⟩;refine⟨_,rfl,?_⟩;refine a c ?_;refine⟨_,rfl,_,rfl,rfl,?_⟩;refine nS (λi:Int=>D.int i) (λi:Int=>D.bl ag) ?_ _ _ ?_ (λz j m f=>?_) ?_
 .exact rfl
 .rw[bj,bt];exact sx e
 .have g:=f _ (show CZ [ao] [aa (.int z)]=_ from rfl);exact⟨_,rfl,_,rfl,g⟩
 .rw[bQ];refine⟨x.1.map λ_=>ag,?_,rfl,?_⟩
  .show D.lst _=D.lst _;rw[bq];rfl
  .rw[show(x.1.map λ_=>ag).all id=ag by simp];exact q
theorem IZ{β i:Type}{fr:List (Option Nat)}{g:DG}{tt:DT}{j:DE}{st:Ms->Prop}{Q:List D->Ms->Prop}{a:pd}{M:Ms}(e:i->D)(f:β->D)(m:st M):∀(xs:List i) (acc:List β),acc.length+xs.length<=1000->
  (∀x∈xs,∀n:Option D->pd->Ms->Prop,(∀b c,CZ fr c=a->n (aa (f b)) c M)->Ey g tt j (e x) a M n)->
  (∀bs:List β,bs.length=acc.length+xs.length->Q (bs.map f) M)->lQ fr g tt j st Q (xs.map e) (acc.map f) a M
 |[],acc,o,_,q=>q acc rfl
 |x::xs,acc,o,h,q=>by rw[aZ];unfold lQ;rw[aU] at o;refine h x av _ λb c p=>⟨m,by rw[ai];exact bM (show acc.length<=1000 by omega) (by decide),?_⟩;rw[p];have:=IZ e f m xs (acc++[b]) (by rw[aE,bO];omega) (λy r=>h y (aH _ r)) (λbs u=>q bs (by rw[u,aE,bO,aU];omega));rw[aX] at this;exact this
theorem ZU{ns:List Int}{x y:Int}(h:below ns [x,y]):∃a b,ns=[a,b]/\(0<=a/\a<x)/\(0<=b/\b<y):=by
 obtain⟨e,c⟩:=h;match ns,e,c with
 |[a,b],_,c=>exact⟨a,b,rfl,c 0 a x rfl rfl,c 1 b y rfl rfl⟩
theorem UT(n:Nat):zF 0 n=(cB n).map λ(i:Nat)=>D.int i:=by unfold zF;exact dm λi _=>by rw[Int.zero_add]
theorem ZV(ns:List ay):FA (ns.map D.str)=0:=by induction ns with|nil=>rfl|cons n ns a=>rw[aZ];unfold FA;rw[a];rfl
theorem ZW{w:ay}(h:xt w=ag):cn w=ag:=tL h
theorem ZX{ws:List ay}(h:ws.all xt=ag):L3.K7 (ws.map D.str)=ag:=by
 induction ws with
 |nil=>rfl
 |cons w ws a=>
  rw[fu,aQ] at h;rw[aZ];unfold L3.K7 L3.pl;rw[a h.2,Bool.and_true];exact tL h.1
theorem aiI{r:Rw}(h:r.ok=ag):L3.pl r.d=ag:=by cases r<;>unfold Rw.ok at h<;>simp only [aQ,decide_eq_true_eq] at h<;>simp only [Rw.d,L3.pl,L3.K7,aQ]<;>(repeat' apply And.intro);all_goals first|rfl|trivial|exact ZW rfl|exact tL h|exact tL h.1|exact tL h.2|exact tL h.1.2|exact CK _|exact ZX h.2
theorem aiJ(r:Rw):dp r.d<=2:=by
 cases r;case numbers ns=>show max 0 (max (FA (ns.map D.int)+1) 0)+1<=2;rw[CL];decide
 case table ns=>show max 0 (max (FA (ns.map D.str)+1) 0)+1<=2;rw[ZV];decide
 all_goals exact ab rfl
theorem ZY{a:List Pt}(ok:x9 a):L3.pl (.lst (a.map sv))=ag/\dp (.lst (a.map sv))<=60:=by
 refine⟨zx a λp b=>?_,?_⟩
 .show(cn p.1&&(K7 (p.2.map Rw.d)&&ag))=ag;rw[tL (ok.lk.YO.all p b).w,zx p.2 λr c=>aiI (ok.lk.rows p b r c)];rfl
 .have:=zy (f:=sv) (n:=4) a λp _=>by have:=zy (f:=Rw.d) (n:=2) p.2 λr _=>aiJ r;show max 0 (max (FA (p.2.map Rw.d)+1) 0)+1<=4;omega
  show FA (a.map sv)+1<=60;omega
theorem ace{ds:List D}{M:Ms}{Q:DK}(a:L3.pl (.lst ds)=ag)(hd:dp (.lst ds)<=60)(q:Q (.bl ar) M):Fa (.lst ds) (.lst ds) M Q:=by refine⟨⟨a,a,hd,hd⟩,?_⟩;show Q (.bl (!Bt (.lst ds) (.lst ds))) M;rw[CI _ a];exact q
theorem afe{a b:Int}(ha:0<=a/\a<3)(c:0<=b/\b<501):∃n:Nat,n<=500/\vE [D.int b,.int (b%30),.int 500] a=aa (.int n):=by
 have:a=0\/a=1\/a=2:=by omega
 rcases this with rfl|rfl|rfl
 .exact⟨b.toNat,by omega,by rw[show((b.toNat:Nat):Int)=b by omega];rfl⟩
 .exact⟨(b%30).toNat,by omega,by rw[show(((b%30).toNat:Nat):Int)=b%30 by omega];rfl⟩
 .exact⟨500,by omega,rfl⟩
theorem aff{a:Int}(x y:Int)(ha:0<=a/\a<3):∃n:Int,vE [D.int x,.int y,.int 0] a=aa (.int n):=by
 have:a=0\/a=1\/a=2:=by omega
 rcases this with rfl|rfl|rfl
 .exact⟨x,rfl⟩
 .exact⟨y,rfl⟩
 .exact⟨0,rfl⟩
theorem two{ns:List Int}(h:below ns ([13]++(bP 12 [3,200000000000000000000]).flatten)):∀k:Nat,k<12->∃a b,vE (ns.map D.int) (1+2*(k:Int))=aa (.int a)/\vE (ns.map D.int) (2+2*(k:Int))=aa (.int b)/\(0<=a/\a<3):=by
 obtain⟨c,e⟩:=h;have f:ns.length=25:=by rw[c];rfl
 intro k j;have g:∀i,i<25->∃a,ns[i]?=aa a:=λi hi=>⟨_,aJ (by omega)⟩;obtain⟨a,ha⟩:=g (1+2*k) (by omega);obtain⟨b,m⟩:=g (2+2*k) (by omega);have s:∀k,k<12->([13]++(bP 12 [3,200000000000000000000]).flatten:List Int)[1+2*k]?=aa 3:=by decide+kernel
 refine⟨a,b,?_,?_,e _ _ _ ha (s k j)⟩
 .rw[show(1+2*(k:Int))=((1+2*k:Nat):Int) by push_cast;rfl];exact lx (by rw[aS,ha];rfl)
 .rw[show(2+2*(k:Int))=((2+2*k:Nat):Int) by push_cast;rfl];exact lx (by rw[aS,m];rfl)
abbrev szI:List Int:=[13]++(bP 12 [3,200000000000000000000]).flatten
def UU:GP:=λds Q=>∃ns:List Int,ds=[.uI ns]/\Q (.bl ag)
theorem Tl:iH UU:=by
 rintro ds P Q w ⟨r,a,q⟩
 exact⟨r,a,w _ q⟩
def NS (c a b:GN):DS:=(gW (iE 10 (iG c (gD (gE 2) (gD (gE 4) (gD (gE 7) (gD (gE 9) gK))))))
 (gW (iE 11 (jz (jY [ao,ao] (jM (gE 2)) (js 2 (hC (gQ 0) (hC (gQ 1) jr))) r6 (iT (gD (gE 0) (gD (jz (WU vM (gD (gE 1) gK))) gK))))))
 (gW (iE 12 (jz (WU vM (gD (gE 7) gK))))
 (gW (iE 13 (iG a (gD (gE 2) (gD (gE 4) (gD (gE 12) (gD (gE 9) gK))))))
 (gW (ii (Gq (ph (gS (iG b (gD (gE 13) (gD (gE 10) gK))))) (Gq (gS (gX Fa (gE 12) (gE 7))) (gS (gX Fa (gE 2) (gE 11))))) (hW (dC (.bl ar))) hX)
 (gW (j8 (Aq "list" iN (gX ij (gE 13) (dC (.int 0))) (gD (dC (.int 7)) gK)))
 (hW (iG b (gD (iG a (gD (gE 2) (gD (gE 4) (gD (gE 12) (gD (gE 9) gK))))) (gD (gE 10) gK))))))))))
theorem acf(x:List Int×ay)(k:Nat)(M:Ms)(h:M[k]?=aa (aa (.lst (x.1.map .int)))):wT M [.tup [.loc k,.str x.2],v6 x]=[v6 x,v6 x]:=by
 have n:nl (v6 x)=ag:=by show(l9 (x.1.map D.int)&&(ag&&ag))=ag;rw[kZ];rfl
 show[D.tup [vwk k M[k]?,.str x.2],dv M (v6 x)]=_;rw[h,Ya _ _ n];rfl
theorem acg(x:List Int×ay):l9 [v6 x,v6 x]=ag:=by
 have:nl (v6 x)=ag:=by show(l9 (x.1.map D.int)&&(ag&&ag))=ag;rw[kZ];rfl
 show(nl (v6 x)&&(nl (v6 x)&&ag))=ag;rw[this];rfl
theorem ach{x:List Int×ay}{k:Nat}{M:Ms}{Q:DK}(h:M[k]?=aa (aa (.lst (x.1.map .int))))(a:cn x.2=ag)(b:x.1.length<=1000)(q:Q (.bl ag) M):WV rO [.tup [.loc k,.str x.2],v6 x] M Q:=by unfold WV;rw[acf x k M h];exact⟨acg x,x,rfl,a,b,rfl,q⟩
theorem aci{CR CN:ak}{c:CA}{E:nN}{a:List Pt}{w:ay}{p:Pl}{ins:List Int}{n:Nat}{o0 o u v y A:Option D}(ok:x9 a)(b:MV a w p)(g:((wW a).map bh).Nodup)(hn:n<=500)(hi:ins.length<=100)(q:∀M,E.rt (.bl ag) M):
  NS (cl AM) (kQ CR CN c) (WV rO) E [o0,o,aa (.lst (a.map sv)),u,aa (.str w),v,y,aa (.lst (ins.map .int)),A,aa (.int n),ao,ao,ao,ao] []:=by
 have ne:=@ace;have i:=@ach;unfold NS;generalize Fa=gn at ne |-;generalize WV rO=L at i |-;obtain⟨x,e⟩:=Lv (CR:=CR) (CN:=CN) (c:=c) (ins:=ins) ok n p rs0 b.2.2 (λq f=>by cases f);obtain⟨j,m⟩:=Qs n p rs0 x e ⟨rfl,bi _,bi _,bi _⟩ (show 0+n<=1000000 by omega);have m:x.1.length<=0+n:=m;have al:=alk (CR:=CR) (CN:=CN) (c:=c) (ins:=ins) ok.lk.YO.nd g;have B:(wW a).length<=1000:=by have pm:(ja a).Perm (wW a):=(nG a).flatMap_right _;rw[<-pm.length_eq];exact ok.ml
 have C:∀q r,pA (lB a) q=aa r->r.code=ag->HE ⟨CR,CN,c,lB a,lP (wW a),ins⟩ r:=λq r h G=>al.ok (MU ok (p:=q) ((congrFun al.at q).symm.trans h) G);have N:=ok.lk.YO.hi;have H:FJ.runN ⟨CR,CN,c,lB a,lP (wW a),ins⟩ n p rs0=aa x:=by rw[al.run];exact e
 have lk:iJ w (lP (wW a))=aa p:=(al.pl w).trans b.2.1;clear al;refine⟨US _ _ _ _,⟨CR,CN,c,lB a,lP (wW a),ins⟩,a,w,p,n,x,rfl,rfl,rfl,by omega,λq f=>(ok.lk.YO.all q f).len,B,by omega,by show ins.length<=1000;omega,lk,C,H,?_⟩;refine⟨_,rfl,rfl,?_⟩;refine nS sv sv ?_ _ _ ?_ (λq f O I=>?_) ?_
 .exact rfl
 .rw[bj,bt];exact sx (by omega)
 .have z:=I _ (show CZ [ao,ao] [aa (.str q.1),aa (.lst (q.2.map Rw.d))]=_ from rfl);exact⟨rfl,rfl,ab rfl,z⟩
 rw[bQ];have pp:=ZY ok;have J:(x.1.map D.int).length<aC:=by rw[ai];exact bM (show _<=1000 by omega) (by decide)
 refine⟨a,w,p,ins,n,x,rfl,ok,b,by omega,e,?_⟩;refine i rfl j (by omega) ?_;refine ne ?_ ?_ ?_
 .exact CK ins
 .show FA (ins.map D.int)+1<=60;rw[CL];decide
 refine ne pp.1 pp.2 ?_;refine⟨_,rfl,rfl,_,rfl,J,?_⟩;refine⟨a,w,p,ins,n,x,rfl,ok,b,by omega,e,?_⟩;refine i rfl j (by omega) ?_;exact q _
theorem afg{CR CN:ak}{c:CA}:∀ds Q,UU ds Q->jB 14 1 (acX (cl CD) (cl NG) (cl zA) (cl AM) (kQ CR CN c) (WV rO)) ds Q:=by
 rintro ds Q ⟨sc,I,q⟩
 subst I;have st:=@aci CR CN c;show jB 14 1 (gW _ (gW _ (gW _ (gW _ (gW _ (gW _ (gW _ (gW _ (NS (cl AM) (kQ CR CN c) (WV rO)))))))))) _ _;generalize NS (cl AM) (kQ CR CN c) (WV rO)=t at st |-;refine⟨rfl,?_⟩;refine⟨rfl,sc,0,rfl,λo=>?_⟩;refine⟨ab rfl,rfl,o,[4,4],rfl,by decide,by decide,λJ r=>?_⟩;obtain⟨a,b,rfl,ha,hb⟩:=ZU r;refine⟨_,rfl,?_⟩;refine⟨⟨?_,?_⟩,trivial,?_⟩
 .show(-2^62:Int)<=1+a;omega
 .show(1+a:Int)<2^62;omega
 rw[UT];refine IZ (λi:Nat=>D.int i) (λi:Int=>D.int i) ?_ _ [] ?_ (λk u L x=>?_) (λcs y=>?_)
 .exact trivial
 .rw[bj,cQ];show 0+(1+a).toNat<=1000;omega
 .refine⟨rfl,sc,4+k,rfl,λi=>?_⟩;exact x i _ rfl
 rw[bj,bt,cQ] at y;have N:l9 [.lst (cs.map D.int),.int 11]=ag:=by show(l9 (cs.map D.int)&&(ag&&ag))=ag;rw[kZ];rfl
 refine⟨N,cs,rfl,by omega,by omega,λe f=>?_⟩;refine⟨rfl,rfl,?_⟩;have ok:=ab7 f;have pc:=NL (m:=0) f.code;have o:(0:Int)<(((nW Af e.zipIdx).map D.str).length:Int):=by have:=fJ.mpr f.code;rw[ai];omega
 refine⟨rfl,sc,1,rfl,λz=>⟨_,rfl,o,.str (uu (nW Af e.zipIdx) z),?_,?_⟩⟩
 .rw[ai];exact NL f.code
 obtain⟨p,A⟩:=ZO f (lX (m:=z) f.code);generalize uu (nW Af e.zipIdx) z=w at A |-;generalize nW Af e.zipIdx=code;have g:((wW (prog e)).map bh).Nodup:=by rw[show wW (prog e)=W2 e.zipIdx from UN _ _ _ _];exact UO e
 generalize prog e=ps at ok A g |-;refine⟨⟨by decide,by decide,by decide⟩,?_⟩;refine⟨rfl,sc,2,rfl,λO=>?_⟩;refine⟨ab rfl,.inl ⟨by decide,by decide⟩,ab rfl,⟨by decide,by decide,ab rfl⟩,ab rfl,?_⟩;refine⟨rfl,O,szI,rfl,by decide,by decide+kernel,λas B=>?_⟩;obtain⟨j,h⟩:∃n,as[0]?=aa n:=⟨_,aJ (by rw[B.1];decide)⟩;have b0:=B.2 0 j 13 h rfl;refine⟨_,lx (k:=0) (show(as.map D.int)[0]?=aa (.int j) by rw[aS,h];rfl),?_⟩;refine⟨⟨?_,?_⟩,trivial,?_⟩
 .show(-2^62:Int)<=j;omega
 .show(j:Int)<2^62;omega
 rw[UT];refine IZ (λi:Nat=>D.int i) (λi:Int=>D.int i) ?_ _ [] ?_ (λk u L x=>?_) (λins C=>?_)
 .exact trivial
 .rw[bj,cQ];omega
 .have u:=List.mem_range.mp u;obtain⟨a,b,T,H,ha⟩:=two B k (by omega);obtain⟨v,U⟩:=aff (b- 10^20) (b%5) ha;exact⟨.inl ⟨by decide,by decide⟩,_,H,.inl ⟨by decide,by decide⟩,_,H,(by decide:(0:Int)<5),ab rfl,.inl ⟨by decide,by decide⟩,_,T,_,U,x v _ rfl⟩
 rw[bj,bt,cQ] at C;refine⟨rfl,sc,3,rfl,λY=>?_⟩;refine⟨ab rfl,rfl,Y,[3,501],rfl,by decide,by decide,λJ r=>?_⟩;obtain⟨s0,s1,rfl,E,G⟩:=ZU r;obtain⟨n,hn,hl⟩:=afe E G;refine⟨_,rfl,_,rfl,(by decide:(0:Int)<30),ab rfl,_,rfl,_,hl,?_⟩;exact st ok A g hn (by omega) λM=>⟨rfl,q⟩
end uG
namespace uG
open PySem PySem.Spec L2 L3 FJ
structure RB(K:bz)(C fI fW fA fG fB:ak):Prop where
 c:CF K C
 nT:cg K (.ref C) "told"=aa ao
 aI:cg K (.ref C) "__init__"=aa (aa (.ref fI))
 aW:cg K (.ref C) "words"=aa (aa (.ref fW))
 aA:cg K (.ref C) "asked"=aa (aa (.ref fA))
 aG:cg K (.ref C) "goes_on"=aa (aa (.ref fG))
 aB:cg K (.ref C) "by_places"=aa (aa (.ref fB))
theorem all_mk{l:W.OpenLaw}{w:bI}{K:bz}{h:az}{mg:ay->Option ae}{fa:ak}(X:K.In h)(G:h.Ns aY mg)(hfa:mg "law"=aa (.ref fa))
{z L Tn I0 To AQ Tp AR I J cF i b:ak}{N O fA fG fB Ja ZZ UV UW Z0 ac4 UX Z1 ac5 fNI fNC fNN fNT fRI fRr fRc fRb fRj fRx fRa fRl:ak}{t0 t1 t2 t3 t4 t5 t6 t7 t8 t9:akr}
(yz:cP K aY "MarkRow"=aa (aa (.ref z)))
(CM:cP K aY "CodeRow"=aa (aa (.ref L)))
(Tq:cP K aY "BoxRow"=aa (aa (.ref Tn)))
(Jb:cP K aY "LastRow"=aa (aa (.ref I0)))
(Tr:cP K aY "SetRow"=aa (aa (.ref To)))
(AS:cP K aY "AlikeRow"=aa (aa (.ref AQ)))
(Ts:cP K aY "AimRow"=aa (aa (.ref Tp)))
(AT:cP K aY "LeaveRow"=aa (aa (.ref AR)))
(qD:cP K aY "NumbersRow"=aa (aa (.ref I)))
(yA:cP K aY "TableRow"=aa (aa (.ref J)))
(Jc:cP K aY "FORMS"=aa (aa (.ref cF)))
(nNR:cP K aY "NamedRows"=aa (aa (.ref i)))
(Z2:cP K aY "Run"=aa (aa (.ref b)))
(CO:RB K z N O fA fG fB)
(NT:RB K Tn N O fA Ja fB)
(CP:RB K I0 N O fA ZZ fB)
(NU:RB K To N O fA Ja fB)
(wC:RB K AQ N O UW Ja UX)
(NV:RB K Tp N O Z0 Ja Z1)
(wD:RB K AR N O Z0 UV Z1)
(oU:RB K I N O fA fG fB)
(wE:RB K J N O ac4 fG ac5)
(acj:MF K "__init__" "Row.__init__" sA N)
(Z3:MF K "words" "Row.words" qv O)
(T:MF K "asked" "Row.asked" qw fA)
(NW:MF K "goes_on" "Row.goes_on" m8 fG)
(U:MF K "by_places" "Row.by_places" lR fB)
(mw:MF K "goes_on" "CodeRow.goes_on" kH Ja)
(yB:MF K "goes_on" "LastRow.goes_on" kI ZZ)
(vo:MF K "goes_on" "LeaveRow.goes_on" km UV)
(vp:MF K "asked" "AlikeRow.asked" k5 UW)
(wF:MF K "asked" "AimRow.asked" mj Z0)
(CQ:MF K "asked" "TableRow.asked" k6 ac4)
(vq:MF K "by_places" "AlikeRow.by_places" jP UX)
(wG:MF K "by_places" "AimRow.by_places" kj Z1)
(CS:MF K "by_places" "TableRow.by_places" jQ ac5)
(cfN:CF K i)
(Z4:cg K (.ref i) "__init__"=aa (aa (.ref fNI)))
(Z5:cg K (.ref i) "code_at"=aa (aa (.ref fNC)))
(Z6:cg K (.ref i) "numbers_at"=aa (aa (.ref fNN)))
(Z7:cg K (.ref i) "table_at"=aa (aa (.ref fNT)))
(UY:MF K "__init__" "NamedRows.__init__" k7 fNI)
(Qt:MF K "code_at" "NamedRows.code_at" j0 fNC)
(Qu:MF K "numbers_at" "NamedRows.numbers_at" jw fNN)
(Qv:MF K "table_at" "NamedRows.table_at" jR fNT)
(NX:cg K (.ref i) "bare"=aa ao)
(Ec:cg K (.ref i) "places"=aa ao)
(W3:CF K b)
(Z8:cg K (.ref b) "__init__"=aa (aa (.ref fRI)))
(Z9:cg K (.ref b) "do_row"=aa (aa (.ref fRr)))
(aab:cg K (.ref b) "do_call"=aa (aa (.ref fRc)))
(aac:cg K (.ref b) "do_back"=aa (aa (.ref fRb)))
(aad:cg K (.ref b) "do_jumpby"=aa (aa (.ref fRj)))
(aae:cg K (.ref b) "do_in_boxes"=aa (aa (.ref fRx)))
(aaf:cg K (.ref b) "do_ask"=aa (aa (.ref fRa)))
(aag:cg K (.ref b) "do_load"=aa (aa (.ref fRl)))
(UZ:MF K "__init__" "Run.__init__" sL fRI)
(Qw:MF K "do_row" "Run.do_row" oP fRr)
(Qx:MF K "do_call" "Run.do_call" m9 fRc)
(Qy:MF K "do_back" "Run.do_back" ng fRb)
(Qz:MF K "do_jumpby" "Run.do_jumpby" lW fRj)
(QC:MF K "do_in_boxes" "Run.do_in_boxes" kJ fRx)
(QD:MF K "do_ask" "Run.do_ask" oQ fRa)
(QH:MF K "do_load" "Run.do_load" nh fRl)
(Jd:cg K (.ref b) "store"=aa ao)
(Ed:cg K (.ref b) "inputs"=aa ao)
(NY:cg K (.ref b) "used"=aa ao)
(Je:cg K (.ref b) "boxes"=aa ao)
(NZ:cg K (.ref b) "kept"=aa ao)
(AU:cg K (.ref b) "answers"=aa ao)
(Tt:cg K (.ref b) "end"=aa ao)
(tb:Dg K cF acT)
(mx:cP K aY "LONGEST_WORD"=aa (aa (.int (8) t0)))
(my:cP K aY "LONGEST_LIST"=aa (aa (.int (60) t1)))
(sM:cP K aY "LAST_BOX"=aa (aa (.int (3) t2)))
(mz:cP K aY "LEAST_NUMBER"=aa (aa (.int (-2147483648) t3)))
(kL:cP K aY "GREATEST_NUMBER"=aa (aa (.int (2147483647) t4)))
(j2:cP K aY "MOST_ROWS_OF_PART"=aa (aa (.int (60) t5)))
(oV:cP K aY "MOST_PARTS"=aa (aa (.int (12) t6)))
(qE:cP K aY "MOST_ROWS"=aa (aa (.int (200) t7)))
(oW:cP K aY "MOST_MARKS"=aa (aa (.int (200) t8)))
(qF:cP K aY "MOST_KEPT"=aa (aa (.int (40) t9)))
(oX:cP K aY "isinstance"=aa ao)
(QJ:cP K aY "int"=aa ao)
(Jf:cP K aY "bool"=aa ao)
(QK:cP K aY "str"=aa ao)
(QL:cP K aY "len"=aa ao)
(QM:cP K aY "all"=aa ao)
(CT:cP K aY "tuple"=aa ao)
(Jg:cP K aY "list"=aa ao)
(QN:cP K aY "zip"=aa ao)
(QP:cP K aY "set"=aa ao)
(QQ:cP K aY "sum"=aa ao)
(qG:cP K aY "enumerate"=aa ao)
(yC:cP K aY "sorted"=aa ao)
(Jh:cP K aY "dict"=aa ao)
(CU:cP K aY "range"=aa ao)
(AV:hG K mg "is_whole" wa)
(Ee:hG K mg "is_word" zo)
(rP:hG K mg "is_list_of" rA)
(N0:hG K mg "fits" Nb)
(Ji:hG K mg "is_row" Cc)
(AW:hG K mg "code_row" wd)
(Jj:hG K mg "row_of" Cd)
(pL:hG K mg "counts_as_mark" mM)
(uv:hG K mg "marks_among" pW)
(sN:hG K mg "others_among" oJ)
(Ef:hG K mg "is_part" zp)
(yD:hG K mg "are_parts" tQ)
(Eg:hG K mg "rows_of" zr)
(oY:hG K mg "first_but_marks" l7)
(nK:hG K mg "look_behind_rows" lJ)
(yE:hG K mg "looked_at" tS)
(Eh:hG K mg "by_name" zt)
(qQ:hG K mg "marks_of_part" nr)
(AX:hG K mg "marks_in" wj)
(sO:hG K mg "strong_parts" oK)
(pN:hG K mg "look_for_twice" mN)
(yF:hG K mg "places_in" tU)
(qR:hG K mg "without_marks" nu)
(yG:hG K mg "bare_rows" tV)
(AY:hG K mg "at_place" wm)
(wH:hG K mg "may_aim_at" rC)
(sP:hG K mg "look_at_aims" oN)
(Jk:hG K mg "let_by" Cj)
(uw:hG K mg "start_place" pX)
(AZ:hG K mg "run_over" wv)
(yH:hG K mg "run_names" tX)
(sQ:hG K mg "_law_cell_at" pY)
(wI:hG K mg "_law_mixed" tY)
(wJ:hG K mg "_law_parts" tZ)
(wK:hG K mg "_law_kinds" ua)
(sR:hG K mg "_law_goes_on" pZ)
(qS:hG K mg "_law_skeleton" oR)
(yI:hG K mg "_law_name" wx)
(ux:hG K mg "_law_number" rF)
(uy:hG K mg "_law_filled" rG)
(yJ:hG K mg "_law_gone" wy)
(sS:hG K mg "_law_no_code" p0)
(sT:hG K mg "_law_program" p4)
(yK:hG K mg "_law_bare" wz)
(uz:hG K mg "_law_places" rJ)
(uA:hG K mg "_law_row_at" rK)
(oZ:hG K mg "_law_plain_step" mQ)
(yL:hG K mg "_law_step" wB)
(A0:hG K mg "_law_run" zu)
(wL:hG K mg "_law_right" uc)
(aah:hG K mg "law" Zv)
(A1:cN K (.ref z) (.ref z)=aa ag)
(Ei:cN K (.ref Tn) (.ref z)=aa ar)
(A2:cN K (.ref I0) (.ref z)=aa ar)
(Ej:cN K (.ref To) (.ref z)=aa ar)
(yM:cN K (.ref AQ) (.ref z)=aa ar)
(Ek:cN K (.ref Tp) (.ref z)=aa ar)
(yN:cN K (.ref AR) (.ref z)=aa ar)
(uB:cN K (.ref I) (.ref z)=aa ar)
(yO:cN K (.ref J) (.ref z)=aa ar)
(A3:cN K (.ref z) (.ref L)=aa ar)
(El:cN K (.ref Tn) (.ref L)=aa ag)
(A4:cN K (.ref I0) (.ref L)=aa ag)
(Em:cN K (.ref To) (.ref L)=aa ag)
(yP:cN K (.ref AQ) (.ref L)=aa ag)
(En:cN K (.ref Tp) (.ref L)=aa ag)
(yQ:cN K (.ref AR) (.ref L)=aa ag)
(uC:cN K (.ref I) (.ref L)=aa ar)
(yR:cN K (.ref J) (.ref L)=aa ar)
(uD:cN K (.ref z) (.ref I)=aa ar)
(wM:cN K (.ref Tn) (.ref I)=aa ar)
(uE:cN K (.ref I0) (.ref I)=aa ar)
(wN:cN K (.ref To) (.ref I)=aa ar)
(sU:cN K (.ref AQ) (.ref I)=aa ar)
(wO:cN K (.ref Tp) (.ref I)=aa ar)
(sV:cN K (.ref AR) (.ref I)=aa ar)
(pO:cN K (.ref I) (.ref I)=aa ag)
(sW:cN K (.ref J) (.ref I)=aa ar)
(yS:cN K (.ref z) (.ref J)=aa ar)
(A5:cN K (.ref Tn) (.ref J)=aa ar)
(yT:cN K (.ref I0) (.ref J)=aa ar)
(A6:cN K (.ref To) (.ref J)=aa ar)
(wP:cN K (.ref AQ) (.ref J)=aa ar)
(A7:cN K (.ref Tp) (.ref J)=aa ar)
(wQ:cN K (.ref AR) (.ref J)=aa ar)
(sX:cN K (.ref I) (.ref J)=aa ar)
(wR:cN K (.ref J) (.ref J)=aa ag)
(afh:cN K (.type "NoneType") (.ref L)=aa ar)
  :∃fd:cK,(∀(s:aq) (v:ae),ajD s fd ⟨[v],[]⟩ [("_law_script",v)])/\∀cv:az,G8 K mg cv->ke l.prog w K mg cv p8 11 fa fd ["_law_script"] (jX K (cl UU)):=by
 obtain⟨f,fd,F,m⟩:=id aah;have e:=hfa.symm.trans m;cases e;have oX:=dr X G oX;have QJ:=dr X G QJ;have Jf:=dr X G Jf;have QK:=dr X G QK;have QL:=dr X G QL;have QM:=dr X G QM;have CT:=dr X G CT;have Jg:=dr X G Jg;have QN:=dr X G QN;have QP:=dr X G QP;have QQ:=dr X G QQ;have qG:=dr X G qG;have yC:=dr X G yC;have Jh:=dr X G Jh;have CU:=dr X G CU;have mx:∃t,mg "LONGEST_WORD"=aa (.int (8) t):=⟨_,cR X G mx⟩;have my:∃t,mg "LONGEST_LIST"=aa (.int (60) t):=⟨_,cR X G my⟩;have sM:∃t,mg "LAST_BOX"=aa (.int (3) t):=⟨_,cR X G sM⟩;have mz:∃t,mg "LEAST_NUMBER"=aa (.int (-2147483648) t):=⟨_,cR X G mz⟩;have kL:∃t,mg "GREATEST_NUMBER"=aa (.int (2147483647) t):=⟨_,cR X G kL⟩;have j2:∃t,mg "MOST_ROWS_OF_PART"=aa (.int (60) t):=⟨_,cR X G j2⟩;have oV:∃t,mg "MOST_PARTS"=aa (.int (12) t):=⟨_,cR X G oV⟩;have qE:∃t,mg "MOST_ROWS"=aa (.int (200) t):=⟨_,cR X G qE⟩;have oW:∃t,mg "MOST_MARKS"=aa (.int (200) t):=⟨_,cR X G oW⟩;have qF:∃t,mg "MOST_KEPT"=aa (.int (40) t):=⟨_,cR X G qF⟩;have yz:=cR X G yz;have CM:=cR X G CM;have Tq:=cR X G Tq;have Jb:=cR X G Jb;have Tr:=cR X G Tr;have AS:=cR X G AS;have Ts:=cR X G Ts;have AT:=cR X G AT;have qD:=cR X G qD;have yA:=cR X G yA;have Jc:=cR X G Jc;have nNR:=cR X G nNR;have Z2:=cR X G Z2;have Z:Zs mg:=⟨oX,QJ,Jf,QK,QL,QM,CT,Jg,QN,QP,QQ,qG,yC,Jh,CU,mx,my,sM,mz,kL,j2,oV,qE,oW,qF⟩;refine⟨fd,F.aeg λ_ _ _ _ _ _ _=>rfl,λcv TB=>?_⟩;obtain⟨c,a⟩:∃c:CA,c=CA.mk z z L z Tn I0 To AQ Tp AR I J:=⟨_,rfl⟩;have cf:∀k,CF K (c.at k):=λk=>by subst a;cases k<;>first|exact CO.c|exact NT.c|exact CP.c|exact NU.c|exact wC.c|exact NV.c|exact wD.c|exact oU.c|exact wE.c
 have nT:∀k,cg K (.ref (c.at k)) "told"=aa ao:=λk=>by subst a;cases k<;>first|exact CO.nT|exact NT.nT|exact CP.nT|exact NU.nT|exact wC.nT|exact NV.nT|exact wD.nT|exact oU.nT|exact wE.nT
 have fo:∀k,qg K (c.at k) "told":=λk=>⟨(cf k).cls,nT k⟩;have aI:∀k,cg K (.ref (c.at k)) "__init__"=aa (aa (.ref N)):=λk=>by subst a;cases k<;>first|exact CO.aI|exact NT.aI|exact CP.aI|exact NU.aI|exact wC.aI|exact NV.aI|exact wD.aI|exact oU.aI|exact wE.aI
 have aW:∀k,cg K (.ref (c.at k)) "words"=aa (aa (.ref O)):=λk=>by subst a;cases k<;>first|exact CO.aW|exact NT.aW|exact CP.aW|exact NU.aW|exact wC.aW|exact NV.aW|exact wD.aW|exact oU.aW|exact wE.aW
 have p:FOk K c:=⟨λr=>fo r.kn⟩;have ko:WZ K c:=⟨λk=>(cf k).agT,λk=>by subst a;cases k<;>first|exact A1|exact Ei|exact A2|exact Ej|exact yM|exact Ek|exact yN|exact uB|exact yO,λk=>by subst a;cases k<;>first|exact A3|exact El|exact A4|exact Em|exact yP|exact En|exact yQ|exact uC|exact yR,λk=>by subst a;cases k<;>first|exact uD|exact wM|exact uE|exact wN|exact sU|exact wO|exact sV|exact pO|exact sW,λk=>by subst a;cases k<;>first|exact yS|exact A5|exact yT|exact A6|exact wP|exact A7|exact wQ|exact sX|exact wR,by subst a;exact afh⟩;have nok:NOk K i:=⟨⟨cfN.cls,NX⟩,⟨cfN.cls,Ec⟩⟩;have u:Fg K b:=⟨λx hx=>⟨W3.cls,by
  simp only [JV,aO,bT,or_false] at hx;rcases hx with rfl|rfl|rfl|rfl|rfl|rfl|rfl
  .exact Jd
  .exact Ed
  .exact NY
  .exact Je
  .exact NZ
  .exact AU
  .exact Tt⟩⟩
 have yz:mg "MarkRow"=aa (.ref c.Mark):=by subst a;exact yz
 have CM:mg "CodeRow"=aa (.ref c.Code):=by subst a;exact CM
 have Tq:mg "BoxRow"=aa (.ref c.V1):=by subst a;exact Tq
 have Jb:mg "LastRow"=aa (.ref c.Last):=by subst a;exact Jb
 have Tr:mg "SetRow"=aa (.ref c.Set):=by subst a;exact Tr
 have AS:mg "AlikeRow"=aa (.ref c.Alike):=by subst a;exact AS
 have Ts:mg "AimRow"=aa (.ref c.V2):=by subst a;exact Ts
 have AT:mg "LeaveRow"=aa (.ref c.Leave):=by subst a;exact AT
 have qD:mg "NumbersRow"=aa (.ref c.j5):=by subst a;exact qD
 have yA:mg "TableRow"=aa (.ref c.Table):=by subst a;exact yA
 have aai:∀j,ie l.prog w K mg cv (j+1) "is_whole" ["thing"] (cl pF):=λj=>kY (Sg AV Z) Fb (OZ K);have U0:∀j,ie l.prog w K mg cv (j+1) "is_word" ["thing"] (cl nQ):=λj=>kY (Wp Ee Z) He (RU K);have afi:ie l.prog w K mg cv 2 "fits" ["form","thing"] (cl FE):=kY (Zd (mE:=λ_ _ _=>False) N0 Z (U0 0) (aai 0) (agy 1 rP (λ_ _ _ _ _ _ us hl=>match us,hl with|[_,_],_=>rfl))) Mu (YD K _);have hIl:ie l.prog w K mg cv 3 "is_list_of" ["form","thing"] (cl abB):=kY (Na rP Z afi) VZ (agP K);have ahk:ie l.prog w K mg cv 4 "fits" ["form","thing"] (cl Dq):=kY (Zd N0 Z (U0 2) (aai 2) hIl) O2 (abC K);have ahl:ie l.prog w K mg cv 5 "is_row" ["thing"] (WV BE):=hasB (Zf Ji Z Jc tb ahk) Jz (V0 K _);obtain⟨_,ahm⟩:=acj.ex;obtain⟨_,ahn⟩:=Z3.ex;obtain⟨_,KA⟩:=T.ex;obtain⟨_,WN⟩:=NW.ex;obtain⟨_,KC⟩:=U.ex;obtain⟨_,qH⟩:=mw.ex;obtain⟨_,QR⟩:=yB.ex;obtain⟨_,LM⟩:=vo.ex;obtain⟨_,LN⟩:=vp.ex;obtain⟨_,FV⟩:=wF.ex;obtain⟨_,U1⟩:=CQ.ex;obtain⟨_,LO⟩:=vq.ex;obtain⟨_,FW⟩:=wG.ex;obtain⟨_,U2⟩:=CS.ex;obtain⟨_,ac6⟩:=UY.ex;obtain⟨_,ac7⟩:=Qt.ex;obtain⟨_,ac8⟩:=Qu.ex;obtain⟨_,ac9⟩:=Qv.ex;obtain⟨_,ada⟩:=UZ.ex;obtain⟨_,adb⟩:=Qw.ex;obtain⟨_,adc⟩:=Qx.ex;obtain⟨_,ade⟩:=Qy.ex;obtain⟨_,adf⟩:=Qz.ex;obtain⟨_,adg⟩:=QC.ex;obtain⟨_,adh⟩:=QD.ex;obtain⟨_,adi⟩:=QH.ex;have y:∀j k,md l.prog w K mg cv (j+1) (c.at k) (pG K):=λj k=>X9 ⟨(cf k).wW,aI k,acj.fn,(cf k).kc⟩ (Py ahm) (Sj ahm) O3 abD;have aho:ie l.prog w K mg cv 5 "code_row" ["told"] (cl (sn c)):=kY (Sn (k:=3) AW Tr (y 2 .Set) AS (y 2 .Alike) Jb (y 2 .Last) AT (y 2 .Leave) Ts (y 2 .V2) Tq (y 2 .V1)) Fc (O5 p);have afj:ie l.prog w K mg cv 6 "row_of" ["thing"] (BG c):=OM (Zn (k:=4) Jj Z ahl yz (y 3 .Mark) qD (y 3 .j5) yA (y 3 .Table) aho) JD (V4 p);have yU:∀j C g,jD c C "words" g->iS l.prog w K mg cv (j+1) C "words" g:=by
  rintro j C g ⟨k,rfl,rfl⟩
  exact methP (cf k).cls ⟨aW k,Z3.fn,Z3.kp⟩ (M7 ahn) (PB ahn Z) Mw (YF p k)
 have afk:∀j C g,vX c C "asked" g->iS l.prog w K mg cv (j+1) C "asked" g:=by
  rintro j C g ⟨k,rfl,rfl⟩
  have cl:=(cf k).cls;cases k;case Mark=>exact qV cl ⟨by subst a;exact CO.aA,T.fn,T.kp⟩ (oI KA) (qx KA) j6 (oq (by simp))
  case V1=>exact qV cl ⟨by subst a;exact NT.aA,T.fn,T.kp⟩ (oI KA) (qx KA) j6 (oq (by simp))
  case Last=>exact qV cl ⟨by subst a;exact CP.aA,T.fn,T.kp⟩ (oI KA) (qx KA) j6 (oq (by simp))
  case Set=>exact qV cl ⟨by subst a;exact NU.aA,T.fn,T.kp⟩ (oI KA) (qx KA) j6 (oq (by simp))
  case j5=>exact qV cl ⟨by subst a;exact oU.aA,T.fn,T.kp⟩ (oI KA) (qx KA) j6 (oq (by simp))
  case Alike=>exact qV cl ⟨by subst a;exact wC.aA,vp.fn,vp.kp⟩ (B8 LN) (Dz LN Z) j6 (Hi p rfl)
  case V2=>exact qV cl ⟨by subst a;exact NV.aA,wF.fn,wF.kp⟩ (w8 FV) (yg FV) j6 (BH p (.inl rfl))
  case Leave=>exact qV cl ⟨by subst a;exact wD.aA,wF.fn,wF.kp⟩ (w8 FV) (yg FV) j6 (BH p (.inr rfl))
  case Table=>exact qV cl ⟨by subst a;exact wE.aA,CQ.fn,CQ.kp⟩ (Ca U1) (DC U1 Z) j6 (Hj p rfl)
 have ahp:∀j C g,YG c C "goes_on" g->iS l.prog w K mg cv (j+1) C "goes_on" g:=by
  rintro j C g ⟨k,rfl,rfl⟩
  have cl:=(cf k).cls;cases k;case Mark=>exact methP cl ⟨by subst a;exact CO.aG,NW.fn,NW.kp⟩ (sC WN) (uk WN) FJ.jN (O6 (by simp))
  case j5=>exact methP cl ⟨by subst a;exact oU.aG,NW.fn,NW.kp⟩ (sC WN) (uk WN) FJ.jN (O6 (by simp))
  case Table=>exact methP cl ⟨by subst a;exact wE.aG,NW.fn,NW.kp⟩ (sC WN) (uk WN) FJ.jN (O6 (by simp))
  case Last=>exact methP cl ⟨by subst a;exact CP.aG,yB.fn,yB.kp⟩ (AB QR) (B6 QR) FJ.jN (O6 (by simp))
  case Leave=>exact methP cl ⟨by subst a;exact wD.aG,vo.fn,vo.kp⟩ (zJ LM) (AF LM) FJ.jN (O6 (by simp))
  case V1=>exact methP cl ⟨by subst a;exact NT.aG,mw.fn,mw.kp⟩ (lH qH) (l6 qH) FJ.jN (Ux (by simp))
  case Set=>exact methP cl ⟨by subst a;exact NU.aG,mw.fn,mw.kp⟩ (lH qH) (l6 qH) FJ.jN (Ux (by simp))
  case Alike=>exact methP cl ⟨by subst a;exact wC.aG,mw.fn,mw.kp⟩ (lH qH) (l6 qH) FJ.jN (Ux (by simp))
  case V2=>exact methP cl ⟨by subst a;exact NV.aG,mw.fn,mw.kp⟩ (lH qH) (l6 qH) FJ.jN (Ux (by simp))
 have mBp:∀j C g,aeW c C "by_places" g->iS l.prog w K mg cv (j+2) C "by_places" g:=by
  rintro j C g ⟨k,rfl,rfl⟩
  have cl:=(cf k).cls;cases k;case Mark=>exact methP cl ⟨by subst a;exact CO.aB,U.fn,U.kp⟩ (k3 KC) (lU KC (yU j)) mJ (uZ (by simp))
  case V1=>exact methP cl ⟨by subst a;exact NT.aB,U.fn,U.kp⟩ (k3 KC) (lU KC (yU j)) mJ (uZ (by simp))
  case Last=>exact methP cl ⟨by subst a;exact CP.aB,U.fn,U.kp⟩ (k3 KC) (lU KC (yU j)) mJ (uZ (by simp))
  case Set=>exact methP cl ⟨by subst a;exact NU.aB,U.fn,U.kp⟩ (k3 KC) (lU KC (yU j)) mJ (uZ (by simp))
  case j5=>exact methP cl ⟨by subst a;exact oU.aB,U.fn,U.kp⟩ (k3 KC) (lU KC (yU j)) mJ (uZ (by simp))
  case Alike=>exact methP cl ⟨by subst a;exact wC.aB,vq.fn,vq.kp⟩ (xk LO) (ye LO) mJ (Pg p rfl)
  case V2=>exact methP cl ⟨by subst a;exact NV.aB,wG.fn,wG.kp⟩ (qX FW) (sE FW) mJ (Ls p (.inl rfl))
  case Leave=>exact methP cl ⟨by subst a;exact wD.aB,wG.fn,wG.kp⟩ (qX FW) (sE FW) mJ (Ls p (.inr rfl))
  case Table=>exact methP cl ⟨by subst a;exact wE.aB,CS.fn,CS.kp⟩ (xn U2) (yi U2) mJ (Ph p rfl)
 have ack:∀j,ie l.prog w K mg cv (j+1) "counts_as_mark" ["thing"] (cl BM):=λj=>kY (DJ pL Z) JH (V6 K);have aaj:∀j,ie l.prog w K mg cv (j+2) "marks_among" ["things"] (cl BN):=λj=>kY (J3 uv Z (ack j)) MB YK;have U3:∀j,ie l.prog w K mg cv (j+3) "others_among" ["things"] (cl xY):=λj=>kY (HY sN Z (aaj j)) JJ V8;have acl:∀j,ie l.prog w K mg cv (j+4) "is_part" ["thing"] (cl zi):=λj=>kY (Wu Ef Z (U0 (j+2)) (U3 j)) Ho (RV K);have aiK:∀j,ie l.prog w K mg cv (j+5) "are_parts" ["thing"] (cl UA):=λj=>kY (PH yD Z (acl j) (U3 (j+1)) (aaj (j+2))) RX (aeO K);have acm:ie l.prog w K mg cv 7 "rows_of" ["name","things"] (cl (zj c)):=kY (Wx Eg Z afj) Hr RY;have afl:∀j,ie l.prog w K mg cv (j+1) "first_but_marks" ["rows"] (cl (FI c)):=λj=>kY (Cg oY Z yz) MC (YM ko);have acn:∀j,ie l.prog w K mg cv (j+2) "look_behind_rows" ["name","rows"] (cl (pT c)):=λj=>kY (AI nK Z (afl j) (ahp j) CM yz) Av (Ht ko);have aco:ie l.prog w K mg cv 8 "looked_at" ["parts"] (cl (BR c)):=kY (PK yE (aiK 2) acm (acn 5)) JL Wa;have U4:∀j,ie l.prog w K mg cv (j+5) "by_name" ["parts"] (cl (uY c)):=λj=>kY (WA Eh TB Z) Hu RZ;have aak:∀j,ie l.prog w K mg cv (j+2) "marks_of_part" ["part","rows"] (cl (v3 c)):=λj=>kY (Fm qQ Z yz (yU j)) Fd (Pb ko);have aal:∀j,ie l.prog w K mg cv (j+6) "marks_in" ["told"] (cl (v4 c)):=λj=>kY (SA AX (U4 j) (aak (j+3))) Fe Pc;have acp:∀j,ie l.prog w K mg cv (j+1) "strong_parts" ["marks"] BS:=λj=>OM (Ib sO) JN Wd;have afm:∀j,ie l.prog w K mg cv (j+2) "look_for_twice" ["marks"] (cl FK):=λj=>kY (DP pN Z (acp j)) MG YR;have acq:∀j,ie l.prog w K mg cv (j+7) "places_in" ["told"] (cl (BU c)):=λj=>kY (PN yF (aal j) (afm (j+4))) JQ Wf;have aam:∀j,ie l.prog w K mg cv (j+1) "without_marks" ["rows"] (cl (zk c)):=λj=>kY (Fp qR Z yz) Hx (R5 ko);have ahq:∀j,ie l.prog w K mg cv (j+6) "bare_rows" ["told"] (cl (MJ c)):=λj=>kY (PQ yG Z (U4 j) (aam (j+4))) Pd abL;have Y:∀j,ie l.prog w K mg cv (j+1) "at_place" ["lists","place"] (cl (Pe c)):=λj=>kY (SG AY) Wg agZ;have aiL:∀j,ie l.prog w K mg cv (j+2) "may_aim_at" ["row","aim"] (cl (UD c)):=λj=>kY (Nh wH Z (yU j) qD yA CM) R6 (aeV ko);have ahr:∀j,ie l.prog w K mg cv (j+3) "look_at_aims" ["part","bare","places"] (cl (MK c)):=λj=>kY (Ih sP Z (afk (j+1)) (aiL j) (Y (j+1))) Pf abM;have aiM:ie l.prog w K mg cv 9 "let_by" ["parts"] (cl (BV c)):=kY (Zt Jk aco (acq 1) (ahq 2) (ahr 5)) JR Wh;have afn:∀j,ie l.prog w K mg cv (j+2) "start_place" ["bare","places","start"] (cl (FL c)):=λj=>kY (J5 uw Z (U0 j) CM (Y j)) ML (YU ko);have mkN:∀j,md l.prog w K mg cv (j+1) i (FM i c):=λj=>X9 ⟨cfN.wW,Z4,UY.fn,cfN.kc⟩ (Cm ac6) (DV ac6) MP (YV nok);have acr:∀j C g,mH i c C "code_at" g->iS l.prog w K mg cv (j+3) C "code_at" g:=by
  rintro j C g ⟨rfl,rfl⟩
  exact methP cfN.cls ⟨Z5,Qt.fn,Qt.kp⟩ (yo ac7) (zL ac7 (Y (j+1)) (mBp j)) Hz (R8 nok)
 have afo:∀j C g,lD i c C "numbers_at" g->iS l.prog w K mg cv (j+2) C "numbers_at" g:=by
  rintro j C g ⟨rfl,rfl⟩
  exact methP cfN.cls ⟨Z6,Qu.fn,Qu.kp⟩ (vi ac8) (wu ac8 (Y j) (yU j)) BW (JU nok)
 have afp:∀j C g,nD i c C "table_at" g->iS l.prog w K mg cv (j+3) C "table_at" g:=by
  rintro j C g ⟨rfl,rfl⟩
  exact methP cfN.cls ⟨Z7,Qv.fn,Qv.kp⟩ (xq ac9) (yq ac9 (Y (j+1)) (mBp j)) Ff (Pj nok)
 have ahs:∀j,md l.prog w K mg cv (j+1) b (Pk b i c BZ):=λj=>X9 ⟨W3.wW,Z8,UZ.fn,W3.kc⟩ (P0 ada) (SI ada) (tK λ_=>MT) (λds M Q ⟨k,B,_,_,q⟩=>Y1 (by rw[B];exact u) ds M Q q);have aht:∀j C g,pH b i c C "do_call" g->iS l.prog w K mg cv (j+1) C "do_call" g:=by
  rintro j C g ⟨rfl,rfl⟩
  exact qV W3.cls ⟨aab,Qx.fn,Qx.kp⟩ (Io adc) (J8 adc Z) (tK λ_=>HA) (λds M Q ⟨k,B,_,_,q⟩=>R9 (by rw[B];exact u) ds M Q q)
 have ahu:∀j C g,pI b i c C "do_back" g->iS l.prog w K mg cv (j+1) C "do_back" g:=by
  rintro j C g ⟨rfl,rfl⟩
  exact qV W3.cls ⟨aac,Qy.fn,Qy.kp⟩ (Iq ade) (Ka ade Z) (tK λ_=>HB) (λds M Q ⟨k,B,_,_,q⟩=>Sa (by rw[B];exact u) ds M Q q)
 have ahv:∀j C g,UH b i c C "do_jumpby" g->iS l.prog w K mg cv (j+1) C "do_jumpby" g:=by
  rintro j C g ⟨rfl,rfl⟩
  exact qV W3.cls ⟨aad,Qz.fn,Qz.kp⟩ (DX adf) (Ft adf Z) (tK λ_=>MS) (λds M Q ⟨k,B,_,_,q⟩=>YY (by rw[B];exact u) ds M Q q)
 have aiN:∀j C g,su b i c C "do_ask" g->iS l.prog w K mg cv (j+1) C "do_ask" g:=by
  rintro j C g ⟨rfl,rfl⟩
  exact qV W3.cls ⟨aaf,QD.fn,QD.kp⟩ (Ke adh) (Nn adh Z) (tK λ_=>JY) (λds M Q ⟨k,B,_,_,q⟩=>Wk (by rw[B];exact u) ds M Q q)
 have ahw:∀j C g,pJ b i c C "do_load" g->iS l.prog w K mg cv (j+1) C "do_load" g:=by
  rintro j C g ⟨rfl,rfl⟩
  exact qV W3.cls ⟨aag,QH.fn,QH.kp⟩ (Iu adi) (Kg adi Z) (tK λ_=>HD) (λds M Q ⟨k,B,_,_,q⟩=>Sb (by rw[B];exact u) ds M Q q)
 have mIn:∀j C g,HF b i c C "do_in_boxes" g->iS l.prog w K mg cv (j+3) C "do_in_boxes" g:=by
  rintro j C g ⟨rfl,rfl⟩
  exact qV W3.cls ⟨aae,QC.fn,QC.kp⟩ (AK adg) (Cp adg (aiN (j+1)) (afo j) (ahw (j+1))) (tK λ_=>Fh) (λds M Q ⟨k,B,h2,h3,q⟩=>by have:=Pm (K:=K) (k:=k) (by rw[B];exact u) ds M Q q;rw[B,h2,h3] at this;exact this)
 have aiO:∀j C g,oz b i c C "do_row" g->iS l.prog w K mg cv (j+4) C "do_row" g:=by
  rintro j C g ⟨rfl,rfl⟩
  exact qV W3.cls ⟨Z9,Qw.fn,Qw.kp⟩ (J6 adb) (Nk adb (aht (j+2)) (ahu (j+2)) (afp j) (ahv (j+2)) (mIn j)) (tK λ_=>JZ) (λds M Q ⟨k,B,h2,h3,q⟩=>by have:=Wl (K:=K) (k:=k) (by rw[B];exact u) ds M Q q;rw[B,h2,h3] at this;exact this)
 have ahx:ie l.prog w K mg cv 9 "run_over" ["store","place","inputs","steps"] (rN b i c):=OM (SO (k:=7) AZ Z Z2 (ahs 6) (acr 5) (aiO 4)) CJ (Kz u);have aiP:ie l.prog w K mg cv 10 "run_names" ["parts","start","inputs","steps"] (kQ b i c):=OM (P6 (k:=8) yH aiM (afn 7) ahx nNR (mkN 7)) AO IY;have ahy:ie l.prog w K mg cv 10 "_law_cell_at" ["_law_script","_law_k"] (cl NG):=kY (Kj sQ Z) Qm abX;have afq:∀j,ie l.prog w K mg cv (j+1) "_law_mixed" ["_law_cell","_law_k"] (cl ze):=λj=>kY (Qa wI) Mx YH;have aan:∀j,ie l.prog w K mg cv (j+2) "_law_parts" ["_law_cell","_law_sizes"] (cl CD):=λj=>kY (Qc wJ Z (afq j)) NH ZF;have afr:∀j,ie l.prog w K mg cv (j+1) "_law_kinds" [] (cl FR):=λj=>kY (Qe wK) NI ZG;have ahz:∀j,ie l.prog w K mg cv (j+1) "_law_goes_on" ["_law_kind"] (cl vW):=λj=>kY (Km sR) jN abY;have ahA:∀j,ie l.prog w K mg cv (j+3) "_law_skeleton" ["_law_cell","_law_most"] (cl AN):=λj=>kY (Iz qS Z (aan j) (afr (j+1)) (ahz (j+1))) Qp ab1;have ahB:∀j,ie l.prog w K mg cv (j+1) "_law_name" ["_law_p","_law_k"] (cl k8):=λj=>kY (SU yI) Qn abZ;have acs:∀j,ie l.prog w K mg cv (j+1) "_law_number" ["_law_more"] (cl CG):=λj=>kY (Nq ux) Kw WI;have ahC:∀j,ie l.prog w K mg cv (j+1) "_law_gone" ["_law_kind","_law_b","_law_name_here"] (cl NJ):=λj=>kY (SX yJ) Qo ab0;have act:∀j,ie l.prog w K mg cv (j+2) "_law_filled" ["_law_row","_law_code","_law_numbers","_law_tables"] kK:=λj=>OM (Nt uy Z (acs j) (ahC j)) Ky WL;have acu:∀j,ie l.prog w K mg cv (j+1) "_law_no_code" ["_law_rows"] (cl vn):=λj=>kY (Kq sS) Kx WJ;have ahD:ie l.prog w K mg cv 10 "_law_program" ["_law_cells","_law_most"] (cl zA):=kY (Ks (k:=9) sT Z (ahA 6) (acu 8) (ahB 8) (act 7)) IX Tk;have afs:ie l.prog w K mg cv 9 "_law_bare" ["_law_program_here"] (cl FQ):=kY (S0 yK) NE ZC;have aao:ie l.prog w K mg cv 9 "_law_places" ["_law_program_here"] (cl zw):=kY (Nw uz) IM S9;have aap:∀j,ie l.prog w K mg cv (j+1) "_law_row_at" ["_law_world","_law_name_here"] (Ax yx):=λj=>OM (Nz uA) (NC λ_=>Kv) (λds M Q ⟨k,q⟩=>WH ds M Q q);have aft:∀j,ie l.prog w K mg cv (j+2) "_law_plain_step" ["_law_world","_law_row","_law_boxes"] (Ax FP):=λj=>OM (DZ oZ Z (aap j)) (NC λ_=>ND) (λds M Q ⟨k,q⟩=>Zz ds M Q q);have ahE:ie l.prog w K mg cv 9 "_law_step" ["_law_world","_law_here","_law_boxes"] (Ax IL):=OM (S6 (k:=8) yL Z (aap 7) (aft 6)) (NC λ_=>Qj) (λds M Q ⟨k,q⟩=>abS ds M Q q);have ahF:ie l.prog w K mg cv 10 "_law_run" ["_law_program_here","_law_start","_law_inputs","_law_steps"] (cl AM):=kY (WE (k:=9) A0 Z aao afs ahE) Qk abW;have afu:ie l.prog w K mg cv 10 "_law_right" ["_law_found","_law_due"] (WV rO):=hasB (Qi (k:=9) wL Z) NR ZT;have hL:=Df F acW.2 IK.2 oT (λiC A dk s H E hr=>ag7 (P:=l.prog) (w:=w) (cv:=cv) (k:=10) Z (aan 8) ahy ahD ahF aiP afu fa iC A dk s H E hr);exact hL.imp λvs H Q E ⟨F,α,M,ds,o,r,n,q⟩=>⟨F,α,M,ds,o,r,n,afg _ _ q⟩
end uG
open PySem PySem.W PyProof.Rows
local macro_rules | `(tactic| walk_at "h") => `(tactic| (refine' L2.XH (by assumption) (by assumption) ?a ?l ?c ?k; (case a => k_is); (case l => k_is); (case c => k_is); (case k => k_is)))
local macro_rules | `(tactic| walk_at "f") => `(tactic| (refine' FJ.agU ?l ?c ?k ?i; (case l => k_is); (case c => k_is); (case k => k_is); (case i => k_is)))
local macro_rules | `(tactic| walk_at "i") => `(tactic| (refine' ⟨⟨?a1, ?a2, ?a3, ?a4, ?a5, ?a6, ?a7, ?a8, ?a9, ?a10⟩, ?b1, ?b2, ?b3, ?b4, ?b5, ?b6⟩; (case a1 => k_is); (case a2 => k_is); (case a3 => k_is); (case a4 => k_is); (case a5 => k_is); (case a6 => k_is); (case a7 => k_is); (case a8 => k_is); (case a9 => k_is); (case a10 => k_is); (case b1 => k_is); (case b2 => k_is); (case b3 => k_is); (case b4 => k_is); (case b5 => k_is); (case b6 => k_is)))
local macro_rules | `(tactic| walk_at "g") => `(tactic| (refine' ⟨?a1, ?a2, ?a3, ?a4, ?a5, ?a6, ?a7, ?a8, ?a9, ?a10⟩; (case a1 => k_is); (case a2 => k_is); (case a3 => k_is); (case a4 => k_is); (case a5 => k_is); (case a6 => k_is); (case a7 => k_is); (case a8 => k_is); (case a9 => k_is); (case a10 => k_is)))
local macro_rules | `(tactic| walk_at "j") => `(tactic| (refine KTD.Rows.cons rfl ?_ ?_; focus (refine' FJ.aeK ?va ?vb ?vc ?vd ?ve; (case va => k_is); (case vb => rfl); (case vc => rfl); (case vd => exact ab rfl); (case ve => (repeat (first | exact FJ.YJ | refine FJ.V5 ?_))))))
namespace PySem.W.Fast
def tw18079726386133942752:=0
def tw16080997782808697953:=0
def tw4083648072541420769:=0
def tw4331298260233344130:=0
def tw10316788263137673509:=0
def tw616800438351034888:=0
def tw948992963894348201:=0
def tw10363150105416179433:=0
def tw11126253620770363627:=0
def tw2490746912838276523:=0
def tw6595024715339037868:=0
def tw4795609846661609932:=0
def tw4897054196949586349:=0
def tw2594037202129921965:=0
def tw6660584742455823472:=0
def tw2887122950995255699:=0
def tw5282698346211240341:=0
def tw5269140512657473622:=0
def tw5202032549078641334:=0
def tw8579941639647511736:=0
def tw18372106283417030872:=0
def tw899904694769580984:=0
def tw7896352447464992569:=0
def tw2611281430434155579:=0
def tw6095473575850133212:=0
def tw2698133776432699613:=0
def tw844063017015417278:=0
def tw18132568916128224926:=0
def tw12879866410768198366:=0
def tw9877447531524999966:=0
def tw241011669544526495:=0
def tw15999612177690466076:=0
def tw6635140013155258535:=0
def tw16692101482028576766:=0
def tw6633108243220024116:=0
def tw5128648408918529825:=0
def tw6786697140151876884:=0
def tw5736535841373718605:=0
def tw255477422928020070:=0
def tw7887931888210113394:=0
def tw5161800464432994433:=0
def tw11763739595921663368:=0
def tw8986284005187667981:=0
def tw1824801800751952779:=0
def tw17929167964846661271:=0
def tw15868241090644978222:=0
def tw9711736532011627271:=0
def tw4024142637307788046:=0
def tw3199365628757081905:=0
def tw4581555516580012323:=0
def tw11710886268761952725:=0
def tw9333010330748478464:=0
def tw16436786083688546806:=0
def tw13022009584410228520:=0
def tw14602891002426629462:=0
def tw4699516559767732170:=0
def tw7566121599074834301:=0
def tw7498168525409029590:=0
def tw1584864545223991575:=0
def tw10036572627835264282:=0
def tw6763199157951348009:=0
def tw7824023328118963852:=0
def tw4957529771266565157:=0
def tw4534179190414851371:=0
def tw7728831141254987168:=0
def tw14324410771205831768:=0
def tw9846489885617820289:=0
def tw6484060517139958581:=0
def tw629640872175900733:=0
def tw13468430800092891682:=0
def tw12778872912820358785:=0
def tw10793501881566991245:=0
def tw3552508553291774483:=0
def tw16479690123666746034:=0
def tw2864089202738804990:=0
def tw17980266041688919773:=0
def tw2928207863916099786:=0
def tw12825065211799462623:=0
def tw5956846139711901868:=0
def tw15884660111042851633:=0
def tw527362303573241922:=0
def tw15792559700109194902:=0
def tw1238728428423375437:=0
def tw3228613607575892103:=0
def tw15802967962986427739:=0
def tw17256491359843887339:=0
def tw1270814705015413721:=0
def tw15651237299339629774:=0
def tw6827685124574044356:=0
def tw15444079987008059062:=0
def tw7735096175785229536:=0
def tw597399390530325443:=0
def tw7223461065394319247:=0
def tw8295855840465259082:=0
def tw6289818045701733474:=0
def tw1672211126074262372:=0
def tw13364606618531149541:=0
def tw6854370188640324751:=0
def tw8585205385180716638:=0
def tw9674154593929023779:=0
def tw7823064096639165358:=0
def tw7437580328742937458:=0
def tw18027850568444382091:=0
def tw13847635177793783702:=0
def tw3227369441392489046:=0
def tw6868564721713515354:=0
def tw4782354531470817392:=0
def tw14686638796887952099:=0
def tw6524096419106569940:=0
def tw16973392948869874844:=0
def tw7323257488280124541:=0
def tw12008682652965254737:=0
def tw16671420380517048422:=0
def tw15126974647832251894:=0
def tw12493340528616334931:=0
def tw12642486591712441771:=0
def tw1901624691652609119:=0
def tw12407605390089994811:=0
def tw11423383178394583586:=0
def tw8255744515891219335:=0
def tw2016428996555897897:=0
def tw12592998949120285016:=0
def tw2931128956987226911:=0
def tw11800881107418156646:=0
def tw16579530176586619520:=0
def tw13216915916996946437:=0
def tw966828818040946541:=0
def tw6764361843209279840:=0
def tw13712440251920530265:=0
def tw13496311400085562412:=0
def tw3108927007019524609:=0
def tw5101138184432649069:=0
def tw13269711854052439761:=0
def tw4640118992649750492:=0
def tw7372306493815856726:=0
def tw10076350696731447082:=0
def tw10492369487909012429:=0
def tw10927939220390309596:=0
def tw3029719676896923364:=0
def tw650789988353729772:=0
def tw13013341812302046809:=0
def tw16060517969644838868:=0
def tw16452952884694593677:=0
def tw3847628261049185313:=0
def tw996178148639986053:=0
def tw3025456414195416851:=0
def tw14692450308292802220:=0
def tw16719437200335618093:=0
def tw16890522701788267485:=0
def tw12719524514762826229:=0
def tw17140159895066228884:=0
def tw402255846512096985:=0
def tw1248592338231904417:=0
def tw6544741105331830477:=0
def tw17272326351816940452:=0
def tw12194859201744524823:=0
def tw17599719873260676318:=0
def tw521797476992512812:=0
def tw13553933924434660229:=0
def tw8667161526528662554:=0
def tw5009825063111866954:=0
def tw6474480056687025853:=0
def tw5245971503116210483:=0
def tw6594773756595910656:=0
def tw15642166593012954909:=0
def tw162491270711118302:=0
def tw10118750081995432756:=0
def tw6079744020692343908:=0
def tw76447404200478150:=0
def tw14468283876513421555:=0
def tw4754020941976548795:=0
def tw15750807962883854882:=0
def tw3430757408378794956:=0
def tw17183398175479027020:=0
def tw3564998529502008536:=0
def tw1457783206400051589:=0
def tw7874306799913258941:=0
def tw3290871876414889004:=0
def tw6901107649628778683:=0
def tw3459896119365089740:=0
def tw4881125417278192963:=0
def tw5606025270121394584:=0
def tw6022949893693973459:=0
def tw13844954626771009792:=0
def tw10670138585149399869:=0
def tw3695034399530681307:=0
def tw10642272306133569981:=0
def tw14905846867487230931:=0
def tw8266603041671530684:=0
def tw13712856216118203179:=0
def tw10660556706774147072:=0
def tw16270211021177824744:=0
def tw11966143732146462984:=0
def tw5037993462055503722:=0
def tw14463503273741450925:=0
def tw7198142980701806724:=0
def tw13655039836447984834:=0
def tw5234341818198013797:=0
def tw14329841571008866850:=0
def tw1698102170180424866:=0
def tw8456237852947258776:=0
def tw2793453589237819873:=0
def tw18090251149115162439:=0
def tw14095054032246022714:=0
def tw16319707722070794756:=0
def tw2484553113381674073:=0
def tw10940159383233036243:=0
def tw10134210547840716910:=0
def tw15178686876178135107:=0
def tw17312564627436743473:=0
def tw18346227737672447413:=0
def tw9068846536530515309:=0
def tw10630291071339250712:=0
def tw13377474972926576561:=0
def tw17882692621831019569:=0
def tw18352017888929910569:=0
def tw5619969252169101550:=0
def tw4399161369082912936:=0
def tw6496818219687831705:=0
def tw15037964048497526988:=0
def tw8566257217688556329:=0
def tw10535658542425540693:=0
def tw8687178377716826775:=0
def tw12363295488227942484:=0
def tw13813509107734698914:=0
def tw7439982358087077804:=0
def tw11881368491561861146:=0
def tw12804774012807569974:=0
def tw13232330213877719100:=0
def tw2797614991112874579:=0
def tw8109296092966287953:=0
def tw3959136898400896925:=0
def tw3223677831277674569:=0
def tw842008368618992260:=0
def tw14421909722430856898:=0
def tw1993817497838006880:=0
def tw7918831168167408160:=0
def tw6008194851915299948:=0
def tw101537531914665103:=0
def tw5353487625596649643:=0
def tw8263303452239061197:=0
def tw13325607695706157860:=0
def tw13872485974826401314:=0
def tw285872928920331773:=0
def tw12829969933410797743:=0
def tw2531918697930980509:=0
def tw14935453141522386439:=0
def tw16646318964564320736:=0
def tw348577514967926478:=0
def tw6347232447879890968:=0
def tw13586933704951051760:=0
def tw2401410616511883220:=0
def tw729782035345816784:=0
def tw6832179319705093669:=0
def tw14698253422712791252:=0
def tw1526960225560768588:=0
def tw2984160975148655629:=0
def tw16655909816465750705:=0
def tw13070713897403275554:=0
def tw16988663936576650090:=0
def tw4981400633586460762:=0
def tw7961571346097238866:=0
end PySem.W.Fast
set_option maxRecDepth 100000 in
set_option maxHeartbeats 0 in
theorem PySem.Challenge.cw_farjump_k11_runs_holds : PySem.Challenge.rw_farjump_k11_runs.Holds := by
 w_on;o_law;k_head;(case hw=>w_witness2)
 k_fill
 refine' L3.agM (l:=PySem.Challenge.rw_farjump_k11_runs) (g:=uG.UU) (k:=11) (x:="_law_script") rfl rfl ⟨rfl,by decide,by decide,rfl⟩ (λw h Y=>PySem.W.km_in_of Y) ?aeF ?ht ?nt uG.Tl (λns _=>⟨ns,rfl,rfl⟩) ?F
 case aeF=>first|exact(Option.some_get (by kernel_rfl)).symm|rfl
 case ht=>intro w;first|kernel_rfl|rfl
 case nt=>intro w;first|kernel_rfl|rfl
 case F=>
  intro w mg fa h KX G hmg
  refine' uG.all_mk KX G hmg ?yz ?CM ?Tq ?Jb ?Tr ?AS ?Ts ?AT ?qD ?yA ?Jc ?nNR ?Z2 ?CO ?NT ?CP ?NU ?wC ?NV ?wD ?oU ?wE ?acj ?Z3 ?Ea ?NW ?Eb ?mw ?yB ?vo ?vp ?wF ?CQ ?vq ?wG ?CS ?cfN ?Z4 ?Z5 ?Z6 ?Z7 ?UY ?Qt ?Qu ?Qv ?NX ?Ec ?W3 ?Z8 ?Z9 ?aab ?aac ?aad ?aae ?aaf ?aag ?UZ ?Qw ?Qx ?Qy ?Qz ?QC ?QD ?QH ?Jd ?Ed ?NY ?Je ?NZ ?AU ?Tt ?tb ?mx ?my ?sM ?mz ?kL ?j2 ?oV ?qE ?oW ?qF ?oX ?QJ ?Jf ?QK ?QL ?QM ?CT ?Jg ?QN ?QP ?QQ ?qG ?yC ?Jh ?CU ?AV ?Ee ?rP ?N0 ?Ji ?AW ?Jj ?pL ?uv ?sN ?Ef ?yD ?Eg ?oY ?nK ?yE ?Eh ?qQ ?AX ?sO ?pN ?yF ?qR ?yG ?AY ?wH ?sP ?Jk ?uw ?AZ ?yH ?sQ ?wI ?wJ ?wK ?sR ?qS ?yI ?ux ?uy ?yJ ?sS ?sT ?yK ?uz ?uA ?oZ ?yL ?A0 ?wL ?aah ?A1 ?Ei ?A2 ?Ej ?yM ?Ek ?yN ?uB ?yO ?A3 ?El ?A4 ?Em ?yP ?En ?yQ ?uC ?yR ?uD ?wM ?uE ?wN ?sU ?wO ?sV ?pO ?sW ?yS ?A5 ?yT ?A6 ?wP ?A7 ?wQ ?sX ?wR ?afh
  (case yz|CM|Tq|Jb|Tr|AS|Ts|AT|qD|yA|Jc|nNR|Z2=>k_is)
  (case CO|NT|CP|NU|wC|NV|wD|oU|wE=>walk_at "i")
  (case acj|Z3|Ea|NW|Eb|mw|yB|vo|vp|wF|CQ|vq|wG|CS=>walk_at "f")
  (case cfN=>walk_at "g")
  (case Z4|Z5|Z6|Z7=>k_is)
  (case UY|Qt|Qu|Qv=>walk_at "f")
  (case NX|Ec=>k_is)
  (case W3=>walk_at "g")
  (case Z8|Z9|aab|aac|aad|aae|aaf|aag=>k_is)
  (case UZ|Qw|Qx|Qy|Qz|QC|QD|QH=>walk_at "f")
  (case Jd|Ed|NY|Je|NZ|AU|Tt|mx|my|sM|mz|kL|j2|oV|qE|oW|qF|oX|QJ|Jf|QK|QL|QM|CT|Jg|QN|QP|QQ|qG|yC|Jh|CU=>k_is)
  (case AV|Ee|rP|N0|Ji|AW|Jj|pL|uv|sN|Ef|yD|Eg|oY|nK|yE|Eh|qQ|AX|sO|pN|yF|qR|yG|AY|wH|sP|Jk|uw|AZ|yH|sQ|wI|wJ|wK|sR|qS|yI|ux|uy=>walk_at "h")
  (case yJ|sS|sT|yK|uz|uA|oZ|yL|A0|wL|aah=>walk_at "h")
  (case A1|Ei|A2|Ej|yM|Ek|yN|uB|yO|A3|El|A4|Em|yP|En|yQ|uC|yR|uD|wM|uE|wN|sU|wO|sV|pO|sW|yS|A5|yT|A6|wP|A7|wQ|sX|wR|afh=>rfl)
  case tb=>
   refine' FJ.aeL ?tlo ?tl ?tc ?td ?tr
   case tl=>k_is
   case tlo=>rfl
   case tc=>exact⟨rfl,rfl,rfl⟩
   case td=>rfl
   case tr=>
    iterate 16 walk_at "j"
    exact KTD.Rows.nil
#print axioms PySem.Challenge.cw_farjump_k11_runs_holds
