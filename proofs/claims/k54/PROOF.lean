import PyProof.Rows.All
import Wide.All
import OpenK.AllK
import Wide.FinOn
import Lean
import PyProof.EqAt
import PyProof.EqKinds
import PyProof.TupleCall
import KE.KSortTup
import KE.KPairComp
import PyProof.P3Eq
import PyProof.DictWalks
import KE.KDictSum
import PyProof.StationsW
import PyProof.ExcClass2
import PyProof.ExcBaseAll.ValueError
import PyProof.RulesTry
import PyProof.RulesAs
import PyProof.NsDelKeeps
import PyProof.ExcAttrAll.ValueError
import KE.KIsAll
import PyProof.ReprRoads
import PyProof.FitsInt
import PySem.Challenge.RW_farjump_k54_what_the_machine_refuses
set_option Elab.async false
set_option linter.all false
set_option maxRecDepth 100000
theorem zE1{A:Sort _}{p:A->Prop}{G:Prop}(h:∃a,p a)(k:∀a,p a->G):G:=h.elim k
theorem zE2{A:Sort _}{B:Sort _}{p:A->B->Prop}{G:Prop}(h:∃a b,p a b)(k:∀a b,p a b->G):G:=zE1 h λa h=>zE1 h (k a)
theorem zE3{A:Sort _}{B:Sort _}{C:Sort _}{p:A->B->C->Prop}{G:Prop}(h:∃a b c,p a b c)(k:∀a b c,p a b c->G):G:=zE1 h λa h=>zE2 h (k a)
theorem zE4{A:Sort _}{B:Sort _}{C:Sort _}{D:Sort _}{p:A->B->C->D->Prop}{G:Prop}(h:∃a b c d,p a b c d)(k:∀a b c d,p a b c d->G):G:=zE1 h λa h=>zE3 h (k a)
theorem zE5{A:Sort _}{B:Sort _}{C:Sort _}{D:Sort _}{E:Sort _}{p:A->B->C->D->E->Prop}{G:Prop}(h:∃a b c d e,p a b c d e)(k:∀a b c d e,p a b c d e->G):G:=zE1 h λa h=>zE4 h (k a)
theorem zE6{A:Sort _}{B:Sort _}{C:Sort _}{D:Sort _}{E:Sort _}{F:Sort _}{p:A->B->C->D->E->F->Prop}{G:Prop}(h:∃a b c d e f,p a b c d e f)(k:∀a b c d e f,p a b c d e f->G):G:=zE1 h λa h=>zE5 h (k a)
theorem zA2{p q G:Prop}(h:p/\q)(f:p->q->G):G:=f h.1 h.2
theorem zA3{p q r G:Prop}(h:p/\q/\r)(f:p->q->r->G):G:=zA2 h.2 (f h.1)
theorem zA4{p q r s G:Prop}(h:p/\q/\r/\s)(f:p->q->r->s->G):G:=zA3 h.2 (f h.1)
theorem zA5{p q r s t G:Prop}(h:p/\q/\r/\s/\t)(f:p->q->r->s->t->G):G:=zA4 h.2 (f h.1)
theorem zA6{p q r s t u G:Prop}(h:p/\q/\r/\s/\t/\u)(f:p->q->r->s->t->u->G):G:=zA5 h.2 (f h.1)
theorem zA7{p q r s t u v G:Prop}(h:p/\q/\r/\s/\t/\u/\v)(f:p->q->r->s->t->u->v->G):G:=zA6 h.2 (f h.1)
theorem zA8{p q r s t u v w G:Prop}(h:p/\q/\r/\s/\t/\u/\v/\w)(f:p->q->r->s->t->u->v->w->G):G:=zA7 h.2 (f h.1)
theorem zA9{p q r s t u v w x G:Prop}(h:p/\q/\r/\s/\t/\u/\v/\w/\x)(f:p->q->r->s->t->u->v->w->x->G):G:=zA8 h.2 (f h.1)
theorem zA10{p q r s t u v w x y G:Prop}(h:p/\q/\r/\s/\t/\u/\v/\w/\x/\y)(f:p->q->r->s->t->u->v->w->x->y->G):G:=zA9 h.2 (f h.1)
theorem zI2{A:Sort _}{B:Sort _}{p:A->B->Prop}(a:A)(b:B)(h:p a b):∃a b,p a b:=⟨a,b,h⟩
theorem zI3{A:Sort _}{B:Sort _}{C:Sort _}{p:A->B->C->Prop}(a:A)(b:B)(c:C)(h:p a b c):∃a b c,p a b c:=⟨a,b,c,h⟩
theorem zI4{A:Sort _}{B:Sort _}{C:Sort _}{D:Sort _}{p:A->B->C->D->Prop}(a:A)(b:B)(c:C)(d:D)(h:p a b c d):∃a b c d,p a b c d:=⟨a,b,c,d,h⟩
theorem zI5{A:Sort _}{B:Sort _}{C:Sort _}{D:Sort _}{E:Sort _}{p:A->B->C->D->E->Prop}(a:A)(b:B)(c:C)(d:D)(e:E)(h:p a b c d e):∃a b c d e,p a b c d e:=⟨a,b,c,d,e,h⟩
open Lean in
local macro_rules
|`(tactic|rcases $h:ident with ⟨$ps,*⟩)=>`(tactic|obtain ⟨$ps,*⟩:=$h)
|`(tactic|rintro $rs:rintroPat*)=>do
 let l:=rs[rs.size-1]!.raw[0]
 unless l.isOfKind ``Parser.Tactic.rcasesPat.tuple do Macro.throwUnsupported
 let p:TSyntax `rcasesPat:=⟨l⟩
 let z:=mkIdent (<-Macro.addMacroScope `zz)
 let r:=rs.pop
 if r.size==0 then `(tactic|(intro $z:ident;obtain $p:rcasesPat := $z)) else `(tactic|(rintro $r*;intro $z:ident;obtain $p:rcasesPat := $z))
|`(tactic|exact ⟨$es,*⟩)=>do if es.getElems.size<3 then Macro.throwUnsupported else `(tactic|refine ⟨$es,*⟩)
|`(tactic|refine ⟨$es,*⟩)=>do
 let es:=es.getElems
 let n:=es.size
 if n<3 then Macro.throwUnsupported
 let m:=min 5 (n-1)
 let mut al:Array (TSyntax `tactic):=#[]
 for z in [0:m-1] do
  let i:=m-z
  let r:=es[i:n].toArray
  let q<-if r.size==1 then pure r[0]! else `(⟨$r,*⟩)
  al:=al.push (<-`(tactic|refine $(mkIdent (.mkSimple s!"zI{i}")) $(es[0:i].toArray)* $q))
 `(tactic|first $[|$al:tactic]*)
|`(tactic|obtain ⟨$ps,*⟩:=$h:term)=>do
 let ps:=ps.getElems
 let n:=ps.size
 if n<2 then Macro.throwUnsupported
 let nw(s:String):MacroM Ident:=do return mkIdent (<-Macro.addMacroScope (.mkSimple s))
 unless h.raw.isIdent do
  let t<-nw "zz"
  return <-`(tactic|(have $t := $h;obtain ⟨$ps,*⟩:=$t))
 let h:Ident:=⟨h.raw⟩
 let mut bs:Array Ident:=#[]
 let mut mo:Array (Option (TSyntax `tactic)):=#[]
 let sh(q:Syntax):String:=(q.reprint.getD "").trimAscii.toString
 for i in [0:n] do
  let q:=ps[i]!.raw
  let o:=(q.find? λs=>s.isOfKind ``Parser.Tactic.rcasesPat.one).getD .missing
  if sh o==sh q&&sh q != "rfl" then
   bs:=bs.push ⟨o[0]⟩
   mo:=mo.push none
  else
   let x<-nw s!"x{i}"
   bs:=bs.push x
   if sh q=="_" then mo:=mo.push none
   else
    let p:TSyntax ``Parser.Tactic.rcasesPatMed:=⟨q[0]⟩
    mo:=mo.push (some (<-`(tactic|obtain $p:rcasesPatMed := $x)))
 let t<-nw "xx"
 let y<-nw "yy"
 let mut al:Array (TSyntax `tactic):=#[]
 let k:=((List.range n).find? λi=>((sh ps[i]!.raw).splitOn "rfl").length>1).getD n
 for (c,m) in [("zE",min 6 (n-1)),("zA",min 10 n-1)] do
  let m:=min m (k+1)
  for z in [0:m] do
   let i:=m-z
   let w:=i+1==n&&k+1>=n
   let mut ws:Array (TSyntax ``binderIdent):=#[]
   let mut hit:=false
   let mut g:Array Ident:=#[]
   for x in if w then bs else bs[0:i].toArray.push t do
    if x.getId==h.getId then
     hit:=true
     ws:=#[<-`(binderIdent|$x:ident)]
     g:=g.push y
    else
     if x.getId.hasMacroScopes then ws:=ws.push (<-`(binderIdent|_))
     g:=g.push x
   let mut s:Array (TSyntax `tactic):=#[<-`(tactic|refine $(mkIdent (.mkSimple s!"{c}{if c=="zE" then i else i+1}")) $h fun $g* => ?_),<-`(tactic|try clear $h)]
   if hit then s:=s.push (<-`(tactic|rename_i $ws*))
   for j in [0:if w then n else i] do
    if let some y:=mo[j]! then s:=s.push y
   unless w do
    let r:=ps[i:n].toArray
    if r.size==1 then
     s:=s++#[<-`(tactic|have $(bs[n-1]!) := $t),<-`(tactic|clear $t)]
     if let some y:=mo[n-1]! then s:=s.push y
    else s:=s.push (<-`(tactic|obtain ⟨$r,*⟩:=$t))
   al:=al.push (<-`(tactic|($[$s:tactic];*)))
 `(tactic|first $[|$al:tactic]*)
noncomputable section
open Option renaming some->aa,none->ak
open PySem renaming Value->ae,Addr->af,Shared->ag,wpAny_bind->aj,Program->ao,Heap->aq,Str->ar,starEach->av,Around->ay,wpAny_pure->az,World->aE,sizeLine->aH,Expr->aM,mainGlobals->aZ,Stmt->br,FuncData->bz,Builtin->bD,Obj->bE,Scope->bJ,backTo->bN,wpAny_mono->bR,wpAny_field->bX,wpAny_Call_Name_kw->b2,NameKind->b3,wpAny_holding->b6,bootBuiltins->b8,wpAny_loadPart_at->b9,wpAny_setField->cb,wpAny_newObj_type->ci,codeAny_mono->cr,Pos->cu,Env->cz,excClassObj->cA,assignEach->cD,attributeBase->cE,rawInt->cJ,PyData->cK,wpAny_call->cM,noteFrame->cT,swapsWith->cW,setFlight->cY,wpAny_isSubtype_exc->c5,wpAny_standAt->c6,bindArgs->c7,keywordEach->de,wpAny_truthy_bool->dj,foldedSetIterable->dk,sliceBounds->dD,codeAny_call_builtin->dF,wpAny_execs_nil->dJ,wpAny_passesOwn->dL,strIterType->dW,Operator->ee,Arguments->ef,backToKw->eg,sysModules->el,BindsTo->eo,Keyword->et,sizeLine_eq->eA,recursionLimit->eB,cLine->eC,standAt->eF,getItem->eG,getMethod->eH,CmpOp->eI,behindInMarks->eJ,Result->eK,wpAny_entryPlaceOf->eL,GenState->eM,valueAt->eN,callerA->eO,wpAny_frameOf_fun->eP,ExcBaseFacts->eQ,plainObj_wpAny_Assign_Attribute->eR,wpAny_execs_cons->eS,PassesOwn->eT,wpAny_lookBehind->eU,pastItsLine_dict->eV,IsPart->eW,IsRangeIter->eX,seqIndex_of->eY,notedBy->eZ,Model->fb,wpAny_loadPart->fe,wpAny_newFunctionEnv_cells->fg,isInstance->fh,swapsWithSole->fi,swappedStores->fj,wpAny_attempt->fm,tupleKind->fu,lastMarks->fw,bindL->fB,bindC->fC,cellsFrom->fD,raiseStmt->fE,isTrue->fF,setItem->fH,pyIter->fJ,wpAny_pyNext_range_end->fM,wpAny_pyIter_rangeiter->fN,wpAny_nsSet1->fO,wpAny_getItem_list_neg->fQ,entryPlaceOf->fS,codeAny_call_function->fU,codeAny_handlers_test->fV,atKey->fX,callWith->fY,SetTable->fZ,unbindBehindTheSuite->f6,wpAny_handleBy_cons->f7,builtinsNs->f8,Sem->f9,wpAny_Name->gc,wpAny_pyIter_range->gf,tupleKind_room_in1->gg,typeIs_str->gi,typeIs_int->gj,call_meets->gk,Tok->gm,Drawn->gn,Walks->zJ,getAttr->aap,setAttr->aaq,slot_list_getitem->aar,OsState->aas,inplaceOp->aat,noFill_tuple_add->aau,newFields->aav,onTheHeap->aaw,callGetattribute->aax,wpAny_Try_except->aay,typeOf->aaA,Params->aaB,setField->aaC,boundAndCalled->aaD,arm_exec_Raise->aaE,intBits_le_64->aaG,seq_tuple_add->aaH,evalPart_none->aaI,call_list_seq->aaJ
open Bool renaming true->ah,false->ai,false_ne_true->ap,and_eq_true->aP,false_eq_true->cZ,eq_iff_iff->dX
open Nat renaming le_of_ble_eq_true->am,lt_of_lt_of_le->aB,le_trans->aT,le_refl->bf,ne_of_lt->bM,lt_irrefl->b5,zero_le->cU,le_of_eq->c8,ne_of_gt->dB
open PySem.Heap renaming get?_push_of_some->au,get?_update_other->aw,lt_size->aJ,get?_push_size->bg,get?_update_self->bq,get?_none_of_le->bZ,size_after_update->cj,size_push->cS
open List renaming length_cons->ax,getElem?_eq_some_iff->aC,size_toArray->aO,prefix_refl->aQ,length_map->aR,replicate->aU,mem_cons_of_mem->aX,mem_append_right->aY,mem_cons->ba,getElem?_append_left->bb,mem_cons_self->bd,mem_append->bi,append_nil->bj,mem_singleton->bv,length_append->bw,mem_append_left->bC,getElem?_set_ne->bH,getElem?_map->bQ,mem_of_getElem?->bT,getElem?_set_self->bU,map_cons->bW,prefix_append->bY,replicate_succ->cf,lookup_cons->cn,length_nil->cw,flatten_cons->cx,length_eq_zero_iff->cB,find?_cons->cX,range->dg,length_take->dh,length_drop->di,any_cons->dm,all_cons->dq,lookup->dt,nil_append->dz,set_cons_succ->dG,zip_cons_cons->dH,getD_eq_getElem?_getD->dI,drop_eq_getElem_cons->dM,append_assoc->dN,all_eq_true->dR,nodup_cons->dY,of_mem_zip->dZ,map_append->ed
open PySem.Value renaming ref->aD,none->aV,builtin->ck,bool->dU
open PySem.Obj renaming mapFields->aS,data_mapFields->bF,isFreed_of_fields->bP
open Option.some renaming inj->bh
open False renaming elim->bu
open Int renaming lt_or_le->bA,toNat_natCast->dO
open Array renaming getElem?_eq_some_iff->bB,getElem?_setIfInBounds->du
open Ne renaming symm->bG
open PySem.Builtin.Range renaming rangeSize->bI,small->dQ
open PySem.SeqAt renaming EqAt->bO
open Eq renaming trans->bV
open PySem.Builtin.ObjectAttr renaming storeInDict->cq,newKeyGuard->dS
open PySem.EntryCells renaming newEntry->cv
open PyProof.Rows renaming envOfC->cy,slot_tuple_getitem->cV,callWith_type1->c9,AllBare->dA,subscriptTail->fk,IsTup->fq,subscriptTail_builtinR->fP,IntsAre->fR,slicePart_none->aaz,Constant_none->aaF
open Or renaming inr->cG,inl->df
open PySem.NameKind renaming free->cI,cell->ej
open PySem.Builtin.Slice renaming slicePlaces->cL,sliceAdjust->dn
open PySem.Builtin.Tuple renaming tupleExact->cN
open Nat.succ renaming inj->cO
open True renaming intro->cQ
open PySem.Builtin.List renaming listTooLong->dw
open ForInStep renaming yield->dP
open Prod renaming fst->ek
namespace L2
open PySem PySem.Spec PyProof.Rows
abbrev Key:=Sum Int ar
noncomputable def yz:Key->ae->Bool
 |.inl k,v=>ae.isInt k v
 |.inr x,v=>ae.isStrOf x v
noncomputable def VL(w:aE):Key->Int
 |.inl k=>hashInt k
 |.inr x=>hashStr w x
theorem je:∀{k:Key} {v:ae},yz k v=ah->(∃i t,k=Sum.inl i/\v=ae.int i t)\/(∃x t,k=Sum.inr x/\v=ae.str x t)
 |.inl i,v,h=>by obtain⟨t,e⟩:=ae.isInt_shape (k:=i) (v:=v) h;exact .inl ⟨i,t,rfl,e⟩
 |.inr x,v,h=>by obtain⟨t,e⟩:=ae.isStrOf_shape (x:=x) (v:=v) h;exact .inr ⟨x,t,rfl,e⟩
theorem GI(i:Int)(t:gm):yz (.inl i) (.int i t)=ah:=by simp[yz,ae.isInt]
theorem GJ(x:ar)(t:gm):yz (.inr x) (.str x t)=ah:=by simp[yz,ae.isStrOf]
theorem OR(a b:Int):decide ((Sum.inl a:Key)=Sum.inl b)=(a==b):=by
 by_cases e:a=b
 ·subst e;simp
 ·have h:¬(Sum.inl a:Key)=Sum.inl b:=λq=>e (Sum.inl.inj q);rw[decide_eq_false h];exact(beq_eq_false_iff_ne.mpr e).symm
theorem OS(a b:ar):decide ((Sum.inr a:Key)=Sum.inr b)=decide (a=b):=by
 by_cases e:a=b
 ·subst e;simp
 ·have h:¬(Sum.inr a:Key)=Sum.inr b:=λq=>e (Sum.inr.inj q);rw[decide_eq_false h,decide_eq_false e]
theorem OT(a:Int)(b:ar):decide ((Sum.inl a:Key)=Sum.inr b)=ai:=decide_eq_false (λq=>nomatch q)
theorem OU(a:ar)(b:Int):decide ((Sum.inr a:Key)=Sum.inl b)=ai:=decide_eq_false (λq=>nomatch q)
noncomputable def kE(prog:ao)(w:aE):PySem.KeyKind prog w Key where
 is:=yz
 hash:=VL w
 inj:=λv a b ha hb=>by
  rcases je ha with⟨i,t,rfl,rfl⟩|⟨x,t,rfl,rfl⟩
  ·rcases je hb with⟨j,u,rfl,e⟩|⟨y,u,rfl,e⟩
   ·injection e with e1 _;rw[e1]
   ·exact nomatch e
  ·rcases je hb with⟨j,u,rfl,e⟩|⟨y,u,rfl,e⟩
   ·exact nomatch e
   ·injection e with e1 _;rw[e1]
 byValue:=λk v h=>by rcases je h with⟨i,t,rfl,rfl⟩|⟨x,t,rfl,rfl⟩<;>rfl
 pyHash:=λhv h=>by
  rcases je hv with⟨i,t,rfl,rfl⟩|⟨x,t,rfl,rfl⟩
  ·exact wpAny_pyHash_int h
  ·exact wpAny_pyHash_str h
 eqBool:=λhu hv h=>by
  rcases je hu with⟨i,t,rfl,rfl⟩|⟨x,t,rfl,rfl⟩
  ·rcases je hv with⟨j,u,rfl,rfl⟩|⟨y,u,rfl,rfl⟩
   ·rw[OR] at h;exact wpAny_eqBool_int h
   ·rw[OT] at h;exact bO.int_str i t y u _ _ _ _ h
  ·rcases je hv with⟨j,u,rfl,rfl⟩|⟨y,u,rfl,rfl⟩
   ·rw[OU] at h;exact bO.str_int x t j u _ _ _ _ h
   ·rw[OS] at h;exact wpAny_eqBool_str h
 «strs»:=λk x t v h=>by
  rcases je h with⟨i,u,rfl,e⟩|⟨y,u,rfl,e⟩
  ·exact nomatch e
  ·injection e with e1 _;subst e1;cases v<;>rfl
theorem Bq(prog:ao)(w:aE)(i:Int)(t:gm):(kE prog w).is (.inl i) (.int i t)=ah:=GI i t
theorem Bs(prog:ao)(w:aE)(x:ar)(t:gm):(kE prog w).is (.inr x) (.str x t)=ah:=GJ x t
inductive V where
 |non|bl (b:Bool)|int (i:Int)|str (x:ar)|HS (b:Array UInt8)|RL (b:UInt64)|ref (a:af)|ty (n:String)
 deriving DecidableEq
def RelV:V->ae->Prop
 |.non,u=>u=aV
 |.bl b,u=>u=dU b
 |.int i,u=>∃t,u=ae.int i t
 |.str x,u=>∃t,u=ae.str x t
 |.HS b,u=>∃t,u=ae.bytes b t
 |.RL b,u=>∃t,u=ae.float b t
 |.ref a,u=>u=aD a
 |.ty n,u=>u=ae.type n
abbrev Vals:List V->List ae->Prop:=Paired RelV
theorem Vals.length{xs:List V}{us:List ae}(r:Vals xs us):xs.length=us.length:=Paired.length r
theorem Vals.get:∀{xs:List V} {us:List ae} {i:Nat} {x:V},Vals xs us->xs[i]?=aa x->∃u,us[i]?=aa u/\RelV x u
 |_,_,_,_,.nil,e=>by simp at e
 |_,_,0,_,.cons r _,e=>by simp at e;subst e;exact⟨_,rfl,r⟩
 |_,_,i+1,x,.cons _ t,e=>by obtain⟨u,h1,h2⟩:=Vals.get (i:=i) (x:=x) t (by simpa using e);exact⟨u,by simpa using h1,h2⟩
theorem Vals.set{x:V}{u:ae}(r:RelV x u):∀{xs:List V} {us:List ae} (i:Nat),Vals xs us->Vals (xs.set i x) (us.set i u)
 |_,_,_,.nil=>.nil
 |_,_,0,.cons _ t=>.cons r t
 |_,_,i+1,.cons q t=>.cons q (Vals.set r i t)
theorem Vals.append:∀{xs ys:List V} {us ws:List ae},Vals xs us->Vals ys ws->Vals (xs++ys) (us++ws)
 |_,_,_,_,.nil,s=>s
 |_,_,_,_,.cons r t,s=>.cons r (Vals.append t s)
theorem Vals.take:∀{xs:List V} {us:List ae} (n:Nat),Vals xs us->Vals (xs.take n) (us.take n)
 |_,_,0,_=>.nil
 |_,_,_+1,.nil=>.nil
 |_,_,n+1,.cons r t=>.cons r (Vals.take n t)
theorem Vals.drop:∀{xs:List V} {us:List ae} (n:Nat),Vals xs us->Vals (xs.drop n) (us.drop n)
 |_,_,0,r=>r
 |_,_,_+1,.nil=>.nil
 |_,_,n+1,.cons _ t=>Vals.drop n t
def mM:Option V->Option ae->Prop
 |some v,aa u=>RelV v u
 |none,ak=>True
 |_,_=>False
def KV {κ:Type}:List (κ×V)->List (κ×ae)->Prop:=Paired λ(p:κ×V) (q:κ×ae)=>p.1=q.1/\RelV p.2 q.2
noncomputable def kV:Key->V
 |.inl i=>.int i
 |.inr x=>.str x
inductive HO where
 /-- a list-/
 |lst (xs:List V)
 /-- a tuple (never changes)-/
 |tup (xs:List V)
 /-- a dict whose keys are ints and texts;one whose keys are tuples of ints and texts (the empty one is both)-/
 |dK (gZ:List (Key×V))|dT (gZ:List (List Key×V))
 /-- a set of ints:hX members,hX size-/
 |set (S:Int->Bool) (n:Nat)
 /-- an instance of the class at C,hX dict at dx,hX attributes-/
 |ins (C dx:af) (fs:List (ar×V))
 /-- the dict of the instance at x-/
 |own (x:af)
 /-- the dict of an exception-/
 |xd (fs:List (ar×V))
 /-- a bound method,f of x-/
 |met (f x:af)
 /-- a range object lo,lo+1,.. below hi-/
 |UT (lo hi:Int)
 /-- a thing Zw is known to the object (the VM;a dict while a loop walks it):read,never written while it is so-/
 |qv (o:bE) (u:HO)
 /-- a code R6 table-/
 |DR (ps:Array ae)
 |dE (ep:Nat) (gZ:List (Key×V))
 |xc (C:af) (fs:List (ar×V))
 /-- any other thing,by Zx is ah of hX one object (a def of Yk own:Zy a S n:=HO.ext λh=>..)-/
 |ext (φ:aq->Prop)
abbrev Hp:=af->Option HO
noncomputable def upd(H:Hp)(a:af)(o:HO):Hp:=λb=>if b=a then aa o else H b
theorem gF{H:Hp}{a:af}{o:HO}:upd H a o a=aa o:=by unfold upd;rw[if_pos rfl]
theorem gz{H:Hp}{a b:af}{o:HO}(h:b≠a):upd H a o b=H b:=by unfold upd;rw[if_neg h]
theorem jn{H:Hp}{a b:af}{o:HO}(h:H a=aa o)(h':H b=ak):a≠b:=by intro e;subst e;rw[h] at h';cases h'
section
variable (P:ao) (w:aE)
def iQ (H:Hp)(h:aq)(a:af):HO->Prop
 |.lst xs=>xs.length<=aH/\∃(hX:List ae) (n:Nat),Vals xs hX/\h.get? a=aa {cls:=.type "list",data:=.seq hX.toArray n}
 |.tup xs=>xs.length<=aH/\∃hX:List ae,Vals xs hX/\fq h a hX.toArray
 |.dK gZ=>gZ.length<=aH/\(a==el)=ai/\∃vs,KV gZ vs/\h.DictOf (kE P w) a vs
 |.dT gZ=>gZ.length<=aH/\(a==el)=ai/\∃xs:List (List Key×af×ae),
   Paired (λ(p:List Key×V) (q:List Key×af×ae)=>p.1=q.1/\H q.2.1=aa (.tup (p.1.map kV))/\RelV p.2 q.2.2) gZ xs/\
   ∃o es ep,h.get? a=aa o/\o.ExactDict/\o.data=.dict es ep/\es.toList=xs.map (entryOfKey (fu (kE P w)))/\(xs.map (·.1)).Nodup
 |.set S n=>h.SetOf (intKind P w) a S n
 |.ins C dx fs=>H dx=aa (.own a)/\fs.length<=1000/\dx≠a/\h.get? a=aa (W.instObj C dx)/\
   ∃mA,h.Ns1 dx mA/\(∀f,mM (fs.lookup f) (mA f))/\PySem.Within mA (fs.map (·.1))
 |.own _=>∃o,h.get? a=aa o
 |.xd fs=>∃mA,h.Ns1 a mA/\∀f,mM (fs.lookup f) (mA f)
 |.UT lo hi=>∃t u v,h.get? a=aa {cls:=.type "range",data:=.fields #[.int lo t,.int hi u,.int 1 v]}
 |.qv o u=>h.get? a=aa o/\iQ H h a u
 |.DR ps=>h.get? a=aa {cls:=.none,data:=.fields ps}
 |.dE ep gZ=>gZ.length<=aH/\(a==el)=ai/\∃vs,KV gZ vs/\h.DictAt (kE P w) a vs ep
 |.xc C fs=>∃oe vs,h.get? a=aa oe/\oe.cls=.ref C/\oe.data=.fields vs/\((oe.dict=ak/\fs=[])\/∃dx mA,oe.dict=aa dx/\dx≠a/\H dx=aa (.own a)/\h.Ns1 dx mA/\∀f,mM (fs.lookup f) (mA f))
 |.met f x=>h.get? a=aa (W.methodObj (.ref f) (.ref x))
 |.ext φ=>φ h/\(∃o,h.get? a=aa o)/\∀h1 h2:aq,φ h1->(∀o,h1.get? a=aa o->h2.get? a=aa o)->φ h2
def pG (H:Hp)(h:aq):Prop:=∀a o,H a=aa o->iQ P w H h a o
end
section
variable {P:ao} {w:aE} {H H':Hp} {h h':aq} {a:af} {o:HO}
theorem iQ.lt(x:iQ P w H h a o):a<h.objs.size:=by
 cases o with
 |lst xs=>obtain⟨_,_,_,_,e⟩:=x;exact aJ e
 |tup xs=>obtain⟨_,_,_,p⟩:=x;exact p.lt
 |dK gZ=>obtain⟨_,_,_,_,o,_,_,e,_⟩:=x;exact aJ e
 |dT gZ=>obtain⟨_,_,_,_,o,_,_,e,_⟩:=x;exact aJ e
 |set S n=>obtain⟨o,_,_,_,e,_⟩:=x;exact aJ e
 |ins C dx fs=>obtain⟨_,_,_,e,_⟩:=x;exact aJ e
 |own y=>obtain⟨_,e⟩:=x;exact aJ e
 |xd fs=>obtain⟨_,⟨_,_,_,e,_⟩,_⟩:=x;exact aJ e
 |UT lo hi=>obtain⟨_,_,_,e⟩:=x;exact aJ e
 |qv ob u=>obtain⟨e,_⟩:=x;exact aJ e
 |DR ps=>exact aJ (show h.get? a=aa _ from x)
 |dE ep gZ=>obtain⟨_,_,_,_,o,_,e,_⟩:=x;exact aJ e
 |xc C fs=>obtain⟨_,_,e,_⟩:=x;exact aJ e
 |met f y=>exact aJ (show h.get? a=aa _ from x)
 |ext φ=>obtain⟨_,⟨_,e⟩,_⟩:=x;exact aJ e
theorem Paired.R7{α β:Type}{F G:α->β->Prop}:∀{R8:List α} {R9:List β},Paired F R8 R9->(∀a b,F a b->G a b)->Paired G R8 R9
 |_,_,.nil,_=>.nil
 |_,_,.cons r t,f=>.cons (f _ _ r) (Paired.R7 t f)
theorem iQ.sG(x:iQ P w H h a o)(k:∀b u,(b=a\/H b=aa (.own a))->h.get? b=aa u->h'.get? b=aa u)
(ho:∀b,H b=aa (.own a)->H' b=aa (.own a))(ht:∀b xs,H b=aa (.tup xs)->H' b=aa (.tup xs)):iQ P w H' h' a o:=by
 induction o with
 |lst xs=>obtain⟨z,hX,n,r,e⟩:=x;exact⟨z,hX,n,r,k _ _ (.inl rfl) e⟩
 |tup xs=>obtain⟨z,hX,r,ob,e,c⟩:=x;exact⟨z,hX,r,ob,k _ _ (.inl rfl) e,c⟩
 |dK gZ=>obtain⟨z,y,vs,r,ob,es,ep,e,c⟩:=x;exact⟨z,y,vs,r,ob,es,ep,k _ _ (.inl rfl) e,c⟩
 |dT gZ=>
  obtain⟨z,y,xs,r,ob,es,ep,e,c⟩:=x;exact⟨z,y,xs,Paired.R7 r λp q z=>⟨z.1,ht _ _ z.2.1,z.2.2⟩,ob,es,ep,k _ _ (.inl rfl) e,c⟩
 |set S n=>obtain⟨ob,es,ep,t,e,c⟩:=x;exact⟨ob,es,ep,t,k _ _ (.inl rfl) e,c⟩
 |ins C dx fs=>
  obtain⟨d,z,ne,e,mA,⟨od,es,ep,e2,c⟩,r⟩:=x;exact⟨ho _ d,z,ne,k _ _ (.inl rfl) e,mA,⟨od,es,ep,k _ _ (.inr d) e2,c⟩,r⟩
 |own y=>obtain⟨ob,e⟩:=x;exact⟨ob,k _ _ (.inl rfl) e⟩
 |xd fs=>obtain⟨mA,⟨od,es,ep,e,c⟩,r⟩:=x;exact⟨mA,⟨od,es,ep,k _ _ (.inl rfl) e,c⟩,r⟩
 |UT lo hi=>obtain⟨t,u,v,e⟩:=x;exact⟨t,u,v,k _ _ (.inl rfl) e⟩
 |qv ob u ih=>obtain⟨e,q⟩:=x;exact⟨k _ _ (.inl rfl) e,ih q⟩
 |dE ep gZ=>obtain⟨z,y,vs,r,ob,es,e,c⟩:=x;exact⟨z,y,vs,r,ob,es,k _ _ (.inl rfl) e,c⟩
 |xc C fs=>
  obtain⟨oe,vs,e,c1,c2,c3⟩:=x;refine⟨oe,vs,k _ _ (.inl rfl) e,c1,c2,?_⟩;rcases c3 with c3|⟨dx,mA,d1,d2,d3,⟨od,es,ep,e2,c⟩,d5⟩
  ·exact .inl c3
  ·exact .inr ⟨dx,mA,d1,d2,ho _ d3,⟨od,es,ep,k _ _ (.inr d3) e2,c⟩,d5⟩
 |DR ps=>
  have e:h.get? a=aa {cls:=.none,data:=.fields ps}:=x;show h'.get? a=aa {cls:=.none,data:=.fields ps};exact k a _ (.inl rfl) e
 |met f y=>
  have e:h.get? a=aa (W.methodObj (.ref f) (.ref y)):=x;show h'.get? a=aa (W.methodObj (.ref f) (.ref y));exact k a _ (.inl rfl) e
 |ext φ=>obtain⟨p,⟨o,e⟩,st⟩:=x;exact⟨st _ _ p λo q=>k _ _ (.inl rfl) q,⟨o,k _ _ (.inl rfl) e⟩,st⟩
theorem pG.lt(x:pG P w H h)(e:H a=aa o):a<h.objs.size:=(x a o e).lt
theorem pG.fresh(x:pG P w H h)(e:h.objs.size<=a):H a=ak:=by
 cases q:H a with
 |none=>rfl
 |some u=>exact absurd (aB (x.lt q) e) (b5 _)
theorem pG.kept(x:pG P w H h)(k:∀b u,h.get? b=aa u->h'.get? b=aa u):pG P w H h':=λa o e=>
 (x a o e).sG (λb u _ q=>k b u q) (λ_ q=>q) λ_ _ q=>q
theorem pG.laid(x:pG P w H h)(k:∀b u,h.get? b=aa u->h'.get? b=aa u)(hp:h.objs.size<=a)(new:iQ P w (upd H a o) h' a o):pG P w (upd H a o) h':=λb u e=>by
 have hn:=x.fresh hp;by_cases hb:b=a
 ·subst hb;rw[gF] at e;cases e;exact new
 ·rw[gz hb] at e;exact(x b u e).sG (λc v _ q=>k c v q) (λc q=>by rw[gz (jn q hn)];exact q) λc xs q=>by rw[gz (jn q hn)];exact q
end
def Rd (H:Hp)(a:af)(u:HO):Prop:=H a=aa u\/∃o,H a=aa (.qv o u)
theorem Rd.ok{P:ao}{w:aE}{H:Hp}{h:aq}{a:af}{u:HO}(r:Rd H a u)(x:pG P w H h):iQ P w H h a u:=by
 rcases r with r|⟨o,r⟩
 ·exact x a u r
 ·obtain⟨_,q⟩:=x a _ r;exact q
def UU:Option HO->Prop
 |some (.lst _)=>True
 |some (.dK _)=>True
 |some (.dT _)=>True
 |some (.set _ _)=>True
 |some (.ins _ _ _)=>True
 |some (.ext _)=>True
 |some (.dE _ _)=>True
 |_=>False
section
variable {P:ao} {w:aE} {H:Hp} {h h':aq} {x e:af} {o':HO}
theorem pG.write(ok:pG P w H h)(mu:UU (H x))(he:e=x\/H e=aa (.own x))(k:∀b u,b≠e->h.get? b=aa u->h'.get? b=aa u)(RM:∃u,h'.get? e=aa u)
(new:iQ P w (upd H x o') h' x o'):pG P w (upd H x o') h':=λb u q=>by
 have Sa:∀c y,H c=aa (.own y)->c≠x:=λc y r z=>by subst z;rw[r] at mu;exact mu
 have VN:∀c xs,H c=aa (.tup xs)->c≠x:=λc xs r z=>by subst z;rw[r] at mu;exact mu
 by_cases hb:b=x
 ·subst hb;rw[gF] at q;cases q;exact new
 ·rw[gz hb] at q;by_cases xN:b=e
  ·have q':H b=aa (.own x):=by
    rcases he with z|z
    ·exact absurd (xN.trans z) hb
    ·rw[xN];exact z
   rw[q] at q';cases q';obtain⟨v,hv⟩:=RM;exact⟨v,by rw[xN];exact hv⟩
  ·refine(ok b u q).sG (λc v hc r=>k c v ?_ r) (λc r=>by rw[gz (Sa c b r)];exact r) λc xs r=>by rw[gz (VN c xs r)];exact r
   rcases hc with rfl|hc
   ·exact xN
   ·rintro rfl
    rcases he with z|z
    ·exact Sa c b hc z
    ·rw[hc] at z;cases z;exact hb rfl
end
structure Un(fs ex:List af)(H H':Hp)(h h':aq):Prop where
 keep:∀b o,h.get? b=aa o->H b=ak->b∉fs->b∉ex->h'.get? b=aa o
 slot:∀b o,h.get? b=aa o->H b=ak->b∈fs->b∉ex->∃sl,h'.get? b=aa {o with slots:=sl}
 free:∀b o,h.get? b=aa o->H b=ak->b∉ex->H' b=ak
 there:∀b o,h.get? b=aa o->b∉ex->∃o',h'.get? b=aa o'
 pv:∀b xs,H b=aa (.tup xs)->H' b=aa (.tup xs)
 nG:∀b o u,H b=aa (.qv o u)->H' b=aa (.qv o u)
 pw:∀b ps,H b=aa (.DR ps)->∃more,H' b=aa (.DR (ps++more))
section
variable {fs VO ex Yl:List af} {H H1 H2:Hp} {h h1 h2 h':aq} {a x e:af} {o:HO}
theorem Un.any(u:Un fs ex H H1 h h1){b:af}{ob:bE}(q:h.get? b=aa ob)(n:H b=ak)(hx:b∉ex):∃sl,h1.get? b=aa {ob with slots:=sl}:=by
 by_cases hb:b∈fs
 ·exact u.slot b ob q n hb hx
 ·exact⟨ob.slots,u.keep b ob q n hb hx⟩
theorem Un.trans(a:Un fs ex H H1 h h1)(b:Un fs ex H1 H2 h1 h2):Un fs ex H H2 h h2 where
 keep:=λc ob q n hc hx=>b.keep c ob (a.keep c ob q n hc hx) (a.free c ob q n hx) hc hx
 slot:=λc ob q n hc hx=>by obtain⟨sl,e1⟩:=a.slot c ob q n hc hx;obtain⟨NJ,e2⟩:=b.slot c _ e1 (a.free c ob q n hx) hc hx;exact⟨NJ,e2⟩
 free:=λc ob q n hx=>by obtain⟨o',e1⟩:=a.there c ob q hx;exact b.free c o' e1 (a.free c ob q n hx) hx
 there:=λc ob q hx=>by obtain⟨o',e1⟩:=a.there c ob q hx;exact b.there c o' e1 hx
 pv:=λc xs q=>b.pv c xs (a.pv c xs q)
 nG:=λc ob xs q=>b.nG c ob xs (a.nG c ob xs q)
 pw:=λc ps q=>by obtain⟨m1,e1⟩:=a.pw c ps q;obtain⟨m2,e2⟩:=b.pw c _ e1;exact⟨m1++m2,by rw[e2,Array.append_assoc]⟩
theorem Un.kept(k:∀b u,h.get? b=aa u->h'.get? b=aa u):Un fs ex H H h h':=
 ⟨λb ob q _ _ _=>k b ob q,λb ob q _ _ _=>⟨ob.slots,k b ob q⟩,λ_ _ _ n _=>n,λb ob q _=>⟨ob,k b ob q⟩,λ_ _ q=>q,λ_ _ _ q=>q,λ_ ps q=>⟨#[],by rw[q];simp⟩⟩
theorem Un.refl:Un fs ex H H h h:=Un.kept λ_ _ q=>q
theorem Un.laid(k:∀b u,h.get? b=aa u->h'.get? b=aa u)(hp:h.objs.size<=a)(hn:H a=ak):Un fs ex H (upd H a o) h h' where
 keep:=λb u q _ _ _=>k b u q
 slot:=λb u q _ _ _=>⟨u.slots,k b u q⟩
 free:=λb u q n _=>by rw[gz (bM (aB (aJ q) hp))];exact n
 there:=λb u q _=>⟨u,k b u q⟩
 pv:=λb xs q=>by rw[gz (jn q hn)];exact q
 nG:=λb u xs q=>by rw[gz (jn q hn)];exact q
 pw:=λb ps q=>⟨#[],by rw[gz (jn q hn),q];simp⟩
theorem Un.write(mu:UU (H x))(he:e=x\/H e=aa (.own x))(k:∀b u,b≠e->h.get? b=aa u->h'.get? b=aa u)(RM:∃u,h'.get? e=aa u):Un fs ex H (upd H x o) h h':=by
 have hx:∀b,H b=ak->b≠x:=λb n z=>by subst z;rw[n] at mu;exact mu
 have hb:∀b,H b=ak->b≠e:=λb n z=>by
  subst z;rcases he with r|r
  ·exact hx b n r
  ·rw[n] at r;cases r
 have hm:∀b u,H b=aa u->¬UU (aa u)->b≠x:=λb u q nm z=>by subst z;rw[q] at mu;exact nm mu
 refine⟨λb u q n _ _=>k b u (hb b n) q,λb u q n _ _=>⟨u.slots,k b u (hb b n) q⟩,λb u q n _=>by rw[gz (hx b n)];exact n,λb u q _=>?_,
  λb xs q=>by rw[gz (hm b _ q λz=>z)];exact q,λb u xs q=>by rw[gz (hm b _ q λz=>z)];exact q,λb ps q=>⟨#[],by rw[gz (hm b _ q λz=>z),q];simp⟩⟩
 by_cases xN:b=e
 ·subst xN;exact RM
 ·exact⟨u,k b u xN q⟩
theorem Un.mono(u:Un fs ex H H1 h h1)(hs:∀b∈fs,b∈VO)(hx:∀b∈ex,b∈Yl):Un VO Yl H H1 h h1:=
 ⟨λb ob q n hb he=>u.keep b ob q n (λz=>hb (hs b z)) λz=>he (hx b z),λ_ _ q n _ he=>u.any q n λz=>he (hx _ z),λb ob q n he=>u.free b ob q n λz=>he (hx b z),λb ob q he=>u.there b ob q λz=>he (hx b z),u.pv,u.nG,u.pw⟩
end
noncomputable def UV(h:aq)(H:Hp):List af:=(dg h.objs.size).filter λa=>(H a).isSome
noncomputable def zD(h:aq)(H:Hp):aq:=W.hideAll h (UV h H)
theorem GK(h:aq)(H:Hp):(zD h H).objs.size=h.objs.size:=W.hideAll_size _ _
theorem Ig{h:aq}{H:Hp}{b:af}{o:bE}(e:h.get? b=aa o)(n:H b=ak):(zD h H).get? b=aa o:=
 W.hideAll_get _ e λhm=>by have q:(H b).isSome=ah:=(List.mem_filter.mp hm).2;rw[n] at q;simp at q
theorem LA{h:aq}{H:Hp}{b:af}{o:bE}(e:(zD h H).get? b=aa o):h.get? b=aa o/\H b=ak:=by
 have e':h.get? b=aa o:=W.of_hideAll (UV h H) e;refine⟨e',?_⟩;cases q:H b with
 |none=>rfl
 |some x=>
  have hm:b∈UV h H:=List.mem_filter.mpr ⟨List.mem_range.mpr (aJ e'),by simp[q]⟩;have z:(zD h H).get? b=ak:=W.hideAll_none (UV h H) hm;rw[z] at e;cases e
noncomputable def LB(g h:aq)(L:af):List (af×bE):=(dg h.objs.size).filterMap λa=>if a=L\/(g.get? a).isSome=ah then ak else(h.get? a).map λo=>(a,o)
noncomputable def rest(g h:aq)(L d:af):List (af×bE):=(LB g h L).filter λp=>decide (p.1≠d)
structure Mod(K:W.Frag)(mg:ar->Option ae)(base:aq):Prop where
 DU:K.In base
 glob:base.Ns aZ mg
 blt:∃mb,base.Ns f8 mb/\∀x:ar,x≠"__name__"->mb x=b8 x
 nolimit:base.NoLimit
structure Cx where
 prog:ao
 w:aE
 K:W.Frag
 mg:ar->Option ae
 base:aq
 A:ay
 N:List ar
 gG:ag
 gJ:Hp
 env:cz
 outer:List cz
 stack:List cz
 ex:List af
 fn:ar->Bool
 calm:Bool
 pn:List (af×bE)
 xe:ae->ag->Prop
noncomputable def oi(l:List cz):List af:=l.filterMap (·.frame)
abbrev Cx.fs(X:Cx):List af:=oi X.outer
def Lj (sc:bJ)(x:ar):Prop:=sc.names.lookup x=aa .local\/sc.names.lookup x=aa .cell\/sc.names.lookup x=aa .free
def Loc (sc:bJ)(x:ar):Prop:=sc.names.lookup x=aa .local\/sc.names.lookup x=aa .cell
def Look (env:cz)(h:aq)(m:ar->Option ae)(x:ar)(u:ae):Prop:=
 (env.kindOf x=aa .local/\m x=aa u)\/((env.kindOf x=aa .cell\/env.kindOf x=aa .free)/\∃c,env.cells.lookup x=aa c/\h.IsCell c (aa u))
structure Cx.Ok(X:Cx):Prop where
 mod:Mod X.K X.mg X.base
 kind:X.env.scope.kind=.function
 glob:X.env.globals=aZ
 blt:X.env.builtins=f8
 above:X.gG.heap.objs.size<=X.env.locals
 inj:∀x y c,X.env.cells.lookup x=aa c->X.env.cells.lookup y=aa c->x=y
 has:∀x,(X.env.kindOf x=aa .cell\/X.env.kindOf x=aa .free)->∃c,X.env.cells.lookup x=aa c
 NK:∀x c,X.fn x=ah->X.env.cells.lookup x=aa c->X.gG.heap.objs.size<=c
 hd:X.calm=ah->X.A.handled=ak
 frames:X.A.frames=aa X.stack
 OV:X.stack=X.outer\/(X.stack=X.env::X.outer/\X.env.frame=aa X.env.locals)
 Sb:∀b∈X.ex,b≠X.env.locals/\∀x c,X.env.cells.lookup x=aa c->c≠b
 bs:∀b o,X.base.get? b=aa o->X.gG.heap.get? b=aa o/\X.gJ b=ak
 Fp:X.base.objs.size<=X.gG.heap.objs.size
 Bt:∀b o,X.base.get? b=aa o->b∉X.ex
 Bu:∀b∈X.ex,b∉X.fs
 px:X.gG.heap.FunFrames X.base X.outer
 HU:∀b∈X.fs,X.gJ b=ak
structure Inv(X:Cx)(pins:List (af×bE))(σ:List (Option V))(H:Hp)(s:ag):Prop where
 ok:X.Ok
 os:s.os=X.gG.os
 bare:dA s.gens
 base:Un X.fs X.ex X.gJ H X.gG.heap s.heap
 loc:∃m,s.heap.Ns X.env.locals m/\∀(i:Nat) (x:ar) (v:V),X.N[i]?=aa x->σ[i]?=aa (aa v)->Lj X.env.scope x->∃u,RelV v u/\Look X.env s.heap m x u
 cell:∀x c,X.env.cells.lookup x=aa c->∃v,s.heap.IsCell c v
 free:H X.env.locals=ak
 jX:∀x c,X.env.cells.lookup x=aa c->H c=ak
 pin:∀p∈X.pn++pins,s.heap.get? p.1=aa p.2/\H p.1=ak/\p.1≠X.env.locals/\p.1∉X.fs/\∀v,p.2.data≠.cell v
 iy:pG X.prog X.w H s.heap
 len:σ.length=X.N.length
section
variable {X:Cx} {pins:List (af×bE)} {σ:List (Option V)} {H H':Hp} {s:ag} {h':aq}
theorem Cx.Ok.VP(ok:X.Ok){b:af}{o:bE}(e:X.base.get? b=aa o):b∉X.fs:=λhb=>by have:=(ok.px.mem hb).1;rw[e] at this;cases this
theorem Inv.bs(I:Inv X pins σ H s):∀b o,X.base.get? b=aa o->s.heap.get? b=aa o/\H b=ak:=λb o e=>
 ⟨I.base.keep b o (I.ok.bs b o e).1 (I.ok.bs b o e).2 (I.ok.VP e) (I.ok.Bt b o e),I.base.free b o (I.ok.bs b o e).1 (I.ok.bs b o e).2 (I.ok.Bt b o e)⟩
theorem Inv.bk(I:Inv X pins σ H s):∀b o,X.base.get? b=aa o->s.heap.get? b=aa o:=λb o e=>(I.bs b o e).1
theorem Inv.mod(I:Inv X pins σ H s):Mod X.K X.mg X.base:=I.ok.mod
theorem Inv.pD(I:Inv X pins σ H s):X.K.In s.heap:=I.ok.mod.DU.keeps I.bk
theorem Inv.fr(I:Inv X pins σ H s):∃m,Fr X.base X.env.locals s.heap m:=
 let⟨m,hn,_⟩:=I.loc
 ⟨m,hn,I.bk,aT I.ok.Fp I.ok.above⟩
theorem Inv.lt(I:Inv X pins σ H s):X.env.locals<s.heap.objs.size:=let⟨_,hn,_⟩:=I.loc;hn.lt
theorem Inv.sz(I:Inv X pins σ H s):X.gG.heap.objs.size<=s.heap.objs.size:=aT I.ok.above (Nat.le_of_lt I.lt)
theorem Inv.VQ(I:Inv X pins σ H s){a:af}(h:s.heap.objs.size<=a):a∉X.fs:=λhb=>by obtain⟨_,o,ho,_⟩:=I.ok.px.mem hb;exact absurd (aB (aJ ho) (aT I.sz h)) (b5 _)
theorem Inv.Ih(I:Inv X pins σ H s):∀x c,X.env.cells.lookup x=aa c->c≠X.env.locals:=λx c e z=>by obtain⟨v,o,ho,hd⟩:=I.cell x c e;obtain⟨m,⟨o',es,ep,Ii,Sc,_⟩,_⟩:=I.loc;rw[z,Ii] at ho;cases ho;rw[Sc] at hd;cases hd
theorem Inv.px(I:Inv X pins σ H s):s.heap.FunFrames X.base X.outer:=by
 have all:∀(l:List cz),(∀b∈oi l,b∈X.fs)->X.gG.heap.FunFrames X.base l->s.heap.FunFrames X.base l:=by
  intro l;induction l with
  |nil=>intro _ _;trivial
  |cons env r ih=>
   intro hs hl;obtain⟨hk,⟨L,o,hf,hn,ho,hd⟩,hr⟩:=hl;have hL:L∈X.fs:=hs L (by unfold oi;rw[List.filterMap_cons,hf];exact bd);obtain⟨sl,e⟩:=I.base.slot L o ho (I.ok.HU L hL) hL λz=>I.ok.Bu L z hL;exact⟨hk,⟨L,_,hf,hn,e,hd⟩,ih (λb hb=>hs b (by unfold oi;rw[List.filterMap_cons,hf];exact aX _ hb)) hr⟩
 exact all X.outer (λ_ hb=>hb) I.ok.px
theorem Inv.stack(I:Inv X pins σ H s):s.heap.FunFrames X.base X.stack:=by
 rcases I.ok.OV with e|⟨e,hf⟩
 ·rw[e];exact I.px
 ·rw[e];obtain⟨m,hn,_⟩:=I.loc;refine .cons (by rw[I.ok.kind];decide) hf hn ?_ I.px;exact bZ (aT I.ok.Fp I.ok.above)
theorem Inv.rA(I:Inv X pins σ H s):∀b∈oi X.stack,b∈X.env.locals::X.fs:=λb hb=>by
 rcases I.ok.OV with e|⟨e,hf⟩
 ·rw[e] at hb;exact aX _ hb
 ·rw[e] at hb;unfold oi at hb;rw[List.filterMap_cons,hf] at hb;exact hb
theorem Inv.Fq(I:Inv X pins σ H s):∀b∈oi X.stack,H b=ak:=λb hb=>by
 rcases ba.mp (I.rA b hb) with e|hb
 ·rw[e];exact I.free
 ·obtain⟨_,o,ho,_⟩:=I.ok.px.mem hb;exact I.base.free b o ho (I.ok.HU b hb) λz=>I.ok.Bu b z hb
theorem Inv.step{g':Array eM}{t':Nat}{d':gn}{ch:List af}(I:Inv X pins σ H s)
(Lk:∀b∈ch,(b∈X.ex\/X.gG.heap.objs.size<=b)/\b≠X.env.locals/\(∀x c,X.env.cells.lookup x=aa c->c≠b)/\∀p∈X.pn++pins,p.1≠b)
(keep:∀b o,b≠X.env.locals->b∉X.fs->b∉ch->s.heap.get? b=aa o->H b=ak->h'.get? b=aa o)
(slot:∀b o,b≠X.env.locals->b∈X.fs->b∉ch->s.heap.get? b=aa o->H b=ak->∃sl,h'.get? b=aa {o with slots:=sl})(free:∀b o,b∉ch->s.heap.get? b=aa o->H b=ak->H' b=ak)
(there:∀b o,b∉ch->s.heap.get? b=aa o->∃o',h'.get? b=aa o')
(pv:∀b xs,H b=aa (.tup xs)->H' b=aa (.tup xs))(nG:∀b o u,H b=aa (.qv o u)->H' b=aa (.qv o u))(pw:∀b ps,H b=aa (.DR ps)->∃more,H' b=aa (.DR (ps++more)))
(ns:∀m,s.heap.Ns X.env.locals m->h'.Ns X.env.locals m)(iy:pG X.prog X.w H' h')(hg:dA g'):
  Inv X pins σ H' {s with heap:=h',gens:=g',drawn:=d',toks:=t'}:=by
 have Ym:∀b o,X.gG.heap.get? b=aa o->b≠X.env.locals:=λb o e=>bM (aB (aJ e) I.ok.above);have UW:∀b o,X.gG.heap.get? b=aa o->b∉X.ex->b∉ch:=λb o e hx hb=>by
  rcases(Lk b hb).1 with z|z
  ·exact hx z
  ·exact absurd (aB (aJ e) z) (b5 _)
 have NL:∀x c,X.env.cells.lookup x=aa c->∀v,s.heap.IsCell c v->h'.IsCell c v:=λx c e v ⟨o,ho,hd⟩=>by
  have Sd:c∉ch:=λz=>(Lk c z).2.2.1 x c e rfl;by_cases hc:c∈X.fs
  ·obtain⟨sl,q⟩:=slot c o (I.Ih x c e) hc Sd ho (I.jX x c e);exact⟨_,q,hd⟩
  ·exact⟨o,keep c o (I.Ih x c e) hc Sd ho (I.jX x c e),hd⟩
 refine⟨I.ok,I.os,hg,⟨λb o e n hb hx=>?_,λb o e n hb hx=>?_,λb o e n hx=>?_,λb o e hx=>?_,λb xs e=>pv b xs (I.base.pv b xs e),λb o xs e=>nG b o xs (I.base.nG b o xs e),λb ps e=>?_⟩,?_,λx c e=>?_,?_,λx c e=>?_,λp hp=>?_,iy,I.len⟩
 ·exact keep b o (Ym b o e) hb (UW b o e hx) (I.base.keep b o e n hb hx) (I.base.free b o e n hx)
 ·obtain⟨sl,e1⟩:=I.base.slot b o e n hb hx;obtain⟨NJ,e2⟩:=slot b _ (Ym b o e) hb (UW b o e hx) e1 (I.base.free b o e n hx);exact⟨NJ,e2⟩
 ·obtain⟨o',e1⟩:=I.base.there b o e hx;exact free b o' (UW b o e hx) e1 (I.base.free b o e n hx)
 ·obtain⟨o',e1⟩:=I.base.there b o e hx;exact there b o' (UW b o e hx) e1
 ·obtain⟨m1,e1⟩:=I.base.pw b ps e;obtain⟨m2,e2⟩:=pw b _ e1;exact⟨m1++m2,by rw[e2,Array.append_assoc]⟩
 ·obtain⟨m,hn,hl⟩:=I.loc;refine⟨m,ns m hn,λi x v e1 e2 e3=>?_⟩;obtain⟨u,r,l⟩:=hl i x v e1 e2 e3;refine⟨u,r,?_⟩;rcases l with l|⟨k,c,e,z⟩
  ·exact .inl l
  ·exact .inr ⟨k,c,e,NL x c e _ z⟩
 ·obtain⟨v,z⟩:=I.cell x c e;exact⟨v,NL x c e v z⟩
 ·obtain⟨m,⟨o,_,_,ho,_⟩,_⟩:=I.loc;exact free _ o (λz=>(Lk _ z).2.1 rfl) ho I.free
 ·obtain⟨v,o,ho,hd⟩:=I.cell x c e;exact free c o (λz=>(Lk c z).2.2.1 x c e rfl) ho (I.jX x c e)
 ·obtain⟨e,n,ne,nf,d⟩:=I.pin p hp;have Sd:p.1∉ch:=λz=>(Lk p.1 z).2.2.2 p hp rfl;exact⟨keep p.1 p.2 ne nf Sd e n,free p.1 p.2 Sd e n,ne,nf,d⟩
theorem Inv.un{t':Nat}(I:Inv X pins σ H s)(u:Un X.fs [] H H' s.heap h')(iy:pG X.prog X.w H' h'):Inv X pins σ H' {s with heap:=h',toks:=t'}:=by
 obtain⟨m,⟨o,es,ep,ho,r⟩,_⟩:=id I.loc;obtain⟨sl,hL⟩:=u.any ho I.free (by simp);exact I.step (g':=s.gens) (d':=s.drawn) (ch:=[]) (λ_ z=>nomatch z) (λb o _ hb _ e n=>u.keep b o e n hb (by simp)) (λb o _ hb _ e n=>u.slot b o e n hb (by simp)) (λb o _ e n=>u.free b o e n (by simp)) (λb o _ e=>u.there b o e (by simp)) u.pv u.nG u.pw (λm' hm=>by obtain⟨o',OW,VS,Ii,r'⟩:=hm;rw[ho] at Ii;cases Ii;exact⟨_,OW,VS,hL,r'⟩) iy I.bare
theorem Inv.call{g':Array eM}{t':Nat}{d':gn}{ch:List af}(I:Inv X pins σ H s)(u:Un (oi X.stack) ch H H' s.heap h')(iy:pG X.prog X.w H' h')(hg:dA g')
(Lk:∀b∈ch,(b∈X.ex\/X.gG.heap.objs.size<=b)/\b≠X.env.locals/\(∀x c,X.env.cells.lookup x=aa c->c≠b)/\∀p∈X.pn++pins,p.1≠b):
  Inv X pins σ H' {s with heap:=h',gens:=g',drawn:=d',toks:=t'}:=by
 obtain⟨m,⟨o,es,ep,ho,r⟩,_⟩:=id I.loc;obtain⟨sl,hL⟩:=u.any ho I.free λz=>(Lk _ z).2.1 rfl;exact I.step (ch:=ch) Lk (λb o hL hb hc e n=>u.keep b o e n (λz=>(ba.mp (I.rA b z)).elim hL hb) hc) (λb o _ _ hc e n=>u.any e n hc) (λb o hc e n=>u.free b o e n hc) (λb o hc e=>u.there b o e hc) u.pv u.nG u.pw (λm' hm=>by obtain⟨o',OW,VS,Ii,r'⟩:=hm;rw[ho] at Ii;cases Ii;exact⟨_,OW,VS,hL,r'⟩) iy hg
theorem Inv.turned{t':Nat}{it:af}(I:Inv X pins σ H s)(k:∀b o,b≠it->s.heap.get? b=aa o->h'.get? b=aa o)(hn:H it=ak)(hL:it≠X.env.locals)
(h1:it∈X.ex\/X.gG.heap.objs.size<=it)(h2:∀x c,X.env.cells.lookup x=aa c->c≠it)(h3:∀p∈X.pn++pins,p.1≠it):Inv X pins σ H {s with heap:=h',toks:=t'}:=by
 have Yn:∀b u,H b=aa u->b≠it:=λb u e z=>by rw[z,hn] at e;cases e
 refine I.step (g':=s.gens) (d':=s.drawn) (ch:=[it]) (λb hb=>?_) (λb o _ _ hc e _=>k b o (λz=>hc (by simp[z])) e) (λb o _ _ hc e _=>⟨o.slots,k b o (λz=>hc (by simp[z])) e⟩) (λ_ _ _ _ n=>n)
  (λb o hc e=>⟨o,k b o (λz=>hc (by simp[z])) e⟩) (λ_ _ e=>e) (λ_ _ _ e=>e) (λb ps e=>⟨#[],by rw[e];simp⟩) (λm hm=>?_) (λb u e=>?_) I.bare
 ·have e:b=it:=by simpa using hb
  subst e;exact⟨h1,hL,h2,h3⟩
 ·obtain⟨o,es,ep,ho,r⟩:=hm;exact⟨o,es,ep,k _ o (bG hL) ho,r⟩
 ·refine(I.iy b u e).sG (λc v hc q=>k c v ?_ q) (λ_ q=>q) λ_ _ q=>q;rcases hc with z|z
  ·rw[z];exact Yn b u e
  ·exact Yn c _ z
theorem Inv.tok(I:Inv X pins σ H s)(t:Nat):Inv X pins σ H {s with toks:=t}:=I.un (h':=s.heap) (t':=t) Un.refl I.iy
theorem Inv.kept{t':Nat}(I:Inv X pins σ H s)(k:∀b u,s.heap.get? b=aa u->h'.get? b=aa u):Inv X pins σ H {s with heap:=h',toks:=t'}:=I.un (Un.kept k) (I.iy.kept k)
theorem Inv.laid{a:af}{o:HO}{t':Nat}(I:Inv X pins σ H s)(k:∀b u,s.heap.get? b=aa u->h'.get? b=aa u)(hp:s.heap.objs.size<=a)(new:iQ X.prog X.w (upd H a o) h' a o):
  Inv X pins σ (upd H a o) {s with heap:=h',toks:=t'}:=I.un (Un.laid k hp (I.iy.fresh hp)) (I.iy.laid k hp new)
theorem Inv.write{x e:af}{o:HO}{t':Nat}(I:Inv X pins σ H s)(mu:UU (H x))(he:e=x\/H e=aa (.own x))(k:∀b u,b≠e->s.heap.get? b=aa u->h'.get? b=aa u)(RM:∃u,h'.get? e=aa u)
(new:iQ X.prog X.w (upd H x o) h' x o):Inv X pins σ (upd H x o) {s with heap:=h',toks:=t'}:=I.un (Un.write mu he k RM) (I.iy.write mu he k RM new)
theorem Inv.Fs{sH:List (af×bE)}(I:Inv X pins σ H s)(h:∀p∈sH,s.heap.get? p.1=aa p.2/\H p.1=ak/\p.1≠X.env.locals/\p.1∉X.fs/\∀v,p.2.data≠.cell v):Inv X sH σ H s:=
 ⟨I.ok,I.os,I.bare,I.base,I.loc,I.cell,I.free,I.jX,λp hp=>(bi.mp hp).elim (λz=>I.pin p (bC _ z)) (h p),I.iy,I.len⟩
theorem vV{N:List ar}(hN:N.Nodup){i j:Nat}{x:ar}(a:N[i]?=aa x)(b:N[j]?=aa x):i=j:=by obtain⟨h1,e1⟩:=aC.mp a;obtain⟨h2,e2⟩:=aC.mp b;exact(List.getElem_inj hN).mp (e1.trans e2.symm)
theorem yA{M:fb}{A:ay}{E:ae->ag->Prop}{i:Nat}{x:ar}{v:V}{u:ae}{Q:Unit->ag->Prop}(I:Inv X pins σ H s)(hN:X.N.Nodup)(hi:X.N[i]?=aa x)(hx:Loc X.env.scope x)(r:RelV v u)
(h:∀s',Inv X pins (σ.set i (aa v)) H s'->(∃a,aq.SameBut a s.heap s'.heap/\(a=X.env.locals\/X.env.cells.lookup x=aa a))->Q () s')(hf:X.fn x=ah\/X.env.scope.names.lookup x=aa .local:=by first|exact .inl rfl|exact .inr rfl|assumption):wpAny M A (storeName X.env x u) Q E s:=by
 obtain⟨m,hn,hl⟩:=id I.loc;have OX:(X.env.scope.kind==.class||(X.env.scope.kind==.module&&X.env.locals !=X.env.globals))=ai:=by rw[I.ok.kind];rfl
 have Se:i<σ.length:=by rw[I.len];exact(aC.mp hi).1
 have Ih:=I.Ih;have Fu:∀{a:af} {h':aq},(∃o,s.heap.get? a=aa o/\H a=ak)->aq.SameBut a s.heap h'->pG X.prog X.w H h':=λ{a h'} ha hs b ob e=>by
  obtain⟨_,_,NM⟩:=ha;refine(I.iy b ob e).sG (λc w' hc q=>(hs.2 c ?_).trans q) (λ_ q=>q) λ_ _ q=>q
  rintro rfl
  rcases hc with rfl|hc
  ·rw[NM] at e;cases e
  ·rw[NM] at hc;cases hc
 rcases hx with hk|hk
 ·refine wpAny_storeName_local hk hn (λh' HV hs=>?_) OX;obtain⟨oL,_,_,Zz,_⟩:=id hn;refine h _ ⟨I.ok,I.os,I.bare,⟨λb o e n hb hx=>?_,λb o e n hb hx=>?_,I.base.free,λb o e hx=>?_,I.base.pv,I.base.nG,I.base.pw⟩,⟨_,HV,λj y v' e1 e2 e3=>?_⟩,λy c e=>?_,I.free,I.jX,λp hp=>?_,Fu ⟨oL,Zz,I.free⟩ hs,by simpa using I.len⟩ ⟨_,hs,.inl rfl⟩
  ·exact(hs.2 b (bM (aB (aJ e) I.ok.above))).trans (I.base.keep b o e n hb hx)
  ·obtain⟨sl,e1⟩:=I.base.slot b o e n hb hx;exact⟨sl,(hs.2 b (bM (aB (aJ e) I.ok.above))).trans e1⟩
  ·obtain⟨o',e1⟩:=I.base.there b o e hx;exact⟨o',(hs.2 b (bM (aB (aJ e) I.ok.above))).trans e1⟩
  ·by_cases hj:j=i
   ·subst hj;rw[hi] at e1;cases e1;rw[bU Se] at e2;cases e2;exact⟨u,r,.inl ⟨hk,by simp⟩⟩
   ·rw[bH (bG hj)] at e2;obtain⟨u',r',q⟩:=hl j y v' e1 e2 e3;refine⟨u',r',?_⟩;rcases q with⟨k,e⟩|⟨k,c,e,z⟩
    ·refine .inl ⟨k,?_⟩;have:y≠x:=λe=>hj (vV hN e1 (e▸hi));simp[this,e]
    ·exact .inr ⟨k,c,e,z.sameBut hs (Ih y c e)⟩
  ·obtain⟨w',z⟩:=I.cell y c e;exact⟨w',z.sameBut hs (Ih y c e)⟩
  ·obtain⟨e,n,ne,nf,d⟩:=I.pin p hp;exact⟨(hs.2 p.1 ne).trans e,n,ne,nf,d⟩
 ·have VT:X.fn x=ah:=by
   rcases hf with z|z
   ·exact z
   ·rw[z] at hk;cases hk
  obtain⟨c,hc⟩:=I.ok.has x (.inl hk);obtain⟨w',z⟩:=I.cell x c hc;refine wpAny_storeName_cell I.ok.kind hk hc z (λh' Ll hs=>?_);obtain⟨oc,Yo,VU⟩:=id z;refine h {s with heap:=h'} ⟨I.ok,I.os,I.bare,⟨λb o e n hb hx=>?_,λb o e n hb hx=>?_,I.base.free,λb o e hx=>?_,I.base.pv,I.base.nG,I.base.pw⟩,⟨m,hn.sameBut hs (bG (Ih x c hc)),λj y v' e1 e2 e3=>?_⟩,λy c' e=>?_,I.free,I.jX,λp hp=>?_,Fu ⟨oc,Yo,I.jX x c hc⟩ hs,by simpa using I.len⟩ ⟨c,hs,.inr hc⟩
  ·exact(hs.2 b (bM (aB (aJ e) (I.ok.NK x c VT hc)))).trans (I.base.keep b o e n hb hx)
  ·obtain⟨sl,e1⟩:=I.base.slot b o e n hb hx;exact⟨sl,(hs.2 b (bM (aB (aJ e) (I.ok.NK x c VT hc)))).trans e1⟩
  ·obtain⟨o',e1⟩:=I.base.there b o e hx;exact⟨o',(hs.2 b (bM (aB (aJ e) (I.ok.NK x c VT hc)))).trans e1⟩
  ·by_cases hj:j=i
   ·subst hj;rw[hi] at e1;cases e1;rw[bU Se] at e2;cases e2;exact⟨u,r,.inr ⟨.inl hk,c,hc,Ll⟩⟩
   ·rw[bH (bG hj)] at e2;obtain⟨u',r',q⟩:=hl j y v' e1 e2 e3;refine⟨u',r',?_⟩;rcases q with q|⟨k,c',e,z'⟩
    ·exact .inl q
    ·refine .inr ⟨k,c',e,z'.sameBut hs ?_⟩
     rintro rfl
     exact hj (vV hN e1 (I.ok.inj _ _ _ e hc▸hi))
  ·by_cases Yp:c'=c
   ·subst Yp;exact⟨_,Ll⟩
   ·obtain⟨w2,z2⟩:=I.cell y c' e;exact⟨w2,z2.sameBut hs Yp⟩
  ·obtain⟨e,n,ne,nf,d⟩:=I.pin p hp;refine⟨(hs.2 p.1 ?_).trans e,n,ne,nf,d⟩;intro q;rw[q,Yo] at e;have q':oc=p.2:=bh e;exact d w' (by rw[<-q'];exact VU)
theorem Bv{M:fb}{A:ay}{E:ae->ag->Prop}{i:Nat}{x:ar}{v:V}{u:ae}{Q:Unit->ag->Prop}(I:Inv X pins σ H s)(hN:X.N.Nodup)(hi:X.N[i]?=aa x)(hx:Loc X.env.scope x)(r:RelV v u)
(h:∀s',Inv X pins (σ.set i (aa v)) H s'->Q () s')(hf:X.fn x=ah\/X.env.scope.names.lookup x=aa .local:=by first|exact .inl rfl|exact .inr rfl|assumption):wpAny M A (storeName X.env x u) Q E s:=
 yA I hN hi hx r (λs' I' _=>h s' I') hf
theorem Inv.uE{s':ag}{ch:List af}(I:Inv X pins σ H s)(ho:s'.os=s.os)(u:Un (oi X.stack) ch H H' s.heap s'.heap)(iy:pG X.prog X.w H' s'.heap)(hg:dA s'.gens)
(Lk:∀b∈ch,(b∈X.ex\/X.gG.heap.objs.size<=b)/\b≠X.env.locals/\(∀x c,X.env.cells.lookup x=aa c->c≠b)/\∀p∈X.pn++pins,p.1≠b):Inv X pins σ H' s':=by obtain⟨h',g',d',t',o'⟩:=s';have e:o'=s.os:=ho;subst e;exact I.call (g':=g') (t':=t') (d':=d') u iy hg Lk
end
abbrev XK:=ae->Option af->Hp->Prop
abbrev St:=List (Option V)
abbrev VK:=V->Hp->Prop
abbrev TE:=St->Hp->VK->Prop
abbrev TT:=St->Hp->(Bool->Hp->Prop)->Prop
abbrev TA:=St->Hp->(List V->Hp->Prop)->Prop
structure Ends where
 nx:St->Hp->Prop
 rt:VK
 bk:St->Hp->Prop:=λ_ _=>False
 ct:St->Hp->Prop:=λ_ _=>False
abbrev TS:=Ends->St->Hp->Prop
def EP (X:Cx)(pins:List (af×bE))(σ:St)(Q:VK)(u:ae)(s':ag):Prop:=∃v H',Inv X pins σ H' s'/\RelV v u/\Q v H'
def TP (X:Cx)(pins:List (af×bE))(σ:St)(Q:Bool->Hp->Prop)(b:Bool)(s':ag):Prop:=∃H',Inv X pins σ H' s'/\Q b H'
def AP (X:Cx)(pins:List (af×bE))(σ:St)(Q:List V->Hp->Prop)(us:List ae)(s':ag):Prop:=∃vs H',Inv X pins σ H' s'/\Vals vs us/\Q vs H'
def SP (X:Cx)(pins:List (af×bE))(D:Ends)(f:Flow)(s':ag):Prop:=
 match f with
 |.next=>∃iF H',Inv X pins iF H' s'/\D.nx iF H'
 |.brk=>∃iF H',Inv X pins iF H' s'/\D.bk iF H'
 |.cont=>∃iF H',Inv X pins iF H' s'/\D.ct iF H'
 |.ret u=>∃v iF H',Inv X pins iF H' s'/\RelV v u/\D.rt v H'
def PE (X:Cx)(e:aM)(t:TE):Prop:=
 ∀(pins:List (af×bE)) (s:ag) (σ:St) (H:Hp) (Q:VK),Inv X pins σ H s->t σ H Q->wpAny (model X.prog X.w) X.A (eval e X.env) (EP X pins σ Q) X.xe s
def PT (X:Cx)(e:aM)(t:TT):Prop:=
 ∀(pins:List (af×bE)) (s:ag) (σ:St) (H:Hp) (Q:Bool->Hp->Prop),Inv X pins σ H s->t σ H Q->wpAny (model X.prog X.w) X.A (fF e X.env (eval e X.env)) (TP X pins σ Q) X.xe s
def PW (X:Cx)(e:aM)(t:TT):Prop:=
 ∀(vW:f9 ae) (pins:List (af×bE)) (s:ag) (σ:St) (H:Hp) (Q:Bool->Hp->Prop),Inv X pins σ H s->t σ H Q->wpAny (model X.prog X.w) X.A (fF e X.env vW) (TP X pins σ Q) X.xe s
theorem PW.pt{X:Cx}{e:aM}{t:TT}(h:PW X e t):PT X e t:=h _
def PA (X:Cx)(es:List aM)(t:TA):Prop:=
 ∀(pos:cu) (pins:List (af×bE)) (s:ag) (σ:St) (H:Hp) (Q:List V->Hp->Prop),Inv X pins σ H s->t σ H Q->wpAny (model X.prog X.w) X.A (spliced (bN pos (av es X.env))) (AP X pins σ Q) X.xe s
def PS (X:Cx)(st:br)(t:TS):Prop:=
 ∀(pins:List (af×bE)) (s:ag) (σ:St) (H:Hp) (D:Ends),Inv X pins σ H s->t D σ H->wpAny (model X.prog X.w) X.A (exec st X.env) (SP X pins D) X.xe s
def pH (X:Cx)(st:List br)(t:TS):Prop:=
 ∀(pins:List (af×bE)) (s:ag) (σ:St) (H:Hp) (D:Ends),Inv X pins σ H s->t D σ H->wpAny (model X.prog X.w) X.A (execs st X.env) (SP X pins D) X.xe s
theorem ja{α:Type}{t:f9 α}{Q Q':α->ag->Prop}{M:fb}{A:ay}{E:ae->ag->Prop}{s:ag}(h:wpAny M A t Q E s)(hQ:∀a s,Q a s->Q' a s):wpAny M A t Q' E s:=bR h hQ λ_ _ x=>x
section
variable {X:Cx}
def Ij (i:Nat):TE:=λσ H Q=>∃v,σ[i]?=aa (aa v)/\Q v H
def tC (v:V):TE:=λ_ H Q=>Q v H
theorem t7{i:Nat}{x:ar}{pos:cu}(hN:X.N[i]?=aa x)(hv:Lj X.env.scope x)(hd:(x==("__debug__":ar))=ai:=by decide)(pE:(x==("__classdict__":ar))=ai:=by decide):PE X (.Name x pos) (Ij i):=by
 intro pins s σ H Q I h;obtain⟨v,e,h⟩:=h;obtain⟨m,hn,hl⟩:=I.loc;obtain⟨u,r,l⟩:=hl i x v hN e hv;have lm:EP X pins σ Q u s:=⟨v,H,I,r,h⟩;rcases l with⟨hk,hm⟩|⟨hk,c,hc,NN⟩
 ·exact gc (wpAny_loadName_local I.ok.kind hk hn hm lm) hd
 ·rcases hk with hk|hk
  ·exact gc (wpAny_loadName_cell I.ok.kind hk hc NN lm) hd
  ·exact gc (wpAny_loadName_free I.ok.kind hk hc NN lm pE) hd
theorem OY{i j pos}:PE X (.Constant (.int i) j pos) (tC (.int i)):=λ_ _ _ H _ I h=>wpAny_Constant_int ⟨.int i,H,I.tok _,⟨_,rfl⟩,h⟩
theorem Sf{b j pos}:PE X (.Constant (.bool b) j pos) (tC (.bl b)):=λ_ _ _ H _ I h=>Constant_bool ⟨.bl b,H,I,rfl,h⟩
theorem OZ{j pos}:PE X (.Constant .none j pos) (tC .non):=λ_ _ _ H _ I h=>aaF ⟨.non,H,I,rfl,h⟩
theorem Ik{x j pos}:PE X (.Constant (.str x) j pos) (tC (.str x)):=λ_ _ _ H _ I h=>Calls.Constant_str ⟨.str x,H,I.tok _,⟨_,rfl⟩,h⟩
def Gl (X:Cx)(x:ar):Prop:=X.env.kindOf x=aa .globalImplicit
theorem lW{E:ae->ag->Prop}{pins:List (af×bE)}{s:ag}{σ:St}{H:Hp}{x:ar}{u:ae}{pos:cu}{Q:ae->ag->Prop}(I:Inv X pins σ H s)(hg:Gl X x)(hm:X.mg x=aa u)(h:Q u s)
(hd:(x==("__debug__":ar))=ai:=by decide):wpAny (model X.prog X.w) X.A (eval (.Name x pos) X.env) Q E s:=
 Calls.Name_function_global I.ok.kind hg (Calls.loadGlobal_global (by rw[I.ok.glob];exact I.mod.glob.keeps I.bk) hm h) hd
theorem zE{E:ae->ag->Prop}{pins:List (af×bE)}{s:ag}{σ:St}{H:Hp}{x:ar}{u:ae}{pos:cu}{Q:ae->ag->Prop}(I:Inv X pins σ H s)(hg:Gl X x)(hm:X.mg x=ak)(hv:b8 x=aa u)(h:Q u s)
(hn:x≠"__name__":=by decide)(hd:(x==("__debug__":ar))=ai:=by decide):wpAny (model X.prog X.w) X.A (eval (.Name x pos) X.env) Q E s:=by obtain⟨mb,h1,h2⟩:=I.mod.blt;exact Calls.Name_function_global I.ok.kind hg (Calls.loadGlobal_builtin (by rw[I.ok.glob];exact I.mod.glob.keeps I.bk) hm (by rw[I.ok.blt];exact h1.keeps I.bk) ((h2 x hn).trans hv) h) hd
theorem Fv{x:ar}{v:V}{u:ae}{pos:cu}(hg:Gl X x)(hm:X.mg x=aa u)(r:RelV v u)(hd:(x==("__debug__":ar))=ai:=by decide):PE X (.Name x pos) (tC v):=
 λ_ _ _ H _ I h=>lW I hg hm ⟨v,H,I,r,h⟩ hd
variable {a b:aM} {ta tb:TE} {pos:cu}
def tB (t:TE):TT:=λσ H Q=>t σ H λx H1=>∃c,x=.bl c/\Q c H1
theorem O0{e:aM}{t:TE}(h:PE X e t)(he:∀vW,fF e X.env vW=(do let v<-vW;eF e.pos;holding [v] (truthy v)):=by intro _;rfl):PT X e (tB t):=by intro pins s σ H Q I hw;refine isTrue_plain (ja (h pins s σ H _ I hw) λv s1 ⟨x,H1,I1,r1,q1⟩=>?_) (he _);obtain⟨d,rfl,q⟩:=q1;cases r1;exact dj ⟨H1,I1,q⟩
variable {tA Il:TT} {rest:List aM}
def VW (t u:TT):TT:=λσ H Q=>t σ H λc H1=>if c=ah then u σ H1 Q else Q ai H1
def ZA (t u:TT):TT:=λσ H Q=>t σ H λc H1=>if c=ah then Q ah H1 else u σ H1 Q
def VX (t:TT):TT:=λσ H Q=>t σ H λc H1=>Q (!c) H1
theorem pw_and1(ha:PT X a tA):PW X (.BoolOp .And [a] pos) tA:=by
 intro wh pins s σ H Q I h;refine isTrue_and (ja (ha pins s σ H Q I h) λc s1 e=>?_);cases c with
 |true=>exact isTrue_and_nil e
 |false=>exact e
theorem pw_or1(ha:PT X a tA):PW X (.BoolOp .Or [a] pos) tA:=by
 intro wh pins s σ H Q I h;refine isTrue_or (ja (ha pins s σ H Q I h) λc s1 e=>?_);cases c with
 |false=>exact isTrue_or_nil e
 |true=>exact e
theorem pw_and(ha:PT X a tA)(hb:PW X (.BoolOp .And (b::rest) pos) Il):PW X (.BoolOp .And (a::b::rest) pos) (VW tA Il):=by
 intro wh pins s σ H Q I h;refine isTrue_and (ja (ha pins s σ H _ I h) λc s1 zq=>?_);obtain⟨H1,I1,q1⟩:=zq;cases c with
 |true=>exact hb wh pins s1 σ H1 Q I1 q1
 |false=>exact⟨H1,I1,q1⟩
theorem pw_or(ha:PT X a tA)(hb:PW X (.BoolOp .Or (b::rest) pos) Il):PW X (.BoolOp .Or (a::b::rest) pos) (ZA tA Il):=by
 intro wh pins s σ H Q I h;refine isTrue_or (ja (ha pins s σ H _ I h) λc s1 zq=>?_);obtain⟨H1,I1,q1⟩:=zq;cases c with
 |true=>exact⟨H1,I1,q1⟩
 |false=>exact hb wh pins s1 σ H1 Q I1 q1
theorem O1(ha:PT X a tA):PT X (.UnaryOp .Not a pos) (VX tA):=by intro pins s σ H Q I h;exact isTrue_not (ha pins s σ H (λc H1=>Q (!c) H1) I h)
def ZB (t:TT)(ta tb:TE):TE:=λσ H Q=>t σ H λc H1=>if c=ah then ta σ H1 Q else tb σ H1 Q
theorem Im{c:aM}(hc:PT X c tA)(ha:PE X a ta)(hb:PE X b tb):PE X (.IfExp c a b pos) (ZB tA ta tb):=by
 intro pins s σ H Q I h;refine wpAny_IfExp (ja (hc pins s σ H _ I h) λd s1 zq=>?_);obtain⟨H1,I1,q1⟩:=zq;cases d with
 |true=>exact ha pins s1 σ H1 Q I1 q1
 |false=>exact hb pins s1 σ H1 Q I1 q1
end
def oa (K:W.Frag)(H:Hp)(a:af)(xs:List V):Prop:=
 Rd H a (.lst xs)\/
  ∃(o:bE) (hX:Array ae) (n:Nat),K.lookup a=aa o/\o.cls=.type "list"/\o.dict=ak/\o.data=.seq hX n/\hX.size<=aH/\Vals xs hX.toList
def vD (K:W.Frag)(H:Hp)(a:af)(xs:List V):Prop:=
 Rd H a (.tup xs)\/
  ∃(o:bE) (hX:Array ae) (n:Nat),K.lookup a=aa o/\o.cls=.type "tuple"/\o.data=.seq hX n/\hX.size<=aH/\Vals xs hX.toList
noncomputable def VY:ae->Option V
 |.none=>aa .non
 |.bool b=>aa (.bl b)
 |.int i _=>aa (.int i)
 |.str x _=>aa (.str x)
 |.bytes b _=>aa (.HS b)
 |.float b _=>aa (.RL b)
 |.ref a=>aa (.ref a)
 |.type n=>aa (.ty n)
 |_=>ak
theorem RelV.abs{x:V}{u:ae}(r:RelV x u):VY u=aa x:=by
 cases x with
 |non=>cases r;rfl
 |bl _=>cases r;rfl
 |int _=>obtain⟨t,rfl⟩:=r;rfl
 |str _=>obtain⟨t,rfl⟩:=r;rfl
 |HS _=>obtain⟨t,rfl⟩:=r;rfl
 |RL _=>obtain⟨t,rfl⟩:=r;rfl
 |ref _=>cases r;rfl
 |ty _=>cases r;rfl
theorem RelV.inj{x y:V}{u:ae}(r:RelV x u)(q:RelV y u):x=y:=bh (r.abs.symm.trans q.abs)
theorem Vals.inj:∀{xs ys:List V} {us:List ae},Vals xs us->Vals ys us->xs=ys
 |_,_,_,.nil,.nil=>rfl
 |_,_,_,.cons r t,.cons r' t'=>by rw[r.inj r',Vals.inj t t']
section
variable {X:Cx} {pins:List (af×bE)} {σ:St} {H:Hp} {s:ag} {a:af} {xs ys:List V}
theorem oa.of{K:W.Frag}(h:H a=aa (.lst xs)):oa K H a xs:=.inl (.inl h)
theorem Inv.list(I:Inv X pins σ H s)(h:oa X.K H a xs):∃hX:List ae,Vals xs hX/\PlainL s.heap a hX.toArray/\xs.length<=aH:=by
 rcases h with h|⟨o,hX,n,hk,hc,hd,hs,hz,r⟩
 ·obtain⟨z,hX,n,r,e⟩:=h.ok I.iy;exact⟨hX,r,⟨_,n,e,rfl,rfl,rfl⟩,z⟩
 ·refine⟨hX.toList,r,⟨o,n,I.pD a o hk,hc,hd,by simpa using hs⟩,?_⟩;have e:=r.length;simp only [Array.length_toList] at e;omega
theorem Inv.tuple(I:Inv X pins σ H s)(h:vD X.K H a xs):∃hX:List ae,Vals xs hX/\fq s.heap a hX.toArray/\xs.length<=aH:=by
 rcases h with h|⟨o,hX,n,hk,hc,hs,hz,r⟩
 ·obtain⟨z,hX,r,p⟩:=h.ok I.iy;exact⟨hX,r,p,z⟩
 ·refine⟨hX.toList,r,⟨o,I.pD a o hk,hc,n,by simpa using hs⟩,?_⟩;have e:=r.length;simp only [Array.length_toList] at e;omega
theorem Inv.Bw(I:Inv X pins σ H s)(h:oa X.K H a xs)(h':oa X.K H a ys):xs=ys:=by
 obtain⟨hX,r,⟨o,n,e,_,_,d⟩,_⟩:=I.list h;obtain⟨t8,r',⟨o',n',e',_,_,d'⟩,_⟩:=I.list h';rw[e] at e';cases e';rw[d] at d';injection d' with d1 _;have:hX=t8:=by simpa using congrArg Array.toList d1
 subst this;exact r.inj r'
theorem Inv.yB(I:Inv X pins σ H s)(h:vD X.K H a xs)(h':vD X.K H a ys):xs=ys:=by
 obtain⟨hX,r,⟨o,e,_,n,d⟩,_⟩:=I.tuple h;obtain⟨t8,r',⟨o',e',_,n',d'⟩,_⟩:=I.tuple h';rw[e] at e';cases e';rw[d] at d';injection d' with d1 _;have:hX=t8:=by simpa using congrArg Array.toList d1
 subst this;exact r.inj r'
end
abbrev Cx.xQ(X:Cx)(E:ae->ag->Prop):Cx:={X with xe:=E}
abbrev Cx.DV(X:Cx):Cx:=X.xQ λ_ _=>False
theorem Cx.Ok.xQ{X:Cx}(ok:X.Ok)(E:ae->ag->Prop):(X.xQ E).Ok:=
 ⟨ok.mod,ok.kind,ok.glob,ok.blt,ok.above,ok.inj,ok.has,ok.NK,ok.hd,ok.frames,ok.OV,ok.Sb,ok.bs,ok.Fp,ok.Bt,ok.Bu,ok.px,ok.HU⟩
theorem Cx.Ok.pI{X:Cx}{E:ae->ag->Prop}(ok:(X.xQ E).Ok):X.Ok:=
 ⟨ok.mod,ok.kind,ok.glob,ok.blt,ok.above,ok.inj,ok.has,ok.NK,ok.hd,ok.frames,ok.OV,ok.Sb,ok.bs,ok.Fp,ok.Bt,ok.Bu,ok.px,ok.HU⟩
section
variable {X:Cx} {pins:List (af×bE)} {σ:St} {H:Hp} {s:ag} {E:ae->ag->Prop}
theorem Inv.xQ(I:Inv X pins σ H s)(E:ae->ag->Prop):Inv (X.xQ E) pins σ H s:=⟨I.ok.xQ E,I.os,I.bare,I.base,I.loc,I.cell,I.free,I.jX,I.pin,I.iy,I.len⟩
theorem Inv.pI(I:Inv (X.xQ E) pins σ H s):Inv X pins σ H s:=⟨I.ok.pI,I.os,I.bare,I.base,I.loc,I.cell,I.free,I.jX,I.pin,I.iy,I.len⟩
theorem SP.pI{D:Ends}{f:Flow}{s':ag}(h:SP (X.xQ E) pins D f s'):SP X pins D f s':=by
 cases f with
 |next=>obtain⟨iF,H',I,q⟩:=h;exact⟨iF,H',I.pI,q⟩
 |brk=>obtain⟨iF,H',I,q⟩:=h;exact⟨iF,H',I.pI,q⟩
 |cont=>obtain⟨iF,H',I,q⟩:=h;exact⟨iF,H',I.pI,q⟩
 |ret u=>obtain⟨v,iF,H',I,r,q⟩:=h;exact⟨v,iF,H',I.pI,r,q⟩
theorem pH.DV{st:List br}{t:TS}(h:pH X.DV st t):pH X st t:=λpins s σ H D I hw=>
 bR (h pins s σ H D (I.xQ _) hw) (λ_ _ q=>q.pI) λ_ _ z=>bu z
end
section
variable {X:Cx} {st:br} {rest:List br} {t u:TS} {e:aM} {te:TE} {pos:cu}
def Sg:TS:=λD σ H=>D.nx σ H
def O2 (t u:TS):TS:=λD σ H=>t {D with nx:=u D} σ H
theorem Fw:pH X [] Sg:=λ_ _ σ H _ I h=>dJ ⟨σ,H,I,h⟩
theorem sI(h1:PS X st t)(h2:pH X rest u):pH X (st::rest) (O2 t u):=by
 intro pins s σ H D I h;refine eS (ja (h1 pins s σ H {D with nx:=u D} I h) λf s1 q=>?_);cases f with
 |next=>
  obtain⟨iF,H',I',q⟩:=q;exact h2 pins s1 iF H' D I' q
 |ret v=>exact q
 |brk=>exact q
 |cont=>exact q
theorem Fx(h1:PS X st t):pH X [st] t:=by
 intro pins s σ H D I h;refine eS (ja (h1 pins s σ H D I h) λf s1 q=>?_);cases f with
 |next=>exact dJ q
 |ret v=>exact q
 |brk=>exact q
 |cont=>exact q
theorem Inv.quiet{pins:List (af×bE)}{σ:St}{H:Hp}{s:ag}(I:Inv X pins σ H s):interactive X.env=ai:=by simp[interactive,I.ok.kind]
def NO (te:TE):TS:=λD σ H=>te σ H λ_ H1=>D.nx σ H1
theorem zF(he:PE X e te)(hs:cW e ak pos.line X.env=pure ai:=by rfl):PS X (.Expr e pos) (NO te):=by intro pins s σ H D I h;exact wpAny_Expr_any (ja (he pins s σ H _ I h) λv s1 ⟨x,H1,I1,r1,q1⟩=>⟨σ,H1,I1,q1⟩) I.quiet hs
def VZ (te:TE):TS:=λD σ H=>te σ H D.rt
theorem Io(he:PE X e te):PS X (.Return (aa e) pos) (VZ te):=by intro pins s σ H D I h;exact wpAny_Return_some (ja (he pins s σ H _ I h) λv s1 ⟨x,H1,I1,r1,q1⟩=>⟨x,σ,H1,I1,r1,q1⟩)
def Sh:TS:=λD _ H=>D.rt .non H
theorem LC:PS X (.Return ak pos) Sh:=λ_ _ σ H _ I h=>wpAny_Return_none ⟨.non,σ,H,I,rfl,h⟩
def V0 (c:TT)(t u:TS):TS:=λD σ H=>c σ H λb H1=>if b=ah then t D σ H1 else u D σ H1
theorem NP{c:aM}{a b:List br}{tc:TT}(hc:PT X c tc)(ha:pH X a t)(hb:pH X b u):PS X (.If c a b pos) (V0 tc t u):=by
 intro pins s σ H D I h;refine wpAny_If (ja (hc pins s σ H _ I h) λd s1 zq=>?_);obtain⟨H1,I1,q1⟩:=zq;cases d with
 |true=>exact ha pins s1 σ H1 D I1 q1
 |false=>exact hb pins s1 σ H1 D I1 q1
end
abbrev TG:=V->St->Hp->(St->Hp->Prop)->Prop
abbrev Lm:=List V->St->Hp->(St->Hp->Prop)->Prop
def PG (X:Cx)(target:aM)(t:TG):Prop:=
 ∀(pins:List (af×bE)) (s:ag) (σ:St) (H:Hp) (v:V) (u:ae) (Q:St->Hp->Prop),Inv X pins σ H s->RelV v u->t v σ H Q->
  wpAny (model X.prog X.w) X.A (assign target X.env u) (λ_ s'=>∃iF H',Inv X pins iF H' s'/\Q iF H') X.xe s
def Ip (X:Cx)(ts:List aM)(t:Lm):Prop:=
 ∀(pins:List (af×bE)) (s:ag) (σ:St) (H:Hp) (vs:List V) (us:List ae) (Q:St->Hp->Prop),Inv X pins σ H s->Vals vs us->t vs σ H Q->
  wpAny (model X.prog X.w) X.A (assignInOrder ((cD ts X.env).map (·.2)) us) (λ_ s'=>∃iF H',Inv X pins iF H' s'/\Q iF H') X.xe s
abbrev Iq:=V->V->V->Hp->(Hp->Prop)->Prop
def O3 (X:Cx)(t:Iq):Prop:=
 ∀(pins:List (af×bE)) (s:ag) (σ:St) (H:Hp) (o i v:V) (ov iv u:ae) (Q:Hp->Prop),Inv X pins σ H s->RelV o ov->RelV i iv->RelV v u->t o i v H Q->
  wpAny (model X.prog X.w) X.A (fH ov iv u) (λ_ s'=>∃H',Inv X pins σ H' s'/\Q H') X.xe s
abbrev V1:=V->V->Hp->VK->Prop
def UX (X:Cx)(op:ee)(t:V1):Prop:=
 ∀(pins:List (af×bE)) (s:ag) (σ:St) (H:Hp) (x y:V) (v u:ae) (Q:VK),Inv X pins σ H s->RelV x v->RelV y u->t x y H Q->
  wpAny (model X.prog X.w) X.A (aat op v u) (EP X pins σ Q) X.xe s
section
variable {X:Cx} {pos:cu}
def NQ (i:Nat):TG:=λv σ H Q=>Q (σ.set i (aa v)) H
theorem LD{i:Nat}{x:ar}(hN:X.N.Nodup)(hi:X.N[i]?=aa x)(hx:Loc X.env.scope x)(hf:X.fn x=ah\/X.env.scope.names.lookup x=aa .local:=by first|exact .inl rfl|exact .inr rfl|assumption):PG X (.Name x pos) (NQ i):=by intro pins s σ H v u Q I r h;exact wpAny_assign_Name (Bv I hN hi hx r (λs' I'=>⟨_,H,I',h⟩) hf)
def V2:Lm:=λvs σ H Q=>vs=[]/\Q σ H
def Si (t:TG)(u:Lm):Lm:=λvs σ H Q=>∃v r,vs=v::r/\t v σ H λiF H'=>u r iF H' Q
theorem LF:Ip X [] V2:=by intro pins s σ H vs us Q I r h;obtain⟨e,h⟩:=h;subst e;cases r;exact assignInOrder_nil ⟨σ,H,I,h⟩
theorem Ir{e:aM}{es:List aM}{t:TG}{u:Lm}(h1:PG X e t)(h2:Ip X es u)
(hs:(cD (e::es) X.env).map (·.2)=assign e X.env::(cD es X.env).map (·.2):=by rfl):Ip X (e::es) (Si t u):=by
 intro pins s σ H vs us Q I r h;obtain⟨v,vr,e1,h⟩:=h;subst e1;cases r with
 |cons r rr=>
  rw[hs];refine assignInOrder_cons (ja (h1 pins s σ H _ _ _ I r h) λ_ s1 zq=>?_);obtain⟨DC,H1,I1,q1⟩:=zq;exact h2 pins s1 DC H1 _ _ Q I1 rr q1
def V3 (K:W.Frag)(n:Nat)(t:Lm):TG:=λv σ H Q=>∃a xs,v=.ref a/\vD K H a xs/\xs.length=n/\t xs σ H Q
theorem O4{es:List aM}{k:Nat}{t:Lm}{n:Nat}(hc:X.calm=ah)(h:Ip X es t)
(hn:(cD es X.env).length=n:=by rfl)(l8:(cD es X.env).findIdx? (·.1)=ak:=by rfl):PG X (.Tuple es k pos) (V3 X.K n t):=by intro pins s σ H v u Q I r hw;obtain⟨a,xs,e1,hq,hl,hw⟩:=hw;subst e1;cases r;obtain⟨hX,rv,ht,hz⟩:=I.tuple hq;refine assign_Tuple_tuple (I.ok.hd hc) ht (by simp[hn,<-hl,rv.length]) l8 λh' hx=>?_;have I1:Inv X pins σ H {s with heap:=h'}:=I.kept (t':=s.toks) λb o e=>hx b o (bM (aJ e)) e;exact h pins _ σ H xs _ Q I1 (by simpa using rv) hw
def V4 (to ti:TE)(t:Iq):TG:=λv σ H Q=>to σ H λo H1=>ti σ H1 λi H2=>t o i v H2 λH3=>Q σ H3
theorem O5{o i:aM}{to ti:TE}{t:Iq}(ho:PE X o to)(hi:PE X i ti)(hs:O3 X t)
(ha:∀v,assign (.Subscript o i pos) X.env v=(do
   let ov<-holding [v] (eval o X.env);let iv<-holding [v,ov] (eval i X.env)
   eF pos
   holding [v,ov,iv] (fH ov iv v)
   release [v,ov,iv] []):=by intro _;rfl):PG X (.Subscript o i pos) (V4 to ti t):=by intro pins s σ H v u Q I r h;rw[ha];refine aj (b6 (ja (ho pins s σ H _ I h) λov s1 zq=>?_));obtain⟨x,H1,I1,r1,q1⟩:=zq;refine aj (b6 (ja (hi pins s1 σ H1 _ I1 q1) λiv s2 zq=>?_));obtain⟨y,H2,I2,r2,q2⟩:=zq;refine aj (c6 (aj (b6 (ja (hs pins s2 σ H2 x y v ov iv u _ I2 r1 r2 r q2) λ_ s3 zq=>?_))));obtain⟨H3,I3,q3⟩:=zq;exact wpAny_release ⟨σ,H3,I3,q3⟩
def Sj (te:TE)(g:TG):TS:=λD σ H=>te σ H λx H1=>g x σ H1 D.nx
theorem Iu{tg e:aM}{te:TE}{g:TG}(he:PE X e te)(hg:PG X tg g)(hs:fi [tg] e pos.line X.env=pure ai:=by rfl)(hw:fj [tg] e X.env=pure ak:=by rfl)
(h1:(cD [tg] X.env).map (·.2)=[assign tg X.env]:=by rfl):PS X (.Assign [tg] e pos) (Sj te g):=by intro pins s σ H D I h;refine wpAny_Assign_stores (ja (he pins s σ H _ I h) λv s1 ⟨x,H1,I1,r1,q1⟩=>?_) hs hw;rw[h1];exact ja (hg pins s1 σ H1 x v _ I1 r1 q1) λ_ s2 q=>q
theorem Iv{i:Nat}{x:ar}{e:aM}{te:TE}{pos':cu}(hN:X.N.Nodup)(hi:X.N[i]?=aa x)(hx:Loc X.env.scope x)(he:PE X e te)(hs:cW e (aa (.Name x pos')) pos.line X.env=pure ai:=by rfl)(hf:X.fn x=ah\/X.env.scope.names.lookup x=aa .local:=by first|exact .inl rfl|exact .inr rfl|assumption):
  PS X (.Assign [.Name x pos'] e pos) (Sj te (NQ i)):=by intro pins s σ H D I h;refine wpAny_Assign_Name (ja (he pins s σ H _ I h) λv s1 ⟨y,H1,I1,r1,q1⟩=>?_) hs;exact Bv I1 hN hi hx r1 (λs2 I2=>⟨_,H1,I2,q1⟩) hf
def Sl (to ti te:TE)(LG:V->V->Hp->VK->Prop)(UY:V1)(LH:Iq):TS:=λD σ H=>to σ H λo H1=>ti σ H1 λi H2=>LG o i H2 λx H3=>te σ H3 λy H4=>UY x y H4 λz H5=>LH o i z H5 λH6=>D.nx σ H6
def Sm (X:Cx)(t:V->V->Hp->VK->Prop):Prop:=
 ∀(pins:List (af×bE)) (s:ag) (σ:St) (H:Hp) (o i:V) (ov iv:ae) (Q:VK),Inv X pins σ H s->RelV o ov->RelV i iv->t o i H Q->
  wpAny (model X.prog X.w) X.A (eG ov iv) (EP X pins σ Q) X.xe s
theorem LI{o i e:aM}{to ti te:TE}{LG:V->V->Hp->VK->Prop}{UY:V1}{LH:Iq}{op:ee}{Bx:cu}(ho:PE X o to)(hi:PE X i ti)(hg:Sm X LG)(he:PE X e te)(hp:UX X op UY)(hs:O3 X LH)
(ha:∀ov iv new,augStore i ov iv new=(do holding [new,ov,iv] (fH ov iv new);release [new,ov,iv] [];pure .next):=by intros;rfl):PS X (.AugAssign (.Subscript o i Bx) op e pos) (Sl to ti te LG UY LH):=by intro pins s σ H D I h;refine wpAny_AugAssign_SubscriptAny (ja (ho pins s σ H _ I h) λov s1 ⟨x1,H1,I1,r1,q1⟩=>?_) ha;refine ja (hi pins s1 σ H1 _ I1 q1) λiv s2 zq=>?_;obtain⟨x2,H2,I2,r2,q2⟩:=zq;refine ja (hg pins s2 σ H2 x1 x2 ov iv _ I2 r1 r2 q2) λold s3 zq=>?_;obtain⟨x3,H3,I3,r3,q3⟩:=zq;refine ja (he pins s3 σ H3 _ I3 q3) λv s4 zq=>?_;obtain⟨x4,H4,I4,r4,q4⟩:=zq;refine ja (hp pins s4 σ H4 x3 x4 old v _ I4 r3 r4 q4) λnew s5 zq=>?_;obtain⟨x5,H5,I5,r5,q5⟩:=zq;exact ja (hs pins s5 σ H5 x1 x2 x5 ov iv new _ I5 r1 r2 r5 q5) λ_ s6 ⟨H6,I6,q6⟩=>⟨σ,H6,I6,q6⟩
end
section
variable {X:Cx} {pos:cu}
end
structure It where
 go:Nat->Hp->Prop
 NR:Nat->Hp->V->Hp->Prop
 stop:Nat->Hp->Prop
def t9 (X:Cx)(pins:List (af×bE))(H:Hp)(b:af):Prop:=
 H b=ak/\b≠X.env.locals/\b∉X.fs/\(b∈X.ex\/X.gG.heap.objs.size<=b)/\(∀x c,X.env.cells.lookup x=aa c->c≠b)/\∀p∈X.pn++pins,p.1≠b
theorem Inv.GL{X:Cx}{pins:List (af×bE)}{σ:St}{H H':Hp}{s:ag}{b:af}(I:Inv X pins σ H s)(hb:s.heap.objs.size<=b)(hn:H' b=ak):t9 X pins H' b:=by
 refine⟨hn,dB (aB I.lt hb),I.VQ hb,.inr (aT I.sz hb),λx c e z=>?_,λp hp z=>?_⟩
 ·obtain⟨v,q⟩:=I.cell x c e;exact absurd (aB q.lt (by rw[z];exact hb)) (b5 _)
 ·exact absurd (aB (aJ (I.pin p hp).1) (by rw[z];exact hb)) (b5 _)
structure Turn(P:ao)(w:aE)(K:W.Frag)(tg:aM)(J:It)(fp:List af)(it:af)(tn:Nat->aq->Prop):Prop where
 mem:it∈fp
 obj:∀i h,tn i h->∀b∈fp,∃o,h.get? b=aa o/\∀v,o.data≠.cell v
 keep:∀i h h',tn i h->(∀b∈fp,∀o,h.get? b=aa o->h'.get? b=aa o)->tn i h'
 item:∀(X:Cx),X.prog=P->X.w=w->X.K=K->X.calm=ah->∀(i:Nat) (pins:List (af×bE)) (s:ag) (σ:St) (H:Hp) (E:ae->ag->Prop),Inv X pins σ H s->(∀b∈fp,t9 X pins H b)->tn i s.heap->J.go i H->
  wpAny (model P w) X.A (pyNext (.ref it)) (λr s1=>∃u,r=aa u/\
   wpAny (model P w) X.A (letOwnedTupleGo tg (.ref it) u) (λ_ s2=>∃x H',Inv X pins σ H' s2/\RelV x u/\J.NR i H x H'/\tn (i+1) s2.heap/\∀b∈fp,H' b=ak) E s1) E s
 done:∀(X:Cx),X.prog=P->X.w=w->X.K=K->X.calm=ah->∀(i:Nat) (pins:List (af×bE)) (s:ag) (σ:St) (H:Hp) (E:ae->ag->Prop),Inv X pins σ H s->(∀b∈fp,t9 X pins H b)->tn i s.heap->J.stop i H->
  wpAny (model P w) X.A (pyNext (.ref it)) (λr s1=>r=ak/\Inv X pins σ H s1) E s
 self:∀(A:ay) (i:Nat) (s:ag) (Q:ae->ag->Prop) (E:ae->ag->Prop),tn i s.heap->Q (.ref it) s->wpAny (model P w) A (fJ (.ref it)) Q E s
abbrev TI:=St->Hp->(It->Hp->Prop)->Prop
def V5 (X:Cx)(pins:List (af×bE))(σ:St)(tg:aM)(R:It->Hp->Prop)(V6:ae)(s2:ag):Prop:=
 ∃(it:af) (fp:List af) (tn:Nat->aq->Prop) (J:It) (H':Hp),V6=.ref it/\Inv X pins σ H' s2/\Turn X.prog X.w X.K tg J fp it tn/\tn 0 s2.heap/\(∀b∈fp,t9 X pins H' b)/\R J H'
def PI (X:Cx)(tg iter:aM)(wi:TI):Prop:=
 ∀(pins:List (af×bE)) (s:ag) (σ:St) (H:Hp) (R:It->Hp->Prop),Inv X pins σ H s->wi σ H R->
  wpAny (model X.prog X.w) X.A (eval iter X.env) (λv s1=>wpAny (model X.prog X.w) X.A (fJ v) (V5 X pins σ tg R) X.xe s1) X.xe s
theorem yC{M:fb}{A:ay}{E:ae->ag->Prop}{s:ag}{tg:aM}{it:af}{u:ae}{o:bE}{n:String}{vs:Array ae}{Q:Unit->ag->Prop}(ho:s.heap.get? it=aa o)(hc:o.cls=.type n)(hd:o.data=.fields vs)
(hn:["enumerate","zip","dict_itemiterator","dict_reverseitemiterator","odict_iterator","itertools.zip_longest","itertools.pairwise"].contains n=ai)(hQ:Q () s):wpAny M A (letOwnedTupleGo tg (.ref it) u) Q E s:=by
 unfold letOwnedTupleGo;cases tg<;>first
  |exact az hQ
  | (cases u<;>first
    |exact az hQ
    | (refine aj (wpAny_load ho ?_)
       rw[hc,hd];show wpAny M A (if(["enumerate","zip","dict_itemiterator","dict_reverseitemiterator","odict_iterator","itertools.zip_longest","itertools.pairwise"].contains n&&vs[0]?==aa (cJ _))=ah then _ else _) Q E s;rw[if_neg (by intro h;rw[hn,Bool.false_and] at h;cases h)];exact az hQ))
noncomputable def Yq(K:W.Frag)(a:af):It:=
 ⟨λi H=>∃xs x,oa K H a xs/\xs[i]?=aa x,λi H x H'=>H'=H/\∀xs,oa K H a xs->xs[i]?=aa x,λi H=>∃xs,oa K H a xs/\xs.length<=i⟩
noncomputable def Yr(K:W.Frag)(a:af):It:=
 ⟨λi H=>∃xs x,vD K H a xs/\xs[i]?=aa x,λi H x H'=>H'=H/\∀xs,vD K H a xs->xs[i]?=aa x,λi H=>∃xs,vD K H a xs/\xs.length<=i⟩
noncomputable def UZ(lo:Int)(n:Nat):It:=⟨λi _=>i<n,λi H x H'=>H'=H/\x=.int (lo+i),λi _=>n<=i⟩
theorem GO{P:ao}{w:aE}{K:W.Frag}{tg:aM}(a it:af):Turn P w K tg (Yq K a) [it] it (λi h=>h.IsListIter it a i) where
 mem:=by simp
 obj:=λi h st b hb=>by
  have e:b=it:=by simpa using hb
  subst e;obtain⟨o,e,c,d⟩:=st;exact⟨o,e,λv z=>by rw[d] at z;cases z⟩
 keep:=λi h h' st k=>st.at λo e=>k it (by simp) o e
 item:=by intro X hP hw hK hc i pins s σ H E I hf st hg;subst hP hw hK;obtain⟨xs,x,hq,hx⟩:=hg;obtain⟨hX,rv,p,hz⟩:=I.list hq;obtain⟨u,hu,ru⟩:=rv.get hx;obtain⟨f0,f1,f2,f3,f4,f5⟩:=hf it (by simp);refine wpAny_pyNext_list_item st p.isList (x:=u) (by simpa using hu) λh' By sb=>?_;have I1:Inv X pins σ H {s with heap:=h'}:=I.turned (t':=s.toks) (λb o hb e=>(sb.2 b hb).trans e) f0 f1 f3 f4 f5;obtain⟨o,e,c,d⟩:=id By;exact⟨u,rfl,yC (s:={s with heap:=h'}) e c d (by decide) ⟨x,H,I1,ru,⟨rfl,λys hy=>by rw[I.Bw hy hq];exact hx⟩,By,λb hb=>(hf b hb).1⟩⟩
 done:=by intro X hP hw hK hc i pins s σ H E I hf st hg;subst hP hw hK;obtain⟨xs,hq,hx⟩:=hg;obtain⟨hX,rv,p,hz⟩:=I.list hq;obtain⟨f0,f1,f2,f3,f4,f5⟩:=hf it (by simp);have hl:=rv.length;exact wpAny_pyNext_list_end (I.ok.hd hc) st p.isList (by simp;omega) λh' eb=>⟨rfl,I.turned (t':=s.toks) (λb o hb e=>eb b o hb e) f0 f1 f3 f4 f5⟩
 self:=λ_ _ _ _ _ st h=>wpAny_pyIter_listiter st h
theorem DW{P:ao}{w:aE}{K:W.Frag}{tg:aM}(a it:af):Turn P w K tg (Yr K a) [it] it (λi h=>h.IsTupleIter it a i) where
 mem:=by simp
 obj:=λi h st b hb=>by
  have e:b=it:=by simpa using hb
  subst e;obtain⟨o,e,c,d⟩:=st;exact⟨o,e,λv z=>by rw[d] at z;cases z⟩
 keep:=λi h h' st k=>st.at λo e=>k it (by simp) o e
 item:=by intro X hP hw hK hc i pins s σ H E I hf st hg;subst hP hw hK;obtain⟨xs,x,hq,hx⟩:=hg;obtain⟨hX,rv,p,hz⟩:=I.tuple hq;obtain⟨u,hu,ru⟩:=rv.get hx;obtain⟨f0,f1,f2,f3,f4,f5⟩:=hf it (by simp);refine wpAny_pyNext_tuple_item st (show s.heap.IsTuple a hX.toArray from p) (x:=u) (by simpa using hu) λh' By sb=>?_;have I1:Inv X pins σ H {s with heap:=h'}:=I.turned (t':=s.toks) (λb o hb e=>(sb.2 b hb).trans e) f0 f1 f3 f4 f5;obtain⟨o,e,c,d⟩:=id By;exact⟨u,rfl,yC (s:={s with heap:=h'}) e c d (by decide) ⟨x,H,I1,ru,⟨rfl,λys hy=>by rw[I.yB hy hq];exact hx⟩,By,λb hb=>(hf b hb).1⟩⟩
 done:=by intro X hP hw hK hc i pins s σ H E I hf st hg;subst hP hw hK;obtain⟨xs,hq,hx⟩:=hg;obtain⟨hX,rv,p,hz⟩:=I.tuple hq;obtain⟨f0,f1,f2,f3,f4,f5⟩:=hf it (by simp);have hl:=rv.length;exact wpAny_pyNext_tuple_end (I.ok.hd hc) st (show s.heap.IsTuple a hX.toArray from p) (by simp;omega) λh' eb=>⟨rfl,I.turned (t':=s.toks) (λb o hb e=>eb b o hb e) f0 f1 f3 f4 f5⟩
 self:=λ_ _ _ _ _ st h=>wpAny_pyIter_tupleiter st h
theorem DX{P:ao}{w:aE}{K:W.Frag}{tg:aM}(it:af)(lo:Int)(n:Nat):Turn P w K tg (UZ lo n) [it] it (λi h=>eX h it (lo+(i:Nat)*1) ((n:Int)- (i:Nat)) 1) where
 mem:=by simp
 obj:=λi h st b hb=>by
  have e:b=it:=by simpa using hb
  subst e;exact⟨_,st,λv z=>by have z':Data.fields _=Data.cell v:=z;cases z'⟩
 keep:=λi h h' st k=>k it (by simp) _ st
 item:=by intro X hP hw hK hc i pins s σ H E I hf st hg;subst hP hw hK;obtain⟨f0,f1,f2,f3,f4,f5⟩:=hf it (by simp);have W:=zJ.range (prog:=X.prog) (w:=X.w) (I.ok.hd hc) it lo 1 n;refine W.item i s _ _ hg st λv h' tk hv By kk=>?_;obtain⟨t,rfl⟩:=hv;have I1:Inv X pins σ H {s with heap:=h',toks:=tk}:=I.turned (λb o hb e=>kk b o (by simpa using hb) e) f0 f1 f3 f4 f5;refine⟨_,rfl,yC (s:={s with heap:=h',toks:=tk}) (n:="range_iterator") By rfl rfl (by decide) ⟨.int (lo+i),H,I1,⟨t,?_⟩,⟨rfl,rfl⟩,By,λb hb=>(hf b hb).1⟩⟩;rw[Int.mul_one]
 done:=by intro X hP hw hK hc i pins s σ H E I hf st hg;subst hP hw hK;obtain⟨f0,f1,f2,f3,f4,f5⟩:=hf it (by simp);exact fM (I.ok.hd hc) st (by have:n<=i:=hg;omega) λh' eb=>⟨rfl,I.turned (t':=s.toks) (λb o hb e=>eb b o hb e) f0 f1 f3 f4 f5⟩
 self:=λ_ _ _ _ _ st h=>fN st h
section
variable {X:Cx} {tg:aM}
theorem Iw{pins:List (af×bE)}{σ:St}{H:Hp}{s:ag}{R:It->Hp->Prop}{E:ae->ag->Prop}{lo hi:Int}{t u v:gm}{tk:Nat}(I:Inv X pins σ H s)(h1:-(2^62)<=lo)(h2:lo<2^62)(h3:-(2^62)<=hi)(h4:hi<2^62)
(q:R (UZ lo (hi- lo).toNat) H):wpAny (model X.prog X.w) X.A (fJ (.ref s.heap.objs.size)) (V5 X pins σ tg R) E {s with heap:=s.heap.push {cls:=.type "range",data:=.fields #[.int lo t,.int hi u,.int 1 v]},toks:=tk}:=by
 refine gf (IsRange.new ..) (small_one h1 h2 h3 h4) ?_;have I1:Inv X pins σ H {s with heap:=s.heap.push {cls:=.type "range",data:=.fields #[.int lo t,.int hi u,.int 1 v]},toks:=tk}:=I.kept λb o e=>au _ e;refine⟨(s.heap.push {cls:=.type "range",data:=.fields #[.int lo t,.int hi u,.int 1 v]}).objs.size,[(s.heap.push {cls:=.type "range",data:=.fields #[.int lo t,.int hi u,.int 1 v]}).objs.size],_,_,H,rfl,
  I1.kept (t':=tk) λb o e=>au _ e,DX _ lo (hi- lo).toNat,?_,λb hb=>?_,q⟩
 ·have e1:lo+((0:Nat):Int)*1=lo:=by simp
  have e2:(((hi- lo).toNat:Nat):Int)- ((0:Nat):Int)=bI lo hi 1:=by rw[rangeSize_one];split<;>omega
  show eX _ _ (lo+((0:Nat):Int)*1) ((((hi- lo).toNat:Nat):Int)- ((0:Nat):Int)) 1;rw[e1,e2];exact bg _ rfl
 ·have e:b=(s.heap.push {cls:=.type "range",data:=.fields #[.int lo t,.int hi u,.int 1 v]}).objs.size:=by simpa using hb
  subst e;exact I1.GL (bf _) (I1.iy.fresh (bf _))
def Sn (ta:TA):TI:=λσ H R=>ta σ H λvs H1=>∃j:Int,vs=[.int j]/\-(2^62)<=j/\j<2^62/\R (UZ 0 j.toNat) H1
theorem GQ{a:aM}{ta:TA}{p pos:cu}(hg:Gl X "range")(hm:X.mg "range"=ak)(ha:PA X [a] ta)(hs:av [a] X.env=[(ai,eval a X.env)]:=by rfl):PI X tg (.Call (.Name "range" p) [a] [] pos) (Sn ta):=by
 intro pins s σ H R I h;refine Call_ (zE I hg hm boot_range (c9 (ja (ha pos pins s σ H _ I h) λus s1 ⟨vs,H1,I1,r1,q1⟩=>?_) hs rfl));obtain⟨j,e,q1,q2,q⟩:=q1;subst e;cases r1 with
 |cons r rr=>
  cases rr;obtain⟨t,rfl⟩:=r;exact call_range_1 (Iw I1 (by omega) (by omega) q1 q2 (by simpa using q))
def V7 (wi:TI)(g:TG)(tb:TS):TS:=λD σ H=>wi σ H λJ H1=>∃W:Nat->Nat->St->Hp->Prop,(∃m,W 0 m σ H1)/\∀i m σ H,W i m σ H->
 (J.stop i H/\D.nx σ H)\/(J.go i H/\∃N:St->Hp->Prop,(∀iF H',N iF H'->∃m',m'<m/\W (i+1) m' iF H')/\∀x H',J.NR i H x H'->g x σ H' λBz H2=>tb {D with nx:=N,ct:=N,bk:=D.nx} Bz H2)
noncomputable def vX(fp:List af)(h:aq):List (af×bE):=fp.filterMap λb=>(h.get? b).map λo=>(b,o)
theorem oj{fp:List af}{h:aq}{b:af}{o:bE}(hb:b∈fp)(e:h.get? b=aa o):(b,o)∈vX fp h:=List.mem_filterMap.mpr ⟨b,hb,by rw[e];rfl⟩
theorem GR{fp:List af}{h:aq}{p:af×bE}(hp:p∈vX fp h):p.1∈fp/\h.get? p.1=aa p.2:=by
 obtain⟨b,hb,e⟩:=List.mem_filterMap.mp hp;cases q:h.get? b with
 |none=>rw[q] at e;cases e
 |some o=>
  rw[q] at e;have e':(b,o)=p:=bh e;subst e';exact⟨hb,q⟩
theorem Inv.pinned{pins:List (af×bE)}{σ:St}{H:Hp}{s:ag}{fp:List af}(I:Inv X pins σ H s)(hf:∀b∈fp,t9 X pins H b)(ho:∀b∈fp,∃o,s.heap.get? b=aa o/\∀v,o.data≠.cell v):Inv X (pins++vX fp s.heap) σ H s:=
 I.Fs λp hp=>(bi.mp hp).elim (λz=>I.pin p (aY _ z)) λz=>by obtain⟨hb,e⟩:=GR z;obtain⟨f0,f1,f2,_⟩:=hf p.1 hb;obtain⟨o,e',d⟩:=ho p.1 hb;rw[e] at e';cases e';exact⟨e,f0,f1,f2,d⟩
theorem Inv.sJ{pins pl:List (af×bE)}{σ:St}{H:Hp}{s:ag}(I:Inv X (pins++pl) σ H s):Inv X pins σ H s:=I.Fs λp hp=>I.pin p (aY _ (bC _ hp))
theorem Ix{iter:aM}{body:List br}{wi:TI}{g:TG}{tb:TS}{pos:cu}(hp:eT (model X.prog X.w) X.A X.env X.xe)(hc:X.calm=ah)(hi:PI X tg iter wi)(hg:PG X tg g)(hb:pH X body tb)
(hs:∀x,dk iter X.env x=pure x:=by intro _;rfl):PS X (.For tg iter body [] pos) (V7 wi g tb):=by
 intro pins s σ H D I h;refine wpAny_For (ja (hi pins s σ H _ I h) λv s1 h1=>ja h1 λV6 s2 h2=>?_) hs;obtain⟨it,fp,tn,J,H2,e,I2,T,U0,f2,W,⟨m0,w0⟩,turn⟩:=h2;subst e;have DY:∀{H':Hp},(∀b∈fp,H' b=ak)->∀b∈fp,t9 X pins H' b:=λhn b hb=>⟨hn b hb,(f2 b hb).2⟩;refine codeAny_forLoop_any (λn s'=>∃i iF H',Inv X pins iF H' s'/\tn i s'.heap/\(∀b∈fp,H' b=ak)/\W i n iF H') ?_ m0 ⟨0,σ,H2,I2,U0,λb hb=>(f2 b hb).1,w0⟩;intro n s3 zq;obtain⟨i,Iy,H3,I3,U1,Ys,w3⟩:=zq;rcases turn i n Iy H3 w3 with⟨stop,qn⟩|⟨go,N,hN,step⟩
 ·refine dL hp (ja (T.done X rfl rfl rfl hc i pins s3 Iy H3 X.xe I3 (DY Ys) U1 stop) λr s4 zq=>?_);obtain⟨hr,I4⟩:=zq;subst hr;exact dJ ⟨Iy,H3,I4,qn⟩
 ·refine dL hp (ja (T.item X rfl rfl rfl hc i pins s3 Iy H3 X.xe I3 (DY Ys) U1 go) λr s4 zq=>?_);obtain⟨u,hr,h4⟩:=zq;subst hr;refine dL hp (ja h4 λ_ s5 zq=>?_);obtain⟨x,H5,I5,r5,y5,V8,ZC⟩:=zq;have ZD:=I5.pinned (DY ZC) (T.obj _ _ V8);refine dL hp (ja (hg _ s5 Iy H5 x u _ ZD r5 (step x H5 y5)) λ_ s6 zq=>?_);obtain⟨RN,H6,I6,q6⟩:=zq;refine dL hp (ja (hb _ s6 RN H6 _ I6 q6) λf s7 q7=>?_);have again:∀{Iz:St} {H7:Hp},Inv X (pins++vX fp s5.heap) Iz H7 s7->N Iz H7->∃m,m<n/\∃i iF H',Inv X pins iF H' s7/\tn i s7.heap/\(∀b∈fp,H' b=ak)/\W i m iF H':=λ{Iz H7} I7 n7=>by obtain⟨m',hm,w7⟩:=hN Iz H7 n7;refine⟨m',hm,i+1,Iz,H7,I7.sJ,T.keep _ _ _ V8 λb hb o e=>(I7.pin (b,o) (aY _ (aY _ (oj hb e)))).1,λb hb=>?_,w7⟩;obtain⟨o,e,d⟩:=T.obj _ _ V8 b hb;exact(I7.pin (b,o) (aY _ (aY _ (oj hb e)))).2.1
  cases f with
  |next=>obtain⟨Iz,H7,I7,n7⟩:=q7;exact again I7 n7
  |cont=>obtain⟨Iz,H7,I7,n7⟩:=q7;exact again I7 n7
  |brk=>obtain⟨Iz,H7,I7,q7⟩:=q7;exact⟨Iz,H7,I7.sJ,q7⟩
  |ret v=>obtain⟨x7,Iz,H7,I7,r7,q7⟩:=q7;exact⟨x7,Iz,H7,I7.sJ,r7,q7⟩
end
abbrev R2:=V->V->Hp->VK->Prop
def ol (X:Cx)(f:ae->ae->f9 ae)(r:R2):Prop:=
 ∀(pins:List (af×bE)) (s:ag) (σ:St) (H:Hp) (x y:V) (v u:ae) (Q:VK),Inv X pins σ H s->RelV x v->RelV y u->r x y H Q->
  wpAny (model X.prog X.w) X.A (f v u) (EP X pins σ Q) X.xe s
def U2 (X:Cx)(f:ae->f9 ae)(r:V->Hp->VK->Prop):Prop:=
 ∀(pins:List (af×bE)) (s:ag) (σ:St) (H:Hp) (x:V) (v:ae) (Q:VK),Inv X pins σ H s->RelV x v->r x H Q->
  wpAny (model X.prog X.w) X.A (f v) (EP X pins σ Q) X.xe s
def pJ (X:Cx)(f:ae)(r:List V->Hp->VK->Prop):Prop:=
 ∀(pins:List (af×bE)) (s:ag) (σ:St) (H:Hp) (xs:List V) (us:List ae) (Q:VK),Inv X pins σ H s->Vals xs us->r xs H Q->
  wpAny (model X.prog X.w) X.A (call f us) (EP X pins σ Q) X.xe s
def So (r:R2)(ta tb:TE):TE:=λσ H Q=>ta σ H λx H1=>tb σ H1 λy H2=>r x y H2 Q
def ZE (r:V->Hp->VK->Prop)(ta:TE):TE:=λσ H Q=>ta σ H λx H1=>r x H1 Q
def rI (C:Int->Int->Prop)(g:Int->Int->V):R2:=λx y H Q=>∃i j,x=.int i/\y=.int j/\C i j/\Q (g i j) H
def Ln (g:Int->Int->V):R2:=λx y H Q=>∃i j,x=.int i/\y=.int j/\Q (g i j) H
def rU (g:Int->V):V->Hp->VK->Prop:=λx H Q=>∃i,x=.int i/\Q (g i) H
section
variable {X:Cx} {a b c:aM} {ta tb tc:TE} {pos:cu}
theorem O6(ha:PE X a ta)(hb:PE X b tb){pins:List (af×bE)}{s:ag}{σ:St}{H:Hp}{R:V->V->Hp->Prop}(I:Inv X pins σ H s)
(h:ta σ H λx H1=>tb σ H1 λy H2=>R x y H2){Q:ae->ag->Prop}{f:ae->ae->f9 ae}
(hf:∀v u s2 x y H2,Inv X pins σ H2 s2->RelV x v->RelV y u->R x y H2->wpAny (model X.prog X.w) X.A (f v u) Q X.xe s2):
  wpAny (model X.prog X.w) X.A (eval a X.env) (λv ik=>wpAny (model X.prog X.w) X.A (eval b X.env) (λu xR=>wpAny (model X.prog X.w) X.A (f v u) Q X.xe xR) X.xe ik) X.xe s:=by refine ja (ha pins s σ H _ I h) λv s1 zq=>?_;obtain⟨x,H1,I1,r1,q1⟩:=zq;refine ja (hb pins s1 σ H1 _ I1 q1) λu s2 zq=>?_;obtain⟨y,H2,I2,r2,q2⟩:=zq;exact hf v u s2 x y H2 I2 r1 r2 q2
theorem NS{op:ee}{r:R2}(ho:ol X (binaryOp op) r)(ha:PE X a ta)(hb:PE X b tb):PE X (.BinOp a op b pos) (So r ta tb):=by intro pins s σ H Q I h;exact wpAny_BinOp (O6 ha hb I h λv u s2 x y H2 I2 rx ry q=>ho pins s2 σ H2 x y v u Q I2 rx ry q)
theorem Sq{op:UnaryOp}{r:V->Hp->VK->Prop}(ho:U2 X (unaryOp op) r)(ha:PE X a ta):PE X (.UnaryOp op a pos) (ZE r ta):=by intro pins s σ H Q I h;exact UnaryOp_ (ja (ha pins s σ H _ I h) λv s1 ⟨x,H1,I1,r1,q1⟩=>ho pins s1 σ H1 x v Q I1 r1 q1)
theorem U3{f:ae->ae->f9 ae}{C:Int->Int->Prop}{g:Int->Int->Int}
(rule:∀(i j:Int) (t u:gm) (s:ag) (Q:ae->ag->Prop) (E:ae->ag->Prop),C i j->Q (.int (g i j) s.toks) {s with toks:=s.toks+1}->wpAny (model X.prog X.w) X.A (f (.int i t) (.int j u)) Q E s):
  ol X f (rI C λi j=>.int (g i j)):=by intro pins s σ H x y v u Q I rx ry h;obtain⟨i,j,rfl,rfl,hc,q⟩:=h;obtain⟨t,rfl⟩:=rx;obtain⟨t',rfl⟩:=ry;exact rule i j t t' s _ _ hc ⟨.int (g i j),H,I.tok _,⟨_,rfl⟩,q⟩
theorem LJ{f:ae->ae->f9 ae}{g:Int->Int->Int}
(rule:∀(i j:Int) (t u:gm) (s:ag) (Q:ae->ag->Prop) (E:ae->ag->Prop),Q (.int (g i j) s.toks) {s with toks:=s.toks+1}->wpAny (model X.prog X.w) X.A (f (.int i t) (.int j u)) Q E s):
  ol X f (Ln λi j=>.int (g i j)):=by intro pins s σ H x y v u Q I rx ry h;obtain⟨i,j,rfl,rfl,q⟩:=h;obtain⟨t,rfl⟩:=rx;obtain⟨t',rfl⟩:=ry;exact rule i j t t' s _ _ ⟨.int (g i j),H,I.tok _,⟨_,rfl⟩,q⟩
theorem LK{f:ae->ae->f9 ae}{g:Int->Int->Bool}
(rule:∀(i j:Int) (t u:gm) (s:ag) (Q:ae->ag->Prop) (E:ae->ag->Prop),Q (.bool (g i j)) s->wpAny (model X.prog X.w) X.A (f (.int i t) (.int j u)) Q E s):
  ol X f (Ln λi j=>.bl (g i j)):=by intro pins s σ H x y v u Q I rx ry h;obtain⟨i,j,rfl,rfl,q⟩:=h;obtain⟨t,rfl⟩:=rx;obtain⟨t',rfl⟩:=ry;exact rule i j t t' s _ _ ⟨.bl (g i j),H,I,rfl,q⟩
def GU (i j:Int):Prop:=0<j/\j<1073741824
def BA (i j:Int):Prop:=0<=j/\j<=1000000/\i.natAbs<2^64
def rB (i j:Int):Prop:=(-(2^64)<i/\i<2^64)\/(-(2^64)<j/\j<2^64)
theorem rB.ok{i j:Int}(h:rB i j):IntMulOk i j:=by
 rcases h with⟨h1,h2⟩|⟨h1,h2⟩
 ·exact .of_left (aaG h1 h2)
 ·exact .of_right (aaG h1 h2)
theorem O7:ol X (binaryOp .Add) (Ln λi j=>.int (i+j)):=LJ λ_ _ _ _ _ _ _ q=>add_int q
theorem O8:ol X (binaryOp .Sub) (Ln λi j=>.int (i- j)):=LJ λ_ _ _ _ _ _ _ q=>sub_int q
theorem O9:ol X (binaryOp .Mult) (rI rB λi j=>.int (i*j)):=U3 λ_ _ _ _ _ _ _ hc q=>mul_int q hc.ok
theorem Pa:ol X (binaryOp .Mod) (rI (λ_ j=>0<j) λi j=>.int (i%j)):=U3 λi j _ _ _ _ _ hc q=>by have h1:(0:Int)<j:=hc;exact mod_int' (by omega) (by rw[Int.fmod_eq_emod_of_nonneg i (by omega)];exact q)
theorem Pb:ol X (binaryOp .Pow) (rI BA λi j=>.int (i^j.toNat)):=U3 λ_ _ _ _ _ _ _ hc q=>pow_int_small hc.1 hc.2.1 hc.2.2 q
theorem LL:ol X (aat .Add) (Ln λi j=>.int (i+j)):=LJ λ_ _ _ _ _ _ _ q=>iadd_int q
theorem LM:ol X (aat .Sub) (Ln λi j=>.int (i- j)):=LJ λ_ _ _ _ _ _ _ q=>isub_int q
theorem ZF{f:ae->f9 ae}{g:Int->Int}
(rule:∀(i:Int) (t:gm) (s:ag) (Q:ae->ag->Prop) (E:ae->ag->Prop),Q (.int (g i) s.toks) {s with toks:=s.toks+1}->wpAny (model X.prog X.w) X.A (f (.int i t)) Q E s):
  U2 X f (rU λi=>.int (g i)):=by intro pins s σ H x v Q I rx h;obtain⟨i,rfl,q⟩:=h;obtain⟨t,rfl⟩:=rx;exact rule i t s _ _ ⟨.int (g i),H,I.tok _,⟨_,rfl⟩,q⟩
theorem Pc:U2 X (unaryOp .USub) (rU λi=>.int (-i)):=ZF λ_ _ _ _ _ q=>neg_int q
end
noncomputable def Sr:V->V->Bool
 |.non,.non=>ah|.non,.int _=>ah|.int _,.non=>ah|.non,.bl _=>ah|.bl _,.non=>ah|.non,.str _=>ah|.str _,.non=>ah
 |.int _,.int _=>ah|.bl _,.bl _=>ah|.str _,.str _=>ah|.HS _,.HS _=>ah
 |.int _,.str _=>ah|.str _,.int _=>ah|.bl _,.str _=>ah|.str _,.bl _=>ah
 |_,_=>ai
def ZG:R2:=λx y H Q=>Sr x y=ah/\Q (.bl (decide (x=y))) H
def ZH:R2:=λx y H Q=>Sr x y=ah/\Q (.bl (!decide (x=y))) H
theorem zG{i j:Int}:decide (V.int i=V.int j)=(i==j):=by rw[dX];simp
theorem IA{i j:Bool}:decide (V.bl i=V.bl j)=(i==j):=by rw[dX];simp
theorem zH{i j:ar}:decide (V.str i=V.str j)=(i==j):=by rw[dX];simp
theorem Fy{i j:Array UInt8}:decide (V.HS i=V.HS j)=(i.toList==j.toList):=by rw[dX];cases i;cases j;simp
section
variable {X:Cx} {a b c:aM} {ta tb tc:TE} {pos:cu}
theorem ia{pins:List (af×bE)}{σ:St}{H:Hp}{s:ag}{Q:VK}{k k':Bool}(I:Inv X pins σ H s)(q:Q (.bl k) H)(e:k=k'):EP X pins σ Q (.bool k') s:=by subst e;exact⟨.bl k,H,I,rfl,q⟩
theorem NT:ol X (compareOp .Eq) ZG:=by
 intro pins s σ H x y v u Q I rx ry h;obtain⟨hs,q⟩:=h;cases x with
 |non=>
  cases rx;cases y with
  |non=>cases ry;exact PySem.EqNone.eq_none_none (ia I q (by simp))
  |bl j=>cases ry;exact PySem.EqNone.eq_none_bool (ia I q (by simp))
  |int j=>obtain⟨t',rfl⟩:=ry;exact PySem.EqNone.eq_none_int (ia I q (by simp))
  |str j=>obtain⟨t',rfl⟩:=ry;exact PySem.EqNone.eq_none_str (ia I q (by simp))
  |_=>exact absurd (show ai=ah from hs) ap
 |bl i=>
  cases rx;cases y with
  |non=>cases ry;exact PySem.EqNone.eq_bool_none (ia I q (by simp))
  |bl j=>cases ry;exact eq_bool (ia I q IA)
  |str j=>obtain⟨t',rfl⟩:=ry;exact PySem.EqMixed.eq_bool_str (ia I q (by simp))
  |_=>exact absurd (show ai=ah from hs) ap
 |int i=>
  obtain⟨t,rfl⟩:=rx;cases y with
  |non=>cases ry;exact PySem.EqNone.eq_int_none (ia I q (by simp))
  |int j=>obtain⟨t',rfl⟩:=ry;exact eq_int (ia I q zG)
  |str j=>obtain⟨t',rfl⟩:=ry;exact PySem.EqMixed.eq_int_str (ia I q (by simp))
  |_=>exact absurd (show ai=ah from hs) ap
 |str i=>
  obtain⟨t,rfl⟩:=rx;cases y with
  |non=>cases ry;exact PySem.EqNone.eq_str_none (ia I q (by simp))
  |bl j=>cases ry;exact PySem.EqMixed.eq_str_bool (ia I q (by simp))
  |int j=>obtain⟨t',rfl⟩:=ry;exact PySem.EqMixed.eq_str_int (ia I q (by simp))
  |str j=>obtain⟨t',rfl⟩:=ry;exact eq_str (ia I q zH)
  |_=>exact absurd (show ai=ah from hs) ap
 |HS i=>
  obtain⟨t,rfl⟩:=rx;cases y with
  |HS j=>obtain⟨t',rfl⟩:=ry;exact W.eq_bytes (ia I q Fy)
  |_=>exact absurd (show ai=ah from hs) ap
 |_=>cases y<;>exact absurd (show ai=ah from hs) ap
theorem NU:ol X (compareOp .NotEq) ZH:=by
 intro pins s σ H x y v u Q I rx ry h;obtain⟨hs,q⟩:=h;cases x with
 |non=>
  cases rx;cases y with
  |non=>cases ry;exact PySem.EqNone.ne_none_none (ia I q (by simp))
  |bl j=>cases ry;exact PySem.EqNone.ne_none_bool (ia I q (by simp))
  |int j=>obtain⟨t',rfl⟩:=ry;exact PySem.EqNone.ne_none_int (ia I q (by simp))
  |str j=>obtain⟨t',rfl⟩:=ry;exact PySem.EqNone.ne_none_str (ia I q (by simp))
  |_=>exact absurd (show ai=ah from hs) ap
 |bl i=>
  cases rx;cases y with
  |non=>cases ry;exact PySem.EqNone.ne_bool_none (ia I q (by simp))
  |bl j=>cases ry;exact ne_bool (ia I q (congrArg not IA))
  |str j=>obtain⟨t',rfl⟩:=ry;exact PySem.EqMixed.ne_bool_str (ia I q (by simp))
  |_=>exact absurd (show ai=ah from hs) ap
 |int i=>
  obtain⟨t,rfl⟩:=rx;cases y with
  |non=>cases ry;exact PySem.EqNone.ne_int_none (ia I q (by simp))
  |int j=>obtain⟨t',rfl⟩:=ry;exact ne_int (ia I q (congrArg not zG))
  |str j=>obtain⟨t',rfl⟩:=ry;exact PySem.EqMixed.ne_int_str (ia I q (by simp))
  |_=>exact absurd (show ai=ah from hs) ap
 |str i=>
  obtain⟨t,rfl⟩:=rx;cases y with
  |non=>cases ry;exact PySem.EqNone.ne_str_none (ia I q (by simp))
  |bl j=>cases ry;exact PySem.EqMixed.ne_str_bool (ia I q (by simp))
  |int j=>obtain⟨t',rfl⟩:=ry;exact PySem.EqMixed.ne_str_int (ia I q (by simp))
  |str j=>obtain⟨t',rfl⟩:=ry;exact ne_str (ia I q (congrArg not zH))
  |_=>exact absurd (show ai=ah from hs) ap
 |HS i=>
  obtain⟨t,rfl⟩:=rx;cases y with
  |HS j=>obtain⟨t',rfl⟩:=ry;exact W.ne_bytes (ia I q (congrArg not Fy))
  |_=>exact absurd (show ai=ah from hs) ap
 |_=>cases y<;>exact absurd (show ai=ah from hs) ap
theorem Ss:ol X (compareOp .Lt) (Ln λi j=>.bl (decide (i<j))):=LK λ_ _ _ _ _ _ _ q=>lt_int q
theorem Su:ol X (compareOp .LtE) (Ln λi j=>.bl (decide (i<=j))):=LK λ_ _ _ _ _ _ _ q=>le_int q
theorem Sv:ol X (compareOp .Gt) (Ln λi j=>.bl (decide (j<i))):=LK λ_ _ _ _ _ _ _ q=>gt_int q
theorem Sw:ol X (compareOp .GtE) (Ln λi j=>.bl (decide (j<=i))):=LK λ_ _ _ _ _ _ _ q=>ge_int q
theorem GV:ol X (compareOp .Lt) (λx y H Q=>∃i j,x=.str i/\y=.str j/\Q (.bl (decide (i.cps.toList<j.cps.toList))) H):=by intro pins s σ H x y v u Q I rx ry h;obtain⟨i,j,rfl,rfl,q⟩:=h;obtain⟨t,rfl⟩:=rx;obtain⟨t',rfl⟩:=ry;exact lt_str (ia I q rfl)
theorem GW:ol X (compareOp .In) (λx y H Q=>∃i j,x=.str i/\y=.str j/\Q (.bl (!(bD.Str.occurrences j i 0 j.length 1).isEmpty)) H):=by intro pins s σ H x y v u Q I rx ry h;obtain⟨i,j,rfl,rfl,q⟩:=h;obtain⟨t,rfl⟩:=rx;obtain⟨t',rfl⟩:=ry;exact in_str (ia I q rfl)
theorem Pd:ol X (compareOp .Is) (λx y H Q=>y=.non/\Q (.bl (decide (x=.non))) H):=by
 intro pins s σ H x y v u Q I rx ry h;obtain⟨rfl,q⟩:=h;cases ry;refine is_none_gen (ia I q ?_);cases x<;>first
  | (cases rx;rfl)
  | (obtain⟨t,rfl⟩:=rx;rfl)
theorem LN:ol X (compareOp .IsNot) (λx y H Q=>y=.non/\Q (.bl (!decide (x=.non))) H):=by
 intro pins s σ H x y v u Q I rx ry h;obtain⟨rfl,q⟩:=h;cases ry;refine isnot_none_gen (ia I q ?_);cases x<;>first
  | (cases rx;rfl)
  | (obtain⟨t,rfl⟩:=rx;rfl)
theorem LO{op:eI}{r:R2}(ho:ol X (compareOp op) r)(ha:PE X a ta)(hb:PE X b tb)(hm:eJ op b=ai):PE X (.Compare a [op] [b] pos) (So r ta tb):=by intro pins s σ H Q I h;exact wpAny_Compare1 (O6 ha hb I h λv u s2 x y H2 I2 rx ry q=>ho pins s2 σ H2 x y v u Q I2 rx ry q) hm
def NV (t:TE):TT:=λσ H Q=>t σ H λx H'=>∃k,x=.bl k/\Q k H'
theorem LP{op:eI}{r:R2}(ho:ol X (compareOp op) r)(ha:PE X a ta)(hb:PE X b tb)(hm:eJ op b=ai):PT X (.Compare a [op] [b] pos) (NV (So r ta tb)):=by
 intro pins s σ H Q I h;refine wpAny_isTrue_Compare1 (ja (ha pins s σ H _ I h) λv s1 ⟨x,H1,I1,r1,q1⟩=>ja (hb pins s1 σ H1 _ I1 q1) λu s2 ⟨y,H2,I2,r2,q2⟩=>
  ja (ho pins s2 σ H2 x y v u _ I2 r1 r2 q2) λc s3 ⟨z,H3,I3,r3,k,e,q3⟩=>?_) hm
 subst e;cases r3;exact dj ⟨H3,I3,q3⟩
def DZ (r r':R2)(ta tb tc:TE):TE:=λσ H Q=>ta σ H λx H1=>tb σ H1 λy H2=>r x y H2 λz H3=>∃k,z=.bl k/\
 (if k=ah then tc σ H3 λw' H4=>r' y w' H4 Q else Q (.bl ai) H3)
theorem IB{op yD:eI}{r r':R2}(ho:ol X (compareOp op) r)(Ii:ol X (compareOp yD) r')(ha:PE X a ta)(hb:PE X b tb)(hc:PE X c tc)
(hm:fw [op,yD] [b,c]=ai:=by with_unfolding_all rfl):PE X (.Compare a [op,yD] [b,c] pos) (DZ r r' ta tb tc):=by
 intro pins s σ H Q I h;refine Compare_chain (ja (ha pins s σ H _ I h) λv s1 ⟨x,H1,I1,r1,q1⟩=>chain_link (ja (hb pins s1 σ H1 _ I1 q1) λu s2 ⟨y,H2,I2,r2,q2⟩=>
  ja (ho pins s2 σ H2 x y v u _ I2 r1 r2 q2) λd s3 ⟨z,H3,I3,r3,k,e,q3⟩=>?_)) hm
 subst e;cases r3;refine dj ?_;cases k with
 |false=>exact ite_ff ⟨.bl ai,H3,I3,rfl,q3⟩
 |true=>exact ite_tt (chain_last (ja (hc pins s3 σ H3 _ I3 q3) λw' s4 ⟨z',H4,I4,r4,q4⟩=>Ii pins s4 σ H4 y z' u w' Q I4 r2 r4 q4))
theorem IC{op yD:eI}{r r':R2}(ho:ol X (compareOp op) r)(Ii:ol X (compareOp yD) r')(ha:PE X a ta)(hb:PE X b tb)(hc:PE X c tc)
(hm:fw [op,yD] [b,c]=ai:=by with_unfolding_all rfl):PT X (.Compare a [op,yD] [b,c] pos) (NV (DZ r r' ta tb tc)):=by
 intro pins s σ H Q I h;refine isTrue_chain (ja (ha pins s σ H _ I h) λv s1 ⟨x,H1,I1,r1,q1⟩=>test_link (ja (hb pins s1 σ H1 _ I1 q1) λu s2 ⟨y,H2,I2,r2,q2⟩=>
  ja (ho pins s2 σ H2 x y v u _ I2 r1 r2 q2) λd s3 ⟨z,H3,I3,r3,k,e,q3⟩=>?_)) hm
 subst e;cases r3;refine dj ?_;cases k with
 |false=>
  obtain⟨k',e',q'⟩:=q3;cases e';exact ite_ff ⟨H3,I3,q'⟩
 |true=>
  refine ite_tt (test_last (ja (hc pins s3 σ H3 _ I3 q3) λw' s4 ⟨z',H4,I4,r4,q4⟩=>ja (Ii pins s4 σ H4 y z' u w' _ I4 r2 r4 q4) λd' s5 zq=>?_));obtain⟨z2,H5,I5,r5,k2,e2,q5⟩:=zq;subst e2;cases r5;exact dj ⟨H5,I5,q5⟩
theorem rC:(aH:Nat)<2^63:=by rw[eA];decide
theorem D0:ol X (binaryOp .Add) (λx y H Q=>∃i j,x=.str i/\y=.str j/\i.length+j.length<=aH/\Q (.str (i++j)) H):=by intro pins s σ H x y v u Q I rx ry h;obtain⟨i,j,rfl,rfl,hz,q⟩:=h;obtain⟨t,rfl⟩:=rx;obtain⟨t',rfl⟩:=ry;exact add_str (λt' tk=>⟨.str (i++j),H,I.tok _,⟨_,rfl⟩,q⟩) hz
theorem vals1{x:V}{us:List ae}(r:Vals [x] us):∃u,us=[u]/\RelV x u:=by
 cases r with
 |cons r1 r2=>cases r2;exact⟨_,rfl,r1⟩
theorem vals2{x y:V}{us:List ae}(r:Vals [x,y] us):∃u w',us=[u,w']/\RelV x u/\RelV y w':=by
 cases r with
 |cons r1 r2=>
  cases r2 with
  |cons r3 r4=>cases r4;exact⟨_,_,rfl,r1,r3⟩
theorem GX(hc:X.calm=ah):pJ X (.builtin "max") (λxs H Q=>∃i j,xs=[.int i,.int j]/\Q (.int (if j>i then j else i)) H):=by
 intro pins s σ H xs us Q I r h;obtain⟨i,j,rfl,q⟩:=h;obtain⟨u,w',rfl,⟨t,rfl⟩,⟨t',rfl⟩⟩:=vals2 r;refine max_two_ints (I.ok.hd hc) λh' tk k=>⟨_,H,I.kept k,?_,q⟩;by_cases hj:j>i
 ·rw[if_pos hj,if_pos hj];exact⟨_,rfl⟩
 ·rw[if_neg hj,if_neg hj];exact⟨_,rfl⟩
end
structure D1(h:aq)(x dx C:af)(mA:ar->Option ae):Prop where
 obj:h.get? x=aa (W.instObj C dx)
 ns:h.Ns1 dx mA
 ne:dx≠x
theorem yE{h:aq}{dx:af}{mA:ar->Option ae}(n:h.Ns1 dx mA):∃od,h.get? dx=aa od/\∀name,W.lookIn name od=aa (mA name):=by
 obtain⟨o,es,ep,ho,hd,hk,_,hm⟩:=n;refine⟨o,ho,λname=>?_⟩;have e:=hm name;unfold nsFind findBy at e;rw[<-Array.find?_toList] at e;unfold W.lookIn;rw[hd];dsimp only;split
 ·rename_i y q;rw[q] at e;exact congrArg aa e
 ·rename_i q;rw[q] at e;have a:es.toList.any (·.refKey)=ai:=by rw[List.any_eq_false];intro y hy;obtain⟨z,t,V9⟩:=hk y (Array.mem_toList_iff.mp hy);simp[DictEntry.refKey,V9]
  have a':¬es.toList.any (·.refKey)=ah:=by rw[a];exact ap
  rw[if_neg a'];exact congrArg aa e
theorem D1.look{h:aq}{x dx C:af}{mA:ar->Option ae}(I:D1 h x dx C mA):∃od,W.InstAt h x (W.instObj C dx) C (aa od)/\∀name,W.lookIn name od=aa (mA name):=
 let⟨od,ho,hl⟩:=yE I.ns
 ⟨od,⟨I.obj,rfl,rfl,ho⟩,hl⟩
section
variable {prog:ao} {w:aE} {A:ay} {E:ae->ag->Prop} {s:ag} {K:W.Frag} {x dx C f:af} {mA:ar->Option ae} {name:ar} {v:ae}
theorem LQ{expr:Bool}{Q:ae->ag->Prop}(X:K.In s.heap)(I:D1 s.heap x dx C mA)(hg:W.plainGet K C name=ah)(hh:W.hasDictIn K C=ah)
(ha:W.findIn K (.ref C) name=aa ak)(hv:mA name=aa v)(ZI:W.handedIn v=ah)(h:Q v {s with toks:=s.toks+1}):
  wpAny (model prog w) A (aap (.ref x) name expr) Q E s:=by obtain⟨od,J,hl⟩:=I.look;exact W.get_value X J (W.plainGet_of hg).1 (W.findObj_own hh ha rfl (by rw[hl,hv])) ZI h
theorem ID{pl:f9 Bool}{Q:ae×List ae->ag->Prop}(X:K.In s.heap)(I:D1 s.heap x dx C mA)(hg:W.plainGet K C name=ah)
(hf:W.findIn K (.ref C) name=aa (aa (.ref f)))(ht:W.isFn K (.ref f)=ah)(hv:mA name=ak)(h:Q (.ref f,[.ref x]) s):
  wpAny (model prog w) A (eH (.ref x) name pl) Q E s:=by obtain⟨od,J,hl⟩:=I.look;exact W.method_fn X J (W.plainGet_of hg).1 (W.plainGet_of hg).2 hf (beq_iff_eq.mp ht) (by show(W.lookIn name od).map (·.isSome)=aa ai;rw[hl,hv];rfl) h
theorem LR{ns:List ar}{Q:Unit->ag->Prop}(X:K.In s.heap)(I:D1 s.heap x dx C mA)
(hs:W.findIn K (.ref C) "__setattr__"=aa (aa (.builtin "object.__setattr__")))(hp:W.plainOver K C=ah)(ht:W.takerIn K C name=aa ak)(hh:W.hasDictIn K C=ah)
(hw:PySem.Within mA ns)(DH:ns.length<=aH)
(h:∀h',D1 h' x dx C (λy=>if y=name then aa v else mA y)->aq.SameBut dx s.heap h'->Q () {s with heap:=h',toks:=s.toks+2}):
  wpAny (model prog w) A (aaq (.ref x) name v) Q E s:=by obtain⟨od,J,hl⟩:=I.look;refine W.set_plain X J hs (W.osa_open (s:={s with toks:=s.toks+1}) (r:=ak) X J hp ht λb=>?_);obtain⟨cd,hc,Sc⟩:=W.any_some hh;have hx:s.heap.get? x=aa ⟨.ref C,aa dx,.plain,#[]⟩:=I.obj;refine aj (az (aj (aj (fe hx (aj (W.Looks.here (s:={s with toks:=s.toks+1}) (W.looks_clsIn X hc) ?_))))));rw[Sc];refine az (a:=aa dx) (aj (az (aj ?_)));refine fO (s:={s with toks:=s.toks+1}) I.ns λh' U4 LS=>?_;obtain⟨oD,Yt,Yu,Sx,Sy,GY⟩:=U4.count (PySem.Within.cons name v hw);refine aj (eU Sx (by rw[Sy];exact eV (aT GY (by rw[ax];omega))) ?_);exact az (h _ ⟨(LS.2 _ (bG I.ne)).trans I.obj,U4,I.ne⟩ LS)
theorem IE{R:eK->ag->Prop}{vs:List ae}{kw:List (ar×ae)}(X:K.In s.heap)(hm:W.makesIn K C=ah)
(hi:W.findIn K (.ref C) "__init__"=aa (aa (.ref f)))(hf:W.typeIn K (.ref f)=aa (.type "function"))
(h:codeAny (model prog w) (A.under (.builtin "type.__call__" ⟨.ref C::vs,kw⟩)) (.call (.ref f) ⟨.ref (s.heap.objs.size+1)::vs,kw⟩) (W.InitBack (s.heap.objs.size+1) R)
   {s with heap:=(s.heap.push W.emptyDict).push (W.instObj C s.heap.objs.size)}):
  codeAny (model prog w) A (.call (.ref C) ⟨vs,kw⟩) R s:=by obtain⟨hh,g,d,t,os⟩:=s;exact W.make_core (W.makes_of X hm) (W.looks_findIn X hi) (λself=>W.bind_fn X self hf) (.inl rfl) h
end
noncomputable def lQ(f:ar)(v:V):List (ar×V)->List (ar×V)
 |[]=>[(f,v)]
 | (g,x)::r=>if g=f then(g,v)::r else(g,x)::lQ f v r
theorem pL(f g:ar)(v:V):∀fs:List (ar×V),(lQ f v fs).lookup g=if g=f then aa v else fs.lookup g
 |[]=>by
  show dt g [(f,v)]=_;by_cases h:g=f
  ·have hb:(g==f)=ah:=beq_iff_eq.mpr h;simp only [dt,hb,if_pos h]
  ·have hb:(g==f)=ai:=beq_eq_false_iff_ne.mpr h;simp only [dt,hb,if_neg h]
 | (k,x)::r=>by
  have ih:=pL f g v r;rw[show lQ f v ((k,x)::r)=(if k=f then(k,v)::r else(k,x)::lQ f v r) from rfl];by_cases hk:k=f
  ·rw[if_pos hk];by_cases h:g=k
   ·have hb:(g==k)=ah:=beq_iff_eq.mpr h;simp only [dt,hb,if_pos (h.trans hk)]
   ·have hb:(g==k)=ai:=beq_eq_false_iff_ne.mpr h;simp only [dt,hb,if_neg (λe:g=f=>h (e.trans hk.symm))]
  ·rw[if_neg hk];by_cases h:g=k
   ·have hb:(g==k)=ah:=beq_iff_eq.mpr h;simp only [dt,hb,if_neg (λe:g=f=>hk (h.symm.trans e))]
   ·have hb:(g==k)=ai:=beq_eq_false_iff_ne.mpr h;simp only [dt,hb];exact ih
theorem nH(f:ar)(v:V):∀fs:List (ar×V),f∈(lQ f v fs).map (·.1)/\∀g,g∈fs.map (·.1)->g∈(lQ f v fs).map (·.1)
 |[]=>⟨by simp[lQ],λg h=>by simp at h⟩
 | (k,x)::r=>by
  obtain⟨i1,i2⟩:=nH f v r;rw[show lQ f v ((k,x)::r)=(if k=f then(k,v)::r else(k,x)::lQ f v r) from rfl];by_cases hk:k=f
  ·rw[if_pos hk];subst hk;exact⟨by simp,λg h=>by simpa using h⟩
  ·rw[if_neg hk];refine⟨?_,λg h=>?_⟩
   ·rw[bW];exact aX _ i1
   ·rw[bW] at h ⊢;rcases ba.mp h with e|e
    ·exact ba.mpr (.inl e)
    ·exact aX _ (i2 g e)
theorem uF(f:ar)(v:V):∀fs:List (ar×V),(lQ f v fs).length<=fs.length+1
 |[]=>by simp[lQ]
 | (k,x)::r=>by
  have ih:=uF f v r;rw[show lQ f v ((k,x)::r)=(if k=f then(k,v)::r else(k,x)::lQ f v r) from rfl];by_cases hk:k=f
  ·rw[if_pos hk,ax,ax];omega
  ·rw[if_neg hk,ax,ax];omega
theorem mM.some_of{v:V}{o:Option ae}(r:mM (aa v) o):∃u,o=aa u/\RelV v u:=by
 cases o with
 |none=>exact(show False from r).elim
 |some u=>exact⟨u,rfl,r⟩
theorem mM.none_of{o:Option ae}(r:mM ak o):o=ak:=by
 cases o with
 |none=>rfl
 |some u=>exact(show False from r).elim
theorem yF{v:V}{u:ae}(r:RelV v u):W.handedIn u=ah:=by
 cases v with
 |non=>cases(show u=aV from r);rfl
 |bl b=>cases(show u=dU b from r);rfl
 |int i=>obtain⟨t,e⟩:=(show∃t,u=ae.int i t from r);cases e;rfl
 |str x=>obtain⟨t,e⟩:=(show∃t,u=ae.str x t from r);cases e;rfl
 |HS b=>obtain⟨t,e⟩:=(show∃t,u=ae.bytes b t from r);cases e;rfl
 |RL b=>obtain⟨t,e⟩:=(show∃t,u=ae.float b t from r);cases e;rfl
 |ref a=>cases(show u=aD a from r);rfl
 |ty n=>cases(show u=ae.type n from r);rfl
section
variable {P:ao} {w:aE} {H H':Hp} {h h':aq} {a C dx:af} {fs VO:List (ar×V)}
theorem zI(iy:pG P w H h)(e:H a=aa (.ins C dx fs)):∃mA,D1 h a dx C mA/\(∀f,mM (fs.lookup f) (mA f))/\PySem.Within mA (fs.map (·.1))/\fs.length<=1000/\H dx=aa (.own a):=by obtain⟨d,z,ne,ob,mA,n,r,q⟩:=(show iQ P w H h a (.ins C dx fs) from iy a _ e);exact⟨mA,⟨ob,n,ne⟩,r,q,z,d⟩
end
structure D2(K:W.Frag)(C:af):Prop where
 pg:W.plainGet K C ar.empty=ah
 hd:W.hasDictIn K C=ah
 po:W.plainOver K C=ah
 sa:W.findIn K (.ref C) "__setattr__"=aa (aa (.builtin "object.__setattr__"))
theorem D2.get{K:W.Frag}{C:af}(c:D2 K C)(f:ar):W.plainGet K C f=ah:=c.pg
def jZ (K:W.Frag)(C:af)(f:ar):Prop:=W.findIn K (.ref C) f=aa ak
theorem jZ.Sz{K:W.Frag}{C:af}{f:ar}(n:jZ K C f):W.takerIn K C f=aa ak:=by unfold W.takerIn;rw[show W.findIn K (.ref C) f=aa ak from n];rfl
structure Con(K:W.Frag)(C:af)(f:ar)(v:V)(u:ae):Prop where
 at_:W.findIn K (.ref C) f=aa (aa u)
 rel:RelV v u
 get:W.specialIn K u "__get__"=aa ak
 cp:W.copiedNames.contains f=ai
structure Meth(K:W.Frag)(C:af)(m:ar)(f:af):Prop where
 at_:W.findIn K (.ref C) m=aa (aa (.ref f))
 fn:W.isFn K (.ref f)=ah
 kp:W.keepIn K (.ref f)=ah
section
variable {X:Cx} {pins:List (af×bE)} {σ:St} {H:Hp} {s:ag} {a C dx:af} {fs:List (ar×V)} {f:ar} {v:V} {A:ay} {E:ae->ag->Prop}
theorem D3{b:Bool}{Q:ae->ag->Prop}(I:Inv X pins σ H s)(e:H a=aa (.ins C dx fs))(c:D2 X.K C)(n:jZ X.K C f)(l:fs.lookup f=aa v)
(h:∀u s',Inv X pins σ H s'->RelV v u->Q u s'):wpAny (model X.prog X.w) A (aap (.ref a) f b) Q E s:=by obtain⟨mA,O,r,_,_,_⟩:=zI I.iy e;obtain⟨u,hu,ru⟩:=mM.some_of (v:=v) (o:=mA f) (by rw[<-l];exact r f);exact LQ I.pD O (c.get f) c.hd n hu (yF ru) (h u _ (I.tok _) ru)
theorem vY{m:ar}{g:af}{pl:f9 Bool}{Q:ae×List ae->ag->Prop}(I:Inv X pins σ H s)(e:H a=aa (.ins C dx fs))(c:D2 X.K C)(k:Meth X.K C m g)(l:fs.lookup m=ak)
(h:Q (.ref g,[.ref a]) s):wpAny (model X.prog X.w) A (eH (.ref a) m pl) Q E s:=by obtain⟨mA,O,r,_,_,_⟩:=zI I.iy e;have hn:mA m=ak:=mM.none_of (by rw[<-l];exact r m);exact ID I.pD O (c.get m) k.at_ k.fn hn h
theorem D4{y:V}{u:ae}{Q:Unit->ag->Prop}(I:Inv X pins σ H s)(e:H a=aa (.ins C dx fs))(c:D2 X.K C)(n:jZ X.K C f)(hl:fs.length<1000)(ry:RelV y u)
(h:∀s',Inv X pins σ (upd H a (.ins C dx (lQ f y fs))) s'->Q () s'):wpAny (model X.prog X.w) A (aaq (.ref a) f u) Q E s:=by
 obtain⟨mA,O,r,wi,_,ho⟩:=zI I.iy e;have hz:(fs.map (·.1)).length<=aH:=by rw[aR,eA];omega
 refine LR I.pD O c.sa c.po n.Sz c.hd wi hz λh' O' sb=>h _ ?_;have hd:∃o,h'.get? dx=aa o:=let⟨o,_,_,e',_⟩:=O'.ns;⟨o,e'⟩;refine I.write (x:=a) (e:=dx) (by rw[e];exact cQ) (.inr ho) (λb q hb z=>(sb.2 b hb).trans z) hd ?_;refine⟨by rw[gz O.ne];exact ho,?_,O.ne,O'.obj,_,O'.ns,λg=>?_,λg hg=>?_⟩
 ·have:=uF f y fs;omega
 ·show mM ((lQ f y fs).lookup g) (if g=f then aa u else mA g);rw[pL];by_cases q:g=f
  ·rw[if_pos q,if_pos q];exact ry
  ·rw[if_neg q,if_neg q];exact r g
 ·by_cases q:g=f
  ·rw[q];exact(nH f y fs).1
  ·refine(nH f y fs).2 g (wi g λz=>hg ?_);show(if g=f then aa u else mA g)=ak;rw[if_neg q];exact z
theorem Inv.made(I:Inv X pins σ H s):Inv X pins σ (upd (upd H s.heap.objs.size (.own (s.heap.objs.size+1))) (s.heap.objs.size+1) (.ins C s.heap.objs.size []))
  {s with heap:=(s.heap.push W.emptyDict).push (W.instObj C s.heap.objs.size)}:=by
 have e1:(s.heap.push W.emptyDict).get? s.heap.objs.size=aa W.emptyDict:=bg s.heap rfl;have e2:((s.heap.push W.emptyDict).push (W.instObj C s.heap.objs.size)).get? (s.heap.objs.size+1)=aa (W.instObj C s.heap.objs.size):=by
  have:=bg (s.heap.push W.emptyDict) (o:=W.instObj C s.heap.objs.size) rfl
  rwa [cS] at this
 have e3:(s.heap.push W.emptyDict).Ns s.heap.objs.size (λ_=>ak):=⟨W.emptyDict,#[],_,e1,rfl,(λe he=>absurd he (by simp)),λ_=>rfl⟩;have I1:=I.laid (a:=s.heap.objs.size) (o:=.own (s.heap.objs.size+1)) (h':=s.heap.push W.emptyDict) (t':=s.toks) (λb u q=>au _ q) (bf _) ⟨_,e1⟩;refine I1.laid (a:=s.heap.objs.size+1) (o:=.ins C s.heap.objs.size []) (t':=s.toks) (λb u q=>au _ q) (c8 (cS _ _)) ?_;have ne:s.heap.objs.size≠s.heap.objs.size+1:=bM (Nat.lt_succ_self _);refine⟨by rw[gz ne,gF],cU _,ne,e2,λ_=>ak,(aq.Ns1.of_empty e3).at λo q=>au _ q,λ_=>cQ,λy hy=>absurd rfl hy⟩
theorem Fz{prog:ao}{w:aE}{env:cz}{e:aM}{f:ar}{pos:cu}{s:ag}{Q:ae->ag->Prop}(hb:cE e f env (eval e env)=eval e env)
(h:wpAny (model prog w) A (eval e env) (λo ik=>wpAny (model prog w) A (aap o f ah) Q E ik) E s):wpAny (model prog w) A (eval (.Attribute e f pos) env) Q E s:=
 Attribute_any_ h (by rw[arm_eval_Attribute,hb])
end
def Wa (K:W.Frag)(ta:TE)(f:ar):TE:=λσ H Q=>ta σ H λx H1=>∃a C dx fs v,x=.ref a/\H1 a=aa (.ins C dx fs)/\D2 K C/\jZ K C f/\fs.lookup f=aa v/\Q v H1
def Wb (K:W.Frag)(ta tv:TE)(f:ar):TS:=λD σ H=>tv σ H λy H1=>ta σ H1 λx H2=>∃a C dx fs,x=.ref a/\H2 a=aa (.ins C dx fs)/\D2 K C/\jZ K C f/\fs.length<1000/\
 D.nx σ (upd H2 a (.ins C dx (lQ f y fs)))
section
variable {X:Cx} {o e value:aM} {f:ar} {pos pos' Bx:cu} {ta tv:TE}
theorem Pe(he:PE X e ta)(hb:cE e f X.env (eval e X.env)=eval e X.env):PE X (.Attribute e f pos) (Wa X.K ta f):=by intro pins s σ H Q I h;refine Fz hb (ja (he pins s σ H _ I h) λu s1 zq=>?_);obtain⟨x,H1,I1,rx,a,C,dx,fs,v,ex,ea,c,n,l,q⟩:=zq;subst ex;obtain rfl:u=aD a:=rx;exact D3 I1 ea c n l λu' s2 I2 ru=>⟨v,H1,I2,ru,q⟩
theorem Pf(ha:PE X o ta)(hv:PE X value tv)(hs:cW value (aa (.Attribute o f pos')) pos.line X.env=pure ai):PS X (.Assign [.Attribute o f pos'] value pos) (Wb X.K ta tv f):=by intro pins s σ H D I h;refine eR (ja (hv pins s σ H _ I h) λu s1 ⟨y,H1,I1,ry,q⟩=>ja (ha pins s1 σ H1 _ I1 q) λov s2 ⟨x,H2,I2,rx,a,C,dx,fs,ex,ea,c,n,l,q2⟩=>?_) hs;subst ex;obtain rfl:ov=aD a:=rx;exact D4 I2 ea c n l ry λs3 I3=>⟨σ,_,I3,q2⟩
end
section
variable {X:Cx} {pins:List (af×bE)} {σ:St} {H:Hp} {s:ag} {A:ay} {E:ae->ag->Prop} {Q:ae->ag->Prop} {c:ae} {b:Bool}
inductive vZ(K:W.Frag)(H:Hp):V->ae->Prop where
 |non:vZ K H .non (.type "NoneType")
 |bl (x:Bool):vZ K H (.bl x) (.type "bool")
 |int (i:Int):vZ K H (.int i) (.type "int")
 |str (x:ar):vZ K H (.str x) (.type "str")
 |RL (x:UInt64):vZ K H (.RL x) (.type "float")
 |lst {a:af} {xs:List V} (e:H a=aa (.lst xs)):vZ K H (.ref a) (.type "list")
 |qv {a:af} {o:bE} {xs:List V} (e:H a=aa (.qv o (.lst xs))):vZ K H (.ref a) (.type "list")
 |tup {a:af} {xs:List V} (e:H a=aa (.tup xs)):vZ K H (.ref a) (.type "tuple")
 |dK {a:af} {gZ:List (Key×V)} (e:H a=aa (.dK gZ)):vZ K H (.ref a) (.type "dict")
 |dT {a:af} {gZ:List (List Key×V)} (e:H a=aa (.dT gZ)):vZ K H (.ref a) (.type "dict")
 |ins {a C dx:af} {fs:List (ar×V)} (e:H a=aa (.ins C dx fs)) (cl:D2 K C) (ha:W.findIn K (.ref C) "__class__"=aa (aa (.builtin "object.__class__")))
   (hn:W.specialIn K (.builtin "object.__class__") "__get__"=aa (aa (.builtin "getset_descriptor.__get__"))) (Yv:W.takesIn K (.builtin "object.__class__")=aa ah)
   (hm:W.mroIn K C (.type "object")=aa ah):vZ K H (.ref a) (.ref C)
end
structure iG(k:Nat)(A:ay):Prop where
 hd:A.handled=ak
 dp:A.depth+3*k+5<eB
 un:A.units+16*k+200<eC
 gd:A.guards=aa []
theorem iG.mono{j k:Nat}{A:ay}(r:iG k A)(h:j<=k):iG j A:=⟨r.hd,by have:=r.dp;omega,by have:=r.un;omega,r.gd⟩
theorem iG.deeper{k:Nat}{A:ay}(r:iG (k+1) A)(env:cz):iG k (A.deeper env):=
 ⟨r.hd,by have:=r.dp;show A.depth+1+3*k+5<_;omega,by have:=r.un;show A.units+3+16*k+200<_;omega,r.gd⟩
theorem v0{A:ay}{C:af}{us:List ae}{kw:List (ar×ae)}:(A.under (.builtin "type.__call__" ⟨.ref C::us,kw⟩)).depth=A.depth+1:=by first|rfl|simp[ay.under,Code.weight,Code.isCreation,Code.isGuard,Code.isCaller,Code.frames,Code.isFrame,guardIds]
theorem v2{A:ay}{C:af}{us:List ae}{kw:List (ar×ae)}:(A.under (.builtin "type.__call__" ⟨.ref C::us,kw⟩)).units=A.units+1:=by first|rfl|simp[ay.under,Code.cUnits,Code.frames,Code.isFrame]
theorem uG{A:ay}{C:af}{us:List ae}{kw:List (ar×ae)}:(A.under (.builtin "type.__call__" ⟨.ref C::us,kw⟩)).guards=A.guards:=by first|rfl|(show A.guards.map (Code.guards _++·)=A.guards;rw[show Code.guards (.builtin "type.__call__" ⟨.ref C::us,kw⟩)=[] from by first|rfl|simp[Code.guards,Code.isGuard,guardIds]];simp)
theorem iG.make{k:Nat}{A:ay}(r:iG (k+1) A)(C:af)(us:List ae)(kw:List (ar×ae)):iG k (A.under (.builtin "type.__call__" ⟨.ref C::us,kw⟩)):=
 ⟨r.hd,by have:=r.dp;rw[v0];omega,by have:=r.un;rw[v2];omega,by rw[uG];exact r.gd⟩
theorem iG.depth{k:Nat}{A:ay}(r:iG k A):A.depth<eB:=by have:=r.dp;omega
theorem iG.units{k:Nat}{A:ay}(r:iG k A):A.units+64<eC:=by have:=r.un;omega
def SA:TA:=λ_ H Q=>Q [] H
def IF (ta:TE)(tr:TA):TA:=λσ H Q=>ta σ H λx H1=>tr σ H1 λxs H2=>Q (x::xs) H2
section
variable {X:Cx} {e:aM} {es:List aM} {te:TE} {t:TA} {pos:cu}
theorem IG:PA X [] SA:=λ_ _ _ _ H Q I h=>Calls.spliced_nil ⟨[],H,I,.nil,h⟩
theorem vE(ha:PE X e te)(hr:PA X es t)(hs:av (e::es) X.env=(ai,eval e X.env)::av es X.env:=by rfl):PA X (e::es) (IF te t):=by intro pos pins s σ H Q I h;rw[hs];show wpAny _ _ (spliced ((ai,eval e X.env)::bN pos (av es X.env))) _ _ s;refine Calls.spliced_cons (ja (ha pins s σ H _ I h) λu s1 zq=>?_);obtain⟨x,H1,I1,r1,q1⟩:=zq;exact ja (hr pos pins s1 σ H1 _ I1 q1) λus s2 ⟨xs,H2,I2,r2,q2⟩=>⟨x::xs,H2,I2,.cons r1 r2,q2⟩
def Wc (t:TA):TE:=λσ H Q=>t σ H λxs H1=>xs.length<=aH/\∀p,H1 p=ak->Q (.ref p) (upd H1 p (.tup xs))
def Wd (t:TA):TE:=λσ H Q=>t σ H λxs H1=>xs.length<=aH/\∀p,H1 p=ak->Q (.ref p) (upd H1 p (.lst xs))
theorem Pg{x1}(h:PA X es t):PE X (.Tuple es x1 pos) (Wc t):=by intro pins s σ H Q I hq;refine wpAny_Tuple_spliced (ja (h pos pins s σ H _ I hq) λus s1 ⟨xs,H1,I1,r,z,q⟩=>⟨by rw[<-r.length];exact z,?_⟩);have hf:H1 s1.heap.objs.size=ak:=I1.iy.fresh (bf _);refine⟨.ref s1.heap.objs.size,upd H1 s1.heap.objs.size (.tup xs),I1.laid (t':=s1.toks) (λb u e=>au _ e) (bf _) ?_,rfl,q _ hf⟩;exact⟨z,us,r,⟨_,bg _ rfl,rfl,_,rfl⟩⟩
theorem Ph(h:PA X es t):PE X (.List es pos) (Wd t):=by intro pins s σ H Q I hq;refine wpAny_List_spliced (ja (h pos pins s σ H _ I hq) λus s1 ⟨xs,H1,I1,r,z,q⟩=>⟨by rw[<-r.length];exact z,?_⟩);have hf:H1 s1.heap.objs.size=ak:=I1.iy.fresh (bf _);refine⟨.ref s1.heap.objs.size,upd H1 s1.heap.objs.size (.lst xs),I1.laid (t':=s1.toks) (λb u e=>au _ e) (bf _) ?_,rfl,q _ hf⟩;exact⟨z,us,0,r,bg _ rfl⟩
end
abbrev Sp:=List V->Hp->VK->XK->Prop
abbrev v3:=List cz->Hp->ag->XK->ae->ag->Prop
structure v4(P:ao)(w:aE)(K:W.Frag)(mg:ar->Option ae)(base:aq)(A:ay)(outer:List cz)(s:ag)(H:Hp):Prop where
 frames:A.frames=aa outer
 mod:Mod K mg base
 bs:∀b o,base.get? b=aa o->s.heap.get? b=aa o/\H b=ak
 Fp:base.objs.size<=s.heap.objs.size
 px:s.heap.FunFrames base outer
 HU:∀b∈oi outer,H b=ak
 iy:pG P w H s.heap
 bare:dA s.gens
def CE (outer:List cz)(P:ao)(w:aE)(H:Hp)(s:ag)(Q:VK)(u:ae)(s':ag):Prop:=
 ∃v H',s'.os=s.os/\dA s'.gens/\Un (oi outer) [] H H' s.heap s'.heap/\pG P w H' s'.heap/\RelV v u/\Q v H'
def CR (CX:v3)(outer:List cz)(P:ao)(w:aE)(H:Hp)(s:ag)(Q:VK)(E:XK)(r:eK)(s':ag):Prop:=
 match r with
 |.ok (.ret u)=>CE outer P w H s Q u s'
 |.ok _=>False
 |.error e=>CX outer H s E e s'
structure iW(P:ao)(w:aE)(K:W.Frag)(mg:ar->Option ae)(base:aq)(CX:v3)(k:Nat)(f:af)(fd:bz)(ps:List ar)(sp:Sp):Prop where
 len:∀vs H Q E,sp vs H Q E->vs.length=ps.length
 run:∀(A:ay) (outer:List cz) (s:ag) (H:Hp) (args:Args) (us:List ae) (vs:List V) (Q:VK) (E:XK),iG k A->v4 P w K mg base A outer s H->eo s fd args (ps.zip us)->Vals vs us->sp vs H Q E->
  codeAny (model P w) A (.call (.ref f) args) (CR CX outer P w H s Q E) s
theorem iW.mono{P:ao}{w:aE}{K:W.Frag}{mg:ar->Option ae}{base:aq}{CX:v3}{j k:Nat}{f:af}{fd:bz}{ps:List ar}{sp:Sp}(F:iW P w K mg base CX j f fd ps sp)(h:j<=k):
  iW P w K mg base CX k f fd ps sp:=⟨F.len,λA outer s H args us vs Q E hr=>F.run A outer s H args us vs Q E (hr.mono h)⟩
theorem iW.imp{P:ao}{w:aE}{K:W.Frag}{mg:ar->Option ae}{base:aq}{CX:v3}{k:Nat}{f:af}{fd:bz}{ps:List ar}{sp IH:Sp}(F:iW P w K mg base CX k f fd ps sp)
(h:∀vs H Q E,IH vs H Q E->sp vs H Q E):iW P w K mg base CX k f fd ps IH:=
 ⟨λvs H Q E q=>F.len vs H Q E (h _ _ _ _ q),λA outer s H args us vs Q E hr he hb hv hs=>F.run A outer s H args us vs Q E hr he hb hv (h _ _ _ _ hs)⟩
theorem v4.make{P:ao}{w:aE}{K:W.Frag}{mg:ar->Option ae}{base:aq}{A:ay}{outer:List cz}{s:ag}{H:Hp}(e:v4 P w K mg base A outer s H)(C:af)(us:List ae)(kw:List (ar×ae)):
  v4 P w K mg base (A.under (.builtin "type.__call__" ⟨.ref C::us,kw⟩)) outer s H:=⟨by first|exact e.frames|(simpa[ay.under,Code.envs,Code.isFrame,pushEnvs] using e.frames),e.mod,e.bs,e.Fp,e.px,e.HU,e.iy,e.bare⟩
section
variable {X:Cx} {pins:List (af×bE)} {σ:St} {H:Hp} {s s':ag}
theorem Inv.GZ(I:Inv X pins σ H s):v4 X.prog X.w X.K X.mg X.base X.A X.stack s H:=
 ⟨I.ok.frames,I.ok.mod,I.bs,aT I.ok.Fp I.sz,I.stack,I.Fq,I.iy,I.bare⟩
theorem Inv.after{Q:VK}{u:ae}(I:Inv X pins σ H s)(h:CE X.stack X.prog X.w H s Q u s'):EP X pins σ Q u s':=by obtain⟨v,H',os,bare,un,iy,r,q⟩:=h;obtain⟨hh,g,d,t,ZJ⟩:=s';obtain rfl:ZJ=s.os:=os;exact⟨v,H',I.call (h':=hh) (g':=g) (d':=d) (t':=t) (ch:=[]) un iy bare (λb z=>absurd z (by simp)),r,q⟩
end
def NW (sp:Sp)(sE:List V)(E:XK)(t:TA):TE:=λσ H Q=>t σ H λvs H1=>sp (vs++sE) H1 Q E
def SD (C:af)(sp:Sp)(sE:List V)(E:XK)(t:TA):TE:=λσ H Q=>t σ H λvs H1=>∀x dx,H1 x=ak->H1 dx=ak->dx≠x->
 sp (.ref x::(vs++sE)) (upd (upd H1 dx (.own x)) x (.ins C dx [])) (λv H2=>v=.non/\Q (.ref x) H2) E
def Binds(K:W.Frag)(fd:bz)(ps:List ar)(ds:List ae):Prop:=
 ∀(s:ag) (us:List ae),K.In s.heap->(us++ds).length=ps.length->eo s fd ⟨us,[]⟩ (ps.zip (us++ds))
theorem Binds.all{K:W.Frag}{fd:bz}{ps:List ar}(h:∀us:List ae,us.length=ps.length->c7 fd ⟨us,[]⟩=pure (ps.zip us)):Binds K fd ps []:=λs us _ hl=>by rw[bj] at hl ⊢;exact .of_eq (h us hl)
def om (CX:v3)(X:Cx)(E:XK):Prop:=∀(pins:List (af×bE)) (σ:St) (H:Hp) (s:ag) (e:ae) (s':ag),Inv X pins σ H s->CX X.stack H s E e s'->X.xe e s'
section
variable {X:Cx} {CX:v3} {k:Nat} {f C:af} {fd:bz} {ps:List ar} {sp:Sp} {sE:List V} {ds:List ae} {E:XK} {x m:ar} {p pos apos:cu} {e o:aM} {es:List aM} {ta:TE} {t:TA}
theorem II{pins:List (af×bE)}{σ:St}{H:Hp}{s:ag}{Q:VK}{us:List ae}{vs:List V}(F:iW X.prog X.w X.K X.mg X.base CX k f fd ps sp)(hr:iG k X.A)(hb:Binds X.K fd ps ds)(hd:Vals sE ds)(hx:om CX X E)
(I:Inv X pins σ H s)(r:Vals vs us)(h:sp (vs++sE) H Q E):wpAny (model X.prog X.w) X.A (call (.ref f) us) (EP X pins σ Q) X.xe s:=by
 have r2:Vals (vs++sE) (us++ds):=r.append hd;have hl:(us++ds).length=ps.length:=by rw[<-r2.length];exact F.len _ _ _ _ h
 refine cM (cr (F.run X.A X.stack s H ⟨us,[]⟩ (us++ds) (vs++sE) Q E hr I.GZ (hb s us I.pD hl) r2 h) λr s' hq=>?_);cases r with
 |error e=>exact hx pins σ H s e s' I hq
 |ok fl=>
  cases fl with
  |ret u=>exact I.after hq
  |next=>exact bu hq
  |brk=>exact bu hq
  |cont=>exact bu hq
theorem LU(F:iW X.prog X.w X.K X.mg X.base CX k f fd ps sp)(hr:iG k X.A)(hg:Gl X x)(hm:X.mg x=aa (.ref f))(hk:W.keepIn X.K (.ref f)=ah)(hb:Binds X.K fd ps ds)(hd:Vals sE ds)(hx:om CX X E)
(ha:PA X (e::es) t)(ni:(x==("__debug__":ar))=ai:=by decide)(he:av (e::es) X.env=(ai,eval e X.env)::av es X.env:=by rfl)(kC:(bN pos (av es X.env)).any (·.1)=ai:=by rfl):
  PE X (.Call (.Name x p) (e::es) [] pos) (NW sp sE E t):=by intro pins s σ H Q I h;refine b2 (lW I hg hm ?_ ni);refine W.callWith_K (h₀:=X.base) I.ok.mod.DU hk (ja (ha pos pins s σ H _ I h) λus s1 ⟨vs,H1,I1,r,q⟩=>⟨I1.pD,?_⟩) he kC;exact II F hr hb hd hx I1 r q
structure Mk(K:W.Frag)(C f:af):Prop where
 makes:W.makesIn K C=ah
 init:W.findIn K (.ref C) "__init__"=aa (aa (.ref f))
 fn:W.isFn K (.ref f)=ah
 kp:W.keepIn K (.ref C)=ah
theorem IJ{pins:List (af×bE)}{σ:St}{H:Hp}{s:ag}{Q:VK}{us:List ae}{vs:List V}(M:Mk X.K C f)(F:iW X.prog X.w X.K X.mg X.base CX k f fd ps sp)(hr:iG (k+1) X.A)(hb:Binds X.K fd ps ds)(hd:Vals sE ds)
(hx:om CX X E)(I:Inv X pins σ H s)(r:Vals vs us)
(h:∀x dx,H x=ak->H dx=ak->dx≠x->sp (.ref x::(vs++sE)) (upd (upd H dx (.own x)) x (.ins C dx [])) (λv H2=>v=.non/\Q (.ref x) H2) E):
  wpAny (model X.prog X.w) X.A (call (.ref C) us) (EP X pins σ Q) X.xe s:=by
 have hq:=h (s.heap.objs.size+1) s.heap.objs.size (I.iy.fresh (Nat.le_succ _)) (I.iy.fresh (bf _)) (bM (Nat.lt_succ_self _));have I2:=Inv.made (C:=C) I;have r2:Vals (V.ref (s.heap.objs.size+1)::(vs++sE)) (aD (s.heap.objs.size+1)::(us++ds)):=.cons rfl (r.append hd);have hl:(aD (s.heap.objs.size+1)::us++ds).length=ps.length:=by have e:=r2.length;rw[F.len _ _ _ _ hq] at e;exact e.symm
 refine cM (IE (f:=f) I.pD M.makes M.init (beq_iff_eq.mp M.fn) (cr (F.run _ X.stack _ _ ⟨aD (s.heap.objs.size+1)::us,[]⟩ (aD (s.heap.objs.size+1)::(us++ds)) _ _ E (hr.make C us [])
  (I2.GZ.make C us []) (hb _ (aD (s.heap.objs.size+1)::us) I2.pD hl) r2 hq) λr s' BC=>?_))
 cases r with
 |error e=>exact hx pins σ _ _ e s' I2 BC
 |ok fl=>
  cases fl with
  |ret u=>
   obtain⟨v,H',I3,rv,ev,q3⟩:=I2.after BC;subst ev;exact⟨rv,⟨V.ref (s.heap.objs.size+1),H',I3,rfl,q3⟩⟩
  |next=>exact bu BC
  |brk=>exact bu BC
  |cont=>exact bu BC
theorem FA(M:Mk X.K C f)(F:iW X.prog X.w X.K X.mg X.base CX k f fd ps sp)(hr:iG (k+1) X.A)(hg:Gl X x)(hm:X.mg x=aa (.ref C))(hb:Binds X.K fd ps ds)(hd:Vals sE ds)(hx:om CX X E)
(ha:PA X (e::es) t)(ni:(x==("__debug__":ar))=ai:=by decide)(he:av (e::es) X.env=(ai,eval e X.env)::av es X.env:=by rfl)(kC:(bN pos (av es X.env)).any (·.1)=ai:=by rfl):
  PE X (.Call (.Name x p) (e::es) [] pos) (SD C sp sE E t):=by intro pins s σ H Q I h;refine b2 (lW I hg hm ?_ ni);refine W.callWith_K (h₀:=X.base) I.ok.mod.DU M.kp (ja (ha pos pins s σ H _ I h) λus s1 ⟨vs,H1,I1,r,q⟩=>⟨I1.pD,?_⟩) he kC;exact IJ M F hr hb hd hx I1 r q
end
section
variable {X:Cx} {CX:v3} {k:Nat} {f C:af} {fd:bz} {ps ks:List ar} {sp:Sp} {E:XK} {x m:ar} {p pos apos SE:cu} {e o:aM} {es:List aM} {kws:List et} {te ta:TE} {t tk:TA} {nm:Option ar}
structure We(K:W.Frag)(fd:bz)(ps ks:List ar)(g:List ae->List ae->List ae)(gV:List V->List V->List V):Prop where
 to:∀(s:ag) (us ws:List ae),K.In s.heap->(g us ws).length=ps.length->eo s fd ⟨us,ks.zip ws⟩ (ps.zip (g us ws))
 rel:∀{vs:List V} {us:List ae} {zs:List V} {ws:List ae},Vals vs us->Vals zs ws->Vals (gV vs zs) (g us ws)
variable {g:List ae->List ae->List ae} {gV:List V->List V->List V}
end
structure gL(N P:List ar)(sc:bJ):Prop where
 kind:sc.kind=.function
 co:sc.isCoroutine=ai
 gen:sc.isGenerator=ai
 nd:N.Nodup
 pre:N.take P.length=P
 par:∀x∈P,sc.names.lookup x=aa .local\/sc.names.lookup x=aa .cell
 Pj:∀y∈sc.names,y.2≠.free
theorem yG{kindOf:ar->Option b3}{x:ar}:∀{binds:List (ar×ae)} {m:ar->Option ae},(∀v,(x,v)∉binds)->fB kindOf binds m x=m x
 |[],_,_=>rfl
 | (n,v)::r,m,h=>by
  unfold fB;rw[yG λw hw=>h w (aX _ hw)];split
  ·have:x≠n:=by rintro rfl;exact h v bd
   simp[this]
  ·rfl
theorem yH{kindOf:ar->Option b3}{x:ar}:∀{binds:List (ar×ae)} {m:ar->Option ae},(∀v,(x,v)∉binds)->fC kindOf binds m x=m x
 |[],_,_=>rfl
 | (n,v)::r,m,h=>by
  unfold fC;rw[yH λw hw=>h w (aX _ hw)];split
  ·rfl
  ·have:x≠n:=by rintro rfl;exact h v bd
   simp[this]
theorem yI{kindOf:ar->Option b3}{x:ar}{v:ae}:∀{P:List ar} {vs:List ae} {i:Nat} {m:ar->Option ae},P.Nodup->P[i]?=aa x->vs[i]?=aa v->kindOf x=aa .local->
  fB kindOf (P.zip vs) m x=aa v
 |[],_,_,_,_,h,_,_=>by simp at h
 |_::_,[],_,_,_,_,h,_=>by simp at h
 |p::P,w::vs,0,m,nd,h1,h2,hk=>by simp at h1 h2;subst h1;subst h2;show fB kindOf ((p,w)::P.zip vs) m p=_;unfold fB;rw[yG λv hv=>(dY.mp nd).1 (dZ hv).1,if_pos hk];simp
 |p::P,w::vs,i+1,m,nd,h1,h2,hk=>by show fB kindOf ((p,w)::P.zip vs) m x=_;unfold fB;exact yI (i:=i) (dY.mp nd).2 (by simpa using h1) (by simpa using h2) hk
theorem yJ{kindOf:ar->Option b3}{x:ar}{v:ae}:∀{P:List ar} {vs:List ae} {i:Nat} {m:ar->Option ae},P.Nodup->P[i]?=aa x->vs[i]?=aa v->kindOf x≠aa .local->
  fC kindOf (P.zip vs) m x=aa v
 |[],_,_,_,_,h,_,_=>by simp at h
 |_::_,[],_,_,_,_,h,_=>by simp at h
 |p::P,w::vs,0,m,nd,h1,h2,hk=>by simp at h1 h2;subst h1;subst h2;show fC kindOf ((p,w)::P.zip vs) m p=_;unfold fC;rw[yH λv hv=>(dY.mp nd).1 (dZ hv).1,if_neg hk];simp
 |p::P,w::vs,i+1,m,nd,h1,h2,hk=>by show fC kindOf ((p,w)::P.zip vs) m x=_;unfold fC;exact yJ (i:=i) (dY.mp nd).2 (by simpa using h1) (by simpa using h2) hk
noncomputable def start(N:List ar)(vs:List V):St:=vs.map aa++aU (N.length- vs.length) ak
noncomputable def py(CX:v3)(P:ao)(w:aE)(K:W.Frag)(mg:ar->Option ae)(base:aq)(N:List ar)(qual:ar)(scope:bJ)(f:af)(cd:ae)(A:ay)(outer:List cz)(s:ag)(H:Hp)(E:XK):Cx where
 prog:=P
 w:=w
 K:=K
 mg:=mg
 base:=base
 A:=A.deeper (cy qual scope s.heap.objs.size f cd)
 N:=N
 gG:=s
 gJ:=H
 env:=cy qual scope s.heap.objs.size f cd
 outer:=outer
 stack:=cy qual scope s.heap.objs.size f cd::outer
 ex:=[]
 calm:=ah
 fn:=λ_=>ah
 pn:=[]
 xe:=λe s'=>wpAny (model P w) (A.deeper (cy qual scope s.heap.objs.size f cd)) (leaving (cy qual scope s.heap.objs.size f cd) e) (λ_ Wf=>CX outer H s E e Wf) (λe' Wf=>CX outer H s E e' Wf) s'
theorem BD{sc:bJ}{n:Nat}{x:ar}(h:sc.names.lookup x=aa .cell):∃c,(fD n sc.names []).lookup x=aa c:=by have q:=W.cellsFrom_some sc.names n [] (.inl h);exact Option.isSome_iff_exists.mp q
theorem yL{CX:v3}{P:ao}{w:aE}{K:W.Frag}{mg:ar->Option ae}{base:aq}{N ps:List ar}{qual:ar}{scope:bJ}{f:af}{cd:ae}{A:ay}{outer:List cz}{s s1:ag}{H:Hp}{E:XK}{us:List ae}{vs:List V}
(S:gL N ps scope)(hd:A.handled=ak)(e0:v4 P w K mg base A outer s H)(hl:vs.length=ps.length)(r:Vals vs us)
(x:InCallC s s.heap.objs.size (fB (cy qual scope s.heap.objs.size f cd).kindOf (ps.zip us) λ_=>ak) (fD (s.heap.objs.size+1) scope.names []) (fC (cy qual scope s.heap.objs.size f cd).kindOf (ps.zip us) λ_=>ak) s1):
  Inv (py CX P w K mg base N qual scope f cd A outer s H E) [] (start N vs) H s1:=by
 have kC:ps.length<=N.length:=by have:=congrArg List.length S.pre;rw[dh] at this;omega
 obtain⟨h1,tk,rfl,hk⟩:=x.done;have SG:∀b:af,b∉(py CX P w K mg base N qual scope f cd A outer s H E).ex:=λb z=>absurd (show b∈([]:List af) from z) (by simp);refine⟨⟨e0.mod,S.kind,rfl,rfl,bf _,λy z c h1 h2=>?_,λy hy=>?_,λy c _ h=>?_,λ_=>hd,ay.frames_deeper e0.frames,.inr ⟨rfl,rfl⟩,λb z=>absurd z (SG b),e0.bs,e0.Fp,λb _ _=>SG b,λb z=>absurd z (SG b),e0.px,e0.HU⟩,
  rfl,e0.bare,Un.kept hk,⟨_,x.toInCall.ns,λi y v h1 h2 h3=>?_⟩,λy c h=>⟨_,x.cell y c h⟩,e0.iy.fresh (bf _),λy c h=>?_,λp hp=>absurd (show p∈([]:List (af×bE)) from hp) (by simp),e0.iy.kept hk,?_⟩
 ·exact name_of_addr x.apart (PySem.mem_of_lookup h1) (PySem.mem_of_lookup h2)
 ·have hy:scope.names.lookup y=aa .cell\/scope.names.lookup y=aa .free:=hy;rcases hy with hy|hy
  ·exact BD hy
  ·exact absurd rfl (S.Pj _ (PySem.mem_of_lookup hy))
 ·exact Nat.le_of_lt (x.above y c (PySem.mem_of_lookup h))
 ·have hi:i<vs.length:=by
   unfold start at h2;by_cases hi:i<vs.length
   ·exact hi
   ·rw[List.getElem?_append_right (by simpa using hi)] at h2;rw[List.getElem?_replicate] at h2;split at h2<;>cases h2
  have ha:vs[i]?=aa v:=by
   unfold start at h2;rw[bb (by simpa using hi),bQ] at h2;cases e:vs[i]? with
   |none=>rw[e] at h2;cases h2
   |some a=>rw[e] at h2;cases h2;rfl
  obtain⟨u,hu,rv⟩:=r.get ha;have hp:ps[i]?=aa y:=by rw[<-S.pre,List.getElem?_take_of_lt (by omega)];exact h1
  have Yw:ps.Nodup:=by rw[<-S.pre];exact S.nd.sublist (List.take_sublist _ _)
  refine⟨u,rv,?_⟩;rcases S.par y (bT hp) with k|k
  ·exact .inl ⟨k,yI Yw hp hu k⟩
  ·obtain⟨c,e⟩:=BD (n:=s.heap.objs.size+1) k;refine .inr ⟨.inl k,c,e,?_⟩;have q:=x.cell y c e;rw[yJ Yw hp hu (by show scope.names.lookup y≠_;rw[k];decide)] at q;exact q
 ·exact e0.iy.fresh (Nat.le_of_lt (x.above y c (PySem.mem_of_lookup h)))
 ·unfold start;show _=N.length;rw[bw,aR,List.length_replicate];omega
theorem FC{CX:v3}{P:ao}{w:aE}{K:W.Frag}{mg:ar->Option ae}{base:aq}{k:Nat}{f:af}{name qual:ar}{params:ef}{body:List br}{scope:bJ}{dV kV doc pm g8 ct oc:ae}{an od:Option af}
{uH:Array (Option ae)}{N ps:List ar}{sp:Sp}(lk:K.lookup f=aa ⟨oc,od,.func (W.fnOf name qual params body scope dV kV doc pm an g8 ct),uH⟩)(pE:W.codeIn K g8 qual=ah)(S:gL N ps scope)
(len:∀vs H Q E,sp vs H Q E->vs.length=ps.length)
(lw:∀(A:ay) (outer:List cz) (s:ag) (H:Hp) (vs:List V) (Q:VK) (E:XK),iG k (A.deeper (cy qual scope s.heap.objs.size f g8))->sp vs H Q E->
   ∃t,pH (py CX P w K mg base N qual scope f g8 A outer s H E) body t/\t {nx:=λ_ H'=>Q .non H',rt:=Q} (start N vs) H):
  iW P w K mg base CX (k+1) f (W.fnOf name qual params body scope dV kV doc pm an g8 ct) ps sp:=by
 refine⟨len,λA outer s H args us vs Q E hr e0 hb r zL=>?_⟩;have hl:=len _ _ _ _ zL;have KX:K.In s.heap:=e0.mod.DU.keeps λb o e=>(e0.bs b o e).1;have Wg:s.heap.NoLimit:=e0.mod.nolimit.keeps λb o e=>(e0.bs b o e).1;have IK:∀y∈ps.zip us,scope.names.lookup y.1=aa .local\/(scope.names.lookup y.1=aa .cell/\((fD (s.heap.objs.size+1) scope.names []).lookup y.1).isSome=ah):=λ⟨n,v⟩ hy=>by
  rcases S.par n (dZ hy).1 with q|q
  ·exact .inl q
  ·exact .inr ⟨q,W.cellsFrom_some _ _ _ (.inl q)⟩
 refine fU hr.depth (KX _ _ lk) rfl S.co S.gen rfl (W.codeRec_of KX pE) (hb _ _ _ _ ?_);refine fg S.kind IK λenv he s1 x=>?_;subst he;refine⟨Wg.keeps x.toInCall.keep,codeAny_func ?_⟩;obtain⟨t,ht,hq⟩:=lw A outer s H vs Q E (hr.deeper _) zL;have I:Inv (py CX P w K mg base N qual scope f g8 A outer s H E) [] (start N vs) H s1:=yL S hr.hd e0 hl r x;refine bR (ht [] s1 (start N vs) H _ I hq) (λfl s' hs=>?_) λe s' hs=>hs;have lm:∀{iF:St} {H':Hp} {v:V} {u:ae},Inv (py CX P w K mg base N qual scope f g8 A outer s H E) [] iF H' s'->RelV v u->Q v H'->CE outer P w H s Q u s':=
  λ{iF H' v u} J rv q=>⟨v,H',J.os,J.bare,J.base,J.iy,rv,q⟩
 cases fl with
 |ret u=>
  obtain⟨v,iF,H',J,rv,q⟩:=hs;exact lm J rv q
 |next=>
  obtain⟨iF,H',J,q⟩:=hs;exact lm (v:=V.non) (u:=aV) J rfl q
 |brk=>
  obtain⟨_,_,_,q⟩:=hs;exact bu q
 |cont=>
  obtain⟨_,_,_,q⟩:=hs;exact bu q
section
variable {X:Cx} {x:ar} {p pos:cu} {e:aM} {es:List aM} {t:TA} {id T:String} {r:List V->Hp->VK->Prop}
def Wh (r:List V->Hp->VK->Prop)(t:TA):TE:=λσ H Q=>t σ H λvs H1=>r vs H1 Q
theorem IL(hc:pJ X (.builtin id) r)(hg:Gl X x)(hm:X.mg x=ak)(hv:b8 x=aa (.builtin id))(ha:PA X (e::es) t)(hn:x≠"__name__":=by decide)(ni:(x==("__debug__":ar))=ai:=by decide)
(he:av (e::es) X.env=(ai,eval e X.env)::av es X.env:=by rfl)(kC:(bN pos (av es X.env)).any (·.1)=ai:=by rfl):PE X (.Call (.Name x p) (e::es) [] pos) (Wh r t):=by intro pins s σ H Q I h;refine b2 (zE I hg hm hv ?_ hn ni);exact PyProof.Rows.callWith_builtin1 (ja (ha pos pins s σ H _ I h) λus s1 ⟨vs,H1,I1,r1,q1⟩=>hc pins s1 σ H1 vs us Q I1 r1 q1) he kC
theorem yM(hc:pJ X (.type T) r)(hg:Gl X x)(hm:X.mg x=ak)(hv:b8 x=aa (.type T))(ha:PA X (e::es) t)(hn:x≠"__name__":=by decide)(ni:(x==("__debug__":ar))=ai:=by decide)
(he:av (e::es) X.env=(ai,eval e X.env)::av es X.env:=by rfl)(kC:(bN pos (av es X.env)).any (·.1)=ai:=by rfl):PE X (.Call (.Name x p) (e::es) [] pos) (Wh r t):=by intro pins s σ H Q I h;refine b2 (zE I hg hm hv ?_ hn ni);exact c9 (ja (ha pos pins s σ H _ I h) λus s1 ⟨vs,H1,I1,r1,q1⟩=>hc pins s1 σ H1 vs us Q I1 r1 q1) he kC
end
section
variable {κ:Type} [DecidableEq κ]
noncomputable def rE(gZ:List (κ×V))(k:κ):Option V:=(gZ.find? λkv=>decide (kv.1=k)).map (·.2)
noncomputable def LV(gZ:List (κ×V))(k:κ)(v:V):List (κ×V):=
 if(gZ.any λkv=>decide (kv.1=k))=ah then gZ.map (λkv=>if kv.1=k then(kv.1,v) else kv) else gZ++[(k,v)]
theorem v5{p:κ×V}{r:List (κ×V)}{k:κ}(e:p.1=k):rE (p::r) k=aa p.2:=by simp[rE,cX,e]
theorem v6{p:κ×V}{r:List (κ×V)}{k:κ}(e:¬p.1=k):rE (p::r) k=rE r k:=by simp[rE,cX,e]
theorem mM.yN{o:Option V}{u:Option ae}(r:mM o u):o.isSome=u.isSome:=by
 cases o with
 |none=>cases u with
  |none=>rfl
  |some _=>exact(show False from r).elim
 |some _=>cases u with
  |none=>exact(show False from r).elim
  |some _=>rfl
theorem mM.getD{o:Option V}{u:Option ae}{d:V}{d':ae}(r:mM o u)(rd:RelV d d'):RelV (o.getD d) (u.getD d'):=by
 cases o with
 |none=>cases u with
  |none=>exact rd
  |some _=>exact(show False from r).elim
 |some _=>cases u with
  |none=>exact(show False from r).elim
  |some _=>exact r
theorem KV.val{gZ:List (κ×V)}{vs:List (κ×ae)}(r:KV gZ vs)(k:κ):mM (rE gZ k) (eN vs k):=by
 unfold KV at r;induction r with
 |nil=>exact cQ
 |@cons p q ps qs h t ih=>
  obtain⟨h1,h2⟩:=h;by_cases e:p.1=k
  ·have e':q.1=k:=h1.symm.trans e;have b:eN (q::qs) k=aa q.2:=by simp[eN,cX,e']
   rw[v5 e,b];exact h2
  ·have e':¬q.1=k:=λz=>e (h1.trans z);have b:eN (q::qs) k=eN qs k:=by simp[eN,cX,e']
   rw[v6 e,b];exact ih
theorem KV.any{gZ:List (κ×V)}{vs:List (κ×ae)}(r:KV gZ vs)(k:κ):(gZ.any λkv=>decide (kv.1=k))=vs.any λkv=>decide (kv.1=k):=by
 unfold KV at r;induction r with
 |nil=>rfl
 |cons h t ih=>rw[dm,dm,ih,h.1]
theorem KV.keys{gZ:List (κ×V)}{vs:List (κ×ae)}(r:KV gZ vs):gZ.map (·.1)=vs.map (·.1):=by
 unfold KV at r;induction r with
 |nil=>rfl
 |cons h t ih=>rw[bW,bW,ih,h.1]
theorem KV.length{gZ:List (κ×V)}{vs:List (κ×ae)}(r:KV gZ vs):gZ.length=vs.length:=Paired.length r
end
theorem IM{P:ao}{w:aE}{k:Key}{u:ae}(r:RelV (kV k) u):(kE P w).is k u=ah:=by
 cases k with
 |inl i=>obtain⟨t,e⟩:=(show∃t,u=ae.int i t from r);subst e;exact Bq P w i t
 |inr x=>obtain⟨t,e⟩:=(show∃t,u=ae.str x t from r);subst e;exact Bs P w x t
theorem yO{P:ao}{w:aE}:∀{ks:List Key} {us:List ae},Vals (ks.map kV) us->ItemsAre (kE P w) ks us
 |[],_,r=>by rw[List.map_nil] at r;cases r;exact .nil
 |k::ks,_,r=>by
  rw[bW] at r;cases r with
  |cons h t=>exact .cons (IM h) (yO t)
abbrev KT(H:Hp):List (List Key×V)->List (List Key×af×ae)->Prop:=Paired λp q=>p.1=q.1/\H q.2.1=aa (.tup (p.1.map kV))/\RelV p.2 q.2.2
theorem KT.val{H:Hp}{gZ:List (List Key×V)}{xs:List (List Key×af×ae)}(r:KT H gZ xs)(k:List Key):mM (rE gZ k) ((fX xs k).map (·.2)):=by
 induction r with
 |nil=>exact cQ
 |@cons p q ps qs h t ih=>
  obtain⟨h1,_,h2⟩:=h;by_cases e:p.1=k
  ·have e':q.1=k:=h1.symm.trans e;have b:fX (q::qs) k=aa q.2:=by simp[fX,cX,e']
   rw[v5 e,b];exact h2
  ·have e':¬q.1=k:=λz=>e (h1.trans z);have b:fX (q::qs) k=fX qs k:=by simp[fX,cX,e']
   rw[v6 e,b];exact ih
section
variable {P:ao} {w:aE} {H:Hp} {h:aq} {a:af}
theorem NX{u:HO}(ok:pG P w H h)(e:Rd H a u):iQ P w H h a u:=e.ok ok
theorem FD{gZ:List (Key×V)}(ok:pG P w H h)(e:Rd H a (.dK gZ)):gZ.length<=aH/\(a==el)=ai/\∃vs,KV gZ vs/\h.DictOf (kE P w) a vs:=
 show iQ P w H h a (.dK gZ) from NX ok e
theorem D5{ks:List Key}(ok:pG P w H h)(e:H a=aa (.tup (ks.map kV))):(fu (kE P w)).is h ks a:=by obtain⟨_,hX,r,o,h1,h2,n,h3⟩:=(show iQ P w H h a (.tup (ks.map kV)) from ok a _ e);exact⟨o,hX.toArray,n,h1,h2,h3,by simpa using yO r⟩
theorem IN{gZ:List (List Key×V)}(ok:pG P w H h)(e:Rd H a (.dT gZ)):gZ.length<=aH/\(a==el)=ai/\
  ∃xs,KT H gZ xs/\h.DictOfH (fu (kE P w)) a xs:=by
 obtain⟨z,y,xs,r,o,es,ep,h1,h2,h3,h4,h5⟩:=(show iQ P w H h a (.dT gZ) from NX ok e);refine⟨z,y,xs,r,o,es,ep,h1,h2,h3,h4,λx hx=>?_,h5⟩;have all:∀{l:List (List Key×V)} {m:List (List Key×af×ae)},KT H l m->∀x∈m,(fu (kE P w)).is h x.1 x.2.1:=by
  intro l m q;induction q with
  |nil=>intro x hx;exact nomatch hx
  |@cons p q ps qs hq t ih=>
   intro x hx;rcases ba.mp hx with e|hx
   ·subst e;exact D5 ok (by rw[<-hq.1];exact hq.2.1)
   ·exact ih x hx
 exact all r x hx
end
def vf (H:Hp)(a:af)(y:V)(r:Option V):Prop:=
 (∃gZ k,Rd H a (.dK gZ)/\y=kV k/\r=rE gZ k)\/∃gZ k b,Rd H a (.dT gZ)/\y=.ref b/\H b=aa (.tup (k.map kV))/\r=rE gZ k
def LW (H:Hp)(a:af)(y v:V)(H':Hp):Prop:=
 (∃gZ k,H a=aa (.dK gZ)/\y=kV k/\gZ.length<aH/\H'=upd H a (.dK (LV gZ k v)))\/
 ∃gZ k b,H a=aa (.dT gZ)/\y=.ref b/\H b=aa (.tup (k.map kV))/\gZ.length<aH/\H'=upd H a (.dT (LV gZ k v))
theorem vf.k{H:Hp}{a:af}{gZ:List (Key×V)}{k:Key}(e:H a=aa (.dK gZ)):vf H a (kV k) (rE gZ k):=.inl ⟨gZ,k,.inl e,rfl,rfl⟩
theorem vf.t{H:Hp}{a b:af}{gZ:List (List Key×V)}{k:List Key}(e:H a=aa (.dT gZ))(eb:H b=aa (.tup (k.map kV))):vf H a (.ref b) (rE gZ k):=.inr ⟨gZ,k,b,.inl e,rfl,eb,rfl⟩
theorem LW.k{H:Hp}{a:af}{gZ:List (Key×V)}{k:Key}{v:V}(e:H a=aa (.dK gZ))(hl:gZ.length<aH):LW H a (kV k) v (upd H a (.dK (LV gZ k v))):=.inl ⟨gZ,k,e,rfl,hl,rfl⟩
theorem LW.t{H:Hp}{a b:af}{gZ:List (List Key×V)}{k:List Key}{v:V}(e:H a=aa (.dT gZ))(eb:H b=aa (.tup (k.map kV)))(hl:gZ.length<aH):
  LW H a (.ref b) v (upd H a (.dT (LV gZ k v))):=.inr ⟨gZ,k,b,e,rfl,eb,hl,rfl⟩
section
variable {X:Cx} {pins:List (af×bE)} {σ:St} {H:Hp} {s:ag} {a:af} {y v:V} {u r:ae} {o:Option V} {A:ay} {E:ae->ag->Prop}
theorem G0{Q:ae->ag->Prop}(hu:A.units+1<eC)(I:Inv X pins σ H s)(g:vf H a y (aa v))(ry:RelV y u)(h:∀w' s',Inv X pins σ H s'->RelV v w'->Q w' s'):
  wpAny (model X.prog X.w) A (eG (.ref a) u) Q E s:=by
 rcases g with⟨gZ,k,e,ey,l⟩|⟨gZ,k,b,e,ey,eb,l⟩
 ·subst ey;obtain⟨z,hd,vs,rel,dd⟩:=FD I.iy e;obtain⟨w',hw,BE⟩:=mM.some_of (v:=v) (o:=eN vs k) (by rw[l];exact rel.val k);exact wpAny_getItem_of (IM ry) dd.mapOf hw (h w' _ (I.tok _) BE)
 ·subst ey;cases(show u=aD b from ry);obtain⟨z,hd,xs,rel,dd⟩:=IN I.iy e;obtain⟨w',hw,BE⟩:=mM.some_of (v:=v) (o:=(fX xs k).map (·.2)) (by rw[l];exact rel.val k);obtain⟨p,hp,ZK⟩:=Option.map_eq_some_iff.mp hw;refine wpAny_getItem_heap (gg hu) (D5 I.iy eb) dd hp ?_;rw[ZK];exact h w' _ (I.tok _) BE
theorem Wi{Q:ae->ag->Prop}(hu:A.units+1<eC)(I:Inv X pins σ H s)(g:vf H a y o)(ry:RelV y u)(h:∀s',Inv X pins σ H s'->Q (.bool o.isSome) s'):
  wpAny (model X.prog X.w) A (compareOp .In u (.ref a)) Q E s:=by
 rcases g with⟨gZ,k,e,ey,l⟩|⟨gZ,k,b,e,ey,eb,l⟩
 ·subst ey;obtain⟨z,hd,vs,rel,dd⟩:=FD I.iy e;refine wpAny_in_of (IM ry) hd dd.mapOf ?_;rw[<-(rel.val k).yN,<-l];exact h _ (I.tok _)
 ·subst ey;cases(show u=aD b from ry);obtain⟨z,hd,xs,rel,dd⟩:=IN I.iy e;refine wpAny_in_heap (gg hu) (D5 I.iy eb) hd dd ?_;have q:=(rel.val k).yN;rw[Option.isSome_map] at q;rw[<-q,<-l];exact h _ (I.tok _)
end
section
variable {X:Cx} {pins:List (af×bE)} {σ:St} {H:Hp} {s:ag} {a:af} {gZ:List (Key×V)} {k:Key} {u:ae} {A:ay} {E:ae->ag->Prop}
theorem SH{Q:ae->ag->Prop}(I:Inv X pins σ H s)(e:Rd H a (.dK gZ))(h:∀t s',Inv X pins σ H s'->Q (.int gZ.length t) s'):wpAny (model X.prog X.w) A (call (.builtin "len") [.ref a]) Q E s:=by obtain⟨z,hd,vs,rel,dd⟩:=FD I.iy e;refine call_len_dict hd dd (by rw[<-rel.length];rw[eA] at z;omega) ?_;rw[<-rel.length];exact h _ _ (I.tok _)
end
theorem uI{X:Cx}{pins:List (af×bE)}{σ:St}{H:Hp}{s:ag}{a:af}{y:V}{o:Option V}(I:Inv X pins σ H s)(g:vf H a y o):s.TypeIs (.ref a) "dict":=by
 rcases g with⟨gZ,k,e,_,_⟩|⟨gZ,k,b,e,_,_,_⟩
 ·obtain⟨_,_,vs,_,dd⟩:=FD I.iy e;exact dd.typeIs
 ·obtain⟨_,_,xs,_,dd⟩:=IN I.iy e;exact dd.typeIs
section
variable {X:Cx} {o i e value:aM} {pos pos' Bx:cu} {td ty tv:TE}
end
section
variable {X:Cx} {pos:cu}
end
def D6:List (TE×TE)->St->Hp->(List (V×V)->Hp->Prop)->Prop
 |[],_,H,Q=>Q [] H
 | (tk,tv)::r,σ,H,Q=>tk σ H λx H1=>tv σ H1 λy H2=>D6 r σ H2 λps H3=>Q ((x,y)::ps) H3
abbrev VV:List (V×V)->List (ae×ae)->Prop:=Paired λp q=>RelV p.1 q.1/\RelV p.2 q.2
def ZL (X:Cx)(pos:cu)(keys:List (Option aM))(values:List aM)(U5:List (TE×TE)):Prop:=
 ∀(pins:List (af×bE)) (s:ag) (σ:St) (H:Hp) (Q:List (V×V)->Hp->Prop),Inv X pins σ H s->D6 U5 σ H Q->
  wpAny (model X.prog X.w) X.A (evalPairs (pairTrees keys values X.env pos)) (λvs s'=>∃ps H',Inv X pins σ H' s'/\VV ps vs/\Q ps H') X.xe s
structure M1(X:Cx)(o:aM)(m:ar)(apos:cu)(e:aM)(iM:cu):Prop where
 base:cE o m X.env (eval o X.env)=eval o X.env
 few:((bN iM (av [e] X.env)).all (λx=>!x.1)&&(eg iM (de [] X.env)).all (λx=>x.1.isSome)
  &&decide (([e]:List aM).length+([]:List et).length+(if([]:List et).isEmpty then 0 else 1)<30))=ah
 line:(apos.endLine==iM.line)=ah
 trees:bN iM (av [e] X.env)=[(ai,eval e X.env)]
structure M2(X:Cx)(o:aM)(m:ar)(apos:cu)(e f:aM)(iM:cu):Prop where
 base:cE o m X.env (eval o X.env)=eval o X.env
 few:((bN iM (av [e,f] X.env)).all (λx=>!x.1)&&(eg iM (de [] X.env)).all (λx=>x.1.isSome)
  &&decide (([e,f]:List aM).length+([]:List et).length+(if([]:List et).isEmpty then 0 else 1)<30))=ah
 line:(apos.endLine==iM.line)=ah
 trees:bN iM (av [e,f] X.env)=[(ai,eval e X.env),(ai,eval f X.env)]
section
variable {X:Cx} {pins:List (af×bE)} {σ:St} {H:Hp} {s:ag} {a:af} {y d:V} {u r:ae} {o:Option V} {A:ay} {E:ae->ag->Prop}
end
section
variable {X:Cx} {o e f:aM} {apos iM:cu} {td ty tx:TE}
end
section
variable {X:Cx} {pins:List (af×bE)} {σ:St} {H:Hp} {s:ag} {a:af} {gZ:List (Key×V)} {A:ay} {E:ae->ag->Prop}
end
section
variable {X:Cx} {pins:List (af×bE)} {σ:St} {H:Hp} {s:ag} {a:af} {y:V} {u:ae} {A:ay} {E:ae->ag->Prop}
end
end L2
namespace HT
open PySem PyProof.Rows
section
open PySem.SeqAt
open PySem.AutoSeq1 (wpAny_loadPart')
open PySem.MeetsSeq PySem.MeetsSeq2 PySem.MeetsSeq3
end
section
variable {prog:ao} {w:aE} {A:ay} {E:ae->ag->Prop} {s:ag}
theorem LX{t b:af}{vs ws:List ae}{Q:ae->ag->Prop}(ht:fq s.heap t vs.toArray)(hb:fq s.heap b ws.toArray)(hv:vs≠[])
(h1:ws=[]->Q (.ref t) s)(h2:ws≠[]->Q (.ref s.heap.objs.size) {s with heap:=s.heap.push {cls:=.type "tuple",data:=.seq (vs++ws).toArray}})
(DH:vs.length+ws.length<=aH):wpAny (model prog w) A (binaryOp .Add (.ref t) (.ref b)) Q E s:=by
 obtain⟨⟨cls,dd,data,sl⟩,ho,hc,n,hd⟩:=id ht;obtain⟨⟨ZM,Yx,data2,Yy⟩,U6,U7,n2,U8⟩:=id hb;simp only at hc hd U7 U8;subst hc hd U7 U8;have e:vs.toArray++ws.toArray=(vs++ws).toArray:=by simp
 by_cases hw:ws=[]
 ·exact concat_meets ⟨_,ho,rfl⟩ ⟨_,U6,rfl⟩ aau aaH PySem.F.slot_tuple_add PySem.F.entry_tuple_add (PySem.F.args_tuple_add_2 _ _)
   (tuple_addW1 t b vs.toArray ws.toArray n n2 dd Yx sl Yy (by simpa using hv) (by simp[hw])) ⟨ho,U6,h1 hw⟩
 ·refine concat_meets ⟨_,ho,rfl⟩ ⟨_,U6,rfl⟩ aau aaH PySem.F.slot_tuple_add PySem.F.entry_tuple_add (PySem.F.args_tuple_add_2 _ _)
   (tuple_addW2 t b vs.toArray ws.toArray n n2 dd Yx sl Yy (by simpa using hv) (by simpa using hw) (by rw[aO,aO];exact DH)) ⟨ho,U6,?_⟩
  rw[e];exact h2 hw
noncomputable def kD(n d:Nat):Option Int->Nat
 |none=>d
 |some v=>if v<0 then(v+(n:Int)).toNat else min v.toNat n
theorem IP(n d:Nat):kD n d ak=d:=rfl
theorem LY(n d k:Nat):kD n d (aa (k:Int))=min k n:=by show(if(k:Int)<0 then((k:Int)+(n:Int)).toNat else min (k:Int).toNat n)=min k n;rw[if_neg (by omega),dO]
theorem Pm(n d:Nat)(hd:d<=n)(o:Option Int):kD n d o<=n:=by
 cases o with
 |none=>exact hd
 |some v=>
  show(if v<0 then(v+(n:Int)).toNat else min v.toNat n)<=n;by_cases hv:v<0
  ·rw[if_pos hv];omega
  ·rw[if_neg hv];exact Nat.min_le_right _ _
theorem FE(v:Int)(n d:Nat):(if v<0 then max (v+(n:Int)) 0 else min v (n:Int))=((kD n d (aa v):Nat):Int):=by
 show(if v<0 then max (v+(n:Int)) 0 else min v (n:Int))=(((if v<0 then(v+(n:Int)).toNat else min v.toNat n):Nat):Int);by_cases hv:v<0
 ·simp only [if_pos hv];omega
 ·simp only [if_neg hv];omega
theorem D7(lo hi:Option Int)(n:Nat):dn lo hi 1 (n:Int)=(((kD n 0 lo:Nat):Int),((kD n n hi:Nat):Int)):=by
 have h1:¬((1:Int)<0):=by omega
 unfold dn;simp only [h1,if_false];refine Prod.ext ?_ ?_
 ·cases lo with
  |none=>rfl
  |some v=>exact FE v n 0
 ·cases hi with
  |none=>rfl
  |some v=>exact FE v n n
theorem D8(i j:Nat):cL (i:Int) (j:Int) 1=j- i:=by
 unfold cL;have h1:(1:Int)>0:=by omega
 simp only [h1,if_true,Int.ediv_one];split<;>omega
theorem v7{v:ae}{o:Option Int}{Q:Option Int->ag->Prop}(p:eW v o)(h:Q o s):wpAny (model prog w) A (bD.Slice.slicePartIndex v) Q E s:=by
 cases p with
 |none=>exact aaz h
 |int i t=>exact slicePart_int h
theorem ua{sl:af}{vl vu:ae}{lo hi:Option Int}{n:Nat}{Q:Int×Int×Nat->ag->Prop}(hs:s.heap.IsSliceOf sl vl vu .none)(pl:eW vl lo)(pu:eW vu hi)
(h:Q (((kD n 0 lo:Nat):Int),1,kD n n hi- kD n 0 lo) s):wpAny (model prog w) A (bD.Slice.sliceApplied (.ref sl) (pure (n:Int))) Q E s:=by obtain⟨os,SI,Yz,U9⟩:=id hs;unfold bD.Slice.sliceApplied bD.Slice.sliceFields;refine aj (aj (bX SI U9 (x:=vl) rfl (aj (bX SI U9 (x:=vu) rfl (aj (bX SI U9 (x:=.none) rfl (az ?_)))))));refine aj (aaz ?_);show wpAny _ _ (if((1:Int)==0)=ah then _ else _) _ _ s;rw[if_neg (by decide)];refine aj (v7 pl (aj (v7 pu (aj (az ?_)))));show wpAny _ _ (match dn lo hi 1 (n:Int) with|(lo,hi)=>pure (lo,(1:Int),cL lo hi 1)) _ _ s;rw[D7 lo hi n];show wpAny _ _ (pure (((kD n 0 lo:Nat):Int),(1:Int),cL ((kD n 0 lo:Nat):Int) ((kD n n hi:Nat):Int) 1)) _ _ s;rw[D8];exact az h
theorem IQ(xs:Array ae)(i k:Nat):((dg k).filterMap λ(m:Nat)=>xs[((i:Int)+(m:Int)*1).toNat]?).toArray=((xs.toList.drop i).take k).toArray:=by
 have e:(λ(m:Nat)=>xs[((i:Int)+(m:Int)*1).toNat]?)=λm=>xs[i+m]?:=by
  funext m;have:((i:Int)+(m:Int)*1).toNat=i+m:=by omega
  rw[this]
 rw[e];have:=pick_run xs i k;rw[List.filterMap_map] at this;have e2:((λx=>xs[x]?)∘λx=>i+x)=λm=>xs[i+m]?:=rfl;rw[e2] at this;rw[this]
theorem sL{t sl:af}{items:Array ae}{vl vu:ae}{lo hi:Option Int}{Q:ae->ag->Prop}(ht:fq s.heap t items)(hs:s.heap.IsSliceOf sl vl vu .none)(pl:eW vl lo)(pu:eW vu hi)
(hw:¬(kD items.size 0 lo=0/\kD items.size items.size hi=items.size))
(h:Q (.ref s.heap.objs.size) {s with heap:=s.heap.push {cls:=.type "tuple",data:=.seq ((items.toList.drop (kD items.size 0 lo)).take (kD items.size items.size hi- kD items.size 0 lo)).toArray}})
(DH:items.size<=aH):wpAny (model prog w) A (eG (.ref t) (.ref sl)) Q E s:=by
 have FF:sizeOk (.seq ((items.toList.drop (kD items.size 0 lo)).take (kD items.size items.size hi- kD items.size 0 lo)).toArray):=by show((items.toList.drop (kD items.size 0 lo)).take (kD items.size items.size hi- kD items.size 0 lo)).toArray.size<=aH;rw[aO,dh,di,Array.length_toList];omega
 have hj:kD items.size items.size hi<=items.size:=Pm _ _ (bf _) hi;obtain⟨os,SI,Yz,U9⟩:=id hs;have ZN:s.TypeIs (.ref sl) "slice":=⟨os,SI,Yz⟩;unfold eG;try with_reducible refine b6 ?_
 first|refine aj (az ?_)|skip
 refine aj (wpAny_sequenceKey ht.typeIs (by decide) ?_);refine aj (wpAny_callSpecial?_slot (name:=ar.ofString "__getitem__") ht.typeIs cV
  (wpAny_call_entry cV ht.typeIs entry_tuple_getitem ?_ (args_tuple_getitem _ _)))
 show wpAny _ _ (bD.Tuple.tupleItemsOf (.ref t) >>= _) _ _ s;refine aj (tupleItemsOf_ ht ?_);refine aj (wpAny_typeOf ZN ?_);rw[if_pos (by decide)];refine aj (ua hs pl pu ?_);have ZO:¬((((kD items.size 0 lo:Nat):Int)==0&&(1:Int)==1&&(kD items.size items.size hi- kD items.size 0 lo)==items.size)=ah):=by intro q;rw[aP,aP] at q;have q1:((kD items.size 0 lo:Nat):Int)=0:=eq_of_beq q.1.1;have q2:kD items.size items.size hi- kD items.size 0 lo=items.size:=eq_of_beq q.2;exact hw ⟨by omega,by omega⟩
 show wpAny _ _ (if(((kD items.size 0 lo:Nat):Int)==0&&(1:Int)==1&&(kD items.size items.size hi- kD items.size 0 lo)==items.size)=ah then _ else _) _ _ s;rw[if_neg ZO,IQ];first
  |exact aj (m:=cN _) (ci (az ⟨_,rfl,az h⟩) FF)
  |exact aj (m:=cN _) (ci (aj (az (az ⟨_,rfl,az h⟩))) FF)
  |exact aj (aj (m:=cN _) (ci (az (az ⟨_,rfl,az h⟩)) FF))
  |exact aj (aj (m:=cN _) (ci (az ⟨_,rfl,az h⟩) FF))
end
end HT
namespace L2
open PySem PySem.Spec PyProof.Rows
abbrev TO:=St->Hp->(Option Int->Hp->Prop)->Prop
def PO (X:Cx)(e:Option aM)(t:TO):Prop:=
 ∀(pins:List (af×bE)) (s:ag) (σ:St) (H:Hp) (Q:Option Int->Hp->Prop),Inv X pins σ H s->t σ H Q->
  wpAny (model X.prog X.w) X.A (evalPart e X.env) (λu s'=>∃o H',Inv X pins σ H' s'/\eW u o/\Q o H') X.xe s
def LZ:TO:=λ_ H Q=>Q ak H
def SJ (t:TE):TO:=λσ H Q=>t σ H λx H1=>∃i,x=.int i/\Q (aa i) H1
section
variable {X:Cx} {e:aM} {te:TE} {lo hi:Option aM} {tl th:TO} {pos p2:cu}
theorem L4:PO X ak LZ:=by intro pins s σ H Q I h;rw[aaI];exact az ⟨ak,H,I,.none,h⟩
theorem L5(h:PE X e te):PO X (aa e) (SJ te):=by intro pins s σ H Q I hw;rw[evalPart_some];refine ja (h pins s σ H _ I hw) λu s1 zq=>?_;obtain⟨x,H1,I1,r1,q1⟩:=zq;obtain⟨i,rfl,q⟩:=q1;obtain⟨t,rfl⟩:=r1;exact⟨aa i,H1,I1,.int i t,q⟩
def Lo (X:Cx)(r:V->Option Int->Option Int->Hp->VK->Prop):Prop:=
 ∀(pins:List (af×bE)) (s:ag) (σ:St) (H:Hp) (x:V) (v vl vu:ae) (lo hi:Option Int) (sl:af) (Q:VK),Inv X pins σ H s->RelV x v->s.heap.IsSliceOf sl vl vu .none->eW vl lo->eW vu hi->r x lo hi H Q->
  ∃T id,typeLookup (.type T) "__getitem__"=pure (aa (.builtin id))/\s.TypeIs v T/\wpAny (model X.prog X.w) X.A (eG v (.ref sl)) (EP X pins σ Q) X.xe s
theorem Lo.or{r r':V->Option Int->Option Int->Hp->VK->Prop}(h:Lo X r)(h':Lo X r'):Lo X (λx lo hi H Q=>r x lo hi H Q\/r' x lo hi H Q):=by
 intro pins s σ H x v vl vu lo hi sl Q I rx hs pl pu q;rcases q with q|q
 ·exact h pins s σ H x v vl vu lo hi sl Q I rx hs pl pu q
 ·exact h' pins s σ H x v vl vu lo hi sl Q I rx hs pl pu q
def ZP (r:V->Option Int->Option Int->Hp->VK->Prop)(te:TE)(tl th:TO):TE:=λσ H Q=>te σ H λx H1=>tl σ H1 λl H2=>th σ H2 λu H3=>r x l u H3 Q
theorem IS{r:V->Option Int->Option Int->Hp->VK->Prop}(hr:Lo X r)(he:PE X e te)(hl:PO X lo tl)(hu:PO X hi th):PE X (.Subscript e (.Slice lo hi ak p2) pos) (ZP r te tl th):=by intro pins s σ H Q I h;refine Subscript_ (ja (he pins s σ H _ I h) λv s1 zq=>?_);obtain⟨x,H1,I1,r1,q1⟩:=zq;refine wpAny_Slice (ja (hl pins s1 σ H1 _ I1 q1) λvl s2 ⟨l,H2,I2,pl,q2⟩=>ja (hu pins s2 σ H2 _ I2 q2) λvu s3 zq=>?_);obtain⟨u,H3,I3,pu,q3⟩:=zq;rw[aaI];refine az ?_;have I4:Inv X pins σ H3 {s3 with heap:=s3.heap.push {cls:=.type "slice",data:=.fields #[vl,vu,.none]}}:=I3.kept (t':=s3.toks) λb ob q=>au _ q;obtain⟨T,id,hT,ht,hg⟩:=hr pins {s3 with heap:=s3.heap.push {cls:=.type "slice",data:=.fields #[vl,vu,.none]}} σ H3 x v vl vu l u s3.heap.objs.size Q I4 r1 (aq.IsSliceOf.new ..) pl pu q3;show wpAny (model X.prog X.w) X.A (fk e (.Slice lo hi ak p2) v (.ref s3.heap.objs.size)) (EP X pins σ Q) X.xe {s3 with heap:=s3.heap.push {cls:=.type "slice",data:=.fields #[vl,vu,.none]}};exact tail_any (ops:=[.ref s3.heap.objs.size,v]) ht hT hg (by with_unfolding_all rfl)
noncomputable def BG(xs:List V)(lo hi:Option Int):List V:=(xs.drop (HT.kD xs.length 0 lo)).take (HT.kD xs.length xs.length hi- HT.kD xs.length 0 lo)
theorem uJ(xs:List V)(lo hi:Option Int):(BG xs lo hi).length<=xs.length:=by unfold BG;rw[dh,di];omega
def Wj (K:W.Frag):V->Option Int->Option Int->Hp->VK->Prop:=λx lo hi H Q=>∃a xs,x=.ref a/\vD K H a xs/\
 ¬(HT.kD xs.length 0 lo=0/\HT.kD xs.length xs.length hi=xs.length)/\∀p,H p=ak->Q (.ref p) (upd H p (.tup (BG xs lo hi)))
theorem Pn:Lo X (Wj X.K):=by
 intro pins s σ H x v vl vu lo hi sl Q I rx hs pl pu h;obtain⟨a,xs,rfl,hx,hw,q⟩:=h;cases rx;obtain⟨hX,r,ht,hz⟩:=I.tuple hx;have kf:hX.toArray.size=xs.length:=by rw[aO];exact r.length.symm
 refine⟨"tuple",_,cV.lookup,ht.typeIs,?_⟩;refine HT.sL ht hs pl pu (by rw[kf];exact hw) ?_ (by rw[kf];exact hz);rw[kf];refine⟨.ref s.heap.objs.size,_,I.laid (t':=s.toks) (o:=.tup (BG xs lo hi)) (λb ob q=>au _ q) (bf _) ?_,rfl,q _ (I.iy.fresh (bf _))⟩;exact⟨aT (uJ xs lo hi) hz,_,(r.drop (HT.kD xs.length 0 lo)).take (HT.kD xs.length xs.length hi- HT.kD xs.length 0 lo),fq.new _ _⟩
def SK (K:W.Frag):R2:=λx y H Q=>∃a b xs ys,x=.ref a/\y=.ref b/\vD K H a xs/\vD K H b ys/\xs≠[]/\xs.length+ys.length<=aH/\
 (ys=[]->Q (.ref a) H)/\(ys≠[]->∀p,H p=ak->Q (.ref p) (upd H p (.tup (xs++ys))))
theorem Vals.zM{xs:List V}{us:List ae}(r:Vals xs us):us=[]↔xs=[]:=by
 cases r with
 |nil=>simp
 |cons _ _=>simp
theorem L6:ol X (binaryOp .Add) (SK X.K):=by intro pins s σ H x y v u Q I rx ry h;obtain⟨a,b,xs,ys,rfl,rfl,ha,hb,hx,hz,q1,q2⟩:=h;cases rx;cases ry;obtain⟨hX,r1,p1,_⟩:=I.tuple ha;obtain⟨Po,r2,p2,_⟩:=I.tuple hb;refine HT.LX p1 p2 (λz=>hx (r1.zM.mp z)) (λz=>⟨.ref a,H,I,rfl,q1 (r2.zM.mp z)⟩) (λz=>?_) (by rw[<-r1.length,<-r2.length];exact hz);refine⟨.ref s.heap.objs.size,_,I.laid (t':=s.toks) (o:=.tup (xs++ys)) (λb ob q=>au _ q) (bf _) ?_,rfl,q2 (λw=>z (r2.zM.mpr w)) _ (I.iy.fresh (bf _))⟩;exact⟨by rw[bw];exact hz,_,r1.append r2,fq.new _ _⟩
end
noncomputable def BH(n:Nat)(i:Int):Option Nat:=if 0<=i then(if i<n then aa i.toNat else ak) else if-(n:Int)<=i then aa (i+n).toNat else ak
noncomputable def sF{α:Type}(xs:List α)(i:Int):Option α:=(BH xs.length i).bind λj=>xs[j]?
theorem FG{n:Nat}{i:Int}{j:Nat}(h:BH n i=aa j):seqIndex? i n=aa j/\j<n/\-(n:Int)<=i/\i<n:=by
 unfold BH at h;by_cases h0:0<=i
 ·rw[if_pos h0] at h;by_cases h1:i<n
  ·rw[if_pos h1] at h;have e:i.toNat=j:=bh h;exact⟨by rw[eY h0 h1,e],by omega,by omega,h1⟩
  ·rw[if_neg h1] at h;cases h
 ·rw[if_neg h0] at h;by_cases h1:-(n:Int)<=i
  ·rw[if_pos h1] at h;have e:(i+n).toNat=j:=bh h;exact⟨by rw[seqIndex_neg (by omega) h1,e],by omega,h1,by omega⟩
  ·rw[if_neg h1] at h;cases h
theorem vF{α:Type}{xs:List α}{i:Int}{v:α}(h:sF xs i=aa v):∃j,seqIndex? i xs.length=aa j/\xs[j]?=aa v/\j<xs.length/\-(xs.length:Int)<=i/\i<xs.length:=by
 unfold sF at h;cases e:BH xs.length i with
 |none=>rw[e] at h;cases h
 |some j=>
  rw[e] at h;obtain⟨h1,h2,h3,h4⟩:=FG e;exact⟨j,h1,h,h2,h3,h4⟩
def zN (b:aM):Prop:=∀o i,subscripted b ai o i=operate [o,i] (eG o i)
def Pp (X:Cx)(r:R2):Prop:=
 ∀(value slice:aM) (pins:List (af×bE)) (s:ag) (σ:St) (H:Hp) (x y:V) (v u:ae) (Q:VK),Inv X pins σ H s->RelV x v->RelV y u->r x y H Q->
  subscripted slice ai v u=operate [v,u] (eG v u)->wpAny (model X.prog X.w) X.A (fk value slice v u) (EP X pins σ Q) X.xe s
def Wk (X:Cx)(id:String)(r:V->List V->Hp->VK->Prop):Prop:=
 ∀(pins:List (af×bE)) (s:ag) (σ:St) (H:Hp) (x:V) (xs:List V) (v:ae) (us:List ae) (Q:VK),Inv X pins σ H s->RelV x v->Vals xs us->r x xs H Q->
  wpAny (model X.prog X.w) X.A (call (.builtin id) (v::us)) (EP X pins σ Q) X.xe s
section
variable {X:Cx} {a b:aM} {ta tb:TE} {pos:cu}
theorem NY{r:R2}(hr:Pp X r)(ha:PE X a ta)(hb:PE X b tb)(hs:zN b):PE X (.Subscript a b pos) (So r ta tb):=by intro pins s σ H Q I h;exact Subscript_ (O6 ha hb I h λv u s2 x y H2 I2 rx ry q=>hr a b pins s2 σ H2 x y v u Q I2 rx ry q (hs _ _))
def SM (K:W.Frag):R2:=λx y H Q=>∃p xs i v,x=.ref p/\y=.int i/\oa K H p xs/\sF xs i=aa v/\Q v H
def Wl (K:W.Frag):R2:=λx y H Q=>∃p xs i v,x=.ref p/\y=.int i/\vD K H p xs/\sF xs i=aa v/\Q v H
def Wm:R2:=λx y H Q=>∃z i c,x=.str z/\y=.int i/\z.length<=aH/\sF z.cps.toList i=aa c/\Q (.str ⟨#[c]⟩) H
theorem FH:Pp X (SM X.K):=by
 intro value slice pins s σ H x y v u Q I rx ry h hs;obtain⟨p,xs,i,z,rfl,rfl,hq,he,q⟩:=h;cases rx;obtain⟨t,rfl⟩:=ry;obtain⟨hX,r,pl,hz⟩:=I.list hq;obtain⟨j,h1,h2,h3,h4,h5⟩:=vF he;obtain⟨w,ew,BE⟩:=r.get h2;have hl:=r.length;have hn:=rC;have lm:EP X pins σ Q w s:=⟨z,H,I,BE,q⟩;by_cases h0:0<=i
 ·have hj:i.toNat=j:=by rw[eY h0 h5] at h1;exact bh h1
  exact item_listR pl.isList h0 (by omega) (by rw[hj];simpa using ew) lm hs
 ·have hj:(i+(hX.toArray.size:Int)).toNat=j:=by rw[seqIndex_neg (by omega) h4] at h1;rw[aO,<-hl];exact bh h1
  exact fP (x:=w) pl.isList.typeIs aar.lookup
   (fQ (Q:=λr s'=>r=w/\EP X pins σ Q r s') pl.isList (by omega) (by rw[aO]<;>omega) (by omega) (by rw[hj];simpa using ew) ⟨rfl,lm⟩) hs
theorem Pr:Pp X (Wl X.K):=by
 intro value slice pins s σ H x y v u Q I rx ry h hs;obtain⟨p,xs,i,z,rfl,rfl,hq,he,q⟩:=h;cases rx;obtain⟨t,rfl⟩:=ry;obtain⟨hX,r,pl,hz⟩:=I.tuple hq;obtain⟨j,h1,h2,h3,h4,h5⟩:=vF he;obtain⟨w,ew,BE⟩:=r.get h2;have hl:=r.length;have hn:=rC;have lm:EP X pins σ Q w s:=⟨z,H,I,BE,q⟩;exact fP (x:=w) pl.typeIs slot_tuple_getitem.lookup
  (getItem_tuple (j:=j) (Q:=λr s'=>r=w/\EP X pins σ Q r s') pl (by omega) (by omega) (by rw[aO,<-hl];exact h1) (by simpa using ew) ⟨rfl,lm⟩) hs
theorem Ps:Pp X Wm:=by
 intro value slice pins s σ H x y v u Q I rx ry h hs;obtain⟨z,i,c,rfl,rfl,hz,he,q⟩:=h;obtain⟨t,rfl⟩:=rx;obtain⟨t',rfl⟩:=ry;obtain⟨j,h1,h2,h3,h4,h5⟩:=vF he;have hl:z.cps.toList.length=z.length:=by simp[ar.length]
 rw[hl] at h1 h4 h5;have hn:=rC;exact tail_any (gi s z t) slot_str_getitem.lookup (getItem_str (c:=c) (by have e1:decide (i< -(2^63:Int))=ai:=decide_eq_false (by omega);have e2:decide (i>=2^63)=ai:=decide_eq_false (by omega);rw[e1,e2,Bool.or_false]) (by rw[h1];simpa using h2) ⟨.str ⟨#[c]⟩,H,I.tok _,⟨_,rfl⟩,q⟩) hs
theorem D9(hX:List ae)(n j:Nat)(u:ae):bE.mapSeq (·.setIfInBounds j u) {cls:=.type "list",data:=.seq hX.toArray n}={cls:=.type "list",data:=.seq (hX.set j u).toArray n}:=by simp[bE.mapSeq]
theorem Inv.lst{pins:List (af×bE)}{σ:St}{H:Hp}{s:ag}{p:af}{xs:List V}(I:Inv X pins σ H s)(h:H p=aa (.lst xs)):
  ∃(hX:List ae) (n:Nat),Vals xs hX/\s.heap.get? p=aa {cls:=.type "list",data:=.seq hX.toArray n}/\xs.length<=aH:=by obtain⟨z,hX,n,r,e⟩:=I.iy p _ h;exact⟨hX,n,r,e,z⟩
theorem Inv.Pu{pins:List (af×bE)}{σ:St}{H:Hp}{s:ag}{p:af}{xs ys:List V}{hX t8:List ae}{n n':Nat}{f:bE->bE}(I:Inv X pins σ H s)(h:H p=aa (.lst xs))
(ho:s.heap.get? p=aa {cls:=.type "list",data:=.seq hX.toArray n})(hf:f {cls:=.type "list",data:=.seq hX.toArray n}={cls:=.type "list",data:=.seq t8.toArray n'})(r:Vals ys t8)(hz:ys.length<=aH)(t:Nat):
  Inv X pins σ (upd H p (.lst ys)) {s with heap:=s.heap.update p f,toks:=t}:=by
 have e:(s.heap.update p f).get? p=aa {cls:=.type "list",data:=.seq t8.toArray n'}:=by rw[bq f ho (by rw[hf]<;>rfl),hf]
 refine I.write (x:=p) (e:=p) (by rw[h];trivial) (.inl rfl) (λb u hb q=>(aw _ _ (bG hb)).trans q) ⟨_,e⟩ ?_;exact⟨hz,t8,n',r,e⟩
def SN:V->V->V->Hp->(Hp->Prop)->Prop:=λo i v H Q=>∃p xs k j,o=.ref p/\i=.int k/\H p=aa (.lst xs)/\BH xs.length k=aa j/\Q (upd H p (.lst (xs.set j v)))
theorem BI:O3 X SN:=by
 intro pins s σ H o i v ov iv u Q I ro ri rv h;obtain⟨p,xs,k,j,rfl,rfl,hp,hj,q⟩:=h;cases ro;obtain⟨t,rfl⟩:=ri;obtain⟨hX,n,r,ho,hz⟩:=I.lst hp;obtain⟨h1,h2,h3,h4⟩:=FG hj;have hl:=r.length;have hn:=rC;have I':Inv X pins σ (upd H p (.lst (xs.set j v))) {s with heap:=s.heap.update p (bE.mapSeq (·.setIfInBounds j u))}:=
  I.Pu hp ho (D9 hX n j u) (r.set rv j) (by rw[List.length_set];exact hz) s.toks
 by_cases h0:0<=k
 ·have hk:k.toNat=j:=by rw[eY h0 h4] at h1;exact bh h1
  exact W.ki_setAt ho h0 (by omega) (by rw[aO,<-hl];exact h4) (by rw[hk];exact⟨_,I',q⟩)
 ·have hk:(k+(hX.toArray.size:Int)).toNat=j:=by rw[seqIndex_neg (by omega) h3] at h1;rw[aO,<-hl];exact bh h1
  exact W.ki_setBack ho (by omega) (by rw[aO,<-hl];exact h3) (by omega) (by rw[hk];exact⟨_,I',q⟩)
theorem zO(lo hi:Option Int)(n:Nat):(dD lo hi ak n).1=((HT.kD n 0 lo:Nat):Int)/\(dD lo hi ak n).2.1=((HT.kD n n hi:Nat):Int)/\(dD lo hi ak n).2.2=1:=by
 refine⟨?_,?_,rfl⟩
 ·cases lo with
  |none=>simp[dD,HT.kD]
  |some i=>
   simp only [dD,HT.kD,Option.getD_none,show(1:Int)>0 by decide,if_true];by_cases h:i<0
   ·simp only [h,if_true]<;>omega
   ·simp only [h,if_false]<;>omega
 ·cases hi with
  |none=>simp[dD,HT.kD]
  |some i=>
   simp only [dD,HT.kD,Option.getD_none,show(1:Int)>0 by decide,if_true];by_cases h:i<0
   ·simp only [h,if_true]<;>omega
   ·simp only [h,if_false]<;>omega
theorem xS(hX:List ae)(lo hi:Option Int):slicePick hX.toArray lo hi ak=((hX.drop (HT.kD hX.length 0 lo)).take (HT.kD hX.length hX.length hi- HT.kD hX.length 0 lo)).toArray:=by obtain⟨h1,h2,h3⟩:=zO lo hi hX.toArray.size;unfold slicePick;rw[h1,h2,h3];simp only [sliceRange_one,pick_run,aO]<;>rfl
def Wn (K:W.Frag):V->Option Int->Option Int->Hp->VK->Prop:=λx lo hi H Q=>∃a xs,x=.ref a/\oa K H a xs/\∀p,H p=ak->Q (.ref p) (upd H p (.lst (BG xs lo hi)))
theorem L7:Lo X (Wn X.K):=by intro pins s σ H x v vl vu lo hi sl Q I rx hs pl pu h;obtain⟨a,xs,rfl,hx,q⟩:=h;cases rx;obtain⟨hX,r,ht,hz⟩:=I.list hx;have kf:=r.length;refine⟨"list",_,aar.lookup,ht.isList.typeIs,?_⟩;refine wpAny_getItem_list_slice ht.isList hs pl pu .none (by simp) ?_ (by rw[aO]<;>omega);rw[xS,<-kf];refine⟨.ref s.heap.objs.size,_,I.laid (t':=s.toks) (o:=.lst (BG xs lo hi)) (λb ob q=>au _ q) (bf _) ?_,rfl,q _ (I.iy.fresh (bf _))⟩;exact⟨aT (uJ xs lo hi) hz,_,0,(r.drop (HT.kD xs.length 0 lo)).take (HT.kD xs.length xs.length hi- HT.kD xs.length 0 lo),bg _ rfl⟩
noncomputable def qU:V->Bool
 |.non=>ah
 |.bl _=>ah
 |.int _=>ah
 |.str _=>ah
 |_=>ai
noncomputable def L8:V->V->Bool
 |.non,.non=>ah
 |.bl a,.bl b=>a==b
 |.bl a,.int b=>(if a then 1 else 0)==b
 |.int a,.bl b=>a==(if b then 1 else 0)
 |.int a,.int b=>a==b
 |.str a,.str b=>a==b
 |_,_=>ai
theorem Pw{A:ay}{s:ag}{y x:V}{u v:ae}(ry:RelV y u)(rx:RelV x v)(fy:qU y=ah)(fx:qU x=ah):bO A s u v (L8 y x):=by
 cases y with
 |non=>
  cases ry;cases x with
  |non=>cases rx;exact bO.same _
  |bl b=>cases rx;exact bO.none_bool b
  |int b=>obtain⟨t,rfl⟩:=rx;exact bO.none_int b t
  |str b=>obtain⟨t,rfl⟩:=rx;exact bO.none_str b t
  |_=>exact absurd (show ai=ah from fx) ap
 |bl a=>
  cases ry;cases x with
  |non=>cases rx;exact bO.bool_none a
  |bl b=>cases rx;exact bO.bool_bool a b
  |int b=>obtain⟨t,rfl⟩:=rx;exact bO.bool_int a b t
  |str b=>obtain⟨t,rfl⟩:=rx;exact bO.bool_str a b t
  |_=>exact absurd (show ai=ah from fx) ap
 |int a=>
  obtain⟨t',rfl⟩:=ry;cases x with
  |non=>cases rx;exact bO.int_none a t'
  |bl b=>cases rx;exact bO.int_bool a t' b
  |int b=>obtain⟨t,rfl⟩:=rx;exact bO.int_int a t' b t
  |str b=>obtain⟨t,rfl⟩:=rx;exact bO.int_str a t' b t
  |_=>exact absurd (show ai=ah from fx) ap
 |str a=>
  obtain⟨t',rfl⟩:=ry;cases x with
  |non=>cases rx;exact bO.str_none a t'
  |bl b=>cases rx;exact bO.str_bool a t' b
  |int b=>obtain⟨t,rfl⟩:=rx;exact bO.str_int a t' b t
  |str b=>obtain⟨t,rfl⟩:=rx;exact bO.str_str a t' b t
  |_=>exact absurd (show ai=ah from fx) ap
 |_=>exact absurd (show ai=ah from fy) ap
noncomputable def L9(x:V)(u:ae):Bool:=match u with
 |.none=>L8 .non x
 |.bool b=>L8 (.bl b) x
 |.int i _=>L8 (.int i) x
 |.str z _=>L8 (.str z) x
 |_=>ai
theorem IT{x y:V}{u:ae}(r:RelV y u)(f:qU y=ah):L9 x u=L8 y x:=by
 cases y with
 |non=>cases r;rfl
 |bl b=>cases r;rfl
 |int i=>obtain⟨t,rfl⟩:=r;rfl
 |str z=>obtain⟨t,rfl⟩:=r;rfl
 |_=>exact absurd (show ai=ah from f) ap
theorem zP{x:V}:∀{xs:List V} {us:List ae},Vals xs us->xs.all qU=ah->us.any (L9 x)=xs.any λy=>L8 y x
 |_,_,.nil,_=>rfl
 |y::xs,u::us,.cons r t,f=>by rw[dq,aP] at f;rw[dm,dm,IT r f.1,zP t f.2]
theorem v8{A:ay}{s:ag}{x:V}{v:ae}(rx:RelV x v)(fx:qU x=ah):∀{xs:List V} {us:List ae},Vals xs us->xs.all qU=ah->∀u∈us,bO A s u v (L9 x u)
 |_,_,.nil,_=>λu hu=>by cases hu
 |y::xs,u::us,.cons r t,f=>λu' hu=>by
  rw[dq,aP] at f;rcases ba.mp hu with rfl|hu
  ·rw[IT r f.1];exact Pw r rx f.1 fx
  ·exact v8 rx fx t f.2 u' hu
noncomputable def Va(x:V)(xs:List V):Bool:=xs.any λy=>L8 y x
def ZQ (K:W.Frag)(neg:Bool):R2:=λx y H Q=>∃p xs,y=.ref p/\(oa K H p xs\/vD K H p xs)/\qU x=ah/\xs.all qU=ah/\Q (.bl (if neg then !Va x xs else Va x xs)) H
theorem yP:ol X (compareOp .In) (ZQ X.K ai):=by
 intro pins s σ H x y v u Q I rx ry h;obtain⟨p,xs,rfl,hq,fx,fs,q⟩:=h;cases ry;rcases hq with hq|hq
 ·obtain⟨hX,r,pl,hz⟩:=I.list hq;refine SeqAt.in_listAt (L9 x) pl.isList (λw hw=>v8 rx fx r fs w (by simpa using hw)) ⟨.bl _,H,I,rfl,?_⟩;rw[show hX.toArray.any (L9 x)=hX.any (L9 x) by simp,zP r fs];exact q
 ·obtain⟨hX,r,pl,hz⟩:=I.tuple hq;refine SeqAt.in_tupleAt (L9 x) pl (λw hw=>v8 rx fx r fs w (by simpa using hw)) ⟨.bl _,H,I,rfl,?_⟩;rw[show hX.toArray.any (L9 x)=hX.any (L9 x) by simp,zP r fs];exact q
theorem oq:pJ X (.builtin "len") (λxs H Q=>∃p ys,xs=[.ref p]/\(oa X.K H p ys\/vD X.K H p ys)/\Q (.int ys.length) H):=by
 intro pins s σ H xs us Q I r h;obtain⟨p,ys,rfl,hq,q⟩:=h;obtain⟨u,rfl,rx⟩:=vals1 r;cases rx;have hn:=rC;rcases hq with hq|hq
 ·obtain⟨hX,r',pl,hz⟩:=I.list hq;have kf:=r'.length;exact Calls.call_len_list pl.isList (by simp only [aO]<;>omega) ⟨.int ys.length,H,I.tok _,⟨s.toks+1,by rw[aO,kf]⟩,q⟩
 ·obtain⟨hX,r',pl,hz⟩:=I.tuple hq;have kf:=r'.length;exact len_tuple pl (by simp only [aO]<;>omega) ⟨.int ys.length,H,I.tok _,⟨s.toks+1,by rw[aO,kf]⟩,q⟩
theorem zQ:pJ X (.builtin "len") (λxs H Q=>∃z,xs=[.str z]/\z.length<=aH/\Q (.int z.length) H):=by intro pins s σ H xs us Q I r h;obtain⟨z,rfl,hz,q⟩:=h;obtain⟨u,rfl,t,rfl⟩:=vals1 r;have hn:=rC;exact len_str (by omega) ⟨.int z.length,H,I.tok _,⟨_,rfl⟩,q⟩
theorem ot:pJ X (.type "list") (λxs H Q=>∃p ys,xs=[.ref p]/\(oa X.K H p ys\/vD X.K H p ys)/\∀l,H l=ak->Q (.ref l) (upd H l (.lst ys))):=by
 intro pins s σ H xs us Q I r h;obtain⟨p,ys,rfl,hq,q⟩:=h;obtain⟨u,rfl,rx⟩:=vals1 r;cases rx;have lm:∀(hX:List ae),Vals ys hX->ys.length<=aH->∀(h':aq) (c':Nat),(∀b o',s.heap.get? b=aa o'->h'.get? b=aa o')->
   h'.get? s.heap.objs.size=aa {cls:=.type "list",dict:=ak,data:=.seq hX.toArray c',slots:=#[]}->EP X pins σ Q (.ref s.heap.objs.size) {s with heap:=h'}:=λhX r' hz h' c' kp e=>
  ⟨.ref s.heap.objs.size,_,I.laid (t':=s.toks) kp (bf _) (show iQ X.prog X.w _ h' _ (.lst ys) from⟨hz,hX,c',r',e⟩),rfl,q _ (I.iy.fresh (bf _))⟩
 rcases hq with hq|hq
 ·obtain⟨hX,r',pl,hz⟩:=I.list hq;have kf:=r'.length;obtain⟨o,ho,hc,n,hd⟩:=pl.isList;exact aaJ p (.inl rfl) ho hc hd (λh' c' kp e=>lm hX r' hz h' c' kp e) (by simp only [aO]<;>omega)
 ·obtain⟨hX,r',pl,hz⟩:=I.tuple hq;have kf:=r'.length;obtain⟨o,ho,hc,n,hd⟩:=pl;exact aaJ p (.inr rfl) ho hc hd (λh' c' kp e=>lm hX r' hz h' c' kp e) (by simp only [aO]<;>omega)
theorem qV:pJ X (.type "tuple") (λxs H Q=>∃p ys,xs=[.ref p]/\((oa X.K H p ys/\∀l,H l=ak->Q (.ref l) (upd H l (.tup ys)))\/(vD X.K H p ys/\Q (.ref p) H))):=by
 intro pins s σ H xs us Q I r h;obtain⟨p,ys,rfl,h⟩:=h;obtain⟨u,rfl,rx⟩:=vals1 r;cases rx;rcases h with⟨hq,q⟩|⟨hq,q⟩
 ·obtain⟨hX,r',pl,hz⟩:=I.list hq;have kf:=r'.length;refine call_tuple_list pl.isList (λh' kp=>?_) (by simp only [aO]<;>omega);have I1:Inv X pins σ H {s with heap:=h'}:=I.kept (t':=s.toks) kp;have I2:Inv X pins σ (upd H h'.objs.size (.tup ys)) {s with heap:=h'.push {cls:=.type "tuple",data:=.seq hX.toArray}}:=
   I1.laid (t':=s.toks) (λb o e=>au _ e) (bf _) (show iQ X.prog X.w _ _ _ (.tup ys) from⟨hz,hX,r',fq.new _ _⟩)
  exact⟨.ref h'.objs.size,_,I2,rfl,q _ (I1.iy.fresh (bf _))⟩
 ·obtain⟨hX,r',pl,hz⟩:=I.tuple hq;exact call_tuple_same pl ⟨.ref p,H,I,rfl,q⟩
def Wo (K:W.Frag)(T:String)(x:V)(H:Hp):Prop:=match x with
 |.str _=>T="str"
 |.int _=>T="int"
 |.ref p=>(T="list"/\∃xs,oa K H p xs)\/(T="tuple"/\∃o,K.lookup p=aa o/\o.cls=.type "tuple"/\o.dict=ak)\/
   (T="dict"/\((∃gZ,Rd H p (.dK gZ))\/(∃gZ,H p=aa (.dT gZ))\/∃ep gZ,H p=aa (.dE ep gZ)))\/(T="set"/\∃S n,H p=aa (.set S n))
 |_=>False
theorem Px{pins:List (af×bE)}{σ:St}{H:Hp}{s:ag}{T:String}{x:V}{v:ae}(I:Inv X pins σ H s)(r:RelV x v)(ty:Wo X.K T x H):
  s.TypeIs v T/\∀a,v=.ref a->∃ob,s.heap.get? a=aa ob/\ob.dict=ak:=by
 cases x with
 |str z=>
  obtain⟨t,rfl⟩:=r;cases(show T="str" from ty);exact⟨gi s z t,λ_ e=>nomatch e⟩
 |int i=>
  obtain⟨t,rfl⟩:=r;cases(show T="int" from ty);exact⟨gj s i t,λ_ e=>nomatch e⟩
 |ref p=>
  cases r;rcases ty with⟨rfl,xs,hq⟩|⟨rfl,o,hk,hc,hd⟩|⟨rfl,hk⟩|⟨rfl,S,n,hk⟩
  ·obtain⟨hX,_,pl,_⟩:=I.list hq;refine⟨pl.isList.typeIs,λa e=>?_⟩;cases e;obtain⟨o,n,e,c,hd,_⟩:=pl;exact⟨o,e,hd⟩
  ·refine⟨⟨o,I.pD p o hk,hc⟩,λa e=>?_⟩;cases e;exact⟨o,I.pD _ o hk,hd⟩
  ·have z:∃o,s.heap.get? p=aa o/\o.ExactDict:=by
    rcases hk with⟨gZ,hk⟩|⟨gZ,hk⟩|⟨ep,gZ,hk⟩
    ·obtain⟨_,_,_,_,o,_,_,e,ex,_⟩:=hk.ok I.iy;exact⟨o,e,ex⟩
    ·obtain⟨_,_,_,_,o,_,_,e,ex,_⟩:=I.iy p _ hk;exact⟨o,e,ex⟩
    ·obtain⟨_,_,_,_,o,_,e,ex,_⟩:=I.iy p _ hk;exact⟨o,e,ex⟩
   obtain⟨o,e,ex⟩:=z;refine⟨⟨o,e,ex.1⟩,λa e2=>?_⟩;cases e2;exact⟨o,e,ex.2.1⟩
  ·obtain⟨o,_,_,_,e,ex,_⟩:=I.iy p _ hk;refine⟨⟨o,e,ex.1⟩,λa e2=>?_⟩;cases e2;exact⟨o,e,ex.2.1⟩
 |_=>exact bu ty
def ZR (K:W.Frag)(T:String)(r:V->List V->Hp->VK->Prop)(to:TE)(t:TA):TE:=λσ H Q=>to σ H λx H1=>Wo K T x H1/\t σ H1 λxs H2=>r x xs H2 Q
variable {o e:aM} {es:List aM} {to:TE} {t:TA} {name:ar} {apos iM:cu} {T id:String} {r:V->List V->Hp->VK->Prop}
theorem SO(pa:PlainAttrs T)(slot:Slot T name id)(Wp:aaA (.builtin id)=pure (.type "method_descriptor"))(hm:Wk X id r)(ho:PE X o to)(ha:PA X (e::es) t)
(pM:cE o name X.env (eval o X.env)=eval o X.env:=by rfl)
(Py:((bN iM (av (e::es) X.env)).all (λx=>!x.1)&&(eg iM (de [] X.env)).all (λx=>x.1.isSome)
   &&decide ((e::es).length+([]:List et).length+(if([]:List et).isEmpty then 0 else 1)<30))=ah:=by rfl)
(IU:(apos.endLine==iM.line)=ah:=by rfl)(hs:av (e::es) X.env=(ai,eval e X.env)::av es X.env:=by rfl)(Ea:(bN iM (av es X.env)).any (·.1)=ai:=by rfl):
  PE X (.Call (.Attribute o name apos) (e::es) [] iM) (ZR X.K T r to t):=by intro pins s σ H Q I h;refine wpAny_Call_method_late pM Py IU rfl (ja (ho pins s σ H _ I h) λv s1 zq=>?_);obtain⟨x,H1,I1,r1,ty,q1⟩:=zq;obtain⟨h1,h2⟩:=Px I1 r1 ty;refine⟨T,id,pa,slot,Wp,h1,h2,?_⟩;have hA:=ha iM pins s1 σ H1 _ I1 q1;rw[hs] at hA ⊢;refine Calls.callWith_builtin (by show(ai||(bN iM (av es X.env)).any (·.1))=ai;rw[Ea]<;>rfl) (Calls.evalArgs_plain ?_);exact ja hA λus s2 ⟨vs,H2,I2,r2,q2⟩=>hm pins s2 σ H2 x vs v us Q I2 r1 r2 q2
end
def ZS (X:Cx)(id:String)(r:V->List V->Hp->VK->Prop):Prop:=
 ∀(pins:List (af×bE)) (s:ag) (σ:St) (H:Hp) (x:V) (xs:List V) (v:ae) (us:List ae) (Q:VK),Inv X pins σ H s->RelV x v->Vals xs us->r x xs H Q->
  wpAny (model X.prog X.w) X.A (call (.builtin id) (v::us)) (EP X pins σ Q) X.xe s
theorem Vals.one:∀{x:V} {us:List ae},Vals [x] us->∃u,us=[u]/\RelV x u
 |_,_,.cons r .nil=>⟨_,rfl,r⟩
theorem Vals.two:∀{x y:V} {us:List ae},Vals [x,y] us->∃u v,us=[u,v]/\RelV x u/\RelV y v
 |_,_,_,.cons r (.cons q .nil)=>⟨_,_,rfl,r,q⟩
theorem Vals.dropLast{xs:List V}{us:List ae}(h:Vals xs us):Vals xs.dropLast us.dropLast:=by
 induction h with
 |nil=>exact .nil
 |cons r t ih=>
  cases t with
  |nil=>exact .nil
  |cons q t'=>exact .cons r ih
theorem Vals.rep{xs:List V}{us:List ae}(h:Vals xs us):∀k:Nat,Vals (aU k xs).flatten (aU k us).flatten
 |0=>.nil
 |k+1=>by rw[cf,cf,cx,cx];exact Vals.append h (Vals.rep h k)
theorem foldl_rep(hX:List ae):∀(k:Nat) (acc:List ae),
  List.foldl (λx1 x2=>x1++x2) acc.toArray (aU k hX.toArray)=(acc++(aU k hX).flatten).toArray
 |0,acc=>by simp
 |k+1,acc=>by
  have e:acc.toArray++hX.toArray=(acc++hX).toArray:=by simp
  have e2:(acc++hX)++(aU k hX).flatten=acc++(aU (k+1) hX).flatten:=by rw[cf,cx,dN]
  rw[<-e2,<-foldl_rep hX k (acc++hX),<-e,cf,List.foldl_cons]
section
variable {X:Cx} {pins:List (af×bE)} {σ:St} {H:Hp} {s:ag} {l b:af} {xs ys zs:List V}
theorem Inv.Wq{hX t8:List ae}{n:Nat}{f:Array ae->Array ae}{t':Nat}(I:Inv X pins σ H s)(hH:H l=aa (.lst xs))
(e:s.heap.get? l=aa {cls:=.type "list",data:=.seq hX.toArray n})(hf:f hX.toArray=t8.toArray)(hv:Vals ys t8)(hz:ys.length<=aH):
  Inv X pins σ (upd H l (.lst ys)) {s with heap:=s.heap.update l (bE.mapSeq f),toks:=t'}:=by have q:=PySem.IsL.update e f;rw[hf] at q;refine I.write (x:=l) (e:=l) (by rw[hH];exact trivial) (.inl rfl) (λb' u hb hu=>(aw s.heap (bE.mapSeq f) (bG hb)).trans hu) ⟨_,q⟩ ?_;exact⟨hz,t8,_,hv,q⟩
theorem Inv.Pz{hX:List ae}{t':Nat}(I:Inv X pins σ H s)(hv:Vals ys hX)(hz:ys.length<=aH):
  Inv X pins σ (upd H s.heap.objs.size (.lst ys)) {s with heap:=s.heap.push {cls:=.type "list",data:=.seq hX.toArray},toks:=t'}:=
 I.laid (λ_ _ q=>au _ q) (bf _) ⟨hz,hX,0,hv,bg _ rfl⟩
theorem Inv.fresh(I:Inv X pins σ H s):H s.heap.objs.size=ak:=I.iy.fresh (bf _)
theorem Inv.Ma(I:Inv X pins σ H s)(hH:H l=aa (.lst xs)):xs.length<=aH/\∃(hX:List ae) (n:Nat),Vals xs hX/\xs.length=hX.length/\s.heap.get? l=aa {cls:=.type "list",data:=.seq hX.toArray n}:=by obtain⟨z,hX,n,r,e⟩:=I.iy l _ hH;exact⟨z,hX,n,r,r.length,e⟩
theorem IV{n:Nat}(h:n<=aH):dw n=ai:=by unfold dw;exact decide_eq_false (by omega)
end
section
variable {X:Cx}
def Mb:V->List V->Hp->VK->Prop:=λx vs H Q=>∃l xs y,x=.ref l/\vs=[y]/\H l=aa (.lst xs)/\xs.length<aH/\Q .non (upd H l (.lst (xs++[y])))
theorem yQ:ZS X "list.append" Mb:=by intro pins s σ H x vs v us Q I rx rv h;obtain⟨l,xs,y,rfl,rfl,hH,hz,q⟩:=h;cases rx;obtain⟨u,rfl,ru⟩:=rv.one;obtain⟨z,hX,n,r,hl,e⟩:=I.Ma hH;refine gk F.slot_list_append ⟨_,e,rfl⟩ F.entry_list_append (F.args_list_append_2 _ _) (PySem.list_append l hX.toArray n u (by rw[aO];omega)) ⟨e,?_⟩;refine⟨.non,_,I.Wq (t8:=hX++[u]) hH e (by simp) (r.append (.cons ru .nil)) ?_,rfl,q⟩;rw[bw,List.length_singleton];omega
def Wr:R2:=λx y H Q=>∃l b xs zs,x=.ref l/\y=.ref b/\H l=aa (.lst xs)/\H b=aa (.lst zs)/\xs.length+zs.length<=aH/\∀p,H p=ak->Q (.ref p) (upd H p (.lst (xs++zs)))
theorem IW:ol X (binaryOp .Add) Wr:=by
 intro pins s σ H x y v u Q I rx ry h;obtain⟨l,b,xs,zs,rfl,rfl,hH,hB,hz,q⟩:=h;cases rx;cases ry;obtain⟨z,hX,n,r,hl,e⟩:=I.Ma hH;obtain⟨z2,Po,n2,r2,Vb,e2⟩:=I.Ma hB;refine PySem.P.add_list e e2 ?_ (by rw[aO,aO];omega);have ea:hX.toArray++Po.toArray=(hX++Po).toArray:=by simp
 rw[ea];exact⟨.ref _,_,I.Pz (t':=s.toks) (r.append r2) (by rw[bw];omega),rfl,q _ I.fresh⟩
def Ws:R2:=λx y H Q=>∃l k xs,x=.ref l/\y=.int k/\H l=aa (.lst xs)/\-(2^63)<=k/\k<2^63/\xs.length*k.toNat<=aH/\
 ∀p,H p=ak->Q (.ref p) (upd H p (.lst (aU k.toNat xs).flatten))
theorem Mc{α:Type}(xs:List α)(k:Nat):(aU k xs).flatten.length=k*xs.length:=by
 induction k with
 |zero=>simp
 |succ k ih=>rw[cf,cx,bw,ih,Nat.succ_mul,Nat.add_comm]
theorem PB:ol X (binaryOp .Mult) Ws:=by
 intro pins s σ H x y v u Q I rx ry h;obtain⟨l,k,xs,rfl,rfl,hH,h1,h2,hz,q⟩:=h;cases rx;obtain⟨t,rfl⟩:=ry;obtain⟨z,hX,n,r,hl,e⟩:=I.Ma hH;have kf:hX.toArray.size*k.toNat<=aH:=by rw[aO,<-hl];exact hz
 have Wt:¬hX.toArray.size*k.toNat>(2^63- 1)/8:=by
  have:(aH:Nat)<=(2^63- 1)/8:=by decide
  omega
 have Wu:¬(!bD.List.listFitsIndex k)=ah:=by rw[fitsIndex_both h1 h2];exact ap
 have SQ:¬dw (hX.toArray.size*k.toNat)=ah:=by rw[IV kf];exact ap
 have Wv:List.foldl (λx1 x2=>x1++x2) #[] (aU (if hX.toArray.isEmpty=ah then 0 else k.toNat) hX.toArray)=(aU k.toNat hX).flatten.toArray:=by
  have f0:∀m:Nat,List.foldl (λx1 x2=>x1++x2) #[] (aU m hX.toArray)=(aU m hX).flatten.toArray:=λm=>by have:=foldl_rep hX m [];rw[dz] at this;exact this
  rw[f0];cases hX with
  |nil=>simp
  |cons a r'=>rw[if_neg (by simp)]
 refine wpAny_binaryOp_repeat_ref (T:="list") (U:="int") (by decide) ⟨_,e,rfl⟩ (λs'=>gj s' k t) noFill_list_mul F.fills_int_mul F.slot_int_rmul repeat_list F.slot_int_index.lookup
  (gk F.slot_int_rmul (gj s k t) F.entry_int_rmul (F.args_int_rmul_2 _ _) (int___rmul___int_list k t l hX.toArray n)
   ⟨e,rfl,⟨_,e,rfl⟩,gk F.slot_list_mul ⟨_,e,rfl⟩ F.entry_list_mul (F.args_list_mul_2 _ _) (AutoListH.list___mul___list_int_3 l hX.toArray n k t Wu Wt SQ) ⟨e,?_⟩⟩)
 rw[Wv];exact⟨.ref _,_,I.Pz (t':=s.toks) (r.rep k.toNat) (by rw[Mc,Nat.mul_comm];exact hz),rfl,q _ I.fresh⟩
end
section
variable {prog:ao} {w:aE} {A:ay} {E:ae->ag->Prop} {s:ag}
end
section
variable {X:Cx}
end
end L2
namespace YA
open PySem PySem.W PySem.Calls PyProof.Rows
theorem vg{P:aaB}{h:aq}:∀(ns:List Int) (vs:List ae),WellAll P h vs (ns.map WData.int)->fR vs ns:=by
 intro ns;induction ns with
 |nil=>
  intro vs w;rw[List.map_nil] at w;cases w;exact .nil
 |cons n ns ih=>
  intro vs w;rw[bW] at w;cases w with
  |cons a b=>
   cases a;exact .cons _ _ (ih _ b)
theorem G1{l:OpenLaw}{n:Nat}(hn:l.most=aa n){P:aaB}{h:aq}{args:List WData}{vals:List ae}
(Md:l.row.toRowW.claim.pre args=ah)(Ww:WellAll P h vals args):
  ∃a vs ns,vals=[aD a]/\args=[WData.list (ns.map WData.int)]/\h.get? a=aa {cls:=.type "list",data:=.seq vs.toArray}/\fR vs ns/\ns.length<=n:=by
 have ZT:WShape.hasAll [] args [.list .int]=ah:=(pre_splitW Md).1;have hc:l.pre.holds [] {args:=args}=ah:=(pre_splitW Md).2;obtain⟨d,r,rfl,h1,h2⟩:=hasAllW_cons ZT;obtain rfl:=hasAllW_nil h2;obtain⟨xs,rfl,h3⟩:=hasW_list h1;obtain⟨ns,rfl⟩:=items_int h3;have kf:ns.length<=n:=by
  unfold OpenLaw.pre at hc;have h4:(WTm.not (.lt (.lit (.int (n:Int))) (.len (.arg 0)))).holds [] {args:=[.list (ns.map .int)]}=ah:=by have h4:=(holds_andW hc).1;rw[hn] at h4;exact h4
  have h5:=condW_of h4 (w_not (w_lt w_lit (w_len_list (w_arg rfl))));rw[aR] at h5;refine Nat.le_of_not_lt λq=>?_;have q':(n:Int)<((ns.length:Nat):Int):=by omega
  first
   | (rw[decide_eq_true q'] at h5;exact absurd h5 (by decide))
   | (simp at h5;omega)
 cases Ww with
 |cons w1 w2=>
  cases w2;cases w1 with
  |list ho Wx=>exact⟨_,_,ns,rfl,rfl,ho,vg ns _ Wx,kf⟩
theorem G3(l:OpenLaw)(args:List WData):l.row.toRowW.claim.post args (.bool ah) args=ah:=
 postW_of (r:=l.row.toRowW) (X:=(ah==ah))
  (show WShape.has [] (.bool ah) .bool=ah by first|rfl|decide|simp[WShape.has,WShape.arms,WShape.armsAll])
  (show(WTm.eq .res (.lit (.bool ah))).value [] {args:=args,res:=aa (.bool ah),after:=args}=aa (.bool (ah==ah)) from w_eq_bool (w_res rfl) w_lit) rfl
theorem BJ{l:OpenLaw}{n:Nat}{q:ao}{loose:List ar}{XP:(ar->Option ae)->aq->Prop}{YP:aE->aq->Prop}{d:DefRec}
(hn:l.most=aa n)(SR:d.params.defaults=[])
(call:∀(w:aE) (gG ik:ag) (mg mb:ar->Option ae) (fa:af) (o:bE) (pm cd doc:ae) (a:af) (vs:List ae) (ns:List Int),
   Ground q loose [] XP w gG mg mb ik.heap->YP w ik.heap->
   ik.heap.get? fa=aa o->o.data=.func (docDef d.name d.params d.body d.scope pm cd doc)->ik.heap.CodeRec cd d.name->mg d.name=aa (.ref fa)->
   ik.heap.get? a=aa {cls:=.type "list",data:=.seq vs.toArray}->fR vs ns->ns.length<=n->ik.gens=#[]->
   codeAny (model l.prog w) eO (.call (.ref fa) ⟨[.ref a],[]⟩) (λr s'=>r=.ok (.ret (.bool ah))/\OldK ik.heap s'.heap/\s'.os=ik.os/\dA s'.gens) ik):
  WalkO q loose XP YP l.row.toRowW d [] (λf vs=>PySem.call f vs):=by intro w gG ik mg mb G Y fa o pm cd doc dV kV ho hd pE hD SS hg args vals as Md ZU hrd Ww hlo;obtain rfl:dV=.none:=Dflts.none hD SR;obtain rfl:kV=.none:=Dflts.noKw hD;obtain⟨a,vs,ns,rfl,rfl,PC,IX,kf⟩:=G1 hn Md Ww;refine enter_call (cr (call w gG ik mg mb fa o pm cd doc a vs ns G Y ho (fd_plain hd) pE SS PC IX kf hg) λr s' hq=>?_);obtain⟨rfl,h2,h3,h4⟩:=hq;exact⟨.inl ⟨.bool ah,.bool ah,[],rfl,λ_=>rfl,.bool ah,G3 l _,λ_=>⟨List.Pairwise.nil,λ_ hm=>(nomatch hm)⟩⟩,h2,h3,h4⟩
section
variable {prog:ao} {w:aE} {A:ay} {E:ae->ag->Prop} {s:ag} {K:Frag}
end
end YA
namespace L2
open PySem PySem.Spec PyProof.Rows
theorem yR:∀{vs:List ae} {ns:List Int},fR vs ns->Vals (ns.map V.int) vs
 |_,_,.nil=>.nil
 |_,_,.cons n t h=>.cons ⟨t,rfl⟩ (yR h)
def PD (H:Hp):Prop:=∀b,H b=ak\/∃o xs,H b=aa (.qv o (.lst xs))
theorem IY{P:ao}{w:aE}{K:W.Frag}{mg mb:ar->Option ae}{CX:v3}{k:Nat}{fa a:af}{fd:bz}{x:ar}{sp:Sp}{ik:ag}{vs:List ae}{ns:List Int}
(KX:K.In ik.heap)(Vc:ik.heap.Ns aZ mg)(hb:ik.heap.Ns f8 mb)(ZV:∀x:ar,x≠"__name__"->mb x=b8 x)(Wy:ik.heap.NoLimit)(hg:ik.gens=#[])
(ha:ik.heap.get? a=aa {cls:=.type "list",data:=.seq vs.toArray})(hi:fR vs ns)(hl:ns.length<=aH)(hr:iG k eO)
(F:∀base:aq,K.In base->base.Ns aZ mg->iW P w K mg base CX k fa fd [x] sp)(SU:∀(s:ag) (u:ae),eo s fd ⟨[u],[]⟩ [(x,u)])
(zL:∀H:Hp,PD H->oa K H a (ns.map V.int)->sp [.ref a] H (λv _=>v=.bl ah) λ_ _ _=>False)
(Wz:∀H e s',CX [] H ik (λ_ _ _=>False) e s'->False):
  codeAny (model P w) eO (.call (.ref fa) ⟨[.ref a],[]⟩) (λr s'=>r=.ok (.ret (.bool ah))/\OldK ik.heap s'.heap/\s'.os=ik.os/\dA s'.gens) ik:=by
 have rv:=yR hi;have WA:=hi.length;have SV:∀H:Hp,PD H->oa K H a (ns.map V.int)->pG P w H ik.heap->(∀b,H b≠ak->b=a)->(H a≠ak->K.lookup a=ak)->
   codeAny (model P w) eO (.call (.ref fa) ⟨[.ref a],[]⟩) (λr s'=>r=.ok (.ret (.bool ah))/\OldK ik.heap s'.heap/\s'.os=ik.os/\dA s'.gens) ik:=by
  intro H hO hS iy hA hK;have FI:∀{b:af} {o:bE},ik.heap.get? b=aa o->H b=ak->(zD ik.heap H).get? b=aa o:=λe n=>Ig e n;have SG:∀{b:af} {o:bE} {es:Array DictEntry} {ep:Nat},ik.heap.get? b=aa o->o.data=.dict es ep->H b=ak:=λ{b o es ep} e d=>by
   cases q:H b with
   |none=>rfl
   |some u=>
    have e':b=a:=hA b (by rw[q];simp);subst e';rw[ha] at e;cases e;have d':Data.seq vs.toArray _=Data.dict es ep:=d;cases d'
  have Vd:∀{b:af} {m:ar->Option ae},ik.heap.Ns b m->(zD ik.heap H).Ns b m:=λ{b m} ⟨o,es,ep,e,d,r⟩=>⟨o,es,ep,FI e (SG e d),d,r⟩;have YB:K.In (zD ik.heap H):=λb o e=>FI (KX b o e) (by
   cases q:H b with
   |none=>rfl
   |some u=>
    have e':b=a:=hA b (by rw[q];simp);subst e';rw[hK (by rw[q];simp)] at e;cases e)
  have hM:Mod K mg (zD ik.heap H):=⟨YB,Vd Vc,⟨mb,Vd hb,ZV⟩,let⟨mc,h1,h2⟩:=Wy;⟨mc,Vd h1,h2⟩⟩;have e0:v4 P w K mg (zD ik.heap H) eO [] ik H:=⟨rfl,hM,λb o e=>LA e,c8 (GK _ _),trivial,λb hb=>absurd (show b∈([]:List af) from hb) (by simp),iy,.of_eq hg⟩;refine cr ((F _ YB (Vd Vc)).run eO [] ik H ⟨[.ref a],[]⟩ [.ref a] [.ref a] _ _ hr e0 (SU ik (.ref a)) (.cons rfl .nil) (zL H hO hS)) λr s' h=>?_;cases r with
  |error e=>exact(Wz H e s' h).elim
  |ok fl=>
   cases fl with
   |next=>exact bu h
   |brk=>exact bu h
   |cont=>exact bu h
   |ret u=>
    obtain⟨v,H',os,bare,un,IZ,r',q⟩:=h;have q':v=.bl ah:=q;subst q';obtain rfl:u=dU ah:=r';refine⟨rfl,OldK.of_keep λb o e=>?_,os,bare⟩;cases q:H b with
    |none=>exact un.keep b o e q (by intro z;exact absurd (show b∈([]:List af) from z) (by simp)) (by simp)
    |some u=>
     rcases hO b with z|⟨ob,xs,z⟩
     ·rw[q] at z;cases z
     ·have z2:=un.nG b ob _ z;obtain⟨e1,_⟩:=iy b _ z;obtain⟨e2,_⟩:=IZ b _ z2;rw[e] at e1;cases e1;exact e2
 cases hk:K.lookup a with
 |some o=>
  have e:=KX a o hk;rw[ha] at e;cases e;refine SV (λ_=>ak) (λ_=>.inl rfl) (.inr ⟨_,vs.toArray,_,hk,rfl,rfl,rfl,by rw[aO,WA];exact hl,by simpa using rv⟩) (λb u z=>by have z':(ak:Option HO)=aa u:=z;cases z') (λb z=>absurd rfl z) λz=>absurd rfl z
 |none=>
  refine SV (λb=>if b=a then aa (.qv {cls:=.type "list",data:=.seq vs.toArray} (.lst (ns.map V.int))) else ak) (λb=>?_) (.inl (.inr ⟨{cls:=.type "list",data:=.seq vs.toArray},if_pos rfl⟩)) (λb u z=>?_) (λb z=>?_) λ_=>hk
  ·by_cases hb:b=a
   ·exact .inr ⟨_,_,if_pos hb⟩
   ·exact .inl (if_neg hb)
  ·by_cases hb:b=a
   ·have z':=(if_pos hb).symm.trans z;cases z';subst hb;exact⟨ha,by rw[aR];exact hl,vs,_,rv,ha⟩
   ·have z':=(if_neg hb).symm.trans z;cases z'
  ·by_cases hb:b=a
   ·exact hb
   ·exact absurd (if_neg hb) z
abbrev KOf{K:W.Frag}{h:aq}(_:K.In h):W.Frag:=K
theorem Me{l:W.OpenLaw}{n k:Nat}{q:ao}{loose:List ar}{XP:(ar->Option ae)->aq->Prop}{YP:aE->aq->Prop}{d:DefRec}{K:aaB->W.Frag}{CX:aE->v3}{sp:aE->Sp}{x:ar}
(hn:l.most=aa n)(U4:n<=aH)(SR:d.params.defaults=[])(hr:iG k eO)
(hY:∀(w:aE) (h:aq),YP w h->(K w.params).In h)
(F:∀(w:aE) (mg:ar->Option ae) (fa:af) (h:aq),(K w.params).In h->h.Ns aZ mg->mg d.name=aa (.ref fa)->
   ∃fd:bz,(∀(s:ag) (u:ae),eo s fd ⟨[u],[]⟩ [(x,u)])/\
    ∀base:aq,(K w.params).In base->base.Ns aZ mg->iW l.prog w (K w.params) mg base (CX w) k fa fd [x] (sp w))
(zL:∀(w:aE) (H:Hp) (a:af) (ns:List Int),ns.length<=n->PD H->oa (K w.params) H a (ns.map V.int)->sp w [.ref a] H (λv _=>v=.bl ah) λ_ _ _=>False)
(Wz:∀(w:aE) (H:Hp) (s:ag) (e:ae) (s':ag),CX w [] H s (λ_ _ _=>False) e s'->False):
  W.WalkO q loose XP YP l.row.toRowW d [] (λf vs=>PySem.call f vs):=by refine YA.BJ hn SR λw gG ik mg mb fa o pm cd doc a vs ns G Y ho hd pE SS PC IX kf hg=>?_;have KX:=hY w _ Y;obtain⟨fd,hb,hF⟩:=F w mg fa _ KX G.T.g SS;exact IY KX G.T.g G.T.b G.T.builtins G.T.nolimit hg PC IX (aT kf U4) hr hF hb (λH hO hS=>zL w H a ns kf hO hS) λH e s'=>Wz w H ik e s'
noncomputable def jJ(s:br)(j:Nat):br:=match s with
 |.ClassDef _ _ _ body _ _ _ _ _ _ _=>body.getD j (.Pass ⟨0,0,0,0⟩)
 |_=>.Pass ⟨0,0,0,0⟩
noncomputable def jf(s:br):ef:=match s with
 |.FunctionDef _ a _ _ _ _ _ _ _ _=>a
 |_=>{posonlyargs:=[],args:=[],vararg:=ak,kwonlyargs:=[],kw_defaults:=[],kwarg:=ak,defaults:=[]}
noncomputable def g6(s:br):List br:=match s with
 |.FunctionDef _ _ b _ _ _ _ _ _ _=>b
 |_=>[]
noncomputable def gM(s:br):bJ:=match s with
 |.FunctionDef _ _ _ _ _ _ sc _ _ _=>sc
 |_=>{kind:=.function,names:=[],isGenerator:=ai,isCoroutine:=ai}
abbrev pF:v3:=λ_ _ _ _ _ _=>False
abbrev E0:XK:=λ_ _ _=>False
theorem yS{X:Cx}:om pF X E0:=λ_ _ _ _ _ _ _ h=>h.elim
structure og(K:W.Frag)(x qual:ar)(st:br)(f:af)(fd:bz):Prop where
 ex:∃(oc:ae) (od:Option af) (kV doc pm:ae) (an:Option af) (g8 ct:ae) (uH:Array (Option ae)),
  fd=W.fnOf x qual (jf st) (g6 st) (gM st) .none kV doc pm an g8 ct/\K.lookup f=aa ⟨oc,od,.func fd,uH⟩/\W.codeIn K g8 qual=ah
 kp:W.keepIn K (.ref f)=ah
section
variable {P:ao} {w:aE} {K:W.Frag} {mg:ar->Option ae} {base:aq}
theorem og.ok{x qual:ar}{st:br}{f:af}{fd:bz}{N ps:List ar}{k:Nat}{sp:Sp}(F:og K x qual st f fd)(S:gL N ps (gM st))(len:∀vs H Q E,sp vs H Q E->vs.length=ps.length)
(lw:∀(g8:ae) (A:ay) (outer:List cz) (s:ag) (H:Hp) (vs:List V) (Q:VK) (E:XK),iG k (A.deeper (cy qual (gM st) s.heap.objs.size f g8))->sp vs H Q E->
   ∃t,pH (py pF P w K mg base N qual (gM st) f g8 A outer s H E).DV (g6 st) t/\t {nx:=λ_ H'=>Q .non H',rt:=Q} (start N vs) H):iW P w K mg base pF (k+1) f fd ps sp:=by obtain⟨oc,od,kV,doc,pm,an,g8,ct,uH,rfl,lk,pE⟩:=F.ex;refine FC lk pE S len λA outer s H vs Q E hr zL=>?_;obtain⟨t,h,q⟩:=lw g8 A outer s H vs Q E hr zL;exact⟨t,h.DV,q⟩
theorem og.binds{x qual:ar}{st:br}{f:af}{fd:bz}{ps:List ar}(F:og K x qual st f fd)
(h:∀(kV doc pm:ae) (an:Option af) (g8 ct:ae) (us:List ae),us.length=ps.length->c7 (W.fnOf x qual (jf st) (g6 st) (gM st) .none kV doc pm an g8 ct) ⟨us,[]⟩=pure (ps.zip us)):Binds K fd ps []:=by obtain⟨oc,od,kV,doc,pm,an,g8,ct,uH,rfl,lk,pE⟩:=F.ex;exact .all (h kV doc pm an g8 ct)
theorem Eb{x qual:ar}{st:br}{f:af}{oc:ae}{od an:Option af}{uH:Array (Option ae)}{kV doc pm g8 ct:ae}(l:K.lookup f=aa ⟨oc,od,.func (W.fnOf x qual (jf st) (g6 st) (gM st) .none kV doc pm an g8 ct),uH⟩)
(c:W.codeIn K g8 qual=ah)(k:W.keepIn K (.ref f)=ah):og K x qual st f (W.fnOf x qual (jf st) (g6 st) (gM st) .none kV doc pm an g8 ct):=⟨⟨oc,od,kV,doc,pm,an,g8,ct,uH,rfl,l,c⟩,k⟩
end
theorem i9{A:ay}{k:Nat}(hr:iG k A):A.units+1<eC:=Nat.lt_of_le_of_lt (Nat.add_le_add_left (by decide:1<=64) _) hr.units
section
variable {X:Cx}
end
def jc (H H':Hp):Prop:=∀b o,H b=aa o->H' b=aa o
theorem jc.refl(H:Hp):jc H H:=λ_ _ h=>h
theorem jc.trans{H H1 H2:Hp}(a:jc H H1)(b:jc H1 H2):jc H H2:=λc o h=>b c o (a c o h)
theorem jc.free{H H':Hp}(e:jc H H'){l:af}(h:H' l=Option.none):H l=Option.none:=by
 cases q:H l with
 |none=>rfl
 |some o=>
  rw[e l o q] at h;cases h
theorem jc.seq{K:W.Frag}{H H':Hp}{a:af}{xs:List V}(e:jc H H')(h:oa K H a xs):oa K H' a xs:=by
 rcases h with(h|⟨o,h⟩)|h
 ·exact .inl (.inl (e _ _ h))
 ·exact .inl (.inr ⟨o,e _ _ h⟩)
 ·exact .inr h
section
variable {κ:Type} [DecidableEq κ]
end
end L2
set_option maxHeartbeats 4000000
namespace L2
open PySem PySem.Spec PyProof.Rows
noncomputable def vh(env:cz):List (ar×b3)->List (ar×af)->List (ar×af)
 |[],acc=>acc
 | (n,k)::r,acc=>vh env r (if(k==cI)=ah then(n,(env.cells.lookup n).getD 0)::acc else acc)
theorem xT{scope:bJ}{env:cz}(h:∀x∈scope.names,x.2=.free->∃c,env.cells.lookup x.1=aa c):closureFor scope env=pure (vh env scope.names []):=by
 unfold closureFor;generalize ([]:List (ar×af))=acc;generalize scope.names=l at h;induction l generalizing acc with
 |nil=>rfl
 |cons x r ih=>
  obtain⟨n,k⟩:=x;have ih:=λa=>ih a λy hy=>h y (aX _ hy);simp only [List.forIn_cons,vh];by_cases hk:k=.free
  ·obtain⟨c,hc⟩:=h (n,k) bd hk;subst hk;have e:cellOf env n=pure c:=by unfold cellOf;simp only at hc;rw[hc]
   simp only [beq_self_eq_true,if_true,e,hc,Option.getD_some];exact ih ((n,c)::acc)
  ·have:(k==cI)=ai:=by simpa using hk
   simp only [this,cZ,if_false];exact ih acc
theorem BK{env:cz}{y:ar}{c:af}:∀(l:List (ar×b3)) (acc:List (ar×af)),(∀z d,acc.lookup z=aa d->env.cells.lookup z=aa d)->(∀x∈l,x.2=.free->∃c,env.cells.lookup x.1=aa c)->
  (vh env l acc).lookup y=aa c->env.cells.lookup y=aa c
 |[],acc,ha,_,e=>ha y c e
 | (n,k)::r,acc,ha,hf,e=>by
  unfold vh at e;refine BK r _ ?_ (λx hx=>hf x (aX _ hx)) e;intro z d hz;split at hz
  ·rename_i hk;have hk:k=.free:=by simpa using hk
   obtain⟨c',Ll⟩:=hf (n,k) bd hk;simp only at Ll;rw[cn,Ll] at hz;by_cases YC:z=n
   ·subst YC;simp only [beq_self_eq_true,Option.getD_some] at hz;rw[Ll];exact hz
   ·have:(z==n)=ai:=by simpa using YC
    rw[this] at hz;exact ha z d hz
  ·exact ha z d hz
theorem v9{env:cz}{y:ar}:∀(l:List (ar×b3)) (acc:List (ar×af)),((∃c,acc.lookup y=aa c)\/(y,cI)∈l)->∃c,(vh env l acc).lookup y=aa c
 |[],acc,h=>h.elim (λx=>x) λx=>by cases x
 | (n,k)::r,acc,h=>by
  unfold vh;refine v9 r _ ?_;rcases h with⟨c,hc⟩|h
  ·left;split
   ·rw[cn];split
    ·exact⟨_,rfl⟩
    ·exact⟨c,hc⟩
   ·exact⟨c,hc⟩
  ·rcases ba.mp h with h|h
   ·cases h;left;simp
   ·exact .inr h
noncomputable def zR(X:Cx)(scope:bJ)(N:List ar)(C:af)(ex:List af)(pins:List (af×bE))(gG:ag)(gJ:Hp)(E:ae->ag->Prop):Cx where
 prog:=X.prog
 w:=X.w
 K:=X.K
 mg:=X.mg
 base:=X.base
 A:=X.A
 N:=N
 gG:=gG
 gJ:=gJ
 env:=compEnvC scope (vh X.env scope.names []) C X.env
 outer:=X.stack
 stack:=X.stack
 ex:=ex
 fn:=λ_=>ai
 calm:=X.calm
 pn:=X.pn++pins
 xe:=E
noncomputable def slots(fr:List (Option Nat))(σ:St):St:=fr.map λo=>match o with
 |none=>ak
 |some j=>(σ[j]?).getD ak
noncomputable def FK(zS N:List ar)(fr:List (Option Nat))(scope nj:bJ):Bool:=
 (N.zip fr).all (λp=>match p.2 with
  |none=>ah
  |some j=>decide (zS[j]?=aa p.1)&&decide (scope.names.lookup p.1=aa .free))&&
 scope.names.all (λx=>x.2!=.cell&&(x.2!=.free||(nj.names.lookup x.1==aa .cell||nj.names.lookup x.1==aa .free))&&(x.2!=.local||decide (scope.names.lookup x.1=aa .local)))&&
 decide (fr.length=N.length)&&(scope.kind==.function)
structure md(X:Cx)(N:List ar)(fr:List (Option Nat))(scope:bJ):Prop where
 cell:∀y∈scope.names,y.2≠.cell
 free:∀y∈scope.names,y.2=.free->X.env.kindOf y.1=aa .cell\/X.env.kindOf y.1=aa .free
 loc:∀y∈scope.names,y.2=.local->scope.names.lookup y.1=aa .local
 slot:∀(i j:Nat) (x:ar),N[i]?=aa x->fr[i]?=aa (aa j)->X.N[j]?=aa x/\scope.names.lookup x=aa .free
 len:fr.length=N.length
 kind:scope.kind=.function
theorem md.of{X:Cx}{N zS:List ar}{fr:List (Option Nat)}{scope nj:bJ}(h:FK zS N fr scope nj=ah)(hN:X.N=zS:=by rfl)(hs:X.env.scope.names=nj.names:=by rfl):md X N fr scope:=by
 unfold FK at h;simp only [aP,decide_eq_true_eq,dR,beq_iff_eq] at h;obtain⟨⟨⟨h1,h2⟩,h3⟩,h4⟩:=h;refine⟨λy hy=>?_,λy hy hf=>?_,λy hy hl=>?_,λi j x e1 e2=>?_,h3,h4⟩
 ·have:=(h2 y hy).1.1;simpa using this
 ·have:=(h2 y hy).1.2;unfold cz.kindOf;rw[hs];simpa[hf] using this
 ·have:=(h2 y hy).2;simpa[hl] using this
 ·have hm:(x,aa j)∈N.zip fr:=by refine bT (i:=i) ?_;rw[List.getElem?_zip_eq_some];exact⟨e1,e2⟩
  have:=h1 _ hm;rw[hN];simpa using this
theorem G4{fr:List (Option Nat)}{σ:St}{i:Nat}{v:V}(h:(slots fr σ)[i]?=aa (aa v)):∃j:Nat,fr[i]?=aa (aa j)/\σ[j]?=aa (aa v):=by
 unfold slots at h;rw[bQ] at h;cases e:fr[i]? with
 |none=>rw[e] at h;cases h
 |some o=>
  rw[e] at h;cases o with
  |none=>cases h
  |some j=>
   refine⟨j,rfl,?_⟩;have h':(σ[j]?).getD ak=aa v:=by simpa using h
   cases e2:σ[j]? with
   |none=>rw[e2] at h';cases h'
   |some q=>rw[e2] at h';simp at h';rw[h']
theorem ou{scope:bJ}{env:cz}:∀{l:List (ar×b3)} {x:ar} {k:b3},
  (l.map λ(n,k)=>if(k==cI&&env.scope.kind==.function&&env.kindOf n==aa .cell) then(n,ej) else(n,k)).lookup x=aa k->
  ∃k',(x,k')∈l/\l.lookup x=aa k'/\(k=k'\/(k'=.free/\k=.cell))
 |[],x,k,h=>by cases h
 | (n,k0)::r,x,k,h=>by
  simp only [bW] at h;by_cases hx:x=n
  ·subst hx;refine⟨k0,bd,by simp,?_⟩;split at h
   ·rename_i hc;simp at h;have:k0=.free:=by simp at hc;exact hc.1.1
    exact .inr ⟨this,h.symm⟩
   ·simp at h;exact .inl h.symm
  ·have hb:(x==n)=ai:=by simpa using hx
   have h':(r.map λ(n,k)=>if(k==cI&&env.scope.kind==.function&&env.kindOf n==aa .cell) then(n,ej) else(n,k)).lookup x=aa k:=by split at h<;>(rw[cn,hb] at h;exact h)
   obtain⟨k',m,l',q⟩:=ou (scope:=scope) h';exact⟨k',aX _ m,by rw[cn,hb];exact l',q⟩
theorem uK{env:cz}:∀{l:List (ar×b3)} {x:ar},l.lookup x=aa .free->
  (l.map λ(n,k)=>if(k==cI&&env.scope.kind==.function&&env.kindOf n==aa .cell) then(n,ej) else(n,k)).lookup x=aa .cell\/
  (l.map λ(n,k)=>if(k==cI&&env.scope.kind==.function&&env.kindOf n==aa .cell) then(n,ej) else(n,k)).lookup x=aa .free
 |[],x,h=>by cases h
 | (n,k0)::r,x,h=>by
  simp only [bW];by_cases hx:x=n
  ·subst hx;simp at h;subst h;split
   ·left;simp
   ·right;simp
  ·have hb:(x==n)=ai:=by simpa using hx
   rw[cn,hb] at h;have:=uK (env:=env) h;split<;>(rw[cn,hb];exact this)
section
variable {X:Cx} {pins:List (af×bE)} {σ:St} {H:Hp} {s:ag} {N:List ar} {fr:List (Option Nat)} {scope:bJ} {fp:List af} {E:ae->ag->Prop}
theorem Inv.NZ(I:Inv X pins σ H s)(c:md X N fr scope):∀x∈scope.names,x.2=.free->∃c,X.env.cells.lookup x.1=aa c:=λx hx hf=>I.ok.has x.1 (c.free x hx hf)
theorem Inv.N1(I:Inv X pins σ H s)(c:md X N fr scope){y:ar}{a:af}(h:(vh X.env scope.names []).lookup y=aa a):X.env.cells.lookup y=aa a:=
 BK scope.names [] (λ_ _ e=>by cases e) (I.NZ c) h
theorem Inv.block(I:Inv X pins σ H s)(c:md X N fr scope)(hf:∀b∈fp,t9 X pins H b)(WB:∀b∈fp,b<s.heap.objs.size){h':aq}{m:ar->Option ae}{t':Nat}(hn:h'.Ns s.heap.objs.size m)(hk:∀b o,s.heap.get? b=aa o->h'.get? b=aa o):
  Inv (zR X scope N s.heap.objs.size fp pins s H E) [] (slots fr σ) H {s with heap:=h',toks:=t'}:=by
 have cg:∀y a,(vh X.env scope.names []).lookup y=aa a->X.env.cells.lookup y=aa a:=λy a=>I.N1 c;have WC:∀y a,X.env.cells.lookup y=aa a->a<s.heap.objs.size:=λy a e=>by obtain⟨v,q⟩:=I.cell y a e;exact q.lt
 refine⟨⟨I.ok.mod,c.kind,I.ok.glob,I.ok.blt,bf _,λx y a h1 h2=>I.ok.inj x y a (cg x a h1) (cg y a h2),λx hx=>?_,λx a hf=>(by cases hf),I.ok.hd,I.ok.frames,.inl rfl,λb hb=>?_,I.bs,aT I.ok.Fp I.sz,λb o e hb=>?_,λb hb=>?_,I.stack,I.Fq⟩,
  rfl,I.bare,Un.kept hk,⟨m,hn,λi x v e1 e2 e3=>?_⟩,λx a e=>?_,I.iy.fresh (bf _),λx a e=>I.jX x a (cg x a e),λp hp=>?_,I.iy.kept hk,?_⟩
 ·have Mf:(relabel scope X.env).names.lookup x=aa .cell\/(relabel scope X.env).names.lookup x=aa .free:=hx;have:(x,cI)∈scope.names:=by
   rcases Mf with h|h
   ·obtain⟨k',m',_,q⟩:=ou (scope:=scope) h;rcases q with q|q
    ·subst q;exact absurd rfl (c.cell _ m')
    ·rw[<-q.1];exact m'
   ·obtain⟨k',m',_,q⟩:=ou (scope:=scope) h;rcases q with q|q
    ·subst q;exact m'
    ·cases q.2
  exact v9 scope.names [] (.inr this)
 ·obtain⟨f0,f1,f2,f3,f4,f5⟩:=hf b hb;exact⟨bM (WB b hb),λx a e=>f4 x a (cg x a e)⟩
 ·obtain⟨f0,f1,f2,f3,f4,f5⟩:=hf b hb;rcases f3 with f3|f3
  ·exact I.ok.Bt b o e f3
  ·exact absurd (aB (aJ e) (aT I.ok.Fp f3)) (b5 _)
 ·obtain⟨f0,f1,f2,f3,f4,f5⟩:=hf b hb;intro z;rcases ba.mp (I.rA b z) with z|z
  ·exact f1 z
  ·exact f2 z
 ·obtain⟨j,f1,f2⟩:=G4 e2;obtain⟨g1,g2⟩:=c.slot i j x e1 f1;have YD:X.env.kindOf x=aa .cell\/X.env.kindOf x=aa .free:=c.free (x,.free) (PySem.mem_of_lookup g2) rfl;have qw:Lj X.env.scope x:=.inr YD;obtain⟨m0,_,hl⟩:=I.loc;obtain⟨u,r,lk⟩:=hl j x v g1 f2 qw;refine⟨u,r,.inr ⟨uK g2,?_⟩⟩;obtain⟨a,ha⟩:=v9 (env:=X.env) (y:=x) scope.names [] (.inr (PySem.mem_of_lookup g2));refine⟨a,ha,?_⟩;have ZW:=cg x a ha;rcases lk with⟨q,_⟩|⟨_,a',e',z⟩
  ·rcases YD with w|w<;>(rw[q] at w;cases w)
  ·rw[ZW] at e';cases e';obtain⟨o,ho,hd⟩:=z;exact⟨o,hk _ o ho,hd⟩
 ·obtain⟨v,o,ho,hd⟩:=I.cell x a (cg x a e);exact⟨v,o,hk _ o ho,hd⟩
 ·rw[bj] at hp;obtain⟨e,n,ne,nf,d⟩:=I.pin p hp;refine⟨hk _ _ e,n,bM (aJ e),λz=>?_,d⟩;rcases ba.mp (I.rA p.1 z) with z|z
  ·exact ne z
  ·exact nf z
 ·unfold slots;rw[aR];exact c.len
theorem Inv.unblock{s':ag}{iF:St}{H':Hp}{sH:List (af×bE)}{C:af}(I:Inv X pins σ H s)(hf:∀b∈fp,t9 X pins H b)(J:Inv (zR X scope N C fp pins s H E) sH iF H' s'):Inv X pins σ H' s':=
 I.uE (ch:=fp) J.os J.base J.iy J.bare λb hb=>by obtain⟨f0,f1,f2,f3,f4,f5⟩:=hf b hb;exact⟨f3,f1,f4,f5⟩
end
theorem pN{prog:ao}{w:aE}{A:ay}{R:eK->ag->Prop}{s:ag}{elt target iter:aM}{ifs:List aM}{scope:bJ}{pos:cu}{it acc:ae}{env:cz}(I:Nat->ag->Prop)
(turn:∀n s,I n s->wpAny (model prog w) A (pyNext it) (λr ik=>match r with
   |none=>R (.ok .next) ik
   |some v=>wpAny (model prog w) A (letOwnedTupleGo target it v) (λ_ N2=>wpAny (model prog w) A (assign target env v) (λ_ xR=>
     wpAny (model prog w) A (forIn ifs ah λc r=>if r=ah then do let ok<-fF c env (eval c env);pure (dP ok) else pure (dP r)) (λok wa=>
      if ok=ah then wpAny (model prog w) A (eval elt env) (λx Mg=>
       wpAny (model prog w) A (call (.builtin "list.append") [acc,x]) (λ_ SW=>∃m,m<n/\I m SW) (eZ (model prog w) A env λe s'=>R (.error e) s') Mg) (eZ (model prog w) A env λe s'=>R (.error e) s') wa
      else∃m,m<n/\I m wa) (eZ (model prog w) A env λe s'=>R (.error e) s') xR) (eZ (model prog w) A env λe s'=>R (.error e) s') N2) (eZ (model prog w) A env λe s'=>R (.error e) s') ik) (eZ (model prog w) A env λe s'=>R (.error e) s') s)
(n:Nat)(h:I n s):
  codeAny (model prog w) A (.compLoop (.ListComp elt [⟨target,iter,ifs,0⟩] scope pos) 0 it acc env) R s:=by
 refine codeAny_loop rfl I (λn s hI=>?_) n h;show wpAny _ A ((compTurn (.ListComp elt [⟨target,iter,ifs,0⟩] scope pos) 0 it acc env).onRaise (λx=>do cT x env;theTreesLotGoes x)) _ _ s;refine wpAny_noted ?_;rw[compTurn_list];refine aj (c6 (aj (bR (turn n s hI) (λr ik iR=>?_) λ_ _ h'=>h')));cases r with
 |none=>exact az iR
 |some v=>
  refine aj (bR iR (λ_ N2 SX=>?_) λ_ _ h'=>h');refine aj (bR SX (λ_ xR WD=>aj (bR WD (λok wa SY=>?_) λ_ _ h'=>h')) λ_ _ h'=>h');cases ok with
  |false=>exact az ⟨rfl,SY⟩
  |true=>
   exact aj (aj (bR SY (λx Mg WE=>aj (bR WE (λ_ SW WG=>az (az ⟨rfl,WG⟩)) λ_ _ h'=>h')) λ_ _ h'=>h'))
def S0 (X:Cx)(ifs:List aM)(t:TT):Prop:=
 ∀(pins:List (af×bE)) (s:ag) (σ:St) (H:Hp) (Q:Bool->Hp->Prop),Inv X pins σ H s->t σ H Q->
  wpAny (model X.prog X.w) X.A (forIn ifs ah λc r=>if r=ah then do let ok<-fF c X.env (eval c X.env);pure (dP ok) else pure (dP r)) (TP X pins σ Q) X.xe s
def WH:TT:=λ_ H Q=>Q ah H
theorem Mh{X:Cx}:S0 X [] WH:=λ_ _ _ H _ I h=>wpAny_tests_nil ⟨H,I,h⟩
def Ja (fr:List (Option Nat))(wi:TI)(g:TG)(tt:TT)(te:TE):TE:=λσ H Q=>wi σ H λJ H1=>∀p,H1 p=ak->
 ∃W:Nat->Nat->List V->St->Hp->Prop,(∃m,W 0 m [] (slots fr σ) (upd H1 p (.lst [])))/\∀i m ys σ H,W i m ys σ H->
   (J.stop i H/\Q (.ref p) H)\/(J.go i H/\∃N:List V->St->Hp->Prop,(∀RO iF H',N RO iF H'->∃m',m'<m/\W (i+1) m' RO iF H')/\
   ∀x H',J.NR i H x H'->g x σ H' λBz H2=>tt Bz H2 λb H3=>if b=ah then te Bz H3 λv H4=>H4 p=aa (.lst ys)/\ys.length<aH/\N (ys++[v]) Bz (upd H4 p (.lst (ys++[v]))) else N ys Bz H3)
section
variable {X:Cx} {N:List ar} {fr:List (Option Nat)} {scope:bJ} {elt target iter:aM} {ifs:List aM} {wi:TI} {g:TG} {tt:TT} {te:TE} {pos:cu}
theorem G5(c:md X N fr scope)(yT:X.calm=ah)(hi:PI X target iter wi)
(hg:∀C ex pins gG gJ,PG (zR X scope N C ex pins gG gJ λ_ _=>False) target g)
(ht:∀C ex pins gG gJ,S0 (zR X scope N C ex pins gG gJ λ_ _=>False) ifs tt)
(he:∀C ex pins gG gJ,PE (zR X scope N C ex pins gG gJ λ_ _=>False) elt te)
{pins:List (af×bE)}{s:ag}{σ:St}{H:Hp}{Q:VK}{R:ae->af->eK->ag->Prop}(I:Inv X pins σ H s)(h:Ja fr wi g tt te σ H Q)
(lm:∀p C m s' H',Inv X pins σ H' s'->t9 X pins H' C->s'.heap.Ns C m->Q (.ref p) H'->R (.ref p) C (.ok .next) s'):
  wpAny (model X.prog X.w) X.A (eval iter X.env) (λx ik=>wpAny (model X.prog X.w) X.A (fJ x) (λit xR=>wpAny (model X.prog X.w) X.A (newList []) (λacc wa=>
   wpAny (model X.prog X.w) X.A (newFunctionEnv scope X.env.globals (vh X.env scope.names []) [] X.env.qual ak .none (aa X.env)) (λS3 Mg=>
    codeAny (model X.prog X.w) X.A (.compStart (.ListComp elt [⟨target,iter,ifs,0⟩] scope pos) 0 it acc {S3 with scope:=relabel scope X.env}) (R acc S3.locals) Mg) X.xe wa) X.xe xR) X.xe ik) X.xe s:=by
 refine ja (hi pins s σ H _ I h) λv s1 h1=>ja h1 λV6 s2 h2=>?_;obtain⟨it,fp,tn,J,H2,e,I2,T,U0,f2,h2⟩:=h2;subst e;have S4:∀b∈fp,b<s2.heap.objs.size:=λb hb=>by obtain⟨o,e,_⟩:=T.obj _ _ U0 b hb;exact aJ e
 have ZX:H2 s2.heap.objs.size=ak:=I2.fresh;obtain⟨W,⟨m0,w0⟩,turn⟩:=h2 _ ZX;refine ci ?_;generalize WI:({s2 with heap:=s2.heap.push {cls:=.type "list",dict:=ak,data:=.seq ([]:List ae).toArray}}:ag)=s3;have PF:s3={s2 with heap:=s2.heap.push {cls:=.type "list",data:=.seq ([]:List ae).toArray},toks:=s2.toks}:=WI.symm;have I3:Inv X pins σ (upd H2 s2.heap.objs.size (.lst [])) s3:=by rw[PF];exact I2.Pz .nil (cU _)
 have ZY:s3.heap.objs.size=s2.heap.objs.size+1:=by rw[PF];exact cS ..
 have ZZ:∀b∈fp,b≠s2.heap.objs.size:=λb hb=>bM (S4 b hb);have f3:∀b∈fp,t9 X pins (upd H2 s2.heap.objs.size (.lst [])) b:=λb hb=>⟨by rw[gz (ZZ b hb)];exact(f2 b hb).1,(f2 b hb).2⟩;have U1:tn 0 s3.heap:=T.keep _ _ _ U0 λb hb o e=>by rw[PF];exact au _ e
 refine wpAny_newFunctionEnv c.cell (by intro y hy;simp at hy) (λh4 YE S5=>?_) c.kind;try dsimp only at YE S5 ⊢
 have k4:∀b o,s3.heap.get? b=aa o->h4.get? b=aa o:=λb o e=>S5.extBut b o (bM (aJ e)) (au _ e);have N3:∀b∈fp,b<s3.heap.objs.size:=λb hb=>by rw[ZY];exact Nat.lt_succ_of_lt (S4 b hb)
 have I4:Inv (zR X scope N s3.heap.objs.size fp pins s3 (upd H2 s2.heap.objs.size (.lst [])) λ_ _=>False) [] (slots fr σ) (upd H2 s2.heap.objs.size (.lst [])) {s3 with heap:=h4,toks:=s3.toks+([]:List (ar×ae)).length}:=I3.block c f3 N3 YE k4;have YF:tn 0 h4:=T.keep _ _ _ U1 λb hb o e=>k4 b o e;have DY:∀{H':Hp},(∀b∈fp,H' b=ak)->∀b∈fp,t9 (zR X scope N s3.heap.objs.size fp pins s3 (upd H2 s2.heap.objs.size (.lst [])) λ_ _=>False) [] H' b:=λ{H'} hn b hb=>by
  obtain⟨g0,g1,g2,g3,g4,g5⟩:=f3 b hb;refine⟨hn b hb,bM (N3 b hb),λz=>?_,.inl hb,λx a e=>g4 x a (I3.N1 c e),λp hp=>?_⟩
  ·rcases ba.mp (I3.rA b z) with z|z
   ·exact g1 z
   ·exact g2 z
  ·rw[bj] at hp;exact g5 p hp
 have loop:∀s5:ag,s5={s3 with heap:=h4,toks:=s3.toks+([]:List (ar×ae)).length}->codeAny (model X.prog X.w) X.A (.compLoop (.ListComp elt [⟨target,iter,ifs,0⟩] scope pos) 0 (.ref it) (.ref s2.heap.objs.size) (compEnvC scope (vh X.env scope.names []) s3.heap.objs.size X.env)) (R (.ref s2.heap.objs.size) s3.heap.objs.size) s5:=by
  rintro s5 rfl
  refine pN (λn s'=>∃i ys iF H',Inv (zR X scope N s3.heap.objs.size fp pins s3 (upd H2 s2.heap.objs.size (.lst [])) λ_ _=>False) [] iF H' s'/\tn i s'.heap/\(∀b∈fp,H' b=ak)/\W i n ys iF H') ?_ m0
   ⟨0,[],slots fr σ,_,I4,YF,λb hb=>(f3 b hb).1,w0⟩
  rintro n s6 ⟨i,ys,RN,H6,I6,YG,YH,w6⟩
  rcases turn i n ys RN H6 w6 with⟨stop,q⟩|⟨go,Nx,hN,step⟩
  ·refine ja (T.done (zR X scope N s3.heap.objs.size fp pins s3 (upd H2 s2.heap.objs.size (.lst [])) λ_ _=>False) rfl rfl rfl yT i [] s6 RN H6 _ I6 (DY YH) YG stop) λr s7 zq=>?_;obtain⟨hr,I7⟩:=zq;subst hr;obtain⟨m7,n7,_⟩:=I7.loc;exact lm _ _ m7 s7 H6 (I3.unblock f3 I7) (I3.GL (bf _) I7.free) n7 q
  ·refine ja (T.item (zR X scope N s3.heap.objs.size fp pins s3 (upd H2 s2.heap.objs.size (.lst [])) λ_ _=>False) rfl rfl rfl yT i [] s6 RN H6 _ I6 (DY YH) YG go) λr s7 zq=>?_;obtain⟨u,hr,h7⟩:=zq;subst hr;refine ja h7 λ_ s8 zq=>?_;obtain⟨x,H8,I8,r8,y8,WJ,Z0⟩:=zq;have Z1:=I8.pinned (DY Z0) (T.obj _ _ WJ);refine bR (hg _ _ _ _ _ _ s8 RN H8 x u _ Z1 r8 (step x H8 y8)) (λ_ s9 ⟨Ve,H9,I9,q9⟩=>?_) λ_ _ z=>bu z;refine bR (ht _ _ _ _ _ _ s9 Ve H9 _ I9 q9) (λb Z2 ⟨Z3,Vf,Vg⟩=>?_) λ_ _ z=>bu z;have again:∀{RP:ag} {Mi:St} {RQ:Hp} {RO:List V},Inv (zR X scope N s3.heap.objs.size fp pins s3 (upd H2 s2.heap.objs.size (.lst [])) λ_ _=>False) ([]++vX fp s8.heap) Mi RQ RP->Nx RO Mi RQ->∃m,m<n/\∃i ys iF H',Inv (zR X scope N s3.heap.objs.size fp pins s3 (upd H2 s2.heap.objs.size (.lst [])) λ_ _=>False) [] iF H' RP/\tn i RP.heap/\(∀b∈fp,H' b=ak)/\W i m ys iF H':=λ{RP Mi RQ RO} PH Z4=>by obtain⟨m',hm,Z5⟩:=hN _ _ _ Z4;refine⟨m',hm,i+1,RO,Mi,RQ,PH.sJ,T.keep _ _ _ WJ λb hb o e=>(PH.pin (b,o) (aY _ (aY _ (oj hb e)))).1,λb hb=>?_,Z5⟩;obtain⟨o,e,d⟩:=T.obj _ _ WJ b hb;exact(PH.pin (b,o) (aY _ (aY _ (oj hb e)))).2.1
   cases b with
   |false=>
    rw[if_neg ap] at Vg ⊢;exact again Vf Vg
   |true=>
    rw[if_pos rfl] at Vg ⊢;refine bR (he _ _ _ _ _ _ Z2 Ve Z3 _ Vf Vg) (λZ6 RP ⟨RR,RQ,PH,WK,WL,WM,Z7⟩=>?_) λ_ _ z=>bu z;refine bR (yQ (X:=zR X scope N s3.heap.objs.size fp pins s3 (upd H2 s2.heap.objs.size (.lst [])) λ_ _=>False) _ RP Ve RQ (.ref s2.heap.objs.size) [RR] (.ref s2.heap.objs.size) [Z6] (λ_ H'=>Nx (ys++[RR]) Ve H') PH rfl (.cons WK .nil) ⟨_,ys,RR,rfl,rfl,WL,WM,Z7⟩) (λ_ s12 ⟨_,H12,Z8,_,Z9⟩=>?_) λ_ _ z=>bu z;exact again Z8 Z9
 exact codeAny_compStart_list (loop _ rfl) (T.self X.A 0 _ _ _ YF (loop _ rfl))
theorem Inv.S6{pins:List (af×bE)}{s:ag}{σ:St}{H:Hp}{C:af}{h':aq}(I:Inv X pins σ H s)(f:t9 X pins H C)(hs:aq.SameBut C s.heap h'):Inv X pins σ H {s with heap:=h'}:=by obtain⟨f0,f1,f2,f3,f4,f5⟩:=f;exact I.turned (t':=s.toks) (λb o hb e=>(hs.2 b hb).trans e) f0 f1 f3 f4 f5
theorem Mj(c:md X N fr scope)(yT:X.calm=ah)(hi:PI X target iter wi)
(hg:∀C ex pins gG gJ,PG (zR X scope N C ex pins gG gJ λ_ _=>False) target g)
(ht:∀C ex pins gG gJ,S0 (zR X scope N C ex pins gG gJ λ_ _=>False) ifs tt)
(he:∀C ex pins gG gJ,PE (zR X scope N C ex pins gG gJ λ_ _=>False) elt te)
(hs:∀x,dk iter X.env x=pure x:=by intro _;rfl):PE X (.ListComp elt [⟨target,iter,ifs,0⟩] scope pos) (Ja fr wi g tt te):=by intro pins s σ H Q I h;rw[eval_ListComp];refine wpAny_comprehension_free (use:=ak) rfl hs (xT (I.NZ c)) c.kind c.loc (G5 (R:=compPost (model X.prog X.w) X.A X.xe ak (EP X pins σ Q)) c yT hi hg ht he I h λp C m s' H' I' f hn q=>?_);exact⟨m,hn,λh' WN=>⟨.ref p,H',I'.S6 f WN,rfl,q⟩⟩
end
noncomputable def YI(x:ar):It:=⟨λi _=>i<x.cps.size,λi H v H'=>H'=H/\∃c,x.cps[i]?=aa c/\v=.str ⟨#[c]⟩,λi _=>x.cps.size<=i⟩
theorem pO{x:ar}:dW x="str_ascii_iterator"\/dW x="str_iterator":=by
 unfold dW;split
 ·exact .inl rfl
 ·exact .inr rfl
theorem Jb{P:ao}{w:aE}{K:W.Frag}{tg:aM}(it:af)(x:ar)(t:gm):Turn P w K tg (YI x) [it] it (λi h=>h.IsStrIter it (dW x) x t i/\i<=x.cps.size) where
 mem:=by simp
 obj:=λi h st b hb=>by
  have e:b=it:=by simpa using hb
  subst e;obtain⟨⟨o,e,c,d⟩,_⟩:=st;exact⟨o,e,λv z=>by rw[d] at z;cases z⟩
 keep:=λi h h' st k=>by obtain⟨⟨o,e,c,d⟩,l⟩:=st;exact⟨⟨o,k it (by simp) o e,c,d⟩,l⟩
 item:=by
  intro X hP hw hK hc i pins s σ H E I hf st hg;subst hP hw hK;obtain⟨f0,f1,f2,f3,f4,f5⟩:=hf it (by simp);have hg:i<x.cps.size:=hg;rcases pO (x:=x) with e|e
  ·rw[e] at st ⊢;have W:=zJ.strAscii (prog:=X.prog) (w:=X.w) (I.ok.hd hc) it x t;refine W.item i s _ _ hg st.1 λv h' tk hv By kk=>?_;obtain⟨c,u,WO,rfl⟩:=hv;have I1:Inv X pins σ H {s with heap:=h',toks:=tk}:=I.turned (λb o hb e=>kk b o (by simpa using hb) e) f0 f1 f3 f4 f5;obtain⟨o,e1,c1,d1⟩:=id By;exact⟨_,rfl,yC (s:={s with heap:=h',toks:=tk}) e1 c1 d1 (by decide) ⟨.str ⟨#[c]⟩,H,I1,⟨u,rfl⟩,⟨rfl,c,WO,rfl⟩,⟨By,hg⟩,λb hb=>(hf b hb).1⟩⟩
  ·rw[e] at st ⊢;have W:=zJ.strWide (prog:=X.prog) (w:=X.w) (I.ok.hd hc) it x t;refine W.item i s _ _ hg st.1 λv h' tk hv By kk=>?_;obtain⟨c,u,WO,rfl⟩:=hv;have I1:Inv X pins σ H {s with heap:=h',toks:=tk}:=I.turned (λb o hb e=>kk b o (by simpa using hb) e) f0 f1 f3 f4 f5;obtain⟨o,e1,c1,d1⟩:=id By;exact⟨_,rfl,yC (s:={s with heap:=h',toks:=tk}) e1 c1 d1 (by decide) ⟨.str ⟨#[c]⟩,H,I1,⟨u,rfl⟩,⟨rfl,c,WO,rfl⟩,⟨By,hg⟩,λb hb=>(hf b hb).1⟩⟩
 done:=by
  intro X hP hw hK hc i pins s σ H E I hf st hg;subst hP hw hK;obtain⟨f0,f1,f2,f3,f4,f5⟩:=hf it (by simp);have hg:x.cps.size<=i:=hg;obtain⟨st,l⟩:=st;have hi:i=x.cps.size:=by omega
  subst hi;rcases pO (x:=x) with e|e
  ·rw[e] at st;exact(zJ.strAscii (prog:=X.prog) (w:=X.w) (I.ok.hd hc) it x t).done s _ _ st λh' tk kk=>⟨rfl,I.turned (λb o hb e=>kk b o (by simpa using hb) e) f0 f1 f3 f4 f5⟩
  ·rw[e] at st;exact(zJ.strWide (prog:=X.prog) (w:=X.w) (I.ok.hd hc) it x t).done s _ _ st λh' tk kk=>⟨rfl,I.turned (λb o hb e=>kk b o (by simpa using hb) e) f0 f1 f3 f4 f5⟩
 self:=λA i s Q E st h=>by
  obtain⟨st,l⟩:=st;rcases pO (x:=x) with e|e
  ·rw[e] at st;exact wpAny_pyIter_striter_ascii st h
  ·rw[e] at st;exact wpAny_pyIter_striter_wide st h
section
variable {X:Cx} {tg:aM}
theorem G6:ol X (compareOp .LtE) (λx y H Q=>∃i j,x=.str i/\y=.str j/\Q (.bl (!decide (j.cps.toList<i.cps.toList))) H):=by intro pins s σ H x y v u Q I rx ry h;obtain⟨i,j,rfl,rfl,q⟩:=h;obtain⟨t,rfl⟩:=rx;obtain⟨t',rfl⟩:=ry;exact P.le_str (ia I q rfl)
theorem PK:Lo X (λx lo hi H Q=>∃z,x=.str z/\z.length<=aH/\Q (.str (Txt.slice z lo hi)) H):=by
 intro pins s σ H x v vl vu lo hi sl Q I rx hs pl pu h;obtain⟨z,rfl,hz,q⟩:=h;obtain⟨t,rfl⟩:=rx;have key:∀(l u:Option (Int×gm)),partValue l=vl->partValue u=vu->l.map (·.1)=lo->u.map (·.1)=hi->wpAny (model X.prog X.w) X.A (eG (.str z t) (.ref sl)) (EP X pins σ Q) X.xe s:=by
  rintro l u rfl rfl rfl rfl
  refine wpAny_getItem_str_slice (l:=l) (u:=u) (st:=ak) hs rfl (post_val_or_str ⟨aT (Txt.slice_le z _ _) hz,λt' k=>⟨.str _,H,I.tok k,⟨_,rfl⟩,q⟩⟩)
 refine⟨"str",_,F.slot_str_getitem.lookup,gi _ _ _,?_⟩;cases pl with
 |none=>
  cases pu with
  |none=>exact key ak ak rfl rfl rfl rfl
  |int j u=>exact key ak (aa (j,u)) rfl rfl rfl rfl
 |int i t2=>
  cases pu with
  |none=>exact key (aa (i,t2)) ak rfl rfl rfl rfl
  |int j u=>exact key (aa (i,t2)) (aa (j,u)) rfl rfl rfl rfl
end
def hW (K:W.Frag)(mg:ar->Option ae)(x:ar)(st:br):Prop:=∃f fd,og K x x st f fd/\mg x=aa (.ref f)
def vG (P:ao)(w:aE)(K:W.Frag)(mg:ar->Option ae)(base:aq)(k:Nat)(x:ar)(ps:List ar)(sp:Sp):Prop:=
 ∃f fd,mg x=aa (.ref f)/\W.keepIn K (.ref f)=ah/\Binds K fd ps []/\iW P w K mg base pF k f fd ps sp
theorem Jc{K:W.Frag}{h:aq}{mg:ar->Option ae}(X:K.In h)(G:h.Ns aZ mg){x:ar}{st:br}{f:af}{oc:ae}{od an:Option af}{uH:Array (Option ae)}{kV doc pm g8 ct:ae}
(a:W.nsIn K aZ x=aa (aa (.ref f)))(l:K.lookup f=aa ⟨oc,od,.func (W.fnOf x x (jf st) (g6 st) (gM st) .none kV doc pm an g8 ct),uH⟩)
(c:W.codeIn K g8 x=ah)(k:W.keepIn K (.ref f)=ah):hW K mg x st:=⟨f,_,Eb l c k,W.mg_of X G a⟩
section
variable {P:ao} {w:aE} {K:W.Frag} {mg:ar->Option ae} {base:aq}
theorem hW.has{x:ar}{st:br}{N ps:List ar}{k:Nat}{sp:Sp}(F:hW K mg x st)(S:gL N ps (gM st))
(hb:∀(kV doc pm:ae) (an:Option af) (g8 ct:ae) (us:List ae),us.length=ps.length->c7 (W.fnOf x x (jf st) (g6 st) (gM st) .none kV doc pm an g8 ct) ⟨us,[]⟩=pure (ps.zip us))
(len:∀vs H Q E,sp vs H Q E->vs.length=ps.length)
(lw:∀(f:af) (g8:ae) (A:ay) (outer:List cz) (s:ag) (H:Hp) (vs:List V) (Q:VK) (E:XK),iG k (A.deeper (cy x (gM st) s.heap.objs.size f g8))->sp vs H Q E->
   ∃t,pH (py pF P w K mg base N x (gM st) f g8 A outer s H E).DV (g6 st) t/\t {nx:=λ_ H'=>Q .non H',rt:=Q} (start N vs) H):vG P w K mg base (k+1) x ps sp:=by obtain⟨f,fd,F,m⟩:=F;exact⟨f,fd,m,F.kp,F.binds hb,F.ok S len (lw f)⟩
theorem vG.mono{j k:Nat}{x:ar}{ps:List ar}{sp:Sp}(h:vG P w K mg base j x ps sp)(Jd:j<=k):vG P w K mg base k x ps sp:=by obtain⟨f,fd,m,kp,b,F⟩:=h;exact⟨f,fd,m,kp,b,F.mono Jd⟩
end
section
variable {X:Cx} {k:Nat} {x:ar} {ps:List ar} {sp:Sp} {p pos:cu} {e:aM} {es:List aM} {t:TA}
theorem S7(h:vG X.prog X.w X.K X.mg X.base k x ps sp)(hr:iG k X.A)(ha:PA X (e::es) t)(hg:Gl X x:=by rfl)(ni:(x==("__debug__":ar))=ai:=by decide)
(he:av (e::es) X.env=(ai,eval e X.env)::av es X.env:=by rfl)(kC:(bN pos (av es X.env)).any (·.1)=ai:=by rfl):
  PE X (.Call (.Name x p) (e::es) [] pos) (NW sp [] E0 t):=by obtain⟨f,fd,m,kp,b,F⟩:=h;exact LU F hr hg m kp b .nil yS ha ni he kC
end
theorem wb{H:Hp}{p:af}{o:HO}(h:H p=ak):jc H (upd H p o):=λb u e=>by rw[gz (jn e h)];exact e
section
variable {P:ao} {w:aE} {K:W.Frag} {mg:ar->Option ae} {base:aq}
theorem hW.hasB{x:ar}{st:br}{N ps:List ar}{k:Nat}{sp:Sp}{body:List br}{scope:bJ}(F:hW K mg x st)(eb:g6 st=body)(es:gM st=scope)(S:gL N ps scope)
(hb:∀(kV doc pm:ae) (an:Option af) (g8 ct:ae) (us:List ae),us.length=ps.length->c7 (W.fnOf x x (jf st) (g6 st) (gM st) .none kV doc pm an g8 ct) ⟨us,[]⟩=pure (ps.zip us))
(len:∀vs H Q E,sp vs H Q E->vs.length=ps.length)
(lw:∀(f:af) (g8:ae) (A:ay) (outer:List cz) (s:ag) (H:Hp) (vs:List V) (Q:VK) (E:XK),iG k (A.deeper (cy x scope s.heap.objs.size f g8))->sp vs H Q E->
   ∃t,pH (py pF P w K mg base N x scope f g8 A outer s H E).DV body t/\t {nx:=λ_ H'=>Q .non H',rt:=Q} (start N vs) H):vG P w K mg base (k+1) x ps sp:=by subst eb es;exact F.has S hb len lw
end
structure QE(X:Cx)(e:aM)(t:TE):Prop where p:PE X e t
structure QT(X:Cx)(e:aM)(t:TT):Prop where p:PT X e t
structure QW(X:Cx)(e:aM)(t:TT):Prop where p:PW X e t
structure QA(X:Cx)(es:List aM)(t:TA):Prop where p:PA X es t
structure QS(X:Cx)(st:br)(t:TS):Prop where p:PS X st t
structure QB(X:Cx)(st:List br)(t:TS):Prop where p:pH X st t
structure QG(X:Cx)(tg:aM)(g:TG):Prop where p:PG X tg g
structure QGs(X:Cx)(tg:List aM)(g:Lm):Prop where p:Ip X tg g
structure QI(X:Cx)(tg iter:aM)(wi:TI):Prop where p:PI X tg iter wi
structure QF(X:Cx)(ifs:List aM)(t:TT):Prop where p:S0 X ifs t
structure QO(X:Cx)(e:Option aM)(t:TO):Prop where p:PO X e t
structure ROp(X:Cx)(op:ee)(r:R2):Prop where p:ol X (binaryOp op) r
structure aab(X:Cx)(op:eI)(r:R2):Prop where p:ol X (compareOp op) r
structure RUn(X:Cx)(op:UnaryOp)(r:V->Hp->VK->Prop):Prop where p:U2 X (unaryOp op) r
structure RB(X:Cx)(id:String)(r:List V->Hp->VK->Prop):Prop where p:pJ X (.builtin id) r
structure RTy(X:Cx)(T:String)(r:List V->Hp->VK->Prop):Prop where p:pJ X (.type T) r
structure RIx(X:Cx)(r:R2):Prop where p:Pp X r
structure RSl(X:Cx)(r:V->Option Int->Option Int->Hp->VK->Prop):Prop where p:Lo X r
structure RMt(X:Cx)(id:String)(r:V->List V->Hp->VK->Prop):Prop where p:Wk X id r
section
variable {X:Cx} {a b c e:aM} {es rest:List aM} {ta tb tc te:TE} {t u:TS} {tA Il:TT} {tt:TA} {pos p p2 p3:cu} {x:ar}
end
section
variable {P:ao} {w:aE} {K:W.Frag} {mg:ar->Option ae} {base:aq}
theorem hW.S8{x:ar}{st:br}{N ps:List ar}{k:Nat}{sp:Sp}{body:List br}{scope:bJ}(F:hW K mg x st)(eb:g6 st=body)(es:gM st=scope)(S:gL N ps scope)
(hb:∀(kV doc pm:ae) (an:Option af) (g8 ct:ae) (us:List ae),us.length=ps.length->c7 (W.fnOf x x (jf st) (g6 st) (gM st) .none kV doc pm an g8 ct) ⟨us,[]⟩=pure (ps.zip us))
(len:∀vs H Q E,sp vs H Q E->vs.length=ps.length)
(lw:∀(f:af) (g8:ae) (A:ay) (outer:List cz) (s:ag) (H:Hp) (vs:List V) (Q:VK) (E:XK),iG k (A.deeper (cy x scope s.heap.objs.size f g8))->sp vs H Q E->
   ∃t,QB (py pF P w K mg base N x scope f g8 A outer s H E).DV body t/\t {nx:=λ_ H'=>Q .non H',rt:=Q} (start N vs) H):vG P w K mg base (k+1) x ps sp:=
 F.hasB eb es S hb len λf g8 A outer s H vs Q E hr h=>let⟨t,q,z⟩:=lw f g8 A outer s H vs Q E hr h;⟨t,q.p,z⟩
theorem og.PL{x y:ar}{st:br}{f:af}{fd:bz}(F:og K x x st f fd)
(h:∀(kV doc pm:ae) (an:Option af) (g8 ct:ae) (u:ae),c7 (W.fnOf x x (jf st) (g6 st) (gM st) .none kV doc pm an g8 ct) ⟨[u],[]⟩=pure [(y,u)]):∀(s:ag) (v:ae),eo s fd ⟨[v],[]⟩ [(y,v)]:=by obtain⟨oc,od,kV,doc,pm,an,g8,ct,uH,rfl,lk,pE⟩:=F.ex;exactλs v=>.of_eq (h kV doc pm an g8 ct v)
end
open PySem.W
noncomputable def BL(c:af)(q:ar):HO:=.ext λh=>h.CodeRec (.ref c) q
structure N4(q:ar)(H:Hp)(ps:Array ae):Prop where
 ok:TriplesOk ps.toList
 cs:∀pos v,codeAmong pos ps.toList=aa v->∃c,v=.ref c/\H c=aa (BL c q)
def N5 (P:af)(q:ar)(H H':Hp):Prop:=(∃ps,H' P=aa (.DR ps)/\N4 q H' ps)/\(H'=H\/∃c ps,H c=ak/\c≠P/\H'=upd (upd H c (BL c q)) P (.DR ps))
end L2
namespace L3
open PySem PySem.Spec PyProof.Rows L2
@[reducible] def qw:Option HO->Option HO
 |some (.DR _)=>ak
 |some (.ext _)=>ak
 |o=>o
theorem Je{x:Option HO}{o:HO}(h:qw x=aa o):x=aa o/\qw (aa o)=aa o:=by
 cases x with
 |none=>cases h
 |some y=>cases y<;>first|(cases h;done)|(cases h;exact⟨rfl,rfl⟩)
theorem wc{x:Option HO}(h:qw x≠ak):x≠ak:=λz=>h (by rw[z])
noncomputable def S9:List ar:=["by_name"]
noncomputable def Ta(x:ar):ar:=x++".<locals>."++"<lambda>"
def Tb (K:W.Frag)(H:Hp):Prop:=∀x∈S9,∀c P,W.tabIn K x=aa (c,P)->∃ps,H P=aa (.DR ps)/\N4 (Ta x) H ps
theorem Tb.imp{K:W.Frag}{H H':Hp}(t:Tb K H)(h:∀b o,H b=aa o->qw (aa o)=ak->H' b=aa o):Tb K H':=λx hx c P e=>by obtain⟨ps,h1,h2,h3⟩:=t x hx c P e;refine⟨ps,h _ _ h1 rfl,h2,λpos v hv=>?_⟩;obtain⟨c',e1,e2⟩:=h3 pos v hv;exact⟨c',e1,h _ _ e2 rfl⟩
theorem Tb.same{K:W.Frag}{H H':Hp}(t:Tb K H)(h:jc H H'):Tb K H':=t.imp λb o e _=>h b o e
theorem Tb.upd{K:W.Frag}{H:Hp}{p:af}{x:HO}(t:Tb K H)(h:qw (H p)≠ak\/H p=ak):Tb K (upd H p x):=t.imp λb o e v=>by
 rw[gz λz=>?_]
 ·exact e
 ·subst z;rcases h with h|h
  ·rw[e] at h;exact h v
  ·rw[h] at e;cases e
inductive D where
 |non|bl (b:Bool)|int (i:Int)|str (x:ar)|ty (n:String)
 |tup (ds:List D)|lst (ds:List D)|kY (ks:List Key) (ds:List D)
 |ins (C:af) (ns:List ar) (ds:List D)|pd (ns:List Int)|loc (k:Nat)|cls (C:af)|exc (C:af) (ns:List ar) (ds:List D)
inductive OD where
 |lst (ds:List D)|kY (ks:List Key) (ds:List D)|ins (C:af) (ns:List ar) (ds:List D)|fz (k ep:Nat) (ks:List Key) (ds:List D)
abbrev Ms:=List (Option OD)
mutual
def Rep (K:W.Frag) (α:List af) (H:Hp):D->V->Prop
 |.non,v=>v=.non
 |.bl b,v=>v=.bl b
 |.int i,v=>v=.int i
 |.str x,v=>v=.str x
 |.ty n,v=>v=.ty n
 |.tup ds,v=>∃a vs,v=.ref a/\vD K H a vs/\gu K α H ds vs
 |.lst ds,v=>∃a vs,v=.ref a/\H a=aa (.lst vs)/\gu K α H ds vs
 |.pd ns,v=>∃a,v=.ref a/\oa K H a (ns.map V.int)
 |.kY ks ds,v=>∃a vs,v=.ref a/\Rd H a (.dK (ks.zip vs))/\ks.length=ds.length/\gu K α H ds vs
 |.ins C ns ds,v=>∃a dx vs,v=.ref a/\H a=aa (.ins C dx (ns.zip vs))/\ns.length=ds.length/\gu K α H ds vs
 |.loc k,v=>∃a,α[k]?=aa a/\v=.ref a
 |.cls C,v=>v=.ref C
 |.exc C ns ds,v=>∃a vs,v=.ref a/\H a=aa (.xc C (ns.zip vs))/\ns.length=ds.length/\gu K α H ds vs
def gu (K:W.Frag) (α:List af) (H:Hp):List D->List V->Prop
 |[],vs=>vs=[]
 |d::ds,vs=>∃v r,vs=v::r/\Rep K α H d v/\gu K α H ds r
end
theorem nI{K:W.Frag}{H H':Hp}{a:af}{xs:List V}(e:jc H H')(h:vD K H a xs):vD K H' a xs:=by
 rcases h with(h|⟨o,h⟩)|h
 ·exact .inl (.inl (e _ _ h))
 ·exact .inl (.inr ⟨o,e _ _ h⟩)
 ·exact .inr h
theorem jU{K:W.Frag}{H H':Hp}{a:af}{xs:List V}(e:jc H H')(h:oa K H a xs):oa K H' a xs:=by
 rcases h with(h|⟨o,h⟩)|h
 ·exact .inl (.inl (e _ _ h))
 ·exact .inl (.inr ⟨o,e _ _ h⟩)
 ·exact .inr h
theorem zT{H H':Hp}{a:af}{u:HO}(e:jc H H')(h:Rd H a u):Rd H' a u:=by
 rcases h with h|⟨o,h⟩
 ·exact .inl (e _ _ h)
 ·exact .inr ⟨o,e _ _ h⟩
theorem zU{α β:List af}(p:α <+: β){k:Nat}{a:af}(h:α[k]?=aa a):β[k]?=aa a:=by obtain⟨t,rfl⟩:=p;have:=(aC.mp h).1;rw[bb this];exact h
mutual
theorem Rep.mono {K:W.Frag} {α β:List af} {H H':Hp} (p:α <+: β) (e:jc H H'):∀(d:D) (v:V),Rep K α H d v->Rep K β H' d v
 |.non,v,h=>by unfold Rep at h ⊢;exact h
 |.bl _,v,h=>by unfold Rep at h ⊢;exact h
 |.int _,v,h=>by unfold Rep at h ⊢;exact h
 |.str _,v,h=>by unfold Rep at h ⊢;exact h
 |.ty _,v,h=>by unfold Rep at h ⊢;exact h
 |.tup ds,v,h=>by unfold Rep at h ⊢;obtain⟨a,vs,r,q,z⟩:=h;exact⟨a,vs,r,nI e q,gu.mono p e ds vs z⟩
 |.lst ds,v,h=>by unfold Rep at h ⊢;obtain⟨a,vs,r,q,z⟩:=h;exact⟨a,vs,r,e _ _ q,gu.mono p e ds vs z⟩
 |.pd ns,v,h=>by unfold Rep at h ⊢;obtain⟨a,r,q⟩:=h;exact⟨a,r,jU e q⟩
 |.kY ks ds,v,h=>by unfold Rep at h ⊢;obtain⟨a,vs,r,q,l,z⟩:=h;exact⟨a,vs,r,zT e q,l,gu.mono p e ds vs z⟩
 |.ins C ns ds,v,h=>by unfold Rep at h ⊢;obtain⟨a,dx,vs,r,q,l,z⟩:=h;exact⟨a,dx,vs,r,e _ _ q,l,gu.mono p e ds vs z⟩
 |.exc C ns ds,v,h=>by unfold Rep at h ⊢;obtain⟨a,vs,r,q,l,z⟩:=h;exact⟨a,vs,r,e _ _ q,l,gu.mono p e ds vs z⟩
 |.loc k,v,h=>by unfold Rep at h ⊢;obtain⟨a,r,q⟩:=h;exact⟨a,zU p r,q⟩
 |.cls _,v,h=>by unfold Rep at h ⊢;exact h
theorem gu.mono {K:W.Frag} {α β:List af} {H H':Hp} (p:α <+: β) (e:jc H H'):∀(ds:List D) (vs:List V),gu K α H ds vs->gu K β H' ds vs
 |[],vs,h=>by unfold gu at h ⊢;exact h
 |d::ds,vs,h=>by unfold gu at h ⊢;obtain⟨v,r,q,z,y⟩:=h;exact⟨v,r,q,Rep.mono p e d v z,gu.mono p e ds r y⟩
end
section
variable {K:W.Frag} {α:List af} {H:Hp}
theorem gu.length:∀(ds:List D) (vs:List V),gu K α H ds vs->ds.length=vs.length
 |[],vs,h=>by unfold gu at h;rw[h];rfl
 |d::ds,vs,h=>by unfold gu at h;obtain⟨v,r,rfl,_,y⟩:=h;rw[ax,ax,gu.length ds r y]
theorem gu.get:∀(ds:List D) (vs:List V) (i:Nat) (d:D),gu K α H ds vs->ds[i]?=aa d->∃v,vs[i]?=aa v/\Rep K α H d v
 |[],vs,i,d,h,e=>by simp at e
 |x::ds,vs,0,d,h,e=>by unfold gu at h;obtain⟨v,r,rfl,z,_⟩:=h;simp at e;subst e;exact⟨v,rfl,z⟩
 |x::ds,vs,i+1,d,h,e=>by unfold gu at h;obtain⟨v,r,rfl,_,y⟩:=h;obtain⟨u,h1,h2⟩:=gu.get ds r i d y (by simpa using e);exact⟨u,by simpa using h1,h2⟩
theorem gu.get':∀(ds:List D) (vs:List V) (i:Nat) (v:V),gu K α H ds vs->vs[i]?=aa v->∃d,ds[i]?=aa d/\Rep K α H d v
 |[],vs,i,d,h,e=>by unfold gu at h;subst h;simp at e
 |x::ds,vs,0,d,h,e=>by unfold gu at h;obtain⟨v,r,rfl,z,_⟩:=h;simp at e;subst e;exact⟨x,rfl,z⟩
 |x::ds,vs,i+1,d,h,e=>by unfold gu at h;obtain⟨v,r,rfl,_,y⟩:=h;obtain⟨u,h1,h2⟩:=gu.get' ds r i d y (by simpa using e);exact⟨u,by simpa using h1,h2⟩
theorem gu.append:∀(ds es:List D) (vs us:List V),gu K α H ds vs->gu K α H es us->gu K α H (ds++es) (vs++us)
 |[],es,vs,us,h,g=>by unfold gu at h;subst h;exact g
 |d::ds,es,vs,us,h,g=>by unfold gu at h;obtain⟨v,r,rfl,z,y⟩:=h;show gu K α H (d::(ds++es)) (v::(r++us));unfold gu;exact⟨v,_,rfl,z,gu.append ds es r us y g⟩
theorem gu.nil:gu K α H [] []:=by unfold gu;rfl
theorem gu.cons{d:D}{v:V}{ds:List D}{vs:List V}(q:Rep K α H d v)(h:gu K α H ds vs):gu K α H (d::ds) (v::vs):=by unfold gu;exact⟨v,vs,rfl,q,h⟩
theorem gu.one{d:D}{v:V}(q:Rep K α H d v):gu K α H [d] [v]:=gu.cons q gu.nil
theorem gu.take:∀(n:Nat) (ds:List D) (vs:List V),gu K α H ds vs->gu K α H (ds.take n) (vs.take n)
 |0,ds,vs,h=>by simpa using gu.nil
 |n+1,[],vs,h=>by unfold gu at h;subst h;simpa using gu.nil
 |n+1,d::ds,vs,h=>by unfold gu at h;obtain⟨v,r,rfl,z,y⟩:=h;rw[List.take_succ_cons,List.take_succ_cons];exact gu.cons z (gu.take n ds r y)
theorem gu.drop:∀(n:Nat) (ds:List D) (vs:List V),gu K α H ds vs->gu K α H (ds.drop n) (vs.drop n)
 |0,ds,vs,h=>h
 |n+1,[],vs,h=>by unfold gu at h;subst h;simpa using gu.nil
 |n+1,d::ds,vs,h=>by unfold gu at h;obtain⟨v,r,rfl,z,y⟩:=h;rw[List.drop_succ_cons,List.drop_succ_cons];exact gu.drop n ds r y
theorem gu.set{d:D}{v:V}(q:Rep K α H d v):∀(i:Nat) (ds:List D) (vs:List V),gu K α H ds vs->gu K α H (ds.set i d) (vs.set i v)
 |i,[],vs,h=>by unfold gu at h;subst h;simpa using gu.nil
 |0,x::ds,vs,h=>by unfold gu at h;obtain⟨u,r,rfl,z,y⟩:=h;exact gu.cons q y
 |i+1,x::ds,vs,h=>by unfold gu at h;obtain⟨u,r,rfl,z,y⟩:=h;exact gu.cons z (gu.set q i ds r y)
theorem gu.of_map{β:Type}(f:β->D)(g:β->V)(h:∀a,Rep K α H (f a) (g a)):∀l:List β,gu K α H (l.map f) (l.map g)
 |[]=>gu.nil
 |a::l=>gu.cons (h a) (gu.of_map f g h l)
theorem gu.rep{ds:List D}{vs:List V}(h:gu K α H ds vs):∀k:Nat,gu K α H (aU k ds).flatten (aU k vs).flatten
 |0=>gu.nil
 |k+1=>by rw[cf,cf,cx,cx];exact gu.append _ _ _ _ h (gu.rep h k)
theorem gu.at{ds:List D}{vs:List V}{i:Int}{d:D}(h:gu K α H ds vs)(e:sF ds i=aa d):∃v,sF vs i=aa v/\Rep K α H d v:=by
 unfold sF at e ⊢;rw[<-gu.length _ _ h];cases q:BH ds.length i with
 |none=>rw[q] at e;cases e
 |some j=>
  rw[q] at e;exact gu.get ds vs j d h e
theorem iA{i:Int}:Rep K α H (.int i) (.int i):=by unfold Rep;rfl
theorem jd{i:Bool}:Rep K α H (.bl i) (.bl i):=by unfold Rep;rfl
theorem mR{i:ar}:Rep K α H (.str i) (.str i):=by unfold Rep;rfl
theorem Ml{C:af}:Rep K α H (.cls C) (.ref C):=by unfold Rep;rfl
theorem lX:Rep K α H .non .non:=by unfold Rep;rfl
end
noncomputable def jg(A:List af)(H:Hp):Hp:=λb=>if b∈A then ak else qw (H b)
theorem jz{A:List af}{H:Hp}{p:af}(h:p∉A):jg A H p=qw (H p):=by unfold jg;rw[if_neg h]
theorem lY{A:List af}{H:Hp}{p:af}(h:p∈A):jg A H p=ak:=by unfold jg;rw[if_pos h]
theorem nJ{A:List af}{H:Hp}{p:af}{o:HO}(h:jg A H p=aa o):p∉A/\H p=aa o/\qw (aa o)=aa o:=by
 by_cases z:p∈A
 ·rw[lY z] at h;cases h
 ·rw[jz z] at h;exact⟨z,Je h⟩
theorem ig{A:List af}{H:Hp}{p:af}{o:HO}(h:jg A H p=aa o):p∉A/\H p=aa o:=⟨(nJ h).1,(nJ h).2.1⟩
theorem gX{A:List af}{H:Hp}:jc (jg A H) H:=λb o e=>(ig e).2
theorem jK{A:List af}{H:Hp}{p:af}{o:HO}(h:p∉A)(e:H p=aa o)(v:qw (aa o)=aa o):jg A H p=aa o:=by rw[jz h,e];exact v
theorem kb{A B:List af}{H H':Hp}{b:af}{o:HO}(h:jg A H b=aa o)(hb:b∉B)(e:H' b=aa o):jg B H' b=aa o:=jK hb e (nJ h).2.2
theorem yU{A:List af}{H H':Hp}(h:jc H H'):jc (jg A H) (jg A H'):=λb o e=>kb e (ig e).1 (h b o (ig e).2)
noncomputable def lv:List af->Ms->List af
 |a::α,aa _::M=>a::lv α M
 |_::α,ak::M=>lv α M
 |_,_=>[]
theorem ow:∀{α:List af} {M:Ms} {a:af},a∈lv α M↔∃(k:Nat) (o:OD),α[k]?=aa a/\M[k]?=aa (aa o)
 |[],M,a=>by cases M<;>simp[lv]
 |b::α,[],a=>by simp[lv]
 |b::α,aa x::M,a=>by
  simp only [lv,ba,ow];constructor
  ·rintro(rfl|⟨k,o,h1,h2⟩)
   ·exact⟨0,x,rfl,rfl⟩
   ·exact⟨k+1,o,by simpa using h1,by simpa using h2⟩
  ·rintro⟨k,o,h1,h2⟩
   cases k with
   |zero=>left;simpa using h1.symm
   |succ k=>right;exact⟨k,o,by simpa using h1,by simpa using h2⟩
 |b::α,ak::M,a=>by
  simp only [lv,ow];constructor
  ·rintro⟨k,o,h1,h2⟩
   exact⟨k+1,o,by simpa using h1,by simpa using h2⟩
  ·rintro⟨k,o,h1,h2⟩
   cases k with
   |zero=>simp at h2
   |succ k=>exact⟨k,o,by simpa using h1,by simpa using h2⟩
abbrev iS(F α:List af)(M:Ms)(H:Hp):Hp:=jg (lv α M++F) H
def vi (K:W.Frag)(α:List af)(Hh H:Hp):OD->af->Prop
 |.lst ds,a=>∃vs,H a=aa (.lst vs)/\gu K α Hh ds vs
 |.kY ks ds,a=>∃vs,H a=aa (.dK (ks.zip vs))/\ks.length=ds.length/\gu K α Hh ds vs
 |.ins C ns ds,a=>∃dx vs,H a=aa (.ins C dx (ns.zip vs))/\ns.length=ds.length/\gu K α Hh ds vs
 |.fz k ep ks ds,a=>α[k]?=aa a/\∃vs,H a=aa (.dE ep (ks.zip vs))/\ks.length=ds.length/\gu K α Hh ds vs
structure OK(K:W.Frag)(F α:List af)(H:Hp)(M:Ms):Prop where
 ml:α.length=M.length
 nd:α.Nodup
 fr:∀a∈F,a∉α/\qw (H a)≠ak
 al:∀a∈α,qw (H a)≠ak
 own:∀(k:Nat) o,M[k]?=aa (aa o)->∃a,α[k]?=aa a/\vi K α (iS F α M H) H o a
 tb:Tb K H
structure Ext(F α:List af)(H:Hp)(M:Ms)(gS:List af)(H':Hp)(M':Ms):Prop where
 pre:α <+: gS
 same:jc (iS F α M H) (iS F gS M' H')
 fr:∀a∈F,H' a=H a
abbrev kZ:=List (Option D)
structure R(K:W.Frag)(F α:List af)(H:Hp)(σ:L2.St)(δ:kZ)(M:Ms):Prop where
 ok:OK K F α H M
 len:σ.length=δ.length
 sl:∀(i:Nat) d,δ[i]?=aa (aa d)->∃v,σ[i]?=aa (aa v)/\Rep K α (iS F α M H) d v
section
variable {K:W.Frag} {F α gS Jf:List af} {H H' RT:Hp} {M M' uL:Ms} {σ:L2.St} {δ:kZ}
theorem Ext.refl:Ext F α H M α H M:=⟨aQ _,jc.refl _,λ_ _=>rfl⟩
theorem Ext.trans(e:Ext F α H M gS H' M')(e':Ext F gS H' M' Jf RT uL):Ext F α H M Jf RT uL:=
 ⟨e.pre.trans e'.pre,e.same.trans e'.same,λa h=>(e'.fr a h).trans (e.fr a h)⟩
theorem Ext.rep(e:Ext F α H M gS H' M'){d:D}{v:V}(h:Rep K α (iS F α M H) d v):Rep K gS (iS F gS M' H') d v:=Rep.mono e.pre e.same d v h
theorem Ext.wd(e:Ext F α H M gS H' M'){d:List D}{v:List V}(h:gu K α (iS F α M H) d v):gu K gS (iS F gS M' H') d v:=gu.mono e.pre e.same d v h
theorem R.grow(r:R K F α H σ δ M)(e:Ext F α H M gS H' M')(o:OK K F gS H' M'):R K F gS H' σ δ M':=
 ⟨o,r.len,λi d q=>by obtain⟨v,h1,h2⟩:=r.sl i d q;exact⟨v,h1,e.rep h2⟩⟩
theorem OK.live(o:OK K F α H M):∀a∈lv α M,H a≠ak:=λa ha=>by
 obtain⟨k,x,h1,h2⟩:=ow.mp ha;obtain⟨b,e,r⟩:=o.own k x h2;rw[h1] at e;cases e;cases x with
 |lst ds=>obtain⟨vs,e,_⟩:=r;rw[e];exactλz=>by cases z
 |kY ks ds=>obtain⟨vs,e,_⟩:=r;rw[e];exactλz=>by cases z
 |ins C ns ds=>obtain⟨dx,vs,e,_⟩:=r;rw[e];exactλz=>by cases z
 |fz k ep ks ds=>obtain⟨_,vs,e,_⟩:=r;rw[e];exactλz=>by cases z
theorem OK.new(o:OK K F α H M){p:af}(h:H p=ak):p∉lv α M++F:=λz=>by
 rcases bi.mp z with z|z
 ·exact o.live p z h
 ·exact(o.fr p z).2 (by rw[h])
theorem vi.qw{Hh:Hp}{x:OD}{a:af}(r:vi K α Hh H x a):qw (H a)≠ak:=by
 cases x with
 |lst ds=>obtain⟨vs,e,_⟩:=r;rw[e];exactλz=>by cases z
 |kY ks ds=>obtain⟨vs,e,_⟩:=r;rw[e];exactλz=>by cases z
 |ins C ns ds=>obtain⟨dx,vs,e,_⟩:=r;rw[e];exactλz=>by cases z
 |fz k ep ks ds=>obtain⟨_,vs,e,_⟩:=r;rw[e];exactλz=>by cases z
theorem vi.some{Hh:Hp}{x:OD}{a:af}(r:vi K α Hh H x a):H a≠ak:=by
 cases x with
 |lst ds=>obtain⟨vs,e,_⟩:=r;rw[e];exactλz=>by cases z
 |kY ks ds=>obtain⟨vs,e,_⟩:=r;rw[e];exactλz=>by cases z
 |ins C ns ds=>obtain⟨dx,vs,e,_⟩:=r;rw[e];exactλz=>by cases z
 |fz k ep ks ds=>obtain⟨_,vs,e,_⟩:=r;rw[e];exactλz=>by cases z
theorem OK.N6(o:OK K F α H M):∀a∈lv α M,qw (H a)≠ak:=λa ha=>by obtain⟨k,x,h1,h2⟩:=ow.mp ha;obtain⟨b,e,r⟩:=o.own k x h2;rw[h1] at e;cases e;exact r.qw
theorem vi.mono{Hh YJ:Hp}(p:α <+: gS)(e:jc Hh YJ){o:OD}{a:af}(ha:H' a=H a)(h:vi K α Hh H o a):vi K gS YJ H' o a:=by
 cases o with
 |lst ds=>obtain⟨vs,q,r⟩:=h;exact⟨vs,by rw[ha];exact q,gu.mono p e _ _ r⟩
 |kY ks ds=>obtain⟨vs,q,l,r⟩:=h;exact⟨vs,by rw[ha];exact q,l,gu.mono p e _ _ r⟩
 |ins C ns ds=>obtain⟨dx,vs,q,l,r⟩:=h;exact⟨dx,vs,by rw[ha];exact q,l,gu.mono p e _ _ r⟩
 |fz k ep ks ds=>
  obtain⟨g,vs,q,l,r⟩:=h;exact⟨by obtain⟨β,rfl⟩:=p;rw[bb (aC.mp g).1];exact g,vs,by rw[ha];exact q,l,gu.mono p e _ _ r⟩
theorem OK.grow(o:OK K F α H M)(s:jc H H'):OK K F α H' M/\Ext F α H M α H' M:=by
 have oi:∀a,H a≠ak->H' a=H a:=λa h=>by
  cases e:H a with
  |none=>exact absurd e h
  |some x=>exact s a x e
 refine⟨⟨o.ml,o.nd,λa ha=>⟨(o.fr a ha).1,by rw[oi a (wc (o.fr a ha).2)];exact(o.fr a ha).2⟩,λa ha=>by rw[oi a (wc (o.al a ha))];exact o.al a ha,λk x h=>?_,o.tb.same s⟩,⟨aQ _,(yU s),λa ha=>oi a (wc (o.fr a ha).2)⟩⟩;obtain⟨a,e,r⟩:=o.own k x h;exact⟨a,e,r.mono (aQ _) (yU s) (oi a (o.live a (ow.mpr ⟨k,x,e,h⟩)))⟩
theorem OK.laid(o:OK K F α H M){p:af}{x:HO}(h:H p=ak):OK K F α (upd H p x) M/\Ext F α H M α (upd H p x) M:=o.grow (wb h)
theorem qx:∀{α β:List af} {M N:Ms},α.length=M.length->lv (α++β) (M++N)=lv α M++lv β N
 |[],β,[],N,_=>by simp[lv]
 |a::α,β,aa x::M,N,h=>by have:=qx (β:=β) (N:=N) (show α.length=M.length by simpa using h);simp[lv,this]
 |a::α,β,ak::M,N,h=>by have:=qx (β:=β) (N:=N) (show α.length=M.length by simpa using h);simp[lv,this]
theorem OK.wg(o:OK K F α H M){p:af}{x:OD}(h:H p=ak)(s:jc H H'):jc (iS F α M H) (iS F (α++[p]) (M++[aa x]) H'):=λb y q=>by
 have hl:lv (α++[p]) (M++[aa x])=lv α M++[p]:=by rw[qx o.ml];rfl
 have q0:=q;obtain⟨z,q⟩:=ig q;have hb:b≠p:=λz=>by rw[z,h] at q;cases q
 show jg _ H' b=_;rw[hl];refine kb q0 (λw=>?_) (s b y q)
 ·simp only [bi,bv] at w z;rcases w with(w|w)|w
  ·exact z (.inl w)
  ·exact hb w
  ·exact z (.inr w)
theorem OK.enter(o:OK K F α H M){p:af}{x:OD}(h:H p=ak)(s:jc H H')(r:vi K (α++[p]) (iS F (α++[p]) (M++[aa x]) H') H' x p):
  OK K F (α++[p]) H' (M++[aa x])/\Ext F α H M (α++[p]) H' (M++[aa x]):=by
 have hp:p∉α:=λz=>o.al p z (by rw[h]);obtain⟨o',e'⟩:=o.grow s;have sm:=o.wg (x:=x) h s;have pf:p∉F:=λz=>(o.fr p z).2 (by rw[h]);refine⟨⟨by simp[o.ml],by rw[List.nodup_append];exact⟨o.nd,by simp,λa ha b hb=>by simp at hb;subst hb;exactλz=>hp (z▸ha)⟩,λa ha=>⟨λz=>?_,(o'.fr a ha).2⟩,λa ha=>?_,λk y hk=>?_,o'.tb⟩,⟨bY _ _,sm,e'.fr⟩⟩
 ·rcases bi.mp z with z|z
  ·exact(o.fr a ha).1 z
  ·simp at z;subst z;exact pf ha
 ·rcases bi.mp ha with z|z
  ·exact o'.al a z
  ·simp at z;subst z;exact r.qw
 ·by_cases RU:k<M.length
  ·rw[bb RU] at hk;obtain⟨a,ea,ra⟩:=o.own k y hk;refine⟨a,by rw[bb (by rw[o.ml];exact RU)];exact ea,ra.mono (bY _ _) sm ?_⟩;cases e:H a with
   |none=>exact absurd e (o.live a (ow.mpr ⟨k,y,ea,hk⟩))
   |some z=>exact s a z e
  ·have:k=M.length:=by have:=(aC.mp hk).1;simp at this;omega
   subst this;simp at hk;subst hk;exact⟨p,by rw[<-o.ml];simp,r⟩
theorem Ec:∀{α:List af} {M:Ms} {k:Nat} {x y:OD},M[k]?=aa (aa x)->lv α (M.set k (aa y))=lv α M
 |[],M,k,x,y,h=>by cases M<;>cases k<;>simp[lv]
 |a::α,[],k,x,y,h=>by simp at h
 |a::α,aa z::M,0,x,y,h=>by simp[lv]
 |a::α,ak::M,0,x,y,h=>by simp at h
 |a::α,aa z::M,k+1,x,y,h=>by simp only [dG,lv];rw[Ec (by simpa using h)]
 |a::α,ak::M,k+1,x,y,h=>by simp only [dG,lv];exact Ec (by simpa using h)
theorem OK.write(o:OK K F α H M){k:Nat}{x y:OD}{a:af}{z:HO}(hk:M[k]?=aa (aa x))(ha:α[k]?=aa a)(r:∀Hh,Hh=iS F α M H->vi K α Hh (upd H a z) y a):
  OK K F α (upd H a z) (M.set k (aa y))/\Ext F α H M α (upd H a z) (M.set k (aa y)):=by
 have hl:lv α (M.set k (aa y))=lv α M:=Ec hk;have hm:a∈lv α M:=ow.mpr ⟨k,x,ha,hk⟩;have eh:iS F α (M.set k (aa y)) (upd H a z)=iS F α M H:=by
  funext b;show jg _ _ b=jg _ _ b;rw[hl];by_cases hb:b∈lv α M++F
  ·rw[lY hb,lY hb]
  ·rw[jz hb,jz hb,gz (λe=>hb (by rw[e];exact bC _ hm))]
 have aF:a∉F:=λw=>(o.fr a w).1 (bT ha);refine⟨⟨by simp[o.ml],o.nd,λb hb=>⟨(o.fr b hb).1,by rw[gz (λe=>aF (by rw[<-e];exact hb))];exact(o.fr b hb).2⟩,λb hb=>(by
  by_cases e:b=a
  ·subst e;exact(r _ rfl).qw
  ·rw[gz e];exact o.al b hb),λj w hj=>?_,o.tb.upd (.inl (o.al a (bT ha)))⟩,⟨aQ _,by rw[eh];exact jc.refl _,λb hb=>gz (λe=>aF (by rw[<-e];exact hb))⟩⟩
 have hkl:k<M.length:=(aC.mp hk).1;by_cases Jd:j=k
 ·subst Jd;rw[bU hkl] at hj;cases hj;exact⟨a,ha,r _ eh⟩
 ·rw[bH (bG Jd)] at hj;obtain⟨b,eb,rb⟩:=o.own j w hj;have hba:b≠a:=λe=>Jd (by subst e;have h1:=aC.mp ha;have h2:=aC.mp eb;exact(List.getElem_inj (h₀:=h2.1) (h₁:=h1.1) o.nd).mp (h2.2.trans h1.2.symm))
  refine⟨b,eb,?_⟩;rw[eh];exact rb.mono (aQ _) (jc.refl _) (gz hba)
theorem R.set(r:R K F α H σ δ M){i:Nat}{d:D}{v:V}(q:Rep K α (iS F α M H) d v):R K F α H (σ.set i (aa v)) (δ.set i (aa d)) M:=by
 have hl:=r.len;refine⟨r.ok,by simp[hl],λj e h=>?_⟩;by_cases hj:j=i
 ·subst hj;have hjl:j<δ.length:=by
   rcases Nat.lt_or_ge j δ.length with x|x
   ·exact x
   ·rw[List.getElem?_eq_none (by simpa using x)] at h;cases h
  rw[bU hjl] at h;cases h;exact⟨v,bU (by omega),q⟩
 ·rw[bH (bG hj)] at h ⊢;exact r.sl j e h
end
theorem PE.weak{X:Cx}{e:aM}{t t':TE}(h:PE X e t)(w:∀σ H Q,t' σ H Q->t σ H Q):PE X e t':=λpins s σ H Q I q=>h pins s σ H Q I (w σ H Q q)
theorem PT.weak{X:Cx}{e:aM}{t t':TT}(h:PT X e t)(w:∀σ H Q,t' σ H Q->t σ H Q):PT X e t':=λpins s σ H Q I q=>h pins s σ H Q I (w σ H Q q)
theorem PW.weak{X:Cx}{e:aM}{t t':TT}(h:PW X e t)(w:∀σ H Q,t' σ H Q->t σ H Q):PW X e t':=λwh pins s σ H Q I q=>h wh pins s σ H Q I (w σ H Q q)
theorem PA.weak{X:Cx}{e:List aM}{t t':TA}(h:PA X e t)(w:∀σ H Q,t' σ H Q->t σ H Q):PA X e t':=λpos pins s σ H Q I q=>h pos pins s σ H Q I (w σ H Q q)
theorem PS.weak{X:Cx}{e:br}{t t':TS}(h:PS X e t)(w:∀D σ H,t' D σ H->t D σ H):PS X e t':=λpins s σ H D I q=>h pins s σ H D I (w D σ H q)
theorem pH.weak{X:Cx}{e:List br}{t t':TS}(h:pH X e t)(w:∀D σ H,t' D σ H->t D σ H):pH X e t':=λpins s σ H D I q=>h pins s σ H D I (w D σ H q)
abbrev DK:=D->Ms->Prop
abbrev DE:=kZ->Ms->DK->Prop
abbrev DT:=kZ->Ms->(Bool->Ms->Prop)->Prop
abbrev DA:=kZ->Ms->(List D->Ms->Prop)->Prop
abbrev vK(K:W.Frag)(F α:List af)(H:Hp)(M:Ms)(Q:VK):DK:=λd M'=>∀v gS H',Ext F α H M gS H' M'->OK K F gS H' M'->Rep K gS (iS F gS M' H') d v->Q v H'
abbrev bK(K:W.Frag)(F α:List af)(H:Hp)(M:Ms)(Q:Bool->Hp->Prop):Bool->Ms->Prop:=λb M'=>∀gS H',Ext F α H M gS H' M'->OK K F gS H' M'->Q b H'
abbrev aK(K:W.Frag)(F α:List af)(H:Hp)(M:Ms)(Q:List V->Hp->Prop):List D->Ms->Prop:=λds M'=>∀vs gS H',Ext F α H M gS H' M'->OK K F gS H' M'->gu K gS (iS F gS M' H') ds vs->Q vs H'
def lE (K:W.Frag)(t:DE):TE:=λσ H Q=>∃F α δ M,R K F α H σ δ M/\t δ M (vK K F α H M Q)
def lT (K:W.Frag)(t:DT):TT:=λσ H Q=>∃F α δ M,R K F α H σ δ M/\t δ M (bK K F α H M Q)
def lA (K:W.Frag)(t:DA):TA:=λσ H Q=>∃F α δ M,R K F α H σ δ M/\t δ M (aK K F α H M Q)
structure JE(X:Cx)(e:aM)(t:DE):Prop where
 mono:∀δ M (P Q:DK),(∀d M,P d M->Q d M)->t δ M P->t δ M Q
 p:PE X e (lE X.K t)
structure JT(X:Cx)(e:aM)(t:DT):Prop where
 mono:∀δ M (P Q:Bool->Ms->Prop),(∀d M,P d M->Q d M)->t δ M P->t δ M Q
 p:PT X e (lT X.K t)
structure JW(X:Cx)(e:aM)(t:DT):Prop where
 mono:∀δ M (P Q:Bool->Ms->Prop),(∀d M,P d M->Q d M)->t δ M P->t δ M Q
 p:PW X e (lT X.K t)
structure JA(X:Cx)(es:List aM)(t:DA):Prop where
 mono:∀δ M (P Q:List D->Ms->Prop),(∀d M,P d M->Q d M)->t δ M P->t δ M Q
 p:PA X es (lA X.K t)
section
variable {K:W.Frag} {F α gS:List af} {H H':Hp} {M M':Ms}
theorem vK.grow{Q:VK}(e:Ext F α H M gS H' M'):∀d uL,vK K F α H M Q d uL->vK K F gS H' M' Q d uL:=λd uL h v lR H2 e2 o2 r2=>h v lR H2 (e.trans e2) o2 r2
theorem bK.grow{Q:Bool->Hp->Prop}(e:Ext F α H M gS H' M'):∀d uL,bK K F α H M Q d uL->bK K F gS H' M' Q d uL:=λd uL h lR H2 e2 o2=>h lR H2 (e.trans e2) o2
theorem vK.now{Q:VK}{d:D}{v:V}(o:OK K F α H M)(h:vK K F α H M Q d M)(r:Rep K α (iS F α M H) d v):Q v H:=h v α H Ext.refl o r
theorem vK.new{Q:VK}{d:D}{v:V}{p:af}{x:HO}(o:OK K F α H M)(hp:H p=ak)(h:vK K F α H M Q d M)(r:Ext F α H M α (upd H p x) M->Rep K α (iS F α M (upd H p x)) d v):Q v (upd H p x):=
 let⟨o',e'⟩:=o.laid (x:=x) hp;h v α _ e' o' (r e')
end
abbrev G2:=D->D->Ms->DK->Prop
abbrev GN:=List D->Ms->DK->Prop
def rD (K:W.Frag)(g:G2):R2:=λx y H Q=>∃F α M da db,OK K F α H M/\Rep K α (iS F α M H) da x/\Rep K α (iS F α M H) db y/\g da db M (vK K F α H M Q)
def YK (K:W.Frag)(g:GN):List V->Hp->VK->Prop:=λxs H Q=>∃F α M ds,OK K F α H M/\gu K α (iS F α M H) ds xs/\g ds M (vK K F α H M Q)
abbrev uM(g:G2):Prop:=∀x y M (P Q:DK),(∀d M,P d M->Q d M)->g x y M P->g x y M Q
abbrev lV(g:GN):Prop:=∀xs M (P Q:DK),(∀d M,P d M->Q d M)->g xs M P->g xs M Q
structure JO(X:Cx)(op:ee)(g:G2):Prop where
 mono:uM g
 p:ol X (binaryOp op) (rD X.K g)
structure JC(X:Cx)(op:eI)(g:G2):Prop where
 mono:uM g
 p:ol X (compareOp op) (rD X.K g)
structure JX(X:Cx)(g:G2):Prop where
 mono:uM g
 p:Pp X (rD X.K g)
structure JB(X:Cx)(f:ae)(g:GN):Prop where
 mono:lV g
 p:pJ X f (YK X.K g)
abbrev GS:=D->Option Int->Option Int->Ms->DK->Prop
def WP (K:W.Frag)(g:GS):V->Option Int->Option Int->Hp->VK->Prop:=λx lo hi H Q=>∃F α M d,OK K F α H M/\Rep K α (iS F α M H) d x/\g d lo hi M (vK K F α H M Q)
structure JSl(X:Cx)(g:GS):Prop where
 mono:∀x lo hi M (P Q:DK),(∀d M,P d M->Q d M)->g x lo hi M P->g x lo hi M Q
 p:Lo X (WP X.K g)
section
variable {X:Cx} {a b c e:aM} {es rest:List aM} {ta tb tc te:DE} {tA Il:DT} {tt:DA} {pos p p2 p3:cu} {x:ar}
def gr (i:Nat):DE:=λδ M Q=>match δ[i]? with|some (aa d)=>Q d M|_=>False
theorem gC(i:Nat)(hN:X.N[i]?=aa x:=by rfl)(hv:Lj X.env.scope x:=by first|exact df rfl|exact cG (df rfl)|exact cG (cG rfl))(hd:(x==("__debug__":ar))=ai:=by decide)
(pE:(x==("__classdict__":ar))=ai:=by decide):JE X (.Name x pos) (gr i):=by
 refine⟨λδ M P Q h q=>?_,PE.weak (t7 hN hv hd pE) λσ H Q h=>?_⟩
 ·unfold gr at*;split at q
  ·exact h _ _ q
  ·exact q
 ·obtain⟨F,α,δ,M,r,h⟩:=h;unfold gr at h;split at h
  ·rename_i d hd;obtain⟨v,e,q⟩:=r.sl i d hd;exact⟨v,e,vK.now r.ok h q⟩
  ·exact h.elim
def dC (d:D):DE:=λ_ M Q=>Q d M
theorem Tc{d:D}{v:V}(h:PE X e (tC v))(r:∀α H,Rep X.K α H d v):JE X e (dC d):=
 ⟨λδ M P Q h q=>h _ _ q,PE.weak h λσ H Q ⟨F,α,δ,M,rr,h⟩=>vK.now rr.ok h (r _ _)⟩
theorem gy{i j}:JE X (.Constant (.int i) j pos) (dC (.int i)):=Tc OY λ_ _=>iA
theorem BM{b j}:JE X (.Constant (.bool b) j pos) (dC (.bl b)):=Tc Sf λ_ _=>jd
theorem FL{j}:JE X (.Constant .none j pos) (dC .non):=Tc OZ λ_ _=>lX
theorem j2{y j}:JE X (.Constant (.str y) j pos) (dC (.str y)):=Tc Ik λ_ _=>mR
theorem Ed{d:D}{v:V}{u:ae}(hm:X.mg x=aa u)(r:RelV v u)(rr:∀α H,Rep X.K α H d v)(hg:Gl X x:=by rfl)(hd:(x==("__debug__":ar))=ai:=by decide):JE X (.Name x pos) (dC d):=Tc (Fv hg hm r hd) rr
theorem zV{i:Int}(hm:∃t,X.mg x=aa (.int i t))(hg:Gl X x:=by rfl)(hd:(x==("__debug__":ar))=ai:=by decide):JE X (.Name x pos) (dC (.int i)):=by obtain⟨t,hm⟩:=hm;exact Ed (v:=.int i) hm ⟨t,rfl⟩ (λ_ _=>iA) hg hd
theorem qy{C:af}(hm:X.mg x=aa (.ref C))(hg:Gl X x:=by rfl)(hd:(x==("__debug__":ar))=ai:=by decide):JE X (.Name x pos) (dC (.cls C)):=Ed (v:=.ref C) hm rfl (λ_ _=>Ml) hg hd
def gB (g:G2)(ta tb:DE):DE:=λδ M Q=>ta δ M λx M1=>tb δ M1 λy M2=>g x y M2 Q
theorem wj{g:G2}(mg:uM g)(ha:JE X a ta)(hb:JE X b tb):∀δ M (P Q:DK),(∀d M,P d M->Q d M)->gB g ta tb δ M P->gB g ta tb δ M Q:=
 λδ M P Q h q=>ha.mono δ _ _ _ (λd M1 q=>hb.mono δ _ _ _ (λd' M2 q=>mg d d' M2 P Q h q) q) q
theorem FM{g:G2}(mg:uM g)(ha:JE X a ta)(hb:JE X b tb){σ:L2.St}{H:Hp}{Q:VK}(h:lE X.K (gB g ta tb) σ H Q):So (rD X.K g) (lE X.K ta) (lE X.K tb) σ H Q:=by
 obtain⟨F,α,δ,M,r,h⟩:=h;exact⟨F,α,δ,M,r,ha.mono δ _ _ _ (λda M1 h2 v gU H1 e1 o1 r1=>⟨F,gU,δ,M1,r.grow e1 o1,hb.mono δ _ _ _ (λdb M2 h3 u lR H2 e2 o2 r2=>
  ⟨F,lR,M2,da,db,o2,e2.rep r1,r2,mg _ _ _ _ _ (vK.grow (e1.trans e2)) h3⟩) h2⟩) h⟩
theorem gQ{op:ee}{g:G2}(o:JO X op g)(ha:JE X a ta)(hb:JE X b tb):JE X (.BinOp a op b pos) (gB g ta tb):=⟨wj o.mono ha hb,PE.weak (NS o.p ha.p hb.p) λσ H Q h=>FM o.mono ha hb h⟩
theorem Td{op:eI}{g:G2}(o:JC X op g)(ha:JE X a ta)(hb:JE X b tb)(hm:eJ op b=ai:=by rfl):JE X (.Compare a [op] [b] pos) (gB g ta tb):=⟨wj o.mono ha hb,PE.weak (LO o.p ha.p hb.p hm) λσ H Q h=>FM o.mono ha hb h⟩
theorem i6{g:G2}(o:JX X g)(ha:JE X a ta)(hb:JE X b tb)(hs:zN b:=by exactλ_ _=>rfl):JE X (.Subscript a b pos) (gB g ta tb):=⟨wj o.mono ha hb,PE.weak (NY o.p ha.p hb.p hs) λσ H Q h=>FM o.mono ha hb h⟩
def gD (te:DE):DT:=λδ M Q=>te δ M λd M1=>match d with|.bl b=>Q b M1|_=>False
theorem rF(h:JE X e te):∀δ M (P Q:Bool->Ms->Prop),(∀d M,P d M->Q d M)->gD te δ M P->gD te δ M Q:=λδ M P Q w q=>h.mono δ _ _ _ (λd M1 q=>by cases d<;>first|exact w _ _ q|exact q) q
theorem Ee(h:JE X e te)(he:∀vW,fF e X.env vW=(do let v<-vW;eF e.pos;holding [v] (truthy v)):=by intro _;rfl):JT X e (gD te):=by
 refine⟨rF h,PT.weak (O0 h.p he) λσ H Q q=>?_⟩;obtain⟨F,α,δ,M,r,q⟩:=q;refine⟨F,α,δ,M,r,h.mono δ _ _ _ (λd M1 q v gU H1 e1 o1 r1=>?_) q⟩;cases d<;>first|exact q.elim|skip
 unfold Rep at r1;exact⟨_,r1,q gU H1 e1 o1⟩
theorem g7{op:eI}{g:G2}(o:JC X op g)(ha:JE X a ta)(hb:JE X b tb)(hm:eJ op b=ai:=by rfl):JT X (.Compare a [op] [b] pos) (gD (gB g ta tb)):=by
 have hE:JE X (.Compare a [op] [b] pos) (gB g ta tb):=Td o ha hb hm;refine⟨rF hE,PT.weak (LP o.p ha.p hb.p hm) λσ H Q q=>?_⟩;obtain⟨F,α,δ,M,r,q⟩:=q;refine FM o.mono ha hb ⟨F,α,δ,M,r,hE.mono δ _ _ _ (λd M1 q v gU H1 e1 o1 r1=>?_) q⟩;cases d<;>first|exact q.elim|skip
 unfold Rep at r1;exact⟨_,r1,q gU H1 e1 o1⟩
def sN (t:DT):DT:=λδ M Q=>t δ M λb M1=>Q (!b) M1
theorem ub(h:JT X a tA):JT X (.UnaryOp .Not a pos) (sN tA):=
 ⟨λδ M P Q w q=>h.mono δ _ _ _ (λb M1 q=>w _ _ q) q,PT.weak (O1 h.p) λσ H Q ⟨F,α,δ,M,r,q⟩=>⟨F,α,δ,M,r,q⟩⟩
theorem wl(h:JW X e tA):JT X e tA:=⟨h.mono,h.p.pt⟩
def qO (t u:DT):DT:=λδ M Q=>t δ M λb M1=>if b=ah then u δ M1 Q else Q ai M1
def WQ (t u:DT):DT:=λδ M Q=>t δ M λb M1=>if b=ah then Q ah M1 else u δ M1 Q
theorem qz(h:JT X a tA):JW X (.BoolOp .And [a] pos) tA:=⟨h.mono,pw_and1 h.p⟩
theorem PM(h:JT X a tA):JW X (.BoolOp .Or [a] pos) tA:=⟨h.mono,pw_or1 h.p⟩
theorem rG(ha:JT X a tA)(hb:JW X (.BoolOp .And (b::rest) pos) Il):JW X (.BoolOp .And (a::b::rest) pos) (qO tA Il):=by
 refine⟨λδ M P Q w q=>ha.mono δ _ _ _ (λb M1 q=>?_) q,PW.weak (pw_and ha.p hb.p) λσ H Q q=>?_⟩
 ·cases b with
  |true=>rw[if_pos rfl] at q ⊢;exact hb.mono δ _ _ _ w q
  |false=>rw[if_neg ap] at q ⊢;exact w _ _ q
 ·obtain⟨F,α,δ,M,r,q⟩:=q;refine⟨F,α,δ,M,r,ha.mono δ _ _ _ (λb M1 q gU H1 e1 o1=>?_) q⟩;cases b with
  |true=>
   rw[if_pos rfl] at q;show(if ah=ah then _ else _);rw[if_pos rfl];exact⟨F,gU,δ,M1,r.grow e1 o1,hb.mono δ _ _ _ (bK.grow e1) q⟩
  |false=>
   rw[if_neg ap] at q;show(if ai=ah then _ else _);rw[if_neg ap];exact q gU H1 e1 o1
theorem Te(ha:JT X a tA)(hb:JW X (.BoolOp .Or (b::rest) pos) Il):JW X (.BoolOp .Or (a::b::rest) pos) (WQ tA Il):=by
 refine⟨λδ M P Q w q=>ha.mono δ _ _ _ (λb M1 q=>?_) q,PW.weak (pw_or ha.p hb.p) λσ H Q q=>?_⟩
 ·cases b with
  |true=>rw[if_pos rfl] at q ⊢;exact w _ _ q
  |false=>rw[if_neg ap] at q ⊢;exact hb.mono δ _ _ _ w q
 ·obtain⟨F,α,δ,M,r,q⟩:=q;refine⟨F,α,δ,M,r,ha.mono δ _ _ _ (λb M1 q gU H1 e1 o1=>?_) q⟩;cases b with
  |false=>
   rw[if_neg ap] at q;show(if ai=ah then _ else _);rw[if_neg ap];exact⟨F,gU,δ,M1,r.grow e1 o1,hb.mono δ _ _ _ (bK.grow e1) q⟩
  |true=>
   rw[if_pos rfl] at q;show(if ah=ah then _ else _);rw[if_pos rfl];exact q gU H1 e1 o1
def Tf (ta tb:DE):DE:=λδ M Q=>ta δ M λx M1=>match x with|.bl ah=>tb δ M1 Q|.bl ai=>Q (.bl ai) M1|_=>False
def Tg (ta:DE):DE:=λδ M Q=>ta δ M λx M1=>match x with|.bl b=>Q (.bl (!b)) M1|_=>False
def PN (t:DT)(ta tb:DE):DE:=λδ M Q=>t δ M λc M1=>if c=ah then ta δ M1 Q else tb δ M1 Q
theorem Mm(hc:JT X c tA)(ha:JE X a ta)(hb:JE X b tb):JE X (.IfExp c a b pos) (PN tA ta tb):=by
 refine⟨λδ M P Q w q=>hc.mono δ _ _ _ (λb M1 q=>?_) q,PE.weak (Im hc.p ha.p hb.p) λσ H Q q=>?_⟩
 ·cases b with
  |true=>rw[if_pos rfl] at q ⊢;exact ha.mono δ _ _ _ w q
  |false=>rw[if_neg ap] at q ⊢;exact hb.mono δ _ _ _ w q
 ·obtain⟨F,α,δ,M,r,q⟩:=q;refine⟨F,α,δ,M,r,hc.mono δ _ _ _ (λb M1 q gU H1 e1 o1=>?_) q⟩;cases b with
  |true=>
   rw[if_pos rfl] at q;show(if ah=ah then _ else _);rw[if_pos rfl];exact⟨F,gU,δ,M1,r.grow e1 o1,ha.mono δ _ _ _ (vK.grow e1) q⟩
  |false=>
   rw[if_neg ap] at q;show(if ai=ah then _ else _);rw[if_neg ap];exact⟨F,gU,δ,M1,r.grow e1 o1,hb.mono δ _ _ _ (vK.grow e1) q⟩
def jN (g g':G2)(ta tb tc:DE):DE:=λδ M Q=>ta δ M λx M1=>tb δ M1 λy M2=>g x y M2 λz M3=>match z with|.bl ah=>tc δ M3 λw M4=>g' y w M4 Q|.bl ai=>Q (.bl ai) M3|_=>False
theorem BN{op yD:eI}{g g':G2}(o:JC X op g)(o':JC X yD g')(ha:JE X a ta)(hb:JE X b tb)(hc:JE X c tc):∀δ M (P Q:DK),(∀d M,P d M->Q d M)->jN g g' ta tb tc δ M P->jN g g' ta tb tc δ M Q:=
 λδ M P Q w q=>ha.mono δ _ _ _ (λx M1 q=>hb.mono δ _ _ _ (λy M2 q=>o.mono _ _ _ _ _ (λz M3 q=>by
  cases z<;>first|exact q.elim|skip
  rename_i k;cases k with
  |true=>exact hc.mono δ _ _ _ (λu M4 q=>o'.mono _ _ _ _ _ w q) q
  |false=>exact w _ _ q) q) q) q
theorem yV{op yD:eI}{g g':G2}(o:JC X op g)(o':JC X yD g')(ha:JE X a ta)(hb:JE X b tb)(hc:JE X c tc){σ:L2.St}{H:Hp}{Q:VK}(h:lE X.K (jN g g' ta tb tc) σ H Q):DZ (rD X.K g) (rD X.K g') (lE X.K ta) (lE X.K tb) (lE X.K tc) σ H Q:=by
 obtain⟨F,α,δ,M,r,h⟩:=h;refine⟨F,α,δ,M,r,ha.mono δ _ _ _ (λda M1 h2 v gU H1 e1 o1 r1=>⟨F,gU,δ,M1,r.grow e1 o1,hb.mono δ _ _ _ (λdb M2 h3 u lR H2 e2 o2 r2=>?_) h2⟩) h⟩;refine⟨F,lR,M2,da,db,o2,e2.rep r1,r2,o.mono _ _ _ _ _ (λd M3 h4 w uc H3 e3 o3 r3=>?_) h3⟩;have qW:=(e1.trans e2).trans e3;cases d<;>first|exact h4.elim|skip
 unfold Rep at r3;rename_i k;refine⟨k,r3,?_⟩;cases k with
 |false=>rw[if_neg ap];exact h4 _ uc H3 qW o3 jd
 |true=>
  rw[if_pos rfl];refine⟨F,uc,δ,M3,r.grow qW o3,hc.mono δ _ _ _ (λdc M4 h5 z qP H4 e4 o4 r4=>?_) h4⟩;exact⟨F,qP,M4,db,dc,o4,(e3.trans e4).rep r2,r4,o'.mono _ _ _ _ _ (vK.grow (qW.trans e4)) h5⟩
theorem Mn{op yD:eI}{g g':G2}(o:JC X op g)(o':JC X yD g')(ha:JE X a ta)(hb:JE X b tb)(hc:JE X c tc)(hm:fw [op,yD] [b,c]=ai:=by with_unfolding_all rfl):JE X (.Compare a [op,yD] [b,c] pos) (jN g g' ta tb tc):=
 ⟨BN o o' ha hb hc,PE.weak (IB o.p o'.p ha.p hb.p hc.p hm) λσ H Q h=>yV o o' ha hb hc h⟩
theorem pP{op yD:eI}{g g':G2}(o:JC X op g)(o':JC X yD g')(ha:JE X a ta)(hb:JE X b tb)(hc:JE X c tc)(hm:fw [op,yD] [b,c]=ai:=by with_unfolding_all rfl):JT X (.Compare a [op,yD] [b,c] pos) (gD (jN g g' ta tb tc)):=by
 have hE:JE X (.Compare a [op,yD] [b,c] pos) (jN g g' ta tb tc):=Mn o o' ha hb hc hm;refine⟨rF hE,PT.weak (IC o.p o'.p ha.p hb.p hc.p hm) λσ H Q q=>?_⟩;obtain⟨F,α,δ,M,r,q⟩:=q;refine yV o o' ha hb hc ⟨F,α,δ,M,r,hE.mono δ _ _ _ (λd M1 q v gU H1 e1 o1 r1=>?_) q⟩;cases d<;>first|exact q.elim|skip
 unfold Rep at r1;exact⟨_,r1,q gU H1 e1 o1⟩
def gw:DA:=λ_ M Q=>Q [] M
def gp (te:DE)(tt:DA):DA:=λδ M Q=>te δ M λx M1=>tt δ M1 λxs M2=>Q (x::xs) M2
theorem gv:JA X [] gw:=⟨λδ M P Q w q=>w _ _ q,PA.weak IG λσ H Q ⟨F,α,δ,M,r,q⟩=>q [] α H Ext.refl r.ok gu.nil⟩
theorem gq(ha:JE X e te)(hr:JA X es tt)(hs:av (e::es) X.env=(ai,eval e X.env)::av es X.env:=by rfl):JA X (e::es) (gp te tt):=by refine⟨λδ M P Q w q=>ha.mono δ _ _ _ (λx M1 q=>hr.mono δ _ _ _ (λxs M2 q=>w _ _ q) q) q,PA.weak (vE ha.p hr.p hs) λσ H Q q=>?_⟩;obtain⟨F,α,δ,M,r,q⟩:=q;refine⟨F,α,δ,M,r,ha.mono δ _ _ _ (λd M1 q v gU H1 e1 o1 r1=>⟨F,gU,δ,M1,r.grow e1 o1,hr.mono δ _ _ _ (λds M2 q vs lR H2 e2 o2 r2=>?_) q⟩) q⟩;exact q (v::vs) lR H2 (e1.trans e2) o2 (gu.cons (e2.rep r1) r2)
theorem lx{K:W.Frag}{F α:List af}{H:Hp}{M:Ms}{p:af}{ds:List D}{vs:List V}(o:OK K F α H M)(hp:H p=ak)(h:gu K α (iS F α M H) ds vs)(e:Ext F α H M α (upd H p (.lst vs)) M):Rep K α (iS F α M (upd H p (.lst vs))) (.lst ds) (.ref p):=by unfold Rep;exact⟨p,vs,rfl,by show jg _ _ p=_;rw[jz (o.new hp),gF],e.wd h⟩
theorem mS{K:W.Frag}{F α:List af}{H:Hp}{M:Ms}{p:af}{ds:List D}{vs:List V}(o:OK K F α H M)(hp:H p=ak)(h:gu K α (iS F α M H) ds vs)(e:Ext F α H M α (upd H p (.tup vs)) M):Rep K α (iS F α M (upd H p (.tup vs))) (.tup ds) (.ref p):=by unfold Rep;exact⟨p,vs,rfl,.inl (.inl (by show jg _ _ p=_;rw[jz (o.new hp),gF])),e.wd h⟩
def iN (tt:DA):DE:=λδ M Q=>tt δ M λds M1=>ds.length<=aH/\Q (.tup ds) M1
theorem jh{x1}(h:JA X es tt):JE X (.Tuple es x1 pos) (iN tt):=by refine⟨λδ M P Q w q=>h.mono δ _ _ _ (λds M1 q=>⟨q.1,w _ _ q.2⟩) q,PE.weak (Pg h.p) λσ H Q q=>?_⟩;obtain⟨F,α,δ,M,r,q⟩:=q;refine⟨F,α,δ,M,r,h.mono δ _ _ _ (λds M1 q vs gU H1 e1 o1 r1=>?_) q⟩;exact⟨by rw[<-gu.length ds vs r1];exact q.1,λp hp=>vK.new o1 hp (vK.grow e1 _ _ q.2) (mS o1 hp r1)⟩
def iU (g:GN)(tt:DA):DE:=λδ M Q=>tt δ M λds M1=>g ds M1 Q
theorem wm{g:GN}(m:lV g)(ha:JA X es tt):∀δ M (P Q:DK),(∀d M,P d M->Q d M)->iU g tt δ M P->iU g tt δ M Q:=λδ M P Q w q=>ha.mono δ _ _ _ (λds M1 q=>m _ _ _ _ w q) q
theorem Jg{f:ae}{g:GN}(o:JB X f g)(ha:JA X es tt){σ:L2.St}{H:Hp}{Q:VK}(h:lE X.K (iU g tt) σ H Q):Wh (YK X.K g) (lA X.K tt) σ H Q:=by obtain⟨F,α,δ,M,r,h⟩:=h;exact⟨F,α,δ,M,r,ha.mono δ _ _ _ (λds M1 q vs gU H1 e1 o1 r1=>⟨F,gU,M1,ds,o1,r1,o.mono _ _ _ _ (vK.grow e1) q⟩) h⟩
theorem Ef{id:String}{g:GN}(o:JB X (.builtin id) g)(hm:X.mg x=ak)(hv:b8 x=aa (.builtin id))(ha:JA X (e::es) tt)(hg:Gl X x:=by rfl)(hn:x≠"__name__":=by decide)(ni:(x==("__debug__":ar))=ai:=by decide)
(he:av (e::es) X.env=(ai,eval e X.env)::av es X.env:=by rfl)(kC:(bN pos (av es X.env)).any (·.1)=ai:=by rfl):JE X (.Call (.Name x p) (e::es) [] pos) (iU g tt):=
 ⟨wm o.mono ha,PE.weak (IL o.p hg hm hv ha.p hn ni he kC) λσ H Q h=>Jg o ha h⟩
theorem j_t{T:String}{g:GN}(o:JB X (.type T) g)(hm:X.mg x=ak)(hv:b8 x=aa (.type T))(ha:JA X (e::es) tt)(hg:Gl X x:=by rfl)(hn:x≠"__name__":=by decide)(ni:(x==("__debug__":ar))=ai:=by decide)
(he:av (e::es) X.env=(ai,eval e X.env)::av es X.env:=by rfl)(kC:(bN pos (av es X.env)).any (·.1)=ai:=by rfl):JE X (.Call (.Name x p) (e::es) [] pos) (iU g tt):=
 ⟨wm o.mono ha,PE.weak (yM o.p hg hm hv ha.p hn ni he kC) λσ H Q h=>Jg o ha h⟩
def pz (K:W.Frag)(g:GN):Sp:=λvs H Q _=>∃F α M ds,OK K F α H M/\gu K α (iS F α M H) ds vs/\g ds M (vK K F α H M Q)
structure j3(P:ao)(w:aE)(K:W.Frag)(mg:ar->Option ae)(base:aq)(k:Nat)(x:ar)(ps:List ar)(g:GN):Prop where
 mono:lV g
 p:vG P w K mg base k x ps (pz K g)
theorem jA{k:Nat}{ps:List ar}{g:GN}(h:j3 X.prog X.w X.K X.mg X.base k x ps g)(hr:iG k X.A)(ha:JA X (e::es) tt)(hg:Gl X x:=by rfl)(ni:(x==("__debug__":ar))=ai:=by decide)
(he:av (e::es) X.env=(ai,eval e X.env)::av es X.env:=by rfl)(kC:(bN pos (av es X.env)).any (·.1)=ai:=by rfl):JE X (.Call (.Name x p) (e::es) [] pos) (iU g tt):=by refine⟨wm h.mono ha,PE.weak (S7 h.p hr ha.p hg ni he kC) λσ H Q q=>?_⟩;obtain⟨F,α,δ,M,r,q⟩:=q;refine⟨F,α,δ,M,r,ha.mono δ _ _ _ (λds M1 q vs gU H1 e1 o1 r1=>?_) q⟩;show pz X.K g (vs++[]) H1 Q E0;rw[bj];exact⟨F,gU,M1,ds,o1,r1,h.mono _ _ _ _ (vK.grow e1) q⟩
end
end L3
namespace L2
open PySem PySem.Spec PyProof.Rows
section
variable {X:Cx} {pins:List (af×bE)} {σ:St} {H:Hp} {s:ag} {a:af} {gZ:List (Key×V)}
theorem Inv.ghost{w w':HO}(I:Inv X pins σ H s)(ha:H a=aa w)(n1:∀xs,w≠.tup xs)(n2:∀x,w≠.own x)(n3:∀ps,w≠.DR ps)(n4:∀o u,X.gJ a≠aa (.qv o u))
(ok:iQ X.prog X.w (upd H a w') s.heap a w'):Inv X pins σ (upd H a w') s:=by
 have ud:∀b,H b=ak->b≠a:=λb h z=>by rw[z,ha] at h;cases h
 refine⟨I.ok,I.os,I.bare,⟨I.base.keep,I.base.slot,λb o q n hx=>?_,I.base.there,λb xs q=>?_,λb o u q=>?_,λb ps q=>?_⟩,I.loc,I.cell,?_,λx c e=>?_,λp hp=>?_,λb ob q=>?_,I.len⟩
 ·have:=I.base.free b o q n hx;rw[gz (ud b this)];exact this
 ·have:=I.base.pv b xs q;rw[gz λz=>by rw[z,ha] at this;exact n1 xs (bh this)];exact this
 ·have:=I.base.nG b o u q;rw[gz λz=>n4 o u (by rw[<-z];exact q)];exact this
 ·obtain⟨m,e⟩:=I.base.pw b ps q;exact⟨m,by rw[gz λz=>by rw[z,ha] at e;exact n3 _ (bh e)];exact e⟩
 ·rw[gz (ud _ I.free)];exact I.free
 ·rw[gz (ud _ (I.jX x c e))];exact I.jX x c e
 ·obtain⟨p1,p2,p3⟩:=I.pin p hp;exact⟨p1,by rw[gz (ud _ p2)];exact p2,p3⟩
 ·by_cases z:b=a
  ·subst z;rw[gF] at q;cases q;exact ok
  ·rw[gz z] at q;refine(I.iy b ob q).sG (λc v _ r=>r) (λc r=>?_) (λc xs r=>?_)
   ·rw[gz λz=>by rw[z,ha] at r;exact n2 _ (bh r)];exact r
   ·rw[gz λz=>by rw[z,ha] at r;exact n1 _ (bh r)];exact r
theorem Inv.vj{o:bE}(I:Inv X pins σ H s)(ha:H a=aa (.qv o (.dK gZ)))(n4:∀o u,X.gJ a≠aa (.qv o u)):Inv X pins σ (upd H a (.dK gZ)) s:=by obtain⟨_,z,hd,vs,r,ob,es,ep,e,c⟩:=(show iQ X.prog X.w H s.heap a (.qv o (.dK gZ)) from I.iy a _ ha);exact I.ghost ha (λ_ z=>by cases z) (λ_ z=>by cases z) (λ_ z=>by cases z) n4 ⟨z,hd,vs,r,ob,es,ep,e,c⟩
def TH (X:Cx)(P:Hp->Prop)(H:Hp):Prop:=P H\/∃a o gZ,H a=aa (.qv o (.dK gZ))/\(∀o u,X.gJ a≠aa (.qv o u))/\P (upd H a (.dK gZ))
theorem TH.get{P:Hp->Prop}(I:Inv X pins σ H s)(h:TH X P H):∃H',Inv X pins σ H' s/\P H':=by
 rcases h with h|⟨a,o,gZ,e,n,h⟩
 ·exact⟨H,I,h⟩
 ·exact⟨_,I.vj e n,h⟩
noncomputable def YL(X:Cx)(D:Ends):Ends:=⟨λσ=>TH X (D.nx σ),λv=>TH X (D.rt v),λσ=>TH X (D.bk σ),λσ=>TH X (D.ct σ)⟩
theorem BO{st:br}{t t':TS}(h:PS X st t)(w:∀D σ H,t' D σ H->t (YL X D) σ H):PS X st t':=λpins s σ H D I q=>
 ja (h pins s σ H (YL X D) I (w D σ H q)) λf s' hf=>by
  cases f with
  |next=>obtain⟨iF,H',I',q⟩:=hf;obtain⟨H2,I2,q2⟩:=TH.get I' q;exact⟨iF,H2,I2,q2⟩
  |brk=>obtain⟨iF,H',I',q⟩:=hf;obtain⟨H2,I2,q2⟩:=TH.get I' q;exact⟨iF,H2,I2,q2⟩
  |cont=>obtain⟨iF,H',I',q⟩:=hf;obtain⟨H2,I2,q2⟩:=TH.get I' q;exact⟨iF,H2,I2,q2⟩
  |ret u=>obtain⟨v,iF,H',I',r,q⟩:=hf;obtain⟨H2,I2,q2⟩:=TH.get I' q;exact⟨v,iF,H2,I2,r,q2⟩
theorem Ji{e:aM}{t t':TE}(h:PE X e t)(w:∀σ H Q,t' σ H Q->t σ H (λv=>TH X (Q v))):PE X e t':=λpins s σ H Q I q=>
 ja (h pins s σ H _ I (w σ H Q q)) λu s' ⟨v,H',I',r,q⟩=>by obtain⟨H2,I2,q2⟩:=TH.get I' q;exact⟨v,H2,I2,r,q2⟩
end
end L2
namespace L3
open PySem PySem.Spec PyProof.Rows L2
def Mo (H H':Hp):Prop:=∀b o,H b=aa o->H' b=aa o\/∃gZ,(o=.dK gZ\/∃ob,o=.qv ob (.dK gZ))/\Rd H' b (.dK gZ)
section
variable {K:W.Frag} {H H':Hp} {a:af}
theorem wn{u:HO}(e:Mo H H')(h:H a=aa u)(n1:∀gZ,u≠.dK gZ)(n2:∀ob gZ,u≠.qv ob (.dK gZ)):H' a=aa u:=by
 rcases e a u h with q|⟨gZ,rfl|⟨ob,rfl⟩,_⟩
 ·exact q
 ·exact absurd rfl (n1 gZ)
 ·exact absurd rfl (n2 ob gZ)
theorem Jj{u:HO}(e:Mo H H')(h:Rd H a u)(n1:∀gZ,u≠.dK gZ)(n2:∀ob gZ,u≠.qv ob (.dK gZ)):Rd H' a u:=by
 rcases h with h|⟨o,h⟩
 ·exact .inl (wn e h n1 n2)
 ·exact .inr ⟨o,wn e h (λ_ z=>by cases z) λ_ gZ z=>by cases z;exact n1 gZ rfl⟩
theorem PP{gZ:List (Key×V)}(e:Mo H H')(h:Rd H a (.dK gZ)):Rd H' a (.dK gZ):=by
 rcases h with h|⟨o,h⟩
 ·rcases e a _ h with q|⟨l,z|⟨ob,z⟩,q⟩
  ·exact .inl q
  ·cases z;exact q
  ·cases z
 ·rcases e a _ h with q|⟨l,z|⟨ob,z⟩,q⟩
  ·exact .inr ⟨o,q⟩
  ·cases z
  ·cases z;exact q
theorem Jk{xs:List V}(e:Mo H H')(h:vD K H a xs):vD K H' a xs:=by
 rcases h with h|h
 ·exact .inl (Jj e h (λ_ z=>by cases z) λ_ _ z=>by cases z)
 ·exact .inr h
theorem Jl{xs:List V}(e:Mo H H')(h:oa K H a xs):oa K H' a xs:=by
 rcases h with h|h
 ·exact .inl (Jj e h (λ_ z=>by cases z) λ_ _ z=>by cases z)
 ·exact .inr h
end
mutual
theorem Rep.alt {K:W.Frag} {α:List af} {H H':Hp} (e:Mo H H'):∀(d:D) (v:V),Rep K α H d v->Rep K α H' d v
 |.non,v,h=>by unfold Rep at h ⊢;exact h
 |.bl _,v,h=>by unfold Rep at h ⊢;exact h
 |.int _,v,h=>by unfold Rep at h ⊢;exact h
 |.str _,v,h=>by unfold Rep at h ⊢;exact h
 |.ty _,v,h=>by unfold Rep at h ⊢;exact h
 |.tup ds,v,h=>by unfold Rep at h ⊢;obtain⟨a,vs,r,q,z⟩:=h;exact⟨a,vs,r,Jk e q,gu.alt e ds vs z⟩
 |.lst ds,v,h=>by unfold Rep at h ⊢;obtain⟨a,vs,r,q,z⟩:=h;exact⟨a,vs,r,wn e q (λ_ z=>by cases z) (λ_ _ z=>by cases z),gu.alt e ds vs z⟩
 |.pd ns,v,h=>by unfold Rep at h ⊢;obtain⟨a,r,q⟩:=h;exact⟨a,r,Jl e q⟩
 |.kY ks ds,v,h=>by unfold Rep at h ⊢;obtain⟨a,vs,r,q,l,z⟩:=h;exact⟨a,vs,r,PP e q,l,gu.alt e ds vs z⟩
 |.ins C ns ds,v,h=>by unfold Rep at h ⊢;obtain⟨a,dx,vs,r,q,l,z⟩:=h;exact⟨a,dx,vs,r,wn e q (λ_ z=>by cases z) (λ_ _ z=>by cases z),l,gu.alt e ds vs z⟩
 |.exc C ns ds,v,h=>by unfold Rep at h ⊢;obtain⟨a,vs,r,q,l,z⟩:=h;exact⟨a,vs,r,wn e q (λ_ z=>by cases z) (λ_ _ z=>by cases z),l,gu.alt e ds vs z⟩
 |.loc k,v,h=>by unfold Rep at h ⊢;exact h
 |.cls _,v,h=>by unfold Rep at h ⊢;exact h
theorem gu.alt {K:W.Frag} {α:List af} {H H':Hp} (e:Mo H H'):∀(ds:List D) (vs:List V),gu K α H ds vs->gu K α H' ds vs
 |[],vs,h=>by unfold gu at h ⊢;exact h
 |d::ds,vs,h=>by unfold gu at h ⊢;obtain⟨v,r,q,z,y⟩:=h;exact⟨v,r,q,Rep.alt e d v z,gu.alt e ds r y⟩
end
section
variable {K:W.Frag} {F α:List af} {H:Hp} {M:Ms} {a:af} {gZ:List (Key×V)} {w w':HO}
def Lp (gZ:List (Key×V))(w:HO):Prop:=w=.dK gZ\/∃ob,w=.qv ob (.dK gZ)
theorem Lp.qw(t:Lp gZ w):qw (aa w)=aa w:=by rcases t with rfl|⟨ob,rfl⟩<;>rfl
theorem vH{A:List af}(ha:H a=aa w)(t:Lp gZ w)(t':Lp gZ w'):Mo (jg A H) (jg A (upd H a w')):=λb o e=>by
 obtain⟨n,q,v⟩:=nJ e;by_cases z:b=a
 ·subst z;rw[ha] at q;cases q;refine .inr ⟨gZ,t,?_⟩;have g:jg A (upd H b w') b=aa w':=jK n gF t'.qw;rcases t' with rfl|⟨ob,rfl⟩
  ·exact .inl g
  ·exact .inr ⟨ob,g⟩
 ·exact .inl (jK n (by rw[gz z];exact q) v)
theorem OK.two(o:OK K F α H M)(ha:H a=aa w)(na:a∉lv α M++F)(t:Lp gZ w)(t':Lp gZ w'):OK K F α (upd H a w') M:=by
 refine⟨o.ml,o.nd,λb hb=>⟨(o.fr b hb).1,?_⟩,λb hb=>?_,λk x hk=>?_,o.tb.upd (.inl ?_)⟩
 ·rw[gz λz=>na (aY _ (by rw[<-z];exact hb))];exact(o.fr b hb).2
 ·by_cases z:b=a
  ·rw[z,gF,t'.qw];exactλz=>by cases z
  ·rw[gz z];exact o.al b hb
 ·obtain⟨b,e,r⟩:=o.own k x hk;have nb:b≠a:=λz=>na (bC _ (by rw[<-z];exact ow.mpr ⟨k,x,e,hk⟩));refine⟨b,e,?_⟩;have al:Mo (iS F α M H) (iS F α M (upd H a w')):=vH ha t t';cases x with
  |lst ds=>obtain⟨vs,q,r⟩:=r;exact⟨vs,by rw[gz nb];exact q,gu.alt al _ _ r⟩
  |kY ks ds=>obtain⟨vs,q,l,r⟩:=r;exact⟨vs,by rw[gz nb];exact q,l,gu.alt al _ _ r⟩
  |ins C ns ds=>obtain⟨dx,vs,q,l,r⟩:=r;exact⟨dx,vs,by rw[gz nb];exact q,l,gu.alt al _ _ r⟩
  |fz k ep ks ds=>obtain⟨g,vs,q,l,r⟩:=r;exact⟨g,vs,by rw[gz nb];exact q,l,gu.alt al _ _ r⟩
 ·rw[ha,t.qw];exactλz=>by cases z
theorem R.two{σ:L2.St}{δ:kZ}(r:R K F α H σ δ M)(ha:H a=aa w)(na:a∉lv α M++F)(t:Lp gZ w)(t':Lp gZ w'):R K F α (upd H a w') σ δ M:=
 ⟨r.ok.two ha na t t',r.len,λi d q=>by obtain⟨v,h1,h2⟩:=r.sl i d q;exact⟨v,h1,Rep.alt (vH ha t t') d v h2⟩⟩
theorem Ext.vj{gS:List af}{H':Hp}{M':Ms}{ob:bE}(ha:H a=aa (.dK gZ))(na:a∉lv α M++F)(e:Ext F α (upd H a (.qv ob (.dK gZ))) M gS H' M'):
  H' a=aa (.qv ob (.dK gZ))/\a∉lv gS M'++F/\Ext F α H M gS (upd H' a (.dK gZ)) M':=by
 have g:=e.same a _ (jK na gF rfl);obtain⟨n2,g2⟩:=ig g;refine⟨g2,n2,e.pre,λb o q=>?_,λb hb=>?_⟩
 ·obtain⟨n,q,v⟩:=nJ q;by_cases z:b=a
  ·subst z;rw[ha] at q;cases q;exact jK n2 gF rfl
  ·have:=e.same b o (jK n (by rw[gz z];exact q) v);obtain⟨n3,q3⟩:=ig this;exact jK n3 (by rw[gz z];exact q3) v
 ·have nb:b≠a:=λz=>na (aY _ (by rw[<-z];exact hb));rw[gz nb,e.fr b hb,gz nb]
end
noncomputable def er(p:af)(H:Hp):Hp:=λb=>if b=p then ak else H b
structure HW(X:Cx)(F gU:List af)(H1 Hf:Hp)(M1:Ms)(T:Hp->Hp):Prop where
 ok:OK X.K F gU Hf M1
 rep:∀d v,Rep X.K gU (iS F gU M1 H1) d v->Rep X.K gU (iS F gU M1 Hf) d v
 e:∀gS H' M',Ext F gU Hf M1 gS H' M'->OK X.K F gS H' M'->Ext F gU H1 M1 gS (T H') M'/\OK X.K F gS (T H') M'/\∀d v,Rep X.K gS (iS F gS M' H') d v->Rep X.K gS (iS F gS M' (T H')) d v
 h:∀gS H' M' (P:Hp->Prop),Ext F gU Hf M1 gS H' M'->P (T H')->TH X P H'
 c:∀p H' x,Hf p=ak->H' p=aa x->upd (T (er p H')) p x=T H'
 n:∀p H',Hf p=ak->H' p=ak->T H' p=ak
 k:∀gS H' M' b φ,Ext F gU Hf M1 gS H' M'->H' b=aa (.ext φ)->T H' b=aa (.ext φ)
theorem gu.imp{K:W.Frag}{α:List af}{H H':Hp}(f:∀d v,Rep K α H d v->Rep K α H' d v):∀(ds:List D) (vs:List V),gu K α H ds vs->gu K α H' ds vs
 |[],vs,h=>by unfold gu at h ⊢;exact h
 |d::ds,vs,h=>by unfold gu at h ⊢;obtain⟨v,r,q,z,y⟩:=h;exact⟨v,r,q,f d v z,gu.imp f ds r y⟩
section
variable {X:Cx} {F gU:List af} {H1 Hf:Hp} {M1:Ms} {T:Hp->Hp}
theorem HW.refl(o:OK X.K F gU H1 M1):HW X F gU H1 H1 M1 id:=
 ⟨o,λ_ _ r=>r,λ_ _ _ e o=>⟨e,o,λ_ _ r=>r⟩,λ_ _ _ _ _ p=>.inl p,λp H' x _ h=>by
  funext b;show upd (er p H') p x b=H' b;by_cases z:b=p
  ·rw[z,gF,h]
  ·rw[gz z];unfold er;rw[if_neg z],λ_ _ _ h=>h,λ_ _ _ _ _ _ h=>h⟩
theorem HW.rs(z:HW X F gU H1 Hf M1 T){σ:L2.St}{δ:kZ}(r:R X.K F gU H1 σ δ M1):R X.K F gU Hf σ δ M1:=⟨z.ok,r.len,λi d q=>by obtain⟨v,h1,h2⟩:=r.sl i d q;exact⟨v,h1,z.rep d v h2⟩⟩
theorem HW.rt(z:HW X F gU H1 Hf M1 T){gS:List af}{H':Hp}{M':Ms}{iF:L2.St}{jY:kZ}(e:Ext F gU Hf M1 gS H' M')(r':R X.K F gS H' iF jY M'):R X.K F gS (T H') iF jY M':=by
 obtain⟨_,h2,h3⟩:=z.e _ _ _ e r'.ok;exact⟨h2,r'.len,λi d q=>by obtain⟨v,q1,q2⟩:=r'.sl i d q;exact⟨v,q1,h3 d v q2⟩⟩
theorem HW.dict{a:af}{gZ:List (Key×V)}{ob:bE}(o:OK X.K F gU H1 M1)(ha:H1 a=aa (.dK gZ))(na:a∉lv gU M1++F)(n4:∀o u,X.gJ a≠aa (.qv o u)):
  HW X F gU H1 (upd H1 a (.qv ob (.dK gZ))) M1 (λH'=>upd H' a (.dK gZ)):=by
 have t:Lp gZ (.dK gZ):=.inl rfl;have t':Lp gZ (.qv ob (.dK gZ)):=.inr ⟨ob,rfl⟩;refine⟨o.two ha na t t',λd v r=>Rep.alt (vH ha t t') d v r,λgS H' M' e o=>?_,λgS H' M' P e p=>?_,λp H' x hp hx=>?_,λp H' hp hn=>?_,λgS H' M' b φ e h=>?_⟩
 ·obtain⟨g1,g2,g3⟩:=Ext.vj ha na e;exact⟨g3,o.two g1 g2 t' t,λd v rr=>Rep.alt (vH g1 t' t) d v rr⟩
 ·obtain⟨g1,_,_⟩:=Ext.vj ha na e;exact .inr ⟨a,ob,_,g1,n4,p⟩
 ·have Th:p≠a:=λz=>by rw[z,gF] at hp;cases hp
  funext b;by_cases z:b=p
  ·rw[z,gF,gz Th];exact hx.symm
  ·rw[gz z];by_cases y:b=a
   ·rw[y,gF,gF]
   ·rw[gz y,gz y];unfold er;rw[if_neg z]
 ·rw[gz λz=>by rw[z,gF] at hp;cases hp];exact hn
 ·obtain⟨g1,_,_⟩:=Ext.vj ha na e;rw[gz λz=>by rw[z,g1] at h;cases h];exact h
end
def WR (K:W.Frag)(α:List af)(Hh:Hp):OD->HO->Prop
 |.lst ds,ho=>∃vs,ho=.lst vs/\gu K α Hh ds vs
 |.kY ks ds,ho=>∃vs,ho=.dK (ks.zip vs)/\ks.length=ds.length/\gu K α Hh ds vs
 |.ins _ _ _,_=>False
 |.fz _ _ _ _,_=>False
noncomputable def OD.toD:OD->D
 |.lst ds=>.lst ds
 |.kY ks ds=>.kY ks ds
 |.ins C ns ds=>.ins C ns ds
 |.fz k _ _ _=>.loc k
abbrev DF:=kZ->Ms->(OD->Ms->Prop)->Prop
abbrev fK(K:W.Frag)(F α:List af)(H:Hp)(M:Ms)(Q:VK):OD->Ms->Prop:=λo M1=>∀p ho gU H1,Ext F α H M gU H1 M1->OK K F gU H1 M1->H1 p=ak->WR K gU (iS F gU M1 H1) o ho->Q (.ref p) (upd H1 p ho)
def lF (K:W.Frag)(t:DF):TE:=λσ H Q=>∃F α δ M,R K F α H σ δ M/\t δ M (fK K F α H M Q)
structure JF(X:Cx)(e:aM)(t:DF):Prop where
 mono:∀δ M (P Q:OD->Ms->Prop),(∀d M,P d M->Q d M)->t δ M P->t δ M Q
 p:PE X e (lF X.K t)
section
variable {K:W.Frag} {F α gS:List af} {H H':Hp} {M M':Ms}
theorem fK.grow{Q:VK}(e:Ext F α H M gS H' M'):∀d uL,fK K F α H M Q d uL->fK K F gS H' M' Q d uL:=λd uL h p ho lR H2 e2 o2 hp r2=>h p ho lR H2 (e.trans e2) o2 hp r2
theorem fK.qv{Q:VK}{o:OD}{M1:Ms}(h:vK K F α H M Q o.toD M1):fK K F α H M Q o M1:=by
 intro p ho gU H1 e1 o1 hp rh;have q:vK K F gU H1 M1 Q o.toD M1:=vK.grow e1 _ _ h;refine vK.new o1 hp q λe=>?_;cases o with
 |lst ds=>obtain⟨vs,rfl,r⟩:=rh;exact lx o1 hp r e
 |kY ks ds=>
  obtain⟨vs,rfl,l,r⟩:=rh;show Rep K _ _ (.kY ks ds) _;unfold Rep;exact⟨p,vs,rfl,.inl (by show jg _ _ p=_;rw[jz (o1.new hp),gF]),l,e.wd r⟩
 |ins C ns ds=>exact rh.elim
 |fz k ep ks ds=>exact rh.elim
theorem fK.own{Q:VK}{o:OD}{M1:Ms}(h:vK K F α H M Q (.loc M1.length) (M1++[aa o])):fK K F α H M Q o M1:=by
 intro p ho gU H1 e1 o1 hp rh;have sm:=o1.wg (x:=o) hp (wb (o:=ho) hp);obtain⟨o2,e2⟩:=o1.enter (x:=o) (H':=upd H1 p ho) hp (wb hp) (by
  cases o with
  |lst ds=>obtain⟨vs,rfl,r⟩:=rh;exact⟨vs,gF,gu.mono (bY _ _) sm _ _ r⟩
  |kY ks ds=>obtain⟨vs,rfl,l,r⟩:=rh;exact⟨vs,gF,l,gu.mono (bY _ _) sm _ _ r⟩
  |ins C ns ds=>exact rh.elim
  |fz k ep ks ds=>exact rh.elim)
 refine h _ _ _ (e1.trans e2) o2 ?_;unfold Rep;exact⟨p,by rw[<-o1.ml];simp,rfl⟩
end
section
variable {X:Cx} {a b c e:aM} {es rest:List aM} {ta tb tc te:DE} {tA Il:DT} {tt:DA} {pos p p2 p3:cu} {x:ar} {tf:DF}
def iq (t:DF):DE:=λδ M Q=>t δ M λo M1=>Q o.toD M1
def ue (t:DF):DE:=λδ M Q=>t δ M λo M1=>Q (.loc M1.length) (M1++[aa o])
theorem iV(h:JF X e tf):JE X e (iq tf):=⟨λδ M P Q w q=>h.mono δ _ _ _ (λo M1 q=>w _ _ q) q,PE.weak h.p λσ H Q ⟨F,α,δ,M,r,q⟩=>⟨F,α,δ,M,r,h.mono δ _ _ _ (λo M1 q=>fK.qv q) q⟩⟩
theorem uN(h:JF X e tf):JE X e (ue tf):=⟨λδ M P Q w q=>h.mono δ _ _ _ (λo M1 q=>w _ _ q) q,PE.weak h.p λσ H Q ⟨F,α,δ,M,r,q⟩=>⟨F,α,δ,M,r,h.mono δ _ _ _ (λo M1 q=>fK.own q) q⟩⟩
def iw (tt:DA):DF:=λδ M Q=>tt δ M λds M1=>ds.length<=aH/\Q (.lst ds) M1
theorem ii(h:JA X es tt):JF X (.List es pos) (iw tt):=by refine⟨λδ M P Q w q=>h.mono δ _ _ _ (λds M1 q=>⟨q.1,w _ _ q.2⟩) q,PE.weak (Ph h.p) λσ H Q q=>?_⟩;obtain⟨F,α,δ,M,r,q⟩:=q;refine⟨F,α,δ,M,r,h.mono δ _ _ _ (λds M1 q vs gU H1 e1 o1 r1=>?_) q⟩;exact⟨by rw[<-gu.length ds vs r1];exact q.1,λp hp=>q.2 p _ gU H1 e1 o1 hp ⟨vs,rfl,r1⟩⟩
end
structure iE where
 nx:kZ->Ms->Prop
 rt:DK
 bk:kZ->Ms->Prop
 ct:kZ->Ms->Prop
abbrev DS:=iE->kZ->Ms->Prop
structure iE.le(P Q:iE):Prop where
 nx:∀δ M,P.nx δ M->Q.nx δ M
 rt:∀d M,P.rt d M->Q.rt d M
 bk:∀δ M,P.bk δ M->Q.bk δ M
 ct:∀δ M,P.ct δ M->Q.ct δ M
theorem iE.le.refl(P:iE):P.le P:=⟨λ_ _ h=>h,λ_ _ h=>h,λ_ _ h=>h,λ_ _ h=>h⟩
abbrev sK(K:W.Frag)(F α:List af)(H:Hp)(M:Ms)(Q:L2.St->Hp->Prop):kZ->Ms->Prop:=λjY M'=>∀iF gS H',Ext F α H M gS H' M'->R K F gS H' iF jY M'->Q iF H'
noncomputable def ly(K:W.Frag)(F α:List af)(H:Hp)(M:Ms)(E:Ends):iE:=⟨sK K F α H M E.nx,vK K F α H M E.rt,sK K F α H M E.bk,sK K F α H M E.ct⟩
def lS (K:W.Frag)(t:DS):TS:=λE σ H=>∃F α δ M,R K F α H σ δ M/\t (ly K F α H M E) δ M
section
variable {K:W.Frag} {F α gS:List af} {H H':Hp} {M M':Ms}
theorem sK.grow{Q:L2.St->Hp->Prop}(e:Ext F α H M gS H' M'):∀d uL,sK K F α H M Q d uL->sK K F gS H' M' Q d uL:=λd uL h v lR H2 e2 o2=>h v lR H2 (e.trans e2) o2
theorem ly.grow{E:Ends}(e:Ext F α H M gS H' M'):(ly K F α H M E).le (ly K F gS H' M' E):=⟨sK.grow e,vK.grow e,sK.grow e,sK.grow e⟩
end
structure JS(X:Cx)(st:br)(t:DS):Prop where
 mono:∀(P Q:iE) δ M,P.le Q->t P δ M->t Q δ M
 p:PS X st (lS X.K t)
structure rJ(X:Cx)(st:List br)(t:DS):Prop where
 mono:∀(P Q:iE) δ M,P.le Q->t P δ M->t Q δ M
 p:pH X st (lS X.K t)
section
variable {X:Cx} {c e:aM} {te:DE} {tA:DT} {t u:DS} {pos p p2:cu} {x:ar} {st:br} {DJ as bs:List br}
def gW:DS:=λE δ M=>E.nx δ M
def gN (t u:DS):DS:=λE δ M=>t {E with nx:=u E} δ M
theorem iB:rJ X [] gW:=⟨λP Q δ M w q=>w.nx _ _ q,pH.weak Fw λE σ H ⟨F,α,δ,M,r,q⟩=>q σ α H Ext.refl r⟩
theorem gO(h:JS X st t):rJ X [st] t:=⟨h.mono,Fx h.p⟩
theorem gE(h1:JS X st t)(h2:rJ X DJ u):rJ X (st::DJ) (gN t u):=by refine⟨λP Q δ M w q=>h1.mono {P with nx:=u P} {Q with nx:=u Q} _ _ ⟨λδ M q=>h2.mono _ _ _ _ w q,w.rt,w.bk,w.ct⟩ q,pH.weak (sI h1.p h2.p) λE σ H q=>?_⟩;obtain⟨F,α,δ,M,r,q⟩:=q;refine⟨F,α,δ,M,r,h1.mono {ly X.K F α H M E with nx:=u (ly X.K F α H M E)} _ _ _ ⟨λt5 M1 q DC gU H1 e1 r1=>⟨F,gU,t5,M1,r1,h2.mono _ _ _ _ (ly.grow e1) q⟩,λ_ _ q=>q,λ_ _ q=>q,λ_ _ q=>q⟩ q⟩
def ip (te:DE):DS:=λE δ M=>te δ M E.rt
theorem g9(he:JE X e te):JS X (.Return (aa e) pos) (ip te):=⟨λP Q δ M w q=>he.mono δ _ _ _ w.rt q,PS.weak (Io he.p) λE σ H ⟨F,α,δ,M,r,q⟩=>⟨F,α,δ,M,r,q⟩⟩
def N7:DS:=λE δ M=>E.rt .non M
theorem Mp:JS X (.Return ak pos) N7:=⟨λP Q δ M w q=>w.rt _ _ q,PS.weak LC λE σ H ⟨F,α,δ,M,r,q⟩=>q _ α H Ext.refl r.ok lX⟩
def iC (c:DT)(t u:DS):DS:=λE δ M=>c δ M λb M1=>if b=ah then t E δ M1 else u E δ M1
theorem jO(hc:JT X c tA)(ha:rJ X as t)(hb:rJ X bs u):JS X (.If c as bs pos) (iC tA t u):=by
 refine⟨λP Q δ M w q=>hc.mono δ _ _ _ (λb M1 q=>?_) q,PS.weak (NP hc.p ha.p hb.p) λE σ H q=>?_⟩
 ·cases b with
  |true=>rw[if_pos rfl] at q ⊢;exact ha.mono _ _ _ _ w q
  |false=>rw[if_neg ap] at q ⊢;exact hb.mono _ _ _ _ w q
 ·obtain⟨F,α,δ,M,r,q⟩:=q;refine⟨F,α,δ,M,r,hc.mono δ _ _ _ (λb M1 q gU H1 e1 o1=>?_) q⟩;cases b with
  |true=>
   rw[if_pos rfl] at q;show(if ah=ah then _ else _);rw[if_pos rfl];exact⟨F,gU,δ,M1,r.grow e1 o1,ha.mono _ _ _ _ (ly.grow e1) q⟩
  |false=>
   rw[if_neg ap] at q;show(if ai=ah then _ else _);rw[if_neg ap];exact⟨F,gU,δ,M1,r.grow e1 o1,hb.mono _ _ _ _ (ly.grow e1) q⟩
def lz (te:DE):DS:=λE δ M=>te δ M λ_ M1=>E.nx δ M1
theorem oz(he:JE X e te)(hs:cW e ak pos.line X.env=pure ai:=by rfl):JS X (.Expr e pos) (lz te):=by refine⟨λP Q δ M w q=>he.mono δ _ _ _ (λd M1 q=>w.nx _ _ q) q,PS.weak (zF he.p hs) λE σ H q=>?_⟩;obtain⟨F,α,δ,M,r,q⟩:=q;exact⟨F,α,δ,M,r,he.mono δ _ _ _ (λd M1 q v gU H1 e1 o1 r1=>q σ gU H1 e1 (r.grow e1 o1)) q⟩
def ib (i:Nat)(te:DE):DS:=λE δ M=>te δ M λd M1=>E.nx (δ.set i (aa d)) M1
theorem ij(i:Nat)(hN:X.N.Nodup)(he:JE X e te)(hi:X.N[i]?=aa x:=by rfl)(hx:Loc X.env.scope x:=by first|exact df rfl|exact cG rfl)(hs:cW e (aa (.Name x p)) pos.line X.env=pure ai:=by rfl)
(hf:X.fn x=ah\/X.env.scope.names.lookup x=aa .local:=by first|exact .inl rfl|exact .inr rfl|assumption):JS X (.Assign [.Name x p] e pos) (ib i te):=by refine⟨λP Q δ M w q=>he.mono δ _ _ _ (λd M1 q=>w.nx _ _ q) q,PS.weak (Iv hN hi hx he.p hs hf) λE σ H q=>?_⟩;obtain⟨F,α,δ,M,r,q⟩:=q;exact⟨F,α,δ,M,r,he.mono δ _ _ _ (λd M1 q v gU H1 e1 o1 r1=>q _ gU H1 e1 ((r.grow e1 o1).set r1)) q⟩
abbrev DG:=D->kZ->Ms->(kZ->Ms->Prop)->Prop
abbrev Lq:=List D->kZ->Ms->(kZ->Ms->Prop)->Prop
def lG (K:W.Frag)(g:DG):TG:=λv σ H Q=>∃F α δ M d,R K F α H σ δ M/\Rep K α (iS F α M H) d v/\g d δ M (sK K F α H M Q)
def lGs (K:W.Frag)(g:Lq):Lm:=λvs σ H Q=>∃F α δ M ds,R K F α H σ δ M/\gu K α (iS F α M H) ds vs/\g ds δ M (sK K F α H M Q)
structure JG(X:Cx)(tg:aM)(g:DG):Prop where
 mono:∀d δ M (P Q:kZ->Ms->Prop),(∀δ M,P δ M->Q δ M)->g d δ M P->g d δ M Q
 p:PG X tg (lG X.K g)
structure Vh(X:Cx)(tg:List aM)(g:Lq):Prop where
 mono:∀d δ M (P Q:kZ->Ms->Prop),(∀δ M,P δ M->Q δ M)->g d δ M P->g d δ M Q
 p:Ip X tg (lGs X.K g)
theorem PG.weak{tg:aM}{g g':TG}(h:PG X tg g)(w:∀v σ H Q,g' v σ H Q->g v σ H Q):PG X tg g':=λpins s σ H v u Q I r q=>h pins s σ H v u Q I r (w v σ H Q q)
theorem Ip.weak{tg:List aM}{g g':Lm}(h:Ip X tg g)(w:∀v σ H Q,g' v σ H Q->g v σ H Q):Ip X tg g':=λpins s σ H v u Q I r q=>h pins s σ H v u Q I r (w v σ H Q q)
def gR (i:Nat):DG:=λd δ M Q=>Q (δ.set i (aa d)) M
theorem im(i:Nat)(hN:X.N.Nodup)(hi:X.N[i]?=aa x:=by rfl)(hx:Loc X.env.scope x:=by first|exact df rfl|exact cG rfl)(hf:X.fn x=ah\/X.env.scope.names.lookup x=aa .local:=by first|exact .inl rfl|exact .inr rfl|assumption):JG X (.Name x pos) (gR i):=
 ⟨λd δ M P Q w q=>w _ _ q,PG.weak (LD hN hi hx hf) λv σ H Q ⟨F,α,δ,M,d,r,rd,q⟩=>q _ α H Ext.refl (r.set rd)⟩
def qX:Lq:=λds δ M Q=>ds=[]/\Q δ M
def iO (g:DG)(gs:Lq):Lq:=λds δ M Q=>match ds with|d::r=>g d δ M λt5 M1=>gs r t5 M1 Q|[]=>False
theorem sO:Vh X [] qX:=⟨λd δ M P Q w q=>⟨q.1,w _ _ q.2⟩,Ip.weak LF λv σ H Q ⟨F,α,δ,M,ds,r,rd,e,q⟩=>by subst e;unfold gu at rd;exact⟨rd,q σ α H Ext.refl r⟩⟩
theorem iT{g:DG}{gs:Lq}{es:List aM}(h1:JG X e g)(h2:Vh X es gs)(hs:(cD (e::es) X.env).map (·.2)=assign e X.env::(cD es X.env).map (·.2):=by rfl):Vh X (e::es) (iO g gs):=by
 refine⟨λd δ M P Q w q=>?_,Ip.weak (Ir h1.p h2.p hs) λv σ H Q q=>?_⟩
 ·cases d with
  |nil=>exact q.elim
  |cons d r=>exact h1.mono _ _ _ _ _ (λδ M q=>h2.mono _ _ _ _ _ w q) q
 ·obtain⟨F,α,δ,M,ds,r,rd,q⟩:=q;cases ds with
  |nil=>exact q.elim
  |cons d dr=>
   unfold gu at rd;obtain⟨v1,vr,rfl,r1,r2⟩:=rd;refine⟨v1,vr,rfl,F,α,δ,M,d,r,r1,h1.mono _ _ _ _ _ (λt5 M1 q DC gU H1 e1 R1=>?_) q⟩;exact⟨F,gU,t5,M1,dr,R1,e1.wd r2,h2.mono _ _ _ _ _ (sK.grow e1) q⟩
def pQ (n:Nat)(gs:Lq):DG:=λd δ M Q=>match d with|.tup ds=>ds.length=n/\gs ds δ M Q|_=>False
theorem wo{es:List aM}{k n:Nat}{gs:Lq}(h:Vh X es gs)(hc:X.calm=ah:=by rfl)(hn:(cD es X.env).length=n:=by rfl)(l8:(cD es X.env).findIdx? (·.1)=ak:=by rfl):JG X (.Tuple es k pos) (pQ n gs):=by
 refine⟨λd δ M P Q w q=>?_,PG.weak (O4 hc h.p hn l8) λv σ H Q q=>?_⟩
 ·cases d<;>first|exact q.elim|exact⟨q.1,h.mono _ _ _ _ _ w q.2⟩
 ·obtain⟨F,α,δ,M,d,r,rd,q⟩:=q;cases d<;>first|exact q.elim|skip
  unfold Rep at rd;obtain⟨a,vs,rfl,sq,z⟩:=rd;exact⟨a,vs,rfl,nI gX sq,by rw[<-gu.length _ _ z];exact q.1,F,α,δ,M,_,r,z,q.2⟩
def qQ (te:DE)(g:DG):DS:=λE δ M=>te δ M λd M1=>g d δ M1 E.nx
theorem pR{tg:aM}{g:DG}(he:JE X e te)(hg:JG X tg g)(hs:fi [tg] e pos.line X.env=pure ai:=by rfl)(hw:fj [tg] e X.env=pure ak:=by rfl)
(h1:(cD [tg] X.env).map (·.2)=[assign tg X.env]:=by rfl):JS X (.Assign [tg] e pos) (qQ te g):=by refine⟨λP Q δ M w q=>he.mono δ _ _ _ (λd M1 q=>hg.mono _ _ _ _ _ w.nx q) q,PS.weak (Iu he.p hg.p hs hw h1) λE σ H q=>?_⟩;obtain⟨F,α,δ,M,r,q⟩:=q;refine⟨F,α,δ,M,r,he.mono δ _ _ _ (λd M1 q v gU H1 e1 o1 r1=>?_) q⟩;exact⟨F,gU,δ,M1,d,r.grow e1 o1,r1,hg.mono _ _ _ _ _ (sK.grow e1) q⟩
structure PQ(K:W.Frag)(F gU:List af)(H1:Hp)(M1:Ms)(J:It)(items:List D)(st:Ms->Prop):Prop where
 go:∀i F' gS H' M',gU <+: gS->jc (iS F gU M1 H1) (iS F' gS M' H')->OK K F' gS H' M'->st M'->i<items.length->J.go i H'
 NR:∀(i:Nat) F' gS H' M' x H2 d,gU <+: gS->jc (iS F gU M1 H1) (iS F' gS M' H')->OK K F' gS H' M'->st M'->items[i]?=aa d->J.NR i H' x H2->OK K F' gS H2 M'/\Ext F' gS H' M' gS H2 M'/\Rep K gS (iS F' gS M' H2) d x
 stop:∀F' gS H' M',gU <+: gS->jc (iS F gU M1 H1) (iS F' gS M' H')->OK K F' gS H' M'->st M'->J.stop items.length H'
abbrev DI:=kZ->Ms->(List D->(Ms->Prop)->Ms->Prop)->Prop
abbrev iK(X:Cx)(F α:List af)(H:Hp)(M:Ms)(Q:It->Hp->Prop):List D->(Ms->Prop)->Ms->Prop:=λitems st M1=>∀J gU H1 Hf T,Ext F α H M gU H1 M1->OK X.K F gU H1 M1->HW X F gU H1 Hf M1 T->PQ X.K F gU Hf M1 J items st->Q J Hf
def lI (X:Cx)(t:DI):TI:=λσ H Q=>∃F α δ M,R X.K F α H σ δ M/\t δ M (iK X F α H M Q)
structure JI(X:Cx)(tg e:aM)(t:DI):Prop where
 mono:∀δ M (P Q:List D->(Ms->Prop)->Ms->Prop),(∀l s M,P l s M->Q l s M)->t δ M P->t δ M Q
 p:PI X tg e (lI X t)
theorem PI.weak{tg:aM}{t t':TI}(h:PI X tg e t)(w:∀σ H Q,t' σ H Q->t σ H Q):PI X tg e t':=λpins s σ H Q I q=>h pins s σ H Q I (w σ H Q q)
def lB (g:DG)(tb:DS)(st:Ms->Prop)(E:iE):List D->kZ->Ms->Prop
 |[]=>λδ M=>E.nx δ M
 |x::xs=>λδ M=>g x δ M λt5 M1=>tb {E with nx:=λjY M'=>st M'/\lB g tb st E xs jY M',ct:=λjY M'=>st M'/\lB g tb st E xs jY M',bk:=E.nx} t5 M1
def uf (ti:DI)(g:DG)(tb:DS):DS:=λE δ M=>ti δ M λitems st M1=>st M1/\lB g tb st E items δ M1
theorem ug{g:DG}{tb:DS}{st:Ms->Prop}(hg:∀d δ M (P Q:kZ->Ms->Prop),(∀δ M,P δ M->Q δ M)->g d δ M P->g d δ M Q)(hb:∀(P Q:iE) δ M,P.le Q->tb P δ M->tb Q δ M){P Q:iE}(w:P.le Q):∀xs δ M,lB g tb st P xs δ M->lB g tb st Q xs δ M
 |[],δ,M,q=>w.nx _ _ q
 |x::xs,δ,M,q=>hg _ _ _ _ _ (λt5 M1 q=>hb {P with nx:=λjY M'=>st M'/\lB g tb st P xs jY M',ct:=λjY M'=>st M'/\lB g tb st P xs jY M',bk:=P.nx} {Q with nx:=λjY M'=>st M'/\lB g tb st Q xs jY M',ct:=λjY M'=>st M'/\lB g tb st Q xs jY M',bk:=Q.nx} _ _ ⟨λjY M' q=>⟨q.1,ug hg hb w xs jY M' q.2⟩,w.rt,w.nx,λjY M' q=>⟨q.1,ug hg hb w xs jY M' q.2⟩⟩ q) q
theorem wq{tg:aM}{body:List br}{ti:DI}{g:DG}{tb:DS}(hi:JI X tg e ti)(hg:JG X tg g)(hb:rJ X body tb)(hp:eT (model X.prog X.w) X.A X.env X.xe:=by exact eT.never)(hc:X.calm=ah:=by rfl)
(hs:∀x,dk e X.env x=pure x:=by intro _;rfl):JS X (.For tg e body [] pos) (uf ti g tb):=by
 refine⟨λP Q δ M w q=>hi.mono δ _ _ _ (λitems st M1 q=>⟨q.1,ug hg.mono hb.mono w _ _ _ q.2⟩) q,BO (Ix hp hc hi.p hg.p hb.p hs) λE σ H q=>?_⟩;obtain⟨F,α,δ,M,r,q⟩:=q;refine⟨F,α,δ,M,r,hi.mono δ _ _ _ (λitems st M1 q J gU H1 Hf T e1 o1 z it=>?_) q⟩;obtain⟨s1,q⟩:=q;refine⟨λi m iF H'=>m=items.length- i/\i<=items.length/\∃gS jY M',Ext F gU Hf M1 gS H' M'/\R X.K F gS H' iF jY M'/\st M'/\lB g tb st (ly X.K F α H M E) (items.drop i) jY M',⟨_,rfl,cU _,gU,δ,M1,Ext.refl,z.rs (r.grow e1 o1),s1,q⟩,?_⟩
 rintro i m iF H' ⟨rfl,YM,gS,jY,M',e',r',s',q'⟩
 by_cases FQ:i<items.length
 ·rw[dM FQ] at q';refine .inr ⟨it.go i F gS H' M' e'.pre e'.same r'.ok s' FQ,λBz H2=>∃lR Mq M2,Ext F gU Hf M1 lR H2 M2/\R X.K F lR H2 Bz Mq M2/\st M2/\lB g tb st (ly X.K F α H M E) (items.drop (i+1)) Mq M2,λBz H2 h=>⟨_,by omega,rfl,FQ,h⟩,λx H2 y=>?_⟩;obtain⟨o2,e2,rx⟩:=it.NR i F gS H' M' x H2 items[i] e'.pre e'.same r'.ok s' (by simp[FQ]) y;refine⟨F,gS,jY,M',items[i],r'.grow e2 o2,rx,hg.mono _ _ _ _ _ (λJm M3 q3 Iy uc H3 e3 r3=>⟨F,uc,Jm,M3,r3,hb.mono _ _ _ _ ?_ q3⟩) q'⟩;have qW:=(e'.trans e2).trans e3;refine⟨λLr M4 q4 Mr qP H4 e4 r4=>⟨qP,Lr,M4,qW.trans e4,r4,q4⟩,λd M4 q4 v qP H4 e4 o4 r4=>?_,λLr M4 q4 Mr qP H4 e4 r4=>?_,λLr M4 q4 Mr qP H4 e4 r4=>⟨qP,Lr,M4,qW.trans e4,r4,q4⟩⟩
  ·obtain⟨t1,t2,t3⟩:=z.e qP H4 M4 (qW.trans e4) o4;exact z.h qP H4 M4 _ (qW.trans e4) (q4 v qP (T H4) (e1.trans t1) t2 (t3 d v r4))
  ·obtain⟨t1,_,_⟩:=z.e qP H4 M4 (qW.trans e4) r4.ok;exact z.h qP H4 M4 _ (qW.trans e4) (q4 Mr qP (T H4) (e1.trans t1) (z.rt (qW.trans e4) r4))
 ·have e:i=items.length:=by omega
  subst e;rw[List.drop_length] at q';obtain⟨t1,_,_⟩:=z.e gS H' M' e' r'.ok;exact .inl ⟨it.stop F gS H' M' e'.pre e'.same r'.ok s',z.h gS H' M' _ e' (q' iF gS (T H') (e1.trans t1) (z.rt e' r'))⟩
end
mutual
noncomputable def nl:D->Bool
 |.non|.bl _|.int _|.str _|.ty _|.pd _|.cls _=>ah
 |.loc _=>ai
 |.tup ds|.lst ds|.kY _ ds|.ins _ _ ds|.exc _ _ ds=>nK ds
noncomputable def nK:List D->Bool
 |[]=>ah
 |d::ds=>nl d&&nK ds
end
mutual
theorem Rep.nl {K:W.Frag} {α β:List af} {H:Hp}:∀(d:D) (v:V),L3.nl d=ah->Rep K α H d v->Rep K β H d v
 |.non,v,_,h=>by unfold Rep at h ⊢;exact h
 |.bl _,v,_,h=>by unfold Rep at h ⊢;exact h
 |.int _,v,_,h=>by unfold Rep at h ⊢;exact h
 |.str _,v,_,h=>by unfold Rep at h ⊢;exact h
 |.ty _,v,_,h=>by unfold Rep at h ⊢;exact h
 |.pd _,v,_,h=>by unfold Rep at h ⊢;exact h
 |.cls _,v,_,h=>by unfold Rep at h ⊢;exact h
 |.loc _,v,n,h=>by unfold L3.nl at n;cases n
 |.tup ds,v,n,h=>by unfold Rep at h ⊢;unfold L3.nl at n;obtain⟨a,vs,r,q,z⟩:=h;exact⟨a,vs,r,q,gu.nl ds vs n z⟩
 |.lst ds,v,n,h=>by unfold Rep at h ⊢;unfold L3.nl at n;obtain⟨a,vs,r,q,z⟩:=h;exact⟨a,vs,r,q,gu.nl ds vs n z⟩
 |.kY ks ds,v,n,h=>by unfold Rep at h ⊢;unfold L3.nl at n;obtain⟨a,vs,r,q,l,z⟩:=h;exact⟨a,vs,r,q,l,gu.nl ds vs n z⟩
 |.ins C ns ds,v,n,h=>by unfold Rep at h ⊢;unfold L3.nl at n;obtain⟨a,dx,vs,r,q,l,z⟩:=h;exact⟨a,dx,vs,r,q,l,gu.nl ds vs n z⟩
 |.exc C ns ds,v,n,h=>by unfold Rep at h ⊢;unfold L3.nl at n;obtain⟨a,vs,r,q,l,z⟩:=h;exact⟨a,vs,r,q,l,gu.nl ds vs n z⟩
theorem gu.nl {K:W.Frag} {α β:List af} {H:Hp}:∀(d:List D) (v:List V),L3.nK d=ah->gu K α H d v->gu K β H d v
 |[],v,_,h=>by unfold gu at h ⊢;exact h
 |d::ds,v,n,h=>by unfold gu at h ⊢;unfold L3.nK at n;rw[aP] at n;obtain⟨u,r,q,z,y⟩:=h;exact⟨u,r,q,Rep.nl d u n.1 z,gu.nl ds r n.2 y⟩
end
theorem vI:∀ds:List D,nK ds=ds.all nl
 |[]=>rfl
 |d::ds=>by unfold nK;rw[dq,vI ds]
theorem wt(ds es:List D):nK (ds++es)=(nK ds&&nK es):=by simp[vI]
theorem Mt{β:Type}{f:β->D}(h:∀b,nl (f b)=ah)(l:List β):nK (l.map f)=ah:=by rw[vI];simp[h]
noncomputable def Vi(k:Nat):Option (Option OD)->D
 |some (aa o)=>o.toD
 |_=>.loc k
noncomputable def vw(M:Ms):D->D
 |.loc k=>Vi k M[k]?
 |d=>d
noncomputable def fz(M:Ms):D->D
 |.tup ds=>.tup (ds.map (vw M))
 |d=>vw M d
section
variable {K:W.Frag} {F α:List af} {H:Hp} {M:Ms}
theorem oA:jc (iS F α M H) (jg F H):=λb o e=>by obtain⟨z,q⟩:=ig e;exact kb e (λw=>z (aY _ w)) q
theorem OK.WS(o:OK K F α H M){a:af}(h:a∈α):a∉F:=λw=>(o.fr a w).1 h
theorem wu(o:OK K F α H M):∀(d:D) (v:V),Rep K α (iS F α M H) d v->Rep K α (jg F H) (vw M d) v:=λd v h=>by
 have gen:Rep K α (jg F H) d v:=Rep.mono (aQ _) oA d v h;cases d with
 |loc k=>
  show Rep K α _ (Vi k M[k]?) v;cases e:M[k]? with
  |none=>exact gen
  |some x=>
   cases x with
   |none=>exact gen
   |some y=>
    obtain⟨a,ea,ra⟩:=o.own k y e;unfold Rep at h;obtain⟨a',BP,rfl⟩:=h;rw[ea] at BP;cases BP;have hF:a∉F:=o.WS (bT ea);cases y with
    |lst ds=>
     obtain⟨vs,q,r⟩:=ra;show Rep K α _ (.lst ds) _;unfold Rep;exact⟨a,vs,rfl,jK hF q rfl,gu.mono (aQ _) oA _ _ r⟩
    |kY ks ds=>
     obtain⟨vs,q,l,r⟩:=ra;show Rep K α _ (.kY ks ds) _;unfold Rep;exact⟨a,vs,rfl,.inl (jK hF q rfl),l,gu.mono (aQ _) oA _ _ r⟩
    |ins C ns ds=>
     obtain⟨dx,vs,q,l,r⟩:=ra;show Rep K α _ (.ins C ns ds) _;unfold Rep;exact⟨a,dx,vs,rfl,jK hF q rfl,l,gu.mono (aQ _) oA _ _ r⟩
    |fz j ep ks ds=>
     show Rep K α _ (.loc j) _;unfold Rep;exact⟨a,ra.1,rfl⟩
 |_=>exact gen
theorem k8{k:Nat}{d:D}(e:vw M (.loc k)=d):d=.loc k\/∃o,M[k]?=aa (aa o)/\d=o.toD:=by
 have e:Vi k M[k]?=d:=e;cases h:M[k]? with
 |none=>rw[h] at e;exact .inl e.symm
 |some x=>
  cases x with
  |none=>rw[h] at e;exact .inl e.symm
  |some o=>rw[h] at e;exact .inr ⟨o,rfl,e.symm⟩
theorem FR(o:OK K F α H M):∀(ds:List D) (vs:List V),gu K α (iS F α M H) ds vs->gu K α (jg F H) (ds.map (vw M)) vs
 |[],vs,h=>by unfold gu at h;subst h;exact gu.nil
 |d::ds,vs,h=>by unfold gu at h;obtain⟨v,r,rfl,z,y⟩:=h;exact gu.cons (wu o d v z) (FR o ds r y)
theorem Jn(o:OK K F α H M):∀(d:D) (v:V),Rep K α (iS F α M H) d v->Rep K α (jg F H) (fz M d) v:=λd v h=>by
 cases d with
 |tup ds=>
  unfold Rep at h;obtain⟨a,vs,rfl,sq,z⟩:=h;show Rep K α _ (.tup _) _;unfold Rep;exact⟨a,vs,rfl,nI oA sq,FR o _ _ z⟩
 |_=>exact wu o _ v h
theorem kF(o:OK K F α H M){d:D}{v:V}{ds:List D}(h:Rep K α (iS F α M H) d v)(e:vw M d=.lst ds):∃a vs,v=.ref a/\H a=aa (.lst vs)/\gu K α (iS F α M H) ds vs:=by
 cases d with
 |lst es=>
  cases(show(D.lst es)=.lst ds from e);unfold Rep at h;obtain⟨a,vs,rfl,q,z⟩:=h;exact⟨a,vs,rfl,gX _ _ q,z⟩
 |loc k=>
  rcases k8 e with e|⟨x,hk,e⟩
  ·cases e
  ·cases x<;>cases e;obtain⟨a,ea,vs,q,r⟩:=o.own k _ hk;unfold Rep at h;obtain⟨a',BP,rfl⟩:=h;rw[ea] at BP;cases BP;exact⟨a,vs,rfl,q,r⟩
 |_=>cases e
theorem _root_.L2.vf.kr{H:Hp}{a:af}{gZ:List (Key×V)}{k:Key}(e:Rd H a (.dK gZ)):vf H a (kV k) (rE gZ k):=.inl ⟨gZ,k,e,rfl,rfl⟩
theorem zW(o:OK K F α H M){d:D}{v:V}{ks:List Key}{ds:List D}(h:Rep K α (iS F α M H) d v)(e:vw M d=.kY ks ds):∃a vs,v=.ref a/\Rd H a (.dK (ks.zip vs))/\ks.length=ds.length/\gu K α (iS F α M H) ds vs:=by
 cases d with
 |kY ls es=>
  cases(show(D.kY ls es)=.kY ks ds from e);unfold Rep at h;obtain⟨a,vs,rfl,q,l,z⟩:=h;exact⟨a,vs,rfl,zT gX q,l,z⟩
 |loc k=>
  rcases k8 e with e|⟨x,hk,e⟩
  ·cases e
  ·cases x<;>cases e;obtain⟨a,ea,vs,q,l,r⟩:=o.own k _ hk;unfold Rep at h;obtain⟨a',BP,rfl⟩:=h;rw[ea] at BP;cases BP;exact⟨a,vs,rfl,.inl q,l,r⟩
 |_=>cases e
theorem Eg(o:OK K F α H M){d:D}{v:V}{C:af}{ns:List ar}{ds:List D}(h:Rep K α (iS F α M H) d v)(e:vw M d=.ins C ns ds):∃a dx vs,v=.ref a/\H a=aa (.ins C dx (ns.zip vs))/\ns.length=ds.length/\gu K α (iS F α M H) ds vs:=by
 cases d with
 |ins C' ls es=>
  cases(show(D.ins C' ls es)=.ins C ns ds from e);unfold Rep at h;obtain⟨a,dx,vs,rfl,q,l,z⟩:=h;exact⟨a,dx,vs,rfl,gX _ _ q,l,z⟩
 |loc k=>
  rcases k8 e with e|⟨x,hk,e⟩
  ·cases e
  ·cases x<;>cases e;obtain⟨a,ea,dx,vs,q,l,r⟩:=o.own k _ hk;unfold Rep at h;obtain⟨a',BP,rfl⟩:=h;rw[ea] at BP;cases BP;exact⟨a,dx,vs,rfl,q,l,r⟩
 |_=>cases e
theorem Eh{d:D}{ds:List D}(e:vw M d=.tup ds):d=.tup ds:=by
 cases d with
 |loc k=>rcases k8 e with e|⟨x,hk,e⟩<;>first|cases e|(cases x<;>cases e)
 |_=>exact e
theorem lU{d:D}{x:ar}(e:vw M d=.str x):d=.str x:=by
 cases d with
 |loc k=>rcases k8 e with e|⟨x,hk,e⟩<;>first|cases e|(cases x<;>cases e)
 |_=>exact e
theorem rK{d:D}{x:List Int}(e:vw M d=.pd x):d=.pd x:=by
 cases d with
 |loc k=>rcases k8 e with e|⟨x,hk,e⟩<;>first|cases e|(cases x<;>cases e)
 |_=>exact e
theorem uh{d:D}{x:Int}(e:vw M d=.int x):d=.int x:=by
 cases d with
 |loc k=>rcases k8 e with e|⟨x,hk,e⟩<;>first|cases e|(cases x<;>cases e)
 |_=>exact e
theorem nk(o:OK K F α H M){d:D}{v:V}{ds:List D}(h:Rep K α (iS F α M H) d v)(e:vw M d=.tup ds):∃a vs,v=.ref a/\vD K H a vs/\gu K α (iS F α M H) ds vs:=by cases Eh e;unfold Rep at h;obtain⟨a,vs,rfl,q,z⟩:=h;exact⟨a,vs,rfl,nI gX q,z⟩
end
abbrev GP:=List D->(D->Prop)->Prop
def cl (g:GP):GN:=λds M Q=>nK ds=ah/\g ds λd=>Q d M
abbrev pS(g:GP):Prop:=∀ds (P Q:D->Prop),(∀d,P d->Q d)->g ds P->g ds Q
theorem Mu{g:GP}(m:pS g):lV (cl g):=λxs M P Q w q=>⟨q.1,m _ _ _ (λd q=>w _ _ q) q.2⟩
noncomputable def k9(n:Nat)(ds:List D):kZ:=ds.map aa++aU (n- ds.length) ak
def BQ (n m:Nat)(tb:DS):GN:=λds M Q=>ds.length=m/\tb ⟨λ_ M'=>Q .non M',Q,λ_ _=>False,λ_ _=>False⟩ (k9 n ds) M
def wv (n m:Nat)(tb:DS):GP:=λds Q=>ds.length=m/\tb ⟨λ_ _=>Q .non,λd M'=>nl (fz M' d)=ah/\Q (fz M' d),λ_ _=>False,λ_ _=>False⟩ (k9 n ds) []
section
variable {P:ao} {w:aE} {K:W.Frag} {mg:ar->Option ae} {base:aq}
theorem vJ{F α:List af}{H:Hp}{M:Ms}{N:List ar}{ds:List D}{vs:List V}(o:OK K F α H M)(r:gu K α (iS F α M H) ds vs):R K F α H (L2.start N vs) (k9 N.length ds) M:=by
 have hl:=gu.length _ _ r;refine⟨o,by simp[L2.start,k9,hl],λi d h=>?_⟩;unfold k9 at h;by_cases hi:i<ds.length
 ·rw[bb (by simpa using hi)] at h;rw[bQ] at h;cases e:ds[i]? with
  |none=>rw[e] at h;cases h
  |some x=>
   rw[e] at h;cases h;obtain⟨v,e1,r1⟩:=gu.get ds vs i d r e;refine⟨v,?_,r1⟩;unfold L2.start;rw[bb (by simp;omega),bQ,e1];rfl
 ·rw[List.getElem?_append_right (by simp;omega)] at h;have:=bT h;rw[List.mem_replicate] at this;cases this.2
theorem Jo{n:List ar}{ps:List ar}{X:Cx}{body:List br}{tb:DS}(hJ:rJ X body tb){H:Hp}{vs:List V}{Q:VK}{E:XK}(hK:X.K=K)(h:pz K (BQ n.length ps.length tb) vs H Q E):
  ∃t,QB X body t/\t {nx:=λ_ H'=>Q .non H',rt:=Q} (L2.start n vs) H:=by subst hK;obtain⟨F,α,M,ds,o,r,hl,q⟩:=h;refine⟨_,⟨hJ.p⟩,F,α,k9 n.length ds,M,vJ o r,?_⟩;refine hJ.mono _ _ _ _ ?_ q;exact⟨λδ M' q iF gS H' e r=>q _ gS H' e r.ok lX,λ_ _ q=>q,λ_ _ q=>q.elim,λ_ _ q=>q.elim⟩
theorem mf{F α:List af}{H:Hp}{M:Ms}{lR:List af}{H2:Hp}{M2:Ms}(o:OK K F α H M)(e2:Ext (lv α M++F) [] H [] lR H2 M2)(o2:OK K (lv α M++F) lR H2 M2):Ext F α H M α H2 M/\OK K F α H2 M:=by
 have sm:jc (iS F α M H) (iS F α M H2):=λb x h=>oA _ _ (e2.same b x (by show jg (lv [] []++(lv α M++F)) H b=_;exact h))
 have fr:∀a∈lv α M++F,H2 a=H a:=e2.fr;have al:∀a,qw (H a)≠ak->qw (H2 a)≠ak:=λa h=>by
  by_cases z:a∈lv α M++F
  ·rw[fr a z];exact h
  ·cases e:H a with
   |none=>exact absurd (by rw[e]) h
   |some x=>
    rw[e] at h;have v:qw (aa x)=aa x:=by cases x<;>first|rfl|exact absurd rfl h
    have:=gX _ _ (sm a x (show jg _ H a=_ from jK z e v));rw[this,v];exactλz=>by cases z
 refine⟨⟨aQ _,sm,λa ha=>fr a (aY _ ha)⟩,o.ml,o.nd,λa ha=>⟨(o.fr a ha).1,al a (o.fr a ha).2⟩,λa ha=>al a (o.al a ha),λk x h=>?_,o2.tb⟩;obtain⟨a,ea,ra⟩:=o.own k x h;exact⟨a,ea,ra.mono (aQ _) sm (fr a (bC _ (ow.mpr ⟨k,x,ea,h⟩)))⟩
theorem Jp{n:List ar}{ps:List ar}{X:Cx}{body:List br}{tb:DS}(hJ:rJ X body tb){H:Hp}{vs:List V}{Q:VK}{E:XK}(hK:X.K=K)(h:pz K (cl (wv n.length ps.length tb)) vs H Q E):
  ∃t,QB X body t/\t {nx:=λ_ H'=>Q .non H',rt:=Q} (L2.start n vs) H:=by
 subst hK;obtain⟨F,α,M,ds,o,r,hn,hl,q⟩:=h;have o0:OK X.K (lv α M++F) [] H []:=⟨rfl,List.nodup_nil,λa ha=>⟨by simp,by
  rcases bi.mp ha with ha|ha
  ·exact o.N6 a ha
  ·exact(o.fr a ha).2⟩,λa ha=>(by simp at ha),λk x h=>(by simp at h),o.tb⟩
 have r0:gu X.K [] (iS (lv α M++F) [] [] H) ds vs:=gu.nl ds vs hn r;refine⟨_,⟨hJ.p⟩,lv α M++F,[],k9 n.length ds,[],vJ o0 r0,?_⟩;refine hJ.mono _ _ _ _ ?_ q;refine⟨λδ M' q iF gS H' e r=>?_,λd M' q v gS H' e o' r=>?_,λ_ _ q=>q.elim,λ_ _ q=>q.elim⟩
 ·obtain⟨e1,o1⟩:=mf o e r.ok;exact q _ α H' e1 o1 lX
 ·obtain⟨e1,o1⟩:=mf o e o';exact q.2 v α H' e1 o1 (Rep.nl _ _ q.1 (Jn o' d v r))
end
noncomputable def rL(fr:List (Option Nat))(δ:kZ):kZ:=fr.map λo=>match o with
 |none=>ak
 |some j=>(δ[j]?).getD ak
noncomputable def HX(fr:List (Option Nat))(δ:kZ):kZ:=List.zipWith (λo d=>match o with|none=>ak|some _=>d) fr δ
def Jq (g:DG)(tt:DT)(te:DE)(x:D)(δ:kZ)(M:Ms)(Kk:Option D->kZ->Ms->Prop):Prop:=
 g x δ M λt5 M1=>tt t5 M1 λb M2=>if b=ah then te t5 M2 λd M3=>Kk (aa d) t5 M3 else Kk ak t5 M2
def pT (fr:List (Option Nat))(g:DG)(tt:DT)(te:DE)(st:Ms->Prop)(Q:List D->Ms->Prop):List D->List D->kZ->Ms->Prop
 |[],acc,_,M=>Q acc M
 |x::xs,acc,δ,M=>Jq g tt te x δ M λo t5 M1=>st M1/\match o with
  |some d=>acc.length<aH/\pT fr g tt te st Q xs (acc++[d]) (HX fr t5) M1
  |none=>pT fr g tt te st Q xs acc (HX fr t5) M1
def BR (fr:List (Option Nat))(ti:DI)(g:DG)(tt:DT)(te:DE):DF:=λδ M Q=>ti δ M λitems st M1=>st M1/\pT fr g tt te st (λds M'=>Q (.lst ds) M') items [] (rL fr δ) M1
structure YN(X:Cx)(ifs:List aM)(t:DT):Prop where
 mono:∀δ M (P Q:Bool->Ms->Prop),(∀d M,P d M->Q d M)->t δ M P->t δ M Q
 p:S0 X ifs (lT X.K t)
def G7:DT:=λ_ M Q=>Q ah M
theorem zX{X:Cx}:YN X [] G7:=⟨λδ M P Q w q=>w _ _ q,λpins s σ H Q I ⟨F,α,δ,M,r,q⟩=>Mh pins s σ H Q I (q α H Ext.refl r.ok)⟩
section
variable {K:W.Frag} {F α gS Jf:List af} {H H' RT:Hp} {M M' uL:Ms} {σ:L2.St} {δ:kZ} {p:af}
theorem R.slots(r:R K F α H σ δ M)(fr:List (Option Nat)):R K F α H (L2.slots fr σ) (rL fr δ) M:=by
 refine⟨r.ok,by simp[L2.slots,rL],λi d h=>?_⟩;unfold rL at h;unfold L2.slots;rw[bQ] at h ⊢;cases e:fr[i]? with
 |none=>rw[e] at h;cases h
 |some o=>
  rw[e] at h;cases o with
  |none=>cases h
  |some j=>
   have h:(δ[j]?).getD ak=aa d:=by simpa using h
   cases e2:δ[j]? with
   |none=>rw[e2] at h;cases h
   |some q=>
    rw[e2] at h;have h:q=aa d:=h;subst h;obtain⟨v,e3,r3⟩:=r.sl j d e2;exact⟨v,by show aa ((σ[j]?).getD ak)=_;rw[e3];rfl,r3⟩
theorem R.HX(r:R K F α H σ δ M){fr:List (Option Nat)}(hl:fr.length=δ.length):R K F α H σ (L3.HX fr δ) M:=by
 refine⟨r.ok,by simp[L3.HX,hl,r.len],λi d h=>?_⟩;unfold L3.HX at h;rw[List.getElem?_zipWith] at h;cases e:fr[i]? with
 |none=>rw[e] at h;simp at h
 |some o=>
  cases e2:δ[i]? with
  |none=>rw[e,e2] at h;simp at h
  |some q=>
   rw[e,e2] at h;cases o with
   |none=>simp at h
   |some j=>
    have h:q=aa d:=by simpa using h
    subst h;exact r.sl i d e2
theorem Ext.skip(o:OK K F α H M)(hp:H p=ak)(e:Ext F α H M gS H' M')(e':Ext (p::F) gS H' M' Jf RT uL):Ext F α H M Jf RT uL:=by
 refine⟨e.pre.trans e'.pre,λb x h=>?_,λa ha=>(e'.fr a (aX _ ha)).trans (e.fr a ha)⟩;have hb:b≠p:=λz=>by have:=(ig h).2;rw[z,hp] at this;cases this
 have h1:=ig (e.same b x h);have h2:iS (p::F) gS M' H' b=aa x:=by
  show jg _ H' b=_;refine kb h (λw=>h1.1 ?_) h1.2
  ·simp only [bi,ba] at w ⊢;rcases w with w|w|w
   ·exact .inl w
   ·exact absurd w hb
   ·exact .inr w
 have h3:=ig (e'.same b x h2);show jg _ RT b=_;refine kb h (λw=>h3.1 ?_) h3.2
 ·simp only [bi,ba] at w ⊢;rcases w with w|w
  ·exact .inl w
  ·exact .inr (.inr w)
theorem Ext.G8(hp:H p=ak)(hF:p∉F){x:HO}(e:Ext F α H M gS H' M'):Ext F α H M gS (upd H' p x) M':=by
 refine⟨e.pre,λb y h=>?_,λa ha=>by rw[gz λz=>hF (by rw[<-z];exact ha)];exact e.fr a ha⟩;have hb:b≠p:=λz=>by have:=(ig h).2;rw[z,hp] at this;cases this
 have h1:=ig (e.same b y h);show jg _ _ b=_;exact kb h h1.1 (by rw[gz hb];exact h1.2)
theorem ww{x:HO}:iS (p::F) α M (upd H p x)=iS (p::F) α M H:=by
 funext b;show jg _ _ b=jg _ _ b;by_cases hb:b∈lv α M++p::F
 ·rw[lY hb,lY hb]
 ·rw[jz hb,jz hb,gz λz=>hb (by rw[z];simp)]
theorem OK.G8(o:OK K (p::F) α H M){x:HO}(vx:qw (aa x)=aa x:=by rfl):OK K (p::F) α (upd H p x) M:=by
 have hp:p∉α:=(o.fr p bd).1;refine⟨o.ml,o.nd,λa ha=>⟨(o.fr a ha).1,?_⟩,λa ha=>?_,λk y h=>?_,o.tb.upd (.inl (o.fr p bd).2)⟩
 ·by_cases e:a=p
  ·rw[e,gF,vx];exactλz=>by cases z
  ·rw[gz e];exact(o.fr a ha).2
 ·rw[gz λz=>hp (by rw[<-z];exact ha)];exact o.al a ha
 ·obtain⟨a,ea,ra⟩:=o.own k y h;rw[ww];exact⟨a,ea,ra.mono (aQ _) (jc.refl _) (gz λz=>hp (by rw[<-z];exact bT ea))⟩
theorem R.G8(r:R K (p::F) α H σ δ M){x:HO}(vx:qw (aa x)=aa x:=by rfl):R K (p::F) α (upd H p x) σ δ M:=⟨r.ok.G8 vx,r.len,λi d h=>by obtain⟨v,h1,h2⟩:=r.sl i d h;rw[ww];exact⟨v,h1,h2⟩⟩
theorem R.PR(r:R K F α H σ δ M)(hp:H p=ak){x:HO}(vx:qw (aa x)=aa x:=by rfl):R K (p::F) α (upd H p x) σ δ M:=by
 have o:=r.ok;have Th:p∉α:=λz=>o.al p z (by rw[hp]);have sm:jc (iS F α M H) (iS (p::F) α M (upd H p x)):=λb y h=>by
  obtain⟨z,q⟩:=ig h;have hb:b≠p:=λz=>by rw[z,hp] at q;cases q
  show jg _ _ b=_;refine kb h (λw=>z ?_) (by rw[gz hb];exact q)
  ·simp only [bi,ba] at w ⊢;rcases w with w|w|w
   ·exact .inl w
   ·exact absurd w hb
   ·exact .inr w
 refine⟨⟨o.ml,o.nd,λa ha=>?_,λa ha=>?_,λk y h=>?_,o.tb.upd (.inr hp)⟩,r.len,λi d h=>?_⟩
 ·rcases ba.mp ha with e|e
  ·subst e;exact⟨Th,by rw[gF,vx];exactλz=>by cases z⟩
  ·refine⟨(o.fr a e).1,?_⟩;rw[gz λz=>(o.fr a e).2 (by rw[z,hp])];exact(o.fr a e).2
 ·rw[gz λz=>Th (by rw[<-z];exact ha)];exact o.al a ha
 ·obtain⟨a,ea,ra⟩:=o.own k y h;exact⟨a,ea,ra.mono (aQ _) sm (gz λz=>Th (by rw[<-z];exact bT ea))⟩
 ·obtain⟨v,h1,h2⟩:=r.sl i d h;exact⟨v,h1,Rep.mono (aQ _) sm _ _ h2⟩
theorem zY:er p H p=ak:=by unfold er;rw[if_pos rfl]
theorem uO{b:af}(h:b≠p):er p H b=H b:=by unfold er;rw[if_neg h]
theorem PU{x:HO}(h:H p=aa x):upd (er p H) p x=H:=by
 funext b;by_cases e:b=p
 ·rw[e,gF,h]
 ·rw[gz e,uO e]
theorem Jr(o:OK K (p::F) α H M):iS F α M (er p H)=iS (p::F) α M H:=by
 have hp:p∉α:=(o.fr p bd).1;funext b;show jg _ _ b=jg _ _ b;by_cases e:b=p
 ·subst e;rw[lY (A:=lv α M++b::F) (by simp)];by_cases z:b∈lv α M++F
  ·rw[lY z]
  ·rw[jz z,zY]
 ·by_cases z:b∈lv α M++F
  ·rw[lY z,lY (by simp only [bi,ba] at z ⊢;rcases z with z|z;exact .inl z;exact .inr (.inr z))]
  ·rw[jz z,jz (by simp only [bi,ba] at z ⊢;rintro(w|w|w);exact z (.inl w);exact e w;exact z (.inr w)),uO e]
theorem OK.er(o:OK K (p::F) α H M)(hF:p∉F):OK K F α (L3.er p H) M:=by
 have hp:p∉α:=(o.fr p bd).1;refine⟨o.ml,o.nd,λa ha=>⟨(o.fr a (aX _ ha)).1,?_⟩,λa ha=>?_,λk x h=>?_,o.tb.imp λb y e v=>?_⟩
 ·rw[uO λz=>hF (by rw[<-z];exact ha)];exact(o.fr a (aX _ ha)).2
 ·rw[uO λz=>hp (by rw[<-z];exact ha)];exact o.al a ha
 ·obtain⟨a,ea,ra⟩:=o.own k x h;rw[Jr o];exact⟨a,ea,ra.mono (aQ _) (jc.refl _) (uO λz=>hp (by rw[<-z];exact bT ea))⟩
 ·rw[uO λz=>(o.fr p bd).2 (by rw[<-z,e];exact v)];exact e
theorem Ext.er(hp:H p=ak)(hF:p∉F)(e:Ext F α H M gS H' M'):Ext F α H M gS (L3.er p H') M':=by
 refine⟨e.pre,λb y h=>?_,λa ha=>by rw[uO λz=>hF (by rw[<-z];exact ha)];exact e.fr a ha⟩;have hb:b≠p:=λz=>by have:=(ig h).2;rw[z,hp] at this;cases this
 have h1:=ig (e.same b y h);show jg _ _ b=_;exact kb h h1.1 (by rw[uO hb];exact h1.2)
end
section
variable {X:Cx} {N:List ar} {fr:List (Option Nat)} {scope:bJ} {elt target iter:aM} {ifs:List aM} {ti:DI} {g:DG} {tt:DT} {te:DE} {pos:cu}
theorem rN(hg:∀d δ M (P Q:kZ->Ms->Prop),(∀δ M,P δ M->Q δ M)->g d δ M P->g d δ M Q)(ht:∀δ M (P Q:Bool->Ms->Prop),(∀d M,P d M->Q d M)->tt δ M P->tt δ M Q)(he:∀δ M (P Q:DK),(∀d M,P d M->Q d M)->te δ M P->te δ M Q)
{st:Ms->Prop}{P Q:List D->Ms->Prop}(w:∀l M,P l M->Q l M):∀xs acc δ M,pT fr g tt te st P xs acc δ M->pT fr g tt te st Q xs acc δ M
 |[],acc,δ,M,q=>w _ _ q
 |x::xs,acc,δ,M,q=>by
  unfold pT Jq at q ⊢;refine hg _ _ _ _ _ (λt5 M1 q=>ht _ _ _ _ (λb M2 q=>?_) q) q;cases b with
  |true=>
   rw[if_pos rfl] at q ⊢;exact he _ _ _ _ (λd M3 q=>⟨q.1,q.2.1,rN hg ht he w xs _ _ _ q.2.2⟩) q
  |false=>
   rw[if_neg ap] at q ⊢;exact⟨q.1,rN hg ht he w xs _ _ _ q.2⟩
theorem G9(hI:JI X target iter ti)(hg:∀d δ M (P Q:kZ->Ms->Prop),(∀δ M,P δ M->Q δ M)->g d δ M P->g d δ M Q)(ht:∀δ M (P Q:Bool->Ms->Prop),(∀d M,P d M->Q d M)->tt δ M P->tt δ M Q)(he:∀δ M (P Q:DK),(∀d M,P d M->Q d M)->te δ M P->te δ M Q)
(WT:∀d δ M (P:kZ->Ms->Prop),g d δ M P->g d δ M λt5 M1=>t5.length=δ.length/\P t5 M1){σ:L2.St}{H:Hp}{Q:VK}(h:lF X.K (BR fr ti g tt te) σ H Q):Ja fr (lI X ti) (lG X.K g) (lT X.K tt) (lE X.K te) σ H (λv=>TH X (Q v)):=by
 obtain⟨F,α,δ,M,r,h⟩:=h;refine⟨F,α,δ,M,r,hI.mono δ _ _ _ (λitems st M1 q J gU H0 H1 T e1 o1 z it p hp=>?_) h⟩;obtain⟨s1,q⟩:=q;have Vj:p∉F:=λw=>(z.ok.fr p w).2 (by rw[hp]);refine⟨λi m ys iF H'=>m=items.length- i/\i<=items.length/\∃gS jY M' acc,Ext F gU H1 M1 gS H' M'/\R X.K (p::F) gS H' iF jY M'/\jY.length=fr.length/\st M'/\H' p=aa (.lst ys)/\gu X.K gS (iS (p::F) gS M' H') acc ys/\
   pT fr g tt te st (λds M'=>fK X.K F α H M Q (.lst ds) M') (items.drop i) acc jY M',⟨_,rfl,cU _,gU,rL fr δ,M1,[],Ext.refl.G8 hp Vj,((z.rs (r.grow e1 o1)).slots fr).PR hp,by simp[rL],s1,gF,gu.nil,q⟩,?_⟩
 rintro i m ys iF H' ⟨rfl,YM,gS,jY,M',acc,e',r',Vk,s',hy,ry,q'⟩
 have WU:jc (iS F gU M1 H1) (iS (p::F) gS M' H'):=λb x h=>by
  have hb:b≠p:=λw=>by have:=(ig h).2;rw[w,hp] at this;cases this
  have h1:=ig (e'.same b x h);show jg _ H' b=_;refine kb h (λw=>h1.1 ?_) h1.2
  ·simp only [bi,ba] at w ⊢;rcases w with w|w|w
   ·exact .inl w
   ·exact absurd w hb
   ·exact .inr w
 by_cases FQ:i<items.length
 ·rw[dM FQ] at q';refine .inr ⟨it.go i (p::F) gS H' M' e'.pre WU r'.ok s' FQ,λWV Bz H2=>∃lR Mq M2 Ti,Ext F gU H1 M1 lR H2 M2/\R X.K (p::F) lR H2 Bz Mq M2/\Mq.length=fr.length/\st M2/\H2 p=aa (.lst WV)/\gu X.K lR (iS (p::F) lR M2 H2) Ti WV/\
   pT fr g tt te st (λds M'=>fK X.K F α H M Q (.lst ds) M') (items.drop (i+1)) Ti Mq M2,λWV Bz H2 h=>⟨_,by omega,rfl,FQ,h⟩,λx H2 y=>?_⟩
  obtain⟨o2,e2,rx⟩:=it.NR i (p::F) gS H' M' x H2 items[i] e'.pre WU r'.ok s' (by simp[FQ]) y;unfold pT Jq at q';refine⟨p::F,gS,jY,M',items[i],r'.grow e2 o2,rx,hg _ _ _ _ _ (λJm M3 q3 Iy uc H3 e3 r3=>?_) (WT _ _ _ _ q')⟩;obtain⟨l3,q3⟩:=q3;refine⟨p::F,uc,Jm,M3,r3,ht _ _ _ _ (λb M4 q4 qP H4 e4 o4=>?_) q3⟩;have Vl:=(e2.trans e3).trans e4;have pm:p∈p::F:=bd;cases b with
  |false=>
   rw[if_neg ap] at q4;show(if ai=ah then _ else _);rw[if_neg ap];refine⟨qP,HX fr Jm,M4,acc,Ext.skip z.ok hp e' Vl,(r3.grow e4 o4).HX (by rw[l3,Vk]),by simp[HX,l3,Vk],q4.1,by rw[Vl.fr p pm];exact hy,Vl.wd ry,q4.2⟩
  |true=>
   rw[if_pos rfl] at q4;show(if ah=ah then _ else _);rw[if_pos rfl];refine⟨p::F,qP,Jm,M4,r3.grow e4 o4,he _ _ _ _ (λd M5 q5 v α5 H5 e5 o5 r5=>?_) q4⟩;have WW:=Vl.trans e5;have ry5:=WW.wd ry;refine⟨by rw[WW.fr p pm];exact hy,by rw[<-gu.length _ _ ry];exact q5.2.1,α5,HX fr Jm,M5,acc++[d],(Ext.skip z.ok hp e' WW).G8 hp Vj,(((r3.grow e4 o4).grow e5 o5).HX (by rw[l3,Vk])).G8,by simp[HX,l3,Vk],q5.1,gF,?_,q5.2.2⟩;rw[ww];exact gu.append _ _ _ _ ry5 (gu.one r5)
 ·have e:i=items.length:=by omega
  subst e;rw[List.drop_length] at q';refine .inl ⟨it.stop (p::F) gS H' M' e'.pre WU r'.ok s',?_⟩;have eE:=e'.er hp Vj;have oE:=r'.ok.er Vj;obtain⟨t1,t2,t3⟩:=z.e gS (L3.er p H') M' eE oE;have hn:T (L3.er p H') p=ak:=z.n p _ hp zY;have:=q' p (.lst ys) gS (T (L3.er p H')) (e1.trans t1) t2 hn ⟨ys,rfl,?_⟩
  ·rw[z.c p H' _ hp hy] at this;exact z.h gS H' M' _ e' this
  ·refine gu.imp t3 _ _ ?_;rw[Jr r'.ok];exact ry
abbrev Tj(g:DG):Prop:=∀d δ M (P:kZ->Ms->Prop),g d δ M P->g d δ M λt5 M1=>t5.length=δ.length/\P t5 M1
theorem zZ{i:Nat}:Tj (gR i):=λd δ M P q=>⟨by simp,q⟩
theorem z0(c:md X N fr scope)(hi:JI X target iter ti)(WT:Tj g)
(hg:∀C ex pins gG gJ,JG (zR X scope N C ex pins gG gJ λ_ _=>False) target g)(ht:∀C ex pins gG gJ,YN (zR X scope N C ex pins gG gJ λ_ _=>False) ifs tt)(he:∀C ex pins gG gJ,JE (zR X scope N C ex pins gG gJ λ_ _=>False) elt te)
(yT:X.calm=ah:=by rfl)(hs:∀x,dk iter X.env x=pure x:=by intro _;rfl):JF X (.ListComp elt [⟨target,iter,ifs,0⟩] scope pos) (BR fr ti g tt te):=by
 have mg:=(hg 0 [] [] X.gG X.gJ).mono;have mt:=(ht 0 [] [] X.gG X.gJ).mono;have me:=(he 0 [] [] X.gG X.gJ).mono;exact⟨λδ M P Q w q=>hi.mono _ _ _ _ (λl s M1 q=>⟨q.1,rN mg mt me (λl M q=>w _ _ q) _ _ _ _ q.2⟩) q,
  Ji (Mj c yT hi.p (λ_ _ _ _ _=>(hg _ _ _ _ _).p) (λ_ _ _ _ _=>(ht _ _ _ _ _).p) (λ_ _ _ _ _=>(he _ _ _ _ _).p) hs) λσ H Q h=>G9 hi mg mt me WT h⟩
end
def gI (C:Int->Int->Prop)(f:Int->Int->D):G2:=λx y M Q=>match x,y with|.int i,.int j=>C i j/\Q (f i j) M|_,_=>False
theorem Aa{C:Int->Int->Prop}{f:Int->Int->D}:uM (gI C f):=by
 intro x y M P Q w q;unfold gI at*;split at q
 ·exact⟨q.1,w _ _ q.2⟩
 ·exact q.elim
def qA (f:Int->Int->D):G2:=λx y M Q=>match x,y with|.int i,.int j=>Q (f i j) M|_,_=>False
theorem wx{f:Int->Int->D}:uM (qA f):=by
 intro x y M P Q w q;unfold qA at*;split at q
 ·exact w _ _ q
 ·exact q.elim
section
variable {X:Cx}
theorem Js{K:W.Frag}{f:Int->Int->D}{x y:V}{H:Hp}{Q:VK}(h:rD K (qA f) x y H Q):∃F α M i j,OK K F α H M/\x=.int i/\y=.int j/\vK K F α H M Q (f i j) M:=by
 obtain⟨F,α,M,da,db,o,ra,rb,h⟩:=h;unfold qA at h;split at h<;>first|exact h.elim|skip
 unfold Rep at ra rb;exact⟨F,α,M,_,_,o,ra,rb,h⟩
theorem Tk{K:W.Frag}{C:Int->Int->Prop}{f:Int->Int->D}{x y:V}{H:Hp}{Q:VK}(h:rD K (gI C f) x y H Q):∃F α M i j,OK K F α H M/\x=.int i/\y=.int j/\C i j/\vK K F α H M Q (f i j) M:=by
 obtain⟨F,α,M,da,db,o,ra,rb,h⟩:=h;unfold gI at h;split at h<;>first|exact h.elim|skip
 unfold Rep at ra rb;exact⟨F,α,M,_,_,o,ra,rb,h⟩
theorem mh:JO X .Sub (qA λi j=>.int (i- j)):=⟨wx,λpins s σ H x y v u Q I rx ry h=>by obtain⟨F,α,M,i,j,o,ra,rb,h⟩:=Js h;exact O8 pins s σ H x y v u Q I rx ry ⟨_,_,ra,rb,vK.now o h iA⟩⟩
theorem oB:JO X .Mod (gI (λ_ j=>0<j) λi j=>.int (i%j)):=⟨Aa,λpins s σ H x y v u Q I rx ry h=>by obtain⟨F,α,M,i,j,o,ra,rb,h,h'⟩:=Tk h;exact Pa pins s σ H x y v u Q I rx ry ⟨_,_,ra,rb,h,vK.now o h' iA⟩⟩
theorem Jt:JO X .Pow (gI BA λi j=>.int (i^j.toNat)):=⟨Aa,λpins s σ H x y v u Q I rx ry h=>by obtain⟨F,α,M,i,j,o,ra,rb,h,h'⟩:=Tk h;exact Pb pins s σ H x y v u Q I rx ry ⟨_,_,ra,rb,h,vK.now o h' iA⟩⟩
theorem FS:JC X .Gt (qA λi j=>.bl (decide (j<i))):=⟨wx,λpins s σ H x y v u Q I rx ry h=>by obtain⟨F,α,M,i,j,o,ra,rb,h⟩:=Js h;exact Sv pins s σ H x y v u Q I rx ry ⟨_,_,ra,rb,vK.now o h jd⟩⟩
theorem Tl:JC X .GtE (qA λi j=>.bl (decide (j<=i))):=⟨wx,λpins s σ H x y v u Q I rx ry h=>by obtain⟨F,α,M,i,j,o,ra,rb,h⟩:=Js h;exact Sw pins s σ H x y v u Q I rx ry ⟨_,_,ra,rb,vK.now o h jd⟩⟩
def BS:G2:=λx y M Q=>match x,y with|.int i,.int j=>Q (.bl (decide (i<j))) M|.str i,.str j=>Q (.bl (decide (i.cps.toList<j.cps.toList))) M|_,_=>False
def yW:G2:=λx y M Q=>match x,y with|.int i,.int j=>Q (.bl (decide (i<=j))) M|.str i,.str j=>Q (.bl (!decide (j.cps.toList<i.cps.toList))) M|_,_=>False
theorem yX:JC X .Lt BS:=by
 refine⟨λx y M P Q w q=>?_,λpins s σ H x y v u Q I rx ry h=>?_⟩
 ·unfold BS at*;split at q<;>first|exact q.elim|exact w _ _ q
 ·obtain⟨F,α,M,da,db,o,ra,rb,h⟩:=h;unfold BS at h;split at h<;>first|exact h.elim|skip
  ·unfold Rep at ra rb;exact Ss pins s σ H x y v u Q I rx ry ⟨_,_,ra,rb,vK.now o h jd⟩
  ·unfold Rep at ra rb;exact GV pins s σ H x y v u Q I rx ry ⟨_,_,ra,rb,vK.now o h jd⟩
theorem uP:JC X .LtE yW:=by
 refine⟨λx y M P Q w q=>?_,λpins s σ H x y v u Q I rx ry h=>?_⟩
 ·unfold yW at*;split at q<;>first|exact q.elim|exact w _ _ q
 ·obtain⟨F,α,M,da,db,o,ra,rb,h⟩:=h;unfold yW at h;split at h<;>first|exact h.elim|skip
  ·unfold Rep at ra rb;exact Su pins s σ H x y v u Q I rx ry ⟨_,_,ra,rb,vK.now o h jd⟩
  ·unfold Rep at ra rb;exact G6 pins s σ H x y v u Q I rx ry ⟨_,_,ra,rb,vK.now o h jd⟩
noncomputable def WX:D->Bool
 |.non=>ah
 |_=>ai
theorem FT{K:W.Frag}{α:List af}{H:Hp}{d:D}{v:V}(h:Rep K α H d v):decide (v=.non)=WX d:=by
 cases d<;>unfold Rep at h;case non=>subst h;rfl
 case tup=>obtain⟨_,_,rfl,_⟩:=h;rfl
 case lst=>obtain⟨_,_,rfl,_⟩:=h;rfl
 case kY=>obtain⟨_,_,rfl,_⟩:=h;rfl
 case ins=>obtain⟨_,_,_,rfl,_⟩:=h;rfl
 case exc=>obtain⟨_,_,rfl,_⟩:=h;rfl
 case pd=>obtain⟨_,rfl,_⟩:=h;rfl
 case loc=>obtain⟨_,_,rfl⟩:=h;rfl
 all_goals subst h;rfl
def WY:G2:=λx y M Q=>match y with|.non=>Q (.bl (WX x)) M|_=>False
def Ab:G2:=λx y M Q=>match y with|.non=>Q (.bl (!WX x)) M|_=>False
theorem Tn:JC X .Is WY:=by
 refine⟨λx y M P Q w q=>?_,λpins s σ H x y v u Q I rx ry h=>?_⟩
 ·cases y<;>first|exact q.elim|exact w _ _ q
 ·obtain⟨F,α,M,da,db,o,ra,rb,h⟩:=h;cases db<;>first|exact h.elim|skip
  unfold Rep at rb;exact Pd pins s σ H x y v u Q I rx ry ⟨rb,by rw[FT ra];exact vK.now o h jd⟩
theorem Ju:JC X .IsNot Ab:=by
 refine⟨λx y M P Q w q=>?_,λpins s σ H x y v u Q I rx ry h=>?_⟩
 ·cases y<;>first|exact q.elim|exact w _ _ q
 ·obtain⟨F,α,M,da,db,o,ra,rb,h⟩:=h;cases db<;>first|exact h.elim|skip
  unfold Rep at rb;exact LN pins s σ H x y v u Q I rx ry ⟨rb,by rw[FT ra];exact vK.now o h jd⟩
def gA:G2:=λx y M Q=>match vw M x,vw M y with
 |.int i,.int j=>Q (.int (i+j)) M
 |.str i,.str j=>i.length+j.length<=aH/\Q (.str (i++j)) M
 |.lst xs,.lst ys=>xs.length+ys.length<=aH/\Q (.lst (xs++ys)) M
 |.tup xs,.tup ys=>xs≠[]/\xs.length+ys.length<=aH/\Q (.tup (xs++ys)) M
 |_,_=>False
theorem gH:JO X .Add gA:=by
 refine⟨λx y M P Q w q=>?_,λpins s σ H x y v u Q I rx ry h=>?_⟩
 ·unfold gA at q ⊢;generalize vw M x=a at q ⊢;generalize vw M y=b at q ⊢;split at q<;>first|exact q.elim|exact w _ _ q|exact⟨q.1,w _ _ q.2⟩|exact⟨q.1,q.2.1,w _ _ q.2.2⟩
 ·obtain⟨F,α,M,da,db,o,ra,rb,h⟩:=h;unfold gA at h;generalize e1:vw M da=a at h;generalize e2:vw M db=b at h;split at h<;>first|exact h.elim|skip
  ·cases uh e1;cases uh e2;unfold Rep at ra rb;exact O7 pins s σ H x y v u Q I rx ry ⟨_,_,ra,rb,vK.now o h iA⟩
  ·cases lU e1;cases lU e2;unfold Rep at ra rb;exact D0 pins s σ H x y v u Q I rx ry ⟨_,_,ra,rb,h.1,vK.now o h.2 mR⟩
  ·obtain⟨a,vs,rfl,qa,za⟩:=kF o ra e1;obtain⟨b,us,rfl,qb,zb⟩:=kF o rb e2;have l1:=gu.length _ _ za;have l2:=gu.length _ _ zb;exact IW pins s σ H _ _ v u Q I rx ry ⟨a,b,vs,us,rfl,rfl,qa,qb,by rw[<-l1,<-l2];exact h.1,λp hp=>vK.new o hp h.2 (lx o hp (gu.append _ _ _ _ za zb))⟩
  ·obtain⟨a,vs,rfl,qa,za⟩:=nk o ra e1;obtain⟨b,us,rfl,qb,zb⟩:=nk o rb e2;have l1:=gu.length _ _ za;have l2:=gu.length _ _ zb;refine L6 pins s σ H _ _ v u Q I rx ry ⟨a,b,vs,us,rfl,rfl,qa,qb,?_,by rw[<-l1,<-l2];exact h.2.1,λe=>?_,λ_ p hp=>vK.new o hp h.2.2 (mS o hp (gu.append _ _ _ _ za zb))⟩
   ·intro e;subst e;exact h.1 (cB.mp l1)
   ·subst e;have:=cB.mp l2;subst this;refine vK.now o h.2.2 ?_;rw[bj];rw[Eh e1] at ra;exact ra
noncomputable def PV:D->Option Key
 |.int i=>aa (.inl i)
 |.str x=>aa (.inr x)
 |_=>ak
noncomputable def xU(k:Key):List Key->List D->Option D
 |k'::ks,d::ds=>if k'=k then aa d else xU k ks ds
 |_,_=>ak
theorem BU{K:W.Frag}{α:List af}{H:Hp}{d:D}{v:V}{k:Key}(h:Rep K α H d v)(e:PV d=aa k):v=kV k:=by
 cases d<;>cases e
 ·unfold Rep at h;exact h
 ·unfold Rep at h;exact h
theorem wy{K:W.Frag}{α:List af}{H:Hp}{k:Key}:∀(ks:List Key) (ds:List D) (vs:List V),gu K α H ds vs->ks.length=ds.length->
  (∀d,xU k ks ds=aa d->∃v,rE (ks.zip vs) k=aa v/\Rep K α H d v)/\(xU k ks ds=ak->rE (ks.zip vs) k=ak)
 |[],ds,vs,h,l=>⟨λd e=>by simp[xU] at e,λ_=>rfl⟩
 |k'::ks,[],vs,h,l=>by simp at l
 |k'::ks,d::ds,vs,h,l=>by
  unfold gu at h;obtain⟨v,r,rfl,z,y⟩:=h;have ih:=wy (k:=k) ks ds r y (by simpa using l);rw[dH];by_cases e:k'=k
  ·rw[v5 (p:=(k',v)) e];unfold xU;rw[if_pos e];exact⟨λd' e'=>⟨v,rfl,by cases e';exact z⟩,λe'=>by cases e'⟩
  ·rw[v6 (p:=(k',v)) e];unfold xU;rw[if_neg e];exact ih
theorem Mv(hu:X.A.units+1<eC):Pp X (λx y H Q=>∃a v,x=.ref a/\vf H a y (aa v)/\Q v H):=by
 intro value slice pins s σ H x y v u Q I rx ry h hs;obtain⟨a,z,rfl,g,q⟩:=h;cases rx;unfold fk;refine aj ?_;rw[getitemInPython_of_ne (uI I g).not_modules];refine aj (wpAny_specialOf (uI I g) PySem.F.slot_dict_getitem.lookup ?_);have lm:wpAny (model X.prog X.w) X.A (subscripted slice ai (.ref a) u) (λr wa=>wpAny (model X.prog X.w) X.A (letTemporaryGo value (.ref a) r >>= λ_=>pure r) (EP X pins σ Q) X.xe wa) X.xe s:=by rw[hs];exact wpAny_operating (G0 hu I g ry λw' s3 I3 BE=>aj (wpAny_letTemporaryGo (az ⟨z,H,I3,BE,q⟩)))
 first
  |exact az (aj lm)
  |exact aj (az (aj lm))
  |exact aj lm
def iZ:G2:=λx y M Q=>match vw M x,y with
 |.lst xs,.int i=>∃d,sF xs i=aa d/\Q d M
 |.tup xs,.int i=>∃d,sF xs i=aa d/\Q d M
 |.pd xs,.int i=>∃d,sF xs i=aa d/\Q (.int d) M
 |.str z,.int i=>z.length<=aH/\∃c,sF z.cps.toList i=aa c/\Q (.str ⟨#[c]⟩) M
 |.kY ks ds,y=>∃k d,PV y=aa k/\xU k ks ds=aa d/\Q d M
 |_,_=>False
theorem jx(hu:X.A.units+1<eC):JX X iZ:=by
 refine⟨λx y M P Q w q=>?_,λvalue slice pins s σ H x y v u Q I rx ry h hs=>?_⟩
 ·unfold iZ at q ⊢;generalize vw M x=a at q ⊢;split at q<;>first
   |exact q.elim
   | (obtain⟨k,d,h1,h2,h3⟩:=q;exact⟨k,d,h1,h2,w _ _ h3⟩)
   | (obtain⟨d,h1,h3⟩:=q;exact⟨d,h1,w _ _ h3⟩)
   | (obtain⟨h0,d,h1,h3⟩:=q;exact⟨h0,d,h1,w _ _ h3⟩)
 ·obtain⟨F,α,M,da,db,o,ra,rb,h⟩:=h;unfold iZ at h;generalize e1:vw M da=a at h;split at h<;>first|exact h.elim|skip
  ·obtain⟨a,vs,rfl,qa,za⟩:=kF o ra e1;unfold Rep at rb;obtain⟨d,e,h⟩:=h;obtain⟨w,ew,BE⟩:=za.at e;exact FH value slice pins s σ H _ y v u Q I rx ry ⟨a,vs,_,w,rfl,rb,oa.of qa,ew,vK.now o h BE⟩ hs
  ·obtain⟨a,vs,rfl,qa,za⟩:=nk o ra e1;unfold Rep at rb;obtain⟨d,e,h⟩:=h;obtain⟨w,ew,BE⟩:=za.at e;exact Pr value slice pins s σ H _ y v u Q I rx ry ⟨a,vs,_,w,rfl,rb,qa,ew,vK.now o h BE⟩ hs
  ·cases rK e1;unfold Rep at ra rb;obtain⟨a,rfl,qa⟩:=ra;obtain⟨d,e,h⟩:=h;refine FH value slice pins s σ H _ y v u Q I rx ry ⟨a,_,_,.int d,rfl,rb,jU gX qa,?_,vK.now o h iA⟩ hs;unfold sF at e ⊢;rw[aR];cases q:BH _ _ with
   |none=>rw[q] at e;cases e
   |some j=>
    rw[q] at e;show(List.map V.int _)[j]?=_;have e':(_:List Int)[j]?=aa d:=e;rw[bQ,e'];rfl
  ·cases lU e1;unfold Rep at ra rb;obtain⟨hz,c,e,h⟩:=h;exact Ps value slice pins s σ H x y v u Q I rx ry ⟨_,_,c,ra,rb,hz,e,vK.now o h mR⟩ hs
  ·obtain⟨k,d,h1,h2,h3⟩:=h;obtain⟨a,vs,rfl,qa,hl,za⟩:=zW o ra e1;obtain⟨v',hv,rv⟩:=(wy _ _ vs za hl).1 d h2;cases BU rb h1;exact Mv hu value slice pins s σ H _ _ v u Q I rx ry ⟨a,v',rfl,by rw[<-hv];exact vf.kr qa,vK.now o h3 rv⟩ hs
noncomputable def cutD{β:Type}(xs:List β)(lo hi:Option Int):List β:=(xs.drop (HT.kD xs.length 0 lo)).take (HT.kD xs.length xs.length hi- HT.kD xs.length 0 lo)
theorem gu.cut{K:W.Frag}{α:List af}{H:Hp}{ds:List D}{vs:List V}(h:gu K α H ds vs)(lo hi:Option Int):gu K α H (cutD ds lo hi) (BG vs lo hi):=by unfold cutD BG;rw[gu.length _ _ h];exact gu.take _ _ _ (gu.drop _ _ _ h)
end
end L3
namespace PySem
open Sem (wp)
open Builtin
section
variable {prog:ao} {w:aE} {A:ay} {E:ae->ag->Prop} {s:ag}
end
section
variable {prog:ao} {w:aE} {A:ay} {E:ae->ag->Prop} {s:ag}
end
open Sem (wp)
open Builtin
structure YO(z TI TO i1 i2:af)(To Tp:List af):Prop where
 TIz:TI≠z
 TOz:TO≠z
 TITO:TI≠TO
 TIi1:TI≠i1
 TIi2:TI≠i2
 i1m:i1∈To
 i2m:i2∈Tp
 zf1:z∉To
 zf2:z∉Tp
 of1:TO∉To
 of2:TO∉Tp
 aac:i1∉Tp
 aad:i2∉To
section
variable {prog:ao} {w:aE} {A:ay} {E:ae->ag->Prop} {s:ag} {z TI TO i1 i2:af} {To Tp:List af} {n1 n2:Nat} {P1 P2:Nat->ae->Prop} {S1 S2:Nat->aq->Prop}
end
def PX (v:ae)(ob:bE)(h:aq):Prop:=∀(prog:ao) (w:aE) (A:ay) (E:ae->ag->Prop) (s:ag) (Q:ae->ag->Prop),s.heap=h->Q (.ref s.heap.objs.size) {s with heap:=s.heap.push ob}->wpAny (model prog w) A (fJ v) Q E s
section
variable {prog:ao} {w:aE} {A:ay} {E:ae->ag->Prop} {s:ag}
end
end PySem
namespace L2
open PySem PySem.Spec PyProof.Rows
section
variable {X:Cx} {pins:List (af×bE)} {σ:L2.St} {H:Hp} {s:ag} {h':aq}
end
section
variable {X:Cx} {pins:List (af×bE)} {σ:L2.St} {H:Hp} {s:ag} {h':aq}
end
inductive Sk where
 |L (a:af)|T (a:af)|S (z:ar) (t:gm)
noncomputable def Sk.val:Sk->ae
 |.L a=>.ref a
 |.T a=>.ref a
 |.S z t=>.str z t
noncomputable def Sk.obj:Sk->bE
 |.L a=>{cls:=.type "list_iterator",data:=.fields #[.ref a,.int 0 0]}
 |.T a=>{cls:=.type "tuple_iterator",data:=.fields #[.ref a,.int 0 0]}
 |.S z t=>{cls:=.type (dW z),data:=.fields #[.str z t,.int 0 0]}
def Sk.st(it:af):Sk->Nat->aq->Prop
 |.L a,i,h=>h.IsListIter it a i
 |.T a,i,h=>h.IsTupleIter it a i
 |.S z t,i,h=>h.IsStrIter it (dW z) z t i
def Sk.seq(K:W.Frag)(H:Hp):Sk->List V->Prop
 |.L a,ys=>oa K H a ys
 |.T a,ys=>vD K H a ys
 |.S z _,ys=>ys=z.cps.toList.map λc=>V.str ⟨#[c]⟩
section
variable {X:Cx} {pins:List (af×bE)} {σ:L2.St} {H:Hp} {s:ag}
theorem Sk.inj(I:Inv X pins σ H s){k:Sk}{ys zs:List V}(h:k.seq X.K H ys)(h':k.seq X.K H zs):ys=zs:=by
 cases k with
 |L a=>exact I.Bw h h'
 |T a=>exact I.yB h h'
 |S z t=>exact h.trans h'.symm
theorem Sk.iter(I:Inv X pins σ H s){k:Sk}{ys:List V}(hs:k.seq X.K H ys):PX k.val k.obj s.heap:=by
 intro prog w A E s' Q e q;cases k with
 |L a=>
  obtain⟨hX,r,p,hz⟩:=I.list hs;exact wpAny_pyIter_list (by rw[e];exact p.isList) q
 |T a=>
  obtain⟨hX,r,p,hz⟩:=I.tuple hs;exact wpAny_pyIter_tuple (by rw[e];exact(show s.heap.IsTuple a hX.toArray from p)) q
 |S z t=>exact wpAny_pyIter_strU q
end
def Mw (K:W.Frag)(H:Hp)(x:V)(Rk:Sk->Prop):Prop:=(∃a,x=.ref a/\(∃ys,oa K H a ys)/\Rk (.L a))\/(∃a,x=.ref a/\(∃ys,vD K H a ys)/\Rk (.T a))\/(∃z,x=.str z/\∀t,Rk (.S z t))
theorem Mw.get{K:W.Frag}{H:Hp}{x:V}{u:ae}{Rk:Sk->Prop}(h:Mw K H x Rk)(r:RelV x u):∃k:Sk,u=k.val/\(∃ys,k.seq K H ys)/\Rk k:=by
 rcases h with⟨a,rfl,⟨ys,h⟩,q⟩|⟨a,rfl,⟨ys,h⟩,q⟩|⟨z,rfl,q⟩
 ·exact⟨.L a,r,⟨ys,h⟩,q⟩
 ·exact⟨.T a,r,⟨ys,h⟩,q⟩
 ·obtain⟨t,rfl⟩:=r;exact⟨.S z t,rfl,⟨_,rfl⟩,q t⟩
noncomputable def Sk.it(K:W.Frag):Sk->It
 |.L a=>Yq K a
 |.T a=>Yr K a
 |.S z _=>YI z
section
variable {X:Cx} {tg:aM}
def WZ (K:W.Frag)(te:TE):TI:=λσ H R=>te σ H λx H1=>Mw K H1 x λk=>R (k.it K) H1
theorem PY{e:aM}{te:TE}(he:PE X e te):PI X tg e (WZ X.K te):=by
 intro pins s σ H R I h;refine ja (he pins s σ H _ I h) λv s1 zq=>?_;obtain⟨x,H1,I1,r1,q1⟩:=zq;obtain⟨k,rfl,⟨ys,hs⟩,q⟩:=q1.get r1;refine(Sk.iter I1 hs) _ _ _ _ s1 _ rfl ?_;have hb:∀b∈[s1.heap.objs.size],t9 X pins H1 b:=λb hb=>by
  have e:b=s1.heap.objs.size:=by simpa using hb
  subst e;exact I1.GL (bf _) (I1.iy.fresh (bf _))
 have I2:Inv X pins σ H1 {s1 with heap:=s1.heap.push k.obj}:=I1.kept (t':=s1.toks) λb o e=>au _ e;cases k with
 |L a=>exact⟨s1.heap.objs.size,[s1.heap.objs.size],_,_,H1,rfl,I2,GO a _,⟨_,bg _ rfl,rfl,rfl⟩,hb,q⟩
 |T a=>exact⟨s1.heap.objs.size,[s1.heap.objs.size],_,_,H1,rfl,I2,DW a _,⟨_,bg _ rfl,rfl,rfl⟩,hb,q⟩
 |S z t=>exact⟨s1.heap.objs.size,[s1.heap.objs.size],_,_,H1,rfl,I2,Jb _ z t,⟨⟨_,bg _ rfl,rfl,rfl⟩,cU _⟩,hb,q⟩
end
end L2
namespace L3
open PySem PySem.Spec PyProof.Rows L2
noncomputable def Ei:D->Option (List D)
 |.lst ds=>aa ds
 |.tup ds=>aa ds
 |.pd ns=>aa (ns.map D.int)
 |.str z=>aa (z.cps.toList.map λc=>D.str ⟨#[c]⟩)
 |_=>ak
def YQ (d:D)(v:V)(k:Sk):Prop:=match d with
 |.lst _|.pd _=>∃a,v=.ref a/\k=.L a
 |.tup _=>∃a,v=.ref a/\k=.T a
 |.str z=>v=.str z/\∃t,k=.S z t
 |_=>False
section
variable {K:W.Frag} {F α:List af} {H:Hp} {M:Ms}
theorem Mx(o:OK K F α H M){d:D}{v:V}{items:List D}{k:Sk}(r:Rep K α (iS F α M H) d v)(e:Ei (vw M d)=aa items)(hk:YQ (vw M d) v k):∃ys,k.seq K H ys/\gu K α (iS F α M H) items ys:=by
 generalize e1:vw M d=x at e hk;cases x<;>first|(exfalso;cases e;done)|skip
 ·cases e;have e2:=lU e1;subst e2;obtain⟨rfl,t,rfl⟩:=hk;exact⟨_,rfl,gu.of_map _ _ (λc=>mR) _⟩
 ·cases e;obtain⟨a,rfl,rfl⟩:=hk;obtain⟨a',vs,e3,q,z⟩:=nk o r e1;cases e3;exact⟨vs,q,z⟩
 ·cases e;obtain⟨a,rfl,rfl⟩:=hk;obtain⟨a',vs,e3,q,z⟩:=kF o r e1;cases e3;exact⟨vs,oa.of q,z⟩
 ·cases e;have e2:=rK e1;subst e2;obtain⟨a,rfl,rfl⟩:=hk;unfold Rep at r;obtain⟨a',e3,q⟩:=r;cases e3;exact⟨_,jU gX q,gu.of_map _ _ (λc=>iA) _⟩
theorem PZ(o:OK K F α H M){d:D}{v:V}{items:List D}{Rk:Sk->Prop}(r:Rep K α (iS F α M H) d v)(e:Ei (vw M d)=aa items)(h:∀k,YQ (vw M d) v k->Rk k):Mw K H v Rk:=by
 generalize e1:vw M d=x at e h;cases x<;>first|(exfalso;cases e;done)|skip
 ·have e2:=lU e1;subst e2;unfold Rep at r;subst r;exact .inr (.inr ⟨_,rfl,λt=>h _ ⟨rfl,t,rfl⟩⟩)
 ·obtain⟨a',vs,rfl,q,z⟩:=nk o r e1;exact .inr (.inl ⟨a',rfl,⟨_,q⟩,h _ ⟨a',rfl,rfl⟩⟩)
 ·obtain⟨a',vs,rfl,q,z⟩:=kF o r e1;exact .inl ⟨a',rfl,⟨_,oa.of q⟩,h _ ⟨a',rfl,rfl⟩⟩
 ·have e2:=rK e1;subst e2;unfold Rep at r;obtain⟨a',rfl,q⟩:=r;exact .inl ⟨a',rfl,⟨_,jU gX q⟩,h _ ⟨a',rfl,rfl⟩⟩
end
section
variable {X:Cx} {tg e a b:aM} {te:DE} {tt:DA} {p pos Bx:cu} {elts:List aM} {n:Nat}
def sP (te:DE):DI:=λδ M Q=>te δ M λd M1=>∃items,Ei (vw M1 d)=aa items/\Q items (λM'=>vw M' d=vw M1 d) M1
theorem Ac(he:JE X e te):JI X tg e (sP te):=by
 refine⟨λδ M P Q w q=>he.mono δ _ _ _ (λd M1 q=>?_) q,PI.weak (PY he.p) λσ H Q q=>?_⟩
 ·obtain⟨items,e,q⟩:=q;exact⟨items,e,w _ _ _ q⟩
 ·obtain⟨F,α,δ,M,r,q⟩:=q;refine⟨F,α,δ,M,r,he.mono δ _ _ _ (λd M1 q v gU H1 e1 o1 r1=>?_) q⟩;obtain⟨items,ei,q⟩:=q;refine PZ o1 r1 ei λk hk=>q _ gU H1 H1 id e1 o1 (HW.refl o1) ?_;have key:∀F' gS H' M',gU <+: gS->jc (iS F gU M1 H1) (iS F' gS M' H')->OK X.K F' gS H' M'->vw M' d=vw M1 d->∃ys,k.seq X.K H' ys/\gu X.K gS (iS F' gS M' H') items ys:=λF' gS H' M' hp hs o' l8=>
   Mx o' (Rep.mono hp hs d v r1) (by rw[l8];exact ei) (by rw[l8];exact hk)
  refine⟨λi F' gS H' M' hp hs o' l8 hi=>?_,λi F' gS H' M' x H2 d' hp hs o' l8 hd hy=>?_,λF' gS H' M' hp hs o' l8=>?_⟩
  ·obtain⟨ys,h1,h2⟩:=key F' gS H' M' hp hs o' l8;have hl:=gu.length _ _ h2;cases k with
   |L a=>exact⟨ys,ys[i],h1,by simp⟩
   |T a=>exact⟨ys,ys[i],h1,by simp⟩
   |S z t=>
    have h1:ys=z.cps.toList.map λc=>V.str ⟨#[c]⟩:=h1;show i<z.cps.size;rw[h1] at hl;simpa[hl] using hi
  ·obtain⟨ys,h1,h2⟩:=key F' gS H' M' hp hs o' l8;have lm:∀H2,H2=H'->ys[i]?=aa x->OK X.K F' gS H2 M'/\Ext F' gS H' M' gS H2 M'/\Rep X.K gS (iS F' gS M' H2) d' x:=λH2 e hx=>by subst e;obtain⟨d2,e2,r2⟩:=gu.get' _ _ i x h2 hx;rw[hd] at e2;cases e2;exact⟨o',Ext.refl,r2⟩
   cases k with
   |L a=>exact lm _ hy.1 (hy.2 ys h1)
   |T a=>exact lm _ hy.1 (hy.2 ys h1)
   |S z t=>
    obtain⟨e,c,hc,hx⟩:=hy;have h1:ys=z.cps.toList.map λc=>V.str ⟨#[c]⟩:=h1;refine lm _ e ?_;rw[h1,bQ,Array.getElem?_toList,hc,hx];rfl
  ·obtain⟨ys,h1,h2⟩:=key F' gS H' M' hp hs o' l8;have hl:=gu.length _ _ h2;cases k with
   |L a=>exact⟨ys,h1,by omega⟩
   |T a=>exact⟨ys,h1,by omega⟩
   |S z t=>
    have h1:ys=z.cps.toList.map λc=>V.str ⟨#[c]⟩:=h1;show z.cps.size<=items.length;rw[hl,h1];simp
theorem wz{K:W.Frag}{α:List af}{H:Hp}{d:D}{vs:List V}(h:gu K α H [d] vs):∃v,vs=[v]/\Rep K α H d v:=by unfold gu at h;obtain⟨v,r,rfl,z,y⟩:=h;unfold gu at y;subst y;exact⟨v,rfl,z⟩
theorem Jv{K:W.Frag}{α:List af}{H:Hp}{d e:D}{vs:List V}(h:gu K α H [d,e] vs):∃v u,vs=[v,u]/\Rep K α H d v/\Rep K α H e u:=by unfold gu at h;obtain⟨v,r,rfl,z,y⟩:=h;obtain⟨u,rfl,w⟩:=wz y;exact⟨v,u,rfl,z,w⟩
noncomputable def xV(lo:Int)(n:Nat):List D:=(dg n).map λ(i:Nat)=>D.int (lo+(i:Int))
theorem P0{K:W.Frag}{F gU:List af}{H1:Hp}{M1:Ms}{lo:Int}{n:Nat}:PQ K F gU H1 M1 (UZ lo n) (xV lo n) λ_=>True:=by
 refine⟨λi F' gS H' M' hp hs o' l8 hi=>?_,λi F' gS H' M' x H2 d' hp hs o' l8 hd hy=>?_,λF' gS H' M' hp hs o' l8=>?_⟩
 ·show i<n;simpa[xV] using hi
 ·obtain⟨rfl,rfl⟩:=hy;unfold xV at hd;rw[bQ] at hd;cases e:(dg n)[i]? with
  |none=>rw[e] at hd;cases hd
  |some j=>
   rw[e] at hd;have:j=i:=by have:=aC.mp e;obtain⟨h1,h2⟩:=this;simpa using h2.symm
   subst this;cases hd;exact⟨o',Ext.refl,iA⟩
 ·show n<=(xV lo n).length;simp[xV]
def wA (tt:DA):DI:=λδ M Q=>tt δ M λds M1=>match ds with
 |[.int j]=>(-(2^62)<=j/\j<2^62)/\Q (xV 0 j.toNat) (λ_=>True) M1
 |_=>False
theorem yY(ha:JA X [a] tt)(hm:X.mg "range"=ak)(hg:Gl X "range":=by rfl)(hs:av [a] X.env=[(ai,eval a X.env)]:=by rfl):JI X tg (.Call (.Name "range" p) [a] [] pos) (wA tt):=by
 refine⟨λδ M P Q w q=>ha.mono δ _ _ _ (λds M1 q=>?_) q,PI.weak (GQ hg hm ha.p hs) λσ H Q q=>?_⟩
 ·match ds,q with
  |[.int j],⟨e,q⟩=>exact⟨e,w _ _ _ q⟩
 ·obtain⟨F,α,δ,M,r,q⟩:=q;refine⟨F,α,δ,M,r,ha.mono δ _ _ _ (λds M1 q vs gU H1 e1 o1 r1=>?_) q⟩;match ds,q,r1 with
  |[.int j],⟨ei,q⟩,r1=>
   obtain⟨v,ev,rv⟩:=wz r1;subst ev;unfold Rep at rv;subst rv;exact⟨j,rfl,ei.1,ei.2,q _ gU H1 H1 id e1 o1 (HW.refl o1) P0⟩
end
mutual
noncomputable def toP:D->cK
 |.non=>.none
 |.bl b=>.bool b
 |.int i=>.int i
 |.str x=>.str x
 |.tup ds=>.tuple (toPs ds)
 |.lst ds=>.list (toPs ds)
 |.ty _|.kY _ _|.ins _ _ _|.exc _ _ _|.pd _|.loc _|.cls _=>.dict []
noncomputable def toPs:List D->List cK
 |[]=>[]
 |d::ds=>toP d::toPs ds
end
mutual
noncomputable def pl:D->Bool
 |.non|.bl _|.int _=>ah
 |.str x=>cK.strOk x
 |.tup ds|.lst ds=>FU ds
 |.ty _|.kY _ _|.ins _ _ _|.exc _ _ _|.pd _|.loc _|.cls _=>ai
noncomputable def FU:List D->Bool
 |[]=>ah
 |d::ds=>pl d&&FU ds
end
mutual
noncomputable def dp:D->Nat
 |.tup ds|.lst ds=>P4 ds+1
 |.non|.bl _|.int _|.str _|.ty _|.kY _ _|.ins _ _ _|.exc _ _ _|.pd _|.loc _|.cls _=>0
noncomputable def P4:List D->Nat
 |[]=>0
 |d::ds=>max (dp d) (P4 ds)
end
mutual
noncomputable def vL:D->D->Bool
 |.non,.non=>ah
 |.bl a,.bl b=>a==b
 |.bl a,.int j=>(if a then 1 else 0)==j
 |.int i,.bl b=>i==(if b then 1 else 0)
 |.int i,.int j=>i==j
 |.str x,.str y=>x==y
 |.lst xs,.lst ys=>xW xs ys
 |.tup xs,.tup ys=>xW xs ys
 |_,_=>ai
noncomputable def xW:List D->List D->Bool
 |[],[]=>ah
 |x::xs,y::ys=>vL x y&&xW xs ys
 |_,_=>ai
end
mutual
theorem toP_lay:∀d:D,pl d=ah->(toP d).canLay0=ah
 |.non,_=>rfl
 |.bl _,_=>rfl
 |.int _,_=>rfl
 |.str _,h=>by unfold toP;unfold pl at h;simpa[cK.canLay0] using h
 |.tup ds,h=>by unfold toP;unfold pl at h;simp[cK.canLay0,toPs_lay ds h]
 |.lst ds,h=>by unfold toP;unfold pl at h;simp[cK.canLay0,toPs_lay ds h]
 |.ty _,h|.kY _ _,h|.ins _ _ _,h|.exc _ _ _,h|.pd _,h|.loc _,h|.cls _,h=>by unfold pl at h;cases h
theorem toPs_lay:∀ds:List D,FU ds=ah->cK.canLayAll0 (toPs ds)=ah
 |[],_=>by unfold toPs;rfl
 |d::ds,h=>by unfold FU at h;rw[aP] at h;unfold toPs;simp[cK.canLayAll0,toP_lay d h.1,toPs_lay ds h.2]
end
mutual
theorem toP_depth:∀d:D,(toP d).depth<=dp d+1
 |.non|.bl _|.int _|.str _=>by unfold toP;simp[cK.depth]
 |.tup ds=>by unfold toP dp;have:=toPs_depth ds;simp only [cK.depth];omega
 |.lst ds=>by unfold toP dp;have:=toPs_depth ds;simp only [cK.depth];omega
 |.ty _|.kY _ _|.ins _ _ _|.exc _ _ _|.pd _|.loc _|.cls _=>by unfold toP;simp[cK.depth,cK.depthKv]
theorem toPs_depth:∀ds:List D,cK.depthAll (toPs ds)<=P4 ds+1
 |[]=>by unfold toPs;simp[cK.depthAll]
 |d::ds=>by unfold toPs P4;have h1:=toP_depth d;have h2:=toPs_depth ds;simp only [cK.depthAll];omega
end
mutual
theorem toP_eqv:∀x y:D,pl x=ah->pl y=ah->(toP x).eqv (toP y)=vL x y
 |.non,y,_,h=>by cases y<;>first|(unfold pl at h;cases h;done)|(unfold toP vL;rfl)
 |.bl a,y,_,h=>by cases y<;>first|(unfold pl at h;cases h;done)|(unfold toP vL;rfl)
 |.int a,y,_,h=>by cases y<;>first|(unfold pl at h;cases h;done)|(unfold toP vL;rfl)
 |.str a,y,_,h=>by cases y<;>first|(unfold pl at h;cases h;done)|(unfold toP vL;rfl)
 |.tup xs,y,g,h=>by
  cases y<;>first|(unfold pl at h;cases h;done)|skip
  case tup ys=>unfold pl at g h;unfold toP vL;simp only [cK.eqv];exact toPs_eqv xs ys g h
  all_goals unfold toP vL;rfl
 |.lst xs,y,g,h=>by
  cases y<;>first|(unfold pl at h;cases h;done)|skip
  case lst ys=>unfold pl at g h;unfold toP vL;simp only [cK.eqv];exact toPs_eqv xs ys g h
  all_goals unfold toP vL;rfl
 |.ty _,_,g,_|.kY _ _,_,g,_|.ins _ _ _,_,g,_|.exc _ _ _,_,g,_|.pd _,_,g,_|.loc _,_,g,_|.cls _,_,g,_=>by unfold pl at g;cases g
theorem toPs_eqv:∀x y:List D,FU x=ah->FU y=ah->cK.eqvAll (toPs x) (toPs y)=xW x y
 |[],[],_,_=>by unfold toPs xW;rfl
 |[],y::ys,_,_=>by unfold toPs xW;rfl
 |x::xs,[],_,_=>by unfold toPs xW;rfl
 |x::xs,y::ys,g,h=>by unfold FU at g h;rw[aP] at g h;unfold toPs xW;simp only [cK.eqvAll];rw[toP_eqv x y g.1 h.1,toPs_eqv xs ys g.2 h.2]
end
mutual
theorem Rep.reads {X:Cx} {pins:List (af×bE)} {σ:L2.St} {H:Hp} {s:ag} {α:List af} (I:Inv X pins σ H s):∀(d:D) (x:V) (v:ae),Rep X.K α H d x->RelV x v->pl d=ah->∃as,Reads s.heap v (toP d) as
 |.non,x,v,h,r,_=>by unfold Rep at h;subst h;cases r;unfold toP;exact⟨_,.none⟩
 |.bl _,x,v,h,r,_=>by unfold Rep at h;subst h;cases r;unfold toP;exact⟨_,.bool _⟩
 |.int _,x,v,h,r,_=>by unfold Rep at h;subst h;obtain⟨t,rfl⟩:=r;unfold toP;exact⟨_,.int _ _⟩
 |.str _,x,v,h,r,_=>by unfold Rep at h;subst h;obtain⟨t,rfl⟩:=r;unfold toP;exact⟨_,.str _ _⟩
 |.tup ds,x,v,h,r,c=>by unfold Rep at h;obtain⟨a,vs,rfl,q,z⟩:=h;cases r;obtain⟨hX,rv,⟨o,e,cl,n,dd⟩,_⟩:=I.tuple q;obtain⟨as,w⟩:=gu.reads I ds vs hX z rv (by unfold pl at c;exact c);unfold toP;exact⟨_,.tuple e cl dd (by simpa using w)⟩
 |.lst ds,x,v,h,r,c=>by unfold Rep at h;obtain⟨a,vs,rfl,q,z⟩:=h;cases r;obtain⟨_,hX,n,rv,e⟩:=I.iy a _ q;obtain⟨as,w⟩:=gu.reads I ds vs hX z rv (by unfold pl at c;exact c);unfold toP;exact⟨_,.list e rfl rfl (by simpa using w)⟩
 |.ty _,x,v,h,r,c|.kY _ _,x,v,h,r,c|.ins _ _ _,x,v,h,r,c|.exc _ _ _,x,v,h,r,c|.pd _,x,v,h,r,c|.loc _,x,v,h,r,c|.cls _,x,v,h,r,c=>by unfold pl at c;cases c
theorem gu.reads {X:Cx} {pins:List (af×bE)} {σ:L2.St} {H:Hp} {s:ag} {α:List af} (I:Inv X pins σ H s):∀(ds:List D) (xs:List V) (vs:List ae),gu X.K α H ds xs->Vals xs vs->FU ds=ah->∃as,ReadsAll s.heap vs (toPs ds) as
 |[],xs,vs,h,r,_=>by unfold gu at h;subst h;cases r;unfold toPs;exact⟨_,.nil⟩
 |d::ds,xs,vs,h,r,c=>by
  unfold gu at h;obtain⟨x,rx,rfl,q,z⟩:=h;unfold FU at c;rw[aP] at c;unfold toPs;cases r with
  |cons r1 r2=>
   obtain⟨as,w1⟩:=Rep.reads I d x _ q r1 c.1;obtain⟨bs,w2⟩:=gu.reads I ds rx _ z r2 c.2;exact⟨_,.cons w1 w2⟩
end
theorem kj{d:D}(h:pl d=ah)(hd:dp d<=60):SeqAt.shaped (toP d)=ah:=by unfold SeqAt.shaped;have:=toP_depth d;rw[toP_lay d h,Bool.true_and];exact decide_eq_true (by omega)
section
variable {X:Cx}
def W0 (x y:D):Prop:=pl x=ah/\pl y=ah/\dp x<=60/\dp y<=60
def BV (x y:D)(Q:Bool->Prop):Prop:=match x,y with
 |.str a,.str b=>Q (a==b)
 |.int a,.int b=>Q (a==b)
 |x,y=>W0 x y/\Q (vL x y)
theorem Ha{x y:D}{P Q:Bool->Prop}(w:∀b,P b->Q b)(h:BV x y P):BV x y Q:=by
 unfold BV at h ⊢;split<;>simp only at h
 ·exact w _ h
 ·exact w _ h
 ·exact⟨h.1,w _ h.2⟩
def oh:G2:=λx y M Q=>BV (vw M x) (vw M y) λb=>Q (.bl b) M
def gNe:G2:=λx y M Q=>BV (vw M x) (vw M y) λb=>Q (.bl (!b)) M
theorem My(hu:X.A.units+64<eC){pins:List (af×bE)}{s:ag}{σ:L2.St}{H:Hp}{x y:V}{v u:ae}(I:L2.Inv X pins σ H s)(rx:RelV x v)(ry:RelV y u){F α:List af}{M:Ms}{da db:D}(o:OK X.K F α H M)
(ra:Rep X.K α (iS F α M H) da x)(rb:Rep X.K α (iS F α M H) db y){C:Bool->Prop}(h:BV (vw M da) (vw M db) C){Q:VK}(neg:Bool)(lm:∀b,C b->Q (.bl (if neg then !b else b)) H):
  wpAny (model X.prog X.w) X.A (compareOp (if neg then .NotEq else .Eq) v u) (EP X pins σ Q) X.xe s:=by
 unfold BV at h;split at h
 ·rename_i a b e1 e2;cases lU e1;cases lU e2;unfold Rep at ra rb;subst ra rb;have e:decide (V.str a=V.str b)=(a==b):=zH;cases neg with
  |false=>exact NT pins s σ H _ _ v u Q I rx ry ⟨rfl,by rw[e];exact lm _ h⟩
  |true=>exact NU pins s σ H _ _ v u Q I rx ry ⟨rfl,by rw[e];exact lm _ h⟩
 ·rename_i a b e1 e2;cases uh e1;cases uh e2;unfold Rep at ra rb;subst ra rb;have e:decide (V.int a=V.int b)=(a==b):=zG;cases neg with
  |false=>exact NT pins s σ H _ _ v u Q I rx ry ⟨rfl,by rw[e];exact lm _ h⟩
  |true=>exact NU pins s σ H _ _ v u Q I rx ry ⟨rfl,by rw[e];exact lm _ h⟩
 ·obtain⟨⟨c1,c2,c3,c4⟩,h⟩:=h;obtain⟨as,w1⟩:=Rep.reads I _ x v (Rep.mono (aQ _) gX _ _ (wu o _ _ ra)) rx c1;obtain⟨bs,w2⟩:=Rep.reads I _ y u (Rep.mono (aQ _) gX _ _ (wu o _ _ rb)) ry c2;cases neg with
  |false=>
   refine eq_dataH w1 w2 (kj c1 c3) (kj c2 c4) hu ⟨.bl _,H,I,rfl,?_⟩;rw[toP_eqv _ _ c1 c2];exact lm _ h
  |true=>
   refine ne_dataH w1 w2 (kj c1 c3) (kj c2 c4) hu ⟨.bl _,H,I,rfl,?_⟩;rw[toP_eqv _ _ c1 c2];exact lm _ h
theorem km(hu:X.A.units+64<eC):JC X .Eq oh:=by refine⟨λx y M P Q w q=>Ha (λb q=>w _ _ q) q,λpins s σ H x y v u Q I rx ry h=>?_⟩;obtain⟨F,α,M,da,db,o,ra,rb,h⟩:=h;exact My hu I rx ry o ra rb h ai λb q=>vK.now o q jd
noncomputable def fl:D->Bool
 |.non|.bl _|.int _|.str _=>ah
 |_=>ai
noncomputable def Vm:D->V
 |.bl b=>.bl b
 |.int i=>.int i
 |.str x=>.str x
 |_=>.non
theorem Ej{K:W.Frag}{α:List af}{H:Hp}{d:D}{v:V}(h:fl d=ah)(r:Rep K α H d v):v=Vm d/\qU v=ah:=by
 cases d<;>first|(cases h;done)|skip
 all_goals unfold Rep at r;subst r;exact⟨rfl,rfl⟩
theorem Tq{x y:D}(h:fl x=ah)(g:fl y=ah):L8 (Vm x) (Vm y)=vL x y:=by
 cases x<;>first|(cases h;done)|skip
 all_goals cases y<;>first|(cases g;done)|(unfold vL;rfl)
theorem Ad{K:W.Frag}{α:List af}{H:Hp}{x:D}(hx:fl x=ah):∀(ds:List D) (vs:List V),ds.all fl=ah->gu K α H ds vs->vs.all qU=ah/\Va (Vm x) vs=ds.any λy=>vL y x
 |[],vs,_,h=>by unfold gu at h;subst h;exact⟨rfl,rfl⟩
 |d::ds,vs,g,h=>by unfold gu at h;obtain⟨v,r,rfl,z,y⟩:=h;rw[dq,aP] at g;obtain⟨i1,i2⟩:=Ad hx ds r g.2 y;obtain⟨e1,e2⟩:=Ej g.1 z;subst e1;refine⟨by rw[dq,e2,i1];rfl,?_⟩;unfold Va at i2 ⊢;rw[dm,dm,Tq g.1 hx,i2]
theorem BW{K:W.Frag}{α:List af}{H:Hp}{k:Key}{ks:List Key}{ds:List D}{vs:List V}(h:gu K α H ds vs)(hl:ks.length=ds.length):(rE (ks.zip vs) k).isSome=(xU k ks ds).isSome:=by
 obtain⟨h1,h2⟩:=wy (k:=k) ks ds vs h hl;cases e:xU k ks ds with
 |none=>rw[h2 e];rfl
 |some d=>obtain⟨v',hv,_⟩:=h1 d e;rw[hv];rfl
noncomputable def YR(x y:D):Option Bool:=match y with
 |.lst ds=>if(fl x&&ds.all fl)=ah then aa (ds.any λy=>vL y x) else ak
 |.tup ds=>if(fl x&&ds.all fl)=ah then aa (ds.any λy=>vL y x) else ak
 |.str j=>match x with
  |.str i=>aa (!(bD.Str.occurrences j i 0 j.length 1).isEmpty)
  |_=>ak
 |.kY ks ds=>match PV x with
  |some k=>aa (xU k ks ds).isSome
  |none=>ak
 |_=>ak
def Ls (neg:Bool):G2:=λx y M Q=>∃b,YR x (vw M y)=aa b/\Q (.bl (if neg then !b else b)) M
theorem Jw{neg:Bool}:uM (Ls neg):=by
 rintro x y M P Q w ⟨b,e,q⟩
 exact⟨b,e,w _ _ q⟩
theorem N8(hu:X.A.units+1<eC):JC X .In (Ls ai):=by
 refine⟨Jw,λpins s σ H x y v u Q I rx ry h=>?_⟩;obtain⟨F,α,M,da,db,o,ra,rb,b,eb,h⟩:=h;generalize e1:vw M db=z at eb;unfold YR at eb;cases z<;>first|(cases eb;done)|skip
 ·have e2:=lU e1;subst e2;unfold Rep at rb;subst rb;cases da<;>first|(cases eb;done)|skip
  unfold Rep at ra;subst ra;cases eb;exact GW pins s σ H _ _ v u Q I rx ry ⟨_,_,rfl,rfl,vK.now o h jd⟩
 ·obtain⟨a,vs,rfl,q,zz⟩:=nk o rb e1;simp only at eb;split at eb
  ·rename_i hc;rw[aP] at hc;cases eb;obtain⟨f1,f2⟩:=Ej hc.1 ra;obtain⟨g1,g2⟩:=Ad hc.1 _ _ hc.2 zz;refine yP pins s σ H _ _ v u Q I rx ry ⟨a,vs,rfl,.inr q,f2,g1,?_⟩;subst f1;rw[g2];exact vK.now o h jd
  ·cases eb
 ·obtain⟨a,vs,rfl,q,zz⟩:=kF o rb e1;simp only at eb;split at eb
  ·rename_i hc;rw[aP] at hc;cases eb;obtain⟨f1,f2⟩:=Ej hc.1 ra;obtain⟨g1,g2⟩:=Ad hc.1 _ _ hc.2 zz;refine yP pins s σ H _ _ v u Q I rx ry ⟨a,vs,rfl,.inl (oa.of q),f2,g1,?_⟩;subst f1;rw[g2];exact vK.now o h jd
  ·cases eb
 ·obtain⟨a,vs,rfl,q,hl,zz⟩:=zW o rb e1;simp only at eb;split at eb
  ·rename_i k hk;cases eb;cases BU ra hk;obtain rfl:u=aD a:=ry;refine Wi hu I (vf.kr q) rx λs' I'=>⟨.bl _,H,I',rfl,?_⟩;rw[BW zz hl];exact vK.now o h jd
  ·cases eb
end
section
variable {X:Cx} {a b c e:aM} {es rest:List aM} {ta tb tc te:DE} {tA:DT} {tt:DA} {pos p p2 p3:cu} {x:ar}
abbrev DO:=kZ->Ms->(Option Int->Ms->Prop)->Prop
def lO (K:W.Frag)(t:DO):TO:=λσ H Q=>∃F α δ M,R K F α H σ δ M/\t δ M λi M'=>∀gS H',Ext F α H M gS H' M'->OK K F gS H' M'->Q i H'
structure Vn(X:Cx)(e:Option aM)(t:DO):Prop where
 mono:∀δ M (P Q:Option Int->Ms->Prop),(∀d M,P d M->Q d M)->t δ M P->t δ M Q
 p:PO X e (lO X.K t)
theorem PO.weak{e:Option aM}{t t':TO}(h:PO X e t)(w:∀σ H Q,t' σ H Q->t σ H Q):PO X e t':=by intro pins s σ H Q I q;exact h pins s σ H Q I (w σ H Q q)
def sQ:DO:=λ_ M Q=>Q ak M
def BX (te:DE):DO:=λδ M Q=>te δ M λd M1=>match d with|.int i=>Q (aa i) M1|_=>False
theorem BY:Vn X ak sQ:=⟨λδ M P Q w q=>w _ _ q,PO.weak L4 λσ H Q ⟨F,α,δ,M,r,q⟩=>q α H Ext.refl r.ok⟩
theorem BZ(h:JE X e te):Vn X (aa e) (BX te):=by
 refine⟨λδ M P Q w q=>h.mono δ _ _ _ (λd M1 q=>?_) q,PO.weak (L5 h.p) λσ H Q q=>?_⟩
 ·cases d<;>first|exact q.elim|exact w _ _ q
 ·obtain⟨F,α,δ,M,r,q⟩:=q;refine⟨F,α,δ,M,r,h.mono δ _ _ _ (λd M1 q v gU H1 e1 o1 r1=>?_) q⟩;cases d<;>first|exact q.elim|skip
  unfold Rep at r1;exact⟨_,r1,q gU H1 e1 o1⟩
def Tr (te:DE)(tl th:DO):DE:=λδ M Q=>te δ M λd M1=>tl δ M1 λlo M2=>th δ M2 λhi M3=>match vw M3 d with
 |.lst xs=>Q (.lst (cutD xs lo hi)) M3
 |.pd xs=>Q (.lst (cutD (xs.map D.int) lo hi)) M3
 |.tup xs=>¬(HT.kD xs.length 0 lo=0/\HT.kD xs.length xs.length hi=xs.length)/\Q (.tup (cutD xs lo hi)) M3
 |.str z=>z.length<=aH/\Q (.str (Txt.slice z lo hi)) M3
 |_=>False
theorem Ts{lo hi:Option aM}{tl th:DO}(he:JE X e te)(hl:Vn X lo tl)(hh:Vn X hi th):JE X (.Subscript e (.Slice lo hi ak p2) pos) (Tr te tl th):=by
 refine⟨λδ M P Q w q=>he.mono δ _ _ _ (λd M1 q=>hl.mono δ _ _ _ (λi M2 q=>hh.mono δ _ _ _ (λj M3 q=>?_) q) q) q,PE.weak (IS (L7.or (Pn.or PK)) he.p hl.p hh.p) λσ H Q q=>?_⟩
 ·generalize vw M3 d=z at q ⊢;cases z<;>first|exact q.elim|exact w _ _ q|exact⟨q.1,w _ _ q.2⟩
 ·obtain⟨F,α,δ,M,r,q⟩:=q;refine⟨F,α,δ,M,r,he.mono δ _ _ _ (λd M1 q v gU H1 e1 o1 r1=>⟨F,gU,δ,M1,r.grow e1 o1,hl.mono δ _ _ _ (λi M2 q lR H2 e2 o2=>⟨F,lR,δ,M2,r.grow (e1.trans e2) o2,hh.mono δ _ _ _ (λj M3 q uc H3 e3 o3=>?_) q⟩) q⟩) q⟩;have qW:=(e1.trans e2).trans e3;have r3:=(e2.trans e3).rep r1;have q2:(match vw M3 d with
   |.lst xs=>vK X.K F uc H3 M3 Q (.lst (cutD xs i j)) M3
   |.pd xs=>vK X.K F uc H3 M3 Q (.lst (cutD (xs.map D.int) i j)) M3
   |.tup xs=>¬(HT.kD xs.length 0 i=0/\HT.kD xs.length xs.length j=xs.length)/\vK X.K F uc H3 M3 Q (.tup (cutD xs i j)) M3
   |.str z=>z.length<=aH/\vK X.K F uc H3 M3 Q (.str (Txt.slice z i j)) M3
   |_=>False):=by generalize vw M3 d=z at q ⊢;cases z<;>first|exact q.elim|exact vK.grow qW _ _ q|exact⟨q.1,vK.grow qW _ _ q.2⟩
  clear q;generalize ez:vw M3 d=z at q2;cases z<;>first|exact q2.elim|skip
  ·cases lU ez;unfold Rep at r3;exact .inr (.inr ⟨_,r3,q2.1,vK.now o3 q2.2 mR⟩)
  ·obtain⟨a,vs,rfl,sq,zz⟩:=nk o3 r3 ez;have hl:=gu.length _ _ zz;refine .inr (.inl ⟨a,vs,rfl,sq,by rw[<-hl];exact q2.1,λp hp=>vK.new o3 hp q2.2 (mS o3 hp (gu.cut zz i j))⟩)
  ·obtain⟨a,vs,rfl,sq,zz⟩:=kF o3 r3 ez;exact .inl ⟨a,vs,rfl,oa.of sq,λp hp=>vK.new o3 hp q2 (lx o3 hp (gu.cut zz i j))⟩
  ·cases rK ez;unfold Rep at r3;obtain⟨a,rfl,sq⟩:=r3;refine .inl ⟨a,_,rfl,jU gX sq,λp hp=>vK.new o3 hp q2 (lx o3 hp (gu.cut (gu.of_map _ _ (λc=>iA) _) i j))⟩
def Jx (te:DE):DE:=λδ M Q=>te δ M λd M1=>match d with|.int i=>Q (.int (-i)) M1|_=>False
theorem Jy(h:JE X e te):JE X (.UnaryOp .USub e pos) (Jx te):=by
 refine⟨λδ M P Q w q=>h.mono δ _ _ _ (λd M1 q=>?_) q,PE.weak (Sq Pc h.p) λσ H Q q=>?_⟩
 ·cases d<;>first|exact q.elim|exact w _ _ q
 ·obtain⟨F,α,δ,M,r,q⟩:=q;refine⟨F,α,δ,M,r,h.mono δ _ _ _ (λd M1 q v gU H1 e1 o1 r1=>?_) q⟩;cases d<;>first|exact q.elim|skip
  unfold Rep at r1;exact⟨_,r1,q _ gU H1 e1 o1 iA⟩
def qR:G2:=λx y M Q=>match vw M x,y with
 |.int i,.int j=>rB i j/\Q (.int (i*j)) M
 |.lst xs,.int k=>(-(2^63)<=k/\k<2^63/\xs.length*k.toNat<=aH)/\Q (.lst (aU k.toNat xs).flatten) M
 |.str z,.int k=>MulOk z k/\Q (.str (Txt.mul z k)) M
 |_,_=>False
theorem Ek:ol X (binaryOp .Mult) (λx y H Q=>∃z k,x=.str z/\y=.int k/\MulOk z k/\Q (.str (Txt.mul z k)) H):=by intro pins s σ H x y v u Q I rx ry h;obtain⟨z,k,rfl,rfl,ok,q⟩:=h;obtain⟨t,rfl⟩:=rx;obtain⟨t',rfl⟩:=ry;exact SB.mul ok λt' k=>⟨.str _,H,I.tok _,⟨_,rfl⟩,q⟩
theorem pU:JO X .Mult qR:=by
 refine⟨λx y M P Q w q=>?_,λpins s σ H x y v u Q I rx ry h=>?_⟩
 ·unfold qR at q ⊢;generalize vw M x=a at q ⊢;split at q<;>first|exact q.elim|exact⟨q.1,w _ _ q.2⟩
 ·obtain⟨F,α,M,da,db,o,ra,rb,h⟩:=h;unfold qR at h;generalize e1:vw M da=a at h;split at h<;>first|exact h.elim|skip
  ·cases uh e1;unfold Rep at ra rb;exact O9 pins s σ H x y v u Q I rx ry ⟨_,_,ra,rb,h.1,vK.now o h.2 iA⟩
  ·obtain⟨a,vs,rfl,qa,za⟩:=kF o ra e1;unfold Rep at rb;subst rb;have l1:=gu.length _ _ za;exact PB pins s σ H _ _ v u Q I rx ry ⟨a,_,vs,rfl,rfl,qa,h.1.1,h.1.2.1,by rw[<-l1];exact h.1.2.2,λp hp=>vK.new o hp h.2 (lx o hp (gu.rep za _))⟩
  ·cases lU e1;unfold Rep at ra rb;exact Ek pins s σ H x y v u Q I rx ry ⟨_,_,ra,rb,h.1,vK.now o h.2 mR⟩
noncomputable def Jz:D->Option Nat
 |.lst ds=>aa ds.length
 |.tup ds=>aa ds.length
 |.pd ns=>aa ns.length
 |.str z=>if z.length<=aH then aa z.length else ak
 |.kY ks _=>aa ks.length
 |_=>ak
def mN:GN:=λds M Q=>match ds with
 |[d]=>∃n:Nat,Jz (vw M d)=aa n/\Q (.int n) M
 |_=>False
theorem mj:JB X (.builtin "len") mN:=by
 refine⟨λds M P Q w q=>?_,λpins s σ H xs us Q I rs h=>?_⟩
 ·match ds,q with
  |[d],⟨n,e,q⟩=>exact⟨n,e,w _ _ q⟩
 ·obtain⟨F,α,M,ds,o,rr,h⟩:=h;match ds,h,rr with
  |[d],⟨n,en,q⟩,rr=>
   obtain⟨v,ev,rv⟩:=wz rr;subst ev;generalize e1:vw M d=z at en;cases z<;>first|(cases en;done)|skip
   ·cases lU e1;unfold Rep at rv;subst rv;rename_i y _;have en:(if y.length<=aH then aa y.length else ak)=aa n:=en;by_cases hy:y.length<=aH
    ·rw[if_pos hy] at en;cases en;exact zQ pins s σ H _ us Q I rs ⟨_,rfl,hy,vK.now o q iA⟩
    ·rw[if_neg hy] at en;cases en
   ·cases en;obtain⟨a,vs,rfl,sq,zz⟩:=nk o rv e1;have hl:=gu.length _ _ zz;refine oq pins s σ H _ us Q I rs ⟨a,vs,rfl,.inr sq,?_⟩;rw[<-hl];exact vK.now o q iA
   ·cases en;obtain⟨a,vs,rfl,sq,zz⟩:=kF o rv e1;have hl:=gu.length _ _ zz;refine oq pins s σ H _ us Q I rs ⟨a,vs,rfl,.inl (oa.of sq),?_⟩;rw[<-hl];exact vK.now o q iA
   ·cases en;obtain⟨a,vs,rfl,sq,Tt,zz⟩:=zW o rv e1;have hl:=gu.length _ _ zz;obtain⟨u',rfl,ru'⟩:=vals1 rs;cases ru';refine SH I sq λt s' I'=>⟨.int _,H,I',⟨t,rfl⟩,?_⟩;rw[List.length_zip,<-hl,Tt,Nat.min_self,<-Tt];exact vK.now o q iA
   ·cases rK e1;cases en;unfold Rep at rv;obtain⟨a,rfl,sq⟩:=rv;refine oq pins s σ H _ us Q I rs ⟨a,_,rfl,.inl (jU gX sq),?_⟩;rw[aR];exact vK.now o q iA
noncomputable def kd:D->Option String
 |.non=>aa "NoneType"
 |.bl _=>aa "bool"
 |.int _=>aa "int"
 |.str _=>aa "str"
 |.tup _=>aa "tuple"
 |.lst _|.pd _=>aa "list"
 |.kY _ _=>aa "dict"
 |_=>ak
noncomputable def isK(k n:String):Option Bool:=if(["int","bool","str","tuple","list","dict"].contains n&&["NoneType","bool","int","str","tuple","list","dict"].contains k)=ah then aa (k==n||(k=="bool"&&n=="int")) else ak
noncomputable def rO(n:String)(d:D):Option Bool:=match kd d with
 |some k=>isK k n
 |none=>ak
structure N9(K:W.Frag)(C:af):Prop where
 cl:D2 K C
 ha:W.findIn K (.ref C) "__class__"=aa (aa (.builtin "object.__class__"))
 hn:W.specialIn K (.builtin "object.__class__") "__get__"=aa (aa (.builtin "getset_descriptor.__get__"))
 Yv:W.takesIn K (.builtin "object.__class__")=aa ah
 hm:W.mroIn K C (.type "object")=aa ah
noncomputable def tyv:D->Option ae
 |.non=>aa (.type "NoneType")
 |.bl _=>aa (.type "bool")
 |.int _=>aa (.type "int")
 |.str _=>aa (.type "str")
 |.tup _=>aa (.type "tuple")
 |.lst _|.pd _=>aa (.type "list")
 |.kY _ _=>aa (.type "dict")
 |.ins C _ _=>aa (.ref C)
 |_=>ak
def W1 (K:W.Frag):GN:=λds M Q=>match ds with
 |[d,.ty n]=>∃b,rO n (vw M d)=aa b/\Q (.bl b) M
 |[d,.cls C]=>∃t b,tyv (vw M d)=aa t/\(∀C ns es,vw M d=.ins C ns es->N9 K C)/\W.kitOne K t (.ref C)=aa b/\Q (.bl b) M
 |_=>False
def JD:GN:=λds M Q=>match ds with
 |[d]=>match vw M d with
  |.lst xs=>Q (.tup xs) M
  |.tup xs=>Q (.tup xs) M
  |_=>False
 |_=>False
theorem JH:JB X (.type "tuple") JD:=by
 refine⟨λds M P Q w q=>?_,λpins s σ H xs us Q I rs h=>?_⟩
 ·match ds,q with
  |[d],q=>
   have q:(match vw M d with|.lst xs=>P (.tup xs) M|.tup xs=>P (.tup xs) M|_=>False):=q;show(match vw M d with|.lst xs=>Q (.tup xs) M|.tup xs=>Q (.tup xs) M|_=>False);generalize vw M d=z at q ⊢;cases z<;>first|exact q.elim|exact w _ _ q
 ·obtain⟨F,α,M,ds,o,rr,h⟩:=h;match ds,h,rr with
  |[d],q,rr=>
   obtain⟨v,ev,rv⟩:=wz rr;subst ev;have q:(match vw M d with|.lst xs=>vK X.K F α H M Q (.tup xs) M|.tup xs=>vK X.K F α H M Q (.tup xs) M|_=>False):=q;generalize e1:vw M d=z at q;cases z<;>first|exact q.elim|skip
   ·cases Eh e1;obtain⟨a,vs,rfl,sq,zz⟩:=nk o rv e1;exact qV pins s σ H _ us Q I rs ⟨a,vs,rfl,.inr ⟨sq,vK.now o q rv⟩⟩
   ·obtain⟨a,vs,rfl,sq,zz⟩:=kF o rv e1;exact qV pins s σ H _ us Q I rs ⟨a,vs,rfl,.inl ⟨oa.of sq,λp hp=>vK.new o hp q (mS o hp zz)⟩⟩
abbrev GF:=List D->Ms->(OD->Ms->Prop)->Prop
def rDF (K:W.Frag)(g:GF):List V->Hp->VK->Prop:=λxs H Q=>∃F α M ds,OK K F α H M/\gu K α (iS F α M H) ds xs/\g ds M (fK K F α H M Q)
structure YS(X:Cx)(f:ae)(g:GF):Prop where
 mono:∀xs M (P Q:OD->Ms->Prop),(∀d M,P d M->Q d M)->g xs M P->g xs M Q
 p:pJ X f (rDF X.K g)
def P5 (g:GF)(tt:DA):DF:=λδ M Q=>tt δ M λds M1=>g ds M1 Q
theorem P6{T:String}{g:GF}(o:YS X (.type T) g)(hm:X.mg x=ak)(hv:b8 x=aa (.type T))(ha:JA X (e::es) tt)(hg:Gl X x:=by rfl)(hn:x≠"__name__":=by decide)(ni:(x==("__debug__":ar))=ai:=by decide)
(he:av (e::es) X.env=(ai,eval e X.env)::av es X.env:=by rfl)(kC:(bN pos (av es X.env)).any (·.1)=ai:=by rfl):JF X (.Call (.Name x p) (e::es) [] pos) (P5 g tt):=by refine⟨λδ M P Q w q=>ha.mono δ _ _ _ (λds M1 q=>o.mono _ _ _ _ w q) q,PE.weak (yM o.p hg hm hv ha.p hn ni he kC) λσ H Q q=>?_⟩;obtain⟨F,α,δ,M,r,q⟩:=q;exact⟨F,α,δ,M,r,ha.mono δ _ _ _ (λds M1 q vs gU H1 e1 o1 r1=>⟨F,gU,M1,ds,o1,r1,o.mono _ _ _ _ (fK.grow e1) q⟩) q⟩
def rP:GF:=λds M Q=>match ds with
 |[d]=>match vw M d with
  |.lst xs=>Q (.lst xs) M
  |.tup xs=>Q (.lst xs) M
  |.pd xs=>Q (.lst (xs.map D.int)) M
  |_=>False
 |_=>False
theorem wB:YS X (.type "list") rP:=by
 refine⟨λds M P Q w q=>?_,λpins s σ H xs us Q I rs h=>?_⟩
 ·match ds,q with
  |[d],q=>
   have q:(match vw M d with|.lst xs=>P (.lst xs) M|.tup xs=>P (.lst xs) M|.pd xs=>P (.lst (xs.map D.int)) M|_=>False):=q;show(match vw M d with|.lst xs=>Q (.lst xs) M|.tup xs=>Q (.lst xs) M|.pd xs=>Q (.lst (xs.map D.int)) M|_=>False);generalize vw M d=z at q ⊢;cases z<;>first|exact q.elim|exact w _ _ q
 ·obtain⟨F,α,M,ds,o,rr,h⟩:=h;match ds,h,rr with
  |[d],q,rr=>
   obtain⟨v,ev,rv⟩:=wz rr;subst ev;have q:(match vw M d with|.lst xs=>fK X.K F α H M Q (.lst xs) M|.tup xs=>fK X.K F α H M Q (.lst xs) M|.pd xs=>fK X.K F α H M Q (.lst (xs.map D.int)) M|_=>False):=q;generalize e1:vw M d=z at q;cases z<;>first|exact q.elim|skip
   ·obtain⟨a,vs,rfl,sq,zz⟩:=nk o rv e1;exact ot pins s σ H _ us Q I rs ⟨a,vs,rfl,.inr sq,λp hp=>q p _ α H Ext.refl o hp ⟨vs,rfl,zz⟩⟩
   ·obtain⟨a,vs,rfl,sq,zz⟩:=kF o rv e1;exact ot pins s σ H _ us Q I rs ⟨a,vs,rfl,.inl (oa.of sq),λp hp=>q p _ α H Ext.refl o hp ⟨vs,rfl,zz⟩⟩
   ·cases rK e1;unfold Rep at rv;obtain⟨a,rfl,sq⟩:=rv;exact ot pins s σ H _ us Q I rs ⟨a,_,rfl,.inl (jU gX sq),λp hp=>q p _ α H Ext.refl o hp ⟨_,rfl,gu.of_map _ _ (λc=>iA) _⟩⟩
end
noncomputable def xX(f:ar):List ar->List D->Option D
 |n::ns,d::ds=>if n=f then aa d else xX f ns ds
 |_,_=>ak
theorem El{f n:ar}{v:V}{ns:List ar}{vs:List V}:(((n,v)::ns.zip vs).lookup f)=if n=f then aa v else(ns.zip vs).lookup f:=by
 rw[cn];by_cases h:n=f
 ·subst h;simp
 ·have:(f==n)=ai:=by simpa usingλz=>h z.symm
  rw[this,if_neg h]
theorem sR{K:W.Frag}{α:List af}{H:Hp}{f:ar}:∀(ns:List ar) (ds:List D) (vs:List V),gu K α H ds vs->ns.length=ds.length->
  (∀d,xX f ns ds=aa d->∃v,(ns.zip vs).lookup f=aa v/\Rep K α H d v)/\(xX f ns ds=ak->(ns.zip vs).lookup f=ak)
 |[],ds,vs,h,l=>⟨λd e=>by simp[xX] at e,λ_=>rfl⟩
 |n::ns,[],vs,h,l=>by simp at l
 |n::ns,d::ds,vs,h,l=>by
  unfold gu at h;obtain⟨v,r,rfl,z,y⟩:=h;have ih:=sR (f:=f) ns ds r y (by simpa using l);rw[dH,El];unfold xX;by_cases e:n=f
  ·rw[if_pos e,if_pos e];exact⟨λd' e'=>⟨v,rfl,by cases e';exact z⟩,λe'=>by cases e'⟩
  ·rw[if_neg e,if_neg e];exact ih
structure mo(K:W.Frag)(C:af)(f:ar):Prop where
 cl:D2 K C
 na:jZ K C f
section
variable {X:Cx} {a b c e o value:aM} {es rest:List aM} {ta tb tc te to tv:DE} {tA:DT} {tt:DA} {pos pos' p p2 p3 apos iM:cu} {x f m:ar}
def i8 (K:W.Frag)(f:ar)(te:DE):DE:=λδ M Q=>te δ M λd M1=>∃C ns ds x,vw M1 d=.ins C ns ds/\mo K C f/\xX f ns ds=aa x/\Q x M1
theorem jL(h:JE X e te)(hb:cE e f X.env (eval e X.env)=eval e X.env:=by rfl):JE X (.Attribute e f pos) (i8 X.K f te):=by
 refine⟨λδ M P Q w q=>h.mono δ _ _ _ (λd M1 q=>?_) q,PE.weak (Pe h.p hb) λσ H Q q=>?_⟩
 ·obtain⟨C,ns,ds,x,h1,h2,h3,q⟩:=q;exact⟨C,ns,ds,x,h1,h2,h3,w _ _ q⟩
 ·obtain⟨F,α,δ,M,r,q⟩:=q;refine⟨F,α,δ,M,r,h.mono δ _ _ _ (λd M1 q v gU H1 e1 o1 r1=>?_) q⟩;obtain⟨C,ns,ds,x,h1,h2,h3,q⟩:=q;obtain⟨a,dx,vs,rfl,sq,hl,zz⟩:=Eg o1 r1 h1;obtain⟨v,hv,rv⟩:=(sR ns ds vs zz hl).1 x h3;exact⟨a,C,dx,_,v,rfl,sq,h2.cl,h2.na,hv,q v gU H1 e1 o1 rv⟩
abbrev lZ:=af->ar->GN->Prop
structure pV(P:ao)(w:aE)(K:W.Frag)(mg:ar->Option ae)(base:aq)(k:Nat)(C:af)(m:ar)(g:GN):Prop where
 mono:lV g
 cl:D2 K C
 ok:∃f fd ps,Meth K C m f/\Binds K fd ps []/\iW P w K mg base pF k f fd ps (pz K g)
def mT (T:lZ)(m:ar)(to:DE)(tt:DA):DE:=λδ M Q=>to δ M λd M1=>∃C ns es g,vw M1 d=.ins C ns es/\xX m ns es=ak/\T C m g/\tt δ M1 λds M2=>g (d::ds) M2 Q
theorem Em{pl:f9 Bool}{k:Nat}{T:lZ}(hT:∀C g,T C m g->pV X.prog X.w X.K X.mg X.base k C m g)(hr:iG k X.A)(ho:JE X o to)(ha:JA X (e::es) tt)
(l8:av (e::es) X.env=(ai,eval e X.env)::av es X.env:=by rfl)(kC:(bN pos (av es X.env)).any (·.1)=ai:=by rfl)
(ht:eval (.Call (.Attribute o m apos) (e::es) [] pos) X.env=(do
   let ov<-eval o X.env
   eF apos.atName
   let(f,first)<-holding [ov] (eH ov m pl)
   fY pos f first (bN pos (av (e::es) X.env)) (eg pos (de [] X.env))):=by rfl):
  JE X (.Call (.Attribute o m apos) (e::es) [] pos) (mT T m to tt):=by
 refine⟨λδ M P Q w q=>ho.mono δ _ _ _ (λd M1 q=>?_) q,?_⟩
 ·obtain⟨C,ns,es,g,h1,h2,h3,q⟩:=q;exact⟨C,ns,es,g,h1,h2,h3,ha.mono δ _ _ _ (λds M2 q=>(hT C g h3).mono _ _ _ _ w q) q⟩
 ·intro pins s σ H Q I h;obtain⟨F,α,δ,M,r,q⟩:=h;refine W.methodCall_KW (pl:=pl) (ja (ho.p pins s σ H _ I ⟨F,α,δ,M,r,ho.mono δ _ _ _ (λd M1 q v gU H1 e1 o1 r1=>(show(λv H1=>∃M1 gU d,Ext F α H M gU H1 M1/\OK X.K F gU H1 M1/\Rep X.K gU (iS F gU M1 H1) d v/\∃C ns es g,vw M1 d=.ins C ns es/\xX m ns es=ak/\T C m g/\tt δ M1 λds M2=>g (d::ds) M2 (vK X.K F α H M Q)) v H1 from⟨M1,gU,d,e1,o1,r1,q⟩)) q⟩) λu s1 ⟨v,H1,I1,rx,M1,gU,d,e1,o1,r1,C,ns,OW,g,h1,h2,h3,q⟩=>?_) ht;obtain⟨a,dx,vs,rfl,sq,hl,zz⟩:=Eg o1 r1 h1;obtain rfl:u=aD a:=rx;have MO:=hT C g h3;obtain⟨f,fd,ps,hm,hb,FO⟩:=MO.ok;refine vY I1 sq MO.cl hm ((sR ns OW vs zz hl).2 h2) ?_;refine W.callWith_K (first:=[.ref a]) (h₀:=X.base) I.ok.mod.DU hm.kp (ja (ha.p pos pins s1 σ H1 _ I1 ⟨F,gU,δ,M1,r.grow e1 o1,ha.mono δ _ _ _ (λds M2 q HY lR H2 e2 o2 r2=>(show(λHY H2=>pz X.K g (V.ref a::HY) H2 Q E0) HY H2 from
   ⟨F,lR,M2,d::ds,o2,gu.cons (e2.rep r1) r2,MO.mono _ _ _ _ (vK.grow (e1.trans e2)) q⟩)) q⟩) λus s2 ⟨HY,H2,I2,r2,q2⟩=>⟨I2.pD,?_⟩) l8 kC
  exact II (us:=.ref a::us) (vs:=.ref a::HY) FO hr hb .nil yS I2 (.cons rfl r2) (by rw[bj];exact q2)
structure rQ(P:ao)(w:aE)(K:W.Frag)(mg:ar->Option ae)(base:aq)(k:Nat)(C:af)(g:GN):Prop where
 mono:lV g
 ok:∃f fd ps,Mk K C f/\Binds K fd ps []/\iW P w K mg base pF k f fd ps (pz K g)
def JJ (C:af)(g:GN)(tt:DA):DE:=λδ M Q=>tt δ M λds M1=>g (.loc M1.length::ds) (M1++[aa (.ins C [] [])]) λd M2=>d=.non/\Q (.loc M1.length) M2
def JK (C:af)(g:GN)(tt:DA):DE:=λδ M Q=>tt δ M λds M1=>g (.loc M1.length::ds) (M1++[aa (.ins C [] [])]) λd M2=>d=.non/\∃ns es,M2=M1++[aa (.ins C ns es)]/\nK es=ah/\Q (.ins C ns es) M1
theorem P7{k:Nat}{C:af}{g:GN}(MO:rQ X.prog X.w X.K X.mg X.base k C g)(hr:iG (k+1) X.A)(hm:X.mg x=aa (.ref C))(ha:JA X (e::es) tt)(hg:Gl X x:=by rfl)(ni:(x==("__debug__":ar))=ai:=by decide)
(he:av (e::es) X.env=(ai,eval e X.env)::av es X.env:=by rfl)(kC:(bN pos (av es X.env)).any (·.1)=ai:=by rfl):JE X (.Call (.Name x p) (e::es) [] pos) (JJ C g tt):=by
 obtain⟨f,fd,ps,mk,hb,FO⟩:=MO.ok;refine⟨λδ M P Q w q=>ha.mono δ _ _ _ (λds M1 q=>MO.mono _ _ _ _ (λd M2 q=>⟨q.1,w _ _ q.2⟩) q) q,PE.weak (FA mk FO hr hg hm hb .nil yS ha.p ni he kC) λσ H Q q=>?_⟩;obtain⟨F,α,δ,M,r,q⟩:=q;refine⟨F,α,δ,M,r,ha.mono δ _ _ _ (λds M1 q vs gU H1 e1 o1 r1 y dy hy W2 ud=>?_) q⟩;have s0:jc H1 (upd (upd H1 dy (.own y)) y (.ins C dy [])):=λb ob e=>by rw[gz (jn e hy),gz (jn e W2)];exact e
 obtain⟨o2,e2⟩:=o1.enter (x:=.ins C [] []) hy s0 ⟨dy,[],gF,rfl,gu.nil⟩;show pz X.K g (V.ref y::(vs++[])) _ _ E0;rw[bj];refine⟨F,gU++[y],M1++[aa (.ins C [] [])],.loc M1.length::ds,o2,gu.cons ?_ (e2.wd r1),MO.mono _ _ _ _ (λd M2 q v uc H3 e3 o3 r3=>?_) q⟩
 ·unfold Rep;exact⟨y,by rw[<-o1.ml];simp,rfl⟩
 ·obtain⟨rfl,q⟩:=q;unfold Rep at r3;refine⟨r3,q _ uc H3 ((e1.trans e2).trans e3) o3 ?_⟩;unfold Rep;exact⟨y,zU e3.pre (by rw[<-o1.ml];simp),rfl⟩
end
mutual
def lb (n:Nat):D->Prop
 |.loc k=>k<n
 |.tup ds|.lst ds|.kY _ ds|.ins _ _ ds|.exc _ _ ds=>Hb n ds
 |.non|.bl _|.int _|.str _|.ty _|.pd _|.cls _=>True
def Hb (n:Nat):List D->Prop
 |[]=>True
 |d::ds=>lb n d/\Hb n ds
end
mutual
theorem Rep.lb {K:W.Frag} {α:List af} {H:Hp}:∀(d:D) (v:V),Rep K α H d v->L3.lb α.length d
 |.non,v,_|.bl _,v,_|.int _,v,_|.str _,v,_|.ty _,v,_|.pd _,v,_|.cls _,v,_=>by unfold L3.lb;trivial
 |.loc k,v,h=>by unfold Rep at h;unfold L3.lb;obtain⟨a,e,_⟩:=h;exact(aC.mp e).1
 |.tup ds,v,h=>by unfold Rep at h;unfold L3.lb;obtain⟨a,vs,r,q,z⟩:=h;exact gu.lb ds vs z
 |.lst ds,v,h=>by unfold Rep at h;unfold L3.lb;obtain⟨a,vs,r,q,z⟩:=h;exact gu.lb ds vs z
 |.kY ks ds,v,h=>by unfold Rep at h;unfold L3.lb;obtain⟨a,vs,r,q,l,z⟩:=h;exact gu.lb ds vs z
 |.ins C ns ds,v,h=>by unfold Rep at h;unfold L3.lb;obtain⟨a,dx,vs,r,q,l,z⟩:=h;exact gu.lb ds vs z
 |.exc C ns ds,v,h=>by unfold Rep at h;unfold L3.lb;obtain⟨a,vs,r,q,l,z⟩:=h;exact gu.lb ds vs z
theorem gu.lb {K:W.Frag} {α:List af} {H:Hp}:∀(d:List D) (v:List V),gu K α H d v->L3.Hb α.length d
 |[],v,h=>by unfold L3.Hb;trivial
 |d::ds,v,h=>by unfold gu at h;unfold L3.Hb;obtain⟨u,r,q,z,y⟩:=h;exact⟨Rep.lb d u z,gu.lb ds r y⟩
end
mutual
theorem Rep.shrink {K:W.Frag} {α β:List af} {H:Hp} (p:α <+: β):∀(d:D) (v:V),L3.lb α.length d->Rep K β H d v->Rep K α H d v
 |.non,v,_,h|.bl _,v,_,h|.int _,v,_,h|.str _,v,_,h|.ty _,v,_,h|.pd _,v,_,h|.cls _,v,_,h=>by unfold Rep at h ⊢;exact h
 |.loc k,v,n,h=>by unfold Rep at h ⊢;unfold L3.lb at n;obtain⟨a,e,r⟩:=h;obtain⟨t,rfl⟩:=p;rw[bb n] at e;exact⟨a,e,r⟩
 |.tup ds,v,n,h=>by unfold Rep at h ⊢;unfold L3.lb at n;obtain⟨a,vs,r,q,z⟩:=h;exact⟨a,vs,r,q,gu.shrink p ds vs n z⟩
 |.lst ds,v,n,h=>by unfold Rep at h ⊢;unfold L3.lb at n;obtain⟨a,vs,r,q,z⟩:=h;exact⟨a,vs,r,q,gu.shrink p ds vs n z⟩
 |.kY ks ds,v,n,h=>by unfold Rep at h ⊢;unfold L3.lb at n;obtain⟨a,vs,r,q,l,z⟩:=h;exact⟨a,vs,r,q,l,gu.shrink p ds vs n z⟩
 |.ins C ns ds,v,n,h=>by unfold Rep at h ⊢;unfold L3.lb at n;obtain⟨a,dx,vs,r,q,l,z⟩:=h;exact⟨a,dx,vs,r,q,l,gu.shrink p ds vs n z⟩
 |.exc C ns ds,v,n,h=>by unfold Rep at h ⊢;unfold L3.lb at n;obtain⟨a,vs,r,q,l,z⟩:=h;exact⟨a,vs,r,q,l,gu.shrink p ds vs n z⟩
theorem gu.shrink {K:W.Frag} {α β:List af} {H:Hp} (p:α <+: β):∀(d:List D) (v:List V),L3.Hb α.length d->gu K β H d v->gu K α H d v
 |[],v,_,h=>by unfold gu at h ⊢;exact h
 |d::ds,v,n,h=>by unfold gu at h ⊢;unfold L3.Hb at n;obtain⟨u,r,q,z,y⟩:=h;exact⟨u,r,q,Rep.shrink p d u n.1 z,gu.shrink p ds r n.2 y⟩
end
theorem vi.Hb{K:W.Frag}{α:List af}{Hh H:Hp}{o:OD}{a:af}(h:vi K α Hh H o a):match o with|.lst ds=>L3.Hb α.length ds|.kY _ ds=>L3.Hb α.length ds|.ins _ _ ds=>L3.Hb α.length ds|.fz _ _ _ ds=>L3.Hb α.length ds:=by
 cases o with
 |lst ds=>obtain⟨vs,_,r⟩:=h;exact gu.lb _ _ r
 |kY ks ds=>obtain⟨vs,_,_,r⟩:=h;exact gu.lb _ _ r
 |ins C ns ds=>obtain⟨dx,vs,_,_,r⟩:=h;exact gu.lb _ _ r
 |fz k ep ks ds=>obtain⟨_,vs,_,_,r⟩:=h;exact gu.lb _ _ r
theorem OK.vj{K:W.Frag}{F Oa α:List af}{H0 H:Hp}{M N:Ms}(h0:OK K F Oa H0 M)(h:OK K F α H (M++N))(pre:Oa <+: α):OK K F Oa H M/\jc (iS F α (M++N) H) (iS F Oa M H):=by
 obtain⟨β,rfl⟩:=pre;have Tt:=h0.ml;have hlv:lv (Oa++β) (M++N)=lv Oa M++lv β N:=qx Tt;have sm:jc (iS F (Oa++β) (M++N) H) (iS F Oa M H):=λb y e=>by
  obtain⟨z,q⟩:=ig e;rw[hlv] at z;show jg _ H b=_;refine kb e (λw=>z ?_) q
  ·simp only [bi] at w ⊢;rcases w with w|w
   ·exact .inl (.inl w)
   ·exact .inr w
 refine⟨⟨Tt,h0.nd,λa ha=>⟨(h0.fr a ha).1,(h.fr a ha).2⟩,λa ha=>h.al a (bC _ ha),λk y hk=>?_,h.tb⟩,sm⟩;have RU:k<M.length:=(aC.mp hk).1;obtain⟨a,ea,ra⟩:=h.own k y (by rw[bb RU];exact hk);rw[bb (by omega)] at ea;obtain⟨a0,YT,YU⟩:=h0.own k y hk;rw[ea] at YT;cases YT;have hb:=YU.Hb;refine⟨a,ea,?_⟩;cases y with
 |lst ds=>
  obtain⟨vs,q,r⟩:=ra;exact⟨vs,q,gu.shrink (bY _ _) _ _ hb (gu.mono (aQ _) sm _ _ r)⟩
 |kY ks ds=>
  obtain⟨vs,q,l,r⟩:=ra;exact⟨vs,q,l,gu.shrink (bY _ _) _ _ hb (gu.mono (aQ _) sm _ _ r)⟩
 |ins C ns ds=>
  obtain⟨dx,vs,q,l,r⟩:=ra;exact⟨dx,vs,q,l,gu.shrink (bY _ _) _ _ hb (gu.mono (aQ _) sm _ _ r)⟩
 |fz k ep ks ds=>
  obtain⟨_,vs,q,l,r⟩:=ra;exact⟨YU.1,vs,q,l,gu.shrink (bY _ _) _ _ hb (gu.mono (aQ _) sm _ _ r)⟩
section
variable {X:Cx} {a b c e o value:aM} {es rest:List aM} {ta tb tc te to tv:DE} {tA:DT} {tt:DA} {pos pos' p p2 p3 apos iM:cu} {x f m:ar}
theorem Mz{k:Nat}{C:af}{g:GN}(MO:rQ X.prog X.w X.K X.mg X.base k C g)(hr:iG (k+1) X.A)(hm:X.mg x=aa (.ref C))(ha:JA X (e::es) tt)(hg:Gl X x:=by rfl)(ni:(x==("__debug__":ar))=ai:=by decide)
(he:av (e::es) X.env=(ai,eval e X.env)::av es X.env:=by rfl)(kC:(bN pos (av es X.env)).any (·.1)=ai:=by rfl):JE X (.Call (.Name x p) (e::es) [] pos) (JK C g tt):=by
 obtain⟨f,fd,ps,mk,hb,FO⟩:=MO.ok;refine⟨λδ M P Q w q=>ha.mono δ _ _ _ (λds M1 q=>MO.mono _ _ _ _ (λd M2 q=>?_) q) q,PE.weak (FA mk FO hr hg hm hb .nil yS ha.p ni he kC) λσ H Q q=>?_⟩
 ·obtain⟨q1,ns,es,q2,q3,q4⟩:=q;exact⟨q1,ns,es,q2,q3,w _ _ q4⟩
 obtain⟨F,α,δ,M,r,q⟩:=q;refine⟨F,α,δ,M,r,ha.mono δ _ _ _ (λds M1 q vs gU H1 e1 o1 r1 y dy hy W2 ud=>?_) q⟩;have s0:jc H1 (upd (upd H1 dy (.own y)) y (.ins C dy [])):=λb ob e=>by rw[gz (jn e hy),gz (jn e W2)];exact e
 obtain⟨o2,e2⟩:=o1.enter (x:=.ins C [] []) hy s0 ⟨dy,[],gF,rfl,gu.nil⟩;show pz X.K g (V.ref y::(vs++[])) _ _ E0;rw[bj];have Hc:(gU++[y])[M1.length]?=aa y:=by rw[<-o1.ml];simp
 refine⟨F,gU++[y],M1++[aa (.ins C [] [])],.loc M1.length::ds,o2,gu.cons ?_ (e2.wd r1),MO.mono _ _ _ _ (λd M2 q v uc H3 e3 o3 r3=>?_) q⟩
 ·unfold Rep;exact⟨y,Hc,rfl⟩
 ·obtain⟨rfl,ns,fs,rfl,hn,q⟩:=q;unfold Rep at r3;have pre:gU <+: uc:=(bY _ _).trans e3.pre;obtain⟨o4,sm⟩:=OK.vj o1 o3 pre;have ey:=zU e3.pre Hc;obtain⟨a,ea,dx,ws,hq,hl,rr⟩:=o3.own M1.length (.ins C ns fs) (by simp);rw[ey] at ea;cases ea;have hyF:y∉F:=λz=>(o1.fr y z).2 (by rw[hy]);have hya:y∉gU:=λz=>o1.al y z (by rw[hy]);have hyl:y∉lv gU M1:=λz=>o1.live y z hy;have qW:=e2.trans e3;refine⟨r3,q _ gU H3 (e1.trans ⟨aQ _,qW.same.trans sm,qW.fr⟩) o4 ?_⟩;unfold Rep;refine⟨y,dx,ws,rfl,?_,hl,gu.nl _ _ hn (gu.mono (aQ _) sm _ _ rr)⟩;show jg _ H3 y=_;exact jK (λz=>(bi.mp z).elim hyl hyF) hq rfl
noncomputable def putN(f:ar)(d:D):List ar->List D->List ar×List D
 |n::ns,e::es=>if n=f then(n::ns,d::es) else((n::(putN f d ns es).1),(e::(putN f d ns es).2))
 |ns,es=>(ns++[f],es++[d])
theorem B4{K:W.Frag}{α:List af}{H:Hp}{f:ar}{d:D}{v:V}(rd:Rep K α H d v):∀(ns:List ar) (ds:List D) (vs:List V),gu K α H ds vs->ns.length=ds.length->
  ∃ws,lQ f v (ns.zip vs)=(putN f d ns ds).1.zip ws/\(putN f d ns ds).1.length=(putN f d ns ds).2.length/\gu K α H (putN f d ns ds).2 ws
 |[],[],vs,h,l=>by unfold gu at h;subst h;exact⟨[v],rfl,rfl,gu.one rd⟩
 |[],e::es,vs,h,l=>by simp at l
 |n::ns,[],vs,h,l=>by simp at l
 |n::ns,d0::es,vs,h,l=>by
  unfold gu at h;obtain⟨u,r,rfl,z,y⟩:=h;obtain⟨ws,i1,i2,i3⟩:=B4 (f:=f) rd ns es r y (by simpa using l);rw[dH];by_cases e:n=f
  ·subst e;have e1:putN n d (n::ns) (d0::es)=(n::ns,d::es):=by unfold putN;rw[if_pos rfl]
   rw[e1];refine⟨v::r,?_,by simpa using l,gu.cons rd y⟩;unfold lQ;simp
  ·have e1:putN f d (n::ns) (d0::es)=(n::(putN f d ns es).1,d0::(putN f d ns es).2):=by rw[putN,if_neg e]
   rw[e1];refine⟨u::ws,?_,by simpa using i2,gu.cons z i3⟩;unfold lQ;simp[e,i1]
def mq (K:W.Frag)(f:ar)(to tv:DE):DS:=λE δ M=>tv δ M λd M1=>to δ M1 λo M2=>match o with
 |.loc k=>∃C ns ds,M2[k]?=aa (aa (.ins C ns ds))/\mo K C f/\ns.length<1000/\E.nx δ (M2.set k (aa (.ins C (putN f d ns ds).1 (putN f d ns ds).2)))
 |_=>False
theorem jV(ho:JE X o to)(hv:JE X value tv)(hs:cW value (aa (.Attribute o f pos')) pos.line X.env=pure ai:=by rfl):JS X (.Assign [.Attribute o f pos'] value pos) (mq X.K f to tv):=by
 refine⟨λP Q δ M w q=>hv.mono δ _ _ _ (λd M1 q=>ho.mono δ _ _ _ (λo M2 q=>?_) q) q,PS.weak (Pf ho.p hv.p hs) λE σ H q=>?_⟩
 ·cases o<;>first|exact q.elim|skip
  obtain⟨C,ns,ds,h1,h2,h3,q⟩:=q;exact⟨C,ns,ds,h1,h2,h3,w.nx _ _ q⟩
 ·obtain⟨F,α,δ,M,r,q⟩:=q;refine⟨F,α,δ,M,r,hv.mono δ _ _ _ (λd M1 q v gU H1 e1 o1 r1=>⟨F,gU,δ,M1,r.grow e1 o1,ho.mono δ _ _ _ (λod M2 q u lR H2 e2 o2 r2=>?_) q⟩) q⟩;cases od<;>first|exact q.elim|skip
  rename_i k;obtain⟨C,ns,ds,h1,h2,h3,q⟩:=q;unfold Rep at r2;obtain⟨a,ea,rfl⟩:=r2;obtain⟨a',BP,dx,vs,hq,hl,rr⟩:=o2.own k _ h1;rw[ea] at BP;cases BP;obtain⟨ws,i1,i2,i3⟩:=B4 (f:=f) (e2.rep r1) ns ds vs rr hl;have kf:(ns.zip vs).length<1000:=by rw[List.length_zip,<-gu.length _ _ rr,hl];omega
  obtain⟨o3,e3⟩:=o2.write (y:=.ins C (putN f d ns ds).1 (putN f d ns ds).2) (z:=.ins C dx (lQ f v (ns.zip vs))) h1 ea (λHh eh=>by subst eh;exact⟨dx,ws,by rw[gF,i1],i2,i3⟩)
  exact⟨a,C,dx,_,rfl,hq,h2.cl,h2.na,kf,q σ lR _ ((e1.trans e2).trans e3) (r.grow ((e1.trans e2).trans e3) o3)⟩
end
section
variable {P:ao} {w:aE} {K:W.Frag} {mg:ar->Option ae} {base:aq}
theorem JL{x qual:ar}{st:br}{f:af}{fd:bz}{N ps:List ar}{k:Nat}{body:List br}{scope:bJ}{tb:DS}(F:og K x qual st f fd)(eb:g6 st=body)(es:gM st=scope)(S:gL N ps scope)
(hJ:∀(g8:ae) (A:ay) (outer:List cz) (s:ag) (H:Hp) (E:XK),iG k (A.deeper (cy qual scope s.heap.objs.size f g8))->rJ (py pF P w K mg base N qual scope f g8 A outer s H E).DV body tb):
  iW P w K mg base pF (k+1) f fd ps (pz K (BQ N.length ps.length tb)):=by subst eb es;exact F.ok S (λvs H Q E ⟨F,α,M,ds,o,r,hl,q⟩=>by rw[<-gu.length _ _ r];exact hl) λg8 A outer s H vs Q E hr h=>let⟨t,q,z⟩:=Jo (ps:=ps) (hJ g8 A outer s H E hr) rfl h;⟨t,q.p,z⟩
theorem W3{x qual:ar}{st:br}{f:af}{fd:bz}{N ps:List ar}{k:Nat}{body:List br}{scope:bJ}{tb:DS}(F:og K x qual st f fd)(eb:g6 st=body)(es:gM st=scope)(S:gL N ps scope)
(hJ:∀(g8:ae) (A:ay) (outer:List cz) (s:ag) (H:Hp) (E:XK),iG k (A.deeper (cy qual scope s.heap.objs.size f g8))->rJ (py pF P w K mg base N qual scope f g8 A outer s H E).DV body tb):
  iW P w K mg base pF (k+1) f fd ps (pz K (cl (wv N.length ps.length tb))):=by subst eb es;exact F.ok S (λvs H Q E ⟨F,α,M,ds,o,r,hn,hl,q⟩=>by rw[<-gu.length _ _ r];exact hl) λg8 A outer s H vs Q E hr h=>let⟨t,q,z⟩:=Jp (ps:=ps) (hJ g8 A outer s H E hr) rfl h;⟨t,q.p,z⟩
end
abbrev GM:=D->List D->Ms->DK->Prop
def rDm (K:W.Frag)(g:GM):V->List V->Hp->VK->Prop:=λx xs H Q=>∃F α M d ds,OK K F α H M/\Rep K α (iS F α M H) d x/\gu K α (iS F α M H) ds xs/\g d ds M (vK K F α H M Q)
structure JM(X:Cx)(id:String)(g:GM):Prop where
 mono:∀d ds M (P Q:DK),(∀d M,P d M->Q d M)->g d ds M P->g d ds M Q
 p:Wk X id (rDm X.K g)
noncomputable def W4(T:String)(d:D):Bool:=match d with
 |.lst _|.pd _=>T=="list"
 |.str _=>T=="str"
 |.int _=>T=="int"
 |.kY _ _=>T=="dict"
 |_=>ai
section
variable {X:Cx} {a b c e o value:aM} {es rest:List aM} {ta tb tc te to tv:DE} {tA:DT} {tt:DA} {pos pos' p p2 p3 apos iM:cu} {x f m name:ar} {T id:String} {g:GM}
theorem P8{F α:List af}{H:Hp}{M:Ms}{d:D}{v:V}(ok:OK X.K F α H M)(r:Rep X.K α (iS F α M H) d v)(h:W4 T (vw M d)=ah):Wo X.K T v H:=by
 generalize e1:vw M d=z at h;cases z<;>first|(cases h;done)|skip
 ·cases uh e1;unfold Rep at r;subst r;exact beq_iff_eq.mp h
 ·cases lU e1;unfold Rep at r;subst r;exact beq_iff_eq.mp h
 ·obtain⟨a,vs,rfl,sq,_⟩:=kF ok r e1;exact .inl ⟨beq_iff_eq.mp h,vs,oa.of sq⟩
 ·obtain⟨a,vs,rfl,sq,_⟩:=zW ok r e1;exact .inr (.inr (.inl ⟨beq_iff_eq.mp h,.inl ⟨_,sq⟩⟩))
 ·cases rK e1;unfold Rep at r;obtain⟨a,rfl,sq⟩:=r;exact .inl ⟨beq_iff_eq.mp h,_,jU gX sq⟩
def HZ (T:String)(g:GM)(to:DE)(tt:DA):DE:=λδ M Q=>to δ M λd M1=>W4 T (vw M1 d)=ah/\tt δ M1 λds M2=>g d ds M2 Q
theorem Hd(jm:JM X id g)(pa:PlainAttrs T)(slot:Slot T name id)(Wp:aaA (.builtin id)=pure (.type "method_descriptor"))(ho:JE X o to)(ha:JA X (e::es) tt)
(pM:cE o name X.env (eval o X.env)=eval o X.env:=by rfl)
(Py:((bN iM (av (e::es) X.env)).all (λx=>!x.1)&&(eg iM (de [] X.env)).all (λx=>x.1.isSome)
   &&decide ((e::es).length+([]:List et).length+(if([]:List et).isEmpty then 0 else 1)<30))=ah:=by rfl)
(IU:(apos.endLine==iM.line)=ah:=by rfl)(hs:av (e::es) X.env=(ai,eval e X.env)::av es X.env:=by rfl)(Ea:(bN iM (av es X.env)).any (·.1)=ai:=by rfl):
  JE X (.Call (.Attribute o name apos) (e::es) [] iM) (HZ T g to tt):=by refine⟨λδ M P Q w q=>ho.mono δ _ _ _ (λd M1 q=>⟨q.1,ha.mono δ _ _ _ (λds M2 q=>jm.mono _ _ _ _ _ w q) q.2⟩) q,PE.weak (SO pa slot Wp jm.p ho.p ha.p pM Py IU hs Ea) λσ H Q q=>?_⟩;obtain⟨F,α,δ,M,r,q⟩:=q;refine⟨F,α,δ,M,r,ho.mono δ _ _ _ (λd M1 q v gU H1 e1 o1 r1=>⟨P8 o1 r1 q.1,F,gU,δ,M1,r.grow e1 o1,ha.mono δ _ _ _ (λds M2 q vs lR H2 e2 o2 r2=>?_) q.2⟩) q⟩;exact⟨F,lR,M2,d,ds,o2,e2.rep r1,r2,jm.mono _ _ _ _ _ (vK.grow (e1.trans e2)) q⟩
theorem vM{F α:List af}{H:Hp}{M:Ms}{k:Nat}{ds:List D}{v:V}(ok:OK X.K F α H M)(r:Rep X.K α (iS F α M H) (.loc k) v)(h:M[k]?=aa (aa (.lst ds))):
  ∃a vs,v=.ref a/\H a=aa (.lst vs)/\gu X.K α (iS F α M H) ds vs/\∀es ws,gu X.K α (iS F α M H) es ws->OK X.K F α (upd H a (.lst ws)) (M.set k (aa (.lst es)))/\Ext F α H M α (upd H a (.lst ws)) (M.set k (aa (.lst es))):=by unfold Rep at r;obtain⟨a,ea,rfl⟩:=r;obtain⟨a',BP,vs,hq,rr⟩:=ok.own k _ h;rw[ea] at BP;cases BP;exact⟨a,vs,rfl,hq,rr,λes ws BE=>ok.write (y:=.lst es) (z:=.lst ws) h ea λHh eh=>by subst eh;exact⟨ws,gF,BE⟩⟩
def jr:GM:=λd ds M Q=>match d,ds with
 |.loc k,[x]=>∃es,M[k]?=aa (aa (.lst es))/\es.length<aH/\Q .non (M.set k (aa (.lst (es++[x]))))
 |_,_=>False
theorem l9:JM X "list.append" jr:=by
 refine⟨λd ds M P Q w q=>?_,λpins s σ H x xs v us Q I rx rs h=>?_⟩
 ·match d,ds,q with
  |.loc k,[x],⟨es,h1,h2,q⟩=>exact⟨es,h1,h2,w _ _ q⟩
 ·obtain⟨F,α,M,d,ds,ok,r,rr,h⟩:=h;match d,ds,h,r,rr with
  |.loc k,[y],⟨es,h1,h2,q⟩,r,rr=>
   obtain⟨a,vs,rfl,hH,r1,wr⟩:=vM ok r h1;obtain⟨u,eu,ru⟩:=wz rr;subst eu;obtain⟨o2,e2⟩:=wr (es++[y]) (vs++[u]) (gu.append _ _ _ _ r1 (gu.one ru));exact yQ pins s σ H _ _ v us Q I rx rs ⟨a,vs,u,rfl,rfl,hH,by rw[<-gu.length _ _ r1];exact h2,q _ α _ e2 o2 lX⟩
theorem gu.dropLast{K:W.Frag}{α:List af}{H:Hp}{es:List D}{x:D}{vs:List V}(h:gu K α H (es++[x]) vs):∃us v,vs=us++[v]/\gu K α H es us/\Rep K α H x v:=by
 induction es generalizing vs with
 |nil=>
  obtain⟨v,rfl,r⟩:=wz h;exact⟨[],v,rfl,gu.nil,r⟩
 |cons d es ih=>
  rw[List.cons_append] at h;unfold gu at h;obtain⟨v,r,rfl,z,y⟩:=h;obtain⟨us,u,rfl,h1,h2⟩:=ih y;exact⟨v::us,u,rfl,gu.cons z h1,h2⟩
def pW (to ti:DE):DG:=λv δ M Q=>to δ M λo M1=>ti δ M1 λi M2=>match o with
 |.loc k=>match M2[k]?,i with
  |some (aa (.lst ds)),.int j=>∃n,BH ds.length j=aa n/\Q δ (M2.set k (aa (.lst (ds.set n v))))
  |_,_=>False
 |_=>False
theorem wC(ho:JE X o to)(hi:JE X e te)
(ha:∀v,assign (.Subscript o e pos) X.env v=(do
   let ov<-holding [v] (eval o X.env);let iv<-holding [v,ov] (eval e X.env)
   eF pos
   holding [v,ov,iv] (fH ov iv v)
   release [v,ov,iv] []):=by intro _;rfl):JG X (.Subscript o e pos) (pW to te):=by
 refine⟨λd δ M P Q w q=>ho.mono δ _ _ _ (λod M1 q=>hi.mono δ _ _ _ (λi M2 q=>?_) q) q,PG.weak (O5 ho.p hi.p BI ha) λv σ H Q q=>?_⟩
 ·cases od<;>first|exact q.elim|skip
  rename_i k;simp only at q ⊢;split at q
  ·obtain⟨n,h1,q⟩:=q;exact⟨n,h1,w _ _ q⟩
  ·exact q.elim
 ·obtain⟨F,α,δ,M,d,r,rd,q⟩:=q;refine⟨F,α,δ,M,r,ho.mono δ _ _ _ (λod M1 q u gU H1 e1 o1 r1=>⟨F,gU,δ,M1,r.grow e1 o1,hi.mono δ _ _ _ (λi M2 q w lR H2 e2 o2 r2=>?_) q⟩) q⟩;cases od<;>first|exact q.elim|skip
  rename_i k;simp only at q;split at q
  ·rename_i ds j hk;obtain⟨n,h1,q⟩:=q;unfold Rep at r2;subst r2;obtain⟨a,vs,rfl,hH,rr,wr⟩:=vM o2 (e2.rep r1) hk;have rd2:=(e1.trans e2).rep rd;obtain⟨o3,e3⟩:=wr (ds.set n d) (vs.set n v) (gu.set rd2 n _ _ rr);exact⟨a,vs,j,n,rfl,rfl,hH,by rw[<-gu.length _ _ rr];exact h1,q σ lR _ ((e1.trans e2).trans e3) (r.grow ((e1.trans e2).trans e3) o3)⟩
  ·exact q.elim
end
open PyProof.Rows.KTD
def B5 (K:W.Frag)(d:D)(u:ae):Prop:=∃v,RelV v u/\∀α H,Rep K α H d v
structure aae(K:W.Frag)(a:af)(rows:List (ar×D)):Prop where
 lo:(a==el)=ai
 ex:∃o es ep,K.lookup a=aa o/\o.ExactDict/\o.data=.dict es ep/\Rows (B5 K) es.toList rows
section
variable {prog:ao} {w:aE} {A:ay} {E:ae->ag->Prop} {s:ag} {K:W.Frag} {a:af} {rows:List (ar×D)} {k:ar} {tk:gm}
end
section
variable {X:Cx} {a:af} {rows:List (ar×D)}
end
end L3
namespace L3
open PySem PySem.Spec PyProof.Rows L2
section
variable {P:ao} {w:aE} {K:W.Frag} {mg:ar->Option ae} {base:aq}
theorem sS{x:ar}{st:br}{N ps:List ar}{k:Nat}{body:List br}{scope:bJ}{tb:DS}(F:hW K mg x st)(eb:g6 st=body)(es:gM st=scope)(S:gL N ps scope)
(hb:∀(kV doc pm:ae) (an:Option af) (g8 ct:ae) (us:List ae),us.length=ps.length->c7 (W.fnOf x x (jf st) (g6 st) (gM st) .none kV doc pm an g8 ct) ⟨us,[]⟩=pure (ps.zip us))
(hJ:∀(f:af) (g8:ae) (A:ay) (outer:List cz) (s:ag) (H:Hp) (E:XK),iG k (A.deeper (cy x scope s.heap.objs.size f g8))->rJ (py pF P w K mg base N x scope f g8 A outer s H E).DV body tb):
  vG P w K mg base (k+1) x ps (pz K (cl (wv N.length ps.length tb))):=
 F.S8 eb es S hb (λvs H Q E ⟨F,α,M,ds,o,r,hn,hl,q⟩=>by rw[<-gu.length _ _ r];exact hl) λf g8 A outer s H vs Q E hr h=>Jp (ps:=ps) (hJ f g8 A outer s H E hr) rfl h
theorem JN{x:ar}{st:br}{N ps:List ar}{k:Nat}{body:List br}{scope:bJ}{tb:DS}(F:hW K mg x st)(eb:g6 st=body)(es:gM st=scope)(S:gL N ps scope)
(hb:∀(kV doc pm:ae) (an:Option af) (g8 ct:ae) (us:List ae),us.length=ps.length->c7 (W.fnOf x x (jf st) (g6 st) (gM st) .none kV doc pm an g8 ct) ⟨us,[]⟩=pure (ps.zip us))
(hJ:∀(f:af) (g8:ae) (A:ay) (outer:List cz) (s:ag) (H:Hp) (E:XK),iG k (A.deeper (cy x scope s.heap.objs.size f g8))->rJ (py pF P w K mg base N x scope f g8 A outer s H E).DV body tb):
  vG P w K mg base (k+1) x ps (pz K (BQ N.length ps.length tb)):=
 F.S8 eb es S hb (λvs H Q E ⟨F,α,M,ds,o,r,hl,q⟩=>by rw[<-gu.length _ _ r];exact hl) λf g8 A outer s H vs Q E hr h=>Jo (ps:=ps) (hJ f g8 A outer s H E hr) rfl h
theorem Ae{k:Nat}{x:ar}{ps:List ar}{g g':GP}(h:vG P w K mg base k x ps (pz K (cl g)))(m:pS g')(i:∀ds Q,g' ds Q->g ds Q):j3 P w K mg base k x ps (cl g'):=
 ⟨Mu m,let⟨f,fd,m1,kp,b,F⟩:=h;⟨f,fd,m1,kp,b,F.imp λvs H Q E ⟨F,α,M,ds,o,r,n,q⟩=>⟨F,α,M,ds,o,r,n,i _ _ q⟩⟩⟩
theorem P9{k:Nat}{x:ar}{ps:List ar}{g g':GN}(h:vG P w K mg base k x ps (pz K g))(m:lV g')(i:∀ds M Q,g' ds M Q->g ds M Q):j3 P w K mg base k x ps g':=
 ⟨m,let⟨f,fd,m1,kp,b,F⟩:=h;⟨f,fd,m1,kp,b,F.imp λvs H Q E ⟨F,α,M,ds,o,r,q⟩=>⟨F,α,M,ds,o,r,i _ _ _ q⟩⟩⟩
theorem Ob{k:Nat}{C f:af}{fd:bz}{ps:List ar}{g g':GN}(hm:Mk K C f)(hb:Binds K fd ps [])(F:iW P w K mg base pF k f fd ps (pz K g))(mm:lV g')(i:∀ds M Q,g' ds M Q->g ds M Q):rQ P w K mg base k C g':=
 ⟨mm,f,fd,ps,hm,hb,F.imp λvs H Q E ⟨F,α,M,ds,o,r,q⟩=>⟨F,α,M,ds,o,r,i _ _ _ q⟩⟩
end
mutual
noncomputable def dv (M:Ms):D->D
 |.non=>.non|.bl b=>.bl b|.int i=>.int i|.str x=>.str x|.ty n=>.ty n|.pd ns=>.pd ns|.cls C=>.cls C
 |.loc k=>vw M (.loc k)
 |.tup ds=>.tup (sE M ds)|.lst ds=>.lst (sE M ds)|.kY ks ds=>.kY ks (sE M ds)|.ins C ns ds=>.ins C ns (sE M ds)|.exc C ns ds=>.exc C ns (sE M ds)
noncomputable def sE (M:Ms):List D->List D
 |[]=>[]
 |d::ds=>dv M d::sE M ds
end
theorem FW(M:Ms):∀ds:List D,sE M ds=ds.map (dv M)
 |[]=>rfl
 |d::ds=>by unfold sE;rw[FW M ds];rfl
mutual
theorem FX (M:Ms):∀d:D,nl d=ah->dv M d=d
 |.non,_=>rfl|.bl _,_=>rfl|.int _,_=>rfl|.str _,_=>rfl|.ty _,_=>rfl|.pd _,_=>rfl|.cls _,_=>rfl
 |.loc _,h=>by unfold nl at h;cases h
 |.tup ds,h=>by unfold dv;unfold nl at h;rw[ui M ds h]
 |.lst ds,h=>by unfold dv;unfold nl at h;rw[ui M ds h]
 |.kY ks ds,h=>by unfold dv;unfold nl at h;rw[ui M ds h]
 |.ins C ns ds,h=>by unfold dv;unfold nl at h;rw[ui M ds h]
 |.exc C ns ds,h=>by unfold dv;unfold nl at h;rw[ui M ds h]
theorem ui (M:Ms):∀ds:List D,nK ds=ah->sE M ds=ds
 |[],_=>rfl
 |d::ds,h=>by unfold sE;unfold nK at h;rw[aP] at h;rw[FX M d h.1,ui M ds h.2]
end
theorem rR(M:Ms)(ds:List D):(sE M ds).length=ds.length:=by rw[FW,aR]
section
variable {K:W.Frag} {F α:List af} {H:Hp} {M:Ms}
mutual
theorem wD (o:OK K F α H M):∀(d:D) (v:V),Rep K α (iS F α M H) d v->Rep K α H (dv M d) v
 |.non,v,h=>by unfold dv;unfold Rep at h ⊢;exact h
 |.bl _,v,h=>by unfold dv;unfold Rep at h ⊢;exact h
 |.int _,v,h=>by unfold dv;unfold Rep at h ⊢;exact h
 |.str _,v,h=>by unfold dv;unfold Rep at h ⊢;exact h
 |.ty _,v,h=>by unfold dv;unfold Rep at h ⊢;exact h
 |.cls _,v,h=>by unfold dv;unfold Rep at h ⊢;exact h
 |.pd ns,v,h=>by unfold dv;unfold Rep at h ⊢;obtain⟨a,r,q⟩:=h;exact⟨a,r,jU gX q⟩
 |.loc k,v,h=>by unfold dv;exact Rep.mono (aQ _) gX _ _ (wu o _ _ h)
 |.tup ds,v,h=>by unfold dv;unfold Rep at h ⊢;obtain⟨a,vs,r,q,z⟩:=h;exact⟨a,vs,r,nI gX q,qB o ds vs z⟩
 |.lst ds,v,h=>by unfold dv;unfold Rep at h ⊢;obtain⟨a,vs,r,q,z⟩:=h;exact⟨a,vs,r,gX _ _ q,qB o ds vs z⟩
 |.kY ks ds,v,h=>by unfold dv;unfold Rep at h ⊢;obtain⟨a,vs,r,q,l,z⟩:=h;exact⟨a,vs,r,zT gX q,by rw[rR];exact l,qB o ds vs z⟩
 |.ins C ns ds,v,h=>by unfold dv;unfold Rep at h ⊢;obtain⟨a,dx,vs,r,q,l,z⟩:=h;exact⟨a,dx,vs,r,gX _ _ q,by rw[rR];exact l,qB o ds vs z⟩
 |.exc C ns ds,v,h=>by unfold dv;unfold Rep at h ⊢;obtain⟨a,vs,r,q,l,z⟩:=h;exact⟨a,vs,r,gX _ _ q,by rw[rR];exact l,qB o ds vs z⟩
theorem qB (o:OK K F α H M):∀(ds:List D) (vs:List V),gu K α (iS F α M H) ds vs->gu K α H (sE M ds) vs
 |[],vs,h=>by unfold sE;unfold gu at h ⊢;exact h
 |d::ds,vs,h=>by unfold sE;unfold gu at h ⊢;obtain⟨v,r,q,z,y⟩:=h;exact⟨v,r,q,wD o d v z,qB o ds r y⟩
end
end
section
variable {X:Cx}
def JQ:G2:=λx y M Q=>W0 (dv M x) (dv M y)/\Q (.bl (vL (dv M x) (dv M y))) M
def nL:G2:=λx y M Q=>W0 (dv M x) (dv M y)/\Q (.bl (!vL (dv M x) (dv M y))) M
theorem Qa(hu:X.A.units+64<eC):JC X .Eq JQ:=by refine⟨λx y M P Q w q=>⟨q.1,w _ _ q.2⟩,λpins s σ H x y v u Q I rx ry h=>?_⟩;obtain⟨F,α,M,da,db,o,ra,rb,⟨c1,c2,c3,c4⟩,h⟩:=h;obtain⟨as,w1⟩:=Rep.reads I _ x v (wD o _ _ ra) rx c1;obtain⟨bs,w2⟩:=Rep.reads I _ y u (wD o _ _ rb) ry c2;refine eq_dataH w1 w2 (kj c1 c3) (kj c2 c4) hu ⟨.bl _,H,I,rfl,?_⟩;rw[toP_eqv _ _ c1 c2];exact vK.now o h jd
theorem Af(hu:X.A.units+64<eC):JC X .NotEq nL:=by refine⟨λx y M P Q w q=>⟨q.1,w _ _ q.2⟩,λpins s σ H x y v u Q I rx ry h=>?_⟩;obtain⟨F,α,M,da,db,o,ra,rb,⟨c1,c2,c3,c4⟩,h⟩:=h;obtain⟨as,w1⟩:=Rep.reads I _ x v (wD o _ _ ra) rx c1;obtain⟨bs,w2⟩:=Rep.reads I _ y u (wD o _ _ rb) ry c2;refine ne_dataH w1 w2 (kj c1 c3) (kj c2 c4) hu ⟨.bl _,H,I,rfl,?_⟩;rw[toP_eqv _ _ c1 c2];exact vK.now o h jd
end
noncomputable def sc:D->Bool
 |.non|.bl _|.int _|.str _|.ty _=>ah
 |_=>ai
theorem Qb{K:W.Frag}{H:Hp}(t:Tb K H):OK K [] [] H []:=⟨rfl,List.nodup_nil,λ_ h=>by simp at h,λ_ h=>by simp at h,λk o h=>by simp at h,t⟩
def Od (H H':Hp):Prop:=∀b o,H b=aa o->qw (aa o)=aa o->H' b=aa o
theorem En{H:Hp}:Od H (jg [] H):=λb o e v=>jK (by simp) e v
theorem Eo{K:W.Frag}{H H':Hp}{a:af}{xs:List V}(e:Od H H')(h:oa K H a xs):oa K H' a xs:=by
 rcases h with(h|⟨o,h⟩)|h
 ·exact .inl (.inl (e _ _ h rfl))
 ·exact .inl (.inr ⟨o,e _ _ h rfl⟩)
 ·exact .inr h
section
variable {P:ao} {w:aE} {K:W.Frag} {mg:ar->Option ae} {base:aq}
end
def Ag:List (DE×DE)->kZ->Ms->(List (D×D)->Ms->Prop)->Prop
 |[],_,M,Q=>Q [] M
 | (tk,tv)::r,δ,M,Q=>tk δ M λk M1=>tv δ M1 λv M2=>Ag r δ M2 λps M3=>Q ((k,v)::ps) M3
abbrev pK(K:W.Frag)(F α:List af)(H:Hp)(M:Ms)(Q:List (V×V)->Hp->Prop):List (D×D)->Ms->Prop:=λps M'=>∀vs gS H',Ext F α H M gS H' M'->OK K F gS H' M'->gu K gS (iS F gS M' H') (ps.map (·.1)) (vs.map (·.1))->gu K gS (iS F gS M' H') (ps.map (·.2)) (vs.map (·.2))->Q vs H'
structure JP(X:Cx)(pos:cu)(keys:List (Option aM))(values:List aM)(ts:List (DE×DE)):Prop where
 mono:∀δ M (P Q:List (D×D)->Ms->Prop),(∀ps M,P ps M->Q ps M)->Ag ts δ M P->Ag ts δ M Q
 p:∃U5,ZL X pos keys values U5/\∀F α δ M σ H Q,R X.K F α H σ δ M->Ag ts δ M (pK X.K F α H M Q)->D6 U5 σ H Q
section
variable {X:Cx} {pos:cu} {k v:aM} {keys:List (Option aM)} {values:List aM} {tk tv:DE} {ts:List (DE×DE)}
def Tu:GN:=λds M Q=>match ds with
 |[.int i,.int j]=>Q (.int (if j>i then j else i)) M
 |_=>False
theorem Qc(hc:X.calm=ah:=by rfl):JB X (.builtin "max") Tu:=by
 refine⟨λds M P Q w q=>?_,λpins s σ H xs us Q I rs h=>?_⟩
 ·match ds,q with
  |[.int i,.int j],q=>exact w _ _ q
 ·obtain⟨F,α,M,ds,o,rr,h⟩:=h;match ds,h,rr with
  |[.int i,.int j],q,rr=>
   obtain⟨v,u,ev,r1,r2⟩:=Jv rr;subst ev;unfold Rep at r1 r2;subst r1 r2;exact GX hc pins s σ H _ us Q I rs ⟨i,j,rfl,vK.now o q iA⟩
end
section
variable {X:Cx}
end
section
variable {X:Cx} {x:ar} {pos:cu} {a b:aM} {ta tb:DE}
theorem FY{d:D}(h:∃u,X.mg x=aa u/\B5 X.K d u)(hg:Gl X x:=by rfl)(hd:(x==("__debug__":ar))=ai:=by decide):JE X (.Name x pos) (dC d):=by obtain⟨u,hm,v,r,rr⟩:=h;exact Ed hm r rr hg hd
def JR:G2:=λx y M Q=>match x,y with
 |.non,.bl _=>Q (.bl ai) M
 |.bl c,.bl b=>Q (.bl (c==b)) M
 |_,_=>False
theorem Ep:JC X .Is JR:=by
 refine⟨λx y M P Q w q=>?_,λpins s σ H x y v u Q I rx ry h=>?_⟩
 ·cases x<;>cases y<;>first|exact q.elim|exact w _ _ q
 ·obtain⟨F,α,M,da,db,o,ra,rb,h⟩:=h;cases da<;>cases db<;>first|exact h.elim|skip
  ·unfold Rep at ra rb;subst ra rb;cases rx;cases ry;exact az ⟨.bl ai,H,I,rfl,vK.now o h jd⟩
  ·unfold Rep at ra rb;subst ra rb;cases rx;cases ry;exact is_bool ⟨.bl _,H,I,rfl,vK.now o h jd⟩
def pe (_ j:Int):Prop:=0<j/\j<18446744073709551616
theorem JU:ol X (binaryOp .FloorDiv) (rI pe λi j=>.int (i/j)):=U3 λi j _ _ _ _ _ hc q=>by
 have h1:(0:Int)<j:=hc.1;have h2:j<18446744073709551616:=hc.2;refine floordiv_int (by omega) (by rw[Int.fdiv_eq_ediv_of_nonneg i (by omega)];exact q) (.inl (PyProof.noPylong_of_log2 ?_));have hj:j.natAbs<2^64:=by omega
 have:=(Nat.log2_lt (by omega:j.natAbs≠0)).mpr hj;omega
theorem nM:JO X .FloorDiv (gI pe λi j=>.int (i/j)):=⟨Aa,λpins s σ H x y v u Q I rx ry h=>by
 obtain⟨F,α,M,da,db,o,ra,rb,h⟩:=h;cases da<;>cases db<;>first|exact h.elim|skip
 unfold Rep at ra rb;exact JU pins s σ H x y v u Q I rx ry ⟨_,_,ra,rb,h.1,vK.now o h.2 iA⟩⟩
def wE (x y:D)(M:Ms)(Q:OD->Ms->Prop):Prop:=match vw M x,vw M y with
 |.lst xs,.lst ys=>xs.length+ys.length<=aH/\Q (.lst (xs++ys)) M
 |_,_=>False
theorem B6{x y:D}{M:Ms}{P Q:OD->Ms->Prop}(w:∀o M,P o M->Q o M)(q:wE x y M P):wE x y M Q:=by unfold wE at q ⊢;generalize vw M x=a at q ⊢;generalize vw M y=b at q ⊢;cases a<;>cases b<;>first|exact q.elim|exact⟨q.1,w _ _ q.2⟩
def B7 (ta tb:DE):DF:=λδ M Q=>ta δ M λx M1=>tb δ M1 λy M2=>wE x y M2 Q
theorem FZ(ha:JE X a ta)(hb:JE X b tb):JF X (.BinOp a .Add b pos) (B7 ta tb):=by
 refine⟨λδ M P Q w q=>ha.mono δ _ _ _ (λx M1 q=>hb.mono δ _ _ _ (λy M2 q=>B6 w q) q) q,PE.weak (NS IW ha.p hb.p) λσ H Q q=>?_⟩;obtain⟨F,α,δ,M,r,q⟩:=q;refine⟨F,α,δ,M,r,ha.mono δ _ _ _ (λda M1 q v gU H1 e1 o1 r1=>⟨F,gU,δ,M1,r.grow e1 o1,hb.mono δ _ _ _ (λdb M2 q u lR H2 e2 o2 r2=>?_) q⟩) q⟩;unfold wE at q;generalize h1:vw M2 da=x at q;generalize h2:vw M2 db=y at q;cases x<;>cases y<;>first|exact q.elim|skip
 obtain⟨a1,vs,rfl,qa,za⟩:=kF o2 (e2.rep r1) h1;obtain⟨b1,us,rfl,qb,zb⟩:=kF o2 r2 h2;have l1:=gu.length _ _ za;have l2:=gu.length _ _ zb;exact⟨a1,b1,vs,us,rfl,rfl,qa,qb,by rw[<-l1,<-l2];exact q.1,λp hp=>q.2 p _ lR H2 (e1.trans e2) o2 hp ⟨vs++us,rfl,gu.append _ _ _ _ za zb⟩⟩
end
noncomputable def MA(lo c:Int)(n:Nat):It:=⟨λi _=>i<n,λi H x H'=>H'=H/\x=.int (lo+i*c),λi _=>n<=i⟩
theorem B8{P:ao}{w:aE}{K:W.Frag}{tg:aM}(it:af)(lo c:Int)(n:Nat):Turn P w K tg (MA lo c n) [it] it (λi h=>eX h it (lo+(i:Nat)*c) ((n:Int)- (i:Nat)) c) where
 mem:=by simp
 obj:=λi h st b hb=>by
  have e:b=it:=by simpa using hb
  subst e;exact⟨_,st,λv z=>by have z':Data.fields _=Data.cell v:=z;cases z'⟩
 keep:=λi h h' st k=>k it (by simp) _ st
 item:=by intro X hP hw hK hc i pins s σ H E I hf st hg;subst hP hw hK;obtain⟨f0,f1,f2,f3,f4,f5⟩:=hf it (by simp);have W:=zJ.range (prog:=X.prog) (w:=X.w) (I.ok.hd hc) it lo c n;refine W.item i s _ _ hg st λv h' tk hv By kk=>?_;obtain⟨t,rfl⟩:=hv;have I1:L2.Inv X pins σ H {s with heap:=h',toks:=tk}:=I.turned (λb o hb e=>kk b o (by simpa using hb) e) f0 f1 f3 f4 f5;exact⟨_,rfl,yC (s:={s with heap:=h',toks:=tk}) (n:="range_iterator") By rfl rfl (by decide) ⟨.int (lo+i*c),H,I1,⟨t,rfl⟩,⟨rfl,rfl⟩,By,λb hb=>(hf b hb).1⟩⟩
 done:=by intro X hP hw hK hc i pins s σ H E I hf st hg;subst hP hw hK;obtain⟨f0,f1,f2,f3,f4,f5⟩:=hf it (by simp);exact fM (I.ok.hd hc) st (by have:n<=i:=hg;omega) λh' eb=>⟨rfl,I.turned (t':=s.toks) (λb o hb e=>eb b o hb e) f0 f1 f3 f4 f5⟩
 self:=λ_ _ _ _ _ st h=>fN st h
def C3 (i j c:Int):Prop:=(-(2^40)<=i/\i<2^40/\-(2^40)<=j/\j<2^40)/\(c=2\/c=4)
noncomputable def cnt(i j c:Int):Nat:=(bI i j c).toNat
theorem Qd{i j c:Int}(h:C3 i j c):dQ i j c=ah:=by
 obtain⟨h,rfl|rfl⟩:=h
 ·unfold dQ bI;simp only [bD.Range.rangeFitsLong,aP,Bool.or_eq_true,decide_eq_true_eq,beq_iff_eq,show(2:Int)>0 by decide,if_true];split<;>omega
 ·unfold dQ bI;simp only [bD.Range.rangeFitsLong,aP,Bool.or_eq_true,decide_eq_true_eq,beq_iff_eq,show(4:Int)>0 by decide,if_true];split<;>omega
theorem Qe{i j c:Int}(h:C3 i j c):((cnt i j c:Nat):Int)=bI i j c:=by
 unfold cnt bI;obtain⟨h,rfl|rfl⟩:=h
 ·simp only [show(2:Int)>0 by decide,if_true];split<;>omega
 ·simp only [show(4:Int)>0 by decide,if_true];split<;>omega
section
variable {X:Cx} {tg:aM} {a b c:aM} {tt:DA} {p pos:cu}
def Tv (ta:TA):TI:=λσ H R=>ta σ H λvs H1=>∃i j c:Int,vs=[.int i,.int j,.int c]/\C3 i j c/\R (MA i c (cnt i j c)) H1
theorem He{pins:List (af×bE)}{σ:L2.St}{H:Hp}{s:ag}{R:It->Hp->Prop}{E:ae->ag->Prop}{lo hi c:Int}{t u v:gm}{tk:Nat}(I:L2.Inv X pins σ H s)(hc:C3 lo hi c)
(q:R (MA lo c (cnt lo hi c)) H):wpAny (model X.prog X.w) X.A (fJ (.ref s.heap.objs.size)) (V5 X pins σ tg R) E {s with heap:=s.heap.push {cls:=.type "range",data:=.fields #[.int lo t,.int hi u,.int c v]},toks:=tk}:=by
 refine gf (IsRange.new ..) (Qd hc) ?_;have I1:L2.Inv X pins σ H {s with heap:=s.heap.push {cls:=.type "range",data:=.fields #[.int lo t,.int hi u,.int c v]},toks:=tk}:=I.kept λb o e=>au _ e;refine⟨(s.heap.push {cls:=.type "range",data:=.fields #[.int lo t,.int hi u,.int c v]}).objs.size,[(s.heap.push {cls:=.type "range",data:=.fields #[.int lo t,.int hi u,.int c v]}).objs.size],_,_,H,rfl,
  I1.kept (t':=tk) λb o e=>au _ e,B8 _ lo c (cnt lo hi c),?_,λb hb=>?_,q⟩
 ·have e1:lo+((0:Nat):Int)*c=lo:=by simp
  have e2:((cnt lo hi c:Nat):Int)- ((0:Nat):Int)=bI lo hi c:=by rw[Qe hc];simp
  show eX _ _ (lo+((0:Nat):Int)*c) (((cnt lo hi c:Nat):Int)- ((0:Nat):Int)) c;rw[e1,e2];exact bg _ rfl
 ·have e:b=(s.heap.push {cls:=.type "range",data:=.fields #[.int lo t,.int hi u,.int c v]}).objs.size:=by simpa using hb
  subst e;exact I1.GL (bf _) (I1.iy.fresh (bf _))
theorem Hg{ta:TA}(hg:Gl X "range")(hm:X.mg "range"=ak)(ha:PA X [a,b,c] ta)(hs:av [a,b,c] X.env=[(ai,eval a X.env),(ai,eval b X.env),(ai,eval c X.env)]:=by rfl)(LS:av [b,c] X.env=[(ai,eval b X.env),(ai,eval c X.env)]:=by rfl):
  PI X tg (.Call (.Name "range" p) [a,b,c] [] pos) (Tv ta):=by
 intro pins s σ H R I h;refine Call_ (zE I hg hm boot_range (c9 (ja (ha pos pins s σ H _ I h) λus s1 ⟨vs,H1,I1,r1,q1⟩=>?_) (by rw[hs,LS]) (by rw[LS];rfl)));obtain⟨i,j,k,e,hc,q⟩:=q1;subst e;cases r1 with
 |cons r rr=>
  cases rr with
  |cons r' rr=>
   cases rr with
   |cons r'' rr=>
    cases rr;obtain⟨t,rfl⟩:=r;obtain⟨t',rfl⟩:=r';obtain⟨t'',rfl⟩:=r'';have hk:0<k/\k<1073741824:=by obtain⟨_,rfl|rfl⟩:=hc<;>exact⟨by decide,by decide⟩
    exact call_range_3 (by omega) (He I1 hc q) (.inl (PyProof.noPylong_small (by omega)))
noncomputable def wF(lo c:Int)(n:Nat):List D:=(dg n).map λ(i:Nat)=>D.int (lo+(i:Int)*c)
theorem MB{K:W.Frag}{F gU:List af}{H1:Hp}{M1:Ms}{lo c:Int}{n:Nat}:PQ K F gU H1 M1 (MA lo c n) (wF lo c n) λ_=>True:=by
 refine⟨λi F' gS H' M' hp hs o' l8 hi=>?_,λi F' gS H' M' x H2 d' hp hs o' l8 hd hy=>?_,λF' gS H' M' hp hs o' l8=>?_⟩
 ·show i<n;simpa[wF] using hi
 ·obtain⟨rfl,rfl⟩:=hy;unfold wF at hd;rw[bQ] at hd;cases e:(dg n)[i]? with
  |none=>rw[e] at hd;cases hd
  |some j=>
   rw[e] at hd;have:j=i:=by have:=aC.mp e;obtain⟨h1,h2⟩:=this;simpa using h2.symm
   subst this;cases hd;exact⟨o',Ext.refl,iA⟩
 ·show n<=(wF lo c n).length;simp[wF]
def Ah (tt:DA):DI:=λδ M Q=>tt δ M λds M1=>match ds with
 |[.int i,.int j,.int c]=>C3 i j c/\Q (wF i c (cnt i j c)) (λ_=>True) M1
 |_=>False
theorem uj(ha:JA X [a,b,c] tt)(hm:X.mg "range"=ak)(hg:Gl X "range":=by rfl)(hs:av [a,b,c] X.env=[(ai,eval a X.env),(ai,eval b X.env),(ai,eval c X.env)]:=by rfl)(LS:av [b,c] X.env=[(ai,eval b X.env),(ai,eval c X.env)]:=by rfl):JI X tg (.Call (.Name "range" p) [a,b,c] [] pos) (Ah tt):=by
 refine⟨λδ M P Q w q=>ha.mono δ _ _ _ (λds M1 q=>?_) q,PI.weak (Hg hg hm ha.p hs LS) λσ H Q q=>?_⟩
 ·match ds,q with
  |[.int i,.int j,.int c],⟨e,q⟩=>exact⟨e,w _ _ _ q⟩
 ·obtain⟨F,α,δ,M,r,q⟩:=q;refine⟨F,α,δ,M,r,ha.mono δ _ _ _ (λds M1 q vs gU H1 e1 o1 r1=>?_) q⟩;match ds,q,r1 with
  |[.int i,.int j,.int c],⟨ei,q⟩,r1=>
   unfold gu at r1;obtain⟨v,r',rfl,ra,rr⟩:=r1;obtain⟨u,z,rfl,rb,rc⟩:=Jv rr;unfold Rep at ra rb rc;subst ra rb rc;exact⟨i,j,c,rfl,ei,q _ gU H1 H1 id e1 o1 (HW.refl o1) MB⟩
end
section
variable {X:Cx} {x:ar} {pos p Bx:cu} {e o i:aM} {te to ti tv:DE} {op:ee}
theorem Qf:UX X .Add (rI (λ_ _=>True) λa b=>.int (a+b)):=λpins s σ H x y v u Q I rx ry h=>by obtain⟨a,b,h1,h2,_,q⟩:=h;exact LL pins s σ H x y v u Q I rx ry ⟨a,b,h1,h2,q⟩
theorem Qg:UX X .Sub (rI (λ_ _=>True) λa b=>.int (a- b)):=λpins s σ H x y v u Q I rx ry h=>by obtain⟨a,b,h1,h2,_,q⟩:=h;exact LM pins s σ H x y v u Q I rx ry ⟨a,b,h1,h2,q⟩
end
section
variable {X:Cx} {x:ar} {pos p Bx:cu} {e o i:aM} {te to ti tv:DE} {op:ee}
theorem JV:Sm X (SM X.K):=by
 intro pins s σ H x y v u Q I rx ry h;obtain⟨p,xs,i,z,rfl,rfl,hq,he,q⟩:=h;cases rx;obtain⟨t,rfl⟩:=ry;obtain⟨hX,r,pl,hz⟩:=I.list hq;obtain⟨j,h1,h2,h3,h4,h5⟩:=vF he;obtain⟨w,ew,BE⟩:=r.get h2;have hl:=r.length;have hn:=rC;have lm:EP X pins σ Q w s:=⟨z,H,I,BE,q⟩;by_cases h0:0<=i
 ·have hj:i.toNat=j:=by rw[eY h0 h5] at h1;exact bh h1
  exact wpAny_getItem_list pl.isList h0 (by omega) (by rw[hj];simpa using ew) lm
 ·have hj:(i+(hX.toArray.size:Int)).toNat=j:=by rw[seqIndex_neg (by omega) h4] at h1;rw[aO,<-hl];exact bh h1
  exact fQ pl.isList (by omega) (by rw[aO]<;>omega) (by omega) (by rw[hj];simpa using ew) lm
def B9 (f:Int->Int->D)(to ti te:DE):DS:=λE δ M=>to δ M λo M1=>ti δ M1 λi M2=>match o with
 |.loc k=>match M2[k]?,i with
  |some (aa (.lst ds)),.int j=>∃a,sF ds j=aa (.int a)/\te δ M2 λd M3=>match M3[k]? with
   |some (aa (.lst Vo))=>∃b n,d=.int b/\BH Vo.length j=aa n/\E.nx δ (M3.set k (aa (.lst (Vo.set n (f a b)))))
   |_=>False
  |_,_=>False
 |_=>False
theorem F0{f:Int->Int->Int}(ho:JE X o to)(hi:JE X i ti)(he:JE X e te)(hp:UX X op (rI (λ_ _=>True) λa b=>.int (f a b)))
(ha:∀ov iv new,augStore i ov iv new=(do holding [new,ov,iv] (fH ov iv new);release [new,ov,iv] [];pure .next):=by intros;rfl):
  JS X (.AugAssign (.Subscript o i Bx) op e pos) (B9 (λa b=>.int (f a b)) to ti te):=by
 refine⟨λP Q δ M w q=>ho.mono δ _ _ _ (λod M1 q=>hi.mono δ _ _ _ (λj M2 q=>?_) q) q,PS.weak (LI ho.p hi.p JV he.p hp BI ha) λE σ H q=>?_⟩
 ·cases od<;>first|exact q.elim|skip
  simp only at q ⊢;split at q
  ·obtain⟨a,h1,q⟩:=q;refine⟨a,h1,he.mono δ _ _ _ (λd M3 q=>?_) q⟩;split at q
   ·obtain⟨b,n,h2,h3,q⟩:=q;exact⟨b,n,h2,h3,w.nx _ _ q⟩
   ·exact q.elim
  ·exact q.elim
 ·obtain⟨F,α,δ,M,r,q⟩:=q;refine⟨F,α,δ,M,r,ho.mono δ _ _ _ (λod M1 q u gU H1 e1 o1 r1=>⟨F,gU,δ,M1,r.grow e1 o1,hi.mono δ _ _ _ (λj M2 q w lR H2 e2 o2 r2=>?_) q⟩) q⟩;cases od<;>first|exact q.elim|skip
  rename_i k;simp only at q;split at q
  ·rename_i ds j hk;obtain⟨a,h1,q⟩:=q;unfold Rep at r2;subst r2;have rk:=e2.rep r1;obtain⟨pa,vs,rfl,hH,rr,wr⟩:=vM o2 rk hk;obtain⟨z,ez,rz⟩:=rr.at h1;unfold Rep at rz;subst rz;refine⟨pa,vs,j,.int a,rfl,rfl,oa.of hH,ez,F,lR,δ,M2,r.grow (e1.trans e2) o2,he.mono δ _ _ _ (λd M3 q y uc H3 e3 o3 r3=>?_) q⟩;split at q
   ·rename_i Vo RU;obtain⟨b,n,rfl,h3,q⟩:=q;unfold Rep at r3;subst r3;obtain⟨pa',YV,epa,hH',YW,wr'⟩:=vM o3 (e3.rep rk) RU;cases epa;obtain⟨o4,e4⟩:=wr' (Vo.set n (.int (f a b))) (YV.set n (.int (f a b))) (gu.set iA n _ _ YW);have ex:=((e1.trans e2).trans e3).trans e4;exact⟨a,b,rfl,rfl,trivial,pa,YV,j,n,rfl,rfl,hH',by rw[<-gu.length _ _ YW];exact h3,q σ uc _ ex (r.grow ex o4)⟩
   ·exact q.elim
  ·exact q.elim
end
noncomputable def YX(a b:ar):Bool:=!decide (b.cps.toList<a.cps.toList)
section
variable {β:Type}
noncomputable def Tw(key:β->ar)(x:β):List β->List β
 |[]=>[x]
 |y::r=>if YX (key x) (key y)=ah then x::y::r else y::Tw key x r
noncomputable def YY(key:β->ar):List β->List β
 |[]=>[]
 |x::r=>Tw key x (YY key r)
end
end L3
namespace L2
open PySem PySem.Spec PyProof.Rows
section
variable {prog:ao} {w:aE} {A:ay} {E:ae->ag->Prop} {s:ag}
end
section
variable {prog:ao} {w:aE} {A:ay} {E:ae->ag->Prop} {s:ag} {aaf:Array Keyed} {κ:PyProof.Rows.KeyKind}
end
def JY (ss:List ar):Prop:=ss.length<64\/(2<=ss.length/\ss.length<=1000/\ss.Pairwise λa b=>L3.YX a b=ah)
theorem JY.l{ss:List ar}(h:JY ss):ss.length<=1000:=by rcases h with h|h<;>omega
section
variable {X:Cx}
end
end L2
namespace L3
open PySem PySem.Spec PyProof.Rows L2
section
variable {X:Cx}
end
end L3
namespace L2
open PySem PySem.Spec PyProof.Rows
section
variable {prog:ao} {w:aE} {A:ay} {E:ae->ag->Prop} {s:ag}
end
section
variable {X:Cx} {p pos p2 Qh:cu} {e:aM} {te:TE}
end
end L2
namespace L3
open PySem PySem.Spec PyProof.Rows L2
section
variable {X:Cx} {p pos p2 Qh:cu} {e:aM} {te:DE}
end
end L3
namespace L2
open PySem PySem.Spec PyProof.Rows
section
variable {prog:ao} {w:aE} {κ:Type} [DecidableEq κ] {knd:PySem.KeyKind prog w κ} {A:ay} {E:ae->ag->Prop} {s:ag} {d:af} {gZ:List (κ×ae)} {k:κ} {key v:ae}
end
section
variable {X:Cx}
end
end L2
namespace L3
open PySem PySem.Spec PyProof.Rows L2
section
variable {X:Cx}
end
end L3
namespace L2
open PySem PySem.Spec PyProof.Rows
section
variable {prog:ao} {w:aE} {A:ay} {E:ae->ag->Prop} {s:ag}
end
section
variable {prog:ao} {w:aE} {κ:Type} [DecidableEq κ] {knd:PySem.KeyKind prog w κ} {A:ay} {E:ae->ag->Prop} {s:ag}
end
section
variable {X:Cx}
end
end L2
namespace L3
open PySem PySem.Spec PyProof.Rows L2
section
variable {X:Cx}
end
end L3
namespace L2
open PySem PySem.Spec PyProof.Rows
section
variable {P:ao} {w:aE} {A:ay} {E:ae->ag->Prop} {H:Hp} {fs:List af}
structure Cq(P:ao)(w:aE)(fs:List af)(H:Hp)(s s':ag):Prop where
 os:s'.os=s.os
 bare:dA s'.gens
 iy:pG P w H s'.heap
 un:Un fs [] H H s.heap s'.heap
theorem Cq.trans{s s1 s2:ag}(a:Cq P w fs H s s1)(b:Cq P w fs H s1 s2):Cq P w fs H s s2:=⟨b.os.trans a.os,b.bare,b.iy,a.un.trans b.un⟩
theorem Cq.kept{s s1:ag}{h':aq}{tk:Nat}(c:Cq P w fs H s s1)(k:∀b o,s1.heap.get? b=aa o->h'.get? b=aa o):Cq P w fs H s {s1 with heap:=h',toks:=tk}:=c.trans ⟨rfl,c.bare,c.iy.kept k,Un.kept k⟩
theorem Cq.at{s s1:ag}{b:af}{o:bE}(c:Cq P w fs H s s1)(e:s.heap.get? b=aa o)(n:H b=ak)(hb:b∉fs):s1.heap.get? b=aa o:=c.un.keep b o e n hb (by simp)
section
variable {s0 s:ag} {a kS:af} {vs:List ae} {ss:List ar} {keys:Array ae} {e e1:Nat} {Pq:PySem.Fin->ag->Prop}
end
end
section
variable {P:ao} {w:aE} {A:ay} {E:ae->ag->Prop} {H:Hp} {fs:List af} {s0 s:ag} {a kS:af} {vs:List ae} {ss:List ar} {e1:Nat} {Pq:PySem.Fin->ag->Prop} {f:ae}
end
open PySem.W
structure W5(base:aq)(mg:ar->Option ae)(cd:ae)(c P:af):Prop where
 cd:cd=.ref c
 hd:CodeHd base c P
 bl:base.BuiltinsAt mg P
 gP:aZ≠P
section
variable {X:Cx} {pins:List (af×bE)} {σ:L2.St} {H:Hp} {s:ag} {A:ay} {E:ae->ag->Prop} {c P:af} {ps:Array ae} {params:ef} {body:aM} {scope:bJ} {pos:cu} {Q:ae->ag->Prop}
end
section
variable {P:ao} {w:aE} {K:W.Frag} {mg:ar->Option ae} {base:aq} {A:ay} {outer:List cz} {s:ag} {H:Hp} {f c:af} {x qual:ar} {params:ef} {body:aM} {scope:bJ} {pm ctv:ae} {t:TE} {u:ae} {v:V} {Q:VK} {k:Nat}
end
section
variable {K:W.Frag} {H H':Hp}
def Ai (K:W.Frag)(H:Hp):List V->List ar->Prop
 |[],[]=>True
 |y::ys,k::ks=>(∃a zs,y=.ref a/\vD K H a (.str k::zs))/\Ai K H ys ks
 |_,_=>False
theorem Ai.length:∀{ys:List V} {ks:List ar},Ai K H ys ks->ys.length=ks.length
 |[],[],_=>rfl
 |[],_::_,h=>h.elim
 |_::_,[],h=>h.elim
 |_::ys,_::ks,h=>by rw[ax,ax,Ai.length h.2]
theorem N5.keep{P:af}{q:ar}(t:N5 P q H H')(hP:∃ps,H P=aa (.DR ps)){b:af}{o:HO}(e:H b=aa o)(n:∀ps,o≠.DR ps):H' b=aa o:=by
 obtain⟨ps,hP⟩:=hP;rcases t.2 with h|⟨c,Qi,hc,cP,h⟩
 ·rw[h];exact e
 ·rw[h,gz (λz=>by rw[z,hP] at e;exact n ps (bh e).symm),gz (λz=>by rw[z,hc] at e;cases e)];exact e
noncomputable def Tx{β:Type}(ks:List ar)(ys:List β):List β:=(L3.YY ek (ks.zip ys)).map Prod.snd
end
section
variable {X:Cx} {c P:af} {e:aM} {te:TE} {p pos W6 SE np sp cp:cu} {params:ef} {scope:bJ} {x:ar} {k j:Nat}
end
end L2
namespace L3
open PySem PySem.Spec PyProof.Rows L2
section
variable {K:W.Frag} {α:List af} {H:Hp}
end
section
variable {X:Cx} {c P:af} {e:aM} {te:DE} {p pos W6 SE np sp cp:cu} {params:ef} {scope:bJ} {x:ar} {k j:Nat}
structure aag(X:Cx):Prop where
 ex:∃c P,W.tabIn X.K "by_name"=aa (c,P)/\W5 X.base X.mg X.env.code c P
 q:X.env.qual++"<lambda>"=Ta "by_name"
end
structure W7(K:W.Frag)(mg:ar->Option ae)(base:aq):Prop where
 DU:K.In base
 glob:base.Ns aZ mg
 tab:∃c P,W.tabIn K "by_name"=aa (c,P)/\W.CodeHd base c P/\base.BuiltinsAt mg P/\aZ≠P
section
variable {P:ao} {w:aE} {K:W.Frag} {mg:ar->Option ae} {base:aq}
end
end L3
namespace L2
open PySem PySem.Spec PyProof.Rows
section
variable {X:Cx}
end
end L2
namespace L3
open PySem PySem.Spec PyProof.Rows L2
section
variable {X:Cx}
end
end L3
namespace L2
open PySem PySem.Spec PyProof.Rows
section
variable {X:Cx}
end
end L2
namespace L3
open PySem PySem.Spec PyProof.Rows L2
section
variable {X:Cx}
end
end L3
namespace L2
open PySem PySem.W PyProof.Rows
section
variable {n:Nat} {f:Nat->Nat->Bool} {p:Array Nat}
structure Ord(n:Nat)(f:Nat->Nat->Bool):Prop where
 tr:∀i j k,f i j=ah->f j k=ah->f i k=ah
 MC:∀i j,i<n->j<n->i≠j->f i j=ai->f j i=ah
structure Row(n:Nat)(p:Array Nat):Prop where
 sz:p.size=n
 pm:p.toList.Perm (dg n)
end
open PySem.Spec
section
variable {prog:ao} {w:aE} {A:ay} {E:ae->ag->Prop} {s:ag}
end
section
variable {X:Cx}
end
end L2
namespace L3
open PySem PySem.Spec PyProof.Rows L2
section
variable {X:Cx}
end
end L3
namespace L2
open PySem PySem.Spec PyProof.Rows
section
variable {X:Cx} {o:aM} {to:TE} {apos iM Bx:cu} {elts:List aM} {n:Nat}
end
end L2
namespace L3
open PySem PySem.Spec PyProof.Rows L2
section
variable {X:Cx}
end
end L3
namespace L2
open PySem PySem.Spec PyProof.Rows
section
variable {prog:ao} {w:aE} {A:ay} {E:ae->ag->Prop} {s:ag} {a b:af} {K:Type} [DecidableEq K] {knd:PySem.KeyKind prog w K} {vs ws:List (K×ae)}
end
end L2
namespace L3
open PySem PySem.Spec PyProof.Rows L2
section
variable {X:Cx}
end
section
variable {X:Cx}
end
end L3
namespace L2
open PySem PySem.Spec PyProof.Rows
section
variable {prog:ao} {w:aE} {A:ay} {E:ae->ag->Prop} {s:ag}
end
section
variable {X:Cx} {pos:cu}
end
end L2
namespace L3
open PySem PySem.Spec PyProof.Rows L2
section
variable {X:Cx} {pos:cu}
end
end L3
namespace L2
open PySem PySem.Spec PyProof.Rows
section
variable {X:Cx} {o:aM} {to:TE} {apos iM:cu} {tg:aM}
end
end L2
namespace L3
open PySem PySem.Spec PyProof.Rows L2
section
variable {X:Cx}
end
section
variable {K:W.Frag} {F α:List af} {H:Hp} {M:Ms}
end
section
variable {X:Cx}
end
end L3
namespace L2
end L2
namespace L3
open PySem PySem.Spec PyProof.Rows L2
section
variable {X:Cx}
end
end L3
namespace L2
open PySem PySem.Spec PyProof.Rows
section
variable {prog:ao} {w:aE} {κ:Type} [DecidableEq κ] {knd:PySem.KeyKind prog w κ} {A:ay} {E:ae->ag->Prop} {s:ag}
end
section
variable {X:Cx}
end
end L2
namespace L3
open PySem PySem.Spec PyProof.Rows L2
section
variable {X:Cx}
end
end L3
namespace L2
open PySem PySem.Spec PyProof.Rows
section
variable {X:Cx}
end
end L2
namespace L3
open PySem PySem.Spec PyProof.Rows L2
section
variable {X:Cx}
end
section
variable {X:Cx} {pos:cu} {keys:List (Option aM)} {values:List aM} {ts:List (DE×DE)}
end
section
variable {X:Cx}
end
section
variable {K:W.Frag}
end
end L3
namespace L2
open PySem PySem.Spec PyProof.Rows
section
variable {prog:ao} {w:aE} {A:ay} {E:ae->ag->Prop} {s:ag} {a b:af} {K:Type} [DecidableEq K] {knd:PySem.KeyKind prog w K} {vs ws:List (K×ae)}
end
end L2
namespace L3
open PySem PySem.Spec PyProof.Rows L2
section
variable {X:Cx}
end
end L3
namespace L2
open PySem PySem.Spec PyProof.Rows
section
variable {X:Cx} {e st:aM} {te:TE} {ts:TO} {p2 pos:cu}
end
end L2
namespace L3
open PySem PySem.Spec PyProof.Rows L2
section
variable {X:Cx} {e st:aM} {te:DE} {ts:DO} {p2 pos:cu}
end
end L3
namespace L2
open PySem PySem.Spec PyProof.Rows
section
variable {prog:ao} {w:aE} {A:ay} {E:ae->ag->Prop} {s:ag}
noncomputable def W8(w:aE):Bool:=w.params.followText "set-order"
def W9 (w:aE)(n:Nat)(t:fZ):Prop:=t.led=!W8 w/\(n=0\/t.plain=ai)
def Ca (prog:ao)(w:aE)(h:aq)(a:af)(S:ar->Bool)(n:Nat):Prop:=
 ∃o es ep t,h.get? a=aa o/\o.ExactSet/\o.data=.set es ep t/\ElemsOf (PySem.strKind prog w) es.toList/\(∀k,S k=ah↔∃e∈es.toList,(PySem.strKind prog w).is k e.2=ah)
  /\es.size<scanBound/\t.fits es.size=ah/\es.size=n/\W9 w n t
end
section
variable {prog:ao} {w:aE} {A:ay} {E:ae->ag->Prop} {s:ag}
end
section
variable {prog:ao} {w:aE} {A:ay} {E:ae->ag->Prop} {s:ag}
def Tz (h:aq)(it:af)(fst:ae)(i:Nat)(sv:ae)(n ep:Nat):Prop:=
 ∃o,h.get? it=aa o/\o.cls=.type "set_iterator"/\o.data=.fields #[fst,.int i 0,sv,.int n 0,.int ep 0]
theorem Tz.ty{it:af}{fst sv:ae}{i n ep:Nat}(x:Tz s.heap it fst i sv n ep):s.TypeIs (.ref it) "set_iterator":=by obtain⟨o,ho,hc,_⟩:=x;exact⟨o,ho,hc⟩
def TB (h:aq)(a:af)(es:Array (Int×ae))(ep:Nat)(t:fZ):Prop:=∃o,h.get? a=aa o/\o.ExactSet/\o.data=.set es ep t
end
section
variable {prog:ao} {w:aE} {A:ay} {E:ae->ag->Prop} {s:ag}
end
section
variable {prog:ao} {w:aE} {A:ay} {E:ae->ag->Prop} {s:ag}
end
section
variable {prog:ao} {w:aE} {A:ay} {E:ae->ag->Prop} {s:ag}
theorem TB.ty{a:af}{es:Array (Int×ae)}{ep:Nat}{t:fZ}(x:TB s.heap a es ep t):s.TypeIs (.ref a) "set":=by obtain⟨o,ho,hx,_⟩:=x;exact⟨o,ho,hx.1⟩
theorem TB.at{h h':aq}{a:af}{es:Array (Int×ae)}{ep:Nat}{t:fZ}(x:TB h a es ep t)(k:∀o,h.get? a=aa o->h'.get? a=aa o):TB h' a es ep t:=by obtain⟨o,ho,hx⟩:=x;exact⟨o,k _ ho,hx⟩
theorem Tz.at{h h':aq}{it:af}{fst sv:ae}{i n ep:Nat}(x:Tz h it fst i sv n ep)(k:∀o,h.get? it=aa o->h'.get? it=aa o):Tz h' it fst i sv n ep:=by obtain⟨o,ho,hx⟩:=x;exact⟨o,k _ ho,hx⟩
end
section
variable {prog:ao} {w:aE} {A:ay} {E:ae->ag->Prop} {s:ag}
end
section
variable {prog:ao} {w:aE} {A:ay} {E:ae->ag->Prop} {s:ag}
end
section
variable {prog:ao} {w:aE} {A:ay} {E:ae->ag->Prop} {s:ag}
theorem Ca.ty{a:af}{S:ar->Bool}{n:Nat}(x:Ca prog w s.heap a S n):s.TypeIs (.ref a) "set":=by obtain⟨o,es,ep,t,ho,hx,_⟩:=x;exact⟨o,ho,hx.1⟩
theorem Ca.at{h h':aq}{a:af}{S:ar->Bool}{n:Nat}(x:Ca prog w h a S n)(k:∀o,h.get? a=aa o->h'.get? a=aa o):Ca prog w h' a S n:=by obtain⟨o,es,ep,t,ho,r⟩:=x;exact⟨o,es,ep,t,k _ ho,r⟩
end
section
variable {prog:ao} {w:aE} {A:ay} {E:ae->ag->Prop} {s:ag}
end
section
variable {X:Cx} {p pos p2 Qh:cu} {e:aM} {te:TE}
end
end L2
namespace L3
open PySem PySem.Spec PyProof.Rows L2
section
variable {X:Cx} {p pos p2 Qh:cu} {e:aM} {te:DE}
end
end L3
namespace L2
open PySem PySem.Spec PyProof.Rows
def Rec (h:aq)(e:af)(cls:ae)(od:Option af)(T:af):Prop:=
 ∃oe vs oT ts,h.get? e=aa oe/\oe.cls=cls/\oe.dict=od/\oe.data=.fields vs/\vs[1]?=aa (.ref T)/\T≠e/\h.get? T=aa oT/\oT.data=.fields ts/\ts[3]?=aa .none
def Er (h:aq)(e:af)(cls:ae)(od:Option af):Prop:=∃a0,h.get? e=aa ⟨cls,od,.fields #[a0,.none,.none,.none,.bool ai,.none],#[]⟩
def Left (S R:List af)(h h':aq):Prop:=∀b o,h.get? b=aa o->b∉R->(b∉S->h'.get? b=aa o)/\∃sl,h'.get? b=aa {o with slots:=sl}
section
variable {M:fb} {A:ay} {E:ae->ag->Prop} {s:ag}
theorem mr(f:Array ae->Array ae)(o:bE):(aS f o).dict=o.dict:=by unfold aS;split<;>rfl
theorem Qj{base:aq}{env:cz}{outer:List cz}{L e:af}{oe:bE}{vs:Array ae}{head:ae}{sT:Bool}{Q:Unit->ag->Prop}
(wG:A.frames=aa (env::outer))(hl:s.heap.FunFrames base (env::outer))(hf:env.frame=aa L)
(he:s.heap.get? e=aa oe)(hd:oe.data=.fields vs)(DH:1<vs.size)
(h:∀h' T,s.heap.objs.size<=T->Rec h' e oe.cls oe.dict T->Left (oi (env::outer)) [e] s.heap h'->Q () {s with heap:=h'}):
  wpAny M A (do let a<-frameOf env;let pl<-fS L sT;let b<-cv head a .none (cJ L) .none pl;aaC (.ref e) 1 b) (λ_ s'=>wpAny M A (cY (.ref e) ak) Q E s') E s:=by
 have JZ:e∉(env::outer).filterMap (·.frame):=λhm=>by obtain⟨_,o,ho,Cb⟩:=hl.mem hm;rw[he] at ho;injection ho with ho;subst ho;exact Cb vs hd
 refine aj (eP wG hl hf λiR mU=>?_);refine aj (eL λpl kC=>?_);unfold cv aav;refine aj (ci ?_ (kC.sizeOk5 _ _ _ _ _));have uQ:iR.get? e=aa oe:=(mU.2.1 e JZ).trans he;have uR:=au (h:=iR) {cls:=.type "traceback",dict:=ak,data:=.fields ([head,.ref L,.none,cJ L,.none]++(if pl.isEmpty then aU 6 aV else pl)).toArray} uQ;refine cb uR hd DH ?_;have Bl:iR.objs.size≠e:=dB (aJ uQ);have pX:=bF hd (·.setIfInBounds 1 (aD iR.objs.size));have uS:=bq (aS (·.setIfInBounds 1 (aD iR.objs.size))) uR (bP pX);have wH:=(aw (iR.push {cls:=.type "traceback",dict:=ak,data:=.fields ([head,.ref L,.none,cJ L,.none]++(if pl.isEmpty then aU 6 aV else pl)).toArray})
  (aS (·.setIfInBounds 1 (aD iR.objs.size))) (bG Bl)).trans (bg iR rfl)
 unfold cY;refine aj (bX uS pX (x:=.ref iR.objs.size) (by simp[DH]) ?_);rw[if_pos (show(aD iR.objs.size !=aV)=ah from by simp)];have keep:∀b o,b≠e->iR.get? b=aa o->
   (((iR.push {cls:=.type "traceback",dict:=ak,data:=.fields ([head,.ref L,.none,cJ L,.none]++(if pl.isEmpty then aU 6 aV else pl)).toArray}).update e (aS (·.setIfInBounds 1 (aD iR.objs.size)))).update iR.objs.size
    (aS (·.setIfInBounds 3 ((ak:Option af).elim aV λf=>cJ f)))).get? b=aa o:=λb o xN hb=>by have Xa:iR.objs.size≠b:=dB (aJ hb);rw[aw _ _ Xa,aw _ _ (bG xN)];exact au _ hb
 refine cb wH rfl (by simp only [aO,bw,ax,cw]<;>omega) (h _ iR.objs.size ?_ ?_ λb o hb hn=>?_)
 ·exact c8 mU.1.symm
 ·refine⟨_,_,_,_,?_,bE.cls_mapFields _ _,mr _ _,pX,by simp[DH],Bl,bq _ wH (bP (bF rfl _)),bF rfl _,by first|(simp;done)|(rcases kC with rfl|⟨_,_,_,_,_,_,_,rfl⟩<;>simp)⟩;rw[aw _ _ Bl];exact uS
 ·have xN:b≠e:=λz=>hn (by simp[z]);obtain⟨sl,hs⟩:=mU.2.2 b o hb;exact⟨λhS=>keep b o xN ((mU.2.1 b hS).trans hb),sl,keep b _ xN hs⟩
theorem yZ{base:aq}{env:cz}{outer:List cz}{L e jG:af}{cls:ae}{od:Option af}{Q:Unit->ag->Prop}
(wG:A.frames=aa (env::outer))(hl:s.heap.FunFrames base (env::outer))(hf:env.frame=aa L)(hr:Rec s.heap e cls od jG)
(h:∀h' T,s.heap.objs.size<=T->Rec h' e cls od T->Left (oi (env::outer)) [e,jG] s.heap h'->Q () {s with heap:=h'}):wpAny M A (cT (.ref e) env) (λ_ s'=>wpAny M A (cY (.ref e) ak) Q E s') E s:=by
 obtain⟨oe,vs,oT,ts,he,rfl,rfl,hd,h1,Bl,hT,Ia,h3⟩:=hr;unfold cT;simp only [hf];refine aj (bX he hd h1 ?_);rw[if_pos (show(aD jG !=aV)=ah from by simp)];refine aj (bX hT Ia h3 ?_);rw[if_neg (show¬((aV==cJ L)=ah) from by simp[cJ])];refine aj (cb hT Ia (bB.mp h3).1 ?_);have other:∀b,b≠jG->(s.heap.update jG (aS (·.setIfInBounds 3 aV))).get? b=s.heap.get? b:=λb hb=>aw _ _ (bG hb);have pY:∀b o,s.heap.get? b=aa o->(∀vs,o.data≠.fields vs)->b≠jG:=λb o hb Cb q=>by rw[q,hT] at hb;injection hb with hb;subst hb;exact Cb ts Ia
 refine Qj (s:={s with heap:=s.heap.update jG (aS (·.setIfInBounds 3 aV))}) wG (hl.of_keeps λb o hb Cb=>⟨o,(other b (pY b o hb Cb)).trans hb,rfl⟩) hf ((other e (bG Bl)).trans he) hd (bB.mp h1).1
  λh' T hn hr hk=>h h' T ?_ hr λb o hb Oe=>?_
 ·have e:=cj s.heap jG (aS (·.setIfInBounds 3 aV));have hn:(s.heap.update jG (aS (·.setIfInBounds 3 aV))).objs.size<=T:=hn;rw[e] at hn;exact hn
 ·exact hk b o ((other b λz=>Oe (by simp[z])).trans hb) λz=>Oe (by simp at z;simp[z])
theorem Es{base:aq}{env:cz}{outer:List cz}{L e jG:af}{cls:ae}{od:Option af}{Q:Unit->ag->Prop}
(wG:A.frames=aa (env::outer))(hl:s.heap.FunFrames base (env::outer))(hf:env.frame=aa L)(hr:Rec s.heap e cls od jG)
(h:∀h' T,s.heap.objs.size<=T->Rec h' e cls od T->Left (oi (env::outer)) [e,jG] s.heap h'->Q () {s with heap:=h'}):wpAny M A (leaving env (.ref e)) Q E s:=
 aj (yZ wG hl hf hr h)
end
theorem iQ.there{P:ao}{w:aE}{H:Hp}{h:aq}{a:af}{o:HO}(x:iQ P w H h a o):∃ob,h.get? a=aa ob:=by
 cases o with
 |lst xs=>obtain⟨_,_,_,_,e⟩:=x;exact⟨_,e⟩
 |tup xs=>obtain⟨_,_,_,o,e,_⟩:=x;exact⟨_,e⟩
 |dK gZ=>obtain⟨_,_,_,_,o,_,_,e,_⟩:=x;exact⟨_,e⟩
 |dT gZ=>obtain⟨_,_,_,_,o,_,_,e,_⟩:=x;exact⟨_,e⟩
 |set S n=>obtain⟨o,_,_,_,e,_⟩:=x;exact⟨_,e⟩
 |ins C dx fs=>obtain⟨_,_,_,e,_⟩:=x;exact⟨_,e⟩
 |own y=>exact x
 |xd fs=>obtain⟨_,⟨_,_,_,e,_⟩,_⟩:=x;exact⟨_,e⟩
 |UT lo hi=>obtain⟨_,_,_,e⟩:=x;exact⟨_,e⟩
 |qv ob u=>obtain⟨e,_⟩:=x;exact⟨_,e⟩
 |DR ps=>exact⟨_,(show h.get? a=aa _ from x)⟩
 |dE ep gZ=>obtain⟨_,_,_,_,o,_,e,_⟩:=x;exact⟨_,e⟩
 |xc C fs=>obtain⟨_,_,e,_⟩:=x;exact⟨_,e⟩
 |met f y=>exact⟨_,(show h.get? a=aa _ from x)⟩
 |ext φ=>obtain⟨_,e,_⟩:=x;exact e
theorem pG.none{P:ao}{w:aE}{H:Hp}{h:aq}{a:af}(x:pG P w H h)(e:h.get? a=ak):H a=ak:=by
 cases q:H a with
 |none=>rfl
 |some o=>obtain⟨ob,g⟩:=(x a o q).there;rw[e] at g;cases g
section
variable {X:Cx} {pins:List (af×bE)} {σ:St} {H:Hp} {s:ag} {h':aq}
theorem Inv.YZ(I:Inv X pins σ H s){b:af}(hb:b∈oi X.stack):H b=ak:=by
 rcases ba.mp (I.rA b hb) with z|z
 ·rw[z];exact I.free
 ·obtain⟨_,o,ho,_⟩:=I.ok.px.mem z;exact I.base.free b o ho (I.ok.HU b z) λq=>I.ok.Bu b q z
theorem Inv.left(I:Inv X pins σ H s)(hex:X.ex=[]){R:List af}(hR:∀b∈R,X.gG.heap.get? b=ak/\H b=ak)(hL:Left (oi X.stack) R s.heap h'):
  Un X.fs [] X.gJ H X.gG.heap h'/\pG X.prog X.w H h':=by
 have nx:∀b,b∉X.ex:=λb z=>by rw[hex] at z;cases z
 have nR:∀b o,X.gG.heap.get? b=aa o->b∉R:=λb o e z=>by rw[(hR b z).1] at e;cases e
 refine⟨⟨λb o e n hb _=>?_,λb o e n hb _=>?_,λb o e n _=>I.base.free b o e n (nx b),λb o e _=>?_,I.base.pv,I.base.nG,I.base.pw⟩,λa o e=>?_⟩
 ·refine(hL b o (I.base.keep b o e n hb (nx b)) (nR b o e)).1 λz=>?_;rcases ba.mp (I.rA b z) with q|q
  ·have:=aJ e;rw[q] at this;exact absurd (aB this I.ok.above) (b5 _)
  ·exact hb q
 ·obtain⟨sl,q⟩:=I.base.slot b o e n hb (nx b);obtain⟨NJ,q'⟩:=(hL b _ q (nR b o e)).2;exact⟨NJ,q'⟩
 ·obtain⟨o',q⟩:=I.base.there b o e (nx b);obtain⟨NJ,q'⟩:=(hL b _ q (nR b o e)).2;exact⟨_,q'⟩
 ·refine(I.iy a o e).sG (λb u hb q=>?_) (λ_ q=>q) λ_ _ q=>q;have hn:H b≠ak:=by
   rcases hb with rfl|hb
   ·rw[e];exactλz=>by cases z
   ·rw[hb];exactλz=>by cases z
  exact(hL b u q λz=>hn (hR b z).2).1 λz=>hn (I.YZ z)
end
def Bm (P:ao)(w:aE):v3:=λouter H s E e s'=>∃x C od H' T,e=.ref x/\s'.os=s.os/\dA s'.gens/\Un (oi outer) [] H H' s.heap s'.heap/\pG P w H' s'.heap/\
 Rec s'.heap x C od T/\s.heap.objs.size<=x/\s.heap.objs.size<=T/\H' x=ak/\H' T=ak/\E C od H'
section
variable {P:ao} {w:aE} {K:W.Frag} {mg:ar->Option ae} {base:aq} {N:List ar} {qual:ar} {scope:bJ} {f:af} {cd:ae} {A:ay} {outer:List cz} {gG:ag} {gJ:Hp} {E:XK}
abbrev la(P:ao)(w:aE)(K:W.Frag)(mg:ar->Option ae)(base:aq)(N:List ar)(qual:ar)(scope:bJ)(f:af)(cd:ae)(A:ay)(outer:List cz)(s:ag)(H:Hp)(E:XK):Cx:=py (Bm P w) P w K mg base N qual scope f cd A outer s H E
theorem Inv.wI{X:Cx}{pins:List (af×bE)}{σ:St}{H:Hp}{s:ag}(I:Inv X pins σ H s):X.gG.heap.objs.size<=s.heap.objs.size:=by obtain⟨m,⟨o,es,ep,ho,_⟩,_⟩:=I.loc;exact Nat.le_of_lt (Nat.lt_of_le_of_lt I.ok.above (aJ ho))
theorem TD:om (Bm P w) (la P w K mg base N qual scope f cd A outer gG gJ E) E:=λpins σ H s e s' I h=>by
 obtain⟨x,C,od,H',T,rfl,ho,hg,u,iy,hr,hx,hT,DL,J0,hE⟩:=h;have I':=I.uE ho u iy hg (λb hb=>by cases hb);refine Es (base:=base) I'.ok.frames I'.stack rfl hr λh' T' F2 Bn hL=>?_;obtain⟨u',IZ⟩:=I'.left rfl (R:=[x,T]) (λb hb=>by
  rcases ba.mp hb with rfl|hb
  ·exact⟨bZ (aT I.wI hx),DL⟩
  ·cases bv.mp hb;exact⟨bZ (aT I.wI hT),J0⟩) hL
 exact⟨x,C,od,H',T',rfl,I'.os,I'.bare,u',IZ,Bn,aT I.wI hx,aT I'.wI F2,DL,I'.iy.fresh F2,hE⟩
end
open PySem.W PySem.Calls Builtin
section
variable {prog:ao} {w:aE} {A:ay} {R:eK->ag->Prop} {h:aq} {g:Array eM} {d:gn} {t:Nat} {os:aas}
variable {nm q:ar} {C N f:af} {bs bm Qk:List ae} {jM:Bool} {sn:List ar} {sub:List ae} {ab:Bool} {col:Option Bool} {dd:Option af} {k0 k1 k2 k3 k5:Option ae} {B newId uk:String}
abbrev jH(C t:af):bE:={cls:=.ref C,data:=.fields #[.ref t,.none,.none,.none,.bool ai,.none]}
abbrev jP(us:List ae):bE:={cls:=.type "tuple",data:=.seq us.toArray}
theorem Cc(F:eQ B newId uk Qk)(T:OwnTail h Qk bm){rest:List ae}
(hC:h.get? C=aa (cA nm q C N bs bm jM sn sub ab col dd k0 k1 k2 k3 k5 newId))(call:Looks (model prog w) h (specialOf (.ref C) "__call__") (aa (.builtin "type.__call__")))(typ:Looks (model prog w) h (fh (.ref C) (.type "type")) ah)
(hi:Looks (model prog w) h (typeLookup (.ref C) "__init__") (aa (.ref f)))(hb:∀self,Looks (model prog w) h (bindSpecial (.ref f) self) (.ref f,[self]))(TK:rest.length<=aH)
(hq:codeAny (model prog w) (A.under (.builtin "type.__call__" ⟨.ref C::rest,[]⟩)) (.call (.ref f) ⟨.ref (h.objs.size+1)::rest,[]⟩) (InitBack (h.objs.size+1) R) ⟨(h.push (jP rest)).push (jH C h.objs.size),g,d,t,os⟩):
  codeAny (model prog w) A (.call (.ref C) ⟨rest,[]⟩) R ⟨h,g,d,t,os⟩:=by
 refine codeAny_of_tree ?_;show wpAny _ _ (callAny (.ref C) _) _ _ _;refine nd_load hC ?_;show wpAny _ _ (callAny.viaDunder (.ref C) _) _ _ _;unfold callAny.viaDunder;refine aj (call.at ?_);dsimp only;rw[tc_bind];refine aj (az (aj (az ?_)));refine az (a:=Fin.again (.call (.builtin "type.__call__") ⟨.ref C::rest,[]⟩)) (And.intro rfl ?_);refine codeAny_call_builtin_at (Code.quiet_builtin _ (by decide+kernel)) entry_typeCall (check_slot tc_kind tc_split typ (tc_args _ _ _) ?_);unfold bD.«type.__call__»;repeat (first|with_reducible refine b9 hC ?_|with_reducible refine wpAny_madeBy_exc hC ?_|wp_step)
 refine codeAny_call_builtin_code (Code.quiet_builtin _ F.quiet) (wpAny_check_new_subT F T hC ?_);refine codeAny_exc_new_subT F T hC ?_ TK;show wpAny _ _ _ _ _ _;have k:∀b o,h.get? b=aa o->((h.push (jP rest)).push (jH C h.objs.size)).get? b=aa o:=λb o e=>au _ (au _ e);have hx:((h.push (jP rest)).push (jH C h.objs.size)).get? (h.objs.size+1)=aa (jH C h.objs.size):=by heap_get
 have TL:=k _ _ hC;have t1:Looks (model prog w) ((h.push (jP rest)).push (jH C h.objs.size)) (aaA (.ref (h.objs.size+1))) (.ref C):=(Looks.ld hx).andThen .now;have Xb:(aD C::bm).contains (.ref C)=ah:=by simp
 have s1:Looks (model prog w) ((h.push (jP rest)).push (jH C h.objs.size)) (isSubtype (.ref C) (.ref C)) ah:=by intro A Q E s kk qq;obtain⟨hh,g,d,t,os⟩:=s;refine c5 (kk _ _ TL) ?_;rw[Xb];exact qq
 have i1:=hi.keeps k;have b1:=(hb (.ref (h.objs.size+1))).keeps k;unfold fh callSpecial? specialOf;repeat (first|with_reducible refine cM ?_|lk)
 refine cr hq λr s' z=>?_;rcases r with e|(v|_|_|_)<;>first|exact z|exact z.elim|skip
 obtain⟨rfl,z⟩:=z;exact az (az z)
end
end L2
namespace L2
open PySem PySem.Spec PyProof.Rows PySem.W
section
variable {prog:ao} {w:aE} {A:ay} {E:ae->ag->Prop} {s:ag} {K:W.Frag} {C x:af} {name:ar} {v:ae}
def XF (h:aq)(x:af)(od:Option af)(mA:ar->Option ae):Prop:=match od with
 |none=>∀n,mA n=ak
 |some dx=>dx≠x/\h.Ns1 dx mA
noncomputable def Cd:List ae->Bool
 |[.type a,.type b,.type c,.type d]=>a=="ValueError"&&b=="Exception"&&c=="BaseException"&&d=="object"
 |.ref _::r=>Cd r
 |_=>ai
theorem Ce(self:ae):∀l:List ae,Cd l=ah->refuseLoop self "__setattr__" l=pure ()
 |[.type a,.type b,.type c,.type d],h=>by simp only [Cd,aP,beq_iff_eq] at h;obtain⟨⟨⟨rfl,rfl⟩,rfl⟩,rfl⟩:=h;exact PySem.F.store_ValueError.passes self
 |.ref C::r,h=>by rw[refuseLoop_ref];exact Ce self r (by simpa only [Cd] using h)
def Cf (K:W.Frag)(C:af):Prop:=(W.clsIn K C).any (λcd=>Cd cd.mro)=ah
theorem Hi{ox:bE}{od:Option bE}{tk:gm}{R:eK->ag->Prop}(X:K.In s.heap)(I:W.InstAt s.heap x ox C od)(hp:Cf K C)(Xc:W.subIn K (.ref C) (.type "object")=aa ah)(hn:W.findIn K (.ref C) name=aa ak)
(h:wpAny (model prog w) A.in1 (bD.ObjectAttr.storeInOwnDict (.ref x) (.ref C) (.str name tk) name v ai)
   (λlm s'=>match lm with
    |.done f=>R (.ok f) s'
    |.again c'=>c'.quiet=ah/\codeAny (model prog w) A c' R s') (λe s'=>R (.error e) s') s):
  codeAny (model prog w) A (.call (.builtin "object.__setattr__") ⟨[.ref x,.str name tk,v],[]⟩) R s:=by
 have F:=PySem.F.store_ValueError;obtain⟨cd,pE,hov⟩:=W.any_some hp;have t1:W.Looks (model prog w) s.heap (aaA (.ref x)) (.ref C):=by obtain⟨hx,hc,_⟩:=I;rw[<-hc];exact(W.Looks.ld hx).andThen .now
 have s1:=W.looks_subIn (M:=model prog w) X Xc;have typ:W.Looks (model prog w) s.heap (fh (.ref x) (.type "object")) ah:=by unfold fh;exact t1.andThen s1
 have e1:=F.slot.plain;have e2:=F.entry;have e3:=F.args (.ref x) (.str name tk) v;have e4:=F.kind;have e5:=F.split;clear F;refine dF e1 e2 ?_;with_reducible refine check_slot e4 e5 typ e3 ?_
 rw[W.osa_eq,refuse_eq];have m1:mroOf (.ref C)=(classData C >>= λcd=>pure cd.mro):=rfl;have tk0:bD.ObjectAttr.storeTaker? ak=pure ak:=rfl;with_reducible refine aj ?_
 with_reducible refine aj ?_
 with_reducible refine t1.at ?_
 rw[m1];with_reducible refine aj ?_
 with_reducible refine aj ?_
 with_reducible refine(W.looks_clsIn X pE).at ?_
 with_reducible refine az ?_
 rw[Ce _ _ hov];with_reducible refine az ?_
 with_reducible refine aj ?_
 with_reducible refine t1.at ?_
 with_reducible refine aj ?_
 with_reducible refine(W.looks_findIn X hn).at ?_
 rw[tk0];with_reducible refine aj ?_
 with_reducible refine az ?_
 exact h
theorem MD{oe:bE}{vs:Array ae}{mA:ar->Option ae}{ns:List ar}{Q:Unit->ag->Prop}(X:K.In s.heap)(hx:s.heap.get? x=aa oe)(hc:oe.cls=.ref C)(hf:oe.data=.fields vs)(hm:XF s.heap x oe.dict mA)
(hs:W.findIn K (.ref C) "__setattr__"=aa (aa (.builtin "object.__setattr__")))(hp:Cf K C)(Xc:W.subIn K (.ref C) (.type "object")=aa ah)(ht:W.findIn K (.ref C) name=aa ak)(hh:W.hasDictIn K C=ah)
(hw:PySem.Within mA ns)(DH:ns.length<aH)
(h:∀h' dx t',h'.get? x=aa {oe with dict:=aa dx}->(oe.dict=aa dx\/(oe.dict=ak/\dx=s.heap.objs.size))->dx≠x->h'.Ns1 dx (λy=>if y=name then aa v else mA y)->(∀b o,b≠x->b≠dx->s.heap.get? b=aa o->h'.get? b=aa o)->Q () {s with heap:=h',toks:=t'}):
  wpAny (model prog w) A (aaq (.ref x) name v) Q E s:=by
 have nf:oe.isFreed=ai:=by have:=(aq.get?_some_iff.mp hx).2;exact this
 obtain⟨oc,od,Y0,uH⟩:=oe;cases hc;cases hf;have I:∃o',W.InstAt s.heap x ⟨.ref C,od,.fields vs,uH⟩ C o':=by
  cases od with
  |none=>exact⟨ak,hx,rfl,rfl,trivial⟩
  |some dx=>
   obtain⟨_,o,es,ep,ho,_⟩:=hm;exact⟨aa o,hx,rfl,rfl,ho⟩
 obtain⟨o',I⟩:=I;refine W.set_plain X I hs (Hi (s:={s with toks:=s.toks+1}) X I hp Xc ht ?_);obtain⟨cd,pE,Sc⟩:=W.any_some hh;refine aj (az (aj (aj (fe hx ?_))));dsimp only;refine aj (W.Looks.here (s:={s with toks:=s.toks+1}) (W.looks_clsIn X pE) ?_);rw[Sc];cases od with
 |none=>
  have hm:∀n,mA n=ak:=hm;have Og:(s.heap.push {cls:=.type "dict",data:=.dict #[]}).get? x=aa ⟨.ref C,ak,.fields vs,uH⟩:=au _ hx;have Xd:x≠s.heap.objs.size:=bM (aJ hx);show wpAny _ _ (do
   let d<-alloc {cls:=ae.type "dict",data:=Data.dict #[]}
   update x λo=>{cls:=o.cls,dict:=aa d,data:=o.data,slots:=o.slots}
   dictMade (.ref C) x d) _ _ _
  refine aj (wpAny_alloc ?_);refine aj (wpAny_update Og ?_);refine az ?_;have hgd:((s.heap.push {cls:=.type "dict",data:=.dict #[]}).update x λo=>{cls:=o.cls,dict:=aa s.heap.objs.size,data:=o.data,slots:=o.slots}).get? s.heap.objs.size
    =aa {cls:=.type "dict",data:=.dict #[]}:=
   (aq.get?_update_ne _ _ _ _ Xd.symm).trans (aq.get?_push_at rfl rfl)
  have hnd:((s.heap.push {cls:=.type "dict",data:=.dict #[]}).update x λo=>{cls:=o.cls,dict:=aa s.heap.objs.size,data:=o.data,slots:=o.slots}).Ns s.heap.objs.size (λ_=>ak):=
   ⟨_,#[],_,hgd,rfl,λe he=>absurd he (by simp),λ_=>rfl⟩
  show wpAny _ _ (cq s.heap.objs.size (.str name _) name v) _ _ _;unfold cq dS;refine aj (az (aj (fO (aq.Ns1.of_empty hnd) λh' HV hs=>?_)));obtain⟨oD,Yt,Yu,Sx,Sy,GY⟩:=HV.count (Within.cons name v Within.nil);refine aj (eU Sx (by rw[Sy];exact eV (aT GY (by rw[ax,cw,eA];omega))) ?_);refine az (h h' s.heap.objs.size _ ?_ (.inr ⟨rfl,rfl⟩) Xd.symm ?_ λb o Vp Ql hb=>?_)
  ·exact(hs.2 x Xd).trans (bq _ Og rfl)
  ·obtain⟨o',es,ep,e1,e2,e3,eu,e4⟩:=HV;exact⟨o',es,ep,e1,e2,e3,eu,λy=>by rw[e4 y];by_cases hy:y=name<;>simp[hy,hm]⟩
  ·exact(hs.2 b Ql).trans ((aq.get?_update_ne _ _ _ _ Vp).trans (au _ hb))
 |some dx=>
  obtain⟨ud,Vc⟩:=(show dx≠x/\s.heap.Ns1 dx mA from hm);show wpAny _ _ (pure (aa dx)) _ _ _;refine az ?_;show wpAny _ _ (cq dx (.str name _) name v) _ _ _;unfold cq dS;refine aj (az (aj (fO (s:={s with toks:=s.toks+1}) Vc λh' HV hs=>?_)));obtain⟨oD,Yt,Yu,Sx,Sy,GY⟩:=HV.count (Within.cons name v hw);refine aj (eU Sx (by rw[Sy];exact eV (aT GY (by rw[ax];omega))) ?_);refine az (h h' dx _ ((hs.2 x ud.symm).trans hx) (.inl rfl) ud HV λb o Vp Ql hb=>(hs.2 b Ql).trans hb)
end
section
variable {prog:ao} {w:aE} {A:ay} {E:ae->ag->Prop} {h:aq} {g:Array eM} {d:gn} {t:Nat} {os:aas}
variable {nm q:ar} {C N x:af} {bs bm Qk:List ae} {jM:Bool} {sn:List ar} {sub:List ae} {ab:Bool} {col:Option Bool} {dd:Option af} {k0 k1 k2 k3 k5:Option ae} {B newId uk:String}
theorem J1(F:eQ B newId uk Qk)(T:OwnTail h Qk bm){oe:bE}{vs:Array ae}{u:ae}{Q:ae->ag->Prop}
(hC:h.get? C=aa (cA nm q C N bs bm jM sn sub ab col dd k0 k1 k2 k3 k5 newId))(he:h.get? x=aa oe)(OX:oe.cls=.ref C)(hd:oe.data=.fields vs)(DH:1<vs.size)
(hq:∀h' a,h'.get? x=aa {oe with data:=.fields (vs.setIfInBounds 0 a)}->(∀b o,b≠x->h.get? b=aa o->h'.get? b=aa o)->Q .none ⟨h',g,d,t,os⟩):
  wpAny (model prog w) A (call (.builtin uk) [.ref x,u]) Q E ⟨h,g,d,t,os⟩:=by
 obtain⟨oc,od,Y0,uH⟩:=oe;cases OX;cases hd;refine cM (dF F.init.plain F.initEntry (wpAny_check_init_subT F T hC he rfl ?_))
 wp_walk
 obtain⟨a0,h0⟩:∃a,vs[0]?=aa a:=⟨_,Array.getElem?_eq_getElem (by omega)⟩;rw[h0];refine az ?_;have Y1:=au (h:=h) {cls:=.type "tuple",data:=.seq [u].toArray} he;refine aj (cb Y1 rfl (by omega) ?_);have lm:∀Q':Unit->ag->Prop,Q' () ⟨(h.push {cls:=.type "tuple",data:=.seq [u].toArray}).update x (aS (·.setIfInBounds 0 (.ref h.objs.size))),g,d,t,os⟩->∀E',wpAny (model prog w) A.in1 (match a0 with|aD a_1=>letGo [a0]|x=>pure ()) Q' E' ⟨(h.push {cls:=.type "tuple",data:=.seq [u].toArray}).update x (aS (·.setIfInBounds 0 (.ref h.objs.size))),g,d,t,os⟩:=λQ' q E'=>by
  cases a0<;>first|exact az q|skip
  wp_walk
  exact q
 refine lm _ (az ?_) _;refine hq _ (.ref h.objs.size) ?_ λb o hb e=>?_
 ·exact bq _ Y1 (bP (bF rfl _))
 ·rw[aw _ _ (bG hb)];exact au _ e
end
section
variable {X:Cx} {value e:aM} {es:List aM} {te:TE} {pos:cu}
def TM (te:TE):TE:=λσ H Q=>te σ H λx H1=>match x with
 |.str y=>y.length<=aH/\Q (.str y) H1
 |.int i=>i.natAbs.log2<1920/\Q (.str (toString i)) H1
 |_=>False
theorem Inv.tk{pins:List (af×bE)}{σ:St}{H:Hp}{s:ag}(I:Inv X pins σ H s)(t':Nat):Inv X pins σ H {s with toks:=t'}:=⟨I.ok,I.os,I.bare,I.base,I.loc,I.cell,I.free,I.jX,I.pin,I.iy,I.len⟩
theorem Qm(h:PE X value te):PE X (.FormattedValue value (-1) ak pos) (TM te):=by
 intro pins s σ H Q I hq;refine FormattedValue_plain (ja (h pins s σ H _ I hq) λv s1 zq=>?_);obtain⟨x,H1,I1,r1,q⟩:=zq;cases x<;>first|exact q.elim|skip
 ·rename_i i;obtain⟨t,rfl⟩:=r1;refine formatField_int_small q.1 ?_;exact⟨.str (toString i),H1,I1.tk _,⟨_,rfl⟩,q.2⟩
 ·rename_i y;obtain⟨t,rfl⟩:=r1;exact formatField_str (λt' tk=>⟨.str y,H1,I1.tk _,⟨_,rfl⟩,q.2⟩) q.1
abbrev TJ:=ar->St->Hp->VK->Prop
def PJ (X:Cx)(es:List aM)(t:TJ):Prop:=∀(acc:ar) (pins:List (af×bE)) (s:ag) (σ:St) (H:Hp) (Q:VK),Inv X pins σ H s->t acc σ H Q->wpAny (model X.prog X.w) X.A (joinParts acc (evalEach es X.env)) (EP X pins σ Q) X.xe s
def Oh:TJ:=λacc _ H Q=>acc.length<=aH/\Q (.str acc) H
def J2 (te:TE)(tj:TJ):TJ:=λacc σ H Q=>te σ H λx H1=>∃y,x=.str y/\(acc++y).length<=aH/\tj (acc++y) σ H1 Q
theorem Qn:PJ X [] Oh:=λacc pins s σ H Q I q=>joinParts_nil ⟨.str acc,H,I.tk _,⟨_,rfl⟩,q.2⟩ q.1
theorem F3{tj:TJ}(h:PE X e te)(hs:PJ X es tj):PJ X (e::es) (J2 te tj):=by intro acc pins s σ H Q I hq;show wpAny _ _ (joinParts acc (eval e X.env::evalEach es X.env)) _ _ _;refine joinParts_cons (ja (h pins s σ H _ I hq) λv s1 zq=>?_);obtain⟨x,H1,I1,r1,y,e1,hz,q⟩:=zq;subst e1;obtain⟨t,rfl⟩:=r1;exact⟨hz,hs _ pins s1 σ H1 Q I1 q⟩
theorem ME{tj:TJ}{e2:aM}(h:PJ X (e::e2::es) tj):PE X (.JoinedStr (e::e2::es) pos) (tj ar.empty):=λpins s σ H Q I q=>JoinedStr_many (h ar.empty pins s σ H Q I q)
end
noncomputable def j0(x C:af)(od:Option af):HO:=.ext λh=>Er h x (.ref C) od
noncomputable def zc(dx:af)(fs:List (ar×V)):HO:=.ext λh=>∃mA,h.Ns1 dx mA/\(∀f,mM (fs.lookup f) (mA f))/\PySem.Within mA (fs.map (·.1))
structure Et(K:W.Frag)(C:af):Prop where
 hd:W.hasDictIn K C=ah
 po:Cf K C
 so:W.subIn K (.ref C) (.type "object")=aa ah
 sa:W.findIn K (.ref C) "__setattr__"=aa (aa (.builtin "object.__setattr__"))
theorem Aj{P:ao}{w:aE}{H:Hp}{h:aq}{x C:af}{od:Option af}(r:Er h x (.ref C) od):iQ P w H h x (j0 x C od):=by obtain⟨a0,e⟩:=r;refine⟨⟨a0,e⟩,⟨_,e⟩,λh1 h2 ⟨b,q⟩ k=>⟨b,k _ q⟩⟩
theorem TN{P:ao}{w:aE}{H:Hp}{h:aq}{dx:af}{fs:List (ar×V)}{mA:ar->Option ae}(n:h.Ns1 dx mA)(r:∀f,mM (fs.lookup f) (mA f))(wi:PySem.Within mA (fs.map (·.1))):iQ P w H h dx (zc dx fs):=by obtain⟨o,es,ep,e,q⟩:=id n;exact⟨⟨mA,n,r,wi⟩,⟨_,e⟩,λh1 h2 ⟨mB,n',r'⟩ k=>⟨mB,n'.at k,r'⟩⟩
def XD (H:Hp)(x:af)(od:Option af)(fs:List (ar×V)):Prop:=match od with
 |none=>fs=[]
 |some dx=>dx≠x/\H dx=aa (zc dx fs)
section
variable {X:Cx} {pins:List (af×bE)} {σ:St} {H:Hp} {s:ag} {A:ay} {E:ae->ag->Prop} {C x:af} {f:ar}
theorem MG{od:Option af}{fs:List (ar×V)}{y:V}{u:ae}{Q:Unit->ag->Prop}(I:Inv X pins σ H s)(ex:H x=aa (j0 x C od))(hd:XD H x od fs)(c:Et X.K C)(n:jZ X.K C f)(hl:fs.length<1000)(ry:RelV y u)
(h:∀s' dx,(od=aa dx\/(od=ak/\H dx=ak))->dx≠x->Inv X pins σ (upd (upd H dx (zc dx (lQ f y fs))) x (j0 x C (aa dx))) s'->Q () s'):wpAny (model X.prog X.w) A (aaq (.ref x) f u) Q E s:=by
 obtain⟨⟨a0,hx⟩,_,_⟩:=(show iQ X.prog X.w H s.heap x (j0 x C od) from I.iy x _ ex);obtain⟨mA,xf,rl,wi⟩:∃mA,XF s.heap x od mA/\(∀g,mM (fs.lookup g) (mA g))/\PySem.Within mA (fs.map (·.1)):=by
  cases od with
  |none=>
   cases(show fs=[] from hd);exact⟨λ_=>ak,λ_=>rfl,λ_=>trivial,λy hy=>absurd rfl hy⟩
  |some dx=>
   obtain⟨ne,Cg⟩:=(show dx≠x/\H dx=aa (zc dx fs) from hd);obtain⟨⟨mA,nn,r,wi⟩,_,_⟩:=(show iQ X.prog X.w H s.heap dx (zc dx fs) from I.iy dx _ Cg);exact⟨mA,⟨ne,nn⟩,r,wi⟩
 refine MD I.pD hx rfl rfl xf c.sa c.po c.so n c.hd wi (by rw[aR,eA];omega) λh' dx t' Mf Vq ne hn kp=>?_;have Vq:od=aa dx\/(od=ak/\dx=s.heap.objs.size):=Vq;have TQ:od=aa dx\/(od=ak/\H dx=ak):=by
  rcases Vq with e|⟨e,rfl⟩
  ·exact .inl e
  ·exact .inr ⟨e,I.iy.fresh (bf _)⟩
 have Xe:∀b o,s.heap.get? b=aa o->H b=ak->b≠dx:=λb o e q z=>by
  rcases Vq with e2|⟨_,rfl⟩
  ·rw[e2] at hd;have:=(show dx≠x/\H dx=aa (zc dx fs) from hd).2;rw[<-z,q] at this;cases this
  ·have:=aJ e;rw[z] at this;exact absurd this (b5 _)
 have nX:∀b u,H b=aa u->(∀φ,u≠.ext φ)->b≠x/\b≠dx:=λb u e nu=>by
  refine⟨λz=>?_,λz=>?_⟩
  ·rw[z,ex] at e;exact nu _ (bh e).symm
  ·subst z;rcases TQ with e2|⟨_,e2⟩
   ·rw[e2] at hd;have:=(show b≠x/\H b=aa (zc b fs) from hd).2;rw[e] at this;exact nu _ (bh this)
   ·rw[e] at e2;cases e2
 have nx:∀b,H b=ak->b≠x:=λb e z=>by rw[z,ex] at e;cases e
 have U:Un (oi X.stack) [] H (upd (upd H dx (zc dx (lQ f y fs))) x (j0 x C (aa dx))) s.heap h':=by
  refine⟨λb o e q _ _=>kp b o (nx b q) (Xe b o e q) e,λb o e q _ _=>⟨o.slots,kp b o (nx b q) (Xe b o e q) e⟩,λb o e q _=>?_,λb o e _=>?_,λb xs q=>?_,λb o u q=>?_,λb ps q=>⟨#[],?_⟩⟩
  ·rw[gz (nx b q),gz (Xe b o e q)];exact q
  ·by_cases z:b=x
   ·subst z;exact⟨_,Mf⟩
   ·by_cases z2:b=dx
    ·subst z2;obtain⟨o',_,_,e',_⟩:=hn;exact⟨_,e'⟩
    ·exact⟨o,kp b o z z2 e⟩
  ·have:=nX b _ q λ_ z=>by cases z
   rw[gz this.1,gz this.2];exact q
  ·have:=nX b _ q λ_ z=>by cases z
   rw[gz this.1,gz this.2];exact q
  ·have:=nX b _ q λ_ z=>by cases z
   rw[gz this.1,gz this.2,q];simp
 have iy:pG X.prog X.w (upd (upd H dx (zc dx (lQ f y fs))) x (j0 x C (aa dx))) h':=λb u q=>by
  by_cases z:b=x
  ·subst z;rw[gF] at q;cases q;exact Aj ⟨a0,Mf⟩
  ·rw[gz z] at q;by_cases z2:b=dx
   ·subst z2;rw[gF] at q;cases q;refine TN hn (λg=>?_) λg hg=>?_
    ·rw[pL];by_cases q:g=f
     ·rw[if_pos q,if_pos q];exact ry
     ·rw[if_neg q,if_neg q];exact rl g
    ·by_cases q:g=f
     ·rw[q];exact(nH f y fs).1
     ·refine(nH f y fs).2 g (wi g λz=>hg ?_);show(if g=f then aa u else mA g)=ak;rw[if_neg q];exact z
   ·rw[gz z2] at q;refine(I.iy b u q).sG (λc v hc r=>?_) (λc r=>?_) λc xs r=>?_
    ·rcases hc with rfl|hc
     ·exact kp c v z z2 r
     ·have:=nX c _ hc λ_ z=>by cases z
      exact kp c v this.1 this.2 r
    ·have:=nX c _ r λ_ z=>by cases z
     rw[gz this.1,gz this.2];exact r
    ·have:=nX c _ r λ_ z=>by cases z
     rw[gz this.1,gz this.2];exact r
 exact h _ dx TQ ne (I.uE (s':={s with heap:=h',toks:=t'}) rfl U iy I.bare λb hb=>by cases hb)
end
structure F4(K:W.Frag)(B:af):Prop where
 gs:W.specialIn K (.ref B) "__getattribute__"=aa (aa (.builtin "type.__getattribute__"))
 rd:W.readsIn K B (.type "type")=ah
 fc:W.findCls K (.ref B) (.type "type") "__init__"=aa (.val (.builtin "ValueError.__init__"))
structure Eu(K:W.Frag)(C:af):Prop where
 obj:∃nm q N bs bm jM sn sub ab col dd k0 k1 k2 k3 k5,K.lookup C=aa (cA nm q C N bs bm jM sn sub ab col dd k0 k1 k2 k3 k5 "ValueError.__new__")/\∀h,K.In h->OwnTail h [.type "ValueError",.type "Exception",.type "BaseException",.type "object"] bm
section
variable {X:Cx} {o e e2:aM} {to t1 t2:TE} {ta:TA} {apos pos:cu} {B:af}
def J3 (K:W.Frag)(B:af)(to:TE)(ta:TA):TE:=λσ H Q=>to σ H λb H0=>b=.ref B/\ta σ H0 λvs H1=>∃x C od m,vs=[.ref x,m]/\H1 x=aa (j0 x C od)/\Eu K C/\Q .non H1
theorem J8{pins:List (af×bE)}{σ:St}{H:Hp}{s:ag}{A:ay}{E:ae->ag->Prop}{x C:af}{od:Option af}{u:ae}{Q:ae->ag->Prop}(FB:eQ "ValueError" "ValueError.__new__" "ValueError.__init__" [.type "ValueError",.type "Exception",.type "BaseException",.type "object"])
(I:Inv X pins σ H s)(ex:H x=aa (j0 x C od))(c:Eu X.K C)(h:∀s',Inv X pins σ H s'->Q .none s'):wpAny (model X.prog X.w) A (call (.builtin "ValueError.__init__") [.ref x,u]) Q E s:=by
 obtain⟨⟨a0,hx⟩,_,_⟩:=(show iQ X.prog X.w H s.heap x (j0 x C od) from I.iy x _ ex);obtain⟨nm,q,N,bs,bm,jM,sn,sub,ab,col,dd,k0,k1,k2,k3,k5,hC,T⟩:=c.obj;have hC:=I.pD _ _ hC;have T:=T s.heap I.pD;have nx:∀b,H b=ak->b≠x:=λb e z=>by rw[z,ex] at e;cases e
 have I0:=I;obtain⟨hh,g,d,t,os⟩:=s;refine J1 FB T hC hx rfl rfl (by show 1<6;decide) λh' a Mf kp=>h _ ?_;have Qo:Er h' x (.ref C) od:=⟨a,Mf⟩;refine I0.uE (ch:=[]) (s':=⟨h',g,d,t,os⟩) rfl ⟨λb o e q _ _=>kp b o (nx b q) e,λb o e q _ _=>⟨o.slots,kp b o (nx b q) e⟩,λb o e q _=>q,λb o e _=>?_,λb xs q=>q,λb o u q=>q,λb ps q=>⟨#[],by rw[q];simp⟩⟩ (λb u q=>?_) I0.bare λb hb=>by cases hb
 ·by_cases z:b=x
  ·subst z;exact⟨_,Mf⟩
  ·exact⟨o,kp b o z e⟩
 ·by_cases z:b=x
  ·subst z;rw[ex] at q;cases q;exact Aj Qo
  ·refine(I0.iy b u q).sG (λc v hc r=>kp c v ?_ r) (λc r=>r) λc xs r=>r;rcases hc with rfl|hc
   ·exact z
   ·exactλz=>by rw[z,ex] at hc;cases hc
theorem J9{pl:f9 Bool}(FB:eQ "ValueError" "ValueError.__new__" "ValueError.__init__" [.type "ValueError",.type "Exception",.type "BaseException",.type "object"])(hB:F4 X.K B)(ho:PE X o to)(ha:PA X [e,e2] ta)
(ht:eval (.Call (.Attribute o "__init__" apos) [e,e2] [] pos) X.env=(do
   let ov<-eval o X.env
   eF apos.atName
   let(f,first)<-holding [ov] (eH ov "__init__" pl)
   fY pos f first (bN pos (av [e,e2] X.env)) (eg pos (de [] X.env))):=by rfl)
(l8:av [e,e2] X.env=(ai,eval e X.env)::av [e2] X.env:=by rfl)(kC:(bN pos (av [e2] X.env)).any (·.1)=ai:=by rfl):
  PE X (.Call (.Attribute o "__init__" apos) [e,e2] [] pos) (J3 X.K B to ta):=by
 intro pins s σ H Q I h;refine W.methodCall_KW (pl:=pl) (ja (ho pins s σ H _ I h) λu s1 ⟨b,H0,I1,rb,eb,q⟩=>?_) ht;subst eb;obtain rfl:u=aD B:=rb;refine W.method_cls I1.pD hB.gs (W.cls_value I1.pD hB.rd hB.fc rfl ?_);have I1:=I1.tk (s1.toks+1);have hA:=ha pos pins _ σ H0 _ I1 q;rw[l8] at hA ⊢;refine Calls.callWith_builtin (by show(ai||(bN pos (av [e2] X.env)).any (·.1))=ai;rw[kC]<;>rfl) (Calls.evalArgs_plain ?_);refine ja hA λus s2 zq=>?_;obtain⟨vs,H2,I2,r2,x,C,od,m,ev,ex,c,q2⟩:=zq;subst ev;cases r2 with
 |cons r r'=>
  cases r' with
  |cons r1 r2=>
   cases r2;cases r;exact J8 FB I2 ex c λs' I'=>⟨.non,H2,I',rfl,q2⟩
end
noncomputable def DM(x:af)(H:Hp):Hp:=λb=>if b=x then ak else H b
theorem mv{x:af}{H:Hp}:DM x H x=ak:=by unfold DM;rw[if_pos rfl]
theorem Ak{x b:af}{H:Hp}(h:b≠x):DM x H b=H b:=by unfold DM;rw[if_neg h]
section
variable {X:Cx} {pins:List (af×bE)} {σ:St} {H:Hp} {s:ag}
theorem Inv.drop{x:af}{φ:aq->Prop}(I:Inv X pins σ H s)(hx:H x=aa (.ext φ)):Inv X pins σ (DM x H) s:=by
 have hn:∀b,H b=ak->DM x H b=ak:=λb e=>by
  by_cases z:b=x
  ·rw[z];exact mv
  ·rw[Ak z];exact e
 have hk:∀b u,H b=aa u->(∀φ,u≠.ext φ)->DM x H b=aa u:=λb u e nu=>by rw[Ak λz=>by rw[z,hx] at e;exact nu _ (bh e).symm];exact e
 refine⟨I.ok,I.os,I.bare,⟨I.base.keep,I.base.slot,λb o q n hx=>hn b (I.base.free b o q n hx),I.base.there,λb xs q=>hk b _ (I.base.pv b xs q) (λ_ z=>by cases z),λb o u q=>hk b _ (I.base.nG b o u q) (λ_ z=>by cases z),λb ps q=>?_⟩,I.loc,I.cell,hn _ I.free,λx c e=>hn _ (I.jX x c e),λp hp=>?_,λb u q=>?_,I.len⟩
 ·obtain⟨m,e⟩:=I.base.pw b ps q;exact⟨m,hk b _ e λ_ z=>by cases z⟩
 ·obtain⟨p1,p2,p3⟩:=I.pin p hp;exact⟨p1,hn _ p2,p3⟩
 ·have z:b≠x:=λz=>by rw[z,mv] at q;cases q
  rw[Ak z] at q;exact(I.iy b u q).sG (λc v _ r=>r) (λc r=>hk c _ r (λ_ z=>by cases z)) (λc xs r=>hk c _ r (λ_ z=>by cases z))
end
section
variable {M:fb} {A:ay} {E:ae->ag->Prop} {env:cz} {s:ag}
variable {nm q:ar} {C N:af} {bs bm:List ae} {jM:Bool} {sn:List ar} {sub:List ae} {ab:Bool} {col:Option Bool} {dd:Option af} {k0 k1 k2 k3 k5:Option ae} {newId:String}
theorem Hj{x:f9 ae}{Q:Flow->ag->Prop}(pM:bm.contains (.type "BaseException")=ah)(hh:A.handled=ak)
(h:wpAny M A x (λv ik=>∃e od,v=.ref e/\ik.heap.get? C=aa (cA nm q C N bs bm jM sn sub ab col dd k0 k1 k2 k3 k5 newId)/\Er ik.heap e (.ref C) od/\E (.ref e) ik) E s):
  wpAny M A (fE env (aa x) ak) Q E s:=by
 have TR:(aD C::bm).contains (.type "BaseException")=ah:=by rw[List.contains_cons,pM,Bool.or_true]
 unfold fE;refine aj (bR h (λv ik iR=>?_) λ_ _ x=>x);obtain⟨e,od,rfl,hC,⟨a0,he⟩,hE⟩:=iR;obtain⟨hp,g,d,tk,os⟩:=ik;repeat (first|with_reducible refine b9 he ?_|with_reducible refine b9 hC ?_|(with_reducible refine c5 hC ?_;rw[TR])|wp_step)
 exact wpAny_raiseNew_none hh hE
end
structure Oi(K:W.Frag)(C f:af):Prop where
 x:Eu K C
 call:W.specialIn K (.ref C) "__call__"=aa (aa (.builtin "type.__call__"))
 typ:W.instIn K (.ref C) (.type "type")=aa ah
 init:W.findIn K (.ref C) "__init__"=aa (aa (.ref f))
 fn:W.isFn K (.ref f)=ah
 kp:W.keepIn K (.ref C)=ah
section
variable {X:Cx} {CX:v3} {k:Nat} {f C:af} {fd:bz} {ps:List ar} {sp:Sp} {E:XK}
theorem MH{pins:List (af×bE)}{σ:St}{H:Hp}{s:ag}{Q:VK}{us:List ae}{vs:List V}(M:Oi X.K C f)(F:iW X.prog X.w X.K X.mg X.base CX k f fd ps sp)(hr:iG (k+1) X.A)(hb:Binds X.K fd ps [])
(hx:om CX X E)(I:Inv X pins σ H s)(r:Vals vs us)(hz:us.length<=aH)
(h:∀x,H x=ak->s.heap.objs.size<=x->sp (.ref x::vs) (upd H x (j0 x C ak)) (λv H2=>v=.non/\Q (.ref x) H2) E):
  wpAny (model X.prog X.w) X.A (call (.ref C) us) (EP X pins σ Q) X.xe s:=by
 have hq:=h (s.heap.objs.size+1) (I.iy.fresh (Nat.le_succ _)) (Nat.le_succ _);have k1:∀b u,s.heap.get? b=aa u->(s.heap.push (jP us)).get? b=aa u:=λb u e=>au _ e;have e2:((s.heap.push (jP us)).push (jH C s.heap.objs.size)).get? (s.heap.objs.size+1)=aa (jH C s.heap.objs.size):=by
  have:=bg (s.heap.push (jP us)) (o:=jH C s.heap.objs.size) rfl
  rwa [cS] at this
 have I2:Inv X pins σ (upd H (s.heap.objs.size+1) (j0 (s.heap.objs.size+1) C ak)) {s with heap:=(s.heap.push (jP us)).push (jH C s.heap.objs.size)}:=
  (I.kept (t':=s.toks) k1).laid (t':=s.toks) (λb u e=>au _ e) (c8 (cS _ _)) (Aj ⟨_,e2⟩)
 have r2:Vals (V.ref (s.heap.objs.size+1)::vs) (aD (s.heap.objs.size+1)::us):=.cons rfl r;have hl:(aD (s.heap.objs.size+1)::us).length=ps.length:=by have e:=r2.length;rw[F.len _ _ _ _ hq] at e;exact e.symm
 obtain⟨nm,q,N,bs,bm,jM,sn,sub,ab,col,dd,k0,k1,k2,k3,k5,hC,T⟩:=M.x.obj;have Vb:(aD (s.heap.objs.size+1)::us++[]).length=ps.length:=by rw[bj];exact hl
 have hB:=hb {s with heap:=(s.heap.push (jP us)).push (jH C s.heap.objs.size)} (aD (s.heap.objs.size+1)::us) I2.pD Vb;rw[bj] at hB;have key:=F.run _ X.stack _ _ ⟨aD (s.heap.objs.size+1)::us,[]⟩ (aD (s.heap.objs.size+1)::us) _ _ E (hr.make C us []) (I2.GZ.make C us []) hB r2 hq;have KX:=I.pD;have lm:∀(r:eK) (s':ag),CR CX X.stack X.prog X.w (upd H (s.heap.objs.size+1) (j0 (s.heap.objs.size+1) C ak)) {s with heap:=(s.heap.push (jP us)).push (jH C s.heap.objs.size)} (λv H2=>v=.non/\Q (.ref (s.heap.objs.size+1)) H2) E r s'->
   W.InitBack (s.heap.objs.size+1) (λr s'=>match r with|.ok (.ret v)=>EP X pins σ Q v s'|.ok _=>False|.error e=>X.xe e s') r s':=λr s' BC=>by
  cases r with
  |error e=>exact hx pins σ _ _ e s' I2 BC
  |ok fl=>
   cases fl with
   |ret u=>
    obtain⟨v,H',I3,rv,ev,q3⟩:=I2.after BC;subst ev;exact⟨rv,⟨V.ref (s.heap.objs.size+1),H',I3,rfl,q3⟩⟩
   |next=>exact bu BC
   |brk=>exact bu BC
   |cont=>exact bu BC
 obtain⟨hh,g,d,t,os⟩:=s;refine cM ?_;refine Cc PySem.F.excBase_ValueError (T hh KX) (KX _ _ hC) (W.looks_specialIn KX M.call) (W.looks_instIn KX M.typ) (W.looks_findIn KX M.init) (λself=>W.bind_fn KX self (beq_iff_eq.mp M.fn)) hz ?_;exact cr key lm
end
section
variable {P:ao} {w:aE} {K:W.Frag} {mg:ar->Option ae} {base:aq} {N:List ar} {qual:ar} {scope:bJ} {fn:af} {cd:ae} {A:ay} {outer:List cz} {gG:ag} {gJ:Hp} {E:XK}
variable {k:Nat} {f C:af} {fd:bz} {ps:List ar} {sp:Sp} {x:ar} {p pos iM:cu} {e:aM} {es:List aM} {t:TA}
def Qp (C:af)(sp:Sp)(E:XK)(t:TA):TS:=λ_ σ H=>t σ H λvs H1=>vs.length<=aH/\∀x,H1 x=ak->sp (.ref x::vs) (upd H1 x (j0 x C ak)) (λv H2=>v=.non/\∃od,H2 x=aa (j0 x C od)/\E (.ref C) od (DM x H2)) E0
end
section
variable {X:Cx} {o value:aM} {ta tv:TE} {f:ar} {pos pos':cu}
def Oj (K:W.Frag)(ta tv:TE)(f:ar):TS:=λD σ H=>tv σ H λy H1=>ta σ H1 λx H2=>∃a C od fs,x=.ref a/\H2 a=aa (j0 a C od)/\XD H2 a od fs/\Et K C/\jZ K C f/\fs.length<1000/\
 ∀dx,(od=aa dx\/(od=ak/\H2 dx=ak))->dx≠a->D.nx σ (upd (upd H2 dx (zc dx (lQ f y fs))) a (j0 a C (aa dx)))
theorem MI(ha:PE X o ta)(hv:PE X value tv)(hs:cW value (aa (.Attribute o f pos')) pos.line X.env=pure ai):PS X (.Assign [.Attribute o f pos'] value pos) (Oj X.K ta tv f):=by intro pins s σ H D I h;refine eR (ja (hv pins s σ H _ I h) λu s1 ⟨y,H1,I1,ry,q⟩=>ja (ha pins s1 σ H1 _ I1 q) λov s2 ⟨x,H2,I2,rx,a,C,od,fs,ex,ea,hd,c,n,l,q2⟩=>?_) hs;subst ex;obtain rfl:ov=aD a:=rx;exact MG I2 ea hd c n l ry λs3 dx ho ne I3=>⟨σ,_,I3,q2 dx ho ne⟩
end
structure uT(X:Cx)(pins:List (af×bE))(b:af):Prop where
 s0:X.gG.heap.objs.size<=b
 lo:b≠X.env.locals
 ce:∀x c,X.env.cells.lookup x=aa c->c≠b
 pi:∀p∈X.pn++pins,p.1≠b
section
variable {X:Cx} {pins:List (af×bE)} {σ:St} {H:Hp} {s:ag} {h':aq}
theorem Inv.ke(I:Inv X pins σ H s){b:af}(hb:s.heap.objs.size<=b):uT X pins b:=by
 refine⟨aT I.wI hb,λz=>?_,λx c e z=>?_,λp hp z=>?_⟩
 ·obtain⟨m,⟨o,es,ep,ho,_⟩,_⟩:=I.loc;have:=aJ ho;rw[<-z] at this;exact absurd (aB this hb) (b5 _)
 ·obtain⟨v,o,ho,_⟩:=I.cell x c e;have:=aJ ho;rw[z] at this;exact absurd (aB this hb) (b5 _)
 ·have:=aJ (I.pin p hp).1;rw[z] at this;exact absurd (aB this hb) (b5 _)
theorem Inv.wJ{t':Nat}(I:Inv X pins σ H s){R:List af}(hR:∀b∈R,uT X pins b/\H b=ak)(hL:Left (oi X.stack) R s.heap h'):Inv X pins σ H {s with heap:=h',toks:=t'}:=by
 refine I.uE (ch:=R) (s':={s with heap:=h',toks:=t'}) rfl ⟨λb o e n hb hx=>(hL b o e hx).1 hb,λb o e n hb hx=>(hL b o e hx).2,λb o e n hx=>n,λb o e hx=>?_,λb xs q=>q,λb o u q=>q,λb ps q=>⟨#[],by rw[q];simp⟩⟩ (λa o e=>?_) I.bare λb hb=>⟨.inr (hR b hb).1.s0,(hR b hb).1.lo,(hR b hb).1.ce,(hR b hb).1.pi⟩
 ·obtain⟨sl,q⟩:=(hL b o e hx).2;exact⟨_,q⟩
 ·refine(I.iy a o e).sG (λb u hb q=>?_) (λ_ q=>q) λ_ _ q=>q;have hn:H b≠ak:=by
   rcases hb with rfl|hb
   ·rw[e];exactλz=>by cases z
   ·rw[hb];exactλz=>by cases z
  exact(hL b u q λz=>hn (hR b z).2).1 λz=>hn (I.YZ z)
theorem Inv.Ol{x:af}{o:HO}(I:Inv X pins σ H s)(hx:H x=ak)(ke:uT X pins x)(ok:iQ X.prog X.w (upd H x o) s.heap x o):Inv X pins σ (upd H x o) s:=by
 have hk:∀b u,H b=aa u->upd H x o b=aa u:=λb u e=>by rw[gz λz=>by rw[z,hx] at e;cases e];exact e
 have n0:X.gG.heap.get? x=ak:=bZ ke.s0;refine⟨I.ok,I.os,I.bare,⟨I.base.keep,I.base.slot,λb ob q n Mf=>?_,I.base.there,λb xs q=>hk b _ (I.base.pv b xs q),λb ob u q=>hk b _ (I.base.nG b ob u q),λb ps q=>?_⟩,I.loc,I.cell,?_,λy c e=>?_,λp hp=>?_,λb u q=>?_,I.len⟩
 ·rw[gz λz=>by rw[z,n0] at q;cases q];exact I.base.free b ob q n Mf
 ·obtain⟨m,e⟩:=I.base.pw b ps q;exact⟨m,hk b _ e⟩
 ·rw[gz (bG ke.lo)];exact I.free
 ·rw[gz (ke.ce y c e)];exact I.jX y c e
 ·obtain⟨p1,p2,p3⟩:=I.pin p hp;exact⟨p1,by rw[gz (ke.pi p hp)];exact p2,p3⟩
 ·by_cases z:b=x
  ·subst z;rw[gF] at q;cases q;exact ok
  ·rw[gz z] at q;exact(I.iy b u q).sG (λc v _ r=>r) (λc r=>hk c _ r) (λc xs r=>hk c _ r)
abbrev Cx.DN(X:Cx)(e:ae):Cx:={X with A:=X.A.mark (aa e),calm:=ai,xe:=λ_ _=>False}
theorem Inv.DN(I:Inv X pins σ H s)(e:ae):Inv (X.DN e) pins σ H s:=
 ⟨⟨I.ok.mod,I.ok.kind,I.ok.glob,I.ok.blt,I.ok.above,I.ok.inj,I.ok.has,I.ok.NK,(λz=>by cases z),I.ok.frames,I.ok.OV,I.ok.Sb,I.ok.bs,I.ok.Fp,I.ok.Bt,I.ok.Bu,I.ok.px,I.ok.HU⟩,I.os,I.bare,I.base,I.loc,I.cell,I.free,I.jX,I.pin,I.iy,I.len⟩
theorem Inv.Ch{e:ae}(ok:X.Ok)(I:Inv (X.DN e) pins σ H s):Inv X pins σ H s:=⟨ok,I.os,I.bare,I.base,I.loc,I.cell,I.free,I.jX,I.pin,I.iy,I.len⟩
theorem sU{i:Nat}{n:ar}{pos:cu}{A:ay}{E:ae->ag->Prop}{Q:Unit->ag->Prop}(I:Inv X pins σ H s)(hN:X.N.Nodup)(hi:X.N[i]?=aa n)(hk:X.env.kindOf n=aa .local)
(h:∀s',Inv X pins (σ.set i ak) H s'->Q () s'):wpAny (model X.prog X.w) A (do bindName X.env n .none;f6 X.env n pos) Q E s:=by
 obtain⟨m,hn,hl⟩:=id I.loc;have Ih:=I.Ih;refine wpAny_nameGoes_keeps hk hn (by rw[I.ok.kind];rfl) λh' v HV hs=>h _ ?_;have hb:∀b o,X.gG.heap.get? b=aa o->h'.get? b=s.heap.get? b:=λb o e=>hs.2 b (bM (aB (aJ e) I.ok.above));refine⟨I.ok,I.os,I.bare,⟨λb o e n Xf hx=>(hb b o e).trans (I.base.keep b o e n Xf hx),λb o e n Xf hx=>?_,I.base.free,λb o e hx=>?_,I.base.pv,I.base.nG,I.base.pw⟩,⟨_,HV,λj y v' e1 e2 e3=>?_⟩,λy c e=>?_,I.free,I.jX,λp hp=>?_,λb u e=>?_,by simpa using I.len⟩
 ·obtain⟨sl,e1⟩:=I.base.slot b o e n Xf hx;exact⟨sl,(hb b o e).trans e1⟩
 ·obtain⟨o',e1⟩:=I.base.there b o e hx;exact⟨o',(hb b o e).trans e1⟩
 ·have hj:j≠i:=λz=>by subst z;rw[List.getElem?_set] at e2;rw[if_pos rfl] at e2;split at e2<;>cases e2
  rw[bH (bG hj)] at e2;obtain⟨u',r',q⟩:=hl j y v' e1 e2 e3;refine⟨u',r',?_⟩;rcases q with⟨k,e⟩|⟨k,c,e,z⟩
  ·refine .inl ⟨k,?_⟩;have:y≠n:=λe=>hj (vV hN e1 (e▸hi));simp[this,e]
  ·exact .inr ⟨k,c,e,z.sameBut hs (Ih y c e)⟩
 ·obtain⟨w',z⟩:=I.cell y c e;exact⟨w',z.sameBut hs (Ih y c e)⟩
 ·obtain⟨e,n,ne,nf,d⟩:=I.pin p hp;exact⟨(hs.2 p.1 ne).trans e,n,ne,nf,d⟩
 ·refine(I.iy b u e).sG (λc w' hc q=>(hs.2 c ?_).trans q) (λ_ q=>q) λ_ _ q=>q
  rintro rfl
  rcases hc with rfl|hc
  ·rw[I.free] at e;cases e
  ·rw[I.free] at hc;cases hc
end
def Om (H:Hp)(od:Option af)(fs:List (ar×V)):Prop:=match od with
 |none=>fs=[]
 |some dx=>H dx=aa (zc dx fs)
noncomputable def Oo(H:Hp)(x C:af)(od:Option af)(fs:List (ar×V)):Hp:=match od with
 |none=>upd H x (.xc C fs)
 |some dx=>upd (upd H dx (.own x)) x (.xc C fs)
theorem Inv.Ew{X:Cx}{pins:List (af×bE)}{σ:St}{H:Hp}{s:ag}{x C:af}{od:Option af}{fs:List (ar×V)}{oe:bE}{vs:Array ae}(I:Inv X pins σ H s)(hx:H x=ak)(ke:uT X pins x)(hd:Om H od fs)
(e:s.heap.get? x=aa oe)(h1:oe.cls=.ref C)(h2:oe.dict=od)(h3:oe.data=.fields vs):Inv X pins σ (Oo H x C od fs) s:=by
 cases od with
 |none=>
  refine I.Ol hx ke ⟨oe,vs,e,h1,h3,.inl ⟨h2,hd⟩⟩
 |some dx=>
  have Cg:H dx=aa (zc dx fs):=hd;have ne:dx≠x:=λz=>by rw[z,hx] at Cg;cases Cg
  obtain⟨⟨mA,nn,r,wi⟩,⟨o,ho⟩,_⟩:=(show iQ X.prog X.w H s.heap dx (zc dx fs) from I.iy dx _ Cg);have n4:∀o u,X.gJ dx≠aa (.qv o u):=λo u z=>by have:=I.base.nG dx o u z;rw[Cg] at this;cases this
  have I2:=I.ghost (w':=.own x) Cg (λ_ z=>by cases z) (λ_ z=>by cases z) (λ_ z=>by cases z) n4 ⟨o,ho⟩;refine I2.Ol (by rw[gz (bG ne)];exact hx) ke ⟨oe,vs,e,h1,h3,.inr ⟨dx,mA,h2,ne,?_,nn,r⟩⟩;rw[gz ne,gF]
structure vk(K:W.Frag)(C B:af):Prop where
 c:∃nm q N bs bm jM sn sub ab col dd k0 k1 k2 k3 k5,K.lookup C=aa (cA nm q C N bs bm jM sn sub ab col dd k0 k1 k2 k3 k5 "ValueError.__new__")/\(aD C::bm).contains (.ref B)=ah
 b:∃nm q N bs bm jM sn sub ab col dd k0 k1 k2 k3 k5,K.lookup B=aa (cA nm q B N bs bm jM sn sub ab col dd k0 k1 k2 k3 k5 "ValueError.__new__")/\(aD B::bm).contains (.type "BaseException")=ah
section
variable {X:Cx} {pins:List (af×bE)} {σ:St} {H:Hp} {s:ag} {A:ay} {E:ae->ag->Prop}
theorem wK{x C B:af}{oe:bE}{Q:Bool->ag->Prop}(KX:X.K.In s.heap)(hx:s.heap.get? x=aa oe)(hc:oe.cls=.ref C)(sub:vk X.K C B)(h:Q ah s):wpAny (model X.prog X.w) A (excMatches (.ref x) (.ref B)) Q E s:=by
 obtain⟨nm,q,N,bs,bm,jM,sn,Qq,ab,col,dd,k0,k1,k2,k3,k5,hC,Xb⟩:=sub.c;obtain⟨nm',q',N',bs',bm',TU,sn',Y2,ab',Xg,dd',k0',k1',k2',k3',k5',hB,TR⟩:=sub.b;have hC:=KX _ _ hC;have hB:=KX _ _ hB;have f:=tc_notTuple;obtain⟨hh,g,d,t,os⟩:=s;unfold excMatches;repeat (first|(with_reducible refine b9 hx ?_;rw[hc])|with_reducible refine b9 hB ?_|(with_reducible refine c5 hB ?_;rw[TR])|(with_reducible refine c5 hC ?_;rw[Xb])|wp_step)
 exact h
theorem Hk{x T:af}{C:ae}{od:Option af}{Q:Unit->ag->Prop}(I:Inv X pins σ H s)(hr:Rec s.heap x C od T)(fT:uT X pins T)(hT:H T=ak)(h:∀s',Inv X pins σ H s'->Rec s'.heap x C od T->Q () s'):
  wpAny (model X.prog X.w) A (cY (.ref x) ak) Q E s:=by
 obtain⟨oe,vs,oT,ts,he,h1,h2,h3,h4,ud,F2,h5,h6⟩:=hr;refine wpAny_setFlight_none he h3 h4 F2 h5 (bB.mp h6).1 (h _ (I.wJ (t':=s.toks) (R:=[T]) (λb hb=>by cases bv.mp hb;exact⟨fT,hT⟩) λb o e hb=>?_) ?_)
 ·have:b≠T:=λz=>hb (by simp[z]);have q:=(aw s.heap (aS (·.setIfInBounds 3 .none)) (bG this)).trans e;exact⟨λ_=>q,o.slots,q⟩
 ·refine⟨oe,vs,_,_,(aq.get?_update_ne _ _ _ _ (bG ud)).trans he,h1,h2,h3,h4,ud,bq _ F2 (bP (bF h5 _)),bF h5 _,by simp[du,(bB.mp h6).1]⟩
end
abbrev Cx.wp(X:Cx)(pn:List (af×bE))(E:ae->ag->Prop):Cx:={X with pn:=pn,xe:=E}
section
variable {X:Cx} {pins sH:List (af×bE)} {σ:St} {H:Hp} {s:ag} {E:ae->ag->Prop}
theorem Cx.Ok.wp(ok:X.Ok)(pn:List (af×bE))(E:ae->ag->Prop):(X.wp pn E).Ok:=
 ⟨ok.mod,ok.kind,ok.glob,ok.blt,ok.above,ok.inj,ok.has,ok.NK,ok.hd,ok.frames,ok.OV,ok.Sb,ok.bs,ok.Fp,ok.Bt,ok.Bu,ok.px,ok.HU⟩
theorem Inv.wp(I:Inv X pins σ H s)(E:ae->ag->Prop):Inv (X.wp (X.pn++pins) E) [] σ H s:=
 ⟨I.ok.wp _ _,I.os,I.bare,I.base,I.loc,I.cell,I.free,I.jX,λp hp=>I.pin p (by rw[bj] at hp;exact hp),I.iy,I.len⟩
theorem Inv.rS(ok:X.Ok)(I:Inv (X.wp (X.pn++pins) E) sH σ H s):Inv X pins σ H s:=
 ⟨ok,I.os,I.bare,I.base,I.loc,I.cell,I.free,I.jX,λp hp=>I.pin p (bC _ hp),I.iy,I.len⟩
theorem SP.rS{D:Ends}{f:Flow}{s':ag}(ok:X.Ok)(h:SP (X.wp (X.pn++pins) E) [] D f s'):SP X pins D f s':=by
 cases f with
 |next=>obtain⟨iF,H',I,q⟩:=h;exact⟨iF,H',I.rS ok,q⟩
 |brk=>obtain⟨iF,H',I,q⟩:=h;exact⟨iF,H',I.rS ok,q⟩
 |cont=>obtain⟨iF,H',I,q⟩:=h;exact⟨iF,H',I.rS ok,q⟩
 |ret u=>obtain⟨v,iF,H',I,r,q⟩:=h;exact⟨v,iF,H',I.rS ok,r,q⟩
end
noncomputable def dE(i:Nat)(D:Ends):Ends:=⟨λσ H=>D.nx (σ.set i ak) H,D.rt,λσ H=>D.bk (σ.set i ak) H,λσ H=>D.ct (σ.set i ak) H⟩
section
variable {X:Cx} {i:Nat} {n tn:ar} {tp xY pos:cu} {B:af} {body:List br} {Ey:br} {wL:List br} {tb:XK->TS} {th:TS}
end
section
variable {prog:ao} {w:aE} {A:ay} {E:ae->ag->Prop} {s:ag} {K:W.Frag} {x C:af} {name:ar} {v:ae} {ox:bE} {od:Option bE}
theorem MJ{expr:Bool}{Q:ae->ag->Prop}(X:K.In s.heap)(I:InstAt s.heap x ox C od)(hga:findIn K (.ref C) "__getattribute__"=aa (aa (.builtin "BaseException.__getattribute__")))(hgh:findIn K (.ref C) "__getattr__"=aa ak)
(Xh:subIn K (.ref C) (.type "BaseException")=aa ah)(hf:findObj K C od name=aa (.value v))(hh:handedIn v=ah)(h:Q v {s with toks:=s.toks+1}):wpAny (model prog w) A (aap (.ref x) name expr) Q E s:=by
 have FB:=PySem.F.attrBase_ValueError;have L0:=I.type (M:=model prog w);have L1:=looks_find (M:=model prog w) X I hf;have Qr:Looks (model prog w) s.heap (hookBefore (.ref C)) ak:=looks_hook X (by rw[if_pos (by rfl)];exact hgh);refine aj (wpAny_mkText (b6 (aj (L0 _ _ _ _ (λ_ _ e=>e) (aj (looks_findIn X hga _ _ _ _ (λ_ _ e=>e) ?_))))));dsimp only;have Qo:(ck "BaseException.__getattribute__"==ck "object.__getattribute__")=ai:=by decide+kernel
 rw[show(aaw (aD C)&&ck "BaseException.__getattribute__"==ck "object.__getattribute__")=ai from by rw[Qo,Bool.and_false],if_neg (by decide)];refine aj (Qr _ _ _ _ (λ_ _ e=>e) (aj (fm (b6 ?_))));unfold aax;rw[show(expr&&aaw (ck "BaseException.__getattribute__"))=ai from Bool.and_false _,if_neg (by decide)];unfold aaD;rw[FB.ga.bind];refine aj (az ?_);show wpAny _ _ (call (.builtin "BaseException.__getattribute__") [.ref x,.str name s.toks]) _ _ _;refine cM ?_;refine dF FB.ga.plain PySem.F.entry_bexc_ga ?_;refine@check_slot (model prog w) _ _ {s with toks:=s.toks+1} "BaseException.__getattribute__" "BaseException" "__getattribute__" (.ref x) [.str name s.toks] [] _ (by decide+kernel) (by decide+kernel) (L0.andThen (looks_subIn X Xh)) (PySem.F.args_bexc_ga (.ref x) (.str name s.toks)) ?_;obtain⟨Y3,g,d,t,os⟩:=s;refine aj (az (aj (az (aj (L0.at (aj (L1.at ?_)))))));refine az ?_;show wpAny _ _ (handedOut v) _ _ _;rw[handedOut_of hh];exact az h
end
structure Ci(K:W.Frag)(C:af):Prop where
 hd:hasDictIn K C=ah
 ga:findIn K (.ref C) "__getattribute__"=aa (aa (.builtin "BaseException.__getattribute__"))
 gh:findIn K (.ref C) "__getattr__"=aa ak
 sb:subIn K (.ref C) (.type "BaseException")=aa ah
 cl:findIn K (.ref C) "__class__"=aa (aa (.builtin "object.__class__"))
 cg:specialIn K (.builtin "object.__class__") "__get__"=aa (aa (.builtin "getset_descriptor.__get__"))
 tk:takesIn K (.builtin "object.__class__")=aa ah
 ob:mroIn K C (.type "object")=aa ah
section
variable {prog:ao} {w:aE} {A:ay} {E:ae->ag->Prop} {s:ag} {K:W.Frag} {x C:af} {ox:bE} {od:Option bE}
theorem Hl{Q:Option ae->ag->Prop}(G:Ci K C)(X:K.In s.heap)(I:InstAt s.heap x ox C od)(h:Q (aa (.ref C)) {s with toks:=s.toks+1}):wpAny (model prog w) A (getAttr? (.ref x) "__class__") Q E s:=by
 have FB:=PySem.F.attrBase_ValueError;have hf:findObj K C od "__class__"=aa (.bind (.builtin "getset_descriptor.__get__") (.builtin "object.__class__")):=by obtain⟨cd,hc,_⟩:=any_some G.hd;unfold findObj;rw[hc,Option.bind_some,G.cl,Option.bind_some];dsimp only;rw[G.cg,Option.bind_some];dsimp only;rw[G.tk];rfl
 have L0:=I.type (M:=model prog w);have L1:=looks_find (M:=model prog w) X I hf;have Qr:Looks (model prog w) s.heap (hookBefore (.ref C)) ak:=looks_hook X (by rw[if_pos (by rfl)];exact G.gh);unfold getAttr? getAttrBy?;refine aj (wpAny_mkText (aj (fm ?_)));unfold getAttrBy;refine b6 (aj (L0 _ _ _ _ (λ_ _ e=>e) (aj (looks_findIn X G.ga _ _ _ _ (λ_ _ e=>e) ?_))));dsimp only;have Qo:(ck "BaseException.__getattribute__"==ck "object.__getattribute__")=ai:=by decide+kernel
 rw[show(aaw (aD C)&&ck "BaseException.__getattribute__"==ck "object.__getattribute__")=ai from by rw[Qo,Bool.and_false],if_neg (by decide)];refine aj (Qr _ _ _ _ (λ_ _ e=>e) (aj (fm (b6 ?_))));unfold aax;rw[if_neg (by decide)];unfold aaD;rw[FB.ga.bind];refine aj (az ?_);show wpAny _ _ (call (.builtin "BaseException.__getattribute__") [.ref x,.str "__class__" s.toks]) _ _ _;refine cM ?_;refine dF FB.ga.plain PySem.F.entry_bexc_ga ?_;refine@check_slot (model prog w) _ _ {s with toks:=s.toks+1} "BaseException.__getattribute__" "BaseException" "__getattribute__" (.ref x) [.str "__class__" s.toks] [] _ (by decide+kernel) (by decide+kernel) (L0.andThen (looks_subIn X G.sb)) (PySem.F.args_bexc_ga (.ref x) (.str "__class__" s.toks)) ?_;obtain⟨Y3,g,d,t,os⟩:=s;refine aj (az (aj (az (aj (L0.at (aj (L1.at ?_)))))));show wpAny _ _ (holding [ck "object.__class__"] (call (.builtin "getset_descriptor.__get__") [.builtin "object.__class__",.ref x,.ref C]) >>= ret) _ _ _;refine aj (b6 (cM (class_get (s:=⟨Y3,g,d,t+1,os⟩) (ox:=ox) (od:=od) X I G.ob ?_)));refine az ?_;show wpAny _ _ (handedOut (.ref C)) _ _ _;rw[handedOut_of rfl];exact az (az h)
theorem Ka(G:Ci K C):KitX K (.ref x) (.ref C) (λh=>InstAt h x ox C od) where
 ty:=λ_ _ _ I=>I.type
 it:=λ_ _ X _=>by
  obtain⟨cdD,GY,_⟩:=any_some G.hd;unfold clsIn at GY;split at GY
  ·rename_i c' d' cd' NJ ho;intro A' Q' E' s' k q;unfold isType loadHead;exact aj (fe (k _ _ (X _ _ ho)) (az q))
  ·cases GY
 ne:=λh tp dd hX n sl X htp=>by
  obtain⟨cdD,GY,_⟩:=any_some G.hd;refine Bool.eq_false_iff.mpr λq=>?_;have e:C=tp:=aD.inj (beq_iff_eq.mp q);subst e;unfold clsIn at GY;split at GY
  ·rename_i c' d' cd' NJ ho;have z:=(X _ _ ho).symm.trans htp;cases z
  ·cases GY
 ca:=λX I k=>Hl G X I k
end
section
variable {X:Cx} {pins:List (af×bE)} {σ:St} {H:Hp} {s:ag} {o:aM} {ta:TE} {f:ar} {pos:cu}
theorem Inv.excAt{a C:af}{fs:List (ar×V)}{f:ar}(I:Inv X pins σ H s)(ea:H a=aa (.xc C fs)):
  ∃ox oo,InstAt s.heap a ox C oo/\∀v,fs.lookup f=aa v->∃u d,oo=aa d/\lookIn f d=aa (aa u)/\RelV v u:=by
 obtain⟨oe,vs,he,h1,h3,h4⟩:=(show iQ X.prog X.w H s.heap a (.xc C fs) from I.iy a _ ea);obtain⟨oc,odd,Y0,uH⟩:=oe;cases h1;cases h3;rcases h4 with⟨h4,rfl⟩|⟨dx,mA,h4,ne,ho,nn,r⟩
 ·cases(show odd=ak from h4);exact⟨_,ak,⟨he,rfl,rfl,trivial⟩,λv e=>by cases e⟩
 ·cases(show odd=aa dx from h4);obtain⟨d,hd1,U8⟩:=yE nn;refine⟨_,aa d,⟨he,rfl,rfl,hd1⟩,λv e=>?_⟩;have q:=r f;rw[e] at q;cases z:mA f with
  |none=>rw[z] at q;exact q.elim
  |some u=>rw[z] at q;exact⟨u,d,rfl,by rw[U8,z],q⟩
def TV (K:W.Frag)(ta:TE)(f:ar):TE:=λσ H Q=>ta σ H λx H1=>∃a C fs v,x=.ref a/\H1 a=aa (.xc C fs)/\Ci K C/\jZ K C f/\fs.lookup f=aa v/\Q v H1
theorem MK(he:PE X o ta)(hb:cE o f X.env (eval o X.env)=eval o X.env):PE X (.Attribute o f pos) (TV X.K ta f):=by intro pins s σ H Q I h;refine Fz hb (ja (he pins s σ H _ I h) λu s1 zq=>?_);obtain⟨x,H1,I1,rx,a,C,fs,v,ex,ea,G,na,hl,q⟩:=zq;subst ex;obtain rfl:u=aD a:=rx;obtain⟨ox,oo,J,L⟩:=I1.excAt (f:=f) ea;obtain⟨u,d,rfl,hlk,rv⟩:=L v hl;exact MJ I1.pD J G.ga G.gh G.sb (findObj_own G.hd na rfl hlk) (yF rv) ⟨v,H1,I1.tk _,rv,q⟩
theorem ML{A:ay}{E:ae->ag->Prop}{a C:af}{fs:List (ar×V)}{c:ae}{b:Bool}{Q:ae->ag->Prop}(I:Inv X pins σ H s)(ea:H a=aa (.xc C fs))(G:Ci X.K C)(e:kitOne X.K (.ref C) c=aa b)
(h:∀tk,Q (.bool b) {s with toks:=tk}):wpAny (model X.prog X.w) A (call (.builtin "isinstance") [.ref a,c]) Q E s:=by obtain⟨ox,oo,J,_⟩:=I.excAt (f:=("":ar)) ea;exact kia_one (Ka G) I.pD J e (λz=>nomatch z) h
end
abbrev XS:=St->XK
def oC (X:Cx)(E:XS):Prop:=∀(pins:List (af×bE)) (σ:St) (H:Hp) (s:ag) (e:ae) (s':ag),Inv X pins σ H s->Bm X.prog X.w X.stack H s (E σ) e s'->X.xe e s'
section
variable {P:ao} {w:aE} {K:W.Frag} {mg:ar->Option ae} {base:aq} {N:List ar} {qual:ar} {scope:bJ} {f:af} {cd:ae} {A:ay} {outer:List cz} {gG:ag} {gJ:Hp} {E:XK}
theorem pZ:oC (la P w K mg base N qual scope f cd A outer gG gJ E) λ_=>E:=λpins σ H s e s' I h=>TD pins σ H s e s' I h
end
section
variable {X:Cx} {k:Nat} {f C:af} {fd:bz} {ps:List ar} {sp:Sp} {E:XS} {x m:ar} {p pos apos:cu} {e o:aM} {es:List aM} {ta:TE} {t:TA}
theorem F5{pins:List (af×bE)}{σ:St}{H:Hp}{s:ag}{Q:VK}{us:List ae}{vs:List V}(F:iW X.prog X.w X.K X.mg X.base (Bm X.prog X.w) k f fd ps sp)(hr:iG k X.A)(hb:Binds X.K fd ps [])(hx:oC X E)
(I:Inv X pins σ H s)(r:Vals vs us)(h:sp vs H Q (E σ)):wpAny (model X.prog X.w) X.A (call (.ref f) us) (EP X pins σ Q) X.xe s:=by
 have hl:us.length=ps.length:=by rw[<-r.length];exact F.len _ _ _ _ h
 have hB:=hb s us I.pD (by rw[bj];exact hl);rw[bj] at hB;refine cM (cr (F.run X.A X.stack s H ⟨us,[]⟩ us vs Q (E σ) hr I.GZ hB r h) λr s' hq=>?_);cases r with
 |error e=>exact hx pins σ H s e s' I hq
 |ok fl=>
  cases fl with
  |ret u=>exact I.after hq
  |next=>exact bu hq
  |brk=>exact bu hq
  |cont=>exact bu hq
def Kb (sp:Sp)(E:XS)(t:TA):TE:=λσ H Q=>t σ H λvs H1=>sp vs H1 Q (E σ)
def sV (P:ao)(w:aE)(K:W.Frag)(mg:ar->Option ae)(base:aq)(k:Nat)(x:ar)(ps:List ar)(sp:Sp):Prop:=
 ∃f fd,mg x=aa (.ref f)/\W.keepIn K (.ref f)=ah/\Binds K fd ps []/\iW P w K mg base (Bm P w) k f fd ps sp
theorem Qs(h:sV X.prog X.w X.K X.mg X.base k x ps sp)(hr:iG k X.A)(hx:oC X E)(ha:PA X (e::es) t)(hg:Gl X x:=by rfl)(ni:(x==("__debug__":ar))=ai:=by decide)
(he:av (e::es) X.env=(ai,eval e X.env)::av es X.env:=by rfl)(kC:(bN pos (av es X.env)).any (·.1)=ai:=by rfl):
  PE X (.Call (.Name x p) (e::es) [] pos) (Kb sp E t):=by obtain⟨f,fd,m,kp,b,F⟩:=h;intro pins s σ H Q I h;refine b2 (lW I hg m ?_ ni);refine W.callWith_K (h₀:=X.base) I.ok.mod.DU kp (ja (ha pos pins s σ H _ I h) λus s1 ⟨vs,H1,I1,r,q⟩=>⟨I1.pD,?_⟩) he kC;exact F5 F hr b hx I1 r q
end
section
variable {P:ao} {w:aE} {K:W.Frag} {mg:ar->Option ae} {base:aq}
theorem sV.mono{j k:Nat}{x:ar}{ps:List ar}{sp:Sp}(h:sV P w K mg base j x ps sp)(Jd:j<=k):sV P w K mg base k x ps sp:=by obtain⟨f,fd,m,kp,b,F⟩:=h;exact⟨f,fd,m,kp,b,F.mono Jd⟩
theorem sV.imp{k:Nat}{x:ar}{ps:List ar}{sp IH:Sp}(h:sV P w K mg base k x ps sp)(i:∀vs H Q E,IH vs H Q E->sp vs H Q E):sV P w K mg base k x ps IH:=by obtain⟨f,fd,m,kp,b,F⟩:=h;exact⟨f,fd,m,kp,b,F.imp i⟩
theorem hW.Xi{x:ar}{st:br}{N ps:List ar}{k:Nat}{sp:Sp}{body:List br}{scope:bJ}(F:hW K mg x st)(eb:g6 st=body)(es:gM st=scope)(S:gL N ps scope)
(hb:∀(kV doc pm:ae) (an:Option af) (g8 ct:ae) (us:List ae),us.length=ps.length->c7 (W.fnOf x x (jf st) (g6 st) (gM st) .none kV doc pm an g8 ct) ⟨us,[]⟩=pure (ps.zip us))
(len:∀vs H Q E,sp vs H Q E->vs.length=ps.length)
(lw:∀(f:af) (g8:ae) (A:ay) (outer:List cz) (s:ag) (H:Hp) (vs:List V) (Q:VK) (E:XK),iG k (A.deeper (cy x scope s.heap.objs.size f g8))->sp vs H Q E->
   ∃t,pH (la P w K mg base N x scope f g8 A outer s H E) body t/\t {nx:=λ_ H'=>Q .non H',rt:=Q} (start N vs) H):sV P w K mg base (k+1) x ps sp:=by subst eb es;obtain⟨f,fd,F,m⟩:=F;refine⟨f,fd,m,F.kp,F.binds hb,?_⟩;obtain⟨oc,od,kV,doc,pm,an,g8,ct,uH,rfl,lk,pE⟩:=F.ex;exact FC lk pE S len λA outer s H vs Q E hr zL=>lw f g8 A outer s H vs Q E hr zL
end
def Al (H:Hp)(od:Option af):Prop:=∀dx,od=aa dx->∀q,H dx≠aa (L2.BL dx q)
def TW (K:W.Frag)(i:Nat)(B:af)(tb:XS->TS)(th:TS):TS:=λD σ H=>
 tb (λiF C od H'=>∃c fs,C=.ref c/\vk K c B/\Om H' od fs/\∀x,H' x=ak->Al H' od->th (dE i D) (iF.set i (aa (.ref x))) (Oo H' x c od fs)) D σ H
theorem Inv.Qt{X:Cx}{pins:List (af×bE)}{σ:St}{H:Hp}{s:ag}{od:Option af}{fs:List (ar×V)}(I:Inv X pins σ H s)(h:Om H od fs):Al H od:=λdx e q z=>by subst e;obtain⟨⟨mA,nn,_,_⟩,_⟩:=(show iQ X.prog X.w H s.heap dx (zc dx fs) from I.iy dx _ h);obtain⟨c,_⟩:=(show iQ X.prog X.w H s.heap dx (L2.BL dx q) from I.iy dx _ z);obtain⟨c',oc,vs,t,e,n2,n3,_⟩:=c;cases e;obtain⟨o,es,ep,n1⟩:=nn;rw[n1.1] at n2;cases n2;rw[n1.2.1] at n3;cases n3
section
variable {X:Cx} {i:Nat} {n tn:ar} {tp xY pos:cu} {B:af} {body:List br} {Ey:br} {wL:List br} {tb:XS->TS} {th:TS}
theorem MN(l8:X.stack=X.env::X.outer)(wG:X.env.frame=aa X.env.locals)(hN:X.N.Nodup)(hi:X.N[i]?=aa n)(hk:X.env.kindOf n=aa .local)(Hc:Loc X.env.scope n)(hf:X.fn n=ah\/X.env.scope.names.lookup n=aa .local)
(hg:Gl X tn)(hm:X.mg tn=aa (.ref B))(ni:(tn==("__debug__":ar))=ai)
(hb:∀(pn:List (af×bE)) (E':ae->ag->Prop) (Ex:XS),oC (X.wp pn E') Ex->pH (X.wp pn E') body (tb Ex))
(hh:∀e,pH (X.DN e) (Ey::wL) th):
  PS X (.Try body [.ExceptHandler (aa (.Name tn tp)) (aa n) (Ey::wL) xY] [] [] pos) (TW X.K i B tb th):=by
 intro pins s σ H D I h;refine aay ?_;have len:=I.len;have zd:=I.ok;refine bR (hb (X.pn++pins) (λe ik=>wpAny (model X.prog X.w) X.A (cT e X.env) (λ_ xR=>wpAny (model X.prog X.w) X.A (cY e ak) (λ_ wa=>wpAny (model X.prog X.w) X.A (handleBy e X.env [.ExceptHandler (aa (.Name tn tp)) (aa n) (Ey::wL) xY]) (SP X pins D) X.xe wa) X.xe xR) X.xe ik)
  (λiF C od H'=>∃c fs,C=.ref c/\vk X.K c B/\Om H' od fs/\∀x,H' x=ak->Al H' od->th (dE i D) (iF.set i (aa (.ref x))) (Oo H' x c od fs)) ?_ [] s σ H D (I.wp _) h) (λf s1 q=>?_) λe s1 q=>q
 ·intro sH DC H1 s1 e s' I1 hc;obtain⟨x,C,od,H',T,rfl,ho,Xj,u,iy,hr,hx,hT,DL,J0,c,fs,rfl,sub,Y4,Xk⟩:=hc;have I2:=I1.uE (ch:=[]) ho u iy Xj (λb hb=>by cases hb);have fx:=I1.ke hx;have fT:=I1.ke hT;have Xl:X.A.frames=aa (X.env::X.outer):=by rw[<-l8];exact zd.frames
  have Xm:s'.heap.FunFrames X.base (X.env::X.outer):=by rw[<-l8];exact I2.stack
  refine yZ Xl Xm wG hr λh' T' F2 Bn hL=>?_;have hL':Left (oi X.stack) [x,T] s'.heap h':=by rw[l8];exact hL
  have I3:Inv (X.wp (X.pn++pins) _) sH DC H' {s' with heap:=h'}:=I2.wJ (t':=s'.toks) (R:=[x,T]) (λb hb=>by
   rcases ba.mp hb with rfl|hb
   ·exact⟨fx,DL⟩
   ·cases bv.mp hb;exact⟨fT,J0⟩) hL'
  have MP:=I2.ke F2;have Qu:H' T'=ak:=I2.iy.fresh F2;have J:Inv X pins DC H' {s' with heap:=h'}:=I3.rS zd;have gx:uT X pins x:=⟨fx.s0,fx.lo,fx.ce,λp hp=>fx.pi p (bC _ hp)⟩;have gT:uT X pins T':=⟨MP.s0,MP.lo,MP.ce,λp hp=>MP.pi p (bC _ hp)⟩;have Bn:Rec ({s' with heap:=h'}:ag).heap x (.ref c) od T':=Bn;generalize ({s' with heap:=h'}:ag)=s3 at J Bn ⊢;have J':=J.DN (.ref x);refine f7 (fV (lW (X:=X.DN (.ref x)) J' hg hm ?_ ni)) (by intro q;cases q);have Ib:=Bn;obtain⟨oe,vs,oT,ts,he,Xn,U7,_⟩:=Ib;refine wK (X:=X) J.pD he Xn sub ?_;refine codeAny_handlers_suite_as (Hk (X:=X) J Bn gT Qu λs4 J4 r4=>?_);refine yA (X:=X) J4 hN hi Hc (v:=.ref x) rfl (λs5 J5 ⟨a,hs,ha⟩=>?_) hf;have hxa:x≠a:=by
   rcases ha with rfl|ha
   ·exact gx.lo
   ·exact bG (gx.ce _ a ha)
  have J6:Inv X pins (DC.set i (aa (.ref x))) (Oo H' x c od fs) s5:=by obtain⟨oe,vs,_,_,e,h1,h2,h3,_⟩:=r4;exact J5.Ew DL gx Y4 ((hs.2 x hxa).trans e) h1 h2 h3
  refine bR (hh (.ref x) pins s5 _ _ (dE i D) (J6.DN _) (Xk x DL (J.Qt Y4))) (λf s6 q=>?_) λ_ _ z=>z.elim;show wpAny (model X.prog X.w) X.A (do bindName X.env n .none;f6 X.env n xY) (λ_ s7=>SP X pins D f s7) X.xe s6;cases f with
  |next=>obtain⟨iF,H2,I',q⟩:=q;exact sU (I'.Ch zd) hN hi hk λs7 J7=>⟨_,H2,J7,q⟩
  |brk=>obtain⟨iF,H2,I',q⟩:=q;exact sU (I'.Ch zd) hN hi hk λs7 J7=>⟨_,H2,J7,q⟩
  |cont=>obtain⟨iF,H2,I',q⟩:=q;exact sU (I'.Ch zd) hN hi hk λs7 J7=>⟨_,H2,J7,q⟩
  |ret u=>obtain⟨v,iF,H2,I',r,q⟩:=q;exact sU (I'.Ch zd) hN hi hk λs7 J7=>⟨v,_,H2,J7,r,q⟩
 ·cases f with
  |next=>
   obtain⟨iF,H',I',q⟩:=q;exact dJ ⟨iF,H',I'.rS zd,q⟩
  |brk=>exact SP.rS (f:=.brk) zd q
  |cont=>exact SP.rS (f:=.cont) zd q
  |ret u=>exact SP.rS (f:=.ret u) zd q
end
end L2
namespace L3
open PySem PySem.Spec PyProof.Rows L2
structure EX where
 C:af
 ns:List ar
 ds:List D
abbrev uU:=EX->kZ->Ms->Prop
def uU.le(x y:uU):Prop:=∀e δ M,x e δ M->y e δ M
theorem uU.rfl(x:uU):x.le x:=λ_ _ _ h=>h
abbrev xK(K:W.Frag)(F α:List af)(H:Hp)(M:Ms)(E:XS):uU:=λx jY M'=>∀iF gS H' od vs,Ext F α H M gS H' M'->R K F gS H' iF jY M'->x.ns.length=x.ds.length->Om H' od (x.ns.zip vs)->gu K gS (iS F gS M' H') x.ds vs->E iF (.ref x.C) od H'
theorem xK.grow{K:W.Frag}{F α gS:List af}{H H':Hp}{M M':Ms}{E:XS}(e:Ext F α H M gS H' M'):uU.le (xK K F α H M E) (xK K F gS H' M' E):=λx δ uL h Bz lR H2 od vs e2=>h Bz lR H2 od vs (e.trans e2)
abbrev XE:=uU->DE
abbrev XA:=uU->DA
abbrev XB:=uU->DS
def lEX (K:W.Frag)(E:XS)(t:XE):TE:=λσ H Q=>∃F α δ M,R K F α H σ δ M/\t (xK K F α H M E) δ M (vK K F α H M Q)
def lAX (K:W.Frag)(E:XS)(t:XA):TA:=λσ H Q=>∃F α δ M,R K F α H σ δ M/\t (xK K F α H M E) δ M (aK K F α H M Q)
def Vr (K:W.Frag)(E:XS)(t:XB):TS:=λD σ H=>∃F α δ M,R K F α H σ δ M/\t (xK K F α H M E) (ly K F α H M D) δ M
structure Ic(X:Cx)(E:XS)(e:aM)(t:XE):Prop where
 mono:∀(x y:uU) δ M (P Q:DK),x.le y->(∀d M,P d M->Q d M)->t x δ M P->t y δ M Q
 p:PE X e (lEX X.K E t)
structure Qv(X:Cx)(E:XS)(es:List aM)(t:XA):Prop where
 mono:∀(x y:uU) δ M (P Q:List D->Ms->Prop),x.le y->(∀d M,P d M->Q d M)->t x δ M P->t y δ M Q
 p:PA X es (lAX X.K E t)
structure Kc(X:Cx)(E:XS)(st:br)(t:XB):Prop where
 mono:∀(x y:uU) (P Q:iE) δ M,x.le y->P.le Q->t x P δ M->t y Q δ M
 p:PS X st (Vr X.K E t)
structure F6(X:Cx)(E:XS)(st:List br)(t:XB):Prop where
 mono:∀(x y:uU) (P Q:iE) δ M,x.le y->P.le Q->t x P δ M->t y Q δ M
 p:pH X st (Vr X.K E t)
section
variable {X:Cx} {E:XS} {c e:aM} {te:XE} {tt:XA} {tA:DT} {t u:XB} {pos p p2:cu} {x:ar} {st:br} {DJ as bs:List br} {es:List aM}
theorem JE.kX{t:DE}(h:JE X e t):Ic X E e λ_=>t:=⟨λx y δ M P Q _ w q=>h.mono _ _ _ _ w q,h.p⟩
theorem JA.kX{t:DA}(h:JA X es t):Qv X E es λ_=>t:=⟨λx y δ M P Q _ w q=>h.mono _ _ _ _ w q,h.p⟩
theorem JS.kX{t:DS}(h:JS X st t):Kc X E st λ_=>t:=⟨λx y P Q δ M _ w q=>h.mono _ _ _ _ w q,h.p⟩
theorem rJ.kX{t:DS}(h:rJ X DJ t):F6 X E DJ λ_=>t:=⟨λx y P Q δ M _ w q=>h.mono _ _ _ _ w q,h.p⟩
def wM (te:XE)(tt:XA):XA:=λx=>gp (te x) (tt x)
theorem nN(ha:Ic X E e te)(hr:Qv X E es tt)(hs:av (e::es) X.env=(ai,eval e X.env)::av es X.env:=by rfl):Qv X E (e::es) (wM te tt):=by refine⟨λx y δ M P Q v w q=>ha.mono _ _ δ _ _ _ v (λd M1 q=>hr.mono _ _ δ _ _ _ v (λxs M2 q=>w _ _ q) q) q,PA.weak (vE ha.p hr.p hs) λσ H Q q=>?_⟩;obtain⟨F,α,δ,M,r,q⟩:=q;refine⟨F,α,δ,M,r,ha.mono _ _ δ _ _ _ (uU.rfl _) (λd M1 q v gU H1 e1 o1 r1=>⟨F,gU,δ,M1,r.grow e1 o1,hr.mono _ _ δ _ _ _ (xK.grow e1) (λds M2 q vs lR H2 e2 o2 r2=>?_) q⟩) q⟩;exact q (v::vs) lR H2 (e1.trans e2) o2 (gu.cons (e2.rep r1) r2)
abbrev t6:=List D->(D->Prop)->(EX->Prop)->Prop
abbrev nO(g:t6):Prop:=∀ds (P Q:D->Prop) (x y:EX->Prop),(∀d,P d->Q d)->(∀e,x e->y e)->g ds P x->g ds Q y
abbrev yK(K:W.Frag)(F α:List af)(H:Hp)(M:Ms)(E:XK):EX->Prop:=λx=>∀H' od vs,Ext F α H M α H' M->OK K F α H' M->x.ns.length=x.ds.length->Om H' od (x.ns.zip vs)->gu K α (iS F α M H') x.ds vs->E (.ref x.C) od H'
def rT (K:W.Frag)(g:t6):Sp:=λvs H Q E=>∃F α M ds,OK K F α H M/\gu K α (iS F α M H) ds vs/\nK ds=ah/\g ds (λd=>vK K F α H M Q d M) (yK K F α H M E)
structure ze(P:ao)(w:aE)(K:W.Frag)(mg:ar->Option ae)(base:aq)(k:Nat)(x:ar)(ps:List ar)(g:t6):Prop where
 mono:nO g
 p:sV P w K mg base k x ps (rT K g)
def RV (g:t6)(tt:XA):XE:=λx δ M Q=>tt x δ M λds M1=>nK ds=ah/\g ds (λd=>Q d M1) λe=>x e δ M1
theorem Op{k:Nat}{ps:List ar}{g:t6}(h:ze X.prog X.w X.K X.mg X.base k x ps g)(hr:iG k X.A)(hx:oC X E)(ha:Qv X E (e::es) tt)(hg:Gl X x:=by rfl)(ni:(x==("__debug__":ar))=ai:=by decide)
(he:av (e::es) X.env=(ai,eval e X.env)::av es X.env:=by rfl)(kC:(bN pos (av es X.env)).any (·.1)=ai:=by rfl):Ic X E (.Call (.Name x p) (e::es) [] pos) (RV g tt):=by refine⟨λx y δ M P Q v w q=>ha.mono _ _ δ _ _ _ v (λds M1 q=>⟨q.1,h.mono _ _ _ _ _ (λd q=>w _ _ q) (λe q=>v _ _ _ q) q.2⟩) q,PE.weak (Qs h.p hr hx ha.p hg ni he kC) λσ H Q q=>?_⟩;obtain⟨F,α,δ,M,r,q⟩:=q;refine⟨F,α,δ,M,r,ha.mono _ _ δ _ _ _ (uU.rfl _) (λds M1 q vs gU H1 e1 o1 r1=>?_) q⟩;exact⟨F,gU,M1,ds,o1,r1,q.1,h.mono _ _ _ _ _ (λd q=>vK.grow e1 _ _ q) (λex q H2 od ws e2 o2 l hx hr=>q σ gU H2 od ws (e1.trans e2) ((r.grow e1 o1).grow e2 o2) l hx hr) q.2⟩
def jw (t u:XB):XB:=λx=>gN (t x) (u x)
theorem hZ(h:Kc X E st t):F6 X E [st] t:=⟨h.mono,Fx h.p⟩
theorem gY(h1:Kc X E st t)(h2:F6 X E DJ u):F6 X E (st::DJ) (jw t u):=by refine⟨λx y P Q δ M v w q=>h1.mono _ _ {P with nx:=u x P} {Q with nx:=u y Q} _ _ v ⟨λδ M q=>h2.mono _ _ _ _ _ _ v w q,w.rt,w.bk,w.ct⟩ q,pH.weak (sI h1.p h2.p) λD σ H q=>?_⟩;obtain⟨F,α,δ,M,r,q⟩:=q;refine⟨F,α,δ,M,r,h1.mono _ _ _ _ _ _ (uU.rfl _) ?_ q⟩;exact⟨λt5 M1 q DC gU H1 e1 r1=>⟨F,gU,t5,M1,r1,h2.mono _ _ _ _ _ _ (xK.grow e1) (ly.grow e1) q⟩,λ_ _ q=>q,λ_ _ q=>q,λ_ _ q=>q⟩
def Ez (te:XE):XB:=λx=>ip (te x)
theorem qC(he:Ic X E e te):Kc X E (.Return (aa e) pos) (Ez te):=
 ⟨λx y P Q δ M v w q=>he.mono _ _ δ _ _ _ v w.rt q,PS.weak (Io he.p) λD σ H ⟨F,α,δ,M,r,q⟩=>⟨F,α,δ,M,r,q⟩⟩
def xO (c:DT)(t u:XB):XB:=λx=>iC c (t x) (u x)
theorem kG(hc:JT X c tA)(ha:F6 X E as t)(hb:F6 X E bs u):Kc X E (.If c as bs pos) (xO tA t u):=by
 refine⟨λx y P Q δ M v w q=>hc.mono δ _ _ _ (λb M1 q=>?_) q,PS.weak (NP hc.p ha.p hb.p) λD σ H q=>?_⟩
 ·cases b with
  |true=>rw[if_pos rfl] at q ⊢;exact ha.mono _ _ _ _ _ _ v w q
  |false=>rw[if_neg ap] at q ⊢;exact hb.mono _ _ _ _ _ _ v w q
 ·obtain⟨F,α,δ,M,r,q⟩:=q;refine⟨F,α,δ,M,r,hc.mono δ _ _ _ (λb M1 q gU H1 e1 o1=>?_) q⟩;cases b with
  |true=>
   rw[if_pos rfl] at q;show(if ah=ah then _ else _);rw[if_pos rfl];exact⟨F,gU,δ,M1,r.grow e1 o1,ha.mono _ _ _ _ _ _ (xK.grow e1) (ly.grow e1) q⟩
  |false=>
   rw[if_neg ap] at q;show(if ai=ah then _ else _);rw[if_neg ap];exact⟨F,gU,δ,M1,r.grow e1 o1,hb.mono _ _ _ _ _ _ (xK.grow e1) (ly.grow e1) q⟩
def Kd (te:XE):XB:=λx=>lz (te x)
theorem Cj(he:Ic X E e te)(hs:cW e ak pos.line X.env=pure ai:=by rfl):Kc X E (.Expr e pos) (Kd te):=by refine⟨λx y P Q δ M v w q=>he.mono _ _ δ _ _ _ v (λd M1 q=>w.nx _ _ q) q,PS.weak (zF he.p hs) λD σ H q=>?_⟩;obtain⟨F,α,δ,M,r,q⟩:=q;exact⟨F,α,δ,M,r,he.mono _ _ δ _ _ _ (uU.rfl _) (λd M1 q v gU H1 e1 o1 r1=>q σ gU H1 e1 (r.grow e1 o1)) q⟩
def Ke (i:Nat)(te:XE):XB:=λx=>ib i (te x)
theorem Am(i:Nat)(hN:X.N.Nodup)(he:Ic X E e te)(hi:X.N[i]?=aa x:=by rfl)(hx:Loc X.env.scope x:=by first|exact df rfl|exact cG rfl)(hs:cW e (aa (.Name x p)) pos.line X.env=pure ai:=by rfl)
(hf:X.fn x=ah\/X.env.scope.names.lookup x=aa .local:=by first|exact .inl rfl|exact .inr rfl|assumption):Kc X E (.Assign [.Name x p] e pos) (Ke i te):=by refine⟨λx y P Q δ M v w q=>he.mono _ _ δ _ _ _ v (λd M1 q=>w.nx _ _ q) q,PS.weak (Iv hN hi hx he.p hs hf) λD σ H q=>?_⟩;obtain⟨F,α,δ,M,r,q⟩:=q;exact⟨F,α,δ,M,r,he.mono _ _ δ _ _ _ (uU.rfl _) (λd M1 q v gU H1 e1 o1 r1=>q _ gU H1 e1 ((r.grow e1 o1).set r1)) q⟩
def MQ (te:XE)(g:DG):XB:=λx=>qQ (te x) g
theorem F7{tg:aM}{g:DG}(he:Ic X E e te)(hg:JG X tg g)(hs:fi [tg] e pos.line X.env=pure ai:=by rfl)(hw:fj [tg] e X.env=pure ak:=by rfl)
(h1:(cD [tg] X.env).map (·.2)=[assign tg X.env]:=by rfl):Kc X E (.Assign [tg] e pos) (MQ te g):=by refine⟨λx y P Q δ M v w q=>he.mono _ _ δ _ _ _ v (λd M1 q=>hg.mono _ _ _ _ _ w.nx q) q,PS.weak (Iu he.p hg.p hs hw h1) λD σ H q=>?_⟩;obtain⟨F,α,δ,M,r,q⟩:=q;refine⟨F,α,δ,M,r,he.mono _ _ δ _ _ _ (uU.rfl _) (λd M1 q v gU H1 e1 o1 r1=>?_) q⟩;exact⟨F,gU,δ,M1,d,r.grow e1 o1,r1,hg.mono _ _ _ _ _ (sK.grow e1) q⟩
end
def nP (n m:Nat)(tb:XB):t6:=λds Q Ex=>ds.length=m/\tb (λe _ _=>nK e.ds=ah/\Ex e) ⟨λ_ _=>Q .non,λd M'=>nl (fz M' d)=ah/\Q (fz M' d),λ_ _=>False,λ_ _=>False⟩ (k9 n ds) []
section
variable {P:ao} {w:aE} {K:W.Frag} {mg:ar->Option ae} {base:aq}
theorem Hm{n m:Nat}{tb:XB}(hb:∀(x y:uU) (P Q:iE) δ M,x.le y->P.le Q->tb x P δ M->tb y Q δ M):nO (nP n m tb):=λds P Q x y w v q=>⟨q.1,by
 refine hb _ _ _ _ _ _ (λe _ _ q=>⟨q.1,v _ q.2⟩) ?_ q.2;exact⟨λ_ _ q=>w _ q,λ_ _ q=>⟨q.1,w _ q.2⟩,λ_ _ q=>q,λ_ _ q=>q⟩⟩
theorem F8{n:List ar}{ps:List ar}{X:Cx}{body:List br}{tb:XB}{E:XK}(hJ:F6 X (λ_=>E) body tb){H:Hp}{vs:List V}{Q:VK}(hK:X.K=K)(h:rT K (nP n.length ps.length tb) vs H Q E):
  ∃t,pH X body t/\t {nx:=λ_ H'=>Q .non H',rt:=Q} (L2.start n vs) H:=by
 subst hK;obtain⟨F,α,M,ds,o,r,hn,hl,q⟩:=h;have o0:OK X.K (lv α M++F) [] H []:=⟨rfl,List.nodup_nil,λa ha=>⟨by simp,by
  rcases bi.mp ha with ha|ha
  ·exact o.N6 a ha
  ·exact(o.fr a ha).2⟩,λa ha=>(by simp at ha),λk x h=>(by simp at h),o.tb⟩
 have r0:gu X.K [] (iS (lv α M++F) [] [] H) ds vs:=gu.nl ds vs hn r;refine⟨_,hJ.p,lv α M++F,[],k9 n.length ds,[],vJ o0 r0,?_⟩;refine hJ.mono _ _ _ _ _ _ (λe jY M' ⟨nl,qe⟩ iF gS H' od ws ext r' l xd rp=>?ex) ?le q;case ex=>
  obtain⟨e1,o1⟩:=mf o ext r'.ok;exact qe H' od ws e1 o1 l xd (gu.nl _ _ nl (gu.mono (aQ _) oA _ _ rp))
 case le=>
  refine⟨λδ M' q iF gS H' e r=>?_,λd M' q v gS H' e o' r=>?_,λ_ _ q=>q.elim,λ_ _ q=>q.elim⟩
  ·obtain⟨e1,o1⟩:=mf o e r.ok;exact q _ α H' e1 o1 lX
  ·obtain⟨e1,o1⟩:=mf o e o';exact q.2 v α H' e1 o1 (Rep.nl _ _ q.1 (Jn o' d v r))
theorem Oq{k:Nat}{x:ar}{ps:List ar}{g g':t6}(h:sV P w K mg base k x ps (rT K g))(m:nO g')(i:∀ds Q y,g' ds Q y->g ds Q y):ze P w K mg base k x ps g':=
 ⟨m,h.imp λvs H Q E ⟨F,α,M,ds,o,r,n,q⟩=>⟨F,α,M,ds,o,r,n,i _ _ _ q⟩⟩
end
noncomputable def Qw(v:V):Bool:=match v with|.int n=>decide (n.natAbs.log2<1920)&&decide ((toString n:ar).length<=4000)|.str y=>decide (y.length<=4000)|_=>ai
noncomputable def Ck(v:D):Bool:=match v with|.int n=>decide (n.natAbs.log2<1920)&&decide ((toString n:ar).length<=4000)|.str y=>decide (y.length<=4000)|_=>ai
theorem EA{K:W.Frag}{α:List af}{H:Hp}:∀(ds:List D) (vs:List V),gu K α H ds vs->ds.all Ck=ah->vs.all Qw=ah
 |[],vs,r,_=>by unfold gu at r;subst r;rfl
 |d::ds,vs,r,h=>by unfold gu at r;obtain⟨v,ws,rfl,r1,r2⟩:=r;rw[dq,aP] at h ⊢;refine⟨?_,EA ds ws r2 h.2⟩;have h1:=h.1;cases d<;>first|(cases h1;done)|(unfold Rep at r1;subst r1;exact h1)
def Vs (C:af)(ns:List ar):Sp:=λvs H Q _=>∃x ws,vs=.ref x::ws/\ws.length=ns.length/\ws.all Qw=ah/\H x=aa (j0 x C ak)/\
 ∀dx,H dx=ak->dx≠x->Q .non (upd (upd H dx (zc dx (ns.zip ws))) x (j0 x C (aa dx)))
theorem F9{H:Hp}{x dx:af}{a b c:HO}(hx:H x=ak)(ne:dx≠x):DM x (upd (upd (upd H x a) dx b) x c)=upd H dx b:=by
 funext y;by_cases h:y=x
 ·subst h;rw[mv,gz (bG ne),hx]
 ·rw[Ak h,gz h];by_cases h2:y=dx
  ·subst h2;rw[gF,gF]
  ·rw[gz h2,gz h2,gz h]
def mw (C:af)(ns:List ar)(tt:DA):XB:=λx _ δ M=>tt δ M λds M1=>ds.length=ns.length/\ds.all Ck=ah/\ds.length<=aH/\x ⟨C,ns,ds⟩ δ M1
section
variable {P:ao} {w:aE} {K:W.Frag} {mg:ar->Option ae} {base:aq} {N:List ar} {qual:ar} {scope:bJ} {fn:af} {cd:ae} {A:ay} {outer:List cz} {gG:ag} {gJ:Hp} {E:XK}
variable {k:Nat} {f C:af} {fd:bz} {ps ns:List ar} {x:ar} {p pos iM:cu} {e:aM} {es:List aM} {tt:DA}
structure vN(P:ao)(w:aE)(K:W.Frag)(mg:ar->Option ae)(base:aq)(k:Nat)(x:ar)(C:af)(ns:List ar):Prop where
 m:mg x=aa (.ref C)
 ok:∃f fd ps,Oi K C f/\Binds K fd ps []/\iW P w K mg base pF k f fd ps (Vs C ns)
end
section
variable {K:W.Frag} {F α gS:List af} {H H':Hp} {M M':Ms} {σ:L2.St} {δ:kZ}
theorem R.unset(r:R K F α H σ δ M)(i:Nat):R K F α H (σ.set i ak) (δ.set i ak) M:=by
 refine⟨r.ok,by simp[r.len],λj d h=>?_⟩;by_cases hj:j=i
 ·subst hj;rw[List.getElem?_set] at h;by_cases hl:j<δ.length
  ·simp[hl] at h
  ·simp[hl] at h
 ·rw[bH (bG hj)] at h ⊢;exact r.sl j d h
theorem OK.ghost(o:OK K F α H M){p:af}{x:HO}{φ:aq->Prop}(hp:H p=aa (.ext φ))(nc:∀q,H p≠aa (BL p q)):OK K F α (upd H p x) M/\Ext F α H M α (upd H p x) M:=by
 have vp:qw (H p)=ak:=by rw[hp]
 have oi:∀a,qw (H a)≠ak->upd H p x a=H a:=λa h=>gz λz=>by subst z;exact h vp
 have sm:jc (iS F α M H) (iS F α M (upd H p x)):=λb y q=>by obtain⟨z,q1,q2⟩:=nJ q;exact kb q z (by rw[oi b (by rw[q1,q2];exactλz=>by cases z)];exact q1)
 refine⟨⟨o.ml,o.nd,λa ha=>⟨(o.fr a ha).1,by rw[oi a (o.fr a ha).2];exact(o.fr a ha).2⟩,λa ha=>by rw[oi a (o.al a ha)];exact o.al a ha,λk y h=>?_,λy hy c P e=>?_⟩,⟨aQ _,sm,λa ha=>oi a (o.fr a ha).2⟩⟩
 ·obtain⟨a,e,r⟩:=o.own k y h;exact⟨a,e,r.mono (aQ _) sm (oi a r.qw)⟩
 ·obtain⟨ps,h1,h2,h3⟩:=o.tb y hy c P e;refine⟨ps,by rw[gz λz=>by rw[z,hp] at h1;cases h1];exact h1,h2,λpos v hv=>?_⟩;obtain⟨c',e1,e2⟩:=h3 pos v hv;exact⟨c',e1,by rw[gz λz=>by subst z;exact nc _ e2];exact e2⟩
theorem OK.Ew(o:OK K F α H M){x c:af}{od:Option af}{fs:List (ar×V)}(hx:H x=ak)(xd:Om H od fs)(nc:Al H od):OK K F α (Oo H x c od fs) M/\Ext F α H M α (Oo H x c od fs) M/\iS F α M (Oo H x c od fs) x=aa (.xc c fs):=by
 have hh:∀H1,jg (lv α M++F) (upd H1 x (.xc c fs)) x=aa (.xc c fs):=λH1=>jK (o.new hx) gF rfl;cases od with
 |none=>
  obtain⟨o1,e1⟩:=o.laid (x:=.xc c fs) hx;exact⟨o1,e1,hh _⟩
 |some dx=>
  have hd:H dx=aa (zc dx fs):=xd;obtain⟨o1,e1⟩:=o.ghost (x:=.own x) hd (nc dx rfl);have ne:x≠dx:=λz=>by rw[<-z,hx] at hd;cases hd
  obtain⟨o2,e2⟩:=o1.laid (p:=x) (x:=.xc c fs) (by rw[gz ne];exact hx);exact⟨o2,e1.trans e2,hh _⟩
end
noncomputable def dEd(i:Nat)(E:iE):iE:=⟨λδ M=>E.nx (δ.set i ak) M,E.rt,λδ M=>E.bk (δ.set i ak) M,λδ M=>E.ct (δ.set i ak) M⟩
def TX (K:W.Frag)(i:Nat)(B:af)(tb:XB)(th:DS):DS:=λE δ M=>tb (λe jY M'=>vk K e.C B/\th (dEd i E) (jY.set i (aa (.exc e.C e.ns e.ds))) M') E δ M
section
variable {X:Cx} {E:XS} {e:aM} {pos:cu}
theorem Qx{i:Nat}{n tn:ar}{tp xY:cu}{B:af}{body:List br}{Ey:br}{wL:List br}{tb:XB}{th:DS}(hN:X.N.Nodup)(hm:X.mg tn=aa (.ref B))
(hb:∀(pn:List (af×bE)) (E':ae->ag->Prop) (Ex:XS),oC (X.wp pn E') Ex->F6 (X.wp pn E') Ex body tb)
(hh:∀e,rJ (X.DN e) (Ey::wL) th)(hi:X.N[i]?=aa n:=by rfl)(hk:X.env.kindOf n=aa .local:=by rfl)(Hc:Loc X.env.scope n:=by first|exact df rfl|exact cG rfl)(hf:X.fn n=ah\/X.env.scope.names.lookup n=aa .local:=by first|exact .inl rfl|exact .inr rfl|assumption)
(hg:Gl X tn:=by rfl)(ni:(tn==("__debug__":ar))=ai:=by decide)(l8:X.stack=X.env::X.outer:=by rfl)(wG:X.env.frame=aa X.env.locals:=by rfl):
  JS X (.Try body [.ExceptHandler (aa (.Name tn tp)) (aa n) (Ey::wL) xY] [] [] pos) (TX X.K i B tb th):=by
 have hM:=(hh .none).mono;have TY:=(hb [] (λ_ _=>True) (λ_ _ _ _=>False) λ_ _ _ _ _ _ _ _=>trivial).mono;refine⟨λP Q δ M w q=>TY _ _ _ _ _ _ (λe jY M' q=>⟨q.1,hM _ _ _ _ ?_ q.2⟩) w q,PS.weak (MN (tb:=λEx=>Vr X.K Ex tb) (th:=lS X.K th) l8 wG hN hi hk Hc hf hg hm ni (λpn E' Ex hp=>(hb pn E' Ex hp).p) λe=>(hh e).p) λD σ H q=>?_⟩
 ·exact⟨λ_ _ q=>w.nx _ _ q,w.rt,λ_ _ q=>w.bk _ _ q,λ_ _ q=>w.ct _ _ q⟩
 ·obtain⟨F,α,δ,M,r,q⟩:=q;refine⟨F,α,δ,M,r,TY _ _ _ _ _ _ (λex jY M' ⟨sub,q⟩ iF gS H' od vs e1 r1 l xd rp=>⟨ex.C,ex.ns.zip vs,rfl,sub,xd,λx hx nc=>?_⟩) (iE.le.refl _) q⟩;obtain⟨o2,e2,Qo⟩:=r1.ok.Ew (c:=ex.C) hx xd nc;have rx:Rep X.K gS (iS F gS M' (Oo H' x ex.C od (ex.ns.zip vs))) (.exc ex.C ex.ns ex.ds) (.ref x):=by unfold Rep;exact⟨x,vs,rfl,Qo,l,e2.wd rp⟩
  refine⟨F,gS,_,M',(r1.grow e2 o2).set rx,hM _ _ _ _ ?_ q⟩;have RW:=e1.trans e2;exact⟨λJm M3 q Iy uc H3 e3 r3=>q _ uc H3 (RW.trans e3) (r3.unset i),vK.grow RW,λJm M3 q Iy uc H3 e3 r3=>q _ uc H3 (RW.trans e3) (r3.unset i),λJm M3 q Iy uc H3 e3 r3=>q _ uc H3 (RW.trans e3) (r3.unset i)⟩
end
abbrev FP:=ar⊕Nat
def tFP:FP->TE
 |.inl c=>tC (.str c)
 |.inr i=>TM (Ij i)
def TZ:List FP->TJ
 |[]=>Oh
 |p::ps=>J2 (tFP p) (TZ ps)
structure RX(X:Cx)(es:List aM)(ps:List FP):Prop where
 p:PJ X es (TZ ps)
def RY (K:W.Frag):List ar->Nat->TS
 |[],_=>λD σ H=>D.nx σ H
 |f::r,i=>O2 (Oj K (Ij 0) (Ij i) f) (RY K r (i+1))
structure Vt(X:Cx)(DJ:List br)(ns:List ar)(i:Nat):Prop where
 p:pH X DJ (RY X.K ns i)
section
variable {X:Cx} {es:List aM} {ps:List FP} {c x f:ar} {j:Option ar} {p pos pos':cu} {i:Nat} {DJ:List br} {ns:List ar}
theorem MR:RX X [] []:=⟨Qn⟩
theorem T2{j}(h:RX X es ps):RX X (.Constant (.str c) j pos::es) (.inl c::ps):=⟨F3 Ik h.p⟩
theorem T3(i:Nat)(h:RX X es ps)(hN:X.N[i]?=aa x:=by rfl)(hv:Lj X.env.scope x:=by first|exact df rfl|exact cG (df rfl)|exact cG (cG rfl))(hd:(x==("__debug__":ar))=ai:=by decide)
(pE:(x==("__classdict__":ar))=ai:=by decide):RX X (.FormattedValue (.Name x p) (-1) ak pos::es) (.inr i::ps):=⟨F3 (Qm (t7 hN hv hd pE)) h.p⟩
theorem MT:Vt X [] [] i:=⟨Fw⟩
theorem Kf{p2:cu}{s:ar}(h:Vt X DJ ns (i+1))(Xo:X.N[0]?=aa s:=by rfl)(hN:X.N[i]?=aa x:=by rfl)(Xp:Lj X.env.scope s:=by first|exact df rfl|exact cG (df rfl)|exact cG (cG rfl))(hv:Lj X.env.scope x:=by first|exact df rfl|exact cG (df rfl)|exact cG (cG rfl))
(Xq:(s==("__debug__":ar))=ai:=by decide)(Qy:(s==("__classdict__":ar))=ai:=by decide)(hd:(x==("__debug__":ar))=ai:=by decide)(pE:(x==("__classdict__":ar))=ai:=by decide)
(hs:cW (.Name x p2) (aa (.Attribute (.Name s p) f pos')) pos.line X.env=pure ai:=by rfl):Vt X (.Assign [.Attribute (.Name s p) f pos'] (.Name x p2) pos::DJ) (f::ns) i:=
 ⟨sI (MI (t7 Xo Xp Xq Qy) (t7 hN hv hd pE) hs) h.p⟩
end
def okP (σ:L2.St):FP->Prop
 |.inl c=>c.length<=4000
 |.inr i=>∃v,σ[i]?=aa (aa v)/\Qw v=ah
theorem Kg{σ:L2.St}{H:Hp}{Q:VK}(hq:∀y,Q (.str y) H):∀(ps:List FP) (acc:ar),acc.length+4000*ps.length<=aH->(∀p∈ps,okP σ p)->TZ ps acc σ H Q
 |[],acc,h,_=>⟨by simpa using h,hq acc⟩
 |p::ps,acc,h,ok=>by
  have hl:∀y:ar,y.length<=4000->(acc++y).length<=aH/\(acc++y).length+4000*ps.length<=aH:=λy hy=>by have:(acc++y).length=acc.length+y.length:=PySem.Str.length_append _ _;rw[ax] at h;omega
  have go:∀y:ar,y.length<=4000->TZ ps (acc++y) σ H Q:=λy hy=>Kg hq ps _ (hl y hy).2 λp hp=>ok p (aX _ hp);have o1:=ok p bd;cases p with
  |inl c=>exact⟨c,rfl,(hl c o1).1,go c o1⟩
  |inr i=>
   obtain⟨v,e,fv⟩:=o1;refine⟨v,e,?_⟩;cases v<;>first|(cases fv;done)|skip
   ·rename_i n;have fv:(decide (n.natAbs.log2<1920)&&decide ((toString n:ar).length<=4000))=ah:=fv;rw[aP,decide_eq_true_eq,decide_eq_true_eq] at fv;exact⟨fv.1,_,rfl,(hl _ fv.2).1,go _ fv.2⟩
   ·rename_i y;have fv:decide (y.length<=4000)=ah:=fv;rw[decide_eq_true_eq] at fv;exact⟨aT fv (by decide),_,rfl,(hl _ fv).1,go _ fv⟩
noncomputable def cH(H:Hp)(x dx C:af)(l:List (ar×V)):Hp:=upd (upd H dx (zc dx l)) x (j0 x C (aa dx))
theorem T4{H:Hp}{x dx C:af}{l l':List (ar×V)}(ne:dx≠x):upd (upd (cH H x dx C l) dx (zc dx l')) x (j0 x C (aa dx))=cH H x dx C l':=by
 funext b;unfold cH;by_cases h:b=x
 ·subst h;rw[gF,gF]
 ·rw[gz h,gz h];by_cases h2:b=dx
  ·subst h2;rw[gF,gF]
  ·rw[gz h2,gz h2,gz h,gz h2]
theorem Cm{f:ar}{y:V}:∀{l:List (ar×V)},f∉l.map (·.1)->lQ f y l=l++[(f,y)]
 |[],_=>rfl
 | (g,v)::l,h=>by have h1:g≠f:=λz=>h (by rw[z];simp);show(if g=f then _ else _)=_;rw[if_neg h1,Cm λz=>h (by rw[bW];exact aX _ z)];rfl
theorem Ot{K:W.Frag}{D:Ends}{σ:L2.St}{H:Hp}{x dx C:af}(hx:σ[0]?=aa (aa (.ref x)))(c:Et K C)(ne:dx≠x):∀(ns:List ar) (i:Nat) (ws:List V) (l:List (ar×V)),ns.length=ws.length->(∀j v,ws[j]?=aa v->σ[i+j]?=aa (aa v))->(l.map (·.1)++ns).Nodup->l.length+ns.length<1000->(∀f∈ns,jZ K C f)->
  D.nx σ (cH H x dx C (l++ns.zip ws))->RY K ns i D σ (cH H x dx C l)
 |[],i,ws,l,_,_,_,_,_,q=>by rw[List.zip_nil_left,bj] at q;exact q
 |f::ns,i,[],l,e,_,_,_,_,q=>by cases e
 |f::ns,i,y::ws,l,e,hv,nd,hl,na,q=>by
  have hf:f∉l.map (·.1):=λz=>by rw[List.nodup_append] at nd;exact nd.2.2 f z f bd rfl
  refine⟨y,by simpa using hv 0 y rfl,.ref x,hx,x,C,aa dx,l,rfl,?_,⟨ne,?_⟩,c,na f bd,by rw[ax] at hl;omega,λdx' h' ne'=>?_⟩
  ·unfold cH;rw[gF]
  ·unfold cH;rw[gz ne,gF]
  ·rcases h' with h'|⟨h',_⟩
   ·cases h';rw[T4 ne,Cm hf];refine Ot hx c ne ns (i+1) ws (l++[(f,y)]) (by simpa using e) (λj v h=>?_) ?_ (by simp at hl ⊢;omega) (λg hg=>na g (aX _ hg)) ?_
    ·have:=hv (j+1) v (by simpa using h);rw[<-this];congr 1;omega
    ·rw[ed];simpa using nd
    ·rw[dN];exact q
   ·cases h'
theorem Kh{K:W.Frag}{D:Ends}{σ:L2.St}{H:Hp}{x C:af}{f y}{ns:List ar}{ws:List V}(hx:σ[0]?=aa (aa (.ref x)))(c:Et K C)(e:ns.length=ws.length)(hv:∀j v,(y::ws)[j]?=aa v->σ[1+j]?=aa (aa v))(nd:(f::ns).Nodup)(hl:ns.length<900)(na:∀g∈f::ns,jZ K C g)
(ex:H x=aa (j0 x C ak))(q:∀dx,H dx=ak->dx≠x->D.nx σ (cH H x dx C ((f::ns).zip (y::ws)))):RY K (f::ns) 1 D σ H:=by
 refine⟨y,by simpa using hv 0 y rfl,.ref x,hx,x,C,ak,[],rfl,ex,rfl,c,na f bd,by decide,λdx h' ne=>?_⟩;rcases h' with h'|⟨_,h'⟩
 ·cases h'
 ·refine Ot hx c ne ns 2 ws [(f,y)] e (λj v h=>?_) (by simpa using nd) (by simp;omega) (λg hg=>na g (aX _ hg)) (q dx h' ne);have:=hv (j+1) v (by simpa using h);rw[<-this];congr 1;omega
theorem wN{N:List ar}{vs:List V}{i:Nat}{v:V}(h:vs[i]?=aa v):(L2.start N vs)[i]?=aa (aa v):=by unfold L2.start;have:=(aC.mp h).1;rw[bb (by simpa using this),bQ,h];rfl
abbrev T5(K:W.Frag)(B:af)(MU:List FP)(ns:List ar):TS:=O2 (NO (J3 K B (tC (.ref B)) (IF (Ij 0) (IF (TZ MU ar.empty) SA)))) (RY K ns 1)
theorem Xr{X:Cx}{b s:ar}{e e2:aM}{es:List aM}{DJ:List br}{MU:List FP}{ns:List ar}{B:af}{p p2 jp apos iM pos:cu}{pl:f9 Bool}(hB:F4 X.K B)(hm:X.mg b=aa (.ref B))(h1:RX X (e::e2::es) MU)(h2:Vt X DJ ns 1)
(hg:Gl X b:=by rfl)(ni:(b==("__debug__":ar))=ai:=by decide)(Xo:X.N[0]?=aa s:=by rfl)(Xp:Lj X.env.scope s:=by first|exact df rfl|exact cG (df rfl)|exact cG (cG rfl))
(Xq:(s==("__debug__":ar))=ai:=by decide)(Qy:(s==("__classdict__":ar))=ai:=by decide)
(ht:eval (.Call (.Attribute (.Name b p) "__init__" apos) [.Name s p2,.JoinedStr (e::e2::es) jp] [] iM) X.env=(do
   let ov<-eval (.Name b p) X.env
   eF apos.atName
   let(f,first)<-holding [ov] (eH ov "__init__" pl)
   fY iM f first (bN iM (av [.Name s p2,.JoinedStr (e::e2::es) jp] X.env)) (eg iM (de [] X.env))):=by rfl)
(l8:av [.Name s p2,.JoinedStr (e::e2::es) jp] X.env=(ai,eval (.Name s p2) X.env)::av [.JoinedStr (e::e2::es) jp] X.env:=by rfl)(Xs:av [.JoinedStr (e::e2::es) jp] X.env=(ai,eval (.JoinedStr (e::e2::es) jp) X.env)::av [] X.env:=by rfl)(kC:(bN iM (av [.JoinedStr (e::e2::es) jp] X.env)).any (·.1)=ai:=by rfl)
(hs:cW (.Call (.Attribute (.Name b p) "__init__" apos) [.Name s p2,.JoinedStr (e::e2::es) jp] [] iM) ak pos.line X.env=pure ai:=by rfl):
  pH X (.Expr (.Call (.Attribute (.Name b p) "__init__" apos) [.Name s p2,.JoinedStr (e::e2::es) jp] [] iM) pos::DJ) (T5 X.K B MU ns):=
 sI (zF (J9 PySem.F.excBase_ValueError hB (Fv hg hm rfl ni) (vE (t7 Xo Xp Xq Qy) (vE (ME h1.p) IG Xs) l8) ht l8 kC) hs) h2.p
section
variable {P:ao} {w:aE} {K:W.Frag} {mg:ar->Option ae} {base:aq}
noncomputable def GL(n:Nat):FP->Bool
 |.inl c=>decide (c.length<=4000)
 |.inr i=>decide (1<=i)&&decide (i<=n)
end
theorem Cn{K:W.Frag}{α:List af}{H:Hp}{f:ar}:∀(ns:List ar) (ds:List D) (vs:List V) (d:D),gu K α H ds vs->(ns.zip ds).lookup f=aa d->∃v,(ns.zip vs).lookup f=aa v/\Rep K α H d v
 |[],ds,vs,d,r,h=>by cases h
 |n::ns,[],vs,d,r,h=>by cases h
 |n::ns,x::ds,vs,d,r,h=>by
  unfold gu at r;obtain⟨v,ws,rfl,r1,r2⟩:=r;rw[dH,cn] at h ⊢;cases e:f==n with
  |true=>rw[e] at h;cases h;exact⟨v,rfl,r1⟩
  |false=>rw[e] at h;exact Cn ns ds ws d r2 h
def Ou (K:W.Frag)(f:ar)(te:DE):DE:=λδ M Q=>te δ M λd M1=>match d with
 |.exc C ns ds=>Ci K C/\jZ K C f/\∃d',(ns.zip ds).lookup f=aa d'/\Q d' M1
 |_=>False
section
variable {X:Cx} {o:aM} {te:DE} {f:ar} {pos:cu}
theorem Qz(he:JE X o te)(hb:cE o f X.env (eval o X.env)=eval o X.env:=by rfl):JE X (.Attribute o f pos) (Ou X.K f te):=by
 refine⟨λδ M P Q w q=>he.mono δ _ _ _ (λd M1 q=>?_) q,PE.weak (MK he.p hb) λσ H Q q=>?_⟩
 ·cases d<;>first|exact q.elim|skip
  obtain⟨q1,q2,d',q3,q4⟩:=q;exact⟨q1,q2,d',q3,w _ _ q4⟩
 ·obtain⟨F,α,δ,M,r,q⟩:=q;refine⟨F,α,δ,M,r,he.mono δ _ _ _ (λd M1 q v gU H1 e1 o1 r1=>?_) q⟩;cases d<;>first|exact q.elim|skip
  obtain⟨q1,q2,d',q3,q4⟩:=q;unfold Rep at r1;obtain⟨a,vs,rfl,ha,l,rs⟩:=r1;obtain⟨v,h1,h2⟩:=Cn _ _ _ _ rs q3;exact⟨a,_,_,v,rfl,gX _ _ ha,q1,q2,h1,q4 v gU H1 e1 o1 h2⟩
def MV (K:W.Frag):GN:=λds M Q=>match ds with
 |[.exc C ns es,.cls B]=>∃b,Ci K C/\W.kitOne K (.ref C) (.ref B)=aa b/\Q (.bl b) M
 |_=>False
theorem EB:JB X (.builtin "isinstance") (MV X.K):=by
 refine⟨λds M P Q w q=>?_,λpins s σ H xs us Q I rs h=>?_⟩
 ·match ds,q with
  |[.exc C ns es,.cls B],⟨b,e1,e2,q⟩=>exact⟨b,e1,e2,w _ _ q⟩
 ·obtain⟨F,α,M,ds,o,rr,h⟩:=h;match ds,h,rr with
  |[.exc C ns es,.cls B],⟨b,e1,e2,q⟩,rr=>
   obtain⟨v,u,ev,r1,r2⟩:=Jv rr;subst ev;unfold Rep at r1 r2;subst r2;obtain⟨a,vs,rfl,ha,l,rs'⟩:=r1;obtain⟨u1,u2,rfl,q1,q2⟩:=vals2 rs;obtain rfl:u1=aD a:=q1;obtain rfl:u2=aD B:=q2;exact ML I (gX _ _ ha) e1 e2 λtk=>⟨.bl b,H,I.tok tk,rfl,vK.now o q jd⟩
end
end L3
namespace L2
open PySem PySem.Spec PyProof.Rows
inductive TC(gJ:Hp)(P:Hp->Prop):Hp->Prop
 |base {H:Hp}:P H->TC gJ P H
 |vj {H:Hp} {a:af} {o:bE} {gZ:List (Key×V)}:H a=aa (.qv o (.dK gZ))->(∀o u,gJ a≠aa (.qv o u))->TC gJ P (upd H a (.dK gZ))->TC gJ P H
abbrev RZ(gJ:Hp)(E:XK):XK:=λC od=>TC gJ (E C od)
theorem TC.th{X:Cx}{P:Hp->Prop}{H:Hp}(h:TH X (TC X.gJ P) H):TC X.gJ P H:=by
 rcases h with h|⟨a,o,gZ,e,n,h⟩
 ·exact h
 ·exact .vj e n h
section
variable {P:ao} {w:aE}
theorem Ki{outer:List cz}{H:Hp}{s:ag}{E:XK}{e:ae}{s':ag}(h:Bm P w outer H s (RZ H E) e s'):Bm P w outer H s E e s':=by
 obtain⟨x,C,od,H',T,rfl,ho,hg,u,iy,hr,hx,hT,DL,J0,hE⟩:=h;induction hE with
 |base h=>exact⟨x,C,od,_,T,rfl,ho,hg,u,iy,hr,hx,hT,DL,J0,h⟩
 |@vj H1 a o gZ ha n4 _ ih=>
  have ud:∀b,H1 b=ak->b≠a:=λb h z=>by rw[z,ha] at h;cases h
  refine ih ⟨u.keep,u.slot,λb o q n hx=>?_,u.there,λb xs q=>?_,λb o u' q=>?_,λb ps q=>?_⟩ (λb ob q=>?_) (by rw[gz (ud _ DL)];exact DL) (by rw[gz (ud _ J0)];exact J0)
  ·have:=u.free b o q n hx;rw[gz (ud b this)];exact this
  ·have:=u.pv b xs q;rw[gz λz=>by rw[z,ha] at this;cases this];exact this
  ·have:=u.nG b o u' q;rw[gz λz=>n4 o u' (by rw[<-z];exact q)];exact this
  ·obtain⟨m,e⟩:=u.pw b ps q;exact⟨m,by rw[gz λz=>by rw[z,ha] at e;cases e];exact e⟩
  ·by_cases z:b=a
   ·subst z;rw[gF] at q;cases q;obtain⟨_,z,hd,vs,r,ob,es,ep,e,c⟩:=(show iQ P w H1 s'.heap b (.qv o (.dK gZ)) from iy b _ ha);exact⟨z,hd,vs,r,ob,es,ep,e,c⟩
   ·rw[gz z] at q;refine(iy b ob q).sG (λc v _ r=>r) (λc r=>?_) (λc xs r=>?_)
    ·rw[gz λz=>by rw[z,ha] at r;cases r];exact r
    ·rw[gz λz=>by rw[z,ha] at r;cases r];exact r
variable {K:W.Frag} {mg:ar->Option ae} {base:aq}
theorem iW.vj{k:Nat}{f:af}{fd:bz}{ps:List ar}{sp IH:Sp}(F:iW P w K mg base (Bm P w) k f fd ps IH)(h:∀vs H Q E,sp vs H Q E->IH vs H Q (RZ H E)):iW P w K mg base (Bm P w) k f fd ps sp:=
 ⟨λvs H Q E q=>F.len _ _ _ _ (h _ _ _ _ q),λA outer s H args us vs Q E hr e0 hb r q=>cr (F.run A outer s H args us vs Q (RZ H E) hr e0 hb r (h _ _ _ _ q)) λr s' hq=>by
  cases r with
  |error e=>exact Ki hq
  |ok fl=>cases fl<;>exact hq⟩
end
end L2
namespace L3
open PySem PySem.Spec PyProof.Rows L2
section
variable {P:ao} {w:aE} {K:W.Frag} {mg:ar->Option ae} {base:aq}
theorem Ov{x:ar}{st:br}{N ps:List ar}{k:Nat}{body:List br}{scope:bJ}{tb:XB}(F:hW K mg x st)(eb:g6 st=body)(es:gM st=scope)(S:gL N ps scope)
(hb:∀(kV doc pm:ae) (an:Option af) (g8 ct:ae) (us:List ae),us.length=ps.length->c7 (W.fnOf x x (jf st) (g6 st) (gM st) .none kV doc pm an g8 ct) ⟨us,[]⟩=pure (ps.zip us))
(hJ:∀(f:af) (g8:ae) (A:ay) (outer:List cz) (s:ag) (H:Hp) (E:XK),iG k (A.deeper (cy x scope s.heap.objs.size f g8))->F6 (la P w K mg base N x scope f g8 A outer s H (RZ H E)) (λ_=>RZ H E) body tb):
  sV P w K mg base (k+1) x ps (rT K (nP N.length ps.length tb)):=by
 have h1:sV P w K mg base (k+1) x ps (λvs H Q E'=>∃E,E'=RZ H E/\rT K (nP N.length ps.length tb) vs H Q E):=
  F.Xi eb es S hb (λvs H Q E' ⟨E,_,F,α,M,ds,o,r,hn,hl,q⟩=>by rw[<-gu.length _ _ r];exact hl) λf g8 A outer s H vs Q E' hr ⟨E,e,F,α,M,ds,o,r,hn,q⟩=>by subst e;exact F8 (ps:=ps) (hJ f g8 A outer s H E hr) rfl ⟨F,α,M,ds,o,r,hn,Hm (hJ f g8 A outer s H E hr).mono _ _ _ _ _ (λ_ q=>q) (λex q H' od ws e1 o1 l xd rp=>.base (q H' od ws e1 o1 l xd rp)) q⟩
 obtain⟨f,fd,m,kp,b,F1⟩:=h1;exact⟨f,fd,m,kp,b,F1.vj λvs H Q E h=>⟨E,rfl,h⟩⟩
end
section
variable {X:Cx} {E:XS} {e:aM} {pos:cu}
def T6 (ti:DI)(g:DG)(tb:XB):XB:=λx=>uf ti g (tb x)
theorem ul{g:DG}{tb:XB}{st:Ms->Prop}(hg:∀d δ M (P Q:kZ->Ms->Prop),(∀δ M,P δ M->Q δ M)->g d δ M P->g d δ M Q)(hb:∀(x y:uU) (P Q:iE) δ M,x.le y->P.le Q->tb x P δ M->tb y Q δ M){x y:uU}(v:x.le y){P Q:iE}(w:P.le Q):∀xs δ M,lB g (tb x) st P xs δ M->lB g (tb y) st Q xs δ M
 |[],δ,M,q=>w.nx _ _ q
 |z::xs,δ,M,q=>hg _ _ _ _ _ (λt5 M1 q=>hb x y {P with nx:=λjY M'=>st M'/\lB g (tb x) st P xs jY M',ct:=λjY M'=>st M'/\lB g (tb x) st P xs jY M',bk:=P.nx} {Q with nx:=λjY M'=>st M'/\lB g (tb y) st Q xs jY M',ct:=λjY M'=>st M'/\lB g (tb y) st Q xs jY M',bk:=Q.nx} _ _ v ⟨λjY M' q=>⟨q.1,ul hg hb v w xs jY M' q.2⟩,w.rt,w.nx,λjY M' q=>⟨q.1,ul hg hb v w xs jY M' q.2⟩⟩ q) q
theorem MW{tg:aM}{body:List br}{ti:DI}{g:DG}{tb:XB}(hi:JI X tg e ti)(hg:JG X tg g)(hb:F6 X E body tb)(hE:∀σ C od H,TH X (E σ C od) H->E σ C od H)(hp:eT (model X.prog X.w) X.A X.env X.xe)(hc:X.calm=ah:=by rfl)
(hs:∀x,dk e X.env x=pure x:=by intro _;rfl):Kc X E (.For tg e body [] pos) (T6 ti g tb):=by
 refine⟨λx y P Q δ M v w q=>hi.mono δ _ _ _ (λitems st M1 q=>⟨q.1,ul hg.mono hb.mono v w _ _ _ q.2⟩) q,BO (Ix hp hc hi.p hg.p hb.p hs) λD σ H q=>?_⟩;obtain⟨F,α,δ,M,r,q⟩:=q;refine⟨F,α,δ,M,r,hi.mono δ _ _ _ (λitems st M1 q J gU H1 Hf T e1 o1 z it=>?_) q⟩;obtain⟨s1,q⟩:=q;refine⟨λi m iF H'=>m=items.length- i/\i<=items.length/\∃gS jY M',Ext F gU Hf M1 gS H' M'/\R X.K F gS H' iF jY M'/\st M'/\lB g (tb (xK X.K F α H M E)) st (ly X.K F α H M D) (items.drop i) jY M',⟨_,rfl,cU _,gU,δ,M1,Ext.refl,z.rs (r.grow e1 o1),s1,q⟩,?_⟩
 rintro i m iF H' ⟨rfl,YM,gS,jY,M',e',r',s',q'⟩
 by_cases FQ:i<items.length
 ·rw[dM FQ] at q';refine .inr ⟨it.go i F gS H' M' e'.pre e'.same r'.ok s' FQ,λBz H2=>∃lR Mq M2,Ext F gU Hf M1 lR H2 M2/\R X.K F lR H2 Bz Mq M2/\st M2/\lB g (tb (xK X.K F α H M E)) st (ly X.K F α H M D) (items.drop (i+1)) Mq M2,λBz H2 h=>⟨_,by omega,rfl,FQ,h⟩,λx H2 y=>?_⟩;obtain⟨o2,e2,rx⟩:=it.NR i F gS H' M' x H2 items[i] e'.pre e'.same r'.ok s' (by simp[FQ]) y;refine⟨F,gS,jY,M',items[i],r'.grow e2 o2,rx,hg.mono _ _ _ _ _ (λJm M3 q3 Iy uc H3 e3 r3=>⟨F,uc,Jm,M3,r3,hb.mono _ _ _ _ _ _ ?ex ?le q3⟩) q'⟩;case ex=>
   have qW:=(e'.trans e2).trans e3;intro ex Lr M4 q4 Mr qP H4 od vs e4 r4 l xd rp;obtain⟨t1,t2,t3⟩:=z.e qP H4 M4 (qW.trans e4) r4.ok;refine hE _ _ _ _ (z.h qP H4 M4 _ (qW.trans e4) (q4 Mr qP (T H4) od vs (e1.trans t1) (z.rt (qW.trans e4) r4) l ?_ (gu.imp t3 _ _ rp)));cases od with
   |none=>exact xd
   |some dx=>exact z.k qP H4 M4 dx _ (qW.trans e4) xd
  case le=>
   have qW:=(e'.trans e2).trans e3;refine⟨λLr M4 q4 Mr qP H4 e4 r4=>⟨qP,Lr,M4,qW.trans e4,r4,q4⟩,λd M4 q4 v qP H4 e4 o4 r4=>?_,λLr M4 q4 Mr qP H4 e4 r4=>?_,λLr M4 q4 Mr qP H4 e4 r4=>⟨qP,Lr,M4,qW.trans e4,r4,q4⟩⟩
   ·obtain⟨t1,t2,t3⟩:=z.e qP H4 M4 (qW.trans e4) o4;exact z.h qP H4 M4 _ (qW.trans e4) (q4 v qP (T H4) (e1.trans t1) t2 (t3 d v r4))
   ·obtain⟨t1,_,_⟩:=z.e qP H4 M4 (qW.trans e4) r4.ok;exact z.h qP H4 M4 _ (qW.trans e4) (q4 Mr qP (T H4) (e1.trans t1) (z.rt (qW.trans e4) r4))
 ·have e:i=items.length:=by omega
  subst e;rw[List.drop_length] at q';obtain⟨t1,_,_⟩:=z.e gS H' M' e' r'.ok;exact .inl ⟨it.stop F gS H' M' e'.pre e'.same r'.ok s',z.h gS H' M' _ e' (q' iF gS (T H') (e1.trans t1) (z.rt e' r'))⟩
end
end L3
namespace L2
open PySem PySem.Spec PyProof.Rows
def xZ (h:aq)(e:af)(cls:ae)(od:Option af)(T:af):Prop:=
 ∃oe vs oT ts v,h.get? e=aa oe/\oe.cls=cls/\oe.dict=od/\oe.data=.fields vs/\vs[1]?=aa (.ref T)/\T≠e/\h.get? T=aa oT/\oT.data=.fields ts/\ts[3]?=aa v
theorem Rec.any{h:aq}{e:af}{cls:ae}{od:Option af}{T:af}(r:Rec h e cls od T):xZ h e cls od T:=by obtain⟨oe,vs,oT,ts,h1,h2,h3,h4,h5,h6,h7,h8,h9⟩:=r;exact⟨oe,vs,oT,ts,.none,h1,h2,h3,h4,h5,h6,h7,h8,h9⟩
section
variable {M:fb} {A:ay} {E:ae->ag->Prop} {s:ag}
theorem rV{e T:af}{cls:ae}{od fo:Option af}{Q:Unit->ag->Prop}(hr:xZ s.heap e cls od T)
(h:∀h',xZ h' e cls od T->(fo=ak->Rec h' e cls od T)->Left [] [T] s.heap h'->Q () {s with heap:=h'}):wpAny M A (cY (.ref e) fo) Q E s:=by
 obtain⟨oe,vs,oT,ts,v,he,h1,h2,hd,h3,ud,hT,h5,h6⟩:=hr;unfold cY;refine aj (bX he hd h3 ?_);rw[if_pos (show(aD T !=aV)=ah from by simp)];have lt:=(bB.mp h6).1;refine cb hT h5 lt (h _ ?_ (λz=>?_) λb o e hb=>?_)
 ·exact⟨oe,vs,_,_,_,(aw _ _ ud).trans he,h1,h2,hd,h3,ud,bq _ hT (bP (bF h5 _)),bF h5 _,by simp[du,lt];rfl⟩
 ·subst z;exact⟨oe,vs,_,_,(aw _ _ ud).trans he,h1,h2,hd,h3,ud,bq _ hT (bP (bF h5 _)),bF h5 _,by simp[du,lt]⟩
 ·have:b≠T:=λz=>hb (by simp[z]);have q:=(aw s.heap (aS (·.setIfInBounds 3 (fo.elim aV λf=>cJ f))) (bG this)).trans e;exact⟨λ_=>q,o.slots,q⟩
theorem Kj{base:aq}{env:cz}{outer:List cz}{L e:af}{oe:bE}{vs:Array ae}{head:ae}{sT:Bool}{Q:Unit->ag->Prop}
(wG:A.frames=aa (env::outer))(hl:s.heap.FunFrames base (env::outer)){EC:cz}(hf:env.frame=aa L)(Xt:EC.frame=aa L)
(he:s.heap.get? e=aa oe)(hd:oe.data=.fields vs)(DH:1<vs.size)
(h:∀h' T,s.heap.objs.size<=T->xZ h' e oe.cls oe.dict T->Left (oi (env::outer)) [e] s.heap h'->Q () {s with heap:=h'}):
  wpAny M A (do let a<-frameOf env;let pl<-fS L sT;let b<-cv head a .none (cJ L) .none pl;aaC (.ref e) 1 b) Q E s:=by
 have JZ:e∉(env::outer).filterMap (·.frame):=λhm=>by obtain⟨_,o,ho,Cb⟩:=hl.mem hm;rw[he] at ho;injection ho with ho;subst ho;exact Cb vs hd
 refine aj (eP wG hl hf λiR mU=>?_);refine aj (eL λpl kC=>?_);unfold cv aav;refine aj (ci ?_ (kC.sizeOk5 _ _ _ _ _));have uQ:iR.get? e=aa oe:=(mU.2.1 e JZ).trans he;have uR:=au (h:=iR) {cls:=.type "traceback",dict:=ak,data:=.fields ([head,.ref L,.none,cJ L,.none]++(if pl.isEmpty then aU 6 aV else pl)).toArray} uQ;have Bl:iR.objs.size≠e:=dB (aJ uQ);have pX:=bF hd (·.setIfInBounds 1 (aD iR.objs.size));have uS:=bq (aS (·.setIfInBounds 1 (aD iR.objs.size))) uR (bP pX);have wH:=(aw (iR.push {cls:=.type "traceback",dict:=ak,data:=.fields ([head,.ref L,.none,cJ L,.none]++(if pl.isEmpty then aU 6 aV else pl)).toArray})
  (aS (·.setIfInBounds 1 (aD iR.objs.size))) (bG Bl)).trans (bg iR rfl)
 refine cb uR hd DH (h _ iR.objs.size ?_ ?_ λb o hb hn=>?_)
 ·exact c8 mU.1.symm
 ·exact⟨_,_,_,_,cJ L,uS,bE.cls_mapFields _ _,mr _ _,pX,by simp[DH],Bl,wH,rfl,by simp⟩
 ·have xN:b≠e:=λz=>hn (by simp[z]);have keep:∀b o,b≠e->iR.get? b=aa o->((iR.push {cls:=.type "traceback",dict:=ak,data:=.fields ([head,.ref L,.none,cJ L,.none]++(if pl.isEmpty then aU 6 aV else pl)).toArray}).update e (aS (·.setIfInBounds 1 (aD iR.objs.size)))).get? b=aa o:=λb o xN hb=>by rw[aw _ _ (bG xN)];exact au _ hb
  obtain⟨sl,hs⟩:=mU.2.2 b o hb;exact⟨λhS=>keep b o xN ((mU.2.1 b hS).trans hb),sl,keep b _ xN hs⟩
theorem ED{env EC:cz}(h:EC.frame=env.frame):PySem.frameOf EC=PySem.frameOf env:=by unfold PySem.frameOf;rw[h]
theorem Left.refl{S R:List af}{h:aq}:Left S R h h:=λb o e _=>⟨λ_=>e,o.slots,e⟩
theorem T8{base:aq}{env EC:cz}{outer:List cz}{L e jG:af}{cls:ae}{od:Option af}{Q:Unit->ag->Prop}
(wG:A.frames=aa (env::outer))(hl:s.heap.FunFrames base (env::outer))(hf:env.frame=aa L)(Xt:EC.frame=aa L)(hr:xZ s.heap e cls od jG)
(h:∀h' T,(T=jG\/s.heap.objs.size<=T)->xZ h' e cls od T->Left (oi (env::outer)) [e,jG] s.heap h'->Q () {s with heap:=h'}):wpAny M A (cT (.ref e) EC) Q E s:=by
 have Ib:=hr;obtain⟨oe,vs,oT,ts,v,he,rfl,rfl,hd,h1,Bl,hT,Ia,h3⟩:=hr;unfold cT;rw[ED (Xt.trans hf.symm)];simp only [Xt];refine aj (bX he hd h1 ?_);rw[if_pos (show(aD jG !=aV)=ah from by simp)];refine aj (bX hT Ia h3 ?_);by_cases hv:(v==cJ L)=ah
 ·rw[if_pos hv];exact az (h s.heap jG (.inl rfl) Ib Left.refl)
 rw[if_neg hv];refine aj (cb hT Ia (bB.mp h3).1 ?_);have other:∀b,b≠jG->(s.heap.update jG (aS (·.setIfInBounds 3 aV))).get? b=s.heap.get? b:=λb hb=>aw _ _ (bG hb);have pY:∀b o,s.heap.get? b=aa o->(∀vs,o.data≠.fields vs)->b≠jG:=λb o hb Cb q=>by rw[q,hT] at hb;injection hb with hb;subst hb;exact Cb ts Ia
 refine Kj (s:={s with heap:=s.heap.update jG (aS (·.setIfInBounds 3 aV))}) wG (hl.of_keeps λb o hb Cb=>⟨o,(other b (pY b o hb Cb)).trans hb,rfl⟩) hf hf ((other e (bG Bl)).trans he) hd (bB.mp h1).1
  λh' T hn hr hk=>h h' T (.inr ?_) hr λb o hb Oe=>?_
 ·have e:=cj s.heap jG (aS (·.setIfInBounds 3 aV));have hn:(s.heap.update jG (aS (·.setIfInBounds 3 aV))).objs.size<=T:=hn;rw[e] at hn;exact hn
 ·exact hk b o ((other b λz=>Oe (by simp[z])).trans hb) λz=>Oe (by simp at z;simp[z])
end
section
variable {P:ao} {w:aE} {K:W.Frag} {mg:ar->Option ae} {base:aq} {N:List ar} {qual:ar} {scope:bJ} {f:af} {cd:ae} {A:ay} {outer:List cz} {gG:ag} {gJ:Hp} {E:XK}
theorem Inv.Ow{X:Cx}{pins:List (af×bE)}{σ:St}{H:Hp}{s:ag}{R:List af}{h':aq}(I:Inv X pins σ H s)(hR:∀b∈R,uT X pins b/\H b=ak)(hL:Left [] R s.heap h'):Inv X pins σ H {s with heap:=h'}:=
 I.wJ (t':=s.toks) hR λb o e hb=>⟨λ_=>(hL b o e hb).1 (by simp),(hL b o e hb).2⟩
theorem QC{pins:List (af×bE)}{σ:St}{H:Hp}{s:ag}{x T:af}{C:ae}{od:Option af}(I:Inv (la P w K mg base N qual scope f cd A outer gG gJ E) pins σ H s)
(hr:xZ s.heap x C od T)(fx:uT (la P w K mg base N qual scope f cd A outer gG gJ E) pins x)(hx:H x=ak)(fT:uT (la P w K mg base N qual scope f cd A outer gG gJ E) pins T)(hT:H T=ak)(hE:E C od H):(la P w K mg base N qual scope f cd A outer gG gJ E).xe (.ref x) s:=by
 show wpAny _ _ (leaving _ _) _ _ _;unfold leaving;refine aj (T8 (base:=base) I.ok.frames I.stack rfl rfl hr λh1 T1 Vu Xu hL1=>?_);have MX:uT (la P w K mg base N qual scope f cd A outer gG gJ E) pins T1/\H T1=ak:=by
  rcases Vu with rfl|Vu
  ·exact⟨fT,hT⟩
  ·exact⟨I.ke Vu,I.iy.fresh Vu⟩
 have I1:=I.wJ (t':=s.toks) (R:=[x,T]) (h':=h1) (λb hb=>by
  rcases ba.mp hb with rfl|hb
  ·exact⟨fx,hx⟩
  ·cases bv.mp hb;exact⟨fT,hT⟩) hL1
 refine rV (s:={s with heap:=h1}) Xu λh2 _ hr2 Y5=>?_;obtain⟨u,iy⟩:=I1.left rfl (R:=[T1]) (h':=h2) (λb hb=>by cases bv.mp hb;exact⟨bZ MX.1.s0,MX.2⟩) λb o e hb=>⟨λ_=>(Y5 b o e hb).1 (by simp),(Y5 b o e hb).2⟩;exact⟨x,C,od,H,T1,rfl,I.os,I.bare,u,iy,hr2 rfl,fx.s0,MX.1.s0,hx,MX.2,hE⟩
end
section
variable {X:Cx} {N:List ar} {fr:List (Option Nat)} {scope:bJ} {elt target iter:aM} {ifs:List aM} {wi:TI} {g:TG} {tt:TT} {te:TE} {pos:cu} {Ex:XS}
end
section
variable {P:ao} {w:aE} {K:W.Frag} {mg:ar->Option ae} {base:aq} {zS:List ar} {qual:ar} {nj:bJ} {f:af} {cd:ae} {A:ay} {outer:List cz} {gG:ag} {gJ:Hp} {E:XK}
variable {N:List ar} {fr:List (Option Nat)} {scope:bJ} {elt target iter:aM} {ifs:List aM} {wi:TI} {g:TG} {tt:TT} {te:TE} {pos:cu}
end
end L2
namespace L3
open PySem PySem.Spec PyProof.Rows L2
section
variable {K:W.Frag} {F α:List af} {H:Hp} {M:Ms} {σ:L2.St} {δ:kZ} {p:af}
theorem Kl:jc (iS (p::F) α M H) (iS F α M H):=λb x h=>by
 obtain⟨z,q⟩:=ig h;refine kb h (λw=>z ?_) q;rcases bi.mp w with w|w
 ·exact bC _ w
 ·exact aY _ (aX _ w)
theorem R.shown(hF:p∉F)(r:R K (p::F) α H σ δ M){x:HO}(hp:H p=aa x):R K F α H σ δ M:=by
 have o1:=r.ok.er hF;obtain⟨o2,_⟩:=o1.laid (p:=p) (x:=x) zY;rw[PU hp] at o2;exact⟨o2,r.len,λi d h=>by obtain⟨v,h1,h2⟩:=r.sl i d h;exact⟨v,h1,Rep.mono (aQ _) Kl _ _ h2⟩⟩
end
section
variable {X:Cx} {N:List ar} {fr:List (Option Nat)} {scope:bJ} {elt target iter:aM} {ifs:List aM} {ti:DI} {g:DG} {tt:DT} {te:XE} {pos:cu} {E:XS}
end
section
variable {P:ao} {w:aE} {K:W.Frag} {mg:ar->Option ae} {base:aq} {zS:List ar} {qual:ar} {nj:bJ} {f:af} {cd:ae} {A:ay} {outer:List cz} {gG:ag} {gJ:Hp} {E:XK}
variable {N:List ar} {fr:List (Option Nat)} {scope:bJ} {elt target iter:aM} {ifs:List aM} {ti:DI} {g:DG} {tt:DT} {te:XE} {pos:cu}
end
end L3
namespace L2
open PySem PySem.Spec PyProof.Rows PySem.W PySem.Calls Builtin
section
variable {prog:ao} {w:aE} {A:ay} {R:eK->ag->Prop} {h:aq} {g:Array eM} {d:gn} {t:Nat} {os:aas}
variable {nm q:ar} {C N f:af} {bs bm Qk:List ae} {jM:Bool} {sn:List ar} {sub:List ae} {ab:Bool} {col:Option Bool} {dd:Option af} {k0 k1 k2 k3 k5:Option ae} {B newId uk:String}
end
section
variable {prog:ao} {w:aE} {A:ay} {E:ae->ag->Prop} {h:aq} {g:Array eM} {d:gn} {t:Nat} {os:aas}
variable {nm q:ar} {C N x:af} {bs bm Qk:List ae} {jM:Bool} {sn:List ar} {sub:List ae} {ab:Bool} {col:Option Bool} {dd:Option af} {k0 k1 k2 k3 k5:Option ae} {B newId uk:String}
end
section
variable {X:Cx}
structure aah(K:W.Frag)(C:af):Prop where
 x:Eu K C
 call:W.specialIn K (.ref C) "__call__"=aa (aa (.builtin "type.__call__"))
 typ:W.instIn K (.ref C) (.type "type")=aa ah
 init:W.findIn K (.ref C) "__init__"=aa (aa (.builtin "ValueError.__init__"))
 kp:W.keepIn K (.ref C)=ah
end
section
variable {P:ao} {w:aE} {K:W.Frag} {mg:ar->Option ae} {base:aq} {N:List ar} {qual:ar} {scope:bJ} {fn:af} {cd:ae} {A:ay} {outer:List cz} {gG:ag} {gJ:Hp} {E:XK}
variable {C:af} {x:ar} {p pos iM:cu} {e:aM} {t:TA}
end
end L2
namespace L3
open PySem PySem.Spec PyProof.Rows L2
section
variable {P:ao} {w:aE} {K:W.Frag} {mg:ar->Option ae} {base:aq} {N:List ar} {qual:ar} {scope:bJ} {fn:af} {cd:ae} {A:ay} {outer:List cz} {gG:ag} {gJ:Hp} {E:XK}
variable {C:af} {x:ar} {p pos iM:cu} {e:aM} {tt:DA}
end
abbrev EF:List ae:=[.type "ValueError",.type "Exception",.type "BaseException",.type "object"]
structure Ga(K:W.Frag)(C P:af):Prop where
 hd:W.hasDictIn K C=ah
 po:Cf K C
 so:W.subIn K (.ref C) (.type "object")=aa ah
 sa:W.findIn K (.ref C) "__setattr__"=aa (aa (.builtin "object.__setattr__"))
 call:W.specialIn K (.ref C) "__call__"=aa (aa (.builtin "type.__call__"))
 typ:W.instIn K (.ref C) (.type "type")=aa ah
 kp:W.keepIn K (.ref C)=ah
 ga:W.findIn K (.ref C) "__getattribute__"=aa (aa (.builtin "BaseException.__getattribute__"))
 gh:W.findIn K (.ref C) "__getattr__"=aa ak
 sb:W.subIn K (.ref C) (.type "BaseException")=aa ah
 cl:W.findIn K (.ref C) "__class__"=aa (aa (.builtin "object.__class__"))
 cg:W.specialIn K (.builtin "object.__class__") "__get__"=aa (aa (.builtin "getset_descriptor.__get__"))
 tk:W.takesIn K (.builtin "object.__class__")=aa ah
 ob:W.mroIn K C (.type "object")=aa ah
 oc:∃nm q N bs bm jM sn sub ab col dd k0 k1 k2 k3 k5,K.lookup C=aa (cA nm q C N bs bm jM sn sub ab col dd k0 k1 k2 k3 k5 "ValueError.__new__")/\W.tailIn K EF bm=ah/\(aD C::bm).contains (.ref P)=ah/\(aD C::bm).contains (.type "BaseException")=ah
theorem QD{K:W.Frag}{C P:af}{nm q:ar}{N:af}{bs bm:List ae}{jM:Bool}{sn:List ar}{sub:List ae}{ab:Bool}{col:Option Bool}{dd:Option af}{k0 k1 k2 k3 k5:Option ae}(l:K.lookup C=aa (cA nm q C N bs bm jM sn sub ab col dd k0 k1 k2 k3 k5 "ValueError.__new__"))
(t:W.tailIn K EF bm=ah)(c:(aD C::bm).contains (.ref P)=ah)(b:(aD C::bm).contains (.type "BaseException")=ah):∃nm q N bs bm jM sn sub ab col dd k0 k1 k2 k3 k5,K.lookup C=aa (cA nm q C N bs bm jM sn sub ab col dd k0 k1 k2 k3 k5 "ValueError.__new__")/\W.tailIn K EF bm=ah/\(aD C::bm).contains (.ref P)=ah/\(aD C::bm).contains (.type "BaseException")=ah:=
 ⟨_,_,_,_,_,_,_,_,_,_,_,_,_,_,_,_,l,t,c,b⟩
section
variable {K:W.Frag} {C P:af}
theorem Ga.cls(h:Ga K C P):Et K C:=⟨h.hd,h.po,h.so,h.sa⟩
theorem Ga.get(h:Ga K C P):Ci K C:=⟨h.hd,h.ga,h.gh,h.sb,h.cl,h.cg,h.tk,h.ob⟩
theorem Ga.obj(h:Ga K C P):Eu K C:=by obtain⟨nm,q,N,bs,bm,jM,sn,sub,ab,col,dd,k0,k1,k2,k3,k5,l,t,_⟩:=h.oc;exact⟨nm,q,N,bs,bm,jM,sn,sub,ab,col,dd,k0,k1,k2,k3,k5,l,λh X=>W.tail_of_in X t⟩
theorem Ga.sub{Q:af}(h:Ga K C P)(b:Ga K P Q):vk K C P:=by obtain⟨nm,q,N,bs,bm,jM,sn,sub,ab,col,dd,k0,k1,k2,k3,k5,l,t,c,_⟩:=h.oc;obtain⟨nm',q',N',bs',bm',TU,sn',Qq,ab',Xg,dd',k0',k1',k2',k3',k5',l',t',c',b'⟩:=b.oc;exact⟨⟨_,_,_,_,_,_,_,_,_,_,_,_,_,_,_,_,l,c⟩,⟨_,_,_,_,_,_,_,_,_,_,_,_,_,_,_,_,l',b'⟩⟩
structure Xv(K:W.Frag)(C f:af)(q:ar)(st:br):Prop where
 init:W.findIn K (.ref C) "__init__"=aa (aa (.ref f))
 ex:∃fd,og K "__init__" q st f fd
 fn:W.isFn K (.ref f)=ah
theorem QH{qual:ar}{st:br}{f:af}{oc:ae}{od an:Option af}{uH:Array (Option ae)}{kV doc pm g8 ct:ae}(i:W.findIn K (.ref C) "__init__"=aa (aa (.ref f)))(l:K.lookup f=aa ⟨oc,od,.func (W.fnOf "__init__" qual (jf st) (g6 st) (gM st) .none kV doc pm an g8 ct),uH⟩)
(c:W.codeIn K g8 qual=ah)(k:W.keepIn K (.ref f)=ah)(n:W.isFn K (.ref f)=ah):Xv K C f qual st:=⟨i,⟨_,Eb l c k⟩,n⟩
theorem Ga.mk_(h:Ga K C P){f:af}{q:ar}{st:br}(i:Xv K C f q st):Oi K C f:=⟨h.obj,h.call,h.typ,i.init,i.fn,h.kp⟩
end
section
variable {X:Cx} {value:aM} {te:TE} {pos:cu}
end
abbrev sl(ss:List ar):D:=.lst (ss.map .str)
def spT (K:W.Frag)(C:af)(f1 f2:ar):Sp:=λvs H Q _=>∃x w a ss,vs=[.ref x,.str w,.ref a]/\w.length<=4000/\H a=aa (.lst (ss.map V.str))/\pl (sl ss)=ah/\(cK.shown (toP (sl ss))).length<=4000/\H x=aa (j0 x C ak)/\
 ∀dx l,H dx=ak->H l=ak->l≠dx->Q .non (cH (upd H l (.lst (ss.map V.str))) x dx C [(f1,.str w),(f2,.ref l)])
section
variable {P:ao} {w:aE} {K:W.Frag} {mg:ar->Option ae} {base:aq}
end
section
variable {P:ao} {w:aE} {K:W.Frag} {mg:ar->Option ae} {base:aq} {N:List ar} {qual:ar} {scope:bJ} {fn:af} {cd:ae} {A:ay} {outer:List cz} {gG:ag} {gJ:Hp} {E:XK}
variable {k:Nat} {f C:af} {fd:bz} {ps ns:List ar} {x f1 f2:ar} {p pos iM:cu} {e:aM} {es:List aM} {tt:DA}
structure T9(P:ao)(w:aE)(K:W.Frag)(mg:ar->Option ae)(base:aq)(k:Nat)(x:ar)(C:af)(f1 f2:ar):Prop where
 m:mg x=aa (.ref C)
 ok:∃f fd ps,Oi K C f/\Binds K fd ps []/\iW P w K mg base pF k f fd ps (spT K C f1 f2)
end
section
variable {X:Cx}
end
end L3
namespace FJ
open PySem PySem.Spec L2 L3
noncomputable def low(x:ar):Bool:=x.cps.toList.all λc=>decide (97<=c)&&decide (c<=122)
noncomputable def Km(x:ar):Bool:=decide (1<=x.length)&&decide (x.length<=8)&&low x
noncomputable def pA(b:Int):Bool:=decide (0<=b)&&decide (b<=3)
noncomputable def okN(n:Int):Bool:=decide (-2147483648<=n)&&decide (n<=2147483647)
inductive x6:ar->D->Prop
 |w {x:ar}:Km x=ah->x6 "word" (.str x)
 |b {i:Int}:pA i=ah->x6 "box" (.int i)
 |n {i:Int}:okN i=ah->x6 "number" (.int i)
 |t {b:Bool}:x6 "truth" (.bl b)
inductive Ua:ar->D->Prop
 |a {f:ar} {d:D}:x6 f d->Ua f d
 |ns {ds:List D}:1<=ds.length->ds.length<=60->(∀d∈ds,x6 "number" d)->Ua "numbers" (.lst ds)
 |ws {ds:List D}:1<=ds.length->ds.length<=60->(∀d∈ds,x6 "word" d)->Ua "words" (.lst ds)
theorem x6.nl{f:ar}{d:D}(h:x6 f d):nl d=ah:=by cases h<;>rfl
theorem Co{f:ar}{ds:List D}(h:∀d∈ds,x6 f d):nK ds=ah:=by rw[vI];exact dR.mpr λd hd=>(h d hd).nl
theorem Ua.nl{f:ar}{d:D}(h:Ua f d):nK [.str f,d]=ah:=by
 have:L3.nl d=ah:=by
  cases h with
  |a h=>exact h.nl
  |ns _ _ h=>exact Co h
  |ws _ _ h=>exact Co h
 show(ah&&(L3.nl d&&ah))=ah;rw[this];rfl
open PySem PySem.Spec PyProof.Rows.KTD L2 L3
local macro_rules | `(tactic| walk_at "wk1") => `(tactic| ((conv => whnf); first | refine ⟨_, rfl, ?_⟩ | refine ⟨rfl, ?_⟩ | refine ⟨am rfl, ?_⟩))
local macro_rules | `(tactic| walk_at "wk") => `(tactic| ((repeat walk_at "wk1"); try (conv => whnf)))
inductive Rw
 |mark (w:ar) (b:Bool)|set (b n:Int)|add (b c:Int)|take (b c:Int)|say (b:Int)|ask (b:Int)|jump (w:ar)|jumpif (b:Int) (w:ar)|call (w:ar)|back|stop
 |load (b c:Int) (w:ar)|jumpby (b:Int) (w:ar)|alike (b:Int) (w v:ar)|numbers (ns:List Int)|table (ws:List ar)
 deriving DecidableEq
noncomputable def Rw.d:Rw->D
 |.mark w b=>.tup [.str "mark",.str w,.bl b]|.set b n=>.tup [.str "set",.int b,.int n]|.add b c=>.tup [.str "add",.int b,.int c]|.take b c=>.tup [.str "take",.int b,.int c]
 |.say b=>.tup [.str "say",.int b]|.ask b=>.tup [.str "ask",.int b]|.jump w=>.tup [.str "jump",.str w]|.jumpif b w=>.tup [.str "jumpif",.int b,.str w]|.call w=>.tup [.str "call",.str w]
 |.back=>.tup [.str "back"]|.stop=>.tup [.str "stop"]|.load b c w=>.tup [.str "load",.int b,.int c,.str w]|.jumpby b w=>.tup [.str "jumpby",.int b,.str w]|.alike b w v=>.tup [.str "alike",.int b,.str w,.str v]
 |.numbers ns=>.tup [.str "numbers",.lst (ns.map .int)]|.table ws=>.tup [.str "table",.lst (ws.map .str)]
noncomputable def Rw.t:Rw->D
 |.numbers ns=>.tup [.str "numbers",.tup (ns.map .int)]|.table ws=>.tup [.str "table",.tup (ws.map .str)]
 |r=>r.d
noncomputable def Rw.ok:Rw->Bool
 |.mark w _=>Km w|.set b n=>pA b&&okN n|.add b c=>pA b&&pA c|.take b c=>pA b&&pA c|.say b=>pA b|.ask b=>pA b|.jump w=>Km w|.jumpif b w=>pA b&&Km w|.call w=>Km w
 |.back=>ah|.stop=>ah|.load b c w=>pA b&&pA c&&Km w|.jumpby b w=>pA b&&Km w|.alike b w v=>pA b&&Km w&&Km v
 |.numbers ns=>decide (1<=ns.length)&&decide (ns.length<=60)&&ns.all okN
 |.table ws=>decide (1<=ws.length)&&decide (ws.length<=60)&&ws.all Km
structure CA where
 (Row Mark Code Data Vv Last Set Alike Vw Leave oF Table:af)
inductive Kn
 |Mark|Vv|Last|Set|Alike|Vw|Leave|oF|Table
noncomputable def CA.at(c:CA):Kn->af
 |.Mark=>c.Mark|.Vv=>c.Vv|.Last=>c.Last|.Set=>c.Set|.Alike=>c.Alike|.Vw=>c.Vw|.Leave=>c.Leave|.oF=>c.oF|.Table=>c.Table
noncomputable def Rw.kn:Rw->Kn
 |.mark _ _=>.Mark|.set _ _=>.Set|.add _ _|.take _ _|.say _|.ask _=>.Vv|.jump _|.jumpby _ _=>.Leave|.jumpif _ _|.call _|.load _ _ _=>.Vw|.back|.stop=>.Last
 |.alike _ _ _=>.Alike|.numbers _=>.oF|.table _=>.Table
noncomputable def Rw.cls(c:CA)(r:Rw):af:=c.at r.kn
noncomputable def Rw.ins(c:CA)(r:Rw):D:=.ins (r.cls c) ["told"] [r.t]
theorem qD{β:Type}{M:List β}{x:β}:(M++[x])[M.length]?=aa x:=by simp
theorem Gb{β:Type}{M:List β}{x y:β}:(M++[x]).set M.length y=M++[y]:=by simp
noncomputable def Rw.code:Rw->Bool
 |.mark _ _|.numbers _|.table _=>ai
 |_=>ah
structure FOk(K:W.Frag)(c:CA):Prop where
 f:∀r:Rw,mo K (r.cls c) "told"
noncomputable def Rw.Xw:Rw->Bool
 |.mark _ _|.numbers _|.table _|.jump _|.jumpby _ _|.back|.stop=>ai
 |_=>ah
noncomputable def Rw.names:Rw->List D
 |.jump w|.jumpif _ w|.call w|.load _ _ w|.jumpby _ w=>[.str w]
 |.alike _ w v=>[.str w,.str v]
 |.table ws=>ws.map .str
 |_=>[]
noncomputable def Rw.hX(r:Rw):List D:=match r.t with|.tup ds=>ds|_=>[]
def p0:DS:=(gN (ib 2 (gB (gI (λ_ j=>0<j) λi j=>.int (i%j)) (gB qR (gB gA (gB gA (gB (gI (λ_ j=>0<j) λi j=>.int (i%j)) (gr 0) (dC (.int 2147483647))) (gB qR (dC (.int 7919)) (gr 1))) (dC (.int 1))) (dC (.int 48271))) (dC (.int 2147483647))))
 (gN (ib 2 (gB (gI (λ_ j=>0<j) λi j=>.int (i%j)) (gB qR (gr 2) (gB gA (gB (gI GU λi j=>.int (i/j)) (gr 2) (dC (.int 1009))) (dC (.int 69621)))) (dC (.int 2147483647))))
 (ip (gB (gI (λ_ j=>0<j) λi j=>.int (i%j)) (gB qR (gB gA (gr 2) (gB qR (dC (.int 31)) (gr 1))) (gB gA (gB (gI GU λi j=>.int (i/j)) (gr 2) (dC (.int 16807))) (dC (.int 40692)))) (dC (.int 2147483629))))))
def qE:GP:=λds Q=>∃a k:Int,ds=[.int a,.int k]/\0<=k/\k<=1000/\∀n:Int,0<=n->n<2147483629->Q (.int n)
theorem QJ{β:Type}{xs:List β}{k:Nat}{x:β}(h:xs[k]?=aa x):sF xs (k:Int)=aa x:=by have hk:=(aC.mp h).1;unfold sF BH;rw[if_pos (by omega),if_pos (by omega)];simpa using h
structure CF(K:W.Frag)(C:af):Prop where
 pg:W.plainGet K C ar.empty=ah
 hd:W.hasDictIn K C=ah
 po:W.plainOver K C=ah
 sa:W.findIn K (.ref C) "__setattr__"=aa (aa (.builtin "object.__setattr__"))
 Y6:W.makesIn K C=ah
 kc:W.keepIn K (.ref C)=ah
 ha:W.findIn K (.ref C) "__class__"=aa (aa (.builtin "object.__class__"))
 hn:W.specialIn K (.builtin "object.__class__") "__get__"=aa (aa (.builtin "getset_descriptor.__get__"))
 Yv:W.takesIn K (.builtin "object.__class__")=aa ah
 hm:W.mroIn K C (.type "object")=aa ah
theorem CF.cls{K:W.Frag}{C:af}(h:CF K C):D2 K C:=⟨h.pg,h.hd,h.po,h.sa⟩
structure RF(K:W.Frag)(C fI fW fA fG fL:af):Prop where
 c:CF K C
 nT:W.findIn K (.ref C) "told"=aa ak
 aI:W.findIn K (.ref C) "__init__"=aa (aa (.ref fI))
 aW:W.findIn K (.ref C) "words"=aa (aa (.ref fW))
 aA:W.findIn K (.ref C) "asked"=aa (aa (.ref fA))
 aG:W.findIn K (.ref C) "goes_on"=aa (aa (.ref fG))
 aL:W.findIn K (.ref C) "lengths"=aa (aa (.ref fL))
structure MF(K:W.Frag)(n q:ar)(st:br)(f:af):Prop where
 ex:∃fd,og K n q st f fd
 fn:W.isFn K (.ref f)=ah
 kp:W.keepIn K (.ref f)=ah
theorem Ub{K:W.Frag}{x qual:ar}{st:br}{f:af}{oc:ae}{od an:Option af}{uH:Array (Option ae)}{kV doc pm g8 ct:ae}(l:K.lookup f=aa ⟨oc,od,.func (W.fnOf x qual (jf st) (g6 st) (gM st) .none kV doc pm an g8 ct),uH⟩)
(c:W.codeIn K g8 qual=ah)(k:W.keepIn K (.ref f)=ah)(i:W.isFn K (.ref f)=ah):MF K x qual st f:=⟨⟨_,Eb l c k⟩,i,k⟩
section
variable {P:ao} {w:aE} {K:W.Frag} {mg:ar->Option ae} {base:aq}
theorem Ko{k:Nat}{C f:af}{m:ar}{fd:bz}{ps:List ar}{g g':GN}(c:D2 K C)(hm:Meth K C m f)(hb:Binds K fd ps [])(F:iW P w K mg base pF k f fd ps (pz K g))(mm:lV g')(i:∀ds M Q,g' ds M Q->g ds M Q):pV P w K mg base k C m g':=
 ⟨mm,c,f,fd,ps,hm,hb,F.imp λvs H Q E ⟨F,α,M,ds,o,r,q⟩=>⟨F,α,M,ds,o,r,i _ _ _ q⟩⟩
end
def wO (K:W.Frag):DS:=(gN (mq K "store" (gr 0) (gr 1))
 (gN (mq K "inputs" (gr 0) (gr 2))
 (gN (mq K "used" (gr 0) (dC (.int 0)))
 (gN (mq K "boxes" (gr 0) (ue (iw (gp (dC (.int 0)) (gp (dC (.int 0)) (gp (dC (.int 0)) (gp (dC (.int 0)) gw)))))))
 (gN (mq K "kept" (gr 0) (ue (iw gw)))
 (gN (mq K "answers" (gr 0) (ue (iw gw)))
 (mq K "end" (gr 0) (dC .non))))))))
def oG (K:W.Frag)(lc:lZ)(ko:lZ)(kg:lZ)(kq:lZ)(jD:lZ):DS:=(gN (ib 3 (gB iZ (gr 1) (dC (.int 0))))
 (gN (iC (gD (gB oh (gr 3) (dC (.str "jump")))) (ip (gB iZ (gr 1) (dC (.int 1)))) gW)
 (gN (iC (gD (gB oh (gr 3) (dC (.str "jumpif")))) (ip (PN (gD (gB oh (gB iZ (i8 K "boxes" (gr 0)) (gB iZ (gr 1) (dC (.int 1)))) (dC (.int 0)))) (gr 2) (gB iZ (gr 1) (dC (.int 2))))) gW)
 (gN (iC (gD (gB oh (gr 3) (dC (.str "call")))) (ip (mT lc "do_call" (gr 0) (gp (gB iZ (gr 1) (dC (.int 1))) (gp (gr 2) gw)))) gW)
 (gN (iC (gD (gB oh (gr 3) (dC (.str "back")))) (ip (mT ko "do_back" (gr 0) (gp (gr 2) gw))) gW)
 (gN (iC (gD (gB oh (gr 3) (dC (.str "jumpby")))) (ip (mT kq "do_jumpby" (gr 0) (gp (gB iZ (i8 K "boxes" (gr 0)) (gB iZ (gr 1) (dC (.int 1)))) (gp (mT kg "table_at" (i8 K "store" (gr 0)) (gp (gB iZ (gr 1) (dC (.int 2))) gw)) (gp (gr 2) gw))))) gW)
 (gN (iC (gD (gB oh (gr 3) (dC (.str "stop")))) (mq K "end" (gr 0) (dC (.str "stop"))) (lz (mT jD "do_in_boxes" (gr 0) (gp (gr 1) gw))))
 (ip (gr 2)))))))))
def qY (K:W.Frag):DS:=(gN (iC (gD (gB oh (iU mN (gp (i8 K "kept" (gr 0)) gw)) (dC (.int 40)))) (gN (mq K "end" (gr 0) (dC (.str "deep")))
 (ip (gr 2))) gW)
 (gN (lz (HZ "list" jr (i8 K "kept" (gr 0)) (gp (gr 2) gw)))
 (ip (gr 1))))
def vm (K:W.Frag):DS:=(gN (iC (sN (gD (jN yW BS (dC (.int 0)) (gr 1) (iU mN (gp (gr 2) gw))))) (gN (mq K "end" (gr 0) (dC (.str "place")))
 (ip (gr 3))) gW)
 (ip (gB iZ (gr 2) (gr 1))))
def kH (K:W.Frag)(lC:lZ)(jy:lZ)(lf:lZ):DS:=(gN (ib 2 (gB iZ (gr 1) (dC (.int 0))))
 (gN (ib 3 (gB iZ (gr 1) (dC (.int 1))))
 (iC (gD (gB oh (gr 2) (dC (.str "set")))) (qQ (gB iZ (gr 1) (dC (.int 2))) (pW (i8 K "boxes" (gr 0)) (gr 3))) (iC (gD (gB oh (gr 2) (dC (.str "add")))) (B9 (λa b=>.int (a+b)) (i8 K "boxes" (gr 0)) (gr 3) (gB iZ (i8 K "boxes" (gr 0)) (gB iZ (gr 1) (dC (.int 2))))) (iC (gD (gB oh (gr 2) (dC (.str "take")))) (B9 (λa b=>.int (a- b)) (i8 K "boxes" (gr 0)) (gr 3) (gB iZ (i8 K "boxes" (gr 0)) (gB iZ (gr 1) (dC (.int 2))))) (iC (gD (gB oh (gr 2) (dC (.str "say")))) (lz (HZ "list" jr (i8 K "answers" (gr 0)) (gp (gB iZ (i8 K "boxes" (gr 0)) (gr 3)) gw))) (iC (gD (gB oh (gr 2) (dC (.str "ask")))) (lz (mT lC "do_ask" (gr 0) (gp (gr 3) gw))) (iC (gD (gB oh (gr 2) (dC (.str "load")))) (lz (mT lf "do_load" (gr 0) (gp (gr 3) (gp (gB iZ (i8 K "boxes" (gr 0)) (gB iZ (gr 1) (dC (.int 2)))) (gp (mT jy "numbers_at" (i8 K "store" (gr 0)) (gp (gB iZ (gr 1) (dC (.int 3))) gw)) gw))))) (qQ (PN (gD (gB oh (gB iZ (gr 1) (dC (.int 2))) (gB iZ (gr 1) (dC (.int 3))))) (dC (.int 1)) (dC (.int 0))) (pW (i8 K "boxes" (gr 0)) (gr 3)))))))))))
def x8 (K:W.Frag):DS:=(gN (iC (sN (gD (jN yW BS (dC (.int 0)) (gr 2) (iU mN (gp (gr 3) gw))))) (gN (mq K "end" (gr 0) (dC (.str "place")))
 N7) gW)
 (qQ (gB iZ (gr 3) (gr 2)) (pW (i8 K "boxes" (gr 0)) (gr 1))))
def rW (K:W.Frag)(wP:af)(zf:GN)(ma:lZ)(nQ:lZ):DS:=(gN (ib 4 (JJ wP zf (gp (gr 0) (gp (gr 2) gw))))
 (gN (uf (wA (gp (gr 3) gw)) (gR 5) (gN (qQ (mT ma "code_at" (gr 0) (gp (gr 1) gw)) (pQ 2 (iO (gR 6) (iO (gR 7) qX))))
 (gN (ib 1 (mT nQ "do_row" (gr 4) (gp (gr 6) (gp (gr 7) gw))))
 (iC (gD (gB Ab (i8 K "end" (gr 4)) (dC .non))) (ip (iN (gp (i8 K "answers" (gr 4)) (gp (i8 K "end" (gr 4)) gw)))) gW))))
 (ip (iN (gp (i8 K "answers" (gr 4)) (gp (dC (.str "steps")) gw))))))
end FJ
namespace L2
open PySem PySem.Spec PyProof.Rows PySem.W
def ya (h:aq)(e:af):Prop:=∃oe vs,h.get? e=aa oe/\oe.data=.fields vs/\vs[2]?=aa .none
section
variable {M:fb} {A:ay} {E:ae->ag->Prop} {s:ag}
theorem Kp{base:aq}{env:cz}{outer:List cz}{L e:af}{oe:bE}{vs:Array ae}{head:ae}{sT:Bool}{Q:Unit->ag->Prop}
(wG:A.frames=aa (env::outer))(hl:s.heap.FunFrames base (env::outer))(hf:env.frame=aa L)
(he:s.heap.get? e=aa oe)(hd:oe.data=.fields vs)(DH:1<vs.size)
(h:∀h' T,s.heap.objs.size<=T->Rec h' e oe.cls oe.dict T->(∃o',h'.get? e=aa o'/\o'.data=.fields (vs.setIfInBounds 1 (.ref T)))->Left (oi (env::outer)) [e] s.heap h'->Q () {s with heap:=h'}):
  wpAny M A (do let a<-frameOf env;let pl<-fS L sT;let b<-cv head a .none (cJ L) .none pl;aaC (.ref e) 1 b) (λ_ s'=>wpAny M A (cY (.ref e) ak) Q E s') E s:=by
 have JZ:e∉(env::outer).filterMap (·.frame):=λhm=>by obtain⟨_,o,ho,Cb⟩:=hl.mem hm;rw[he] at ho;injection ho with ho;subst ho;exact Cb vs hd
 refine aj (eP wG hl hf λiR mU=>?_);refine aj (eL λpl kC=>?_);unfold cv aav;refine aj (ci ?_ (kC.sizeOk5 _ _ _ _ _));have uQ:iR.get? e=aa oe:=(mU.2.1 e JZ).trans he;have uR:=au (h:=iR) {cls:=.type "traceback",dict:=ak,data:=.fields ([head,.ref L,.none,cJ L,.none]++(if pl.isEmpty then aU 6 aV else pl)).toArray} uQ;refine cb uR hd DH ?_;have Bl:iR.objs.size≠e:=dB (aJ uQ);have pX:=bF hd (·.setIfInBounds 1 (aD iR.objs.size));have uS:=bq (aS (·.setIfInBounds 1 (aD iR.objs.size))) uR (bP pX);have wH:=(aw (iR.push {cls:=.type "traceback",dict:=ak,data:=.fields ([head,.ref L,.none,cJ L,.none]++(if pl.isEmpty then aU 6 aV else pl)).toArray})
  (aS (·.setIfInBounds 1 (aD iR.objs.size))) (bG Bl)).trans (bg iR rfl)
 unfold cY;refine aj (bX uS pX (x:=.ref iR.objs.size) (by simp[DH]) ?_);rw[if_pos (show(aD iR.objs.size !=aV)=ah from by simp)];have keep:∀b o,b≠e->iR.get? b=aa o->
   (((iR.push {cls:=.type "traceback",dict:=ak,data:=.fields ([head,.ref L,.none,cJ L,.none]++(if pl.isEmpty then aU 6 aV else pl)).toArray}).update e (aS (·.setIfInBounds 1 (aD iR.objs.size)))).update iR.objs.size
    (aS (·.setIfInBounds 3 ((ak:Option af).elim aV λf=>cJ f)))).get? b=aa o:=λb o xN hb=>by have Xa:iR.objs.size≠b:=dB (aJ hb);rw[aw _ _ Xa,aw _ _ (bG xN)];exact au _ hb
 refine cb wH rfl (by simp only [aO,bw,ax,cw]<;>omega) (h _ iR.objs.size ?_ ?_ ⟨_,(aw _ _ Bl).trans uS,pX⟩ λb o hb hn=>?_)
 ·exact c8 mU.1.symm
 ·refine⟨_,_,_,_,?_,bE.cls_mapFields _ _,mr _ _,pX,by simp[DH],Bl,bq _ wH (bP (bF rfl _)),bF rfl _,by first|(simp;done)|(rcases kC with rfl|⟨_,_,_,_,_,_,_,rfl⟩<;>simp)⟩;rw[aw _ _ Bl];exact uS
 ·have xN:b≠e:=λz=>hn (by simp[z]);obtain⟨sl,hs⟩:=mU.2.2 b o hb;exact⟨λhS=>keep b o xN ((mU.2.1 b hS).trans hb),sl,keep b _ xN hs⟩
theorem An{base:aq}{env:cz}{outer:List cz}{L e:af}{cls:ae}{od:Option af}{Q:Unit->ag->Prop}
(wG:A.frames=aa (env::outer))(hl:s.heap.FunFrames base (env::outer))(hf:env.frame=aa L)(hr:Er s.heap e cls od)
(h:∀h' T,s.heap.objs.size<=T->Rec h' e cls od T->ya h' e->Left (oi (env::outer)) [e] s.heap h'->Q () {s with heap:=h'}):wpAny M A (leaving env (.ref e)) Q E s:=by obtain⟨a0,he⟩:=hr;unfold leaving cT;simp only [hf];refine aj (aj (bX he rfl (x:=.none) rfl ?_));rw[if_neg (by decide)];exact Kp wG hl hf he rfl (by show 1<6;decide) λh' T h1 h2 ⟨o',e1,e2⟩ h3=>h h' T h1 h2 ⟨o',_,e1,e2,rfl⟩ h3
theorem wQ{base:aq}{env:cz}{outer:List cz}{L e jG:af}{cls:ae}{od:Option af}{Q:Unit->ag->Prop}
(wG:A.frames=aa (env::outer))(hl:s.heap.FunFrames base (env::outer))(hf:env.frame=aa L)(hr:Rec s.heap e cls od jG)(hc:ya s.heap e)
(h:∀h' T,s.heap.objs.size<=T->Rec h' e cls od T->ya h' e->Left (oi (env::outer)) [e,jG] s.heap h'->Q () {s with heap:=h'}):wpAny M A (cT (.ref e) env) (λ_ s'=>wpAny M A (cY (.ref e) ak) Q E s') E s:=by
 obtain⟨oe,vs,oT,ts,he,rfl,rfl,hd,h1,Bl,hT,Ia,h3⟩:=hr;unfold cT;simp only [hf];refine aj (bX he hd h1 ?_);rw[if_pos (show(aD jG !=aV)=ah from by simp)];refine aj (bX hT Ia h3 ?_);rw[if_neg (show¬((aV==cJ L)=ah) from by simp[cJ])];refine aj (cb hT Ia (bB.mp h3).1 ?_);have other:∀b,b≠jG->(s.heap.update jG (aS (·.setIfInBounds 3 aV))).get? b=s.heap.get? b:=λb hb=>aw _ _ (bG hb);have pY:∀b o,s.heap.get? b=aa o->(∀vs,o.data≠.fields vs)->b≠jG:=λb o hb Cb q=>by rw[q,hT] at hb;injection hb with hb;subst hb;exact Cb ts Ia
 refine Kp (s:={s with heap:=s.heap.update jG (aS (·.setIfInBounds 3 aV))}) wG (hl.of_keeps λb o hb Cb=>⟨o,(other b (pY b o hb Cb)).trans hb,rfl⟩) hf ((other e (bG Bl)).trans he) hd (bB.mp h1).1
  λh' T hn hr ⟨o',q1,q2⟩ hk=>h h' T ?_ hr ⟨o',_,q1,q2,?_⟩ λb o hb Oe=>?_
 ·have e:=cj s.heap jG (aS (·.setIfInBounds 3 aV));have hn:(s.heap.update jG (aS (·.setIfInBounds 3 aV))).objs.size<=T:=hn;rw[e] at hn;exact hn
 ·obtain⟨oe2,HY,g1,g2,g3⟩:=hc;rw[he] at g1;cases g1;rw[hd] at g2;cases g2;rw[Array.getElem?_setIfInBounds_ne (by decide)];exact g3
 ·exact hk b o ((other b λz=>Oe (by simp[z])).trans hb) λz=>Oe (by simp at z;simp[z])
theorem Cp{base:aq}{env:cz}{outer:List cz}{L e jG:af}{cls:ae}{od:Option af}{Q:Unit->ag->Prop}
(wG:A.frames=aa (env::outer))(hl:s.heap.FunFrames base (env::outer))(hf:env.frame=aa L)(hr:Rec s.heap e cls od jG)(hc:ya s.heap e)
(h:∀h' T,s.heap.objs.size<=T->Rec h' e cls od T->ya h' e->Left (oi (env::outer)) [e,jG] s.heap h'->Q () {s with heap:=h'}):wpAny M A (leaving env (.ref e)) Q E s:=
 aj (wQ wG hl hf hr hc h)
end
def QK (P:ao)(w:aE):v3:=λouter H s E e s'=>∃x C od H' T,e=.ref x/\s'.os=s.os/\dA s'.gens/\Un (oi outer) [] H H' s.heap s'.heap/\pG P w H' s'.heap/\
 Rec s'.heap x C od T/\ya s'.heap x/\s.heap.objs.size<=x/\s.heap.objs.size<=T/\H' x=ak/\H' T=ak/\E C od H'
section
variable {P:ao} {w:aE} {K:W.Frag} {mg:ar->Option ae} {base:aq} {N:List ar} {qual:ar} {scope:bJ} {f:af} {cd:ae} {A:ay} {outer:List cz} {gG:ag} {gJ:Hp} {E:XK}
abbrev vn(P:ao)(w:aE)(K:W.Frag)(mg:ar->Option ae)(base:aq)(N:List ar)(qual:ar)(scope:bJ)(f:af)(cd:ae)(A:ay)(outer:List cz)(s:ag)(H:Hp)(E:XK):Cx:=py (QK P w) P w K mg base N qual scope f cd A outer s H E
theorem Hn{pins:List (af×bE)}{σ:St}{H:Hp}{s:ag}{x:af}{C:ae}{od:Option af}(I:Inv (vn P w K mg base N qual scope f cd A outer gG gJ E) pins σ H s)
(hr:Er s.heap x C od)(h0:gG.heap.objs.size<=x)(hx:H x=ak)(hE:E C od H):(vn P w K mg base N qual scope f cd A outer gG gJ E).xe (.ref x) s:=by refine An (base:=base) I.ok.frames I.stack rfl hr λh' T hT Bn Ll hL=>?_;obtain⟨u,iy⟩:=I.left rfl (R:=[x]) (λb hb=>by cases bv.mp hb;exact⟨bZ h0,hx⟩) hL;exact⟨x,C,od,H,T,rfl,I.os,I.bare,u,iy,Bn,Ll,h0,aT I.wI hT,hx,I.iy.fresh hT,hE⟩
theorem Uc:om (QK P w) (vn P w K mg base N qual scope f cd A outer gG gJ E) E:=λpins σ H s e s' I h=>by
 obtain⟨x,C,od,H',T,rfl,ho,hg,u,iy,hr,hc,hx,hT,DL,J0,hE⟩:=h;have I':=I.uE ho u iy hg (λb hb=>by cases hb);refine Cp (base:=base) I'.ok.frames I'.stack rfl hr hc λh' T' F2 Bn Ll hL=>?_;obtain⟨u',IZ⟩:=I'.left rfl (R:=[x,T]) (λb hb=>by
  rcases ba.mp hb with rfl|hb
  ·exact⟨bZ (aT I.wI hx),DL⟩
  ·cases bv.mp hb;exact⟨bZ (aT I.wI hT),J0⟩) hL
 exact⟨x,C,od,H',T',rfl,I'.os,I'.bare,u',IZ,Bn,Ll,aT I.wI hx,aT I'.wI F2,DL,I'.iy.fresh F2,hE⟩
end
section
variable {P:ao} {w:aE} {K:W.Frag} {mg:ar->Option ae} {base:aq} {N:List ar} {qual:ar} {scope:bJ} {fn:af} {cd:ae} {A:ay} {outer:List cz} {gG:ag} {gJ:Hp} {E:XK}
variable {k:Nat} {f C:af} {fd:bz} {ps:List ar} {sp:Sp} {x:ar} {p pos iM:cu} {e:aM} {es:List aM} {t:TA}
theorem Ho(M:Oi K C f)(F:iW P w K mg base pF k f fd ps sp)(mono:∀vs H (Q Q':VK),(∀v H,Q v H->Q' v H)->sp vs H Q E0->sp vs H Q' E0)
(hr:iG (k+1) (vn P w K mg base N qual scope fn cd A outer gG gJ E).A)(hb:Binds K fd ps [])(hg:Gl (vn P w K mg base N qual scope fn cd A outer gG gJ E) x)(hm:mg x=aa (.ref C))
(ha:PA (vn P w K mg base N qual scope fn cd A outer gG gJ E) (e::es) t)(ni:(x==("__debug__":ar))=ai:=by decide)
(he:av (e::es) (vn P w K mg base N qual scope fn cd A outer gG gJ E).env=(ai,eval e (vn P w K mg base N qual scope fn cd A outer gG gJ E).env)::av es (vn P w K mg base N qual scope fn cd A outer gG gJ E).env:=by rfl)
(kC:(bN iM (av es (vn P w K mg base N qual scope fn cd A outer gG gJ E).env)).any (·.1)=ai:=by rfl):
  PS (vn P w K mg base N qual scope fn cd A outer gG gJ E) (.Raise (aa (.Call (.Name x p) (e::es) [] iM)) ak pos) (Qp C sp E t):=by
 intro pins s σ H D I h;obtain⟨nm,q,N',bs,bm,jM,sn,sub,ab,col,dd,k0,k1,k2,k3,k5,hC,T⟩:=M.x.obj;have pM:bm.contains (.type "BaseException")=ah:=(T base I.ok.mod.DU).hasType PySem.F.excBase_ValueError.hasBase;have hh:(vn P w K mg base N qual scope fn cd A outer gG gJ E).A.handled=ak:=I.ok.hd rfl;rw[aaE];refine aj (c6 (Hj (C:=C) (nm:=nm) (q:=q) (N:=N') (bs:=bs) (bm:=bm) (jM:=jM) (sn:=sn) (sub:=sub) (ab:=ab) (col:=col) (dd:=dd) (k0:=k0) (k1:=k1) (k2:=k2) (k3:=k3) (k5:=k5) (newId:="ValueError.__new__") pM hh ?_));refine aj (ja (Q:=EP (vn P w K mg base N qual scope fn cd A outer gG gJ E) pins σ λv H2=>∃y od,v=.ref y/\gG.heap.objs.size<=y/\H2 y=aa (j0 y C od)/\E (.ref C) od (DM y H2)) ?_ λv s3 h3=>aj (c6 (az ?_)))
 ·refine b2 (lW I hg hm ?_ ni);refine W.callWith_K (h₀:=base) I.ok.mod.DU M.kp (ja (ha iM pins s σ H _ I h) λus s1 ⟨vs,H1,I1,r,hz,q⟩=>⟨I1.pD,?_⟩) he kC;refine MH (X:=vn P w K mg base N qual scope fn cd A outer gG gJ E) M F hr hb yS I1 r (by rw[dz,<-r.length];exact hz) λy hy hn=>mono _ _ _ _ (λv H2 ⟨e1,od,e2,e3⟩=>⟨e1,y,od,rfl,aT I1.wI hn,e2,e3⟩) (q y hy)
 ·obtain⟨v',H2,I2,rv,y,od,rfl,hn,ey,hE⟩:=h3;cases rv;obtain⟨Ib,_,_⟩:=(show iQ P w H2 s3.heap y (j0 y C od) from I2.iy y _ ey);exact⟨y,od,rfl,I2.pD _ _ hC,Ib,Hn (I2.drop ey) Ib hn mv hE⟩
end
def lD (X:Cx)(E:XS):Prop:=∀(pins:List (af×bE)) (σ:St) (H:Hp) (s:ag) (e:ae) (s':ag),Inv X pins σ H s->QK X.prog X.w X.stack H s (E σ) e s'->X.xe e s'
section
variable {P:ao} {w:aE} {K:W.Frag} {mg:ar->Option ae} {base:aq} {N:List ar} {qual:ar} {scope:bJ} {f:af} {cd:ae} {A:ay} {outer:List cz} {gG:ag} {gJ:Hp} {E:XK}
theorem Kq:lD (vn P w K mg base N qual scope f cd A outer gG gJ E) λ_=>E:=λpins σ H s e s' I h=>Uc pins σ H s e s' I h
end
section
variable {X:Cx} {k:Nat} {f C:af} {fd:bz} {ps:List ar} {sp:Sp} {E:XS} {x m:ar} {p pos apos:cu} {e o:aM} {es:List aM} {ta:TE} {t:TA}
theorem Cr{pins:List (af×bE)}{σ:St}{H:Hp}{s:ag}{Q:VK}{us:List ae}{vs:List V}(F:iW X.prog X.w X.K X.mg X.base (QK X.prog X.w) k f fd ps sp)(hr:iG k X.A)(hb:Binds X.K fd ps [])(hx:lD X E)
(I:Inv X pins σ H s)(r:Vals vs us)(h:sp vs H Q (E σ)):wpAny (model X.prog X.w) X.A (call (.ref f) us) (EP X pins σ Q) X.xe s:=by
 have hl:us.length=ps.length:=by rw[<-r.length];exact F.len _ _ _ _ h
 have hB:=hb s us I.pD (by rw[bj];exact hl);rw[bj] at hB;refine cM (cr (F.run X.A X.stack s H ⟨us,[]⟩ us vs Q (E σ) hr I.GZ hB r h) λr s' hq=>?_);cases r with
 |error e=>exact hx pins σ H s e s' I hq
 |ok fl=>
  cases fl with
  |ret u=>exact I.after hq
  |next=>exact bu hq
  |brk=>exact bu hq
  |cont=>exact bu hq
def mx (P:ao)(w:aE)(K:W.Frag)(mg:ar->Option ae)(base:aq)(k:Nat)(x:ar)(ps:List ar)(sp:Sp):Prop:=
 ∃f fd,mg x=aa (.ref f)/\W.keepIn K (.ref f)=ah/\Binds K fd ps []/\iW P w K mg base (QK P w) k f fd ps sp
theorem MY(h:mx X.prog X.w X.K X.mg X.base k x ps sp)(hr:iG k X.A)(hx:lD X E)(ha:PA X (e::es) t)(hg:Gl X x:=by rfl)(ni:(x==("__debug__":ar))=ai:=by decide)
(he:av (e::es) X.env=(ai,eval e X.env)::av es X.env:=by rfl)(kC:(bN pos (av es X.env)).any (·.1)=ai:=by rfl):
  PE X (.Call (.Name x p) (e::es) [] pos) (Kb sp E t):=by obtain⟨f,fd,m,kp,b,F⟩:=h;intro pins s σ H Q I h;refine b2 (lW I hg m ?_ ni);refine W.callWith_K (h₀:=X.base) I.ok.mod.DU kp (ja (ha pos pins s σ H _ I h) λus s1 ⟨vs,H1,I1,r,q⟩=>⟨I1.pD,?_⟩) he kC;exact Cr F hr b hx I1 r q
end
section
variable {P:ao} {w:aE} {K:W.Frag} {mg:ar->Option ae} {base:aq}
theorem mx.mono{j k:Nat}{x:ar}{ps:List ar}{sp:Sp}(h:mx P w K mg base j x ps sp)(Jd:j<=k):mx P w K mg base k x ps sp:=by obtain⟨f,fd,m,kp,b,F⟩:=h;exact⟨f,fd,m,kp,b,F.mono Jd⟩
theorem mx.imp{k:Nat}{x:ar}{ps:List ar}{sp IH:Sp}(h:mx P w K mg base k x ps sp)(i:∀vs H Q E,IH vs H Q E->sp vs H Q E):mx P w K mg base k x ps IH:=by obtain⟨f,fd,m,kp,b,F⟩:=h;exact⟨f,fd,m,kp,b,F.imp i⟩
theorem hW.Ud{x:ar}{st:br}{N ps:List ar}{k:Nat}{sp:Sp}{body:List br}{scope:bJ}(F:hW K mg x st)(eb:g6 st=body)(es:gM st=scope)(S:gL N ps scope)
(hb:∀(kV doc pm:ae) (an:Option af) (g8 ct:ae) (us:List ae),us.length=ps.length->c7 (W.fnOf x x (jf st) (g6 st) (gM st) .none kV doc pm an g8 ct) ⟨us,[]⟩=pure (ps.zip us))
(len:∀vs H Q E,sp vs H Q E->vs.length=ps.length)
(lw:∀(f:af) (g8:ae) (A:ay) (outer:List cz) (s:ag) (H:Hp) (vs:List V) (Q:VK) (E:XK),iG k (A.deeper (cy x scope s.heap.objs.size f g8))->sp vs H Q E->
   ∃t,pH (vn P w K mg base N x scope f g8 A outer s H E) body t/\t {nx:=λ_ H'=>Q .non H',rt:=Q} (start N vs) H):mx P w K mg base (k+1) x ps sp:=by subst eb es;obtain⟨f,fd,F,m⟩:=F;refine⟨f,fd,m,F.kp,F.binds hb,?_⟩;obtain⟨oc,od,kV,doc,pm,an,g8,ct,uH,rfl,lk,pE⟩:=F.ex;exact FC lk pE S len λA outer s H vs Q E hr zL=>lw f g8 A outer s H vs Q E hr zL
end
end L2
namespace L3
open PySem PySem.Spec PyProof.Rows L2
section
variable {X:Cx} {E:XS} {c e:aM} {te:XE} {tt:XA} {tA:DT} {t u:XB} {pos p p2:cu} {x:ar} {st:br} {DJ as bs:List br} {es:List aM}
structure p4(P:ao)(w:aE)(K:W.Frag)(mg:ar->Option ae)(base:aq)(k:Nat)(x:ar)(ps:List ar)(g:t6):Prop where
 mono:nO g
 p:mx P w K mg base k x ps (rT K g)
theorem Kr{k:Nat}{ps:List ar}{g:t6}(h:p4 X.prog X.w X.K X.mg X.base k x ps g)(hr:iG k X.A)(hx:lD X E)(ha:Qv X E (e::es) tt)(hg:Gl X x:=by rfl)(ni:(x==("__debug__":ar))=ai:=by decide)
(he:av (e::es) X.env=(ai,eval e X.env)::av es X.env:=by rfl)(kC:(bN pos (av es X.env)).any (·.1)=ai:=by rfl):Ic X E (.Call (.Name x p) (e::es) [] pos) (RV g tt):=by refine⟨λx y δ M P Q v w q=>ha.mono _ _ δ _ _ _ v (λds M1 q=>⟨q.1,h.mono _ _ _ _ _ (λd q=>w _ _ q) (λe q=>v _ _ _ q) q.2⟩) q,PE.weak (MY h.p hr hx ha.p hg ni he kC) λσ H Q q=>?_⟩;obtain⟨F,α,δ,M,r,q⟩:=q;refine⟨F,α,δ,M,r,ha.mono _ _ δ _ _ _ (uU.rfl _) (λds M1 q vs gU H1 e1 o1 r1=>?_) q⟩;exact⟨F,gU,M1,ds,o1,r1,q.1,h.mono _ _ _ _ _ (λd q=>vK.grow e1 _ _ q) (λex q H2 od ws e2 o2 l hx hr=>q σ gU H2 od ws (e1.trans e2) ((r.grow e1 o1).grow e2 o2) l hx hr) q.2⟩
end
section
variable {P:ao} {w:aE} {K:W.Frag} {mg:ar->Option ae} {base:aq}
theorem Ao{x:ar}{st:br}{N ps:List ar}{k:Nat}{body:List br}{scope:bJ}{tb:XB}(F:hW K mg x st)(eb:g6 st=body)(es:gM st=scope)(S:gL N ps scope)
(hb:∀(kV doc pm:ae) (an:Option af) (g8 ct:ae) (us:List ae),us.length=ps.length->c7 (W.fnOf x x (jf st) (g6 st) (gM st) .none kV doc pm an g8 ct) ⟨us,[]⟩=pure (ps.zip us))
(hJ:∀(f:af) (g8:ae) (A:ay) (outer:List cz) (s:ag) (H:Hp) (E:XK),iG k (A.deeper (cy x scope s.heap.objs.size f g8))->F6 (vn P w K mg base N x scope f g8 A outer s H E) (λ_=>E) body tb):
  mx P w K mg base (k+1) x ps (rT K (nP N.length ps.length tb)):=
 F.Ud eb es S hb (λvs H Q E ⟨F,α,M,ds,o,r,hn,hl,q⟩=>by rw[<-gu.length _ _ r];exact hl) λf g8 A outer s H vs Q E hr h=>F8 (ps:=ps) (hJ f g8 A outer s H E hr) rfl h
theorem Ap{k:Nat}{x:ar}{ps:List ar}{g g':t6}(h:mx P w K mg base k x ps (rT K g))(m:nO g')(i:∀ds Q y,g' ds Q y->g ds Q y):p4 P w K mg base k x ps g':=
 ⟨m,h.imp λvs H Q E ⟨F,α,M,ds,o,r,n,q⟩=>⟨F,α,M,ds,o,r,n,i _ _ _ q⟩⟩
end
section
variable {P:ao} {w:aE} {K:W.Frag} {mg:ar->Option ae} {base:aq} {N:List ar} {qual:ar} {scope:bJ} {fn:af} {cd:ae} {A:ay} {outer:List cz} {gG:ag} {gJ:Hp} {E:XK}
variable {k:Nat} {f C:af} {fd:bz} {ps ns:List ar} {x:ar} {p pos iM:cu} {e:aM} {es:List aM} {tt:DA}
theorem lg(h:vN P w K mg base k x C ns)(hr:iG (k+1) (vn P w K mg base N qual scope fn cd A outer gG gJ E).A)(ha:JA (vn P w K mg base N qual scope fn cd A outer gG gJ E) (e::es) tt)(hg:Gl (vn P w K mg base N qual scope fn cd A outer gG gJ E) x:=by rfl)
(ni:(x==("__debug__":ar))=ai:=by decide)
(he:av (e::es) (vn P w K mg base N qual scope fn cd A outer gG gJ E).env=(ai,eval e (vn P w K mg base N qual scope fn cd A outer gG gJ E).env)::av es (vn P w K mg base N qual scope fn cd A outer gG gJ E).env:=by rfl)
(kC:(bN iM (av es (vn P w K mg base N qual scope fn cd A outer gG gJ E).env)).any (·.1)=ai:=by rfl):
  Kc (vn P w K mg base N qual scope fn cd A outer gG gJ E) (λ_=>E) (.Raise (aa (.Call (.Name x p) (e::es) [] iM)) ak pos) (mw C ns tt):=by obtain⟨hm,f,fd,ps,M,hb,F⟩:=h;refine⟨λx y P Q δ M v w q=>ha.mono δ _ _ _ (λds M1 q=>⟨q.1,q.2.1,q.2.2.1,v _ _ _ q.2.2.2⟩) q,PS.weak (Ho M F (λvs H Q Q' w ⟨x,ws,q1,q2,q3,q4,q5⟩=>⟨x,ws,q1,q2,q3,q4,λdx h1 h2=>w _ _ (q5 dx h1 h2)⟩) hr hb hg hm ha.p ni he kC) λD σ H q=>?_⟩;obtain⟨F,α,δ,M,r,q⟩:=q;refine⟨F,α,δ,M,r,ha.mono δ _ _ _ (λds M1 q vs gU H1 e1 o1 r1=>?_) q⟩;obtain⟨q1,q2,q3,q4⟩:=q;have hl:=gu.length _ _ r1;refine⟨by rw[<-hl];exact q3,λx hx=>⟨x,vs,rfl,by rw[<-hl];exact q1,EA _ _ r1 q2,gF,λdx Cg ne=>⟨rfl,aa dx,gF,?_⟩⟩⟩;rw[gz ne] at Cg;rw[F9 hx ne];obtain⟨o2,e2⟩:=o1.laid (x:=zc dx (ns.zip vs)) Cg;exact q4 σ gU _ (aa dx) vs (e1.trans e2) ((r.grow e1 o1).grow e2 o2) q1.symm gF (e2.wd r1)
end
end L3
namespace L2
open PySem PySem.Spec PyProof.Rows PySem.W
section
variable {prog:ao} {w:aE} {A:ay} {E:ae->ag->Prop} {env:cz} {s:ag}
variable {nm q:ar} {C N:af} {bs bm:List ae} {jM:Bool} {sn:List ar} {sub:List ae} {ab:Bool} {col:Option Bool} {dd:Option af} {k0 k1 k2 k3 k5:Option ae} {newId:String}
theorem yb:entryFor table "proto.unchain"=aa PySem.Builtin.«proto.unchain»:=entryFor_of_tree (by kernel_rfl)
theorem EG{e h:af}{Q:ae->ag->Prop}(hc:ya s.heap h)(hq:Q .none s):wpAny (model prog w) A (runValue (.builtin "proto.unchain" ⟨[.ref e,.ref h,.ref h,.bool ai],[]⟩)) Q E s:=by
 obtain⟨oe,vs,h1,h2,h3⟩:=hc;refine wpAny_runValue (codeAny_builtin yb ?_);unfold PySem.Builtin.«proto.unchain»;refine aj (bX h1 h2 h3 ?_);rw[if_pos (by decide)];repeat wp_step
 exact hq
theorem EH{x c:f9 ae}{h:af}{Q:Flow->ag->Prop}(pM:bm.contains (.type "BaseException")=ah)(hh:A.handled=aa (.ref h))
(hc:∀s E' Q',Q' .none s->wpAny (model prog w) A c Q' E' s)
(hx:wpAny (model prog w) A x (λv ik=>∃e od,v=.ref e/\ik.heap.get? C=aa (cA nm q C N bs bm jM sn sub ab col dd k0 k1 k2 k3 k5 newId)/\Er ik.heap e (.ref C) od/\ya ik.heap h/\h≠e/\
   ∀h' a0,h'.get? e=aa ⟨.ref C,od,.fields #[a0,.none,.ref h,.none,.bool ah,.none],#[]⟩->h'.objs.size=ik.heap.objs.size->(∀b,b≠e->h'.get? b=ik.heap.get? b)->E (.ref e) {ik with heap:=h'}) E s):
  wpAny (model prog w) A (fE env (aa x) (aa c)) Q E s:=by
 have TR:(aD C::bm).contains (.type "BaseException")=ah:=by rw[List.contains_cons,pM,Bool.or_true]
 unfold fE;refine aj (bR hx (λv ik iR=>?_) λ_ _ x=>x);obtain⟨e,od,rfl,hC,⟨a0,he⟩,Xx,ud,hE⟩:=iR;obtain⟨hp,g,d,tk,os⟩:=ik;refine aj (b6 (hc _ _ _ (aj (az ?_))));refine aj (b6 ?_);repeat (first|with_reducible refine b9 he ?_|with_reducible refine b9 hC ?_|(with_reducible refine c5 hC ?_;rw[TR])|wp_step)
 have Y7:e≠C:=λz=>by subst z;have hC:hp.get? e=_:=hC;have he:hp.get? e=_:=he;rw[he] at hC;have hC:=congrArg bE.data (bh hC);cases hC
 have hC2:((hp.update e (aS λx=>x.setIfInBounds 3 aV)).update e (aS λx=>x.setIfInBounds 4 (dU ah))).get? C=aa (cA nm q C N bs bm jM sn sub ab col dd k0 k1 k2 k3 k5 newId):=by rw[aw _ _ Y7,aw _ _ Y7];exact hC
 have e1:=bq (h:=hp) (aS λx=>x.setIfInBounds 3 aV) he rfl;have Vx:=bq (aS λx=>x.setIfInBounds 4 (dU ah)) e1 rfl;repeat (first|with_reducible refine b9 hC2 ?_|with_reducible refine b9 Vx ?_|wp_step)
 unfold raiseNew;refine aj (wpAny_handled ?_);rw[hh];show wpAny _ _ (if(aD h !=aD e)=ah then _ else _) _ _ _;rw[if_pos (by simpa using ud)];have Xy:ya ((hp.update e (aS λx=>x.setIfInBounds 3 aV)).update e (aS λx=>x.setIfInBounds 4 (dU ah))) h:=by obtain⟨oe,vs,h1,h2,h3⟩:=Xx;exact⟨oe,vs,by rw[aw _ _ (bG ud),aw _ _ (bG ud)];exact h1,h2,h3⟩
 refine aj (b6 (EG Xy ?_));unfold updateField;refine aj (aj (wpAny_load Vx ?_));show wpAny _ _ (update e _) _ _ _;refine wpAny_update Vx ?_;refine wpAny_throw (hE _ a0 ?_ ?_ λb hb=>?_)
 ·exact(bq _ Vx rfl)
 ·rw[cj,cj,cj]
 ·rw[aw _ _ (bG hb),aw _ _ (bG hb),aw _ _ (bG hb)]
end
structure lH(k:Nat)(A:ay):Prop where
 dp:A.depth+3*k+5<eB
 un:A.units+16*k+200<eC
 gd:A.guards=aa []
theorem iG.toH{k:Nat}{A:ay}(r:iG k A):lH k A:=⟨r.dp,r.un,r.gd⟩
theorem iG.mark{k:Nat}{A:ay}(r:iG k A)(e:Option ae):lH k (A.mark e):=⟨r.dp,r.un,r.gd⟩
theorem lH.mono{j k:Nat}{A:ay}(r:lH k A)(h:j<=k):lH j A:=⟨by have:=r.dp;omega,by have:=r.un;omega,r.gd⟩
theorem lH.deeper{k:Nat}{A:ay}(r:lH (k+1) A)(env:cz):lH k (A.deeper env):=
 ⟨by have:=r.dp;show A.depth+1+3*k+5<_;omega,by have:=r.un;show A.units+3+16*k+200<_;omega,r.gd⟩
theorem lH.make{k:Nat}{A:ay}(r:lH (k+1) A)(C:af)(us:List ae)(kw:List (ar×ae)):lH k (A.under (.builtin "type.__call__" ⟨.ref C::us,kw⟩)):=
 ⟨by have:=r.dp;rw[v0];omega,by have:=r.un;rw[v2];omega,by rw[uG];exact r.gd⟩
theorem lH.depth{k:Nat}{A:ay}(r:lH k A):A.depth<eB:=by have:=r.dp;omega
abbrev R0(CX:v3)(P:ao)(w:aE)(K:W.Frag)(mg:ar->Option ae)(base:aq)(N:List ar)(qual:ar)(scope:bJ)(f:af)(cd:ae)(A:ay)(outer:List cz)(s:ag)(H:Hp)(E:XK):Cx:=
 {py CX P w K mg base N qual scope f cd A outer s H E with calm:=ai}
theorem v4.unh{P:ao}{w:aE}{K:W.Frag}{mg:ar->Option ae}{base:aq}{A:ay}{outer:List cz}{s:ag}{H:Hp}(e:v4 P w K mg base A outer s H):v4 P w K mg base {A with handled:=ak} outer s H:=
 ⟨e.frames,e.mod,e.bs,e.Fp,e.px,e.HU,e.iy,e.bare⟩
theorem Inv.toH{CX:v3}{P:ao}{w:aE}{K:W.Frag}{mg:ar->Option ae}{base:aq}{N:List ar}{qual:ar}{scope:bJ}{f:af}{cd:ae}{A:ay}{outer:List cz}{s s1:ag}{H H1:Hp}{E:XK}{pins:List (af×bE)}{σ:St}
(I:Inv (py CX P w K mg base N qual scope f cd {A with handled:=ak} outer s H E) pins σ H1 s1):Inv (R0 CX P w K mg base N qual scope f cd A outer s H E) pins σ H1 s1:=
 ⟨⟨I.ok.mod,I.ok.kind,I.ok.glob,I.ok.blt,I.ok.above,I.ok.inj,I.ok.has,I.ok.NK,(λz=>by cases z),I.ok.frames,I.ok.OV,I.ok.Sb,I.ok.bs,I.ok.Fp,I.ok.Bt,I.ok.Bu,I.ok.px,I.ok.HU⟩,I.os,I.bare,I.base,I.loc,I.cell,I.free,I.jX,I.pin,I.iy,I.len⟩
structure ph(P:ao)(w:aE)(K:W.Frag)(mg:ar->Option ae)(base:aq)(CX:v3)(k:Nat)(f:af)(fd:bz)(ps:List ar)(sp:Sp):Prop where
 len:∀vs H Q E,sp vs H Q E->vs.length=ps.length
 run:∀(A:ay) (outer:List cz) (s:ag) (H:Hp) (args:Args) (us:List ae) (vs:List V) (Q:VK) (E:XK),lH k A->v4 P w K mg base A outer s H->eo s fd args (ps.zip us)->Vals vs us->sp vs H Q E->
  codeAny (model P w) A (.call (.ref f) args) (CR CX outer P w H s Q E) s
theorem ph.calm{P:ao}{w:aE}{K:W.Frag}{mg:ar->Option ae}{base:aq}{CX:v3}{k:Nat}{f:af}{fd:bz}{ps:List ar}{sp:Sp}(F:ph P w K mg base CX k f fd ps sp):iW P w K mg base CX k f fd ps sp:=
 ⟨F.len,λA outer s H args us vs Q E hr=>F.run A outer s H args us vs Q E hr.toH⟩
theorem ph.mono{P:ao}{w:aE}{K:W.Frag}{mg:ar->Option ae}{base:aq}{CX:v3}{j k:Nat}{f:af}{fd:bz}{ps:List ar}{sp:Sp}(F:ph P w K mg base CX j f fd ps sp)(h:j<=k):
  ph P w K mg base CX k f fd ps sp:=⟨F.len,λA outer s H args us vs Q E hr=>F.run A outer s H args us vs Q E (hr.mono h)⟩
theorem QL{CX:v3}{P:ao}{w:aE}{K:W.Frag}{mg:ar->Option ae}{base:aq}{k:Nat}{f:af}{name qual:ar}{params:ef}{body:List br}{scope:bJ}{dV kV doc pm g8 ct oc:ae}{an od:Option af}
{uH:Array (Option ae)}{N ps:List ar}{sp:Sp}(lk:K.lookup f=aa ⟨oc,od,.func (W.fnOf name qual params body scope dV kV doc pm an g8 ct),uH⟩)(pE:W.codeIn K g8 qual=ah)(S:gL N ps scope)
(len:∀vs H Q E,sp vs H Q E->vs.length=ps.length)
(lw:∀(A:ay) (outer:List cz) (s:ag) (H:Hp) (vs:List V) (Q:VK) (E:XK),lH k (A.deeper (cy qual scope s.heap.objs.size f g8))->sp vs H Q E->
   ∃t,pH (R0 CX P w K mg base N qual scope f g8 A outer s H E) body t/\t {nx:=λ_ H'=>Q .non H',rt:=Q} (start N vs) H):
  ph P w K mg base CX (k+1) f (W.fnOf name qual params body scope dV kV doc pm an g8 ct) ps sp:=by
 refine⟨len,λA outer s H args us vs Q E hr e0 hb r zL=>?_⟩;have hl:=len _ _ _ _ zL;have KX:K.In s.heap:=e0.mod.DU.keeps λb o e=>(e0.bs b o e).1;have Wg:s.heap.NoLimit:=e0.mod.nolimit.keeps λb o e=>(e0.bs b o e).1;have IK:∀y∈ps.zip us,scope.names.lookup y.1=aa .local\/(scope.names.lookup y.1=aa .cell/\((fD (s.heap.objs.size+1) scope.names []).lookup y.1).isSome=ah):=λ⟨n,v⟩ hy=>by
  rcases S.par n (dZ hy).1 with q|q
  ·exact .inl q
  ·exact .inr ⟨q,W.cellsFrom_some _ _ _ (.inl q)⟩
 refine fU hr.depth (KX _ _ lk) rfl S.co S.gen rfl (W.codeRec_of KX pE) (hb _ _ _ _ ?_);refine fg S.kind IK λenv he s1 x=>?_;subst he;refine⟨Wg.keeps x.toInCall.keep,codeAny_func ?_⟩;obtain⟨t,ht,hq⟩:=lw A outer s H vs Q E (hr.deeper _) zL;have I:Inv (R0 CX P w K mg base N qual scope f g8 A outer s H E) [] (start N vs) H s1:=(yL (CX:=CX) (A:={A with handled:=ak}) S rfl e0.unh hl r x).toH;refine bR (ht [] s1 (start N vs) H _ I hq) (λfl s' hs=>?_) λe s' hs=>hs;have lm:∀{iF:St} {H':Hp} {v:V} {u:ae},Inv (R0 CX P w K mg base N qual scope f g8 A outer s H E) [] iF H' s'->RelV v u->Q v H'->CE outer P w H s Q u s':=
  λ{iF H' v u} J rv q=>⟨v,H',J.os,J.bare,J.base,J.iy,rv,q⟩
 cases fl with
 |ret u=>
  obtain⟨v,iF,H',J,rv,q⟩:=hs;exact lm J rv q
 |next=>
  obtain⟨iF,H',J,q⟩:=hs;exact lm (v:=V.non) (u:=aV) J rfl q
 |brk=>
  obtain⟨_,_,_,q⟩:=hs;exact bu q
 |cont=>
  obtain⟨_,_,_,q⟩:=hs;exact bu q
section
variable {P:ao} {w:aE} {K:W.Frag} {mg:ar->Option ae} {base:aq}
theorem og.okH{x qual:ar}{st:br}{f:af}{fd:bz}{N ps:List ar}{k:Nat}{sp:Sp}(F:og K x qual st f fd)(S:gL N ps (gM st))(len:∀vs H Q E,sp vs H Q E->vs.length=ps.length)
(lw:∀(g8:ae) (A:ay) (outer:List cz) (s:ag) (H:Hp) (vs:List V) (Q:VK) (E:XK),lH k (A.deeper (cy qual (gM st) s.heap.objs.size f g8))->sp vs H Q E->
   ∃t,pH (R0 pF P w K mg base N qual (gM st) f g8 A outer s H E).DV (g6 st) t/\t {nx:=λ_ H'=>Q .non H',rt:=Q} (start N vs) H):ph P w K mg base pF (k+1) f fd ps sp:=by obtain⟨oc,od,kV,doc,pm,an,g8,ct,uH,rfl,lk,pE⟩:=F.ex;refine QL lk pE S len λA outer s H vs Q E hr zL=>?_;obtain⟨t,h,q⟩:=lw g8 A outer s H vs Q E hr zL;exact⟨t,h.DV,q⟩
end
section
variable {X:Cx} {CX:v3} {k:Nat} {f C:af} {fd:bz} {ps:List ar} {sp:Sp} {E:XK}
theorem Ks{pins:List (af×bE)}{σ:St}{H:Hp}{s:ag}{Q:VK}{us:List ae}{vs:List V}(M:Oi X.K C f)(F:ph X.prog X.w X.K X.mg X.base CX k f fd ps sp)(hr:lH (k+1) X.A)(hb:Binds X.K fd ps [])
(hx:om CX X E)(I:Inv X pins σ H s)(r:Vals vs us)(hz:us.length<=aH)
(h:∀x,H x=ak->s.heap.objs.size<=x->sp (.ref x::vs) (upd H x (j0 x C ak)) (λv H2=>v=.non/\Q (.ref x) H2) E):
  wpAny (model X.prog X.w) X.A (call (.ref C) us) (EP X pins σ Q) X.xe s:=by
 have hq:=h (s.heap.objs.size+1) (I.iy.fresh (Nat.le_succ _)) (Nat.le_succ _);have k1:∀b u,s.heap.get? b=aa u->(s.heap.push (jP us)).get? b=aa u:=λb u e=>au _ e;have e2:((s.heap.push (jP us)).push (jH C s.heap.objs.size)).get? (s.heap.objs.size+1)=aa (jH C s.heap.objs.size):=by
  have:=bg (s.heap.push (jP us)) (o:=jH C s.heap.objs.size) rfl
  rwa [cS] at this
 have I2:Inv X pins σ (upd H (s.heap.objs.size+1) (j0 (s.heap.objs.size+1) C ak)) {s with heap:=(s.heap.push (jP us)).push (jH C s.heap.objs.size)}:=
  (I.kept (t':=s.toks) k1).laid (t':=s.toks) (λb u e=>au _ e) (c8 (cS _ _)) (Aj ⟨_,e2⟩)
 have r2:Vals (V.ref (s.heap.objs.size+1)::vs) (aD (s.heap.objs.size+1)::us):=.cons rfl r;have hl:(aD (s.heap.objs.size+1)::us).length=ps.length:=by have e:=r2.length;rw[F.len _ _ _ _ hq] at e;exact e.symm
 obtain⟨nm,q,N,bs,bm,jM,sn,sub,ab,col,dd,k0,k1,k2,k3,k5,hC,T⟩:=M.x.obj;have Vb:(aD (s.heap.objs.size+1)::us++[]).length=ps.length:=by rw[bj];exact hl
 have hB:=hb {s with heap:=(s.heap.push (jP us)).push (jH C s.heap.objs.size)} (aD (s.heap.objs.size+1)::us) I2.pD Vb;rw[bj] at hB;have key:=F.run _ X.stack _ _ ⟨aD (s.heap.objs.size+1)::us,[]⟩ (aD (s.heap.objs.size+1)::us) _ _ E (hr.make C us []) (I2.GZ.make C us []) hB r2 hq;have KX:=I.pD;have lm:∀(r:eK) (s':ag),CR CX X.stack X.prog X.w (upd H (s.heap.objs.size+1) (j0 (s.heap.objs.size+1) C ak)) {s with heap:=(s.heap.push (jP us)).push (jH C s.heap.objs.size)} (λv H2=>v=.non/\Q (.ref (s.heap.objs.size+1)) H2) E r s'->
   W.InitBack (s.heap.objs.size+1) (λr s'=>match r with|.ok (.ret v)=>EP X pins σ Q v s'|.ok _=>False|.error e=>X.xe e s') r s':=λr s' BC=>by
  cases r with
  |error e=>exact hx pins σ _ _ e s' I2 BC
  |ok fl=>
   cases fl with
   |ret u=>
    obtain⟨v,H',I3,rv,ev,q3⟩:=I2.after BC;subst ev;exact⟨rv,⟨V.ref (s.heap.objs.size+1),H',I3,rfl,q3⟩⟩
   |next=>exact bu BC
   |brk=>exact bu BC
   |cont=>exact bu BC
 obtain⟨hh,g,d,t,os⟩:=s;refine cM ?_;refine Cc PySem.F.excBase_ValueError (T hh KX) (KX _ _ hC) (W.looks_specialIn KX M.call) (W.looks_instIn KX M.typ) (W.looks_findIn KX M.init) (λself=>W.bind_fn KX self (beq_iff_eq.mp M.fn)) hz ?_;exact cr key lm
end
end L2
namespace L3
open PySem PySem.Spec PyProof.Rows L2
section
variable {P:ao} {w:aE} {K:W.Frag} {mg:ar->Option ae} {base:aq}
theorem MZ{x qual:ar}{st:br}{f:af}{fd:bz}{N ps:List ar}{k:Nat}{body:List br}{scope:bJ}{C B:af}{ns:List ar}{MU:List FP}(F:og K x qual st f fd)(eb:g6 st=body)(es:gM st=scope)(S:gL N ps scope)
(c:Et K C)(co:Eu K C)(na:∀g∈ns,jZ K C g)
(hJ:∀(g8:ae) (A:ay) (outer:List cz) (s:ag) (H:Hp) (E:XK),pH (R0 pF P w K mg base N qual scope f g8 A outer s H E).DV body (T5 K B MU ns))
(nd:ns.Nodup:=by decide)(hl:ns.length<900:=by decide)(ud:0<ns.length:=by decide)(hps:ps.length=ns.length+1:=by rfl)(WB:MU.all (GL ns.length)=ah:=by decide)(hfl:MU.length<=100:=by decide):
  ph P w K mg base pF (k+1) f fd ps (Vs C ns):=by
 subst eb es;refine F.okH S (λvs H Q E ⟨x,ws,e,hw,_⟩=>by rw[e,hps,ax,hw]) λg8 A outer s H vs Q E hr h=>⟨_,hJ g8 A outer s H E,?_⟩;obtain⟨x,ws,rfl,hw,hf,hx,q⟩:=h;have h0:(L2.start N (.ref x::ws))[0]?=aa (aa (.ref x)):=wN rfl;refine⟨rfl,.ref x,h0,Kg (λy=>⟨x,C,ak,.str y,rfl,hx,co,?fs⟩) MU _ ?sz λp hp=>?op⟩;case fs=>
  show RY K ns 1 {nx:=λ_ H'=>Q .non H',rt:=Q} _ H;cases ns with
  |nil=>cases ud
  |cons f ns=>
   cases ws with
   |nil=>cases hw
   |cons y ws=>exact Kh h0 c (by simpa using hw.symm) (λj v h=>wN (by rw[Nat.add_comm];simpa using h)) nd (by rw[ax] at hl;omega) na hx λdx h1 h2=>q dx h1 h2
 case sz=>
  show 0+_<=_;have:aH=16777216:=rfl;omega
 case op=>
  have o:=dR.mp WB p hp;cases p with
  |inl c=>
   have o:decide (c.length<=4000)=ah:=o;rw[decide_eq_true_eq] at o;exact o
  |inr i=>
   have o:(decide (1<=i)&&decide (i<=ns.length))=ah:=o;rw[aP,decide_eq_true_eq,decide_eq_true_eq] at o;obtain⟨j,rfl⟩:∃j,i=j+1:=⟨i- 1,by omega⟩;have hj:j<ws.length:=by omega
   exact⟨ws[j],wN (by simp[hj]),dR.mp hf _ (List.getElem_mem hj)⟩
end
end L3
namespace L2
open PySem PySem.Spec PyProof.Rows PySem.W
section
variable {M:fb} {A:ay} {E:ae->ag->Prop} {s:ag}
theorem Ue{base:aq}{env:cz}{outer:List cz}{L e:af}{o:bE}{vs:Array ae}{Q:Unit->ag->Prop}(wG:A.frames=aa (env::outer))(hl:s.heap.FunFrames base (env::outer))(hf:env.frame=aa L)
(he:s.heap.get? e=aa o)(hd:o.data=.fields vs)(h1:vs[1]?=aa .none)
(h:∀h' T,s.heap.objs.size<=T->xZ h' e o.cls o.dict T->Left (oi (env::outer)) [e] s.heap h'->Q () {s with heap:=h'}):wpAny M A (cT (.ref e) env) Q E s:=by unfold cT;simp only [hf];refine aj (bX he hd h1 ?_);rw[if_neg (by decide)];exact Kj wG hl hf hf he hd (bB.mp h1).1 h
theorem Ct{env:cz}{e T:af}{cls:ae}{od:Option af}(hr:xZ s.heap e cls od T)(h:∀h',xZ h' e cls od T->Left [] [T] s.heap h'->E (.ref e) {s with heap:=h'}):cameBackBy M A env E (.ref e) s:=by have Ib:=hr;obtain⟨oe,vs,oT,ts,v,he,rfl,rfl,hd,h1,Bl,hT,Ia,h3⟩:=hr;unfold cameBackBy;refine aj (bX he hd h1 ?_);rw[if_neg (show¬((aD T==aV)=ah) from by simp)];exact rV Ib λh' r' _ l'=>h h' r' l'
end
section
variable {P:ao} {w:aE} {K:W.Frag} {mg:ar->Option ae} {base:aq} {N:List ar} {qual:ar} {scope:bJ} {fn:af} {cd:ae} {A:ay} {outer:List cz} {gG:ag} {gJ:Hp} {E:XK}
variable {k:Nat} {f C B:af} {fd:bz} {ps:List ar} {sp:Sp} {x tn:ar} {p pos iM tp xY QM np:cu} {kk:Nat} {e:aM} {es:List aM} {t:TA} {body:List br} {tb:XS->TS}
def Uf (K:W.Frag)(B C:af)(sp:Sp)(E:XK)(tb:XS->TS)(t:TA):TS:=λD σ H=>
 tb (λiF C' od H'=>∃c,C'=.ref c/\vk K c B/\t iF H' λvs H1=>vs.length<=aH/\∀x,H1 x=ak->sp (.ref x::vs) (upd H1 x (j0 x C ak)) (λv H2=>v=.non/\∃od,H2 x=aa (j0 x C od)/\E (.ref C) od (DM x H2)) E0) D σ H
theorem M0(hg:Gl (la P w K mg base N qual scope fn cd A outer gG gJ E) tn)(hm:mg tn=aa (.ref B))(ni:(tn==("__debug__":ar))=ai)
(hb:∀(pn:List (af×bE)) (E':ae->ag->Prop) (Ex:XS),lD ((la P w K mg base N qual scope fn cd A outer gG gJ E).wp pn E') Ex->pH ((la P w K mg base N qual scope fn cd A outer gG gJ E).wp pn E') body (tb Ex))
(M:Oi K C f)(F:ph P w K mg base pF k f fd ps sp)(mono:∀vs H (Q Q':VK),(∀v H,Q v H->Q' v H)->sp vs H Q E0->sp vs H Q' E0)
(hr:iG (k+1) (la P w K mg base N qual scope fn cd A outer gG gJ E).A)(Ql:Binds K fd ps [])(Xz:Gl (la P w K mg base N qual scope fn cd A outer gG gJ E) x)(XC:mg x=aa (.ref C))
(ha:∀y,PA ((la P w K mg base N qual scope fn cd A outer gG gJ E).DN y) (e::es) t)(Cg:(x==("__debug__":ar))=ai:=by decide)
(he:av (e::es) (la P w K mg base N qual scope fn cd A outer gG gJ E).env=(ai,eval e (la P w K mg base N qual scope fn cd A outer gG gJ E).env)::av es (la P w K mg base N qual scope fn cd A outer gG gJ E).env:=by rfl)
(kC:(bN iM (av es (la P w K mg base N qual scope fn cd A outer gG gJ E).env)).any (·.1)=ai:=by rfl):
  PS (la P w K mg base N qual scope fn cd A outer gG gJ E) (.Try body [.ExceptHandler (aa (.Name tn tp)) ak [.Raise (aa (.Call (.Name x p) (e::es) [] iM)) (aa (.Constant .none kk np)) QM] xY] [] [] pos) (Uf K B C sp E tb t):=by
 intro pins s σ H D I h;refine aay ?_;have len:=I.len;have zd:=I.ok;refine bR (hb ((la P w K mg base N qual scope fn cd A outer gG gJ E).pn++pins) (λe ik=>wpAny (model P w) (la P w K mg base N qual scope fn cd A outer gG gJ E).A (cT e (la P w K mg base N qual scope fn cd A outer gG gJ E).env) (λ_ xR=>wpAny (model P w) (la P w K mg base N qual scope fn cd A outer gG gJ E).A (cY e ak) (λ_ wa=>wpAny (model P w) (la P w K mg base N qual scope fn cd A outer gG gJ E).A (handleBy e (la P w K mg base N qual scope fn cd A outer gG gJ E).env _) (SP (la P w K mg base N qual scope fn cd A outer gG gJ E) pins D) (la P w K mg base N qual scope fn cd A outer gG gJ E).xe wa) (la P w K mg base N qual scope fn cd A outer gG gJ E).xe xR) (la P w K mg base N qual scope fn cd A outer gG gJ E).xe ik)
  (λiF C' od H'=>∃c,C'=.ref c/\vk K c B/\t iF H' λvs H1=>vs.length<=aH/\∀x,H1 x=ak->sp (.ref x::vs) (upd H1 x (j0 x C ak)) (λv H2=>v=.non/\∃od,H2 x=aa (j0 x C od)/\E (.ref C) od (DM x H2)) E0) ?_ [] s σ H D (I.wp _) h) (λf s1 q=>?_) λe s1 q=>q
 ·intro sH DC H1 s1 ev s' I1 hc;obtain⟨y,C',od,H',T,rfl,ho,Xj,u,iy,Xu,Xx,hx,hT,DL,J0,c,rfl,sub,Xk⟩:=hc;have I2:=I1.uE (ch:=[]) ho u iy Xj (λb hb=>by cases hb);have fx:=I1.ke hx;have fT:=I1.ke hT;refine wQ (base:=base) zd.frames I2.stack rfl Xu Xx λh' T' F2 Bn M6 hL=>?_;have I3:=I2.wJ (t':=s'.toks) (R:=[y,T]) (h':=h') (λb hb=>by
   rcases ba.mp hb with rfl|hb
   ·exact⟨fx,DL⟩
   ·cases bv.mp hb;exact⟨fT,J0⟩) hL
  have MP:=I2.ke F2;have Qu:H' T'=ak:=I2.iy.fresh F2;have J:Inv (la P w K mg base N qual scope fn cd A outer gG gJ E) pins DC H' {s' with heap:=h'}:=I3.rS zd;have gx:uT (la P w K mg base N qual scope fn cd A outer gG gJ E) pins y:=⟨fx.s0,fx.lo,fx.ce,λp hp=>fx.pi p (bC _ hp)⟩;have gT:uT (la P w K mg base N qual scope fn cd A outer gG gJ E) pins T':=⟨MP.s0,MP.lo,MP.ce,λp hp=>MP.pi p (bC _ hp)⟩;have Bn:Rec ({s' with heap:=h'}:ag).heap y (.ref c) od T':=Bn;have M6:ya ({s' with heap:=h'}:ag).heap y:=M6;generalize ({s' with heap:=h'}:ag)=s3 at J Bn M6 ⊢;have J':=J.DN (.ref y);refine f7 (fV (lW (X:=(la P w K mg base N qual scope fn cd A outer gG gJ E).DN (.ref y)) J' hg hm ?_ ni)) (by intro q;cases q);have Ib:=Bn;obtain⟨oe,vs,oT,ts,hoe,Xn,U7,_⟩:=Ib;refine wK (X:=la P w K mg base N qual scope fn cd A outer gG gJ E) J.pD hoe Xn sub ?_;refine codeAny_handlers_suite (rV Bn.any λh4 _ hr4 Y8=>?_);have J4:Inv (la P w K mg base N qual scope fn cd A outer gG gJ E) pins DC H' {s3 with heap:=h4}:=J.Ow (R:=[T']) (λb hb=>by cases bv.mp hb;exact⟨gT,Qu⟩) Y8;have r4:=hr4 rfl;obtain⟨oy,vy,g1,g2,g3⟩:=M6;have hyT:y∉[T']:=λz=>by obtain⟨_,_,_,_,_,_,_,_,_,q,_⟩:=Bn;exact q (bv.mp z).symm
  have g1':h4.get? y=aa oy:=(Y8 y oy g1 hyT).1 (by simp);have yfs:y∉(la P w K mg base N qual scope fn cd A outer gG gJ E).fs:=λz=>by obtain⟨_,o,ho,_⟩:=zd.px.mem z;exact absurd (aB (aJ ho) gx.s0) (b5 _)
  have Jh:=J4.DN (.ref y);have J5:Inv ((la P w K mg base N qual scope fn cd A outer gG gJ E).DN (.ref y)) ((y,oy)::pins) DC H' {s3 with heap:=h4}:=
   ⟨Jh.ok,Jh.os,Jh.bare,Jh.base,Jh.loc,Jh.cell,Jh.free,Jh.jX,λp hp=>by
    rcases bi.mp hp with hp|hp
    ·exact Jh.pin p (bC _ hp)
    ·rcases ba.mp hp with rfl|hp
     ·exact⟨g1',DL,gx.lo,yfs,λv z=>by rw[g2] at z;cases z⟩
     ·exact Jh.pin p (aY _ hp),Jh.iy,Jh.len⟩
  obtain⟨nm,q',N',bs,bm,jM,sn,Qq,ab,col,dd,k0,k1,k2,k3,k5,hC,TT⟩:=M.x.obj;have pM:bm.contains (.type "BaseException")=ah:=(TT base I.ok.mod.DU).hasType PySem.F.excBase_ValueError.hasBase;refine eS ?_;rw[aaE];refine aj (c6 (EH (C:=C) (nm:=nm) (q:=q') (N:=N') (bs:=bs) (bm:=bm) (jM:=jM) (sn:=sn) (sub:=Qq) (ab:=ab) (col:=col) (dd:=dd) (k0:=k0) (k1:=k1) (k2:=k2) (k3:=k3) (k5:=k5) (newId:="ValueError.__new__") (h:=y) pM rfl (λs E' Q' hq=>aj (aaF (aj (c6 (az hq))))) ?_));refine aj (bR (Q:=EP ((la P w K mg base N qual scope fn cd A outer gG gJ E).DN (.ref y)) ((y,oy)::pins) DC λv H2=>∃z od,v=.ref z/\uT (la P w K mg base N qual scope fn cd A outer gG gJ E) ((y,oy)::pins) z/\H2 z=aa (j0 z C od)/\E (.ref C) od (DM z H2)) (E:=λ_ _=>False) ?_ (λv s5 h5=>aj (c6 (az ?_))) λ_ _ z=>z.elim)
  ·refine b2 (lW J5 Xz XC ?_ Cg);refine W.callWith_K (h₀:=base) I.ok.mod.DU M.kp (ja (ha (.ref y) iM _ _ DC H' _ J5 Xk) λus s6 ⟨vs6,H6,I6,r6,hz,q6⟩=>⟨I6.pD,?_⟩) he kC;refine Ks (X:=(la P w K mg base N qual scope fn cd A outer gG gJ E).DN (.ref y)) M F (hr.mark _) Ql yS I6 r6 (by rw[dz,<-r6.length];exact hz) λz hz1 hn=>mono _ _ _ _ (λv H2 ⟨e1,od,e2,e3⟩=>⟨e1,z,od,rfl,?_,e2,e3⟩) (q6 z hz1);have ff:=I6.ke hn;exact⟨ff.s0,ff.lo,ff.ce,ff.pi⟩
  ·obtain⟨v',H2,I7,rv,z,Y9,rfl,fz,ez,hE⟩:=h5;cases rv;obtain⟨Ib,_,_⟩:=(show iQ P w H2 s5.heap z (j0 z C Y9) from I7.iy z _ ez);obtain⟨p1,p2,_⟩:=I7.pin (y,oy) (aY _ bd);have hyz:y≠z:=λq=>by rw[<-q,p2] at ez;cases ez
   refine⟨z,Y9,rfl,I7.pD _ _ hC,Ib,⟨oy,vy,p1,g2,g3⟩,hyz,λh8 a0 q1 q2 q3=>?_⟩;have I8:=(I7.Ch zd).drop ez;have I9:Inv (la P w K mg base N qual scope fn cd A outer gG gJ E) ((y,oy)::pins) DC (DM z H2) {s5 with heap:=h8}:=I8.wJ (t':=s5.toks) (R:=[z]) (λb hb=>by cases bv.mp hb;exact⟨fz,mv⟩) λb o eb hb=>by have q:=(q3 b λw=>hb (by simp[w])).trans eb;exact⟨λ_=>q,o.slots,q⟩
   refine Ue (base:=base) zd.frames I9.stack rfl q1 rfl rfl λh10 Za Ug r10 L10=>?_;have Zb:=I9.ke Ug;have Ox:DM z H2 Za=ak:=I9.iy.fresh Ug;have Vf:Inv (la P w K mg base N qual scope fn cd A outer gG gJ E) ((y,oy)::pins) DC (DM z H2) {s5 with heap:=h10}:=I9.wJ (t':=s5.toks) (R:=[z]) (λb hb=>by cases bv.mp hb;exact⟨fz,mv⟩) L10;refine Ct r10 λh11 WK L11=>?_;have PH:=Vf.Ow (R:=[Za]) (h':=h11) (λb hb=>by cases bv.mp hb;exact⟨Zb,Ox⟩) L11;exact QC PH WK fz mv Zb Ox hE
 ·cases f with
  |next=>
   obtain⟨iF,H',I',q⟩:=q;exact dJ ⟨iF,H',I'.rS zd,q⟩
  |brk=>exact SP.rS (f:=.brk) zd q
  |cont=>exact SP.rS (f:=.cont) zd q
  |ret u=>exact SP.rS (f:=.ret u) zd q
end
section
variable {X:Cx} {k:Nat} {E:XS} {x:ar} {p pos:cu} {e:aM} {es:List aM} {t:TA}
def QN (X:Cx)(k i:Nat)(E:XS)(t:TA):TE:=λσ H Q=>∃f fd ps sp,σ[i]?=aa (aa (.ref f))/\W.keepIn X.K (.ref f)=ah/\Binds X.K fd ps []/\iW X.prog X.w X.K X.mg X.base (QK X.prog X.w) k f fd ps sp/\t σ H λvs H1=>sp vs H1 Q (E σ)
theorem QP{i:Nat}(hN:X.N[i]?=aa x)(hv:Lj X.env.scope x)(hr:iG k X.A)(hx:lD X E)(ha:PA X (e::es) t)(hd:(x==("__debug__":ar))=ai:=by decide)(pE:(x==("__classdict__":ar))=ai:=by decide)
(he:av (e::es) X.env=(ai,eval e X.env)::av es X.env:=by rfl)(kC:(bN pos (av es X.env)).any (·.1)=ai:=by rfl):
  PE X (.Call (.Name x p) (e::es) [] pos) (QN X k i E t):=by intro pins s σ H Q I h;obtain⟨f,fd,ps,sp,e1,kp,hb,F,q⟩:=h;refine b2 (ja (t7 (pos:=p) hN hv hd pE pins s σ H (λv H1=>v=.ref f/\t σ H1 λvs H2=>sp vs H2 Q (E σ)) I ⟨_,e1,rfl,q⟩) λu s1 ⟨v,H1,I1,rv,e2,q⟩=>?_);subst e2;obtain rfl:u=aD f:=rv;refine W.callWith_K (h₀:=X.base) I.ok.mod.DU kp (ja (ha pos pins s1 σ H1 _ I1 q) λus s2 ⟨vs,H2,I2,r,q⟩=>⟨I2.pD,?_⟩) he kC;exact Cr F hr hb hx I2 r q
end
end L2
namespace L3
open PySem PySem.Spec PyProof.Rows L2
abbrev Gc:=List D->Ms->DK->(EX->Ms->Prop)->Prop
abbrev wR(g:Gc):Prop:=∀ds M (P Q:DK) (x y:EX->Ms->Prop),(∀d M,P d M->Q d M)->(∀e M,x e M->y e M)->g ds M P x->g ds M Q y
abbrev zK(K:W.Frag)(F α:List af)(H:Hp)(M:Ms)(E:XK):EX->Ms->Prop:=λx M'=>∀gS H' od vs,Ext F α H M gS H' M'->OK K F gS H' M'->x.ns.length=x.ds.length->Om H' od (x.ns.zip vs)->gu K gS (iS F gS M' H') x.ds vs->E (.ref x.C) od H'
def wS (K:W.Frag)(g:Gc):Sp:=λvs H Q E=>∃F α M ds,OK K F α H M/\gu K α (iS F α M H) ds vs/\g ds M (vK K F α H M Q) (zK K F α H M E)
def sW (n m:Nat)(tb:XB):Gc:=λds M Q Ex=>ds.length=m/\tb (λe _ M'=>Ex e M') ⟨λ_ M'=>Q .non M',Q,λ_ _=>False,λ_ _=>False⟩ (k9 n ds) M
section
variable {P:ao} {w:aE} {K:W.Frag} {mg:ar->Option ae} {base:aq}
theorem M7{n:List ar}{ps:List ar}{X:Cx}{body:List br}{tb:XB}{E:XK}(hJ:F6 X (λ_=>E) body tb){H:Hp}{vs:List V}{Q:VK}(hK:X.K=K)(h:wS K (sW n.length ps.length tb) vs H Q E):
  ∃t,pH X body t/\t {nx:=λ_ H'=>Q .non H',rt:=Q} (L2.start n vs) H:=by subst hK;obtain⟨F,α,M,ds,o,r,hl,q⟩:=h;refine⟨_,hJ.p,F,α,k9 n.length ds,M,vJ o r,hJ.mono _ _ _ _ _ _ (λe jY M' q iF gS H' od ws ext r' l xd rp=>q gS H' od ws ext r'.ok l xd rp) ?_ q⟩;exact⟨λδ M' q iF gS H' e r=>q _ gS H' e r.ok lX,λ_ _ q=>q,λ_ _ q=>q.elim,λ_ _ q=>q.elim⟩
theorem zg{x qual:ar}{st:br}{f:af}{fd:bz}{N ps:List ar}{k:Nat}{body:List br}{scope:bJ}{tb:XB}(F:og K x qual st f fd)(eb:g6 st=body)(es:gM st=scope)(S:gL N ps scope)
(hJ:∀(g8:ae) (A:ay) (outer:List cz) (s:ag) (H:Hp) (E:XK),iG k (A.deeper (cy qual scope s.heap.objs.size f g8))->F6 (la P w K mg base N qual scope f g8 A outer s H E) (λ_=>E) body tb):
  iW P w K mg base (Bm P w) (k+1) f fd ps (wS K (sW N.length ps.length tb)):=by subst eb es;obtain⟨oc,od,kV,doc,pm,an,g8,ct,uH,rfl,lk,pE⟩:=F.ex;exact FC lk pE S (λvs H Q E ⟨F,α,M,ds,o,r,hl,q⟩=>by rw[<-gu.length _ _ r];exact hl) λA outer s H vs Q E hr zL=>M7 (ps:=ps) (hJ g8 A outer s H E hr) rfl zL
structure ix(P:ao)(w:aE)(K:W.Frag)(mg:ar->Option ae)(base:aq)(k:Nat)(C:af)(m:ar)(g:Gc):Prop where
 mono:wR g
 cl:D2 K C
 ok:∃f fd ps,Meth K C m f/\Binds K fd ps []/\iW P w K mg base (Bm P w) k f fd ps (wS K g)
theorem ix.up{j k:Nat}{C:af}{m:ar}{g:Gc}(h:ix P w K mg base j C m g)(Jd:j<=k):ix P w K mg base k C m g:=
 ⟨h.mono,h.cl,let⟨f,fd,ps,a,b,c⟩:=h.ok;⟨f,fd,ps,a,b,c.mono Jd⟩⟩
theorem um{k:Nat}{C f:af}{m:ar}{fd:bz}{ps:List ar}{g g':Gc}(c:D2 K C)(hm:Meth K C m f)(hb:Binds K fd ps [])(F:iW P w K mg base (Bm P w) k f fd ps (wS K g))(mm:wR g')(i:∀ds M Q y,g' ds M Q y->g ds M Q y):ix P w K mg base k C m g':=
 ⟨mm,c,f,fd,ps,hm,hb,F.imp λvs H Q E ⟨F,α,M,ds,o,r,q⟩=>⟨F,α,M,ds,o,r,i _ _ _ _ q⟩⟩
theorem pV.x{k:Nat}{C:af}{m:ar}{g:GN}(h:pV P w K mg base k C m g):ix P w K mg base k C m λds M Q _=>g ds M Q:=by
 obtain⟨f,fd,ps,a,b,F⟩:=h.ok;refine⟨λds M P Q _ _ w _ q=>h.mono _ _ _ _ w q,h.cl,f,fd,ps,a,b,λvs H Q E q=>F.len vs H Q E q,λA outer s H args us vs Q E hr e0 hb r q=>cr (F.run A outer s H args us vs Q E hr e0 hb r q) λr s' hq=>?_⟩;cases r with
 |error e=>exact hq.elim
 |ok fl=>cases fl<;>exact hq
structure QQ(P:ao)(w:aE)(K:W.Frag)(mg:ar->Option ae)(base:aq)(k:Nat)(f:af)(g:t6):Prop where
 mono:nO g
 ok:∃fd ps,W.keepIn K (.ref f)=ah/\Binds K fd ps []/\iW P w K mg base (QK P w) k f fd ps (rT K g)
end
abbrev lJ:=af->ar->Gc->Prop
def lh (T:lJ)(m:ar)(to:DE)(tt:XA):XE:=λx δ M Q=>to δ M λd M1=>∃C ns es g,vw M1 d=.ins C ns es/\xX m ns es=ak/\T C m g/\tt x δ M1 λds M2=>g (d::ds) M2 Q λe M3=>x e δ M3
def Zc (T:af->t6->Prop)(i:Nat)(tt:XA):XE:=λx δ M Q=>∃f g,δ[i]?=aa (aa (.cls f))/\T f g/\tt x δ M λds M1=>nK ds=ah/\g ds (λd=>Q d M1) λe=>x e δ M1
section
variable {X:Cx} {E:XS} {c e o:aM} {to:DE} {te:XE} {tt:XA} {pos p p2 apos:cu} {x m:ar} {es:List aM} {k:Nat}
theorem ln{pl:f9 Bool}{T:lJ}(hT:∀C g,T C m g->ix X.prog X.w X.K X.mg X.base k C m g)(hr:iG k X.A)(hx:oC X E)(ho:JE X o to)(ha:Qv X E (e::es) tt)
(l8:av (e::es) X.env=(ai,eval e X.env)::av es X.env:=by rfl)(kC:(bN pos (av es X.env)).any (·.1)=ai:=by rfl)
(ht:eval (.Call (.Attribute o m apos) (e::es) [] pos) X.env=(do
   let ov<-eval o X.env
   eF apos.atName
   let(f,first)<-holding [ov] (eH ov m pl)
   fY pos f first (bN pos (av (e::es) X.env)) (eg pos (de [] X.env))):=by rfl):
  Ic X E (.Call (.Attribute o m apos) (e::es) [] pos) (lh T m to tt):=by
 refine⟨λx y δ M P Q v w q=>ho.mono δ _ _ _ (λd M1 q=>?_) q,?_⟩
 ·obtain⟨C,ns,es,g,h1,h2,h3,q⟩:=q;exact⟨C,ns,es,g,h1,h2,h3,ha.mono _ _ δ _ _ _ v (λds M2 q=>(hT C g h3).mono _ _ _ _ _ _ w (λe M q=>v _ _ _ q) q) q⟩
 ·intro pins s σ H Q I h;obtain⟨F,α,δ,M,r,q⟩:=h;refine W.methodCall_KW (pl:=pl) (ja (ho.p pins s σ H _ I ⟨F,α,δ,M,r,ho.mono δ _ _ _ (λd M1 q v gU H1 e1 o1 r1=>(show(λv H1=>∃M1 gU d,Ext F α H M gU H1 M1/\OK X.K F gU H1 M1/\Rep X.K gU (iS F gU M1 H1) d v/\∃C ns es g,vw M1 d=.ins C ns es/\xX m ns es=ak/\T C m g/\tt (xK X.K F α H M E) δ M1 λds M2=>g (d::ds) M2 (vK X.K F α H M Q) λe M3=>xK X.K F α H M E e δ M3) v H1 from⟨M1,gU,d,e1,o1,r1,q⟩)) q⟩) λu s1 ⟨v,H1,I1,rx,M1,gU,d,e1,o1,r1,C,ns,OW,g,h1,h2,h3,q⟩=>?_) ht;obtain⟨a,dx,vs,rfl,sq,hl,zz⟩:=Eg o1 r1 h1;obtain rfl:u=aD a:=rx;have MO:=hT C g h3;obtain⟨f,fd,ps,hm,hb,FO⟩:=MO.ok;refine vY I1 sq MO.cl hm ((sR ns OW vs zz hl).2 h2) ?_;refine W.callWith_K (first:=[.ref a]) (h₀:=X.base) I.ok.mod.DU hm.kp (ja (ha.p pos pins s1 σ H1 _ I1 ⟨F,gU,δ,M1,r.grow e1 o1,ha.mono _ _ δ _ _ _ (xK.grow e1) (λds M2 q HY lR H2 e2 o2 r2=>(show(λHY H2=>wS X.K g (V.ref a::HY) H2 Q (E σ)) HY H2 from
   ⟨F,lR,M2,d::ds,o2,gu.cons (e2.rep r1) r2,MO.mono _ _ _ _ _ _ (vK.grow (e1.trans e2)) (λex M3 q uc H3 od ws e3 o3 l hx hr=>q σ uc H3 od ws ((e1.trans e2).trans e3) ((r.grow (e1.trans e2) o2).grow e3 o3) l hx hr) q⟩)) q⟩) λus s2 ⟨HY,H2,I2,r2,q2⟩=>⟨I2.pD,?_⟩) l8 kC
  exact F5 (us:=.ref a::us) (vs:=.ref a::HY) FO hr hb hx I2 (.cons rfl r2) q2
theorem QR{T:af->t6->Prop}(i:Nat)(hT:∀f g,T f g->QQ X.prog X.w X.K X.mg X.base k f g)(hr:iG k X.A)(hx:lD X E)(ha:Qv X E (e::es) tt)(hN:X.N[i]?=aa x:=by rfl)(hv:Lj X.env.scope x:=by first|exact df rfl|exact cG (df rfl)|exact cG (cG rfl))
(hd:(x==("__debug__":ar))=ai:=by decide)(pE:(x==("__classdict__":ar))=ai:=by decide)
(he:av (e::es) X.env=(ai,eval e X.env)::av es X.env:=by rfl)(kC:(bN pos (av es X.env)).any (·.1)=ai:=by rfl):Ic X E (.Call (.Name x p) (e::es) [] pos) (Zc T i tt):=by
 refine⟨λx y δ M P Q v w q=>?_,PE.weak (QP hN hv hr hx ha.p hd pE he kC) λσ H Q q=>?_⟩
 ·obtain⟨f,g,h1,h2,q⟩:=q;exact⟨f,g,h1,h2,ha.mono _ _ δ _ _ _ v (λds M1 q=>⟨q.1,(hT f g h2).mono _ _ _ _ _ (λd q=>w _ _ q) (λe q=>v _ _ _ q) q.2⟩) q⟩
 ·obtain⟨F,α,δ,M,r,f,g,h1,h2,q⟩:=q;obtain⟨v,e1,rv⟩:=r.sl i _ h1;unfold Rep at rv;subst rv;have FV:=hT f g h2;obtain⟨fd,ps,kp,hb,FO⟩:=FV.ok;refine⟨f,fd,ps,_,e1,kp,hb,FO,F,α,δ,M,r,ha.mono _ _ δ _ _ _ (uU.rfl _) (λds M1 q vs gU H1 e1 o1 r1=>?_) q⟩;exact⟨F,gU,M1,ds,o1,r1,q.1,FV.mono _ _ _ _ _ (λd q=>vK.grow e1 _ _ q) (λex q H2 od ws e2 o2 l hx hr=>q σ gU H2 od ws (e1.trans e2) ((r.grow e1 o1).grow e2 o2) l hx hr) q.2⟩
end
def Oy (K:W.Frag)(B C:af)(ns:List ar)(tb:XB)(tt:DA):XB:=λx E δ M=>tb (λe jY M'=>vk K e.C B/\tt jY M' λds M1=>ds.length=ns.length/\ds.all Ck=ah/\ds.length<=aH/\x ⟨C,ns,ds⟩ jY M1) E δ M
structure nS(P:ao)(w:aE)(K:W.Frag)(mg:ar->Option ae)(base:aq)(k:Nat)(x:ar)(C:af)(ns:List ar):Prop where
 m:mg x=aa (.ref C)
 ok:∃f fd ps,Oi K C f/\Binds K fd ps []/\ph P w K mg base pF k f fd ps (Vs C ns)
theorem nS.calm{P:ao}{w:aE}{K:W.Frag}{mg:ar->Option ae}{base:aq}{k:Nat}{x:ar}{C:af}{ns:List ar}(h:nS P w K mg base k x C ns):vN P w K mg base k x C ns:=
 ⟨h.m,let⟨f,fd,ps,a,b,c⟩:=h.ok;⟨f,fd,ps,a,b,c.calm⟩⟩
section
variable {P:ao} {w:aE} {K:W.Frag} {mg:ar->Option ae} {base:aq} {N:List ar} {qual:ar} {scope:bJ} {fn:af} {cd:ae} {A:ay} {outer:List cz} {gG:ag} {gJ:Hp} {E:XK}
variable {k:Nat} {C B:af} {ns:List ar} {x tn:ar} {p pos iM tp xY QM np:cu} {kk:Nat} {e:aM} {es:List aM} {tt:DA} {body:List br} {tb:XB}
theorem Kt(h:nS P w K mg base k x C ns)(hr:iG (k+1) (la P w K mg base N qual scope fn cd A outer gG gJ E).A)(hm:mg tn=aa (.ref B))
(hb:∀(pn:List (af×bE)) (E':ae->ag->Prop) (Ex:XS),lD ((la P w K mg base N qual scope fn cd A outer gG gJ E).wp pn E') Ex->F6 ((la P w K mg base N qual scope fn cd A outer gG gJ E).wp pn E') Ex body tb)
(ha:∀y,JA ((la P w K mg base N qual scope fn cd A outer gG gJ E).DN y) (e::es) tt)(hg:Gl (la P w K mg base N qual scope fn cd A outer gG gJ E) tn:=by rfl)(Xz:Gl (la P w K mg base N qual scope fn cd A outer gG gJ E) x:=by rfl)
(ni:(tn==("__debug__":ar))=ai:=by decide)(Cg:(x==("__debug__":ar))=ai:=by decide)
(he:av (e::es) (la P w K mg base N qual scope fn cd A outer gG gJ E).env=(ai,eval e (la P w K mg base N qual scope fn cd A outer gG gJ E).env)::av es (la P w K mg base N qual scope fn cd A outer gG gJ E).env:=by rfl)
(kC:(bN iM (av es (la P w K mg base N qual scope fn cd A outer gG gJ E).env)).any (·.1)=ai:=by rfl):
  Kc (la P w K mg base N qual scope fn cd A outer gG gJ E) (λ_=>E) (.Try body [.ExceptHandler (aa (.Name tn tp)) ak [.Raise (aa (.Call (.Name x p) (e::es) [] iM)) (aa (.Constant .none kk np)) QM] xY] [] [] pos) (Oy K B C ns tb tt):=by obtain⟨XC,f,fd,ps,M,Ql,F⟩:=h;have hM:=(ha .none).mono;have TY:=(hb [] (λ_ _=>True) (λ_ _ _ _=>False) λ_ _ _ _ _ _ _ _=>trivial).mono;refine⟨λx y P Q δ M v w q=>TY _ _ _ _ _ _ (λe jY M' q=>⟨q.1,hM jY _ _ _ (λds M1 q=>⟨q.1,q.2.1,q.2.2.1,v _ _ _ q.2.2.2⟩) q.2⟩) w q,PS.weak (M0 (tb:=λEx=>Vr K Ex tb) (t:=lA K tt) hg hm ni (λpn E' Ex hp=>(hb pn E' Ex hp).p) M F (λvs H Q Q' w ⟨x,ws,q1,q2,q3,q4,q5⟩=>⟨x,ws,q1,q2,q3,q4,λdx h1 h2=>w _ _ (q5 dx h1 h2)⟩) hr Ql Xz XC (λy=>(ha y).p) Cg he kC) λD σ H q=>?_⟩;obtain⟨F,α,δ,M,r,q⟩:=q;refine⟨F,α,δ,M,r,TY _ _ _ _ _ _ (λex jY M' ⟨sub,q⟩ iF gS H' od vs e1 r1 l xd rp=>⟨ex.C,rfl,sub,F,gS,jY,M',r1,hM jY _ _ _ (λds M1 q ws lR H2 e2 o2 r2=>?_) q⟩) (iE.le.refl _) q⟩;obtain⟨q1,q2,q3,q4⟩:=q;have hl:=gu.length _ _ r2;refine⟨by rw[<-hl];exact q3,λx hx=>⟨x,ws,rfl,by rw[<-hl];exact q1,EA _ _ r2 q2,gF,λdx Cg ne=>⟨rfl,aa dx,gF,?_⟩⟩⟩;rw[gz ne] at Cg;rw[F9 hx ne];obtain⟨o3,e3⟩:=o2.laid (x:=zc dx (ns.zip ws)) Cg;exact q4 iF lR _ (aa dx) ws ((e1.trans e2).trans e3) ((r1.grow e2 o2).grow e3 o3) q1.symm gF (e3.wd r2)
end
def XG (g:G2)(ta:XE)(tb:DE):XE:=λx=>gB g (ta x) tb
section
variable {X:Cx} {E:XS} {a b:aM} {ta:XE} {tb:DE} {pos:cu}
theorem Ku{g:G2}(o:JX X g)(ha:Ic X E a ta)(hb:JE X b tb)(hs:zN b:=by exactλ_ _=>rfl):Ic X E (.Subscript a b pos) (XG g ta tb):=by refine⟨λx y δ M P Q v w q=>ha.mono _ _ δ _ _ _ v (λd M1 q=>hb.mono δ _ _ _ (λd2 M2 q=>o.mono _ _ _ _ _ w q) q) q,PE.weak (NY o.p ha.p hb.p hs) λσ H Q q=>?_⟩;obtain⟨F,α,δ,M,r,q⟩:=q;refine⟨F,α,δ,M,r,ha.mono _ _ δ _ _ _ (uU.rfl _) (λda M1 q v gU H1 e1 o1 r1=>⟨F,gU,δ,M1,r.grow e1 o1,hb.mono δ _ _ _ (λdb M2 q u lR H2 e2 o2 r2=>?_) q⟩) q⟩;exact⟨F,lR,M2,da,db,o2,e2.rep r1,r2,o.mono _ _ _ _ _ (vK.grow (e1.trans e2)) q⟩
end
end L3
namespace mO
open PySem PySem.Spec PyProof.Rows L2 L3 FJ
noncomputable def top(i:Nat):br:=PySem.Challenge.pw_farjump_k54_what_the_machine_refuses.main.body.getD i (.Pass ⟨0,0,0,0⟩)
section
variable {P:ao} {w:aE} {K:W.Frag} {mg:ar->Option ae} {base:aq} {k:Nat}
local macro_rules | `(tactic| walk_at "wl_") => `(tactic| (conv => lhs; whnf))
local macro_rules | `(tactic| walk_at "fsc_") => `(tactic| exact ⟨rfl, rfl, rfl, by decide +kernel, rfl, by decide +kernel, by decide +kernel⟩)
theorem Zd:∀{us:List ae},us.length=1->∃a,us=[a]
 |[a],_=>⟨a,rfl⟩
theorem Ze{us:List ae}(h:us.length=2):∃a b,us=[a,b]:=by
 cases us with
 |nil=>nomatch h
 |cons a r=>
  obtain⟨b,q⟩:=Zd (cO h);exact⟨a,b,congrArg (a::·) q⟩
theorem Zf{us:List ae}(h:us.length=3):∃a b c,us=[a,b,c]:=by
 cases us with
 |nil=>nomatch h
 |cons a r=>
  obtain⟨b,c,q⟩:=Ze (cO h);exact⟨a,b,c,congrArg (a::·) q⟩
theorem Zg{us:List ae}(h:us.length=4):∃a b c d,us=[a,b,c,d]:=by
 cases us with
 |nil=>nomatch h
 |cons a r=>
  obtain⟨b,c,d,q⟩:=Zf (cO h);exact⟨a,b,c,d,congrArg (a::·) q⟩
theorem us5{us:List ae}(h:us.length=5):∃a b c d e,us=[a,b,c,d,e]:=by
 cases us with
 |nil=>nomatch h
 |cons a r=>
  obtain⟨b,c,d,e,q⟩:=Zg (cO h);exact⟨a,b,c,d,e,congrArg (a::·) q⟩
local macro_rules | `(tactic| walk_at "u_") => `(tactic| (intro _ _ _ _ _ _ us hl; first | (obtain ⟨_, e⟩ := Zd hl; subst e; rfl) | (obtain ⟨_, _, e⟩ := Ze hl; subst e; rfl) | (obtain ⟨_, _, _, e⟩ := Zf hl; subst e; rfl) | (obtain ⟨_, _, _, _, e⟩ := Zg hl; subst e; rfl) | (obtain ⟨_, _, _, _, _, e⟩ := us5 hl; subst e; rfl) | (obtain ⟨_, _, _, _, _, _, e⟩ := us6 hl; subst e; rfl)))
abbrev BF(s:br):={b:List br // g6 s=b}
abbrev SF(s:br):={b:bJ // gM s=b}
structure Zs(mg:ar->Option ae):Prop where
 tuple:mg "tuple"=ak
 range:mg "range"=ak
 len:mg "len"=ak
 isinstance:mg "isinstance"=ak
 max:mg "max"=ak
 list:mg "list"=ak
 sX:∃t,mg "GREATEST_NUMBER"=aa (.int 2147483647 t)
 Aq:∃t,mg "LAST_PLACE"=aa (.int 65535 t)
 Cu:∃t,mg "MOST_KEPT"=aa (.int 40 t)
variable {f:af} {fd:bz} {ic ju qF mV oH lp zf lq mW hU js l0 qG li:GN} {hG wP mX kI l4 j4 mY qH sY:af} {i4 oI mZ:t6} {lc ko lC:lZ} {kq kg jD lf jy ma nQ iJ:lJ} {sZ:af->t6->Prop}
theorem nq:b8 "isinstance"=aa (.builtin "isinstance"):=by decide+kernel
theorem my:b8 "len"=aa (.builtin "len"):=by decide+kernel
theorem Ar:b8 "list"=aa (.type "list"):=by decide+kernel
theorem QU:b8 "max"=aa (.builtin "max"):=by decide+kernel
theorem Kv:b8 "tuple"=aa (.type "tuple"):=by decide+kernel
noncomputable def tm:D:=.tup [.tup [.str "set",.non,.int 16,.int 1,.int 4],.tup [.str "add",.non,.int 32,.int 2,.int 0],.tup [.str "take",.non,.int 48,.int 2,.int 0],.tup [.str "say",.non,.int 64,.int 1,.int 0],.tup [.str "ask",.non,.int 68,.int 1,.int 0],.tup [.str "jump",.bl ah,.int 80,.int 0,.int 1],.tup [.str "jump",.bl ai,.int 81,.int 0,.int 2],.tup [.str "call",.bl ah,.int 82,.int 0,.int 1],.tup [.str "call",.bl ai,.int 83,.int 0,.int 2],.tup [.str "jumpif",.bl ah,.int 84,.int 1,.int 1],.tup [.str "jumpif",.bl ai,.int 88,.int 1,.int 2],.tup [.str "back",.non,.int 98,.int 0,.int 0],.tup [.str "stop",.non,.int 99,.int 0,.int 0],.tup [.str "jumpby",.bl ah,.int 100,.int 1,.int 1],.tup [.str "jumpby",.bl ai,.int 104,.int 1,.int 2],.tup [.str "load",.bl ah,.int 112,.int 2,.int 1],.tup [.str "load",.bl ai,.int 128,.int 2,.int 2],.tup [.str "alike",.non,.int 144,.int 1,.int 4]]
noncomputable def jo:D:=.tup [.int 1,.int 4,.int 16]
abbrev jQ:br:=jJ (top 2) 0
noncomputable def wT:BF jQ:=⟨_,by walk_at "wl_"⟩
noncomputable def p5:SF jQ:=⟨_,by walk_at "wl_"⟩
theorem vo:gL ["self","place"] ["self","place"] p5.1:=by walk_at "fsc_"
theorem wU{B C:af}(F:og K "__init__" "NoCells.__init__" jQ f fd)(hB:F4 K B)(m:mg "PartError"=aa (.ref B))(c:Et K C)(co:Eu K C)(na:∀g∈(["place"]:List ar),jZ K C g):ph P w K mg base pF (k+1) f fd ["self","place"] (Vs C ["place"]):=
 MZ F wT.2 p5.2 vo c co na (λg8 A outer s H E=>Xr (pl:=_) hB m (T2 (T3 1 MR)) (Kf MT))
theorem vq(F:og K "__init__" "NoCells.__init__" jQ f fd):Binds K fd ["self","place"] []:=F.binds (by walk_at "u_")
abbrev oJ:br:=top 10
noncomputable def EI:BF oJ:=⟨_,by walk_at "wl_"⟩
noncomputable def wV:SF oJ:=⟨_,by walk_at "wl_"⟩
theorem Cv:gL ["cells","at"] ["cells","at"] wV.1:=by walk_at "fsc_"
def wW:DS:=(ip (gB gA (gB qR (dC (.int 256)) (gB iZ (gr 0) (gr 1))) (gB iZ (gr 0) (gB gA (gr 1) (dC (.int 1))))))
theorem EJ(D:hW K mg "place_at" oJ):vG P w K mg base (k+1) "place_at" ["cells","at"] (pz K (cl (wv 2 2 wW))):=
 sS D EI.2 wV.2 Cv (by walk_at "u_") λf g8 A outer s H E hr=>by have hu:=i9 hr;exact(gO (g9 (gQ gH (gQ pU gy (i6 (jx hu) (gC 0) (gC 1))) (i6 (jx hu) (gC 0) (gQ gH (gC 1) gy)))))
abbrev m4:br:=top 11
noncomputable def Cw:BF m4:=⟨_,by walk_at "wl_"⟩
noncomputable def uV:SF m4:=⟨_,by walk_at "wl_"⟩
theorem tq:gL ["cells","at","number"] ["cells","at"] uV.1:=by walk_at "fsc_"
def uW (ic:GN):DS:=(gN (ib 2 (gB gA (gB qR (gB (gI BA λi j=>.int (i^j.toNat)) (dC (.int 2)) (dC (.int 16))) (iU ic (gp (gr 0) (gp (gr 1) gw)))) (iU ic (gp (gr 0) (gp (gB gA (gr 1) (dC (.int 2))) gw)))))
 (ip (PN (gD (gB yW (gr 2) (dC (.int 2147483647)))) (gr 2) (gB (qA λi j=>.int (i- j)) (gr 2) (gB (gI BA λi j=>.int (i^j.toNat)) (dC (.int 2)) (dC (.int 32)))))))
theorem Cy(D:hW K mg "number_at" m4)(Z:Zs mg)(iP:j3 P w K mg base k "place_at" ["cells","at"] ic):vG P w K mg base (k+1) "number_at" ["cells","at"] (pz K (cl (wv 3 2 (uW ic)))):=
 sS D Cw.2 uV.2 tq (by walk_at "u_") λf g8 A outer s H E hr=>by
 have hu:=i9 hr;exact(gE (ij 2 tq.nd (gQ gH (gQ pU (gQ Jt gy gy) (jA iP hr (gq (gC 0) (gq (gC 1) gv)))) (jA iP hr (gq (gC 0) (gq (gQ gH (gC 1) gy) gv)))))
   (gO (g9 (Mm (g7 uP (gC 2) (zV Z.sX)) (gC 2) (gQ mh (gC 2) (gQ Jt gy gy))))))
abbrev qI:br:=top 12
noncomputable def Hq:BF qI:=⟨_,by walk_at "wl_"⟩
noncomputable def zh:SF qI:=⟨_,by walk_at "wl_"⟩
theorem EK:gL ["cells","at"] ["cells","at"] zh.1:=by walk_at "fsc_"
def zi:DS:=(ip (PN (gD (gB yW (gB iZ (gr 0) (gr 1)) (dC (.int 127)))) (gB iZ (gr 0) (gr 1)) (gB (qA λi j=>.int (i- j)) (gB iZ (gr 0) (gr 1)) (dC (.int 256)))))
theorem Hs(D:hW K mg "step_at" qI):vG P w K mg base (k+1) "step_at" ["cells","at"] (pz K (cl (wv 2 2 zi))):=
 sS D Hq.2 zh.2 EK (by walk_at "u_") λf g8 A outer s H E hr=>by have hu:=i9 hr;exact(gO (g9 (Mm (g7 uP (i6 (jx hu) (gC 0) (gC 1)) gy) (i6 (jx hu) (gC 0) (gC 1)) (gQ mh (i6 (jx hu) (gC 0) (gC 1)) gy))))
abbrev oK:br:=top 13
noncomputable def EL:BF oK:=⟨_,by walk_at "wl_"⟩
noncomputable def wX:SF oK:=⟨_,by walk_at "wl_"⟩
theorem Cz:gL ["number","count"] ["number","count"] wX.1:=by walk_at "fsc_"
def wY:DS:=(gN (iC (gD (gB oh (gr 1) (dC (.int 0)))) (ip (iN gw)) gW)
 (gN (iC (gD (gB oh (gr 1) (dC (.int 1)))) (ip (iN (gp (gr 0) gw))) gW)
 (ip (iN (gp (gB (gI pe λi j=>.int (i/j)) (gr 0) (dC (.int 4))) (gp (gB (gI (λ_ j=>0<j) λi j=>.int (i%j)) (gr 0) (dC (.int 4))) gw))))))
theorem EM(D:hW K mg "boxes_in" oK):vG P w K mg base (k+1) "boxes_in" ["number","count"] (pz K (cl (wv 2 2 wY))):=
 sS D EL.2 wX.2 Cz (by walk_at "u_") λf g8 A outer s H E hr=>by
 have hu:=i9 hr;exact(gE (jO (g7 (km hr.units) (gC 1) gy) (gO (g9 (jh gv))) iB)
   (gE (jO (g7 (km hr.units) (gC 1) gy) (gO (g9 (jh (gq (gC 0) gv)))) iB)
   (gO (g9 (jh (gq (gQ nM (gC 0) gy) (gq (gQ oB (gC 0) gy) gv)))))))
abbrev m5:br:=top 14
noncomputable def CB:BF m5:=⟨_,by walk_at "wl_"⟩
noncomputable def uX:SF m5:=⟨_,by walk_at "wl_"⟩
theorem tu:gL ["cell","code"] ["cell"] uX.1:=by walk_at "fsc_"
def uY:DS:=(gN (uf (sP (dC tm)) (gR 1) (iC (gD (jN yW BS (dC (.int 0)) (gB (qA λi j=>.int (i- j)) (gr 0) (gB iZ (gr 1) (dC (.int 2)))) (gB iZ (dC jo) (gB iZ (gr 1) (dC (.int 3)))))) (ip (gr 1)) gW))
 (ip (dC .non)))
theorem CC(D:hW K mg "code_from" m5)(M8:∃u,mg "CODES"=aa u/\B5 K tm u)(yc:∃u,mg "FIRST_CELLS"=aa u/\B5 K jo u):vG P w K mg base (k+1) "code_from" ["cell"] (pz K (cl (wv 2 1 uY))):=
 sS D CB.2 uX.2 tu (by walk_at "u_") λf g8 A outer s H E hr=>by
 have hu:=i9 hr;exact(gE (wq (Ac (FY M8)) (im 1 tu.nd) (gO (jO (pP uP yX gy (gQ mh (gC 0) (i6 (jx hu) (gC 1) gy)) (i6 (jx hu) (FY yc) (i6 (jx hu) (gC 1) gy))) (gO (g9 (gC 1))) iB)))
   (gO (g9 FL)))
abbrev lr:br:=top 15
noncomputable def yd:BF lr:=⟨_,by walk_at "wl_"⟩
noncomputable def nr:SF lr:=⟨_,by walk_at "wl_"⟩
theorem jt:gL ["code","cells","at","kind","short","first","boxes","more"] ["code","cells","at"] nr.1:=by walk_at "fsc_"
def qZ (ju:GN)(qF:GN)(ic:GN):DS:=(gN (qQ (gr 0) (pQ 5 (iO (gR 3) (iO (gR 4) (iO (gR 5) (iO (gR 6) (iO (gR 7) qX)))))))
 (gN (iC (gD (gB oh (gr 3) (dC (.str "set")))) (ip (iN (gp (iU ju (gp (gr 1) (gp (gB gA (gr 2) (dC (.int 1))) gw))) gw))) gW)
 (gN (iC (gD (gB JR (gr 4) (dC (.bl ah)))) (ip (iN (gp (gB gA (gB gA (gr 2) (dC (.int 2))) (iU qF (gp (gr 1) (gp (gB gA (gr 2) (dC (.int 1))) gw)))) gw))) gW)
 (ip (iU JD (gp (iq (BR [ak,aa 1] (Ah (gp (gB gA (gr 2) (dC (.int 1))) (gp (gB gA (gB gA (gr 2) (dC (.int 1))) (gr 7)) (gp (dC (.int 2)) gw)))) (gR 0) G7 (iU ic (gp (gr 1) (gp (gr 0) gw))))) gw))))))
theorem ye(D:hW K mg "told_behind" lr)(Z:Zs mg)(ku:j3 P w K mg base k "number_at" ["cells","at"] ju)(uo:j3 P w K mg base k "step_at" ["cells","at"] qF)(iP:j3 P w K mg base k "place_at" ["cells","at"] ic):vG P w K mg base (k+1) "told_behind" ["code","cells","at"] (pz K (cl (wv 8 3 (qZ ju qF ic)))):=
 sS D yd.2 nr.2 jt (by walk_at "u_") λf g8 A outer s H E hr=>by
 have hu:=i9 hr;exact(gE (pR (gC 0) (wo (iT (im 3 jt.nd) (iT (im 4 jt.nd) (iT (im 5 jt.nd) (iT (im 6 jt.nd) (iT (im 7 jt.nd) sO)))))))
   (gE (jO (g7 (km hr.units) (gC 3) j2) (gO (g9 (jh (gq (jA ku hr (gq (gC 1) (gq (gQ gH (gC 2) gy) gv))) gv)))) iB)
   (gE (jO (g7 Ep (gC 4) BM) (gO (g9 (jh (gq (gQ gH (gQ gH (gC 2) gy) (jA uo hr (gq (gC 1) (gq (gQ gH (gC 2) gy) gv)))) gv)))) iB)
   (gO (g9 (j_t JH Z.tuple Kv (gq (iV (z0 (N:=["place","cells"]) (fr:=[ak,aa 1]) (md.of (zS:=["code","cells","at","kind","short","first","boxes","more"]) (nj:=nr.1) (by decide+kernel)) (uj (gq (gQ gH (gC 2) gy) (gq (gQ gH (gQ gH (gC 2) gy) (gC 7)) (gq gy gv))) Z.range) zZ (λ_ _ _ _ _=>(im 0 (show List.Nodup (["place","cells"]:List ar) by decide+kernel))) (λ_ _ _ _ _=>zX) (λ_ _ _ _ _=>(jA iP hr (gq (gC 1) (gq (gC 0) gv)))))) gv)))))))
abbrev m6:br:=top 16
noncomputable def CD:BF m6:=⟨_,by walk_at "wl_"⟩
noncomputable def uZ:SF m6:=⟨_,by walk_at "wl_"⟩
theorem i0:gL ["cells","at","code","kind","near","first","boxes","more","behind","row"] ["cells","at"] uZ.1:=by walk_at "fsc_"
def lK (hG:af)(mV:GN)(oH:GN)(lp:GN):XB:=(jw (xO (sN (gD (jN yW BS (dC (.int 0)) (gr 1) (iU mN (gp (gr 0) gw))))) (mw hG ["place"] (gp (gr 1) gw)) (λ_=>gW))
 (jw (λ_=>(ib 2 (iU mV (gp (gB iZ (gr 0) (gr 1)) gw))))
 (jw (xO (gD (gB WY (gr 2) (dC .non))) (mw hG ["place"] (gp (gr 1) gw)) (λ_=>gW))
 (jw (λ_=>(qQ (gr 2) (pQ 5 (iO (gR 3) (iO (gR 4) (iO (gR 5) (iO (gR 6) (iO (gR 7) qX))))))))
 (jw (λ_=>(ib 8 (gB gA (gB gA (gr 1) (dC (.int 1))) (gr 7))))
 (jw (xO (gD (gB (qA λi j=>.bl (decide (j<i))) (gr 8) (iU mN (gp (gr 0) gw)))) (mw hG ["place"] (gp (gr 1) gw)) (λ_=>gW))
 (jw (λ_=>(ib 9 (gB gA (gB gA (iN (gp (gr 3) gw)) (iU oH (gp (gB (qA λi j=>.int (i- j)) (gB iZ (gr 0) (gr 1)) (gr 5)) (gp (gr 6) gw)))) (iU lp (gp (gr 2) (gp (gr 0) (gp (gr 1) gw)))))))
 (jw (xO (qO (gD (gB JR (gr 4) (dC (.bl ah)))) (sN (gD (jN yW yW (dC (.int 0)) (gB iZ (gr 9) (Jx (dC (.int 1)))) (dC (.int 65535)))))) (mw hG ["place"] (gp (gr 1) gw)) (λ_=>gW))
 (λ_=>(ip (iN (gp (gr 9) (gp (gr 4) (gp (gr 8) gw))))))))))))))
theorem CG(D:hW K mg "read_code" m6)(Z:Zs mg)(jW:vN P w K mg base k "NoCells" hG ["place"])(p6:j3 P w K mg base (k+1) "code_from" ["cell"] mV)(rX:j3 P w K mg base (k+1) "boxes_in" ["number","count"] oH)(nt:j3 P w K mg base (k+1) "told_behind" ["code","cells","at"] lp):mx P w K mg base ((k+1)+1) "read_code" ["cells","at"] (rT K (nP 10 2 (lK hG mV oH lp))):=
 Ao D CD.2 uZ.2 i0 (by walk_at "u_") λf g8 A outer s H E hr=>by
 have hu:=i9 hr;exact(gY (kG (ub (pP uP yX gy (gC 1) (Ef mj Z.len my (gq (gC 0) gv)))) (hZ (lg (ns:=["place"]) jW hr (gq (gC 1) gv))) (rJ.kX iB))
   (gY (JS.kX (ij 2 i0.nd (jA p6 hr (gq (i6 (jx hu) (gC 0) (gC 1)) gv))))
   (gY (kG (g7 Tn (gC 2) FL) (hZ (lg (ns:=["place"]) jW hr (gq (gC 1) gv))) (rJ.kX iB))
   (gY (JS.kX (pR (gC 2) (wo (iT (im 3 i0.nd) (iT (im 4 i0.nd) (iT (im 5 i0.nd) (iT (im 6 i0.nd) (iT (im 7 i0.nd) sO))))))))
   (gY (JS.kX (ij 8 i0.nd (gQ gH (gQ gH (gC 1) gy) (gC 7))))
   (gY (kG (g7 FS (gC 8) (Ef mj Z.len my (gq (gC 0) gv))) (hZ (lg (ns:=["place"]) jW hr (gq (gC 1) gv))) (rJ.kX iB))
   (gY (JS.kX (ij 9 i0.nd (gQ gH (gQ gH (jh (gq (gC 3) gv)) (jA rX hr (gq (gQ mh (i6 (jx hu) (gC 0) (gC 1)) (gC 5)) (gq (gC 6) gv)))) (jA nt hr (gq (gC 2) (gq (gC 0) (gq (gC 1) gv)))))))
   (gY (kG (wl (rG (g7 Ep (gC 4) BM) (qz (ub (pP uP uP gy (i6 (jx hu) (gC 9) (Jy gy)) (zV Z.Aq)))))) (hZ (lg (ns:=["place"]) jW hr (gq (gC 1) gv))) (rJ.kX iB))
   (hZ (JS.kX (g9 (jh (gq (gC 9) (gq (gC 4) (gq (gC 8) gv)))))))))))))))
abbrev lu:br:=top 17
noncomputable def yf:BF lu:=⟨_,by walk_at "wl_"⟩
noncomputable def q8:SF lu:=⟨_,by walk_at "wl_"⟩
theorem p7:gL ["cells","at","cells_for_one","behind"] ["cells","at","cells_for_one"] q8.1:=by walk_at "fsc_"
def re (hG:af)(ic:GN):XB:=(jw (xO (WQ (gD (gB BS (gr 1) (dC (.int 0)))) (gD (gB (qA λi j=>.bl (decide (j<i))) (gB gA (gr 1) (dC (.int 2))) (iU mN (gp (gr 0) gw))))) (mw hG ["place"] (gp (gr 1) gw)) (λ_=>gW))
 (jw (λ_=>(ib 3 (gB gA (gB gA (gr 1) (dC (.int 2))) (gB qR (gr 2) (iU ic (gp (gr 0) (gp (gr 1) gw)))))))
 (jw (xO (gD (gB (qA λi j=>.bl (decide (j<i))) (gr 3) (iU mN (gp (gr 0) gw)))) (mw hG ["place"] (gp (gr 1) gw)) (λ_=>gW))
 (λ_=>(ip (gr 3))))))
theorem yg(D:hW K mg "behind_list" lu)(Z:Zs mg)(jW:vN P w K mg base k "NoCells" hG ["place"])(iP:j3 P w K mg base (k+1) "place_at" ["cells","at"] ic):mx P w K mg base ((k+1)+1) "behind_list" ["cells","at","cells_for_one"] (rT K (nP 4 3 (re hG ic))):=
 Ao D yf.2 q8.2 p7 (by walk_at "u_") λf g8 A outer s H E hr=>by
 have hu:=i9 hr;exact(gY (kG (wl (Te (g7 yX (gC 1) gy) (PM (g7 FS (gQ gH (gC 1) gy) (Ef mj Z.len my (gq (gC 0) gv)))))) (hZ (lg (ns:=["place"]) jW hr (gq (gC 1) gv))) (rJ.kX iB))
   (gY (JS.kX (ij 3 p7.nd (gQ gH (gQ gH (gC 1) gy) (gQ pU (gC 2) (jA iP hr (gq (gC 0) (gq (gC 1) gv)))))))
   (gY (kG (g7 FS (gC 3) (Ef mj Z.len my (gq (gC 0) gv))) (hZ (lg (ns:=["place"]) jW hr (gq (gC 1) gv))) (rJ.kX iB))
   (hZ (JS.kX (g9 (gC 3)))))))
abbrev kJ:br:=top 18
noncomputable def wZ:BF kJ:=⟨_,by walk_at "wl_"⟩
noncomputable def mz:SF kJ:=⟨_,by walk_at "wl_"⟩
theorem pj:gL ["cells","at","behind"] ["cells","at"] mz.1:=by walk_at "fsc_"
def p8 (i4:t6)(ju:GN):XB:=(jw (Ke 2 (RV i4 (λ_=>(gp (gr 0) (gp (gr 1) (gp (dC (.int 4)) gw))))))
 (λ_=>(ip (iN (gp (iq (BR [ak,aa 0] (Ah (gp (gB gA (gr 1) (dC (.int 2))) (gp (gr 2) (gp (dC (.int 4)) gw)))) (gR 0) G7 (iU ju (gp (gr 1) (gp (gr 0) gw))))) (gp (gr 2) gw))))))
theorem w4(D:hW K mg "read_numbers" kJ)(Z:Zs mg)(jE:p4 P w K mg base k "behind_list" ["cells","at","cells_for_one"] i4)(ku:j3 P w K mg base k "number_at" ["cells","at"] ju):mx P w K mg base (k+1) "read_numbers" ["cells","at"] (rT K (nP 3 2 (p8 i4 ju))):=
 Ao D wZ.2 mz.2 pj (by walk_at "u_") λf g8 A outer s H E hr=>by
 have hu:=i9 hr;exact(gY (Am 2 pj.nd (Kr jE hr Kq (JA.kX (gq (gC 0) (gq (gC 1) (gq gy gv))))))
   (hZ (JS.kX (g9 (jh (gq (iV (z0 (N:=["place","cells"]) (fr:=[ak,aa 0]) (md.of (zS:=["cells","at","behind"]) (nj:=mz.1) (by decide+kernel)) (uj (gq (gQ gH (gC 1) gy) (gq (gC 2) (gq gy gv))) Z.range) zZ (λ_ _ _ _ _=>(im 0 (show List.Nodup (["place","cells"]:List ar) by decide+kernel))) (λ_ _ _ _ _=>zX) (λ_ _ _ _ _=>(jA ku hr (gq (gC 1) (gq (gC 0) gv)))))) (gq (gC 2) gv)))))))
abbrev l5:br:=top 19
noncomputable def As:BF l5:=⟨_,by walk_at "wl_"⟩
noncomputable def oM:SF l5:=⟨_,by walk_at "wl_"⟩
theorem rf:gL ["cells","at","behind"] ["cells","at"] oM.1:=by walk_at "fsc_"
def tz (i4:t6)(ic:GN):XB:=(jw (Ke 2 (RV i4 (λ_=>(gp (gr 0) (gp (gr 1) (gp (dC (.int 2)) gw))))))
 (λ_=>(ip (iN (gp (iq (BR [ak,aa 0] (Ah (gp (gB gA (gr 1) (dC (.int 2))) (gp (gr 2) (gp (dC (.int 2)) gw)))) (gR 0) G7 (iU ic (gp (gr 1) (gp (gr 0) gw))))) (gp (gr 2) gw))))))
theorem Au(D:hW K mg "read_table" l5)(Z:Zs mg)(jE:p4 P w K mg base k "behind_list" ["cells","at","cells_for_one"] i4)(iP:j3 P w K mg base k "place_at" ["cells","at"] ic):mx P w K mg base (k+1) "read_table" ["cells","at"] (rT K (nP 3 2 (tz i4 ic))):=
 Ao D As.2 oM.2 rf (by walk_at "u_") λf g8 A outer s H E hr=>by
 have hu:=i9 hr;exact(gY (Am 2 rf.nd (Kr jE hr Kq (JA.kX (gq (gC 0) (gq (gC 1) (gq gy gv))))))
   (hZ (JS.kX (g9 (jh (gq (iV (z0 (N:=["place","cells"]) (fr:=[ak,aa 0]) (md.of (zS:=["cells","at","behind"]) (nj:=oM.1) (by decide+kernel)) (uj (gq (gQ gH (gC 1) gy) (gq (gC 2) (gq gy gv))) Z.range) zZ (λ_ _ _ _ _=>(im 0 (show List.Nodup (["place","cells"]:List ar) by decide+kernel))) (λ_ _ _ _ _=>zX) (λ_ _ _ _ _=>(jA iP hr (gq (gC 1) (gq (gC 0) gv)))))) (gq (gC 2) gv)))))))
abbrev mC:br:=jJ (top 22) 0
noncomputable def EN:BF mC:=⟨_,by walk_at "wl_"⟩
noncomputable def w5:SF mC:=⟨_,by walk_at "wl_"⟩
theorem CH:gL ["self","store","inputs"] ["self","store","inputs"] w5.1:=by walk_at "fsc_"
theorem EO(F:og K "__init__" "Run.__init__" mC f fd):iW P w K mg base pF (k+1) f fd ["self","store","inputs"] (pz K (BQ 3 3 (wO K))):=
 JL F EN.2 w5.2 CH λg8 A outer s H E hr=>by
 have hu:=i9 hr;exact(gE (jV (gC 0) (gC 1))
   (gE (jV (gC 0) (gC 2))
   (gE (jV (gC 0) gy)
   (gE (jV (gC 0) (uN (ii (gq gy (gq gy (gq gy (gq gy gv)))))))
   (gE (jV (gC 0) (uN (ii gv)))
   (gE (jV (gC 0) (uN (ii gv)))
   (gO (jV (gC 0) FL))))))))
theorem CI(F:og K "__init__" "Run.__init__" mC f fd):Binds K fd ["self","store","inputs"] []:=F.binds (by walk_at "u_")
abbrev kK:br:=jJ (top 22) 1
noncomputable def Av:BF kK:=⟨_,by walk_at "wl_"⟩
noncomputable def tD:SF kK:=⟨_,by walk_at "wl_"⟩
theorem rg:gL ["self","row","behind","kind"] ["self","row","behind"] tD.1:=by walk_at "fsc_"
def oG (K:W.Frag)(lc:lZ)(ko:lZ)(kq:lJ)(kg:lJ)(jD:lJ):XB:=(jw (λ_=>(ib 3 (gB iZ (gr 1) (dC (.int 0)))))
 (jw (λ_=>(iC (gD (gB oh (gr 3) (dC (.str "jump")))) (ip (gB iZ (gr 1) (dC (.int 1)))) gW))
 (jw (λ_=>(iC (gD (gB oh (gr 3) (dC (.str "jumpif")))) (ip (PN (gD (gB oh (gB iZ (i8 K "boxes" (gr 0)) (gB iZ (gr 1) (dC (.int 1)))) (dC (.int 0)))) (gr 2) (gB iZ (gr 1) (dC (.int 2))))) gW))
 (jw (λ_=>(iC (gD (gB oh (gr 3) (dC (.str "call")))) (ip (mT lc "do_call" (gr 0) (gp (gB iZ (gr 1) (dC (.int 1))) (gp (gr 2) gw)))) gW))
 (jw (λ_=>(iC (gD (gB oh (gr 3) (dC (.str "back")))) (ip (mT ko "do_back" (gr 0) (gp (gr 2) gw))) gW))
 (jw (xO (gD (gB oh (gr 3) (dC (.str "jumpby")))) (Ez (lh kq "do_jumpby" (gr 0) (wM (λ_=>(gB iZ (i8 K "boxes" (gr 0)) (gB iZ (gr 1) (dC (.int 1))))) (wM (lh kg "table_at" (i8 K "store" (gr 0)) (λ_=>(gp (gB iZ (gr 1) (dC (.int 2))) gw))) (wM (λ_=>(gr 2)) (λ_=>gw)))))) (λ_=>gW))
 (jw (xO (gD (gB oh (gr 3) (dC (.str "stop")))) (λ_=>(mq K "end" (gr 0) (dC (.str "stop")))) (Kd (lh jD "do_in_boxes" (gr 0) (λ_=>(gp (gr 1) gw)))))
 (λ_=>(ip (gr 2))))))))))
theorem Aw(F:og K "do_row" "Run.do_row" kK f fd)(EQ:∀C g,lc C "do_call" g->pV P w K mg base k C "do_call" g)(ER:∀C g,ko C "do_back" g->pV P w K mg base k C "do_back" g)(Ax:∀C g,kq C "do_jumpby" g->ix P w K mg base k C "do_jumpby" g)(CJ:∀C g,kg C "table_at" g->ix P w K mg base k C "table_at" g)(w8:∀C g,jD C "do_in_boxes" g->ix P w K mg base k C "do_in_boxes" g):iW P w K mg base (Bm P w) (k+1) f fd ["self","row","behind"] (wS K (sW 4 3 (oG K lc ko kq kg jD))):=
 zg F Av.2 tD.2 rg λg8 A outer s H E hr=>by
 have hu:=i9 hr;exact(gY (JS.kX (ij 3 rg.nd (i6 (jx hu) (gC 1) gy)))
   (gY (JS.kX (jO (g7 (km hr.units) (gC 3) j2) (gO (g9 (i6 (jx hu) (gC 1) gy))) iB))
   (gY (JS.kX (jO (g7 (km hr.units) (gC 3) j2) (gO (g9 (Mm (g7 (km hr.units) (i6 (jx hu) (jL (gC 0)) (i6 (jx hu) (gC 1) gy)) gy) (gC 2) (i6 (jx hu) (gC 1) gy)))) iB))
   (gY (JS.kX (jO (g7 (km hr.units) (gC 3) j2) (gO (g9 (Em EQ hr (gC 0) (gq (i6 (jx hu) (gC 1) gy) (gq (gC 2) gv))))) iB))
   (gY (JS.kX (jO (g7 (km hr.units) (gC 3) j2) (gO (g9 (Em ER hr (gC 0) (gq (gC 2) gv)))) iB))
   (gY (kG (g7 (km hr.units) (gC 3) j2) (hZ (qC (ln Ax hr pZ (gC 0) (nN (JE.kX (i6 (jx hu) (jL (gC 0)) (i6 (jx hu) (gC 1) gy))) (nN (ln CJ hr pZ (jL (gC 0)) (JA.kX (gq (i6 (jx hu) (gC 1) gy) gv))) (nN (JE.kX (gC 2)) (JA.kX gv))))))) (rJ.kX iB))
   (gY (kG (g7 (km hr.units) (gC 3) j2) (rJ.kX (gO (jV (gC 0) j2))) (hZ (Cj (ln w8 hr pZ (gC 0) (JA.kX (gq (gC 1) gv))))))
   (hZ (JS.kX (g9 (gC 2)))))))))))
theorem yh(F:og K "do_row" "Run.do_row" kK f fd):Binds K fd ["self","row","behind"] []:=F.binds (by walk_at "u_")
abbrev j5:br:=jJ (top 22) 2
noncomputable def yi:BF j5:=⟨_,by walk_at "wl_"⟩
noncomputable def rj:SF j5:=⟨_,by walk_at "wl_"⟩
theorem w9:gL ["self","aim","behind"] ["self","aim","behind"] rj.1:=by walk_at "fsc_"
theorem yj(F:og K "do_call" "Run.do_call" j5 f fd)(Z:Zs mg):iW P w K mg base pF (k+1) f fd ["self","aim","behind"] (pz K (BQ 3 3 (qY K))):=
 JL F yi.2 rj.2 w9 λg8 A outer s H E hr=>by
 have hu:=i9 hr;exact(gE (jO (g7 (km hr.units) (Ef mj Z.len my (gq (jL (gC 0)) gv)) (zV Z.Cu)) (gE (jV (gC 0) j2)
   (gO (g9 (gC 2)))) iB)
   (gE (oz (Hd l9 PySem.F.plainAttrs_list PySem.F.slot_list_append PySem.F.type_list_append (jL (gC 0)) (gq (gC 2) gv)))
   (gO (g9 (gC 1)))))
theorem xa(F:og K "do_call" "Run.do_call" j5 f fd):Binds K fd ["self","aim","behind"] []:=F.binds (by walk_at "u_")
abbrev yk:br:=jJ (top 22) 3
abbrev jB:br:=jJ (top 22) 4
noncomputable def vt:BF jB:=⟨_,by walk_at "wl_"⟩
noncomputable def pk:SF jB:=⟨_,by walk_at "wl_"⟩
theorem uq:gL ["self","number","table","behind"] ["self","number","table","behind"] pk.1:=by walk_at "fsc_"
theorem vv(F:og K "do_jumpby" "Run.do_jumpby" jB f fd)(Z:Zs mg):iW P w K mg base pF (k+1) f fd ["self","number","table","behind"] (pz K (BQ 4 4 (vm K))):=
 JL F vt.2 pk.2 uq λg8 A outer s H E hr=>by
 have hu:=i9 hr;exact(gE (jO (ub (pP uP yX gy (gC 1) (Ef mj Z.len my (gq (gC 2) gv)))) (gE (jV (gC 0) j2)
   (gO (g9 (gC 3)))) iB)
   (gO (g9 (i6 (jx hu) (gC 2) (gC 1)))))
theorem ur(F:og K "do_jumpby" "Run.do_jumpby" jB f fd):Binds K fd ["self","number","table","behind"] []:=F.binds (by walk_at "u_")
abbrev ji:br:=jJ (top 22) 5
noncomputable def tE:BF ji:=⟨_,by walk_at "wl_"⟩
noncomputable def m8:SF ji:=⟨_,by walk_at "wl_"⟩
theorem kh:gL ["self","row","kind","box"] ["self","row"] m8.1:=by walk_at "fsc_"
def kH (K:W.Frag)(lC:lZ)(lf:lJ)(jy:lJ):XB:=(jw (λ_=>(ib 2 (gB iZ (gr 1) (dC (.int 0)))))
 (jw (λ_=>(ib 3 (gB iZ (gr 1) (dC (.int 1)))))
 (xO (gD (gB oh (gr 2) (dC (.str "set")))) (λ_=>(qQ (gB iZ (gr 1) (dC (.int 2))) (pW (i8 K "boxes" (gr 0)) (gr 3)))) (xO (gD (gB oh (gr 2) (dC (.str "add")))) (λ_=>(B9 (λa b=>.int (a+b)) (i8 K "boxes" (gr 0)) (gr 3) (gB iZ (i8 K "boxes" (gr 0)) (gB iZ (gr 1) (dC (.int 2)))))) (xO (gD (gB oh (gr 2) (dC (.str "take")))) (λ_=>(B9 (λa b=>.int (a- b)) (i8 K "boxes" (gr 0)) (gr 3) (gB iZ (i8 K "boxes" (gr 0)) (gB iZ (gr 1) (dC (.int 2)))))) (xO (gD (gB oh (gr 2) (dC (.str "say")))) (λ_=>(lz (HZ "list" jr (i8 K "answers" (gr 0)) (gp (gB iZ (i8 K "boxes" (gr 0)) (gr 3)) gw)))) (xO (gD (gB oh (gr 2) (dC (.str "ask")))) (λ_=>(lz (mT lC "do_ask" (gr 0) (gp (gr 3) gw)))) (xO (gD (gB oh (gr 2) (dC (.str "load")))) (Kd (lh lf "do_load" (gr 0) (wM (λ_=>(gr 3)) (wM (λ_=>(gB iZ (i8 K "boxes" (gr 0)) (gB iZ (gr 1) (dC (.int 2))))) (wM (lh jy "numbers_at" (i8 K "store" (gr 0)) (λ_=>(gp (gB iZ (gr 1) (dC (.int 3))) gw))) (λ_=>gw)))))) (λ_=>(qQ (PN (gD (gB oh (gB iZ (gr 1) (dC (.int 2))) (gB iZ (gr 1) (dC (.int 3))))) (dC (.int 1)) (dC (.int 0))) (pW (i8 K "boxes" (gr 0)) (gr 3))))))))))))
theorem tF(F:og K "do_in_boxes" "Run.do_in_boxes" ji f fd)(Ht:∀C g,lC C "do_ask" g->pV P w K mg base k C "do_ask" g)(ES:∀C g,lf C "do_load" g->ix P w K mg base k C "do_load" g)(yl:∀C g,jy C "numbers_at" g->ix P w K mg base k C "numbers_at" g):iW P w K mg base (Bm P w) (k+1) f fd ["self","row"] (wS K (sW 4 2 (kH K lC lf jy))):=
 zg F tE.2 m8.2 kh λg8 A outer s H E hr=>by
 have hu:=i9 hr;exact(gY (JS.kX (ij 2 kh.nd (i6 (jx hu) (gC 1) gy)))
   (gY (JS.kX (ij 3 kh.nd (i6 (jx hu) (gC 1) gy)))
   (hZ (kG (g7 (km hr.units) (gC 2) j2) (rJ.kX (gO (pR (i6 (jx hu) (gC 1) gy) (wC (jL (gC 0)) (gC 3))))) (hZ (kG (g7 (km hr.units) (gC 2) j2) (rJ.kX (gO (F0 (f:=λa b=>a+b) (jL (gC 0)) (gC 3) (i6 (jx hu) (jL (gC 0)) (i6 (jx hu) (gC 1) gy)) Qf))) (hZ (kG (g7 (km hr.units) (gC 2) j2) (rJ.kX (gO (F0 (f:=λa b=>a- b) (jL (gC 0)) (gC 3) (i6 (jx hu) (jL (gC 0)) (i6 (jx hu) (gC 1) gy)) Qg))) (hZ (kG (g7 (km hr.units) (gC 2) j2) (rJ.kX (gO (oz (Hd l9 PySem.F.plainAttrs_list PySem.F.slot_list_append PySem.F.type_list_append (jL (gC 0)) (gq (i6 (jx hu) (jL (gC 0)) (gC 3)) gv))))) (hZ (kG (g7 (km hr.units) (gC 2) j2) (rJ.kX (gO (oz (Em Ht hr (gC 0) (gq (gC 3) gv))))) (hZ (kG (g7 (km hr.units) (gC 2) j2) (hZ (Cj (ln ES hr pZ (gC 0) (nN (JE.kX (gC 3)) (nN (JE.kX (i6 (jx hu) (jL (gC 0)) (i6 (jx hu) (gC 1) gy))) (nN (ln yl hr pZ (jL (gC 0)) (JA.kX (gq (i6 (jx hu) (gC 1) gy) gv))) (JA.kX gv))))))) (rJ.kX (gO (pR (Mm (g7 (km hr.units) (i6 (jx hu) (gC 1) gy) (i6 (jx hu) (gC 1) gy)) gy gy) (wC (jL (gC 0)) (gC 3)))))))))))))))))))
theorem rY(F:og K "do_in_boxes" "Run.do_in_boxes" ji f fd):Binds K fd ["self","row"] []:=F.binds (by walk_at "u_")
abbrev Ay:br:=jJ (top 22) 6
abbrev j6:br:=jJ (top 22) 7
noncomputable def ym:BF j6:=⟨_,by walk_at "wl_"⟩
noncomputable def rm:SF j6:=⟨_,by walk_at "wl_"⟩
theorem xg:gL ["self","box","number","numbers"] ["self","box","number","numbers"] rm.1:=by walk_at "fsc_"
theorem yn(F:og K "do_load" "Run.do_load" j6 f fd)(Z:Zs mg):iW P w K mg base pF (k+1) f fd ["self","box","number","numbers"] (pz K (BQ 4 4 (x8 K))):=
 JL F ym.2 rm.2 xg λg8 A outer s H E hr=>by
 have hu:=i9 hr;exact(gE (jO (ub (pP uP yX gy (gC 2) (Ef mj Z.len my (gq (gC 3) gv)))) (gE (jV (gC 0) j2)
   (gO Mp)) iB)
   (gO (pR (i6 (jx hu) (gC 3) (gC 2)) (wC (jL (gC 0)) (gC 1)))))
theorem xh(F:og K "do_load" "Run.do_load" j6 f fd):Binds K fd ["self","box","number","numbers"] []:=F.binds (by walk_at "u_")
abbrev oN:br:=top 23
noncomputable def ET:BF oN:=⟨_,by walk_at "wl_"⟩
noncomputable def xi:SF oN:=⟨_,by walk_at "wl_"⟩
theorem kx:gL ["store","place","inputs","steps","run","step","row","behind"] ["store","place","inputs","steps"] xi.1:=by walk_at "fsc_"
def rW (K:W.Frag)(wP:af)(zf:GN)(ma:lJ)(nQ:lJ):XB:=(jw (λ_=>(ib 4 (JJ wP zf (gp (gr 0) (gp (gr 2) gw)))))
 (jw (T6 (wA (gp (gr 3) gw)) (gR 5) (jw (MQ (lh ma "code_at" (gr 0) (λ_=>(gp (gr 1) gw))) (pQ 2 (iO (gR 6) (iO (gR 7) qX))))
 (jw (Ke 1 (lh nQ "do_row" (gr 4) (λ_=>(gp (gr 6) (gp (gr 7) gw)))))
 (λ_=>(iC (gD (gB Ab (i8 K "end" (gr 4)) (dC .non))) (ip (iN (gp (i8 K "answers" (gr 4)) (gp (i8 K "end" (gr 4)) gw)))) gW)))))
 (λ_=>(ip (iN (gp (i8 K "answers" (gr 4)) (gp (dC (.str "steps")) gw)))))))
theorem EU(D:hW K mg "run_over" oN)(Z:Zs mg)(Uh:mg "Run"=aa (.ref wP))(Ui:rQ P w K mg base k wP zf)(EV:∀C g,ma C "code_at" g->ix P w K mg base (k+1) C "code_at" g)(Hu:∀C g,nQ C "do_row" g->ix P w K mg base (k+1) C "do_row" g):sV P w K mg base ((k+1)+1) "run_over" ["store","place","inputs","steps"] (rT K (nP 8 4 (rW K wP zf ma nQ))):=
 Ov D ET.2 xi.2 kx (by walk_at "u_") λf g8 A outer s H E hr=>by
 have hu:=i9 hr;exact(gY (JS.kX (ij 4 kx.nd (P7 Ui hr Uh (gq (gC 0) (gq (gC 2) gv)))))
   (gY (MW (yY (gq (gC 3) gv) Z.range) (im 5 kx.nd) (gY (F7 (ln EV hr pZ (gC 0) (JA.kX (gq (gC 1) gv))) (wo (iT (im 6 kx.nd) (iT (im 7 kx.nd) sO))))
   (gY (Am 1 kx.nd (ln Hu hr pZ (gC 4) (JA.kX (gq (gC 6) (gq (gC 7) gv)))))
   (hZ (JS.kX (jO (g7 Ju (jL (gC 4)) FL) (gO (g9 (jh (gq (jL (gC 4)) (gq (jL (gC 4)) gv))))) iB))))) (λ_ _ _ _ h=>TC.th h) eT.leaving)
   (hZ (JS.kX (g9 (jh (gq (jL (gC 4)) (gq j2 gv))))))))
abbrev i7:br:=jJ (top 25) 0
noncomputable def rZ:BF i7:=⟨_,by walk_at "wl_"⟩
noncomputable def mD:SF i7:=⟨_,by walk_at "wl_"⟩
theorem qS:gL ["self","own_cells","own_base"] ["self","own_cells","own_base"] mD.1:=by walk_at "fsc_"
def mE (K:W.Frag):DS:=(gN (mq K "own_cells" (gr 0) (gr 1))
 (mq K "own_base" (gr 0) (gr 2)))
theorem r9(F:og K "__init__" "PlacedCells.__init__" i7 f fd):iW P w K mg base pF (k+1) f fd ["self","own_cells","own_base"] (pz K (BQ 3 3 (mE K))):=
 JL F rZ.2 mD.2 qS λg8 A outer s H E hr=>by
 have hu:=i9 hr;exact(gE (jV (gC 0) (gC 1))
   (gO (jV (gC 0) (gC 2))))
theorem qT(F:og K "__init__" "PlacedCells.__init__" i7 f fd):Binds K fd ["self","own_cells","own_base"] []:=F.binds (by walk_at "u_")
abbrev iz:br:=jJ (top 25) 1
noncomputable def nU:BF iz:=⟨_,by walk_at "wl_"⟩
noncomputable def ky:SF iz:=⟨_,by walk_at "wl_"⟩
theorem nv:gL ["self","reader","place"] ["self","reader","place"] ky.1:=by walk_at "fsc_"
def kz (K:W.Frag)(hG:af)(sZ:af->t6->Prop):XB:=(Oy K hG hG ["place"] (Ez (Zc sZ 1 (λ_=>(gp (i8 K "own_cells" (gr 0)) (gp (gB (qA λi j=>.int (i- j)) (gr 2) (i8 K "own_base" (gr 0))) gw))))) (gp (gr 2) gw))
theorem nV(F:og K "read_with" "PlacedCells.read_with" iz f fd)(ut:mg "NoCells"=aa (.ref hG))(jW:nS P w K mg base k "NoCells" hG ["place"])(Hv:∀f g,sZ f g->QQ P w K mg base (k+1) f g):iW P w K mg base (Bm P w) ((k+1)+1) f fd ["self","reader","place"] (wS K (sW 3 3 (kz K hG sZ))):=
 zg F nU.2 ky.2 nv λg8 A outer s H E hr=>by have hu:=i9 hr;exact(hZ (Kt (ns:=["place"]) jW hr ut (λ_ _ _ XH=>(hZ (qC (QR 1 Hv hr XH (JA.kX (gq (jL (gC 0)) (gq (gQ mh (gC 2) (jL (gC 0))) gv))))))) (λ_=>(gq (gC 2) gv))))
theorem nw(F:og K "read_with" "PlacedCells.read_with" iz f fd):Binds K fd ["self","reader","place"] []:=F.binds (by walk_at "u_")
abbrev iL:br:=jJ (top 25) 2
noncomputable def pB:BF iL:=⟨_,by walk_at "wl_"⟩
noncomputable def k6:SF iL:=⟨_,by walk_at "wl_"⟩
theorem iH:gL ["self","place","row","near","behind"] ["self","place"] k6.1:=by walk_at "fsc_"
def k7 (K:W.Frag)(iJ:lJ)(mX:af):XB:=(jw (MQ (lh iJ "read_with" (gr 0) (λ_=>(gp (dC (.cls mX)) (gp (gr 1) gw)))) (pQ 3 (iO (gR 2) (iO (gR 3) (iO (gR 4) qX)))))
 (jw (λ_=>(iC (gD (gB JR (gr 3) (dC (.bl ah)))) (ib 2 (gB gA (Tr (gr 2) sQ (BX (Jx (dC (.int 1))))) (iN (gp (gB gA (gB iZ (gr 2) (Jx (dC (.int 1)))) (i8 K "own_base" (gr 0))) gw)))) gW))
 (λ_=>(ip (iN (gp (gr 2) (gp (gB gA (gr 4) (i8 K "own_base" (gr 0))) gw)))))))
theorem pC(F:og K "code_at" "PlacedCells.code_at" iL f fd)(kL:∀C g,iJ C "read_with" g->ix P w K mg base k C "read_with" g)(CK:mg "read_code"=aa (.ref mX)):iW P w K mg base (Bm P w) (k+1) f fd ["self","place"] (wS K (sW 5 2 (k7 K iJ mX))):=
 zg F pB.2 k6.2 iH λg8 A outer s H E hr=>by
 have hu:=i9 hr;exact(gY (F7 (ln kL hr pZ (gC 0) (JA.kX (gq (qy CK) (gq (gC 1) gv)))) (wo (iT (im 2 iH.nd) (iT (im 3 iH.nd) (iT (im 4 iH.nd) sO)))))
   (gY (JS.kX (jO (g7 Ep (gC 3) BM) (gO (ij 2 iH.nd (gQ gH (Ts (gC 2) BY (BZ (Jy gy))) (jh (gq (gQ gH (i6 (jx hu) (gC 2) (Jy gy)) (jL (gC 0))) gv))))) iB))
   (hZ (JS.kX (g9 (jh (gq (gC 2) (gq (gQ gH (gC 4) (jL (gC 0))) gv))))))))
theorem oO(F:og K "code_at" "PlacedCells.code_at" iL f fd):Binds K fd ["self","place"] []:=F.binds (by walk_at "u_")
abbrev iu:br:=jJ (top 25) 3
noncomputable def ny:BF iu:=⟨_,by walk_at "wl_"⟩
noncomputable def j7:SF iu:=⟨_,by walk_at "wl_"⟩
theorem mP:gL ["self","place"] ["self","place"] j7.1:=by walk_at "fsc_"
def j8 (iJ:lJ)(kI:af):XB:=(Ez (XG iZ (lh iJ "read_with" (gr 0) (λ_=>(gp (dC (.cls kI)) (gp (gr 1) gw)))) (dC (.int 0))))
theorem nz(F:og K "numbers_at" "PlacedCells.numbers_at" iu f fd)(kL:∀C g,iJ C "read_with" g->ix P w K mg base k C "read_with" g)(xj:mg "read_numbers"=aa (.ref kI)):iW P w K mg base (Bm P w) (k+1) f fd ["self","place"] (wS K (sW 2 2 (j8 iJ kI))):=
 zg F ny.2 j7.2 mP λg8 A outer s H E hr=>by have hu:=i9 hr;exact(hZ (qC (Ku (jx hu) (ln kL hr pZ (gC 0) (JA.kX (gq (qy xj) (gq (gC 1) gv)))) gy)))
theorem mQ(F:og K "numbers_at" "PlacedCells.numbers_at" iu f fd):Binds K fd ["self","place"] []:=F.binds (by walk_at "u_")
abbrev iI:br:=jJ (top 25) 4
noncomputable def oP:BF iI:=⟨_,by walk_at "wl_"⟩
noncomputable def kM:SF iI:=⟨_,by walk_at "wl_"⟩
theorem nW:gL ["self","place"] ["self","place"] kM.1:=by walk_at "fsc_"
def kN (iJ:lJ)(l4:af):XB:=(Ez (XG iZ (lh iJ "read_with" (gr 0) (λ_=>(gp (dC (.cls l4)) (gp (gr 1) gw)))) (dC (.int 0))))
theorem oQ(F:og K "table_at" "PlacedCells.table_at" iI f fd)(kL:∀C g,iJ C "read_with" g->ix P w K mg base k C "read_with" g)(Az:mg "read_table"=aa (.ref l4)):iW P w K mg base (Bm P w) (k+1) f fd ["self","place"] (wS K (sW 2 2 (kN iJ l4))):=
 zg F oP.2 kM.2 nW λg8 A outer s H E hr=>by have hu:=i9 hr;exact(hZ (qC (Ku (jx hu) (ln kL hr pZ (gC 0) (JA.kX (gq (qy Az) (gq (gC 1) gv)))) gy)))
theorem nY(F:og K "table_at" "PlacedCells.table_at" iI f fd):Binds K fd ["self","place"] []:=F.binds (by walk_at "u_")
abbrev m9:br:=top 26
noncomputable def CL:BF m9:=⟨_,by walk_at "wl_"⟩
noncomputable def u0:SF m9:=⟨_,by walk_at "wl_"⟩
theorem AA:gL ["cells","base","place","inputs","steps"] ["cells","base","place","inputs","steps"] u0.1:=by walk_at "fsc_"
def u3 (oI:t6)(j4:af)(lq:GN):XB:=(Ez (RV oI (λ_=>(gp (JK j4 lq (gp (gr 0) (gp (gr 1) gw))) (gp (gr 2) (gp (gr 3) (gp (gr 4) gw)))))))
theorem CM(D:hW K mg "run_cells" m9)(se:ze P w K mg base (k+1) "run_over" ["store","place","inputs","steps"] oI)(yo:mg "PlacedCells"=aa (.ref j4))(yp:rQ P w K mg base k j4 lq):sV P w K mg base ((k+1)+1) "run_cells" ["cells","base","place","inputs","steps"] (rT K (nP 5 5 (u3 oI j4 lq))):=
 Ov D CL.2 u0.2 AA (by walk_at "u_") λf g8 A outer s H E hr=>by have hu:=i9 hr;exact(hZ (qC (Op se hr pZ (JA.kX (gq (Mz yp hr yo (gq (gC 0) (gq (gC 1) gv))) (gq (gC 2) (gq (gC 3) (gq (gC 4) gv))))))))
abbrev ng:br:=top 29
noncomputable def CO:BF ng:=⟨_,by walk_at "wl_"⟩
noncomputable def u4:SF ng:=⟨_,by walk_at "wl_"⟩
theorem oR:gL ["_law_draw","_law_k","_law_number"] ["_law_draw","_law_k"] u4.1:=by walk_at "fsc_"
def p0:DS:=(gN (ib 2 (gB (gI (λ_ j=>0<j) λi j=>.int (i%j)) (gB qR (gB gA (gB gA (gB (gI (λ_ j=>0<j) λi j=>.int (i%j)) (gr 0) (dC (.int 2147483629))) (gB qR (dC (.int 69621)) (gr 1))) (dC (.int 1))) (gB gA (dC (.int 48271)) (gB qR (dC (.int 2)) (gr 1)))) (dC (.int 2147483629))))
 (gN (ib 2 (gB (gI (λ_ j=>0<j) λi j=>.int (i%j)) (gB qR (gr 2) (gB gA (gB (gI pe λi j=>.int (i/j)) (gr 2) (dC (.int 1009))) (dC (.int 69621)))) (dC (.int 2147483629))))
 (ip (gB (gI (λ_ j=>0<j) λi j=>.int (i%j)) (gB qR (gr 2) (gB gA (gB gA (gB (gI pe λi j=>.int (i/j)) (gr 2) (dC (.int 907))) (dC (.int 16807))) (gr 1))) (dC (.int 2147483629))))))
theorem CQ(D:hW K mg "_law_mixed" ng):vG P w K mg base (k+1) "_law_mixed" ["_law_draw","_law_k"] (pz K (cl (wv 3 2 p0))):=
 sS D CO.2 u4.2 oR (by walk_at "u_") λf g8 A outer s H E hr=>by
 have hu:=i9 hr;exact(gE (ij 2 oR.nd (gQ oB (gQ pU (gQ gH (gQ gH (gQ oB (gC 0) gy) (gQ pU gy (gC 1))) gy) (gQ gH gy (gQ pU gy (gC 1)))) gy))
   (gE (ij 2 oR.nd (gQ oB (gQ pU (gC 2) (gQ gH (gQ nM (gC 2) gy) gy)) gy))
   (gO (g9 (gQ oB (gQ pU (gC 2) (gQ gH (gQ gH (gQ nM (gC 2) gy) gy) (gC 1))) gy)))))
abbrev oS:br:=top 30
noncomputable def EW:BF oS:=⟨_,by walk_at "wl_"⟩
noncomputable def xk:SF oS:=⟨_,by walk_at "wl_"⟩
theorem u5:gL ["_law_source_here","_law_many","_law_found"] ["_law_source_here","_law_many"] xk.1:=by walk_at "fsc_"
def sf (mW:GN):DS:=(gN (iC (qO (gD (gB oh (gB iZ (gr 0) (dC (.int 1))) (dC (.int 0)))) (gD (gB (qA λi j=>.bl (decide (j<i))) (gB iZ (gr 0) (dC (.int 0))) (dC (.int 1))))) (gN (ib 2 (gB (gI (λ_ j=>0<j) λi j=>.int (i%j)) (gB iZ (gr 0) (dC (.int 0))) (gr 1)))
 (gN (qQ (gB (gI pe λi j=>.int (i/j)) (gB iZ (gr 0) (dC (.int 0))) (gr 1)) (pW (gr 0) (dC (.int 0))))
 (ip (gr 2)))) gW)
 (gN (qQ (gB gA (gB iZ (gr 0) (dC (.int 2))) (dC (.int 1))) (pW (gr 0) (dC (.int 2))))
 (ip (gB (gI (λ_ j=>0<j) λi j=>.int (i%j)) (iU mW (gp (gB iZ (gr 0) (dC (.int 3))) (gp (gB iZ (gr 0) (dC (.int 2))) gw))) (gr 1)))))
theorem EY(D:hW K mg "_law_next" oS)(p9:j3 P w K mg base k "_law_mixed" ["_law_draw","_law_k"] mW):vG P w K mg base (k+1) "_law_next" ["_law_source_here","_law_many"] (pz K (BQ 3 2 (sf mW))):=
 JN D EW.2 xk.2 u5 (by walk_at "u_") λf g8 A outer s H E hr=>by
 have hu:=i9 hr;exact(gE (jO (wl (rG (g7 (km hr.units) (i6 (jx hu) (gC 0) gy) gy) (qz (g7 FS (i6 (jx hu) (gC 0) gy) gy)))) (gE (ij 2 u5.nd (gQ oB (i6 (jx hu) (gC 0) gy) (gC 1)))
   (gE (pR (gQ nM (i6 (jx hu) (gC 0) gy) (gC 1)) (wC (gC 0) gy))
   (gO (g9 (gC 2))))) iB)
   (gE (pR (gQ gH (i6 (jx hu) (gC 0) gy) gy) (wC (gC 0) gy))
   (gO (g9 (gQ oB (jA p9 hr (gq (i6 (jx hu) (gC 0) gy) (gq (i6 (jx hu) (gC 0) gy) gv))) (gC 1))))))
abbrev l6:br:=top 31
noncomputable def AB:BF l6:=⟨_,by walk_at "wl_"⟩
noncomputable def tG:SF l6:=⟨_,by walk_at "wl_"⟩
theorem yq:gL ["_law_draw"] ["_law_draw"] tG.1:=by walk_at "fsc_"
def tH:DS:=(ip (ue (iw (gp (gB (gI pe λi j=>.int (i/j)) (gr 0) (dC (.int 2))) (gp (gB (gI (λ_ j=>0<j) λi j=>.int (i%j)) (gr 0) (dC (.int 2))) (gp (dC (.int 0)) (gp (gr 0) gw)))))))
theorem AD(D:hW K mg "_law_source" l6):vG P w K mg base (k+1) "_law_source" ["_law_draw"] (pz K (BQ 1 1 tH)):=
 JN D AB.2 tG.2 yq (by walk_at "u_") λf g8 A outer s H E hr=>by have hu:=i9 hr;exact(gO (g9 (uN (ii (gq (gQ nM (gC 0) gy) (gq (gQ oB (gC 0) gy) (gq gy (gq (gC 0) gv))))))))
abbrev qJ:br:=top 32
noncomputable def Hw:BF qJ:=⟨_,by walk_at "wl_"⟩
noncomputable def zj:SF qJ:=⟨_,by walk_at "wl_"⟩
theorem EZ:gL ["_law_number"] ["_law_number"] zj.1:=by walk_at "fsc_"
def zk:DS:=(ip (iq (iw (gp (gB (gI pe λi j=>.int (i/j)) (gr 0) (dC (.int 256))) (gp (gB (gI (λ_ j=>0<j) λi j=>.int (i%j)) (gr 0) (dC (.int 256))) gw)))))
theorem Hx(D:hW K mg "_law_two" qJ):vG P w K mg base (k+1) "_law_two" ["_law_number"] (pz K (cl (wv 1 1 zk))):=
 sS D Hw.2 zj.2 EZ (by walk_at "u_") λf g8 A outer s H E hr=>by have hu:=i9 hr;exact(gO (g9 (iV (ii (gq (gQ nM (gC 0) gy) (gq (gQ oB (gC 0) gy) gv))))))
abbrev oU:br:=top 33
noncomputable def E1:BF oU:=⟨_,by walk_at "wl_"⟩
noncomputable def xl:SF oU:=⟨_,by walk_at "wl_"⟩
theorem u6:gL ["_law_cells","_law_base","_law_place","_law_steps","e"] ["_law_cells","_law_base","_law_place","_law_steps"] xl.1:=by walk_at "fsc_"
def xm (K:W.Frag)(mY:af)(mZ:t6)(hG:af)(qH:af)(sY:af):DS:=(gN (TX K 4 mY (Ez (RV mZ (λ_=>(gp (gr 0) (gp (gr 1) (gp (gr 2) (gp (iq (iw gw)) (gp (gr 3) gw)))))))) (iC (qO (gD (iU (MV K) (gp (gr 4) (gp (dC (.cls hG)) gw)))) (qO (sN (gD (iU (MV K) (gp (gr 4) (gp (dC (.cls qH)) gw))))) (sN (gD (iU (MV K) (gp (gr 4) (gp (dC (.cls sY)) gw))))))) (ip (Ou K "place" (gr 4))) gW))
 (ip (dC (.str "other"))))
theorem E2(D:hW K mg "_law_said" oU)(Z:Zs mg)(CS:mg "PartError"=aa (.ref mY))(qc:ze P w K mg base k "run_cells" ["cells","base","place","inputs","steps"] mZ)(ut:mg "NoCells"=aa (.ref hG))(Hy:mg "BadBase"=aa (.ref qH))(Kw:mg "TooFar"=aa (.ref sY)):vG P w K mg base (k+1) "_law_said" ["_law_cells","_law_base","_law_place","_law_steps"] (pz K (cl (wv 5 4 (xm K mY mZ hG qH sY)))):=
 sS D E1.2 xl.2 u6 (by walk_at "u_") λf g8 A outer s H E hr=>by
 have hu:=i9 hr;exact(gE (Qx (i:=4) u6.nd CS (λ_ _ _ XH=>(hZ (qC (Op qc hr XH (JA.kX (gq (gC 0) (gq (gC 1) (gq (gC 2) (gq (iV (ii gv)) (gq (gC 3) gv)))))))))) (λ_=>(gO (jO (wl (rG (Ee (Ef EB Z.isinstance nq (gq (gC 4) (gq (qy ut) gv)))) (rG (ub (Ee (Ef EB Z.isinstance nq (gq (gC 4) (gq (qy Hy) gv))))) (qz (ub (Ee (Ef EB Z.isinstance nq (gq (gC 4) (gq (qy Kw) gv))))))))) (gO (g9 (Qz (gC 4)))) iB))))
   (gO (g9 j2)))
abbrev qK:br:=top 34
noncomputable def Hz:BF qK:=⟨_,by walk_at "wl_"⟩
noncomputable def zl:SF qK:=⟨_,by walk_at "wl_"⟩
theorem jR:gL ["_law_source_here","_law_base","_law_at","_law_way","_law_far","_law_here","_law_some"] ["_law_source_here","_law_base","_law_at"] zl.1:=by walk_at "fsc_"
def zm (hU:GN)(js:GN):DS:=(gN (ib 3 (iU hU (gp (gr 0) (gp (dC (.int 12)) gw))))
 (gN (ib 4 (gB iZ (iq (iw (gp (gB gA (gB gA (gB gA (gr 1) (gr 2)) (dC (.int 100))) (iU hU (gp (gr 0) (gp (dC (.int 60000)) gw)))) (gp (iU Tu (gp (dC (.int 0)) (gp (gB (qA λi j=>.int (i- j)) (gB (qA λi j=>.int (i- j)) (gr 1) (dC (.int 1))) (iU hU (gp (gr 0) (gp (dC (.int 50)) gw)))) gw))) gw)))) (iU hU (gp (gr 0) (gp (dC (.int 2)) gw)))))
 (gN (iC (gD (gB oh (gr 1) (dC (.int 0)))) (ib 4 (gB gA (dC (.int 400)) (iU hU (gp (gr 0) (gp (dC (.int 60000)) gw))))) gW)
 (gN (ib 5 (gB gA (gr 1) (gr 2)))
 (gN (ib 6 (ue (iw (gp (iN (gp (gB gA (iq (iw (gp (dC (.int 81)) gw))) (iU js (gp (gr 4) gw))) (gp (gr 4) gw))) (gp (iN (gp (gB gA (iq (iw (gp (dC (.int 83)) gw))) (iU js (gp (gr 4) gw))) (gp (gr 4) gw))) (gp (iN (gp (gB gA (iq (iw (gp (dC (.int 104)) gw))) (iU js (gp (gr 4) gw))) (gp (gr 4) gw))) gw))))))
 (gN (ib 6 (ue (B7 (gr 6) (iq (iw (gp (iN (gp (gB gA (iq (iw (gp (gB gA (dC (.int 128)) (dC (.int 6))) gw))) (iU js (gp (gr 4) gw))) (gp (gr 4) gw))) (gp (iN (gp (iq (iw (gp (dC (.int 7)) gw))) (gp (gr 5) gw))) (gp (iN (gp (iq (iw (gp (dC (.int 255)) (gp (dC (.int 1)) gw)))) (gp (gr 5) gw))) (gp (iN (gp (iq (iw (gp (dC (.int 16)) (gp (dC (.int 1)) (gp (dC (.int 2)) gw))))) (gp (gr 5) gw))) gw)))))))))
 (gN (ib 6 (ue (B7 (gr 6) (iq (iw (gp (iN (gp (gB gA (gB gA (iq (iw (gp (dC (.int 81)) gw))) (iU js (gp (gB gA (gr 5) (dC (.int 3))) gw))) (iq (iw (gp (dC (.int 92)) gw)))) (gp (gB gA (gr 5) (dC (.int 3))) gw))) (gp (iN (gp (gB gA (gB gA (iq (iw (gp (dC (.int 132)) gw))) (iU js (gp (gB gA (gr 5) (dC (.int 3))) gw))) (iq (iw (gp (dC (.int 0)) gw)))) (gp (gB gA (gr 5) (dC (.int 3))) gw))) gw)))))))
 (gN (lz (HZ "list" jr (gr 6) (gp (iN (gp (iq (iw (gp (dC (.int 80)) (gp (gB gA (dC (.int 128)) (iU hU (gp (gr 0) (gp (dC (.int 40)) gw)))) gw)))) (gp (gr 5) gw))) gw)))
 (gN (lz (HZ "list" jr (gr 6) (gp (iN (gp (gB gA (gB gA (iq (iw (gp (dC (.int 104)) gw))) (iU js (gp (gB gA (gr 5) (dC (.int 3))) gw))) (iq (iw (gp (dC (.int 0)) (gp (dC (.int 2)) (gp (dC (.int 0)) (gp (dC (.int 0)) (gp (dC (.int 1)) gw)))))))) (gp (gB gA (gr 5) (dC (.int 3))) gw))) gw)))
 (gN (lz (HZ "list" jr (gr 6) (gp (iN (gp (gB gA (gB gA (iq (iw (gp (dC (.int 132)) gw))) (iU js (gp (gB gA (gr 5) (dC (.int 3))) gw))) (iq (iw (gp (dC (.int 0)) (gp (dC (.int 1)) (gp (dC (.int 0)) (gp (dC (.int 0)) (gp (dC (.int 0)) gw)))))))) (gp (gB gA (gr 5) (dC (.int 3))) gw))) gw)))
 (ip (gB iZ (gr 6) (gr 3)))))))))))))
theorem HA(D:hW K mg "_law_bad" qK)(Z:Zs mg)(ie:j3 P w K mg base k "_law_next" ["_law_source_here","_law_many"] hU)(jF:j3 P w K mg base k "_law_two" ["_law_number"] js):vG P w K mg base (k+1) "_law_bad" ["_law_source_here","_law_base","_law_at"] (pz K (BQ 7 3 (zm hU js))):=
 JN D Hz.2 zl.2 jR (by walk_at "u_") λf g8 A outer s H E hr=>by
 have hu:=i9 hr;exact(gE (ij 3 jR.nd (jA ie hr (gq (gC 0) (gq gy gv))))
   (gE (ij 4 jR.nd (i6 (jx hu) (iV (ii (gq (gQ gH (gQ gH (gQ gH (gC 1) (gC 2)) gy) (jA ie hr (gq (gC 0) (gq gy gv)))) (gq (Ef Qc Z.max QU (gq gy (gq (gQ mh (gQ mh (gC 1) gy) (jA ie hr (gq (gC 0) (gq gy gv)))) gv))) gv)))) (jA ie hr (gq (gC 0) (gq gy gv)))))
   (gE (jO (g7 (km hr.units) (gC 1) gy) (gO (ij 4 jR.nd (gQ gH gy (jA ie hr (gq (gC 0) (gq gy gv)))))) iB)
   (gE (ij 5 jR.nd (gQ gH (gC 1) (gC 2)))
   (gE (ij 6 jR.nd (uN (ii (gq (jh (gq (gQ gH (iV (ii (gq gy gv))) (jA jF hr (gq (gC 4) gv))) (gq (gC 4) gv))) (gq (jh (gq (gQ gH (iV (ii (gq gy gv))) (jA jF hr (gq (gC 4) gv))) (gq (gC 4) gv))) (gq (jh (gq (gQ gH (iV (ii (gq gy gv))) (jA jF hr (gq (gC 4) gv))) (gq (gC 4) gv))) gv))))))
   (gE (ij 6 jR.nd (uN (FZ (gC 6) (iV (ii (gq (jh (gq (gQ gH (iV (ii (gq (gQ gH gy gy) gv))) (jA jF hr (gq (gC 4) gv))) (gq (gC 4) gv))) (gq (jh (gq (iV (ii (gq gy gv))) (gq (gC 5) gv))) (gq (jh (gq (iV (ii (gq gy (gq gy gv)))) (gq (gC 5) gv))) (gq (jh (gq (iV (ii (gq gy (gq gy (gq gy gv))))) (gq (gC 5) gv))) gv)))))))))
   (gE (ij 6 jR.nd (uN (FZ (gC 6) (iV (ii (gq (jh (gq (gQ gH (gQ gH (iV (ii (gq gy gv))) (jA jF hr (gq (gQ gH (gC 5) gy) gv))) (iV (ii (gq gy gv)))) (gq (gQ gH (gC 5) gy) gv))) (gq (jh (gq (gQ gH (gQ gH (iV (ii (gq gy gv))) (jA jF hr (gq (gQ gH (gC 5) gy) gv))) (iV (ii (gq gy gv)))) (gq (gQ gH (gC 5) gy) gv))) gv)))))))
   (gE (oz (Hd l9 PySem.F.plainAttrs_list PySem.F.slot_list_append PySem.F.type_list_append (gC 6) (gq (jh (gq (iV (ii (gq gy (gq (gQ gH gy (jA ie hr (gq (gC 0) (gq gy gv)))) gv)))) (gq (gC 5) gv))) gv)))
   (gE (oz (Hd l9 PySem.F.plainAttrs_list PySem.F.slot_list_append PySem.F.type_list_append (gC 6) (gq (jh (gq (gQ gH (gQ gH (iV (ii (gq gy gv))) (jA jF hr (gq (gQ gH (gC 5) gy) gv))) (iV (ii (gq gy (gq gy (gq gy (gq gy (gq gy gv)))))))) (gq (gQ gH (gC 5) gy) gv))) gv)))
   (gE (oz (Hd l9 PySem.F.plainAttrs_list PySem.F.slot_list_append PySem.F.type_list_append (gC 6) (gq (jh (gq (gQ gH (gQ gH (iV (ii (gq gy gv))) (jA jF hr (gq (gQ gH (gC 5) gy) gv))) (iV (ii (gq gy (gq gy (gq gy (gq gy (gq gy gv)))))))) (gq (gQ gH (gC 5) gy) gv))) gv)))
   (gO (g9 (i6 (jx hu) (gC 6) (gC 3))))))))))))))
abbrev Kx:br:=top 35
noncomputable def Oz:BF Kx:=⟨_,by walk_at "wl_"⟩
noncomputable def Gd:SF Kx:=⟨_,by walk_at "wl_"⟩
theorem jq:gL ["_law_script","_law_draw","_law_source_here","_law_base","_law_cells","_law_answers","_law_steps","_law_k","_law_number","_law_b","_law_more","_law_place","_law_comes","_law_start","_law_limit","_law_found"] ["_law_script"] Gd.1:=by walk_at "fsc_"
def Ge (l0:GN)(hU:GN)(qG:GN)(li:GN):DS:=(gN (uf (sP (gB gA (Tr (gr 0) sQ (BX (dC (.int 12)))) (iq (iw (gp (dC (.int 0)) gw))))) (gR 1) (gN (ib 2 (iU l0 (gp (gr 1) gw)))
 (gN (ib 3 (gB iZ (iq (iw (gp (dC (.int 0)) (gp (dC (.int 64)) (gp (iU hU (gp (gr 2) (gp (dC (.int 3000)) gw))) gw))))) (iU hU (gp (gr 2) (gp (dC (.int 3)) gw)))))
 (gN (ib 4 (iq (iw gw)))
 (gN (ib 5 (ue (iw gw)))
 (gN (ib 6 (dC (.int 0)))
 (gN (uf (wA (gp (iU hU (gp (gr 2) (gp (dC (.int 6)) gw))) gw)) (gR 7) (gN (ib 8 (iU hU (gp (gr 2) (gp (dC (.int 200)) gw))))
 (gN (ib 9 (iU hU (gp (gr 2) (gp (dC (.int 4)) gw))))
 (gN (ib 4 (gB gA (gr 4) (iq (iw (gp (gB gA (dC (.int 16)) (gr 9)) (gp (dC (.int 0)) (gp (dC (.int 0)) (gp (dC (.int 0)) (gp (gr 8) (gp (gB gA (dC (.int 64)) (gr 9)) gw))))))))))
 (gN (lz (HZ "list" jr (gr 5) (gp (gr 8) gw)))
 (ib 6 (gB gA (gr 6) (dC (.int 2)))))))))
 (gN (qQ (iU qG (gp (gr 2) (gp (gr 3) (gp (iU mN (gp (gr 4) gw)) gw)))) (pQ 2 (iO (gR 10) (iO (gR 11) qX))))
 (gN (ib 4 (gB gA (gr 4) (gr 10)))
 (gN (ib 12 (gB gA (gr 6) (dC (.int 1))))
 (gN (iC (gD (gB (Ls ai) (gB iZ (gr 10) (dC (.int 0))) (iN (gp (dC (.int 81)) (gp (dC (.int 83)) gw))))) (ib 12 (gB gA (gr 6) (dC (.int 2)))) gW)
 (gN (iC (qO (gD (gB JQ (gr 11) (gB (qA λi j=>.int (i- j)) (gB gA (gr 3) (iU mN (gp (gr 4) gw))) (iU mN (gp (gr 10) gw))))) (gD (gB (Ls ai) (gB iZ (gr 10) (dC (.int 0))) (iN (gp (dC (.int 7)) (gp (dC (.int 255)) (gp (dC (.int 16)) gw))))))) (ib 12 (gB gA (gr 6) (dC (.int 1)))) gW)
 (gN (uf (sP (iq (iw (gp (gB (qA λi j=>.int (i- j)) (gB (qA λi j=>.int (i- j)) (gr 3) (dC (.int 1))) (iU hU (gp (gr 2) (gp (dC (.int 9)) gw)))) (gp (gB gA (gB gA (gr 3) (iU mN (gp (gr 4) gw))) (iU hU (gp (gr 2) (gp (dC (.int 9)) gw)))) gw))))) (gR 13) (gN (iC (gD (gB nL (iU li (gp (iq (P5 rP (gp (gr 4) gw))) (gp (gr 3) (gp (gr 13) (gp (dC (.int 5)) gw))))) (gr 13))) (ip (dC (.bl ai))) gW)
 (iC (gD (gB nL (iU li (gp (iq (P5 rP (gp (gr 4) gw))) (gp (gr 3) (gp (gr 13) (gp (dC (.int 0)) gw))))) (iN (gp (iq (iw gw)) (gp (dC (.str "steps")) gw))))) (ip (dC (.bl ai))) gW)))
 (uf (sP (iq (iw (gp (gB (qA λi j=>.int (i- j)) (gr 12) (dC (.int 1))) (gp (gr 12) (gp (dC (.int 300)) gw)))))) (gR 14) (gN (ib 15 (iU li (gp (iq (P5 rP (gp (gr 4) gw))) (gp (gr 3) (gp (gr 3) (gp (gr 14) gw))))))
 (gN (iC (qO (gD (gB (qA λi j=>.bl (decide (j<=i))) (gr 14) (gr 12))) (gD (gB nL (gr 15) (gr 11)))) (ip (dC (.bl ai))) gW)
 (iC (qO (gD (gB BS (gr 14) (gr 12))) (gD (gB nL (gr 15) (iN (gp (gr 5) (gp (dC (.str "steps")) gw)))))) (ip (dC (.bl ai))) gW)))))))))))))))))
 (ip (dC (.bl ah))))
theorem Uj(Z:Zs mg)(oV:j3 P w K mg base k "_law_source" ["_law_draw"] l0)(ie:j3 P w K mg base k "_law_next" ["_law_source_here","_law_many"] hU)(uu:j3 P w K mg base k "_law_bad" ["_law_source_here","_law_base","_law_at"] qG)(mF:j3 P w K mg base k "_law_said" ["_law_cells","_law_base","_law_place","_law_steps"] li)(f:af)(g8:ae)(A:ay)(outer:List cz)(s:ag)(H:Hp)(E:XK)(hr:iG k (A.deeper (cy "law" Gd.1 s.heap.objs.size f g8))):
  rJ (py pF P w K mg base ["_law_script","_law_draw","_law_source_here","_law_base","_law_cells","_law_answers","_law_steps","_law_k","_law_number","_law_b","_law_more","_law_place","_law_comes","_law_start","_law_limit","_law_found"] "law" Gd.1 f g8 A outer s H E).DV Oz.1 (Ge l0 hU qG li):=by
 have hu:=i9 hr;exact(gE (wq (Ac (gQ gH (Ts (gC 0) BY (BZ gy)) (iV (ii (gq gy gv))))) (im 1 jq.nd) (gE (ij 2 jq.nd (jA oV hr (gq (gC 1) gv)))
   (gE (ij 3 jq.nd (i6 (jx hu) (iV (ii (gq gy (gq gy (gq (jA ie hr (gq (gC 2) (gq gy gv))) gv))))) (jA ie hr (gq (gC 2) (gq gy gv)))))
   (gE (ij 4 jq.nd (iV (ii gv)))
   (gE (ij 5 jq.nd (uN (ii gv)))
   (gE (ij 6 jq.nd gy)
   (gE (wq (yY (gq (jA ie hr (gq (gC 2) (gq gy gv))) gv) Z.range) (im 7 jq.nd) (gE (ij 8 jq.nd (jA ie hr (gq (gC 2) (gq gy gv))))
   (gE (ij 9 jq.nd (jA ie hr (gq (gC 2) (gq gy gv))))
   (gE (ij 4 jq.nd (gQ gH (gC 4) (iV (ii (gq (gQ gH gy (gC 9)) (gq gy (gq gy (gq gy (gq (gC 8) (gq (gQ gH gy (gC 9)) gv))))))))))
   (gE (oz (Hd l9 PySem.F.plainAttrs_list PySem.F.slot_list_append PySem.F.type_list_append (gC 5) (gq (gC 8) gv)))
   (gO (ij 6 jq.nd (gQ gH (gC 6) gy))))))))
   (gE (pR (jA uu hr (gq (gC 2) (gq (gC 3) (gq (Ef mj Z.len my (gq (gC 4) gv)) gv)))) (wo (iT (im 10 jq.nd) (iT (im 11 jq.nd) sO))))
   (gE (ij 4 jq.nd (gQ gH (gC 4) (gC 10)))
   (gE (ij 12 jq.nd (gQ gH (gC 6) gy))
   (gE (jO (g7 (N8 hu) (i6 (jx hu) (gC 10) gy) (jh (gq gy (gq gy gv)))) (gO (ij 12 jq.nd (gQ gH (gC 6) gy))) iB)
   (gE (jO (wl (rG (g7 (Qa hr.units) (gC 11) (gQ mh (gQ gH (gC 3) (Ef mj Z.len my (gq (gC 4) gv))) (Ef mj Z.len my (gq (gC 10) gv)))) (qz (g7 (N8 hu) (i6 (jx hu) (gC 10) gy) (jh (gq gy (gq gy (gq gy gv)))))))) (gO (ij 12 jq.nd (gQ gH (gC 6) gy))) iB)
   (gE (wq (Ac (iV (ii (gq (gQ mh (gQ mh (gC 3) gy) (jA ie hr (gq (gC 2) (gq gy gv)))) (gq (gQ gH (gQ gH (gC 3) (Ef mj Z.len my (gq (gC 4) gv))) (jA ie hr (gq (gC 2) (gq gy gv)))) gv))))) (im 13 jq.nd) (gE (jO (g7 (Af hr.units) (jA mF hr (gq (iV (P6 wB Z.list Ar (gq (gC 4) gv))) (gq (gC 3) (gq (gC 13) (gq gy gv))))) (gC 13)) (gO (g9 BM)) iB)
   (gO (jO (g7 (Af hr.units) (jA mF hr (gq (iV (P6 wB Z.list Ar (gq (gC 4) gv))) (gq (gC 3) (gq (gC 13) (gq gy gv))))) (jh (gq (iV (ii gv)) (gq j2 gv)))) (gO (g9 BM)) iB))))
   (gO (wq (Ac (iV (ii (gq (gQ mh (gC 12) gy) (gq (gC 12) (gq gy gv)))))) (im 14 jq.nd) (gE (ij 15 jq.nd (jA mF hr (gq (iV (P6 wB Z.list Ar (gq (gC 4) gv))) (gq (gC 3) (gq (gC 3) (gq (gC 14) gv))))))
   (gE (jO (wl (rG (g7 Tl (gC 14) (gC 12)) (qz (g7 (Af hr.units) (gC 15) (gC 11))))) (gO (g9 BM)) iB)
   (gO (jO (wl (rG (g7 yX (gC 14) (gC 12)) (qz (g7 (Af hr.units) (gC 15) (jh (gq (gC 5) (gq j2 gv))))))) (gO (g9 BM)) iB)))))))))))))))))))
   (gO (g9 BM)))
end
end mO
namespace L3
open PySem PySem.Spec L2
section
variable {ta tb tc:DE} {δ:kZ} {M:Ms} {Q:DK} {R:Bool->Ms->Prop} {b:Bool} {g g':G2} {y:D}
def XI (tb:DE)(δ:kZ)(Q:DK):DK:=λx M1=>match x with|.bl ah=>tb δ M1 Q|.bl ai=>Q (.bl ai) M1|_=>False
def Uk (Q:DK):DK:=λx M1=>match x with|.bl b=>Q (.bl (!b)) M1|_=>False
def OA (R:Bool->Ms->Prop):DK:=λx M1=>match x with|.bl b=>R b M1|_=>False
def Ky (g':G2)(tc:DE)(δ:kZ)(y:D)(Q:DK):DK:=λz M3=>match z with|.bl ah=>tc δ M3 λw M4=>g' y w M4 Q|.bl ai=>Q (.bl ai) M3|_=>False
theorem M9:Tf ta tb δ M Q=ta δ M (XI tb δ Q):=rfl
theorem Na:Tg ta δ M Q=ta δ M (Uk Q):=rfl
theorem tI:gD ta δ M R=ta δ M (OA R):=rfl
theorem tJ:jN g g' ta tb tc δ M Q=ta δ M λx M1=>tb δ M1 λy M2=>g x y M2 (Ky g' tc δ y Q):=rfl
theorem Nb:Uk Q (.bl b) M=Q (.bl (!b)) M:=rfl
theorem tK:OA R (.bl b) M=R b M:=rfl
theorem qL:Ky g' tc δ y Q (.bl b) M=if b=ah then tc δ M (λw M4=>g' y w M4 Q) else Q (.bl ai) M:=by cases b<;>rfl
theorem CT{a c:Int}{P:Bool->Prop}:BV (.int a) (.int c) P=P (a==c):=rfl
theorem tL{i j:Int}:yW (.int i) (.int j) M Q=Q (.bl (decide (i<=j))) M:=rfl
theorem Nc{i j:ar}:yW (.str i) (.str j) M Q=Q (.bl (!decide (j.cps.toList<i.cps.toList))) M:=rfl
theorem Nd{K:W.Frag}{d:D}{n:String}:W1 K [d,.ty n] M Q=∃b,rO n (vw M d)=aa b/\Q (.bl b) M:=rfl
theorem tM{d:D}:mN [d] M Q=∃n:Nat,Jz (vw M d)=aa n/\Q (.int n) M:=rfl
theorem vO{β:Type}{a:β}{p:β->Prop}:(∃b,aa a=aa b/\p b)=p a:=by simp
theorem mG{d:D}:gr 0 (aa d::δ) M Q=Q d M:=rfl
theorem nZ{o:Option D}{i:Nat}:gr (i+1) (o::δ) M Q=gr i δ M Q:=rfl
end
section
variable {M:Ms} {b:Bool} {i:Int} {x:ar} {n:String} {ds:List D} {ns:List Int} {ks:List Key} {C:af} {ms:List ar}
theorem CU:rO "int" .non=aa ai:=rfl
theorem E3:rO "int" (.bl b)=aa ah:=rfl
theorem CV:rO "int" (.int i)=aa ah:=rfl
theorem CW:rO "int" (.str x)=aa ai:=rfl
theorem CY:rO "int" (.tup ds)=aa ai:=rfl
theorem CZ:rO "int" (.lst ds)=aa ai:=rfl
theorem C0:rO "int" (.kY ks ds)=aa ai:=rfl
theorem AE:rO "bool" .non=aa ai:=rfl
theorem C1:rO "bool" (.bl b)=aa ah:=rfl
theorem AF:rO "bool" (.int i)=aa ai:=rfl
theorem AG:rO "bool" (.str x)=aa ai:=rfl
theorem AH:rO "bool" (.tup ds)=aa ai:=rfl
theorem AI:rO "bool" (.lst ds)=aa ai:=rfl
theorem AJ:rO "bool" (.kY ks ds)=aa ai:=rfl
theorem C2:rO "str" .non=aa ai:=rfl
theorem E4:rO "str" (.bl b)=aa ai:=rfl
theorem C4:rO "str" (.int i)=aa ai:=rfl
theorem C5:rO "str" (.str x)=aa ah:=rfl
theorem C6:rO "str" (.tup ds)=aa ai:=rfl
theorem C7:rO "str" (.lst ds)=aa ai:=rfl
theorem C8:rO "str" (.kY ks ds)=aa ai:=rfl
theorem yr:rO "tuple" (.tup ds)=aa ah:=rfl
theorem AK:rO "list" .non=aa ai:=rfl
theorem C9:rO "list" (.bl b)=aa ai:=rfl
theorem AL:rO "list" (.int i)=aa ai:=rfl
theorem AM:rO "list" (.str x)=aa ai:=rfl
theorem AN:rO "list" (.tup ds)=aa ai:=rfl
theorem AO:rO "list" (.lst ds)=aa ah:=rfl
theorem AQ:rO "list" (.kY ks ds)=aa ai:=rfl
theorem QV:vw M .non=.non:=rfl
theorem Ul:vw M (.bl b)=(.bl b):=rfl
theorem Um:fz M (.bl b)=(.bl b):=rfl
theorem Uo:nl (.bl b)=ah:=rfl
theorem Kz:vw M (.int i)=(.int i):=rfl
theorem QX:vw M (.str x)=(.str x):=rfl
theorem QY:nl (.str x)=ah:=rfl
theorem QZ:vw M (.tup ds)=(.tup ds):=rfl
theorem AR:vw M (.lst ds)=(.lst ds):=rfl
theorem Q0:vw M (.kY ks ds)=(.kY ks ds):=rfl
theorem Q1:nK []=ah:=rfl
theorem Nf{d:D}{ds:List D}:nK (d::ds)=(nl d&&nK ds):=rfl
end
theorem AS{ds:List D}:Jz (.lst ds)=aa ds.length:=rfl
theorem Q2{ds:List D}:Jz (.tup ds)=aa ds.length:=rfl
theorem Q3{x:ar}:Jz (.str x)=if x.length<=aH then aa x.length else ak:=rfl
theorem Q4{n:Nat}{gs:Lq}{ds:List D}{δ:kZ}{M:Ms}{Q:kZ->Ms->Prop}:pQ n gs (.tup ds) δ M Q=(ds.length=n/\gs ds δ M Q):=rfl
theorem Ng{g:DG}{gs:Lq}{d:D}{ds:List D}{δ:kZ}{M:Ms}{Q:kZ->Ms->Prop}:iO g gs (d::ds) δ M Q=g d δ M λt5 M1=>gs ds t5 M1 Q:=rfl
local macro_rules | `(tactic| walk_at "rd_at") => `(tactic| simp (decide := ah) only [wv, cl, gN, ib, gB, dC, ip, iC, sN, WQ, gw, gp, iU, gW, gR, rL, Option.getD_some, List.getElem?_cons_zero, M9, Na, tI, tJ, Nb, qL, gNe, CT, tL, Nc, Nd, tM, Q4, Ng, AS, Q2, Q3, mG, nZ, CU, E3, CV, CW, CY, CZ, C0, AE, C1, AF, AG, AH, AI, AJ, C2, E4, C4, C5, C6, C7, C8, yr, AK, C9, AL, AM, AN, AO, AQ, k9, bW, List.map_nil, ax, cw, aU, List.cons_append, dz, List.set_cons_zero, dG, vO, true_and, Bool.true_and, Bool.and_true, QV, Ul, Um, Uo, Kz, QX, QY, QZ, AR, Q0, Q1, Nf])
theorem Q5{C:Int->Int->Prop}{f:Int->Int->D}{i j:Int}{M:Ms}{Q:DK}:gI C f (.int i) (.int j) M Q=(C i j/\Q (f i j) M):=rfl
theorem Gf{f:Int->Int->D}{i j:Int}{M:Ms}{Q:DK}:qA f (.int i) (.int j) M Q=Q (f i j) M:=rfl
theorem KA{i j:Int}{M:Ms}{Q:DK}:gA (.int i) (.int j) M Q=Q (.int (i+j)) M:=rfl
end L3
namespace mO
open PySem PySem.Spec L2 L3
abbrev iD(xs:List Int):List D:=xs.map D.int
theorem kO(xs:List Int):nK (iD xs)=ah:=Mt (λ_=>rfl) xs
local macro_rules | `(tactic| walk_at "ws1_tac") => `(tactic| ((conv => whnf); first
 |refine⟨_,rfl,?_⟩|refine⟨rfl,?_⟩|refine⟨am rfl,?_⟩|refine⟨show(0:Int)<_ by decide,?_⟩|refine⟨show pe _ _ from⟨by decide,by decide⟩,?_⟩|refine⟨show GU _ _ from⟨by decide,by decide⟩,?_⟩
 |refine⟨show BA _ _ from⟨by decide,by decide,by decide⟩,?_⟩|refine⟨show rB _ _ from .inl ⟨by decide,by decide⟩,?_⟩|refine⟨show rB _ _ from .inr ⟨by decide,by decide⟩,?_⟩
 |refine⟨λh=>absurd (show(1:Nat)=0 from h.1) (by decide),?_⟩|refine⟨λh=>absurd (show(2:Nat)=0 from h.1) (by decide),?_⟩|refine⟨λh=>absurd (show(3:Nat)=0 from h.1) (by decide),?_⟩))
local macro_rules | `(tactic| walk_at "ws_tac") => `(tactic| ((repeat walk_at "ws1_tac"); try (conv => whnf)))
noncomputable def two(p:Int):List Int:=[p/256,p%256]
inductive Rw where
 |set (b n:Int)|add (b c:Int)|take (b c:Int)|say (b:Int)|ask (b:Int)
 |jump (s:Bool) (p:Int)|jumpif (s:Bool) (b p:Int)|call (s:Bool) (p:Int)|back|stop
 |load (s:Bool) (b c p:Int)|jumpby (s:Bool) (b p:Int)|alike (b p q:Int)
noncomputable def Rw.d:Rw->D
 |.set b n=>.tup [.str "set",.int b,.int n]
 |.add b c=>.tup [.str "add",.int b,.int c]
 |.take b c=>.tup [.str "take",.int b,.int c]
 |.say b=>.tup [.str "say",.int b]
 |.ask b=>.tup [.str "ask",.int b]
 |.jump _ p=>.tup [.str "jump",.int p]
 |.jumpif _ b p=>.tup [.str "jumpif",.int b,.int p]
 |.call _ p=>.tup [.str "call",.int p]
 |.back=>.tup [.str "back"]
 |.stop=>.tup [.str "stop"]
 |.load _ b c p=>.tup [.str "load",.int b,.int c,.int p]
 |.jumpby _ b p=>.tup [.str "jumpby",.int b,.int p]
 |.alike b p q=>.tup [.str "alike",.int b,.int p,.int q]
noncomputable def Rw.near:Rw->D
 |.jump s _|.jumpif s _ _|.call s _|.load s _ _ _|.jumpby s _ _=>.bl s
 |_=>.non
theorem HB{β:Type}{xs:List β}{k:Nat}{x:β}(h:xs[k]?=aa x):sF xs (k:Int)=aa x:=by have hk:=(aC.mp h).1;unfold sF BH;rw[if_pos (by omega),if_pos (by omega)];simpa using h
theorem Q6{β:Type}{a:β}{t:List β}:sF (a::t) 0=aa a:=HB (k:=0) rfl
theorem XJ{β:Type}{a b:β}{t:List β}:sF (a::b::t) 1=aa b:=HB (k:=1) rfl
noncomputable def iX:List D:=match tm with|.tup ds=>ds|_=>[]
noncomputable def nb:D->Bool
 |.non|.bl _=>ah
 |_=>ai
local macro_rules | `(tactic| walk_at "ws1_tac") => `(tactic| ((conv => whnf); first
 |refine⟨_,rfl,?_⟩|refine⟨rfl,?_⟩|refine⟨am rfl,?_⟩|refine⟨show(0:Int)<_ by decide,?_⟩|refine⟨show pe _ _ from⟨by decide,by decide⟩,?_⟩|refine⟨show GU _ _ from⟨by decide,by decide⟩,?_⟩
 |refine⟨show BA _ _ from⟨by decide,by decide,by decide⟩,?_⟩|refine⟨show rB _ _ from .inl ⟨by decide,by decide⟩,?_⟩|refine⟨show rB _ _ from .inr ⟨by decide,by decide⟩,?_⟩
 |refine⟨λh=>absurd (show(1:Nat)=0 from h.1) (by decide),?_⟩|refine⟨λh=>absurd (show(2:Nat)=0 from h.1) (by decide),?_⟩|refine⟨λh=>absurd (show(3:Nat)=0 from h.1) (by decide),?_⟩))
local macro_rules | `(tactic| walk_at "ws_tac") => `(tactic| ((repeat walk_at "ws1_tac"); try (conv => whnf)))
def At (cs:List Int)(a:Int)(xs:List Int):Prop:=∃pre post,cs=pre++(xs++post)/\(pre.length:Int)=a
theorem At.nn{cs:List Int}{a:Int}{xs:List Int}(h:At cs a xs):0<=a:=by obtain⟨_,_,_,rfl⟩:=h;omega
theorem At.le{cs:List Int}{a:Int}{xs:List Int}(h:At cs a xs):a+xs.length<=cs.length:=by obtain⟨pre,post,rfl,rfl⟩:=h;simp only [bw];omega
theorem At.hd{cs:List Int}{a x:Int}{xs:List Int}(h:At cs a (x::xs)):sF (iD cs) a=aa (.int x):=by obtain⟨pre,post,rfl,rfl⟩:=h;refine HB ?_;simp
theorem At.tl{cs:List Int}{a x:Int}{xs:List Int}(h:At cs a (x::xs)):At cs (a+1) xs:=by obtain⟨pre,post,rfl,rfl⟩:=h;exact⟨pre++[x],post,by simp,by simp⟩
theorem At.take{cs:List Int}{xs ys:List Int}{a:Int}(h:At cs a (ys++xs)):At cs a ys:=by obtain⟨pre,post,e,l⟩:=h;exact⟨pre,xs++post,by rw[e];simp,l⟩
def jS:GP:=λds Q=>∃(cs:List Int) (a x y:Int) (r:List Int),ds=[.lst (iD cs),.int a]/\At cs a (x::y::r)/\Q (.int (256*x+y))
theorem vz:pS jS:=λds P Q w ⟨cs,a,x,y,r,h1,h2,q⟩=>⟨cs,a,x,y,r,h1,h2,w _ q⟩
theorem Db:∀ds Q,jS ds Q->wv 2 2 wW ds Q:=λds Q ⟨cs,a,x,y,r,h1,h2,q⟩=>by subst h1;refine⟨rfl,?_⟩;refine⟨_,h2.hd,.inl ⟨by decide,by decide⟩,_,h2.tl.hd,?_⟩;exact⟨rfl,q⟩
noncomputable def HC(v:Int):Int:=if v<=2147483647 then v else v- 4294967296
def kB:GP:=λds Q=>∃(cs:List Int) (a x y z u:Int) (r:List Int),ds=[.lst (iD cs),.int a]/\At cs a (x::y::z::u::r)/\Q (.int (HC (65536*(256*x+y)+(256*z+u))))
theorem uv:pS kB:=λds P Q w ⟨cs,a,x,y,z,u,r,h1,h2,q⟩=>⟨cs,a,x,y,z,u,r,h1,h2,w _ q⟩
theorem nA(cs:List Int)(a:Int):nK [.lst (iD cs),.int a]=ah:=by show(nK (iD cs)&&(ah&&ah))=ah;rw[kO];rfl
theorem AT:∀ds Q,kB ds Q->wv 3 2 (uW (cl jS)) ds Q:=λds Q ⟨cs,a,x,y,z,u,r,h1,h2,q⟩=>by
 subst h1;refine⟨rfl,?_⟩;refine⟨⟨by decide,by decide,by decide⟩,nA cs a,cs,a,x,y,z::u::r,rfl,h2,.inl ⟨by decide,by decide⟩,?_⟩;refine⟨nA cs _,cs,a+2,z,u,r,rfl,?_,?_⟩
 ·have:=h2.tl.tl;rw[show a+1+1=a+2 by omega] at this;exact this
 show(if decide (65536*(256*x+y)+(256*z+u)<=2147483647)=ah then _ else _);unfold HC at q;by_cases h:65536*(256*x+y)+(256*z+u)<=2147483647
 ·rw[if_pos (decide_eq_true h)];rw[if_pos h] at q;exact⟨rfl,q⟩
 ·rw[if_neg (λe=>h (of_decide_eq_true e))];rw[if_neg h] at q;exact⟨⟨by decide,by decide,by decide⟩,rfl,q⟩
noncomputable def Lu(v:Int):Int:=if v<=127 then v else v- 256
def qM:GP:=λds Q=>∃(cs:List Int) (a x:Int) (r:List Int),ds=[.lst (iD cs),.int a]/\At cs a (x::r)/\Q (.int (Lu x))
theorem xn:pS qM:=λds P Q w ⟨cs,a,x,r,h1,h2,q⟩=>⟨cs,a,x,r,h1,h2,w _ q⟩
theorem E5:∀ds Q,qM ds Q->wv 2 2 zi ds Q:=λds Q ⟨cs,a,x,r,h1,h2,q⟩=>by
 subst h1;refine⟨rfl,?_⟩;refine⟨_,h2.hd,?_⟩;show(if decide (x<=127)=ah then _ else _);unfold Lu at q;by_cases h:x<=127
 ·rw[if_pos (decide_eq_true h)];rw[if_pos h] at q;exact⟨_,h2.hd,rfl,q⟩
 ·rw[if_neg (λe=>h (of_decide_eq_true e))];rw[if_neg h] at q;exact⟨_,h2.hd,rfl,q⟩
def il:GP:=λds Q=>match ds with
 |[.int n,.int c]=>(c=0/\Q (.tup []))\/(c=1/\Q (.tup [.int n]))\/(c=2/\Q (.tup [.int (n/4),.int (n%4)]))
 |_=>False
theorem vB:pS il:=λds P Q w q=>by
 match ds,q with
 |[.int n,.int c],q=>
  rcases q with⟨h,q⟩|⟨h,q⟩|⟨h,q⟩
  ·exact .inl ⟨h,w _ q⟩
  ·exact .inr (.inl ⟨h,w _ q⟩)
  ·exact .inr (.inr ⟨h,w _ q⟩)
theorem Dc:∀ds Q,il ds Q->wv 2 2 wY ds Q:=λds Q q=>by
 match ds,q with
 |[.int n,.int c],q=>
  refine⟨rfl,?_⟩;rcases q with⟨rfl,q⟩|⟨rfl,q⟩|⟨rfl,q⟩
  ·walk_at "ws_tac";exact q
  ·walk_at "ws_tac";exact q
  ·walk_at "ws_tac";exact q
theorem AU{s:Int}{n:Nat}:cnt s (s+2*(n:Int)) 2=n:=by unfold cnt bI;simp only [show(2:Int)>0 by decide,if_true];split<;>omega
theorem KC{s:Int}{n:Nat}:cnt s (s+4*(n:Int)) 4=n:=by unfold cnt bI;simp only [show(4:Int)>0 by decide,if_true];split<;>omega
theorem zn{s c:Int}{n:Nat}:wF s c (n+1)=.int s::wF (s+c) c n:=by
 unfold wF;rw[List.range_succ_eq_map];simp only [bW,List.map_map];congr 1
 ·simp
 ·refine List.map_congr_left λi _=>?_;show D.int _=D.int _;congr 1;show s+((i+1:Nat):Int)*c=s+c+(i:Int)*c
  push_cast
  rw[Int.add_mul];omega
noncomputable def zo:List Int->List Int
 |x::y::r=>(256*x+y)::zo r
 |_=>[]
noncomputable def Dd:List Int->List Int
 |x::y::z::u::r=>HC (65536*(256*x+y)+(256*z+u))::Dd r
 |_=>[]
theorem oW{j:Nat}{cs:List Int}{Q:List D->Ms->Prop}{M:Ms}:∀(n:Nat) (s:Int) (body acc:List Int),At cs s body->body.length=2*n->acc.length+n<=100->Q (iD (acc++zo body)) M->
  pT [ak,aa j] (gR 0) G7 (iU (cl jS) (gp (gr 1) (gp (gr 0) gw))) (λ_=>True) Q (wF s 2 n) (iD acc) [ak,aa (.lst (iD cs))] M
 |0,s,body,acc,h,hl,ha,q=>by have:body=[]:=cB.mp hl;subst this;rw[show acc++zo []=acc by simp[zo]] at q;exact q
 |n+1,s,body,acc,h,hl,ha,q=>by
  match body,hl with
  |x::y::r,hl=>
   rw[zn];refine⟨nA cs s,cs,s,x,y,r,rfl,h,cQ,?_,?_⟩
   ·rw[aR];exact aB (show acc.length<101 by omega) (by decide)
   ·have h2:=h.tl.tl;rw[show s+1+1=s+2 by omega] at h2;have:=oW (j:=j) n (s+2) r (acc++[256*x+y]) h2 (by simp at hl;omega) (by simp;omega) (by rw[dN];exact q);rw[show iD (acc++[256*x+y])=iD acc++[.int (256*x+y)] by simp] at this;exact this
theorem xo{j:Nat}{cs:List Int}{Q:List D->Ms->Prop}{M:Ms}:∀(n:Nat) (s:Int) (body acc:List Int),At cs s body->body.length=4*n->acc.length+n<=100->Q (iD (acc++Dd body)) M->
  pT [ak,aa j] (gR 0) G7 (iU (cl kB) (gp (gr 1) (gp (gr 0) gw))) (λ_=>True) Q (wF s 4 n) (iD acc) [ak,aa (.lst (iD cs))] M
 |0,s,body,acc,h,hl,ha,q=>by have:body=[]:=cB.mp hl;subst this;rw[show acc++Dd []=acc by simp[Dd]] at q;exact q
 |n+1,s,body,acc,h,hl,ha,q=>by
  match body,hl with
  |x::y::z::u::r,hl=>
   rw[zn];refine⟨nA cs s,cs,s,x,y,z,u,r,rfl,h,cQ,?_,?_⟩
   ·rw[aR];exact aB (show acc.length<101 by omega) (by decide)
   ·have h2:=h.tl.tl.tl.tl;rw[show s+1+1+1+1=s+4 by omega] at h2;have:=xo (j:=j) n (s+4) r (acc++[HC (65536*(256*x+y)+(256*z+u))]) h2 (by simp at hl;omega) (by simp;omega) (by rw[dN];exact q);rw[show iD (acc++[HC (65536*(256*x+y)+(256*z+u))])=iD acc++[.int (HC (65536*(256*x+y)+(256*z+u)))] by simp] at this;exact this
structure Cs(cs:List Int):Prop where
 c:∀x∈cs,0<=x/\x<256
 l:cs.length<=60
abbrev In(a:Int):Prop:=-100<=a/\a<=65000
theorem Gg{a:Int}(h:-100000<=a/\a<=100000):Ck (.int a)=ah:=by
 have h1:a.natAbs<2^17:=by omega
 have h2:a.natAbs.log2<17:=by
  by_cases z:a.natAbs=0
  ·rw[z];decide
  ·exact(Nat.log2_lt z).mpr h1
 have h3:=int_text_length_le (a:=a) (k:=17) (by decide) h2;show(decide (a.natAbs.log2<1920)&&decide ((toString a:ar).length<=4000))=ah;rw[aP,decide_eq_true_eq,decide_eq_true_eq];refine⟨by omega,?_⟩;show(ar.ofString (toString a)).length<=4000;rw[PySem.ofString_length];omega
theorem Q7{a:Int}(h:In a):Ck (.int a)=ah:=Gg ⟨by omega,by omega⟩
theorem AV{cs:List Int}{a:Int}(h:0<=a)(h':a<=cs.length):At cs a (cs.drop a.toNat):=
 ⟨cs.take a.toNat,[],by rw[bj,List.take_append_drop],by rw[dh];omega⟩
theorem Cs.drop{cs:List Int}(h:Cs cs){n:Nat}:∀x∈cs.drop n,0<=x/\x<256:=λx hx=>h.c x (List.mem_of_mem_drop hx)
noncomputable def lsN(j:Int)(cs:List Int)(a:Int):Option (Int×List Int):=
 if a<0 then ak else match cs.drop a.toNat with
  |x::y::r=>if j*(256*x+y)<=r.length then aa (256*x+y,r.take (j*(256*x+y)).toNat) else ak
  |_=>ak
abbrev xp(C:af)(a:Int):EX:=⟨C,["place"],[.int a]⟩
theorem AW{a:Int}(h:In a):[D.int a].all Ck=ah:=by show(Ck (.int a)&&ah)=ah;rw[Q7 h];rfl
theorem Lv{d:D}:[d].length<=aH:=am rfl
def qd (C:af):t6:=λds Q X=>∃(cs:List Int) (a j:Int),ds=[.lst (iD cs),.int a,.int j]/\Cs cs/\In a/\(j=2\/j=4)/\(match lsN j cs a with|some (n,_)=>Q (.int (a+2+j*n))|none=>X (xp C a))
theorem yt{C:af}:nO (qd C):=λds P Q x y w v ⟨cs,a,j,h1,h2,h3,h4,q⟩=>⟨cs,a,j,h1,h2,h3,h4,by
 revert q;cases lsN j cs a with
 |none=>exact v _
 |some z=>exact w _⟩
theorem HD{C:af}:∀ds Q X,qd C ds Q X->nP 4 3 (re C (cl jS)) ds Q X:=λds Q X ⟨cs,a,j,h1,hc,ha,hj,q⟩=>by
 subst h1;refine⟨rfl,?_⟩;have kf:((iD cs).length:Int)=cs.length:=by rw[aR]
 show(if decide (a<0)=ah then _ else _);unfold lsN at q;by_cases h0:a<0
 ·rw[if_pos (decide_eq_true h0)];rw[if_pos h0] at q;exact⟨rfl,AW ha,Lv,rfl,q⟩
 rw[if_neg (λe=>h0 (of_decide_eq_true e))];rw[if_neg h0] at q;refine⟨(iD cs).length,rfl,?_⟩;show(if decide (((iD cs).length:Int)<a+2)=ah then _ else _);have hd:=AV (cs:=cs) (a:=a) (by omega);have hl:=di (l:=cs) (i:=a.toNat);by_cases h1:(cs.length:Int)<a+2
 ·rw[if_pos (decide_eq_true (by rw[kf];exact h1))];have:X (xp C a):=by
   generalize cs.drop a.toNat=z at q hl;rcases z with _|⟨x,_|⟨y,r⟩⟩
   ·exact q
   ·exact q
   ·rw[ax,ax] at hl;omega
  exact⟨rfl,AW ha,Lv,rfl,this⟩
 rw[if_neg (λe=>h1 (by have:=of_decide_eq_true e;omega))];have hd:=hd (by omega);have hD:=hc.drop (n:=a.toNat);generalize cs.drop a.toNat=z at q hl hd hD;rcases z with _|⟨x,_|⟨y,r⟩⟩
 ·simp at hl;omega
 ·simp at hl;omega
 ·refine⟨nA cs a,cs,a,x,y,r,rfl,hd,?_,?_⟩
  ·rcases hj with rfl|rfl<;>exact .inl ⟨by decide,by decide⟩
  refine⟨(iD cs).length,rfl,?_⟩;show(if decide (((iD cs).length:Int)<a+2+j*(256*x+y))=ah then _ else _);rw[ax,ax] at hl;have q:(match(if j*(256*x+y)<=r.length then aa (256*x+y,r.take (j*(256*x+y)).toNat) else ak) with|some (n,_)=>Q (.int (a+2+j*n))|none=>X (xp C a)):=q;by_cases h2:j*(256*x+y)<=r.length
  ·rw[if_neg (λe=>by have:=of_decide_eq_true e;omega)];rw[if_pos h2] at q;exact⟨rfl,q⟩
  ·rw[if_pos (decide_eq_true (by omega))];rw[if_neg h2] at q;exact⟨rfl,AW ha,Lv,rfl,q⟩
theorem Gh(cs:List Int)(a j:Int):nK [.lst (iD cs),.int a,.int j]=ah:=by show(nK (iD cs)&&(ah&&(ah&&ah)))=ah;rw[kO];rfl
def kP (C:af):t6:=λds Q X=>∃(cs:List Int) (a:Int),ds=[.lst (iD cs),.int a]/\Cs cs/\In a/\(match lsN 4 cs a with|some (n,b)=>Q (.tup [.lst (iD (Dd b)),.int (a+2+4*n)])|none=>X (xp C a))
theorem j1{C:af}:nO (kP C):=λds P Q x y w v ⟨cs,a,h1,h2,h3,q⟩=>⟨cs,a,h1,h2,h3,by
 revert q;cases lsN 4 cs a with
 |none=>exact v _
 |some z=>exact w _⟩
theorem De{j:Int}{cs:List Int}{a n:Int}{b:List Int}(hc:Cs cs)(hj:j=2\/j=4)(h:lsN j cs a=aa (n,b)):0<=a/\0<=n/\(b.length:Int)=j*n/\At cs (a+2) b/\a+2+j*n<=cs.length/\∃x y r,cs.drop a.toNat=x::y::r/\n=256*x+y/\b=r.take (j*n).toNat/\At cs a (x::y::r):=by
 unfold lsN at h;split at h
 ·cases h
 rename_i h0;split at h
 ·rename_i x y r e;split at h
  ·rename_i h2;cases h;have hD:=hc.drop (n:=a.toNat);have hl:=di (l:=cs) (i:=a.toNat);rw[e] at hl hD;rw[ax,ax] at hl;have hx:=hD x (by simp);have hy:=hD y (by simp);have hd:=AV (cs:=cs) (a:=a) (by omega) (by omega);rw[e] at hd;have XM:=hd.tl.tl;rw[show a+1+1=a+2 by omega] at XM;have hjn:0<=j*(256*x+y):=by rcases hj with rfl|rfl<;>omega
   refine⟨by omega,by omega,?_,?_,by omega,x,y,r,e,rfl,rfl,hd⟩
   ·rw[dh];omega
   ·rw[<-List.take_append_drop (j*(256*x+y)).toNat r] at XM;exact XM.take
  ·cases h
 ·cases h
theorem OB{Q:D->Prop}{ts:List Int}{i:Int}(q:Q (.tup [.lst (iD ts),.int i])):nl (fz [] (.tup [.lst (iD ts),.int i]))=ah/\Q (fz [] (.tup [.lst (iD ts),.int i])):=by refine⟨?_,q⟩;show(nK (iD ts)&&(ah&&ah))=ah;rw[kO];rfl
theorem vC{C:af}:∀ds Q X,kP C ds Q X->nP 3 2 (p8 (qd C) (cl kB)) ds Q X:=λds Q X ⟨cs,a,h1,hc,ha,q⟩=>by
 subst h1;refine⟨rfl,Gh cs a 4,cs,a,4,rfl,hc,ha,.inr rfl,?_⟩;cases e:lsN 4 cs a with
 |none=>rw[e] at q;exact⟨rfl,q⟩
 |some z=>
  obtain⟨n,b⟩:=z;rw[e] at q;obtain⟨a0,n0,hb,hA,Vy,_⟩:=De hc (.inr rfl) e;obtain⟨k,rfl⟩:=Int.eq_ofNat_of_zero_le n0;have hl:=hc.l;refine⟨⟨⟨by omega,by omega,by omega,by omega⟩,.inr rfl⟩,cQ,?_⟩;rw[KC];refine xo (acc:=[]) k (a+2) b hA (by omega) (by simp;omega) ?_;exact⟨am rfl,OB q⟩
def l7 (C:af):t6:=λds Q X=>∃(cs:List Int) (a:Int),ds=[.lst (iD cs),.int a]/\Cs cs/\In a/\(match lsN 2 cs a with|some (n,b)=>Q (.tup [.lst (iD (zo b)),.int (a+2+2*n)])|none=>X (xp C a))
theorem kQ{C:af}:nO (l7 C):=λds P Q x y w v ⟨cs,a,h1,h2,h3,q⟩=>⟨cs,a,h1,h2,h3,by
 revert q;cases lsN 2 cs a with
 |none=>exact v _
 |some z=>exact w _⟩
theorem yu{C:af}:∀ds Q X,l7 C ds Q X->nP 3 2 (tz (qd C) (cl jS)) ds Q X:=λds Q X ⟨cs,a,h1,hc,ha,q⟩=>by
 subst h1;refine⟨rfl,Gh cs a 2,cs,a,2,rfl,hc,ha,.inl rfl,?_⟩;cases e:lsN 2 cs a with
 |none=>rw[e] at q;exact⟨rfl,q⟩
 |some z=>
  obtain⟨n,b⟩:=z;rw[e] at q;obtain⟨a0,n0,hb,hA,Vy,_⟩:=De hc (.inl rfl) e;obtain⟨k,rfl⟩:=Int.eq_ofNat_of_zero_le n0;have hl:=hc.l;refine⟨⟨⟨by omega,by omega,by omega,by omega⟩,.inl rfl⟩,cQ,?_⟩;rw[AU];refine oW (acc:=[]) k (a+2) b hA (by omega) (by simp;omega) ?_;exact⟨am rfl,OB q⟩
noncomputable def many(b:Int):Int:=if b=0 then 1 else if b=1 then 4 else 16
noncomputable def gK(c:Int):List D->Option D
 |.tup [.str k,n,.int f,.int b,.int m]::rest=>if 0<=c- f/\c- f<many b then aa (.tup [.str k,n,.int f,.int b,.int m]) else gK c rest
 |_=>ak
noncomputable def Vz:List D->Bool
 |.tup [.str _,_,.int _,.int b,.int _]::rest=>(b==0||b==1||b==2)&&Vz rest
 |[]=>ah
 |_=>ai
theorem HE:Vz iX=ah:=by kernel_rfl
theorem Q8{b:Int}(h:(b==0||b==1||b==2)=ah){M:Ms}{Q:DK}(q:Q (.int (many b)) M):iZ jo (.int b) M Q:=by
 simp only [Bool.or_eq_true,beq_iff_eq] at h;rcases h with(rfl|rfl)|rfl
 ·exact⟨_,rfl,q⟩
 ·exact⟨_,rfl,q⟩
 ·exact⟨_,rfl,q⟩
theorem HF{c:Int}{st:Ms->Prop}(l8:∀M,st M){E:iE}:∀(items:List D) (z:Option D),Vz items=ah->(∀d,gK c items=aa d->E.rt d [])->(gK c items=ak->∀z',E.nx [aa (.int c),z'] [])->
  lB (gR 1) (iC (gD (jN yW BS (dC (.int 0)) (gB (qA λi j=>.int (i- j)) (gr 0) (gB iZ (gr 1) (dC (.int 2)))) (gB iZ (dC jo) (gB iZ (gr 1) (dC (.int 3)))))) (ip (gr 1)) gW) st E items [aa (.int c),z] []:=by
 intro items;induction items with
 |nil=>intro z _ _ q;exact q rfl z
 |cons it rest ih=>
  intro z ho h q;unfold Vz at ho;split at ho;case h_1 x k n f b m Zh e=>
   obtain⟨rfl,rfl⟩:=List.cons.inj e;rw[aP] at ho;unfold gK at h q;refine⟨_,rfl,?_⟩;have go:¬(0<=c- f/\c- f<many b)->lB (gR 1) (iC (gD (jN yW BS (dC (.int 0)) (gB (qA λi j=>.int (i- j)) (gr 0) (gB iZ (gr 1) (dC (.int 2)))) (gB iZ (dC jo) (gB iZ (gr 1) (dC (.int 3)))))) (ip (gr 1)) gW) st E rest [aa (.int c),aa (.tup [.str k,n,.int f,.int b,.int m])] []:=λhn=>by rw[if_neg hn] at h q;exact ih _ ho.2 h q
   have gl:∀(i j:Int) (M:Ms) (Q:DK),BS (.int i) (.int j) M Q=Q (.bl (decide (i<j))) M:=λ_ _ _ _=>rfl;have g0:∀(i j:Int) (M:Ms) (Q:DK),yW (.int i) (.int j) M Q=Q (.bl (decide (i<=j))) M:=λ_ _ _ _=>rfl;simp only [Gf,g0];by_cases h0:0<=c- f
   ·rw[decide_eq_true h0];refine⟨_,rfl,?_⟩;simp only [];refine Q8 ho.1 ?_;simp only [gl];by_cases h1:c- f<many b
    ·rw[decide_eq_true h1];rw[if_pos ⟨h0,h1⟩] at h;exact h _ rfl
    ·rw[decide_eq_false h1];exact⟨l8 _,go (λz=>h1 z.2)⟩
   ·rw[decide_eq_false h0];exact⟨l8 _,go (λz=>h0 z.1)⟩
  case h_2 e=>cases e
  case h_3=>cases ho
def jv:GP:=λds Q=>∃c:Int,ds=[.int c]/\(∀d,gK c iX=aa d->nl (fz [] d)=ah/\Q (fz [] d))/\(gK c iX=ak->Q .non)
theorem uw:pS jv:=λds P Q w ⟨c,h1,h2,h3⟩=>⟨c,h1,λd e=>⟨(h2 d e).1,w _ (h2 d e).2⟩,λe=>w _ (h3 e)⟩
theorem AX:∀ds Q,jv ds Q->wv 2 1 uY ds Q:=λds Q ⟨c,h1,h2,h3⟩=>by subst h1;refine⟨rfl,iX,rfl,rfl,?_⟩;exact HF (λ_=>rfl) iX ak HE h2 λe z=>⟨rfl,h3 e⟩
theorem OC{c f b m:Int}{k:ar}{n:D}{d:Option D}{rest:List D}(h:¬(0<=c- f/\c- f<many b))(r:gK c rest=d):gK c (.tup [.str k,n,.int f,.int b,.int m]::rest)=d:=by unfold gK;rw[if_neg h];exact r
theorem KD{c f b m:Int}{k:ar}{n:D}{rest:List D}(h:0<=c- f/\c- f<many b):gK c (.tup [.str k,n,.int f,.int b,.int m]::rest)=aa (.tup [.str k,n,.int f,.int b,.int m]):=by unfold gK;rw[if_pos h]
theorem m0:many 0=1:=rfl
theorem m1:many 1=4:=rfl
theorem m2:many 2=16:=rfl
local macro_rules | `(tactic| walk_at "cf_tac") => `(tactic| repeat (first | exact KD (by simp only [m0, m1, m2]; omega) | exact (rfl : gK _ [] = ak) | refine OC (by simp only [m0, m1, m2]; omega) ?_))
def i5:GP:=λds Q=>∃(kind:ar) (near:D) (f b m:Int) (cs:List Int) (a:Int) (ts:List Int),ds=[.tup [.str kind,near,.int f,.int b,.int m],.lst (iD cs),.int a]/\0<=a/\a<65536/\
 ((kind="set"/\∃x y z u r,At cs (a+1) (x::y::z::u::r)/\ts=[HC (65536*(256*x+y)+(256*z+u))])\/
   ((kind=="set")=ai/\near=.bl ah/\∃x r,At cs (a+1) (x::r)/\ts=[a+2+Lu x])\/
   ((kind=="set")=ai/\(near=.non\/near=.bl ai)/\∃(n:Nat) (body:List Int),At cs (a+1) body/\body.length=2*n/\m=2*n/\n<=50/\ts=zo body))/\Q (.tup (iD ts))
theorem sg:pS i5:=λds P Q w ⟨kind,near,f,b,m,cs,a,ts,h1,h2,h3,h4,q⟩=>⟨kind,near,f,b,m,cs,a,ts,h1,h2,h3,h4,w _ q⟩
theorem Nh(ts:List Int):nl (.tup (iD ts))=ah:=kO ts
theorem Up(ts:List Int)(M:Ms):(iD ts).map (vw M)=iD ts:=by rw[List.map_map];rfl
theorem Gi{Q:D->Prop}{ts:List Int}(q:Q (.tup (iD ts))):nl (fz [] (.tup (iD ts)))=ah/\Q (fz [] (.tup (iD ts))):=by show nl (.tup ((iD ts).map (vw [])))=ah/\Q (.tup ((iD ts).map (vw [])));rw[Up];exact⟨Nh ts,q⟩
theorem xq:∀ds Q,i5 ds Q->wv 8 3 (qZ (cl kB) (cl qM) (cl jS)) ds Q:=λds Q ⟨kind,near,f,b,m,cs,a,ts,h1,a0,a1,h2,q⟩=>by
 subst h1;refine⟨rfl,rfl,rfl,?_⟩;show(if(kind=="set")=ah then _ else _);rcases h2 with⟨rfl,x,y,z,u,r,h,rfl⟩|⟨hk,rfl,x,r,h,rfl⟩|⟨hk,hn,n,body,h,hl,hm,hb,rfl⟩
 ·rw[if_pos (by simp)];exact⟨nA cs _,cs,a+1,x,y,z,u,r,rfl,h,am rfl,Gi q⟩
 ·rw[hk,if_neg (by simp)];exact⟨nA cs _,cs,a+1,x,r,rfl,h,am rfl,Gi q⟩
 ·rw[hk,if_neg (by simp)];subst hm;have c3:C3 (a+1) (a+1+2*(n:Int)) 2:=⟨⟨by omega,by omega,by omega,by omega⟩,.inl rfl⟩;rcases hn with rfl|rfl
  ·refine⟨c3,cQ,?_⟩;rw[AU];refine oW (acc:=[]) n (a+1) body h hl (by simp;omega) ?_;exact Gi q
  ·refine⟨c3,cQ,?_⟩;rw[AU];refine oW (acc:=[]) n (a+1) body h hl (by simp;omega) ?_;exact Gi q
noncomputable def xr(a:Int)(f:Int->Rw):List Int->Option Rw
 |x::_=>if 0<=a+2+Lu x/\a+2+Lu x<=65535 then aa (f (a+2+Lu x)) else ak
 |[]=>ak
noncomputable def ux(f:Int->Rw):List Int->Option Rw
 |x::y::_=>aa (f (256*x+y))
 |_=>ak
noncomputable def zp(f:Int->Int->Rw):List Int->Option Rw
 |x::y::z::u::_=>aa (f (256*x+y) (256*z+u))
 |_=>ak
noncomputable def j9(a c:Int)(r:List Int):Option Rw:=
 if c<16 then ak
 else if c<20 then zp (λp q=>.set (c- 16) (HC (65536*p+q))) r
 else if c<32 then ak
 else if c<48 then aa (.add ((c- 32)/4) ((c- 32)%4))
 else if c<64 then aa (.take ((c- 48)/4) ((c- 48)%4))
 else if c<68 then aa (.say (c- 64))
 else if c<72 then aa (.ask (c- 68))
 else if c<80 then ak
 else if c<81 then xr a (.jump ah) r
 else if c<82 then ux (.jump ai) r
 else if c<83 then xr a (.call ah) r
 else if c<84 then ux (.call ai) r
 else if c<88 then xr a (.jumpif ah (c- 84)) r
 else if c<92 then ux (.jumpif ai (c- 88)) r
 else if c<98 then ak
 else if c<99 then aa .back
 else if c<100 then aa .stop
 else if c<104 then xr a (.jumpby ah (c- 100)) r
 else if c<108 then ux (.jumpby ai (c- 104)) r
 else if c<112 then ak
 else if c<128 then xr a (.load ah ((c- 112)/4) ((c- 112)%4)) r
 else if c<144 then ux (.load ai ((c- 128)/4) ((c- 128)%4)) r
 else if c<148 then zp (.alike (c- 144)) r
 else ak
noncomputable def Bo(cs:List Int)(a:Int):Option Rw:=if a<0 then ak else match cs.drop a.toNat with
 |c::r=>j9 a c r
 |[]=>ak
noncomputable def Rw.len:Rw->Int
 |.set _ _|.alike _ _ _=>5
 |.add _ _|.take _ _|.say _|.ask _|.back|.stop=>1
 |.jump s _|.call s _|.jumpif s _ _|.jumpby s _ _|.load s _ _ _=>if s=ah then 2 else 3
abbrev XN(a:Int)(r:Rw):D:=.tup [r.d,r.near,.int (a+r.len)]
def nh (C:af):t6:=λds Q X=>∃(cs:List Int) (a:Int),ds=[.lst (iD cs),.int a]/\Cs cs/\In a/\(∀r,Bo cs a=aa r->Q (XN a r))/\(Bo cs a=ak->X (xp C a))
theorem lj{C:af}:nO (nh C):=λds P Q x y w v ⟨cs,a,h1,h2,h3,q1,q2⟩=>⟨cs,a,h1,h2,h3,λr e=>w _ (q1 r e),λe=>v _ (q2 e)⟩
abbrev T7(C:af):XB:=jw (xO (qO (gD (gB JR (gr 4) (dC (.bl ah)))) (sN (gD (jN yW yW (dC (.int 0)) (gB iZ (gr 9) (Jx (dC (.int 1)))) (dC (.int 65535)))))) (mw C ["place"] (gp (gr 1) gw)) (λ_=>gW))
 (λ_=>(ip (iN (gp (gr 9) (gp (gr 4) (gp (gr 8) gw))))))
theorem Gj{k:ar}{near:D}{f b m:Int}(hn:nb near=ah):fz [] (.tup [.str k,near,.int f,.int b,.int m])=.tup [.str k,near,.int f,.int b,.int m]:=by cases near<;>first|(cases hn;done)|rfl
theorem Gk{k:ar}{near:D}{f b m:Int}(hn:nb near=ah):nl (.tup [.str k,near,.int f,.int b,.int m])=ah:=by cases near<;>first|(cases hn;done)|rfl
theorem E6{i j:Int}{M:Ms}{Q:DK}:BS (.int i) (.int j) M Q=Q (.bl (decide (i<j))) M:=rfl
abbrev XX(X:EX->Prop):uU:=λe _ _=>nK e.ds=ah/\X e
abbrev EE(Q:D->Prop):iE:=⟨λ_ _=>Q .non,λd M'=>nl (fz M' d)=ah/\Q (fz M' d),λ_ _=>False,λ_ _=>False⟩
section
variable {C:af} {cs:List Int} {a c f b m:Int} {rest:List Int} {kind:ar} {near:D} {Q:D->Prop} {X:EX->Prop}
theorem OE(hA:At cs a (c::rest))(ha:In a){tl:XB}(h:gK c iX=ak->X (xp C a))(g:∀k n f b m,gK c iX=aa (.tup [.str k,n,.int f,.int b,.int m])->nb n=ah/\tl (XX X) (EE Q) [aa (.lst (iD cs)),aa (.int a),aa (.tup [.str k,n,.int f,.int b,.int m]),ak,ak,ak,ak,ak,ak,ak] [])(pE:∀d,gK c iX=aa d->∃k n f b m,d=.tup [.str k,n,.int f,.int b,.int m]):
  jw (xO (sN (gD (jN yW BS (dC (.int 0)) (gr 1) (iU mN (gp (gr 0) gw))))) (mw C ["place"] (gp (gr 1) gw)) (λ_=>gW))
   (jw (λ_=>(ib 2 (iU (cl jv) (gp (gB iZ (gr 0) (gr 1)) gw))))
   (jw (xO (gD (gB WY (gr 2) (dC .non))) (mw C ["place"] (gp (gr 1) gw)) (λ_=>gW)) tl)) (XX X) (EE Q) [aa (.lst (iD cs)),aa (.int a),ak,ak,ak,ak,ak,ak,ak,ak] []:=by
 have Vy:=hA.le;rw[ax] at Vy
 push_cast at Vy
 have a0:=hA.nn;have e1:decide (0<=a)=ah:=decide_eq_true a0;have e2:decide (a<((iD cs).length:Int))=ah:=decide_eq_true (by rw[aR];omega);simp only [jw,xO,gN,iC,sN,tI,tJ,dC,nZ,mG,tL,e1,qL,if_true,iU,gp,gw,tM,AR,AS,vO,E6,e2,tK,Bool.not_true,cZ,if_false,gW];refine⟨_,hA.hd,rfl,c,rfl,λd e=>?_,λe=>?_⟩
 ·obtain⟨k,n,f,b,m,rfl⟩:=pE d e;obtain⟨hn,g⟩:=g k n f b m e;refine⟨by rw[Gj hn];exact Gk hn,?_⟩;rw[Gj hn];exact g
 ·exact⟨rfl,AW ha,Lv,rfl,h e⟩
theorem qN(hA:At cs a (c::rest))(ha:In a)(hc:gK c iX=ak)(q:X (xp C a)):nP 10 2 (lK C (cl jv) (cl il) (cl i5)) [.lst (iD cs),.int a] Q X:=
 ⟨rfl,OE hA ha (λ_=>q) (λ_ _ _ _ _ e=>by rw[hc] at e;cases e) λ_ e=>by rw[hc] at e;cases e⟩
theorem tN(hA:At cs a (c::rest))(hl:(cs.length:Int)=a+1+rest.length)(ha:In a)(hc:gK c iX=aa (.tup [.str kind,near,.int f,.int b,.int m]))(hn:nb near=ah)
(ke:(rest.length:Int)<m->X (xp C a))
(ok:m<=rest.length->∃bs ts:List Int,bs.length<=2/\ts.length<=50/\(∀R:D->Prop,R (.tup (iD bs))->il [.int (c- f),.int b] R)/\(∀R:D->Prop,R (.tup (iD ts))->i5 [.tup [.str kind,near,.int f,.int b,.int m],.lst (iD cs),.int a] R)/\
   T7 C (XX X) (EE Q) [aa (.lst (iD cs)),aa (.int a),aa (.tup [.str kind,near,.int f,.int b,.int m]),aa (.str kind),aa near,aa (.int f),aa (.int b),aa (.int m),aa (.int (a+1+m)),aa (.tup ([.str kind]++iD bs++iD ts))] []):
  nP 10 2 (lK C (cl jv) (cl il) (cl i5)) [.lst (iD cs),.int a] Q X:=by
 refine⟨rfl,OE hA ha (λe=>by rw[hc] at e;cases e) (λk' n' f' b' m' e=>?_) λd e=>by rw[hc] at e;cases e;exact⟨_,_,_,_,_,rfl⟩⟩;rw[hc] at e;cases e;refine⟨hn,rfl,rfl,?_⟩;refine⟨(iD cs).length,rfl,?_⟩;show(if decide (((iD cs).length:Int)<a+1+m)=ah then _ else _);by_cases h:(rest.length:Int)<m
 ·rw[if_pos (decide_eq_true (by rw[aR];omega))];exact⟨rfl,AW ha,Lv,rfl,ke h⟩
 rw[if_neg (λe=>absurd (of_decide_eq_true e) (by rw[aR];omega))];obtain⟨bs,ts,Lw,htl,hb,ht,lm⟩:=ok (by omega);refine⟨am rfl,_,hA.hd,rfl,hb _ ?_⟩;refine⟨List.cons_ne_nil _ _,?_,?_⟩
 ·rw[aR];exact aT (show[D.str kind].length+bs.length<=3 by simp;omega) (by decide)
 refine⟨?_,ht _ ?_⟩
 ·show(nl (.tup [.str kind,near,.int f,.int b,.int m])&&(nK (iD cs)&&(ah&&ah)))=ah;rw[Gk hn,kO];rfl
 refine⟨List.cons_ne_nil _ _,?_,lm⟩;rw[bw,aR,aR];exact aT (show[D.str kind].length+bs.length+ts.length<=53 by simp;omega) (by decide)
variable {bs ts:List Int} {i p:Int} {d0 d1 d2:Option D} {code:D}
theorem E7(hn:nb near=ah)(q:Q (.tup [.tup ([.str kind]++iD bs++iD ts),near,.int i])):nl (fz [] (.tup [.tup ([.str kind]++iD bs++iD ts),near,.int i]))=ah/\Q (fz [] (.tup [.tup ([.str kind]++iD bs++iD ts),near,.int i])):=by
 have e:fz [] (.tup [.tup ([.str kind]++iD bs++iD ts),near,.int i])=.tup [.tup ([.str kind]++iD bs++iD ts),near,.int i]:=by cases near<;>first|(cases hn;done)|rfl
 rw[e];refine⟨?_,q⟩;show(nK ([.str kind]++iD bs++iD ts)&&(nl near&&(ah&&ah)))=ah;rw[wt,wt,kO,kO];cases near<;>first|(cases hn;done)|rfl
theorem Ni{xs:List D}{x:D}:sF (xs++[x]) (-1)=aa x:=by
 unfold sF BH;rw[if_neg (by decide),if_pos (by simp;omega)];have:((-1:Int)+((xs++[x]).length:Nat)).toNat=xs.length:=by simp;omega
 simp only [this];simp
theorem E8(q:Q (.tup [.tup ([.str kind]++iD bs++iD ts),.non,.int i])):T7 C (XX X) (EE Q) [aa (.lst (iD cs)),aa (.int a),aa code,aa (.str kind),aa .non,aa (.int f),aa (.int b),aa (.int m),aa (.int i),aa (.tup ([.str kind]++iD bs++iD ts))] []:=
 ⟨am rfl,E7 rfl q⟩
theorem Q9(q:Q (.tup [.tup ([.str kind]++iD bs++iD ts),.bl ai,.int i])):T7 C (XX X) (EE Q) [aa (.lst (iD cs)),aa (.int a),aa code,aa (.str kind),aa (.bl ai),aa (.int f),aa (.int b),aa (.int m),aa (.int i),aa (.tup ([.str kind]++iD bs++iD ts))] []:=
 ⟨am rfl,E7 rfl q⟩
theorem Nj(ha:In a)(q:0<=p/\p<=65535->Q (.tup [.tup ([.str kind]++iD bs++iD [p]),.bl ah,.int i]))(x:¬(0<=p/\p<=65535)->X (xp C a)):T7 C (XX X) (EE Q) [aa (.lst (iD cs)),aa (.int a),aa code,aa (.str kind),aa (.bl ah),aa (.int f),aa (.int b),aa (.int m),aa (.int i),aa (.tup ([.str kind]++iD bs++iD [p]))] []:=by
 refine⟨_,Ni (xs:=[.str kind]++iD bs) (x:=.int p),?_⟩;simp only [tL];by_cases h0:0<=p
 ·rw[decide_eq_true h0];show(if(!decide (p<=65535))=ah then _ else _);by_cases h1:p<=65535
  ·rw[if_neg (by simp[h1])];exact⟨am rfl,E7 rfl (q ⟨h0,h1⟩)⟩
  ·rw[if_pos (by simp[h1])];exact⟨rfl,AW ha,Lv,rfl,x λz=>h1 z.2⟩
 ·rw[decide_eq_false h0];exact⟨rfl,AW ha,Lv,rfl,x λz=>h0 z.1⟩
end
local macro_rules | `(tactic| walk_at "cf_tac") => `(tactic| repeat (first | exact KD (by simp only [m0, m1, m2]; omega) | exact (rfl : gK _ [] = ak) | refine OC (by simp only [m0, m1, m2]; omega) ?_))
section
variable {C:af} {cs:List Int} {a c f b m:Int} {rest:List Int} {kind:ar} {near:D} {Q:D->Prop} {X:EX->Prop}
abbrev RC(C:af)(cs:List Int)(a:Int)(Q:D->Prop)(X:EX->Prop):Prop:=nP 10 2 (lK C (cl jv) (cl il) (cl i5)) [.lst (iD cs),.int a] Q X
theorem zr{n:Int}(R:D->Prop)(r:R (.tup (iD []))):il [.int n,.int 0] R:=.inl ⟨rfl,r⟩
theorem u7{n:Int}(R:D->Prop)(r:R (.tup (iD [n]))):il [.int n,.int 1] R:=.inr (.inl ⟨rfl,r⟩)
theorem Gm{n:Int}(R:D->Prop)(r:R (.tup (iD [n/4,n%4]))):il [.int n,.int 2] R:=.inr (.inr ⟨rfl,r⟩)
theorem uy{bs:List Int}(hA:At cs a (c::rest))(hl:(cs.length:Int)=a+1+rest.length)(ha:In a)(hc:gK c iX=aa (.tup [.str kind,.non,.int f,.int b,.int 0]))(hk:(kind=="set")=ai)(Lw:bs.length<=2)
(hb:∀R:D->Prop,R (.tup (iD bs))->il [.int (c- f),.int b] R)(q:Q (.tup [.tup ([.str kind]++iD bs++iD []),.non,.int (a+1)])):RC C cs a Q X:=by have a0:=hA.nn;refine tN hA hl ha hc rfl (λh=>by omega) λ_=>⟨bs,[],Lw,by simp,hb,λR r=>⟨kind,.non,f,b,0,cs,a,[],rfl,a0,by omega,.inr (.inr ⟨hk,.inl rfl,0,[],At.take (ys:=[]) hA.tl,rfl,rfl,by decide,rfl⟩),r⟩,E8 ?_⟩;rw[show a+1+0=a+1 by omega];exact q
theorem tO{bs:List Int}{g:Int->Rw}(hA:At cs a (c::rest))(hl:(cs.length:Int)=a+1+rest.length)(ha:In a)(hc:gK c iX=aa (.tup [.str kind,.bl ah,.int f,.int b,.int 1]))(hk:(kind=="set")=ai)(Lw:bs.length<=2)
(hb:∀R:D->Prop,R (.tup (iD bs))->il [.int (c- f),.int b] R)(q:∀p,xr a g rest=aa (g p)->Q (.tup [.tup ([.str kind]++iD bs++iD [p]),.bl ah,.int (a+2)]))(x:xr a g rest=ak->X (xp C a)):RC C cs a Q X:=by
 have a0:=hA.nn;refine tN hA hl ha hc rfl (λh=>x ?_) λh=>?_
 ·cases rest with
  |nil=>rfl
  |cons y r=>rw[ax] at h;push_cast at h;omega
 ·cases rest with
  |nil=>simp at h
  |cons y r=>
   refine⟨bs,[a+2+Lu y],Lw,by simp,hb,λR r'=>⟨kind,.bl ah,f,b,1,cs,a,_,rfl,a0,by omega,.inr (.inl ⟨hk,rfl,y,r,hA.tl,rfl⟩),r'⟩,Nj ha (λhp=>?_) λhp=>x ?_⟩
   ·rw[show a+1+1=a+2 by omega];exact q _ (if_pos hp)
   ·exact if_neg hp
theorem xt{bs:List Int}{g:Int->Rw}(hA:At cs a (c::rest))(hl:(cs.length:Int)=a+1+rest.length)(ha:In a)(hc:gK c iX=aa (.tup [.str kind,.bl ai,.int f,.int b,.int 2]))(hk:(kind=="set")=ai)(Lw:bs.length<=2)
(hb:∀R:D->Prop,R (.tup (iD bs))->il [.int (c- f),.int b] R)(q:∀p,ux g rest=aa (g p)->Q (.tup [.tup ([.str kind]++iD bs++iD [p]),.bl ai,.int (a+3)]))(x:ux g rest=ak->X (xp C a)):RC C cs a Q X:=by
 have a0:=hA.nn;refine tN hA hl ha hc rfl (λh=>x ?_) λh=>?_
 ·rcases rest with _|⟨y,_|⟨z,r⟩⟩
  ·rfl
  ·rfl
  ·rw[ax,ax] at h;push_cast at h;omega
 ·rcases rest with _|⟨y,_|⟨z,r⟩⟩
  ·simp at h
  ·simp at h
  ·refine⟨bs,[256*y+z],Lw,by simp,hb,λR r'=>⟨kind,.bl ai,f,b,2,cs,a,_,rfl,a0,by omega,.inr (.inr ⟨hk,.inr rfl,1,[y,z],At.take (ys:=[y,z]) (xs:=r) hA.tl,rfl,rfl,by decide,rfl⟩),r'⟩,Q9 ?_⟩;rw[show a+1+2=a+3 by omega];exact q _ rfl
theorem KG{bs:List Int}{g:Int->Int->Rw}(hA:At cs a (c::rest))(hl:(cs.length:Int)=a+1+rest.length)(ha:In a)(hc:gK c iX=aa (.tup [.str kind,.non,.int f,.int b,.int 4]))(hk:(kind=="set")=ai)(Lw:bs.length<=2)
(hb:∀R:D->Prop,R (.tup (iD bs))->il [.int (c- f),.int b] R)(q:∀p p',zp g rest=aa (g p p')->Q (.tup [.tup ([.str kind]++iD bs++iD [p,p']),.non,.int (a+5)]))(x:zp g rest=ak->X (xp C a)):RC C cs a Q X:=by
 have a0:=hA.nn;refine tN hA hl ha hc rfl (λh=>x ?_) λh=>?_
 ·rcases rest with _|⟨y,_|⟨z,_|⟨u,_|⟨v,r⟩⟩⟩⟩<;>first|rfl|skip
  simp only [ax] at h;push_cast at h;omega
 ·rcases rest with _|⟨y,_|⟨z,_|⟨u,_|⟨v,r⟩⟩⟩⟩<;>first|(simp only [ax,cw] at h;omega)|skip
  refine⟨bs,[256*y+z,256*u+v],Lw,by simp,hb,λR r'=>⟨kind,.non,f,b,4,cs,a,_,rfl,a0,by omega,.inr (.inr ⟨hk,.inl rfl,2,[y,z,u,v],At.take (ys:=[y,z,u,v]) (xs:=r) hA.tl,rfl,rfl,by decide,rfl⟩),r'⟩,E8 ?_⟩;rw[show a+1+4=a+5 by omega];exact q _ _ rfl
theorem Ra{bs:List Int}{g:Int->Int->Rw}(hA:At cs a (c::rest))(hl:(cs.length:Int)=a+1+rest.length)(ha:In a)(hc:gK c iX=aa (.tup [.str "set",.non,.int f,.int b,.int 4]))(Lw:bs.length<=2)
(hb:∀R:D->Prop,R (.tup (iD bs))->il [.int (c- f),.int b] R)(q:∀p p',zp g rest=aa (g p p')->Q (.tup [.tup ([.str "set"]++iD bs++iD [HC (65536*p+p')]),.non,.int (a+5)]))(x:zp g rest=ak->X (xp C a)):RC C cs a Q X:=by
 have a0:=hA.nn;refine tN hA hl ha hc rfl (λh=>x ?_) λh=>?_
 ·rcases rest with _|⟨y,_|⟨z,_|⟨u,_|⟨v,r⟩⟩⟩⟩<;>first|rfl|skip
  simp only [ax] at h;push_cast at h;omega
 ·rcases rest with _|⟨y,_|⟨z,_|⟨u,_|⟨v,r⟩⟩⟩⟩<;>first|(simp only [ax,cw] at h;omega)|skip
  refine⟨bs,_,Lw,?_,hb,λR r'=>⟨"set",.non,f,b,4,cs,a,_,rfl,a0,by omega,.inl ⟨rfl,y,z,u,v,r,hA.tl,rfl⟩,r'⟩,E8 ?_⟩
  ·simp
  rw[show a+1+4=a+5 by omega];exact q _ _ rfl
local macro_rules | `(tactic| walk_at "rr_tac") => `(tactic| (unfold j9; repeat (first | rw [if_pos (by omega)] | rw [if_neg (by omega)])))
theorem Nk(hA:At cs a (c::rest))(hl:(cs.length:Int)=a+1+rest.length)(ha:In a)(hx:0<=c/\c<256)(q:∀r,j9 a c rest=aa r->Q (XN a r))(x:j9 a c rest=ak->X (xp C a)):RC C cs a Q X:=by
 rcases bA c 16 with h16|h16
 ·exact qN hA ha (by walk_at "cf_tac") (x (by walk_at "rr_tac"))
 rcases bA c 20 with h20|h20
 ·exact Ra (bs:=[c- 16]) (g:=λp q=>.set (c- 16) (HC (65536*p+q))) hA hl ha (show gK c iX=aa (.tup [.str "set",.non,.int 16,.int 1,.int 4]) by walk_at "cf_tac") (by simp) u7 (λp p' e=>q _ (bV (by walk_at "rr_tac") e)) λe=>x (bV (by walk_at "rr_tac") e)
 rcases bA c 32 with h32|h32
 ·exact qN hA ha (by walk_at "cf_tac") (x (by walk_at "rr_tac"))
 rcases bA c 48 with h48|h48
 ·exact uy (bs:=[(c- 32)/4,(c- 32)%4]) hA hl ha (show gK c iX=aa (.tup [.str "add",.non,.int 32,.int 2,.int 0]) by walk_at "cf_tac") (by decide+kernel) (by simp) Gm (q (.add ((c- 32)/4) ((c- 32)%4)) (by walk_at "rr_tac"))
 rcases bA c 64 with h64|h64
 ·exact uy (bs:=[(c- 48)/4,(c- 48)%4]) hA hl ha (show gK c iX=aa (.tup [.str "take",.non,.int 48,.int 2,.int 0]) by walk_at "cf_tac") (by decide+kernel) (by simp) Gm (q (.take ((c- 48)/4) ((c- 48)%4)) (by walk_at "rr_tac"))
 rcases bA c 68 with h68|h68
 ·exact uy (bs:=[c- 64]) hA hl ha (show gK c iX=aa (.tup [.str "say",.non,.int 64,.int 1,.int 0]) by walk_at "cf_tac") (by decide+kernel) (by simp) u7 (q (.say (c- 64)) (by walk_at "rr_tac"))
 rcases bA c 72 with h72|h72
 ·exact uy (bs:=[c- 68]) hA hl ha (show gK c iX=aa (.tup [.str "ask",.non,.int 68,.int 1,.int 0]) by walk_at "cf_tac") (by decide+kernel) (by simp) u7 (q (.ask (c- 68)) (by walk_at "rr_tac"))
 rcases bA c 80 with h80|h80
 ·exact qN hA ha (by walk_at "cf_tac") (x (by walk_at "rr_tac"))
 rcases bA c 81 with h81|h81
 ·exact tO (bs:=[]) (g:=.jump ah) hA hl ha (show gK c iX=aa (.tup [.str "jump",.bl ah,.int 80,.int 0,.int 1]) by walk_at "cf_tac") (by decide+kernel) (by simp) zr (λp e=>q _ (bV (by walk_at "rr_tac") e)) λe=>x (bV (by walk_at "rr_tac") e)
 rcases bA c 82 with h82|h82
 ·exact xt (bs:=[]) (g:=.jump ai) hA hl ha (show gK c iX=aa (.tup [.str "jump",.bl ai,.int 81,.int 0,.int 2]) by walk_at "cf_tac") (by decide+kernel) (by simp) zr (λp e=>q _ (bV (by walk_at "rr_tac") e)) λe=>x (bV (by walk_at "rr_tac") e)
 rcases bA c 83 with h83|h83
 ·exact tO (bs:=[]) (g:=.call ah) hA hl ha (show gK c iX=aa (.tup [.str "call",.bl ah,.int 82,.int 0,.int 1]) by walk_at "cf_tac") (by decide+kernel) (by simp) zr (λp e=>q _ (bV (by walk_at "rr_tac") e)) λe=>x (bV (by walk_at "rr_tac") e)
 rcases bA c 84 with h84|h84
 ·exact xt (bs:=[]) (g:=.call ai) hA hl ha (show gK c iX=aa (.tup [.str "call",.bl ai,.int 83,.int 0,.int 2]) by walk_at "cf_tac") (by decide+kernel) (by simp) zr (λp e=>q _ (bV (by walk_at "rr_tac") e)) λe=>x (bV (by walk_at "rr_tac") e)
 rcases bA c 88 with h88|h88
 ·exact tO (bs:=[c- 84]) (g:=.jumpif ah (c- 84)) hA hl ha (show gK c iX=aa (.tup [.str "jumpif",.bl ah,.int 84,.int 1,.int 1]) by walk_at "cf_tac") (by decide+kernel) (by simp) u7 (λp e=>q _ (bV (by walk_at "rr_tac") e)) λe=>x (bV (by walk_at "rr_tac") e)
 rcases bA c 92 with h92|h92
 ·exact xt (bs:=[c- 88]) (g:=.jumpif ai (c- 88)) hA hl ha (show gK c iX=aa (.tup [.str "jumpif",.bl ai,.int 88,.int 1,.int 2]) by walk_at "cf_tac") (by decide+kernel) (by simp) u7 (λp e=>q _ (bV (by walk_at "rr_tac") e)) λe=>x (bV (by walk_at "rr_tac") e)
 rcases bA c 98 with h98|h98
 ·exact qN hA ha (by walk_at "cf_tac") (x (by walk_at "rr_tac"))
 rcases bA c 99 with h99|h99
 ·exact uy (bs:=[]) hA hl ha (show gK c iX=aa (.tup [.str "back",.non,.int 98,.int 0,.int 0]) by walk_at "cf_tac") (by decide+kernel) (by simp) zr (q (.back) (by walk_at "rr_tac"))
 rcases bA c 100 with XO|XO
 ·exact uy (bs:=[]) hA hl ha (show gK c iX=aa (.tup [.str "stop",.non,.int 99,.int 0,.int 0]) by walk_at "cf_tac") (by decide+kernel) (by simp) zr (q (.stop) (by walk_at "rr_tac"))
 rcases bA c 104 with XQ|XQ
 ·exact tO (bs:=[c- 100]) (g:=.jumpby ah (c- 100)) hA hl ha (show gK c iX=aa (.tup [.str "jumpby",.bl ah,.int 100,.int 1,.int 1]) by walk_at "cf_tac") (by decide+kernel) (by simp) u7 (λp e=>q _ (bV (by walk_at "rr_tac") e)) λe=>x (bV (by walk_at "rr_tac") e)
 rcases bA c 108 with XR|XR
 ·exact xt (bs:=[c- 104]) (g:=.jumpby ai (c- 104)) hA hl ha (show gK c iX=aa (.tup [.str "jumpby",.bl ai,.int 104,.int 1,.int 2]) by walk_at "cf_tac") (by decide+kernel) (by simp) u7 (λp e=>q _ (bV (by walk_at "rr_tac") e)) λe=>x (bV (by walk_at "rr_tac") e)
 rcases bA c 112 with XT|XT
 ·exact qN hA ha (by walk_at "cf_tac") (x (by walk_at "rr_tac"))
 rcases bA c 128 with XU|XU
 ·exact tO (bs:=[(c- 112)/4,(c- 112)%4]) (g:=.load ah ((c- 112)/4) ((c- 112)%4)) hA hl ha (show gK c iX=aa (.tup [.str "load",.bl ah,.int 112,.int 2,.int 1]) by walk_at "cf_tac") (by decide+kernel) (by simp) Gm (λp e=>q _ (bV (by walk_at "rr_tac") e)) λe=>x (bV (by walk_at "rr_tac") e)
 rcases bA c 144 with XV|XV
 ·exact xt (bs:=[(c- 128)/4,(c- 128)%4]) (g:=.load ai ((c- 128)/4) ((c- 128)%4)) hA hl ha (show gK c iX=aa (.tup [.str "load",.bl ai,.int 128,.int 2,.int 2]) by walk_at "cf_tac") (by decide+kernel) (by simp) Gm (λp e=>q _ (bV (by walk_at "rr_tac") e)) λe=>x (bV (by walk_at "rr_tac") e)
 rcases bA c 148 with XW|XW
 ·exact KG (bs:=[c- 144]) (g:=.alike (c- 144)) hA hl ha (show gK c iX=aa (.tup [.str "alike",.non,.int 144,.int 1,.int 4]) by walk_at "cf_tac") (by decide+kernel) (by simp) u7 (λp p' e=>q _ (bV (by walk_at "rr_tac") e)) λe=>x (bV (by walk_at "rr_tac") e)
 ·exact qN hA ha (by walk_at "cf_tac") (x (by walk_at "rr_tac"))
theorem KH(ha:In a){tl:XB}(h:¬(0<=a/\a<cs.length))(q:X (xp C a)):
  jw (xO (sN (gD (jN yW BS (dC (.int 0)) (gr 1) (iU mN (gp (gr 0) gw))))) (mw C ["place"] (gp (gr 1) gw)) (λ_=>gW)) tl (XX X) (EE Q) [aa (.lst (iD cs)),aa (.int a),ak,ak,ak,ak,ak,ak,ak,ak] []:=by
 by_cases h0:0<=a
 ·have e1:decide (0<=a)=ah:=decide_eq_true h0;have e2:decide (a<((iD cs).length:Int))=ai:=decide_eq_false (by rw[aR];omega);simp only [jw,xO,gN,iC,sN,tI,tJ,dC,nZ,mG,tL,e1,qL,if_true,iU,gp,gw,tM,AR,AS,vO,E6,e2,tK,Bool.not_true,Bool.not_false,cZ,if_false,gW];exact⟨rfl,AW ha,Lv,rfl,q⟩
 ·have e1:decide (0<=a)=ai:=decide_eq_false h0;simp only [jw,xO,gN,iC,sN,tI,tJ,dC,nZ,mG,tL,e1,qL,if_true,iU,gp,gw,tM,AR,AS,vO,E6,tK,Bool.not_true,Bool.not_false,cZ,if_false,gW];exact⟨rfl,AW ha,Lv,rfl,q⟩
theorem AY:∀ds Q X,nh C ds Q X->nP 10 2 (lK C (cl jv) (cl il) (cl i5)) ds Q X:=λds Q X ⟨cs,a,h1,hc,ha,q,x⟩=>by
 subst h1;unfold Bo at q x;by_cases h0:a<0
 ·rw[if_pos h0] at x;exact⟨rfl,KH ha (by omega) (x rfl)⟩
 ·rw[if_neg h0] at x;have q:∀r,(match cs.drop a.toNat with|c::r=>j9 a c r|[]=>ak)=aa r->Q (XN a r):=λr e=>q r (by rw[if_neg h0];exact e);have hl:=di (l:=cs) (i:=a.toNat);by_cases h1:a<cs.length
  ·have hd:=AV (cs:=cs) (a:=a) (by omega) (by omega);have hD:=hc.drop (n:=a.toNat);generalize cs.drop a.toNat=z at q x hl hd hD;cases z with
   |nil=>simp at hl;omega
   |cons c rest=>
    rw[ax] at hl;exact Nk hd (by omega) ha (hD c (by simp)) q x
  ·generalize cs.drop a.toNat=z at q x hl;cases z with
   |nil=>exact⟨rfl,KH ha (by omega) (x rfl)⟩
   |cons c rest=>rw[ax] at hl;omega
end
end mO
namespace FJ
open PySem PySem.Spec PyProof.Rows.KTD L2 L3
theorem Rb{a b:Int}{M:Ms}{Q:DK}(h:a=b)(q:Q (.bl ah) M):oh (.int a) (.int b) M Q:=by subst h;show Q (.bl (a==a)) M;rw[beq_self_eq_true];exact q
theorem KI{a b:Int}{M:Ms}{Q:DK}(h:a≠b)(q:Q (.bl ai) M):oh (.int a) (.int b) M Q:=by show Q (.bl (a==b)) M;rw[beq_eq_false_iff_ne.mpr h];exact q
abbrev Pt:=ar×List Rw
noncomputable def Rw.AZ:Rw->Bool
 |.mark _ _=>ah
 |_=>ai
noncomputable def KJ(rs:List Rw):Nat:=(rs.filter Rw.AZ).length
noncomputable def Rc(rs:List Rw):Nat:=rs.length- KJ rs
structure XY(p:Pt):Prop where
 w:Km p.1=ah
 lo:1<=Rc p.2
 hi:Rc p.2<=60
 len:p.2.length<=1000
structure XZ(ps:List Pt):Prop where
 lo:1<=ps.length
 hi:ps.length<=12
 all:∀p∈ps,XY p
 nd:(ps.map ek).Nodup
 rows:(ps.map λp=>(Rc p.2:Int)).sum<=200
 marks:(ps.map λp=>(KJ p.2:Int)).sum<=200
noncomputable def E9:List Rw->Option Rw
 |[]=>ak
 |r::rs=>if r.AZ then E9 rs else aa r
structure KOk(K:W.Frag)(c:CA):Prop where
 io:∀k:Kn,N9 K (c.at k)
 mark:∀k,W.kitOne K (.ref (c.at k)) (.ref c.Mark)=aa (match k with|.Mark=>ah|_=>ai)
 code:∀k,W.kitOne K (.ref (c.at k)) (.ref c.Code)=aa (match k with|.Mark|.oF|.Table=>ai|_=>ah)
 nums:∀k,W.kitOne K (.ref (c.at k)) (.ref c.oF)=aa (match k with|.oF=>ah|_=>ai)
 aai:∀k,W.kitOne K (.ref (c.at k)) (.ref c.Table)=aa (match k with|.Table=>ah|_=>ai)
 aaj:W.kitOne K (.type "NoneType") (.ref c.Code)=aa ai
section
end
noncomputable def Nl:Option Rw->Bool
 |some r=>r.code
 |none=>ai
noncomputable def KL:List Rw->Bool
 |[]=>ah
 |r::rs=>(!r.Xw||Nl (E9 rs))&&(!r.AZ||(E9 rs).isSome)&&KL rs
section
end
structure X0(ps:List Pt):Prop where
 pso:XZ ps
 rows:∀p∈ps,∀r∈p.2,r.ok=ah
 ends:∀p∈ps,KL p.2=ah
noncomputable def OG(ps:List Pt):List Pt:=Tx (ps.map ek) ps
abbrev Mk:=ar×Bool×ar×Nat
noncomputable def A0(n:ar):Nat->List Rw->List Mk
 |_,[]=>[]
 |k,.mark w b::rs=>(w,b,n,k)::A0 n k rs
 |k,_::rs=>A0 n (k+1) rs
section
end
noncomputable def tP(ps:List Pt):List Mk:=(OG ps).flatMap λp=>A0 p.1 0 p.2
structure X1(ps:List Pt):Prop where
 nd:(ps.map ek).Nodup
 l:ps.length<64
 len:∀p∈ps,p.2.length<=1000
 ml:(tP ps).length<=1000
noncomputable def Gn(ms:List Mk):List Mk:=ms.filter λm=>m.2.1
structure Uq(ms:List Mk):Prop where
 nd:((Gn ms).map ek).Nodup
 few:JY ((Gn ms).map ek)
 len:ms.length<=1000
noncomputable def u8{β:Type}(w:ar):List (ar×β)->Option β
 |[]=>ak
 | (x,v)::l=>if x=w then aa v else u8 w l
noncomputable def X2{β:Type}(w:ar)(v:β)(l:List (ar×β)):List (ar×β):=if(u8 w l).isSome=ah then l.map (λx=>if x.1=w then(x.1,v) else x) else l++[(w,v)]
noncomputable def kA{β:Type}(l:List (ar×β)):List Key:=l.map λx=>.inr x.1
noncomputable def vA{β:Type}(f:β->D)(l:List (ar×β)):List D:=l.map λx=>f x.2
abbrev Pl:=ar×Nat
noncomputable def xP(p:Pl):D:=.tup [.str p.1,.int p.2]
noncomputable def Rf(l:List (ar×Pl))(m:Mk):List (ar×Pl):=if(m.2.1||!(u8 m.1 l).isSome)=ah then X2 m.1 m.2.2 l else l
noncomputable def placesOf(ms:List Mk):List (ar×Pl):=ms.foldl Rf []
noncomputable def X3(l:List (ar×Pl)):D:=.kY (kA l) (vA xP l)
structure aak(ps:List Pt):Prop where
 mi:X1 ps
 tw:Uq (tP ps)
noncomputable def bare(rs:List Rw):List Rw:=rs.filter λr=>!r.AZ
section
end
abbrev Br:=List (ar×List Rw)
noncomputable def KN(ps:List Pt):Br:=(OG ps).map λp=>(p.1,bare p.2)
noncomputable def X4(c:CA)(rs:List Rw):D:=.lst (rs.map (Rw.ins c))
noncomputable def Ur(c:CA)(b:Br):D:=.kY (kA b) (vA (X4 c) b)
structure aal(ps:List Pt):Prop where
 nd:(ps.map ek).Nodup
 l:ps.length<64
 len:∀p∈ps,p.2.length<=1000
noncomputable def R3(b:Br)(p:Pl):Option Rw:=(u8 p.1 b).bind λrs=>rs[p.2]?
noncomputable def Rg(r a:Rw):Bool:=match r with
 |.alike _ _ _=>ah
 |.load _ _ _=>(match a with|.numbers _=>ah|_=>ai)
 |.jumpby _ _=>(match a with|.table _=>ah|_=>ai)
 |_=>a.code
section
end
noncomputable def Rw.Zi:Rw->List ar
 |.jump w|.jumpif _ w|.call w|.load _ _ w|.jumpby _ w=>[w]
 |.alike _ w v=>[w,v]
 |.table ws=>ws
 |_=>[]
noncomputable def Us(b:Br)(pl:List (ar×Pl))(r:Rw)(w:ar):Bool:=match u8 w pl with
 |none=>ai
 |some p=>match R3 b p with
  |none=>ai
  |some a=>Rg r a
noncomputable def Rh(b:Br)(pl:List (ar×Pl))(rs:List Rw):Bool:=rs.all λr=>r.Zi.all (Us b pl r)
structure aam(ps:List Pt):Prop where
 lk:X0 ps
 ml:(tP ps).length<=1000
 tw:Uq (tP ps)
 aan:∀p∈ps,∃rs,u8 p.1 (KN ps)=aa rs/\Rh (KN ps) (placesOf (tP ps)) rs=ah
section
end
noncomputable def fd(pl:List (ar×Pl))(w:ar):Pl:=(u8 w pl).getD ("",0)
noncomputable def Rw.bp(pl:List (ar×Pl)):Rw->D
 |.jump w=>.tup [.str "jump",xP (fd pl w)]|.jumpif b w=>.tup [.str "jumpif",.int b,xP (fd pl w)]|.call w=>.tup [.str "call",xP (fd pl w)]
 |.load b c w=>.tup [.str "load",.int b,.int c,xP (fd pl w)]|.jumpby b w=>.tup [.str "jumpby",.int b,xP (fd pl w)]|.alike b w v=>.tup [.str "alike",.int b,xP (fd pl w),xP (fd pl v)]
 |.table ws=>.tup [.str "table",.lst (ws.map λw=>xP (fd pl w))]
 |r=>r.d
def found(pl:List (ar×Pl))(r:Rw):Prop:=∀w∈r.Zi,(u8 w pl).isSome=ah
theorem nl1{d:D}(h:nl d=ah):nK [d]=ah:=by unfold nK;rw[h];rfl
theorem VA{d e:D}(h:nl d=ah)(h':nl e=ah):nK [d,e]=ah:=by unfold nK;rw[h,nl1 h'];rfl
noncomputable def VB(C:af)(c:CA)(b:Br)(pl:List (ar×Pl)):D:=.ins C ["bare","places"] [Ur c b,X3 pl]
structure NOk(K:W.Frag)(C:af):Prop where
 bare:mo K C "bare"
 places:mo K C "places"
def n6 (C:af)(c:CA):GP:=λds Q=>∃(b:Br) (pl:List (ar×Pl)) (p:Pl) (r:Rw),ds=[VB C c b pl,xP p]/\R3 b p=aa r/\r.ok=ah/\found pl r/\Q (.tup [r.bp pl,xP (p.1,p.2+1)])
def A1 (C:af)(c:CA):GP:=λds Q=>∃(b:Br) (pl:List (ar×Pl)) (p:Pl) (ns:List Int),ds=[VB C c b pl,xP p]/\R3 b p=aa (.numbers ns)/\Q (.lst (ns.map .int))
def Fa (C:af)(c:CA):GP:=λds Q=>∃(b:Br) (pl:List (ar×Pl)) (p:Pl) (ws:List ar),ds=[VB C c b pl,xP p]/\R3 b p=aa (.table ws)/\(Rw.table ws).ok=ah/\found pl (.table ws)/\Q (.lst (ws.map λw=>xP (fd pl w)))
structure RS where
 used:Nat
 bx:List Int
 kept:List Pl
 nF:List Int
noncomputable def gb(s:RS)(b:Int):Int:=s.bx.getD b.toNat 0
noncomputable def sb(s:RS)(b v:Int):RS:={s with bx:=s.bx.set b.toNat v}
abbrev Zj:=RS×Pl×Option ar
noncomputable def KO(aim DP:Pl)(s:RS):Zj:=if s.kept.length=40 then(s,DP,aa "deep") else({s with kept:=s.kept++[DP]},aim,ak)
noncomputable def KP(DP:Pl)(s:RS):Zj:=match s.kept.getLast? with
 |none=>(s,DP,aa "empty")
 |some p=>({s with kept:=s.kept.dropLast},p,ak)
noncomputable def Ut(ins:List Int)(b:Int)(s:RS):RS×Option ar:=if s.used=ins.length then(s,aa "ask") else({sb s b (ins.getD s.used 0) with used:=s.used+1},ak)
noncomputable def OH(b n:Int)(ns:List Int)(s:RS):RS×Option ar:=if 0<=n/\n<ns.length then(sb s b (ns.getD n.toNat 0),ak) else(s,aa "place")
noncomputable def xu:List ar:=["store","inputs","used","boxes","kept","answers","end"]
noncomputable def eD:Option ar->D
 |none=>.non
 |some x=>.str x
structure RC where
 (CR CN:af) (c:CA) (b:Br) (pl:List (ar×Pl)) (ins:List Int)
noncomputable def RC.sd(k:RC):D:=VB k.CN k.c k.b k.pl
noncomputable def RC.id(k:RC):D:=.lst (k.ins.map .int)
noncomputable def rM(k:RC)(s:RS)(e:Option ar):Ms:=[aa (.ins k.CR xu [k.sd,k.id,.int s.used,.loc 1,.loc 2,.loc 3,eD e]),aa (.lst (s.bx.map .int)),aa (.lst (s.kept.map xP)),aa (.lst (s.nF.map .int))]
structure yv(K:W.Frag)(C:af):Prop where
 f:∀x∈xu,mo K C x
theorem yv.store{K:W.Frag}{C:af}(h:yv K C):mo K C "store":=h.f _ (by simp[xu])
theorem yv.inputs{K:W.Frag}{C:af}(h:yv K C):mo K C "inputs":=h.f _ (by simp[xu])
theorem yv.used{K:W.Frag}{C:af}(h:yv K C):mo K C "used":=h.f _ (by simp[xu])
theorem yv.boxes{K:W.Frag}{C:af}(h:yv K C):mo K C "boxes":=h.f _ (by simp[xu])
theorem yv.kept{K:W.Frag}{C:af}(h:yv K C):mo K C "kept":=h.f _ (by simp[xu])
theorem yv.answers{K:W.Frag}{C:af}(h:yv K C):mo K C "answers":=h.f _ (by simp[xu])
theorem yv.end_{K:W.Frag}{C:af}(h:yv K C):mo K C "end":=h.f _ (by simp[xu])
structure VC(k:RC)(s:RS):Prop where
 b4:s.bx.length=4
 us:s.used<=k.ins.length
 kp:s.kept.length<=40
 an:s.nF.length<=1000000
def HG (k:RC):GN:=λds M Q=>∃(s:RS) (a b:Pl),VC k s/\ds=[.loc 0,xP a,xP b]/\M=rM k s ak/\Q (xP (KO a b s).2.1) (rM k (KO a b s).1 (KO a b s).2.2)
def HH (k:RC):GN:=λds M Q=>∃(s:RS) (b:Pl),VC k s/\ds=[.loc 0,xP b]/\M=rM k s ak/\Q (xP (KP b s).2.1) (rM k (KP b s).1 (KP b s).2.2)
theorem Nm{β:Type}{l:List β}{n:Int}{d:β}(h1:0<=n)(h2:n<l.length):sF l n=aa (l.getD n.toNat d):=by obtain⟨m,rfl⟩:∃m:Nat,n=m:=⟨n.toNat,by omega⟩;refine QJ ?_;rw[dO,dI,List.getElem?_eq_getElem (by omega)];rfl
theorem HI{β γ:Type}{f:β->γ}{l:List β}{n:Nat}{d:β}:(l.map f).getD n (f d)=f (l.getD n d):=by rw[dI,dI,bQ];cases l[n]?<;>rfl
section
end
theorem Gp{b:Int}(h:pA b=ah):∃n:Nat,n<4/\b=n:=by unfold pA at h;rw[aP] at h;have h1:=of_decide_eq_true h.1;have h2:=of_decide_eq_true h.2;exact⟨b.toNat,by omega,by omega⟩
theorem Ri{s:RS}(h:s.bx.length=4){b:Int}(hb:pA b=ah):sF (s.bx.map D.int) b=aa (.int (gb s b)):=by obtain⟨n,h1,rfl⟩:=Gp hb;rw[Nm (d:=D.int 0) (by omega) (by rw[aR];omega),HI];rfl
theorem Rj{s:RS}(h:s.bx.length=4){b:Int}(hb:pA b=ah):BH (s.bx.map D.int).length b=aa b.toNat:=by obtain⟨n,h1,rfl⟩:=Gp hb;unfold BH;rw[if_pos (by omega),if_pos (by rw[aR];omega)]
theorem Nn{l:List Int}{n:Nat}{v:Int}:(l.map D.int).set n (.int v)=(l.set n v).map D.int:=(List.map_set).symm
def KQ (k:RC):GN:=λds M Q=>∃(s:RS) (b:Int),VC k s/\pA b=ah/\ds=[.loc 0,.int b]/\M=rM k s ak/\Q .non (rM k (Ut k.ins b s).1 (Ut k.ins b s).2)
def HJ (k:RC):GN:=λds M Q=>∃(s:RS) (b n:Int) (ns:List Int),VC k s/\pA b=ah/\ds=[.loc 0,.int b,.int n,.lst (ns.map .int)]/\M=rM k s ak/\Q .non (rM k (OH b n ns s).1 (OH b n ns s).2)
section
end
def Pk (CR CN:af)(c:CA)(P:RC->GN):GN:=λds M Q=>∃k:RC,k.CR=CR/\k.CN=CN/\k.c=c/\P k ds M Q
structure aao(k:RC)(r:Rw):Prop where
 code:r.code=ah
 ok:r.ok=ah
 fnd:found k.pl r
 ld:∀x y w,r=.load x y w->∃ns,R3 k.b (fd k.pl w)=aa (.numbers ns)
 jb:∀x w,r=.jumpby x w->∃ws,R3 k.b (fd k.pl w)=aa (.table ws)/\(Rw.table ws).ok=ah/\found k.pl (.table ws)
 al:∀x w v,r=.alike x w v->L3.pl (xP (fd k.pl w))=ah/\L3.pl (xP (fd k.pl v))=ah
def lC (CR CN:af)(c:CA):lZ:=λC m g=>C=CR/\g=Pk CR CN c KQ
def lf (CR CN:af)(c:CA):lZ:=λC m g=>C=CR/\g=Pk CR CN c HJ
def jy (CN:af)(c:CA):lZ:=λC m g=>C=CN/\g=cl (A1 CN c)
def lc (CR CN:af)(c:CA):lZ:=λC m g=>C=CR/\g=Pk CR CN c HG
def ko (CR CN:af)(c:CA):lZ:=λC m g=>C=CR/\g=Pk CR CN c HH
def kg (CN:af)(c:CA):lZ:=λC m g=>C=CN/\g=cl (Fa CN c)
noncomputable def rs0:RS:=⟨0,[0,0,0,0],[],[]⟩
def tQ (k:RC):GN:=λds M Q=>ds=[.loc 0,k.sd,k.id]/\M=[aa (.ins k.CR [] [])]/\Q .non (rM k rs0 ak)
end FJ
namespace mO
open PySem PySem.Spec L2 L3 FJ
noncomputable def zt(C:af)(cs:List Int)(b:Int):D:=.ins C ["own_cells","own_base"] [.lst (iD cs),.int b]
theorem Rl{C:af}{cs:List Int}{b:Int}:nl (zt C cs b)=ah:=nA cs b
structure VD(K:W.Frag)(C:af):Prop where
 cells:mo K C "own_cells"
 bs:mo K C "own_base"
def vP (C:af):GN:=λds M Q=>∃M1 cs b,ds=[.loc M1.length,.lst (iD cs),.int b]/\M=M1++[aa (.ins C [] [])]/\Q .non (M1++[aa (.ins C ["own_cells","own_base"] [.lst (iD cs),.int b])])
theorem A2{C:af}:lV (vP C):=by
 rintro ds M P Q w ⟨M1,b,pl,h1,h2,q⟩
 exact⟨M1,b,pl,h1,h2,w _ _ q⟩
theorem KR{K:W.Frag}{C:af}(f:VD K C):∀ds M Q,vP C ds M Q->BQ 3 3 (mE K) ds M Q:=by
 rintro ds M Q ⟨M1,b,pl,h1,h2,q⟩
 subst h1 h2;refine⟨rfl,?_⟩;refine⟨C,_,_,qD,f.cells,by decide,?_⟩;rw[Gb];refine⟨C,_,_,qD,f.bs,am rfl,?_⟩;rw[Gb];exact q
structure RA where
 (c n t N:af)
def VR (a:RA)(f:af)(g:t6):Prop:=(f=a.c/\g=nh a.N)\/(f=a.n/\g=kP a.N)\/(f=a.t/\g=l7 a.N)
abbrev Lx(p:Int):Prop:=-100000<=p/\p<=100000
def Np (a:RA)(C:af):Gc:=λds M Q Ex=>∃cs b f g p,ds=[zt C cs b,.cls f,.int p]/\VR a f g/\Lx p/\g [.lst (iD cs),.int (p- b)] (λd=>Q d M) λe=>e.C=a.N/\Ex (xp a.N p) M
theorem VR.mono{a:RA}{f:af}{g:t6}(h:VR a f g):nO g:=by
 rcases h with⟨_,rfl⟩|⟨_,rfl⟩|⟨_,rfl⟩
 ·exact lj
 ·exact j1
 ·exact kQ
theorem HK{a:RA}{C:af}:wR (Np a C):=by
 rintro ds M P Q x y w v ⟨cs,b,f,g,p,h1,h2,h3,q⟩
 exact⟨cs,b,f,g,p,h1,h2,h3,h2.mono _ _ _ _ _ (λd q=>w _ _ q) (λe q=>⟨q.1,v _ _ q.2⟩) q⟩
theorem Uu{K:W.Frag}{a:RA}{C:af}(f:VD K C)(hs:vk K a.N a.N):∀ds M Q Ex,Np a C ds M Q Ex->sW 3 3 (kz K a.N (VR a)) ds M Q Ex:=by
 rintro ds M Q Ex ⟨cs,b,f',g,p,h1,h2,h3,q⟩
 subst h1;refine⟨rfl,f',g,rfl,h2,?_⟩;refine⟨_,_,_,_,rfl,f.cells,rfl,?_⟩;refine⟨_,_,_,_,rfl,f.bs,rfl,?_⟩;refine⟨nA _ _,h2.mono _ _ _ _ _ (λd q=>q) (λe q=>⟨by rw[q.1];exact hs,?_⟩) q⟩;refine⟨rfl,?_,Lv,q.2⟩;show(Ck (.int p)&&ah)=ah;rw[Gg h3];rfl
def n6 (a:RA)(C:af):Gc:=λds M Q Ex=>∃cs b p,ds=[zt C cs b,.int p]/\Cs cs/\In (p- b)/\Lx p/\(∀r,Bo cs (p- b)=aa r->r.near≠.bl ah/\Q (.tup [r.d,.int (p- b+r.len+b)]) M)/\(Bo cs (p- b)=ak->Ex (xp a.N p) M)
theorem xv{a:RA}{C:af}:wR (n6 a C):=by
 rintro ds M P Q x y w v ⟨cs,b,p,h1,h2,h3,h4,q1,q2⟩
 exact⟨cs,b,p,h1,h2,h3,h4,λr e=>⟨(q1 r e).1,w _ _ (q1 r e).2⟩,λe=>v _ _ (q2 e)⟩
def Nq (a:RA)(C:af):lJ:=λC' m g=>C'=C/\g=Np a C
theorem Fb(r:Rw):r.near=.non\/∃s,r.near=.bl s:=by cases r<;>first|exact .inl rfl|exact .inr ⟨_,rfl⟩
theorem Fd{K:W.Frag}{a:RA}{C:af}(f:VD K C):∀ds M Q Ex,n6 a C ds M Q Ex->sW 5 2 (k7 K (Nq a C) a.c) ds M Q Ex:=by
 rintro ds M Q Ex ⟨cs,b,p,h1,h2,h3,h4,q1,q2⟩
 subst h1;refine⟨rfl,C,_,_,_,rfl,rfl,⟨rfl,rfl⟩,cs,b,a.c,_,p,rfl,.inl ⟨rfl,rfl⟩,h4,cs,p- b,rfl,h2,h3,λr e=>?_,λe=>⟨rfl,q2 e⟩⟩;obtain⟨hn,q⟩:=q1 r e;refine⟨rfl,?_⟩;have HV:r.near=.non\/r.near=.bl ai:=by
  rcases Fb r with e|⟨s,e⟩
  ·exact .inl e
  ·cases s
   ·exact .inr e
   ·exact absurd e hn
 generalize r.near=z at HV ⊢;rcases HV with rfl|rfl
 ·exact⟨rfl,_,_,_,_,rfl,f.bs,rfl,am rfl,q⟩
 ·exact⟨rfl,_,_,_,_,rfl,f.bs,rfl,am rfl,q⟩
def sh (a:RA)(C:af)(j:Int):Gc:=λds M Q Ex=>∃cs b p,ds=[zt C cs b,.int p]/\Cs cs/\In (p- b)/\Lx p/\lsN j cs (p- b)=ak/\Ex (xp a.N p) M
theorem u9{a:RA}{C:af}{j:Int}:wR (sh a C j):=by
 rintro ds M P Q x y w v ⟨cs,b,p,h1,h2,h3,h4,h5,q⟩
 exact⟨cs,b,p,h1,h2,h3,h4,h5,v _ _ q⟩
theorem yw{a:RA}{C:af}:∀ds M Q Ex,sh a C 4 ds M Q Ex->sW 2 2 (j8 (Nq a C) a.n) ds M Q Ex:=by
 rintro ds M Q Ex ⟨cs,b,p,h1,h2,h3,h4,h5,q⟩
 subst h1;refine⟨rfl,C,_,_,_,rfl,rfl,⟨rfl,rfl⟩,cs,b,a.n,_,p,rfl,.inr (.inl ⟨rfl,rfl⟩),h4,cs,p- b,rfl,h2,h3,?_⟩;rw[h5];exact⟨rfl,q⟩
theorem Df{a:RA}{C:af}:∀ds M Q Ex,sh a C 2 ds M Q Ex->sW 2 2 (kN (Nq a C) a.t) ds M Q Ex:=by
 rintro ds M Q Ex ⟨cs,b,p,h1,h2,h3,h4,h5,q⟩
 subst h1;refine⟨rfl,C,_,_,_,rfl,rfl,⟨rfl,rfl⟩,cs,b,a.t,_,p,rfl,.inr (.inr ⟨rfl,rfl⟩),h4,cs,p- b,rfl,h2,h3,?_⟩;rw[h5];exact⟨rfl,q⟩
local macro_rules | `(tactic| walk_at "wk1") => `(tactic| ((conv => whnf); first | refine ⟨_, rfl, ?_⟩ | refine ⟨rfl, ?_⟩ | refine ⟨am rfl, ?_⟩))
local macro_rules | `(tactic| walk_at "wk") => `(tactic| ((repeat walk_at "wk1"); try (conv => whnf)))
structure MS where
 (bx kept nF:List Int)
noncomputable def sM(CR:af)(sd:D)(s:MS):Ms:=[aa (.ins CR xu [sd,.lst [],.int 0,.loc 1,.loc 2,.loc 3,.non]),aa (.lst (iD s.bx)),aa (.lst (iD s.kept)),aa (.lst (iD s.nF))]
structure Ie(s:MS):Prop where
 b4:s.bx.length=4
 kp:s.kept.length<40
 an:s.nF.length<1000
abbrev Dg(s:MS)(b:Int):Int:=s.bx.getD b.toNat 0
theorem KS{s:MS}(h:Ie s){b:Int}(hb:pA b=ah):sF (iD s.bx) b=aa (.int (Dg s b)):=Ri (s:=⟨0,s.bx,[],[]⟩) h.b4 hb
theorem Uv{s:MS}(h:Ie s){b:Int}(hb:pA b=ah):BH (iD s.bx).length b=aa b.toNat:=Rj (s:=⟨0,s.bx,[],[]⟩) h.b4 hb
def tQ (CR:af):GN:=λds M Q=>∃sd,ds=[.loc 0,sd,.lst []]/\M=[aa (.ins CR [] [])]/\Q .non (sM CR sd ⟨[0,0,0,0],[],[]⟩)
theorem A3{CR:af}:lV (tQ CR):=by
 rintro ds M P Q w ⟨sd,h1,h2,q⟩
 exact⟨sd,h1,h2,w _ _ q⟩
def A4 (CR:af):GN:=λds M Q=>∃sd s p DP,ds=[.loc 0,.int p,.int DP]/\Ie s/\M=sM CR sd s/\Q (.int p) (sM CR sd {s with kept:=s.kept++[DP]})
theorem Dh{CR:af}:lV (A4 CR):=by
 rintro ds M P Q w ⟨sd,s,p,b,h1,h2,h3,q⟩
 exact⟨sd,s,p,b,h1,h2,h3,w _ _ q⟩
theorem Nr{K:W.Frag}{CR:af}(f:yv K CR):∀ds M Q,A4 CR ds M Q->BQ 3 3 (qY K) ds M Q:=by
 rintro ds M Q ⟨sd,s,p,b,h1,h0,h2,q⟩
 subst h1 h2;refine⟨rfl,_,_,_,_,rfl,f.kept,rfl,_,rfl,?_⟩;dsimp only [dC];have:=h0.kp;refine KI (by rw[aR];omega) ?_;refine⟨_,_,_,_,rfl,f.kept,rfl,rfl,_,rfl,?_,?_⟩
 ·rw[aR];exact aB this (by decide)
 ·show Q (.int p) [aa _,aa _,aa (.lst (iD s.kept++[.int b])),aa _];rw[show iD s.kept++[.int b]=iD (s.kept++[b]) by unfold iD;rw[ed];rfl];exact q
def VE:lZ:=λ_ _ _=>False
def VF:Gc:=λ_ _ _ _=>False
def xw (C:af)(g:Gc):lJ:=λC' m g'=>C'=C/\g'=g
def Rm (CR:af):lZ:=λC m g=>C=CR/\g=A4 CR
def Nt (a:RA)(CR CP:af):Gc:=λds M Q Ex=>∃cs b s r,ds=[.loc 0,Rw.d r]/\Ie s/\M=sM CR (zt CP cs b) s/\(match r with
 |.set x n=>pA x=ah/\Q .non (sM CR (zt CP cs b) {s with bx:=s.bx.set x.toNat n})
 |.say x=>pA x=ah/\Q .non (sM CR (zt CP cs b) {s with nF:=s.nF++[Dg s x]})
 |.load _ x y p=>pA x=ah/\pA y=ah/\Cs cs/\In (p- b)/\Lx p/\lsN 4 cs (p- b)=ak/\Ex (xp a.N p) (sM CR (zt CP cs b) s)
 |_=>False)
theorem HL{a:RA}{CR CP:af}:wR (Nt a CR CP):=by
 rintro ds M P Q x y w v ⟨cs,b,s,r,h1,h2,h3,q⟩
 refine⟨cs,b,s,r,h1,h2,h3,?_⟩;cases r<;>first|exact q.elim|exact⟨q.1,w _ _ q.2⟩|exact⟨q.1,q.2.1,q.2.2.1,q.2.2.2.1,q.2.2.2.2.1,q.2.2.2.2.2.1,v _ _ q.2.2.2.2.2.2⟩
theorem Uw{K:W.Frag}{a:RA}{CR CP:af}(f:yv K CR):∀ds M Q Ex,Nt a CR CP ds M Q Ex->sW 4 2 (kH K VE (xw CR VF) (xw CP (sh a CP 4))) ds M Q Ex:=by
 rintro ds M Q Ex ⟨cs,b,s,r,h1,h2,h3,q⟩
 subst h1 h3;cases r<;>first|(exact q.elim;done)|skip
 case set x n=>
  refine⟨rfl,?_⟩;walk_at "wk";refine⟨_,_,_,_,rfl,f.boxes,rfl,_,Uv h2 q.1,?_⟩;show Q .non [aa _,aa (.lst ((iD s.bx).set x.toNat (.int n))),aa _,aa _];rw[show(iD s.bx).set x.toNat (.int n)=iD (s.bx.set x.toNat n) from Nn];exact q.2
 case say x=>
  refine⟨rfl,?_⟩;walk_at "wk";refine⟨_,_,_,_,rfl,f.answers,rfl,rfl,?_⟩;refine⟨_,_,_,_,rfl,f.boxes,rfl,_,KS h2 q.1,?_⟩;refine⟨_,rfl,?_,?_⟩
  ·rw[aR];exact aB h2.an (by decide)
  ·show Q .non [aa _,aa _,aa _,aa (.lst (iD s.nF++[.int (Dg s x)]))];rw[show iD s.nF++[.int (Dg s x)]=iD (s.nF++[Dg s x]) by unfold iD;rw[ed];rfl];exact q.2
 case load t x y p=>
  obtain⟨q1,q2,q3,q4,q5,q6,q⟩:=q;refine⟨rfl,?_⟩;walk_at "wk";refine⟨_,_,_,_,rfl,rfl,⟨rfl,rfl⟩,?_⟩;refine⟨_,_,_,_,rfl,f.boxes,rfl,_,rfl,_,KS h2 q2,?_⟩;refine⟨_,_,_,_,rfl,f.store,rfl,?_⟩;refine⟨_,_,_,_,rfl,rfl,⟨rfl,rfl⟩,_,rfl,?_⟩;exact⟨cs,b,p,rfl,q3,q4,q5,q6,q⟩
def Gq (a:RA)(CR CP:af):Gc:=λds M Q Ex=>∃cs b s r DP,ds=[.loc 0,Rw.d r,.int DP]/\Ie s/\M=sM CR (zt CP cs b) s/\(match r with
 |.set x n=>pA x=ah/\Q (.int DP) (sM CR (zt CP cs b) {s with bx:=s.bx.set x.toNat n})
 |.say x=>pA x=ah/\Q (.int DP) (sM CR (zt CP cs b) {s with nF:=s.nF++[Dg s x]})
 |.load _ x y p=>pA x=ah/\pA y=ah/\Cs cs/\In (p- b)/\Lx p/\lsN 4 cs (p- b)=ak/\Ex (xp a.N p) (sM CR (zt CP cs b) s)
 |.jumpby _ x p=>pA x=ah/\Cs cs/\In (p- b)/\Lx p/\lsN 2 cs (p- b)=ak/\Ex (xp a.N p) (sM CR (zt CP cs b) s)
 |.jump _ p=>Q (.int p) (sM CR (zt CP cs b) s)
 |.call _ p=>Q (.int p) (sM CR (zt CP cs b) {s with kept:=s.kept++[DP]})
 |_=>False)
theorem Fe{a:RA}{CR CP:af}:wR (Gq a CR CP):=by
 rintro ds M P Q x y w v ⟨cs,b,s,r,DP,h1,h2,h3,q⟩
 refine⟨cs,b,s,r,DP,h1,h2,h3,?_⟩;cases r;case load=>exact⟨q.1,q.2.1,q.2.2.1,q.2.2.2.1,q.2.2.2.2.1,q.2.2.2.2.2.1,v _ _ q.2.2.2.2.2.2⟩
 case jumpby=>exact⟨q.1,q.2.1,q.2.2.1,q.2.2.2.1,q.2.2.2.2.1,v _ _ q.2.2.2.2.2⟩
 case jump=>exact w _ _ q
 case call=>exact w _ _ q
 case set=>exact⟨q.1,w _ _ q.2⟩
 case say=>exact⟨q.1,w _ _ q.2⟩
 all_goals exact q.elim
theorem Rn{K:W.Frag}{a:RA}{CR CP:af}(f:yv K CR):∀ds M Q Ex,Gq a CR CP ds M Q Ex->sW 4 3 (oG K (Rm CR) VE (xw CR VF) (xw CP (sh a CP 2)) (xw CR (Nt a CR CP))) ds M Q Ex:=by
 rintro ds M Q Ex ⟨cs,b,s,r,DP,h1,h2,h3,q⟩
 subst h1 h3;cases r<;>first|(exact q.elim;done)|skip
 case jump t p=>
  refine⟨rfl,?_⟩;walk_at "wk";exact q
 case call t p=>
  refine⟨rfl,?_⟩;walk_at "wk";exact⟨_,_,_,_,rfl,rfl,⟨rfl,rfl⟩,_,rfl,_,s,p,DP,rfl,h2,rfl,q⟩
 case jumpby t x p=>
  obtain⟨q1,q3,q4,q5,q6,q⟩:=q;refine⟨rfl,?_⟩;walk_at "wk";refine⟨_,_,_,_,rfl,rfl,⟨rfl,rfl⟩,?_⟩;refine⟨_,_,_,_,rfl,f.boxes,rfl,_,rfl,_,KS h2 q1,?_⟩;refine⟨_,_,_,_,rfl,f.store,rfl,?_⟩;refine⟨_,_,_,_,rfl,rfl,⟨rfl,rfl⟩,_,rfl,?_⟩;exact⟨cs,b,p,rfl,q3,q4,q5,q6,q⟩
 all_goals
  refine⟨rfl,?_⟩;walk_at "wk";exact⟨_,_,_,_,rfl,rfl,⟨rfl,rfl⟩,cs,b,s,_,rfl,h2,rfl,q⟩
theorem KU{K:W.Frag}{CR:af}(f:yv K CR):∀ds M Q,tQ CR ds M Q->BQ 3 3 (wO K) ds M Q:=by
 rintro ds M Q ⟨sd,h1,h2,q⟩
 subst h1 h2;refine⟨rfl,?_⟩;refine⟨_,_,_,rfl,f.store,am rfl,?_⟩;refine⟨_,_,_,rfl,f.inputs,am rfl,?_⟩;refine⟨_,_,_,rfl,f.used,am rfl,?_⟩;refine⟨am rfl,_,_,_,rfl,f.boxes,am rfl,?_⟩;refine⟨am rfl,_,_,_,rfl,f.kept,am rfl,?_⟩;refine⟨am rfl,_,_,_,rfl,f.answers,am rfl,?_⟩;refine⟨_,_,_,rfl,f.end_,am rfl,?_⟩;exact q
abbrev Oc:=List Int⊕Int
structure Hr(cs:List Int)(b p:Int)(s:MS):Prop where
 i:In (p- b)
 p:Lx p
 s:Ie s
inductive Ev(cs:List Int)(b:Int):Nat->Int->MS->Oc->Prop
 |done {p:Int} {s:MS}:Ev cs b 0 p s (.inl s.nF)
 |bad {n:Nat} {p:Int} {s:MS}:Hr cs b p s->Bo cs (p- b)=ak->Ev cs b (n+1) p s (.inr p)
 |set {n:Nat} {p x k:Int} {s:MS} {o:Oc}:Hr cs b p s->Bo cs (p- b)=aa (.set x k)->pA x=ah->Ev cs b n (p+5) {s with bx:=s.bx.set x.toNat k} o->Ev cs b (n+1) p s o
 |say {n:Nat} {p x:Int} {s:MS} {o:Oc}:Hr cs b p s->Bo cs (p- b)=aa (.say x)->pA x=ah->Ev cs b n (p+1) {s with nF:=s.nF++[Dg s x]} o->Ev cs b (n+1) p s o
 |jump {n:Nat} {p q:Int} {s:MS} {o:Oc}:Hr cs b p s->Bo cs (p- b)=aa (.jump ai q)->Ev cs b n q s o->Ev cs b (n+1) p s o
 |call {n:Nat} {p q:Int} {s:MS} {o:Oc}:Hr cs b p s->Bo cs (p- b)=aa (.call ai q)->Ev cs b n q {s with kept:=s.kept++[p+3]} o->Ev cs b (n+1) p s o
 |X5 {n:Nat} {p x q:Int} {s:MS}:Hr cs b p s->Bo cs (p- b)=aa (.jumpby ai x q)->pA x=ah->In (q- b)->Lx q->lsN 2 cs (q- b)=ak->Ev cs b (n+1) p s (.inr q)
 |load {n:Nat} {p x y q:Int} {s:MS}:Hr cs b p s->Bo cs (p- b)=aa (.load ai x y q)->pA x=ah->pA y=ah->In (q- b)->Lx q->lsN 4 cs (q- b)=ak->Ev cs b (n+1) p s (.inr q)
def Ux (N:af)(Q:D->Prop)(X:EX->Prop):Oc->Prop
 |.inl nF=>Q (.tup [.lst (iD nF),.str "steps"])
 |.inr p=>X (xp N p)
def A5 (a:RA)(CP:af):t6:=λds Q X=>∃cs b p n o,ds=[zt CP cs b,.int p,.lst [],.int (n:Nat)]/\Cs cs/\n<=1000/\Ev cs b n p ⟨[0,0,0,0],[],[]⟩ o/\Ux a.N Q X o
theorem Di{N:af}{P Q:D->Prop}{x y:EX->Prop}(w:∀d,P d->Q d)(v:∀e,x e->y e):∀o,Ux N P x o->Ux N Q y o
 |.inl _,q=>w _ q
 |.inr _,q=>v _ q
theorem Dj{a:RA}{CP:af}:nO (A5 a CP):=by
 rintro ds P Q x y w v ⟨cs,b,p,n,o,h1,h2,h3,h4,q⟩
 exact⟨cs,b,p,n,o,h1,h2,h3,h4,Di w v o q⟩
abbrev Zk(a:RA)(CP:af):lJ:=xw CP (n6 a CP)
abbrev Zl(a:RA)(CR CP:af):lJ:=xw CR (Gq a CR CP)
def Uy (K:W.Frag)(a:RA)(CR CP:af):XB:=jw (MQ (lh (Zk a CP) "code_at" (gr 0) (λ_=>(gp (gr 1) gw))) (pQ 2 (iO (gR 6) (iO (gR 7) qX))))
 (jw (Ke 1 (lh (Zl a CR CP) "do_row" (gr 4) (λ_=>(gp (gr 6) (gp (gr 7) gw)))))
 (λ_=>(iC (gD (gB Ab (i8 K "end" (gr 4)) (dC .non))) (ip (iN (gp (i8 K "answers" (gr 4)) (gp (i8 K "end" (gr 4)) gw)))) gW)))
abbrev ENX(K:W.Frag)(E:iE):iE:=⟨λδ M=>ip (iN (gp (i8 K "answers" (gr 4)) (gp (dC (.str "steps")) gw))) E δ M,E.rt,E.bk,E.ct⟩
theorem A6{r:Rw}{p b:Int}{l:Int}(h:r.len=l):p- b+r.len+b=p+l:=by rw[h];omega
section
variable {K:W.Frag} {a:RA} {CR CP:af} (f:yv K CR) {cs:List Int} {b:Int} (hc:Cs cs) {X:EX->Prop} {E:iE} {N0:D} {st:Ms->Prop} (l8:∀M,st M)
include f hc l8 in
theorem HM {Q:D->Prop} (hE:∀s:MS,Q (.tup [.lst (iD s.nF),.str "steps"])->E.rt (.tup [.loc 3,.str "steps"]) (sM CR (zt CP cs b) s)) {o:Oc} (hq:Ux a.N Q X o):∀(n:Nat) (p:Int) (s:MS),Ev cs b n p s o->∀(xs:List D) (o5 o6 o7:Option D),xs.length=n->
  lB (gR 5) (Uy K a CR CP (λe _ _=>nK e.ds=ah/\X e)) st (ENX K E) xs [aa (zt CP cs b),aa (.int p),aa (.lst []),aa N0,aa (.loc 0),o5,o6,o7] (sM CR (zt CP cs b) s):=by
 intro n p s ev;induction ev with
 |done=>
  intro xs o5 o6 o7 hl;obtain rfl:xs=[]:=cB.mp hl;refine⟨_,_,_,_,rfl,f.answers,rfl,am rfl,?_⟩;exact hE _ hq
 |@bad n p s h e=>
  intro xs o5 o6 o7 hl;obtain⟨y,xs,rfl⟩:∃y ys,xs=y::ys:=by cases xs with|nil=>cases hl|cons y ys=>exact⟨y,ys,rfl⟩
  refine⟨_,_,_,_,rfl,rfl,⟨rfl,rfl⟩,cs,b,p,rfl,hc,h.i,h.p,λr er=>?_,λ_=>⟨rfl,hq⟩⟩;rw[e] at er;cases er
 |@set n p x k s o h e hx _ ih=>
  intro xs o5 o6 o7 hl;obtain⟨y,xs,rfl⟩:∃y ys,xs=y::ys:=by cases xs with|nil=>cases hl|cons y ys=>exact⟨y,ys,rfl⟩
  refine⟨_,_,_,_,rfl,rfl,⟨rfl,rfl⟩,cs,b,p,rfl,hc,h.i,h.p,λr er=>?_,λz=>?_⟩
  ·rw[e] at er;cases er;refine⟨λz=>(by cases z),rfl,rfl,?_⟩;refine⟨_,_,_,_,rfl,rfl,⟨rfl,rfl⟩,cs,b,s,.set x k,_,rfl,h.s,rfl,hx,?_⟩;refine⟨_,_,_,_,rfl,f.end_,rfl,?_⟩;refine⟨l8 _,?_⟩;rw[A6 (r:=.set x k) (l:=5) rfl];exact ih hq xs _ _ _ (cO hl)
  ·rw[e] at z;cases z
 |@say n p x s o h e hx _ ih=>
  intro xs o5 o6 o7 hl;obtain⟨y',xs,rfl⟩:∃y ys,xs=y::ys:=by cases xs with|nil=>cases hl|cons y ys=>exact⟨y,ys,rfl⟩
  refine⟨_,_,_,_,rfl,rfl,⟨rfl,rfl⟩,cs,b,p,rfl,hc,h.i,h.p,λr er=>?_,λz=>?_⟩
  ·rw[e] at er;cases er;refine⟨λz=>(by cases z),rfl,rfl,?_⟩;refine⟨_,_,_,_,rfl,rfl,⟨rfl,rfl⟩,cs,b,s,.say x,_,rfl,h.s,rfl,hx,?_⟩;refine⟨_,_,_,_,rfl,f.end_,rfl,?_⟩;refine⟨l8 _,?_⟩;rw[A6 (r:=.say x) (l:=1) rfl];exact ih hq xs _ _ _ (cO hl)
  ·rw[e] at z;cases z
 |@jump n p q s o h e _ ih=>
  intro xs o5 o6 o7 hl;obtain⟨y',xs,rfl⟩:∃y ys,xs=y::ys:=by cases xs with|nil=>cases hl|cons y ys=>exact⟨y,ys,rfl⟩
  refine⟨_,_,_,_,rfl,rfl,⟨rfl,rfl⟩,cs,b,p,rfl,hc,h.i,h.p,λr er=>?_,λz=>?_⟩
  ·rw[e] at er;cases er;refine⟨λz=>(by cases z),rfl,rfl,?_⟩;refine⟨_,_,_,_,rfl,rfl,⟨rfl,rfl⟩,cs,b,s,.jump ai q,_,rfl,h.s,rfl,?_⟩;refine⟨_,_,_,_,rfl,f.end_,rfl,?_⟩;refine⟨l8 _,?_⟩;exact ih hq xs _ _ _ (cO hl)
  ·rw[e] at z;cases z
 |@call n p q s o h e _ ih=>
  intro xs o5 o6 o7 hl;obtain⟨y',xs,rfl⟩:∃y ys,xs=y::ys:=by cases xs with|nil=>cases hl|cons y ys=>exact⟨y,ys,rfl⟩
  refine⟨_,_,_,_,rfl,rfl,⟨rfl,rfl⟩,cs,b,p,rfl,hc,h.i,h.p,λr er=>?_,λz=>?_⟩
  ·rw[e] at er;cases er;refine⟨λz=>(by cases z),rfl,rfl,?_⟩;refine⟨_,_,_,_,rfl,rfl,⟨rfl,rfl⟩,cs,b,s,.call ai q,_,rfl,h.s,rfl,?_⟩;refine⟨_,_,_,_,rfl,f.end_,rfl,?_⟩;refine⟨l8 _,?_⟩;rw[A6 (r:=.call ai q) (l:=3) rfl];exact ih hq xs _ _ _ (cO hl)
  ·rw[e] at z;cases z
 |@X5 n p x q s h e hx h1 h2 h3=>
  intro xs o5 o6 o7 hl;obtain⟨y',xs,rfl⟩:∃y ys,xs=y::ys:=by cases xs with|nil=>cases hl|cons y ys=>exact⟨y,ys,rfl⟩
  refine⟨_,_,_,_,rfl,rfl,⟨rfl,rfl⟩,cs,b,p,rfl,hc,h.i,h.p,λr er=>?_,λz=>?_⟩
  ·rw[e] at er;cases er;refine⟨λz=>(by cases z),rfl,rfl,?_⟩;refine⟨_,_,_,_,rfl,rfl,⟨rfl,rfl⟩,cs,b,s,.jumpby ai x q,_,rfl,h.s,rfl,hx,hc,h1,h2,h3,rfl,hq⟩
  ·rw[e] at z;cases z
 |@load n p x y q s h e hx hy h1 h2 h3=>
  intro xs o5 o6 o7 hl;obtain⟨y',xs,rfl⟩:∃y ys,xs=y::ys:=by cases xs with|nil=>cases hl|cons y ys=>exact⟨y,ys,rfl⟩
  refine⟨_,_,_,_,rfl,rfl,⟨rfl,rfl⟩,cs,b,p,rfl,hc,h.i,h.p,λr er=>?_,λz=>?_⟩
  ·rw[e] at er;cases er;refine⟨λz=>(by cases z),rfl,rfl,?_⟩;refine⟨_,_,_,_,rfl,rfl,⟨rfl,rfl⟩,cs,b,s,.load ai x y q,_,rfl,h.s,rfl,hx,hy,hc,h1,h2,h3,rfl,hq⟩
  ·rw[e] at z;cases z
end
theorem Nu{K:W.Frag}{a:RA}{CR CP:af}(f:yv K CR):∀ds Q X,A5 a CP ds Q X->nP 8 4 (rW K CR (tQ CR) (Zk a CP) (Zl a CR CP)) ds Q X:=by
 rintro ds Q X ⟨cs,b,p,n,o,h1,h2,h3,h4,q⟩
 subst h1;refine⟨rfl,?_⟩;refine⟨_,rfl,rfl,?_⟩;refine⟨rfl,⟨by omega,by omega⟩,trivial,?_⟩;refine HM (E:=⟨λ_ _=>Q .non,λd M'=>nl (fz M' d)=ah/\Q (fz M' d),λ_ _=>False,λ_ _=>False⟩) f h2 (λ_=>trivial) (λs q=>⟨VA (kO _) rfl,q⟩) q n p _ h4 _ ak ak ak ?_;simp[xV]
abbrev OI:MS:=⟨[0,0,0,0],[],[]⟩
def vQ (a:RA):t6:=λds Q X=>∃cs b p n o,ds=[.lst (iD cs),.int b,.int p,.lst [],.int (n:Nat)]/\Cs cs/\n<=1000/\Ev cs b n p OI o/\Ux a.N Q X o
theorem A7{a:RA}:nO (vQ a):=by
 rintro ds P Q x y w v ⟨cs,b,p,n,o,h1,h2,h3,h4,q⟩
 exact⟨cs,b,p,n,o,h1,h2,h3,h4,Di w v o q⟩
theorem KW{a:RA}{CP:af}:∀ds Q X,vQ a ds Q X->nP 5 5 (u3 (A5 a CP) CP (vP CP)) ds Q X:=by
 rintro ds Q X ⟨cs,b,p,n,o,h1,h2,h3,h4,q⟩
 subst h1;refine⟨rfl,[],cs,b,rfl,rfl,rfl,_,_,rfl,nA cs b,?_⟩;refine⟨?_,cs,b,p,n,o,rfl,h2,h3,h4,?_⟩
 ·show(nl (zt CP cs b)&&(ah&&(nK []&&(ah&&ah))))=ah;rw[Rl];rfl
 ·cases o with
  |inl nF=>exact⟨VA (kO nF) rfl,q⟩
  |inr z=>exact⟨rfl,q⟩
noncomputable def X6:Oc->D
 |.inl nF=>.tup [.lst (iD nF),.str "steps"]
 |.inr p=>.int p
def oX:GP:=λds Q=>∃cs b p n o,ds=[.lst (iD cs),.int b,.int p,.int (n:Nat)]/\Cs cs/\n<=1000/\Ev cs b n p OI o/\Q (X6 o)
theorem Dk:pS oX:=by
 rintro ds P Q w ⟨cs,b,p,n,o,h1,h2,h3,h4,q⟩
 exact⟨cs,b,p,n,o,h1,h2,h3,h4,w _ q⟩
structure X7(K:W.Frag)(N PE BB TF:af):Prop where
 sub:vk K N PE
 get:Ci K N
 na:jZ K N "place"
 n:W.kitOne K (.ref N) (.ref N)=aa ah
 b:W.kitOne K (.ref N) (.ref BB)=aa ai
 t:W.kitOne K (.ref N) (.ref TF)=aa ai
theorem Nv{K:W.Frag}{a:RA}{PE BB TF:af}(f:X7 K a.N PE BB TF):∀ds Q,oX ds Q->wv 5 4 (xm K PE (vQ a) a.N BB TF) ds Q:=by
 rintro ds Q ⟨cs,b,p,n,o,h1,h2,h3,h4,q⟩
 subst h1;refine⟨rfl,am rfl,?_⟩;refine⟨?_,cs,b,p,n,o,rfl,h2,h3,h4,?_⟩
 ·show(nK (iD cs)&&(ah&&(ah&&(ah&&(ah&&ah)))))=ah;rw[kO];rfl
 ·cases o with
  |inl nF=>exact⟨VA (kO nF) rfl,q⟩
  |inr z=>
   refine⟨f.sub,?_⟩;refine⟨ah,f.get,f.n,ai,f.get,f.b,ai,f.get,f.t,?_⟩;exact⟨f.get,f.na,_,rfl,rfl,q⟩
end mO
namespace mO
open PySem PySem.Spec L2 L3
local macro_rules | `(tactic| walk_at "ws1_tac") => `(tactic| ((conv => whnf); first
 |refine⟨_,rfl,?_⟩|refine⟨rfl,?_⟩|refine⟨am rfl,?_⟩|refine⟨show(0:Int)<_ by decide,?_⟩|refine⟨show pe _ _ from⟨by decide,by decide⟩,?_⟩|refine⟨show GU _ _ from⟨by decide,by decide⟩,?_⟩
 |refine⟨show BA _ _ from⟨by decide,by decide,by decide⟩,?_⟩|refine⟨show rB _ _ from .inl ⟨by decide,by decide⟩,?_⟩|refine⟨show rB _ _ from .inr ⟨by decide,by decide⟩,?_⟩
 |refine⟨λh=>absurd (show(1:Nat)=0 from h.1) (by decide),?_⟩|refine⟨λh=>absurd (show(2:Nat)=0 from h.1) (by decide),?_⟩|refine⟨λh=>absurd (show(3:Nat)=0 from h.1) (by decide),?_⟩))
local macro_rules | `(tactic| walk_at "ws_tac") => `(tactic| ((repeat walk_at "ws1_tac"); try (conv => whnf)))
def X8 (o:Option (Option OD))(n:Int):Prop:=∃a m c d:Int,o=aa (aa (.lst [.int a,.int m,.int c,.int d]))/\0<=c/\c<=n
def Src (M:Ms)(k:Nat)(n:Int):Prop:=X8 M[k]? n
def Gr (M M':Ms)(k:Nat):Prop:=M.length<=M'.length/\∀j,j<M.length->j≠k->M'[j]?=M[j]?
theorem Gr.trans{M M' uL:Ms}{k:Nat}(a:Gr M M' k)(b:Gr M' uL k):Gr M uL k:=⟨aT a.1 b.1,λj h e=>(b.2 j (aB h a.1) e).trans (a.2 j h e)⟩
theorem Gr.set{M:Ms}{k:Nat}{o:Option OD}:Gr M (M.set k o) k:=⟨by simp,λj _ e=>by rw[bH (λz=>e z.symm)]⟩
theorem Src.lt{M:Ms}{k:Nat}{n:Int}(h:Src M k n):k<M.length:=by obtain⟨_,_,_,_,e,_⟩:=h;exact(aC.mp e).1
theorem Src.set{M:Ms}{k:Nat}{n a m c d:Int}(h:k<M.length)(h0:0<=c)(h1:c<=n):Src (M.set k (aa (.lst [.int a,.int m,.int c,.int d]))) k n:=⟨a,m,c,d,bU h,h0,h1⟩
theorem Src.le{M:Ms}{k:Nat}{n n':Int}(h:Src M k n)(e:n<=n'):Src M k n':=by obtain⟨a,m,c,d,e1,e2,e3⟩:=h;exact⟨a,m,c,d,e1,e2,by omega⟩
theorem Src.push{M:Ms}{k:Nat}{n:Int}{o:Option OD}(h:Src M k n):Src (M++[o]) k n:=by have hl:=h.lt;unfold Src;rw[bb hl];exact h
def qE:GP:=λds Q=>match ds with
 |[.int i,.int c]=>0<=c/\c<=1000000/\∀r:Int,0<=r->r<2147483629->Q (.int r)
 |_=>False
theorem A8:pS qE:=λds P Q w q=>by
 match ds,q with
 |[.int i,.int c],⟨h1,h2,q⟩=>exact⟨h1,h2,λr a b=>w _ (q r a b)⟩
theorem KY:∀ds Q,qE ds Q->wv 3 2 p0 ds Q:=λds Q q=>by
 match ds,q with
 |[.int i,.int c],⟨h1,h2,q⟩=>
  refine⟨rfl,?_⟩;have hm:∀x:Int,0<=x%2147483629/\x%2147483629<2147483629:=λx=>⟨Int.emod_nonneg _ (by decide),Int.emod_lt_of_pos _ (by decide)⟩;walk_at "ws_tac";refine⟨show rB _ _ from .inr ⟨?_,?_⟩,?_⟩
  ·omega
  ·omega
  walk_at "ws_tac";refine⟨show rB _ _ from .inl ⟨?_,?_⟩,?_⟩
  ·have:=hm ((i%2147483629+69621*c+1)*(48271+2*c));omega
  ·have:=hm ((i%2147483629+69621*c+1)*(48271+2*c));omega
  walk_at "ws_tac";refine⟨show rB _ _ from .inl ⟨?_,?_⟩,?_⟩
  ·refine Int.lt_of_lt_of_le ?_ (hm _).1;decide
  ·exact Int.lt_trans (hm _).2 (by decide)
  walk_at "ws_tac";exact q _ (hm _).1 (hm _).2
def jI:GN:=λds M Q=>∃(k:Nat) (many n:Int),ds=[.loc k,.int many]/\0<many/\many<18446744073709551616/\Src M k n/\n<1000000/\∀(r:Int) (M':Ms),0<=r->r<many->Src M' k (n+1)->Gr M M' k->Q (.int r) M'
theorem Dl:lV jI:=λds M P Q w ⟨k,many,n,h1,h2,h3,h4,h5,q⟩=>⟨k,many,n,h1,h2,h3,h4,h5,λr M' a b c d=>w _ _ (q r M' a b c d)⟩
theorem k8{M:Ms}{k:Nat}{o:OD}(h:M[k]?=aa (aa o)):vw M (.loc k)=o.toD:=by show Vi k M[k]?=_;rw[h];rfl
theorem si{M:Ms}{k:Nat}{xs:List D}{i:Int}{d:D}{Q:DK}(h:M[k]?=aa (aa (.lst xs)))(e:sF xs i=aa d)(q:Q d M):iZ (.loc k) (.int i) M Q:=by unfold iZ;rw[k8 h];exact⟨d,e,q⟩
theorem Gs{δ:kZ}{M:Ms}{k:Nat}{xs:List D}{i:Int}{n:Nat}{v:D}{Q:kZ->Ms->Prop}(h0:δ[0]?=aa (aa (.loc k)))(h:M[k]?=aa (aa (.lst xs)))(e:BH xs.length i=aa n)(q:Q δ (M.set k (aa (.lst (xs.set n v))))):pW (gr 0) (dC (.int i)) v δ M Q:=by unfold pW gr dC;rw[h0];simp only [h];exact⟨n,e,q⟩
local macro_rules | `(tactic| walk_at "rs_tac") => `(tactic| simp only [gN, gW, qQ, gB, dC, iC, qO, tI, mG, nZ, ip, iU, gp, gw, ib, k9, oh, Kz, CT, tK, Q5, Gf, KA, bW, List.map_nil, List.cons_append, dz, aU, ax, cw, Nat.reduceAdd, Nat.reduceSub, dG, List.set_cons_zero, if_true, if_false, reduceIte, cZ])
theorem Nw:∀ds M Q,jI ds M Q->BQ 3 2 (sf (cl qE)) ds M Q:=λds M Q ⟨k,many,n,h1,h2,h3,h4,h5,q⟩=>by
 subst h1;have hl:=h4.lt;obtain⟨a,m,c,d,e,c0,c1⟩:=h4;refine⟨rfl,?_⟩;have Ny:∀x:Int,0<=x%many/\x%many<many:=λx=>⟨Int.emod_nonneg _ (by omega),Int.emod_lt_of_pos _ h2⟩;have e2:(M.set k (aa (.lst [.int a,.int m,.int (c+1),.int d])))[k]?=aa (aa (.lst [.int a,.int m,.int (c+1),.int d])):=bU hl;have Dm:iZ (.loc k) (.int 2) M λx M1=>gA x (.int 1) M1 λv M2=>pW (gr 0) (dC (.int 2)) v [aa (.loc k),aa (.int many),ak] M2 λδ M3=>(ip (gB (gI (λ_ j=>0<j) λi j=>.int (i%j)) (iU (cl qE) (gp (gB iZ (gr 0) (dC (.int 3))) (gp (gB iZ (gr 0) (dC (.int 2))) gw))) (gr 1))) ⟨λ_ M'=>Q .non M',Q,λ_ _=>False,λ_ _=>False⟩ δ M3:=by
  refine si e (HB (k:=2) rfl) ?_;walk_at "rs_tac";refine Gs rfl e rfl ?_;walk_at "rs_tac";refine si e2 (HB (k:=3) rfl) ?_;refine si e2 (HB (k:=2) rfl) ?_;refine⟨rfl,?_,?_,λr r0 r1=>⟨h2,?_⟩⟩
  ·omega
  ·omega
  ·exact q _ _ (Ny r).1 (Ny r).2 (Src.set hl (by omega) (by omega)) Gr.set
 unfold sf;walk_at "rs_tac";refine si e XJ ?_;walk_at "rs_tac";cases em:m==0 with
 |false=>walk_at "rs_tac";exact Dm
 |true=>
  walk_at "rs_tac";refine si e Q6 ?_;walk_at "rs_tac";by_cases ha:1<a
  ·rw[if_pos (decide_eq_true ha)];refine si e Q6 ?_;refine⟨h2,?_⟩;refine si e Q6 ?_;refine⟨⟨h2,h3⟩,?_⟩;refine Gs rfl e rfl ?_;exact q _ _ (Ny a).1 (Ny a).2 (Src.set hl c0 (by omega)) Gr.set
  ·rw[if_neg (by simp[ha])];exact Dm
def lL:GN:=λds M Q=>match ds with
 |[.int i]=>Q (.loc M.length) (M++[aa (.lst [.int (i/2),.int (i%2),.int 0,.int i])])
 |_=>False
theorem yx:lV lL:=λds M P Q w q=>by
 match ds,q with
 |[.int i],q=>exact w _ _ q
theorem HN:∀ds M Q,lL ds M Q->BQ 1 1 tH ds M Q:=λds M Q q=>by
 match ds,q with
 |[.int i],q=>
  refine⟨rfl,?_⟩;walk_at "ws_tac";exact q
open FJ
local macro_rules | `(tactic| walk_at "ws1_tac") => `(tactic| ((conv => whnf); first
 |refine⟨_,rfl,?_⟩|refine⟨rfl,?_⟩|refine⟨am rfl,?_⟩|refine⟨show(0:Int)<_ by decide,?_⟩|refine⟨show pe _ _ from⟨by decide,by decide⟩,?_⟩|refine⟨show GU _ _ from⟨by decide,by decide⟩,?_⟩
 |refine⟨show BA _ _ from⟨by decide,by decide,by decide⟩,?_⟩|refine⟨show rB _ _ from .inl ⟨by decide,by decide⟩,?_⟩|refine⟨show rB _ _ from .inr ⟨by decide,by decide⟩,?_⟩
 |refine⟨λh=>absurd (show(1:Nat)=0 from h.1) (by decide),?_⟩|refine⟨λh=>absurd (show(2:Nat)=0 from h.1) (by decide),?_⟩|refine⟨λh=>absurd (show(3:Nat)=0 from h.1) (by decide),?_⟩))
local macro_rules | `(tactic| walk_at "ws_tac") => `(tactic| ((repeat walk_at "ws1_tac"); try (conv => whnf)))
def pq:GP:=λds Q=>match ds with|[.int p]=>Q (.lst (iD (two p)))|_=>False
theorem Ff:pS pq:=λds P Q w q=>by
 match ds,q with
 |[.int _],q=>exact w _ q
theorem Ro:∀ds Q,pq ds Q->wv 1 1 zk ds Q:=λds Q q=>by
 match ds,q with
 |[.int p],q=>
  refine⟨rfl,?_⟩;walk_at "ws_tac";exact q
def uT (b t ke:Int):Prop:=(ke<b\/b+t+100<=ke)/\0<=ke/\ke<=64000/\-60<=ke- b
inductive Dn(b t:Int):List Int->Int->Prop
 |jump {ke:Int}:uT b t ke->Dn b t (81::two ke) ke
 |call {ke:Int}:uT b t ke->Dn b t (83::two ke) ke
 |jumpby {ke:Int}:uT b t ke->Dn b t (104::two ke) ke
 |load {ke:Int}:uT b t ke->Dn b t (134::two ke) ke
 |one:Dn b t [7] (b+t)
 |odd:Dn b t [255,1] (b+t)
 |few:Dn b t [16,1,2] (b+t)
 |OJ:Dn b t ([81]++two (b+t+3)++[92]) (b+t+3)
 |OL:Dn b t ([132]++two (b+t+3)++[0]) (b+t+3)
 |short {r:Int}:0<=r->r<40->Dn b t [80,128+r] (b+t)
 |Zm:Dn b t ([104]++two (b+t+3)++[0,2,0,0,1]) (b+t+3)
 |OM:Dn b t ([132]++two (b+t+3)++[0,1,0,0,0]) (b+t+3)
def va:GN:=λds M Q=>∃(k:Nat) (b t n:Int),ds=[.loc k,.int b,.int t]/\Src M k n/\n<900000/\0<=b/\b<=3000/\0<=t/\t<=30/\∀(more:List Int) (place:Int) (M':Ms),Dn b t more place->Src M' k (n+10)->Gr M M' k->Q (.tup [.lst (iD more),.int place]) M'
theorem Fg:lV va:=λds M P Q w ⟨k,b,t,n,h1,h2,h3,h4,h5,h6,h7,q⟩=>⟨k,b,t,n,h1,h2,h3,h4,h5,h6,h7,λmore place M' a c d=>w _ _ (q more place M' a c d)⟩
theorem KZ{M:Ms}{o:OD}:vw (M++[aa o]) (.loc M.length)=o.toD:=k8 qD
def Nz:DS:=(gN (lz (HZ "list" jr (gr 6) (gp (iN (gp (iq (iw (gp (dC (.int 80)) (gp (gB gA (dC (.int 128)) (iU jI (gp (gr 0) (gp (dC (.int 40)) gw)))) gw)))) (gp (gr 5) gw))) gw)))
 (gN (lz (HZ "list" jr (gr 6) (gp (iN (gp (gB gA (gB gA (iq (iw (gp (dC (.int 104)) gw))) (iU (cl pq) (gp (gB gA (gr 5) (dC (.int 3))) gw))) (iq (iw (gp (dC (.int 0)) (gp (dC (.int 2)) (gp (dC (.int 0)) (gp (dC (.int 0)) (gp (dC (.int 1)) gw)))))))) (gp (gB gA (gr 5) (dC (.int 3))) gw))) gw)))
 (gN (lz (HZ "list" jr (gr 6) (gp (iN (gp (gB gA (gB gA (iq (iw (gp (dC (.int 132)) gw))) (iU (cl pq) (gp (gB gA (gr 5) (dC (.int 3))) gw))) (iq (iw (gp (dC (.int 0)) (gp (dC (.int 1)) (gp (dC (.int 0)) (gp (dC (.int 0)) (gp (dC (.int 0)) gw)))))))) (gp (gB gA (gr 5) (dC (.int 3))) gw))) gw)))
 (ip (gB iZ (gr 6) (gr 3))))))
def K0:DS:=(gN (ib 5 (gB gA (gr 1) (gr 2))) (gN (ib 6 (ue (iw (gp (iN (gp (gB gA (iq (iw (gp (dC (.int 81)) gw))) (iU (cl pq) (gp (gr 4) gw))) (gp (gr 4) gw))) (gp (iN (gp (gB gA (iq (iw (gp (dC (.int 83)) gw))) (iU (cl pq) (gp (gr 4) gw))) (gp (gr 4) gw))) (gp (iN (gp (gB gA (iq (iw (gp (dC (.int 104)) gw))) (iU (cl pq) (gp (gr 4) gw))) (gp (gr 4) gw))) gw)))))) (gN (ib 6 (ue (B7 (gr 6) (iq (iw (gp (iN (gp (gB gA (iq (iw (gp (gB gA (dC (.int 128)) (dC (.int 6))) gw))) (iU (cl pq) (gp (gr 4) gw))) (gp (gr 4) gw))) (gp (iN (gp (iq (iw (gp (dC (.int 7)) gw))) (gp (gr 5) gw))) (gp (iN (gp (iq (iw (gp (dC (.int 255)) (gp (dC (.int 1)) gw)))) (gp (gr 5) gw))) (gp (iN (gp (iq (iw (gp (dC (.int 16)) (gp (dC (.int 1)) (gp (dC (.int 2)) gw))))) (gp (gr 5) gw))) gw))))))))) (gN (ib 6 (ue (B7 (gr 6) (iq (iw (gp (iN (gp (gB gA (gB gA (iq (iw (gp (dC (.int 81)) gw))) (iU (cl pq) (gp (gB gA (gr 5) (dC (.int 3))) gw))) (iq (iw (gp (dC (.int 92)) gw)))) (gp (gB gA (gr 5) (dC (.int 3))) gw))) (gp (iN (gp (gB gA (gB gA (iq (iw (gp (dC (.int 132)) gw))) (iU (cl pq) (gp (gB gA (gr 5) (dC (.int 3))) gw))) (iq (iw (gp (dC (.int 0)) gw)))) (gp (gB gA (gr 5) (dC (.int 3))) gw))) gw))))))) Nz))))
theorem NA{j:Nat}{L:List D}{x:D}{M:Ms}{Q:DK}(h:M[j]?=aa (aa (.lst L)))(hl:L.length<100)(q:Q .non (M.set j (aa (.lst (L++[x]))))):jr (.loc j) [x] M Q:=⟨L,h,aB hl (by decide),q⟩
theorem A9{j:Nat}{L:List D}{M:Ms}(h:M[j]?=aa (aa (.lst L))):W4 "list" (vw M (.loc j))=ah:=by rw[k8 h];rfl
theorem Ba{j:Nat}{o o':Option OD}{M:Ms}(h:M[j]?=aa o):(M.set j o')[j]?=aa o':=bU (aC.mp h).1
theorem NB{j:Nat}{L:List D}{i:D}{M:Ms}{Q:DK}(h:M[j]?=aa (aa (.lst L)))(q:iZ (.lst L) i M Q):iZ (.loc j) i M Q:=by unfold iZ at q ⊢;rw[k8 h];exact q
abbrev x9(b t r:Int):D:=.tup [.lst (iD [80,128+r]),.int (b+t)]
abbrev X9(b t:Int):D:=.tup [.lst (iD ([104]++two (b+t+3)++[0,2,0,0,1])),.int (b+t+3)]
abbrev RR(b t:Int):D:=.tup [.lst (iD ([132]++two (b+t+3)++[0,1,0,0,0])),.int (b+t+3)]
theorem NC{k j:Nat}{b t n yy ke:Int}{M:Ms}{Q:DK}{L:List D}(hj:M[j]?=aa (aa (.lst L)))(hL:L.length=9)(hs:Src M k n)(hn:n<950000)(hk:k≠j)
(q:∀(r:Int) (M':Ms),0<=r->r<40->Src M' k (n+1)->(∀i,i<M.length->i≠k->i≠j->M'[i]?=M[i]?)->M.length<=M'.length->iZ (.lst (L++[x9 b t r]++[X9 b t]++[RR b t])) (.int yy) M' Q):
  Nz ⟨λ_ M'=>Q .non M',Q,λ_ _=>False,λ_ _=>False⟩ [aa (.loc k),aa (.int b),aa (.int t),aa (.int yy),aa (.int ke),aa (.int (b+t)),aa (.loc j)] M:=by
 unfold Nz;refine⟨A9 hj,?_⟩;refine⟨k,40,n,rfl,by decide,by decide,hs,by omega,λr M1 r0 r1 s1 sb=>?_⟩;have Zn:M1[j]?=aa (aa (.lst L)):=(sb.2 j (aC.mp hj).1 (bG hk)).trans hj;refine⟨am rfl,am rfl,?_⟩;dsimp only [gw];refine NA Zn (by omega) ?_;have K1:=Ba (o':=aa (.lst (L++[x9 b t r]))) Zn;refine⟨A9 K1,?_⟩;walk_at "ws_tac";refine⟨_,K1,?_,?_⟩
 ·rw[bw,hL];exact aB (show 9+1<100 by decide) (by decide)
 have Uz:=Ba (o':=aa (.lst (L++[x9 b t r]++[X9 b t]))) K1;refine⟨A9 Uz,?_⟩;walk_at "ws_tac";refine⟨_,Uz,?_,?_⟩
 ·rw[bw,bw,hL];exact aB (show 9+1+1<100 by decide) (by decide)
 have hj4:=Ba (o':=aa (.lst (L++[x9 b t r]++[X9 b t]++[RR b t]))) Uz;refine NB hj4 (q r _ r0 r1 ?_ ?_ ?_)
 ·have e:∀(o:Option OD) (N:Ms),Src N k (n+1)->Src (N.set j o) k (n+1):=λo N h=>by unfold Src at h ⊢;rw[bH (bG hk)];exact h
  exact e _ _ (e _ _ (e _ _ s1))
 ·intro i hi h1 h2;rw[bH (bG h2),bH (bG h2),bH (bG h2)];exact sb.2 i hi h1
 ·simp only [List.length_set];exact sb.1
theorem K2{k:Nat}{b t n yy ke:Int}{M:Ms}{Q:DK}{z5 z6:Option D}(hf:uT b t ke)(hs:Src M k n)(hn:n<950000)(w0:0<=yy)(w1:yy<12)
(q:∀(more:List Int) (place:Int) (M':Ms),Dn b t more place->Src M' k (n+1)->Gr M M' k->Q (.tup [.lst (iD more),.int place]) M'):
  K0 ⟨λ_ M'=>Q .non M',Q,λ_ _=>False,λ_ _=>False⟩ [aa (.loc k),aa (.int b),aa (.int t),aa (.int yy),aa (.int ke),z5,z6] M:=by
 have hl:=hs.lt;unfold K0;generalize hE:Nz=E0;walk_at "ws_tac";rw[KZ];walk_at "ws_tac";rw[KZ];walk_at "ws_tac";subst hE;have pr:∀x y:Option OD,Src (M++[x]++[y]) k n:=λx y=>hs.push.push;have pr3:∀x y z:Option OD,Src (M++[x]++[y]++[z]) k n:=λx y z=>hs.push.push.push;refine NC qD rfl (pr3 _ _ _) hn ?_ λr M' r0 r1 s' sb kf=>?_
 ·simp;omega
 have Gu:Gr M M' k:=⟨by simp at kf;omega,λi hi ne=>by rw[sb i (by simp;omega) ne (by simp;omega)];simp[bb,hi]⟩
 have hw:yy=0\/yy=1\/yy=2\/yy=3\/yy=4\/yy=5\/yy=6\/yy=7\/yy=8\/yy=9\/yy=10\/yy=11:=by omega
 rcases hw with rfl|rfl|rfl|rfl|rfl|rfl|rfl|rfl|rfl|rfl|rfl|rfl
 ·exact⟨_,rfl,q _ _ M' (.jump hf) s' Gu⟩
 ·exact⟨_,rfl,q _ _ M' (.call hf) s' Gu⟩
 ·exact⟨_,rfl,q _ _ M' (.jumpby hf) s' Gu⟩
 ·exact⟨_,rfl,q _ _ M' (.load hf) s' Gu⟩
 ·exact⟨_,rfl,q _ _ M' .one s' Gu⟩
 ·exact⟨_,rfl,q _ _ M' .odd s' Gu⟩
 ·exact⟨_,rfl,q _ _ M' .few s' Gu⟩
 ·exact⟨_,rfl,q _ _ M' .OJ s' Gu⟩
 ·exact⟨_,rfl,q _ _ M' .OL s' Gu⟩
 ·exact⟨_,rfl,q _ _ M' (.short r0 r1) s' Gu⟩
 ·exact⟨_,rfl,q _ _ M' .Zm s' Gu⟩
 ·exact⟨_,rfl,q _ _ M' .OM s' Gu⟩
theorem UA{E:iE}{δ:kZ}{M:Ms}{t u:DS}{i:Nat}{b:Int}(hb:δ[i]?=aa (aa (.int b)))(h1:b=0->t E δ M)(h2:b≠0->u E δ M):iC (gD (gB oh (gr i) (dC (.int 0)))) t u E δ M:=by
 unfold iC gD gB gr dC;rw[hb];dsimp only;by_cases h:b=0
 ·exact Rb h (by show(if ah=ah then _ else _);rw[if_pos rfl];exact h1 h)
 ·exact KI h (by show(if ai=ah then _ else _);rw[if_neg ap];exact h2 h)
theorem Rp:∀ds M Q,va ds M Q->BQ 7 3 (zm jI (cl pq)) ds M Q:=by
 rintro ds M Q ⟨k,b,t,n,h1,hs,hn,b0,b1,t0,t1,q⟩
 subst h1;refine⟨rfl,k,12,n,rfl,by decide,by decide,hs,by omega,λyy M1 w0 w1 s1 Ly=>?_⟩;refine⟨k,60000,n+1,rfl,by decide,by decide,s1,by omega,λr1 M2 a0 a1 s2 R4=>?_⟩;refine⟨k,50,n+1+1,rfl,by decide,by decide,s2,by omega,λr2 M3 c0 c1 s3 sb3=>?_⟩;refine⟨am rfl,k,2,n+1+1+1,rfl,by decide,by decide,s3,by omega,λr3 M4 d0 d1 s4 sb4=>?_⟩;have sb:Gr M M4 k:=((Ly.trans R4).trans sb3).trans sb4;have lm:∀(ke:Int) (M5:Ms) (n5:Int),uT b t ke->n5<=n+5->Src M5 k n5->Gr M M5 k->K0 ⟨λ_ M'=>Q .non M',Q,λ_ _=>False,λ_ _=>False⟩ [aa (.loc k),aa (.int b),aa (.int t),aa (.int yy),aa (.int ke),ak,ak] M5:=λke M5 n5 hf hn5 s5 Ya=>
  K2 hf s5 (by omega) w0 w1 λmore place M' hb WN Gu=>q more place M' hb (WN.le (by omega)) (Ya.trans Gu)
 have Yb:∃ke,sF [D.int (b+t+100+r1),D.int (if b- 1- r2>0 then b- 1- r2 else 0)] r3=aa (.int ke)/\(b≠0->uT b t ke):=by
  have:r3=0\/r3=1:=by omega
  rcases this with rfl|rfl
  ·exact⟨_,rfl,λ_=>⟨.inr (by omega),by omega,by omega,by omega⟩⟩
  ·refine⟨_,rfl,λhb=>?_⟩;unfold uT;split<;>exact⟨.inl (by omega),by omega,by omega,by omega⟩
 obtain⟨ke,e,hf⟩:=Yb;refine⟨_,e,?_⟩;show(gN (iC (gD (gB oh (gr 1) (dC (.int 0)))) (ib 4 (gB gA (dC (.int 400)) (iU jI (gp (gr 0) (gp (dC (.int 60000)) gw))))) gW) K0) ⟨λ_ M'=>Q .non M',Q,λ_ _=>False,λ_ _=>False⟩ [aa (.loc k),aa (.int b),aa (.int t),aa (.int yy),aa (.int ke),ak,ak] M4;generalize K0=T0 at*;refine UA (b:=b) rfl (λhb=>?_) λhb=>?_
 ·refine⟨k,60000,n+1+1+1+1,rfl,by decide,by decide,s4,by omega,λr4 M5 e0 e1 s5 Ya=>?_⟩;exact lm (400+r4) M5 _ ⟨.inr (by omega),by omega,by omega,by omega⟩ (by omega) s5 (sb.trans Ya)
 ·exact lm ke M4 _ (hf hb) (by omega) s4 sb
noncomputable def pc(p:Int×Int):List Int:=[16+p.2,0,0,0,p.1,64+p.2]
noncomputable def flat(ps:List (Int×Int)):List Int:=(ps.map pc).flatten
noncomputable def nums(ps:List (Int×Int)):List Int:=ps.map (·.1)
structure Fh(ps:List (Int×Int)):Prop where
 c:∀p∈ps,0<=p.1/\p.1<200/\0<=p.2/\p.2<4
theorem tR:∀ps:List (Int×Int),(flat ps).length=6*ps.length
 |[]=>rfl
 |p::ps=>by have:=tR ps;unfold flat at*;rw[bW,cx,bw,this,ax];show 6+_=_;omega
theorem Rq{b:Int}(h0:0<=b)(h1:b<4):pA b=ah:=by unfold pA;rw[aP,decide_eq_true_eq,decide_eq_true_eq];omega
theorem qf{pre r:List Int}{c a:Int}(h:a=pre.length):Bo (pre++c::r) a=j9 a c r:=by subst h;unfold Bo;rw[if_neg (by omega),dO,List.drop_left]
theorem Bb{cs:List Int}{a:Int}(h:a<0\/(cs.length:Int)<=a):Bo cs a=ak:=by
 unfold Bo;rcases h with h|h
 ·rw[if_pos h]
 ·rw[if_neg (by omega),List.drop_eq_nil_of_le (by omega)]
theorem K3{j:Int}{cs:List Int}{a:Int}(h:a<0\/(cs.length:Int)<=a):lsN j cs a=ak:=by
 unfold lsN;rcases h with h|h
 ·rw[if_pos h]
 ·rw[if_neg (by omega),List.drop_eq_nil_of_le (by omega)]
theorem HP{x:Int}(h0:0<=x)(h1:x<200):HC (65536*(256*0+0)+(256*0+x))=x:=by unfold HC;rw[if_pos (by omega)];omega
theorem ND{a x b:Int}{r:List Int}(x0:0<=x)(x1:x<200)(b0:0<=b)(b1:b<4):j9 a (16+b) (0::0::0::x::r)=aa (.set b x):=by unfold j9;rw[if_neg (by omega),if_pos (by omega)];show aa (Rw.set (16+b- 16) (HC (65536*(256*0+0)+(256*0+x))))=_;rw[HP x0 x1,show 16+b- 16=b by omega]
theorem NE{a b:Int}{r:List Int}(b0:0<=b)(b1:b<4):j9 a (64+b) r=aa (.say b):=by unfold j9;rw[if_neg (by omega),if_neg (by omega),if_neg (by omega),if_neg (by omega),if_neg (by omega),if_pos (by omega),show 64+b- 64=b by omega]
theorem Dp{b:Int}(Rr:0<=b)(Rs:b<=3000){o:Oc}{n:Nat}{more:List Int}:∀(ps:List (Int×Int)) (pre:List Int) (s:MS),Fh ps->Ie s->s.nF.length+ps.length<=10->pre.length+6*ps.length<=40->
  (∀s':MS,Ie s'->s'.nF=s.nF++nums ps->s'.kept=s.kept->Ev (pre++flat ps++more) b n (b+(pre++flat ps).length) s' o)->Ev (pre++flat ps++more) b (n+2*ps.length) (b+pre.length) s o
 |[],pre,s,_,hs,_,_,k=>by have:=k s hs (by simp[nums]) rfl;simpa[flat] using this
 | (x,y)::ps,pre,s,hp,hs,hl,kC,k=>by
  obtain⟨x0,x1,y0,y1⟩:=hp.c (x,y) bd;rw[ax] at hl kC;have e1:pre++flat ((x,y)::ps)++more=pre++(16+y)::(0::0::0::x::(64+y)::(flat ps++more)):=by simp[flat,pc]
  have e2:pre++flat ((x,y)::ps)++more=(pre++[16+y,0,0,0,x])++(64+y)::(flat ps++more):=by simp[flat,pc]
  have e3:pre++flat ((x,y)::ps)++more=(pre++pc (x,y))++flat ps++more:=by simp[flat]
  have hn:n+2*((x,y)::ps).length=(n+2*ps.length)+1+1:=by rw[ax];omega
  rw[hn];have Zo:=Rq y0 y1;have Zp:Ie {s with bx:=s.bx.set y.toNat x}:=⟨by rw[List.length_set];exact hs.b4,hs.kp,hs.an⟩;refine .set (x:=y) (k:=x) ⟨⟨by omega,by omega⟩,⟨by omega,by omega⟩,hs⟩ ?_ Zo ?_
  ·rw[show b+(pre.length:Int)- b=pre.length by omega,e1,qf rfl];exact ND x0 x1 y0 y1
  refine .say (x:=y) ⟨⟨by omega,by omega⟩,⟨by omega,by omega⟩,Zp⟩ ?_ Zo ?_
  ·rw[show b+(pre.length:Int)+5- b=pre.length+5 by omega,e2,qf (by simp)];exact NE y0 y1
  have Vp:Dg {s with bx:=s.bx.set y.toNat x} y=x:=by
   show(s.bx.set y.toNat x).getD y.toNat 0=x;have:y.toNat<s.bx.length:=by rw[hs.b4];omega
   simp[List.getD,this]
  rw[Vp];have LS:Ie {bx:=s.bx.set y.toNat x,kept:=s.kept,nF:=s.nF++[x]}:=⟨Zp.b4,hs.kp,by have:=hs.an;simp;omega⟩;have:=Dp Rr Rs (o:=o) (n:=n) (more:=more) ps (pre++pc (x,y)) {bx:=s.bx.set y.toNat x,kept:=s.kept,nF:=s.nF++[x]} ⟨λp h=>hp.c p (aX _ h)⟩ LS (by simp;omega) (by simp[pc];omega) λs' h1 h2 h3=>by have:=k s' h1 (by rw[h2];simp[nums]) h3;rw[e3] at this;rw[show pre++pc (x,y)++flat ps=pre++flat ((x,y)::ps) by simp[flat]];rw[show pre++flat ((x,y)::ps)++more=pre++pc (x,y)++flat ps++more from e3];exact this
  rw[e3];rw[show b+(pre.length:Int)+5+1=b+(pre++pc (x,y)).length by simp[pc];omega];exact this
noncomputable def cm(more:List Int):Nat:=if more.headD 0=81\/more.headD 0=83 then 2 else 1
theorem Rt(p:Int):256*(p/256)+p%256=p:=by omega
theorem qg{pre r:List Int}{c a p:Int}{f:Int->Rw}(h:a=pre.length)(hr:∀q,j9 a c q=ux f q):Bo (pre++(c::(two p++r))) a=aa (f p):=by rw[qf h,hr];show aa (f (256*(p/256)+p%256))=_;rw[Rt]
theorem Zq{a:Int}(q:List Int):j9 a 81 q=ux (.jump ai) q:=by unfold j9;simp
theorem r83{a:Int}(q:List Int):j9 a 83 q=ux (.call ai) q:=by unfold j9;simp
theorem UB{a:Int}(q:List Int):j9 a 104 q=ux (.jumpby ai 0) q:=by unfold j9;simp
theorem Yc{a:Int}(q:List Int):j9 a 134 q=ux (.load ai 1 2) q:=by unfold j9;simp
theorem UC{a:Int}(q:List Int):j9 a 132 q=ux (.load ai 1 0) q:=by unfold j9;simp
theorem K4{j a:Int}{pre r:List Int}(h:a=pre.length):lsN j (pre++r) a=(match r with|x::y::r=>if j*(256*x+y)<=r.length then aa (256*x+y,r.take (j*(256*x+y)).toNat) else ak|_=>ak):=by subst h;unfold lsN;rw[if_neg (by omega),dO,List.drop_left];all_goals (rcases r with _|⟨x,_|⟨y,r⟩⟩<;>rfl)
section
variable {b t:Int} {pre:List Int} {s:MS}
theorem vR{ke:Int}{more:List Int}(hf:uT b t ke)(ht:(pre.length:Int)=t)(hm:more.length<=20):ke- b<0\/(((pre++more).length:Nat):Int)<=ke- b:=by
 obtain⟨h,h1,h2,h3⟩:=hf;rw[bw];rcases h with h|h
 ·exact .inl (by omega)
 ·exact .inr (by omega)
theorem Bc{ke:Int}(Rr:0<=b)(Rs:b<=3000)(hf:uT b t ke):In (ke- b)/\Lx ke:=by obtain⟨h,h1,h2,h3⟩:=hf;exact⟨⟨by omega,by omega⟩,by omega,by omega⟩
theorem Ru(Rr:0<=b)(Rs:b<=3000)(ht:(pre.length:Int)=t)(ht1:t<=30)(hs:Ie s)(hk:s.kept.length<39){more:List Int}{place:Int}(B:Dn b t more place):
  ∀n:Nat,Ev (pre++more) b n (b+t) s (if cm more<=n then .inr place else .inl s.nF)
 |0=>by
  have:¬cm more<=0:=by unfold cm;split<;>omega
  rw[if_neg this];exact .done
 |n+1=>by
  have hr:Hr (pre++more) b (b+t) s:=⟨⟨by omega,by omega⟩,⟨by omega,by omega⟩,hs⟩;have ha:b+t- b=pre.length:=by omega
  have h1:∀m:List Int,¬(m.headD 0=81\/m.headD 0=83)->cm m<=n+1:=λm h=>by unfold cm;rw[if_neg h];omega
  have h2:∀m:List Int,(m.headD 0=81\/m.headD 0=83)->cm m=2:=λm h=>by unfold cm;rw[if_pos h]
  cases B with
  |jump hf=>
   have o:=vR (more:=81::two place) hf ht (am rfl);obtain⟨i1,i2⟩:=Bc Rr Rs hf;refine .jump hr (by rw[ha];simpa using qg (r:=[]) (p:=place) rfl Zq) ?_;rw[h2 _ (.inl rfl)];cases n with
   |zero=>rw[if_neg (by decide)];exact .done
   |succ n=>rw[if_pos (by omega)];exact .bad ⟨i1,i2,hs⟩ (Bb o)
  |call hf=>
   have o:=vR (more:=83::two place) hf ht (am rfl);obtain⟨i1,i2⟩:=Bc Rr Rs hf;refine .call hr (by rw[ha];simpa using qg (r:=[]) (p:=place) rfl r83) ?_;rw[h2 _ (.inr rfl)];cases n with
   |zero=>rw[if_neg (by decide)];exact .done
   |succ n=>rw[if_pos (by omega)];exact .bad ⟨i1,i2,hs.b4,by simp;omega,hs.an⟩ (Bb o)
  |jumpby hf=>
   have o:=vR (more:=104::two place) hf ht (am rfl);obtain⟨i1,i2⟩:=Bc Rr Rs hf;rw[if_pos (h1 _ (by simp))];exact .X5 hr (by rw[ha];simpa using qg (r:=[]) (p:=place) rfl UB) (by decide) i1 i2 (K3 o)
  |load hf=>
   have o:=vR (more:=134::two place) hf ht (am rfl);obtain⟨i1,i2⟩:=Bc Rr Rs hf;rw[if_pos (h1 _ (by simp))];exact .load hr (by rw[ha];simpa using qg (r:=[]) (p:=place) rfl Yc) (by decide) (by decide) i1 i2 (K3 o)
  |one=>
   rw[if_pos (h1 _ (by simp))];exact .bad hr (by rw[ha,qf rfl];rfl)
  |odd=>
   rw[if_pos (h1 _ (by simp))];exact .bad hr (by rw[ha,qf rfl];rfl)
  |few=>
   rw[if_pos (h1 _ (by simp))];exact .bad hr (by rw[ha,qf rfl];rfl)
  |short r0 r1=>
   rename_i r;rw[if_pos (h1 _ (by simp))];refine .bad hr ?_;rw[ha,qf rfl];show(if 0<=(pre.length:Int)+2+Lu (128+r)/\(pre.length:Int)+2+Lu (128+r)<=65535 then aa _ else ak)=ak;rw[if_neg];unfold Lu;rw[if_neg (by omega)];omega
  |OJ=>
   have e:pre++([81]++two (b+t+3)++[92])=(pre++[81]++two (b+t+3))++[92]:=by simp
   refine .jump (q:=b+t+3) hr (by rw[ha];exact qg (r:=[92]) (p:=b+t+3) rfl Zq) ?_;rw[h2 _ (.inl rfl)];cases n with
   |zero=>rw[if_neg (by decide)];exact .done
   |succ n=>
    rw[if_pos (by omega)];refine .bad ⟨⟨by omega,by omega⟩,⟨by omega,by omega⟩,hs⟩ ?_;rw[e,qf (by simp[two];omega)];rfl
  |OL=>
   have e:pre++([132]++two (b+t+3)++[0])=(pre++[132]++two (b+t+3))++[0]:=by simp
   rw[if_pos (h1 _ (by simp))];refine .load (q:=b+t+3) hr (by rw[ha];exact qg (r:=[0]) (p:=b+t+3) rfl UC) (by decide) (by decide) ⟨by omega,by omega⟩ ⟨by omega,by omega⟩ ?_;rw[e,K4 (by simp[two];omega)]
  |Zm=>
   have e:pre++([104]++two (b+t+3)++[0,2,0,0,1])=(pre++[104]++two (b+t+3))++[0,2,0,0,1]:=by simp
   rw[if_pos (h1 _ (by simp))];refine .X5 (q:=b+t+3) hr (by rw[ha];exact qg (r:=[0,2,0,0,1]) (p:=b+t+3) rfl UB) (by decide) ⟨by omega,by omega⟩ ⟨by omega,by omega⟩ ?_;rw[e,K4 (by simp[two];omega)];rfl
  |OM=>
   have e:pre++([132]++two (b+t+3)++[0,1,0,0,0])=(pre++[132]++two (b+t+3))++[0,1,0,0,0]:=by simp
   rw[if_pos (h1 _ (by simp))];refine .load (q:=b+t+3) hr (by rw[ha];exact qg (r:=[0,1,0,0,0]) (p:=b+t+3) rfl UC) (by decide) (by decide) ⟨by omega,by omega⟩ ⟨by omega,by omega⟩ ?_;rw[e,K4 (by simp[two];omega)];rfl
end
mutual
theorem Dq:∀d:D,L3.pl d=ah->vL d d=ah
 |.non,_=>rfl
 |.bl b,_=>by unfold vL;simp
 |.int i,_=>by unfold vL;simp
 |.str x,_=>by unfold vL;simp
 |.tup ds,h=>by unfold vL;unfold L3.pl at h;exact uz ds h
 |.lst ds,h=>by unfold vL;unfold L3.pl at h;exact uz ds h
 |.ty _,h=>by unfold L3.pl at h;cases h
 |.kY _ _,h=>by unfold L3.pl at h;cases h
 |.ins _ _ _,h=>by unfold L3.pl at h;cases h
 |.pd _,h=>by unfold L3.pl at h;cases h
 |.loc _,h=>by unfold L3.pl at h;cases h
 |.cls _,h=>by unfold L3.pl at h;cases h
 |.exc _ _ _,h=>by unfold L3.pl at h;cases h
theorem uz:∀ds:List D,L3.FU ds=ah->xW ds ds=ah
 |[],_=>rfl
 |d::ds,h=>by unfold xW;unfold L3.FU at h;rw[aP] at h;rw[Dq d h.1,uz ds h.2];rfl
end
theorem Bd{x y T:D}{M:Ms}{Q:DK}(hx:dv M x=T)(hy:dv M y=T)(hp:L3.pl T=ah)(hd:dp T<=60)(q:Q (.bl ai) M):nL x y M Q:=by unfold nL;rw[hx,hy,Dq T hp];exact⟨⟨hp,hp,hd,hd⟩,q⟩
theorem K5:∀xs:List Int,L3.FU (iD xs)=ah
 |[]=>rfl
 |x::xs=>by show(ah&&L3.FU (iD xs))=ah;rw[K5 xs];rfl
theorem K6:∀xs:List Int,P4 (iD xs)=0
 |[]=>rfl
 |x::xs=>by show max 0 (P4 (iD xs))=0;rw[K6 xs];rfl
abbrev Rv(xs:List Int):D:=.tup [.lst (iD xs),.str "steps"]
theorem ON(xs:List Int):L3.pl (Rv xs)=ah:=by show(L3.FU (iD xs)&&(cK.strOk "steps"&&ah))=ah;rw[K5];decide+kernel
theorem OO(xs:List Int):dp (Rv xs)<=60:=by show max (P4 (iD xs)+1) (max 0 0)+1<=60;rw[K6];decide
theorem K7(xs:List Int):nl (Rv xs)=ah:=VA (kO xs) rfl
theorem ne_int{i:Int}{M:Ms}{Q:DK}(q:Q (.bl ai) M):nL (.int i) (.int i) M Q:=Bd rfl rfl rfl (cU _) q
theorem UD{xs:List Int}{M:Ms}{Q:DK}(q:Q (.bl ai) M):nL (Rv xs) (Rv xs) M Q:=Bd (FX M _ (K7 xs)) (FX M _ (K7 xs)) (ON xs) (OO xs) q
theorem Rx{xs:List Int}{M:Ms}{Q:DK}{j:Nat}(h:M[j]?=aa (aa (.lst (iD xs))))(q:Q (.bl ai) M):nL (Rv xs) (.tup [.loc j,.str "steps"]) M Q:=by refine Bd (FX M _ (K7 xs)) ?_ (ON xs) (OO xs) q;show D.tup [vw M (.loc j),_]=_;rw[k8 h];rfl
section
variable {δ:kZ} {M:Ms} {i k:Nat} {x y:Int}
abbrev No(c:DT)(δ:kZ)(M:Ms):Prop:=∀Q:Bool->Ms->Prop,Q ai M->c δ M Q
abbrev Zr(c:DT)(δ:kZ)(M:Ms):Prop:=∀Q:Bool->Ms->Prop,Q ah M->c δ M Q
theorem UE{Q:Bool->Ms->Prop}(hi:δ[i]?=aa (aa (.int x)))(hk:δ[k]?=aa (aa (.int y)))(q:Q (decide (y<=x)) M):gD (gB (qA λi j=>.bl (decide (j<=i))) (gr i) (gr k)) δ M Q:=by unfold gD gB gr;rw[hi];dsimp only;rw[hk];exact q
theorem UF{Q:Bool->Ms->Prop}(hi:δ[i]?=aa (aa (.int x)))(hk:δ[k]?=aa (aa (.int y)))(q:Q (decide (x<y)) M):gD (gB BS (gr i) (gr k)) δ M Q:=by unfold gD gB gr;rw[hi];dsimp only;rw[hk];exact q
theorem Yd{a b:D}(hi:δ[i]?=aa (aa a))(hk:δ[k]?=aa (aa b))(h:∀Q:DK,Q (.bl ai) M->nL a b M Q):No (gD (gB nL (gr i) (gr k))) δ M:=λQ q=>by unfold gD gB gr;rw[hi];dsimp only;rw[hk];exact h _ q
theorem UG{a b:D}(hi:δ[i]?=aa (aa a))(hk:δ[k]?=aa (aa b))(h:∀Q:DK,Q (.bl ai) M->nL a (.tup [b,.str "steps"]) M Q):No (gD (gB nL (gr i) (iN (gp (gr k) (gp (dC (.str "steps")) gw))))) δ M:=λQ q=>by unfold gD gB gr iN gp dC gw;rw[hi];dsimp only;rw[hk];exact⟨am rfl,h _ q⟩
theorem UH{x:D}{Q:Bool->Ms->Prop}(hi:δ[i]?=aa (aa x))(h:∀Q:DK,Q (.bl ai) M->nL x x M Q)(q:Q ai M):gr i δ M λy M2=>nL x y M2 λd M1=>match d with|.bl b=>Q b M1|_=>False:=by unfold gr;rw[hi];exact h _ q
theorem Dr{c:DT}{t u:DS}{E:iE}(h:No c δ M)(q:u E δ M):iC c t u E δ M:=h _ (by show(if ai=ah then _ else _);rw[if_neg ap];exact q)
theorem Fi{c:DT}{t v:DS}{E:iE}(h:No c δ M)(q:v E δ M):gN (iC c t gW) v E δ M:=Dr h q
theorem Ry{c:DT}{t u:DS}{E:iE}(h:Zr c δ M)(q:t E δ M):iC c t u E δ M:=h _ (by show(if ah=ah then _ else _);rw[if_pos rfl];exact q)
theorem K8{a b:DT}(h:No a δ M):No (qO a b) δ M:=λQ q=>h _ (by show(if ai=ah then _ else _);rw[if_neg ap];exact q)
theorem K9{a b:DT}(h:Zr a δ M)(g:No b δ M):No (qO a b) δ M:=λQ q=>h _ (by show(if ah=ah then _ else _);rw[if_pos rfl];exact g Q q)
end
def Rz:DS:=(gN (iC (qO (gD (gB (qA λi j=>.bl (decide (j<=i))) (gr 14) (gr 12))) (gD (gB nL (gr 15) (gr 11)))) (ip (dC (.bl ai))) gW)
 (iC (qO (gD (gB BS (gr 14) (gr 12))) (gD (gB nL (gr 15) (iN (gp (gr 5) (gp (dC (.str "steps")) gw)))))) (ip (dC (.bl ai))) gW))
def VG:DS:=(gN (ib 15 (iU (cl oX) (gp (iq (P5 rP (gp (gr 4) gw))) (gp (gr 3) (gp (gr 3) (gp (gr 14) gw))))))
 Rz)
def VH:DS:=(gN (iC (gD (gB nL (iU (cl oX) (gp (iq (P5 rP (gp (gr 4) gw))) (gp (gr 3) (gp (gr 13) (gp (dC (.int 5)) gw))))) (gr 13))) (ip (dC (.bl ai))) gW)
 (iC (gD (gB nL (iU (cl oX) (gp (iq (P5 rP (gp (gr 4) gw))) (gp (gr 3) (gp (gr 13) (gp (dC (.int 0)) gw))))) (iN (gp (iq (iw gw)) (gp (dC (.str "steps")) gw))))) (ip (dC (.bl ai))) gW))
def Ye:DS:=(gN (ib 8 (iU jI (gp (gr 2) (gp (dC (.int 200)) gw))))
 (gN (ib 9 (iU jI (gp (gr 2) (gp (dC (.int 4)) gw))))
 (gN (ib 4 (gB gA (gr 4) (iq (iw (gp (gB gA (dC (.int 16)) (gr 9)) (gp (dC (.int 0)) (gp (dC (.int 0)) (gp (dC (.int 0)) (gp (gr 8) (gp (gB gA (dC (.int 64)) (gr 9)) gw))))))))))
 (gN (lz (HZ "list" jr (gr 5) (gp (gr 8) gw)))
 (ib 6 (gB gA (gr 6) (dC (.int 2))))))))
def xx:DS:=(gN (uf (sP (iq (iw (gp (gB (qA λi j=>.int (i- j)) (gB (qA λi j=>.int (i- j)) (gr 3) (dC (.int 1))) (iU jI (gp (gr 2) (gp (dC (.int 9)) gw)))) (gp (gB gA (gB gA (gr 3) (iU mN (gp (gr 4) gw))) (iU jI (gp (gr 2) (gp (dC (.int 9)) gw)))) gw))))) (gR 13) VH) (uf (sP (iq (iw (gp (gB (qA λi j=>.int (i- j)) (gr 12) (dC (.int 1))) (gp (gr 12) (gp (dC (.int 300)) gw)))))) (gR 14) VG))
def Gv:DS:=(gN (qQ (iU va (gp (gr 2) (gp (gr 3) (gp (iU mN (gp (gr 4) gw)) gw)))) (pQ 2 (iO (gR 10) (iO (gR 11) qX))))
 (gN (ib 4 (gB gA (gr 4) (gr 10)))
 (gN (ib 12 (gB gA (gr 6) (dC (.int 1))))
 (gN (iC (gD (gB (Ls ai) (gB iZ (gr 10) (dC (.int 0))) (iN (gp (dC (.int 81)) (gp (dC (.int 83)) gw))))) (ib 12 (gB gA (gr 6) (dC (.int 2)))) gW)
 (gN (iC (qO (gD (gB JQ (gr 11) (gB (qA λi j=>.int (i- j)) (gB gA (gr 3) (iU mN (gp (gr 4) gw))) (iU mN (gp (gr 10) gw))))) (gD (gB (Ls ai) (gB iZ (gr 10) (dC (.int 0))) (iN (gp (dC (.int 7)) (gp (dC (.int 255)) (gp (dC (.int 16)) gw))))))) (ib 12 (gB gA (gr 6) (dC (.int 1)))) gW)
 xx)))))
def zu:DS:=(gN (ib 4 (iq (iw gw)))
 (gN (ib 5 (ue (iw gw)))
 (gN (ib 6 (dC (.int 0)))
 (gN (uf (wA (gp (iU jI (gp (gr 2) (gp (dC (.int 6)) gw))) gw)) (gR 7) Ye)
 Gv))))
theorem RD:Ge lL jI va (cl oX)=gN (uf (sP (gB gA (Tr (gr 0) sQ (BX (dC (.int 12)))) (iq (iw (gp (dC (.int 0)) gw))))) (gR 1) (gN (ib 2 (iU lL (gp (gr 1) gw))) (gN (ib 3 (gB iZ (iq (iw (gp (dC (.int 0)) (gp (dC (.int 64)) (gp (iU jI (gp (gr 2) (gp (dC (.int 3000)) gw))) gw))))) (iU jI (gp (gr 2) (gp (dC (.int 3)) gw))))) zu))) (ip (dC (.bl ah))):=rfl
theorem Fj{E:iE}{d0 d1 d2 d6 d7 d8 d9 Ds zv zw:Option D}{b place:Int}{cs nF:List Int}{j n jC:Nat}{M:Ms}(hc:Cs cs)(hn:n<=1000)(hj:M[j]?=aa (aa (.lst (iD nF))))(ev:Ev cs b n b OI (if jC<=n then .inr place else .inl nF))
(q:∀z,E.nx [d0,d1,d2,aa (.int b),aa (.lst (iD cs)),aa (.loc j),d6,d7,d8,d9,Ds,aa (.int place),aa (.int (jC:Nat)),zv,aa (.int (n:Nat)),z] M):
  VG E [d0,d1,d2,aa (.int b),aa (.lst (iD cs)),aa (.loc j),d6,d7,d8,d9,Ds,aa (.int place),aa (.int (jC:Nat)),zv,aa (.int (n:Nat)),zw] M:=by
 unfold VG;refine⟨?_,cs,b,b,n,_,rfl,hc,hn,ev,?_⟩
 ·show(nK (iD cs)&&(ah&&(ah&&(ah&&ah))))=ah;rw[kO];rfl
 by_cases h:jC<=n
 ·rw[if_pos h];have g1:decide ((jC:Int)<=(n:Int))=ah:=decide_eq_true (by omega);have g2:decide ((n:Int)<(jC:Int))=ai:=decide_eq_false (by omega);show Rz E [d0,d1,d2,aa (.int b),aa (.lst (iD cs)),aa (.loc j),d6,d7,d8,d9,Ds,aa (.int place),aa (.int (jC:Nat)),zv,aa (.int (n:Nat)),aa (X6 (.inr place))] M;refine Fi ?_ ?_
  ·exact K9 (λQ q=>UE (x:=(n:Int)) (y:=(jC:Int)) rfl rfl (by rw[g1];exact q)) (Yd (a:=.int place) (b:=.int place) rfl rfl λQ q=>ne_int q)
  refine Dr ?_ ?_
  ·exact K8 (λQ q=>UF (x:=(n:Int)) (y:=(jC:Int)) rfl rfl (by rw[g2];exact q))
  exact q _
 ·rw[if_neg h];have g1:decide ((jC:Int)<=(n:Int))=ai:=decide_eq_false (by omega);have g2:decide ((n:Int)<(jC:Int))=ah:=decide_eq_true (by omega);show Rz E [d0,d1,d2,aa (.int b),aa (.lst (iD cs)),aa (.loc j),d6,d7,d8,d9,Ds,aa (.int place),aa (.int (jC:Nat)),zv,aa (.int (n:Nat)),aa (X6 (.inl nF))] M;refine Fi ?_ ?_
  ·exact K8 (λQ q=>UE (x:=(n:Int)) (y:=(jC:Int)) rfl rfl (by rw[g1];exact q))
  refine Dr ?_ ?_
  ·exact K9 (λQ q=>UF (x:=(n:Int)) (y:=(jC:Int)) rfl rfl (by rw[g2];exact q)) (UG (a:=Rv nF) (b:=.loc j) rfl rfl λQ q=>Rx hj q)
  exact q _
theorem La{E:iE}{d0 d1 d2 d5 d6 d7 d8 d9 Ds NF NG Bp zw:Option D}{b st:Int}{cs:List Int}{M:Ms}(hc:Cs cs)(hr:Hr cs b st OI)(ho:Bo cs (st- b)=ak)
(q:E.nx [d0,d1,d2,aa (.int b),aa (.lst (iD cs)),d5,d6,d7,d8,d9,Ds,NF,NG,aa (.int st),Bp,zw] M):
  VH E [d0,d1,d2,aa (.int b),aa (.lst (iD cs)),d5,d6,d7,d8,d9,Ds,NF,NG,aa (.int st),Bp,zw] M:=by
 have e:(nK (iD cs)&&(ah&&(ah&&(ah&&ah))))=ah:=by rw[kO];rfl
 unfold VH;refine Fi ?_ (Dr ?_ q)
 ·intro Q q;refine⟨e,cs,b,st,5,.inr st,rfl,hc,by decide,.bad hr ho,?_⟩;exact UH (x:=.int st) rfl (λQ q=>ne_int q) q
 ·intro Q q;refine⟨e,cs,b,st,0,.inl [],rfl,hc,by decide,.done,?_⟩;refine⟨am rfl,?_⟩;exact⟨am rfl,UD (xs:=[]) q⟩
theorem Yf:Ie OI:=⟨rfl,by decide,by decide⟩
theorem Lb{E:iE}{d0 d1 d6 d7 d8 d9 Ds zv Bp zw:Option D}{b place n:Int}{cs nF:List Int}{j k jC:Nat}{M:Ms}(hc:Cs cs)(b0:0<=b)(b1:b<=3000)(hs:Src M k n)(hn:n<990000)(hj:M[j]?=aa (aa (.lst (iD nF))))(jk:j≠k)(c1:1<=jC)(c2:jC<=100)
(ev:∀n,jC<=n+1->Ev cs b n b OI (if jC<=n then .inr place else .inl nF))
(q:∀Dt Du Dv M',Src M' k (n+1+1)->E.nx [d0,d1,aa (.loc k),aa (.int b),aa (.lst (iD cs)),aa (.loc j),d6,d7,d8,d9,Ds,aa (.int place),aa (.int (jC:Nat)),Dt,Du,Dv] M'):
  xx E [d0,d1,aa (.loc k),aa (.int b),aa (.lst (iD cs)),aa (.loc j),d6,d7,d8,d9,Ds,aa (.int place),aa (.int (jC:Nat)),zv,Bp,zw] M:=by
 have hl:=hc.l;have jl:j<M.length:=(aC.mp hj).1;unfold xx;generalize hS:VH=bS;generalize hL:VG=bL;refine⟨k,9,n,rfl,by decide,by decide,hs,by omega,λr1 M1 a0 a1 s1 Ly=>?_⟩;have kf:((iD cs).length:Int)=cs.length:=by rw[aR]
 refine⟨(iD cs).length,rfl,k,9,n+1,rfl,by decide,by decide,s1,by omega,λr2 M2 e0 e1 s2 R4=>?_⟩;refine⟨am rfl,_,rfl,rfl,?_⟩;rw[kf];subst hS;refine La hc ⟨⟨by omega,by omega⟩,⟨by omega,by omega⟩,Yf⟩ (Bb (.inl (by omega))) ?_;refine⟨rfl,?_⟩;refine La hc ⟨⟨by omega,by omega⟩,⟨by omega,by omega⟩,Yf⟩ (Bb (.inr (by omega))) ?_;refine⟨rfl,?_⟩;have K1:M2[j]?=aa (aa (.lst (iD nF))):=by rw[R4.2 j (aB jl Ly.1) jk,Ly.2 j jl jk,hj]
 refine⟨am rfl,_,rfl,rfl,?_⟩;subst hL;dsimp only;rw[show(jC:Int)- 1=((jC- 1:Nat):Int) by omega];refine Fj (n:=jC- 1) hc (by omega) K1 (ev _ (by omega)) λz=>⟨rfl,?_⟩;refine Fj (n:=jC) hc (by omega) K1 (ev _ (by omega)) λz=>⟨rfl,?_⟩;refine Fj (n:=300) hc (by decide) K1 (ev _ (by omega)) λz=>⟨rfl,?_⟩;exact q _ _ _ _ s2
def Lc:DS:=(gN (iC (qO (gD (gB JQ (gr 11) (gB (qA λi j=>.int (i- j)) (gB gA (gr 3) (iU mN (gp (gr 4) gw))) (iU mN (gp (gr 10) gw))))) (gD (gB (Ls ai) (gB iZ (gr 10) (dC (.int 0))) (iN (gp (dC (.int 7)) (gp (dC (.int 255)) (gp (dC (.int 16)) gw))))))) (ib 12 (gB gA (gr 6) (dC (.int 1)))) gW)
 xx)
def Gw:DS:=(gN (iC (gD (gB (Ls ai) (gB iZ (gr 10) (dC (.int 0))) (iN (gp (dC (.int 81)) (gp (dC (.int 83)) gw))))) (ib 12 (gB gA (gr 6) (dC (.int 2)))) gW) Lc)
theorem Be{cs:List Int}:((iD cs).length:Int)=cs.length:=by rw[aR]
theorem RE{f:Int->Int->D}{i j:Int}{M:Ms}{Q:DK}(q:Q (f i j) M):qA f (.int i) (.int j) M Q:=q
theorem Zt{x:Int}{r:List Int}:sF (iD (x::r)) 0=aa (.int x):=by unfold sF BH;rw[if_pos (Int.le_refl 0),if_pos (by simp)];rfl
theorem in2{c i j:Int}{M:Ms}{Q:DK}(q:Q (.bl (decide (c=i\/c=j))) M):Ls ai (.int c) (.tup [.int i,.int j]) M Q:=⟨decide (c=i\/c=j),by
 show aa ((i==c)||((j==c)||false))=_;by_cases h:c=i
 ·subst h;simp
 by_cases g:c=j
 ·subst g;simp
 ·rw[decide_eq_false (by omega),beq_eq_false_iff_ne.mpr (by omega),beq_eq_false_iff_ne.mpr (by omega)];rfl,q⟩
theorem in3{c i j l:Int}{M:Ms}{Q:DK}(q:Q (.bl (decide (c=i\/c=j\/c=l))) M):Ls ai (.int c) (.tup [.int i,.int j,.int l]) M Q:=⟨decide (c=i\/c=j\/c=l),by
 show aa ((i==c)||((j==c)||((l==c)||false)))=_;by_cases h:c=i
 ·subst h;simp
 by_cases g:c=j
 ·subst g;simp
 by_cases f:c=l
 ·subst f;simp
 ·rw[decide_eq_false (by omega),beq_eq_false_iff_ne.mpr (by omega),beq_eq_false_iff_ne.mpr (by omega),beq_eq_false_iff_ne.mpr (by omega)];rfl,q⟩
theorem UI{c:DT}{t u:DS}{E:iE}{δ:kZ}{M:Ms}{b:Bool}(h:∀Q:Bool->Ms->Prop,Q b M->c δ M Q)(h1:b=ah->t E δ M)(h2:b=ai->u E δ M):iC c t u E δ M:=by
 cases b with
 |true=>exact Ry h (h1 rfl)
 |false=>exact Dr h (h2 rfl)
theorem OP{E:iE}{d0 d1 d2 d5 d7 d8 d9 zv Bp zw:Option D}{b place x MC Yg:Int}{cs r:List Int}{M:Ms}
(q:xx E [d0,d1,d2,aa (.int b),aa (.lst (iD cs)),d5,aa (.int MC),d7,d8,d9,aa (.lst (iD (x::r))),aa (.int place),aa (.int Yg),zv,Bp,zw] M)
(hx:x=7\/x=255\/x=16->Yg=MC+1):
  Lc E [d0,d1,d2,aa (.int b),aa (.lst (iD cs)),d5,aa (.int MC),d7,d8,d9,aa (.lst (iD (x::r))),aa (.int place),aa (.int Yg),zv,Bp,zw] M:=by
 unfold Lc;generalize hB:xx=B3 at*;refine UI (b:=decide (place=b+cs.length- (x::r).length)&&decide (x=7\/x=255\/x=16)) (λQ q=>?_) (λh=>?_) λh=>q
 ·have e:∀Q:DK,Q (.bl (decide (place=b+cs.length- (x::r).length))) M->JQ (.int place) (.int (b+cs.length- (x::r).length)) M Q:=λQ q=>by refine⟨⟨rfl,rfl,cU _,cU _⟩,?_⟩;show Q (.bl (place==_)) M;rw[show(place==b+cs.length- (x::r).length)=decide (place=b+cs.length- (x::r).length) from rfl];exact q
  refine⟨(iD cs).length,rfl,(iD (x::r)).length,rfl,?_⟩;rw[Be,Be];refine RE ?_;refine e _ ?_;by_cases h:place=b+cs.length- (x::r).length
  ·rw[decide_eq_true h] at q ⊢;show(if ah=ah then _ else _);rw[if_pos rfl];exact⟨_,Zt,am rfl,in3 (by rw[Bool.true_and] at q;exact q)⟩
  ·rw[decide_eq_false h] at q ⊢;show(if ai=ah then _ else _);rw[if_neg ap];exact q
 ·rw[aP,decide_eq_true_eq,decide_eq_true_eq] at h;have:=hx h.2;subst this;exact q
theorem UJ{E:iE}{d0 d1 d2 d5 d7 d8 d9 zv Bp zw:Option D}{b place MC:Int}{cs more:List Int}{M:Ms}(hm:more≠[])
(q:xx E [d0,d1,d2,aa (.int b),aa (.lst (iD cs)),d5,aa (.int MC),d7,d8,d9,aa (.lst (iD more)),aa (.int place),aa (.int (MC+(cm more:Nat))),zv,Bp,zw] M):
  Gw E [d0,d1,d2,aa (.int b),aa (.lst (iD cs)),d5,aa (.int MC),d7,d8,d9,aa (.lst (iD more)),aa (.int place),aa (.int (MC+1)),zv,Bp,zw] M:=by
 cases more with
 |nil=>exact absurd rfl hm
 |cons x r=>
  unfold Gw;refine UI (b:=decide (x=81\/x=83)) (λQ q=>?_) (λh=>?_) λh=>?_
  ·exact⟨_,Zt,am rfl,in2 q⟩
  ·have h:=of_decide_eq_true h;have e:cm (x::r)=2:=by unfold cm;exact if_pos h
   rw[e] at q;exact OP q (by omega)
  ·have h:=of_decide_eq_false h;have e:cm (x::r)=1:=by unfold cm;exact if_neg h
   rw[e] at q;exact OP q (by omega)
theorem RG{b:Int}{ps:List (Int×Int)}{more:List Int}{place:Int}(hp:Fh ps)(hm:ps.length<=5)(b0:0<=b)(b1:b<=3000)(B:Dn b (flat ps).length more place):
  ∀n:Nat,2*ps.length+cm more<=n+1->Ev (flat ps++more) b n b OI (if 2*ps.length+cm more<=n then .inr place else .inl (nums ps)):=λn hn=>by
 have hl:=tR ps;have c1:1<=cm more:=by unfold cm;split<;>omega
 have e:n=(n- 2*ps.length)+2*ps.length:=by omega
 have:=Dp (b:=b) b0 b1 (o:=if 2*ps.length+cm more<=n then .inr place else .inl (nums ps)) (n:=n- 2*ps.length) (more:=more) ps [] OI hp Yf (by show 0+_<=_;omega) (by show 0+_<=_;omega) λs' h1 h2 h3=>by
  have h2:s'.nF=nums ps:=h2;have h3:s'.kept=[]:=h3;have:=Ru (pre:=flat ps) (s:=s') b0 b1 rfl (by omega) h1 (by rw[h3];decide) B (n- 2*ps.length);rw[h2] at this;have g:(if cm more<=n- 2*ps.length then(.inr place:Oc) else .inl (nums ps))=if 2*ps.length+cm more<=n then .inr place else .inl (nums ps):=by
   by_cases h:cm more<=n- 2*ps.length
   ·rw[if_pos h,if_pos (by omega)]
   ·rw[if_neg h,if_neg (by omega)]
  rw[g] at this;exact this
 rw[<-e] at this;simpa using this
theorem RH{b t:Int}{more:List Int}{place:Int}(b0:0<=b)(b1:b<=3000)(t0:0<=t)(t1:t<=30)(B:Dn b t more place):more.length<=8/\more≠[]/\∀x∈more,0<=x/\x<256:=by cases B<;>refine⟨by simp[two],by simp,λx h=>?_⟩<;>simp[two] at h<;>unfold uT at*<;>omega
theorem NH{ps:List (Int×Int)}(hp:Fh ps):∀x∈flat ps,0<=x/\x<256:=by intro x h;unfold flat at h;simp only [List.mem_flatten,List.mem_map] at h;obtain⟨_,⟨p,hp',rfl⟩,h⟩:=h;have:=hp.c p hp';unfold pc at h;simp at h;omega
theorem UK:Gv=gN (qQ (iU va (gp (gr 2) (gp (gr 3) (gp (iU mN (gp (gr 4) gw)) gw)))) (pQ 2 (iO (gR 10) (iO (gR 11) qX))))
 (gN (ib 4 (gB gA (gr 4) (gr 10))) (gN (ib 12 (gB gA (gr 6) (dC (.int 1)))) Gw)):=rfl
theorem UL{E:iE}{d0 d1 d7 d8 d9 Ds NF NG zv Bp zw:Option D}{b n:Int}{ps:List (Int×Int)}{j k:Nat}{M:Ms}(hp:Fh ps)(hm:ps.length<=5)(b0:0<=b)(b1:b<=3000)(hs:Src M k n)(hn:n<890000)(hj:M[j]?=aa (aa (.lst (iD (nums ps)))))(jk:j≠k)
(q:∀z4 Gx Gy Gz Dt Du Dv M',Src M' k (n+10+1+1)->E.nx [d0,d1,aa (.loc k),aa (.int b),z4,aa (.loc j),aa (.int (2*ps.length:Nat)),d7,d8,d9,Gx,Gy,Gz,Dt,Du,Dv] M'):
  Gv E [d0,d1,aa (.loc k),aa (.int b),aa (.lst (iD (flat ps))),aa (.loc j),aa (.int (2*ps.length:Nat)),d7,d8,d9,Ds,NF,NG,zv,Bp,zw] M:=by
 have hl:=tR ps;have jl:j<M.length:=(aC.mp hj).1;rw[UK];have kf:((iD (flat ps)).length:Int)=(flat ps).length:=Be;refine⟨(iD (flat ps)).length,rfl,k,b,(iD (flat ps)).length,n,rfl,hs,by omega,b0,b1,by omega,by omega,λmore place M1 B s1 sb=>?_⟩;rw[kf] at B;obtain⟨m1,m2,m3⟩:=RH b0 b1 (by omega) (by omega) B;have hc:Cs (flat ps++more):=⟨λx h=>(bi.mp h).elim (NH hp x) (m3 x),by rw[bw];omega⟩;refine⟨rfl,rfl,?_⟩;refine⟨?_,?_⟩
 ·rw[aR,aR];exact aT (show _<=60 by omega) (by decide)
 have e4:iD (flat ps)++iD more=iD (flat ps++more):=ed.symm;show Gw E [d0,d1,aa (.loc k),aa (.int b),aa (.lst (iD (flat ps)++iD more)),aa (.loc j),aa (.int (2*ps.length:Nat)),d7,d8,d9,aa (.lst (iD more)),aa (.int place),aa (.int ((2*ps.length:Nat)+1)),zv,Bp,zw] M1;rw[e4];refine UJ m2 ?_;have ec:((2*ps.length:Nat):Int)+(cm more:Nat)=((2*ps.length+cm more:Nat):Int):=by push_cast;rfl
 rw[ec];have c1:1<=cm more/\cm more<=2:=by unfold cm;split<;>omega
 exact Lb hc b0 b1 s1 (by omega) (by rw[sb.2 j jl jk];exact hj) jk (by omega) (by omega) (RG hp hm b0 b1 B) λDt Du Dv M' s'=>q _ _ _ _ _ _ _ M' s'
theorem HQ(ps:List (Int×Int))(p:Int×Int):iD (flat ps)++iD (pc p)=iD (flat (ps++[p])):=by unfold flat;simp
theorem HR(ps:List (Int×Int))(p:Int×Int):iD (nums ps)++[.int p.1]=iD (nums (ps++[p])):=by unfold nums;simp
theorem Ld(xs:List Int):(iD xs).length=xs.length:=aR ..
theorem Le(ps:List (Int×Int)):(nums ps).length=ps.length:=aR ..
theorem OQ{st:Ms->Prop}(l8:∀M,st M){E:iE}{d0 d1 Ds NF NG zv Bp zw:Option D}{b N:Int}{j k:Nat}(jk:j≠k)(hN:N<900000)
(q:∀Qi z7 z8 z9 M',Fh Qi->Qi.length<=5->Src M' k N->M'[j]?=aa (aa (.lst (iD (nums Qi))))->E.nx [d0,d1,aa (.loc k),aa (.int b),aa (.lst (iD (flat Qi))),aa (.loc j),aa (.int (2*Qi.length:Nat)),z7,z8,z9,Ds,NF,NG,zv,Bp,zw] M'):
  ∀(xs:List D) (ps:List (Int×Int)) (z7 z8 z9:Option D) (M:Ms) (n:Int),Fh ps->xs.length+ps.length<=5->Src M k n->n+2*xs.length<=N->M[j]?=aa (aa (.lst (iD (nums ps))))->
   lB (gR 7) Ye st E xs [d0,d1,aa (.loc k),aa (.int b),aa (.lst (iD (flat ps))),aa (.loc j),aa (.int (2*ps.length:Nat)),z7,z8,z9,Ds,NF,NG,zv,Bp,zw] M
 |[],ps,z7,z8,z9,M,n,hp,hl,hs,hn,hj=>by rw[cw] at hl hn;exact q ps z7 z8 z9 M hp (by omega) (hs.le (by omega)) hj
 |x::xs,ps,z7,z8,z9,M,n,hp,hl,hs,hn,hj=>by
  rw[ax] at hl hn;have jl:j<M.length:=(aC.mp hj).1;have fl:=tR ps;refine⟨k,200,n,rfl,by decide,by decide,hs,by omega,λr M1 a0 a1 s1 Ly=>?_⟩;refine⟨k,4,n+1,rfl,by decide,by decide,s1,by omega,λy M2 e0 e1 s2 R4=>?_⟩;have K1:M2[j]?=aa (aa (.lst (iD (nums ps)))):=by rw[R4.2 j (aB jl Ly.1) jk,Ly.2 j jl jk,hj]
  refine⟨am rfl,?_,?_⟩
  ·rw[Ld,fl];exact aT (show _<=60 by show _+6<=60;omega) (by decide)
  refine⟨A9 K1,_,K1,aB (show _<100 by rw[Ld,Le];omega) (by decide),l8 _,?_⟩;have e4:=HQ ps (r,y);have e5:=HR ps (r,y);have e6:((2*ps.length:Nat):Int)+2=(2*(ps++[(r,y)]).length:Nat):=by simp;omega
  have Uz:(M2.set j (aa (.lst (iD (nums ps)++[.int r]))))[j]?=aa (aa (.lst (iD (nums (ps++[(r,y)]))))):=by rw[Ba K1];exact congrArg (λz=>aa (aa (OD.lst z))) e5
  have WI:Src (M2.set j (aa (.lst (iD (nums ps)++[.int r])))) k (n+1+1):=by unfold Src;rw[bH jk];exact s2
  have hp3:Fh (ps++[(r,y)]):=⟨λp h=>(bi.mp h).elim (hp.c p) λh=>by rw[bv] at h;subst h;exact⟨a0,a1,e0,e1⟩⟩
  have:=OQ l8 jk hN q xs (ps++[(r,y)]) (aa x) (aa (.int r)) (aa (.int y)) _ (n+1+1) hp3 (by simp;omega) WI (by omega) Uz;rw[<-e4,<-e6] at this;exact this
theorem UM{E:iE}{d0 d1 d4 d5 d6 d7 d8 d9 Ds NF NG zv Bp zw:Option D}{b n:Int}{k:Nat}{M:Ms}(b0:0<=b)(b1:b<=3000)(hs:Src M k n)(hn:n<800000)
(q:∀z4 z5 z6 z7 z8 z9 Gx Gy Gz Dt Du Dv M',E.nx [d0,d1,aa (.loc k),aa (.int b),z4,z5,z6,z7,z8,z9,Gx,Gy,Gz,Dt,Du,Dv] M'):
  zu E [d0,d1,aa (.loc k),aa (.int b),d4,d5,d6,d7,d8,d9,Ds,NF,NG,zv,Bp,zw] M:=by
 have kl:=hs.lt;unfold zu;generalize hB:Gv=B2;generalize h7:Ye=b7;refine⟨am rfl,am rfl,k,6,n,rfl,by decide,by decide,hs.push,by omega,λr M1 a0 a1 s1 Ly=>?_⟩;refine⟨⟨by omega,by omega⟩,trivial,?_⟩;subst hB h7;have jk:M.length≠k:=by omega
 have hl:(xV 0 r.toNat).length=r.toNat:=by unfold xV;simp
 refine OQ (b:=b) (N:=n+1+10) (λ_=>trivial) jk (by omega) (λQi z7 z8 z9 M' hp hl hs hj=>?_) (xV 0 r.toNat) [] _ _ _ M1 (n+1) ⟨nofun⟩ ?_ s1 ?_ ?_
 ·exact UL hp hl b0 b1 hs (by omega) hj jk λz4 Gx Gy Gz Dt Du Dv uL _=>q _ _ _ _ _ _ _ _ _ _ _ _ _
 ·rw[hl];simp;omega
 ·rw[hl];omega
 ·rw[Ly.2 M.length (by simp) jk];exact qD
def vb:DS:=(gN (ib 2 (iU lL (gp (gr 1) gw))) (gN (ib 3 (gB iZ (iq (iw (gp (dC (.int 0)) (gp (dC (.int 64)) (gp (iU jI (gp (gr 2) (gp (dC (.int 3000)) gw))) gw))))) (iU jI (gp (gr 2) (gp (dC (.int 3)) gw))))) zu))
theorem UN{E:iE}{d0 z2 z3 z4 z5 z6 z7 z8 z9 Gx Gy Gz Dt Du Dv:Option D}{x:Int}{M:Ms}
(q:∀z2 z3 z4 z5 z6 z7 z8 z9 Gx Gy Gz Dt Du Dv M',E.nx [d0,aa (.int x),z2,z3,z4,z5,z6,z7,z8,z9,Gx,Gy,Gz,Dt,Du,Dv] M'):
  vb E [d0,aa (.int x),z2,z3,z4,z5,z6,z7,z8,z9,Gx,Gy,Gz,Dt,Du,Dv] M:=by
 have s0:Src (M++[aa (.lst [.int (x/2),.int (x%2),.int 0,.int x])]) M.length 0:=⟨_,_,_,_,qD,Int.le_refl _,Int.le_refl _⟩;have lm:∀(b:Int) (M2:Ms),0<=b->b<=3000->Src M2 M.length 2->zu E [d0,aa (.int x),aa (.loc M.length),aa (.int b),z4,z5,z6,z7,z8,z9,Gx,Gy,Gz,Dt,Du,Dv] M2:=λb M2 b0 b1 hs=>
  UM b0 b1 hs (by decide) λy4 y5 y6 y7 y8 y9 y10 y11 y12 y13 y14 y15 M'=>q _ _ _ _ _ _ _ _ _ _ _ _ _ _ M'
 unfold vb;generalize zu=B1 at*;refine⟨M.length,3000,0,rfl,by decide,by decide,s0,by decide,λr M1 a0 a1 s1 Ly=>?_⟩;refine⟨am rfl,M.length,3,0+1,rfl,by decide,by decide,s1,by decide,λy M2 e0 e1 s2 R4=>?_⟩;have:y=0\/y=1\/y=2:=by omega
 rcases this with rfl|rfl|rfl
 ·exact⟨.int 0,rfl,lm 0 M2 (by decide) (by decide) s2⟩
 ·exact⟨.int 64,rfl,lm 64 M2 (by decide) (by decide) s2⟩
 ·exact⟨.int r,rfl,lm r M2 a0 (by omega) s2⟩
theorem Dw{st:Ms->Prop}(l8:∀M,st M){E:iE}{d0:Option D}(q:∀δ M,E.nx δ M):∀(xs:List Int) (z1 z2 z3 z4 z5 z6 z7 z8 z9 Gx Gy Gz Dt Du Dv:Option D) (M:Ms),
  lB (gR 1) vb st E (iD xs) [d0,z1,z2,z3,z4,z5,z6,z7,z8,z9,Gx,Gy,Gz,Dt,Du,Dv] M
 |[],_,_,_,_,_,_,_,_,_,_,_,_,_,_,_,M=>q _ _
 |x::xs,z1,z2,z3,z4,z5,z6,z7,z8,z9,Gx,Gy,Gz,Dt,Du,Dv,M=>by have ih:=Dw l8 (d0:=d0) q xs;have:=UN (E:={E with nx:=λjY M'=>st M'/\lB (gR 1) vb st E (iD xs) jY M',ct:=λjY M'=>st M'/\lB (gR 1) vb st E (iD xs) jY M',bk:=E.nx}) (d0:=d0) (x:=x) (z2:=z2) (z3:=z3) (z4:=z4) (z5:=z5) (z6:=z6) (z7:=z7) (z8:=z8) (z9:=z9) (Gx:=Gx) (Gy:=Gy) (Gz:=Gz) (Dt:=Dt) (Du:=Du) (Dv:=Dv) (M:=M) λy2 y3 y4 y5 y6 y7 y8 y9 y10 y11 y12 y13 y14 y15 M'=>⟨l8 _,ih _ _ _ _ _ _ _ _ _ _ _ _ _ _ _ M'⟩;generalize vb=B0 at*;exact this
def GA:GP:=λds Q=>∃ns:List Int,ds=[.pd ns]/\Q (.bl ah)
theorem Lf{xs:List D}:cutD xs ak (aa 12)=xs.take 12:=by show cutD xs ak (aa ((12:Nat):Int))=_;unfold cutD;rw[HT.LY,HT.IP];simp
theorem NI:Ge lL jI va (cl oX)=gN (uf (sP (gB gA (Tr (gr 0) sQ (BX (dC (.int 12)))) (iq (iw (gp (dC (.int 0)) gw))))) (gR 1) vb) (ip (dC (.bl ah))):=RD
theorem RI:∀ds Q,GA ds Q->wv 16 1 (Ge lL jI va (cl oX)) ds Q:=λds Q ⟨ns,h,q⟩=>by
 subst h;rw[NI];refine⟨rfl,?_⟩;refine⟨am rfl,?_,?_⟩
 ·rw[Lf];simp;exact aT (show min 12 ns.length+1<=13 by omega) (by decide)
 refine⟨iD (ns.take 12++[0]),?_,rfl,?_⟩
 ·show aa (cutD (ns.map D.int) ak (aa 12)++[D.int 0])=_;rw[Lf];simp
 generalize hB:vb=B0;subst hB;refine Dw (λM=>rfl) ?_ _ _ _ _ _ _ _ _ _ _ _ _ _ _ _ _ _;exactλδ M=>⟨rfl,q⟩
end mO
namespace L3
open PySem PySem.Spec L2
mutual
noncomputable def Fk (K:W.Frag):Nat->D->ae->Bool
 |_,.non,.none=>ah
 |_,.bl b,.bool c=>b==c
 |_,.int i,.int j _=>i==j
 |_,.str x,.str y _=>x==y
 |n+1,.tup ds,.ref a=>match K.lookup a with
  |some o=>match o.cls,o.data with
   |.type t,.seq us _=>t=="tuple"&&Nat.ble us.size 1000&&zx K n ds us.toList
   |_,_=>ai
  |none=>ai
 |_,_,_=>ai
noncomputable def zx (K:W.Frag):Nat->List D->List ae->Bool
 |_,[],[]=>ah
 |n,d::ds,u::us=>Fk K n d u&&zx K n ds us
 |_,_,_=>ai
end
theorem Dx{K:W.Frag}{n:Nat}(ih:∀d u,Fk K n d u=ah->B5 K d u):∀(ds:List D) (us:List ae),zx K n ds us=ah->∃vs,Vals vs us/\∀α H,gu K α H ds vs
 |[],[],_=>⟨[],.nil,λ_ _=>gu.nil⟩
 |d::ds,u::us,h=>by unfold zx at h;rw[aP] at h;obtain⟨v,r,rr⟩:=ih d u h.1;obtain⟨vs,rz,rrz⟩:=Dx ih ds us h.2;exact⟨v::vs,.cons r rz,λα H=>gu.cons (rr α H) (rrz α H)⟩
 |[],_::_,h=>by unfold zx at h;cases h
 |_::_,[],h=>by unfold zx at h;cases h
theorem GB{K:W.Frag}:∀(n:Nat) (d:D) (u:ae),Fk K n d u=ah->B5 K d u:=λn=>by
 induction n with
 |zero=>
  intro d u h;unfold Fk at h;split at h
  ·exact⟨.non,rfl,λ_ _=>lX⟩
  ·cases beq_iff_eq.mp h;exact⟨.bl _,rfl,λ_ _=>jd⟩
  ·cases beq_iff_eq.mp h;exact⟨.int _,⟨_,rfl⟩,λ_ _=>iA⟩
  ·cases beq_iff_eq.mp h;exact⟨.str _,⟨_,rfl⟩,λ_ _=>mR⟩
  ·rename_i n' ds a e;cases e
  ·cases h
 |succ n ih=>
  intro d u h;unfold Fk at h;split at h
  ·exact⟨.non,rfl,λ_ _=>lX⟩
  ·cases beq_iff_eq.mp h;exact⟨.bl _,rfl,λ_ _=>jd⟩
  ·cases beq_iff_eq.mp h;exact⟨.int _,⟨_,rfl⟩,λ_ _=>iA⟩
  ·cases beq_iff_eq.mp h;exact⟨.str _,⟨_,rfl⟩,λ_ _=>mR⟩
  ·rename_i n' ds a e;cases e;split at h
   ·rename_i o ho;split at h
    ·rename_i t us z hc hd;rw[aP,aP] at h;obtain⟨⟨h1,h2⟩,h3⟩:=h;obtain⟨vs,rv,rr⟩:=Dx ih ds us.toList h3;refine⟨.ref a,rfl,λα H=>?_⟩;unfold Rep;exact⟨a,vs,rfl,.inr ⟨o,us,z,ho,by rw[hc,beq_iff_eq.mp h1],hd,aT (am h2) (by decide),rv⟩,rr α H⟩
    ·cases h
   ·cases h
  ·cases h
end L3
namespace mO
open PySem PySem.Spec L2 L3 FJ
theorem Lg{K:W.Frag}{C P:af}(h:Ga K C P):vk K C C:=by obtain⟨nm,q,N,bs,bm,jM,sn,sub,ab,col,dd,k0,k1,k2,k3,k5,l,t,c,b⟩:=h.oc;exact⟨⟨_,_,_,_,_,_,_,_,_,_,_,_,_,_,_,_,l,by rw[List.contains_cons];simp⟩,⟨_,_,_,_,_,_,_,_,_,_,_,_,_,_,_,_,l,b⟩⟩
theorem all_mk{l:W.OpenLaw}{w:aE}{K:W.Frag}{h:aq}{mg:ar->Option ae}{fa:af}(X:K.In h)(G:h.Ns aZ mg)(hfa:mg "law"=aa (.ref fa))
{cC cF cR cP ki iY tS vS Zu GC zy xy xz tT qh zA xA GD tU xB rn vd:af}{t0 t1 t2:gm}
(Fl:W.nsIn K aZ "CODES"=aa (aa (.ref cC)))
(cc:Fk K 2 tm (.ref cC)=ah)
(Fm:W.nsIn K aZ "FIRST_CELLS"=aa (aa (.ref cF)))
(cg:Fk K 2 jo (.ref cF)=ah)
(ll:W.nsIn K aZ "PartError"=aa (aa (.ref ki)))
(n8:W.nsIn K aZ "NoCells"=aa (aa (.ref iY)))
(qi:W.nsIn K aZ "BadBase"=aa (aa (.ref tS)))
(tV:W.nsIn K aZ "TooFar"=aa (aa (.ref vS)))
(sj:Ga K ki ki)
(lM:Ga K iY ki)
(VI:Xv K iY Zu "NoCells.__init__" jQ)
(xb:F4 K ki)
(VJ:W.findIn K (.ref iY) "place"=aa ak)
(xC:W.kitOne K (.ref iY) (.ref iY)=aa ah)
(xD:W.kitOne K (.ref iY) (.ref tS)=aa ai)
(Bf:W.kitOne K (.ref iY) (.ref vS)=aa ai)
(Lh:W.nsIn K aZ "Run"=aa (aa (.ref cR)))
(tW:W.nsIn K aZ "PlacedCells"=aa (aa (.ref cP)))
(DQ:CF K cR)
(Lz:CF K cP)
(Bg:W.findIn K (.ref cR) "__init__"=aa (aa (.ref GC)))
(uA:W.findIn K (.ref cR) "do_row"=aa (aa (.ref zy)))
(sk:W.findIn K (.ref cR) "do_call"=aa (aa (.ref xy)))
(xE:W.findIn K (.ref cR) "do_back"=aa (aa (.ref xz)))
(oY:W.findIn K (.ref cR) "do_jumpby"=aa (aa (.ref tT)))
(mH:W.findIn K (.ref cR) "do_in_boxes"=aa (aa (.ref qh)))
(zB:W.findIn K (.ref cR) "do_ask"=aa (aa (.ref zA)))
(sr:W.findIn K (.ref cR) "do_load"=aa (aa (.ref xA)))
(Bh:W.findIn K (.ref cP) "__init__"=aa (aa (.ref GD)))
(oZ:W.findIn K (.ref cP) "read_with"=aa (aa (.ref tU)))
(su:W.findIn K (.ref cP) "code_at"=aa (aa (.ref xB)))
(nB:W.findIn K (.ref cP) "numbers_at"=aa (aa (.ref rn)))
(qj:W.findIn K (.ref cP) "table_at"=aa (aa (.ref vd)))
(vT:MF K "__init__" "Run.__init__" mC GC)
(n9:MF K "do_row" "Run.do_row" kK zy)
(mI:MF K "do_call" "Run.do_call" j5 xy)
(sw:MF K "do_back" "Run.do_back" yk xz)
(kR:MF K "do_jumpby" "Run.do_jumpby" jB tT)
(jT:MF K "do_in_boxes" "Run.do_in_boxes" ji qh)
(uB:MF K "do_ask" "Run.do_ask" Ay zA)
(mJ:MF K "do_load" "Run.do_load" j6 xA)
(vU:MF K "__init__" "PlacedCells.__init__" i7 GD)
(kT:MF K "read_with" "PlacedCells.read_with" iz tU)
(mK:MF K "code_at" "PlacedCells.code_at" iL xB)
(ka:MF K "numbers_at" "PlacedCells.numbers_at" iu rn)
(lN:MF K "table_at" "PlacedCells.table_at" iI vd)
(xF:W.findIn K (.ref cR) "store"=aa ak)
(uC:W.findIn K (.ref cR) "inputs"=aa ak)
(Bi:W.findIn K (.ref cR) "used"=aa ak)
(xG:W.findIn K (.ref cR) "boxes"=aa ak)
(Bj:W.findIn K (.ref cR) "kept"=aa ak)
(sx:W.findIn K (.ref cR) "answers"=aa ak)
(Fo:W.findIn K (.ref cR) "end"=aa ak)
(o8:W.findIn K (.ref cP) "own_cells"=aa ak)
(qk:W.findIn K (.ref cP) "own_base"=aa ak)
(jj:W.nsIn K aZ "GREATEST_NUMBER"=aa (aa (.int (2147483647) t0)))
(kU:W.nsIn K aZ "LAST_PLACE"=aa (aa (.int (65535) t1)))
(lP:W.nsIn K aZ "MOST_KEPT"=aa (aa (.int (40) t2)))
(tX:W.nsIn K aZ "tuple"=aa ak)
(tY:W.nsIn K aZ "range"=aa ak)
(Dy:W.nsIn K aZ "len"=aa ak)
(kW:W.nsIn K aZ "isinstance"=aa ak)
(Dz:W.nsIn K aZ "max"=aa ak)
(xH:W.nsIn K aZ "list"=aa ak)
(sy:hW K mg "place_at" oJ)
(ql:hW K mg "number_at" m4)
(uD:hW K mg "step_at" qI)
(sA:hW K mg "boxes_in" oK)
(qm:hW K mg "code_from" m5)
(nC:hW K mg "told_behind" lr)
(qo:hW K mg "read_code" m6)
(nD:hW K mg "behind_list" lu)
(mL:hW K mg "read_numbers" kJ)
(o9:hW K mg "read_table" l5)
(sB:hW K mg "run_over" oN)
(qp:hW K mg "run_cells" m9)
(pb:hW K mg "_law_mixed" ng)
(qr:hW K mg "_law_next" oS)
(nE:hW K mg "_law_source" l6)
(sC:hW K mg "_law_two" qJ)
(qt:hW K mg "_law_said" oU)
(sD:hW K mg "_law_bad" qK)
(Li:hW K mg "law" Kx)
  :∃fd:bz,(∀(s:ag) (v:ae),eo s fd ⟨[v],[]⟩ [("_law_script",v)])/\∀base:aq,K.In base->base.Ns aZ mg->iW l.prog w K mg base pF 12 fa fd ["_law_script"] (pz K (cl GA)):=by
 obtain⟨f,fd,F,m⟩:=id Li;have e:=hfa.symm.trans m;cases e;have tX:=W.mg_none_of X G tX;have tY:=W.mg_none_of X G tY;have Dy:=W.mg_none_of X G Dy;have kW:=W.mg_none_of X G kW;have Dz:=W.mg_none_of X G Dz;have xH:=W.mg_none_of X G xH;have jj:∃t,mg "GREATEST_NUMBER"=aa (.int (2147483647) t):=⟨_,W.mg_of X G jj⟩;have kU:∃t,mg "LAST_PLACE"=aa (.int (65535) t):=⟨_,W.mg_of X G kU⟩;have lP:∃t,mg "MOST_KEPT"=aa (.int (40) t):=⟨_,W.mg_of X G lP⟩;have ll:=W.mg_of X G ll;have n8:=W.mg_of X G n8;have qi:=W.mg_of X G qi;have tV:=W.mg_of X G tV;have Lh:=W.mg_of X G Lh;have tW:=W.mg_of X G tW;have Z:Zs mg:=⟨tX,tY,Dy,kW,Dz,xH,jj,kU,lP⟩;have n1:∃u,mg "CODES"=aa u/\B5 K tm u:=⟨_,W.mg_of X G Fl,GB 2 _ _ cc⟩;have n2:∃u,mg "FIRST_CELLS"=aa u/\B5 K jo u:=⟨_,W.mg_of X G Fm,GB 2 _ _ cg⟩;have xf:X7 K iY ki tS vS:=⟨lM.sub sj,lM.get,VJ,xC,xD,Bf⟩;have UO:yv K cR:=⟨λx hx=>by
  simp only [xu,ba,List.not_mem_nil,or_false] at hx;rcases hx with rfl|rfl|rfl|rfl|rfl|rfl|rfl
  ·exact⟨DQ.cls,xF⟩
  ·exact⟨DQ.cls,uC⟩
  ·exact⟨DQ.cls,Bi⟩
  ·exact⟨DQ.cls,xG⟩
  ·exact⟨DQ.cls,Bj⟩
  ·exact⟨DQ.cls,sx⟩
  ·exact⟨DQ.cls,Fo⟩⟩
 have Yh:VD K cP:=⟨⟨Lz.cls,o8⟩,⟨Lz.cls,qk⟩⟩;refine⟨fd,F.PL λ_ _ _ _ _ _ _=>rfl,λbase _ _=>?_⟩;obtain⟨fdN,FN⟩:=VI.ex;have rH:∀j,nS l.prog w K mg base (j+1) "NoCells" iY ["place"]:=λj=>⟨n8,Zu,fdN,_,lM.mk_ VI,vq FN,wU (k:=j) FN xb ll lM.cls lM.obj λg hg=>by simp at hg;subst hg;exact VJ⟩;have iP:∀j,j3 l.prog w K mg base (j+1) "place_at" ["cells","at"] (cl jS):=λj=>Ae (EJ (k:=j) sy) vz Db;have ku:∀j,j3 l.prog w K mg base (j+2) "number_at" ["cells","at"] (cl kB):=λj=>Ae (Cy (k:=j+1) ql Z (iP j)) uv AT;have uo:j3 l.prog w K mg base 2 "step_at" ["cells","at"] (cl qM):=Ae (Hs (k:=1) uD) xn E5;have rX:j3 l.prog w K mg base 3 "boxes_in" ["number","count"] (cl il):=Ae (EM (k:=2) sA) vB Dc;have p6:j3 l.prog w K mg base 3 "code_from" ["cell"] (cl jv):=Ae (CC (k:=2) qm n1 n2) uw AX;have nt:j3 l.prog w K mg base 3 "told_behind" ["code","cells","at"] (cl i5):=Ae (ye (k:=2) nC Z (ku 0) uo (iP 1)) sg xq;have DB:p4 l.prog w K mg base 4 "read_code" ["cells","at"] (nh iY):=Ap (CG (k:=2) qo Z (rH 1).calm p6 rX nt) lj AY;have jE:p4 l.prog w K mg base 3 "behind_list" ["cells","at","cells_for_one"] (qd iY):=Ap (yg (k:=1) nD Z (rH 0).calm (iP 1)) yt HD;have xI:p4 l.prog w K mg base 4 "read_numbers" ["cells","at"] (kP iY):=Ap (w4 (k:=3) mL Z jE (ku 1)) j1 vC;have Bk:p4 l.prog w K mg base 4 "read_table" ["cells","at"] (l7 iY):=Ap (Au (k:=3) o9 Z jE (iP 2)) kQ yu;obtain⟨fc,fdc,mc,kc,bc,Fc⟩:=DB.p;obtain⟨fn,fdn,mn,kn,bn,Fn⟩:=xI.p;obtain⟨ft,fdt,mt,kt,bt,Ft⟩:=Bk.p;obtain⟨a,ha⟩:∃a:RA,a=⟨fc,fn,ft,iY⟩:=⟨_,rfl⟩;have aN:a.N=iY:=by subst ha;rfl
 have hV:∀f g,VR a f g->QQ l.prog w K mg base 4 f g:=by
  subst ha
  rintro f g (⟨rfl,rfl⟩|⟨rfl,rfl⟩|⟨rfl,rfl⟩)
  ·exact⟨lj,fdc,_,kc,bc,Fc⟩
  ·exact⟨j1,fdn,_,kn,bn,Fn⟩
  ·exact⟨kQ,fdt,_,kt,bt,Ft⟩
 have mc:mg "read_code"=aa (.ref a.c):=by subst ha;exact mc
 have mn:mg "read_numbers"=aa (.ref a.n):=by subst ha;exact mn
 have mt:mg "read_table"=aa (.ref a.t):=by subst ha;exact mt
 have rHa:∀j,nS l.prog w K mg base (j+1) "NoCells" a.N ["place"]:=by rw[aN];exact rH
 have UP:mg "NoCells"=aa (.ref a.N):=by rw[aN];exact n8
 have hsN:vk K a.N a.N:=by rw[aN];exact Lg lM
 obtain⟨_,GG⟩:=vT.ex;obtain⟨_,zC⟩:=n9.ex;obtain⟨_,xJ⟩:=mI.ex;obtain⟨_,RJ⟩:=sw.ex;obtain⟨_,tZ⟩:=kR.ex;obtain⟨_,qu⟩:=jT.ex;obtain⟨_,R5⟩:=uB.ex;obtain⟨_,xL⟩:=mJ.ex;obtain⟨_,GH⟩:=vU.ex;obtain⟨_,t4⟩:=kT.ex;obtain⟨_,xM⟩:=mK.ex;obtain⟨_,rq⟩:=ka.ex;obtain⟨_,ve⟩:=lN.ex;have hRw:ix l.prog w K mg base 5 cP "read_with" (Np a cP):=um Lz.cls ⟨oZ,kT.fn,kT.kp⟩ (nw t4) (nV (k:=3) t4 UP (rHa 2) hV) HK (Uu Yh hsN);have RK:∀C g,Nq a cP C "read_with" g->ix l.prog w K mg base 5 C "read_with" g:=by rintro C g ⟨rfl,rfl⟩;exact hRw
 have UQ:ix l.prog w K mg base 6 cP "code_at" (n6 a cP):=um Lz.cls ⟨su,mK.fn,mK.kp⟩ (oO xM) (pC (k:=5) xM RK mc) xv (Fd Yh);have UR:ix l.prog w K mg base 6 cP "numbers_at" (sh a cP 4):=um Lz.cls ⟨nB,ka.fn,ka.kp⟩ (mQ rq) (nz (k:=5) rq RK mn) u9 yw;have Yi:ix l.prog w K mg base 6 cP "table_at" (sh a cP 2):=um Lz.cls ⟨qj,lN.fn,lN.kp⟩ (nY ve) (oQ (k:=5) ve RK mt) u9 Df;have Zv:lV (λ_ _ _=>False:GN):=λ_ _ _ _ _ q=>q;have hJb:ix l.prog w K mg base 7 cR "do_jumpby" VF:=(Ko (g':=λ_ _ _=>False) DQ.cls ⟨oY,kR.fn,kR.kp⟩ (ur tZ) (vv (k:=6) tZ Z) Zv λ_ _ _ q=>q.elim).x;have hLd:ix l.prog w K mg base 6 cR "do_load" VF:=(Ko (g':=λ_ _ _=>False) DQ.cls ⟨sr,mJ.fn,mJ.kp⟩ (xh xL) (yn (k:=5) xL Z) Zv λ_ _ _ q=>q.elim).x;have US:pV l.prog w K mg base 7 cR "do_call" (A4 cR):=Ko DQ.cls ⟨sk,mI.fn,mI.kp⟩ (xa xJ) (yj (k:=6) xJ Z) Dh (Nr UO);have hIb:ix l.prog w K mg base 7 cR "do_in_boxes" (Nt a cR cP):=um DQ.cls ⟨mH,jT.fn,jT.kp⟩ (rY qu) (tF (k:=6) qu (lC:=VE) (λ_ _ z=>z.elim) (by rintro C g ⟨rfl,rfl⟩;exact hLd) (by rintro C g ⟨rfl,rfl⟩;exact UR)) HL (Uw UO);have Yj:ix l.prog w K mg base 8 cR "do_row" (Gq a cR cP):=um DQ.cls ⟨uA,n9.fn,n9.kp⟩ (yh zC) (Aw (k:=7) zC (by rintro C g ⟨rfl,rfl⟩;exact US) (ko:=VE) (λ_ _ z=>z.elim) (by rintro C g ⟨rfl,rfl⟩;exact hJb) (by rintro C g ⟨rfl,rfl⟩;exact Yi.up (by decide)) (by rintro C g ⟨rfl,rfl⟩;exact hIb)) Fe (Rn UO);have mkR:rQ l.prog w K mg base 7 cR (tQ cR):=Ob ⟨DQ.Y6,Bg,vT.fn,DQ.kc⟩ (CI GG) (EO (k:=6) GG) A3 (KU UO);have mkP:rQ l.prog w K mg base 8 cP (vP cP):=Ob ⟨Lz.Y6,Bh,vU.fn,Lz.kc⟩ (qT GH) (r9 (k:=7) GH) A2 (KR Yh);have se:ze l.prog w K mg base 9 "run_over" ["store","place","inputs","steps"] (A5 a cP):=Oq (EU (k:=7) sB Z Lh mkR (by rintro C g ⟨rfl,rfl⟩;exact UQ.up (by decide)) (by rintro C g ⟨rfl,rfl⟩;exact Yj)) Dj (Nu UO);have qc:ze l.prog w K mg base 10 "run_cells" ["cells","base","place","inputs","steps"] (vQ a):=Oq (CM (k:=8) qp se tW mkP) A7 KW;have xfa:X7 K a.N ki tS vS:=by rw[aN];exact xf
 have mF:j3 l.prog w K mg base 11 "_law_said" ["_law_cells","_law_base","_law_place","_law_steps"] (cl oX):=Ae (E2 (k:=10) qt Z ll qc UP qi tV) Dk (Nv xfa);have p9:∀j,j3 l.prog w K mg base (j+1) "_law_mixed" ["_law_draw","_law_k"] (cl qE):=λj=>Ae (CQ (k:=j) pb) A8 KY;have ie:∀j,j3 l.prog w K mg base (j+2) "_law_next" ["_law_source_here","_law_many"] jI:=λj=>P9 (EY (k:=j+1) qr (p9 j)) Dl Nw;have oV:j3 l.prog w K mg base 11 "_law_source" ["_law_draw"] lL:=P9 (AD (k:=10) nE) yx HN;have jF:j3 l.prog w K mg base 10 "_law_two" ["_law_number"] (cl pq):=Ae (Hx (k:=9) sC) Ff Ro;have uu:j3 l.prog w K mg base 11 "_law_bad" ["_law_source_here","_law_base","_law_at"] va:=P9 (HA (k:=10) sD Z (ie 8) jF) Fg Rp;have hL:=W3 F Oz.2 Gd.2 jq (λg8 A outer s H E hr=>Uj (P:=l.prog) (w:=w) (base:=base) (k:=11) Z oV (ie 9) uu mF fa g8 A outer s H E hr);exact hL.imp λvs H Q E ⟨F,α,M,ds,o,r,n,q⟩=>⟨F,α,M,ds,o,r,n,RI _ _ q⟩
theorem tb0{K:W.Frag}{H:Hp}(h:W.nsIn K aZ "by_name"=aa ak):Tb K H:=λx hx c P e=>by simp only [S9,bv] at hx;subst hx;unfold W.tabIn at e;rw[h] at e;cases e
theorem walk{l:W.OpenLaw}{q:ao}{loose:List ar}{XP:(ar->Option ae)->aq->Prop}{YP:aE->aq->Prop}{d:DefRec}{K:aaB->W.Frag}(hn:l.most=aa 63)(SR:d.params.defaults=[])
(hY:∀(w:aE) (h:aq),YP w h->(K w.params).In h)(nb:∀w:aE,W.nsIn (K w.params) aZ "by_name"=aa ak)
(F:∀(w:aE) (mg:ar->Option ae) (fa:af) (h:aq),(K w.params).In h->h.Ns aZ mg->mg d.name=aa (.ref fa)->
   ∃fd:bz,(∀(s:ag) (u:ae),eo s fd ⟨[u],[]⟩ [("_law_script",u)])/\∀base:aq,(K w.params).In base->base.Ns aZ mg->iW l.prog w (K w.params) mg base pF 12 fa fd ["_law_script"] (pz (K w.params) (cl GA))):
  W.WalkO q loose XP YP l.row.toRowW d [] (λf vs=>PySem.call f vs):=
 L2.Me (n:=63) (k:=12) (x:="_law_script") (CX:=λ_=>pF) (sp:=λw=>pz (K w.params) (cl GA)) hn (by decide) SR ⟨rfl,by decide,by decide,rfl⟩ hY F (λw H a ns hl _ hS=>⟨[],[],[],[.pd ns],Qb (tb0 (nb w)),by
  refine gu.one ?_;unfold Rep;refine⟨a,rfl,?_⟩;show oa _ (jg ([]++[]) H) a _;rw[bj];exact Eo En hS,rfl,ns,rfl,λv gS H' e o r=>by unfold Rep at r;exact r⟩) λ_ _ _ _ _ z=>z
end mO
open PySem PySem.W PyProof.Rows
local macro_rules | `(tactic| walk_at "k_def") => `(tactic| (refine' L2.Jc (by assumption) (by assumption) ?a ?l ?c ?k; (case a => k_is); (case l => k_is); (case c => k_is); (case k => k_is)))
local macro_rules | `(tactic| walk_at "k_mf") => `(tactic| (refine' FJ.Ub ?l ?c ?k ?i; (case l => k_is); (case c => k_is); (case k => k_is); (case i => k_is)))
local macro_rules | `(tactic| walk_at "k_cf") => `(tactic| (refine' ⟨?a1, ?a2, ?a3, ?a4, ?a5, ?a6, ?a7, ?a8, ?a9, ?a10⟩; (case a1 => k_is); (case a2 => k_is); (case a3 => k_is); (case a4 => k_is); (case a5 => k_is); (case a6 => k_is); (case a7 => k_is); (case a8 => k_is); (case a9 => k_is); (case a10 => k_is)))
local macro_rules | `(tactic| walk_at "k_kr") => `(tactic| first | k_is | kernel_rfl | rfl)
local macro_rules | `(tactic| walk_at "k_exc") => `(tactic| (refine' ⟨?e1, ?e2, ?e3, ?e4, ?e5, ?e6, ?e7, ?e8, ?e9, ?e10, ?e11, ?RW, ?qW, ?e14, L3.QD ?e15 ?e16 ?e17 ?e18⟩; (case e1 => walk_at "k_kr"); (case e2 => unfold L2.Cf; kernel_rfl); (case e3 => walk_at "k_kr"); (case e4 => walk_at "k_kr"); (case e5 => walk_at "k_kr"); (case e6 => walk_at "k_kr"); (case e7 => walk_at "k_kr"); (case e8 => walk_at "k_kr"); (case e9 => walk_at "k_kr"); (case e10 => walk_at "k_kr"); (case e11 => walk_at "k_kr"); (case RW => walk_at "k_kr"); (case qW => walk_at "k_kr"); (case e14 => walk_at "k_kr"); (case e15 => k_is); (case e16 => walk_at "k_kr"); (case e17 => first | rfl | kernel_rfl | k_is); (case e18 => first | rfl | kernel_rfl | k_is)))
local macro_rules | `(tactic| walk_at "k_exi") => `(tactic| (refine' L3.QH ?e1 ?e2 ?e3 ?e4 ?e5; (case e1 => k_is); (case e2 => k_is); (case e3 => k_is); (case e4 => k_is); (case e5 => k_is)))
namespace PySem.W.Fast
def tw17193006540870325767:=0
def tw6138977540857289610:=0
def tw12147554156963540524:=0
def tw2631153109040725772:=0
def tw17829352832970352493:=0
def tw3372441199523706351:=0
def tw7673220411301727602:=0
def tw8854567902200865588:=0
def tw16809882220414861877:=0
def tw13893779715484250906:=0
def tw12263441613554711581:=0
def tw1192164561011055070:=0
def tw11418355046376779391:=0
def tw4662638689624929872:=0
def tw2105933148712844661:=0
def tw11397617896559255185:=0
def tw13869431158637927529:=0
def tw3837535601513602617:=0
def tw4237422314188619420:=0
def tw8189143919462699430:=0
def tw15264291992891536097:=0
def tw15175911778202088789:=0
def tw5060570936943119629:=0
def tw4872969360554542702:=0
def tw10321375053244710707:=0
def tw11562646808336509355:=0
def tw5134706584474591362:=0
def tw16139404209062594420:=0
def tw7425264673642003467:=0
def tw4630088391081307668:=0
def tw17856906344265311145:=0
def tw12112620144330202688:=0
def tw16619889010242118295:=0
def tw3774606210964047096:=0
def tw2712204514557676904:=0
def tw15074206937369829733:=0
def tw10570911025300687758:=0
def tw5053190597409246925:=0
def tw17364426924218719668:=0
def tw7325329682417427328:=0
def tw3124447494028790102:=0
def tw11424606055403280049:=0
def tw16237293979098289051:=0
def tw8567587824212640598:=0
def tw1802035491123587454:=0
def tw12682838347503522456:=0
def tw14112457189712734707:=0
def tw15845012611937833621:=0
def tw10452316118607487827:=0
def tw14740936466896212093:=0
def tw15446956379858735776:=0
def tw2524242264665677310:=0
def tw7312098162948250267:=0
def tw1374969736591703238:=0
def tw14074689756959068199:=0
def tw5516754918534593193:=0
def tw7208076282921433797:=0
def tw119072028238778159:=0
def tw16739154615834265281:=0
def tw308157483121763753:=0
def tw3702122394231697859:=0
def tw644078424078939631:=0
def tw9301604614935546071:=0
def tw16882586860789160176:=0
def tw3643106710343217737:=0
def tw7932877254473279316:=0
def tw16564140002695141152:=0
def tw16518997047049531163:=0
def tw6231323256473827314:=0
def tw2967503962525784110:=0
def tw16454800215641183940:=0
def tw15987918623175125072:=0
def tw17883482695528208976:=0
end PySem.W.Fast
set_option maxRecDepth 100000 in
set_option maxHeartbeats 0 in
theorem PySem.Challenge.cw_farjump_k54_what_the_machine_refuses_holds : PySem.Challenge.rw_farjump_k54_what_the_machine_refuses.Holds := by
 w_on;o_law;k_head;(case hw=>w_witness2)
 k_fill
 refine mO.walk (l:=PySem.Challenge.rw_farjump_k54_what_the_machine_refuses) rfl rfl (λw h Y=>PySem.W.kIn_of Y) ?nb ?F;case nb=>intro w;first|k_is|kernel_rfl|rfl
 case F=>
  intro w mg fa h KX G SS
  refine' mO.all_mk KX G SS ?Fl ?cc ?Fm ?cg ?ll ?n8 ?qi ?tV ?sj ?lM ?VI ?xb ?VJ ?xC ?xD ?Bf ?Lh ?tW ?DQ ?Lz ?Bg ?uA ?sk ?xE ?oY ?mH ?zB ?sr ?Bh ?oZ ?su ?nB ?qj ?vT ?n9 ?mI ?sw ?kR ?jT ?uB ?mJ ?vU ?kT ?mK ?ka ?lN ?xF ?uC ?Bi ?xG ?Bj ?sx ?Fo ?o8 ?qk ?jj ?kU ?lP ?tX ?tY ?Dy ?kW ?Dz ?xH ?sy ?ql ?uD ?sA ?qm ?nC ?qo ?nD ?mL ?o9 ?sB ?qp ?pb ?qr ?nE ?sC ?qt ?sD ?Li
  (case Fl=>k_is)
  (case Fm=>k_is)
  (case ll=>k_is)
  (case n8=>k_is)
  (case qi=>k_is)
  (case tV=>k_is)
  (case VI=>walk_at "k_exi")
  (case Lh=>k_is)
  (case tW=>k_is)
  (case DQ=>walk_at "k_cf")
  (case Lz=>walk_at "k_cf")
  (case Bg=>k_is)
  (case uA=>k_is)
  (case sk=>k_is)
  (case xE=>k_is)
  (case oY=>k_is)
  (case mH=>k_is)
  (case zB=>k_is)
  (case sr=>k_is)
  (case Bh=>k_is)
  (case oZ=>k_is)
  (case su=>k_is)
  (case nB=>k_is)
  (case qj=>k_is)
  (case vT=>walk_at "k_mf")
  (case n9=>walk_at "k_mf")
  (case mI=>walk_at "k_mf")
  (case sw=>walk_at "k_mf")
  (case kR=>walk_at "k_mf")
  (case jT=>walk_at "k_mf")
  (case uB=>walk_at "k_mf")
  (case mJ=>walk_at "k_mf")
  (case vU=>walk_at "k_mf")
  (case kT=>walk_at "k_mf")
  (case mK=>walk_at "k_mf")
  (case ka=>walk_at "k_mf")
  (case lN=>walk_at "k_mf")
  (case xF=>k_is)
  (case uC=>k_is)
  (case Bi=>k_is)
  (case xG=>k_is)
  (case Bj=>k_is)
  (case sx=>k_is)
  (case Fo=>k_is)
  (case o8=>k_is)
  (case qk=>k_is)
  (case jj=>k_is)
  (case kU=>k_is)
  (case lP=>k_is)
  (case tX=>k_is)
  (case tY=>k_is)
  (case Dy=>k_is)
  (case kW=>k_is)
  (case Dz=>k_is)
  (case xH=>k_is)
  (case sy=>walk_at "k_def")
  (case ql=>walk_at "k_def")
  (case uD=>walk_at "k_def")
  (case sA=>walk_at "k_def")
  (case qm=>walk_at "k_def")
  (case nC=>walk_at "k_def")
  (case qo=>walk_at "k_def")
  (case nD=>walk_at "k_def")
  (case mL=>walk_at "k_def")
  (case o9=>walk_at "k_def")
  (case sB=>walk_at "k_def")
  (case qp=>walk_at "k_def")
  (case pb=>walk_at "k_def")
  (case qr=>walk_at "k_def")
  (case nE=>walk_at "k_def")
  (case sC=>walk_at "k_def")
  (case qt=>walk_at "k_def")
  (case sD=>walk_at "k_def")
  (case Li=>walk_at "k_def")
  (case sj=>walk_at "k_exc")
  (case lM=>walk_at "k_exc")
  (case cc=>kernel_rfl)
  (case cg=>kernel_rfl)
  (case xb=>refine' ⟨?x1,?x2,?x3⟩;(case x1=>walk_at "k_kr");(case x2=>walk_at "k_kr");(case x3=>walk_at "k_kr"))
  (case VJ=>walk_at "k_kr")
  (case xC=>first|rfl|kernel_rfl|k_is)
  (case xD=>first|rfl|kernel_rfl|k_is)
  (case Bf=>first|rfl|kernel_rfl|k_is)
#print axioms PySem.Challenge.cw_farjump_k54_what_the_machine_refuses_holds
