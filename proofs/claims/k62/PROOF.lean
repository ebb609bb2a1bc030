import PyProof.Rows.All
import Wide.All
import OpenK.AllK
import Wide.FinOn
import Lean
import PyProof.EqAt
import PyProof.EqKinds
import PyProof.TupleCall
import KE.KSortTup
import KE.KPairComp
import PyProof.P3Eq
import PyProof.DictWalks
import KE.KDictSum
import PyProof.StationsW
import PyProof.ExcClass2
import PyProof.ExcBaseAll.ValueError
import PyProof.RulesTry
import PyProof.RulesAs
import PyProof.NsDelKeeps
import PyProof.ExcAttrAll.ValueError
import KE.KIsAll
import PyProof.ReprRoads
import PyProof.FString4
import KE.KIntText
import PyProof.CallStr
import PyProof.StrCalls2
import PyProof.StrCalls6
import PyProof.StrLawsChain
import PyProof.StrLawsTight
import PyProof.Rows.ReprOcc
import PyProof.StrLawsIn
import PySem.Challenge.RW_farjump_k62_texts_of_no_parts
set_option Elab.async false
set_option linter.all false
set_option maxRecDepth 100000
theorem zE1{A:Sort _}{p:A->Prop}{G:Prop}(h:∃a,p a)(k:∀a,p a->G):G:=h.elim k
theorem zE2{A:Sort _}{B:Sort _}{p:A->B->Prop}{G:Prop}(h:∃a b,p a b)(k:∀a b,p a b->G):G:=zE1 h λa h=>zE1 h (k a)
theorem zE3{A:Sort _}{B:Sort _}{C:Sort _}{p:A->B->C->Prop}{G:Prop}(h:∃a b c,p a b c)(k:∀a b c,p a b c->G):G:=zE1 h λa h=>zE2 h (k a)
theorem zE4{A:Sort _}{B:Sort _}{C:Sort _}{D:Sort _}{p:A->B->C->D->Prop}{G:Prop}(h:∃a b c d,p a b c d)(k:∀a b c d,p a b c d->G):G:=zE1 h λa h=>zE3 h (k a)
theorem zE5{A:Sort _}{B:Sort _}{C:Sort _}{D:Sort _}{E:Sort _}{p:A->B->C->D->E->Prop}{G:Prop}(h:∃a b c d e,p a b c d e)(k:∀a b c d e,p a b c d e->G):G:=zE1 h λa h=>zE4 h (k a)
theorem zE6{A:Sort _}{B:Sort _}{C:Sort _}{D:Sort _}{E:Sort _}{F:Sort _}{p:A->B->C->D->E->F->Prop}{G:Prop}(h:∃a b c d e f,p a b c d e f)(k:∀a b c d e f,p a b c d e f->G):G:=zE1 h λa h=>zE5 h (k a)
theorem zA2{p q G:Prop}(h:p/\q)(f:p->q->G):G:=f h.1 h.2
theorem zA3{p q r G:Prop}(h:p/\q/\r)(f:p->q->r->G):G:=zA2 h.2 (f h.1)
theorem zA4{p q r s G:Prop}(h:p/\q/\r/\s)(f:p->q->r->s->G):G:=zA3 h.2 (f h.1)
theorem zA5{p q r s t G:Prop}(h:p/\q/\r/\s/\t)(f:p->q->r->s->t->G):G:=zA4 h.2 (f h.1)
theorem zA6{p q r s t u G:Prop}(h:p/\q/\r/\s/\t/\u)(f:p->q->r->s->t->u->G):G:=zA5 h.2 (f h.1)
theorem zA7{p q r s t u v G:Prop}(h:p/\q/\r/\s/\t/\u/\v)(f:p->q->r->s->t->u->v->G):G:=zA6 h.2 (f h.1)
theorem zA8{p q r s t u v w G:Prop}(h:p/\q/\r/\s/\t/\u/\v/\w)(f:p->q->r->s->t->u->v->w->G):G:=zA7 h.2 (f h.1)
theorem zA9{p q r s t u v w x G:Prop}(h:p/\q/\r/\s/\t/\u/\v/\w/\x)(f:p->q->r->s->t->u->v->w->x->G):G:=zA8 h.2 (f h.1)
theorem zA10{p q r s t u v w x y G:Prop}(h:p/\q/\r/\s/\t/\u/\v/\w/\x/\y)(f:p->q->r->s->t->u->v->w->x->y->G):G:=zA9 h.2 (f h.1)
theorem zI2{A:Sort _}{B:Sort _}{p:A->B->Prop}(a:A)(b:B)(h:p a b):∃a b,p a b:=⟨a,b,h⟩
theorem zI3{A:Sort _}{B:Sort _}{C:Sort _}{p:A->B->C->Prop}(a:A)(b:B)(c:C)(h:p a b c):∃a b c,p a b c:=⟨a,b,c,h⟩
theorem zI4{A:Sort _}{B:Sort _}{C:Sort _}{D:Sort _}{p:A->B->C->D->Prop}(a:A)(b:B)(c:C)(d:D)(h:p a b c d):∃a b c d,p a b c d:=⟨a,b,c,d,h⟩
theorem zI5{A:Sort _}{B:Sort _}{C:Sort _}{D:Sort _}{E:Sort _}{p:A->B->C->D->E->Prop}(a:A)(b:B)(c:C)(d:D)(e:E)(h:p a b c d e):∃a b c d e,p a b c d e:=⟨a,b,c,d,e,h⟩
open Lean in
local macro_rules
|`(tactic|rcases $h:ident with ⟨$ps,*⟩)=>`(tactic|obtain ⟨$ps,*⟩:=$h)
|`(tactic|rintro $rs:rintroPat*)=>do
 let l:=rs[rs.size-1]!.raw[0]
 unless l.isOfKind ``Parser.Tactic.rcasesPat.tuple do Macro.throwUnsupported
 let p:TSyntax `rcasesPat:=⟨l⟩
 let z:=mkIdent (<-Macro.addMacroScope `zz)
 let r:=rs.pop
 if r.size==0 then `(tactic|(intro $z:ident;obtain $p:rcasesPat := $z)) else `(tactic|(rintro $r*;intro $z:ident;obtain $p:rcasesPat := $z))
|`(tactic|exact ⟨$es,*⟩)=>do if es.getElems.size<3 then Macro.throwUnsupported else `(tactic|refine ⟨$es,*⟩)
|`(tactic|refine ⟨$es,*⟩)=>do
 let es:=es.getElems
 let n:=es.size
 if n<3 then Macro.throwUnsupported
 let m:=min 5 (n-1)
 let mut al:Array (TSyntax `tactic):=#[]
 for z in [0:m-1] do
  let i:=m-z
  let r:=es[i:n].toArray
  let q<-if r.size==1 then pure r[0]! else `(⟨$r,*⟩)
  al:=al.push (<-`(tactic|refine $(mkIdent (.mkSimple s!"zI{i}")) $(es[0:i].toArray)* $q))
 `(tactic|first $[|$al:tactic]*)
|`(tactic|obtain ⟨$ps,*⟩:=$h:term)=>do
 let ps:=ps.getElems
 let n:=ps.size
 if n<2 then Macro.throwUnsupported
 let nw(s:String):MacroM Ident:=do return mkIdent (<-Macro.addMacroScope (.mkSimple s))
 unless h.raw.isIdent do
  let t<-nw "zz"
  return <-`(tactic|(have $t := $h;obtain ⟨$ps,*⟩:=$t))
 let h:Ident:=⟨h.raw⟩
 let mut bs:Array Ident:=#[]
 let mut mo:Array (Option (TSyntax `tactic)):=#[]
 let sh(q:Syntax):String:=(q.reprint.getD "").trimAscii.toString
 for i in [0:n] do
  let q:=ps[i]!.raw
  let o:=(q.find? λs=>s.isOfKind ``Parser.Tactic.rcasesPat.one).getD .missing
  if sh o==sh q&&sh q != "rfl" then
   bs:=bs.push ⟨o[0]⟩
   mo:=mo.push none
  else
   let x<-nw s!"x{i}"
   bs:=bs.push x
   if sh q=="_" then mo:=mo.push none
   else
    let p:TSyntax ``Parser.Tactic.rcasesPatMed:=⟨q[0]⟩
    mo:=mo.push (some (<-`(tactic|obtain $p:rcasesPatMed := $x)))
 let t<-nw "xx"
 let y<-nw "yy"
 let mut al:Array (TSyntax `tactic):=#[]
 let k:=((List.range n).find? λi=>((sh ps[i]!.raw).splitOn "rfl").length>1).getD n
 for (c,m) in [("zE",min 6 (n-1)),("zA",min 10 n-1)] do
  let m:=min m (k+1)
  for z in [0:m] do
   let i:=m-z
   let w:=i+1==n&&k+1>=n
   let mut ws:Array (TSyntax ``binderIdent):=#[]
   let mut hit:=false
   let mut g:Array Ident:=#[]
   for x in if w then bs else bs[0:i].toArray.push t do
    if x.getId==h.getId then
     hit:=true
     ws:=#[<-`(binderIdent|$x:ident)]
     g:=g.push y
    else
     if x.getId.hasMacroScopes then ws:=ws.push (<-`(binderIdent|_))
     g:=g.push x
   let mut s:Array (TSyntax `tactic):=#[<-`(tactic|refine $(mkIdent (.mkSimple s!"{c}{if c=="zE" then i else i+1}")) $h fun $g* => ?_),<-`(tactic|try clear $h)]
   if hit then s:=s.push (<-`(tactic|rename_i $ws*))
   for j in [0:if w then n else i] do
    if let some y:=mo[j]! then s:=s.push y
   unless w do
    let r:=ps[i:n].toArray
    if r.size==1 then
     s:=s++#[<-`(tactic|have $(bs[n-1]!) := $t),<-`(tactic|clear $t)]
     if let some y:=mo[n-1]! then s:=s.push y
    else s:=s.push (<-`(tactic|obtain ⟨$r,*⟩:=$t))
   al:=al.push (<-`(tactic|($[$s:tactic];*)))
 `(tactic|first $[|$al:tactic]*)
noncomputable section
open Option renaming some->ae,none->aq,some->bG
open PySem renaming Value->af,wpAny_bind->ag,Shared->ah,Addr->ai,Str->av,Program->aw,sizeLine->ax,Heap->az,wpAny_pure->aB,Around->aH,starEach->aJ,World->aN,Expr->aS,mainGlobals->bc,Builtin->bd,FuncData->bN,Obj->bR,bootBuiltins->bV,wpAny_truthy_bool->bY,Stmt->b3,wpAny_field->b5,Scope->b6,backTo->cb,NameKind->cq,wpAny_holding->cy,wpAny_mono->cz,Pos->cC,wpAny_callSpecial?_slot->cK,wpAny_newObj_type->cL,attributeBase->cQ,wpAny_call_entry->cR,PyData->cU,wpAny_seqItems->c9,IsPair->de,strIterType->dn,sysModules->dq,assignEach->du,wpAny_Call_Name_kw->dw,wpAny_setField_rec->dB,behindInMarks->dG,excClassObj->dP,codeAny_mono->dR,bindArgs->dY,Env->d4,tupleKind_room_in1->d9,wpAny_pyIter_tuple->ec,rawInt->eg,foldedSetIterable->ej,wpAny_setField->eC,wpAny_loadPart_at->eF,wpAny_call->eK,cLine->eQ,keywordEach->eS,sliceBounds->eT,codeAny_call_builtin->eV,wpAny_passesOwn->eY,wpAny_isSubtype_exc->eZ,Keyword->ff,typeIs_str->fk,call_meets->fq,sliceRange->ft,Draws->fB,IsZip->fC,wpAny_attempt->fD,swapsWith->fH,wpAny_Name->fU,BindsTo->fV,getItem->fX,call_meetsIn->fY,wpAny_execs_nil->fZ,wpAny_isTrue_Compare1->f6,sizeLine_eq->f7,backToKw->f8,wpAny_updateSeq_pair->f9,tupleKind->gb,Arguments->JZ,wpAny_standAt->aaj,CmpOp->aak,wpAny_onRaise->aam,slot_dict_contains->aao,GenState->aap,Operator->aaq,valueAt->aar,callerA->aas,wpAny_pyIter_list->aat,ExcBaseFacts->aau,pyIter->aav,PassesOwn->aaw,IsPart->aax,noteFrame->aay,setFlight->aaz,wpAny_specialOf->aaB,standAt->aaC,notedBy->aaD,Model->aaE,isTrue->aaF,recursionLimit->aaG,Result->aaH,isInstance->aaJ,lastMarks->aaL,bindL->aaM,bindC->aaN,wpAny_Call_method_late->aaP,dictGet->aaR,JoinOk->aaS,getitemInPython_of_ne->aaT,Tok->aaU,wpAny_loadName_local->aaV,atKey->aaW,seqIndex_of->aaX,wpAny_letTemporaryGo->aaY,wpAny_letGo->aaZ,SetTable->aa0,unbindBehindTheSuite->aa1,wpAny_loadName_cell->aa2,wpAny_loadName_free->aa3,builtinsNs->aa4,wpAny_Constant_int->aa5,typeIs_int->aa6,wpAny_rule->aa7,Drawn->aa8,Walks->aa9,wpAny_sequenceKey->aba,slot_list_getitem->abb,wpAny_pyIter_strU->abd,wpAny_pyIter_enum->abe,slot_dict_getitem->abf,OsState->abg,wpAny_pyHash_str->abh,wpAny_execs_cons->abi,DictEntry->abj,cellsFrom->abk,noFill_tuple_add->abl,wpAny_pyIter_zip->abm,wpAny_lookBehind->abn,pastItsLine_dict->abo,onTheHeap->abp,callGetattribute->abq,wpAny_operating->abr,findBy->abt,typeOf->abv,Params->abw,letTemporaryGo->abx,firstArgMember->aby,IsEnum->abz,wpAny_loadPart->abA,boundAndCalled->abB,Sem->abC,swapsWithSole->abE,swappedStores->abF,intBits_le_64->abG,seq_tuple_add->abH,evalPart_none->abI
open Bool renaming true->aj,false_ne_true->am,false->ao,and_eq_true->aD,eq_iff_iff->bB,true_and->cf,and_false->cw,eq_false_iff->d7
open List renaming length_map->ap,mem_cons_of_mem->au,length_append->ay,getElem?_eq_some_iff->aC,mem_cons->aE,length_cons->aM,mem_append->aO,map_cons->aU,size_toArray->aV,prefix_refl->aX,mem_singleton->aZ,mem_cons_self->a8,replicate->ba,append_nil->bf,mem_append_right->bh,length_take->bi,all_eq_true->bj,getElem?_append_left->bp,mem_append_left->br,length_drop->bt,mem_of_getElem?->bu,nil_append->bv,append_assoc->bA,length_nil->bC,getElem?_map->bD,map_append->bE,map_map->bF,zipWith->bS,getElem?_append_right->bT,not_mem_nil->bU,take_of_length_le->b0,getElem?_set_self->b9,mem_map->cj,prefix_append->ck,Nodup->cm,getElem?_set_ne->cn,range->cG,replicate_succ->cJ,eq_nil_or_concat->cN,concat_eq_append->cO,drop_eq_getElem_cons->cS,getElem?_eq_getElem->cT,lookup_cons->cV,length_eq_zero_iff->cW,map_nil->c6,length_mapIdx->c7,length_zip->dj,all_cons->dm,flatten_cons->dz,all_map->dL,length_zipWith->dN,nodup_cons->dS,find?_cons->dU,set_cons_succ->dW,nodup_nil->d6,cons_lt_cons_iff->ee,drop_length->ef,any_cons->eo,lookup->eG,of_mem_zip->eJ,map_congr_left->eL,getD_eq_getElem?_getD->eW,map_id->fg,getElem_mem->fu,set_append_right->fF,length->fO,getElem?_mapIdx->fR,drop_zero->fS
open PySem.Heap renaming get?_push_of_some->ar,lt_size->aP,get?_push_size->bg,SameBut->bX,get?_update_other->bZ,size_push->cx,get?_update_self->cA,get?_none_of_le->fN
open Nat renaming le_trans->aQ,lt_of_lt_of_le->aT,le_refl->aY,le_of_ble_eq_true->a9,zero_le->bx,beq->bH,zero_add->bJ,ne_of_lt->bL,ble->bM,ble_eq->bP,lt_irrefl->cu,lt_of_le_of_lt->c8,eq_of_beq_eq_true->dD,mul_le_mul_right->dI,sub_self->ed,ne_of_gt->eP
open PySem.Value renaming ref->aR,none->bW,builtin->cE,str->eM
open Option.some renaming inj->bq
open PySem.Str renaming ofString->bI,join->cZ
open PySem.Builtin.SmallTypes renaming nextOf->bO,ownedTupleIsFree->cB,ownedTupleHandOut->eX
open PySem.Txt renaming slice->bQ,split->cI,startswith->cY,endswith->df,join->eI
open Ne renaming symm->b4
open PySem.SeqAt renaming EqAt->b7
open False renaming elim->b8
open PySem.Builtin.Str renaming occurrences->cc,subAt->fM
open PySem.Obj renaming mapFields->ci,data_mapFields->cD,isFreed_of_fields->dA
open Array renaming getElem?_eq_some_iff->cr
open PySem.Builtin.ObjectAttr renaming storeInDict->cM,newKeyGuard->fw
open PyProof.Rows renaming callWith_type1->cX,envOfC->dO,slot_tuple_getitem->dQ,AllBare->eN,subscriptTail->aal,IsTup->aaA,isTrue_or->aaK,subscriptTail_builtinR->aaO,IntsAre->aaQ,slicePart_none->abu,isTrue_or_nil->abD
open PySem.NameKind renaming free->c5,cell->fJ
open PySem.Builtin.Slice renaming slicePlaces->dh,sliceAdjust->eA
open Or renaming inr->di,inl->eH
open PySem.Builtin.Tuple renaming tupleExact->dy
open PySem.Builtin.List renaming listTooLong->dF
open True renaming intro->dH
open PySem.AutoSeq1 renaming wpAny_loadPart'->dJ
open PySem.F renaming slot_tuple_iterator_next->dM,slot_zip_next->fQ
open Int renaming eq_ofNat_of_zero_le->dX
open PySem.Calls renaming callWith_builtin->dZ,evalArgs_plain->eB,spliced_cons->eR
open PySem.StrLaws renaming glued_eq_join->d8
open PyProof.Rows.KTD renaming datumAt->eD,inKeys->aan,isSome_datumAt->aaI
open Sum renaming inl->eO,inr->fh
open List.cons renaming inj->eU
open ForInStep renaming yield->fj
namespace L2
open PySem PySem.Spec PyProof.Rows
abbrev Key:=Sum Int av
noncomputable def wY:Key->af->Bool
 |.inl k,v=>af.isInt k v
 |.inr x,v=>af.isStrOf x v
noncomputable def Vo(w:aN):Key->Int
 |.inl k=>hashInt k
 |.inr x=>hashStr w x
theorem jh:∀{k:Key} {v:af},wY k v=aj->(∃i t,k=eO i/\v=af.int i t)\/(∃x t,k=fh x/\v=eM x t)
 |.inl i,v,h=>by obtain⟨t,e⟩:=af.isInt_shape (k:=i) (v:=v) h;exact .inl ⟨i,t,rfl,e⟩
 |.inr x,v,h=>by obtain⟨t,e⟩:=af.isStrOf_shape (x:=x) (v:=v) h;exact .inr ⟨x,t,rfl,e⟩
theorem Em(i:Int)(t:aaU):wY (.inl i) (.int i t)=aj:=by simp[wY,af.isInt]
theorem En(x:av)(t:aaU):wY (.inr x) (.str x t)=aj:=by simp[wY,af.isStrOf]
theorem NR(a b:Int):decide ((eO a:Key)=eO b)=(a==b):=by
 by_cases e:a=b
 ·subst e;simp
 ·have h:¬(eO a:Key)=eO b:=λq=>e (eO.inj q);rw[decide_eq_false h];exact(beq_eq_false_iff_ne.mpr e).symm
theorem NS(a b:av):decide ((fh a:Key)=fh b)=decide (a=b):=by
 by_cases e:a=b
 ·subst e;simp
 ·have h:¬(fh a:Key)=fh b:=λq=>e (fh.inj q);rw[decide_eq_false h,decide_eq_false e]
theorem NT(a:Int)(b:av):decide ((eO a:Key)=fh b)=ao:=decide_eq_false (λq=>nomatch q)
theorem NU(a:av)(b:Int):decide ((fh a:Key)=eO b)=ao:=decide_eq_false (λq=>nomatch q)
noncomputable def iW(prog:aw)(w:aN):PySem.KeyKind prog w Key where
 is:=wY
 hash:=Vo w
 inj:=λv a b ha hb=>by
  rcases jh ha with⟨i,t,rfl,rfl⟩|⟨x,t,rfl,rfl⟩
  ·rcases jh hb with⟨j,u,rfl,e⟩|⟨y,u,rfl,e⟩
   ·injection e with e1 _;rw[e1]
   ·exact nomatch e
  ·rcases jh hb with⟨j,u,rfl,e⟩|⟨y,u,rfl,e⟩
   ·exact nomatch e
   ·injection e with e1 _;rw[e1]
 byValue:=λk v h=>by rcases jh h with⟨i,t,rfl,rfl⟩|⟨x,t,rfl,rfl⟩<;>rfl
 pyHash:=λc h=>by
  rcases jh c with⟨i,t,rfl,rfl⟩|⟨x,t,rfl,rfl⟩
  ·exact wpAny_pyHash_int h
  ·exact abh h
 eqBool:=λf c h=>by
  rcases jh f with⟨i,t,rfl,rfl⟩|⟨x,t,rfl,rfl⟩
  ·rcases jh c with⟨j,u,rfl,rfl⟩|⟨y,u,rfl,rfl⟩
   ·rw[NR] at h;exact wpAny_eqBool_int h
   ·rw[NT] at h;exact b7.int_str i t y u _ _ _ _ h
  ·rcases jh c with⟨j,u,rfl,rfl⟩|⟨y,u,rfl,rfl⟩
   ·rw[NU] at h;exact b7.str_int x t j u _ _ _ _ h
   ·rw[NS] at h;exact wpAny_eqBool_str h
 «strs»:=λk x t v h=>by
  rcases jh h with⟨i,u,rfl,e⟩|⟨y,u,rfl,e⟩
  ·exact nomatch e
  ·injection e with e1 _;subst e1;cases v<;>rfl
theorem zH(prog:aw)(w:aN)(i:Int)(t:aaU):(iW prog w).is (.inl i) (.int i t)=aj:=Em i t
theorem zI(prog:aw)(w:aN)(x:av)(t:aaU):(iW prog w).is (.inr x) (.str x t)=aj:=En x t
end L2
namespace L2
open PySem PySem.Spec PyProof.Rows
inductive V where
 |non|bl (b:Bool)|int (i:Int)|str (x:av)|FH (b:Array UInt8)|oO (b:UInt64)|ref (a:ai)|ty (n:String)
 deriving DecidableEq
def RelV:V->af->Prop
 |.non,u=>u=bW
 |.bl b,u=>u=af.bool b
 |.int i,u=>∃t,u=af.int i t
 |.str x,u=>∃t,u=eM x t
 |.FH b,u=>∃t,u=af.bytes b t
 |.oO b,u=>∃t,u=af.float b t
 |.ref a,u=>u=aR a
 |.ty n,u=>u=af.type n
abbrev Vals:List V->List af->Prop:=Paired RelV
theorem Vals.length{xs:List V}{us:List af}(r:Vals xs us):xs.length=us.length:=Paired.length r
theorem Vals.get:∀{xs:List V} {us:List af} {i:Nat} {x:V},Vals xs us->xs[i]?=ae x->∃u,us[i]?=ae u/\RelV x u
 |_,_,_,_,.nil,e=>by simp at e
 |_,_,0,_,.cons r _,e=>by simp at e;subst e;exact⟨_,rfl,r⟩
 |_,_,i+1,x,.cons _ t,e=>by obtain⟨u,a,b⟩:=Vals.get (i:=i) (x:=x) t (by simpa using e);exact⟨u,by simpa using a,b⟩
theorem Vals.set{x:V}{u:af}(r:RelV x u):∀{xs:List V} {us:List af} (i:Nat),Vals xs us->Vals (xs.set i x) (us.set i u)
 |_,_,_,.nil=>.nil
 |_,_,0,.cons _ t=>.cons r t
 |_,_,i+1,.cons q t=>.cons q (Vals.set r i t)
theorem Vals.append:∀{xs a:List V} {us ws:List af},Vals xs us->Vals a ws->Vals (xs++a) (us++ws)
 |_,_,_,_,.nil,s=>s
 |_,_,_,_,.cons r t,s=>.cons r (Vals.append t s)
theorem Vals.take:∀{xs:List V} {us:List af} (n:Nat),Vals xs us->Vals (xs.take n) (us.take n)
 |_,_,0,_=>.nil
 |_,_,_+1,.nil=>.nil
 |_,_,n+1,.cons r t=>.cons r (Vals.take n t)
theorem Vals.drop:∀{xs:List V} {us:List af} (n:Nat),Vals xs us->Vals (xs.drop n) (us.drop n)
 |_,_,0,r=>r
 |_,_,_+1,.nil=>.nil
 |_,_,n+1,.cons _ t=>Vals.drop n t
def o9:Option V->Option af->Prop
 |some v,ae u=>RelV v u
 |none,aq=>True
 |_,_=>False
def KV {a:Type}:List (a×V)->List (a×af)->Prop:=Paired λ(p:a×V) (q:a×af)=>p.1=q.1/\RelV p.2 q.2
noncomputable def kV:Key->V
 |.inl i=>.int i
 |.inr x=>.str x
inductive HO where
 /-- a list-/
 |lst (xs:List V)
 /-- a tuple (never changes)-/
 |tup (xs:List V)
 /-- a dict whose keys are ints and texts;one whose keys are tuples of ints and texts (the empty one is both)-/
 |dK (gM:List (Key×V))|dT (gM:List (List Key×V))
 /-- a set of ints:g9 members,g9 size-/
 |set (S:Int->Bool) (n:Nat)
 /-- an instance of the class at C,g9 dict at dx,g9 attributes-/
 |ins (C dx:ai) (fs:List (av×V))
 /-- the dict of the instance at x-/
 |own (x:ai)
 /-- the dict of an exception-/
 |xd (fs:List (av×V))
 /-- a bound method,f of x-/
 |met (f x:ai)
 /-- a range object lo,lo+1,.. below hi-/
 |UA (lo hi:Int)
 /-- a thing ZD is known to the object (the Vp;a dict while a loop walks it):read,never written while it is so-/
 |oX (o:bR) (u:HO)
 /-- a code Rz table-/
 |BG (ps:Array af)
 |dE (ep:Nat) (gM:List (Key×V))
 |xc (C:ai) (fs:List (av×V))
 /-- any other thing,by ZE is aj of g9 one object (a def of Yr own:ZF a S n:=HO.ext λh=>..)-/
 |ext (φ:az->Prop)
abbrev Hp:=ai->Option HO
noncomputable def upd(H:Hp)(a:ai)(o:HO):Hp:=λb=>if b=a then ae o else H b
theorem gH{H:Hp}{a:ai}{o:HO}:upd H a o a=ae o:=by unfold upd;rw[if_pos rfl]
theorem gy{H:Hp}{a b:ai}{o:HO}(h:b≠a):upd H a o b=H b:=by unfold upd;rw[if_neg h]
theorem i6{H:Hp}{a b:ai}{o:HO}(h:H a=ae o)(c:H b=aq):a≠b:=by intro e;subst e;rw[h] at c;cases c
section
variable (P:aw) (w:aN)
def iD (H:Hp)(h:az)(a:ai):HO->Prop
 |.lst xs=>xs.length<=ax/\∃(g9:List af) (n:Nat),Vals xs g9/\h.get? a=ae {cls:=.type "list",data:=.seq g9.toArray n}
 |.tup xs=>xs.length<=ax/\∃g9:List af,Vals xs g9/\aaA h a g9.toArray
 |.dK e=>e.length<=ax/\(a==dq)=ao/\∃g,KV e g/\h.DictOf (iW P w) a g
 |.dT e=>e.length<=ax/\(a==dq)=ao/\∃xs:List (List Key×ai×af),
   Paired (λ(p:List Key×V) (q:List Key×ai×af)=>p.1=q.1/\H q.2.1=ae (.tup (p.1.map kV))/\RelV p.2 q.2.2) e xs/\
   ∃o es j,h.get? a=ae o/\o.ExactDict/\o.data=.dict es j/\es.toList=xs.map (entryOfKey (gb (iW P w)))/\(xs.map (·.1)).Nodup
 |.set S n=>h.SetOf (intKind P w) a S n
 |.ins C b fs=>H b=ae (.own a)/\fs.length<=1000/\b≠a/\h.get? a=ae (W.instObj C b)/\
   ∃c,h.Ns1 b c/\(∀f,o9 (fs.lookup f) (c f))/\PySem.Within c (fs.map (·.1))
 |.own _=>∃o,h.get? a=ae o
 |.xd fs=>∃c,h.Ns1 a c/\∀f,o9 (fs.lookup f) (c f)
 |.UA lo hi=>∃t u v,h.get? a=ae {cls:=.type "range",data:=.fields #[.int lo t,.int hi u,.int 1 v]}
 |.oX o u=>h.get? a=ae o/\iD H h a u
 |.BG ps=>h.get? a=ae {cls:=.none,data:=.fields ps}
 |.dE j e=>e.length<=ax/\(a==dq)=ao/\∃g,KV e g/\h.DictAt (iW P w) a g j
 |.xc C fs=>∃i g,h.get? a=ae i/\i.cls=.ref C/\i.data=.fields g/\((i.dict=aq/\fs=[])\/∃b c,i.dict=ae b/\b≠a/\H b=ae (.own a)/\h.Ns1 b c/\∀f,o9 (fs.lookup f) (c f))
 |.met f x=>h.get? a=ae (W.methodObj (.ref f) (.ref x))
 |.ext m=>m h/\(∃o,h.get? a=ae o)/\∀r y:az,m r->(∀o,r.get? a=ae o->y.get? a=ae o)->m y
def oY (H:Hp)(h:az):Prop:=∀a o,H a=ae o->iD P w H h a o
end
section
variable {P:aw} {w:aN} {H H':Hp} {h h':az} {a:ai} {o:HO}
theorem iD.lt(x:iD P w H h a o):a<h.objs.size:=by
 cases o with
 |lst xs=>obtain⟨_,_,_,_,e⟩:=x;exact aP e
 |tup xs=>obtain⟨_,_,_,p⟩:=x;exact p.lt
 |dK b=>obtain⟨_,_,_,_,o,_,_,e,_⟩:=x;exact aP e
 |dT b=>obtain⟨_,_,_,_,o,_,_,e,_⟩:=x;exact aP e
 |set S n=>obtain⟨o,_,_,_,e,_⟩:=x;exact aP e
 |ins C c fs=>obtain⟨_,_,_,e,_⟩:=x;exact aP e
 |own y=>obtain⟨_,e⟩:=x;exact aP e
 |xd fs=>obtain⟨_,⟨_,_,_,e,_⟩,_⟩:=x;exact aP e
 |UA lo hi=>obtain⟨_,_,_,e⟩:=x;exact aP e
 |oX ob u=>obtain⟨e,_⟩:=x;exact aP e
 |BG ps=>exact aP (show h.get? a=ae _ from x)
 |dE g b=>obtain⟨_,_,_,_,o,_,e,_⟩:=x;exact aP e
 |xc C fs=>obtain⟨_,_,e,_⟩:=x;exact aP e
 |met f y=>exact aP (show h.get? a=ae _ from x)
 |ext i=>obtain⟨_,⟨_,e⟩,_⟩:=x;exact aP e
theorem Paired.RA{α β:Type}{F G:α->β->Prop}:∀{c:List α} {e:List β},Paired F c e->(∀a b,F a b->G a b)->Paired G c e
 |_,_,.nil,_=>.nil
 |_,_,.cons r t,f=>.cons (f _ _ r) (Paired.RA t f)
theorem iD.qi(x:iD P w H h a o)(k:∀b u,(b=a\/H b=ae (.own a))->h.get? b=ae u->h'.get? b=ae u)
(A:∀b,H b=ae (.own a)->H' b=ae (.own a))(I:∀b xs,H b=ae (.tup xs)->H' b=ae (.tup xs)):iD P w H' h' a o:=by
 induction o with
 |lst xs=>obtain⟨z,g9,n,r,e⟩:=x;exact⟨z,g9,n,r,k _ _ (.inl rfl) e⟩
 |tup xs=>obtain⟨z,g9,r,ob,e,c⟩:=x;exact⟨z,g9,r,ob,k _ _ (.inl rfl) e,c⟩
 |dK B=>obtain⟨z,y,i,r,ob,es,g,e,c⟩:=x;exact⟨z,y,i,r,ob,es,g,k _ _ (.inl rfl) e,c⟩
 |dT B=>
  obtain⟨z,y,xs,r,ob,es,g,e,c⟩:=x;exact⟨z,y,xs,Paired.RA r λp q z=>⟨z.1,I _ _ z.2.1,z.2.2⟩,ob,es,g,k _ _ (.inl rfl) e,c⟩
 |set S n=>obtain⟨ob,es,g,t,e,c⟩:=x;exact⟨ob,es,g,t,k _ _ (.inl rfl) e,c⟩
 |ins C E fs=>
  obtain⟨d,z,ne,e,j,⟨od,es,g,e2,c⟩,r⟩:=x;exact⟨A _ d,z,ne,k _ _ (.inl rfl) e,j,⟨od,es,g,k _ _ (.inr d) e2,c⟩,r⟩
 |own y=>obtain⟨ob,e⟩:=x;exact⟨ob,k _ _ (.inl rfl) e⟩
 |xd fs=>obtain⟨j,⟨od,es,g,e,c⟩,r⟩:=x;exact⟨j,⟨od,es,g,k _ _ (.inl rfl) e,c⟩,r⟩
 |UA lo hi=>obtain⟨t,u,v,e⟩:=x;exact⟨t,u,v,k _ _ (.inl rfl) e⟩
 |oX ob u J=>obtain⟨e,q⟩:=x;exact⟨k _ _ (.inl rfl) e,J q⟩
 |dE g B=>obtain⟨z,y,i,r,ob,es,e,c⟩:=x;exact⟨z,y,i,r,ob,es,k _ _ (.inl rfl) e,c⟩
 |xc C fs=>
  obtain⟨L,i,e,M,N,m⟩:=x;refine⟨L,i,k _ _ (.inl rfl) e,M,N,?_⟩;rcases m with m|⟨E,j,O,Q,G,⟨od,es,g,e2,c⟩,T⟩
  ·exact .inl m
  ·exact .inr ⟨E,j,O,Q,A _ G,⟨od,es,g,k _ _ (.inr G) e2,c⟩,T⟩
 |BG ps=>
  have e:h.get? a=ae {cls:=.none,data:=.fields ps}:=x;show h'.get? a=ae {cls:=.none,data:=.fields ps};exact k a _ (.inl rfl) e
 |met f y=>
  have e:h.get? a=ae (W.methodObj (.ref f) (.ref y)):=x;show h'.get? a=ae (W.methodObj (.ref f) (.ref y));exact k a _ (.inl rfl) e
 |ext U=>obtain⟨p,⟨o,e⟩,st⟩:=x;exact⟨st _ _ p λo q=>k _ _ (.inl rfl) q,⟨o,k _ _ (.inl rfl) e⟩,st⟩
theorem oY.lt(x:oY P w H h)(e:H a=ae o):a<h.objs.size:=(x a o e).lt
theorem oY.fresh(x:oY P w H h)(e:h.objs.size<=a):H a=aq:=by
 cases q:H a with
 |none=>rfl
 |some u=>exact absurd (aT (x.lt q) e) (cu _)
theorem oY.kept(x:oY P w H h)(k:∀b u,h.get? b=ae u->h'.get? b=ae u):oY P w H h':=λa o e=>
 (x a o e).qi (λb u _ q=>k b u q) (λ_ q=>q) λ_ _ q=>q
theorem oY.laid(x:oY P w H h)(k:∀b u,h.get? b=ae u->h'.get? b=ae u)(f:h.objs.size<=a)(new:iD P w (upd H a o) h' a o):oY P w (upd H a o) h':=λb u e=>by
 have hn:=x.fresh f;by_cases hb:b=a
 ·subst hb;rw[gH] at e;cases e;exact new
 ·rw[gy hb] at e;exact(x b u e).qi (λc v _ q=>k c v q) (λc q=>by rw[gy (i6 q hn)];exact q) λc xs q=>by rw[gy (i6 q hn)];exact q
end
def Rd (H:Hp)(a:ai)(u:HO):Prop:=H a=ae u\/∃o,H a=ae (.oX o u)
theorem Rd.ok{P:aw}{w:aN}{H:Hp}{h:az}{a:ai}{u:HO}(r:Rd H a u)(x:oY P w H h):iD P w H h a u:=by
 rcases r with r|⟨o,r⟩
 ·exact x a u r
 ·obtain⟨_,q⟩:=x a _ r;exact q
def RE:Option HO->Prop
 |some (.lst _)=>True
 |some (.dK _)=>True
 |some (.dT _)=>True
 |some (.set _ _)=>True
 |some (.ins _ _ _)=>True
 |some (.ext _)=>True
 |some (.dE _ _)=>True
 |_=>False
section
variable {P:aw} {w:aN} {H:Hp} {h h':az} {x e:ai} {o':HO}
theorem oY.write(ok:oY P w H h)(a:RE (H x))(g:e=x\/H e=ae (.own x))(k:∀b u,b≠e->h.get? b=ae u->h'.get? b=ae u)(m:∃u,h'.get? e=ae u)
(new:iD P w (upd H x o') h' x o'):oY P w (upd H x o') h':=λb u q=>by
 have i:∀c y,H c=ae (.own y)->c≠x:=λc y r z=>by subst z;rw[r] at a;exact a
 have n:∀c xs,H c=ae (.tup xs)->c≠x:=λc xs r z=>by subst z;rw[r] at a;exact a
 by_cases hb:b=x
 ·subst hb;rw[gH] at q;cases q;exact new
 ·rw[gy hb] at q;by_cases f:b=e
  ·have j:H b=ae (.own x):=by
    rcases g with z|z
    ·exact absurd (f.trans z) hb
    ·rw[f];exact z
   rw[q] at j;cases j;obtain⟨v,o⟩:=m;exact⟨v,by rw[f];exact o⟩
  ·refine(ok b u q).qi (λc v hc r=>k c v ?_ r) (λc r=>by rw[gy (i c b r)];exact r) λc xs r=>by rw[gy (n c xs r)];exact r
   rcases hc with rfl|hc
   ·exact f
   ·rintro rfl
    rcases g with z|z
    ·exact i c b hc z
    ·rw[hc] at z;cases z;exact hb rfl
end
structure Un(fs ex:List ai)(H H':Hp)(h h':az):Prop where
 keep:∀b o,h.get? b=ae o->H b=aq->b∉fs->b∉ex->h'.get? b=ae o
 slot:∀b o,h.get? b=ae o->H b=aq->b∈fs->b∉ex->∃sl,h'.get? b=ae {o with slots:=sl}
 free:∀b o,h.get? b=ae o->H b=aq->b∉ex->H' b=aq
 there:∀b o,h.get? b=ae o->b∉ex->∃o',h'.get? b=ae o'
 jU:∀b xs,H b=ae (.tup xs)->H' b=ae (.tup xs)
 pd:∀b o u,H b=ae (.oX o u)->H' b=ae (.oX o u)
 qA:∀b ps,H b=ae (.BG ps)->∃more,H' b=ae (.BG (ps++more))
section
variable {fs Vr ex Ys:List ai} {H H1 H2:Hp} {h h1 h2 h':az} {a x e:ai} {o:HO}
theorem Un.any(u:Un fs ex H H1 h h1){b:ai}{ob:bR}(q:h.get? b=ae ob)(n:H b=aq)(c:b∉ex):∃sl,h1.get? b=ae {ob with slots:=sl}:=by
 by_cases hb:b∈fs
 ·exact u.slot b ob q n hb c
 ·exact⟨ob.slots,u.keep b ob q n hb c⟩
theorem Un.kept(k:∀b u,h.get? b=ae u->h'.get? b=ae u):Un fs ex H H h h':=
 ⟨λb ob q _ _ _=>k b ob q,λb ob q _ _ _=>⟨ob.slots,k b ob q⟩,λ_ _ _ n _=>n,λb ob q _=>⟨ob,k b ob q⟩,λ_ _ q=>q,λ_ _ _ q=>q,λ_ ps q=>⟨#[],by rw[q];simp⟩⟩
theorem Un.refl:Un fs ex H H h h:=Un.kept λ_ _ q=>q
theorem Un.laid(k:∀b u,h.get? b=ae u->h'.get? b=ae u)(c:h.objs.size<=a)(hn:H a=aq):Un fs ex H (upd H a o) h h' where
 keep:=λb u q _ _ _=>k b u q
 slot:=λb u q _ _ _=>⟨u.slots,k b u q⟩
 free:=λb u q n _=>by rw[gy (bL (aT (aP q) c))];exact n
 there:=λb u q _=>⟨u,k b u q⟩
 jU:=λb xs q=>by rw[gy (i6 q hn)];exact q
 pd:=λb u xs q=>by rw[gy (i6 q hn)];exact q
 qA:=λb ps q=>⟨#[],by rw[gy (i6 q hn),q];simp⟩
theorem Un.write(c:RE (H x))(i:e=x\/H e=ae (.own x))(k:∀b u,b≠e->h.get? b=ae u->h'.get? b=ae u)(j:∃u,h'.get? e=ae u):Un fs ex H (upd H x o) h h':=by
 have f:∀b,H b=aq->b≠x:=λb n z=>by subst z;rw[n] at c;exact c
 have hb:∀b,H b=aq->b≠e:=λb n z=>by
  subst z;rcases i with r|r
  ·exact f b n r
  ·rw[n] at r;cases r
 have hm:∀b u,H b=ae u->¬RE (ae u)->b≠x:=λb u q nm z=>by subst z;rw[q] at c;exact nm c
 refine⟨λb u q n _ _=>k b u (hb b n) q,λb u q n _ _=>⟨u.slots,k b u (hb b n) q⟩,λb u q n _=>by rw[gy (f b n)];exact n,λb u q _=>?_,
  λb xs q=>by rw[gy (hm b _ q λz=>z)];exact q,λb u xs q=>by rw[gy (hm b _ q λz=>z)];exact q,λb ps q=>⟨#[],by rw[gy (hm b _ q λz=>z),q];simp⟩⟩
 by_cases g:b=e
 ·subst g;exact j
 ·exact⟨u,k b u g q⟩
theorem Un.mono(u:Un fs ex H H1 h h1)(g:∀b∈fs,b∈Vr)(f:∀b∈ex,b∈Ys):Un Vr Ys H H1 h h1:=
 ⟨λb ob q n hb c=>u.keep b ob q n (λz=>hb (g b z)) λz=>c (f b z),λ_ _ q n _ c=>u.any q n λz=>c (f _ z),λb ob q n c=>u.free b ob q n λz=>c (f b z),λb ob q c=>u.there b ob q λz=>c (f b z),u.jU,u.pd,u.qA⟩
end
noncomputable def UB(h:az)(H:Hp):List ai:=(cG h.objs.size).filter λa=>(H a).isSome
noncomputable def xT(h:az)(H:Hp):az:=W.hideAll h (UB h H)
theorem Eo(h:az)(H:Hp):(xT h H).objs.size=h.objs.size:=W.hideAll_size _ _
theorem FU{h:az}{H:Hp}{b:ai}{o:bR}(e:h.get? b=ae o)(n:H b=aq):(xT h H).get? b=ae o:=
 W.hideAll_get _ e λhm=>by have q:(H b).isSome=aj:=(List.mem_filter.mp hm).2;rw[n] at q;simp at q
theorem Jy{h:az}{H:Hp}{b:ai}{o:bR}(e:(xT h H).get? b=ae o):h.get? b=ae o/\H b=aq:=by
 have e':h.get? b=ae o:=W.of_hideAll (UB h H) e;refine⟨e',?_⟩;cases q:H b with
 |none=>rfl
 |some x=>
  have hm:b∈UB h H:=List.mem_filter.mpr ⟨List.mem_range.mpr (aP e'),by simp[q]⟩;have z:(xT h H).get? b=aq:=W.hideAll_none (UB h H) hm;rw[z] at e;cases e
noncomputable def Jz(g h:az)(L:ai):List (ai×bR):=(cG h.objs.size).filterMap λa=>if a=L\/(g.get? a).isSome=aj then aq else(h.get? a).map λo=>(a,o)
noncomputable def rest(g h:az)(L d:ai):List (ai×bR):=(Jz g h L).filter λp=>decide (p.1≠d)
end L2
namespace L2
open PySem PySem.Spec PyProof.Rows
structure Mod(K:W.Frag)(mg:av->Option af)(base:az):Prop where
 JD:K.In base
 glob:base.Ns bc mg
 blt:∃mb,base.Ns aa4 mb/\∀x:av,x≠"__name__"->mb x=bV x
 nolimit:base.NoLimit
structure Cx where
 prog:aw
 w:aN
 K:W.Frag
 mg:av->Option af
 base:az
 A:aH
 N:List av
 ib:ah
 il:Hp
 env:d4
 outer:List d4
 stack:List d4
 ex:List ai
 fn:av->Bool
 calm:Bool
 pn:List (ai×bR)
 xe:af->ah->Prop
noncomputable def oV(l:List d4):List ai:=l.filterMap (·.frame)
abbrev Cx.fs(X:Cx):List ai:=oV X.outer
def Ji (sc:b6)(x:av):Prop:=sc.names.lookup x=ae .local\/sc.names.lookup x=ae .cell\/sc.names.lookup x=ae .free
def Loc (sc:b6)(x:av):Prop:=sc.names.lookup x=ae .local\/sc.names.lookup x=ae .cell
def Look (env:d4)(h:az)(m:av->Option af)(x:av)(u:af):Prop:=
 (env.kindOf x=ae .local/\m x=ae u)\/((env.kindOf x=ae .cell\/env.kindOf x=ae .free)/\∃c,env.cells.lookup x=ae c/\h.IsCell c (ae u))
structure Cx.Ok(X:Cx):Prop where
 mod:Mod X.K X.mg X.base
 kind:X.env.scope.kind=.function
 glob:X.env.globals=bc
 blt:X.env.builtins=aa4
 above:X.ib.heap.objs.size<=X.env.locals
 inj:∀x y c,X.env.cells.lookup x=ae c->X.env.cells.lookup y=ae c->x=y
 has:∀x,(X.env.kindOf x=ae .cell\/X.env.kindOf x=ae .free)->∃c,X.env.cells.lookup x=ae c
 NV:∀x c,X.fn x=aj->X.env.cells.lookup x=ae c->X.ib.heap.objs.size<=c
 hd:X.calm=aj->X.A.handled=aq
 frames:X.A.frames=ae X.stack
 Q1:X.stack=X.outer\/(X.stack=X.env::X.outer/\X.env.frame=ae X.env.locals)
 UC:∀b∈X.ex,b≠X.env.locals/\∀x c,X.env.cells.lookup x=ae c->c≠b
 bs:∀b o,X.base.get? b=ae o->X.ib.heap.get? b=ae o/\X.il b=aq
 Ep:X.base.objs.size<=X.ib.heap.objs.size
 zJ:∀b o,X.base.get? b=ae o->b∉X.ex
 BH:∀b∈X.ex,b∉X.fs
 qB:X.ib.heap.FunFrames X.base X.outer
 Jj:∀b∈X.fs,X.il b=aq
structure Inv(X:Cx)(pins:List (ai×bR))(σ:List (Option V))(H:Hp)(s:ah):Prop where
 ok:X.Ok
 os:s.os=X.ib.os
 bare:eN s.gens
 base:Un X.fs X.ex X.il H X.ib.heap s.heap
 loc:∃m,s.heap.Ns X.env.locals m/\∀(i:Nat) (x:av) (v:V),X.N[i]?=ae x->σ[i]?=ae (ae v)->Ji X.env.scope x->∃u,RelV v u/\Look X.env s.heap m x u
 cell:∀x c,X.env.cells.lookup x=ae c->∃v,s.heap.IsCell c v
 free:H X.env.locals=aq
 kC:∀x c,X.env.cells.lookup x=ae c->H c=aq
 pin:∀p∈X.pn++pins,s.heap.get? p.1=ae p.2/\H p.1=aq/\p.1≠X.env.locals/\p.1∉X.fs/\∀v,p.2.data≠.cell v
 iE:oY X.prog X.w H s.heap
 len:σ.length=X.N.length
section
variable {X:Cx} {pins:List (ai×bR)} {σ:List (Option V)} {H H':Hp} {s:ah} {h':az}
theorem Cx.Ok.Vs(ok:X.Ok){b:ai}{o:bR}(e:X.base.get? b=ae o):b∉X.fs:=λhb=>by have:=(ok.qB.mem hb).1;rw[e] at this;cases this
theorem Inv.bs(I:Inv X pins σ H s):∀b o,X.base.get? b=ae o->s.heap.get? b=ae o/\H b=aq:=λb o e=>
 ⟨I.base.keep b o (I.ok.bs b o e).1 (I.ok.bs b o e).2 (I.ok.Vs e) (I.ok.zJ b o e),I.base.free b o (I.ok.bs b o e).1 (I.ok.bs b o e).2 (I.ok.zJ b o e)⟩
theorem Inv.bk(I:Inv X pins σ H s):∀b o,X.base.get? b=ae o->s.heap.get? b=ae o:=λb o e=>(I.bs b o e).1
theorem Inv.mod(I:Inv X pins σ H s):Mod X.K X.mg X.base:=I.ok.mod
theorem Inv.ni(I:Inv X pins σ H s):X.K.In s.heap:=I.ok.mod.JD.keeps I.bk
theorem Inv.fr(I:Inv X pins σ H s):∃m,Fr X.base X.env.locals s.heap m:=
 let⟨m,hn,_⟩:=I.loc
 ⟨m,hn,I.bk,aQ I.ok.Ep I.ok.above⟩
theorem Inv.lt(I:Inv X pins σ H s):X.env.locals<s.heap.objs.size:=let⟨_,hn,_⟩:=I.loc;hn.lt
theorem Inv.sz(I:Inv X pins σ H s):X.ib.heap.objs.size<=s.heap.objs.size:=aQ I.ok.above (Nat.le_of_lt I.lt)
theorem Inv.Vt(I:Inv X pins σ H s){a:ai}(h:s.heap.objs.size<=a):a∉X.fs:=λhb=>by obtain⟨_,o,b,_⟩:=I.ok.qB.mem hb;exact absurd (aT (aP b) (aQ I.sz h)) (cu _)
theorem Inv.FV(I:Inv X pins σ H s):∀x c,X.env.cells.lookup x=ae c->c≠X.env.locals:=λx c e z=>by obtain⟨v,o,a,hd⟩:=I.cell x c e;obtain⟨m,⟨g,es,h,b,f,_⟩,_⟩:=I.loc;rw[z,b] at a;cases a;rw[f] at hd;cases hd
theorem Inv.qB(I:Inv X pins σ H s):s.heap.FunFrames X.base X.outer:=by
 have all:∀(l:List d4),(∀b∈oV l,b∈X.fs)->X.ib.heap.FunFrames X.base l->s.heap.FunFrames X.base l:=by
  intro l;induction l with
  |nil=>intro _ _;trivial
  |cons env r g=>
   intro f h;obtain⟨i,⟨L,o,a,hn,j,hd⟩,m⟩:=h;have c:L∈X.fs:=f L (by unfold oV;rw[List.filterMap_cons,a];exact a8);obtain⟨sl,e⟩:=I.base.slot L o j (I.ok.Jj L c) c λz=>I.ok.BH L z c;exact⟨i,⟨L,_,a,hn,e,hd⟩,g (λb hb=>f b (by unfold oV;rw[List.filterMap_cons,a];exact au _ hb)) m⟩
 exact all X.outer (λ_ hb=>hb) I.ok.qB
theorem Inv.stack(I:Inv X pins σ H s):s.heap.FunFrames X.base X.stack:=by
 rcases I.ok.Q1 with e|⟨e,a⟩
 ·rw[e];exact I.qB
 ·rw[e];obtain⟨m,hn,_⟩:=I.loc;refine .cons (by rw[I.ok.kind];decide) a hn ?_ I.qB;exact fN (aQ I.ok.Ep I.ok.above)
theorem Inv.qC(I:Inv X pins σ H s):∀b∈oV X.stack,b∈X.env.locals::X.fs:=λb hb=>by
 rcases I.ok.Q1 with e|⟨e,a⟩
 ·rw[e] at hb;exact au _ hb
 ·rw[e] at hb;unfold oV at hb;rw[List.filterMap_cons,a] at hb;exact hb
theorem Inv.C2(I:Inv X pins σ H s):∀b∈oV X.stack,H b=aq:=λb hb=>by
 rcases aE.mp (I.qC b hb) with e|hb
 ·rw[e];exact I.free
 ·obtain⟨_,o,a,_⟩:=I.ok.qB.mem hb;exact I.base.free b o a (I.ok.Jj b hb) λz=>I.ok.BH b z hb
theorem Inv.step{g':Array aap}{G:Nat}{d':aa8}{ch:List ai}(I:Inv X pins σ H s)
(g:∀b∈ch,(b∈X.ex\/X.ib.heap.objs.size<=b)/\b≠X.env.locals/\(∀x c,X.env.cells.lookup x=ae c->c≠b)/\∀p∈X.pn++pins,p.1≠b)
(keep:∀b o,b≠X.env.locals->b∉X.fs->b∉ch->s.heap.get? b=ae o->H b=aq->h'.get? b=ae o)
(slot:∀b o,b≠X.env.locals->b∈X.fs->b∉ch->s.heap.get? b=ae o->H b=aq->∃sl,h'.get? b=ae {o with slots:=sl})(free:∀b o,b∉ch->s.heap.get? b=ae o->H b=aq->H' b=aq)
(there:∀b o,b∉ch->s.heap.get? b=ae o->∃h,h'.get? b=ae h)
(jU:∀b xs,H b=ae (.tup xs)->H' b=ae (.tup xs))(pd:∀b o u,H b=ae (.oX o u)->H' b=ae (.oX o u))(qA:∀b ps,H b=ae (.BG ps)->∃more,H' b=ae (.BG (ps++more)))
(ns:∀m,s.heap.Ns X.env.locals m->h'.Ns X.env.locals m)(iE:oY X.prog X.w H' h')(J:eN g'):
  Inv X pins σ H' {s with heap:=h',gens:=g',drawn:=d',toks:=G}:=by
 have A:∀b o,X.ib.heap.get? b=ae o->b≠X.env.locals:=λb o e=>bL (aT (aP e) I.ok.above);have y:∀b o,X.ib.heap.get? b=ae o->b∉X.ex->b∉ch:=λb o e a hb=>by
  rcases(g b hb).1 with z|z
  ·exact a z
  ·exact absurd (aT (aP e) z) (cu _)
 have B:∀x c,X.env.cells.lookup x=ae c->∀v,s.heap.IsCell c v->h'.IsCell c v:=λx c e v ⟨o,f,hd⟩=>by
  have j:c∉ch:=λz=>(g c z).2.2.1 x c e rfl;by_cases hc:c∈X.fs
  ·obtain⟨sl,q⟩:=slot c o (I.FV x c e) hc j f (I.kC x c e);exact⟨_,q,hd⟩
  ·exact⟨o,keep c o (I.FV x c e) hc j f (I.kC x c e),hd⟩
 refine⟨I.ok,I.os,J,⟨λb o e n hb a=>?_,λb o e n hb a=>?_,λb o e n a=>?_,λb o e a=>?_,λb xs e=>jU b xs (I.base.jU b xs e),λb o xs e=>pd b o xs (I.base.pd b o xs e),λb ps e=>?_⟩,?_,λx c e=>?_,?_,λx c e=>?_,λp C=>?_,iE,I.len⟩
 ·exact keep b o (A b o e) hb (y b o e a) (I.base.keep b o e n hb a) (I.base.free b o e n a)
 ·obtain⟨sl,e1⟩:=I.base.slot b o e n hb a;obtain⟨L,e2⟩:=slot b _ (A b o e) hb (y b o e a) e1 (I.base.free b o e n a);exact⟨L,e2⟩
 ·obtain⟨h,e1⟩:=I.base.there b o e a;exact free b h (y b o e a) e1 (I.base.free b o e n a)
 ·obtain⟨h,e1⟩:=I.base.there b o e a;exact there b h (y b o e a) e1
 ·obtain⟨M,e1⟩:=I.base.qA b ps e;obtain⟨N,e2⟩:=qA b _ e1;exact⟨M++N,by rw[e2,Array.append_assoc]⟩
 ·obtain⟨m,hn,O⟩:=I.loc;refine⟨m,ns m hn,λi x v e1 e2 e3=>?_⟩;obtain⟨u,r,l⟩:=O i x v e1 e2 e3;refine⟨u,r,?_⟩;rcases l with l|⟨k,c,e,z⟩
  ·exact .inl l
  ·exact .inr ⟨k,c,e,B x c e _ z⟩
 ·obtain⟨v,z⟩:=I.cell x c e;exact⟨v,B x c e v z⟩
 ·obtain⟨m,⟨o,_,_,f,_⟩,_⟩:=I.loc;exact free _ o (λz=>(g _ z).2.1 rfl) f I.free
 ·obtain⟨v,o,f,hd⟩:=I.cell x c e;exact free c o (λz=>(g c z).2.2.1 x c e rfl) f (I.kC x c e)
 ·obtain⟨e,n,ne,E,d⟩:=I.pin p C;have j:p.1∉ch:=λz=>(g p.1 z).2.2.2 p C rfl;exact⟨keep p.1 p.2 ne E j e n,free p.1 p.2 j e n,ne,E,d⟩
theorem Inv.un{t':Nat}(I:Inv X pins σ H s)(u:Un X.fs [] H H' s.heap h')(iE:oY X.prog X.w H' h'):Inv X pins σ H' {s with heap:=h',toks:=t'}:=by
 obtain⟨m,⟨o,es,j,a,r⟩,_⟩:=id I.loc;obtain⟨sl,f⟩:=u.any a I.free (by simp);exact I.step (g':=s.gens) (d':=s.drawn) (ch:=[]) (λ_ z=>nomatch z) (λb o _ hb _ e n=>u.keep b o e n hb (by simp)) (λb o _ hb _ e n=>u.slot b o e n hb (by simp)) (λb o _ e n=>u.free b o e n (by simp)) (λb o _ e=>u.there b o e (by simp)) u.jU u.pd u.qA (λv hm=>by obtain⟨y,g,h,c,i⟩:=hm;rw[a] at c;cases c;exact⟨_,g,h,f,i⟩) iE I.bare
theorem Inv.call{g':Array aap}{t':Nat}{d':aa8}{ch:List ai}(I:Inv X pins σ H s)(u:Un (oV X.stack) ch H H' s.heap h')(iE:oY X.prog X.w H' h')(i:eN g')
(f:∀b∈ch,(b∈X.ex\/X.ib.heap.objs.size<=b)/\b≠X.env.locals/\(∀x c,X.env.cells.lookup x=ae c->c≠b)/\∀p∈X.pn++pins,p.1≠b):
  Inv X pins σ H' {s with heap:=h',gens:=g',drawn:=d',toks:=t'}:=by
 obtain⟨m,⟨o,es,y,g,r⟩,_⟩:=id I.loc;obtain⟨sl,a⟩:=u.any g I.free λz=>(f _ z).2.1 rfl;exact I.step (ch:=ch) f (λb o a hb hc e n=>u.keep b o e n (λz=>(aE.mp (I.qC b z)).elim a hb) hc) (λb o _ _ hc e n=>u.any e n hc) (λb o hc e n=>u.free b o e n hc) (λb o hc e=>u.there b o e hc) u.jU u.pd u.qA (λA hm=>by obtain⟨B,j,q,h,v⟩:=hm;rw[g] at h;cases h;exact⟨_,j,q,a,v⟩) iE i
theorem Inv.turned{t':Nat}{it:ai}(I:Inv X pins σ H s)(k:∀b o,b≠it->s.heap.get? b=ae o->h'.get? b=ae o)(hn:H it=aq)(a:it≠X.env.locals)
(g:it∈X.ex\/X.ib.heap.objs.size<=it)(h:∀x c,X.env.cells.lookup x=ae c->c≠it)(i:∀p∈X.pn++pins,p.1≠it):Inv X pins σ H {s with heap:=h',toks:=t'}:=by
 have f:∀b u,H b=ae u->b≠it:=λb u e z=>by rw[z,hn] at e;cases e
 refine I.step (g':=s.gens) (d':=s.drawn) (ch:=[it]) (λb hb=>?_) (λb o _ _ hc e _=>k b o (λz=>hc (by simp[z])) e) (λb o _ _ hc e _=>⟨o.slots,k b o (λz=>hc (by simp[z])) e⟩) (λ_ _ _ _ n=>n)
  (λb o hc e=>⟨o,k b o (λz=>hc (by simp[z])) e⟩) (λ_ _ e=>e) (λ_ _ _ e=>e) (λb ps e=>⟨#[],by rw[e];simp⟩) (λm hm=>?_) (λb u e=>?_) I.bare
 ·have e:b=it:=by simpa using hb
  subst e;exact⟨g,a,h,i⟩
 ·obtain⟨o,es,j,w,r⟩:=hm;exact⟨o,es,j,k _ o (b4 a) w,r⟩
 ·refine(I.iE b u e).qi (λc v hc q=>k c v ?_ q) (λ_ q=>q) λ_ _ q=>q;rcases hc with z|z
  ·rw[z];exact f b u e
  ·exact f c _ z
theorem Inv.tok(I:Inv X pins σ H s)(t:Nat):Inv X pins σ H {s with toks:=t}:=I.un (h':=s.heap) (t':=t) Un.refl I.iE
theorem Inv.kept{t':Nat}(I:Inv X pins σ H s)(k:∀b u,s.heap.get? b=ae u->h'.get? b=ae u):Inv X pins σ H {s with heap:=h',toks:=t'}:=I.un (Un.kept k) (I.iE.kept k)
theorem Inv.laid{a:ai}{o:HO}{t':Nat}(I:Inv X pins σ H s)(k:∀b u,s.heap.get? b=ae u->h'.get? b=ae u)(c:s.heap.objs.size<=a)(new:iD X.prog X.w (upd H a o) h' a o):
  Inv X pins σ (upd H a o) {s with heap:=h',toks:=t'}:=I.un (Un.laid k c (I.iE.fresh c)) (I.iE.laid k c new)
theorem Inv.write{x e:ai}{o:HO}{g:Nat}(I:Inv X pins σ H s)(a:RE (H x))(c:e=x\/H e=ae (.own x))(k:∀b u,b≠e->s.heap.get? b=ae u->h'.get? b=ae u)(f:∃u,h'.get? e=ae u)
(new:iD X.prog X.w (upd H x o) h' x o):Inv X pins σ (upd H x o) {s with heap:=h',toks:=g}:=I.un (Un.write a c k f) (I.iE.write a c k f new)
theorem Inv.C3{a:List (ai×bR)}(I:Inv X pins σ H s)(h:∀p∈a,s.heap.get? p.1=ae p.2/\H p.1=aq/\p.1≠X.env.locals/\p.1∉X.fs/\∀v,p.2.data≠.cell v):Inv X a σ H s:=
 ⟨I.ok,I.os,I.bare,I.base,I.loc,I.cell,I.free,I.kC,λp b=>(aO.mp b).elim (λz=>I.pin p (br _ z)) (h p),I.iE,I.len⟩
theorem uX{N:List av}(c:N.Nodup){i j:Nat}{x:av}(a:N[i]?=ae x)(b:N[j]?=ae x):i=j:=by obtain⟨e,e1⟩:=aC.mp a;obtain⟨f,e2⟩:=aC.mp b;exact(List.getElem_inj c).mp (e1.trans e2.symm)
theorem w4{M:aaE}{A:aH}{E:af->ah->Prop}{i:Nat}{x:av}{v:V}{u:af}{Q:Unit->ah->Prop}(I:Inv X pins σ H s)(hN:X.N.Nodup)(hi:X.N[i]?=ae x)(g:Loc X.env.scope x)(r:RelV v u)
(h:∀L,Inv X pins (σ.set i (ae v)) H L->(∃a,bX a s.heap L.heap/\(a=X.env.locals\/X.env.cells.lookup x=ae a))->Q () L)(hf:X.fn x=aj\/X.env.scope.names.lookup x=ae .local:=by first|exact .inl rfl|exact .inr rfl|assumption):wpAny M A (storeName X.env x u) Q E s:=by
 obtain⟨m,hn,hl⟩:=id I.loc;have NW:(X.env.scope.kind==.class||(X.env.scope.kind==.module&&X.env.locals !=X.env.globals))=ao:=by rw[I.ok.kind];rfl
 have RJ:i<σ.length:=by rw[I.len];exact(aC.mp hi).1
 have FV:=I.FV;have C4:∀{a:ai} {h':az},(∃o,s.heap.get? a=ae o/\H a=aq)->bX a s.heap h'->oY X.prog X.w H h':=λ{a h'} ha f b ob e=>by
  obtain⟨_,_,Mt⟩:=ha;refine(I.iE b ob e).qi (λc G hc q=>(f.2 c ?_).trans q) (λ_ q=>q) λ_ _ q=>q
  rintro rfl
  rcases hc with rfl|hc
  ·rw[Mt] at e;cases e
  ·rw[Mt] at hc;cases hc
 rcases g with B|B
 ·refine wpAny_storeName_local B hn (λh' JH f=>?_) NW;obtain⟨oL,_,_,ZG,_⟩:=id hn;refine h _ ⟨I.ok,I.os,I.bare,⟨λb o e n hb g=>?_,λb o e n hb g=>?_,I.base.free,λb o e g=>?_,I.base.jU,I.base.pd,I.base.qA⟩,⟨_,JH,λj y O e1 e2 e3=>?_⟩,λy c e=>?_,I.free,I.kC,λp T=>?_,C4 ⟨oL,ZG,I.free⟩ f,by simpa using I.len⟩ ⟨_,f,.inl rfl⟩
  ·exact(f.2 b (bL (aT (aP e) I.ok.above))).trans (I.base.keep b o e n hb g)
  ·obtain⟨sl,e1⟩:=I.base.slot b o e n hb g;exact⟨sl,(f.2 b (bL (aT (aP e) I.ok.above))).trans e1⟩
  ·obtain⟨U,e1⟩:=I.base.there b o e g;exact⟨U,(f.2 b (bL (aT (aP e) I.ok.above))).trans e1⟩
  ·by_cases C:j=i
   ·subst C;rw[hi] at e1;cases e1;rw[b9 RJ] at e2;cases e2;exact⟨u,r,.inl ⟨B,by simp⟩⟩
   ·rw[cn (b4 C)] at e2;obtain⟨Y,r',q⟩:=hl j y O e1 e2 e3;refine⟨Y,r',?_⟩;rcases q with⟨k,e⟩|⟨k,c,e,z⟩
    ·refine .inl ⟨k,?_⟩;have:y≠x:=λe=>C (uX hN e1 (e▸hi));simp[this,e]
    ·exact .inr ⟨k,c,e,z.sameBut f (FV y c e)⟩
  ·obtain⟨G,z⟩:=I.cell y c e;exact⟨G,z.sameBut f (FV y c e)⟩
  ·obtain⟨e,n,ne,nf,d⟩:=I.pin p T;exact⟨(f.2 p.1 ne).trans e,n,ne,nf,d⟩
 ·have Vx:X.fn x=aj:=by
   rcases hf with z|z
   ·exact z
   ·rw[z] at B;cases B
  obtain⟨c,hc⟩:=I.ok.has x (.inl B);obtain⟨G,z⟩:=I.cell x c hc;refine wpAny_storeName_cell I.ok.kind B hc z (λh' Mu f=>?_);obtain⟨oc,Yu,Vy⟩:=id z;refine h {s with heap:=h'} ⟨I.ok,I.os,I.bare,⟨λb o e n hb g=>?_,λb o e n hb g=>?_,I.base.free,λb o e g=>?_,I.base.jU,I.base.pd,I.base.qA⟩,⟨m,hn.sameBut f (b4 (FV x c hc)),λj y O e1 e2 e3=>?_⟩,λy J e=>?_,I.free,I.kC,λp T=>?_,C4 ⟨oc,Yu,I.kC x c hc⟩ f,by simpa using I.len⟩ ⟨c,f,.inr hc⟩
  ·exact(f.2 b (bL (aT (aP e) (I.ok.NV x c Vx hc)))).trans (I.base.keep b o e n hb g)
  ·obtain⟨sl,e1⟩:=I.base.slot b o e n hb g;exact⟨sl,(f.2 b (bL (aT (aP e) (I.ok.NV x c Vx hc)))).trans e1⟩
  ·obtain⟨U,e1⟩:=I.base.there b o e g;exact⟨U,(f.2 b (bL (aT (aP e) (I.ok.NV x c Vx hc)))).trans e1⟩
  ·by_cases C:j=i
   ·subst C;rw[hi] at e1;cases e1;rw[b9 RJ] at e2;cases e2;exact⟨u,r,.inr ⟨.inl B,c,hc,Mu⟩⟩
   ·rw[cn (b4 C)] at e2;obtain⟨Y,r',q⟩:=hl j y O e1 e2 e3;refine⟨Y,r',?_⟩;rcases q with q|⟨k,J,e,z'⟩
    ·exact .inl q
    ·refine .inr ⟨k,J,e,z'.sameBut f ?_⟩
     rintro rfl
     exact C (uX hN e1 (I.ok.inj _ _ _ e hc▸hi))
  ·by_cases Yv:J=c
   ·subst Yv;exact⟨_,Mu⟩
   ·obtain⟨w2,z2⟩:=I.cell y J e;exact⟨w2,z2.sameBut f Yv⟩
  ·obtain⟨e,n,ne,nf,d⟩:=I.pin p T;refine⟨(f.2 p.1 ?_).trans e,n,ne,nf,d⟩;intro q;rw[q,Yu] at e;have q':oc=p.2:=bq e;exact d G (by rw[<-q'];exact Vy)
theorem zL{M:aaE}{A:aH}{E:af->ah->Prop}{i:Nat}{x:av}{v:V}{u:af}{Q:Unit->ah->Prop}(I:Inv X pins σ H s)(b:X.N.Nodup)(hi:X.N[i]?=ae x)(c:Loc X.env.scope x)(r:RelV v u)
(h:∀a,Inv X pins (σ.set i (ae v)) H a->Q () a)(e:X.fn x=aj\/X.env.scope.names.lookup x=ae .local:=by first|exact .inl rfl|exact .inr rfl|assumption):wpAny M A (storeName X.env x u) Q E s:=
 w4 I b hi c r (λa f _=>h a f) e
theorem Inv.zM{s':ah}{ch:List ai}(I:Inv X pins σ H s)(h:s'.os=s.os)(u:Un (oV X.stack) ch H H' s.heap s'.heap)(iE:oY X.prog X.w H' s'.heap)(i:eN s'.gens)
(j:∀b∈ch,(b∈X.ex\/X.ib.heap.objs.size<=b)/\b≠X.env.locals/\(∀x c,X.env.cells.lookup x=ae c->c≠b)/\∀p∈X.pn++pins,p.1≠b):Inv X pins σ H' s':=by obtain⟨h',a,f,g,m⟩:=s';have e:m=s.os:=h;subst e;exact I.call (g':=a) (t':=g) (d':=f) u iE i j
end
abbrev XK:=af->Option ai->Hp->Prop
abbrev St:=List (Option V)
abbrev VK:=V->Hp->Prop
abbrev TE:=St->Hp->VK->Prop
abbrev TT:=St->Hp->(Bool->Hp->Prop)->Prop
abbrev TA:=St->Hp->(List V->Hp->Prop)->Prop
structure Ends where
 nx:St->Hp->Prop
 rt:VK
 bk:St->Hp->Prop:=λ_ _=>False
 ct:St->Hp->Prop:=λ_ _=>False
abbrev TS:=Ends->St->Hp->Prop
def EP (X:Cx)(pins:List (ai×bR))(σ:St)(Q:VK)(u:af)(b:ah):Prop:=∃v a,Inv X pins σ a b/\RelV v u/\Q v a
def TP (X:Cx)(pins:List (ai×bR))(σ:St)(Q:Bool->Hp->Prop)(b:Bool)(c:ah):Prop:=∃a,Inv X pins σ a c/\Q b a
def AP (X:Cx)(pins:List (ai×bR))(σ:St)(Q:List V->Hp->Prop)(us:List af)(c:ah):Prop:=∃a b,Inv X pins σ b c/\Vals a us/\Q a b
def SP (X:Cx)(pins:List (ai×bR))(D:Ends)(f:Flow)(c:ah):Prop:=
 match f with
 |.next=>∃b a,Inv X pins b a c/\D.nx b a
 |.brk=>∃b a,Inv X pins b a c/\D.bk b a
 |.cont=>∃b a,Inv X pins b a c/\D.ct b a
 |.ret u=>∃v b a,Inv X pins b a c/\RelV v u/\D.rt v a
def PE (X:Cx)(e:aS)(t:TE):Prop:=
 ∀(pins:List (ai×bR)) (s:ah) (σ:St) (H:Hp) (Q:VK),Inv X pins σ H s->t σ H Q->wpAny (model X.prog X.w) X.A (eval e X.env) (EP X pins σ Q) X.xe s
def PT (X:Cx)(e:aS)(t:TT):Prop:=
 ∀(pins:List (ai×bR)) (s:ah) (σ:St) (H:Hp) (Q:Bool->Hp->Prop),Inv X pins σ H s->t σ H Q->wpAny (model X.prog X.w) X.A (aaF e X.env (eval e X.env)) (TP X pins σ Q) X.xe s
def PW (X:Cx)(e:aS)(t:TT):Prop:=
 ∀(a:abC af) (pins:List (ai×bR)) (s:ah) (σ:St) (H:Hp) (Q:Bool->Hp->Prop),Inv X pins σ H s->t σ H Q->wpAny (model X.prog X.w) X.A (aaF e X.env a) (TP X pins σ Q) X.xe s
theorem PW.pt{X:Cx}{e:aS}{t:TT}(h:PW X e t):PT X e t:=h _
def PA (X:Cx)(es:List aS)(t:TA):Prop:=
 ∀(pos:cC) (pins:List (ai×bR)) (s:ah) (σ:St) (H:Hp) (Q:List V->Hp->Prop),Inv X pins σ H s->t σ H Q->wpAny (model X.prog X.w) X.A (spliced (cb pos (aJ es X.env))) (AP X pins σ Q) X.xe s
def PS (X:Cx)(st:b3)(t:TS):Prop:=
 ∀(pins:List (ai×bR)) (s:ah) (σ:St) (H:Hp) (D:Ends),Inv X pins σ H s->t D σ H->wpAny (model X.prog X.w) X.A (exec st X.env) (SP X pins D) X.xe s
def rn (X:Cx)(st:List b3)(t:TS):Prop:=
 ∀(pins:List (ai×bR)) (s:ah) (σ:St) (H:Hp) (D:Ends),Inv X pins σ H s->t D σ H->wpAny (model X.prog X.w) X.A (execs st X.env) (SP X pins D) X.xe s
theorem ji{α:Type}{t:abC α}{Q b:α->ah->Prop}{M:aaE}{A:aH}{E:af->ah->Prop}{s:ah}(h:wpAny M A t Q E s)(c:∀a s,Q a s->b a s):wpAny M A t b E s:=cz h c λ_ _ x=>x
end L2
namespace L2
open PySem PySem.Spec PyProof.Rows
section
variable {X:Cx}
def FX (i:Nat):TE:=λσ H Q=>∃v,σ[i]?=ae (ae v)/\Q v H
def tC (v:V):TE:=λ_ H Q=>Q v H
theorem uZ{i:Nat}{x:av}{pos:cC}(g:X.N[i]?=ae x)(j:Ji X.env.scope x)(hd:(x==("__debug__":av))=ao:=by decide)(n:(x==("__classdict__":av))=ao:=by decide):PE X (.Name x pos) (FX i):=by
 intro pins s σ H Q I h;obtain⟨v,e,h⟩:=h;obtain⟨m,hn,o⟩:=I.loc;obtain⟨u,r,l⟩:=o i x v g e j;have b:EP X pins σ Q u s:=⟨v,H,I,r,h⟩;rcases l with⟨a,hm⟩|⟨a,c,hc,f⟩
 ·exact fU (aaV I.ok.kind a hn hm b) hd
 ·rcases a with a|a
  ·exact fU (aa2 I.ok.kind a hc f b) hd
  ·exact fU (aa3 I.ok.kind a hc f b n) hd
theorem FY{i j pos}:PE X (.Constant (.int i) j pos) (tC (.int i)):=λ_ _ _ H _ I h=>aa5 ⟨.int i,H,I.tok _,⟨_,rfl⟩,h⟩
theorem RK{b j pos}:PE X (.Constant (.bool b) j pos) (tC (.bl b)):=λ_ _ _ H _ I h=>Constant_bool ⟨.bl b,H,I,rfl,h⟩
theorem NX{j pos}:PE X (.Constant .none j pos) (tC .non):=λ_ _ _ H _ I h=>Constant_none ⟨.non,H,I,rfl,h⟩
theorem BI{x j pos}:PE X (.Constant (.str x) j pos) (tC (.str x)):=λ_ _ _ H _ I h=>Calls.Constant_str ⟨.str x,H,I.tok _,⟨_,rfl⟩,h⟩
def Gl (X:Cx)(x:av):Prop:=X.env.kindOf x=ae .globalImplicit
theorem pU{E:af->ah->Prop}{pins:List (ai×bR)}{s:ah}{σ:St}{H:Hp}{x:av}{u:af}{pos:cC}{Q:af->ah->Prop}(I:Inv X pins σ H s)(a:Gl X x)(hm:X.mg x=ae u)(h:Q u s)
(hd:(x==("__debug__":av))=ao:=by decide):wpAny (model X.prog X.w) X.A (eval (.Name x pos) X.env) Q E s:=
 Calls.Name_function_global I.ok.kind a (Calls.loadGlobal_global (by rw[I.ok.glob];exact I.mod.glob.keeps I.bk) hm h) hd
theorem sO{E:af->ah->Prop}{pins:List (ai×bR)}{s:ah}{σ:St}{H:Hp}{x:av}{u:af}{pos:cC}{Q:af->ah->Prop}(I:Inv X pins σ H s)(a:Gl X x)(hm:X.mg x=aq)(b:bV x=ae u)(h:Q u s)
(hn:x≠"__name__":=by decide)(hd:(x==("__debug__":av))=ao:=by decide):wpAny (model X.prog X.w) X.A (eval (.Name x pos) X.env) Q E s:=by obtain⟨f,c,e⟩:=I.mod.blt;exact Calls.Name_function_global I.ok.kind a (Calls.loadGlobal_builtin (by rw[I.ok.glob];exact I.mod.glob.keeps I.bk) hm (by rw[I.ok.blt];exact c.keeps I.bk) ((e x hn).trans b) h) hd
theorem C5{x:av}{v:V}{u:af}{pos:cC}(a:Gl X x)(hm:X.mg x=ae u)(r:RelV v u)(hd:(x==("__debug__":av))=ao:=by decide):PE X (.Name x pos) (tC v):=
 λ_ _ _ H _ I h=>pU I a hm ⟨v,H,I,r,h⟩ hd
theorem JJ{x:av}{v:V}{u:af}{pos:cC}(a:Gl X x)(hm:X.mg x=aq)(b:bV x=ae u)(r:RelV v u)(hn:x≠"__name__":=by decide)(hd:(x==("__debug__":av))=ao:=by decide):PE X (.Name x pos) (tC v):=
 λ_ _ _ H _ I h=>sO I a hm b ⟨v,H,I,r,h⟩ hn hd
variable {a b:aS} {ta tb:TE} {pos:cC}
def tB (t:TE):TT:=λσ H Q=>t σ H λx H1=>∃c,x=.bl c/\Q c H1
theorem NY{e:aS}{t:TE}(h:PE X e t)(f:∀c,aaF e X.env c=(do let v<-c;aaC e.pos;holding [v] (truthy v)):=by intro _;rfl):PT X e (tB t):=by intro pins s σ H Q I hw;refine isTrue_plain (ji (h pins s σ H _ I hw) λv s1 ⟨x,H1,g,i,j⟩=>?_) (f _);obtain⟨d,rfl,q⟩:=j;cases i;exact bY ⟨H1,g,q⟩
variable {tA FZ:TT} {rest:List aS}
def Vz (t u:TT):TT:=λσ H Q=>t σ H λc H1=>if c=aj then u σ H1 Q else Q ao H1
def ZH (t u:TT):TT:=λσ H Q=>t σ H λc H1=>if c=aj then Q aj H1 else u σ H1 Q
def VA (t:TT):TT:=λσ H Q=>t σ H λc H1=>Q (!c) H1
theorem pw_and1(ha:PT X a tA):PW X (.BoolOp .And [a] pos) tA:=by
 intro f pins s σ H Q I h;refine isTrue_and (ji (ha pins s σ H Q I h) λc s1 e=>?_);cases c with
 |true=>exact isTrue_and_nil e
 |false=>exact e
theorem pw_or1(ha:PT X a tA):PW X (.BoolOp .Or [a] pos) tA:=by
 intro f pins s σ H Q I h;refine aaK (ji (ha pins s σ H Q I h) λc s1 e=>?_);cases c with
 |false=>exact abD e
 |true=>exact e
theorem pw_and(ha:PT X a tA)(hb:PW X (.BoolOp .And (b::rest) pos) FZ):PW X (.BoolOp .And (a::b::rest) pos) (Vz tA FZ):=by
 intro g pins s σ H Q I h;refine isTrue_and (ji (ha pins s σ H _ I h) λc s1 i=>?_);obtain⟨H1,e,f⟩:=i;cases c with
 |true=>exact hb g pins s1 σ H1 Q e f
 |false=>exact⟨H1,e,f⟩
theorem pw_or(ha:PT X a tA)(hb:PW X (.BoolOp .Or (b::rest) pos) FZ):PW X (.BoolOp .Or (a::b::rest) pos) (ZH tA FZ):=by
 intro g pins s σ H Q I h;refine aaK (ji (ha pins s σ H _ I h) λc s1 i=>?_);obtain⟨H1,e,f⟩:=i;cases c with
 |true=>exact⟨H1,e,f⟩
 |false=>exact hb g pins s1 σ H1 Q e f
theorem NZ(ha:PT X a tA):PT X (.UnaryOp .Not a pos) (VA tA):=by intro pins s σ H Q I h;exact isTrue_not (ha pins s σ H (λc H1=>Q (!c) H1) I h)
def RL (ta tb:TE):TE:=λσ H Q=>ta σ H λx H1=>∃c,x=.bl c/\if c=aj then tb σ H1 Q else Q (.bl ao) H1
def RM (ta:TE):TE:=λσ H Q=>ta σ H λx H1=>∃c,x=.bl c/\Q (.bl (!c)) H1
theorem N0{op}{t:TE}(h:PE X a t):PE X (.BoolOp op [a] pos) t:=λpins s σ H Q I hw=>BoolOp_one (h pins s σ H Q I hw)
theorem N1(ha:PE X a ta)(hb:PE X (.BoolOp .And (b::rest) pos) tb):PE X (.BoolOp .And (a::b::rest) pos) (RL ta tb):=by
 intro pins s σ H Q I h;refine BoolOp_and (ji (ha pins s σ H _ I h) λv s1 g=>?_);obtain⟨x,H1,f,i,e⟩:=g;obtain⟨c,rfl,e⟩:=e;cases i;refine bY ?_;cases c with
 |true=>exact hb pins s1 σ H1 Q f e
 |false=>exact⟨.bl ao,H1,f,rfl,e⟩
theorem N3(ha:PE X a ta):PE X (.UnaryOp .Not a pos) (RM ta):=by intro pins s σ H Q I h;refine UnaryOp_ (ji (ha pins s σ H _ I h) λv s1 f=>?_);obtain⟨x,H1,g,i,e⟩:=f;obtain⟨c,rfl,e⟩:=e;cases i;exact not_of (bY ⟨.bl (!c),H1,g,rfl,e⟩)
def ZI (t:TT)(ta tb:TE):TE:=λσ H Q=>t σ H λc H1=>if c=aj then ta σ H1 Q else tb σ H1 Q
theorem F0{c:aS}(hc:PT X c tA)(ha:PE X a ta)(hb:PE X b tb):PE X (.IfExp c a b pos) (ZI tA ta tb):=by
 intro pins s σ H Q I h;refine wpAny_IfExp (ji (hc pins s σ H _ I h) λd s1 g=>?_);obtain⟨H1,e,f⟩:=g;cases d with
 |true=>exact ha pins s1 σ H1 Q e f
 |false=>exact hb pins s1 σ H1 Q e f
end
end L2
namespace L2
open PySem PySem.Spec PyProof.Rows
def nj (K:W.Frag)(H:Hp)(a:ai)(xs:List V):Prop:=
 Rd H a (.lst xs)\/
  ∃(o:bR) (g9:Array af) (n:Nat),K.lookup a=ae o/\o.cls=.type "list"/\o.dict=aq/\o.data=.seq g9 n/\g9.size<=ax/\Vals xs g9.toList
def t9 (K:W.Frag)(H:Hp)(a:ai)(xs:List V):Prop:=
 Rd H a (.tup xs)\/
  ∃(o:bR) (g9:Array af) (n:Nat),K.lookup a=ae o/\o.cls=.type "tuple"/\o.data=.seq g9 n/\g9.size<=ax/\Vals xs g9.toList
noncomputable def VB:af->Option V
 |.none=>ae .non
 |.bool b=>ae (.bl b)
 |.int i _=>ae (.int i)
 |.str x _=>ae (.str x)
 |.bytes b _=>ae (.FH b)
 |.float b _=>ae (.oO b)
 |.ref a=>ae (.ref a)
 |.type n=>ae (.ty n)
 |_=>aq
theorem RelV.abs{x:V}{u:af}(r:RelV x u):VB u=ae x:=by
 cases x with
 |non=>cases r;rfl
 |bl _=>cases r;rfl
 |int _=>obtain⟨t,rfl⟩:=r;rfl
 |str _=>obtain⟨t,rfl⟩:=r;rfl
 |FH _=>obtain⟨t,rfl⟩:=r;rfl
 |oO _=>obtain⟨t,rfl⟩:=r;rfl
 |ref _=>cases r;rfl
 |ty _=>cases r;rfl
theorem RelV.inj{x y:V}{u:af}(r:RelV x u)(q:RelV y u):x=y:=bq (r.abs.symm.trans q.abs)
theorem Vals.inj:∀{xs a:List V} {us:List af},Vals xs us->Vals a us->xs=a
 |_,_,_,.nil,.nil=>rfl
 |_,_,_,.cons r t,.cons b c=>by rw[r.inj b,Vals.inj t c]
section
variable {X:Cx} {pins:List (ai×bR)} {σ:St} {H:Hp} {s:ah} {a:ai} {xs ys:List V}
theorem nj.of{K:W.Frag}(h:H a=ae (.lst xs)):nj K H a xs:=.inl (.inl h)
theorem Inv.list(I:Inv X pins σ H s)(h:nj X.K H a xs):∃g9:List af,Vals xs g9/\PlainL s.heap a g9.toArray/\xs.length<=ax:=by
 rcases h with h|⟨o,g9,n,b,hc,hd,c,f,r⟩
 ·obtain⟨z,g9,n,r,e⟩:=h.ok I.iE;exact⟨g9,r,⟨_,n,e,rfl,rfl,rfl⟩,z⟩
 ·refine⟨g9.toList,r,⟨o,n,I.ni a o b,hc,hd,by simpa using c⟩,?_⟩;have e:=r.length;simp only [Array.length_toList] at e;omega
theorem Inv.tuple(I:Inv X pins σ H s)(h:t9 X.K H a xs):∃g9:List af,Vals xs g9/\aaA s.heap a g9.toArray/\xs.length<=ax:=by
 rcases h with h|⟨o,g9,n,b,hc,c,f,r⟩
 ·obtain⟨z,g9,r,p⟩:=h.ok I.iE;exact⟨g9,r,p,z⟩
 ·refine⟨g9.toList,r,⟨o,I.ni a o b,hc,n,by simpa using c⟩,?_⟩;have e:=r.length;simp only [Array.length_toList] at e;omega
theorem Inv.zO(I:Inv X pins σ H s)(h:nj X.K H a xs)(c:nj X.K H a ys):xs=ys:=by
 obtain⟨g9,r,⟨o,n,e,_,_,d⟩,_⟩:=I.list h;obtain⟨f,g,⟨j,m,e',_,_,b⟩,_⟩:=I.list c;rw[e] at e';cases e';rw[d] at b;injection b with i _;have:g9=f:=by simpa using congrArg Array.toList i
 subst this;exact r.inj g
theorem Inv.w5(I:Inv X pins σ H s)(h:t9 X.K H a xs)(c:t9 X.K H a ys):xs=ys:=by
 obtain⟨g9,r,⟨o,e,_,n,d⟩,_⟩:=I.tuple h;obtain⟨f,g,⟨j,e',_,m,b⟩,_⟩:=I.tuple c;rw[e] at e';cases e';rw[d] at b;injection b with i _;have:g9=f:=by simpa using congrArg Array.toList i
 subst this;exact r.inj g
end
abbrev Cx.wK(X:Cx)(E:af->ah->Prop):Cx:={X with xe:=E}
abbrev Cx.Er(X:Cx):Cx:=X.wK λ_ _=>False
theorem Cx.Ok.wK{X:Cx}(ok:X.Ok)(E:af->ah->Prop):(X.wK E).Ok:=
 ⟨ok.mod,ok.kind,ok.glob,ok.blt,ok.above,ok.inj,ok.has,ok.NV,ok.hd,ok.frames,ok.Q1,ok.UC,ok.bs,ok.Ep,ok.zJ,ok.BH,ok.qB,ok.Jj⟩
theorem Cx.Ok.pe{X:Cx}{E:af->ah->Prop}(ok:(X.wK E).Ok):X.Ok:=
 ⟨ok.mod,ok.kind,ok.glob,ok.blt,ok.above,ok.inj,ok.has,ok.NV,ok.hd,ok.frames,ok.Q1,ok.UC,ok.bs,ok.Ep,ok.zJ,ok.BH,ok.qB,ok.Jj⟩
section
variable {X:Cx} {pins:List (ai×bR)} {σ:St} {H:Hp} {s:ah} {E:af->ah->Prop}
theorem Inv.wK(I:Inv X pins σ H s)(E:af->ah->Prop):Inv (X.wK E) pins σ H s:=⟨I.ok.wK E,I.os,I.bare,I.base,I.loc,I.cell,I.free,I.kC,I.pin,I.iE,I.len⟩
theorem Inv.pe(I:Inv (X.wK E) pins σ H s):Inv X pins σ H s:=⟨I.ok.pe,I.os,I.bare,I.base,I.loc,I.cell,I.free,I.kC,I.pin,I.iE,I.len⟩
theorem SP.pe{D:Ends}{f:Flow}{c:ah}(h:SP (X.wK E) pins D f c):SP X pins D f c:=by
 cases f with
 |next=>obtain⟨a,b,I,q⟩:=h;exact⟨a,b,I.pe,q⟩
 |brk=>obtain⟨a,b,I,q⟩:=h;exact⟨a,b,I.pe,q⟩
 |cont=>obtain⟨a,b,I,q⟩:=h;exact⟨a,b,I.pe,q⟩
 |ret u=>obtain⟨v,a,b,I,r,q⟩:=h;exact⟨v,a,b,I.pe,r,q⟩
theorem rn.Er{st:List b3}{t:TS}(h:rn X.Er st t):rn X st t:=λpins s σ H D I hw=>
 cz (h pins s σ H D (I.wK _) hw) (λ_ _ q=>q.pe) λ_ _ z=>b8 z
end
section
variable {X:Cx} {st:b3} {rest:List b3} {t u:TS} {e:aS} {te:TE} {pos:cC}
def RN:TS:=λD σ H=>D.nx σ H
def N4 (t u:TS):TS:=λD σ H=>t {D with nx:=u D} σ H
theorem C6:rn X [] RN:=λ_ _ σ H _ I h=>fZ ⟨σ,H,I,h⟩
theorem rz(a:PS X st t)(b:rn X rest u):rn X (st::rest) (N4 t u):=by
 intro pins s σ H D I h;refine abi (ji (a pins s σ H {D with nx:=u D} I h) λf s1 q=>?_);cases f with
 |next=>
  obtain⟨c,g,i,q⟩:=q;exact b pins s1 c g D i q
 |ret v=>exact q
 |brk=>exact q
 |cont=>exact q
theorem C7(a:PS X st t):rn X [st] t:=by
 intro pins s σ H D I h;refine abi (ji (a pins s σ H D I h) λf s1 q=>?_);cases f with
 |next=>exact fZ q
 |ret v=>exact q
 |brk=>exact q
 |cont=>exact q
theorem Inv.quiet{pins:List (ai×bR)}{σ:St}{H:Hp}{s:ah}(I:Inv X pins σ H s):interactive X.env=ao:=by simp[interactive,I.ok.kind]
def Mv (te:TE):TS:=λD σ H=>te σ H λ_ H1=>D.nx σ H1
theorem C8(a:PE X e te)(b:fH e aq pos.line X.env=pure ao:=by rfl):PS X (.Expr e pos) (Mv te):=by intro pins s σ H D I h;exact wpAny_Expr_any (ji (a pins s σ H _ I h) λv s1 ⟨x,H1,c,g,f⟩=>⟨σ,H1,c,f⟩) I.quiet b
def VC (te:TE):TS:=λD σ H=>te σ H D.rt
theorem F2(a:PE X e te):PS X (.Return (ae e) pos) (VC te):=by intro pins s σ H D I h;exact wpAny_Return_some (ji (a pins s σ H _ I h) λv s1 ⟨x,H1,b,c,f⟩=>⟨x,σ,H1,b,c,f⟩)
def VD (c:TT)(t u:TS):TS:=λD σ H=>c σ H λb H1=>if b=aj then t D σ H1 else u D σ H1
theorem Mw{c:aS}{a b:List b3}{tc:TT}(hc:PT X c tc)(ha:rn X a t)(hb:rn X b u):PS X (.If c a b pos) (VD tc t u):=by
 intro pins s σ H D I h;refine wpAny_If (ji (hc pins s σ H _ I h) λd s1 i=>?_);obtain⟨H1,f,g⟩:=i;cases d with
 |true=>exact ha pins s1 σ H1 D f g
 |false=>exact hb pins s1 σ H1 D f g
end
abbrev TG:=V->St->Hp->(St->Hp->Prop)->Prop
abbrev Jl:=List V->St->Hp->(St->Hp->Prop)->Prop
def PG (X:Cx)(target:aS)(t:TG):Prop:=
 ∀(pins:List (ai×bR)) (s:ah) (σ:St) (H:Hp) (v:V) (u:af) (Q:St->Hp->Prop),Inv X pins σ H s->RelV v u->t v σ H Q->
  wpAny (model X.prog X.w) X.A (assign target X.env u) (λ_ c=>∃a b,Inv X pins a b c/\Q a b) X.xe s
def F3 (X:Cx)(e:List aS)(t:Jl):Prop:=
 ∀(pins:List (ai×bR)) (s:ah) (σ:St) (H:Hp) (a:List V) (us:List af) (Q:St->Hp->Prop),Inv X pins σ H s->Vals a us->t a σ H Q->
  wpAny (model X.prog X.w) X.A (assignInOrder ((du e X.env).map (·.2)) us) (λ_ f=>∃b c,Inv X pins b c f/\Q b c) X.xe s
abbrev N5:=V->V->V->Hp->(Hp->Prop)->Prop
def RO (X:Cx)(t:N5):Prop:=
 ∀(pins:List (ai×bR)) (s:ah) (σ:St) (H:Hp) (o i v:V) (a b u:af) (Q:Hp->Prop),Inv X pins σ H s->RelV o a->RelV i b->RelV v u->t o i v H Q->
  wpAny (model X.prog X.w) X.A (setItem a b u) (λ_ e=>∃c,Inv X pins σ c e/\Q c) X.xe s
section
variable {X:Cx} {pos:cC}
def Mx (i:Nat):TG:=λv σ H Q=>Q (σ.set i (ae v)) H
theorem JK{i:Nat}{x:av}(a:X.N.Nodup)(hi:X.N[i]?=ae x)(b:Loc X.env.scope x)(c:X.fn x=aj\/X.env.scope.names.lookup x=ae .local:=by first|exact .inl rfl|exact .inr rfl|assumption):PG X (.Name x pos) (Mx i):=by intro pins s σ H v u Q I r h;exact wpAny_assign_Name (zL I a hi b r (λf e=>⟨_,H,e,h⟩) c)
def VE:Jl:=λa σ H Q=>a=[]/\Q σ H
def RP (t:TG)(u:Jl):Jl:=λa σ H Q=>∃v r,a=v::r/\t v σ H λb c=>u r b c Q
theorem JL:F3 X [] VE:=by intro pins s σ H a us Q I r h;obtain⟨e,h⟩:=h;subst e;cases r;exact assignInOrder_nil ⟨σ,H,I,h⟩
theorem F4{e:aS}{es:List aS}{t:TG}{u:Jl}(a:PG X e t)(b:F3 X es u)
(c:(du (e::es) X.env).map (·.2)=assign e X.env::(du es X.env).map (·.2):=by rfl):F3 X (e::es) (RP t u):=by
 intro pins s σ H n us Q I r h;obtain⟨v,o,e1,h⟩:=h;subst e1;cases r with
 |cons r f=>
  rw[c];refine assignInOrder_cons (ji (a pins s σ H _ _ _ I r h) λ_ s1 g=>?_);obtain⟨i,H1,j,m⟩:=g;exact b pins s1 i H1 _ _ Q j f m
def VF (K:W.Frag)(n:Nat)(t:Jl):TG:=λv σ H Q=>∃a xs,v=.ref a/\t9 K H a xs/\xs.length=n/\t xs σ H Q
theorem N6{es:List aS}{k:Nat}{t:Jl}{n:Nat}(hc:X.calm=aj)(h:F3 X es t)
(hn:(du es X.env).length=n:=by rfl)(f:(du es X.env).findIdx? (·.1)=aq:=by rfl):PG X (.Tuple es k pos) (VF X.K n t):=by intro pins s σ H v u Q I r hw;obtain⟨a,xs,e1,g,i,hw⟩:=hw;subst e1;cases r;obtain⟨g9,c,j,w⟩:=I.tuple g;refine assign_Tuple_tuple (I.ok.hd hc) j (by simp[hn,<-i,c.length]) f λm p=>?_;have q:Inv X pins σ H {s with heap:=m}:=I.kept (t':=s.toks) λb o e=>p b o (bL (aP e)) e;exact h pins _ σ H xs _ Q q (by simpa using c) hw
def VG (to ti:TE)(t:N5):TG:=λv σ H Q=>to σ H λo H1=>ti σ H1 λi a=>t o i v a λb=>Q σ b
theorem N7{o i:aS}{to ti:TE}{t:N5}(e:PE X o to)(hi:PE X i ti)(f:RO X t)
(ha:∀v,assign (.Subscript o i pos) X.env v=(do
   let a<-holding [v] (eval o X.env);let b<-holding [v,a] (eval i X.env)
   aaC pos
   holding [v,a,b] (setItem a b v)
   release [v,a,b] []):=by intro _;rfl):PG X (.Subscript o i pos) (VG to ti t):=by intro pins s σ H v u Q I r h;rw[ha];refine ag (cy (ji (e pins s σ H _ I h) λa s1 c=>?_));obtain⟨x,H1,g,j,m⟩:=c;refine ag (cy (ji (hi pins s1 σ H1 _ g m) λb s2 c=>?_));obtain⟨y,n,p,q,w⟩:=c;refine ag (aaj (ag (cy (ji (f pins s2 σ n x y v a b u _ p j q r w) λ_ s3 c=>?_))));obtain⟨z,A,B⟩:=c;exact wpAny_release ⟨σ,z,A,B⟩
def RQ (a:TE)(g:TG):TS:=λD σ H=>a σ H λx H1=>g x σ H1 D.nx
theorem N8{tg e:aS}{a:TE}{g:TG}(b:PE X e a)(c:PG X tg g)(f:abE [tg] e pos.line X.env=pure ao:=by rfl)(hw:abF [tg] e X.env=pure aq:=by rfl)
(i:(du [tg] X.env).map (·.2)=[assign tg X.env]:=by rfl):PS X (.Assign [tg] e pos) (RQ a g):=by intro pins s σ H D I h;refine wpAny_Assign_stores (ji (b pins s σ H _ I h) λv s1 ⟨x,H1,j,m,n⟩=>?_) f hw;rw[i];exact ji (c pins s1 σ H1 x v _ j m n) λ_ s2 q=>q
theorem N9{i:Nat}{x:av}{e:aS}{a:TE}{pos':cC}(b:X.N.Nodup)(hi:X.N[i]?=ae x)(c:Loc X.env.scope x)(f:PE X e a)(g:fH e (ae (.Name x pos')) pos.line X.env=pure ao:=by rfl)(j:X.fn x=aj\/X.env.scope.names.lookup x=ae .local:=by first|exact .inl rfl|exact .inr rfl|assumption):
  PS X (.Assign [.Name x pos'] e pos) (RQ a (Mx i)):=by intro pins s σ H D I h;refine wpAny_Assign_Name (ji (f pins s σ H _ I h) λv s1 ⟨y,H1,m,n,o⟩=>?_) g;exact zL m b hi c n (λs2 p=>⟨_,H1,p,o⟩) j
end
section
variable {X:Cx} {pos:cC}
end
structure It where
 go:Nat->Hp->Prop
 Mz:Nat->Hp->V->Hp->Prop
 stop:Nat->Hp->Prop
def nK (X:Cx)(pins:List (ai×bR))(H:Hp)(b:ai):Prop:=
 H b=aq/\b≠X.env.locals/\b∉X.fs/\(b∈X.ex\/X.ib.heap.objs.size<=b)/\(∀x c,X.env.cells.lookup x=ae c->c≠b)/\∀p∈X.pn++pins,p.1≠b
theorem Inv.BJ{X:Cx}{pins:List (ai×bR)}{σ:St}{H a:Hp}{s:ah}{b:ai}(I:Inv X pins σ H s)(hb:s.heap.objs.size<=b)(hn:a b=aq):nK X pins a b:=by
 refine⟨hn,eP (aT I.lt hb),I.Vt hb,.inr (aQ I.sz hb),λx c e z=>?_,λp f z=>?_⟩
 ·obtain⟨v,q⟩:=I.cell x c e;exact absurd (aT q.lt (by rw[z];exact hb)) (cu _)
 ·exact absurd (aT (aP (I.pin p f).1) (by rw[z];exact hb)) (cu _)
structure Turn(P:aw)(w:aN)(K:W.Frag)(tg:aS)(J:It)(fp:List ai)(it:ai)(tn:Nat->az->Prop):Prop where
 mem:it∈fp
 obj:∀i h,tn i h->∀b∈fp,∃o,h.get? b=ae o/\∀v,o.data≠.cell v
 keep:∀i h h',tn i h->(∀b∈fp,∀o,h.get? b=ae o->h'.get? b=ae o)->tn i h'
 item:∀(X:Cx),X.prog=P->X.w=w->X.K=K->X.calm=aj->∀(i:Nat) (pins:List (ai×bR)) (s:ah) (σ:St) (H:Hp) (E:af->ah->Prop),Inv X pins σ H s->(∀b∈fp,nK X pins H b)->tn i s.heap->J.go i H->
  wpAny (model P w) X.A (pyNext (.ref it)) (λr s1=>∃u,r=ae u/\
   wpAny (model P w) X.A (letOwnedTupleGo tg (.ref it) u) (λ_ s2=>∃x H',Inv X pins σ H' s2/\RelV x u/\J.Mz i H x H'/\tn (i+1) s2.heap/\∀b∈fp,H' b=aq) E s1) E s
 done:∀(X:Cx),X.prog=P->X.w=w->X.K=K->X.calm=aj->∀(i:Nat) (pins:List (ai×bR)) (s:ah) (σ:St) (H:Hp) (E:af->ah->Prop),Inv X pins σ H s->(∀b∈fp,nK X pins H b)->tn i s.heap->J.stop i H->
  wpAny (model P w) X.A (pyNext (.ref it)) (λr s1=>r=aq/\Inv X pins σ H s1) E s
 self:∀(A:aH) (i:Nat) (s:ah) (Q:af->ah->Prop) (E:af->ah->Prop),tn i s.heap->Q (.ref it) s->wpAny (model P w) A (aav (.ref it)) Q E s
abbrev TI:=St->Hp->(It->Hp->Prop)->Prop
def VH (X:Cx)(pins:List (ai×bR))(σ:St)(tg:aS)(R:It->Hp->Prop)(f:af)(s2:ah):Prop:=
 ∃(it:ai) (c:List ai) (e:Nat->az->Prop) (J:It) (a:Hp),f=.ref it/\Inv X pins σ a s2/\Turn X.prog X.w X.K tg J c it e/\e 0 s2.heap/\(∀b∈c,nK X pins a b)/\R J a
def PI (X:Cx)(tg iter:aS)(wi:TI):Prop:=
 ∀(pins:List (ai×bR)) (s:ah) (σ:St) (H:Hp) (R:It->Hp->Prop),Inv X pins σ H s->wi σ H R->
  wpAny (model X.prog X.w) X.A (eval iter X.env) (λv s1=>wpAny (model X.prog X.w) X.A (aav v) (VH X pins σ tg R) X.xe s1) X.xe s
theorem zP{M:aaE}{A:aH}{E:af->ah->Prop}{s:ah}{tg:aS}{it:ai}{u:af}{o:bR}{n:String}{b:Array af}{Q:Unit->ah->Prop}(c:s.heap.get? it=ae o)(hc:o.cls=.type n)(hd:o.data=.fields b)
(hn:["enumerate","zip","dict_itemiterator","dict_reverseitemiterator","odict_iterator","itertools.zip_longest","itertools.pairwise"].contains n=ao)(a:Q () s):wpAny M A (letOwnedTupleGo tg (.ref it) u) Q E s:=by
 unfold letOwnedTupleGo;cases tg<;>first
  |exact aB a
  | (cases u<;>first
    |exact aB a
    | (refine ag (wpAny_load c ?_)
       rw[hc,hd];show wpAny M A (if(["enumerate","zip","dict_itemiterator","dict_reverseitemiterator","odict_iterator","itertools.zip_longest","itertools.pairwise"].contains n&&b[0]?==ae (eg _))=aj then _ else _) Q E s;rw[if_neg (by intro h;rw[hn,Bool.false_and] at h;cases h)];exact aB a))
noncomputable def Yw(K:W.Frag)(a:ai):It:=
 ⟨λi H=>∃xs x,nj K H a xs/\xs[i]?=ae x,λi H x b=>b=H/\∀xs,nj K H a xs->xs[i]?=ae x,λi H=>∃xs,nj K H a xs/\xs.length<=i⟩
noncomputable def Yx(K:W.Frag)(a:ai):It:=
 ⟨λi H=>∃xs x,t9 K H a xs/\xs[i]?=ae x,λi H x b=>b=H/\∀xs,t9 K H a xs->xs[i]?=ae x,λi H=>∃xs,t9 K H a xs/\xs.length<=i⟩
noncomputable def UE(lo:Int)(n:Nat):It:=⟨λi _=>i<n,λi H x a=>a=H/\x=.int (lo+i),λi _=>n<=i⟩
theorem Es{P:aw}{w:aN}{K:W.Frag}{tg:aS}(a it:ai):Turn P w K tg (Yw K a) [it] it (λi h=>h.IsListIter it a i) where
 mem:=by simp
 obj:=λi h st b hb=>by
  have e:b=it:=by simpa using hb
  subst e;obtain⟨o,e,c,d⟩:=st;exact⟨o,e,λv z=>by rw[d] at z;cases z⟩
 keep:=λi h f st k=>st.at λo e=>k it (by simp) o e
 item:=by intro X m hw n hc i pins s σ H E I g st q;subst m hw n;obtain⟨xs,x,j,r⟩:=q;obtain⟨g9,y,p,M⟩:=I.list j;obtain⟨u,N,O⟩:=y.get r;obtain⟨A,B,Q,C,G,J⟩:=g it (by simp);refine wpAny_pyNext_list_item st p.isList (x:=u) (by simpa using N) λf L sb=>?_;have T:Inv X pins σ H {s with heap:=f}:=I.turned (t':=s.toks) (λb o hb e=>(sb.2 b hb).trans e) A B C G J;obtain⟨o,e,c,d⟩:=id L;exact⟨u,rfl,zP (s:={s with heap:=f}) e c d (by decide) ⟨x,H,T,O,⟨rfl,λys Y=>by rw[I.zO Y j];exact r⟩,L,λb hb=>(g b hb).1⟩⟩
 done:=by intro X m hw n hc i pins s σ H E I g st q;subst m hw n;obtain⟨xs,j,r⟩:=q;obtain⟨g9,y,p,M⟩:=I.list j;obtain⟨A,B,Q,C,G,J⟩:=g it (by simp);have hl:=y.length;exact wpAny_pyNext_list_end (I.ok.hd hc) st p.isList (by simp;omega) λf eb=>⟨rfl,I.turned (t':=s.toks) (λb o hb e=>eb b o hb e) A B C G J⟩
 self:=λ_ _ _ _ _ st h=>wpAny_pyIter_listiter st h
theorem BK{P:aw}{w:aN}{K:W.Frag}{tg:aS}(a it:ai):Turn P w K tg (Yx K a) [it] it (λi h=>h.IsTupleIter it a i) where
 mem:=by simp
 obj:=λi h st b hb=>by
  have e:b=it:=by simpa using hb
  subst e;obtain⟨o,e,c,d⟩:=st;exact⟨o,e,λv z=>by rw[d] at z;cases z⟩
 keep:=λi h f st k=>st.at λo e=>k it (by simp) o e
 item:=by intro X m hw n hc i pins s σ H E I g st q;subst m hw n;obtain⟨xs,x,j,r⟩:=q;obtain⟨g9,y,p,M⟩:=I.tuple j;obtain⟨u,N,O⟩:=y.get r;obtain⟨A,B,Q,C,G,J⟩:=g it (by simp);refine wpAny_pyNext_tuple_item st (show s.heap.IsTuple a g9.toArray from p) (x:=u) (by simpa using N) λf L sb=>?_;have T:Inv X pins σ H {s with heap:=f}:=I.turned (t':=s.toks) (λb o hb e=>(sb.2 b hb).trans e) A B C G J;obtain⟨o,e,c,d⟩:=id L;exact⟨u,rfl,zP (s:={s with heap:=f}) e c d (by decide) ⟨x,H,T,O,⟨rfl,λys Y=>by rw[I.w5 Y j];exact r⟩,L,λb hb=>(g b hb).1⟩⟩
 done:=by intro X m hw n hc i pins s σ H E I g st q;subst m hw n;obtain⟨xs,j,r⟩:=q;obtain⟨g9,y,p,M⟩:=I.tuple j;obtain⟨A,B,Q,C,G,J⟩:=g it (by simp);have hl:=y.length;exact wpAny_pyNext_tuple_end (I.ok.hd hc) st (show s.heap.IsTuple a g9.toArray from p) (by simp;omega) λf eb=>⟨rfl,I.turned (t':=s.toks) (λb o hb e=>eb b o hb e) A B C G J⟩
 self:=λ_ _ _ _ _ st h=>wpAny_pyIter_tupleiter st h
theorem BL{P:aw}{w:aN}{K:W.Frag}{tg:aS}(it:ai)(lo:Int)(n:Nat):Turn P w K tg (UE lo n) [it] it (λi h=>IsRangeIter h it (lo+(i:Nat)*1) ((n:Int)- (i:Nat)) 1) where
 mem:=by simp
 obj:=λi h st b hb=>by
  have e:b=it:=by simpa using hb
  subst e;exact⟨_,st,λv z=>by have A:Data.fields _=Data.cell v:=z;cases A⟩
 keep:=λi h a st k=>k it (by simp) _ st
 item:=by intro X f hw g hc i pins s σ H E I c st j;subst f hw g;obtain⟨m,p,B,q,r,u⟩:=c it (by simp);have W:=aa9.range (prog:=X.prog) (w:=X.w) (I.ok.hd hc) it lo 1 n;refine W.item i s _ _ j st λv a tk C y G=>?_;obtain⟨t,rfl⟩:=C;have J:Inv X pins σ H {s with heap:=a,toks:=tk}:=I.turned (λb o hb e=>G b o (by simpa using hb) e) m p q r u;refine⟨_,rfl,zP (s:={s with heap:=a,toks:=tk}) (n:="range_iterator") y rfl rfl (by decide) ⟨.int (lo+i),H,J,⟨t,?_⟩,⟨rfl,rfl⟩,y,λb hb=>(c b hb).1⟩⟩;rw[Int.mul_one]
 done:=by intro X f hw g hc i pins s σ H E I c st j;subst f hw g;obtain⟨m,p,B,q,r,u⟩:=c it (by simp);exact wpAny_pyNext_range_end (I.ok.hd hc) st (by have:n<=i:=j;omega) λa L=>⟨rfl,I.turned (t':=s.toks) (λb o hb e=>L b o hb e) m p q r u⟩
 self:=λ_ _ _ _ _ st h=>wpAny_pyIter_rangeiter st h
end L2
namespace L2
open PySem PySem.Spec PyProof.Rows
section
variable {X:Cx} {tg:aS}
theorem F5{pins:List (ai×bR)}{σ:St}{H:Hp}{s:ah}{R:It->Hp->Prop}{E:af->ah->Prop}{lo hi:Int}{t u v:aaU}{tk:Nat}(I:Inv X pins σ H s)(c:-(2^62)<=lo)(f:lo<2^62)(g:-(2^62)<=hi)(h:hi<2^62)
(q:R (UE lo (hi- lo).toNat) H):wpAny (model X.prog X.w) X.A (aav (.ref s.heap.objs.size)) (VH X pins σ tg R) E {s with heap:=s.heap.push {cls:=.type "range",data:=.fields #[.int lo t,.int hi u,.int 1 v]},toks:=tk}:=by
 refine wpAny_pyIter_range (IsRange.new ..) (small_one c f g h) ?_;have a:Inv X pins σ H {s with heap:=s.heap.push {cls:=.type "range",data:=.fields #[.int lo t,.int hi u,.int 1 v]},toks:=tk}:=I.kept λb o e=>ar _ e;refine⟨(s.heap.push {cls:=.type "range",data:=.fields #[.int lo t,.int hi u,.int 1 v]}).objs.size,[(s.heap.push {cls:=.type "range",data:=.fields #[.int lo t,.int hi u,.int 1 v]}).objs.size],_,_,H,rfl,
  a.kept (t':=tk) λb o e=>ar _ e,BL _ lo (hi- lo).toNat,?_,λb hb=>?_,q⟩
 ·have e1:lo+((0:Nat):Int)*1=lo:=by simp
  have e2:(((hi- lo).toNat:Nat):Int)- ((0:Nat):Int)=bd.Range.rangeSize lo hi 1:=by rw[rangeSize_one];split<;>omega
  show IsRangeIter _ _ (lo+((0:Nat):Int)*1) ((((hi- lo).toNat:Nat):Int)- ((0:Nat):Int)) 1;rw[e1,e2];exact bg _ rfl
 ·have e:b=(s.heap.push {cls:=.type "range",data:=.fields #[.int lo t,.int hi u,.int 1 v]}).objs.size:=by simpa using hb
  subst e;exact a.BJ (aY _) (a.iE.fresh (aY _))
def RR (a:TA):TI:=λσ H R=>a σ H λb H1=>∃j:Int,b=[.int j]/\-(2^62)<=j/\j<2^62/\R (UE 0 j.toNat) H1
theorem Et{a:aS}{c:TA}{p pos:cC}(f:Gl X "range")(hm:X.mg "range"=aq)(ha:PA X [a] c)(g:aJ [a] X.env=[(ao,eval a X.env)]:=by rfl):PI X tg (.Call (.Name "range" p) [a] [] pos) (RR c):=by
 intro pins s σ H R I h;refine Call_ (sO I f hm boot_range (cX (ji (ha pos pins s σ H _ I h) λus s1 ⟨u,H1,i,m,b⟩=>?_) g rfl));obtain⟨j,e,b,n,q⟩:=b;subst e;cases m with
 |cons r o=>
  cases o;obtain⟨t,rfl⟩:=r;exact call_range_1 (F5 i (by omega) (by omega) b n (by simpa using q))
def VJ (wi:TI)(g:TG)(tb:TS):TS:=λD σ H=>wi σ H λJ H1=>∃W:Nat->Nat->St->Hp->Prop,(∃m,W 0 m σ H1)/\∀i m σ H,W i m σ H->
 (J.stop i H/\D.nx σ H)\/(J.go i H/\∃N:St->Hp->Prop,(∀b a,N b a->∃c,c<m/\W (i+1) c b a)/\∀x a,J.Mz i H x a->g x σ a λe f=>tb {D with nx:=N,ct:=N,bk:=D.nx} e f)
noncomputable def u0(a:List ai)(h:az):List (ai×bR):=a.filterMap λb=>(h.get? b).map λo=>(b,o)
theorem nL{a:List ai}{h:az}{b:ai}{o:bR}(hb:b∈a)(e:h.get? b=ae o):(b,o)∈u0 a h:=List.mem_filterMap.mpr ⟨b,hb,by rw[e];rfl⟩
theorem Eu{a:List ai}{h:az}{p:ai×bR}(c:p∈u0 a h):p.1∈a/\h.get? p.1=ae p.2:=by
 obtain⟨b,hb,e⟩:=List.mem_filterMap.mp c;cases q:h.get? b with
 |none=>rw[q] at e;cases e
 |some o=>
  rw[q] at e;have e':(b,o)=p:=bq e;subst e';exact⟨hb,q⟩
theorem Inv.pinned{pins:List (ai×bR)}{σ:St}{H:Hp}{s:ah}{a:List ai}(I:Inv X pins σ H s)(c:∀b∈a,nK X pins H b)(f:∀b∈a,∃o,s.heap.get? b=ae o/\∀v,o.data≠.cell v):Inv X (pins++u0 a s.heap) σ H s:=
 I.C3 λp g=>(aO.mp g).elim (λz=>I.pin p (bh _ z)) λz=>by obtain⟨hb,e⟩:=Eu z;obtain⟨h,i,j,_⟩:=c p.1 hb;obtain⟨o,e',d⟩:=f p.1 hb;rw[e] at e';cases e';exact⟨e,h,i,j,d⟩
theorem Inv.rA{pins pl:List (ai×bR)}{σ:St}{H:Hp}{s:ah}(I:Inv X (pins++pl) σ H s):Inv X pins σ H s:=I.C3 λp a=>I.pin p (bh _ (br _ a))
theorem F6{iter:aS}{body:List b3}{wi:TI}{g:TG}{tb:TS}{pos:cC}(z:aaw (model X.prog X.w) X.A X.env X.xe)(hc:X.calm=aj)(hi:PI X tg iter wi)(hg:PG X tg g)(hb:rn X body tb)
(hs:∀x,ej iter X.env x=pure x:=by intro _;rfl):PS X (.For tg iter body [] pos) (VJ wi g tb):=by
 intro pins s σ H D I h;refine wpAny_For (ji (hi pins s σ H _ I h) λv s1 h1=>ji h1 λVI s2 h2=>?_) hs;obtain⟨it,B,Y,J,H2,e,I2,T,UF,f2,W,⟨m0,w0⟩,turn⟩:=h2;subst e;have M:∀{p:Hp},(∀b∈B,p b=aq)->∀b∈B,nK X pins p b:=λhn b hb=>⟨hn b hb,(f2 b hb).2⟩;refine codeAny_forLoop_any (λn s'=>∃i C p,Inv X pins C p s'/\Y i s'.heap/\(∀b∈B,p b=aq)/\W i n C p) ?_ m0 ⟨0,σ,H2,I2,UF,λb hb=>(f2 b hb).1,w0⟩;intro n s3 q;obtain⟨i,E,L,I3,UG,Yy,w3⟩:=q;rcases turn i n E L w3 with⟨stop,qn⟩|⟨go,N,hN,step⟩
 ·refine eY z (ji (T.done X rfl rfl rfl hc i pins s3 E L X.xe I3 (M Yy) UG stop) λr s4 q=>?_);obtain⟨O,I4⟩:=q;subst O;exact fZ ⟨E,L,I4,qn⟩
 ·refine eY z (ji (T.item X rfl rfl rfl hc i pins s3 E L X.xe I3 (M Yy) UG go) λr s4 q=>?_);obtain⟨u,O,h4⟩:=q;subst O;refine eY z (ji h4 λ_ s5 q=>?_);obtain⟨x,H5,I5,r5,y5,Q,ZJ⟩:=q;have ZK:=I5.pinned (M ZJ) (T.obj _ _ Q);refine eY z (ji (hg _ s5 E H5 x u _ ZK r5 (step x H5 y5)) λ_ s6 q=>?_);obtain⟨Q3,H6,I6,q6⟩:=q;refine eY z (ji (hb _ s6 Q3 H6 _ I6 q6) λf U y=>?_);have again:∀{a:St} {c:Hp},Inv X (pins++u0 B s5.heap) a c U->N a c->∃m,m<n/\∃i C p,Inv X pins C p U/\Y i U.heap/\(∀b∈B,p b=aq)/\W i m C p:=λ{a c} j G=>by obtain⟨m',hm,w7⟩:=hN a c G;refine⟨m',hm,i+1,a,c,j.rA,T.keep _ _ _ Q λb hb o e=>(j.pin (b,o) (bh _ (bh _ (nL hb e)))).1,λb hb=>?_,w7⟩;obtain⟨o,e,d⟩:=T.obj _ _ Q b hb;exact(j.pin (b,o) (bh _ (bh _ (nL hb e)))).2.1
  cases f with
  |next=>obtain⟨a,c,j,G⟩:=y;exact again j G
  |cont=>obtain⟨a,c,j,G⟩:=y;exact again j G
  |brk=>obtain⟨a,c,j,y⟩:=y;exact⟨a,c,j.rA,y⟩
  |ret v=>obtain⟨x7,a,c,j,r7,y⟩:=y;exact⟨x7,a,c,j.rA,r7,y⟩
end
end L2
namespace L2
open PySem PySem.Spec PyProof.Rows
abbrev R2:=V->V->Hp->VK->Prop
def oP (X:Cx)(f:af->af->abC af)(r:R2):Prop:=
 ∀(pins:List (ai×bR)) (s:ah) (σ:St) (H:Hp) (x y:V) (v u:af) (Q:VK),Inv X pins σ H s->RelV x v->RelV y u->r x y H Q->
  wpAny (model X.prog X.w) X.A (f v u) (EP X pins σ Q) X.xe s
def UH (X:Cx)(f:af->abC af)(r:V->Hp->VK->Prop):Prop:=
 ∀(pins:List (ai×bR)) (s:ah) (σ:St) (H:Hp) (x:V) (v:af) (Q:VK),Inv X pins σ H s->RelV x v->r x H Q->
  wpAny (model X.prog X.w) X.A (f v) (EP X pins σ Q) X.xe s
def nk (X:Cx)(f:af)(r:List V->Hp->VK->Prop):Prop:=
 ∀(pins:List (ai×bR)) (s:ah) (σ:St) (H:Hp) (xs:List V) (us:List af) (Q:VK),Inv X pins σ H s->Vals xs us->r xs H Q->
  wpAny (model X.prog X.w) X.A (call f us) (EP X pins σ Q) X.xe s
def Q4 (r:R2)(a tb:TE):TE:=λσ H Q=>a σ H λx H1=>tb σ H1 λy b=>r x y b Q
def ZL (r:V->Hp->VK->Prop)(a:TE):TE:=λσ H Q=>a σ H λx H1=>r x H1 Q
def rI (C:Int->Int->Prop)(g:Int->Int->V):R2:=λx y H Q=>∃i j,x=.int i/\y=.int j/\C i j/\Q (g i j) H
def Oa (g:Int->Int->V):R2:=λx y H Q=>∃i j,x=.int i/\y=.int j/\Q (g i j) H
def rU (g:Int->V):V->Hp->VK->Prop:=λx H Q=>∃i,x=.int i/\Q (g i) H
section
variable {X:Cx} {a b c:aS} {ta tb tc:TE} {pos:cC}
theorem Ob(ha:PE X a ta)(hb:PE X b tb){pins:List (ai×bR)}{s:ah}{σ:St}{H:Hp}{R:V->V->Hp->Prop}(I:Inv X pins σ H s)
(h:ta σ H λx H1=>tb σ H1 λy e=>R x y e){Q:af->ah->Prop}{f:af->af->abC af}
(i:∀v u s2 x y e,Inv X pins σ e s2->RelV x v->RelV y u->R x y e->wpAny (model X.prog X.w) X.A (f v u) Q X.xe s2):
  wpAny (model X.prog X.w) X.A (eval a X.env) (λv j=>wpAny (model X.prog X.w) X.A (eval b X.env) (λu m=>wpAny (model X.prog X.w) X.A (f v u) Q X.xe m) X.xe j) X.xe s:=by refine ji (ha pins s σ H _ I h) λv s1 g=>?_;obtain⟨x,H1,n,o,p⟩:=g;refine ji (hb pins s1 σ H1 _ n p) λu s2 g=>?_;obtain⟨y,e,q,r,z⟩:=g;exact i v u s2 x y e q o r z
theorem RS{op:aaq}{r:R2}(e:oP X (binaryOp op) r)(ha:PE X a ta)(hb:PE X b tb):PE X (.BinOp a op b pos) (Q4 r ta tb):=by intro pins s σ H Q I h;exact wpAny_BinOp (Ob ha hb I h λv u s2 x y f g i j q=>e pins s2 σ f x y v u Q g i j q)
theorem RT{op:UnaryOp}{r:V->Hp->VK->Prop}(e:UH X (unaryOp op) r)(ha:PE X a ta):PE X (.UnaryOp op a pos) (ZL r ta):=by intro pins s σ H Q I h;exact UnaryOp_ (ji (ha pins s σ H _ I h) λv s1 ⟨x,H1,f,g,i⟩=>e pins s1 σ H1 x v Q f g i)
theorem VM{f:af->af->abC af}{C:Int->Int->Prop}{g:Int->Int->Int}
(rule:∀(i j:Int) (t u:aaU) (s:ah) (Q:af->ah->Prop) (E:af->ah->Prop),C i j->Q (.int (g i j) s.toks) {s with toks:=s.toks+1}->wpAny (model X.prog X.w) X.A (f (.int i t) (.int j u)) Q E s):
  oP X f (rI C λi j=>.int (g i j)):=by intro pins s σ H x y v u Q I e m h;obtain⟨i,j,rfl,rfl,hc,q⟩:=h;obtain⟨t,rfl⟩:=e;obtain⟨n,rfl⟩:=m;exact rule i j t n s _ _ hc ⟨.int (g i j),H,I.tok _,⟨_,rfl⟩,q⟩
theorem RU{f:af->af->abC af}{g:Int->Int->Int}
(rule:∀(i j:Int) (t u:aaU) (s:ah) (Q:af->ah->Prop) (E:af->ah->Prop),Q (.int (g i j) s.toks) {s with toks:=s.toks+1}->wpAny (model X.prog X.w) X.A (f (.int i t) (.int j u)) Q E s):
  oP X f (Oa λi j=>.int (g i j)):=by intro pins s σ H x y v u Q I e m h;obtain⟨i,j,rfl,rfl,q⟩:=h;obtain⟨t,rfl⟩:=e;obtain⟨n,rfl⟩:=m;exact rule i j t n s _ _ ⟨.int (g i j),H,I.tok _,⟨_,rfl⟩,q⟩
theorem Oc{f:af->af->abC af}{g:Int->Int->Bool}
(rule:∀(i j:Int) (t u:aaU) (s:ah) (Q:af->ah->Prop) (E:af->ah->Prop),Q (.bool (g i j)) s->wpAny (model X.prog X.w) X.A (f (.int i t) (.int j u)) Q E s):
  oP X f (Oa λi j=>.bl (g i j)):=by intro pins s σ H x y v u Q I e m h;obtain⟨i,j,rfl,rfl,q⟩:=h;obtain⟨t,rfl⟩:=e;obtain⟨n,rfl⟩:=m;exact rule i j t n s _ _ ⟨.bl (g i j),H,I,rfl,q⟩
def Od (i j:Int):Prop:=0<j/\j<1073741824
def VN (i j:Int):Prop:=0<=j/\j<=1000000/\i.natAbs<2^64
def xU (i j:Int):Prop:=(-(2^64)<i/\i<2^64)\/(-(2^64)<j/\j<2^64)
theorem xU.ok{i j:Int}(h:xU i j):IntMulOk i j:=by
 rcases h with⟨e,f⟩|⟨e,f⟩
 ·exact .of_left (abG e f)
 ·exact .of_right (abG e f)
theorem Oe:oP X (binaryOp .Add) (Oa λi j=>.int (i+j)):=RU λ_ _ _ _ _ _ _ q=>add_int q
theorem Og:oP X (binaryOp .Sub) (Oa λi j=>.int (i- j)):=RU λ_ _ _ _ _ _ _ q=>sub_int q
theorem Oh:oP X (binaryOp .Mult) (rI xU λi j=>.int (i*j)):=VM λ_ _ _ _ _ _ _ hc q=>mul_int q hc.ok
theorem Oi:oP X (binaryOp .Mod) (rI (λ_ j=>0<j) λi j=>.int (i%j)):=VM λi j _ _ _ _ _ hc q=>by have e:(0:Int)<j:=hc;exact mod_int' (by omega) (by rw[Int.fmod_eq_emod_of_nonneg i (by omega)];exact q)
theorem ZM{f:af->abC af}{g:Int->Int}
(rule:∀(i:Int) (t:aaU) (s:ah) (Q:af->ah->Prop) (E:af->ah->Prop),Q (.int (g i) s.toks) {s with toks:=s.toks+1}->wpAny (model X.prog X.w) X.A (f (.int i t)) Q E s):
  UH X f (rU λi=>.int (g i)):=by intro pins s σ H x v Q I e h;obtain⟨i,rfl,q⟩:=h;obtain⟨t,rfl⟩:=e;exact rule i t s _ _ ⟨.int (g i),H,I.tok _,⟨_,rfl⟩,q⟩
theorem Oj:UH X (unaryOp .USub) (rU λi=>.int (-i)):=ZM λ_ _ _ _ _ q=>neg_int q
end
noncomputable def RV:V->V->Bool
 |.non,.non=>aj|.non,.int _=>aj|.int _,.non=>aj|.non,.bl _=>aj|.bl _,.non=>aj|.non,.str _=>aj|.str _,.non=>aj
 |.int _,.int _=>aj|.bl _,.bl _=>aj|.str _,.str _=>aj|.FH _,.FH _=>aj
 |.int _,.str _=>aj|.str _,.int _=>aj|.bl _,.str _=>aj|.str _,.bl _=>aj
 |_,_=>ao
def ZN:R2:=λx y H Q=>RV x y=aj/\Q (.bl (decide (x=y))) H
def ZO:R2:=λx y H Q=>RV x y=aj/\Q (.bl (!decide (x=y))) H
theorem xV{i j:Int}:decide (V.int i=V.int j)=(i==j):=by rw[bB];simp
theorem F9{i j:Bool}:decide (V.bl i=V.bl j)=(i==j):=by rw[bB];simp
theorem xW{i j:av}:decide (V.str i=V.str j)=(i==j):=by rw[bB];simp
theorem C9{i j:Array UInt8}:decide (V.FH i=V.FH j)=(i.toList==j.toList):=by rw[bB];cases i;cases j;simp
section
variable {X:Cx} {a b c:aS} {ta tb tc:TE} {pos:cC}
theorem iw{pins:List (ai×bR)}{σ:St}{H:Hp}{s:ah}{Q:VK}{k k':Bool}(I:Inv X pins σ H s)(q:Q (.bl k) H)(e:k=k'):EP X pins σ Q (.bool k') s:=by subst e;exact⟨.bl k,H,I,rfl,q⟩
theorem MA:oP X (compareOp .Eq) ZN:=by
 intro pins s σ H x y v u Q I m e h;obtain⟨g,q⟩:=h;cases x with
 |non=>
  cases m;cases y with
  |non=>cases e;exact PySem.EqNone.eq_none_none (iw I q (by simp))
  |bl j=>cases e;exact PySem.EqNone.eq_none_bool (iw I q (by simp))
  |int j=>obtain⟨f,rfl⟩:=e;exact PySem.EqNone.eq_none_int (iw I q (by simp))
  |str j=>obtain⟨f,rfl⟩:=e;exact PySem.EqNone.eq_none_str (iw I q (by simp))
  |_=>exact absurd (show ao=aj from g) am
 |bl i=>
  cases m;cases y with
  |non=>cases e;exact PySem.EqNone.eq_bool_none (iw I q (by simp))
  |bl j=>cases e;exact eq_bool (iw I q F9)
  |str j=>obtain⟨f,rfl⟩:=e;exact PySem.EqMixed.eq_bool_str (iw I q (by simp))
  |_=>exact absurd (show ao=aj from g) am
 |int i=>
  obtain⟨t,rfl⟩:=m;cases y with
  |non=>cases e;exact PySem.EqNone.eq_int_none (iw I q (by simp))
  |int j=>obtain⟨f,rfl⟩:=e;exact eq_int (iw I q xV)
  |str j=>obtain⟨f,rfl⟩:=e;exact PySem.EqMixed.eq_int_str (iw I q (by simp))
  |_=>exact absurd (show ao=aj from g) am
 |str i=>
  obtain⟨t,rfl⟩:=m;cases y with
  |non=>cases e;exact PySem.EqNone.eq_str_none (iw I q (by simp))
  |bl j=>cases e;exact PySem.EqMixed.eq_str_bool (iw I q (by simp))
  |int j=>obtain⟨f,rfl⟩:=e;exact PySem.EqMixed.eq_str_int (iw I q (by simp))
  |str j=>obtain⟨f,rfl⟩:=e;exact eq_str (iw I q xW)
  |_=>exact absurd (show ao=aj from g) am
 |FH i=>
  obtain⟨t,rfl⟩:=m;cases y with
  |FH j=>obtain⟨f,rfl⟩:=e;exact W.eq_bytes (iw I q C9)
  |_=>exact absurd (show ao=aj from g) am
 |_=>cases y<;>exact absurd (show ao=aj from g) am
theorem MB:oP X (compareOp .NotEq) ZO:=by
 intro pins s σ H x y v u Q I m e h;obtain⟨g,q⟩:=h;cases x with
 |non=>
  cases m;cases y with
  |non=>cases e;exact PySem.EqNone.ne_none_none (iw I q (by simp))
  |bl j=>cases e;exact PySem.EqNone.ne_none_bool (iw I q (by simp))
  |int j=>obtain⟨f,rfl⟩:=e;exact PySem.EqNone.ne_none_int (iw I q (by simp))
  |str j=>obtain⟨f,rfl⟩:=e;exact PySem.EqNone.ne_none_str (iw I q (by simp))
  |_=>exact absurd (show ao=aj from g) am
 |bl i=>
  cases m;cases y with
  |non=>cases e;exact PySem.EqNone.ne_bool_none (iw I q (by simp))
  |bl j=>cases e;exact ne_bool (iw I q (congrArg not F9))
  |str j=>obtain⟨f,rfl⟩:=e;exact PySem.EqMixed.ne_bool_str (iw I q (by simp))
  |_=>exact absurd (show ao=aj from g) am
 |int i=>
  obtain⟨t,rfl⟩:=m;cases y with
  |non=>cases e;exact PySem.EqNone.ne_int_none (iw I q (by simp))
  |int j=>obtain⟨f,rfl⟩:=e;exact ne_int (iw I q (congrArg not xV))
  |str j=>obtain⟨f,rfl⟩:=e;exact PySem.EqMixed.ne_int_str (iw I q (by simp))
  |_=>exact absurd (show ao=aj from g) am
 |str i=>
  obtain⟨t,rfl⟩:=m;cases y with
  |non=>cases e;exact PySem.EqNone.ne_str_none (iw I q (by simp))
  |bl j=>cases e;exact PySem.EqMixed.ne_str_bool (iw I q (by simp))
  |int j=>obtain⟨f,rfl⟩:=e;exact PySem.EqMixed.ne_str_int (iw I q (by simp))
  |str j=>obtain⟨f,rfl⟩:=e;exact ne_str (iw I q (congrArg not xW))
  |_=>exact absurd (show ao=aj from g) am
 |FH i=>
  obtain⟨t,rfl⟩:=m;cases y with
  |FH j=>obtain⟨f,rfl⟩:=e;exact W.ne_bytes (iw I q (congrArg not C9))
  |_=>exact absurd (show ao=aj from g) am
 |_=>cases y<;>exact absurd (show ao=aj from g) am
theorem RW:oP X (compareOp .Lt) (Oa λi j=>.bl (decide (i<j))):=Oc λ_ _ _ _ _ _ _ q=>lt_int q
theorem RX:oP X (compareOp .LtE) (Oa λi j=>.bl (decide (i<=j))):=Oc λ_ _ _ _ _ _ _ q=>le_int q
theorem RY:oP X (compareOp .Gt) (Oa λi j=>.bl (decide (j<i))):=Oc λ_ _ _ _ _ _ _ q=>gt_int q
theorem Ev:oP X (compareOp .Lt) (λx y H Q=>∃i j,x=.str i/\y=.str j/\Q (.bl (decide (i.cps.toList<j.cps.toList))) H):=by intro pins s σ H x y v u Q I e f h;obtain⟨i,j,rfl,rfl,q⟩:=h;obtain⟨t,rfl⟩:=e;obtain⟨g,rfl⟩:=f;exact lt_str (iw I q rfl)
theorem Ew:oP X (compareOp .In) (λx y H Q=>∃i j,x=.str i/\y=.str j/\Q (.bl (!(cc j i 0 j.length 1).isEmpty)) H):=by intro pins s σ H x y v u Q I e f h;obtain⟨i,j,rfl,rfl,q⟩:=h;obtain⟨t,rfl⟩:=e;obtain⟨g,rfl⟩:=f;exact in_str (iw I q rfl)
theorem Ol:oP X (compareOp .Is) (λx y H Q=>y=.non/\Q (.bl (decide (x=.non))) H):=by
 intro pins s σ H x y v u Q I e f h;obtain⟨rfl,q⟩:=h;cases f;refine is_none_gen (iw I q ?_);cases x<;>first
  | (cases e;rfl)
  | (obtain⟨t,rfl⟩:=e;rfl)
theorem JN:oP X (compareOp .IsNot) (λx y H Q=>y=.non/\Q (.bl (!decide (x=.non))) H):=by
 intro pins s σ H x y v u Q I e f h;obtain⟨rfl,q⟩:=h;cases f;refine isnot_none_gen (iw I q ?_);cases x<;>first
  | (cases e;rfl)
  | (obtain⟨t,rfl⟩:=e;rfl)
theorem xX:oP X (compareOp .NotIn) (λx y H Q=>∃i j,x=.str i/\y=.str j/\Q (.bl (!(!(cc j i 0 j.length 1).isEmpty))) H):=by intro pins s σ H x y v u Q I e f h;obtain⟨i,j,rfl,rfl,q⟩:=h;obtain⟨t,rfl⟩:=e;obtain⟨g,rfl⟩:=f;exact notIn_str (iw I q rfl)
theorem JQ{op:aak}{r:R2}(e:oP X (compareOp op) r)(ha:PE X a ta)(hb:PE X b tb)(hm:dG op b=ao):PE X (.Compare a [op] [b] pos) (Q4 r ta tb):=by intro pins s σ H Q I h;exact wpAny_Compare1 (Ob ha hb I h λv u s2 x y f g i j q=>e pins s2 σ f x y v u Q g i j q) hm
def Ga (t:TE):TT:=λσ H Q=>t σ H λx e=>∃k,x=.bl k/\Q k e
theorem JR{op:aak}{r:R2}(f:oP X (compareOp op) r)(ha:PE X a ta)(hb:PE X b tb)(hm:dG op b=ao):PT X (.Compare a [op] [b] pos) (Ga (Q4 r ta tb)):=by
 intro pins s σ H Q I h;refine f6 (ji (ha pins s σ H _ I h) λv s1 ⟨x,H1,g,i,j⟩=>ji (hb pins s1 σ H1 _ g j) λu s2 ⟨y,m,n,o,p⟩=>
  ji (f pins s2 σ m x y v u _ n i o p) λc s3 ⟨z,q,w,A,k,e,B⟩=>?_) hm
 subst e;cases A;exact bY ⟨q,w,B⟩
def BN (r f:R2)(ta tb tc:TE):TE:=λσ H Q=>ta σ H λx H1=>tb σ H1 λy g=>r x y g λz e=>∃k,z=.bl k/\
 (if k=aj then tc σ e λh i=>f y h i Q else Q (.bl ao) e)
theorem Gb{op f:aak}{r g:R2}(o:oP X (compareOp op) r)(p:oP X (compareOp f) g)(ha:PE X a ta)(hb:PE X b tb)(hc:PE X c tc)
(hm:aaL [op,f] [b,c]=ao:=by with_unfolding_all rfl):PE X (.Compare a [op,f] [b,c] pos) (BN r g ta tb tc):=by
 intro pins s σ H Q I h;refine Compare_chain (ji (ha pins s σ H _ I h) λv s1 ⟨x,H1,q,w,A⟩=>chain_link (ji (hb pins s1 σ H1 _ q A) λu s2 ⟨y,B,C,i,E⟩=>
  ji (o pins s2 σ B x y v u _ C w i E) λd s3 ⟨z,j,m,G,k,e,n⟩=>?_)) hm
 subst e;cases G;refine bY ?_;cases k with
 |false=>exact ite_ff ⟨.bl ao,j,m,rfl,n⟩
 |true=>exact ite_tt (chain_last (ji (hc pins s3 σ j _ m n) λJ L ⟨M,N,O,T,U⟩=>p pins L σ N y M u J Q O i T U))
theorem Gc{op f:aak}{r g:R2}(o:oP X (compareOp op) r)(p:oP X (compareOp f) g)(ha:PE X a ta)(hb:PE X b tb)(hc:PE X c tc)
(hm:aaL [op,f] [b,c]=ao:=by with_unfolding_all rfl):PT X (.Compare a [op,f] [b,c] pos) (Ga (BN r g ta tb tc)):=by
 intro pins s σ H Q I h;refine isTrue_chain (ji (ha pins s σ H _ I h) λv s1 ⟨x,H1,q,w,A⟩=>test_link (ji (hb pins s1 σ H1 _ q A) λu s2 ⟨y,B,C,i,E⟩=>
  ji (o pins s2 σ B x y v u _ C w i E) λd s3 ⟨z,j,m,G,k,e,n⟩=>?_)) hm
 subst e;cases G;refine bY ?_;cases k with
 |false=>
  obtain⟨k',e',J⟩:=n;cases e';exact ite_ff ⟨j,m,J⟩
 |true=>
  refine ite_tt (test_last (ji (hc pins s3 σ j _ m n) λL M ⟨N,O,T,U,Y⟩=>ji (p pins M σ O y N u L _ T i U Y) λd' s5 zq=>?_));obtain⟨z2,H5,I5,r5,k2,e2,q5⟩:=zq;subst e2;cases r5;exact bY ⟨H5,I5,q5⟩
theorem sP:(ax:Nat)<2^63:=by rw[f7];decide
theorem BO:oP X (binaryOp .Add) (λx y H Q=>∃i j,x=.str i/\y=.str j/\i.length+j.length<=ax/\Q (.str (i++j)) H):=by intro pins s σ H x y v u Q I e f h;obtain⟨i,j,rfl,rfl,g,q⟩:=h;obtain⟨t,rfl⟩:=e;obtain⟨m,rfl⟩:=f;exact add_str (λm tk=>⟨.str (i++j),H,I.tok _,⟨_,rfl⟩,q⟩) g
theorem vals1{x:V}{us:List af}(r:Vals [x] us):∃u,us=[u]/\RelV x u:=by
 cases r with
 |cons e f=>cases f;exact⟨_,rfl,e⟩
theorem vals2{x y:V}{us:List af}(r:Vals [x,y] us):∃u e,us=[u,e]/\RelV x u/\RelV y e:=by
 cases r with
 |cons f g=>
  cases g with
  |cons h i=>cases i;exact⟨_,_,rfl,f,h⟩
theorem w9:nk X (.type "int") (λxs H Q=>(∃i,xs=[.int i]/\Q (.int i) H)\/∃k,xs=[.bl k]/\Q (.int (if k then 1 else 0)) H):=by
 intro pins s σ H xs us Q I r h;rcases h with⟨i,rfl,q⟩|⟨k,rfl,q⟩
 ·obtain⟨u,rfl,t,rfl⟩:=vals1 r;exact call_int_int ⟨.int i,H,I,⟨_,rfl⟩,q⟩
 ·obtain⟨u,rfl,e⟩:=vals1 r;cases e;exact call_int_bool ⟨.int (if k then 1 else 0),H,I.tok _,⟨_,rfl⟩,q⟩
end
end L2
namespace L2
open PySem PySem.Spec PyProof.Rows
structure Om(h:az)(x dx C:ai)(mA:av->Option af):Prop where
 obj:h.get? x=ae (W.instObj C dx)
 ns:h.Ns1 dx mA
 ne:dx≠x
theorem xa{h:az}{b:ai}{c:av->Option af}(n:h.Ns1 b c):∃od,h.get? b=ae od/\∀name,W.lookIn name od=ae (c name):=by
 obtain⟨o,es,p,f,hd,g,_,hm⟩:=n;refine⟨o,f,λname=>?_⟩;have e:=hm name;unfold nsFind abt at e;rw[<-Array.find?_toList] at e;unfold W.lookIn;rw[hd];dsimp only;split
 ·rename_i y q;rw[q] at e;exact congrArg ae e
 ·rename_i q;rw[q] at e;have a:es.toList.any (·.refKey)=ao:=by rw[List.any_eq_false];intro y i;obtain⟨z,t,j⟩:=g y (Array.mem_toList_iff.mp i);simp[abj.refKey,j]
  have m:¬es.toList.any (·.refKey)=aj:=by rw[a];exact am
  rw[if_neg m];exact congrArg ae e
theorem Om.look{h:az}{x a C:ai}{b:av->Option af}(I:Om h x a C b):∃od,W.InstAt h x (W.instObj C a) C (ae od)/\∀name,W.lookIn name od=ae (b name):=
 let⟨od,c,e⟩:=xa I.ns
 ⟨od,⟨I.obj,rfl,rfl,c⟩,e⟩
section
variable {prog:aw} {w:aN} {A:aH} {E:af->ah->Prop} {s:ah} {K:W.Frag} {x dx C f:ai} {mA:av->Option af} {name:av} {v:af}
end
noncomputable def rB(f:av)(v:V):List (av×V)->List (av×V)
 |[]=>[(f,v)]
 | (g,x)::r=>if g=f then(g,v)::r else(g,x)::rB f v r
theorem ua(f g:av)(v:V):∀fs:List (av×V),(rB f v fs).lookup g=if g=f then ae v else fs.lookup g
 |[]=>by
  show eG g [(f,v)]=_;by_cases h:g=f
  ·have hb:(g==f)=aj:=beq_iff_eq.mpr h;simp only [eG,hb,if_pos h]
  ·have hb:(g==f)=ao:=beq_eq_false_iff_ne.mpr h;simp only [eG,hb,if_neg h]
 | (k,x)::r=>by
  have b:=ua f g v r;rw[show rB f v ((k,x)::r)=(if k=f then(k,v)::r else(k,x)::rB f v r) from rfl];by_cases a:k=f
  ·rw[if_pos a];by_cases h:g=k
   ·have hb:(g==k)=aj:=beq_iff_eq.mpr h;simp only [eG,hb,if_pos (h.trans a)]
   ·have hb:(g==k)=ao:=beq_eq_false_iff_ne.mpr h;simp only [eG,hb,if_neg (λe:g=f=>h (e.trans a.symm))]
  ·rw[if_neg a];by_cases h:g=k
   ·have hb:(g==k)=aj:=beq_iff_eq.mpr h;simp only [eG,hb,if_neg (λe:g=f=>a (h.symm.trans e))]
   ·have hb:(g==k)=ao:=beq_eq_false_iff_ne.mpr h;simp only [eG,hb];exact b
theorem sQ(f:av)(v:V):∀fs:List (av×V),f∈(rB f v fs).map (·.1)/\∀g,g∈fs.map (·.1)->g∈(rB f v fs).map (·.1)
 |[]=>⟨by simp[rB],λg h=>by simp at h⟩
 | (k,x)::r=>by
  obtain⟨b,c⟩:=sQ f v r;rw[show rB f v ((k,x)::r)=(if k=f then(k,v)::r else(k,x)::rB f v r) from rfl];by_cases a:k=f
  ·rw[if_pos a];subst a;exact⟨by simp,λg h=>by simpa using h⟩
  ·rw[if_neg a];refine⟨?_,λg h=>?_⟩
   ·rw[aU];exact au _ b
   ·rw[aU] at h ⊢;rcases aE.mp h with e|e
    ·exact aE.mpr (.inl e)
    ·exact au _ (c g e)
theorem o9.some_of{v:V}{o:Option af}(r:o9 (ae v) o):∃u,o=ae u/\RelV v u:=by
 cases o with
 |none=>exact(show False from r).elim
 |some u=>exact⟨u,rfl,r⟩
theorem Ey{v:V}{u:af}(r:RelV v u):W.handedIn u=aj:=by
 cases v with
 |non=>cases(show u=bW from r);rfl
 |bl b=>cases(show u=af.bool b from r);rfl
 |int i=>obtain⟨t,e⟩:=(show∃t,u=af.int i t from r);cases e;rfl
 |str x=>obtain⟨t,e⟩:=(show∃t,u=eM x t from r);cases e;rfl
 |FH b=>obtain⟨t,e⟩:=(show∃t,u=af.bytes b t from r);cases e;rfl
 |oO b=>obtain⟨t,e⟩:=(show∃t,u=af.float b t from r);cases e;rfl
 |ref a=>cases(show u=aR a from r);rfl
 |ty n=>cases(show u=af.type n from r);rfl
section
variable {P:aw} {w:aN} {H H':Hp} {h h':az} {a C dx:ai} {fs Vr:List (av×V)}
theorem JU(iE:oY P w H h)(e:H a=ae (.ins C dx fs)):∃b,Om h a dx C b/\(∀f,o9 (fs.lookup f) (b f))/\PySem.Within b (fs.map (·.1))/\fs.length<=1000/\H dx=ae (.own a):=by obtain⟨d,z,ne,ob,b,n,r,q⟩:=(show iD P w H h a (.ins C dx fs) from iE a _ e);exact⟨b,⟨ob,n,ne⟩,r,q,z,d⟩
end
structure MC(K:W.Frag)(C:ai):Prop where
 pg:W.plainGet K C av.empty=aj
 hd:W.hasDictIn K C=aj
 po:W.plainOver K C=aj
 sa:W.findIn K (.ref C) "__setattr__"=ae (ae (.builtin "object.__setattr__"))
theorem MC.get{K:W.Frag}{C:ai}(c:MC K C)(f:av):W.plainGet K C f=aj:=c.pg
def mZ (K:W.Frag)(C:ai)(f:av):Prop:=W.findIn K (.ref C) f=ae aq
structure Con(K:W.Frag)(C:ai)(f:av)(v:V)(u:af):Prop where
 at_:W.findIn K (.ref C) f=ae (ae u)
 rel:RelV v u
 get:W.specialIn K u "__get__"=ae aq
 cp:W.copiedNames.contains f=ao
structure Meth(K:W.Frag)(C:ai)(m:av)(f:ai):Prop where
 at_:W.findIn K (.ref C) m=ae (ae (.ref f))
 fn:W.isFn K (.ref f)=aj
 kp:W.keepIn K (.ref f)=aj
section
variable {X:Cx} {pins:List (ai×bR)} {σ:St} {H:Hp} {s:ah} {a C dx:ai} {fs:List (av×V)} {f:av} {v:V} {A:aH} {E:af->ah->Prop}
theorem JV{prog:aw}{w:aN}{env:d4}{e:aS}{f:av}{pos:cC}{s:ah}{Q:af->ah->Prop}(hb:cQ e f env (eval e env)=eval e env)
(h:wpAny (model prog w) A (eval e env) (λo b=>wpAny (model prog w) A (getAttr o f aj) Q E b) E s):wpAny (model prog w) A (eval (.Attribute e f pos) env) Q E s:=
 Attribute_any_ h (by rw[arm_eval_Attribute,hb])
end
section
variable {X:Cx} {o e value:aS} {f:av} {pos pos' ur:cC} {ta tv:TE}
end
section
variable {X:Cx} {pins:List (ai×bR)} {σ:St} {H:Hp} {s:ah} {A:aH} {E:af->ah->Prop} {Q:af->ah->Prop} {c:af} {b:Bool}
inductive ut(K:W.Frag)(H:Hp):V->af->Prop where
 |non:ut K H .non (.type "NoneType")
 |bl (x:Bool):ut K H (.bl x) (.type "bool")
 |int (i:Int):ut K H (.int i) (.type "int")
 |str (x:av):ut K H (.str x) (.type "str")
 |oO (x:UInt64):ut K H (.oO x) (.type "float")
 |lst {a:ai} {xs:List V} (e:H a=ae (.lst xs)):ut K H (.ref a) (.type "list")
 |oX {a:ai} {o:bR} {xs:List V} (e:H a=ae (.oX o (.lst xs))):ut K H (.ref a) (.type "list")
 |tup {a:ai} {xs:List V} (e:H a=ae (.tup xs)):ut K H (.ref a) (.type "tuple")
 |dK {a:ai} {gM:List (Key×V)} (e:H a=ae (.dK gM)):ut K H (.ref a) (.type "dict")
 |dT {a:ai} {gM:List (List Key×V)} (e:H a=ae (.dT gM)):ut K H (.ref a) (.type "dict")
 |ins {a C dx:ai} {fs:List (av×V)} (e:H a=ae (.ins C dx fs)) (cl:MC K C) (ha:W.findIn K (.ref C) "__class__"=ae (ae (.builtin "object.__class__")))
   (hn:W.specialIn K (.builtin "object.__class__") "__get__"=ae (ae (.builtin "getset_descriptor.__get__"))) (RZ:W.takesIn K (.builtin "object.__class__")=ae aj)
   (hm:W.mroIn K C (.type "object")=ae aj):ut K H (.ref a) (.ref C)
theorem mq{x:V}{u t:af}(I:Inv X pins σ H s)(f:RelV x u)(ty:ut X.K H x t)(e:W.kitOne X.K t c=ae b)(h:∀tk,Q (.bool b) {s with toks:=tk}):
  wpAny (model X.prog X.w) A (call (.builtin "isinstance") [u,c]) Q E s:=by
 cases ty with
 |non=>cases(show u=bW from f);exact W.kia_one W.kitx_none I.ni dH e (λz=>nomatch z) h
 |bl y=>cases(show u=af.bool y from f);exact W.kia_one W.kitx_bool I.ni dH e (λz=>nomatch z) h
 |int i=>obtain⟨t,q⟩:=(show∃t,u=af.int i t from f);cases q;exact W.kia_one W.kitx_int I.ni dH e (λz=>nomatch z) h
 |str y=>obtain⟨t,q⟩:=(show∃t,u=eM y t from f);cases q;exact W.kia_one W.kitx_str I.ni dH e (λz=>nomatch z) h
 |oO y=>obtain⟨t,q⟩:=(show∃t,u=af.float y t from f);cases q;exact W.kia_one W.kitx_float I.ni dH e (λz=>nomatch z) h
 |@lst a xs g=>
  cases(show u=aR a from f);obtain⟨_,_,n,_,j⟩:=(show iD X.prog X.w H s.heap a (.lst xs) from I.iE a _ g);exact W.kia_one W.kitx_list I.ni ⟨_,j,rfl⟩ e (λz=>nomatch z) h
 |@oX a ob xs g=>
  cases(show u=aR a from f);obtain⟨_,_,_,n,_,j⟩:=(show iD X.prog X.w H s.heap a (.oX ob (.lst xs)) from I.iE a _ g);exact W.kia_one W.kitx_list I.ni ⟨_,j,rfl⟩ e (λz=>nomatch z) h
 |@tup a xs g=>
  cases(show u=aR a from f);obtain⟨_,_,_,p⟩:=(show iD X.prog X.w H s.heap a (.tup xs) from I.iE a _ g);obtain⟨o,j,m,_⟩:=p;exact W.kia_one W.kitx_tuple I.ni ⟨o,j,m⟩ e (λz=>nomatch z) h
 |@dK a r g=>
  cases(show u=aR a from f);obtain⟨_,_,B,_,p⟩:=(show iD X.prog X.w H s.heap a (.dK r) from I.iE a _ g);obtain⟨o,es,v,j,m,_⟩:=p;exact W.kia_one W.kitx_dict I.ni ⟨o,j,m.1⟩ e (λz=>nomatch z) h
 |@dT a r g=>
  cases(show u=aR a from f);obtain⟨_,_,xs,_,o,es,v,j,m,_⟩:=(show iD X.prog X.w H s.heap a (.dT r) from I.iE a _ g);exact W.kia_one W.kitx_dict I.ni ⟨o,j,m.1⟩ e (λz=>nomatch z) h
 |@ins a C G fs g cl ha hn RZ hm=>
  cases(show u=aR a from f);obtain⟨L,O,_⟩:=JU I.iE g;obtain⟨od,J,_⟩:=O.look;exact W.kia_one (W.kitx_own (cl.get _) cl.hd ha hn RZ hm) I.ni J e (λz=>nomatch z) h
end
end L2
namespace L2
open PySem PySem.Spec PyProof.Rows
structure js(k:Nat)(A:aH):Prop where
 hd:A.handled=aq
 dp:A.depth+3*k+5<aaG
 un:A.units+16*k+200<eQ
 gd:A.guards=ae []
theorem js.mono{j k:Nat}{A:aH}(r:js k A)(h:j<=k):js j A:=⟨r.hd,by have:=r.dp;omega,by have:=r.un;omega,r.gd⟩
theorem js.deeper{k:Nat}{A:aH}(r:js (k+1) A)(env:d4):js k (A.deeper env):=
 ⟨r.hd,by have:=r.dp;show A.depth+1+3*k+5<_;omega,by have:=r.un;show A.units+3+16*k+200<_;omega,r.gd⟩
theorem BQ{A:aH}{C:ai}{us:List af}{kw:List (av×af)}:(A.under (.builtin "type.__call__" ⟨.ref C::us,kw⟩)).depth=A.depth+1:=by first|rfl|simp[aH.under,Code.weight,Code.isCreation,Code.isGuard,Code.isCaller,Code.frames,Code.isFrame,guardIds]
theorem BS{A:aH}{C:ai}{us:List af}{kw:List (av×af)}:(A.under (.builtin "type.__call__" ⟨.ref C::us,kw⟩)).units=A.units+1:=by first|rfl|simp[aH.under,Code.cUnits,Code.frames,Code.isFrame]
theorem zS{A:aH}{C:ai}{us:List af}{kw:List (av×af)}:(A.under (.builtin "type.__call__" ⟨.ref C::us,kw⟩)).guards=A.guards:=by first|rfl|(show A.guards.map (Code.guards _++·)=A.guards;rw[show Code.guards (.builtin "type.__call__" ⟨.ref C::us,kw⟩)=[] from by first|rfl|simp[Code.guards,Code.isGuard,guardIds]];simp)
theorem js.make{k:Nat}{A:aH}(r:js (k+1) A)(C:ai)(us:List af)(kw:List (av×af)):js k (A.under (.builtin "type.__call__" ⟨.ref C::us,kw⟩)):=
 ⟨r.hd,by have:=r.dp;rw[BQ];omega,by have:=r.un;rw[BS];omega,by rw[zS];exact r.gd⟩
theorem js.depth{k:Nat}{A:aH}(r:js k A):A.depth<aaG:=by have:=r.dp;omega
theorem js.units{k:Nat}{A:aH}(r:js k A):A.units+64<eQ:=by have:=r.un;omega
def Oo:TA:=λ_ H Q=>Q [] H
def Db (a:TE)(tr:TA):TA:=λσ H Q=>a σ H λx H1=>tr σ H1 λxs b=>Q (x::xs) b
section
variable {X:Cx} {e:aS} {es:List aS} {te:TE} {t:TA} {pos:cC}
theorem Gd:PA X [] Oo:=λ_ _ _ _ H Q I h=>Calls.spliced_nil ⟨[],H,I,.nil,h⟩
theorem xY(ha:PE X e te)(a:PA X es t)(b:aJ (e::es) X.env=(ao,eval e X.env)::aJ es X.env:=by rfl):PA X (e::es) (Db te t):=by intro pos pins s σ H Q I h;rw[b];show wpAny _ _ (spliced ((ao,eval e X.env)::cb pos (aJ es X.env))) _ _ s;refine eR (ji (ha pins s σ H _ I h) λu s1 c=>?_);obtain⟨x,H1,f,g,i⟩:=c;exact ji (a pos pins s1 σ H1 _ f i) λus s2 ⟨xs,j,m,n,o⟩=>⟨x::xs,j,m,.cons g n,o⟩
def VP (t:TA):TE:=λσ H Q=>t σ H λxs H1=>xs.length<=ax/\∀p,H1 p=aq->Q (.ref p) (upd H1 p (.tup xs))
def VQ (t:TA):TE:=λσ H Q=>t σ H λxs H1=>xs.length<=ax/\∀p,H1 p=aq->Q (.ref p) (upd H1 p (.lst xs))
theorem Op{x1}(h:PA X es t):PE X (.Tuple es x1 pos) (VP t):=by intro pins s σ H Q I c;refine wpAny_Tuple_spliced (ji (h pos pins s σ H _ I c) λus s1 ⟨xs,H1,a,r,z,q⟩=>⟨by rw[<-r.length];exact z,?_⟩);have f:H1 s1.heap.objs.size=aq:=a.iE.fresh (aY _);refine⟨.ref s1.heap.objs.size,upd H1 s1.heap.objs.size (.tup xs),a.laid (t':=s1.toks) (λb u e=>ar _ e) (aY _) ?_,rfl,q _ f⟩;exact⟨z,us,r,⟨_,bg _ rfl,rfl,_,rfl⟩⟩
theorem Oq(h:PA X es t):PE X (.List es pos) (VQ t):=by intro pins s σ H Q I c;refine wpAny_List_spliced (ji (h pos pins s σ H _ I c) λus s1 ⟨xs,H1,a,r,z,q⟩=>⟨by rw[<-r.length];exact z,?_⟩);have f:H1 s1.heap.objs.size=aq:=a.iE.fresh (aY _);refine⟨.ref s1.heap.objs.size,upd H1 s1.heap.objs.size (.lst xs),a.laid (t':=s1.toks) (λb u e=>ar _ e) (aY _) ?_,rfl,q _ f⟩;exact⟨z,us,0,r,bg _ rfl⟩
end
abbrev Sp:=List V->Hp->VK->XK->Prop
abbrev xZ:=List d4->Hp->ah->XK->af->ah->Prop
structure zT(P:aw)(w:aN)(K:W.Frag)(mg:av->Option af)(base:az)(A:aH)(outer:List d4)(s:ah)(H:Hp):Prop where
 frames:A.frames=ae outer
 mod:Mod K mg base
 bs:∀b o,base.get? b=ae o->s.heap.get? b=ae o/\H b=aq
 Ep:base.objs.size<=s.heap.objs.size
 qB:s.heap.FunFrames base outer
 Jj:∀b∈oV outer,H b=aq
 iE:oY P w H s.heap
 bare:eN s.gens
def CE (outer:List d4)(P:aw)(w:aN)(H:Hp)(s:ah)(Q:VK)(u:af)(a:ah):Prop:=
 ∃v b,a.os=s.os/\eN a.gens/\Un (oV outer) [] H b s.heap a.heap/\oY P w b a.heap/\RelV v u/\Q v b
def CR (b:xZ)(outer:List d4)(P:aw)(w:aN)(H:Hp)(s:ah)(Q:VK)(E:XK)(r:aaH)(a:ah):Prop:=
 match r with
 |.ok (.ret u)=>CE outer P w H s Q u a
 |.ok _=>False
 |.error e=>b outer H s E e a
structure kb(P:aw)(w:aN)(K:W.Frag)(mg:av->Option af)(base:az)(CX:xZ)(k:Nat)(f:ai)(fd:bN)(ps:List av)(sp:Sp):Prop where
 len:∀vs H Q E,sp vs H Q E->vs.length=ps.length
 run:∀(A:aH) (outer:List d4) (s:ah) (H:Hp) (args:Args) (us:List af) (vs:List V) (Q:VK) (E:XK),js k A->zT P w K mg base A outer s H->fV s fd args (ps.zip us)->Vals vs us->sp vs H Q E->
  codeAny (model P w) A (.call (.ref f) args) (CR CX outer P w H s Q E) s
theorem kb.mono{P:aw}{w:aN}{K:W.Frag}{mg:av->Option af}{base:az}{a:xZ}{j k:Nat}{f:ai}{fd:bN}{ps:List av}{sp:Sp}(F:kb P w K mg base a j f fd ps sp)(h:j<=k):
  kb P w K mg base a k f fd ps sp:=⟨F.len,λA outer s H args us b Q E c=>F.run A outer s H args us b Q E (c.mono h)⟩
theorem kb.imp{P:aw}{w:aN}{K:W.Frag}{mg:av->Option af}{base:az}{b:xZ}{k:Nat}{f:ai}{fd:bN}{ps:List av}{sp c:Sp}(F:kb P w K mg base b k f fd ps sp)
(h:∀a H Q E,c a H Q E->sp a H Q E):kb P w K mg base b k f fd ps c:=
 ⟨λa H Q E q=>F.len a H Q E (h _ _ _ _ q),λA outer s H args us a Q E e g hb i j=>F.run A outer s H args us a Q E e g hb i (h _ _ _ _ j)⟩
theorem zT.make{P:aw}{w:aN}{K:W.Frag}{mg:av->Option af}{base:az}{A:aH}{outer:List d4}{s:ah}{H:Hp}(e:zT P w K mg base A outer s H)(C:ai)(us:List af)(kw:List (av×af)):
  zT P w K mg base (A.under (.builtin "type.__call__" ⟨.ref C::us,kw⟩)) outer s H:=⟨by first|exact e.frames|(simpa[aH.under,Code.envs,Code.isFrame,pushEnvs] using e.frames),e.mod,e.bs,e.Ep,e.qB,e.Jj,e.iE,e.bare⟩
section
variable {X:Cx} {pins:List (ai×bR)} {σ:St} {H:Hp} {s s':ah}
theorem Inv.Ot(I:Inv X pins σ H s):zT X.prog X.w X.K X.mg X.base X.A X.stack s H:=
 ⟨I.ok.frames,I.ok.mod,I.bs,aQ I.ok.Ep I.sz,I.stack,I.C2,I.iE,I.bare⟩
theorem Inv.after{Q:VK}{u:af}(I:Inv X pins σ H s)(h:CE X.stack X.prog X.w H s Q u s'):EP X pins σ Q u s':=by obtain⟨v,a,os,bare,un,iE,r,q⟩:=h;obtain⟨c,g,d,t,e⟩:=s';obtain rfl:e=s.os:=os;exact⟨v,a,I.call (h':=c) (g':=g) (d':=d) (t':=t) (ch:=[]) un iE bare (λb z=>absurd z (by simp)),r,q⟩
end
def Ge (sp:Sp)(sR:List V)(E:XK)(t:TA):TE:=λσ H Q=>t σ H λa H1=>sp (a++sR) H1 Q E
def Binds(K:W.Frag)(fd:bN)(ps:List av)(ds:List af):Prop:=
 ∀(s:ah) (us:List af),K.In s.heap->(us++ds).length=ps.length->fV s fd ⟨us,[]⟩ (ps.zip (us++ds))
theorem Binds.all{K:W.Frag}{fd:bN}{ps:List av}(h:∀us:List af,us.length=ps.length->dY fd ⟨us,[]⟩=pure (ps.zip us)):Binds K fd ps []:=λs us _ a=>by rw[bf] at a ⊢;exact .of_eq (h us a)
def ya (b:xZ)(X:Cx)(E:XK):Prop:=∀(pins:List (ai×bR)) (σ:St) (H:Hp) (s:ah) (e:af) (a:ah),Inv X pins σ H s->b X.stack H s E e a->X.xe e a
section
variable {X:Cx} {CX:xZ} {k:Nat} {f C:ai} {fd:bN} {ps:List av} {sp:Sp} {sR:List V} {ds:List af} {E:XK} {x m:av} {p pos apos:cC} {e o:aS} {es:List aS} {ta:TE} {t:TA}
theorem Gf{pins:List (ai×bR)}{σ:St}{H:Hp}{s:ah}{Q:VK}{us:List af}{b:List V}(F:kb X.prog X.w X.K X.mg X.base CX k f fd ps sp)(g:js k X.A)(hb:Binds X.K fd ps ds)(hd:Vals sR ds)(i:ya CX X E)
(I:Inv X pins σ H s)(r:Vals b us)(h:sp (b++sR) H Q E):wpAny (model X.prog X.w) X.A (call (.ref f) us) (EP X pins σ Q) X.xe s:=by
 have c:Vals (b++sR) (us++ds):=r.append hd;have j:(us++ds).length=ps.length:=by rw[<-c.length];exact F.len _ _ _ _ h
 refine eK (dR (F.run X.A X.stack s H ⟨us,[]⟩ (us++ds) (b++sR) Q E g I.Ot (hb s us I.ni j) c h) λr n a=>?_);cases r with
 |error e=>exact i pins σ H s e n I a
 |ok fl=>
  cases fl with
  |ret u=>exact I.after a
  |next=>exact b8 a
  |brk=>exact b8 a
  |cont=>exact b8 a
theorem JY(F:kb X.prog X.w X.K X.mg X.base CX k f fd ps sp)(c:js k X.A)(g:Gl X x)(hm:X.mg x=ae (.ref f))(i:W.keepIn X.K (.ref f)=aj)(hb:Binds X.K fd ps ds)(hd:Vals sR ds)(j:ya CX X E)
(ha:PA X (e::es) t)(n:(x==("__debug__":av))=ao:=by decide)(u:aJ (e::es) X.env=(ao,eval e X.env)::aJ es X.env:=by rfl)(v:(cb pos (aJ es X.env)).any (·.1)=ao:=by rfl):
  PE X (.Call (.Name x p) (e::es) [] pos) (Ge sp sR E t):=by intro pins s σ H Q I h;refine dw (pU I g hm ?_ n);refine W.callWith_K (h₀:=X.base) I.ok.mod.JD i (ji (ha pos pins s σ H _ I h) λus s1 ⟨y,H1,b,r,q⟩=>⟨b.ni,?_⟩) u v;exact Gf F c hb hd j b r q
structure Mk(K:W.Frag)(C f:ai):Prop where
 makes:W.makesIn K C=aj
 init:W.findIn K (.ref C) "__init__"=ae (ae (.ref f))
 fn:W.isFn K (.ref f)=aj
 kp:W.keepIn K (.ref C)=aj
end
section
variable {X:Cx} {CX:xZ} {k:Nat} {f C:ai} {fd:bN} {ps ks:List av} {sp:Sp} {E:XK} {x m:av} {p pos apos R0:cC} {e o:aS} {es:List aS} {kws:List ff} {te ta:TE} {t tk:TA} {nm:Option av}
structure VR(K:W.Frag)(fd:bN)(ps ks:List av)(g:List af->List af->List af)(gV:List V->List V->List V):Prop where
 to:∀(s:ah) (us ws:List af),K.In s.heap->(g us ws).length=ps.length->fV s fd ⟨us,ks.zip ws⟩ (ps.zip (g us ws))
 rel:∀{vs:List V} {us:List af} {zs:List V} {ws:List af},Vals vs us->Vals zs ws->Vals (gV vs zs) (g us ws)
variable {g:List af->List af->List af} {gV:List V->List V->List V}
end
structure jQ(N P:List av)(sc:b6):Prop where
 kind:sc.kind=.function
 co:sc.isCoroutine=ao
 gen:sc.isGenerator=ao
 nd:N.Nodup
 pre:N.take P.length=P
 par:∀x∈P,sc.names.lookup x=ae .local\/sc.names.lookup x=ae .cell
 Ou:∀y∈sc.names,y.2≠.free
theorem xg{kindOf:av->Option cq}{x:av}:∀{binds:List (av×af)} {m:av->Option af},(∀v,(x,v)∉binds)->aaM kindOf binds m x=m x
 |[],_,_=>rfl
 | (n,v)::r,m,h=>by
  unfold aaM;rw[xg λw hw=>h w (au _ hw)];split
  ·have:x≠n:=by rintro rfl;exact h v a8
   simp[this]
  ·rfl
theorem xh{kindOf:av->Option cq}{x:av}:∀{binds:List (av×af)} {m:av->Option af},(∀v,(x,v)∉binds)->aaN kindOf binds m x=m x
 |[],_,_=>rfl
 | (n,v)::r,m,h=>by
  unfold aaN;rw[xh λw hw=>h w (au _ hw)];split
  ·rfl
  ·have:x≠n:=by rintro rfl;exact h v a8
   simp[this]
theorem xi{kindOf:av->Option cq}{x:av}{v:af}:∀{P:List av} {a:List af} {i:Nat} {m:av->Option af},P.Nodup->P[i]?=ae x->a[i]?=ae v->kindOf x=ae .local->
  aaM kindOf (P.zip a) m x=ae v
 |[],_,_,_,_,h,_,_=>by simp at h
 |_::_,[],_,_,_,_,h,_=>by simp at h
 |p::P,w::a,0,m,nd,b,c,e=>by simp at b c;subst b;subst c;show aaM kindOf ((p,w)::P.zip a) m p=_;unfold aaM;rw[xg λv f=>(dS.mp nd).1 (eJ f).1,if_pos e];simp
 |p::P,w::a,i+1,m,nd,b,c,e=>by show aaM kindOf ((p,w)::P.zip a) m x=_;unfold aaM;exact xi (i:=i) (dS.mp nd).2 (by simpa using b) (by simpa using c) e
theorem xj{kindOf:av->Option cq}{x:av}{v:af}:∀{P:List av} {a:List af} {i:Nat} {m:av->Option af},P.Nodup->P[i]?=ae x->a[i]?=ae v->kindOf x≠ae .local->
  aaN kindOf (P.zip a) m x=ae v
 |[],_,_,_,_,h,_,_=>by simp at h
 |_::_,[],_,_,_,_,h,_=>by simp at h
 |p::P,w::a,0,m,nd,b,c,e=>by simp at b c;subst b;subst c;show aaN kindOf ((p,w)::P.zip a) m p=_;unfold aaN;rw[xh λv f=>(dS.mp nd).1 (eJ f).1,if_neg e];simp
 |p::P,w::a,i+1,m,nd,b,c,e=>by show aaN kindOf ((p,w)::P.zip a) m x=_;unfold aaN;exact xj (i:=i) (dS.mp nd).2 (by simpa using b) (by simpa using c) e
noncomputable def start(N:List av)(a:List V):St:=a.map ae++ba (N.length- a.length) aq
noncomputable def qj(b:xZ)(P:aw)(w:aN)(K:W.Frag)(mg:av->Option af)(base:az)(N:List av)(qual:av)(scope:b6)(f:ai)(cd:af)(A:aH)(outer:List d4)(s:ah)(H:Hp)(E:XK):Cx where
 prog:=P
 w:=w
 K:=K
 mg:=mg
 base:=base
 A:=A.deeper (dO qual scope s.heap.objs.size f cd)
 N:=N
 ib:=s
 il:=H
 env:=dO qual scope s.heap.objs.size f cd
 outer:=outer
 stack:=dO qual scope s.heap.objs.size f cd::outer
 ex:=[]
 calm:=aj
 fn:=λ_=>aj
 pn:=[]
 xe:=λe c=>wpAny (model P w) (A.deeper (dO qual scope s.heap.objs.size f cd)) (leaving (dO qual scope s.heap.objs.size f cd) e) (λ_ a=>b outer H s E e a) (λe' a=>b outer H s E e' a) c
theorem zU{sc:b6}{n:Nat}{x:av}(h:sc.names.lookup x=ae .cell):∃c,(abk n sc.names []).lookup x=ae c:=by have q:=W.cellsFrom_some sc.names n [] (.inl h);exact Option.isSome_iff_exists.mp q
theorem Ez{I:xZ}{P:aw}{w:aN}{K:W.Frag}{mg:av->Option af}{base:az}{N ps:List av}{qual:av}{scope:b6}{f:ai}{cd:af}{A:aH}{outer:List d4}{s s1:ah}{H:Hp}{E:XK}{us:List af}{m:List V}
(S:jQ N ps scope)(hd:A.handled=aq)(j:zT P w K mg base A outer s H)(Q:m.length=ps.length)(r:Vals m us)
(x:InCallC s s.heap.objs.size (aaM (dO qual scope s.heap.objs.size f cd).kindOf (ps.zip us) λ_=>aq) (abk (s.heap.objs.size+1) scope.names []) (aaN (dO qual scope s.heap.objs.size f cd).kindOf (ps.zip us) λ_=>aq) s1):
  Inv (qj I P w K mg base N qual scope f cd A outer s H E) [] (start N m) H s1:=by
 have T:ps.length<=N.length:=by have:=congrArg fO S.pre;rw[bi] at this;omega
 obtain⟨C,tk,rfl,J⟩:=x.done;have G:∀b:ai,b∉(qj I P w K mg base N qual scope f cd A outer s H E).ex:=λb z=>absurd (show b∈([]:List ai) from z) (by simp);refine⟨⟨j.mod,S.kind,rfl,rfl,aY _,λy z c C g=>?_,λy o=>?_,λy c _ h=>?_,λ_=>hd,aH.frames_deeper j.frames,.inr ⟨rfl,rfl⟩,λb z=>absurd z (G b),j.bs,j.Ep,λb _ _=>G b,λb z=>absurd z (G b),j.qB,j.Jj⟩,
  rfl,j.bare,Un.kept J,⟨_,x.toInCall.ns,λi y v C g U=>?_⟩,λy c h=>⟨_,x.cell y c h⟩,j.iE.fresh (aY _),λy c h=>?_,λp B=>absurd (show p∈([]:List (ai×bR)) from B) (by simp),j.iE.kept J,?_⟩
 ·exact name_of_addr x.apart (PySem.mem_of_lookup C) (PySem.mem_of_lookup g)
 ·have o:scope.names.lookup y=ae .cell\/scope.names.lookup y=ae .free:=o;rcases o with o|o
  ·exact zU o
  ·exact absurd rfl (S.Ou _ (PySem.mem_of_lookup o))
 ·exact Nat.le_of_lt (x.above y c (PySem.mem_of_lookup h))
 ·have hi:i<m.length:=by
   unfold start at g;by_cases hi:i<m.length
   ·exact hi
   ·rw[bT (by simpa using hi)] at g;rw[List.getElem?_replicate] at g;split at g<;>cases g
  have ha:m[i]?=ae v:=by
   unfold start at g;rw[bp (by simpa using hi),bD] at g;cases e:m[i]? with
   |none=>rw[e] at g;cases g
   |some a=>rw[e] at g;cases g;rfl
  obtain⟨u,L,O⟩:=r.get ha;have B:ps[i]?=ae y:=by rw[<-S.pre,List.getElem?_take_of_lt (by omega)];exact C
  have M:ps.Nodup:=by rw[<-S.pre];exact S.nd.sublist (List.take_sublist _ _)
  refine⟨u,O,?_⟩;rcases S.par y (bu B) with k|k
  ·exact .inl ⟨k,xi M B L k⟩
  ·obtain⟨c,e⟩:=zU (n:=s.heap.objs.size+1) k;refine .inr ⟨.inl k,c,e,?_⟩;have q:=x.cell y c e;rw[xj M B L (by show scope.names.lookup y≠_;rw[k];decide)] at q;exact q
 ·exact j.iE.fresh (Nat.le_of_lt (x.above y c (PySem.mem_of_lookup h)))
 ·unfold start;show _=N.length;rw[ay,ap,List.length_replicate];omega
theorem ME{i:xZ}{P:aw}{w:aN}{K:W.Frag}{mg:av->Option af}{base:az}{k:Nat}{f:ai}{name qual:av}{params:JZ}{body:List b3}{scope:b6}{B kV doc pm iC ct oc:af}{an od:Option ai}
{yb:Array (Option af)}{N ps:List av}{sp:Sp}(lk:K.lookup f=ae ⟨oc,od,.func (W.fnOf name qual params body scope B kV doc pm an iC ct),yb⟩)(M:W.codeIn K iC qual=aj)(S:jQ N ps scope)
(len:∀a H Q E,sp a H Q E->a.length=ps.length)
(O:∀(A:aH) (outer:List d4) (s:ah) (H:Hp) (a:List V) (Q:VK) (E:XK),js k (A.deeper (dO qual scope s.heap.objs.size f iC))->sp a H Q E->
   ∃t,rn (qj i P w K mg base N qual scope f iC A outer s H E) body t/\t {nx:=λ_ c=>Q .non c,rt:=Q} (start N a) H):
  kb P w K mg base i (k+1) f (W.fnOf name qual params body scope B kV doc pm an iC ct) ps sp:=by
 refine⟨len,λA outer s H args us a Q E m h hb r C=>?_⟩;have T:=len _ _ _ _ C;have G:K.In s.heap:=h.mod.JD.keeps λb o e=>(h.bs b o e).1;have U:s.heap.NoLimit:=h.mod.nolimit.keeps λb o e=>(h.bs b o e).1;have Y:∀y∈ps.zip us,scope.names.lookup y.1=ae .local\/(scope.names.lookup y.1=ae .cell/\((abk (s.heap.objs.size+1) scope.names []).lookup y.1).isSome=aj):=λ⟨n,v⟩ hy=>by
  rcases S.par n (eJ hy).1 with q|q
  ·exact .inl q
  ·exact .inr ⟨q,W.cellsFrom_some _ _ _ (.inl q)⟩
 refine codeAny_call_function m.depth (G _ _ lk) rfl S.co S.gen rfl (W.codeRec_of G M) (hb _ _ _ _ ?_);refine wpAny_newFunctionEnv_cells S.kind Y λenv he s1 x=>?_;subst he;refine⟨U.keeps x.toInCall.keep,codeAny_func ?_⟩;obtain⟨t,ht,hq⟩:=O A outer s H a Q E (m.deeper _) C;have I:Inv (qj i P w K mg base N qual scope f iC A outer s H E) [] (start N a) H s1:=Ez S m.hd h T r x;refine cz (ht [] s1 (start N a) H _ I hq) (λfl p g=>?_) λe p g=>g;have L:∀{j:St} {c:Hp} {v:V} {u:af},Inv (qj i P w K mg base N qual scope f iC A outer s H E) [] j c p->RelV v u->Q v c->CE outer P w H s Q u p:=
  λ{j c v u} J z q=>⟨v,c,J.os,J.bare,J.base,J.iE,z,q⟩
 cases fl with
 |ret u=>
  obtain⟨v,j,c,J,z,q⟩:=g;exact L J z q
 |next=>
  obtain⟨j,c,J,q⟩:=g;exact L (v:=V.non) (u:=bW) J rfl q
 |brk=>
  obtain⟨_,_,_,q⟩:=g;exact b8 q
 |cont=>
  obtain⟨_,_,_,q⟩:=g;exact b8 q
end L2
namespace L2
open PySem PySem.Spec PyProof.Rows
section
variable {X:Cx} {x:av} {p pos:cC} {e:aS} {es:List aS} {t:TA} {id T:String} {r:List V->Hp->VK->Prop}
def VT (r:List V->Hp->VK->Prop)(t:TA):TE:=λσ H Q=>t σ H λa H1=>r a H1 Q
theorem Gg(hc:nk X (.builtin id) r)(a:Gl X x)(hm:X.mg x=aq)(b:bV x=ae (.builtin id))(ha:PA X (e::es) t)(hn:x≠"__name__":=by decide)(c:(x==("__debug__":av))=ao:=by decide)
(f:aJ (e::es) X.env=(ao,eval e X.env)::aJ es X.env:=by rfl)(g:(cb pos (aJ es X.env)).any (·.1)=ao:=by rfl):PE X (.Call (.Name x p) (e::es) [] pos) (VT r t):=by intro pins s σ H Q I h;refine dw (sO I a hm b ?_ hn c);exact PyProof.Rows.callWith_builtin1 (ji (ha pos pins s σ H _ I h) λus s1 ⟨i,H1,j,m,n⟩=>hc pins s1 σ H1 i us Q j m n) f g
theorem EA(hc:nk X (.type T) r)(a:Gl X x)(hm:X.mg x=aq)(b:bV x=ae (.type T))(ha:PA X (e::es) t)(hn:x≠"__name__":=by decide)(c:(x==("__debug__":av))=ao:=by decide)
(f:aJ (e::es) X.env=(ao,eval e X.env)::aJ es X.env:=by rfl)(g:(cb pos (aJ es X.env)).any (·.1)=ao:=by rfl):PE X (.Call (.Name x p) (e::es) [] pos) (VT r t):=by intro pins s σ H Q I h;refine dw (sO I a hm b ?_ hn c);exact cX (ji (ha pos pins s σ H _ I h) λus s1 ⟨i,H1,j,m,n⟩=>hc pins s1 σ H1 i us Q j m n) f g
end
end L2
namespace L2
open PySem PySem.Spec PyProof.Rows
section
variable {κ:Type} [DecidableEq κ]
noncomputable def qE(a:List (κ×V))(k:κ):Option V:=(a.find? λb=>decide (b.1=k)).map (·.2)
noncomputable def qF(b:List (κ×V))(k:κ)(v:V):List (κ×V):=
 if(b.any λa=>decide (a.1=k))=aj then b.map (λa=>if a.1=k then(a.1,v) else a) else b++[(k,v)]
theorem u3{p:κ×V}{r:List (κ×V)}{k:κ}(e:p.1=k):qE (p::r) k=ae p.2:=by simp[qE,dU,e]
theorem u4{p:κ×V}{r:List (κ×V)}{k:κ}(e:¬p.1=k):qE (p::r) k=qE r k:=by simp[qE,dU,e]
theorem zV(a:List (κ×V))(k:κ)(v:V):(qF a k v).length<=a.length+1:=by
 unfold qF;split
 ·rw[ap];omega
 ·rw[ay,aM,bC];omega
theorem o9.pV{o:Option V}{u:Option af}(r:o9 o u):o.isSome=u.isSome:=by
 cases o with
 |none=>cases u with
  |none=>rfl
  |some _=>exact(show False from r).elim
 |some _=>cases u with
  |none=>exact(show False from r).elim
  |some _=>rfl
theorem o9.getD{o:Option V}{u:Option af}{d:V}{a:af}(r:o9 o u)(rd:RelV d a):RelV (o.getD d) (u.getD a):=by
 cases o with
 |none=>cases u with
  |none=>exact rd
  |some _=>exact(show False from r).elim
 |some _=>cases u with
  |none=>exact(show False from r).elim
  |some _=>exact r
theorem KV.val{c:List (κ×V)}{f:List (κ×af)}(r:KV c f)(k:κ):o9 (qE c k) (aar f k):=by
 unfold KV at r;induction r with
 |nil=>exact dH
 |@cons p q ps a h t i=>
  obtain⟨g,j⟩:=h;by_cases e:p.1=k
  ·have e':q.1=k:=g.symm.trans e;have b:aar (q::a) k=ae q.2:=by simp[aar,dU,e']
   rw[u3 e,b];exact j
  ·have e':¬q.1=k:=λz=>e (g.trans z);have b:aar (q::a) k=aar a k:=by simp[aar,dU,e']
   rw[u4 e,b];exact i
theorem KV.any{b:List (κ×V)}{c:List (κ×af)}(r:KV b c)(k:κ):(b.any λa=>decide (a.1=k))=c.any λa=>decide (a.1=k):=by
 unfold KV at r;induction r with
 |nil=>rfl
 |cons h t e=>rw[eo,eo,e,h.1]
theorem KV.VU{c:List (κ×V)}{f:List (κ×af)}(r:KV c f)(k:κ){y:V}{u:af}(g:RelV y u):
  KV (c.map λa=>if a.1=k then(a.1,y) else a) (f.map λa=>if a.1=k then(a.1,u) else a):=by
 unfold KV at r ⊢;induction r with
 |nil=>exact .nil
 |@cons p q ps m h t i=>
  rw[aU,aU];refine .cons ?_ i;obtain⟨b,j⟩:=h;by_cases e:p.1=k
  ·rw[if_pos e,if_pos (b.symm.trans e)];exact⟨b,g⟩
  ·rw[if_neg e,if_neg (λz=>e (b.trans z))];exact⟨b,j⟩
theorem KV.put{b:List (κ×V)}{a:List (κ×af)}(r:KV b a)(k:κ){y:V}{u:af}(c:RelV y u):KV (qF b k y) (stored a k u):=by
 unfold qF stored;rw[r.any k];by_cases e:(a.any λf=>decide (f.1=k))=aj
 ·rw[if_pos e,if_pos e];exact r.VU k c
 ·rw[if_neg e,if_neg e];exact Paired.snoc r ⟨rfl,c⟩
theorem KV.length{a:List (κ×V)}{b:List (κ×af)}(r:KV a b):a.length=b.length:=Paired.length r
end
theorem u5{P:aw}{w:aN}{k:Key}{u:af}(r:RelV (kV k) u):(iW P w).is k u=aj:=by
 cases k with
 |inl i=>obtain⟨t,e⟩:=(show∃t,u=af.int i t from r);subst e;exact zH P w i t
 |inr x=>obtain⟨t,e⟩:=(show∃t,u=eM x t from r);subst e;exact zI P w x t
theorem xl{P:aw}{w:aN}:∀{a:List Key} {us:List af},Vals (a.map kV) us->ItemsAre (iW P w) a us
 |[],_,r=>by rw[c6] at r;cases r;exact .nil
 |k::a,_,r=>by
  rw[aU] at r;cases r with
  |cons h t=>exact .cons (u5 h) (xl t)
abbrev KT(H:Hp):List (List Key×V)->List (List Key×ai×af)->Prop:=Paired λp q=>p.1=q.1/\H q.2.1=ae (.tup (p.1.map kV))/\RelV p.2 q.2.2
theorem KT.val{H:Hp}{c:List (List Key×V)}{xs:List (List Key×ai×af)}(r:KT H c xs)(k:List Key):o9 (qE c k) ((aaW xs k).map (·.2)):=by
 induction r with
 |nil=>exact dH
 |@cons p q ps a h t g=>
  obtain⟨f,_,i⟩:=h;by_cases e:p.1=k
  ·have e':q.1=k:=f.symm.trans e;have b:aaW (q::a) k=ae q.2:=by simp[aaW,dU,e']
   rw[u3 e,b];exact i
  ·have e':¬q.1=k:=λz=>e (f.trans z);have b:aaW (q::a) k=aaW a k:=by simp[aaW,dU,e']
   rw[u4 e,b];exact g
section
variable {P:aw} {w:aN} {H:Hp} {h:az} {a:ai}
theorem MG{u:HO}(ok:oY P w H h)(e:Rd H a u):iD P w H h a u:=e.ok ok
theorem qr{b:List (Key×V)}(ok:oY P w H h)(e:Rd H a (.dK b)):b.length<=ax/\(a==dq)=ao/\∃c,KV b c/\h.DictOf (iW P w) a c:=
 show iD P w H h a (.dK b) from MG ok e
theorem MH{b:List (Key×V)}(ok:oY P w H h)(e:H a=ae (.dK b)):b.length<=ax/\(a==dq)=ao/\∃c,KV b c/\h.DictOf (iW P w) a c:=qr ok (.inl e)
theorem sS{b:List Key}(ok:oY P w H h)(e:H a=ae (.tup (b.map kV))):(gb (iW P w)).is h b a:=by obtain⟨_,g9,r,o,c,f,n,g⟩:=(show iD P w H h a (.tup (b.map kV)) from ok a _ e);exact⟨o,g9.toArray,n,c,f,g,by simpa using xl r⟩
theorem xm{c:List (List Key×V)}(ok:oY P w H h)(e:Rd H a (.dT c)):c.length<=ax/\(a==dq)=ao/\
  ∃xs,KT H c xs/\h.DictOfH (gb (iW P w)) a xs:=by
 obtain⟨z,y,xs,r,o,es,g,i,j,n,u,v⟩:=(show iD P w H h a (.dT c) from MG ok e);refine⟨z,y,xs,r,o,es,g,i,j,n,u,λx b=>?_,v⟩;have all:∀{l:List (List Key×V)} {m:List (List Key×ai×af)},KT H l m->∀x∈m,(gb (iW P w)).is h x.1 x.2.1:=by
  intro l m q;induction q with
  |nil=>intro x b;exact nomatch b
  |@cons p q ps B f t A=>
   intro x b;rcases aE.mp b with e|b
   ·subst e;exact sS ok (by rw[<-f.1];exact f.2.1)
   ·exact A x b
 exact all r x b
end
def nq (H:Hp)(a:ai)(y:V)(r:Option V):Prop:=
 (∃c k,Rd H a (.dK c)/\y=kV k/\r=qE c k)\/∃c k b,Rd H a (.dT c)/\y=.ref b/\H b=ae (.tup (k.map kV))/\r=qE c k
def J0 (H:Hp)(a:ai)(y v:V)(e:Hp):Prop:=
 (∃c k,H a=ae (.dK c)/\y=kV k/\c.length<ax/\e=upd H a (.dK (qF c k v)))\/
 ∃c k b,H a=ae (.dT c)/\y=.ref b/\H b=ae (.tup (k.map kV))/\c.length<ax/\e=upd H a (.dT (qF c k v))
theorem nq.k{H:Hp}{a:ai}{b:List (Key×V)}{k:Key}(e:H a=ae (.dK b)):nq H a (kV k) (qE b k):=.inl ⟨b,k,.inl e,rfl,rfl⟩
theorem nq.t{H:Hp}{a b:ai}{c:List (List Key×V)}{k:List Key}(e:H a=ae (.dT c))(f:H b=ae (.tup (k.map kV))):nq H a (.ref b) (qE c k):=.inr ⟨c,k,b,.inl e,rfl,f,rfl⟩
theorem J0.k{H:Hp}{a:ai}{b:List (Key×V)}{k:Key}{v:V}(e:H a=ae (.dK b))(c:b.length<ax):J0 H a (kV k) v (upd H a (.dK (qF b k v))):=.inl ⟨b,k,e,rfl,c,rfl⟩
theorem J0.t{H:Hp}{a b:ai}{c:List (List Key×V)}{k:List Key}{v:V}(e:H a=ae (.dT c))(f:H b=ae (.tup (k.map kV)))(g:c.length<ax):
  J0 H a (.ref b) v (upd H a (.dT (qF c k v))):=.inr ⟨c,k,b,e,rfl,f,g,rfl⟩
section
variable {X:Cx} {pins:List (ai×bR)} {σ:St} {H:Hp} {s:ah} {a:ai} {y v:V} {u r:af} {o:Option V} {A:aH} {E:af->ah->Prop}
theorem Inv.big(I:Inv X pins σ H s):dq<s.heap.objs.size:=by have h:bc<s.heap.objs.size:=(I.mod.glob.keeps I.bk).lt;exact Nat.lt_trans (by decide) h
theorem EB{Q:af->ah->Prop}(q:A.units+1<eQ)(I:Inv X pins σ H s)(g:nq H a y (ae v))(m:RelV y u)(h:∀c n,Inv X pins σ H n->RelV v c->Q c n):
  wpAny (model X.prog X.w) A (fX (.ref a) u) Q E s:=by
 rcases g with⟨B,k,e,f,l⟩|⟨B,k,b,e,f,C,l⟩
 ·subst f;obtain⟨z,hd,G,rel,i⟩:=qr I.iE e;obtain⟨c,hw,j⟩:=o9.some_of (v:=v) (o:=aar G k) (by rw[l];exact rel.val k);exact wpAny_getItem_of (u5 m) i.mapOf hw (h c _ (I.tok _) j)
 ·subst f;cases(show u=aR b from m);obtain⟨z,hd,xs,rel,i⟩:=xm I.iE e;obtain⟨c,hw,j⟩:=o9.some_of (v:=v) (o:=(aaW xs k).map (·.2)) (by rw[l];exact rel.val k);obtain⟨p,J,L⟩:=Option.map_eq_some_iff.mp hw;refine wpAny_getItem_heap (d9 q) (sS I.iE C) i J ?_;rw[L];exact h c _ (I.tok _) j
theorem VW{Q:af->ah->Prop}(m:A.units+1<eQ)(I:Inv X pins σ H s)(g:nq H a y o)(i:RelV y u)(h:∀j,Inv X pins σ H j->Q (.bool o.isSome) j):
  wpAny (model X.prog X.w) A (compareOp .In u (.ref a)) Q E s:=by
 rcases g with⟨n,k,e,c,l⟩|⟨n,k,b,e,c,p,l⟩
 ·subst c;obtain⟨z,hd,B,rel,f⟩:=qr I.iE e;refine wpAny_in_of (u5 i) hd f.mapOf ?_;rw[<-(rel.val k).pV,<-l];exact h _ (I.tok _)
 ·subst c;cases(show u=aR b from i);obtain⟨z,hd,xs,rel,f⟩:=xm I.iE e;refine wpAny_in_heap (d9 m) (sS I.iE p) hd f ?_;have q:=(rel.val k).pV;rw[Option.isSome_map] at q;rw[<-q,<-l];exact h _ (I.tok _)
theorem J1{Q:af->ah->Prop}(m:A.units+1<eQ)(I:Inv X pins σ H s)(g:nq H a y o)(i:RelV y u)(h:∀j,Inv X pins σ H j->Q (.bool (!o.isSome)) j):
  wpAny (model X.prog X.w) A (compareOp .NotIn u (.ref a)) Q E s:=by
 rcases g with⟨n,k,e,c,l⟩|⟨n,k,b,e,c,p,l⟩
 ·subst c;obtain⟨z,hd,B,rel,f⟩:=qr I.iE e;refine wpAny_notIn_of (u5 i) hd f.mapOf ?_;rw[<-(rel.val k).pV,<-l];exact h _ (I.tok _)
 ·subst c;cases(show u=aR b from i);obtain⟨z,hd,xs,rel,f⟩:=xm I.iE e;refine wpAny_notIn_heap (d9 m) (sS I.iE p) hd f ?_;have q:=(rel.val k).pV;rw[Option.isSome_map] at q;rw[<-q,<-l];exact h _ (I.tok _)
theorem Dc{c:az}{f:Nat}{ob:HO}(I:Inv X pins σ H s)(g:RE (H a))(h:bX a s.heap c)(i:∃q,c.get? a=ae q)(new:iD X.prog X.w (upd H a ob) c a ob):
  Inv X pins σ (upd H a ob) {s with heap:=c,toks:=f}:=
 I.write (x:=a) (e:=a) g (.inl rfl) (λb q hb z=>(h.2 b hb).trans z) i new
theorem Gh{P:aw}{w:aN}{f:Hp}{e:az}{b:List (Key×V)}{c:List (Key×af)}(z:b.length<=ax)(hd:(a==dq)=ao)(rel:KV b c)(g:e.DictOf (iW P w) a c):
  iD P w f e a (.dK b):=⟨z,hd,c,rel,g⟩
end
section
variable {X:Cx} {pins:List (ai×bR)} {σ:St} {H:Hp} {s:ah} {a:ai} {gM:List (Key×V)} {k:Key} {u:af} {A:aH} {E:af->ah->Prop}
theorem R5{Q:af->ah->Prop}(I:Inv X pins σ H s)(e:Rd H a (.dK gM))(h:∀t b,Inv X pins σ H b->Q (.int gM.length t) b):wpAny (model X.prog X.w) A (call (.builtin "len") [.ref a]) Q E s:=by obtain⟨z,hd,f,rel,c⟩:=qr I.iE e;refine call_len_dict hd c (by rw[<-rel.length];rw[f7] at z;omega) ?_;rw[<-rel.length];exact h _ _ (I.tok _)
end
theorem ub{X:Cx}{pins:List (ai×bR)}{σ:St}{H:Hp}{s:ah}{a:ai}{y:V}{o:Option V}(I:Inv X pins σ H s)(g:nq H a y o):s.TypeIs (.ref a) "dict":=by
 rcases g with⟨f,k,e,_,_⟩|⟨f,k,b,e,_,_,_⟩
 ·obtain⟨_,_,h,_,c⟩:=qr I.iE e;exact c.typeIs
 ·obtain⟨_,_,xs,_,c⟩:=xm I.iE e;exact c.typeIs
section
variable {X:Cx} {o i e value:aS} {pos pos' ur:cC} {td ty tv:TE}
end
theorem Gi{P:aw}{w:aN}{H:Hp}(h:az)(hb:dq<h.objs.size):iD P w H (h.push {cls:=.type "dict",data:=.dict #[]}) h.objs.size (.dK []):=
 ⟨bx _,beq_eq_false_iff_ne.mpr (b4 (bL hb)),[],.nil,az.DictOf.new h⟩
section
variable {X:Cx} {pos:cC}
end
def yc:List (TE×TE)->St->Hp->(List (V×V)->Hp->Prop)->Prop
 |[],_,H,Q=>Q [] H
 | (tk,a)::r,σ,H,Q=>tk σ H λx H1=>a σ H1 λy b=>yc r σ b λps c=>Q ((x,y)::ps) c
abbrev VV:List (V×V)->List (af×af)->Prop:=Paired λp q=>RelV p.1 q.1/\RelV p.2 q.2
def R6 (X:Cx)(pos:cC)(keys:List (Option aS))(values:List aS)(b:List (TE×TE)):Prop:=
 ∀(pins:List (ai×bR)) (s:ah) (σ:St) (H:Hp) (Q:List (V×V)->Hp->Prop),Inv X pins σ H s->yc b σ H Q->
  wpAny (model X.prog X.w) X.A (evalPairs (pairTrees keys values X.env pos)) (λc e=>∃ps a,Inv X pins σ a e/\VV ps c/\Q ps a) X.xe s
theorem J2{X:Cx}{pos:cC}:R6 X pos [] [] []:=λpins s σ H Q I h=>pairTrees_nil_walk ⟨[],H,I,.nil,h⟩
theorem Gj{X:Cx}{pos:cC}{k v:aS}{a:List (Option aS)}{b:List aS}{tk c:TE}{e:List (TE×TE)}(f:PE X k tk)(g:PE X v c)(i:R6 X pos a b e):
  R6 X pos (ae k::a) (v::b) ((tk,c)::e):=λpins s σ H Q I h=>
 pairTrees_cons_walk (ji (f pins s σ H _ I h) λu s1 ⟨x,H1,j,m,n⟩=>ji (g pins s1 σ H1 _ j n) λB s2 ⟨y,o,p,q,r⟩=>
  ji (i pins s2 σ o _ p r) λws s3 ⟨ps,w,z,rel,A⟩=>⟨(x,y)::ps,w,z,.cons ⟨m,q⟩ rel,A⟩)
noncomputable def mw(b more:List (Key×V)):List (Key×V):=more.foldl (λacc a=>qF acc a.1 a.2) b
theorem KV.merge:∀{more:List (Key×V)} {rs:List (Key×af)} {a:List (Key×V)} {b:List (Key×af)},KV more rs->KV a b->KV (mw a more) (merged b rs):=by
 intro more rs a b r;unfold KV at r;induction r generalizing a b with
 |nil=>intro q;exact q
 |@cons p q ps g h t c=>
  intro f;have e:KV (qF a p.1 p.2) (stored b q.1 q.2):=by have:=f.put p.1 h.2;rw[<-h.1];exact this
  exact c e
theorem m3:∀(more a:List (Key×V)),(mw a more).length<=a.length+more.length
 |[],a=>by show a.length<=a.length+0;omega
 |p::r,a=>by have b:=m3 r (qF a p.1 p.2);have c:=zV a p.1 p.2;show(mw (qF a p.1 p.2) r).length<=_;rw[aM];omega
theorem u7{P:aw}{w:aN}:∀{e:List (Key×V)} {ws:List (af×af)},VV (e.map λf=>(kV f.1,f.2)) ws->∃rs,Carries (iW P w) ws rs/\KV e rs
 |[],_,r=>by rw[c6] at r;cases r;exact⟨[],dH,.nil⟩
 |p::e,_,r=>by
  rw[aU] at r;cases r with
  |@cons a b as bs h t=>
   obtain⟨rs,c,q⟩:=u7 (P:=P) (w:=w) t;obtain⟨i,g⟩:=b;exact⟨(p.1,g)::rs,⟨u5 h.1,rfl,c⟩,.cons ⟨rfl,h.2⟩ q⟩
def R7 (e:List (TE×TE)):TE:=λσ H Q=>∀p,H p=aq->yc e σ (upd H p (.dK [])) λps b=>b p=ae (.dK [])/\∃a:List (Key×V),ps=a.map (λc=>(kV c.1,c.2))/\a.length<=15/\Q (.ref p) (upd b p (.dK (mw [] a)))
theorem J3{X:Cx}{pos:cC}{keys:List (Option aS)}{values:List aS}{b:List (TE×TE)}(h:R6 X pos keys values b)(m:keys.all (·.isSome)=aj)(n:keys.length=values.length)(p:keys≠[])
(r:keys.length<=15):PE X (.Dict keys values pos) (R7 b):=by
 intro pins s σ H Q I q;have hn:=I.iE.fresh (aY s.heap.objs.size);have u:=I.laid (a:=s.heap.objs.size) (o:=.dK []) (h':=s.heap.push {cls:=.type "dict",data:=.dict #[]}) (t':=s.toks) (λ_ _ q=>ar _ q) (aY _) (Gi s.heap I.big);refine wpAny_Dict_walk (knd:=iW X.prog X.w) m n p r (ji (h pins _ σ _ _ u (q _ hn)) λws s2 v=>?_);obtain⟨ps,U,g,rel,e,i,y,lk,A⟩:=v;subst y;obtain⟨rs,c,B⟩:=u7 (P:=X.prog) (w:=X.w) rel;obtain⟨z,hd,C,E,G⟩:=MH g.iE e;cases E;refine⟨rs,c,G,λf j J=>⟨.ref s.heap.objs.size,_,?_,rfl,A⟩⟩;have L:(mw [] i).length<=ax:=by have M:=m3 i [];rw[bC] at M;rw[f7];omega
 have N:∃q,f.get? s.heap.objs.size=ae q:=let⟨q,_,_,O,_⟩:=j;⟨q,O⟩;exact Dc g (by rw[e];exact dH) J N (Gh L hd (B.merge .nil) j)
structure M1(X:Cx)(o:aS)(m:av)(apos:cC)(e:aS)(iz:cC):Prop where
 base:cQ o m X.env (eval o X.env)=eval o X.env
 few:((cb iz (aJ [e] X.env)).all (λx=>!x.1)&&(f8 iz (eS [] X.env)).all (λx=>x.1.isSome)
  &&decide (([e]:List aS).length+([]:List ff).length+(if([]:List ff).isEmpty then 0 else 1)<30))=aj
 line:(apos.endLine==iz.line)=aj
 trees:cb iz (aJ [e] X.env)=[(ao,eval e X.env)]
structure M2(X:Cx)(o:aS)(m:av)(apos:cC)(e f:aS)(iz:cC):Prop where
 base:cQ o m X.env (eval o X.env)=eval o X.env
 few:((cb iz (aJ [e,f] X.env)).all (λx=>!x.1)&&(f8 iz (eS [] X.env)).all (λx=>x.1.isSome)
  &&decide (([e,f]:List aS).length+([]:List ff).length+(if([]:List ff).isEmpty then 0 else 1)<30))=aj
 line:(apos.endLine==iz.line)=aj
 trees:cb iz (aJ [e,f] X.env)=[(ao,eval e X.env),(ao,eval f X.env)]
section
variable {X:Cx} {pins:List (ai×bR)} {σ:St} {H:Hp} {s:ah} {a:ai} {y d:V} {u r:af} {o:Option V} {A:aH} {E:af->ah->Prop}
theorem Gk{Q:af->ah->Prop}(n:A.units+1<eQ)(I:Inv X pins σ H s)(g:nq H a y o)(i:RelV y u)(h:∀j m,Inv X pins σ H m->RelV (o.getD .non) j->Q j m):
  wpAny (model X.prog X.w) A (call (.builtin "dict.get") [.ref a,u]) Q E s:=by
 rcases g with⟨p,k,e,f,l⟩|⟨p,k,b,e,f,q,l⟩
 ·subst f;obtain⟨z,hd,v,rel,c⟩:=qr I.iE e;refine fY PySem.F.slot_dict_get c.typeIs PySem.F.entry_dict_get (PySem.F.args_dict_get_2 _ _) (meets_dict_get (iW X.prog X.w) a (u5 i) hd) ⟨_,c.mapOf,h _ _ (I.tok _) ?_⟩;rw[l];exact(rel.val k).getD rfl
 ·subst f;cases(show u=aR b from i);obtain⟨z,hd,xs,rel,c⟩:=xm I.iE e;refine fY PySem.F.slot_dict_get c.typeIs PySem.F.entry_dict_get (PySem.F.args_dict_get_2 _ _) (meetsH_dict_get (gb (iW X.prog X.w)) a b hd) ⟨d9 n,k,xs,sS I.iE q,c,h _ _ (I.tok _) ?_⟩;rw[l];exact(rel.val k).getD rfl
theorem Gm{Q:af->ah->Prop}(n:A.units+1<eQ)(I:Inv X pins σ H s)(g:nq H a y o)(i:RelV y u)(rd:RelV d r)(h:∀j m,Inv X pins σ H m->RelV (o.getD d) j->Q j m):
  wpAny (model X.prog X.w) A (call (.builtin "dict.get") [.ref a,u,r]) Q E s:=by
 rcases g with⟨p,k,e,f,l⟩|⟨p,k,b,e,f,q,l⟩
 ·subst f;obtain⟨z,hd,v,rel,c⟩:=qr I.iE e;refine fY PySem.F.slot_dict_get c.typeIs PySem.F.entry_dict_get (PySem.F.args_dict_get_3 _ _ _) (meets_dict_get_default (iW X.prog X.w) a (u5 i) hd r) ⟨_,c.mapOf,h _ _ (I.tok _) ?_⟩;rw[l];exact(rel.val k).getD rd
 ·subst f;cases(show u=aR b from i);obtain⟨z,hd,xs,rel,c⟩:=xm I.iE e;refine fY PySem.F.slot_dict_get c.typeIs PySem.F.entry_dict_get (PySem.F.args_dict_get_3 _ _ _) (meetsH_dict_get_default (gb (iW X.prog X.w)) a b hd r) ⟨d9 n,k,xs,sS I.iE q,c,h _ _ (I.tok _) ?_⟩;rw[l];exact(rel.val k).getD rd
end
section
variable {X:Cx} {o e f:aS} {apos iz:cC} {td ty tx:TE}
end
section
variable {X:Cx} {pins:List (ai×bR)} {σ:St} {H:Hp} {s:ah} {a:ai} {gM:List (Key×V)} {A:aH} {E:af->ah->Prop}
end
section
variable {X:Cx} {pins:List (ai×bR)} {σ:St} {H:Hp} {s:ah} {a:ai} {y:V} {u:af} {A:aH} {E:af->ah->Prop}
end
end L2
namespace HT
open PySem PyProof.Rows
section
open PySem.SeqAt
open PySem.AutoSeq1 (wpAny_loadPart')
open PySem.MeetsSeq PySem.MeetsSeq2 PySem.MeetsSeq3
end
section
variable {prog:aw} {w:aN} {A:aH} {E:af->ah->Prop} {s:ah}
theorem J8{t b:ai}{a ws:List af}{Q:af->ah->Prop}(q:aaA s.heap t a.toArray)(hb:aaA s.heap b ws.toArray)(g:a≠[])
(r:ws=[]->Q (.ref t) s)(u:ws≠[]->Q (.ref s.heap.objs.size) {s with heap:=s.heap.push {cls:=.type "tuple",data:=.seq (a++ws).toArray}})
(v:a.length+ws.length<=ax):wpAny (model prog w) A (binaryOp .Add (.ref t) (.ref b)) Q E s:=by
 obtain⟨⟨cls,h,data,sl⟩,c,hc,n,hd⟩:=id q;obtain⟨⟨y,i,data2,j⟩,f,m,o,p⟩:=id hb;simp only at hc hd m p;subst hc hd m p;have e:a.toArray++ws.toArray=(a++ws).toArray:=by simp
 by_cases hw:ws=[]
 ·exact concat_meets ⟨_,c,rfl⟩ ⟨_,f,rfl⟩ abl abH PySem.F.slot_tuple_add PySem.F.entry_tuple_add (PySem.F.args_tuple_add_2 _ _)
   (tuple_addW1 t b a.toArray ws.toArray n o h i sl j (by simpa using g) (by simp[hw])) ⟨c,f,r hw⟩
 ·refine concat_meets ⟨_,c,rfl⟩ ⟨_,f,rfl⟩ abl abH PySem.F.slot_tuple_add PySem.F.entry_tuple_add (PySem.F.args_tuple_add_2 _ _)
   (tuple_addW2 t b a.toArray ws.toArray n o h i sl j (by simpa using g) (by simpa using hw) (by rw[aV,aV];exact v)) ⟨c,f,?_⟩
  rw[e];exact u hw
noncomputable def kK(n d:Nat):Option Int->Nat
 |none=>d
 |some v=>if v<0 then(v+(n:Int)).toNat else min v.toNat n
theorem u8(n d:Nat):kK n d aq=d:=rfl
theorem uG(n d k:Nat):kK n d (ae (k:Int))=min k n:=by show(if(k:Int)<0 then((k:Int)+(n:Int)).toNat else min (k:Int).toNat n)=min k n;rw[if_neg (by omega),Int.toNat_natCast]
theorem Ow(n d:Nat)(hd:d<=n)(o:Option Int):kK n d o<=n:=by
 cases o with
 |none=>exact hd
 |some v=>
  show(if v<0 then(v+(n:Int)).toNat else min v.toNat n)<=n;by_cases a:v<0
  ·rw[if_pos a];omega
  ·rw[if_neg a];exact Nat.min_le_right _ _
theorem De(v:Int)(n d:Nat):(if v<0 then max (v+(n:Int)) 0 else min v (n:Int))=((kK n d (ae v):Nat):Int):=by
 show(if v<0 then max (v+(n:Int)) 0 else min v (n:Int))=(((if v<0 then(v+(n:Int)).toNat else min v.toNat n):Nat):Int);by_cases a:v<0
 ·simp only [if_pos a];omega
 ·simp only [if_neg a];omega
theorem BU(lo hi:Option Int)(n:Nat):eA lo hi 1 (n:Int)=(((kK n 0 lo:Nat):Int),((kK n n hi:Nat):Int)):=by
 have a:¬((1:Int)<0):=by omega
 unfold eA;simp only [a,if_false];refine Prod.ext ?_ ?_
 ·cases lo with
  |none=>rfl
  |some v=>exact De v n 0
 ·cases hi with
  |none=>rfl
  |some v=>exact De v n n
theorem BV(i j:Nat):dh (i:Int) (j:Int) 1=j- i:=by
 unfold dh;have a:(1:Int)>0:=by omega
 simp only [a,if_true,Int.ediv_one];split<;>omega
theorem u9{v:af}{o:Option Int}{Q:Option Int->ah->Prop}(p:aax v o)(h:Q o s):wpAny (model prog w) A (bd.Slice.slicePartIndex v) Q E s:=by
 cases p with
 |none=>exact abu h
 |int i t=>exact slicePart_int h
theorem sT{sl:ai}{a b:af}{lo hi:Option Int}{n:Nat}{Q:Int×Int×Nat->ah->Prop}(f:s.heap.IsSliceOf sl a b .none)(pl:aax a lo)(g:aax b hi)
(h:Q (((kK n 0 lo:Nat):Int),1,kK n n hi- kK n 0 lo) s):wpAny (model prog w) A (bd.Slice.sliceApplied (.ref sl) (pure (n:Int))) Q E s:=by obtain⟨os,c,i,e⟩:=id f;unfold bd.Slice.sliceApplied bd.Slice.sliceFields;refine ag (ag (b5 c e (x:=a) rfl (ag (b5 c e (x:=b) rfl (ag (b5 c e (x:=.none) rfl (aB ?_)))))));refine ag (abu ?_);show wpAny _ _ (if((1:Int)==0)=aj then _ else _) _ _ s;rw[if_neg (by decide)];refine ag (u9 pl (ag (u9 g (ag (aB ?_)))));show wpAny _ _ (match eA lo hi 1 (n:Int) with|(lo,hi)=>pure (lo,(1:Int),dh lo hi 1)) _ _ s;rw[BU lo hi n];show wpAny _ _ (pure (((kK n 0 lo:Nat):Int),(1:Int),dh ((kK n 0 lo:Nat):Int) ((kK n n hi:Nat):Int) 1)) _ _ s;rw[BV];exact aB h
theorem Gn(xs:Array af)(i k:Nat):((cG k).filterMap λ(m:Nat)=>xs[((i:Int)+(m:Int)*1).toNat]?).toArray=((xs.toList.drop i).take k).toArray:=by
 have e:(λ(m:Nat)=>xs[((i:Int)+(m:Int)*1).toNat]?)=λm=>xs[i+m]?:=by
  funext m;have:((i:Int)+(m:Int)*1).toNat=i+m:=by omega
  rw[this]
 rw[e];have:=pick_run xs i k;rw[List.filterMap_map] at this;have e2:((λx=>xs[x]?)∘λx=>i+x)=λm=>xs[i+m]?:=rfl;rw[e2] at this;rw[this]
theorem rC{t sl:ai}{items:Array af}{c e:af}{lo hi:Option Int}{Q:af->ah->Prop}(a:aaA s.heap t items)(f:s.heap.IsSliceOf sl c e .none)(pl:aax c lo)(g:aax e hi)
(hw:¬(kK items.size 0 lo=0/\kK items.size items.size hi=items.size))
(h:Q (.ref s.heap.objs.size) {s with heap:=s.heap.push {cls:=.type "tuple",data:=.seq ((items.toList.drop (kK items.size 0 lo)).take (kK items.size items.size hi- kK items.size 0 lo)).toArray}})
(p:items.size<=ax):wpAny (model prog w) A (fX (.ref t) (.ref sl)) Q E s:=by
 have b:sizeOk (.seq ((items.toList.drop (kK items.size 0 lo)).take (kK items.size items.size hi- kK items.size 0 lo)).toArray):=by show((items.toList.drop (kK items.size 0 lo)).take (kK items.size items.size hi- kK items.size 0 lo)).toArray.size<=ax;rw[aV,bi,bt,Array.length_toList];omega
 have r:kK items.size items.size hi<=items.size:=Ow _ _ (aY _) hi;obtain⟨os,i,j,u⟩:=id f;have n:s.TypeIs (.ref sl) "slice":=⟨os,i,j⟩;unfold fX;try with_reducible refine cy ?_
 first|refine ag (aB ?_)|skip
 refine ag (aba a.typeIs (by decide) ?_);refine ag (cK (name:=bI "__getitem__") a.typeIs dQ
  (cR dQ a.typeIs entry_tuple_getitem ?_ (args_tuple_getitem _ _)))
 show wpAny _ _ (bd.Tuple.tupleItemsOf (.ref t) >>= _) _ _ s;refine ag (tupleItemsOf_ a ?_);refine ag (wpAny_typeOf n ?_);rw[if_pos (by decide)];refine ag (sT f pl g ?_);have o:¬((((kK items.size 0 lo:Nat):Int)==0&&(1:Int)==1&&(kK items.size items.size hi- kK items.size 0 lo)==items.size)=aj):=by intro q;rw[aD,aD] at q;have v:((kK items.size 0 lo:Nat):Int)=0:=eq_of_beq q.1.1;have y:kK items.size items.size hi- kK items.size 0 lo=items.size:=eq_of_beq q.2;exact hw ⟨by omega,by omega⟩
 show wpAny _ _ (if(((kK items.size 0 lo:Nat):Int)==0&&(1:Int)==1&&(kK items.size items.size hi- kK items.size 0 lo)==items.size)=aj then _ else _) _ _ s;rw[if_neg o,Gn];first
  |exact ag (m:=dy _) (cL (aB ⟨_,rfl,aB h⟩) b)
  |exact ag (m:=dy _) (cL (ag (aB (aB ⟨_,rfl,aB h⟩))) b)
  |exact ag (ag (m:=dy _) (cL (aB (aB ⟨_,rfl,aB h⟩)) b))
  |exact ag (ag (m:=dy _) (cL (aB ⟨_,rfl,aB h⟩) b))
end
end HT
namespace L2
open PySem PySem.Spec PyProof.Rows
abbrev TO:=St->Hp->(Option Int->Hp->Prop)->Prop
def PO (X:Cx)(e:Option aS)(t:TO):Prop:=
 ∀(pins:List (ai×bR)) (s:ah) (σ:St) (H:Hp) (Q:Option Int->Hp->Prop),Inv X pins σ H s->t σ H Q->
  wpAny (model X.prog X.w) X.A (evalPart e X.env) (λu b=>∃o a,Inv X pins σ a b/\aax u o/\Q o a) X.xe s
def J9:TO:=λ_ H Q=>Q aq H
def Sa (t:TE):TO:=λσ H Q=>t σ H λx H1=>∃i,x=.int i/\Q (ae i) H1
section
variable {X:Cx} {e:aS} {te:TE} {lo hi:Option aS} {tl th:TO} {pos p2:cC}
theorem Ka:PO X aq J9:=by intro pins s σ H Q I h;rw[abI];exact aB ⟨aq,H,I,.none,h⟩
theorem Kb(h:PE X e te):PO X (ae e) (Sa te):=by intro pins s σ H Q I hw;rw[evalPart_some];refine ji (h pins s σ H _ I hw) λu s1 a=>?_;obtain⟨x,H1,b,c,f⟩:=a;obtain⟨i,rfl,q⟩:=f;obtain⟨t,rfl⟩:=c;exact⟨ae i,H1,b,.int i t,q⟩
def Jn (X:Cx)(r:V->Option Int->Option Int->Hp->VK->Prop):Prop:=
 ∀(pins:List (ai×bR)) (s:ah) (σ:St) (H:Hp) (x:V) (v a b:af) (lo hi:Option Int) (sl:ai) (Q:VK),Inv X pins σ H s->RelV x v->s.heap.IsSliceOf sl a b .none->aax a lo->aax b hi->r x lo hi H Q->
  ∃T id,typeLookup (.type T) "__getitem__"=pure (ae (.builtin id))/\s.TypeIs v T/\wpAny (model X.prog X.w) X.A (fX v (.ref sl)) (EP X pins σ Q) X.xe s
theorem Jn.or{r a:V->Option Int->Option Int->Hp->VK->Prop}(h:Jn X r)(j:Jn X a):Jn X (λx lo hi H Q=>r x lo hi H Q\/a x lo hi H Q):=by
 intro pins s σ H x v b c lo hi sl Q I f g pl i q;rcases q with q|q
 ·exact h pins s σ H x v b c lo hi sl Q I f g pl i q
 ·exact j pins s σ H x v b c lo hi sl Q I f g pl i q
def ZU (r:V->Option Int->Option Int->Hp->VK->Prop)(te:TE)(tl th:TO):TE:=λσ H Q=>te σ H λx H1=>tl σ H1 λl a=>th σ a λu b=>r x l u b Q
theorem Gp{r:V->Option Int->Option Int->Hp->VK->Prop}(i:Jn X r)(j:PE X e te)(m:PO X lo tl)(n:PO X hi th):PE X (.Subscript e (.Slice lo hi aq p2) pos) (ZU r te tl th):=by intro pins s σ H Q I h;refine Subscript_ (ji (j pins s σ H _ I h) λv s1 f=>?_);obtain⟨x,H1,o,p,y⟩:=f;refine wpAny_Slice (ji (m pins s1 σ H1 _ o y) λa s2 ⟨l,z,B,pl,C⟩=>ji (n pins s2 σ z _ B C) λc s3 f=>?_);obtain⟨u,g,E,G,J⟩:=f;rw[abI];refine aB ?_;have L:Inv X pins σ g {s3 with heap:=s3.heap.push {cls:=.type "slice",data:=.fields #[a,c,.none]}}:=E.kept (t':=s3.toks) λb ob q=>ar _ q;obtain⟨T,id,M,N,O⟩:=i pins {s3 with heap:=s3.heap.push {cls:=.type "slice",data:=.fields #[a,c,.none]}} σ g x v a c l u s3.heap.objs.size Q L p (az.IsSliceOf.new ..) pl G J;show wpAny (model X.prog X.w) X.A (aal e (.Slice lo hi aq p2) v (.ref s3.heap.objs.size)) (EP X pins σ Q) X.xe {s3 with heap:=s3.heap.push {cls:=.type "slice",data:=.fields #[a,c,.none]}};exact tail_any (ops:=[.ref s3.heap.objs.size,v]) N M O (by with_unfolding_all rfl)
noncomputable def zW(xs:List V)(lo hi:Option Int):List V:=(xs.drop (HT.kK xs.length 0 lo)).take (HT.kK xs.length xs.length hi- HT.kK xs.length 0 lo)
theorem uc(xs:List V)(lo hi:Option Int):(zW xs lo hi).length<=xs.length:=by unfold zW;rw[bi,bt];omega
def VZ (K:W.Frag):V->Option Int->Option Int->Hp->VK->Prop:=λx lo hi H Q=>∃a xs,x=.ref a/\t9 K H a xs/\
 ¬(HT.kK xs.length 0 lo=0/\HT.kK xs.length xs.length hi=xs.length)/\∀p,H p=aq->Q (.ref p) (upd H p (.tup (zW xs lo hi)))
theorem Ox:Jn X (VZ X.K):=by
 intro pins s σ H x v p u lo hi sl Q I i j pl m h;obtain⟨a,xs,rfl,n,hw,q⟩:=h;cases i;obtain⟨g9,r,f,g⟩:=I.tuple n;have c:g9.toArray.size=xs.length:=by rw[aV];exact r.length.symm
 refine⟨"tuple",_,dQ.lookup,f.typeIs,?_⟩;refine HT.rC f j pl m (by rw[c];exact hw) ?_ (by rw[c];exact g);rw[c];refine⟨.ref s.heap.objs.size,_,I.laid (t':=s.toks) (o:=.tup (zW xs lo hi)) (λb ob q=>ar _ q) (aY _) ?_,rfl,q _ (I.iE.fresh (aY _))⟩;exact⟨aQ (uc xs lo hi) g,_,(r.drop (HT.kK xs.length 0 lo)).take (HT.kK xs.length xs.length hi- HT.kK xs.length 0 lo),aaA.new _ _⟩
def Sb (K:W.Frag):R2:=λx y H Q=>∃a b xs c,x=.ref a/\y=.ref b/\t9 K H a xs/\t9 K H b c/\xs≠[]/\xs.length+c.length<=ax/\
 (c=[]->Q (.ref a) H)/\(c≠[]->∀p,H p=aq->Q (.ref p) (upd H p (.tup (xs++c))))
theorem Vals.ye{xs:List V}{us:List af}(r:Vals xs us):us=[]↔xs=[]:=by
 cases r with
 |nil=>simp
 |cons _ _=>simp
theorem Kc:oP X (binaryOp .Add) (Sb X.K):=by intro pins s σ H x y v u Q I i j h;obtain⟨a,b,xs,m,rfl,rfl,ha,hb,n,g,p,r⟩:=h;cases i;cases j;obtain⟨g9,f,A,_⟩:=I.tuple ha;obtain⟨B,c,p2,_⟩:=I.tuple hb;refine HT.J8 A p2 (λz=>n (f.ye.mp z)) (λz=>⟨.ref a,H,I,rfl,p (c.ye.mp z)⟩) (λz=>?_) (by rw[<-f.length,<-c.length];exact g);refine⟨.ref s.heap.objs.size,_,I.laid (t':=s.toks) (o:=.tup (xs++m)) (λb ob q=>ar _ q) (aY _) ?_,rfl,r (λw=>z (c.ye.mpr w)) _ (I.iE.fresh (aY _))⟩;exact⟨by rw[ay];exact g,_,f.append c,aaA.new _ _⟩
end
end L2
namespace L2
open PySem PySem.Spec PyProof.Rows
noncomputable def FK(n:Nat)(i:Int):Option Nat:=if 0<=i then(if i<n then ae i.toNat else aq) else if-(n:Int)<=i then ae (i+n).toNat else aq
noncomputable def vf{α:Type}(xs:List α)(i:Int):Option α:=(FK xs.length i).bind λj=>xs[j]?
theorem Dg{n:Nat}{i:Int}{j:Nat}(h:FK n i=ae j):seqIndex? i n=ae j/\j<n/\-(n:Int)<=i/\i<n:=by
 unfold FK at h;by_cases b:0<=i
 ·rw[if_pos b] at h;by_cases a:i<n
  ·rw[if_pos a] at h;have e:i.toNat=j:=bq h;exact⟨by rw[aaX b a,e],by omega,by omega,a⟩
  ·rw[if_neg a] at h;cases h
 ·rw[if_neg b] at h;by_cases a:-(n:Int)<=i
  ·rw[if_pos a] at h;have e:(i+n).toNat=j:=bq h;exact⟨by rw[seqIndex_neg (by omega) a,e],by omega,a,by omega⟩
  ·rw[if_neg a] at h;cases h
theorem yf{α:Type}{xs:List α}{i:Int}{v:α}(h:vf xs i=ae v):∃j,seqIndex? i xs.length=ae j/\xs[j]?=ae v/\j<xs.length/\-(xs.length:Int)<=i/\i<xs.length:=by
 unfold vf at h;cases e:FK xs.length i with
 |none=>rw[e] at h;cases h
 |some j=>
  rw[e] at h;obtain⟨a,b,c,f⟩:=Dg e;exact⟨j,a,h,b,c,f⟩
def Dh (b:aS):Prop:=∀o i,subscripted b ao o i=operate [o,i] (fX o i)
def Oy (X:Cx)(r:R2):Prop:=
 ∀(value slice:aS) (pins:List (ai×bR)) (s:ah) (σ:St) (H:Hp) (x y:V) (v u:af) (Q:VK),Inv X pins σ H s->RelV x v->RelV y u->r x y H Q->
  subscripted slice ao v u=operate [v,u] (fX v u)->wpAny (model X.prog X.w) X.A (aal value slice v u) (EP X pins σ Q) X.xe s
def MI (X:Cx)(id:String)(r:V->List V->Hp->VK->Prop):Prop:=
 ∀(pins:List (ai×bR)) (s:ah) (σ:St) (H:Hp) (x:V) (xs:List V) (v:af) (us:List af) (Q:VK),Inv X pins σ H s->RelV x v->Vals xs us->r x xs H Q->
  wpAny (model X.prog X.w) X.A (call (.builtin id) (v::us)) (EP X pins σ Q) X.xe s
section
variable {X:Cx} {a b:aS} {ta tb:TE} {pos:cC}
theorem Sc{r:R2}(c:Oy X r)(ha:PE X a ta)(hb:PE X b tb)(e:Dh b):PE X (.Subscript a b pos) (Q4 r ta tb):=by intro pins s σ H Q I h;exact Subscript_ (Ob ha hb I h λv u s2 x y f g i j q=>c a b pins s2 σ f x y v u Q g i j q (e _ _))
def V0 (K:W.Frag):R2:=λx y H Q=>∃p xs i v,x=.ref p/\y=.int i/\nj K H p xs/\vf xs i=ae v/\Q v H
def V1 (K:W.Frag):R2:=λx y H Q=>∃p xs i v,x=.ref p/\y=.int i/\t9 K H p xs/\vf xs i=ae v/\Q v H
def V2:R2:=λx y H Q=>∃z i c,x=.str z/\y=.int i/\z.length<=ax/\vf z.cps.toList i=ae c/\Q (.str ⟨#[c]⟩) H
theorem Di:Oy X (V0 X.K):=by
 intro value slice pins s σ H x y v u Q I o A h f;obtain⟨p,xs,i,z,rfl,rfl,B,C,q⟩:=h;cases o;obtain⟨t,rfl⟩:=A;obtain⟨g9,r,pl,O⟩:=I.list B;obtain⟨j,c,E,T,G,J⟩:=yf C;obtain⟨w,g,L⟩:=r.get E;have M:=r.length;have hn:=sP;have m:EP X pins σ Q w s:=⟨z,H,I,L,q⟩;by_cases n:0<=i
 ·have e:i.toNat=j:=by rw[aaX n J] at c;exact bq c
  exact item_listR pl.isList n (by omega) (by rw[e];simpa using g) m f
 ·have e:(i+(g9.toArray.size:Int)).toNat=j:=by rw[seqIndex_neg (by omega) G] at c;rw[aV,<-M];exact bq c
  exact aaO (x:=w) pl.isList.typeIs abb.lookup
   (wpAny_getItem_list_neg (Q:=λr N=>r=w/\EP X pins σ Q r N) pl.isList (by omega) (by rw[aV]<;>omega) (by omega) (by rw[e];simpa using g) ⟨rfl,m⟩) f
theorem Oz:Oy X (V1 X.K):=by
 intro value slice pins s σ H x y v u Q I c e h f;obtain⟨p,xs,i,z,rfl,rfl,g,m,q⟩:=h;cases c;obtain⟨t,rfl⟩:=e;obtain⟨g9,r,pl,J⟩:=I.tuple g;obtain⟨j,n,o,L,M,N⟩:=yf m;obtain⟨w,A,B⟩:=r.get o;have C:=r.length;have hn:=sP;have E:EP X pins σ Q w s:=⟨z,H,I,B,q⟩;exact aaO (x:=w) pl.typeIs slot_tuple_getitem.lookup
  (getItem_tuple (j:=j) (Q:=λr G=>r=w/\EP X pins σ Q r G) pl (by omega) (by omega) (by rw[aV,<-C];exact n) (by simpa using A) ⟨rfl,E⟩) f
theorem OA:Oy X V2:=by
 intro value slice pins s σ H x y v u Q I f g h m;obtain⟨z,i,c,rfl,rfl,A,n,q⟩:=h;obtain⟨t,rfl⟩:=f;obtain⟨B,rfl⟩:=g;obtain⟨j,e,o,C,p,r⟩:=yf n;have w:z.cps.toList.length=z.length:=by simp[av.length]
 rw[w] at e p r;have hn:=sP;exact tail_any (fk s z t) slot_str_getitem.lookup (getItem_str (c:=c) (by have e1:decide (i< -(2^63:Int))=ao:=decide_eq_false (by omega);have e2:decide (i>=2^63)=ao:=decide_eq_false (by omega);rw[e1,e2,Bool.or_false]) (by rw[e];simpa using o) ⟨.str ⟨#[c]⟩,H,I.tok _,⟨_,rfl⟩,q⟩) m
theorem BW(g9:List af)(n j:Nat)(u:af):bR.mapSeq (·.setIfInBounds j u) {cls:=.type "list",data:=.seq g9.toArray n}={cls:=.type "list",data:=.seq (g9.set j u).toArray n}:=by simp[bR.mapSeq]
theorem Inv.lst{pins:List (ai×bR)}{σ:St}{H:Hp}{s:ah}{p:ai}{xs:List V}(I:Inv X pins σ H s)(h:H p=ae (.lst xs)):
  ∃(g9:List af) (n:Nat),Vals xs g9/\s.heap.get? p=ae {cls:=.type "list",data:=.seq g9.toArray n}/\xs.length<=ax:=by obtain⟨z,g9,n,r,e⟩:=I.iE p _ h;exact⟨g9,n,r,e,z⟩
theorem Inv.OB{pins:List (ai×bR)}{σ:St}{H:Hp}{s:ah}{p:ai}{xs g:List V}{g9 c:List af}{n i:Nat}{f:bR->bR}(I:Inv X pins σ H s)(h:H p=ae (.lst xs))
(m:s.heap.get? p=ae {cls:=.type "list",data:=.seq g9.toArray n})(j:f {cls:=.type "list",data:=.seq g9.toArray n}={cls:=.type "list",data:=.seq c.toArray i})(r:Vals g c)(o:g.length<=ax)(t:Nat):
  Inv X pins σ (upd H p (.lst g)) {s with heap:=s.heap.update p f,toks:=t}:=by
 have e:(s.heap.update p f).get? p=ae {cls:=.type "list",data:=.seq c.toArray i}:=by rw[cA f m (by rw[j]<;>rfl),j]
 refine I.write (x:=p) (e:=p) (by rw[h];trivial) (.inl rfl) (λb u hb q=>(bZ _ _ (b4 hb)).trans q) ⟨_,e⟩ ?_;exact⟨o,c,i,r,e⟩
def Sd:V->V->V->Hp->(Hp->Prop)->Prop:=λo i v H Q=>∃p xs k j,o=.ref p/\i=.int k/\H p=ae (.lst xs)/\FK xs.length k=ae j/\Q (upd H p (.lst (xs.set j v)))
theorem Gq:RO X Sd:=by
 intro pins s σ H o i v L M u Q I B C E h;obtain⟨p,xs,k,j,rfl,rfl,m,G,q⟩:=h;cases B;obtain⟨t,rfl⟩:=C;obtain⟨g9,n,r,e,J⟩:=I.lst m;obtain⟨c,N,w,y⟩:=Dg G;have f:=r.length;have hn:=sP;have z:Inv X pins σ (upd H p (.lst (xs.set j v))) {s with heap:=s.heap.update p (bR.mapSeq (·.setIfInBounds j u))}:=
  I.OB m e (BW g9 n j u) (r.set E j) (by rw[List.length_set];exact J) s.toks
 by_cases A:0<=k
 ·have g:k.toNat=j:=by rw[aaX A y] at c;exact bq c
  exact W.ki_setAt e A (by omega) (by rw[aV,<-f];exact y) (by rw[g];exact⟨_,z,q⟩)
 ·have g:(k+(g9.toArray.size:Int)).toNat=j:=by rw[seqIndex_neg (by omega) w] at c;rw[aV,<-f];exact bq c
  exact W.ki_setBack e (by omega) (by rw[aV,<-f];exact w) (by omega) (by rw[g];exact⟨_,z,q⟩)
theorem yg(lo hi:Option Int)(n:Nat):(eT lo hi aq n).1=((HT.kK n 0 lo:Nat):Int)/\(eT lo hi aq n).2.1=((HT.kK n n hi:Nat):Int)/\(eT lo hi aq n).2.2=1:=by
 refine⟨?_,?_,rfl⟩
 ·cases lo with
  |none=>simp[eT,HT.kK]
  |some i=>
   simp only [eT,HT.kK,Option.getD_none,show(1:Int)>0 by decide,if_true];by_cases h:i<0
   ·simp only [h,if_true]<;>omega
   ·simp only [h,if_false]<;>omega
 ·cases hi with
  |none=>simp[eT,HT.kK]
  |some i=>
   simp only [eT,HT.kK,Option.getD_none,show(1:Int)>0 by decide,if_true];by_cases h:i<0
   ·simp only [h,if_true]<;>omega
   ·simp only [h,if_false]<;>omega
theorem wM(g9:List af)(lo hi:Option Int):slicePick g9.toArray lo hi aq=((g9.drop (HT.kK g9.length 0 lo)).take (HT.kK g9.length g9.length hi- HT.kK g9.length 0 lo)).toArray:=by obtain⟨c,e,f⟩:=yg lo hi g9.toArray.size;unfold slicePick;rw[c,e,f];simp only [sliceRange_one,pick_run,aV]<;>rfl
def V3 (K:W.Frag):V->Option Int->Option Int->Hp->VK->Prop:=λx lo hi H Q=>∃a xs,x=.ref a/\nj K H a xs/\∀p,H p=aq->Q (.ref p) (upd H p (.lst (zW xs lo hi)))
theorem Kd:Jn X (V3 X.K):=by intro pins s σ H x v n p lo hi sl Q I e f pl g h;obtain⟨a,xs,rfl,i,q⟩:=h;cases e;obtain⟨g9,r,c,j⟩:=I.list i;have m:=r.length;refine⟨"list",_,abb.lookup,c.isList.typeIs,?_⟩;refine wpAny_getItem_list_slice c.isList f pl g .none (by simp) ?_ (by rw[aV]<;>omega);rw[wM,<-m];refine⟨.ref s.heap.objs.size,_,I.laid (t':=s.toks) (o:=.lst (zW xs lo hi)) (λb ob q=>ar _ q) (aY _) ?_,rfl,q _ (I.iE.fresh (aY _))⟩;exact⟨aQ (uc xs lo hi) j,_,0,(r.drop (HT.kK xs.length 0 lo)).take (HT.kK xs.length xs.length hi- HT.kK xs.length 0 lo),bg _ rfl⟩
noncomputable def qt:V->Bool
 |.non=>aj
 |.bl _=>aj
 |.int _=>aj
 |.str _=>aj
 |_=>ao
noncomputable def Ke:V->V->Bool
 |.non,.non=>aj
 |.bl a,.bl b=>a==b
 |.bl a,.int b=>(if a then 1 else 0)==b
 |.int a,.bl b=>a==(if b then 1 else 0)
 |.int a,.int b=>a==b
 |.str a,.str b=>a==b
 |_,_=>ao
theorem OC{A:aH}{s:ah}{y x:V}{u v:af}(f:RelV y u)(c:RelV x v)(h:qt y=aj)(g:qt x=aj):b7 A s u v (Ke y x):=by
 cases y with
 |non=>
  cases f;cases x with
  |non=>cases c;exact b7.same _
  |bl b=>cases c;exact b7.none_bool b
  |int b=>obtain⟨t,rfl⟩:=c;exact b7.none_int b t
  |str b=>obtain⟨t,rfl⟩:=c;exact b7.none_str b t
  |_=>exact absurd (show ao=aj from g) am
 |bl a=>
  cases f;cases x with
  |non=>cases c;exact b7.bool_none a
  |bl b=>cases c;exact b7.bool_bool a b
  |int b=>obtain⟨t,rfl⟩:=c;exact b7.bool_int a b t
  |str b=>obtain⟨t,rfl⟩:=c;exact b7.bool_str a b t
  |_=>exact absurd (show ao=aj from g) am
 |int a=>
  obtain⟨e,rfl⟩:=f;cases x with
  |non=>cases c;exact b7.int_none a e
  |bl b=>cases c;exact b7.int_bool a e b
  |int b=>obtain⟨t,rfl⟩:=c;exact b7.int_int a e b t
  |str b=>obtain⟨t,rfl⟩:=c;exact b7.int_str a e b t
  |_=>exact absurd (show ao=aj from g) am
 |str a=>
  obtain⟨e,rfl⟩:=f;cases x with
  |non=>cases c;exact b7.str_none a e
  |bl b=>cases c;exact b7.str_bool a e b
  |int b=>obtain⟨t,rfl⟩:=c;exact b7.str_int a e b t
  |str b=>obtain⟨t,rfl⟩:=c;exact b7.str_str a e b t
  |_=>exact absurd (show ao=aj from g) am
 |_=>exact absurd (show ao=aj from h) am
noncomputable def BX(x:V)(u:af):Bool:=match u with
 |.none=>Ke .non x
 |.bool b=>Ke (.bl b) x
 |.int i _=>Ke (.int i) x
 |.str z _=>Ke (.str z) x
 |_=>ao
theorem Gr{x y:V}{u:af}(r:RelV y u)(f:qt y=aj):BX x u=Ke y x:=by
 cases y with
 |non=>cases r;rfl
 |bl b=>cases r;rfl
 |int i=>obtain⟨t,rfl⟩:=r;rfl
 |str z=>obtain⟨t,rfl⟩:=r;rfl
 |_=>exact absurd (show ao=aj from f) am
theorem rE{x:V}:∀{xs:List V} {us:List af},Vals xs us->xs.all qt=aj->us.any (BX x)=xs.any λy=>Ke y x
 |_,_,.nil,_=>rfl
 |y::xs,u::us,.cons r t,f=>by rw[dm,aD] at f;rw[eo,eo,Gr r f.1,rE t f.2]
theorem pk{A:aH}{s:ah}{x:V}{v:af}(e:RelV x v)(g:qt x=aj):∀{xs:List V} {us:List af},Vals xs us->xs.all qt=aj->∀u∈us,b7 A s u v (BX x u)
 |_,_,.nil,_=>λu c=>by cases c
 |y::xs,u::us,.cons r t,f=>λh c=>by
  rw[dm,aD] at f;rcases aE.mp c with rfl|c
  ·rw[Gr r f.1];exact OC r e f.1 g
  ·exact pk e g t f.2 h c
noncomputable def UL(x:V)(xs:List V):Bool:=xs.any λy=>Ke y x
def YB (K:W.Frag)(neg:Bool):R2:=λx y H Q=>∃p xs,y=.ref p/\(nj K H p xs\/t9 K H p xs)/\qt x=aj/\xs.all qt=aj/\Q (.bl (if neg then !UL x xs else UL x xs)) H
theorem xn:oP X (compareOp .In) (YB X.K ao):=by
 intro pins s σ H x y v u Q I e g h;obtain⟨p,xs,rfl,c,f,fs,q⟩:=h;cases g;rcases c with c|c
 ·obtain⟨g9,r,pl,i⟩:=I.list c;refine SeqAt.in_listAt (BX x) pl.isList (λw hw=>pk e f r fs w (by simpa using hw)) ⟨.bl _,H,I,rfl,?_⟩;rw[show g9.toArray.any (BX x)=g9.any (BX x) by simp,rE r fs];exact q
 ·obtain⟨g9,r,pl,i⟩:=I.tuple c;refine SeqAt.in_tupleAt (BX x) pl (λw hw=>pk e f r fs w (by simpa using hw)) ⟨.bl _,H,I,rfl,?_⟩;rw[show g9.toArray.any (BX x)=g9.any (BX x) by simp,rE r fs];exact q
theorem rF:oP X (compareOp .NotIn) (YB X.K aj):=by
 intro pins s σ H x y v u Q I e g h;obtain⟨p,xs,rfl,c,f,fs,q⟩:=h;cases g;rcases c with c|c
 ·obtain⟨g9,r,pl,i⟩:=I.list c;refine SeqAt.notIn_listAt (BX x) pl.isList (λw hw=>pk e f r fs w (by simpa using hw)) ⟨.bl _,H,I,rfl,?_⟩;rw[show g9.toArray.any (BX x)=g9.any (BX x) by simp,rE r fs];exact q
 ·obtain⟨g9,r,pl,i⟩:=I.tuple c;refine SeqAt.notIn_tupleAt (BX x) pl (λw hw=>pk e f r fs w (by simpa using hw)) ⟨.bl _,H,I,rfl,?_⟩;rw[show g9.toArray.any (BX x)=g9.any (BX x) by simp,rE r fs];exact q
theorem nM:nk X (.builtin "len") (λxs H Q=>∃p c,xs=[.ref p]/\(nj X.K H p c\/t9 X.K H p c)/\Q (.int c.length) H):=by
 intro pins s σ H xs us Q I r h;obtain⟨p,c,rfl,e,q⟩:=h;obtain⟨u,rfl,i⟩:=vals1 r;cases i;have hn:=sP;rcases e with e|e
 ·obtain⟨g9,f,pl,j⟩:=I.list e;have g:=f.length;exact Calls.call_len_list pl.isList (by simp only [aV]<;>omega) ⟨.int c.length,H,I.tok _,⟨s.toks+1,by rw[aV,g]⟩,q⟩
 ·obtain⟨g9,f,pl,j⟩:=I.tuple e;have g:=f.length;exact len_tuple pl (by simp only [aV]<;>omega) ⟨.int c.length,H,I.tok _,⟨s.toks+1,by rw[aV,g]⟩,q⟩
theorem yh:nk X (.builtin "len") (λxs H Q=>∃z,xs=[.str z]/\z.length<=ax/\Q (.int z.length) H):=by intro pins s σ H xs us Q I r h;obtain⟨z,rfl,c,q⟩:=h;obtain⟨u,rfl,t,rfl⟩:=vals1 r;have hn:=sP;exact len_str (by omega) ⟨.int z.length,H,I.tok _,⟨_,rfl⟩,q⟩
theorem qu:nk X (.type "tuple") (λxs H Q=>∃p c,xs=[.ref p]/\((nj X.K H p c/\∀l,H l=aq->Q (.ref l) (upd H l (.tup c)))\/(t9 X.K H p c/\Q (.ref p) H))):=by
 intro pins s σ H xs us Q I r h;obtain⟨p,c,rfl,h⟩:=h;obtain⟨u,rfl,n⟩:=vals1 r;cases n;rcases h with⟨g,q⟩|⟨g,q⟩
 ·obtain⟨g9,i,pl,j⟩:=I.list g;have z:=i.length;refine call_tuple_list pl.isList (λf kp=>?_) (by simp only [aV]<;>omega);have m:Inv X pins σ H {s with heap:=f}:=I.kept (t':=s.toks) kp;have y:Inv X pins σ (upd H f.objs.size (.tup c)) {s with heap:=f.push {cls:=.type "tuple",data:=.seq g9.toArray}}:=
   m.laid (t':=s.toks) (λb o e=>ar _ e) (aY _) (show iD X.prog X.w _ _ _ (.tup c) from⟨j,g9,i,aaA.new _ _⟩)
  exact⟨.ref f.objs.size,_,y,rfl,q _ (m.iE.fresh (aY _))⟩
 ·obtain⟨g9,i,pl,j⟩:=I.tuple g;exact call_tuple_same pl ⟨.ref p,H,I,rfl,q⟩
def V4 (K:W.Frag)(T:String)(x:V)(H:Hp):Prop:=match x with
 |.str _=>T="str"
 |.int _=>T="int"
 |.ref p=>(T="list"/\∃xs,nj K H p xs)\/(T="tuple"/\∃o,K.lookup p=ae o/\o.cls=.type "tuple"/\o.dict=aq)\/
   (T="dict"/\((∃c,Rd H p (.dK c))\/(∃c,H p=ae (.dT c))\/∃e c,H p=ae (.dE e c)))\/(T="set"/\∃S n,H p=ae (.set S n))
 |_=>False
theorem OE{pins:List (ai×bR)}{σ:St}{H:Hp}{s:ah}{T:String}{x:V}{v:af}(I:Inv X pins σ H s)(r:RelV x v)(ty:V4 X.K T x H):
  s.TypeIs v T/\∀a,v=.ref a->∃ob,s.heap.get? a=ae ob/\ob.dict=aq:=by
 cases x with
 |str z=>
  obtain⟨t,rfl⟩:=r;cases(show T="str" from ty);exact⟨fk s z t,λ_ e=>nomatch e⟩
 |int i=>
  obtain⟨t,rfl⟩:=r;cases(show T="int" from ty);exact⟨aa6 s i t,λ_ e=>nomatch e⟩
 |ref p=>
  cases r;rcases ty with⟨rfl,xs,h⟩|⟨rfl,o,f,hc,hd⟩|⟨rfl,f⟩|⟨rfl,S,n,f⟩
  ·obtain⟨g9,_,pl,_⟩:=I.list h;refine⟨pl.isList.typeIs,λa e=>?_⟩;cases e;obtain⟨o,n,e,c,hd,_⟩:=pl;exact⟨o,e,hd⟩
  ·refine⟨⟨o,I.ni p o f,hc⟩,λa e=>?_⟩;cases e;exact⟨o,I.ni _ o f,hd⟩
  ·have z:∃o,s.heap.get? p=ae o/\o.ExactDict:=by
    rcases f with⟨g,f⟩|⟨g,f⟩|⟨j,g,f⟩
    ·obtain⟨_,_,_,_,o,_,_,e,ex,_⟩:=f.ok I.iE;exact⟨o,e,ex⟩
    ·obtain⟨_,_,_,_,o,_,_,e,ex,_⟩:=I.iE p _ f;exact⟨o,e,ex⟩
    ·obtain⟨_,_,_,_,o,_,e,ex,_⟩:=I.iE p _ f;exact⟨o,e,ex⟩
   obtain⟨o,e,ex⟩:=z;refine⟨⟨o,e,ex.1⟩,λa e2=>?_⟩;cases e2;exact⟨o,e,ex.2.1⟩
  ·obtain⟨o,_,_,_,e,ex,_⟩:=I.iE p _ f;refine⟨⟨o,e,ex.1⟩,λa e2=>?_⟩;cases e2;exact⟨o,e,ex.2.1⟩
 |_=>exact b8 ty
def ZV (K:W.Frag)(T:String)(r:V->List V->Hp->VK->Prop)(to:TE)(t:TA):TE:=λσ H Q=>to σ H λx H1=>V4 K T x H1/\t σ H1 λxs c=>r x xs c Q
variable {o e:aS} {es:List aS} {to:TE} {t:TA} {name:av} {apos iz:cC} {T id:String} {r:V->List V->Hp->VK->Prop}
theorem Se(pa:PlainAttrs T)(slot:Slot T name id)(i:abv (.builtin id)=pure (.type "method_descriptor"))(hm:MI X id r)(j:PE X o to)(ha:PA X (e::es) t)
(m:cQ o name X.env (eval o X.env)=eval o X.env:=by rfl)
(n:((cb iz (aJ (e::es) X.env)).all (λx=>!x.1)&&(f8 iz (eS [] X.env)).all (λx=>x.1.isSome)
   &&decide ((e::es).length+([]:List ff).length+(if([]:List ff).isEmpty then 0 else 1)<30))=aj:=by rfl)
(p:(apos.endLine==iz.line)=aj:=by rfl)(q:aJ (e::es) X.env=(ao,eval e X.env)::aJ es X.env:=by rfl)(u:(cb iz (aJ es X.env)).any (·.1)=ao:=by rfl):
  PE X (.Call (.Attribute o name apos) (e::es) [] iz) (ZV X.K T r to t):=by intro pins s σ H Q I h;refine aaP m n p rfl (ji (j pins s σ H _ I h) λv s1 w=>?_);obtain⟨x,H1,c,f,ty,y⟩:=w;obtain⟨z,A⟩:=OE c f ty;refine⟨T,id,pa,slot,i,z,A,?_⟩;have g:=ha iz pins s1 σ H1 _ c y;rw[q] at g ⊢;refine dZ (by show(ao||(cb iz (aJ es X.env)).any (·.1))=ao;rw[u]<;>rfl) (eB ?_);exact ji g λus s2 ⟨B,C,E,G,J⟩=>hm pins s2 σ C x B v us Q E f G J
end
end L2
namespace L2
open PySem PySem.Spec PyProof.Rows
def YC (X:Cx)(id:String)(r:V->List V->Hp->VK->Prop):Prop:=
 ∀(pins:List (ai×bR)) (s:ah) (σ:St) (H:Hp) (x:V) (xs:List V) (v:af) (us:List af) (Q:VK),Inv X pins σ H s->RelV x v->Vals xs us->r x xs H Q->
  wpAny (model X.prog X.w) X.A (call (.builtin id) (v::us)) (EP X pins σ Q) X.xe s
theorem Vals.one:∀{x:V} {us:List af},Vals [x] us->∃u,us=[u]/\RelV x u
 |_,_,.cons r .nil=>⟨_,rfl,r⟩
theorem Vals.two:∀{x y:V} {us:List af},Vals [x,y] us->∃u v,us=[u,v]/\RelV x u/\RelV y v
 |_,_,_,.cons r (.cons q .nil)=>⟨_,_,rfl,r,q⟩
theorem Vals.rep{xs:List V}{us:List af}(h:Vals xs us):∀k:Nat,Vals (ba k xs).flatten (ba k us).flatten
 |0=>.nil
 |k+1=>by rw[cJ,cJ,dz,dz];exact Vals.append h (Vals.rep h k)
theorem foldl_rep(g9:List af):∀(k:Nat) (acc:List af),
  List.foldl (λx1 x2=>x1++x2) acc.toArray (ba k g9.toArray)=(acc++(ba k g9).flatten).toArray
 |0,acc=>by simp
 |k+1,acc=>by
  have e:acc.toArray++g9.toArray=(acc++g9).toArray:=by simp
  have e2:(acc++g9)++(ba k g9).flatten=acc++(ba (k+1) g9).flatten:=by rw[cJ,dz,bA]
  rw[<-e2,<-foldl_rep g9 k (acc++g9),<-e,cJ,List.foldl_cons]
section
variable {X:Cx} {pins:List (ai×bR)} {σ:St} {H:Hp} {s:ah} {l b:ai} {xs ys zs:List V}
theorem Inv.Sf{g9 rq:List af}{n:Nat}{f:Array af->Array af}{a:Nat}(I:Inv X pins σ H s)(c:H l=ae (.lst xs))
(e:s.heap.get? l=ae {cls:=.type "list",data:=.seq g9.toArray n})(g:f g9.toArray=rq.toArray)(h:Vals ys rq)(i:ys.length<=ax):
  Inv X pins σ (upd H l (.lst ys)) {s with heap:=s.heap.update l (bR.mapSeq f),toks:=a}:=by have q:=PySem.IsL.update e f;rw[g] at q;refine I.write (x:=l) (e:=l) (by rw[c];exact trivial) (.inl rfl) (λm u hb j=>(bZ s.heap (bR.mapSeq f) (b4 hb)).trans j) ⟨_,q⟩ ?_;exact⟨i,rq,_,h,q⟩
theorem Inv.Gu{g9:List af}{t':Nat}(I:Inv X pins σ H s)(a:Vals ys g9)(c:ys.length<=ax):
  Inv X pins σ (upd H s.heap.objs.size (.lst ys)) {s with heap:=s.heap.push {cls:=.type "list",data:=.seq g9.toArray},toks:=t'}:=
 I.laid (λ_ _ q=>ar _ q) (aY _) ⟨c,g9,0,a,bg _ rfl⟩
theorem Inv.fresh(I:Inv X pins σ H s):H s.heap.objs.size=aq:=I.iE.fresh (aY _)
theorem Inv.ED(I:Inv X pins σ H s)(a:H l=ae (.lst xs)):xs.length<=ax/\∃(g9:List af) (n:Nat),Vals xs g9/\xs.length=g9.length/\s.heap.get? l=ae {cls:=.type "list",data:=.seq g9.toArray n}:=by obtain⟨z,g9,n,r,e⟩:=I.iE l _ a;exact⟨z,g9,n,r,r.length,e⟩
theorem zX{n:Nat}(h:n<=ax):dF n=ao:=by unfold dF;exact decide_eq_false (by omega)
end
section
variable {X:Cx}
def Kf:V->List V->Hp->VK->Prop:=λx a H Q=>∃l xs y,x=.ref l/\a=[y]/\H l=ae (.lst xs)/\xs.length<ax/\Q .non (upd H l (.lst (xs++[y])))
theorem xo:YC X "list.append" Kf:=by intro pins s σ H x g v us Q I b c h;obtain⟨l,xs,y,rfl,rfl,a,i,q⟩:=h;cases b;obtain⟨u,rfl,f⟩:=c.one;obtain⟨z,g9,n,r,j,e⟩:=I.ED a;refine fq F.slot_list_append ⟨_,e,rfl⟩ F.entry_list_append (F.args_list_append_2 _ _) (PySem.list_append l g9.toArray n u (by rw[aV];omega)) ⟨e,?_⟩;refine⟨.non,_,I.Sf (rq:=g9++[u]) a e (by simp) (r.append (.cons f .nil)) ?_,rfl,q⟩;rw[ay,List.length_singleton];omega
def Kg:V->List V->Hp->VK->Prop:=λx a H Q=>∃l b xs zs,x=.ref l/\a=[.ref b]/\H l=ae (.lst xs)/\H b=ae (.lst zs)/\xs.length+zs.length<=ax/\Q .non (upd H l (.lst (xs++zs)))
theorem EE:YC X "list.extend" Kg:=by
 intro pins s σ H x y v us Q I f g h;obtain⟨l,b,xs,zs,rfl,rfl,c,i,A,q⟩:=h;cases f;obtain⟨u,rfl,j⟩:=g.one;cases j;obtain⟨z,g9,n,r,B,e⟩:=I.ED c;obtain⟨C,a,m,o,E,e2⟩:=I.ED i;have p:g9.toArray.size+a.toArray.size<=ax:=by rw[aV,aV];omega
 have w:¬(!g9.toArray.isEmpty&&dF (g9.toArray.size+a.toArray.size))=aj:=by rw[zX p,cw];exact am
 refine fq F.slot_list_extend ⟨_,e,rfl⟩ F.entry_list_extend (F.args_list_extend_2 _ _)
  (AutoSeq1.list_extend_list_list_0 l g9.toArray n b a.toArray m w (by rw[aV];omega) (by omega)) ⟨e,e2,?_⟩
 refine⟨.non,_,I.Sf (rq:=g9++a) c e (by simp) (r.append o) ?_,rfl,q⟩;rw[ay];omega
def V6:R2:=λx y H Q=>∃l b xs zs,x=.ref l/\y=.ref b/\H l=ae (.lst xs)/\H b=ae (.lst zs)/\xs.length+zs.length<=ax/\∀p,H p=aq->Q (.ref p) (upd H p (.lst (xs++zs)))
theorem OG:oP X (binaryOp .Add) V6:=by
 intro pins s σ H x y v u Q I c f h;obtain⟨l,b,xs,zs,rfl,rfl,g,i,o,q⟩:=h;cases c;cases f;obtain⟨z,g9,n,r,p,e⟩:=I.ED g;obtain⟨w,a,A,j,B,e2⟩:=I.ED i;refine PySem.P.add_list e e2 ?_ (by rw[aV,aV];omega);have m:g9.toArray++a.toArray=(g9++a).toArray:=by simp
 rw[m];exact⟨.ref _,_,I.Gu (t':=s.toks) (r.append j) (by rw[ay];omega),rfl,q _ I.fresh⟩
def V7:R2:=λx y H Q=>∃l k xs,x=.ref l/\y=.int k/\H l=ae (.lst xs)/\-(2^63)<=k/\k<2^63/\xs.length*k.toNat<=ax/\
 ∀p,H p=aq->Q (.ref p) (upd H p (.lst (ba k.toNat xs).flatten))
theorem Kh{α:Type}(xs:List α)(k:Nat):(ba k xs).flatten.length=k*xs.length:=by
 induction k with
 |zero=>simp
 |succ k a=>rw[cJ,dz,ay,a,Nat.succ_mul,Nat.add_comm]
theorem OH:oP X (binaryOp .Mult) V7:=by
 intro pins s σ H x y v u Q I c f h;obtain⟨l,k,xs,rfl,rfl,g,i,j,b,q⟩:=h;cases c;obtain⟨t,rfl⟩:=f;obtain⟨z,g9,n,r,o,e⟩:=I.ED g;have p:g9.toArray.size*k.toNat<=ax:=by rw[aV,<-o];exact b
 have w:¬g9.toArray.size*k.toNat>(2^63- 1)/8:=by
  have:(ax:Nat)<=(2^63- 1)/8:=by decide
  omega
 have A:¬(!bd.List.listFitsIndex k)=aj:=by rw[fitsIndex_both i j];exact am
 have B:¬dF (g9.toArray.size*k.toNat)=aj:=by rw[zX p];exact am
 have C:List.foldl (λx1 x2=>x1++x2) #[] (ba (if g9.toArray.isEmpty=aj then 0 else k.toNat) g9.toArray)=(ba k.toNat g9).flatten.toArray:=by
  have E:∀m:Nat,List.foldl (λx1 x2=>x1++x2) #[] (ba m g9.toArray)=(ba m g9).flatten.toArray:=λm=>by have:=foldl_rep g9 m [];rw[bv] at this;exact this
  rw[E];cases g9 with
  |nil=>simp
  |cons a J=>rw[if_neg (by simp)]
 refine wpAny_binaryOp_repeat_ref (T:="list") (U:="int") (by decide) ⟨_,e,rfl⟩ (λG=>aa6 G k t) noFill_list_mul F.fills_int_mul F.slot_int_rmul repeat_list F.slot_int_index.lookup
  (fq F.slot_int_rmul (aa6 s k t) F.entry_int_rmul (F.args_int_rmul_2 _ _) (int___rmul___int_list k t l g9.toArray n)
   ⟨e,rfl,⟨_,e,rfl⟩,fq F.slot_list_mul ⟨_,e,rfl⟩ F.entry_list_mul (F.args_list_mul_2 _ _) (AutoListH.list___mul___list_int_3 l g9.toArray n k t A w B) ⟨e,?_⟩⟩)
 rw[C];exact⟨.ref _,_,I.Gu (t':=s.toks) (r.rep k.toNat) (by rw[Kh,Nat.mul_comm];exact b),rfl,q _ I.fresh⟩
end
section
variable {prog:aw} {w:aN} {A:aH} {E:af->ah->Prop} {s:ah}
end
section
variable {X:Cx}
end
end L2
namespace YD
open PySem PySem.W PySem.Calls PyProof.Rows
theorem uu{P:abw}{h:az}:∀(ns:List Int) (c:List af),WellAll P h c (ns.map WData.int)->aaQ c ns:=by
 intro ns;induction ns with
 |nil=>
  intro c w;rw[c6] at w;cases w;exact .nil
 |cons n ns e=>
  intro c w;rw[aU] at w;cases w with
  |cons a b=>
   cases a;exact .cons _ _ (e _ b)
theorem EF{l:OpenLaw}{n:Nat}(hn:l.most=ae n){P:abw}{h:az}{args:List WData}{vals:List af}
(e:l.row.toRowW.claim.pre args=aj)(g:WellAll P h vals args):
  ∃a f ns,vals=[aR a]/\args=[WData.list (ns.map WData.int)]/\h.get? a=ae {cls:=.type "list",data:=.seq f.toArray}/\aaQ f ns/\ns.length<=n:=by
 have i:WShape.hasAll [] args [.list .int]=aj:=(pre_splitW e).1;have hc:l.pre.holds [] {args:=args}=aj:=(pre_splitW e).2;obtain⟨d,r,rfl,j,m⟩:=hasAllW_cons i;obtain rfl:=hasAllW_nil m;obtain⟨xs,rfl,o⟩:=hasW_list j;obtain⟨ns,rfl⟩:=items_int o;have p:ns.length<=n:=by
  unfold OpenLaw.pre at hc;have b:(WTm.not (.lt (.lit (.int (n:Int))) (.len (.arg 0)))).holds [] {args:=[.list (ns.map .int)]}=aj:=by have b:=(holds_andW hc).1;rw[hn] at b;exact b
  have c:=condW_of b (w_not (w_lt w_lit (w_len_list (w_arg rfl))));rw[ap] at c;refine Nat.le_of_not_lt λq=>?_;have u:(n:Int)<((ns.length:Nat):Int):=by omega
  first
   | (rw[decide_eq_true u] at c;exact absurd c (by decide))
   | (simp at c;omega)
 cases g with
 |cons v w=>
  cases w;cases v with
  |list y z=>exact⟨_,_,ns,rfl,rfl,y,uu ns _ z,p⟩
theorem EG(l:OpenLaw)(args:List WData):l.row.toRowW.claim.post args (.bool aj) args=aj:=
 postW_of (r:=l.row.toRowW) (X:=(aj==aj))
  (show WShape.has [] (.bool aj) .bool=aj by first|rfl|decide|simp[WShape.has,WShape.arms,WShape.armsAll])
  (show(WTm.eq .res (.lit (.bool aj))).value [] {args:=args,res:=ae (.bool aj),after:=args}=ae (.bool (aj==aj)) from w_eq_bool (w_res rfl) w_lit) rfl
theorem zY{l:OpenLaw}{n:Nat}{q:aw}{loose:List av}{i:(av->Option af)->az->Prop}{j:aN->az->Prop}{d:DefRec}
(hn:l.most=ae n)(p:d.params.defaults=[])
(call:∀(w:aN) (ib b:ah) (mg h:av->Option af) (e:ai) (o:bR) (pm cd doc:af) (a:ai) (c:List af) (ns:List Int),
   Ground q loose [] i w ib mg h b.heap->j w b.heap->
   b.heap.get? e=ae o->o.data=.func (docDef d.name d.params d.body d.scope pm cd doc)->b.heap.CodeRec cd d.name->mg d.name=ae (.ref e)->
   b.heap.get? a=ae {cls:=.type "list",data:=.seq c.toArray}->aaQ c ns->ns.length<=n->b.gens=#[]->
   codeAny (model l.prog w) aas (.call (.ref e) ⟨[.ref a],[]⟩) (λr g=>r=.ok (.ret (.bool aj))/\OldK b.heap g.heap/\g.os=b.os/\eN g.gens) b):
  WalkO q loose i j l.row.toRowW d [] (λf c=>PySem.call f c):=by intro w ib b mg h G Y e o pm cd doc u kV v hd y m z A args vals as B Q C E T;obtain rfl:u=.none:=Dflts.none m p;obtain rfl:kV=.none:=Dflts.noKw m;obtain⟨a,c,ns,rfl,rfl,H,I,J⟩:=EF hn B E;refine enter_call (dR (call w ib b mg h e o pm cd doc a c ns G Y v (fd_plain hd) y z H I J A) λr g L=>?_);obtain⟨rfl,M,N,O⟩:=L;exact⟨.inl ⟨.bool aj,.bool aj,[],rfl,λ_=>rfl,.bool aj,EG l _,λ_=>⟨List.Pairwise.nil,λ_ hm=>(nomatch hm)⟩⟩,M,N,O⟩
section
variable {prog:aw} {w:aN} {A:aH} {E:af->ah->Prop} {s:ah} {K:Frag}
end
end YD
namespace L2
open PySem PySem.Spec PyProof.Rows
theorem xp:∀{a:List af} {ns:List Int},aaQ a ns->Vals (ns.map V.int) a
 |_,_,.nil=>.nil
 |_,_,.cons n t h=>.cons ⟨t,rfl⟩ (xp h)
def OJ (H:Hp):Prop:=∀b,H b=aq\/∃o xs,H b=ae (.oX o (.lst xs))
theorem Gx{P:aw}{w:aN}{K:W.Frag}{mg y:av->Option af}{C:xZ}{k:Nat}{A a:ai}{fd:bN}{x:av}{sp:Sp}{c:ah}{g:List af}{ns:List Int}
(E:K.In c.heap)(G:c.heap.Ns bc mg)(hb:c.heap.Ns aa4 y)(T:∀x:av,x≠"__name__"->y x=bV x)(U:c.heap.NoLimit)(Y:c.gens=#[])
(ha:c.heap.get? a=ae {cls:=.type "list",data:=.seq g.toArray})(hi:aaQ g ns)(I:ns.length<=ax)(hr:js k aas)
(F:∀base:az,K.In base->base.Ns bc mg->kb P w K mg base C k A fd [x] sp)(Sj:∀(s:ah) (u:af),fV s fd ⟨[u],[]⟩ [(x,u)])
(Jm:∀H:Hp,OJ H->nj K H a (ns.map V.int)->sp [.ref a] H (λv _=>v=.bl aj) λ_ _ _=>False)
(Wc:∀H e f,C [] H c (λ_ _ _=>False) e f->False):
  codeAny (model P w) aas (.call (.ref A) ⟨[.ref a],[]⟩) (λr f=>r=.ok (.ret (.bool aj))/\OldK c.heap f.heap/\f.os=c.os/\eN f.gens) c:=by
 have J:=xp hi;have Wd:=hi.length;have L:∀H:Hp,OJ H->nj K H a (ns.map V.int)->oY P w H c.heap->(∀b,H b≠aq->b=a)->(H a≠aq->K.lookup a=aq)->
   codeAny (model P w) aas (.call (.ref A) ⟨[.ref a],[]⟩) (λr f=>r=.ok (.ret (.bool aj))/\OldK c.heap f.heap/\f.os=c.os/\eN f.gens) c:=by
  intro H M hS iE N hK;have O:∀{b:ai} {o:bR},c.heap.get? b=ae o->H b=aq->(xT c.heap H).get? b=ae o:=λe n=>FU e n;have R3:∀{b:ai} {o:bR} {es:Array abj} {i:Nat},c.heap.get? b=ae o->o.data=.dict es i->H b=aq:=λ{b o es i} e d=>by
   cases q:H b with
   |none=>rfl
   |some u=>
    have e':b=a:=N b (by rw[q];simp);subst e';rw[ha] at e;cases e;have d':Data.seq g.toArray _=Data.dict es i:=d;cases d'
  have p:∀{b:ai} {m:av->Option af},c.heap.Ns b m->(xT c.heap H).Ns b m:=λ{b m} ⟨o,es,i,e,d,r⟩=>⟨o,es,i,O e (R3 e d),d,r⟩;have Q:K.In (xT c.heap H):=λb o e=>O (E b o e) (by
   cases q:H b with
   |none=>rfl
   |some u=>
    have e':b=a:=N b (by rw[q];simp);subst e';rw[hK (by rw[q];simp)] at e;cases e)
  have hM:Mod K mg (xT c.heap H):=⟨Q,p G,⟨y,p hb,T⟩,let⟨mc,h1,h2⟩:=U;⟨mc,p h1,h2⟩⟩;have e0:zT P w K mg (xT c.heap H) aas [] c H:=⟨rfl,hM,λb o e=>Jy e,Nat.le_of_eq (Eo _ _),trivial,λb hb=>absurd (show b∈([]:List ai) from hb) (by simp),iE,.of_eq Y⟩;refine dR ((F _ Q (p G)).run aas [] c H ⟨[.ref a],[]⟩ [.ref a] [.ref a] _ _ hr e0 (Sj c (.ref a)) (.cons rfl .nil) (Jm H M hS)) λr f h=>?_;cases r with
  |error e=>exact(Wc H e f h).elim
  |ok fl=>
   cases fl with
   |next=>exact b8 h
   |brk=>exact b8 h
   |cont=>exact b8 h
   |ret u=>
    obtain⟨v,H',os,bare,un,We,r',q⟩:=h;have q':v=.bl aj:=q;subst q';obtain rfl:u=af.bool aj:=r';refine⟨rfl,OldK.of_keep λb o e=>?_,os,bare⟩;cases q:H b with
    |none=>exact un.keep b o e q (by intro z;exact absurd (show b∈([]:List ai) from z) (by simp)) (by simp)
    |some u=>
     rcases M b with z|⟨ob,xs,z⟩
     ·rw[q] at z;cases z
     ·have z2:=un.pd b ob _ z;obtain⟨e1,_⟩:=iE b _ z;obtain⟨e2,_⟩:=We b _ z2;rw[e] at e1;cases e1;exact e2
 cases B:K.lookup a with
 |some o=>
  have e:=E a o B;rw[ha] at e;cases e;refine L (λ_=>aq) (λ_=>.inl rfl) (.inr ⟨_,g.toArray,_,B,rfl,rfl,rfl,by rw[aV,Wd];exact I,by simpa using J⟩) (λb u z=>by have j:(aq:Option HO)=ae u:=z;cases j) (λb z=>absurd rfl z) λz=>absurd rfl z
 |none=>
  refine L (λb=>if b=a then ae (.oX {cls:=.type "list",data:=.seq g.toArray} (.lst (ns.map V.int))) else aq) (λb=>?_) (.inl (.inr ⟨{cls:=.type "list",data:=.seq g.toArray},if_pos rfl⟩)) (λb u z=>?_) (λb z=>?_) λ_=>B
  ·by_cases hb:b=a
   ·exact .inr ⟨_,_,if_pos hb⟩
   ·exact .inl (if_neg hb)
  ·by_cases hb:b=a
   ·have j:=(if_pos hb).symm.trans z;cases j;subst hb;exact⟨ha,by rw[ap];exact I,g,_,J,ha⟩
   ·have j:=(if_neg hb).symm.trans z;cases j
  ·by_cases hb:b=a
   ·exact hb
   ·exact absurd (if_neg hb) z
end L2
namespace L2
open PySem PySem.Spec PyProof.Rows
abbrev KOf{K:W.Frag}{h:az}(_:K.In h):W.Frag:=K
theorem Kj{l:W.OpenLaw}{n k:Nat}{q:aw}{loose:List av}{y:(av->Option af)->az->Prop}{j:aN->az->Prop}{d:DefRec}{K:abw->W.Frag}{CX:aN->xZ}{sp:aN->Sp}{x:av}
(hn:l.most=ae n)(z:n<=ax)(A:d.params.defaults=[])(B:js k aas)
(C:∀(w:aN) (h:az),j w h->(K w.params).In h)
(F:∀(w:aN) (mg:av->Option af) (c:ai) (h:az),(K w.params).In h->h.Ns bc mg->mg d.name=ae (.ref c)->
   ∃fd:bN,(∀(s:ah) (u:af),fV s fd ⟨[u],[]⟩ [(x,u)])/\
    ∀base:az,(K w.params).In base->base.Ns bc mg->kb l.prog w (K w.params) mg base (CX w) k c fd [x] (sp w))
(E:∀(w:aN) (H:Hp) (a:ai) (ns:List Int),ns.length<=n->OJ H->nj (K w.params) H a (ns.map V.int)->sp w [.ref a] H (λv _=>v=.bl aj) λ_ _ _=>False)
(I:∀(w:aN) (H:Hp) (s:ah) (e:af) (i:ah),CX w [] H s (λ_ _ _=>False) e i->False):
  W.WalkO q loose y j l.row.toRowW d [] (λf m=>PySem.call f m):=by refine YD.zY hn A λw ib J mg mb c o pm cd doc a m ns G Y ho hd t8 L M N p O=>?_;have r:=C w _ Y;obtain⟨fd,hb,Q⟩:=F w mg c _ r G.T.g L;exact Gx r G.T.g G.T.b G.T.builtins G.T.nolimit O M N (aQ p z) B Q hb (λH U hS=>E w H a ns p U hS) λH e i=>I w H J e i
end L2
namespace L2
open PySem PySem.Spec PyProof.Rows
noncomputable def uH(s:b3)(j:Nat):b3:=match s with
 |.ClassDef _ _ _ body _ _ _ _ _ _ _=>body.getD j (.Pass ⟨0,0,0,0⟩)
 |_=>.Pass ⟨0,0,0,0⟩
noncomputable def jz(s:b3):JZ:=match s with
 |.FunctionDef _ a _ _ _ _ _ _ _ _=>a
 |_=>{posonlyargs:=[],args:=[],vararg:=aq,kwonlyargs:=[],kw_defaults:=[],kwarg:=aq,defaults:=[]}
noncomputable def ix(s:b3):List b3:=match s with
 |.FunctionDef _ _ b _ _ _ _ _ _ _=>b
 |_=>[]
noncomputable def hG(s:b3):b6:=match s with
 |.FunctionDef _ _ _ _ _ _ sc _ _ _=>sc
 |_=>{kind:=.function,names:=[],isGenerator:=ao,isCoroutine:=ao}
abbrev ud:xZ:=λ_ _ _ _ _ _=>False
abbrev E0:XK:=λ_ _ _=>False
theorem Gy{X:Cx}:ya ud X E0:=λ_ _ _ _ _ _ _ h=>h.elim
structure Dk(K:W.Frag)(x qual:av)(st:b3)(f:ai)(fd:bN):Prop where
 ex:∃(oc:af) (od:Option ai) (kV doc pm:af) (an:Option ai) (iC ct:af) (yb:Array (Option af)),
  fd=W.fnOf x qual (jz st) (ix st) (hG st) .none kV doc pm an iC ct/\K.lookup f=ae ⟨oc,od,.func fd,yb⟩/\W.codeIn K iC qual=aj
 kp:W.keepIn K (.ref f)=aj
section
variable {P:aw} {w:aN} {K:W.Frag} {mg:av->Option af} {base:az}
theorem Dk.ok{x qual:av}{st:b3}{f:ai}{fd:bN}{N ps:List av}{k:Nat}{sp:Sp}(F:Dk K x qual st f fd)(S:jQ N ps (hG st))(len:∀a H Q E,sp a H Q E->a.length=ps.length)
(b:∀(iC:af) (A:aH) (outer:List d4) (s:ah) (H:Hp) (a:List V) (Q:VK) (E:XK),js k (A.deeper (dO qual (hG st) s.heap.objs.size f iC))->sp a H Q E->
   ∃t,rn (qj ud P w K mg base N qual (hG st) f iC A outer s H E).Er (ix st) t/\t {nx:=λ_ c=>Q .non c,rt:=Q} (start N a) H):kb P w K mg base ud (k+1) f fd ps sp:=by obtain⟨oc,od,kV,doc,pm,an,iC,ct,yb,rfl,lk,e⟩:=F.ex;refine ME lk e S len λA outer s H a Q E g i=>?_;obtain⟨t,h,q⟩:=b iC A outer s H a Q E g i;exact⟨t,h.Er,q⟩
theorem Dk.binds{x qual:av}{st:b3}{f:ai}{fd:bN}{ps:List av}(F:Dk K x qual st f fd)
(h:∀(kV doc pm:af) (an:Option ai) (iC ct:af) (us:List af),us.length=ps.length->dY (W.fnOf x qual (jz st) (ix st) (hG st) .none kV doc pm an iC ct) ⟨us,[]⟩=pure (ps.zip us)):Binds K fd ps []:=by obtain⟨oc,od,kV,doc,pm,an,iC,ct,yb,rfl,lk,a⟩:=F.ex;exact .all (h kV doc pm an iC ct)
theorem Gz{x qual:av}{st:b3}{f:ai}{oc:af}{od an:Option ai}{yb:Array (Option af)}{kV doc pm iC ct:af}(l:K.lookup f=ae ⟨oc,od,.func (W.fnOf x qual (jz st) (ix st) (hG st) .none kV doc pm an iC ct),yb⟩)
(c:W.codeIn K iC qual=aj)(k:W.keepIn K (.ref f)=aj):Dk K x qual st f (W.fnOf x qual (jz st) (ix st) (hG st) .none kV doc pm an iC ct):=⟨⟨oc,od,kV,doc,pm,an,iC,ct,yb,rfl,l,c⟩,k⟩
end
theorem jw{A:aH}{k:Nat}(a:js k A):A.units+1<eQ:=c8 (Nat.add_le_add_left (by decide:1<=64) _) a.units
section
variable {X:Cx}
end
def jd (H a:Hp):Prop:=∀b o,H b=ae o->a b=ae o
theorem jd.refl(H:Hp):jd H H:=λ_ _ h=>h
theorem jd.trans{H H1 e:Hp}(a:jd H H1)(b:jd H1 e):jd H e:=λc o h=>b c o (a c o h)
theorem jd.free{H a:Hp}(e:jd H a){l:ai}(h:a l=Option.none):H l=Option.none:=by
 cases q:H l with
 |none=>rfl
 |some o=>
  rw[e l o q] at h;cases h
section
variable {κ:Type} [DecidableEq κ]
end
end L2
set_option maxHeartbeats 4000000
namespace L2
open PySem PySem.Spec PyProof.Rows
noncomputable def uv(env:d4):List (av×cq)->List (av×ai)->List (av×ai)
 |[],acc=>acc
 | (n,k)::r,acc=>uv env r (if(k==c5)=aj then(n,(env.cells.lookup n).getD 0)::acc else acc)
theorem wN{scope:b6}{env:d4}(h:∀x∈scope.names,x.2=.free->∃c,env.cells.lookup x.1=ae c):closureFor scope env=pure (uv env scope.names []):=by
 unfold closureFor;generalize ([]:List (av×ai))=acc;generalize scope.names=l at h;induction l generalizing acc with
 |nil=>rfl
 |cons x r b=>
  obtain⟨n,k⟩:=x;have b:=λa=>b a λy g=>h y (au _ g);simp only [List.forIn_cons,uv];by_cases f:k=.free
  ·obtain⟨c,hc⟩:=h (n,k) a8 f;subst f;have e:cellOf env n=pure c:=by unfold cellOf;simp only at hc;rw[hc]
   simp only [beq_self_eq_true,if_true,e,hc,Option.getD_some];exact b ((n,c)::acc)
  ·have:(k==c5)=ao:=by simpa using f
   simp only [this,Bool.false_eq_true,if_false];exact b acc
theorem zZ{env:d4}{y:av}{c:ai}:∀(l:List (av×cq)) (acc:List (av×ai)),(∀z d,acc.lookup z=ae d->env.cells.lookup z=ae d)->(∀x∈l,x.2=.free->∃c,env.cells.lookup x.1=ae c)->
  (uv env l acc).lookup y=ae c->env.cells.lookup y=ae c
 |[],acc,ha,_,e=>ha y c e
 | (n,k)::r,acc,ha,g,e=>by
  unfold uv at e;refine zZ r _ ?_ (λx i=>g x (au _ i)) e;intro z d a;split at a
  ·rename_i b;have b:k=.free:=by simpa using b
   obtain⟨j,f⟩:=g (n,k) a8 b;simp only at f;rw[cV,f] at a;by_cases h:z=n
   ·subst h;simp only [beq_self_eq_true,Option.getD_some] at a;rw[f];exact a
   ·have:(z==n)=ao:=by simpa using h
    rw[this] at a;exact ha z d a
  ·exact ha z d a
theorem vh{env:d4}{y:av}:∀(l:List (av×cq)) (acc:List (av×ai)),((∃c,acc.lookup y=ae c)\/(y,c5)∈l)->∃c,(uv env l acc).lookup y=ae c
 |[],acc,h=>h.elim (λx=>x) λx=>by cases x
 | (n,k)::r,acc,h=>by
  unfold uv;refine vh r _ ?_;rcases h with⟨c,hc⟩|h
  ·left;split
   ·rw[cV];split
    ·exact⟨_,rfl⟩
    ·exact⟨c,hc⟩
   ·exact⟨c,hc⟩
  ·rcases aE.mp h with h|h
   ·cases h;left;simp
   ·exact .inr h
noncomputable def yi(X:Cx)(scope:b6)(N:List av)(C:ai)(ex:List ai)(pins:List (ai×bR))(ib:ah)(il:Hp)(E:af->ah->Prop):Cx where
 prog:=X.prog
 w:=X.w
 K:=X.K
 mg:=X.mg
 base:=X.base
 A:=X.A
 N:=N
 ib:=ib
 il:=il
 env:=compEnvC scope (uv X.env scope.names []) C X.env
 outer:=X.stack
 stack:=X.stack
 ex:=ex
 fn:=λ_=>ao
 calm:=X.calm
 pn:=X.pn++pins
 xe:=E
noncomputable def slots(fr:List (Option Nat))(σ:St):St:=fr.map λo=>match o with
 |none=>aq
 |some j=>(σ[j]?).getD aq
noncomputable def Dl(b N:List av)(fr:List (Option Nat))(scope a:b6):Bool:=
 (N.zip fr).all (λp=>match p.2 with
  |none=>aj
  |some j=>decide (b[j]?=ae p.1)&&decide (scope.names.lookup p.1=ae .free))&&
 scope.names.all (λx=>x.2!=.cell&&(x.2!=.free||(a.names.lookup x.1==ae .cell||a.names.lookup x.1==ae .free))&&(x.2!=.local||decide (scope.names.lookup x.1=ae .local)))&&
 decide (fr.length=N.length)&&(scope.kind==.function)
structure je(X:Cx)(N:List av)(fr:List (Option Nat))(scope:b6):Prop where
 cell:∀y∈scope.names,y.2≠.cell
 free:∀y∈scope.names,y.2=.free->X.env.kindOf y.1=ae .cell\/X.env.kindOf y.1=ae .free
 loc:∀y∈scope.names,y.2=.local->scope.names.lookup y.1=ae .local
 slot:∀(i j:Nat) (x:av),N[i]?=ae x->fr[i]?=ae (ae j)->X.N[j]?=ae x/\scope.names.lookup x=ae .free
 len:fr.length=N.length
 kind:scope.kind=.function
theorem je.of{X:Cx}{N nt:List av}{fr:List (Option Nat)}{scope jt:b6}(h:Dl nt N fr scope jt=aj)(c:X.N=nt:=by rfl)(e:X.env.scope.names=jt.names:=by rfl):je X N fr scope:=by
 unfold Dl at h;simp only [aD,decide_eq_true_eq,bj,beq_iff_eq] at h;obtain⟨⟨⟨f,b⟩,g⟩,m⟩:=h;refine⟨λy a=>?_,λy a n=>?_,λy a o=>?_,λi j x e1 e2=>?_,g,m⟩
 ·have:=(b y a).1.1;simpa using this
 ·have:=(b y a).1.2;unfold d4.kindOf;rw[e];simpa[n] using this
 ·have:=(b y a).2;simpa[o] using this
 ·have hm:(x,ae j)∈N.zip fr:=by refine bu (i:=i) ?_;rw[List.getElem?_zip_eq_some];exact⟨e1,e2⟩
  have:=f _ hm;rw[c];simpa using this
theorem EH{fr:List (Option Nat)}{σ:St}{i:Nat}{v:V}(h:(slots fr σ)[i]?=ae (ae v)):∃j:Nat,fr[i]?=ae (ae j)/\σ[j]?=ae (ae v):=by
 unfold slots at h;rw[bD] at h;cases e:fr[i]? with
 |none=>rw[e] at h;cases h
 |some o=>
  rw[e] at h;cases o with
  |none=>cases h
  |some j=>
   refine⟨j,rfl,?_⟩;have a:(σ[j]?).getD aq=ae v:=by simpa using h
   cases e2:σ[j]? with
   |none=>rw[e2] at a;cases a
   |some q=>rw[e2] at a;simp at a;rw[a]
theorem nN{scope:b6}{env:d4}:∀{l:List (av×cq)} {x:av} {k:cq},
  (l.map λ(n,k)=>if(k==c5&&env.scope.kind==.function&&env.kindOf n==ae .cell) then(n,fJ) else(n,k)).lookup x=ae k->
  ∃k',(x,k')∈l/\l.lookup x=ae k'/\(k=k'\/(k'=.free/\k=.cell))
 |[],x,k,h=>by cases h
 | (n,a)::r,x,k,h=>by
  simp only [aU] at h;by_cases b:x=n
  ·subst b;refine⟨a,a8,by simp,?_⟩;split at h
   ·rename_i hc;simp at h;have:a=.free:=by simp at hc;exact hc.1.1
    exact .inr ⟨this,h.symm⟩
   ·simp at h;exact .inl h.symm
  ·have hb:(x==n)=ao:=by simpa using b
   have c:(r.map λ(n,k)=>if(k==c5&&env.scope.kind==.function&&env.kindOf n==ae .cell) then(n,fJ) else(n,k)).lookup x=ae k:=by split at h<;>(rw[cV,hb] at h;exact h)
   obtain⟨k',m,e,q⟩:=nN (scope:=scope) c;exact⟨k',au _ m,by rw[cV,hb];exact e,q⟩
theorem ue{env:d4}:∀{l:List (av×cq)} {x:av},l.lookup x=ae .free->
  (l.map λ(n,k)=>if(k==c5&&env.scope.kind==.function&&env.kindOf n==ae .cell) then(n,fJ) else(n,k)).lookup x=ae .cell\/
  (l.map λ(n,k)=>if(k==c5&&env.scope.kind==.function&&env.kindOf n==ae .cell) then(n,fJ) else(n,k)).lookup x=ae .free
 |[],x,h=>by cases h
 | (n,b)::r,x,h=>by
  simp only [aU];by_cases a:x=n
  ·subst a;simp at h;subst h;split
   ·left;simp
   ·right;simp
  ·have hb:(x==n)=ao:=by simpa using a
   rw[cV,hb] at h;have:=ue (env:=env) h;split<;>(rw[cV,hb];exact this)
section
variable {X:Cx} {pins:List (ai×bR)} {σ:St} {H:Hp} {s:ah} {N:List av} {fr:List (Option Nat)} {scope:b6} {fp:List ai} {E:af->ah->Prop}
theorem Inv.MK(I:Inv X pins σ H s)(c:je X N fr scope):∀x∈scope.names,x.2=.free->∃c,X.env.cells.lookup x.1=ae c:=λx a b=>I.ok.has x.1 (c.free x a b)
theorem Inv.ML(I:Inv X pins σ H s)(c:je X N fr scope){y:av}{a:ai}(h:(uv X.env scope.names []).lookup y=ae a):X.env.cells.lookup y=ae a:=
 zZ scope.names [] (λ_ _ e=>by cases e) (I.MK c) h
theorem Inv.block(I:Inv X pins σ H s)(c:je X N fr scope)(g:∀b∈fp,nK X pins H b)(Wf:∀b∈fp,b<s.heap.objs.size){J:az}{m:av->Option af}{t':Nat}(hn:J.Ns s.heap.objs.size m)(A:∀b o,s.heap.get? b=ae o->J.get? b=ae o):
  Inv (yi X scope N s.heap.objs.size fp pins s H E) [] (slots fr σ) H {s with heap:=J,toks:=t'}:=by
 have cg:∀y a,(uv X.env scope.names []).lookup y=ae a->X.env.cells.lookup y=ae a:=λy a=>I.ML c;have Wg:∀y a,X.env.cells.lookup y=ae a->a<s.heap.objs.size:=λy a e=>by obtain⟨v,q⟩:=I.cell y a e;exact q.lt
 refine⟨⟨I.ok.mod,c.kind,I.ok.glob,I.ok.blt,aY _,λx y a h1 h2=>I.ok.inj x y a (cg x a h1) (cg y a h2),λx hx=>?_,λx a g=>(by cases g),I.ok.hd,I.ok.frames,.inl rfl,λb hb=>?_,I.bs,aQ I.ok.Ep I.sz,λb o e hb=>?_,λb hb=>?_,I.stack,I.C2⟩,
  rfl,I.bare,Un.kept A,⟨m,hn,λi x v e1 e2 e3=>?_⟩,λx a e=>?_,I.iE.fresh (aY _),λx a e=>I.kC x a (cg x a e),λp Q=>?_,I.iE.kept A,?_⟩
 ·have Kl:(relabel scope X.env).names.lookup x=ae .cell\/(relabel scope X.env).names.lookup x=ae .free:=hx;have:(x,c5)∈scope.names:=by
   rcases Kl with h|h
   ·obtain⟨k',G,_,q⟩:=nN (scope:=scope) h;rcases q with q|q
    ·subst q;exact absurd rfl (c.cell _ G)
    ·rw[<-q.1];exact G
   ·obtain⟨k',G,_,q⟩:=nN (scope:=scope) h;rcases q with q|q
    ·subst q;exact G
    ·cases q.2
  exact vh scope.names [] (.inr this)
 ·obtain⟨T,B,C,f,L,U⟩:=g b hb;exact⟨bL (Wf b hb),λx a e=>L x a (cg x a e)⟩
 ·obtain⟨T,B,C,f,L,U⟩:=g b hb;rcases f with f|f
  ·exact I.ok.zJ b o e f
  ·exact absurd (aT (aP e) (aQ I.ok.Ep f)) (cu _)
 ·obtain⟨T,B,C,f,L,U⟩:=g b hb;intro z;rcases aE.mp (I.qC b z) with z|z
  ·exact B z
  ·exact C z
 ·obtain⟨j,B,C⟩:=EH e2;obtain⟨g1,M⟩:=c.slot i j x e1 B;have Y:X.env.kindOf x=ae .cell\/X.env.kindOf x=ae .free:=c.free (x,.free) (PySem.mem_of_lookup M) rfl;have pq:Ji X.env.scope x:=.inr Y;obtain⟨m0,_,hl⟩:=I.loc;obtain⟨u,r,lk⟩:=hl j x v g1 C pq;refine⟨u,r,.inr ⟨ue M,?_⟩⟩;obtain⟨a,ha⟩:=vh (env:=X.env) (y:=x) scope.names [] (.inr (PySem.mem_of_lookup M));refine⟨a,ha,?_⟩;have ZZ:=cg x a ha;rcases lk with⟨q,_⟩|⟨_,a',e',z⟩
  ·rcases Y with w|w<;>(rw[q] at w;cases w)
  ·rw[ZZ] at e';cases e';obtain⟨o,O,hd⟩:=z;exact⟨o,A _ o O,hd⟩
 ·obtain⟨v,o,O,hd⟩:=I.cell x a (cg x a e);exact⟨v,o,A _ o O,hd⟩
 ·rw[bf] at Q;obtain⟨e,n,ne,nf,d⟩:=I.pin p Q;refine⟨A _ _ e,n,bL (aP e),λz=>?_,d⟩;rcases aE.mp (I.qC p.1 z) with z|z
  ·exact ne z
  ·exact nf z
 ·unfold slots;rw[ap];exact c.len
theorem Inv.unblock{a:ah}{e:St}{c:Hp}{f:List (ai×bR)}{C:ai}(I:Inv X pins σ H s)(g:∀b∈fp,nK X pins H b)(J:Inv (yi X scope N C fp pins s H E) f e c a):Inv X pins σ c a:=
 I.zM (ch:=fp) J.os J.base J.iE J.bare λb hb=>by obtain⟨n,h,o,i,j,m⟩:=g b hb;exact⟨i,h,j,m⟩
end
end L2
namespace L2
open PySem PySem.Spec PyProof.Rows
theorem pr{prog:aw}{w:aN}{A:aH}{R:aaH->ah->Prop}{s:ah}{elt target iter:aS}{ifs:List aS}{scope:b6}{pos:cC}{it acc:af}{env:d4}(I:Nat->ah->Prop)
(turn:∀n s,I n s->wpAny (model prog w) A (pyNext it) (λr f=>match r with
   |none=>R (.ok .next) f
   |some v=>wpAny (model prog w) A (letOwnedTupleGo target it v) (λ_ i=>wpAny (model prog w) A (assign target env v) (λ_ j=>
     wpAny (model prog w) A (forIn ifs aj λc r=>if r=aj then do let ok<-aaF c env (eval c env);pure (fj ok) else pure (fj r)) (λok g=>
      if ok=aj then wpAny (model prog w) A (eval elt env) (λx o=>
       wpAny (model prog w) A (call (.builtin "list.append") [acc,x]) (λ_ p=>∃m,m<n/\I m p) (aaD (model prog w) A env λe a=>R (.error e) a) o) (aaD (model prog w) A env λe a=>R (.error e) a) g
      else∃m,m<n/\I m g) (aaD (model prog w) A env λe a=>R (.error e) a) j) (aaD (model prog w) A env λe a=>R (.error e) a) i) (aaD (model prog w) A env λe a=>R (.error e) a) f) (aaD (model prog w) A env λe a=>R (.error e) a) s)
(n:Nat)(h:I n s):
  codeAny (model prog w) A (.compLoop (.ListComp elt [⟨target,iter,ifs,0⟩] scope pos) 0 it acc env) R s:=by
 refine codeAny_loop rfl I (λn s y=>?_) n h;show wpAny _ A ((compTurn (.ListComp elt [⟨target,iter,ifs,0⟩] scope pos) 0 it acc env).onRaise (λx=>do aay x env;theTreesLotGoes x)) _ _ s;refine wpAny_noted ?_;rw[compTurn_list];refine ag (aaj (ag (cz (turn n s y) (λr f q=>?_) λ_ _ b=>b)));cases r with
 |none=>exact aB q
 |some v=>
  refine ag (cz q (λ_ i z=>?_) λ_ _ b=>b);refine ag (cz z (λ_ j B=>ag (cz B (λok g u=>?_) λ_ _ b=>b)) λ_ _ b=>b);cases ok with
  |false=>exact aB ⟨rfl,u⟩
  |true=>
   exact ag (ag (cz u (λx o C=>ag (cz C (λ_ p E=>aB (aB ⟨rfl,E⟩)) λ_ _ b=>b)) λ_ _ b=>b))
def Q6 (X:Cx)(ifs:List aS)(t:TT):Prop:=
 ∀(pins:List (ai×bR)) (s:ah) (σ:St) (H:Hp) (Q:Bool->Hp->Prop),Inv X pins σ H s->t σ H Q->
  wpAny (model X.prog X.w) X.A (forIn ifs aj λc r=>if r=aj then do let ok<-aaF c X.env (eval c X.env);pure (fj ok) else pure (fj r)) (TP X pins σ Q) X.xe s
def Wh:TT:=λ_ H Q=>Q aj H
theorem Ko{X:Cx}:Q6 X [] Wh:=λ_ _ _ H _ I h=>wpAny_tests_nil ⟨H,I,h⟩
theorem Kp{X:Cx}{c:aS}{t:TT}(h:PT X c t):Q6 X [c] t:=λpins s σ H Q I q=>wpAny_tests_one (h pins s σ H Q I q)
def GA (fr:List (Option Nat))(wi:TI)(g:TG)(tt:TT)(q:TE):TE:=λσ H Q=>wi σ H λJ H1=>∀p,H1 p=aq->
 ∃W:Nat->Nat->List V->St->Hp->Prop,(∃m,W 0 m [] (slots fr σ) (upd H1 p (.lst [])))/\∀i m a σ H,W i m a σ H->
   (J.stop i H/\Q (.ref p) H)\/(J.go i H/\∃N:List V->St->Hp->Prop,(∀f h c,N f h c->∃j,j<m/\W (i+1) j f h c)/\
   ∀x c,J.Mz i H x c->g x σ c λe r=>tt e r λb n=>if b=aj then q e n λv o=>o p=ae (.lst a)/\a.length<ax/\N (a++[v]) e (upd o p (.lst (a++[v]))) else N a e n)
section
variable {X:Cx} {N:List av} {fr:List (Option Nat)} {scope:b6} {elt target iter:aS} {ifs:List aS} {wi:TI} {g:TG} {tt:TT} {te:TE} {pos:cC}
theorem EI(c:je X N fr scope)(xq:X.calm=aj)(hi:PI X target iter wi)
(hg:∀C ex pins ib il,PG (yi X scope N C ex pins ib il λ_ _=>False) target g)
(ht:∀C ex pins ib il,Q6 (yi X scope N C ex pins ib il λ_ _=>False) ifs tt)
(he:∀C ex pins ib il,PE (yi X scope N C ex pins ib il λ_ _=>False) elt te)
{pins:List (ai×bR)}{s:ah}{σ:St}{H:Hp}{Q:VK}{R:af->ai->aaH->ah->Prop}(I:Inv X pins σ H s)(h:GA fr wi g tt te σ H Q)
(kJ:∀p C m G f,Inv X pins σ f G->nK X pins f C->G.heap.Ns C m->Q (.ref p) f->R (.ref p) C (.ok .next) G):
  wpAny (model X.prog X.w) X.A (eval iter X.env) (λx iH=>wpAny (model X.prog X.w) X.A (aav x) (λit zR=>wpAny (model X.prog X.w) X.A (newList []) (λacc vj=>
   wpAny (model X.prog X.w) X.A (newFunctionEnv scope X.env.globals (uv X.env scope.names []) [] X.env.qual aq .none (ae X.env)) (λSo Km=>
    codeAny (model X.prog X.w) X.A (.compStart (.ListComp elt [⟨target,iter,ifs,0⟩] scope pos) 0 it acc {So with scope:=relabel scope X.env}) (R acc So.locals) Km) X.xe vj) X.xe zR) X.xe iH) X.xe s:=by
 refine ji (hi pins s σ H _ I h) λv s1 h1=>ji h1 λVI s2 h2=>?_;obtain⟨it,j,tn,J,B,e,I2,T,UF,f2,h2⟩:=h2;subst e;have Sq:∀b∈j,b<s2.heap.objs.size:=λb hb=>by obtain⟨o,e,_⟩:=T.obj _ _ UF b hb;exact aP e
 have Z0:B s2.heap.objs.size=aq:=I2.fresh;obtain⟨W,⟨m0,w0⟩,turn⟩:=h2 _ Z0;refine cL ?_;generalize MO:({s2 with heap:=s2.heap.push {cls:=.type "list",dict:=aq,data:=.seq ([]:List af).toArray}}:ah)=s3;have OM:s3={s2 with heap:=s2.heap.push {cls:=.type "list",data:=.seq ([]:List af).toArray},toks:=s2.toks}:=MO.symm;have O:Inv X pins σ (upd B s2.heap.objs.size (.lst [])) s3:=by rw[OM];exact I2.Gu .nil (bx _)
 have Z1:s3.heap.objs.size=s2.heap.objs.size+1:=by rw[OM];exact cx ..
 have Z2:∀b∈j,b≠s2.heap.objs.size:=λb hb=>bL (Sq b hb);have f3:∀b∈j,nK X pins (upd B s2.heap.objs.size (.lst [])) b:=λb hb=>⟨by rw[gy (Z2 b hb)];exact(f2 b hb).1,(f2 b hb).2⟩;have UG:tn 0 s3.heap:=T.keep _ _ _ UF λb hb o e=>by rw[OM];exact ar _ e
 refine wpAny_newFunctionEnv c.cell (by intro y hy;simp at hy) (λh4 YH Sr=>?_) c.kind;try dsimp only at YH Sr ⊢
 have k4:∀b o,s3.heap.get? b=ae o->h4.get? b=ae o:=λb o e=>Sr.extBut b o (bL (aP e)) (ar _ e);have MP:∀b∈j,b<s3.heap.objs.size:=λb hb=>by rw[Z1];exact Nat.lt_succ_of_lt (Sq b hb)
 have I4:Inv (yi X scope N s3.heap.objs.size j pins s3 (upd B s2.heap.objs.size (.lst [])) λ_ _=>False) [] (slots fr σ) (upd B s2.heap.objs.size (.lst [])) {s3 with heap:=h4,toks:=s3.toks+([]:List (av×af)).length}:=O.block c f3 MP YH k4;have YI:tn 0 h4:=T.keep _ _ _ UG λb hb o e=>k4 b o e;have BM:∀{f:Hp},(∀b∈j,f b=aq)->∀b∈j,nK (yi X scope N s3.heap.objs.size j pins s3 (upd B s2.heap.objs.size (.lst [])) λ_ _=>False) [] f b:=λ{f} hn b hb=>by
  obtain⟨g0,g1,g2,g3,g4,g5⟩:=f3 b hb;refine⟨hn b hb,bL (MP b hb),λz=>?_,.inl hb,λx a e=>g4 x a (O.ML c e),λp hp=>?_⟩
  ·rcases aE.mp (O.qC b z) with z|z
   ·exact g1 z
   ·exact g2 z
  ·rw[bf] at hp;exact g5 p hp
 have loop:∀s5:ah,s5={s3 with heap:=h4,toks:=s3.toks+([]:List (av×af)).length}->codeAny (model X.prog X.w) X.A (.compLoop (.ListComp elt [⟨target,iter,ifs,0⟩] scope pos) 0 (.ref it) (.ref s2.heap.objs.size) (compEnvC scope (uv X.env scope.names []) s3.heap.objs.size X.env)) (R (.ref s2.heap.objs.size) s3.heap.objs.size) s5:=by
  rintro s5 rfl
  refine pr (λn G=>∃i E U f,Inv (yi X scope N s3.heap.objs.size j pins s3 (upd B s2.heap.objs.size (.lst [])) λ_ _=>False) [] U f G/\tn i G.heap/\(∀b∈j,f b=aq)/\W i n E U f) ?_ m0
   ⟨0,[],slots fr σ,_,I4,YI,λb hb=>(f3 b hb).1,w0⟩
  rintro n s6 ⟨i,E,Q3,H6,I6,YJ,YK,w6⟩
  rcases turn i n E Q3 H6 w6 with⟨stop,q⟩|⟨go,Nx,hN,step⟩
  ·refine ji (T.done (yi X scope N s3.heap.objs.size j pins s3 (upd B s2.heap.objs.size (.lst [])) λ_ _=>False) rfl rfl rfl xq i [] s6 Q3 H6 _ I6 (BM YK) YJ stop) λr s7 Y=>?_;obtain⟨hr,I7⟩:=Y;subst hr;obtain⟨m7,n7,_⟩:=I7.loc;exact kJ _ _ m7 s7 H6 (O.unblock f3 I7) (O.BJ (aY _) I7.free) n7 q
  ·refine ji (T.item (yi X scope N s3.heap.objs.size j pins s3 (upd B s2.heap.objs.size (.lst [])) λ_ _=>False) rfl rfl rfl xq i [] s6 Q3 H6 _ I6 (BM YK) YJ go) λr s7 Y=>?_;obtain⟨u,hr,h7⟩:=Y;subst hr;refine ji h7 λ_ s8 Y=>?_;obtain⟨x,H8,I8,r8,y8,Wi,Z3⟩:=Y;have Z4:=I8.pinned (BM Z3) (T.obj _ _ Wi);refine cz (hg _ _ _ _ _ _ s8 Q3 H8 x u _ Z4 r8 (step x H8 y8)) (λ_ s9 ⟨UP,H9,I9,q9⟩=>?_) λ_ _ z=>b8 z;refine cz (ht _ _ _ _ _ _ s9 UP H9 _ I9 q9) (λb Z5 ⟨Z6,YL,UQ⟩=>?_) λ_ _ z=>b8 z;have again:∀{L:ah} {Kq:St} {M:Hp} {Q7:List V},Inv (yi X scope N s3.heap.objs.size j pins s3 (upd B s2.heap.objs.size (.lst [])) λ_ _=>False) ([]++u0 j s8.heap) Kq M L->Nx Q7 Kq M->∃m,m<n/\∃i E U f,Inv (yi X scope N s3.heap.objs.size j pins s3 (upd B s2.heap.objs.size (.lst [])) λ_ _=>False) [] U f L/\tn i L.heap/\(∀b∈j,f b=aq)/\W i m E U f:=λ{L Kq M Q7} Ss Z7=>by obtain⟨m',hm,Z8⟩:=hN _ _ _ Z7;refine⟨m',hm,i+1,Q7,Kq,M,Ss.rA,T.keep _ _ _ Wi λb hb o e=>(Ss.pin (b,o) (bh _ (bh _ (nL hb e)))).1,λb hb=>?_,Z8⟩;obtain⟨o,e,d⟩:=T.obj _ _ Wi b hb;exact(Ss.pin (b,o) (bh _ (bh _ (nL hb e)))).2.1
   cases b with
   |false=>
    rw[if_neg am] at UQ ⊢;exact again YL UQ
   |true=>
    rw[if_pos rfl] at UQ ⊢;refine cz (he _ _ _ _ _ _ Z5 UP Z6 _ YL UQ) (λUR L ⟨Wj,M,Ss,Z9,Wk,Wl,q11⟩=>?_) λ_ _ z=>b8 z;refine cz (xo (X:=yi X scope N s3.heap.objs.size j pins s3 (upd B s2.heap.objs.size (.lst [])) λ_ _=>False) _ L UP M (.ref s2.heap.objs.size) [Wj] (.ref s2.heap.objs.size) [UR] (λ_ f=>Nx (E++[Wj]) UP f) Ss rfl (.cons Z9 .nil) ⟨_,E,Wj,rfl,rfl,Wk,Wl,q11⟩) (λ_ s12 ⟨_,H12,I12,_,q12⟩=>?_) λ_ _ z=>b8 z;exact again I12 q12
 exact codeAny_compStart_list (loop _ rfl) (T.self X.A 0 _ _ _ YI (loop _ rfl))
theorem Inv.Su{pins:List (ai×bR)}{s:ah}{σ:St}{H:Hp}{C:ai}{a:az}(I:Inv X pins σ H s)(f:nK X pins H C)(c:bX C s.heap a):Inv X pins σ H {s with heap:=a}:=by obtain⟨h,i,p,j,m,n⟩:=f;exact I.turned (t':=s.toks) (λb o hb e=>(c.2 b hb).trans e) h i j m n
theorem Kr(c:je X N fr scope)(a:X.calm=aj)(hi:PI X target iter wi)
(b:∀C ex pins ib il,PG (yi X scope N C ex pins ib il λ_ _=>False) target g)
(e:∀C ex pins ib il,Q6 (yi X scope N C ex pins ib il λ_ _=>False) ifs tt)
(i:∀C ex pins ib il,PE (yi X scope N C ex pins ib il λ_ _=>False) elt te)
(j:∀x,ej iter X.env x=pure x:=by intro _;rfl):PE X (.ListComp elt [⟨target,iter,ifs,0⟩] scope pos) (GA fr wi g tt te):=by intro pins s σ H Q I h;rw[eval_ListComp];refine wpAny_comprehension_free (use:=aq) rfl j (wN (I.MK c)) c.kind c.loc (EI (R:=compPost (model X.prog X.w) X.A X.xe aq (EP X pins σ Q)) c a hi b e i I h λp C m u n o f hn q=>?_);exact⟨m,hn,λv r=>⟨.ref p,n,o.Su f r,rfl,q⟩⟩
end
end L2
namespace L2
open PySem PySem.Spec PyProof.Rows
noncomputable def YM(x:av):It:=⟨λi _=>i<x.cps.size,λi H v a=>a=H/\∃c,x.cps[i]?=ae c/\v=.str ⟨#[c]⟩,λi _=>x.cps.size<=i⟩
theorem lu{x:av}:dn x="str_ascii_iterator"\/dn x="str_iterator":=by
 unfold dn;split
 ·exact .inl rfl
 ·exact .inr rfl
theorem GB{P:aw}{w:aN}{K:W.Frag}{tg:aS}(it:ai)(x:av)(t:aaU):Turn P w K tg (YM x) [it] it (λi h=>h.IsStrIter it (dn x) x t i/\i<=x.cps.size) where
 mem:=by simp
 obj:=λi h st b hb=>by
  have e:b=it:=by simpa using hb
  subst e;obtain⟨⟨o,e,c,d⟩,_⟩:=st;exact⟨o,e,λv z=>by rw[d] at z;cases z⟩
 keep:=λi h f st k=>by obtain⟨⟨o,e,c,d⟩,l⟩:=st;exact⟨⟨o,k it (by simp) o e,c,d⟩,l⟩
 item:=by
  intro X B hw C hc i pins s σ H E I j st a;subst B hw C;obtain⟨m,n,O,p,q,r⟩:=j it (by simp);have a:i<x.cps.size:=a;rcases lu (x:=x) with e|e
  ·rw[e] at st ⊢;have W:=aa9.strAscii (prog:=X.prog) (w:=X.w) (I.ok.hd hc) it x t;refine W.item i s _ _ a st.1 λv f tk G y g=>?_;obtain⟨c,u,J,rfl⟩:=G;have L:Inv X pins σ H {s with heap:=f,toks:=tk}:=I.turned (λb o hb e=>g b o (by simpa using hb) e) m n p q r;obtain⟨o,e1,M,N⟩:=id y;exact⟨_,rfl,zP (s:={s with heap:=f,toks:=tk}) e1 M N (by decide) ⟨.str ⟨#[c]⟩,H,L,⟨u,rfl⟩,⟨rfl,c,J,rfl⟩,⟨y,a⟩,λb hb=>(j b hb).1⟩⟩
  ·rw[e] at st ⊢;have W:=aa9.strWide (prog:=X.prog) (w:=X.w) (I.ok.hd hc) it x t;refine W.item i s _ _ a st.1 λv f tk G y g=>?_;obtain⟨c,u,J,rfl⟩:=G;have L:Inv X pins σ H {s with heap:=f,toks:=tk}:=I.turned (λb o hb e=>g b o (by simpa using hb) e) m n p q r;obtain⟨o,e1,M,N⟩:=id y;exact⟨_,rfl,zP (s:={s with heap:=f,toks:=tk}) e1 M N (by decide) ⟨.str ⟨#[c]⟩,H,L,⟨u,rfl⟩,⟨rfl,c,J,rfl⟩,⟨y,a⟩,λb hb=>(j b hb).1⟩⟩
 done:=by
  intro X B hw C hc i pins s σ H E I j st a;subst B hw C;obtain⟨m,n,O,p,q,r⟩:=j it (by simp);have a:x.cps.size<=i:=a;obtain⟨st,l⟩:=st;have hi:i=x.cps.size:=by omega
  subst hi;rcases lu (x:=x) with e|e
  ·rw[e] at st;exact(aa9.strAscii (prog:=X.prog) (w:=X.w) (I.ok.hd hc) it x t).done s _ _ st λf tk g=>⟨rfl,I.turned (λb o hb e=>g b o (by simpa using hb) e) m n p q r⟩
  ·rw[e] at st;exact(aa9.strWide (prog:=X.prog) (w:=X.w) (I.ok.hd hc) it x t).done s _ _ st λf tk g=>⟨rfl,I.turned (λb o hb e=>g b o (by simpa using hb) e) m n p q r⟩
 self:=λA i s Q E st h=>by
  obtain⟨st,l⟩:=st;rcases lu (x:=x) with e|e
  ·rw[e] at st;exact wpAny_pyIter_striter_ascii st h
  ·rw[e] at st;exact wpAny_pyIter_striter_wide st h
section
variable {X:Cx} {tg:aS}
theorem GC(hc:X.calm=aj):nk X (.builtin "all") (λxs H Q=>∃(a:ai) (bs:List Bool),xs=[V.ref a]/\nj X.K H a (bs.map V.bl)/\Q (.bl (bs.all id)) H):=by
 intro pins s σ H xs us Q I r h;obtain⟨a,bs,rfl,m,q⟩:=h;obtain⟨u,rfl,c⟩:=vals1 r;cases c;obtain⟨g9,f,p,L⟩:=I.list m;have w:X.A.in1.handled=aq:=I.ok.hd hc;refine call_all_walk (aat p.isList ?_);have y:a<s.heap.objs.size:=by obtain⟨o,n,e,_⟩:=p;exact aP e
 have z:g9.length=bs.length:=by have:=f.length;rw[ap] at this;exact this.symm
 have B:∀(i:Nat) (v:af),g9[i]?=ae v->v=.bool (bs.getD i ao):=λi v e=>by
  have hi:i<g9.length:=(aC.mp e).1;have hb:(bs.map V.bl)[i]?=ae (V.bl (bs.getD i ao)):=by rw[bD,eW,cT (by omega)];rfl
  obtain⟨u,g,c⟩:=f.get hb;rw[e] at g;cases g;exact c
 refine⟨s.heap.objs.size,_,_,_,_,_,λi=>bs.getD i ao,rfl,aa9.list w s.heap.objs.size a (bL y) g9.toArray,⟨⟨_,bg _ rfl,rfl,rfl⟩,p.isList.push _⟩,λi v M N O C E=>?_,λT tk G=>?_⟩
 ·have:=B i v (by simpa using C);subst this;exact bY E
 ·have e:(cG g9.toArray.size).all (λi=>bs.getD i ao)=bs.all id:=by
   rw[aV,z];have key:∀l:List Bool,(cG l.length).all (λi=>l.getD i ao)=l.all id:=by
    intro l;rw[bB];simp only [bj,List.mem_range,id];constructor
    ·intro h x J;obtain⟨i,hi,rfl⟩:=List.mem_iff_getElem.mp J;have:=h i hi
     rwa [eW,cT hi] at this
    ·intro h i hi;rw[eW,cT hi];exact h _ (fu hi)
   exact key bs
  rw[e];refine⟨.bl _,H,I.kept (t':=tk) λb o j=>?_,rfl,q⟩;exact G b o (by simpa using bL (aP j)) (ar _ j)
theorem EJ:oP X (compareOp .LtE) (λx y H Q=>∃i j,x=.str i/\y=.str j/\Q (.bl (!decide (j.cps.toList<i.cps.toList))) H):=by intro pins s σ H x y v u Q I a b h;obtain⟨i,j,rfl,rfl,q⟩:=h;obtain⟨t,rfl⟩:=a;obtain⟨c,rfl⟩:=b;exact P.le_str (iw I q rfl)
theorem ON:Jn X (λx lo hi H Q=>∃z,x=.str z/\z.length<=ax/\Q (.str (bQ z lo hi)) H):=by
 intro pins s σ H x v c e lo hi sl Q I f g pl a h;obtain⟨z,rfl,m,q⟩:=h;obtain⟨t,rfl⟩:=f;have key:∀(l u:Option (Int×aaU)),partValue l=c->partValue u=e->l.map (·.1)=lo->u.map (·.1)=hi->wpAny (model X.prog X.w) X.A (fX (.str z t) (.ref sl)) (EP X pins σ Q) X.xe s:=by
  rintro l u rfl rfl rfl rfl
  refine wpAny_getItem_str_slice (l:=l) (u:=u) (st:=aq) g rfl (post_val_or_str ⟨aQ (Txt.slice_le z _ _) m,λn k=>⟨.str _,H,I.tok k,⟨_,rfl⟩,q⟩⟩)
 refine⟨"str",_,F.slot_str_getitem.lookup,fk _ _ _,?_⟩;cases pl with
 |none=>
  cases a with
  |none=>exact key aq aq rfl rfl rfl rfl
  |int j u=>exact key aq (ae (j,u)) rfl rfl rfl rfl
 |int i b=>
  cases a with
  |none=>exact key (ae (i,b)) aq rfl rfl rfl rfl
  |int j u=>exact key (ae (i,b)) (ae (j,u)) rfl rfl rfl rfl
end
end L2
namespace L2
open PySem PySem.Spec PyProof.Rows
def gY (K:W.Frag)(mg:av->Option af)(x:av)(st:b3):Prop:=∃f fd,Dk K x x st f fd/\mg x=ae (.ref f)
def nv (P:aw)(w:aN)(K:W.Frag)(mg:av->Option af)(base:az)(k:Nat)(x:av)(ps:List av)(sp:Sp):Prop:=
 ∃f fd,mg x=ae (.ref f)/\W.keepIn K (.ref f)=aj/\Binds K fd ps []/\kb P w K mg base ud k f fd ps sp
theorem GG{K:W.Frag}{h:az}{mg:av->Option af}(X:K.In h)(G:h.Ns bc mg){x:av}{st:b3}{f:ai}{oc:af}{od an:Option ai}{yb:Array (Option af)}{kV doc pm iC ct:af}
(a:W.nsIn K bc x=ae (ae (.ref f)))(l:K.lookup f=ae ⟨oc,od,.func (W.fnOf x x (jz st) (ix st) (hG st) .none kV doc pm an iC ct),yb⟩)
(c:W.codeIn K iC x=aj)(k:W.keepIn K (.ref f)=aj):gY K mg x st:=⟨f,_,Gz l c k,W.mg_of X G a⟩
section
variable {P:aw} {w:aN} {K:W.Frag} {mg:av->Option af} {base:az}
theorem gY.has{x:av}{st:b3}{N ps:List av}{k:Nat}{sp:Sp}(F:gY K mg x st)(S:jQ N ps (hG st))
(hb:∀(kV doc pm:af) (an:Option ai) (iC ct:af) (us:List af),us.length=ps.length->dY (W.fnOf x x (jz st) (ix st) (hG st) .none kV doc pm an iC ct) ⟨us,[]⟩=pure (ps.zip us))
(len:∀a H Q E,sp a H Q E->a.length=ps.length)
(b:∀(f:ai) (iC:af) (A:aH) (outer:List d4) (s:ah) (H:Hp) (a:List V) (Q:VK) (E:XK),js k (A.deeper (dO x (hG st) s.heap.objs.size f iC))->sp a H Q E->
   ∃t,rn (qj ud P w K mg base N x (hG st) f iC A outer s H E).Er (ix st) t/\t {nx:=λ_ c=>Q .non c,rt:=Q} (start N a) H):nv P w K mg base (k+1) x ps sp:=by obtain⟨f,fd,F,m⟩:=F;exact⟨f,fd,m,F.kp,F.binds hb,F.ok S len (b f)⟩
theorem nv.mono{j k:Nat}{x:av}{ps:List av}{sp:Sp}(h:nv P w K mg base j x ps sp)(a:j<=k):nv P w K mg base k x ps sp:=by obtain⟨f,fd,m,kp,b,F⟩:=h;exact⟨f,fd,m,kp,b,F.mono a⟩
end
section
variable {X:Cx} {k:Nat} {x:av} {ps:List av} {sp:Sp} {p pos:cC} {e:aS} {es:List aS} {t:TA}
theorem Sv(h:nv X.prog X.w X.K X.mg X.base k x ps sp)(a:js k X.A)(ha:PA X (e::es) t)(c:Gl X x:=by rfl)(g:(x==("__debug__":av))=ao:=by decide)
(i:aJ (e::es) X.env=(ao,eval e X.env)::aJ es X.env:=by rfl)(j:(cb pos (aJ es X.env)).any (·.1)=ao:=by rfl):
  PE X (.Call (.Name x p) (e::es) [] pos) (Ge sp [] E0 t):=by obtain⟨f,fd,m,kp,b,F⟩:=h;exact JY F a c m kp b .nil Gy ha g i j
end
end L2
namespace L2
open PySem PySem.Spec PyProof.Rows
theorem rH{H:Hp}{p:ai}{o:HO}(h:H p=aq):jd H (upd H p o):=λb u e=>by rw[gy (i6 e h)];exact e
end L2
namespace L2
open PySem PySem.Spec PyProof.Rows
section
variable {P:aw} {w:aN} {K:W.Frag} {mg:av->Option af} {base:az}
theorem gY.hasB{x:av}{st:b3}{N ps:List av}{k:Nat}{sp:Sp}{body:List b3}{scope:b6}(F:gY K mg x st)(b:ix st=body)(es:hG st=scope)(S:jQ N ps scope)
(hb:∀(kV doc pm:af) (an:Option ai) (iC ct:af) (us:List af),us.length=ps.length->dY (W.fnOf x x (jz st) (ix st) (hG st) .none kV doc pm an iC ct) ⟨us,[]⟩=pure (ps.zip us))
(len:∀a H Q E,sp a H Q E->a.length=ps.length)
(c:∀(f:ai) (iC:af) (A:aH) (outer:List d4) (s:ah) (H:Hp) (a:List V) (Q:VK) (E:XK),js k (A.deeper (dO x scope s.heap.objs.size f iC))->sp a H Q E->
   ∃t,rn (qj ud P w K mg base N x scope f iC A outer s H E).Er body t/\t {nx:=λ_ e=>Q .non e,rt:=Q} (start N a) H):nv P w K mg base (k+1) x ps sp:=by subst b es;exact F.has S hb len c
end
end L2
namespace L2
open PySem PySem.Spec PyProof.Rows
structure QE(X:Cx)(e:aS)(t:TE):Prop where p:PE X e t
structure QT(X:Cx)(e:aS)(t:TT):Prop where p:PT X e t
structure QW(X:Cx)(e:aS)(t:TT):Prop where p:PW X e t
structure QA(X:Cx)(es:List aS)(t:TA):Prop where p:PA X es t
structure QS(X:Cx)(st:b3)(t:TS):Prop where p:PS X st t
structure QB(X:Cx)(st:List b3)(t:TS):Prop where p:rn X st t
structure QG(X:Cx)(tg:aS)(g:TG):Prop where p:PG X tg g
structure QGs(X:Cx)(tg:List aS)(g:Jl):Prop where p:F3 X tg g
structure QI(X:Cx)(tg iter:aS)(wi:TI):Prop where p:PI X tg iter wi
structure QF(X:Cx)(ifs:List aS)(t:TT):Prop where p:Q6 X ifs t
structure QO(X:Cx)(e:Option aS)(t:TO):Prop where p:PO X e t
structure ROp(X:Cx)(op:aaq)(r:R2):Prop where p:oP X (binaryOp op) r
structure aab(X:Cx)(op:aak)(r:R2):Prop where p:oP X (compareOp op) r
structure RUn(X:Cx)(op:UnaryOp)(r:V->Hp->VK->Prop):Prop where p:UH X (unaryOp op) r
structure RB(X:Cx)(id:String)(r:List V->Hp->VK->Prop):Prop where p:nk X (.builtin id) r
structure RTy(X:Cx)(T:String)(r:List V->Hp->VK->Prop):Prop where p:nk X (.type T) r
structure RIx(X:Cx)(r:R2):Prop where p:Oy X r
structure RSl(X:Cx)(r:V->Option Int->Option Int->Hp->VK->Prop):Prop where p:Jn X r
structure RMt(X:Cx)(id:String)(r:V->List V->Hp->VK->Prop):Prop where p:MI X id r
section
variable {X:Cx} {a b c e:aS} {es rest:List aS} {ta tb tc te:TE} {t u:TS} {tA FZ:TT} {tt:TA} {pos p p2 p3:cC} {x:av}
end
section
variable {P:aw} {w:aN} {K:W.Frag} {mg:av->Option af} {base:az}
theorem gY.OO{x:av}{st:b3}{N ps:List av}{k:Nat}{sp:Sp}{body:List b3}{scope:b6}(F:gY K mg x st)(b:ix st=body)(es:hG st=scope)(S:jQ N ps scope)
(hb:∀(kV doc pm:af) (an:Option ai) (iC ct:af) (us:List af),us.length=ps.length->dY (W.fnOf x x (jz st) (ix st) (hG st) .none kV doc pm an iC ct) ⟨us,[]⟩=pure (ps.zip us))
(len:∀a H Q E,sp a H Q E->a.length=ps.length)
(c:∀(f:ai) (iC:af) (A:aH) (outer:List d4) (s:ah) (H:Hp) (a:List V) (Q:VK) (E:XK),js k (A.deeper (dO x scope s.heap.objs.size f iC))->sp a H Q E->
   ∃t,QB (qj ud P w K mg base N x scope f iC A outer s H E).Er body t/\t {nx:=λ_ e=>Q .non e,rt:=Q} (start N a) H):nv P w K mg base (k+1) x ps sp:=
 F.hasB b es S hb len λf iC A outer s H a Q E g h=>let⟨t,q,z⟩:=c f iC A outer s H a Q E g h;⟨t,q.p,z⟩
theorem Dk.OP{x y:av}{st:b3}{f:ai}{fd:bN}(F:Dk K x x st f fd)
(h:∀(kV doc pm:af) (an:Option ai) (iC ct:af) (u:af),dY (W.fnOf x x (jz st) (ix st) (hG st) .none kV doc pm an iC ct) ⟨[u],[]⟩=pure [(y,u)]):∀(s:ah) (v:af),fV s fd ⟨[v],[]⟩ [(y,v)]:=by obtain⟨oc,od,kV,doc,pm,an,iC,ct,yb,rfl,lk,a⟩:=F.ex;exactλs v=>.of_eq (h kV doc pm an iC ct v)
end
end L2
namespace L2
open PySem PySem.Spec PyProof.Rows PySem.W
noncomputable def z0(c:ai)(q:av):HO:=.ext λh=>h.CodeRec (.ref c) q
structure MR(q:av)(H:Hp)(ps:Array af):Prop where
 ok:TriplesOk ps.toList
 cs:∀pos v,codeAmong pos ps.toList=ae v->∃c,v=.ref c/\H c=ae (z0 c q)
def MS (P:ai)(q:av)(H a:Hp):Prop:=(∃ps,a P=ae (.BG ps)/\MR q a ps)/\(a=H\/∃c ps,H c=aq/\c≠P/\a=upd (upd H c (z0 c q)) P (.BG ps))
end L2
namespace L3
open PySem PySem.Spec PyProof.Rows L2
@[reducible] def pq:Option HO->Option HO
 |some (.BG _)=>aq
 |some (.ext _)=>aq
 |o=>o
theorem GI{x:Option HO}{o:HO}(h:pq x=ae o):x=ae o/\pq (ae o)=ae o:=by
 cases x with
 |none=>cases h
 |some y=>cases y<;>first|(cases h;done)|(cases h;exact⟨rfl,rfl⟩)
theorem vm{x:Option HO}(h:pq x≠aq):x≠aq:=λz=>h (by rw[z])
noncomputable def Sw:List av:=["by_name"]
noncomputable def Sx(x:av):av:=x++".<locals>."++"<lambda>"
def Tb (K:W.Frag)(H:Hp):Prop:=∀x∈Sw,∀c P,W.tabIn K x=ae (c,P)->∃ps,H P=ae (.BG ps)/\MR (Sx x) H ps
theorem Tb.imp{K:W.Frag}{H a:Hp}(t:Tb K H)(h:∀b o,H b=ae o->pq (ae o)=aq->a b=ae o):Tb K a:=λx f c P e=>by obtain⟨ps,g,i,j⟩:=t x f c P e;refine⟨ps,h _ _ g rfl,i,λpos v m=>?_⟩;obtain⟨n,e1,e2⟩:=j pos v m;exact⟨n,e1,h _ _ e2 rfl⟩
theorem Tb.same{K:W.Frag}{H a:Hp}(t:Tb K H)(h:jd H a):Tb K a:=t.imp λb o e _=>h b o e
theorem Tb.upd{K:W.Frag}{H:Hp}{p:ai}{x:HO}(t:Tb K H)(h:pq (H p)≠aq\/H p=aq):Tb K (upd H p x):=t.imp λb o e v=>by
 rw[gy λz=>?_]
 ·exact e
 ·subst z;rcases h with h|h
  ·rw[e] at h;exact h v
  ·rw[h] at e;cases e
end L3
namespace L3
open PySem PySem.Spec PyProof.Rows L2
inductive D where
 |non|bl (b:Bool)|int (i:Int)|str (x:av)|ty (n:String)
 |tup (ds:List D)|lst (ds:List D)|jR (ks:List Key) (ds:List D)
 |ins (C:ai) (ns:List av) (ds:List D)|oZ (ns:List Int)|loc (k:Nat)|cls (C:ai)|exc (C:ai) (ns:List av) (ds:List D)
inductive OD where
 |lst (ds:List D)|jR (ks:List Key) (ds:List D)|ins (C:ai) (ns:List av) (ds:List D)|fz (k ep:Nat) (ks:List Key) (ds:List D)
abbrev Ms:=List (Option OD)
mutual
def Rep (K:W.Frag) (α:List ai) (H:Hp):D->V->Prop
 |.non,v=>v=.non
 |.bl b,v=>v=.bl b
 |.int i,v=>v=.int i
 |.str x,v=>v=.str x
 |.ty n,v=>v=.ty n
 |.tup ds,v=>∃a c,v=.ref a/\t9 K H a c/\gp K α H ds c
 |.lst ds,v=>∃a c,v=.ref a/\H a=ae (.lst c)/\gp K α H ds c
 |.oZ ns,v=>∃a,v=.ref a/\nj K H a (ns.map V.int)
 |.jR e ds,v=>∃a c,v=.ref a/\Rd H a (.dK (e.zip c))/\e.length=ds.length/\gp K α H ds c
 |.ins C ns ds,v=>∃a f c,v=.ref a/\H a=ae (.ins C f (ns.zip c))/\ns.length=ds.length/\gp K α H ds c
 |.loc k,v=>∃a,α[k]?=ae a/\v=.ref a
 |.cls C,v=>v=.ref C
 |.exc C ns ds,v=>∃a c,v=.ref a/\H a=ae (.xc C (ns.zip c))/\ns.length=ds.length/\gp K α H ds c
def gp (K:W.Frag) (α:List ai) (H:Hp):List D->List V->Prop
 |[],c=>c=[]
 |d::ds,c=>∃v r,c=v::r/\Rep K α H d v/\gp K α H ds r
end
theorem mr{K:W.Frag}{H b:Hp}{a:ai}{xs:List V}(e:jd H b)(h:t9 K H a xs):t9 K b a xs:=by
 rcases h with(h|⟨o,h⟩)|h
 ·exact .inl (.inl (e _ _ h))
 ·exact .inl (.inr ⟨o,e _ _ h⟩)
 ·exact .inr h
theorem j5{K:W.Frag}{H b:Hp}{a:ai}{xs:List V}(e:jd H b)(h:nj K H a xs):nj K b a xs:=by
 rcases h with(h|⟨o,h⟩)|h
 ·exact .inl (.inl (e _ _ h))
 ·exact .inl (.inr ⟨o,e _ _ h⟩)
 ·exact .inr h
theorem yj{H b:Hp}{a:ai}{u:HO}(e:jd H b)(h:Rd H a u):Rd b a u:=by
 rcases h with h|⟨o,h⟩
 ·exact .inl (e _ _ h)
 ·exact .inr ⟨o,e _ _ h⟩
theorem yk{α β:List ai}(p:α <+: β){k:Nat}{a:ai}(h:α[k]?=ae a):β[k]?=ae a:=by obtain⟨t,rfl⟩:=p;have:=(aC.mp h).1;rw[bp this];exact h
mutual
theorem Rep.mono {K:W.Frag} {α β:List ai} {H c:Hp} (p:α <+: β) (e:jd H c):∀(d:D) (v:V),Rep K α H d v->Rep K β c d v
 |.non,v,h=>by unfold Rep at h ⊢;exact h
 |.bl _,v,h=>by unfold Rep at h ⊢;exact h
 |.int _,v,h=>by unfold Rep at h ⊢;exact h
 |.str _,v,h=>by unfold Rep at h ⊢;exact h
 |.ty _,v,h=>by unfold Rep at h ⊢;exact h
 |.tup ds,v,h=>by unfold Rep at h ⊢;obtain⟨a,b,r,q,z⟩:=h;exact⟨a,b,r,mr e q,gp.mono p e ds b z⟩
 |.lst ds,v,h=>by unfold Rep at h ⊢;obtain⟨a,b,r,q,z⟩:=h;exact⟨a,b,r,e _ _ q,gp.mono p e ds b z⟩
 |.oZ ns,v,h=>by unfold Rep at h ⊢;obtain⟨a,r,q⟩:=h;exact⟨a,r,j5 e q⟩
 |.jR g ds,v,h=>by unfold Rep at h ⊢;obtain⟨a,b,r,q,l,z⟩:=h;exact⟨a,b,r,yj e q,l,gp.mono p e ds b z⟩
 |.ins C ns ds,v,h=>by unfold Rep at h ⊢;obtain⟨a,f,b,r,q,l,z⟩:=h;exact⟨a,f,b,r,e _ _ q,l,gp.mono p e ds b z⟩
 |.exc C ns ds,v,h=>by unfold Rep at h ⊢;obtain⟨a,b,r,q,l,z⟩:=h;exact⟨a,b,r,e _ _ q,l,gp.mono p e ds b z⟩
 |.loc k,v,h=>by unfold Rep at h ⊢;obtain⟨a,r,q⟩:=h;exact⟨a,yk p r,q⟩
 |.cls _,v,h=>by unfold Rep at h ⊢;exact h
theorem gp.mono {K:W.Frag} {α β:List ai} {H c:Hp} (p:α <+: β) (e:jd H c):∀(ds:List D) (b:List V),gp K α H ds b->gp K β c ds b
 |[],b,h=>by unfold gp at h ⊢;exact h
 |d::ds,b,h=>by unfold gp at h ⊢;obtain⟨v,r,q,z,y⟩:=h;exact⟨v,r,q,Rep.mono p e d v z,gp.mono p e ds r y⟩
end
section
variable {K:W.Frag} {α:List ai} {H:Hp}
theorem gp.length:∀(ds:List D) (a:List V),gp K α H ds a->ds.length=a.length
 |[],a,h=>by unfold gp at h;rw[h];rfl
 |d::ds,a,h=>by unfold gp at h;obtain⟨v,r,rfl,_,y⟩:=h;rw[aM,aM,gp.length ds r y]
theorem gp.get:∀(ds:List D) (a:List V) (i:Nat) (d:D),gp K α H ds a->ds[i]?=ae d->∃v,a[i]?=ae v/\Rep K α H d v
 |[],a,i,d,h,e=>by simp at e
 |x::ds,a,0,d,h,e=>by unfold gp at h;obtain⟨v,r,rfl,z,_⟩:=h;simp at e;subst e;exact⟨v,rfl,z⟩
 |x::ds,a,i+1,d,h,e=>by unfold gp at h;obtain⟨v,r,rfl,_,y⟩:=h;obtain⟨u,b,c⟩:=gp.get ds r i d y (by simpa using e);exact⟨u,by simpa using b,c⟩
theorem gp.get':∀(ds:List D) (a:List V) (i:Nat) (v:V),gp K α H ds a->a[i]?=ae v->∃d,ds[i]?=ae d/\Rep K α H d v
 |[],a,i,d,h,e=>by unfold gp at h;subst h;simp at e
 |x::ds,a,0,d,h,e=>by unfold gp at h;obtain⟨v,r,rfl,z,_⟩:=h;simp at e;subst e;exact⟨x,rfl,z⟩
 |x::ds,a,i+1,d,h,e=>by unfold gp at h;obtain⟨v,r,rfl,_,y⟩:=h;obtain⟨u,b,c⟩:=gp.get' ds r i d y (by simpa using e);exact⟨u,by simpa using b,c⟩
theorem gp.append:∀(ds es:List D) (a us:List V),gp K α H ds a->gp K α H es us->gp K α H (ds++es) (a++us)
 |[],es,a,us,h,g=>by unfold gp at h;subst h;exact g
 |d::ds,es,a,us,h,g=>by unfold gp at h;obtain⟨v,r,rfl,z,y⟩:=h;show gp K α H (d::(ds++es)) (v::(r++us));unfold gp;exact⟨v,_,rfl,z,gp.append ds es r us y g⟩
theorem gp.nil:gp K α H [] []:=by unfold gp;rfl
theorem gp.cons{d:D}{v:V}{ds:List D}{a:List V}(q:Rep K α H d v)(h:gp K α H ds a):gp K α H (d::ds) (v::a):=by unfold gp;exact⟨v,a,rfl,q,h⟩
theorem gp.one{d:D}{v:V}(q:Rep K α H d v):gp K α H [d] [v]:=gp.cons q gp.nil
theorem gp.take:∀(n:Nat) (ds:List D) (a:List V),gp K α H ds a->gp K α H (ds.take n) (a.take n)
 |0,ds,a,h=>by simpa using gp.nil
 |n+1,[],a,h=>by unfold gp at h;subst h;simpa using gp.nil
 |n+1,d::ds,a,h=>by unfold gp at h;obtain⟨v,r,rfl,z,y⟩:=h;rw[List.take_succ_cons,List.take_succ_cons];exact gp.cons z (gp.take n ds r y)
theorem gp.drop:∀(n:Nat) (ds:List D) (a:List V),gp K α H ds a->gp K α H (ds.drop n) (a.drop n)
 |0,ds,a,h=>h
 |n+1,[],a,h=>by unfold gp at h;subst h;simpa using gp.nil
 |n+1,d::ds,a,h=>by unfold gp at h;obtain⟨v,r,rfl,z,y⟩:=h;rw[List.drop_succ_cons,List.drop_succ_cons];exact gp.drop n ds r y
theorem gp.set{d:D}{v:V}(q:Rep K α H d v):∀(i:Nat) (ds:List D) (a:List V),gp K α H ds a->gp K α H (ds.set i d) (a.set i v)
 |i,[],a,h=>by unfold gp at h;subst h;simpa using gp.nil
 |0,x::ds,a,h=>by unfold gp at h;obtain⟨u,r,rfl,z,y⟩:=h;exact gp.cons q y
 |i+1,x::ds,a,h=>by unfold gp at h;obtain⟨u,r,rfl,z,y⟩:=h;exact gp.cons z (gp.set q i ds r y)
theorem gp.of_map{β:Type}(f:β->D)(g:β->V)(h:∀a,Rep K α H (f a) (g a)):∀l:List β,gp K α H (l.map f) (l.map g)
 |[]=>gp.nil
 |a::l=>gp.cons (h a) (gp.of_map f g h l)
theorem gp.rep{ds:List D}{a:List V}(h:gp K α H ds a):∀k:Nat,gp K α H (ba k ds).flatten (ba k a).flatten
 |0=>gp.nil
 |k+1=>by rw[cJ,cJ,dz,dz];exact gp.append _ _ _ _ h (gp.rep h k)
theorem gp.at{ds:List D}{a:List V}{i:Int}{d:D}(h:gp K α H ds a)(e:vf ds i=ae d):∃v,vf a i=ae v/\Rep K α H d v:=by
 unfold vf at e ⊢;rw[<-gp.length _ _ h];cases q:FK ds.length i with
 |none=>rw[q] at e;cases e
 |some j=>
  rw[q] at e;exact gp.get ds a j d h e
theorem iI{i:Int}:Rep K α H (.int i) (.int i):=by unfold Rep;rfl
theorem iF{i:Bool}:Rep K α H (.bl i) (.bl i):=by unfold Rep;rfl
theorem kl{i:av}:Rep K α H (.str i) (.str i):=by unfold Rep;rfl
theorem Kt{C:ai}:Rep K α H (.cls C) (.ref C):=by unfold Rep;rfl
theorem lY:Rep K α H .non .non:=by unfold Rep;rfl
theorem OQ{n:String}:Rep K α H (.ty n) (.ty n):=by unfold Rep;rfl
end
noncomputable def iT(A:List ai)(H:Hp):Hp:=λb=>if b∈A then aq else pq (H b)
theorem i7{A:List ai}{H:Hp}{p:ai}(h:p∉A):iT A H p=pq (H p):=by unfold iT;rw[if_neg h]
theorem km{A:List ai}{H:Hp}{p:ai}(h:p∈A):iT A H p=aq:=by unfold iT;rw[if_pos h]
theorem my{A:List ai}{H:Hp}{p:ai}{o:HO}(h:iT A H p=ae o):p∉A/\H p=ae o/\pq (ae o)=ae o:=by
 by_cases z:p∈A
 ·rw[km z] at h;cases h
 ·rw[i7 z] at h;exact⟨z,GI h⟩
theorem ij{A:List ai}{H:Hp}{p:ai}{o:HO}(h:iT A H p=ae o):p∉A/\H p=ae o:=⟨(my h).1,(my h).2.1⟩
theorem hX{A:List ai}{H:Hp}:jd (iT A H) H:=λb o e=>(ij e).2
theorem jE{A:List ai}{H:Hp}{p:ai}{o:HO}(h:p∉A)(e:H p=ae o)(v:pq (ae o)=ae o):iT A H p=ae o:=by rw[i7 h,e];exact v
theorem ko{A B:List ai}{H a:Hp}{b:ai}{o:HO}(h:iT A H b=ae o)(hb:b∉B)(e:a b=ae o):iT B a b=ae o:=jE hb e (my h).2.2
theorem xr{A:List ai}{H a:Hp}(h:jd H a):jd (iT A H) (iT A a):=λb o e=>ko e (ij e).1 (h b o (ij e).2)
noncomputable def lv:List ai->Ms->List ai
 |a::α,ae _::M=>a::lv α M
 |_::α,aq::M=>lv α M
 |_,_=>[]
theorem mz:∀{α:List ai} {M:Ms} {a:ai},a∈lv α M↔∃(k:Nat) (o:OD),α[k]?=ae a/\M[k]?=ae (ae o)
 |[],M,a=>by cases M<;>simp[lv]
 |b::α,[],a=>by simp[lv]
 |b::α,ae x::M,a=>by
  simp only [lv,aE,mz];constructor
  ·rintro(rfl|⟨k,o,c,e⟩)
   ·exact⟨0,x,rfl,rfl⟩
   ·exact⟨k+1,o,by simpa using c,by simpa using e⟩
  ·rintro⟨k,o,c,e⟩
   cases k with
   |zero=>left;simpa using c.symm
   |succ k=>right;exact⟨k,o,by simpa using c,by simpa using e⟩
 |b::α,aq::M,a=>by
  simp only [lv,mz];constructor
  ·rintro⟨k,o,c,e⟩
   exact⟨k+1,o,by simpa using c,by simpa using e⟩
  ·rintro⟨k,o,c,e⟩
   cases k with
   |zero=>simp at e
   |succ k=>exact⟨k,o,by simpa using c,by simpa using e⟩
abbrev iG(F α:List ai)(M:Ms)(H:Hp):Hp:=iT (lv α M++F) H
def uw (K:W.Frag)(α:List ai)(e H:Hp):OD->ai->Prop
 |.lst ds,a=>∃b,H a=ae (.lst b)/\gp K α e ds b
 |.jR c ds,a=>∃b,H a=ae (.dK (c.zip b))/\c.length=ds.length/\gp K α e ds b
 |.ins C ns ds,a=>∃f b,H a=ae (.ins C f (ns.zip b))/\ns.length=ds.length/\gp K α e ds b
 |.fz k g c ds,a=>α[k]?=ae a/\∃b,H a=ae (.dE g (c.zip b))/\c.length=ds.length/\gp K α e ds b
structure OK(K:W.Frag)(F α:List ai)(H:Hp)(M:Ms):Prop where
 ml:α.length=M.length
 nd:α.Nodup
 fr:∀a∈F,a∉α/\pq (H a)≠aq
 al:∀a∈α,pq (H a)≠aq
 own:∀(k:Nat) o,M[k]?=ae (ae o)->∃a,α[k]?=ae a/\uw K α (iG F α M H) H o a
 tb:Tb K H
structure Ext(F α:List ai)(H:Hp)(M:Ms)(gO:List ai)(H':Hp)(M':Ms):Prop where
 pre:α <+: gO
 same:jd (iG F α M H) (iG F gO M' H')
 fr:∀a∈F,H' a=H a
abbrev j2:=List (Option D)
structure R(K:W.Frag)(F α:List ai)(H:Hp)(σ:L2.St)(δ:j2)(M:Ms):Prop where
 ok:OK K F α H M
 len:σ.length=δ.length
 sl:∀(i:Nat) d,δ[i]?=ae (ae d)->∃v,σ[i]?=ae (ae v)/\Rep K α (iG F α M H) d v
section
variable {K:W.Frag} {F α gO GJ:List ai} {H H' Ra:Hp} {M M' zC:Ms} {σ:L2.St} {δ:j2}
theorem Ext.refl:Ext F α H M α H M:=⟨aX _,jd.refl _,λ_ _=>rfl⟩
theorem Ext.trans(e:Ext F α H M gO H' M')(e':Ext F gO H' M' GJ Ra zC):Ext F α H M GJ Ra zC:=
 ⟨e.pre.trans e'.pre,e.same.trans e'.same,λa h=>(e'.fr a h).trans (e.fr a h)⟩
theorem Ext.rep(e:Ext F α H M gO H' M'){d:D}{v:V}(h:Rep K α (iG F α M H) d v):Rep K gO (iG F gO M' H') d v:=Rep.mono e.pre e.same d v h
theorem Ext.z6(e:Ext F α H M gO H' M'){d:List D}{v:List V}(h:gp K α (iG F α M H) d v):gp K gO (iG F gO M' H') d v:=gp.mono e.pre e.same d v h
theorem R.grow(r:R K F α H σ δ M)(e:Ext F α H M gO H' M')(o:OK K F gO H' M'):R K F gO H' σ δ M':=
 ⟨o,r.len,λi d q=>by obtain⟨v,a,b⟩:=r.sl i d q;exact⟨v,a,e.rep b⟩⟩
theorem OK.live(o:OK K F α H M):∀a∈lv α M,H a≠aq:=λa ha=>by
 obtain⟨k,x,f,g⟩:=mz.mp ha;obtain⟨b,e,r⟩:=o.own k x g;rw[f] at e;cases e;cases x with
 |lst ds=>obtain⟨c,e,_⟩:=r;rw[e];exactλz=>by cases z
 |jR h ds=>obtain⟨c,e,_⟩:=r;rw[e];exactλz=>by cases z
 |ins C ns ds=>obtain⟨i,c,e,_⟩:=r;rw[e];exactλz=>by cases z
 |fz k j h ds=>obtain⟨_,c,e,_⟩:=r;rw[e];exactλz=>by cases z
theorem OK.new(o:OK K F α H M){p:ai}(h:H p=aq):p∉lv α M++F:=λz=>by
 rcases aO.mp z with z|z
 ·exact o.live p z h
 ·exact(o.fr p z).2 (by rw[h])
theorem uw.pq{c:Hp}{x:OD}{a:ai}(r:uw K α c H x a):pq (H a)≠aq:=by
 cases x with
 |lst ds=>obtain⟨b,e,_⟩:=r;rw[e];exactλz=>by cases z
 |jR f ds=>obtain⟨b,e,_⟩:=r;rw[e];exactλz=>by cases z
 |ins C ns ds=>obtain⟨g,b,e,_⟩:=r;rw[e];exactλz=>by cases z
 |fz k h f ds=>obtain⟨_,b,e,_⟩:=r;rw[e];exactλz=>by cases z
theorem uw.some{c:Hp}{x:OD}{a:ai}(r:uw K α c H x a):H a≠aq:=by
 cases x with
 |lst ds=>obtain⟨b,e,_⟩:=r;rw[e];exactλz=>by cases z
 |jR f ds=>obtain⟨b,e,_⟩:=r;rw[e];exactλz=>by cases z
 |ins C ns ds=>obtain⟨g,b,e,_⟩:=r;rw[e];exactλz=>by cases z
 |fz k h f ds=>obtain⟨_,b,e,_⟩:=r;rw[e];exactλz=>by cases z
theorem OK.Dm(o:OK K F α H M):∀a∈lv α M,pq (H a)≠aq:=λa ha=>by obtain⟨k,x,c,f⟩:=mz.mp ha;obtain⟨b,e,r⟩:=o.own k x f;rw[c] at e;cases e;exact r.pq
theorem uw.mono{c f:Hp}(p:α <+: gO)(e:jd c f){o:OD}{a:ai}(ha:H' a=H a)(h:uw K α c H o a):uw K gO f H' o a:=by
 cases o with
 |lst ds=>obtain⟨b,q,r⟩:=h;exact⟨b,by rw[ha];exact q,gp.mono p e _ _ r⟩
 |jR i ds=>obtain⟨b,q,l,r⟩:=h;exact⟨b,by rw[ha];exact q,l,gp.mono p e _ _ r⟩
 |ins C ns ds=>obtain⟨j,b,q,l,r⟩:=h;exact⟨j,b,by rw[ha];exact q,l,gp.mono p e _ _ r⟩
 |fz k m i ds=>
  obtain⟨g,b,q,l,r⟩:=h;exact⟨by obtain⟨β,rfl⟩:=p;rw[bp (aC.mp g).1];exact g,b,by rw[ha];exact q,l,gp.mono p e _ _ r⟩
theorem OK.grow(o:OK K F α H M)(s:jd H H'):OK K F α H' M/\Ext F α H M α H' M:=by
 have oV:∀a,H a≠aq->H' a=H a:=λa h=>by
  cases e:H a with
  |none=>exact absurd e h
  |some x=>exact s a x e
 refine⟨⟨o.ml,o.nd,λa ha=>⟨(o.fr a ha).1,by rw[oV a (vm (o.fr a ha).2)];exact(o.fr a ha).2⟩,λa ha=>by rw[oV a (vm (o.al a ha))];exact o.al a ha,λk x h=>?_,o.tb.same s⟩,⟨aX _,(xr s),λa ha=>oV a (vm (o.fr a ha).2)⟩⟩;obtain⟨a,e,r⟩:=o.own k x h;exact⟨a,e,r.mono (aX _) (xr s) (oV a (o.live a (mz.mpr ⟨k,x,e,h⟩)))⟩
theorem OK.laid(o:OK K F α H M){p:ai}{x:HO}(h:H p=aq):OK K F α (upd H p x) M/\Ext F α H M α (upd H p x) M:=o.grow (rH h)
theorem nw:∀{α β:List ai} {M N:Ms},α.length=M.length->lv (α++β) (M++N)=lv α M++lv β N
 |[],β,[],N,_=>by simp[lv]
 |a::α,β,ae x::M,N,h=>by have:=nw (β:=β) (N:=N) (show α.length=M.length by simpa using h);simp[lv,this]
 |a::α,β,aq::M,N,h=>by have:=nw (β:=β) (N:=N) (show α.length=M.length by simpa using h);simp[lv,this]
theorem OK.vn(o:OK K F α H M){p:ai}{x:OD}(h:H p=aq)(s:jd H H'):jd (iG F α M H) (iG F (α++[p]) (M++[ae x]) H'):=λb y q=>by
 have a:lv (α++[p]) (M++[ae x])=lv α M++[p]:=by rw[nw o.ml];rfl
 have c:=q;obtain⟨z,q⟩:=ij q;have hb:b≠p:=λz=>by rw[z,h] at q;cases q
 show iT _ H' b=_;rw[a];refine ko c (λw=>?_) (s b y q)
 ·simp only [aO,aZ] at w z;rcases w with(w|w)|w
  ·exact z (.inl w)
  ·exact hb w
  ·exact z (.inr w)
theorem OK.enter(o:OK K F α H M){p:ai}{x:OD}(h:H p=aq)(s:jd H H')(r:uw K (α++[p]) (iG F (α++[p]) (M++[ae x]) H') H' x p):
  OK K F (α++[p]) H' (M++[ae x])/\Ext F α H M (α++[p]) H' (M++[ae x]):=by
 have m:p∉α:=λz=>o.al p z (by rw[h]);obtain⟨f,e'⟩:=o.grow s;have g:=o.vn (x:=x) h s;have pf:p∉F:=λz=>(o.fr p z).2 (by rw[h]);refine⟨⟨by simp[o.ml],by rw[List.nodup_append];exact⟨o.nd,by simp,λa ha b hb=>by simp at hb;subst hb;exactλz=>m (z▸ha)⟩,λa ha=>⟨λz=>?_,(f.fr a ha).2⟩,λa ha=>?_,λk y c=>?_,f.tb⟩,⟨ck _ _,g,e'.fr⟩⟩
 ·rcases aO.mp z with z|z
  ·exact(o.fr a ha).1 z
  ·simp at z;subst z;exact pf ha
 ·rcases aO.mp ha with z|z
  ·exact f.al a z
  ·simp at z;subst z;exact r.pq
 ·by_cases i:k<M.length
  ·rw[bp i] at c;obtain⟨a,j,n⟩:=o.own k y c;refine⟨a,by rw[bp (by rw[o.ml];exact i)];exact j,n.mono (ck _ _) g ?_⟩;cases e:H a with
   |none=>exact absurd e (o.live a (mz.mpr ⟨k,y,j,c⟩))
   |some z=>exact s a z e
  ·have:k=M.length:=by have:=(aC.mp c).1;simp at this;omega
   subst this;simp at c;subst c;exact⟨p,by rw[<-o.ml];simp,r⟩
theorem BY:∀{α:List ai} {M:Ms} {k:Nat} {x y:OD},M[k]?=ae (ae x)->lv α (M.set k (ae y))=lv α M
 |[],M,k,x,y,h=>by cases M<;>cases k<;>simp[lv]
 |a::α,[],k,x,y,h=>by simp at h
 |a::α,ae z::M,0,x,y,h=>by simp[lv]
 |a::α,aq::M,0,x,y,h=>by simp at h
 |a::α,ae z::M,k+1,x,y,h=>by simp only [dW,lv];rw[BY (by simpa using h)]
 |a::α,aq::M,k+1,x,y,h=>by simp only [dW,lv];exact BY (by simpa using h)
theorem OK.write(o:OK K F α H M){k:Nat}{x y:OD}{a:ai}{z:HO}(f:M[k]?=ae (ae x))(ha:α[k]?=ae a)(r:∀m,m=iG F α M H->uw K α m (upd H a z) y a):
  OK K F α (upd H a z) (M.set k (ae y))/\Ext F α H M α (upd H a z) (M.set k (ae y)):=by
 have B:lv α (M.set k (ae y))=lv α M:=BY f;have hm:a∈lv α M:=mz.mpr ⟨k,x,ha,f⟩;have g:iG F α (M.set k (ae y)) (upd H a z)=iG F α M H:=by
  funext b;show iT _ _ b=iT _ _ b;rw[B];by_cases hb:b∈lv α M++F
  ·rw[km hb,km hb]
  ·rw[i7 hb,i7 hb,gy (λe=>hb (by rw[e];exact br _ hm))]
 have n:a∉F:=λw=>(o.fr a w).1 (bu ha);refine⟨⟨by simp[o.ml],o.nd,λb hb=>⟨(o.fr b hb).1,by rw[gy (λe=>n (by rw[<-e];exact hb))];exact(o.fr b hb).2⟩,λb hb=>(by
  by_cases e:b=a
  ·subst e;exact(r _ rfl).pq
  ·rw[gy e];exact o.al b hb),λj w c=>?_,o.tb.upd (.inl (o.al a (bu ha)))⟩,⟨aX _,by rw[g];exact jd.refl _,λb hb=>gy (λe=>n (by rw[<-e];exact hb))⟩⟩
 have h:k<M.length:=(aC.mp f).1;by_cases i:j=k
 ·subst i;rw[b9 h] at c;cases c;exact⟨a,ha,r _ g⟩
 ·rw[cn (b4 i)] at c;obtain⟨b,p,C⟩:=o.own j w c;have E:b≠a:=λe=>i (by subst e;have q:=aC.mp ha;have u:=aC.mp p;exact(List.getElem_inj (h₀:=u.1) (h₁:=q.1) o.nd).mp (u.2.trans q.2.symm))
  refine⟨b,p,?_⟩;rw[g];exact C.mono (aX _) (jd.refl _) (gy E)
theorem R.set(r:R K F α H σ δ M){i:Nat}{d:D}{v:V}(q:Rep K α (iG F α M H) d v):R K F α H (σ.set i (ae v)) (δ.set i (ae d)) M:=by
 have b:=r.len;refine⟨r.ok,by simp[b],λj e h=>?_⟩;by_cases a:j=i
 ·subst a;have c:j<δ.length:=by
   rcases Nat.lt_or_ge j δ.length with x|x
   ·exact x
   ·rw[List.getElem?_eq_none (by simpa using x)] at h;cases h
  rw[b9 c] at h;cases h;exact⟨v,b9 (by omega),q⟩
 ·rw[cn (b4 a)] at h ⊢;exact r.sl j e h
end
end L3
namespace L3
open PySem PySem.Spec PyProof.Rows L2
theorem PE.weak{X:Cx}{e:aS}{t a:TE}(h:PE X e t)(w:∀σ H Q,a σ H Q->t σ H Q):PE X e a:=λpins s σ H Q I q=>h pins s σ H Q I (w σ H Q q)
theorem PT.weak{X:Cx}{e:aS}{t a:TT}(h:PT X e t)(w:∀σ H Q,a σ H Q->t σ H Q):PT X e a:=λpins s σ H Q I q=>h pins s σ H Q I (w σ H Q q)
theorem PW.weak{X:Cx}{e:aS}{t a:TT}(h:PW X e t)(w:∀σ H Q,a σ H Q->t σ H Q):PW X e a:=λb pins s σ H Q I q=>h b pins s σ H Q I (w σ H Q q)
theorem PA.weak{X:Cx}{e:List aS}{t a:TA}(h:PA X e t)(w:∀σ H Q,a σ H Q->t σ H Q):PA X e a:=λpos pins s σ H Q I q=>h pos pins s σ H Q I (w σ H Q q)
theorem PS.weak{X:Cx}{e:b3}{t a:TS}(h:PS X e t)(w:∀D σ H,a D σ H->t D σ H):PS X e a:=λpins s σ H D I q=>h pins s σ H D I (w D σ H q)
theorem rn.weak{X:Cx}{e:List b3}{t a:TS}(h:rn X e t)(w:∀D σ H,a D σ H->t D σ H):rn X e a:=λpins s σ H D I q=>h pins s σ H D I (w D σ H q)
abbrev DK:=D->Ms->Prop
abbrev DE:=j2->Ms->DK->Prop
abbrev DT:=j2->Ms->(Bool->Ms->Prop)->Prop
abbrev DA:=j2->Ms->(List D->Ms->Prop)->Prop
abbrev vK(K:W.Frag)(F α:List ai)(H:Hp)(M:Ms)(Q:VK):DK:=λd c=>∀v a b,Ext F α H M a b c->OK K F a b c->Rep K a (iG F a c b) d v->Q v b
abbrev bK(K:W.Frag)(F α:List ai)(H:Hp)(M:Ms)(Q:Bool->Hp->Prop):Bool->Ms->Prop:=λb c=>∀e a,Ext F α H M e a c->OK K F e a c->Q b a
abbrev aK(K:W.Frag)(F α:List ai)(H:Hp)(M:Ms)(Q:List V->Hp->Prop):List D->Ms->Prop:=λds c=>∀e a b,Ext F α H M a b c->OK K F a b c->gp K a (iG F a c b) ds e->Q e b
def lE (K:W.Frag)(t:DE):TE:=λσ H Q=>∃F α a M,R K F α H σ a M/\t a M (vK K F α H M Q)
def lT (K:W.Frag)(t:DT):TT:=λσ H Q=>∃F α a M,R K F α H σ a M/\t a M (bK K F α H M Q)
def lA (K:W.Frag)(t:DA):TA:=λσ H Q=>∃F α a M,R K F α H σ a M/\t a M (aK K F α H M Q)
structure JE(X:Cx)(e:aS)(t:DE):Prop where
 mono:∀δ M (P Q:DK),(∀d M,P d M->Q d M)->t δ M P->t δ M Q
 p:PE X e (lE X.K t)
structure JT(X:Cx)(e:aS)(t:DT):Prop where
 mono:∀δ M (P Q:Bool->Ms->Prop),(∀d M,P d M->Q d M)->t δ M P->t δ M Q
 p:PT X e (lT X.K t)
structure JW(X:Cx)(e:aS)(t:DT):Prop where
 mono:∀δ M (P Q:Bool->Ms->Prop),(∀d M,P d M->Q d M)->t δ M P->t δ M Q
 p:PW X e (lT X.K t)
structure JA(X:Cx)(es:List aS)(t:DA):Prop where
 mono:∀δ M (P Q:List D->Ms->Prop),(∀d M,P d M->Q d M)->t δ M P->t δ M Q
 p:PA X es (lA X.K t)
section
variable {K:W.Frag} {F α gO:List ai} {H H':Hp} {M M':Ms}
theorem vK.grow{Q:VK}(e:Ext F α H M gO H' M'):∀d a,vK K F α H M Q d a->vK K F gO H' M' Q d a:=λd a h v b c e2 f g=>h v b c (e.trans e2) f g
theorem bK.grow{Q:Bool->Hp->Prop}(e:Ext F α H M gO H' M'):∀d a,bK K F α H M Q d a->bK K F gO H' M' Q d a:=λd a h b c e2 f=>h b c (e.trans e2) f
theorem vK.now{Q:VK}{d:D}{v:V}(o:OK K F α H M)(h:vK K F α H M Q d M)(r:Rep K α (iG F α M H) d v):Q v H:=h v α H Ext.refl o r
theorem vK.new{Q:VK}{d:D}{v:V}{p:ai}{x:HO}(o:OK K F α H M)(a:H p=aq)(h:vK K F α H M Q d M)(r:Ext F α H M α (upd H p x) M->Rep K α (iG F α M (upd H p x)) d v):Q v (upd H p x):=
 let⟨b,e'⟩:=o.laid (x:=x) a;h v α _ e' b (r e')
end
abbrev G2:=D->D->Ms->DK->Prop
abbrev GN:=List D->Ms->DK->Prop
def rD (K:W.Frag)(g:G2):R2:=λx y H Q=>∃F α M a b,OK K F α H M/\Rep K α (iG F α M H) a x/\Rep K α (iG F α M H) b y/\g a b M (vK K F α H M Q)
def YQ (K:W.Frag)(g:GN):List V->Hp->VK->Prop:=λxs H Q=>∃F α M ds,OK K F α H M/\gp K α (iG F α M H) ds xs/\g ds M (vK K F α H M Q)
abbrev uf(g:G2):Prop:=∀x y M (P Q:DK),(∀d M,P d M->Q d M)->g x y M P->g x y M Q
abbrev mP(g:GN):Prop:=∀xs M (P Q:DK),(∀d M,P d M->Q d M)->g xs M P->g xs M Q
structure JO(X:Cx)(op:aaq)(g:G2):Prop where
 mono:uf g
 p:oP X (binaryOp op) (rD X.K g)
structure JC(X:Cx)(op:aak)(g:G2):Prop where
 mono:uf g
 p:oP X (compareOp op) (rD X.K g)
structure JX(X:Cx)(g:G2):Prop where
 mono:uf g
 p:Oy X (rD X.K g)
structure JB(X:Cx)(f:af)(g:GN):Prop where
 mono:mP g
 p:nk X f (YQ X.K g)
abbrev GS:=D->Option Int->Option Int->Ms->DK->Prop
def Wn (K:W.Frag)(g:GS):V->Option Int->Option Int->Hp->VK->Prop:=λx lo hi H Q=>∃F α M d,OK K F α H M/\Rep K α (iG F α M H) d x/\g d lo hi M (vK K F α H M Q)
structure JSl(X:Cx)(g:GS):Prop where
 mono:∀x lo hi M (P Q:DK),(∀d M,P d M->Q d M)->g x lo hi M P->g x lo hi M Q
 p:Jn X (Wn X.K g)
section
variable {X:Cx} {a b c e:aS} {es rest:List aS} {ta tb tc te:DE} {tA FZ:DT} {tt:DA} {pos p p2 p3:cC} {x:av}
def gj (i:Nat):DE:=λf M Q=>match f[i]? with|some (ae d)=>Q d M|_=>False
theorem gF(i:Nat)(f:X.N[i]?=ae x:=by rfl)(g:Ji X.env.scope x:=by first|exact eH rfl|exact di (eH rfl)|exact di (di rfl))(hd:(x==("__debug__":av))=ao:=by decide)
(j:(x==("__classdict__":av))=ao:=by decide):JE X (.Name x pos) (gj i):=by
 refine⟨λm M P Q h q=>?_,PE.weak (uZ f g hd j) λσ H Q h=>?_⟩
 ·unfold gj at*;split at q
  ·exact h _ _ q
  ·exact q
 ·obtain⟨F,α,m,M,r,h⟩:=h;unfold gj at h;split at h
  ·rename_i d hd;obtain⟨v,e,q⟩:=r.sl i d hd;exact⟨v,e,vK.now r.ok h q⟩
  ·exact h.elim
def dC (d:D):DE:=λ_ M Q=>Q d M
theorem Rb{d:D}{v:V}(h:PE X e (tC v))(r:∀α H,Rep X.K α H d v):JE X e (dC d):=
 ⟨λf M P Q h q=>h _ _ q,PE.weak h λσ H Q ⟨F,α,f,M,g,h⟩=>vK.now g.ok h (r _ _)⟩
theorem gA{i j}:JE X (.Constant (.int i) j pos) (dC (.int i)):=Rb FY λ_ _=>iI
theorem qG{b j}:JE X (.Constant (.bool b) j pos) (dC (.bl b)):=Rb RK λ_ _=>iF
theorem mC{j}:JE X (.Constant .none j pos) (dC .non):=Rb NX λ_ _=>lY
theorem gu{y j}:JE X (.Constant (.str y) j pos) (dC (.str y)):=Rb BI λ_ _=>kl
theorem GK{d:D}{v:V}{u:af}(hm:X.mg x=ae u)(r:RelV v u)(f:∀α H,Rep X.K α H d v)(g:Gl X x:=by rfl)(hd:(x==("__debug__":av))=ao:=by decide):JE X (.Name x pos) (dC d):=Rb (C5 g hm r hd) f
theorem pW{i:Int}(hm:∃t,X.mg x=ae (.int i t))(f:Gl X x:=by rfl)(hd:(x==("__debug__":av))=ao:=by decide):JE X (.Name x pos) (dC (.int i)):=by obtain⟨t,hm⟩:=hm;exact GK (v:=.int i) hm ⟨t,rfl⟩ (λ_ _=>iI) f hd
theorem nP{C:ai}(hm:X.mg x=ae (.ref C))(f:Gl X x:=by rfl)(hd:(x==("__debug__":av))=ao:=by decide):JE X (.Name x pos) (dC (.cls C)):=GK (v:=.ref C) hm rfl (λ_ _=>Kt) f hd
theorem sV{n:String}(hm:X.mg x=aq)(f:bV x=ae (.type n))(g:Gl X x:=by rfl)(hn:x≠"__name__":=by decide)(hd:(x==("__debug__":av))=ao:=by decide):JE X (.Name x pos) (dC (.ty n)):=
 Rb (JJ (v:=.ty n) g hm f rfl hn hd) λ_ _=>OQ
def gD (g:G2)(ta tb:DE):DE:=λf M Q=>ta f M λx M1=>tb f M1 λy M2=>g x y M2 Q
theorem vo{g:G2}(mg:uf g)(ha:JE X a ta)(hb:JE X b tb):∀f M (P Q:DK),(∀d M,P d M->Q d M)->gD g ta tb f M P->gD g ta tb f M Q:=
 λf M P Q h q=>ha.mono f _ _ _ (λd M1 q=>hb.mono f _ _ _ (λi M2 q=>mg d i M2 P Q h q) q) q
theorem Dn{g:G2}(mg:uf g)(ha:JE X a ta)(hb:JE X b tb){σ:L2.St}{H:Hp}{Q:VK}(h:lE X.K (gD g ta tb) σ H Q):Q4 (rD X.K g) (lE X.K ta) (lE X.K tb) σ H Q:=by
 obtain⟨F,α,f,M,r,h⟩:=h;exact⟨F,α,f,M,r,ha.mono f _ _ _ (λi M1 j v m H1 e1 n o=>⟨F,m,f,M1,r.grow e1 n,hb.mono f _ _ _ (λq M2 w u y B e2 z A=>
  ⟨F,y,M2,i,q,z,e2.rep o,A,mg _ _ _ _ _ (vK.grow (e1.trans e2)) w⟩) j⟩) h⟩
theorem im{op:aaq}{g:G2}(o:JO X op g)(ha:JE X a ta)(hb:JE X b tb):JE X (.BinOp a op b pos) (gD g ta tb):=⟨vo o.mono ha hb,PE.weak (RS o.p ha.p hb.p) λσ H Q h=>Dn o.mono ha hb h⟩
theorem rJ{op:aak}{g:G2}(o:JC X op g)(ha:JE X a ta)(hb:JE X b tb)(hm:dG op b=ao:=by rfl):JE X (.Compare a [op] [b] pos) (gD g ta tb):=⟨vo o.mono ha hb,PE.weak (JQ o.p ha.p hb.p hm) λσ H Q h=>Dn o.mono ha hb h⟩
theorem jy{g:G2}(o:JX X g)(ha:JE X a ta)(hb:JE X b tb)(f:Dh b:=by exactλ_ _=>rfl):JE X (.Subscript a b pos) (gD g ta tb):=⟨vo o.mono ha hb,PE.weak (Sc o.p ha.p hb.p f) λσ H Q h=>Dn o.mono ha hb h⟩
def gz (te:DE):DT:=λf M Q=>te f M λd M1=>match d with|.bl b=>Q b M1|_=>False
theorem qH(h:JE X e te):∀f M (P Q:Bool->Ms->Prop),(∀d M,P d M->Q d M)->gz te f M P->gz te f M Q:=λf M P Q w q=>h.mono f _ _ _ (λd M1 q=>by cases d<;>first|exact w _ _ q|exact q) q
theorem iM(h:JE X e te)(j:∀f,aaF e X.env f=(do let v<-f;aaC e.pos;holding [v] (truthy v)):=by intro _;rfl):JT X e (gz te):=by
 refine⟨qH h,PT.weak (NY h.p j) λσ H Q q=>?_⟩;obtain⟨F,α,g,M,r,q⟩:=q;refine⟨F,α,g,M,r,h.mono g _ _ _ (λd M1 q v m H1 e1 n i=>?_) q⟩;cases d<;>first|exact q.elim|skip
 unfold Rep at i;exact⟨_,i,q m H1 e1 n⟩
theorem gU{op:aak}{g:G2}(o:JC X op g)(ha:JE X a ta)(hb:JE X b tb)(hm:dG op b=ao:=by rfl):JT X (.Compare a [op] [b] pos) (gz (gD g ta tb)):=by
 have f:JE X (.Compare a [op] [b] pos) (gD g ta tb):=rJ o ha hb hm;refine⟨qH f,PT.weak (JR o.p ha.p hb.p hm) λσ H Q q=>?_⟩;obtain⟨F,α,h,M,r,q⟩:=q;refine Dn o.mono ha hb ⟨F,α,h,M,r,f.mono h _ _ _ (λd M1 q v j H1 e1 m i=>?_) q⟩;cases d<;>first|exact q.elim|skip
 unfold Rep at i;exact⟨_,i,q j H1 e1 m⟩
def k9 (t:DT):DT:=λf M Q=>t f M λb M1=>Q (!b) M1
theorem ku(h:JT X a tA):JT X (.UnaryOp .Not a pos) (k9 tA):=
 ⟨λf M P Q w q=>h.mono f _ _ _ (λb M1 q=>w _ _ q) q,PT.weak (NZ h.p) λσ H Q ⟨F,α,f,M,r,q⟩=>⟨F,α,f,M,r,q⟩⟩
theorem kD(h:JW X e tA):JT X e tA:=⟨h.mono,h.p.pt⟩
def ny (t u:DT):DT:=λf M Q=>t f M λb M1=>if b=aj then u f M1 Q else Q ao M1
def uI (t u:DT):DT:=λf M Q=>t f M λb M1=>if b=aj then Q aj M1 else u f M1 Q
theorem l5(h:JT X a tA):JW X (.BoolOp .And [a] pos) tA:=⟨h.mono,pw_and1 h.p⟩
theorem m4(h:JT X a tA):JW X (.BoolOp .Or [a] pos) tA:=⟨h.mono,pw_or1 h.p⟩
theorem lP(ha:JT X a tA)(hb:JW X (.BoolOp .And (b::rest) pos) FZ):JW X (.BoolOp .And (a::b::rest) pos) (ny tA FZ):=by
 refine⟨λf M P Q w q=>ha.mono f _ _ _ (λb M1 q=>?_) q,PW.weak (pw_and ha.p hb.p) λσ H Q q=>?_⟩
 ·cases b with
  |true=>rw[if_pos rfl] at q ⊢;exact hb.mono f _ _ _ w q
  |false=>rw[if_neg am] at q ⊢;exact w _ _ q
 ·obtain⟨F,α,f,M,r,q⟩:=q;refine⟨F,α,f,M,r,ha.mono f _ _ _ (λb M1 q g H1 e1 h=>?_) q⟩;cases b with
  |true=>
   rw[if_pos rfl] at q;show(if aj=aj then _ else _);rw[if_pos rfl];exact⟨F,g,f,M1,r.grow e1 h,hb.mono f _ _ _ (bK.grow e1) q⟩
  |false=>
   rw[if_neg am] at q;show(if ao=aj then _ else _);rw[if_neg am];exact q g H1 e1 h
theorem oQ(ha:JT X a tA)(hb:JW X (.BoolOp .Or (b::rest) pos) FZ):JW X (.BoolOp .Or (a::b::rest) pos) (uI tA FZ):=by
 refine⟨λf M P Q w q=>ha.mono f _ _ _ (λb M1 q=>?_) q,PW.weak (pw_or ha.p hb.p) λσ H Q q=>?_⟩
 ·cases b with
  |true=>rw[if_pos rfl] at q ⊢;exact w _ _ q
  |false=>rw[if_neg am] at q ⊢;exact hb.mono f _ _ _ w q
 ·obtain⟨F,α,f,M,r,q⟩:=q;refine⟨F,α,f,M,r,ha.mono f _ _ _ (λb M1 q g H1 e1 h=>?_) q⟩;cases b with
  |false=>
   rw[if_neg am] at q;show(if ao=aj then _ else _);rw[if_neg am];exact⟨F,g,f,M1,r.grow e1 h,hb.mono f _ _ _ (bK.grow e1) q⟩
  |true=>
   rw[if_pos rfl] at q;show(if aj=aj then _ else _);rw[if_pos rfl];exact q g H1 e1 h
def mQ (ta tb:DE):DE:=λf M Q=>ta f M λx M1=>match x with|.bl aj=>tb f M1 Q|.bl ao=>Q (.bl ao) M1|_=>False
def GL (ta:DE):DE:=λf M Q=>ta f M λx M1=>match x with|.bl b=>Q (.bl (!b)) M1|_=>False
theorem xt{op}(h:JE X a te):JE X (.BoolOp op [a] pos) te:=⟨h.mono,N0 h.p⟩
theorem vq(ha:JE X a ta)(hb:JE X (.BoolOp .And (b::rest) pos) tb):JE X (.BoolOp .And (a::b::rest) pos) (mQ ta tb):=by
 refine⟨λf M P Q w q=>ha.mono f _ _ _ (λd M1 q=>?_) q,PE.weak (N1 ha.p hb.p) λσ H Q q=>?_⟩
 ·cases d<;>first|exact q.elim|skip
  rename_i b;cases b with
  |true=>exact hb.mono f _ _ _ w q
  |false=>exact w _ _ q
 ·obtain⟨F,α,f,M,r,q⟩:=q;refine⟨F,α,f,M,r,ha.mono f _ _ _ (λd M1 q v h H1 e1 i g=>?_) q⟩;cases d<;>first|exact q.elim|skip
  unfold Rep at g;rename_i b;cases b with
  |true=>
   refine⟨aj,g,?_⟩;rw[if_pos rfl];exact⟨F,h,f,M1,r.grow e1 i,hb.mono f _ _ _ (vK.grow e1) q⟩
  |false=>
   refine⟨ao,g,?_⟩;rw[if_neg am];exact q _ h H1 e1 i iF
theorem Sz(ha:JE X a ta):JE X (.UnaryOp .Not a pos) (GL ta):=by
 refine⟨λf M P Q w q=>ha.mono f _ _ _ (λd M1 q=>?_) q,PE.weak (N3 ha.p) λσ H Q q=>?_⟩
 ·cases d<;>first|exact q.elim|exact w _ _ q
 ·obtain⟨F,α,f,M,r,q⟩:=q;refine⟨F,α,f,M,r,ha.mono f _ _ _ (λd M1 q v h H1 e1 i g=>?_) q⟩;cases d<;>first|exact q.elim|skip
  unfold Rep at g;exact⟨_,g,q _ h H1 e1 i iF⟩
def Rc (t:DT)(ta tb:DE):DE:=λf M Q=>t f M λc M1=>if c=aj then ta f M1 Q else tb f M1 Q
theorem Ku(hc:JT X c tA)(ha:JE X a ta)(hb:JE X b tb):JE X (.IfExp c a b pos) (Rc tA ta tb):=by
 refine⟨λf M P Q w q=>hc.mono f _ _ _ (λb M1 q=>?_) q,PE.weak (F0 hc.p ha.p hb.p) λσ H Q q=>?_⟩
 ·cases b with
  |true=>rw[if_pos rfl] at q ⊢;exact ha.mono f _ _ _ w q
  |false=>rw[if_neg am] at q ⊢;exact hb.mono f _ _ _ w q
 ·obtain⟨F,α,f,M,r,q⟩:=q;refine⟨F,α,f,M,r,hc.mono f _ _ _ (λb M1 q g H1 e1 h=>?_) q⟩;cases b with
  |true=>
   rw[if_pos rfl] at q;show(if aj=aj then _ else _);rw[if_pos rfl];exact⟨F,g,f,M1,r.grow e1 h,ha.mono f _ _ _ (vK.grow e1) q⟩
  |false=>
   rw[if_neg am] at q;show(if ao=aj then _ else _);rw[if_neg am];exact⟨F,g,f,M1,r.grow e1 h,hb.mono f _ _ _ (vK.grow e1) q⟩
def jA (g i:G2)(ta tb tc:DE):DE:=λf M Q=>ta f M λx M1=>tb f M1 λy M2=>g x y M2 λz h=>match z with|.bl aj=>tc f h λw j=>i y w j Q|.bl ao=>Q (.bl ao) h|_=>False
theorem z7{op i:aak}{g h:G2}(o:JC X op g)(j:JC X i h)(ha:JE X a ta)(hb:JE X b tb)(hc:JE X c tc):∀f M (P Q:DK),(∀d M,P d M->Q d M)->jA g h ta tb tc f M P->jA g h ta tb tc f M Q:=
 λf M P Q w q=>ha.mono f _ _ _ (λx M1 q=>hb.mono f _ _ _ (λy M2 q=>o.mono _ _ _ _ _ (λz m q=>by
  cases z<;>first|exact q.elim|skip
  rename_i k;cases k with
  |true=>exact hc.mono f _ _ _ (λu n q=>j.mono _ _ _ _ _ w q) q
  |false=>exact w _ _ q) q) q) q
theorem xu{op B:aak}{g i:G2}(o:JC X op g)(C:JC X B i)(ha:JE X a ta)(hb:JE X b tb)(hc:JE X c tc){σ:L2.St}{H:Hp}{Q:VK}(h:lE X.K (jA g i ta tb tc) σ H Q):BN (rD X.K g) (rD X.K i) (lE X.K ta) (lE X.K tb) (lE X.K tc) σ H Q:=by
 obtain⟨F,α,f,M,r,h⟩:=h;refine⟨F,α,f,M,r,ha.mono f _ _ _ (λE M1 G v I H1 e1 J L=>⟨F,I,f,M1,r.grow e1 J,hb.mono f _ _ _ (λm M2 N u O H2 e2 T n=>?_) G⟩) h⟩;refine⟨F,O,M2,E,m,T,e2.rep L,n,o.mono _ _ _ _ _ (λd U j w q Y e3 y A=>?_) N⟩;have rK:=(e1.trans e2).trans e3;cases d<;>first|exact j.elim|skip
 unfold Rep at A;rename_i k;refine⟨k,A,?_⟩;cases k with
 |false=>rw[if_neg am];exact j _ q Y rK y iF
 |true=>
  rw[if_pos rfl];refine⟨F,q,f,U,r.grow rK y,hc.mono f _ _ _ (λdc M4 h5 z qk H4 e4 o4 r4=>?_) j⟩;exact⟨F,qk,M4,m,dc,o4,(e3.trans e4).rep n,r4,C.mono _ _ _ _ _ (vK.grow (rK.trans e4)) h5⟩
theorem nQ{op f:aak}{g j:G2}(o:JC X op g)(i:JC X f j)(ha:JE X a ta)(hb:JE X b tb)(hc:JE X c tc)(hm:aaL [op,f] [b,c]=ao:=by with_unfolding_all rfl):JE X (.Compare a [op,f] [b,c] pos) (jA g j ta tb tc):=
 ⟨z7 o i ha hb hc,PE.weak (Gb o.p i.p ha.p hb.p hc.p hm) λσ H Q h=>xu o i ha hb hc h⟩
theorem vt{op f:aak}{g h:G2}(o:JC X op g)(i:JC X f h)(ha:JE X a ta)(hb:JE X b tb)(hc:JE X c tc)(hm:aaL [op,f] [b,c]=ao:=by with_unfolding_all rfl):JT X (.Compare a [op,f] [b,c] pos) (gz (jA g h ta tb tc)):=by
 have j:JE X (.Compare a [op,f] [b,c] pos) (jA g h ta tb tc):=nQ o i ha hb hc hm;refine⟨qH j,PT.weak (Gc o.p i.p ha.p hb.p hc.p hm) λσ H Q q=>?_⟩;obtain⟨F,α,m,M,r,q⟩:=q;refine xu o i ha hb hc ⟨F,α,m,M,r,j.mono m _ _ _ (λd M1 q v u H1 e1 w n=>?_) q⟩;cases d<;>first|exact q.elim|skip
 unfold Rep at n;exact⟨_,n,q u H1 e1 w⟩
def gq:DA:=λ_ M Q=>Q [] M
def gg (te:DE)(tt:DA):DA:=λf M Q=>te f M λx M1=>tt f M1 λxs M2=>Q (x::xs) M2
theorem gm:JA X [] gq:=⟨λf M P Q w q=>w _ _ q,PA.weak Gd λσ H Q ⟨F,α,f,M,r,q⟩=>q [] α H Ext.refl r.ok gp.nil⟩
theorem gc(ha:JE X e te)(g:JA X es tt)(h:aJ (e::es) X.env=(ao,eval e X.env)::aJ es X.env:=by rfl):JA X (e::es) (gg te tt):=by refine⟨λf M P Q w q=>ha.mono f _ _ _ (λx M1 q=>g.mono f _ _ _ (λxs M2 q=>w _ _ q) q) q,PA.weak (xY ha.p g.p h) λσ H Q q=>?_⟩;obtain⟨F,α,f,M,r,q⟩:=q;refine⟨F,α,f,M,r,ha.mono f _ _ _ (λd M1 q v i H1 e1 j m=>⟨F,i,f,M1,r.grow e1 j,g.mono f _ _ _ (λds M2 q n o u e2 y z=>?_) q⟩) q⟩;exact q (v::n) o u (e1.trans e2) y (gp.cons (e2.rep m) z)
theorem kE{K:W.Frag}{F α:List ai}{H:Hp}{M:Ms}{p:ai}{ds:List D}{f:List V}(o:OK K F α H M)(g:H p=aq)(h:gp K α (iG F α M H) ds f)(e:Ext F α H M α (upd H p (.lst f)) M):Rep K α (iG F α M (upd H p (.lst f))) (.lst ds) (.ref p):=by unfold Rep;exact⟨p,f,rfl,by show iT _ _ p=_;rw[i7 (o.new g),gH],e.z6 h⟩
theorem kF{K:W.Frag}{F α:List ai}{H:Hp}{M:Ms}{p:ai}{ds:List D}{f:List V}(o:OK K F α H M)(g:H p=aq)(h:gp K α (iG F α M H) ds f)(e:Ext F α H M α (upd H p (.tup f)) M):Rep K α (iG F α M (upd H p (.tup f))) (.tup ds) (.ref p):=by unfold Rep;exact⟨p,f,rfl,.inl (.inl (by show iT _ _ p=_;rw[i7 (o.new g),gH])),e.z6 h⟩
def i3 (tt:DA):DE:=λf M Q=>tt f M λds M1=>ds.length<=ax/\Q (.tup ds) M1
theorem kg{x1}(h:JA X es tt):JE X (.Tuple es x1 pos) (i3 tt):=by refine⟨λf M P Q w q=>h.mono f _ _ _ (λds M1 q=>⟨q.1,w _ _ q.2⟩) q,PE.weak (Op h.p) λσ H Q q=>?_⟩;obtain⟨F,α,f,M,r,q⟩:=q;refine⟨F,α,f,M,r,h.mono f _ _ _ (λds M1 q m n H1 e1 g i=>?_) q⟩;exact⟨by rw[<-gp.length ds m i];exact q.1,λp j=>vK.new g j (vK.grow e1 _ _ q.2) (kF g j i)⟩
def hZ (g:GN)(tt:DA):DE:=λf M Q=>tt f M λds M1=>g ds M1 Q
theorem vy{g:GN}(m:mP g)(ha:JA X es tt):∀f M (P Q:DK),(∀d M,P d M->Q d M)->hZ g tt f M P->hZ g tt f M Q:=λf M P Q w q=>ha.mono f _ _ _ (λds M1 q=>m _ _ _ _ w q) q
theorem GO{f:af}{g:GN}(o:JB X f g)(ha:JA X es tt){σ:L2.St}{H:Hp}{Q:VK}(h:lE X.K (hZ g tt) σ H Q):VT (YQ X.K g) (lA X.K tt) σ H Q:=by obtain⟨F,α,i,M,r,h⟩:=h;exact⟨F,α,i,M,r,ha.mono i _ _ _ (λds M1 q u j H1 e1 m n=>⟨F,j,M1,ds,m,n,o.mono _ _ _ _ (vK.grow e1) q⟩) h⟩
theorem mD{id:String}{g:GN}(o:JB X (.builtin id) g)(hm:X.mg x=aq)(f:bV x=ae (.builtin id))(ha:JA X (e::es) tt)(i:Gl X x:=by rfl)(hn:x≠"__name__":=by decide)(j:(x==("__debug__":av))=ao:=by decide)
(m:aJ (e::es) X.env=(ao,eval e X.env)::aJ es X.env:=by rfl)(n:(cb pos (aJ es X.env)).any (·.1)=ao:=by rfl):JE X (.Call (.Name x p) (e::es) [] pos) (hZ g tt):=
 ⟨vy o.mono ha,PE.weak (Gg o.p i hm f ha.p hn j m n) λσ H Q h=>GO o ha h⟩
theorem MT{T:String}{g:GN}(o:JB X (.type T) g)(hm:X.mg x=aq)(f:bV x=ae (.type T))(ha:JA X (e::es) tt)(i:Gl X x:=by rfl)(hn:x≠"__name__":=by decide)(j:(x==("__debug__":av))=ao:=by decide)
(m:aJ (e::es) X.env=(ao,eval e X.env)::aJ es X.env:=by rfl)(n:(cb pos (aJ es X.env)).any (·.1)=ao:=by rfl):JE X (.Call (.Name x p) (e::es) [] pos) (hZ g tt):=
 ⟨vy o.mono ha,PE.weak (EA o.p i hm f ha.p hn j m n) λσ H Q h=>GO o ha h⟩
def mR (K:W.Frag)(g:GN):Sp:=λf H Q _=>∃F α M ds,OK K F α H M/\gp K α (iG F α M H) ds f/\g ds M (vK K F α H M Q)
structure iA(P:aw)(w:aN)(K:W.Frag)(mg:av->Option af)(base:az)(k:Nat)(x:av)(ps:List av)(g:GN):Prop where
 mono:mP g
 p:nv P w K mg base k x ps (mR K g)
theorem iA.up{P:aw}{w:aN}{K:W.Frag}{mg:av->Option af}{base:az}{j k:Nat}{x:av}{ps:List av}{g:GN}(h:iA P w K mg base j x ps g)(f:j<=k):iA P w K mg base k x ps g:=⟨h.mono,h.p.mono f⟩
theorem iN{k:Nat}{ps:List av}{g:GN}(h:iA X.prog X.w X.K X.mg X.base k x ps g)(i:js k X.A)(ha:JA X (e::es) tt)(j:Gl X x:=by rfl)(m:(x==("__debug__":av))=ao:=by decide)
(n:aJ (e::es) X.env=(ao,eval e X.env)::aJ es X.env:=by rfl)(o:(cb pos (aJ es X.env)).any (·.1)=ao:=by rfl):JE X (.Call (.Name x p) (e::es) [] pos) (hZ g tt):=by refine⟨vy h.mono ha,PE.weak (Sv h.p i ha.p j m n o) λσ H Q q=>?_⟩;obtain⟨F,α,f,M,r,q⟩:=q;refine⟨F,α,f,M,r,ha.mono f _ _ _ (λds M1 q u v H1 e1 y z=>?_) q⟩;show mR X.K g (u++[]) H1 Q E0;rw[bf];exact⟨F,v,M1,ds,y,z,h.mono _ _ _ _ (vK.grow e1) q⟩
end
end L3
namespace L2
open PySem PySem.Spec PyProof.Rows
section
variable {X:Cx} {pins:List (ai×bR)} {σ:St} {H:Hp} {s:ah} {a:ai} {gM:List (Key×V)}
theorem Inv.ghost{w w':HO}(I:Inv X pins σ H s)(ha:H a=ae w)(g:∀xs,w≠.tup xs)(j:∀x,w≠.own x)(y:∀ps,w≠.BG ps)(A:∀o u,X.il a≠ae (.oX o u))
(ok:iD X.prog X.w (upd H a w') s.heap a w'):Inv X pins σ (upd H a w') s:=by
 have f:∀b,H b=aq->b≠a:=λb h z=>by rw[z,ha] at h;cases h
 refine⟨I.ok,I.os,I.bare,⟨I.base.keep,I.base.slot,λb o q n B=>?_,I.base.there,λb xs q=>?_,λb o u q=>?_,λb ps q=>?_⟩,I.loc,I.cell,?_,λx c e=>?_,λp C=>?_,λb ob q=>?_,I.len⟩
 ·have:=I.base.free b o q n B;rw[gy (f b this)];exact this
 ·have:=I.base.jU b xs q;rw[gy λz=>by rw[z,ha] at this;exact g xs (bq this)];exact this
 ·have:=I.base.pd b o u q;rw[gy λz=>A o u (by rw[<-z];exact q)];exact this
 ·obtain⟨m,e⟩:=I.base.qA b ps q;exact⟨m,by rw[gy λz=>by rw[z,ha] at e;exact y _ (bq e)];exact e⟩
 ·rw[gy (f _ I.free)];exact I.free
 ·rw[gy (f _ (I.kC x c e))];exact I.kC x c e
 ·obtain⟨E,i,G⟩:=I.pin p C;exact⟨E,by rw[gy (f _ i)];exact i,G⟩
 ·by_cases z:b=a
  ·subst z;rw[gH] at q;cases q;exact ok
  ·rw[gy z] at q;refine(I.iE b ob q).qi (λc v _ r=>r) (λc r=>?_) (λc xs r=>?_)
   ·rw[gy λz=>by rw[z,ha] at r;exact j _ (bq r)];exact r
   ·rw[gy λz=>by rw[z,ha] at r;exact g _ (bq r)];exact r
theorem Inv.ux{o:bR}(I:Inv X pins σ H s)(ha:H a=ae (.oX o (.dK gM)))(b:∀o u,X.il a≠ae (.oX o u)):Inv X pins σ (upd H a (.dK gM)) s:=by obtain⟨_,z,hd,f,r,ob,es,g,e,c⟩:=(show iD X.prog X.w H s.heap a (.oX o (.dK gM)) from I.iE a _ ha);exact I.ghost ha (λ_ z=>by cases z) (λ_ z=>by cases z) (λ_ z=>by cases z) b ⟨z,hd,f,r,ob,es,g,e,c⟩
def TH (X:Cx)(P:Hp->Prop)(H:Hp):Prop:=P H\/∃a o gM,H a=ae (.oX o (.dK gM))/\(∀o u,X.il a≠ae (.oX o u))/\P (upd H a (.dK gM))
theorem TH.get{P:Hp->Prop}(I:Inv X pins σ H s)(h:TH X P H):∃b,Inv X pins σ b s/\P b:=by
 rcases h with h|⟨a,o,gM,e,n,h⟩
 ·exact⟨H,I,h⟩
 ·exact⟨_,I.ux e n,h⟩
noncomputable def YR(X:Cx)(D:Ends):Ends:=⟨λσ=>TH X (D.nx σ),λv=>TH X (D.rt v),λσ=>TH X (D.bk σ),λσ=>TH X (D.ct σ)⟩
theorem z8{st:b3}{t n:TS}(h:PS X st t)(w:∀D σ H,n D σ H->t (YR X D) σ H):PS X st n:=λpins s σ H D I q=>
 ji (h pins s σ H (YR X D) I (w D σ H q)) λf o j=>by
  cases f with
  |next=>obtain⟨b,m,c,q⟩:=j;obtain⟨e,g,i⟩:=TH.get c q;exact⟨b,e,g,i⟩
  |brk=>obtain⟨b,m,c,q⟩:=j;obtain⟨e,g,i⟩:=TH.get c q;exact⟨b,e,g,i⟩
  |cont=>obtain⟨b,m,c,q⟩:=j;obtain⟨e,g,i⟩:=TH.get c q;exact⟨b,e,g,i⟩
  |ret u=>obtain⟨v,b,m,c,r,q⟩:=j;obtain⟨e,g,i⟩:=TH.get c q;exact⟨v,b,e,g,r,i⟩
theorem GQ{e:aS}{t b:TE}(h:PE X e t)(w:∀σ H Q,b σ H Q->t σ H (λv=>TH X (Q v))):PE X e b:=λpins s σ H Q I q=>
 ji (h pins s σ H _ I (w σ H Q q)) λu j ⟨v,m,c,r,q⟩=>by obtain⟨f,g,i⟩:=TH.get c q;exact⟨v,f,g,r,i⟩
end
end L2
namespace L3
open PySem PySem.Spec PyProof.Rows L2
def Kv (H c:Hp):Prop:=∀b o,H b=ae o->c b=ae o\/∃a,(o=.dK a\/∃ob,o=.oX ob (.dK a))/\Rd c b (.dK a)
section
variable {K:W.Frag} {H H':Hp} {a:ai}
theorem vz{u:HO}(e:Kv H H')(h:H a=ae u)(c:∀b,u≠.dK b)(f:∀ob b,u≠.oX ob (.dK b)):H' a=ae u:=by
 rcases e a u h with q|⟨b,rfl|⟨ob,rfl⟩,_⟩
 ·exact q
 ·exact absurd rfl (c b)
 ·exact absurd rfl (f ob b)
theorem GR{u:HO}(e:Kv H H')(h:Rd H a u)(c:∀b,u≠.dK b)(f:∀ob b,u≠.oX ob (.dK b)):Rd H' a u:=by
 rcases h with h|⟨o,h⟩
 ·exact .inl (vz e h c f)
 ·exact .inr ⟨o,vz e h (λ_ z=>by cases z) λ_ b z=>by cases z;exact c b rfl⟩
theorem OR{b:List (Key×V)}(e:Kv H H')(h:Rd H a (.dK b)):Rd H' a (.dK b):=by
 rcases h with h|⟨o,h⟩
 ·rcases e a _ h with q|⟨l,z|⟨ob,z⟩,q⟩
  ·exact .inl q
  ·cases z;exact q
  ·cases z
 ·rcases e a _ h with q|⟨l,z|⟨ob,z⟩,q⟩
  ·exact .inr ⟨o,q⟩
  ·cases z
  ·cases z;exact q
theorem GU{xs:List V}(e:Kv H H')(h:t9 K H a xs):t9 K H' a xs:=by
 rcases h with h|h
 ·exact .inl (GR e h (λ_ z=>by cases z) λ_ _ z=>by cases z)
 ·exact .inr h
theorem GV{xs:List V}(e:Kv H H')(h:nj K H a xs):nj K H' a xs:=by
 rcases h with h|h
 ·exact .inl (GR e h (λ_ z=>by cases z) λ_ _ z=>by cases z)
 ·exact .inr h
end
mutual
theorem Rep.alt {K:W.Frag} {α:List ai} {H c:Hp} (e:Kv H c):∀(d:D) (v:V),Rep K α H d v->Rep K α c d v
 |.non,v,h=>by unfold Rep at h ⊢;exact h
 |.bl _,v,h=>by unfold Rep at h ⊢;exact h
 |.int _,v,h=>by unfold Rep at h ⊢;exact h
 |.str _,v,h=>by unfold Rep at h ⊢;exact h
 |.ty _,v,h=>by unfold Rep at h ⊢;exact h
 |.tup ds,v,h=>by unfold Rep at h ⊢;obtain⟨a,b,r,q,z⟩:=h;exact⟨a,b,r,GU e q,gp.alt e ds b z⟩
 |.lst ds,v,h=>by unfold Rep at h ⊢;obtain⟨a,b,r,q,z⟩:=h;exact⟨a,b,r,vz e q (λ_ z=>by cases z) (λ_ _ z=>by cases z),gp.alt e ds b z⟩
 |.oZ ns,v,h=>by unfold Rep at h ⊢;obtain⟨a,r,q⟩:=h;exact⟨a,r,GV e q⟩
 |.jR g ds,v,h=>by unfold Rep at h ⊢;obtain⟨a,b,r,q,l,z⟩:=h;exact⟨a,b,r,OR e q,l,gp.alt e ds b z⟩
 |.ins C ns ds,v,h=>by unfold Rep at h ⊢;obtain⟨a,f,b,r,q,l,z⟩:=h;exact⟨a,f,b,r,vz e q (λ_ z=>by cases z) (λ_ _ z=>by cases z),l,gp.alt e ds b z⟩
 |.exc C ns ds,v,h=>by unfold Rep at h ⊢;obtain⟨a,b,r,q,l,z⟩:=h;exact⟨a,b,r,vz e q (λ_ z=>by cases z) (λ_ _ z=>by cases z),l,gp.alt e ds b z⟩
 |.loc k,v,h=>by unfold Rep at h ⊢;exact h
 |.cls _,v,h=>by unfold Rep at h ⊢;exact h
theorem gp.alt {K:W.Frag} {α:List ai} {H c:Hp} (e:Kv H c):∀(ds:List D) (b:List V),gp K α H ds b->gp K α c ds b
 |[],b,h=>by unfold gp at h ⊢;exact h
 |d::ds,b,h=>by unfold gp at h ⊢;obtain⟨v,r,q,z,y⟩:=h;exact⟨v,r,q,Rep.alt e d v z,gp.alt e ds r y⟩
end
section
variable {K:W.Frag} {F α:List ai} {H:Hp} {M:Ms} {a:ai} {gM:List (Key×V)} {w w':HO}
def Jo (gM:List (Key×V))(w:HO):Prop:=w=.dK gM\/∃ob,w=.oX ob (.dK gM)
theorem Jo.pq(t:Jo gM w):pq (ae w)=ae w:=by rcases t with rfl|⟨ob,rfl⟩<;>rfl
theorem uJ{A:List ai}(ha:H a=ae w)(t:Jo gM w)(c:Jo gM w'):Kv (iT A H) (iT A (upd H a w')):=λb o e=>by
 obtain⟨n,q,v⟩:=my e;by_cases z:b=a
 ·subst z;rw[ha] at q;cases q;refine .inr ⟨gM,t,?_⟩;have g:iT A (upd H b w') b=ae w':=jE n gH c.pq;rcases c with rfl|⟨ob,rfl⟩
  ·exact .inl g
  ·exact .inr ⟨ob,g⟩
 ·exact .inl (jE n (by rw[gy z];exact q) v)
theorem OK.two(o:OK K F α H M)(ha:H a=ae w)(na:a∉lv α M++F)(t:Jo gM w)(f:Jo gM w'):OK K F α (upd H a w') M:=by
 refine⟨o.ml,o.nd,λb hb=>⟨(o.fr b hb).1,?_⟩,λb hb=>?_,λk x h=>?_,o.tb.upd (.inl ?_)⟩
 ·rw[gy λz=>na (bh _ (by rw[<-z];exact hb))];exact(o.fr b hb).2
 ·by_cases z:b=a
  ·rw[z,gH,f.pq];exactλz=>by cases z
  ·rw[gy z];exact o.al b hb
 ·obtain⟨b,e,r⟩:=o.own k x h;have nb:b≠a:=λz=>na (br _ (by rw[<-z];exact mz.mpr ⟨k,x,e,h⟩));refine⟨b,e,?_⟩;have al:Kv (iG F α M H) (iG F α M (upd H a w')):=uJ ha t f;cases x with
  |lst ds=>obtain⟨c,q,r⟩:=r;exact⟨c,by rw[gy nb];exact q,gp.alt al _ _ r⟩
  |jR i ds=>obtain⟨c,q,l,r⟩:=r;exact⟨c,by rw[gy nb];exact q,l,gp.alt al _ _ r⟩
  |ins C ns ds=>obtain⟨j,c,q,l,r⟩:=r;exact⟨j,c,by rw[gy nb];exact q,l,gp.alt al _ _ r⟩
  |fz k m i ds=>obtain⟨g,c,q,l,r⟩:=r;exact⟨g,c,by rw[gy nb];exact q,l,gp.alt al _ _ r⟩
 ·rw[ha,t.pq];exactλz=>by cases z
theorem R.two{σ:L2.St}{b:j2}(r:R K F α H σ b M)(ha:H a=ae w)(na:a∉lv α M++F)(t:Jo gM w)(c:Jo gM w'):R K F α (upd H a w') σ b M:=
 ⟨r.ok.two ha na t c,r.len,λi d q=>by obtain⟨v,e,f⟩:=r.sl i d q;exact⟨v,e,Rep.alt (uJ ha t c) d v f⟩⟩
theorem Ext.ux{c:List ai}{f:Hp}{h:Ms}{ob:bR}(ha:H a=ae (.dK gM))(na:a∉lv α M++F)(e:Ext F α (upd H a (.oX ob (.dK gM))) M c f h):
  f a=ae (.oX ob (.dK gM))/\a∉lv c h++F/\Ext F α H M c (upd f a (.dK gM)) h:=by
 have g:=e.same a _ (jE na gH rfl);obtain⟨i,j⟩:=ij g;refine⟨j,i,e.pre,λb o q=>?_,λb hb=>?_⟩
 ·obtain⟨n,q,v⟩:=my q;by_cases z:b=a
  ·subst z;rw[ha] at q;cases q;exact jE i gH rfl
  ·have:=e.same b o (jE n (by rw[gy z];exact q) v);obtain⟨m,p⟩:=ij this;exact jE m (by rw[gy z];exact p) v
 ·have nb:b≠a:=λz=>na (bh _ (by rw[<-z];exact hb));rw[gy nb,e.fr b hb,gy nb]
end
noncomputable def er(p:ai)(H:Hp):Hp:=λb=>if b=p then aq else H b
structure EK(X:Cx)(F iu:List ai)(H1 Hf:Hp)(M1:Ms)(T:Hp->Hp):Prop where
 ok:OK X.K F iu Hf M1
 rep:∀d v,Rep X.K iu (iG F iu M1 H1) d v->Rep X.K iu (iG F iu M1 Hf) d v
 e:∀gO H' M',Ext F iu Hf M1 gO H' M'->OK X.K F gO H' M'->Ext F iu H1 M1 gO (T H') M'/\OK X.K F gO (T H') M'/\∀d v,Rep X.K gO (iG F gO M' H') d v->Rep X.K gO (iG F gO M' (T H')) d v
 h:∀gO H' M' (P:Hp->Prop),Ext F iu Hf M1 gO H' M'->P (T H')->TH X P H'
 c:∀p H' x,Hf p=aq->H' p=ae x->upd (T (er p H')) p x=T H'
 n:∀p H',Hf p=aq->H' p=aq->T H' p=aq
 k:∀gO H' M' b φ,Ext F iu Hf M1 gO H' M'->H' b=ae (.ext φ)->T H' b=ae (.ext φ)
theorem gp.imp{K:W.Frag}{α:List ai}{H b:Hp}(f:∀d v,Rep K α H d v->Rep K α b d v):∀(ds:List D) (a:List V),gp K α H ds a->gp K α b ds a
 |[],a,h=>by unfold gp at h ⊢;exact h
 |d::ds,a,h=>by unfold gp at h ⊢;obtain⟨v,r,q,z,y⟩:=h;exact⟨v,r,q,f d v z,gp.imp f ds r y⟩
section
variable {X:Cx} {F iu:List ai} {H1 Hf:Hp} {M1:Ms} {T:Hp->Hp}
theorem EK.refl(o:OK X.K F iu H1 M1):EK X F iu H1 H1 M1 id:=
 ⟨o,λ_ _ r=>r,λ_ _ _ e o=>⟨e,o,λ_ _ r=>r⟩,λ_ _ _ _ _ p=>.inl p,λp a x _ h=>by
  funext b;show upd (er p a) p x b=a b;by_cases z:b=p
  ·rw[z,gH,h]
  ·rw[gy z];unfold er;rw[if_neg z],λ_ _ _ h=>h,λ_ _ _ _ _ _ h=>h⟩
theorem EK.rs(z:EK X F iu H1 Hf M1 T){σ:L2.St}{a:j2}(r:R X.K F iu H1 σ a M1):R X.K F iu Hf σ a M1:=⟨z.ok,r.len,λi d q=>by obtain⟨v,b,c⟩:=r.sl i d q;exact⟨v,b,z.rep d v c⟩⟩
theorem EK.rt(z:EK X F iu H1 Hf M1 T){a:List ai}{b:Hp}{c:Ms}{g:L2.St}{h:j2}(e:Ext F iu Hf M1 a b c)(f:R X.K F a b g h c):R X.K F a (T b) g h c:=by
 obtain⟨_,j,m⟩:=z.e _ _ _ e f.ok;exact⟨j,f.len,λi d q=>by obtain⟨v,n,o⟩:=f.sl i d q;exact⟨v,n,m d v o⟩⟩
theorem EK.dict{a:ai}{c:List (Key×V)}{ob:bR}(o:OK X.K F iu H1 M1)(ha:H1 a=ae (.dK c))(na:a∉lv iu M1++F)(q:∀o u,X.il a≠ae (.oX o u)):
  EK X F iu H1 (upd H1 a (.oX ob (.dK c))) M1 (λf=>upd f a (.dK c)):=by
 have t:Jo c (.dK c):=.inl rfl;have j:Jo c (.oX ob (.dK c)):=.inr ⟨ob,rfl⟩;refine⟨o.two ha na t j,λd v r=>Rep.alt (uJ ha t j) d v r,λm f n e o=>?_,λm f n P e p=>?_,λp f x i w=>?_,λp f i hn=>?_,λm f n b G e h=>?_⟩
 ·obtain⟨g,A,B⟩:=Ext.ux ha na e;exact⟨B,o.two g A j t,λd v C=>Rep.alt (uJ g j t) d v C⟩
 ·obtain⟨g,_,_⟩:=Ext.ux ha na e;exact .inr ⟨a,ob,_,g,q,p⟩
 ·have E:p≠a:=λz=>by rw[z,gH] at i;cases i
  funext b;by_cases z:b=p
  ·rw[z,gH,gy E];exact w.symm
  ·rw[gy z];by_cases y:b=a
   ·rw[y,gH,gH]
   ·rw[gy y,gy y];unfold er;rw[if_neg z]
 ·rw[gy λz=>by rw[z,gH] at i;cases i];exact hn
 ·obtain⟨g,_,_⟩:=Ext.ux ha na e;rw[gy λz=>by rw[z,g] at h;cases h];exact h
end
end L3
namespace L3
open PySem PySem.Spec PyProof.Rows L2
def Wo (K:W.Frag)(α:List ai)(c:Hp):OD->HO->Prop
 |.lst ds,b=>∃a,b=.lst a/\gp K α c ds a
 |.jR e ds,b=>∃a,b=.dK (e.zip a)/\e.length=ds.length/\gp K α c ds a
 |.ins _ _ _,_=>False
 |.fz _ _ _ _,_=>False
noncomputable def OD.toD:OD->D
 |.lst ds=>.lst ds
 |.jR a ds=>.jR a ds
 |.ins C ns ds=>.ins C ns ds
 |.fz k _ _ _=>.loc k
abbrev DF:=j2->Ms->(OD->Ms->Prop)->Prop
abbrev fK(K:W.Frag)(F α:List ai)(H:Hp)(M:Ms)(Q:VK):OD->Ms->Prop:=λo M1=>∀p b a H1,Ext F α H M a H1 M1->OK K F a H1 M1->H1 p=aq->Wo K a (iG F a M1 H1) o b->Q (.ref p) (upd H1 p b)
def lF (K:W.Frag)(t:DF):TE:=λσ H Q=>∃F α a M,R K F α H σ a M/\t a M (fK K F α H M Q)
structure JF(X:Cx)(e:aS)(t:DF):Prop where
 mono:∀δ M (P Q:OD->Ms->Prop),(∀d M,P d M->Q d M)->t δ M P->t δ M Q
 p:PE X e (lF X.K t)
section
variable {K:W.Frag} {F α gO:List ai} {H H':Hp} {M M':Ms}
theorem fK.oX{Q:VK}{o:OD}{M1:Ms}(h:vK K F α H M Q o.toD M1):fK K F α H M Q o M1:=by
 intro p j i H1 e1 b c a;have q:vK K F i H1 M1 Q o.toD M1:=vK.grow e1 _ _ h;refine vK.new b c q λe=>?_;cases o with
 |lst ds=>obtain⟨f,rfl,r⟩:=a;exact kE b c r e
 |jR g ds=>
  obtain⟨f,rfl,l,r⟩:=a;show Rep K _ _ (.jR g ds) _;unfold Rep;exact⟨p,f,rfl,.inl (by show iT _ _ p=_;rw[i7 (b.new c),gH]),l,e.z6 r⟩
 |ins C ns ds=>exact a.elim
 |fz k m g ds=>exact a.elim
theorem fK.own{Q:VK}{o:OD}{M1:Ms}(h:vK K F α H M Q (.loc M1.length) (M1++[ae o])):fK K F α H M Q o M1:=by
 intro p f m H1 e1 c a b;have g:=c.vn (x:=o) a (rH (o:=f) a);obtain⟨i,e2⟩:=c.enter (x:=o) (H':=upd H1 p f) a (rH a) (by
  cases o with
  |lst ds=>obtain⟨e,rfl,r⟩:=b;exact⟨e,gH,gp.mono (ck _ _) g _ _ r⟩
  |jR j ds=>obtain⟨e,rfl,l,r⟩:=b;exact⟨e,gH,l,gp.mono (ck _ _) g _ _ r⟩
  |ins C ns ds=>exact b.elim
  |fz k n j ds=>exact b.elim)
 refine h _ _ _ (e1.trans e2) i ?_;unfold Rep;exact⟨p,by rw[<-c.ml];simp,rfl⟩
end
section
variable {X:Cx} {a b c e:aS} {es rest:List aS} {ta tb tc te:DE} {tA FZ:DT} {tt:DA} {pos p p2 p3:cC} {x:av} {tf:DF}
def gS (t:DF):DE:=λf M Q=>t f M λo M1=>Q o.toD M1
def uy (t:DF):DE:=λf M Q=>t f M λo M1=>Q (.loc M1.length) (M1++[ae o])
theorem ie(h:JF X e tf):JE X e (gS tf):=⟨λf M P Q w q=>h.mono f _ _ _ (λo M1 q=>w _ _ q) q,PE.weak h.p λσ H Q ⟨F,α,f,M,r,q⟩=>⟨F,α,f,M,r,h.mono f _ _ _ (λo M1 q=>fK.oX q) q⟩⟩
theorem rL(h:JF X e tf):JE X e (uy tf):=⟨λf M P Q w q=>h.mono f _ _ _ (λo M1 q=>w _ _ q) q,PE.weak h.p λσ H Q ⟨F,α,f,M,r,q⟩=>⟨F,α,f,M,r,h.mono f _ _ _ (λo M1 q=>fK.own q) q⟩⟩
def ii (tt:DA):DF:=λf M Q=>tt f M λds M1=>ds.length<=ax/\Q (.lst ds) M1
theorem gW(h:JA X es tt):JF X (.List es pos) (ii tt):=by refine⟨λf M P Q w q=>h.mono f _ _ _ (λds M1 q=>⟨q.1,w _ _ q.2⟩) q,PE.weak (Oq h.p) λσ H Q q=>?_⟩;obtain⟨F,α,f,M,r,q⟩:=q;refine⟨F,α,f,M,r,h.mono f _ _ _ (λds M1 q g j H1 e1 m i=>?_) q⟩;exact⟨by rw[<-gp.length ds g i];exact q.1,λp n=>q.2 p _ j H1 e1 m n ⟨g,rfl,i⟩⟩
end
structure iV where
 nx:j2->Ms->Prop
 rt:DK
 bk:j2->Ms->Prop
 ct:j2->Ms->Prop
abbrev DS:=iV->j2->Ms->Prop
structure iV.le(P Q:iV):Prop where
 nx:∀δ M,P.nx δ M->Q.nx δ M
 rt:∀d M,P.rt d M->Q.rt d M
 bk:∀δ M,P.bk δ M->Q.bk δ M
 ct:∀δ M,P.ct δ M->Q.ct δ M
theorem iV.le.refl(P:iV):P.le P:=⟨λ_ _ h=>h,λ_ _ h=>h,λ_ _ h=>h,λ_ _ h=>h⟩
abbrev sK(K:W.Frag)(F α:List ai)(H:Hp)(M:Ms)(Q:L2.St->Hp->Prop):j2->Ms->Prop:=λf b=>∀c e a,Ext F α H M e a b->R K F e a c f b->Q c a
noncomputable def lw(K:W.Frag)(F α:List ai)(H:Hp)(M:Ms)(E:Ends):iV:=⟨sK K F α H M E.nx,vK K F α H M E.rt,sK K F α H M E.bk,sK K F α H M E.ct⟩
def lS (K:W.Frag)(t:DS):TS:=λE σ H=>∃F α a M,R K F α H σ a M/\t (lw K F α H M E) a M
section
variable {K:W.Frag} {F α gO:List ai} {H H':Hp} {M M':Ms}
theorem sK.grow{Q:L2.St->Hp->Prop}(e:Ext F α H M gO H' M'):∀d a,sK K F α H M Q d a->sK K F gO H' M' Q d a:=λd a h v b c e2 f=>h v b c (e.trans e2) f
theorem lw.grow{E:Ends}(e:Ext F α H M gO H' M'):(lw K F α H M E).le (lw K F gO H' M' E):=⟨sK.grow e,vK.grow e,sK.grow e,sK.grow e⟩
end
structure JS(X:Cx)(st:b3)(t:DS):Prop where
 mono:∀(P Q:iV) δ M,P.le Q->t P δ M->t Q δ M
 p:PS X st (lS X.K t)
structure wJ(X:Cx)(st:List b3)(t:DS):Prop where
 mono:∀(P Q:iV) δ M,P.le Q->t P δ M->t Q δ M
 p:rn X st (lS X.K t)
section
variable {X:Cx} {c e:aS} {te:DE} {tA:DT} {t u:DS} {pos p p2:cC} {x:av} {st:b3} {BC as bs:List b3}
def gK:DS:=λE a M=>E.nx a M
def gC (t u:DS):DS:=λE a M=>t {E with nx:=u E} a M
theorem g8:wJ X [] gK:=⟨λP Q a M w q=>w.nx _ _ q,rn.weak C6 λE σ H ⟨F,α,a,M,r,q⟩=>q σ α H Ext.refl r⟩
theorem gB(h:JS X st t):wJ X [st] t:=⟨h.mono,C7 h.p⟩
theorem gr(a:JS X st t)(b:wJ X BC u):wJ X (st::BC) (gC t u):=by refine⟨λP Q f M w q=>a.mono {P with nx:=u P} {Q with nx:=u Q} _ _ ⟨λf M q=>b.mono _ _ _ _ w q,w.rt,w.bk,w.ct⟩ q,rn.weak (rz a.p b.p) λE σ H q=>?_⟩;obtain⟨F,α,f,M,r,q⟩:=q;refine⟨F,α,f,M,r,a.mono {lw X.K F α H M E with nx:=u (lw X.K F α H M E)} _ _ _ ⟨λg M1 q j h H1 e1 i=>⟨F,h,g,M1,i,b.mono _ _ _ _ (lw.grow e1) q⟩,λ_ _ q=>q,λ_ _ q=>q,λ_ _ q=>q⟩ q⟩
def gL (te:DE):DS:=λE a M=>te a M E.rt
theorem gG(b:JE X e te):JS X (.Return (ae e) pos) (gL te):=⟨λP Q a M w q=>b.mono a _ _ _ w.rt q,PS.weak (F2 b.p) λE σ H ⟨F,α,a,M,r,q⟩=>⟨F,α,a,M,r,q⟩⟩
def ik (c:DT)(t u:DS):DS:=λE a M=>c a M λb M1=>if b=aj then t E a M1 else u E a M1
theorem iq(hc:JT X c tA)(ha:wJ X as t)(hb:wJ X bs u):JS X (.If c as bs pos) (ik tA t u):=by
 refine⟨λP Q a M w q=>hc.mono a _ _ _ (λb M1 q=>?_) q,PS.weak (Mw hc.p ha.p hb.p) λE σ H q=>?_⟩
 ·cases b with
  |true=>rw[if_pos rfl] at q ⊢;exact ha.mono _ _ _ _ w q
  |false=>rw[if_neg am] at q ⊢;exact hb.mono _ _ _ _ w q
 ·obtain⟨F,α,a,M,r,q⟩:=q;refine⟨F,α,a,M,r,hc.mono a _ _ _ (λb M1 q f H1 e1 g=>?_) q⟩;cases b with
  |true=>
   rw[if_pos rfl] at q;show(if aj=aj then _ else _);rw[if_pos rfl];exact⟨F,f,a,M1,r.grow e1 g,ha.mono _ _ _ _ (lw.grow e1) q⟩
  |false=>
   rw[if_neg am] at q;show(if ao=aj then _ else _);rw[if_neg am];exact⟨F,f,a,M1,r.grow e1 g,hb.mono _ _ _ _ (lw.grow e1) q⟩
def lW (te:DE):DS:=λE a M=>te a M λ_ M1=>E.nx a M1
theorem kM(b:JE X e te)(f:fH e aq pos.line X.env=pure ao:=by rfl):JS X (.Expr e pos) (lW te):=by refine⟨λP Q a M w q=>b.mono a _ _ _ (λd M1 q=>w.nx _ _ q) q,PS.weak (C8 b.p f) λE σ H q=>?_⟩;obtain⟨F,α,a,M,r,q⟩:=q;exact⟨F,α,a,M,r,b.mono a _ _ _ (λd M1 q v g H1 e1 h i=>q σ g H1 e1 (r.grow e1 h)) q⟩
def ip (i:Nat)(te:DE):DS:=λE a M=>te a M λd M1=>E.nx (a.set i (ae d)) M1
theorem gX(i:Nat)(f:X.N.Nodup)(b:JE X e te)(hi:X.N[i]?=ae x:=by rfl)(g:Loc X.env.scope x:=by first|exact eH rfl|exact di rfl)(h:fH e (ae (.Name x p)) pos.line X.env=pure ao:=by rfl)
(j:X.fn x=aj\/X.env.scope.names.lookup x=ae .local:=by first|exact .inl rfl|exact .inr rfl|assumption):JS X (.Assign [.Name x p] e pos) (ip i te):=by refine⟨λP Q a M w q=>b.mono a _ _ _ (λd M1 q=>w.nx _ _ q) q,PS.weak (N9 f hi g b.p h j) λE σ H q=>?_⟩;obtain⟨F,α,a,M,r,q⟩:=q;exact⟨F,α,a,M,r,b.mono a _ _ _ (λd M1 q v m H1 e1 n o=>q _ m H1 e1 ((r.grow e1 n).set o)) q⟩
abbrev DG:=D->j2->Ms->(j2->Ms->Prop)->Prop
abbrev Dp:=List D->j2->Ms->(j2->Ms->Prop)->Prop
def lG (K:W.Frag)(g:DG):TG:=λv σ H Q=>∃F α a M d,R K F α H σ a M/\Rep K α (iG F α M H) d v/\g d a M (sK K F α H M Q)
def lGs (K:W.Frag)(g:Dp):Jl:=λb σ H Q=>∃F α a M ds,R K F α H σ a M/\gp K α (iG F α M H) ds b/\g ds a M (sK K F α H M Q)
structure JG(X:Cx)(tg:aS)(g:DG):Prop where
 mono:∀d δ M (P Q:j2->Ms->Prop),(∀δ M,P δ M->Q δ M)->g d δ M P->g d δ M Q
 p:PG X tg (lG X.K g)
structure UT(X:Cx)(tg:List aS)(g:Dp):Prop where
 mono:∀d δ M (P Q:j2->Ms->Prop),(∀δ M,P δ M->Q δ M)->g d δ M P->g d δ M Q
 p:F3 X tg (lGs X.K g)
theorem PG.weak{tg:aS}{g a:TG}(h:PG X tg g)(w:∀v σ H Q,a v σ H Q->g v σ H Q):PG X tg a:=λpins s σ H v u Q I r q=>h pins s σ H v u Q I r (w v σ H Q q)
theorem F3.weak{tg:List aS}{g a:Jl}(h:F3 X tg g)(w:∀v σ H Q,a v σ H Q->g v σ H Q):F3 X tg a:=λpins s σ H v u Q I r q=>h pins s σ H v u Q I r (w v σ H Q q)
def gQ (i:Nat):DG:=λd a M Q=>Q (a.set i (ae d)) M
theorem iy(i:Nat)(a:X.N.Nodup)(hi:X.N[i]?=ae x:=by rfl)(b:Loc X.env.scope x:=by first|exact eH rfl|exact di rfl)(f:X.fn x=aj\/X.env.scope.names.lookup x=ae .local:=by first|exact .inl rfl|exact .inr rfl|assumption):JG X (.Name x pos) (gQ i):=
 ⟨λd g M P Q w q=>w _ _ q,PG.weak (JK a hi b f) λv σ H Q ⟨F,α,g,M,d,r,rd,q⟩=>q _ α H Ext.refl (r.set rd)⟩
def py:Dp:=λds a M Q=>ds=[]/\Q a M
def jf (g:DG)(gs:Dp):Dp:=λds a M Q=>match ds with|d::r=>g d a M λb M1=>gs r b M1 Q|[]=>False
theorem pY:UT X [] py:=⟨λd a M P Q w q=>⟨q.1,w _ _ q.2⟩,F3.weak JL λv σ H Q ⟨F,α,a,M,ds,r,rd,e,q⟩=>by subst e;unfold gp at rd;exact⟨rd,q σ α H Ext.refl r⟩⟩
theorem jN{g:DG}{gs:Dp}{es:List aS}(a:JG X e g)(b:UT X es gs)(h:(du (e::es) X.env).map (·.2)=assign e X.env::(du es X.env).map (·.2):=by rfl):UT X (e::es) (jf g gs):=by
 refine⟨λd f M P Q w q=>?_,F3.weak (F4 a.p b.p h) λv σ H Q q=>?_⟩
 ·cases d with
  |nil=>exact q.elim
  |cons d r=>exact a.mono _ _ _ _ _ (λf M q=>b.mono _ _ _ _ _ w q) q
 ·obtain⟨F,α,f,M,ds,r,rd,q⟩:=q;cases ds with
  |nil=>exact q.elim
  |cons d i=>
   unfold gp at rd;obtain⟨v1,j,rfl,m,n⟩:=rd;refine⟨v1,j,rfl,F,α,f,M,d,r,m,a.mono _ _ _ _ _ (λo M1 q A y H1 e1 z=>?_) q⟩;exact⟨F,y,o,M1,i,z,e1.z6 n,b.mono _ _ _ _ _ (sK.grow e1) q⟩
def nz (n:Nat)(gs:Dp):DG:=λd a M Q=>match d with|.tup ds=>ds.length=n/\gs ds a M Q|_=>False
theorem sX{es:List aS}{k n:Nat}{gs:Dp}(h:UT X es gs)(hc:X.calm=aj:=by rfl)(hn:(du es X.env).length=n:=by rfl)(f:(du es X.env).findIdx? (·.1)=aq:=by rfl):JG X (.Tuple es k pos) (nz n gs):=by
 refine⟨λd b M P Q w q=>?_,PG.weak (N6 hc h.p hn f) λv σ H Q q=>?_⟩
 ·cases d<;>first|exact q.elim|exact⟨q.1,h.mono _ _ _ _ _ w q.2⟩
 ·obtain⟨F,α,b,M,d,r,rd,q⟩:=q;cases d<;>first|exact q.elim|skip
  unfold Rep at rd;obtain⟨a,g,rfl,i,z⟩:=rd;exact⟨a,g,rfl,mr hX i,by rw[<-gp.length _ _ z];exact q.1,F,α,b,M,_,r,z,q.2⟩
def Kw (te:DE)(g:DG):DS:=λE a M=>te a M λd M1=>g d a M1 E.nx
theorem GW{tg:aS}{g:DG}(b:JE X e te)(f:JG X tg g)(h:abE [tg] e pos.line X.env=pure ao:=by rfl)(hw:abF [tg] e X.env=pure aq:=by rfl)
(i:(du [tg] X.env).map (·.2)=[assign tg X.env]:=by rfl):JS X (.Assign [tg] e pos) (Kw te g):=by refine⟨λP Q a M w q=>b.mono a _ _ _ (λd M1 q=>f.mono _ _ _ _ _ w.nx q) q,PS.weak (N8 b.p f.p h hw i) λE σ H q=>?_⟩;obtain⟨F,α,a,M,r,q⟩:=q;refine⟨F,α,a,M,r,b.mono a _ _ _ (λd M1 q v j H1 e1 m n=>?_) q⟩;exact⟨F,j,a,M1,d,r.grow e1 m,n,f.mono _ _ _ _ _ (sK.grow e1) q⟩
structure SA(K:W.Frag)(F iu:List ai)(H1:Hp)(M1:Ms)(J:It)(items:List D)(st:Ms->Prop):Prop where
 go:∀i F' gO H' M',iu <+: gO->jd (iG F iu M1 H1) (iG F' gO M' H')->OK K F' gO H' M'->st M'->i<items.length->J.go i H'
 Mz:∀(i:Nat) F' gO H' M' x H2 d,iu <+: gO->jd (iG F iu M1 H1) (iG F' gO M' H')->OK K F' gO H' M'->st M'->items[i]?=ae d->J.Mz i H' x H2->OK K F' gO H2 M'/\Ext F' gO H' M' gO H2 M'/\Rep K gO (iG F' gO M' H2) d x
 stop:∀F' gO H' M',iu <+: gO->jd (iG F iu M1 H1) (iG F' gO M' H')->OK K F' gO H' M'->st M'->J.stop items.length H'
abbrev DI:=j2->Ms->(List D->(Ms->Prop)->Ms->Prop)->Prop
abbrev iK(X:Cx)(F α:List ai)(H:Hp)(M:Ms)(Q:It->Hp->Prop):List D->(Ms->Prop)->Ms->Prop:=λitems st M1=>∀J a H1 b T,Ext F α H M a H1 M1->OK X.K F a H1 M1->EK X F a H1 b M1 T->SA X.K F a b M1 J items st->Q J b
def lI (X:Cx)(t:DI):TI:=λσ H Q=>∃F α a M,R X.K F α H σ a M/\t a M (iK X F α H M Q)
structure JI(X:Cx)(tg e:aS)(t:DI):Prop where
 mono:∀δ M (P Q:List D->(Ms->Prop)->Ms->Prop),(∀l s M,P l s M->Q l s M)->t δ M P->t δ M Q
 p:PI X tg e (lI X t)
theorem PI.weak{tg:aS}{t a:TI}(h:PI X tg e t)(w:∀σ H Q,a σ H Q->t σ H Q):PI X tg e a:=λpins s σ H Q I q=>h pins s σ H Q I (w σ H Q q)
def l8 (g:DG)(tb:DS)(st:Ms->Prop)(E:iV):List D->j2->Ms->Prop
 |[]=>λb M=>E.nx b M
 |x::xs=>λb M=>g x b M λh M1=>tb {E with nx:=λf a=>st a/\l8 g tb st E xs f a,ct:=λf a=>st a/\l8 g tb st E xs f a,bk:=E.nx} h M1
def vA (ti:DI)(g:DG)(tb:DS):DS:=λE a M=>ti a M λitems st M1=>st M1/\l8 g tb st E items a M1
theorem sY{g:DG}{tb:DS}{st:Ms->Prop}(h:∀d b M (P Q:j2->Ms->Prop),(∀b M,P b M->Q b M)->g d b M P->g d b M Q)(hb:∀(P Q:iV) b M,P.le Q->tb P b M->tb Q b M){P Q:iV}(w:P.le Q):∀xs b M,l8 g tb st P xs b M->l8 g tb st Q xs b M
 |[],b,M,q=>w.nx _ _ q
 |x::xs,b,M,q=>h _ _ _ _ _ (λi M1 q=>hb {P with nx:=λf a=>st a/\l8 g tb st P xs f a,ct:=λf a=>st a/\l8 g tb st P xs f a,bk:=P.nx} {Q with nx:=λf a=>st a/\l8 g tb st Q xs f a,ct:=λf a=>st a/\l8 g tb st Q xs f a,bk:=Q.nx} _ _ ⟨λf a q=>⟨q.1,sY h hb w xs f a q.2⟩,w.rt,w.nx,λf a q=>⟨q.1,sY h hb w xs f a q.2⟩⟩ q) q
theorem qI{tg:aS}{body:List b3}{ti:DI}{g:DG}{tb:DS}(hi:JI X tg e ti)(hg:JG X tg g)(hb:wJ X body tb)(hp:aaw (model X.prog X.w) X.A X.env X.xe:=by exact aaw.never)(hc:X.calm=aj:=by rfl)
(hs:∀x,ej e X.env x=pure x:=by intro _;rfl):JS X (.For tg e body [] pos) (vA ti g tb):=by
 refine⟨λP Q I M w q=>hi.mono I _ _ _ (λitems st M1 q=>⟨q.1,sY hg.mono hb.mono w _ _ _ q.2⟩) q,z8 (F6 hp hc hi.p hg.p hb.p hs) λE σ H q=>?_⟩;obtain⟨F,α,I,M,r,q⟩:=q;refine⟨F,α,I,M,r,hi.mono I _ _ _ (λitems st M1 q J iu H1 Hf T e1 o1 z it=>?_) q⟩;obtain⟨s1,q⟩:=q;refine⟨λi m iP j=>m=items.length- i/\i<=items.length/\∃f O a,Ext F iu Hf M1 f j a/\R X.K F f j iP O a/\st a/\l8 g tb st (lw X.K F α H M E) (items.drop i) O a,⟨_,rfl,bx _,iu,I,M1,Ext.refl,z.rs (r.grow e1 o1),s1,q⟩,?_⟩
 rintro i m iP j ⟨rfl,YS,f,O,a,e',G,s',U⟩
 by_cases Y:i<items.length
 ·rw[cS Y] at U;refine .inr ⟨it.go i F f j a e'.pre e'.same G.ok s' Y,λzQ L=>∃nO Kx M2,Ext F iu Hf M1 nO L M2/\R X.K F nO L zQ Kx M2/\st M2/\l8 g tb st (lw X.K F α H M E) (items.drop (i+1)) Kx M2,λzQ L h=>⟨_,by omega,rfl,Y,h⟩,λx L y=>?_⟩;obtain⟨o2,e2,rx⟩:=it.Mz i F f j a x L items[i] e'.pre e'.same G.ok s' (by simp[Y]) y;refine⟨F,f,O,a,items[i],G.grow e2 o2,rx,hg.mono _ _ _ _ _ (λGX M3 q3 F7 sW H3 e3 r3=>⟨F,sW,GX,M3,r3,hb.mono _ _ _ _ ?_ q3⟩) U⟩;have rK:=(e'.trans e2).trans e3;refine⟨λJp n C Ky b o e4 B=>⟨b,Jp,n,rK.trans e4,B,C⟩,λd n C v b o e4 o4 B=>?_,λJp n C Ky b o e4 B=>?_,λJp n C Ky b o e4 B=>⟨b,Jp,n,rK.trans e4,B,C⟩⟩
  ·obtain⟨N,t2,t3⟩:=z.e b o n (rK.trans e4) o4;exact z.h b o n _ (rK.trans e4) (C v b (T o) (e1.trans N) t2 (t3 d v B))
  ·obtain⟨N,_,_⟩:=z.e b o n (rK.trans e4) B.ok;exact z.h b o n _ (rK.trans e4) (C Ky b (T o) (e1.trans N) (z.rt (rK.trans e4) B))
 ·have e:i=items.length:=by omega
  subst e;rw[ef] at U;obtain⟨N,_,_⟩:=z.e f j a e' G.ok;exact .inl ⟨it.stop F f j a e'.pre e'.same G.ok s',z.h f j a _ e' (U iP f (T j) (e1.trans N) (z.rt e' G))⟩
end
end L3
namespace L3
open PySem PySem.Spec PyProof.Rows L2
mutual
noncomputable def nl:D->Bool
 |.non|.bl _|.int _|.str _|.ty _|.oZ _|.cls _=>aj
 |.loc _=>ao
 |.tup ds|.lst ds|.jR _ ds|.ins _ _ ds|.exc _ _ ds=>ql ds
noncomputable def ql:List D->Bool
 |[]=>aj
 |d::ds=>nl d&&ql ds
end
mutual
theorem Rep.nl {K:W.Frag} {α β:List ai} {H:Hp}:∀(d:D) (v:V),L3.nl d=aj->Rep K α H d v->Rep K β H d v
 |.non,v,_,h=>by unfold Rep at h ⊢;exact h
 |.bl _,v,_,h=>by unfold Rep at h ⊢;exact h
 |.int _,v,_,h=>by unfold Rep at h ⊢;exact h
 |.str _,v,_,h=>by unfold Rep at h ⊢;exact h
 |.ty _,v,_,h=>by unfold Rep at h ⊢;exact h
 |.oZ _,v,_,h=>by unfold Rep at h ⊢;exact h
 |.cls _,v,_,h=>by unfold Rep at h ⊢;exact h
 |.loc _,v,n,h=>by unfold L3.nl at n;cases n
 |.tup ds,v,n,h=>by unfold Rep at h ⊢;unfold L3.nl at n;obtain⟨a,b,r,q,z⟩:=h;exact⟨a,b,r,q,gp.nl ds b n z⟩
 |.lst ds,v,n,h=>by unfold Rep at h ⊢;unfold L3.nl at n;obtain⟨a,b,r,q,z⟩:=h;exact⟨a,b,r,q,gp.nl ds b n z⟩
 |.jR e ds,v,n,h=>by unfold Rep at h ⊢;unfold L3.nl at n;obtain⟨a,b,r,q,l,z⟩:=h;exact⟨a,b,r,q,l,gp.nl ds b n z⟩
 |.ins C ns ds,v,n,h=>by unfold Rep at h ⊢;unfold L3.nl at n;obtain⟨a,c,b,r,q,l,z⟩:=h;exact⟨a,c,b,r,q,l,gp.nl ds b n z⟩
 |.exc C ns ds,v,n,h=>by unfold Rep at h ⊢;unfold L3.nl at n;obtain⟨a,b,r,q,l,z⟩:=h;exact⟨a,b,r,q,l,gp.nl ds b n z⟩
theorem gp.nl {K:W.Frag} {α β:List ai} {H:Hp}:∀(d:List D) (v:List V),L3.ql d=aj->gp K α H d v->gp K β H d v
 |[],v,_,h=>by unfold gp at h ⊢;exact h
 |d::ds,v,n,h=>by unfold gp at h ⊢;unfold L3.ql at n;rw[aD] at n;obtain⟨u,r,q,z,y⟩:=h;exact⟨u,r,q,Rep.nl d u n.1 z,gp.nl ds r n.2 y⟩
end
theorem uK:∀ds:List D,ql ds=ds.all nl
 |[]=>rfl
 |d::ds=>by unfold ql;rw[dm,uK ds]
theorem kN{β:Type}{f:β->D}(h:∀b,nl (f b)=aj)(l:List β):ql (l.map f)=aj:=by rw[uK];simp[h]
noncomputable def OS(k:Nat):Option (Option OD)->D
 |some (ae o)=>o.toD
 |_=>.loc k
noncomputable def vw(M:Ms):D->D
 |.loc k=>OS k M[k]?
 |d=>d
noncomputable def fz(M:Ms):D->D
 |.tup ds=>.tup (ds.map (vw M))
 |d=>vw M d
section
variable {K:W.Frag} {F α:List ai} {H:Hp} {M:Ms}
theorem l9:jd (iG F α M H) (iT F H):=λb o e=>by obtain⟨z,q⟩:=ij e;exact ko e (λw=>z (bh _ w)) q
theorem OK.Wp(o:OK K F α H M){a:ai}(h:a∈α):a∉F:=λw=>(o.fr a w).1 h
theorem sZ(o:OK K F α H M):∀(d:D) (v:V),Rep K α (iG F α M H) d v->Rep K α (iT F H) (vw M d) v:=λd v h=>by
 have gen:Rep K α (iT F H) d v:=Rep.mono (aX _) l9 d v h;cases d with
 |loc k=>
  show Rep K α _ (OS k M[k]?) v;cases e:M[k]? with
  |none=>exact gen
  |some x=>
   cases x with
   |none=>exact gen
   |some y=>
    obtain⟨a,g,c⟩:=o.own k y e;unfold Rep at h;obtain⟨p,i,rfl⟩:=h;rw[g] at i;cases i;have f:a∉F:=o.Wp (bu g);cases y with
    |lst ds=>
     obtain⟨b,q,r⟩:=c;show Rep K α _ (.lst ds) _;unfold Rep;exact⟨a,b,rfl,jE f q rfl,gp.mono (aX _) l9 _ _ r⟩
    |jR m ds=>
     obtain⟨b,q,l,r⟩:=c;show Rep K α _ (.jR m ds) _;unfold Rep;exact⟨a,b,rfl,.inl (jE f q rfl),l,gp.mono (aX _) l9 _ _ r⟩
    |ins C ns ds=>
     obtain⟨n,b,q,l,r⟩:=c;show Rep K α _ (.ins C ns ds) _;unfold Rep;exact⟨a,n,b,rfl,jE f q rfl,l,gp.mono (aX _) l9 _ _ r⟩
    |fz j u m ds=>
     show Rep K α _ (.loc j) _;unfold Rep;exact⟨a,c.1,rfl⟩
 |_=>exact gen
theorem jB{k:Nat}{d:D}(e:vw M (.loc k)=d):d=.loc k\/∃o,M[k]?=ae (ae o)/\d=o.toD:=by
 have e:OS k M[k]?=d:=e;cases h:M[k]? with
 |none=>rw[h] at e;exact .inl e.symm
 |some x=>
  cases x with
  |none=>rw[h] at e;exact .inl e.symm
  |some o=>rw[h] at e;exact .inr ⟨o,rfl,e.symm⟩
theorem Dq(o:OK K F α H M):∀(ds:List D) (a:List V),gp K α (iG F α M H) ds a->gp K α (iT F H) (ds.map (vw M)) a
 |[],a,h=>by unfold gp at h;subst h;exact gp.nil
 |d::ds,a,h=>by unfold gp at h;obtain⟨v,r,rfl,z,y⟩:=h;exact gp.cons (sZ o d v z) (Dq o ds r y)
theorem OT(o:OK K F α H M):∀(d:D) (v:V),Rep K α (iG F α M H) d v->Rep K α (iT F H) (fz M d) v:=λd v h=>by
 cases d with
 |tup ds=>
  unfold Rep at h;obtain⟨a,b,rfl,c,z⟩:=h;show Rep K α _ (.tup _) _;unfold Rep;exact⟨a,b,rfl,mr l9 c,Dq o _ _ z⟩
 |_=>exact sZ o _ v h
theorem jF(o:OK K F α H M){d:D}{v:V}{ds:List D}(h:Rep K α (iG F α M H) d v)(e:vw M d=.lst ds):∃a b,v=.ref a/\H a=ae (.lst b)/\gp K α (iG F α M H) ds b:=by
 cases d with
 |lst es=>
  cases(show(D.lst es)=.lst ds from e);unfold Rep at h;obtain⟨a,b,rfl,q,z⟩:=h;exact⟨a,b,rfl,hX _ _ q,z⟩
 |loc k=>
  rcases jB e with e|⟨x,f,e⟩
  ·cases e
  ·cases x<;>cases e;obtain⟨a,g,b,q,r⟩:=o.own k _ f;unfold Rep at h;obtain⟨i,c,rfl⟩:=h;rw[g] at c;cases c;exact⟨a,b,rfl,q,r⟩
 |_=>cases e
theorem Kz{A:List ai}{H:Hp}{b:ai}{u:HO}(h:Rd (iT A H) b u):b∉A/\Rd H b u:=by
 rcases h with h|⟨o,h⟩
 ·exact⟨(ij h).1,.inl (ij h).2⟩
 ·exact⟨(ij h).1,.inr ⟨o,(ij h).2⟩⟩
theorem _root_.L2.nq.kr{H:Hp}{a:ai}{b:List (Key×V)}{k:Key}(e:Rd H a (.dK b)):nq H a (kV k) (qE b k):=.inl ⟨b,k,e,rfl,rfl⟩
theorem pz(o:OK K F α H M){d:D}{v:V}{c:List Key}{ds:List D}(h:Rep K α (iG F α M H) d v)(e:vw M d=.jR c ds):∃a b,v=.ref a/\Rd H a (.dK (c.zip b))/\c.length=ds.length/\gp K α (iG F α M H) ds b:=by
 cases d with
 |jR ls es=>
  cases(show(D.jR ls es)=.jR c ds from e);unfold Rep at h;obtain⟨a,b,rfl,q,l,z⟩:=h;exact⟨a,b,rfl,yj hX q,l,z⟩
 |loc k=>
  rcases jB e with e|⟨x,g,e⟩
  ·cases e
  ·cases x<;>cases e;obtain⟨a,i,b,q,l,r⟩:=o.own k _ g;unfold Rep at h;obtain⟨j,f,rfl⟩:=h;rw[i] at f;cases f;exact⟨a,b,rfl,.inl q,l,r⟩
 |_=>cases e
theorem OU(o:OK K F α H M){d:D}{v:V}{C:ai}{ns:List av}{ds:List D}(h:Rep K α (iG F α M H) d v)(e:vw M d=.ins C ns ds):∃a c b,v=.ref a/\H a=ae (.ins C c (ns.zip b))/\ns.length=ds.length/\gp K α (iG F α M H) ds b:=by
 cases d with
 |ins g ls es=>
  cases(show(D.ins g ls es)=.ins C ns ds from e);unfold Rep at h;obtain⟨a,c,b,rfl,q,l,z⟩:=h;exact⟨a,c,b,rfl,hX _ _ q,l,z⟩
 |loc k=>
  rcases jB e with e|⟨x,i,e⟩
  ·cases e
  ·cases x<;>cases e;obtain⟨a,j,c,b,q,l,r⟩:=o.own k _ i;unfold Rep at h;obtain⟨m,f,rfl⟩:=h;rw[j] at f;cases f;exact⟨a,c,b,rfl,q,l,r⟩
 |_=>cases e
theorem BZ{d:D}{ds:List D}(e:vw M d=.tup ds):d=.tup ds:=by
 cases d with
 |loc k=>rcases jB e with e|⟨x,a,e⟩<;>first|cases e|(cases x<;>cases e)
 |_=>exact e
theorem kO{d:D}{x:av}(e:vw M d=.str x):d=.str x:=by
 cases d with
 |loc k=>rcases jB e with e|⟨x,a,e⟩<;>first|cases e|(cases x<;>cases e)
 |_=>exact e
theorem qJ{d:D}{x:List Int}(e:vw M d=.oZ x):d=.oZ x:=by
 cases d with
 |loc k=>rcases jB e with e|⟨x,a,e⟩<;>first|cases e|(cases x<;>cases e)
 |_=>exact e
theorem qK{d:D}{x:Int}(e:vw M d=.int x):d=.int x:=by
 cases d with
 |loc k=>rcases jB e with e|⟨x,a,e⟩<;>first|cases e|(cases x<;>cases e)
 |_=>exact e
theorem lc(o:OK K F α H M){d:D}{v:V}{ds:List D}(h:Rep K α (iG F α M H) d v)(e:vw M d=.tup ds):∃a b,v=.ref a/\t9 K H a b/\gp K α (iG F α M H) ds b:=by cases BZ e;unfold Rep at h;obtain⟨a,b,rfl,q,z⟩:=h;exact⟨a,b,rfl,mr hX q,z⟩
end
abbrev GP:=List D->(D->Prop)->Prop
def cl (g:GP):GN:=λds M Q=>ql ds=aj/\g ds λd=>Q d M
abbrev jS(g:GP):Prop:=∀ds (P Q:D->Prop),(∀d,P d->Q d)->g ds P->g ds Q
theorem KA{g:GP}(m:jS g):mP (cl g):=λxs M P Q w q=>⟨q.1,m _ _ _ (λd q=>w _ _ q) q.2⟩
noncomputable def lf(n:Nat)(ds:List D):j2:=ds.map ae++ba (n- ds.length) aq
def Ds (n m:Nat)(tb:DS):GN:=λds M Q=>ds.length=m/\tb ⟨λ_ a=>Q .non a,Q,λ_ _=>False,λ_ _=>False⟩ (lf n ds) M
def mO (n m:Nat)(tb:DS):GP:=λds Q=>ds.length=m/\tb ⟨λ_ _=>Q .non,λd a=>nl (fz a d)=aj/\Q (fz a d),λ_ _=>False,λ_ _=>False⟩ (lf n ds) []
section
variable {P:aw} {w:aN} {K:W.Frag} {mg:av->Option af} {base:az}
theorem uL{F α:List ai}{H:Hp}{M:Ms}{N:List av}{ds:List D}{a:List V}(o:OK K F α H M)(r:gp K α (iG F α M H) ds a):R K F α H (L2.start N a) (lf N.length ds) M:=by
 have b:=gp.length _ _ r;refine⟨o,by simp[L2.start,lf,b],λi d h=>?_⟩;unfold lf at h;by_cases hi:i<ds.length
 ·rw[bp (by simpa using hi)] at h;rw[bD] at h;cases e:ds[i]? with
  |none=>rw[e] at h;cases h
  |some x=>
   rw[e] at h;cases h;obtain⟨v,e1,c⟩:=gp.get ds a i d r e;refine⟨v,?_,c⟩;unfold L2.start;rw[bp (by simp;omega),bD,e1];rfl
 ·rw[bT (by simp;omega)] at h;have:=bu h;rw[List.mem_replicate] at this;cases this.2
theorem OV{n:List av}{ps:List av}{X:Cx}{body:List b3}{tb:DS}(b:wJ X body tb){H:Hp}{c:List V}{Q:VK}{E:XK}(f:X.K=K)(h:mR K (Ds n.length ps.length tb) c H Q E):
  ∃t,QB X body t/\t {nx:=λ_ a=>Q .non a,rt:=Q} (L2.start n c) H:=by subst f;obtain⟨F,α,M,ds,o,r,i,q⟩:=h;refine⟨_,⟨b.p⟩,F,α,lf n.length ds,M,uL o r,?_⟩;refine b.mono _ _ _ _ ?_ q;exact⟨λj m q u g a e r=>q _ g a e r.ok lY,λ_ _ q=>q,λ_ _ q=>q.elim,λ_ _ q=>q.elim⟩
theorem kx{F α:List ai}{H:Hp}{M:Ms}{g:List ai}{c:Hp}{M2:Ms}(o:OK K F α H M)(e2:Ext (lv α M++F) [] H [] g c M2)(j:OK K (lv α M++F) g c M2):Ext F α H M α c M/\OK K F α c M:=by
 have f:jd (iG F α M H) (iG F α M c):=λb x h=>l9 _ _ (e2.same b x (by show iT (lv [] []++(lv α M++F)) H b=_;exact h))
 have fr:∀a∈lv α M++F,c a=H a:=e2.fr;have al:∀a,pq (H a)≠aq->pq (c a)≠aq:=λa h=>by
  by_cases z:a∈lv α M++F
  ·rw[fr a z];exact h
  ·cases e:H a with
   |none=>exact absurd (by rw[e]) h
   |some x=>
    rw[e] at h;have v:pq (ae x)=ae x:=by cases x<;>first|rfl|exact absurd rfl h
    have:=hX _ _ (f a x (show iT _ H a=_ from jE z e v));rw[this,v];exactλz=>by cases z
 refine⟨⟨aX _,f,λa ha=>fr a (bh _ ha)⟩,o.ml,o.nd,λa ha=>⟨(o.fr a ha).1,al a (o.fr a ha).2⟩,λa ha=>al a (o.al a ha),λk x h=>?_,j.tb⟩;obtain⟨a,i,m⟩:=o.own k x h;exact⟨a,i,m.mono (aX _) f (fr a (br _ (mz.mpr ⟨k,x,i,h⟩)))⟩
theorem GY{n:List av}{ps:List av}{X:Cx}{body:List b3}{tb:DS}(g:wJ X body tb){H:Hp}{c:List V}{Q:VK}{E:XK}(j:X.K=K)(h:mR K (cl (mO n.length ps.length tb)) c H Q E):
  ∃t,QB X body t/\t {nx:=λ_ b=>Q .non b,rt:=Q} (L2.start n c) H:=by
 subst j;obtain⟨F,α,M,ds,o,r,hn,A,q⟩:=h;have m:OK X.K (lv α M++F) [] H []:=⟨rfl,d6,λa ha=>⟨by simp,by
  rcases aO.mp ha with ha|ha
  ·exact o.Dm a ha
  ·exact(o.fr a ha).2⟩,λa ha=>(by simp at ha),λk x h=>(by simp at h),o.tb⟩
 have u:gp X.K [] (iG (lv α M++F) [] [] H) ds c:=gp.nl ds c hn r;refine⟨_,⟨g.p⟩,lv α M++F,[],lf n.length ds,[],uL m u,?_⟩;refine g.mono _ _ _ _ ?_ q;refine⟨λB y q C z b e r=>?_,λd y q v z b e i r=>?_,λ_ _ q=>q.elim,λ_ _ q=>q.elim⟩
 ·obtain⟨e1,f⟩:=kx o e r.ok;exact q _ α b e1 f lY
 ·obtain⟨e1,f⟩:=kx o e i;exact q.2 v α b e1 f (Rep.nl _ _ q.1 (OT i d v r))
end
end L3
namespace L3
open PySem PySem.Spec PyProof.Rows L2
noncomputable def pA(fr:List (Option Nat))(a:j2):j2:=fr.map λo=>match o with
 |none=>aq
 |some j=>(a[j]?).getD aq
noncomputable def BD(fr:List (Option Nat))(a:j2):j2:=bS (λo d=>match o with|none=>aq|some _=>d) fr a
def xv (g:DG)(tt:DT)(e:DE)(x:D)(f:j2)(M:Ms)(c:Option D->j2->Ms->Prop):Prop:=
 g x f M λa M1=>tt a M1 λb M2=>if b=aj then e a M2 λd h=>c (ae d) a h else c aq a M2
def lC (fr:List (Option Nat))(g:DG)(tt:DT)(a:DE)(st:Ms->Prop)(Q:List D->Ms->Prop):List D->List D->j2->Ms->Prop
 |[],acc,_,M=>Q acc M
 |x::xs,acc,c,M=>xv g tt a x c M λo b M1=>st M1/\match o with
  |some d=>acc.length<ax/\lC fr g tt a st Q xs (acc++[d]) (BD fr b) M1
  |none=>lC fr g tt a st Q xs acc (BD fr b) M1
def i9 (fr:List (Option Nat))(ti:DI)(g:DG)(tt:DT)(b:DE):DF:=λa M Q=>ti a M λitems st M1=>st M1/\lC fr g tt b st (λds c=>Q (.lst ds) c) items [] (pA fr a) M1
structure Wq(X:Cx)(ifs:List aS)(t:DT):Prop where
 mono:∀δ M (P Q:Bool->Ms->Prop),(∀d M,P d M->Q d M)->t δ M P->t δ M Q
 p:Q6 X ifs (lT X.K t)
def lg:DT:=λ_ M Q=>Q aj M
theorem kq{X:Cx}:Wq X [] lg:=⟨λa M P Q w q=>w _ _ q,λpins s σ H Q I ⟨F,α,a,M,r,q⟩=>Ko pins s σ H Q I (q α H Ext.refl r.ok)⟩
theorem Dt{X:Cx}{c:aS}{t:DT}(h:JT X c t):Wq X [c] t:=⟨h.mono,Kp h.p⟩
section
variable {K:W.Frag} {F α gO GJ:List ai} {H H' Ra:Hp} {M M' zC:Ms} {σ:L2.St} {δ:j2} {p:ai}
theorem R.slots(r:R K F α H σ δ M)(fr:List (Option Nat)):R K F α H (L2.slots fr σ) (pA fr δ) M:=by
 refine⟨r.ok,by simp[L2.slots,pA],λi d h=>?_⟩;unfold pA at h;unfold L2.slots;rw[bD] at h ⊢;cases e:fr[i]? with
 |none=>rw[e] at h;cases h
 |some o=>
  rw[e] at h;cases o with
  |none=>cases h
  |some j=>
   have h:(δ[j]?).getD aq=ae d:=by simpa using h
   cases e2:δ[j]? with
   |none=>rw[e2] at h;cases h
   |some q=>
    rw[e2] at h;have h:q=ae d:=h;subst h;obtain⟨v,e3,a⟩:=r.sl j d e2;exact⟨v,by show ae ((σ[j]?).getD aq)=_;rw[e3];rfl,a⟩
theorem R.BD(r:R K F α H σ δ M){fr:List (Option Nat)}(a:fr.length=δ.length):R K F α H σ (L3.BD fr δ) M:=by
 refine⟨r.ok,by simp[L3.BD,a,r.len],λi d h=>?_⟩;unfold L3.BD at h;rw[List.getElem?_zipWith] at h;cases e:fr[i]? with
 |none=>rw[e] at h;simp at h
 |some o=>
  cases e2:δ[i]? with
  |none=>rw[e,e2] at h;simp at h
  |some q=>
   rw[e,e2] at h;cases o with
   |none=>simp at h
   |some j=>
    have h:q=ae d:=by simpa using h
    subst h;exact r.sl i d e2
theorem Ext.skip(o:OK K F α H M)(g:H p=aq)(e:Ext F α H M gO H' M')(e':Ext (p::F) gO H' M' GJ Ra zC):Ext F α H M GJ Ra zC:=by
 refine⟨e.pre.trans e'.pre,λb x h=>?_,λa ha=>(e'.fr a (au _ ha)).trans (e.fr a ha)⟩;have hb:b≠p:=λz=>by have:=(ij h).2;rw[z,g] at this;cases this
 have c:=ij (e.same b x h);have i:iG (p::F) gO M' H' b=ae x:=by
  show iT _ H' b=_;refine ko h (λw=>c.1 ?_) c.2
  ·simp only [aO,aE] at w ⊢;rcases w with w|w|w
   ·exact .inl w
   ·exact absurd w hb
   ·exact .inr w
 have f:=ij (e'.same b x i);show iT _ Ra b=_;refine ko h (λw=>f.1 ?_) f.2
 ·simp only [aO,aE] at w ⊢;rcases w with w|w
  ·exact .inl w
  ·exact .inr (.inr w)
theorem Ext.EL(f:H p=aq)(g:p∉F){x:HO}(e:Ext F α H M gO H' M'):Ext F α H M gO (upd H' p x) M':=by
 refine⟨e.pre,λb y h=>?_,λa ha=>by rw[gy λz=>g (by rw[<-z];exact ha)];exact e.fr a ha⟩;have hb:b≠p:=λz=>by have:=(ij h).2;rw[z,f] at this;cases this
 have c:=ij (e.same b y h);show iT _ _ b=_;exact ko h c.1 (by rw[gy hb];exact c.2)
theorem vB{x:HO}:iG (p::F) α M (upd H p x)=iG (p::F) α M H:=by
 funext b;show iT _ _ b=iT _ _ b;by_cases hb:b∈lv α M++p::F
 ·rw[km hb,km hb]
 ·rw[i7 hb,i7 hb,gy λz=>hb (by rw[z];simp)]
theorem OK.EL(o:OK K (p::F) α H M){x:HO}(f:pq (ae x)=ae x:=by rfl):OK K (p::F) α (upd H p x) M:=by
 have b:p∉α:=(o.fr p a8).1;refine⟨o.ml,o.nd,λa ha=>⟨(o.fr a ha).1,?_⟩,λa ha=>?_,λk y h=>?_,o.tb.upd (.inl (o.fr p a8).2)⟩
 ·by_cases e:a=p
  ·rw[e,gH,f];exactλz=>by cases z
  ·rw[gy e];exact(o.fr a ha).2
 ·rw[gy λz=>b (by rw[<-z];exact ha)];exact o.al a ha
 ·obtain⟨a,c,g⟩:=o.own k y h;rw[vB];exact⟨a,c,g.mono (aX _) (jd.refl _) (gy λz=>b (by rw[<-z];exact bu c))⟩
theorem R.EL(r:R K (p::F) α H σ δ M){x:HO}(a:pq (ae x)=ae x:=by rfl):R K (p::F) α (upd H p x) σ δ M:=⟨r.ok.EL a,r.len,λi d h=>by obtain⟨v,b,c⟩:=r.sl i d h;rw[vB];exact⟨v,b,c⟩⟩
theorem R.OW(r:R K F α H σ δ M)(c:H p=aq){x:HO}(m:pq (ae x)=ae x:=by rfl):R K (p::F) α (upd H p x) σ δ M:=by
 have o:=r.ok;have f:p∉α:=λz=>o.al p z (by rw[c]);have g:jd (iG F α M H) (iG (p::F) α M (upd H p x)):=λb y h=>by
  obtain⟨z,q⟩:=ij h;have hb:b≠p:=λz=>by rw[z,c] at q;cases q
  show iT _ _ b=_;refine ko h (λw=>z ?_) (by rw[gy hb];exact q)
  ·simp only [aO,aE] at w ⊢;rcases w with w|w|w
   ·exact .inl w
   ·exact absurd w hb
   ·exact .inr w
 refine⟨⟨o.ml,o.nd,λa ha=>?_,λa ha=>?_,λk y h=>?_,o.tb.upd (.inr c)⟩,r.len,λi d h=>?_⟩
 ·rcases aE.mp ha with e|e
  ·subst e;exact⟨f,by rw[gH,m];exactλz=>by cases z⟩
  ·refine⟨(o.fr a e).1,?_⟩;rw[gy λz=>(o.fr a e).2 (by rw[z,c])];exact(o.fr a e).2
 ·rw[gy λz=>f (by rw[<-z];exact ha)];exact o.al a ha
 ·obtain⟨a,j,n⟩:=o.own k y h;exact⟨a,j,n.mono (aX _) g (gy λz=>f (by rw[<-z];exact bu j))⟩
 ·obtain⟨v,u,A⟩:=r.sl i d h;exact⟨v,u,Rep.mono (aX _) g _ _ A⟩
theorem yl:er p H p=aq:=by unfold er;rw[if_pos rfl]
theorem ug{b:ai}(h:b≠p):er p H b=H b:=by unfold er;rw[if_neg h]
theorem OX{x:HO}(h:H p=ae x):upd (er p H) p x=H:=by
 funext b;by_cases e:b=p
 ·rw[e,gH,h]
 ·rw[gy e,ug e]
theorem GZ(o:OK K (p::F) α H M):iG F α M (er p H)=iG (p::F) α M H:=by
 have a:p∉α:=(o.fr p a8).1;funext b;show iT _ _ b=iT _ _ b;by_cases e:b=p
 ·subst e;rw[km (A:=lv α M++b::F) (by simp)];by_cases z:b∈lv α M++F
  ·rw[km z]
  ·rw[i7 z,yl]
 ·by_cases z:b∈lv α M++F
  ·rw[km z,km (by simp only [aO,aE] at z ⊢;rcases z with z|z;exact .inl z;exact .inr (.inr z))]
  ·rw[i7 z,i7 (by simp only [aO,aE] at z ⊢;rintro(w|w|w);exact z (.inl w);exact e w;exact z (.inr w)),ug e]
theorem OK.er(o:OK K (p::F) α H M)(g:p∉F):OK K F α (L3.er p H) M:=by
 have c:p∉α:=(o.fr p a8).1;refine⟨o.ml,o.nd,λa ha=>⟨(o.fr a (au _ ha)).1,?_⟩,λa ha=>?_,λk x h=>?_,o.tb.imp λb y e v=>?_⟩
 ·rw[ug λz=>g (by rw[<-z];exact ha)];exact(o.fr a (au _ ha)).2
 ·rw[ug λz=>c (by rw[<-z];exact ha)];exact o.al a ha
 ·obtain⟨a,f,i⟩:=o.own k x h;rw[GZ o];exact⟨a,f,i.mono (aX _) (jd.refl _) (ug λz=>c (by rw[<-z];exact bu f))⟩
 ·rw[ug λz=>(o.fr p a8).2 (by rw[<-z,e];exact v)];exact e
theorem Ext.er(f:H p=aq)(g:p∉F)(e:Ext F α H M gO H' M'):Ext F α H M gO (L3.er p H') M':=by
 refine⟨e.pre,λb y h=>?_,λa ha=>by rw[ug λz=>g (by rw[<-z];exact ha)];exact e.fr a ha⟩;have hb:b≠p:=λz=>by have:=(ij h).2;rw[z,f] at this;cases this
 have c:=ij (e.same b y h);show iT _ _ b=_;exact ko h c.1 (by rw[ug hb];exact c.2)
end
section
variable {X:Cx} {N:List av} {fr:List (Option Nat)} {scope:b6} {elt target iter:aS} {ifs:List aS} {ti:DI} {g:DG} {tt:DT} {te:DE} {pos:cC}
theorem qL(c:∀d a M (P Q:j2->Ms->Prop),(∀a M,P a M->Q a M)->g d a M P->g d a M Q)(e:∀a M (P Q:Bool->Ms->Prop),(∀d M,P d M->Q d M)->tt a M P->tt a M Q)(f:∀a M (P Q:DK),(∀d M,P d M->Q d M)->te a M P->te a M Q)
{st:Ms->Prop}{P Q:List D->Ms->Prop}(w:∀l M,P l M->Q l M):∀xs acc a M,lC fr g tt te st P xs acc a M->lC fr g tt te st Q xs acc a M
 |[],acc,a,M,q=>w _ _ q
 |x::xs,acc,a,M,q=>by
  unfold lC xv at q ⊢;refine c _ _ _ _ _ (λh M1 q=>e _ _ _ _ (λb M2 q=>?_) q) q;cases b with
  |true=>
   rw[if_pos rfl] at q ⊢;exact f _ _ _ _ (λd i q=>⟨q.1,q.2.1,qL c e f w xs _ _ _ q.2.2⟩) q
  |false=>
   rw[if_neg am] at q ⊢;exact⟨q.1,qL c e f w xs _ _ _ q.2⟩
theorem EM(hI:JI X target iter ti)(hg:∀d a M (P Q:j2->Ms->Prop),(∀a M,P a M->Q a M)->g d a M P->g d a M Q)(ht:∀a M (P Q:Bool->Ms->Prop),(∀d M,P d M->Q d M)->tt a M P->tt a M Q)(he:∀a M (P Q:DK),(∀d M,P d M->Q d M)->te a M P->te a M Q)
(Wr:∀d a M (P:j2->Ms->Prop),g d a M P->g d a M λlV M1=>lV.length=a.length/\P lV M1){σ:L2.St}{H:Hp}{Q:VK}(h:lF X.K (i9 fr ti g tt te) σ H Q):GA fr (lI X ti) (lG X.K g) (lT X.K tt) (lE X.K te) σ H (λv=>TH X (Q v)):=by
 obtain⟨F,α,a,M,r,h⟩:=h;refine⟨F,α,a,M,r,hI.mono a _ _ _ (λitems st M1 q J L H0 H1 T e1 o1 z it p u=>?_) h⟩;obtain⟨s1,q⟩:=q;have O:p∉F:=λw=>(z.ok.fr p w).2 (by rw[u]);refine⟨λi m C iP j=>m=items.length- i/\i<=items.length/\∃o E f acc,Ext F L H1 M1 o j f/\R X.K (p::F) o j iP E f/\E.length=fr.length/\st f/\j p=ae (.lst C)/\gp X.K o (iG (p::F) o f j) acc C/\
   lC fr g tt te st (λds f=>fK X.K F α H M Q (.lst ds) f) (items.drop i) acc E f,⟨_,rfl,bx _,L,pA fr a,M1,[],Ext.refl.EL u O,((z.rs (r.grow e1 o1)).slots fr).OW u,by simp[pA],s1,gH,gp.nil,q⟩,?_⟩
 rintro i m C iP j ⟨rfl,YS,o,E,f,acc,e',B,U,s',hy,Y,G⟩
 have Ws:jd (iG F L M1 H1) (iG (p::F) o f j):=λb x h=>by
  have hb:b≠p:=λw=>by have:=(ij h).2;rw[w,u] at this;cases this
  have h1:=ij (e'.same b x h);show iT _ j b=_;refine ko h (λw=>h1.1 ?_) h1.2
  ·simp only [aO,aE] at w ⊢;rcases w with w|w|w
   ·exact .inl w
   ·exact absurd w hb
   ·exact .inr w
 by_cases BB:i<items.length
 ·rw[cS BB] at G;refine .inr ⟨it.go i (p::F) o j f e'.pre Ws B.ok s' BB,λWt zQ A=>∃nO Kx M2 SD,Ext F L H1 M1 nO A M2/\R X.K (p::F) nO A zQ Kx M2/\Kx.length=fr.length/\st M2/\A p=ae (.lst Wt)/\gp X.K nO (iG (p::F) nO M2 A) SD Wt/\
   lC fr g tt te st (λds f=>fK X.K F α H M Q (.lst ds) f) (items.drop (i+1)) SD Kx M2,λWt zQ A h=>⟨_,by omega,rfl,BB,h⟩,λx A y=>?_⟩
  obtain⟨o2,e2,rx⟩:=it.Mz i (p::F) o j f x A items[i] e'.pre Ws B.ok s' (by simp[BB]) y;unfold lC xv at G;refine⟨p::F,o,E,f,items[i],B.grow e2 o2,rx,hg _ _ _ _ _ (λGX M3 q3 F7 sW H3 e3 r3=>?_) (Wr _ _ _ _ G)⟩;obtain⟨l3,q3⟩:=q3;refine⟨p::F,sW,GX,M3,r3,ht _ _ _ _ (λb M4 I qk H4 e4 o4=>?_) q3⟩;have UU:=(e2.trans e3).trans e4;have pm:p∈p::F:=a8;cases b with
  |false=>
   rw[if_neg am] at I;show(if ao=aj then _ else _);rw[if_neg am];refine⟨qk,BD fr GX,M4,acc,Ext.skip z.ok u e' UU,(r3.grow e4 o4).BD (by rw[l3,U]),by simp[BD,l3,U],I.1,by rw[UU.fr p pm];exact hy,UU.z6 Y,I.2⟩
  |true=>
   rw[if_pos rfl] at I;show(if aj=aj then _ else _);rw[if_pos rfl];refine⟨p::F,qk,GX,M4,r3.grow e4 o4,he _ _ _ _ (λd M5 q5 v α5 H5 e5 o5 r5=>?_) I⟩;have Wu:=UU.trans e5;have ry5:=Wu.z6 Y;refine⟨by rw[Wu.fr p pm];exact hy,by rw[<-gp.length _ _ Y];exact q5.2.1,α5,BD fr GX,M5,acc++[d],(Ext.skip z.ok u e' Wu).EL u O,(((r3.grow e4 o4).grow e5 o5).BD (by rw[l3,U])).EL,by simp[BD,l3,U],q5.1,gH,?_,q5.2.2⟩;rw[vB];exact gp.append _ _ _ _ ry5 (gp.one r5)
 ·have e:i=items.length:=by omega
  subst e;rw[ef] at G;refine .inl ⟨it.stop (p::F) o j f e'.pre Ws B.ok s',?_⟩;have eE:=e'.er u O;have oE:=B.ok.er O;obtain⟨t1,t2,t3⟩:=z.e o (L3.er p j) f eE oE;have hn:T (L3.er p j) p=aq:=z.n p _ u yl;have:=G p (.lst C) o (T (L3.er p j)) (e1.trans t1) t2 hn ⟨C,rfl,?_⟩
  ·rw[z.c p j _ u hy] at this;exact z.h o j f _ e' this
  ·refine gp.imp t3 _ _ ?_;rw[GZ B.ok];exact Y
abbrev G0(g:DG):Prop:=∀d a M (P:j2->Ms->Prop),g d a M P->g d a M λb M1=>b.length=a.length/\P b M1
abbrev Aa(g:Dp):Prop:=∀d a M (P:j2->Ms->Prop),g d a M P->g d a M λb M1=>b.length=a.length/\P b M1
theorem jj{i:Nat}:G0 (gQ i):=λd a M P q=>⟨by simp,q⟩
theorem B0:Aa py:=λd a M P q=>⟨q.1,rfl,q.2⟩
theorem OY{n:Nat}{gs:Dp}(a:Aa gs):G0 (nz n gs):=λd b M P q=>by cases d<;>first|exact q.elim|exact⟨q.1,a _ _ _ _ q.2⟩
theorem jT(c:je X N fr scope)(hi:JI X target iter ti)(i:G0 g)
(a:∀C ex pins ib il,JG (yi X scope N C ex pins ib il λ_ _=>False) target g)(b:∀C ex pins ib il,Wq (yi X scope N C ex pins ib il λ_ _=>False) ifs tt)(e:∀C ex pins ib il,JE (yi X scope N C ex pins ib il λ_ _=>False) elt te)
(j:X.calm=aj:=by rfl)(m:∀x,ej iter X.env x=pure x:=by intro _;rfl):JF X (.ListComp elt [⟨target,iter,ifs,0⟩] scope pos) (i9 fr ti g tt te):=by
 have mg:=(a 0 [] [] X.ib X.il).mono;have mt:=(b 0 [] [] X.ib X.il).mono;have f:=(e 0 [] [] X.ib X.il).mono;exact⟨λn M P Q w q=>hi.mono _ _ _ _ (λl s M1 q=>⟨q.1,qL mg mt f (λl M q=>w _ _ q) _ _ _ _ q.2⟩) q,
  GQ (Kr c j hi.p (λ_ _ _ _ _=>(a _ _ _ _ _).p) (λ_ _ _ _ _=>(b _ _ _ _ _).p) (λ_ _ _ _ _=>(e _ _ _ _ _).p) m) λσ H Q h=>EM hi mg mt f i h⟩
end
end L3
namespace L3
open PySem PySem.Spec PyProof.Rows L2
def gI (C:Int->Int->Prop)(f:Int->Int->D):G2:=λx y M Q=>match x,y with|.int i,.int j=>C i j/\Q (f i j) M|_,_=>False
theorem Du{C:Int->Int->Prop}{f:Int->Int->D}:uf (gI C f):=by
 intro x y M P Q w q;unfold gI at*;split at q
 ·exact⟨q.1,w _ _ q.2⟩
 ·exact q.elim
def Ab (f:Int->Int->D):G2:=λx y M Q=>match x,y with|.int i,.int j=>Q (f i j) M|_,_=>False
theorem Ac{f:Int->Int->D}:uf (Ab f):=by
 intro x y M P Q w q;unfold Ab at*;split at q
 ·exact w _ _ q
 ·exact q.elim
section
variable {X:Cx}
theorem MW{K:W.Frag}{f:Int->Int->D}{x y:V}{H:Hp}{Q:VK}(h:rD K (Ab f) x y H Q):∃F α M i j,OK K F α H M/\x=.int i/\y=.int j/\vK K F α H M Q (f i j) M:=by
 obtain⟨F,α,M,c,e,o,a,b,h⟩:=h;unfold Ab at h;split at h<;>first|exact h.elim|skip
 unfold Rep at a b;exact⟨F,α,M,_,_,o,a,b,h⟩
theorem Wv{K:W.Frag}{C:Int->Int->Prop}{f:Int->Int->D}{x y:V}{H:Hp}{Q:VK}(h:rD K (gI C f) x y H Q):∃F α M i j,OK K F α H M/\x=.int i/\y=.int j/\C i j/\vK K F α H M Q (f i j) M:=by
 obtain⟨F,α,M,c,e,o,a,b,h⟩:=h;unfold gI at h;split at h<;>first|exact h.elim|skip
 unfold Rep at a b;exact⟨F,α,M,_,_,o,a,b,h⟩
theorem G1:JO X .Sub (Ab λi j=>.int (i- j)):=⟨Ac,λpins s σ H x y v u Q I a b h=>by obtain⟨F,α,M,i,j,o,c,e,h⟩:=MW h;exact Og pins s σ H x y v u Q I a b ⟨_,_,c,e,vK.now o h iI⟩⟩
theorem qM:JO X .Mod (gI (λ_ j=>0<j) λi j=>.int (i%j)):=⟨Du,λpins s σ H x y v u Q I a b h=>by obtain⟨F,α,M,i,j,o,c,e,h,f⟩:=Wv h;exact Oi pins s σ H x y v u Q I a b ⟨_,_,c,e,h,vK.now o f iI⟩⟩
theorem Dv:JC X .Gt (Ab λi j=>.bl (decide (j<i))):=⟨Ac,λpins s σ H x y v u Q I a b h=>by obtain⟨F,α,M,i,j,o,c,e,h⟩:=MW h;exact RY pins s σ H x y v u Q I a b ⟨_,_,c,e,vK.now o h iF⟩⟩
def OZ:G2:=λx y M Q=>match x,y with|.int i,.int j=>Q (.bl (decide (i<j))) M|.str i,.str j=>Q (.bl (decide (i.cps.toList<j.cps.toList))) M|_,_=>False
def nJ:G2:=λx y M Q=>match x,y with|.int i,.int j=>Q (.bl (decide (i<=j))) M|.str i,.str j=>Q (.bl (!decide (j.cps.toList<i.cps.toList))) M|_,_=>False
theorem SE:JC X .Lt OZ:=by
 refine⟨λx y M P Q w q=>?_,λpins s σ H x y v u Q I c e h=>?_⟩
 ·unfold OZ at*;split at q<;>first|exact q.elim|exact w _ _ q
 ·obtain⟨F,α,M,f,g,o,a,b,h⟩:=h;unfold OZ at h;split at h<;>first|exact h.elim|skip
  ·unfold Rep at a b;exact RW pins s σ H x y v u Q I c e ⟨_,_,a,b,vK.now o h iF⟩
  ·unfold Rep at a b;exact Ev pins s σ H x y v u Q I c e ⟨_,_,a,b,vK.now o h iF⟩
theorem k8:JC X .LtE nJ:=by
 refine⟨λx y M P Q w q=>?_,λpins s σ H x y v u Q I c e h=>?_⟩
 ·unfold nJ at*;split at q<;>first|exact q.elim|exact w _ _ q
 ·obtain⟨F,α,M,f,g,o,a,b,h⟩:=h;unfold nJ at h;split at h<;>first|exact h.elim|skip
  ·unfold Rep at a b;exact RX pins s σ H x y v u Q I c e ⟨_,_,a,b,vK.now o h iF⟩
  ·unfold Rep at a b;exact EJ pins s σ H x y v u Q I c e ⟨_,_,a,b,vK.now o h iF⟩
noncomputable def SF:D->Bool
 |.non=>aj
 |_=>ao
theorem Dw{K:W.Frag}{α:List ai}{H:Hp}{d:D}{v:V}(h:Rep K α H d v):decide (v=.non)=SF d:=by
 cases d<;>unfold Rep at h;case non=>subst h;rfl
 case tup=>obtain⟨_,_,rfl,_⟩:=h;rfl
 case lst=>obtain⟨_,_,rfl,_⟩:=h;rfl
 case jR=>obtain⟨_,_,rfl,_⟩:=h;rfl
 case ins=>obtain⟨_,_,_,rfl,_⟩:=h;rfl
 case exc=>obtain⟨_,_,rfl,_⟩:=h;rfl
 case oZ=>obtain⟨_,rfl,_⟩:=h;rfl
 case loc=>obtain⟨_,_,rfl⟩:=h;rfl
 all_goals subst h;rfl
def KC:G2:=λx y M Q=>match y with|.non=>Q (.bl (SF x)) M|_=>False
def pB:G2:=λx y M Q=>match y with|.non=>Q (.bl (!SF x)) M|_=>False
theorem MX:JC X .Is KC:=by
 refine⟨λx y M P Q w q=>?_,λpins s σ H x y v u Q I b c h=>?_⟩
 ·cases y<;>first|exact q.elim|exact w _ _ q
 ·obtain⟨F,α,M,g,e,o,f,a,h⟩:=h;cases e<;>first|exact h.elim|skip
  unfold Rep at a;exact Ol pins s σ H x y v u Q I b c ⟨a,by rw[Dw f];exact vK.now o h iF⟩
theorem Ad:JC X .IsNot pB:=by
 refine⟨λx y M P Q w q=>?_,λpins s σ H x y v u Q I b c h=>?_⟩
 ·cases y<;>first|exact q.elim|exact w _ _ q
 ·obtain⟨F,α,M,g,e,o,f,a,h⟩:=h;cases e<;>first|exact h.elim|skip
  unfold Rep at a;exact JN pins s σ H x y v u Q I b c ⟨a,by rw[Dw f];exact vK.now o h iF⟩
def gJ:G2:=λx y M Q=>match vw M x,vw M y with
 |.int i,.int j=>Q (.int (i+j)) M
 |.str i,.str j=>i.length+j.length<=ax/\Q (.str (i++j)) M
 |.lst xs,.lst a=>xs.length+a.length<=ax/\Q (.lst (xs++a)) M
 |.tup xs,.tup a=>xs≠[]/\xs.length+a.length<=ax/\Q (.tup (xs++a)) M
 |_,_=>False
theorem gZ:JO X .Add gJ:=by
 refine⟨λx y M P Q w q=>?_,λpins s σ H x y v u Q I m n h=>?_⟩
 ·unfold gJ at q ⊢;generalize vw M x=a at q ⊢;generalize vw M y=b at q ⊢;split at q<;>first|exact q.elim|exact w _ _ q|exact⟨q.1,w _ _ q.2⟩|exact⟨q.1,q.2.1,w _ _ q.2.2⟩
 ·obtain⟨F,α,M,E,G,o,c,f,h⟩:=h;unfold gJ at h;generalize e1:vw M E=a at h;generalize e2:vw M G=b at h;split at h<;>first|exact h.elim|skip
  ·cases qK e1;cases qK e2;unfold Rep at c f;exact Oe pins s σ H x y v u Q I m n ⟨_,_,c,f,vK.now o h iI⟩
  ·cases kO e1;cases kO e2;unfold Rep at c f;exact BO pins s σ H x y v u Q I m n ⟨_,_,c,f,h.1,vK.now o h.2 kl⟩
  ·obtain⟨a,A,rfl,B,g⟩:=jF o c e1;obtain⟨b,us,rfl,C,i⟩:=jF o f e2;have r:=gp.length _ _ g;have z:=gp.length _ _ i;exact OG pins s σ H _ _ v u Q I m n ⟨a,b,A,us,rfl,rfl,B,C,by rw[<-r,<-z];exact h.1,λp j=>vK.new o j h.2 (kE o j (gp.append _ _ _ _ g i))⟩
  ·obtain⟨a,A,rfl,B,g⟩:=lc o c e1;obtain⟨b,us,rfl,C,i⟩:=lc o f e2;have r:=gp.length _ _ g;have z:=gp.length _ _ i;refine Kc pins s σ H _ _ v u Q I m n ⟨a,b,A,us,rfl,rfl,B,C,?_,by rw[<-r,<-z];exact h.2.1,λe=>?_,λ_ p j=>vK.new o j h.2.2 (kF o j (gp.append _ _ _ _ g i))⟩
   ·intro e;subst e;exact h.1 (cW.mp r)
   ·subst e;have:=cW.mp z;subst this;refine vK.now o h.2.2 ?_;rw[bf];rw[BZ e1] at c;exact c
noncomputable def B1:D->Option Key
 |.int i=>ae (.inl i)
 |.str x=>ae (.inr x)
 |_=>aq
noncomputable def qm(k:Key):List Key->List D->Option D
 |k'::a,d::ds=>if k'=k then ae d else qm k a ds
 |_,_=>aq
theorem nA{K:W.Frag}{α:List ai}{H:Hp}{d:D}{v:V}{k:Key}(h:Rep K α H d v)(e:B1 d=ae k):v=kV k:=by
 cases d<;>cases e
 ·unfold Rep at h;exact h
 ·unfold Rep at h;exact h
theorem pC{K:W.Frag}{α:List ai}{H:Hp}{k:Key}:∀(a:List Key) (ds:List D) (b:List V),gp K α H ds b->a.length=ds.length->
  (∀d,qm k a ds=ae d->∃v,qE (a.zip b) k=ae v/\Rep K α H d v)/\(qm k a ds=aq->qE (a.zip b) k=aq)
 |[],ds,b,h,l=>⟨λd e=>by simp[qm] at e,λ_=>rfl⟩
 |k'::a,[],b,h,l=>by simp at l
 |k'::a,d::ds,b,h,l=>by
  unfold gp at h;obtain⟨v,r,rfl,z,y⟩:=h;have c:=pC (k:=k) a ds r y (by simpa using l);rw[List.zip_cons_cons];by_cases e:k'=k
  ·rw[u3 (p:=(k',v)) e];unfold qm;rw[if_pos e];exact⟨λf e'=>⟨v,rfl,by cases e';exact z⟩,λe'=>by cases e'⟩
  ·rw[u4 (p:=(k',v)) e];unfold qm;rw[if_neg e];exact c
theorem KD(c:X.A.units+1<eQ):Oy X (λx y H Q=>∃a v,x=.ref a/\nq H a y (ae v)/\Q v H):=by
 intro value slice pins s σ H x y v u Q I e f h i;obtain⟨a,z,rfl,g,q⟩:=h;cases e;unfold aal;refine ag ?_;rw[aaT (ub I g).not_modules];refine ag (aaB (ub I g) PySem.F.slot_dict_getitem.lookup ?_);have b:wpAny (model X.prog X.w) X.A (subscripted slice ao (.ref a) u) (λr j=>wpAny (model X.prog X.w) X.A (abx value (.ref a) r >>= λ_=>pure r) (EP X pins σ Q) X.xe j) X.xe s:=by rw[i];exact abr (EB c I g f λo s3 m n=>ag (aaY (aB ⟨z,H,m,n,q⟩)))
 first
  |exact aB (ag b)
  |exact ag (aB (ag b))
  |exact ag b
def jk:G2:=λx y M Q=>match vw M x,y with
 |.lst xs,.int i=>∃d,vf xs i=ae d/\Q d M
 |.tup xs,.int i=>∃d,vf xs i=ae d/\Q d M
 |.oZ xs,.int i=>∃d,vf xs i=ae d/\Q (.int d) M
 |.str z,.int i=>z.length<=ax/\∃c,vf z.cps.toList i=ae c/\Q (.str ⟨#[c]⟩) M
 |.jR a ds,y=>∃k d,B1 y=ae k/\qm k a ds=ae d/\Q d M
 |_,_=>False
theorem jx(J:X.A.units+1<eQ):JX X jk:=by
 refine⟨λx y M P Q w q=>?_,λvalue slice pins s σ H x y v u Q I n p h r=>?_⟩
 ·unfold jk at q ⊢;generalize vw M x=a at q ⊢;split at q<;>first
   |exact q.elim
   | (obtain⟨k,d,f,C,g⟩:=q;exact⟨k,d,f,C,w _ _ g⟩)
   | (obtain⟨d,f,g⟩:=q;exact⟨d,f,w _ _ g⟩)
   | (obtain⟨L,d,f,g⟩:=q;exact⟨L,d,f,w _ _ g⟩)
 ·obtain⟨F,α,M,N,db,o,i,b,h⟩:=h;unfold jk at h;generalize e1:vw M N=a at h;split at h<;>first|exact h.elim|skip
  ·obtain⟨a,z,rfl,m,B⟩:=jF o i e1;unfold Rep at b;obtain⟨d,e,h⟩:=h;obtain⟨w,E,G⟩:=B.at e;exact Di value slice pins s σ H _ y v u Q I n p ⟨a,z,_,w,rfl,b,nj.of m,E,vK.now o h G⟩ r
  ·obtain⟨a,z,rfl,m,B⟩:=lc o i e1;unfold Rep at b;obtain⟨d,e,h⟩:=h;obtain⟨w,E,G⟩:=B.at e;exact Oz value slice pins s σ H _ y v u Q I n p ⟨a,z,_,w,rfl,b,m,E,vK.now o h G⟩ r
  ·cases qJ e1;unfold Rep at i b;obtain⟨a,rfl,m⟩:=i;obtain⟨d,e,h⟩:=h;refine Di value slice pins s σ H _ y v u Q I n p ⟨a,_,_,.int d,rfl,b,j5 hX m,?_,vK.now o h iI⟩ r;unfold vf at e ⊢;rw[ap];cases q:FK _ _ with
   |none=>rw[q] at e;cases e
   |some j=>
    rw[q] at e;show(List.map V.int _)[j]?=_;have e':(_:List Int)[j]?=ae d:=e;rw[bD,e'];rfl
  ·cases kO e1;unfold Rep at i b;obtain⟨O,c,e,h⟩:=h;exact OA value slice pins s σ H x y v u Q I n p ⟨_,_,c,i,b,O,e,vK.now o h kl⟩ r
  ·obtain⟨k,d,f,C,g⟩:=h;obtain⟨a,z,rfl,m,T,B⟩:=pz o i e1;obtain⟨U,Y,rv⟩:=(pC _ _ z B T).1 d C;cases nA b f;exact KD J value slice pins s σ H _ _ v u Q I n p ⟨a,U,rfl,by rw[<-Y];exact nq.kr m,vK.now o g rv⟩ r
noncomputable def cutD{β:Type}(xs:List β)(lo hi:Option Int):List β:=(xs.drop (HT.kK xs.length 0 lo)).take (HT.kK xs.length xs.length hi- HT.kK xs.length 0 lo)
theorem gp.cut{K:W.Frag}{α:List ai}{H:Hp}{ds:List D}{a:List V}(h:gp K α H ds a)(lo hi:Option Int):gp K α H (cutD ds lo hi) (zW a lo hi):=by unfold cutD zW;rw[gp.length _ _ h];exact gp.take _ _ _ (gp.drop _ _ _ h)
end
end L3
namespace PySem
open Sem (wp)
open Builtin
section
variable {prog:aw} {w:aN} {A:aH} {E:af->ah->Prop} {s:ah}
theorem pD{it t:ai}{i:Nat}{items}{x:af}{Q:af->ah->Prop}(b:s.heap.IsTupleIter it t i)
(e:s.heap.IsTuple t items)(f:items[i]?=ae x)
(g:∀c,c.IsTupleIter it t (i+1)->bX it s.heap c->Q x {s with heap:=c}):
  wpAny (model prog w) A (bO (.ref it)) Q E s:=by
 obtain⟨o,a,hc,hd⟩:=id b;obtain⟨j,h,_,nl,FO⟩:=e;unfold bO;refine ag (cK (name:=bI "__next__") b.typeIs dM
  (cR dM b.typeIs F.entry_tuple_iterator_next ?_ (F.args_tuple_iterator_next_1 _)))
 show wpAny _ _ (field (.ref it) 0 >>= _) _ _ s;refine ag (b5 a hd (x:=.ref t) rfl ?_);show wpAny _ _ (if(aR t==bW)=aj then _ else _) _ _ s;rw[if_neg (show¬((aR t==bW)=aj) from am)];show wpAny _ _ (field (.ref it) 1 >>= _) _ _ s;refine ag (b5 a hd (x:=.int i 0) rfl ?_);show wpAny _ _ (seqItems? (.ref t) >>= _) _ _ s;refine ag (c9 h FO ?_);simp only [Int.toNat_natCast,f];refine ag (eC a hd (by simp) (aB ⟨x,rfl,aB (g _ ?_ (bX.update ..))⟩));exact⟨_,cA _ a (dA (cD hd _)),(bR.cls_mapFields ..).trans hc,by
  rw[cD hd];simp[eg]⟩
theorem qo{it l:ai}{i:Nat}{items}{Q:af->ah->Prop}(g:A.handled=aq)
(b:s.heap.IsTupleIter it l i)(h:s.heap.IsTuple l items)(j:items[i]?=aq)
(n:∀c e,az.ExtBut it s.heap c->(∃o,c.get? e=ae o/\o.cls=.type "StopIteration")->E (.ref e) {s with heap:=c}):
  wpAny (model prog w) A (bO (.ref it)) Q E s:=by
 obtain⟨o,f,hc,hd⟩:=id b;obtain⟨q,p,_,nl,FO⟩:=h;unfold bO;refine ag (cK (name:=bI "__next__") b.typeIs dM
  (cR dM b.typeIs F.entry_tuple_iterator_next ?_ (F.args_tuple_iterator_next_1 _)))
 show wpAny _ _ (field (.ref it) 0 >>= _) _ _ s;refine ag (b5 f hd (x:=.ref l) rfl ?_);show wpAny _ _ (if(aR l==bW)=aj then _ else _) _ _ s;rw[if_neg (show¬((aR l==bW)=aj) from am)];show wpAny _ _ (field (.ref it) 1 >>= _) _ _ s;refine ag (b5 f hd (x:=.int i 0) rfl ?_);show wpAny _ _ (seqItems? (.ref l) >>= _) _ _ s;refine ag (c9 p FO ?_);simp only [Int.toNat_natCast,j];refine ag (aa7 (ag (eC f hd (by simp) ?_)));show wpAny _ _ (newExc (.type "StopIteration") [] >>= _) _ _ _;refine ag ?_;simp only [newExc,newTuple];refine ag (cL ?_ (by size_fits));refine ag (m:=aby _ _) (wpAny_of_eq (a:=bW) (by first|rfl|(simp only [aby];rfl)) ?_);refine cL ?_ (by size_fits);simp only [raiseNew];refine ag (wpAny_handled ?_);first|rw[show A.in1.handled=aq from g]|rw[g]
 refine ag (aB (wpAny_throw ?_));exact n _ _ (((bX.update ..).extBut.push _).push _) ⟨_,bg _ rfl,rfl⟩
end
theorem vC{prog:aw}{w:aN}{A:aH}(e:A.handled=aq)(it l:ai)(f:l≠it)(items:Array af):
  fB prog w A it [it,l] items.size (λi v=>items[i]?=ae v) (λi h=>h.IsTupleIter it l i/\h.IsTuple l items) where
 live:=λ_ _ st=>let⟨o,a,_⟩:=st.1;⟨o,a⟩
 frame:=λ_ _ _ st b=>⟨let⟨o,a,r⟩:=st.1;⟨o,b it (by simp) o a,r⟩,let⟨o,a,r⟩:=st.2;⟨o,b l (by simp) o a,r⟩⟩
 item:=λi s Q E hi st g=>by refine pD st.1 st.2 (x:=items[i]) (by simp[hi]) λj m c=>?_;exact g _ j s.toks (by simp[hi]) ⟨m,st.2.extBut c.extBut f⟩ c
 done:=λs Q E st n=>qo e st.1 st.2 (by simp) n
theorem ma{prog:aw}{w:aN}{A:aH}{it:ai}{a:List ai}{n:Nat}{P P':Nat->af->Prop}{St:Nat->az->Prop}(D:fB prog w A it a n P St)(h:∀i v,P i v->P' i v):fB prog w A it a n P' St where
 live:=D.live
 frame:=D.frame
 item:=λi s Q E hi st b=>D.item i s Q E hi st λx c tk p=>b x c tk (h _ _ p)
 done:=D.done
theorem uz(l:ai)(items:Array af):
  Meets (bd.«enumerate.__new__» ⟨[.type "enumerate",.ref l],[]⟩) (λ_ R s=>s.heap.IsTuple l items/\
   R (.ok (.ret (.ref (s.heap.push {cls:=.type "tuple_iterator",data:=.fields #[.ref l,.int 0 0]}).objs.size)))
    {s with heap:=(s.heap.push {cls:=.type "tuple_iterator",data:=.fields #[.ref l,.int 0 0]}).push {cls:=.type "enumerate",data:=.fields #[.none,.bool ao,.ref s.heap.objs.size,eg 0,.none,.none]}}):=
 .of_wp λprog w A R s h=>by
  obtain⟨f,g,d,tk,os⟩:=s;obtain⟨e,h⟩:=h;have j:=sub_enumerate;have b:az.IsTuple (ah.heap ⟨f,g,d,tk,os⟩) l items:=e;obtain⟨⟨c,jR,i,sl⟩,a,hc,n,hd⟩:=e;replace hc:c=.type "tuple":=hc;replace hd:i=.seq items n:=hd;subst hc hd
  wp_walk using dJ a
  refine wpAny_stack_any λst=>aB ?_;split
  ·rename_i c _ _ _ _ _;cases(c==af.type "enumerate")
   ·wp_walk using dJ a,ec b
    exact⟨_,rfl,h⟩
   ·wp_walk using dJ a,ec b
    exact⟨_,rfl,h⟩
  ·wp_walk using dJ a,ec b
   exact⟨_,rfl,h⟩
section
variable {prog:aw} {w:aN} {A:aH} {E:af->ah->Prop} {s:ah}
theorem vD{l:ai}{items:Array af}{Q:af->ah->Prop}(f:s.heap.IsTuple l items)
(h:∀a,abz a (s.heap.objs.size+1) s.heap.objs.size 0 .none->a.IsTupleIter s.heap.objs.size l 0->a.objs.size=s.heap.objs.size+2->
   (∀b o,s.heap.get? b=ae o->a.get? b=ae o)->Q (.ref (s.heap.objs.size+1)) {s with heap:=a}):
  wpAny (model prog w) A (call (.type "enumerate") [.ref l]) Q E s:=by
 refine callType_new F.called_enumerate (by decide) (F.typeCall_enumerate_1 _) (F.newCall_enumerate_1 _) (λobj=>F.args_object_init_2 obj _) F.entry_enumerate_new
  (uz l items) ⟨f,?_⟩
 have c:(s.heap.push {cls:=.type "tuple_iterator",data:=.fields #[.ref l,.int 0 0]}).objs.size=s.heap.objs.size+1:=cx ..;show _/\_;rw[c];have e:abz ((s.heap.push {cls:=.type "tuple_iterator",data:=.fields #[.ref l,.int 0 0]}).push
   {cls:=.type "enumerate",data:=.fields #[.none,.bool ao,.ref s.heap.objs.size,eg 0,.none,.none]}) (s.heap.objs.size+1) s.heap.objs.size 0 .none:=by
  have:=bg (s.heap.push {cls:=.type "tuple_iterator",data:=.fields #[.ref l,.int 0 0]})
   (o:={cls:=.type "enumerate",data:=.fields #[.none,.bool ao,.ref s.heap.objs.size,eg 0,.none,.none]}) rfl
  rw[c] at this;exact this
 refine⟨⟨_,e,rfl⟩,h _ e ⟨_,ar _ (bg _ rfl),rfl,rfl⟩ (by rw[cx,c]) λb o x=>ar _ (ar _ x)⟩
end
end PySem
namespace PySem
open Sem (wp)
open Builtin
structure xw(z TI TO i1 i2:ai)(EN Ae:List ai):Prop where
 TIz:TI≠z
 TOz:TO≠z
 TITO:TI≠TO
 TIi1:TI≠i1
 TIi2:TI≠i2
 UV:i1∈EN
 UW:i2∈Ae
 Rf:z∉EN
 SH:z∉Ae
 UX:TO∉EN
 of2:TO∉Ae
 SI:i1∉Ae
 Wy:i2∉EN
section
variable {prog:aw} {w:aN} {A:aH} {E:af->ah->Prop} {s:ah} {z TI TO i1 i2:ai} {EN Ae:List ai} {n1 n2:Nat} {P1 P2:Nat->af->Prop} {S1 S2:Nat->az->Prop}
theorem j6{it:ai}{a:List ai}{n:Nat}{P:Nat->af->Prop}{St:Nat->az->Prop}{i:Nat}{h f:az}{c:ai}(D:fB prog w A it a n P St)(st:St i h)(g:bX c h f)(hc:c∉a):St i f:=
 D.frame _ _ _ st λb hb o e=>g.extBut b o (λq=>hc (by rw[<-q];exact hb)) e
theorem tm{i:Nat}{a b:af}{Q:af->ah->Prop}(Z:xw z TI TO i1 i2 EN Ae)(r:fB prog w A i1 EN n1 P1 S1)(u:fB prog w A i2 Ae n2 P2 S2)
(G:fC s.heap z TI TO .none)(KG:de s.heap TI (.ref i1) (.ref i2))(EO:de s.heap TO a b)(h1:S1 i s.heap)(h2:S2 i s.heap)(l1:i<n1)(l2:i<n2)
(hQ:∀x y g tk,P1 i x->P2 i y->fC g z TI TO (eg s.heap.objs.size)->de g TO x y->S1 (i+1) g->S2 (i+1) g->de g s.heap.objs.size x y->g.objs.size=s.heap.objs.size+1->
   (∀c o,c≠z->c≠TO->c≠i1->c≠i2->s.heap.get? c=ae o->g.get? c=ae o)->Q (.ref s.heap.objs.size) {s with heap:=g,toks:=tk}):
  wpAny (model prog w) A (bd.«zip.__next__» ⟨[.ref z],[]⟩) (λkJ s'=>∃v,kJ=.done (.ret v)/\Q v s') E s:=by
 have UY:i1≠z:=λq=>Z.Rf (by rw[<-q];exact Z.UV);have Wz:i2≠z:=λq=>Z.SH (by rw[<-q];exact Z.UW);have O1:TO≠i1:=λq=>Z.UX (by rw[q];exact Z.UV);have SJ:TO≠i2:=λq=>Z.of2 (by rw[q];exact Z.UW);show wpAny _ _ (field (.ref z) 2 >>= _) _ _ _;refine ag (b5 G rfl (x:=.bool ao) rfl ?_);show wpAny _ _ (field (.ref z) 3 >>= _) _ _ _;refine ag (b5 G rfl (x:=.ref TI) rfl ?_);refine ag (c9 KG rfl ?_);show wpAny _ _ (cB (.ref z) >>= _) _ _ _;refine ag ?_;unfold cB;refine ag (b5 G rfl (x:=.none) rfl (aB ?_));simp only [if_true];refine ag (aa7 ?_);refine ag (b5 G rfl (x:=.ref TO) rfl ?_);refine ag (dB G (by simp) λkf uh H=>?_);replace uh:fC kf z TI TO .ellipsis:=uh;refine ag ?_;simp only [List.zipIdx_cons,List.zipIdx_nil,List.forIn_cons,List.forIn_nil];refine ag (ag (aam ?_));show wpAny _ _ (bO (.ref i1) >>= _) _ _ _;refine ag (r.item i {s with heap:=kf} _ _ l1 (j6 r h1 H Z.Rf) λx I KH p1 MY h=>aB ?_);replace h:bX i1 kf I:=h;have vE:de I TO a b:=h.extBut _ _ O1 (H.extBut _ _ Z.TOz EO);refine ag (c9 (s:={s with heap:=I,toks:=KH}) vE rfl ?_);refine ag (f9 (s:={s with heap:=I,toks:=KH}) vE λN ym j=>?_);replace ym:de N TO x b:=ym;replace j:bX TO I N:=j;refine ag (aaZ (aB ?_));refine ag (ag (aam ?_));show wpAny _ _ (bO (.ref i2) >>= _) _ _ _;refine ag (u.item i {s with heap:=N,toks:=KH} _ _ l2 (j6 u (j6 u (j6 u h2 H Z.SH) h Z.SI) j Z.of2) λy J B p2 SK m=>aB ?_);replace m:bX i2 N J:=m;have G3:de J TO x b:=m.extBut _ _ SJ ym;refine ag (c9 (s:={s with heap:=J,toks:=B}) G3 rfl ?_);refine ag (f9 (s:={s with heap:=J,toks:=B}) G3 λf O n=>?_);replace O:de f TO x y:=O;replace n:bX TO J f:=n;refine ag (aaZ (aB (aB ?_)));refine ag (c9 (s:={s with heap:=f,toks:=B}) O rfl ?_);refine ag (wpAny_newTuple ?_);have EC:f.objs.size=s.heap.objs.size:=by rw[n.1,m.1,j.1,h.1,H.1]
 have MZ:fC f z TI TO .ellipsis:=n.extBut _ _ Z.TOz.symm (m.extBut _ _ Wz.symm (j.extBut _ _ Z.TOz.symm (h.extBut _ _ UY.symm uh)));have SM:∀c o,c≠z->c≠TO->c≠i1->c≠i2->s.heap.get? c=ae o->f.get? c=ae o:=λc o p T c3 c4 e=>
  n.extBut _ _ T (m.extBut _ _ c4 (j.extBut _ _ T (h.extBut _ _ c3 (H.extBut _ _ p e))))
 have SN:S1 (i+1) f:=j6 r (j6 r (j6 r MY j Z.UX) m Z.Wy) n Z.UX;have SO:S2 (i+1) f:=j6 u SK n Z.of2;have SQ:z<f.objs.size:=aP MZ;show wpAny _ _ (eX (.ref z) (.ref f.objs.size) >>= _) _ _ _;refine ag ?_;unfold eX;have SR:fC (f.push {cls:=.type "tuple",data:=.seq #[x,y]}) z TI TO .ellipsis:=ar _ MZ;refine ag (dB (s:={s with heap:=f.push {cls:=.type "tuple",data:=.seq #[x,y]},toks:=B}) SR (by simp) λU G4 L=>?_);replace G4:fC U z TI TO (eg f.objs.size):=G4;replace L:bX z (f.push {cls:=.type "tuple",data:=.seq #[x,y]}) U:=L;refine dB (s:={s with heap:=U,toks:=B}) G4 (by simp) λC Y M=>?_;replace Y:fC C z TI TO (eg f.objs.size):=Y;replace M:bX z U C:=M;have up:∀c o,c≠z->f.get? c=ae o->C.get? c=ae o:=λc o p e=>M.extBut _ _ p (L.extBut _ _ p (ar _ e));have M6:de C f.objs.size x y:=M.extBut _ _ (eP SQ) (L.extBut _ _ (eP SQ) (bg _ rfl));have YT:C.objs.size=f.objs.size+1:=by rw[M.1,L.1,cx]
 rw[EC] at Y M6 YT;refine aB ⟨_,rfl,?_⟩;show Q (.ref f.objs.size) _;rw[EC];exact hQ x y C B p1 p2 Y (up _ _ Z.TOz O) (r.frame _ _ _ SN λc hc o e=>up c o (λq=>Z.Rf (by rw[<-q];exact hc)) e) (u.frame _ _ _ SO λc hc o e=>up c o (λq=>Z.SH (by rw[<-q];exact hc)) e) M6 YT
  λc o p T c3 c4 e=>up c o p (SM c o p T c3 c4 e)
theorem uA{i:Nat}{a b:af}{Q:Fin->ah->Prop}(Z:xw z TI TO i1 i2 EN Ae)(B:fB prog w A i1 EN n1 P1 S1)(C:fB prog w A i2 Ae n2 P2 S2)
(n:fC s.heap z TI TO .none)(KG:de s.heap TI (.ref i1) (.ref i2))(EO:de s.heap TO a b)(T:S1 i s.heap)(h2:S2 i s.heap)(G5:i=n1\/(i<n1/\i=n2))
(U:∀I e tk,(∀c o,c≠z->c≠TO->c≠i1->c≠i2->s.heap.get? c=ae o->I.get? c=ae o)->(∃o,I.get? e=ae o/\o.cls=.type "StopIteration")->E (.ref e) {s with heap:=I,toks:=tk}):
  wpAny (model prog w) A (bd.«zip.__next__» ⟨[.ref z],[]⟩) Q E s:=by
 have Y:i1≠z:=λq=>Z.Rf (by rw[<-q];exact Z.UV);have Wz:i2≠z:=λq=>Z.SH (by rw[<-q];exact Z.UW);have O1:TO≠i1:=λq=>Z.UX (by rw[q];exact Z.UV);have SJ:TO≠i2:=λq=>Z.of2 (by rw[q];exact Z.UW);show wpAny _ _ (field (.ref z) 2 >>= _) _ _ _;refine ag (b5 n rfl (x:=.bool ao) rfl ?_);show wpAny _ _ (field (.ref z) 3 >>= _) _ _ _;refine ag (b5 n rfl (x:=.ref TI) rfl ?_);refine ag (c9 KG rfl ?_);show wpAny _ _ (cB (.ref z) >>= _) _ _ _;refine ag ?_;unfold cB;refine ag (b5 n rfl (x:=.none) rfl (aB ?_));simp only [if_true];refine ag (aa7 ?_);refine ag (b5 n rfl (x:=.ref TO) rfl ?_);refine ag (dB n (by simp) λp G m=>?_);replace G:fC p z TI TO .ellipsis:=G;refine ag ?_;simp only [List.zipIdx_cons,List.zipIdx_nil,List.forIn_cons,List.forIn_nil];refine ag (ag (aam ?_));show wpAny _ _ (bO (.ref i1) >>= _) _ _ _;rcases G5 with rfl|⟨l1,rfl⟩
 ·refine ag (B.done {s with heap:=p} _ _ (j6 B T m Z.Rf) λg e f J=>?_);obtain⟨L,j,r⟩:=J;replace f:az.ExtBut i1 p g:=f;have M7:fC g z TI TO .ellipsis:=f _ _ Y.symm G;have M:e≠z:=λx=>by subst x;rw[M7] at j;cases j;simp at r
  exact dB (s:={s with heap:=g}) M7 (by simp) λu _ h=>U u e s.toks (λc o v _ N _ x=>h.extBut _ _ v (f _ _ N (m.extBut _ _ v x))) ⟨L,h.extBut _ _ M j,r⟩
 ·refine ag (B.item i {s with heap:=p} _ _ l1 (j6 B T m Z.Rf) λx g y p1 MY f=>aB ?_);replace f:bX i1 p g:=f;have vE:de g TO a b:=f.extBut _ _ O1 (m.extBut _ _ Z.TOz EO);refine ag (c9 (s:={s with heap:=g,toks:=y}) vE rfl ?_);refine ag (f9 (s:={s with heap:=g,toks:=y}) vE λu ym h=>?_);replace h:bX TO g u:=h;refine ag (aaZ (aB ?_));refine ag (ag (aam ?_));show wpAny _ _ (bO (.ref i2) >>= _) _ _ _;refine ag (C.done {s with heap:=u,toks:=y} _ _ (j6 C (j6 C (j6 C h2 m Z.SH) f Z.SI) h Z.of2) λO e H J=>?_);obtain⟨L,j,r⟩:=J;replace H:az.ExtBut i2 u O:=H;have M8:fC O z TI TO .ellipsis:=H _ _ Wz.symm (h.extBut _ _ Z.TOz.symm (f.extBut _ _ Y.symm G));have M:e≠z:=λx=>by subst x;rw[M8] at j;cases j;simp at r
  exact dB (s:={s with heap:=O,toks:=y}) M8 (by simp) λmx _ qv=>U mx e y (λc o v c2 N c4 x=>qv.extBut _ _ v (H _ _ c4 (h.extBut _ _ c2 (f.extBut _ _ N (m.extBut _ _ v x))))) ⟨L,qv.extBut _ _ M j,r⟩
theorem Ah{i:Nat}{a b:af}{Q:Option af->ah->Prop}(Z:xw z TI TO i1 i2 EN Ae)(h:fB prog w A.in1 i1 EN n1 P1 S1)(j:fB prog w A.in1 i2 Ae n2 P2 S2)
(f:fC s.heap z TI TO .none)(m:de s.heap TI (.ref i1) (.ref i2))(n:de s.heap TO a b)(p:S1 i s.heap)(q:S2 i s.heap)(r:i<n1)(u:i<n2)
(v:∀x y e tk,P1 i x->P2 i y->fC e z TI TO (eg s.heap.objs.size)->de e TO x y->S1 (i+1) e->S2 (i+1) e->de e s.heap.objs.size x y->e.objs.size=s.heap.objs.size+1->
   (∀c o,c≠z->c≠TO->c≠i1->c≠i2->s.heap.get? c=ae o->e.get? c=ae o)->Q (ae (.ref s.heap.objs.size)) {s with heap:=e,toks:=tk}):
  wpAny (model prog w) A (pyNext (.ref z)) Q E s:=by
 have g:s.TypeIs (.ref z) "zip":=⟨_,f,rfl⟩;unfold pyNext;exact ag (fD (cK (name:=bI "__next__") g fQ
  (cR fQ g F.entry_zip_next
   (tm Z h j f m n p q r u λx y e tk B C G H I J L M N=>aB (v x y e tk B C G H I J L M N)) (F.args_zip_next_1 _))))
theorem B2{i:Nat}{a b:af}{Q:Option af->ah->Prop}(Z:xw z TI TO i1 i2 EN Ae)(j:fB prog w A.in1 i1 EN n1 P1 S1)(m:fB prog w A.in1 i2 Ae n2 P2 S2)
(g:fC s.heap z TI TO .none)(n:de s.heap TI (.ref i1) (.ref i2))(p:de s.heap TO a b)(q:S1 i s.heap)(r:S2 i s.heap)(u:i=n1\/(i<n1/\i=n2))
(v:∀f tk,(∀c o,c≠z->c≠TO->c≠i1->c≠i2->s.heap.get? c=ae o->f.get? c=ae o)->Q aq {s with heap:=f,toks:=tk}):wpAny (model prog w) A (pyNext (.ref z)) Q E s:=by
 have h:s.TypeIs (.ref z) "zip":=⟨_,g,rfl⟩;unfold pyNext;refine ag (fD (cK (name:=bI "__next__") h fQ
  (cR fQ h F.entry_zip_next (uA Z j m g n p q r u λf e tk y B=>?_) (F.args_zip_next_1 _))))
 obtain⟨o,C,hc⟩:=B;refine ag (wpAny_isInstance (T:="StopIteration") (b:=aj) ⟨o,C,hc⟩ isSubtype_stop ?_);exact aB (v _ _ y)
end
def tq (v:af)(ob:bR)(h:az):Prop:=∀(prog:aw) (w:aN) (A:aH) (E:af->ah->Prop) (s:ah) (Q:af->ah->Prop),s.heap=h->Q (.ref s.heap.objs.size) {s with heap:=s.heap.push ob}->wpAny (model prog w) A (aav v) Q E s
abbrev KJ(h:az)(a b:bR):az:=(h.push a).push b
abbrev KL(h:az)(a b:bR):az:=(KJ h a b).push {cls:=.type "tuple",data:=.seq #[.ref h.objs.size,.ref (h.push a).objs.size]}
abbrev KN(h:az)(a b:bR):az:=(KL h a b).push {cls:=.type "tuple",data:=.seq #[.none,.none]}
abbrev B3(h:az)(a b:bR):az:=(KN h a b).push {cls:=.type "zip",data:=.fields #[.none,.bool ao,.bool ao,.ref (KJ h a b).objs.size,.ref (KL h a b).objs.size]}
theorem yo(v1 e:af)(a c:bR):
  Meets (bd.«zip.__new__» ⟨[.type "zip",v1,e],[]⟩) (λ_ R s=>tq v1 a s.heap/\tq e c (s.heap.push a)/\
   R (.ok (.ret (.ref (KN s.heap a c).objs.size))) {s with heap:=B3 s.heap a c}):=
 .of_wp λprog w A R s h=>by
  obtain⟨b,g,d,tk,os⟩:=s;obtain⟨f,m,h⟩:=h;have n:=sub_zip;have i:∀(A:aH) (E:af->ah->Prop) (Q:af->ah->Prop),Q (.ref b.objs.size) ⟨b.push a,g,d,tk,os⟩->wpAny (model prog w) A (aav v1) Q E ⟨b,g,d,tk,os⟩:=λA E Q q=>f prog w A E ⟨b,g,d,tk,os⟩ Q rfl q;have j:∀(A:aH) (E:af->ah->Prop) (Q:af->ah->Prop),Q (.ref (b.push a).objs.size) ⟨(b.push a).push c,g,d,tk,os⟩->wpAny (model prog w) A (aav e) Q E ⟨b.push a,g,d,tk,os⟩:=λA E Q q=>m prog w A E ⟨b.push a,g,d,tk,os⟩ Q rfl q
  wp_walk using i _ _ _,j _ _ _
  exact⟨_,rfl,h⟩
section
variable {prog:aw} {w:aN} {A:aH} {E:af->ah->Prop} {s:ah}
theorem Ai{v1 f:af}{a b:bR}{Q:af->ah->Prop}(u:tq v1 a s.heap)(v:tq f b (s.heap.push a))(y:a.isFreed=ao)(z:b.isFreed=ao)
(h:∀e,fC e (s.heap.objs.size+4) (s.heap.objs.size+2) (s.heap.objs.size+3) .none->de e (s.heap.objs.size+2) (.ref s.heap.objs.size) (.ref (s.heap.objs.size+1))->
   de e (s.heap.objs.size+3) .none .none->e.get? s.heap.objs.size=ae a->e.get? (s.heap.objs.size+1)=ae b->e.objs.size=s.heap.objs.size+5->
   (∀c o,s.heap.get? c=ae o->e.get? c=ae o)->Q (.ref (s.heap.objs.size+4)) {s with heap:=e}):
  wpAny (model prog w) A (call (.type "zip") [v1,f]) Q E s:=by
 refine callType_new F.called_zip (by decide) (F.typeCall_zip_2 _ _) (F.newCall_zip_2 _ _) (λobj=>F.args_object_init_3 obj _ _) F.entry_zip_new
  (yo v1 f a b) ⟨u,v,?_⟩
 have g:(s.heap.push a).objs.size=s.heap.objs.size+1:=cx ..;have i:(KJ s.heap a b).objs.size=s.heap.objs.size+2:=by rw[cx,g]
 have j:(KL s.heap a b).objs.size=s.heap.objs.size+3:=by rw[cx,i]
 have m:(KN s.heap a b).objs.size=s.heap.objs.size+4:=by rw[cx,j]
 have B:(B3 s.heap a b).objs.size=s.heap.objs.size+5:=by rw[cx,m]
 have n:(B3 s.heap a b).get? (KN s.heap a b).objs.size=ae _:=bg _ rfl;have p:(B3 s.heap a b).get? (KL s.heap a b).objs.size=ae _:=ar _ (bg _ rfl);have q:(B3 s.heap a b).get? (KJ s.heap a b).objs.size=ae _:=ar _ (ar _ (bg _ rfl));have r:(B3 s.heap a b).get? (s.heap.push a).objs.size=ae b:=ar _ (ar _ (ar _ (bg _ z)));have C:(B3 s.heap a b).get? s.heap.objs.size=ae a:=ar _ (ar _ (ar _ (ar _ (bg _ y))));show _/\_;rw[i,j,m] at n;rw[g,i] at q;rw[j] at p;rw[g] at r;rw[m];exact⟨⟨_,n,rfl⟩,h _ n q p C r B λc o x=>
  ar _ (ar _ (ar _ (ar _ (ar _ x))))⟩
end
end PySem
namespace L2
open PySem PySem.Spec PyProof.Rows
section
variable {X:Cx} {pins:List (ai×bR)} {σ:L2.St} {H:Hp} {s:ah} {h':az}
theorem Inv.Dy{g:Nat}(ch:List ai)(I:Inv X pins σ H s)(k:∀b o,b∉ch->s.heap.get? b=ae o->h'.get? b=ae o)(a:∀b∈ch,nK X pins H b):Inv X pins σ H {s with heap:=h',toks:=g}:=by
 have f:∀b u,H b=ae u->b∉ch:=λb u e z=>by have:=(a b z).1;rw[this] at e;cases e
 have h:X.env.locals∉ch:=λz=>(a _ z).2.1 rfl;refine I.step (g':=s.gens) (d':=s.drawn) (ch:=ch) (λb hb=>?_) (λb o _ _ hc e _=>k b o hc e) (λb o _ _ hc e _=>⟨o.slots,k b o hc e⟩) (λ_ _ _ _ n=>n)
  (λb o hc e=>⟨o,k b o hc e⟩) (λ_ _ e=>e) (λ_ _ _ e=>e) (λb ps e=>⟨#[],by rw[e];simp⟩) (λm hm=>?_) (λb u e=>?_) I.bare
 ·obtain⟨E,i,G,j,p,w⟩:=a b hb;exact⟨j,i,p,w⟩
 ·obtain⟨o,es,y,A,r⟩:=hm;exact⟨o,es,y,k _ o h A,r⟩
 ·refine(I.iE b u e).qi (λc v hc q=>k c v ?_ q) (λ_ q=>q) λ_ _ q=>q;rcases hc with z|z
  ·rw[z];exact f b u e
  ·exact f c _ z
end
section
variable {X:Cx} {pins:List (ai×bR)} {σ:L2.St} {H:Hp} {s:ah} {h':az}
theorem Inv.Dz{j:Nat}(ch:List ai){T:ai}{f:List V}{g9:List af}(I:Inv X pins σ H s)(k:∀b o,b∉ch->s.heap.get? b=ae o->h'.get? b=ae o)(g:∀b∈ch,nK X pins H b)(h:s.heap.objs.size<=T)
(p:f.length<=ax)(r:Vals f g9)(w:aaA h' T g9.toArray):Inv X pins σ (upd H T (.tup f)) {s with heap:=h',toks:=j}:=by
 have i:∀b u,H b=ae u->b∉ch:=λb u e z=>by have:=(g b z).1;rw[this] at e;cases e
 have a:H T=aq:=I.iE.fresh h;have neT:∀b o,s.heap.get? b=ae o->b≠T:=λb o e=>bL (aT (aP e) h);have y:X.env.locals∉ch:=λz=>(g _ z).2.1 rfl;refine I.step (g':=s.gens) (d':=s.drawn) (ch:=ch) (λb hb=>?_) (λb o _ _ hc e _=>k b o hc e) (λb o _ _ hc e _=>⟨o.slots,k b o hc e⟩) (λb o _ e n=>by rw[gy (neT b o e)];exact n)
  (λb o hc e=>⟨o,k b o hc e⟩) (λb xs e=>by rw[gy (i6 e a)];exact e) (λb o u e=>by rw[gy (i6 e a)];exact e) (λb ps e=>⟨#[],by rw[gy (i6 e a),e];simp⟩) (λm hm=>?_) (λb u e=>?_) I.bare
 ·obtain⟨N,A,O,B,C,E⟩:=g b hb;exact⟨B,A,C,E⟩
 ·obtain⟨o,es,G,J,r⟩:=hm;exact⟨o,es,G,k _ o y J,r⟩
 ·by_cases hb:b=T
  ·subst hb;rw[gH] at e;cases e;exact⟨p,g9,r,w⟩
  ·rw[gy hb] at e;refine(I.iE b u e).qi (λc v hc q=>k c v ?_ q) (λc q=>by rw[gy (i6 q a)];exact q) λc xs q=>by rw[gy (i6 q a)];exact q
   rcases hc with z|z
   ·rw[z];exact i b u e
   ·exact i c _ z
end
inductive Sk where
 |L (a:ai)|T (a:ai)|S (z:av) (t:aaU)
noncomputable def Sk.val:Sk->af
 |.L a=>.ref a
 |.T a=>.ref a
 |.S z t=>.str z t
noncomputable def Sk.obj:Sk->bR
 |.L a=>{cls:=.type "list_iterator",data:=.fields #[.ref a,.int 0 0]}
 |.T a=>{cls:=.type "tuple_iterator",data:=.fields #[.ref a,.int 0 0]}
 |.S z t=>{cls:=.type (dn z),data:=.fields #[.str z t,.int 0 0]}
def Sk.st(it:ai):Sk->Nat->az->Prop
 |.L a,i,h=>h.IsListIter it a i
 |.T a,i,h=>h.IsTupleIter it a i
 |.S z t,i,h=>h.IsStrIter it (dn z) z t i
def Sk.seq(K:W.Frag)(H:Hp):Sk->List V->Prop
 |.L a,b=>nj K H a b
 |.T a,b=>t9 K H a b
 |.S z _,b=>b=z.cps.toList.map λc=>V.str ⟨#[c]⟩
theorem Sk.vF{it:ai}{k:Sk}{i:Nat}{h:az}(st:k.st it i h):∃o,h.get? it=ae o/\∃n fs,o.cls=.type n/\o.data=.fields fs/\["enumerate","zip","dict_itemiterator","dict_reverseitemiterator","odict_iterator","itertools.zip_longest","itertools.pairwise"].contains n=ao:=by
 cases k with
 |L a=>obtain⟨o,e,c,d⟩:=st;exact⟨o,e,_,_,c,d,by decide⟩
 |T a=>obtain⟨o,e,c,d⟩:=st;exact⟨o,e,_,_,c,d,by decide⟩
 |S z t=>
  obtain⟨o,e,c,d⟩:=st;refine⟨o,e,_,_,c,d,?_⟩;rcases lu (x:=z) with q|q<;>(rw[q];decide)
theorem Sk.rM{it:ai}{k:Sk}{i:Nat}{h c:az}(st:k.st it i h)(b:∀o,h.get? it=ae o->c.get? it=ae o):k.st it i c:=by
 cases k with
 |L a=>obtain⟨o,e,r⟩:=st;exact⟨o,b o e,r⟩
 |T a=>obtain⟨o,e,r⟩:=st;exact⟨o,b o e,r⟩
 |S z t=>obtain⟨o,e,r⟩:=st;exact⟨o,b o e,r⟩
theorem Sk.G6{it:ai}{k:Sk}{h:az}(e:h.get? it=ae k.obj):k.st it 0 h:=by
 cases k with
 |L a=>exact⟨_,e,rfl,rfl⟩
 |T a=>exact⟨_,e,rfl,rfl⟩
 |S z t=>exact⟨_,e,rfl,rfl⟩
section
variable {X:Cx} {pins:List (ai×bR)} {σ:L2.St} {H:Hp} {s:ah}
theorem Sk.inj(I:Inv X pins σ H s){k:Sk}{c zs:List V}(h:k.seq X.K H c)(b:k.seq X.K H zs):c=zs:=by
 cases k with
 |L a=>exact I.zO h b
 |T a=>exact I.w5 h b
 |S z t=>exact h.trans b.symm
theorem KP(I:Inv X pins σ H s){b:ai}(a:nK X pins H b):H b=aq/\X.K.lookup b=aq:=by
 refine⟨a.1,?_⟩;cases e:X.K.lookup b with
 |none=>rfl
 |some o=>
  have hb:=I.ok.mod.JD b o e;rcases a.2.2.2.1 with z|z
  ·exact absurd z (I.ok.zJ b o hb)
  ·exact absurd (aT (aP hb) (aQ I.ok.Ep z)) (cu _)
theorem Sk.DB(I:Inv X pins σ H s){b a:ai}(f:nK X pins H b){c:List V}(h:nj X.K H a c\/t9 X.K H a c):a≠b:=λe=>by subst e;obtain⟨g,i⟩:=KP I f;rcases h with((h|⟨_,h⟩)|⟨_,_,_,h,_⟩)|((h|⟨_,h⟩)|⟨_,_,_,h,_⟩);all_goals first|(rw[g] at h;cases h)|(rw[i] at h;cases h)
theorem Sk.draws{A:aH}(I:Inv X pins σ H s)(n:A.handled=aq){k:Sk}{f:List V}(g:k.seq X.K H f){it:ai}(M:nK X pins H it){i:Nat}(st:k.st it i s.heap):
  ∃B St,fB X.prog X.w A it B f.length (λi v=>∃y,f[i]?=ae y/\RelV y v) St/\St i s.heap/\it∈B/\(∀b,nK X pins H b->b≠it->b∉B)/\∀j h,St j h->k.st it j h:=by
 cases k with
 |L a=>
  obtain⟨g9,r,p,O⟩:=I.list g;have C:a≠it:=Sk.DB I M (.inl g);refine⟨[it,a],(λi h=>h.IsListIter it a i/\h.IsList a g9.toArray),?_,⟨st,p.isList⟩,by simp,λb hb e=>?_,λj h q=>q.1⟩
  ·have D:=ma (P':=λi v=>∃y,f[i]?=ae y/\RelV y v) (fB.list (prog:=X.prog) (w:=X.w) n it a C g9.toArray) (λi v e=>by
    have hi:i<g9.length:=by have:=(cr.mp e).1;simpa using this
    have m:i<f.length:=by rw[r.length];exact hi
    obtain⟨u,E,G⟩:=r.get (i:=i) (x:=f[i]) (by simp[m]);have:u=v:=by
     have e':g9[i]?=ae v:=by simpa using e
     rw[E] at e';exact bq e'
    subst this;exact⟨f[i],by simp[m],G⟩)
   rw[aV,<-r.length] at D;exact D
  ·have:=Sk.DB I hb (.inl g);simp only [aE,bU,or_false]
   rintro(q|q)
   ·exact e q
   ·exact this q.symm
 |T a=>
  obtain⟨g9,r,p,O⟩:=I.tuple g;have C:a≠it:=Sk.DB I M (.inr g);refine⟨[it,a],(λi h=>h.IsTupleIter it a i/\h.IsTuple a g9.toArray),?_,⟨st,(show s.heap.IsTuple a g9.toArray from p)⟩,by simp,λb hb e=>?_,λj h q=>q.1⟩
  ·have D:=ma (P':=λi v=>∃y,f[i]?=ae y/\RelV y v) (vC (prog:=X.prog) (w:=X.w) n it a C g9.toArray) (λi v e=>by
    have hi:i<g9.length:=by have:=(cr.mp e).1;simpa using this
    have m:i<f.length:=by rw[r.length];exact hi
    obtain⟨u,E,G⟩:=r.get (i:=i) (x:=f[i]) (by simp[m]);have:u=v:=by
     have e':g9[i]?=ae v:=by simpa using e
     rw[E] at e';exact bq e'
    subst this;exact⟨f[i],by simp[m],G⟩)
   rw[aV,<-r.length] at D;exact D
  ·have:=Sk.DB I hb (.inr g);simp only [aE,bU,or_false]
   rintro(q|q)
   ·exact e q
   ·exact this q.symm
 |S z t=>
  have g:f=z.cps.toList.map λc=>V.str ⟨#[c]⟩:=g;subst g;have o:∀(i:Nat) (v:af),(∃(c:Nat) (u:aaU),z.cps[i]?=ae c/\v=eM ⟨#[c]⟩ u)->∃y,(z.cps.toList.map λc=>V.str ⟨#[c]⟩)[i]?=ae y/\RelV y v:=by
   rintro i v ⟨c,u,Q,U⟩
   refine⟨.str ⟨#[c]⟩,?_,u,U⟩;rw[bD,Array.getElem?_toList,Q];rfl
  have N:(z.cps.toList.map λc=>V.str ⟨#[c]⟩).length=z.cps.size:=by simp
  have key:dn z="str_ascii_iterator"\/dn z="str_iterator":=lu;rcases key with e|e
  ·have J:s.heap.IsStrIter it "str_ascii_iterator" z t i:=by rw[<-e];exact st
   refine⟨[it],_,by rw[N];exact ma (fB.strAscii n it z t) o,J,by simp,λb hb e=>by simpa using e,λj h q=>by show h.IsStrIter it (dn z) z t j;rw[e];exact q⟩
  ·have J:s.heap.IsStrIter it "str_iterator" z t i:=by rw[<-e];exact st
   refine⟨[it],_,by rw[N];exact ma (fB.strWide n it z t) o,J,by simp,λb hb e=>by simpa using e,λj h q=>by show h.IsStrIter it (dn z) z t j;rw[e];exact q⟩
theorem Sk.iter(I:Inv X pins σ H s){k:Sk}{c:List V}(b:k.seq X.K H c):tq k.val k.obj s.heap:=by
 intro prog w A E g Q e q;cases k with
 |L a=>
  obtain⟨g9,r,p,f⟩:=I.list b;exact aat (by rw[e];exact p.isList) q
 |T a=>
  obtain⟨g9,r,p,f⟩:=I.tuple b;exact ec (by rw[e];exact(show s.heap.IsTuple a g9.toArray from p)) q
 |S z t=>exact abd q
theorem Sk.SU(I:Inv X pins σ H s){k:Sk}{c:List V}(b:k.seq X.K H c)(o:bR):tq k.val k.obj (s.heap.push o):=by
 intro prog w A E g Q e q;cases k with
 |L a=>
  obtain⟨g9,r,p,f⟩:=I.list b;exact aat (by rw[e];exact p.isList.push _) q
 |T a=>
  obtain⟨g9,r,p,f⟩:=I.tuple b;exact ec (by rw[e];exact az.IsTuple.push (show s.heap.IsTuple a g9.toArray from p) _) q
 |S z t=>exact abd q
end
theorem Sk.freed(k:Sk):k.obj.isFreed=ao:=by cases k<;>rfl
noncomputable def YU(K:W.Frag)(k:Sk):It:=⟨λi H=>∃a y,k.seq K H a/\a[i]?=ae y,λi H x b=>∃p,x=.ref p/\H p=aq/\∀a,k.seq K H a->∃y,a[i]?=ae y/\b=upd H p (.tup [.int i,y]),λi H=>∃a,k.seq K H a/\a.length=i⟩
theorem ER{P:aw}{w:aN}{K:W.Frag}{elts:List aS}{n:Nat}{pos:cC}(k:Sk)(e it:ai)(m:e≠it):Turn P w K (.Tuple elts n pos) (YU K k) [e,it] e (λi h=>(∃old,abz h e it i old)/\k.st it i h) where
 mem:=by simp
 obj:=λi h st b hb=>by
  obtain⟨⟨old,a⟩,s⟩:=st;simp only [aE,bU,or_false] at hb;rcases hb with rfl|rfl
  ·exact⟨_,a,λv z=>by cases z⟩
  ·obtain⟨o,e,n,fs,c,d,_⟩:=Sk.vF s;exact⟨o,e,λv z=>by rw[d] at z;cases z⟩
 keep:=λi h p st u=>by obtain⟨⟨old,a⟩,s⟩:=st;exact⟨⟨old,u e (by simp) _ a⟩,Sk.rM s λo q=>u it (by simp) o q⟩
 item:=by
  intro X g hw C hc i pins s σ H E I f st G;subst g hw C;obtain⟨ys,y,B,j⟩:=G;obtain⟨⟨old,a⟩,J⟩:=st;have L:=f e (by simp);have M:=f it (by simp);have N:X.A.in1.handled=aq:=I.ok.hd hc;obtain⟨fp,St,D,O,hm,U,jv⟩:=Sk.draws I N B M J;have W:=WalksT.enumerateD (A:=X.A) D e m (U e L m) hm;have hi:i<ys.length:=(aC.mp j).1;refine W.item i s _ _ hi ⟨⟨old,a⟩,O⟩ λT vals p tk g hT WE SV Y=>⟨.ref T,rfl,?_⟩;obtain⟨t,x,⟨y',SW,ry⟩,rfl⟩:=g;have:y'=y:=by rw[j] at SW;exact(bq SW).symm
  subst this;have Rh:=W.apart i T p SV;refine W.go elts n pos i T {s with heap:=p,toks:=tk} _ E SV λKQ YV UZ=>?_;have U0:T∉[e,it]:=Rh;have u:∀b o,b∉[e,it]->s.heap.get? b=ae o->KQ.get? b=ae o:=λb o hb eb=>UZ b o hb (Y b o hb eb);have R9:KQ.IsTuple T #[.int i t,x]:=by obtain⟨o,ho,r⟩:=WE;exact⟨o,UZ T o U0 ho,r⟩
  have KO:H T=aq:=I.iE.fresh hT;have I2:Inv X pins σ (upd H T (.tup [.int i,y'])) {s with heap:=KQ,toks:=tk}:=I.Dz [e,it] u (λb hb=>f b hb) hT (by show 2<=ax;decide) (g9:=[.int i t,x]) (.cons ⟨t,rfl⟩ (.cons ry .nil)) R9;refine⟨.ref T,_,I2,rfl,⟨T,rfl,KO,λzs hz=>?_⟩,⟨YV.1,jv _ _ YV.2⟩,λb hb=>?_⟩
  ·rw[Sk.inj I hz B];exact⟨y',j,rfl⟩
  ·rw[gy λq=>U0 (by rw[<-q];exact hb)];exact(f b hb).1
 done:=by intro X g hw C hc i pins s σ H E I f st G;subst g hw C;obtain⟨ys,B,j⟩:=G;obtain⟨⟨old,a⟩,J⟩:=st;have L:=f e (by simp);have M:=f it (by simp);have N:X.A.in1.handled=aq:=I.ok.hd hc;obtain⟨fp,St,D,O,hm,U,jv⟩:=Sk.draws I N B M J;have W:=WalksT.enumerateD (A:=X.A) D e m (U e L m) hm;subst j;exact W.done s _ _ ⟨⟨old,a⟩,O⟩ λp tk Y=>⟨rfl,I.Dy [e,it] Y (λb hb=>f b hb)⟩
 self:=λA i s Q E st h=>by obtain⟨⟨old,a⟩,_⟩:=st;exact abe a h
noncomputable def YW(K:W.Frag)(k b:Sk):It:=⟨λi H=>∃a zs y z,k.seq K H a/\b.seq K H zs/\a[i]?=ae y/\zs[i]?=ae z,
 λi H x c=>∃p,x=.ref p/\H p=aq/\∀a zs,k.seq K H a->b.seq K H zs->∃y z,a[i]?=ae y/\zs[i]?=ae z/\c=upd H p (.tup [y,z]),
 λi H=>∃a zs,k.seq K H a/\b.seq K H zs/\(i=a.length\/(i<a.length/\i=zs.length))⟩
theorem G7{P:aw}{w:aN}{K:W.Frag}{elts:List aS}{n:Nat}{pos:cC}(k k2:Sk)(z TI TO f g:ai)(nd:[z,TI,TO,f,g].Nodup):Turn P w K (.Tuple elts n pos) (YW K k k2) [z,TI,TO,f,g] z
  (λi h=>fC h z TI TO .none/\de h TI (.ref f) (.ref g)/\(∃a b,de h TO a b)/\k.st f i h/\k2.st g i h) where
 mem:=by simp
 obj:=λi h st b hb=>by
  obtain⟨p,m,⟨a,c,r⟩,B,C⟩:=st;simp only [aE,bU,or_false] at hb;rcases hb with rfl|rfl|rfl|rfl|rfl
  ·exact⟨_,p,λv z=>by cases z⟩
  ·exact⟨_,m,λv z=>by cases z⟩
  ·exact⟨_,r,λv z=>by cases z⟩
  ·obtain⟨o,e,n,fs,c,d,_⟩:=Sk.vF B;exact⟨o,e,λv z=>by rw[d] at z;cases z⟩
  ·obtain⟨o,e,n,fs,c,d,_⟩:=Sk.vF C;exact⟨o,e,λv z=>by rw[d] at z;cases z⟩
 keep:=λi h M st G=>by obtain⟨p,m,⟨a,c,r⟩,B,C⟩:=st;exact⟨G z (by simp) _ p,G TI (by simp) _ m,⟨a,c,G TO (by simp) _ r⟩,Sk.rM B λo q=>G f (by simp) o q,Sk.rM C λo q=>G g (by simp) o q⟩
 item:=by
  intro X hP hw hK hc i pins s σ H E I j st hg;subst hP hw hK;obtain⟨ys,zs,y,y2,hq,U1,hy,WG⟩:=hg;obtain⟨p,m,⟨a,c,r⟩,B,C⟩:=st;have N:=j z (by simp);have KG:=j TI (by simp);have O:=j TO (by simp);have T:=j f (by simp);have U:=j g (by simp);simp only [dS,aE,bU,or_false,not_or,d6,and_true,not_false_eq_true] at nd;obtain⟨⟨Y,n2,n3,n4⟩,⟨n5,n6,n7⟩,⟨n8,n9⟩,O5⟩:=nd;have GD:X.A.in1.handled=aq:=I.ok.hd hc;obtain⟨fp,St,D,O3,hm,J,jv⟩:=Sk.draws I GD hq T B;obtain⟨Ae,St2,D2,O6,O7,L,KR⟩:=Sk.draws I GD U1 U C;have Z:xw z TI TO f g fp Ae:=⟨b4 Y,b4 n2,n5,n6,n7,hm,O7,J z N n3,L z N n4,J TO O n8,L TO O n9,L f T O5,J g U (b4 O5)⟩;have l1:i<ys.length:=(aC.mp hy).1;have l2:i<zs.length:=(aC.mp WG).1;refine Ah Z D D2 p m r O3 O6 l1 l2 λu v M tk p1 p2 g1 g2 g3 g4 g5 g6 g7=>⟨.ref s.heap.objs.size,rfl,?_⟩;obtain⟨y',SW,ry⟩:=p1;obtain⟨WH,SY,ry2⟩:=p2;have e1:y'=y:=by rw[hy] at SW;exact(bq SW).symm
  have e2:WH=y2:=by rw[WG] at SY;exact(bq SY).symm
  subst e1 e2;refine wpAny_letOwnedTupleGo_zip (s:={s with heap:=M,toks:=tk}) g1 λKQ WI G8=>?_;replace G8:bX z M KQ:=G8;have lt:∀{c o},s.heap.get? c=ae o->s.heap.objs.size≠c:=λe=>eP (aP e);have G:∀b o,b∉[z,TI,TO,f,g]->s.heap.get? b=ae o->KQ.get? b=ae o:=λb o hb eb=>by simp only [aE,bU,or_false,not_or] at hb;exact G8.extBut _ _ hb.1 (g7 b o hb.1 hb.2.2.1 hb.2.2.2.1 hb.2.2.2.2 eb)
  have YX:s.heap.objs.size≠z:=lt p;have U0:s.heap.objs.size∉[z,TI,TO,f,g]:=by
   simp only [aE,bU,or_false,not_or];refine⟨YX,lt m,lt r,?_,?_⟩
   ·obtain⟨o,e,_⟩:=Sk.vF B;exact lt e
   ·obtain⟨o,e,_⟩:=Sk.vF C;exact lt e
  have R9:aaA KQ s.heap.objs.size #[u,v]:=⟨_,G8.extBut _ _ YX g5,rfl,_,rfl⟩;have KO:H s.heap.objs.size=aq:=I.iE.fresh (aY _);have I2:Inv X pins σ (upd H s.heap.objs.size (.tup [y',WH])) {s with heap:=KQ,toks:=tk}:=I.Dz [z,TI,TO,f,g] G (λb hb=>j b hb) (aY _) (by show 2<=ax;decide) (g9:=[u,v]) (.cons ry (.cons ry2 .nil)) R9;have up:∀c o,c≠z->M.get? c=ae o->KQ.get? c=ae o:=λc o hc e=>G8.extBut _ _ hc e;refine⟨.ref s.heap.objs.size,_,I2,rfl,⟨_,rfl,KO,λas bs ha hb=>?_⟩,⟨WI,up _ _ (b4 Y) (g7 _ _ (b4 Y) n5 n6 n7 m),⟨_,_,up _ _ (b4 n2) g2⟩,Sk.rM (jv _ _ g3) λo q=>up _ _ (b4 n3) q,Sk.rM (KR _ _ g4) λo q=>up _ _ (b4 n4) q⟩,λb hb=>?_⟩
  ·rw[Sk.inj I ha hq,Sk.inj I hb U1];exact⟨y',WH,hy,WG,rfl⟩
  ·rw[gy λq=>U0 (by rw[<-q];exact hb)];exact(j b hb).1
 done:=by intro X hP hw hK hc i pins s σ H E I j st hg;subst hP hw hK;obtain⟨ys,zs,hq,U1,G5⟩:=hg;obtain⟨p,m,⟨a,c,r⟩,B,C⟩:=st;have N:=j z (by simp);have KG:=j TI (by simp);have O:=j TO (by simp);have T:=j f (by simp);have U:=j g (by simp);simp only [dS,aE,bU,or_false,not_or,d6,and_true,not_false_eq_true] at nd;obtain⟨⟨Y,n2,n3,n4⟩,⟨n5,n6,n7⟩,⟨n8,n9⟩,O5⟩:=nd;have GD:X.A.in1.handled=aq:=I.ok.hd hc;obtain⟨fp,St,D,O3,hm,J,jv⟩:=Sk.draws I GD hq T B;obtain⟨Ae,St2,D2,O6,O7,L,KR⟩:=Sk.draws I GD U1 U C;have Z:xw z TI TO f g fp Ae:=⟨b4 Y,b4 n2,n5,n6,n7,hm,O7,J z N n3,L z N n4,J TO O n8,L TO O n9,L f T O5,J g U (b4 O5)⟩;refine B2 Z D D2 p m r O3 O6 G5 λM tk hk=>⟨rfl,I.Dy [z,TI,TO,f,g] (λb o hb eb=>?_) (λb hb=>j b hb)⟩;simp only [aE,bU,or_false,not_or] at hb;exact hk b o hb.1 hb.2.2.1 hb.2.2.2.1 hb.2.2.2.2 eb
 self:=λA i s Q E st h=>abm st.1 h
def B4 (K:W.Frag)(H:Hp)(x:V)(b:Sk->Prop):Prop:=(∃a,x=.ref a/\(∃c,nj K H a c)/\b (.L a))\/(∃a,x=.ref a/\(∃c,t9 K H a c)/\b (.T a))\/(∃z,x=.str z/\∀t,b (.S z t))
theorem B4.get{K:W.Frag}{H:Hp}{x:V}{u:af}{c:Sk->Prop}(h:B4 K H x c)(r:RelV x u):∃k:Sk,u=k.val/\(∃b,k.seq K H b)/\c k:=by
 rcases h with⟨a,rfl,⟨b,h⟩,q⟩|⟨a,rfl,⟨b,h⟩,q⟩|⟨z,rfl,q⟩
 ·exact⟨.L a,r,⟨b,h⟩,q⟩
 ·exact⟨.T a,r,⟨b,h⟩,q⟩
 ·obtain⟨t,rfl⟩:=r;exact⟨.S z t,rfl,⟨_,rfl⟩,q t⟩
noncomputable def Sk.it(K:W.Frag):Sk->It
 |.L a=>Yw K a
 |.T a=>Yx K a
 |.S z _=>YM z
section
variable {X:Cx} {tg:aS}
def WJ (K:W.Frag)(a:TE):TI:=λσ H R=>a σ H λx H1=>B4 K H1 x λk=>R (k.it K) H1
theorem O8{e:aS}{g:TE}(i:PE X e g):PI X tg e (WJ X.K g):=by
 intro pins s σ H R I h;refine ji (i pins s σ H _ I h) λv s1 j=>?_;obtain⟨x,H1,c,m,n⟩:=j;obtain⟨k,rfl,⟨r,p⟩,q⟩:=n.get m;refine(Sk.iter c p) _ _ _ _ s1 _ rfl ?_;have hb:∀b∈[s1.heap.objs.size],nK X pins H1 b:=λb hb=>by
  have e:b=s1.heap.objs.size:=by simpa using hb
  subst e;exact c.BJ (aY _) (c.iE.fresh (aY _))
 have f:Inv X pins σ H1 {s1 with heap:=s1.heap.push k.obj}:=c.kept (t':=s1.toks) λb o e=>ar _ e;cases k with
 |L a=>exact⟨s1.heap.objs.size,[s1.heap.objs.size],_,_,H1,rfl,f,Es a _,⟨_,bg _ rfl,rfl,rfl⟩,hb,q⟩
 |T a=>exact⟨s1.heap.objs.size,[s1.heap.objs.size],_,_,H1,rfl,f,BK a _,⟨_,bg _ rfl,rfl,rfl⟩,hb,q⟩
 |S z t=>exact⟨s1.heap.objs.size,[s1.heap.objs.size],_,_,H1,rfl,f,GB _ z t,⟨⟨_,bg _ rfl,rfl,rfl⟩,bx _⟩,hb,q⟩
def S0 (K:W.Frag)(a:TA):TI:=λσ H R=>a σ H λb H1=>∃x,b=[x]/\B4 K H1 x λk=>R (YU K k) H1
theorem KS{a:aS}{B:TA}{p pos C:cC}{elts:List aS}{n:Nat}(G:Gl X "enumerate")(hm:X.mg "enumerate"=aq)(ha:PA X [a] B)(j:aJ [a] X.env=[(ao,eval a X.env)]:=by rfl):
  PI X (.Tuple elts n C) (.Call (.Name "enumerate" p) [a] [] pos) (S0 X.K B):=by
 intro pins s σ H R I h;refine Call_ (sO I G hm boot_enumerate (cX (ji (ha pos pins s σ H _ I h) λus s1 ⟨O,H1,g,J,v⟩=>?_) j rfl));obtain⟨x,rfl,v⟩:=v;obtain⟨u,rfl,M⟩:=vals1 J;obtain⟨k,rfl,⟨Q,j⟩,q⟩:=v.get M;have y:∀c:az,abz c (s1.heap.objs.size+1) s1.heap.objs.size 0 .none->k.st s1.heap.objs.size 0 c->(∀b o,s1.heap.get? b=ae o->c.get? b=ae o)->
   wpAny (model X.prog X.w) X.A (aav (.ref (s1.heap.objs.size+1))) (VH X pins σ (.Tuple elts n C) R) X.xe {s1 with heap:=c}:=λc e f m=>by
  refine abe (s:={s1 with heap:=c}) e ?_;have ne:s1.heap.objs.size+1≠s1.heap.objs.size:=by omega
  refine⟨s1.heap.objs.size+1,[s1.heap.objs.size+1,s1.heap.objs.size],_,_,H1,rfl,g.kept (t':=s1.toks) m,ER k _ _ ne,⟨⟨_,e⟩,f⟩,λb hb=>?_,q⟩;have E:s1.heap.objs.size<=b:=by simp only [aE,bU,or_false] at hb;rcases hb with rfl|rfl<;>omega
  exact g.BJ E (g.iE.fresh E)
 cases k with
 |L a=>
  obtain⟨g9,r,pl,N⟩:=g.list j;exact call_enumerate_list pl.isList λc e f m i=>y c e f i
 |T a=>
  obtain⟨g9,r,pl,N⟩:=g.tuple j;exact vD (show s1.heap.IsTuple a g9.toArray from pl) λc e f m i=>y c e f i
 |S z t=>exact call_enumerate_str λc e f m i=>y c e f i
theorem ES:bV "zip"=ae (.type "zip"):=by decide+kernel
def WK (K:W.Frag)(a:TA):TI:=λσ H R=>a σ H λb H1=>∃x y,b=[x,y]/\B4 K H1 x λk=>B4 K H1 y λc=>R (YW K k c) H1
theorem O9{a b:aS}{i:TA}{p pos r:cC}{elts:List aS}{n:Nat}(w:Gl X "zip")(hm:X.mg "zip"=aq)(ha:PA X [a,b] i)(f:aJ [a,b] X.env=[(ao,eval a X.env),(ao,eval b X.env)]:=by rfl)(e:aJ [b] X.env=[(ao,eval b X.env)]:=by rfl):
  PI X (.Tuple elts n r) (.Call (.Name "zip" p) [a,b] [] pos) (WK X.K i):=by
 intro pins s σ H R I h;refine Call_ (sO I w hm ES (cX (ji (ha pos pins s σ H _ I h) λus s1 ⟨N,H1,c,z,g⟩=>?_) (by rw[f,e]) (by rw[e];rfl)));obtain⟨x,y,rfl,g⟩:=g;obtain⟨u,v,rfl,A,B⟩:=vals2 z;obtain⟨k,rfl,⟨O,f⟩,q⟩:=g.get A;obtain⟨j,rfl,⟨zs,e⟩,q⟩:=q.get B;refine Ai (Sk.iter c f) (Sk.SU c e _) k.freed j.freed λC m E G J L Q M=>?_;refine abm (s:={s1 with heap:=C}) m ?_;refine⟨_,[s1.heap.objs.size+4,s1.heap.objs.size+2,s1.heap.objs.size+3,s1.heap.objs.size,s1.heap.objs.size+1],_,_,H1,rfl,c.kept (t':=s1.toks) M,G7 k j _ _ _ _ _ (by simp),⟨m,E,⟨_,_,G⟩,Sk.G6 J,Sk.G6 L⟩,λb hb=>?_,q⟩;have o:s1.heap.objs.size<=b:=by simp only [aE,bU,or_false] at hb;rcases hb with rfl|rfl|rfl|rfl|rfl<;>omega
 exact c.BJ o (c.iE.fresh o)
end
end L2
namespace L3
open PySem PySem.Spec PyProof.Rows L2
noncomputable def tu:D->Option (List D)
 |.lst ds=>ae ds
 |.tup ds=>ae ds
 |.oZ ns=>ae (ns.map D.int)
 |.str z=>ae (z.cps.toList.map λc=>D.str ⟨#[c]⟩)
 |_=>aq
def YY (d:D)(v:V)(k:Sk):Prop:=match d with
 |.lst _|.oZ _=>∃a,v=.ref a/\k=.L a
 |.tup _=>∃a,v=.ref a/\k=.T a
 |.str z=>v=.str z/\∃t,k=.S z t
 |_=>False
section
variable {K:W.Frag} {F α:List ai} {H:Hp} {M:Ms}
theorem uM(o:OK K F α H M){d:D}{v:V}{items:List D}{k:Sk}(r:Rep K α (iG F α M H) d v)(e:tu (vw M d)=ae items)(b:YY (vw M d) v k):∃g,k.seq K H g/\gp K α (iG F α M H) items g:=by
 generalize e1:vw M d=x at e b;cases x<;>first|(exfalso;cases e;done)|skip
 ·cases e;have e2:=kO e1;subst e2;obtain⟨rfl,t,rfl⟩:=b;exact⟨_,rfl,gp.of_map _ _ (λc=>kl) _⟩
 ·cases e;obtain⟨a,rfl,rfl⟩:=b;obtain⟨h,f,e3,q,z⟩:=lc o r e1;cases e3;exact⟨f,q,z⟩
 ·cases e;obtain⟨a,rfl,rfl⟩:=b;obtain⟨h,f,e3,q,z⟩:=jF o r e1;cases e3;exact⟨f,nj.of q,z⟩
 ·cases e;have e2:=qJ e1;subst e2;obtain⟨a,rfl,rfl⟩:=b;unfold Rep at r;obtain⟨h,e3,q⟩:=r;cases e3;exact⟨_,j5 hX q,gp.of_map _ _ (λc=>iI) _⟩
theorem yp(o:OK K F α H M){d:D}{v:V}{items:List D}{b:Sk->Prop}(r:Rep K α (iG F α M H) d v)(e:tu (vw M d)=ae items)(h:∀k,YY (vw M d) v k->b k):B4 K H v b:=by
 generalize e1:vw M d=x at e h;cases x<;>first|(exfalso;cases e;done)|skip
 ·have e2:=kO e1;subst e2;unfold Rep at r;subst r;exact .inr (.inr ⟨_,rfl,λt=>h _ ⟨rfl,t,rfl⟩⟩)
 ·obtain⟨a,c,rfl,q,z⟩:=lc o r e1;exact .inr (.inl ⟨a,rfl,⟨_,q⟩,h _ ⟨a,rfl,rfl⟩⟩)
 ·obtain⟨a,c,rfl,q,z⟩:=jF o r e1;exact .inl ⟨a,rfl,⟨_,nj.of q⟩,h _ ⟨a,rfl,rfl⟩⟩
 ·have e2:=qJ e1;subst e2;unfold Rep at r;obtain⟨a,rfl,q⟩:=r;exact .inl ⟨a,rfl,⟨_,j5 hX q⟩,h _ ⟨a,rfl,rfl⟩⟩
end
section
variable {X:Cx} {tg e a b:aS} {te:DE} {tt:DA} {p pos ur:cC} {elts:List aS} {n:Nat}
def jc (te:DE):DI:=λc M Q=>te c M λd M1=>∃items,tu (vw M1 d)=ae items/\Q items (λf=>vw f d=vw M1 d) M1
theorem ke(N:JE X e te):JI X tg e (jc te):=by
 refine⟨λI M P Q w q=>N.mono I _ _ _ (λd M1 q=>?_) q,PI.weak (O8 N.p) λσ H Q q=>?_⟩
 ·obtain⟨items,e,q⟩:=q;exact⟨items,e,w _ _ _ q⟩
 ·obtain⟨F,α,I,M,r,q⟩:=q;refine⟨F,α,I,M,r,N.mono I _ _ _ (λd M1 q v O H1 e1 U r1=>?_) q⟩;obtain⟨items,ei,q⟩:=q;refine yp U r1 ei λk hk=>q _ O H1 H1 id e1 U (EK.refl U) ?_;have key:∀m f o j,O <+: f->jd (iG F O M1 H1) (iG m f j o)->OK X.K m f o j->vw j d=vw M1 d->∃g,k.seq X.K o g/\gp X.K f (iG m f j o) items g:=λm f o j A B u y=>
   uM u (Rep.mono A B d v r1) (by rw[y];exact ei) (by rw[y];exact hk)
  refine⟨λi m f o j A B u y hi=>?_,λi m f o j x C d' A B u y hd E=>?_,λm f o j A B u y=>?_⟩
  ·obtain⟨g,h,G⟩:=key m f o j A B u y;have J:=gp.length _ _ G;cases k with
   |L a=>exact⟨g,g[i],h,by simp⟩
   |T a=>exact⟨g,g[i],h,by simp⟩
   |S z t=>
    have h:g=z.cps.toList.map λc=>V.str ⟨#[c]⟩:=h;show i<z.cps.size;rw[h] at J;simpa[J] using hi
  ·obtain⟨g,h,G⟩:=key m f o j A B u y;have Y:∀C,C=o->g[i]?=ae x->OK X.K m f C j/\Ext m f o j f C j/\Rep X.K f (iG m f j C) d' x:=λC e hx=>by subst e;obtain⟨d2,e2,r2⟩:=gp.get' _ _ i x G hx;rw[hd] at e2;cases e2;exact⟨u,Ext.refl,r2⟩
   cases k with
   |L a=>exact Y _ E.1 (E.2 g h)
   |T a=>exact Y _ E.1 (E.2 g h)
   |S z t=>
    obtain⟨e,c,hc,hx⟩:=E;have h:g=z.cps.toList.map λc=>V.str ⟨#[c]⟩:=h;refine Y _ e ?_;rw[h,bD,Array.getElem?_toList,hc,hx];rfl
  ·obtain⟨g,h,G⟩:=key m f o j A B u y;have J:=gp.length _ _ G;cases k with
   |L a=>exact⟨g,h,by omega⟩
   |T a=>exact⟨g,h,by omega⟩
   |S z t=>
    have h:g=z.cps.toList.map λc=>V.str ⟨#[c]⟩:=h;show z.cps.size<=items.length;rw[J,h];simp
def B5 (tt:DA):DI:=λc M Q=>tt c M λds M1=>match ds with
 |[d]=>∃items,tu (vw M1 d)=ae items/\Q (items.mapIdx λi d=>.tup [.int i,d]) (λf=>vw f d=vw M1 d) M1
 |_=>False
theorem kQ{K:W.Frag}{α:List ai}{H:Hp}{d:D}{c:List V}(h:gp K α H [d] c):∃v,c=[v]/\Rep K α H d v:=by unfold gp at h;obtain⟨v,r,rfl,z,y⟩:=h;unfold gp at y;subst y;exact⟨v,rfl,z⟩
theorem xx{K:W.Frag}{α:List ai}{H:Hp}{d e:D}{c:List V}(h:gp K α H [d,e] c):∃v u,c=[v,u]/\Rep K α H d v/\Rep K α H e u:=by unfold gp at h;obtain⟨v,r,rfl,z,y⟩:=h;obtain⟨u,rfl,w⟩:=kQ y;exact⟨v,u,rfl,z,w⟩
theorem DC(ha:JA X [a] tt)(hm:X.mg "enumerate"=aq)(U:Gl X "enumerate":=by rfl)(j:aJ [a] X.env=[(ao,eval a X.env)]:=by rfl):JI X (.Tuple elts n ur) (.Call (.Name "enumerate" p) [a] [] pos) (B5 tt):=by
 refine⟨λC M P Q w q=>ha.mono C _ _ _ (λds M1 q=>?_) q,PI.weak (KS U hm ha.p j) λσ H Q q=>?_⟩
 ·match ds,q with
  |[d],⟨items,e,q⟩=>exact⟨items,e,w _ _ _ q⟩
 ·obtain⟨F,α,C,M,r,q⟩:=q;refine⟨F,α,C,M,r,ha.mono C _ _ _ (λds M1 q vs E H1 e1 G I=>?_) q⟩;match ds,q,I with
  |[d],⟨items,L,q⟩,I=>
   obtain⟨v,Y,N⟩:=kQ I;subst Y;refine⟨v,rfl,yp G N L λk hk=>q _ E H1 H1 id e1 G (EK.refl G) ?_⟩;have key:∀h c f g,E <+: c->jd (iG F E M1 H1) (iG h c g f)->OK X.K h c f g->vw g d=vw M1 d->∃m,k.seq X.K f m/\gp X.K c (iG h c g f) items m:=λh c f g z j o u=>
    uM o (Rep.mono z j d v N) (by rw[u];exact L) (by rw[u];exact hk)
   refine⟨λi h c f g z j o u hi=>?_,λi h c f g x H2 d' z j o u hd J=>?_,λh c f g z j o u=>?_⟩
   ·obtain⟨m,A,B⟩:=key h c f g z j o u;have hl:=gp.length _ _ B;rw[c7] at hi;exact⟨m,m[i]'(by omega),A,by simp⟩
   ·obtain⟨m,A,B⟩:=key h c f g z j o u;obtain⟨p,rfl,O,J⟩:=J;obtain⟨y,WL,rfl⟩:=J m A;obtain⟨d2,e2,r2⟩:=gp.get' _ _ i y B WL;rw[fR,e2] at hd;cases hd;obtain⟨o2,T⟩:=o.laid (x:=.tup [.int i,y]) O;exact⟨o2,T,kF o O (gp.cons iI (gp.one r2)) T⟩
   ·obtain⟨m,A,B⟩:=key h c f g z j o u;have hl:=gp.length _ _ B;exact⟨m,A,by rw[c7];omega⟩
def vI (tt:DA):DI:=λg M Q=>tt g M λds M1=>match ds with
 |[d,e]=>∃xs c,tu (vw M1 d)=ae xs/\tu (vw M1 e)=ae c/\Q (bS (λa b=>.tup [a,b]) xs c) (λf=>vw f d=vw M1 d/\vw f e=vw M1 e) M1
 |_=>False
theorem B6(ha:JA X [a,b] tt)(hm:X.mg "zip"=aq)(hg:Gl X "zip":=by rfl)(j:aJ [a,b] X.env=[(ao,eval a X.env),(ao,eval b X.env)]:=by rfl)(Aj:aJ [b] X.env=[(ao,eval b X.env)]:=by rfl):
  JI X (.Tuple elts n ur) (.Call (.Name "zip" p) [a,b] [] pos) (vI tt):=by
 refine⟨λN M P Q w q=>ha.mono N _ _ _ (λds M1 q=>?_) q,PI.weak (O9 hg hm ha.p j Aj) λσ H Q q=>?_⟩
 ·match ds,q with
  |[d,e],⟨xs,m,e1,e2,q⟩=>exact⟨xs,m,e1,e2,w _ _ _ q⟩
 ·obtain⟨F,α,N,M,r,q⟩:=q;refine⟨F,α,N,M,r,ha.mono N _ _ _ (λds M1 q vs E H1 e1 O C=>?_) q⟩;match ds,q,C with
  |[d,U],⟨items,Pa,ei,YZ,q⟩,C=>
   obtain⟨v,u,rfl,C,T⟩:=xx C;refine⟨v,u,rfl,yp O C ei λk hk=>yp O T YZ λk2 UZ=>q _ E H1 H1 id e1 O (EK.refl O) ?_⟩;have key:∀h c f g,E <+: c->jd (iG F E M1 H1) (iG h c g f)->OK X.K h c f g->vw g d=vw M1 d->∃m,k.seq X.K f m/\gp X.K c (iG h c g f) items m:=λh c f g B j o A=>
    uM o (Rep.mono B j d v C) (by rw[A];exact ei) (by rw[A];exact hk)
   have Y:∀h c f g,E <+: c->jd (iG F E M1 H1) (iG h c g f)->OK X.K h c f g->vw g U=vw M1 U->∃m,k2.seq X.K f m/\gp X.K c (iG h c g f) Pa m:=λh c f g B j o A=>
    uM o (Rep.mono B j U u T) (by rw[A];exact YZ) (by rw[A];exact UZ)
   refine⟨λi h c f g B j o A hi=>?_,λi h c f g x H2 d' B j o A hd hy=>?_,λh c f g B j o A=>?_⟩
   ·obtain⟨m,G,I⟩:=key h c f g B j o A.1;obtain⟨zs,J,L⟩:=Y h c f g B j o A.2;have hl:=gp.length _ _ I;have FL:=gp.length _ _ L;rw[dN] at hi;exact⟨m,zs,m[i]'(by omega),zs[i]'(by omega),G,J,by simp,by simp⟩
   ·obtain⟨m,G,I⟩:=key h c f g B j o A.1;obtain⟨zs,J,L⟩:=Y h c f g B j o A.2;obtain⟨p,rfl,S3,hy⟩:=hy;obtain⟨y,z,WL,hz1,rfl⟩:=hy m zs G J;obtain⟨x1,e2,T⟩:=gp.get' _ _ i y I WL;obtain⟨x2,e3,r3⟩:=gp.get' _ _ i z L hz1;rw[List.getElem?_zipWith,e2,e3] at hd;cases hd;obtain⟨o2,S4⟩:=o.laid (x:=.tup [y,z]) S3;exact⟨o2,S4,kF o S3 (gp.cons T (gp.one r3)) S4⟩
   ·obtain⟨m,G,I⟩:=key h c f g B j o A.1;obtain⟨zs,J,L⟩:=Y h c f g B j o A.2;have hl:=gp.length _ _ I;have FL:=gp.length _ _ L;refine⟨m,zs,G,J,?_⟩;rw[dN];omega
noncomputable def yq(lo:Int)(n:Nat):List D:=(cG n).map λ(i:Nat)=>D.int (lo+(i:Int))
theorem Pc{K:W.Frag}{F u:List ai}{H1:Hp}{M1:Ms}{lo:Int}{n:Nat}:SA K F u H1 M1 (UE lo n) (yq lo n) λ_=>True:=by
 refine⟨λi f g h m o q c r hi=>?_,λi f g h m x y z o q c r hd v=>?_,λf g h m o q c r=>?_⟩
 ·show i<n;simpa[yq] using hi
 ·obtain⟨rfl,rfl⟩:=v;unfold yq at hd;rw[bD] at hd;cases e:(cG n)[i]? with
  |none=>rw[e] at hd;cases hd
  |some j=>
   rw[e] at hd;have:j=i:=by have:=aC.mp e;obtain⟨A,w⟩:=this;simpa using w.symm
   subst this;cases hd;exact⟨c,Ext.refl,iI⟩
 ·show n<=(yq lo n).length;simp[yq]
def G9 (tt:DA):DI:=λc M Q=>tt c M λds M1=>match ds with
 |[.int j]=>(-(2^62)<=j/\j<2^62)/\Q (yq 0 j.toNat) (λ_=>True) M1
 |_=>False
theorem ET(ha:JA X [a] tt)(hm:X.mg "range"=aq)(m:Gl X "range":=by rfl)(o:aJ [a] X.env=[(ao,eval a X.env)]:=by rfl):JI X tg (.Call (.Name "range" p) [a] [] pos) (G9 tt):=by
 refine⟨λc M P Q w q=>ha.mono c _ _ _ (λds M1 q=>?_) q,PI.weak (Et m hm ha.p o) λσ H Q q=>?_⟩
 ·match ds,q with
  |[.int j],⟨e,q⟩=>exact⟨e,w _ _ _ q⟩
 ·obtain⟨F,α,c,M,r,q⟩:=q;refine⟨F,α,c,M,r,ha.mono c _ _ _ (λds M1 q z u H1 e1 g f=>?_) q⟩;match ds,q,f with
  |[.int j],⟨h,q⟩,f=>
   obtain⟨v,y,i⟩:=kQ f;subst y;unfold Rep at i;subst i;exact⟨j,rfl,h.1,h.2,q _ u H1 H1 id e1 g (EK.refl g) Pc⟩
end
end L3
namespace L3
open PySem PySem.Spec PyProof.Rows L2
mutual
noncomputable def toP:D->cU
 |.non=>.none
 |.bl b=>.bool b
 |.int i=>.int i
 |.str x=>.str x
 |.tup ds=>.tuple (toPs ds)
 |.lst ds=>.list (toPs ds)
 |.ty _|.jR _ _|.ins _ _ _|.exc _ _ _|.oZ _|.loc _|.cls _=>.dict []
noncomputable def toPs:List D->List cU
 |[]=>[]
 |d::ds=>toP d::toPs ds
end
mutual
noncomputable def pl:D->Bool
 |.non|.bl _|.int _=>aj
 |.str x=>cU.strOk x
 |.tup ds|.lst ds=>B7 ds
 |.ty _|.jR _ _|.ins _ _ _|.exc _ _ _|.oZ _|.loc _|.cls _=>ao
noncomputable def B7:List D->Bool
 |[]=>aj
 |d::ds=>pl d&&B7 ds
end
mutual
noncomputable def dp:D->Nat
 |.tup ds|.lst ds=>FQ ds+1
 |.non|.bl _|.int _|.str _|.ty _|.jR _ _|.ins _ _ _|.exc _ _ _|.oZ _|.loc _|.cls _=>0
noncomputable def FQ:List D->Nat
 |[]=>0
 |d::ds=>max (dp d) (FQ ds)
end
mutual
noncomputable def ui:D->D->Bool
 |.non,.non=>aj
 |.bl a,.bl b=>a==b
 |.bl a,.int j=>(if a then 1 else 0)==j
 |.int i,.bl b=>i==(if b then 1 else 0)
 |.int i,.int j=>i==j
 |.str x,.str y=>x==y
 |.lst xs,.lst c=>uB xs c
 |.tup xs,.tup c=>uB xs c
 |_,_=>ao
noncomputable def uB:List D->List D->Bool
 |[],[]=>aj
 |x::xs,y::c=>ui x y&&uB xs c
 |_,_=>ao
end
mutual
theorem toP_lay:∀d:D,pl d=aj->(toP d).canLay0=aj
 |.non,_=>rfl
 |.bl _,_=>rfl
 |.int _,_=>rfl
 |.str _,h=>by unfold toP;unfold pl at h;simpa[cU.canLay0] using h
 |.tup ds,h=>by unfold toP;unfold pl at h;simp[cU.canLay0,toPs_lay ds h]
 |.lst ds,h=>by unfold toP;unfold pl at h;simp[cU.canLay0,toPs_lay ds h]
 |.ty _,h|.jR _ _,h|.ins _ _ _,h|.exc _ _ _,h|.oZ _,h|.loc _,h|.cls _,h=>by unfold pl at h;cases h
theorem toPs_lay:∀ds:List D,B7 ds=aj->cU.canLayAll0 (toPs ds)=aj
 |[],_=>by unfold toPs;rfl
 |d::ds,h=>by unfold B7 at h;rw[aD] at h;unfold toPs;simp[cU.canLayAll0,toP_lay d h.1,toPs_lay ds h.2]
end
mutual
theorem toP_depth:∀d:D,(toP d).depth<=dp d+1
 |.non|.bl _|.int _|.str _=>by unfold toP;simp[cU.depth]
 |.tup ds=>by unfold toP dp;have:=toPs_depth ds;simp only [cU.depth];omega
 |.lst ds=>by unfold toP dp;have:=toPs_depth ds;simp only [cU.depth];omega
 |.ty _|.jR _ _|.ins _ _ _|.exc _ _ _|.oZ _|.loc _|.cls _=>by unfold toP;simp[cU.depth,cU.depthKv]
theorem toPs_depth:∀ds:List D,cU.depthAll (toPs ds)<=FQ ds+1
 |[]=>by unfold toPs;simp[cU.depthAll]
 |d::ds=>by unfold toPs FQ;have a:=toP_depth d;have b:=toPs_depth ds;simp only [cU.depthAll];omega
end
mutual
theorem toP_eqv:∀x y:D,pl x=aj->pl y=aj->(toP x).eqv (toP y)=ui x y
 |.non,y,_,h=>by cases y<;>first|(unfold pl at h;cases h;done)|(unfold toP ui;rfl)
 |.bl a,y,_,h=>by cases y<;>first|(unfold pl at h;cases h;done)|(unfold toP ui;rfl)
 |.int a,y,_,h=>by cases y<;>first|(unfold pl at h;cases h;done)|(unfold toP ui;rfl)
 |.str a,y,_,h=>by cases y<;>first|(unfold pl at h;cases h;done)|(unfold toP ui;rfl)
 |.tup xs,y,g,h=>by
  cases y<;>first|(unfold pl at h;cases h;done)|skip
  case tup b=>unfold pl at g h;unfold toP ui;simp only [cU.eqv];exact toPs_eqv xs b g h
  all_goals unfold toP ui;rfl
 |.lst xs,y,g,h=>by
  cases y<;>first|(unfold pl at h;cases h;done)|skip
  case lst b=>unfold pl at g h;unfold toP ui;simp only [cU.eqv];exact toPs_eqv xs b g h
  all_goals unfold toP ui;rfl
 |.ty _,_,g,_|.jR _ _,_,g,_|.ins _ _ _,_,g,_|.exc _ _ _,_,g,_|.oZ _,_,g,_|.loc _,_,g,_|.cls _,_,g,_=>by unfold pl at g;cases g
theorem toPs_eqv:∀x y:List D,B7 x=aj->B7 y=aj->cU.eqvAll (toPs x) (toPs y)=uB x y
 |[],[],_,_=>by unfold toPs uB;rfl
 |[],y::b,_,_=>by unfold toPs uB;rfl
 |x::xs,[],_,_=>by unfold toPs uB;rfl
 |x::xs,y::b,g,h=>by unfold B7 at g h;rw[aD] at g h;unfold toPs uB;simp only [cU.eqvAll];rw[toP_eqv x y g.1 h.1,toPs_eqv xs b g.2 h.2]
end
mutual
theorem Rep.reads {X:Cx} {pins:List (ai×bR)} {σ:L2.St} {H:Hp} {s:ah} {α:List ai} (I:Inv X pins σ H s):∀(d:D) (x:V) (v:af),Rep X.K α H d x->RelV x v->pl d=aj->∃as,Reads s.heap v (toP d) as
 |.non,x,v,h,r,_=>by unfold Rep at h;subst h;cases r;unfold toP;exact⟨_,.none⟩
 |.bl _,x,v,h,r,_=>by unfold Rep at h;subst h;cases r;unfold toP;exact⟨_,.bool _⟩
 |.int _,x,v,h,r,_=>by unfold Rep at h;subst h;obtain⟨t,rfl⟩:=r;unfold toP;exact⟨_,.int _ _⟩
 |.str _,x,v,h,r,_=>by unfold Rep at h;subst h;obtain⟨t,rfl⟩:=r;unfold toP;exact⟨_,.str _ _⟩
 |.tup ds,x,v,h,r,c=>by unfold Rep at h;obtain⟨a,b,rfl,q,z⟩:=h;cases r;obtain⟨g9,f,⟨o,e,cl,n,g⟩,_⟩:=I.tuple q;obtain⟨as,w⟩:=gp.reads I ds b g9 z f (by unfold pl at c;exact c);unfold toP;exact⟨_,.tuple e cl g (by simpa using w)⟩
 |.lst ds,x,v,h,r,c=>by unfold Rep at h;obtain⟨a,b,rfl,q,z⟩:=h;cases r;obtain⟨_,g9,n,f,e⟩:=I.iE a _ q;obtain⟨as,w⟩:=gp.reads I ds b g9 z f (by unfold pl at c;exact c);unfold toP;exact⟨_,.list e rfl rfl (by simpa using w)⟩
 |.ty _,x,v,h,r,c|.jR _ _,x,v,h,r,c|.ins _ _ _,x,v,h,r,c|.exc _ _ _,x,v,h,r,c|.oZ _,x,v,h,r,c|.loc _,x,v,h,r,c|.cls _,x,v,h,r,c=>by unfold pl at c;cases c
theorem gp.reads {X:Cx} {pins:List (ai×bR)} {σ:L2.St} {H:Hp} {s:ah} {α:List ai} (I:Inv X pins σ H s):∀(ds:List D) (xs:List V) (b:List af),gp X.K α H ds xs->Vals xs b->B7 ds=aj->∃as,ReadsAll s.heap b (toPs ds) as
 |[],xs,b,h,r,_=>by unfold gp at h;subst h;cases r;unfold toPs;exact⟨_,.nil⟩
 |d::ds,xs,b,h,r,c=>by
  unfold gp at h;obtain⟨x,i,rfl,q,z⟩:=h;unfold B7 at c;rw[aD] at c;unfold toPs;cases r with
  |cons j m=>
   obtain⟨as,p⟩:=Rep.reads I d x _ q j c.1;obtain⟨bs,u⟩:=gp.reads I ds i _ z m c.2;exact⟨_,.cons p u⟩
end
theorem pZ{d:D}(h:pl d=aj)(hd:dp d<=60):SeqAt.shaped (toP d)=aj:=by unfold SeqAt.shaped;have:=toP_depth d;rw[toP_lay d h,cf];exact decide_eq_true (by omega)
section
variable {X:Cx}
def WM (x y:D):Prop:=pl x=aj/\pl y=aj/\dp x<=60/\dp y<=60
def Ak (x y:D)(Q:Bool->Prop):Prop:=match x,y with
 |.str a,.str b=>Q (a==b)
 |.int a,.int b=>Q (a==b)
 |x,y=>WM x y/\Q (ui x y)
theorem xy{x y:D}{P Q:Bool->Prop}(w:∀b,P b->Q b)(h:Ak x y P):Ak x y Q:=by
 unfold Ak at h ⊢;split<;>simp only at h
 ·exact w _ h
 ·exact w _ h
 ·exact⟨h.1,w _ h.2⟩
def lN:G2:=λx y M Q=>Ak (vw M x) (vw M y) λb=>Q (.bl b) M
def mS:G2:=λx y M Q=>Ak (vw M x) (vw M y) λb=>Q (.bl (!b)) M
theorem DH(p:X.A.units+64<eQ){pins:List (ai×bR)}{s:ah}{σ:L2.St}{H:Hp}{x y:V}{v u:af}(I:L2.Inv X pins σ H s)(f:RelV x v)(g:RelV y u){F α:List ai}{M:Ms}{q r:D}(o:OK X.K F α H M)
(i:Rep X.K α (iG F α M H) q x)(j:Rep X.K α (iG F α M H) r y){C:Bool->Prop}(h:Ak (vw M q) (vw M r) C){Q:VK}(neg:Bool)(c:∀b,C b->Q (.bl (if neg then !b else b)) H):
  wpAny (model X.prog X.w) X.A (compareOp (if neg then .NotEq else .Eq) v u) (EP X pins σ Q) X.xe s:=by
 unfold Ak at h;split at h
 ·rename_i a b e1 e2;cases kO e1;cases kO e2;unfold Rep at i j;subst i j;have e:decide (V.str a=V.str b)=(a==b):=xW;cases neg with
  |false=>exact MA pins s σ H _ _ v u Q I f g ⟨rfl,by rw[e];exact c _ h⟩
  |true=>exact MB pins s σ H _ _ v u Q I f g ⟨rfl,by rw[e];exact c _ h⟩
 ·rename_i a b e1 e2;cases qK e1;cases qK e2;unfold Rep at i j;subst i j;have e:decide (V.int a=V.int b)=(a==b):=xV;cases neg with
  |false=>exact MA pins s σ H _ _ v u Q I f g ⟨rfl,by rw[e];exact c _ h⟩
  |true=>exact MB pins s σ H _ _ v u Q I f g ⟨rfl,by rw[e];exact c _ h⟩
 ·obtain⟨⟨m,n,z,B⟩,h⟩:=h;obtain⟨as,E⟩:=Rep.reads I _ x v (Rep.mono (aX _) hX _ _ (sZ o _ _ i)) f m;obtain⟨bs,G⟩:=Rep.reads I _ y u (Rep.mono (aX _) hX _ _ (sZ o _ _ j)) g n;cases neg with
  |false=>
   refine eq_dataH E G (pZ m z) (pZ n B) p ⟨.bl _,H,I,rfl,?_⟩;rw[toP_eqv _ _ m n];exact c _ h
  |true=>
   refine ne_dataH E G (pZ m z) (pZ n B) p ⟨.bl _,H,I,rfl,?_⟩;rw[toP_eqv _ _ m n];exact c _ h
theorem i8(a:X.A.units+64<eQ):JC X .Eq lN:=by refine⟨λx y M P Q w q=>xy (λb q=>w _ _ q) q,λpins s σ H x y v u Q I c e h=>?_⟩;obtain⟨F,α,M,i,j,o,f,g,h⟩:=h;exact DH a I c e o f g h ao λb q=>vK.now o q iF
theorem mT(a:X.A.units+64<eQ):JC X .NotEq mS:=by refine⟨λx y M P Q w q=>xy (λb q=>w _ _ q) q,λpins s σ H x y v u Q I c e h=>?_⟩;obtain⟨F,α,M,i,j,o,f,g,h⟩:=h;exact DH a I c e o f g h aj λb q=>vK.now o q iF
noncomputable def fl:D->Bool
 |.non|.bl _|.int _|.str _=>aj
 |_=>ao
noncomputable def U2:D->V
 |.bl b=>.bl b
 |.int i=>.int i
 |.str x=>.str x
 |_=>.non
theorem vJ{K:W.Frag}{α:List ai}{H:Hp}{d:D}{v:V}(h:fl d=aj)(r:Rep K α H d v):v=U2 d/\qt v=aj:=by
 cases d<;>first|(cases h;done)|skip
 all_goals unfold Rep at r;subst r;exact⟨rfl,rfl⟩
theorem S5{x y:D}(h:fl x=aj)(g:fl y=aj):Ke (U2 x) (U2 y)=ui x y:=by
 cases x<;>first|(cases h;done)|skip
 all_goals cases y<;>first|(cases g;done)|(unfold ui;rfl)
theorem rO{K:W.Frag}{α:List ai}{H:Hp}{x:D}(b:fl x=aj):∀(ds:List D) (a:List V),ds.all fl=aj->gp K α H ds a->a.all qt=aj/\UL (U2 x) a=ds.any λy=>ui y x
 |[],a,_,h=>by unfold gp at h;subst h;exact⟨rfl,rfl⟩
 |d::ds,a,g,h=>by unfold gp at h;obtain⟨v,r,rfl,z,y⟩:=h;rw[dm,aD] at g;obtain⟨e,c⟩:=rO b ds r g.2 y;obtain⟨e1,e2⟩:=vJ g.1 z;subst e1;refine⟨by rw[dm,e2,e];rfl,?_⟩;unfold UL at c ⊢;rw[eo,eo,S5 g.1 b,c]
theorem uj{K:W.Frag}{α:List ai}{H:Hp}{k:Key}{a:List Key}{ds:List D}{b:List V}(h:gp K α H ds b)(c:a.length=ds.length):(qE (a.zip b) k).isSome=(qm k a ds).isSome:=by
 obtain⟨f,g⟩:=pC (k:=k) a ds b h c;cases e:qm k a ds with
 |none=>rw[g e];rfl
 |some d=>obtain⟨j,i,_⟩:=f d e;rw[i];rfl
noncomputable def WN(x y:D):Option Bool:=match y with
 |.lst ds=>if(fl x&&ds.all fl)=aj then ae (ds.any λy=>ui y x) else aq
 |.tup ds=>if(fl x&&ds.all fl)=aj then ae (ds.any λy=>ui y x) else aq
 |.str j=>match x with
  |.str i=>ae (!(cc j i 0 j.length 1).isEmpty)
  |_=>aq
 |.jR a ds=>match B1 x with
  |some k=>ae (qm k a ds).isSome
  |none=>aq
 |_=>aq
def FR (neg:Bool):G2:=λx y M Q=>∃b,WN x (vw M y)=ae b/\Q (.bl (if neg then !b else b)) M
theorem Al{neg:Bool}:uf (FR neg):=by
 rintro x y M P Q w ⟨b,e,q⟩
 exact⟨b,e,w _ _ q⟩
theorem S6(B:X.A.units+1<eQ):JC X .In (FR ao):=by
 refine⟨Al,λpins s σ H x y v u Q I i j h=>?_⟩;obtain⟨F,α,M,C,E,o,e,f,b,c,h⟩:=h;generalize e1:vw M E=z at c;unfold WN at c;cases z<;>first|(cases c;done)|skip
 ·have e2:=kO e1;subst e2;unfold Rep at f;subst f;cases C<;>first|(cases c;done)|skip
  unfold Rep at e;subst e;cases c;exact Ew pins s σ H _ _ v u Q I i j ⟨_,_,rfl,rfl,vK.now o h iF⟩
 ·obtain⟨a,m,rfl,q,g⟩:=lc o f e1;simp only at c;split at c
  ·rename_i hc;rw[aD] at hc;cases c;obtain⟨n,p⟩:=vJ hc.1 e;obtain⟨r,w⟩:=rO hc.1 _ _ hc.2 g;refine xn pins s σ H _ _ v u Q I i j ⟨a,m,rfl,.inr q,p,r,?_⟩;subst n;rw[w];exact vK.now o h iF
  ·cases c
 ·obtain⟨a,m,rfl,q,g⟩:=jF o f e1;simp only at c;split at c
  ·rename_i hc;rw[aD] at hc;cases c;obtain⟨n,p⟩:=vJ hc.1 e;obtain⟨r,w⟩:=rO hc.1 _ _ hc.2 g;refine xn pins s σ H _ _ v u Q I i j ⟨a,m,rfl,.inl (nj.of q),p,r,?_⟩;subst n;rw[w];exact vK.now o h iF
  ·cases c
 ·obtain⟨a,m,rfl,q,G,g⟩:=pz o f e1;simp only at c;split at c
  ·rename_i k J;cases c;cases nA e J;obtain rfl:u=aR a:=j;refine VW B I (nq.kr q) i λN L=>⟨.bl _,H,L,rfl,?_⟩;rw[uj g G];exact vK.now o h iF
  ·cases c
theorem Am(B:X.A.units+1<eQ):JC X .NotIn (FR aj):=by
 refine⟨Al,λpins s σ H x y v u Q I i j h=>?_⟩;obtain⟨F,α,M,C,E,o,e,f,b,c,h⟩:=h;generalize e1:vw M E=z at c;unfold WN at c;cases z<;>first|(cases c;done)|skip
 ·have e2:=kO e1;subst e2;unfold Rep at f;subst f;cases C<;>first|(cases c;done)|skip
  unfold Rep at e;subst e;cases c;exact xX pins s σ H _ _ v u Q I i j ⟨_,_,rfl,rfl,vK.now o h iF⟩
 ·obtain⟨a,m,rfl,q,g⟩:=lc o f e1;simp only at c;split at c
  ·rename_i hc;rw[aD] at hc;cases c;obtain⟨n,p⟩:=vJ hc.1 e;obtain⟨r,w⟩:=rO hc.1 _ _ hc.2 g;refine rF pins s σ H _ _ v u Q I i j ⟨a,m,rfl,.inr q,p,r,?_⟩;subst n;rw[w];exact vK.now o h iF
  ·cases c
 ·obtain⟨a,m,rfl,q,g⟩:=jF o f e1;simp only at c;split at c
  ·rename_i hc;rw[aD] at hc;cases c;obtain⟨n,p⟩:=vJ hc.1 e;obtain⟨r,w⟩:=rO hc.1 _ _ hc.2 g;refine rF pins s σ H _ _ v u Q I i j ⟨a,m,rfl,.inl (nj.of q),p,r,?_⟩;subst n;rw[w];exact vK.now o h iF
  ·cases c
 ·obtain⟨a,m,rfl,q,G,g⟩:=pz o f e1;simp only at c;split at c
  ·rename_i k J;cases c;cases nA e J;obtain rfl:u=aR a:=j;refine J1 B I (nq.kr q) i λN L=>⟨.bl _,H,L,rfl,?_⟩;rw[uj g G];exact vK.now o h iF
  ·cases c
end
end L3
namespace L3
open PySem PySem.Spec PyProof.Rows L2
section
variable {X:Cx} {a b c e:aS} {es rest:List aS} {ta tb tc te:DE} {tA:DT} {tt:DA} {pos p p2 p3:cC} {x:av}
abbrev DO:=j2->Ms->(Option Int->Ms->Prop)->Prop
def lO (K:W.Frag)(t:DO):TO:=λσ H Q=>∃F α g M,R K F α H σ g M/\t g M λi h=>∀j f,Ext F α H M j f h->OK K F j f h->Q i f
structure U3(X:Cx)(e:Option aS)(t:DO):Prop where
 mono:∀δ M (P Q:Option Int->Ms->Prop),(∀d M,P d M->Q d M)->t δ M P->t δ M Q
 p:PO X e (lO X.K t)
theorem PO.weak{e:Option aS}{t f:TO}(h:PO X e t)(w:∀σ H Q,f σ H Q->t σ H Q):PO X e f:=by intro pins s σ H Q I q;exact h pins s σ H Q I (w σ H Q q)
def gE:DO:=λ_ M Q=>Q aq M
def ig (te:DE):DO:=λf M Q=>te f M λd M1=>match d with|.int i=>Q (ae i) M1|_=>False
theorem hV:U3 X aq gE:=⟨λf M P Q w q=>w _ _ q,PO.weak Ka λσ H Q ⟨F,α,f,M,r,q⟩=>q α H Ext.refl r.ok⟩
theorem hW(h:JE X e te):U3 X (ae e) (ig te):=by
 refine⟨λf M P Q w q=>h.mono f _ _ _ (λd M1 q=>?_) q,PO.weak (Kb h.p) λσ H Q q=>?_⟩
 ·cases d<;>first|exact q.elim|exact w _ _ q
 ·obtain⟨F,α,f,M,r,q⟩:=q;refine⟨F,α,f,M,r,h.mono f _ _ _ (λd M1 q v i H1 e1 j g=>?_) q⟩;cases d<;>first|exact q.elim|skip
  unfold Rep at g;exact⟨_,g,q i H1 e1 j⟩
def k7 (te:DE)(tl th:DO):DE:=λg M Q=>te g M λd M1=>tl g M1 λlo M2=>th g M2 λhi f=>match vw f d with
 |.lst xs=>Q (.lst (cutD xs lo hi)) f
 |.oZ xs=>Q (.lst (cutD (xs.map D.int) lo hi)) f
 |.tup xs=>¬(HT.kK xs.length 0 lo=0/\HT.kK xs.length xs.length hi=xs.length)/\Q (.tup (cutD xs lo hi)) f
 |.str z=>z.length<=ax/\Q (.str (bQ z lo hi)) f
 |_=>False
theorem ky{lo hi:Option aS}{tl th:DO}(G:JE X e te)(u:U3 X lo tl)(I:U3 X hi th):JE X (.Subscript e (.Slice lo hi aq p2) pos) (k7 te tl th):=by
 refine⟨λg M P Q w q=>G.mono g _ _ _ (λd M1 q=>u.mono g _ _ _ (λi M2 q=>I.mono g _ _ _ (λj f q=>?_) q) q) q,PE.weak (Gp (Kd.or (Ox.or ON)) G.p u.p I.p) λσ H Q q=>?_⟩
 ·generalize vw f d=z at q ⊢;cases z<;>first|exact q.elim|exact w _ _ q|exact⟨q.1,w _ _ q.2⟩
 ·obtain⟨F,α,g,M,r,q⟩:=q;refine⟨F,α,g,M,r,G.mono g _ _ _ (λd M1 q v L H1 e1 N O=>⟨F,L,g,M1,r.grow e1 N,u.mono g _ _ _ (λi M2 q T Y e2 U=>⟨F,T,g,M2,r.grow (e1.trans e2) U,I.mono g _ _ _ (λj f q A B e3 h=>?_) q⟩) q⟩) q⟩;have rK:=(e1.trans e2).trans e3;have o:=(e2.trans e3).rep O;have m:(match vw f d with
   |.lst xs=>vK X.K F A B f Q (.lst (cutD xs i j)) f
   |.oZ xs=>vK X.K F A B f Q (.lst (cutD (xs.map D.int) i j)) f
   |.tup xs=>¬(HT.kK xs.length 0 i=0/\HT.kK xs.length xs.length j=xs.length)/\vK X.K F A B f Q (.tup (cutD xs i j)) f
   |.str z=>z.length<=ax/\vK X.K F A B f Q (.str (bQ z i j)) f
   |_=>False):=by generalize vw f d=z at q ⊢;cases z<;>first|exact q.elim|exact vK.grow rK _ _ q|exact⟨q.1,vK.grow rK _ _ q.2⟩
  clear q;generalize C:vw f d=z at m;cases z<;>first|exact m.elim|skip
  ·cases kO C;unfold Rep at o;exact .inr (.inr ⟨_,o,m.1,vK.now h m.2 kl⟩)
  ·obtain⟨a,J,rfl,y,E⟩:=lc h o C;have u:=gp.length _ _ E;refine .inr (.inl ⟨a,J,rfl,y,by rw[<-u];exact m.1,λp n=>vK.new h n m.2 (kF h n (gp.cut E i j))⟩)
  ·obtain⟨a,J,rfl,y,E⟩:=jF h o C;exact .inl ⟨a,J,rfl,nj.of y,λp n=>vK.new h n m (kE h n (gp.cut E i j))⟩
  ·cases qJ C;unfold Rep at o;obtain⟨a,rfl,y⟩:=o;refine .inl ⟨a,_,rfl,j5 hX y,λp n=>vK.new h n m (kE h n (gp.cut (gp.of_map _ _ (λc=>iI) _) i j))⟩
def qp (te:DE):DE:=λf M Q=>te f M λd M1=>match d with|.int i=>Q (.int (-i)) M1|_=>False
theorem qw(h:JE X e te):JE X (.UnaryOp .USub e pos) (qp te):=by
 refine⟨λf M P Q w q=>h.mono f _ _ _ (λd M1 q=>?_) q,PE.weak (RT Oj h.p) λσ H Q q=>?_⟩
 ·cases d<;>first|exact q.elim|exact w _ _ q
 ·obtain⟨F,α,f,M,r,q⟩:=q;refine⟨F,α,f,M,r,h.mono f _ _ _ (λd M1 q v i H1 e1 j g=>?_) q⟩;cases d<;>first|exact q.elim|skip
  unfold Rep at g;exact⟨_,g,q _ i H1 e1 j iI⟩
def kz:G2:=λx y M Q=>match vw M x,y with
 |.int i,.int j=>xU i j/\Q (.int (i*j)) M
 |.lst xs,.int k=>(-(2^63)<=k/\k<2^63/\xs.length*k.toNat<=ax)/\Q (.lst (ba k.toNat xs).flatten) M
 |.str z,.int k=>MulOk z k/\Q (.str (Txt.mul z k)) M
 |_,_=>False
theorem B8:oP X (binaryOp .Mult) (λx y H Q=>∃z k,x=.str z/\y=.int k/\MulOk z k/\Q (.str (Txt.mul z k)) H):=by intro pins s σ H x y v u Q I f g h;obtain⟨z,k,rfl,rfl,ok,q⟩:=h;obtain⟨t,rfl⟩:=f;obtain⟨i,rfl⟩:=g;exact SB.mul ok λi k=>⟨.str _,H,I.tok _,⟨_,rfl⟩,q⟩
theorem lh:JO X .Mult kz:=by
 refine⟨λx y M P Q w q=>?_,λpins s σ H x y v u Q I i j h=>?_⟩
 ·unfold kz at q ⊢;generalize vw M x=a at q ⊢;split at q<;>first|exact q.elim|exact⟨q.1,w _ _ q.2⟩
 ·obtain⟨F,α,M,r,C,o,g,f,h⟩:=h;unfold kz at h;generalize e1:vw M r=a at h;split at h<;>first|exact h.elim|skip
  ·cases qK e1;unfold Rep at g f;exact Oh pins s σ H x y v u Q I i j ⟨_,_,g,f,h.1,vK.now o h.2 iI⟩
  ·obtain⟨a,z,rfl,A,m⟩:=jF o g e1;unfold Rep at f;subst f;have B:=gp.length _ _ m;exact OH pins s σ H _ _ v u Q I i j ⟨a,_,z,rfl,rfl,A,h.1.1,h.1.2.1,by rw[<-B];exact h.1.2.2,λp n=>vK.new o n h.2 (kE o n (gp.rep m _))⟩
  ·cases kO e1;unfold Rep at g f;exact B8 pins s σ H x y v u Q I i j ⟨_,_,g,f,h.1,vK.now o h.2 kl⟩
noncomputable def Ha:D->Option Nat
 |.lst ds=>ae ds.length
 |.tup ds=>ae ds.length
 |.oZ ns=>ae ns.length
 |.str z=>if z.length<=ax then ae z.length else aq
 |.jR f _=>ae f.length
 |_=>aq
def jo:GN:=λds M Q=>match ds with
 |[d]=>∃n:Nat,Ha (vw M d)=ae n/\Q (.int n) M
 |_=>False
theorem iX:JB X (.builtin "len") jo:=by
 refine⟨λds M P Q w q=>?_,λpins s σ H xs us Q I rs h=>?_⟩
 ·match ds,q with
  |[d],⟨n,e,q⟩=>exact⟨n,e,w _ _ q⟩
 ·obtain⟨F,α,M,ds,o,u,h⟩:=h;match ds,h,u with
  |[d],⟨n,f,q⟩,u=>
   obtain⟨v,E,g⟩:=kQ u;subst E;generalize e1:vw M d=z at f;cases z<;>first|(cases f;done)|skip
   ·cases kO e1;unfold Rep at g;subst g;rename_i y _;have f:(if y.length<=ax then ae y.length else aq)=ae n:=f;by_cases A:y.length<=ax
    ·rw[if_pos A] at f;cases f;exact yh pins s σ H _ us Q I rs ⟨_,rfl,A,vK.now o q iI⟩
    ·rw[if_neg A] at f;cases f
   ·cases f;obtain⟨a,r,rfl,i,j⟩:=lc o g e1;have m:=gp.length _ _ j;refine nM pins s σ H _ us Q I rs ⟨a,r,rfl,.inr i,?_⟩;rw[<-m];exact vK.now o q iI
   ·cases f;obtain⟨a,r,rfl,i,j⟩:=jF o g e1;have m:=gp.length _ _ j;refine nM pins s σ H _ us Q I rs ⟨a,r,rfl,.inl (nj.of i),?_⟩;rw[<-m];exact vK.now o q iI
   ·cases f;obtain⟨a,r,rfl,i,C,j⟩:=pz o g e1;have m:=gp.length _ _ j;obtain⟨J,rfl,B⟩:=vals1 rs;cases B;refine R5 I i λt L G=>⟨.int _,H,G,⟨t,rfl⟩,?_⟩;rw[dj,<-m,C,Nat.min_self,<-C];exact vK.now o q iI
   ·cases qJ e1;cases f;unfold Rep at g;obtain⟨a,rfl,i⟩:=g;refine nM pins s σ H _ us Q I rs ⟨a,_,rfl,.inl (j5 hX i),?_⟩;rw[ap];exact vK.now o q iI
def tw:GN:=λds M Q=>match ds with
 |[d]=>∃bs:List Bool,vw M d=.lst (bs.map D.bl)/\Q (.bl (bs.all id)) M
 |_=>False
theorem An{K:W.Frag}{α:List ai}{H:Hp}:∀(bs:List Bool) (f:List V),gp K α H (bs.map D.bl) f->f=bs.map V.bl
 |[],f,h=>by unfold gp at h;exact h
 |b::bs,f,h=>by rw[aU] at h;unfold gp at h;obtain⟨v,r,rfl,z,y⟩:=h;unfold Rep at z;subst z;rw[An bs r y];rfl
theorem tz(hc:X.calm=aj:=by rfl):JB X (.builtin "all") tw:=by
 refine⟨λds M P Q w q=>?_,λpins s σ H xs us Q I rs h=>?_⟩
 ·match ds,q with
  |[d],⟨n,e,q⟩=>exact⟨n,e,w _ _ q⟩
 ·obtain⟨F,α,M,ds,o,f,h⟩:=h;match ds,h,f with
  |[d],⟨bs,g,q⟩,f=>
   obtain⟨v,i,j⟩:=kQ f;subst i;obtain⟨a,m,rfl,r,u⟩:=jF o j g;have:=An bs m u;subst this;exact GC hc pins s σ H _ us Q I rs ⟨a,bs,rfl,nj.of r,vK.now o q iF⟩
noncomputable def kd:D->Option String
 |.non=>ae "NoneType"
 |.bl _=>ae "bool"
 |.int _=>ae "int"
 |.str _=>ae "str"
 |.tup _=>ae "tuple"
 |.lst _|.oZ _=>ae "list"
 |.jR _ _=>ae "dict"
 |_=>aq
noncomputable def U4(k n:String):Option Bool:=if(["int","bool","str","tuple","list","dict"].contains n&&["NoneType","bool","int","str","tuple","list","dict"].contains k)=aj then ae (k==n||(k=="bool"&&n=="int")) else aq
noncomputable def qx(n:String)(d:D):Option Bool:=match kd d with
 |some k=>U4 k n
 |none=>aq
theorem KW{K:W.Frag}:(["int","bool","str","tuple","list","dict"].all λn=>["NoneType","bool","int","str","tuple","list","dict"].all λk=>W.kitOne K (.type k) (.type n)==U4 k n)=aj:=rfl
theorem KY{K:W.Frag}{k n:String}{b:Bool}(h:U4 k n=ae b):W.kitOne K (.type k) (.type n)=ae b:=by
 have f:=h;unfold U4 at h;split at h
 ·rename_i hc;rw[aD,List.contains_iff_mem,List.contains_iff_mem] at hc;rw[eq_of_beq (bj.mp (bj.mp (KW (K:=K)) n hc.1) k hc.2),f]
 ·cases h
structure Hb(K:W.Frag)(C:ai):Prop where
 cl:MC K C
 ha:W.findIn K (.ref C) "__class__"=ae (ae (.builtin "object.__class__"))
 hn:W.specialIn K (.builtin "object.__class__") "__get__"=ae (ae (.builtin "getset_descriptor.__get__"))
 RZ:W.takesIn K (.builtin "object.__class__")=ae aj
 hm:W.mroIn K C (.type "object")=ae aj
noncomputable def WO:D->Option af
 |.non=>ae (.type "NoneType")
 |.bl _=>ae (.type "bool")
 |.int _=>ae (.type "int")
 |.str _=>ae (.type "str")
 |.tup _=>ae (.type "tuple")
 |.lst _|.oZ _=>ae (.type "list")
 |.jR _ _=>ae (.type "dict")
 |.ins C _ _=>ae (.ref C)
 |_=>aq
theorem KZ{K:W.Frag}{n:String}{d:D}{b:Bool}(h:qx n d=ae b):∃t,WO d=ae t/\W.kitOne K t (.type n)=ae b/\∀C ns es,d≠.ins C ns es:=by cases d<;>first|(cases h;done)|exact⟨_,rfl,KY h,λ_ _ _ z=>by cases z⟩
theorem Ao{pins:List (ai×bR)}{s:ah}{σ:L2.St}{H:Hp}(I:L2.Inv X pins σ H s){F α:List ai}{M:Ms}{d:D}{x:V}{u t c:af}{B:Bool}{Q:af->ah->Prop}(o:OK X.K F α H M)(r:Rep X.K α (iG F α M H) d x)(g:RelV x u)
(f:WO (vw M d)=ae t)(hi:∀C ns es,vw M d=.ins C ns es->Hb X.K C)(e:W.kitOne X.K t c=ae B)(h:∀tk,Q (.bool B) {s with toks:=tk}):wpAny (model X.prog X.w) X.A (call (.builtin "isinstance") [u,c]) Q X.xe s:=by
 generalize e1:vw M d=z at f hi;cases z<;>first|(cases f;done)|skip
 case non=>
  have:d=.non:=by cases d with
   |loc k=>rcases jB e1 with e|⟨y,E,e⟩<;>first|cases e|(cases y<;>cases e)
   |_=>exact e1
  subst this;unfold Rep at r;subst r;cases f;exact mq I g .non e h
 case bl G=>
  have:d=.bl G:=by cases d with
   |loc k=>rcases jB e1 with e|⟨y,E,e⟩<;>first|cases e|(cases y<;>cases e)
   |_=>exact e1
  subst this;unfold Rep at r;subst r;cases f;exact mq I g (.bl _) e h
 case int=>
  cases qK e1;unfold Rep at r;subst r;cases f;exact mq I g (.int _) e h
 case str=>
  cases kO e1;unfold Rep at r;subst r;cases f;exact mq I g (.str _) e h
 case tup=>
  cases f;obtain⟨a,q,rfl,i,v⟩:=lc o r e1;obtain rfl:u=aR a:=g;obtain⟨g9,J,⟨ob,j,m,_⟩,_⟩:=I.tuple i;exact W.kia_one W.kitx_tuple I.ni ⟨ob,j,m⟩ e (λz=>nomatch z) h
 case lst=>
  cases f;obtain⟨a,q,rfl,i,v⟩:=jF o r e1;exact mq I g (.lst i) e h
 case jR=>
  cases f;obtain⟨a,q,rfl,i,L,v⟩:=pz o r e1;obtain rfl:u=aR a:=g;obtain⟨_,_,N,_,ob,_,_,j,m,_⟩:=qr I.iE i;exact W.kia_one W.kitx_dict I.ni ⟨ob,j,m.1⟩ e (λz=>nomatch z) h
 case ins=>
  cases f;obtain⟨a,O,q,rfl,i,L,v⟩:=OU o r e1;have k:=hi _ _ _ rfl;exact mq I g (.ins i k.cl k.ha k.hn k.RZ k.hm) e h
 case oZ=>
  cases f;cases qJ e1;unfold Rep at r;obtain⟨a,rfl,i⟩:=r;obtain rfl:u=aR a:=g;obtain⟨g9,J,⟨ob,n,j,m,_⟩,_⟩:=I.list (j5 hX i);exact W.kia_one W.kitx_list I.ni ⟨ob,j,m⟩ e (λz=>nomatch z) h
def nS (K:W.Frag):GN:=λds M Q=>match ds with
 |[d,.ty n]=>∃b,qx n (vw M d)=ae b/\Q (.bl b) M
 |[d,.cls C]=>∃t b,WO (vw M d)=ae t/\(∀C ns es,vw M d=.ins C ns es->Hb K C)/\W.kitOne K t (.ref C)=ae b/\Q (.bl b) M
 |_=>False
theorem lj:JB X (.builtin "isinstance") (nS X.K):=by
 refine⟨λds M P Q w q=>?_,λpins s σ H xs us Q I rs h=>?_⟩
 ·match ds,q with
  |[d,.ty n],⟨b,e,q⟩=>exact⟨b,e,w _ _ q⟩
  |[d,.cls n],⟨t,b,e1,e2,e3,q⟩=>exact⟨t,b,e1,e2,e3,w _ _ q⟩
 ·obtain⟨F,α,M,ds,o,f,h⟩:=h;match ds,h,f with
  |[d,.ty n],⟨b,e,q⟩,f=>
   obtain⟨v,u,i,j,g⟩:=xx f;subst i;unfold Rep at g;subst g;obtain⟨A,m,rfl,r,y⟩:=vals2 rs;obtain rfl:m=af.type n:=y;obtain⟨t,e1,e2,e3⟩:=KZ (K:=X.K) e;exact Ao I o j r e1 (λC ns es z=>absurd z (e3 C ns es)) e2 λtk=>⟨.bl b,H,I.tok tk,rfl,vK.now o q iF⟩
  |[d,.cls C],⟨t,b,e1,e2,e3,q⟩,f=>
   obtain⟨v,u,i,j,g⟩:=xx f;subst i;unfold Rep at g;subst g;obtain⟨A,m,rfl,r,y⟩:=vals2 rs;obtain rfl:m=aR C:=y;exact Ao I o j r e1 e2 e3 λtk=>⟨.bl b,H,I.tok tk,rfl,vK.now o q iF⟩
def tD:GN:=λds M Q=>match ds with
 |[d]=>match vw M d with
  |.lst xs=>Q (.tup xs) M
  |.tup xs=>Q (.tup xs) M
  |_=>False
 |_=>False
theorem Ap:JB X (.type "tuple") tD:=by
 refine⟨λds M P Q w q=>?_,λpins s σ H xs us Q I rs h=>?_⟩
 ·match ds,q with
  |[d],q=>
   have q:(match vw M d with|.lst xs=>P (.tup xs) M|.tup xs=>P (.tup xs) M|_=>False):=q;show(match vw M d with|.lst xs=>Q (.tup xs) M|.tup xs=>Q (.tup xs) M|_=>False);generalize vw M d=z at q ⊢;cases z<;>first|exact q.elim|exact w _ _ q
 ·obtain⟨F,α,M,ds,o,f,h⟩:=h;match ds,h,f with
  |[d],q,f=>
   obtain⟨v,r,g⟩:=kQ f;subst r;have q:(match vw M d with|.lst xs=>vK X.K F α H M Q (.tup xs) M|.tup xs=>vK X.K F α H M Q (.tup xs) M|_=>False):=q;generalize e1:vw M d=z at q;cases z<;>first|exact q.elim|skip
   ·cases BZ e1;obtain⟨a,i,rfl,j,m⟩:=lc o g e1;exact qu pins s σ H _ us Q I rs ⟨a,i,rfl,.inr ⟨j,vK.now o q g⟩⟩
   ·obtain⟨a,i,rfl,j,m⟩:=jF o g e1;exact qu pins s σ H _ us Q I rs ⟨a,i,rfl,.inl ⟨nj.of j,λp n=>vK.new o n q (kF o n m)⟩⟩
abbrev GF:=List D->Ms->(OD->Ms->Prop)->Prop
def rDF (K:W.Frag)(g:GF):List V->Hp->VK->Prop:=λxs H Q=>∃F α M ds,OK K F α H M/\gp K α (iG F α M H) ds xs/\g ds M (fK K F α H M Q)
structure JBF(X:Cx)(f:af)(g:GF):Prop where
 mono:∀xs M (P Q:OD->Ms->Prop),(∀d M,P d M->Q d M)->g xs M P->g xs M Q
 p:nk X f (rDF X.K g)
end
end L3
namespace L3
open PySem PySem.Spec PyProof.Rows L2
structure S8(K:W.Frag)(C:ai)(f:av):Prop where
 cl:MC K C
 na:mZ K C f
section
variable {X:Cx} {a b c e o value:aS} {es rest:List aS} {ta tb tc te to tv:DE} {tA:DT} {tt:DA} {pos pos' p p2 p3 apos iz:cC} {x f m:av}
structure Hc(P:aw)(w:aN)(K:W.Frag)(mg:av->Option af)(base:az)(k:Nat)(C:ai)(m:av)(g:GN):Prop where
 mono:mP g
 cl:MC K C
 ok:∃f fd ps,Meth K C m f/\Binds K fd ps []/\kb P w K mg base ud k f fd ps (mR K g)
structure WP(P:aw)(w:aN)(K:W.Frag)(mg:av->Option af)(base:az)(k:Nat)(C:ai)(g:GN):Prop where
 mono:mP g
 ok:∃f fd ps,Mk K C f/\Binds K fd ps []/\kb P w K mg base ud k f fd ps (mR K g)
theorem K0{α:List ai}{M:Ms}{p:ai}{o:OD}(h:α.length=M.length):lv (α++[p]) (M++[ae o])=lv α M++[p]:=by rw[nw h];rfl
end
mutual
def lb (n:Nat):D->Prop
 |.loc k=>k<n
 |.tup ds|.lst ds|.jR _ ds|.ins _ _ ds|.exc _ _ ds=>DJ n ds
 |.non|.bl _|.int _|.str _|.ty _|.oZ _|.cls _=>True
def DJ (n:Nat):List D->Prop
 |[]=>True
 |d::ds=>lb n d/\DJ n ds
end
mutual
theorem Rep.lb {K:W.Frag} {α:List ai} {H:Hp}:∀(d:D) (v:V),Rep K α H d v->L3.lb α.length d
 |.non,v,_|.bl _,v,_|.int _,v,_|.str _,v,_|.ty _,v,_|.oZ _,v,_|.cls _,v,_=>by unfold L3.lb;trivial
 |.loc k,v,h=>by unfold Rep at h;unfold L3.lb;obtain⟨a,e,_⟩:=h;exact(aC.mp e).1
 |.tup ds,v,h=>by unfold Rep at h;unfold L3.lb;obtain⟨a,b,r,q,z⟩:=h;exact gp.lb ds b z
 |.lst ds,v,h=>by unfold Rep at h;unfold L3.lb;obtain⟨a,b,r,q,z⟩:=h;exact gp.lb ds b z
 |.jR c ds,v,h=>by unfold Rep at h;unfold L3.lb;obtain⟨a,b,r,q,l,z⟩:=h;exact gp.lb ds b z
 |.ins C ns ds,v,h=>by unfold Rep at h;unfold L3.lb;obtain⟨a,f,b,r,q,l,z⟩:=h;exact gp.lb ds b z
 |.exc C ns ds,v,h=>by unfold Rep at h;unfold L3.lb;obtain⟨a,b,r,q,l,z⟩:=h;exact gp.lb ds b z
theorem gp.lb {K:W.Frag} {α:List ai} {H:Hp}:∀(d:List D) (v:List V),gp K α H d v->L3.DJ α.length d
 |[],v,h=>by unfold L3.DJ;trivial
 |d::ds,v,h=>by unfold gp at h;unfold L3.DJ;obtain⟨u,r,q,z,y⟩:=h;exact⟨Rep.lb d u z,gp.lb ds r y⟩
end
mutual
theorem Rep.shrink {K:W.Frag} {α β:List ai} {H:Hp} (p:α <+: β):∀(d:D) (v:V),L3.lb α.length d->Rep K β H d v->Rep K α H d v
 |.non,v,_,h|.bl _,v,_,h|.int _,v,_,h|.str _,v,_,h|.ty _,v,_,h|.oZ _,v,_,h|.cls _,v,_,h=>by unfold Rep at h ⊢;exact h
 |.loc k,v,n,h=>by unfold Rep at h ⊢;unfold L3.lb at n;obtain⟨a,e,r⟩:=h;obtain⟨t,rfl⟩:=p;rw[bp n] at e;exact⟨a,e,r⟩
 |.tup ds,v,n,h=>by unfold Rep at h ⊢;unfold L3.lb at n;obtain⟨a,b,r,q,z⟩:=h;exact⟨a,b,r,q,gp.shrink p ds b n z⟩
 |.lst ds,v,n,h=>by unfold Rep at h ⊢;unfold L3.lb at n;obtain⟨a,b,r,q,z⟩:=h;exact⟨a,b,r,q,gp.shrink p ds b n z⟩
 |.jR f ds,v,n,h=>by unfold Rep at h ⊢;unfold L3.lb at n;obtain⟨a,b,r,q,l,z⟩:=h;exact⟨a,b,r,q,l,gp.shrink p ds b n z⟩
 |.ins C ns ds,v,n,h=>by unfold Rep at h ⊢;unfold L3.lb at n;obtain⟨a,c,b,r,q,l,z⟩:=h;exact⟨a,c,b,r,q,l,gp.shrink p ds b n z⟩
 |.exc C ns ds,v,n,h=>by unfold Rep at h ⊢;unfold L3.lb at n;obtain⟨a,b,r,q,l,z⟩:=h;exact⟨a,b,r,q,l,gp.shrink p ds b n z⟩
theorem gp.shrink {K:W.Frag} {α β:List ai} {H:Hp} (p:α <+: β):∀(d:List D) (v:List V),L3.DJ α.length d->gp K β H d v->gp K α H d v
 |[],v,_,h=>by unfold gp at h ⊢;exact h
 |d::ds,v,n,h=>by unfold gp at h ⊢;unfold L3.DJ at n;obtain⟨u,r,q,z,y⟩:=h;exact⟨u,r,q,Rep.shrink p d u n.1 z,gp.shrink p ds r n.2 y⟩
end
theorem uw.DJ{K:W.Frag}{α:List ai}{c H:Hp}{o:OD}{a:ai}(h:uw K α c H o a):match o with|.lst ds=>L3.DJ α.length ds|.jR _ ds=>L3.DJ α.length ds|.ins _ _ ds=>L3.DJ α.length ds|.fz _ _ _ ds=>L3.DJ α.length ds:=by
 cases o with
 |lst ds=>obtain⟨b,_,r⟩:=h;exact gp.lb _ _ r
 |jR e ds=>obtain⟨b,_,_,r⟩:=h;exact gp.lb _ _ r
 |ins C ns ds=>obtain⟨f,b,_,_,r⟩:=h;exact gp.lb _ _ r
 |fz k g e ds=>obtain⟨_,b,_,_,r⟩:=h;exact gp.lb _ _ r
theorem OK.ux{K:W.Frag}{F c α:List ai}{A H:Hp}{M N:Ms}(i:OK K F c A M)(h:OK K F α H (M++N))(pre:c <+: α):OK K F c H M/\jd (iG F α (M++N) H) (iG F c M H):=by
 obtain⟨β,rfl⟩:=pre;have p:=i.ml;have m:lv (c++β) (M++N)=lv c M++lv β N:=nw p;have g:jd (iG F (c++β) (M++N) H) (iG F c M H):=λb y e=>by
  obtain⟨z,q⟩:=ij e;rw[m] at z;show iT _ H b=_;refine ko e (λw=>z ?_) q
  ·simp only [aO] at w ⊢;rcases w with w|w
   ·exact .inl (.inl w)
   ·exact .inr w
 refine⟨⟨p,i.nd,λa ha=>⟨(i.fr a ha).1,(h.fr a ha).2⟩,λa ha=>h.al a (br _ ha),λk y n=>?_,h.tb⟩,g⟩;have B:k<M.length:=(aC.mp n).1;obtain⟨a,o,j⟩:=h.own k y (by rw[bp B];exact n);rw[bp (by omega)] at o;obtain⟨I,u,v⟩:=i.own k y n;rw[o] at u;cases u;have hb:=v.DJ;refine⟨a,o,?_⟩;cases y with
 |lst ds=>
  obtain⟨f,q,r⟩:=j;exact⟨f,q,gp.shrink (ck _ _) _ _ hb (gp.mono (aX _) g _ _ r)⟩
 |jR E ds=>
  obtain⟨f,q,l,r⟩:=j;exact⟨f,q,l,gp.shrink (ck _ _) _ _ hb (gp.mono (aX _) g _ _ r)⟩
 |ins C ns ds=>
  obtain⟨G,f,q,l,r⟩:=j;exact⟨G,f,q,l,gp.shrink (ck _ _) _ _ hb (gp.mono (aX _) g _ _ r)⟩
 |fz k J E ds=>
  obtain⟨_,f,q,l,r⟩:=j;exact⟨v.1,f,q,l,gp.shrink (ck _ _) _ _ hb (gp.mono (aX _) g _ _ r)⟩
section
variable {X:Cx} {a b c e o value:aS} {es rest:List aS} {ta tb tc te to tv:DE} {tA:DT} {tt:DA} {pos pos' p p2 p3 apos iz:cC} {x f m:av}
end
end L3
namespace L3
open PySem PySem.Spec PyProof.Rows L2
section
variable {P:aw} {w:aN} {K:W.Frag} {mg:av->Option af} {base:az}
theorem WQ{x qual:av}{st:b3}{f:ai}{fd:bN}{N ps:List av}{k:Nat}{body:List b3}{scope:b6}{tb:DS}(F:Dk K x qual st f fd)(a:ix st=body)(es:hG st=scope)(S:jQ N ps scope)
(b:∀(iC:af) (A:aH) (outer:List d4) (s:ah) (H:Hp) (E:XK),js k (A.deeper (dO qual scope s.heap.objs.size f iC))->wJ (qj ud P w K mg base N qual scope f iC A outer s H E).Er body tb):
  kb P w K mg base ud (k+1) f fd ps (mR K (cl (mO N.length ps.length tb))):=by subst a es;exact F.ok S (λc H Q E ⟨F,α,M,ds,o,r,hn,e,q⟩=>by rw[<-gp.length _ _ r];exact e) λiC A outer s H c Q E g h=>let⟨t,q,z⟩:=GY (ps:=ps) (b iC A outer s H E g) rfl h;⟨t,q.p,z⟩
theorem Ta{x:av}{st:b3}{ps:List av}(k:Nat)(F:gY K mg x st)
(hb:∀(kV doc pm:af) (an:Option ai) (iC ct:af) (us:List af),us.length=ps.length->dY (W.fnOf x x (jz st) (ix st) (hG st) .none kV doc pm an iC ct) ⟨us,[]⟩=pure (ps.zip us)):iA P w K mg base k x ps λ_ _ _=>False:=by obtain⟨f,fd,F,m⟩:=F;exact⟨λ_ _ _ _ _ q=>q,f,fd,m,F.kp,F.binds hb,⟨λa H Q E ⟨_,_,_,_,_,_,q⟩=>q.elim,λA outer s H args us a Q E _ _ _ _ ⟨_,_,_,_,_,_,q⟩=>q.elim⟩⟩
end
abbrev GM:=D->List D->Ms->DK->Prop
def rDm (K:W.Frag)(g:GM):V->List V->Hp->VK->Prop:=λx xs H Q=>∃F α M d ds,OK K F α H M/\Rep K α (iG F α M H) d x/\gp K α (iG F α M H) ds xs/\g d ds M (vK K F α H M Q)
structure JM(X:Cx)(id:String)(g:GM):Prop where
 mono:∀d ds M (P Q:DK),(∀d M,P d M->Q d M)->g d ds M P->g d ds M Q
 p:MI X id (rDm X.K g)
noncomputable def Rj(T:String)(d:D):Bool:=match d with
 |.lst _|.oZ _=>T=="list"
 |.str _=>T=="str"
 |.int _=>T=="int"
 |.jR _ _=>T=="dict"
 |_=>ao
section
variable {X:Cx} {a b c e o value:aS} {es rest:List aS} {ta tb tc te to tv:DE} {tA:DT} {tt:DA} {pos pos' p p2 p3 apos iz:cC} {x f m name:av} {T id:String} {g:GM}
theorem Pd{F α:List ai}{H:Hp}{M:Ms}{d:D}{v:V}(ok:OK X.K F α H M)(r:Rep X.K α (iG F α M H) d v)(h:Rj T (vw M d)=aj):V4 X.K T v H:=by
 generalize e1:vw M d=z at h;cases z<;>first|(cases h;done)|skip
 ·cases qK e1;unfold Rep at r;subst r;exact beq_iff_eq.mp h
 ·cases kO e1;unfold Rep at r;subst r;exact beq_iff_eq.mp h
 ·obtain⟨a,j,rfl,i,_⟩:=jF ok r e1;exact .inl ⟨beq_iff_eq.mp h,j,nj.of i⟩
 ·obtain⟨a,j,rfl,i,_⟩:=pz ok r e1;exact .inr (.inr (.inl ⟨beq_iff_eq.mp h,.inl ⟨_,i⟩⟩))
 ·cases qJ e1;unfold Rep at r;obtain⟨a,rfl,i⟩:=r;exact .inl ⟨beq_iff_eq.mp h,_,j5 hX i⟩
def o7 (T:String)(g:GM)(to:DE)(tt:DA):DE:=λh M Q=>to h M λd M1=>Rj T (vw M1 d)=aj/\tt h M1 λds M2=>g d ds M2 Q
theorem lQ(i:JM X id g)(pa:PlainAttrs T)(slot:Slot T name id)(y:abv (.builtin id)=pure (.type "method_descriptor"))(j:JE X o to)(ha:JA X (e::es) tt)
(z:cQ o name X.env (eval o X.env)=eval o X.env:=by rfl)
(A:((cb iz (aJ (e::es) X.env)).all (λx=>!x.1)&&(f8 iz (eS [] X.env)).all (λx=>x.1.isSome)
   &&decide ((e::es).length+([]:List ff).length+(if([]:List ff).isEmpty then 0 else 1)<30))=aj:=by rfl)
(B:(apos.endLine==iz.line)=aj:=by rfl)(C:aJ (e::es) X.env=(ao,eval e X.env)::aJ es X.env:=by rfl)(E:(cb iz (aJ es X.env)).any (·.1)=ao:=by rfl):
  JE X (.Call (.Attribute o name apos) (e::es) [] iz) (o7 T g to tt):=by refine⟨λh M P Q w q=>j.mono h _ _ _ (λd M1 q=>⟨q.1,ha.mono h _ _ _ (λds M2 q=>i.mono _ _ _ _ _ w q) q.2⟩) q,PE.weak (Se pa slot y i.p j.p ha.p z A B C E) λσ H Q q=>?_⟩;obtain⟨F,α,h,M,r,q⟩:=q;refine⟨F,α,h,M,r,j.mono h _ _ _ (λd M1 q v G H1 e1 n u=>⟨Pd n u q.1,F,G,h,M1,r.grow e1 n,ha.mono h _ _ _ (λds M2 q N I O e2 J L=>?_) q.2⟩) q⟩;exact⟨F,I,M2,d,ds,J,e2.rep u,L,i.mono _ _ _ _ _ (vK.grow (e1.trans e2)) q⟩
theorem yr{F α:List ai}{H:Hp}{M:Ms}{k:Nat}{ds:List D}{v:V}(ok:OK X.K F α H M)(r:Rep X.K α (iG F α M H) (.loc k) v)(h:M[k]?=ae (ae (.lst ds))):
  ∃a i,v=.ref a/\H a=ae (.lst i)/\gp X.K α (iG F α M H) ds i/\∀es ws,gp X.K α (iG F α M H) es ws->OK X.K F α (upd H a (.lst ws)) (M.set k (ae (.lst es)))/\Ext F α H M α (upd H a (.lst ws)) (M.set k (ae (.lst es))):=by unfold Rep at r;obtain⟨a,j,rfl⟩:=r;obtain⟨B,n,i,q,u⟩:=ok.own k _ h;rw[j] at n;cases n;exact⟨a,i,rfl,q,u,λes ws w=>ok.write (y:=.lst es) (z:=.lst ws) h j λC A=>by subst A;exact⟨ws,gH,w⟩⟩
def iO:GM:=λd ds M Q=>match d,ds with
 |.loc k,[x]=>∃es,M[k]?=ae (ae (.lst es))/\es.length<ax/\Q .non (M.set k (ae (.lst (es++[x]))))
 |_,_=>False
theorem kG:JM X "list.append" iO:=by
 refine⟨λd ds M P Q w q=>?_,λpins s σ H x xs v us Q I B rs h=>?_⟩
 ·match d,ds,q with
  |.loc k,[x],⟨es,i,j,q⟩=>exact⟨es,i,j,w _ _ q⟩
 ·obtain⟨F,α,M,d,ds,ok,r,n,h⟩:=h;match d,ds,h,r,n with
  |.loc k,[y],⟨es,i,j,q⟩,r,n=>
   obtain⟨a,z,rfl,C,A,E⟩:=yr ok r i;obtain⟨u,G,J⟩:=kQ n;subst G;obtain⟨L,e2⟩:=E (es++[y]) (z++[u]) (gp.append _ _ _ _ A (gp.one J));exact xo pins s σ H _ _ v us Q I B rs ⟨a,z,u,rfl,rfl,C,by rw[<-gp.length _ _ A];exact j,q _ α _ e2 L lY⟩
def xz (to ti:DE):DG:=λv h M Q=>to h M λo M1=>ti h M1 λi M2=>match o with
 |.loc k=>match M2[k]?,i with
  |some (ae (.lst ds)),.int j=>∃n,FK ds.length j=ae n/\Q h (M2.set k (ae (.lst (ds.set n v))))
  |_,_=>False
 |_=>False
theorem Hd(z:JE X o to)(hi:JE X e te)
(ha:∀v,assign (.Subscript o e pos) X.env v=(do
   let y<-holding [v] (eval o X.env);let A<-holding [v,y] (eval e X.env)
   aaC pos
   holding [v,y,A] (setItem y A v)
   release [v,y,A] []):=by intro _;rfl):JG X (.Subscript o e pos) (xz to te):=by
 refine⟨λd h M P Q w q=>z.mono h _ _ _ (λod M1 q=>hi.mono h _ _ _ (λi M2 q=>?_) q) q,PG.weak (N7 z.p hi.p Gq ha) λv σ H Q q=>?_⟩
 ·cases od<;>first|exact q.elim|skip
  rename_i k;simp only at q ⊢;split at q
  ·obtain⟨n,B,q⟩:=q;exact⟨n,B,w _ _ q⟩
  ·exact q.elim
 ·obtain⟨F,α,h,M,d,r,rd,q⟩:=q;refine⟨F,α,h,M,r,z.mono h _ _ _ (λod M1 q u I H1 e1 J L=>⟨F,I,h,M1,r.grow e1 J,hi.mono h _ _ _ (λi M2 q w N H2 e2 O C=>?_) q⟩) q⟩;cases od<;>first|exact q.elim|skip
  rename_i k;simp only at q;split at q
  ·rename_i ds j U;obtain⟨n,B,q⟩:=q;unfold Rep at C;subst C;obtain⟨a,E,rfl,Y,G,wr⟩:=yr O (e2.rep L) U;have WR:=(e1.trans e2).rep rd;obtain⟨o3,e3⟩:=wr (ds.set n d) (E.set n v) (gp.set WR n _ _ G);exact⟨a,E,j,n,rfl,rfl,Y,by rw[<-gp.length _ _ G];exact B,q σ N _ ((e1.trans e2).trans e3) (r.grow ((e1.trans e2).trans e3) o3)⟩
  ·exact q.elim
end
end L3
namespace L3
open PySem PySem.Spec PyProof.Rows L2 PyProof.Rows.KTD
def EU (K:W.Frag)(d:D)(u:af):Prop:=∃v,RelV v u/\∀α H,Rep K α H d v
structure pE(K:W.Frag)(a:ai)(rows:List (av×D)):Prop where
 lo:(a==dq)=ao
 ex:∃o es ep,K.lookup a=ae o/\o.ExactDict/\o.data=.dict es ep/\Rows (EU K) es.toList rows
section
variable {prog:aw} {w:aN} {A:aH} {E:af->ah->Prop} {s:ah} {K:W.Frag} {a:ai} {rows:List (av×D)} {k:av} {tk:aaU}
theorem pE.typeIs(T:pE K a rows)(h:K.In s.heap):s.TypeIs (.ref a) "dict":=let⟨o,_,_,b,hc,_⟩:=T.ex;⟨o,h _ _ b,hc.1⟩
theorem pE.get{Q:Option af->ah->Prop}(T:pE K a rows)(h:K.In s.heap)(j:∀d v,eD k rows=ae d->EU K d v->Q (ae v) {s with toks:=s.toks+1})(m:eD k rows=aq->Q aq {s with toks:=s.toks+1}):
  wpAny (model prog w) A (aaR a (.str k tk)) Q E s:=by
 obtain⟨o,es,r,c,hc,hd,g⟩:=T.ex;have c:=h _ _ c;unfold aaR;try with_reducible refine cy ?_
 refine ag (abh (ag (kt_dictFind_strs (s:={s with toks:=s.toks+1}) c hd (by obtain⟨l⟩:=es;simpa using g.exact) ?_)));have b:Q (abt (λk v=>v.isStr k) es k) {s with toks:=s.toks+1}:=by
  have n:abt (λk v=>v.isStr k) es k=(es.toList.find? λe=>e.key.isStr k).map (·.val):=by obtain⟨l⟩:=es;simp[abt]
  rw[n];cases f:eD k rows with
  |some d=>obtain⟨v,p,q⟩:=g.find_some f;rw[p];exact j d v f q
  |none=>rw[g.find_none f];exact m f
 rw[findBy_of_findIdx?] at b;cases hi:es.findIdx? λe=>e.key.isStr k with
 |none=>rw[hi] at b;exact aB b
 |some i=>rw[hi] at b;exact ag (wpAny_dictEntries (s:={s with toks:=s.toks+1}) c hd (aB b))
theorem pE.item{Q:af->ah->Prop}(T:pE K a rows)(c:K.In s.heap){d:D}(hm:eD k rows=ae d)(h:∀v,EU K d v->Q v {s with toks:=s.toks+1}):
  wpAny (model prog w) A (fX (.ref a) (.str k tk)) Q E s:=by
 have b:s.TypeIs (.ref a) "dict":=T.typeIs c;unfold fX;try with_reducible refine cy ?_
 refine ag (aba b (by decide) ?_);refine ag (cK (name:=bI "__getitem__") b abf
  (cR abf b entry_dict_getitem ?_ (args_dict_getitem _ _)))
 show wpAny _ _ (aaR a (.str k tk) >>= _) _ _ s;exact ag (T.get c (λf v ha e=>aB ⟨v,rfl,aB (h v (by rw[hm] at ha;cases ha;exact e))⟩) λhn=>by rw[hm] at hn;cases hn)
theorem pE.isin{Q:af->ah->Prop}(T:pE K a rows)(e:K.In s.heap)(neg:Bool)(h:Q (.bool (if neg then !aan k rows else aan k rows)) {s with toks:=s.toks+1}):wpAny (model prog w) A (compareOp (if neg then .NotIn else .In) (.str k tk) (.ref a)) Q E s:=by
 have b:s.TypeIs (.ref a) "dict":=T.typeIs e;have key:∀(c:Bool->ah->Prop),c (aan k rows) {s with toks:=s.toks+1}->wpAny (model prog w) A (contains (.ref a) (.str k tk)) c E s:=λc h=>by
  unfold contains;try with_reducible refine cy ?_
  refine ag (aaB b aao.lookup ?_);show wpAny _ _ (if(ae (cE "dict.__contains__")==ae bW)=aj then _ else _) _ E s;rw[if_neg (by rw[beq_builtin_none];exact am)];refine ag (wpAny_callSpecialUnlessNone?_slot (name:=bI "__contains__") b aao
   (cR aao b entry_dict_contains ?_ (args_dict_contains _ _)))
  show wpAny _ _ (aaR a (.str k tk) >>= _) _ _ s;refine ag (T.get e (λd v ha _=>?_) λhn=>?_)
  ·have hb:aan k rows=aj:=by rw[<-aaI,ha];rfl
   rw[hb] at h;show wpAny _ _ (ret (.bool aj)) _ _ _;exact aB ⟨_,rfl,bY h⟩
  ·have hb:aan k rows=ao:=by rw[<-aaI,hn];rfl
   rw[hb] at h;show wpAny _ _ (bd.Dict.pendingKey? a (.str k tk) >>= _) _ _ _;exact ag (wpAny_pendingKey_other T.lo (aB ⟨_,rfl,bY h⟩))
 cases neg with
 |false=>
  show wpAny _ _ (do return .bool (<-contains (.ref a) (.str k tk))) Q E s;exact ag (key _ (aB h))
 |true=>
  show wpAny _ _ (do return .bool (!(<-contains (.ref a) (.str k tk)))) Q E s;exact ag (key _ (aB h))
end
section
variable {X:Cx} {a:ai} {rows:List (av×D)}
def yt (a:ai)(rows:List (av×D)):G2:=λx y M Q=>match x,y with
 |.cls b,.str k=>b=a/\∃d,eD k rows=ae d/\Q d M
 |_,_=>False
theorem Pe(T:pE X.K a rows):JX X (yt a rows):=by
 refine⟨λx y M P Q w q=>?_,λvalue slice pins s σ H x y v u Q I i j h m=>?_⟩
 ·unfold yt at*;split at q<;>first|exact q.elim|(obtain⟨n,d,p,q⟩:=q;exact⟨n,d,p,w _ _ q⟩)
 ·obtain⟨F,α,M,J,L,o,e,f,h⟩:=h;unfold yt at h;split at h<;>first|exact h.elim|skip
  obtain⟨rfl,d,hd,q⟩:=h;unfold Rep at e f;subst e f;rename_i b k;obtain rfl:v=aR b:=i;obtain⟨t,rfl⟩:=j;have g:s.TypeIs (.ref b) "dict":=T.typeIs I.ni;unfold aal;refine ag ?_;rw[aaT g.not_modules];refine ag (aaB g PySem.F.slot_dict_getitem.lookup ?_);have c:wpAny (model X.prog X.w) X.A (subscripted slice ao (.ref b) (.str k t)) (λr z=>wpAny (model X.prog X.w) X.A (abx value (.ref b) r >>= λ_=>pure r) (EP X pins σ Q) X.xe z) X.xe s:=by rw[m];refine abr (T.item I.ni hd λN B=>ag (aaY (aB ?_)));obtain⟨C,E,G⟩:=B;exact⟨C,H,I.tok _,E,vK.now o q (G _ _)⟩
  first
   |exact aB (ag c)
   |exact ag (aB (ag c))
   |exact ag c
def yu (neg:Bool)(a:ai)(rows:List (av×D)):G2:=λx y M Q=>match x,y with
 |.str k,.cls b=>b=a/\Q (.bl (if neg then !aan k rows else aan k rows)) M
 |_,_=>False
theorem Aq(T:pE X.K a rows):JC X .NotIn (yu aj a rows):=by
 refine⟨λx y M P Q w q=>?_,λpins s σ H x y v u Q I f g h=>?_⟩
 ·unfold yu at*;split at q<;>first|exact q.elim|exact⟨q.1,w _ _ q.2⟩
 ·obtain⟨F,α,M,i,j,o,c,e,h⟩:=h;unfold yu at h;split at h<;>first|exact h.elim|skip
  obtain⟨rfl,q⟩:=h;unfold Rep at c e;subst c e;obtain⟨t,rfl⟩:=f;rename_i k b;obtain rfl:u=aR b:=g;exact T.isin I.ni aj ⟨.bl _,H,I.tok _,rfl,vK.now o q iF⟩
end
end L3
namespace L3
open PySem PySem.Spec PyProof.Rows L2
section
variable {P:aw} {w:aN} {K:W.Frag} {mg:av->Option af} {base:az}
theorem kR{x:av}{st:b3}{N ps:List av}{k:Nat}{body:List b3}{scope:b6}{tb:DS}(F:gY K mg x st)(a:ix st=body)(es:hG st=scope)(S:jQ N ps scope)
(hb:∀(kV doc pm:af) (an:Option ai) (iC ct:af) (us:List af),us.length=ps.length->dY (W.fnOf x x (jz st) (ix st) (hG st) .none kV doc pm an iC ct) ⟨us,[]⟩=pure (ps.zip us))
(b:∀(f:ai) (iC:af) (A:aH) (outer:List d4) (s:ah) (H:Hp) (E:XK),js k (A.deeper (dO x scope s.heap.objs.size f iC))->wJ (qj ud P w K mg base N x scope f iC A outer s H E).Er body tb):
  nv P w K mg base (k+1) x ps (mR K (cl (mO N.length ps.length tb))):=
 F.OO a es S hb (λc H Q E ⟨F,α,M,ds,o,r,hn,e,q⟩=>by rw[<-gp.length _ _ r];exact e) λf iC A outer s H c Q E g h=>GY (ps:=ps) (b f iC A outer s H E g) rfl h
theorem xA{x:av}{st:b3}{N ps:List av}{k:Nat}{body:List b3}{scope:b6}{tb:DS}(F:gY K mg x st)(a:ix st=body)(es:hG st=scope)(S:jQ N ps scope)
(hb:∀(kV doc pm:af) (an:Option ai) (iC ct:af) (us:List af),us.length=ps.length->dY (W.fnOf x x (jz st) (ix st) (hG st) .none kV doc pm an iC ct) ⟨us,[]⟩=pure (ps.zip us))
(b:∀(f:ai) (iC:af) (A:aH) (outer:List d4) (s:ah) (H:Hp) (E:XK),js k (A.deeper (dO x scope s.heap.objs.size f iC))->wJ (qj ud P w K mg base N x scope f iC A outer s H E).Er body tb):
  nv P w K mg base (k+1) x ps (mR K (Ds N.length ps.length tb)):=
 F.OO a es S hb (λc H Q E ⟨F,α,M,ds,o,r,e,q⟩=>by rw[<-gp.length _ _ r];exact e) λf iC A outer s H c Q E g h=>OV (ps:=ps) (b f iC A outer s H E g) rfl h
theorem nB{k:Nat}{x:av}{ps:List av}{g a:GP}(h:nv P w K mg base k x ps (mR K (cl g)))(m:jS a)(i:∀ds Q,a ds Q->g ds Q):iA P w K mg base k x ps (cl a):=
 ⟨KA m,let⟨f,fd,c,kp,b,F⟩:=h;⟨f,fd,c,kp,b,F.imp λe H Q E ⟨F,α,M,ds,o,r,n,q⟩=>⟨F,α,M,ds,o,r,n,i _ _ q⟩⟩⟩
theorem EV{k:Nat}{x:av}{ps:List av}{g a:GN}(h:nv P w K mg base k x ps (mR K g))(m:mP a)(i:∀ds M Q,a ds M Q->g ds M Q):iA P w K mg base k x ps a:=
 ⟨m,let⟨f,fd,c,kp,b,F⟩:=h;⟨f,fd,c,kp,b,F.imp λe H Q E ⟨F,α,M,ds,o,r,q⟩=>⟨F,α,M,ds,o,r,i _ _ _ q⟩⟩⟩
end
theorem nC{i:Nat}{gs:Dp}(h:G0 (gQ i))(a:Aa gs):Aa (jf (gQ i) gs):=λd b M P q=>by
 cases d with
 |nil=>exact q.elim
 |cons d r=>
  have:=a r (b.set i (ae d)) M P q;simpa[jf,gQ] using this
theorem yv{n:Nat}{gs:Dp}(a:Aa gs):G0 (nz n gs):=OY a
theorem xB{fr:List (Option Nat)}{g:DG}{tt:DT}{c:DE}{st:Ms->Prop}{Q:List D->Ms->Prop}{a:j2}{M:Ms}(f:D->D)(e:st M):∀(xs acc:List D),acc.length+xs.length<=ax->
  (∀x∈xs,∀i:Option D->j2->Ms->Prop,(∀b,BD fr b=a->i (ae (f x)) b M)->xv g tt c x a M i)->Q (acc++xs.map f) M->lC fr g tt c st Q xs acc a M
 |[],acc,_,_,q=>by rw[c6,bf] at q;exact q
 |x::xs,acc,j,h,q=>by unfold lC;refine h x a8 _ λb e1=>⟨e,by simp at j;omega,?_⟩;rw[e1];refine xB f e xs (acc++[f x]) (by simp at j ⊢;omega) (λy m=>h y (au _ m)) ?_;rw[bA];exact q
theorem rP{g:DG}{tb:DS}{st:Ms->Prop}{E:iV}(Pv:Nat->j2->Ms->Prop)(f:∀j a M,Pv j a M->st M):∀(xs:List D) (i:Nat) (a:j2) (M:Ms),Pv i a M->
  (∀j x a M,xs[j]?=ae x->Pv (i+j) a M->∀N:j2->Ms->Prop,(∀b c,Pv (i+j+1) b c->N b c)->g x a M λn M1=>tb {E with nx:=N,ct:=N,bk:=E.nx} n M1)->
  (∀a M,Pv (i+xs.length) a M->E.nx a M)->l8 g tb st E xs a M
 |[],i,a,M,p,_,e=>e a M p
 |x::xs,i,a,M,p,h,e=>by
  unfold l8;refine h 0 x a M rfl p _ λb c m=>⟨f _ _ _ m,?_⟩;exact rP Pv f xs (i+1) b c m (λj y a M o r N u=>h (j+1) y a M (by simpa using o) (by rw[show i+(j+1)=i+1+j by omega];exact r) N λb c q=>u b c (by rw[show i+1+j+1=i+(j+1)+1 by omega];exact q))
   (λa M p=>e a M (by rw[aM,show i+(xs.length+1)=i+1+xs.length by omega];exact p))
end L3
namespace L3
open PySem PySem.Spec PyProof.Rows L2
mutual
noncomputable def dv (M:Ms):D->D
 |.non=>.non|.bl b=>.bl b|.int i=>.int i|.str x=>.str x|.ty n=>.ty n|.oZ ns=>.oZ ns|.cls C=>.cls C
 |.loc k=>vw M (.loc k)
 |.tup ds=>.tup (sR M ds)|.lst ds=>.lst (sR M ds)|.jR a ds=>.jR a (sR M ds)|.ins C ns ds=>.ins C ns (sR M ds)|.exc C ns ds=>.exc C ns (sR M ds)
noncomputable def sR (M:Ms):List D->List D
 |[]=>[]
 |d::ds=>dv M d::sR M ds
end
theorem DL(M:Ms):∀ds:List D,sR M ds=ds.map (dv M)
 |[]=>rfl
 |d::ds=>by unfold sR;rw[DL M ds];rfl
theorem qN(M:Ms)(ds:List D):(sR M ds).length=ds.length:=by rw[DL,ap]
section
variable {K:W.Frag} {F α:List ai} {H:Hp} {M:Ms}
mutual
theorem Pf (o:OK K F α H M):∀(d:D) (v:V),Rep K α (iG F α M H) d v->Rep K α H (dv M d) v
 |.non,v,h=>by unfold dv;unfold Rep at h ⊢;exact h
 |.bl _,v,h=>by unfold dv;unfold Rep at h ⊢;exact h
 |.int _,v,h=>by unfold dv;unfold Rep at h ⊢;exact h
 |.str _,v,h=>by unfold dv;unfold Rep at h ⊢;exact h
 |.ty _,v,h=>by unfold dv;unfold Rep at h ⊢;exact h
 |.cls _,v,h=>by unfold dv;unfold Rep at h ⊢;exact h
 |.oZ ns,v,h=>by unfold dv;unfold Rep at h ⊢;obtain⟨a,r,q⟩:=h;exact⟨a,r,j5 hX q⟩
 |.loc k,v,h=>by unfold dv;exact Rep.mono (aX _) hX _ _ (sZ o _ _ h)
 |.tup ds,v,h=>by unfold dv;unfold Rep at h ⊢;obtain⟨a,b,r,q,z⟩:=h;exact⟨a,b,r,mr hX q,nU o ds b z⟩
 |.lst ds,v,h=>by unfold dv;unfold Rep at h ⊢;obtain⟨a,b,r,q,z⟩:=h;exact⟨a,b,r,hX _ _ q,nU o ds b z⟩
 |.jR e ds,v,h=>by unfold dv;unfold Rep at h ⊢;obtain⟨a,b,r,q,l,z⟩:=h;exact⟨a,b,r,yj hX q,by rw[qN];exact l,nU o ds b z⟩
 |.ins C ns ds,v,h=>by unfold dv;unfold Rep at h ⊢;obtain⟨a,c,b,r,q,l,z⟩:=h;exact⟨a,c,b,r,hX _ _ q,by rw[qN];exact l,nU o ds b z⟩
 |.exc C ns ds,v,h=>by unfold dv;unfold Rep at h ⊢;obtain⟨a,b,r,q,l,z⟩:=h;exact⟨a,b,r,hX _ _ q,by rw[qN];exact l,nU o ds b z⟩
theorem nU (o:OK K F α H M):∀(ds:List D) (b:List V),gp K α (iG F α M H) ds b->gp K α H (sR M ds) b
 |[],b,h=>by unfold sR;unfold gp at h ⊢;exact h
 |d::ds,b,h=>by unfold sR;unfold gp at h ⊢;obtain⟨v,r,q,z,y⟩:=h;exact⟨v,r,q,Pf o d v z,nU o ds r y⟩
end
end
section
variable {X:Cx}
end
noncomputable def sc:D->Bool
 |.non|.bl _|.int _|.str _|.ty _=>aj
 |_=>ao
def Tc (g:GP):GN:=λds M Q=>ql (sR M ds)=aj/\g (sR M ds) λd=>sc d=aj/\Q d M
theorem He{g:GP}(m:jS g):mP (Tc g):=λds M P Q w q=>⟨q.1,m _ _ _ (λd q=>⟨q.1,w _ _ q.2⟩) q.2⟩
theorem Pg{K:W.Frag}{α β:List ai}{H a:Hp}{d:D}{v:V}(h:sc d=aj)(r:Rep K α H d v):Rep K β a d v:=by cases d<;>first|(cases h;done)|(unfold Rep at r ⊢;exact r)
theorem Hg{K:W.Frag}{H:Hp}(t:Tb K H):OK K [] [] H []:=⟨rfl,d6,λ_ h=>by simp at h,λ_ h=>by simp at h,λk o h=>by simp at h,t⟩
def vL (H a:Hp):Prop:=∀b o,H b=ae o->pq (ae o)=ae o->a b=ae o
theorem vM{H:Hp}:vL H (iT [] H):=λb o e v=>jE (by simp) e v
theorem B9{K:W.Frag}{H b:Hp}{a:ai}{xs:List V}(e:vL H b)(h:t9 K H a xs):t9 K b a xs:=by
 rcases h with(h|⟨o,h⟩)|h
 ·exact .inl (.inl (e _ _ h rfl))
 ·exact .inl (.inr ⟨o,e _ _ h rfl⟩)
 ·exact .inr h
theorem vN{K:W.Frag}{H b:Hp}{a:ai}{xs:List V}(e:vL H b)(h:nj K H a xs):nj K b a xs:=by
 rcases h with(h|⟨o,h⟩)|h
 ·exact .inl (.inl (e _ _ h rfl))
 ·exact .inl (.inr ⟨o,e _ _ h rfl⟩)
 ·exact .inr h
mutual
theorem Rep.rQ {K:W.Frag} {α:List ai} {H c:Hp} (e:vL H c):∀(d:D) (v:V),Rep K α H d v->Rep K α c d v
 |.non,v,h=>by unfold Rep at h ⊢;exact h
 |.bl _,v,h=>by unfold Rep at h ⊢;exact h
 |.int _,v,h=>by unfold Rep at h ⊢;exact h
 |.str _,v,h=>by unfold Rep at h ⊢;exact h
 |.ty _,v,h=>by unfold Rep at h ⊢;exact h
 |.tup ds,v,h=>by unfold Rep at h ⊢;obtain⟨a,b,r,q,z⟩:=h;exact⟨a,b,r,B9 e q,gp.rQ e ds b z⟩
 |.lst ds,v,h=>by unfold Rep at h ⊢;obtain⟨a,b,r,q,z⟩:=h;exact⟨a,b,r,e _ _ q rfl,gp.rQ e ds b z⟩
 |.oZ ns,v,h=>by unfold Rep at h ⊢;obtain⟨a,r,q⟩:=h;exact⟨a,r,vN e q⟩
 |.jR g ds,v,h=>by unfold Rep at h ⊢;obtain⟨a,b,r,q,l,z⟩:=h;exact⟨a,b,r,(by rcases q with q|⟨o,q⟩<;>first|exact .inl (e _ _ q rfl)|exact .inr ⟨o,e _ _ q rfl⟩),l,gp.rQ e ds b z⟩
 |.ins C ns ds,v,h=>by unfold Rep at h ⊢;obtain⟨a,f,b,r,q,l,z⟩:=h;exact⟨a,f,b,r,e _ _ q rfl,l,gp.rQ e ds b z⟩
 |.exc C ns ds,v,h=>by unfold Rep at h ⊢;obtain⟨a,b,r,q,l,z⟩:=h;exact⟨a,b,r,e _ _ q rfl,l,gp.rQ e ds b z⟩
 |.loc k,v,h=>by unfold Rep at h ⊢;exact h
 |.cls _,v,h=>by unfold Rep at h ⊢;exact h
theorem gp.rQ {K:W.Frag} {α:List ai} {H c:Hp} (e:vL H c):∀(ds:List D) (b:List V),gp K α H ds b->gp K α c ds b
 |[],b,h=>by unfold gp at h ⊢;exact h
 |d::ds,b,h=>by unfold gp at h ⊢;obtain⟨v,r,q,z,y⟩:=h;exact⟨v,r,q,Rep.rQ e d v z,gp.rQ e ds r y⟩
end
theorem OK.Td{K:W.Frag}{F α:List ai}{H c:Hp}{M:Ms}(o:OK K F α H M)(s:vL H c)(t:Tb K c):OK K F α c M/\Ext F α H M α c M:=by
 have oV:∀a,pq (H a)≠aq->c a=H a:=λa h=>by
  cases e:H a with
  |none=>exact absurd (by rw[e]) h
  |some x=>
   rw[e] at h;exact s a x e (by cases x<;>first|rfl|exact absurd rfl h)
 have sh:∀A,jd (iT A H) (iT A c):=λA b x e=>by obtain⟨g,i,f⟩:=my e;exact jE g (s b x i f) f
 refine⟨⟨o.ml,o.nd,λa ha=>⟨(o.fr a ha).1,by rw[oV a (o.fr a ha).2];exact(o.fr a ha).2⟩,λa ha=>by rw[oV a (o.al a ha)];exact o.al a ha,λk x h=>?_,t⟩,⟨aX _,sh _,λa ha=>oV a (o.fr a ha).2⟩⟩;obtain⟨a,e,r⟩:=o.own k x h;exact⟨a,e,r.mono (aX _) (sh _) (oV a (o.Dm a (mz.mpr ⟨k,x,e,h⟩)))⟩
section
variable {P:aw} {w:aN} {K:W.Frag} {mg:av->Option af} {base:az}
theorem hasB{k:Nat}{x:av}{ps:List av}{g a:GP}(h:nv P w K mg base k x ps (mR K (cl g)))(m:jS a)(i:∀ds Q,a ds Q->g ds Q):iA P w K mg base k x ps (Tc a):=
 ⟨He m,let⟨f,fd,e,kp,b,F⟩:=h;⟨f,fd,e,kp,b,F.imp λz H Q E ⟨F,α,M,ds,o,r,n,q⟩=>by
  refine⟨[],[],[],sR M ds,Hg o.tb,?_,n,i _ _ (m _ _ _ (λd q=>?_) q)⟩
  ·show gp K [] (iT ([]++[]) H) _ _;rw[bf];exact gp.rQ vM _ _ (gp.nl _ _ n (nU o _ _ r))
  ·obtain⟨j,q⟩:=q;intro v A c e' p u;have s:vL H c:=λb ob hb vb=>by have:=e'.same b ob (by show iT ([]++[]) H b=_;rw[bf];exact jE (by simp) hb vb);exact hX _ _ this
   obtain⟨y,e2⟩:=o.Td s p.tb;exact q v α c e2 y (Pg j u)⟩⟩
end
end L3
namespace L3
open PySem PySem.Spec PyProof.Rows L2
theorem Ca{a:List (Key×V)}{k:Key}{v:V}(h:k∉a.map (·.1)):qF a k v=a++[(k,v)]:=by unfold qF;rw[if_neg];intro z;obtain⟨p,b,e⟩:=List.any_eq_true.mp z;exact h (cj.mpr ⟨p,b,of_decide_eq_true e⟩)
theorem qO:∀(more a:List (Key×V)),((a++more).map (·.1)).Nodup->mw a more=a++more
 |[],a,_=>by rw[bf];rfl
 |p::r,a,h=>by
  have b:p.1∉a.map (·.1):=λz=>by rw[bE,List.nodup_append] at h;exact h.2.2 p.1 z p.1 (by simp) rfl
  show mw (qF a p.1 p.2) r=_;rw[Ca b,qO r (a++[(p.1,p.2)]) (by rw[bA];exact h),bA];rfl
def vO:List (DE×DE)->j2->Ms->(List (D×D)->Ms->Prop)->Prop
 |[],_,M,Q=>Q [] M
 | (tk,b)::r,a,M,Q=>tk a M λk M1=>b a M1 λv M2=>vO r a M2 λps c=>Q ((k,v)::ps) c
abbrev pK(K:W.Frag)(F α:List ai)(H:Hp)(M:Ms)(Q:List (V×V)->Hp->Prop):List (D×D)->Ms->Prop:=λps c=>∀e a b,Ext F α H M a b c->OK K F a b c->gp K a (iG F a c b) (ps.map (·.1)) (e.map (·.1))->gp K a (iG F a c b) (ps.map (·.2)) (e.map (·.2))->Q e b
structure JP(X:Cx)(pos:cC)(keys:List (Option aS))(values:List aS)(ts:List (DE×DE)):Prop where
 mono:∀δ M (P Q:List (D×D)->Ms->Prop),(∀ps M,P ps M->Q ps M)->vO ts δ M P->vO ts δ M Q
 p:∃Dd,R6 X pos keys values Dd/\∀F α δ M σ H Q,R X.K F α H σ δ M->vO ts δ M (pK X.K F α H M Q)->yc Dd σ H Q
section
variable {X:Cx} {pos:cC} {k v:aS} {keys:List (Option aS)} {values:List aS} {tk tv:DE} {ts:List (DE×DE)}
theorem Hi:JP X pos [] [] []:=⟨λa M P Q w q=>w _ _ q,[],J2,λF α a M σ H Q r q=>q [] α H Ext.refl r.ok gp.nil gp.nil⟩
theorem j7(b:JE X k tk)(c:JE X v tv)(e:JP X pos keys values ts):JP X pos (ae k::keys) (v::values) ((tk,tv)::ts):=by obtain⟨J,f,g⟩:=e.p;refine⟨λa M P Q w q=>b.mono a _ _ _ (λ_ M1 q=>c.mono a _ _ _ (λ_ M2 q=>e.mono a _ _ _ (λps h q=>w _ _ q) q) q) q,_,Gj b.p c.p f,λF α a M σ H Q r q=>?_⟩;refine⟨F,α,a,M,r,b.mono a _ _ _ (λL M1 q x i H1 e1 j m=>⟨F,i,a,M1,r.grow e1 j,c.mono a _ _ _ (λdv M2 q y n o e2 u z=>?_) q⟩) q⟩;refine g F n a M2 σ o _ (r.grow (e1.trans e2) u) (e.mono a _ _ _ (λps h q A B C e3 E G I=>?_) q);exact q ((x,y)::A) B C ((e1.trans e2).trans e3) E (gp.cons (e3.rep (e2.rep m)) G) (gp.cons (e3.rep z) I)
noncomputable def Ar:List (D×D)->Option (List Key)
 |[]=>ae []
 | (k,_)::r=>match B1 k,Ar r with
  |some k,ae a=>ae (k::a)
  |_,_=>aq
def xC (ts:List (DE×DE)):DF:=λb M Q=>vO ts b (M++[ae (.jR [] [])]) λps M1=>M1=M++[ae (.jR [] [])]/\∃a,Ar ps=ae a/\decide (a.Nodup/\a.length<=15)=aj/\ql (ps.map (·.2))=aj/\Q (.jR a (ps.map (·.2))) M
theorem xD{K:W.Frag}{α:List ai}{H:Hp}:∀(ps:List (D×D)) (a:List (V×V)) (b:List Key),Ar ps=ae b->gp K α H (ps.map (·.1)) (a.map (·.1))->a=(b.zip (a.map (·.2))).map (λf=>(kV f.1,f.2))/\b.length=a.length
 |[],a,b,h,r=>by
  cases h;cases a with
  |nil=>exact⟨rfl,rfl⟩
  |cons p a=>have:=gp.length _ _ r;simp at this
 | (k,d)::ps,a,b,h,r=>by
  cases a with
  |nil=>have:=gp.length _ _ r;simp at this
  |cons p a=>
   unfold Ar at h;rw[aU,aU] at r;unfold gp at r;obtain⟨x,xs,e,g,i⟩:=r;obtain⟨rfl,rfl⟩:=eU e;cases c:B1 k with
   |none=>rw[c] at h;cases h
   |some n=>
    cases er:Ar ps with
    |none=>rw[c,er] at h;cases h
    |some kr=>
     rw[c,er] at h;cases h;obtain⟨j,m⟩:=xD ps a kr er i;have:=nA g c;obtain⟨o,q⟩:=p;subst this;refine⟨?_,by simp[m]⟩;rw[aU,List.zip_cons_cons,aU,<-j]
theorem DM(h:JP X pos keys values ts)(yd:keys.all (·.isSome)=aj)(hl:keys.length=values.length)(h0:keys≠[])(VX:keys.length<=15):JF X (.Dict keys values pos) (xC ts):=by
 obtain⟨Dd,p1,p2⟩:=h.p;refine⟨λG M P Q w q=>h.mono G _ _ _ (λps M1 ⟨q1,g,N,I,O,q⟩=>⟨q1,g,N,I,O,w _ _ q⟩) q,PE.weak (J3 p1 yd hl h0 VX) λσ H Q q=>?_⟩;obtain⟨F,α,G,M,r,q⟩:=q;unfold xC at q;intro p m;obtain⟨o2,e2⟩:=r.ok.enter (x:=.jR [] []) m (rH (o:=.dK []) m) ⟨[],gH,rfl,gp.nil⟩;refine p2 F (α++[p]) G (M++[ae (.jR [] [])]) σ _ _ (r.grow e2 o2) (h.mono G _ _ _ (λps M1 q j T n e3 u rk rv=>?_) q);obtain⟨rfl,g,N,I,O,q⟩:=q;obtain⟨ev,lk⟩:=xD ps j g N rk;have pre:α <+: T:=(ck _ _).trans e3.pre;have Hj:(α++[p])[M.length]?=ae p:=by rw[<-r.ok.ml];simp
 obtain⟨a,B,ws,hq,_,c⟩:=u.own M.length (.jR [] []) (by simp);rw[yk e3.pre Hj] at B;cases B;obtain⟨E,sm⟩:=OK.ux r.ok u pre;have U:p∉F:=λz=>(r.ok.fr p z).2 (by rw[m]);have MU:p∉α:=λz=>r.ok.al p z (by rw[m]);have oW:p∉lv α M:=λz=>r.ok.live p z m;let i:Hp:=λb=>if b=p then aq else n b;have Y0:i p=aq:=if_pos rfl;have f:∀b,b≠p->i b=n b:=λb hb=>if_neg hb;have eu:∀Y,upd i p Y=upd n p Y:=λY=>by
  funext b;by_cases hb:b=p
  ·subst hb;rw[gH,gH]
  ·rw[gy hb,gy hb,f b hb]
 have hl3:T=α++[p]:=by obtain⟨β,Y1⟩:=e3.pre;have:=u.ml;rw[<-Y1] at this;simp[r.ok.ml] at this;rw[<-Y1,this];simp
 have eh:iG F α M i=iG F T (M++[ae (.jR [] [])]) n:=by
  funext b;show iT _ i b=iT _ n b;rw[hl3,K0 r.ok.ml];by_cases hb:b=p
  ·subst hb;rw[km (A:=lv α M++[b]++F) (by simp),i7 λz=>(aO.mp z).elim oW U];rw[Y0]
  ·by_cases hm:b∈lv α M++F
   ·rw[km hm,km (by simp only [aO] at hm ⊢;rcases hm with hm|hm;exact .inl (.inl hm);exact .inr hm)]
   ·rw[i7 hm,i7 (by simp only [aO,aZ] at hm ⊢;intro z;rcases z with(z|z)|z;exact hm (.inl z);exact hb z;exact hm (.inr z)),f b hb]
 have o5:OK X.K F α i M:=by
  refine⟨E.ml,E.nd,λa ha=>⟨(E.fr a ha).1,by rw[f a (λz=>U (z▸ha))];exact(E.fr a ha).2⟩,λa ha=>by rw[f a (λz=>MU (z▸ha))];exact E.al a ha,λk o hk=>?_,u.tb.imp λb y e v=>by rw[f b λz=>by rw[z,hq] at e;cases e;cases v];exact e⟩;obtain⟨a,B,J⟩:=u.own k o (by rw[bp (aC.mp hk).1];exact hk);obtain⟨a0,Ri,S9⟩:=r.ok.own k o hk;have:a=a0:=by rw[yk pre Ri] at B;exact(bq B).symm
  subst this;refine⟨a,Ri,?_⟩;have hb:=S9.DJ;have L:a≠p:=λz=>MU (z▸bu Ri);rw[eh];cases o with
  |lst ds=>obtain⟨us,q,c⟩:=J;exact⟨us,by rw[f a L];exact q,gp.shrink pre _ _ hb c⟩
  |jR kk ds=>obtain⟨us,q,l,c⟩:=J;exact⟨us,by rw[f a L];exact q,l,gp.shrink pre _ _ hb c⟩
  |ins C ns ds=>obtain⟨dx,us,q,l,c⟩:=J;exact⟨dx,us,by rw[f a L];exact q,l,gp.shrink pre _ _ hb c⟩
  |fz k ep kk ds=>obtain⟨_,us,q,l,c⟩:=J;exact⟨S9.1,us,by rw[f a L];exact q,l,gp.shrink pre _ _ hb c⟩
 have e5:Ext F α H M α i M:=⟨aX _,by rw[eh];exact(e2.trans e3).same,λa ha=>by rw[f a (λz=>U (z▸ha))];exact(e2.trans e3).fr a ha⟩;have ez:ws=[]:=by unfold gp at c;exact c
 subst ez;have nd:g.Nodup:=(of_decide_eq_true I).1;have lz:(j.map (·.2)).length=g.length:=by rw[ap,lk]
 have em:mw [] (g.zip (j.map (·.2)))=g.zip (j.map (·.2)):=by have:=qO (g.zip (j.map (·.2))) [] (by rw[bv,List.map_fst_zip (by omega)];exact nd);rw[this,bv]
 refine⟨hq,g.zip (j.map (·.2)),ev,?_,?_⟩
 ·rw[dj,lz,Nat.min_self];exact(of_decide_eq_true I).2
 ·rw[em,<-eu];refine q p _ α i e5 o5 Y0 ⟨j.map (·.2),rfl,?_,?_⟩
  ·rw[lk];have:=gp.length _ _ rv;simpa using this.symm
  ·rw[eh];exact gp.nl _ _ O rv
theorem EW:MI X "dict.update" (λx xs H Q=>∃a b c more,x=.ref a/\xs=[.ref b]/\a≠b/\H a=ae (.dK c)/\Rd H b (.dK more)/\c.length+more.length<=ax/\Q .non (upd H a (.dK (mw c more)))):=by
 intro pins s σ H x xs v us Q I o rs h;obtain⟨a,b,c,more,rfl,rfl,p,g,w,y,q⟩:=h;obtain rfl:v=aR a:=o;cases rs with
 |cons r t=>
  cases t;rename_i u;obtain rfl:u=aR b:=r;obtain⟨M,z,e,i,j⟩:=MH I.iE g;obtain⟨N,A,B,m,C⟩:=qr I.iE w;refine fY PySem.F.slot_dict_update j.typeIs PySem.F.entry_dict_update (PySem.F.args_dict_update_2 _ _) (meets_dict_update _ a b p A)
   ⟨e,B,j,C,?_,λE n _ G=>?_⟩
  ·have e1:=Paired.length i;have e2:=Paired.length m;omega
  ·have f:(mw c more).length<=ax:=aQ (m3 more c) y;have J:∃q,E.get? a=ae q:=let⟨q,_,_,L,_⟩:=n;⟨q,L⟩;exact⟨.non,_,Dc I (by rw[g];exact dH) G J (Gh f z (m.merge i) n),rfl,q⟩
def vP:GM:=λd ds M Q=>match d,ds with
 |.loc k,[.jR b c]=>∃a es,M[k]?=ae (ae (.jR a es))/\decide ((a++b).Nodup/\a.length+b.length<=1000)=aj/\Q .non (M.set k (ae (.jR (a++b) (es++c))))
 |_,_=>False
theorem K1{a c:List Key}{b us:List V}(h:a.length=b.length):(a++c).zip (b++us)=a.zip b++c.zip us:=by rw[List.zip_append h]
theorem EZ:JM X "dict.update" vP:=by
 refine⟨λd ds M P Q w q=>?_,λpins s σ H x xs v us Q I E rs h=>?_⟩
 ·match d,ds,q with
  |.loc k,[.jR e n],⟨c,es,f,i,q⟩=>exact⟨c,es,f,i,w _ _ q⟩
 ·obtain⟨F,α,M,d,ds,ok,r,j,h⟩:=h;match d,ds,h,r,j with
  |.loc k,[.jR e n],⟨c,es,f,i,q⟩,r,j=>
   obtain⟨nd,Y⟩:=of_decide_eq_true i;obtain⟨u,G,o⟩:=kQ j;subst G;unfold Rep at r o;obtain⟨a,m,rfl⟩:=r;obtain⟨b,ws,rfl,hb,lb,p⟩:=o;obtain⟨a',A,g,J,L,B⟩:=ok.own k _ f;rw[m] at A;cases A;have C:=Kz hb;have N:a≠b:=λz=>C.1 (by subst z;exact br _ (mz.mpr ⟨k,_,m,f⟩));have l1:=gp.length _ _ B;have l2:=gp.length _ _ p;have O:mw (c.zip g) (e.zip ws)=(c++e).zip (g++ws):=by rw[K1 (by omega)];refine qO _ _ ?_;rw[bE,List.map_fst_zip (by omega),List.map_fst_zip (by omega)];exact nd
   obtain⟨T,e2⟩:=ok.write (y:=.jR (c++e) (es++n)) (z:=.dK ((c++e).zip (g++ws))) f m λHh U=>by subst U;exact⟨g++ws,gH,by simp[L,lb],gp.append _ _ _ _ B p⟩
   refine EW pins s σ H _ _ v us Q I E rs ⟨a,b,_,_,rfl,rfl,N,J,C.2,?_,?_⟩
   ·rw[dj,dj];exact aQ (show min c.length g.length+min e.length ws.length<=1000 by omega) (by decide)
   ·rw[O];exact q _ α _ e2 T lY
end
end L3
namespace L3
open PySem PySem.Spec PyProof.Rows L2
section
variable {X:Cx}
def rR:G2:=λx y M Q=>match vw M x,vw M y with
 |.tup xs,.tup []=>Q (.bl xs.isEmpty) M
 |.lst xs,.lst []=>Q (.bl xs.isEmpty) M
 |_,_=>False
theorem yw(hu:X.A.units+1<eQ):JC X .Eq rR:=by
 refine⟨λx y M P Q w q=>?_,λpins s σ H x y v u Q I N O h=>?_⟩
 ·unfold rR at q ⊢;generalize vw M x=a at q ⊢;generalize vw M y=b at q ⊢;match a,b,q with
  |.tup xs,.tup [],q=>exact w _ _ q
  |.lst xs,.lst [],q=>exact w _ _ q
 ·obtain⟨F,α,M,Y,db,o,T,U,h⟩:=h;unfold rR at h;generalize e1:vw M Y=a at h;generalize e2:vw M db=b at h;match a,b,h,e1,e2 with
  |.tup xs,.tup [],h,e1,e2=>
   obtain⟨p,vs,rfl,i,m⟩:=lc o T e1;obtain⟨c,U5,rfl,z,f⟩:=lc o U e2;obtain rfl:v=aR p:=N;obtain rfl:u=aR c:=O;unfold gp at f;subst f;obtain⟨g9,B,it,_⟩:=I.tuple i;obtain⟨wL,C,E,_⟩:=I.tuple z;have G:=gp.length _ _ m;have J:=Paired.length B;cases C;have g:s.heap.IsTuple p g9.toArray:=it;have hb:s.heap.IsTuple c (List.toArray ([]:List af)):=E;refine PySem.SeqAt.eq_tupleAt (e:=λ_=>aj) g hb (by omega) (λj h1 L=>absurd L (by simp)) ⟨.bl _,H,I,rfl,?_⟩;have:((cG (min g9.toArray.size (List.toArray ([]:List af)).size)).all (λ_=>aj)&&g9.toArray.size==(List.toArray ([]:List af)).size)=xs.isEmpty:=by have l:xs.length=g9.length:=G.trans J;cases xs<;>cases g9<;>simp at l ⊢
   rw[this];exact vK.now o h iF
  |.lst xs,.lst [],h,e1,e2=>
   obtain⟨p,vs,rfl,i,m⟩:=jF o T e1;obtain⟨c,U5,rfl,z,f⟩:=jF o U e2;obtain rfl:v=aR p:=N;obtain rfl:u=aR c:=O;unfold gp at f;subst f;obtain⟨_,g9,n,B,e⟩:=I.iE p _ i;obtain⟨_,wL,n2,C,e2⟩:=I.iE c _ z;have G:=gp.length _ _ m;have J:=Paired.length B;cases C;have g:s.heap.IsList p g9.toArray:=⟨_,e,rfl,n,rfl⟩;have hb:s.heap.IsList c (List.toArray ([]:List af)):=⟨_,e2,rfl,n2,rfl⟩;have l:xs.length=g9.length:=G.trans J;cases xs with
   |nil=>
    cases g9 with
    |cons b t=>simp at l
    |nil=>exact PySem.SeqAt.eq_listAt (e:=λ_=>aj) g hb rfl (by omega) (λj h1 L=>absurd L (by simp)) ⟨.bl aj,H,I,rfl,vK.now o h iF⟩
   |cons a r=>
    cases g9 with
    |nil=>simp at l
    |cons b t=>exact PySem.SeqAt.eq_list_lengthsAt g hb (by simp) (by omega) ⟨.bl ao,H,I,rfl,vK.now o h iF⟩
end
end L3
namespace L3
open PySem PySem.Spec PyProof.Rows L2
section
variable {X:Cx} {x:av} {pos:cC} {a b:aS} {ta tb:DE}
def vQ (_ j:Int):Prop:=0<j/\j<18446744073709551616
theorem Hk:oP X (binaryOp .FloorDiv) (rI vQ λi j=>.int (i/j)):=VM λi j _ _ _ _ _ hc q=>by
 have e:(0:Int)<j:=hc.1;have f:j<18446744073709551616:=hc.2;refine floordiv_int (by omega) (by rw[Int.fdiv_eq_ediv_of_nonneg i (by omega)];exact q) (.inl (PyProof.noPylong_of_log2 ?_));have c:j.natAbs<2^64:=by omega
 have:=(Nat.log2_lt (by omega:j.natAbs≠0)).mpr c;omega
theorem rS:JO X .FloorDiv (gI vQ λi j=>.int (i/j)):=⟨Du,λpins s σ H x y v u Q I f g h=>by
 obtain⟨F,α,M,m,n,o,c,e,h⟩:=h;cases m<;>cases n<;>first|exact h.elim|skip
 unfold Rep at c e;exact Hk pins s σ H x y v u Q I f g ⟨_,_,c,e,h.1,vK.now o h.2 iI⟩⟩
def vR:GM:=λd ds M Q=>match d,ds with
 |.loc k,[y]=>∃es xs,M[k]?=ae (ae (.lst es))/\vw M y=.lst xs/\es.length+xs.length<=ax/\Q .non (M.set k (ae (.lst (es++xs))))
 |_,_=>False
theorem xE:JM X "list.extend" vR:=by
 refine⟨λd ds M P Q w q=>?_,λpins s σ H x xs v us Q I n rs h=>?_⟩
 ·match d,ds,q with
  |.loc k,[x],⟨es,xs,c,e,f,q⟩=>exact⟨es,xs,c,e,f,w _ _ q⟩
 ·obtain⟨F,α,M,d,ds,ok,r,g,h⟩:=h;match d,ds,h,r,g with
  |.loc k,[y],⟨es,xs,c,e,f,q⟩,r,g=>
   obtain⟨a,i,rfl,o,j,p⟩:=yr ok r c;obtain⟨u,z,A⟩:=kQ g;subst z;obtain⟨b,ws,rfl,B,m⟩:=jF ok A e;obtain⟨C,e2⟩:=p (es++xs) (i++ws) (gp.append _ _ _ _ j m);exact EE pins s σ H _ _ v us Q I n rs ⟨a,b,i,ws,rfl,rfl,o,B,by rw[<-gp.length _ _ j,<-gp.length _ _ m];exact f,q _ α _ e2 C lY⟩
end
end L3
namespace L3
open PySem PySem.Spec PyProof.Rows L2
section
variable {X:Cx} {tg:aS} {a b c:aS} {tt:DA} {p pos:cC}
end
end L3
namespace L3
open PySem PySem.Spec PyProof.Rows L2
section
variable {X:Cx} {x:av} {pos p ur:cC} {e o i:aS} {te to ti tv:DE} {op:aaq}
end
end L3
namespace L3
open PySem PySem.Spec PyProof.Rows L2
section
variable {X:Cx} {x:av} {pos p ur:cC} {e o i:aS} {te to ti tv:DE} {op:aaq}
end
end L3
namespace L3
open PySem PySem.Spec PyProof.Rows L2
noncomputable def leS(a b:av):Bool:=!decide (b.cps.toList<a.cps.toList)
section
variable {β:Type}
end
end L3
namespace L2
open PySem PySem.Spec PyProof.Rows
section
variable {prog:aw} {w:aN} {A:aH} {E:af->ah->Prop} {s:ah}
end
section
variable {prog:aw} {w:aN} {A:aH} {E:af->ah->Prop} {s:ah} {aac:Array Keyed} {κ:PyProof.Rows.KeyKind}
end
def Na (ss:List av):Prop:=ss.length<64\/(2<=ss.length/\ss.length<=1000/\ss.Pairwise λa b=>L3.leS a b=aj)
theorem Na.l{ss:List av}(h:Na ss):ss.length<=1000:=by rcases h with h|h<;>omega
section
variable {X:Cx}
end
end L2
namespace L3
open PySem PySem.Spec PyProof.Rows L2
section
variable {X:Cx}
theorem xF{K:W.Frag}{α:List ai}{H:Hp}:∀{ss:List av} {a:List V},gp K α H (ss.map D.str) a->a=ss.map V.str
 |[],a,h=>by unfold gp at h;exact h
 |x::ss,a,h=>by unfold List.map gp at h;obtain⟨v,r,rfl,z,y⟩:=h;unfold Rep at z;rw[z,xF y];rfl
end
end L3
namespace L2
open PySem PySem.Spec PyProof.Rows
section
variable {prog:aw} {w:aN} {A:aH} {E:af->ah->Prop} {s:ah}
end
end L2
namespace L2
open PySem PySem.Spec PyProof.Rows
section
variable {X:Cx} {p pos p2 Ph:cC} {e:aS} {te:TE}
end
end L2
namespace L3
open PySem PySem.Spec PyProof.Rows L2
section
variable {X:Cx} {p pos p2 Ph:cC} {e:aS} {te:DE}
end
end L3
namespace L2
open PySem PySem.Spec PyProof.Rows
section
variable {prog:aw} {w:aN} {κ:Type} [DecidableEq κ] {knd:PySem.KeyKind prog w κ} {A:aH} {E:af->ah->Prop} {s:ah} {d:ai} {gM:List (κ×af)} {k:κ} {key v:af}
end
section
variable {X:Cx}
end
end L2
namespace L3
open PySem PySem.Spec PyProof.Rows L2
section
variable {X:Cx}
end
end L3
namespace L2
open PySem PySem.Spec PyProof.Rows
section
variable {prog:aw} {w:aN} {A:aH} {E:af->ah->Prop} {s:ah}
end
end L2
namespace L2
open PySem PySem.Spec PyProof.Rows
section
variable {prog:aw} {w:aN} {κ:Type} [DecidableEq κ] {knd:PySem.KeyKind prog w κ} {A:aH} {E:af->ah->Prop} {s:ah}
end
end L2
namespace L2
open PySem PySem.Spec PyProof.Rows
section
variable {X:Cx}
end
end L2
namespace L3
open PySem PySem.Spec PyProof.Rows L2
section
variable {X:Cx}
end
end L3
namespace L2
open PySem PySem.Spec PyProof.Rows
section
variable {P:aw} {w:aN} {A:aH} {E:af->ah->Prop} {H:Hp} {fs:List ai}
structure Cq(P:aw)(w:aN)(fs:List ai)(H:Hp)(s s':ah):Prop where
 os:s'.os=s.os
 bare:eN s'.gens
 iE:oY P w H s'.heap
 un:Un fs [] H H s.heap s'.heap
theorem Cq.at{s s1:ah}{b:ai}{o:bR}(c:Cq P w fs H s s1)(e:s.heap.get? b=ae o)(n:H b=aq)(hb:b∉fs):s1.heap.get? b=ae o:=c.un.keep b o e n hb (by simp)
section
variable {s0 s:ah} {a kS:ai} {vs:List af} {ss:List av} {keys:Array af} {e e1:Nat} {Pq:PySem.Fin->ah->Prop}
end
end
end L2
namespace L2
open PySem PySem.Spec PyProof.Rows
section
variable {P:aw} {w:aN} {A:aH} {E:af->ah->Prop} {H:Hp} {fs:List ai} {s0 s:ah} {a kS:ai} {vs:List af} {ss:List av} {e1:Nat} {Pq:PySem.Fin->ah->Prop} {f:af}
end
end L2
namespace L2
open PySem PySem.Spec PyProof.Rows PySem.W
structure WV(base:az)(mg:av->Option af)(cd:af)(c P:ai):Prop where
 cd:cd=.ref c
 hd:CodeHd base c P
 bl:base.BuiltinsAt mg P
 gP:bc≠P
section
variable {X:Cx} {pins:List (ai×bR)} {σ:L2.St} {H:Hp} {s:ah} {A:aH} {E:af->ah->Prop} {c P:ai} {ps:Array af} {params:JZ} {body:aS} {scope:b6} {pos:cC} {Q:af->ah->Prop}
end
end L2
namespace L2
open PySem PySem.Spec PyProof.Rows PySem.W
section
variable {P:aw} {w:aN} {K:W.Frag} {mg:av->Option af} {base:az} {A:aH} {outer:List d4} {s:ah} {H:Hp} {f c:ai} {x qual:av} {params:JZ} {body:aS} {scope:b6} {pm ctv:af} {t:TE} {u:af} {v:V} {Q:VK} {k:Nat}
end
section
variable {K:W.Frag} {H H':Hp}
def yx (K:W.Frag)(H:Hp):List V->List av->Prop
 |[],[]=>True
 |y::b,k::c=>(∃a zs,y=.ref a/\t9 K H a (.str k::zs))/\yx K H b c
 |_,_=>False
theorem yx.length:∀{a:List V} {b:List av},yx K H a b->a.length=b.length
 |[],[],_=>rfl
 |[],_::_,h=>h.elim
 |_::_,[],h=>h.elim
 |_::a,_::b,h=>by rw[aM,aM,yx.length h.2]
theorem MS.keep{P:ai}{q:av}(t:MS P q H H')(a:∃ps,H P=ae (.BG ps)){b:ai}{o:HO}(e:H b=ae o)(n:∀ps,o≠.BG ps):H' b=ae o:=by
 obtain⟨ps,a⟩:=a;rcases t.2 with h|⟨c,f,hc,g,h⟩
 ·rw[h];exact e
 ·rw[h,gy (λz=>by rw[z,a] at e;exact n ps (bq e).symm),gy (λz=>by rw[z,hc] at e;cases e)];exact e
end
section
variable {X:Cx} {c P:ai} {e:aS} {te:TE} {p pos WW R0 np sp cp:cC} {params:JZ} {scope:b6} {x:av} {k j:Nat}
end
end L2
namespace L3
open PySem PySem.Spec PyProof.Rows L2
section
variable {K:W.Frag} {α:List ai} {H:Hp}
end
section
variable {X:Cx} {c P:ai} {e:aS} {te:DE} {p pos WW R0 np sp cp:cC} {params:JZ} {scope:b6} {x:av} {k j:Nat}
structure aad(X:Cx):Prop where
 ex:∃c P,W.tabIn X.K "by_name"=ae (c,P)/\WV X.base X.mg X.env.code c P
 q:X.env.qual++"<lambda>"=Sx "by_name"
end
end L3
namespace L3
open PySem PySem.Spec PyProof.Rows L2
structure WX(K:W.Frag)(mg:av->Option af)(base:az):Prop where
 JD:K.In base
 glob:base.Ns bc mg
 tab:∃c P,W.tabIn K "by_name"=ae (c,P)/\W.CodeHd base c P/\base.BuiltinsAt mg P/\bc≠P
section
variable {P:aw} {w:aN} {K:W.Frag} {mg:av->Option af} {base:az}
end
end L3
namespace L3
open PySem PySem.Spec PyProof.Rows L2
end L3
namespace L2
open PySem PySem.Spec PyProof.Rows
section
variable {X:Cx}
end
end L2
namespace L3
open PySem PySem.Spec PyProof.Rows L2
section
variable {X:Cx}
end
end L3
namespace L2
open PySem PySem.Spec PyProof.Rows
section
variable {X:Cx}
end
end L2
namespace L3
open PySem PySem.Spec PyProof.Rows L2
section
variable {X:Cx}
end
end L3
namespace L2
open PySem PySem.W PyProof.Rows
section
variable {n:Nat} {f:Nat->Nat->Bool} {p:Array Nat}
structure Ord(n:Nat)(f:Nat->Nat->Bool):Prop where
 tr:∀i j k,f i j=aj->f j k=aj->f i k=aj
 tot:∀i j,i<n->j<n->i≠j->f i j=ao->f j i=aj
structure Row(n:Nat)(p:Array Nat):Prop where
 sz:p.size=n
 pm:p.toList.Perm (cG n)
end
end L2
namespace L2
open PySem PySem.Spec PyProof.Rows PySem.W
section
variable {prog:aw} {w:aN} {A:aH} {E:af->ah->Prop} {s:ah}
end
section
variable {X:Cx}
end
end L2
namespace L3
open PySem PySem.Spec PyProof.Rows L2
section
variable {X:Cx}
end
end L3
namespace L2
open PySem PySem.Spec PyProof.Rows
section
variable {X:Cx} {o:aS} {to:TE} {apos iz ur:cC} {elts:List aS} {n:Nat}
end
end L2
namespace L3
open PySem PySem.Spec PyProof.Rows L2
section
variable {X:Cx}
end
end L3
namespace L2
open PySem PySem.Spec PyProof.Rows
section
variable {prog:aw} {w:aN} {A:aH} {E:af->ah->Prop} {s:ah} {a b:ai} {K:Type} [DecidableEq K] {knd:PySem.KeyKind prog w K} {vs ws:List (K×af)}
end
end L2
namespace L3
open PySem PySem.Spec PyProof.Rows L2
section
variable {X:Cx}
end
end L3
namespace L3
open PySem PySem.Spec PyProof.Rows L2
section
variable {X:Cx}
end
end L3
namespace L2
open PySem PySem.Spec PyProof.Rows
section
variable {prog:aw} {w:aN} {A:aH} {E:af->ah->Prop} {s:ah}
end
section
variable {X:Cx} {pos:cC}
end
end L2
namespace L3
open PySem PySem.Spec PyProof.Rows L2
section
variable {X:Cx} {pos:cC}
end
end L3
namespace L2
open PySem PySem.Spec PyProof.Rows
section
variable {X:Cx} {o:aS} {to:TE} {apos iz:cC} {tg:aS}
end
end L2
namespace L3
open PySem PySem.Spec PyProof.Rows L2
section
variable {X:Cx}
end
end L3
namespace L3
open PySem PySem.Spec PyProof.Rows L2
section
variable {K:W.Frag} {F α:List ai} {H:Hp} {M:Ms}
end
end L3
namespace L3
open PySem PySem.Spec PyProof.Rows L2
section
variable {X:Cx}
def xG:GM:=λd ds M Q=>match vw M d,ds with
 |.jR b es,[k]=>∃a,B1 k=ae a/\Q ((qm a b es).getD .non) M
 |.jR b es,[k,x]=>∃a,B1 k=ae a/\Q ((qm a b es).getD x) M
 |_,_=>False
theorem Pj(o:X.A.units+1<eQ):JM X "dict.get" xG:=by
 refine⟨λd ds M P Q w q=>?_,λpins s σ H x xs v us Q I L rs h=>?_⟩
 ·unfold xG at q ⊢;generalize vw M d=a at q ⊢;split at q<;>first
   |exact q.elim
   | (obtain⟨k,i,b⟩:=q;exact⟨k,i,w _ _ b⟩)
 ·obtain⟨F,α,M,d,ds,ok,r,N,h⟩:=h;unfold xG at h;generalize e1:vw M d=a at h;split at h<;>first|exact h.elim|skip
  ·obtain⟨j,i,b⟩:=h;obtain⟨a,p,rfl,m,u,z⟩:=pz ok r e1;obtain⟨B,rfl,C⟩:=kQ N;cases nA C i;obtain rfl:v=aR a:=L;obtain⟨B,rfl,n⟩:=vals1 rs;have g:=pC (k:=j) _ _ p z u;cases e:qm j _ _ with
   |none=>
    rw[e] at b;refine Gk o I (nq.kr m) n λE s3 c f=>⟨_,H,c,f,?_⟩;rw[g.2 e];exact vK.now ok b lY
   |some y=>
    rw[e] at b;obtain⟨T,G,J⟩:=g.1 y e;refine Gk o I (nq.kr m) n λE s3 c f=>⟨_,H,c,f,?_⟩;rw[G];exact vK.now ok b J
  ·obtain⟨j,i,b⟩:=h;obtain⟨a,p,rfl,m,u,z⟩:=pz ok r e1;obtain⟨B,U,rfl,C,Y⟩:=xx N;cases nA C i;obtain rfl:v=aR a:=L;obtain⟨B,U,rfl,n,O⟩:=vals2 rs;have g:=pC (k:=j) _ _ p z u;cases e:qm j _ _ with
   |none=>
    rw[e] at b;refine Gm o I (nq.kr m) n O λE s3 c f=>⟨_,H,c,f,?_⟩;rw[g.2 e];exact vK.now ok b Y
   |some y=>
    rw[e] at b;obtain⟨T,G,J⟩:=g.1 y e;refine Gm o I (nq.kr m) n O λE s3 c f=>⟨_,H,c,f,?_⟩;rw[G];exact vK.now ok b J
def As:GN:=λds M Q=>match ds with
 |[.int i]=>Q (.int i) M
 |[.bl b]=>Q (.int (if b then 1 else 0)) M
 |_=>False
theorem Hl:JB X (.type "int") As:=by
 refine⟨λds M P Q w q=>?_,λpins s σ H xs us Q I rs h=>?_⟩
 ·unfold As at q ⊢;split at q<;>first|exact q.elim|exact w _ _ q
 ·obtain⟨F,α,M,ds,o,b,h⟩:=h;unfold As at h;split at h<;>first|exact h.elim|skip
  ·obtain⟨v,rfl,a⟩:=kQ b;unfold Rep at a;subst a;exact w9 pins s σ H _ us Q I rs (.inl ⟨_,rfl,vK.now o h iI⟩)
  ·obtain⟨v,rfl,a⟩:=kQ b;unfold Rep at a;subst a;exact w9 pins s σ H _ us Q I rs (.inr ⟨_,rfl,vK.now o h iI⟩)
end
end L3
namespace L2
end L2
namespace L3
open PySem PySem.Spec PyProof.Rows L2
section
variable {X:Cx}
end
end L3
namespace L2
open PySem PySem.Spec PyProof.Rows
section
variable {prog:aw} {w:aN} {κ:Type} [DecidableEq κ] {knd:PySem.KeyKind prog w κ} {A:aH} {E:af->ah->Prop} {s:ah}
end
section
variable {X:Cx}
end
end L2
namespace L3
open PySem PySem.Spec PyProof.Rows L2
section
variable {X:Cx}
end
end L3
namespace L2
open PySem PySem.Spec PyProof.Rows
section
variable {X:Cx}
end
end L2
namespace L3
open PySem PySem.Spec PyProof.Rows L2
section
variable {X:Cx}
end
end L3
namespace L3
open PySem PySem.Spec PyProof.Rows L2
section
variable {X:Cx} {pos:cC} {keys:List (Option aS)} {values:List aS} {ts:List (DE×DE)}
end
section
variable {X:Cx}
end
end L3
namespace L3
open PySem PySem.Spec PyProof.Rows L2
section
variable {K:W.Frag}
end
end L3
namespace L2
open PySem PySem.Spec PyProof.Rows
section
variable {prog:aw} {w:aN} {A:aH} {E:af->ah->Prop} {s:ah} {a b:ai} {K:Type} [DecidableEq K] {knd:PySem.KeyKind prog w K} {vs ws:List (K×af)}
end
end L2
namespace L3
open PySem PySem.Spec PyProof.Rows L2
section
variable {X:Cx}
end
end L3
namespace L2
open PySem PySem.Spec PyProof.Rows
section
variable {X:Cx} {e st:aS} {te:TE} {ts:TO} {p2 pos:cC}
end
end L2
namespace L3
open PySem PySem.Spec PyProof.Rows L2
section
variable {X:Cx} {e st:aS} {te:DE} {ts:DO} {p2 pos:cC}
end
end L3
namespace L2
open PySem PySem.Spec PyProof.Rows
section
variable {prog:aw} {w:aN} {A:aH} {E:af->ah->Prop} {s:ah}
noncomputable def WY(w:aN):Bool:=w.params.followText "set-order"
def WZ (w:aN)(n:Nat)(t:aa0):Prop:=t.led=!WY w/\(n=0\/t.plain=ao)
def At (prog:aw)(w:aN)(h:az)(a:ai)(S:av->Bool)(n:Nat):Prop:=
 ∃o es b t,h.get? a=ae o/\o.ExactSet/\o.data=.set es b t/\ElemsOf (PySem.strKind prog w) es.toList/\(∀k,S k=aj↔∃e∈es.toList,(PySem.strKind prog w).is k e.2=aj)
  /\es.size<scanBound/\t.fits es.size=aj/\es.size=n/\WZ w n t
end
end L2
namespace L2
open PySem PySem.Spec PyProof.Rows
section
variable {prog:aw} {w:aN} {A:aH} {E:af->ah->Prop} {s:ah}
end
end L2
namespace L2
open PySem PySem.Spec PyProof.Rows
section
variable {prog:aw} {w:aN} {A:aH} {E:af->ah->Prop} {s:ah}
def Tf (h:az)(it:ai)(fst:af)(i:Nat)(a:af)(n b:Nat):Prop:=
 ∃o,h.get? it=ae o/\o.cls=.type "set_iterator"/\o.data=.fields #[fst,.int i 0,a,.int n 0,.int b 0]
theorem Tf.ty{it:ai}{fst a:af}{i n b:Nat}(x:Tf s.heap it fst i a n b):s.TypeIs (.ref it) "set_iterator":=by obtain⟨o,c,hc,_⟩:=x;exact⟨o,c,hc⟩
def Tg (h:az)(a:ai)(es:Array (Int×af))(b:Nat)(t:aa0):Prop:=∃o,h.get? a=ae o/\o.ExactSet/\o.data=.set es b t
end
end L2
namespace L2
open PySem PySem.Spec PyProof.Rows
section
variable {prog:aw} {w:aN} {A:aH} {E:af->ah->Prop} {s:ah}
end
end L2
namespace L2
open PySem PySem.Spec PyProof.Rows
section
variable {prog:aw} {w:aN} {A:aH} {E:af->ah->Prop} {s:ah}
end
end L2
namespace L2
open PySem PySem.Spec PyProof.Rows
section
variable {prog:aw} {w:aN} {A:aH} {E:af->ah->Prop} {s:ah}
theorem Tg.ty{a:ai}{es:Array (Int×af)}{b:Nat}{t:aa0}(x:Tg s.heap a es b t):s.TypeIs (.ref a) "set":=by obtain⟨o,c,e,_⟩:=x;exact⟨o,c,e.1⟩
theorem Tg.at{h b:az}{a:ai}{es:Array (Int×af)}{c:Nat}{t:aa0}(x:Tg h a es c t)(k:∀o,h.get? a=ae o->b.get? a=ae o):Tg b a es c t:=by obtain⟨o,e,f⟩:=x;exact⟨o,k _ e,f⟩
theorem Tf.at{h a:az}{it:ai}{fst b:af}{i n c:Nat}(x:Tf h it fst i b n c)(k:∀o,h.get? it=ae o->a.get? it=ae o):Tf a it fst i b n c:=by obtain⟨o,e,f⟩:=x;exact⟨o,k _ e,f⟩
end
end L2
namespace L2
open PySem PySem.Spec PyProof.Rows
section
variable {prog:aw} {w:aN} {A:aH} {E:af->ah->Prop} {s:ah}
end
end L2
namespace L2
open PySem PySem.Spec PyProof.Rows
section
variable {prog:aw} {w:aN} {A:aH} {E:af->ah->Prop} {s:ah}
end
end L2
namespace L2
open PySem PySem.Spec PyProof.Rows
section
variable {prog:aw} {w:aN} {A:aH} {E:af->ah->Prop} {s:ah}
theorem At.ty{a:ai}{S:av->Bool}{n:Nat}(x:At prog w s.heap a S n):s.TypeIs (.ref a) "set":=by obtain⟨o,es,e,t,b,c,_⟩:=x;exact⟨o,b,c.1⟩
theorem At.at{h b:az}{a:ai}{S:av->Bool}{n:Nat}(x:At prog w h a S n)(k:∀o,h.get? a=ae o->b.get? a=ae o):At prog w b a S n:=by obtain⟨o,es,c,t,e,r⟩:=x;exact⟨o,es,c,t,k _ e,r⟩
end
end L2
namespace L2
open PySem PySem.Spec PyProof.Rows
section
variable {prog:aw} {w:aN} {A:aH} {E:af->ah->Prop} {s:ah}
end
section
variable {X:Cx} {p pos p2 Ph:cC} {e:aS} {te:TE}
end
end L2
namespace L3
open PySem PySem.Spec PyProof.Rows L2
section
variable {X:Cx} {p pos p2 Ph:cC} {e:aS} {te:DE}
end
end L3
namespace L2
open PySem PySem.Spec PyProof.Rows
def Rec (h:az)(e:ai)(cls:af)(od:Option ai)(T:ai):Prop:=
 ∃a b c f,h.get? e=ae a/\a.cls=cls/\a.dict=od/\a.data=.fields b/\b[1]?=ae (.ref T)/\T≠e/\h.get? T=ae c/\c.data=.fields f/\f[3]?=ae .none
def E1 (h:az)(e:ai)(cls:af)(od:Option ai):Prop:=∃a,h.get? e=ae ⟨cls,od,.fields #[a,.none,.none,.none,.bool ao,.none],#[]⟩
def E2 (S R:List ai)(h a:az):Prop:=∀b o,h.get? b=ae o->b∉R->(b∉S->a.get? b=ae o)/\∃sl,a.get? b=ae {o with slots:=sl}
section
variable {M:aaE} {A:aH} {E:af->ah->Prop} {s:ah}
theorem vS(f:Array af->Array af)(o:bR):(ci f o).dict=o.dict:=by unfold ci;split<;>rfl
theorem Hm{base:az}{env:d4}{outer:List d4}{L e:ai}{g:bR}{n:Array af}{head:af}{J:Bool}{Q:Unit->ah->Prop}
(N:A.frames=ae (env::outer))(w:s.heap.FunFrames base (env::outer))(O:env.frame=ae L)
(y:s.heap.get? e=ae g)(hd:g.data=.fields n)(p:1<n.size)
(h:∀q T,s.heap.objs.size<=T->Rec q e g.cls g.dict T->E2 (oV (env::outer)) [e] s.heap q->Q () {s with heap:=q}):
  wpAny M A (do let a<-frameOf env;let pl<-entryPlaceOf L J;let b<-EntryCells.newEntry head a .none (eg L) .none pl;setField (.ref e) 1 b) (λ_ U=>wpAny M A (aaz (.ref e) aq) Q E U) E s:=by
 have Y:e∉(env::outer).filterMap (·.frame):=λhm=>by obtain⟨_,o,i,Th⟩:=w.mem hm;rw[y] at i;injection i with i;subst i;exact Th n hd
 refine ag (wpAny_frameOf_fun N w O λc j=>?_);refine ag (wpAny_entryPlaceOf λpl B=>?_);unfold EntryCells.newEntry newFields;refine ag (cL ?_ (B.sizeOk5 _ _ _ _ _));have C:c.get? e=ae g:=(j.2.1 e Y).trans y;have G:=ar (h:=c) {cls:=.type "traceback",dict:=aq,data:=.fields ([head,.ref L,.none,eg L,.none]++(if pl.isEmpty then ba 6 bW else pl)).toArray} C;refine eC G hd p ?_;have r:c.objs.size≠e:=eP (aP C);have u:=cD hd (·.setIfInBounds 1 (aR c.objs.size));have H:=cA (ci (·.setIfInBounds 1 (aR c.objs.size))) G (dA u);have I:=(bZ (c.push {cls:=.type "traceback",dict:=aq,data:=.fields ([head,.ref L,.none,eg L,.none]++(if pl.isEmpty then ba 6 bW else pl)).toArray})
  (ci (·.setIfInBounds 1 (aR c.objs.size))) (b4 r)).trans (bg c rfl)
 unfold aaz;refine ag (b5 H u (x:=.ref c.objs.size) (by simp[p]) ?_);rw[if_pos (show(aR c.objs.size !=bW)=aj from by simp)];have keep:∀b o,b≠e->c.get? b=ae o->
   (((c.push {cls:=.type "traceback",dict:=aq,data:=.fields ([head,.ref L,.none,eg L,.none]++(if pl.isEmpty then ba 6 bW else pl)).toArray}).update e (ci (·.setIfInBounds 1 (aR c.objs.size)))).update c.objs.size
    (ci (·.setIfInBounds 3 ((aq:Option ai).elim bW λf=>eg f)))).get? b=ae o:=λb o m hb=>by have v:c.objs.size≠b:=eP (aP hb);rw[bZ _ _ v,bZ _ _ (b4 m)];exact ar _ hb
 refine eC I rfl (by simp only [aV,ay,aM,bC]<;>omega) (h _ c.objs.size ?_ ?_ λb o hb hn=>?_)
 ·exact Nat.le_of_eq j.1.symm
 ·refine⟨_,_,_,_,?_,bR.cls_mapFields _ _,vS _ _,u,by simp[p],r,cA _ I (dA (cD rfl _)),cD rfl _,by first|(simp;done)|(rcases B with rfl|⟨_,_,_,_,_,_,_,rfl⟩<;>simp)⟩;rw[bZ _ _ r];exact H
 ·have m:b≠e:=λz=>hn (by simp[z]);obtain⟨sl,hs⟩:=j.2.2 b o hb;exact⟨λhS=>keep b o m ((j.2.1 b hS).trans hb),sl,keep b _ m hs⟩
theorem Au{base:az}{env:d4}{outer:List d4}{L e:ai}{cls:af}{od:Option ai}{Q:Unit->ah->Prop}
(f:A.frames=ae (env::outer))(g:s.heap.FunFrames base (env::outer))(b:env.frame=ae L)(i:E1 s.heap e cls od)
(h:∀a T,s.heap.objs.size<=T->Rec a e cls od T->E2 (oV (env::outer)) [e] s.heap a->Q () {s with heap:=a}):wpAny M A (leaving env (.ref e)) Q E s:=by obtain⟨j,c⟩:=i;unfold leaving aay;simp only [b];refine ag (ag (b5 c rfl (x:=.none) rfl ?_));rw[if_neg (by decide)];exact Hm f g b c rfl (by show 1<6;decide) h
theorem E3{base:az}{env:d4}{outer:List d4}{L e a:ai}{cls:af}{od:Option ai}{Q:Unit->ah->Prop}
(w:A.frames=ae (env::outer))(y:s.heap.FunFrames base (env::outer))(m:env.frame=ae L)(f:Rec s.heap e cls od a)
(h:∀c T,s.heap.objs.size<=T->Rec c e cls od T->E2 (oV (env::outer)) [e,a] s.heap c->Q () {s with heap:=c}):wpAny M A (aay (.ref e) env) (λ_ B=>wpAny M A (aaz (.ref e) aq) Q E B) E s:=by
 obtain⟨J,n,N,C,p,rfl,rfl,hd,r,G,g,i,u⟩:=f;unfold aay;simp only [m];refine ag (b5 p hd r ?_);rw[if_pos (show(aR a !=bW)=aj from by simp)];refine ag (b5 g i u ?_);rw[if_neg (show¬((bW==eg L)=aj) from by simp[eg])];refine ag (eC g i (cr.mp u).1 ?_);have other:∀b,b≠a->(s.heap.update a (ci (·.setIfInBounds 3 bW))).get? b=s.heap.get? b:=λb hb=>bZ _ _ (b4 hb);have H:∀b o,s.heap.get? b=ae o->(∀n,o.data≠.fields n)->b≠a:=λb o hb j q=>by rw[q,g] at hb;injection hb with hb;subst hb;exact j C i
 refine Hm (s:={s with heap:=s.heap.update a (ci (·.setIfInBounds 3 bW))}) w (y.of_keeps λb o hb j=>⟨o,(other b (H b o hb j)).trans hb,rfl⟩) m ((other e (b4 G)).trans p) hd (cr.mp r).1
  λc T hn f I=>h c T ?_ f λb o hb v=>?_
 ·have e:=az.size_after_update s.heap a (ci (·.setIfInBounds 3 bW));have hn:(s.heap.update a (ci (·.setIfInBounds 3 bW))).objs.size<=T:=hn;rw[e] at hn;exact hn
 ·exact I b o ((other b λz=>v (by simp[z])).trans hb) λz=>v (by simp at z;simp[z])
end
end L2
namespace L2
open PySem PySem.Spec PyProof.Rows
theorem iD.there{P:aw}{w:aN}{H:Hp}{h:az}{a:ai}{o:HO}(x:iD P w H h a o):∃ob,h.get? a=ae ob:=by
 cases o with
 |lst xs=>obtain⟨_,_,_,_,e⟩:=x;exact⟨_,e⟩
 |tup xs=>obtain⟨_,_,_,o,e,_⟩:=x;exact⟨_,e⟩
 |dK b=>obtain⟨_,_,_,_,o,_,_,e,_⟩:=x;exact⟨_,e⟩
 |dT b=>obtain⟨_,_,_,_,o,_,_,e,_⟩:=x;exact⟨_,e⟩
 |set S n=>obtain⟨o,_,_,_,e,_⟩:=x;exact⟨_,e⟩
 |ins C c fs=>obtain⟨_,_,_,e,_⟩:=x;exact⟨_,e⟩
 |own y=>exact x
 |xd fs=>obtain⟨_,⟨_,_,_,e,_⟩,_⟩:=x;exact⟨_,e⟩
 |UA lo hi=>obtain⟨_,_,_,e⟩:=x;exact⟨_,e⟩
 |oX ob u=>obtain⟨e,_⟩:=x;exact⟨_,e⟩
 |BG ps=>exact⟨_,(show h.get? a=ae _ from x)⟩
 |dE g b=>obtain⟨_,_,_,_,o,_,e,_⟩:=x;exact⟨_,e⟩
 |xc C fs=>obtain⟨_,_,e,_⟩:=x;exact⟨_,e⟩
 |met f y=>exact⟨_,(show h.get? a=ae _ from x)⟩
 |ext i=>obtain⟨_,e,_⟩:=x;exact e
theorem oY.none{P:aw}{w:aN}{H:Hp}{h:az}{a:ai}(x:oY P w H h)(e:h.get? a=aq):H a=aq:=by
 cases q:H a with
 |none=>rfl
 |some o=>obtain⟨ob,g⟩:=(x a o q).there;rw[e] at g;cases g
section
variable {X:Cx} {pins:List (ai×bR)} {σ:St} {H:Hp} {s:ah} {h':az}
theorem Inv.Y5(I:Inv X pins σ H s){b:ai}(hb:b∈oV X.stack):H b=aq:=by
 rcases aE.mp (I.qC b hb) with z|z
 ·rw[z];exact I.free
 ·obtain⟨_,o,a,_⟩:=I.ok.qB.mem z;exact I.base.free b o a (I.ok.Jj b z) λq=>I.ok.BH b q z
theorem Inv.left(I:Inv X pins σ H s)(hex:X.ex=[]){R:List ai}(h:∀b∈R,X.ib.heap.get? b=aq/\H b=aq)(c:E2 (oV X.stack) R s.heap h'):
  Un X.fs [] X.il H X.ib.heap h'/\oY X.prog X.w H h':=by
 have nx:∀b,b∉X.ex:=λb z=>by rw[hex] at z;cases z
 have f:∀b o,X.ib.heap.get? b=ae o->b∉R:=λb o e z=>by rw[(h b z).1] at e;cases e
 refine⟨⟨λb o e n hb _=>?_,λb o e n hb _=>?_,λb o e n _=>I.base.free b o e n (nx b),λb o e _=>?_,I.base.jU,I.base.pd,I.base.qA⟩,λa o e=>?_⟩
 ·refine(c b o (I.base.keep b o e n hb (nx b)) (f b o e)).1 λz=>?_;rcases aE.mp (I.qC b z) with q|q
  ·have:=aP e;rw[q] at this;exact absurd (aT this I.ok.above) (cu _)
  ·exact hb q
 ·obtain⟨sl,q⟩:=I.base.slot b o e n hb (nx b);obtain⟨i,g⟩:=(c b _ q (f b o e)).2;exact⟨i,g⟩
 ·obtain⟨j,q⟩:=I.base.there b o e (nx b);obtain⟨i,g⟩:=(c b _ q (f b o e)).2;exact⟨_,g⟩
 ·refine(I.iE a o e).qi (λb u hb q=>?_) (λ_ q=>q) λ_ _ q=>q;have hn:H b≠aq:=by
   rcases hb with rfl|hb
   ·rw[e];exactλz=>by cases z
   ·rw[hb];exactλz=>by cases z
  exact(c b u q λz=>hn (h b z).2).1 λz=>hn (I.Y5 z)
end
def K4 (P:aw)(w:aN):xZ:=λouter H s E e a=>∃x C od b T,e=.ref x/\a.os=s.os/\eN a.gens/\Un (oV outer) [] H b s.heap a.heap/\oY P w b a.heap/\
 Rec a.heap x C od T/\s.heap.objs.size<=x/\s.heap.objs.size<=T/\b x=aq/\b T=aq/\E C od b
section
variable {P:aw} {w:aN} {K:W.Frag} {mg:av->Option af} {base:az} {N:List av} {qual:av} {scope:b6} {f:ai} {cd:af} {A:aH} {outer:List d4} {ib:ah} {il:Hp} {E:XK}
abbrev vT(P:aw)(w:aN)(K:W.Frag)(mg:av->Option af)(base:az)(N:List av)(qual:av)(scope:b6)(f:ai)(cd:af)(A:aH)(outer:List d4)(s:ah)(H:Hp)(E:XK):Cx:=qj (K4 P w) P w K mg base N qual scope f cd A outer s H E
theorem Inv.Pk{X:Cx}{pins:List (ai×bR)}{σ:St}{H:Hp}{s:ah}(I:Inv X pins σ H s):X.ib.heap.objs.size<=s.heap.objs.size:=by obtain⟨m,⟨o,es,b,a,_⟩,_⟩:=I.loc;exact Nat.le_of_lt (c8 I.ok.above (aP a))
theorem Hq{pins:List (ai×bR)}{σ:St}{H:Hp}{s:ah}{x:ai}{C:af}{od:Option ai}(I:Inv (vT P w K mg base N qual scope f cd A outer ib il E) pins σ H s)
(g:E1 s.heap x C od)(a:ib.heap.objs.size<=x)(c:H x=aq)(h:E C od H):(vT P w K mg base N qual scope f cd A outer ib il E).xe (.ref x) s:=by refine Au (base:=base) I.ok.frames I.stack rfl g λm T e i j=>?_;obtain⟨u,iE⟩:=I.left rfl (R:=[x]) (λb hb=>by cases aZ.mp hb;exact⟨fN a,c⟩) j;exact⟨x,C,od,H,T,rfl,I.os,I.bare,u,iE,i,a,aQ I.Pk e,c,I.iE.fresh e,h⟩
end
end L2
namespace L2
open PySem PySem.Spec PyProof.Rows PySem.W PySem.Calls Builtin
section
variable {prog:aw} {w:aN} {A:aH} {R:aaH->ah->Prop} {h:az} {g:Array aap} {d:aa8} {t:Nat} {os:abg}
variable {nm q:av} {C N f:ai} {bs bm Pn:List af} {kT:Bool} {sn:List av} {sub:List af} {ab:Bool} {col:Option Bool} {dd:Option ai} {k0 k1 k2 k3 k5:Option af} {B newId tE:String}
abbrev lR(C t:ai):bR:={cls:=.ref C,data:=.fields #[.ref t,.none,.none,.none,.bool ao,.none]}
abbrev mE(us:List af):bR:={cls:=.type "tuple",data:=.seq us.toArray}
theorem Hr(F:aau B newId tE Pn)(T:OwnTail h Pn bm){rest:List af}
(c:h.get? C=ae (dP nm q C N bs bm kT sn sub ab col dd k0 k1 k2 k3 k5 newId))(call:Looks (model prog w) h (specialOf (.ref C) "__call__") (ae (.builtin "type.__call__")))(typ:Looks (model prog w) h (aaJ (.ref C) (.type "type")) aj)
(hi:Looks (model prog w) h (typeLookup (.ref C) "__init__") (ae (.ref f)))(hb:∀self,Looks (model prog w) h (bindSpecial (.ref f) self) (.ref f,[self]))(i:rest.length<=ax)
(j:codeAny (model prog w) (A.under (.builtin "type.__call__" ⟨.ref C::rest,[]⟩)) (.call (.ref f) ⟨.ref (h.objs.size+1)::rest,[]⟩) (InitBack (h.objs.size+1) R) ⟨(h.push (mE rest)).push (lR C h.objs.size),g,d,t,os⟩):
  codeAny (model prog w) A (.call (.ref C) ⟨rest,[]⟩) R ⟨h,g,d,t,os⟩:=by
 refine codeAny_of_tree ?_;show wpAny _ _ (callAny (.ref C) _) _ _ _;refine nd_load c ?_;show wpAny _ _ (callAny.viaDunder (.ref C) _) _ _ _;unfold callAny.viaDunder;refine ag (call.at ?_);dsimp only;rw[tc_bind];refine ag (aB (ag (aB ?_)));refine aB (a:=Fin.again (.call (.builtin "type.__call__") ⟨.ref C::rest,[]⟩)) (And.intro rfl ?_);refine codeAny_call_builtin_at (Code.quiet_builtin _ (by decide+kernel)) entry_typeCall (check_slot tc_kind tc_split typ (tc_args _ _ _) ?_);unfold bd.«type.__call__»;repeat (first|with_reducible refine eF c ?_|with_reducible refine wpAny_madeBy_exc c ?_|wp_step)
 refine codeAny_call_builtin_code (Code.quiet_builtin _ F.quiet) (wpAny_check_new_subT F T c ?_);refine codeAny_exc_new_subT F T c ?_ i;show wpAny _ _ _ _ _ _;have k:∀b o,h.get? b=ae o->((h.push (mE rest)).push (lR C h.objs.size)).get? b=ae o:=λb o e=>ar _ (ar _ e);have m:((h.push (mE rest)).push (lR C h.objs.size)).get? (h.objs.size+1)=ae (lR C h.objs.size):=by heap_get
 have n:=k _ _ c;have G:Looks (model prog w) ((h.push (mE rest)).push (lR C h.objs.size)) (abv (.ref (h.objs.size+1))) (.ref C):=(Looks.ld m).andThen .now;have p:(aR C::bm).contains (.ref C)=aj:=by simp
 have s1:Looks (model prog w) ((h.push (mE rest)).push (lR C h.objs.size)) (isSubtype (.ref C) (.ref C)) aj:=by intro A Q E s u y;obtain⟨H,g,d,t,os⟩:=s;refine eZ (u _ _ n) ?_;rw[p];exact y
 have I:=hi.keeps k;have J:=(hb (.ref (h.objs.size+1))).keeps k;unfold aaJ callSpecial? specialOf;repeat (first|with_reducible refine eK ?_|lk)
 refine dR j λr L z=>?_;rcases r with e|(v|_|_|_)<;>first|exact z|exact z.elim|skip
 obtain⟨rfl,z⟩:=z;exact aB (aB z)
end
end L2
namespace L2
open PySem PySem.Spec PyProof.Rows PySem.W
section
variable {prog:aw} {w:aN} {A:aH} {E:af->ah->Prop} {s:ah} {K:W.Frag} {C x:ai} {name:av} {v:af}
def XF (h:az)(x:ai)(od:Option ai)(a:av->Option af):Prop:=match od with
 |none=>∀n,a n=aq
 |some b=>b≠x/\h.Ns1 b a
noncomputable def Av:List af->Bool
 |[.type a,.type b,.type c,.type d]=>a=="ValueError"&&b=="Exception"&&c=="BaseException"&&d=="object"
 |.ref _::r=>Av r
 |_=>ao
theorem Aw(self:af):∀l:List af,Av l=aj->refuseLoop self "__setattr__" l=pure ()
 |[.type a,.type b,.type c,.type d],h=>by simp only [Av,aD,beq_iff_eq] at h;obtain⟨⟨⟨rfl,rfl⟩,rfl⟩,rfl⟩:=h;exact PySem.F.store_ValueError.passes self
 |.ref C::r,h=>by rw[refuseLoop_ref];exact Aw self r (by simpa only [Av] using h)
def Ax (K:W.Frag)(C:ai):Prop:=(W.clsIn K C).any (λcd=>Av cd.mro)=aj
theorem E4{j:bR}{od:Option bR}{tk:aaU}{R:aaH->ah->Prop}(X:K.In s.heap)(I:W.InstAt s.heap x j C od)(m:Ax K C)(n:W.subIn K (.ref C) (.type "object")=ae aj)(hn:W.findIn K (.ref C) name=ae aq)
(h:wpAny (model prog w) A.in1 (bd.ObjectAttr.storeInOwnDict (.ref x) (.ref C) (.str name tk) name v ao)
   (λo a=>match o with
    |.done f=>R (.ok f) a
    |.again i=>i.quiet=aj/\codeAny (model prog w) A i R a) (λe a=>R (.error e) a) s):
  codeAny (model prog w) A (.call (.builtin "object.__setattr__") ⟨[.ref x,.str name tk,v],[]⟩) R s:=by
 have F:=PySem.F.store_ValueError;obtain⟨cd,p,b⟩:=W.any_some m;have c:W.Looks (model prog w) s.heap (abv (.ref x)) (.ref C):=by obtain⟨q,hc,_⟩:=I;rw[<-hc];exact(W.Looks.ld q).andThen .now
 have s1:=W.looks_subIn (M:=model prog w) X n;have typ:W.Looks (model prog w) s.heap (aaJ (.ref x) (.type "object")) aj:=by unfold aaJ;exact c.andThen s1
 have e1:=F.slot.plain;have e2:=F.entry;have e3:=F.args (.ref x) (.str name tk) v;have e4:=F.kind;have e5:=F.split;clear F;refine eV e1 e2 ?_;with_reducible refine check_slot e4 e5 typ e3 ?_
 rw[W.osa_eq,refuse_eq];have r:mroOf (.ref C)=(classData C >>= λcd=>pure cd.mro):=rfl;have g:bd.ObjectAttr.storeTaker? aq=pure aq:=rfl;with_reducible refine ag ?_
 with_reducible refine ag ?_
 with_reducible refine c.at ?_
 rw[r];with_reducible refine ag ?_
 with_reducible refine ag ?_
 with_reducible refine(W.looks_clsIn X p).at ?_
 with_reducible refine aB ?_
 rw[Aw _ _ b];with_reducible refine aB ?_
 with_reducible refine ag ?_
 with_reducible refine c.at ?_
 with_reducible refine ag ?_
 with_reducible refine(W.looks_findIn X hn).at ?_
 rw[g];with_reducible refine ag ?_
 with_reducible refine aB ?_
 exact h
theorem K5{c:bR}{q:Array af}{j:av->Option af}{ns:List av}{Q:Unit->ah->Prop}(X:K.In s.heap)(g:s.heap.get? x=ae c)(hc:c.cls=.ref C)(Y:c.data=.fields q)(hm:XF s.heap x c.dict j)
(i:W.findIn K (.ref C) "__setattr__"=ae (ae (.builtin "object.__setattr__")))(hp:Ax K C)(W3:W.subIn K (.ref C) (.type "object")=ae aj)(ht:W.findIn K (.ref C) name=ae aq)(hh:W.hasDictIn K C=aj)
(hw:PySem.Within j ns)(EC:ns.length<ax)
(h:∀f a t',f.get? x=ae {c with dict:=ae a}->(c.dict=ae a\/(c.dict=aq/\a=s.heap.objs.size))->a≠x->f.Ns1 a (λy=>if y=name then ae v else j y)->(∀b o,b≠x->b≠a->s.heap.get? b=ae o->f.get? b=ae o)->Q () {s with heap:=f,toks:=t'}):
  wpAny (model prog w) A (setAttr (.ref x) name v) Q E s:=by
 have nf:c.isFreed=ao:=by have:=(az.get?_some_iff.mp g).2;exact this
 obtain⟨oc,od,Y6,yb⟩:=c;cases hc;cases Y;have I:∃p,W.InstAt s.heap x ⟨.ref C,od,.fields q,yb⟩ C p:=by
  cases od with
  |none=>exact⟨aq,g,rfl,rfl,trivial⟩
  |some a=>
   obtain⟨_,o,es,N,ho,_⟩:=hm;exact⟨ae o,g,rfl,rfl,ho⟩
 obtain⟨p,I⟩:=I;refine W.set_plain X I i (E4 (s:={s with toks:=s.toks+1}) X I hp W3 ht ?_);obtain⟨cd,t8,Vu⟩:=W.any_some hh;refine ag (aB (ag (ag (abA g ?_))));dsimp only;refine ag (W.Looks.here (s:={s with toks:=s.toks+1}) (W.looks_clsIn X t8) ?_);rw[Vu];cases od with
 |none=>
  have hm:∀n,j n=aq:=hm;have O:(s.heap.push {cls:=.type "dict",data:=.dict #[]}).get? x=ae ⟨.ref C,aq,.fields q,yb⟩:=ar _ g;have r:x≠s.heap.objs.size:=bL (aP g);show wpAny _ _ (do
   let d<-alloc {cls:=af.type "dict",data:=Data.dict #[]}
   update x λo=>{cls:=o.cls,dict:=ae d,data:=o.data,slots:=o.slots}
   dictMade (.ref C) x d) _ _ _
  refine ag (wpAny_alloc ?_);refine ag (wpAny_update O ?_);refine aB ?_;have u:((s.heap.push {cls:=.type "dict",data:=.dict #[]}).update x λo=>{cls:=o.cls,dict:=ae s.heap.objs.size,data:=o.data,slots:=o.slots}).get? s.heap.objs.size
    =ae {cls:=.type "dict",data:=.dict #[]}:=
   (az.get?_update_ne _ _ _ _ r.symm).trans (az.get?_push_at rfl rfl)
  have z:((s.heap.push {cls:=.type "dict",data:=.dict #[]}).update x λo=>{cls:=o.cls,dict:=ae s.heap.objs.size,data:=o.data,slots:=o.slots}).Ns s.heap.objs.size (λ_=>aq):=
   ⟨_,#[],_,u,rfl,λe he=>absurd he (by simp),λ_=>rfl⟩
  show wpAny _ _ (cM s.heap.objs.size (.str name _) name v) _ _ _;unfold cM fw;refine ag (aB (ag (wpAny_nsSet1 (az.Ns1.of_empty z) λf m i=>?_)));obtain⟨oD,B,G,H,J,L⟩:=m.count (Within.cons name v Within.nil);refine ag (abn H (by rw[J];exact abo (aQ L (by rw[aM,bC,f7];omega))) ?_);refine aB (h f s.heap.objs.size _ ?_ (.inr ⟨rfl,rfl⟩) r.symm ?_ λb o T M hb=>?_)
  ·exact(i.2 x r).trans (cA _ O rfl)
  ·obtain⟨p,es,N,e1,e2,e3,eu,e4⟩:=m;exact⟨p,es,N,e1,e2,e3,eu,λy=>by rw[e4 y];by_cases hy:y=name<;>simp[hy,hm]⟩
  ·exact(i.2 b M).trans ((az.get?_update_ne _ _ _ _ T).trans (ar _ hb))
 |some a=>
  obtain⟨U,UN⟩:=(show a≠x/\s.heap.Ns1 a j from hm);show wpAny _ _ (pure (ae a)) _ _ _;refine aB ?_;show wpAny _ _ (cM a (.str name _) name v) _ _ _;unfold cM fw;refine ag (aB (ag (wpAny_nsSet1 (s:={s with toks:=s.toks+1}) UN λf m i=>?_)));obtain⟨oD,B,G,H,J,L⟩:=m.count (Within.cons name v hw);refine ag (abn H (by rw[J];exact abo (aQ L (by rw[aM];omega))) ?_);refine aB (h f a _ ((i.2 x U.symm).trans g) (.inl rfl) U m λb o T M hb=>(i.2 b M).trans hb)
end
end L2
namespace L2
open PySem PySem.Spec PyProof.Rows PySem.W
section
variable {prog:aw} {w:aN} {A:aH} {E:af->ah->Prop} {h:az} {g:Array aap} {d:aa8} {t:Nat} {os:abg}
variable {nm q:av} {C N x:ai} {bs bm Pn:List af} {kT:Bool} {sn:List av} {sub:List af} {ab:Bool} {col:Option Bool} {dd:Option ai} {k0 k1 k2 k3 k5:Option af} {B newId tE:String}
theorem Ht(F:aau B newId tE Pn)(T:OwnTail h Pn bm){c:bR}{f:Array af}{u:af}{Q:af->ah->Prop}
(v:h.get? C=ae (dP nm q C N bs bm kT sn sub ab col dd k0 k1 k2 k3 k5 newId))(n:h.get? x=ae c)(y:c.cls=.ref C)(hd:c.data=.fields f)(J:1<f.size)
(z:∀i a,i.get? x=ae {c with data:=.fields (f.setIfInBounds 0 a)}->(∀b o,b≠x->h.get? b=ae o->i.get? b=ae o)->Q .none ⟨i,g,d,t,os⟩):
  wpAny (model prog w) A (call (.builtin tE) [.ref x,u]) Q E ⟨h,g,d,t,os⟩:=by
 obtain⟨oc,od,L,yb⟩:=c;cases y;cases hd;refine eK (eV F.init.plain F.initEntry (wpAny_check_init_subT F T v n rfl ?_))
 wp_walk
 obtain⟨j,G⟩:∃a,f[0]?=ae a:=⟨_,Array.getElem?_eq_getElem (by omega)⟩;rw[G];refine aB ?_;have p:=ar (h:=h) {cls:=.type "tuple",data:=.seq [u].toArray} n;refine ag (eC p rfl (by omega) ?_);have H:∀m:Unit->ah->Prop,m () ⟨(h.push {cls:=.type "tuple",data:=.seq [u].toArray}).update x (ci (·.setIfInBounds 0 (.ref h.objs.size))),g,d,t,os⟩->∀r,wpAny (model prog w) A.in1 (match j with|aR I=>letGo [j]|x=>pure ()) m r ⟨(h.push {cls:=.type "tuple",data:=.seq [u].toArray}).update x (ci (·.setIfInBounds 0 (.ref h.objs.size))),g,d,t,os⟩:=λm q r=>by
  cases j<;>first|exact aB q|skip
  wp_walk
  exact q
 refine H _ (aB ?_) _;refine z _ (.ref h.objs.size) ?_ λb o hb e=>?_
 ·exact cA _ p (dA (cD rfl _))
 ·rw[bZ _ _ (b4 hb)];exact ar _ e
end
end L2
namespace L2
open PySem PySem.Spec PyProof.Rows PySem.W
section
variable {X:Cx} {value e:aS} {es:List aS} {te:TE} {pos:cC}
def Tl (te:TE):TE:=λσ H Q=>te σ H λx H1=>match x with
 |.str y=>y.length<=ax/\Q (.str y) H1
 |.int i=>i.natAbs.log2<1920/\Q (.str (toString i)) H1
 |_=>False
theorem Inv.tk{pins:List (ai×bR)}{σ:St}{H:Hp}{s:ah}(I:Inv X pins σ H s)(a:Nat):Inv X pins σ H {s with toks:=a}:=⟨I.ok,I.os,I.bare,I.base,I.loc,I.cell,I.free,I.kC,I.pin,I.iE,I.len⟩
theorem Hu(h:PE X value te):PE X (.FormattedValue value (-1) aq pos) (Tl te):=by
 intro pins s σ H Q I c;refine FormattedValue_plain (ji (h pins s σ H _ I c) λv s1 f=>?_);obtain⟨x,H1,a,b,q⟩:=f;cases x<;>first|exact q.elim|skip
 ·rename_i i;obtain⟨t,rfl⟩:=b;refine formatField_int_small q.1 ?_;exact⟨.str (toString i),H1,a.tk _,⟨_,rfl⟩,q.2⟩
 ·rename_i y;obtain⟨t,rfl⟩:=b;exact formatField_str (λg tk=>⟨.str y,H1,a.tk _,⟨_,rfl⟩,q.2⟩) q.1
abbrev TJ:=av->St->Hp->VK->Prop
def PJ (X:Cx)(es:List aS)(t:TJ):Prop:=∀(acc:av) (pins:List (ai×bR)) (s:ah) (σ:St) (H:Hp) (Q:VK),Inv X pins σ H s->t acc σ H Q->wpAny (model X.prog X.w) X.A (joinParts acc (evalEach es X.env)) (EP X pins σ Q) X.xe s
def Nh:TJ:=λacc _ H Q=>acc.length<=ax/\Q (.str acc) H
def Hv (te:TE)(a:TJ):TJ:=λacc σ H Q=>te σ H λx H1=>∃y,x=.str y/\(acc++y).length<=ax/\a (acc++y) σ H1 Q
theorem Hw:PJ X [] Nh:=λacc pins s σ H Q I q=>joinParts_nil ⟨.str acc,H,I.tk _,⟨_,rfl⟩,q.2⟩ q.1
theorem uN{a:TJ}(h:PE X e te)(b:PJ X es a):PJ X (e::es) (Hv te a):=by intro acc pins s σ H Q I c;show wpAny _ _ (joinParts acc (eval e X.env::evalEach es X.env)) _ _ _;refine joinParts_cons (ji (h pins s σ H _ I c) λv s1 f=>?_);obtain⟨x,H1,g,i,y,e1,j,q⟩:=f;subst e1;obtain⟨t,rfl⟩:=i;exact⟨j,b _ pins s1 σ H1 Q g q⟩
theorem DN{a:TJ}{e2:aS}(h:PJ X (e::e2::es) a):PE X (.JoinedStr (e::e2::es) pos) (a av.empty):=λpins s σ H Q I q=>JoinedStr_many (h av.empty pins s σ H Q I q)
end
end L2
namespace L2
open PySem PySem.Spec PyProof.Rows PySem.W
noncomputable def lH(x C:ai)(od:Option ai):HO:=.ext λh=>E1 h x (.ref C) od
noncomputable def xH(b:ai)(fs:List (av×V)):HO:=.ext λh=>∃a,h.Ns1 b a/\(∀f,o9 (fs.lookup f) (a f))/\PySem.Within a (fs.map (·.1))
structure Cb(K:W.Frag)(C:ai):Prop where
 hd:W.hasDictIn K C=aj
 po:Ax K C
 so:W.subIn K (.ref C) (.type "object")=ae aj
 sa:W.findIn K (.ref C) "__setattr__"=ae (ae (.builtin "object.__setattr__"))
theorem Cc{P:aw}{w:aN}{H:Hp}{h:az}{x C:ai}{od:Option ai}(r:E1 h x (.ref C) od):iD P w H h x (lH x C od):=by obtain⟨a,e⟩:=r;refine⟨⟨a,e⟩,⟨_,e⟩,λc f ⟨b,q⟩ k=>⟨b,k _ q⟩⟩
theorem Tn{P:aw}{w:aN}{H:Hp}{h:az}{b:ai}{fs:List (av×V)}{a:av->Option af}(n:h.Ns1 b a)(r:∀f,o9 (fs.lookup f) (a f))(wi:PySem.Within a (fs.map (·.1))):iD P w H h b (xH b fs):=by obtain⟨o,es,j,e,q⟩:=id n;exact⟨⟨a,n,r,wi⟩,⟨_,e⟩,λm p ⟨c,g,i⟩ k=>⟨c,g.at k,i⟩⟩
def XD (H:Hp)(x:ai)(od:Option ai)(fs:List (av×V)):Prop:=match od with
 |none=>fs=[]
 |some a=>a≠x/\H a=ae (xH a fs)
section
variable {X:Cx} {pins:List (ai×bR)} {σ:St} {H:Hp} {s:ah} {A:aH} {E:af->ah->Prop} {C x:ai} {f:av}
theorem K6{od:Option ai}{fs:List (av×V)}{y:V}{u:af}{Q:Unit->ah->Prop}(I:Inv X pins σ H s)(ex:H x=ae (lH x C od))(hd:XD H x od fs)(c:Cb X.K C)(n:mZ X.K C f)(hl:fs.length<1000)(O:RelV y u)
(h:∀B a,(od=ae a\/(od=aq/\H a=aq))->a≠x->Inv X pins σ (upd (upd H a (xH a (rB f y fs))) x (lH x C (ae a))) B->Q () B):wpAny (model X.prog X.w) A (setAttr (.ref x) f u) Q E s:=by
 obtain⟨⟨T,Y⟩,_,_⟩:=(show iD X.prog X.w H s.heap x (lH x C od) from I.iE x _ ex);obtain⟨i,xf,rl,wi⟩:∃i,XF s.heap x od i/\(∀g,o9 (fs.lookup g) (i g))/\PySem.Within i (fs.map (·.1)):=by
  cases od with
  |none=>
   cases(show fs=[] from hd);exact⟨λ_=>aq,λ_=>rfl,λ_=>trivial,λy hy=>absurd rfl hy⟩
  |some a=>
   obtain⟨ne,Js⟩:=(show a≠x/\H a=ae (xH a fs) from hd);obtain⟨⟨i,nn,r,wi⟩,_,_⟩:=(show iD X.prog X.w H s.heap a (xH a fs) from I.iE a _ Js);exact⟨i,⟨ne,nn⟩,r,wi⟩
 refine K5 I.ni Y rfl rfl xf c.sa c.po c.so n c.hd wi (by rw[ap,f7];omega) λG a t' L p ne hn kp=>?_;have p:od=ae a\/(od=aq/\a=s.heap.objs.size):=p;have M:od=ae a\/(od=aq/\H a=aq):=by
  rcases p with e|⟨e,rfl⟩
  ·exact .inl e
  ·exact .inr ⟨e,I.iE.fresh (aY _)⟩
 have J:∀b o,s.heap.get? b=ae o->H b=aq->b≠a:=λb o e q z=>by
  rcases p with e2|⟨_,rfl⟩
  ·rw[e2] at hd;have:=(show a≠x/\H a=ae (xH a fs) from hd).2;rw[<-z,q] at this;cases this
  ·have:=aP e;rw[z] at this;exact absurd this (cu _)
 have j:∀b u,H b=ae u->(∀φ,u≠.ext φ)->b≠x/\b≠a:=λb u e N=>by
  refine⟨λz=>?_,λz=>?_⟩
  ·rw[z,ex] at e;exact N _ (bq e).symm
  ·subst z;rcases M with e2|⟨_,e2⟩
   ·rw[e2] at hd;have:=(show b≠x/\H b=ae (xH b fs) from hd).2;rw[e] at this;exact N _ (bq this)
   ·rw[e] at e2;cases e2
 have nx:∀b,H b=aq->b≠x:=λb e z=>by rw[z,ex] at e;cases e
 have U:Un (oV X.stack) [] H (upd (upd H a (xH a (rB f y fs))) x (lH x C (ae a))) s.heap G:=by
  refine⟨λb o e q _ _=>kp b o (nx b q) (J b o e q) e,λb o e q _ _=>⟨o.slots,kp b o (nx b q) (J b o e q) e⟩,λb o e q _=>?_,λb o e _=>?_,λb xs q=>?_,λb o u q=>?_,λb ps q=>⟨#[],?_⟩⟩
  ·rw[gy (nx b q),gy (J b o e q)];exact q
  ·by_cases z:b=x
   ·subst z;exact⟨_,L⟩
   ·by_cases m:b=a
    ·subst m;obtain⟨o',_,_,e',_⟩:=hn;exact⟨_,e'⟩
    ·exact⟨o,kp b o z m e⟩
  ·have:=j b _ q λ_ z=>by cases z
   rw[gy this.1,gy this.2];exact q
  ·have:=j b _ q λ_ z=>by cases z
   rw[gy this.1,gy this.2];exact q
  ·have:=j b _ q λ_ z=>by cases z
   rw[gy this.1,gy this.2,q];simp
 have iE:oY X.prog X.w (upd (upd H a (xH a (rB f y fs))) x (lH x C (ae a))) G:=λb u q=>by
  by_cases z:b=x
  ·subst z;rw[gH] at q;cases q;exact Cc ⟨T,L⟩
  ·rw[gy z] at q;by_cases m:b=a
   ·subst m;rw[gH] at q;cases q;refine Tn hn (λg=>?_) λg hg=>?_
    ·rw[ua];by_cases q:g=f
     ·rw[if_pos q,if_pos q];exact O
     ·rw[if_neg q,if_neg q];exact rl g
    ·by_cases q:g=f
     ·rw[q];exact(sQ f y fs).1
     ·refine(sQ f y fs).2 g (wi g λz=>hg ?_);show(if g=f then ae u else i g)=aq;rw[if_neg q];exact z
   ·rw[gy m] at q;refine(I.iE b u q).qi (λc v hc r=>?_) (λc r=>?_) λc xs r=>?_
    ·rcases hc with rfl|hc
     ·exact kp c v z m r
     ·have:=j c _ hc λ_ z=>by cases z
      exact kp c v this.1 this.2 r
    ·have:=j c _ r λ_ z=>by cases z
     rw[gy this.1,gy this.2];exact r
    ·have:=j c _ r λ_ z=>by cases z
     rw[gy this.1,gy this.2];exact r
 exact h _ a M ne (I.zM (s':={s with heap:=G,toks:=t'}) rfl U iE I.bare λb hb=>by cases hb)
end
end L2
namespace L2
open PySem PySem.Spec PyProof.Rows PySem.W
structure DP(K:W.Frag)(B:ai):Prop where
 gs:W.specialIn K (.ref B) "__getattribute__"=ae (ae (.builtin "type.__getattribute__"))
 rd:W.readsIn K B (.type "type")=aj
 fc:W.findCls K (.ref B) (.type "type") "__init__"=ae (.val (.builtin "ValueError.__init__"))
structure Cd(K:W.Frag)(C:ai):Prop where
 obj:∃nm q N bs bm kT sn sub ab col dd k0 k1 k2 k3 k5,K.lookup C=ae (dP nm q C N bs bm kT sn sub ab col dd k0 k1 k2 k3 k5 "ValueError.__new__")/\∀h,K.In h->OwnTail h [.type "ValueError",.type "Exception",.type "BaseException",.type "object"] bm
section
variable {X:Cx} {o e e2:aS} {to t1 t2:TE} {ta:TA} {apos pos:cC} {B:ai}
def Hx (K:W.Frag)(B:ai)(to:TE)(ta:TA):TE:=λσ H Q=>to σ H λb a=>b=.ref B/\ta σ a λc H1=>∃x C od m,c=[.ref x,m]/\H1 x=ae (lH x C od)/\Cd K C/\Q .non H1
theorem Hy{pins:List (ai×bR)}{σ:St}{H:Hp}{s:ah}{A:aH}{E:af->ah->Prop}{x C:ai}{od:Option ai}{u:af}{Q:af->ah->Prop}(FB:aau "ValueError" "ValueError.__new__" "ValueError.__init__" [.type "ValueError",.type "Exception",.type "BaseException",.type "object"])
(I:Inv X pins σ H s)(ex:H x=ae (lH x C od))(c:Cd X.K C)(h:∀f,Inv X pins σ H f->Q .none f):wpAny (model X.prog X.w) A (call (.builtin "ValueError.__init__") [.ref x,u]) Q E s:=by
 obtain⟨⟨G,p⟩,_,_⟩:=(show iD X.prog X.w H s.heap x (lH x C od) from I.iE x _ ex);obtain⟨nm,q,N,bs,J,L,sn,sub,M,col,O,U,Y,k2,k3,k5,i,T⟩:=c.obj;have i:=I.ni _ _ i;have T:=T s.heap I.ni;have nx:∀b,H b=aq->b≠x:=λb e z=>by rw[z,ex] at e;cases e
 have j:=I;obtain⟨hh,g,d,t,os⟩:=s;refine Ht FB T i p rfl rfl (by show 1<6;decide) λm a n kp=>h _ ?_;have y:E1 m x (.ref C) od:=⟨a,n⟩;refine j.zM (ch:=[]) (s':=⟨m,g,d,t,os⟩) rfl ⟨λb o e q _ _=>kp b o (nx b q) e,λb o e q _ _=>⟨o.slots,kp b o (nx b q) e⟩,λb o e q _=>q,λb o e _=>?_,λb xs q=>q,λb o u q=>q,λb ps q=>⟨#[],by rw[q];simp⟩⟩ (λb u q=>?_) j.bare λb hb=>by cases hb
 ·by_cases z:b=x
  ·subst z;exact⟨_,n⟩
  ·exact⟨o,kp b o z e⟩
 ·by_cases z:b=x
  ·subst z;rw[ex] at q;cases q;exact Cc y
  ·refine(j.iE b u q).qi (λc v hc r=>kp c v ?_ r) (λc r=>r) λc xs r=>r;rcases hc with rfl|hc
   ·exact z
   ·exactλz=>by rw[z,ex] at hc;cases hc
theorem Hz{pl:abC Bool}(FB:aau "ValueError" "ValueError.__new__" "ValueError.__init__" [.type "ValueError",.type "Exception",.type "BaseException",.type "object"])(g:DP X.K B)(p:PE X o to)(ha:PA X [e,e2] ta)
(v:eval (.Call (.Attribute o "__init__" apos) [e,e2] [] pos) X.env=(do
   let j<-eval o X.env
   aaC apos.atName
   let(f,first)<-holding [j] (getMethod j "__init__" pl)
   callWith pos f first (cb pos (aJ [e,e2] X.env)) (f8 pos (eS [] X.env))):=by rfl)
(w:aJ [e,e2] X.env=(ao,eval e X.env)::aJ [e2] X.env:=by rfl)(y:(cb pos (aJ [e2] X.env)).any (·.1)=ao:=by rfl):
  PE X (.Call (.Attribute o "__init__" apos) [e,e2] [] pos) (Hx X.K B to ta):=by
 intro pins s σ H Q I h;refine W.methodCall_KW (pl:=pl) (ji (p pins s σ H _ I h) λu s1 ⟨b,z,a,A,E,q⟩=>?_) v;subst E;obtain rfl:u=aR B:=A;refine W.method_cls a.ni g.gs (W.cls_value a.ni g.rd g.fc rfl ?_);have a:=a.tk (s1.toks+1);have n:=ha pos pins _ σ z _ a q;rw[w] at n ⊢;refine dZ (by show(ao||(cb pos (aJ [e2] X.env)).any (·.1))=ao;rw[y]<;>rfl) (eB ?_);refine ji n λus s2 G=>?_;obtain⟨U,J,L,i,x,C,od,m,M,ex,c,N⟩:=G;subst M;cases i with
 |cons r O=>
  cases O with
  |cons Y i=>
   cases i;cases r;exact Hy FB L ex c λs' T=>⟨.non,J,T,rfl,N⟩
end
end L2
namespace L2
open PySem PySem.Spec PyProof.Rows PySem.W
noncomputable def Jt(x:ai)(H:Hp):Hp:=λb=>if b=x then aq else H b
theorem rT{x:ai}{H:Hp}:Jt x H x=aq:=by unfold Jt;rw[if_pos rfl]
theorem yz{x b:ai}{H:Hp}(h:b≠x):Jt x H b=H b:=by unfold Jt;rw[if_neg h]
section
variable {X:Cx} {pins:List (ai×bR)} {σ:St} {H:Hp} {s:ah}
theorem Inv.drop{x:ai}{f:az->Prop}(I:Inv X pins σ H s)(g:H x=ae (.ext f)):Inv X pins σ (Jt x H) s:=by
 have hn:∀b,H b=aq->Jt x H b=aq:=λb e=>by
  by_cases z:b=x
  ·rw[z];exact rT
  ·rw[yz z];exact e
 have a:∀b u,H b=ae u->(∀f,u≠.ext f)->Jt x H b=ae u:=λb u e h=>by rw[yz λz=>by rw[z,g] at e;exact h _ (bq e).symm];exact e
 refine⟨I.ok,I.os,I.bare,⟨I.base.keep,I.base.slot,λb o q n g=>hn b (I.base.free b o q n g),I.base.there,λb xs q=>a b _ (I.base.jU b xs q) (λ_ z=>by cases z),λb o u q=>a b _ (I.base.pd b o u q) (λ_ z=>by cases z),λb ps q=>?_⟩,I.loc,I.cell,hn _ I.free,λx c e=>hn _ (I.kC x c e),λp i=>?_,λb u q=>?_,I.len⟩
 ·obtain⟨m,e⟩:=I.base.qA b ps q;exact⟨m,a b _ e λ_ z=>by cases z⟩
 ·obtain⟨j,w,y⟩:=I.pin p i;exact⟨j,hn _ w,y⟩
 ·have z:b≠x:=λz=>by rw[z,rT] at q;cases q
  rw[yz z] at q;exact(I.iE b u q).qi (λc v _ r=>r) (λc r=>a c _ r (λ_ z=>by cases z)) (λc xs r=>a c _ r (λ_ z=>by cases z))
end
section
variable {M:aaE} {A:aH} {E:af->ah->Prop} {env:d4} {s:ah}
variable {nm q:av} {C N:ai} {bs bm:List af} {kT:Bool} {sn:List av} {sub:List af} {ab:Bool} {col:Option Bool} {dd:Option ai} {k0 k1 k2 k3 k5:Option af} {newId:String}
theorem E5{x:abC af}{Q:Flow->ah->Prop}(c:bm.contains (.type "BaseException")=aj)(f:A.handled=aq)
(h:wpAny M A x (λv a=>∃e od,v=.ref e/\a.heap.get? C=ae (dP nm q C N bs bm kT sn sub ab col dd k0 k1 k2 k3 k5 newId)/\E1 a.heap e (.ref C) od/\E (.ref e) a) E s):
  wpAny M A (raiseStmt env (ae x) aq) Q E s:=by
 have i:(aR C::bm).contains (.type "BaseException")=aj:=by rw[List.contains_cons,c,Bool.or_true]
 unfold raiseStmt;refine ag (cz h (λv a j=>?_) λ_ _ x=>x);obtain⟨e,od,rfl,b,⟨o,m⟩,n⟩:=j;obtain⟨p,g,d,tk,os⟩:=a;repeat (first|with_reducible refine eF m ?_|with_reducible refine eF b ?_|(with_reducible refine eZ b ?_;rw[i])|wp_step)
 exact wpAny_raiseNew_none f n
end
structure Pp(K:W.Frag)(C f:ai):Prop where
 x:Cd K C
 call:W.specialIn K (.ref C) "__call__"=ae (ae (.builtin "type.__call__"))
 typ:W.instIn K (.ref C) (.type "type")=ae aj
 init:W.findIn K (.ref C) "__init__"=ae (ae (.ref f))
 fn:W.isFn K (.ref f)=aj
 kp:W.keepIn K (.ref C)=aj
section
variable {X:Cx} {CX:xZ} {k:Nat} {f C:ai} {fd:bN} {ps:List av} {sp:Sp} {E:XK}
theorem K7{pins:List (ai×bR)}{σ:St}{H:Hp}{s:ah}{Q:VK}{us:List af}{m:List V}(M:Pp X.K C f)(F:kb X.prog X.w X.K X.mg X.base CX k f fd ps sp)(G:js (k+1) X.A)(hb:Binds X.K fd ps [])
(J:ya CX X E)(I:Inv X pins σ H s)(r:Vals m us)(L:us.length<=ax)
(h:∀x,H x=aq->s.heap.objs.size<=x->sp (.ref x::m) (upd H x (lH x C aq)) (λv n=>v=.non/\Q (.ref x) n) E):
  wpAny (model X.prog X.w) X.A (call (.ref C) us) (EP X pins σ Q) X.xe s:=by
 have p:=h (s.heap.objs.size+1) (I.iE.fresh (Nat.le_succ _)) (Nat.le_succ _);have y:∀b u,s.heap.get? b=ae u->(s.heap.push (mE us)).get? b=ae u:=λb u e=>ar _ e;have e2:((s.heap.push (mE us)).push (lR C s.heap.objs.size)).get? (s.heap.objs.size+1)=ae (lR C s.heap.objs.size):=by
  have:=bg (s.heap.push (mE us)) (o:=lR C s.heap.objs.size) rfl
  rwa [cx] at this
 have j:Inv X pins σ (upd H (s.heap.objs.size+1) (lH (s.heap.objs.size+1) C aq)) {s with heap:=(s.heap.push (mE us)).push (lR C s.heap.objs.size)}:=
  (I.kept (t':=s.toks) y).laid (t':=s.toks) (λb u e=>ar _ e) (Nat.le_of_eq (cx _ _)) (Cc ⟨_,e2⟩)
 have z:Vals (V.ref (s.heap.objs.size+1)::m) (aR (s.heap.objs.size+1)::us):=.cons rfl r;have U:(aR (s.heap.objs.size+1)::us).length=ps.length:=by have e:=z.length;rw[F.len _ _ _ _ p] at e;exact e.symm
 obtain⟨nm,q,N,bs,bm,kT,sn,sub,ab,col,dd,k0,y,k2,k3,k5,Y,T⟩:=M.x.obj;have FL:(aR (s.heap.objs.size+1)::us++[]).length=ps.length:=by rw[bf];exact U
 have B:=hb {s with heap:=(s.heap.push (mE us)).push (lR C s.heap.objs.size)} (aR (s.heap.objs.size+1)::us) j.ni FL;rw[bf] at B;have key:=F.run _ X.stack _ _ ⟨aR (s.heap.objs.size+1)::us,[]⟩ (aR (s.heap.objs.size+1)::us) _ _ E (G.make C us []) (j.Ot.make C us []) B z p;have c:=I.ni;have kJ:∀(r:aaH) (a:ah),CR CX X.stack X.prog X.w (upd H (s.heap.objs.size+1) (lH (s.heap.objs.size+1) C aq)) {s with heap:=(s.heap.push (mE us)).push (lR C s.heap.objs.size)} (λv n=>v=.non/\Q (.ref (s.heap.objs.size+1)) n) E r a->
   W.InitBack (s.heap.objs.size+1) (λr a=>match r with|.ok (.ret v)=>EP X pins σ Q v a|.ok _=>False|.error e=>X.xe e a) r a:=λr a i=>by
  cases r with
  |error e=>exact J pins σ _ _ e a j i
  |ok fl=>
   cases fl with
   |ret u=>
    obtain⟨v,H',I3,rv,ev,q3⟩:=j.after i;subst ev;exact⟨rv,⟨V.ref (s.heap.objs.size+1),H',I3,rfl,q3⟩⟩
   |next=>exact b8 i
   |brk=>exact b8 i
   |cont=>exact b8 i
 obtain⟨hh,g,d,t,os⟩:=s;refine eK ?_;refine Hr PySem.F.excBase_ValueError (T hh c) (c _ _ Y) (W.looks_specialIn c M.call) (W.looks_instIn c M.typ) (W.looks_findIn c M.init) (λself=>W.bind_fn c self (beq_iff_eq.mp M.fn)) L ?_;exact dR key kJ
end
end L2
namespace L2
open PySem PySem.Spec PyProof.Rows PySem.W
section
variable {P:aw} {w:aN} {K:W.Frag} {mg:av->Option af} {base:az} {N:List av} {qual:av} {scope:b6} {fn:ai} {cd:af} {A:aH} {outer:List d4} {ib:ah} {il:Hp} {E:XK}
variable {k:Nat} {f C:ai} {fd:bN} {ps:List av} {sp:Sp} {x:av} {p pos iz:cC} {e:aS} {es:List aS} {t:TA}
def Pr (C:ai)(sp:Sp)(E:XK)(t:TA):TS:=λ_ σ H=>t σ H λa H1=>a.length<=ax/\∀x,H1 x=aq->sp (.ref x::a) (upd H1 x (lH x C aq)) (λv b=>v=.non/\∃od,b x=ae (lH x C od)/\E (.ref C) od (Jt x b)) E0
theorem HA(M:Pp K C f)(F:kb P w K mg base ud k f fd ps sp)(mono:∀b H (Q j:VK),(∀v H,Q v H->j v H)->sp b H Q E0->sp b H j E0)
(Y:js (k+1) (vT P w K mg base N qual scope fn cd A outer ib il E).A)(hb:Binds K fd ps [])(hg:Gl (vT P w K mg base N qual scope fn cd A outer ib il E) x)(hm:mg x=ae (.ref C))
(ha:PA (vT P w K mg base N qual scope fn cd A outer ib il E) (e::es) t)(qD:(x==("__debug__":av))=ao:=by decide)
(he:aJ (e::es) (vT P w K mg base N qual scope fn cd A outer ib il E).env=(ao,eval e (vT P w K mg base N qual scope fn cd A outer ib il E).env)::aJ es (vT P w K mg base N qual scope fn cd A outer ib il E).env:=by rfl)
(oW:(cb iz (aJ es (vT P w K mg base N qual scope fn cd A outer ib il E).env)).any (·.1)=ao:=by rfl):
  PS (vT P w K mg base N qual scope fn cd A outer ib il E) (.Raise (ae (.Call (.Name x p) (e::es) [] iz)) aq pos) (Pr C sp E t):=by
 intro pins s σ H D I h;obtain⟨nm,q,N',bs,c,m,sn,sub,n,col,o,u,z,B,G,J,hC,T⟩:=M.x.obj;have nr:c.contains (.type "BaseException")=aj:=(T base I.ok.mod.JD).hasType PySem.F.excBase_ValueError.hasBase;have hh:(vT P w K mg base N qual scope fn cd A outer ib il E).A.handled=aq:=I.ok.hd rfl;rw[arm_exec_Raise];refine ag (aaj (E5 (C:=C) (nm:=nm) (q:=q) (N:=N') (bs:=bs) (bm:=c) (kT:=m) (sn:=sn) (sub:=sub) (ab:=n) (col:=col) (dd:=o) (k0:=u) (k1:=z) (k2:=B) (k3:=G) (k5:=J) (newId:="ValueError.__new__") nr hh ?_));refine ag (ji (Q:=EP (vT P w K mg base N qual scope fn cd A outer ib il E) pins σ λv a=>∃y od,v=.ref y/\ib.heap.objs.size<=y/\a y=ae (lH y C od)/\E (.ref C) od (Jt y a)) ?_ λv s3 h3=>ag (aaj (aB ?_)))
 ·refine dw (pU I hg hm ?_ qD);refine W.callWith_K (h₀:=base) I.ok.mod.JD M.kp (ji (ha iz pins s σ H _ I h) λus s1 ⟨b,H1,g,r,hz,q⟩=>⟨g.ni,?_⟩) he oW;refine K7 (X:=vT P w K mg base N qual scope fn cd A outer ib il E) M F Y hb Gy g r (by rw[bv,<-r.length];exact hz) λy hy hn=>mono _ _ _ _ (λv a ⟨e1,od,e2,e3⟩=>⟨e1,y,od,rfl,aQ g.Pk hn,e2,e3⟩) (q y hy)
 ·obtain⟨v',a,i,rv,y,od,rfl,hn,O,hE⟩:=h3;cases rv;obtain⟨U,_,_⟩:=(show iD P w a s3.heap y (lH y C od) from i.iE y _ O);exact⟨y,od,rfl,i.ni _ _ hC,U,Hq (i.drop O) U hn rT hE⟩
end
section
variable {X:Cx} {o value:aS} {ta tv:TE} {f:av} {pos pos':cC}
def Ni (K:W.Frag)(ta tv:TE)(f:av):TS:=λD σ H=>tv σ H λy H1=>ta σ H1 λx c=>∃a C od fs,x=.ref a/\c a=ae (lH a C od)/\XD c a od fs/\Cb K C/\mZ K C f/\fs.length<1000/\
 ∀b,(od=ae b\/(od=aq/\c b=aq))->b≠a->D.nx σ (upd (upd c b (xH b (rB f y fs))) a (lH a C (ae b)))
theorem K8(ha:PE X o ta)(b:PE X value tv)(e:fH value (ae (.Attribute o f pos')) pos.line X.env=pure ao):PS X (.Assign [.Attribute o f pos'] value pos) (Ni X.K ta tv f):=by intro pins s σ H D I h;refine plainObj_wpAny_Assign_Attribute (ji (b pins s σ H _ I h) λu s1 ⟨y,H1,g,i,q⟩=>ji (ha pins s1 σ H1 _ g q) λj s2 ⟨x,B,m,p,a,C,od,fs,ex,r,hd,c,n,l,v⟩=>?_) e;subst ex;obtain rfl:j=aR a:=p;exact K6 m r hd c n l i λs3 w z ne A=>⟨σ,_,A,v w z ne⟩
end
end L2
namespace L2
open PySem PySem.Spec PyProof.Rows PySem.W
structure Ps(X:Cx)(pins:List (ai×bR))(b:ai):Prop where
 s0:X.ib.heap.objs.size<=b
 lo:b≠X.env.locals
 ce:∀x c,X.env.cells.lookup x=ae c->c≠b
 pi:∀p∈X.pn++pins,p.1≠b
section
variable {X:Cx} {pins:List (ai×bR)} {σ:St} {H:Hp} {s:ah} {h':az}
theorem Inv.HB(I:Inv X pins σ H s){b:ai}(hb:s.heap.objs.size<=b):Ps X pins b:=by
 refine⟨aQ I.Pk hb,λz=>?_,λx c e z=>?_,λp f z=>?_⟩
 ·obtain⟨m,⟨o,es,g,a,_⟩,_⟩:=I.loc;have:=aP a;rw[<-z] at this;exact absurd (aT this hb) (cu _)
 ·obtain⟨v,o,a,_⟩:=I.cell x c e;have:=aP a;rw[z] at this;exact absurd (aT this hb) (cu _)
 ·have:=aP (I.pin p f).1;rw[z] at this;exact absurd (aT this hb) (cu _)
theorem Inv.Nj{t':Nat}(I:Inv X pins σ H s){R:List ai}(f:∀b∈R,Ps X pins b/\H b=aq)(g:E2 (oV X.stack) R s.heap h'):Inv X pins σ H {s with heap:=h',toks:=t'}:=by
 refine I.zM (ch:=R) (s':={s with heap:=h',toks:=t'}) rfl ⟨λb o e n hb c=>(g b o e c).1 hb,λb o e n hb c=>(g b o e c).2,λb o e n c=>n,λb o e c=>?_,λb xs q=>q,λb o u q=>q,λb ps q=>⟨#[],by rw[q];simp⟩⟩ (λa o e=>?_) I.bare λb hb=>⟨.inr (f b hb).1.s0,(f b hb).1.lo,(f b hb).1.ce,(f b hb).1.pi⟩
 ·obtain⟨sl,q⟩:=(g b o e c).2;exact⟨_,q⟩
 ·refine(I.iE a o e).qi (λb u hb q=>?_) (λ_ q=>q) λ_ _ q=>q;have hn:H b≠aq:=by
   rcases hb with rfl|hb
   ·rw[e];exactλz=>by cases z
   ·rw[hb];exactλz=>by cases z
  exact(g b u q λz=>hn (f b z).2).1 λz=>hn (I.Y5 z)
theorem Inv.Nk{x:ai}{o:HO}(I:Inv X pins σ H s)(g:H x=aq)(HB:Ps X pins x)(ok:iD X.prog X.w (upd H x o) s.heap x o):Inv X pins σ (upd H x o) s:=by
 have a:∀b u,H b=ae u->upd H x o b=ae u:=λb u e=>by rw[gy λz=>by rw[z,g] at e;cases e];exact e
 have h:X.ib.heap.get? x=aq:=fN HB.s0;refine⟨I.ok,I.os,I.bare,⟨I.base.keep,I.base.slot,λb ob q n i=>?_,I.base.there,λb xs q=>a b _ (I.base.jU b xs q),λb ob u q=>a b _ (I.base.pd b ob u q),λb ps q=>?_⟩,I.loc,I.cell,?_,λy c e=>?_,λp f=>?_,λb u q=>?_,I.len⟩
 ·rw[gy λz=>by rw[z,h] at q;cases q];exact I.base.free b ob q n i
 ·obtain⟨m,e⟩:=I.base.qA b ps q;exact⟨m,a b _ e⟩
 ·rw[gy (b4 HB.lo)];exact I.free
 ·rw[gy (HB.ce y c e)];exact I.kC y c e
 ·obtain⟨j,A,B⟩:=I.pin p f;exact⟨j,by rw[gy (HB.pi p f)];exact A,B⟩
 ·by_cases z:b=x
  ·subst z;rw[gH] at q;cases q;exact ok
  ·rw[gy z] at q;exact(I.iE b u q).qi (λc v _ r=>r) (λc r=>a c _ r) (λc xs r=>a c _ r)
abbrev Cx.FO(X:Cx)(e:af):Cx:={X with A:=X.A.mark (ae e),calm:=ao,xe:=λ_ _=>False}
theorem Inv.FO(I:Inv X pins σ H s)(e:af):Inv (X.FO e) pins σ H s:=
 ⟨⟨I.ok.mod,I.ok.kind,I.ok.glob,I.ok.blt,I.ok.above,I.ok.inj,I.ok.has,I.ok.NV,(λz=>by cases z),I.ok.frames,I.ok.Q1,I.ok.UC,I.ok.bs,I.ok.Ep,I.ok.zJ,I.ok.BH,I.ok.qB,I.ok.Jj⟩,I.os,I.bare,I.base,I.loc,I.cell,I.free,I.kC,I.pin,I.iE,I.len⟩
theorem Inv.DQ{e:af}(ok:X.Ok)(I:Inv (X.FO e) pins σ H s):Inv X pins σ H s:=⟨ok,I.os,I.bare,I.base,I.loc,I.cell,I.free,I.kC,I.pin,I.iE,I.len⟩
theorem rV{i:Nat}{n:av}{pos:cC}{A:aH}{E:af->ah->Prop}{Q:Unit->ah->Prop}(I:Inv X pins σ H s)(G:X.N.Nodup)(hi:X.N[i]?=ae n)(J:X.env.kindOf n=ae .local)
(h:∀r,Inv X pins (σ.set i aq) H r->Q () r):wpAny (model X.prog X.w) A (do bindName X.env n .none;aa1 X.env n pos) Q E s:=by
 obtain⟨m,hn,L⟩:=id I.loc;have FV:=I.FV;refine wpAny_nameGoes_keeps J hn (by rw[I.ok.kind];rfl) λh' v M a=>h _ ?_;have hb:∀b o,X.ib.heap.get? b=ae o->h'.get? b=s.heap.get? b:=λb o e=>a.2 b (bL (aT (aP e) I.ok.above));refine⟨I.ok,I.os,I.bare,⟨λb o e n g f=>(hb b o e).trans (I.base.keep b o e n g f),λb o e n g f=>?_,I.base.free,λb o e f=>?_,I.base.jU,I.base.pd,I.base.qA⟩,⟨_,M,λj y O e1 e2 e3=>?_⟩,λy c e=>?_,I.free,I.kC,λp T=>?_,λb u e=>?_,by simpa using I.len⟩
 ·obtain⟨sl,e1⟩:=I.base.slot b o e n g f;exact⟨sl,(hb b o e).trans e1⟩
 ·obtain⟨U,e1⟩:=I.base.there b o e f;exact⟨U,(hb b o e).trans e1⟩
 ·have B:j≠i:=λz=>by subst z;rw[List.getElem?_set] at e2;rw[if_pos rfl] at e2;split at e2<;>cases e2
  rw[cn (b4 B)] at e2;obtain⟨Y,r',q⟩:=L j y O e1 e2 e3;refine⟨Y,r',?_⟩;rcases q with⟨k,e⟩|⟨k,c,e,z⟩
  ·refine .inl ⟨k,?_⟩;have:y≠n:=λe=>B (uX G e1 (e▸hi));simp[this,e]
  ·exact .inr ⟨k,c,e,z.sameBut a (FV y c e)⟩
 ·obtain⟨C,z⟩:=I.cell y c e;exact⟨C,z.sameBut a (FV y c e)⟩
 ·obtain⟨e,n,ne,nf,d⟩:=I.pin p T;exact⟨(a.2 p.1 ne).trans e,n,ne,nf,d⟩
 ·refine(I.iE b u e).qi (λc C hc q=>(a.2 c ?_).trans q) (λ_ q=>q) λ_ _ q=>q
  rintro rfl
  rcases hc with rfl|hc
  ·rw[I.free] at e;cases e
  ·rw[I.free] at hc;cases hc
end
end L2
namespace L2
open PySem PySem.Spec PyProof.Rows PySem.W
def Nl (H:Hp)(od:Option ai)(fs:List (av×V)):Prop:=match od with
 |none=>fs=[]
 |some a=>H a=ae (xH a fs)
noncomputable def Nm(H:Hp)(x C:ai)(od:Option ai)(fs:List (av×V)):Hp:=match od with
 |none=>upd H x (.xc C fs)
 |some a=>upd (upd H a (.own x)) x (.xc C fs)
theorem Inv.Ce{X:Cx}{pins:List (ai×bR)}{σ:St}{H:Hp}{s:ah}{x C:ai}{od:Option ai}{fs:List (av×V)}{b:bR}{f:Array af}(I:Inv X pins σ H s)(g:H x=aq)(HB:Ps X pins x)(hd:Nl H od fs)
(e:s.heap.get? x=ae b)(h:b.cls=.ref C)(i:b.dict=od)(j:b.data=.fields f):Inv X pins σ (Nm H x C od fs) s:=by
 cases od with
 |none=>
  refine I.Nk g HB ⟨b,f,e,h,j,.inl ⟨i,hd⟩⟩
 |some a=>
  have c:H a=ae (xH a fs):=hd;have ne:a≠x:=λz=>by rw[z,g] at c;cases c
  obtain⟨⟨m,n,r,wi⟩,⟨o,p⟩,_⟩:=(show iD X.prog X.w H s.heap a (xH a fs) from I.iE a _ c);have q:∀o u,X.il a≠ae (.oX o u):=λo u z=>by have:=I.base.pd a o u z;rw[c] at this;cases this
  have v:=I.ghost (w':=.own x) c (λ_ z=>by cases z) (λ_ z=>by cases z) (λ_ z=>by cases z) q ⟨o,p⟩;refine v.Nk (by rw[gy (b4 ne)];exact g) HB ⟨b,f,e,h,j,.inr ⟨a,m,i,ne,?_,n,r⟩⟩;rw[gy ne,gH]
structure Cf(K:W.Frag)(C B:ai):Prop where
 c:∃nm q N bs bm kT sn sub ab col dd k0 k1 k2 k3 k5,K.lookup C=ae (dP nm q C N bs bm kT sn sub ab col dd k0 k1 k2 k3 k5 "ValueError.__new__")/\(aR C::bm).contains (.ref B)=aj
 b:∃nm q N bs bm kT sn sub ab col dd k0 k1 k2 k3 k5,K.lookup B=ae (dP nm q B N bs bm kT sn sub ab col dd k0 k1 k2 k3 k5 "ValueError.__new__")/\(aR B::bm).contains (.type "BaseException")=aj
section
variable {X:Cx} {pins:List (ai×bR)} {σ:St} {H:Hp} {s:ah} {A:aH} {E:af->ah->Prop}
theorem Cg{x C B:ai}{i:bR}{Q:Bool->ah->Prop}(j:X.K.In s.heap)(m:s.heap.get? x=ae i)(hc:i.cls=.ref C)(sub:Cf X.K C B)(h:Q aj s):wpAny (model X.prog X.w) A (excMatches (.ref x) (.ref B)) Q E s:=by
 obtain⟨nm,q,N,bs,L,M,sn,O,T,col,U,Y,k1,k2,k3,k5,e,n⟩:=sub.c;obtain⟨Ju,q',N',o,p,Tq,r,Y9,u,Xc,Ov,v,y,z,G,I,a,J⟩:=sub.b;have e:=j _ _ e;have a:=j _ _ a;have f:=tc_notTuple;obtain⟨hh,g,d,t,os⟩:=s;unfold excMatches;repeat (first|(with_reducible refine eF m ?_;rw[hc])|with_reducible refine eF a ?_|(with_reducible refine eZ a ?_;rw[J])|(with_reducible refine eZ e ?_;rw[n])|wp_step)
 exact h
theorem E6{x T:ai}{C:af}{od:Option ai}{Q:Unit->ah->Prop}(I:Inv X pins σ H s)(p:Rec s.heap x C od T)(r:Ps X pins T)(u:H T=aq)(h:∀a,Inv X pins σ H a->Rec a.heap x C od T->Q () a):
  wpAny (model X.prog X.w) A (aaz (.ref x) aq) Q E s:=by
 obtain⟨v,y,J,L,f,B,G,g,i,j,m,c,n⟩:=p;refine wpAny_setFlight_none f g i m c (cr.mp n).1 (h _ (I.Nj (t':=s.toks) (R:=[T]) (λb hb=>by cases aZ.mp hb;exact⟨r,u⟩) λb o e hb=>?_) ?_)
 ·have:b≠T:=λz=>hb (by simp[z]);have q:=(bZ s.heap (ci (·.setIfInBounds 3 .none)) (b4 this)).trans e;exact⟨λ_=>q,o.slots,q⟩
 ·refine⟨v,y,_,_,(az.get?_update_ne _ _ _ _ (b4 j)).trans f,B,G,g,i,j,cA _ m (dA (cD c _)),cD c _,by simp[Array.getElem?_setIfInBounds,(cr.mp n).1]⟩
end
end L2
namespace L2
open PySem PySem.Spec PyProof.Rows PySem.W
abbrev Cx.wp(X:Cx)(pn:List (ai×bR))(E:af->ah->Prop):Cx:={X with pn:=pn,xe:=E}
section
variable {X:Cx} {pins t7:List (ai×bR)} {σ:St} {H:Hp} {s:ah} {E:af->ah->Prop}
theorem Cx.Ok.wp(ok:X.Ok)(pn:List (ai×bR))(E:af->ah->Prop):(X.wp pn E).Ok:=
 ⟨ok.mod,ok.kind,ok.glob,ok.blt,ok.above,ok.inj,ok.has,ok.NV,ok.hd,ok.frames,ok.Q1,ok.UC,ok.bs,ok.Ep,ok.zJ,ok.BH,ok.qB,ok.Jj⟩
theorem Inv.wp(I:Inv X pins σ H s)(E:af->ah->Prop):Inv (X.wp (X.pn++pins) E) [] σ H s:=
 ⟨I.ok.wp _ _,I.os,I.bare,I.base,I.loc,I.cell,I.free,I.kC,λp a=>I.pin p (by rw[bf] at a;exact a),I.iE,I.len⟩
theorem Inv.wO(ok:X.Ok)(I:Inv (X.wp (X.pn++pins) E) t7 σ H s):Inv X pins σ H s:=
 ⟨ok,I.os,I.bare,I.base,I.loc,I.cell,I.free,I.kC,λp a=>I.pin p (br _ a),I.iE,I.len⟩
theorem SP.wO{D:Ends}{f:Flow}{c:ah}(ok:X.Ok)(h:SP (X.wp (X.pn++pins) E) [] D f c):SP X pins D f c:=by
 cases f with
 |next=>obtain⟨a,b,I,q⟩:=h;exact⟨a,b,I.wO ok,q⟩
 |brk=>obtain⟨a,b,I,q⟩:=h;exact⟨a,b,I.wO ok,q⟩
 |cont=>obtain⟨a,b,I,q⟩:=h;exact⟨a,b,I.wO ok,q⟩
 |ret u=>obtain⟨v,a,b,I,r,q⟩:=h;exact⟨v,a,b,I.wO ok,r,q⟩
end
noncomputable def dE(i:Nat)(D:Ends):Ends:=⟨λσ H=>D.nx (σ.set i aq) H,D.rt,λσ H=>D.bk (σ.set i aq) H,λσ H=>D.ct (σ.set i aq) H⟩
section
variable {X:Cx} {i:Nat} {n tn:av} {tp Ay pos:cC} {B:ai} {body:List b3} {Ch:b3} {vU:List b3} {tb:XK->TS} {th:TS}
end
end L2
namespace L2
open PySem PySem.Spec PyProof.Rows PySem.W
section
variable {prog:aw} {w:aN} {A:aH} {E:af->ah->Prop} {s:ah} {K:W.Frag} {x C:ai} {name:av} {v:af} {ox:bR} {od:Option bR}
theorem K9{expr:Bool}{Q:af->ah->Prop}(X:K.In s.heap)(I:InstAt s.heap x ox C od)(a:findIn K (.ref C) "__getattribute__"=ae (ae (.builtin "BaseException.__getattribute__")))(b:findIn K (.ref C) "__getattr__"=ae aq)
(f:subIn K (.ref C) (.type "BaseException")=ae aj)(i:findObj K C od name=ae (.value v))(j:handedIn v=aj)(h:Q v {s with toks:=s.toks+1}):wpAny (model prog w) A (getAttr (.ref x) name expr) Q E s:=by
 have FB:=PySem.F.attrBase_ValueError;have c:=I.type (M:=model prog w);have m:=looks_find (M:=model prog w) X I i;have n:Looks (model prog w) s.heap (hookBefore (.ref C)) aq:=looks_hook X (by rw[if_pos (by rfl)];exact b);refine ag (wpAny_mkText (cy (ag (c _ _ _ _ (λ_ _ e=>e) (ag (looks_findIn X a _ _ _ _ (λ_ _ e=>e) ?_))))));dsimp only;have o:(cE "BaseException.__getattribute__"==cE "object.__getattribute__")=ao:=by decide+kernel
 rw[show(abp (aR C)&&cE "BaseException.__getattribute__"==cE "object.__getattribute__")=ao from by rw[o,cw],if_neg (by decide)];refine ag (n _ _ _ _ (λ_ _ e=>e) (ag (fD (cy ?_))));unfold abq;rw[show(expr&&abp (cE "BaseException.__getattribute__"))=ao from cw _,if_neg (by decide)];unfold abB;rw[FB.ga.bind];refine ag (aB ?_);show wpAny _ _ (call (.builtin "BaseException.__getattribute__") [.ref x,.str name s.toks]) _ _ _;refine eK ?_;refine eV FB.ga.plain PySem.F.entry_bexc_ga ?_;refine@check_slot (model prog w) _ _ {s with toks:=s.toks+1} "BaseException.__getattribute__" "BaseException" "__getattribute__" (.ref x) [.str name s.toks] [] _ (by decide+kernel) (by decide+kernel) (c.andThen (looks_subIn X f)) (PySem.F.args_bexc_ga (.ref x) (.str name s.toks)) ?_;obtain⟨p,g,d,t,os⟩:=s;refine ag (aB (ag (aB (ag (c.at (ag (m.at ?_)))))));refine aB ?_;show wpAny _ _ (handedOut v) _ _ _;rw[handedOut_of j];exact aB h
end
end L2
namespace L2
open PySem PySem.Spec PyProof.Rows PySem.W
structure Az(K:W.Frag)(C:ai):Prop where
 hd:hasDictIn K C=aj
 ga:findIn K (.ref C) "__getattribute__"=ae (ae (.builtin "BaseException.__getattribute__"))
 gh:findIn K (.ref C) "__getattr__"=ae aq
 sb:subIn K (.ref C) (.type "BaseException")=ae aj
 cl:findIn K (.ref C) "__class__"=ae (ae (.builtin "object.__class__"))
 cg:specialIn K (.builtin "object.__class__") "__get__"=ae (ae (.builtin "getset_descriptor.__get__"))
 tk:takesIn K (.builtin "object.__class__")=ae aj
 ob:mroIn K C (.type "object")=ae aj
section
variable {prog:aw} {w:aN} {A:aH} {E:af->ah->Prop} {s:ah} {K:W.Frag} {x C:ai} {ox:bR} {od:Option bR}
theorem E7{Q:Option af->ah->Prop}(G:Az K C)(X:K.In s.heap)(I:InstAt s.heap x ox C od)(h:Q (ae (.ref C)) {s with toks:=s.toks+1}):wpAny (model prog w) A (getAttr? (.ref x) "__class__") Q E s:=by
 have FB:=PySem.F.attrBase_ValueError;have b:findObj K C od "__class__"=ae (.bind (.builtin "getset_descriptor.__get__") (.builtin "object.__class__")):=by obtain⟨cd,hc,_⟩:=any_some G.hd;unfold findObj;rw[hc,Option.bind_some,G.cl,Option.bind_some];dsimp only;rw[G.cg,Option.bind_some];dsimp only;rw[G.tk];rfl
 have a:=I.type (M:=model prog w);have c:=looks_find (M:=model prog w) X I b;have f:Looks (model prog w) s.heap (hookBefore (.ref C)) aq:=looks_hook X (by rw[if_pos (by rfl)];exact G.gh);unfold getAttr? getAttrBy?;refine ag (wpAny_mkText (ag (fD ?_)));unfold getAttrBy;refine cy (ag (a _ _ _ _ (λ_ _ e=>e) (ag (looks_findIn X G.ga _ _ _ _ (λ_ _ e=>e) ?_))));dsimp only;have i:(cE "BaseException.__getattribute__"==cE "object.__getattribute__")=ao:=by decide+kernel
 rw[show(abp (aR C)&&cE "BaseException.__getattribute__"==cE "object.__getattribute__")=ao from by rw[i,cw],if_neg (by decide)];refine ag (f _ _ _ _ (λ_ _ e=>e) (ag (fD (cy ?_))));unfold abq;rw[if_neg (by decide)];unfold abB;rw[FB.ga.bind];refine ag (aB ?_);show wpAny _ _ (call (.builtin "BaseException.__getattribute__") [.ref x,.str "__class__" s.toks]) _ _ _;refine eK ?_;refine eV FB.ga.plain PySem.F.entry_bexc_ga ?_;refine@check_slot (model prog w) _ _ {s with toks:=s.toks+1} "BaseException.__getattribute__" "BaseException" "__getattribute__" (.ref x) [.str "__class__" s.toks] [] _ (by decide+kernel) (by decide+kernel) (a.andThen (looks_subIn X G.sb)) (PySem.F.args_bexc_ga (.ref x) (.str "__class__" s.toks)) ?_;obtain⟨j,g,d,t,os⟩:=s;refine ag (aB (ag (aB (ag (a.at (ag (c.at ?_)))))));show wpAny _ _ (holding [cE "object.__class__"] (call (.builtin "getset_descriptor.__get__") [.builtin "object.__class__",.ref x,.ref C]) >>= ret) _ _ _;refine ag (cy (eK (class_get (s:=⟨j,g,d,t+1,os⟩) (ox:=ox) (od:=od) X I G.ob ?_)));refine aB ?_;show wpAny _ _ (handedOut (.ref C)) _ _ _;rw[handedOut_of rfl];exact aB (aB h)
theorem HC(G:Az K C):KitX K (.ref x) (.ref C) (λh=>InstAt h x ox C od) where
 ty:=λ_ _ _ I=>I.type
 it:=λ_ _ X _=>by
  obtain⟨b,a,_⟩:=any_some G.hd;unfold clsIn at a;split at a
  ·rename_i i j c m f;intro p r u v k q;unfold isType loadHead;exact ag (abA (k _ _ (X _ _ f)) (aB q))
  ·cases a
 ne:=λh o y g9 n sl X g=>by
  obtain⟨b,a,_⟩:=any_some G.hd;refine d7.mpr λq=>?_;have e:C=o:=aR.inj (beq_iff_eq.mp q);subst e;unfold clsIn at a;split at a
  ·rename_i i j c m f;have z:=(X _ _ f).symm.trans g;cases z
  ·cases a
 ca:=λX I k=>E7 G X I k
end
section
variable {X:Cx} {pins:List (ai×bR)} {σ:St} {H:Hp} {s:ah} {o:aS} {ta:TE} {f:av} {pos:cC}
theorem Inv.excAt{a C:ai}{fs:List (av×V)}{f:av}(I:Inv X pins σ H s)(h:H a=ae (.xc C fs)):
  ∃i c,InstAt s.heap a i C c/\∀v,fs.lookup f=ae v->∃u d,c=ae d/\lookIn f d=ae (ae u)/\RelV v u:=by
 obtain⟨j,G,g,m,n,b⟩:=(show iD X.prog X.w H s.heap a (.xc C fs) from I.iE a _ h);obtain⟨oc,odd,J,yb⟩:=j;cases m;cases n;rcases b with⟨b,rfl⟩|⟨p,y,b,ne,L,A,r⟩
 ·cases(show odd=aq from b);exact⟨_,aq,⟨g,rfl,rfl,trivial⟩,λv e=>by cases e⟩
 ·cases(show odd=ae p from b);obtain⟨d,B,E⟩:=xa A;refine⟨_,ae d,⟨g,rfl,rfl,B⟩,λv e=>?_⟩;have q:=r f;rw[e] at q;cases z:y f with
  |none=>rw[z] at q;exact q.elim
  |some u=>rw[z] at q;exact⟨u,d,rfl,by rw[E,z],q⟩
def Ts (K:W.Frag)(ta:TE)(f:av):TE:=λσ H Q=>ta σ H λx H1=>∃a C fs v,x=.ref a/\H1 a=ae (.xc C fs)/\Az K C/\mZ K C f/\fs.lookup f=ae v/\Q v H1
theorem La(e:PE X o ta)(hb:cQ o f X.env (eval o X.env)=eval o X.env):PE X (.Attribute o f pos) (Ts X.K ta f):=by intro pins s σ H Q I h;refine JV hb (ji (e pins s σ H _ I h) λu s1 g=>?_);obtain⟨x,H1,b,i,a,C,fs,v,ex,j,G,na,m,q⟩:=g;subst ex;obtain rfl:u=aR a:=i;obtain⟨p,r,J,L⟩:=b.excAt (f:=f) j;obtain⟨u,d,rfl,n,c⟩:=L v m;exact K9 b.ni J G.ga G.gh G.sb (findObj_own G.hd na rfl n) (Ey c) ⟨v,H1,b.tk _,c,q⟩
theorem Lb{A:aH}{E:af->ah->Prop}{a C:ai}{fs:List (av×V)}{c:af}{b:Bool}{Q:af->ah->Prop}(I:Inv X pins σ H s)(g:H a=ae (.xc C fs))(G:Az X.K C)(e:kitOne X.K (.ref C) c=ae b)
(h:∀tk,Q (.bool b) {s with toks:=tk}):wpAny (model X.prog X.w) A (call (.builtin "isinstance") [.ref a,c]) Q E s:=by obtain⟨i,j,J,_⟩:=I.excAt (f:=("":av)) g;exact kia_one (HC G) I.ni J e (λz=>nomatch z) h
end
end L2
namespace L2
open PySem PySem.Spec PyProof.Rows PySem.W
abbrev XS:=St->XK
def rW (X:Cx)(E:XS):Prop:=∀(pins:List (ai×bR)) (σ:St) (H:Hp) (s:ah) (e:af) (a:ah),Inv X pins σ H s->K4 X.prog X.w X.stack H s (E σ) e a->X.xe e a
section
variable {P:aw} {w:aN} {K:W.Frag} {mg:av->Option af} {base:az} {N:List av} {qual:av} {scope:b6} {f:ai} {cd:af} {A:aH} {outer:List d4} {ib:ah} {il:Hp} {E:XK}
end
section
variable {X:Cx} {k:Nat} {f C:ai} {fd:bN} {ps:List av} {sp:Sp} {E:XS} {x m:av} {p pos apos:cC} {e o:aS} {es:List aS} {ta:TE} {t:TA}
theorem Lc{pins:List (ai×bR)}{σ:St}{H:Hp}{s:ah}{Q:VK}{us:List af}{b:List V}(F:kb X.prog X.w X.K X.mg X.base (K4 X.prog X.w) k f fd ps sp)(g:js k X.A)(hb:Binds X.K fd ps [])(i:rW X E)
(I:Inv X pins σ H s)(r:Vals b us)(h:sp b H Q (E σ)):wpAny (model X.prog X.w) X.A (call (.ref f) us) (EP X pins σ Q) X.xe s:=by
 have j:us.length=ps.length:=by rw[<-r.length];exact F.len _ _ _ _ h
 have c:=hb s us I.ni (by rw[bf];exact j);rw[bf] at c;refine eK (dR (F.run X.A X.stack s H ⟨us,[]⟩ us b Q (E σ) g I.Ot c r h) λr n a=>?_);cases r with
 |error e=>exact i pins σ H s e n I a
 |ok fl=>
  cases fl with
  |ret u=>exact I.after a
  |next=>exact b8 a
  |brk=>exact b8 a
  |cont=>exact b8 a
def Pw (sp:Sp)(E:XS)(t:TA):TE:=λσ H Q=>t σ H λa H1=>sp a H1 Q (E σ)
def tF (P:aw)(w:aN)(K:W.Frag)(mg:av->Option af)(base:az)(k:Nat)(x:av)(ps:List av)(sp:Sp):Prop:=
 ∃f fd,mg x=ae (.ref f)/\W.keepIn K (.ref f)=aj/\Binds K fd ps []/\kb P w K mg base (K4 P w) k f fd ps sp
theorem Px(h:tF X.prog X.w X.K X.mg X.base k x ps sp)(g:js k X.A)(i:rW X E)(ha:PA X (e::es) t)(j:Gl X x:=by rfl)(n:(x==("__debug__":av))=ao:=by decide)
(u:aJ (e::es) X.env=(ao,eval e X.env)::aJ es X.env:=by rfl)(v:(cb pos (aJ es X.env)).any (·.1)=ao:=by rfl):
  PE X (.Call (.Name x p) (e::es) [] pos) (Pw sp E t):=by obtain⟨f,fd,m,kp,b,F⟩:=h;intro pins s σ H Q I h;refine dw (pU I j m ?_ n);refine W.callWith_K (h₀:=X.base) I.ok.mod.JD kp (ji (ha pos pins s σ H _ I h) λus s1 ⟨y,H1,c,r,q⟩=>⟨c.ni,?_⟩) u v;exact Lc F g b i c r q
end
section
variable {P:aw} {w:aN} {K:W.Frag} {mg:av->Option af} {base:az}
theorem tF.mono{j k:Nat}{x:av}{ps:List av}{sp:Sp}(h:tF P w K mg base j x ps sp)(a:j<=k):tF P w K mg base k x ps sp:=by obtain⟨f,fd,m,kp,b,F⟩:=h;exact⟨f,fd,m,kp,b,F.mono a⟩
theorem tF.imp{k:Nat}{x:av}{ps:List av}{sp a:Sp}(h:tF P w K mg base k x ps sp)(i:∀c H Q E,a c H Q E->sp c H Q E):tF P w K mg base k x ps a:=by obtain⟨f,fd,m,kp,b,F⟩:=h;exact⟨f,fd,m,kp,b,F.imp i⟩
theorem gY.Xd{x:av}{st:b3}{N ps:List av}{k:Nat}{sp:Sp}{body:List b3}{scope:b6}(F:gY K mg x st)(b:ix st=body)(es:hG st=scope)(S:jQ N ps scope)
(hb:∀(kV doc pm:af) (an:Option ai) (iC ct:af) (us:List af),us.length=ps.length->dY (W.fnOf x x (jz st) (ix st) (hG st) .none kV doc pm an iC ct) ⟨us,[]⟩=pure (ps.zip us))
(len:∀a H Q E,sp a H Q E->a.length=ps.length)
(c:∀(f:ai) (iC:af) (A:aH) (outer:List d4) (s:ah) (H:Hp) (a:List V) (Q:VK) (E:XK),js k (A.deeper (dO x scope s.heap.objs.size f iC))->sp a H Q E->
   ∃t,rn (vT P w K mg base N x scope f iC A outer s H E) body t/\t {nx:=λ_ e=>Q .non e,rt:=Q} (start N a) H):tF P w K mg base (k+1) x ps sp:=by subst b es;obtain⟨f,fd,F,m⟩:=F;refine⟨f,fd,m,F.kp,F.binds hb,?_⟩;obtain⟨oc,od,kV,doc,pm,an,iC,ct,yb,rfl,lk,g⟩:=F.ex;exact ME lk g S len λA outer s H a Q E h i=>c f iC A outer s H a Q E h i
end
def yA (H:Hp)(od:Option ai):Prop:=∀a,od=ae a->∀q,H a≠ae (L2.z0 a q)
def Tu (K:W.Frag)(i:Nat)(B:ai)(tb:XS->TS)(th:TS):TS:=λD σ H=>
 tb (λb C od a=>∃c fs,C=.ref c/\Cf K c B/\Nl a od fs/\∀x,a x=aq->yA a od->th (dE i D) (b.set i (ae (.ref x))) (Nm a x c od fs)) D σ H
theorem Inv.Py{X:Cx}{pins:List (ai×bR)}{σ:St}{H:Hp}{s:ah}{od:Option ai}{fs:List (av×V)}(I:Inv X pins σ H s)(h:Nl H od fs):yA H od:=λa e q z=>by subst e;obtain⟨⟨j,i,_,_⟩,_⟩:=(show iD X.prog X.w H s.heap a (xH a fs) from I.iE a _ h);obtain⟨c,_⟩:=(show iD X.prog X.w H s.heap a (L2.z0 a q) from I.iE a _ z);obtain⟨m,oc,n,t,e,b,f,_⟩:=c;cases e;obtain⟨o,es,p,g⟩:=i;rw[g.1] at b;cases b;rw[g.2.1] at f;cases f
section
variable {X:Cx} {i:Nat} {n tn:av} {tp Ay pos:cC} {B:ai} {body:List b3} {Ch:b3} {vU:List b3} {tb:XS->TS} {th:TS}
theorem Ld(jv:X.stack=X.env::X.outer)(K3:X.env.frame=ae X.env.locals)(G:X.N.Nodup)(hi:X.N[i]?=ae n)(U:X.env.kindOf n=ae .local)(Hj:Loc X.env.scope n)(hf:X.fn n=aj\/X.env.scope.names.lookup n=ae .local)
(hg:Gl X tn)(hm:X.mg tn=ae (.ref B))(qD:(tn==("__debug__":av))=ao)
(hb:∀(pn:List (ai×bR)) (E':af->ah->Prop) (Ex:XS),rW (X.wp pn E') Ex->rn (X.wp pn E') body (tb Ex))
(hh:∀e,rn (X.FO e) (Ch::vU) th):
  PS X (.Try body [.ExceptHandler (ae (.Name tn tp)) (ae n) (Ch::vU) Ay] [] [] pos) (Tu X.K i B tb th):=by
 intro pins s σ H D I h;refine wpAny_Try_except ?_;have len:=I.len;have BE:=I.ok;refine cz (hb (X.pn++pins) (λe iH=>wpAny (model X.prog X.w) X.A (aay e X.env) (λ_ zR=>wpAny (model X.prog X.w) X.A (aaz e aq) (λ_ vj=>wpAny (model X.prog X.w) X.A (handleBy e X.env [.ExceptHandler (ae (.Name tn tp)) (ae n) (Ch::vU) Ay]) (SP X pins D) X.xe vj) X.xe zR) X.xe iH)
  (λm C od g=>∃c fs,C=.ref c/\Cf X.K c B/\Nl g od fs/\∀x,g x=aq->yA g od->th (dE i D) (m.set i (ae (.ref x))) (Nm g x c od fs)) ?_ [] s σ H D (I.wp _) h) (λf s1 q=>?_) λe s1 q=>q
 ·intro t7 My H1 s1 e o I1 hc;obtain⟨x,C,od,g,T,rfl,ho,hgb,u,iE,hr,hx,hT,Pz,Tv,c,fs,rfl,sub,Zb,hth⟩:=hc;have Y:=I1.zM (ch:=[]) ho u iE hgb (λb hb=>by cases hb);have L:=I1.HB hx;have fT:=I1.HB hT;have Xe:X.A.frames=ae (X.env::X.outer):=by rw[<-jv];exact BE.frames
  have Xf:o.heap.FunFrames X.base (X.env::X.outer):=by rw[<-jv];exact Y.stack
  refine E3 Xe Xf K3 hr λM T' Tr O hL=>?_;have SG:E2 (oV X.stack) [x,T] o.heap M:=by rw[jv];exact hL
  have I3:Inv (X.wp (X.pn++pins) _) t7 My g {o with heap:=M}:=Y.Nj (t':=o.toks) (R:=[x,T]) (λb hb=>by
   rcases aE.mp hb with rfl|hb
   ·exact⟨L,Pz⟩
   ·cases aZ.mp hb;exact⟨fT,Tv⟩) SG
  have Vb:=Y.HB Tr;have Xg:g T'=aq:=Y.iE.fresh Tr;have J:Inv X pins My g {o with heap:=M}:=I3.wO BE;have gx:Ps X pins x:=⟨L.s0,L.lo,L.ce,λp hp=>L.pi p (br _ hp)⟩;have gT:Ps X pins T':=⟨Vb.s0,Vb.lo,Vb.ce,λp hp=>Vb.pi p (br _ hp)⟩;have O:Rec ({o with heap:=M}:ah).heap x (.ref c) od T':=O;generalize ({o with heap:=M}:ah)=s3 at J O ⊢;have J':=J.FO (.ref x);refine wpAny_handleBy_cons (codeAny_handlers_test (pU (X:=X.FO (.ref x)) J' hg hm ?_ qD)) (by intro q;cases q);have Va:=O;obtain⟨oe,vs,oT,ts,he,hc1,VY,_⟩:=Va;refine Cg (X:=X) J.ni he hc1 sub ?_;refine codeAny_handlers_suite_as (E6 (X:=X) J O gT Xg λs4 J4 r4=>?_);refine w4 (X:=X) J4 G hi Hj (v:=.ref x) rfl (λs5 J5 ⟨a,hs,ha⟩=>?_) hf;have hxa:x≠a:=by
   rcases ha with rfl|ha
   ·exact gx.lo
   ·exact b4 (gx.ce _ a ha)
  have J6:Inv X pins (My.set i (ae (.ref x))) (Nm g x c od fs) s5:=by obtain⟨oe,vs,_,_,e,h1,h2,h3,_⟩:=r4;exact J5.Ce Pz gx Zb ((hs.2 x hxa).trans e) h1 h2 h3
  refine cz (hh (.ref x) pins s5 _ _ (dE i D) (J6.FO _) (hth x Pz (J.Py Zb))) (λf s6 q=>?_) λ_ _ z=>z.elim;show wpAny (model X.prog X.w) X.A (do bindName X.env n .none;aa1 X.env n Ay) (λ_ Q=>SP X pins D f Q) X.xe s6;cases f with
  |next=>obtain⟨m,y,j,q⟩:=q;exact rV (j.DQ BE) G hi U λQ E=>⟨_,y,E,q⟩
  |brk=>obtain⟨m,y,j,q⟩:=q;exact rV (j.DQ BE) G hi U λQ E=>⟨_,y,E,q⟩
  |cont=>obtain⟨m,y,j,q⟩:=q;exact rV (j.DQ BE) G hi U λQ E=>⟨_,y,E,q⟩
  |ret u=>obtain⟨v,m,y,j,r,q⟩:=q;exact rV (j.DQ BE) G hi U λQ E=>⟨v,_,y,E,r,q⟩
 ·cases f with
  |next=>
   obtain⟨m,g,j,q⟩:=q;exact fZ ⟨m,g,j.wO BE,q⟩
  |brk=>exact SP.wO (f:=.brk) BE q
  |cont=>exact SP.wO (f:=.cont) BE q
  |ret u=>exact SP.wO (f:=.ret u) BE q
end
end L2
namespace L3
open PySem PySem.Spec PyProof.Rows L2
structure EX where
 C:ai
 ns:List av
 ds:List D
abbrev yB:=EX->j2->Ms->Prop
def yB.le(x y:yB):Prop:=∀e a M,x e a M->y e a M
theorem yB.rfl(x:yB):x.le x:=λ_ _ _ h=>h
abbrev xK(K:W.Frag)(F α:List ai)(H:Hp)(M:Ms)(E:XS):yB:=λx g c=>∀e b a od f,Ext F α H M b a c->R K F b a e g c->x.ns.length=x.ds.length->Nl a od (x.ns.zip f)->gp K b (iG F b c a) x.ds f->E e (.ref x.C) od a
theorem xK.grow{K:W.Frag}{F α a:List ai}{H b:Hp}{M c:Ms}{E:XS}(e:Ext F α H M a b c):yB.le (xK K F α H M E) (xK K F a b c E):=λx m n h f g i od j e2=>h f g i od j (e.trans e2)
abbrev XE:=yB->DE
abbrev XA:=yB->DA
abbrev XB:=yB->DS
def lEX (K:W.Frag)(E:XS)(t:XE):TE:=λσ H Q=>∃F α a M,R K F α H σ a M/\t (xK K F α H M E) a M (vK K F α H M Q)
def lAX (K:W.Frag)(E:XS)(t:XA):TA:=λσ H Q=>∃F α a M,R K F α H σ a M/\t (xK K F α H M E) a M (aK K F α H M Q)
def Xh (K:W.Frag)(E:XS)(t:XB):TS:=λD σ H=>∃F α a M,R K F α H σ a M/\t (xK K F α H M E) (lw K F α H M D) a M
structure Zc(X:Cx)(E:XS)(e:aS)(t:XE):Prop where
 mono:∀(x y:yB) δ M (P Q:DK),x.le y->(∀d M,P d M->Q d M)->t x δ M P->t y δ M Q
 p:PE X e (lEX X.K E t)
structure Zd(X:Cx)(E:XS)(es:List aS)(t:XA):Prop where
 mono:∀(x y:yB) δ M (P Q:List D->Ms->Prop),x.le y->(∀d M,P d M->Q d M)->t x δ M P->t y δ M Q
 p:PA X es (lAX X.K E t)
structure PB(X:Cx)(E:XS)(st:b3)(t:XB):Prop where
 mono:∀(x y:yB) (P Q:iV) δ M,x.le y->P.le Q->t x P δ M->t y Q δ M
 p:PS X st (Xh X.K E t)
structure Jv(X:Cx)(E:XS)(st:List b3)(t:XB):Prop where
 mono:∀(x y:yB) (P Q:iV) δ M,x.le y->P.le Q->t x P δ M->t y Q δ M
 p:rn X st (Xh X.K E t)
section
variable {X:Cx} {E:XS} {c e:aS} {te:XE} {tt:XA} {tA:DT} {t u:XB} {pos p p2:cC} {x:av} {st:b3} {BC as bs:List b3} {es:List aS}
theorem JA.FS{t:DA}(h:JA X es t):Zd X E es λ_=>t:=⟨λx y a M P Q _ w q=>h.mono _ _ _ _ w q,h.p⟩
theorem JS.FS{t:DS}(h:JS X st t):PB X E st λ_=>t:=⟨λx y P Q a M _ w q=>h.mono _ _ _ _ w q,h.p⟩
theorem wJ.FS{t:DS}(h:wJ X BC t):Jv X E BC λ_=>t:=⟨λx y P Q a M _ w q=>h.mono _ _ _ _ w q,h.p⟩
abbrev FT:=List D->(D->Prop)->(EX->Prop)->Prop
abbrev xI(g:FT):Prop:=∀ds (P Q:D->Prop) (x y:EX->Prop),(∀d,P d->Q d)->(∀e,x e->y e)->g ds P x->g ds Q y
abbrev yK(K:W.Frag)(F α:List ai)(H:Hp)(M:Ms)(E:XK):EX->Prop:=λx=>∀a od b,Ext F α H M α a M->OK K F α a M->x.ns.length=x.ds.length->Nl a od (x.ns.zip b)->gp K α (iG F α M a) x.ds b->E (.ref x.C) od a
def AA (K:W.Frag)(g:FT):Sp:=λa H Q E=>∃F α M ds,OK K F α H M/\gp K α (iG F α M H) ds a/\ql ds=aj/\g ds (λd=>vK K F α H M Q d M) (yK K F α H M E)
structure DR(P:aw)(w:aN)(K:W.Frag)(mg:av->Option af)(base:az)(k:Nat)(x:av)(ps:List av)(g:FT):Prop where
 mono:xI g
 p:tF P w K mg base k x ps (AA K g)
def Ze (g:FT)(tt:XA):XE:=λx a M Q=>tt x a M λds M1=>ql ds=aj/\g ds (λd=>Q d M1) λe=>x e a M1
theorem Tw{k:Nat}{ps:List av}{g:FT}(h:DR X.prog X.w X.K X.mg X.base k x ps g)(b:js k X.A)(f:rW X E)(ha:Zd X E (e::es) tt)(m:Gl X x:=by rfl)(n:(x==("__debug__":av))=ao:=by decide)
(o:aJ (e::es) X.env=(ao,eval e X.env)::aJ es X.env:=by rfl)(z:(cb pos (aJ es X.env)).any (·.1)=ao:=by rfl):Zc X E (.Call (.Name x p) (e::es) [] pos) (Ze g tt):=by refine⟨λx y a M P Q v w q=>ha.mono _ _ a _ _ _ v (λds M1 q=>⟨q.1,h.mono _ _ _ _ _ (λd q=>w _ _ q) (λe q=>v _ _ _ q) q.2⟩) q,PE.weak (Px h.p b f ha.p m n o z) λσ H Q q=>?_⟩;obtain⟨F,α,a,M,r,q⟩:=q;refine⟨F,α,a,M,r,ha.mono _ _ a _ _ _ (yB.rfl _) (λds M1 q I i H1 e1 j B=>?_) q⟩;exact⟨F,i,M1,ds,j,B,q.1,h.mono _ _ _ _ _ (λd q=>vK.grow e1 _ _ q) (λex q C od ws e2 G l f b=>q σ i C od ws (e1.trans e2) ((r.grow e1 j).grow e2 G) l f b) q.2⟩
def AB (t u:XB):XB:=λx=>gC (t x) (u x)
theorem nV(h:PB X E st t):Jv X E [st] t:=⟨h.mono,C7 h.p⟩
theorem mF(a:PB X E st t)(b:Jv X E BC u):Jv X E (st::BC) (AB t u):=by refine⟨λx y P Q f M v w q=>a.mono _ _ {P with nx:=u x P} {Q with nx:=u y Q} _ _ v ⟨λf M q=>b.mono _ _ _ _ _ _ v w q,w.rt,w.bk,w.ct⟩ q,rn.weak (rz a.p b.p) λD σ H q=>?_⟩;obtain⟨F,α,f,M,r,q⟩:=q;refine⟨F,α,f,M,r,a.mono _ _ _ _ _ _ (yB.rfl _) ?_ q⟩;exact⟨λg M1 q j h H1 e1 i=>⟨F,h,g,M1,i,b.mono _ _ _ _ _ _ (xK.grow e1) (lw.grow e1) q⟩,λ_ _ q=>q,λ_ _ q=>q,λ_ _ q=>q⟩
def Tx (te:XE):XB:=λx=>gL (te x)
theorem Le(b:Zc X E e te):PB X E (.Return (ae e) pos) (Tx te):=
 ⟨λx y P Q a M v w q=>b.mono _ _ a _ _ _ v w.rt q,PS.weak (F2 b.p) λD σ H ⟨F,α,a,M,r,q⟩=>⟨F,α,a,M,r,q⟩⟩
def Rl (c:DT)(t u:XB):XB:=λx=>ik c (t x) (u x)
theorem yC(hc:JT X c tA)(ha:Jv X E as t)(hb:Jv X E bs u):PB X E (.If c as bs pos) (Rl tA t u):=by
 refine⟨λx y P Q a M v w q=>hc.mono a _ _ _ (λb M1 q=>?_) q,PS.weak (Mw hc.p ha.p hb.p) λD σ H q=>?_⟩
 ·cases b with
  |true=>rw[if_pos rfl] at q ⊢;exact ha.mono _ _ _ _ _ _ v w q
  |false=>rw[if_neg am] at q ⊢;exact hb.mono _ _ _ _ _ _ v w q
 ·obtain⟨F,α,a,M,r,q⟩:=q;refine⟨F,α,a,M,r,hc.mono a _ _ _ (λb M1 q f H1 e1 g=>?_) q⟩;cases b with
  |true=>
   rw[if_pos rfl] at q;show(if aj=aj then _ else _);rw[if_pos rfl];exact⟨F,f,a,M1,r.grow e1 g,ha.mono _ _ _ _ _ _ (xK.grow e1) (lw.grow e1) q⟩
  |false=>
   rw[if_neg am] at q;show(if ao=aj then _ else _);rw[if_neg am];exact⟨F,f,a,M1,r.grow e1 g,hb.mono _ _ _ _ _ _ (xK.grow e1) (lw.grow e1) q⟩
end
end L3
namespace L3
open PySem PySem.Spec PyProof.Rows L2
section
variable {P:aw} {w:aN} {K:W.Frag} {mg:av->Option af} {base:az}
theorem Tz{k:Nat}{x:av}{ps:List av}{g a:FT}(h:tF P w K mg base k x ps (AA K g))(m:xI a)(i:∀ds Q y,a ds Q y->g ds Q y):DR P w K mg base k x ps a:=
 ⟨m,h.imp λb H Q E ⟨F,α,M,ds,o,r,n,q⟩=>⟨F,α,M,ds,o,r,n,i _ _ _ q⟩⟩
end
noncomputable def PC(v:V):Bool:=match v with|.int n=>decide (n.natAbs.log2<1920)&&decide ((toString n:av).length<=4000)|.str y=>decide (y.length<=4000)|_=>ao
noncomputable def E8(v:D):Bool:=match v with|.int n=>decide (n.natAbs.log2<1920)&&decide ((toString n:av).length<=4000)|.str y=>decide (y.length<=4000)|_=>ao
theorem HD{K:W.Frag}{α:List ai}{H:Hp}:∀(ds:List D) (a:List V),gp K α H ds a->ds.all E8=aj->a.all PC=aj
 |[],a,r,_=>by unfold gp at r;subst r;rfl
 |d::ds,a,r,h=>by unfold gp at r;obtain⟨v,ws,rfl,b,e⟩:=r;rw[dm,aD] at h ⊢;refine⟨?_,HD ds ws e h.2⟩;have c:=h.1;cases d<;>first|(cases c;done)|(unfold Rep at b;subst b;exact c)
def Vc (C:ai)(ns:List av):Sp:=λb H Q _=>∃x ws,b=.ref x::ws/\ws.length=ns.length/\ws.all PC=aj/\H x=ae (lH x C aq)/\
 ∀a,H a=aq->a≠x->Q .non (upd (upd H a (xH a (ns.zip ws))) x (lH x C (ae a)))
theorem Lf{H:Hp}{x e:ai}{a b c:HO}(g:H x=aq)(ne:e≠x):Jt x (upd (upd (upd H x a) e b) x c)=upd H e b:=by
 funext y;by_cases h:y=x
 ·subst h;rw[rT,gy (b4 ne),g]
 ·rw[yz h,gy h];by_cases f:y=e
  ·subst f;rw[gH,gH]
  ·rw[gy f,gy f,gy h]
def vV (C:ai)(ns:List av)(tt:DA):XB:=λx _ a M=>tt a M λds M1=>ds.length=ns.length/\ds.all E8=aj/\ds.length<=ax/\x ⟨C,ns,ds⟩ a M1
section
variable {P:aw} {w:aN} {K:W.Frag} {mg:av->Option af} {base:az} {N:List av} {qual:av} {scope:b6} {fn:ai} {cd:af} {A:aH} {outer:List d4} {ib:ah} {il:Hp} {E:XK}
variable {k:Nat} {f C:ai} {fd:bN} {ps ns:List av} {x:av} {p pos iz:cC} {e:aS} {es:List aS} {tt:DA}
structure yD(P:aw)(w:aN)(K:W.Frag)(mg:av->Option af)(base:az)(k:Nat)(x:av)(C:ai)(ns:List av):Prop where
 m:mg x=ae (.ref C)
 ok:∃f fd ps,Pp K C f/\Binds K fd ps []/\kb P w K mg base ud k f fd ps (Vc C ns)
theorem tG(h:yD P w K mg base k x C ns)(B:js (k+1) (vT P w K mg base N qual scope fn cd A outer ib il E).A)(ha:JA (vT P w K mg base N qual scope fn cd A outer ib il E) (e::es) tt)(G:Gl (vT P w K mg base N qual scope fn cd A outer ib il E) x:=by rfl)
(I:(x==("__debug__":av))=ao:=by decide)
(J:aJ (e::es) (vT P w K mg base N qual scope fn cd A outer ib il E).env=(ao,eval e (vT P w K mg base N qual scope fn cd A outer ib il E).env)::aJ es (vT P w K mg base N qual scope fn cd A outer ib il E).env:=by rfl)
(L:(cb iz (aJ es (vT P w K mg base N qual scope fn cd A outer ib il E).env)).any (·.1)=ao:=by rfl):
  PB (vT P w K mg base N qual scope fn cd A outer ib il E) (λ_=>E) (.Raise (ae (.Call (.Name x p) (e::es) [] iz)) aq pos) (vV C ns tt):=by obtain⟨hm,f,fd,ps,M,hb,F⟩:=h;refine⟨λx y P Q b M v w q=>ha.mono b _ _ _ (λds M1 q=>⟨q.1,q.2.1,q.2.2.1,v _ _ _ q.2.2.2⟩) q,PS.weak (HA M F (λc H Q Q' w ⟨x,ws,g,i,j,m,O⟩=>⟨x,ws,g,i,j,m,λa T U=>w _ _ (O a T U)⟩) B hb G hm ha.p I J L) λD σ H q=>?_⟩;obtain⟨F,α,b,M,r,q⟩:=q;refine⟨F,α,b,M,r,ha.mono b _ _ _ (λds M1 q c Y H1 e1 o n=>?_) q⟩;obtain⟨g,i,j,m⟩:=q;have u:=gp.length _ _ n;refine⟨by rw[<-u];exact j,λx hx=>⟨x,c,rfl,by rw[<-u];exact g,HD _ _ n i,gH,λa z ne=>⟨rfl,ae a,gH,?_⟩⟩⟩;rw[gy ne] at z;rw[Lf hx ne];obtain⟨o2,e2⟩:=o.laid (x:=xH a (ns.zip c)) z;exact m σ Y _ (ae a) c (e1.trans e2) ((r.grow e1 o).grow e2 o2) g.symm gH (e2.z6 n)
end
end L3
namespace L3
open PySem PySem.Spec PyProof.Rows L2
section
variable {K:W.Frag} {F α gO:List ai} {H H':Hp} {M M':Ms} {σ:L2.St} {δ:j2}
theorem R.unset(r:R K F α H σ δ M)(i:Nat):R K F α H (σ.set i aq) (δ.set i aq) M:=by
 refine⟨r.ok,by simp[r.len],λj d h=>?_⟩;by_cases a:j=i
 ·subst a;rw[List.getElem?_set] at h;by_cases b:j<δ.length
  ·simp[b] at h
  ·simp[b] at h
 ·rw[cn (b4 a)] at h ⊢;exact r.sl j d h
theorem OK.ghost(o:OK K F α H M){p:ai}{x:HO}{m:az->Prop}(g:H p=ae (.ext m))(n:∀q,H p≠ae (z0 p q)):OK K F α (upd H p x) M/\Ext F α H M α (upd H p x) M:=by
 have u:pq (H p)=aq:=by rw[g]
 have oV:∀a,pq (H a)≠aq->upd H p x a=H a:=λa h=>gy λz=>by subst z;exact h u
 have i:jd (iG F α M H) (iG F α M (upd H p x)):=λb y q=>by obtain⟨z,j,w⟩:=my q;exact ko q z (by rw[oV b (by rw[j,w];exactλz=>by cases z)];exact j)
 refine⟨⟨o.ml,o.nd,λa ha=>⟨(o.fr a ha).1,by rw[oV a (o.fr a ha).2];exact(o.fr a ha).2⟩,λa ha=>by rw[oV a (o.al a ha)];exact o.al a ha,λk y h=>?_,λy A c P e=>?_⟩,⟨aX _,i,λa ha=>oV a (o.fr a ha).2⟩⟩
 ·obtain⟨a,e,r⟩:=o.own k y h;exact⟨a,e,r.mono (aX _) i (oV a r.pq)⟩
 ·obtain⟨ps,f,B,C⟩:=o.tb y A c P e;refine⟨ps,by rw[gy λz=>by rw[z,g] at f;cases f];exact f,B,λpos v E=>?_⟩;obtain⟨G,e1,e2⟩:=C pos v E;exact⟨G,e1,by rw[gy λz=>by subst z;exact n _ e2];exact e2⟩
theorem OK.Ce(o:OK K F α H M){x c:ai}{od:Option ai}{fs:List (av×V)}(a:H x=aq)(xd:Nl H od fs)(g:yA H od):OK K F α (Nm H x c od fs) M/\Ext F α H M α (Nm H x c od fs) M/\iG F α M (Nm H x c od fs) x=ae (.xc c fs):=by
 have f:∀H1,iT (lv α M++F) (upd H1 x (.xc c fs)) x=ae (.xc c fs):=λH1=>jE (o.new a) gH rfl;cases od with
 |none=>
  obtain⟨e,e1⟩:=o.laid (x:=.xc c fs) a;exact⟨e,e1,f _⟩
 |some b=>
  have hd:H b=ae (xH b fs):=xd;obtain⟨e,e1⟩:=o.ghost (x:=.own x) hd (g b rfl);have ne:x≠b:=λz=>by rw[<-z,a] at hd;cases hd
  obtain⟨h,e2⟩:=e.laid (p:=x) (x:=.xc c fs) (by rw[gy ne];exact a);exact⟨h,e1.trans e2,f _⟩
end
noncomputable def Zf(i:Nat)(E:iV):iV:=⟨λa M=>E.nx (a.set i aq) M,E.rt,λa M=>E.bk (a.set i aq) M,λa M=>E.ct (a.set i aq) M⟩
def TB (K:W.Frag)(i:Nat)(B:ai)(tb:XB)(th:DS):DS:=λE a M=>tb (λe b c=>Cf K e.C B/\th (Zf i E) (b.set i (ae (.exc e.C e.ns e.ds))) c) E a M
section
variable {X:Cx} {E:XS} {e:aS} {pos:cC}
theorem PD{i:Nat}{n h:av}{T U:cC}{B:ai}{body:List b3}{Ch:b3}{v:List b3}{tb:XB}{th:DS}(Y:X.N.Nodup)(hm:X.mg h=ae (.ref B))
(hb:∀(pn:List (ai×bR)) (j:af->ah->Prop) (a:XS),rW (X.wp pn j) a->Jv (X.wp pn j) a body tb)
(y:∀e,wJ (X.FO e) (Ch::v) th)(hi:X.N[i]?=ae n:=by rfl)(hk:X.env.kindOf n=ae .local:=by rfl)(Hj:Loc X.env.scope n:=by first|exact eH rfl|exact di rfl)(hf:X.fn n=aj\/X.env.scope.names.lookup n=ae .local:=by first|exact .inl rfl|exact .inr rfl|assumption)
(hg:Gl X h:=by rfl)(qD:(h==("__debug__":av))=ao:=by decide)(jv:X.stack=X.env::X.outer:=by rfl)(K3:X.env.frame=ae X.env.locals:=by rfl):
  JS X (.Try body [.ExceptHandler (ae (.Name h T)) (ae n) (Ch::v) U] [] [] pos) (TB X.K i B tb th):=by
 have z:=(y .none).mono;have A:=(hb [] (λ_ _=>True) (λ_ _ _ _=>False) λ_ _ _ _ _ _ _ _=>trivial).mono;refine⟨λP Q G M w q=>A _ _ _ _ _ _ (λe j3 m q=>⟨q.1,z _ _ _ _ ?_ q.2⟩) w q,PS.weak (Ld (tb:=λa=>Xh X.K a tb) (th:=lS X.K th) jv K3 Y hi hk Hj hf hg hm qD (λpn j a hp=>(hb pn j a hp).p) λe=>(y e).p) λD σ H q=>?_⟩
 ·exact⟨λ_ _ q=>w.nx _ _ q,w.rt,λ_ _ q=>w.bk _ _ q,λ_ _ q=>w.ct _ _ q⟩
 ·obtain⟨F,α,G,M,r,q⟩:=q;refine⟨F,α,G,M,r,A _ _ _ _ _ _ (λex j3 m ⟨sub,q⟩ iP o H' od u e1 I l xd rp=>⟨ex.C,ex.ns.zip u,rfl,sub,xd,λx hx nc=>?_⟩) (iV.le.refl _) q⟩;obtain⟨o2,e2,Po⟩:=I.ok.Ce (c:=ex.C) hx xd nc;have rx:Rep X.K o (iG F o m (Nm H' x ex.C od (ex.ns.zip u))) (.exc ex.C ex.ns ex.ds) (.ref x):=by unfold Rep;exact⟨x,u,rfl,Po,l,e2.z6 rp⟩
  refine⟨F,o,_,m,(I.grow e2 o2).set rx,z _ _ _ _ ?_ q⟩;have Rm:=e1.trans e2;exact⟨λJ L q O b f e3 g=>q _ b f (Rm.trans e3) (g.unset i),vK.grow Rm,λJ L q O b f e3 g=>q _ b f (Rm.trans e3) (g.unset i),λJ L q O b f e3 g=>q _ b f (Rm.trans e3) (g.unset i)⟩
end
end L3
namespace L3
open PySem PySem.Spec PyProof.Rows L2
abbrev FP:=av⊕Nat
def tFP:FP->TE
 |.inl c=>tC (.str c)
 |.inr i=>Tl (FX i)
def TD:List FP->TJ
 |[]=>Nh
 |p::ps=>Hv (tFP p) (TD ps)
structure Rn(X:Cx)(es:List aS)(ps:List FP):Prop where
 p:PJ X es (TD ps)
def Ro (K:W.Frag):List av->Nat->TS
 |[],_=>λD σ H=>D.nx σ H
 |f::r,i=>N4 (Ni K (FX 0) (FX i) f) (Ro K r (i+1))
structure Vd(X:Cx)(BC:List b3)(ns:List av)(i:Nat):Prop where
 p:rn X BC (Ro X.K ns i)
section
variable {X:Cx} {es:List aS} {ps:List FP} {c x f:av} {j:Option av} {p pos pos':cC} {i:Nat} {BC:List b3} {ns:List av}
theorem Lg:Rn X [] []:=⟨Hw⟩
theorem Nn{j}(h:Rn X es ps):Rn X (.Constant (.str c) j pos::es) (.inl c::ps):=⟨uN BI h.p⟩
theorem TF(i:Nat)(h:Rn X es ps)(a:X.N[i]?=ae x:=by rfl)(b:Ji X.env.scope x:=by first|exact eH rfl|exact di (eH rfl)|exact di (di rfl))(hd:(x==("__debug__":av))=ao:=by decide)
(e:(x==("__classdict__":av))=ao:=by decide):Rn X (.FormattedValue (.Name x p) (-1) aq pos::es) (.inr i::ps):=⟨uN (Hu (uZ a b hd e)) h.p⟩
theorem Lh:Vd X [] [] i:=⟨C6⟩
theorem HE{a:cC}{s:av}(h:Vd X BC ns (i+1))(b:X.N[0]?=ae s:=by rfl)(e:X.N[i]?=ae x:=by rfl)(g:Ji X.env.scope s:=by first|exact eH rfl|exact di (eH rfl)|exact di (di rfl))(m:Ji X.env.scope x:=by first|exact eH rfl|exact di (eH rfl)|exact di (di rfl))
(HF:(s==("__debug__":av))=ao:=by decide)(n:(s==("__classdict__":av))=ao:=by decide)(hd:(x==("__debug__":av))=ao:=by decide)(o:(x==("__classdict__":av))=ao:=by decide)
(q:fH (.Name x a) (ae (.Attribute (.Name s p) f pos')) pos.line X.env=pure ao:=by rfl):Vd X (.Assign [.Attribute (.Name s p) f pos'] (.Name x a) pos::BC) (f::ns) i:=
 ⟨rz (K8 (uZ b g HF n) (uZ e m hd o) q) h.p⟩
end
def nh (σ:L2.St):FP->Prop
 |.inl c=>c.length<=4000
 |.inr i=>∃v,σ[i]?=ae (ae v)/\PC v=aj
theorem HG{σ:L2.St}{H:Hp}{Q:VK}(g:∀y,Q (.str y) H):∀(ps:List FP) (acc:av),acc.length+4000*ps.length<=ax->(∀p∈ps,nh σ p)->TD ps acc σ H Q
 |[],acc,h,_=>⟨by simpa using h,g acc⟩
 |p::ps,acc,h,ok=>by
  have b:∀y:av,y.length<=4000->(acc++y).length<=ax/\(acc++y).length+4000*ps.length<=ax:=λy j=>by have:(acc++y).length=acc.length+y.length:=PySem.Str.length_append _ _;rw[aM] at h;omega
  have go:∀y:av,y.length<=4000->TD ps (acc++y) σ H Q:=λy j=>HG g ps _ (b y j).2 λp m=>ok p (au _ m);have f:=ok p a8;cases p with
  |inl c=>exact⟨c,rfl,(b c f).1,go c f⟩
  |inr i=>
   obtain⟨v,e,a⟩:=f;refine⟨v,e,?_⟩;cases v<;>first|(cases a;done)|skip
   ·rename_i n;have a:(decide (n.natAbs.log2<1920)&&decide ((toString n:av).length<=4000))=aj:=a;rw[aD,decide_eq_true_eq,decide_eq_true_eq] at a;exact⟨a.1,_,rfl,(b _ a.2).1,go _ a.2⟩
   ·rename_i y;have a:decide (y.length<=4000)=aj:=a;rw[decide_eq_true_eq] at a;exact⟨aQ a (by decide),_,rfl,(b _ a).1,go _ a⟩
noncomputable def cH(H:Hp)(x a C:ai)(l:List (av×V)):Hp:=upd (upd H a (xH a l)) x (lH x C (ae a))
theorem TK{H:Hp}{x a C:ai}{l e:List (av×V)}(ne:a≠x):upd (upd (cH H x a C l) a (xH a e)) x (lH x C (ae a))=cH H x a C e:=by
 funext b;unfold cH;by_cases h:b=x
 ·subst h;rw[gH,gH]
 ·rw[gy h,gy h];by_cases c:b=a
  ·subst c;rw[gH,gH]
  ·rw[gy c,gy c,gy h,gy c]
theorem AD{f:av}{y:V}:∀{l:List (av×V)},f∉l.map (·.1)->rB f y l=l++[(f,y)]
 |[],_=>rfl
 | (g,v)::l,h=>by have a:g≠f:=λz=>h (by rw[z];simp);show(if g=f then _ else _)=_;rw[if_neg a,AD λz=>h (by rw[aU];exact au _ z)];rfl
theorem Np{K:W.Frag}{D:Ends}{σ:L2.St}{H:Hp}{x b C:ai}(m:σ[0]?=ae (ae (.ref x)))(c:Cb K C)(ne:b≠x):∀(ns:List av) (i:Nat) (ws:List V) (l:List (av×V)),ns.length=ws.length->(∀j v,ws[j]?=ae v->σ[i+j]?=ae (ae v))->(l.map (·.1)++ns).Nodup->l.length+ns.length<1000->(∀f∈ns,mZ K C f)->
  D.nx σ (cH H x b C (l++ns.zip ws))->Ro K ns i D σ (cH H x b C l)
 |[],i,ws,l,_,_,_,_,_,q=>by rw[List.zip_nil_left,bf] at q;exact q
 |f::ns,i,[],l,e,_,_,_,_,q=>by cases e
 |f::ns,i,y::ws,l,e,n,nd,o,na,q=>by
  have p:f∉l.map (·.1):=λz=>by rw[List.nodup_append] at nd;exact nd.2.2 f z f a8 rfl
  refine⟨y,by simpa using n 0 y rfl,.ref x,m,x,C,ae b,l,rfl,?_,⟨ne,?_⟩,c,na f a8,by rw[aM] at o;omega,λr a u=>?_⟩
  ·unfold cH;rw[gH]
  ·unfold cH;rw[gy ne,gH]
  ·rcases a with a|⟨a,_⟩
   ·cases a;rw[TK ne,AD p];refine Np m c ne ns (i+1) ws (l++[(f,y)]) (by simpa using e) (λj v h=>?_) ?_ (by simp at o ⊢;omega) (λg w=>na g (au _ w)) ?_
    ·have:=n (j+1) v (by simpa using h);rw[<-this];congr 1;omega
    ·rw[bE];simpa using nd
    ·rw[bA];exact q
   ·cases a
theorem HH{K:W.Frag}{D:Ends}{σ:L2.St}{H:Hp}{x C:ai}{f y}{ns:List av}{ws:List V}(i:σ[0]?=ae (ae (.ref x)))(c:Cb K C)(e:ns.length=ws.length)(m:∀j v,(y::ws)[j]?=ae v->σ[1+j]?=ae (ae v))(nd:(f::ns).Nodup)(o:ns.length<900)(na:∀g∈f::ns,mZ K C g)
(ex:H x=ae (lH x C aq))(q:∀a,H a=aq->a≠x->D.nx σ (cH H x a C ((f::ns).zip (y::ws)))):Ro K (f::ns) 1 D σ H:=by
 refine⟨y,by simpa using m 0 y rfl,.ref x,i,x,C,aq,[],rfl,ex,rfl,c,na f a8,by decide,λa b ne=>?_⟩;rcases b with b|⟨_,b⟩
 ·cases b
 ·refine Np i c ne ns 2 ws [(f,y)] e (λj v h=>?_) (by simpa using nd) (by simp;omega) (λg n=>na g (au _ n)) (q a b ne);have:=m (j+1) v (by simpa using h);rw[<-this];congr 1;omega
theorem vW{N:List av}{a:List V}{i:Nat}{v:V}(h:a[i]?=ae v):(L2.start N a)[i]?=ae (ae v):=by unfold L2.start;have:=(aC.mp h).1;rw[bp (by simpa using this),bD,h];rfl
abbrev TL(K:W.Frag)(B:ai)(a:List FP)(ns:List av):TS:=N4 (Mv (Hx K B (tC (.ref B)) (Db (FX 0) (Db (TD a av.empty) Oo)))) (Ro K ns 1)
theorem Xk{X:Cx}{b s:av}{e e2:aS}{es:List aS}{h:List b3}{i:List FP}{ns:List av}{B:ai}{p g a apos c pos:cC}{pl:abC Bool}(n:DP X.K B)(hm:X.mg b=ae (.ref B))(o:Rn X (e::e2::es) i)(q:Vd X h ns 1)
(r:Gl X b:=by rfl)(u:(b==("__debug__":av))=ao:=by decide)(v:X.N[0]?=ae s:=by rfl)(w:Ji X.env.scope s:=by first|exact eH rfl|exact di (eH rfl)|exact di (di rfl))
(HF:(s==("__debug__":av))=ao:=by decide)(y:(s==("__classdict__":av))=ao:=by decide)
(z:eval (.Call (.Attribute (.Name b p) "__init__" apos) [.Name s g,.JoinedStr (e::e2::es) a] [] c) X.env=(do
   let j<-eval (.Name b p) X.env
   aaC apos.atName
   let(f,first)<-holding [j] (getMethod j "__init__" pl)
   callWith c f first (cb c (aJ [.Name s g,.JoinedStr (e::e2::es) a] X.env)) (f8 c (eS [] X.env))):=by rfl)
(m:aJ [.Name s g,.JoinedStr (e::e2::es) a] X.env=(ao,eval (.Name s g) X.env)::aJ [.JoinedStr (e::e2::es) a] X.env:=by rfl)(A:aJ [.JoinedStr (e::e2::es) a] X.env=(ao,eval (.JoinedStr (e::e2::es) a) X.env)::aJ [] X.env:=by rfl)(C:(cb c (aJ [.JoinedStr (e::e2::es) a] X.env)).any (·.1)=ao:=by rfl)
(E:fH (.Call (.Attribute (.Name b p) "__init__" apos) [.Name s g,.JoinedStr (e::e2::es) a] [] c) aq pos.line X.env=pure ao:=by rfl):
  rn X (.Expr (.Call (.Attribute (.Name b p) "__init__" apos) [.Name s g,.JoinedStr (e::e2::es) a] [] c) pos::h) (TL X.K B i ns):=
 rz (C8 (Hz PySem.F.excBase_ValueError n (C5 r hm rfl u) (xY (uZ v w HF y) (xY (DN o.p) Gd A) m) z m C) E) q.p
section
variable {P:aw} {w:aN} {K:W.Frag} {mg:av->Option af} {base:az}
noncomputable def BJ(n:Nat):FP->Bool
 |.inl c=>decide (c.length<=4000)
 |.inr i=>decide (1<=i)&&decide (i<=n)
theorem PH{x qual:av}{st:b3}{f:ai}{fd:bN}{N ps:List av}{k:Nat}{body:List b3}{scope:b6}{C B:ai}{ns:List av}{a:List FP}(F:Dk K x qual st f fd)(u:ix st=body)(es:hG st=scope)(S:jQ N ps scope)
(c:Cb K C)(co:Cd K C)(na:∀g∈ns,mZ K C g)
(z:∀(iC:af) (A:aH) (outer:List d4) (s:ah) (H:Hp) (E:XK),rn (qj ud P w K mg base N qual scope f iC A outer s H E).Er body (TL K B a ns))
(nd:ns.Nodup:=by decide)(G:ns.length<900:=by decide)(I:0<ns.length:=by decide)(b:ps.length=ns.length+1:=by rfl)(J:a.all (BJ ns.length)=aj:=by decide)(U7:a.length<=100:=by decide):
  kb P w K mg base ud (k+1) f fd ps (Vc C ns):=by
 subst u es;refine F.ok S (λL H Q E ⟨x,ws,e,hw,_⟩=>by rw[e,b,aM,hw]) λiC A outer s H L Q E hr h=>⟨_,z iC A outer s H E,?_⟩;obtain⟨x,ws,rfl,hw,M,m,q⟩:=h;have n:(L2.start N (.ref x::ws))[0]?=ae (ae (.ref x)):=vW rfl;refine⟨rfl,.ref x,n,HG (λy=>⟨x,C,aq,.str y,rfl,m,co,?fs⟩) a _ ?sz λp O=>?op⟩;case fs=>
  show Ro K ns 1 {nx:=λ_ T=>Q .non T,rt:=Q} _ H;cases ns with
  |nil=>cases I
  |cons f ns=>
   cases ws with
   |nil=>cases hw
   |cons y ws=>exact HH n c (by simpa using hw.symm) (λj v h=>vW (by rw[Nat.add_comm];simpa using h)) nd (by rw[aM] at G;omega) na m λU Y h2=>q U Y h2
 case sz=>
  show 0+_<=_;have:ax=16777216:=rfl;omega
 case op=>
  have o:=bj.mp J p O;cases p with
  |inl c=>
   have o:decide (c.length<=4000)=aj:=o;rw[decide_eq_true_eq] at o;exact o
  |inr i=>
   have o:(decide (1<=i)&&decide (i<=ns.length))=aj:=o;rw[aD,decide_eq_true_eq,decide_eq_true_eq] at o;obtain⟨j,rfl⟩:∃j,i=j+1:=⟨i- 1,by omega⟩;have r:j<ws.length:=by omega
   exact⟨ws[j],vW (by simp[r]),bj.mp M _ (fu r)⟩
end
end L3
namespace L3
open PySem PySem.Spec PyProof.Rows L2
theorem AE{K:W.Frag}{α:List ai}{H:Hp}{f:av}:∀(ns:List av) (ds:List D) (a:List V) (d:D),gp K α H ds a->(ns.zip ds).lookup f=ae d->∃v,(ns.zip a).lookup f=ae v/\Rep K α H d v
 |[],ds,a,d,r,h=>by cases h
 |n::ns,[],a,d,r,h=>by cases h
 |n::ns,x::ds,a,d,r,h=>by
  unfold gp at r;obtain⟨v,ws,rfl,b,c⟩:=r;rw[List.zip_cons_cons,cV] at h ⊢;cases e:f==n with
  |true=>rw[e] at h;cases h;exact⟨v,rfl,b⟩
  |false=>rw[e] at h;exact AE ns ds ws d c h
def HI (K:W.Frag)(f:av)(b:DE):DE:=λc M Q=>b c M λd M1=>match d with
 |.exc C ns ds=>Az K C/\mZ K C f/\∃a,(ns.zip ds).lookup f=ae a/\Q a M1
 |_=>False
section
variable {X:Cx} {o:aS} {te:DE} {f:av} {pos:cC}
theorem PK(c:JE X o te)(hb:cQ o f X.env (eval o X.env)=eval o X.env:=by rfl):JE X (.Attribute o f pos) (HI X.K f te):=by
 refine⟨λb M P Q w q=>c.mono b _ _ _ (λd M1 q=>?_) q,PE.weak (La c.p hb) λσ H Q q=>?_⟩
 ·cases d<;>first|exact q.elim|skip
  obtain⟨e,g,j,h,i⟩:=q;exact⟨e,g,j,h,w _ _ i⟩
 ·obtain⟨F,α,b,M,r,q⟩:=q;refine⟨F,α,b,M,r,c.mono b _ _ _ (λd M1 q v n H1 e1 u m=>?_) q⟩;cases d<;>first|exact q.elim|skip
  obtain⟨e,g,j,h,i⟩:=q;unfold Rep at m;obtain⟨a,A,rfl,ha,l,rs⟩:=m;obtain⟨v,y,z⟩:=AE _ _ _ _ rs h;exact⟨a,_,_,v,rfl,hX _ _ ha,e,g,y,i v n H1 e1 u z⟩
def yE (K:W.Frag):GN:=λds M Q=>match ds with
 |[.exc C ns es,.cls B]=>∃b,Az K C/\W.kitOne K (.ref C) (.ref B)=ae b/\Q (.bl b) M
 |_=>False
theorem yF:JB X (.builtin "isinstance") (yE X.K):=by
 refine⟨λds M P Q w q=>?_,λpins s σ H xs us Q I rs h=>?_⟩
 ·match ds,q with
  |[.exc C ns es,.cls B],⟨b,e1,e2,q⟩=>exact⟨b,e1,e2,w _ _ q⟩
 ·obtain⟨F,α,M,ds,o,c,h⟩:=h;match ds,h,c with
  |[.exc C ns es,.cls B],⟨b,e1,e2,q⟩,c=>
   obtain⟨v,u,i,e,g⟩:=xx c;subst i;unfold Rep at e g;subst g;obtain⟨a,y,rfl,ha,l,j⟩:=e;obtain⟨m,n,rfl,p,r⟩:=vals2 rs;obtain rfl:m=aR a:=p;obtain rfl:n=aR B:=r;exact Lb I (hX _ _ ha) e1 e2 λtk=>⟨.bl b,H,I.tok tk,rfl,vK.now o q iF⟩
end
end L3
namespace L2
open PySem PySem.Spec PyProof.Rows
inductive TC(il:Hp)(P:Hp->Prop):Hp->Prop
 |base {H:Hp}:P H->TC il P H
 |ux {H:Hp} {a:ai} {o:bR} {gM:List (Key×V)}:H a=ae (.oX o (.dK gM))->(∀o u,il a≠ae (.oX o u))->TC il P (upd H a (.dK gM))->TC il P H
abbrev Rp(il:Hp)(E:XK):XK:=λC od=>TC il (E C od)
theorem TC.th{X:Cx}{P:Hp->Prop}{H:Hp}(h:TH X (TC X.il P) H):TC X.il P H:=by
 rcases h with h|⟨a,o,b,e,n,h⟩
 ·exact h
 ·exact .ux e n h
section
variable {P:aw} {w:aN}
theorem HJ{outer:List d4}{H:Hp}{s:ah}{E:XK}{e:af}{f:ah}(h:K4 P w outer H s (Rp H E) e f):K4 P w outer H s E e f:=by
 obtain⟨x,C,od,U,T,rfl,A,B,u,iE,G,g,I,i,j,J⟩:=h;induction J with
 |base h=>exact⟨x,C,od,_,T,rfl,A,B,u,iE,G,g,I,i,j,h⟩
 |@ux H1 a o L ha M _ N=>
  have p:∀b,H1 b=aq->b≠a:=λb h z=>by rw[z,ha] at h;cases h
  refine N ⟨u.keep,u.slot,λb o q n g=>?_,u.there,λb xs q=>?_,λb o y q=>?_,λb ps q=>?_⟩ (λb ob q=>?_) (by rw[gy (p _ i)];exact i) (by rw[gy (p _ j)];exact j)
  ·have:=u.free b o q n g;rw[gy (p b this)];exact this
  ·have:=u.jU b xs q;rw[gy λz=>by rw[z,ha] at this;cases this];exact this
  ·have:=u.pd b o y q;rw[gy λz=>M o y (by rw[<-z];exact q)];exact this
  ·obtain⟨m,e⟩:=u.qA b ps q;exact⟨m,by rw[gy λz=>by rw[z,ha] at e;cases e];exact e⟩
  ·by_cases z:b=a
   ·subst z;rw[gH] at q;cases q;obtain⟨_,z,hd,O,r,ob,es,Q,e,c⟩:=(show iD P w H1 f.heap b (.oX o (.dK L)) from iE b _ ha);exact⟨z,hd,O,r,ob,es,Q,e,c⟩
   ·rw[gy z] at q;refine(iE b ob q).qi (λc v _ r=>r) (λc r=>?_) (λc xs r=>?_)
    ·rw[gy λz=>by rw[z,ha] at r;cases r];exact r
    ·rw[gy λz=>by rw[z,ha] at r;cases r];exact r
variable {K:W.Frag} {mg:av->Option af} {base:az}
theorem kb.ux{k:Nat}{f:ai}{fd:bN}{ps:List av}{sp b:Sp}(F:kb P w K mg base (K4 P w) k f fd ps b)(h:∀a H Q E,sp a H Q E->b a H Q (Rp H E)):kb P w K mg base (K4 P w) k f fd ps sp:=
 ⟨λa H Q E q=>F.len _ _ _ _ (h _ _ _ _ q),λA outer s H args us a Q E g i hb r q=>dR (F.run A outer s H args us a Q (Rp H E) g i hb r (h _ _ _ _ q)) λr j c=>by
  cases r with
  |error e=>exact HJ c
  |ok fl=>cases fl<;>exact c⟩
end
end L2
namespace L3
open PySem PySem.Spec PyProof.Rows L2
section
variable {P:aw} {w:aN} {K:W.Frag} {mg:av->Option af} {base:az}
end
section
variable {X:Cx} {E:XS} {e:aS} {pos:cC}
def TM (ti:DI)(g:DG)(tb:XB):XB:=λx=>vA ti g (tb x)
theorem tH{g:DG}{tb:XB}{st:Ms->Prop}(f:∀d b M (P Q:j2->Ms->Prop),(∀b M,P b M->Q b M)->g d b M P->g d b M Q)(hb:∀(x y:yB) (P Q:iV) b M,x.le y->P.le Q->tb x P b M->tb y Q b M){x y:yB}(v:x.le y){P Q:iV}(w:P.le Q):∀xs b M,l8 g (tb x) st P xs b M->l8 g (tb y) st Q xs b M
 |[],b,M,q=>w.nx _ _ q
 |z::xs,b,M,q=>f _ _ _ _ _ (λh M1 q=>hb x y {P with nx:=λc a=>st a/\l8 g (tb x) st P xs c a,ct:=λc a=>st a/\l8 g (tb x) st P xs c a,bk:=P.nx} {Q with nx:=λc a=>st a/\l8 g (tb y) st Q xs c a,ct:=λc a=>st a/\l8 g (tb y) st Q xs c a,bk:=Q.nx} _ _ v ⟨λc a q=>⟨q.1,tH f hb v w xs c a q.2⟩,w.rt,w.nx,λc a q=>⟨q.1,tH f hb v w xs c a q.2⟩⟩ q) q
theorem Lj{tg:aS}{body:List b3}{ti:DI}{g:DG}{tb:XB}(hi:JI X tg e ti)(hg:JG X tg g)(hb:Jv X E body tb)(hE:∀σ C od H,TH X (E σ C od) H->E σ C od H)(hp:aaw (model X.prog X.w) X.A X.env X.xe)(hc:X.calm=aj:=by rfl)
(hs:∀x,ej e X.env x=pure x:=by intro _;rfl):PB X E (.For tg e body [] pos) (TM ti g tb):=by
 refine⟨λx y P Q I M v w q=>hi.mono I _ _ _ (λitems st M1 q=>⟨q.1,tH hg.mono hb.mono v w _ _ _ q.2⟩) q,z8 (F6 hp hc hi.p hg.p hb.p hs) λD σ H q=>?_⟩;obtain⟨F,α,I,M,r,q⟩:=q;refine⟨F,α,I,M,r,hi.mono I _ _ _ (λitems st M1 q J iu H1 Hf T e1 o1 z it=>?_) q⟩;obtain⟨s1,q⟩:=q;refine⟨λi m iP o=>m=items.length- i/\i<=items.length/\∃n U f,Ext F iu Hf M1 n o f/\R X.K F n o iP U f/\st f/\l8 g (tb (xK X.K F α H M E)) st (lw X.K F α H M D) (items.drop i) U f,⟨_,rfl,bx _,iu,I,M1,Ext.refl,z.rs (r.grow e1 o1),s1,q⟩,?_⟩
 rintro i m iP o ⟨rfl,YS,n,U,f,e',G,s',Y⟩
 by_cases BB:i<items.length
 ·rw[cS BB] at Y;refine .inr ⟨it.go i F n o f e'.pre e'.same G.ok s' BB,λzQ L=>∃nO Kx M2,Ext F iu Hf M1 nO L M2/\R X.K F nO L zQ Kx M2/\st M2/\l8 g (tb (xK X.K F α H M E)) st (lw X.K F α H M D) (items.drop (i+1)) Kx M2,λzQ L h=>⟨_,by omega,rfl,BB,h⟩,λx L y=>?_⟩;obtain⟨o2,e2,rx⟩:=it.Mz i F n o f x L items[i] e'.pre e'.same G.ok s' (by simp[BB]) y;refine⟨F,n,U,f,items[i],G.grow e2 o2,rx,hg.mono _ _ _ _ _ (λGX M3 q3 F7 sW H3 e3 r3=>⟨F,sW,GX,M3,r3,hb.mono _ _ _ _ _ _ ?ex ?le q3⟩) Y⟩;case ex=>
   have rK:=(e'.trans e2).trans e3;intro ex N c u O a b od vs e4 j l xd rp;obtain⟨B,t2,t3⟩:=z.e a b c (rK.trans e4) j.ok;refine hE _ _ _ _ (z.h a b c _ (rK.trans e4) (u O a (T b) od vs (e1.trans B) (z.rt (rK.trans e4) j) l ?_ (gp.imp t3 _ _ rp)));cases od with
   |none=>exact xd
   |some dx=>exact z.k a b c dx _ (rK.trans e4) xd
  case le=>
   have rK:=(e'.trans e2).trans e3;refine⟨λN c u O a b e4 j=>⟨a,N,c,rK.trans e4,j,u⟩,λd c u v a b e4 o4 j=>?_,λN c u O a b e4 j=>?_,λN c u O a b e4 j=>⟨a,N,c,rK.trans e4,j,u⟩⟩
   ·obtain⟨B,t2,t3⟩:=z.e a b c (rK.trans e4) o4;exact z.h a b c _ (rK.trans e4) (u v a (T b) (e1.trans B) t2 (t3 d v j))
   ·obtain⟨B,_,_⟩:=z.e a b c (rK.trans e4) j.ok;exact z.h a b c _ (rK.trans e4) (u O a (T b) (e1.trans B) (z.rt (rK.trans e4) j))
 ·have e:i=items.length:=by omega
  subst e;rw[ef] at Y;obtain⟨B,_,_⟩:=z.e n o f e' G.ok;exact .inl ⟨it.stop F n o f e'.pre e'.same G.ok s',z.h n o f _ e' (Y iP n (T o) (e1.trans B) (z.rt e' G))⟩
end
end L3
namespace L2
open PySem PySem.Spec PyProof.Rows
def Xl (h:az)(e:ai)(cls:af)(od:Option ai)(T:ai):Prop:=
 ∃a b c f v,h.get? e=ae a/\a.cls=cls/\a.dict=od/\a.data=.fields b/\b[1]?=ae (.ref T)/\T≠e/\h.get? T=ae c/\c.data=.fields f/\f[3]?=ae v
theorem Rec.any{h:az}{e:ai}{cls:af}{od:Option ai}{T:ai}(r:Rec h e cls od T):Xl h e cls od T:=by obtain⟨a,b,c,f,g,i,j,m,n,o,p,q,u⟩:=r;exact⟨a,b,c,f,.none,g,i,j,m,n,o,p,q,u⟩
section
variable {M:aaE} {A:aH} {E:af->ah->Prop} {s:ah}
end
section
variable {P:aw} {w:aN} {K:W.Frag} {mg:av->Option af} {base:az} {N:List av} {qual:av} {scope:b6} {f:ai} {cd:af} {A:aH} {outer:List d4} {ib:ah} {il:Hp} {E:XK}
end
end L2
namespace L2
open PySem PySem.Spec PyProof.Rows
section
variable {X:Cx} {N:List av} {fr:List (Option Nat)} {scope:b6} {elt target iter:aS} {ifs:List aS} {wi:TI} {g:TG} {tt:TT} {te:TE} {pos:cC} {Ex:XS}
end
section
variable {P:aw} {w:aN} {K:W.Frag} {mg:av->Option af} {base:az} {nt:List av} {qual:av} {jt:b6} {f:ai} {cd:af} {A:aH} {outer:List d4} {ib:ah} {il:Hp} {E:XK}
variable {N:List av} {fr:List (Option Nat)} {scope:b6} {elt target iter:aS} {ifs:List aS} {wi:TI} {g:TG} {tt:TT} {te:TE} {pos:cC}
end
end L2
namespace L3
open PySem PySem.Spec PyProof.Rows L2
section
variable {K:W.Frag} {F α:List ai} {H:Hp} {M:Ms} {σ:L2.St} {δ:j2} {p:ai}
theorem HK:jd (iG (p::F) α M H) (iG F α M H):=λb x h=>by
 obtain⟨z,q⟩:=ij h;refine ko h (λw=>z ?_) q;rcases aO.mp w with w|w
 ·exact br _ w
 ·exact bh _ (au _ w)
theorem R.shown(b:p∉F)(r:R K (p::F) α H σ δ M){x:HO}(c:H p=ae x):R K F α H σ δ M:=by
 have e:=r.ok.er b;obtain⟨a,_⟩:=e.laid (p:=p) (x:=x) yl;rw[OX c] at a;exact⟨a,r.len,λi d h=>by obtain⟨v,f,g⟩:=r.sl i d h;exact⟨v,f,Rep.mono (aX _) HK _ _ g⟩⟩
end
section
variable {X:Cx} {N:List av} {fr:List (Option Nat)} {scope:b6} {elt target iter:aS} {ifs:List aS} {ti:DI} {g:DG} {tt:DT} {te:XE} {pos:cC} {E:XS}
end
section
variable {P:aw} {w:aN} {K:W.Frag} {mg:av->Option af} {base:az} {nt:List av} {qual:av} {jt:b6} {f:ai} {cd:af} {A:aH} {outer:List d4} {ib:ah} {il:Hp} {E:XK}
variable {N:List av} {fr:List (Option Nat)} {scope:b6} {elt target iter:aS} {ifs:List aS} {ti:DI} {g:DG} {tt:DT} {te:XE} {pos:cC}
end
end L3
namespace L2
open PySem PySem.Spec PyProof.Rows PySem.W PySem.Calls Builtin
section
variable {prog:aw} {w:aN} {A:aH} {R:aaH->ah->Prop} {h:az} {g:Array aap} {d:aa8} {t:Nat} {os:abg}
variable {nm q:av} {C N f:ai} {bs bm Pn:List af} {kT:Bool} {sn:List av} {sub:List af} {ab:Bool} {col:Option Bool} {dd:Option ai} {k0 k1 k2 k3 k5:Option af} {B newId tE:String}
end
section
variable {prog:aw} {w:aN} {A:aH} {E:af->ah->Prop} {h:az} {g:Array aap} {d:aa8} {t:Nat} {os:abg}
variable {nm q:av} {C N x:ai} {bs bm Pn:List af} {kT:Bool} {sn:List av} {sub:List af} {ab:Bool} {col:Option Bool} {dd:Option ai} {k0 k1 k2 k3 k5:Option af} {B newId tE:String}
end
section
variable {X:Cx}
structure aae(K:W.Frag)(C:ai):Prop where
 x:Cd K C
 call:W.specialIn K (.ref C) "__call__"=ae (ae (.builtin "type.__call__"))
 typ:W.instIn K (.ref C) (.type "type")=ae aj
 init:W.findIn K (.ref C) "__init__"=ae (ae (.builtin "ValueError.__init__"))
 kp:W.keepIn K (.ref C)=aj
end
section
variable {P:aw} {w:aN} {K:W.Frag} {mg:av->Option af} {base:az} {N:List av} {qual:av} {scope:b6} {fn:ai} {cd:af} {A:aH} {outer:List d4} {ib:ah} {il:Hp} {E:XK}
variable {C:ai} {x:av} {p pos iz:cC} {e:aS} {t:TA}
end
end L2
namespace L3
open PySem PySem.Spec PyProof.Rows L2
section
variable {P:aw} {w:aN} {K:W.Frag} {mg:av->Option af} {base:az} {N:List av} {qual:av} {scope:b6} {fn:ai} {cd:af} {A:aH} {outer:List d4} {ib:ah} {il:Hp} {E:XK}
variable {C:ai} {x:av} {p pos iz:cC} {e:aS} {tt:DA}
end
end L3
namespace L3
open PySem PySem.Spec PyProof.Rows L2
abbrev Ci:List af:=[.type "ValueError",.type "Exception",.type "BaseException",.type "object"]
structure E9(K:W.Frag)(C P:ai):Prop where
 hd:W.hasDictIn K C=aj
 po:Ax K C
 so:W.subIn K (.ref C) (.type "object")=ae aj
 sa:W.findIn K (.ref C) "__setattr__"=ae (ae (.builtin "object.__setattr__"))
 call:W.specialIn K (.ref C) "__call__"=ae (ae (.builtin "type.__call__"))
 typ:W.instIn K (.ref C) (.type "type")=ae aj
 kp:W.keepIn K (.ref C)=aj
 ga:W.findIn K (.ref C) "__getattribute__"=ae (ae (.builtin "BaseException.__getattribute__"))
 gh:W.findIn K (.ref C) "__getattr__"=ae aq
 sb:W.subIn K (.ref C) (.type "BaseException")=ae aj
 cl:W.findIn K (.ref C) "__class__"=ae (ae (.builtin "object.__class__"))
 cg:W.specialIn K (.builtin "object.__class__") "__get__"=ae (ae (.builtin "getset_descriptor.__get__"))
 tk:W.takesIn K (.builtin "object.__class__")=ae aj
 ob:W.mroIn K C (.type "object")=ae aj
 oc:∃nm q N bs bm kT sn sub ab col dd k0 k1 k2 k3 k5,K.lookup C=ae (dP nm q C N bs bm kT sn sub ab col dd k0 k1 k2 k3 k5 "ValueError.__new__")/\W.tailIn K Ci bm=aj/\(aR C::bm).contains (.ref P)=aj/\(aR C::bm).contains (.type "BaseException")=aj
theorem PL{K:W.Frag}{C P:ai}{nm q:av}{N:ai}{bs a:List af}{e:Bool}{sn:List av}{sub:List af}{f:Bool}{col:Option Bool}{g:Option ai}{h i j m n:Option af}(l:K.lookup C=ae (dP nm q C N bs a e sn sub f col g h i j m n "ValueError.__new__"))
(t:W.tailIn K Ci a=aj)(c:(aR C::a).contains (.ref P)=aj)(b:(aR C::a).contains (.type "BaseException")=aj):∃nm q N bs a e sn sub f col g h i j m n,K.lookup C=ae (dP nm q C N bs a e sn sub f col g h i j m n "ValueError.__new__")/\W.tailIn K Ci a=aj/\(aR C::a).contains (.ref P)=aj/\(aR C::a).contains (.type "BaseException")=aj:=
 ⟨_,_,_,_,_,_,_,_,_,_,_,_,_,_,_,_,l,t,c,b⟩
section
variable {K:W.Frag} {C P:ai}
theorem E9.cls(h:E9 K C P):Cb K C:=⟨h.hd,h.po,h.so,h.sa⟩
theorem E9.get(h:E9 K C P):Az K C:=⟨h.hd,h.ga,h.gh,h.sb,h.cl,h.cg,h.tk,h.ob⟩
theorem E9.obj(h:E9 K C P):Cd K C:=by obtain⟨nm,q,N,bs,a,b,sn,sub,c,col,e,f,g,i,j,m,l,t,_⟩:=h.oc;exact⟨nm,q,N,bs,a,b,sn,sub,c,col,e,f,g,i,j,m,l,λh X=>W.tail_of_in X t⟩
theorem E9.sub{Q:ai}(h:E9 K C P)(b:E9 K P Q):Cf K C P:=by obtain⟨nm,q,N,bs,u,v,sn,sub,w,col,y,z,A,B,E,G,l,t,c,_⟩:=h.oc;obtain⟨H,I,J,a,e,L,f,M,g,O,T,i,j,m,n,o,p,U,Y,r⟩:=b.oc;exact⟨⟨_,_,_,_,_,_,_,_,_,_,_,_,_,_,_,_,l,c⟩,⟨_,_,_,_,_,_,_,_,_,_,_,_,_,_,_,_,p,r⟩⟩
structure Xm(K:W.Frag)(C f:ai)(q:av)(st:b3):Prop where
 init:W.findIn K (.ref C) "__init__"=ae (ae (.ref f))
 ex:∃fd,Dk K "__init__" q st f fd
 fn:W.isFn K (.ref f)=aj
theorem PM{qual:av}{st:b3}{f:ai}{oc:af}{od an:Option ai}{yb:Array (Option af)}{kV doc pm iC ct:af}(i:W.findIn K (.ref C) "__init__"=ae (ae (.ref f)))(l:K.lookup f=ae ⟨oc,od,.func (W.fnOf "__init__" qual (jz st) (ix st) (hG st) .none kV doc pm an iC ct),yb⟩)
(c:W.codeIn K iC qual=aj)(k:W.keepIn K (.ref f)=aj)(n:W.isFn K (.ref f)=aj):Xm K C f qual st:=⟨i,⟨_,Gz l c k⟩,n⟩
theorem E9.mk_(h:E9 K C P){f:ai}{q:av}{st:b3}(i:Xm K C f q st):Pp K C f:=⟨h.obj,h.call,h.typ,i.init,i.fn,h.kp⟩
end
end L3
namespace L3
open PySem PySem.Spec PyProof.Rows L2
section
variable {X:Cx} {value:aS} {te:TE} {pos:cC}
end
abbrev sl(ss:List av):D:=.lst (ss.map .str)
def spT (K:W.Frag)(C:ai)(c e:av):Sp:=λf H Q _=>∃x w a ss,f=[.ref x,.str w,.ref a]/\w.length<=4000/\H a=ae (.lst (ss.map V.str))/\pl (sl ss)=aj/\(cU.shown (toP (sl ss))).length<=4000/\H x=ae (lH x C aq)/\
 ∀b l,H b=aq->H l=aq->l≠b->Q .non (cH (upd H l (.lst (ss.map V.str))) x b C [(c,.str w),(e,.ref l)])
section
variable {P:aw} {w:aN} {K:W.Frag} {mg:av->Option af} {base:az}
end
section
variable {P:aw} {w:aN} {K:W.Frag} {mg:av->Option af} {base:az} {N:List av} {qual:av} {scope:b6} {fn:ai} {cd:af} {A:aH} {outer:List d4} {ib:ah} {il:Hp} {E:XK}
variable {k:Nat} {f C:ai} {fd:bN} {ps ns:List av} {x f1 f2:av} {p pos iz:cC} {e:aS} {es:List aS} {tt:DA}
structure TN(P:aw)(w:aN)(K:W.Frag)(mg:av->Option af)(base:az)(k:Nat)(x:av)(C:ai)(f1 f2:av):Prop where
 m:mg x=ae (.ref C)
 ok:∃f fd ps,Pp K C f/\Binds K fd ps []/\kb P w K mg base ud k f fd ps (spT K C f1 f2)
end
end L3
namespace L3
open PySem PySem.Spec PyProof.Rows L2
section
variable {X:Cx}
end
end L3
namespace FJ
open PySem PySem.Spec L2 L3
def vX (K:W.Frag):DS:=(gL (mQ (hZ (nS K) (gg (gj 0) (gg (dC (.ty "int")) gq))) (GL (hZ (nS K) (gg (gj 0) (gg (dC (.ty "bool")) gq))))))
def tJ (K:W.Frag):DS:=(gC (ik (uI (k9 (gz (hZ (nS K) (gg (gj 0) (gg (dC (.ty "str")) gq))))) (k9 (gz (jA nJ nJ (dC (.int 1)) (hZ jo (gg (gj 0) gq)) (dC (.int 8)))))) (gL (dC (.bl ao))) gK)
 (gL (hZ tw (gg (gS (i9 [aq] (jc (gj 0)) (gQ 0) lg (jA nJ nJ (dC (.str "a")) (gj 0) (dC (.str "z"))))) gq))))
def nW (K:W.Frag)(a:GN):DS:=(gC (ik (uI (k9 (gz (hZ (nS K) (gg (gj 1) (gg (dC (.ty "list")) gq))))) (k9 (gz (jA nJ nJ (dC (.int 1)) (hZ jo (gg (gj 1) gq)) (dC (.int 60)))))) (gL (dC (.bl ao))) gK)
 (gL (hZ tw (gg (gS (i9 [aq,ae 0] (jc (gj 1)) (gQ 0) lg (hZ a (gg (gj 1) (gg (gj 0) gq))))) gq))))
def vY (K:W.Frag)(c:GN)(a:GN)(b:GN):DS:=(gC (ik (gz (gD lN (gj 0) (dC (.str "word")))) (gL (hZ c (gg (gj 1) gq))) gK)
 (gC (ik (gz (gD lN (gj 0) (dC (.str "box")))) (gL (mQ (hZ a (gg (gj 1) gq)) (jA nJ nJ (dC (.int 0)) (gj 1) (dC (.int 3))))) gK)
 (gC (ik (gz (gD lN (gj 0) (dC (.str "number")))) (gL (mQ (hZ a (gg (gj 1) gq)) (jA nJ nJ (dC (.int (-2147483648))) (gj 1) (dC (.int 2147483647))))) gK)
 (gC (ik (gz (gD lN (gj 0) (dC (.str "truth")))) (gL (hZ (nS K) (gg (gj 1) (gg (dC (.ty "bool")) gq)))) gK)
 (gC (ik (gz (gD lN (gj 0) (dC (.str "numbers")))) (gL (hZ b (gg (dC (.str "number")) (gg (gj 1) gq)))) gK)
 (gL (hZ b (gg (dC (.str "word")) (gg (gj 1) gq)))))))))
def vZ (K:W.Frag)(kt:ai)(a:List (av×D))(b:GN):DS:=(gC (ik (uI (k9 (gz (hZ (nS K) (gg (gj 0) (gg (dC (.ty "tuple")) gq))))) (gz (gD lN (hZ jo (gg (gj 0) gq)) (dC (.int 0))))) (gL (dC (.bl ao))) gK)
 (gC (ik (uI (k9 (gz (hZ (nS K) (gg (gD jk (gj 0) (dC (.int 0))) (gg (dC (.ty "str")) gq))))) (gz (gD (yu aj kt a) (gD jk (gj 0) (dC (.int 0))) (dC (.cls kt))))) (gL (dC (.bl ao))) gK)
 (gC (ip 1 (gD (yt kt a) (dC (.cls kt)) (gD jk (gj 0) (dC (.int 0)))))
 (gC (ik (gz (gD mS (hZ jo (gg (gj 0) gq)) (gD gJ (dC (.int 1)) (hZ jo (gg (gj 1) gq))))) (gL (dC (.bl ao))) gK)
 (gL (hZ tw (gg (gS (i9 [aq,aq] (vI (gg (gj 1) (gg (k7 (gj 0) (ig (dC (.int 1))) gE) gq))) (nz 2 (jf (gQ 0) (jf (gQ 1) py))) lg (hZ b (gg (gj 0) (gg (gj 1) gq))))) gq)))))))
noncomputable def low(x:av):Bool:=x.cps.toList.all λc=>decide (97<=c)&&decide (c<=122)
noncomputable def nY(x:av):Bool:=decide (1<=x.length)&&decide (x.length<=8)&&low x
noncomputable def DU(b:Int):Bool:=decide (0<=b)&&decide (b<=3)
noncomputable def okN(n:Int):Bool:=decide (-2147483648<=n)&&decide (n<=2147483647)
inductive uC:av->D->Prop
 |w {x:av}:nY x=aj->uC "word" (.str x)
 |b {i:Int}:DU i=aj->uC "box" (.int i)
 |n {i:Int}:okN i=aj->uC "number" (.int i)
 |t {b:Bool}:uC "truth" (.bl b)
inductive Rq:av->D->Prop
 |a {f:av} {d:D}:uC f d->Rq f d
 |ns {ds:List D}:1<=ds.length->ds.length<=60->(∀d∈ds,uC "number" d)->Rq "numbers" (.lst ds)
 |ws {ds:List D}:1<=ds.length->ds.length<=60->(∀d∈ds,uC "word" d)->Rq "words" (.lst ds)
theorem uC.nl{f:av}{d:D}(h:uC f d):nl d=aj:=by cases h<;>rfl
theorem AF{f:av}{ds:List D}(h:∀d∈ds,uC f d):ql ds=aj:=by rw[uK];exact bj.mpr λd hd=>(h d hd).nl
theorem Rq.nl{f:av}{d:D}(h:Rq f d):ql [.str f,d]=aj:=by
 have:L3.nl d=aj:=by
  cases h with
  |a h=>exact h.nl
  |ns _ _ h=>exact AF h
  |ws _ _ h=>exact AF h
 show(aj&&(L3.nl d&&aj))=aj;rw[this];rfl
def rX:GP:=λds Q=>∃f d,uC f d/\ds=[.str f,d]/\Q (.bl aj)
def HL:GP:=λds Q=>∃f xs,1<=xs.length/\xs.length<=60/\(∀d∈xs,uC f d)/\ds=[.str f,.lst xs]/\Q (.bl aj)
def qP:GP:=λds Q=>∃f d,Rq f d/\ds=[.str f,d]/\Q (.bl aj)
open PySem PySem.Spec PyProof.Rows.KTD L2 L3
noncomputable def fm(l:List av):D:=.tup (l.map .str)
noncomputable def rY:List (av×D):=[("mark",fm ["word","truth"]),("set",fm ["box","number"]),("add",fm ["box","box"]),("take",fm ["box","box"]),("say",fm ["box"]),("ask",fm ["box"]),("jump",fm ["word"]),("jumpif",fm ["box","word"]),("call",fm ["word"]),("back",fm []),("stop",fm []),("load",fm ["box","box","word"]),("jumpby",fm ["box","word"]),("alike",fm ["box","word","word"]),("numbers",fm ["numbers"]),("table",fm ["words"])]
local macro_rules | `(tactic| walk_at "wk1") => `(tactic| ((conv => whnf); first | refine ⟨_, rfl, ?_⟩ | refine ⟨rfl, ?_⟩ | refine ⟨a9 rfl, ?_⟩))
local macro_rules | `(tactic| walk_at "wk") => `(tactic| ((repeat walk_at "wk1"); try (conv => whnf)))
inductive Rw
 |mark (w:av) (b:Bool)|set (b n:Int)|add (b c:Int)|take (b c:Int)|say (b:Int)|ask (b:Int)|jump (w:av)|jumpif (b:Int) (w:av)|call (w:av)|back|stop
 |load (b c:Int) (w:av)|jumpby (b:Int) (w:av)|alike (b:Int) (w v:av)|numbers (ns:List Int)|table (ws:List av)
 deriving DecidableEq
noncomputable def Rw.d:Rw->D
 |.mark w b=>.tup [.str "mark",.str w,.bl b]|.set b n=>.tup [.str "set",.int b,.int n]|.add b c=>.tup [.str "add",.int b,.int c]|.take b c=>.tup [.str "take",.int b,.int c]
 |.say b=>.tup [.str "say",.int b]|.ask b=>.tup [.str "ask",.int b]|.jump w=>.tup [.str "jump",.str w]|.jumpif b w=>.tup [.str "jumpif",.int b,.str w]|.call w=>.tup [.str "call",.str w]
 |.back=>.tup [.str "back"]|.stop=>.tup [.str "stop"]|.load b c w=>.tup [.str "load",.int b,.int c,.str w]|.jumpby b w=>.tup [.str "jumpby",.int b,.str w]|.alike b w v=>.tup [.str "alike",.int b,.str w,.str v]
 |.numbers ns=>.tup [.str "numbers",.lst (ns.map .int)]|.table ws=>.tup [.str "table",.lst (ws.map .str)]
noncomputable def Rw.t:Rw->D
 |.numbers ns=>.tup [.str "numbers",.tup (ns.map .int)]|.table ws=>.tup [.str "table",.tup (ws.map .str)]
 |r=>r.d
noncomputable def Rw.ok:Rw->Bool
 |.mark w _=>nY w|.set b n=>DU b&&okN n|.add b c=>DU b&&DU c|.take b c=>DU b&&DU c|.say b=>DU b|.ask b=>DU b|.jump w=>nY w|.jumpif b w=>DU b&&nY w|.call w=>nY w
 |.back=>aj|.stop=>aj|.load b c w=>DU b&&DU c&&nY w|.jumpby b w=>DU b&&nY w|.alike b w v=>DU b&&nY w&&nY v
 |.numbers ns=>decide (1<=ns.length)&&decide (ns.length<=60)&&ns.all okN
 |.table ws=>decide (1<=ws.length)&&decide (ws.length<=60)&&ws.all nY
structure CA where
 (Row Mark Code Data Ve Last Set Alike Vf Leave nZ Table:ai)
inductive Kn
 |Mark|Ve|Last|Set|Alike|Vf|Leave|nZ|Table
noncomputable def CA.at(c:CA):Kn->ai
 |.Mark=>c.Mark|.Ve=>c.Ve|.Last=>c.Last|.Set=>c.Set|.Alike=>c.Alike|.Vf=>c.Vf|.Leave=>c.Leave|.nZ=>c.nZ|.Table=>c.Table
noncomputable def Rw.kn:Rw->Kn
 |.mark _ _=>.Mark|.set _ _=>.Set|.add _ _|.take _ _|.say _|.ask _=>.Ve|.jump _|.jumpby _ _=>.Leave|.jumpif _ _|.call _|.load _ _ _=>.Vf|.back|.stop=>.Last
 |.alike _ _ _=>.Alike|.numbers _=>.nZ|.table _=>.Table
noncomputable def Rw.cls(c:CA)(r:Rw):ai:=c.at r.kn
noncomputable def Rw.ins(c:CA)(r:Rw):D:=.ins (r.cls c) ["told"] [r.t]
noncomputable def Rw.code:Rw->Bool
 |.mark _ _|.numbers _|.table _=>ao
 |_=>aj
structure FOk(K:W.Frag)(c:CA):Prop where
 f:∀r:Rw,S8 K (r.cls c) "told"
noncomputable def Rw.Xn:Rw->Bool
 |.mark _ _|.numbers _|.table _|.jump _|.jumpby _ _|.back|.stop=>ao
 |_=>aj
noncomputable def Rw.names:Rw->List D
 |.jump w|.jumpif _ w|.call w|.load _ _ w|.jumpby _ w=>[.str w]
 |.alike _ w v=>[.str w,.str v]
 |.table ws=>ws.map .str
 |_=>[]
noncomputable def Rw.g9(r:Rw):List D:=match r.t with|.tup ds=>ds|_=>[]
def pG:DS:=(gC (ip 2 (gD (gI (λ_ j=>0<j) λi j=>.int (i%j)) (gD kz (gD gJ (gD gJ (gD (gI (λ_ j=>0<j) λi j=>.int (i%j)) (gj 0) (dC (.int 2147483647))) (gD kz (dC (.int 7919)) (gj 1))) (dC (.int 1))) (dC (.int 48271))) (dC (.int 2147483647))))
 (gC (ip 2 (gD (gI (λ_ j=>0<j) λi j=>.int (i%j)) (gD kz (gj 2) (gD gJ (gD (gI Od λi j=>.int (i/j)) (gj 2) (dC (.int 1009))) (dC (.int 69621)))) (dC (.int 2147483647))))
 (gL (gD (gI (λ_ j=>0<j) λi j=>.int (i%j)) (gD kz (gD gJ (gj 2) (gD kz (dC (.int 31)) (gj 1))) (gD gJ (gD (gI Od λi j=>.int (i/j)) (gj 2) (dC (.int 16807))) (dC (.int 40692)))) (dC (.int 2147483629))))))
def p4:GP:=λds Q=>∃a k:Int,ds=[.int a,.int k]/\0<=k/\k<=1000/\∀n:Int,0<=n->n<2147483629->Q (.int n)
theorem jG{β:Type}{xs:List β}{k:Nat}{x:β}(h:xs[k]?=ae x):vf xs (k:Int)=ae x:=by have a:=(aC.mp h).1;unfold vf FK;rw[if_pos (by omega),if_pos (by omega)];simpa using h
theorem v4{β:Type}{xs:List β}{k:Nat}:cutD xs (ae (k:Int)) aq=xs.drop k:=by
 unfold cutD;rw[HT.uG,HT.u8];by_cases h:k<=xs.length
 ·rw[Nat.min_eq_left h,b0 (by rw[bt];omega)]
 ·rw[Nat.min_eq_right (by omega),List.drop_eq_nil_of_le (aY _),List.drop_eq_nil_of_le (by omega)];simp
theorem Cj{β:Type}{xs:List β}{k:Nat}:cutD xs aq (ae (k:Int))=xs.take k:=by unfold cutD;rw[HT.uG,HT.u8];simp
structure CF(K:W.Frag)(C:ai):Prop where
 pg:W.plainGet K C av.empty=aj
 hd:W.hasDictIn K C=aj
 po:W.plainOver K C=aj
 sa:W.findIn K (.ref C) "__setattr__"=ae (ae (.builtin "object.__setattr__"))
 mks:W.makesIn K C=aj
 kc:W.keepIn K (.ref C)=aj
 ha:W.findIn K (.ref C) "__class__"=ae (ae (.builtin "object.__class__"))
 hn:W.specialIn K (.builtin "object.__class__") "__get__"=ae (ae (.builtin "getset_descriptor.__get__"))
 RZ:W.takesIn K (.builtin "object.__class__")=ae aj
 hm:W.mroIn K C (.type "object")=ae aj
theorem CF.cls{K:W.Frag}{C:ai}(h:CF K C):MC K C:=⟨h.pg,h.hd,h.po,h.sa⟩
structure RF(K:W.Frag)(C fI fW fA fG fL:ai):Prop where
 c:CF K C
 nT:W.findIn K (.ref C) "told"=ae aq
 aI:W.findIn K (.ref C) "__init__"=ae (ae (.ref fI))
 aW:W.findIn K (.ref C) "words"=ae (ae (.ref fW))
 aA:W.findIn K (.ref C) "asked"=ae (ae (.ref fA))
 aG:W.findIn K (.ref C) "goes_on"=ae (ae (.ref fG))
 aL:W.findIn K (.ref C) "lengths"=ae (ae (.ref fL))
structure MF(K:W.Frag)(n q:av)(st:b3)(f:ai):Prop where
 ex:∃fd,Dk K n q st f fd
 fn:W.isFn K (.ref f)=aj
 kp:W.keepIn K (.ref f)=aj
section
variable {P:aw} {w:aN} {K:W.Frag} {mg:av->Option af} {base:az}
end
theorem PN{K:W.Frag}{b:ai}{o:bR}{us:List af}{n:Nat}{fs:List av}(l:K.lookup b=ae o)(hc:o.cls=.type "tuple")(a:o.data=.seq us.toArray n)(c:us.length<=ax)(e:Vals (fs.map V.str) us):EU K (fm fs) (.ref b):=
 ⟨.ref b,rfl,λα H=>by unfold fm Rep;exact⟨b,fs.map V.str,rfl,.inr ⟨o,us.toArray,n,l,hc,a,by simpa using c,by simpa using e⟩,gp.of_map _ _ (λ_=>kl) _⟩⟩
theorem HM:Vals (([]:List av).map V.str) []:=.nil
theorem Fa{x:av}{t:aaU}{fs:List av}{us:List af}(h:Vals (fs.map V.str) us):Vals ((x::fs).map V.str) (.str x t::us):=.cons ⟨t,rfl⟩ h
theorem PP{K:W.Frag}{a:ai}{o:bR}{es:List abj}{b:Nat}{rows:List (av×D)}(lo:(a==dq)=ao)(l:K.lookup a=ae o)(hc:o.ExactDict)(hd:o.data=.dict es.toArray b)(c:Rows (EU K) es rows):pE K a rows:=
 ⟨lo,o,es.toArray,b,l,hc,hd,by simpa using c⟩
end FJ
namespace L2
open PySem PySem.Spec PyProof.Rows PySem.W
def Xo (h:az)(e:ai):Prop:=∃a b,h.get? e=ae a/\a.data=.fields b/\b[2]?=ae .none
section
variable {M:aaE} {A:aH} {E:af->ah->Prop} {s:ah}
end
def Zh (P:aw)(w:aN):xZ:=λouter H s E e a=>∃x C od b T,e=.ref x/\a.os=s.os/\eN a.gens/\Un (oV outer) [] H b s.heap a.heap/\oY P w b a.heap/\
 Rec a.heap x C od T/\Xo a.heap x/\s.heap.objs.size<=x/\s.heap.objs.size<=T/\b x=aq/\b T=aq/\E C od b
section
variable {P:aw} {w:aN} {K:W.Frag} {mg:av->Option af} {base:az} {N:List av} {qual:av} {scope:b6} {f:ai} {cd:af} {A:aH} {outer:List d4} {ib:ah} {il:Hp} {E:XK}
end
end L2
namespace L2
open PySem PySem.Spec PyProof.Rows PySem.W
section
variable {P:aw} {w:aN} {K:W.Frag} {mg:av->Option af} {base:az} {N:List av} {qual:av} {scope:b6} {fn:ai} {cd:af} {A:aH} {outer:List d4} {ib:ah} {il:Hp} {E:XK}
variable {k:Nat} {f C:ai} {fd:bN} {ps:List av} {sp:Sp} {x:av} {p pos iz:cC} {e:aS} {es:List aS} {t:TA}
end
section
variable {P:aw} {w:aN} {K:W.Frag} {mg:av->Option af} {base:az} {N:List av} {qual:av} {scope:b6} {f:ai} {cd:af} {A:aH} {outer:List d4} {ib:ah} {il:Hp} {E:XK}
end
section
variable {X:Cx} {k:Nat} {f C:ai} {fd:bN} {ps:List av} {sp:Sp} {E:XS} {x m:av} {p pos apos:cC} {e o:aS} {es:List aS} {ta:TE} {t:TA}
def DV (P:aw)(w:aN)(K:W.Frag)(mg:av->Option af)(base:az)(k:Nat)(x:av)(ps:List av)(sp:Sp):Prop:=
 ∃f fd,mg x=ae (.ref f)/\W.keepIn K (.ref f)=aj/\Binds K fd ps []/\kb P w K mg base (Zh P w) k f fd ps sp
end
section
variable {P:aw} {w:aN} {K:W.Frag} {mg:av->Option af} {base:az}
theorem DV.mono{j k:Nat}{x:av}{ps:List av}{sp:Sp}(h:DV P w K mg base j x ps sp)(a:j<=k):DV P w K mg base k x ps sp:=by obtain⟨f,fd,m,kp,b,F⟩:=h;exact⟨f,fd,m,kp,b,F.mono a⟩
end
end L2
namespace L3
open PySem PySem.Spec PyProof.Rows L2
section
variable {X:Cx} {E:XS} {c e:aS} {te:XE} {tt:XA} {tA:DT} {t u:XB} {pos p p2:cC} {x:av} {st:b3} {BC as bs:List b3} {es:List aS}
structure Xp(P:aw)(w:aN)(K:W.Frag)(mg:av->Option af)(base:az)(k:Nat)(x:av)(ps:List av)(g:FT):Prop where
 mono:xI g
 p:DV P w K mg base k x ps (AA K g)
end
section
variable {P:aw} {w:aN} {K:W.Frag} {mg:av->Option af} {base:az}
end
section
variable {P:aw} {w:aN} {K:W.Frag} {mg:av->Option af} {base:az} {N:List av} {qual:av} {scope:b6} {fn:ai} {cd:af} {A:aH} {outer:List d4} {ib:ah} {il:Hp} {E:XK}
variable {k:Nat} {f C:ai} {fd:bN} {ps ns:List av} {x:av} {p pos iz:cC} {e:aS} {es:List aS} {tt:DA}
end
end L3
namespace L2
open PySem PySem.Spec PyProof.Rows PySem.W
section
variable {prog:aw} {w:aN} {A:aH} {E:af->ah->Prop} {env:d4} {s:ah}
variable {nm q:av} {C N:ai} {bs bm:List af} {kT:Bool} {sn:List av} {sub:List af} {ab:Bool} {col:Option Bool} {dd:Option ai} {k0 k1 k2 k3 k5:Option af} {newId:String}
end
end L2
namespace L2
open PySem PySem.Spec PyProof.Rows PySem.W
structure AG(k:Nat)(A:aH):Prop where
 dp:A.depth+3*k+5<aaG
 un:A.units+16*k+200<eQ
 gd:A.guards=ae []
theorem js.mark{k:Nat}{A:aH}(r:js k A)(e:Option af):AG k (A.mark e):=⟨r.dp,r.un,r.gd⟩
theorem AG.mono{j k:Nat}{A:aH}(r:AG k A)(h:j<=k):AG j A:=⟨by have:=r.dp;omega,by have:=r.un;omega,r.gd⟩
structure DW(P:aw)(w:aN)(K:W.Frag)(mg:av->Option af)(base:az)(CX:xZ)(k:Nat)(f:ai)(fd:bN)(ps:List av)(sp:Sp):Prop where
 len:∀vs H Q E,sp vs H Q E->vs.length=ps.length
 run:∀(A:aH) (outer:List d4) (s:ah) (H:Hp) (args:Args) (us:List af) (vs:List V) (Q:VK) (E:XK),AG k A->zT P w K mg base A outer s H->fV s fd args (ps.zip us)->Vals vs us->sp vs H Q E->
  codeAny (model P w) A (.call (.ref f) args) (CR CX outer P w H s Q E) s
theorem DW.mono{P:aw}{w:aN}{K:W.Frag}{mg:av->Option af}{base:az}{a:xZ}{j k:Nat}{f:ai}{fd:bN}{ps:List av}{sp:Sp}(F:DW P w K mg base a j f fd ps sp)(h:j<=k):
  DW P w K mg base a k f fd ps sp:=⟨F.len,λA outer s H args us b Q E c=>F.run A outer s H args us b Q E (c.mono h)⟩
section
variable {P:aw} {w:aN} {K:W.Frag} {mg:av->Option af} {base:az}
end
section
variable {X:Cx} {CX:xZ} {k:Nat} {f C:ai} {fd:bN} {ps:List av} {sp:Sp} {E:XK}
end
end L2
namespace L3
open PySem PySem.Spec PyProof.Rows L2
section
variable {P:aw} {w:aN} {K:W.Frag} {mg:av->Option af} {base:az}
end
end L3
namespace L2
open PySem PySem.Spec PyProof.Rows PySem.W
section
variable {M:aaE} {A:aH} {E:af->ah->Prop} {s:ah}
end
section
variable {P:aw} {w:aN} {K:W.Frag} {mg:av->Option af} {base:az} {N:List av} {qual:av} {scope:b6} {fn:ai} {cd:af} {A:aH} {outer:List d4} {ib:ah} {il:Hp} {E:XK}
variable {k:Nat} {f C B:ai} {fd:bN} {ps:List av} {sp:Sp} {x tn:av} {p pos iz tp Ay Xq np:cC} {kk:Nat} {e:aS} {es:List aS} {t:TA} {body:List b3} {tb:XS->TS}
end
end L2
namespace L2
open PySem PySem.Spec PyProof.Rows PySem.W
section
variable {X:Cx} {k:Nat} {E:XS} {x:av} {p pos:cC} {e:aS} {es:List aS} {t:TA}
end
end L2
namespace L3
open PySem PySem.Spec PyProof.Rows L2
abbrev Xr:=List D->Ms->DK->(EX->Ms->Prop)->Prop
abbrev TQ(g:Xr):Prop:=∀ds M (P Q:DK) (x y:EX->Ms->Prop),(∀d M,P d M->Q d M)->(∀e M,x e M->y e M)->g ds M P x->g ds M Q y
abbrev zK(K:W.Frag)(F α:List ai)(H:Hp)(M:Ms)(E:XK):EX->Ms->Prop:=λx c=>∀b a od e,Ext F α H M b a c->OK K F b a c->x.ns.length=x.ds.length->Nl a od (x.ns.zip e)->gp K b (iG F b c a) x.ds e->E (.ref x.C) od a
def Xs (K:W.Frag)(g:Xr):Sp:=λa H Q E=>∃F α M ds,OK K F α H M/\gp K α (iG F α M H) ds a/\g ds M (vK K F α H M Q) (zK K F α H M E)
section
variable {P:aw} {w:aN} {K:W.Frag} {mg:av->Option af} {base:az}
structure Lk(P:aw)(w:aN)(K:W.Frag)(mg:av->Option af)(base:az)(k:Nat)(C:ai)(m:av)(g:Xr):Prop where
 mono:TQ g
 cl:MC K C
 ok:∃f fd ps,Meth K C m f/\Binds K fd ps []/\kb P w K mg base (K4 P w) k f fd ps (Xs K g)
theorem Hc.x{k:Nat}{C:ai}{m:av}{g:GN}(h:Hc P w K mg base k C m g):Lk P w K mg base k C m λds M Q _=>g ds M Q:=by
 obtain⟨f,fd,ps,a,b,F⟩:=h.ok;refine⟨λds M P Q _ _ w _ q=>h.mono _ _ _ _ w q,h.cl,f,fd,ps,a,b,λc H Q E q=>F.len c H Q E q,λA outer s H args us c Q E j n hb r q=>dR (F.run A outer s H args us c Q E j n hb r q) λr o i=>?_⟩;cases r with
 |error e=>exact i.elim
 |ok fl=>cases fl<;>exact i
structure aaf(P:aw)(w:aN)(K:W.Frag)(mg:av->Option af)(base:az)(k:Nat)(f:ai)(g:FT):Prop where
 mono:xI g
 ok:∃fd ps,W.keepIn K (.ref f)=aj/\Binds K fd ps []/\kb P w K mg base (Zh P w) k f fd ps (AA K g)
end
section
variable {X:Cx} {E:XS} {c e o:aS} {to:DE} {te:XE} {tt:XA} {pos p p2 apos:cC} {x m:av} {es:List aS} {k:Nat}
end
structure TR(P:aw)(w:aN)(K:W.Frag)(mg:av->Option af)(base:az)(k:Nat)(x:av)(C:ai)(ns:List av):Prop where
 m:mg x=ae (.ref C)
 ok:∃f fd ps,Pp K C f/\Binds K fd ps []/\DW P w K mg base ud k f fd ps (Vc C ns)
section
variable {P:aw} {w:aN} {K:W.Frag} {mg:av->Option af} {base:az} {N:List av} {qual:av} {scope:b6} {fn:ai} {cd:af} {A:aH} {outer:List d4} {ib:ah} {il:Hp} {E:XK}
variable {k:Nat} {C B:ai} {ns:List av} {x tn:av} {p pos iz tp Ay Xq np:cC} {kk:Nat} {e:aS} {es:List aS} {tt:DA} {body:List b3} {tb:XB}
end
end L3
namespace L3
open PySem PySem.Spec PyProof.Rows L2
section
variable {X:Cx} {E:XS} {a b:aS} {ta:XE} {tb:DE} {pos:cC}
end
end L3
namespace L2
open PySem PySem.Spec PyProof.Rows PySem.W
section
variable {X:Cx} {value:aS} {te:TE} {pos:cC}
end
end L2
namespace L3
open PySem PySem.Spec PyProof.Rows L2
section
variable {X:Cx}
end
def spR (C:ai)(f:av):Sp:=λb H Q _=>∃x w,b=[.ref x,.str w]/\(reprText w).length<=4000/\H x=ae (lH x C aq)/\
 ∀a,H a=aq->a≠x->Q .non (upd (upd H a (xH a [(f,.str w)])) x (lH x C (ae a)))
section
variable {X:Cx} {es:List aS} {tj:TJ} {c x:av} {j:Option av} {p pos:cC}
end
section
variable {P:aw} {w:aN} {K:W.Frag} {mg:av->Option af} {base:az}
end
section
variable {P:aw} {w:aN} {K:W.Frag} {mg:av->Option af} {base:az} {N:List av} {qual:av} {scope:b6} {fn:ai} {cd:af} {A:aH} {outer:List d4} {ib:ah} {il:Hp} {E:XK}
variable {k:Nat} {f C:ai} {fd:bN} {ps ns:List av} {x f1:av} {p pos iz:cC} {e:aS} {es:List aS} {tt:DA}
structure TU(P:aw)(w:aN)(K:W.Frag)(mg:av->Option af)(base:az)(k:Nat)(x:av)(C:ai)(f1:av):Prop where
 m:mg x=ae (.ref C)
 ok:∃f fd ps,Pp K C f/\Binds K fd ps []/\kb P w K mg base ud k f fd ps (spR C f1)
end
end L3
namespace L2
open PySem PySem.Spec PyProof.Rows PySem.W
section
variable {X:Cx} {value:aS} {te:TE} {pos:cC}
theorem TV:MI X "str.startswith" (λv a H Q=>∃x y,v=.str x/\a=[.str y]/\Q (.bl (cY x y)) H):=by intro pins s σ H v a u us Q I b rs h;obtain⟨x,y,rfl,rfl,q⟩:=h;obtain⟨t,rfl⟩:=b;obtain⟨w,rfl,c,rfl⟩:=vals1 rs;exact SC.startswith ⟨.bl _,H,I,rfl,q⟩
theorem TW:MI X "str.endswith" (λv a H Q=>∃x y,v=.str x/\a=[.str y]/\Q (.bl (df x y)) H):=by intro pins s σ H v a u us Q I b rs h;obtain⟨x,y,rfl,rfl,q⟩:=h;obtain⟨t,rfl⟩:=b;obtain⟨w,rfl,c,rfl⟩:=vals1 rs;exact SC.endswith ⟨.bl _,H,I,rfl,q⟩
theorem Nq:∀{ss:List av} {us:List af},Vals (ss.map V.str) us->∃l:List (av×aaU),us=strValues l/\l.map (·.1)=ss
 |[],_,.nil=>⟨[],rfl,rfl⟩
 |s::ss,_,.cons r t=>by obtain⟨k,rfl⟩:=r;obtain⟨l,rfl,rfl⟩:=Nq t;exact⟨(s,k)::l,rfl,rfl⟩
theorem Ll:MI X "str.join" (λv b H Q=>∃x a ss,v=.str x/\b=[.ref a]/\nj X.K H a (ss.map V.str)/\aaS x ss=aj/\Q (.str (eI x ss)) H):=by intro pins s σ H v b u us Q I c rs h;obtain⟨x,a,ss,rfl,rfl,f,g,q⟩:=h;obtain⟨t,rfl⟩:=c;obtain⟨w,rfl,i⟩:=vals1 rs;cases i;obtain⟨g9,j,p,m⟩:=I.list f;obtain⟨l,rfl,e⟩:=Nq j;exact SC.join p.isList e g λn k=>⟨.str _,H,I.tk _,⟨_,rfl⟩,q⟩
theorem AH(tk:Nat):∀ss:List av,Vals (ss.map V.str) (strsFrom tk ss)
 |[]=>.nil
 |s::ss=>.cons ⟨_,rfl⟩ (AH _ ss)
theorem HN:MI X "str.split" (λv g H Q=>∃x y,v=.str x/\g=[.str y]/\(y.length==0)=ao/\x.length<=ax/\(cI x y).length<=ax/\∀p,H p=aq->Q (.ref p) (upd H p (.lst ((cI x y).map V.str)))):=by
 intro pins s σ H v g u us Q I j rs h;obtain⟨x,y,rfl,rfl,i,m,f,q⟩:=h;obtain⟨t,rfl⟩:=j;obtain⟨w,rfl,b,rfl⟩:=vals1 rs;have one:cI x y=[x]->wants (EP X pins σ Q) X.xe (.ok (.ret (.ref s.heap.objs.size))) {s with heap:=s.heap.push {cls:=.type "list",data:=.seq [eM x t].toArray}}:=λe=>by rw[e] at q;exact⟨.ref _,_,I.Gu (t':=s.toks) (ys:=[V.str x]) (g9:=[eM x t]) (.cons ⟨_,rfl⟩ .nil) (show 1<=ax by decide),rfl,q _ I.fresh⟩
 cases a:(decide (x.length<y.length)||decide (bd.Str.strKind x<bd.Str.strKind y))
 ·cases c:(cc x y 0 x.length (x.length+1)).isEmpty
  ·have e:cI x y=bd.Str.partsBetween x (cc x y 0 x.length (x.length+1)) y.length:=(if_neg (ne_true_of_eq_false a)).trans (if_neg (ne_true_of_eq_false c));rw[e] at f q;refine fq F.slot_str_split (fk _ _ _) F.entry_str_split (F.args_str_split_2 _ _) (meets_str_split_sep x y t b a i c m f) ?_;exact⟨.ref _,_,I.Gu (AH _ _) (by rw[ap];exact f),rfl,q _ I.fresh⟩
  ·exact fq F.slot_str_split (fk _ _ _) F.entry_str_split (F.args_str_split_2 _ _) (meets_str_split_not_found x y t b a i c) (one ((if_neg (ne_true_of_eq_false a)).trans (if_pos c)))
 ·exact fq F.slot_str_split (fk _ _ _) F.entry_str_split (F.args_str_split_2 _ _) (meets_str_split_cannot_occur x y t b a) (one (if_pos a))
theorem xJ:nk X (.type "str") (λxs H Q=>(∃y,xs=[.str y]/\Q (.str y) H)\/∃i:Int,xs=[.int i]/\i.natAbs.log2<1920/\Q (.str (toString i)) H):=by
 intro pins s σ H xs us Q I r h;rcases h with⟨y,rfl,q⟩|⟨i,rfl,hi,q⟩
 ·obtain⟨w,rfl,a,rfl⟩:=vals1 r;exact PySem.P.str_of_str ⟨.str y,H,I,⟨_,rfl⟩,q⟩
 ·obtain⟨w,rfl,a,rfl⟩:=vals1 r;exact PySem.P.str_of_int hi ⟨.str _,H,I.tk _,⟨_,rfl⟩,q⟩
theorem Fb:nk X (.type "int") (λxs H Q=>∃y n,xs=[.str y]/\y.length<=640/\PySem.intText? y=ae n/\Q (.int n) H):=by intro pins s σ H xs us Q I r h;obtain⟨y,n,rfl,a,hn,q⟩:=h;obtain⟨w,rfl,b,rfl⟩:=vals1 r;exact KIN.call_text hn a ⟨.int n,H,I.tk _,⟨_,rfl⟩,q⟩
end
end L2
namespace L3
open PySem PySem.Spec PyProof.Rows L2 PyProof.Rows.KTD
section
variable {X:Cx}
def Fc:GM:=λd ds M Q=>match d,ds with
 |.str x,[.str y]=>Q (.bl (cY x y)) M
 |_,_=>False
theorem Nr:JM X "str.startswith" Fc:=by
 refine⟨λd ds M P Q w q=>?_,λpins s σ H x xs v us Q I b rs h=>?_⟩
 ·unfold Fc at q ⊢;split at q<;>first|exact q.elim|exact w _ _ q
 ·obtain⟨F,α,M,d,ds,ok,r,c,h⟩:=h;unfold Fc at h;split at h<;>first|exact h.elim|skip
  obtain⟨u,rfl,a⟩:=kQ c;unfold Rep at r a;subst r a;exact TV pins s σ H _ _ v us Q I b rs ⟨_,_,rfl,rfl,vK.now ok h iF⟩
def HP:GM:=λd ds M Q=>match d,ds with
 |.str x,[.str y]=>Q (.bl (df x y)) M
 |_,_=>False
theorem Nt:JM X "str.endswith" HP:=by
 refine⟨λd ds M P Q w q=>?_,λpins s σ H x xs v us Q I b rs h=>?_⟩
 ·unfold HP at q ⊢;split at q<;>first|exact q.elim|exact w _ _ q
 ·obtain⟨F,α,M,d,ds,ok,r,c,h⟩:=h;unfold HP at h;split at h<;>first|exact h.elim|skip
  obtain⟨u,rfl,a⟩:=kQ c;unfold Rep at r a;subst r a;exact TW pins s σ H _ _ v us Q I b rs ⟨_,_,rfl,rfl,vK.now ok h iF⟩
def oa:GM:=λd ds M Q=>match d,ds with
 |.str x,[y]=>∃ss:List av,vw M y=.lst (ss.map D.str)/\aaS x ss=aj/\Q (.str (eI x ss)) M
 |_,_=>False
theorem uO:JM X "str.join" oa:=by
 refine⟨λd ds M P Q w q=>?_,λpins s σ H x xs v us Q I f rs h=>?_⟩
 ·unfold oa at q ⊢;split at q<;>first|exact q.elim|exact let⟨a,b,c,q⟩:=q;⟨a,b,c,w _ _ q⟩
 ·obtain⟨F,α,M,d,ds,ok,r,g,h⟩:=h;unfold oa at h;split at h<;>first|exact h.elim|skip
  obtain⟨ss,e,i,h⟩:=h;obtain⟨u,rfl,j⟩:=kQ g;unfold Rep at r;subst r;obtain⟨a,o,rfl,m,n⟩:=jF ok j e;cases xF n;exact Ll pins s σ H _ _ v us Q I f rs ⟨_,a,ss,rfl,rfl,nj.of m,i,vK.now ok h kl⟩
theorem rZ{K:W.Frag}{α:List ai}{H:Hp}:∀ss:List av,gp K α H (ss.map D.str) (ss.map V.str)
 |[]=>by unfold gp;rfl
 |w::ss=>by show gp K α H (D.str w::ss.map D.str) _;unfold gp;exact⟨.str w,ss.map V.str,rfl,by unfold Rep;rfl,rZ ss⟩
def mf:GM:=λd ds M Q=>match d,ds with
 |.str x,[.str y]=>(y.length==0)=ao/\x.length<=ax/\(cI x y).length<=ax/\Q (.lst ((cI x y).map D.str)) M
 |_,_=>False
theorem pH:JM X "str.split" mf:=by
 refine⟨λd ds M P Q w q=>?_,λpins s σ H x xs v us Q I i rs h=>?_⟩
 ·unfold mf at q ⊢;split at q<;>first|exact q.elim|exact let⟨a,b,c,q⟩:=q;⟨a,b,c,w _ _ q⟩
 ·obtain⟨F,α,M,d,ds,ok,r,j,h⟩:=h;unfold mf at h;split at h<;>first|exact h.elim|skip
  obtain⟨m,n,o,h⟩:=h;obtain⟨u,rfl,f⟩:=kQ j;unfold Rep at r f;subst r f;refine HN pins s σ H _ _ v us Q I i rs ⟨_,_,rfl,rfl,m,n,o,λp g=>vK.new ok g h λe=>kE ok g (rZ _) e⟩
def Lm:GN:=λds M Q=>match ds with
 |[.str y]=>Q (.str y) M
 |[.int i]=>i.natAbs.log2<1920/\Q (.str (toString i)) M
 |_=>False
theorem PQ:JB X (.type "str") Lm:=by
 refine⟨λds M P Q w q=>?_,λpins s σ H xs us Q I rs h=>?_⟩
 ·unfold Lm at q ⊢;split at q<;>first|exact q.elim|exact w _ _ q|exact⟨q.1,w _ _ q.2⟩
 ·obtain⟨F,α,M,ds,o,b,h⟩:=h;unfold Lm at h;split at h<;>first|exact h.elim|skip
  ·obtain⟨v,rfl,a⟩:=kQ b;unfold Rep at a;subst a;exact xJ pins s σ H _ us Q I rs (.inl ⟨_,rfl,vK.now o h kl⟩)
  ·obtain⟨v,rfl,a⟩:=kQ b;unfold Rep at a;subst a;exact xJ pins s σ H _ us Q I rs (.inr ⟨_,rfl,h.1,vK.now o h.2 kl⟩)
def r6:GN:=λds M Q=>match ds with
 |[.str y]=>∃n,y.length<=640/\PySem.intText? y=ae n/\Q (.int n) M
 |_=>False
theorem yG:JB X (.type "int") r6:=by
 refine⟨λds M P Q w q=>?_,λpins s σ H xs us Q I rs h=>?_⟩
 ·unfold r6 at q ⊢;split at q<;>first|exact q.elim|exact let⟨a,b,c,q⟩:=q;⟨a,b,c,w _ _ q⟩
 ·obtain⟨F,α,M,ds,o,f,h⟩:=h;unfold r6 at h;split at h<;>first|exact h.elim|skip
  obtain⟨n,g,i,h⟩:=h;obtain⟨v,rfl,e⟩:=kQ f;unfold Rep at e;subst e;exact Fb pins s σ H _ us Q I rs ⟨_,n,rfl,g,i,vK.now o h iI⟩
def Zi (c:av)(a:DE):DE:=λb M Q=>a b M λd M1=>match d with
 |.str y=>c.length+y.length<=ax/\Q (.str (c++y)) M1
 |_=>False
theorem Xt{e:aS}{h:DE}{c:av}{j}{o u pos:cC}(g:JE X e h)(hc:c.length<=ax:=by decide):JE X (.JoinedStr [.Constant (.str c) j o,.FormattedValue e (-1) aq u] pos) (Zi c h):=by
 refine⟨λf M P Q w q=>g.mono f _ _ _ (λd M1 q=>?_) q,PE.weak (DN (uN BI (uN (Hu g.p) Hw))) λσ H Q q=>?_⟩
 ·cases d<;>first|exact q.elim|exact⟨q.1,w _ _ q.2⟩
 ·obtain⟨F,α,f,M,r,q⟩:=q;have i:av.empty++c=c:=by show av.mk (#[]++c.cps)=c;rw[Array.empty_append]
  have m:∀a b:av,(a++b).length=a.length+b.length:=PySem.Str.length_append;refine⟨c,rfl,?_,F,α,f,M,r,g.mono f _ _ _ (λd M1 q v y H1 e1 z n=>?_) q⟩
  ·rw[i];exact hc
  ·cases d<;>first|exact q.elim|skip
   unfold Rep at n;subst n;have A:=q.1;refine⟨by omega,_,rfl,?_⟩;rw[i];exact⟨by rw[m];exact q.1,by rw[m];exact q.1,q.2 _ y H1 e1 z kl⟩
theorem pE.Xu{prog:aw}{w:aN}{A:aH}{E:af->ah->Prop}{s:ah}{K:W.Frag}{a:ai}{rows:List (av×D)}{k:av}{tk:aaU}{dflt:af}{Q:af->ah->Prop}(T:pE K a rows)(b:K.In s.heap)
(c:∀d v,eD k rows=ae d->EU K d v->Q v {s with toks:=s.toks+1})(e:eD k rows=aq->Q dflt {s with toks:=s.toks+1}):wpAny (model prog w) A (call (.builtin "dict.get") [.ref a,.str k tk,dflt]) Q E s:=by refine cR PySem.F.slot_dict_get (T.typeIs b) PySem.F.entry_dict_get ?_ (PySem.F.args_dict_get_3 _ _ _);show wpAny _ _ (aaR a (.str k tk) >>= _) _ _ s;refine ag (T.get b (λd v ha f=>aB ⟨v,rfl,c d v ha f⟩) λhn=>?_);show wpAny _ _ (bd.Dict.missed a (.str k tk) >>= _) _ _ _;exact ag (wpAny_missed_other T.lo (aB ⟨dflt,rfl,e hn⟩))
def yH (rows:List (av×D))(tt:DA):DE:=λa M Q=>tt a M λds M1=>∃k x,ds=[.str k,x]/\Q ((eD k rows).getD x) M1
theorem HQ{o e:aS}{es:List aS}{tt:DA}{a:ai}{rows:List (av×D)}{apos c:cC}(T:pE X.K a rows)(j:JE X o (dC (.cls a)))(ha:JA X (e::es) tt)
(C:cQ o "get" X.env (eval o X.env)=eval o X.env:=by rfl)
(E:((cb c (aJ (e::es) X.env)).all (λx=>!x.1)&&(f8 c (eS [] X.env)).all (λx=>x.1.isSome)
   &&decide ((e::es).length+([]:List ff).length+(if([]:List ff).isEmpty then 0 else 1)<30))=aj:=by rfl)
(G:(apos.endLine==c.line)=aj:=by rfl)(J:aJ (e::es) X.env=(ao,eval e X.env)::aJ es X.env:=by rfl)(L:(cb c (aJ es X.env)).any (·.1)=ao:=by rfl):
  JE X (.Call (.Attribute o "get" apos) (e::es) [] c) (yH rows tt):=by
 refine⟨λh M P Q w q=>ha.mono h _ _ _ (λds M1 ⟨k,x,e,q⟩=>⟨k,x,e,w _ _ q⟩) q,λpins s σ H Q I q=>?_⟩;obtain⟨F,α,h,M,r,q⟩:=q;refine aaP C E G rfl (ji (j.p pins s σ H (λv H1=>v=.ref a/\lA X.K tt σ H1 λm f=>∃k x d,m=[.str k,x]/\(∃F α M,OK X.K F α f M/\Rep X.K α (iG F α M f) d x/\vK X.K F α f M Q ((eD k rows).getD d) M)) I ⟨F,α,h,M,r,λv N H1 e1 O g=>?_⟩) λv s1 n=>?_)
 ·unfold Rep at g;refine⟨g,F,N,h,M,r.grow e1 O,ha.mono h _ _ _ (λds M1 q m U f e2 Y i=>?_) q⟩;obtain⟨k,x,rfl,q⟩:=q;obtain⟨u1,z,rfl,A,z2⟩:=xx i;unfold Rep at A;subst A;exact⟨k,z,x,rfl,F,U,M1,Y,z2,vK.grow (e1.trans e2) _ _ q⟩
 ·obtain⟨x,H1,u,g,rfl,q1⟩:=n;obtain rfl:v=aR a:=g;refine⟨"dict","dict.get",PySem.F.plainAttrs_dict,PySem.F.slot_dict_get,PySem.F.type_dict_get,T.typeIs u.ni,λb hb=>?_,?_⟩
  ·cases hb;obtain⟨o,es,ep,j,hc,_⟩:=T.ex;exact⟨o,u.ni _ _ j,hc.2.1⟩
  have B:=ha.p c pins s1 σ H1 _ u q1;rw[J] at B ⊢;refine dZ (by show(ao||(cb c (aJ es X.env)).any (·.1))=ao;rw[L]<;>rfl) (eB ?_);refine ji B λus s2 n=>?_;obtain⟨m,f,y,i,k,x,d,rfl,F,α,M,ok,rx,q⟩:=n;obtain⟨u1,z,rfl,⟨t,rfl⟩,q2⟩:=vals2 i;refine T.Xu y.ni (λd' v hd cv=>?_) λhn=>?_
  ·rw[hd] at q;obtain⟨vv,g,i⟩:=cv;exact⟨vv,f,y.tok _,g,vK.now ok q (i _ _)⟩
  ·rw[hn] at q;exact⟨x,f,y.tok _,q2,vK.now ok q rx⟩
end
end L3
namespace L3
open PySem PySem.Spec PyProof.Rows L2
noncomputable def uD(M:Ms):Nat->D->D
 |0,d=>d
 |n+1,d=>match vw M d with
  |.lst ds=>.lst (ds.map (uD M n))
  |.tup ds=>.tup (ds.map (uD M n))
  |z=>z
section
variable {K:W.Frag} {F α:List ai} {H:Hp} {M:Ms}
theorem v5{b:Hp}{f:D->D}(h:∀d v,Rep K α H d v->Rep K α b (f d) v):∀(ds:List D) (a:List V),gp K α H ds a->gp K α b (ds.map f) a
 |[],a,r=>by unfold gp at r;subst r;exact gp.nil
 |d::ds,a,r=>by unfold gp at r;obtain⟨v,r,rfl,z,y⟩:=r;exact gp.cons (h d v z) (v5 h ds r y)
theorem uP(o:OK K F α H M):∀(n:Nat) (d:D) (v:V),Rep K α (iG F α M H) d v->Rep K α (iT F H) (uD M n d) v
 |0,d,v,h=>Rep.mono (aX _) l9 d v h
 |n+1,d,v,h=>by
  have b:=sZ o d v h;unfold uD;generalize e:vw M d=z at b ⊢;cases z<;>first|exact b|skip
  ·cases d<;>first|(cases e;done)|skip
   ·cases e;unfold Rep at h;obtain⟨a,c,rfl,g,z⟩:=h;show Rep K α _ (.tup _) _;unfold Rep;exact⟨a,c,rfl,mr l9 g,v5 (uP o n) _ _ z⟩
   ·rcases jB e with e|⟨x,j,e⟩
    ·cases e
    ·cases x<;>cases e
  ·obtain⟨a,c,rfl,q,r⟩:=jF o h e;unfold Rep at b;obtain⟨m,i,e',f,p⟩:=b;cases e';have:=hX _ _ f;rw[q] at this;cases this;show Rep K α _ (.lst _) _;unfold Rep;exact⟨a,c,rfl,f,v5 (uP o n) _ _ r⟩
def Ln (n m:Nat)(tb:DS):GP:=λds Q=>ds.length=m/\tb ⟨λ_ _=>Q .non,λd a=>nl (uD a 3 d)=aj/\Q (uD a 3 d),λ_ _=>False,λ_ _=>False⟩ (lf n ds) []
theorem Lo{n:List av}{ps:List av}{X:Cx}{body:List b3}{tb:DS}(g:wJ X body tb){H:Hp}{c:List V}{Q:VK}{E:XK}(j:X.K=K)(h:mR K (cl (Ln n.length ps.length tb)) c H Q E):
  ∃t,QB X body t/\t {nx:=λ_ b=>Q .non b,rt:=Q} (L2.start n c) H:=by
 subst j;obtain⟨F,α,M,ds,o,r,hn,z,q⟩:=h;have m:OK X.K (lv α M++F) [] H []:=⟨rfl,d6,λa ha=>⟨by simp,by
  rcases aO.mp ha with ha|ha
  ·exact o.Dm a ha
  ·exact(o.fr a ha).2⟩,λa ha=>(by simp at ha),λk x h=>(by simp at h),o.tb⟩
 have u:gp X.K [] (iG (lv α M++F) [] [] H) ds c:=gp.nl ds c hn r;refine⟨_,⟨g.p⟩,lv α M++F,[],lf n.length ds,[],uL m u,?_⟩;refine g.mono _ _ _ _ ?_ q;refine⟨λA w q B y b e r=>?_,λd w q v y b e i r=>?_,λ_ _ q=>q.elim,λ_ _ q=>q.elim⟩
 ·obtain⟨e1,f⟩:=kx o e r.ok;exact q _ α b e1 f lY
 ·obtain⟨e1,f⟩:=kx o e i;exact q.2 v α b e1 f (Rep.nl _ _ q.1 (uP i 3 d v r))
end
theorem PR{P:aw}{w:aN}{K:W.Frag}{mg:av->Option af}{base:az}{x:av}{st:b3}{N ps:List av}{k:Nat}{body:List b3}{scope:b6}{tb:DS}(F:gY K mg x st)(a:ix st=body)(es:hG st=scope)(S:jQ N ps scope)
(hb:∀(kV doc pm:af) (an:Option ai) (iC ct:af) (us:List af),us.length=ps.length->dY (W.fnOf x x (jz st) (ix st) (hG st) .none kV doc pm an iC ct) ⟨us,[]⟩=pure (ps.zip us))
(b:∀(f:ai) (iC:af) (A:aH) (outer:List d4) (s:ah) (H:Hp) (E:XK),js k (A.deeper (dO x scope s.heap.objs.size f iC))->wJ (qj ud P w K mg base N x scope f iC A outer s H E).Er body tb):
  nv P w K mg base (k+1) x ps (mR K (cl (Ln N.length ps.length tb))):=
 F.OO a es S hb (λc H Q E ⟨F,α,M,ds,o,r,hn,e,q⟩=>by rw[<-gp.length _ _ r];exact e) λf iC A outer s H c Q E g h=>Lo (ps:=ps) (b f iC A outer s H E g) rfl h
end L3
namespace L3
open PySem PySem.Spec PyProof.Rows L2
def xL (n m:Nat)(tb:XB):FT:=λds Q b=>ds.length=m/\tb (λe _ _=>ql e.ds=aj/\b e) ⟨λ_ _=>Q .non,λd a=>nl (uD a 3 d)=aj/\Q (uD a 3 d),λ_ _=>False,λ_ _=>False⟩ (lf n ds) []
section
variable {P:aw} {w:aN} {K:W.Frag} {mg:av->Option af} {base:az}
theorem Cm{n m:Nat}{tb:XB}(hb:∀(x y:yB) (P Q:iV) a M,x.le y->P.le Q->tb x P a M->tb y Q a M):xI (xL n m tb):=λds P Q x y w v q=>⟨q.1,by
 refine hb _ _ _ _ _ _ (λe _ _ q=>⟨q.1,v _ q.2⟩) ?_ q.2;exact⟨λ_ _ q=>w _ q,λ_ _ q=>⟨q.1,w _ q.2⟩,λ_ _ q=>q,λ_ _ q=>q⟩⟩
theorem HR{n:List av}{ps:List av}{X:Cx}{body:List b3}{tb:XB}{E:XK}(g:Jv X (λ_=>E) body tb){H:Hp}{f:List V}{Q:VK}(u:X.K=K)(h:AA K (xL n.length ps.length tb) f H Q E):
  ∃t,rn X body t/\t {nx:=λ_ b=>Q .non b,rt:=Q} (L2.start n f) H:=by
 subst u;obtain⟨F,α,M,ds,o,r,hn,I,q⟩:=h;have y:OK X.K (lv α M++F) [] H []:=⟨rfl,d6,λa ha=>⟨by simp,by
  rcases aO.mp ha with ha|ha
  ·exact o.Dm a ha
  ·exact(o.fr a ha).2⟩,λa ha=>(by simp at ha),λk x h=>(by simp at h),o.tb⟩
 have z:gp X.K [] (iG (lv α M++F) [] [] H) ds f:=gp.nl ds f hn r;refine⟨_,g.p,lv α M++F,[],lf n.length ds,[],uL y z,?_⟩;refine g.mono _ _ _ _ _ _ (λe J i ⟨nl,A⟩ B j b od ws ext C l xd G=>?ex) ?le q;case ex=>
  obtain⟨e1,c⟩:=kx o ext C.ok;exact A b od ws e1 c l xd (gp.nl _ _ nl (gp.mono (aX _) l9 _ _ G))
 case le=>
  refine⟨λL i q B j b e r=>?_,λd i q v j b e m r=>?_,λ_ _ q=>q.elim,λ_ _ q=>q.elim⟩
  ·obtain⟨e1,c⟩:=kx o e r.ok;exact q _ α b e1 c lY
  ·obtain⟨e1,c⟩:=kx o e m;exact q.2 v α b e1 c (Rep.nl _ _ q.1 (uP m 3 d v r))
theorem PU{x:av}{st:b3}{N ps:List av}{k:Nat}{body:List b3}{scope:b6}{tb:XB}(F:gY K mg x st)(j:ix st=body)(es:hG st=scope)(S:jQ N ps scope)
(hb:∀(kV doc pm:af) (an:Option ai) (iC ct:af) (us:List af),us.length=ps.length->dY (W.fnOf x x (jz st) (ix st) (hG st) .none kV doc pm an iC ct) ⟨us,[]⟩=pure (ps.zip us))
(g:∀(f:ai) (iC:af) (A:aH) (outer:List d4) (s:ah) (H:Hp) (E:XK),js k (A.deeper (dO x scope s.heap.objs.size f iC))->Jv (vT P w K mg base N x scope f iC A outer s H (Rp H E)) (λ_=>Rp H E) body tb):
  tF P w K mg base (k+1) x ps (AA K (xL N.length ps.length tb)):=by
 have n:tF P w K mg base (k+1) x ps (λa H Q c=>∃E,c=Rp H E/\AA K (xL N.length ps.length tb) a H Q E):=
  F.Xd j es S hb (λa H Q c ⟨E,_,F,α,M,ds,o,r,hn,p,q⟩=>by rw[<-gp.length _ _ r];exact p) λf iC A outer s H a Q c i ⟨E,e,F,α,M,ds,o,r,hn,q⟩=>by subst e;exact HR (ps:=ps) (g f iC A outer s H E i) rfl ⟨F,α,M,ds,o,r,hn,Cm (g f iC A outer s H E i).mono _ _ _ _ _ (λ_ q=>q) (λex q u od ws e1 v l xd y=>.base (q u od ws e1 v l xd y)) q⟩
 obtain⟨f,fd,m,kp,b,z⟩:=n;exact⟨f,fd,m,kp,b,z.ux λa H Q E h=>⟨E,rfl,h⟩⟩
end
end L3
namespace L2
open PySem PySem.Spec PyProof.Rows
section
variable {X:Cx}
def Vg (X:Cx)(e:aS)(t:TE):Prop:=∀(pins:List (ai×bR)) (s:ah) (σ:St) (H:Hp) (Q:VK),0<s.toks->Inv X pins σ H s->t σ H Q->wpAny (model X.prog X.w) X.A (eval e X.env) (EP X pins σ Q) X.xe s
def TX (i:Nat)(a b:av):TE:=λσ H Q=>∃z,σ[i]?=ae (ae (.str z))/\z.length<=100000/\Q (.str (Txt.replace z a b)) H
theorem Lp{i:Nat}{x a b:av}{g j:Nat}{p pa n apos o:cC}(B:X.N[i]?=ae x)(C:Ji X.env.scope x)(E:(a==b)=ao)(hb:b.length<=14)(hd:(x==("__debug__":av))=ao)(G:(x==("__classdict__":av))=ao)
(J:cQ (.Name x p) "replace" X.env (eval (.Name x p) X.env)=eval (.Name x p) X.env)(L:(apos.endLine==o.line)=aj)
(M:cb o (aJ [.Constant (.str a) g pa,.Constant (.str b) j n] X.env)=[(ao,eval (.Constant (.str a) g pa) X.env),(ao,eval (.Constant (.str b) j n) X.env)]):
  Vg X (.Call (.Attribute (.Name x p) "replace" apos) [.Constant (.str a) g pa,.Constant (.str b) j n] [] o) (TX i a b):=by
 intro pins s σ H Q T I h;obtain⟨z,e,U,q⟩:=h;refine wpAny_Call_method2_late J L M ?_;obtain⟨m,hn,O⟩:=I.loc;obtain⟨u,r,l⟩:=O i x (.str z) B e C;obtain⟨t,rfl⟩:=r;have v:MethodOn X.prog X.w X.A "replace" o (.str z t) [(ao,eval (.Constant (.str a) g pa) X.env),(ao,eval (.Constant (.str b) j n) X.env)] (EP X pins σ Q) X.xe s:=by refine⟨"str","str.replace",PySem.F.plainAttrs_str,PySem.F.slot_str_replace,PySem.F.type_str_replace,fk _ _ _,λb hb=>(by cases hb),?_⟩;refine dZ rfl (eB ?_);refine eR (Calls.Constant_str (eR (Calls.Constant_str (Calls.spliced_nil ?_))));exact SC.replaceW (show s.toks≠0 by omega) (show s.toks+1≠0 by omega) (show s.toks≠s.toks+1 by omega) E (by omega) hb λY k=>⟨.str _,H,I.tok _,⟨_,rfl⟩,q⟩
 rcases l with⟨f,hm⟩|⟨f,c,hc,y⟩
 ·exact fU (aaV I.ok.kind f hn hm v) hd
 ·rcases f with f|f
  ·exact fU (aa2 I.ok.kind f hc y v) hd
  ·exact fU (aa3 I.ok.kind f hc y v G) hd
theorem PV{k:Nat}{x:av}{ps:List av}{sp:Sp}{p pos:cC}{e:aS}{c:TE}(h:nv X.prog X.w X.K X.mg X.base k x ps sp)(n:js k X.A)(ha:Vg X e c)(o:Gl X x)(v:(x==("__debug__":av))=ao)
(g:aJ [e] X.env=(ao,eval e X.env)::aJ [] X.env)(y:(cb pos (aJ [] X.env)).any (·.1)=ao):
  Vg X (.Call (.Name x p) [e] [] pos) (Ge sp [] E0 (Db c Oo)):=by
 intro pins s σ H Q z I B;obtain⟨f,fd,m,kp,b,F⟩:=h;refine dw (pU I o m ?_ v);have C:wpAny (model X.prog X.w) X.A (spliced (cb pos (aJ [e] X.env))) (AP X pins σ λi H1=>sp (i++[]) H1 Q E0) X.xe s:=by rw[g];show wpAny _ _ (spliced ((ao,eval e X.env)::cb pos (aJ [] X.env))) _ _ s;refine eR (ji (ha pins s σ H _ z I B) λu s1 E=>?_);obtain⟨x,H1,a,G,J⟩:=E;exact Calls.spliced_nil ⟨[x],H1,a,.cons G .nil,J⟩
 refine W.callWith_K (h₀:=X.base) I.ok.mod.JD kp (ji C λus s1 ⟨i,H1,a,r,q⟩=>⟨a.ni,?_⟩) g y;exact Gf F n b .nil Gy a r q
theorem pw_rep{a c d:aS}{g tc td:TE}{r:R2}{n:Int}{j:Nat}{p q m pos:cC}(ha:PE X a g)(hc:Vg X c tc)(hd:PE X d td)(w:oP X (compareOp .NotEq) r)(hm:dG .NotEq (.Constant (.int n) j p)=ao)(A:dG .NotEq d=ao):
  PW X (.BoolOp .Or [.Compare a [.NotEq] [.Constant (.int n) j p] q,.Compare c [.NotEq] [d] m] pos) (λσ H Q=>g σ H λx H1=>∃i:Int,x=.int i/\if(i !=n)=aj then Q aj H1 else Ga (Q4 r tc td) σ H1 Q):=by
 intro B pins s σ H Q I h;refine aaK (f6 (ji (ha pins s σ H _ I h) λv s1 C=>?_) hm);obtain⟨x,H1,o,E,i,e,f⟩:=C;subst e;obtain⟨t,rfl⟩:=E;refine aa5 (ne_int (bY ?_));cases hb:(i !=n) with
 |true=>rw[hb] at f;exact⟨H1,o.tok _,f⟩
 |false=>
  rw[hb,if_neg am] at f;refine(show wpAny _ _ (aaF (.BoolOp .Or [.Compare c [.NotEq] [d] m] pos) X.env B) (TP X pins σ Q) X.xe {s1 with toks:=s1.toks+1} from ?_);refine aaK (ji (Q:=TP X pins σ Q) ?_ λb s3 e=>?_)
  ·refine f6 (ji (hc pins _ σ H1 _ (Nat.succ_pos _) (o.tok _) f) λv s2 ⟨x,G,J,L,M⟩=>ji (hd pins s2 σ G _ J M) λu s3 ⟨y,N,O,T,U⟩=>
    ji (w pins s3 σ N x y v u _ O L T U) λc s4 ⟨z,Y,I4,r4,k,e,q4⟩=>?_) A
   subst e;cases r4;exact bY ⟨Y,I4,q4⟩
  ·cases b with
   |false=>exact abD e
   |true=>exact e
end
end L2
namespace L3
open PySem PySem.Spec PyProof.Rows L2
def Lq (f:DE)(n:Int)(i:Nat)(a b:av)(g:GN)(m:Int):DT:=λe M Q=>f e M λd M1=>match d with
 |.int j=>if(j !=n)=aj then Q aj M1 else(match e[i]? with
  |some (ae (.str z))=>z.length<=100000/\g [.str (Txt.replace z a b)] M1 λd M2=>mS d (.int m) M2 λx h=>match x with
   |.bl c=>Q c h
   |_=>False
  |_=>False)
 |_=>False
section
variable {X:Cx}
theorem PX{e:aS}{J:DE}{n m:Int}{i k:Nat}{f x a b:av}{ps:List av}{g:GN}{j o u L:Nat}{p p1 p2 pf O c pa y apos B pm pos:cC}(E:JE X e J)(h:iA X.prog X.w X.K X.mg X.base k f ps g)(hr:js k X.A)(hu:X.A.units+64<eQ)
(hN:X.N[i]?=ae x:=by rfl)(hv:Ji X.env.scope x:=by first|exact eH rfl|exact di (eH rfl)|exact di (di rfl))(Jw:(a==b)=ao:=by decide+kernel)(hb:b.length<=14:=by decide+kernel)
(hd:(x==("__debug__":av))=ao:=by decide)(t8:(x==("__classdict__":av))=ao:=by decide)
(nr:cQ (.Name x c) "replace" X.env (eval (.Name x c) X.env)=eval (.Name x c) X.env:=by rfl)(rG:(apos.endLine==B.line)=aj:=by rfl)
(Cn:cb B (aJ [.Constant (.str a) o pa,.Constant (.str b) u y] X.env)=[(ao,eval (.Constant (.str a) o pa) X.env),(ao,eval (.Constant (.str b) u y) X.env)]:=by rfl)
(hg:Gl X f:=by rfl)(qD:(f==("__debug__":av))=ao:=by decide)
(jv:aJ [.Call (.Attribute (.Name x c) "replace" apos) [.Constant (.str a) o pa,.Constant (.str b) u y] [] B] X.env=(ao,eval (.Call (.Attribute (.Name x c) "replace" apos) [.Constant (.str a) o pa,.Constant (.str b) u y] [] B) X.env)::aJ [] X.env:=by rfl)(oW:(cb O (aJ [] X.env)).any (·.1)=ao:=by rfl)
(hm:dG .NotEq (.Constant (.int n) j p)=ao:=by rfl)(O7:dG .NotEq (.Constant (.int m) L pm)=ao:=by rfl):
  JW X (.BoolOp .Or [.Compare e [.NotEq] [.Constant (.int n) j p] p1,.Compare (.Call (.Name f pf) [.Call (.Attribute (.Name x c) "replace" apos) [.Constant (.str a) o pa,.Constant (.str b) u y] [] B] [] O) [.NotEq] [.Constant (.int m) L pm] p2] pos) (Lq J n i a b g m):=by
 have G:=mT (X:=X) hu;refine⟨λC M P Q w q=>E.mono C _ _ _ (λd M1 q=>?_) q,PW.weak (pw_rep E.p (PV h.p hr (Lp (i:=i) hN hv Jw hb hd t8 nr rG Cn) hg qD jv oW) FY G.p hm O7) λσ H Q q=>?_⟩
 ·cases d<;>first|exact q.elim|skip
  rename_i j;revert q;simp only;cases hb:(j !=n) with
  |true=>rw[if_pos rfl,if_pos rfl];exactλq=>w _ _ q
  |false=>
   rw[if_neg am,if_neg am];split
   ·exactλq=>⟨q.1,h.mono _ _ _ _ (λd M2 q=>G.mono _ _ _ _ _ (λx M3 q=>by cases x<;>first|exact q.elim|exact w _ _ q) q) q.2⟩
   ·exactλq=>q
 ·obtain⟨F,α,C,M,r,q⟩:=q;refine⟨F,α,C,M,r,E.mono C _ _ _ (λd M1 q v T H1 e1 I U=>?_) q⟩;cases d<;>first|exact q.elim|skip
  rename_i j;unfold Rep at U;refine⟨j,U,?_⟩;revert q;simp only;cases hb:(j !=n) with
  |true=>rw[if_pos rfl,if_pos rfl];exactλq=>q T H1 e1 I
  |false=>
   rw[if_neg am,if_neg am];split
   ·rename_i z hz
    rintro⟨q1,q2⟩
    obtain⟨v',ev,Y⟩:=(r.grow e1 I).sl i _ hz;unfold Rep at Y;subst Y;refine⟨z,ev,q1,?_⟩;show mR X.K g ([.str _]++[]) H1 _ E0;refine⟨F,T,M1,[.str _],I,gp.cons kl gp.nil,h.mono _ _ _ _ (λd M2 q v nO H2 e2 o2 r2=>?_) q2⟩;refine⟨F,nO,M2,d,.int m,o2,r2,iI,G.mono _ _ _ _ _ (λx M3 q v3 sW H3 e3 o3 r3=>?_) q⟩;cases x<;>first|exact q.elim|skip
    unfold Rep at r3;exact⟨_,r3,q sW H3 ((e1.trans e2).trans e3) o3⟩
   ·exactλq=>q.elim
end
end L3
namespace ll
open PySem PySem.Spec PyProof.Rows L2 L3 FJ
noncomputable def top(i:Nat):b3:=PySem.Challenge.pw_farjump_k62_texts_of_no_parts.main.body.getD i (.Pass ⟨0,0,0,0⟩)
section
variable {P:aw} {w:aN} {K:W.Frag} {mg:av->Option af} {base:az} {k:Nat}
structure FI(s:b3)(N ps:List av) where
 b:List b3
 c:b6
 hb:ix s=b
 hc:hG s=c
 sc:jQ N ps c
local macro_rules | `(tactic| walk_at "fi_") => `(tactic| exact ⟨_, _, by (conv => lhs; whnf), by (conv => lhs; whnf), rfl, rfl, rfl, by decide +kernel, rfl, by decide +kernel, by decide +kernel⟩)
theorem Zj:∀{us:List af},us.length=1->∃a,us=[a]
 |[a],_=>⟨a,rfl⟩
theorem Zk{us:List af}(h:us.length=2):∃a b,us=[a,b]:=by
 cases us with
 |nil=>nomatch h
 |cons a r=>
  obtain⟨b,q⟩:=Zj (Nat.succ.inj h);exact⟨a,b,congrArg (a::·) q⟩
theorem us3{us:List af}(h:us.length=3):∃a b c,us=[a,b,c]:=by
 cases us with
 |nil=>nomatch h
 |cons a r=>
  obtain⟨b,c,q⟩:=Zk (Nat.succ.inj h);exact⟨a,b,c,congrArg (a::·) q⟩
local macro_rules | `(tactic| walk_at "u_") => `(tactic| (intro _ _ _ _ _ _ us hl; first | (obtain ⟨_, e⟩ := Zj hl; subst e; rfl) | (obtain ⟨_, _, e⟩ := Zk hl; subst e; rfl) | (obtain ⟨_, _, _, e⟩ := us3 hl; subst e; rfl) | (obtain ⟨_, _, _, _, e⟩ := us4 hl; subst e; rfl) | (obtain ⟨_, _, _, _, _, e⟩ := us5 hl; subst e; rfl) | (obtain ⟨_, _, _, _, _, _, e⟩ := us6 hl; subst e; rfl)))
structure Zs(mg:av->Option af):Prop where
 isinstance:mg "isinstance"=aq
 int:mg "int"=aq
 bool:mg "bool"=aq
 str:mg "str"=aq
 len:mg "len"=aq
 all:mg "all"=aq
 list:mg "list"=aq
 tuple:mg "tuple"=aq
 zip:mg "zip"=aq
 enumerate:mg "enumerate"=aq
 range:mg "range"=aq
 v6:∃t,mg "LONGEST_WORD"=ae (.int 8 t)
 v7:∃t,mg "LONGEST_LIST"=ae (.int 60 t)
 Co:∃t,mg "LAST_BOX"=ae (.int 3 t)
 v8:∃t,mg "LEAST_NUMBER"=ae (.int (-2147483648) t)
 r9:∃t,mg "GREATEST_NUMBER"=ae (.int 2147483647 t)
 v9:∃t,mg "MOST_FIGURES"=ae (.int 60 t)
variable {f:ai} {fd:bN} {pF kH mG j8 jH og kh se sg mU oh kU mV iB jO ic mH lJ p5 mv mh mW mi oi iU mj:GN} {kt ki mX oj si p6:ai} {md:List (av×D)} {mm:FT}
theorem tK:bV "all"=ae (.builtin "all"):=by decide+kernel
theorem yI:bV "bool"=ae (.type "bool"):=by decide+kernel
theorem pI:bV "int"=ae (.type "int"):=by decide+kernel
theorem hU:bV "isinstance"=ae (.builtin "isinstance"):=by decide+kernel
theorem iY:bV "len"=ae (.builtin "len"):=by decide+kernel
theorem yJ:bV "list"=ae (.type "list"):=by decide+kernel
theorem yL:bV "str"=ae (.type "str"):=by decide+kernel
theorem wa:bV "tuple"=ae (.type "tuple"):=by decide+kernel
noncomputable def m5:FI (uH (top 5) 0) ["self","line"] ["self","line"]:=by walk_at "fi_"
theorem wP{B C:ai}(F:Dk K "__init__" "NoText.__init__" (uH (top 5) 0) f fd)(a:DP K B)(m:mg "PartError"=ae (.ref B))(c:Cb K C)(co:Cd K C)(na:∀g∈(["line"]:List av),mZ K C g):kb P w K mg base ud (k+1) f fd ["self","line"] (Vc C ["line"]):=
 PH F m5.hb m5.hc m5.sc c co na (λiC A outer s H E=>Xk (pl:=_) a m (Nn (TF 1 (Nn Lg))) (HE Lh))
theorem wb(F:Dk K "__init__" "NoText.__init__" (uH (top 5) 0) f fd):Binds K fd ["self","line"] []:=F.binds (by walk_at "u_")
noncomputable def qQ:FI (top 8) ["thing"] ["thing"]:=by walk_at "fi_"
theorem Cp(D:gY K mg "is_whole" (top 8))(Z:Zs mg):nv P w K mg base (k+1) "is_whole" ["thing"] (mR K (cl (mO 1 1 (vX K)))):=
 kR D qQ.hb qQ.hc qQ.sc (by walk_at "u_") λf iC A outer s H E a=>by have b:=jw a;exact(gB (gG (vq (mD lj Z.isinstance hU (gc (gF 0) (gc (sV Z.int pI) gm))) (xt (Sz (mD lj Z.isinstance hU (gc (gF 0) (gc (sV Z.bool yI) gm))))))))
noncomputable def p7:FI (top 9) ["thing"] ["thing"]:=by walk_at "fi_"
theorem Fd(D:gY K mg "is_word" (top 9))(Z:Zs mg):nv P w K mg base (k+1) "is_word" ["thing"] (mR K (cl (mO 1 1 (tJ K)))):=
 kR D p7.hb p7.hc p7.sc (by walk_at "u_") λf iC A outer s H E a=>by
 have b:=jw a;exact(gr (iq (kD (oQ (ku (iM (mD lj Z.isinstance hU (gc (gF 0) (gc (sV Z.str yL) gm))))) (m4 (ku (vt k8 k8 gA (mD iX Z.len iY (gc (gF 0) gm)) (pW Z.v6)))))) (gB (gG qG)) g8)
   (gB (gG (mD tz Z.all tK (gc (ie (jT (N:=["sign"]) (fr:=[aq]) (je.of (nt:=["thing"]) (jt:=p7.c) (by decide+kernel)) (ke (gF 0)) jj (λ_ _ _ _ _=>(iy 0 (show cm (["sign"]:List av) by decide+kernel))) (λ_ _ _ _ _=>kq) (λ_ _ _ _ _=>(nQ k8 k8 gu (gF 0) gu)))) gm)))))
noncomputable def mn:FI (top 16) ["form","thing"] ["form","thing"]:=by walk_at "fi_"
theorem yM(D:gY K mg "is_list_of" (top 16))(Z:Zs mg)(b:iA P w K mg base k "fits" ["form","thing"] pF):nv P w K mg base (k+1) "is_list_of" ["form","thing"] (mR K (cl (mO 2 2 (nW K pF)))):=
 kR D mn.hb mn.hc mn.sc (by walk_at "u_") λf iC A outer s H E a=>by
 have e:=jw a;exact(gr (iq (kD (oQ (ku (iM (mD lj Z.isinstance hU (gc (gF 1) (gc (sV Z.list yJ) gm))))) (m4 (ku (vt k8 k8 gA (mD iX Z.len iY (gc (gF 1) gm)) (pW Z.v7)))))) (gB (gG qG)) g8)
   (gB (gG (mD tz Z.all tK (gc (ie (jT (N:=["one","form"]) (fr:=[aq,ae 0]) (je.of (nt:=["form","thing"]) (jt:=mn.c) (by decide+kernel)) (ke (gF 1)) jj (λ_ _ _ _ _=>(iy 0 (show cm (["one","form"]:List av) by decide+kernel))) (λ_ _ _ _ _=>kq) (λ_ _ _ _ _=>(iN b a (gc (gF 1) (gc (gF 0) gm)))))) gm)))))
noncomputable def Cs:FI (top 17) ["form","thing"] ["form","thing"]:=by walk_at "fi_"
theorem HS(D:gY K mg "fits" (top 17))(Z:Zs mg)(e:iA P w K mg base k "is_word" ["thing"] kH)(b:iA P w K mg base k "is_whole" ["thing"] mG)(c:iA P w K mg base k "is_list_of" ["form","thing"] j8):nv P w K mg base (k+1) "fits" ["form","thing"] (mR K (cl (mO 2 2 (vY K kH mG j8)))):=
 kR D Cs.hb Cs.hc Cs.sc (by walk_at "u_") λf iC A outer s H E a=>by
 have g:=jw a;exact(gr (iq (gU (i8 a.units) (gF 0) gu) (gB (gG (iN e a (gc (gF 1) gm)))) g8)
   (gr (iq (gU (i8 a.units) (gF 0) gu) (gB (gG (vq (iN b a (gc (gF 1) gm)) (xt (nQ k8 k8 gA (gF 1) (pW Z.Co)))))) g8)
   (gr (iq (gU (i8 a.units) (gF 0) gu) (gB (gG (vq (iN b a (gc (gF 1) gm)) (xt (nQ k8 k8 (pW Z.v8) (gF 1) (pW Z.r9)))))) g8)
   (gr (iq (gU (i8 a.units) (gF 0) gu) (gB (gG (mD lj Z.isinstance hU (gc (gF 1) (gc (sV Z.bool yI) gm))))) g8)
   (gr (iq (gU (i8 a.units) (gF 0) gu) (gB (gG (iN c a (gc gu (gc (gF 1) gm))))) g8)
   (gB (gG (iN c a (gc gu (gc (gF 1) gm))))))))))
noncomputable def pJ:FI (top 18) ["thing","forms"] ["thing"]:=by walk_at "fi_"
theorem HU(D:gY K mg "is_row" (top 18))(Z:Zs mg)(e:mg "FORMS"=ae (.ref kt))(g:pE K kt md)(h:iA P w K mg base k "fits" ["form","thing"] pF):nv P w K mg base (k+1) "is_row" ["thing"] (mR K (cl (mO 2 1 (vZ K kt md pF)))):=
 kR D pJ.hb pJ.hc pJ.sc (by walk_at "u_") λf iC A outer s H E a=>by
 have b:=jw a;exact(gr (iq (kD (oQ (ku (iM (mD lj Z.isinstance hU (gc (gF 0) (gc (sV Z.tuple wa) gm))))) (m4 (gU (i8 a.units) (mD iX Z.len iY (gc (gF 0) gm)) gA)))) (gB (gG qG)) g8)
   (gr (iq (kD (oQ (ku (iM (mD lj Z.isinstance hU (gc (jy (jx b) (gF 0) gA) (gc (sV Z.str yL) gm))))) (m4 (gU (Aq g) (jy (jx b) (gF 0) gA) (nP e))))) (gB (gG qG)) g8)
   (gr (gX 1 pJ.sc.nd (jy (Pe g) (nP e) (jy (jx b) (gF 0) gA)))
   (gr (iq (gU (mT a.units) (mD iX Z.len iY (gc (gF 0) gm)) (im gZ gA (mD iX Z.len iY (gc (gF 1) gm)))) (gB (gG qG)) g8)
   (gB (gG (mD tz Z.all tK (gc (ie (jT (N:=["form","one"]) (fr:=[aq,aq]) (je.of (nt:=["thing","forms"]) (jt:=pJ.c) (by decide+kernel)) (B6 (gc (gF 1) (gc (ky (gF 0) (hW gA) hV) gm)) Z.zip) (yv (nC jj (nC jj B0))) (λ_ _ _ _ _=>(sX (jN (iy 0 (show cm (["form","one"]:List av) by decide+kernel)) (jN (iy 1 (show cm (["form","one"]:List av) by decide+kernel)) pY)))) (λ_ _ _ _ _=>kq) (λ_ _ _ _ _=>(iN h a (gc (gF 0) (gc (gF 1) gm)))))) gm))))))))
noncomputable def jI:FI (top 21) ["things"] ["things"]:=by walk_at "fi_"
def mI:DS:=(gL (o7 "str" oa (dC (.str " ")) (gg (gS (i9 [aq] (jc (gj 0)) (gQ 0) lg (hZ Lm (gg (gj 0) gq)))) gq)))
theorem qR(D:gY K mg "joined_by_blanks" (top 21))(Z:Zs mg):nv P w K mg base (k+1) "joined_by_blanks" ["things"] (mR K (cl (mO 1 1 mI))):=
 kR D jI.hb jI.hc jI.sc (by walk_at "u_") λf iC A outer s H E a=>by have b:=jw a;exact(gB (gG (lQ uO PySem.F.plainAttrs_str PySem.F.slot_str_join PySem.F.type_str_join gu (gc (ie (jT (N:=["thing"]) (fr:=[aq]) (je.of (nt:=["things"]) (jt:=jI.c) (by decide+kernel)) (ke (gF 0)) jj (λ_ _ _ _ _=>(iy 0 (show cm (["thing"]:List av) by decide+kernel))) (λ_ _ _ _ _=>kq) (λ_ _ _ _ _=>(MT PQ Z.str yL (gc (gF 0) gm))))) gm))))
noncomputable def mJ:FI (top 22) ["row","words","one"] ["row"]:=by walk_at "fi_"
def wd (K:W.Frag)(jH:GN):DS:=(gC (ik (gz (gD lN (gD jk (gj 0) (dC (.int 0))) (dC (.str "mark")))) (gL (gD gJ (gD jk (gj 0) (dC (.int 1))) (Rc (gz (gD jk (gj 0) (dC (.int 2)))) (dC (.str "::")) (dC (.str ":"))))) gK)
 (gC (ip 1 (uy (ii gq)))
 (gC (vA (jc (gj 0)) (gQ 2) (ik (gz (hZ (nS K) (gg (gj 2) (gg (dC (.ty "list")) gq)))) (lW (o7 "list" vR (gj 1) (gg (gj 2) gq))) (lW (o7 "list" iO (gj 1) (gg (gj 2) gq)))))
 (gL (hZ jH (gg (gj 1) gq))))))
theorem Ct(D:gY K mg "show_row" (top 22))(Z:Zs mg)(c:iA P w K mg base k "joined_by_blanks" ["things"] jH):nv P w K mg base (k+1) "show_row" ["row"] (mR K (cl (mO 3 1 (wd K jH)))):=
 kR D mJ.hb mJ.hc mJ.sc (by walk_at "u_") λf iC A outer s H E a=>by
 have b:=jw a;exact(gr (iq (gU (i8 a.units) (jy (jx b) (gF 0) gA) gu) (gB (gG (im gZ (jy (jx b) (gF 0) gA) (Ku (iM (jy (jx b) (gF 0) gA)) gu gu)))) g8)
   (gr (gX 1 mJ.sc.nd (rL (gW gm)))
   (gr (qI (ke (gF 0)) (iy 2 mJ.sc.nd) (gB (iq (iM (mD lj Z.isinstance hU (gc (gF 2) (gc (sV Z.list yJ) gm)))) (gB (kM (lQ xE PySem.F.plainAttrs_list PySem.F.slot_list_extend PySem.F.type_list_extend (gF 1) (gc (gF 2) gm)))) (gB (kM (lQ kG PySem.F.plainAttrs_list PySem.F.slot_list_append PySem.F.type_list_append (gF 1) (gc (gF 2) gm)))))))
   (gB (gG (iN c a (gc (gF 1) gm)))))))
noncomputable def jJ:FI (top 23) ["parts","lines","name","rows"] ["parts"]:=by walk_at "fi_"
def su (og:GN):DS:=(gC (ip 1 (uy (ii gq)))
 (gC (vA (jc (gj 0)) (nz 2 (jf (gQ 2) (jf (gQ 3) py))) (gC (lW (o7 "list" iO (gj 1) (gg (Zi "part " (gj 2)) gq)))
 (lW (o7 "list" vR (gj 1) (gg (gS (i9 [aq] (jc (gj 3)) (gQ 0) lg (hZ og (gg (gj 0) gq)))) gq)))))
 (gL (o7 "str" oa (dC (.str "\n")) (gg (gj 1) gq)))))
theorem yN(D:gY K mg "show_parts" (top 23))(b:iA P w K mg base k "show_row" ["row"] og):nv P w K mg base (k+1) "show_parts" ["parts"] (mR K (cl (mO 4 1 (su og)))):=
 kR D jJ.hb jJ.hc jJ.sc (by walk_at "u_") λf iC A outer s H E a=>by
 have e:=jw a;exact(gr (gX 1 jJ.sc.nd (rL (gW gm)))
   (gr (qI (ke (gF 0)) (sX (jN (iy 2 jJ.sc.nd) (jN (iy 3 jJ.sc.nd) pY))) (gr (kM (lQ kG PySem.F.plainAttrs_list PySem.F.slot_list_append PySem.F.type_list_append (gF 1) (gc (Xt (gF 2)) gm)))
   (gB (kM (lQ xE PySem.F.plainAttrs_list PySem.F.slot_list_extend PySem.F.type_list_extend (gF 1) (gc (ie (jT (N:=["row"]) (fr:=[aq]) (je.of (nt:=["parts","lines","name","rows"]) (jt:=jJ.c) (by decide+kernel)) (ke (gF 3)) jj (λ_ _ _ _ _=>(iy 0 (show cm (["row"]:List av) by decide+kernel))) (λ_ _ _ _ _=>kq) (λ_ _ _ _ _=>(iN b a (gc (gF 0) gm))))) gm))))))
   (gB (gG (lQ uO PySem.F.plainAttrs_str PySem.F.slot_str_join PySem.F.type_str_join gu (gc (gF 1) gm))))))
noncomputable def kj:FI (top 24) ["text","figures"] ["text"]:=by walk_at "fi_"
def qy:DS:=(gC (ip 1 (Rc (gz (o7 "str" Fc (gj 0) (gg (dC (.str "-")) gq))) (k7 (gj 0) (ig (dC (.int 1))) gE) (gj 0)))
 (gC (ik (k9 (gz (jA nJ nJ (dC (.int 1)) (hZ jo (gg (gj 1) gq)) (dC (.int 60))))) (gL (dC .non)) gK)
 (gC (ik (k9 (gz (hZ tw (gg (gS (i9 [aq] (jc (gj 1)) (gQ 0) lg (jA nJ nJ (dC (.str "0")) (gj 0) (dC (.str "9"))))) gq)))) (gL (dC .non)) gK)
 (gC (ik (ny (gz (o7 "str" Fc (gj 1) (gg (dC (.str "0")) gq))) (gz (gD mS (gj 0) (dC (.str "0"))))) (gL (dC .non)) gK)
 (gL (hZ r6 (gg (gj 0) gq)))))))
theorem wQ(D:gY K mg "read_number" (top 24))(Z:Zs mg):nv P w K mg base (k+1) "read_number" ["text"] (mR K (cl (mO 2 1 qy))):=
 kR D kj.hb kj.hc kj.sc (by walk_at "u_") λf iC A outer s H E a=>by
 have b:=jw a;exact(gr (gX 1 kj.sc.nd (Ku (iM (lQ Nr PySem.F.plainAttrs_str PySem.F.slot_str_startswith PySem.F.type_str_startswith (gF 0) (gc gu gm))) (ky (gF 0) (hW gA) hV) (gF 0)))
   (gr (iq (ku (vt k8 k8 gA (mD iX Z.len iY (gc (gF 1) gm)) (pW Z.v9))) (gB (gG mC)) g8)
   (gr (iq (ku (iM (mD tz Z.all tK (gc (ie (jT (N:=["sign"]) (fr:=[aq]) (je.of (nt:=["text","figures"]) (jt:=kj.c) (by decide+kernel)) (ke (gF 1)) jj (λ_ _ _ _ _=>(iy 0 (show cm (["sign"]:List av) by decide+kernel))) (λ_ _ _ _ _=>kq) (λ_ _ _ _ _=>(nQ k8 k8 gu (gF 0) gu)))) gm)))) (gB (gG mC)) g8)
   (gr (iq (kD (lP (iM (lQ Nr PySem.F.plainAttrs_str PySem.F.slot_str_startswith PySem.F.type_str_startswith (gF 1) (gc gu gm))) (l5 (gU (mT a.units) (gF 0) gu)))) (gB (gG mC)) g8)
   (gB (gG (MT yG Z.int pI (gc (gF 0) gm))))))))
noncomputable def kW:FI (top 25) ["line","words","kind","told","forms"] ["line"]:=by walk_at "fi_"
def wg (kh:GN)(kt:ai)(md:List (av×D)):DS:=(gC (ik (gz (o7 "str" HP (gj 0) (gg (dC (.str "::")) gq))) (gL (i3 (gg (dC (.str "mark")) (gg (k7 (gj 0) gE (ig (qp (dC (.int 2))))) (gg (dC (.bl aj)) gq))))) gK)
 (gC (ik (gz (o7 "str" HP (gj 0) (gg (dC (.str ":")) gq))) (gL (i3 (gg (dC (.str "mark")) (gg (k7 (gj 0) gE (ig (qp (dC (.int 1))))) (gg (dC (.bl ao)) gq))))) gK)
 (gC (ip 1 (o7 "str" mf (gj 0) (gg (dC (.str " ")) gq)))
 (gC (ip 2 (gD jk (gj 1) (dC (.int 0))))
 (gC (ip 3 (k7 (gj 1) (ig (dC (.int 1))) gE))
 (gC (ik (gz (gD lN (gj 2) (dC (.str "numbers")))) (gL (i3 (gg (gj 2) (gg (gS (i9 [aq] (jc (gj 3)) (gQ 0) lg (hZ kh (gg (gj 0) gq)))) gq)))) gK)
 (gC (ik (gz (gD lN (gj 2) (dC (.str "table")))) (gL (i3 (gg (gj 2) (gg (gj 3) gq)))) gK)
 (gC (ip 4 (yH md (gg (gj 2) (gg (i3 gq) gq))))
 (gC (ik (gz (gD mS (hZ jo (gg (gj 3) gq)) (hZ jo (gg (gj 4) gq)))) (gL (dC .non)) gK)
 (gL (gD gJ (i3 (gg (gj 2) gq)) (hZ tD (gg (gS (i9 [aq,aq] (vI (gg (gj 4) (gg (gj 3) gq))) (nz 2 (jf (gQ 0) (jf (gQ 1) py))) lg (Rc (gz (gD lN (gj 0) (dC (.str "word")))) (gj 1) (hZ kh (gg (gj 1) gq))))) gq)))))))))))))
theorem HV(D:gY K mg "row_in" (top 25))(Z:Zs mg)(b:iA P w K mg base k "read_number" ["text"] kh)(e:mg "FORMS"=ae (.ref kt))(g:pE K kt md):nv P w K mg base (k+1) "row_in" ["line"] (mR K (cl (mO 5 1 (wg kh kt md)))):=
 kR D kW.hb kW.hc kW.sc (by walk_at "u_") λf iC A outer s H E a=>by
 have h:=jw a;exact(gr (iq (iM (lQ Nt PySem.F.plainAttrs_str PySem.F.slot_str_endswith PySem.F.type_str_endswith (gF 0) (gc gu gm))) (gB (gG (kg (gc gu (gc (ky (gF 0) hV (hW (qw gA))) (gc qG gm)))))) g8)
   (gr (iq (iM (lQ Nt PySem.F.plainAttrs_str PySem.F.slot_str_endswith PySem.F.type_str_endswith (gF 0) (gc gu gm))) (gB (gG (kg (gc gu (gc (ky (gF 0) hV (hW (qw gA))) (gc qG gm)))))) g8)
   (gr (gX 1 kW.sc.nd (lQ pH PySem.F.plainAttrs_str PySem.F.slot_str_split PySem.F.type_str_split (gF 0) (gc gu gm)))
   (gr (gX 2 kW.sc.nd (jy (jx h) (gF 1) gA))
   (gr (gX 3 kW.sc.nd (ky (gF 1) (hW gA) hV))
   (gr (iq (gU (i8 a.units) (gF 2) gu) (gB (gG (kg (gc (gF 2) (gc (ie (jT (N:=["word"]) (fr:=[aq]) (je.of (nt:=["line","words","kind","told","forms"]) (jt:=kW.c) (by decide+kernel)) (ke (gF 3)) jj (λ_ _ _ _ _=>(iy 0 (show cm (["word"]:List av) by decide+kernel))) (λ_ _ _ _ _=>kq) (λ_ _ _ _ _=>(iN b a (gc (gF 0) gm))))) gm))))) g8)
   (gr (iq (gU (i8 a.units) (gF 2) gu) (gB (gG (kg (gc (gF 2) (gc (gF 3) gm))))) g8)
   (gr (gX 4 kW.sc.nd (HQ g (nP e) (gc (gF 2) (gc (kg gm) gm))))
   (gr (iq (gU (mT a.units) (mD iX Z.len iY (gc (gF 3) gm)) (mD iX Z.len iY (gc (gF 4) gm))) (gB (gG mC)) g8)
   (gB (gG (im gZ (kg (gc (gF 2) gm)) (MT Ap Z.tuple wa (gc (ie (jT (N:=["form","word"]) (fr:=[aq,aq]) (je.of (nt:=["line","words","kind","told","forms"]) (jt:=kW.c) (by decide+kernel)) (B6 (gc (gF 4) (gc (gF 3) gm)) Z.zip) (yv (nC jj (nC jj B0))) (λ_ _ _ _ _=>(sX (jN (iy 0 (show cm (["form","word"]:List av) by decide+kernel)) (jN (iy 1 (show cm (["form","word"]:List av) by decide+kernel)) pY)))) (λ_ _ _ _ _=>kq) (λ_ _ _ _ _=>(Ku (gU (i8 a.units) (gF 0) gu) (gF 1) (iN b a (gc (gF 1) gm)))))) gm))))))))))))))
noncomputable def om:FI (top 26) ["line","row"] ["line"]:=by walk_at "fi_"
def wj (se:GN)(sg:GN):DS:=(gC (ip 1 (hZ se (gg (gj 0) gq)))
 (gL (Rc (gz (hZ sg (gg (gj 1) gq))) (gj 1) (dC .non))))
theorem Cv(D:gY K mg "read_row" (top 26))(b:iA P w K mg base k "row_in" ["line"] se)(c:iA P w K mg base k "is_row" ["thing"] sg):nv P w K mg base (k+1) "read_row" ["line"] (mR K (cl (mO 2 1 (wj se sg)))):=
 kR D om.hb om.hc om.sc (by walk_at "u_") λf iC A outer s H E a=>by
 have e:=jw a;exact(gr (gX 1 om.sc.nd (iN b a (gc (gF 0) gm)))
   (gB (gG (Ku (iM (iN c a (gc (gF 1) gm))) (gF 1) mC))))
noncomputable def mY:FI (top 27) ["line","words"] ["line"]:=by walk_at "fi_"
def uk (kH:GN):DS:=(gC (ip 1 (o7 "str" mf (gj 0) (gg (dC (.str " ")) gq)))
 (gC (ik (ny (gz (gD lN (hZ jo (gg (gj 1) gq)) (dC (.int 2)))) (ny (gz (gD lN (gD jk (gj 1) (dC (.int 0))) (dC (.str "part")))) (gz (hZ kH (gg (gD jk (gj 1) (dC (.int 1))) gq))))) (gL (gD jk (gj 1) (dC (.int 1)))) gK)
 (gL (dC .non))))
theorem AI(D:gY K mg "read_name" (top 27))(Z:Zs mg)(c:iA P w K mg base k "is_word" ["thing"] kH):nv P w K mg base (k+1) "read_name" ["line"] (mR K (cl (mO 2 1 (uk kH)))):=
 kR D mY.hb mY.hc mY.sc (by walk_at "u_") λf iC A outer s H E a=>by
 have b:=jw a;exact(gr (gX 1 mY.sc.nd (lQ pH PySem.F.plainAttrs_str PySem.F.slot_str_split PySem.F.type_str_split (gF 0) (gc gu gm)))
   (gr (iq (kD (lP (gU (i8 a.units) (mD iX Z.len iY (gc (gF 1) gm)) gA) (lP (gU (i8 a.units) (jy (jx b) (gF 1) gA) gu) (l5 (iM (iN c a (gc (jy (jx b) (gF 1) gA) gm))))))) (gB (gG (jy (jx b) (gF 1) gA))) g8)
   (gB (gG mC))))
noncomputable def oq:FI (top 28) ["parts"] ["parts"]:=by walk_at "fi_"
def sw:DS:=(gL (mQ (gD (Ab λi j=>.bl (decide (j<i))) (hZ jo (gg (gj 0) gq)) (dC (.int 0))) (gD lN (hZ jo (gg (gD jk (gD jk (gj 0) (qp (dC (.int 1)))) (dC (.int 1))) gq)) (dC (.int 0)))))
theorem yO(D:gY K mg "lacks_rows" (top 28))(Z:Zs mg):nv P w K mg base (k+1) "lacks_rows" ["parts"] (mR K (Ds 1 1 sw)):=
 xA D oq.hb oq.hc oq.sc (by walk_at "u_") λf iC A outer s H E a=>by have b:=jw a;exact(gB (gG (vq (rJ Dv (mD iX Z.len iY (gc (gF 0) gm)) gA) (xt (rJ (i8 a.units) (mD iX Z.len iY (gc (jy (jx b) (jy (jx b) (gF 0) (qw gA)) gA) gm)) gA)))))
noncomputable def iZ:FI (top 29) ["text","lines","parts","number","line","name","row"] ["text"]:=by walk_at "fi_"
def ot (K:W.Frag)(ki:ai)(mU:GN)(oh:GN)(kU:GN):XB:=(AB (Rl (k9 (gz (hZ (nS K) (gg (gj 0) (gg (dC (.ty "str")) gq))))) (vV ki ["line"] (gg (dC (.int 0)) gq)) (λ_=>gK))
 (AB (λ_=>(ip 1 (o7 "str" mf (gj 0) (gg (dC (.str "\n")) gq))))
 (AB (λ_=>(ip 2 (uy (ii gq))))
 (AB (TM (B5 (gg (gj 1) gq)) (nz 2 (jf (gQ 3) (jf (gQ 4) py))) (AB (λ_=>(ip 5 (hZ mU (gg (gj 4) gq))))
 (AB (λ_=>(ip 6 (hZ oh (gg (gj 4) gq))))
 (Rl (ny (gz (gD pB (gj 5) (dC .non))) (k9 (gz (hZ kU (gg (gj 2) gq))))) (λ_=>(lW (o7 "list" iO (gj 2) (gg (i3 (gg (gj 5) (gg (uy (ii gq)) gq))) gq)))) (Rl (ny (gz (gD pB (gj 6) (dC .non))) (gz (gD (Ab λi j=>.bl (decide (j<i))) (hZ jo (gg (gj 2) gq)) (dC (.int 0))))) (λ_=>(lW (o7 "list" iO (gD jk (gD jk (gj 2) (qp (dC (.int 1)))) (dC (.int 1))) (gg (gj 6) gq)))) (vV ki ["line"] (gg (gj 3) gq)))))))
 (AB (Rl (gz (hZ kU (gg (gj 2) gq))) (vV ki ["line"] (gg (hZ jo (gg (gj 1) gq)) gq)) (λ_=>gK))
 (λ_=>(gL (gj 2))))))))
theorem yP(D:gY K mg "read_parts" (top 29))(Z:Zs mg)(b:yD P w K mg base k "NoText" ki ["line"])(g:iA P w K mg base (k+1) "read_name" ["line"] mU)(i:iA P w K mg base (k+1) "read_row" ["line"] oh)(c:iA P w K mg base (k+1) "lacks_rows" ["parts"] kU):tF P w K mg base ((k+1)+1) "read_parts" ["text"] (AA K (xL 7 1 (ot K ki mU oh kU))):=
 PU D iZ.hb iZ.hc iZ.sc (by walk_at "u_") λf iC A outer s H E a=>by
 have e:=jw a;exact(mF (yC (ku (iM (mD lj Z.isinstance hU (gc (gF 0) (gc (sV Z.str yL) gm))))) (nV (tG (ns:=["line"]) b a (gc gA gm))) (wJ.FS g8))
   (mF (JS.FS (gX 1 iZ.sc.nd (lQ pH PySem.F.plainAttrs_str PySem.F.slot_str_split PySem.F.type_str_split (gF 0) (gc gu gm))))
   (mF (JS.FS (gX 2 iZ.sc.nd (rL (gW gm))))
   (mF (Lj (DC (gc (gF 1) gm) Z.enumerate) (sX (jN (iy 3 iZ.sc.nd) (jN (iy 4 iZ.sc.nd) pY))) (mF (JS.FS (gX 5 iZ.sc.nd (iN g a (gc (gF 4) gm))))
   (mF (JS.FS (gX 6 iZ.sc.nd (iN i a (gc (gF 4) gm))))
   (nV (yC (kD (lP (gU Ad (gF 5) mC) (l5 (ku (iM (iN c a (gc (gF 2) gm))))))) (wJ.FS (gB (kM (lQ kG PySem.F.plainAttrs_list PySem.F.slot_list_append PySem.F.type_list_append (gF 2) (gc (kg (gc (gF 5) (gc (rL (gW gm)) gm))) gm))))) (nV (yC (kD (lP (gU Ad (gF 6) mC) (l5 (gU Dv (mD iX Z.len iY (gc (gF 2) gm)) gA)))) (wJ.FS (gB (kM (lQ kG PySem.F.plainAttrs_list PySem.F.slot_list_append PySem.F.type_list_append (jy (jx e) (jy (jx e) (gF 2) (qw gA)) gA) (gc (gF 6) gm))))) (nV (tG (ns:=["line"]) b a (gc (gF 3) gm))))))))) (λ_ _ _ _ h=>TC.th h) aaw.leaving)
   (mF (yC (iM (iN c a (gc (gF 2) gm))) (nV (tG (ns:=["line"]) b a (gc (mD iX Z.len iY (gc (gF 1) gm)) gm))) (wJ.FS g8))
   (nV (JS.FS (gG (gF 2)))))))))
noncomputable def lK:FI (top 32) ["_law_draw","_law_k","_law_number"] ["_law_draw","_law_k"]:=by walk_at "fi_"
def pG:DS:=(gC (ip 2 (gD (gI (λ_ j=>0<j) λi j=>.int (i%j)) (gD kz (gD gJ (gD gJ (gD (gI (λ_ j=>0<j) λi j=>.int (i%j)) (gj 0) (dC (.int 2147483629))) (gD kz (dC (.int 69621)) (gj 1))) (dC (.int 1))) (gD gJ (dC (.int 48271)) (gD kz (dC (.int 2)) (gj 1)))) (dC (.int 2147483629))))
 (gC (ip 2 (gD (gI (λ_ j=>0<j) λi j=>.int (i%j)) (gD kz (gj 2) (gD gJ (gD (gI vQ λi j=>.int (i/j)) (gj 2) (dC (.int 1009))) (dC (.int 69621)))) (dC (.int 2147483629))))
 (gL (gD (gI (λ_ j=>0<j) λi j=>.int (i%j)) (gD kz (gj 2) (gD gJ (gD gJ (gD (gI vQ λi j=>.int (i/j)) (gj 2) (dC (.int 907))) (dC (.int 16807))) (gj 1))) (dC (.int 2147483629))))))
theorem AK(D:gY K mg "_law_mixed" (top 32)):nv P w K mg base (k+1) "_law_mixed" ["_law_draw","_law_k"] (mR K (cl (mO 3 2 pG))):=
 kR D lK.hb lK.hc lK.sc (by walk_at "u_") λf iC A outer s H E a=>by
 have b:=jw a;exact(gr (gX 2 lK.sc.nd (im qM (im lh (im gZ (im gZ (im qM (gF 0) gA) (im lh gA (gF 1))) gA) (im gZ gA (im lh gA (gF 1)))) gA))
   (gr (gX 2 lK.sc.nd (im qM (im lh (gF 2) (im gZ (im rS (gF 2) gA) gA)) gA))
   (gB (gG (im qM (im lh (gF 2) (im gZ (im gZ (im rS (gF 2) gA) gA) (gF 1))) gA)))))
noncomputable def ou:FI (top 33) ["_law_source_here","_law_many","_law_found"] ["_law_source_here","_law_many"]:=by walk_at "fi_"
def qT (mV:GN):DS:=(gC (ik (ny (gz (gD lN (gD jk (gj 0) (dC (.int 1))) (dC (.int 0)))) (gz (gD (Ab λi j=>.bl (decide (j<i))) (gD jk (gj 0) (dC (.int 0))) (dC (.int 1))))) (gC (ip 2 (gD (gI (λ_ j=>0<j) λi j=>.int (i%j)) (gD jk (gj 0) (dC (.int 0))) (gj 1)))
 (gC (Kw (gD (gI vQ λi j=>.int (i/j)) (gD jk (gj 0) (dC (.int 0))) (gj 1)) (xz (gj 0) (dC (.int 0))))
 (gL (gj 2)))) gK)
 (gC (Kw (gD gJ (gD jk (gj 0) (dC (.int 2))) (dC (.int 1))) (xz (gj 0) (dC (.int 2))))
 (gL (gD (gI (λ_ j=>0<j) λi j=>.int (i%j)) (hZ mV (gg (gD jk (gj 0) (dC (.int 3))) (gg (gD jk (gj 0) (dC (.int 2))) gq))) (gj 1)))))
theorem Cy(D:gY K mg "_law_next" (top 33))(c:iA P w K mg base k "_law_mixed" ["_law_draw","_law_k"] mV):nv P w K mg base (k+1) "_law_next" ["_law_source_here","_law_many"] (mR K (Ds 3 2 (qT mV))):=
 xA D ou.hb ou.hc ou.sc (by walk_at "u_") λf iC A outer s H E b=>by
 have a:=jw b;exact(gr (iq (kD (lP (gU (i8 b.units) (jy (jx a) (gF 0) gA) gA) (l5 (gU Dv (jy (jx a) (gF 0) gA) gA)))) (gr (gX 2 ou.sc.nd (im qM (jy (jx a) (gF 0) gA) (gF 1)))
   (gr (GW (im rS (jy (jx a) (gF 0) gA) (gF 1)) (Hd (gF 0) gA))
   (gB (gG (gF 2))))) g8)
   (gr (GW (im gZ (jy (jx a) (gF 0) gA) gA) (Hd (gF 0) gA))
   (gB (gG (im qM (iN c b (gc (jy (jx a) (gF 0) gA) (gc (jy (jx a) (gF 0) gA) gm))) (gF 1))))))
noncomputable def ow:FI (top 34) ["_law_draw"] ["_law_draw"]:=by walk_at "fi_"
def sA:DS:=(gL (uy (ii (gg (gD (gI vQ λi j=>.int (i/j)) (gj 0) (dC (.int 2))) (gg (gD (gI (λ_ j=>0<j) λi j=>.int (i%j)) (gj 0) (dC (.int 2))) (gg (dC (.int 0)) (gg (gj 0) gq)))))))
theorem yQ(D:gY K mg "_law_source" (top 34)):nv P w K mg base (k+1) "_law_source" ["_law_draw"] (mR K (Ds 1 1 sA)):=
 xA D ow.hb ow.hc ow.sc (by walk_at "u_") λf iC A outer s H E a=>by have b:=jw a;exact(gB (gG (rL (gW (gc (im rS (gF 0) gA) (gc (im qM (gF 0) gA) (gc gA (gc (gF 0) gm))))))))
noncomputable def i0:FI (top 35) ["_law_source_here","_law_some","_law_lines_here","_law_name","_law_k"] ["_law_source_here"]:=by walk_at "fi_"
def ul (iB:GN):DS:=(gC (ip 1 (gS (ii (gg (dC (.str "set 1 -7")) (gg (dC (.str "set 0 0")) (gg (dC (.str "add 0 3")) (gg (dC (.str "take 2 2")) (gg (dC (.str "say 1")) (gg (dC (.str "ask 0")) (gg (dC (.str "jump aa")) (gg (dC (.str "jumpif 3 b")) gq)))))))))))
 (gC (ip 1 (gD gJ (gj 1) (gS (ii (gg (dC (.str "call longname")) gq)))))
 (gC (ip 1 (gD gJ (gj 1) (gS (ii (gg (dC (.str "back")) (gg (dC (.str "stop")) (gg (dC (.str "load 0 1 n")) (gg (dC (.str "jumpby 2 t")) (gg (dC (.str "alike 1 a b")) (gg (dC (.str "numbers 1 -2 0")) (gg (dC (.str "table a b")) (gg (dC (.str "a:")) gq))))))))))))
 (gC (ip 1 (gD gJ (gj 1) (gS (ii (gg (dC (.str "b::")) (gg (dC (.str "set 3 2147483647")) gq))))))
 (gC (ip 2 (uy (ii gq)))
 (gC (vA (jc (gS (ii (gg (dC (.str "part main")) (gg (dC (.str "part b")) gq))))) (gQ 3) (gC (lW (o7 "list" iO (gj 2) (gg (gj 3) gq)))
 (vA (G9 (gg (gD gJ (dC (.int 1)) (hZ iB (gg (gj 0) (gg (dC (.int 4)) gq)))) gq)) (gQ 4) (lW (o7 "list" iO (gj 2) (gg (gD jk (gj 1) (hZ iB (gg (gj 0) (gg (hZ jo (gg (gj 1) gq)) gq)))) gq))))))
 (gL (gj 2))))))))
theorem AM(D:gY K mg "_law_lines" (top 35))(Z:Zs mg)(b:iA P w K mg base k "_law_next" ["_law_source_here","_law_many"] iB):nv P w K mg base (k+1) "_law_lines" ["_law_source_here"] (mR K (Ds 5 1 (ul iB))):=
 xA D i0.hb i0.hc i0.sc (by walk_at "u_") λf iC A outer s H E a=>by
 have c:=jw a;exact(gr (gX 1 i0.sc.nd (ie (gW (gc gu (gc gu (gc gu (gc gu (gc gu (gc gu (gc gu (gc gu gm)))))))))))
   (gr (gX 1 i0.sc.nd (im gZ (gF 1) (ie (gW (gc gu gm)))))
   (gr (gX 1 i0.sc.nd (im gZ (gF 1) (ie (gW (gc gu (gc gu (gc gu (gc gu (gc gu (gc gu (gc gu (gc gu gm))))))))))))
   (gr (gX 1 i0.sc.nd (im gZ (gF 1) (ie (gW (gc gu (gc gu gm))))))
   (gr (gX 2 i0.sc.nd (rL (gW gm)))
   (gr (qI (ke (ie (gW (gc gu (gc gu gm))))) (iy 3 i0.sc.nd) (gr (kM (lQ kG PySem.F.plainAttrs_list PySem.F.slot_list_append PySem.F.type_list_append (gF 2) (gc (gF 3) gm)))
   (gB (qI (ET (gc (im gZ gA (iN b a (gc (gF 0) (gc gA gm)))) gm) Z.range) (iy 4 i0.sc.nd) (gB (kM (lQ kG PySem.F.plainAttrs_list PySem.F.slot_list_append PySem.F.type_list_append (gF 2) (gc (jy (jx c) (gF 1) (iN b a (gc (gF 0) (gc (mD iX Z.len iY (gc (gF 1) gm)) gm)))) gm))))))))
   (gB (gG (gF 2)))))))))
noncomputable def jC:FI (top 36) ["_law_source_here","_law_some"] ["_law_source_here"]:=by walk_at "fi_"
def xM (iB:GN):DS:=(gC (ip 1 (gS (ii (gg (dC (.str "")) (gg (dC (.str "part")) (gg (dC (.str "part ")) (gg (dC (.str "part Main")) (gg (dC (.str "part longernam")) (gg (dC (.str "part c")) (gg (dC (.str "set 1")) (gg (dC (.str "set 4 1")) (gg (dC (.str "set 1 01")) gq))))))))))))
 (gC (ip 1 (gD gJ (gj 1) (gS (ii (gg (dC (.str "set 1 -0")) (gg (dC (.str "set 1 2147483648")) gq))))))
 (gC (ip 1 (gD gJ (gj 1) (gS (ii (gg (dC (.str "set 1 -2147483648")) (gg (dC (.str "set  1 1")) (gg (dC (.str "add 0")) (gg (dC (.str "say -1")) (gg (dC (.str "say 1 ")) (gg (dC (.str "jump")) (gg (dC (.str "jump a b")) (gg (dC (.str "jump 5")) gq))))))))))))
 (gC (ip 1 (gD gJ (gj 1) (gS (ii (gg (dC (.str "jump A")) (gg (dC (.str "stop 1")) (gg (dC (.str "back ")) gq)))))))
 (gC (ip 1 (gD gJ (gj 1) (gS (ii (gg (dC (.str "numbers")) (gg (dC (.str "numbers 1 x")) (gg (dC (.str "numbers 1  2")) (gg (dC (.str "table")) (gg (dC (.str "table a 1")) (gg (dC (.str "table aa")) (gg (dC (.str ":")) (gg (dC (.str "a:b:")) gq))))))))))))
 (gC (ip 1 (gD gJ (gj 1) (gS (ii (gg (dC (.str "a:::")) (gg (dC (.str "A::")) (gg (dC (.str "longernam:")) gq)))))))
 (gC (ip 1 (gD gJ (gj 1) (gS (ii (gg (dC (.str "mark a True")) (gg (dC (.str "load 0 1")) (gg (dC (.str "load 0 1 n n")) (gg (dC (.str "alike 0 a")) (gg (dC (.str "jumpif 0 1 a")) (gg (dC (.str " say 1")) (gg (dC (.str "Say 1")) gq)))))))))))
 (gC (ip 1 (gD gJ (gj 1) (gS (ii (gg (dC (.str "call x:")) (gg (dC (.str "part:")) (gg (dC (.str "set::")) gq)))))))
 (gL (gD jk (gj 1) (hZ iB (gg (gj 0) (gg (hZ jo (gg (gj 1) gq)) gq)))))))))))))
theorem Fe(D:gY K mg "_law_odd" (top 36))(Z:Zs mg)(b:iA P w K mg base k "_law_next" ["_law_source_here","_law_many"] iB):nv P w K mg base (k+1) "_law_odd" ["_law_source_here"] (mR K (Ds 2 1 (xM iB))):=
 xA D jC.hb jC.hc jC.sc (by walk_at "u_") λf iC A outer s H E a=>by
 have c:=jw a;exact(gr (gX 1 jC.sc.nd (ie (gW (gc gu (gc gu (gc gu (gc gu (gc gu (gc gu (gc gu (gc gu (gc gu gm))))))))))))
   (gr (gX 1 jC.sc.nd (im gZ (gF 1) (ie (gW (gc gu (gc gu gm))))))
   (gr (gX 1 jC.sc.nd (im gZ (gF 1) (ie (gW (gc gu (gc gu (gc gu (gc gu (gc gu (gc gu (gc gu (gc gu gm))))))))))))
   (gr (gX 1 jC.sc.nd (im gZ (gF 1) (ie (gW (gc gu (gc gu (gc gu gm)))))))
   (gr (gX 1 jC.sc.nd (im gZ (gF 1) (ie (gW (gc gu (gc gu (gc gu (gc gu (gc gu (gc gu (gc gu (gc gu gm))))))))))))
   (gr (gX 1 jC.sc.nd (im gZ (gF 1) (ie (gW (gc gu (gc gu (gc gu gm)))))))
   (gr (gX 1 jC.sc.nd (im gZ (gF 1) (ie (gW (gc gu (gc gu (gc gu (gc gu (gc gu (gc gu (gc gu gm)))))))))))
   (gr (gX 1 jC.sc.nd (im gZ (gF 1) (ie (gW (gc gu (gc gu (gc gu gm)))))))
   (gB (gG (jy (jx c) (gF 1) (iN b a (gc (gF 0) (gc (mD iX Z.len iY (gc (gF 1) gm)) gm))))))))))))))
noncomputable def lr:FI (top 37) ["_law_word"] ["_law_word"]:=by walk_at "fi_"
def m6:DS:=(gL (mQ (jA nJ nJ (dC (.int 1)) (hZ jo (gg (gj 0) gq)) (dC (.int 8))) (gD rR (gS (i9 [aq] (jc (gj 0)) (gQ 0) (gz (gD (FR aj) (gj 0) (dC (.str "abcdefghijklmnopqrstuvwxyz")))) (gj 0))) (gS (ii gq)))))
theorem wR(D:gY K mg "_law_is_word" (top 37))(Z:Zs mg):nv P w K mg base (k+1) "_law_is_word" ["_law_word"] (mR K (cl (mO 1 1 m6))):=
 kR D lr.hb lr.hc lr.sc (by walk_at "u_") λf iC A outer s H E b=>by have a:=jw b;exact(gB (gG (vq (nQ k8 k8 gA (mD iX Z.len iY (gc (gF 0) gm)) gA) (xt (rJ (yw a) (ie (jT (N:=["_law_sign"]) (fr:=[aq]) (je.of (nt:=["_law_word"]) (jt:=lr.c) (by decide+kernel)) (ke (gF 0)) jj (λ_ _ _ _ _=>(iy 0 (show cm (["_law_sign"]:List av) by decide+kernel))) (λ_ _ _ _ _=>(Dt (gU (Am a) (gF 0) gu))) (λ_ _ _ _ _=>(gF 0)))) (ie (gW gm)))))))
noncomputable def jg:FI (top 38) ["_law_word","_law_low","_law_high","_law_plain"] ["_law_word","_law_low","_law_high"]:=by walk_at "fi_"
def oS:DS:=(gC (ip 3 (gj 0))
 (gC (ik (gz (gD lN (k7 (gj 0) gE (ig (dC (.int 1)))) (dC (.str "-")))) (ip 3 (k7 (gj 0) (ig (dC (.int 1))) gE)) gK)
 (gC (ik (uI (gz (gD lN (gj 3) (dC (.str "")))) (uI (gz (gD (Ab λi j=>.bl (decide (j<i))) (hZ jo (gg (gj 3) gq)) (dC (.int 12)))) (gz (gD mS (gS (i9 [aq] (jc (gj 3)) (gQ 0) (gz (gD (FR aj) (gj 0) (dC (.str "0123456789")))) (gj 0))) (gS (ii gq)))))) (gL (dC (.bl ao))) gK)
 (gC (ik (ny (gz (gD lN (gD jk (gj 3) (dC (.int 0))) (dC (.str "0")))) (gz (gD mS (gj 0) (dC (.str "0"))))) (gL (dC (.bl ao))) gK)
 (gL (jA nJ nJ (gj 1) (hZ r6 (gg (gj 0) gq)) (gj 2)))))))
theorem uE(D:gY K mg "_law_is_number" (top 38))(Z:Zs mg):nv P w K mg base (k+1) "_law_is_number" ["_law_word","_law_low","_law_high"] (mR K (cl (mO 4 3 oS))):=
 kR D jg.hb jg.hc jg.sc (by walk_at "u_") λf iC A outer s H E a=>by
 have b:=jw a;exact(gr (gX 3 jg.sc.nd (gF 0))
   (gr (iq (gU (i8 a.units) (ky (gF 0) hV (hW gA)) gu) (gB (gX 3 jg.sc.nd (ky (gF 0) (hW gA) hV))) g8)
   (gr (iq (kD (oQ (gU (i8 a.units) (gF 3) gu) (oQ (gU Dv (mD iX Z.len iY (gc (gF 3) gm)) gA) (m4 (gU (mT a.units) (ie (jT (N:=["_law_sign"]) (fr:=[aq]) (je.of (nt:=["_law_word","_law_low","_law_high","_law_plain"]) (jt:=jg.c) (by decide+kernel)) (ke (gF 3)) jj (λ_ _ _ _ _=>(iy 0 (show cm (["_law_sign"]:List av) by decide+kernel))) (λ_ _ _ _ _=>(Dt (gU (Am b) (gF 0) gu))) (λ_ _ _ _ _=>(gF 0)))) (ie (gW gm))))))) (gB (gG qG)) g8)
   (gr (iq (kD (lP (gU (i8 a.units) (jy (jx b) (gF 3) gA) gu) (l5 (gU (mT a.units) (gF 0) gu)))) (gB (gG qG)) g8)
   (gB (gG (nQ k8 k8 (gF 1) (MT yG Z.int pI (gc (gF 0) gm)) (gF 2))))))))
noncomputable def qU:FI (top 39) ["_law_word","_law_form_here"] ["_law_word","_law_form_here"]:=by walk_at "fi_"
def wm (jO:GN)(ic:GN):DS:=(gC (ik (gz (gD lN (gj 1) (dC (.str "b")))) (gL (hZ jO (gg (gj 0) (gg (dC (.int 0)) (gg (dC (.int 3)) gq))))) gK)
 (gC (ik (gz (gD lN (gj 1) (dC (.str "n")))) (gL (hZ jO (gg (gj 0) (gg (qp (dC (.int 2147483648))) (gg (dC (.int 2147483647)) gq))))) gK)
 (gL (hZ ic (gg (gj 0) gq)))))
theorem Cz(D:gY K mg "_law_form" (top 39))(b:iA P w K mg base k "_law_is_number" ["_law_word","_law_low","_law_high"] jO)(c:iA P w K mg base k "_law_is_word" ["_law_word"] ic):nv P w K mg base (k+1) "_law_form" ["_law_word","_law_form_here"] (mR K (cl (mO 2 2 (wm jO ic)))):=
 kR D qU.hb qU.hc qU.sc (by walk_at "u_") λf iC A outer s H E a=>by
 have e:=jw a;exact(gr (iq (gU (i8 a.units) (gF 1) gu) (gB (gG (iN b a (gc (gF 0) (gc gA (gc gA gm)))))) g8)
   (gr (iq (gU (i8 a.units) (gF 1) gu) (gB (gG (iN b a (gc (gF 0) (gc (qw gA) (gc gA gm)))))) g8)
   (gB (gG (iN c a (gc (gF 0) gm))))))
noncomputable def i4:FI (top 40) ["_law_line","_law_strong","_law_name","_law_words","_law_forms","_law_form_here"] ["_law_line"]:=by walk_at "fi_"
def tN (ic:GN)(mH:GN)(lJ:GN):DS:=(gC (ik (gz (gD lN (k7 (gj 0) (ig (qp (dC (.int 1)))) gE) (dC (.str ":")))) (gC (ip 1 (gD lN (k7 (gj 0) (ig (qp (dC (.int 2)))) gE) (dC (.str "::"))))
 (gC (ip 2 (k7 (gj 0) gE (ig (gD (Ab λi j=>.int (i- j)) (gD (Ab λi j=>.int (i- j)) (hZ jo (gg (gj 0) gq)) (dC (.int 1))) (hZ As (gg (gj 1) gq))))))
 (gC (ik (k9 (gz (hZ ic (gg (gj 2) gq)))) (gL (dC .non)) gK)
 (gL (i3 (gg (dC (.str "mark")) (gg (gj 2) (gg (gj 1) gq)))))))) gK)
 (gC (ip 3 (o7 "str" mf (gj 0) (gg (dC (.str " ")) gq)))
 (gC (ip 4 (uy (xC [((dC (.str "set")),(dC (.str "bn"))),((dC (.str "add")),(dC (.str "bb"))),((dC (.str "take")),(dC (.str "bb"))),((dC (.str "say")),(dC (.str "b"))),((dC (.str "ask")),(dC (.str "b"))),((dC (.str "jump")),(dC (.str "w"))),((dC (.str "jumpif")),(dC (.str "bw"))),((dC (.str "call")),(dC (.str "w")))])))
 (gC (lW (o7 "dict" vP (gj 4) (gg (gS (xC [((dC (.str "back")),(dC (.str ""))),((dC (.str "stop")),(dC (.str ""))),((dC (.str "load")),(dC (.str "bbw"))),((dC (.str "jumpby")),(dC (.str "bw"))),((dC (.str "alike")),(dC (.str "bww")))])) gq)))
 (gC (ik (gz (gD (FR ao) (gD jk (gj 3) (dC (.int 0))) (i3 (gg (dC (.str "numbers")) (gg (dC (.str "table")) gq))))) (gC (ip 5 (gD jk (gS (ii (gg (dC (.str "n")) (gg (dC (.str "w")) gq)))) (hZ As (gg (gD lN (gD jk (gj 3) (dC (.int 0))) (dC (.str "table"))) gq))))
 (gC (ik (uI (gz (gD OZ (hZ jo (gg (gj 3) gq)) (dC (.int 2)))) (k9 (gz (hZ tw (gg (gS (i9 [aq,ae 5] (jc (k7 (gj 3) (ig (dC (.int 1))) gE)) (gQ 0) lg (hZ mH (gg (gj 0) (gg (gj 1) gq))))) gq))))) (gL (dC .non)) gK)
 (gL (i3 (gg (gD jk (gj 3) (dC (.int 0))) (gg (gS (i9 [aq] (jc (k7 (gj 3) (ig (dC (.int 1))) gE)) (gQ 0) lg (hZ lJ (gg (gj 0) gq)))) gq)))))) gK)
 (gC (ip 5 (o7 "dict" xG (gj 4) (gg (gD jk (gj 3) (dC (.int 0))) gq)))
 (gC (ik (uI (gz (gD KC (gj 5) (dC .non))) (gz (gD mS (hZ jo (gg (gj 3) gq)) (gD gJ (dC (.int 1)) (hZ jo (gg (gj 5) gq)))))) (gL (dC .non)) gK)
 (gC (ik (k9 (gz (hZ tw (gg (gS (i9 [aq,aq] (vI (gg (k7 (gj 3) (ig (dC (.int 1))) gE) (gg (gj 5) gq))) (nz 2 (jf (gQ 0) (jf (gQ 1) py))) lg (hZ mH (gg (gj 0) (gg (gj 1) gq))))) gq)))) (gL (dC .non)) gK)
 (gL (hZ tD (gg (gD gJ (gS (ii (gg (gD jk (gj 3) (dC (.int 0))) gq))) (gS (i9 [aq] (jc (k7 (gj 3) (ig (dC (.int 1))) gE)) (gQ 0) lg (hZ lJ (gg (gj 0) gq))))) gq)))))))))))
theorem Ff(D:gY K mg "_law_row" (top 40))(Z:Zs mg)(j:iA P w K mg base k "_law_is_word" ["_law_word"] ic)(h:iA P w K mg base k "_law_form" ["_law_word","_law_form_here"] mH)(i:iA P w K mg base k "_law_value" ["_law_word"] lJ):nv P w K mg base (k+1) "_law_row" ["_law_line"] (mR K (cl (mO 6 1 (tN ic mH lJ)))):=
 kR D i4.hb i4.hc i4.sc (by walk_at "u_") λf iC A outer s H E a=>by
 have b:=jw a;exact(gr (iq (gU (i8 a.units) (ky (gF 0) (hW (qw gA)) hV) gu) (gr (gX 1 i4.sc.nd (rJ (i8 a.units) (ky (gF 0) (hW (qw gA)) hV) gu))
   (gr (gX 2 i4.sc.nd (ky (gF 0) hV (hW (im G1 (im G1 (mD iX Z.len iY (gc (gF 0) gm)) gA) (MT Hl Z.int pI (gc (gF 1) gm))))))
   (gr (iq (ku (iM (iN j a (gc (gF 2) gm)))) (gB (gG mC)) g8)
   (gB (gG (kg (gc gu (gc (gF 2) (gc (gF 1) gm))))))))) g8)
   (gr (gX 3 i4.sc.nd (lQ pH PySem.F.plainAttrs_str PySem.F.slot_str_split PySem.F.type_str_split (gF 0) (gc gu gm)))
   (gr (gX 4 i4.sc.nd (rL (DM (j7 gu gu (j7 gu gu (j7 gu gu (j7 gu gu (j7 gu gu (j7 gu gu (j7 gu gu (j7 gu gu Hi)))))))) rfl rfl (List.cons_ne_nil _ _) (a9 rfl))))
   (gr (kM (lQ EZ PySem.F.plainAttrs_dict PySem.F.slot_dict_update PySem.F.type_dict_update (gF 4) (gc (ie (DM (j7 gu gu (j7 gu gu (j7 gu gu (j7 gu gu (j7 gu gu Hi))))) rfl rfl (List.cons_ne_nil _ _) (a9 rfl))) gm)))
   (gr (iq (gU (S6 b) (jy (jx b) (gF 3) gA) (kg (gc gu (gc gu gm)))) (gr (gX 5 i4.sc.nd (jy (jx b) (ie (gW (gc gu (gc gu gm)))) (MT Hl Z.int pI (gc (rJ (i8 a.units) (jy (jx b) (gF 3) gA) gu) gm))))
   (gr (iq (kD (oQ (gU SE (mD iX Z.len iY (gc (gF 3) gm)) gA) (m4 (ku (iM (mD tz Z.all tK (gc (ie (jT (N:=["_law_word","_law_form_here"]) (fr:=[aq,ae 5]) (je.of (nt:=["_law_line","_law_strong","_law_name","_law_words","_law_forms","_law_form_here"]) (jt:=i4.c) (by decide+kernel)) (ke (ky (gF 3) (hW gA) hV)) jj (λ_ _ _ _ _=>(iy 0 (show cm (["_law_word","_law_form_here"]:List av) by decide+kernel))) (λ_ _ _ _ _=>kq) (λ_ _ _ _ _=>(iN h a (gc (gF 0) (gc (gF 1) gm)))))) gm))))))) (gB (gG mC)) g8)
   (gB (gG (kg (gc (jy (jx b) (gF 3) gA) (gc (ie (jT (N:=["_law_word"]) (fr:=[aq]) (je.of (nt:=["_law_line","_law_strong","_law_name","_law_words","_law_forms","_law_form_here"]) (jt:=i4.c) (by decide+kernel)) (ke (ky (gF 3) (hW gA) hV)) jj (λ_ _ _ _ _=>(iy 0 (show cm (["_law_word"]:List av) by decide+kernel))) (λ_ _ _ _ _=>kq) (λ_ _ _ _ _=>(iN i a (gc (gF 0) gm))))) gm))))))) g8)
   (gr (gX 5 i4.sc.nd (lQ (Pj b) PySem.F.plainAttrs_dict PySem.F.slot_dict_get PySem.F.type_dict_get (gF 4) (gc (jy (jx b) (gF 3) gA) gm)))
   (gr (iq (kD (oQ (gU MX (gF 5) mC) (m4 (gU (mT a.units) (mD iX Z.len iY (gc (gF 3) gm)) (im gZ gA (mD iX Z.len iY (gc (gF 5) gm))))))) (gB (gG mC)) g8)
   (gr (iq (ku (iM (mD tz Z.all tK (gc (ie (jT (N:=["_law_word","_law_sign"]) (fr:=[aq,aq]) (je.of (nt:=["_law_line","_law_strong","_law_name","_law_words","_law_forms","_law_form_here"]) (jt:=i4.c) (by decide+kernel)) (B6 (gc (ky (gF 3) (hW gA) hV) (gc (gF 5) gm)) Z.zip) (yv (nC jj (nC jj B0))) (λ_ _ _ _ _=>(sX (jN (iy 0 (show cm (["_law_word","_law_sign"]:List av) by decide+kernel)) (jN (iy 1 (show cm (["_law_word","_law_sign"]:List av) by decide+kernel)) pY)))) (λ_ _ _ _ _=>kq) (λ_ _ _ _ _=>(iN h a (gc (gF 0) (gc (gF 1) gm)))))) gm)))) (gB (gG mC)) g8)
   (gB (gG (MT Ap Z.tuple wa (gc (im gZ (ie (gW (gc (jy (jx b) (gF 3) gA) gm))) (ie (jT (N:=["_law_word"]) (fr:=[aq]) (je.of (nt:=["_law_line","_law_strong","_law_name","_law_words","_law_forms","_law_form_here"]) (jt:=i4.c) (by decide+kernel)) (ke (ky (gF 3) (hW gA) hV)) jj (λ_ _ _ _ _=>(iy 0 (show cm (["_law_word"]:List av) by decide+kernel))) (λ_ _ _ _ _=>kq) (λ_ _ _ _ _=>(iN i a (gc (gF 0) gm)))))) gm))))))))))))
noncomputable def pL:FI (top 41) ["_law_word"] ["_law_word"]:=by walk_at "fi_"
def uo (ic:GN):DS:=(gC (ik (gz (hZ ic (gg (gj 0) gq))) (gL (gj 0)) gK)
 (gL (hZ r6 (gg (gj 0) gq))))
theorem AN(D:gY K mg "_law_value" (top 41))(Z:Zs mg)(b:iA P w K mg base k "_law_is_word" ["_law_word"] ic):nv P w K mg base (k+1) "_law_value" ["_law_word"] (mR K (cl (mO 1 1 (uo ic)))):=
 kR D pL.hb pL.hc pL.sc (by walk_at "u_") λf iC A outer s H E a=>by
 have c:=jw a;exact(gr (iq (iM (iN b a (gc (gF 0) gm))) (gB (gG (gF 0))) g8)
   (gB (gG (MT yG Z.int pI (gc (gF 0) gm)))))
noncomputable def jW:FI (top 42) ["_law_text","_law_found","_law_lines_here","_law_at","_law_line","_law_row_here"] ["_law_text"]:=by walk_at "fi_"
def qV (ic:GN)(p5:GN):DS:=(gC (ip 1 (uy (ii gq)))
 (gC (ip 2 (o7 "str" mf (gj 0) (gg (dC (.str "\n")) gq)))
 (gC (vA (B5 (gg (gj 2) gq)) (nz 2 (jf (gQ 3) (jf (gQ 4) py))) (ik (ny (gz (gD lN (k7 (gj 4) gE (ig (dC (.int 5)))) (dC (.str "part ")))) (ny (gz (hZ ic (gg (k7 (gj 4) (ig (dC (.int 5))) gE) gq))) (uI (gz (gD rR (gj 1) (gS (ii gq)))) (gz (gD mS (gD jk (gD jk (gj 1) (qp (dC (.int 1)))) (dC (.int 1))) (gS (ii gq))))))) (lW (o7 "list" iO (gj 1) (gg (i3 (gg (k7 (gj 4) (ig (dC (.int 5))) gE) (gg (uy (ii gq)) gq))) gq))) (gC (ip 5 (hZ p5 (gg (gj 4) gq)))
 (gC (ik (uI (gz (gD KC (gj 5) (dC .non))) (gz (gD rR (gj 1) (gS (ii gq))))) (gL (gj 3)) gK)
 (lW (o7 "list" iO (gD jk (gD jk (gj 1) (qp (dC (.int 1)))) (dC (.int 1))) (gg (gj 5) gq)))))))
 (gC (ik (gz (gD rR (gD jk (gD jk (gj 1) (qp (dC (.int 1)))) (dC (.int 1))) (gS (ii gq)))) (gL (hZ jo (gg (gj 2) gq))) gK)
 (gL (gj 1))))))
theorem CB(D:gY K mg "_law_read" (top 42))(Z:Zs mg)(c:iA P w K mg base k "_law_is_word" ["_law_word"] ic)(e:iA P w K mg base k "_law_row" ["_law_line"] p5):nv P w K mg base (k+1) "_law_read" ["_law_text"] (mR K (cl (Ln 6 1 (qV ic p5)))):=
 PR D jW.hb jW.hc jW.sc (by walk_at "u_") λf iC A outer s H E b=>by
 have a:=jw b;exact(gr (gX 1 jW.sc.nd (rL (gW gm)))
   (gr (gX 2 jW.sc.nd (lQ pH PySem.F.plainAttrs_str PySem.F.slot_str_split PySem.F.type_str_split (gF 0) (gc gu gm)))
   (gr (qI (DC (gc (gF 2) gm) Z.enumerate) (sX (jN (iy 3 jW.sc.nd) (jN (iy 4 jW.sc.nd) pY))) (gB (iq (kD (lP (gU (i8 b.units) (ky (gF 4) hV (hW gA)) gu) (lP (iM (iN c b (gc (ky (gF 4) (hW gA) hV) gm))) (l5 (kD (oQ (gU (yw a) (gF 1) (ie (gW gm))) (m4 (gU (mT b.units) (jy (jx a) (jy (jx a) (gF 1) (qw gA)) gA) (ie (gW gm)))))))))) (gB (kM (lQ kG PySem.F.plainAttrs_list PySem.F.slot_list_append PySem.F.type_list_append (gF 1) (gc (kg (gc (ky (gF 4) (hW gA) hV) (gc (rL (gW gm)) gm))) gm)))) (gr (gX 5 jW.sc.nd (iN e b (gc (gF 4) gm)))
   (gr (iq (kD (oQ (gU MX (gF 5) mC) (m4 (gU (yw a) (gF 1) (ie (gW gm)))))) (gB (gG (gF 3))) g8)
   (gB (kM (lQ kG PySem.F.plainAttrs_list PySem.F.slot_list_append PySem.F.type_list_append (jy (jx a) (jy (jx a) (gF 1) (qw gA)) gA) (gc (gF 5) gm)))))))))
   (gr (iq (gU (yw a) (jy (jx a) (jy (jx a) (gF 1) (qw gA)) gA) (ie (gW gm))) (gB (gG (mD iX Z.len iY (gc (gF 2) gm)))) g8)
   (gB (gG (gF 1)))))))
noncomputable def oy:FI (top 43) ["_law_text","e"] ["_law_text"]:=by walk_at "fi_"
def wo (K:W.Frag)(mX:ai)(mm:FT)(ki:ai)(oj:ai)(si:ai)(p6:ai):DS:=(TB K 1 mX (Tx (Ze mm (λ_=>(gg (gj 0) gq)))) (gC (ik (ny (gz (hZ (yE K) (gg (gj 1) (gg (dC (.cls ki)) gq)))) (ny (k9 (gz (hZ (yE K) (gg (gj 1) (gg (dC (.cls oj)) gq))))) (k9 (gz (hZ (yE K) (gg (gj 1) (gg (dC (.cls si)) gq))))))) (gL (HI K "line" (gj 1))) gK)
 (gL (gS (ii (gg (dC (.str "other")) (gg (hZ (yE K) (gg (gj 1) (gg (dC (.cls p6)) gq))) gq)))))))
theorem CC(D:gY K mg "_law_said" (top 43))(Z:Zs mg)(c:mg "PartError"=ae (.ref mX))(e:DR P w K mg base k "read_parts" ["text"] mm)(g:mg "NoText"=ae (.ref ki))(h:mg "BadParts"=ae (.ref oj))(j:mg "BadRow"=ae (.ref si))(m:mg "NoCells"=ae (.ref p6)):nv P w K mg base (k+1) "_law_said" ["_law_text"] (mR K (cl (mO 2 1 (wo K mX mm ki oj si p6)))):=
 kR D oy.hb oy.hc oy.sc (by walk_at "u_") λf iC A outer s H E b=>by
 have n:=jw b;exact(gB (PD (i:=1) oy.sc.nd c (λ_ _ _ a=>(nV (Le (Tw e b a (JA.FS (gc (gF 0) gm)))))) (λ_=>(gr (iq (kD (lP (iM (mD yF Z.isinstance hU (gc (gF 1) (gc (nP g) gm)))) (lP (ku (iM (mD yF Z.isinstance hU (gc (gF 1) (gc (nP h) gm))))) (l5 (ku (iM (mD yF Z.isinstance hU (gc (gF 1) (gc (nP j) gm))))))))) (gB (gG (PK (gF 1)))) g8)
   (gB (gG (ie (gW (gc gu (gc (mD yF Z.isinstance hU (gc (gF 1) (gc (nP m) gm))) gm))))))))))
noncomputable def jq:FI (top 44) ["_law_lines_here","_law_source_here","_law_at","_law_way","_law_k","_law_sign","_law_line"] ["_law_lines_here","_law_source_here"]:=by walk_at "fi_"
def oz (iB:GN)(mv:GN):DS:=(gC (ip 2 (hZ iB (gg (gj 1) (gg (hZ jo (gg (gj 0) gq)) gq))))
 (gC (ip 3 (hZ iB (gg (gj 1) (gg (dC (.int 6)) gq))))
 (gC (ik (gz (gD lN (gj 3) (dC (.int 0)))) (gL (gD gJ (gD gJ (k7 (gj 0) gE (ig (gj 2))) (gS (ii (gg (hZ mv (gg (gj 1) gq)) gq)))) (k7 (gj 0) (ig (gD gJ (gj 2) (dC (.int 1)))) gE))) gK)
 (gC (ik (gz (gD lN (gj 3) (dC (.int 1)))) (gL (gD gJ (gD gJ (k7 (gj 0) gE (ig (gj 2))) (gS (ii (gg (hZ mv (gg (gj 1) gq)) gq)))) (k7 (gj 0) (ig (gj 2)) gE))) gK)
 (gC (ik (gz (gD lN (gj 3) (dC (.int 2)))) (gL (gD gJ (k7 (gj 0) gE (ig (gj 2))) (k7 (gj 0) (ig (gD gJ (gj 2) (dC (.int 1)))) gE))) gK)
 (gC (ik (gz (gD lN (gj 3) (dC (.int 3)))) (gL (gD gJ (gj 0) (gS (ii (gg (hZ mv (gg (gj 1) gq)) gq))))) gK)
 (gC (ik (gz (gD lN (gj 3) (dC (.int 4)))) (gC (ip 4 (hZ iB (gg (gj 1) (gg (gD gJ (hZ jo (gg (gD jk (gj 0) (gj 2)) gq)) (dC (.int 1))) gq))))
 (gC (ip 5 (gD jk (dC (.str " :-0azA9~")) (hZ iB (gg (gj 1) (gg (dC (.int 9)) gq)))))
 (gC (ip 6 (gD gJ (gD gJ (k7 (gD jk (gj 0) (gj 2)) gE (ig (gj 4))) (gj 5)) (k7 (gD jk (gj 0) (gj 2)) (ig (gj 4)) gE)))
 (gL (gD gJ (gD gJ (k7 (gj 0) gE (ig (gj 2))) (gS (ii (gg (gj 6) gq)))) (k7 (gj 0) (ig (gD gJ (gj 2) (dC (.int 1)))) gE)))))) gK)
 (gL (gD gJ (gD gJ (k7 (gj 0) gE (ig (gj 2))) (gS (ii (gg (k7 (gD jk (gj 0) (gj 2)) (ig (dC (.int 1))) gE) gq)))) (k7 (gj 0) (ig (gD gJ (gj 2) (dC (.int 1)))) gE))))))))))
theorem yS(D:gY K mg "_law_spoilt" (top 44))(Z:Zs mg)(c:iA P w K mg base k "_law_next" ["_law_source_here","_law_many"] iB)(e:iA P w K mg base k "_law_odd" ["_law_source_here"] mv):nv P w K mg base (k+1) "_law_spoilt" ["_law_lines_here","_law_source_here"] (mR K (Ds 7 2 (oz iB mv))):=
 xA D jq.hb jq.hc jq.sc (by walk_at "u_") λf iC A outer s H E a=>by
 have b:=jw a;exact(gr (gX 2 jq.sc.nd (iN c a (gc (gF 1) (gc (mD iX Z.len iY (gc (gF 0) gm)) gm))))
   (gr (gX 3 jq.sc.nd (iN c a (gc (gF 1) (gc gA gm))))
   (gr (iq (gU (i8 a.units) (gF 3) gA) (gB (gG (im gZ (im gZ (ky (gF 0) hV (hW (gF 2))) (ie (gW (gc (iN e a (gc (gF 1) gm)) gm)))) (ky (gF 0) (hW (im gZ (gF 2) gA)) hV)))) g8)
   (gr (iq (gU (i8 a.units) (gF 3) gA) (gB (gG (im gZ (im gZ (ky (gF 0) hV (hW (gF 2))) (ie (gW (gc (iN e a (gc (gF 1) gm)) gm)))) (ky (gF 0) (hW (gF 2)) hV)))) g8)
   (gr (iq (gU (i8 a.units) (gF 3) gA) (gB (gG (im gZ (ky (gF 0) hV (hW (gF 2))) (ky (gF 0) (hW (im gZ (gF 2) gA)) hV)))) g8)
   (gr (iq (gU (i8 a.units) (gF 3) gA) (gB (gG (im gZ (gF 0) (ie (gW (gc (iN e a (gc (gF 1) gm)) gm)))))) g8)
   (gr (iq (gU (i8 a.units) (gF 3) gA) (gr (gX 4 jq.sc.nd (iN c a (gc (gF 1) (gc (im gZ (mD iX Z.len iY (gc (jy (jx b) (gF 0) (gF 2)) gm)) gA) gm))))
   (gr (gX 5 jq.sc.nd (jy (jx b) gu (iN c a (gc (gF 1) (gc gA gm)))))
   (gr (gX 6 jq.sc.nd (im gZ (im gZ (ky (jy (jx b) (gF 0) (gF 2)) hV (hW (gF 4))) (gF 5)) (ky (jy (jx b) (gF 0) (gF 2)) (hW (gF 4)) hV)))
   (gB (gG (im gZ (im gZ (ky (gF 0) hV (hW (gF 2))) (ie (gW (gc (gF 6) gm)))) (ky (gF 0) (hW (im gZ (gF 2) gA)) hV))))))) g8)
   (gB (gG (im gZ (im gZ (ky (gF 0) hV (hW (gF 2))) (ie (gW (gc (ky (jy (jx b) (gF 0) (gF 2)) (hW gA) hV) gm)))) (ky (gF 0) (hW (im gZ (gF 2) gA)) hV)))))))))))
noncomputable def mK:FI (top 45) ["_law_script","_law_draw","_law_source_here","_law_lines_here","_law_text","_law_due","_law_found","_law_thing","_law_many","_law_sixty"] ["_law_script"]:=by walk_at "fi_"
def Ia (K:W.Frag)(mh:GN)(mW:GN)(mi:GN)(oi:GN)(iU:GN)(mj:GN):DS:=(gC (vA (jc (gD gJ (k7 (gj 0) gE (ig (dC (.int 12)))) (gS (ii (gg (dC (.int 0)) gq))))) (gQ 1) (gC (ip 2 (hZ mh (gg (gj 1) gq)))
 (gC (ip 3 (hZ mW (gg (gj 2) gq)))
 (gC (ip 4 (o7 "str" oa (dC (.str "\n")) (gg (hZ mi (gg (gj 3) (gg (gj 2) gq))) gq)))
 (gC (ip 5 (hZ oi (gg (gj 4) gq)))
 (gC (ip 6 (hZ iU (gg (gj 4) gq)))
 (gC (ik (uI (gz (hZ (nS K) (gg (gj 6) (gg (dC (.ty "bool")) gq)))) (uI (gz (gD mS (hZ (nS K) (gg (gj 6) (gg (dC (.ty "int")) gq))) (hZ (nS K) (gg (gj 5) (gg (dC (.ty "int")) gq))))) (gz (gD mS (gj 6) (gj 5))))) (gL (dC (.bl ao))) gK)
 (ik (ny (gz (hZ (nS K) (gg (gj 5) (gg (dC (.ty "list")) gq)))) (gz (gD mS (hZ mj (gg (gj 6) gq)) (gj 4)))) (gL (dC (.bl ao))) gK))))))))
 (gC (vA (jc (gS (ii (gg (dC .non) (gg (dC (.int 5)) (gg (gS (ii (gg (dC (.str "part a")) (gg (dC (.str "stop")) gq)))) gq)))))) (gQ 7) (ik (gz (gD mS (hZ iU (gg (gj 7) gq)) (dC (.int 0)))) (gL (dC (.bl ao))) gK))
 (gC (ip 8 (o7 "str" oa (dC (.str "\n")) (gg (gD gJ (gD gJ (gD gJ (gS (ii (gg (dC (.str "part a")) gq))) (gD kz (gS (ii (gg (dC (.str "say 1")) gq))) (dC (.int 70)))) (gS (ii (gg (dC (.str "stop")) gq)))) (gD kz (gS (ii (gg (dC (.str "part a\nstop")) gq))) (dC (.int 13)))) gq)))
 (gC (ik (gz (gD mS (hZ iU (gg (gj 8) gq)) (gD gJ (gS (ii (gg (i3 (gg (dC (.str "a")) (gg (gD gJ (gD kz (gS (ii (gg (i3 (gg (dC (.str "say")) (gg (dC (.int 1)) gq))) gq))) (dC (.int 70))) (gS (ii (gg (i3 (gg (dC (.str "stop")) gq)) gq)))) gq))) gq))) (gD kz (gS (ii (gg (i3 (gg (dC (.str "a")) (gg (gS (ii (gg (i3 (gg (dC (.str "stop")) gq)) gq))) gq))) gq))) (dC (.int 13)))))) (gL (dC (.bl ao))) gK)
 (gC (ip 9 (gD gJ (gD gJ (gD gJ (dC (.str "part a\nnumbers")) (gD kz (dC (.str " 1")) (dC (.int 60)))) (dC (.str "\ntable"))) (gD kz (dC (.str " a")) (dC (.int 60)))))
 (gC (ik (gz (gD mS (hZ iU (gg (gj 9) gq)) (gS (ii (gg (i3 (gg (dC (.str "a")) (gg (gS (ii (gg (i3 (gg (dC (.str "numbers")) (gg (gD kz (gS (ii (gg (dC (.int 1)) gq))) (dC (.int 60))) gq))) (gg (i3 (gg (dC (.str "table")) (gg (gD kz (gS (ii (gg (dC (.str "a")) gq))) (dC (.int 60))) gq))) gq)))) gq))) gq))))) (gL (dC (.bl ao))) gK)
 (gC (ik (Lq (hZ iU (gg (gD gJ (gj 9) (dC (.str " a"))) gq)) 2 9 "numbers" "numbers 1" iU 1) (gL (dC (.bl ao))) gK)
 (gL (mQ (gD lN (hZ iU (gg (dC (.str "")) gq)) (dC (.int 0))) (mQ (gD lN (hZ iU (gg (dC (.str "part a")) gq)) (dC (.int 1))) (gD lN (hZ iU (gg (dC (.str "part a\nstop")) gq)) (gS (ii (gg (i3 (gg (dC (.str "a")) (gg (gS (ii (gg (i3 (gg (dC (.str "stop")) gq)) gq))) gq))) gq))))))))))))))
theorem TY(Z:Zs mg)(g:iA P w K mg base k "_law_source" ["_law_draw"] mh)(h:iA P w K mg base k "_law_lines" ["_law_source_here"] mW)(j:iA P w K mg base k "_law_spoilt" ["_law_lines_here","_law_source_here"] mi)(m:iA P w K mg base k "_law_read" ["_law_text"] oi)(e:iA P w K mg base k "_law_said" ["_law_text"] iU)(n:iA P w K mg base k "show_parts" ["parts"] mj)(f:ai)(iC:af)(A:aH)(outer:List d4)(s:ah)(H:Hp)(E:XK)(a:js k (A.deeper (dO "law" mK.c s.heap.objs.size f iC))):
  wJ (qj ud P w K mg base ["_law_script","_law_draw","_law_source_here","_law_lines_here","_law_text","_law_due","_law_found","_law_thing","_law_many","_law_sixty"] "law" mK.c f iC A outer s H E).Er mK.b (Ia K mh mW mi oi iU mj):=by
 have o:=jw a;exact(gr (qI (ke (im gZ (ky (gF 0) hV (hW gA)) (ie (gW (gc gA gm))))) (iy 1 mK.sc.nd) (gr (gX 2 mK.sc.nd (iN g a (gc (gF 1) gm)))
   (gr (gX 3 mK.sc.nd (iN h a (gc (gF 2) gm)))
   (gr (gX 4 mK.sc.nd (lQ uO PySem.F.plainAttrs_str PySem.F.slot_str_join PySem.F.type_str_join gu (gc (iN j a (gc (gF 3) (gc (gF 2) gm))) gm)))
   (gr (gX 5 mK.sc.nd (iN m a (gc (gF 4) gm)))
   (gr (gX 6 mK.sc.nd (iN e a (gc (gF 4) gm)))
   (gr (iq (kD (oQ (iM (mD lj Z.isinstance hU (gc (gF 6) (gc (sV Z.bool yI) gm)))) (oQ (gU (mT a.units) (mD lj Z.isinstance hU (gc (gF 6) (gc (sV Z.int pI) gm))) (mD lj Z.isinstance hU (gc (gF 5) (gc (sV Z.int pI) gm)))) (m4 (gU (mT a.units) (gF 6) (gF 5)))))) (gB (gG qG)) g8)
   (gB (iq (kD (lP (iM (mD lj Z.isinstance hU (gc (gF 5) (gc (sV Z.list yJ) gm)))) (l5 (gU (mT a.units) (iN n a (gc (gF 6) gm)) (gF 4))))) (gB (gG qG)) g8)))))))))
   (gr (qI (ke (ie (gW (gc mC (gc gA (gc (ie (gW (gc gu (gc gu gm)))) gm)))))) (iy 7 mK.sc.nd) (gB (iq (gU (mT a.units) (iN e a (gc (gF 7) gm)) gA) (gB (gG qG)) g8)))
   (gr (gX 8 mK.sc.nd (lQ uO PySem.F.plainAttrs_str PySem.F.slot_str_join PySem.F.type_str_join gu (gc (im gZ (im gZ (im gZ (ie (gW (gc gu gm))) (im lh (ie (gW (gc gu gm))) gA)) (ie (gW (gc gu gm)))) (im lh (ie (gW (gc gu gm))) gA)) gm)))
   (gr (iq (gU (mT a.units) (iN e a (gc (gF 8) gm)) (im gZ (ie (gW (gc (kg (gc gu (gc (im gZ (im lh (ie (gW (gc (kg (gc gu (gc gA gm))) gm))) gA) (ie (gW (gc (kg (gc gu gm)) gm)))) gm))) gm))) (im lh (ie (gW (gc (kg (gc gu (gc (ie (gW (gc (kg (gc gu gm)) gm))) gm))) gm))) gA))) (gB (gG qG)) g8)
   (gr (gX 9 mK.sc.nd (im gZ (im gZ (im gZ gu (im lh gu gA)) gu) (im lh gu gA)))
   (gr (iq (gU (mT a.units) (iN e a (gc (gF 9) gm)) (ie (gW (gc (kg (gc gu (gc (ie (gW (gc (kg (gc gu (gc (im lh (ie (gW (gc gA gm))) gA) gm))) (gc (kg (gc gu (gc (im lh (ie (gW (gc gu gm))) gA) gm))) gm)))) gm))) gm)))) (gB (gG qG)) g8)
   (gr (iq (kD (PX (i:=9) (iN e a (gc (im gZ (gF 9) gu) gm)) e a a.units)) (gB (gG qG)) g8)
   (gB (gG (vq (rJ (i8 a.units) (iN e a (gc gu gm)) gA) (vq (rJ (i8 a.units) (iN e a (gc gu gm)) gA) (xt (rJ (i8 a.units) (iN e a (gc gu gm)) (ie (gW (gc (kg (gc gu (gc (ie (gW (gc (kg (gc gu gm)) gm))) gm))) gm))))))))))))))))
end
end ll
namespace ll
open PySem PySem.Spec L2 L3 FJ
noncomputable def jl(c:Nat):List (List Nat)->List Nat
 |[]=>[]
 |[x]=>x
 |x::y::r=>x++c::jl c (y::r)
theorem p8(a b:av):(a++b).cps.toList=a.cps.toList++b.cps.toList:=by show(a.cps++b.cps).toList=_;simp
theorem nE(c:Nat):∀l:List av,(cZ ⟨#[c]⟩ l).cps.toList=jl c (l.map λs=>s.cps.toList)
 |[]=>rfl
 |[x]=>rfl
 |x::y::r=>by show(x++⟨#[c]⟩++cZ ⟨#[c]⟩ (y::r)).cps.toList=x.cps.toList++c::jl c _;rw[p8,p8,nE c (y::r),bA];rfl
theorem DX{c:Nat}:∀{x y r s:List Nat},c∉x->c∉y->x++c::r=y++c::s->x=y/\r=s
 |[],[],r,s,_,_,h=>⟨rfl,(eU h).2⟩
 |[],b::y,r,s,_,e,h=>absurd ((eU h).1▸a8) e
 |a::x,[],r,s,f,_,h=>absurd ((eU h).1▸a8) f
 |a::x,b::y,r,s,f,e,h=>by obtain⟨g,i⟩:=eU h;obtain⟨j,m⟩:=DX (λz=>f (au _ z)) (λz=>e (au _ z)) i;exact⟨by rw[g,j],m⟩
theorem CH{c:Nat}:∀{l m:List (List Nat)},l≠[]->m≠[]->(∀p∈l,c∉p)->(∀p∈m,c∉p)->jl c l=jl c m->l=m
 |[],_,h,_,_,_,_=>absurd rfl h
 |_::_,[],_,h,_,_,_=>absurd rfl h
 |[x],[y],_,_,_,_,h=>by rw[show x=y from h]
 |[x],y::z::s,_,_,a,_,h=>absurd (by rw[show x=y++c::jl c (z::s) from h];simp) (a x (by simp))
 |x::y::r,[z],_,_,_,hm,h=>absurd (by rw[show z=x++c::jl c (y::r) from h.symm];simp) (hm z (by simp))
 |x::y::r,z::u::s,_,_,a,hm,h=>by obtain⟨e,f⟩:=DX (a x (by simp)) (hm z (by simp)) (show x++c::jl c (y::r)=z++c::jl c (u::s) from h);rw[e,CH (by simp) (by simp) (λp b=>a p (au _ b)) (λp b=>hm p (au _ b)) f]
theorem j9{a b:av}(h:a.cps.toList=b.cps.toList):a=b:=by obtain⟨⟨a⟩⟩:=a;obtain⟨⟨b⟩⟩:=b;cases(show a=b from h);rfl
theorem Ib(x:av)(c:Nat):cI x ⟨#[c]⟩≠[]:=by
 unfold cI;split
 ·simp
 ·split
  ·simp
  ·rw[StrLaws.partsBetween_eq];obtain⟨p,r,h⟩:=StrLaws.partsFrom_ne x (av.length ⟨#[c]⟩) 0 (cc x ⟨#[c]⟩ 0 x.length (x.length+1));rw[h];simp
theorem CI{c:Nat}{l:List av}(ne:l≠[])(h:∀p∈l,c∉p.cps.toList):cI (cZ ⟨#[c]⟩ l) ⟨#[c]⟩=l:=by have e:=StrLaws.join_split (cZ ⟨#[c]⟩ l) ⟨#[c]⟩;have f:=StrLaws.split_free (cZ ⟨#[c]⟩ l) c;have n:=Ib (cZ ⟨#[c]⟩ l) c;generalize cI (cZ ⟨#[c]⟩ l) ⟨#[c]⟩=m at e f n;have e2:=congrArg (λs=>s.cps.toList) e;rw[nE,nE] at e2;have:=CH (c:=c) (by simpa using n) (by simpa using ne) (λp a=>by obtain⟨s,b,rfl⟩:=cj.mp a;exact f s b) (λp a=>by obtain⟨s,b,rfl⟩:=cj.mp a;exact h s b) e2;exact List.map_inj_right (λ_ _ h=>j9 h)|>.mp this
noncomputable def S(l:List Nat):av:=⟨l.toArray⟩
theorem mL(l:List Nat):(S l).cps.toList=l:=rfl
theorem PY(x:av):S x.cps.toList=x:=j9 rfl
theorem Nu{a b:List Nat}(h:S a=S b):a=b:=congrArg (λx=>x.cps.toList) h
theorem iL(l:List Nat):(S l).length=l.length:=by simp[S,av.length]
noncomputable def jV:List Nat->List Nat->Bool
 |[],[]=>aj
 |a::x,b::y=>bH a b&&jV x y
 |_,_=>ao
theorem iR:∀{x y:List Nat},jV x y=aj↔x=y
 |[],[]=>⟨λ_=>rfl,λ_=>rfl⟩
 |[],_::_=>⟨λh=>(by cases h),λh=>(by cases h)⟩
 |_::_,[]=>⟨λh=>(by cases h),λh=>(by cases h)⟩
 |a::x,b::y=>by show(bH a b&&jV x y)=aj↔_;rw[aD,iR,List.cons.injEq];exact and_congr_left λ_=>Iff.of_eq Nat.beq_eq
theorem qW(l:List Nat)(x:av):(S l==x)=jV l x.cps.toList:=by rw[bB,beq_iff_eq,iR];exact⟨λh=>by rw[<-h];rfl,λh=>by rw[h,PY]⟩
noncomputable def kL(c:Nat):List Nat->List (List Nat)
 |[]=>[[]]
 |a::r=>match kL c r with
  |[]=>[[a]]
  |p::ps=>bif bH a c then[]::p::ps else(a::p)::ps
theorem oA(c:Nat):∀l,kL c l≠[]/\(∀p∈kL c l,c∉p)/\jl c (kL c l)=l
 |[]=>⟨by simp[kL],by simp[kL],rfl⟩
 |a::r=>by
  obtain⟨i,f,g⟩:=oA c r;unfold kL;cases h:kL c r with
  |nil=>exact absurd h i
  |cons p ps=>
   rw[h] at f g;simp only;cases hb:bH a c with
   |true=>
    have e:a=c:=dD hb;refine⟨by simp,λq b=>?_,?_⟩
    ·rcases aE.mp b with rfl|b
     ·simp
     ·exact f q b
    ·show[]++c::jl c (p::ps)=_;rw[g,e];rfl
   |false=>
    have e:c≠a:=λz=>by rw[z,show bH a a=aj from Nat.beq_refl a] at hb;cases hb
    refine⟨by simp,λq b=>?_,?_⟩
    ·rcases aE.mp b with rfl|b
     ·intro hc;rcases aE.mp hc with hc|hc
      ·exact e hc
      ·exact f p (by simp) hc
     ·exact f q (au _ b)
    ·cases ps with
     |nil=>show a::p=_;rw[<-g];rfl
     |cons q ps=>show(a::p)++c::jl c (q::ps)=_;rw[<-g];rfl
theorem sB(c:Nat)(l:List Nat):cI (S l) ⟨#[c]⟩=(kL c l).map S:=by
 obtain⟨a,b,f⟩:=oA c l;have e:cZ ⟨#[c]⟩ ((kL c l).map S)=S l:=j9 (by rw[nE,bF,show((λs=>s.cps.toList)∘S)=id from rfl,fg,f];rfl)
 rw[<-e];exact CI (by simpa using a) λp g=>by obtain⟨q,h,rfl⟩:=cj.mp g;exact b q h
theorem sC(c:Nat):∀l,(kL c l).length<=l.length+1
 |[]=>aY _
 |a::r=>by
  have:=sC c r;unfold kL;cases h:kL c r with
  |nil=>simp
  |cons p ps=>
   rw[h] at this;simp only;cases bH a c<;>simp at this ⊢<;>omega
theorem Ic{c:Nat}:∀{l:List (List Nat)} {p:List Nat},p∈l->p.length<=(jl c l).length
 |[],p,h=>by cases h
 |[x],p,h=>by rw[aZ.mp h];exact aY _
 |x::y::r,p,h=>by
  show _<=(x++c::jl c (y::r)).length;rw[ay,aM];rcases aE.mp h with rfl|h
  ·omega
  ·have:=Ic (c:=c) h;omega
theorem p9{c:Nat}{l p:List Nat}(h:p∈kL c l):p.length<=l.length:=by
 have:=Ic (c:=c) h
 rwa [(oA c l).2.2] at this
theorem DY(m:Nat):(bI (toString (m:Int))).cps.toList=(Nat.toDigits 10 m).map Char.toNat:=W.KIN.signs_num m
theorem Lr(m:Nat):(bI (toString (Int.negSucc m))).cps.toList=45::(Nat.toDigits 10 (m+1)).map Char.toNat:=by rw[PyProof.Rows.signs_ofString];show("-"++Nat.repr (m+1)).toList.map Char.toNat=_;rw[String.toList_append,bE,Nat.toList_repr];rfl
end ll
namespace L3
open PySem PySem.Spec L2
section
variable {ta tb tc:DE} {δ:j2} {M:Ms} {Q:DK} {R:Bool->Ms->Prop} {b:Bool} {g g':G2} {y:D}
def Xv (tb:DE)(δ:j2)(Q:DK):DK:=λx M1=>match x with|.bl aj=>tb δ M1 Q|.bl ao=>Q (.bl ao) M1|_=>False
def TZ (Q:DK):DK:=λx M1=>match x with|.bl b=>Q (.bl (!b)) M1|_=>False
def Nv (R:Bool->Ms->Prop):DK:=λx M1=>match x with|.bl b=>R b M1|_=>False
def PZ (g':G2)(tc:DE)(δ:j2)(y:D)(Q:DK):DK:=λz a=>match z with|.bl aj=>tc δ a λw c=>g' y w c Q|.bl ao=>Q (.bl ao) a|_=>False
theorem Ls:mQ ta tb δ M Q=ta δ M (Xv tb δ Q):=rfl
theorem Lu:GL ta δ M Q=ta δ M (TZ Q):=rfl
theorem DZ:gz ta δ M R=ta δ M (Nv R):=rfl
theorem Ie:jA g g' ta tb tc δ M Q=ta δ M λx M1=>tb δ M1 λy M2=>g x y M2 (PZ g' tc δ y Q):=rfl
theorem Lv:TZ Q (.bl b) M=Q (.bl (!b)) M:=rfl
theorem Ig:Nv R (.bl b) M=R b M:=rfl
theorem AR{a c:Int}{P:Bool->Prop}:Ak (.int a) (.int c) P=P (a==c):=rfl
theorem Lw{i j:Int}:nJ (.int i) (.int j) M Q=Q (.bl (decide (i<=j))) M:=rfl
theorem Lx{i j:av}:nJ (.str i) (.str j) M Q=Q (.bl (!decide (j.cps.toList<i.cps.toList))) M:=rfl
theorem Ly{K:W.Frag}{d:D}{n:String}:nS K [d,.ty n] M Q=∃b,qx n (vw M d)=ae b/\Q (.bl b) M:=rfl
theorem Ih{d:D}:jo [d] M Q=∃n:Nat,Ha (vw M d)=ae n/\Q (.int n) M:=rfl
theorem wq{d:D}:gj 0 (ae d::δ) M Q=Q d M:=rfl
theorem xN{o:Option D}{i:Nat}:gj (i+1) (o::δ) M Q=gj i δ M Q:=rfl
end
section
variable {M:Ms} {b:Bool} {i:Int} {x:av} {n:String} {ds:List D} {ns:List Int} {ks:List Key} {C:ai} {ms:List av}
theorem AS:qx "int" .non=ae ao:=rfl
theorem CJ:qx "int" (.bl b)=ae aj:=rfl
theorem AT:qx "int" (.int i)=ae aj:=rfl
theorem AU:qx "int" (.str x)=ae ao:=rfl
theorem AV:qx "int" (.tup ds)=ae ao:=rfl
theorem AW:qx "int" (.lst ds)=ae ao:=rfl
theorem AX:qx "int" (.jR ks ds)=ae ao:=rfl
theorem yW:qx "bool" .non=ae ao:=rfl
theorem AY:qx "bool" (.bl b)=ae aj:=rfl
theorem yX:qx "bool" (.int i)=ae ao:=rfl
theorem yY:qx "bool" (.str x)=ae ao:=rfl
theorem yZ:qx "bool" (.tup ds)=ae ao:=rfl
theorem y0:qx "bool" (.lst ds)=ae ao:=rfl
theorem y1:qx "bool" (.jR ks ds)=ae ao:=rfl
theorem AZ:qx "str" .non=ae ao:=rfl
theorem CK:qx "str" (.bl b)=ae ao:=rfl
theorem A0:qx "str" (.int i)=ae ao:=rfl
theorem A1:qx "str" (.str x)=ae aj:=rfl
theorem A2:qx "str" (.tup ds)=ae ao:=rfl
theorem A3:qx "str" (.lst ds)=ae ao:=rfl
theorem A4:qx "str" (.jR ks ds)=ae ao:=rfl
theorem wS:qx "tuple" (.tup ds)=ae aj:=rfl
theorem y3:qx "list" .non=ae ao:=rfl
theorem A5:qx "list" (.bl b)=ae ao:=rfl
theorem y4:qx "list" (.int i)=ae ao:=rfl
theorem y6:qx "list" (.str x)=ae ao:=rfl
theorem y7:qx "list" (.tup ds)=ae ao:=rfl
theorem y9:qx "list" (.lst ds)=ae aj:=rfl
theorem zc:qx "list" (.jR ks ds)=ae ao:=rfl
theorem P0:vw M .non=.non:=rfl
theorem T0:vw M (.bl b)=(.bl b):=rfl
theorem T1:fz M (.bl b)=(.bl b):=rfl
theorem T2:nl (.bl b)=aj:=rfl
theorem Ii:vw M (.int i)=(.int i):=rfl
theorem P4:vw M (.str x)=(.str x):=rfl
theorem P5:nl (.str x)=aj:=rfl
theorem P6:vw M (.tup ds)=(.tup ds):=rfl
theorem P7:vw M (.lst ds)=(.lst ds):=rfl
theorem P8:vw M (.jR ks ds)=(.jR ks ds):=rfl
theorem P9:ql []=aj:=rfl
theorem Lz{d:D}{ds:List D}:ql (d::ds)=(nl d&&ql ds):=rfl
end
theorem Qa{ds:List D}:Ha (.lst ds)=ae ds.length:=rfl
theorem Qb{ds:List D}:Ha (.tup ds)=ae ds.length:=rfl
theorem Qc{x:av}:Ha (.str x)=if x.length<=ax then ae x.length else aq:=rfl
theorem Qd{n:Nat}{gs:Dp}{ds:List D}{a:j2}{M:Ms}{Q:j2->Ms->Prop}:nz n gs (.tup ds) a M Q=(ds.length=n/\gs ds a M Q):=rfl
theorem LA{g:DG}{gs:Dp}{d:D}{ds:List D}{a:j2}{M:Ms}{Q:j2->Ms->Prop}:jf g gs (d::ds) a M Q=g d a M λb M1=>gs ds b M1 Q:=rfl
local macro_rules | `(tactic| walk_at "rd_at") => `(tactic| simp (decide := aj) only [mO, cl, gC, ip, gD, dC, gL, ik, k9, uI, gq, gg, hZ, gK, gQ, pA, Option.getD_some, List.getElem?_cons_zero, Ls, Lu, DZ, Ie, Lv, mS, AR, Lw, Lx, Ly, Ih, Qd, LA, Qa, Qb, Qc, wq, xN, AS, CJ, AT, AU, AV, AW, AX, yW, AY, yX, yY, yZ, y0, y1, AZ, CK, A0, A1, A2, A3, A4, wS, y3, A5, y4, y6, y7, y9, zc, lf, aU, c6, aM, bC, ba, List.cons_append, bv, List.set_cons_zero, dW, true_and, cf, Bool.and_true, P0, T0, T1, T2, Ii, P4, P5, P6, P7, P8, P9, Lz])
theorem Qe{C:Int->Int->Prop}{f:Int->Int->D}{i j:Int}{M:Ms}{Q:DK}:gI C f (.int i) (.int j) M Q=(C i j/\Q (f i j) M):=rfl
theorem LB{f:Int->Int->D}{i j:Int}{M:Ms}{Q:DK}:Ab f (.int i) (.int j) M Q=Q (f i j) M:=rfl
theorem Ij{i j:Int}{M:Ms}{Q:DK}:gJ (.int i) (.int j) M Q=Q (.int (i+j)) M:=rfl
end L3
namespace ll
open PySem PySem.Spec L2 L3 FJ
abbrev nT(n:Int):av:=bI (toString n)
noncomputable def dg(m:Nat):List Nat:=(Nat.toDigits 10 m).map Char.toNat
theorem Ik{m:Nat}(h:m<10^10):(dg m).length<=10:=by have:=W.KT.len_num (n:=(m:Int)) (by omega) (by omega);rw[<-show(nT m).cps.toList.length=(nT m).length by simp[av.length],DY] at this;exact this
noncomputable def Rr(n:Int):List Nat:=match n with
 |.ofNat m=>dg m
 |.negSucc m=>45::dg (m+1)
theorem Il(n:Int):(nT n).cps.toList=Rr n:=by
 cases n with
 |ofNat m=>exact DY m
 |negSucc m=>exact Lr m
theorem uR(x:av):x.length=x.cps.toList.length:=by simp[av.length]
theorem Im(x:av)(c:Nat):cY x ⟨#[c]⟩=(x.cps.toList.head?==ae c):=by
 obtain⟨⟨l⟩⟩:=x;unfold cY;cases l with
 |nil=>rfl
 |cons a l=>
  show(decide (0+1<=(a::l).length)&&fM ⟨⟨a::l⟩⟩ ⟨#[c]⟩ 0)=_;rw[decide_eq_true (by simp),cf];unfold fM;show((⟨a::l⟩:Array Nat).extract 0 (0+1)==#[c])=(ae a==ae c);rw[show(⟨a::l⟩:Array Nat).extract 0 (0+1)=#[a] by simp];simp
theorem A6(l:List Nat):∀(k a:Nat),a+k<=l.length->((cG k).map λi=>a+i).filterMap (l[·]?)=(l.drop a).take k
 |0,a,_=>by simp
 |k+1,a,h=>by rw[List.range_succ,bE,List.filterMap_append,A6 l k a (by omega),List.take_add_one];congr 1;show([a+k].filterMap (l[·]?))=_;rw[List.getElem?_drop,cT (show a+k<l.length by omega)];simp[cT (show a+k<l.length by omega)]
theorem A7(x:av)(l u:Option Int)(a k:Nat)(h:bd.Str.strSliceIndices l u 1 x.length=(cG k).map λi=>a+i)(b:a+k<=x.length):(bQ x l u).cps.toList=(x.cps.toList.drop a).take k:=by
 unfold bQ;rw[h];have c:=uR x;split
 ·rename_i e;have e:k=x.length:=by simpa using e
  rw[show a=0 by omega,fS,b0 (by omega)]
 ·show(List.filterMap (λi=>x.cps[i]?) _).toArray.toList=_;rw[List.toList_toArray,<-A6 _ k a (by omega)];congr 1;funext i;simp
theorem sr{a b:Nat}(h:a<=b):ft (a:Int) (b:Int) 1=(cG (b- a)).map λi=>a+i:=by
 unfold ft;have e:((if(1:Int)>0 then(if(a:Int)<b then((b:Int)- a+1- 1)/1 else 0) else(if(a:Int)>b then((a:Int)- b- 1- 1)/(-1) else 0)):Int).toNat=b- a:=by rw[if_pos (by decide)];split<;>simp<;>omega
 show(cG (Int.toNat _)).map _=_;rw[e];refine eL λi _=>?_;omega
theorem Qf{x:av}{n:Nat}(h:n<=x.length)(a:1<=n):(bQ x aq (ae (-(n:Int)))).cps.toList=x.cps.toList.take (x.length- n):=by rw[A7 x aq (ae (-(n:Int))) 0 (x.length- n) ?_ (by omega),fS];show ft 0 (max 0 (min (if-(n:Int)<0 then-(n:Int)+(x.length:Int) else-(n:Int)) (x.length:Int))) 1=_;rw[show max 0 (min (if-(n:Int)<0 then-(n:Int)+(x.length:Int) else-(n:Int)) (x.length:Int))=((x.length- n:Nat):Int) by rw[if_pos (by omega)];omega];exact sr (bx _)
theorem wt(x:av)(l u:Option Int)(a b:Nat)(h:bd.Str.strSliceIndices l u 1 x.length=ft (a:Int) (b:Int) 1)(c:a<=b)(hb:b<=x.length):(bQ x l u).cps.toList=(x.cps.toList.drop a).take (b- a):=
 A7 x l u a (b- a) (h.trans (sr c)) (by omega)
theorem sE{l:List Nat}(n:Nat):bQ (S l) aq (ae (n:Int))=S (l.take n):=by
 refine j9 ?_;rw[wt (S l) aq (ae (n:Int)) 0 (min n l.length) ?_ (bx _) (by rw[iL];omega),fS,mL,mL,Nat.sub_zero]
 ·by_cases h:n<=l.length
  ·rw[Nat.min_eq_left h]
  ·rw[Nat.min_eq_right (by omega),b0 (aY _),b0 (by omega)]
 ·rw[iL];show ft 0 (max 0 (min (if(n:Int)<0 then(n:Int)+(l.length:Int) else(n:Int)) (l.length:Int))) 1=_;rw[show max 0 (min (if(n:Int)<0 then(n:Int)+(l.length:Int) else(n:Int)) (l.length:Int))=((min n l.length:Nat):Int) by rw[if_neg (by omega)];omega];rfl
theorem pM{l:List Nat}(n:Nat):bQ (S l) (ae (n:Int)) aq=S (l.drop n):=by
 refine j9 ?_;rw[wt (S l) (ae (n:Int)) aq (min n l.length) l.length ?_ (by omega) (by rw[iL];omega),mL,mL,b0 (by rw[bt];omega)]
 ·by_cases h:n<=l.length
  ·rw[Nat.min_eq_left h]
  ·rw[Nat.min_eq_right (by omega),List.drop_of_length_le (aY _),List.drop_of_length_le (by omega)]
 ·rw[iL];show ft (max 0 (min (if(n:Int)<0 then(n:Int)+(l.length:Int) else(n:Int)) (l.length:Int))) (l.length:Int) 1=_;rw[show max 0 (min (if(n:Int)<0 then(n:Int)+(l.length:Int) else(n:Int)) (l.length:Int))=((min n l.length:Nat):Int) by rw[if_neg (by omega)];omega]
theorem A8{l:List Nat}(n:Nat)(a:1<=n):bQ (S l) (ae (-(n:Int))) aq=S (l.drop (l.length- n)):=by refine j9 ?_;rw[wt (S l) (ae (-(n:Int))) aq (l.length- n) l.length ?_ (by omega) (by rw[iL];omega),mL,mL,b0 (by rw[bt];omega)];rw[iL];show ft (max 0 (min (if-(n:Int)<0 then-(n:Int)+(l.length:Int) else-(n:Int)) (l.length:Int))) (l.length:Int) 1=_;rw[show max 0 (min (if-(n:Int)<0 then-(n:Int)+(l.length:Int) else-(n:Int)) (l.length:Int))=((l.length- n:Nat):Int) by rw[if_pos (by omega)];omega]
theorem A9{l:List Nat}(n:Nat)(a:1<=n)(h:n<=l.length):bQ (S l) aq (ae (-(n:Int)))=S (l.take (l.length- n)):=
 j9 (by rw[Qf (by rw[iL];exact h) a,mL,iL];rfl)
theorem Qg(x y:av):df x y=aj↔∃a,x.cps.toList=a++y.cps.toList:=by
 have b:=uR x;have c:=uR y;unfold df fM;rw[aD,decide_eq_true_eq,beq_iff_eq];constructor
 ·rintro⟨h,e⟩
  refine⟨x.cps.toList.take (x.length- y.length),?_⟩;have e:=congrArg Array.toList e;rw[Array.toList_extract,List.extract_eq_take_drop] at e;rw[b0 (by rw[bt];omega)] at e;rw[<-e,List.take_append_drop]
 ·rintro⟨a,e⟩
  have l:x.cps.toList.length=a.length+y.cps.toList.length:=by rw[e,ay]
  refine⟨by omega,?_⟩;apply Array.toList_inj.mp;rw[Array.toList_extract,List.extract_eq_take_drop,e,show x.length- y.length=a.length by omega,List.drop_left,b0 (by omega)]
noncomputable def ends(l s:List Nat):Bool:=bM s.length l.length&&jV (l.drop (l.length- s.length)) s
theorem wu{l s:List Nat}:ends l s=aj↔∃a,l=a++s:=by
 unfold ends;rw[aD,iR];constructor
 ·rintro⟨h,e⟩
  exact⟨l.take (l.length- s.length),by conv=>lhs;rw[<-List.take_append_drop (l.length- s.length) l,e]⟩
 ·rintro⟨a,rfl⟩
  refine⟨bP.mpr (by simp),?_⟩;rw[ay,Nat.add_sub_cancel,List.drop_left]
theorem T3(l:List Nat)(x:av):df (S l) x=ends l x.cps.toList:=by rw[bB,Qg,wu,mL]
noncomputable def CL(c:Nat):Bool:=bM 48 c&&bM c 57
noncomputable def iQ(l:List Nat):List Nat:=match l with
 |[]=>[]
 |a::r=>bif bH a 45 then r else a::r
noncomputable def HF(l:List Nat):Bool:=match l with
 |[]=>ao
 |a::_=>bH a 48
noncomputable def neg(l:List Nat):Bool:=match l with
 |[]=>ao
 |a::_=>bH a 45
noncomputable def Ba(l:List Nat):Int:=bif neg l then-(NumText.digitsVal (iQ l):Int) else(NumText.digitsVal (iQ l):Int)
noncomputable def ka(m:Nat)(l:List Nat):Bool:=bM 1 (iQ l).length&&bM (iQ l).length m&&(iQ l).all CL&&!(HF (iQ l)&&!jV l [48])
noncomputable def CM(l:List Nat):Option Int:=bif ka 60 l then ae (Ba l) else aq
noncomputable def Bb:Option Int->D
 |none=>.non
 |some n=>.int n
theorem zd{c:Nat}:CL c=aj↔48<=c/\c<=57:=by unfold CL;rw[aD,bP,bP]
theorem D0{l:List Nat}:l.all CL=aj↔NumText.AllDigits l:=by rw[bj];exact⟨λh c hc=>zd.mp (h c hc),λh c hc=>zd.mpr (h c hc)⟩
theorem CN{l:List Nat}(h:(iQ l).all CL=aj)(c:1<=(iQ l).length)(b:(iQ l).length<=600):PySem.intText? (S l)=ae (Ba l)/\(S l).length<=640:=by
 cases l with
 |nil=>cases c
 |cons a r=>
  unfold iQ at h c b;unfold Ba neg iQ;simp only at h c b ⊢;cases hb:bH a 45 with
  |true=>
   rw[hb] at h c b;have e:a=45:=dD hb;subst e;refine⟨?_,by rw[iL,aM];have:r.length<=600:=b;omega⟩;exact intText_neg (x:=S (45::r)) rfl (D0.mp h) (λz=>by rw[z] at c;cases c) (by rw[iL,aM];have:r.length<=600:=b;omega)
  |false=>
   rw[hb] at h c b;refine⟨?_,by rw[iL];have:(a::r).length<=600:=b;omega⟩;exact intText_digits (x:=S (a::r)) (D0.mp h) (by simp[S]) (by rw[iL];have:(a::r).length<=600:=b;omega)
end ll
namespace FJ
open PySem PySem.Spec PyProof.Rows.KTD L2 L3
abbrev Pt:=av×List Rw
noncomputable def Rw.CO:Rw->Bool
 |.mark _ _=>aj
 |_=>ao
noncomputable def Io(rs:List Rw):Nat:=(rs.filter Rw.CO).length
noncomputable def Qh(rs:List Rw):Nat:=rs.length- Io rs
structure Xw(p:Pt):Prop where
 w:nY p.1=aj
 lo:1<=Qh p.2
 hi:Qh p.2<=60
 len:p.2.length<=1000
structure Xx(ps:List Pt):Prop where
 lo:1<=ps.length
 hi:ps.length<=12
 all:∀p∈ps,Xw p
 nd:(ps.map Prod.fst).Nodup
 rows:(ps.map λp=>(Qh p.2:Int)).sum<=200
 marks:(ps.map λp=>(Io p.2:Int)).sum<=200
theorem uS{β a:Type}{f:β->a}{l:List β}{j:Nat}{y:a}(h:(l.map f)[j]?=ae y):∃x,l[j]?=ae x/\y=f x:=by
 rw[bD] at h;cases e:l[j]? with
 |none=>rw[e] at h;cases h
 |some x=>rw[e] at h;cases h;exact⟨x,rfl,rfl⟩
theorem Bc{l:List D}{j:Nat}{y:D}(h:(l.mapIdx λi d=>D.tup [.int i,d])[j]?=ae y):∃x,l[j]?=ae x/\y=.tup [.int j,x]:=by
 rw[fR] at h;cases e:l[j]? with
 |none=>rw[e] at h;cases h
 |some x=>rw[e] at h;cases h;exact⟨x,rfl,rfl⟩
noncomputable def CP:List Rw->Option Rw
 |[]=>aq
 |r::rs=>if r.CO then CP rs else ae r
structure KOk(K:W.Frag)(c:CA):Prop where
 io:∀k:Kn,Hb K (c.at k)
 mark:∀k,W.kitOne K (.ref (c.at k)) (.ref c.Mark)=ae (match k with|.Mark=>aj|_=>ao)
 code:∀k,W.kitOne K (.ref (c.at k)) (.ref c.Code)=ae (match k with|.Mark|.nZ|.Table=>ao|_=>aj)
 nums:∀k,W.kitOne K (.ref (c.at k)) (.ref c.nZ)=ae (match k with|.nZ=>aj|_=>ao)
 aag:∀k,W.kitOne K (.ref (c.at k)) (.ref c.Table)=ae (match k with|.Table=>aj|_=>ao)
 aah:W.kitOne K (.type "NoneType") (.ref c.Code)=ae ao
section
end
noncomputable def LC:Option Rw->Bool
 |some r=>r.code
 |none=>ao
noncomputable def Ip:List Rw->Bool
 |[]=>aj
 |r::rs=>(!r.Xn||LC (CP rs))&&(!r.CO||(CP rs).isSome)&&Ip rs
section
end
structure aai(ps:List Pt):Prop where
 pso:Xx ps
 rows:∀p∈ps,∀r∈p.2,r.ok=aj
 ends:∀p∈ps,Ip p.2=aj
theorem iS{β:Type}{fr:List (Option Nat)}{g:DG}{tt:DT}{c:DE}{st:Ms->Prop}{Q:List D->Ms->Prop}{a:j2}{M:Ms}(e f:β->D)(i:st M):∀(xs:List β) (acc:List D),acc.length+xs.length<=ax->
  (∀x∈xs,∀j:Option D->j2->Ms->Prop,(∀b,BD fr b=a->j (ae (f x)) b M)->xv g tt c (e x) a M j)->Q (acc++xs.map f) M->lC fr g tt c st Q (xs.map e) acc a M
 |[],acc,_,_,q=>by rw[c6,bf] at q;exact q
 |x::xs,acc,m,h,q=>by rw[aU];unfold lC;refine h x a8 _ λb e1=>⟨i,by simp at m;omega,?_⟩;rw[e1];refine iS e f i xs (acc++[f x]) (by simp at m ⊢;omega) (λy n=>h y (au _ n)) ?_;rw[bA];exact q
theorem qc{β:Type}{fr:List (Option Nat)}{g:DG}{tt:DT}{b:DE}{st:Ms->Prop}{Q:List D->Ms->Prop}{c:j2}{M:Ms}(e f:β->D)(p:β->Bool)(i:st M):∀(xs:List β) (acc:List D),acc.length+xs.length<=ax->
  (∀x∈xs,∀n:Option D->j2->Ms->Prop,(∀a,BD fr a=c->n (if p x=aj then ae (f x) else aq) a M)->xv g tt b (e x) c M n)->Q (acc++(xs.filter p).map f) M->lC fr g tt b st Q (xs.map e) acc c M
 |[],acc,_,_,q=>by rw[List.filter_nil,c6,bf] at q;exact q
 |x::xs,acc,j,h,q=>by
  rw[aU];unfold lC;refine h x a8 _ λa e1=>⟨i,?_⟩;rw[List.filter_cons] at q;cases o:p x with
  |false=>
   rw[o] at q;show lC fr g tt b st Q (xs.map e) acc (BD fr a) M;rw[e1];exact qc e f p i xs acc (by simp at j ⊢;omega) (λy m=>h y (au _ m)) q
  |true=>
   rw[o] at q;refine⟨by simp at j;omega,?_⟩;rw[e1];refine qc e f p i xs (acc++[f x]) (by simp at j ⊢;omega) (λy m=>h y (au _ m)) ?_;rw[bA];exact q
theorem lL{β:Type}{g:DG}{tb:DS}{st:Ms->Prop}{E:iV}(e:β->D)(Pv:List β->List β->j2->Ms->Prop)(j:∀a b c M,Pv a b c M->st M):∀(xs pre:List β) (c:j2) (M:Ms),Pv pre xs c M->
  (∀pre x xs c M,Pv pre (x::xs) c M->∀N:j2->Ms->Prop,(∀f i,Pv (pre++[x]) xs f i->N f i)->g (e x) c M λn M1=>tb {E with nx:=N,ct:=N,bk:=E.nx} n M1)->
  (∀pre c M,Pv pre [] c M->E.nx c M)->l8 g tb st E (xs.map e) c M
 |[],pre,c,M,p,_,z=>z pre c M p
 |x::xs,pre,c,M,p,h,z=>by rw[aU];unfold l8;exact h pre x xs c M p _ λf i m=>⟨j _ _ _ _ m,lL e Pv j xs _ f i m h z⟩
end FJ
namespace ll
open PySem PySem.Spec L2 L3 FJ
theorem Qi(l:List Nat):cY (S l) "-"=neg l:=by
 rw[show("-":av)=⟨#[45]⟩ by decide+kernel,Im,mL];cases l with
 |nil=>rfl
 |cons a r=>
  show(ae a==ae 45)=bH a 45;rw[bB,beq_iff_eq,bG.injEq];exact(Iff.of_eq Nat.beq_eq).symm
theorem Qj(l:List Nat):cY (S l) "0"=HF l:=by
 rw[show("0":av)=⟨#[48]⟩ by decide+kernel,Im,mL];cases l with
 |nil=>rfl
 |cons a r=>
  show(ae a==ae 48)=bH a 48;rw[bB,beq_iff_eq,bG.injEq];exact(Iff.of_eq Nat.beq_eq).symm
theorem Xy{c:Nat}{M:Ms}{Q:DK}(q:Q (.bl (bM 48 c)) M):nJ (.str "0") (.str ⟨#[c]⟩) M Q:=by show Q (.bl (!decide ([c]<[48]))) M;rw[show(!decide ([c]<[48]))=bM 48 c by rw[bB,bP];simp[ee]];exact q
theorem Xz{c:Nat}{M:Ms}{Q:DK}(q:Q (.bl (bM c 57)) M):nJ (.str ⟨#[c]⟩) (.str "9") M Q:=by show Q (.bl (!decide ([57]<[c]))) M;rw[show(!decide ([57]<[c]))=bM c 57 by rw[bB,bP];simp[ee]];exact q
theorem Fi{a b:Int}{M:Ms}{Q:DK}(q:Q (.bl (decide (a<=b))) M):nJ (.int a) (.int b) M Q:=q
theorem iJ{n:Nat}(h:n<=100000):n<=ax:=aQ h (by decide)
theorem jP{l:List Nat}(h:l.length<=100000):(S l).length<=ax:=by rw[iL];exact iJ h
def Fj:GP:=λds Q=>∃l:List Nat,l.length<=1000/\ds=[.str (S l)]/\Q (Bb (CM l))
theorem Fk:jS Fj:=λds P Q w ⟨n,h,e,q⟩=>⟨n,h,e,w _ q⟩
abbrev fE(Q:D->Prop):iV:=⟨λ_ _=>Q .non,λd a=>nl (fz a d)=aj/\Q (fz a d),λ_ _=>False,λ_ _=>False⟩
theorem Bd(l:List Nat):(iQ l).length<=l.length:=by
 cases l with
 |nil=>exact aY _
 |cons a r=>
  show(bif bH a 45 then r else a::r).length<=_;cases bH a 45<;>simp
theorem LD{l:List Nat}{M:Ms}{Q:D->Prop}(w:l.length<=1000)(q:Q (Bb (CM l))):
  (gC (ik (k9 (gz (jA nJ nJ (dC (.int 1)) (hZ jo (gg (gj 1) gq)) (dC (.int 60))))) (gL (dC .non)) gK)
  (gC (ik (k9 (gz (hZ tw (gg (gS (i9 [aq] (jc (gj 1)) (gQ 0) lg (jA nJ nJ (dC (.str "0")) (gj 0) (dC (.str "9"))))) gq)))) (gL (dC .non)) gK)
  (gC (ik (ny (gz (o7 "str" Fc (gj 1) (gg (dC (.str "0")) gq))) (gz (gD mS (gj 0) (dC (.str "0"))))) (gL (dC .non)) gK)
  (gL (hZ r6 (gg (gj 0) gq)))))) (fE Q) [ae (.str (S l)),ae (.str (S (iQ l)))] M:=by
 have hn:=Bd l;have r:(S (iQ l)).length<=ax:=jP (by omega);have e:=@Fi;have i:=@Xy;have j:=@Xz;have no:ka 60 l=ao->Q .non:=λh=>by unfold CM at q;rw[h] at q;exact q
 generalize nJ=ge at e i j ⊢;refine⟨_,show(if(S (iQ l)).length<=ax then _ else _)=_ from if_pos r,?_⟩;rw[iL];refine e ?_;by_cases f:1<=(iQ l).length;case neg=>
  rw[decide_eq_false (by omega)];refine⟨rfl,no ?_⟩;unfold ka;rw[show bM 1 (iQ l).length=ao by rw[d7];exactλz=>f (bP.mp z)];rfl
 rw[decide_eq_true (by omega)];refine e ?_;by_cases m:(iQ l).length<=60;case neg=>
  rw[decide_eq_false (by omega)];refine⟨rfl,no ?_⟩;unfold ka;rw[show bM (iQ l).length 60=ao by rw[d7];exactλz=>m (bP.mp z),cw];rfl
 rw[decide_eq_true (by omega)];refine⟨_,rfl,rfl,?_⟩;refine iS (λc:Nat=>D.str ⟨#[c]⟩) (λc=>.bl (CL c)) ?_ (iQ l) [] ?_ (λc hc y a=>?_) ?_
 ·exact rfl
 ·rw[bC,bJ];exact iJ (by omega)
 ·refine i ?_;unfold CL at a;cases ha:bM 48 c with
  |false=>rw[ha] at a;exact a _ rfl
  |true=>rw[ha,cf] at a;exact j (a _ rfl)
 ·refine⟨(iQ l).map CL,by show D.lst _=D.lst _;rw[bv,bF];rfl,?_⟩;rw[show((iQ l).map CL).all id=(iQ l).all CL by simp[dL]];cases g:(iQ l).all CL with
  |false=>
   refine⟨rfl,no ?_⟩;unfold ka;rw[g,cw];rfl
  |true=>
   obtain⟨hi,n⟩:=CN g f (by omega);refine⟨rfl,?_⟩;refine(show(if cY (S (iQ l)) "0"=aj then _ else _) from ?_);have u:bM 1 (iQ l).length=aj:=bP.mpr f;have v:bM (iQ l).length 60=aj:=bP.mpr m;have b:ka 60 l=!(HF (iQ l)&&!jV l [48]):=by unfold ka;rw[u,v,g];rfl
   rw[Qj];cases o:HF (iQ l) with
   |false=>
    rw[if_neg am];unfold CM at q;rw[b,o] at q;exact⟨_,n,hi,rfl,q⟩
   |true=>
    rw[if_pos rfl];refine(show(if(!(S l==("0":av)))=aj then _ else _) from ?_);rw[show(S l==("0":av))=jV l [48] from qW l "0"];rw[o,cf,Bool.not_not] at b;cases p:jV l [48] with
    |true=>
     rw[Bool.not_true,if_neg am];unfold CM at q;rw[b,p] at q;exact⟨_,n,hi,rfl,q⟩
    |false=>
     rw[Bool.not_false,if_pos rfl];exact⟨rfl,no (by rw[b,p])⟩
theorem wv{l:List Nat}(h:neg l=aj):iQ l=l.drop 1:=by
 cases l with
 |nil=>rfl
 |cons a r=>show(bif bH a 45 then r else a::r)=r;rw[show bH a 45=aj from h];rfl
theorem ww{l:List Nat}(h:neg l=ao):iQ l=l:=by
 cases l with
 |nil=>rfl
 |cons a r=>show(bif bH a 45 then r else a::r)=_;rw[show bH a 45=ao from h];rfl
theorem T4:∀ds Q,Fj ds Q->mO 2 1 qy ds Q:=by
 rintro ds Q ⟨l,a,h,q⟩
 subst h;refine⟨rfl,rfl,?_⟩;refine(show(if cY (S l) "-"=aj then _ else _) from ?_);rw[Qi];have key:=LD (M:=[]) a q;cases hb:neg l with
 |false=>
  rw[if_neg am];rw[ww hb] at key;exact key
 |true=>
  rw[if_pos rfl];refine⟨jP (by omega),?_⟩;rw[wv hb,<-pM 1] at key;exact key
end ll
namespace ll
open PySem PySem.Spec L2 L3 FJ PyProof.Rows.KTD
def Fl:GP:=λds Q=>(∃i:Int,ds=[.int i]/\Q (.bl aj))\/(ds=[.non]/\Q (.bl ao))
theorem Fm:jS Fl:=λds P Q w h=>h.elim (λ⟨i,e,q⟩=>.inl ⟨i,e,w _ q⟩) λ⟨e,q⟩=>.inr ⟨e,w _ q⟩
theorem T5(K:W.Frag):∀ds Q,Fl ds Q->mO 1 1 (vX K) ds Q:=by
 rintro ds Q (⟨i,h,q⟩|⟨h,q⟩)<;>subst h
 ·exact⟨rfl,_,rfl,_,rfl,rfl,q⟩
 ·exact⟨rfl,_,rfl,rfl,q⟩
def tP:GP:=λds Q=>∃l:List Nat,l.length<=1000/\ds=[.str (S l)]/\Q (.bl (nY (S l)))
theorem xO:jS tP:=λds P Q w ⟨n,h,e,q⟩=>⟨n,h,e,w _ q⟩
theorem XC{c:Nat}{M:Ms}{Q:DK}(q:Q (.bl (decide (97<=c))) M):nJ (.str "a") (.str ⟨#[c]⟩) M Q:=by show Q (.bl (!decide ([c]<[97]))) M;rw[show(!decide ([c]<[97]))=decide (97<=c) by rw[bB,decide_eq_true_eq];simp[ee]];exact q
theorem XG{c:Nat}{M:Ms}{Q:DK}(q:Q (.bl (decide (c<=122))) M):nJ (.str ⟨#[c]⟩) (.str "z") M Q:=by show Q (.bl (!decide ([122]<[c]))) M;rw[show(!decide ([122]<[c]))=decide (c<=122) by rw[bB,decide_eq_true_eq];simp[ee]];exact q
theorem T6(K:W.Frag):∀ds Q,tP ds Q->mO 1 1 (tJ K) ds Q:=by
 rintro ds Q ⟨l,m,h,q⟩
 subst h;have j:(S l).length<=ax:=jP (by omega);have b:=@Fi;have e:=@XC;have f:=@XG;unfold tJ;generalize nJ=ge at b e f ⊢;refine⟨rfl,_,rfl,_,show(if(S l).length<=ax then _ else _)=_ from if_pos j,?_⟩;rw[iL];refine b ?_;unfold nY at q;rw[iL] at q;by_cases g:1<=l.length;case neg=>
  rw[decide_eq_false (by omega)];rw[decide_eq_false g] at q;exact⟨rfl,q⟩
 rw[decide_eq_true (by omega)];refine b ?_;by_cases i:l.length<=8;case neg=>
  rw[decide_eq_false (by omega)];rw[decide_eq_false i,cw] at q;exact⟨rfl,q⟩
 rw[decide_eq_true (by omega)];rw[decide_eq_true g,decide_eq_true i] at q;refine⟨_,rfl,rfl,?_⟩;refine iS (λc:Nat=>D.str ⟨#[c]⟩) (λc=>.bl (decide (97<=c)&&decide (c<=122))) ?_ l [] ?_ (λc hc n a=>?_) ?_
 ·exact rfl
 ·rw[bC,bJ];exact iJ (by omega)
 ·refine e ?_;cases ha:decide (97<=c) with
  |false=>rw[ha] at a;exact a _ rfl
  |true=>rw[ha,cf] at a;exact f (a _ rfl)
 ·refine⟨l.map λc=>decide (97<=c)&&decide (c<=122),by show D.lst _=D.lst _;rw[bv,bF];rfl,?_⟩;rw[show(l.map λc=>decide (97<=c)&&decide (c<=122)).all id=low (S l) by unfold low;simp[dL,mL]];exact⟨rfl,q⟩
inductive It where
 |w (l:List Nat)|i (n:Option Int)|t (b:Bool)|ns (l:List (Option Int))|ws (l:List (List Nat))
abbrev sD(l:List Nat):D:=.str (S l)
noncomputable def It.d:It->D
 |.w l=>sD l|.i n=>Bb n|.t b=>.bl b|.ns l=>.lst (l.map Bb)|.ws l=>.lst (l.map sD)
inductive Fo where
 |word|box|number|truth|numbers|words
noncomputable def Fo.s:Fo->av
 |.word=>"word"|.box=>"box"|.number=>"number"|.truth=>"truth"|.numbers=>"numbers"|.words=>"words"
noncomputable def XH(p:Int->Bool):Option Int->Bool
 |none=>ao
 |some n=>p n
noncomputable def CQ:Fo->It->Bool
 |.word,.w l=>nY (S l)
 |.box,.i n=>XH DU n
 |.number,.i n=>XH okN n
 |.truth,.t _=>aj
 |.numbers,.ns l=>decide (1<=l.length)&&decide (l.length<=60)&&l.all (XH okN)
 |.words,.ws l=>decide (1<=l.length)&&decide (l.length<=60)&&l.all λx=>nY (S x)
 |_,_=>ao
inductive LF:Fo->It->Prop
 |w {l:List Nat}:l.length<=1000->LF .word (.w l)
 |b {n:Option Int}:LF .box (.i n)
 |n {n:Option Int}:LF .number (.i n)
 |t {b:Bool}:LF .truth (.t b)
 |ti {n:Option Int}:LF .truth (.i n)
inductive Ty:Fo->It->Prop
 |a {f:Fo} {x:It}:LF f x->Ty f x
 |ns {l:List (Option Int)}:l.length<=1000->Ty .numbers (.ns l)
 |ws {l:List (List Nat)}:l.length<=1000->(∀x∈l,x.length<=1000)->Ty .words (.ws l)
theorem Iq(n:Option Int):nl (Bb n)=aj:=by cases n<;>rfl
theorem It.nl(x:It):nl x.d=aj:=by cases x<;>first|rfl|exact Iq _|exact kN (λ_=>rfl) _|exact kN Iq _
theorem D3{f:Fo}{x:It}:ql [.str f.s,x.d]=aj:=by show(aj&&(L3.nl x.d&&aj))=aj;rw[x.nl];rfl
def rX:GP:=λds Q=>∃f x,LF f x/\ds=[.str f.s,x.d]/\Q (.bl (CQ f x))
theorem ze:jS rX:=λds P Q w ⟨f,x,h,e,q⟩=>⟨f,x,h,e,w _ q⟩
def HL:GP:=λds Q=>∃(f:Fo) (xs:List It),xs.length<=1000/\(∀x∈xs,LF f x)/\ds=[.str f.s,.lst (xs.map It.d)]/\Q (.bl (decide (1<=xs.length)&&decide (xs.length<=60)&&xs.all (CQ f)))
theorem Fn:jS HL:=λds P Q w ⟨f,x,h,t,e,q⟩=>⟨f,x,h,t,e,w _ q⟩
def qP:GP:=λds Q=>∃f x,Ty f x/\ds=[.str f.s,x.d]/\Q (.bl (CQ f x))
theorem Be:jS qP:=λds P Q w ⟨f,x,h,e,q⟩=>⟨f,x,h,e,w _ q⟩
theorem Ir{K:W.Frag}{g:GN}{f:Fo}{x:It}{Q:D->Prop}(h:LF f x)(q:Q (.bl (CQ f x))):mO 2 2 (vY K (cl tP) (cl Fl) g) [.str f.s,x.d] Q:=by
 have c:=@Fi;unfold vY;generalize nJ=ge at c ⊢;have two:∀(a b i:Int),(decide (a<=i)&&decide (i<=b))=(if decide (a<=i)=aj then decide (i<=b) else ao):=λa b i=>by cases decide (a<=i)<;>rfl
 cases h with
 |w h=>exact⟨rfl,rfl,_,h,rfl,rfl,q⟩
 |@b n=>
  cases n with
  |none=>exact⟨rfl,rfl,.inr ⟨rfl,rfl,q⟩⟩
  |some n=>
   refine⟨rfl,rfl,.inl ⟨n,rfl,?_⟩⟩;refine c ?_;have q:Q (.bl (decide (0<=n)&&decide (n<=3))):=q;cases e:decide (0<=n) with
   |false=>rw[e] at q;exact⟨rfl,q⟩
   |true=>rw[e,cf] at q;exact c ⟨rfl,q⟩
 |@n n=>
  cases n with
  |none=>exact⟨rfl,rfl,.inr ⟨rfl,rfl,q⟩⟩
  |some n=>
   refine⟨rfl,rfl,.inl ⟨n,rfl,?_⟩⟩;refine c ?_;have q:Q (.bl (decide (-2147483648<=n)&&decide (n<=2147483647))):=q;cases e:decide (-2147483648<=n) with
   |false=>rw[e] at q;exact⟨rfl,q⟩
   |true=>rw[e,cf] at q;exact c ⟨rfl,q⟩
 |t=>exact⟨rfl,_,rfl,rfl,q⟩
 |@ti n=>cases n<;>exact⟨rfl,_,rfl,rfl,q⟩
theorem Iu(K:W.Frag)(g:GN):∀ds Q,rX ds Q->mO 2 2 (vY K (cl tP) (cl Fl) g) ds Q:=by
 rintro ds Q ⟨f,d,h,e,q⟩
 subst e;exact Ir h q
theorem T7(K:W.Frag):∀ds Q,HL ds Q->mO 2 2 (nW K (cl rX)) ds Q:=by
 rintro ds Q ⟨f,xs,j,g,e,q⟩
 subst e;have a:=@Fi;unfold nW;generalize nJ=ge at a ⊢;refine⟨rfl,_,rfl,_,rfl,?_⟩;rw[ap];refine a ?_;by_cases b:1<=xs.length;case neg=>
  rw[decide_eq_false (by omega)];rw[decide_eq_false b] at q;exact⟨rfl,q⟩
 rw[decide_eq_true (by omega)];refine a ?_;by_cases c:xs.length<=60;case neg=>
  rw[decide_eq_false (by omega)];rw[decide_eq_false c,cw] at q;exact⟨rfl,q⟩
 rw[decide_eq_true (by omega)];rw[decide_eq_true b,decide_eq_true c] at q;refine⟨_,rfl,rfl,?_⟩;refine iS It.d (λx=>.bl (CQ f x)) ?_ xs [] ?_ (λy h m i=>?_) ?_
 ·exact rfl
 ·rw[bC,bJ];exact iJ (by omega)
 ·exact⟨D3,f,y,g y h,rfl,i _ rfl⟩
 ·refine⟨xs.map (CQ f),by show D.lst _=D.lst _;rw[bv,bF];rfl,?_⟩;rw[show(xs.map (CQ f)).all id=xs.all (CQ f) by simp[dL]];exact⟨rfl,q⟩
theorem LG(K:W.Frag):∀ds Q,qP ds Q->mO 2 2 (vY K (cl tP) (cl Fl) (cl HL)) ds Q:=by
 rintro ds Q ⟨f,d,h,e,q⟩
 subst e;cases h with
 |a h=>exact Ir h q
 |@ns l b=>
  refine⟨rfl,D3 (f:=.number) (x:=.ns l),.number,l.map .i,by rw[ap];exact b,λx c=>?_,?_,rfl,?_⟩
  ·obtain⟨n,_,rfl⟩:=cj.mp c;exact .n
  ·show[D.str _,D.lst (l.map Bb)]=_;rw[bF];rfl
  ·show Q (.bl _);rw[ap,dL];exact q
 |@ws l b g=>
  refine⟨rfl,D3 (f:=.word) (x:=.ws l),.word,l.map .w,by rw[ap];exact b,λx c=>?_,?_,rfl,?_⟩
  ·obtain⟨n,hn,rfl⟩:=cj.mp c;exact .w (g n hn)
  ·show[D.str _,D.lst (l.map sD)]=_;rw[bF];rfl
  ·show Q (.bl _);rw[ap,dL];exact q
end ll
namespace ll
open PySem PySem.Spec L2 L3 FJ PyProof.Rows.KTD
noncomputable def BF{β:Type}(k:List Nat):List (List Nat×β)->Option β
 |[]=>aq
 |r::rs=>bif jV k r.1 then ae r.2 else BF k rs
noncomputable def Iv:List (List Nat×List Fo):=[([109,97,114,107],[.word,.truth]),([115,101,116],[.box,.number]),([97,100,100],[.box,.box]),([116,97,107,101],[.box,.box]),([115,97,121],[.box]),([97,115,107],[.box]),([106,117,109,112],[.word]),([106,117,109,112,105,102],[.box,.word]),([99,97,108,108],[.word]),([98,97,99,107],[]),([115,116,111,112],[]),([108,111,97,100],[.box,.box,.word]),([106,117,109,112,98,121],[.box,.word]),([97,108,105,107,101],[.box,.word,.word]),([110,117,109,98,101,114,115],[.numbers]),([116,97,98,108,101],[.words])]
noncomputable def kI(k:List Nat):Option (List Fo):=BF k Iv
noncomputable def T8(fs:List Fo):D:=fm (fs.map Fo.s)
theorem xP(k:List Nat):∀rs:List (List Nat×List Fo),eD (S k) (rs.map λr=>(S r.1,T8 r.2))=(BF k rs).map T8
 |[]=>rfl
 |r::rs=>by rw[aU];unfold eD BF;rw[xP k rs,show decide (S k=S r.1)=jV k r.1 by rw[bB,decide_eq_true_eq,iR];exact⟨Nu,λh=>by rw[h]⟩];cases jV k r.1<;>rfl
theorem Iw:rY=Iv.map λr=>(S r.1,T8 r.2):=by rfl
theorem qX(k:List Nat):eD (S k) rY=(kI k).map T8:=by rw[Iw];exact xP k _
theorem LH(k:List Nat):aan (S k) rY=(kI k).isSome:=by rw[<-aaI,qX];cases kI k<;>rfl
abbrev Raw:=List Nat×List It
noncomputable def Raw.d(r:Raw):D:=.tup (sD r.1::r.2.map It.d)
noncomputable def uq(r:Raw):Bool:=match kI r.1 with
 |none=>ao
 |some fs=>(fs.zip r.2).all λp=>CQ p.1 p.2
structure D4(r:Raw):Prop where
 n:r.2.length<=100
 k:r.1.length<=1000
 t:∀fs,kI r.1=ae fs->r.2.length=fs.length/\∀p∈fs.zip r.2,Ty p.1 p.2
theorem Raw.nl(r:Raw):nl r.d=aj:=by show(aj&&ql (r.2.map It.d))=aj;rw[kN It.nl];rfl
def D5:GP:=λds Q=>(ds=[.non]/\Q (.bl ao))\/∃r:Raw,D4 r/\ds=[r.d]/\Q (.bl (uq r))
theorem CS:jS D5:=λds P Q w h=>h.elim (λ⟨e,q⟩=>.inl ⟨e,w _ q⟩) λ⟨r,a,b,q⟩=>.inr ⟨r,a,b,w _ q⟩
theorem pf{f:Fo}{x:It}{M:Ms}{Q:DK}(h:Ty f x)(q:Q (.bl (CQ f x)) M):cl qP [.str f.s,x.d] M Q:=⟨D3,f,x,h,rfl,q⟩
theorem XI{d:D}{t:List D}{M:Ms}{Q:DK}(q:Q d M):jk (.tup (d::t)) (.int 0) M Q:=⟨d,jG (k:=0) rfl,q⟩
theorem Fp{β:Type}{xs:List β}{d:β}:cutD (d::xs) (ae 1) aq=xs:=by
 unfold cutD;have e:HT.kK (d::xs).length 0 (ae 1)=1:=by rw[show(ae (1:Int))=ae ((1:Nat):Int) from rfl,HT.uG,aM];omega
 rw[e,HT.u8,List.drop_succ_cons,fS,b0 (by rw[aM];omega)]
theorem Nw:∀(fs:List Fo) (xs:List It),bS (λa b=>D.tup [a,b]) ((fs.map Fo.s).map D.str) (xs.map It.d)=(fs.zip xs).map λp=>D.tup [.str p.1.s,p.2.d]
 |[],_=>rfl
 |f::fs,[]=>rfl
 |f::fs,x::xs=>by show D.tup _::_=D.tup _::_;rw[Nw fs xs];rfl
theorem Qk(K:W.Frag)(c:ai):∀ds Q,D5 ds Q->mO 2 1 (vZ K c rY (cl qP)) ds Q:=by
 rintro ds Q (⟨e,q⟩|⟨r,h,e,q⟩)
 ·subst e;exact⟨rfl,_,rfl,rfl,q⟩
 ·subst e;obtain⟨k,xs⟩:=r;obtain⟨hn,n,b⟩:=h;have hn:xs.length<=100:=hn;have pf:=@pf;have x0:=@XI;have lk:=qX k;have i:=LH k;unfold vZ;generalize cl qP=g at pf ⊢;generalize jk=o at x0 ⊢;refine⟨rfl,_,rfl,_,rfl,?_⟩;refine x0 ⟨_,rfl,x0 ⟨rfl,?_⟩⟩;refine(show(if(!aan (S k) rY)=aj then _ else _) from ?_);rw[i];cases a:kI k with
  |none=>
   have:uq (k,xs)=ao:=by unfold uq;simp only [a]
   rw[this] at q;exact⟨rfl,q⟩
  |some fs=>
   obtain⟨f,b⟩:=b fs a;have f:xs.length=fs.length:=f;rw[a] at lk;rw[show(!(ae fs).isSome)=ao from rfl,if_neg am];refine x0 ⟨rfl,_,lk,?_⟩;refine⟨_,rfl,_,rfl,?_⟩;refine(show(if(!((((sD k::xs.map It.d).length:Nat):Int)==1+((((fs.map Fo.s).map D.str).length:Nat):Int)))=aj then _ else _) from ?_);rw[show((((sD k::xs.map It.d).length:Nat):Int)==1+((((fs.map Fo.s).map D.str).length:Nat):Int))=aj by rw[beq_iff_eq,aM,ap,ap,ap];omega,Bool.not_true,if_neg am];refine⟨λh=>?_,_,_,rfl,rfl,⟨rfl,rfl⟩,?_⟩
   ·have h:=h.1;rw[show(ae (1:Int))=ae ((1:Nat):Int) from rfl,HT.uG,aM] at h;omega
   rw[Fp,Nw];have eq:uq (k,xs)=(fs.zip xs).all λp=>CQ p.1 p.2:=by unfold uq;simp only [a]
   refine iS (λp:Fo×It=>D.tup [.str p.1.s,p.2.d]) (λp=>.bl (CQ p.1 p.2)) ?_ (fs.zip xs) [] ?_ (λp j u m=>?_) ?_
   ·exact⟨rfl,rfl⟩
   ·rw[bC,bJ,dj];exact iJ (by omega)
   ·exact⟨rfl,rfl,pf (b p j) (m _ rfl)⟩
   ·refine⟨(fs.zip xs).map λp=>CQ p.1 p.2,by show D.lst _=D.lst _;rw[bv,bF];rfl,?_⟩;rw[show((fs.zip xs).map λp=>CQ p.1 p.2).all id=(fs.zip xs).all λp=>CQ p.1 p.2 by simp[dL],<-eq];exact⟨rfl,q⟩
end ll
namespace ll
open PySem PySem.Spec L2 L3 FJ PyProof.Rows.KTD
noncomputable def xQ:List Nat:=[109,97,114,107]
noncomputable def jD:List Nat:=[110,117,109,98,101,114,115]
noncomputable def jX:List Nat:=[116,97,98,108,101]
noncomputable def D6:List Nat:=[112,97,114,116]
noncomputable def zD(f:Fo)(w:List Nat):It:=match f with
 |.word=>.w w
 |_=>.i (CM w)
noncomputable def Fq(k:List Nat)(told:List (List Nat)):Option Raw:=
 bif jV k jD then ae (k,[.ns (told.map CM)])
 else bif jV k jX then ae (k,[.ws told])
 else bif bH told.length ((kI k).getD []).length then ae (k,bS zD ((kI k).getD []) told) else aq
noncomputable def Rs(l:List Nat):Option Raw:=
 bif ends l [58,58] then ae (xQ,[.w (l.take (l.length- 2)),.t aj])
 else bif ends l [58] then ae (xQ,[.w (l.take (l.length- 1)),.t ao])
 else match kL 32 l with
 |[]=>aq
 |k::told=>Fq k told
noncomputable def rD:Option Raw->D
 |none=>.non
 |some r=>r.d
theorem T9(o:Option Raw):nl (rD o)=aj:=by cases o with|none=>rfl|some r=>exact r.nl
def Zl (g:GN):DS:=(gC (ik (gz (gD lN (gj 2) (dC (.str "numbers")))) (gL (i3 (gg (gj 2) (gg (gS (i9 [aq] (jc (gj 3)) (gQ 0) lg (hZ g (gg (gj 0) gq)))) gq)))) gK)
 (gC (ik (gz (gD lN (gj 2) (dC (.str "table")))) (gL (i3 (gg (gj 2) (gg (gj 3) gq)))) gK)
 (gC (ip 4 (yH rY (gg (gj 2) (gg (i3 gq) gq))))
 (gC (ik (gz (gD mS (hZ jo (gg (gj 3) gq)) (hZ jo (gg (gj 4) gq)))) (gL (dC .non)) gK)
 (gL (gD gJ (i3 (gg (gj 2) gq)) (hZ tD (gg (gS (i9 [aq,aq] (vI (gg (gj 4) (gg (gj 3) gq))) (nz 2 (jf (gQ 0) (jf (gQ 1) py))) lg (Rc (gz (gD lN (gj 0) (dC (.str "word")))) (gj 1) (hZ g (gg (gj 1) gq))))) gq))))))))
theorem Ny:∀(fs:List Fo) (xs:List (List Nat)),bS (λa b=>D.tup [a,b]) ((fs.map Fo.s).map D.str) (xs.map sD)=(fs.zip xs).map λp=>D.tup [.str p.1.s,sD p.2]
 |[],_=>rfl
 |f::fs,[]=>rfl
 |f::fs,x::xs=>by show D.tup _::_=D.tup _::_;rw[Ny fs xs];rfl
theorem Nz:∀(fs:List Fo) (xs:List (List Nat)),(fs.zip xs).map (λp=>(zD p.1 p.2).d)=(bS zD fs xs).map It.d
 |[],_=>rfl
 |f::fs,[]=>rfl
 |f::fs,x::xs=>by exact congrArg (It.d (zD f x)::·) (Nz fs xs)
theorem wx:∀{k:List Nat} {fs:List Fo},kI k=ae fs->fs.length<=3/\(jV k jD=ao->jV k jX=ao->∀f∈fs,f≠.numbers/\f≠.words):=by
 have gen:∀(k:List Nat) (rs:List (List Nat×List Fo)) (fs:List Fo),BF k rs=ae fs->(k,fs)∈rs:=by
  intro k rs;induction rs with
  |nil=>intro fs h;cases h
  |cons r rs a=>
   intro fs h;unfold BF at h;cases e:jV k r.1 with
   |true=>
    rw[e] at h;cases h;rw[iR.mp e];exact a8
   |false=>rw[e] at h;exact au _ (a fs h)
 intro k fs h;have m:=gen k _ fs h;unfold Iv at m;simp only [aE,Prod.mk.injEq,bU,or_false] at m;rcases m with⟨rfl,rfl⟩|⟨rfl,rfl⟩|⟨rfl,rfl⟩|⟨rfl,rfl⟩|⟨rfl,rfl⟩|⟨rfl,rfl⟩|⟨rfl,rfl⟩|⟨rfl,rfl⟩|⟨rfl,rfl⟩|⟨rfl,rfl⟩|⟨rfl,rfl⟩|⟨rfl,rfl⟩|⟨rfl,rfl⟩|⟨rfl,rfl⟩|⟨rfl,rfl⟩|⟨rfl,rfl⟩;all_goals refine⟨by decide,λb c=>?_⟩
 all_goals first|(cases b;done)|(cases c;done)|simp
theorem Ql{f:Fo}{w:List Nat}(h:f≠.numbers/\f≠.words)(hw:w.length<=1000):Ty f (zD f w):=by
 cases f
 ·exact .a (.w hw)
 ·exact .a .b
 ·exact .a .n
 ·exact .a .ti
 ·exact absurd rfl h.1
 ·exact absurd rfl h.2
theorem D7:∀{fs:List Fo} {ws:List (List Nat)},(∀f∈fs,f≠.numbers/\f≠.words)->(∀w∈ws,w.length<=1000)->∀p∈fs.zip (bS zD fs ws),Ty p.1 p.2
 |[],_,_,_,p,a=>by cases a
 |f::fs,[],_,_,p,a=>by cases a
 |f::fs,w::ws,b,c,p,a=>by
  rcases aE.mp (show p∈(f,zD f w)::fs.zip (bS zD fs ws) from a) with rfl|a
  ·exact Ql (b f (by simp)) (c w (by simp))
  ·exact D7 (λf e=>b f (au _ e)) (λw hw=>c w (au _ hw)) p a
theorem LI{k:List Nat}{told:List (List Nat)}(f:k.length<=1000)(hn:told.length<=1000)(hw:∀w∈told,w.length<=1000){r:Raw}(h:Fq k told=ae r):D4 r:=by
 unfold Fq at h;cases b:jV k jD with
 |true=>
  rw[b] at h;cases h;refine⟨by show 1<=100;decide,f,λfs a=>?_⟩;rw[show(k,[It.ns (told.map CM)]).1=jD from iR.mp b] at a;cases a;refine⟨rfl,λp g=>?_⟩;rw[aZ.mp (show p∈[(Fo.numbers,It.ns (told.map CM))] from g)];exact .ns (by rw[ap];exact hn)
 |false=>
  rw[b] at h;cases c:jV k jX with
  |true=>
   rw[c] at h;cases h;refine⟨by show 1<=100;decide,f,λfs a=>?_⟩;rw[show(k,[It.ws told]).1=jX from iR.mp c] at a;cases a;refine⟨rfl,λp g=>?_⟩;rw[aZ.mp (show p∈[(Fo.words,It.ws told)] from g)];exact .ws hn hw
  |false=>
   rw[c] at h;cases i:bH told.length ((kI k).getD []).length with
   |false=>rw[i] at h;cases h
   |true=>
    rw[i] at h;cases h;have e:told.length=((kI k).getD []).length:=dD i;refine⟨?_,f,λfs a=>?_⟩
    ·show(bS zD ((kI k).getD []) told).length<=100;rw[dN];cases j:kI k with
     |none=>show min 0 _<=100;omega
     |some fs=>have:=(wx j).1;show min fs.length _<=100;omega
    ·have a:kI k=ae fs:=a;rw[a] at e ⊢;have e:told.length=fs.length:=e;refine⟨by show(bS zD fs told).length=_;rw[dN];omega,D7 ((wx a).2 b c) hw⟩
theorem Qm{l:List Nat}(n:l.length<=900){r:Raw}(h:Rs l=ae r):D4 r:=by
 have mk:∀(x:List Nat) (b:Bool),x.length<=1000->D4 (xQ,[.w x,.t b]):=λx b o=>by
  refine⟨by show 2<=100;decide,by show 4<=1000;decide,λfs g=>?_⟩;have g:kI xQ=ae fs:=g;cases g;refine⟨rfl,λp e=>?_⟩;rcases aE.mp (show p∈[(Fo.word,It.w x),(Fo.truth,It.t b)] from e) with rfl|e
  ·exact .a (.w o)
  ·rw[aZ.mp e];exact .a .t
 unfold Rs at h;cases i:ends l [58,58] with
 |true=>rw[i] at h;cases h;exact mk _ _ (by rw[bi];omega)
 |false=>
  rw[i] at h;cases j:ends l [58] with
  |true=>rw[j] at h;cases h;exact mk _ _ (by rw[bi];omega)
  |false=>
   rw[j] at h;cases f:kL 32 l with
   |nil=>rw[f] at h;cases h
   |cons k told=>
    rw[f] at h;have h:Fq k told=ae r:=h;have m:∀p∈k::told,p.length<=900:=λp e=>aQ (p9 (c:=32) (by rw[f];exact e)) n;have hm:=sC 32 l;rw[f,aM] at hm;exact LI (aQ (m k (by simp)) (by decide)) (by omega) (λw hw=>aQ (m w (au _ hw)) (by decide)) h
def D8:GP:=λds Q=>∃l:List Nat,l.length<=900/\ds=[.str (S l)]/\Q (rD (Rs l))
theorem CT:jS D8:=λds P Q w ⟨n,h,e,q⟩=>⟨n,h,e,w _ q⟩
theorem pn{l:List Nat}{M:Ms}{Q:DK}(h:l.length<=1000)(q:Q (Bb (CM l)) M):cl Fj [sD l] M Q:=⟨rfl,l,h,rfl,q⟩
theorem NA(x:It):vw [] x.d=x.d:=by cases x<;>first|rfl|(rename_i n;cases n<;>rfl)
theorem LJ{g:GN}(pn:∀{l:List Nat} {M:Ms} {Q:DK},l.length<=1000->Q (Bb (CM l)) M->g [sD l] M Q){k:List Nat}{told:List (List Nat)}(hn:told.length<=1000)(hw:∀w∈told,w.length<=1000){n o:Option D}{Q:D->Prop}(q:Q (rD (Fq k told))):
  Zl g (fE Q) [n,o,ae (sD k),ae (.lst (told.map sD)),aq] []:=by
 have L:∀{a b:Nat},bM a b=aj->a<=b:=a9;unfold Fq at q;refine(show(if(S k==("numbers":av))=aj then _ else _) from ?_);rw[show(S k==("numbers":av))=jV k jD from qW k "numbers"];cases j:jV k jD with
 |true=>
  rw[j] at q;rw[if_pos rfl];refine⟨_,rfl,rfl,?_⟩;refine iS sD (λw=>Bb (CM w)) ?_ told [] ?_ (λw r u c=>?_) ?_
  ·exact rfl
  ·rw[bC,bJ];exact iJ (by omega)
  ·exact pn (hw w r) (c _ rfl)
  ·refine⟨L rfl,?_,?_⟩
   ·show(aj&&(ql ([]++told.map λw=>Bb (CM w))&&aj))=aj;rw[bv,kN λ_=>Iq _];rfl
   ·show Q (.tup [sD k,.lst ([]++told.map λw=>Bb (CM w))]);have q:Q (.tup [sD k,.lst ((told.map CM).map Bb)]):=q;rw[bF] at q;exact q
 |false=>
  rw[j] at q;rw[if_neg am];refine(show(if(S k==("table":av))=aj then _ else _) from ?_);rw[show(S k==("table":av))=jV k jX from qW k "table"];cases m:jV k jX with
  |true=>
   rw[m] at q;rw[if_pos rfl];refine⟨L rfl,?_,q⟩;show(aj&&(ql (told.map sD)&&aj))=aj;rw[kN λ_=>rfl];rfl
  |false=>
   rw[m] at q;rw[if_neg am];refine⟨bx _,_,_,rfl,?_⟩;rw[show(eD (S k) rY).getD (.tup [])=T8 ((kI k).getD []) by rw[qX];cases kI k<;>rfl];have few:((kI k).getD []).length<=3:=by
    cases h:kI k with
    |none=>show 0<=3;decide
    |some fs=>exact(wx h).1
   generalize (kI k).getD []=fs at few q ⊢;refine⟨_,rfl,_,rfl,?_⟩;refine(show(if(!((((told.map sD).length:Nat):Int)==((((fs.map Fo.s).map D.str).length:Nat):Int)))=aj then _ else _) from ?_);rw[ap,ap,ap,show(((told.length:Nat):Int)==((fs.length:Nat):Int))=bH told.length fs.length by rw[bB,beq_iff_eq,Nat.beq_eq];omega];cases i:bH told.length fs.length with
   |false=>rw[i] at q;rw[Bool.not_false,if_pos rfl];exact⟨rfl,q⟩
   |true=>
    rw[i] at q;rw[Bool.not_true,if_neg am];have e:=dD i;refine⟨L rfl,_,_,rfl,rfl,⟨rfl,rfl⟩,?_⟩;rw[Ny];refine iS (λp:Fo×List Nat=>D.tup [.str p.1.s,sD p.2]) (λp=>(zD p.1 p.2).d) ?_ (fs.zip told) [] ?_ (λp v u c=>?_) ?_
    ·exact⟨rfl,rfl⟩
    ·rw[bC,bJ,dj];exact iJ (by omega)
    ·obtain⟨f,w⟩:=p;have hw:=hw w (eJ v).2;cases f
     ·exact⟨rfl,rfl,c _ rfl⟩
     all_goals exact⟨rfl,rfl,pn hw (c _ rfl)⟩
    ·rw[bv,Nz];have y:fz [] (.tup ([sD k]++(bS zD fs told).map It.d))=(Raw.d (k,bS zD fs told)):=by show D.tup ((sD k::(bS zD fs told).map It.d).map (vw []))=D.tup (sD k::(bS zD fs told).map It.d);rw[aU,bF,show vw []∘It.d=It.d from funext NA];rfl
     refine⟨List.cons_ne_nil _ _,?_,?_⟩
     ·show 1+((bS zD fs told).map It.d).length<=ax;rw[ap,dN];exact iJ (by omega)
     ·show nl (fz [] (.tup ([sD k]++(bS zD fs told).map It.d)))=aj/\Q (fz [] (.tup ([sD k]++(bS zD fs told).map It.d)));rw[y];exact⟨Raw.nl _,q⟩
theorem Qn{c:ai}:∀ds Q,D8 ds Q->mO 5 1 (wg (cl Fj) c rY) ds Q:=by
 rintro ds Q ⟨l,j,e,q⟩
 subst e;have f:(S l).length<=ax:=jP (by omega);have pn:=@pn;unfold wg;generalize cl Fj=g at pn ⊢;refine⟨rfl,rfl,?_⟩;unfold Rs at q;refine(show(if df (S l) "::"=aj then _ else _) from ?_);rw[show df (S l) "::"=ends l [58,58] from T3 l "::"];cases i:ends l [58,58] with
 |true=>
  rw[i] at q;obtain⟨a,e⟩:=wu.mp i;have b:2<=l.length:=by rw[e,ay];show 2<=a.length+2;omega
  rw[if_pos rfl];refine⟨f,a9 rfl,rfl,?_⟩;show Q (.tup [.str "mark",.str (bQ (S l) aq (ae (-((2:Nat):Int)))),.bl aj]);rw[A9 2 (by decide) b];exact q
 |false=>
  rw[i] at q;rw[if_neg am];refine⟨rfl,?_⟩;refine(show(if df (S l) ":"=aj then _ else _) from ?_);rw[show df (S l) ":"=ends l [58] from T3 l ":"];cases b:ends l [58] with
  |true=>
   rw[b] at q;obtain⟨a,e⟩:=wu.mp b;have b:1<=l.length:=by rw[e,ay];show 1<=a.length+1;omega
   rw[if_pos rfl];refine⟨f,a9 rfl,rfl,?_⟩;show Q (.tup [.str "mark",.str (bQ (S l) aq (ae (-((1:Nat):Int)))),.bl ao]);rw[A9 1 (by decide) b];exact q
  |false=>
   rw[b] at q;rw[if_neg am];have e3:cI (S l) " "=(kL 32 l).map S:=sB 32 l;have hm:=sC 32 l;refine⟨rfl,rfl,f,?_,?_⟩
   ·rw[e3,ap];exact iJ (by omega)
   rw[e3];cases h:kL 32 l with
   |nil=>exact absurd h (oA 32 l).1
   |cons k told=>
    rw[h] at q;rw[h,aM] at hm;have f:∀p∈k::told,p.length<=900:=λp m=>aQ (p9 (c:=32) (by rw[h];exact m)) j;refine⟨_,jG (k:=0) rfl,?_⟩;have key:Zl g (fE Q) [ae (sD l),ae (.lst (((k::told).map S).map D.str)),ae (sD k),ae (.lst (cutD (((k::told).map S).map D.str) (ae 1) aq)),aq] []:=by rw[aU,aU,Fp,bF];exact LJ pn (by omega) (λw hw=>aQ (f w (au _ hw)) (by decide)) q
    exact key
end ll
namespace ll
open PySem PySem.Spec L2 L3 FJ PyProof.Rows.KTD
noncomputable def LK(l:List Nat):Option Raw:=match Rs l with
 |none=>aq
 |some r=>bif uq r then ae r else aq
theorem Qo(r:Raw):fz [] r.d=r.d:=by show D.tup ((sD r.1::r.2.map It.d).map (vw []))=D.tup (sD r.1::r.2.map It.d);rw[aU,bF,show vw []∘It.d=It.d from funext NA];rfl
def zf:GP:=λds Q=>∃l:List Nat,l.length<=900/\ds=[.str (S l)]/\Q (rD (LK l))
theorem Bf:jS zf:=λds P Q w ⟨n,h,e,q⟩=>⟨n,h,e,w _ q⟩
theorem LL:∀ds Q,zf ds Q->mO 2 1 (wj (cl D8) (cl D5)) ds Q:=by
 rintro ds Q ⟨l,a,e,q⟩
 subst e;unfold LK at q;refine⟨rfl,rfl,l,a,rfl,?_⟩;cases h:Rs l with
 |none=>rw[h] at q;exact⟨rfl,.inl ⟨rfl,rfl,q⟩⟩
 |some r=>
  rw[h] at q;have ok:=Qm a h;have n:ql [r.d]=aj:=by show(nl r.d&&aj)=aj;rw[r.nl];rfl
  have q:Q (rD (bif uq r then ae r else aq)):=q;refine⟨n,.inr ⟨r,ok,rfl,?_⟩⟩;cases b:uq r with
  |true=>
   rw[b] at q;show nl (fz [] r.d)=aj/\Q (fz [] r.d);rw[Qo];exact⟨r.nl,q⟩
  |false=>rw[b] at q;exact⟨rfl,q⟩
noncomputable def oB(l:List Nat):Option (List Nat):=match kL 32 l with
 |[a,b]=>bif jV a D6&&nY (S b) then ae b else aq
 |_=>aq
noncomputable def nD:Option (List Nat)->D
 |none=>.non
 |some n=>sD n
def uT:GP:=λds Q=>∃l:List Nat,l.length<=900/\ds=[.str (S l)]/\Q (nD (oB l))
theorem zg:jS uT:=λds P Q w ⟨n,h,e,q⟩=>⟨n,h,e,w _ q⟩
theorem Iy:∀ds Q,uT ds Q->mO 2 1 (uk (cl tP)) ds Q:=by
 rintro ds Q ⟨l,j,e,q⟩
 subst e;have f:(S l).length<=ax:=jP (by omega);have e3:cI (S l) " "=(kL 32 l).map S:=sB 32 l;have hm:=sC 32 l;unfold oB at q;refine⟨rfl,rfl,rfl,f,by rw[e3,ap];exact iJ (by omega),?_⟩;rw[e3];refine⟨_,rfl,?_⟩;refine(show(if((((((kL 32 l).map S).map D.str).length:Nat):Int)==2)=aj then _ else _) from ?_);rw[ap,ap];have f:∀p∈kL 32 l,p.length<=900:=λp m=>aQ (p9 (c:=32) m) j;match h:kL 32 l,f with
 |[],_=>exact absurd h (oA 32 l).1
 |[a],_=>rw[h] at q;exact⟨rfl,q⟩
 |a::b::c::r,_=>
  rw[h] at q;rw[show((((a::b::c::r).length:Nat):Int)==2)=ao by rw[d7];intro z;have:=beq_iff_eq.mp z;simp only [aM] at this;omega,if_neg am];exact⟨rfl,q⟩
 |[a,b],f=>
  rw[h] at q;have q:Q (nD (bif jV a D6&&nY (S b) then ae b else aq)):=q;refine⟨_,jG (k:=0) rfl,?_⟩;refine(show(if(S a==("part":av))=aj then _ else _) from ?_);rw[show(S a==("part":av))=jV a D6 from qW a "part"];cases g:jV a D6 with
  |false=>rw[g] at q;rw[if_neg am];exact⟨rfl,q⟩
  |true=>
   rw[g,cf] at q;rw[if_pos rfl];refine⟨_,jG (k:=1) rfl,rfl,b,aQ (f b (by simp)) (by decide),rfl,?_⟩;cases i:nY (S b) with
   |false=>rw[i] at q;exact⟨rfl,q⟩
   |true=>rw[i] at q;exact⟨_,jG (k:=1) rfl,rfl,q⟩
end ll
namespace ll
open PySem PySem.Spec L2 L3 FJ
abbrev Pl:=List Nat×List (List Nat)
noncomputable def jU(k:Nat)(a:List Pl):List D:=a.mapIdx λi p=>.tup [sD p.1,.loc (k+1+i)]
section
variable {f:List Nat->D}
noncomputable def j4(f:List Nat->D)(a:Ms)(b:List Pl):Ms:=a++ae (.lst (jU a.length b))::b.map λp=>ae (.lst (p.2.map f))
theorem D9(a:Ms)(b:List Pl):(j4 f a b).length=a.length+1+b.length:=by unfold j4;rw[ay,aM,ap];omega
theorem NB(a:Ms)(b:List Pl):(j4 f a b)[a.length]?=ae (ae (.lst (jU a.length b))):=by unfold j4;rw[bT (aY _),ed];rfl
theorem Iz{a:Ms}{b:List Pl}{i:Nat}{p:Pl}(h:b[i]?=ae p):(j4 f a b)[a.length+1+i]?=ae (ae (.lst (p.2.map f))):=by unfold j4;rw[bT (by omega),show a.length+1+i- a.length=i+1 by omega,List.getElem?_cons_succ,bD,h];rfl
theorem sF(k:Nat)(a:List Pl):(jU k a).length=a.length:=by unfold jU;rw[c7]
theorem qd(k:Nat)(a:List Pl)(p:Pl):jU k (a++[p])=jU k a++[.tup [sD p.1,.loc (k+1+a.length)]]:=by unfold jU;rw[List.mapIdx_append,List.mapIdx_singleton,bJ]
theorem LM{xs:List D}{d:D}:vf (xs++[d]) (-1)=ae d:=by
 unfold vf FK;have l:(xs++[d]).length=xs.length+1:=by rw[ay];rfl
 rw[if_neg (by decide),if_pos (by rw[l];omega),show(-1+((xs++[d]).length:Int)).toNat=xs.length by rw[l];omega];show(xs++[d])[xs.length]?=_;rw[bT (aY _),ed];rfl
theorem LN(a:Ms)(b:List Pl)(n:List Nat):(j4 f a b++[ae (OD.lst [])]).set a.length (ae (OD.lst (jU a.length b++[D.tup [sD n,.loc (j4 f a b).length]])))=j4 f a (b++[(n,[])]):=by rw[D9];unfold j4;rw[bA,fF _ _ (aY _),ed,qd,bE];rfl
theorem LO(a:Ms)(b:List Pl)(n:List Nat)(rs:List (List Nat))(r:List Nat):(j4 f a (b++[(n,rs)])).set (a.length+1+b.length) (ae (.lst (rs.map f++[f r])))=j4 f a (b++[(n,rs++[r])]):=by
 have e:jU a.length (b++[(n,rs)])=jU a.length (b++[(n,rs++[r])]):=by rw[qd,qd]
 unfold j4;rw[fF _ _ (by omega),show a.length+1+b.length- a.length=b.length+1 by omega,dW,bE,bE,fF _ _ (by rw[ap];exact aY _),ap,ed,e];show a++ae _::(_++[ae (OD.lst (rs.map f++[f r]))])=a++ae _::(_++[ae (OD.lst ((rs++[r]).map f))]);rw[bE];rfl
theorem CU(a:Ms)(b:List Pl):vw (j4 f a b) (.loc a.length)=.lst (jU a.length b):=by show OS _ (j4 f a b)[a.length]?=_;rw[NB];rfl
theorem IA(b:Ms)(a:List Pl)(p:Pl):vw (j4 f b (a++[p])) (.loc (b.length+1+a.length))=.lst (p.2.map f):=by
 have c:(a++[p])[a.length]?=ae p:=by rw[bT (aY _),ed];rfl
 show OS _ (j4 f b (a++[p]))[b.length+1+a.length]?=_;rw[Iz c];rfl
theorem sG{a:Ms}{b:List Pl}{p:Pl}{Q:DK}(q:Q (.tup [sD p.1,.loc (a.length+1+b.length)]) (j4 f a (b++[p]))):jk (.loc a.length) (.int (-1)) (j4 f a (b++[p])) Q:=by unfold jk;rw[CU,qd];exact⟨_,LM,q⟩
theorem wy{a b:D}{M:Ms}{Q:DK}(q:Q b M):jk (.tup [a,b]) (.int 1) M Q:=⟨_,rfl,q⟩
noncomputable def wT(a:List Pl):Bool:=match a.getLast? with|none=>ao|some p=>p.2.isEmpty
theorem wz(a:List Pl)(p:Pl):wT (a++[p])=p.2.isEmpty:=by unfold wT;rw[List.getLast?_concat]
def Fs (f:List Nat->D):GN:=λds M Q=>∃a b,ds=[.loc a.length]/\M=j4 f a b/\Q (.bl (wT b)) M
theorem Ft:mP (Fs f):=λds M P Q w ⟨a,b,c,d,q⟩=>⟨a,b,c,d,w _ _ q⟩
theorem Ua:∀ds M Q,Fs f ds M Q->Ds 1 1 sw ds M Q:=by
 rintro ds M Q ⟨n,i,rfl,rfl,q⟩
 refine⟨rfl,i.length,by rw[CU];show ae (jU _ _).length=_;rw[sF],?_⟩;rcases cN i with rfl|⟨c,p,e⟩
 ·exact q
 ·rw[cO] at e;subst e;have o:=IA (f:=f) n c p;have e1:wT (c++[p])=(((p.2.map f).length:Int)==0):=by
   rw[wz,ap];cases h:p.2 with
   |nil=>simp[h]
   |cons a b=>simp[h];omega
  have r:decide ((0:Int)<((c++[p]).length:Nat))=aj:=decide_eq_true (by rw[ay];show(0:Int)<((c.length+1:Nat):Int);omega);have hd:∀(b:Bool) (T:DE) g M (Q:DK),b=aj->T g M Q->mQ (λ_ M Q=>Q (.bl b) M) T g M Q:=λb T g M Q h t=>by subst h;exact t
  refine hd (decide ((0:Int)<((c++[p]).length:Nat))) (gD lN (hZ jo (gg (gD jk (gD jk (gj 0) (qp (dC (.int 1)))) (dC (.int 1))) gq)) (dC (.int 0))) _ _ _ r ?_;have j:=@sG f;have m:=@wy;generalize jk=u at j m ⊢;refine j (m ⟨(p.2.map f).length,by rw[o];rfl,?_⟩);rw[e1] at q;exact q
theorem ND{b:Ms}{a:List Pl}{Q:DK}(q:Q (.int a.length) (j4 f b a)):jo [.loc b.length] (j4 f b a) Q:=⟨a.length,by rw[CU];show ae (jU _ _).length=_;rw[sF],q⟩
theorem zh{b:Ms}{a:List Pl}{n:List Nat}{rs:List (List Nat)}{r:List Nat}{Q:DK}(c:rs.length<ax)(q:Q .non (j4 f b (a++[(n,rs++[r])]))):iO (.loc (b.length+1+a.length)) [f r] (j4 f b (a++[(n,rs)])) Q:=by
 have e:(a++[(n,rs)])[a.length]?=ae (n,rs):=by rw[bT (aY _),ed];rfl
 refine⟨_,Iz e,by rw[ap];exact c,?_⟩;rw[LO];exact q
theorem Bg{a:Ms}{b:List Pl}{n:List Nat}{Q:DK}(c:b.length<ax)(q:Q .non (j4 f a (b++[(n,[])]))):iO (.loc a.length) [.tup [sD n,.loc (j4 f a b).length]] (j4 f a b++[ae (.lst [])]) Q:=by
 refine⟨jU a.length b,?_,by rw[sF];exact c,?_⟩
 ·rw[bp (by rw[D9];omega),NB]
 ·rw[LN];exact q
noncomputable def Ea(f:List Nat->D)(p:Pl):D:=.tup [sD p.1,.lst (p.2.map f)]
theorem Bh(ps:List Pl):uD (j4 f [] ps) 3 (.loc 0)=.lst (ps.map (Ea f)):=by
 have a:vw (j4 f [] ps) (.loc 0)=.lst (jU 0 ps):=CU [] ps;show(match vw (j4 f [] ps) (.loc 0) with|.lst ds=>D.lst (ds.map (uD (j4 f [] ps) 2))|.tup ds=>.tup (ds.map (uD (j4 f [] ps) 2))|z=>z)=_;rw[a];show D.lst ((jU 0 ps).map (uD (j4 f [] ps) 2))=_;congr 1;apply List.ext_getElem?;intro i;unfold jU;rw[bD,fR,bD];cases e:ps[i]? with
 |none=>rfl
 |some p=>
  have b:vw (j4 f [] ps) (.loc (0+1+i))=.lst (p.2.map f):=by show OS _ (j4 f [] ps)[0+1+i]?=_;rw[show(0+1+i)=([]:Ms).length+1+i from rfl,Iz e];rfl
  show ae (uD (j4 f [] ps) 2 (.tup [sD p.1,.loc (0+1+i)]))=ae (Ea f p);congr 1;have e1:uD (j4 f [] ps) 1 (.loc (0+1+i))=.lst (p.2.map f):=by show(match vw (j4 f [] ps) (.loc (0+1+i)) with|.lst ds=>D.lst (ds.map (uD (j4 f [] ps) 0))|.tup ds=>.tup (ds.map (uD (j4 f [] ps) 0))|z=>z)=_;rw[b];show D.lst ((p.2.map f).map (uD (j4 f [] ps) 0))=_;rw[show uD (j4 f [] ps) 0=id from rfl,fg]
  show D.tup [sD p.1,uD (j4 f [] ps) 1 (.loc (0+1+i))]=.tup [sD p.1,.lst (p.2.map f)];rw[e1]
end
noncomputable def Bi:List Pl->List Nat->List Pl
 |[],_=>[]
 |[p],l=>[(p.1,p.2++[l])]
 |p::q::r,l=>p::Bi (q::r) l
theorem qf:∀(c:List Pl) (p:Pl) (l:List Nat),Bi (c++[p]) l=c++[(p.1,p.2++[l])]
 |[],p,l=>rfl
 |[a],p,l=>rfl
 |a::b::r,p,l=>by show a::Bi (b::r++[p]) l=_;rw[qf (b::r) p l];rfl
section
variable (nm:List Nat->Option (List Nat)) (ok:List Nat->Bool)
noncomputable def wU(acc:List Pl)(l:List Nat):Option (List Pl):=match nm l with
 |some n=>bif wT acc then(bif ok l&&!acc.isEmpty then ae (Bi acc l) else aq) else ae (acc++[(n,[])])
 |none=>bif ok l&&!acc.isEmpty then ae (Bi acc l) else aq
noncomputable def rd:Nat->List Pl->List (List Nat)->Sum Nat (List Pl)
 |j,acc,[]=>bif wT acc then .inl j else .inr acc
 |j,acc,l::ls=>match wU nm ok acc l with
  |none=>.inl j
  |some a=>rd (j+1) a ls
end
end ll
namespace ll
open PySem PySem.Spec L2 L3 FJ
noncomputable def nh(l:List Nat):Bool:=(LK l).isSome
noncomputable def fP(l:List Nat):D:=rD (LK l)
theorem Ub(o:Option (List Nat)){M:Ms}{Q:DK}(q:Q (.bl o.isSome) M):pB (nD o) .non M Q:=by cases o<;>exact q
theorem NE(l:List Nat){M:Ms}{Q:DK}(q:Q (.bl (nh l)) M):pB (fP l) .non M Q:=by revert q;unfold nh fP;cases LK l<;>exact id
theorem Eb{j:Nat}(h:j<=400):[D.int j].all E8=aj:=by
 have z:∀n:Fin 401,E8 (.int (n.1:Nat))=aj:=by decide+kernel
 show(E8 (.int j)&&aj)=aj;rw[z ⟨j,by omega⟩];rfl
structure tQ(t:List Nat):Prop where
 n:(kL 10 t).length<=400
 l:∀l∈kL 10 t,l.length<=900
 s:t.length<=100000
def XJ (C:ai)(f:List Nat->D)(Q:D->Prop)(X:EX->Prop):Sum Nat (List Pl)->Prop
 |.inl j=>X ⟨C,["line"],[.int j]⟩
 |.inr acc=>Q (.lst (acc.map (Ea f)))
def LP (C:ai):FT:=λds Q X=>(∃t,tQ t/\ds=[.str (S t)]/\XJ C fP Q X (rd oB nh 0 [] (kL 10 t)))\/((ds=[.non]\/(∃i,ds=[.int i])\/∃xs,ds=[.lst xs])/\X ⟨C,["line"],[.int 0]⟩)
theorem Fu{C:ai}:xI (LP C):=λds P Q x y w v h=>h.elim (λ⟨t,a,b,q⟩=>.inl ⟨t,a,b,by
 revert q;cases rd oB nh 0 [] (kL 10 t) with
 |inl j=>exactλq=>v _ q
 |inr a=>exactλq=>w _ q⟩) λ⟨a,q⟩=>.inr ⟨a,v _ q⟩
theorem uU{f:List Nat->D}(a:∀l,nl (f l)=aj)(ps:List Pl):nl (.lst (ps.map (Ea f)))=aj:=by show ql (ps.map (Ea f))=aj;refine kN (λp=>?_) ps;show(aj&&(ql (p.2.map f)&&aj))=aj;rw[kN a];rfl
theorem LQ(l:List Nat):nl (fP l)=aj:=T9 _
structure Small(j:Nat)(acc:List Pl):Prop where
 n:acc.length<=j
 r:∀p∈acc,p.2.length<=j
theorem Small.new{j:Nat}{acc:List Pl}{n:List Nat}(h:Small j acc):Small (j+1) (acc++[(n,[])]):=
 ⟨by rw[ay];have:=h.n;show acc.length+1<=_;omega,λp a=>by
  rcases aO.mp a with a|a
  ·have:=h.r p a;omega
  ·rw[aZ.mp a];exact bx _⟩
theorem Small.row{j:Nat}{b:List Pl}{n l:List Nat}{ls:List (List Nat)}(h:Small j (b++[(n,ls)])):Small (j+1) (b++[(n,ls++[l])]):=
 ⟨by have:=h.n;rw[ay] at this ⊢;show b.length+1<=j+1;have:b.length+1<=j:=this;omega,λp a=>by
  rcases aO.mp a with a|a
  ·have:=h.r p (br _ a);omega
  ·rw[aZ.mp a];have:ls.length<=j:=h.r (n,ls) (by simp);show(ls++[l]).length<=j+1;rw[ay];show ls.length+1<=j+1;omega⟩
theorem oC{nm:List Nat->Option (List Nat)}{ok:List Nat->Bool}{j:Nat}{acc:List Pl}{ls:List (List Nat)}{l:List Nat}{r:Sum Nat (List Pl)}(e:r=rd nm ok j acc (l::ls)):(∃a,wU nm ok acc l=ae a/\r=rd nm ok (j+1) a ls)\/(wU nm ok acc l=aq/\r=.inl j):=by
 subst e;have e:rd nm ok j acc (l::ls)=match wU nm ok acc l with|none=>.inl j|some a=>rd nm ok (j+1) a ls:=rfl
 cases h:wU nm ok acc l with
 |none=>exact .inr ⟨rfl,by rw[e,h]⟩
 |some a=>exact .inl ⟨a,rfl,by rw[e,h]⟩
def Zm (b a:G2)(c:GN)(ga:GM)(C:ai):XB:=(Rl (ny (gz (gD b (gj 6) (dC .non))) (gz (gD (Ab λi j=>.bl (decide (j<i))) (hZ c (gg (gj 2) gq)) (dC (.int 0))))) (λ_=>(lW (o7 "list" ga (gD a (gD a (gj 2) (qp (dC (.int 1)))) (dC (.int 1))) (gg (gj 6) gq)))) (vV C ["line"] (gg (gj 3) gq)))
theorem Qp{C:ai}{E:iV}{q:yB}{g h i m:Option D}{l:List Nat}{j:Nat}{acc:List Pl}(u:j<=400)(A:Small j acc)
(B:∀c n ls,nh l=aj->acc=c++[(n,ls)]->E.nx [g,h,ae (.loc 0),ae (.int j),i,m,ae (fP l)] (j4 fP [] (c++[(n,ls++[l])])))
(v:(nh l&&!acc.isEmpty)=ao->q ⟨C,["line"],[.int j]⟩ [g,h,ae (.loc 0),ae (.int j),i,m,ae (fP l)] (j4 fP [] acc)):
  Zm pB jk jo iO C q E [g,h,ae (.loc 0),ae (.int j),i,m,ae (fP l)] (j4 fP [] acc):=by
 have L:∀{a b:Nat},bM a b=aj->a<=b:=a9;have w:=@NE;have x1:=@sG fP [];have x2:=@wy;have y:=@ND fP [];have z:=@zh fP [];generalize pB=I at w ⊢;generalize jk=J at x1 x2 ⊢;generalize jo=M at y ⊢;generalize iO=ga at z ⊢;refine w l ?_;cases o:nh l with
 |false=>exact⟨rfl,Eb u,L rfl,v (by rw[o];rfl)⟩
 |true=>
  refine y ?_;rcases cN acc with rfl|⟨c,p,e⟩
  ·exact⟨rfl,Eb u,L rfl,v (by rw[o];rfl)⟩
  ·rw[cO] at e;subst e;obtain⟨n,ls⟩:=p;have G:(c++[(n,ls)]).length=c.length+1:=by rw[ay];rfl
   have H:=IA (f:=fP) [] c (n,ls);refine(show(if decide ((0:Int)<((c++[(n,ls)]).length:Nat))=aj then _ else _) from ?_);rw[if_pos (decide_eq_true (by rw[G];omega))];refine x1 (x2 ⟨by show Rj "list" (vw (j4 fP [] (c++[(n,ls)])) (.loc (([]:Ms).length+1+c.length)))=aj;rw[H];rfl,z ?_ (B c n ls o rfl)⟩);have:ls.length<=j:=A.r (n,ls) (by simp);exact c8 (show ls.length<=400 by omega) (by decide)
theorem Uc(K:W.Frag)(C:ai):∀ds Q X,LP C ds Q X->xL 7 1 (ot K C (cl uT) (cl zf) (Fs fP)) ds Q X:=by
 have L:∀{a b:Nat},bM a b=aj->a<=b:=a9
 rintro ds Q X (⟨t,h,e,q⟩|⟨h,q⟩)
 ·subst e;have e3:cI (S t) "\n"=(kL 10 t).map S:=sB 10 t;have o:(S t).length<=ax:=jP h.s;have hm:=h.n;have hw:=h.l;generalize kL 10 t=ls at e3 hm hw q;have u:=@Ub;have n2:=@NE;have x1:=@sG fP [];have x2:=@wy;have l0:=@ND fP [];have a1:=@zh fP [];have T:=@Bg fP [];have lk:∀{v:List Pl} {Q:DK},Q (.bl (wT v)) (j4 fP [] v)->Fs fP [.loc 0] (j4 fP [] v) Q:=λq=>⟨[],_,rfl,rfl,q⟩;have g:=@Qp C;have U:∀{xs:List D} {M:Ms} {Q:DK},Q (.int xs.length) M->jo [.lst xs] M Q:=λq=>⟨_,rfl,q⟩;unfold ot;generalize pB=gn at u n2 g ⊢;generalize jk=gx at x1 x2 g ⊢;generalize jo=gl at l0 U g ⊢;generalize Fs fP=gk at lk ⊢;generalize iO=ga at a1 T g ⊢;refine⟨rfl,_,rfl,rfl,rfl,o,by rw[e3,ap];exact iJ (by omega),?_⟩;rw[e3];refine⟨bx _,_,rfl,rfl,?_⟩;refine rP (λj w M=>∃acc,rd oB nh 0 [] ls=rd oB nh j acc (ls.drop j)/\Small j acc/\M=j4 fP [] acc/\∃z A B G,w=[ae (sD t),ae (.lst ((ls.map S).map .str)),ae (.loc 0),z,A,B,G]) (λ_ _ _ _=>rfl) _ 0 _ _ ⟨[],rfl,⟨aY _,λ_ h=>(by cases h)⟩,rfl,aq,aq,aq,aq,rfl⟩ (λj x w M hx H N I=>?_) (λw M H=>?_)
  ·obtain⟨acc,c,f,rfl,z,A,B,G,rfl⟩:=H;obtain⟨y,hy,rfl⟩:=Bc hx;obtain⟨s,MQ,rfl⟩:=uS hy;obtain⟨l,J,rfl⟩:=uS MQ;rw[bJ] at c I f;have hj:=(aC.mp J).1;have Ud:l∈ls:=bu J;have Y:=hw l Ud;rw[show ls.drop j=l::ls.drop (j+1) by rw[cS hj];congr 1;exact(aC.mp J).2] at c;refine⟨rfl,rfl,rfl,l,Y,rfl,rfl,l,Y,rfl,?_⟩;have O:(oB l=aq\/wT acc=aj)->wU oB nh acc l=bif nh l&&!acc.isEmpty then ae (Bi acc l) else aq:=λhc=>by
    unfold wU;rcases hc with hc|hc
    ·rw[hc]
    ·cases oB l with
     |none=>rfl
     |some n=>simp only [hc,cond_true]
   have p:∀E:iV,E.nx=N->(oB l=aq\/wT acc=aj)->Zm gn gx gl ga C (λe _ _=>ql e.ds=aj/\X e) E [ae (sD t),ae (.lst ((ls.map S).map .str)),ae (.loc 0),ae (.int j),ae (sD l),ae (nD (oB l)),ae (fP l)] (j4 fP [] acc):=λE hE hc=>g (E:=E) (by omega) f (λi5 n Jx r h2=>by
     rw[hE];subst h2;refine I _ _ ⟨_,?_,f.row,rfl,_,_,_,_,rfl⟩;rcases oC c with⟨a,e1,e2⟩|⟨e1,e2⟩
     ·rw[O hc,r] at e1;have:(!(i5++[(n,Jx)]).isEmpty)=aj:=by simp
      rw[this,qf] at e1;cases e1;exact e2
     ·rw[O hc,r] at e1;have:(!(i5++[(n,Jx)]).isEmpty)=aj:=by simp
      rw[this] at e1;cases e1) λr=>⟨rfl,by
     rcases oC c with⟨a,e1,e2⟩|⟨e1,e2⟩
     ·rw[O hc,r] at e1;cases e1
     ·rw[e2] at q;exact q⟩
   cases hn:oB l with
   |none=>
    rw[hn] at p;exact u aq (p _ rfl (.inl rfl))
   |some n=>
    rw[hn] at p;refine u (ae n) (lk ?_);cases m:wT acc with
    |true=>exact p _ rfl (.inr m)
    |false=>
     refine⟨by show Rj "list" (vw (j4 fP [] acc) (.loc ([]:Ms).length))=aj;rw[CU];rfl,bx _,L rfl,T (c8 (show acc.length<=400 by have:=f.n;omega) (by decide)) (I _ _ ⟨_,?_,f.new,rfl,_,_,_,_,rfl⟩)⟩;have o:wU oB nh acc l=ae (acc++[(n,[])]):=by unfold wU;rw[hn];simp only [m,cond_false]
     rcases oC c with⟨a,e1,e2⟩|⟨e1,e2⟩
     ·rw[o] at e1;cases e1;exact e2
     ·rw[o] at e1;cases e1
  ·obtain⟨acc,c,f,rfl,z,A,B,G,rfl⟩:=H;rw[bJ,c7,ap,ap,ef] at c;have c:rd oB nh 0 [] ls=bif wT acc then .inl ls.length else .inr acc:=c;rw[c] at q;refine lk ?_;cases m:wT acc with
   |true=>
    rw[m] at q;refine U ?_;rw[ap,ap];exact⟨rfl,Eb hm,L rfl,rfl,q⟩
   |false=>
    rw[m] at q;show nl (uD (j4 fP [] acc) 3 (.loc 0))=aj/\Q (uD (j4 fP [] acc) 3 (.loc 0));rw[Bh];exact⟨uU LQ acc,q⟩
 ·have f0:[D.int (0:Int)].all E8=aj:=Eb (j:=0) (by decide);rcases h with rfl|⟨i,rfl⟩|⟨xs,rfl⟩;all_goals exact⟨rfl,_,rfl,rfl,f0,L rfl,rfl,q⟩
end ll
namespace ll
open PySem PySem.Spec L2 L3 FJ
structure Zn(K:W.Frag)(N PE BP BR NC:ai):Prop where
 sub:Cf K N PE
 get:Az K N
 na:mZ K N "line"
 n:W.kitOne K (.ref N) (.ref N)=ae aj
 b:W.kitOne K (.ref N) (.ref BP)=ae ao
 r:W.kitOne K (.ref N) (.ref BR)=ae ao
noncomputable def Ue(f:List Nat->D):Sum Nat (List Pl)->D
 |.inl j=>.int j
 |.inr acc=>.lst (acc.map (Ea f))
def kA:GP:=λds Q=>(∃t,tQ t/\ds=[.str (S t)]/\Q (Ue fP (rd oB nh 0 [] (kL 10 t))))\/((ds=[.non]\/(∃i,ds=[.int i])\/∃xs,ql xs=aj/\ds=[.lst xs])/\Q (.int 0))
theorem Bj:jS kA:=λds P Q w h=>h.elim (λ⟨t,a,b,q⟩=>.inl ⟨t,a,b,w _ q⟩) λ⟨a,q⟩=>.inr ⟨a,w _ q⟩
theorem LR{K:W.Frag}{C PE a c g:ai}(f:Zn K C PE a c g):∀ds Q,kA ds Q->mO 2 1 (wo K PE (LP C) C a c g) ds Q:=by
 have hd:∀{Q:D->Prop} {M:Ms} {o:Option D} (j:Nat),Q (.int j)->Cf K C PE/\(gC (ik (ny (gz (hZ (yE K) (gg (gj 1) (gg (dC (.cls C)) gq)))) (ny (k9 (gz (hZ (yE K) (gg (gj 1) (gg (dC (.cls a)) gq))))) (k9 (gz (hZ (yE K) (gg (gj 1) (gg (dC (.cls c)) gq))))))) (gL (HI K "line" (gj 1))) gK)
  (gL (gS (ii (gg (dC (.str "other")) (gg (hZ (yE K) (gg (gj 1) (gg (dC (.cls g)) gq))) gq)))))) (Zf 1 (fE Q)) [o,ae (.exc C ["line"] [.int j])] M:=λj q=>
  ⟨f.sub,aj,f.get,f.n,ao,f.get,f.b,ao,f.get,f.r,f.get,f.na,_,rfl,rfl,q⟩
 rintro ds Q (⟨t,h,e,q⟩|⟨h,q⟩)
 ·subst e;refine⟨rfl,rfl,.inl ⟨t,h,rfl,?_⟩⟩;cases m:rd oB nh 0 [] (kL 10 t) with
  |inl j=>rw[m] at q;exact hd j q
  |inr acc=>rw[m] at q;exact⟨uU LQ acc,q⟩
 ·rcases h with rfl|⟨i,rfl⟩|⟨xs,p,rfl⟩
  ·exact⟨rfl,rfl,.inr ⟨.inl rfl,hd 0 q⟩⟩
  ·exact⟨rfl,rfl,.inr ⟨.inr (.inl ⟨i,rfl⟩),hd 0 q⟩⟩
  ·exact⟨rfl,by show(ql xs&&aj)=aj;rw[p];rfl,.inr ⟨.inr (.inr ⟨xs,rfl⟩),hd 0 q⟩⟩
end ll
namespace ll
open PySem PySem.Spec L2 L3 FJ
theorem IB{neg:Bool}{c:Nat}{x:av}{M:Ms}{Q:DK}(q:Q (.bl (if neg then !decide (c∈x.cps.toList) else decide (c∈x.cps.toList))) M):FR neg (.str ⟨#[c]⟩) (.str x) M Q:=
 ⟨decide (c∈x.cps.toList),congrArg ae (StrLaws.found_one x c),q⟩
noncomputable def CV(c:Nat):Bool:=decide (97<=c)&&decide (c<=122)
theorem Qq(c:Nat):decide (c∈("abcdefghijklmnopqrstuvwxyz":av).cps.toList)=CV c:=by rw[show("abcdefghijklmnopqrstuvwxyz":av).cps.toList=List.range' 97 26 by decide+kernel];unfold CV;rw[bB,decide_eq_true_eq,aD,decide_eq_true_eq,decide_eq_true_eq,List.mem_range'_1];omega
theorem Qr(c:Nat):decide (c∈("0123456789":av).cps.toList)=CL c:=by rw[show("0123456789":av).cps.toList=List.range' 48 10 by decide+kernel];rw[bB,decide_eq_true_eq,zd,List.mem_range'_1];omega
theorem zi(p:Nat->Bool)(g:Nat->D):∀l:List Nat,(([]:List D)++(l.filter λc=>!p c).map g).isEmpty=l.all p
 |[]=>rfl
 |a::l=>by
  have:=zi p g l;rw[bv] at this ⊢;rw[List.filter_cons,dm];cases p a
  ·rfl
  ·exact this
theorem Qs(l:List Nat):low (S l)=l.all CV:=rfl
theorem Uf:∀ds Q,tP ds Q->mO 1 1 m6 ds Q:=by
 rintro ds Q ⟨l,j,h,q⟩
 subst h;have i:(S l).length<=ax:=jP (by omega);have b:=@Fi;have e:=@IB aj;unfold m6;generalize nJ=ge at b ⊢;generalize FR aj=m at e ⊢;refine⟨rfl,_,show(if(S l).length<=ax then _ else _)=_ from if_pos i,?_⟩;rw[iL];refine b ?_;unfold nY at q;rw[iL] at q;by_cases f:1<=l.length;case neg=>
  rw[decide_eq_false (by omega)];rw[decide_eq_false f] at q;exact⟨rfl,q⟩
 rw[decide_eq_true (by omega)];refine b ?_;by_cases g:l.length<=8;case neg=>
  rw[decide_eq_false (by omega)];rw[decide_eq_false g,cw] at q;exact⟨rfl,q⟩
 rw[decide_eq_true (by omega)];rw[decide_eq_true f,decide_eq_true g] at q;refine⟨_,rfl,rfl,?_⟩;refine qc (λc:Nat=>D.str ⟨#[c]⟩) (λc=>D.str ⟨#[c]⟩) (λc=>!CV c) ?_ l [] ?_ (λc hc n a=>?_) ?_
 ·exact rfl
 ·rw[bC,bJ];exact iJ (by omega)
 ·refine e ?_;rw[if_pos rfl,Qq];cases hb:CV c with
  |true=>rw[hb] at a;exact a _ rfl
  |false=>rw[hb] at a;exact a _ rfl
 ·refine⟨bx _,?_⟩;show nl (.bl (([]:List D)++(l.filter λc=>!CV c).map λc=>D.str ⟨#[c]⟩).isEmpty)=aj/\Q (.bl (([]:List D)++(l.filter λc=>!CV c).map λc=>D.str ⟨#[c]⟩).isEmpty);rw[zi,<-Qs];exact⟨rfl,q⟩
noncomputable def CW(lo hi:Int)(l:List Nat):Bool:=ka 12 l&&(decide (lo<=Ba l)&&decide (Ba l<=hi))
def LS:GP:=λds Q=>∃(l:List Nat) (lo hi:Int),l.length<=1000/\(∀c∈l,c<128)/\ds=[sD l,.int lo,.int hi]/\Q (.bl (CW lo hi l))
theorem Fv:jS LS:=λds P Q w ⟨l,a,b,h,c,e,q⟩=>⟨l,a,b,h,c,e,w _ q⟩
theorem Qt{c:Nat}(h:c<128):cU.strOk ⟨#[c]⟩=aj:=by
 have z:∀n:Fin 128,cU.strOk ⟨#[n.1]⟩=aj:=by decide+kernel
 exact z ⟨c,h⟩
theorem Qu{xs:List Nat}{M:Ms}{Q:DK}(hc:∀c∈xs,c<128)(q:Q (.bl (!(([]:List D)++xs.map λc=>D.str ⟨#[c]⟩).isEmpty)) M):mS (.lst (([]:List D)++xs.map λc=>D.str ⟨#[c]⟩)) (.lst []) M Q:=by
 rw[bv] at q ⊢;have e:∀a:List Nat,(∀c∈a,c<128)->B7 (a.map λc=>D.str ⟨#[c]⟩)=aj/\FQ (a.map λc=>D.str ⟨#[c]⟩)<=1:=by
  intro a;induction a with
  |nil=>exactλ_=>⟨rfl,by unfold List.map FQ;decide⟩
  |cons y a b=>
   intro h;have b:=b λc hc=>h c (au _ hc);refine⟨by rw[aU];unfold B7 pl;rw[b.1,Qt (h y (by simp))];rfl,?_⟩;have:=b.2;rw[aU];unfold FQ dp;omega
 have hd:=(e xs hc).2;refine⟨⟨?_,rfl,?_,?_⟩,?_⟩
 ·show pl (.lst (xs.map λc=>D.str ⟨#[c]⟩))=aj;unfold pl;exact(e xs hc).1
 ·show dp (.lst (xs.map λc=>D.str ⟨#[c]⟩))<=60;unfold dp;omega
 ·show dp (.lst [])<=60;unfold dp FQ;decide
 ·show Q (.bl (!ui (.lst (xs.map λc=>D.str ⟨#[c]⟩)) (.lst []))) M;cases xs with
  |nil=>exact q
  |cons x xs=>exact q
theorem IC{l:List Nat}{c:Nat}(h:c∈iQ l):c∈l:=by
 cases hb:neg l with
 |false=>rwa [ww hb] at h
 |true=>rw[wv hb] at h;exact List.mem_of_mem_drop h
theorem LU{l:List Nat}{lo hi:Int}{M:Ms}{Q:D->Prop}(L:l.length<=1000)(hc:∀c∈l,c<128)(q:Q (.bl (CW lo hi l))):
  (gC (ik (uI (gz (gD lN (gj 3) (dC (.str "")))) (uI (gz (gD (Ab λi j=>.bl (decide (j<i))) (hZ jo (gg (gj 3) gq)) (dC (.int 12)))) (gz (gD mS (gS (i9 [aq] (jc (gj 3)) (gQ 0) (gz (gD (FR aj) (gj 0) (dC (.str "0123456789")))) (gj 0))) (gS (ii gq)))))) (gL (dC (.bl ao))) gK)
 (gC (ik (ny (gz (gD lN (gD jk (gj 3) (dC (.int 0))) (dC (.str "0")))) (gz (gD mS (gj 0) (dC (.str "0"))))) (gL (dC (.bl ao))) gK)
 (gL (jA nJ nJ (gj 1) (hZ r6 (gg (gj 0) gq)) (gj 2))))) (fE Q) [ae (sD l),ae (.int lo),ae (.int hi),ae (sD (iQ l))] M:=by
 have hn:=Bd l;have m:(S (iQ l)).length<=ax:=jP (by omega);have n:=@Fi;have w:=@IB aj;have A:=@Qu;have ns:∀{x y:av} {M:Ms} {Q:DK},Q (.bl (!(x==y))) M->mS (.str x) (.str y) M Q:=λq=>q;have no:ka 12 l=ao->Q (.bl ao):=λh=>by unfold CW at q;rw[h] at q;exact q
 generalize nJ=ge at n ⊢;generalize FR aj=N at w ⊢;generalize mS=E at A ns ⊢;refine(show(if(S (iQ l)==("":av))=aj then _ else _) from ?_);rw[show(S (iQ l)==("":av))=jV (iQ l) [] from qW (iQ l) ""];cases o:jV (iQ l) [] with
 |true=>
  rw[if_pos rfl];refine⟨rfl,no ?_⟩;unfold ka;rw[iR.mp o];rfl
 |false=>
  rw[if_neg am];have f:1<=(iQ l).length:=by
   cases h:iQ l with
   |nil=>rw[h] at o;cases o
   |cons a r=>simp
  refine⟨_,show(if(S (iQ l)).length<=ax then _ else _)=_ from if_pos m,?_⟩;rw[iL];refine(show(if decide ((12:Int)<((iQ l).length:Nat))=aj then _ else _) from ?_);by_cases B:(iQ l).length<=12;case neg=>
   rw[if_pos (decide_eq_true (by omega))];refine⟨rfl,no ?_⟩;unfold ka;rw[show bM (iQ l).length 12=ao by rw[d7];exactλz=>B (bP.mp z),cw];rfl
  rw[if_neg (by simp;omega)];refine⟨_,rfl,rfl,?_⟩;refine qc (λc:Nat=>D.str ⟨#[c]⟩) (λc=>D.str ⟨#[c]⟩) (λc=>!CL c) ?_ (iQ l) [] ?_ (λc hc O g=>?_) ?_
  ·exact rfl
  ·rw[bC,bJ];exact iJ (by omega)
  ·refine w ?_;rw[if_pos rfl,Qr];cases hb:CL c with
   |true=>rw[hb] at g;exact g _ rfl
   |false=>rw[hb] at g;exact g _ rfl
  refine⟨bx _,A (λc h=>hc c (IC (List.mem_filter.mp h).1)) ?_⟩;rw[zi];cases p:(iQ l).all CL with
  |false=>
   refine⟨rfl,no ?_⟩;unfold ka;rw[p,cw];rfl
  |true=>
   obtain⟨G,H⟩:=CN p f (by omega);have I:bM 1 (iQ l).length=aj:=bP.mpr f;have J:bM (iQ l).length 12=aj:=bP.mpr B;have b:ka 12 l=!(HF (iQ l)&&!jV l [48]):=by unfold ka;rw[I,J,p];rfl
   have u:ka 12 l=aj->(gL (jA ge ge (gj 1) (hZ r6 (gg (gj 0) gq)) (gj 2))) (fE Q) [ae (sD l),ae (.int lo),ae (.int hi),ae (sD (iQ l))] M:=λh=>by
    unfold CW at q;rw[h,cf] at q;refine⟨_,H,G,n ?_⟩;cases e:decide (lo<=Ba l) with
    |false=>rw[e] at q;exact⟨rfl,q⟩
    |true=>rw[e,cf] at q;exact n ⟨rfl,q⟩
   cases v:iQ l with
   |nil=>rw[v] at f;cases f
   |cons a r=>
    rw[v] at m;refine⟨m,a,jG (k:=0) rfl,?_⟩;refine(show(if((⟨#[a]⟩:av)==("0":av))=aj then _ else _) from ?_);rw[v] at u b;rw[show((⟨#[a]⟩:av)==("0":av))=HF (a::r) by
     rw[show(⟨#[a]⟩:av)=S [a] from rfl,qW];show(bH a 48&&aj)=bH a 48;rw[Bool.and_true]]
    cases e:HF (a::r) with
    |false=>rw[if_neg am];exact u (by rw[b,e];rfl)
    |true=>
     rw[if_pos rfl];rw[e,cf,Bool.not_not] at b;refine ns ?_;rw[show(S l==("0":av))=jV l [48] from qW l "0"];cases C:jV l [48] with
     |true=>exact u (by rw[b,C])
     |false=>exact⟨rfl,no (by rw[b,C])⟩
theorem ID(l:List Nat):jV (l.take 1) [45]=neg l:=by
 cases l with
 |nil=>rfl
 |cons a r=>show(bH a 45&&aj)=bH a 45;rw[Bool.and_true]
theorem Ug:∀ds Q,LS ds Q->mO 4 3 oS ds Q:=by
 rintro ds Q ⟨l,lo,hi,b,hc,h,q⟩
 subst h;have key:=LU (M:=[]) b hc q;have a:(S l).length<=ax:=jP (by omega);refine⟨rfl,a,?_⟩;have e1:bQ (S l) aq (ae 1)=S (l.take 1):=sE 1;refine(show(if(bQ (S l) aq (ae 1)==("-":av))=aj then _ else _) from ?_);rw[e1,show(S (l.take 1)==("-":av))=neg l from(qW _ "-").trans (ID l)];cases hb:neg l with
 |false=>
  rw[if_neg am];rw[ww hb] at key;exact key
 |true=>
  rw[if_pos rfl];refine⟨a,?_⟩;rw[wv hb,show sD (l.drop 1)=D.str (bQ (S l) (ae 1) aq) from congrArg D.str (pM 1).symm] at key;exact key
noncomputable def uF(c:Nat)(l:List Nat):Bool:=bif bH c 98 then CW 0 3 l else bif bH c 110 then CW (-2147483648) 2147483647 l else nY (S l)
def Bk:GP:=λds Q=>∃(l:List Nat) (c:Nat),l.length<=1000/\(∀c∈l,c<128)/\ds=[sD l,.str ⟨#[c]⟩]/\Q (.bl (uF c l))
theorem Fw:jS Bk:=λds P Q w ⟨l,a,h,c,e,q⟩=>⟨l,a,h,c,e,w _ q⟩
theorem one_beq(c k:Nat):((⟨#[c]⟩:av)==(⟨#[k]⟩:av))=bH c k:=by rw[show(⟨#[c]⟩:av)=S [c] from rfl,qW];show(bH c k&&aj)=_;rw[Bool.and_true]
theorem Uh:∀ds Q,Bk ds Q->mO 2 2 (wm (cl LS) (cl tP)) ds Q:=by
 rintro ds Q ⟨l,c,a,hc,h,q⟩
 subst h;unfold uF at q;refine⟨rfl,?_⟩;refine(show(if((⟨#[c]⟩:av)==("b":av))=aj then _ else _) from ?_);rw[show((⟨#[c]⟩:av)==("b":av))=bH c 98 from one_beq c 98];cases b:bH c 98 with
 |true=>rw[b] at q;rw[if_pos rfl];exact⟨rfl,l,_,_,a,hc,rfl,rfl,q⟩
 |false=>
  rw[b] at q;rw[if_neg am];refine(show(if((⟨#[c]⟩:av)==("n":av))=aj then _ else _) from ?_);rw[show((⟨#[c]⟩:av)==("n":av))=bH c 110 from one_beq c 110];cases e:bH c 110 with
  |true=>rw[e] at q;rw[if_pos rfl];exact⟨rfl,l,_,_,a,hc,rfl,rfl,q⟩
  |false=>rw[e] at q;rw[if_neg am];exact⟨rfl,l,a,rfl,rfl,q⟩
noncomputable def sN(l:List Nat):D:=bif nY (S l) then sD l else .int (Ba l)
def Bl:GP:=λds Q=>∃l:List Nat,l.length<=1000/\ds=[sD l]/\(nY (S l)=aj\/ka 12 l=aj)/\Q (sN l)
theorem Fx:jS Bl:=λds P Q w ⟨l,a,h,e,q⟩=>⟨l,a,h,e,w _ q⟩
theorem Fy{m:Nat}{l:List Nat}(hm:m<=600)(h:ka m l=aj):PySem.intText? (S l)=ae (Ba l)/\(S l).length<=640:=by unfold ka at h;rw[aD,aD,aD,bP,bP] at h;exact CN h.1.2 h.1.1.1 (by omega)
theorem Ui:∀ds Q,Bl ds Q->mO 1 1 (uo (cl tP)) ds Q:=by
 rintro ds Q ⟨l,f,h,c,q⟩
 subst h;unfold sN at q;refine⟨rfl,rfl,l,f,rfl,?_⟩;cases e:nY (S l) with
 |true=>rw[e] at q;exact⟨rfl,q⟩
 |false=>
  rw[e] at q;rcases c with c|c
  ·rw[e] at c;cases c
  ·obtain⟨a,b⟩:=Fy (by decide) c;exact⟨_,b,a,rfl,q⟩
theorem IE{c:Nat}{l:List Nat}(h:uF c l=aj):nY (S l)=aj\/ka 12 l=aj:=by
 unfold uF CW at h;cases a:bH c 98 with
 |true=>rw[a] at h;exact .inr (aD _ _▸h:_/\_).1
 |false=>
  rw[a] at h;cases b:bH c 110 with
  |true=>rw[b] at h;exact .inr (aD _ _▸h:_/\_).1
  |false=>rw[b] at h;exact .inl h
end ll
namespace ll
open PySem PySem.Spec L2 L3 FJ
noncomputable def oF:List (List Nat×List Nat):=[([115,101,116],[98,110]),([97,100,100],[98,98]),([116,97,107,101],[98,98]),([115,97,121],[98]),([97,115,107],[98]),([106,117,109,112],[119]),([106,117,109,112,105,102],[98,119]),([99,97,108,108],[119]),([98,97,99,107],[]),([115,116,111,112],[]),([108,111,97,100],[98,98,119]),([106,117,109,112,98,121],[98,119]),([97,108,105,107,101],[98,119,119])]
theorem Ec{β:Type}{k:List Nat}{d:β}:∀{rs:List (List Nat×β)},BF k rs=ae d->(k,d)∈rs
 |[],h=>by cases h
 |r::rs,h=>by
  unfold BF at h;cases e:jV k r.1 with
  |true=>
   rw[e] at h;cases h;rw[iR.mp e];exact a8
  |false=>rw[e] at h;exact au _ (Ec h)
theorem IF{s:Nat}:∀{l:List (List Nat)} {x:List Nat} {c:Nat},x∈l->c∈x->c∈jl s l
 |[],x,c,h,_=>by cases h
 |[y],x,c,h,hc=>by rw[aZ.mp h] at hc;exact hc
 |y::z::r,x,c,h,hc=>by
  show c∈y++s::jl s (z::r);rcases aE.mp h with rfl|h
  ·exact br _ hc
  ·exact bh _ (au _ (IF h hc))
theorem zj{c:Nat}{l p:List Nat}{a:Nat}(h:p∈kL c l)(ha:a∈p):a∈l:=by
 have:=IF (s:=c) h ha
 rwa [(oA c l).2.2] at this
theorem NG(l:List Nat)(x:av):(x==S l)=jV l x.cps.toList:=by rw[bB,beq_iff_eq,iR];exact⟨λh=>by rw[h];rfl,λh=>by rw[h,PY]⟩
theorem Ed(k:List Nat):∀rs:List (List Nat×List Nat),qm (.inr (S k)) (rs.map λr=>.inr (S r.1)) (rs.map λr=>sD r.2)=(BF k rs).map sD
 |[]=>rfl
 |r::rs=>by
  rw[aU,aU];unfold qm BF;rw[Ed k rs];cases h:jV k r.1 with
  |true=>rw[if_pos (by rw[iR.mp h])];rfl
  |false=>
   rw[if_neg (λz=>by have z:=Nu (fh.inj z);rw[iR.mpr z.symm] at h;cases h)];rfl
noncomputable def Qv(k:List Nat)(told:List (List Nat)):D:=
 bif jV k jD||jV k jX then
  bif told.isEmpty||!(told.all (uF (bif jV k jX then 119 else 110))) then .non else .tup [sD k,.lst (told.map sN)]
 else match BF k oF with
 |none=>.non
 |some fs=>bif bH told.length fs.length&&(told.zip fs).all (λp=>uF p.2 p.1) then .tup (sD k::told.map sN) else .non
noncomputable def o8(l:List Nat):D:=
 bif jV (l.drop (l.length- 1)) [58] then
  bif nY (S (l.take (l.length- 1- (bif jV (l.drop (l.length- 2)) [58,58] then 1 else 0)))) then .tup [.str "mark",sD (l.take (l.length- 1- (bif jV (l.drop (l.length- 2)) [58,58] then 1 else 0))),.bl (jV (l.drop (l.length- 2)) [58,58])] else .non
 else match kL 32 l with
 |[]=>.non
 |k::told=>Qv k told
theorem Ee(l:List Nat):nl (sN l)=aj:=by unfold sN;cases nY (S l)<;>rfl
def IG:GP:=λds Q=>∃l:List Nat,l.length<=900/\(∀c∈l,c<128)/\ds=[.str (S l)]/\Q (o8 l)
theorem Fz:jS IG:=λds P Q w ⟨n,h,c,e,q⟩=>⟨n,h,c,e,w _ q⟩
def XM (a b:GN):DS:=(gC (ip 4 (uy (xC [((dC (.str "set")),(dC (.str "bn"))),((dC (.str "add")),(dC (.str "bb"))),((dC (.str "take")),(dC (.str "bb"))),((dC (.str "say")),(dC (.str "b"))),((dC (.str "ask")),(dC (.str "b"))),((dC (.str "jump")),(dC (.str "w"))),((dC (.str "jumpif")),(dC (.str "bw"))),((dC (.str "call")),(dC (.str "w")))])))
 (gC (lW (o7 "dict" vP (gj 4) (gg (gS (xC [((dC (.str "back")),(dC (.str ""))),((dC (.str "stop")),(dC (.str ""))),((dC (.str "load")),(dC (.str "bbw"))),((dC (.str "jumpby")),(dC (.str "bw"))),((dC (.str "alike")),(dC (.str "bww")))])) gq)))
 (gC (ik (gz (gD (FR ao) (gD jk (gj 3) (dC (.int 0))) (i3 (gg (dC (.str "numbers")) (gg (dC (.str "table")) gq))))) (gC (ip 5 (gD jk (gS (ii (gg (dC (.str "n")) (gg (dC (.str "w")) gq)))) (hZ As (gg (gD lN (gD jk (gj 3) (dC (.int 0))) (dC (.str "table"))) gq))))
 (gC (ik (uI (gz (gD OZ (hZ jo (gg (gj 3) gq)) (dC (.int 2)))) (k9 (gz (hZ tw (gg (gS (i9 [aq,ae 5] (jc (k7 (gj 3) (ig (dC (.int 1))) gE)) (gQ 0) lg (hZ a (gg (gj 0) (gg (gj 1) gq))))) gq))))) (gL (dC .non)) gK)
 (gL (i3 (gg (gD jk (gj 3) (dC (.int 0))) (gg (gS (i9 [aq] (jc (k7 (gj 3) (ig (dC (.int 1))) gE)) (gQ 0) lg (hZ b (gg (gj 0) gq)))) gq)))))) gK)
 (gC (ip 5 (o7 "dict" xG (gj 4) (gg (gD jk (gj 3) (dC (.int 0))) gq)))
 (gC (ik (uI (gz (gD KC (gj 5) (dC .non))) (gz (gD mS (hZ jo (gg (gj 3) gq)) (gD gJ (dC (.int 1)) (hZ jo (gg (gj 5) gq)))))) (gL (dC .non)) gK)
 (gC (ik (k9 (gz (hZ tw (gg (gS (i9 [aq,aq] (vI (gg (k7 (gj 3) (ig (dC (.int 1))) gE) (gg (gj 5) gq))) (nz 2 (jf (gQ 0) (jf (gQ 1) py))) lg (hZ a (gg (gj 0) (gg (gj 1) gq))))) gq)))) (gL (dC .non)) gK)
 (gL (hZ tD (gg (gD gJ (gS (ii (gg (gD jk (gj 3) (dC (.int 0))) gq))) (gS (i9 [aq] (jc (k7 (gj 3) (ig (dC (.int 1))) gE)) (gQ 0) lg (hZ b (gg (gj 0) gq))))) gq)))))))))
theorem Uj(a b c:GN):tN a b c=(gC (ik (gz (gD lN (k7 (gj 0) (ig (qp (dC (.int 1)))) gE) (dC (.str ":")))) (gC (ip 1 (gD lN (k7 (gj 0) (ig (qp (dC (.int 2)))) gE) (dC (.str "::"))))
 (gC (ip 2 (k7 (gj 0) gE (ig (gD (Ab λi j=>.int (i- j)) (gD (Ab λi j=>.int (i- j)) (hZ jo (gg (gj 0) gq)) (dC (.int 1))) (hZ As (gg (gj 1) gq))))))
 (gC (ik (k9 (gz (hZ a (gg (gj 2) gq)))) (gL (dC .non)) gK)
 (gL (i3 (gg (dC (.str "mark")) (gg (gj 2) (gg (gj 1) gq)))))))) gK)
 (gC (ip 3 (o7 "str" mf (gj 0) (gg (dC (.str " ")) gq)))
 (XM b c))):=rfl
noncomputable def dK:OD:=.jR (oF.map λr=>.inr (S r.1)) (oF.map λr=>sD r.2)
def XN (a b:GN):DS:=(gC (ik (gz (gD (FR ao) (gD jk (gj 3) (dC (.int 0))) (i3 (gg (dC (.str "numbers")) (gg (dC (.str "table")) gq))))) (gC (ip 5 (gD jk (gS (ii (gg (dC (.str "n")) (gg (dC (.str "w")) gq)))) (hZ As (gg (gD lN (gD jk (gj 3) (dC (.int 0))) (dC (.str "table"))) gq))))
 (gC (ik (uI (gz (gD OZ (hZ jo (gg (gj 3) gq)) (dC (.int 2)))) (k9 (gz (hZ tw (gg (gS (i9 [aq,ae 5] (jc (k7 (gj 3) (ig (dC (.int 1))) gE)) (gQ 0) lg (hZ a (gg (gj 0) (gg (gj 1) gq))))) gq))))) (gL (dC .non)) gK)
 (gL (i3 (gg (gD jk (gj 3) (dC (.int 0))) (gg (gS (i9 [aq] (jc (k7 (gj 3) (ig (dC (.int 1))) gE)) (gQ 0) lg (hZ b (gg (gj 0) gq)))) gq)))))) gK)
 (gC (ip 5 (o7 "dict" xG (gj 4) (gg (gD jk (gj 3) (dC (.int 0))) gq)))
 (gC (ik (uI (gz (gD KC (gj 5) (dC .non))) (gz (gD mS (hZ jo (gg (gj 3) gq)) (gD gJ (dC (.int 1)) (hZ jo (gg (gj 5) gq)))))) (gL (dC .non)) gK)
 (gC (ik (k9 (gz (hZ tw (gg (gS (i9 [aq,aq] (vI (gg (k7 (gj 3) (ig (dC (.int 1))) gE) (gg (gj 5) gq))) (nz 2 (jf (gQ 0) (jf (gQ 1) py))) lg (hZ a (gg (gj 0) (gg (gj 1) gq))))) gq)))) (gL (dC .non)) gK)
 (gL (hZ tD (gg (gD gJ (gS (ii (gg (gD jk (gj 3) (dC (.int 0))) gq))) (gS (i9 [aq] (jc (k7 (gj 3) (ig (dC (.int 1))) gE)) (gQ 0) lg (hZ b (gg (gj 0) gq))))) gq)))))))
theorem LV{a b:GN}{E:iV}{c e f g:Option D}(q:XN a b E [c,e,f,g,ae (.loc 0),aq] [ae dK]):XM a b E [c,e,f,g,aq,aq] []:=by refine⟨rfl,_,rfl,by decide+kernel,rfl,?_⟩;refine⟨rfl,rfl,_,rfl,by decide+kernel,rfl,_,_,rfl,by decide+kernel,?_⟩;exact q
theorem NH:∀(ws:List (List Nat)) (cs:List Nat),bS (λa b=>D.tup [a,b]) (ws.map sD) (cs.map λc=>D.str ⟨#[c]⟩)=(ws.zip cs).map λp=>D.tup [sD p.1,.str ⟨#[p.2]⟩]
 |[],_=>rfl
 |f::fs,[]=>rfl
 |f::fs,x::xs=>by show D.tup _::_=D.tup _::_;rw[NH fs xs];rfl
theorem LW{o n:GN}(pf:∀{l:List Nat} {c:Nat} {M:Ms} {Q:DK},l.length<=1000->(∀c∈l,c<128)->Q (.bl (uF c l)) M->o [sD l,.str ⟨#[c]⟩] M Q)(I:∀{l:List Nat} {M:Ms} {Q:DK},l.length<=1000->(nY (S l)=aj\/ka 12 l=aj)->Q (sN l) M->n [sD l] M Q)
{k:List Nat}{told:List (List Nat)}(hn:told.length<=1000)(hw:∀w∈told,w.length<=1000/\∀c∈w,c<128){v y A:Option D}{Q:D->Prop}(q:Q (Qv k told)):
  XN o n (fE Q) [v,y,A,ae (.lst (sD k::told.map sD)),ae (.loc 0),aq] [ae dK]:=by
 have L:∀{a b:Nat},bM a b=aj->a<=b:=a9;have B:∀{J:j2} {M:Ms} {st:Ms->Prop} {R:List D->Ms->Prop},st M->(∀w∈told,nY (S w)=aj\/ka 12 w=aj)->R (told.map sN) M->lC [aq] (gQ 0) lg (hZ n (gg (gj 0) gq)) st R (told.map sD) [] (pA [aq] J) M:=λN O r=>by
  refine iS sD sN N told [] ?_ (λw g C i=>?_) (by rw[bv];exact r)
  ·rw[bC,bJ];exact iJ (by omega)
  ·exact I (hw w g).1 (O w g) (i _ rfl)
 refine⟨_,jG (k:=0) rfl,L rfl,_,rfl,?_⟩;unfold Qv at q;refine(show(if((("numbers":av)==S k)||((("table":av)==S k)||false))=aj then _ else _) from ?_);rw[show(("numbers":av)==S k)=jV k jD from NG k "numbers",show(("table":av)==S k)=jV k jX from NG k "table",Bool.or_false];cases E:jV k jD||jV k jX with
 |true=>
  rw[E] at q;have q:Q (bif told.isEmpty||!(told.all (uF (bif jV k jX then 119 else 110))) then .non else .tup [sD k,.lst (told.map sN)]):=q;rw[if_pos rfl];have G:∀c:Nat,Q (bif told.isEmpty||!(told.all (uF c)) then .non else .tup [sD k,.lst (told.map sN)])->((gC (ik (uI (gz (gD OZ (hZ jo (gg (gj 3) gq)) (dC (.int 2)))) (k9 (gz (hZ tw (gg (gS (i9 [aq,ae 5] (jc (k7 (gj 3) (ig (dC (.int 1))) gE)) (gQ 0) lg (hZ o (gg (gj 0) (gg (gj 1) gq))))) gq))))) (gL (dC .non)) gK)
 (gL (i3 (gg (gD jk (gj 3) (dC (.int 0))) (gg (gS (i9 [aq] (jc (k7 (gj 3) (ig (dC (.int 1))) gE)) (gQ 0) lg (hZ n (gg (gj 0) gq)))) gq)))))) (fE Q) [v,y,A,ae (.lst (sD k::told.map sD)),ae (.loc 0),ae (.str ⟨#[c]⟩)] [ae dK]:=λc q=>by
   refine⟨_,rfl,?_⟩;refine(show(if decide ((((sD k::told.map sD).length:Nat):Int)<2)=aj then _ else _) from ?_);rw[aM,ap];cases f:told.isEmpty with
   |true=>
    rw[f] at q;rw[List.isEmpty_iff] at f;subst f;exact⟨rfl,q⟩
   |false=>
    rw[f,Bool.false_or] at q;have:told.length≠0:=λz=>by rw[cW] at z;rw[z] at f;cases f
    rw[if_neg (by simp;omega)];refine⟨_,rfl,rfl,?_⟩;rw[Fp];refine iS sD (λw=>.bl (uF c w)) ?_ told [] ?_ (λw g C i=>?_) ?_
    ·exact rfl
    ·rw[bC,bJ];exact iJ (by omega)
    ·exact pf (hw w g).1 (hw w g).2 (i _ rfl)
    ·refine⟨told.map (uF c),by show D.lst _=D.lst _;rw[bv,bF];rfl,?_⟩;rw[show(told.map (uF c)).all id=told.all (uF c) by simp[dL]];cases e:told.all (uF c) with
     |false=>rw[e] at q;exact⟨rfl,q⟩
     |true=>
      rw[e] at q;refine⟨_,jG (k:=0) rfl,_,rfl,rfl,?_⟩;rw[Fp];refine B ?_ (λw g=>IE (bj.mp e w g)) ⟨L rfl,?_,q⟩
      ·exact rfl
      show(aj&&(ql (told.map sN)&&aj))=aj;rw[kN Ee];rfl
  refine⟨L rfl,_,jG (k:=0) rfl,?_⟩;cases e:jV k jX with
  |true=>
   rw[e] at q;have h:(S k==("table":av))=aj:=(qW k "table").trans e;have key:=G 119 q;refine(show jk (.lst [.str "n",.str "w"]) (.int (if(S k==("table":av))=aj then 1 else 0)) _ _ from ?_);rw[h];exact⟨_,jG (k:=1) rfl,key⟩
  |false=>
   rw[e] at q;have h:(S k==("table":av))=ao:=(qW k "table").trans e;have key:=G 110 q;refine(show jk (.lst [.str "n",.str "w"]) (.int (if(S k==("table":av))=aj then 1 else 0)) _ _ from ?_);rw[h];exact⟨_,jG (k:=0) rfl,key⟩
 |false=>
  rw[E] at q;rw[if_neg am];refine⟨rfl,_,jG (k:=0) rfl,_,rfl,?_⟩;rw[Ed];cases f:BF k oF with
  |none=>rw[f] at q;exact⟨rfl,q⟩
  |some fs=>
   rw[f] at q;have q:Q (bif bH told.length fs.length&&(told.zip fs).all (λp=>uF p.2 p.1) then .tup (sD k::told.map sN) else .non):=q;have U:fs.length<=3:=by
    have m:=Ec f;have:∀r∈oF,r.2.length<=3:=by decide
    exact this _ m
   have u:(S fs).length<=ax:=jP (by omega);refine⟨_,rfl,_,show(if(S fs).length<=ax then _ else _)=_ from if_pos u,?_⟩;rw[iL];refine(show(if(!((((sD k::told.map sD).length:Nat):Int)==1+((fs.length:Nat):Int)))=aj then _ else _) from ?_);rw[aM,ap,show((((told.length+1:Nat)):Int)==1+((fs.length:Nat):Int))=bH told.length fs.length by rw[bB,beq_iff_eq,Nat.beq_eq];omega];cases e:bH told.length fs.length with
   |false=>rw[e] at q;rw[Bool.not_false,if_pos rfl];exact⟨rfl,q⟩
   |true=>
    rw[e,cf] at q;have Y:=dD e;rw[Bool.not_true,if_neg am];refine⟨_,_,rfl,rfl,⟨rfl,rfl⟩,?_⟩;rw[Fp,show(List.map (λc=>D.str ⟨#[c]⟩) (S fs).cps.toList)=fs.map λc=>D.str ⟨#[c]⟩ from rfl,NH];refine iS (λp:List Nat×Nat=>D.tup [sD p.1,.str ⟨#[p.2]⟩]) (λp=>.bl (uF p.2 p.1)) ?_ (told.zip fs) [] ?_ (λp T C i=>?_) ?_
    ·exact⟨rfl,rfl⟩
    ·rw[bC,bJ,dj];exact iJ (by omega)
    ·have hw:=hw p.1 (eJ T).1;exact⟨rfl,rfl,pf hw.1 hw.2 (i _ rfl)⟩
    ·refine⟨(told.zip fs).map λp=>uF p.2 p.1,by show D.lst _=D.lst _;rw[bv,bF];rfl,?_⟩;rw[show((told.zip fs).map λp=>uF p.2 p.1).all id=(told.zip fs).all λp=>uF p.2 p.1 by simp[dL]];cases h:(told.zip fs).all λp=>uF p.2 p.1 with
     |false=>rw[h] at q;exact⟨rfl,q⟩
     |true=>
      rw[h] at q;refine⟨_,jG (k:=0) rfl,L rfl,_,rfl,rfl,?_⟩;rw[Fp];refine B ?_ (λw g=>?_) ?_
      ·exact rfl
      ·obtain⟨j,H⟩:=List.getElem?_of_mem g;have YO:=(aC.mp H).1;have:(told.zip fs)[j]?=ae (w,fs[j]'(by omega)):=by rw[List.getElem?_zip_eq_some];exact⟨H,by simp⟩
       exact IE (bj.mp h _ (bu this))
      ·refine⟨?_,?_⟩
       ·show 1+(told.map sN).length<=ax;rw[ap];exact iJ (by omega)
       ·show nl (.tup ((sD k::told.map sN).map (vw [ae dK])))=aj/\Q (.tup ((sD k::told.map sN).map (vw [ae dK])));rw[show(sD k::told.map sN).map (vw [ae dK])=sD k::told.map sN by
         rw[aU,bF,show vw [ae dK]∘sN=sN from funext λl=>by show vw _ (sN l)=_;unfold sN;cases nY (S l)<;>rfl];rfl]
        refine⟨?_,q⟩;show(aj&&ql (told.map sN))=aj;rw[kN Ee];rfl
theorem Uk:∀ds Q,IG ds Q->mO 6 1 (tN (cl tP) (cl Bk) (cl Bl)) ds Q:=by
 rintro ds Q ⟨l,r,hc,e,q⟩
 subst e;have L:∀{a b:Nat},bM a b=aj->a<=b:=a9;have g:(S l).length<=ax:=jP (by omega);have pf:∀{l:List Nat} {c:Nat} {M:Ms} {Q:DK},l.length<=1000->(∀c∈l,c<128)->Q (.bl (uF c l)) M->cl Bk [sD l,.str ⟨#[c]⟩] M Q:=λh j q=>⟨rfl,_,_,h,j,rfl,q⟩;have u:∀{l:List Nat} {M:Ms} {Q:DK},l.length<=1000->(nY (S l)=aj\/ka 12 l=aj)->Q (sN l) M->cl Bl [sD l] M Q:=λh j q=>⟨rfl,_,h,rfl,j,q⟩;have o:=@LW _ _ pf u;have head:=@LV (cl Bk) (cl Bl);rw[Uj];generalize XN (cl Bk) (cl Bl)=A at o head;generalize XM (cl Bk) (cl Bl)=B at head ⊢;unfold o8 at q;have e1:bQ (S l) (ae (-1)) aq=S (l.drop (l.length- 1)):=A8 1 (by decide);have e2:bQ (S l) (ae (-2)) aq=S (l.drop (l.length- 2)):=A8 2 (by decide);refine⟨rfl,g,?_⟩;refine(show(if(bQ (S l) (ae (-1)) aq==(":":av))=aj then _ else _) from ?_);rw[e1,show(S (l.drop (l.length- 1))==(":":av))=jV (l.drop (l.length- 1)) [58] from qW _ ":"];cases h:jV (l.drop (l.length- 1)) [58] with
 |true=>
  rw[h] at q;rw[if_pos rfl];have v:1<=l.length:=by have:=congrArg fO (iR.mp h);rw[bt] at this;have:l.length- (l.length- 1)=1:=this;omega
  refine⟨g,_,show(if(S l).length<=ax then _ else _)=_ from if_pos g,?_⟩;rw[iL,e2,show(S (l.drop (l.length- 2))==("::":av))=jV (l.drop (l.length- 2)) [58,58] from qW _ "::"];have e4:∀(n:Nat) (i:Int),i=(n:Int)->bQ (S l) aq (ae i)=S (l.take n):=by rintro n _ rfl;exact sE n
  cases j:jV (l.drop (l.length- 2)) [58,58] with
  |true=>
   rw[j] at q;have v:2<=l.length:=by have:=congrArg fO (iR.mp j);rw[bt] at this;have:l.length- (l.length- 2)=2:=this;omega
   have e5:=e4 (l.length- 1- 1) ((l.length:Int)- 1- 1) (by omega);refine⟨g,rfl,l.take (l.length- 1- 1),by rw[bi];omega,congrArg (λx=>[D.str x]) e5,?_⟩;have q:Q (bif nY (S (l.take (l.length- 1- 1))) then .tup [.str "mark",sD (l.take (l.length- 1- 1)),.bl aj] else .non):=q;cases f:nY (S (l.take (l.length- 1- 1))) with
   |false=>rw[f] at q;exact⟨rfl,q⟩
   |true=>
    rw[f] at q;refine⟨L rfl,rfl,?_⟩;show Q (.tup [.str "mark",.str (bQ (S l) aq (ae ((l.length:Int)- 1- 1))),.bl aj]);rw[e5];exact q
  |false=>
   rw[j] at q;have e5:=e4 (l.length- 1- 0) ((l.length:Int)- 1- 0) (by omega);refine⟨g,rfl,l.take (l.length- 1- 0),by rw[bi];omega,congrArg (λx=>[D.str x]) e5,?_⟩;have q:Q (bif nY (S (l.take (l.length- 1- 0))) then .tup [.str "mark",sD (l.take (l.length- 1- 0)),.bl ao] else .non):=q;cases f:nY (S (l.take (l.length- 1- 0))) with
   |false=>rw[f] at q;exact⟨rfl,q⟩
   |true=>
    rw[f] at q;refine⟨L rfl,rfl,?_⟩;show Q (.tup [.str "mark",.str (bQ (S l) aq (ae ((l.length:Int)- 1- 0))),.bl ao]);rw[e5];exact q
 |false=>
  rw[h] at q;rw[if_neg am];have e3:cI (S l) " "=(kL 32 l).map S:=sB 32 l;have hm:=sC 32 l;refine⟨rfl,rfl,g,by rw[e3,ap];exact iJ (by omega),?_⟩;rw[e3];cases f:kL 32 l with
  |nil=>exact absurd f (oA 32 l).1
  |cons k told=>
   rw[f] at q;rw[f,aM] at hm;have g:∀p∈k::told,p.length<=900:=λp m=>aQ (p9 (c:=32) (by rw[f];exact m)) r;have y:∀p∈k::told,∀c∈p,c<128:=λp m c z=>hc c (zj (c:=32) (by rw[f];exact m) z);refine head ?_;rw[aU,aU,bF];exact o (by omega) (λw hw=>⟨aQ (g w (au _ hw)) (by decide),y w (au _ hw)⟩) q
end ll
namespace ll
open PySem PySem.Spec L2 L3 FJ
abbrev Ef(l:List Nat):Prop:=∀c∈l,c<128
theorem XO{l:List Nat}(h:Ef l):pl (sD l)=aj:=by
 unfold sD pl cU.strOk;rw[Array.all_eq_true_iff_forall_mem];intro c hc;have:c∈l:=by simpa[S] using hc
 exact decide_eq_true (Nat.lt_trans (h c this) (by decide))
theorem zk{β:Type}{f:β->D}:∀{xs:List β},(∀x∈xs,pl (f x)=aj)->B7 (xs.map f)=aj
 |[],_=>rfl
 |x::xs,h=>by rw[aU];unfold B7;rw[h x (by simp),zk λy a=>h y (au _ a)];rfl
theorem zl{β:Type}{f:β->D}{n:Nat}:∀{xs:List β},(∀x∈xs,dp (f x)<=n)->FQ (xs.map f)<=n
 |[],_=>by unfold List.map FQ;exact bx _
 |x::xs,h=>by rw[aU];unfold FQ;have:=h x (by simp);have:=zl λy a=>h y (au _ a);omega
def wV (n:Nat)(d:D):Prop:=pl d=aj/\dp d<=n
theorem Bm{l:List Nat}(h:Ef l):wV 0 (sD l):=⟨XO h,by unfold sD dp;exact aY _⟩
theorem uV{β:Type}{f:β->D}{n:Nat}{xs:List β}(h:∀x∈xs,wV n (f x)):wV (n+1) (.lst (xs.map f)):=
 ⟨by unfold pl;exact zk λx a=>(h x a).1,by unfold dp;have:=zl λx a=>(h x a).2;omega⟩
theorem uW{ds:List D}{n:Nat}(h:∀d∈ds,wV n d):wV (n+1) (.tup ds):=by
 have:=fg ds;refine⟨?_,?_⟩
 ·unfold pl;rw[<-this];exact zk λx a=>(h x a).1
 ·unfold dp;rw[<-this];have:=zl (f:=id) λx a=>(h x a).2;omega
theorem wV.le{n m:Nat}{d:D}(h:wV n d)(l:n<=m):wV m d:=⟨h.1,aQ h.2 l⟩
theorem II{l:List Nat}(h:Ef l):wV 0 (sN l):=by
 unfold sN;cases nY (S l)
 ·exact⟨rfl,by show dp (.int _)<=0;unfold dp;exact aY _⟩
 ·exact Bm h
theorem sH{n:Nat}:wV n .non:=⟨rfl,by unfold dp;exact bx _⟩
theorem LX{k:List Nat}{told:List (List Nat)}(a:Ef k)(b:∀w∈told,Ef w):wV 2 (Qv k told):=by
 unfold Qv;cases jV k jD||jV k jX with
 |true=>
  show wV 2 (bif _ then _ else _);cases told.isEmpty||!(told.all (uF (bif jV k jX then 119 else 110))) with
  |true=>exact sH
  |false=>
   refine uW (n:=1) λd hd=>?_;rcases aE.mp hd with rfl|hd
   ·exact(Bm a).le (by decide)
   ·rw[aZ.mp hd];exact uV λw hw=>II (b w hw)
 |false=>
  show wV 2 (match BF k oF with|none=>.non|some fs=>_);cases BF k oF with
  |none=>exact sH
  |some fs=>
   show wV 2 (bif _ then _ else _);cases bH told.length fs.length&&(told.zip fs).all (λp=>uF p.2 p.1) with
   |false=>exact sH
   |true=>
    refine uW (n:=1) λd hd=>?_;rcases aE.mp hd with rfl|hd
    ·exact(Bm a).le (by decide)
    ·obtain⟨w,hw,rfl⟩:=cj.mp hd;exact(II (b w hw)).le (by decide)
theorem Eg{l:List Nat}(h:Ef l):wV 2 (o8 l):=by
 unfold o8;cases jV (l.drop (l.length- 1)) [58] with
 |true=>
  show wV 2 (bif _ then _ else _);cases nY (S (l.take (l.length- 1- (bif jV (l.drop (l.length- 2)) [58,58] then 1 else 0)))) with
  |false=>exact sH
  |true=>
   refine uW (n:=1) λd hd=>?_;simp only [aE,bU,or_false] at hd;rcases hd with rfl|rfl|rfl
   ·exact⟨by decide+kernel,by unfold dp;decide⟩
   ·exact(Bm λc hc=>h c (List.mem_of_mem_take hc)).le (by decide)
   ·exact⟨rfl,by unfold dp;decide⟩
 |false=>
  show wV 2 (match kL 32 l with|[]=>.non|k::told=>Qv k told);have hm:∀p∈kL 32 l,Ef p:=λp a c hc=>h c (zj a hc);cases b:kL 32 l with
  |nil=>exact sH
  |cons k told=>
   rw[b] at hm;exact LX (hm k (by simp)) λw hw=>hm w (au _ hw)
noncomputable def wA:List Nat:=[112,97,114,116,32]
noncomputable def zE(l:List Nat):Option (List Nat):=bif jV (l.take 5) wA&&nY (S (l.drop 5)) then ae (l.drop 5) else aq
noncomputable def Eh(l:List Nat):Bool:=!SF (o8 l)
theorem Qw(l:List Nat):nl (o8 l)=aj:=by
 unfold o8 Qv;cases jV (l.drop (l.length- 1)) [58] with
 |true=>
  show nl (bif _ then _ else _)=aj;cases nY (S (l.take (l.length- 1- (bif jV (l.drop (l.length- 2)) [58,58] then 1 else 0))))<;>rfl
 |false=>
  show nl (match kL 32 l with|[]=>.non|k::told=>_)=aj;cases kL 32 l with
  |nil=>rfl
  |cons k told=>
   show nl (bif _ then _ else _)=aj;cases jV k jD||jV k jX with
   |true=>
    show nl (bif _ then _ else _)=aj;cases told.isEmpty||!(told.all (uF (bif jV k jX then 119 else 110))) with
    |true=>rfl
    |false=>show(aj&&(ql (told.map sN)&&aj))=aj;rw[kN Ee];rfl
   |false=>
    show nl (match BF k oF with|none=>.non|some fs=>_)=aj;cases BF k oF with
    |none=>rfl
    |some fs=>
     show nl (bif _ then _ else _)=aj;cases bH told.length fs.length&&(told.zip fs).all (λp=>uF p.2 p.1) with
     |false=>rfl
     |true=>show(aj&&ql (told.map sN))=aj;rw[kN Ee];rfl
section
variable {f:List Nat->D}
theorem NI{g:Ms}{c:List Pl}{Q:DK}(q:Q (.bl c.isEmpty) (j4 f g c)):rR (.loc g.length) (.lst []) (j4 f g c) Q:=by
 unfold rR;rw[CU];show Q (.bl (jU g.length c).isEmpty) _;have e:=sF g.length c;rw[show(jU g.length c).isEmpty=c.isEmpty by
  cases h:jU g.length c with
  |nil=>rw[h] at e;rw[cW.mp e.symm];rfl
  |cons a r=>cases c with
   |nil=>rw[h] at e;cases e
   |cons b t=>rfl]
 exact q
theorem Um{a:Ms}{b:List Pl}{p:Pl}{Q:DK}(q:Q (.bl p.2.isEmpty) (j4 f a (b++[p]))):rR (.loc (a.length+1+b.length)) (.lst []) (j4 f a (b++[p])) Q:=by unfold rR;rw[IA];show Q (.bl (p.2.map f).isEmpty) _;rw[List.isEmpty_map];exact q
theorem XQ{a:Ms}{b:List Pl}{p:Pl}{Q:DK}(c:∀l∈p.2,wV 2 (f l))(q:Q (.bl (!p.2.isEmpty)) (j4 f a (b++[p]))):mS (.loc (a.length+1+b.length)) (.lst []) (j4 f a (b++[p])) Q:=by unfold mS;rw[IA];have h:=uV c;refine⟨⟨h.1,rfl,aQ h.2 (by decide),by show dp (.lst [])<=60;unfold dp FQ;decide⟩,?_⟩;show Q (.bl (!uB (p.2.map f) [])) _;rw[show uB (p.2.map f) []=p.2.isEmpty by cases p.2<;>rfl];exact q
end
end ll
namespace ll
open PySem PySem.Spec L2 L3 FJ
def xR:GP:=λds Q=>∃t,tQ t/\Ef t/\ds=[.str (S t)]/\Q (Ue o8 (rd zE Eh 0 [] (kL 10 t)))
theorem CY:jS xR:=λds P Q w ⟨t,a,b,c,q⟩=>⟨t,a,b,c,w _ q⟩
structure In(ls:List (List Nat))(acc:List Pl):Prop where
 h:∀p∈acc,∀l∈p.2,l∈ls
theorem In.new{ls:List (List Nat)}{acc:List Pl}{n:List Nat}(h:In ls acc):In ls (acc++[(n,[])]):=⟨λp a l b=>by
 rcases aO.mp a with a|a
 ·exact h.h p a l b
 ·rw[aZ.mp a] at b;cases b⟩
theorem In.row{ls:List (List Nat)}{c:List Pl}{n l:List Nat}{rs:List (List Nat)}(h:In ls (c++[(n,rs)]))(e:l∈ls):In ls (c++[(n,rs++[l])]):=⟨λp b x a=>by
 rcases aO.mp b with b|b
 ·exact h.h p (br _ b) x a
 ·rw[aZ.mp b] at a;rcases aO.mp a with a|a
  ·exact h.h (n,rs) (by simp) x a
  ·rw[aZ.mp a];exact e⟩
theorem XR(l:List Nat){M:Ms}{Q:DK}(q:Q (.bl (!Eh l)) M):KC (o8 l) .non M Q:=by unfold Eh at q;rw[Bool.not_not] at q;exact q
def Zo (gs a ge:G2)(ga:GM):DS:=(gC (ik (uI (gz (gD gs (gj 5) (dC .non))) (gz (gD ge (gj 1) (gS (ii gq))))) (gL (gj 3)) gK)
 (lW (o7 "list" ga (gD a (gD a (gj 1) (qp (dC (.int 1)))) (dC (.int 1))) (gg (gj 5) gq))))
theorem Uo{E:iV}{c g h:Option D}{l:List Nat}{j:Nat}{acc:List Pl}(z:j<=400)(u:Small j acc)
(v:∀a n ls,Eh l=aj->acc=a++[(n,ls)]->E.nx [c,ae (.loc 0),g,ae (.int j),h,ae (o8 l)] (j4 o8 [] (a++[(n,ls++[l])])))
(i:(Eh l&&!acc.isEmpty)=ao->E.rt (.int j) (j4 o8 [] acc)):
  Zo KC jk rR iO E [c,ae (.loc 0),g,ae (.int j),h,ae (o8 l)] (j4 o8 [] acc):=by
 have m:=@XR;have x1:=@sG o8 [];have x2:=@wy;have o:=@NI o8 [];have q:=@zh o8 [];generalize KC=A at m ⊢;generalize jk=B at x1 x2 ⊢;generalize rR=C at o ⊢;generalize iO=ga at q ⊢;refine m l ?_;cases b:Eh l with
 |false=>exact i (by rw[b];rfl)
 |true=>
  refine⟨bx _,o ?_⟩;rcases cN acc with rfl|⟨a,p,e⟩
  ·exact i (by rw[b];rfl)
  ·rw[cO] at e;subst e;obtain⟨n,ls⟩:=p;have G:(a++[(n,ls)]).length=a.length+1:=by rw[ay];rfl
   have w:=IA (f:=o8) [] a (n,ls);have y:(a++[(n,ls)]).isEmpty=ao:=by simp
   refine(show(if(a++[(n,ls)]).isEmpty=aj then _ else _) from ?_);rw[y,if_neg am];refine x1 (x2 ⟨by show Rj "list" (vw (j4 o8 [] (a++[(n,ls)])) (.loc (([]:Ms).length+1+a.length)))=aj;rw[w];rfl,q ?_ (v a n ls b rfl)⟩);have:ls.length<=j:=u.r (n,ls) (by simp);exact c8 (show ls.length<=400 by omega) (by decide)
theorem Qx:∀ds Q,xR ds Q->Ln 6 1 (qV (cl tP) (cl IG)) ds Q:=by
 have L:∀{a b:Nat},bM a b=aj->a<=b:=a9
 rintro ds Q ⟨t,h,XT,e,q⟩
 subst e;have e3:cI (S t) "\n"=(kL 10 t).map S:=sB 10 t;have A:(S t).length<=ax:=jP h.s;have hm:=h.n;have hw:=h.l;have I:∀l∈kL 10 t,Ef l:=λl J c hc=>XT c (zj J hc);have pX:=(oA 10 t).1;generalize kL 10 t=ls at e3 hm hw q I pX;have x1:=@sG o8 [];have x2:=@wy;have l0:=@NI o8 [];have l1:=@Um o8 [];have Zp:=@XQ o8 [];have a2:=@Bg o8 [];have r:=@Uo;unfold qV;generalize KC=gn at r ⊢;generalize jk=gx at x1 x2 r ⊢;generalize rR=gl at l0 l1 r ⊢;generalize mS=gne at Zp ⊢;generalize iO=ga at a2 r ⊢;refine⟨rfl,bx _,rfl,rfl,A,by rw[e3,ap];exact iJ (by omega),?_⟩;rw[e3];refine⟨_,rfl,rfl,?_⟩;refine rP (λj O M=>∃acc,rd zE Eh 0 [] ls=rd zE Eh j acc (ls.drop j)/\(j≠0->acc≠[])/\Small j acc/\In ls acc/\M=j4 o8 [] acc/\∃T U u,O=[ae (sD t),ae (.loc 0),ae (.lst ((ls.map S).map .str)),T,U,u]) (λ_ _ _ _=>rfl) _ 0 _ _ ⟨[],rfl,λz=>absurd rfl z,⟨aY _,λ_ h=>(by cases h)⟩,⟨λ_ h=>(by cases h)⟩,rfl,aq,aq,aq,rfl⟩ (λj x O M hx v N Y=>?_) (λO M v=>?_)
 ·obtain⟨acc,g,ha,o,B,rfl,T,U,u,rfl⟩:=v;obtain⟨y,hy,rfl⟩:=Bc hx;obtain⟨s,MQ,rfl⟩:=uS hy;obtain⟨l,FM,rfl⟩:=uS MQ;rw[bJ] at g Y o ha;have hj:=(aC.mp FM).1;have Ud:l∈ls:=bu FM;have MJ:=hw l Ud;have hll:=I l Ud;rw[show ls.drop j=l::ls.drop (j+1) by rw[cS hj];congr 1;exact(aC.mp FM).2] at g;have XU:(S l).length<=ax:=jP (by omega);have e1:bQ (S l) aq (ae 5)=S (l.take 5):=sE 5;have e2:bQ (S l) (ae 5) aq=S (l.drop 5):=pM 5;have jv:(zE l=aq\/wT acc=aj)->wU zE Eh acc l=bif Eh l&&!acc.isEmpty then ae (Bi acc l) else aq:=λhc=>by
   unfold wU;rcases hc with hc|hc
   ·rw[hc]
   ·cases zE l with
    |none=>rfl
    |some n=>simp only [hc,cond_true]
  have NF:∀E:iV,E.nx=N->(E.rt=λd M'=>nl (uD M' 3 d)=aj/\Q (uD M' 3 d))->(zE l=aq\/wT acc=aj)->(gC (ip 5 (hZ (cl IG) (gg (gj 4) gq))) (Zo gn gx gl ga)) E [ae (sD t),ae (.loc 0),ae (.lst ((ls.map S).map .str)),ae (.int j),ae (sD l),u] (j4 o8 [] acc):=λE hE hE2 hc=>by
   refine⟨rfl,l,MJ,hll,rfl,?_⟩;refine r (E:=E) (by omega) o (λi n Jx m C=>?_) λm=>?_
   ·rw[hE];subst C;refine Y _ _ ⟨_,?_,λ_=>by simp,o.row,B.row Ud,rfl,_,_,_,rfl⟩;rcases oC g with⟨a,e1,e2⟩|⟨e1,e2⟩
    ·rw[jv hc,m] at e1;have:(!(i++[(n,Jx)]).isEmpty)=aj:=by simp
     rw[this,qf] at e1;cases e1;exact e2
    ·rw[jv hc,m] at e1;have:(!(i++[(n,Jx)]).isEmpty)=aj:=by simp
     rw[this] at e1;cases e1
   ·rw[hE2];refine⟨rfl,?_⟩;rcases oC g with⟨a,e1,e2⟩|⟨e1,e2⟩
    ·rw[jv hc,m] at e1;cases e1
    ·rw[e2] at q;exact q
  have Zq:∀E:iV,E.nx=N->zE l=ae (l.drop 5)->wT acc=ao->(lW (o7 "list" ga (gj 1) (gg (i3 (gg (k7 (gj 4) (ig (dC (.int 5))) gE) (gg (uy (ii gq)) gq))) gq))) E [ae (sD t),ae (.loc 0),ae (.lst ((ls.map S).map .str)),ae (.int j),ae (sD l),u] (j4 o8 [] acc):=λE hE hn hk=>by
   refine⟨by show Rj "list" (vw (j4 o8 [] acc) (.loc ([]:Ms).length))=aj;rw[CU];rfl,XU,bx _,L rfl,?_⟩;rw[e2];refine a2 (c8 (show acc.length<=400 by have:=o.n;omega) (by decide)) ?_;rw[hE];refine Y _ _ ⟨_,?_,λ_=>by simp,o.new,B.new,rfl,_,_,_,rfl⟩;have A:wU zE Eh acc l=ae (acc++[(l.drop 5,[])]):=by unfold wU;rw[hn];simp only [hk,cond_false]
   rcases oC g with⟨a,e1,e2⟩|⟨e1,e2⟩
   ·rw[A] at e1;cases e1;exact e2
   ·rw[A] at e1;cases e1
  refine⟨rfl,rfl,XU,?_⟩;refine(show(if(bQ (S l) aq (ae 5)==("part ":av))=aj then _ else _) from ?_);rw[e1,show(S (l.take 5)==("part ":av))=jV (l.take 5) wA from qW _ "part "];cases m:jV (l.take 5) wA with
  |false=>
   rw[if_neg am];exact NF _ rfl rfl (.inl (by unfold zE;rw[m];rfl))
  |true=>
   rw[if_pos rfl];refine⟨XU,rfl,l.drop 5,by rw[bt];omega,congrArg (λx=>[D.str x]) e2,?_⟩;cases C:nY (S (l.drop 5)) with
   |false=>exact NF _ rfl rfl (.inl (by unfold zE;rw[m,C];rfl))
   |true=>
    have hn:zE l=ae (l.drop 5):=by unfold zE;rw[m,C];rfl
    refine⟨bx _,l0 ?_⟩;rcases cN acc with f|⟨i,p,f⟩
    ·rw[f];have:=Zq;rw[f] at this;exact this _ rfl hn rfl
    ·rw[cO] at f;have v:p∈acc:=by rw[f];simp
     have oW:∀l∈p.2,wV 2 (o8 l):=λl J=>Eg (I l (B.h p v l J));have Tt:wT acc=p.2.isEmpty:=by rw[f,wz]
     have G:=Zq;have H:=NF;rw[Tt] at G H;rw[f] at G H ⊢;refine(show(if(i++[p]).isEmpty=aj then _ else _) from ?_);rw[show(i++[p]).isEmpty=ao by simp,if_neg am];refine x1 (x2 ⟨bx _,Zp oW ?_⟩);cases w:p.2.isEmpty with
     |true=>rw[w] at H;exact H _ rfl rfl (.inr rfl)
     |false=>rw[w] at G;exact G _ rfl hn rfl
 ·obtain⟨acc,g,ha,o,B,rfl,T,U,u,rfl⟩:=v;rw[bJ,c7,ap,ap,ef] at g;rw[bJ,c7,ap,ap] at ha;have g:rd zE Eh 0 [] ls=bif wT acc then .inl ls.length else .inr acc:=g;rw[g] at q;rcases cN acc with f|⟨i,p,f⟩
  ·exact absurd f (ha λz=>pX (cW.mp z))
  ·rw[cO] at f;have Tt:wT acc=p.2.isEmpty:=by rw[f,wz]
   rw[Tt] at q;subst f;refine x1 (x2 ⟨bx _,l1 ?_⟩);cases w:p.2.isEmpty with
   |true=>
    rw[w] at q;refine⟨_,rfl,rfl,?_⟩;show Q (.int (((ls.map S).map D.str).length:Nat));rw[ap,ap];exact q
   |false=>
    rw[w] at q;show nl (uD (j4 o8 [] (i++[p])) 3 (.loc 0))=aj/\Q (uD (j4 o8 [] (i++[p])) 3 (.loc 0));rw[Bh];exact⟨uU Qw _,q⟩
end ll
namespace ll
open PySem PySem.Spec L2 L3 FJ
noncomputable def IJ:D->av
 |.str s=>s
 |.int n=>nT n
 |_=>""
theorem Qy{n:Int}(h:n.natAbs<10^10):(nT n).length<=11:=by
 rw[uR,Il];cases n with
 |ofNat m=>have:=Ik (m:=m) (by simpa using h);show(dg m).length<=11;omega
 |negSucc m=>have:=Ik (m:=m+1) (by simp at h;omega);show(dg (m+1)).length+1<=11;omega
theorem zm{x:av}{ss:List av}(n:Nat)(h:∀s∈ss,s.length<=n)(e:ss.length*(n+x.length)<=ax):aaS x ss=aj:=by
 have gen:∀(ss:List av) (a:Nat),(∀s∈ss,s.length<=n)->ss.foldl (λa s=>a+s.length+x.length) a<=a+ss.length*(n+x.length):=by
  intro ss;induction ss with
  |nil=>intro a _;simp
  |cons s ss b=>
   intro a h;have f:=h s a8;have g:=b (a+s.length+x.length) λs c=>h s (au _ c);rw[List.foldl_cons,aM,Nat.succ_mul];omega
 unfold aaS bd.Str.tooLong;have:=gen ss 0 h;rw[Bool.not_eq_true',decide_eq_false_iff_not];show¬(ss.toArray.foldl (λa s=>a+s.length+x.length) 0>ax);rw[List.foldl_toArray];omega
def IK:GP:=λds Q=>∃xs:List D,ds=[.lst xs]/\(∀d∈xs,(∃s:av,d=.str s/\s.length<=11)\/∃n:Int,d=.int n/\n.natAbs<10^10)/\xs.length<=61/\Q (.str (cZ ⟨#[32]⟩ (xs.map IJ)))
theorem FA:jS IK:=λds P Q w ⟨n,h,e,l,q⟩=>⟨n,h,e,l,w _ q⟩
theorem FC{n:Int}(h:n.natAbs<10^10):n.natAbs.log2<1920:=by
 rcases Nat.eq_zero_or_pos n.natAbs with e|e
 ·rw[e];decide
 ·exact(Nat.log2_lt (by omega)).mpr (aT h (by decide))
theorem Up:∀ds Q,IK ds Q->mO 1 1 mI ds Q:=by
 rintro ds Q ⟨xs,h,a,b,q⟩
 subst h;refine⟨rfl,rfl,_,rfl,rfl,?_⟩;refine xB (λd=>.str (IJ d)) ?_ _ _ ?_ (λy e g c=>?_) ?_
 ·exact rfl
 ·rw[bC,bJ];exact aQ b (by decide)
 ·rcases a y e with⟨s,rfl,_⟩|⟨n,rfl,hn⟩
  ·exact c _ rfl
  ·exact⟨FC hn,c _ rfl⟩
 ·refine⟨xs.map IJ,by show D.lst _=D.lst _;rw[bv,bF];rfl,zm 11 (λs f=>?_) ?_,rfl,?_⟩
  ·obtain⟨d,hd,rfl⟩:=cj.mp f;rcases a d hd with⟨s,rfl,h⟩|⟨n,rfl,hn⟩
   ·exact h
   ·exact Qy hn
  ·rw[ap];exact aQ (dI _ b) (by decide)
  ·show Q (.str (eI " " (xs.map IJ)));unfold eI;rw[d8];exact q
noncomputable def oO:List D->List D
 |[]=>[]
 |.lst a::r=>a++oO r
 |x::r=>x::oO r
theorem CZ:∀a b:List D,oO (a++b)=oO a++oO b
 |[],b=>rfl
 |x::a,b=>by have:=CZ a b;cases x<;>simp[oO,this]
def Rt (d:D):Prop:=(∃s:av,d=.str s/\s.length<=11)\/∃n:Int,d=.int n/\n.natAbs<10^10
def BE (d:D):Prop:=Rt d\/∃a,d=.lst a/\∀y∈a,Rt y
inductive Sh:D->av->Prop
 |mark {w:av} {b:Bool}:w.length<=11->Sh (.tup [.str "mark",.str w,.bl b]) (w++(if b then"::" else":"))
 |row {k:av} {xs:List D}:(k=="mark")=ao->k.length<=11->(∀d∈xs,BE d)->(oO xs).length<=60->Sh (.tup (.str k::xs)) (cZ ⟨#[32]⟩ (k::(oO xs).map IJ))
theorem LY{g:DG}{tb:DS}{st:Ms->Prop}{E:iV}(Pv:List D->List D->j2->Ms->Prop)(h:∀a b c M,Pv a b c M->st M)(xs:List D)(c:j2)(M:Ms)(i:Pv [] xs c M)
(j:∀pre x xs c M,Pv pre (x::xs) c M->∀N:j2->Ms->Prop,(∀e f,Pv (pre++[x]) xs e f->N e f)->g x c M λm M1=>tb {E with nx:=N,ct:=N,bk:=E.nx} m M1)(hn:∀pre c M,Pv pre [] c M->E.nx c M):l8 g tb st E xs c M:=by
 have:=lL id Pv h xs [] c M i j hn
 rwa [fg] at this
def zn:GP:=λds Q=>∃d s,Sh d s/\ds=[d]/\Q (.str s)
theorem Bn:jS zn:=λds P Q w ⟨d,s,h,e,q⟩=>⟨d,s,h,e,w _ q⟩
theorem LZ(K:W.Frag):∀ds Q,zn ds Q->mO 3 1 (wd K (Tc IK)) ds Q:=by
 rintro ds Q ⟨d,s,h,e,q⟩
 subst e;cases h with
 |mark hw=>
  rename_i w b;refine⟨rfl,_,rfl,_,rfl,_,rfl,?_⟩;have j:∀x:av,x.length<=2->w.length+x.length<=ax:=λx m=>aQ (show w.length+x.length<=13 by omega) (by decide);cases b with
  |true=>exact⟨j _ (by decide),rfl,q⟩
  |false=>exact⟨j _ (by decide),rfl,q⟩
 |row G H m hn=>
  rename_i k xs;refine⟨rfl,_,jG (k:=0) rfl,?_⟩;refine(show(if(k==("mark":av))=aj then _ else _) from ?_);rw[G,if_neg am];refine⟨bx _,?_⟩;conv=>whnf
  refine⟨_,rfl,rfl,?_⟩;have r:BE (.str k):=.inl (.inl ⟨k,rfl,H⟩);have u:∀d∈(.str k::xs:List D),BE d:=λd hd=>(aE.mp hd).elim (λz=>z▸r) (m d);have I:oO (.str k::xs)=.str k::oO xs:=rfl;have v:(oO (.str k::xs)).length<=61:=by rw[I,aM];omega
  have q:Q (.str (cZ ⟨#[32]⟩ ((oO (.str k::xs)).map IJ))):=q;generalize (.str k::xs:List D)=c at u v q ⊢;refine LY (λa b y M=>c=a++b/\∃o,M=[ae (.lst (oO a))]/\y=[ae (.tup c),ae (.loc 0),o]) (λ_ _ _ _ _=>rfl) c _ _ ⟨rfl,aq,rfl,rfl⟩ (λpre x xs y M A N B=>?_) (λpre y M A=>?_)
  ·obtain⟨g,o,rfl,rfl⟩:=A;have m:=u x (by rw[g];simp);have p:c=pre++[x]++xs:=by rw[g,bA];rfl
   have C:(oO (pre++[x])).length<=61:=by rw[p,CZ,ay] at v;omega
   have f:=CZ pre [x];rcases m with(⟨s,rfl,_⟩|⟨n,rfl,_⟩)|⟨zs,rfl,_⟩
   ·refine⟨_,rfl,rfl,_,rfl,aT (show(oO pre).length<62 by rw[f,ay] at C;omega) (by decide),B _ _ ⟨p,_,by rw[f];rfl,rfl⟩⟩
   ·refine⟨_,rfl,rfl,_,rfl,aT (show(oO pre).length<62 by rw[f,ay] at C;omega) (by decide),B _ _ ⟨p,_,by rw[f];rfl,rfl⟩⟩
   ·rw[f,ay] at C;have:(oO [.lst zs]).length=zs.length:=by simp[oO]
    refine⟨_,rfl,rfl,_,_,rfl,rfl,aQ (show(oO pre).length+zs.length<=61 by omega) (by decide),B _ _ ⟨p,_,by rw[f];simp[oO],rfl⟩⟩
  ·obtain⟨g,o,rfl,rfl⟩:=A;rw[bf] at g;subst g;have J:∀zs:List D,(∀d∈zs,BE d)->(∀d∈oO zs,Rt d):=by
    intro zs;induction zs with
    |nil=>intro _ d hd;cases hd
    |cons z zs i=>
     intro h d hd;have i:=i λd hd=>h d (au _ hd);rcases h z a8 with(⟨s,rfl,j⟩|⟨n,rfl,hn⟩)|⟨us,rfl,L⟩
     ·rcases aE.mp hd with rfl|hd
      ·exact .inl ⟨s,rfl,j⟩
      ·exact i d hd
     ·rcases aE.mp hd with rfl|hd
      ·exact .inr ⟨n,rfl,hn⟩
      ·exact i d hd
     ·rcases aO.mp hd with hd|hd
      ·exact L d hd
      ·exact i d hd
   have hi:=J _ u;have E:∀d:D,Rt d->dv [ae (.lst (oO c))] d=d/\nl d=aj:=λd hd=>by rcases hd with⟨s,rfl,_⟩|⟨n,rfl,_⟩<;>exact⟨rfl,rfl⟩
   have e1:sR [ae (.lst (oO c))] [.loc 0]=[.lst (oO c)]:=by unfold sR sR dv;rfl
   refine(show Tc IK [.loc 0] [ae (.lst (oO c))] _ from ?_);refine⟨?_,oO c,e1,λd hd=>hi d hd,v,rfl,rfl,q⟩;rw[e1];show(ql (oO c)&&aj)=aj;rw[uK,bj.mpr λd hd=>(E d (hi d hd)).2];rfl
noncomputable def NJ(p:Pl):List av:=("part "++S p.1)::p.2.map S
noncomputable def lU(ps:List Pl):List av:=ps.flatMap NJ
structure Ru(ps:List Pl):Prop where
 n:∀p∈ps,p.1.length<=900
 sh:∀p∈ps,∀l∈p.2,Sh (fP l) (S l)
 l:∀p∈ps,∀l∈p.2,l.length<=900
 m:(lU ps).length<=404
theorem nF(a b:List Pl):lU (a++b)=lU a++lU b:=List.flatMap_append
theorem L4(p:Pl):(NJ p).length=p.2.length+1:=by unfold NJ;rw[aM,ap]
theorem Ru.len{ps:List Pl}(h:Ru ps):∀s∈lU ps,s.length<=1000:=λs a=>by
 obtain⟨p,b,a⟩:=List.mem_flatMap.mp a;rcases aE.mp a with rfl|a
 ·rw[PySem.Str.length_append,iL];have:=h.n p b;show 5+p.1.length<=1000;omega
 ·obtain⟨r,c,rfl⟩:=cj.mp a;rw[iL];exact aQ (h.l p b r c) (by decide)
theorem Ru.join{ps:List Pl}(h:Ru ps):aaS "\n" (lU ps)=aj:=zm 1000 h.len (aQ (dI _ h.m) (by decide))
def xS:GP:=λds Q=>∃ps:List Pl,Ru ps/\ds=[.lst (ps.map (Ea fP))]/\Q (.str (cZ ⟨#[10]⟩ (lU ps)))
theorem C0:jS xS:=λds P Q w ⟨d,s,h,q⟩=>⟨d,s,h,w _ q⟩
theorem QD:∀ds Q,xS ds Q->mO 4 1 (su (cl zn)) ds Q:=by
 rintro ds Q ⟨ps,h,e,q⟩
 subst e;have hm:=h.m;refine⟨rfl,bx _,_,rfl,rfl,?_⟩;refine lL (Ea fP) (λa b g M=>ps=a++b/\M=[ae (.lst ((lU a).map .str))]/\∃i j,g=[ae (.lst (ps.map (Ea fP))),ae (.loc 0),i,j]) (λ_ _ _ _ _=>rfl) ps [] _ _ ⟨rfl,rfl,aq,aq,rfl⟩ (λpre p xs g M c N u=>?_) (λpre g M c=>?_)
 ·obtain⟨f,rfl,i,j,rfl⟩:=c;have c:p∈ps:=by rw[f];simp
  have o:ps=pre++[p]++xs:=by rw[f,bA];rfl
  have y:(lU pre).length+(p.2.length+1)<=404:=by
   rw[o,nF,nF,ay,ay] at hm;have:(lU [p]).length=p.2.length+1:=by show(NJ p++[]).length=_;rw[bf,L4]
   omega
  have hw:=h.n p c;have z:("part ":av).length=5:=rfl;refine⟨rfl,rfl,rfl,aQ (show("part ":av).length+(S p.1).length<=1000 by rw[iL];omega) (by decide),_,rfl,by rw[ap];exact aT (show(lU pre).length<405 by omega) (by decide),?_⟩;refine⟨rfl,_,rfl,rfl,?_⟩;refine iS fP (λr=>.str (S r)) ?_ p.2 [] ?_ (λr v A w=>?_) ?_
  ·exact rfl
  ·rw[bC,bJ];exact aQ (show p.2.length<=404 by omega) (by decide)
  ·exact⟨by show(nl (fP r)&&aj)=aj;rw[LQ];rfl,_,_,h.sh p c r v,rfl,w _ rfl⟩
  ·refine⟨_,_,rfl,rfl,?_,u _ _ ⟨o,?_,_,_,rfl⟩⟩
   ·simp only [ay,ap,bv,List.length_singleton];exact aQ (show(lU pre).length+1+p.2.length<=404 by omega) (by decide)
   ·rw[nF,bE];show _=[ae (OD.lst ((lU pre).map D.str++(NJ p++[]).map D.str))];rw[bf];unfold NJ;rw[aU,bF,bv,bA];rfl
 ·obtain⟨f,rfl,i,j,rfl⟩:=c;rw[bf] at f;subst f;refine⟨rfl,lU ps,rfl,h.join,rfl,?_⟩;show Q (.str (eI "\n" (lU ps)));unfold eI;rw[d8];exact q
end ll
namespace ll
open PySem PySem.Spec L2 L3
open FJ (lL iS)
local macro_rules | `(tactic| walk_at "ws1_tac") => `(tactic| ((conv => whnf); first
 |refine⟨_,rfl,?_⟩|refine⟨rfl,?_⟩|refine⟨a9 rfl,?_⟩|refine⟨show(0:Int)<_ by decide,?_⟩|refine⟨show vQ _ _ from⟨by decide,by decide⟩,?_⟩|refine⟨show Od _ _ from⟨by decide,by decide⟩,?_⟩
 |refine⟨show VN _ _ from⟨by decide,by decide,by decide⟩,?_⟩|refine⟨show xU _ _ from .inl ⟨by decide,by decide⟩,?_⟩|refine⟨show xU _ _ from .inr ⟨by decide,by decide⟩,?_⟩
 |refine⟨λh=>absurd (show(1:Nat)=0 from h.1) (by decide),?_⟩|refine⟨λh=>absurd (show(2:Nat)=0 from h.1) (by decide),?_⟩|refine⟨λh=>absurd (show(3:Nat)=0 from h.1) (by decide),?_⟩))
local macro_rules | `(tactic| walk_at "ws_tac") => `(tactic| ((repeat walk_at "ws1_tac"); try (conv => whnf)))
theorem IL{β:Type}{xs:List β}{k:Nat}{x:β}(h:xs[k]?=ae x):vf xs (k:Int)=ae x:=by have a:=(aC.mp h).1;unfold vf FK;rw[if_pos (by omega),if_pos (by omega)];simpa using h
theorem QH{β:Type}{a:β}{t:List β}:vf (a::t) 0=ae a:=IL (k:=0) rfl
theorem XV{β:Type}{a b:β}{t:List β}:vf (a::b::t) 1=ae b:=IL (k:=1) rfl
def XW (o:Option (Option OD))(n:Int):Prop:=∃a m c d:Int,o=ae (ae (.lst [.int a,.int m,.int c,.int d]))/\0<=c/\c<=n
def Src (M:Ms)(k:Nat)(n:Int):Prop:=XW M[k]? n
def QJ (M a:Ms)(k:Nat):Prop:=M.length<=a.length/\∀j,j<M.length->j≠k->a[j]?=M[j]?
theorem QJ.set{M:Ms}{k:Nat}{o:Option OD}:QJ M (M.set k o) k:=⟨by simp,λj _ e=>by rw[cn (λz=>e z.symm)]⟩
theorem Src.lt{M:Ms}{k:Nat}{n:Int}(h:Src M k n):k<M.length:=by obtain⟨_,_,_,_,e,_⟩:=h;exact(aC.mp e).1
theorem Src.set{M:Ms}{k:Nat}{n a m c d:Int}(h:k<M.length)(b:0<=c)(e:c<=n):Src (M.set k (ae (.lst [.int a,.int m,.int c,.int d]))) k n:=⟨a,m,c,d,b9 h,b,e⟩
theorem Src.le{M:Ms}{k:Nat}{n b:Int}(h:Src M k n)(e:n<=b):Src M k b:=by obtain⟨a,m,c,d,e1,e2,e3⟩:=h;exact⟨a,m,c,d,e1,e2,by omega⟩
theorem Src.push{M:Ms}{k:Nat}{n:Int}{o:Option OD}(h:Src M k n):Src (M++[o]) k n:=by have a:=h.lt;unfold Src;rw[bp a];exact h
def p4:GP:=λds Q=>match ds with
 |[.int i,.int c]=>0<=c/\c<=1000000/\∀r:Int,0<=r->r<2147483629->Q (.int r)
 |_=>False
theorem zo:jS p4:=λds P Q w q=>by
 match ds,q with
 |[.int i,.int c],⟨e,f,q⟩=>exact⟨e,f,λr a b=>w _ (q r a b)⟩
theorem IM:∀ds Q,p4 ds Q->mO 3 2 pG ds Q:=λds Q q=>by
 match ds,q with
 |[.int i,.int c],⟨a,b,q⟩=>
  refine⟨rfl,?_⟩;have hm:∀x:Int,0<=x%2147483629/\x%2147483629<2147483629:=λx=>⟨Int.emod_nonneg _ (by decide),Int.emod_lt_of_pos _ (by decide)⟩;walk_at "ws_tac";refine⟨show xU _ _ from .inr ⟨?_,?_⟩,?_⟩
  ·omega
  ·omega
  walk_at "ws_tac";refine⟨show xU _ _ from .inl ⟨?_,?_⟩,?_⟩
  ·have:=hm ((i%2147483629+69621*c+1)*(48271+2*c));omega
  ·have:=hm ((i%2147483629+69621*c+1)*(48271+2*c));omega
  walk_at "ws_tac";refine⟨show xU _ _ from .inl ⟨?_,?_⟩,?_⟩
  ·refine Int.lt_of_lt_of_le ?_ (hm _).1;decide
  ·exact Int.lt_trans (hm _).2 (by decide)
  walk_at "ws_tac";exact q _ (hm _).1 (hm _).2
def tR:GN:=λds M Q=>∃(k:Nat) (many n:Int),ds=[.loc k,.int many]/\0<many/\many<18446744073709551616/\Src M k n/\n<1000000/\∀(r:Int) (a:Ms),0<=r->r<many->Src a k (n+1)->QJ M a k->Q (.int r) a
theorem Bo:mP tR:=λds M P Q w ⟨k,many,n,e,f,g,h,i,q⟩=>⟨k,many,n,e,f,g,h,i,λr j a b c d=>w _ _ (q r j a b c d)⟩
theorem jB{M:Ms}{k:Nat}{o:OD}(h:M[k]?=ae (ae o)):vw M (.loc k)=o.toD:=by show OS k M[k]?=_;rw[h];rfl
theorem qY{M:Ms}{k:Nat}{xs:List D}{i:Int}{d:D}{Q:DK}(h:M[k]?=ae (ae (.lst xs)))(e:vf xs i=ae d)(q:Q d M):jk (.loc k) (.int i) M Q:=by unfold jk;rw[jB h];exact⟨d,e,q⟩
theorem Ei{a:j2}{M:Ms}{k:Nat}{xs:List D}{i:Int}{n:Nat}{v:D}{Q:j2->Ms->Prop}(b:a[0]?=ae (ae (.loc k)))(h:M[k]?=ae (ae (.lst xs)))(e:FK xs.length i=ae n)(q:Q a (M.set k (ae (.lst (xs.set n v))))):xz (gj 0) (dC (.int i)) v a M Q:=by unfold xz gj dC;rw[b];simp only [h];exact⟨n,e,q⟩
local macro_rules | `(tactic| walk_at "rs_tac") => `(tactic| simp only [gC, gK, Kw, gD, dC, ik, ny, DZ, wq, xN, gL, hZ, gg, gq, ip, lf, lN, Ii, AR, Ig, Qe, LB, Ij, aU, c6, List.cons_append, bv, ba, aM, bC, Nat.reduceAdd, Nat.reduceSub, dW, List.set_cons_zero, if_true, if_false, reduceIte, Bool.false_eq_true])
theorem L5:∀ds M Q,tR ds M Q->Ds 3 2 (qT (cl p4)) ds M Q:=λds M Q ⟨k,many,n,p,b,u,h,B,q⟩=>by
 subst p;have g:=h.lt;obtain⟨a,m,c,d,e,w,C⟩:=h;refine⟨rfl,?_⟩;have f:∀x:Int,0<=x%many/\x%many<many:=λx=>⟨Int.emod_nonneg _ (by omega),Int.emod_lt_of_pos _ b⟩;have e2:(M.set k (ae (.lst [.int a,.int m,.int (c+1),.int d])))[k]?=ae (ae (.lst [.int a,.int m,.int (c+1),.int d])):=b9 g;have o:jk (.loc k) (.int 2) M λx M1=>gJ x (.int 1) M1 λv M2=>xz (gj 0) (dC (.int 2)) v [ae (.loc k),ae (.int many),aq] M2 λy z=>(gL (gD (gI (λ_ j=>0<j) λi j=>.int (i%j)) (hZ (cl p4) (gg (gD jk (gj 0) (dC (.int 3))) (gg (gD jk (gj 0) (dC (.int 2))) gq))) (gj 1))) ⟨λ_ A=>Q .non A,Q,λ_ _=>False,λ_ _=>False⟩ y z:=by
  refine qY e (IL (k:=2) rfl) ?_;walk_at "rs_tac";refine Ei rfl e rfl ?_;walk_at "rs_tac";refine qY e2 (IL (k:=3) rfl) ?_;refine qY e2 (IL (k:=2) rfl) ?_;refine⟨rfl,?_,?_,λr E G=>⟨b,?_⟩⟩
  ·omega
  ·omega
  ·exact q _ _ (f r).1 (f r).2 (Src.set g (by omega) (by omega)) QJ.set
 unfold qT;walk_at "rs_tac";refine qY e XV ?_;walk_at "rs_tac";cases H:m==0 with
 |false=>walk_at "rs_tac";exact o
 |true=>
  walk_at "rs_tac";refine qY e QH ?_;walk_at "rs_tac";by_cases ha:1<a
  ·rw[if_pos (decide_eq_true ha)];refine qY e QH ?_;refine⟨b,?_⟩;refine qY e QH ?_;refine⟨⟨b,u⟩,?_⟩;refine Ei rfl e rfl ?_;exact q _ _ (f a).1 (f a).2 (Src.set g w (by omega)) QJ.set
  ·rw[if_neg (by simp[ha])];exact o
def nG:GN:=λds M Q=>match ds with
 |[.int i]=>Q (.loc M.length) (M++[ae (.lst [.int (i/2),.int (i%2),.int 0,.int i])])
 |_=>False
theorem wW:mP nG:=λds M P Q w q=>by
 match ds,q with
 |[.int i],q=>exact w _ _ q
theorem FD:∀ds M Q,nG ds M Q->Ds 1 1 sA ds M Q:=λds M Q q=>by
 match ds,q with
 |[.int i],q=>
  refine⟨rfl,?_⟩;walk_at "ws_tac";exact q
noncomputable def Bq:List (List Nat):=[[115,101,116,32,49,32,45,55],[115,101,116,32,48,32,48],[97,100,100,32,48,32,51],[116,97,107,101,32,50,32,50],[115,97,121,32,49],[97,115,107,32,48],[106,117,109,112,32,97,97],[106,117,109,112,105,102,32,51,32,98],[99,97,108,108,32,108,111,110,103,110,97,109,101],[98,97,99,107],[115,116,111,112],[108,111,97,100,32,48,32,49,32,110],[106,117,109,112,98,121,32,50,32,116],[97,108,105,107,101,32,49,32,97,32,98],[110,117,109,98,101,114,115,32,49,32,45,50,32,48],[116,97,98,108,101,32,97,32,98],[97,58],[98,58,58],[115,101,116,32,51,32,50,49,52,55,52,56,51,54,52,55]]
noncomputable def pN:List (List Nat):=[[112,97,114,116,32,109,97,105,110],[112,97,114,116,32,98]]
noncomputable def FE:List (List Nat):=[[],[112,97,114,116],[112,97,114,116,32],[112,97,114,116,32,77,97,105,110],[112,97,114,116,32,108,111,110,103,101,114,110,97,109],[112,97,114,116,32,99],[115,101,116,32,49],[115,101,116,32,52,32,49],[115,101,116,32,49,32,48,49],[115,101,116,32,49,32,45,48],[115,101,116,32,49,32,50,49,52,55,52,56,51,54,52,56],[115,101,116,32,49,32,45,50,49,52,55,52,56,51,54,52,56],[115,101,116,32,32,49,32,49],[97,100,100,32,48],[115,97,121,32,45,49],[115,97,121,32,49,32],[106,117,109,112],[106,117,109,112,32,97,32,98],[106,117,109,112,32,53],[106,117,109,112,32,65],[115,116,111,112,32,49],[98,97,99,107,32],[110,117,109,98,101,114,115],[110,117,109,98,101,114,115,32,49,32,120],[110,117,109,98,101,114,115,32,49,32,32,50],[116,97,98,108,101],[116,97,98,108,101,32,97,32,49],[116,97,98,108,101,32,97,97],[58],[97,58,98,58],[97,58,58,58],[65,58,58],[108,111,110,103,101,114,110,97,109,58],[109,97,114,107,32,97,32,84,114,117,101],[108,111,97,100,32,48,32,49],[108,111,97,100,32,48,32,49,32,110,32,110],[97,108,105,107,101,32,48,32,97],[106,117,109,112,105,102,32,48,32,49,32,97],[32,115,97,121,32,49],[83,97,121,32,49],[99,97,108,108,32,120,58],[112,97,114,116,58],[115,101,116,58,58]]
noncomputable def tS:List Nat:=[32,58,45,48,97,122,65,57,126]
noncomputable def kX:List (List Nat):=pN++Bq
theorem IN:Bq.map S=(["set 1 -7","set 0 0","add 0 3","take 2 2","say 1","ask 0","jump aa","jumpif 3 b","call longname","back","stop","load 0 1 n","jumpby 2 t","alike 1 a b","numbers 1 -2 0","table a b","a:","b::","set 3 2147483647"]:List String).map bI:=by decide+kernel
theorem L7:FE.map S=(["","part","part ","part Main","part longernam","part c","set 1","set 4 1","set 1 01","set 1 -0","set 1 2147483648","set 1 -2147483648","set  1 1","add 0","say -1","say 1 ","jump","jump a b","jump 5","jump A","stop 1","back ","numbers","numbers 1 x","numbers 1  2","table","table a 1","table aa",":","a:b:","a:::","A::","longernam:","mark a True","load 0 1","load 0 1 n n","alike 0 a","jumpif 0 1 a"," say 1","Say 1","call x:","part:","set::"]:List String).map bI:=by decide+kernel
end ll
namespace ll
open PySem PySem.Spec L2 L3
open FJ (lL iS jG)
noncomputable def XX:List av:=(["","part","part ","part Main","part longernam","part c","set 1","set 4 1","set 1 01","set 1 -0","set 1 2147483648","set 1 -2147483648","set  1 1","add 0","say -1","say 1 ","jump","jump a b","jump 5","jump A","stop 1","back ","numbers","numbers 1 x","numbers 1  2","table","table a 1","table aa",":","a:b:","a:::","A::","longernam:","mark a True","load 0 1","load 0 1 n n","alike 0 a","jumpif 0 1 a"," say 1","Say 1","call x:","part:","set::"]:List String).map bI
noncomputable def IP:List av:=(["set 1 -7","set 0 0","add 0 3","take 2 2","say 1","ask 0","jump aa","jumpif 3 b","call longname","back","stop","load 0 1 n","jumpby 2 t","alike 1 a b","numbers 1 -2 0","table a b","a:","b::","set 3 2147483647"]:List String).map bI
theorem NK{xs:List (List Nat)}{r:Int}(b:0<=r)(c:r<xs.length):∃l∈xs,vf ((xs.map S).map D.str) r=ae (sD l):=by
 obtain⟨k,rfl⟩:=dX b;have a:k<xs.length:=by omega
 exact⟨xs[k],fu a,jG (by simp[a])⟩
def Ej:GN:=λds M Q=>∃(k:Nat) (n:Int),ds=[.loc k]/\Src M k n/\n<999999/\∀l a,l∈FE->Src a k (n+1)->QJ M a k->Q (sD l) a
theorem C1:mP Ej:=λds M P Q w ⟨k,n,e,f,g,q⟩=>⟨k,n,e,f,g,λl h a b c=>w _ _ (q l h a b c)⟩
theorem QK:∀ds M Q,Ej ds M Q->Ds 2 1 (xM tR) ds M Q:=by
 have L:∀{a b:Nat},bM a b=aj->a<=b:=a9
 rintro ds M Q ⟨k,n,h,i,o,q⟩
 subst h;refine⟨rfl,L rfl,L rfl,L rfl,L rfl,L rfl,L rfl,L rfl,L rfl,L rfl,L rfl,L rfl,L rfl,L rfl,L rfl,L rfl,_,rfl,k,_,n,rfl,by decide,by decide,i,by omega,λr c j f m hb=>?_⟩;refine(show jk (.lst (XX.map D.str)) (.int r) c Q from ?_);have g:FE.length=43:=by decide
 have f:r<43:=f;obtain⟨l,g,e⟩:=NK (xs:=FE) j (by omega);rw[L7] at e;exact⟨_,e,q l c g m hb⟩
def Own (M:Ms)(m:Nat)(ls:List (List Nat)):Prop:=M[m]?=ae (ae (.lst (ls.map sD)))
theorem Own.lt{M:Ms}{m:Nat}{ls:List (List Nat)}(h:Own M m ls):m<M.length:=(aC.mp h).1
theorem Own.L8{M a:Ms}{m k:Nat}{ls:List (List Nat)}(h:Own M m ls)(s:QJ M a k)(ne:m≠k):Own a m ls:=(s.2 m h.lt ne).trans h
theorem Own.put{M:Ms}{m:Nat}{ls:List (List Nat)}{l:List Nat}(h:m<M.length):Own (M.set m (ae (.lst (ls.map sD++[sD l])))) m (ls++[l]):=by unfold Own;rw[b9 h,bE];rfl
theorem Src.other{M:Ms}{m k:Nat}{n:Int}{o:Option OD}(h:Src M k n)(ne:m≠k):Src (M.set m o) k n:=by unfold Src;rw[cn ne];exact h
def qg:GN:=λds M Q=>∃(k:Nat) (n:Int),ds=[.loc k]/\Src M k n/\n<999900/\∀m ls a,Own a m ls->m≠k->(∀l∈ls,l∈kX)->4<=ls.length->ls.length<=10->Src a k (n+10)->Q (.loc m) a
theorem zp:mP qg:=λds M P Q w ⟨k,n,g,h,i,q⟩=>⟨k,n,g,h,i,λm ls j a b c d e f=>w _ _ (q m ls j a b c d e f)⟩
theorem IQ:∀ds M Q,qg ds M Q->Ds 5 1 (ul tR) ds M Q:=by
 have L:∀{a b:Nat},bM a b=aj->a<=b:=a9
 rintro ds M Q ⟨k,n,h1,I,h3,q⟩
 subst h1;have hk:=I.lt;refine⟨rfl,L rfl,L rfl,L rfl,L rfl,L rfl,L rfl,L rfl,bx _,L rfl,_,rfl,rfl,?_⟩;have hb:∀l∈Bq,l∈kX:=λl c=>bh _ c;have hh:∀l∈pN,l∈kX:=λl c=>br _ c;have B:(pN.map sD)=[D.str "part main",D.str "part b"]:=congrArg (List.map D.str) (show pN.map S=[bI "part main",bI "part b"] by decide+kernel);rw[show([D.str "part main",D.str "part b"]:List D)=pN.map sD from B.symm];refine lL sD (λa b g o=>a++b=pN/\∃ls,Own o M.length ls/\(∀l∈ls,l∈kX)/\2*a.length<=ls.length/\ls.length<=5*a.length/\Src o k (n+5*a.length)/\∃C h,g=[ae (.loc k),ae (.lst (IP.map D.str)),ae (.loc M.length),C,h]) (λ_ _ _ _ _=>rfl) pN [] _ _ ⟨rfl,[],?_,?_,?_,?_,?_,aq,aq,rfl⟩ (λpre x xs g o i N hN=>?_) (λpre g o i=>?_)
 ·unfold Own;rw[bT (aY _),ed];rfl
 ·intro l c;cases c
 ·exact bx _
 ·exact bx _
 ·exact I.push.le (by simp)
 ·obtain⟨m,ls,p,E,J,O,G,C,h,rfl⟩:=i;have k6:pre.length+(xs.length+1)=2:=by have:=congrArg fO m;rw[ay,aM] at this;exact this
  have hx:x∈pN:=by rw[<-m];simp
  have ne:M.length≠k:=by omega
  refine⟨by rw[jB p];rfl,_,p,by rw[ap];exact aT (show ls.length<100 by omega) (by decide),?_⟩;refine⟨k,4,_,rfl,by decide,by decide,G.other ne,by omega,λr M1 r0 r1 XY sb=>⟨⟨?_,?_⟩,trivial,?_⟩⟩
  ·show-(2^62)<=1+r;omega
  ·show 1+r<2^62;omega
  have XZ:Own M1 M.length (ls++[x]):=(Own.put (ls:=ls) (l:=x) p.lt).L8 sb ne;refine rP (λj g M2=>∃f,Own M2 M.length f/\(∀l∈f,l∈kX)/\f.length=ls.length+1+j/\Src M2 k (n+5*pre.length+1+j)/\∃h,g=[ae (.loc k),ae (.lst (IP.map D.str)),ae (.loc M.length),ae (sD x),h]) (λ_ _ _ _=>trivial) _ 0 _ _ ⟨ls++[x],XZ,λl c=>?_,by simp,XY.le (by simp),_,rfl⟩ (λj y g M2 hy i N2 T=>?_) (λg M2 i=>?_)
  ·rcases aO.mp c with c|c
   ·exact E l c
   ·rw[aZ.mp c];exact hh x hx
  ·obtain⟨f,w,H,A,u,h,rfl⟩:=i;rw[bJ] at A u T;have hj:j<(1+r).toNat:=by have:=(aC.mp hy).1;unfold yq at this;rw[ap,List.length_range] at this;exact this
   refine⟨by rw[jB w];rfl,_,rfl,k,_,_,rfl,by decide,by decide,u,by omega,λU M3 q0 Y MO L9=>?_⟩;refine(show jk (.lst (IP.map D.str)) (.int U) M3 _ from ?_);have Y:U<19:=Y;have hlr:Bq.length=19:=by decide
   obtain⟨l,c,e⟩:=NK (xs:=Bq) q0 (by omega);rw[IN] at e;have Rv:=w.L8 L9 ne;refine⟨_,e,_,Rv,by rw[ap];exact aT (show f.length<100 by omega) (by decide),T _ _ ⟨f++[l],Own.put Rv.lt,λz v=>?_,?_,?_,_,rfl⟩⟩
   ·rcases aO.mp v with v|v
    ·exact H z v
    ·rw[aZ.mp v];exact hb l c
   ·rw[ay,A];simp;omega
   ·exact(MO.other ne).le (by omega)
  ·obtain⟨f,w,H,A,u,h,rfl⟩:=i;have hr:(yq 0 (1+r).toNat).length=(1+r).toNat:=by unfold yq;rw[ap,List.length_range]
   rw[bJ,hr] at A u;refine hN _ _ ⟨by rw[bA];exact m,f,w,H,?_,?_,u.le ?_,_,_,rfl⟩
   ·rw[ay];simp;omega
   ·rw[ay];simp;omega
   ·rw[ay];simp;omega
 ·obtain⟨m,ls,p,E,J,O,G,C,h,rfl⟩:=i;rw[bf] at m;subst m;exact q _ ls o p (by omega) E J O (G.le (by show n+5*2<=n+10;omega))
end ll
namespace ll
open PySem PySem.Spec L2 L3
open FJ (lL iS jG Cj v4)
def Vi (l:List Nat):Prop:=l∈kX\/l∈FE\/(∃b∈kX,∃k c,k<=b.length/\c∈tS/\l=b.take k++c::b.drop k)\/∃b∈kX,l=b.drop 1
section
variable {δ:j2} {M:Ms} {i j a v:Nat} {xs:List (List Nat)} {Q:DK}
theorem X1(b:δ[i]?=ae (ae (.loc j)))(c:δ[v]?=ae (ae (.int ((a:Nat):Int))))(h:Own M j xs)(q:Q (.lst ((xs.take a).map sD)) M):k7 (gj i) gE (ig (gj v)) δ M Q:=by unfold k7 gE ig gj;simp only [b,c];rw[jB h];show Q (.lst (cutD (xs.map sD) aq (ae (a:Int)))) M;rw[Cj,<-List.map_take];exact q
theorem X2(b:δ[i]?=ae (ae (.loc j)))(c:δ[v]?=ae (ae (.int ((a:Nat):Int))))(h:Own M j xs)(q:Q (.lst ((xs.drop a).map sD)) M):k7 (gj i) (ig (gj v)) gE δ M Q:=by unfold k7 gE ig gj;simp only [b,c];rw[jB h];show Q (.lst (cutD (xs.map sD) (ae (a:Int)) aq)) M;rw[v4,<-List.map_drop];exact q
theorem X3(b:δ[i]?=ae (ae (.loc j)))(c:δ[v]?=ae (ae (.int ((a:Nat):Int))))(h:Own M j xs)(q:Q (.lst ((xs.drop (a+1)).map sD)) M):k7 (gj i) (ig (gD gJ (gj v) (dC (.int 1)))) gE δ M Q:=by unfold k7 gE ig gD dC gj;simp only [b,c];refine(show∀P:DK,P (.int ((a:Int)+1)) M->gJ (.int (a:Int)) (.int 1) M P fromλP p=>p) _ ?_;simp only;rw[jB h];show Q (.lst (cutD (xs.map sD) (ae (((a+1:Nat)):Int)) aq)) M;rw[v4,<-List.map_drop];exact q
theorem X4{r:Int}(f:0<=r)(g:r<9)(q:∀c∈tS,Q (sD [c]) M):jk (.str " :-0azA9~") (.int r) M Q:=by
 obtain⟨k,rfl⟩:=dX f;have e:(" :-0azA9~":av).cps.toList=tS:=by decide+kernel
 have b:k<tS.length:=by show k<9;omega
 refine⟨iJ (by decide),tS[k],?_,q _ (fu b)⟩;rw[e];exact jG (by simp[b])
theorem Uq{b:List Nat}(h:Own M j xs)(e:xs[a]?=ae b)(q:Q (sD b) M):jk (.loc j) (.int (a:Int)) M Q:=by unfold jk;rw[jB h];exact⟨sD b,jG (by rw[bD,e];rfl),q⟩
theorem IS{b:List Nat}(c:δ[0]?=ae (ae (.loc j)))(f:δ[2]?=ae (ae (.int ((a:Nat):Int))))(h:Own M j xs)(e:xs[a]?=ae b)(q:Q (sD b) M):gD jk (gj 0) (gj 2) δ M Q:=by unfold gD gj;simp only [c,f];exact Uq h e q
theorem Ur{b:List Nat}{c:Nat}(f:δ[0]?=ae (ae (.loc j)))(g:δ[2]?=ae (ae (.int ((a:Nat):Int))))(m:δ[4]?=ae (ae (.int ((c:Nat):Int))))(h:Own M j xs)(e:xs[a]?=ae b)(hb:b.length<=20)(q:Q (sD (b.take c)) M):k7 (gD jk (gj 0) (gj 2)) gE (ig (gj 4)) δ M Q:=by refine IS f g h e ?_;unfold gE ig gj;simp only [m];refine⟨jP (by omega),?_⟩;rw[sE];exact q
theorem Us{b:List Nat}{c:Nat}(f:δ[0]?=ae (ae (.loc j)))(g:δ[2]?=ae (ae (.int ((a:Nat):Int))))(m:δ[4]?=ae (ae (.int ((c:Nat):Int))))(h:Own M j xs)(e:xs[a]?=ae b)(hb:b.length<=20)(q:Q (sD (b.drop c)) M):k7 (gD jk (gj 0) (gj 2)) (ig (gj 4)) gE δ M Q:=by refine IS f g h e ?_;unfold gE ig gj;simp only [m];refine⟨jP (by omega),?_⟩;rw[pM];exact q
theorem X5{b:List Nat}(c:δ[0]?=ae (ae (.loc j)))(f:δ[2]?=ae (ae (.int ((a:Nat):Int))))(h:Own M j xs)(e:xs[a]?=ae b)(hb:b.length<=20)(q:Q (sD (b.drop 1)) M):k7 (gD jk (gj 0) (gj 2)) (ig (dC (.int 1))) gE δ M Q:=by refine IS c f h e ⟨jP (by omega),?_⟩;rw[show bQ (S b) (ae 1) aq=S (b.drop 1) from pM 1];exact q
end
def nH:GN:=λds M Q=>∃(j k:Nat) (n:Int) (ls:List (List Nat)),ds=[.loc j,.loc k]/\Own M j ls/\j≠k/\(∀l∈ls,l∈kX)/\4<=ls.length/\ls.length<=10/\Src M k n/\n<999900/\∀(a:List (List Nat)) (b:Ms),(∀l∈a,Vi l)->1<=a.length->a.length<=11->Q (.lst (a.map sD)) b
theorem wX:mP nH:=λds M P Q w ⟨j,k,n,ls,e,f,g,h,i,m,o,p,q⟩=>⟨j,k,n,ls,e,f,g,h,i,m,o,p,λl r a b c=>w _ _ (q l r a b c)⟩
theorem wB:∀l∈kX,l.length<=20:=by decide
theorem FF:∀ds M Q,nH ds M Q->Ds 7 2 (oz tR Ej) ds M Q:=by
 have L:∀{a b:Nat},bM a b=aj->a<=b:=a9
 rintro ds M Q ⟨j,k,n,ls,h1,ho,ne,hb,l4,Zt,hs,hn,q⟩
 subst h1;have z:∀(x y:List (List Nat)) (w:List Nat) (A:Ms),(∀l∈x,l∈kX)->(∀l∈y,l∈kX)->Vi w->x.length+y.length<=10->Q (.lst (x.map sD++[sD w]++y.map sD)) A:=λx y w A hx hy hw g=>by
  rw[show x.map sD++[sD w]++y.map sD=(x++[w]++y).map sD by rw[bE,bE];rfl];refine q _ A (λl hm=>?_) ?_ ?_
  ·rcases aO.mp hm with hm|hm
   ·rcases aO.mp hm with hm|hm
    ·exact .inl (hx l hm)
    ·rw[aZ.mp hm];exact hw
   ·exact .inl (hy l hm)
  ·rw[ay,ay];simp;omega
  ·rw[ay,ay];simp;omega
 have B:∀a,∀l∈ls.take a,l∈kX:=λa l g=>hb l (List.mem_of_mem_take g);have hd:∀a,∀l∈ls.drop a,l∈kX:=λa l g=>hb l (List.mem_of_mem_drop g);have sz:∀{m:Nat},m<=100->m<=ax:=λh=>iJ (by omega);have st:=@X1;have sf:=@X2;have s1:=@X3;have ia:=@Uq;have Zu:=@X4;unfold oz;have N:=@Ur;have O:=@Us;have T:=@X5;generalize jk=gx at ia Zu N O T ⊢;generalize k7=sl at st sf s1 N O T ⊢;refine⟨rfl,ls.length,by rw[jB ho];show ae (ls.map sD).length=_;rw[ap],k,_,n,rfl,by omega,by omega,hs,by omega,λr M1 r0 r1 XY U=>?_⟩;obtain⟨a,rfl⟩:=dX r0;have ha:a<ls.length:=by omega
 have XZ:=ho.L8 U ne;refine⟨k,6,_,rfl,by decide,by decide,XY,by omega,λw M2 w0 w1 G Y=>?_⟩;have o:=XZ.L8 Y ne;have hw:w=0\/w=1\/w=2\/w=3\/w=4\/w=5:=by omega
 rcases hw with rfl|rfl|rfl|rfl|rfl|rfl
 ·refine st (i:=0) (v:=2) rfl rfl o ?_;refine⟨k,_,rfl,G,by omega,λl C g H p=>⟨L rfl,?_,?_⟩⟩
  ·rw[ap,bi];exact sz (show min a ls.length+1<=100 by omega)
  refine s1 (i:=0) (v:=2) rfl rfl (o.L8 p ne) ⟨?_,?_⟩
  ·rw[ay,ap,ap,bi,bt];exact sz (show min a ls.length+1+(ls.length- (a+1))<=100 by omega)
  ·exact z _ _ _ _ (B _) (hd _) (.inr (.inl g)) (by rw[bi,bt];omega)
 ·refine st (i:=0) (v:=2) rfl rfl o ?_;refine⟨k,_,rfl,G,by omega,λl C g H p=>⟨L rfl,?_,?_⟩⟩
  ·rw[ap,bi];exact sz (show min a ls.length+1<=100 by omega)
  refine sf (i:=0) (v:=2) rfl rfl (o.L8 p ne) ⟨?_,?_⟩
  ·rw[ay,ap,ap,bi,bt];exact sz (show min a ls.length+1+(ls.length- a)<=100 by omega)
  ·exact z _ _ _ _ (B _) (hd _) (.inr (.inl g)) (by rw[bi,bt];omega)
 ·refine st (i:=0) (v:=2) rfl rfl o ?_;refine s1 (i:=0) (v:=2) rfl rfl o ⟨?_,?_⟩
  ·rw[ap,ap,bi,bt];exact sz (show min a ls.length+(ls.length- (a+1))<=100 by omega)
  ·show Q (.lst ((ls.take a).map sD++(ls.drop (a+1)).map sD)) M2;rw[<-bE];refine q _ M2 (λl hm=>?_) ?_ ?_
   ·rcases aO.mp hm with hm|hm
    ·exact .inl (B _ l hm)
    ·exact .inl (hd _ l hm)
   ·rw[ay,bi,bt];omega
   ·rw[ay,bi,bt];omega
 ·refine⟨k,_,rfl,G,by omega,λl C g H p=>⟨L rfl,?_⟩⟩;have Rv:=o.L8 p ne;have e:gJ (.loc j) (.lst [sD l]) C Q:=by unfold gJ;rw[jB Rv];refine⟨by rw[ap];exact sz (show ls.length+1<=100 by omega),?_⟩;have:=z ls [] l C hb (λl g=>by cases g) (.inr (.inl g)) (by simp;omega);rw[c6,bf] at this;exact this
  exact e
 ·obtain⟨b,u⟩:∃b,ls[a]?=ae b:=⟨ls[a],by simp[ha]⟩;have E:b∈kX:=hb b (bu u);have I:=wB b E;have Zv:(S b).length<=ax:=jP (by omega);refine ia o u ⟨b.length,show(if(S b).length<=ax then ae (S b).length else aq)=_ by rw[if_pos Zv,iL],?_⟩;refine⟨k,(b.length:Int)+1,_,rfl,by omega,by omega,G,by omega,λr4 C p0 p1 H p=>?_⟩;obtain⟨f,rfl⟩:=dX p0;have Rv:=o.L8 p ne;refine⟨k,9,_,rfl,by decide,by decide,H,by omega,λr5 M4 g0 g1 hs4 sb4=>?_⟩;have J:=Rv.L8 sb4 ne;refine Zu g0 g1 λc hc=>?_;have l1:(b.take f).length<=20:=by rw[bi];omega
  have l2:(b.drop f).length<=20:=by rw[bt];omega
  refine N rfl rfl rfl J u I ⟨?_,?_⟩
  ·show(S (b.take f)).length+(S [c]).length<=ax;rw[iL,iL];exact sz (show _+1<=100 by omega)
  refine O rfl rfl rfl J u I ⟨?_,?_⟩
  ·show(S (b.take f)++S [c]).length+(S (b.drop f)).length<=ax;rw[PySem.Str.length_append,iL,iL,iL];exact sz (show _+1+_<=100 by omega)
  have ew:S (b.take f)++S [c]++S (b.drop f)=S (b.take f++c::b.drop f):=by refine j9 ?_;rw[p8,p8,mL,mL,mL,mL,bA];rfl
  have key:∀w:List Nat,Vi w->(gL (gD gJ (gD gJ (sl (gj 0) gE (ig (gj 2))) (gS (ii (gg (gj 6) gq)))) (sl (gj 0) (ig (gD gJ (gj 2) (dC (.int 1)))) gE))) ⟨λ_ A=>Q .non A,Q,λ_ _=>False,λ_ _=>False⟩ [ae (.loc j),ae (.loc k),ae (.int (Int.ofNat a)),ae (.int 4),ae (.int (Int.ofNat f)),ae (sD [c]),ae (sD w)] M4:=λw hw=>by
   refine st (i:=0) (v:=2) rfl rfl J ⟨L rfl,?_,?_⟩
   ·rw[ap,bi];exact sz (show min a ls.length+1<=100 by omega)
   refine s1 (i:=0) (v:=2) rfl rfl J ⟨?_,?_⟩
   ·rw[ay,ap,ap,bi,bt];exact sz (show min a ls.length+1+(ls.length- (a+1))<=100 by omega)
   ·exact z _ _ _ _ (B _) (hd _) hw (by rw[bi,bt];omega)
  have:=key (b.take f++c::b.drop f) (.inr (.inr (.inl ⟨b,E,f,c,by omega,hc,rfl⟩)));rw[show sD (b.take f++c::b.drop f)=D.str (S (b.take f)++S [c]++S (b.drop f)) from congrArg D.str ew.symm] at this;exact this
 ·obtain⟨b,u⟩:∃b,ls[a]?=ae b:=⟨ls[a],by simp[ha]⟩;have E:b∈kX:=hb b (bu u);have I:=wB b E;have Zv:(S b).length<=ax:=jP (by omega);refine st (i:=0) (v:=2) rfl rfl o ?_;refine T rfl rfl o u I ⟨L rfl,?_,?_⟩
  ·rw[ap,bi];exact sz (show min a ls.length+1<=100 by omega)
  refine s1 (i:=0) (v:=2) rfl rfl o ⟨?_,?_⟩
  ·rw[ay,ap,ap,bi,bt];exact sz (show min a ls.length+1+(ls.length- (a+1))<=100 by omega)
  ·exact z _ _ _ _ (B _) (hd _) (.inr (.inr (.inr ⟨b,E,rfl⟩))) (by rw[bi,bt];omega)
end ll
namespace ll
open PySem PySem.Spec L2 L3 FJ
noncomputable def all2{α β:Type}(p:α->β->Bool):List α->List β->Bool
 |[],[]=>aj
 |a::x,b::y=>p a b&&all2 p x y
 |_,_=>ao
theorem sI{α β:Type}{p:α->β->Bool}{f:α->β}(h:∀a b,p a b=aj->f a=b):∀{xs:List α} {c:List β},all2 p xs c=aj->xs.map f=c
 |[],[],_=>rfl
 |[],_::_,e=>by cases e
 |_::_,[],e=>by cases e
 |a::x,b::y,e=>by have e:(p a b&&all2 p x y)=aj:=e;rw[aD] at e;rw[aU,h a b e.1,sI h e.2]
noncomputable def Ek(o:Option Int)(d:D):Bool:=match o,d with
 |none,.non=>aj
 |some n,.int m=>n==m
 |_,_=>ao
noncomputable def Br(l:List Nat)(d:D):Bool:=match d with
 |.str x=>jV l x.cps.toList
 |_=>ao
noncomputable def IT(x:It)(d:D):Bool:=match x,d with
 |.w l,d=>Br l d
 |.i o,d=>Ek o d
 |.t a,.bl b=>a==b
 |.ns l,.lst ds=>all2 Ek l ds
 |.ws l,.lst ds=>all2 Br l ds
 |_,_=>ao
theorem Bs{o:Option Int}{d:D}(h:Ek o d=aj):Bb o=d:=by
 unfold Ek at h;split at h
 ·rfl
 ·rw[beq_iff_eq] at h;subst h;rfl
 ·cases h
theorem wC{l:List Nat}{d:D}(h:Br l d=aj):sD l=d:=by
 unfold Br at h;split at h
 ·rw[iR] at h;subst h;exact congrArg D.str (PY _)
 ·cases h
theorem IU{x:It}{d:D}(h:IT x d=aj):x.d=d:=by
 unfold IT at h;split at h
 ·exact wC h
 ·exact Bs h
 ·rw[beq_iff_eq] at h;subst h;rfl
 ·exact congrArg D.lst (sI (f:=Bb) (λ_ _=>Bs) h)
 ·exact congrArg D.lst (sI (f:=sD) (λ_ _=>wC) h)
 ·cases h
noncomputable def same(o:Option Raw)(d:D):Bool:=match o,d with
 |none,.non=>aj
 |some r,.tup (k::ds)=>Br r.1 k&&all2 IT r.2 ds
 |_,_=>ao
theorem Ma{o:Option Raw}{d:D}(h:same o d=aj):rD o=d:=by
 unfold same at h;split at h
 ·rfl
 ·rw[aD] at h;rename_i r k ds;show D.tup (sD r.1::r.2.map It.d)=_;rw[wC h.1,sI (f:=It.d) (λ_ _=>IU) h.2]
 ·cases h
noncomputable def tI:It->List (List Nat)
 |.w x=>[x]
 |.i (ae n)=>[Rr n]
 |.ns l=>l.map λo=>Rr (o.getD 0)
 |.ws l=>l
 |_=>[]
noncomputable def zr:Option Int->Bool
 |some n=>decide (n.natAbs<10^10)
 |none=>ao
noncomputable def X6:It->Bool
 |.w x=>bM x.length 11
 |.i o=>zr o
 |.ns l=>l.all zr
 |.ws l=>l.all λx=>bM x.length 11
 |.t _=>ao
noncomputable def X7(r:Raw)(l:List Nat):Bool:=
 bif jV r.1 xQ then match r.2 with
  |[.w x,.t b]=>bM x.length 11&&jV l (x++(bif b then[58,58] else[58]))
  |_=>ao
 else bM r.1.length 11&&r.2.all X6&&bM (r.2.flatMap tI).length 60&&jV l (jl 32 (r.1::r.2.flatMap tI))
theorem tV{o:Option Int}(h:zr o=aj):∃n,o=ae n/\n.natAbs<10^10:=by
 cases o with
 |none=>cases h
 |some n=>exact⟨n,rfl,of_decide_eq_true h⟩
theorem NL{x:List Nat}(h:bM x.length 11=aj):Rt (sD x):=.inl ⟨S x,rfl,by rw[iL];exact bP.mp h⟩
theorem NM{o:Option Int}(h:zr o=aj):Rt (Bb o):=by obtain⟨n,rfl,hn⟩:=tV h;exact .inr ⟨n,rfl,hn⟩
theorem Ut{x:It}(h:X6 x=aj):BE x.d:=by
 cases x with
 |w x=>exact .inl (NL h)
 |i o=>exact .inl (NM h)
 |t b=>cases h
 |ns l=>exact .inr ⟨_,rfl,λy a=>by obtain⟨o,c,rfl⟩:=cj.mp a;exact NM (bj.mp h o c)⟩
 |ws l=>exact .inr ⟨_,rfl,λy a=>by obtain⟨o,c,rfl⟩:=cj.mp a;exact NL (bj.mp h o c)⟩
theorem Uu(n:Int):nT n=S (Rr n):=j9 (Il n)
theorem NN:∀{xs:List It},xs.all X6=aj->(oO (xs.map It.d)).map IJ=(xs.flatMap tI).map S
 |[],_=>rfl
 |x::xs,h=>by
  rw[dm,aD] at h;have a:=NN h.2;rw[aU,List.flatMap_cons,bE,<-a];cases x with
  |w x=>rfl
  |i o=>
   obtain⟨n,rfl,_⟩:=tV h.1;show nT n::_=[S (Rr n)]++_;rw[Uu];rfl
  |t b=>exact absurd (show ao=aj from h.1) (by decide)
  |ns l=>
   show(l.map Bb++oO (xs.map It.d)).map IJ=_;rw[bE];congr 1;show(l.map Bb).map IJ=(l.map λo=>Rr (o.getD 0)).map S;rw[bF,bF];refine eL λo c=>?_;obtain⟨n,rfl,_⟩:=tV (bj.mp h.1 o c);exact Uu n
  |ws l=>
   show(l.map sD++oO (xs.map It.d)).map IJ=_;rw[bE];congr 1;show(l.map sD).map IJ=l.map S;rw[bF];rfl
theorem QL{r:Raw}{l:List Nat}(h:X7 r l=aj):Sh r.d (S l):=by
 obtain⟨k,xs⟩:=r;unfold X7 at h;cases a:jV k xQ with
 |true=>
  simp only [a,cond_true] at h;split at h
  ·rename_i x b;rw[aD,iR] at h;have:=Sh.mark (w:=S x) (b:=b) (by rw[iL];exact bP.mp h.1);have e:S l=S x++bI (if b=aj then"::" else":"):=by rw[h.2];refine j9 ?_;rw[p8];cases b<;>rfl
   rw[e];have e2:(D.str "mark")=sD k:=by rw[iR.mp a];rfl
   rw[e2] at this;exact this
  ·cases h
 |false=>
  simp only [a,cond_false] at h;rw[aD,aD,aD,iR] at h;obtain⟨⟨⟨f,c⟩,g⟩,i⟩:=h;have e:=NN c;have hm:(S k==("mark":av))=ao:=(qW k "mark").trans a;have:=Sh.row (k:=S k) (xs:=xs.map It.d) hm (by rw[iL];exact bP.mp f) (λd hd=>by
   obtain⟨x,j,rfl⟩:=cj.mp hd;exact Ut (bj.mp c x j)) (by have:=congrArg fO e;rw[ap,ap] at this;rw[this];exact bP.mp g)
  rw[e] at this;have e5:cZ ⟨#[32]⟩ (S k::(xs.flatMap tI).map S)=S l:=j9 (by rw[nE,aU,bF,show((λs=>s.cps.toList)∘S)=id from rfl,fg,i];rfl)
  rw[e5] at this;exact this
noncomputable def Zw(a b:Option (List Nat)):Bool:=match a,b with
 |none,aq=>aj
 |some x,ae y=>jV x y
 |_,_=>ao
noncomputable def Rx(l:List Nat):Bool:=bM l.length 100&&l.all (λc=>bM c 127&&!bH c 10)&&Zw (oB l) (zE l)&&same (LK l) (o8 l)
 &&(match LK l with|none=>aj|some r=>X7 r l)&&(match oB l with|none=>aj|some n=>jV l (wA++n))
structure Ck(l:List Nat):Prop where
 len:l.length<=100
 low:Ef l
 O5:10∉l
 nm:oB l=zE l
 X8:fP l=o8 l
 sh:nh l=aj->Sh (fP l) (S l)
 pt:∀n,oB l=ae n->l=wA++n
theorem zt{l:List Nat}(h:Rx l=aj):Ck l:=by
 unfold Rx at h;rw[aD,aD,aD,aD,aD] at h;obtain⟨⟨⟨⟨⟨j,a⟩,b⟩,m⟩,g⟩,i⟩:=h;have a:=bj.mp a;refine⟨bP.mp j,λc hc=>?_,λhc=>?_,?_,Ma m,λf=>?_,λn hn=>?_⟩
 ·have:=a c hc;rw[aD,bP] at this;omega
 ·have:=a 10 hc;cases this
 ·unfold Zw at b;split at b
  ·rename_i e1 e2;rw[e1,e2]
  ·rename_i e1 e2;rw[e1,e2,iR.mp b]
  ·cases b
 ·unfold nh at f;unfold fP;cases e:LK l with
  |none=>rw[e] at f;cases f
  |some r=>rw[e] at g;exact QL g
 ·rw[hn] at i;exact iR.mp i
theorem IV:kX.all Rx=aj:=by decide+kernel
theorem Mb:FE.all Rx=aj:=by decide+kernel
theorem IW:kX.all (λb=>Rx (b.drop 1))=aj:=by decide+kernel
theorem Mc:kX.all (λb=>(cG (b.length+1)).all λk=>tS.all λc=>Rx (b.take k++c::b.drop k))=aj:=by decide+kernel
theorem X9{l:List Nat}(h:Vi l):Ck l:=by
 rcases h with h|h|⟨b,hb,k,c,a,hc,rfl⟩|⟨b,hb,rfl⟩
 ·exact zt (bj.mp IV l h)
 ·exact zt (bj.mp Mb l h)
 ·exact zt (bj.mp (bj.mp (bj.mp Mc b hb) k (List.mem_range.mpr (by omega))) c hc)
 ·exact zt (bj.mp IW b hb)
end ll
namespace ll
open PySem PySem.Spec L2 L3 FJ
theorem Md(l:List Nat):nh l=!SF (fP l):=by unfold nh fP;cases LK l<;>rfl
theorem FG{nm a:List Nat->Option (List Nat)}{ok b:List Nat->Bool}{acc:List Pl}{l:List Nat}(c:nm l=a l)(e:ok l=b l):wU nm ok acc l=wU a b acc l:=by unfold wU;rw[c,e]
theorem Bt{nm b:List Nat->Option (List Nat)}{ok c:List Nat->Bool}:∀(ls:List (List Nat)) (j:Nat) (acc:List Pl),(∀l∈ls,nm l=b l/\ok l=c l)->rd nm ok j acc ls=rd b c j acc ls
 |[],j,acc,_=>rfl
 |l::ls,j,acc,h=>by
  have e:=FG (acc:=acc) (h l (by simp)).1 (h l (by simp)).2;show(match wU nm ok acc l with|none=>eO j|some a=>rd nm ok (j+1) a ls)=(match wU b c acc l with|none=>eO j|some a=>rd b c (j+1) a ls);rw[e];cases wU b c acc l with
  |none=>rfl
  |some a=>exact Bt ls (j+1) a λx f=>h x (au _ f)
structure RI(zG:List (List Nat))(acc:List Pl):Prop where
 r:∀p∈acc,∀l∈p.2,l∈zG/\nh l=aj
 n:∀p∈acc,∃l∈zG,oB l=ae p.1
theorem RI.nil{a:List (List Nat)}:RI a []:=⟨λ_ h=>(by cases h),λ_ h=>(by cases h)⟩
theorem RI.new{b:List (List Nat)}{acc:List Pl}{n l:List Nat}(h:RI b acc)(e:l∈b)(hn:oB l=ae n):RI b (acc++[(n,[])]):=by
 refine⟨λp a x c=>?_,λp a=>?_⟩
 ·rcases aO.mp a with a|a
  ·exact h.r p a x c
  ·rw[aZ.mp a] at c;cases c
 ·rcases aO.mp a with a|a
  ·exact h.n p a
  ·rw[aZ.mp a];exact⟨l,e,hn⟩
theorem RI.row{c:List (List Nat)}{e:List Pl}{p:Pl}{l:List Nat}(h:RI c (e++[p]))(f:l∈c)(g:nh l=aj):RI c (e++[(p.1,p.2++[l])]):=by
 refine⟨λq a x b=>?_,λq a=>?_⟩
 ·rcases aO.mp a with a|a
  ·exact h.r q (br _ a) x b
  ·rw[aZ.mp a] at b;rcases aO.mp b with b|b
   ·exact h.r p (by simp) x b
   ·rw[aZ.mp b];exact⟨f,g⟩
 ·rcases aO.mp a with a|a
  ·exact h.n q (br _ a)
  ·rw[aZ.mp a];exact h.n p (by simp)
theorem IX(acc:List Pl)(n:List Nat):lU (acc++[(n,[])])=lU acc++["part "++S n]:=by rw[nF];rfl
theorem IY(a:List Pl)(p:Pl)(l:List Nat):lU (a++[(p.1,p.2++[l])])=lU (a++[p])++[S l]:=by rw[nF,nF];show lU a++(NJ (p.1,p.2++[l])++[])=(lU a++(NJ p++[]))++[S l];rw[bf,bf,bA];congr 1;show("part "++S p.1)::(p.2++[l]).map S=("part "++S p.1)::p.2.map S++[S l];rw[bE];rfl
theorem IZ{acc a:List Pl}{l:List Nat}(h:wU oB nh acc l=ae a):(∃n,oB l=ae n/\a=acc++[(n,[])])\/∃b p,acc=b++[p]/\nh l=aj/\a=b++[(p.1,p.2++[l])]:=by
 have row:(bif nh l&&!acc.isEmpty then ae (Bi acc l) else aq)=ae a->∃b p,acc=b++[p]/\nh l=aj/\a=b++[(p.1,p.2++[l])]:=λh=>by
  cases c:nh l with
  |false=>rw[c] at h;cases h
  |true=>
   rw[c] at h;rcases cN acc with rfl|⟨b,p,e⟩
   ·cases h
   ·rw[cO] at e;subst e;have:(!(b++[p]).isEmpty)=aj:=by simp
    rw[this,qf] at h;cases h;exact⟨b,p,rfl,rfl,rfl⟩
 unfold wU at h;cases hn:oB l with
 |none=>rw[hn] at h;exact .inr (row h)
 |some n=>
  rw[hn] at h;cases f:wT acc with
  |true=>simp only [f,cond_true] at h;exact .inr (row h)
  |false=>simp only [f,cond_false] at h;cases h;exact .inl ⟨n,rfl,rfl⟩
theorem zu{zG:List (List Nat)}:∀(ls:List (List Nat)) (j:Nat) (acc res:List Pl),(∀l∈ls,l∈zG/\Ck l)->RI zG acc->rd oB nh j acc ls=.inr res->RI zG res/\lU res=lU acc++ls.map S
 |[],j,acc,res,_,b,h=>by
  have h:(bif wT acc then eO j else fh acc)=.inr res:=h;cases g:wT acc with
  |true=>rw[g] at h;cases h
  |false=>rw[g] at h;cases h;exact⟨b,by simp⟩
 |l::ls,j,acc,res,hm,b,h=>by
  have c:=hm l (by simp);have i:=λx m=>hm x (au l m);rcases oC (r:=.inr res) h.symm with⟨a,e1,e2⟩|⟨_,e2⟩
  ·rcases IZ e1 with⟨n,hn,rfl⟩|⟨q,p,rfl,o,rfl⟩
   ·obtain⟨e,f⟩:=zu ls (j+1) _ res i (b.new c.1 hn) e2.symm;refine⟨e,?_⟩;rw[f,IX,bA,aU];have:S l="part "++S n:=by rw[c.2.pt n hn];refine j9 ?_;rw[p8];rfl
    rw[this];rfl
   ·obtain⟨e,f⟩:=zu ls (j+1) _ res i (b.row c.1 o) e2.symm;refine⟨e,?_⟩;rw[f,IY,bA,aU];rfl
  ·cases e2
theorem QM{c:Nat}{ls:List (List Nat)}(ne:ls≠[])(h:∀l∈ls,c∉l):kL c (jl c ls)=ls:=by obtain⟨a,b,e⟩:=oA c (jl c ls);exact CH a ne b h e
theorem zv(c:Nat)(ls:List (List Nat)):cZ ⟨#[c]⟩ (ls.map S)=S (jl c ls):=j9 (by rw[nE,bF,show((λs=>s.cps.toList)∘S)=id from rfl,fg];rfl)
theorem NP{c:Nat}:∀(ls:List (List Nat)) (n:Nat),(∀l∈ls,l.length<=n)->(jl c ls).length<=ls.length*(n+1)
 |[],n,_=>bx _
 |[x],n,h=>by have:=h x (by simp);show x.length<=1*_;omega
 |x::y::r,n,h=>by have e:=h x (by simp);have f:=NP (c:=c) (y::r) n λs b=>h s (au _ b);show(x++c::jl c (y::r)).length<=_;rw[ay,aM,aM (a:=x),Nat.succ_mul];omega
theorem Ja{c:Nat}(hc:c<128):∀(ls:List (List Nat)),(∀l∈ls,Ef l)->Ef (jl c ls)
 |[],h=>λ_ h=>(by cases h)
 |[x],h=>h x (by simp)
 |x::y::r,h=>λa ha=>by
  rcases aO.mp (show a∈x++c::jl c (y::r) from ha) with ha|ha
  ·exact h x (by simp) a ha
  ·rcases aE.mp ha with rfl|ha
   ·exact hc
   ·exact Ja hc (y::r) (λl b=>h l (au _ b)) a ha
structure Dr(ls:List (List Nat)):Prop where
 u:∀l∈ls,Ck l
 lo:1<=ls.length
 hi:ls.length<=11
theorem Dr.ne{ls:List (List Nat)}(h:Dr ls):ls≠[]:=λz=>by have:=h.lo;rw[z] at this;cases this
theorem Dr.kL{ls:List (List Nat)}(h:Dr ls):kL 10 (jl 10 ls)=ls:=QM h.ne λl a=>(h.u l a).O5
theorem Dr.tx{ls:List (List Nat)}(h:Dr ls):tQ (jl 10 ls):=by
 have hi:=h.hi;refine⟨by rw[h.kL];omega,λl a=>?_,?_⟩
 ·rw[h.kL] at a;have:=(h.u l a).len;omega
 ·have:=NP (c:=10) ls 100 λl a=>(h.u l a).len;have:=dI 101 hi;omega
theorem Dr.low{ls:List (List Nat)}(h:Dr ls):Ef (jl 10 ls):=Ja (by decide) ls λl a=>(h.u l a).low
theorem Dr.rd{ls:List (List Nat)}(h:Dr ls):rd oB nh 0 [] ls=rd zE Eh 0 [] ls:=Bt ls 0 [] λl a=>by have c:=h.u l a;refine⟨c.nm,?_⟩;rw[Md,c.X8];rfl
theorem Dr.sd{ls:List (List Nat)}(h:Dr ls):Ue fP (ll.rd oB nh 0 [] ls)=Ue o8 (ll.rd zE Eh 0 [] ls):=by
 rw[<-h.rd];cases e:ll.rd oB nh 0 [] ls with
 |inl j=>rfl
 |inr acc=>
  obtain⟨b,_⟩:=zu (zG:=ls) ls 0 [] acc (λl a=>⟨a,h.u l a⟩) .nil e;show D.lst (acc.map (Ea fP))=D.lst (acc.map (Ea o8));congr 1;refine eL λp c=>?_;show D.tup [sD p.1,.lst (p.2.map fP)]=D.tup [sD p.1,.lst (p.2.map o8)];rw[eL λl a=>(h.u l (b.r p c l a).1).X8]
theorem Dr.ps{ls:List (List Nat)}(h:Dr ls){acc:List Pl}(e:ll.rd oB nh 0 [] ls=.inr acc):Ru acc/\cZ ⟨#[10]⟩ (lU acc)=S (jl 10 ls)/\wV 5 (.lst (acc.map (Ea fP))):=by
 obtain⟨g,b⟩:=zu (zG:=ls) ls 0 [] acc (λl b=>⟨b,h.u l b⟩) .nil e;have b:lU acc=ls.map S:=b;have i:∀p∈acc,p.1.length<=100/\Ef p.1:=λp f=>by obtain⟨l,hm,hn⟩:=g.n p f;have c:=h.u l hm;have e:=c.pt _ hn;refine⟨?_,λa ha=>c.low a (by rw[e];exact bh _ ha)⟩;have:=c.len;rw[e,ay] at this;omega
 refine⟨⟨λp f=>by have:=(i p f).1;omega,λp f l b=>(h.u l (g.r p f l b).1).sh (g.r p f l b).2,λp f l b=>by have:=(h.u l (g.r p f l b).1).len;omega,by rw[b,ap];have:=h.hi;omega⟩,by rw[b,zv],?_⟩;refine uV (n:=4) λp f=>?_;unfold Ea;refine uW (n:=3) λd hd=>?_;rcases aE.mp hd with rfl|hd
 ·exact(Bm (i p f).2).le (by decide)
 ·rw[aZ.mp hd];refine uV λl b=>?_;have c:=h.u l (g.r p f l b).1;rw[c.X8];exact Eg c.low
mutual
theorem Bu:∀d:D,L3.pl d=aj->ui d d=aj
 |.non,_=>rfl
 |.bl b,_=>by cases b<;>rfl
 |.int i,_=>by unfold ui;simp
 |.str s,_=>by unfold ui;simp
 |.tup ds,h=>by unfold ui;unfold L3.pl at h;exact tW ds h
 |.lst ds,h=>by unfold ui;unfold L3.pl at h;exact tW ds h
 |.ty _,h=>by unfold L3.pl at h;cases h
 |.oZ ns,h=>by unfold L3.pl at h;cases h
 |.cls _,h=>by unfold L3.pl at h;cases h
 |.loc _,h=>by unfold L3.pl at h;cases h
 |.jR _ _,h=>by unfold L3.pl at h;cases h
 |.ins _ _ _,h=>by unfold L3.pl at h;cases h
 |.exc _ _ _,h=>by unfold L3.pl at h;cases h
theorem tW:∀ds:List D,L3.B7 ds=aj->uB ds ds=aj
 |[],_=>rfl
 |d::ds,h=>by unfold uB;unfold B7 at h;rw[aD] at h;rw[Bu d h.1,tW ds h.2];rfl
end
end ll
namespace ll
open PySem PySem.Spec L2 L3 FJ
def Me (K:W.Frag)(a b c e f g:GN):DS:=(gC (ip 2 (hZ a (gg (gj 1) gq)))
 (gC (ip 3 (hZ b (gg (gj 2) gq)))
 (gC (ip 4 (o7 "str" oa (dC (.str "\n")) (gg (hZ c (gg (gj 3) (gg (gj 2) gq))) gq)))
 (gC (ip 5 (hZ e (gg (gj 4) gq)))
 (gC (ip 6 (hZ f (gg (gj 4) gq)))
 (gC (ik (uI (gz (hZ (nS K) (gg (gj 6) (gg (dC (.ty "bool")) gq)))) (uI (gz (gD mS (hZ (nS K) (gg (gj 6) (gg (dC (.ty "int")) gq))) (hZ (nS K) (gg (gj 5) (gg (dC (.ty "int")) gq))))) (gz (gD mS (gj 6) (gj 5))))) (gL (dC (.bl ao))) gK)
 (ik (ny (gz (hZ (nS K) (gg (gj 5) (gg (dC (.ty "list")) gq)))) (gz (gD mS (hZ g (gg (gj 6) gq)) (gj 4)))) (gL (dC (.bl ao))) gK)))))))
def Mf (a:GN):DS:=(ik (gz (gD mS (hZ a (gg (gj 7) gq)) (dC (.int 0)))) (gL (dC (.bl ao))) gK)
def Mg (a:GN):DS:=(gC (ip 8 (o7 "str" oa (dC (.str "\n")) (gg (gD gJ (gD gJ (gD gJ (gS (ii (gg (dC (.str "part a")) gq))) (gD kz (gS (ii (gg (dC (.str "say 1")) gq))) (dC (.int 70)))) (gS (ii (gg (dC (.str "stop")) gq)))) (gD kz (gS (ii (gg (dC (.str "part a\nstop")) gq))) (dC (.int 13)))) gq)))
 (gC (ik (gz (gD mS (hZ a (gg (gj 8) gq)) (gD gJ (gS (ii (gg (i3 (gg (dC (.str "a")) (gg (gD gJ (gD kz (gS (ii (gg (i3 (gg (dC (.str "say")) (gg (dC (.int 1)) gq))) gq))) (dC (.int 70))) (gS (ii (gg (i3 (gg (dC (.str "stop")) gq)) gq)))) gq))) gq))) (gD kz (gS (ii (gg (i3 (gg (dC (.str "a")) (gg (gS (ii (gg (i3 (gg (dC (.str "stop")) gq)) gq))) gq))) gq))) (dC (.int 13)))))) (gL (dC (.bl ao))) gK)
 (gC (ip 9 (gD gJ (gD gJ (gD gJ (dC (.str "part a\nnumbers")) (gD kz (dC (.str " 1")) (dC (.int 60)))) (dC (.str "\ntable"))) (gD kz (dC (.str " a")) (dC (.int 60)))))
 (gC (ik (gz (gD mS (hZ a (gg (gj 9) gq)) (gS (ii (gg (i3 (gg (dC (.str "a")) (gg (gS (ii (gg (i3 (gg (dC (.str "numbers")) (gg (gD kz (gS (ii (gg (dC (.int 1)) gq))) (dC (.int 60))) gq))) (gg (i3 (gg (dC (.str "table")) (gg (gD kz (gS (ii (gg (dC (.str "a")) gq))) (dC (.int 60))) gq))) gq)))) gq))) gq))))) (gL (dC (.bl ao))) gK)
 (gC (ik (Lq (hZ a (gg (gD gJ (gj 9) (dC (.str " a"))) gq)) 2 9 "numbers" "numbers 1" a 1) (gL (dC (.bl ao))) gK)
 (gL (mQ (gD lN (hZ a (gg (dC (.str "")) gq)) (dC (.int 0))) (mQ (gD lN (hZ a (gg (dC (.str "part a")) gq)) (dC (.int 1))) (gD lN (hZ a (gg (dC (.str "part a\nstop")) gq)) (gS (ii (gg (i3 (gg (dC (.str "a")) (gg (gS (ii (gg (i3 (gg (dC (.str "stop")) gq)) gq))) gq))) gq))))))))))))
theorem QN(K:W.Frag)(b c e f a g:GN):Ia K b c e f a g=(gC (vA (jc (gD gJ (k7 (gj 0) gE (ig (dC (.int 12)))) (gS (ii (gg (dC (.int 0)) gq))))) (gQ 1) (Me K b c e f a g))
 (gC (vA (jc (gS (ii (gg (dC .non) (gg (dC (.int 5)) (gg (gS (ii (gg (dC (.str "part a")) (gg (dC (.str "stop")) gq)))) gq)))))) (gQ 7) (Mf a))
 (Mg a))):=rfl
section
variable {M:Ms} {Q:DK}
theorem Ya{b:Bool}(q:Q (.bl ao) M):mS (.bl b) (.bl b) M Q:=⟨⟨rfl,rfl,by show dp (.bl b)<=60;unfold dp;decide,by show dp (.bl b)<=60;unfold dp;decide⟩,by cases b<;>exact q⟩
theorem Jb{i:Int}(q:Q (.bl ao) M):mS (.int i) (.int i) M Q:=by show Q (.bl (!(i==i))) M;rw[beq_self_eq_true];exact q
theorem Yb{x y:av}(e:x=y)(q:Q (.bl ao) M):mS (.str x) (.str y) M Q:=by subst e;show Q (.bl (!(x==x))) M;rw[beq_self_eq_true];exact q
theorem QP{xs a:List D}(h:WM (.lst xs) (.lst a))(e:ui (.lst xs) (.lst a)=aj)(q:Q (.bl ao) M):mS (.lst xs) (.lst a) M Q:=by refine⟨h,?_⟩;show Q (.bl (!ui (.lst xs) (.lst a))) M;rw[e];exact q
theorem Yc{xs:List D}(h:wV 5 (.lst xs))(q:Q (.bl ao) M):mS (.lst xs) (.lst xs) M Q:=QP ⟨h.1,h.1,aQ h.2 (by decide),aQ h.2 (by decide)⟩ (Bu _ h.1) q
end
theorem Mh{K:W.Frag}{E:iV}{M:Ms}{x0 x2 x3 v w y g h n:Option D}{i:Int}(q:∀z A B C G H,E.nx [x0,ae (.int i),z,A,B,C,G,g,h,n] H):
  Me K nG qg nH (cl xR) (cl kA) (cl xS) E [x0,ae (.int i),x2,x3,v,w,y,g,h,n] M:=by
 have c:=@Ya;have o:=@Jb;have fs:=@Yb;have p:=@Yc;unfold Me;generalize mS=Y at c o fs p ⊢;refine⟨M.length,0,rfl,⟨i/2,i%2,0,i,by simp,Int.le_refl _,Int.le_refl _⟩,by decide,λm ls M1 I ne hb J L e=>?_⟩;refine⟨rfl,m,M.length,_,ls,rfl,I,ne,hb,J,L,e,by decide,λa M2 N O r=>?_⟩;have b:Dr a:=⟨λl f=>X9 (N l f),O,r⟩;have Q:eI "\n" (a.map S)=S (jl 10 a):=by unfold eI;rw[d8];exact zv 10 a
 refine⟨a.map S,by show D.lst (a.map sD)=_;rw[bF];rfl,zm 100 (λs e=>?_) ?_,?_⟩
 ·obtain⟨l,f,rfl⟩:=cj.mp e;rw[iL];exact(b.u l f).len
 ·rw[ap];exact aQ (dI _ r) (by decide)
 rw[Q];refine⟨rfl,jl 10 a,b.tx,b.low,rfl,rfl,.inl ⟨jl 10 a,b.tx,rfl,?_⟩⟩;rw[b.kL,<-b.sd];cases T:rd oB nh 0 [] a with
 |inl j=>
  refine⟨_,rfl,_,rfl,_,rfl,c (o ?_)⟩;exact⟨_,rfl,q _ _ _ _ _ _⟩
 |inr acc=>
  obtain⟨ps,U,pp⟩:=b.ps T;refine⟨_,rfl,_,rfl,_,rfl,c (p pp ?_)⟩;refine⟨_,rfl,?_,acc,ps,rfl,fs U (q _ _ _ _ _ _)⟩;show(nl (.lst (acc.map (Ea fP)))&&aj)=aj;rw[uU LQ];rfl
theorem Mi{E:iV}{M:Ms}{a:j2}{d:D}(hd:a[7]?=ae (ae d))(h:d=.non\/d=.int 5\/d=.lst [.str "part a",.str "stop"])(q:E.nx a M):Mf (cl kA) E a M:=by
 have c:=@Jb;unfold Mf;generalize mS=e at c ⊢;have key:cl kA [d] M λx M1=>e x (.int 0) M1 λy M2=>match y with|.bl b=>(if b=aj then gL (dC (.bl ao)) E a M2 else gK E a M2)|_=>False:=by
  rcases h with rfl|rfl|rfl
  ·exact⟨rfl,.inr ⟨.inl rfl,c q⟩⟩
  ·exact⟨rfl,.inr ⟨.inr (.inl ⟨_,rfl⟩),c q⟩⟩
  ·exact⟨rfl,.inr ⟨.inr (.inr ⟨_,rfl,rfl⟩),c q⟩⟩
 unfold ik gz gD hZ gg gj;simp only [hd];exact key
end ll
namespace ll
open PySem PySem.Spec L2 L3 FJ
noncomputable def Zz(t:List Nat):Bool:=bM (kL 10 t).length 400&&(kL 10 t).all (λl=>bM l.length 900)&&bM t.length 100000
theorem qZ{t:List Nat}(h:Zz t=aj):tQ t:=by unfold Zz at h;rw[aD,aD,bP,bP] at h;exact⟨h.1.1,λl a=>bP.mp (bj.mp h.1.2 l a),h.2⟩
noncomputable def pa:List Nat:=[112,97,114,116,32,97]
noncomputable def sy:List Nat:=[115,97,121,32,49]
noncomputable def sp:List Nat:=[115,116,111,112]
noncomputable def NQ:List (List Nat):=[pa]++ba 70 sy++[sp]++ba 13 (pa++10::sp)
noncomputable def tM:List Nat:=jl 10 NQ
noncomputable def Yd:List Pl:=[([97],ba 70 sy++[sp])]++ba 13 ([97],[sp])
theorem txM:tQ tM:=qZ (by decide+kernel)
theorem rdM:rd oB nh 0 [] (kL 10 tM)=.inr Yd:=by decide+kernel
noncomputable def ZA:List Nat:=jD++(ba 60 [32,49]).flatten
noncomputable def Ye:List Nat:=jX++(ba 60 [32,97]).flatten
noncomputable def l6:List Nat:=pa++10::(ZA++10::Ye)
noncomputable def Yf:List Nat:=l6++[32,97]
noncomputable def l7:List Nat:=pa++10::(jD++[32,49]++(ba 60 [32,49]).flatten++10::Ye)
noncomputable def Yg:List Pl:=[([97],[ZA,Ye])]
noncomputable def Ry:av:="part a\nnumbers"++Txt.mul " 1" 60++"\ntable"++Txt.mul " a" 60
theorem wD:Ry=S l6:=by decide+kernel
theorem Uv:Ry++" a"=S Yf:=by rw[wD];decide+kernel
theorem Yh:cc (S l6) "numbers" 0 (S l6).length ((S l6).length+1)=[7]:=by rw[StrLaws.occ_eq];decide+kernel
theorem Yi:Txt.replace Ry "numbers" "numbers 1"=S l7:=by rw[wD];unfold Txt.replace;rw[Yh];decide+kernel
theorem Yj:tQ l6/\tQ Yf/\tQ l7:=⟨qZ (by decide+kernel),qZ (by decide+kernel),qZ (by decide+kernel)⟩
theorem rd6:rd oB nh 0 [] (kL 10 l6)=.inr Yg:=by decide+kernel
theorem Yk:rd oB nh 0 [] (kL 10 Yf)=.inl 2:=by decide+kernel
theorem rd7:rd oB nh 0 [] (kL 10 l7)=.inl 1:=by decide+kernel
theorem rd0:rd oB nh 0 [] (kL 10 [])=.inl 0:=by decide+kernel
theorem rd1:rd oB nh 0 [] (kL 10 pa)=.inl 1:=by decide+kernel
theorem WR:rd oB nh 0 [] (kL 10 (pa++10::sp))=.inr [([97],[sp])]:=by decide+kernel
theorem Yl:tQ []/\tQ pa/\tQ (pa++10::sp):=⟨qZ (by decide+kernel),qZ (by decide+kernel),qZ (by decide+kernel)⟩
end ll
namespace ll
open PySem PySem.Spec L2 L3 FJ
theorem Mj:MulOk " 1" 60:=⟨by decide,λ_ _=>by decide+kernel,λ_ _=>by decide+kernel⟩
theorem Ml:MulOk " a" 60:=⟨by decide,λ_ _=>by decide+kernel,λ_ _=>by decide+kernel⟩
theorem Jc{t:List Nat}{x:av}{M:Ms}{Q:DK}{r:Sum Nat (List Pl)}(h:tQ t)(e:x=S t)(a:rd oB nh 0 [] (kL 10 t)=r)(q:Q (Ue fP r) M):cl kA [.str x] M Q:=by subst e a;exact⟨rfl,.inl ⟨t,h,rfl,q⟩⟩
theorem QQ:NQ.map S=[bI "part a"]++(ba 70 [bI "say 1"]).flatten++[bI "stop"]++(ba 13 [bI "part a\nstop"]).flatten:=by decide+kernel
theorem jM:aaS "\n" (NQ.map S)=aj:=zm 20 (λs a=>by
 obtain⟨l,b,rfl⟩:=cj.mp a;have:∀l∈NQ,l.length<=20:=by decide+kernel
 rw[iL];exact this l b) (by rw[ap];exact aQ (dI _ (show NQ.length<=85 by decide+kernel)) (by decide))
theorem etM:eI "\n" (NQ.map S)=S tM:=by unfold eI;rw[d8];exact zv 10 NQ
def QR (b:G2)(a:GN):DS:=(gC (ik (gz (gD b (hZ a (gg (gj 9) gq)) (gS (ii (gg (i3 (gg (dC (.str "a")) (gg (gS (ii (gg (i3 (gg (dC (.str "numbers")) (gg (gD kz (gS (ii (gg (dC (.int 1)) gq))) (dC (.int 60))) gq))) (gg (i3 (gg (dC (.str "table")) (gg (gD kz (gS (ii (gg (dC (.str "a")) gq))) (dC (.int 60))) gq))) gq)))) gq))) gq))))) (gL (dC (.bl ao))) gK)
 (gC (ik (Lq (hZ a (gg (gD gJ (gj 9) (dC (.str " a"))) gq)) 2 9 "numbers" "numbers 1" a 1) (gL (dC (.bl ao))) gK)
 (gL (mQ (gD lN (hZ a (gg (dC (.str "")) gq)) (dC (.int 0))) (mQ (gD lN (hZ a (gg (dC (.str "part a")) gq)) (dC (.int 1))) (gD lN (hZ a (gg (dC (.str "part a\nstop")) gq)) (gS (ii (gg (i3 (gg (dC (.str "a")) (gg (gS (ii (gg (i3 (gg (dC (.str "stop")) gq)) gq))) gq))) gq)))))))))
theorem Mm{E:iV}{M:Ms}{x0 x1 x2 x3 j m n o p:Option D}(q:E.rt (.bl aj) M):QR mS (cl kA) E [x0,x1,x2,x3,j,m,n,o,p,ae (.str Ry)] M:=by
 have L:∀{a b:Nat},bM a b=aj->a<=b:=a9;have r:=@Jb;have fl:=@QP;have sa:=@Jc;have f:∀{i:Int} {M:Ms} {Q:DK},Q (.bl aj) M->lN (.int i) (.int i) M Q:=λ{i M Q} q=>by show Q (.bl (i==i)) M;rw[beq_self_eq_true];exact q
 have g:∀{xs c:List D} {M:Ms} {Q:DK},WM (.lst xs) (.lst c)->ui (.lst xs) (.lst c)=aj->Q (.bl aj) M->lN (.lst xs) (.lst c) M Q:=λ{xs c M Q} h e q=>by refine⟨h,?_⟩;show Q (.bl (ui (.lst xs) (.lst c))) M;rw[e];exact q
 unfold QR;generalize lN=ge at f g ⊢;generalize u:cl kA=gs at sa ⊢;generalize v:mS=w at fl ⊢;refine sa Yj.1 wD rd6 ?_;refine⟨L rfl,⟨by decide,by decide,L rfl⟩,L rfl,L rfl,⟨by decide,by decide,L rfl⟩,L rfl,L rfl,L rfl,L rfl,?_⟩;refine fl ⟨by decide+kernel,by decide+kernel,by decide+kernel,by decide+kernel⟩ (by decide+kernel) ?_;refine⟨?_,?_⟩
 ·show Ry.length+(" a":av).length<=ax;rw[wD,iL];exact iJ (by decide+kernel)
 refine sa Yj.2.1 Uv Yk ?_;refine⟨by rw[wD,iL];decide+kernel,?_⟩;refine sa Yj.2.2 Yi rd7 ?_;refine r ?_;refine sa Yl.1 (by decide+kernel) rd0 ?_;refine f ?_;refine sa Yl.2.1 (by decide+kernel) rd1 ?_;refine f ?_;refine sa Yl.2.2 (by decide+kernel) WR ?_;refine⟨L rfl,L rfl,L rfl,L rfl,?_⟩;refine g ⟨by decide+kernel,by decide+kernel,by decide+kernel,by decide+kernel⟩ (by decide+kernel) q
theorem Mn{E:iV}{M:Ms}{x0 x1 x2 x3 c e f g h i:Option D}(q:E.rt (.bl aj) M):Mg (cl kA) E [x0,x1,x2,x3,c,e,f,g,h,i] M:=by
 have L:∀{a b:Nat},bM a b=aj->a<=b:=a9;have j:=@Jb;have n:=@Jb;have fl:=@QP;have sa:=@Jc;have sl:=@Mm;unfold Mg;generalize mS=m at j fl sl ⊢;generalize cl kA=gs at sa sl ⊢;refine⟨rfl,L rfl,L rfl,⟨by decide,by decide,L rfl⟩,L rfl,L rfl,L rfl,L rfl,⟨by decide,by decide,L rfl⟩,L rfl,NQ.map S,?_,jM,?_⟩
 ·rw[QQ];rfl
 rw[etM];refine sa txM rfl rdM ?_;refine⟨L rfl,L rfl,⟨by decide,by decide,L rfl⟩,L rfl,L rfl,L rfl,L rfl,L rfl,L rfl,L rfl,L rfl,L rfl,⟨by decide,by decide,L rfl⟩,L rfl,?_⟩;refine fl ⟨by decide+kernel,by decide+kernel,by decide+kernel,by decide+kernel⟩ (by decide+kernel) ?_;refine⟨Mj,L rfl,L rfl,Ml,L rfl,?_⟩;refine(show QR m gs E [x0,x1,x2,x3,c,e,f,g,ae (.str (S tM)),ae (.str Ry)] M from ?_);exact sl q
def El:GP:=λds Q=>∃ns:List Int,ds=[.oZ ns]/\Q (.bl aj)
theorem Jd{xs:List D}:cutD xs aq (ae 12)=xs.take 12:=by show cutD xs aq (ae ((12:Nat):Int))=_;exact Cj
theorem QU(K:W.Frag):∀ds Q,El ds Q->mO 10 1 (Ia K nG qg nH (cl xR) (cl kA) (cl xS)) ds Q:=λds Q ⟨ns,h,q⟩=>by
 subst h;rw[QN];have n:=@Mh K;have lb:=@Mi;have o:=@Mn;generalize Me K nG qg nH (cl xR) (cl kA) (cl xS)=lA at n ⊢;generalize Mf (cl kA)=u at lb ⊢;generalize Mg (cl kA)=v at o ⊢;refine⟨rfl,?_⟩;refine⟨a9 rfl,?_,?_⟩
 ·rw[Jd];simp;exact aQ (show min 12 ns.length+1<=13 by omega) (by decide)
 refine⟨(ns.take 12++[0]).map D.int,?_,rfl,?_⟩
 ·show ae (cutD (ns.map D.int) aq (ae 12)++[D.int 0])=_;rw[Jd];simp
 refine lL D.int (λ_ _ g _=>∃j a b c e f,g=[ae (.oZ ns),j,a,b,c,e,f,aq,aq,aq]) (λ_ _ _ _ _=>rfl) _ [] _ _ ⟨_,_,_,_,_,_,rfl⟩ (λpre i xs g p m N r=>?_) (λpre g p m=>?_)
 ·obtain⟨j,a,b,c,e,f,rfl⟩:=m;exact n λa b c e f p=>r _ _ ⟨_,_,_,_,_,_,rfl⟩
 ·obtain⟨j,a,b,c,e,f,rfl⟩:=m;refine⟨a9 rfl,a9 rfl,_,rfl,rfl,?_⟩;refine lb rfl (.inl rfl) ⟨rfl,lb rfl (.inr (.inl rfl)) ⟨rfl,lb rfl (.inr (.inr rfl)) ⟨rfl,?_⟩⟩⟩;exact o ⟨rfl,q⟩
end ll
namespace ll
open PySem PySem.Spec L2 L3 FJ
theorem all_mk{l:W.OpenLaw}{w:aN}{K:W.Frag}{h:az}{mg:av->Option af}{i:ai}(X:K.In h)(G:h.Ns bc mg)(p:mg "law"=ae (.ref i))
{cF b a u y Bv ZC:ai}{t0 t1 t2 t3 t4 t5:aaU}
(tY:W.nsIn K bc "FORMS"=ae (ae (.ref cF)))
(tb:pE K cF rY)
(lp:W.nsIn K bc "PartError"=ae (ae (.ref b)))
(qh:W.nsIn K bc "NoText"=ae (ae (.ref a)))
(nI:W.nsIn K bc "BadParts"=ae (ae (.ref u)))
(sJ:W.nsIn K bc "BadRow"=ae (ae (.ref y)))
(pO:W.nsIn K bc "NoCells"=ae (ae (.ref Bv)))
(q8:E9 K b b)
(oG:E9 K a b)
(Vl:Xm K a ZC "NoText.__init__" (uH (top 5) 0))
(xb:DP K b)
(Vm:W.findIn K (.ref a) "line"=ae aq)
(zx:W.kitOne K (.ref a) (.ref a)=ae aj)
(tZ:W.kitOne K (.ref a) (.ref u)=ae ao)
(zy:W.kitOne K (.ref a) (.ref y)=ae ao)
(jY:W.nsIn K bc "LONGEST_WORD"=ae (ae (.int (8) t0)))
(jZ:W.nsIn K bc "LONGEST_LIST"=ae (ae (.int (60) t1)))
(mM:W.nsIn K bc "LAST_BOX"=ae (ae (.int (3) t2)))
(j0:W.nsIn K bc "LEAST_NUMBER"=ae (ae (.int (-2147483648) t3)))
(jr:W.nsIn K bc "GREATEST_NUMBER"=ae (ae (.int (2147483647) t4)))
(j1:W.nsIn K bc "MOST_FIGURES"=ae (ae (.int (60) t5)))
(kZ:W.nsIn K bc "isinstance"=ae aq)
(Bw:W.nsIn K bc "int"=ae aq)
(wE:W.nsIn K bc "bool"=ae aq)
(Bx:W.nsIn K bc "str"=ae aq)
(By:W.nsIn K bc "len"=ae aq)
(Bz:W.nsIn K bc "all"=ae aq)
(wF:W.nsIn K bc "list"=ae aq)
(sL:W.nsIn K bc "tuple"=ae aq)
(BA:W.nsIn K bc "zip"=ae aq)
(lM:W.nsIn K bc "enumerate"=ae aq)
(sM:W.nsIn K bc "range"=ae aq)
(re:gY K mg "is_whole" (top 8))
(t6:gY K mg "is_word" (top 9))
(mo:gY K mg "is_list_of" (top 16))
(zA:gY K mg "fits" (top 17))
(wG:gY K mg "is_row" (top 18))
(kB:gY K mg "joined_by_blanks" (top 21))
(rf:gY K mg "show_row" (top 22))
(oH:gY K mg "show_parts" (top 23))
(m8:gY K mg "read_number" (top 24))
(wH:gY K mg "row_in" (top 25))
(rg:gY K mg "read_row" (top 26))
(pP:gY K mg "read_name" (top 27))
(oI:gY K mg "lacks_rows" (top 28))
(oJ:gY K mg "read_parts" (top 29))
(oK:gY K mg "_law_mixed" (top 32))
(pQ:gY K mg "_law_next" (top 33))
(m9:gY K mg "_law_source" (top 34))
(oM:gY K mg "_law_lines" (top 35))
(rj:gY K mg "_law_odd" (top 36))
(mN:gY K mg "_law_is_word" (top 37))
(lq:gY K mg "_law_is_number" (top 38))
(pR:gY K mg "_law_form" (top 39))
(rm:gY K mg "_law_row" (top 40))
(oN:gY K mg "_law_value" (top 41))
(pS:gY K mg "_law_read" (top 42))
(pT:gY K mg "_law_said" (top 43))
(ng:gY K mg "_law_spoilt" (top 44))
(Je:gY K mg "law" (top 45))
  :∃fd:bN,(∀(s:ah) (v:af),fV s fd ⟨[v],[]⟩ [("_law_script",v)])/\∀base:az,K.In base->base.Ns bc mg->kb l.prog w K mg base ud 12 i fd ["_law_script"] (mR K (cl El)):=by obtain⟨f,fd,F,m⟩:=id Je;have e:=p.symm.trans m;cases e;have kZ:=W.mg_none_of X G kZ;have Bw:=W.mg_none_of X G Bw;have wE:=W.mg_none_of X G wE;have Bx:=W.mg_none_of X G Bx;have By:=W.mg_none_of X G By;have Bz:=W.mg_none_of X G Bz;have wF:=W.mg_none_of X G wF;have sL:=W.mg_none_of X G sL;have BA:=W.mg_none_of X G BA;have lM:=W.mg_none_of X G lM;have sM:=W.mg_none_of X G sM;have jY:∃t,mg "LONGEST_WORD"=ae (.int (8) t):=⟨_,W.mg_of X G jY⟩;have jZ:∃t,mg "LONGEST_LIST"=ae (.int (60) t):=⟨_,W.mg_of X G jZ⟩;have mM:∃t,mg "LAST_BOX"=ae (.int (3) t):=⟨_,W.mg_of X G mM⟩;have j0:∃t,mg "LEAST_NUMBER"=ae (.int (-2147483648) t):=⟨_,W.mg_of X G j0⟩;have jr:∃t,mg "GREATEST_NUMBER"=ae (.int (2147483647) t):=⟨_,W.mg_of X G jr⟩;have j1:∃t,mg "MOST_FIGURES"=ae (.int (60) t):=⟨_,W.mg_of X G j1⟩;have tY:=W.mg_of X G tY;have lp:=W.mg_of X G lp;have qh:=W.mg_of X G qh;have nI:=W.mg_of X G nI;have sJ:=W.mg_of X G sJ;have pO:=W.mg_of X G pO;have Z:Zs mg:=⟨kZ,Bw,wE,Bx,By,Bz,wF,sL,BA,lM,sM,jY,jZ,mM,j0,jr,j1⟩;have xf:Zn K a b u y Bv:=⟨oG.sub q8,oG.get,Vm,zx,tZ,zy⟩;refine⟨fd,F.OP λ_ _ _ _ _ _ _=>rfl,λbase _ _=>?_⟩;obtain⟨z,FN⟩:=Vl.ex;have rN:∀j,yD l.prog w K mg base (j+1) "NoText" a ["line"]:=λj=>⟨qh,ZC,z,_,oG.mk_ Vl,wb FN,wP (k:=j) FN xb lp oG.cls oG.obj λg hg=>by simp at hg;subst hg;exact Vm⟩;have Jf:∀j,iA l.prog w K mg base (j+1) "is_whole" ["thing"] (cl Fl):=λj=>nB (Cp re Z) Fm (T5 K);have B:∀j,iA l.prog w K mg base (j+1) "is_word" ["thing"] (cl tP):=λj=>nB (Fd t6 Z) xO (T6 K);have QV:iA l.prog w K mg base 2 "fits" ["form","thing"] (cl rX):=nB (HS (j8:=λ_ _ _=>False) zA Z (B 0) (Jf 0) (Ta 1 mo (λ_ _ _ _ _ _ us hl=>match us,hl with|[_,_],_=>rfl))) ze (Iu K _);have C:iA l.prog w K mg base 3 "is_list_of" ["form","thing"] (cl HL):=nB (yM mo Z QV) Fn (T7 K);have Uw:iA l.prog w K mg base 4 "fits" ["form","thing"] (cl qP):=nB (HS zA Z (B 2) (Jf 2) C) Be (LG K);have Ym:iA l.prog w K mg base 5 "is_row" ["thing"] (cl D5):=nB (HU wG Z tY tb Uw) CS (Qk K _);have I:∀j,iA l.prog w K mg base (j+1) "joined_by_blanks" ["things"] (Tc IK):=λj=>hasB (qR kB Z) FA Up;have Ux:∀j,iA l.prog w K mg base (j+2) "show_row" ["row"] (cl zn):=λj=>nB (Ct rf Z (I j)) Bn (LZ K);have Yn:∀j,iA l.prog w K mg base (j+3) "show_parts" ["parts"] (cl xS):=λj=>nB (yN oH (Ux j)) C0 QD;have J:∀j,iA l.prog w K mg base (j+1) "read_number" ["text"] (cl Fj):=λj=>nB (wQ m8 Z) Fk T4;have Yo:∀j,iA l.prog w K mg base (j+2) "row_in" ["line"] (cl D8):=λj=>nB (HV wH Z (J j) tY tb) CT Qn;have Uy:iA l.prog w K mg base 6 "read_row" ["line"] (cl zf):=nB (Cv rg (Yo 3) Ym) Bf LL;have QX:∀j,iA l.prog w K mg base (j+2) "read_name" ["line"] (cl uT):=λj=>nB (AI pP Z (B j)) zg Iy;have L:∀j,iA l.prog w K mg base (j+1) "lacks_rows" ["parts"] (Fs fP):=λj=>EV (yO oI Z) Ft Ua;have N:DR l.prog w K mg base 7 "read_parts" ["text"] (LP a):=Tz (yP (k:=5) oJ Z (rN 4) (QX 4) Uy (L 5)) Fu (Uc K _);have Uz:iA l.prog w K mg base 8 "_law_said" ["_law_text"] (cl kA):=nB (CC (k:=7) pT Z lp N qh nI sJ pO) Bj (LR xf);have QY:∀j,iA l.prog w K mg base (j+1) "_law_mixed" ["_law_draw","_law_k"] (cl p4):=λj=>nB (AK oK) zo IM;have O:∀j,iA l.prog w K mg base (j+2) "_law_next" ["_law_source_here","_law_many"] tR:=λj=>EV (Cy pQ (QY j)) Bo L5;have Mo:∀j,iA l.prog w K mg base (j+1) "_law_source" ["_law_draw"] nG:=λj=>EV (yQ m9) wW FD;have QZ:∀j,iA l.prog w K mg base (j+3) "_law_lines" ["_law_source_here"] qg:=λj=>EV (AM oM Z (O j)) zp IQ;have Yp:∀j,iA l.prog w K mg base (j+3) "_law_odd" ["_law_source_here"] Ej:=λj=>EV (Fe rj Z (O j)) C1 QK;have Mp:∀j,iA l.prog w K mg base (j+4) "_law_spoilt" ["_law_lines_here","_law_source_here"] nH:=λj=>EV (yS ng Z (O (j+1)) (Yp j)) wX FF;have c:∀j,iA l.prog w K mg base (j+1) "_law_is_word" ["_law_word"] (cl tP):=λj=>nB (wR mN Z) xO Uf;have T:∀j,iA l.prog w K mg base (j+1) "_law_is_number" ["_law_word","_law_low","_law_high"] (cl LS):=λj=>nB (uE lq Z) Fv Ug;have U:∀j,iA l.prog w K mg base (j+2) "_law_form" ["_law_word","_law_form_here"] (cl Bk):=λj=>nB (Cz pR (T j) (c j)) Fw Uh;have Y:∀j,iA l.prog w K mg base (j+2) "_law_value" ["_law_word"] (cl Bl):=λj=>nB (AN oN Z (c j)) Fx Ui;have hLr:∀j,iA l.prog w K mg base (j+3) "_law_row" ["_law_line"] (cl IG):=λj=>nB (Ff rm Z (c (j+1)) (U j) (Y j)) Fz Uk;have Yq:∀j,iA l.prog w K mg base (j+4) "_law_read" ["_law_text"] (cl xR):=λj=>nB (CB pS Z (c (j+2)) (hLr j)) CY Qx;have hL:=WQ F mK.hb mK.hc mK.sc (λiC A outer s H E hr=>TY (P:=l.prog) (w:=w) (base:=base) (k:=11) Z (Mo 10) (QZ 8) (Mp 7) (Yq 7) (Uz.up (by decide)) (Yn 8) i iC A outer s H E hr);exact hL.imp λvs H Q E ⟨F,α,M,ds,o,r,n,q⟩=>⟨F,α,M,ds,o,r,n,QU K _ _ q⟩
theorem tb0{K:W.Frag}{H:Hp}(h:W.nsIn K bc "by_name"=ae aq):Tb K H:=λx a c P e=>by simp only [Sw,aZ] at a;subst a;unfold W.tabIn at e;rw[h] at e;cases e
theorem walk{l:W.OpenLaw}{q:aw}{loose:List av}{g:(av->Option af)->az->Prop}{b:aN->az->Prop}{d:DefRec}{K:abw->W.Frag}(hn:l.most=ae 63)(i:d.params.defaults=[])
(j:∀(w:aN) (h:az),b w h->(K w.params).In h)(nb:∀w:aN,W.nsIn (K w.params) bc "by_name"=ae aq)
(F:∀(w:aN) (mg:av->Option af) (c:ai) (h:az),(K w.params).In h->h.Ns bc mg->mg d.name=ae (.ref c)->
   ∃fd:bN,(∀(s:ah) (u:af),fV s fd ⟨[u],[]⟩ [("_law_script",u)])/\∀base:az,(K w.params).In base->base.Ns bc mg->kb l.prog w (K w.params) mg base ud 12 c fd ["_law_script"] (mR (K w.params) (cl El))):
  W.WalkO q loose g b l.row.toRowW d [] (λf m=>PySem.call f m):=
 L2.Kj (n:=63) (k:=12) (x:="_law_script") (CX:=λ_=>ud) (sp:=λw=>mR (K w.params) (cl El)) hn (by decide) i ⟨rfl,by decide,by decide,rfl⟩ j F (λw H a ns A _ p=>⟨[],[],[],[.oZ ns],Hg (tb0 (nb w)),by
  refine gp.one ?_;unfold Rep;refine⟨a,rfl,?_⟩;show nj _ (iT ([]++[]) H) a _;rw[bf];exact vN vM p,rfl,ns,rfl,λv B C e o r=>by unfold Rep at r;exact r⟩) λ_ _ _ _ _ z=>z
end ll
open PySem PySem.W PyProof.Rows
local macro_rules | `(tactic| walk_at "k_def") => `(tactic| (refine' L2.GG (by assumption) (by assumption) ?a ?l ?c ?k; (case a => k_is); (case l => k_is); (case c => k_is); (case k => k_is)))
local macro_rules | `(tactic| walk_at "k_row") => `(tactic| (refine KTD.Rows.cons rfl ?_ ?_; focus (refine' FJ.PN ?va ?vb ?vc ?vd ?ve; (case va => k_is); (case vb => rfl); (case vc => rfl); (case vd => exact a9 rfl); (case ve => (repeat (first | exact FJ.HM | refine FJ.Fa ?_))))))
local macro_rules | `(tactic| walk_at "k_kr") => `(tactic| first | k_is | kernel_rfl | rfl)
local macro_rules | `(tactic| walk_at "k_exc") => `(tactic| (refine' ⟨?e1, ?e2, ?e3, ?e4, ?e5, ?e6, ?e7, ?e8, ?e9, ?e10, ?e11, ?Rm, ?rK, ?e14, L3.PL ?e15 ?e16 ?e17 ?e18⟩; (case e1 => walk_at "k_kr"); (case e2 => unfold L2.Ax; kernel_rfl); (case e3 => walk_at "k_kr"); (case e4 => walk_at "k_kr"); (case e5 => walk_at "k_kr"); (case e6 => walk_at "k_kr"); (case e7 => walk_at "k_kr"); (case e8 => walk_at "k_kr"); (case e9 => walk_at "k_kr"); (case e10 => walk_at "k_kr"); (case e11 => walk_at "k_kr"); (case Rm => walk_at "k_kr"); (case rK => walk_at "k_kr"); (case e14 => walk_at "k_kr"); (case e15 => k_is); (case e16 => walk_at "k_kr"); (case e17 => first | rfl | kernel_rfl | k_is); (case e18 => first | rfl | kernel_rfl | k_is)))
local macro_rules | `(tactic| walk_at "k_exi") => `(tactic| (refine' L3.PM ?e1 ?e2 ?e3 ?e4 ?e5; (case e1 => k_is); (case e2 => k_is); (case e3 => k_is); (case e4 => k_is); (case e5 => k_is)))
namespace PySem.W.Fast
def tw4308323243060666144:=0
def tw9516372104034133314:=0
def tw7495750588562083363:=0
def tw7992827007501678500:=0
def tw9428418321516311815:=0
def tw2962207812763103212:=0
def tw2877469852452492909:=0
def tw10692052181895723984:=0
def tw7527901312470834485:=0
def tw9943610035630653495:=0
def tw10452515842163599134:=0
def tw5510724735099598879:=0
def tw13205539166850405864:=0
def tw2980843431484120012:=0
def tw9284189255175630934:=0
def tw3736318928183948757:=0
def tw1930515614171888557:=0
def tw13650814318617069876:=0
def tw15856094983585069074:=0
def tw7473528995181300515:=0
def tw6122849750087935985:=0
def tw9221735704432005017:=0
def tw13661309334775606658:=0
def tw14860489906510078489:=0
def tw11987959752339900818:=0
def tw8493131918324564161:=0
def tw14775411407630289479:=0
def tw17176536134654339674:=0
def tw2173037922284338471:=0
def tw15589200887242363762:=0
def tw17898001929764229401:=0
def tw5263416838243187291:=0
def tw8064338182365190825:=0
def tw8517692874241733351:=0
def tw17328031510626011524:=0
def tw3045875570520797932:=0
def tw13547230561957099307:=0
def tw17132840861381203692:=0
def tw9248828810738100083:=0
def tw3560198904260507650:=0
def tw2290592002526719707:=0
def tw12350645428349551145:=0
def tw15046190062963030902:=0
def tw12431849314011860460:=0
def tw12588903901021453608:=0
def tw14759491832162607319:=0
def tw6499248346817649197:=0
def tw859187937431711162:=0
def tw12719685587293009983:=0
def tw7053583227625246030:=0
def tw7873739290793846733:=0
def tw728083691185140730:=0
def tw8937122313575914560:=0
def tw5174390339986639422:=0
def tw3124763399149723011:=0
def tw10351955763343793327:=0
def tw1567082411139824902:=0
def tw17900176082700968963:=0
def tw13760736381156730711:=0
def tw17411038832402968704:=0
def tw358390135671942894:=0
def tw5805839354020852700:=0
def tw5565477400244379934:=0
def tw17509832320201483718:=0
def tw17132654954986455527:=0
def tw6782460735720579809:=0
def tw18167958901211902625:=0
def tw1563008853848487238:=0
end PySem.W.Fast
set_option maxRecDepth 100000 in
set_option maxHeartbeats 0 in
theorem PySem.Challenge.cw_farjump_k62_texts_of_no_parts_holds : PySem.Challenge.rw_farjump_k62_texts_of_no_parts.Holds := by
 w_on;o_law;k_head;(case hw=>w_witness2)
 k_fill
 refine ll.walk (l:=PySem.Challenge.rw_farjump_k62_texts_of_no_parts) rfl rfl (λw h Y=>PySem.W.kIn_of Y) ?nb ?F;case nb=>intro w;first|k_is|kernel_rfl|rfl
 case F=>
  intro w mg fa h KX G Si
  refine' ll.all_mk KX G Si ?tY ?tb ?lp ?qh ?nI ?sJ ?pO ?q8 ?oG ?Vl ?xb ?Vm ?zx ?tZ ?zy ?jY ?jZ ?mM ?j0 ?jr ?j1 ?kZ ?Bw ?wE ?Bx ?By ?Bz ?wF ?sL ?BA ?lM ?sM ?re ?t6 ?mo ?zA ?wG ?kB ?rf ?oH ?m8 ?wH ?rg ?pP ?oI ?oJ ?oK ?pQ ?m9 ?oM ?rj ?mN ?lq ?pR ?rm ?oN ?pS ?pT ?ng ?Je
  (case tY=>k_is)
  (case lp=>k_is)
  (case qh=>k_is)
  (case nI=>k_is)
  (case sJ=>k_is)
  (case pO=>k_is)
  (case Vl=>walk_at "k_exi")
  (case jY=>k_is)
  (case jZ=>k_is)
  (case mM=>k_is)
  (case j0=>k_is)
  (case jr=>k_is)
  (case j1=>k_is)
  (case kZ=>k_is)
  (case Bw=>k_is)
  (case wE=>k_is)
  (case Bx=>k_is)
  (case By=>k_is)
  (case Bz=>k_is)
  (case wF=>k_is)
  (case sL=>k_is)
  (case BA=>k_is)
  (case lM=>k_is)
  (case sM=>k_is)
  (case re=>walk_at "k_def")
  (case t6=>walk_at "k_def")
  (case mo=>walk_at "k_def")
  (case zA=>walk_at "k_def")
  (case wG=>walk_at "k_def")
  (case kB=>walk_at "k_def")
  (case rf=>walk_at "k_def")
  (case oH=>walk_at "k_def")
  (case m8=>walk_at "k_def")
  (case wH=>walk_at "k_def")
  (case rg=>walk_at "k_def")
  (case pP=>walk_at "k_def")
  (case oI=>walk_at "k_def")
  (case oJ=>walk_at "k_def")
  (case oK=>walk_at "k_def")
  (case pQ=>walk_at "k_def")
  (case m9=>walk_at "k_def")
  (case oM=>walk_at "k_def")
  (case rj=>walk_at "k_def")
  (case mN=>walk_at "k_def")
  (case lq=>walk_at "k_def")
  (case pR=>walk_at "k_def")
  (case rm=>walk_at "k_def")
  (case oN=>walk_at "k_def")
  (case pS=>walk_at "k_def")
  (case pT=>walk_at "k_def")
  (case ng=>walk_at "k_def")
  (case Je=>walk_at "k_def")
  (case q8=>walk_at "k_exc")
  (case oG=>walk_at "k_exc")
  case tb=>
   refine' FJ.PP ?tlo ?tl ?tc ?td ?tr
   case tl=>k_is
   case tlo=>rfl
   case tc=>exact⟨rfl,rfl,rfl⟩
   case td=>rfl
   case tr=>
    iterate 16 walk_at "k_row"
    exact KTD.Rows.nil
  (case xb=>refine' ⟨?x1,?x2,?x3⟩;(case x1=>walk_at "k_kr");(case x2=>walk_at "k_kr");(case x3=>walk_at "k_kr"))
  (case Vm=>walk_at "k_kr")
  (case zx=>first|rfl|kernel_rfl|k_is)
  (case tZ=>first|rfl|kernel_rfl|k_is)
  (case zy=>first|rfl|kernel_rfl|k_is)
#print axioms PySem.Challenge.cw_farjump_k62_texts_of_no_parts_holds
