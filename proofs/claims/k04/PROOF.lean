import PyProof.Rows.All
import Wide.All
import OpenK.AllK
import Wide.FinOn
import Lean
import PyProof.EqAt
import PyProof.EqKinds
import PyProof.TupleCall
import KE.KSortTup
import KE.KPairComp
import PyProof.P3Eq
import PyProof.DictWalks
import PyProof.StationsW
import PyProof.ExcClass2
import PyProof.ExcBaseAll.ValueError
import PyProof.RulesTry
import PyProof.RulesAs
import PyProof.NsDelKeeps
import PyProof.ExcAttrAll.ValueError
import KE.KIsAll
import PySem.Challenge.RW_farjump_k04_parts_looked_at
set_option Elab.async false
set_option linter.all false
set_option maxRecDepth 100000
noncomputable section
open Option renaming some->aa,none->ao
open Nat renaming le_of_ble_eq_true->ae,le_trans->aS,zero_add->bd,le_refl->bf,lt_of_lt_of_le->bg,ne_of_lt->bn,zero_le->bJ,lt_irrefl->cu,ne_of_gt->c9,lt_succ_of_lt->dO,le_succ->dP,lt_succ_self->eO,le_of_eq->fk,lt_of_le_of_lt->fF,reduceAdd->fV,reduceSub->fX,le_of_lt->gk
open PySem renaming Value->af,wpAny_bind->ag,Shared->ai,Addr->aj,wpAny_pure->aq,Heap->ar,Str->ay,sizeLine->aE,Program->aJ,starEach->aM,mainGlobals->aO,Around->ba,Expr->bh,World->bj,Builtin->bt,Stmt->bH,bootBuiltins->bR,Obj->bS,wpAny_field->bV,wpAny_holding->cc,wpAny_mono->cj,wpAny_truthy_bool->ck,wpAny_newObj_type->cm,FuncData->cn,PyData->cq,Scope->cx,foldedSetIterable->cy,NameKind->cC,backTo->cG,attributeBase->cK,wpAny_setField->cL,swapsWith->cN,wpAny_callSpecial?_slot->cQ,codeAny_mono->cX,wpAny_Call_Name_kw->c5,Pos->c7,rawInt->de,codeAny_call_builtin->df,excClassObj->dg,wpAny_standAt->dh,wpAny_call->dj,wpAny_call_entry->dw,wpAny_seqItems->dz,IsPair->dA,strIterType->dG,sysModules->dH,assignEach->dI,wpAny_pyIter_tuple->dM,wpAny_setField_rec->dN,notedBy->dR,wpAny_pyIter_list->dS,wpAny_loadPart_at->dX,compEnvC->d6,wpAny_isSubtype_exc->ej,Env->eH,bindArgs->eP,ExcBaseFacts->eS,GenState->fj,keywordEach->fq,sliceBounds->ft,wpAny_passesOwn->fE,codeAny_builtin->fH,noteFrame->fP,Result->fS,sizeLine_eq->gb,Draws->gc,IsZip->gf,wpAny_comprehension_free->gm,wpAny_attempt->gp,PassesOwn->act,cLine->adb,setFlight->ade,Keyword->adi,getItem->adj,isInstance->adl,wpAny_execs_nil->adm,pyIter->adn,backToKw->ado,wpAny_updateSeq_pair->adp,BindsTo->adq,Arguments->adr,scanBound->ads,swapsWithSole->adu,swappedStores->adv,CmpOp->adw,behindInMarks->adx,wpAny_onRaise->adz,wpAny_rule->adB,tupleKind_room_in1->adC,slot_dict_contains->adE,standAt->adG,wpAny_assign_Name->adH,bindName->adI,Operator->adJ,valueAt->adK,callerA->adL,plainObj_wpAny_Assign_Attribute->adM,getMethod->adN,wpAny_lookBehind->adO,pastItsLine_dict->adP,IsPart->adQ,Walks->adR,wpAny_specialOf->adS,codeAny_of_tree->adT,wpAny_loadPart->adU,typeLookup->adV,typeIs_str->adW,PlainAttrs->adX,typeOf->adY,call_meets->adZ,preSum->ad1,codeAny_call_builtin_code->ad2,assignInOrder->ad3,plainId_quiet->ad4,tupleKind->ad5,lastMarks->ad6,bindL->ad7,bindC->ad8,specialOf->ad9,codeAny_call_builtin_at->aea,isTrue->aeb,wpAny_nsSet1->aec,wpAny_typeOf->aed,codeAny_compStart_list->aeg,OwnTail->aeh,exec_Assign_Name_used->aei,getitemInPython_of_ne->aej,wpAny_check_init_subT->aek,Model->ael,atKey->aem,seqIndex_of->aen,wpAny_newFunctionEnv->aeo,compPost->aep,wpAny_letTemporaryGo->aeq,wpAny_letGo->aer,getAttr?->aes,wpAny_check_new_subT->aet,codeAny_exc_new_subT->aeu,unbindBehindTheSuite->aev,Tok->aew,builtinsNs->aex,Sem->aey,wpAny_Name->aez,typeIs_int->aeA,getattributeRaised->aeC,wpAny_entryPlaceOf->aeD,Drawn->aeF,getAttr->aeH,setAttr->aeI,wpAny_sequenceKey->aeJ,slot_list_getitem->aeK,newList->aeM,wpAny_pyIter_strU->aeN,wpAny_pyIter_enum->aeO,dictGet->aeP,slot_dict_getitem->aeQ,wpAny_frameOf_fun->aeR,OsState->aeS,wpAny_pyHash_str->aeT,wpAny_execs_cons->aeU,DictEntry->aeV,cellsFrom->aeW,noFill_tuple_add->aeX,seqItems?->aeY,wpAny_pyIter_zip->aeZ,wpAny_madeBy_exc->ae0,onTheHeap->ae1,callGetattribute->ae2,wpAny_operating->ae3,wpAny_bindName->ae4,findBy->ae5,recursionLimit->ae6,Params->ae8,newFunctionEnv->afa,letTemporaryGo->afb,firstArgMember->afc,IsEnum->afd,MulOk->afe,callWith->aff,entry_typeCall->afg,arm_exec_Raise->afh,boundAndCalled->afi,intBits_le_64->afk,seq_tuple_add->afl,evalPart_none->afm,call_list_seq->afn
open Bool renaming true->ah,false->am,false_ne_true->au,and_eq_true->aH,true_and->bE,false_eq_true->b5,not_true->dF,false_and->eC,eq_iff_iff->eW,not_false->fD,not_not->gg,and_false->adh
open PySem.Heap renaming get?_push_of_some->ak,lt_size->aD,get?_push_size->aQ,get?_update_other->bv,size_push->bG,get?_update_self->bY,SameBut->b7,get?_none_of_le->cA
open List renaming length_map->ap,mem_cons_of_mem->av,replicate->aw,mem_cons->az,getElem?_eq_some_iff->aB,mem_cons_self->aC,set_cons_succ->aP,map_cons->aR,size_toArray->aT,set_cons_zero->aU,length_cons->aV,prefix_refl->aX,length_nil->aY,getElem?_eq_getElem->aZ,nil_append->bc,not_mem_nil->bi,mem_append->bp,append_nil->br,mem_append_right->bu,mem_of_getElem?->bw,getElem?_map->bA,Nodup->bB,map_append->bD,getElem?_append_left->bI,length_append->bL,all_eq_true->bM,map_map->bN,mem_singleton->bP,getD_eq_getElem?_getD->bX,mem_append_left->b8,drop_eq_getElem_cons->cb,length_take->cw,prefix_append->cz,append_assoc->cD,mem_map_of_mem->cE,zip_cons_cons->cJ,replicate_succ->cM,map_nil->cO,any_cons->cR,all_cons->cT,lookup_cons->cU,cons_append->cW,length_replicate->cY,mem_or_eq_of_mem_set->c0,getElem?_set_ne->c6,zipWith->c8,range->dn,getElem?_set_self->dq,mem_map->du,flatten_cons->dL,drop_length->dU,eq_of_mem_replicate->d8,nodup_cons->d9,find?_cons->ec,length_set->ef,nodup_nil->eD,zipWith_cons_cons->eF,all_map->eG,length_drop->eK,take_length->eM,filter_cons->eN,sum_cons->eR,lookup->eT,length_zipWith->eY,map_congr_left->eZ,length_mapIdx->fw,nodup_append->fM,getElem_mem->fY,map->fZ,mem_filter->gj,length_filter_le->Ou,mem_range->adf
open PySem.Value renaming ref->aN,none->bC,builtin->cB,int->fg,type->fi,str->fR
open Option.some renaming inj->bq
open PySem.Obj renaming mapFields->bF,data_mapFields->bQ,isFreed_of_fields->ci
open True renaming intro->bO
open Ne renaming symm->bU
open Array renaming getElem?_eq_some_iff->bW,getElem?_setIfInBounds->eU,length_toList->eV,getElem?_toList->gq
open PySem.PyData renaming strOk->bZ
open False renaming elim->b0
open PySem.Builtin.SmallTypes renaming nextOf->b6,ownedTupleIsFree->cI,ownedTupleHandOut->fu
open PySem.SeqAt renaming EqAt->b9,readOf->f9
open PySem.Str renaming ofString->cS
open PySem.Builtin.ObjectAttr renaming storeInDict->cV,newKeyGuard->f7
open PyProof.Rows renaming step_dedup->cZ,callWith_type1->di,envOfC->dZ,slot_tuple_getitem->d7,AllBare->fJ,step_dedup->adk,IsTup->adt,subscriptTail->ady,assignInOrder_cons->adA,subscriptTail_builtinR->aee,IntsAre->aef,assignInOrder_nil->aeG,slicePart_none->ae7
open Or renaming inr->dk,inl->eB
open PySem.NameKind renaming free->dm,cell->adc
open PySem.Builtin.Slice renaming slicePlaces->dB,sliceAdjust->eQ
open PyProof.Rows.F renaming plain_set_update_loop->dD,entry_set_update_loop->fQ
open PySem.Builtin.Tuple renaming tupleExact->dJ
open PySem.Builtin.Str renaming occurrences->dQ
open PySem.AutoSeq1 renaming wpAny_loadPart'->dW
open PySem.F renaming slot_tuple_iterator_next->dY,slot_zip_next->adg
open Int renaming emod_lt_of_pos->eA,emod_nonneg->fe
open PySem.EntryCells renaming newEntry->eJ
open PySem.Around renaming under_plainId->eL
open PySem.Builtin.List renaming listTooLong->eX
open PyProof.Rows.KTD renaming datumAt->fh,inKeys->adD,isSome_datumAt->ad0
open PySem.callAny renaming viaDunder->fB
open Sum renaming inr->fN
open ForInStep renaming yield->fO
open PySem.W renaming Looks->fU,check_slot->adF,WShape->aeB,findIn->aeE,OpenLaw->aeL,WData->ae9,any_some->afj
open PySem.Calls renaming callWith_builtin->f8
namespace L2
open PySem PySem.Spec PyProof.Rows
abbrev Key:=Sum Int ay
noncomputable def B9:Key->af->Bool
 |.inl k,v=>af.isInt k v
 |.inr x,v=>af.isStrOf x v
noncomputable def abB(w:bj):Key->Int
 |.inl k=>hashInt k
 |.inr x=>hashStr w x
theorem jE:∀{k:Key} {v:af},B9 k v=ah->(∃i t,k=Sum.inl i/\v=fg i t)\/(∃x t,k=fN x/\v=fR x t)
 |.inl i,v,h=>by obtain⟨t,e⟩:=af.isInt_shape (k:=i) (v:=v) h;exact .inl ⟨i,t,rfl,e⟩
 |.inr x,v,h=>by obtain⟨t,e⟩:=af.isStrOf_shape (x:=x) (v:=v) h;exact .inr ⟨x,t,rfl,e⟩
theorem L6(i:Int)(t:aew):B9 (.inl i) (.int i t)=ah:=by simp[B9,af.isInt]
theorem L7(x:ay)(t:aew):B9 (.inr x) (.str x t)=ah:=by simp[B9,af.isStrOf]
theorem V1(a b:Int):decide ((Sum.inl a:Key)=Sum.inl b)=(a==b):=by
 by_cases e:a=b
 ·subst e;simp
 ·have h:¬(Sum.inl a:Key)=Sum.inl b:=λq=>e (Sum.inl.inj q);rw[decide_eq_false h];exact(beq_eq_false_iff_ne.mpr e).symm
theorem V2(a b:ay):decide ((fN a:Key)=fN b)=decide (a=b):=by
 by_cases e:a=b
 ·subst e;simp
 ·have h:¬(fN a:Key)=fN b:=λq=>e (fN.inj q);rw[decide_eq_false h,decide_eq_false e]
theorem V3(a:Int)(b:ay):decide ((Sum.inl a:Key)=fN b)=am:=decide_eq_false (λq=>nomatch q)
theorem V4(a:ay)(b:Int):decide ((fN a:Key)=Sum.inl b)=am:=decide_eq_false (λq=>nomatch q)
noncomputable def kz(prog:aJ)(w:bj):PySem.KeyKind prog w Key where
 is:=B9
 hash:=abB w
 inj:=λv a b ha f=>by
  rcases jE ha with⟨i,t,rfl,rfl⟩|⟨x,t,rfl,rfl⟩
  ·rcases jE f with⟨j,u,rfl,e⟩|⟨y,u,rfl,e⟩
   ·injection e with e1 _;rw[e1]
   ·exact nomatch e
  ·rcases jE f with⟨j,u,rfl,e⟩|⟨y,u,rfl,e⟩
   ·exact nomatch e
   ·injection e with e1 _;rw[e1]
 byValue:=λk v h=>by rcases jE h with⟨i,t,rfl,rfl⟩|⟨x,t,rfl,rfl⟩<;>rfl
 pyHash:=λc h=>by
  rcases jE c with⟨i,t,rfl,rfl⟩|⟨x,t,rfl,rfl⟩
  ·exact wpAny_pyHash_int h
  ·exact aeT h
 eqBool:=λg c h=>by
  rcases jE g with⟨i,t,rfl,rfl⟩|⟨x,t,rfl,rfl⟩
  ·rcases jE c with⟨j,u,rfl,rfl⟩|⟨y,u,rfl,rfl⟩
   ·rw[V1] at h;exact wpAny_eqBool_int h
   ·rw[V3] at h;exact b9.int_str i t y u _ _ _ _ h
  ·rcases jE c with⟨j,u,rfl,rfl⟩|⟨y,u,rfl,rfl⟩
   ·rw[V4] at h;exact b9.str_int x t j u _ _ _ _ h
   ·rw[V2] at h;exact wpAny_eqBool_str h
 «strs»:=λk x t v h=>by
  rcases jE h with⟨i,u,rfl,e⟩|⟨y,u,rfl,e⟩
  ·exact nomatch e
  ·injection e with e1 _;subst e1;cases v<;>rfl
theorem E6(prog:aJ)(w:bj)(i:Int)(t:aew):(kz prog w).is (.inl i) (.int i t)=ah:=L6 i t
theorem E7(prog:aJ)(w:bj)(x:ay)(t:aew):(kz prog w).is (.inr x) (.str x t)=ah:=L7 x t
end L2
namespace L2
open PySem PySem.Spec PyProof.Rows
inductive V where
 |non|bl (b:Bool)|int (i:Int)|str (x:ay)|NR (b:Array UInt8)|V5 (b:UInt64)|ref (a:aj)|ty (n:String)
 deriving DecidableEq
def RelV:V->af->Prop
 |.non,u=>u=bC
 |.bl b,u=>u=af.bool b
 |.int i,u=>∃t,u=fg i t
 |.str x,u=>∃t,u=fR x t
 |.NR b,u=>∃t,u=af.bytes b t
 |.V5 b,u=>∃t,u=af.float b t
 |.ref a,u=>u=aN a
 |.ty n,u=>u=fi n
abbrev Vals:List V->List af->Prop:=Paired RelV
theorem Vals.length{xs:List V}{us:List af}(r:Vals xs us):xs.length=us.length:=Paired.length r
theorem Vals.get:∀{xs:List V} {us:List af} {i:Nat} {x:V},Vals xs us->xs[i]?=aa x->∃u,us[i]?=aa u/\RelV x u
 |_,_,_,_,.nil,e=>by simp at e
 |_,_,0,_,.cons r _,e=>by simp at e;subst e;exact⟨_,rfl,r⟩
 |_,_,i+1,x,.cons _ t,e=>by obtain⟨u,a,b⟩:=Vals.get (i:=i) (x:=x) t (by simpa using e);exact⟨u,by simpa using a,b⟩
theorem Vals.set{x:V}{u:af}(r:RelV x u):∀{xs:List V} {us:List af} (i:Nat),Vals xs us->Vals (xs.set i x) (us.set i u)
 |_,_,_,.nil=>.nil
 |_,_,0,.cons _ t=>.cons r t
 |_,_,i+1,.cons q t=>.cons q (Vals.set r i t)
theorem Vals.append:∀{xs a:List V} {us ws:List af},Vals xs us->Vals a ws->Vals (xs++a) (us++ws)
 |_,_,_,_,.nil,s=>s
 |_,_,_,_,.cons r t,s=>.cons r (Vals.append t s)
theorem Vals.take:∀{xs:List V} {us:List af} (n:Nat),Vals xs us->Vals (xs.take n) (us.take n)
 |_,_,0,_=>.nil
 |_,_,_+1,.nil=>.nil
 |_,_,n+1,.cons r t=>.cons r (Vals.take n t)
theorem Vals.drop:∀{xs:List V} {us:List af} (n:Nat),Vals xs us->Vals (xs.drop n) (us.drop n)
 |_,_,0,r=>r
 |_,_,_+1,.nil=>.nil
 |_,_,n+1,.cons _ t=>Vals.drop n t
def qC:Option V->Option af->Prop
 |some v,aa u=>RelV v u
 |none,ao=>True
 |_,_=>False
def KV {a:Type}:List (a×V)->List (a×af)->Prop:=Paired λ(p:a×V) (q:a×af)=>p.1=q.1/\RelV p.2 q.2
noncomputable def kV:Key->V
 |.inl i=>.int i
 |.inr x=>.str x
inductive HO where
 /-- a list-/
 |lst (xs:List V)
 /-- a tuple (never changes)-/
 |tup (xs:List V)
 /-- a dict whose keys are ints and texts;one whose keys are tuples of ints and texts (the empty one is both)-/
 |dK (ik:List (Key×V))|dT (ik:List (List Key×V))
 /-- a set of ints:g8 members,g8 size-/
 |set (S:Int->Bool) (n:Nat)
 /-- an instance of the class at C,g8 dict at dx,g8 attributes-/
 |ins (C dx:aj) (fs:List (ay×V))
 /-- the dict of the instance at x-/
 |own (x:aj)
 /-- the dict of an exception-/
 |xd (fs:List (ay×V))
 /-- a bound method,f of x-/
 |met (f x:aj)
 /-- a range object lo,lo+1,.. below hi-/
 |Sc (lo hi:Int)
 /-- a thing ac1 is known to the object (the abC;a dict while a loop walks it):read,never written while it is so-/
 |wF (o:bS) (u:HO)
 /-- a code Y4 table-/
 |HP (ps:Array af)
 |dE (ep:Nat) (ik:List (Key×V))
 |xc (C:aj) (fs:List (ay×V))
 /-- any other thing,by Y5 is ah of g8 one object (a def of acY own:ac2 a S n:=HO.ext λh=>..)-/
 |ext (φ:ar->Prop)
abbrev Hp:=aj->Option HO
noncomputable def upd(H:Hp)(a:aj)(o:HO):Hp:=λb=>if b=a then aa o else H b
theorem gW{H:Hp}{a:aj}{o:HO}:upd H a o a=aa o:=by unfold upd;rw[if_pos rfl]
theorem gF{H:Hp}{a b:aj}{o:HO}(h:b≠a):upd H a o b=H b:=by unfold upd;rw[if_neg h]
theorem i8{H:Hp}{a b:aj}{o:HO}(h:H a=aa o)(c:H b=ao):a≠b:=by intro e;subst e;rw[h] at c;cases c
section
variable (P:aJ) (w:bj)
def iN (H:Hp)(h:ar)(a:aj):HO->Prop
 |.lst xs=>xs.length<=aE/\∃(g8:List af) (n:Nat),Vals xs g8/\h.get? a=aa {cls:=.type "list",data:=.seq g8.toArray n}
 |.tup xs=>xs.length<=aE/\∃g8:List af,Vals xs g8/\adt h a g8.toArray
 |.dK e=>e.length<=aE/\(a==dH)=am/\∃g,KV e g/\h.DictOf (kz P w) a g
 |.dT e=>e.length<=aE/\(a==dH)=am/\∃xs:List (List Key×aj×af),
   Paired (λ(p:List Key×V) (q:List Key×aj×af)=>p.1=q.1/\H q.2.1=aa (.tup (p.1.map kV))/\RelV p.2 q.2.2) e xs/\
   ∃o es j,h.get? a=aa o/\o.ExactDict/\o.data=.dict es j/\es.toList=xs.map (entryOfKey (ad5 (kz P w)))/\(xs.map (·.1)).Nodup
 |.set S n=>h.SetOf (intKind P w) a S n
 |.ins C b fs=>H b=aa (.own a)/\fs.length<=1000/\b≠a/\h.get? a=aa (W.instObj C b)/\
   ∃c,h.Ns1 b c/\(∀f,qC (fs.lookup f) (c f))/\PySem.Within c (fs.map (·.1))
 |.own _=>∃o,h.get? a=aa o
 |.xd fs=>∃c,h.Ns1 a c/\∀f,qC (fs.lookup f) (c f)
 |.Sc lo hi=>∃t u v,h.get? a=aa {cls:=.type "range",data:=.fields #[.int lo t,.int hi u,.int 1 v]}
 |.wF o u=>h.get? a=aa o/\iN H h a u
 |.HP s=>h.get? a=aa {cls:=.none,data:=.fields s}
 |.dE j e=>e.length<=aE/\(a==dH)=am/\∃g,KV e g/\h.DictAt (kz P w) a g j
 |.xc C fs=>∃i g,h.get? a=aa i/\i.cls=.ref C/\i.data=.fields g/\((i.dict=ao/\fs=[])\/∃b c,i.dict=aa b/\b≠a/\H b=aa (.own a)/\h.Ns1 b c/\∀f,qC (fs.lookup f) (c f))
 |.met f x=>h.get? a=aa (W.methodObj (.ref f) (.ref x))
 |.ext l=>l h/\(∃o,h.get? a=aa o)/\∀m r:ar,l m->(∀o,m.get? a=aa o->r.get? a=aa o)->l r
def um (H:Hp)(h:ar):Prop:=∀a o,H a=aa o->iN P w H h a o
end
section
variable {P:aJ} {w:bj} {H H':Hp} {h h':ar} {a:aj} {o:HO}
theorem iN.lt(x:iN P w H h a o):a<h.objs.size:=by
 cases o with
 |lst xs=>obtain⟨_,_,_,_,e⟩:=x;exact aD e
 |tup xs=>obtain⟨_,_,_,p⟩:=x;exact p.lt
 |dK b=>obtain⟨_,_,_,_,o,_,_,e,_⟩:=x;exact aD e
 |dT b=>obtain⟨_,_,_,_,o,_,_,e,_⟩:=x;exact aD e
 |set S n=>obtain⟨o,_,_,_,e,_⟩:=x;exact aD e
 |ins C c fs=>obtain⟨_,_,_,e,_⟩:=x;exact aD e
 |own y=>obtain⟨_,e⟩:=x;exact aD e
 |xd fs=>obtain⟨_,⟨_,_,_,e,_⟩,_⟩:=x;exact aD e
 |Sc lo hi=>obtain⟨_,_,_,e⟩:=x;exact aD e
 |wF ob u=>obtain⟨e,_⟩:=x;exact aD e
 |HP g=>exact aD (show h.get? a=aa _ from x)
 |dE i b=>obtain⟨_,_,_,_,o,_,e,_⟩:=x;exact aD e
 |xc C fs=>obtain⟨_,_,e,_⟩:=x;exact aD e
 |met f y=>exact aD (show h.get? a=aa _ from x)
 |ext j=>obtain⟨_,⟨_,e⟩,_⟩:=x;exact aD e
theorem Paired.Y6{α β:Type}{F G:α->β->Prop}:∀{c:List α} {e:List β},Paired F c e->(∀a b,F a b->G a b)->Paired G c e
 |_,_,.nil,_=>.nil
 |_,_,.cons r t,f=>.cons (f _ _ r) (Paired.Y6 t f)
theorem iN.sL(x:iN P w H h a o)(k:∀b u,(b=a\/H b=aa (.own a))->h.get? b=aa u->h'.get? b=aa u)
(m:∀b,H b=aa (.own a)->H' b=aa (.own a))(G:∀b xs,H b=aa (.tup xs)->H' b=aa (.tup xs)):iN P w H' h' a o:=by
 induction o with
 |lst xs=>obtain⟨z,g8,n,r,e⟩:=x;exact⟨z,g8,n,r,k _ _ (.inl rfl) e⟩
 |tup xs=>obtain⟨z,g8,r,ob,e,c⟩:=x;exact⟨z,g8,r,ob,k _ _ (.inl rfl) e,c⟩
 |dK s=>obtain⟨z,y,i,r,ob,es,g,e,c⟩:=x;exact⟨z,y,i,r,ob,es,g,k _ _ (.inl rfl) e,c⟩
 |dT s=>
  obtain⟨z,y,xs,r,ob,es,g,e,c⟩:=x;exact⟨z,y,xs,Paired.Y6 r λp q z=>⟨z.1,G _ _ z.2.1,z.2.2⟩,ob,es,g,k _ _ (.inl rfl) e,c⟩
 |set S n=>obtain⟨ob,es,g,t,e,c⟩:=x;exact⟨ob,es,g,t,k _ _ (.inl rfl) e,c⟩
 |ins C A fs=>
  obtain⟨d,z,ne,e,j,⟨od,es,g,e2,c⟩,r⟩:=x;exact⟨m _ d,z,ne,k _ _ (.inl rfl) e,j,⟨od,es,g,k _ _ (.inr d) e2,c⟩,r⟩
 |own y=>obtain⟨ob,e⟩:=x;exact⟨ob,k _ _ (.inl rfl) e⟩
 |xd fs=>obtain⟨j,⟨od,es,g,e,c⟩,r⟩:=x;exact⟨j,⟨od,es,g,k _ _ (.inl rfl) e,c⟩,r⟩
 |Sc lo hi=>obtain⟨t,u,v,e⟩:=x;exact⟨t,u,v,k _ _ (.inl rfl) e⟩
 |wF ob u I=>obtain⟨e,q⟩:=x;exact⟨k _ _ (.inl rfl) e,I q⟩
 |dE g s=>obtain⟨z,y,i,r,ob,es,e,c⟩:=x;exact⟨z,y,i,r,ob,es,k _ _ (.inl rfl) e,c⟩
 |xc C fs=>
  obtain⟨J,i,e,L,M,l⟩:=x;refine⟨J,i,k _ _ (.inl rfl) e,L,M,?_⟩;rcases l with l|⟨A,j,N,O,B,⟨od,es,g,e2,c⟩,Q⟩
  ·exact .inl l
  ·exact .inr ⟨A,j,N,O,m _ B,⟨od,es,g,k _ _ (.inr B) e2,c⟩,Q⟩
 |HP E=>
  have e:h.get? a=aa {cls:=.none,data:=.fields E}:=x;show h'.get? a=aa {cls:=.none,data:=.fields E};exact k a _ (.inl rfl) e
 |met f y=>
  have e:h.get? a=aa (W.methodObj (.ref f) (.ref y)):=x;show h'.get? a=aa (W.methodObj (.ref f) (.ref y));exact k a _ (.inl rfl) e
 |ext T=>obtain⟨p,⟨o,e⟩,st⟩:=x;exact⟨st _ _ p λo q=>k _ _ (.inl rfl) q,⟨o,k _ _ (.inl rfl) e⟩,st⟩
theorem um.lt(x:um P w H h)(e:H a=aa o):a<h.objs.size:=(x a o e).lt
theorem um.fresh(x:um P w H h)(e:h.objs.size<=a):H a=ao:=by
 cases q:H a with
 |none=>rfl
 |some u=>exact absurd (bg (x.lt q) e) (cu _)
theorem um.kept(x:um P w H h)(k:∀b u,h.get? b=aa u->h'.get? b=aa u):um P w H h':=λa o e=>
 (x a o e).sL (λb u _ q=>k b u q) (λ_ q=>q) λ_ _ q=>q
theorem um.laid(x:um P w H h)(k:∀b u,h.get? b=aa u->h'.get? b=aa u)(g:h.objs.size<=a)(new:iN P w (upd H a o) h' a o):um P w (upd H a o) h':=λb u e=>by
 have hn:=x.fresh g;by_cases f:b=a
 ·subst f;rw[gW] at e;cases e;exact new
 ·rw[gF f] at e;exact(x b u e).sL (λc v _ q=>k c v q) (λc q=>by rw[gF (i8 q hn)];exact q) λc xs q=>by rw[gF (i8 q hn)];exact q
end
def Rd (H:Hp)(a:aj)(u:HO):Prop:=H a=aa u\/∃o,H a=aa (.wF o u)
theorem Rd.ok{P:aJ}{w:bj}{H:Hp}{h:ar}{a:aj}{u:HO}(r:Rd H a u)(x:um P w H h):iN P w H h a u:=by
 rcases r with r|⟨o,r⟩
 ·exact x a u r
 ·obtain⟨_,q⟩:=x a _ r;exact q
def Mut:Option HO->Prop
 |some (.lst _)=>True
 |some (.dK _)=>True
 |some (.dT _)=>True
 |some (.set _ _)=>True
 |some (.ins _ _ _)=>True
 |some (.ext _)=>True
 |some (.dE _ _)=>True
 |_=>False
section
variable {P:aJ} {w:bj} {H:Hp} {h h':ar} {x e:aj} {o':HO}
theorem um.write(ok:um P w H h)(a:Mut (H x))(l:e=x\/H e=aa (.own x))(k:∀b u,b≠e->h.get? b=aa u->h'.get? b=aa u)(o:∃u,h'.get? e=aa u)
(new:iN P w (upd H x o') h' x o'):um P w (upd H x o') h':=λb u q=>by
 have m:∀c y,H c=aa (.own y)->c≠x:=λc y r z=>by subst z;rw[r] at a;exact a
 have j:∀c xs,H c=aa (.tup xs)->c≠x:=λc xs r z=>by subst z;rw[r] at a;exact a
 by_cases f:b=x
 ·subst f;rw[gW] at q;cases q;exact new
 ·rw[gF f] at q;by_cases g:b=e
  ·have n:H b=aa (.own x):=by
    rcases l with z|z
    ·exact absurd (g.trans z) f
    ·rw[g];exact z
   rw[q] at n;cases n;obtain⟨v,p⟩:=o;exact⟨v,by rw[g];exact p⟩
  ·refine(ok b u q).sL (λc v i r=>k c v ?_ r) (λc r=>by rw[gF (m c b r)];exact r) λc xs r=>by rw[gF (j c xs r)];exact r
   rcases i with rfl|i
   ·exact g
   ·rintro rfl
    rcases l with z|z
    ·exact m c b i z
    ·rw[i] at z;cases z;exact f rfl
end
structure Un(fs ex:List aj)(H H':Hp)(h h':ar):Prop where
 keep:∀b o,h.get? b=aa o->H b=ao->b∉fs->b∉ex->h'.get? b=aa o
 slot:∀b o,h.get? b=aa o->H b=ao->b∈fs->b∉ex->∃sl,h'.get? b=aa {o with slots:=sl}
 free:∀b o,h.get? b=aa o->H b=ao->b∉ex->H' b=ao
 there:∀b o,h.get? b=aa o->b∉ex->∃o',h'.get? b=aa o'
 wG:∀b xs,H b=aa (.tup xs)->H' b=aa (.tup xs)
 uP:∀b o u,H b=aa (.wF o u)->H' b=aa (.wF o u)
 wH:∀b ps,H b=aa (.HP ps)->∃more,H' b=aa (.HP (ps++more))
section
variable {fs fs' ex ex':List aj} {H H1 H2:Hp} {h h1 h2 h':ar} {a x e:aj} {o:HO}
theorem Un.any(u:Un fs ex H H1 h h1){b:aj}{ob:bS}(q:h.get? b=aa ob)(n:H b=ao)(c:b∉ex):∃sl,h1.get? b=aa {ob with slots:=sl}:=by
 by_cases f:b∈fs
 ·exact u.slot b ob q n f c
 ·exact⟨ob.slots,u.keep b ob q n f c⟩
theorem Un.kept(k:∀b u,h.get? b=aa u->h'.get? b=aa u):Un fs ex H H h h':=
 ⟨λb ob q _ _ _=>k b ob q,λb ob q _ _ _=>⟨ob.slots,k b ob q⟩,λ_ _ _ n _=>n,λb ob q _=>⟨ob,k b ob q⟩,λ_ _ q=>q,λ_ _ _ q=>q,λ_ c q=>⟨#[],by rw[q];simp⟩⟩
theorem Un.refl:Un fs ex H H h h:=Un.kept λ_ _ q=>q
theorem Un.laid(k:∀b u,h.get? b=aa u->h'.get? b=aa u)(c:h.objs.size<=a)(hn:H a=ao):Un fs ex H (upd H a o) h h' where
 keep:=λb u q _ _ _=>k b u q
 slot:=λb u q _ _ _=>⟨u.slots,k b u q⟩
 free:=λb u q n _=>by rw[gF (bn (bg (aD q) c))];exact n
 there:=λb u q _=>⟨u,k b u q⟩
 wG:=λb xs q=>by rw[gF (i8 q hn)];exact q
 uP:=λb u xs q=>by rw[gF (i8 q hn)];exact q
 wH:=λb f q=>⟨#[],by rw[gF (i8 q hn),q];simp⟩
theorem Un.write(c:Mut (H x))(j:e=x\/H e=aa (.own x))(k:∀b u,b≠e->h.get? b=aa u->h'.get? b=aa u)(l:∃u,h'.get? e=aa u):Un fs ex H (upd H x o) h h':=by
 have f:∀b,H b=ao->b≠x:=λb n z=>by subst z;rw[n] at c;exact c
 have g:∀b,H b=ao->b≠e:=λb n z=>by
  subst z;rcases j with r|r
  ·exact f b n r
  ·rw[n] at r;cases r
 have hm:∀b u,H b=aa u->¬Mut (aa u)->b≠x:=λb u q nm z=>by subst z;rw[q] at c;exact nm c
 refine⟨λb u q n _ _=>k b u (g b n) q,λb u q n _ _=>⟨u.slots,k b u (g b n) q⟩,λb u q n _=>by rw[gF (f b n)];exact n,λb u q _=>?_,
  λb xs q=>by rw[gF (hm b _ q λz=>z)];exact q,λb u xs q=>by rw[gF (hm b _ q λz=>z)];exact q,λb m q=>⟨#[],by rw[gF (hm b _ q λz=>z),q];simp⟩⟩
 by_cases i:b=e
 ·subst i;exact l
 ·exact⟨u,k b u i q⟩
end
noncomputable def trk(h:ar)(H:Hp):List aj:=(dn h.objs.size).filter λa=>(H a).isSome
noncomputable def C4(h:ar)(H:Hp):ar:=W.hideAll h (trk h H)
theorem L8(h:ar)(H:Hp):(C4 h H).objs.size=h.objs.size:=W.hideAll_size _ _
theorem N1{h:ar}{H:Hp}{b:aj}{o:bS}(e:h.get? b=aa o)(n:H b=ao):(C4 h H).get? b=aa o:=
 W.hideAll_get _ e λhm=>by have q:(H b).isSome=ah:=(gj.mp hm).2;rw[n] at q;simp at q
theorem Sd{h:ar}{H:Hp}{b:aj}{o:bS}(e:(C4 h H).get? b=aa o):h.get? b=aa o/\H b=ao:=by
 have e':h.get? b=aa o:=W.of_hideAll (trk h H) e;refine⟨e',?_⟩;cases q:H b with
 |none=>rfl
 |some x=>
  have hm:b∈trk h H:=gj.mpr ⟨adf.mpr (aD e'),by simp[q]⟩;have z:(C4 h H).get? b=ao:=W.hideAll_none (trk h H) hm;rw[z] at e;cases e
noncomputable def Se(g h:ar)(L:aj):List (aj×bS):=(dn h.objs.size).filterMap λa=>if a=L\/(g.get? a).isSome=ah then ao else(h.get? a).map λo=>(a,o)
noncomputable def rest(g h:ar)(L d:aj):List (aj×bS):=(Se g h L).filter λp=>decide (p.1≠d)
end L2
namespace L2
open PySem PySem.Spec PyProof.Rows
structure Mod(K:W.Frag)(mg:ay->Option af)(base:ar):Prop where
 N2:K.In base
 glob:base.Ns aO mg
 blt:∃mb,base.Ns aex mb/\∀x:ay,x≠"__name__"->mb x=bR x
 nolimit:base.NoLimit
structure Cx where
 prog:aJ
 w:bj
 K:W.Frag
 mg:ay->Option af
 base:ar
 A:ba
 N:List ay
 gJ:ai
 gH:Hp
 env:eH
 outer:List eH
 stack:List eH
 ex:List aj
 fn:ay->Bool
 calm:Bool
 pn:List (aj×bS)
 xe:af->ai->Prop
noncomputable def qT(l:List eH):List aj:=l.filterMap (·.frame)
abbrev Cx.fs(X:Cx):List aj:=qT X.outer
def U9 (sc:cx)(x:ay):Prop:=sc.names.lookup x=aa .local\/sc.names.lookup x=aa .cell\/sc.names.lookup x=aa .free
def Loc (sc:cx)(x:ay):Prop:=sc.names.lookup x=aa .local\/sc.names.lookup x=aa .cell
def Look (env:eH)(h:ar)(m:ay->Option af)(x:ay)(u:af):Prop:=
 (env.kindOf x=aa .local/\m x=aa u)\/((env.kindOf x=aa .cell\/env.kindOf x=aa .free)/\∃c,env.cells.lookup x=aa c/\h.IsCell c (aa u))
structure Cx.Ok(X:Cx):Prop where
 mod:Mod X.K X.mg X.base
 kind:X.env.scope.kind=.function
 glob:X.env.globals=aO
 blt:X.env.builtins=aex
 above:X.gJ.heap.objs.size<=X.env.locals
 inj:∀x y c,X.env.cells.lookup x=aa c->X.env.cells.lookup y=aa c->x=y
 has:∀x,(X.env.kindOf x=aa .cell\/X.env.kindOf x=aa .free)->∃c,X.env.cells.lookup x=aa c
 V6:∀x c,X.fn x=ah->X.env.cells.lookup x=aa c->X.gJ.heap.objs.size<=c
 hd:X.calm=ah->X.A.handled=ao
 frames:X.A.frames=aa X.stack
 YG:X.stack=X.outer\/(X.stack=X.env::X.outer/\X.env.frame=aa X.env.locals)
 exf:∀b∈X.ex,b≠X.env.locals/\∀x c,X.env.cells.lookup x=aa c->c≠b
 bs:∀b o,X.base.get? b=aa o->X.gJ.heap.get? b=aa o/\X.gH b=ao
 NS:X.base.objs.size<=X.gJ.heap.objs.size
 E9:∀b o,X.base.get? b=aa o->b∉X.ex
 HQ:∀b∈X.ex,b∉X.fs
 vy:X.gJ.heap.FunFrames X.base X.outer
 RU:∀b∈X.fs,X.gH b=ao
structure Inv(X:Cx)(pins:List (aj×bS))(σ:List (Option V))(H:Hp)(s:ai):Prop where
 ok:X.Ok
 os:s.os=X.gJ.os
 bare:fJ s.gens
 base:Un X.fs X.ex X.gH H X.gJ.heap s.heap
 loc:∃m,s.heap.Ns X.env.locals m/\∀(i:Nat) (x:ay) (v:V),X.N[i]?=aa x->σ[i]?=aa (aa v)->U9 X.env.scope x->∃u,RelV v u/\Look X.env s.heap m x u
 cell:∀x c,X.env.cells.lookup x=aa c->∃v,s.heap.IsCell c v
 free:H X.env.locals=ao
 lD:∀x c,X.env.cells.lookup x=aa c->H c=ao
 pin:∀p∈X.pn++pins,s.heap.get? p.1=aa p.2/\H p.1=ao/\p.1≠X.env.locals/\p.1∉X.fs/\∀v,p.2.data≠.cell v
 iJ:um X.prog X.w H s.heap
 len:σ.length=X.N.length
section
variable {X:Cx} {pins:List (aj×bS)} {σ:List (Option V)} {H H':Hp} {s:ai} {h':ar}
theorem Cx.Ok.abE(ok:X.Ok){b:aj}{o:bS}(e:X.base.get? b=aa o):b∉X.fs:=λa=>by have:=(ok.vy.mem a).1;rw[e] at this;cases this
theorem Inv.bs(I:Inv X pins σ H s):∀b o,X.base.get? b=aa o->s.heap.get? b=aa o/\H b=ao:=λb o e=>
 ⟨I.base.keep b o (I.ok.bs b o e).1 (I.ok.bs b o e).2 (I.ok.abE e) (I.ok.E9 b o e),I.base.free b o (I.ok.bs b o e).1 (I.ok.bs b o e).2 (I.ok.E9 b o e)⟩
theorem Inv.bk(I:Inv X pins σ H s):∀b o,X.base.get? b=aa o->s.heap.get? b=aa o:=λb o e=>(I.bs b o e).1
theorem Inv.mod(I:Inv X pins σ H s):Mod X.K X.mg X.base:=I.ok.mod
theorem Inv.nN(I:Inv X pins σ H s):X.K.In s.heap:=I.ok.mod.N2.keeps I.bk
theorem Inv.lt(I:Inv X pins σ H s):X.env.locals<s.heap.objs.size:=let⟨_,hn,_⟩:=I.loc;hn.lt
theorem Inv.sz(I:Inv X pins σ H s):X.gJ.heap.objs.size<=s.heap.objs.size:=aS I.ok.above (gk I.lt)
theorem Inv.abF(I:Inv X pins σ H s){a:aj}(h:s.heap.objs.size<=a):a∉X.fs:=λb=>by obtain⟨_,o,c,_⟩:=I.ok.vy.mem b;exact absurd (bg (aD c) (aS I.sz h)) (cu _)
theorem Inv.N3(I:Inv X pins σ H s):∀x c,X.env.cells.lookup x=aa c->c≠X.env.locals:=λx c e z=>by obtain⟨v,o,a,hd⟩:=I.cell x c e;obtain⟨m,⟨g,es,h,b,f,_⟩,_⟩:=I.loc;rw[z,b] at a;cases a;rw[f] at hd;cases hd
theorem Inv.vy(I:Inv X pins σ H s):s.heap.FunFrames X.base X.outer:=by
 have all:∀(l:List eH),(∀b∈qT l,b∈X.fs)->X.gJ.heap.FunFrames X.base l->s.heap.FunFrames X.base l:=by
  intro l;induction l with
  |nil=>intro _ _;trivial
  |cons env r h=>
   intro g i;obtain⟨j,⟨L,o,a,hn,m,hd⟩,n⟩:=i;have c:L∈X.fs:=g L (by unfold qT;rw[List.filterMap_cons,a];exact aC);obtain⟨sl,e⟩:=I.base.slot L o m (I.ok.RU L c) c λz=>I.ok.HQ L z c;exact⟨j,⟨L,_,a,hn,e,hd⟩,h (λb f=>g b (by unfold qT;rw[List.filterMap_cons,a];exact av _ f)) n⟩
 exact all X.outer (λ_ f=>f) I.ok.vy
theorem Inv.stack(I:Inv X pins σ H s):s.heap.FunFrames X.base X.stack:=by
 rcases I.ok.YG with e|⟨e,a⟩
 ·rw[e];exact I.vy
 ·rw[e];obtain⟨m,hn,_⟩:=I.loc;refine .cons (by rw[I.ok.kind];decide) a hn ?_ I.vy;exact cA (aS I.ok.NS I.ok.above)
theorem Inv.sM(I:Inv X pins σ H s):∀b∈qT X.stack,b∈X.env.locals::X.fs:=λb a=>by
 rcases I.ok.YG with e|⟨e,c⟩
 ·rw[e] at a;exact av _ a
 ·rw[e] at a;unfold qT at a;rw[List.filterMap_cons,c] at a;exact a
theorem Inv.Kt(I:Inv X pins σ H s):∀b∈qT X.stack,H b=ao:=λb a=>by
 rcases az.mp (I.sM b a) with e|a
 ·rw[e];exact I.free
 ·obtain⟨_,o,c,_⟩:=I.ok.vy.mem a;exact I.base.free b o c (I.ok.RU b a) λz=>I.ok.HQ b z a
theorem Inv.step{g':Array fj}{M:Nat}{d':aeF}{ch:List aj}(I:Inv X pins σ H s)
(j:∀b∈ch,(b∈X.ex\/X.gJ.heap.objs.size<=b)/\b≠X.env.locals/\(∀x c,X.env.cells.lookup x=aa c->c≠b)/\∀p∈X.pn++pins,p.1≠b)
(keep:∀b o,b≠X.env.locals->b∉X.fs->b∉ch->s.heap.get? b=aa o->H b=ao->h'.get? b=aa o)
(slot:∀b o,b≠X.env.locals->b∈X.fs->b∉ch->s.heap.get? b=aa o->H b=ao->∃sl,h'.get? b=aa {o with slots:=sl})(free:∀b o,b∉ch->s.heap.get? b=aa o->H b=ao->H' b=ao)
(there:∀b o,b∉ch->s.heap.get? b=aa o->∃y,h'.get? b=aa y)
(wG:∀b xs,H b=aa (.tup xs)->H' b=aa (.tup xs))(uP:∀b o u,H b=aa (.wF o u)->H' b=aa (.wF o u))(wH:∀b C,H b=aa (.HP C)->∃more,H' b=aa (.HP (C++more)))
(ns:∀m,s.heap.Ns X.env.locals m->h'.Ns X.env.locals m)(iJ:um X.prog X.w H' h')(N:fJ g'):
  Inv X pins σ H' {s with heap:=h',gens:=g',drawn:=d',toks:=M}:=by
 have A:∀b o,X.gJ.heap.get? b=aa o->b≠X.env.locals:=λb o e=>bn (bg (aD e) I.ok.above);have f:∀b o,X.gJ.heap.get? b=aa o->b∉X.ex->b∉ch:=λb o e a g=>by
  rcases(j b g).1 with z|z
  ·exact a z
  ·exact absurd (bg (aD e) z) (cu _)
 have E:∀x c,X.env.cells.lookup x=aa c->∀v,s.heap.IsCell c v->h'.IsCell c v:=λx c e v ⟨o,h,hd⟩=>by
  have B:c∉ch:=λz=>(j c z).2.2.1 x c e rfl;by_cases G:c∈X.fs
  ·obtain⟨sl,q⟩:=slot c o (I.N3 x c e) G B h (I.lD x c e);exact⟨_,q,hd⟩
  ·exact⟨o,keep c o (I.N3 x c e) G B h (I.lD x c e),hd⟩
 refine⟨I.ok,I.os,N,⟨λb o e n g a=>?_,λb o e n g a=>?_,λb o e n a=>?_,λb o e a=>?_,λb xs e=>wG b xs (I.base.wG b xs e),λb o xs e=>uP b o xs (I.base.uP b o xs e),λb C e=>?_⟩,?_,λx c e=>?_,?_,λx c e=>?_,λp J=>?_,iJ,I.len⟩
 ·exact keep b o (A b o e) g (f b o e a) (I.base.keep b o e n g a) (I.base.free b o e n a)
 ·obtain⟨sl,e1⟩:=I.base.slot b o e n g a;obtain⟨O,e2⟩:=slot b _ (A b o e) g (f b o e a) e1 (I.base.free b o e n a);exact⟨O,e2⟩
 ·obtain⟨y,e1⟩:=I.base.there b o e a;exact free b y (f b o e a) e1 (I.base.free b o e n a)
 ·obtain⟨y,e1⟩:=I.base.there b o e a;exact there b y (f b o e a) e1
 ·obtain⟨Q,e1⟩:=I.base.wH b C e;obtain⟨T,e2⟩:=wH b _ e1;exact⟨Q++T,by rw[e2,Array.append_assoc]⟩
 ·obtain⟨m,hn,U⟩:=I.loc;refine⟨m,ns m hn,λi x v e1 e2 e3=>?_⟩;obtain⟨u,r,l⟩:=U i x v e1 e2 e3;refine⟨u,r,?_⟩;rcases l with l|⟨k,c,e,z⟩
  ·exact .inl l
  ·exact .inr ⟨k,c,e,E x c e _ z⟩
 ·obtain⟨v,z⟩:=I.cell x c e;exact⟨v,E x c e v z⟩
 ·obtain⟨m,⟨o,_,_,h,_⟩,_⟩:=I.loc;exact free _ o (λz=>(j _ z).2.1 rfl) h I.free
 ·obtain⟨v,o,h,hd⟩:=I.cell x c e;exact free c o (λz=>(j c z).2.2.1 x c e rfl) h (I.lD x c e)
 ·obtain⟨e,n,ne,L,d⟩:=I.pin p J;have B:p.1∉ch:=λz=>(j p.1 z).2.2.2 p J rfl;exact⟨keep p.1 p.2 ne L B e n,free p.1 p.2 B e n,ne,L,d⟩
theorem Inv.un{t':Nat}(I:Inv X pins σ H s)(u:Un X.fs [] H H' s.heap h')(iJ:um X.prog X.w H' h'):Inv X pins σ H' {s with heap:=h',toks:=t'}:=by
 obtain⟨m,⟨o,es,l,c,r⟩,_⟩:=id I.loc;obtain⟨sl,g⟩:=u.any c I.free (by simp);exact I.step (g':=s.gens) (d':=s.drawn) (ch:=[]) (λ_ z=>nomatch z) (λb o _ a _ e n=>u.keep b o e n a (by simp)) (λb o _ a _ e n=>u.slot b o e n a (by simp)) (λb o _ e n=>u.free b o e n (by simp)) (λb o _ e=>u.there b o e (by simp)) u.wG u.uP u.wH (λv hm=>by obtain⟨x,h,i,f,j⟩:=hm;rw[c] at f;cases f;exact⟨_,h,i,g,j⟩) iJ I.bare
theorem Inv.call{g':Array fj}{t':Nat}{d':aeF}{ch:List aj}(I:Inv X pins σ H s)(u:Un (qT X.stack) ch H H' s.heap h')(iJ:um X.prog X.w H' h')(j:fJ g')
(g:∀b∈ch,(b∈X.ex\/X.gJ.heap.objs.size<=b)/\b≠X.env.locals/\(∀x c,X.env.cells.lookup x=aa c->c≠b)/\∀p∈X.pn++pins,p.1≠b):
  Inv X pins σ H' {s with heap:=h',gens:=g',drawn:=d',toks:=t'}:=by
 obtain⟨m,⟨o,es,A,h,r⟩,_⟩:=id I.loc;obtain⟨sl,f⟩:=u.any h I.free λz=>(g _ z).2.1 rfl;exact I.step (ch:=ch) g (λb o f l a e n=>u.keep b o e n (λz=>(az.mp (I.sM b z)).elim f l) a) (λb o _ _ a e n=>u.any e n a) (λb o a e n=>u.free b o e n a) (λb o a e=>u.there b o e a) u.wG u.uP u.wH (λB hm=>by obtain⟨C,q,v,i,y⟩:=hm;rw[h] at i;cases i;exact⟨_,q,v,f,y⟩) iJ j
theorem Inv.turned{t':Nat}{it:aj}(I:Inv X pins σ H s)(k:∀b o,b≠it->s.heap.get? b=aa o->h'.get? b=aa o)(hn:H it=ao)(f:it≠X.env.locals)
(h:it∈X.ex\/X.gJ.heap.objs.size<=it)(i:∀x c,X.env.cells.lookup x=aa c->c≠it)(j:∀p∈X.pn++pins,p.1≠it):Inv X pins σ H {s with heap:=h',toks:=t'}:=by
 have g:∀b u,H b=aa u->b≠it:=λb u e z=>by rw[z,hn] at e;cases e
 refine I.step (g':=s.gens) (d':=s.drawn) (ch:=[it]) (λb l=>?_) (λb o _ _ a e _=>k b o (λz=>a (by simp[z])) e) (λb o _ _ a e _=>⟨o.slots,k b o (λz=>a (by simp[z])) e⟩) (λ_ _ _ _ n=>n)
  (λb o a e=>⟨o,k b o (λz=>a (by simp[z])) e⟩) (λ_ _ e=>e) (λ_ _ _ e=>e) (λb C e=>⟨#[],by rw[e];simp⟩) (λm hm=>?_) (λb u e=>?_) I.bare
 ·have e:b=it:=by simpa using l
  subst e;exact⟨h,f,i,j⟩
 ·obtain⟨o,es,w,y,r⟩:=hm;exact⟨o,es,w,k _ o (bU f) y,r⟩
 ·refine(I.iJ b u e).sL (λc v a q=>k c v ?_ q) (λ_ q=>q) λ_ _ q=>q;rcases a with z|z
  ·rw[z];exact g b u e
  ·exact g c _ z
theorem Inv.tok(I:Inv X pins σ H s)(t:Nat):Inv X pins σ H {s with toks:=t}:=I.un (h':=s.heap) (t':=t) Un.refl I.iJ
theorem Inv.kept{t':Nat}(I:Inv X pins σ H s)(k:∀b u,s.heap.get? b=aa u->h'.get? b=aa u):Inv X pins σ H {s with heap:=h',toks:=t'}:=I.un (Un.kept k) (I.iJ.kept k)
theorem Inv.laid{a:aj}{o:HO}{t':Nat}(I:Inv X pins σ H s)(k:∀b u,s.heap.get? b=aa u->h'.get? b=aa u)(c:s.heap.objs.size<=a)(new:iN X.prog X.w (upd H a o) h' a o):
  Inv X pins σ (upd H a o) {s with heap:=h',toks:=t'}:=I.un (Un.laid k c (I.iJ.fresh c)) (I.iJ.laid k c new)
theorem Inv.write{x e:aj}{o:HO}{g:Nat}(I:Inv X pins σ H s)(a:Mut (H x))(c:e=x\/H e=aa (.own x))(k:∀b u,b≠e->s.heap.get? b=aa u->h'.get? b=aa u)(f:∃u,h'.get? e=aa u)
(new:iN X.prog X.w (upd H x o) h' x o):Inv X pins σ (upd H x o) {s with heap:=h',toks:=g}:=I.un (Un.write a c k f) (I.iJ.write a c k f new)
theorem Inv.Ku{a:List (aj×bS)}(I:Inv X pins σ H s)(h:∀p∈a,s.heap.get? p.1=aa p.2/\H p.1=ao/\p.1≠X.env.locals/\p.1∉X.fs/\∀v,p.2.data≠.cell v):Inv X a σ H s:=
 ⟨I.ok,I.os,I.bare,I.base,I.loc,I.cell,I.free,I.lD,λp b=>(bp.mp b).elim (λz=>I.pin p (b8 _ z)) (h p),I.iJ,I.len⟩
theorem zF{N:List ay}(c:N.Nodup){i j:Nat}{x:ay}(a:N[i]?=aa x)(b:N[j]?=aa x):i=j:=by obtain⟨e,e1⟩:=aB.mp a;obtain⟨f,e2⟩:=aB.mp b;exact(List.getElem_inj c).mp (e1.trans e2.symm)
theorem uo{M:ael}{A:ba}{E:af->ai->Prop}{i:Nat}{x:ay}{v:V}{u:af}{Q:Unit->ai->Prop}(I:Inv X pins σ H s)(hN:X.N.Nodup)(hi:X.N[i]?=aa x)(l:Loc X.env.scope x)(r:RelV v u)
(h:∀Y,Inv X pins (σ.set i (aa v)) H Y->(∃a,b7 a s.heap Y.heap/\(a=X.env.locals\/X.env.cells.lookup x=aa a))->Q () Y)(hf:X.fn x=ah\/X.env.scope.names.lookup x=aa .local:=by first|exact .inl rfl|exact .inr rfl|assumption):wpAny M A (storeName X.env x u) Q E s:=by
 obtain⟨m,hn,hl⟩:=id I.loc;have N5:(X.env.scope.kind==.class||(X.env.scope.kind==.module&&X.env.locals !=X.env.globals))=am:=by rw[I.ok.kind];rfl
 have Zd:i<σ.length:=by rw[I.len];exact(aB.mp hi).1
 have N3:=I.N3;have Kv:∀{a:aj} {h':ar},(∃o,s.heap.get? a=aa o/\H a=ao)->b7 a s.heap h'->um X.prog X.w H h':=λ{a h'} ha f b ob e=>by
  obtain⟨_,_,Vc⟩:=ha;refine(I.iJ b ob e).sL (λc T g q=>(f.2 c ?_).trans q) (λ_ q=>q) λ_ _ q=>q
  rintro rfl
  rcases g with rfl|g
  ·rw[Vc] at e;cases e
  ·rw[Vc] at g;cases g
 rcases l with B|B
 ·refine wpAny_storeName_local B hn (λh' HR f=>?_) N5;obtain⟨oL,_,_,hoL,_⟩:=id hn;refine h _ ⟨I.ok,I.os,I.bare,⟨λb o e n C l=>?_,λb o e n C l=>?_,I.base.free,λb o e l=>?_,I.base.wG,I.base.uP,I.base.wH⟩,⟨_,HR,λj y v' e1 e2 e3=>?_⟩,λy c e=>?_,I.free,I.lD,λp hp=>?_,Kv ⟨oL,hoL,I.free⟩ f,by simpa using I.len⟩ ⟨_,f,.inl rfl⟩
  ·exact(f.2 b (bn (bg (aD e) I.ok.above))).trans (I.base.keep b o e n C l)
  ·obtain⟨sl,e1⟩:=I.base.slot b o e n C l;exact⟨sl,(f.2 b (bn (bg (aD e) I.ok.above))).trans e1⟩
  ·obtain⟨o',e1⟩:=I.base.there b o e l;exact⟨o',(f.2 b (bn (bg (aD e) I.ok.above))).trans e1⟩
  ·by_cases G:j=i
   ·subst G;rw[hi] at e1;cases e1;rw[dq Zd] at e2;cases e2;exact⟨u,r,.inl ⟨B,by simp⟩⟩
   ·rw[c6 (bU G)] at e2;obtain⟨u',r',q⟩:=hl j y v' e1 e2 e3;refine⟨u',r',?_⟩;rcases q with⟨k,e⟩|⟨k,c,e,z⟩
    ·refine .inl ⟨k,?_⟩;have:y≠x:=λe=>G (zF hN e1 (e▸hi));simp[this,e]
    ·exact .inr ⟨k,c,e,z.sameBut f (N3 y c e)⟩
  ·obtain⟨T,z⟩:=I.cell y c e;exact⟨T,z.sameBut f (N3 y c e)⟩
  ·obtain⟨e,n,ne,nf,d⟩:=I.pin p hp;exact⟨(f.2 p.1 ne).trans e,n,ne,nf,d⟩
 ·have J:X.fn x=ah:=by
   rcases hf with z|z
   ·exact z
   ·rw[z] at B;cases B
  obtain⟨c,g⟩:=I.ok.has x (.inl B);obtain⟨T,z⟩:=I.cell x c g;refine wpAny_storeName_cell I.ok.kind B g z (λh' YI f=>?_);obtain⟨oc,L,abG⟩:=id z;refine h {s with heap:=h'} ⟨I.ok,I.os,I.bare,⟨λb o e n C l=>?_,λb o e n C l=>?_,I.base.free,λb o e l=>?_,I.base.wG,I.base.uP,I.base.wH⟩,⟨m,hn.sameBut f (bU (N3 x c g)),λj y v' e1 e2 e3=>?_⟩,λy U e=>?_,I.free,I.lD,λp hp=>?_,Kv ⟨oc,L,I.lD x c g⟩ f,by simpa using I.len⟩ ⟨c,f,.inr g⟩
  ·exact(f.2 b (bn (bg (aD e) (I.ok.V6 x c J g)))).trans (I.base.keep b o e n C l)
  ·obtain⟨sl,e1⟩:=I.base.slot b o e n C l;exact⟨sl,(f.2 b (bn (bg (aD e) (I.ok.V6 x c J g)))).trans e1⟩
  ·obtain⟨o',e1⟩:=I.base.there b o e l;exact⟨o',(f.2 b (bn (bg (aD e) (I.ok.V6 x c J g)))).trans e1⟩
  ·by_cases G:j=i
   ·subst G;rw[hi] at e1;cases e1;rw[dq Zd] at e2;cases e2;exact⟨u,r,.inr ⟨.inl B,c,g,YI⟩⟩
   ·rw[c6 (bU G)] at e2;obtain⟨u',r',q⟩:=hl j y v' e1 e2 e3;refine⟨u',r',?_⟩;rcases q with q|⟨k,U,e,z'⟩
    ·exact .inl q
    ·refine .inr ⟨k,U,e,z'.sameBut f ?_⟩
     rintro rfl
     exact G (zF hN e1 (I.ok.inj _ _ _ e g▸hi))
  ·by_cases O:U=c
   ·subst O;exact⟨_,YI⟩
   ·obtain⟨w2,z2⟩:=I.cell y U e;exact⟨w2,z2.sameBut f O⟩
  ·obtain⟨e,n,ne,nf,d⟩:=I.pin p hp;refine⟨(f.2 p.1 ?_).trans e,n,ne,nf,d⟩;intro q;rw[q,L] at e;have q':oc=p.2:=bq e;exact d T (by rw[<-q'];exact abG)
theorem wJ{M:ael}{A:ba}{E:af->ai->Prop}{i:Nat}{x:ay}{v:V}{u:af}{Q:Unit->ai->Prop}(I:Inv X pins σ H s)(b:X.N.Nodup)(hi:X.N[i]?=aa x)(c:Loc X.env.scope x)(r:RelV v u)
(h:∀a,Inv X pins (σ.set i (aa v)) H a->Q () a)(e:X.fn x=ah\/X.env.scope.names.lookup x=aa .local:=by first|exact .inl rfl|exact .inr rfl|assumption):wpAny M A (storeName X.env x u) Q E s:=
 uo I b hi c r (λa f _=>h a f) e
theorem Inv.yE{s':ai}{ch:List aj}(I:Inv X pins σ H s)(h:s'.os=s.os)(u:Un (qT X.stack) ch H H' s.heap s'.heap)(iJ:um X.prog X.w H' s'.heap)(i:fJ s'.gens)
(j:∀b∈ch,(b∈X.ex\/X.gJ.heap.objs.size<=b)/\b≠X.env.locals/\(∀x c,X.env.cells.lookup x=aa c->c≠b)/\∀p∈X.pn++pins,p.1≠b):Inv X pins σ H' s':=by obtain⟨h',a,f,g,l⟩:=s';have e:l=s.os:=h;subst e;exact I.call (g':=a) (t':=g) (d':=f) u iJ i j
end
abbrev XK:=af->Option aj->Hp->Prop
abbrev St:=List (Option V)
abbrev VK:=V->Hp->Prop
abbrev TE:=St->Hp->VK->Prop
abbrev TT:=St->Hp->(Bool->Hp->Prop)->Prop
abbrev TA:=St->Hp->(List V->Hp->Prop)->Prop
structure Ends where
 nx:St->Hp->Prop
 rt:VK
 bk:St->Hp->Prop:=λ_ _=>False
 ct:St->Hp->Prop:=λ_ _=>False
abbrev TS:=Ends->St->Hp->Prop
def EP (X:Cx)(pins:List (aj×bS))(σ:St)(Q:VK)(u:af)(b:ai):Prop:=∃v a,Inv X pins σ a b/\RelV v u/\Q v a
def TP (X:Cx)(pins:List (aj×bS))(σ:St)(Q:Bool->Hp->Prop)(b:Bool)(c:ai):Prop:=∃a,Inv X pins σ a c/\Q b a
def AP (X:Cx)(pins:List (aj×bS))(σ:St)(Q:List V->Hp->Prop)(us:List af)(c:ai):Prop:=∃a b,Inv X pins σ b c/\Vals a us/\Q a b
def SP (X:Cx)(pins:List (aj×bS))(D:Ends)(f:Flow)(c:ai):Prop:=
 match f with
 |.next=>∃b a,Inv X pins b a c/\D.nx b a
 |.brk=>∃b a,Inv X pins b a c/\D.bk b a
 |.cont=>∃b a,Inv X pins b a c/\D.ct b a
 |.ret u=>∃v b a,Inv X pins b a c/\RelV v u/\D.rt v a
def PE (X:Cx)(e:bh)(t:TE):Prop:=
 ∀(pins:List (aj×bS)) (s:ai) (σ:St) (H:Hp) (Q:VK),Inv X pins σ H s->t σ H Q->wpAny (model X.prog X.w) X.A (eval e X.env) (EP X pins σ Q) X.xe s
def PT (X:Cx)(e:bh)(t:TT):Prop:=
 ∀(pins:List (aj×bS)) (s:ai) (σ:St) (H:Hp) (Q:Bool->Hp->Prop),Inv X pins σ H s->t σ H Q->wpAny (model X.prog X.w) X.A (aeb e X.env (eval e X.env)) (TP X pins σ Q) X.xe s
def PW (X:Cx)(e:bh)(t:TT):Prop:=
 ∀(a:aey af) (pins:List (aj×bS)) (s:ai) (σ:St) (H:Hp) (Q:Bool->Hp->Prop),Inv X pins σ H s->t σ H Q->wpAny (model X.prog X.w) X.A (aeb e X.env a) (TP X pins σ Q) X.xe s
theorem PW.pt{X:Cx}{e:bh}{t:TT}(h:PW X e t):PT X e t:=h _
def PA (X:Cx)(es:List bh)(t:TA):Prop:=
 ∀(pos:c7) (pins:List (aj×bS)) (s:ai) (σ:St) (H:Hp) (Q:List V->Hp->Prop),Inv X pins σ H s->t σ H Q->wpAny (model X.prog X.w) X.A (spliced (cG pos (aM es X.env))) (AP X pins σ Q) X.xe s
def PS (X:Cx)(st:bH)(t:TS):Prop:=
 ∀(pins:List (aj×bS)) (s:ai) (σ:St) (H:Hp) (D:Ends),Inv X pins σ H s->t D σ H->wpAny (model X.prog X.w) X.A (exec st X.env) (SP X pins D) X.xe s
def wA (X:Cx)(st:List bH)(t:TS):Prop:=
 ∀(pins:List (aj×bS)) (s:ai) (σ:St) (H:Hp) (D:Ends),Inv X pins σ H s->t D σ H->wpAny (model X.prog X.w) X.A (execs st X.env) (SP X pins D) X.xe s
theorem jz{α:Type}{t:aey α}{Q b:α->ai->Prop}{M:ael}{A:ba}{E:af->ai->Prop}{s:ai}(h:wpAny M A t Q E s)(c:∀a s,Q a s->b a s):wpAny M A t b E s:=cj h c λ_ _ x=>x
end L2
namespace L2
open PySem PySem.Spec PyProof.Rows
section
variable {X:Cx}
noncomputable def N6(i:Nat):TE:=λσ H Q=>∃v,σ[i]?=aa (aa v)/\Q v H
noncomputable def tC(v:V):TE:=λ_ H Q=>Q v H
theorem zH{i:Nat}{x:ay}{pos:c7}(j:X.N[i]?=aa x)(n:U9 X.env.scope x)(hd:(x==("__debug__":ay))=am:=by decide)(o:(x==("__classdict__":ay))=am:=by decide):PE X (.Name x pos) (N6 i):=by
 intro pins s σ H Q I h;obtain⟨v,e,h⟩:=h;obtain⟨m,hn,p⟩:=I.loc;obtain⟨u,r,l⟩:=p i x v j e n;have b:EP X pins σ Q u s:=⟨v,H,I,r,h⟩;rcases l with⟨a,hm⟩|⟨a,c,f,g⟩
 ·exact aez (wpAny_loadName_local I.ok.kind a hn hm b) hd
 ·rcases a with a|a
  ·exact aez (wpAny_loadName_cell I.ok.kind a f g b) hd
  ·exact aez (wpAny_loadName_free I.ok.kind a f g b o) hd
theorem V7{i j pos}:PE X (.Constant (.int i) j pos) (tC (.int i)):=λ_ _ _ H _ I h=>wpAny_Constant_int ⟨.int i,H,I.tok _,⟨_,rfl⟩,h⟩
theorem Ze{b j pos}:PE X (.Constant (.bool b) j pos) (tC (.bl b)):=λ_ _ _ H _ I h=>Constant_bool ⟨.bl b,H,I,rfl,h⟩
theorem V8{j pos}:PE X (.Constant .none j pos) (tC .non):=λ_ _ _ H _ I h=>Constant_none ⟨.non,H,I,rfl,h⟩
theorem N7{x j pos}:PE X (.Constant (.str x) j pos) (tC (.str x)):=λ_ _ _ H _ I h=>Calls.Constant_str ⟨.str x,H,I.tok _,⟨_,rfl⟩,h⟩
def Gl (X:Cx)(x:ay):Prop:=X.env.kindOf x=aa .globalImplicit
theorem qU{E:af->ai->Prop}{pins:List (aj×bS)}{s:ai}{σ:St}{H:Hp}{x:ay}{u:af}{pos:c7}{Q:af->ai->Prop}(I:Inv X pins σ H s)(a:Gl X x)(hm:X.mg x=aa u)(h:Q u s)
(hd:(x==("__debug__":ay))=am:=by decide):wpAny (model X.prog X.w) X.A (eval (.Name x pos) X.env) Q E s:=
 Calls.Name_function_global I.ok.kind a (Calls.loadGlobal_global (by rw[I.ok.glob];exact I.mod.glob.keeps I.bk) hm h) hd
theorem xJ{E:af->ai->Prop}{pins:List (aj×bS)}{s:ai}{σ:St}{H:Hp}{x:ay}{u:af}{pos:c7}{Q:af->ai->Prop}(I:Inv X pins σ H s)(a:Gl X x)(hm:X.mg x=ao)(b:bR x=aa u)(h:Q u s)
(hn:x≠"__name__":=by decide)(hd:(x==("__debug__":ay))=am:=by decide):wpAny (model X.prog X.w) X.A (eval (.Name x pos) X.env) Q E s:=by obtain⟨f,c,e⟩:=I.mod.blt;exact Calls.Name_function_global I.ok.kind a (Calls.loadGlobal_builtin (by rw[I.ok.glob];exact I.mod.glob.keeps I.bk) hm (by rw[I.ok.blt];exact c.keeps I.bk) ((e x hn).trans b) h) hd
theorem Kw{x:ay}{v:V}{u:af}{pos:c7}(a:Gl X x)(hm:X.mg x=aa u)(r:RelV v u)(hd:(x==("__debug__":ay))=am:=by decide):PE X (.Name x pos) (tC v):=
 λ_ _ _ H _ I h=>qU I a hm ⟨v,H,I,r,h⟩ hd
theorem Sg{x:ay}{v:V}{u:af}{pos:c7}(a:Gl X x)(hm:X.mg x=ao)(b:bR x=aa u)(r:RelV v u)(hn:x≠"__name__":=by decide)(hd:(x==("__debug__":ay))=am:=by decide):PE X (.Name x pos) (tC v):=
 λ_ _ _ H _ I h=>xJ I a hm b ⟨v,H,I,r,h⟩ hn hd
variable {a b:bh} {ta tb:TE} {pos:c7}
noncomputable def tB(t:TE):TT:=λσ H Q=>t σ H λx H1=>∃c,x=.bl c/\Q c H1
theorem V9{e:bh}{t:TE}(h:PE X e t)(f:∀c,aeb e X.env c=(do let v<-c;adG e.pos;holding [v] (truthy v)):=by intro _;rfl):PT X e (tB t):=by intro pins s σ H Q I hw;refine isTrue_plain (jz (h pins s σ H _ I hw) λv s1 ⟨x,H1,g,r1,i⟩=>?_) (f _);obtain⟨d,rfl,q⟩:=i;cases r1;exact ck ⟨H1,g,q⟩
variable {tA N8:TT} {rest:List bh}
noncomputable def abH(t u:TT):TT:=λσ H Q=>t σ H λc H1=>if c=ah then u σ H1 Q else Q am H1
noncomputable def tOr(t u:TT):TT:=λσ H Q=>t σ H λc H1=>if c=ah then Q ah H1 else u σ H1 Q
noncomputable def abI(t:TT):TT:=λσ H Q=>t σ H λc H1=>Q (!c) H1
theorem pw_and1(ha:PT X a tA):PW X (.BoolOp .And [a] pos) tA:=by
 intro f pins s σ H Q I h;refine isTrue_and (jz (ha pins s σ H Q I h) λc s1 e=>?_);cases c with
 |true=>exact isTrue_and_nil e
 |false=>exact e
theorem pw_or1(ha:PT X a tA):PW X (.BoolOp .Or [a] pos) tA:=by
 intro f pins s σ H Q I h;refine isTrue_or (jz (ha pins s σ H Q I h) λc s1 e=>?_);cases c with
 |false=>exact isTrue_or_nil e
 |true=>exact e
theorem pw_and(ha:PT X a tA)(g:PW X (.BoolOp .And (b::rest) pos) N8):PW X (.BoolOp .And (a::b::rest) pos) (abH tA N8):=by
 intro i pins s σ H Q I h;refine isTrue_and (jz (ha pins s σ H _ I h) λc s1 ⟨H1,e,f⟩=>?_);cases c with
 |true=>exact g i pins s1 σ H1 Q e f
 |false=>exact⟨H1,e,f⟩
theorem pw_or(ha:PT X a tA)(g:PW X (.BoolOp .Or (b::rest) pos) N8):PW X (.BoolOp .Or (a::b::rest) pos) (tOr tA N8):=by
 intro i pins s σ H Q I h;refine isTrue_or (jz (ha pins s σ H _ I h) λc s1 ⟨H1,e,f⟩=>?_);cases c with
 |true=>exact⟨H1,e,f⟩
 |false=>exact g i pins s1 σ H1 Q e f
theorem Wa(ha:PT X a tA):PT X (.UnaryOp .Not a pos) (abI tA):=by intro pins s σ H Q I h;exact isTrue_not (ha pins s σ H (λc H1=>Q (!c) H1) I h)
noncomputable def Zf(ta tb:TE):TE:=λσ H Q=>ta σ H λx H1=>∃c,x=.bl c/\if c=ah then tb σ H1 Q else Q (.bl am) H1
noncomputable def abJ(ta tb:TE):TE:=λσ H Q=>ta σ H λx H1=>∃c,x=.bl c/\if c=ah then Q (.bl ah) H1 else tb σ H1 Q
noncomputable def Zg(ta:TE):TE:=λσ H Q=>ta σ H λx H1=>∃c,x=.bl c/\Q (.bl (!c)) H1
theorem Wb{op}{t:TE}(h:PE X a t):PE X (.BoolOp op [a] pos) t:=λpins s σ H Q I hw=>BoolOp_one (h pins s σ H Q I hw)
theorem Wc(ha:PE X a ta)(g:PE X (.BoolOp .And (b::rest) pos) tb):PE X (.BoolOp .And (a::b::rest) pos) (Zf ta tb):=by
 intro pins s σ H Q I h;refine BoolOp_and (jz (ha pins s σ H _ I h) λv s1 ⟨x,H1,f,r1,e⟩=>?_);obtain⟨c,rfl,e⟩:=e;cases r1;refine ck ?_;cases c with
 |true=>exact g pins s1 σ H1 Q f e
 |false=>exact⟨.bl am,H1,f,rfl,e⟩
theorem Zh(ha:PE X a ta)(g:PE X (.BoolOp .Or (b::rest) pos) tb):PE X (.BoolOp .Or (a::b::rest) pos) (abJ ta tb):=by
 intro pins s σ H Q I h;refine BoolOp_or (jz (ha pins s σ H _ I h) λv s1 ⟨x,H1,f,r1,e⟩=>?_);obtain⟨c,rfl,e⟩:=e;cases r1;refine ck ?_;cases c with
 |false=>exact g pins s1 σ H1 Q f e
 |true=>exact⟨.bl ah,H1,f,rfl,e⟩
theorem Wd(ha:PE X a ta):PE X (.UnaryOp .Not a pos) (Zg ta):=by intro pins s σ H Q I h;refine UnaryOp_ (jz (ha pins s σ H _ I h) λv s1 ⟨x,H1,f,r1,e⟩=>?_);obtain⟨c,rfl,e⟩:=e;cases r1;exact not_of (ck ⟨.bl (!c),H1,f,rfl,e⟩)
noncomputable def tIf(t:TT)(ta tb:TE):TE:=λσ H Q=>t σ H λc H1=>if c=ah then ta σ H1 Q else tb σ H1 Q
theorem N9{c:bh}(g:PT X c tA)(ha:PE X a ta)(i:PE X b tb):PE X (.IfExp c a b pos) (tIf tA ta tb):=by
 intro pins s σ H Q I h;refine wpAny_IfExp (jz (g pins s σ H _ I h) λd s1 ⟨H1,e,f⟩=>?_);cases d with
 |true=>exact ha pins s1 σ H1 Q e f
 |false=>exact i pins s1 σ H1 Q e f
end
end L2
namespace L2
open PySem PySem.Spec PyProof.Rows
def pH (K:W.Frag)(H:Hp)(a:aj)(xs:List V):Prop:=
 Rd H a (.lst xs)\/
  ∃(o:bS) (g8:Array af) (n:Nat),K.lookup a=aa o/\o.cls=.type "list"/\o.dict=ao/\o.data=.seq g8 n/\g8.size<=aE/\Vals xs g8.toList
def xL (K:W.Frag)(H:Hp)(a:aj)(xs:List V):Prop:=
 Rd H a (.tup xs)\/
  ∃(o:bS) (g8:Array af) (n:Nat),K.lookup a=aa o/\o.cls=.type "tuple"/\o.data=.seq g8 n/\g8.size<=aE/\Vals xs g8.toList
noncomputable def abK:af->Option V
 |.none=>aa .non
 |.bool b=>aa (.bl b)
 |.int i _=>aa (.int i)
 |.str x _=>aa (.str x)
 |.bytes b _=>aa (.NR b)
 |.float b _=>aa (.V5 b)
 |.ref a=>aa (.ref a)
 |.type n=>aa (.ty n)
 |_=>ao
theorem RelV.abs{x:V}{u:af}(r:RelV x u):abK u=aa x:=by
 cases x with
 |non=>cases r;rfl
 |bl _=>cases r;rfl
 |int _=>obtain⟨t,rfl⟩:=r;rfl
 |str _=>obtain⟨t,rfl⟩:=r;rfl
 |NR _=>obtain⟨t,rfl⟩:=r;rfl
 |V5 _=>obtain⟨t,rfl⟩:=r;rfl
 |ref _=>cases r;rfl
 |ty _=>cases r;rfl
theorem RelV.inj{x y:V}{u:af}(r:RelV x u)(q:RelV y u):x=y:=bq (r.abs.symm.trans q.abs)
theorem Vals.inj:∀{xs a:List V} {us:List af},Vals xs us->Vals a us->xs=a
 |_,_,_,.nil,.nil=>rfl
 |_,_,_,.cons r t,.cons b c=>by rw[r.inj b,Vals.inj t c]
section
variable {X:Cx} {pins:List (aj×bS)} {σ:St} {H:Hp} {s:ai} {a:aj} {xs ys:List V}
theorem pH.of{K:W.Frag}(h:H a=aa (.lst xs)):pH K H a xs:=.inl (.inl h)
theorem Inv.list(I:Inv X pins σ H s)(h:pH X.K H a xs):∃g8:List af,Vals xs g8/\PlainL s.heap a g8.toArray/\xs.length<=aE:=by
 rcases h with h|⟨o,g8,n,b,c,hd,f,g,r⟩
 ·obtain⟨z,g8,n,r,e⟩:=h.ok I.iJ;exact⟨g8,r,⟨_,n,e,rfl,rfl,rfl⟩,z⟩
 ·refine⟨g8.toList,r,⟨o,n,I.nN a o b,c,hd,by simpa using f⟩,?_⟩;have e:=r.length;simp only [eV] at e;omega
theorem Inv.tuple(I:Inv X pins σ H s)(h:xL X.K H a xs):∃g8:List af,Vals xs g8/\adt s.heap a g8.toArray/\xs.length<=aE:=by
 rcases h with h|⟨o,g8,n,b,c,f,g,r⟩
 ·obtain⟨z,g8,r,p⟩:=h.ok I.iJ;exact⟨g8,r,p,z⟩
 ·refine⟨g8.toList,r,⟨o,I.nN a o b,c,n,by simpa using f⟩,?_⟩;have e:=r.length;simp only [eV] at e;omega
theorem Inv.Fa(I:Inv X pins σ H s)(h:pH X.K H a xs)(c:pH X.K H a ys):xs=ys:=by
 obtain⟨g8,r,⟨o,n,e,_,_,d⟩,_⟩:=I.list h;obtain⟨f,g,⟨j,l,e',_,_,b⟩,_⟩:=I.list c;rw[e] at e';cases e';rw[d] at b;injection b with i _;have:g8=f:=by simpa using congrArg Array.toList i
 subst this;exact r.inj g
theorem Inv.Ca(I:Inv X pins σ H s)(h:xL X.K H a xs)(c:xL X.K H a ys):xs=ys:=by
 obtain⟨g8,r,⟨o,e,_,n,d⟩,_⟩:=I.tuple h;obtain⟨f,g,⟨j,e',_,l,b⟩,_⟩:=I.tuple c;rw[e] at e';cases e';rw[d] at b;injection b with i _;have:g8=f:=by simpa using congrArg Array.toList i
 subst this;exact r.inj g
end
abbrev Cx.BA(X:Cx)(E:af->ai->Prop):Cx:={X with xe:=E}
abbrev Cx.L9(X:Cx):Cx:=X.BA λ_ _=>False
theorem Cx.Ok.BA{X:Cx}(ok:X.Ok)(E:af->ai->Prop):(X.BA E).Ok:=
 ⟨ok.mod,ok.kind,ok.glob,ok.blt,ok.above,ok.inj,ok.has,ok.V6,ok.hd,ok.frames,ok.YG,ok.exf,ok.bs,ok.NS,ok.E9,ok.HQ,ok.vy,ok.RU⟩
theorem Cx.Ok.sN{X:Cx}{E:af->ai->Prop}(ok:(X.BA E).Ok):X.Ok:=
 ⟨ok.mod,ok.kind,ok.glob,ok.blt,ok.above,ok.inj,ok.has,ok.V6,ok.hd,ok.frames,ok.YG,ok.exf,ok.bs,ok.NS,ok.E9,ok.HQ,ok.vy,ok.RU⟩
section
variable {X:Cx} {pins:List (aj×bS)} {σ:St} {H:Hp} {s:ai} {E:af->ai->Prop}
theorem Inv.BA(I:Inv X pins σ H s)(E:af->ai->Prop):Inv (X.BA E) pins σ H s:=⟨I.ok.BA E,I.os,I.bare,I.base,I.loc,I.cell,I.free,I.lD,I.pin,I.iJ,I.len⟩
theorem Inv.sN(I:Inv (X.BA E) pins σ H s):Inv X pins σ H s:=⟨I.ok.sN,I.os,I.bare,I.base,I.loc,I.cell,I.free,I.lD,I.pin,I.iJ,I.len⟩
theorem SP.sN{D:Ends}{f:Flow}{c:ai}(h:SP (X.BA E) pins D f c):SP X pins D f c:=by
 cases f with
 |next=>obtain⟨a,b,I,q⟩:=h;exact⟨a,b,I.sN,q⟩
 |brk=>obtain⟨a,b,I,q⟩:=h;exact⟨a,b,I.sN,q⟩
 |cont=>obtain⟨a,b,I,q⟩:=h;exact⟨a,b,I.sN,q⟩
 |ret u=>obtain⟨v,a,b,I,r,q⟩:=h;exact⟨v,a,b,I.sN,r,q⟩
theorem wA.L9{st:List bH}{t:TS}(h:wA X.L9 st t):wA X st t:=λpins s σ H D I hw=>
 cj (h pins s σ H D (I.BA _) hw) (λ_ _ q=>q.sN) λ_ _ z=>b0 z
end
section
variable {X:Cx} {st:bH} {rest:List bH} {t u:TS} {e:bh} {te:TE} {pos:c7}
noncomputable def Zi:TS:=λD σ H=>D.nx σ H
noncomputable def We(t u:TS):TS:=λD σ H=>t {D with nx:=u D} σ H
theorem Kx:wA X [] Zi:=λ_ _ σ H _ I h=>adm ⟨σ,H,I,h⟩
theorem wK(a:PS X st t)(b:wA X rest u):wA X (st::rest) (We t u):=by
 intro pins s σ H D I h;refine aeU (jz (a pins s σ H {D with nx:=u D} I h) λf s1 q=>?_);cases f with
 |next=>
  obtain⟨c,g,i,q⟩:=q;exact b pins s1 c g D i q
 |ret v=>exact q
 |brk=>exact q
 |cont=>exact q
theorem Ky(a:PS X st t):wA X [st] t:=by
 intro pins s σ H D I h;refine aeU (jz (a pins s σ H D I h) λf s1 q=>?_);cases f with
 |next=>exact adm q
 |ret v=>exact q
 |brk=>exact q
 |cont=>exact q
theorem Inv.quiet{pins:List (aj×bS)}{σ:St}{H:Hp}{s:ai}(I:Inv X pins σ H s):interactive X.env=am:=by simp[interactive,I.ok.kind]
noncomputable def Ve(te:TE):TS:=λD σ H=>te σ H λ_ H1=>D.nx σ H1
theorem C5(a:PE X e te)(b:cN e ao pos.line X.env=pure am:=by rfl):PS X (.Expr e pos) (Ve te):=by intro pins s σ H D I h;exact wpAny_Expr_any (jz (a pins s σ H _ I h) λv s1 ⟨x,H1,c,r1,f⟩=>⟨σ,H1,c,f⟩) I.quiet b
noncomputable def abL(te:TE):TS:=λD σ H=>te σ H D.rt
theorem Wf(a:PE X e te):PS X (.Return (aa e) pos) (abL te):=by intro pins s σ H D I h;exact wpAny_Return_some (jz (a pins s σ H _ I h) λv s1 ⟨x,H1,b,r1,c⟩=>⟨x,σ,H1,b,r1,c⟩)
noncomputable def abM(c:TT)(t u:TS):TS:=λD σ H=>c σ H λb H1=>if b=ah then t D σ H1 else u D σ H1
theorem Vf{c:bh}{a b:List bH}{tc:TT}(i:PT X c tc)(ha:wA X a t)(j:wA X b u):PS X (.If c a b pos) (abM tc t u):=by
 intro pins s σ H D I h;refine wpAny_If (jz (i pins s σ H _ I h) λd s1 ⟨H1,f,g⟩=>?_);cases d with
 |true=>exact ha pins s1 σ H1 D f g
 |false=>exact j pins s1 σ H1 D f g
end
abbrev TG:=V->St->Hp->(St->Hp->Prop)->Prop
abbrev RW:=List V->St->Hp->(St->Hp->Prop)->Prop
def PG (X:Cx)(target:bh)(t:TG):Prop:=
 ∀(pins:List (aj×bS)) (s:ai) (σ:St) (H:Hp) (v:V) (u:af) (Q:St->Hp->Prop),Inv X pins σ H s->RelV v u->t v σ H Q->
  wpAny (model X.prog X.w) X.A (assign target X.env u) (λ_ c=>∃a b,Inv X pins a b c/\Q a b) X.xe s
def Oa (X:Cx)(e:List bh)(t:RW):Prop:=
 ∀(pins:List (aj×bS)) (s:ai) (σ:St) (H:Hp) (a:List V) (us:List af) (Q:St->Hp->Prop),Inv X pins σ H s->Vals a us->t a σ H Q->
  wpAny (model X.prog X.w) X.A (ad3 ((dI e X.env).map (·.2)) us) (λ_ f=>∃b c,Inv X pins b c f/\Q b c) X.xe s
abbrev Wg:=V->V->V->Hp->(Hp->Prop)->Prop
def Zj (X:Cx)(t:Wg):Prop:=
 ∀(pins:List (aj×bS)) (s:ai) (σ:St) (H:Hp) (o i v:V) (a b u:af) (Q:Hp->Prop),Inv X pins σ H s->RelV o a->RelV i b->RelV v u->t o i v H Q->
  wpAny (model X.prog X.w) X.A (setItem a b u) (λ_ e=>∃c,Inv X pins σ c e/\Q c) X.xe s
section
variable {X:Cx} {pos:c7}
noncomputable def Vg(i:Nat):TG:=λv σ H Q=>Q (σ.set i (aa v)) H
theorem Sh{i:Nat}{x:ay}(a:X.N.Nodup)(hi:X.N[i]?=aa x)(b:Loc X.env.scope x)(c:X.fn x=ah\/X.env.scope.names.lookup x=aa .local:=by first|exact .inl rfl|exact .inr rfl|assumption):PG X (.Name x pos) (Vg i):=by intro pins s σ H v u Q I r h;exact adH (wJ I a hi b r (λf e=>⟨_,H,e,h⟩) c)
noncomputable def abN:RW:=λa σ H Q=>a=[]/\Q σ H
noncomputable def Zk(t:TG)(u:RW):RW:=λa σ H Q=>∃v r,a=v::r/\t v σ H λb c=>u r b c Q
theorem Si:Oa X [] abN:=by intro pins s σ H a us Q I r h;obtain⟨e,h⟩:=h;subst e;cases r;exact aeG ⟨σ,H,I,h⟩
theorem Ob{e:bh}{es:List bh}{t:TG}{u:RW}(a:PG X e t)(b:Oa X es u)
(c:(dI (e::es) X.env).map (·.2)=assign e X.env::(dI es X.env).map (·.2):=by rfl):Oa X (e::es) (Zk t u):=by
 intro pins s σ H l us Q I r h;obtain⟨v,m,e1,h⟩:=h;subst e1;cases r with
 |cons r f=>
  rw[c];refine adA (jz (a pins s σ H _ _ _ I r h) λ_ s1 ⟨g,H1,i,j⟩=>?_);exact b pins s1 g H1 _ _ Q i f j
noncomputable def abO(K:W.Frag)(n:Nat)(t:RW):TG:=λv σ H Q=>∃a xs,v=.ref a/\xL K H a xs/\xs.length=n/\t xs σ H Q
theorem Wh{es:List bh}{k:Nat}{t:RW}{n:Nat}(f:X.calm=ah)(h:Oa X es t)
(hn:(dI es X.env).length=n:=by rfl)(g:(dI es X.env).findIdx? (·.1)=ao:=by rfl):PG X (.Tuple es k pos) (abO X.K n t):=by intro pins s σ H v u Q I r hw;obtain⟨a,xs,e1,i,j,hw⟩:=hw;subst e1;cases r;obtain⟨g8,c,l,w⟩:=I.tuple i;refine assign_Tuple_tuple (I.ok.hd f) l (by simp[hn,<-j,c.length]) g λm p=>?_;have q:Inv X pins σ H {s with heap:=m}:=I.kept (t':=s.toks) λb o e=>p b o (bn (aD e)) e;exact h pins _ σ H xs _ Q q (by simpa using c) hw
noncomputable def abP(to a:TE)(t:Wg):TG:=λv σ H Q=>to σ H λo H1=>a σ H1 λi b=>t o i v b λc=>Q σ c
theorem Wi{o i:bh}{to c:TE}{t:Wg}(e:PE X o to)(hi:PE X i c)(f:Zj X t)
(ha:∀v,assign (.Subscript o i pos) X.env v=(do
   let a<-holding [v] (eval o X.env);let b<-holding [v,a] (eval i X.env)
   adG pos
   holding [v,a,b] (setItem a b v)
   release [v,a,b] []):=by intro _;rfl):PG X (.Subscript o i pos) (abP to c t):=by intro pins s σ H v u Q I r h;rw[ha];refine ag (cc (jz (e pins s σ H _ I h) λa s1 ⟨x,H1,g,r1,j⟩=>?_));refine ag (cc (jz (hi pins s1 σ H1 _ g j) λb s2 ⟨y,l,m,r2,n⟩=>?_));refine ag (dh (ag (cc (jz (f pins s2 σ l x y v a b u _ m r1 r2 r n) λ_ s3 ⟨p,q,w⟩=>?_))));exact wpAny_release ⟨σ,p,q,w⟩
noncomputable def Zl(a:TE)(g:TG):TS:=λD σ H=>a σ H λx H1=>g x σ H1 D.nx
theorem Wj{tg e:bh}{a:TE}{g:TG}(b:PE X e a)(c:PG X tg g)(f:adu [tg] e pos.line X.env=pure am:=by rfl)(hw:adv [tg] e X.env=pure ao:=by rfl)
(i:(dI [tg] X.env).map (·.2)=[assign tg X.env]:=by rfl):PS X (.Assign [tg] e pos) (Zl a g):=by intro pins s σ H D I h;refine wpAny_Assign_stores (jz (b pins s σ H _ I h) λv s1 ⟨x,H1,j,r1,l⟩=>?_) f hw;rw[i];exact jz (c pins s1 σ H1 x v _ j r1 l) λ_ s2 q=>q
theorem Oc{i:Nat}{x:ay}{e:bh}{a:TE}{pos':c7}(b:X.N.Nodup)(hi:X.N[i]?=aa x)(c:Loc X.env.scope x)(f:PE X e a)(g:cN e (aa (.Name x pos')) pos.line X.env=pure am:=by rfl)(j:X.fn x=ah\/X.env.scope.names.lookup x=aa .local:=by first|exact .inl rfl|exact .inr rfl|assumption):
  PS X (.Assign [.Name x pos'] e pos) (Zl a (Vg i)):=by intro pins s σ H D I h;refine wpAny_Assign_Name (jz (f pins s σ H _ I h) λv s1 ⟨y,H1,l,r1,m⟩=>?_) g;exact wJ l b hi c r1 (λs2 n=>⟨_,H1,n,m⟩) j
noncomputable def abQ(i j:Nat)(a:TA):TS:=λD σ H=>a σ H λb H1=>∃v w,b=[v,w]/\D.nx ((σ.set i (aa v)).set j (aa w)) H1
theorem Wk{i j:Nat}{x y:ay}{a b:bh}{m:TA}{px py pt:c7}{kt k2 g}(C:X.calm=ah)(n:X.N.Nodup)(hi:X.N[i]?=aa x)(E:X.N[j]?=aa y)(G:i≠j)
(r:X.env.scope.names.lookup x=aa .local)(u:X.env.scope.names.lookup y=aa .local)(ha:PA X [a,b] m)
(hw:adv [.Tuple [.Name x px,.Name y py] kt pt] (.Tuple [a,b] k2 g) X.env=pure (aa [x,y]))
(J:adu [.Tuple [.Name x px,.Name y py] kt pt] (.Tuple [a,b] k2 g) pos.line X.env=pure am:=by rfl):
  PS X (.Assign [.Tuple [.Name x px,.Name y py] kt pt] (.Tuple [a,b] k2 g) pos) (abQ i j m):=by
 intro pins s σ H D I h;rw[exec_Assign_arm];refine ag (dh ?_);rw[J];refine ag (aq ?_);rw[if_neg (by decide)];refine ag (Tuple_ (jz (ha _ pins s σ H _ I h) λus s1 ⟨vs,H1,L,r1,l⟩=>?_));obtain⟨v,w,e1,l⟩:=l;subst e1;obtain⟨c,f,rfl,M,O⟩:∃c f,us=[c,f]/\RelV v c/\RelV w f:=by
  cases r1 with
  |cons p q=>
   cases q with
   |cons Q T=>
    cases T;exact⟨_,_,rfl,p,Q⟩
 refine cm ?_ (by show 2<=aE;decide);have U:Inv X pins σ H1 {s1 with heap:=s1.heap.push {cls:=.type "tuple",data:=.seq [c,f].toArray}}:=L.kept (t':=s1.toks) λb o e=>ak _ e;rw[hw];refine ag (aq ?_);show wpAny (model X.prog X.w) X.A (do rule "assign.swapped-stores";let items<-unpackItems (.ref s1.heap.objs.size) 2 ao;ad3 [λv=>adI X.env y v,λv=>adI X.env x v] items.reverse;pure Flow.next) _ _ _;refine ag (adB (ag (unpackItems_tuple (items:=#[c,f]) (I.ok.hd C) (adt.new s1.heap _) λz Fc=>?_)));have I3:=U.kept (h':=z) (t':=s1.toks) λb o e=>Fc b o (bn (aD e)) e;show wpAny _ _ (ad3 [λv=>adI X.env y v,λv=>adI X.env x v] [f,c] >>= λ_=>pure Flow.next) _ _ _;refine ag (adA (ae4 (wJ I3 n E (.inl u) O (λs2 I4=>?_) (.inr u))));refine adA (ae4 (wJ I4 n hi (.inl r) M (λs3 B=>aeG (aq ?_)) (.inr r)));rw[List.set_comm _ _ (bU G)] at B;exact⟨_,H1,B,l⟩
end
section
variable {X:Cx} {pos:c7}
end
structure It where
 go:Nat->Hp->Prop
 Sl:Nat->Hp->V->Hp->Prop
 stop:Nat->Hp->Prop
def nO (X:Cx)(pins:List (aj×bS))(H:Hp)(b:aj):Prop:=
 H b=ao/\b≠X.env.locals/\b∉X.fs/\(b∈X.ex\/X.gJ.heap.objs.size<=b)/\(∀x c,X.env.cells.lookup x=aa c->c≠b)/\∀p∈X.pn++pins,p.1≠b
theorem Inv.C6{X:Cx}{pins:List (aj×bS)}{σ:St}{H f:Hp}{s:ai}{b:aj}(I:Inv X pins σ H s)(a:s.heap.objs.size<=b)(hn:f b=ao):nO X pins f b:=by
 refine⟨hn,c9 (bg I.lt a),I.abF a,.inr (aS I.sz a),λx c e z=>?_,λp g z=>?_⟩
 ·obtain⟨v,q⟩:=I.cell x c e;exact absurd (bg q.lt (by rw[z];exact a)) (cu _)
 ·exact absurd (bg (aD (I.pin p g).1) (by rw[z];exact a)) (cu _)
structure Turn(P:aJ)(w:bj)(K:W.Frag)(tg:bh)(J:It)(fp:List aj)(it:aj)(tn:Nat->ar->Prop):Prop where
 mem:it∈fp
 obj:∀i h,tn i h->∀b∈fp,∃o,h.get? b=aa o/\∀v,o.data≠.cell v
 keep:∀i h h',tn i h->(∀b∈fp,∀o,h.get? b=aa o->h'.get? b=aa o)->tn i h'
 item:∀(X:Cx),X.prog=P->X.w=w->X.K=K->X.calm=ah->∀(i:Nat) (pins:List (aj×bS)) (s:ai) (σ:St) (H:Hp) (E:af->ai->Prop),Inv X pins σ H s->(∀b∈fp,nO X pins H b)->tn i s.heap->J.go i H->
  wpAny (model P w) X.A (pyNext (.ref it)) (λr s1=>∃u,r=aa u/\
   wpAny (model P w) X.A (letOwnedTupleGo tg (.ref it) u) (λ_ s2=>∃x H',Inv X pins σ H' s2/\RelV x u/\J.Sl i H x H'/\tn (i+1) s2.heap/\∀b∈fp,H' b=ao) E s1) E s
 done:∀(X:Cx),X.prog=P->X.w=w->X.K=K->X.calm=ah->∀(i:Nat) (pins:List (aj×bS)) (s:ai) (σ:St) (H:Hp) (E:af->ai->Prop),Inv X pins σ H s->(∀b∈fp,nO X pins H b)->tn i s.heap->J.stop i H->
  wpAny (model P w) X.A (pyNext (.ref it)) (λr s1=>r=ao/\Inv X pins σ H s1) E s
 self:∀(A:ba) (i:Nat) (s:ai) (Q:af->ai->Prop) (E:af->ai->Prop),tn i s.heap->Q (.ref it) s->wpAny (model P w) A (adn (.ref it)) Q E s
abbrev TI:=St->Hp->(It->Hp->Prop)->Prop
def PIE (X:Cx)(pins:List (aj×bS))(σ:St)(tg:bh)(R:It->Hp->Prop)(a:af)(s2:ai):Prop:=
 ∃(it:aj) (e:List aj) (f:Nat->ar->Prop) (J:It) (c:Hp),a=.ref it/\Inv X pins σ c s2/\Turn X.prog X.w X.K tg J e it f/\f 0 s2.heap/\(∀b∈e,nO X pins c b)/\R J c
def PI (X:Cx)(tg iter:bh)(wi:TI):Prop:=
 ∀(pins:List (aj×bS)) (s:ai) (σ:St) (H:Hp) (R:It->Hp->Prop),Inv X pins σ H s->wi σ H R->
  wpAny (model X.prog X.w) X.A (eval iter X.env) (λv s1=>wpAny (model X.prog X.w) X.A (adn v) (PIE X pins σ tg R) X.xe s1) X.xe s
theorem Fd{M:ael}{A:ba}{E:af->ai->Prop}{s:ai}{tg:bh}{it:aj}{u:af}{o:bS}{n:String}{b:Array af}{Q:Unit->ai->Prop}(c:s.heap.get? it=aa o)(e:o.cls=.type n)(hd:o.data=.fields b)
(hn:["enumerate","zip","dict_itemiterator","dict_reverseitemiterator","odict_iterator","itertools.zip_longest","itertools.pairwise"].contains n=am)(a:Q () s):wpAny M A (letOwnedTupleGo tg (.ref it) u) Q E s:=by
 unfold letOwnedTupleGo;cases tg<;>first
  |exact aq a
  | (cases u<;>first
    |exact aq a
    | (refine ag (wpAny_load c ?_)
       rw[e,hd];show wpAny M A (if(["enumerate","zip","dict_itemiterator","dict_reverseitemiterator","odict_iterator","itertools.zip_longest","itertools.pairwise"].contains n&&b[0]?==aa (de _))=ah then _ else _) Q E s;rw[if_neg (by intro h;rw[hn,eC] at h;cases h)];exact aq a))
noncomputable def Itl(K:W.Frag)(a:aj):It:=
 ⟨λi H=>∃xs x,pH K H a xs/\xs[i]?=aa x,λi H x b=>b=H/\∀xs,pH K H a xs->xs[i]?=aa x,λi H=>∃xs,pH K H a xs/\xs.length<=i⟩
noncomputable def Itt(K:W.Frag)(a:aj):It:=
 ⟨λi H=>∃xs x,xL K H a xs/\xs[i]?=aa x,λi H x b=>b=H/\∀xs,xL K H a xs->xs[i]?=aa x,λi H=>∃xs,xL K H a xs/\xs.length<=i⟩
noncomputable def Itr(lo:Int)(n:Nat):It:=⟨λi _=>i<n,λi H x a=>a=H/\x=.int (lo+i),λi _=>n<=i⟩
theorem Ma{P:aJ}{w:bj}{K:W.Frag}{tg:bh}(a it:aj):Turn P w K tg (Itl K a) [it] it (λi h=>h.IsListIter it a i) where
 mem:=by simp
 obj:=λi h st b f=>by
  have e:b=it:=by simpa using f
  subst e;obtain⟨o,e,c,d⟩:=st;exact⟨o,e,λv z=>by rw[d] at z;cases z⟩
 keep:=λi h g st k=>st.at λo e=>k it (by simp) o e
 item:=by intro X m hw n L i pins s σ H E I j st q;subst m hw n;obtain⟨xs,x,l,r⟩:=q;obtain⟨g8,y,p,N⟩:=I.list l;obtain⟨u,O,Q⟩:=y.get r;obtain⟨A,B,T,C,G,J⟩:=j it (by simp);refine wpAny_pyNext_list_item st p.isList (x:=u) (by simpa using O) λg M sb=>?_;have U:Inv X pins σ H {s with heap:=g}:=I.turned (t':=s.toks) (λb o f e=>(sb.2 b f).trans e) A B C G J;obtain⟨o,e,c,d⟩:=id M;exact⟨u,rfl,Fd (s:={s with heap:=g}) e c d (by decide) ⟨x,H,U,Q,⟨rfl,λys hy=>by rw[I.Fa hy l];exact r⟩,M,λb f=>(j b f).1⟩⟩
 done:=by intro X m hw n L i pins s σ H E I j st q;subst m hw n;obtain⟨xs,l,r⟩:=q;obtain⟨g8,y,p,N⟩:=I.list l;obtain⟨A,B,T,C,G,J⟩:=j it (by simp);have hl:=y.length;exact wpAny_pyNext_list_end (I.ok.hd L) st p.isList (by simp;omega) λg eb=>⟨rfl,I.turned (t':=s.toks) (λb o f e=>eb b o f e) A B C G J⟩
 self:=λ_ _ _ _ _ st h=>wpAny_pyIter_listiter st h
theorem HS{P:aJ}{w:bj}{K:W.Frag}{tg:bh}(a it:aj):Turn P w K tg (Itt K a) [it] it (λi h=>h.IsTupleIter it a i) where
 mem:=by simp
 obj:=λi h st b f=>by
  have e:b=it:=by simpa using f
  subst e;obtain⟨o,e,c,d⟩:=st;exact⟨o,e,λv z=>by rw[d] at z;cases z⟩
 keep:=λi h g st k=>st.at λo e=>k it (by simp) o e
 item:=by intro X m hw n L i pins s σ H E I j st q;subst m hw n;obtain⟨xs,x,l,r⟩:=q;obtain⟨g8,y,p,N⟩:=I.tuple l;obtain⟨u,O,Q⟩:=y.get r;obtain⟨A,B,T,C,G,J⟩:=j it (by simp);refine wpAny_pyNext_tuple_item st (show s.heap.IsTuple a g8.toArray from p) (x:=u) (by simpa using O) λg M sb=>?_;have U:Inv X pins σ H {s with heap:=g}:=I.turned (t':=s.toks) (λb o f e=>(sb.2 b f).trans e) A B C G J;obtain⟨o,e,c,d⟩:=id M;exact⟨u,rfl,Fd (s:={s with heap:=g}) e c d (by decide) ⟨x,H,U,Q,⟨rfl,λys hy=>by rw[I.Ca hy l];exact r⟩,M,λb f=>(j b f).1⟩⟩
 done:=by intro X m hw n L i pins s σ H E I j st q;subst m hw n;obtain⟨xs,l,r⟩:=q;obtain⟨g8,y,p,N⟩:=I.tuple l;obtain⟨A,B,T,C,G,J⟩:=j it (by simp);have hl:=y.length;exact wpAny_pyNext_tuple_end (I.ok.hd L) st (show s.heap.IsTuple a g8.toArray from p) (by simp;omega) λg eb=>⟨rfl,I.turned (t':=s.toks) (λb o f e=>eb b o f e) A B C G J⟩
 self:=λ_ _ _ _ _ st h=>wpAny_pyIter_tupleiter st h
theorem HU{P:aJ}{w:bj}{K:W.Frag}{tg:bh}(it:aj)(lo:Int)(n:Nat):Turn P w K tg (Itr lo n) [it] it (λi h=>IsRangeIter h it (lo+(i:Nat)*1) ((n:Int)- (i:Nat)) 1) where
 mem:=by simp
 obj:=λi h st b a=>by
  have e:b=it:=by simpa using a
  subst e;exact⟨_,st,λv z=>by have A:Data.fields _=Data.cell v:=z;cases A⟩
 keep:=λi h c st k=>k it (by simp) _ st
 item:=by intro X g hw j l i pins s σ H E I f st m;subst g hw j;obtain⟨p,q,B,r,u,x⟩:=f it (by simp);have W:=adR.range (prog:=X.prog) (w:=X.w) (I.ok.hd l) it lo 1 n;refine W.item i s _ _ m st λv c tk C y G=>?_;obtain⟨t,rfl⟩:=C;have J:Inv X pins σ H {s with heap:=c,toks:=tk}:=I.turned (λb o a e=>G b o (by simpa using a) e) p q r u x;refine⟨_,rfl,Fd (s:={s with heap:=c,toks:=tk}) (n:="range_iterator") y rfl rfl (by decide) ⟨.int (lo+i),H,J,⟨t,?_⟩,⟨rfl,rfl⟩,y,λb a=>(f b a).1⟩⟩;rw[Int.mul_one]
 done:=by intro X g hw j l i pins s σ H E I f st m;subst g hw j;obtain⟨p,q,B,r,u,x⟩:=f it (by simp);exact wpAny_pyNext_range_end (I.ok.hd l) st (by have:n<=i:=m;omega) λc L=>⟨rfl,I.turned (t':=s.toks) (λb o a e=>L b o a e) p q r u x⟩
 self:=λ_ _ _ _ _ st h=>wpAny_pyIter_rangeiter st h
end L2
namespace L2
open PySem PySem.Spec PyProof.Rows
section
variable {X:Cx} {tg:bh}
theorem Oe{pins:List (aj×bS)}{σ:St}{H:Hp}{s:ai}{R:It->Hp->Prop}{E:af->ai->Prop}{lo hi:Int}{t u v:aew}{tk:Nat}(I:Inv X pins σ H s)(c:-(2^62)<=lo)(f:lo<2^62)(g:-(2^62)<=hi)(h:hi<2^62)
(q:R (Itr lo (hi- lo).toNat) H):wpAny (model X.prog X.w) X.A (adn (.ref s.heap.objs.size)) (PIE X pins σ tg R) E {s with heap:=s.heap.push {cls:=.type "range",data:=.fields #[.int lo t,.int hi u,.int 1 v]},toks:=tk}:=by
 refine wpAny_pyIter_range (IsRange.new ..) (small_one c f g h) ?_;have a:Inv X pins σ H {s with heap:=s.heap.push {cls:=.type "range",data:=.fields #[.int lo t,.int hi u,.int 1 v]},toks:=tk}:=I.kept λb o e=>ak _ e;refine⟨(s.heap.push {cls:=.type "range",data:=.fields #[.int lo t,.int hi u,.int 1 v]}).objs.size,[(s.heap.push {cls:=.type "range",data:=.fields #[.int lo t,.int hi u,.int 1 v]}).objs.size],_,_,H,rfl,
  a.kept (t':=tk) λb o e=>ak _ e,HU _ lo (hi- lo).toNat,?_,λb i=>?_,q⟩
 ·have e1:lo+((0:Nat):Int)*1=lo:=by simp
  have e2:(((hi- lo).toNat:Nat):Int)- ((0:Nat):Int)=bt.Range.rangeSize lo hi 1:=by rw[rangeSize_one];split<;>omega
  show IsRangeIter _ _ (lo+((0:Nat):Int)*1) ((((hi- lo).toNat:Nat):Int)- ((0:Nat):Int)) 1;rw[e1,e2];exact aQ _ rfl
 ·have e:b=(s.heap.push {cls:=.type "range",data:=.fields #[.int lo t,.int hi u,.int 1 v]}).objs.size:=by simpa using i
  subst e;exact a.C6 (bf _) (a.iJ.fresh (bf _))
noncomputable def Zm(a:TA):TI:=λσ H R=>a σ H λb H1=>∃j:Int,b=[.int j]/\-(2^62)<=j/\j<2^62/\R (Itr 0 j.toNat) H1
theorem Mb{a:bh}{c:TA}{p pos:c7}(f:Gl X "range")(hm:X.mg "range"=ao)(ha:PA X [a] c)(g:aM [a] X.env=[(am,eval a X.env)]:=by rfl):PI X tg (.Call (.Name "range" p) [a] [] pos) (Zm c):=by
 intro pins s σ H R I h;refine Call_ (xJ I f hm boot_range (di (jz (ha pos pins s σ H _ I h) λus s1 ⟨n,H1,i,r1,b⟩=>?_) g rfl));obtain⟨j,e,b,l,q⟩:=b;subst e;cases r1 with
 |cons r m=>
  cases m;obtain⟨t,rfl⟩:=r;exact call_range_1 (Oe i (by omega) (by omega) b l (by simpa using q))
noncomputable def abR(wi:TI)(g:TG)(tb:TS):TS:=λD σ H=>wi σ H λJ H1=>∃W:Nat->Nat->St->Hp->Prop,(∃m,W 0 m σ H1)/\∀i m σ H,W i m σ H->
 (J.stop i H/\D.nx σ H)\/(J.go i H/\∃N:St->Hp->Prop,(∀b a,N b a->∃c,c<m/\W (i+1) c b a)/\∀x a,J.Sl i H x a->g x σ a λe f=>tb {D with nx:=N,ct:=N,bk:=D.nx} e f)
noncomputable def xN(a:List aj)(h:ar):List (aj×bS):=a.filterMap λb=>(h.get? b).map λo=>(b,o)
theorem mH{a:List aj}{h:ar}{b:aj}{o:bS}(c:b∈a)(e:h.get? b=aa o):(b,o)∈xN a h:=List.mem_filterMap.mpr ⟨b,c,by rw[e];rfl⟩
theorem Mc{a:List aj}{h:ar}{p:aj×bS}(c:p∈xN a h):p.1∈a/\h.get? p.1=aa p.2:=by
 obtain⟨b,f,e⟩:=List.mem_filterMap.mp c;cases q:h.get? b with
 |none=>rw[q] at e;cases e
 |some o=>
  rw[q] at e;have e':(b,o)=p:=bq e;subst e';exact⟨f,q⟩
theorem Inv.pinned{pins:List (aj×bS)}{σ:St}{H:Hp}{s:ai}{a:List aj}(I:Inv X pins σ H s)(f:∀b∈a,nO X pins H b)(g:∀b∈a,∃o,s.heap.get? b=aa o/\∀v,o.data≠.cell v):Inv X (pins++xN a s.heap) σ H s:=
 I.Ku λp h=>(bp.mp h).elim (λz=>I.pin p (bu _ z)) λz=>by obtain⟨c,e⟩:=Mc z;obtain⟨i,j,l,_⟩:=f p.1 c;obtain⟨o,e',d⟩:=g p.1 c;rw[e] at e';cases e';exact⟨e,i,j,l,d⟩
theorem Inv.sO{pins pl:List (aj×bS)}{σ:St}{H:Hp}{s:ai}(I:Inv X (pins++pl) σ H s):Inv X pins σ H s:=I.Ku λp a=>I.pin p (bu _ (b8 _ a))
theorem Og{iter:bh}{body:List bH}{wi:TI}{g:TG}{tb:TS}{pos:c7}(z:act (model X.prog X.w) X.A X.env X.xe)(hc:X.calm=ah)(hi:PI X tg iter wi)(hg:PG X tg g)(a:wA X body tb)
(hs:∀x,cy iter X.env x=pure x:=by intro _;rfl):PS X (.For tg iter body [] pos) (abR wi g tb):=by
 intro pins s σ H D I h;refine wpAny_For (jz (hi pins s σ H _ I h) λv s1 h1=>jz h1 λitv s2 h2=>?_) hs;obtain⟨it,B,tn,J,H2,e,I2,T,Wm,f2,W,⟨m0,w0⟩,turn⟩:=h2;subst e;have O:∀{p:Hp},(∀b∈B,p b=ao)->∀b∈B,nO X pins p b:=λhn b a=>⟨hn b a,(f2 b a).2⟩;refine codeAny_forLoop_any (λn s'=>∃i C p,Inv X pins C p s'/\tn i s'.heap/\(∀b∈B,p b=ao)/\W i n C p) ?_ m0 ⟨0,σ,H2,I2,Wm,λb a=>(f2 b a).1,w0⟩
 rintro n s3 ⟨i,E,M,I3,YJ,G,w3⟩
 rcases turn i n E M w3 with⟨stop,qn⟩|⟨go,N,hN,step⟩
 ·refine fE z (jz (T.done X rfl rfl rfl hc i pins s3 E M X.xe I3 (O G) YJ stop) λr s4 ⟨Q,I4⟩=>?_);subst Q;exact adm ⟨E,M,I4,qn⟩
 ·refine fE z (jz (T.item X rfl rfl rfl hc i pins s3 E M X.xe I3 (O G) YJ go) λr s4 ⟨u,Q,h4⟩=>?_);subst Q;refine fE z (jz h4 λ_ s5 ⟨x,H5,I5,r5,y5,y,U⟩=>?_);have Y:=I5.pinned (O U) (T.obj _ _ y);refine fE z (jz (hg _ s5 E H5 x u _ Y r5 (step x H5 y5)) λ_ s6 ⟨Md,H6,I6,q6⟩=>?_);refine fE z (jz (a _ s6 Md H6 _ I6 q6) λf s7 q=>?_);have again:∀{c:St} {j:Hp},Inv X (pins++xN B s5.heap) c j s7->N c j->∃m,m<n/\∃i C p,Inv X pins C p s7/\tn i s7.heap/\(∀b∈B,p b=ao)/\W i m C p:=λ{c j} l L=>by obtain⟨m',hm,w7⟩:=hN c j L;refine⟨m',hm,i+1,c,j,l.sO,T.keep _ _ _ y λb a o e=>(l.pin (b,o) (bu _ (bu _ (mH a e)))).1,λb a=>?_,w7⟩;obtain⟨o,e,d⟩:=T.obj _ _ y b a;exact(l.pin (b,o) (bu _ (bu _ (mH a e)))).2.1
  cases f with
  |next=>obtain⟨c,j,l,L⟩:=q;exact again l L
  |cont=>obtain⟨c,j,l,L⟩:=q;exact again l L
  |brk=>obtain⟨c,j,l,q⟩:=q;exact⟨c,j,l.sO,q⟩
  |ret v=>obtain⟨x7,c,j,l,r7,q⟩:=q;exact⟨x7,c,j,l.sO,r7,q⟩
end
end L2
namespace L2
open PySem PySem.Spec PyProof.Rows
abbrev R2:=V->V->Hp->VK->Prop
def sH (X:Cx)(f:af->af->aey af)(r:R2):Prop:=
 ∀(pins:List (aj×bS)) (s:ai) (σ:St) (H:Hp) (x y:V) (v u:af) (Q:VK),Inv X pins σ H s->RelV x v->RelV y u->r x y H Q->
  wpAny (model X.prog X.w) X.A (f v u) (EP X pins σ Q) X.xe s
def UnR (X:Cx)(f:af->aey af)(r:V->Hp->VK->Prop):Prop:=
 ∀(pins:List (aj×bS)) (s:ai) (σ:St) (H:Hp) (x:V) (v:af) (Q:VK),Inv X pins σ H s->RelV x v->r x H Q->
  wpAny (model X.prog X.w) X.A (f v) (EP X pins σ Q) X.xe s
def nJ (X:Cx)(f:af)(r:List V->Hp->VK->Prop):Prop:=
 ∀(pins:List (aj×bS)) (s:ai) (σ:St) (H:Hp) (xs:List V) (us:List af) (Q:VK),Inv X pins σ H s->Vals xs us->r xs H Q->
  wpAny (model X.prog X.w) X.A (call f us) (EP X pins σ Q) X.xe s
noncomputable def Zn(r:R2)(a tb:TE):TE:=λσ H Q=>a σ H λx H1=>tb σ H1 λy b=>r x y b Q
noncomputable def tUn(r:V->Hp->VK->Prop)(a:TE):TE:=λσ H Q=>a σ H λx H1=>r x H1 Q
noncomputable def rI(C:Int->Int->Prop)(g:Int->Int->V):R2:=λx y H Q=>∃i j,x=.int i/\y=.int j/\C i j/\Q (g i j) H
noncomputable def Wn(g:Int->Int->V):R2:=λx y H Q=>∃i j,x=.int i/\y=.int j/\Q (g i j) H
def rU (g:Int->V):V->Hp->VK->Prop:=λx H Q=>∃i,x=.int i/\Q (g i) H
section
variable {X:Cx} {a b c:bh} {ta tb tc:TE} {pos:c7}
theorem Wo(ha:PE X a ta)(g:PE X b tb){pins:List (aj×bS)}{s:ai}{σ:St}{H:Hp}{R:V->V->Hp->Prop}(I:Inv X pins σ H s)
(h:ta σ H λx H1=>tb σ H1 λy e=>R x y e){Q:af->ai->Prop}{f:af->af->aey af}
(i:∀v u s2 x y e,Inv X pins σ e s2->RelV x v->RelV y u->R x y e->wpAny (model X.prog X.w) X.A (f v u) Q X.xe s2):
  wpAny (model X.prog X.w) X.A (eval a X.env) (λv j=>wpAny (model X.prog X.w) X.A (eval b X.env) (λu l=>wpAny (model X.prog X.w) X.A (f v u) Q X.xe l) X.xe j) X.xe s:=by refine jz (ha pins s σ H _ I h) λv s1 ⟨x,H1,m,r1,n⟩=>?_;refine jz (g pins s1 σ H1 _ m n) λu s2 ⟨y,e,o,r2,p⟩=>?_;exact i v u s2 x y e o r1 r2 p
theorem Zo{op:adJ}{r:R2}(e:sH X (binaryOp op) r)(ha:PE X a ta)(f:PE X b tb):PE X (.BinOp a op b pos) (Zn r ta tb):=by intro pins s σ H Q I h;exact wpAny_BinOp (Wo ha f I h λv u s2 x y g i j l q=>e pins s2 σ g x y v u Q i j l q)
theorem Zp{op:UnaryOp}{r:V->Hp->VK->Prop}(e:UnR X (unaryOp op) r)(ha:PE X a ta):PE X (.UnaryOp op a pos) (tUn r ta):=by intro pins s σ H Q I h;exact UnaryOp_ (jz (ha pins s σ H _ I h) λv s1 ⟨x,H1,f,r1,g⟩=>e pins s1 σ H1 x v Q f r1 g)
theorem opI{f:af->af->aey af}{C:Int->Int->Prop}{g:Int->Int->Int}
(rule:∀(i j:Int) (t u:aew) (s:ai) (Q:af->ai->Prop) (E:af->ai->Prop),C i j->Q (.int (g i j) s.toks) {s with toks:=s.toks+1}->wpAny (model X.prog X.w) X.A (f (.int i t) (.int j u)) Q E s):
  sH X f (rI C λi j=>.int (g i j)):=by intro pins s σ H x y v u Q I e l h;obtain⟨i,j,rfl,rfl,m,q⟩:=h;obtain⟨t,rfl⟩:=e;obtain⟨n,rfl⟩:=l;exact rule i j t n s _ _ m ⟨.int (g i j),H,I.tok _,⟨_,rfl⟩,q⟩
theorem Zq{f:af->af->aey af}{g:Int->Int->Int}
(rule:∀(i j:Int) (t u:aew) (s:ai) (Q:af->ai->Prop) (E:af->ai->Prop),Q (.int (g i j) s.toks) {s with toks:=s.toks+1}->wpAny (model X.prog X.w) X.A (f (.int i t) (.int j u)) Q E s):
  sH X f (Wn λi j=>.int (g i j)):=by intro pins s σ H x y v u Q I e l h;obtain⟨i,j,rfl,rfl,q⟩:=h;obtain⟨t,rfl⟩:=e;obtain⟨m,rfl⟩:=l;exact rule i j t m s _ _ ⟨.int (g i j),H,I.tok _,⟨_,rfl⟩,q⟩
theorem Wp{f:af->af->aey af}{g:Int->Int->Bool}
(rule:∀(i j:Int) (t u:aew) (s:ai) (Q:af->ai->Prop) (E:af->ai->Prop),Q (.bool (g i j)) s->wpAny (model X.prog X.w) X.A (f (.int i t) (.int j u)) Q E s):
  sH X f (Wn λi j=>.bl (g i j)):=by intro pins s σ H x y v u Q I e l h;obtain⟨i,j,rfl,rfl,q⟩:=h;obtain⟨t,rfl⟩:=e;obtain⟨m,rfl⟩:=l;exact rule i j t m s _ _ ⟨.bl (g i j),H,I,rfl,q⟩
def i9 (i j:Int):Prop:=0<j/\j<1073741824
def Me (i j:Int):Prop:=(-(2^64)<i/\i<2^64)\/(-(2^64)<j/\j<2^64)
theorem Me.ok{i j:Int}(h:Me i j):IntMulOk i j:=by
 rcases h with⟨e,f⟩|⟨e,f⟩
 ·exact .of_left (afk e f)
 ·exact .of_right (afk e f)
theorem Wq:sH X (binaryOp .Add) (Wn λi j=>.int (i+j)):=Zq λ_ _ _ _ _ _ _ q=>add_int q
theorem Wr:sH X (binaryOp .Sub) (Wn λi j=>.int (i- j)):=Zq λ_ _ _ _ _ _ _ q=>sub_int q
theorem Ws:sH X (binaryOp .Mult) (rI Me λi j=>.int (i*j)):=opI λ_ _ _ _ _ _ _ e q=>mul_int q e.ok
theorem Sm:sH X (binaryOp .FloorDiv) (rI i9 λi j=>.int (i/j)):=opI λi j _ _ _ _ _ e q=>by have f:(0:Int)<j:=e.1;have g:j<1073741824:=e.2;exact floordiv_int (by omega) (by rw[Int.fdiv_eq_ediv_of_nonneg i (by omega)];exact q) (.inl (PyProof.noPylong_small (by omega)))
theorem Wt:sH X (binaryOp .Mod) (rI (λ_ j=>0<j) λi j=>.int (i%j)):=opI λi j _ _ _ _ _ e q=>by have f:(0:Int)<j:=e;exact mod_int' (by omega) (by rw[Int.fmod_eq_emod_of_nonneg i (by omega)];exact q)
theorem unI{f:af->aey af}{g:Int->Int}
(rule:∀(i:Int) (t:aew) (s:ai) (Q:af->ai->Prop) (E:af->ai->Prop),Q (.int (g i) s.toks) {s with toks:=s.toks+1}->wpAny (model X.prog X.w) X.A (f (.int i t)) Q E s):
  UnR X f (rU λi=>.int (g i)):=by intro pins s σ H x v Q I e h;obtain⟨i,rfl,q⟩:=h;obtain⟨t,rfl⟩:=e;exact rule i t s _ _ ⟨.int (g i),H,I.tok _,⟨_,rfl⟩,q⟩
theorem Wu:UnR X (unaryOp .USub) (rU λi=>.int (-i)):=unI λ_ _ _ _ _ q=>neg_int q
end
noncomputable def Zr:V->V->Bool
 |.non,.non=>ah|.non,.int _=>ah|.int _,.non=>ah|.non,.bl _=>ah|.bl _,.non=>ah|.non,.str _=>ah|.str _,.non=>ah
 |.int _,.int _=>ah|.bl _,.bl _=>ah|.str _,.str _=>ah|.NR _,.NR _=>ah
 |.int _,.str _=>ah|.str _,.int _=>ah|.bl _,.str _=>ah|.str _,.bl _=>ah
 |_,_=>am
noncomputable def rEq:R2:=λx y H Q=>Zr x y=ah/\Q (.bl (decide (x=y))) H
noncomputable def rNe:R2:=λx y H Q=>Zr x y=ah/\Q (.bl (!decide (x=y))) H
theorem C7{i j:Int}:decide (V.int i=V.int j)=(i==j):=by rw[eW];simp
theorem Oi{i j:Bool}:decide (V.bl i=V.bl j)=(i==j):=by rw[eW];simp
theorem C8{i j:ay}:decide (V.str i=V.str j)=(i==j):=by rw[eW];simp
theorem Kz{i j:Array UInt8}:decide (V.NR i=V.NR j)=(i.toList==j.toList):=by rw[eW];cases i;cases j;simp
section
variable {X:Cx} {a b c:bh} {ta tb tc:TE} {pos:c7}
theorem iG{pins:List (aj×bS)}{σ:St}{H:Hp}{s:ai}{Q:VK}{k k':Bool}(I:Inv X pins σ H s)(q:Q (.bl k) H)(e:k=k'):EP X pins σ Q (.bool k') s:=by subst e;exact⟨.bl k,H,I,rfl,q⟩
theorem Vh:sH X (compareOp .Eq) rEq:=by
 intro pins s σ H x y v u Q I l e h;obtain⟨g,q⟩:=h;cases x with
 |non=>
  cases l;cases y with
  |non=>cases e;exact PySem.EqNone.eq_none_none (iG I q (by simp))
  |bl j=>cases e;exact PySem.EqNone.eq_none_bool (iG I q (by simp))
  |int j=>obtain⟨f,rfl⟩:=e;exact PySem.EqNone.eq_none_int (iG I q (by simp))
  |str j=>obtain⟨f,rfl⟩:=e;exact PySem.EqNone.eq_none_str (iG I q (by simp))
  |_=>exact absurd (show am=ah from g) au
 |bl i=>
  cases l;cases y with
  |non=>cases e;exact PySem.EqNone.eq_bool_none (iG I q (by simp))
  |bl j=>cases e;exact eq_bool (iG I q Oi)
  |str j=>obtain⟨f,rfl⟩:=e;exact PySem.EqMixed.eq_bool_str (iG I q (by simp))
  |_=>exact absurd (show am=ah from g) au
 |int i=>
  obtain⟨t,rfl⟩:=l;cases y with
  |non=>cases e;exact PySem.EqNone.eq_int_none (iG I q (by simp))
  |int j=>obtain⟨f,rfl⟩:=e;exact eq_int (iG I q C7)
  |str j=>obtain⟨f,rfl⟩:=e;exact PySem.EqMixed.eq_int_str (iG I q (by simp))
  |_=>exact absurd (show am=ah from g) au
 |str i=>
  obtain⟨t,rfl⟩:=l;cases y with
  |non=>cases e;exact PySem.EqNone.eq_str_none (iG I q (by simp))
  |bl j=>cases e;exact PySem.EqMixed.eq_str_bool (iG I q (by simp))
  |int j=>obtain⟨f,rfl⟩:=e;exact PySem.EqMixed.eq_str_int (iG I q (by simp))
  |str j=>obtain⟨f,rfl⟩:=e;exact eq_str (iG I q C8)
  |_=>exact absurd (show am=ah from g) au
 |NR i=>
  obtain⟨t,rfl⟩:=l;cases y with
  |NR j=>obtain⟨f,rfl⟩:=e;exact W.eq_bytes (iG I q Kz)
  |_=>exact absurd (show am=ah from g) au
 |_=>cases y<;>exact absurd (show am=ah from g) au
theorem Vi:sH X (compareOp .NotEq) rNe:=by
 intro pins s σ H x y v u Q I l e h;obtain⟨g,q⟩:=h;cases x with
 |non=>
  cases l;cases y with
  |non=>cases e;exact PySem.EqNone.ne_none_none (iG I q (by simp))
  |bl j=>cases e;exact PySem.EqNone.ne_none_bool (iG I q (by simp))
  |int j=>obtain⟨f,rfl⟩:=e;exact PySem.EqNone.ne_none_int (iG I q (by simp))
  |str j=>obtain⟨f,rfl⟩:=e;exact PySem.EqNone.ne_none_str (iG I q (by simp))
  |_=>exact absurd (show am=ah from g) au
 |bl i=>
  cases l;cases y with
  |non=>cases e;exact PySem.EqNone.ne_bool_none (iG I q (by simp))
  |bl j=>cases e;exact ne_bool (iG I q (congrArg not Oi))
  |str j=>obtain⟨f,rfl⟩:=e;exact PySem.EqMixed.ne_bool_str (iG I q (by simp))
  |_=>exact absurd (show am=ah from g) au
 |int i=>
  obtain⟨t,rfl⟩:=l;cases y with
  |non=>cases e;exact PySem.EqNone.ne_int_none (iG I q (by simp))
  |int j=>obtain⟨f,rfl⟩:=e;exact ne_int (iG I q (congrArg not C7))
  |str j=>obtain⟨f,rfl⟩:=e;exact PySem.EqMixed.ne_int_str (iG I q (by simp))
  |_=>exact absurd (show am=ah from g) au
 |str i=>
  obtain⟨t,rfl⟩:=l;cases y with
  |non=>cases e;exact PySem.EqNone.ne_str_none (iG I q (by simp))
  |bl j=>cases e;exact PySem.EqMixed.ne_str_bool (iG I q (by simp))
  |int j=>obtain⟨f,rfl⟩:=e;exact PySem.EqMixed.ne_str_int (iG I q (by simp))
  |str j=>obtain⟨f,rfl⟩:=e;exact ne_str (iG I q (congrArg not C8))
  |_=>exact absurd (show am=ah from g) au
 |NR i=>
  obtain⟨t,rfl⟩:=l;cases y with
  |NR j=>obtain⟨f,rfl⟩:=e;exact W.ne_bytes (iG I q (congrArg not Kz))
  |_=>exact absurd (show am=ah from g) au
 |_=>cases y<;>exact absurd (show am=ah from g) au
theorem Zt:sH X (compareOp .Lt) (Wn λi j=>.bl (decide (i<j))):=Wp λ_ _ _ _ _ _ _ q=>lt_int q
theorem Zu:sH X (compareOp .LtE) (Wn λi j=>.bl (decide (i<=j))):=Wp λ_ _ _ _ _ _ _ q=>le_int q
theorem Zv:sH X (compareOp .Gt) (Wn λi j=>.bl (decide (j<i))):=Wp λ_ _ _ _ _ _ _ q=>gt_int q
theorem Mf:sH X (compareOp .Lt) (λx y H Q=>∃i j,x=.str i/\y=.str j/\Q (.bl (decide (i.cps.toList<j.cps.toList))) H):=by intro pins s σ H x y v u Q I e f h;obtain⟨i,j,rfl,rfl,q⟩:=h;obtain⟨t,rfl⟩:=e;obtain⟨g,rfl⟩:=f;exact lt_str (iG I q rfl)
theorem Mg:sH X (compareOp .In) (λx y H Q=>∃i j,x=.str i/\y=.str j/\Q (.bl (!(dQ j i 0 j.length 1).isEmpty)) H):=by intro pins s σ H x y v u Q I e f h;obtain⟨i,j,rfl,rfl,q⟩:=h;obtain⟨t,rfl⟩:=e;obtain⟨g,rfl⟩:=f;exact in_str (iG I q rfl)
theorem Wv:sH X (compareOp .Is) (λx y H Q=>y=.non/\Q (.bl (decide (x=.non))) H):=by
 intro pins s σ H x y v u Q I e f h;obtain⟨rfl,q⟩:=h;cases f;refine is_none_gen (iG I q ?_);cases x<;>first
  | (cases e;rfl)
  | (obtain⟨t,rfl⟩:=e;rfl)
theorem C9:sH X (compareOp .NotIn) (λx y H Q=>∃i j,x=.str i/\y=.str j/\Q (.bl (!(!(dQ j i 0 j.length 1).isEmpty))) H):=by intro pins s σ H x y v u Q I e f h;obtain⟨i,j,rfl,rfl,q⟩:=h;obtain⟨t,rfl⟩:=e;obtain⟨g,rfl⟩:=f;exact notIn_str (iG I q rfl)
theorem Sn{op:adw}{r:R2}(e:sH X (compareOp op) r)(ha:PE X a ta)(f:PE X b tb)(hm:adx op b=am):PE X (.Compare a [op] [b] pos) (Zn r ta tb):=by intro pins s σ H Q I h;exact wpAny_Compare1 (Wo ha f I h λv u s2 x y g i j l q=>e pins s2 σ g x y v u Q i j l q) hm
noncomputable def Vj(t:TE):TT:=λσ H Q=>t σ H λx e=>∃k,x=.bl k/\Q k e
theorem So{op:adw}{r:R2}(f:sH X (compareOp op) r)(ha:PE X a ta)(g:PE X b tb)(hm:adx op b=am):PT X (.Compare a [op] [b] pos) (Vj (Zn r ta tb)):=by
 intro pins s σ H Q I h;refine wpAny_isTrue_Compare1 (jz (ha pins s σ H _ I h) λv s1 ⟨x,H1,i,r1,j⟩=>jz (g pins s1 σ H1 _ i j) λu s2 ⟨y,l,m,r2,n⟩=>
  jz (f pins s2 σ l x y v u _ m r1 r2 n) λc s3 ⟨z,o,p,q,k,e,w⟩=>?_) hm
 subst e;cases q;exact ck ⟨o,p,w⟩
noncomputable def HV(r f:R2)(ta tb tc:TE):TE:=λσ H Q=>ta σ H λx H1=>tb σ H1 λy g=>r x y g λz e=>∃k,z=.bl k/\
 (if k=ah then tc σ e λh i=>f y h i Q else Q (.bl am) e)
theorem Oj{op f:adw}{r g:R2}(m:sH X (compareOp op) r)(n:sH X (compareOp f) g)(ha:PE X a ta)(o:PE X b tb)(p:PE X c tc)
(hm:ad6 [op,f] [b,c]=am:=by with_unfolding_all rfl):PE X (.Compare a [op,f] [b,c] pos) (HV r g ta tb tc):=by
 intro pins s σ H Q I h;refine Compare_chain (jz (ha pins s σ H _ I h) λv s1 ⟨x,H1,q,r1,w⟩=>chain_link (jz (o pins s1 σ H1 _ q w) λu s2 ⟨y,A,B,r2,C⟩=>
  jz (m pins s2 σ A x y v u _ B r1 r2 C) λd s3 ⟨z,i,j,E,k,e,l⟩=>?_)) hm
 subst e;cases E;refine ck ?_;cases k with
 |false=>exact ite_ff ⟨.bl am,i,j,rfl,l⟩
 |true=>exact ite_tt (chain_last (jz (p pins s3 σ i _ j l) λG J ⟨L,M,N,O,T⟩=>n pins J σ M y L u G Q N r2 O T))
theorem Ol{op f:adw}{r g:R2}(m:sH X (compareOp op) r)(n:sH X (compareOp f) g)(ha:PE X a ta)(o:PE X b tb)(p:PE X c tc)
(hm:ad6 [op,f] [b,c]=am:=by with_unfolding_all rfl):PT X (.Compare a [op,f] [b,c] pos) (Vj (HV r g ta tb tc)):=by
 intro pins s σ H Q I h;refine isTrue_chain (jz (ha pins s σ H _ I h) λv s1 ⟨x,H1,q,r1,w⟩=>test_link (jz (o pins s1 σ H1 _ q w) λu s2 ⟨y,A,B,r2,C⟩=>
  jz (m pins s2 σ A x y v u _ B r1 r2 C) λd s3 ⟨z,i,j,E,k,e,l⟩=>?_)) hm
 subst e;cases E;refine ck ?_;cases k with
 |false=>
  obtain⟨k',e',G⟩:=l;cases e';exact ite_ff ⟨i,j,G⟩
 |true=>
  refine ite_tt (test_last (jz (p pins s3 σ i _ j l) λJ L ⟨M,N,O,T,U⟩=>jz (n pins L σ N y M u J _ O r2 T U) λd' s5 ⟨z2,Y,I5,r5,k2,e2,q5⟩=>?_));subst e2;cases r5;exact ck ⟨Y,I5,q5⟩
theorem xO:(aE:Nat)<2^63:=by rw[gb];decide
theorem HW:sH X (binaryOp .Add) (λx y H Q=>∃i j,x=.str i/\y=.str j/\i.length+j.length<=aE/\Q (.str (i++j)) H):=by intro pins s σ H x y v u Q I e f h;obtain⟨i,j,rfl,rfl,g,q⟩:=h;obtain⟨t,rfl⟩:=e;obtain⟨l,rfl⟩:=f;exact add_str (λl tk=>⟨.str (i++j),H,I.tok _,⟨_,rfl⟩,q⟩) g
theorem vals1{x:V}{us:List af}(r:Vals [x] us):∃u,us=[u]/\RelV x u:=by
 cases r with
 |cons r1 r2=>cases r2;exact⟨_,rfl,r1⟩
theorem vals2{x y:V}{us:List af}(r:Vals [x,y] us):∃u e,us=[u,e]/\RelV x u/\RelV y e:=by
 cases r with
 |cons r1 r2=>
  cases r2 with
  |cons f g=>cases g;exact⟨_,_,rfl,r1,f⟩
end
end L2
namespace L2
open PySem PySem.Spec PyProof.Rows
structure HX(h:ar)(x dx C:aj)(mA:ay->Option af):Prop where
 obj:h.get? x=aa (W.instObj C dx)
 ns:h.Ns1 dx mA
 ne:dx≠x
theorem Cd{h:ar}{c:aj}{f:ay->Option af}(n:h.Ns1 c f):∃od,h.get? c=aa od/\∀name,W.lookIn name od=aa (f name):=by
 obtain⟨o,es,m,g,hd,i,_,hm⟩:=n;refine⟨o,g,λname=>?_⟩;have e:=hm name;unfold nsFind ae5 at e;rw[<-Array.find?_toList] at e;unfold W.lookIn;rw[hd];dsimp only;split
 ·rename_i y q;rw[q] at e;exact congrArg aa e
 ·rename_i q;rw[q] at e;have a:es.toList.any (·.refKey)=am:=by rw[List.any_eq_false];intro y j;obtain⟨z,t,b⟩:=i y (Array.mem_toList_iff.mp j);simp[aeV.refKey,b]
  have l:¬es.toList.any (·.refKey)=ah:=by rw[a];exact au
  rw[if_neg l];exact congrArg aa e
theorem HX.look{h:ar}{x a C:aj}{b:ay->Option af}(I:HX h x a C b):∃od,W.InstAt h x (W.instObj C a) C (aa od)/\∀name,W.lookIn name od=aa (b name):=
 let⟨od,c,e⟩:=Cd I.ns
 ⟨od,⟨I.obj,rfl,rfl,c⟩,e⟩
section
variable {prog:aJ} {w:bj} {A:ba} {E:af->ai->Prop} {s:ai} {K:W.Frag} {x dx C f:aj} {mA:ay->Option af} {name:ay} {v:af}
theorem qV{expr:Bool}{Q:af->ai->Prop}(X:K.In s.heap)(I:HX s.heap x dx C mA)(b:W.plainGet K C name=ah)(c:W.hasDictIn K C=ah)
(ha:W.findIn K (.ref C) name=aa ao)(e:mA name=aa v)(a:W.handedIn v=ah)(h:Q v {s with toks:=s.toks+1}):
  wpAny (model prog w) A (aeH (.ref x) name expr) Q E s:=by obtain⟨od,J,g⟩:=I.look;exact W.get_value X J (W.plainGet_of b).1 (W.findObj_own c ha rfl (by rw[g,e])) a h
theorem Om{pl:aey Bool}{Q:af×List af->ai->Prop}(X:K.In s.heap)(I:HX s.heap x dx C mA)(a:W.plainGet K C name=ah)
(b:W.findIn K (.ref C) name=aa (aa (.ref f)))(c:W.isFn K (.ref f)=ah)(e:mA name=ao)(h:Q (.ref f,[.ref x]) s):
  wpAny (model prog w) A (adN (.ref x) name pl) Q E s:=by obtain⟨od,J,g⟩:=I.look;exact W.method_fn X J (W.plainGet_of a).1 (W.plainGet_of a).2 b (beq_iff_eq.mp c) (by show(W.lookIn name od).map (·.isSome)=aa am;rw[g,e];rfl) h
theorem Sq{ns:List ay}{Q:Unit->ai->Prop}(X:K.In s.heap)(I:HX s.heap x dx C mA)
(i:W.findIn K (.ref C) "__setattr__"=aa (aa (.builtin "object.__setattr__")))(j:W.plainOver K C=ah)(l:W.takerIn K C name=aa ao)(m:W.hasDictIn K C=ah)
(hw:PySem.Within mA ns)(H:ns.length<=aE)
(h:∀e,HX e x dx C (λy=>if y=name then aa v else mA y)->b7 dx s.heap e->Q () {s with heap:=e,toks:=s.toks+2}):
  wpAny (model prog w) A (aeI (.ref x) name v) Q E s:=by obtain⟨od,J,L⟩:=I.look;refine W.set_plain X J i (W.osa_open (s:={s with toks:=s.toks+1}) (r:=ao) X J j l λb=>?_);obtain⟨cd,n,o⟩:=W.any_some m;have p:s.heap.get? x=aa ⟨.ref C,aa dx,.plain,#[]⟩:=I.obj;refine ag (aq (ag (ag (adU p (ag (W.Looks.here (s:={s with toks:=s.toks+1}) (W.looks_clsIn X n) ?_))))));rw[o];refine aq (a:=aa dx) (ag (aq (ag ?_)));refine aec (s:={s with toks:=s.toks+1}) I.ns λe c g=>?_;obtain⟨M,q,u,z,B,G⟩:=c.count (PySem.Within.cons name v hw);refine ag (adO z (by rw[B];exact adP (aS G (by rw[aV];omega))) ?_);exact aq (h _ ⟨(g.2 _ (bU I.ne)).trans I.obj,c,I.ne⟩ g)
theorem Oo{R:fS->ai->Prop}{a:List af}{kw:List (ay×af)}(X:K.In s.heap)(hm:W.makesIn K C=ah)
(hi:W.findIn K (.ref C) "__init__"=aa (aa (.ref f)))(b:W.typeIn K (.ref f)=aa (.type "function"))
(h:codeAny (model prog w) (A.under (.builtin "type.__call__" ⟨.ref C::a,kw⟩)) (.call (.ref f) ⟨.ref (s.heap.objs.size+1)::a,kw⟩) (W.InitBack (s.heap.objs.size+1) R)
   {s with heap:=(s.heap.push W.emptyDict).push (W.instObj C s.heap.objs.size)}):
  codeAny (model prog w) A (.call (.ref C) ⟨a,kw⟩) R s:=by obtain⟨c,g,d,t,os⟩:=s;exact W.make_core (W.makes_of X hm) (W.looks_findIn X hi) (λself=>W.bind_fn X self b) (.inl rfl) h
end
noncomputable def nD(f:ay)(v:V):List (ay×V)->List (ay×V)
 |[]=>[(f,v)]
 | (g,x)::r=>if g=f then(g,v)::r else(g,x)::nD f v r
theorem sP(f g:ay)(v:V):∀fs:List (ay×V),(nD f v fs).lookup g=if g=f then aa v else fs.lookup g
 |[]=>by
  show eT g [(f,v)]=_;by_cases h:g=f
  ·have a:(g==f)=ah:=beq_iff_eq.mpr h;simp only [eT,a,if_pos h]
  ·have a:(g==f)=am:=beq_eq_false_iff_ne.mpr h;simp only [eT,a,if_neg h]
 | (k,x)::r=>by
  have c:=sP f g v r;rw[show nD f v ((k,x)::r)=(if k=f then(k,v)::r else(k,x)::nD f v r) from rfl];by_cases b:k=f
  ·rw[if_pos b];by_cases h:g=k
   ·have a:(g==k)=ah:=beq_iff_eq.mpr h;simp only [eT,a,if_pos (h.trans b)]
   ·have a:(g==k)=am:=beq_eq_false_iff_ne.mpr h;simp only [eT,a,if_neg (λe:g=f=>h (e.trans b.symm))]
  ·rw[if_neg b];by_cases h:g=k
   ·have a:(g==k)=ah:=beq_iff_eq.mpr h;simp only [eT,a,if_neg (λe:g=f=>b (h.symm.trans e))]
   ·have a:(g==k)=am:=beq_eq_false_iff_ne.mpr h;simp only [eT,a];exact c
theorem qD(f:ay)(v:V):∀fs:List (ay×V),f∈(nD f v fs).map (·.1)/\∀g,g∈fs.map (·.1)->g∈(nD f v fs).map (·.1)
 |[]=>⟨by simp[nD],λg h=>by simp at h⟩
 | (k,x)::r=>by
  obtain⟨b,c⟩:=qD f v r;rw[show nD f v ((k,x)::r)=(if k=f then(k,v)::r else(k,x)::nD f v r) from rfl];by_cases a:k=f
  ·rw[if_pos a];subst a;exact⟨by simp,λg h=>by simpa using h⟩
  ·rw[if_neg a];refine⟨?_,λg h=>?_⟩
   ·rw[aR];exact av _ b
   ·rw[aR] at h ⊢;rcases az.mp h with e|e
    ·exact az.mpr (.inl e)
    ·exact av _ (c g e)
theorem yF(f:ay)(v:V):∀fs:List (ay×V),(nD f v fs).length<=fs.length+1
 |[]=>by simp[nD]
 | (k,x)::r=>by
  have b:=yF f v r;rw[show nD f v ((k,x)::r)=(if k=f then(k,v)::r else(k,x)::nD f v r) from rfl];by_cases a:k=f
  ·rw[if_pos a,aV,aV];omega
  ·rw[if_neg a,aV,aV];omega
theorem qC.some_of{v:V}{o:Option af}(r:qC (aa v) o):∃u,o=aa u/\RelV v u:=by
 cases o with
 |none=>exact(show False from r).elim
 |some u=>exact⟨u,rfl,r⟩
theorem qC.none_of{o:Option af}(r:qC ao o):o=ao:=by
 cases o with
 |none=>rfl
 |some u=>exact(show False from r).elim
theorem Ce{v:V}{u:af}(r:RelV v u):W.handedIn u=ah:=by
 cases v with
 |non=>cases(show u=bC from r);rfl
 |bl b=>cases(show u=af.bool b from r);rfl
 |int i=>obtain⟨t,e⟩:=(show∃t,u=fg i t from r);cases e;rfl
 |str x=>obtain⟨t,e⟩:=(show∃t,u=fR x t from r);cases e;rfl
 |NR b=>obtain⟨t,e⟩:=(show∃t,u=af.bytes b t from r);cases e;rfl
 |V5 b=>obtain⟨t,e⟩:=(show∃t,u=af.float b t from r);cases e;rfl
 |ref a=>cases(show u=aN a from r);rfl
 |ty n=>cases(show u=fi n from r);rfl
section
variable {P:aJ} {w:bj} {H H':Hp} {h h':ar} {a C dx:aj} {fs fs':List (ay×V)}
theorem zj(iJ:um P w H h)(e:H a=aa (.ins C dx fs)):∃b,HX h a dx C b/\(∀f,qC (fs.lookup f) (b f))/\PySem.Within b (fs.map (·.1))/\fs.length<=1000/\H dx=aa (.own a):=by obtain⟨d,z,ne,ob,b,n,r,q⟩:=(show iN P w H h a (.ins C dx fs) from iJ a _ e);exact⟨b,⟨ob,n,ne⟩,r,q,z,d⟩
end
structure Mi(K:W.Frag)(C:aj):Prop where
 pg:W.plainGet K C ay.empty=ah
 hd:W.hasDictIn K C=ah
 po:W.plainOver K C=ah
 sa:W.findIn K (.ref C) "__setattr__"=aa (aa (.builtin "object.__setattr__"))
theorem Mi.get{K:W.Frag}{C:aj}(c:Mi K C)(f:ay):W.plainGet K C f=ah:=c.pg
def kx (K:W.Frag)(C:aj)(f:ay):Prop:=W.findIn K (.ref C) f=aa ao
theorem kx.Zy{K:W.Frag}{C:aj}{f:ay}(n:kx K C f):W.takerIn K C f=aa ao:=by unfold W.takerIn;rw[show W.findIn K (.ref C) f=aa ao from n];rfl
structure Con(K:W.Frag)(C:aj)(f:ay)(v:V)(u:af):Prop where
 at_:W.findIn K (.ref C) f=aa (aa u)
 rel:RelV v u
 get:W.specialIn K u "__get__"=aa ao
 cp:W.copiedNames.contains f=am
structure Meth(K:W.Frag)(C:aj)(m:ay)(f:aj):Prop where
 at_:W.findIn K (.ref C) m=aa (aa (.ref f))
 fn:W.isFn K (.ref f)=ah
 kp:W.keepIn K (.ref f)=ah
section
variable {X:Cx} {pins:List (aj×bS)} {σ:St} {H:Hp} {s:ai} {a C dx:aj} {fs:List (ay×V)} {f:ay} {v:V} {A:ba} {E:af->ai->Prop}
theorem HY{b:Bool}{Q:af->ai->Prop}(I:Inv X pins σ H s)(e:H a=aa (.ins C dx fs))(c:Mi X.K C)(n:kx X.K C f)(l:fs.lookup f=aa v)
(h:∀u g,Inv X pins σ H g->RelV v u->Q u g):wpAny (model X.prog X.w) A (aeH (.ref a) f b) Q E s:=by obtain⟨j,O,r,_,_,_⟩:=zj I.iJ e;obtain⟨u,m,i⟩:=qC.some_of (v:=v) (o:=j f) (by rw[<-l];exact r f);exact qV I.nN O (c.get f) c.hd n m (Ce i) (h u _ (I.tok _) i)
theorem HZ{m:ay}{g:aj}{pl:aey Bool}{Q:af×List af->ai->Prop}(I:Inv X pins σ H s)(e:H a=aa (.ins C dx fs))(c:Mi X.K C)(k:Meth X.K C m g)(l:fs.lookup m=ao)
(h:Q (.ref g,[.ref a]) s):wpAny (model X.prog X.w) A (adN (.ref a) m pl) Q E s:=by obtain⟨b,O,r,_,_,_⟩:=zj I.iJ e;have hn:b m=ao:=qC.none_of (by rw[<-l];exact r m);exact Om I.nN O (c.get m) k.at_ k.fn hn h
theorem Ia{y:V}{u:af}{Q:Unit->ai->Prop}(I:Inv X pins σ H s)(e:H a=aa (.ins C dx fs))(c:Mi X.K C)(n:kx X.K C f)(M:fs.length<1000)(p:RelV y u)
(h:∀j,Inv X pins σ (upd H a (.ins C dx (nD f y fs))) j->Q () j):wpAny (model X.prog X.w) A (aeI (.ref a) f u) Q E s:=by
 obtain⟨l,O,r,wi,_,m⟩:=zj I.iJ e;have B:(fs.map (·.1)).length<=aE:=by rw[ap,gb];omega
 refine Sq I.nN O c.sa c.po n.Zy c.hd wi B λG i sb=>h _ ?_;have hd:∃o,G.get? dx=aa o:=let⟨o,_,_,e',_⟩:=i.ns;⟨o,e'⟩;refine I.write (x:=a) (e:=dx) (by rw[e];exact bO) (.inr m) (λb q J z=>(sb.2 b J).trans z) hd ?_;refine⟨by rw[gF O.ne];exact m,?_,O.ne,i.obj,_,i.ns,λg=>?_,λg L=>?_⟩
 ·have:=yF f y fs;omega
 ·show qC ((nD f y fs).lookup g) (if g=f then aa u else l g);rw[sP];by_cases q:g=f
  ·rw[if_pos q,if_pos q];exact p
  ·rw[if_neg q,if_neg q];exact r g
 ·by_cases q:g=f
  ·rw[q];exact(qD f y fs).1
  ·refine(qD f y fs).2 g (wi g λz=>L ?_);show(if g=f then aa u else l g)=ao;rw[if_neg q];exact z
theorem Inv.made(I:Inv X pins σ H s):Inv X pins σ (upd (upd H s.heap.objs.size (.own (s.heap.objs.size+1))) (s.heap.objs.size+1) (.ins C s.heap.objs.size []))
  {s with heap:=(s.heap.push W.emptyDict).push (W.instObj C s.heap.objs.size)}:=by
 have e1:(s.heap.push W.emptyDict).get? s.heap.objs.size=aa W.emptyDict:=aQ s.heap rfl;have e2:((s.heap.push W.emptyDict).push (W.instObj C s.heap.objs.size)).get? (s.heap.objs.size+1)=aa (W.instObj C s.heap.objs.size):=by
  have:=aQ (s.heap.push W.emptyDict) (o:=W.instObj C s.heap.objs.size) rfl
  rwa [bG] at this
 have e3:(s.heap.push W.emptyDict).Ns s.heap.objs.size (λ_=>ao):=⟨W.emptyDict,#[],_,e1,rfl,(λe c=>absurd c (by simp)),λ_=>rfl⟩;have g:=I.laid (a:=s.heap.objs.size) (o:=.own (s.heap.objs.size+1)) (h':=s.heap.push W.emptyDict) (t':=s.toks) (λb u q=>ak _ q) (bf _) ⟨_,e1⟩;refine g.laid (a:=s.heap.objs.size+1) (o:=.ins C s.heap.objs.size []) (t':=s.toks) (λb u q=>ak _ q) (fk (bG _ _)) ?_;have ne:s.heap.objs.size≠s.heap.objs.size+1:=bn (eO _);refine⟨by rw[gF ne,gW],bJ _,ne,e2,λ_=>ao,(ar.Ns1.of_empty e3).at λo q=>ak _ q,λ_=>bO,λy i=>absurd rfl i⟩
theorem KA{prog:aJ}{w:bj}{env:eH}{e:bh}{f:ay}{pos:c7}{s:ai}{Q:af->ai->Prop}(b:cK e f env (eval e env)=eval e env)
(h:wpAny (model prog w) A (eval e env) (λo c=>wpAny (model prog w) A (aeH o f ah) Q E c) E s):wpAny (model prog w) A (eval (.Attribute e f pos) env) Q E s:=
 Attribute_any_ h (by rw[arm_eval_Attribute,b])
end
noncomputable def abT(K:W.Frag)(b:TE)(f:ay):TE:=λσ H Q=>b σ H λx H1=>∃a C c fs v,x=.ref a/\H1 a=aa (.ins C c fs)/\Mi K C/\kx K C f/\fs.lookup f=aa v/\Q v H1
noncomputable def abU(K:W.Frag)(e g:TE)(f:ay):TS:=λD σ H=>g σ H λy H1=>e σ H1 λx b=>∃a C c fs,x=.ref a/\b a=aa (.ins C c fs)/\Mi K C/\kx K C f/\fs.length<1000/\
 D.nx σ (upd b a (.ins C c (nD f y fs)))
section
variable {X:Cx} {o e value:bh} {f:ay} {pos pos' y3:c7} {ta tv:TE}
theorem Ww(b:PE X e ta)(g:cK e f X.env (eval e X.env)=eval e X.env):PE X (.Attribute e f pos) (abT X.K ta f):=by intro pins s σ H Q I h;refine KA g (jz (b pins s σ H _ I h) λu s1 ⟨x,H1,i,j,a,C,r,fs,v,ex,ea,c,n,l,q⟩=>?_);subst ex;obtain rfl:u=aN a:=j;exact HY i ea c n l λw s2 m p=>⟨v,H1,m,p,q⟩
theorem Wx(ha:PE X o ta)(b:PE X value tv)(g:cN value (aa (.Attribute o f pos')) pos.line X.env=pure am):PS X (.Assign [.Attribute o f pos'] value pos) (abU X.K ta tv f):=by intro pins s σ H D I h;refine adM (jz (b pins s σ H _ I h) λu s1 ⟨y,H1,i,j,q⟩=>jz (ha pins s1 σ H1 _ i q) λm s2 ⟨x,z,p,r,a,C,A,fs,ex,ea,c,n,l,v⟩=>?_) g;subst ex;obtain rfl:m=aN a:=r;exact Ia p ea c n l j λs3 w=>⟨σ,_,w,v⟩
end
section
variable {X:Cx} {pins:List (aj×bS)} {σ:St} {H:Hp} {s:ai} {A:ba} {E:af->ai->Prop} {Q:af->ai->Prop} {c:af} {b:Bool}
inductive y4(K:W.Frag)(H:Hp):V->af->Prop where
 |non:y4 K H .non (.type "NoneType")
 |bl (x:Bool):y4 K H (.bl x) (.type "bool")
 |int (i:Int):y4 K H (.int i) (.type "int")
 |str (x:ay):y4 K H (.str x) (.type "str")
 |V5 (x:UInt64):y4 K H (.V5 x) (.type "float")
 |lst {a:aj} {xs:List V} (e:H a=aa (.lst xs)):y4 K H (.ref a) (.type "list")
 |wF {a:aj} {o:bS} {xs:List V} (e:H a=aa (.wF o (.lst xs))):y4 K H (.ref a) (.type "list")
 |tup {a:aj} {xs:List V} (e:H a=aa (.tup xs)):y4 K H (.ref a) (.type "tuple")
 |dK {a:aj} {ik:List (Key×V)} (e:H a=aa (.dK ik)):y4 K H (.ref a) (.type "dict")
 |dT {a:aj} {ik:List (List Key×V)} (e:H a=aa (.dT ik)):y4 K H (.ref a) (.type "dict")
 |ins {a C dx:aj} {fs:List (ay×V)} (e:H a=aa (.ins C dx fs)) (cl:Mi K C) (ha:W.findIn K (.ref C) "__class__"=aa (aa (.builtin "object.__class__")))
   (hn:W.specialIn K (.builtin "object.__class__") "__get__"=aa (aa (.builtin "getset_descriptor.__get__"))) (YK:W.takesIn K (.builtin "object.__class__")=aa ah)
   (hm:W.mroIn K C (.type "object")=aa ah):y4 K H (.ref a) (.ref C)
theorem oC{x:V}{u t:af}(I:Inv X pins σ H s)(f:RelV x u)(ty:y4 X.K H x t)(e:W.kitOne X.K t c=aa b)(h:∀tk,Q (.bool b) {s with toks:=tk}):
  wpAny (model X.prog X.w) A (call (.builtin "isinstance") [u,c]) Q E s:=by
 cases ty with
 |non=>cases(show u=bC from f);exact W.kia_one W.kitx_none I.nN bO e (λz=>nomatch z) h
 |bl y=>cases(show u=af.bool y from f);exact W.kia_one W.kitx_bool I.nN bO e (λz=>nomatch z) h
 |int i=>obtain⟨t,q⟩:=(show∃t,u=fg i t from f);cases q;exact W.kia_one W.kitx_int I.nN bO e (λz=>nomatch z) h
 |str y=>obtain⟨t,q⟩:=(show∃t,u=fR y t from f);cases q;exact W.kia_one W.kitx_str I.nN bO e (λz=>nomatch z) h
 |V5 y=>obtain⟨t,q⟩:=(show∃t,u=af.float y t from f);cases q;exact W.kia_one W.kitx_float I.nN bO e (λz=>nomatch z) h
 |@lst a xs ea=>
  cases(show u=aN a from f);obtain⟨_,_,n,_,g⟩:=(show iN X.prog X.w H s.heap a (.lst xs) from I.iJ a _ ea);exact W.kia_one W.kitx_list I.nN ⟨_,g,rfl⟩ e (λz=>nomatch z) h
 |@wF a ob xs ea=>
  cases(show u=aN a from f);obtain⟨_,_,_,n,_,g⟩:=(show iN X.prog X.w H s.heap a (.wF ob (.lst xs)) from I.iJ a _ ea);exact W.kia_one W.kitx_list I.nN ⟨_,g,rfl⟩ e (λz=>nomatch z) h
 |@tup a xs ea=>
  cases(show u=aN a from f);obtain⟨_,_,_,p⟩:=(show iN X.prog X.w H s.heap a (.tup xs) from I.iJ a _ ea);obtain⟨o,g,j,_⟩:=p;exact W.kia_one W.kitx_tuple I.nN ⟨o,g,j⟩ e (λz=>nomatch z) h
 |@dK a l ea=>
  cases(show u=aN a from f);obtain⟨_,_,r,_,p⟩:=(show iN X.prog X.w H s.heap a (.dK l) from I.iJ a _ ea);obtain⟨o,es,m,g,j,_⟩:=p;exact W.kia_one W.kitx_dict I.nN ⟨o,g,j.1⟩ e (λz=>nomatch z) h
 |@dT a l ea=>
  cases(show u=aN a from f);obtain⟨_,_,xs,_,o,es,m,g,j,_⟩:=(show iN X.prog X.w H s.heap a (.dT l) from I.iJ a _ ea);exact W.kia_one W.kitx_dict I.nN ⟨o,g,j.1⟩ e (λz=>nomatch z) h
 |@ins a C v fs ea cl ha hn YK hm=>
  cases(show u=aN a from f);obtain⟨B,O,_⟩:=zj I.iJ ea;obtain⟨od,J,_⟩:=O.look;exact W.kia_one (W.kitx_own (cl.get _) cl.hd ha hn YK hm) I.nN J e (λz=>nomatch z) h
end
end L2
namespace L2
open PySem PySem.Spec PyProof.Rows
structure jR(k:Nat)(A:ba):Prop where
 hd:A.handled=ao
 dp:A.depth+3*k+5<ae6
 un:A.units+16*k+200<adb
theorem jR.deeper{k:Nat}{A:ba}(r:jR (k+1) A)(env:eH):jR k (A.deeper env):=
 ⟨r.hd,by have:=r.dp;show A.depth+1+3*k+5<_;omega,by have:=r.un;show A.units+3+16*k+200<_;omega⟩
theorem Ib{A:ba}{C:aj}{us:List af}{kw:List (ay×af)}:(A.under (.builtin "type.__call__" ⟨.ref C::us,kw⟩)).depth=A.depth+1:=by first|rfl|simp[ba.under,Code.weight,Code.isCreation,Code.isGuard,Code.isCaller,Code.frames,Code.isFrame,guardIds]
theorem Ic{A:ba}{C:aj}{us:List af}{kw:List (ay×af)}:(A.under (.builtin "type.__call__" ⟨.ref C::us,kw⟩)).units=A.units+1:=by first|rfl|simp[ba.under,Code.cUnits,Code.frames,Code.isFrame]
theorem jR.make{k:Nat}{A:ba}(r:jR (k+1) A)(C:aj)(us:List af)(kw:List (ay×af)):jR k (A.under (.builtin "type.__call__" ⟨.ref C::us,kw⟩)):=
 ⟨r.hd,by have:=r.dp;rw[Ib];omega,by have:=r.un;rw[Ic];omega⟩
theorem jR.depth{k:Nat}{A:ba}(r:jR k A):A.depth<ae6:=by have:=r.dp;omega
theorem jR.units{k:Nat}{A:ba}(r:jR k A):A.units+64<adb:=by have:=r.un;omega
noncomputable def Zz:TA:=λ_ H Q=>Q [] H
noncomputable def Op(a:TE)(tr:TA):TA:=λσ H Q=>a σ H λx H1=>tr σ H1 λxs b=>Q (x::xs) b
section
variable {X:Cx} {e:bh} {es:List bh} {te:TE} {t:TA} {pos:c7}
theorem Db:PA X [] Zz:=λ_ _ _ _ H Q I h=>Calls.spliced_nil ⟨[],H,I,.nil,h⟩
theorem uq(ha:PE X e te)(a:PA X es t)(b:aM (e::es) X.env=(am,eval e X.env)::aM es X.env:=by rfl):PA X (e::es) (Op te t):=by intro pos pins s σ H Q I h;rw[b];show wpAny _ _ (spliced ((am,eval e X.env)::cG pos (aM es X.env))) _ _ s;refine Calls.spliced_cons (jz (ha pins s σ H _ I h) λu s1 ⟨x,H1,c,r1,f⟩=>?_);exact jz (a pos pins s1 σ H1 _ c f) λus s2 ⟨xs,g,i,r2,j⟩=>⟨x::xs,g,i,.cons r1 r2,j⟩
noncomputable def abV(t:TA):TE:=λσ H Q=>t σ H λxs H1=>xs.length<=aE/\∀p,H1 p=ao->Q (.ref p) (upd H1 p (.tup xs))
noncomputable def abW(t:TA):TE:=λσ H Q=>t σ H λxs H1=>xs.length<=aE/\∀p,H1 p=ao->Q (.ref p) (upd H1 p (.lst xs))
theorem Oq{x1}(h:PA X es t):PE X (.Tuple es x1 pos) (abV t):=by intro pins s σ H Q I c;refine wpAny_Tuple_spliced (jz (h pos pins s σ H _ I c) λus s1 ⟨xs,H1,a,r,z,q⟩=>⟨by rw[<-r.length];exact z,?_⟩);have f:H1 s1.heap.objs.size=ao:=a.iJ.fresh (bf _);refine⟨.ref s1.heap.objs.size,upd H1 s1.heap.objs.size (.tup xs),a.laid (t':=s1.toks) (λb u e=>ak _ e) (bf _) ?_,rfl,q _ f⟩;exact⟨z,us,r,⟨_,aQ _ rfl,rfl,_,rfl⟩⟩
theorem Wy(h:PA X es t):PE X (.List es pos) (abW t):=by intro pins s σ H Q I c;refine wpAny_List_spliced (jz (h pos pins s σ H _ I c) λus s1 ⟨xs,H1,a,r,z,q⟩=>⟨by rw[<-r.length];exact z,?_⟩);have f:H1 s1.heap.objs.size=ao:=a.iJ.fresh (bf _);refine⟨.ref s1.heap.objs.size,upd H1 s1.heap.objs.size (.lst xs),a.laid (t':=s1.toks) (λb u e=>ak _ e) (bf _) ?_,rfl,q _ f⟩;exact⟨z,us,0,r,aQ _ rfl⟩
end
abbrev Sp:=List V->Hp->VK->XK->Prop
abbrev KC:=List eH->Hp->ai->XK->af->ai->Prop
structure Ie(P:aJ)(w:bj)(K:W.Frag)(mg:ay->Option af)(base:ar)(A:ba)(outer:List eH)(s:ai)(H:Hp):Prop where
 frames:A.frames=aa outer
 mod:Mod K mg base
 bs:∀b o,base.get? b=aa o->s.heap.get? b=aa o/\H b=ao
 NS:base.objs.size<=s.heap.objs.size
 vy:s.heap.FunFrames base outer
 RU:∀b∈qT outer,H b=ao
 iJ:um P w H s.heap
 bare:fJ s.gens
def CE (outer:List eH)(P:aJ)(w:bj)(H:Hp)(s:ai)(Q:VK)(u:af)(a:ai):Prop:=
 ∃v b,a.os=s.os/\fJ a.gens/\Un (qT outer) [] H b s.heap a.heap/\um P w b a.heap/\RelV v u/\Q v b
def CR (b:KC)(outer:List eH)(P:aJ)(w:bj)(H:Hp)(s:ai)(Q:VK)(E:XK)(r:fS)(a:ai):Prop:=
 match r with
 |.ok (.ret u)=>CE outer P w H s Q u a
 |.ok _=>False
 |.error e=>b outer H s E e a
structure ky(P:aJ)(w:bj)(K:W.Frag)(mg:ay->Option af)(base:ar)(CX:KC)(k:Nat)(f:aj)(fd:cn)(ps:List ay)(sp:Sp):Prop where
 len:∀vs H Q E,sp vs H Q E->vs.length=ps.length
 run:∀(A:ba) (outer:List eH) (s:ai) (H:Hp) (args:Args) (us:List af) (vs:List V) (Q:VK) (E:XK),jR k A->Ie P w K mg base A outer s H->adq s fd args (ps.zip us)->Vals vs us->sp vs H Q E->
  codeAny (model P w) A (.call (.ref f) args) (CR CX outer P w H s Q E) s
theorem ky.imp{P:aJ}{w:bj}{K:W.Frag}{mg:ay->Option af}{base:ar}{b:KC}{k:Nat}{f:aj}{fd:cn}{c:List ay}{sp e:Sp}(F:ky P w K mg base b k f fd c sp)
(h:∀a H Q E,e a H Q E->sp a H Q E):ky P w K mg base b k f fd c e:=
 ⟨λa H Q E q=>F.len a H Q E (h _ _ _ _ q),λA outer s H args us a Q E g i j l m=>F.run A outer s H args us a Q E g i j l (h _ _ _ _ m)⟩
theorem Ie.make{P:aJ}{w:bj}{K:W.Frag}{mg:ay->Option af}{base:ar}{A:ba}{outer:List eH}{s:ai}{H:Hp}(e:Ie P w K mg base A outer s H)(C:aj)(us:List af)(kw:List (ay×af)):
  Ie P w K mg base (A.under (.builtin "type.__call__" ⟨.ref C::us,kw⟩)) outer s H:=⟨by first|exact e.frames|(simpa[ba.under,Code.envs,Code.isFrame,pushEnvs] using e.frames),e.mod,e.bs,e.NS,e.vy,e.RU,e.iJ,e.bare⟩
section
variable {X:Cx} {pins:List (aj×bS)} {σ:St} {H:Hp} {s s':ai}
theorem Inv.Ss(I:Inv X pins σ H s):Ie X.prog X.w X.K X.mg X.base X.A X.stack s H:=
 ⟨I.ok.frames,I.ok.mod,I.bs,aS I.ok.NS I.sz,I.stack,I.Kt,I.iJ,I.bare⟩
theorem Inv.after{Q:VK}{u:af}(I:Inv X pins σ H s)(h:CE X.stack X.prog X.w H s Q u s'):EP X pins σ Q u s':=by obtain⟨v,c,os,bare,un,iJ,r,q⟩:=h;obtain⟨e,g,d,t,a⟩:=s';obtain rfl:a=s.os:=os;exact⟨v,c,I.call (h':=e) (g':=g) (d':=d) (t':=t) (ch:=[]) un iJ bare (λb z=>absurd z (by simp)),r,q⟩
end
noncomputable def Vl(sp:Sp)(sQ:List V)(E:XK)(t:TA):TE:=λσ H Q=>t σ H λa H1=>sp (a++sQ) H1 Q E
noncomputable def ZA(C:aj)(sp:Sp)(sQ:List V)(E:XK)(t:TA):TE:=λσ H Q=>t σ H λb H1=>∀x a,H1 x=ao->H1 a=ao->a≠x->
 sp (.ref x::(b++sQ)) (upd (upd H1 a (.own x)) x (.ins C a [])) (λv c=>v=.non/\Q (.ref x) c) E
def Binds(K:W.Frag)(fd:cn)(a:List ay)(ds:List af):Prop:=
 ∀(s:ai) (us:List af),K.In s.heap->(us++ds).length=a.length->adq s fd ⟨us,[]⟩ (a.zip (us++ds))
theorem Binds.all{K:W.Frag}{fd:cn}{a:List ay}(h:∀us:List af,us.length=a.length->eP fd ⟨us,[]⟩=pure (a.zip us)):Binds K fd a []:=λs us _ b=>by rw[br] at b ⊢;exact .of_eq (h us b)
def vz (b:KC)(X:Cx)(E:XK):Prop:=∀(pins:List (aj×bS)) (σ:St) (H:Hp) (s:ai) (e:af) (a:ai),Inv X pins σ H s->b X.stack H s E e a->X.xe e a
section
variable {X:Cx} {CX:KC} {k:Nat} {f C:aj} {fd:cn} {ps:List ay} {sp:Sp} {sQ:List V} {ds:List af} {E:XK} {x m:ay} {p pos apos:c7} {e o:bh} {es:List bh} {ta:TE} {t:TA}
theorem Ot{pins:List (aj×bS)}{σ:St}{H:Hp}{s:ai}{Q:VK}{us:List af}{vs:List V}(F:ky X.prog X.w X.K X.mg X.base CX k f fd ps sp)(b:jR k X.A)(c:Binds X.K fd ps ds)(hd:Vals sQ ds)(g:vz CX X E)
(I:Inv X pins σ H s)(r:Vals vs us)(h:sp (vs++sQ) H Q E):wpAny (model X.prog X.w) X.A (call (.ref f) us) (EP X pins σ Q) X.xe s:=by
 have r2:Vals (vs++sQ) (us++ds):=r.append hd;have i:(us++ds).length=ps.length:=by rw[<-r2.length];exact F.len _ _ _ _ h
 refine dj (cX (F.run X.A X.stack s H ⟨us,[]⟩ (us++ds) (vs++sQ) Q E b I.Ss (c s us I.nN i) r2 h) λr j a=>?_);cases r with
 |error e=>exact g pins σ H s e j I a
 |ok fl=>
  cases fl with
  |ret u=>exact I.after a
  |next=>exact b0 a
  |brk=>exact b0 a
  |cont=>exact b0 a
theorem Su(F:ky X.prog X.w X.K X.mg X.base CX k f fd ps sp)(c:jR k X.A)(g:Gl X x)(hm:X.mg x=aa (.ref f))(i:W.keepIn X.K (.ref f)=ah)(j:Binds X.K fd ps ds)(hd:Vals sQ ds)(l:vz CX X E)
(ha:PA X (e::es) t)(n:(x==("__debug__":ay))=am:=by decide)(u:aM (e::es) X.env=(am,eval e X.env)::aM es X.env:=by rfl)(v:(cG pos (aM es X.env)).any (·.1)=am:=by rfl):
  PE X (.Call (.Name x p) (e::es) [] pos) (Vl sp sQ E t):=by intro pins s σ H Q I h;refine c5 (qU I g hm ?_ n);refine W.callWith_K (h₀:=X.base) I.ok.mod.N2 i (jz (ha pos pins s σ H _ I h) λus s1 ⟨y,H1,b,r,q⟩=>⟨b.nN,?_⟩) u v;exact Ot F c j hd l b r q
structure Mk(K:W.Frag)(C f:aj):Prop where
 makes:W.makesIn K C=ah
 init:W.findIn K (.ref C) "__init__"=aa (aa (.ref f))
 fn:W.isFn K (.ref f)=ah
 kp:W.keepIn K (.ref C)=ah
theorem Ov{pins:List (aj×bS)}{σ:St}{H:Hp}{s:ai}{Q:VK}{us:List af}{g:List V}(M:Mk X.K C f)(F:ky X.prog X.w X.K X.mg X.base CX k f fd ps sp)(j:jR (k+1) X.A)(l:Binds X.K fd ps ds)(hd:Vals sQ ds)
(n:vz CX X E)(I:Inv X pins σ H s)(r:Vals g us)
(h:∀x b,H x=ao->H b=ao->b≠x->sp (.ref x::(g++sQ)) (upd (upd H b (.own x)) x (.ins C b [])) (λv q=>v=.non/\Q (.ref x) q) E):
  wpAny (model X.prog X.w) X.A (call (.ref C) us) (EP X pins σ Q) X.xe s:=by
 have i:=h (s.heap.objs.size+1) s.heap.objs.size (I.iJ.fresh (dP _)) (I.iJ.fresh (bf _)) (bn (eO _));have c:=Inv.made (C:=C) I;have r2:Vals (V.ref (s.heap.objs.size+1)::(g++sQ)) (aN (s.heap.objs.size+1)::(us++ds)):=.cons rfl (r.append hd);have y:(aN (s.heap.objs.size+1)::us++ds).length=ps.length:=by have e:=r2.length;rw[F.len _ _ _ _ i] at e;exact e.symm
 refine dj (Oo (f:=f) I.nN M.makes M.init (beq_iff_eq.mp M.fn) (cX (F.run _ X.stack _ _ ⟨aN (s.heap.objs.size+1)::us,[]⟩ (aN (s.heap.objs.size+1)::(us++ds)) _ _ E (j.make C us [])
  (c.Ss.make C us []) (l _ (aN (s.heap.objs.size+1)::us) c.nN y) r2 i) λr z a=>?_))
 cases r with
 |error e=>exact n pins σ _ _ e z c a
 |ok fl=>
  cases fl with
  |ret u=>
   obtain⟨v,B,G,J,L,N⟩:=c.after a;subst L;exact⟨J,⟨V.ref (s.heap.objs.size+1),B,G,rfl,N⟩⟩
  |next=>exact b0 a
  |brk=>exact b0 a
  |cont=>exact b0 a
theorem Sv(M:Mk X.K C f)(F:ky X.prog X.w X.K X.mg X.base CX k f fd ps sp)(c:jR (k+1) X.A)(g:Gl X x)(hm:X.mg x=aa (.ref C))(i:Binds X.K fd ps ds)(hd:Vals sQ ds)(j:vz CX X E)
(ha:PA X (e::es) t)(l:(x==("__debug__":ay))=am:=by decide)(n:aM (e::es) X.env=(am,eval e X.env)::aM es X.env:=by rfl)(u:(cG pos (aM es X.env)).any (·.1)=am:=by rfl):
  PE X (.Call (.Name x p) (e::es) [] pos) (ZA C sp sQ E t):=by intro pins s σ H Q I h;refine c5 (qU I g hm ?_ l);refine W.callWith_K (h₀:=X.base) I.ok.mod.N2 M.kp (jz (ha pos pins s σ H _ I h) λus s1 ⟨v,H1,b,r,q⟩=>⟨b.nN,?_⟩) n u;exact Ov M F c i hd j b r q
end
section
variable {X:Cx} {CX:KC} {k:Nat} {f C:aj} {fd:cn} {ps ks:List ay} {sp:Sp} {E:XK} {x m:ay} {p pos apos ZB:c7} {e o:bh} {es:List bh} {kws:List adi} {te ta:TE} {t tk:TA} {nm:Option ay}
structure abX(K:W.Frag)(fd:cn)(ps ks:List ay)(g:List af->List af->List af)(gV:List V->List V->List V):Prop where
 to:∀(s:ai) (us ws:List af),K.In s.heap->(g us ws).length=ps.length->adq s fd ⟨us,ks.zip ws⟩ (ps.zip (g us ws))
 rel:∀{vs:List V} {us:List af} {zs:List V} {ws:List af},Vals vs us->Vals zs ws->Vals (gV vs zs) (g us ws)
variable {g:List af->List af->List af} {gV:List V->List V->List V}
end
structure gU(N P:List ay)(sc:cx):Prop where
 kind:sc.kind=.function
 co:sc.isCoroutine=am
 gen:sc.isGenerator=am
 nd:N.Nodup
 pre:N.take P.length=P
 par:∀x∈P,sc.names.lookup x=aa .local\/sc.names.lookup x=aa .cell
 Wz:∀y∈sc.names,y.2≠.free
theorem Cf{kindOf:ay->Option cC}{x:ay}:∀{binds:List (ay×af)} {m:ay->Option af},(∀v,(x,v)∉binds)->ad7 kindOf binds m x=m x
 |[],_,_=>rfl
 | (n,v)::r,m,h=>by
  unfold ad7;rw[Cf λw hw=>h w (av _ hw)];split
  ·have:x≠n:=by rintro rfl;exact h v aC
   simp[this]
  ·rfl
theorem Cg{kindOf:ay->Option cC}{x:ay}:∀{binds:List (ay×af)} {m:ay->Option af},(∀v,(x,v)∉binds)->ad8 kindOf binds m x=m x
 |[],_,_=>rfl
 | (n,v)::r,m,h=>by
  unfold ad8;rw[Cg λw hw=>h w (av _ hw)];split
  ·rfl
  ·have:x≠n:=by rintro rfl;exact h v aC
   simp[this]
theorem Ch{kindOf:ay->Option cC}{x:ay}{v:af}:∀{P:List ay} {a:List af} {i:Nat} {m:ay->Option af},P.Nodup->P[i]?=aa x->a[i]?=aa v->kindOf x=aa .local->
  ad7 kindOf (P.zip a) m x=aa v
 |[],_,_,_,_,h,_,_=>by simp at h
 |_::_,[],_,_,_,_,h,_=>by simp at h
 |p::P,w::a,0,m,nd,b,c,e=>by simp at b c;subst b;subst c;show ad7 kindOf ((p,w)::P.zip a) m p=_;unfold ad7;rw[Cf λv f=>(d9.mp nd).1 (List.of_mem_zip f).1,if_pos e];simp
 |p::P,w::a,i+1,m,nd,b,c,e=>by show ad7 kindOf ((p,w)::P.zip a) m x=_;unfold ad7;exact Ch (i:=i) (d9.mp nd).2 (by simpa using b) (by simpa using c) e
theorem Ci{kindOf:ay->Option cC}{x:ay}{v:af}:∀{P:List ay} {a:List af} {i:Nat} {m:ay->Option af},P.Nodup->P[i]?=aa x->a[i]?=aa v->kindOf x≠aa .local->
  ad8 kindOf (P.zip a) m x=aa v
 |[],_,_,_,_,h,_,_=>by simp at h
 |_::_,[],_,_,_,_,h,_=>by simp at h
 |p::P,w::a,0,m,nd,b,c,e=>by simp at b c;subst b;subst c;show ad8 kindOf ((p,w)::P.zip a) m p=_;unfold ad8;rw[Cg λv f=>(d9.mp nd).1 (List.of_mem_zip f).1,if_neg e];simp
 |p::P,w::a,i+1,m,nd,b,c,e=>by show ad8 kindOf ((p,w)::P.zip a) m x=_;unfold ad8;exact Ci (i:=i) (d9.mp nd).2 (by simpa using b) (by simpa using c) e
noncomputable def start(N:List ay)(a:List V):St:=a.map aa++aw (N.length- a.length) ao
noncomputable def uQ(b:KC)(P:aJ)(w:bj)(K:W.Frag)(mg:ay->Option af)(base:ar)(N:List ay)(qual:ay)(scope:cx)(f:aj)(cd:af)(A:ba)(outer:List eH)(s:ai)(H:Hp)(E:XK):Cx where
 prog:=P
 w:=w
 K:=K
 mg:=mg
 base:=base
 A:=A.deeper (dZ qual scope s.heap.objs.size f cd)
 N:=N
 gJ:=s
 gH:=H
 env:=dZ qual scope s.heap.objs.size f cd
 outer:=outer
 stack:=dZ qual scope s.heap.objs.size f cd::outer
 ex:=[]
 calm:=ah
 fn:=λ_=>ah
 pn:=[]
 xe:=λe c=>wpAny (model P w) (A.deeper (dZ qual scope s.heap.objs.size f cd)) (leaving (dZ qual scope s.heap.objs.size f cd) e) (λ_ a=>b outer H s E e a) (λe' a=>b outer H s E e' a) c
theorem Ff{sc:cx}{n:Nat}{x:ay}(h:sc.names.lookup x=aa .cell):∃c,(aeW n sc.names []).lookup x=aa c:=by have q:=W.cellsFrom_some sc.names n [] (.inl h);exact Option.isSome_iff_exists.mp q
theorem Mj{J:KC}{P:aJ}{w:bj}{K:W.Frag}{mg:ay->Option af}{base:ar}{N l:List ay}{qual:ay}{scope:cx}{f:aj}{cd:af}{A:ba}{outer:List eH}{s s1:ai}{H:Hp}{E:XK}{us:List af}{m:List V}
(S:gU N l scope)(hd:A.handled=ao)(j:Ie P w K mg base A outer s H)(Q:m.length=l.length)(r:Vals m us)
(x:InCallC s s.heap.objs.size (ad7 (dZ qual scope s.heap.objs.size f cd).kindOf (l.zip us) λ_=>ao) (aeW (s.heap.objs.size+1) scope.names []) (ad8 (dZ qual scope s.heap.objs.size f cd).kindOf (l.zip us) λ_=>ao) s1):
  Inv (uQ J P w K mg base N qual scope f cd A outer s H E) [] (start N m) H s1:=by
 have T:l.length<=N.length:=by have:=congrArg List.length S.pre;rw[cw] at this;omega
 obtain⟨G,tk,rfl,L⟩:=x.done;have I:∀b:aj,b∉(uQ J P w K mg base N qual scope f cd A outer s H E).ex:=λb z=>absurd (show b∈([]:List aj) from z) (by simp);refine⟨⟨j.mod,S.kind,rfl,rfl,bf _,λy z c G g=>?_,λy o=>?_,λy c _ h=>?_,λ_=>hd,ba.frames_deeper j.frames,.inr ⟨rfl,rfl⟩,λb z=>absurd z (I b),j.bs,j.NS,λb _ _=>I b,λb z=>absurd z (I b),j.vy,j.RU⟩,
  rfl,j.bare,Un.kept L,⟨_,x.toInCall.ns,λi y v G g U=>?_⟩,λy c h=>⟨_,x.cell y c h⟩,j.iJ.fresh (bf _),λy c h=>?_,λp B=>absurd (show p∈([]:List (aj×bS)) from B) (by simp),j.iJ.kept L,?_⟩
 ·exact name_of_addr x.apart (PySem.mem_of_lookup G) (PySem.mem_of_lookup g)
 ·have o:scope.names.lookup y=aa .cell\/scope.names.lookup y=aa .free:=o;rcases o with o|o
  ·exact Ff o
  ·exact absurd rfl (S.Wz _ (PySem.mem_of_lookup o))
 ·exact gk (x.above y c (PySem.mem_of_lookup h))
 ·have hi:i<m.length:=by
   unfold start at g;by_cases hi:i<m.length
   ·exact hi
   ·rw[List.getElem?_append_right (by simpa using hi)] at g;rw[List.getElem?_replicate] at g;split at g<;>cases g
  have ha:m[i]?=aa v:=by
   unfold start at g;rw[bI (by simpa using hi),bA] at g;cases e:m[i]? with
   |none=>rw[e] at g;cases g
   |some a=>rw[e] at g;cases g;rfl
  obtain⟨u,M,O⟩:=r.get ha;have B:l[i]?=aa y:=by rw[<-S.pre,List.getElem?_take_of_lt (by omega)];exact G
  have C:l.Nodup:=by rw[<-S.pre];exact S.nd.sublist (List.take_sublist _ _)
  refine⟨u,O,?_⟩;rcases S.par y (bw B) with k|k
  ·exact .inl ⟨k,Ch C B M k⟩
  ·obtain⟨c,e⟩:=Ff (n:=s.heap.objs.size+1) k;refine .inr ⟨.inl k,c,e,?_⟩;have q:=x.cell y c e;rw[Ci C B M (by show scope.names.lookup y≠_;rw[k];decide)] at q;exact q
 ·exact j.iJ.fresh (gk (x.above y c (PySem.mem_of_lookup h)))
 ·unfold start;show _=N.length;rw[bL,ap,cY];omega
theorem Vm{i:KC}{P:aJ}{w:bj}{K:W.Frag}{mg:ay->Option af}{base:ar}{k:Nat}{f:aj}{name qual:ay}{params:adr}{body:List bH}{scope:cx}{C kV doc pm iE ct oc:af}{an od:Option aj}
{By:Array (Option af)}{N j:List ay}{sp:Sp}(lk:K.lookup f=aa ⟨oc,od,.func (W.fnOf name qual params body scope C kV doc pm an iE ct),By⟩)(O:W.codeIn K iE qual=ah)(S:gU N j scope)
(len:∀a H Q E,sp a H Q E->a.length=j.length)
(T:∀(A:ba) (outer:List eH) (s:ai) (H:Hp) (a:List V) (Q:VK) (E:XK),jR k (A.deeper (dZ qual scope s.heap.objs.size f iE))->sp a H Q E->
   ∃t,wA (uQ i P w K mg base N qual scope f iE A outer s H E) body t/\t {nx:=λ_ c=>Q .non c,rt:=Q} (start N a) H):
  ky P w K mg base i (k+1) f (W.fnOf name qual params body scope C kV doc pm an iE ct) j sp:=by
 refine⟨len,λA outer s H args us a Q E m h U r G=>?_⟩;have Y:=len _ _ _ _ G;have L:K.In s.heap:=h.mod.N2.keeps λb o e=>(h.bs b o e).1;have p:s.heap.NoLimit:=h.mod.nolimit.keeps λb o e=>(h.bs b o e).1;have ZD:∀y∈j.zip us,scope.names.lookup y.1=aa .local\/(scope.names.lookup y.1=aa .cell/\((aeW (s.heap.objs.size+1) scope.names []).lookup y.1).isSome=ah):=λ⟨n,v⟩ hy=>by
  rcases S.par n (List.of_mem_zip hy).1 with q|q
  ·exact .inl q
  ·exact .inr ⟨q,W.cellsFrom_some _ _ _ (.inl q)⟩
 refine codeAny_call_function m.depth (L _ _ lk) rfl S.co S.gen rfl (W.codeRec_of L O) (U _ _ _ _ ?_);refine wpAny_newFunctionEnv_cells S.kind ZD λenv he s1 x=>?_;subst he;refine⟨p.keeps x.toInCall.keep,codeAny_func ?_⟩;obtain⟨t,ht,hq⟩:=T A outer s H a Q E (m.deeper _) G;have I:Inv (uQ i P w K mg base N qual scope f iE A outer s H E) [] (start N a) H s1:=Mj S m.hd h Y r x;refine cj (ht [] s1 (start N a) H _ I hq) (λfl z g=>?_) λe z g=>g;have M:∀{l:St} {c:Hp} {v:V} {u:af},Inv (uQ i P w K mg base N qual scope f iE A outer s H E) [] l c z->RelV v u->Q v c->CE outer P w H s Q u z:=
  λ{l c v u} J B q=>⟨v,c,J.os,J.bare,J.base,J.iJ,B,q⟩
 cases fl with
 |ret u=>
  obtain⟨v,l,c,J,B,q⟩:=g;exact M J B q
 |next=>
  obtain⟨l,c,J,q⟩:=g;exact M (v:=V.non) (u:=bC) J rfl q
 |brk=>
  obtain⟨_,_,_,q⟩:=g;exact b0 q
 |cont=>
  obtain⟨_,_,_,q⟩:=g;exact b0 q
end L2
namespace L2
open PySem PySem.Spec PyProof.Rows
section
variable {X:Cx} {x:ay} {p pos:c7} {e:bh} {es:List bh} {t:TA} {id T:String} {r:List V->Hp->VK->Prop}
noncomputable def tCB(r:List V->Hp->VK->Prop)(t:TA):TE:=λσ H Q=>t σ H λa H1=>r a H1 Q
theorem Fg(a:nJ X (.builtin id) r)(b:Gl X x)(hm:X.mg x=ao)(c:bR x=aa (.builtin id))(ha:PA X (e::es) t)(hn:x≠"__name__":=by decide)(qW:(x==("__debug__":ay))=am:=by decide)
(he:aM (e::es) X.env=(am,eval e X.env)::aM es X.env:=by rfl)(qX:(cG pos (aM es X.env)).any (·.1)=am:=by rfl):PE X (.Call (.Name x p) (e::es) [] pos) (tCB r t):=by intro pins s σ H Q I h;refine c5 (xJ I b hm c ?_ hn qW);exact PyProof.Rows.callWith_builtin1 (jz (ha pos pins s σ H _ I h) λus s1 ⟨f,H1,g,r1,i⟩=>a pins s1 σ H1 f us Q g r1 i) he qX
theorem xP(a:nJ X (.type T) r)(b:Gl X x)(hm:X.mg x=ao)(c:bR x=aa (.type T))(ha:PA X (e::es) t)(hn:x≠"__name__":=by decide)(qW:(x==("__debug__":ay))=am:=by decide)
(he:aM (e::es) X.env=(am,eval e X.env)::aM es X.env:=by rfl)(qX:(cG pos (aM es X.env)).any (·.1)=am:=by rfl):PE X (.Call (.Name x p) (e::es) [] pos) (tCB r t):=by intro pins s σ H Q I h;refine c5 (xJ I b hm c ?_ hn qW);exact di (jz (ha pos pins s σ H _ I h) λus s1 ⟨f,H1,g,r1,i⟩=>a pins s1 σ H1 f us Q g r1 i) he qX
end
end L2
namespace L2
open PySem PySem.Spec PyProof.Rows
section
variable {κ:Type} [DecidableEq κ]
noncomputable def vA(a:List (κ×V))(k:κ):Option V:=(a.find? λb=>decide (b.1=k)).map (·.2)
noncomputable def zJ(b:List (κ×V))(k:κ)(v:V):List (κ×V):=
 if(b.any λa=>decide (a.1=k))=ah then b.map (λa=>if a.1=k then(a.1,v) else a) else b++[(k,v)]
theorem zK{p:κ×V}{r:List (κ×V)}{k:κ}(e:p.1=k):vA (p::r) k=aa p.2:=by simp[vA,ec,e]
theorem zL{p:κ×V}{r:List (κ×V)}{k:κ}(e:¬p.1=k):vA (p::r) k=vA r k:=by simp[vA,ec,e]
theorem qC.ur{o:Option V}{u:Option af}(r:qC o u):o.isSome=u.isSome:=by
 cases o with
 |none=>cases u with
  |none=>rfl
  |some _=>exact(show False from r).elim
 |some _=>cases u with
  |none=>exact(show False from r).elim
  |some _=>rfl
theorem KV.val{c:List (κ×V)}{f:List (κ×af)}(r:KV c f)(k:κ):qC (vA c k) (adK f k):=by
 unfold KV at r;induction r with
 |nil=>exact bO
 |@cons p q l a h t i=>
  obtain⟨g,j⟩:=h;by_cases e:p.1=k
  ·have e':q.1=k:=g.symm.trans e;have b:adK (q::a) k=aa q.2:=by simp[adK,ec,e']
   rw[zK e,b];exact j
  ·have e':¬q.1=k:=λz=>e (g.trans z);have b:adK (q::a) k=adK a k:=by simp[adK,ec,e']
   rw[zL e,b];exact i
theorem KV.any{b:List (κ×V)}{c:List (κ×af)}(r:KV b c)(k:κ):(b.any λa=>decide (a.1=k))=c.any λa=>decide (a.1=k):=by
 unfold KV at r;induction r with
 |nil=>rfl
 |cons h t e=>rw[cR,cR,e,h.1]
theorem KV.abY{c:List (κ×V)}{f:List (κ×af)}(r:KV c f)(k:κ){y:V}{u:af}(g:RelV y u):
  KV (c.map λa=>if a.1=k then(a.1,y) else a) (f.map λa=>if a.1=k then(a.1,u) else a):=by
 unfold KV at r ⊢;induction r with
 |nil=>exact .nil
 |@cons p q l m h t i=>
  rw[aR,aR];refine .cons ?_ i;obtain⟨b,j⟩:=h;by_cases e:p.1=k
  ·rw[if_pos e,if_pos (b.symm.trans e)];exact⟨b,g⟩
  ·rw[if_neg e,if_neg (λz=>e (b.trans z))];exact⟨b,j⟩
theorem KV.put{b:List (κ×V)}{a:List (κ×af)}(r:KV b a)(k:κ){y:V}{u:af}(c:RelV y u):KV (zJ b k y) (stored a k u):=by
 unfold zJ stored;rw[r.any k];by_cases e:(a.any λf=>decide (f.1=k))=ah
 ·rw[if_pos e,if_pos e];exact r.abY k c
 ·rw[if_neg e,if_neg e];exact Paired.snoc r ⟨rfl,c⟩
theorem KV.keys{a:List (κ×V)}{b:List (κ×af)}(r:KV a b):a.map (·.1)=b.map (·.1):=by
 unfold KV at r;induction r with
 |nil=>rfl
 |cons h t c=>rw[aR,aR,c,h.1]
theorem KV.length{a:List (κ×V)}{b:List (κ×af)}(r:KV a b):a.length=b.length:=Paired.length r
end
theorem Fh{P:aJ}{w:bj}{k:Key}{u:af}(r:RelV (kV k) u):(kz P w).is k u=ah:=by
 cases k with
 |inl i=>obtain⟨t,e⟩:=(show∃t,u=fg i t from r);subst e;exact E6 P w i t
 |inr x=>obtain⟨t,e⟩:=(show∃t,u=fR x t from r);subst e;exact E7 P w x t
theorem Cj{P:aJ}{w:bj}:∀{a:List Key} {us:List af},Vals (a.map kV) us->ItemsAre (kz P w) a us
 |[],_,r=>by rw[cO] at r;cases r;exact .nil
 |k::a,_,r=>by
  rw[aR] at r;cases r with
  |cons h t=>exact .cons (Fh h) (Cj t)
abbrev KT(H:Hp):List (List Key×V)->List (List Key×aj×af)->Prop:=Paired λp q=>p.1=q.1/\H q.2.1=aa (.tup (p.1.map kV))/\RelV p.2 q.2.2
theorem KT.val{H:Hp}{c:List (List Key×V)}{xs:List (List Key×aj×af)}(r:KT H c xs)(k:List Key):qC (vA c k) ((aem xs k).map (·.2)):=by
 induction r with
 |nil=>exact bO
 |@cons p q j a h t g=>
  obtain⟨f,_,i⟩:=h;by_cases e:p.1=k
  ·have e':q.1=k:=f.symm.trans e;have b:aem (q::a) k=aa q.2:=by simp[aem,ec,e']
   rw[zK e,b];exact i
  ·have e':¬q.1=k:=λz=>e (f.trans z);have b:aem (q::a) k=aem a k:=by simp[aem,ec,e']
   rw[zL e,b];exact g
section
variable {P:aJ} {w:bj} {H:Hp} {h:ar} {a:aj}
theorem Vn{u:HO}(ok:um P w H h)(e:Rd H a u):iN P w H h a u:=e.ok ok
theorem Ck{b:List (Key×V)}(ok:um P w H h)(e:Rd H a (.dK b)):b.length<=aE/\(a==dH)=am/\∃c,KV b c/\h.DictOf (kz P w) a c:=
 show iN P w H h a (.dK b) from Vn ok e
theorem Dc{b:List Key}(ok:um P w H h)(e:H a=aa (.tup (b.map kV))):(ad5 (kz P w)).is h b a:=by obtain⟨_,g8,r,o,c,f,n,g⟩:=(show iN P w H h a (.tup (b.map kV)) from ok a _ e);exact⟨o,g8.toArray,n,c,f,g,by simpa using Cj r⟩
theorem KD{c:List (List Key×V)}(ok:um P w H h)(e:Rd H a (.dT c)):c.length<=aE/\(a==dH)=am/\
  ∃xs,KT H c xs/\h.DictOfH (ad5 (kz P w)) a xs:=by
 obtain⟨z,y,xs,r,o,es,g,i,j,n,s,u⟩:=(show iN P w H h a (.dT c) from Vn ok e);refine⟨z,y,xs,r,o,es,g,i,j,n,s,λx b=>?_,u⟩;have all:∀{l:List (List Key×V)} {m:List (List Key×aj×af)},KT H l m->∀x∈m,(ad5 (kz P w)).is h x.1 x.2.1:=by
  intro l m q;induction q with
  |nil=>intro x b;exact nomatch b
  |@cons p q A B f t v=>
   intro x b;rcases az.mp b with e|b
   ·subst e;exact Dc ok (by rw[<-f.1];exact f.2.1)
   ·exact v x b
 exact all r x b
end
def wL (H:Hp)(a:aj)(y:V)(r:Option V):Prop:=
 (∃c k,Rd H a (.dK c)/\y=kV k/\r=vA c k)\/∃c k b,Rd H a (.dT c)/\y=.ref b/\H b=aa (.tup (k.map kV))/\r=vA c k
def Sw (H:Hp)(a:aj)(y v:V)(e:Hp):Prop:=
 (∃c k,H a=aa (.dK c)/\y=kV k/\c.length<aE/\e=upd H a (.dK (zJ c k v)))\/
 ∃c k b,H a=aa (.dT c)/\y=.ref b/\H b=aa (.tup (k.map kV))/\c.length<aE/\e=upd H a (.dT (zJ c k v))
theorem wL.k{H:Hp}{a:aj}{b:List (Key×V)}{k:Key}(e:H a=aa (.dK b)):wL H a (kV k) (vA b k):=.inl ⟨b,k,.inl e,rfl,rfl⟩
theorem wL.t{H:Hp}{a b:aj}{c:List (List Key×V)}{k:List Key}(e:H a=aa (.dT c))(f:H b=aa (.tup (k.map kV))):wL H a (.ref b) (vA c k):=.inr ⟨c,k,b,.inl e,rfl,f,rfl⟩
theorem Sw.k{H:Hp}{a:aj}{b:List (Key×V)}{k:Key}{v:V}(e:H a=aa (.dK b))(c:b.length<aE):Sw H a (kV k) v (upd H a (.dK (zJ b k v))):=.inl ⟨b,k,e,rfl,c,rfl⟩
theorem Sw.t{H:Hp}{a b:aj}{c:List (List Key×V)}{k:List Key}{v:V}(e:H a=aa (.dT c))(f:H b=aa (.tup (k.map kV)))(g:c.length<aE):
  Sw H a (.ref b) v (upd H a (.dT (zJ c k v))):=.inr ⟨c,k,b,e,rfl,f,g,rfl⟩
section
variable {X:Cx} {pins:List (aj×bS)} {σ:St} {H:Hp} {s:ai} {a:aj} {y v:V} {u r:af} {o:Option V} {A:ba} {E:af->ai->Prop}
theorem Inv.big(I:Inv X pins σ H s):dH<s.heap.objs.size:=by have h:aO<s.heap.objs.size:=(I.mod.glob.keeps I.bk).lt;exact Nat.lt_trans (by decide) h
theorem Ml{Q:af->ai->Prop}(q:A.units+1<adb)(I:Inv X pins σ H s)(g:wL H a y (aa v))(m:RelV y u)(h:∀c n,Inv X pins σ H n->RelV v c->Q c n):
  wpAny (model X.prog X.w) A (adj (.ref a) u) Q E s:=by
 rcases g with⟨x,k,e,f,l⟩|⟨x,k,b,e,f,B,l⟩
 ·subst f;obtain⟨z,hd,C,rel,dd⟩:=Ck I.iJ e;obtain⟨c,hw,i⟩:=qC.some_of (v:=v) (o:=adK C k) (by rw[l];exact rel.val k);exact wpAny_getItem_of (Fh m) dd.mapOf hw (h c _ (I.tok _) i)
 ·subst f;cases(show u=aN b from m);obtain⟨z,hd,xs,rel,dd⟩:=KD I.iJ e;obtain⟨c,hw,i⟩:=qC.some_of (v:=v) (o:=(aem xs k).map (·.2)) (by rw[l];exact rel.val k);obtain⟨p,G,j⟩:=Option.map_eq_some_iff.mp hw;refine wpAny_getItem_heap (adC q) (Dc I.iJ B) dd G ?_;rw[j];exact h c _ (I.tok _) i
theorem abZ{Q:af->ai->Prop}(j:A.units+1<adb)(I:Inv X pins σ H s)(g:wL H a y o)(f:RelV y u)(h:∀i,Inv X pins σ H i->Q (.bool o.isSome) i):
  wpAny (model X.prog X.w) A (compareOp .In u (.ref a)) Q E s:=by
 rcases g with⟨m,k,e,c,l⟩|⟨m,k,b,e,c,n,l⟩
 ·subst c;obtain⟨z,hd,p,rel,dd⟩:=Ck I.iJ e;refine wpAny_in_of (Fh f) hd dd.mapOf ?_;rw[<-(rel.val k).ur,<-l];exact h _ (I.tok _)
 ·subst c;cases(show u=aN b from f);obtain⟨z,hd,xs,rel,dd⟩:=KD I.iJ e;refine wpAny_in_heap (adC j) (Dc I.iJ n) hd dd ?_;have q:=(rel.val k).ur;rw[Option.isSome_map] at q;rw[<-q,<-l];exact h _ (I.tok _)
theorem Sx{Q:af->ai->Prop}(j:A.units+1<adb)(I:Inv X pins σ H s)(g:wL H a y o)(f:RelV y u)(h:∀i,Inv X pins σ H i->Q (.bool (!o.isSome)) i):
  wpAny (model X.prog X.w) A (compareOp .NotIn u (.ref a)) Q E s:=by
 rcases g with⟨m,k,e,c,l⟩|⟨m,k,b,e,c,n,l⟩
 ·subst c;obtain⟨z,hd,p,rel,dd⟩:=Ck I.iJ e;refine wpAny_notIn_of (Fh f) hd dd.mapOf ?_;rw[<-(rel.val k).ur,<-l];exact h _ (I.tok _)
 ·subst c;cases(show u=aN b from f);obtain⟨z,hd,xs,rel,dd⟩:=KD I.iJ e;refine wpAny_notIn_heap (adC j) (Dc I.iJ n) hd dd ?_;have q:=(rel.val k).ur;rw[Option.isSome_map] at q;rw[<-q,<-l];exact h _ (I.tok _)
theorem WA{P:aJ}{w:bj}{f:Hp}{e:ar}{b:List (Key×V)}{c:List (Key×af)}(z:b.length<=aE)(hd:(a==dH)=am)(rel:KV b c)(dd:e.DictOf (kz P w) a c):
  iN P w f e a (.dK b):=⟨z,hd,c,rel,dd⟩
end
section
variable {X:Cx} {pins:List (aj×bS)} {σ:St} {H:Hp} {s:ai} {a:aj} {ik:List (Key×V)} {k:Key} {u:af} {A:ba} {E:af->ai->Prop}
theorem ZE{Q:af->ai->Prop}(I:Inv X pins σ H s)(e:Rd H a (.dK ik))(h:∀t b,Inv X pins σ H b->Q (.int ik.length t) b):wpAny (model X.prog X.w) A (call (.builtin "len") [.ref a]) Q E s:=by obtain⟨z,hd,c,rel,dd⟩:=Ck I.iJ e;refine call_len_dict hd dd (by rw[<-rel.length];rw[gb] at z;omega) ?_;rw[<-rel.length];exact h _ _ (I.tok _)
end
theorem yG{X:Cx}{pins:List (aj×bS)}{σ:St}{H:Hp}{s:ai}{a:aj}{y:V}{o:Option V}(I:Inv X pins σ H s)(g:wL H a y o):s.TypeIs (.ref a) "dict":=by
 rcases g with⟨c,k,e,_,_⟩|⟨c,k,b,e,_,_,_⟩
 ·obtain⟨_,_,f,_,dd⟩:=Ck I.iJ e;exact dd.typeIs
 ·obtain⟨_,_,xs,_,dd⟩:=KD I.iJ e;exact dd.typeIs
section
variable {X:Cx} {o i e value:bh} {pos pos' y3:c7} {td ty tv:TE}
end
section
variable {X:Cx} {pos:c7}
end
def Ig:List (TE×TE)->St->Hp->(List (V×V)->Hp->Prop)->Prop
 |[],_,H,Q=>Q [] H
 | (tk,a)::r,σ,H,Q=>tk σ H λx H1=>a σ H1 λy b=>Ig r σ b λc e=>Q ((x,y)::c) e
abbrev VV:List (V×V)->List (af×af)->Prop:=Paired λp q=>RelV p.1 q.1/\RelV p.2 q.2
def PPs (X:Cx)(pos:c7)(keys:List (Option bh))(values:List bh)(a:List (TE×TE)):Prop:=
 ∀(pins:List (aj×bS)) (s:ai) (σ:St) (H:Hp) (Q:List (V×V)->Hp->Prop),Inv X pins σ H s->Ig a σ H Q->
  wpAny (model X.prog X.w) X.A (evalPairs (pairTrees keys values X.env pos)) (λe f=>∃b c,Inv X pins σ c f/\VV b e/\Q b c) X.xe s
noncomputable def vB(b more:List (Key×V)):List (Key×V):=more.foldl (λacc a=>zJ acc a.1 a.2) b
structure M1(X:Cx)(o:bh)(m:ay)(apos:c7)(e:bh)(jj:c7):Prop where
 base:cK o m X.env (eval o X.env)=eval o X.env
 few:((cG jj (aM [e] X.env)).all (λx=>!x.1)&&(ado jj (fq [] X.env)).all (λx=>x.1.isSome)
  &&decide (([e]:List bh).length+([]:List adi).length+(if([]:List adi).isEmpty then 0 else 1)<30))=ah
 line:(apos.endLine==jj.line)=ah
 trees:cG jj (aM [e] X.env)=[(am,eval e X.env)]
structure M2(X:Cx)(o:bh)(m:ay)(apos:c7)(e f:bh)(jj:c7):Prop where
 base:cK o m X.env (eval o X.env)=eval o X.env
 few:((cG jj (aM [e,f] X.env)).all (λx=>!x.1)&&(ado jj (fq [] X.env)).all (λx=>x.1.isSome)
  &&decide (([e,f]:List bh).length+([]:List adi).length+(if([]:List adi).isEmpty then 0 else 1)<30))=ah
 line:(apos.endLine==jj.line)=ah
 trees:cG jj (aM [e,f] X.env)=[(am,eval e X.env),(am,eval f X.env)]
section
variable {X:Cx} {pins:List (aj×bS)} {σ:St} {H:Hp} {s:ai} {a:aj} {y d:V} {u r:af} {o:Option V} {A:ba} {E:af->ai->Prop}
end
section
variable {X:Cx} {o e f:bh} {apos jj:c7} {td ty tx:TE}
end
section
variable {X:Cx} {pins:List (aj×bS)} {σ:St} {H:Hp} {s:ai} {a:aj} {ik:List (Key×V)} {A:ba} {E:af->ai->Prop}
end
section
variable {X:Cx} {pins:List (aj×bS)} {σ:St} {H:Hp} {s:ai} {a:aj} {y:V} {u:af} {A:ba} {E:af->ai->Prop}
end
end L2
namespace HT
open PySem PyProof.Rows
section
open PySem.SeqAt
open PySem.AutoSeq1 (wpAny_loadPart')
open PySem.MeetsSeq PySem.MeetsSeq2 PySem.MeetsSeq3
end
section
variable {prog:aJ} {w:bj} {A:ba} {E:af->ai->Prop} {s:ai}
theorem Sy{t b:aj}{c ws:List af}{Q:af->ai->Prop}(o:adt s.heap t c.toArray)(p:adt s.heap b ws.toArray)(l:c≠[])
(q:ws=[]->Q (.ref t) s)(r:ws≠[]->Q (.ref s.heap.objs.size) {s with heap:=s.heap.push {cls:=.type "tuple",data:=.seq (c++ws).toArray}})
(u:c.length+ws.length<=aE):wpAny (model prog w) A (binaryOp .Add (.ref t) (.ref b)) Q E s:=by
 obtain⟨⟨cls,dd,data,sl⟩,j,m,n,hd⟩:=id o;obtain⟨⟨v,f,data2,g⟩,a,h,n2,i⟩:=id p;simp only at m hd h i;subst m hd h i;have e:c.toArray++ws.toArray=(c++ws).toArray:=by simp
 by_cases hw:ws=[]
 ·exact concat_meets ⟨_,j,rfl⟩ ⟨_,a,rfl⟩ aeX afl PySem.F.slot_tuple_add PySem.F.entry_tuple_add (PySem.F.args_tuple_add_2 _ _)
   (tuple_addW1 t b c.toArray ws.toArray n n2 dd f sl g (by simpa using l) (by simp[hw])) ⟨j,a,q hw⟩
 ·refine concat_meets ⟨_,j,rfl⟩ ⟨_,a,rfl⟩ aeX afl PySem.F.slot_tuple_add PySem.F.entry_tuple_add (PySem.F.args_tuple_add_2 _ _)
   (tuple_addW2 t b c.toArray ws.toArray n n2 dd f sl g (by simpa using l) (by simpa using hw) (by rw[aT,aT];exact u)) ⟨j,a,?_⟩
  rw[e];exact r hw
noncomputable def lH(n d:Nat):Option Int->Nat
 |none=>d
 |some v=>if v<0 then(v+(n:Int)).toNat else min v.toNat n
theorem zM(n d:Nat):lH n d ao=d:=rfl
theorem KG(n d k:Nat):lH n d (aa (k:Int))=min k n:=by show(if(k:Int)<0 then((k:Int)+(n:Int)).toNat else min (k:Int).toNat n)=min k n;rw[if_neg (by omega),Int.toNat_natCast]
theorem WB(n d:Nat)(hd:d<=n)(o:Option Int):lH n d o<=n:=by
 cases o with
 |none=>exact hd
 |some v=>
  show(if v<0 then(v+(n:Int)).toNat else min v.toNat n)<=n;by_cases a:v<0
  ·rw[if_pos a];omega
  ·rw[if_neg a];exact Nat.min_le_right _ _
theorem KH(v:Int)(n d:Nat):(if v<0 then max (v+(n:Int)) 0 else min v (n:Int))=((lH n d (aa v):Nat):Int):=by
 show(if v<0 then max (v+(n:Int)) 0 else min v (n:Int))=(((if v<0 then(v+(n:Int)).toNat else min v.toNat n):Nat):Int);by_cases a:v<0
 ·simp only [if_pos a];omega
 ·simp only [if_neg a];omega
theorem Ih(lo hi:Option Int)(n:Nat):eQ lo hi 1 (n:Int)=(((lH n 0 lo:Nat):Int),((lH n n hi:Nat):Int)):=by
 have a:¬((1:Int)<0):=by omega
 unfold eQ;simp only [a,if_false];refine Prod.ext ?_ ?_
 ·cases lo with
  |none=>rfl
  |some v=>exact KH v n 0
 ·cases hi with
  |none=>rfl
  |some v=>exact KH v n n
theorem Ii(i j:Nat):dB (i:Int) (j:Int) 1=j- i:=by
 unfold dB;have a:(1:Int)>0:=by omega
 simp only [a,if_true,Int.ediv_one];split<;>omega
theorem zN{v:af}{o:Option Int}{Q:Option Int->ai->Prop}(p:adQ v o)(h:Q o s):wpAny (model prog w) A (bt.Slice.slicePartIndex v) Q E s:=by
 cases p with
 |none=>exact ae7 h
 |int i t=>exact slicePart_int h
theorem xQ{sl:aj}{a b:af}{lo hi:Option Int}{n:Nat}{Q:Int×Int×Nat->ai->Prop}(f:s.heap.IsSliceOf sl a b .none)(pl:adQ a lo)(g:adQ b hi)
(h:Q (((lH n 0 lo:Nat):Int),1,lH n n hi- lH n 0 lo) s):wpAny (model prog w) A (bt.Slice.sliceApplied (.ref sl) (pure (n:Int))) Q E s:=by obtain⟨os,c,i,e⟩:=id f;unfold bt.Slice.sliceApplied bt.Slice.sliceFields;refine ag (ag (bV c e (x:=a) rfl (ag (bV c e (x:=b) rfl (ag (bV c e (x:=.none) rfl (aq ?_)))))));refine ag (ae7 ?_);show wpAny _ _ (if((1:Int)==0)=ah then _ else _) _ _ s;rw[if_neg (by decide)];refine ag (zN pl (ag (zN g (ag (aq ?_)))));show wpAny _ _ (match eQ lo hi 1 (n:Int) with|(lo,hi)=>pure (lo,(1:Int),dB lo hi 1)) _ _ s;rw[Ih lo hi n];show wpAny _ _ (pure (((lH n 0 lo:Nat):Int),(1:Int),dB ((lH n 0 lo:Nat):Int) ((lH n n hi:Nat):Int) 1)) _ _ s;rw[Ii];exact aq h
theorem Ox(xs:Array af)(i k:Nat):((dn k).filterMap λ(m:Nat)=>xs[((i:Int)+(m:Int)*1).toNat]?).toArray=((xs.toList.drop i).take k).toArray:=by
 have e:(λ(m:Nat)=>xs[((i:Int)+(m:Int)*1).toNat]?)=λm=>xs[i+m]?:=by
  funext m;have:((i:Int)+(m:Int)*1).toNat=i+m:=by omega
  rw[this]
 rw[e];have:=pick_run xs i k;rw[List.filterMap_map] at this;have e2:((λx=>xs[x]?)∘λx=>i+x)=λm=>xs[i+m]?:=rfl;rw[e2] at this;rw[this]
theorem wM{t sl:aj}{items:Array af}{f g:af}{lo hi:Option Int}{Q:af->ai->Prop}(a:adt s.heap t items)(i:s.heap.IsSliceOf sl f g .none)(pl:adQ f lo)(j:adQ g hi)
(hw:¬(lH items.size 0 lo=0/\lH items.size items.size hi=items.size))
(h:Q (.ref s.heap.objs.size) {s with heap:=s.heap.push {cls:=.type "tuple",data:=.seq ((items.toList.drop (lH items.size 0 lo)).take (lH items.size items.size hi- lH items.size 0 lo)).toArray}})
(o:items.size<=aE):wpAny (model prog w) A (adj (.ref t) (.ref sl)) Q E s:=by
 have b:sizeOk (.seq ((items.toList.drop (lH items.size 0 lo)).take (lH items.size items.size hi- lH items.size 0 lo)).toArray):=by show((items.toList.drop (lH items.size 0 lo)).take (lH items.size items.size hi- lH items.size 0 lo)).toArray.size<=aE;rw[aT,cw,eK,eV];omega
 have p:lH items.size items.size hi<=items.size:=WB _ _ (bf _) hi;obtain⟨os,l,c,r⟩:=id i;have n:s.TypeIs (.ref sl) "slice":=⟨os,l,c⟩;unfold adj;try with_reducible refine cc ?_
 first|refine ag (aq ?_)|skip
 refine ag (aeJ a.typeIs (by decide) ?_);refine ag (cQ (name:=cS "__getitem__") a.typeIs d7
  (dw d7 a.typeIs entry_tuple_getitem ?_ (args_tuple_getitem _ _)))
 show wpAny _ _ (bt.Tuple.tupleItemsOf (.ref t) >>= _) _ _ s;refine ag (tupleItemsOf_ a ?_);refine ag (aed n ?_);rw[if_pos (by decide)];refine ag (xQ i pl j ?_);have e:¬((((lH items.size 0 lo:Nat):Int)==0&&(1:Int)==1&&(lH items.size items.size hi- lH items.size 0 lo)==items.size)=ah):=by intro q;rw[aH,aH] at q;have u:((lH items.size 0 lo:Nat):Int)=0:=eq_of_beq q.1.1;have v:lH items.size items.size hi- lH items.size 0 lo=items.size:=eq_of_beq q.2;exact hw ⟨by omega,by omega⟩
 show wpAny _ _ (if(((lH items.size 0 lo:Nat):Int)==0&&(1:Int)==1&&(lH items.size items.size hi- lH items.size 0 lo)==items.size)=ah then _ else _) _ _ s;rw[if_neg e,Ox];first
  |exact ag (m:=dJ _) (cm (aq ⟨_,rfl,aq h⟩) b)
  |exact ag (m:=dJ _) (cm (ag (aq (aq ⟨_,rfl,aq h⟩))) b)
  |exact ag (ag (m:=dJ _) (cm (aq (aq ⟨_,rfl,aq h⟩)) b))
  |exact ag (ag (m:=dJ _) (cm (aq ⟨_,rfl,aq h⟩) b))
end
end HT
namespace L2
open PySem PySem.Spec PyProof.Rows
abbrev TO:=St->Hp->(Option Int->Hp->Prop)->Prop
def PO (X:Cx)(e:Option bh)(t:TO):Prop:=
 ∀(pins:List (aj×bS)) (s:ai) (σ:St) (H:Hp) (Q:Option Int->Hp->Prop),Inv X pins σ H s->t σ H Q->
  wpAny (model X.prog X.w) X.A (evalPart e X.env) (λu b=>∃o a,Inv X pins σ a b/\adQ u o/\Q o a) X.xe s
noncomputable def Sz:TO:=λ_ H Q=>Q ao H
noncomputable def ZH(t:TE):TO:=λσ H Q=>t σ H λx H1=>∃i,x=.int i/\Q (aa i) H1
section
variable {X:Cx} {e:bh} {te:TE} {lo hi:Option bh} {tl th:TO} {pos p2:c7}
theorem SA:PO X ao Sz:=by intro pins s σ H Q I h;rw[afm];exact aq ⟨ao,H,I,.none,h⟩
theorem SD(h:PE X e te):PO X (aa e) (ZH te):=by intro pins s σ H Q I hw;rw[evalPart_some];refine jz (h pins s σ H _ I hw) λu s1 ⟨x,H1,a,r1,b⟩=>?_;obtain⟨i,rfl,q⟩:=b;obtain⟨t,rfl⟩:=r1;exact⟨aa i,H1,a,.int i t,q⟩
def RY (X:Cx)(r:V->Option Int->Option Int->Hp->VK->Prop):Prop:=
 ∀(pins:List (aj×bS)) (s:ai) (σ:St) (H:Hp) (x:V) (v a b:af) (lo hi:Option Int) (sl:aj) (Q:VK),Inv X pins σ H s->RelV x v->s.heap.IsSliceOf sl a b .none->adQ a lo->adQ b hi->r x lo hi H Q->
  ∃T id,adV (.type T) "__getitem__"=pure (aa (.builtin id))/\s.TypeIs v T/\wpAny (model X.prog X.w) X.A (adj v (.ref sl)) (EP X pins σ Q) X.xe s
theorem RY.or{r a:V->Option Int->Option Int->Hp->VK->Prop}(h:RY X r)(j:RY X a):RY X (λx lo hi H Q=>r x lo hi H Q\/a x lo hi H Q):=by
 intro pins s σ H x v b c lo hi sl Q I f g pl i q;rcases q with q|q
 ·exact h pins s σ H x v b c lo hi sl Q I f g pl i q
 ·exact j pins s σ H x v b c lo hi sl Q I f g pl i q
noncomputable def tSl(r:V->Option Int->Option Int->Hp->VK->Prop)(te:TE)(tl th:TO):TE:=λσ H Q=>te σ H λx H1=>tl σ H1 λl a=>th σ a λu b=>r x l u b Q
theorem Oy{r:V->Option Int->Option Int->Hp->VK->Prop}(g:RY X r)(i:PE X e te)(j:PO X lo tl)(m:PO X hi th):PE X (.Subscript e (.Slice lo hi ao p2) pos) (tSl r te tl th):=by intro pins s σ H Q I h;refine Subscript_ (jz (i pins s σ H _ I h) λv s1 ⟨x,H1,n,r1,o⟩=>?_);refine wpAny_Slice (jz (j pins s1 σ H1 _ n o) λa s2 ⟨l,p,y,pl,z⟩=>jz (m pins s2 σ p _ y z) λc s3 ⟨u,f,B,C,E⟩=>?_);rw[afm];refine aq ?_;have G:Inv X pins σ f {s3 with heap:=s3.heap.push {cls:=.type "slice",data:=.fields #[a,c,.none]}}:=B.kept (t':=s3.toks) λb ob q=>ak _ q;obtain⟨T,id,J,L,M⟩:=g pins {s3 with heap:=s3.heap.push {cls:=.type "slice",data:=.fields #[a,c,.none]}} σ f x v a c l u s3.heap.objs.size Q G r1 (ar.IsSliceOf.new ..) pl C E;show wpAny (model X.prog X.w) X.A (ady e (.Slice lo hi ao p2) v (.ref s3.heap.objs.size)) (EP X pins σ Q) X.xe {s3 with heap:=s3.heap.push {cls:=.type "slice",data:=.fields #[a,c,.none]}};exact tail_any (ops:=[.ref s3.heap.objs.size,v]) L J M (by with_unfolding_all rfl)
noncomputable def Fi(xs:List V)(lo hi:Option Int):List V:=(xs.drop (HT.lH xs.length 0 lo)).take (HT.lH xs.length xs.length hi- HT.lH xs.length 0 lo)
theorem yH(xs:List V)(lo hi:Option Int):(Fi xs lo hi).length<=xs.length:=by unfold Fi;rw[cw,eK];omega
def ab0 (K:W.Frag):V->Option Int->Option Int->Hp->VK->Prop:=λx lo hi H Q=>∃a xs,x=.ref a/\xL K H a xs/\
 ¬(HT.lH xs.length 0 lo=0/\HT.lH xs.length xs.length hi=xs.length)/\∀p,H p=ao->Q (.ref p) (upd H p (.tup (Fi xs lo hi)))
theorem WC:RY X (ab0 X.K):=by
 intro pins s σ H x v n p lo hi sl Q I i j pl l h;obtain⟨a,xs,rfl,m,hw,q⟩:=h;cases i;obtain⟨g8,r,f,g⟩:=I.tuple m;have c:g8.toArray.size=xs.length:=by rw[aT];exact r.length.symm
 refine⟨"tuple",_,d7.lookup,f.typeIs,?_⟩;refine HT.wM f j pl l (by rw[c];exact hw) ?_ (by rw[c];exact g);rw[c];refine⟨.ref s.heap.objs.size,_,I.laid (t':=s.toks) (o:=.tup (Fi xs lo hi)) (λb ob q=>ak _ q) (bf _) ?_,rfl,q _ (I.iJ.fresh (bf _))⟩;exact⟨aS (yH xs lo hi) g,_,(r.drop (HT.lH xs.length 0 lo)).take (HT.lH xs.length xs.length hi- HT.lH xs.length 0 lo),adt.new _ _⟩
noncomputable def ZI(K:W.Frag):R2:=λx y H Q=>∃a b xs c,x=.ref a/\y=.ref b/\xL K H a xs/\xL K H b c/\xs≠[]/\xs.length+c.length<=aE/\
 (c=[]->Q (.ref a) H)/\(c≠[]->∀p,H p=ao->Q (.ref p) (upd H p (.tup (xs++c))))
theorem Vals.Dd{xs:List V}{us:List af}(r:Vals xs us):us=[]↔xs=[]:=by
 cases r with
 |nil=>simp
 |cons _ _=>simp
theorem SE:sH X (binaryOp .Add) (ZI X.K):=by intro pins s σ H x y v u Q I f g h;obtain⟨a,b,xs,i,rfl,rfl,ha,j,l,c,m,n⟩:=h;cases f;cases g;obtain⟨g8,r1,p,_⟩:=I.tuple ha;obtain⟨r,r2,p2,_⟩:=I.tuple j;refine HT.Sy p p2 (λz=>l (r1.Dd.mp z)) (λz=>⟨.ref a,H,I,rfl,m (r2.Dd.mp z)⟩) (λz=>?_) (by rw[<-r1.length,<-r2.length];exact c);refine⟨.ref s.heap.objs.size,_,I.laid (t':=s.toks) (o:=.tup (xs++i)) (λb ob q=>ak _ q) (bf _) ?_,rfl,n (λw=>z (r2.Dd.mpr w)) _ (I.iJ.fresh (bf _))⟩;exact⟨by rw[bL];exact c,_,r1.append r2,adt.new _ _⟩
end
end L2
namespace L2
open PySem PySem.Spec PyProof.Rows
noncomputable def E4(n:Nat)(i:Int):Option Nat:=if 0<=i then(if i<n then aa i.toNat else ao) else if-(n:Int)<=i then aa (i+n).toNat else ao
noncomputable def vC{α:Type}(xs:List α)(i:Int):Option α:=(E4 xs.length i).bind λj=>xs[j]?
theorem KJ{n:Nat}{i:Int}{j:Nat}(h:E4 n i=aa j):seqIndex? i n=aa j/\j<n/\-(n:Int)<=i/\i<n:=by
 unfold E4 at h;by_cases b:0<=i
 ·rw[if_pos b] at h;by_cases a:i<n
  ·rw[if_pos a] at h;have e:i.toNat=j:=bq h;exact⟨by rw[aen b a,e],by omega,by omega,a⟩
  ·rw[if_neg a] at h;cases h
 ·rw[if_neg b] at h;by_cases a:-(n:Int)<=i
  ·rw[if_pos a] at h;have e:(i+n).toNat=j:=bq h;exact⟨by rw[seqIndex_neg (by omega) a,e],by omega,a,by omega⟩
  ·rw[if_neg a] at h;cases h
theorem De{α:Type}{xs:List α}{i:Int}{v:α}(h:vC xs i=aa v):∃j,seqIndex? i xs.length=aa j/\xs[j]?=aa v/\j<xs.length/\-(xs.length:Int)<=i/\i<xs.length:=by
 unfold vC at h;cases e:E4 xs.length i with
 |none=>rw[e] at h;cases h
 |some j=>
  rw[e] at h;obtain⟨a,b,c,f⟩:=KJ e;exact⟨j,a,h,b,c,f⟩
theorem Fj{α:Type}(xs:List α)(v:α):vC (xs++[v]) (-1)=aa v:=by
 have a:(xs++[v]).length=xs.length+1:=by simp
 have e:E4 (xs++[v]).length (-1)=aa xs.length:=by unfold E4;rw[a,if_neg (by decide),if_pos (by omega)];congr 1;omega
 unfold vC;rw[e];show(xs++[v])[xs.length]?=aa v;simp
def KL (b:bh):Prop:=∀o i,subscripted b am o i=operate [o,i] (adj o i)
def WE (X:Cx)(r:R2):Prop:=
 ∀(value slice:bh) (pins:List (aj×bS)) (s:ai) (σ:St) (H:Hp) (x y:V) (v u:af) (Q:VK),Inv X pins σ H s->RelV x v->RelV y u->r x y H Q->
  subscripted slice am v u=operate [v,u] (adj v u)->wpAny (model X.prog X.w) X.A (ady value slice v u) (EP X pins σ Q) X.xe s
def ZJ (X:Cx)(id:String)(r:V->List V->Hp->VK->Prop):Prop:=
 ∀(pins:List (aj×bS)) (s:ai) (σ:St) (H:Hp) (x:V) (xs:List V) (v:af) (us:List af) (Q:VK),Inv X pins σ H s->RelV x v->Vals xs us->r x xs H Q->
  wpAny (model X.prog X.w) X.A (call (.builtin id) (v::us)) (EP X pins σ Q) X.xe s
section
variable {X:Cx} {a b:bh} {ta tb:TE} {pos:c7}
theorem ZK{r:R2}(c:WE X r)(ha:PE X a ta)(e:PE X b tb)(f:KL b):PE X (.Subscript a b pos) (Zn r ta tb):=by intro pins s σ H Q I h;exact Subscript_ (Wo ha e I h λv u s2 x y g i j l q=>c a b pins s2 σ g x y v u Q i j l q (f _ _))
noncomputable def ab1(K:W.Frag):R2:=λx y H Q=>∃p xs i v,x=.ref p/\y=.int i/\pH K H p xs/\vC xs i=aa v/\Q v H
noncomputable def ab2(K:W.Frag):R2:=λx y H Q=>∃p xs i v,x=.ref p/\y=.int i/\xL K H p xs/\vC xs i=aa v/\Q v H
noncomputable def ab3:R2:=λx y H Q=>∃z i c,x=.str z/\y=.int i/\z.length<=aE/\vC z.cps.toList i=aa c/\Q (.str ⟨#[c]⟩) H
theorem KN:WE X (ab1 X.K):=by
 intro value slice pins s σ H x y v u Q I n o h f;obtain⟨p,xs,i,z,rfl,rfl,A,B,q⟩:=h;cases n;obtain⟨t,rfl⟩:=o;obtain⟨g8,r,pl,N⟩:=I.list A;obtain⟨j,c,C,O,E,G⟩:=De B;obtain⟨w,g,J⟩:=r.get C;have L:=r.length;have hn:=xO;have l:EP X pins σ Q w s:=⟨z,H,I,J,q⟩;by_cases m:0<=i
 ·have e:i.toNat=j:=by rw[aen m G] at c;exact bq c
  exact item_listR pl.isList m (by omega) (by rw[e];simpa using g) l f
 ·have e:(i+(g8.toArray.size:Int)).toNat=j:=by rw[seqIndex_neg (by omega) E] at c;rw[aT,<-L];exact bq c
  exact aee (x:=w) pl.isList.typeIs aeK.lookup
   (wpAny_getItem_list_neg (Q:=λr M=>r=w/\EP X pins σ Q r M) pl.isList (by omega) (by rw[aT]<;>omega) (by omega) (by rw[e];simpa using g) ⟨rfl,l⟩) f
theorem WG:WE X (ab2 X.K):=by
 intro value slice pins s σ H x y v u Q I c e h f;obtain⟨p,xs,i,z,rfl,rfl,g,l,q⟩:=h;cases c;obtain⟨t,rfl⟩:=e;obtain⟨g8,r,pl,G⟩:=I.tuple g;obtain⟨j,m,n,J,L,M⟩:=De l;obtain⟨w,o,A⟩:=r.get n;have B:=r.length;have hn:=xO;have C:EP X pins σ Q w s:=⟨z,H,I,A,q⟩;exact aee (x:=w) pl.typeIs slot_tuple_getitem.lookup
  (getItem_tuple (j:=j) (Q:=λr E=>r=w/\EP X pins σ Q r E) pl (by omega) (by omega) (by rw[aT,<-B];exact m) (by simpa using o) ⟨rfl,C⟩) f
theorem WH:WE X ab3:=by
 intro value slice pins s σ H x y v u Q I f g h l;obtain⟨z,i,c,rfl,rfl,w,m,q⟩:=h;obtain⟨t,rfl⟩:=f;obtain⟨A,rfl⟩:=g;obtain⟨j,e,n,B,o,p⟩:=De m;have r:z.cps.toList.length=z.length:=by simp[ay.length]
 rw[r] at e o p;have hn:=xO;exact tail_any (adW s z t) slot_str_getitem.lookup (getItem_str (c:=c) (by have e1:decide (i< -(2^63:Int))=am:=decide_eq_false (by omega);have e2:decide (i>=2^63)=am:=decide_eq_false (by omega);rw[e1,e2,Bool.or_false]) (by rw[e];simpa using n) ⟨.str ⟨#[c]⟩,H,I.tok _,⟨_,rfl⟩,q⟩) l
theorem Ij(g8:List af)(n j:Nat)(u:af):bS.mapSeq (·.setIfInBounds j u) {cls:=.type "list",data:=.seq g8.toArray n}={cls:=.type "list",data:=.seq (g8.set j u).toArray n}:=by simp[bS.mapSeq]
theorem Inv.lst{pins:List (aj×bS)}{σ:St}{H:Hp}{s:ai}{p:aj}{xs:List V}(I:Inv X pins σ H s)(h:H p=aa (.lst xs)):
  ∃(g8:List af) (n:Nat),Vals xs g8/\s.heap.get? p=aa {cls:=.type "list",data:=.seq g8.toArray n}/\xs.length<=aE:=by obtain⟨z,g8,n,r,e⟩:=I.iJ p _ h;exact⟨g8,n,r,e,z⟩
theorem Inv.WI{pins:List (aj×bS)}{σ:St}{H:Hp}{s:ai}{p:aj}{xs g:List V}{g8 c:List af}{n i:Nat}{f:bS->bS}(I:Inv X pins σ H s)(h:H p=aa (.lst xs))
(l:s.heap.get? p=aa {cls:=.type "list",data:=.seq g8.toArray n})(j:f {cls:=.type "list",data:=.seq g8.toArray n}={cls:=.type "list",data:=.seq c.toArray i})(r:Vals g c)(m:g.length<=aE)(t:Nat):
  Inv X pins σ (upd H p (.lst g)) {s with heap:=s.heap.update p f,toks:=t}:=by
 have e:(s.heap.update p f).get? p=aa {cls:=.type "list",data:=.seq c.toArray i}:=by rw[bY f l (by rw[j]<;>rfl),j]
 refine I.write (x:=p) (e:=p) (by rw[h];trivial) (.inl rfl) (λb u o q=>(bv _ _ (bU o)).trans q) ⟨_,e⟩ ?_;exact⟨m,c,i,r,e⟩
def ZL:V->V->V->Hp->(Hp->Prop)->Prop:=λo i v H Q=>∃p xs k j,o=.ref p/\i=.int k/\H p=aa (.lst xs)/\E4 xs.length k=aa j/\Q (upd H p (.lst (xs.set j v)))
theorem Oz:Zj X ZL:=by
 intro pins s σ H o i v G J u Q I z A B h;obtain⟨p,xs,k,j,rfl,rfl,l,C,q⟩:=h;cases z;obtain⟨t,rfl⟩:=A;obtain⟨g8,n,r,e,E⟩:=I.lst l;obtain⟨c,L,m,w⟩:=KJ C;have f:=r.length;have hn:=xO;have x:Inv X pins σ (upd H p (.lst (xs.set j v))) {s with heap:=s.heap.update p (bS.mapSeq (·.setIfInBounds j u))}:=
  I.WI l e (Ij g8 n j u) (r.set B j) (by rw[ef];exact E) s.toks
 by_cases y:0<=k
 ·have g:k.toNat=j:=by rw[aen y w] at c;exact bq c
  exact W.ki_setAt e y (by omega) (by rw[aT,<-f];exact w) (by rw[g];exact⟨_,x,q⟩)
 ·have g:(k+(g8.toArray.size:Int)).toNat=j:=by rw[seqIndex_neg (by omega) m] at c;rw[aT,<-f];exact bq c
  exact W.ki_setBack e (by omega) (by rw[aT,<-f];exact m) (by omega) (by rw[g];exact⟨_,x,q⟩)
theorem Df(lo hi:Option Int)(n:Nat):(ft lo hi ao n).1=((HT.lH n 0 lo:Nat):Int)/\(ft lo hi ao n).2.1=((HT.lH n n hi:Nat):Int)/\(ft lo hi ao n).2.2=1:=by
 refine⟨?_,?_,rfl⟩
 ·cases lo with
  |none=>simp[ft,HT.lH]
  |some i=>
   simp only [ft,HT.lH,Option.getD_none,show(1:Int)>0 by decide,if_true];by_cases h:i<0
   ·simp only [h,if_true]<;>omega
   ·simp only [h,if_false]<;>omega
 ·cases hi with
  |none=>simp[ft,HT.lH]
  |some i=>
   simp only [ft,HT.lH,Option.getD_none,show(1:Int)>0 by decide,if_true];by_cases h:i<0
   ·simp only [h,if_true]<;>omega
   ·simp only [h,if_false]<;>omega
theorem BC(g8:List af)(lo hi:Option Int):slicePick g8.toArray lo hi ao=((g8.drop (HT.lH g8.length 0 lo)).take (HT.lH g8.length g8.length hi- HT.lH g8.length 0 lo)).toArray:=by obtain⟨c,e,f⟩:=Df lo hi g8.toArray.size;unfold slicePick;rw[c,e,f];simp only [sliceRange_one,pick_run,aT]<;>rfl
def ab4 (K:W.Frag):V->Option Int->Option Int->Hp->VK->Prop:=λx lo hi H Q=>∃a xs,x=.ref a/\pH K H a xs/\∀p,H p=ao->Q (.ref p) (upd H p (.lst (Fi xs lo hi)))
theorem SG:RY X (ab4 X.K):=by intro pins s σ H x v m n lo hi sl Q I e f pl g h;obtain⟨a,xs,rfl,i,q⟩:=h;cases e;obtain⟨g8,r,c,j⟩:=I.list i;have l:=r.length;refine⟨"list",_,aeK.lookup,c.isList.typeIs,?_⟩;refine wpAny_getItem_list_slice c.isList f pl g .none (by simp) ?_ (by rw[aT]<;>omega);rw[BC,<-l];refine⟨.ref s.heap.objs.size,_,I.laid (t':=s.toks) (o:=.lst (Fi xs lo hi)) (λb ob q=>ak _ q) (bf _) ?_,rfl,q _ (I.iJ.fresh (bf _))⟩;exact⟨aS (yH xs lo hi) j,_,0,(r.drop (HT.lH xs.length 0 lo)).take (HT.lH xs.length xs.length hi- HT.lH xs.length 0 lo),aQ _ rfl⟩
noncomputable def uZ:V->Bool
 |.non=>ah
 |.bl _=>ah
 |.int _=>ah
 |.str _=>ah
 |_=>am
noncomputable def SH:V->V->Bool
 |.non,.non=>ah
 |.bl a,.bl b=>a==b
 |.bl a,.int b=>(if a then 1 else 0)==b
 |.int a,.bl b=>a==(if b then 1 else 0)
 |.int a,.int b=>a==b
 |.str a,.str b=>a==b
 |_,_=>am
theorem WJ{A:ba}{s:ai}{y x:V}{u v:af}(f:RelV y u)(c:RelV x v)(h:uZ y=ah)(g:uZ x=ah):b9 A s u v (SH y x):=by
 cases y with
 |non=>
  cases f;cases x with
  |non=>cases c;exact b9.same _
  |bl b=>cases c;exact b9.none_bool b
  |int b=>obtain⟨t,rfl⟩:=c;exact b9.none_int b t
  |str b=>obtain⟨t,rfl⟩:=c;exact b9.none_str b t
  |_=>exact absurd (show am=ah from g) au
 |bl a=>
  cases f;cases x with
  |non=>cases c;exact b9.bool_none a
  |bl b=>cases c;exact b9.bool_bool a b
  |int b=>obtain⟨t,rfl⟩:=c;exact b9.bool_int a b t
  |str b=>obtain⟨t,rfl⟩:=c;exact b9.bool_str a b t
  |_=>exact absurd (show am=ah from g) au
 |int a=>
  obtain⟨e,rfl⟩:=f;cases x with
  |non=>cases c;exact b9.int_none a e
  |bl b=>cases c;exact b9.int_bool a e b
  |int b=>obtain⟨t,rfl⟩:=c;exact b9.int_int a e b t
  |str b=>obtain⟨t,rfl⟩:=c;exact b9.int_str a e b t
  |_=>exact absurd (show am=ah from g) au
 |str a=>
  obtain⟨e,rfl⟩:=f;cases x with
  |non=>cases c;exact b9.str_none a e
  |bl b=>cases c;exact b9.str_bool a e b
  |int b=>obtain⟨t,rfl⟩:=c;exact b9.str_int a e b t
  |str b=>obtain⟨t,rfl⟩:=c;exact b9.str_str a e b t
  |_=>exact absurd (show am=ah from g) au
 |_=>exact absurd (show am=ah from h) au
noncomputable def Ik(x:V)(u:af):Bool:=match u with
 |.none=>SH .non x
 |.bool b=>SH (.bl b) x
 |.int i _=>SH (.int i) x
 |.str z _=>SH (.str z) x
 |_=>am
theorem OA{x y:V}{u:af}(r:RelV y u)(f:uZ y=ah):Ik x u=SH y x:=by
 cases y with
 |non=>cases r;rfl
 |bl b=>cases r;rfl
 |int i=>obtain⟨t,rfl⟩:=r;rfl
 |str z=>obtain⟨t,rfl⟩:=r;rfl
 |_=>exact absurd (show am=ah from f) au
theorem wN{x:V}:∀{xs:List V} {us:List af},Vals xs us->xs.all uZ=ah->us.any (Ik x)=xs.any λy=>SH y x
 |_,_,.nil,_=>rfl
 |y::xs,u::us,.cons r t,f=>by rw[cT,aH] at f;rw[cR,cR,OA r f.1,wN t f.2]
theorem sS{A:ba}{s:ai}{x:V}{v:af}(e:RelV x v)(g:uZ x=ah):∀{xs:List V} {us:List af},Vals xs us->xs.all uZ=ah->∀u∈us,b9 A s u v (Ik x u)
 |_,_,.nil,_=>λu c=>by cases c
 |y::xs,u::us,.cons r t,f=>λh c=>by
  rw[cT,aH] at f;rcases az.mp c with rfl|c
  ·rw[OA r f.1];exact WJ r e f.1 g
  ·exact sS e g t f.2 h c
noncomputable def inV(x:V)(xs:List V):Bool:=xs.any λy=>SH y x
noncomputable def rIn(K:W.Frag)(neg:Bool):R2:=λx y H Q=>∃p xs,y=.ref p/\(pH K H p xs\/xL K H p xs)/\uZ x=ah/\xs.all uZ=ah/\Q (.bl (if neg then !inV x xs else inV x xs)) H
theorem Cm:sH X (compareOp .In) (rIn X.K am):=by
 intro pins s σ H x y v u Q I e g h;obtain⟨p,xs,rfl,c,f,fs,q⟩:=h;cases g;rcases c with c|c
 ·obtain⟨g8,r,pl,i⟩:=I.list c;refine SeqAt.in_listAt (Ik x) pl.isList (λw hw=>sS e f r fs w (by simpa using hw)) ⟨.bl _,H,I,rfl,?_⟩;rw[show g8.toArray.any (Ik x)=g8.any (Ik x) by simp,wN r fs];exact q
 ·obtain⟨g8,r,pl,i⟩:=I.tuple c;refine SeqAt.in_tupleAt (Ik x) pl (λw hw=>sS e f r fs w (by simpa using hw)) ⟨.bl _,H,I,rfl,?_⟩;rw[show g8.toArray.any (Ik x)=g8.any (Ik x) by simp,wN r fs];exact q
theorem wO:sH X (compareOp .NotIn) (rIn X.K ah):=by
 intro pins s σ H x y v u Q I e g h;obtain⟨p,xs,rfl,c,f,fs,q⟩:=h;cases g;rcases c with c|c
 ·obtain⟨g8,r,pl,i⟩:=I.list c;refine SeqAt.notIn_listAt (Ik x) pl.isList (λw hw=>sS e f r fs w (by simpa using hw)) ⟨.bl _,H,I,rfl,?_⟩;rw[show g8.toArray.any (Ik x)=g8.any (Ik x) by simp,wN r fs];exact q
 ·obtain⟨g8,r,pl,i⟩:=I.tuple c;refine SeqAt.notIn_tupleAt (Ik x) pl (λw hw=>sS e f r fs w (by simpa using hw)) ⟨.bl _,H,I,rfl,?_⟩;rw[show g8.toArray.any (Ik x)=g8.any (Ik x) by simp,wN r fs];exact q
theorem qY:nJ X (.builtin "len") (λxs H Q=>∃p c,xs=[.ref p]/\(pH X.K H p c\/xL X.K H p c)/\Q (.int c.length) H):=by
 intro pins s σ H xs us Q I r h;obtain⟨p,c,rfl,e,q⟩:=h;obtain⟨u,rfl,i⟩:=vals1 r;cases i;have hn:=xO;rcases e with e|e
 ·obtain⟨g8,f,pl,j⟩:=I.list e;have g:=f.length;exact Calls.call_len_list pl.isList (by simp only [aT]<;>omega) ⟨.int c.length,H,I.tok _,⟨s.toks+1,by rw[aT,g]⟩,q⟩
 ·obtain⟨g8,f,pl,j⟩:=I.tuple e;have g:=f.length;exact len_tuple pl (by simp only [aT]<;>omega) ⟨.int c.length,H,I.tok _,⟨s.toks+1,by rw[aT,g]⟩,q⟩
theorem Dg:nJ X (.builtin "len") (λxs H Q=>∃z,xs=[.str z]/\z.length<=aE/\Q (.int z.length) H):=by intro pins s σ H xs us Q I r h;obtain⟨z,rfl,c,q⟩:=h;obtain⟨u,rfl,t,rfl⟩:=vals1 r;have hn:=xO;exact len_str (by omega) ⟨.int z.length,H,I.tok _,⟨_,rfl⟩,q⟩
theorem qZ:nJ X (.type "list") (λxs H Q=>∃p f,xs=[.ref p]/\(pH X.K H p f\/xL X.K H p f)/\∀l,H l=ao->Q (.ref l) (upd H l (.lst f))):=by
 intro pins s σ H xs us Q I r h;obtain⟨p,f,rfl,j,q⟩:=h;obtain⟨u,rfl,A⟩:=vals1 r;cases A;have y:∀(g8:List af),Vals f g8->f.length<=aE->∀(c:ar) (g:Nat),(∀b z,s.heap.get? b=aa z->c.get? b=aa z)->
   c.get? s.heap.objs.size=aa {cls:=.type "list",dict:=ao,data:=.seq g8.toArray g,slots:=#[]}->EP X pins σ Q (.ref s.heap.objs.size) {s with heap:=c}:=λg8 i m c g kp e=>
  ⟨.ref s.heap.objs.size,_,I.laid (t':=s.toks) kp (bf _) (show iN X.prog X.w _ c _ (.lst f) from⟨m,g8,g,i,e⟩),rfl,q _ (I.iJ.fresh (bf _))⟩
 rcases j with j|j
 ·obtain⟨g8,i,pl,m⟩:=I.list j;have B:=i.length;obtain⟨o,v,x,n,hd⟩:=pl.isList;exact afn p (.inl rfl) v x hd (λc g kp e=>y g8 i m c g kp e) (by simp only [aT]<;>omega)
 ·obtain⟨g8,i,pl,m⟩:=I.tuple j;have B:=i.length;obtain⟨o,v,x,n,hd⟩:=pl;exact afn p (.inr rfl) v x hd (λc g kp e=>y g8 i m c g kp e) (by simp only [aT]<;>omega)
theorem u0:nJ X (.type "tuple") (λxs H Q=>∃p c,xs=[.ref p]/\((pH X.K H p c/\∀l,H l=ao->Q (.ref l) (upd H l (.tup c)))\/(xL X.K H p c/\Q (.ref p) H))):=by
 intro pins s σ H xs us Q I r h;obtain⟨p,c,rfl,h⟩:=h;obtain⟨u,rfl,n⟩:=vals1 r;cases n;rcases h with⟨g,q⟩|⟨g,q⟩
 ·obtain⟨g8,i,pl,j⟩:=I.list g;have y:=i.length;refine call_tuple_list pl.isList (λf kp=>?_) (by simp only [aT]<;>omega);have m:Inv X pins σ H {s with heap:=f}:=I.kept (t':=s.toks) kp;have x:Inv X pins σ (upd H f.objs.size (.tup c)) {s with heap:=f.push {cls:=.type "tuple",data:=.seq g8.toArray}}:=
   m.laid (t':=s.toks) (λb o e=>ak _ e) (bf _) (show iN X.prog X.w _ _ _ (.tup c) from⟨j,g8,i,adt.new _ _⟩)
  exact⟨.ref f.objs.size,_,x,rfl,q _ (m.iJ.fresh (bf _))⟩
 ·obtain⟨g8,i,pl,j⟩:=I.tuple g;exact call_tuple_same pl ⟨.ref p,H,I,rfl,q⟩
def tyV (K:W.Frag)(T:String)(x:V)(H:Hp):Prop:=match x with
 |.str _=>T="str"
 |.int _=>T="int"
 |.ref p=>(T="list"/\∃xs,pH K H p xs)\/(T="tuple"/\∃o,K.lookup p=aa o/\o.cls=.type "tuple"/\o.dict=ao)\/
   (T="dict"/\((∃c,Rd H p (.dK c))\/(∃c,H p=aa (.dT c))\/∃e c,H p=aa (.dE e c)))\/(T="set"/\∃S n,H p=aa (.set S n))
 |_=>False
theorem OB{pins:List (aj×bS)}{σ:St}{H:Hp}{s:ai}{T:String}{x:V}{v:af}(I:Inv X pins σ H s)(r:RelV x v)(ty:tyV X.K T x H):
  s.TypeIs v T/\∀a,v=.ref a->∃ob,s.heap.get? a=aa ob/\ob.dict=ao:=by
 cases x with
 |str z=>
  obtain⟨t,rfl⟩:=r;cases(show T="str" from ty);exact⟨adW s z t,λ_ e=>nomatch e⟩
 |int i=>
  obtain⟨t,rfl⟩:=r;cases(show T="int" from ty);exact⟨aeA s i t,λ_ e=>nomatch e⟩
 |ref p=>
  cases r;rcases ty with⟨rfl,xs,h⟩|⟨rfl,o,f,j,hd⟩|⟨rfl,f⟩|⟨rfl,S,n,f⟩
  ·obtain⟨g8,_,pl,_⟩:=I.list h;refine⟨pl.isList.typeIs,λa e=>?_⟩;cases e;obtain⟨o,n,e,c,hd,_⟩:=pl;exact⟨o,e,hd⟩
  ·refine⟨⟨o,I.nN p o f,j⟩,λa e=>?_⟩;cases e;exact⟨o,I.nN _ o f,hd⟩
  ·have z:∃o,s.heap.get? p=aa o/\o.ExactDict:=by
    rcases f with⟨g,f⟩|⟨g,f⟩|⟨l,g,f⟩
    ·obtain⟨_,_,_,_,o,_,_,e,ex,_⟩:=f.ok I.iJ;exact⟨o,e,ex⟩
    ·obtain⟨_,_,_,_,o,_,_,e,ex,_⟩:=I.iJ p _ f;exact⟨o,e,ex⟩
    ·obtain⟨_,_,_,_,o,_,e,ex,_⟩:=I.iJ p _ f;exact⟨o,e,ex⟩
   obtain⟨o,e,ex⟩:=z;refine⟨⟨o,e,ex.1⟩,λa e2=>?_⟩;cases e2;exact⟨o,e,ex.2.1⟩
  ·obtain⟨o,_,_,_,e,ex,_⟩:=I.iJ p _ f;refine⟨⟨o,e,ex.1⟩,λa e2=>?_⟩;cases e2;exact⟨o,e,ex.2.1⟩
 |_=>exact b0 ty
noncomputable def ab5(K:W.Frag)(T:String)(r:V->List V->Hp->VK->Prop)(to:TE):TE:=λσ H Q=>to σ H λx H1=>tyV K T x H1/\r x [] H1 Q
noncomputable def tBM(K:W.Frag)(T:String)(r:V->List V->Hp->VK->Prop)(to:TE)(t:TA):TE:=λσ H Q=>to σ H λx H1=>tyV K T x H1/\t σ H1 λxs c=>r x xs c Q
variable {o e:bh} {es:List bh} {to:TE} {t:TA} {name:ay} {apos jj:c7} {T id:String} {r:V->List V->Hp->VK->Prop}
theorem WK(f:adX T)(slot:Slot T name id)(g:adY (.builtin id)=pure (.type "method_descriptor"))(hm:ZJ X id r)(i:PE X o to)
(j:cK o name X.env (eval o X.env)=eval o X.env:=by rfl)(l:(apos.endLine==jj.line)=ah:=by rfl):PE X (.Call (.Attribute o name apos) [] [] jj) (ab5 X.K T r to):=by intro pins s σ H Q I h;refine wpAny_Call_method0_late j l (jz (i pins s σ H _ I h) λv s1 ⟨x,H1,c,r1,ty,m⟩=>?_);obtain⟨n,p⟩:=OB c r1 ty;exact⟨T,id,f,slot,g,n,p,f8 rfl (PySem.evalArgs_none (hm pins s1 σ H1 x [] v [] Q c r1 .nil m))⟩
theorem ZM(g:adX T)(slot:Slot T name id)(i:adY (.builtin id)=pure (.type "method_descriptor"))(hm:ZJ X id r)(j:PE X o to)(ha:PA X (e::es) t)
(l:cK o name X.env (eval o X.env)=eval o X.env:=by rfl)
(m:((cG jj (aM (e::es) X.env)).all (λx=>!x.1)&&(ado jj (fq [] X.env)).all (λx=>x.1.isSome)
   &&decide ((e::es).length+([]:List adi).length+(if([]:List adi).isEmpty then 0 else 1)<30))=ah:=by rfl)
(n:(apos.endLine==jj.line)=ah:=by rfl)(p:aM (e::es) X.env=(am,eval e X.env)::aM es X.env:=by rfl)(q:(cG jj (aM es X.env)).any (·.1)=am:=by rfl):
  PE X (.Call (.Attribute o name apos) (e::es) [] jj) (tBM X.K T r to t):=by intro pins s σ H Q I h;refine wpAny_Call_method_late l m n rfl (jz (j pins s σ H _ I h) λv s1 ⟨x,H1,c,r1,ty,u⟩=>?_);obtain⟨w,y⟩:=OB c r1 ty;refine⟨T,id,g,slot,i,w,y,?_⟩;have f:=ha jj pins s1 σ H1 _ c u;rw[p] at f ⊢;refine f8 (by show(am||(cG jj (aM es X.env)).any (·.1))=am;rw[q]<;>rfl) (Calls.evalArgs_plain ?_);exact jz f λus s2 ⟨z,A,B,r2,C⟩=>hm pins s2 σ A x z v us Q B r1 r2 C
end
end L2
namespace L2
open PySem PySem.Spec PyProof.Rows
def MtM (X:Cx)(id:String)(r:V->List V->Hp->VK->Prop):Prop:=
 ∀(pins:List (aj×bS)) (s:ai) (σ:St) (H:Hp) (x:V) (xs:List V) (v:af) (us:List af) (Q:VK),Inv X pins σ H s->RelV x v->Vals xs us->r x xs H Q->
  wpAny (model X.prog X.w) X.A (call (.builtin id) (v::us)) (EP X pins σ Q) X.xe s
theorem Vals.one:∀{x:V} {us:List af},Vals [x] us->∃u,us=[u]/\RelV x u
 |_,_,.cons r .nil=>⟨_,rfl,r⟩
theorem Vals.rep{xs:List V}{us:List af}(h:Vals xs us):∀k:Nat,Vals (aw k xs).flatten (aw k us).flatten
 |0=>.nil
 |k+1=>by rw[cM,cM,dL,dL];exact Vals.append h (Vals.rep h k)
theorem foldl_rep(g8:List af):∀(k:Nat) (acc:List af),
  List.foldl (λx1 x2=>x1++x2) acc.toArray (aw k g8.toArray)=(acc++(aw k g8).flatten).toArray
 |0,acc=>by simp
 |k+1,acc=>by
  have e:acc.toArray++g8.toArray=(acc++g8).toArray:=by simp
  have e2:(acc++g8)++(aw k g8).flatten=acc++(aw (k+1) g8).flatten:=by rw[cM,dL,cD]
  rw[<-e2,<-foldl_rep g8 k (acc++g8),<-e,cM,List.foldl_cons]
section
variable {X:Cx} {pins:List (aj×bS)} {σ:St} {H:Hp} {s:ai} {l b:aj} {xs ys zs:List V}
theorem Inv.ab6{g8 xM:List af}{n:Nat}{f:Array af->Array af}{a:Nat}(I:Inv X pins σ H s)(c:H l=aa (.lst xs))
(e:s.heap.get? l=aa {cls:=.type "list",data:=.seq g8.toArray n})(g:f g8.toArray=xM.toArray)(h:Vals ys xM)(i:ys.length<=aE):
  Inv X pins σ (upd H l (.lst ys)) {s with heap:=s.heap.update l (bS.mapSeq f),toks:=a}:=by have q:=PySem.IsL.update e f;rw[g] at q;refine I.write (x:=l) (e:=l) (by rw[c];exact trivial) (.inl rfl) (λo u j m=>(bv s.heap (bS.mapSeq f) (bU j)).trans m) ⟨_,q⟩ ?_;exact⟨i,xM,_,h,q⟩
theorem Inv.SI{g8:List af}{t':Nat}(I:Inv X pins σ H s)(a:Vals ys g8)(c:ys.length<=aE):
  Inv X pins σ (upd H s.heap.objs.size (.lst ys)) {s with heap:=s.heap.push {cls:=.type "list",data:=.seq g8.toArray},toks:=t'}:=
 I.laid (λ_ _ q=>ak _ q) (bf _) ⟨c,g8,0,a,aQ _ rfl⟩
theorem Inv.fresh(I:Inv X pins σ H s):H s.heap.objs.size=ao:=I.iJ.fresh (bf _)
theorem Inv.SJ(I:Inv X pins σ H s)(a:H l=aa (.lst xs)):xs.length<=aE/\∃(g8:List af) (n:Nat),Vals xs g8/\xs.length=g8.length/\s.heap.get? l=aa {cls:=.type "list",data:=.seq g8.toArray n}:=by obtain⟨z,g8,n,r,e⟩:=I.iJ l _ a;exact⟨z,g8,n,r,r.length,e⟩
theorem OC{n:Nat}(h:n<=aE):eX n=am:=by unfold eX;exact decide_eq_false (by omega)
end
section
variable {X:Cx}
def SK:V->List V->Hp->VK->Prop:=λx a H Q=>∃l xs y,x=.ref l/\a=[y]/\H l=aa (.lst xs)/\xs.length<aE/\Q .non (upd H l (.lst (xs++[y])))
theorem xR:MtM X "list.append" SK:=by intro pins s σ H x g v us Q I b c h;obtain⟨l,xs,y,rfl,rfl,a,i,q⟩:=h;cases b;obtain⟨u,rfl,f⟩:=c.one;obtain⟨z,g8,n,r,j,e⟩:=I.SJ a;refine adZ F.slot_list_append ⟨_,e,rfl⟩ F.entry_list_append (F.args_list_append_2 _ _) (PySem.list_append l g8.toArray n u (by rw[aT];omega)) ⟨e,?_⟩;refine⟨.non,_,I.ab6 (xM:=g8++[u]) a e (by simp) (r.append (.cons f .nil)) ?_,rfl,q⟩;rw[bL,List.length_singleton];omega
noncomputable def ab7:R2:=λx y H Q=>∃l b xs zs,x=.ref l/\y=.ref b/\H l=aa (.lst xs)/\H b=aa (.lst zs)/\xs.length+zs.length<=aE/\∀p,H p=ao->Q (.ref p) (upd H p (.lst (xs++zs)))
theorem WN:sH X (binaryOp .Add) ab7:=by
 intro pins s σ H x y v u Q I c f h;obtain⟨l,b,xs,zs,rfl,rfl,g,i,j,q⟩:=h;cases c;cases f;obtain⟨z,g8,n,r,m,e⟩:=I.SJ g;obtain⟨o,a,n2,r2,p,e2⟩:=I.SJ i;refine PySem.P.add_list e e2 ?_ (by rw[aT,aT];omega);have ea:g8.toArray++a.toArray=(g8++a).toArray:=by simp
 rw[ea];exact⟨.ref _,_,I.SI (t':=s.toks) (r.append r2) (by rw[bL];omega),rfl,q _ I.fresh⟩
noncomputable def ab8:R2:=λx y H Q=>∃l k xs,x=.ref l/\y=.int k/\H l=aa (.lst xs)/\-(2^63)<=k/\k<2^63/\xs.length*k.toNat<=aE/\
 ∀p,H p=ao->Q (.ref p) (upd H p (.lst (aw k.toNat xs).flatten))
theorem SM{α:Type}(xs:List α)(k:Nat):(aw k xs).flatten.length=k*xs.length:=by
 induction k with
 |zero=>simp
 |succ k a=>rw[cM,dL,bL,a,Nat.succ_mul,Nat.add_comm]
theorem WO:sH X (binaryOp .Mult) ab8:=by
 intro pins s σ H x y v u Q I g i h;obtain⟨l,k,xs,rfl,rfl,j,o,p,f,q⟩:=h;cases g;obtain⟨t,rfl⟩:=i;obtain⟨z,g8,n,r,w,e⟩:=I.SJ j;have A:g8.toArray.size*k.toNat<=aE:=by rw[aT,<-w];exact f
 have b:¬g8.toArray.size*k.toNat>(2^63- 1)/8:=by
  have:(aE:Nat)<=(2^63- 1)/8:=by decide
  omega
 have B:¬(!bt.List.listFitsIndex k)=ah:=by rw[fitsIndex_both o p];exact au
 have C:¬eX (g8.toArray.size*k.toNat)=ah:=by rw[OC A];exact au
 have c:List.foldl (λx1 x2=>x1++x2) #[] (aw (if g8.toArray.isEmpty=ah then 0 else k.toNat) g8.toArray)=(aw k.toNat g8).flatten.toArray:=by
  have E:∀m:Nat,List.foldl (λx1 x2=>x1++x2) #[] (aw m g8.toArray)=(aw m g8).flatten.toArray:=λm=>by have:=foldl_rep g8 m [];rw[bc] at this;exact this
  rw[E];cases g8 with
  |nil=>simp
  |cons a J=>rw[if_neg (by simp)]
 refine wpAny_binaryOp_repeat_ref (T:="list") (U:="int") (by decide) ⟨_,e,rfl⟩ (λG=>aeA G k t) noFill_list_mul F.fills_int_mul F.slot_int_rmul repeat_list F.slot_int_index.lookup
  (adZ F.slot_int_rmul (aeA s k t) F.entry_int_rmul (F.args_int_rmul_2 _ _) (int___rmul___int_list k t l g8.toArray n)
   ⟨e,rfl,⟨_,e,rfl⟩,adZ F.slot_list_mul ⟨_,e,rfl⟩ F.entry_list_mul (F.args_list_mul_2 _ _) (AutoListH.list___mul___list_int_3 l g8.toArray n k t B b C) ⟨e,?_⟩⟩)
 rw[c];exact⟨.ref _,_,I.SI (t':=s.toks) (r.rep k.toNat) (by rw[SM,Nat.mul_comm];exact f),rfl,q _ I.fresh⟩
end
section
variable {prog:aJ} {w:bj} {A:ba} {E:af->ai->Prop} {s:ai}
end
section
variable {X:Cx}
end
end L2
namespace Att
open PySem PySem.W PySem.Calls PyProof.Rows
theorem y6{P:ae8}{h:ar}:∀(ns:List Int) (c:List af),WellAll P h c (ns.map ae9.int)->aef c ns:=by
 intro ns;induction ns with
 |nil=>
  intro c w;rw[cO] at w;cases w;exact .nil
 |cons n ns e=>
  intro c w;rw[aR] at w;cases w with
  |cons a b=>
   cases a;exact .cons _ _ (e _ b)
theorem Mm{l:aeL}{n:Nat}(hn:l.most=aa n){P:ae8}{h:ar}{args:List ae9}{vals:List af}
(i:l.row.toRowW.claim.pre args=ah)(e:WellAll P h vals args):
  ∃a j ns,vals=[aN a]/\args=[ae9.list (ns.map ae9.int)]/\h.get? a=aa {cls:=.type "list",data:=.seq j.toArray}/\aef j ns/\ns.length<=n:=by
 have f:aeB.hasAll [] args [.list .int]=ah:=(pre_splitW i).1;have m:l.pre.holds [] {args:=args}=ah:=(pre_splitW i).2;obtain⟨d,r,rfl,o,p⟩:=hasAllW_cons f;obtain rfl:=hasAllW_nil p;obtain⟨xs,rfl,s⟩:=hasW_list o;obtain⟨ns,rfl⟩:=items_int s;have u:ns.length<=n:=by
  unfold aeL.pre at m;have b:(WTm.not (.lt (.lit (.int (n:Int))) (.len (.arg 0)))).holds [] {args:=[.list (ns.map .int)]}=ah:=by have b:=(holds_andW m).1;rw[hn] at b;exact b
  have c:=condW_of b (w_not (w_lt w_lit (w_len_list (w_arg rfl))));rw[ap] at c;refine Nat.le_of_not_lt λq=>?_;have v:(n:Int)<((ns.length:Nat):Int):=by omega
  first
   | (rw[decide_eq_true v] at c;exact absurd c (by decide))
   | (simp at c;omega)
 cases e with
 |cons w x=>
  cases x;cases w with
  |list y g=>exact⟨_,_,ns,rfl,rfl,y,y6 ns _ g,u⟩
theorem Mn(l:aeL)(args:List ae9):l.row.toRowW.claim.post args (.bool ah) args=ah:=
 postW_of (r:=l.row.toRowW) (X:=(ah==ah))
  (show aeB.has [] (.bool ah) .bool=ah by first|rfl|decide|simp[aeB.has,aeB.arms,aeB.armsAll])
  (show(WTm.eq .res (.lit (.bool ah))).value [] {args:=args,res:=aa (.bool ah),after:=args}=aa (.bool (ah==ah)) from w_eq_bool (w_res rfl) w_lit) rfl
theorem Fk{l:aeL}{n:Nat}{q:aJ}{loose:List ay}{j:(ay->Option af)->ar->Prop}{m:bj->ar->Prop}{d:DefRec}
(hn:l.most=aa n)(s:d.params.defaults=[])
(call:∀(w:bj) (gJ b:ai) (mg h:ay->Option af) (e:aj) (o:bS) (pm cd doc:af) (a:aj) (c:List af) (ns:List Int),
   Ground q loose [] j w gJ mg h b.heap->m w b.heap->
   b.heap.get? e=aa o->o.data=.func (docDef d.name d.params d.body d.scope pm cd doc)->b.heap.CodeRec cd d.name->mg d.name=aa (.ref e)->
   b.heap.get? a=aa {cls:=.type "list",data:=.seq c.toArray}->aef c ns->ns.length<=n->b.gens=#[]->
   codeAny (model l.prog w) adL (.call (.ref e) ⟨[.ref a],[]⟩) (λr g=>r=.ok (.ret (.bool ah))/\OldK b.heap g.heap/\g.os=b.os/\fJ g.gens) b):
  WalkO q loose j m l.row.toRowW d [] (λf c=>PySem.call f c):=by intro w gJ b mg h G Y e o pm cd doc u kV v hd x p y z args vals as A B C i E;obtain rfl:u=.none:=Dflts.none p s;obtain rfl:kV=.none:=Dflts.noKw p;obtain⟨a,c,ns,rfl,rfl,H,I,J⟩:=Mm hn A i;refine enter_call (cX (call w gJ b mg h e o pm cd doc a c ns G Y v (fd_plain hd) x y H I J z) λr g L=>?_);obtain⟨rfl,M,N,O⟩:=L;exact⟨.inl ⟨.bool ah,.bool ah,[],rfl,λ_=>rfl,.bool ah,Mn l _,λ_=>⟨List.Pairwise.nil,λ_ hm=>(nomatch hm)⟩⟩,M,N,O⟩
section
variable {prog:aJ} {w:bj} {A:ba} {E:af->ai->Prop} {s:ai} {K:Frag}
end
end Att
namespace L2
open PySem PySem.Spec PyProof.Rows
theorem Cn:∀{a:List af} {ns:List Int},aef a ns->Vals (ns.map V.int) a
 |_,_,.nil=>.nil
 |_,_,.cons n t h=>.cons ⟨t,rfl⟩ (Cn h)
def WQ (H:Hp):Prop:=∀b,H b=ao\/∃o xs,H b=aa (.wF o (.lst xs))
theorem OG{P:aJ}{w:bj}{K:W.Frag}{mg A:ay->Option af}{L:KC}{k:Nat}{B a:aj}{fd:cn}{x:ay}{sp:Sp}{c:ai}{j:List af}{ns:List Int}
(M:K.In c.heap)(N:c.heap.Ns aO mg)(f:c.heap.Ns aex A)(C:∀x:ay,x≠"__name__"->A x=bR x)(E:c.heap.NoLimit)(hg:c.gens=#[])
(ha:c.heap.get? a=aa {cls:=.type "list",data:=.seq j.toArray})(hi:aef j ns)(O:ns.length<=aE)(hr:jR k adL)
(F:∀base:ar,K.In base->base.Ns aO mg->ky P w K mg base L k B fd [x] sp)(ZP:∀(s:ai) (u:af),adq s fd ⟨[u],[]⟩ [(x,u)])
(RX:∀H:Hp,WQ H->pH K H a (ns.map V.int)->sp [.ref a] H (λv _=>v=.bl ah) λ_ _ _=>False)
(G:∀H e g,L [] H c (λ_ _ _=>False) e g->False):
  codeAny (model P w) adL (.call (.ref B) ⟨[.ref a],[]⟩) (λr g=>r=.ok (.ret (.bool ah))/\OldK c.heap g.heap/\g.os=c.os/\fJ g.gens) c:=by
 have Q:=Cn hi;have I:=hi.length;have T:∀H:Hp,WQ H->pH K H a (ns.map V.int)->um P w H c.heap->(∀b,H b≠ao->b=a)->(H a≠ao->K.lookup a=ao)->
   codeAny (model P w) adL (.call (.ref B) ⟨[.ref a],[]⟩) (λr g=>r=.ok (.ret (.bool ah))/\OldK c.heap g.heap/\g.os=c.os/\fJ g.gens) c:=by
  intro H U hS iJ Y hK;have KO:∀{b:aj} {o:bS},c.heap.get? b=aa o->H b=ao->(C4 c.heap H).get? b=aa o:=λe n=>N1 e n;have ZC:∀{b:aj} {o:bS} {es:Array aeV} {l:Nat},c.heap.get? b=aa o->o.data=.dict es l->H b=ao:=λ{b o es l} e d=>by
   cases q:H b with
   |none=>rfl
   |some u=>
    have e':b=a:=Y b (by rw[q];simp);subst e';rw[ha] at e;cases e;have d':Data.seq j.toArray _=Data.dict es l:=d;cases d'
  have i:∀{b:aj} {m:ay->Option af},c.heap.Ns b m->(C4 c.heap H).Ns b m:=λ{b m} ⟨o,es,l,e,d,r⟩=>⟨o,es,l,KO e (ZC e d),d,r⟩;have p:K.In (C4 c.heap H):=λb o e=>KO (M b o e) (by
   cases q:H b with
   |none=>rfl
   |some u=>
    have e':b=a:=Y b (by rw[q];simp);subst e';rw[hK (by rw[q];simp)] at e;cases e)
  have hM:Mod K mg (C4 c.heap H):=⟨p,i N,⟨A,i f,C⟩,let⟨mc,h1,h2⟩:=E;⟨mc,i h1,h2⟩⟩;have e0:Ie P w K mg (C4 c.heap H) adL [] c H:=⟨rfl,hM,λb o e=>Sd e,fk (L8 _ _),trivial,λb f=>absurd (show b∈([]:List aj) from f) (by simp),iJ,.of_eq hg⟩;refine cX ((F _ p (i N)).run adL [] c H ⟨[.ref a],[]⟩ [.ref a] [.ref a] _ _ hr e0 (ZP c (.ref a)) (.cons rfl .nil) (RX H U hS)) λr g h=>?_;cases r with
  |error e=>exact(G H e g h).elim
  |ok fl=>
   cases fl with
   |next=>exact b0 h
   |brk=>exact b0 h
   |cont=>exact b0 h
   |ret u=>
    obtain⟨v,H',os,bare,un,WR,r',q⟩:=h;have q':v=.bl ah:=q;subst q';obtain rfl:u=af.bool ah:=r';refine⟨rfl,OldK.of_keep λb o e=>?_,os,bare⟩;cases q:H b with
    |none=>exact un.keep b o e q (by intro z;exact absurd (show b∈([]:List aj) from z) (by simp)) (by simp)
    |some u=>
     rcases U b with z|⟨ob,xs,z⟩
     ·rw[q] at z;cases z
     ·have z2:=un.uP b ob _ z;obtain⟨e1,_⟩:=iJ b _ z;obtain⟨e2,_⟩:=WR b _ z2;rw[e] at e1;cases e1;exact e2
 cases J:K.lookup a with
 |some o=>
  have e:=M a o J;rw[ha] at e;cases e;refine T (λ_=>ao) (λ_=>.inl rfl) (.inr ⟨_,j.toArray,_,J,rfl,rfl,rfl,by rw[aT,I];exact O,by simpa using Q⟩) (λb u z=>by have y:(ao:Option HO)=aa u:=z;cases y) (λb z=>absurd rfl z) λz=>absurd rfl z
 |none=>
  refine T (λb=>if b=a then aa (.wF {cls:=.type "list",data:=.seq j.toArray} (.lst (ns.map V.int))) else ao) (λb=>?_) (.inl (.inr ⟨{cls:=.type "list",data:=.seq j.toArray},if_pos rfl⟩)) (λb u z=>?_) (λb z=>?_) λ_=>J
  ·by_cases f:b=a
   ·exact .inr ⟨_,_,if_pos f⟩
   ·exact .inl (if_neg f)
  ·by_cases f:b=a
   ·have y:=(if_pos f).symm.trans z;cases y;subst f;exact⟨ha,by rw[ap];exact O,j,_,Q,ha⟩
   ·have y:=(if_neg f).symm.trans z;cases y
  ·by_cases f:b=a
   ·exact f
   ·exact absurd (if_neg f) z
end L2
namespace L2
open PySem PySem.Spec PyProof.Rows
abbrev KOf{K:W.Frag}{h:ar}(_:K.In h):W.Frag:=K
theorem SO{l:W.OpenLaw}{n k:Nat}{q:aJ}{loose:List ay}{A:(ay->Option af)->ar->Prop}{p:bj->ar->Prop}{d:DefRec}{K:ae8->W.Frag}{CX:bj->KC}{sp:bj->Sp}{x:ay}
(hn:l.most=aa n)(i:n<=aE)(B:d.params.defaults=[])(C:jR k adL)
(E:∀(w:bj) (h:ar),p w h->(K w.params).In h)
(F:∀(w:bj) (mg:ay->Option af) (c:aj) (h:ar),(K w.params).In h->h.Ns aO mg->mg d.name=aa (.ref c)->
   ∃fd:cn,(∀(s:ai) (u:af),adq s fd ⟨[u],[]⟩ [(x,u)])/\
    ∀base:ar,(K w.params).In base->base.Ns aO mg->ky l.prog w (K w.params) mg base (CX w) k c fd [x] (sp w))
(I:∀(w:bj) (H:Hp) (a:aj) (ns:List Int),ns.length<=n->WQ H->pH (K w.params) H a (ns.map V.int)->sp w [.ref a] H (λv _=>v=.bl ah) λ_ _ _=>False)
(j:∀(w:bj) (H:Hp) (s:ai) (e:af) (m:ai),CX w [] H s (λ_ _ _=>False) e m->False):
  W.WalkO q loose A p l.row.toRowW d [] (λf r=>PySem.call f r):=by refine Att.Fk hn B λw gJ J mg mb c o pm cd doc a r ns G Y ho hd Bx L M N y O=>?_;have z:=E w _ Y;obtain⟨fd,Q,U⟩:=F w mg c _ z G.T.g L;exact OG z G.T.g G.T.b G.T.builtins G.T.nolimit O M N (aS y i) C U Q (λH hO hS=>I w H a ns y hO hS) λH e m=>j w H J e m
end L2
namespace L2
open PySem PySem.Spec PyProof.Rows
noncomputable def pJ(s:bH)(j:Nat):bH:=match s with
 |.ClassDef _ _ _ body _ _ _ _ _ _ _=>body.getD j (.Pass ⟨0,0,0,0⟩)
 |_=>.Pass ⟨0,0,0,0⟩
noncomputable def jT(s:bH):adr:=match s with
 |.FunctionDef _ a _ _ _ _ _ _ _ _=>a
 |_=>{posonlyargs:=[],args:=[],vararg:=ao,kwonlyargs:=[],kw_defaults:=[],kwarg:=ao,defaults:=[]}
noncomputable def iF(s:bH):List bH:=match s with
 |.FunctionDef _ _ b _ _ _ _ _ _ _=>b
 |_=>[]
noncomputable def hZ(s:bH):cx:=match s with
 |.FunctionDef _ _ _ _ _ _ sc _ _ _=>sc
 |_=>{kind:=.function,names:=[],isGenerator:=am,isCoroutine:=am}
abbrev uR:KC:=λ_ _ _ _ _ _=>False
abbrev E0:XK:=λ_ _ _=>False
theorem KP{X:Cx}:vz uR X E0:=λ_ _ _ _ _ _ _ h=>h.elim
structure wP(K:W.Frag)(x qual:ay)(st:bH)(f:aj)(fd:cn):Prop where
 ex:∃(oc:af) (od:Option aj) (kV doc pm:af) (an:Option aj) (iE ct:af) (By:Array (Option af)),
  fd=W.fnOf x qual (jT st) (iF st) (hZ st) .none kV doc pm an iE ct/\K.lookup f=aa ⟨oc,od,.func fd,By⟩/\W.codeIn K iE qual=ah
 kp:W.keepIn K (.ref f)=ah
section
variable {P:aJ} {w:bj} {K:W.Frag} {mg:ay->Option af} {base:ar}
theorem wP.ok{x qual:ay}{st:bH}{f:aj}{fd:cn}{N b:List ay}{k:Nat}{sp:Sp}(F:wP K x qual st f fd)(S:gU N b (hZ st))(len:∀a H Q E,sp a H Q E->a.length=b.length)
(c:∀(iE:af) (A:ba) (outer:List eH) (s:ai) (H:Hp) (a:List V) (Q:VK) (E:XK),jR k (A.deeper (dZ qual (hZ st) s.heap.objs.size f iE))->sp a H Q E->
   ∃t,wA (uQ uR P w K mg base N qual (hZ st) f iE A outer s H E).L9 (iF st) t/\t {nx:=λ_ e=>Q .non e,rt:=Q} (start N a) H):ky P w K mg base uR (k+1) f fd b sp:=by obtain⟨oc,od,kV,doc,pm,an,iE,ct,By,rfl,lk,g⟩:=F.ex;refine Vm lk g S len λA outer s H a Q E i j=>?_;obtain⟨t,h,q⟩:=c iE A outer s H a Q E i j;exact⟨t,h.L9,q⟩
theorem wP.binds{x qual:ay}{st:bH}{f:aj}{fd:cn}{a:List ay}(F:wP K x qual st f fd)
(h:∀(kV doc pm:af) (an:Option aj) (iE ct:af) (us:List af),us.length=a.length->eP (W.fnOf x qual (jT st) (iF st) (hZ st) .none kV doc pm an iE ct) ⟨us,[]⟩=pure (a.zip us)):Binds K fd a []:=by obtain⟨oc,od,kV,doc,pm,an,iE,ct,By,rfl,lk,b⟩:=F.ex;exact .all (h kV doc pm an iE ct)
theorem Im{x qual:ay}{st:bH}{f:aj}{oc:af}{od an:Option aj}{By:Array (Option af)}{kV doc pm iE ct:af}(l:K.lookup f=aa ⟨oc,od,.func (W.fnOf x qual (jT st) (iF st) (hZ st) .none kV doc pm an iE ct),By⟩)
(c:W.codeIn K iE qual=ah)(k:W.keepIn K (.ref f)=ah):wP K x qual st f (W.fnOf x qual (jT st) (iF st) (hZ st) .none kV doc pm an iE ct):=⟨⟨oc,od,kV,doc,pm,an,iE,ct,By,rfl,l,c⟩,k⟩
end
theorem iX{A:ba}{k:Nat}(a:jR k A):A.units+1<adb:=fF (Nat.add_le_add_left (by decide:1<=64) _) a.units
section
variable {X:Cx}
end
def jA (H a:Hp):Prop:=∀b o,H b=aa o->a b=aa o
theorem jA.refl(H:Hp):jA H H:=λ_ _ h=>h
theorem jA.trans{H H1 e:Hp}(a:jA H H1)(b:jA H1 e):jA H e:=λc o h=>b c o (a c o h)
section
variable {κ:Type} [DecidableEq κ]
end
end L2
set_option maxHeartbeats 4000000
namespace L2
open PySem PySem.Spec PyProof.Rows
noncomputable def nP(env:eH):List (ay×cC)->List (ay×aj)->List (ay×aj)
 |[],acc=>acc
 | (n,k)::r,acc=>nP env r (if(k==dm)=ah then(n,(env.cells.lookup n).getD 0)::acc else acc)
theorem p9{scope:cx}{env:eH}(h:∀x∈scope.names,x.2=.free->∃c,env.cells.lookup x.1=aa c):closureFor scope env=pure (nP env scope.names []):=by
 unfold closureFor;generalize ([]:List (ay×aj))=acc;generalize scope.names=l at h;induction l generalizing acc with
 |nil=>rfl
 |cons x r b=>
  obtain⟨n,k⟩:=x;have b:=λa=>b a λy i=>h y (av _ i);simp only [List.forIn_cons,nP];by_cases f:k=.free
  ·obtain⟨c,g⟩:=h (n,k) aC f;subst f;have e:cellOf env n=pure c:=by unfold cellOf;simp only at g;rw[g]
   simp only [beq_self_eq_true,if_true,e,g,Option.getD_some];exact b ((n,c)::acc)
  ·have:(k==dm)=am:=by simpa using f
   simp only [this,b5,if_false];exact b acc
theorem Fl{env:eH}{y:ay}{c:aj}:∀(l:List (ay×cC)) (acc:List (ay×aj)),(∀z d,acc.lookup z=aa d->env.cells.lookup z=aa d)->(∀x∈l,x.2=.free->∃c,env.cells.lookup x.1=aa c)->
  (nP env l acc).lookup y=aa c->env.cells.lookup y=aa c
 |[],acc,ha,_,e=>ha y c e
 | (n,k)::r,acc,ha,h,e=>by
  unfold nP at e;refine Fl r _ ?_ (λx i=>h x (av _ i)) e;intro z d a;split at a
  ·rename_i f;have f:k=.free:=by simpa using f
   obtain⟨j,g⟩:=h (n,k) aC f;simp only at g;rw[cU,g] at a;by_cases b:z=n
   ·subst b;simp only [beq_self_eq_true,Option.getD_some] at a;rw[g];exact a
   ·have:(z==n)=am:=by simpa using b
    rw[this] at a;exact ha z d a
  ·exact ha z d a
theorem zP{env:eH}{y:ay}:∀(l:List (ay×cC)) (acc:List (ay×aj)),((∃c,acc.lookup y=aa c)\/(y,dm)∈l)->∃c,(nP env l acc).lookup y=aa c
 |[],acc,h=>h.elim (λx=>x) λx=>by cases x
 | (n,k)::r,acc,h=>by
  unfold nP;refine zP r _ ?_;rcases h with⟨c,a⟩|h
  ·left;split
   ·rw[cU];split
    ·exact⟨_,rfl⟩
    ·exact⟨c,a⟩
   ·exact⟨c,a⟩
  ·rcases az.mp h with h|h
   ·cases h;left;simp
   ·exact .inr h
noncomputable def nK(X:Cx)(scope:cx)(N:List ay)(C:aj)(ex:List aj)(pins:List (aj×bS))(gJ:ai)(gH:Hp)(E:af->ai->Prop):Cx where
 prog:=X.prog
 w:=X.w
 K:=X.K
 mg:=X.mg
 base:=X.base
 A:=X.A
 N:=N
 gJ:=gJ
 gH:=gH
 env:=d6 scope (nP X.env scope.names []) C X.env
 outer:=X.stack
 stack:=X.stack
 ex:=ex
 fn:=λ_=>am
 calm:=X.calm
 pn:=X.pn++pins
 xe:=E
noncomputable def slots(fr:List (Option Nat))(σ:St):St:=fr.map λo=>match o with
 |none=>ao
 |some j=>(σ[j]?).getD ao
noncomputable def KQ(b N:List ay)(fr:List (Option Nat))(scope a:cx):Bool:=
 (N.zip fr).all (λp=>match p.2 with
  |none=>ah
  |some j=>decide (b[j]?=aa p.1)&&decide (scope.names.lookup p.1=aa .free))&&
 scope.names.all (λx=>x.2!=.cell&&(x.2!=.free||(a.names.lookup x.1==aa .cell||a.names.lookup x.1==aa .free))&&(x.2!=.local||decide (scope.names.lookup x.1=aa .local)))&&
 decide (fr.length=N.length)&&(scope.kind==.function)
structure iu(X:Cx)(N:List ay)(fr:List (Option Nat))(scope:cx):Prop where
 cell:∀y∈scope.names,y.2≠.cell
 free:∀y∈scope.names,y.2=.free->X.env.kindOf y.1=aa .cell\/X.env.kindOf y.1=aa .free
 loc:∀y∈scope.names,y.2=.local->scope.names.lookup y.1=aa .local
 slot:∀(i j:Nat) (x:ay),N[i]?=aa x->fr[i]?=aa (aa j)->X.N[j]?=aa x/\scope.names.lookup x=aa .free
 len:fr.length=N.length
 kind:scope.kind=.function
theorem iu.of{X:Cx}{N iA:List ay}{fr:List (Option Nat)}{scope gN:cx}(h:KQ iA N fr scope gN=ah)(c:X.N=iA:=by rfl)(e:X.env.scope.names=gN.names:=by rfl):iu X N fr scope:=by
 unfold KQ at h;simp only [aH,decide_eq_true_eq,bM,beq_iff_eq] at h;obtain⟨⟨⟨f,b⟩,g⟩,l⟩:=h;refine⟨λy a=>?_,λy a m=>?_,λy a n=>?_,λi j x e1 e2=>?_,g,l⟩
 ·have:=(b y a).1.1;simpa using this
 ·have:=(b y a).1.2;unfold eH.kindOf;rw[e];simpa[m] using this
 ·have:=(b y a).2;simpa[n] using this
 ·have hm:(x,aa j)∈N.zip fr:=by refine bw (i:=i) ?_;rw[List.getElem?_zip_eq_some];exact⟨e1,e2⟩
  have:=f _ hm;rw[c];simpa using this
theorem Mo{fr:List (Option Nat)}{σ:St}{i:Nat}{v:V}(h:(slots fr σ)[i]?=aa (aa v)):∃j:Nat,fr[i]?=aa (aa j)/\σ[j]?=aa (aa v):=by
 unfold slots at h;rw[bA] at h;cases e:fr[i]? with
 |none=>rw[e] at h;cases h
 |some o=>
  rw[e] at h;cases o with
  |none=>cases h
  |some j=>
   refine⟨j,rfl,?_⟩;have a:(σ[j]?).getD ao=aa v:=by simpa using h
   cases e2:σ[j]? with
   |none=>rw[e2] at a;cases a
   |some q=>rw[e2] at a;simp at a;rw[a]
theorem q8{scope:cx}{env:eH}:∀{l:List (ay×cC)} {x:ay} {k:cC},
  (l.map λ(n,k)=>if(k==dm&&env.scope.kind==.function&&env.kindOf n==aa .cell) then(n,adc) else(n,k)).lookup x=aa k->
  ∃k',(x,k')∈l/\l.lookup x=aa k'/\(k=k'\/(k'=.free/\k=.cell))
 |[],x,k,h=>by cases h
 | (n,a)::r,x,k,h=>by
  simp only [aR] at h;by_cases b:x=n
  ·subst b;refine⟨a,aC,by simp,?_⟩;split at h
   ·rename_i c;simp at h;have:a=.free:=by simp at c;exact c.1.1
    exact .inr ⟨this,h.symm⟩
   ·simp at h;exact .inl h.symm
  ·have e:(x==n)=am:=by simpa using b
   have f:(r.map λ(n,k)=>if(k==dm&&env.scope.kind==.function&&env.kindOf n==aa .cell) then(n,adc) else(n,k)).lookup x=aa k:=by split at h<;>(rw[cU,e] at h;exact h)
   obtain⟨k',m,g,q⟩:=q8 (scope:=scope) f;exact⟨k',av _ m,by rw[cU,e];exact g,q⟩
theorem yI{env:eH}:∀{l:List (ay×cC)} {x:ay},l.lookup x=aa .free->
  (l.map λ(n,k)=>if(k==dm&&env.scope.kind==.function&&env.kindOf n==aa .cell) then(n,adc) else(n,k)).lookup x=aa .cell\/
  (l.map λ(n,k)=>if(k==dm&&env.scope.kind==.function&&env.kindOf n==aa .cell) then(n,adc) else(n,k)).lookup x=aa .free
 |[],x,h=>by cases h
 | (n,c)::r,x,h=>by
  simp only [aR];by_cases a:x=n
  ·subst a;simp at h;subst h;split
   ·left;simp
   ·right;simp
  ·have b:(x==n)=am:=by simpa using a
   rw[cU,b] at h;have:=yI (env:=env) h;split<;>(rw[cU,b];exact this)
section
variable {X:Cx} {pins:List (aj×bS)} {σ:St} {H:Hp} {s:ai} {N:List ay} {fr:List (Option Nat)} {scope:cx} {fp:List aj} {E:af->ai->Prop}
theorem Inv.KR(I:Inv X pins σ H s)(c:iu X N fr scope):∀x∈scope.names,x.2=.free->∃c,X.env.cells.lookup x.1=aa c:=λx a b=>I.ok.has x.1 (c.free x a b)
theorem Inv.OH(I:Inv X pins σ H s)(c:iu X N fr scope){y:ay}{a:aj}(h:(nP X.env scope.names []).lookup y=aa a):X.env.cells.lookup y=aa a:=
 Fl scope.names [] (λ_ _ e=>by cases e) (I.KR c) h
theorem Inv.block(I:Inv X pins σ H s)(c:iu X N fr scope)(l:∀b∈fp,nO X pins H b)(L:∀b∈fp,b<s.heap.objs.size){M:ar}{m:ay->Option af}{t':Nat}(hn:M.Ns s.heap.objs.size m)(A:∀b o,s.heap.get? b=aa o->M.get? b=aa o):
  Inv (nK X scope N s.heap.objs.size fp pins s H E) [] (slots fr σ) H {s with heap:=M,toks:=t'}:=by
 have cg:∀y a,(nP X.env scope.names []).lookup y=aa a->X.env.cells.lookup y=aa a:=λy a=>I.OH c;have acf:∀y a,X.env.cells.lookup y=aa a->a<s.heap.objs.size:=λy a e=>by obtain⟨v,q⟩:=I.cell y a e;exact q.lt
 refine⟨⟨I.ok.mod,c.kind,I.ok.glob,I.ok.blt,bf _,λx y a h1 h2=>I.ok.inj x y a (cg x a h1) (cg y a h2),λx hx=>?_,λx a l=>(by cases l),I.ok.hd,I.ok.frames,.inl rfl,λb g=>?_,I.bs,aS I.ok.NS I.sz,λb o e g=>?_,λb g=>?_,I.stack,I.Kt⟩,
  rfl,I.bare,Un.kept A,⟨m,hn,λi x v e1 e2 e3=>?_⟩,λx a e=>?_,I.iJ.fresh (bf _),λx a e=>I.lD x a (cg x a e),λp Y=>?_,I.iJ.kept A,?_⟩
 ·have Fc:(relabel scope X.env).names.lookup x=aa .cell\/(relabel scope X.env).names.lookup x=aa .free:=hx;have:(x,dm)∈scope.names:=by
   rcases Fc with h|h
   ·obtain⟨k',J,_,q⟩:=q8 (scope:=scope) h;rcases q with q|q
    ·subst q;exact absurd rfl (c.cell _ J)
    ·rw[<-q.1];exact J
   ·obtain⟨k',J,_,q⟩:=q8 (scope:=scope) h;rcases q with q|q
    ·subst q;exact J
    ·cases q.2
  exact zP scope.names [] (.inr this)
 ·obtain⟨f0,B,C,f,O,f5⟩:=l b g;exact⟨bn (L b g),λx a e=>O x a (cg x a e)⟩
 ·obtain⟨f0,B,C,f,O,f5⟩:=l b g;rcases f with f|f
  ·exact I.ok.E9 b o e f
  ·exact absurd (bg (aD e) (aS I.ok.NS f)) (cu _)
 ·obtain⟨f0,B,C,f,O,f5⟩:=l b g;intro z;rcases az.mp (I.sM b z) with z|z
  ·exact B z
  ·exact C z
 ·obtain⟨j,B,C⟩:=Mo e2;obtain⟨g1,Q⟩:=c.slot i j x e1 B;have G:X.env.kindOf x=aa .cell\/X.env.kindOf x=aa .free:=c.free (x,.free) (PySem.mem_of_lookup Q) rfl;have wB:U9 X.env.scope x:=.inr G;obtain⟨m0,_,hl⟩:=I.loc;obtain⟨u,r,lk⟩:=hl j x v g1 C wB;refine⟨u,r,.inr ⟨yI Q,?_⟩⟩;obtain⟨a,ha⟩:=zP (env:=X.env) (y:=x) scope.names [] (.inr (PySem.mem_of_lookup Q));refine⟨a,ha,?_⟩;have T:=cg x a ha;rcases lk with⟨q,_⟩|⟨_,a',e',z⟩
  ·rcases G with w|w<;>(rw[q] at w;cases w)
  ·rw[T] at e';cases e';obtain⟨o,U,hd⟩:=z;exact⟨o,A _ o U,hd⟩
 ·obtain⟨v,o,U,hd⟩:=I.cell x a (cg x a e);exact⟨v,o,A _ o U,hd⟩
 ·rw[br] at Y;obtain⟨e,n,ne,nf,d⟩:=I.pin p Y;refine⟨A _ _ e,n,bn (aD e),λz=>?_,d⟩;rcases az.mp (I.sM p.1 z) with z|z
  ·exact ne z
  ·exact nf z
 ·unfold slots;rw[ap];exact c.len
theorem Inv.unblock{a:ai}{e:St}{c:Hp}{f:List (aj×bS)}{C:aj}(I:Inv X pins σ H s)(g:∀b∈fp,nO X pins H b)(J:Inv (nK X scope N C fp pins s H E) f e c a):Inv X pins σ c a:=
 I.yE (ch:=fp) J.os J.base J.iJ J.bare λb h=>by obtain⟨n,i,o,j,l,m⟩:=g b h;exact⟨j,i,l,m⟩
end
end L2
namespace L2
open PySem PySem.Spec PyProof.Rows
theorem m9{prog:aJ}{w:bj}{A:ba}{R:fS->ai->Prop}{s:ai}{elt target iter:bh}{ifs:List bh}{scope:cx}{pos:c7}{it acc:af}{env:eH}(I:Nat->ai->Prop)
(turn:∀n s,I n s->wpAny (model prog w) A (pyNext it) (λr f=>match r with
   |none=>R (.ok .next) f
   |some v=>wpAny (model prog w) A (letOwnedTupleGo target it v) (λ_ i=>wpAny (model prog w) A (assign target env v) (λ_ j=>
     wpAny (model prog w) A (forIn ifs ah λc r=>if r=ah then do let ok<-aeb c env (eval c env);pure (fO ok) else pure (fO r)) (λok g=>
      if ok=ah then wpAny (model prog w) A (eval elt env) (λx l=>
       wpAny (model prog w) A (call (.builtin "list.append") [acc,x]) (λ_ o=>∃m,m<n/\I m o) (dR (model prog w) A env λe a=>R (.error e) a) l) (dR (model prog w) A env λe a=>R (.error e) a) g
      else∃m,m<n/\I m g) (dR (model prog w) A env λe a=>R (.error e) a) j) (dR (model prog w) A env λe a=>R (.error e) a) i) (dR (model prog w) A env λe a=>R (.error e) a) f) (dR (model prog w) A env λe a=>R (.error e) a) s)
(n:Nat)(h:I n s):
  codeAny (model prog w) A (.compLoop (.ListComp elt [⟨target,iter,ifs,0⟩] scope pos) 0 it acc env) R s:=by
 refine codeAny_loop rfl I (λn s u=>?_) n h;show wpAny _ A ((compTurn (.ListComp elt [⟨target,iter,ifs,0⟩] scope pos) 0 it acc env).onRaise (λx=>do fP x env;theTreesLotGoes x)) _ _ s;refine wpAny_noted ?_;rw[compTurn_list];refine ag (dh (ag (cj (turn n s u) (λr f p=>?_) λ_ _ b=>b)));cases r with
 |none=>exact aq p
 |some v=>
  refine ag (cj p (λ_ i y=>?_) λ_ _ b=>b);refine ag (cj y (λ_ j z=>ag (cj z (λok g q=>?_) λ_ _ b=>b)) λ_ _ b=>b);cases ok with
  |false=>exact aq ⟨rfl,q⟩
  |true=>
   exact ag (ag (cj q (λx l B=>ag (cj B (λ_ o C=>aq (aq ⟨rfl,C⟩)) λ_ _ b=>b)) λ_ _ b=>b))
def SQ (X:Cx)(ifs:List bh)(t:TT):Prop:=
 ∀(pins:List (aj×bS)) (s:ai) (σ:St) (H:Hp) (Q:Bool->Hp->Prop),Inv X pins σ H s->t σ H Q->
  wpAny (model X.prog X.w) X.A (forIn ifs ah λc r=>if r=ah then do let ok<-aeb c X.env (eval c X.env);pure (fO ok) else pure (fO r)) (TP X pins σ Q) X.xe s
noncomputable def acg:TT:=λ_ H Q=>Q ah H
theorem SR{X:Cx}:SQ X [] acg:=λ_ _ _ H _ I h=>wpAny_tests_nil ⟨H,I,h⟩
theorem SS{X:Cx}{c:bh}{t:TT}(h:PT X c t):SQ X [c] t:=λpins s σ H Q I q=>wpAny_tests_one (h pins s σ H Q I q)
noncomputable def zR(fr:List (Option Nat))(wi:TI)(g:TG)(tt:TT)(o:TE):TE:=λσ H Q=>wi σ H λJ H1=>∀p,H1 p=ao->
 ∃W:Nat->Nat->List V->St->Hp->Prop,(∃m,W 0 m [] (slots fr σ) (upd H1 p (.lst [])))/\∀i m a σ H,W i m a σ H->
   (J.stop i H/\Q (.ref p) H)\/(J.go i H/\∃N:List V->St->Hp->Prop,(∀f h c,N f h c->∃j,j<m/\W (i+1) j f h c)/\
   ∀x c,J.Sl i H x c->g x σ c λe q=>tt e q λb l=>if b=ah then o e l λv n=>n p=aa (.lst a)/\a.length<aE/\N (a++[v]) e (upd n p (.lst (a++[v]))) else N a e l)
section
variable {X:Cx} {N:List ay} {fr:List (Option Nat)} {scope:cx} {elt target iter:bh} {ifs:List bh} {wi:TI} {g:TG} {tt:TT} {te:TE} {pos:c7}
theorem Co(c:iu X N fr scope)(ng:X.calm=ah)(hi:PI X target iter wi)
(hg:∀C ex pins gJ gH,PG (nK X scope N C ex pins gJ gH λ_ _=>False) target g)
(ht:∀C ex pins gJ gH,SQ (nK X scope N C ex pins gJ gH λ_ _=>False) ifs tt)
(he:∀C ex pins gJ gH,PE (nK X scope N C ex pins gJ gH λ_ _=>False) elt te)
{pins:List (aj×bS)}{s:ai}{σ:St}{H:Hp}{Q:VK}{R:af->aj->fS->ai->Prop}(I:Inv X pins σ H s)(h:zR fr wi g tt te σ H Q)
(ke:∀p C m G j,Inv X pins σ j G->nO X pins j C->G.heap.Ns C m->Q (.ref p) j->R (.ref p) C (.ok .next) G):
  wpAny (model X.prog X.w) X.A (eval iter X.env) (λx iW=>wpAny (model X.prog X.w) X.A (adn x) (λit BB=>wpAny (model X.prog X.w) X.A (aeM []) (λacc xS=>
   wpAny (model X.prog X.w) X.A (afa scope X.env.globals (nP X.env scope.names []) [] X.env.qual ao .none (aa X.env)) (λMq Mp=>
    codeAny (model X.prog X.w) X.A (.compStart (.ListComp elt [⟨target,iter,ifs,0⟩] scope pos) 0 it acc {Mq with scope:=relabel scope X.env}) (R acc Mq.locals) Mp) X.xe xS) X.xe BB) X.xe iW) X.xe s:=by
 refine jz (hi pins s σ H _ I h) λv s1 h1=>jz h1 λitv s2 h2=>?_;obtain⟨it,l,tn,J,B,e,I2,T,Wm,f2,h2⟩:=h2;subst e;have OI:∀b∈l,b<s2.heap.objs.size:=λb f=>by obtain⟨o,e,_⟩:=T.obj _ _ Wm b f;exact aD e
 have hp0:B s2.heap.objs.size=ao:=I2.fresh;obtain⟨W,⟨m0,w0⟩,turn⟩:=h2 _ hp0;refine cm ?_;generalize hs3:({s2 with heap:=s2.heap.push {cls:=.type "list",dict:=ao,data:=.seq ([]:List af).toArray}}:ai)=s3;have Io:s3={s2 with heap:=s2.heap.push {cls:=.type "list",data:=.seq ([]:List af).toArray},toks:=s2.toks}:=hs3.symm;have O:Inv X pins σ (upd B s2.heap.objs.size (.lst [])) s3:=by rw[Io];exact I2.SI .nil (bJ _)
 have sz3:s3.heap.objs.size=s2.heap.objs.size+1:=by rw[Io];exact bG ..
 have nep:∀b∈l,b≠s2.heap.objs.size:=λb f=>bn (OI b f);have f3:∀b∈l,nO X pins (upd B s2.heap.objs.size (.lst [])) b:=λb f=>⟨by rw[gF (nep b f)];exact(f2 b f).1,(f2 b f).2⟩;have YJ:tn 0 s3.heap:=T.keep _ _ _ Wm λb f o e=>by rw[Io];exact ak _ e
 refine aeo c.cell (by intro y hy;simp at hy) (λh4 ZT OJ=>?_) c.kind;try dsimp only at ZT OJ ⊢
 have k4:∀b o,s3.heap.get? b=aa o->h4.get? b=aa o:=λb o e=>OJ.extBut b o (bn (aD e)) (ak _ e);have Fm:∀b∈l,b<s3.heap.objs.size:=λb f=>by rw[sz3];exact dO (OI b f)
 have I4:Inv (nK X scope N s3.heap.objs.size l pins s3 (upd B s2.heap.objs.size (.lst [])) λ_ _=>False) [] (slots fr σ) (upd B s2.heap.objs.size (.lst [])) {s3 with heap:=h4,toks:=s3.toks+([]:List (ay×af)).length}:=O.block c f3 Fm ZT k4;have ZU:tn 0 h4:=T.keep _ _ _ YJ λb f o e=>k4 b o e;have zI:∀{j:Hp},(∀b∈l,j b=ao)->∀b∈l,nO (nK X scope N s3.heap.objs.size l pins s3 (upd B s2.heap.objs.size (.lst [])) λ_ _=>False) [] j b:=λ{j} hn b f=>by
  obtain⟨g0,g1,g2,g3,g4,g5⟩:=f3 b f;refine⟨hn b f,bn (Fm b f),λz=>?_,.inl f,λx a e=>g4 x a (O.OH c e),λp hp=>?_⟩
  ·rcases az.mp (O.sM b z) with z|z
   ·exact g1 z
   ·exact g2 z
  ·rw[br] at hp;exact g5 p hp
 have loop:∀s5:ai,s5={s3 with heap:=h4,toks:=s3.toks+([]:List (ay×af)).length}->codeAny (model X.prog X.w) X.A (.compLoop (.ListComp elt [⟨target,iter,ifs,0⟩] scope pos) 0 (.ref it) (.ref s2.heap.objs.size) (d6 scope (nP X.env scope.names []) s3.heap.objs.size X.env)) (R (.ref s2.heap.objs.size) s3.heap.objs.size) s5:=by
  rintro s5 rfl
  refine m9 (λn G=>∃i E U j,Inv (nK X scope N s3.heap.objs.size l pins s3 (upd B s2.heap.objs.size (.lst [])) λ_ _=>False) [] U j G/\tn i G.heap/\(∀b∈l,j b=ao)/\W i n E U j) ?_ m0
   ⟨0,[],slots fr σ,_,I4,ZU,λb f=>(f3 b f).1,w0⟩
  rintro n s6 ⟨i,E,Md,H6,I6,ZV,ZW,w6⟩
  rcases turn i n E Md H6 w6 with⟨stop,q⟩|⟨go,Nx,hN,step⟩
  ·refine jz (T.done (nK X scope N s3.heap.objs.size l pins s3 (upd B s2.heap.objs.size (.lst [])) λ_ _=>False) rfl rfl rfl ng i [] s6 Md H6 _ I6 (zI ZW) ZV stop) λr s7 ⟨hr,I7⟩=>?_;subst hr;obtain⟨m7,n7,_⟩:=I7.loc;exact ke _ _ m7 s7 H6 (O.unblock f3 I7) (O.C6 (bf _) I7.free) n7 q
  ·refine jz (T.item (nK X scope N s3.heap.objs.size l pins s3 (upd B s2.heap.objs.size (.lst [])) λ_ _=>False) rfl rfl rfl ng i [] s6 Md H6 _ I6 (zI ZW) ZV go) λr s7 ⟨u,hr,h7⟩=>?_;subst hr;refine jz h7 λ_ s8 ⟨x,H8,I8,r8,y8,WS,fr8⟩=>?_;have I8':=I8.pinned (zI fr8) (T.obj _ _ WS);refine cj (hg _ _ _ _ _ _ s8 Md H8 x u _ I8' r8 (step x H8 y8)) (λ_ s9 ⟨SU,H9,I9,q9⟩=>?_) λ_ _ z=>b0 z;refine cj (ht _ _ _ _ _ _ s9 SU H9 _ I9 q9) (λb s10 ⟨H10,ZX,SV⟩=>?_) λ_ _ z=>b0 z;have again:∀{L:ai} {Dh:St} {M:Hp} {RZ:List V},Inv (nK X scope N s3.heap.objs.size l pins s3 (upd B s2.heap.objs.size (.lst [])) λ_ _=>False) ([]++xN l s8.heap) Dh M L->Nx RZ Dh M->∃m,m<n/\∃i E U j,Inv (nK X scope N s3.heap.objs.size l pins s3 (upd B s2.heap.objs.size (.lst [])) λ_ _=>False) [] U j L/\tn i L.heap/\(∀b∈l,j b=ao)/\W i m E U j:=λ{L Dh M RZ} Y n11=>by obtain⟨m',hm,w11⟩:=hN _ _ _ n11;refine⟨m',hm,i+1,RZ,Dh,M,Y.sO,T.keep _ _ _ WS λb f o e=>(Y.pin (b,o) (bu _ (bu _ (mH f e)))).1,λb f=>?_,w11⟩;obtain⟨o,e,d⟩:=T.obj _ _ WS b f;exact(Y.pin (b,o) (bu _ (bu _ (mH f e)))).2.1
   cases b with
   |false=>
    rw[if_neg au] at SV ⊢;exact again ZX SV
   |true=>
    rw[if_pos rfl] at SV ⊢;refine cj (he _ _ _ _ _ _ s10 SU H10 _ ZX SV) (λu11 L ⟨WT,M,Y,r11,WU,WV,q11⟩=>?_) λ_ _ z=>b0 z;refine cj (xR (X:=nK X scope N s3.heap.objs.size l pins s3 (upd B s2.heap.objs.size (.lst [])) λ_ _=>False) _ L SU M (.ref s2.heap.objs.size) [WT] (.ref s2.heap.objs.size) [u11] (λ_ j=>Nx (E++[WT]) SU j) Y rfl (.cons r11 .nil) ⟨_,E,WT,rfl,rfl,WU,WV,q11⟩) (λ_ s12 ⟨_,H12,I12,_,q12⟩=>?_) λ_ _ z=>b0 z;exact again I12 q12
 exact aeg (loop _ rfl) (T.self X.A 0 _ _ _ ZU (loop _ rfl))
theorem Inv.KS{pins:List (aj×bS)}{s:ai}{σ:St}{H:Hp}{C:aj}{a:ar}(I:Inv X pins σ H s)(f:nO X pins H C)(c:b7 C s.heap a):Inv X pins σ H {s with heap:=a}:=by obtain⟨h,i,p,j,l,m⟩:=f;exact I.turned (t':=s.toks) (λb o n e=>(c.2 b n).trans e) h i j l m
theorem SW(c:iu X N fr scope)(a:X.calm=ah)(hi:PI X target iter wi)
(b:∀C ex pins gJ gH,PG (nK X scope N C ex pins gJ gH λ_ _=>False) target g)
(e:∀C ex pins gJ gH,SQ (nK X scope N C ex pins gJ gH λ_ _=>False) ifs tt)
(i:∀C ex pins gJ gH,PE (nK X scope N C ex pins gJ gH λ_ _=>False) elt te)
(j:∀x,cy iter X.env x=pure x:=by intro _;rfl):PE X (.ListComp elt [⟨target,iter,ifs,0⟩] scope pos) (zR fr wi g tt te):=by intro pins s σ H Q I h;rw[eval_ListComp];refine gm (use:=ao) rfl j (p9 (I.KR c)) c.kind c.loc (Co (R:=aep (model X.prog X.w) X.A X.xe ao (EP X pins σ Q)) c a hi b e i I h λp C m r l n f hn q=>?_);exact⟨m,hn,λu o=>⟨.ref p,l,n.KS f o,rfl,q⟩⟩
noncomputable def Vq(i:Nat)(te:TE):TS:=λD σ H=>te σ H λv H1=>D.nx (σ.set i (aa v)) H1
theorem KU{i:Nat}{y:ay}{py Fn:c7}(c:iu X N fr scope)(n:X.calm=ah)(hi:PI X target iter wi)
(o:∀C ex pins gJ gH,PG (nK X scope N C ex pins gJ gH λ_ _=>False) target g)
(r:∀C ex pins gJ gH,SQ (nK X scope N C ex pins gJ gH λ_ _=>False) ifs tt)
(u:∀C ex pins gJ gH,PE (nK X scope N C ex pins gJ gH λ_ _=>False) elt te)
(z:X.N.Nodup)(B:X.N[i]?=aa y)(E:Loc X.env.scope y)
(G:cN (.ListComp elt [⟨target,iter,ifs,0⟩] scope pos) (aa (.Name y py)) Fn.line X.env=pure ah:=by rfl)(J:X.fn y=ah\/X.env.scope.names.lookup y=aa .local:=by first|exact .inl rfl|exact .inr rfl|assumption)
(L:∀x,cy iter X.env x=pure x:=by intro _;rfl):PS X (.Assign [.Name y py] (.ListComp elt [⟨target,iter,ifs,0⟩] scope pos) Fn) (Vq i (zR fr wi g tt te)):=by
 intro pins s σ H D I h;rw[aei _ _ _ _ G];refine ag (dh (ag ?_));show wpAny _ X.A (do let _<-comprehension (.ListComp elt [⟨target,iter,ifs,0⟩] scope pos) scope X.env _ (aeM []) am (eval iter X.env) (aa (assign (.Name y py) X.env))) _ _ s;refine ag (jz (gm (use:=aa (assign (.Name y py) X.env)) (Q:=λ_ b=>SP X pins D .next b) rfl L (p9 (I.KR c)) c.kind c.loc
  (Co (R:=aep (model X.prog X.w) X.A X.xe (aa (assign (.Name y py) X.env)) (λ_ b=>SP X pins D .next b)) c n hi o r u I h λp C m b M O f hn q=>?_)) (λ_ b T=>aq (aq T)))
 show wpAny _ X.A (assign (.Name y py) X.env (.ref p)) _ _ b;refine adH (uo (v:=.ref p) O z B E rfl (λs2 U j=>?_) J);obtain⟨a,sb,ha⟩:=j;have l:C≠a:=by
  rcases ha with ha|ha
  ·rw[ha];exact f.2.1
  ·exactλe=>f.2.2.2.2.1 y a ha e.symm
 exact⟨m,hn.sameBut sb l,λh' Y=>⟨_,M,U.KS f Y,q⟩⟩
end
end L2
namespace L2
open PySem PySem.Spec PyProof.Rows
noncomputable def Its(x:ay):It:=⟨λi _=>i<x.cps.size,λi H v a=>a=H/\∃c,x.cps[i]?=aa c/\v=.str ⟨#[c]⟩,λi _=>x.cps.size<=i⟩
theorem nh{x:ay}:dG x="str_ascii_iterator"\/dG x="str_iterator":=by
 unfold dG;split
 ·exact .inl rfl
 ·exact .inr rfl
theorem ON{P:aJ}{w:bj}{K:W.Frag}{tg:bh}(it:aj)(x:ay)(t:aew):Turn P w K tg (Its x) [it] it (λi h=>h.IsStrIter it (dG x) x t i/\i<=x.cps.size) where
 mem:=by simp
 obj:=λi h st b a=>by
  have e:b=it:=by simpa using a
  subst e;obtain⟨⟨o,e,c,d⟩,_⟩:=st;exact⟨o,e,λv z=>by rw[d] at z;cases z⟩
 keep:=λi h g st k=>by obtain⟨⟨o,e,c,d⟩,l⟩:=st;exact⟨⟨o,k it (by simp) o e,c,d⟩,l⟩
 item:=by
  intro X J hw L n i pins s σ H E I p st f;subst J hw L;obtain⟨q,r,U,y,B,C⟩:=p it (by simp);have f:i<x.cps.size:=f;rcases nh (x:=x) with e|e
  ·rw[e] at st ⊢;have W:=adR.strAscii (prog:=X.prog) (w:=X.w) (I.ok.hd n) it x t;refine W.item i s _ _ f st.1 λv g tk M G j=>?_;obtain⟨c,u,m,rfl⟩:=M;have N:Inv X pins σ H {s with heap:=g,toks:=tk}:=I.turned (λb o a e=>j b o (by simpa using a) e) q r y B C;obtain⟨o,e1,O,T⟩:=id G;exact⟨_,rfl,Fd (s:={s with heap:=g,toks:=tk}) e1 O T (by decide) ⟨.str ⟨#[c]⟩,H,N,⟨u,rfl⟩,⟨rfl,c,m,rfl⟩,⟨G,f⟩,λb a=>(p b a).1⟩⟩
  ·rw[e] at st ⊢;have W:=adR.strWide (prog:=X.prog) (w:=X.w) (I.ok.hd n) it x t;refine W.item i s _ _ f st.1 λv g tk M G j=>?_;obtain⟨c,u,m,rfl⟩:=M;have N:Inv X pins σ H {s with heap:=g,toks:=tk}:=I.turned (λb o a e=>j b o (by simpa using a) e) q r y B C;obtain⟨o,e1,O,T⟩:=id G;exact⟨_,rfl,Fd (s:={s with heap:=g,toks:=tk}) e1 O T (by decide) ⟨.str ⟨#[c]⟩,H,N,⟨u,rfl⟩,⟨rfl,c,m,rfl⟩,⟨G,f⟩,λb a=>(p b a).1⟩⟩
 done:=by
  intro X J hw L n i pins s σ H E I p st f;subst J hw L;obtain⟨q,r,U,y,B,C⟩:=p it (by simp);have f:x.cps.size<=i:=f;obtain⟨st,l⟩:=st;have hi:i=x.cps.size:=by omega
  subst hi;rcases nh (x:=x) with e|e
  ·rw[e] at st;exact(adR.strAscii (prog:=X.prog) (w:=X.w) (I.ok.hd n) it x t).done s _ _ st λg tk j=>⟨rfl,I.turned (λb o a e=>j b o (by simpa using a) e) q r y B C⟩
  ·rw[e] at st;exact(adR.strWide (prog:=X.prog) (w:=X.w) (I.ok.hd n) it x t).done s _ _ st λg tk j=>⟨rfl,I.turned (λb o a e=>j b o (by simpa using a) e) q r y B C⟩
 self:=λA i s Q E st h=>by
  obtain⟨st,l⟩:=st;rcases nh (x:=x) with e|e
  ·rw[e] at st;exact wpAny_pyIter_striter_ascii st h
  ·rw[e] at st;exact wpAny_pyIter_striter_wide st h
section
variable {X:Cx} {tg:bh}
theorem OO(m:X.calm=ah):nJ X (.builtin "all") (λxs H Q=>∃(a:aj) (bs:List Bool),xs=[V.ref a]/\pH X.K H a (bs.map V.bl)/\Q (.bl (bs.all id)) H):=by
 intro pins s σ H xs us Q I r h;obtain⟨a,bs,rfl,w,q⟩:=h;obtain⟨u,rfl,c⟩:=vals1 r;cases c;obtain⟨g8,f,p,N⟩:=I.list w;have y:X.A.in1.handled=ao:=I.ok.hd m;refine call_all_walk (dS p.isList ?_);have z:a<s.heap.objs.size:=by obtain⟨o,n,e,_⟩:=p;exact aD e
 have B:g8.length=bs.length:=by have:=f.length;rw[ap] at this;exact this.symm
 have C:∀(i:Nat) (v:af),g8[i]?=aa v->v=.bool (bs.getD i am):=λi v e=>by
  have hi:i<g8.length:=(aB.mp e).1;have E:(bs.map V.bl)[i]?=aa (V.bl (bs.getD i am)):=by rw[bA,bX,aZ (by omega)];rfl
  obtain⟨u,g,c⟩:=f.get E;rw[e] at g;cases g;exact c
 refine⟨s.heap.objs.size,_,_,_,_,_,λi=>bs.getD i am,rfl,adR.list y s.heap.objs.size a (bn z) g8.toArray,⟨⟨_,aQ _ rfl,rfl,rfl⟩,p.isList.push _⟩,λi v O T U G J=>?_,λY tk L=>?_⟩
 ·have:=C i v (by simpa using G);subst this;exact ck J
 ·have e:(dn g8.toArray.size).all (λi=>bs.getD i am)=bs.all id:=by
   rw[aT,B];have key:∀l:List Bool,(dn l.length).all (λi=>l.getD i am)=l.all id:=by
    intro l;rw[eW];simp only [bM,adf,id];constructor
    ·intro h x M;obtain⟨i,hi,rfl⟩:=List.mem_iff_getElem.mp M;have:=h i hi
     rwa [bX,aZ hi] at this
    ·intro h i hi;rw[bX,aZ hi];exact h _ (fY hi)
   exact key bs
  rw[e];refine⟨.bl _,H,I.kept (t':=tk) λb o j=>?_,rfl,q⟩;exact L b o (by simpa using bn (aD j)) (ak _ j)
theorem Mu:sH X (compareOp .LtE) (λx y H Q=>∃i j,x=.str i/\y=.str j/\Q (.bl (!decide (j.cps.toList<i.cps.toList))) H):=by intro pins s σ H x y v u Q I a b h;obtain⟨i,j,rfl,rfl,q⟩:=h;obtain⟨t,rfl⟩:=a;obtain⟨c,rfl⟩:=b;exact P.le_str (iG I q rfl)
theorem WW:RY X (λx lo hi H Q=>∃z,x=.str z/\z.length<=aE/\Q (.str (Txt.slice z lo hi)) H):=by
 intro pins s σ H x v c e lo hi sl Q I f g pl a h;obtain⟨z,rfl,m,q⟩:=h;obtain⟨t,rfl⟩:=f;have key:∀(l u:Option (Int×aew)),partValue l=c->partValue u=e->l.map (·.1)=lo->u.map (·.1)=hi->wpAny (model X.prog X.w) X.A (adj (.str z t) (.ref sl)) (EP X pins σ Q) X.xe s:=by
  rintro l u rfl rfl rfl rfl
  refine wpAny_getItem_str_slice (l:=l) (u:=u) (st:=ao) g rfl (post_val_or_str ⟨aS (Txt.slice_le z _ _) m,λn k=>⟨.str _,H,I.tok k,⟨_,rfl⟩,q⟩⟩)
 refine⟨"str",_,F.slot_str_getitem.lookup,adW _ _ _,?_⟩;cases pl with
 |none=>
  cases a with
  |none=>exact key ao ao rfl rfl rfl rfl
  |int j u=>exact key ao (aa (j,u)) rfl rfl rfl rfl
 |int i b=>
  cases a with
  |none=>exact key (aa (i,b)) ao rfl rfl rfl rfl
  |int j u=>exact key (aa (i,b)) (aa (j,u)) rfl rfl rfl rfl
theorem OP:ZJ X "str.upper" (λx a H Q=>∃z,x=.str z/\a=[]/\z.length<=1000/\Q (.str (Txt.upper z)) H):=by intro pins s σ H x a v us Q I c e h;obtain⟨z,rfl,rfl,f,q⟩:=h;obtain⟨t,rfl⟩:=c;cases e;have b:=fit_upper (x:=z) (by omega);refine call_gives F.slot_str_upper (adW _ _ _) F.entry_str_upper (F.args_str_upper_1 _) (gives_str_upper z t b) ⟨fit_le b,⟨.str _,H,I.tok _,⟨_,rfl⟩,q⟩⟩
end
end L2
namespace L2
open PySem PySem.Spec PyProof.Rows
def gX (K:W.Frag)(mg:ay->Option af)(x:ay)(st:bH):Prop:=∃f fd,wP K x x st f fd/\mg x=aa (.ref f)
def re (P:aJ)(w:bj)(K:W.Frag)(mg:ay->Option af)(base:ar)(k:Nat)(x:ay)(a:List ay)(sp:Sp):Prop:=
 ∃f fd,mg x=aa (.ref f)/\W.keepIn K (.ref f)=ah/\Binds K fd a []/\ky P w K mg base uR k f fd a sp
theorem OQ{K:W.Frag}{h:ar}{mg:ay->Option af}(X:K.In h)(G:h.Ns aO mg){x:ay}{st:bH}{f:aj}{oc:af}{od an:Option aj}{By:Array (Option af)}{kV doc pm iE ct:af}
(a:W.nsIn K aO x=aa (aa (.ref f)))(l:K.lookup f=aa ⟨oc,od,.func (W.fnOf x x (jT st) (iF st) (hZ st) .none kV doc pm an iE ct),By⟩)
(c:W.codeIn K iE x=ah)(k:W.keepIn K (.ref f)=ah):gX K mg x st:=⟨f,_,Im l c k,W.mg_of X G a⟩
section
variable {P:aJ} {w:bj} {K:W.Frag} {mg:ay->Option af} {base:ar}
theorem gX.has{x:ay}{st:bH}{N a:List ay}{k:Nat}{sp:Sp}(F:gX K mg x st)(S:gU N a (hZ st))
(c:∀(kV doc pm:af) (an:Option aj) (iE ct:af) (us:List af),us.length=a.length->eP (W.fnOf x x (jT st) (iF st) (hZ st) .none kV doc pm an iE ct) ⟨us,[]⟩=pure (a.zip us))
(len:∀b H Q E,sp b H Q E->b.length=a.length)
(e:∀(f:aj) (iE:af) (A:ba) (outer:List eH) (s:ai) (H:Hp) (b:List V) (Q:VK) (E:XK),jR k (A.deeper (dZ x (hZ st) s.heap.objs.size f iE))->sp b H Q E->
   ∃t,wA (uQ uR P w K mg base N x (hZ st) f iE A outer s H E).L9 (iF st) t/\t {nx:=λ_ g=>Q .non g,rt:=Q} (start N b) H):re P w K mg base (k+1) x a sp:=by obtain⟨f,fd,F,m⟩:=F;exact⟨f,fd,m,F.kp,F.binds c,F.ok S len (e f)⟩
end
section
variable {X:Cx} {k:Nat} {x:ay} {ps:List ay} {sp:Sp} {p pos:c7} {e:bh} {es:List bh} {t:TA}
theorem ZY(h:re X.prog X.w X.K X.mg X.base k x ps sp)(a:jR k X.A)(ha:PA X (e::es) t)(c:Gl X x:=by rfl)(g:(x==("__debug__":ay))=am:=by decide)
(i:aM (e::es) X.env=(am,eval e X.env)::aM es X.env:=by rfl)(j:(cG pos (aM es X.env)).any (·.1)=am:=by rfl):
  PE X (.Call (.Name x p) (e::es) [] pos) (Vl sp [] E0 t):=by obtain⟨f,fd,m,kp,b,F⟩:=h;exact Su F a c m kp b .nil KP ha g i j
end
end L2
namespace L2
open PySem PySem.Spec PyProof.Rows
theorem zS{H:Hp}{p:aj}{o:HO}(h:H p=ao):jA H (upd H p o):=λb u e=>by rw[gF (i8 e h)];exact e
end L2
namespace L2
open PySem PySem.Spec PyProof.Rows
section
variable {P:aJ} {w:bj} {K:W.Frag} {mg:ay->Option af} {base:ar}
theorem gX.hasB{x:ay}{st:bH}{N a:List ay}{k:Nat}{sp:Sp}{body:List bH}{scope:cx}(F:gX K mg x st)(c:iF st=body)(es:hZ st=scope)(S:gU N a scope)
(e:∀(kV doc pm:af) (an:Option aj) (iE ct:af) (us:List af),us.length=a.length->eP (W.fnOf x x (jT st) (iF st) (hZ st) .none kV doc pm an iE ct) ⟨us,[]⟩=pure (a.zip us))
(len:∀b H Q E,sp b H Q E->b.length=a.length)
(g:∀(f:aj) (iE:af) (A:ba) (outer:List eH) (s:ai) (H:Hp) (b:List V) (Q:VK) (E:XK),jR k (A.deeper (dZ x scope s.heap.objs.size f iE))->sp b H Q E->
   ∃t,wA (uQ uR P w K mg base N x scope f iE A outer s H E).L9 body t/\t {nx:=λ_ h=>Q .non h,rt:=Q} (start N b) H):re P w K mg base (k+1) x a sp:=by subst c es;exact F.has S e len g
end
end L2
namespace L2
open PySem PySem.Spec PyProof.Rows
structure QE(X:Cx)(e:bh)(t:TE):Prop where p:PE X e t
structure QT(X:Cx)(e:bh)(t:TT):Prop where p:PT X e t
structure QW(X:Cx)(e:bh)(t:TT):Prop where p:PW X e t
structure QA(X:Cx)(es:List bh)(t:TA):Prop where p:PA X es t
structure QS(X:Cx)(st:bH)(t:TS):Prop where p:PS X st t
structure QB(X:Cx)(st:List bH)(t:TS):Prop where p:wA X st t
structure QG(X:Cx)(tg:bh)(g:TG):Prop where p:PG X tg g
structure QGs(X:Cx)(tg:List bh)(g:RW):Prop where p:Oa X tg g
structure QI(X:Cx)(tg iter:bh)(wi:TI):Prop where p:PI X tg iter wi
structure QF(X:Cx)(ifs:List bh)(t:TT):Prop where p:SQ X ifs t
structure QO(X:Cx)(e:Option bh)(t:TO):Prop where p:PO X e t
structure ROp(X:Cx)(op:adJ)(r:R2):Prop where p:sH X (binaryOp op) r
structure ac5(X:Cx)(op:adw)(r:R2):Prop where p:sH X (compareOp op) r
structure RUn(X:Cx)(op:UnaryOp)(r:V->Hp->VK->Prop):Prop where p:UnR X (unaryOp op) r
structure RB(X:Cx)(id:String)(r:List V->Hp->VK->Prop):Prop where p:nJ X (.builtin id) r
structure RTy(X:Cx)(T:String)(r:List V->Hp->VK->Prop):Prop where p:nJ X (.type T) r
structure RIx(X:Cx)(r:R2):Prop where p:WE X r
structure RSl(X:Cx)(r:V->Option Int->Option Int->Hp->VK->Prop):Prop where p:RY X r
structure RMt(X:Cx)(id:String)(r:V->List V->Hp->VK->Prop):Prop where p:ZJ X id r
section
variable {X:Cx} {a b c e:bh} {es rest:List bh} {ta tb tc te:TE} {t u:TS} {tA N8:TT} {tt:TA} {pos p p2 p3:c7} {x:ay}
end
section
variable {P:aJ} {w:bj} {K:W.Frag} {mg:ay->Option af} {base:ar}
theorem gX.ZZ{x:ay}{st:bH}{N b:List ay}{k:Nat}{sp:Sp}{body:List bH}{scope:cx}(F:gX K mg x st)(c:iF st=body)(es:hZ st=scope)(S:gU N b scope)
(e:∀(kV doc pm:af) (an:Option aj) (iE ct:af) (us:List af),us.length=b.length->eP (W.fnOf x x (jT st) (iF st) (hZ st) .none kV doc pm an iE ct) ⟨us,[]⟩=pure (b.zip us))
(len:∀a H Q E,sp a H Q E->a.length=b.length)
(g:∀(f:aj) (iE:af) (A:ba) (outer:List eH) (s:ai) (H:Hp) (a:List V) (Q:VK) (E:XK),jR k (A.deeper (dZ x scope s.heap.objs.size f iE))->sp a H Q E->
   ∃t,QB (uQ uR P w K mg base N x scope f iE A outer s H E).L9 body t/\t {nx:=λ_ i=>Q .non i,rt:=Q} (start N a) H):re P w K mg base (k+1) x b sp:=
 F.hasB c es S e len λf iE A outer s H a Q E j h=>let⟨t,q,z⟩:=g f iE A outer s H a Q E j h;⟨t,q.p,z⟩
theorem wP.WX{x y:ay}{st:bH}{f:aj}{fd:cn}(F:wP K x x st f fd)
(h:∀(kV doc pm:af) (an:Option aj) (iE ct:af) (u:af),eP (W.fnOf x x (jT st) (iF st) (hZ st) .none kV doc pm an iE ct) ⟨[u],[]⟩=pure [(y,u)]):∀(s:ai) (v:af),adq s fd ⟨[v],[]⟩ [(y,v)]:=by obtain⟨oc,od,kV,doc,pm,an,iE,ct,By,rfl,lk,a⟩:=F.ex;exactλs v=>.of_eq (h kV doc pm an iE ct v)
end
end L2
namespace L2
open PySem PySem.Spec PyProof.Rows PySem.W
noncomputable def Fo(c:aj)(q:ay):HO:=.ext λh=>h.CodeRec (.ref c) q
structure Vr(q:ay)(H:Hp)(ps:Array af):Prop where
 ok:TriplesOk ps.toList
 cs:∀pos v,codeAmong pos ps.toList=aa v->∃c,v=.ref c/\H c=aa (Fo c q)
def Vs (P:aj)(q:ay)(H a:Hp):Prop:=(∃b,a P=aa (.HP b)/\Vr q a b)/\(a=H\/∃c b,H c=ao/\c≠P/\a=upd (upd H c (Fo c q)) P (.HP b))
end L2
namespace L3
open PySem PySem.Spec PyProof.Rows L2
@[reducible] def wB:Option HO->Option HO
 |some (.HP _)=>ao
 |some (.ext _)=>ao
 |o=>o
theorem OR{x:Option HO}{o:HO}(h:wB x=aa o):x=aa o/\wB (aa o)=aa o:=by
 cases x with
 |none=>cases h
 |some y=>cases y<;>first|(cases h;done)|(cases h;exact⟨rfl,rfl⟩)
theorem zT{x:Option HO}(h:wB x≠ao):x≠ao:=λz=>h (by rw[z])
noncomputable def Z0:List ay:=["by_name"]
noncomputable def Z1(x:ay):ay:=x++".<locals>."++"<lambda>"
def Tb (K:W.Frag)(H:Hp):Prop:=∀x∈Z0,∀c P,W.tabIn K x=aa (c,P)->∃a,H P=aa (.HP a)/\Vr (Z1 x) H a
theorem Tb.imp{K:W.Frag}{H a:Hp}(t:Tb K H)(h:∀b o,H b=aa o->wB (aa o)=ao->a b=aa o):Tb K a:=λx f c P e=>by obtain⟨g,i,j,l⟩:=t x f c P e;refine⟨g,h _ _ i rfl,j,λpos v m=>?_⟩;obtain⟨n,e1,e2⟩:=l pos v m;exact⟨n,e1,h _ _ e2 rfl⟩
theorem Tb.same{K:W.Frag}{H a:Hp}(t:Tb K H)(h:jA H a):Tb K a:=t.imp λb o e _=>h b o e
theorem Tb.upd{K:W.Frag}{H:Hp}{p:aj}{x:HO}(t:Tb K H)(h:wB (H p)≠ao\/H p=ao):Tb K (upd H p x):=t.imp λb o e v=>by
 rw[gF λz=>?_]
 ·exact e
 ·subst z;rcases h with h|h
  ·rw[e] at h;exact h v
  ·rw[h] at e;cases e
end L3
namespace L3
open PySem PySem.Spec PyProof.Rows L2
inductive D where
 |non|bl (b:Bool)|int (i:Int)|str (x:ay)|ty (n:String)
 |tup (ds:List D)|lst (ds:List D)|lV (ks:List Key) (ds:List D)
 |ins (C:aj) (ns:List ay) (ds:List D)|qc (ns:List Int)|loc (k:Nat)|cls (C:aj)|exc (C:aj) (ns:List ay) (ds:List D)
inductive OD where
 |lst (ds:List D)|lV (ks:List Key) (ds:List D)|ins (C:aj) (ns:List ay) (ds:List D)|fz (k ep:Nat) (ks:List Key) (ds:List D)
abbrev Ms:=List (Option OD)
mutual
def Rep (K:W.Frag) (α:List aj) (H:Hp):D->V->Prop
 |.non,v=>v=.non
 |.bl b,v=>v=.bl b
 |.int i,v=>v=.int i
 |.str x,v=>v=.str x
 |.ty n,v=>v=.ty n
 |.tup ds,v=>∃a c,v=.ref a/\xL K H a c/\gA K α H ds c
 |.lst ds,v=>∃a c,v=.ref a/\H a=aa (.lst c)/\gA K α H ds c
 |.qc ns,v=>∃a,v=.ref a/\pH K H a (ns.map V.int)
 |.lV e ds,v=>∃a c,v=.ref a/\Rd H a (.dK (e.zip c))/\e.length=ds.length/\gA K α H ds c
 |.ins C ns ds,v=>∃a f c,v=.ref a/\H a=aa (.ins C f (ns.zip c))/\ns.length=ds.length/\gA K α H ds c
 |.loc k,v=>∃a,α[k]?=aa a/\v=.ref a
 |.cls C,v=>v=.ref C
 |.exc C ns ds,v=>∃a c,v=.ref a/\H a=aa (.xc C (ns.zip c))/\ns.length=ds.length/\gA K α H ds c
def gA (K:W.Frag) (α:List aj) (H:Hp):List D->List V->Prop
 |[],c=>c=[]
 |d::ds,c=>∃v r,c=v::r/\Rep K α H d v/\gA K α H ds r
end
theorem oF{K:W.Frag}{H b:Hp}{a:aj}{xs:List V}(e:jA H b)(h:xL K H a xs):xL K b a xs:=by
 rcases h with(h|⟨o,h⟩)|h
 ·exact .inl (.inl (e _ _ h))
 ·exact .inl (.inr ⟨o,e _ _ h⟩)
 ·exact .inr h
theorem kj{K:W.Frag}{H b:Hp}{a:aj}{xs:List V}(e:jA H b)(h:pH K H a xs):pH K b a xs:=by
 rcases h with(h|⟨o,h⟩)|h
 ·exact .inl (.inl (e _ _ h))
 ·exact .inl (.inr ⟨o,e _ _ h⟩)
 ·exact .inr h
theorem Di{H b:Hp}{a:aj}{u:HO}(e:jA H b)(h:Rd H a u):Rd b a u:=by
 rcases h with h|⟨o,h⟩
 ·exact .inl (e _ _ h)
 ·exact .inr ⟨o,e _ _ h⟩
theorem KW{α β:List aj}(p:α <+: β){k:Nat}{a:aj}(h:α[k]?=aa a):β[k]?=aa a:=by obtain⟨t,rfl⟩:=p;have:=(aB.mp h).1;rw[bI this];exact h
mutual
theorem Rep.mono {K:W.Frag} {α β:List aj} {H c:Hp} (p:α <+: β) (e:jA H c):∀(d:D) (v:V),Rep K α H d v->Rep K β c d v
 |.non,v,h=>by unfold Rep at h ⊢;exact h
 |.bl _,v,h=>by unfold Rep at h ⊢;exact h
 |.int _,v,h=>by unfold Rep at h ⊢;exact h
 |.str _,v,h=>by unfold Rep at h ⊢;exact h
 |.ty _,v,h=>by unfold Rep at h ⊢;exact h
 |.tup ds,v,h=>by unfold Rep at h ⊢;obtain⟨a,b,r,q,z⟩:=h;exact⟨a,b,r,oF e q,gA.mono p e ds b z⟩
 |.lst ds,v,h=>by unfold Rep at h ⊢;obtain⟨a,b,r,q,z⟩:=h;exact⟨a,b,r,e _ _ q,gA.mono p e ds b z⟩
 |.qc ns,v,h=>by unfold Rep at h ⊢;obtain⟨a,r,q⟩:=h;exact⟨a,r,kj e q⟩
 |.lV g ds,v,h=>by unfold Rep at h ⊢;obtain⟨a,b,r,q,l,z⟩:=h;exact⟨a,b,r,Di e q,l,gA.mono p e ds b z⟩
 |.ins C ns ds,v,h=>by unfold Rep at h ⊢;obtain⟨a,f,b,r,q,l,z⟩:=h;exact⟨a,f,b,r,e _ _ q,l,gA.mono p e ds b z⟩
 |.exc C ns ds,v,h=>by unfold Rep at h ⊢;obtain⟨a,b,r,q,l,z⟩:=h;exact⟨a,b,r,e _ _ q,l,gA.mono p e ds b z⟩
 |.loc k,v,h=>by unfold Rep at h ⊢;obtain⟨a,r,q⟩:=h;exact⟨a,KW p r,q⟩
 |.cls _,v,h=>by unfold Rep at h ⊢;exact h
theorem gA.mono {K:W.Frag} {α β:List aj} {H c:Hp} (p:α <+: β) (e:jA H c):∀(ds:List D) (b:List V),gA K α H ds b->gA K β c ds b
 |[],b,h=>by unfold gA at h ⊢;exact h
 |d::ds,b,h=>by unfold gA at h ⊢;obtain⟨v,r,q,z,y⟩:=h;exact⟨v,r,q,Rep.mono p e d v z,gA.mono p e ds r y⟩
end
section
variable {K:W.Frag} {α:List aj} {H:Hp}
theorem gA.length:∀(ds:List D) (a:List V),gA K α H ds a->ds.length=a.length
 |[],a,h=>by unfold gA at h;rw[h];rfl
 |d::ds,a,h=>by unfold gA at h;obtain⟨v,r,rfl,_,y⟩:=h;rw[aV,aV,gA.length ds r y]
theorem gA.get:∀(ds:List D) (a:List V) (i:Nat) (d:D),gA K α H ds a->ds[i]?=aa d->∃v,a[i]?=aa v/\Rep K α H d v
 |[],a,i,d,h,e=>by simp at e
 |x::ds,a,0,d,h,e=>by unfold gA at h;obtain⟨v,r,rfl,z,_⟩:=h;simp at e;subst e;exact⟨v,rfl,z⟩
 |x::ds,a,i+1,d,h,e=>by unfold gA at h;obtain⟨v,r,rfl,_,y⟩:=h;obtain⟨u,b,c⟩:=gA.get ds r i d y (by simpa using e);exact⟨u,by simpa using b,c⟩
theorem gA.get':∀(ds:List D) (a:List V) (i:Nat) (v:V),gA K α H ds a->a[i]?=aa v->∃d,ds[i]?=aa d/\Rep K α H d v
 |[],a,i,d,h,e=>by unfold gA at h;subst h;simp at e
 |x::ds,a,0,d,h,e=>by unfold gA at h;obtain⟨v,r,rfl,z,_⟩:=h;simp at e;subst e;exact⟨x,rfl,z⟩
 |x::ds,a,i+1,d,h,e=>by unfold gA at h;obtain⟨v,r,rfl,_,y⟩:=h;obtain⟨u,b,c⟩:=gA.get' ds r i d y (by simpa using e);exact⟨u,by simpa using b,c⟩
theorem gA.append:∀(ds es:List D) (a us:List V),gA K α H ds a->gA K α H es us->gA K α H (ds++es) (a++us)
 |[],es,a,us,h,g=>by unfold gA at h;subst h;exact g
 |d::ds,es,a,us,h,g=>by unfold gA at h;obtain⟨v,r,rfl,z,y⟩:=h;show gA K α H (d::(ds++es)) (v::(r++us));unfold gA;exact⟨v,_,rfl,z,gA.append ds es r us y g⟩
theorem gA.nil:gA K α H [] []:=by unfold gA;rfl
theorem gA.cons{d:D}{v:V}{ds:List D}{a:List V}(q:Rep K α H d v)(h:gA K α H ds a):gA K α H (d::ds) (v::a):=by unfold gA;exact⟨v,a,rfl,q,h⟩
theorem gA.one{d:D}{v:V}(q:Rep K α H d v):gA K α H [d] [v]:=gA.cons q gA.nil
theorem gA.take:∀(n:Nat) (ds:List D) (a:List V),gA K α H ds a->gA K α H (ds.take n) (a.take n)
 |0,ds,a,h=>by simpa using gA.nil
 |n+1,[],a,h=>by unfold gA at h;subst h;simpa using gA.nil
 |n+1,d::ds,a,h=>by unfold gA at h;obtain⟨v,r,rfl,z,y⟩:=h;rw[List.take_succ_cons,List.take_succ_cons];exact gA.cons z (gA.take n ds r y)
theorem gA.drop:∀(n:Nat) (ds:List D) (a:List V),gA K α H ds a->gA K α H (ds.drop n) (a.drop n)
 |0,ds,a,h=>h
 |n+1,[],a,h=>by unfold gA at h;subst h;simpa using gA.nil
 |n+1,d::ds,a,h=>by unfold gA at h;obtain⟨v,r,rfl,z,y⟩:=h;rw[List.drop_succ_cons,List.drop_succ_cons];exact gA.drop n ds r y
theorem gA.set{d:D}{v:V}(q:Rep K α H d v):∀(i:Nat) (ds:List D) (a:List V),gA K α H ds a->gA K α H (ds.set i d) (a.set i v)
 |i,[],a,h=>by unfold gA at h;subst h;simpa using gA.nil
 |0,x::ds,a,h=>by unfold gA at h;obtain⟨u,r,rfl,z,y⟩:=h;exact gA.cons q y
 |i+1,x::ds,a,h=>by unfold gA at h;obtain⟨u,r,rfl,z,y⟩:=h;exact gA.cons z (gA.set q i ds r y)
theorem gA.of_map{β:Type}(f:β->D)(g:β->V)(h:∀a,Rep K α H (f a) (g a)):∀l:List β,gA K α H (l.map f) (l.map g)
 |[]=>gA.nil
 |a::l=>gA.cons (h a) (gA.of_map f g h l)
theorem gA.rep{ds:List D}{a:List V}(h:gA K α H ds a):∀k:Nat,gA K α H (aw k ds).flatten (aw k a).flatten
 |0=>gA.nil
 |k+1=>by rw[cM,cM,dL,dL];exact gA.append _ _ _ _ h (gA.rep h k)
theorem gA.at{ds:List D}{a:List V}{i:Int}{d:D}(h:gA K α H ds a)(e:vC ds i=aa d):∃v,vC a i=aa v/\Rep K α H d v:=by
 unfold vC at e ⊢;rw[<-gA.length _ _ h];cases q:E4 ds.length i with
 |none=>rw[q] at e;cases e
 |some j=>
  rw[q] at e;exact gA.get ds a j d h e
theorem i6{i:Int}:Rep K α H (.int i) (.int i):=by unfold Rep;rfl
theorem ja{i:Bool}:Rep K α H (.bl i) (.bl i):=by unfold Rep;rfl
theorem pL{i:ay}:Rep K α H (.str i) (.str i):=by unfold Rep;rfl
theorem S0{C:aj}:Rep K α H (.cls C) (.ref C):=by unfold Rep;rfl
theorem wQ:Rep K α H .non .non:=by unfold Rep;rfl
theorem WY{n:String}:Rep K α H (.ty n) (.ty n):=by unfold Rep;rfl
end
noncomputable def jB(A:List aj)(H:Hp):Hp:=λb=>if b∈A then ao else wB (H b)
theorem kg{A:List aj}{H:Hp}{p:aj}(h:p∉A):jB A H p=wB (H p):=by unfold jB;rw[if_neg h]
theorem nQ{A:List aj}{H:Hp}{p:aj}(h:p∈A):jB A H p=ao:=by unfold jB;rw[if_pos h]
theorem sU{A:List aj}{H:Hp}{p:aj}{o:HO}(h:jB A H p=aa o):p∉A/\H p=aa o/\wB (aa o)=aa o:=by
 by_cases z:p∈A
 ·rw[nQ z] at h;cases h
 ·rw[kg z] at h;exact⟨z,OR h⟩
theorem iL{A:List aj}{H:Hp}{p:aj}{o:HO}(h:jB A H p=aa o):p∉A/\H p=aa o:=⟨(sU h).1,(sU h).2.1⟩
theorem hV{A:List aj}{H:Hp}:jA (jB A H) H:=λb o e=>(iL e).2
theorem mT{A:List aj}{H:Hp}{p:aj}{o:HO}(h:p∉A)(e:H p=aa o)(v:wB (aa o)=aa o):jB A H p=aa o:=by rw[kg h,e];exact v
theorem kT{A B:List aj}{H a:Hp}{b:aj}{o:HO}(h:jB A H b=aa o)(c:b∉B)(e:a b=aa o):jB B a b=aa o:=mT c e (sU h).2.2
theorem Cp{A:List aj}{H a:Hp}(h:jA H a):jA (jB A H) (jB A a):=λb o e=>kT e (iL e).1 (h b o (iL e).2)
noncomputable def lv:List aj->Ms->List aj
 |a::α,aa _::M=>a::lv α M
 |_::α,ao::M=>lv α M
 |_,_=>[]
theorem rf:∀{α:List aj} {M:Ms} {a:aj},a∈lv α M↔∃(k:Nat) (o:OD),α[k]?=aa a/\M[k]?=aa (aa o)
 |[],M,a=>by cases M<;>simp[lv]
 |b::α,[],a=>by simp[lv]
 |b::α,aa x::M,a=>by
  simp only [lv,az,rf];constructor
  ·rintro(rfl|⟨k,o,c,e⟩)
   ·exact⟨0,x,rfl,rfl⟩
   ·exact⟨k+1,o,by simpa using c,by simpa using e⟩
  ·rintro⟨k,o,c,e⟩
   cases k with
   |zero=>left;simpa using c.symm
   |succ k=>right;exact⟨k,o,by simpa using c,by simpa using e⟩
 |b::α,ao::M,a=>by
  simp only [lv,rf];constructor
  ·rintro⟨k,o,c,e⟩
   exact⟨k+1,o,by simpa using c,by simpa using e⟩
  ·rintro⟨k,o,c,e⟩
   cases k with
   |zero=>simp at e
   |succ k=>exact⟨k,o,by simpa using c,by simpa using e⟩
abbrev i0(F α:List aj)(M:Ms)(H:Hp):Hp:=jB (lv α M++F) H
def y7 (K:W.Frag)(α:List aj)(e H:Hp):OD->aj->Prop
 |.lst ds,a=>∃b,H a=aa (.lst b)/\gA K α e ds b
 |.lV c ds,a=>∃b,H a=aa (.dK (c.zip b))/\c.length=ds.length/\gA K α e ds b
 |.ins C ns ds,a=>∃f b,H a=aa (.ins C f (ns.zip b))/\ns.length=ds.length/\gA K α e ds b
 |.fz k g c ds,a=>α[k]?=aa a/\∃b,H a=aa (.dE g (c.zip b))/\c.length=ds.length/\gA K α e ds b
structure OK(K:W.Frag)(F α:List aj)(H:Hp)(M:Ms):Prop where
 ml:α.length=M.length
 nd:α.Nodup
 fr:∀a∈F,a∉α/\wB (H a)≠ao
 al:∀a∈α,wB (H a)≠ao
 own:∀(k:Nat) o,M[k]?=aa (aa o)->∃a,α[k]?=aa a/\y7 K α (i0 F α M H) H o a
 tb:Tb K H
structure Ext(F α:List aj)(H:Hp)(M:Ms)(gZ:List aj)(H':Hp)(M':Ms):Prop where
 pre:α <+: gZ
 same:jA (i0 F α M H) (i0 F gZ M' H')
 fr:∀a∈F,H' a=H a
abbrev kF:=List (Option D)
structure R(K:W.Frag)(F α:List aj)(H:Hp)(σ:L2.St)(δ:kF)(M:Ms):Prop where
 ok:OK K F α H M
 len:σ.length=δ.length
 sl:∀(i:Nat) d,δ[i]?=aa (aa d)->∃v,σ[i]?=aa (aa v)/\Rep K α (i0 F α M H) d v
section
variable {K:W.Frag} {F α gZ OS:List aj} {H H' YO:Hp} {M M' Bz:Ms} {σ:L2.St} {δ:kF}
theorem Ext.refl:Ext F α H M α H M:=⟨aX _,jA.refl _,λ_ _=>rfl⟩
theorem Ext.trans(e:Ext F α H M gZ H' M')(e':Ext F gZ H' M' OS YO Bz):Ext F α H M OS YO Bz:=
 ⟨e.pre.trans e'.pre,e.same.trans e'.same,λa h=>(e'.fr a h).trans (e.fr a h)⟩
theorem Ext.rep(e:Ext F α H M gZ H' M'){d:D}{v:V}(h:Rep K α (i0 F α M H) d v):Rep K gZ (i0 F gZ M' H') d v:=Rep.mono e.pre e.same d v h
theorem Ext.zU(e:Ext F α H M gZ H' M'){d:List D}{v:List V}(h:gA K α (i0 F α M H) d v):gA K gZ (i0 F gZ M' H') d v:=gA.mono e.pre e.same d v h
theorem R.grow(r:R K F α H σ δ M)(e:Ext F α H M gZ H' M')(o:OK K F gZ H' M'):R K F gZ H' σ δ M':=
 ⟨o,r.len,λi d q=>by obtain⟨v,a,b⟩:=r.sl i d q;exact⟨v,a,e.rep b⟩⟩
theorem OK.live(o:OK K F α H M):∀a∈lv α M,H a≠ao:=λa ha=>by
 obtain⟨k,x,f,g⟩:=rf.mp ha;obtain⟨b,e,r⟩:=o.own k x g;rw[f] at e;cases e;cases x with
 |lst ds=>obtain⟨c,e,_⟩:=r;rw[e];exactλz=>by cases z
 |lV h ds=>obtain⟨c,e,_⟩:=r;rw[e];exactλz=>by cases z
 |ins C ns ds=>obtain⟨i,c,e,_⟩:=r;rw[e];exactλz=>by cases z
 |fz k j h ds=>obtain⟨_,c,e,_⟩:=r;rw[e];exactλz=>by cases z
theorem OK.new(o:OK K F α H M){p:aj}(h:H p=ao):p∉lv α M++F:=λz=>by
 rcases bp.mp z with z|z
 ·exact o.live p z h
 ·exact(o.fr p z).2 (by rw[h])
theorem y7.wB{c:Hp}{x:OD}{a:aj}(r:y7 K α c H x a):wB (H a)≠ao:=by
 cases x with
 |lst ds=>obtain⟨b,e,_⟩:=r;rw[e];exactλz=>by cases z
 |lV f ds=>obtain⟨b,e,_⟩:=r;rw[e];exactλz=>by cases z
 |ins C ns ds=>obtain⟨g,b,e,_⟩:=r;rw[e];exactλz=>by cases z
 |fz k h f ds=>obtain⟨_,b,e,_⟩:=r;rw[e];exactλz=>by cases z
theorem y7.some{c:Hp}{x:OD}{a:aj}(r:y7 K α c H x a):H a≠ao:=by
 cases x with
 |lst ds=>obtain⟨b,e,_⟩:=r;rw[e];exactλz=>by cases z
 |lV f ds=>obtain⟨b,e,_⟩:=r;rw[e];exactλz=>by cases z
 |ins C ns ds=>obtain⟨g,b,e,_⟩:=r;rw[e];exactλz=>by cases z
 |fz k h f ds=>obtain⟨_,b,e,_⟩:=r;rw[e];exactλz=>by cases z
theorem OK.OT(o:OK K F α H M):∀a∈lv α M,wB (H a)≠ao:=λa ha=>by obtain⟨k,x,c,f⟩:=rf.mp ha;obtain⟨b,e,r⟩:=o.own k x f;rw[c] at e;cases e;exact r.wB
theorem y7.mono{f c:Hp}(p:α <+: gZ)(e:jA f c){o:OD}{a:aj}(ha:H' a=H a)(h:y7 K α f H o a):y7 K gZ c H' o a:=by
 cases o with
 |lst ds=>obtain⟨b,q,r⟩:=h;exact⟨b,by rw[ha];exact q,gA.mono p e _ _ r⟩
 |lV i ds=>obtain⟨b,q,l,r⟩:=h;exact⟨b,by rw[ha];exact q,l,gA.mono p e _ _ r⟩
 |ins C ns ds=>obtain⟨j,b,q,l,r⟩:=h;exact⟨j,b,by rw[ha];exact q,l,gA.mono p e _ _ r⟩
 |fz k m i ds=>
  obtain⟨g,b,q,l,r⟩:=h;exact⟨by obtain⟨β,rfl⟩:=p;rw[bI (aB.mp g).1];exact g,b,by rw[ha];exact q,l,gA.mono p e _ _ r⟩
theorem OK.grow(o:OK K F α H M)(s:jA H H'):OK K F α H' M/\Ext F α H M α H' M:=by
 have qT:∀a,H a≠ao->H' a=H a:=λa h=>by
  cases e:H a with
  |none=>exact absurd e h
  |some x=>exact s a x e
 refine⟨⟨o.ml,o.nd,λa ha=>⟨(o.fr a ha).1,by rw[qT a (zT (o.fr a ha).2)];exact(o.fr a ha).2⟩,λa ha=>by rw[qT a (zT (o.al a ha))];exact o.al a ha,λk x h=>?_,o.tb.same s⟩,⟨aX _,(Cp s),λa ha=>qT a (zT (o.fr a ha).2)⟩⟩;obtain⟨a,e,r⟩:=o.own k x h;exact⟨a,e,r.mono (aX _) (Cp s) (qT a (o.live a (rf.mpr ⟨k,x,e,h⟩)))⟩
theorem OK.laid(o:OK K F α H M){p:aj}{x:HO}(h:H p=ao):OK K F α (upd H p x) M/\Ext F α H M α (upd H p x) M:=o.grow (zS h)
theorem ut:∀{α β:List aj} {M N:Ms},α.length=M.length->lv (α++β) (M++N)=lv α M++lv β N
 |[],β,[],N,_=>by simp[lv]
 |a::α,β,aa x::M,N,h=>by have:=ut (β:=β) (N:=N) (show α.length=M.length by simpa using h);simp[lv,this]
 |a::α,β,ao::M,N,h=>by have:=ut (β:=β) (N:=N) (show α.length=M.length by simpa using h);simp[lv,this]
theorem OK.zV(o:OK K F α H M){p:aj}{x:OD}(h:H p=ao)(s:jA H H'):jA (i0 F α M H) (i0 F (α++[p]) (M++[aa x]) H'):=λb y q=>by
 have a:lv (α++[p]) (M++[aa x])=lv α M++[p]:=by rw[ut o.ml];rfl
 have c:=q;obtain⟨z,q⟩:=iL q;have e:b≠p:=λz=>by rw[z,h] at q;cases q
 show jB _ H' b=_;rw[a];refine kT c (λw=>?_) (s b y q)
 ·simp only [bp,bP] at w z;rcases w with(w|w)|w
  ·exact z (.inl w)
  ·exact e w
  ·exact z (.inr w)
theorem OK.enter(o:OK K F α H M){p:aj}{x:OD}(h:H p=ao)(s:jA H H')(r:y7 K (α++[p]) (i0 F (α++[p]) (M++[aa x]) H') H' x p):
  OK K F (α++[p]) H' (M++[aa x])/\Ext F α H M (α++[p]) H' (M++[aa x]):=by
 have l:p∉α:=λz=>o.al p z (by rw[h]);obtain⟨f,e'⟩:=o.grow s;have g:=o.zV (x:=x) h s;have m:p∉F:=λz=>(o.fr p z).2 (by rw[h]);refine⟨⟨by simp[o.ml],by rw[fM];exact⟨o.nd,by simp,λa ha b i=>by simp at i;subst i;exactλz=>l (z▸ha)⟩,λa ha=>⟨λz=>?_,(f.fr a ha).2⟩,λa ha=>?_,λk y c=>?_,f.tb⟩,⟨cz _ _,g,e'.fr⟩⟩
 ·rcases bp.mp z with z|z
  ·exact(o.fr a ha).1 z
  ·simp at z;subst z;exact m ha
 ·rcases bp.mp ha with z|z
  ·exact f.al a z
  ·simp at z;subst z;exact r.wB
 ·by_cases j:k<M.length
  ·rw[bI j] at c;obtain⟨a,ea,n⟩:=o.own k y c;refine⟨a,by rw[bI (by rw[o.ml];exact j)];exact ea,n.mono (cz _ _) g ?_⟩;cases e:H a with
   |none=>exact absurd e (o.live a (rf.mpr ⟨k,y,ea,c⟩))
   |some z=>exact s a z e
  ·have:k=M.length:=by have:=(aB.mp c).1;simp at this;omega
   subst this;simp at c;subst c;exact⟨p,by rw[<-o.ml];simp,r⟩
theorem Iq:∀{α:List aj} {M:Ms} {k:Nat} {x y:OD},M[k]?=aa (aa x)->lv α (M.set k (aa y))=lv α M
 |[],M,k,x,y,h=>by cases M<;>cases k<;>simp[lv]
 |a::α,[],k,x,y,h=>by simp at h
 |a::α,aa z::M,0,x,y,h=>by simp[lv]
 |a::α,ao::M,0,x,y,h=>by simp at h
 |a::α,aa z::M,k+1,x,y,h=>by simp only [aP,lv];rw[Iq (by simpa using h)]
 |a::α,ao::M,k+1,x,y,h=>by simp only [aP,lv];exact Iq (by simpa using h)
theorem OK.write(o:OK K F α H M){k:Nat}{x y:OD}{a:aj}{z:HO}(h:M[k]?=aa (aa x))(ha:α[k]?=aa a)(r:∀n,n=i0 F α M H->y7 K α n (upd H a z) y a):
  OK K F α (upd H a z) (M.set k (aa y))/\Ext F α H M α (upd H a z) (M.set k (aa y)):=by
 have B:lv α (M.set k (aa y))=lv α M:=Iq h;have hm:a∈lv α M:=rf.mpr ⟨k,x,ha,h⟩;have i:i0 F α (M.set k (aa y)) (upd H a z)=i0 F α M H:=by
  funext b;show jB _ _ b=jB _ _ b;rw[B];by_cases c:b∈lv α M++F
  ·rw[nQ c,nQ c]
  ·rw[kg c,kg c,gF (λe=>c (by rw[e];exact b8 _ hm))]
 have p:a∉F:=λw=>(o.fr a w).1 (bw ha);refine⟨⟨by simp[o.ml],o.nd,λb c=>⟨(o.fr b c).1,by rw[gF (λe=>p (by rw[<-e];exact c))];exact(o.fr b c).2⟩,λb c=>(by
  by_cases e:b=a
  ·subst e;exact(r _ rfl).wB
  ·rw[gF e];exact o.al b c),λj w g=>?_,o.tb.upd (.inl (o.al a (bw ha)))⟩,⟨aX _,by rw[i];exact jA.refl _,λb c=>gF (λe=>p (by rw[<-e];exact c))⟩⟩
 have l:k<M.length:=(aB.mp h).1;by_cases f:j=k
 ·subst f;rw[dq l] at g;cases g;exact⟨a,ha,r _ i⟩
 ·rw[c6 (bU f)] at g;obtain⟨b,q,C⟩:=o.own j w g;have m:b≠a:=λe=>f (by subst e;have s:=aB.mp ha;have u:=aB.mp q;exact(List.getElem_inj (h₀:=u.1) (h₁:=s.1) o.nd).mp (u.2.trans s.2.symm))
  refine⟨b,q,?_⟩;rw[i];exact C.mono (aX _) (jA.refl _) (gF m)
theorem R.set(r:R K F α H σ δ M){i:Nat}{d:D}{v:V}(q:Rep K α (i0 F α M H) d v):R K F α H (σ.set i (aa v)) (δ.set i (aa d)) M:=by
 have c:=r.len;refine⟨r.ok,by simp[c],λj e h=>?_⟩;by_cases b:j=i
 ·subst b;have a:j<δ.length:=by
   rcases Nat.lt_or_ge j δ.length with x|x
   ·exact x
   ·rw[List.getElem?_eq_none (by simpa using x)] at h;cases h
  rw[dq a] at h;cases h;exact⟨v,dq (by omega),q⟩
 ·rw[c6 (bU b)] at h ⊢;exact r.sl j e h
end
end L3
namespace L3
open PySem PySem.Spec PyProof.Rows L2
theorem PE.weak{X:Cx}{e:bh}{t a:TE}(h:PE X e t)(w:∀σ H Q,a σ H Q->t σ H Q):PE X e a:=λpins s σ H Q I q=>h pins s σ H Q I (w σ H Q q)
theorem PT.weak{X:Cx}{e:bh}{t a:TT}(h:PT X e t)(w:∀σ H Q,a σ H Q->t σ H Q):PT X e a:=λpins s σ H Q I q=>h pins s σ H Q I (w σ H Q q)
theorem PW.weak{X:Cx}{e:bh}{t a:TT}(h:PW X e t)(w:∀σ H Q,a σ H Q->t σ H Q):PW X e a:=λb pins s σ H Q I q=>h b pins s σ H Q I (w σ H Q q)
theorem PA.weak{X:Cx}{e:List bh}{t a:TA}(h:PA X e t)(w:∀σ H Q,a σ H Q->t σ H Q):PA X e a:=λpos pins s σ H Q I q=>h pos pins s σ H Q I (w σ H Q q)
theorem PS.weak{X:Cx}{e:bH}{t a:TS}(h:PS X e t)(w:∀D σ H,a D σ H->t D σ H):PS X e a:=λpins s σ H D I q=>h pins s σ H D I (w D σ H q)
theorem wA.weak{X:Cx}{e:List bH}{t a:TS}(h:wA X e t)(w:∀D σ H,a D σ H->t D σ H):wA X e a:=λpins s σ H D I q=>h pins s σ H D I (w D σ H q)
abbrev DK:=D->Ms->Prop
abbrev DE:=kF->Ms->DK->Prop
abbrev DT:=kF->Ms->(Bool->Ms->Prop)->Prop
abbrev DA:=kF->Ms->(List D->Ms->Prop)->Prop
abbrev vK(K:W.Frag)(F α:List aj)(H:Hp)(M:Ms)(Q:VK):DK:=λd c=>∀v a b,Ext F α H M a b c->OK K F a b c->Rep K a (i0 F a c b) d v->Q v b
abbrev bK(K:W.Frag)(F α:List aj)(H:Hp)(M:Ms)(Q:Bool->Hp->Prop):Bool->Ms->Prop:=λb c=>∀e a,Ext F α H M e a c->OK K F e a c->Q b a
abbrev aK(K:W.Frag)(F α:List aj)(H:Hp)(M:Ms)(Q:List V->Hp->Prop):List D->Ms->Prop:=λds c=>∀e a b,Ext F α H M a b c->OK K F a b c->gA K a (i0 F a c b) ds e->Q e b
noncomputable def lE(K:W.Frag)(t:DE):TE:=λσ H Q=>∃F α a M,R K F α H σ a M/\t a M (vK K F α H M Q)
noncomputable def lT(K:W.Frag)(t:DT):TT:=λσ H Q=>∃F α a M,R K F α H σ a M/\t a M (bK K F α H M Q)
noncomputable def lA(K:W.Frag)(t:DA):TA:=λσ H Q=>∃F α a M,R K F α H σ a M/\t a M (aK K F α H M Q)
structure JE(X:Cx)(e:bh)(t:DE):Prop where
 mono:∀δ M (P Q:DK),(∀d M,P d M->Q d M)->t δ M P->t δ M Q
 p:PE X e (lE X.K t)
structure JT(X:Cx)(e:bh)(t:DT):Prop where
 mono:∀δ M (P Q:Bool->Ms->Prop),(∀d M,P d M->Q d M)->t δ M P->t δ M Q
 p:PT X e (lT X.K t)
structure JW(X:Cx)(e:bh)(t:DT):Prop where
 mono:∀δ M (P Q:Bool->Ms->Prop),(∀d M,P d M->Q d M)->t δ M P->t δ M Q
 p:PW X e (lT X.K t)
structure JA(X:Cx)(es:List bh)(t:DA):Prop where
 mono:∀δ M (P Q:List D->Ms->Prop),(∀d M,P d M->Q d M)->t δ M P->t δ M Q
 p:PA X es (lA X.K t)
section
variable {K:W.Frag} {F α gZ:List aj} {H H':Hp} {M M':Ms}
theorem vK.grow{Q:VK}(e:Ext F α H M gZ H' M'):∀d a,vK K F α H M Q d a->vK K F gZ H' M' Q d a:=λd a h v b c e2 o2 r2=>h v b c (e.trans e2) o2 r2
theorem bK.grow{Q:Bool->Hp->Prop}(e:Ext F α H M gZ H' M'):∀d a,bK K F α H M Q d a->bK K F gZ H' M' Q d a:=λd a h b c e2 o2=>h b c (e.trans e2) o2
theorem vK.now{Q:VK}{d:D}{v:V}(o:OK K F α H M)(h:vK K F α H M Q d M)(r:Rep K α (i0 F α M H) d v):Q v H:=h v α H Ext.refl o r
theorem vK.new{Q:VK}{d:D}{v:V}{p:aj}{x:HO}(o:OK K F α H M)(a:H p=ao)(h:vK K F α H M Q d M)(r:Ext F α H M α (upd H p x) M->Rep K α (i0 F α M (upd H p x)) d v):Q v (upd H p x):=
 let⟨b,e'⟩:=o.laid (x:=x) a;h v α _ e' b (r e')
end
abbrev G2:=D->D->Ms->DK->Prop
abbrev GN:=List D->Ms->DK->Prop
noncomputable def rD(K:W.Frag)(g:G2):R2:=λx y H Q=>∃F α M a b,OK K F α H M/\Rep K α (i0 F α M H) a x/\Rep K α (i0 F α M H) b y/\g a b M (vK K F α H M Q)
def rDs (K:W.Frag)(g:GN):List V->Hp->VK->Prop:=λxs H Q=>∃F α M ds,OK K F α H M/\gA K α (i0 F α M H) ds xs/\g ds M (vK K F α H M Q)
abbrev yJ(g:G2):Prop:=∀x y M (P Q:DK),(∀d M,P d M->Q d M)->g x y M P->g x y M Q
abbrev sV(g:GN):Prop:=∀xs M (P Q:DK),(∀d M,P d M->Q d M)->g xs M P->g xs M Q
structure JO(X:Cx)(op:adJ)(g:G2):Prop where
 mono:yJ g
 p:sH X (binaryOp op) (rD X.K g)
structure JC(X:Cx)(op:adw)(g:G2):Prop where
 mono:yJ g
 p:sH X (compareOp op) (rD X.K g)
structure JX(X:Cx)(g:G2):Prop where
 mono:yJ g
 p:WE X (rD X.K g)
structure JB(X:Cx)(f:af)(g:GN):Prop where
 mono:sV g
 p:nJ X f (rDs X.K g)
abbrev GS:=D->Option Int->Option Int->Ms->DK->Prop
def ach (K:W.Frag)(g:GS):V->Option Int->Option Int->Hp->VK->Prop:=λx lo hi H Q=>∃F α M d,OK K F α H M/\Rep K α (i0 F α M H) d x/\g d lo hi M (vK K F α H M Q)
structure JSl(X:Cx)(g:GS):Prop where
 mono:∀x lo hi M (P Q:DK),(∀d M,P d M->Q d M)->g x lo hi M P->g x lo hi M Q
 p:RY X (ach X.K g)
section
variable {X:Cx} {a b c e:bh} {es rest:List bh} {ta tb tc te:DE} {tA N8:DT} {tt:DA} {pos p p2 p3:c7} {x:ay}
noncomputable def gv(i:Nat):DE:=λf M Q=>match f[i]? with|some (aa d)=>Q d M|_=>False
theorem gG(i:Nat)(f:X.N[i]?=aa x:=by rfl)(g:U9 X.env.scope x:=by first|exact eB rfl|exact dk (eB rfl)|exact dk (dk rfl))(hd:(x==("__debug__":ay))=am:=by decide)
(j:(x==("__classdict__":ay))=am:=by decide):JE X (.Name x pos) (gv i):=by
 refine⟨λl M P Q h q=>?_,PE.weak (zH f g hd j) λσ H Q h=>?_⟩
 ·unfold gv at*;split at q
  ·exact h _ _ q
  ·exact q
 ·obtain⟨F,α,l,M,r,h⟩:=h;unfold gv at h;split at h
  ·rename_i d hd;obtain⟨v,e,q⟩:=r.sl i d hd;exact⟨v,e,vK.now r.ok h q⟩
  ·exact h.elim
noncomputable def dC(d:D):DE:=λ_ M Q=>Q d M
theorem YR{d:D}{v:V}(h:PE X e (tC v))(r:∀α H,Rep X.K α H d v):JE X e (dC d):=
 ⟨λf M P Q h q=>h _ _ q,PE.weak h λσ H Q ⟨F,α,f,M,g,h⟩=>vK.now g.ok h (r _ _)⟩
theorem gC{i j}:JE X (.Constant (.int i) j pos) (dC (.int i)):=YR V7 λ_ _=>i6
theorem j5{b j}:JE X (.Constant (.bool b) j pos) (dC (.bl b)):=YR Ze λ_ _=>ja
theorem sB{j}:JE X (.Constant .none j pos) (dC .non):=YR V8 λ_ _=>wQ
theorem gL{y j}:JE X (.Constant (.str y) j pos) (dC (.str y)):=YR N7 λ_ _=>pL
theorem OU{d:D}{v:V}{u:af}(hm:X.mg x=aa u)(r:RelV v u)(f:∀α H,Rep X.K α H d v)(g:Gl X x:=by rfl)(hd:(x==("__debug__":ay))=am:=by decide):JE X (.Name x pos) (dC d):=YR (Kw g hm r hd) f
theorem nS{i:Int}(hm:∃t,X.mg x=aa (.int i t))(f:Gl X x:=by rfl)(hd:(x==("__debug__":ay))=am:=by decide):JE X (.Name x pos) (dC (.int i)):=by obtain⟨t,hm⟩:=hm;exact OU (v:=.int i) hm ⟨t,rfl⟩ (λ_ _=>i6) f hd
theorem nU{C:aj}(hm:X.mg x=aa (.ref C))(f:Gl X x:=by rfl)(hd:(x==("__debug__":ay))=am:=by decide):JE X (.Name x pos) (dC (.cls C)):=OU (v:=.ref C) hm rfl (λ_ _=>S0) f hd
theorem qF{n:String}(hm:X.mg x=ao)(f:bR x=aa (.type n))(g:Gl X x:=by rfl)(hn:x≠"__name__":=by decide)(hd:(x==("__debug__":ay))=am:=by decide):JE X (.Name x pos) (dC (.ty n)):=
 YR (Sg (v:=.ty n) g hm f rfl hn hd) λ_ _=>WY
noncomputable def gR(g:G2)(ta tb:DE):DE:=λf M Q=>ta f M λx M1=>tb f M1 λy M2=>g x y M2 Q
theorem zW{g:G2}(mg:yJ g)(ha:JE X a ta)(i:JE X b tb):∀f M (P Q:DK),(∀d M,P d M->Q d M)->gR g ta tb f M P->gR g ta tb f M Q:=
 λf M P Q h q=>ha.mono f _ _ _ (λd M1 q=>i.mono f _ _ _ (λj M2 q=>mg d j M2 P Q h q) q) q
theorem KY{g:G2}(mg:yJ g)(ha:JE X a ta)(i:JE X b tb){σ:L2.St}{H:Hp}{Q:VK}(h:lE X.K (gR g ta tb) σ H Q):Zn (rD X.K g) (lE X.K ta) (lE X.K tb) σ H Q:=by
 obtain⟨F,α,f,M,r,h⟩:=h;exact⟨F,α,f,M,r,ha.mono f _ _ _ (λj M1 l v m H1 e1 o1 r1=>⟨F,m,f,M1,r.grow e1 o1,i.mono f _ _ _ (λn M2 o u q s e2 o2 r2=>
  ⟨F,q,M2,j,n,o2,e2.rep r1,r2,mg _ _ _ _ _ (vK.grow (e1.trans e2)) o⟩) l⟩) h⟩
theorem ig{op:adJ}{g:G2}(o:JO X op g)(ha:JE X a ta)(f:JE X b tb):JE X (.BinOp a op b pos) (gR g ta tb):=⟨zW o.mono ha f,PE.weak (Zo o.p ha.p f.p) λσ H Q h=>KY o.mono ha f h⟩
theorem oM{op:adw}{g:G2}(o:JC X op g)(ha:JE X a ta)(f:JE X b tb)(hm:adx op b=am:=by rfl):JE X (.Compare a [op] [b] pos) (gR g ta tb):=⟨zW o.mono ha f,PE.weak (Sn o.p ha.p f.p hm) λσ H Q h=>KY o.mono ha f h⟩
theorem jh{g:G2}(o:JX X g)(ha:JE X a ta)(f:JE X b tb)(i:KL b:=by exactλ_ _=>rfl):JE X (.Subscript a b pos) (gR g ta tb):=⟨zW o.mono ha f,PE.weak (ZK o.p ha.p f.p i) λσ H Q h=>KY o.mono ha f h⟩
noncomputable def gK(te:DE):DT:=λf M Q=>te f M λd M1=>match d with|.bl b=>Q b M1|_=>False
theorem vD(h:JE X e te):∀f M (P Q:Bool->Ms->Prop),(∀d M,P d M->Q d M)->gK te f M P->gK te f M Q:=λf M P Q w q=>h.mono f _ _ _ (λd M1 q=>by cases d<;>first|exact w _ _ q|exact q) q
theorem iR(h:JE X e te)(i:∀f,aeb e X.env f=(do let v<-f;adG e.pos;holding [v] (truthy v)):=by intro _;rfl):JT X e (gK te):=by
 refine⟨vD h,PT.weak (V9 h.p i) λσ H Q q=>?_⟩;obtain⟨F,α,g,M,r,q⟩:=q;refine⟨F,α,g,M,r,h.mono g _ _ _ (λd M1 q v j H1 e1 o1 r1=>?_) q⟩;cases d<;>first|exact q.elim|skip
 unfold Rep at r1;exact⟨_,r1,q j H1 e1 o1⟩
theorem g9{op:adw}{g:G2}(o:JC X op g)(ha:JE X a ta)(f:JE X b tb)(hm:adx op b=am:=by rfl):JT X (.Compare a [op] [b] pos) (gK (gR g ta tb)):=by
 have h:JE X (.Compare a [op] [b] pos) (gR g ta tb):=oM o ha f hm;refine⟨vD h,PT.weak (So o.p ha.p f.p hm) λσ H Q q=>?_⟩;obtain⟨F,α,i,M,r,q⟩:=q;refine KY o.mono ha f ⟨F,α,i,M,r,h.mono i _ _ _ (λd M1 q v j H1 e1 o1 r1=>?_) q⟩;cases d<;>first|exact q.elim|skip
 unfold Rep at r1;exact⟨_,r1,q j H1 e1 o1⟩
noncomputable def k9(t:DT):DT:=λf M Q=>t f M λb M1=>Q (!b) M1
theorem jb(h:JT X a tA):JT X (.UnaryOp .Not a pos) (k9 tA):=
 ⟨λf M P Q w q=>h.mono f _ _ _ (λb M1 q=>w _ _ q) q,PT.weak (Wa h.p) λσ H Q ⟨F,α,f,M,r,q⟩=>⟨F,α,f,M,r,q⟩⟩
theorem pN(h:JW X e tA):JT X e tA:=⟨h.mono,h.p.pt⟩
noncomputable def wR(t u:DT):DT:=λf M Q=>t f M λb M1=>if b=ah then u f M1 Q else Q am M1
noncomputable def Ir(t u:DT):DT:=λf M Q=>t f M λb M1=>if b=ah then Q ah M1 else u f M1 Q
theorem zk(h:JT X a tA):JW X (.BoolOp .And [a] pos) tA:=⟨h.mono,pw_and1 h.p⟩
theorem qd(h:JT X a tA):JW X (.BoolOp .Or [a] pos) tA:=⟨h.mono,pw_or1 h.p⟩
theorem xV(ha:JT X a tA)(g:JW X (.BoolOp .And (b::rest) pos) N8):JW X (.BoolOp .And (a::b::rest) pos) (wR tA N8):=by
 refine⟨λf M P Q w q=>ha.mono f _ _ _ (λb M1 q=>?_) q,PW.weak (pw_and ha.p g.p) λσ H Q q=>?_⟩
 ·cases b with
  |true=>rw[if_pos rfl] at q ⊢;exact g.mono f _ _ _ w q
  |false=>rw[if_neg au] at q ⊢;exact w _ _ q
 ·obtain⟨F,α,f,M,r,q⟩:=q;refine⟨F,α,f,M,r,ha.mono f _ _ _ (λb M1 q h H1 e1 o1=>?_) q⟩;cases b with
  |true=>
   rw[if_pos rfl] at q;show(if ah=ah then _ else _);rw[if_pos rfl];exact⟨F,h,f,M1,r.grow e1 o1,g.mono f _ _ _ (bK.grow e1) q⟩
  |false=>
   rw[if_neg au] at q;show(if am=ah then _ else _);rw[if_neg au];exact q h H1 e1 o1
theorem qG(ha:JT X a tA)(g:JW X (.BoolOp .Or (b::rest) pos) N8):JW X (.BoolOp .Or (a::b::rest) pos) (Ir tA N8):=by
 refine⟨λf M P Q w q=>ha.mono f _ _ _ (λb M1 q=>?_) q,PW.weak (pw_or ha.p g.p) λσ H Q q=>?_⟩
 ·cases b with
  |true=>rw[if_pos rfl] at q ⊢;exact w _ _ q
  |false=>rw[if_neg au] at q ⊢;exact g.mono f _ _ _ w q
 ·obtain⟨F,α,f,M,r,q⟩:=q;refine⟨F,α,f,M,r,ha.mono f _ _ _ (λb M1 q h H1 e1 o1=>?_) q⟩;cases b with
  |false=>
   rw[if_neg au] at q;show(if am=ah then _ else _);rw[if_neg au];exact⟨F,h,f,M1,r.grow e1 o1,g.mono f _ _ _ (bK.grow e1) q⟩
  |true=>
   rw[if_pos rfl] at q;show(if ah=ah then _ else _);rw[if_pos rfl];exact q h H1 e1 o1
noncomputable def ni(ta tb:DE):DE:=λf M Q=>ta f M λx M1=>match x with|.bl ah=>tb f M1 Q|.bl am=>Q (.bl am) M1|_=>False
noncomputable def Z2(ta tb:DE):DE:=λf M Q=>ta f M λx M1=>match x with|.bl ah=>Q (.bl ah) M1|.bl am=>tb f M1 Q|_=>False
noncomputable def KZ(ta:DE):DE:=λf M Q=>ta f M λx M1=>match x with|.bl b=>Q (.bl (!b)) M1|_=>False
theorem u3{op}(h:JE X a te):JE X (.BoolOp op [a] pos) te:=⟨h.mono,Wb h.p⟩
theorem qH(ha:JE X a ta)(g:JE X (.BoolOp .And (b::rest) pos) tb):JE X (.BoolOp .And (a::b::rest) pos) (ni ta tb):=by
 refine⟨λf M P Q w q=>ha.mono f _ _ _ (λd M1 q=>?_) q,PE.weak (Wc ha.p g.p) λσ H Q q=>?_⟩
 ·cases d<;>first|exact q.elim|skip
  rename_i b;cases b with
  |true=>exact g.mono f _ _ _ w q
  |false=>exact w _ _ q
 ·obtain⟨F,α,f,M,r,q⟩:=q;refine⟨F,α,f,M,r,ha.mono f _ _ _ (λd M1 q v h H1 e1 o1 r1=>?_) q⟩;cases d<;>first|exact q.elim|skip
  unfold Rep at r1;rename_i b;cases b with
  |true=>
   refine⟨ah,r1,?_⟩;rw[if_pos rfl];exact⟨F,h,f,M1,r.grow e1 o1,g.mono f _ _ _ (vK.grow e1) q⟩
  |false=>
   refine⟨am,r1,?_⟩;rw[if_neg au];exact q _ h H1 e1 o1 ja
theorem aci(ha:JE X a ta)(g:JE X (.BoolOp .Or (b::rest) pos) tb):JE X (.BoolOp .Or (a::b::rest) pos) (Z2 ta tb):=by
 refine⟨λf M P Q w q=>ha.mono f _ _ _ (λd M1 q=>?_) q,PE.weak (Zh ha.p g.p) λσ H Q q=>?_⟩
 ·cases d<;>first|exact q.elim|skip
  rename_i b;cases b with
  |false=>exact g.mono f _ _ _ w q
  |true=>exact w _ _ q
 ·obtain⟨F,α,f,M,r,q⟩:=q;refine⟨F,α,f,M,r,ha.mono f _ _ _ (λd M1 q v h H1 e1 o1 r1=>?_) q⟩;cases d<;>first|exact q.elim|skip
  unfold Rep at r1;rename_i b;cases b with
  |false=>
   refine⟨am,r1,?_⟩;rw[if_neg au];exact⟨F,h,f,M1,r.grow e1 o1,g.mono f _ _ _ (vK.grow e1) q⟩
  |true=>
   refine⟨ah,r1,?_⟩;rw[if_pos rfl];exact q _ h H1 e1 o1 ja
theorem Vt(ha:JE X a ta):JE X (.UnaryOp .Not a pos) (KZ ta):=by
 refine⟨λf M P Q w q=>ha.mono f _ _ _ (λd M1 q=>?_) q,PE.weak (Wd ha.p) λσ H Q q=>?_⟩
 ·cases d<;>first|exact q.elim|exact w _ _ q
 ·obtain⟨F,α,f,M,r,q⟩:=q;refine⟨F,α,f,M,r,ha.mono f _ _ _ (λd M1 q v g H1 e1 o1 r1=>?_) q⟩;cases d<;>first|exact q.elim|skip
  unfold Rep at r1;exact⟨_,r1,q _ g H1 e1 o1 ja⟩
noncomputable def dIf(t:DT)(ta tb:DE):DE:=λf M Q=>t f M λc M1=>if c=ah then ta f M1 Q else tb f M1 Q
theorem Z3(g:JT X c tA)(ha:JE X a ta)(h:JE X b tb):JE X (.IfExp c a b pos) (dIf tA ta tb):=by
 refine⟨λf M P Q w q=>g.mono f _ _ _ (λb M1 q=>?_) q,PE.weak (N9 g.p ha.p h.p) λσ H Q q=>?_⟩
 ·cases b with
  |true=>rw[if_pos rfl] at q ⊢;exact ha.mono f _ _ _ w q
  |false=>rw[if_neg au] at q ⊢;exact h.mono f _ _ _ w q
 ·obtain⟨F,α,f,M,r,q⟩:=q;refine⟨F,α,f,M,r,g.mono f _ _ _ (λb M1 q i H1 e1 o1=>?_) q⟩;cases b with
  |true=>
   rw[if_pos rfl] at q;show(if ah=ah then _ else _);rw[if_pos rfl];exact⟨F,i,f,M1,r.grow e1 o1,ha.mono f _ _ _ (vK.grow e1) q⟩
  |false=>
   rw[if_neg au] at q;show(if am=ah then _ else _);rw[if_neg au];exact⟨F,i,f,M1,r.grow e1 o1,h.mono f _ _ _ (vK.grow e1) q⟩
noncomputable def kG(g i:G2)(ta tb tc:DE):DE:=λf M Q=>ta f M λx M1=>tb f M1 λy M2=>g x y M2 λz h=>match z with|.bl ah=>tc f h λw j=>i y w j Q|.bl am=>Q (.bl am) h|_=>False
theorem Fp{op i:adw}{g h:G2}(o:JC X op g)(j:JC X i h)(ha:JE X a ta)(l:JE X b tb)(m:JE X c tc):∀f M (P Q:DK),(∀d M,P d M->Q d M)->kG g h ta tb tc f M P->kG g h ta tb tc f M Q:=
 λf M P Q w q=>ha.mono f _ _ _ (λx M1 q=>l.mono f _ _ _ (λy M2 q=>o.mono _ _ _ _ _ (λz n q=>by
  cases z<;>first|exact q.elim|skip
  rename_i k;cases k with
  |true=>exact m.mono f _ _ _ (λu r q=>j.mono _ _ _ _ _ w q) q
  |false=>exact w _ _ q) q) q) q
theorem Cr{op q:adw}{g i:G2}(o:JC X op g)(s:JC X q i)(ha:JE X a ta)(y:JE X b tb)(A:JE X c tc){σ:L2.St}{H:Hp}{Q:VK}(h:lE X.K (kG g i ta tb tc) σ H Q):HV (rD X.K g) (rD X.K i) (lE X.K ta) (lE X.K tb) (lE X.K tc) σ H Q:=by
 obtain⟨F,α,f,M,r,h⟩:=h;refine⟨F,α,f,M,r,ha.mono f _ _ _ (λB M1 C v E H1 e1 o1 r1=>⟨F,E,f,M1,r.grow e1 o1,y.mono f _ _ _ (λl M2 G u I H2 e2 o2 r2=>?_) C⟩) h⟩;refine⟨F,I,M2,B,l,o2,e2.rep r1,r2,o.mono _ _ _ _ _ (λd J j w m L e3 o3 n=>?_) G⟩;have uu:=(e1.trans e2).trans e3;cases d<;>first|exact j.elim|skip
 unfold Rep at n;rename_i k;refine⟨k,n,?_⟩;cases k with
 |false=>rw[if_neg au];exact j _ m L uu o3 ja
 |true=>
  rw[if_pos rfl];refine⟨F,m,f,J,r.grow uu o3,A.mono f _ _ _ (λN O T z U H4 e4 o4 Y=>?_) j⟩;exact⟨F,U,O,l,N,o4,(e3.trans e4).rep r2,Y,s.mono _ _ _ _ _ (vK.grow (uu.trans e4)) T⟩
theorem uv{op f:adw}{g m:G2}(o:JC X op g)(i:JC X f m)(ha:JE X a ta)(j:JE X b tb)(l:JE X c tc)(hm:ad6 [op,f] [b,c]=am:=by with_unfolding_all rfl):JE X (.Compare a [op,f] [b,c] pos) (kG g m ta tb tc):=
 ⟨Fp o i ha j l,PE.weak (Oj o.p i.p ha.p j.p l.p hm) λσ H Q h=>Cr o i ha j l h⟩
theorem sW{op f:adw}{g h:G2}(o:JC X op g)(i:JC X f h)(ha:JE X a ta)(j:JE X b tb)(l:JE X c tc)(hm:ad6 [op,f] [b,c]=am:=by with_unfolding_all rfl):JT X (.Compare a [op,f] [b,c] pos) (gK (kG g h ta tb tc)):=by
 have m:JE X (.Compare a [op,f] [b,c] pos) (kG g h ta tb tc):=uv o i ha j l hm;refine⟨vD m,PT.weak (Ol o.p i.p ha.p j.p l.p hm) λσ H Q q=>?_⟩;obtain⟨F,α,n,M,r,q⟩:=q;refine Cr o i ha j l ⟨F,α,n,M,r,m.mono n _ _ _ (λd M1 q v s H1 e1 o1 r1=>?_) q⟩;cases d<;>first|exact q.elim|skip
 unfold Rep at r1;exact⟨_,r1,q s H1 e1 o1⟩
noncomputable def gB:DA:=λ_ M Q=>Q [] M
noncomputable def gu(te:DE)(tt:DA):DA:=λf M Q=>te f M λx M1=>tt f M1 λxs M2=>Q (x::xs) M2
theorem gw:JA X [] gB:=⟨λf M P Q w q=>w _ _ q,PA.weak Db λσ H Q ⟨F,α,f,M,r,q⟩=>q [] α H Ext.refl r.ok gA.nil⟩
theorem gr(ha:JE X e te)(g:JA X es tt)(h:aM (e::es) X.env=(am,eval e X.env)::aM es X.env:=by rfl):JA X (e::es) (gu te tt):=by refine⟨λf M P Q w q=>ha.mono f _ _ _ (λx M1 q=>g.mono f _ _ _ (λxs M2 q=>w _ _ q) q) q,PA.weak (uq ha.p g.p h) λσ H Q q=>?_⟩;obtain⟨F,α,f,M,r,q⟩:=q;refine⟨F,α,f,M,r,ha.mono f _ _ _ (λd M1 q v i H1 e1 o1 r1=>⟨F,i,f,M1,r.grow e1 o1,g.mono f _ _ _ (λds M2 q j l m e2 o2 r2=>?_) q⟩) q⟩;exact q (v::j) l m (e1.trans e2) o2 (gA.cons (e2.rep r1) r2)
theorem nj{K:W.Frag}{F α:List aj}{H:Hp}{M:Ms}{p:aj}{ds:List D}{f:List V}(o:OK K F α H M)(g:H p=ao)(h:gA K α (i0 F α M H) ds f)(e:Ext F α H M α (upd H p (.lst f)) M):Rep K α (i0 F α M (upd H p (.lst f))) (.lst ds) (.ref p):=by unfold Rep;exact⟨p,f,rfl,by show jB _ _ p=_;rw[kg (o.new g),gW],e.zU h⟩
theorem kH{K:W.Frag}{F α:List aj}{H:Hp}{M:Ms}{p:aj}{ds:List D}{f:List V}(o:OK K F α H M)(g:H p=ao)(h:gA K α (i0 F α M H) ds f)(e:Ext F α H M α (upd H p (.tup f)) M):Rep K α (i0 F α M (upd H p (.tup f))) (.tup ds) (.ref p):=by unfold Rep;exact⟨p,f,rfl,.inl (.inl (by show jB _ _ p=_;rw[kg (o.new g),gW])),e.zU h⟩
noncomputable def hW(tt:DA):DE:=λf M Q=>tt f M λds M1=>ds.length<=aE/\Q (.tup ds) M1
theorem hG{x1}(h:JA X es tt):JE X (.Tuple es x1 pos) (hW tt):=by refine⟨λf M P Q w q=>h.mono f _ _ _ (λds M1 q=>⟨q.1,w _ _ q.2⟩) q,PE.weak (Oq h.p) λσ H Q q=>?_⟩;obtain⟨F,α,f,M,r,q⟩:=q;refine⟨F,α,f,M,r,h.mono f _ _ _ (λds M1 q i j H1 e1 o1 r1=>?_) q⟩;exact⟨by rw[<-gA.length ds i r1];exact q.1,λp g=>vK.new o1 g (vK.grow e1 _ _ q.2) (kH o1 g r1)⟩
noncomputable def iM(g:GN)(tt:DA):DE:=λf M Q=>tt f M λds M1=>g ds M1 Q
theorem zY{g:GN}(m:sV g)(ha:JA X es tt):∀f M (P Q:DK),(∀d M,P d M->Q d M)->iM g tt f M P->iM g tt f M Q:=λf M P Q w q=>ha.mono f _ _ _ (λds M1 q=>m _ _ _ _ w q) q
theorem OV{f:af}{g:GN}(o:JB X f g)(ha:JA X es tt){σ:L2.St}{H:Hp}{Q:VK}(h:lE X.K (iM g tt) σ H Q):tCB (rDs X.K g) (lA X.K tt) σ H Q:=by obtain⟨F,α,i,M,r,h⟩:=h;exact⟨F,α,i,M,r,ha.mono i _ _ _ (λds M1 q l j H1 e1 o1 r1=>⟨F,j,M1,ds,o1,r1,o.mono _ _ _ _ (vK.grow e1) q⟩) h⟩
theorem lJ{id:String}{g:GN}(o:JB X (.builtin id) g)(hm:X.mg x=ao)(f:bR x=aa (.builtin id))(ha:JA X (e::es) tt)(i:Gl X x:=by rfl)(hn:x≠"__name__":=by decide)(j:(x==("__debug__":ay))=am:=by decide)
(l:aM (e::es) X.env=(am,eval e X.env)::aM es X.env:=by rfl)(m:(cG pos (aM es X.env)).any (·.1)=am:=by rfl):JE X (.Call (.Name x p) (e::es) [] pos) (iM g tt):=
 ⟨zY o.mono ha,PE.weak (Fg o.p i hm f ha.p hn j l m) λσ H Q h=>OV o ha h⟩
theorem Z4{T:String}{g:GN}(o:JB X (.type T) g)(hm:X.mg x=ao)(f:bR x=aa (.type T))(ha:JA X (e::es) tt)(i:Gl X x:=by rfl)(hn:x≠"__name__":=by decide)(j:(x==("__debug__":ay))=am:=by decide)
(l:aM (e::es) X.env=(am,eval e X.env)::aM es X.env:=by rfl)(m:(cG pos (aM es X.env)).any (·.1)=am:=by rfl):JE X (.Call (.Name x p) (e::es) [] pos) (iM g tt):=
 ⟨zY o.mono ha,PE.weak (xP o.p i hm f ha.p hn j l m) λσ H Q h=>OV o ha h⟩
noncomputable def mU(K:W.Frag)(g:GN):Sp:=λf H Q _=>∃F α M ds,OK K F α H M/\gA K α (i0 F α M H) ds f/\g ds M (vK K F α H M Q)
structure iI(P:aJ)(w:bj)(K:W.Frag)(mg:ay->Option af)(base:ar)(k:Nat)(x:ay)(ps:List ay)(g:GN):Prop where
 mono:sV g
 p:re P w K mg base k x ps (mU K g)
theorem jF{k:Nat}{i:List ay}{g:GN}(h:iI X.prog X.w X.K X.mg X.base k x i g)(j:jR k X.A)(ha:JA X (e::es) tt)(l:Gl X x:=by rfl)(m:(x==("__debug__":ay))=am:=by decide)
(n:aM (e::es) X.env=(am,eval e X.env)::aM es X.env:=by rfl)(o:(cG pos (aM es X.env)).any (·.1)=am:=by rfl):JE X (.Call (.Name x p) (e::es) [] pos) (iM g tt):=by refine⟨zY h.mono ha,PE.weak (ZY h.p j ha.p l m n o) λσ H Q q=>?_⟩;obtain⟨F,α,f,M,r,q⟩:=q;refine⟨F,α,f,M,r,ha.mono f _ _ _ (λds M1 q s u H1 e1 o1 r1=>?_) q⟩;show mU X.K g (s++[]) H1 Q E0;rw[br];exact⟨F,u,M1,ds,o1,r1,h.mono _ _ _ _ (vK.grow e1) q⟩
end
end L3
namespace L2
open PySem PySem.Spec PyProof.Rows
section
variable {X:Cx} {pins:List (aj×bS)} {σ:St} {H:Hp} {s:ai} {a:aj} {ik:List (Key×V)}
theorem Inv.ghost{w w':HO}(I:Inv X pins σ H s)(ha:H a=aa w)(n1:∀xs,w≠.tup xs)(n2:∀x,w≠.own x)(j:∀g,w≠.HP g)(l:∀o u,X.gH a≠aa (.wF o u))
(ok:iN X.prog X.w (upd H a w') s.heap a w'):Inv X pins σ (upd H a w') s:=by
 have f:∀b,H b=ao->b≠a:=λb h z=>by rw[z,ha] at h;cases h
 refine⟨I.ok,I.os,I.bare,⟨I.base.keep,I.base.slot,λb o q n y=>?_,I.base.there,λb xs q=>?_,λb o u q=>?_,λb g q=>?_⟩,I.loc,I.cell,?_,λx c e=>?_,λp A=>?_,λb ob q=>?_,I.len⟩
 ·have:=I.base.free b o q n y;rw[gF (f b this)];exact this
 ·have:=I.base.wG b xs q;rw[gF λz=>by rw[z,ha] at this;exact n1 xs (bq this)];exact this
 ·have:=I.base.uP b o u q;rw[gF λz=>l o u (by rw[<-z];exact q)];exact this
 ·obtain⟨m,e⟩:=I.base.wH b g q;exact⟨m,by rw[gF λz=>by rw[z,ha] at e;exact j _ (bq e)];exact e⟩
 ·rw[gF (f _ I.free)];exact I.free
 ·rw[gF (f _ (I.lD x c e))];exact I.lD x c e
 ·obtain⟨B,i,C⟩:=I.pin p A;exact⟨B,by rw[gF (f _ i)];exact i,C⟩
 ·by_cases z:b=a
  ·subst z;rw[gW] at q;cases q;exact ok
  ·rw[gF z] at q;refine(I.iJ b ob q).sL (λc v _ r=>r) (λc r=>?_) (λc xs r=>?_)
   ·rw[gF λz=>by rw[z,ha] at r;exact n2 _ (bq r)];exact r
   ·rw[gF λz=>by rw[z,ha] at r;exact n1 _ (bq r)];exact r
theorem Inv.Fq{o:bS}(I:Inv X pins σ H s)(ha:H a=aa (.wF o (.dK ik)))(b:∀o u,X.gH a≠aa (.wF o u)):Inv X pins σ (upd H a (.dK ik)) s:=by obtain⟨_,z,hd,f,r,ob,es,g,e,c⟩:=(show iN X.prog X.w H s.heap a (.wF o (.dK ik)) from I.iJ a _ ha);exact I.ghost ha (λ_ z=>by cases z) (λ_ z=>by cases z) (λ_ z=>by cases z) b ⟨z,hd,f,r,ob,es,g,e,c⟩
def TH (X:Cx)(P:Hp->Prop)(H:Hp):Prop:=P H\/∃a o ik,H a=aa (.wF o (.dK ik))/\(∀o u,X.gH a≠aa (.wF o u))/\P (upd H a (.dK ik))
theorem TH.get{P:Hp->Prop}(I:Inv X pins σ H s)(h:TH X P H):∃b,Inv X pins σ b s/\P b:=by
 rcases h with h|⟨a,o,ik,e,n,h⟩
 ·exact⟨H,I,h⟩
 ·exact⟨_,I.Fq e n,h⟩
noncomputable def thD(X:Cx)(D:Ends):Ends:=⟨λσ=>TH X (D.nx σ),λv=>TH X (D.rt v),λσ=>TH X (D.bk σ),λσ=>TH X (D.ct σ)⟩
theorem sX{st:bH}{t m:TS}(h:PS X st t)(w:∀D σ H,m D σ H->t (thD X D) σ H):PS X st m:=λpins s σ H D I q=>
 jz (h pins s σ H (thD X D) I (w D σ H q)) λf n j=>by
  cases f with
  |next=>obtain⟨b,l,c,q⟩:=j;obtain⟨e,g,i⟩:=TH.get c q;exact⟨b,e,g,i⟩
  |brk=>obtain⟨b,l,c,q⟩:=j;obtain⟨e,g,i⟩:=TH.get c q;exact⟨b,e,g,i⟩
  |cont=>obtain⟨b,l,c,q⟩:=j;obtain⟨e,g,i⟩:=TH.get c q;exact⟨b,e,g,i⟩
  |ret u=>obtain⟨v,b,l,c,r,q⟩:=j;obtain⟨e,g,i⟩:=TH.get c q;exact⟨v,b,e,g,r,i⟩
theorem OW{e:bh}{t b:TE}(h:PE X e t)(w:∀σ H Q,b σ H Q->t σ H (λv=>TH X (Q v))):PE X e b:=λpins s σ H Q I q=>
 jz (h pins s σ H _ I (w σ H Q q)) λu j ⟨v,l,c,r,q⟩=>by obtain⟨f,g,i⟩:=TH.get c q;exact⟨v,f,g,r,i⟩
end
end L2
namespace L3
open PySem PySem.Spec PyProof.Rows L2
section
variable {K:W.Frag} {H H':Hp} {a:aj}
end
section
variable {K:W.Frag} {F α:List aj} {H:Hp} {M:Ms} {a:aj} {ik:List (Key×V)} {w w':HO}
end
noncomputable def er(p:aj)(H:Hp):Hp:=λb=>if b=p then ao else H b
structure OX(X:Cx)(F ip:List aj)(H1 Hf:Hp)(M1:Ms)(T:Hp->Hp):Prop where
 ok:OK X.K F ip Hf M1
 rep:∀d v,Rep X.K ip (i0 F ip M1 H1) d v->Rep X.K ip (i0 F ip M1 Hf) d v
 e:∀gZ H' M',Ext F ip Hf M1 gZ H' M'->OK X.K F gZ H' M'->Ext F ip H1 M1 gZ (T H') M'/\OK X.K F gZ (T H') M'/\∀d v,Rep X.K gZ (i0 F gZ M' H') d v->Rep X.K gZ (i0 F gZ M' (T H')) d v
 h:∀gZ H' M' (P:Hp->Prop),Ext F ip Hf M1 gZ H' M'->P (T H')->TH X P H'
 c:∀p H' x,Hf p=ao->H' p=aa x->upd (T (er p H')) p x=T H'
 n:∀p H',Hf p=ao->H' p=ao->T H' p=ao
 k:∀gZ H' M' b φ,Ext F ip Hf M1 gZ H' M'->H' b=aa (.ext φ)->T H' b=aa (.ext φ)
theorem gA.imp{K:W.Frag}{α:List aj}{H b:Hp}(f:∀d v,Rep K α H d v->Rep K α b d v):∀(ds:List D) (a:List V),gA K α H ds a->gA K α b ds a
 |[],a,h=>by unfold gA at h ⊢;exact h
 |d::ds,a,h=>by unfold gA at h ⊢;obtain⟨v,r,q,z,y⟩:=h;exact⟨v,r,q,f d v z,gA.imp f ds r y⟩
section
variable {X:Cx} {F ip:List aj} {H1 Hf:Hp} {M1:Ms} {T:Hp->Hp}
theorem OX.refl(o:OK X.K F ip H1 M1):OX X F ip H1 H1 M1 id:=
 ⟨o,λ_ _ r=>r,λ_ _ _ e o=>⟨e,o,λ_ _ r=>r⟩,λ_ _ _ _ _ p=>.inl p,λp a x _ h=>by
  funext b;show upd (er p a) p x b=a b;by_cases z:b=p
  ·rw[z,gW,h]
  ·rw[gF z];unfold er;rw[if_neg z],λ_ _ _ h=>h,λ_ _ _ _ _ _ h=>h⟩
theorem OX.rs(z:OX X F ip H1 Hf M1 T){σ:L2.St}{a:kF}(r:R X.K F ip H1 σ a M1):R X.K F ip Hf σ a M1:=⟨z.ok,r.len,λi d q=>by obtain⟨v,b,c⟩:=r.sl i d q;exact⟨v,b,z.rep d v c⟩⟩
theorem OX.rt(z:OX X F ip H1 Hf M1 T){a:List aj}{b:Hp}{c:Ms}{g:L2.St}{h:kF}(e:Ext F ip Hf M1 a b c)(f:R X.K F a b g h c):R X.K F a (T b) g h c:=by
 obtain⟨_,j,l⟩:=z.e _ _ _ e f.ok;exact⟨j,f.len,λi d q=>by obtain⟨v,m,n⟩:=f.sl i d q;exact⟨v,m,l d v n⟩⟩
end
end L3
namespace L3
open PySem PySem.Spec PyProof.Rows L2
def acj (K:W.Frag)(α:List aj)(c:Hp):OD->HO->Prop
 |.lst ds,b=>∃a,b=.lst a/\gA K α c ds a
 |.lV e ds,b=>∃a,b=.dK (e.zip a)/\e.length=ds.length/\gA K α c ds a
 |.ins _ _ _,_=>False
 |.fz _ _ _ _,_=>False
noncomputable def OD.toD:OD->D
 |.lst ds=>.lst ds
 |.lV a ds=>.lV a ds
 |.ins C ns ds=>.ins C ns ds
 |.fz k _ _ _=>.loc k
abbrev DF:=kF->Ms->(OD->Ms->Prop)->Prop
abbrev fK(K:W.Frag)(F α:List aj)(H:Hp)(M:Ms)(Q:VK):OD->Ms->Prop:=λo M1=>∀p b a H1,Ext F α H M a H1 M1->OK K F a H1 M1->H1 p=ao->acj K a (i0 F a M1 H1) o b->Q (.ref p) (upd H1 p b)
noncomputable def lF(K:W.Frag)(t:DF):TE:=λσ H Q=>∃F α a M,R K F α H σ a M/\t a M (fK K F α H M Q)
structure JF(X:Cx)(e:bh)(t:DF):Prop where
 mono:∀δ M (P Q:OD->Ms->Prop),(∀d M,P d M->Q d M)->t δ M P->t δ M Q
 p:PE X e (lF X.K t)
section
variable {K:W.Frag} {F α gZ:List aj} {H H':Hp} {M M':Ms}
theorem fK.grow{Q:VK}(e:Ext F α H M gZ H' M'):∀d a,fK K F α H M Q d a->fK K F gZ H' M' Q d a:=λd a h p b c f e2 o2 g r2=>h p b c f (e.trans e2) o2 g r2
theorem fK.wF{Q:VK}{o:OD}{M1:Ms}(h:vK K F α H M Q o.toD M1):fK K F α H M Q o M1:=by
 intro p i g H1 e1 o1 b a;have q:vK K F g H1 M1 Q o.toD M1:=vK.grow e1 _ _ h;refine vK.new o1 b q λe=>?_;cases o with
 |lst ds=>obtain⟨c,rfl,r⟩:=a;exact nj o1 b r e
 |lV f ds=>
  obtain⟨c,rfl,l,r⟩:=a;show Rep K _ _ (.lV f ds) _;unfold Rep;exact⟨p,c,rfl,.inl (by show jB _ _ p=_;rw[kg (o1.new b),gW]),l,e.zU r⟩
 |ins C ns ds=>exact a.elim
 |fz k j f ds=>exact a.elim
theorem fK.own{Q:VK}{o:OD}{M1:Ms}(h:vK K F α H M Q (.loc M1.length) (M1++[aa o])):fK K F α H M Q o M1:=by
 intro p e i H1 e1 o1 a b;have f:=o1.zV (x:=o) a (zS (o:=e) a);obtain⟨o2,e2⟩:=o1.enter (x:=o) (H':=upd H1 p e) a (zS a) (by
  cases o with
  |lst ds=>obtain⟨c,rfl,r⟩:=b;exact⟨c,gW,gA.mono (cz _ _) f _ _ r⟩
  |lV g ds=>obtain⟨c,rfl,l,r⟩:=b;exact⟨c,gW,l,gA.mono (cz _ _) f _ _ r⟩
  |ins C ns ds=>exact b.elim
  |fz k j g ds=>exact b.elim)
 refine h _ _ _ (e1.trans e2) o2 ?_;unfold Rep;exact⟨p,by rw[<-o1.ml];simp,rfl⟩
end
section
variable {X:Cx} {a b c e:bh} {es rest:List bh} {ta tb tc te:DE} {tA N8:DT} {tt:DA} {pos p p2 p3:c7} {x:ay} {tf:DF}
noncomputable def ie(t:DF):DE:=λf M Q=>t f M λo M1=>Q o.toD M1
noncomputable def xW(t:DF):DE:=λf M Q=>t f M λo M1=>Q (.loc M1.length) (M1++[aa o])
theorem ii(h:JF X e tf):JE X e (ie tf):=⟨λf M P Q w q=>h.mono f _ _ _ (λo M1 q=>w _ _ q) q,PE.weak h.p λσ H Q ⟨F,α,f,M,r,q⟩=>⟨F,α,f,M,r,h.mono f _ _ _ (λo M1 q=>fK.wF q) q⟩⟩
theorem Fs(h:JF X e tf):JE X e (xW tf):=⟨λf M P Q w q=>h.mono f _ _ _ (λo M1 q=>w _ _ q) q,PE.weak h.p λσ H Q ⟨F,α,f,M,r,q⟩=>⟨F,α,f,M,r,h.mono f _ _ _ (λo M1 q=>fK.own q) q⟩⟩
noncomputable def iP(tt:DA):DF:=λf M Q=>tt f M λds M1=>ds.length<=aE/\Q (.lst ds) M1
theorem iC(h:JA X es tt):JF X (.List es pos) (iP tt):=by refine⟨λf M P Q w q=>h.mono f _ _ _ (λds M1 q=>⟨q.1,w _ _ q.2⟩) q,PE.weak (Wy h.p) λσ H Q q=>?_⟩;obtain⟨F,α,f,M,r,q⟩:=q;refine⟨F,α,f,M,r,h.mono f _ _ _ (λds M1 q g i H1 e1 o1 r1=>?_) q⟩;exact⟨by rw[<-gA.length ds g r1];exact q.1,λp j=>q.2 p _ i H1 e1 o1 j ⟨g,rfl,r1⟩⟩
end
structure jW where
 nx:kF->Ms->Prop
 rt:DK
 bk:kF->Ms->Prop
 ct:kF->Ms->Prop
abbrev DS:=jW->kF->Ms->Prop
structure jW.le(P Q:jW):Prop where
 nx:∀δ M,P.nx δ M->Q.nx δ M
 rt:∀d M,P.rt d M->Q.rt d M
 bk:∀δ M,P.bk δ M->Q.bk δ M
 ct:∀δ M,P.ct δ M->Q.ct δ M
theorem jW.le.refl(P:jW):P.le P:=⟨λ_ _ h=>h,λ_ _ h=>h,λ_ _ h=>h,λ_ _ h=>h⟩
abbrev sK(K:W.Frag)(F α:List aj)(H:Hp)(M:Ms)(Q:L2.St->Hp->Prop):kF->Ms->Prop:=λf b=>∀c e a,Ext F α H M e a b->R K F e a c f b->Q c a
noncomputable def mE(K:W.Frag)(F α:List aj)(H:Hp)(M:Ms)(E:Ends):jW:=⟨sK K F α H M E.nx,vK K F α H M E.rt,sK K F α H M E.bk,sK K F α H M E.ct⟩
noncomputable def lS(K:W.Frag)(t:DS):TS:=λE σ H=>∃F α a M,R K F α H σ a M/\t (mE K F α H M E) a M
section
variable {K:W.Frag} {F α gZ:List aj} {H H':Hp} {M M':Ms}
theorem sK.grow{Q:L2.St->Hp->Prop}(e:Ext F α H M gZ H' M'):∀d a,sK K F α H M Q d a->sK K F gZ H' M' Q d a:=λd a h v b c e2 o2=>h v b c (e.trans e2) o2
theorem mE.grow{E:Ends}(e:Ext F α H M gZ H' M'):(mE K F α H M E).le (mE K F gZ H' M' E):=⟨sK.grow e,vK.grow e,sK.grow e,sK.grow e⟩
end
structure JS(X:Cx)(st:bH)(t:DS):Prop where
 mono:∀(P Q:jW) δ M,P.le Q->t P δ M->t Q δ M
 p:PS X st (lS X.K t)
structure BD(X:Cx)(st:List bH)(t:DS):Prop where
 mono:∀(P Q:jW) δ M,P.le Q->t P δ M->t Q δ M
 p:wA X st (lS X.K t)
section
variable {X:Cx} {c e:bh} {te:DE} {tA:DT} {t u:DS} {pos p p2:c7} {x:ay} {st:bH} {Iu as bs:List bH}
noncomputable def ia:DS:=λE a M=>E.nx a M
noncomputable def gY(t u:DS):DS:=λE a M=>t {E with nx:=u E} a M
theorem hU:BD X [] ia:=⟨λP Q a M w q=>w.nx _ _ q,wA.weak Kx λE σ H ⟨F,α,a,M,r,q⟩=>q σ α H Ext.refl r⟩
theorem gD(h:JS X st t):BD X [st] t:=⟨h.mono,Ky h.p⟩
theorem gE(a:JS X st t)(b:BD X Iu u):BD X (st::Iu) (gY t u):=by refine⟨λP Q f M w q=>a.mono {P with nx:=u P} {Q with nx:=u Q} _ _ ⟨λf M q=>b.mono _ _ _ _ w q,w.rt,w.bk,w.ct⟩ q,wA.weak (wK a.p b.p) λE σ H q=>?_⟩;obtain⟨F,α,f,M,r,q⟩:=q;refine⟨F,α,f,M,r,a.mono {mE X.K F α H M E with nx:=u (mE X.K F α H M E)} _ _ _ ⟨λg M1 q i h H1 e1 r1=>⟨F,h,g,M1,r1,b.mono _ _ _ _ (mE.grow e1) q⟩,λ_ _ q=>q,λ_ _ q=>q,λ_ _ q=>q⟩ q⟩
noncomputable def iw(te:DE):DS:=λE a M=>te a M E.rt
theorem gO(b:JE X e te):JS X (.Return (aa e) pos) (iw te):=⟨λP Q a M w q=>b.mono a _ _ _ w.rt q,PS.weak (Wf b.p) λE σ H ⟨F,α,a,M,r,q⟩=>⟨F,α,a,M,r,q⟩⟩
noncomputable def Dj:DS:=λ_ _ _=>False
noncomputable def iB(c:DT)(t u:DS):DS:=λE a M=>c a M λb M1=>if b=ah then t E a M1 else u E a M1
theorem iq(f:JT X c tA)(ha:BD X as t)(g:BD X bs u):JS X (.If c as bs pos) (iB tA t u):=by
 refine⟨λP Q a M w q=>f.mono a _ _ _ (λb M1 q=>?_) q,PS.weak (Vf f.p ha.p g.p) λE σ H q=>?_⟩
 ·cases b with
  |true=>rw[if_pos rfl] at q ⊢;exact ha.mono _ _ _ _ w q
  |false=>rw[if_neg au] at q ⊢;exact g.mono _ _ _ _ w q
 ·obtain⟨F,α,a,M,r,q⟩:=q;refine⟨F,α,a,M,r,f.mono a _ _ _ (λb M1 q h H1 e1 o1=>?_) q⟩;cases b with
  |true=>
   rw[if_pos rfl] at q;show(if ah=ah then _ else _);rw[if_pos rfl];exact⟨F,h,a,M1,r.grow e1 o1,ha.mono _ _ _ _ (mE.grow e1) q⟩
  |false=>
   rw[if_neg au] at q;show(if am=ah then _ else _);rw[if_neg au];exact⟨F,h,a,M1,r.grow e1 o1,g.mono _ _ _ _ (mE.grow e1) q⟩
noncomputable def u4(te:DE):DS:=λE a M=>te a M λ_ M1=>E.nx a M1
theorem zl(b:JE X e te)(f:cN e ao pos.line X.env=pure am:=by rfl):JS X (.Expr e pos) (u4 te):=by refine⟨λP Q a M w q=>b.mono a _ _ _ (λd M1 q=>w.nx _ _ q) q,PS.weak (C5 b.p f) λE σ H q=>?_⟩;obtain⟨F,α,a,M,r,q⟩:=q;exact⟨F,α,a,M,r,b.mono a _ _ _ (λd M1 q v g H1 e1 o1 r1=>q σ g H1 e1 (r.grow e1 o1)) q⟩
noncomputable def iD(i:Nat)(te:DE):DS:=λE a M=>te a M λd M1=>E.nx (a.set i (aa d)) M1
theorem ix(i:Nat)(f:X.N.Nodup)(b:JE X e te)(hi:X.N[i]?=aa x:=by rfl)(g:Loc X.env.scope x:=by first|exact eB rfl|exact dk rfl)(h:cN e (aa (.Name x p)) pos.line X.env=pure am:=by rfl)
(j:X.fn x=ah\/X.env.scope.names.lookup x=aa .local:=by first|exact .inl rfl|exact .inr rfl|assumption):JS X (.Assign [.Name x p] e pos) (iD i te):=by refine⟨λP Q a M w q=>b.mono a _ _ _ (λd M1 q=>w.nx _ _ q) q,PS.weak (Oc f hi g b.p h j) λE σ H q=>?_⟩;obtain⟨F,α,a,M,r,q⟩:=q;exact⟨F,α,a,M,r,b.mono a _ _ _ (λd M1 q v l H1 e1 o1 r1=>q _ l H1 e1 ((r.grow e1 o1).set r1)) q⟩
abbrev DG:=D->kF->Ms->(kF->Ms->Prop)->Prop
abbrev K0:=List D->kF->Ms->(kF->Ms->Prop)->Prop
noncomputable def lG(K:W.Frag)(g:DG):TG:=λv σ H Q=>∃F α a M d,R K F α H σ a M/\Rep K α (i0 F α M H) d v/\g d a M (sK K F α H M Q)
noncomputable def lGs(K:W.Frag)(g:K0):RW:=λb σ H Q=>∃F α a M ds,R K F α H σ a M/\gA K α (i0 F α M H) ds b/\g ds a M (sK K F α H M Q)
structure JG(X:Cx)(tg:bh)(g:DG):Prop where
 mono:∀d δ M (P Q:kF->Ms->Prop),(∀δ M,P δ M->Q δ M)->g d δ M P->g d δ M Q
 p:PG X tg (lG X.K g)
structure JGs(X:Cx)(tg:List bh)(g:K0):Prop where
 mono:∀d δ M (P Q:kF->Ms->Prop),(∀δ M,P δ M->Q δ M)->g d δ M P->g d δ M Q
 p:Oa X tg (lGs X.K g)
theorem PG.weak{tg:bh}{g a:TG}(h:PG X tg g)(w:∀v σ H Q,a v σ H Q->g v σ H Q):PG X tg a:=λpins s σ H v u Q I r q=>h pins s σ H v u Q I r (w v σ H Q q)
theorem Oa.weak{tg:List bh}{g a:RW}(h:Oa X tg g)(w:∀v σ H Q,a v σ H Q->g v σ H Q):Oa X tg a:=λpins s σ H v u Q I r q=>h pins s σ H v u Q I r (w v σ H Q q)
noncomputable def gM(i:Nat):DG:=λd a M Q=>Q (a.set i (aa d)) M
theorem gS(i:Nat)(a:X.N.Nodup)(hi:X.N[i]?=aa x:=by rfl)(b:Loc X.env.scope x:=by first|exact eB rfl|exact dk rfl)(f:X.fn x=ah\/X.env.scope.names.lookup x=aa .local:=by first|exact .inl rfl|exact .inr rfl|assumption):JG X (.Name x pos) (gM i):=
 ⟨λd g M P Q w q=>w _ _ q,PG.weak (Sh a hi b f) λv σ H Q ⟨F,α,g,M,d,r,rd,q⟩=>q _ α H Ext.refl (r.set rd)⟩
noncomputable def j0:K0:=λds a M Q=>ds=[]/\Q a M
noncomputable def ib(g:DG)(gs:K0):K0:=λds a M Q=>match ds with|d::r=>g d a M λb M1=>gs r b M1 Q|[]=>False
theorem kA:JGs X [] j0:=⟨λd a M P Q w q=>⟨q.1,w _ _ q.2⟩,Oa.weak Si λv σ H Q ⟨F,α,a,M,ds,r,rd,e,q⟩=>by subst e;unfold gA at rd;exact⟨rd,q σ α H Ext.refl r⟩⟩
theorem iy{g:DG}{gs:K0}{es:List bh}(a:JG X e g)(b:JGs X es gs)(h:(dI (e::es) X.env).map (·.2)=assign e X.env::(dI es X.env).map (·.2):=by rfl):JGs X (e::es) (ib g gs):=by
 refine⟨λd f M P Q w q=>?_,Oa.weak (Ob a.p b.p h) λv σ H Q q=>?_⟩
 ·cases d with
  |nil=>exact q.elim
  |cons d r=>exact a.mono _ _ _ _ _ (λf M q=>b.mono _ _ _ _ _ w q) q
 ·obtain⟨F,α,f,M,ds,r,rd,q⟩:=q;cases ds with
  |nil=>exact q.elim
  |cons d i=>
   unfold gA at rd;obtain⟨v1,j,rfl,r1,r2⟩:=rd;refine⟨v1,j,rfl,F,α,f,M,d,r,r1,a.mono _ _ _ _ _ (λl M1 q o m H1 e1 n=>?_) q⟩;exact⟨F,m,l,M1,i,n,e1.zU r2,b.mono _ _ _ _ _ (sK.grow e1) q⟩
noncomputable def j4(n:Nat)(gs:K0):DG:=λd a M Q=>match d with|.tup ds=>ds.length=n/\gs ds a M Q|_=>False
theorem lX{es:List bh}{k n:Nat}{gs:K0}(h:JGs X es gs)(f:X.calm=ah:=by rfl)(hn:(dI es X.env).length=n:=by rfl)(g:(dI es X.env).findIdx? (·.1)=ao:=by rfl):JG X (.Tuple es k pos) (j4 n gs):=by
 refine⟨λd b M P Q w q=>?_,PG.weak (Wh f h.p hn g) λv σ H Q q=>?_⟩
 ·cases d<;>first|exact q.elim|exact⟨q.1,h.mono _ _ _ _ _ w q.2⟩
 ·obtain⟨F,α,b,M,d,r,rd,q⟩:=q;cases d<;>first|exact q.elim|skip
  unfold Rep at rd;obtain⟨a,i,rfl,j,z⟩:=rd;exact⟨a,i,rfl,oF hV j,by rw[<-gA.length _ _ z];exact q.1,F,α,b,M,_,r,z,q.2⟩
noncomputable def oN(te:DE)(g:DG):DS:=λE a M=>te a M λd M1=>g d a M1 E.nx
theorem nE{tg:bh}{g:DG}(b:JE X e te)(f:JG X tg g)(h:adu [tg] e pos.line X.env=pure am:=by rfl)(hw:adv [tg] e X.env=pure ao:=by rfl)
(i:(dI [tg] X.env).map (·.2)=[assign tg X.env]:=by rfl):JS X (.Assign [tg] e pos) (oN te g):=by refine⟨λP Q a M w q=>b.mono a _ _ _ (λd M1 q=>f.mono _ _ _ _ _ w.nx q) q,PS.weak (Wj b.p f.p h hw i) λE σ H q=>?_⟩;obtain⟨F,α,a,M,r,q⟩:=q;refine⟨F,α,a,M,r,b.mono a _ _ _ (λd M1 q v j H1 e1 o1 r1=>?_) q⟩;exact⟨F,j,a,M1,d,r.grow e1 o1,r1,f.mono _ _ _ _ _ (sK.grow e1) q⟩
structure Z5(K:W.Frag)(F ip:List aj)(H1:Hp)(M1:Ms)(J:It)(items:List D)(st:Ms->Prop):Prop where
 go:∀i F' gZ H' M',ip <+: gZ->jA (i0 F ip M1 H1) (i0 F' gZ M' H')->OK K F' gZ H' M'->st M'->i<items.length->J.go i H'
 Sl:∀(i:Nat) F' gZ H' M' x H2 d,ip <+: gZ->jA (i0 F ip M1 H1) (i0 F' gZ M' H')->OK K F' gZ H' M'->st M'->items[i]?=aa d->J.Sl i H' x H2->OK K F' gZ H2 M'/\Ext F' gZ H' M' gZ H2 M'/\Rep K gZ (i0 F' gZ M' H2) d x
 stop:∀F' gZ H' M',ip <+: gZ->jA (i0 F ip M1 H1) (i0 F' gZ M' H')->OK K F' gZ H' M'->st M'->J.stop items.length H'
abbrev DI:=kF->Ms->(List D->(Ms->Prop)->Ms->Prop)->Prop
abbrev iK(X:Cx)(F α:List aj)(H:Hp)(M:Ms)(Q:It->Hp->Prop):List D->(Ms->Prop)->Ms->Prop:=λitems st M1=>∀J a H1 b T,Ext F α H M a H1 M1->OK X.K F a H1 M1->OX X F a H1 b M1 T->Z5 X.K F a b M1 J items st->Q J b
noncomputable def lI(X:Cx)(t:DI):TI:=λσ H Q=>∃F α a M,R X.K F α H σ a M/\t a M (iK X F α H M Q)
structure JI(X:Cx)(tg e:bh)(t:DI):Prop where
 mono:∀δ M (P Q:List D->(Ms->Prop)->Ms->Prop),(∀l s M,P l s M->Q l s M)->t δ M P->t δ M Q
 p:PI X tg e (lI X t)
theorem PI.weak{tg:bh}{t a:TI}(h:PI X tg e t)(w:∀σ H Q,a σ H Q->t σ H Q):PI X tg e a:=λpins s σ H Q I q=>h pins s σ H Q I (w σ H Q q)
def nV (g:DG)(tb:DS)(st:Ms->Prop)(E:jW):List D->kF->Ms->Prop
 |[]=>λb M=>E.nx b M
 |x::xs=>λb M=>g x b M λh M1=>tb {E with nx:=λf a=>st a/\nV g tb st E xs f a,ct:=λf a=>st a/\nV g tb st E xs f a,bk:=E.nx} h M1
noncomputable def uS(b:DI)(g:DG)(tb:DS):DS:=λE a M=>b a M λitems st M1=>st M1/\nV g tb st E items a M1
theorem xX{g:DG}{tb:DS}{st:Ms->Prop}(h:∀d b M (P Q:kF->Ms->Prop),(∀b M,P b M->Q b M)->g d b M P->g d b M Q)(i:∀(P Q:jW) b M,P.le Q->tb P b M->tb Q b M){P Q:jW}(w:P.le Q):∀xs b M,nV g tb st P xs b M->nV g tb st Q xs b M
 |[],b,M,q=>w.nx _ _ q
 |x::xs,b,M,q=>h _ _ _ _ _ (λj M1 q=>i {P with nx:=λf a=>st a/\nV g tb st P xs f a,ct:=λf a=>st a/\nV g tb st P xs f a,bk:=P.nx} {Q with nx:=λf a=>st a/\nV g tb st Q xs f a,ct:=λf a=>st a/\nV g tb st Q xs f a,bk:=Q.nx} _ _ ⟨λf a q=>⟨q.1,xX h i w xs f a q.2⟩,w.rt,w.nx,λf a q=>⟨q.1,xX h i w xs f a q.2⟩⟩ q) q
theorem vE{tg:bh}{body:List bH}{ti:DI}{g:DG}{tb:DS}(hi:JI X tg e ti)(U:JG X tg g)(Y:BD X body tb)(hp:act (model X.prog X.w) X.A X.env X.xe:=by exact act.never)(hc:X.calm=ah:=by rfl)
(hs:∀x,cy e X.env x=pure x:=by intro _;rfl):JS X (.For tg e body [] pos) (uS ti g tb):=by
 refine⟨λP Q C M w q=>hi.mono C _ _ _ (λitems st M1 q=>⟨q.1,xX U.mono Y.mono w _ _ _ q.2⟩) q,sX (Og hp hc hi.p U.p Y.p hs) λE σ H q=>?_⟩;obtain⟨F,α,C,M,r,q⟩:=q;refine⟨F,α,C,M,r,hi.mono C _ _ _ (λitems st M1 q J ip H1 Hf T e1 o1 z it=>?_) q⟩;obtain⟨s1,q⟩:=q;refine⟨λi m i7 j=>m=items.length- i/\i<=items.length/\∃f I a,Ext F ip Hf M1 f j a/\R X.K F f j i7 I a/\st a/\nV g tb st (mE X.K F α H M E) (items.drop i) I a,⟨_,rfl,bJ _,ip,C,M1,Ext.refl,z.rs (r.grow e1 o1),s1,q⟩,?_⟩
 rintro i m i7 j ⟨rfl,hi',f,I,a,e',B,s',L⟩
 by_cases N:i<items.length
 ·rw[cb N] at L;refine .inr ⟨it.go i F f j a e'.pre e'.same B.ok s' N,λCb G=>∃pM Mv M2,Ext F ip Hf M1 pM G M2/\R X.K F pM G Cb Mv M2/\st M2/\nV g tb st (mE X.K F α H M E) (items.drop (i+1)) Mv M2,λCb G h=>⟨_,by omega,rfl,N,h⟩,λx G y=>?_⟩;obtain⟨o2,e2,rx⟩:=it.Sl i F f j a x G items[i] e'.pre e'.same B.ok s' (by simp[N]) y;refine⟨F,f,I,a,items[i],B.grow e2 o2,rx,U.mono _ _ _ _ _ (λHN M3 q3 NT zX H3 e3 r3=>⟨F,zX,HN,M3,r3,Y.mono _ _ _ _ ?_ q3⟩) L⟩;have uu:=(e'.trans e2).trans e3;refine⟨λO l s S5 b n e4 o=>⟨b,O,l,uu.trans e4,o,s⟩,λd l s v b n e4 o4 o=>?_,λO l s S5 b n e4 o=>?_,λO l s S5 b n e4 o=>⟨b,O,l,uu.trans e4,o,s⟩⟩
  ·obtain⟨t1,t2,t3⟩:=z.e b n l (uu.trans e4) o4;exact z.h b n l _ (uu.trans e4) (s v b (T n) (e1.trans t1) t2 (t3 d v o))
  ·obtain⟨t1,_,_⟩:=z.e b n l (uu.trans e4) o.ok;exact z.h b n l _ (uu.trans e4) (s S5 b (T n) (e1.trans t1) (z.rt (uu.trans e4) o))
 ·have e:i=items.length:=by omega
  subst e;rw[dU] at L;obtain⟨t1,_,_⟩:=z.e f j a e' B.ok;exact .inl ⟨it.stop F f j a e'.pre e'.same B.ok s',z.h f j a _ e' (L i7 f (T j) (e1.trans t1) (z.rt e' B))⟩
end
end L3
namespace L3
open PySem PySem.Spec PyProof.Rows L2
mutual
noncomputable def nl:D->Bool
 |.non|.bl _|.int _|.str _|.ty _|.qc _|.cls _=>ah
 |.loc _=>am
 |.tup ds|.lst ds|.lV _ ds|.ins _ _ ds|.exc _ _ ds=>kI ds
noncomputable def kI:List D->Bool
 |[]=>ah
 |d::ds=>nl d&&kI ds
end
mutual
theorem Rep.nl {K:W.Frag} {α β:List aj} {H:Hp}:∀(d:D) (v:V),L3.nl d=ah->Rep K α H d v->Rep K β H d v
 |.non,v,_,h=>by unfold Rep at h ⊢;exact h
 |.bl _,v,_,h=>by unfold Rep at h ⊢;exact h
 |.int _,v,_,h=>by unfold Rep at h ⊢;exact h
 |.str _,v,_,h=>by unfold Rep at h ⊢;exact h
 |.ty _,v,_,h=>by unfold Rep at h ⊢;exact h
 |.qc _,v,_,h=>by unfold Rep at h ⊢;exact h
 |.cls _,v,_,h=>by unfold Rep at h ⊢;exact h
 |.loc _,v,n,h=>by unfold L3.nl at n;cases n
 |.tup ds,v,n,h=>by unfold Rep at h ⊢;unfold L3.nl at n;obtain⟨a,b,r,q,z⟩:=h;exact⟨a,b,r,q,gA.nl ds b n z⟩
 |.lst ds,v,n,h=>by unfold Rep at h ⊢;unfold L3.nl at n;obtain⟨a,b,r,q,z⟩:=h;exact⟨a,b,r,q,gA.nl ds b n z⟩
 |.lV e ds,v,n,h=>by unfold Rep at h ⊢;unfold L3.nl at n;obtain⟨a,b,r,q,l,z⟩:=h;exact⟨a,b,r,q,l,gA.nl ds b n z⟩
 |.ins C ns ds,v,n,h=>by unfold Rep at h ⊢;unfold L3.nl at n;obtain⟨a,c,b,r,q,l,z⟩:=h;exact⟨a,c,b,r,q,l,gA.nl ds b n z⟩
 |.exc C ns ds,v,n,h=>by unfold Rep at h ⊢;unfold L3.nl at n;obtain⟨a,b,r,q,l,z⟩:=h;exact⟨a,b,r,q,l,gA.nl ds b n z⟩
theorem gA.nl {K:W.Frag} {α β:List aj} {H:Hp}:∀(d:List D) (v:List V),L3.kI d=ah->gA K α H d v->gA K β H d v
 |[],v,_,h=>by unfold gA at h ⊢;exact h
 |d::ds,v,n,h=>by unfold gA at h ⊢;unfold L3.kI at n;rw[aH] at n;obtain⟨u,r,q,z,y⟩:=h;exact⟨u,r,q,Rep.nl d u n.1 z,gA.nl ds r n.2 y⟩
end
theorem K1:∀ds:List D,kI ds=ds.all nl
 |[]=>rfl
 |d::ds=>by unfold kI;rw[cT,K1 ds]
theorem kU{β:Type}{f:β->D}(h:∀b,nl (f b)=ah)(l:List β):kI (l.map f)=ah:=by rw[K1];simp[h]
noncomputable def vwk(k:Nat):Option (Option OD)->D
 |some (aa o)=>o.toD
 |_=>.loc k
noncomputable def vw(M:Ms):D->D
 |.loc k=>vwk k M[k]?
 |d=>d
noncomputable def fz(M:Ms):D->D
 |.tup ds=>.tup (ds.map (vw M))
 |d=>vw M d
section
variable {K:W.Frag} {F α:List aj} {H:Hp} {M:Ms}
theorem rg:jA (i0 F α M H) (jB F H):=λb o e=>by obtain⟨z,q⟩:=iL e;exact kT e (λw=>z (bu _ w)) q
theorem OK.ack(o:OK K F α H M){a:aj}(h:a∈α):a∉F:=λw=>(o.fr a w).1 h
theorem xY(o:OK K F α H M):∀(d:D) (v:V),Rep K α (i0 F α M H) d v->Rep K α (jB F H) (vw M d) v:=λd v h=>by
 have gen:Rep K α (jB F H) d v:=Rep.mono (aX _) rg d v h;cases d with
 |loc k=>
  show Rep K α _ (vwk k M[k]?) v;cases e:M[k]? with
  |none=>exact gen
  |some x=>
   cases x with
   |none=>exact gen
   |some y=>
    obtain⟨a,ea,c⟩:=o.own k y e;unfold Rep at h;obtain⟨n,g,rfl⟩:=h;rw[ea] at g;cases g;have f:a∉F:=o.ack (bw ea);cases y with
    |lst ds=>
     obtain⟨b,q,r⟩:=c;show Rep K α _ (.lst ds) _;unfold Rep;exact⟨a,b,rfl,mT f q rfl,gA.mono (aX _) rg _ _ r⟩
    |lV i ds=>
     obtain⟨b,q,l,r⟩:=c;show Rep K α _ (.lV i ds) _;unfold Rep;exact⟨a,b,rfl,.inl (mT f q rfl),l,gA.mono (aX _) rg _ _ r⟩
    |ins C ns ds=>
     obtain⟨m,b,q,l,r⟩:=c;show Rep K α _ (.ins C ns ds) _;unfold Rep;exact⟨a,m,b,rfl,mT f q rfl,l,gA.mono (aX _) rg _ _ r⟩
    |fz j p i ds=>
     show Rep K α _ (.loc j) _;unfold Rep;exact⟨a,c.1,rfl⟩
 |_=>exact gen
theorem rj{k:Nat}{d:D}(e:vw M (.loc k)=d):d=.loc k\/∃o,M[k]?=aa (aa o)/\d=o.toD:=by
 have e:vwk k M[k]?=d:=e;cases h:M[k]? with
 |none=>rw[h] at e;exact .inl e.symm
 |some x=>
  cases x with
  |none=>rw[h] at e;exact .inl e.symm
  |some o=>rw[h] at e;exact .inr ⟨o,rfl,e.symm⟩
theorem K2(o:OK K F α H M):∀(ds:List D) (a:List V),gA K α (i0 F α M H) ds a->gA K α (jB F H) (ds.map (vw M)) a
 |[],a,h=>by unfold gA at h;subst h;exact gA.nil
 |d::ds,a,h=>by unfold gA at h;obtain⟨v,r,rfl,z,y⟩:=h;exact gA.cons (xY o d v z) (K2 o ds r y)
theorem OY(o:OK K F α H M):∀(d:D) (v:V),Rep K α (i0 F α M H) d v->Rep K α (jB F H) (fz M d) v:=λd v h=>by
 cases d with
 |tup ds=>
  unfold Rep at h;obtain⟨a,b,rfl,c,z⟩:=h;show Rep K α _ (.tup _) _;unfold Rep;exact⟨a,b,rfl,oF rg c,K2 o _ _ z⟩
 |_=>exact xY o _ v h
theorem j6(o:OK K F α H M){d:D}{v:V}{ds:List D}(h:Rep K α (i0 F α M H) d v)(e:vw M d=.lst ds):∃a b,v=.ref a/\H a=aa (.lst b)/\gA K α (i0 F α M H) ds b:=by
 cases d with
 |lst es=>
  cases(show(D.lst es)=.lst ds from e);unfold Rep at h;obtain⟨a,b,rfl,q,z⟩:=h;exact⟨a,b,rfl,hV _ _ q,z⟩
 |loc k=>
  rcases rj e with e|⟨x,f,e⟩
  ·cases e
  ·cases x<;>cases e;obtain⟨a,ea,b,q,r⟩:=o.own k _ f;unfold Rep at h;obtain⟨g,c,rfl⟩:=h;rw[ea] at c;cases c;exact⟨a,b,rfl,q,r⟩
 |_=>cases e
theorem _root_.L2.wL.kr{H:Hp}{a:aj}{b:List (Key×V)}{k:Key}(e:Rd H a (.dK b)):wL H a (kV k) (vA b k):=.inl ⟨b,k,e,rfl,rfl⟩
theorem xZ(o:OK K F α H M){d:D}{v:V}{c:List Key}{ds:List D}(h:Rep K α (i0 F α M H) d v)(e:vw M d=.lV c ds):∃a b,v=.ref a/\Rd H a (.dK (c.zip b))/\c.length=ds.length/\gA K α (i0 F α M H) ds b:=by
 cases d with
 |lV ls es=>
  cases(show(D.lV ls es)=.lV c ds from e);unfold Rep at h;obtain⟨a,b,rfl,q,l,z⟩:=h;exact⟨a,b,rfl,Di hV q,l,z⟩
 |loc k=>
  rcases rj e with e|⟨x,g,e⟩
  ·cases e
  ·cases x<;>cases e;obtain⟨a,ea,b,q,l,r⟩:=o.own k _ g;unfold Rep at h;obtain⟨i,f,rfl⟩:=h;rw[ea] at f;cases f;exact⟨a,b,rfl,.inl q,l,r⟩
 |_=>cases e
theorem Iv(o:OK K F α H M){d:D}{v:V}{C:aj}{ns:List ay}{ds:List D}(h:Rep K α (i0 F α M H) d v)(e:vw M d=.ins C ns ds):∃a c b,v=.ref a/\H a=aa (.ins C c (ns.zip b))/\ns.length=ds.length/\gA K α (i0 F α M H) ds b:=by
 cases d with
 |ins g ls es=>
  cases(show(D.ins g ls es)=.ins C ns ds from e);unfold Rep at h;obtain⟨a,c,b,rfl,q,l,z⟩:=h;exact⟨a,c,b,rfl,hV _ _ q,l,z⟩
 |loc k=>
  rcases rj e with e|⟨x,i,e⟩
  ·cases e
  ·cases x<;>cases e;obtain⟨a,ea,c,b,q,l,r⟩:=o.own k _ i;unfold Rep at h;obtain⟨j,f,rfl⟩:=h;rw[ea] at f;cases f;exact⟨a,c,b,rfl,q,l,r⟩
 |_=>cases e
theorem Iw{d:D}{ds:List D}(e:vw M d=.tup ds):d=.tup ds:=by
 cases d with
 |loc k=>rcases rj e with e|⟨x,a,e⟩<;>first|cases e|(cases x<;>cases e)
 |_=>exact e
theorem lY{d:D}{x:ay}(e:vw M d=.str x):d=.str x:=by
 cases d with
 |loc k=>rcases rj e with e|⟨x,a,e⟩<;>first|cases e|(cases x<;>cases e)
 |_=>exact e
theorem sY{d:D}{x:List Int}(e:vw M d=.qc x):d=.qc x:=by
 cases d with
 |loc k=>rcases rj e with e|⟨x,a,e⟩<;>first|cases e|(cases x<;>cases e)
 |_=>exact e
theorem vF{d:D}{x:Int}(e:vw M d=.int x):d=.int x:=by
 cases d with
 |loc k=>rcases rj e with e|⟨x,a,e⟩<;>first|cases e|(cases x<;>cases e)
 |_=>exact e
theorem mI(o:OK K F α H M){d:D}{v:V}{ds:List D}(h:Rep K α (i0 F α M H) d v)(e:vw M d=.tup ds):∃a b,v=.ref a/\xL K H a b/\gA K α (i0 F α M H) ds b:=by cases Iw e;unfold Rep at h;obtain⟨a,b,rfl,q,z⟩:=h;exact⟨a,b,rfl,oF hV q,z⟩
end
abbrev GP:=List D->(D->Prop)->Prop
noncomputable def cl(g:GP):GN:=λds M Q=>kI ds=ah/\g ds λd=>Q d M
abbrev jo(g:GP):Prop:=∀ds (P Q:D->Prop),(∀d,P d->Q d)->g ds P->g ds Q
theorem K3{g:GP}(m:jo g):sV (cl g):=λxs M P Q w q=>⟨q.1,m _ _ _ (λd q=>w _ _ q) q.2⟩
noncomputable def lm(n:Nat)(ds:List D):kF:=ds.map aa++aw (n- ds.length) ao
noncomputable def Vu(n m:Nat)(tb:DS):GN:=λds M Q=>ds.length=m/\tb ⟨λ_ a=>Q .non a,Q,λ_ _=>False,λ_ _=>False⟩ (lm n ds) M
noncomputable def kf(n m:Nat)(tb:DS):GP:=λds Q=>ds.length=m/\tb ⟨λ_ _=>Q .non,λd a=>nl (fz a d)=ah/\Q (fz a d),λ_ _=>False,λ_ _=>False⟩ (lm n ds) []
section
variable {P:aJ} {w:bj} {K:W.Frag} {mg:ay->Option af} {base:ar}
theorem Dk{F α:List aj}{H:Hp}{M:Ms}{N:List ay}{ds:List D}{a:List V}(o:OK K F α H M)(r:gA K α (i0 F α M H) ds a):R K F α H (L2.start N a) (lm N.length ds) M:=by
 have b:=gA.length _ _ r;refine⟨o,by simp[L2.start,lm,b],λi d h=>?_⟩;unfold lm at h;by_cases hi:i<ds.length
 ·rw[bI (by simpa using hi)] at h;rw[bA] at h;cases e:ds[i]? with
  |none=>rw[e] at h;cases h
  |some x=>
   rw[e] at h;cases h;obtain⟨v,e1,r1⟩:=gA.get ds a i d r e;refine⟨v,?_,r1⟩;unfold L2.start;rw[bI (by simp;omega),bA,e1];rfl
 ·rw[List.getElem?_append_right (by simp;omega)] at h;have:=bw h;rw[List.mem_replicate] at this;cases this.2
theorem OZ{n:List ay}{ps:List ay}{X:Cx}{body:List bH}{tb:DS}(b:BD X body tb){H:Hp}{c:List V}{Q:VK}{E:XK}(f:X.K=K)(h:mU K (Vu n.length ps.length tb) c H Q E):
  ∃t,QB X body t/\t {nx:=λ_ a=>Q .non a,rt:=Q} (L2.start n c) H:=by subst f;obtain⟨F,α,M,ds,o,r,i,q⟩:=h;refine⟨_,⟨b.p⟩,F,α,lm n.length ds,M,Dk o r,?_⟩;refine b.mono _ _ _ _ ?_ q;exact⟨λj l q m g a e r=>q _ g a e r.ok wQ,λ_ _ q=>q,λ_ _ q=>q.elim,λ_ _ q=>q.elim⟩
theorem oO{F α:List aj}{H:Hp}{M:Ms}{g:List aj}{c:Hp}{M2:Ms}(o:OK K F α H M)(e2:Ext (lv α M++F) [] H [] g c M2)(o2:OK K (lv α M++F) g c M2):Ext F α H M α c M/\OK K F α c M:=by
 have f:jA (i0 F α M H) (i0 F α M c):=λb x h=>rg _ _ (e2.same b x (by show jB (lv [] []++(lv α M++F)) H b=_;exact h))
 have fr:∀a∈lv α M++F,c a=H a:=e2.fr;have al:∀a,wB (H a)≠ao->wB (c a)≠ao:=λa h=>by
  by_cases z:a∈lv α M++F
  ·rw[fr a z];exact h
  ·cases e:H a with
   |none=>exact absurd (by rw[e]) h
   |some x=>
    rw[e] at h;have v:wB (aa x)=aa x:=by cases x<;>first|rfl|exact absurd rfl h
    have:=hV _ _ (f a x (show jB _ H a=_ from mT z e v));rw[this,v];exactλz=>by cases z
 refine⟨⟨aX _,f,λa ha=>fr a (bu _ ha)⟩,o.ml,o.nd,λa ha=>⟨(o.fr a ha).1,al a (o.fr a ha).2⟩,λa ha=>al a (o.al a ha),λk x h=>?_,o2.tb⟩;obtain⟨a,ea,i⟩:=o.own k x h;exact⟨a,ea,i.mono (aX _) f (fr a (b8 _ (rf.mpr ⟨k,x,ea,h⟩)))⟩
theorem O0{n:List ay}{ps:List ay}{X:Cx}{body:List bH}{tb:DS}(f:BD X body tb){H:Hp}{c:List V}{Q:VK}{E:XK}(i:X.K=K)(h:mU K (cl (kf n.length ps.length tb)) c H Q E):
  ∃t,QB X body t/\t {nx:=λ_ b=>Q .non b,rt:=Q} (L2.start n c) H:=by
 subst i;obtain⟨F,α,M,ds,o,r,hn,s,q⟩:=h;have o0:OK X.K (lv α M++F) [] H []:=⟨rfl,eD,λa ha=>⟨by simp,by
  rcases bp.mp ha with ha|ha
  ·exact o.OT a ha
  ·exact(o.fr a ha).2⟩,λa ha=>(by simp at ha),λk x h=>(by simp at h),o.tb⟩
 have j:gA X.K [] (i0 (lv α M++F) [] [] H) ds c:=gA.nl ds c hn r;refine⟨_,⟨f.p⟩,lv α M++F,[],lm n.length ds,[],Dk o0 j,?_⟩;refine f.mono _ _ _ _ ?_ q;refine⟨λu l q y m b e r=>?_,λd l q v m b e g r=>?_,λ_ _ q=>q.elim,λ_ _ q=>q.elim⟩
 ·obtain⟨e1,o1⟩:=oO o e r.ok;exact q _ α b e1 o1 wQ
 ·obtain⟨e1,o1⟩:=oO o e g;exact q.2 v α b e1 o1 (Rep.nl _ _ q.1 (OY g d v r))
end
end L3
namespace L3
open PySem PySem.Spec PyProof.Rows L2
noncomputable def qf(fr:List (Option Nat))(a:kF):kF:=fr.map λo=>match o with
 |none=>ao
 |some j=>(a[j]?).getD ao
noncomputable def xI(fr:List (Option Nat))(a:kF):kF:=c8 (λo d=>match o with|none=>ao|some _=>d) fr a
def qI (g:DG)(tt:DT)(e:DE)(x:D)(f:kF)(M:Ms)(c:Option D->kF->Ms->Prop):Prop:=
 g x f M λa M1=>tt a M1 λb M2=>if b=ah then e a M2 λd h=>c (aa d) a h else c ao a M2
def jX (fr:List (Option Nat))(g:DG)(tt:DT)(a:DE)(st:Ms->Prop)(Q:List D->Ms->Prop):List D->List D->kF->Ms->Prop
 |[],acc,_,M=>Q acc M
 |x::xs,acc,c,M=>qI g tt a x c M λo b M1=>st M1/\match o with
  |some d=>acc.length<aE/\jX fr g tt a st Q xs (acc++[d]) (xI fr b) M1
  |none=>jX fr g tt a st Q xs acc (xI fr b) M1
noncomputable def iY(fr:List (Option Nat))(b:DI)(g:DG)(tt:DT)(c:DE):DF:=λa M Q=>b a M λitems st M1=>st M1/\jX fr g tt c st (λds e=>Q (.lst ds) e) items [] (qf fr a) M1
structure YS(X:Cx)(ifs:List bh)(t:DT):Prop where
 mono:∀δ M (P Q:Bool->Ms->Prop),(∀d M,P d M->Q d M)->t δ M P->t δ M Q
 p:SQ X ifs (lT X.K t)
noncomputable def lq:DT:=λ_ M Q=>Q ah M
theorem iT{X:Cx}:YS X [] lq:=⟨λa M P Q w q=>w _ _ q,λpins s σ H Q I ⟨F,α,a,M,r,q⟩=>SR pins s σ H Q I (q α H Ext.refl r.ok)⟩
theorem wS{X:Cx}{c:bh}{t:DT}(h:JT X c t):YS X [c] t:=⟨h.mono,SS h.p⟩
section
variable {K:W.Frag} {F α gZ OS:List aj} {H H' YO:Hp} {M M' Bz:Ms} {σ:L2.St} {δ:kF} {p:aj}
theorem R.slots(r:R K F α H σ δ M)(fr:List (Option Nat)):R K F α H (L2.slots fr σ) (qf fr δ) M:=by
 refine⟨r.ok,by simp[L2.slots,qf],λi d h=>?_⟩;unfold qf at h;unfold L2.slots;rw[bA] at h ⊢;cases e:fr[i]? with
 |none=>rw[e] at h;cases h
 |some o=>
  rw[e] at h;cases o with
  |none=>cases h
  |some j=>
   have h:(δ[j]?).getD ao=aa d:=by simpa using h
   cases e2:δ[j]? with
   |none=>rw[e2] at h;cases h
   |some q=>
    rw[e2] at h;have h:q=aa d:=h;subst h;obtain⟨v,e3,a⟩:=r.sl j d e2;exact⟨v,by show aa ((σ[j]?).getD ao)=_;rw[e3];rfl,a⟩
theorem R.xI(r:R K F α H σ δ M){fr:List (Option Nat)}(a:fr.length=δ.length):R K F α H σ (L3.xI fr δ) M:=by
 refine⟨r.ok,by simp[L3.xI,a,r.len],λi d h=>?_⟩;unfold L3.xI at h;rw[List.getElem?_zipWith] at h;cases e:fr[i]? with
 |none=>rw[e] at h;simp at h
 |some o=>
  cases e2:δ[i]? with
  |none=>rw[e,e2] at h;simp at h
  |some q=>
   rw[e,e2] at h;cases o with
   |none=>simp at h
   |some j=>
    have h:q=aa d:=by simpa using h
    subst h;exact r.sl i d e2
theorem Ext.skip(o:OK K F α H M)(g:H p=ao)(e:Ext F α H M gZ H' M')(e':Ext (p::F) gZ H' M' OS YO Bz):Ext F α H M OS YO Bz:=by
 refine⟨e.pre.trans e'.pre,λb x h=>?_,λa ha=>(e'.fr a (av _ ha)).trans (e.fr a ha)⟩;have i:b≠p:=λz=>by have:=(iL h).2;rw[z,g] at this;cases this
 have c:=iL (e.same b x h);have j:i0 (p::F) gZ M' H' b=aa x:=by
  show jB _ H' b=_;refine kT h (λw=>c.1 ?_) c.2
  ·simp only [bp,az] at w ⊢;rcases w with w|w|w
   ·exact .inl w
   ·exact absurd w i
   ·exact .inr w
 have f:=iL (e'.same b x j);show jB _ YO b=_;refine kT h (λw=>f.1 ?_) f.2
 ·simp only [bp,az] at w ⊢;rcases w with w|w
  ·exact .inl w
  ·exact .inr (.inr w)
theorem Ext.Dl(f:H p=ao)(g:p∉F){x:HO}(e:Ext F α H M gZ H' M'):Ext F α H M gZ (upd H' p x) M':=by
 refine⟨e.pre,λb y h=>?_,λa ha=>by rw[gF λz=>g (by rw[<-z];exact ha)];exact e.fr a ha⟩;have i:b≠p:=λz=>by have:=(iL h).2;rw[z,f] at this;cases this
 have c:=iL (e.same b y h);show jB _ _ b=_;exact kT h c.1 (by rw[gF i];exact c.2)
theorem wT{x:HO}:i0 (p::F) α M (upd H p x)=i0 (p::F) α M H:=by
 funext b;show jB _ _ b=jB _ _ b;by_cases a:b∈lv α M++p::F
 ·rw[nQ a,nQ a]
 ·rw[kg a,kg a,gF λz=>a (by rw[z];simp)]
theorem OK.Dl(o:OK K (p::F) α H M){x:HO}(c:wB (aa x)=aa x:=by rfl):OK K (p::F) α (upd H p x) M:=by
 have b:p∉α:=(o.fr p aC).1;refine⟨o.ml,o.nd,λa ha=>⟨(o.fr a ha).1,?_⟩,λa ha=>?_,λk y h=>?_,o.tb.upd (.inl (o.fr p aC).2)⟩
 ·by_cases e:a=p
  ·rw[e,gW,c];exactλz=>by cases z
  ·rw[gF e];exact(o.fr a ha).2
 ·rw[gF λz=>b (by rw[<-z];exact ha)];exact o.al a ha
 ·obtain⟨a,ea,f⟩:=o.own k y h;rw[wT];exact⟨a,ea,f.mono (aX _) (jA.refl _) (gF λz=>b (by rw[<-z];exact bw ea))⟩
theorem R.Dl(r:R K (p::F) α H σ δ M){x:HO}(a:wB (aa x)=aa x:=by rfl):R K (p::F) α (upd H p x) σ δ M:=⟨r.ok.Dl a,r.len,λi d h=>by obtain⟨v,b,c⟩:=r.sl i d h;rw[wT];exact⟨v,b,c⟩⟩
theorem R.O1(r:R K F α H σ δ M)(f:H p=ao){x:HO}(l:wB (aa x)=aa x:=by rfl):R K (p::F) α (upd H p x) σ δ M:=by
 have o:=r.ok;have c:p∉α:=λz=>o.al p z (by rw[f]);have g:jA (i0 F α M H) (i0 (p::F) α M (upd H p x)):=λb y h=>by
  obtain⟨z,q⟩:=iL h;have j:b≠p:=λz=>by rw[z,f] at q;cases q
  show jB _ _ b=_;refine kT h (λw=>z ?_) (by rw[gF j];exact q)
  ·simp only [bp,az] at w ⊢;rcases w with w|w|w
   ·exact .inl w
   ·exact absurd w j
   ·exact .inr w
 refine⟨⟨o.ml,o.nd,λa ha=>?_,λa ha=>?_,λk y h=>?_,o.tb.upd (.inr f)⟩,r.len,λi d h=>?_⟩
 ·rcases az.mp ha with e|e
  ·subst e;exact⟨c,by rw[gW,l];exactλz=>by cases z⟩
  ·refine⟨(o.fr a e).1,?_⟩;rw[gF λz=>(o.fr a e).2 (by rw[z,f])];exact(o.fr a e).2
 ·rw[gF λz=>c (by rw[<-z];exact ha)];exact o.al a ha
 ·obtain⟨a,ea,m⟩:=o.own k y h;exact⟨a,ea,m.mono (aX _) g (gF λz=>c (by rw[<-z];exact bw ea))⟩
 ·obtain⟨v,n,s⟩:=r.sl i d h;exact⟨v,n,Rep.mono (aX _) g _ _ s⟩
theorem zm:er p H p=ao:=by unfold er;rw[if_pos rfl]
theorem yL{b:aj}(h:b≠p):er p H b=H b:=by unfold er;rw[if_neg h]
theorem WZ{x:HO}(h:H p=aa x):upd (er p H) p x=H:=by
 funext b;by_cases e:b=p
 ·rw[e,gW,h]
 ·rw[gF e,yL e]
theorem Ix(o:OK K (p::F) α H M):i0 F α M (er p H)=i0 (p::F) α M H:=by
 have a:p∉α:=(o.fr p aC).1;funext b;show jB _ _ b=jB _ _ b;by_cases e:b=p
 ·subst e;rw[nQ (A:=lv α M++b::F) (by simp)];by_cases z:b∈lv α M++F
  ·rw[nQ z]
  ·rw[kg z,zm]
 ·by_cases z:b∈lv α M++F
  ·rw[nQ z,nQ (by simp only [bp,az] at z ⊢;rcases z with z|z;exact .inl z;exact .inr (.inr z))]
  ·rw[kg z,kg (by simp only [bp,az] at z ⊢;rintro(w|w|w);exact z (.inl w);exact e w;exact z (.inr w)),yL e]
theorem OK.er(o:OK K (p::F) α H M)(f:p∉F):OK K F α (L3.er p H) M:=by
 have c:p∉α:=(o.fr p aC).1;refine⟨o.ml,o.nd,λa ha=>⟨(o.fr a (av _ ha)).1,?_⟩,λa ha=>?_,λk x h=>?_,o.tb.imp λb y e v=>?_⟩
 ·rw[yL λz=>f (by rw[<-z];exact ha)];exact(o.fr a (av _ ha)).2
 ·rw[yL λz=>c (by rw[<-z];exact ha)];exact o.al a ha
 ·obtain⟨a,ea,g⟩:=o.own k x h;rw[Ix o];exact⟨a,ea,g.mono (aX _) (jA.refl _) (yL λz=>c (by rw[<-z];exact bw ea))⟩
 ·rw[yL λz=>(o.fr p aC).2 (by rw[<-z,e];exact v)];exact e
theorem Ext.er(f:H p=ao)(g:p∉F)(e:Ext F α H M gZ H' M'):Ext F α H M gZ (L3.er p H') M':=by
 refine⟨e.pre,λb y h=>?_,λa ha=>by rw[yL λz=>g (by rw[<-z];exact ha)];exact e.fr a ha⟩;have i:b≠p:=λz=>by have:=(iL h).2;rw[z,f] at this;cases this
 have c:=iL (e.same b y h);show jB _ _ b=_;exact kT h c.1 (by rw[yL i];exact c.2)
end
section
variable {X:Cx} {N:List ay} {fr:List (Option Nat)} {scope:cx} {elt target iter:bh} {ifs:List bh} {ti:DI} {g:DG} {tt:DT} {te:DE} {pos:c7}
theorem vG(c:∀d a M (P Q:kF->Ms->Prop),(∀a M,P a M->Q a M)->g d a M P->g d a M Q)(e:∀a M (P Q:Bool->Ms->Prop),(∀d M,P d M->Q d M)->tt a M P->tt a M Q)(f:∀a M (P Q:DK),(∀d M,P d M->Q d M)->te a M P->te a M Q)
{st:Ms->Prop}{P Q:List D->Ms->Prop}(w:∀l M,P l M->Q l M):∀xs acc a M,jX fr g tt te st P xs acc a M->jX fr g tt te st Q xs acc a M
 |[],acc,a,M,q=>w _ _ q
 |x::xs,acc,a,M,q=>by
  unfold jX qI at q ⊢;refine c _ _ _ _ _ (λh M1 q=>e _ _ _ _ (λb M2 q=>?_) q) q;cases b with
  |true=>
   rw[if_pos rfl] at q ⊢;exact f _ _ _ _ (λd i q=>⟨q.1,q.2.1,vG c e f w xs _ _ _ q.2.2⟩) q
  |false=>
   rw[if_neg au] at q ⊢;exact⟨q.1,vG c e f w xs _ _ _ q.2⟩
theorem x0(hI:JI X target iter ti)(hg:∀d a M (P Q:kF->Ms->Prop),(∀a M,P a M->Q a M)->g d a M P->g d a M Q)(ht:∀a M (P Q:Bool->Ms->Prop),(∀d M,P d M->Q d M)->tt a M P->tt a M Q)(he:∀a M (P Q:DK),(∀d M,P d M->Q d M)->te a M P->te a M Q)
(Mw:∀d a M (P:kF->Ms->Prop),g d a M P->g d a M λlW M1=>lW.length=a.length/\P lW M1){σ:L2.St}{H:Hp}{Q:VK}(h:lF X.K (iY fr ti g tt te) σ H Q):zR fr (lI X ti) (lG X.K g) (lT X.K tt) (lE X.K te) σ H (λv=>TH X (Q v)):=by
 obtain⟨F,α,a,M,r,h⟩:=h;refine⟨F,α,a,M,r,hI.mono a _ _ _ (λitems st M1 q J G H0 H1 T e1 o1 z it p o=>?_) h⟩;obtain⟨s1,q⟩:=q;have I:p∉F:=λw=>(z.ok.fr p w).2 (by rw[o]);refine⟨λi m A i7 j=>m=items.length- i/\i<=items.length/\∃l B f acc,Ext F G H1 M1 l j f/\R X.K (p::F) l j i7 B f/\B.length=fr.length/\st f/\j p=aa (.lst A)/\gA X.K l (i0 (p::F) l f j) acc A/\
   jX fr g tt te st (λds f=>fK X.K F α H M Q (.lst ds) f) (items.drop i) acc B f,⟨_,rfl,bJ _,G,qf fr a,M1,[],Ext.refl.Dl o I,((z.rs (r.grow e1 o1)).slots fr).O1 o,by simp[qf],s1,gW,gA.nil,q⟩,?_⟩
 rintro i m A i7 j ⟨rfl,hi',l,B,f,acc,e',u,L,s',hy,O,C⟩
 have W0:jA (i0 F G M1 H1) (i0 (p::F) l f j):=λb x h=>by
  have hb:b≠p:=λw=>by have:=(iL h).2;rw[w,o] at this;cases this
  have h1:=iL (e'.same b x h);show jB _ j b=_;refine kT h (λw=>h1.1 ?_) h1.2
  ·simp only [bp,az] at w ⊢;rcases w with w|w|w
   ·exact .inl w
   ·exact absurd w hb
   ·exact .inr w
 by_cases U:i<items.length
 ·rw[cb U] at C;refine .inr ⟨it.go i (p::F) l j f e'.pre W0 u.ok s' U,λW1 Cb s=>∃Y Mv M2 O2,Ext F G H1 M1 Y s M2/\R X.K (p::F) Y s Cb Mv M2/\Mv.length=fr.length/\st M2/\s p=aa (.lst W1)/\gA X.K Y (i0 (p::F) Y M2 s) O2 W1/\
   jX fr g tt te st (λds f=>fK X.K F α H M Q (.lst ds) f) (items.drop (i+1)) O2 Mv M2,λW1 Cb s h=>⟨_,by omega,rfl,U,h⟩,λx s y=>?_⟩
  obtain⟨o2,e2,rx⟩:=it.Sl i (p::F) l j f x s items[i] e'.pre W0 u.ok s' (by simp[U]) y;unfold jX qI at C;refine⟨p::F,l,B,f,items[i],u.grow e2 o2,rx,hg _ _ _ _ _ (λHN M3 q3 NT zX H3 e3 r3=>?_) (Mw _ _ _ _ C)⟩;obtain⟨l3,q3⟩:=q3;refine⟨p::F,zX,HN,M3,r3,ht _ _ _ _ (λb M4 E sI H4 e4 o4=>?_) q3⟩;have O3:=(e2.trans e3).trans e4;have pm:p∈p::F:=aC;cases b with
  |false=>
   rw[if_neg au] at E;show(if am=ah then _ else _);rw[if_neg au];refine⟨sI,xI fr HN,M4,acc,Ext.skip z.ok o e' O3,(r3.grow e4 o4).xI (by rw[l3,L]),by simp[xI,l3,L],E.1,by rw[O3.fr p pm];exact hy,O3.zU O,E.2⟩
  |true=>
   rw[if_pos rfl] at E;show(if ah=ah then _ else _);rw[if_pos rfl];refine⟨p::F,sI,HN,M4,r3.grow e4 o4,he _ _ _ _ (λd M5 q5 v α5 H5 e5 o5 r5=>?_) E⟩;have W2:=O3.trans e5;have ry5:=W2.zU O;refine⟨by rw[W2.fr p pm];exact hy,by rw[<-gA.length _ _ O];exact q5.2.1,α5,xI fr HN,M5,acc++[d],(Ext.skip z.ok o e' W2).Dl o I,(((r3.grow e4 o4).grow e5 o5).xI (by rw[l3,L])).Dl,by simp[xI,l3,L],q5.1,gW,?_,q5.2.2⟩;rw[wT];exact gA.append _ _ _ _ ry5 (gA.one r5)
 ·have e:i=items.length:=by omega
  subst e;rw[dU] at C;refine .inl ⟨it.stop (p::F) l j f e'.pre W0 u.ok s',?_⟩;have eE:=e'.er o I;have oE:=u.ok.er I;obtain⟨t1,t2,t3⟩:=z.e l (L3.er p j) f eE oE;have hn:T (L3.er p j) p=ao:=z.n p _ o zm;have:=C p (.lst A) l (T (L3.er p j)) (e1.trans t1) t2 hn ⟨A,rfl,?_⟩
  ·rw[z.c p j _ o hy] at this;exact z.h l j f _ e' this
  ·refine gA.imp t3 _ _ ?_;rw[Ix u.ok];exact O
abbrev Fu(g:DG):Prop:=∀d a M (P:kF->Ms->Prop),g d a M P->g d a M λb M1=>b.length=a.length/\P b M1
abbrev Fv(g:K0):Prop:=∀d a M (P:kF->Ms->Prop),g d a M P->g d a M λb M1=>b.length=a.length/\P b M1
theorem ij{i:Nat}:Fu (gM i):=λd a M P q=>⟨by simp,q⟩
theorem vH:Fv j0:=λd a M P q=>⟨q.1,rfl,q.2⟩
theorem W4{n:Nat}{gs:K0}(a:Fv gs):Fu (j4 n gs):=λd b M P q=>by cases d<;>first|exact q.elim|exact⟨q.1,a _ _ _ _ q.2⟩
theorem iU(c:iu X N fr scope)(hi:JI X target iter ti)(i:Fu g)
(a:∀C ex pins gJ gH,JG (nK X scope N C ex pins gJ gH λ_ _=>False) target g)(b:∀C ex pins gJ gH,YS (nK X scope N C ex pins gJ gH λ_ _=>False) ifs tt)(e:∀C ex pins gJ gH,JE (nK X scope N C ex pins gJ gH λ_ _=>False) elt te)
(j:X.calm=ah:=by rfl)(m:∀x,cy iter X.env x=pure x:=by intro _;rfl):JF X (.ListComp elt [⟨target,iter,ifs,0⟩] scope pos) (iY fr ti g tt te):=by
 have mg:=(a 0 [] [] X.gJ X.gH).mono;have mt:=(b 0 [] [] X.gJ X.gH).mono;have f:=(e 0 [] [] X.gJ X.gH).mono;exact⟨λn M P Q w q=>hi.mono _ _ _ _ (λl s M1 q=>⟨q.1,vG mg mt f (λl M q=>w _ _ q) _ _ _ _ q.2⟩) q,
  OW (SW c j hi.p (λ_ _ _ _ _=>(a _ _ _ _ _).p) (λ_ _ _ _ _=>(b _ _ _ _ _).p) (λ_ _ _ _ _=>(e _ _ _ _ _).p) m) λσ H Q h=>x0 hi mg mt f i h⟩
theorem sZ(i:Nat){x:ay}{p a:c7}(s:X.N.Nodup)(c:iu X N fr scope)(hi:JI X target iter ti)(h:Fu g)
(b:∀C ex pins gJ gH,JG (nK X scope N C ex pins gJ gH λ_ _=>False) target g)(e:∀C ex pins gJ gH,YS (nK X scope N C ex pins gJ gH λ_ _=>False) ifs tt)(f:∀C ex pins gJ gH,JE (nK X scope N C ex pins gJ gH λ_ _=>False) elt te)
(u:X.N[i]?=aa x:=by rfl)(y:Loc X.env.scope x:=by first|exact eB rfl|exact dk rfl)
(z:cN (.ListComp elt [⟨target,iter,ifs,0⟩] scope pos) (aa (.Name x p)) a.line X.env=pure ah:=by rfl)(A:X.fn x=ah\/X.env.scope.names.lookup x=aa .local:=by first|exact .inl rfl|exact .inr rfl|assumption)
(j:X.calm=ah:=by rfl)(l:∀x,cy iter X.env x=pure x:=by intro _;rfl):
  JS X (.Assign [.Name x p] (.ListComp elt [⟨target,iter,ifs,0⟩] scope pos) a) (iD i (ie (iY fr ti g tt te))):=by
 have mg:=(b 0 [] [] X.gJ X.gH).mono;have mt:=(e 0 [] [] X.gJ X.gH).mono;have B:=(f 0 [] [] X.gJ X.gH).mono;have m:JF X (.ListComp elt [⟨target,iter,ifs,0⟩] scope pos) (iY fr ti g tt te):=iU c hi h b e f j l;have base:=KU (pos:=pos) (py:=p) (Fn:=a) (wi:=lI X ti) (g:=lG X.K g) (tt:=lT X.K tt) (te:=lE X.K te) c j hi.p (λ_ _ _ _ _=>(b _ _ _ _ _).p) (λ_ _ _ _ _=>(e _ _ _ _ _).p) (λ_ _ _ _ _=>(f _ _ _ _ _).p) s u y z A l;refine⟨λP Q n M w q=>?_,sX base λE σ H q=>x0 (Q:=λv=>E.nx _) hi mg mt B h ?_⟩
 ·unfold iD ie at q ⊢;refine m.mono _ _ _ _ ?_ q;exactλo M1 q=>w.nx _ _ q
 ·obtain⟨F,α,n,M,r,q⟩:=q;refine⟨F,α,n,M,r,?_⟩;unfold iD ie at q;refine m.mono _ _ _ _ ?_ q;exactλo M1 q=>fK.wF λv G I e1 o1 r1=>q _ G I e1 ((r.grow e1 o1).set r1)
theorem O4(i:Nat){x:ay}{p a:c7}(s:X.N.Nodup)(c:iu X N fr scope)(hi:JI X target iter ti)(h:Fu g)
(b:∀C ex pins gJ gH,JG (nK X scope N C ex pins gJ gH λ_ _=>False) target g)(e:∀C ex pins gJ gH,YS (nK X scope N C ex pins gJ gH λ_ _=>False) ifs tt)(f:∀C ex pins gJ gH,JE (nK X scope N C ex pins gJ gH λ_ _=>False) elt te)
(u:X.N[i]?=aa x:=by rfl)(y:Loc X.env.scope x:=by first|exact eB rfl|exact dk rfl)
(z:cN (.ListComp elt [⟨target,iter,ifs,0⟩] scope pos) (aa (.Name x p)) a.line X.env=pure ah:=by rfl)(A:X.fn x=ah\/X.env.scope.names.lookup x=aa .local:=by first|exact .inl rfl|exact .inr rfl|assumption)
(j:X.calm=ah:=by rfl)(l:∀x,cy iter X.env x=pure x:=by intro _;rfl):
  JS X (.Assign [.Name x p] (.ListComp elt [⟨target,iter,ifs,0⟩] scope pos) a) (iD i (xW (iY fr ti g tt te))):=by
 have mg:=(b 0 [] [] X.gJ X.gH).mono;have mt:=(e 0 [] [] X.gJ X.gH).mono;have B:=(f 0 [] [] X.gJ X.gH).mono;have m:JF X (.ListComp elt [⟨target,iter,ifs,0⟩] scope pos) (iY fr ti g tt te):=iU c hi h b e f j l;have base:=KU (pos:=pos) (py:=p) (Fn:=a) (wi:=lI X ti) (g:=lG X.K g) (tt:=lT X.K tt) (te:=lE X.K te) c j hi.p (λ_ _ _ _ _=>(b _ _ _ _ _).p) (λ_ _ _ _ _=>(e _ _ _ _ _).p) (λ_ _ _ _ _=>(f _ _ _ _ _).p) s u y z A l;refine⟨λP Q n M w q=>?_,sX base λE σ H q=>x0 (Q:=λv=>E.nx _) hi mg mt B h ?_⟩
 ·unfold iD xW at q ⊢;refine m.mono _ _ _ _ ?_ q;exactλo M1 q=>w.nx _ _ q
 ·obtain⟨F,α,n,M,r,q⟩:=q;refine⟨F,α,n,M,r,?_⟩;unfold iD xW at q;refine m.mono _ _ _ _ ?_ q;exactλo M1 q=>fK.own λv G I e1 o1 r1=>q _ G I e1 ((r.grow e1 o1).set r1)
end
end L3
namespace L3
open PySem PySem.Spec PyProof.Rows L2
noncomputable def gI(C:Int->Int->Prop)(f:Int->Int->D):G2:=λx y M Q=>match x,y with|.int i,.int j=>C i j/\Q (f i j) M|_,_=>False
theorem K4{C:Int->Int->Prop}{f:Int->Int->D}:yJ (gI C f):=by
 intro x y M P Q w q;unfold gI at*;split at q
 ·exact⟨q.1,w _ _ q.2⟩
 ·exact q.elim
noncomputable def K5(f:Int->Int->D):G2:=λx y M Q=>match x,y with|.int i,.int j=>Q (f i j) M|_,_=>False
theorem Fw{f:Int->Int->D}:yJ (K5 f):=by
 intro x y M P Q w q;unfold K5 at*;split at q
 ·exact w _ _ q
 ·exact q.elim
section
variable {X:Cx}
theorem Vv{K:W.Frag}{f:Int->Int->D}{x y:V}{H:Hp}{Q:VK}(h:rD K (K5 f) x y H Q):∃F α M i j,OK K F α H M/\x=.int i/\y=.int j/\vK K F α H M Q (f i j) M:=by
 obtain⟨F,α,M,c,e,o,a,b,h⟩:=h;unfold K5 at h;split at h<;>first|exact h.elim|skip
 unfold Rep at a b;exact⟨F,α,M,_,_,o,a,b,h⟩
theorem Z6{K:W.Frag}{C:Int->Int->Prop}{f:Int->Int->D}{x y:V}{H:Hp}{Q:VK}(h:rD K (gI C f) x y H Q):∃F α M i j,OK K F α H M/\x=.int i/\y=.int j/\C i j/\vK K F α H M Q (f i j) M:=by
 obtain⟨F,α,M,c,e,o,a,b,h⟩:=h;unfold gI at h;split at h<;>first|exact h.elim|skip
 unfold Rep at a b;exact⟨F,α,M,_,_,o,a,b,h⟩
theorem Dm:JO X .Sub (K5 λi j=>.int (i- j)):=⟨Fw,λpins s σ H x y v u Q I a b h=>by obtain⟨F,α,M,i,j,o,c,e,h⟩:=Vv h;exact Wr pins s σ H x y v u Q I a b ⟨_,_,c,e,vK.now o h i6⟩⟩
theorem jg:JO X .FloorDiv (gI i9 λi j=>.int (i/j)):=⟨K4,λpins s σ H x y v u Q I a b h=>by obtain⟨F,α,M,i,j,o,c,e,h,f⟩:=Z6 h;exact Sm pins s σ H x y v u Q I a b ⟨_,_,c,e,h,vK.now o f i6⟩⟩
theorem i5:JO X .Mod (gI (λ_ j=>0<j) λi j=>.int (i%j)):=⟨K4,λpins s σ H x y v u Q I a b h=>by obtain⟨F,α,M,i,j,o,c,e,h,f⟩:=Z6 h;exact Wt pins s σ H x y v u Q I a b ⟨_,_,c,e,h,vK.now o f i6⟩⟩
theorem O5:JC X .Gt (K5 λi j=>.bl (decide (j<i))):=⟨Fw,λpins s σ H x y v u Q I a b h=>by obtain⟨F,α,M,i,j,o,c,e,h⟩:=Vv h;exact Zv pins s σ H x y v u Q I a b ⟨_,_,c,e,vK.now o h ja⟩⟩
noncomputable def W5:G2:=λx y M Q=>match x,y with|.int i,.int j=>Q (.bl (decide (i<j))) M|.str i,.str j=>Q (.bl (decide (i.cps.toList<j.cps.toList))) M|_,_=>False
noncomputable def wC:G2:=λx y M Q=>match x,y with|.int i,.int j=>Q (.bl (decide (i<=j))) M|.str i,.str j=>Q (.bl (!decide (j.cps.toList<i.cps.toList))) M|_,_=>False
theorem Z7:JC X .Lt W5:=by
 refine⟨λx y M P Q w q=>?_,λpins s σ H x y v u Q I c e h=>?_⟩
 ·unfold W5 at*;split at q<;>first|exact q.elim|exact w _ _ q
 ·obtain⟨F,α,M,f,g,o,a,b,h⟩:=h;unfold W5 at h;split at h<;>first|exact h.elim|skip
  ·unfold Rep at a b;exact Zt pins s σ H x y v u Q I c e ⟨_,_,a,b,vK.now o h ja⟩
  ·unfold Rep at a b;exact Mf pins s σ H x y v u Q I c e ⟨_,_,a,b,vK.now o h ja⟩
theorem k7:JC X .LtE wC:=by
 refine⟨λx y M P Q w q=>?_,λpins s σ H x y v u Q I c e h=>?_⟩
 ·unfold wC at*;split at q<;>first|exact q.elim|exact w _ _ q
 ·obtain⟨F,α,M,f,g,o,a,b,h⟩:=h;unfold wC at h;split at h<;>first|exact h.elim|skip
  ·unfold Rep at a b;exact Zu pins s σ H x y v u Q I c e ⟨_,_,a,b,vK.now o h ja⟩
  ·unfold Rep at a b;exact Mu pins s σ H x y v u Q I c e ⟨_,_,a,b,vK.now o h ja⟩
noncomputable def isN:D->Bool
 |.non=>ah
 |_=>am
theorem S7{K:W.Frag}{α:List aj}{H:Hp}{d:D}{v:V}(h:Rep K α H d v):decide (v=.non)=isN d:=by
 cases d<;>unfold Rep at h;case non=>subst h;rfl
 case tup=>obtain⟨_,_,rfl,_⟩:=h;rfl
 case lst=>obtain⟨_,_,rfl,_⟩:=h;rfl
 case lV=>obtain⟨_,_,rfl,_⟩:=h;rfl
 case ins=>obtain⟨_,_,_,rfl,_⟩:=h;rfl
 case exc=>obtain⟨_,_,rfl,_⟩:=h;rfl
 case qc=>obtain⟨_,rfl,_⟩:=h;rfl
 case loc=>obtain⟨_,_,rfl⟩:=h;rfl
 all_goals subst h;rfl
noncomputable def Vw:G2:=λx y M Q=>match y with|.non=>Q (.bl (isN x)) M|_=>False
theorem O6:JC X .Is Vw:=by
 refine⟨λx y M P Q w q=>?_,λpins s σ H x y v u Q I b c h=>?_⟩
 ·cases y<;>first|exact q.elim|exact w _ _ q
 ·obtain⟨F,α,M,g,e,o,f,a,h⟩:=h;cases e<;>first|exact h.elim|skip
  unfold Rep at a;exact Wv pins s σ H x y v u Q I b c ⟨a,by rw[S7 f];exact vK.now o h ja⟩
noncomputable def iQ:G2:=λx y M Q=>match vw M x,vw M y with
 |.int i,.int j=>Q (.int (i+j)) M
 |.str i,.str j=>i.length+j.length<=aE/\Q (.str (i++j)) M
 |.lst xs,.lst a=>xs.length+a.length<=aE/\Q (.lst (xs++a)) M
 |.tup xs,.tup a=>xs≠[]/\xs.length+a.length<=aE/\Q (.tup (xs++a)) M
 |_,_=>False
theorem jc:JO X .Add iQ:=by
 refine⟨λx y M P Q w q=>?_,λpins s σ H x y v u Q I l m h=>?_⟩
 ·unfold iQ at q ⊢;generalize vw M x=a at q ⊢;generalize vw M y=b at q ⊢;split at q<;>first|exact q.elim|exact w _ _ q|exact⟨q.1,w _ _ q.2⟩|exact⟨q.1,q.2.1,w _ _ q.2.2⟩
 ·obtain⟨F,α,M,A,B,o,c,f,h⟩:=h;unfold iQ at h;generalize e1:vw M A=a at h;generalize e2:vw M B=b at h;split at h<;>first|exact h.elim|skip
  ·cases vF e1;cases vF e2;unfold Rep at c f;exact Wq pins s σ H x y v u Q I l m ⟨_,_,c,f,vK.now o h i6⟩
  ·cases lY e1;cases lY e2;unfold Rep at c f;exact HW pins s σ H x y v u Q I l m ⟨_,_,c,f,h.1,vK.now o h.2 pL⟩
  ·obtain⟨a,n,rfl,r,g⟩:=j6 o c e1;obtain⟨b,us,rfl,z,i⟩:=j6 o f e2;have l1:=gA.length _ _ g;have l2:=gA.length _ _ i;exact WN pins s σ H _ _ v u Q I l m ⟨a,b,n,us,rfl,rfl,r,z,by rw[<-l1,<-l2];exact h.1,λp j=>vK.new o j h.2 (nj o j (gA.append _ _ _ _ g i))⟩
  ·obtain⟨a,n,rfl,r,g⟩:=mI o c e1;obtain⟨b,us,rfl,z,i⟩:=mI o f e2;have l1:=gA.length _ _ g;have l2:=gA.length _ _ i;refine SE pins s σ H _ _ v u Q I l m ⟨a,b,n,us,rfl,rfl,r,z,?_,by rw[<-l1,<-l2];exact h.2.1,λe=>?_,λ_ p j=>vK.new o j h.2.2 (kH o j (gA.append _ _ _ _ g i))⟩
   ·intro e;subst e;exact h.1 (List.length_eq_zero_iff.mp l1)
   ·subst e;have:=List.length_eq_zero_iff.mp l2;subst this;refine vK.now o h.2.2 ?_;rw[br];rw[Iw e1] at c;exact c
noncomputable def W6:D->Option Key
 |.int i=>aa (.inl i)
 |.str x=>aa (.inr x)
 |_=>ao
noncomputable def BE(k:Key):List Key->List D->Option D
 |k'::a,d::ds=>if k'=k then aa d else BE k a ds
 |_,_=>ao
theorem zZ{K:W.Frag}{α:List aj}{H:Hp}{d:D}{v:V}{k:Key}(h:Rep K α H d v)(e:W6 d=aa k):v=kV k:=by
 cases d<;>cases e
 ·unfold Rep at h;exact h
 ·unfold Rep at h;exact h
theorem z0{K:W.Frag}{α:List aj}{H:Hp}{k:Key}:∀(a:List Key) (ds:List D) (b:List V),gA K α H ds b->a.length=ds.length->
  (∀d,BE k a ds=aa d->∃v,vA (a.zip b) k=aa v/\Rep K α H d v)/\(BE k a ds=ao->vA (a.zip b) k=ao)
 |[],ds,b,h,l=>⟨λd e=>by simp[BE] at e,λ_=>rfl⟩
 |k'::a,[],b,h,l=>by simp at l
 |k'::a,d::ds,b,h,l=>by
  unfold gA at h;obtain⟨v,r,rfl,z,y⟩:=h;have c:=z0 (k:=k) a ds r y (by simpa using l);rw[cJ];by_cases e:k'=k
  ·rw[zK (p:=(k',v)) e];unfold BE;rw[if_pos e];exact⟨λf e'=>⟨v,rfl,by cases e';exact z⟩,λe'=>by cases e'⟩
  ·rw[zL (p:=(k',v)) e];unfold BE;rw[if_neg e];exact c
theorem S8(c:X.A.units+1<adb):WE X (λx y H Q=>∃a v,x=.ref a/\wL H a y (aa v)/\Q v H):=by
 intro value slice pins s σ H x y v u Q I e f h i;obtain⟨a,z,rfl,g,q⟩:=h;cases e;unfold ady;refine ag ?_;rw[aej (yG I g).not_modules];refine ag (adS (yG I g) PySem.F.slot_dict_getitem.lookup ?_);have b:wpAny (model X.prog X.w) X.A (subscripted slice am (.ref a) u) (λr j=>wpAny (model X.prog X.w) X.A (afb value (.ref a) r >>= λ_=>pure r) (EP X pins σ Q) X.xe j) X.xe s:=by rw[i];exact ae3 (Ml c I g f λn s3 l m=>ag (aeq (aq ⟨z,H,l,m,q⟩)))
 first
  |exact aq (ag b)
  |exact ag (aq (ag b))
  |exact ag b
noncomputable def km:G2:=λx y M Q=>match vw M x,y with
 |.lst xs,.int i=>∃d,vC xs i=aa d/\Q d M
 |.tup xs,.int i=>∃d,vC xs i=aa d/\Q d M
 |.qc xs,.int i=>∃d,vC xs i=aa d/\Q (.int d) M
 |.str z,.int i=>z.length<=aE/\∃c,vC z.cps.toList i=aa c/\Q (.str ⟨#[c]⟩) M
 |.lV a ds,y=>∃k d,W6 y=aa k/\BE k a ds=aa d/\Q d M
 |_,_=>False
theorem jx(G:X.A.units+1<adb):JX X km:=by
 refine⟨λx y M P Q w q=>?_,λvalue slice pins s σ H x y v u Q I m n h p=>?_⟩
 ·unfold km at q ⊢;generalize vw M x=a at q ⊢;split at q<;>first
   |exact q.elim
   | (obtain⟨k,d,f,B,g⟩:=q;exact⟨k,d,f,B,w _ _ g⟩)
   | (obtain⟨d,f,g⟩:=q;exact⟨d,f,w _ _ g⟩)
   | (obtain⟨J,d,f,g⟩:=q;exact⟨J,d,f,w _ _ g⟩)
 ·obtain⟨F,α,M,L,db,o,i,b,h⟩:=h;unfold km at h;generalize e1:vw M L=a at h;split at h<;>first|exact h.elim|skip
  ·obtain⟨a,r,rfl,l,z⟩:=j6 o i e1;unfold Rep at b;obtain⟨d,e,h⟩:=h;obtain⟨w,C,E⟩:=z.at e;exact KN value slice pins s σ H _ y v u Q I m n ⟨a,r,_,w,rfl,b,pH.of l,C,vK.now o h E⟩ p
  ·obtain⟨a,r,rfl,l,z⟩:=mI o i e1;unfold Rep at b;obtain⟨d,e,h⟩:=h;obtain⟨w,C,E⟩:=z.at e;exact WG value slice pins s σ H _ y v u Q I m n ⟨a,r,_,w,rfl,b,l,C,vK.now o h E⟩ p
  ·cases sY e1;unfold Rep at i b;obtain⟨a,rfl,l⟩:=i;obtain⟨d,e,h⟩:=h;refine KN value slice pins s σ H _ y v u Q I m n ⟨a,_,_,.int d,rfl,b,kj hV l,?_,vK.now o h i6⟩ p;unfold vC at e ⊢;rw[ap];cases q:E4 _ _ with
   |none=>rw[q] at e;cases e
   |some j=>
    rw[q] at e;show(fZ V.int _)[j]?=_;have e':(_:List Int)[j]?=aa d:=e;rw[bA,e'];rfl
  ·cases lY e1;unfold Rep at i b;obtain⟨N,c,e,h⟩:=h;exact WH value slice pins s σ H x y v u Q I m n ⟨_,_,c,i,b,N,e,vK.now o h pL⟩ p
  ·obtain⟨k,d,f,B,g⟩:=h;obtain⟨a,r,rfl,l,O,z⟩:=xZ o i e1;obtain⟨T,U,Y⟩:=(z0 _ _ r z O).1 d B;cases zZ b f;exact S8 G value slice pins s σ H _ _ v u Q I m n ⟨a,T,rfl,by rw[<-U];exact wL.kr l,vK.now o g Y⟩ p
noncomputable def cutD{β:Type}(xs:List β)(lo hi:Option Int):List β:=(xs.drop (HT.lH xs.length 0 lo)).take (HT.lH xs.length xs.length hi- HT.lH xs.length 0 lo)
theorem gA.cut{K:W.Frag}{α:List aj}{H:Hp}{ds:List D}{a:List V}(h:gA K α H ds a)(lo hi:Option Int):gA K α H (cutD ds lo hi) (Fi a lo hi):=by unfold cutD Fi;rw[gA.length _ _ h];exact gA.take _ _ _ (gA.drop _ _ _ h)
end
end L3
namespace PySem
open Sem (wp)
open Builtin
section
variable {prog:aJ} {w:bj} {A:ba} {E:af->ai->Prop} {s:ai}
theorem tm{it t:aj}{i:Nat}{items}{x:af}{Q:af->ai->Prop}(b:s.heap.IsTupleIter it t i)
(e:s.heap.IsTuple t items)(f:items[i]?=aa x)
(g:∀c,c.IsTupleIter it t (i+1)->b7 it s.heap c->Q x {s with heap:=c}):
  wpAny (model prog w) A (b6 (.ref it)) Q E s:=by
 obtain⟨o,a,h,hd⟩:=id b;obtain⟨l,j,_,nl,Iy⟩:=e;unfold b6;refine ag (cQ (name:=cS "__next__") b.typeIs dY
  (dw dY b.typeIs F.entry_tuple_iterator_next ?_ (F.args_tuple_iterator_next_1 _)))
 show wpAny _ _ (field (.ref it) 0 >>= _) _ _ s;refine ag (bV a hd (x:=.ref t) rfl ?_);show wpAny _ _ (if(aN t==bC)=ah then _ else _) _ _ s;rw[if_neg (show¬((aN t==bC)=ah) from au)];show wpAny _ _ (field (.ref it) 1 >>= _) _ _ s;refine ag (bV a hd (x:=.int i 0) rfl ?_);show wpAny _ _ (aeY (.ref t) >>= _) _ _ s;refine ag (dz j Iy ?_);simp only [Int.toNat_natCast,f];refine ag (cL a hd (by simp) (aq ⟨x,rfl,aq (g _ ?_ (b7.update ..))⟩));exact⟨_,bY _ a (ci (bQ hd _)),(bS.cls_mapFields ..).trans h,by
  rw[bQ hd];simp[de]⟩
theorem uT{it l:aj}{i:Nat}{items}{Q:af->ai->Prop}(g:A.handled=ao)
(b:s.heap.IsTupleIter it l i)(h:s.heap.IsTuple l items)(j:items[i]?=ao)
(n:∀c e,ar.ExtBut it s.heap c->(∃o,c.get? e=aa o/\o.cls=.type "StopIteration")->E (.ref e) {s with heap:=c}):
  wpAny (model prog w) A (b6 (.ref it)) Q E s:=by
 obtain⟨o,f,q,hd⟩:=id b;obtain⟨r,p,_,nl,Iy⟩:=h;unfold b6;refine ag (cQ (name:=cS "__next__") b.typeIs dY
  (dw dY b.typeIs F.entry_tuple_iterator_next ?_ (F.args_tuple_iterator_next_1 _)))
 show wpAny _ _ (field (.ref it) 0 >>= _) _ _ s;refine ag (bV f hd (x:=.ref l) rfl ?_);show wpAny _ _ (if(aN l==bC)=ah then _ else _) _ _ s;rw[if_neg (show¬((aN l==bC)=ah) from au)];show wpAny _ _ (field (.ref it) 1 >>= _) _ _ s;refine ag (bV f hd (x:=.int i 0) rfl ?_);show wpAny _ _ (aeY (.ref l) >>= _) _ _ s;refine ag (dz p Iy ?_);simp only [Int.toNat_natCast,j];refine ag (adB (ag (cL f hd (by simp) ?_)));show wpAny _ _ (newExc (.type "StopIteration") [] >>= _) _ _ _;refine ag ?_;simp only [newExc,newTuple];refine ag (cm ?_ (by size_fits));refine ag (m:=afc _ _) (wpAny_of_eq (a:=bC) (by first|rfl|(simp only [afc];rfl)) ?_);refine cm ?_ (by size_fits);simp only [raiseNew];refine ag (wpAny_handled ?_);first|rw[show A.in1.handled=ao from g]|rw[g]
 refine ag (aq (wpAny_throw ?_));exact n _ _ (((b7.update ..).extBut.push _).push _) ⟨_,aQ _ rfl,rfl⟩
end
theorem z6{prog:aJ}{w:bj}{A:ba}(f:A.handled=ao)(it l:aj)(g:l≠it)(items:Array af):
  gc prog w A it [it,l] items.size (λi v=>items[i]?=aa v) (λi h=>h.IsTupleIter it l i/\h.IsTuple l items) where
 live:=λ_ _ st=>let⟨o,a,_⟩:=st.1;⟨o,a⟩
 frame:=λ_ _ _ st c=>⟨let⟨o,a,r⟩:=st.1;⟨o,c it (by simp) o a,r⟩,let⟨o,a,r⟩:=st.2;⟨o,c l (by simp) o a,r⟩⟩
 item:=λi s Q E hi st j=>by refine tm st.1 st.2 (x:=items[i]) (by simp[hi]) λm b e=>?_;exact j _ m s.toks (by simp[hi]) ⟨b,st.2.extBut e.extBut g⟩ e
 done:=λs Q E st n=>uT f st.1 st.2 (by simp) n
theorem nW{prog:aJ}{w:bj}{A:ba}{it:aj}{a:List aj}{n:Nat}{P P':Nat->af->Prop}{St:Nat->ar->Prop}(D:gc prog w A it a n P St)(h:∀i v,P i v->P' i v):gc prog w A it a n P' St where
 live:=D.live
 frame:=D.frame
 item:=λi s Q E hi st b=>D.item i s Q E hi st λx c tk p=>b x c tk (h _ _ p)
 done:=D.done
theorem y9(l:aj)(items:Array af):
  Meets (bt.«enumerate.__new__» ⟨[.type "enumerate",.ref l],[]⟩) (λ_ R s=>s.heap.IsTuple l items/\
   R (.ok (.ret (.ref (s.heap.push {cls:=.type "tuple_iterator",data:=.fields #[.ref l,.int 0 0]}).objs.size)))
    {s with heap:=(s.heap.push {cls:=.type "tuple_iterator",data:=.fields #[.ref l,.int 0 0]}).push {cls:=.type "enumerate",data:=.fields #[.none,.bool am,.ref s.heap.objs.size,de 0,.none,.none]}}):=
 .of_wp λprog w A R s h=>by
  obtain⟨i,g,d,tk,os⟩:=s;obtain⟨f,h⟩:=h;have m:=sub_enumerate;have b:ar.IsTuple (ai.heap ⟨i,g,d,tk,os⟩) l items:=f;obtain⟨⟨c,lV,j,sl⟩,a,e,n,hd⟩:=f;replace e:c=.type "tuple":=e;replace hd:j=.seq items n:=hd;subst e hd
  wp_walk using dW a
  refine wpAny_stack_any λst=>aq ?_;split
  ·rename_i c _ _ _ _ _;cases(c==fi "enumerate")
   ·wp_walk using dW a,dM b
    exact⟨_,rfl,h⟩
   ·wp_walk using dW a,dM b
    exact⟨_,rfl,h⟩
  ·wp_walk using dW a,dM b
   exact⟨_,rfl,h⟩
section
variable {prog:aJ} {w:bj} {A:ba} {E:af->ai->Prop} {s:ai}
theorem z7{l:aj}{items:Array af}{Q:af->ai->Prop}(f:s.heap.IsTuple l items)
(h:∀a,afd a (s.heap.objs.size+1) s.heap.objs.size 0 .none->a.IsTupleIter s.heap.objs.size l 0->a.objs.size=s.heap.objs.size+2->
   (∀b o,s.heap.get? b=aa o->a.get? b=aa o)->Q (.ref (s.heap.objs.size+1)) {s with heap:=a}):
  wpAny (model prog w) A (call (.type "enumerate") [.ref l]) Q E s:=by
 refine callType_new F.called_enumerate (by decide) (F.typeCall_enumerate_1 _) (F.newCall_enumerate_1 _) (λobj=>F.args_object_init_2 obj _) F.entry_enumerate_new
  (y9 l items) ⟨f,?_⟩
 have c:(s.heap.push {cls:=.type "tuple_iterator",data:=.fields #[.ref l,.int 0 0]}).objs.size=s.heap.objs.size+1:=bG ..;show _/\_;rw[c];have e:afd ((s.heap.push {cls:=.type "tuple_iterator",data:=.fields #[.ref l,.int 0 0]}).push
   {cls:=.type "enumerate",data:=.fields #[.none,.bool am,.ref s.heap.objs.size,de 0,.none,.none]}) (s.heap.objs.size+1) s.heap.objs.size 0 .none:=by
  have:=aQ (s.heap.push {cls:=.type "tuple_iterator",data:=.fields #[.ref l,.int 0 0]})
   (o:={cls:=.type "enumerate",data:=.fields #[.none,.bool am,.ref s.heap.objs.size,de 0,.none,.none]}) rfl
  rw[c] at this;exact this
 refine⟨⟨_,e,rfl⟩,h _ e ⟨_,ak _ (aQ _ rfl),rfl,rfl⟩ (by rw[bG,c]) λb o x=>ak _ (ak _ x)⟩
end
end PySem
namespace PySem
open Sem (wp)
open Builtin
structure Cs(z TI TO i1 i2:aj)(Mx Fx:List aj):Prop where
 TIz:TI≠z
 TOz:TO≠z
 TITO:TI≠TO
 TIi1:TI≠i1
 TIi2:TI≠i2
 i1m:i1∈Mx
 i2m:i2∈Fx
 YT:z∉Mx
 Z9:z∉Fx
 of1:TO∉Mx
 of2:TO∉Fx
 aab:i1∉Fx
 acm:i2∉Mx
section
variable {prog:aJ} {w:bj} {A:ba} {E:af->ai->Prop} {s:ai} {z TI TO i1 i2:aj} {Mx Fx:List aj} {n1 n2:Nat} {P1 P2:Nat->af->Prop} {S1 S2:Nat->ar->Prop}
theorem kW{it:aj}{a:List aj}{n:Nat}{P:Nat->af->Prop}{St:Nat->ar->Prop}{i:Nat}{h f:ar}{c:aj}(D:gc prog w A it a n P St)(st:St i h)(g:b7 c h f)(j:c∉a):St i f:=
 D.frame _ _ _ st λb l o e=>g.extBut b o (λq=>j (by rw[<-q];exact l)) e
theorem x4{i:Nat}{a b:af}{Q:af->ai->Prop}(Z:Cs z TI TO i1 i2 Mx Fx)(p:gc prog w A i1 Mx n1 P1 S1)(r:gc prog w A i2 Fx n2 P2 S2)
(C:gf s.heap z TI TO .none)(Ta:dA s.heap TI (.ref i1) (.ref i2))(My:dA s.heap TO a b)(h1:S1 i s.heap)(h2:S2 i s.heap)(l1:i<n1)(l2:i<n2)
(hQ:∀x y g tk,P1 i x->P2 i y->gf g z TI TO (de s.heap.objs.size)->dA g TO x y->S1 (i+1) g->S2 (i+1) g->dA g s.heap.objs.size x y->g.objs.size=s.heap.objs.size+1->
   (∀c o,c≠z->c≠TO->c≠i1->c≠i2->s.heap.get? c=aa o->g.get? c=aa o)->Q (.ref s.heap.objs.size) {s with heap:=g,toks:=tk}):
  wpAny (model prog w) A (bt.«zip.__next__» ⟨[.ref z],[]⟩) (λke s'=>∃v,ke=.done (.ret v)/\Q v s') E s:=by
 have i1z:i1≠z:=λq=>Z.YT (by rw[<-q];exact Z.i1m);have i2z:i2≠z:=λq=>Z.Z9 (by rw[<-q];exact Z.i2m);have W8:TO≠i1:=λq=>Z.of1 (by rw[q];exact Z.i1m);have aac:TO≠i2:=λq=>Z.of2 (by rw[q];exact Z.i2m);show wpAny _ _ (field (.ref z) 2 >>= _) _ _ _;refine ag (bV C rfl (x:=.bool am) rfl ?_);show wpAny _ _ (field (.ref z) 3 >>= _) _ _ _;refine ag (bV C rfl (x:=.ref TI) rfl ?_);refine ag (dz Ta rfl ?_);show wpAny _ _ (cI (.ref z) >>= _) _ _ _;refine ag ?_;unfold cI;refine ag (bV C rfl (x:=.none) rfl (aq ?_));simp only [if_true];refine ag (adB ?_);refine ag (bV C rfl (x:=.ref TO) rfl ?_);refine ag (dN C (by simp) λjC yM G=>?_);replace yM:gf jC z TI TO .ellipsis:=yM;refine ag ?_;simp only [List.zipIdx_cons,List.zipIdx_nil,List.forIn_cons,List.forIn_nil];refine ag (ag (adz ?_));show wpAny _ _ (b6 (.ref i1) >>= _) _ _ _;refine ag (p.item i {s with heap:=jC} _ _ l1 (kW p h1 G Z.YT) λx H Tc p1 Vx h=>aq ?_);replace h:b7 i1 jC H:=h;have z8:dA H TO a b:=h.extBut _ _ W8 (G.extBut _ _ Z.TOz My);refine ag (dz (s:={s with heap:=H,toks:=Tc}) z8 rfl ?_);refine ag (adp (s:={s with heap:=H,toks:=Tc}) z8 λO Dn j=>?_);replace Dn:dA O TO x b:=Dn;replace j:b7 TO H O:=j;refine ag (aer (aq ?_));refine ag (ag (adz ?_));show wpAny _ _ (b6 (.ref i2) >>= _) _ _ _;refine ag (r.item i {s with heap:=O,toks:=Tc} _ _ l2 (kW r (kW r (kW r h2 G Z.Z9) h Z.aab) j Z.of2) λy I u p2 aad l=>aq ?_);replace l:b7 i2 O I:=l;have O7:dA I TO x b:=l.extBut _ _ aac Dn;refine ag (dz (s:={s with heap:=I,toks:=u}) O7 rfl ?_);refine ag (adp (s:={s with heap:=I,toks:=u}) O7 λf T m=>?_);replace T:dA f TO x y:=T;replace m:b7 TO I f:=m;refine ag (aer (aq (aq ?_)));refine ag (dz (s:={s with heap:=f,toks:=u}) T rfl ?_);refine ag (wpAny_newTuple ?_);have Fe:f.objs.size=s.heap.objs.size:=by rw[m.1,l.1,j.1,h.1,G.1]
 have Vy:gf f z TI TO .ellipsis:=m.extBut _ _ Z.TOz.symm (l.extBut _ _ i2z.symm (j.extBut _ _ Z.TOz.symm (h.extBut _ _ i1z.symm yM)));have aae:∀c o,c≠z->c≠TO->c≠i1->c≠i2->s.heap.get? c=aa o->f.get? c=aa o:=λc o n U c3 c4 e=>
  m.extBut _ _ U (l.extBut _ _ c4 (j.extBut _ _ U (h.extBut _ _ c3 (G.extBut _ _ n e))))
 have aaf:S1 (i+1) f:=kW p (kW p (kW p Vx j Z.of1) l Z.acm) m Z.of1;have aag:S2 (i+1) f:=kW r aad m Z.of2;have J:z<f.objs.size:=aD Vy;show wpAny _ _ (fu (.ref z) (.ref f.objs.size) >>= _) _ _ _;refine ag ?_;unfold fu;have aai:gf (f.push {cls:=.type "tuple",data:=.seq #[x,y]}) z TI TO .ellipsis:=ak _ Vy;refine ag (dN (s:={s with heap:=f.push {cls:=.type "tuple",data:=.seq #[x,y]},toks:=u}) aai (by simp) λY O8 L=>?_);replace O8:gf Y z TI TO (de f.objs.size):=O8;replace L:b7 z (f.push {cls:=.type "tuple",data:=.seq #[x,y]}) Y:=L;refine dN (s:={s with heap:=Y,toks:=u}) O8 (by simp) λB K6 M=>?_;replace K6:gf B z TI TO (de f.objs.size):=K6;replace M:b7 z Y B:=M;have up:∀c o,c≠z->f.get? c=aa o->B.get? c=aa o:=λc o n e=>M.extBut _ _ n (L.extBut _ _ n (ak _ e));have Vz:dA B f.objs.size x y:=M.extBut _ _ (c9 J) (L.extBut _ _ (c9 J) (aQ _ rfl));have N:B.objs.size=f.objs.size+1:=by rw[M.1,L.1,bG]
 rw[Fe] at K6 Vz N;refine aq ⟨_,rfl,?_⟩;show Q (.ref f.objs.size) _;rw[Fe];exact hQ x y B u p1 p2 K6 (up _ _ Z.TOz T) (p.frame _ _ _ aaf λc hc o e=>up c o (λq=>Z.YT (by rw[<-q];exact hc)) e) (r.frame _ _ _ aag λc hc o e=>up c o (λq=>Z.Z9 (by rw[<-q];exact hc)) e) Vz N
  λc o n U c3 c4 e=>up c o n (aae c o n U c3 c4 e)
theorem zc{i:Nat}{a b:af}{Q:Fin->ai->Prop}(Z:Cs z TI TO i1 i2 Mx Fx)(C:gc prog w A i1 Mx n1 P1 S1)(G:gc prog w A i2 Fx n2 P2 S2)
(p:gf s.heap z TI TO .none)(Ta:dA s.heap TI (.ref i1) (.ref i2))(My:dA s.heap TO a b)(U:S1 i s.heap)(h2:S2 i s.heap)(O9:i=n1\/(i<n1/\i=n2))
(Y:∀J e tk,(∀c o,c≠z->c≠TO->c≠i1->c≠i2->s.heap.get? c=aa o->J.get? c=aa o)->(∃o,J.get? e=aa o/\o.cls=.type "StopIteration")->E (.ref e) {s with heap:=J,toks:=tk}):
  wpAny (model prog w) A (bt.«zip.__next__» ⟨[.ref z],[]⟩) Q E s:=by
 have r:i1≠z:=λq=>Z.YT (by rw[<-q];exact Z.i1m);have L:i2≠z:=λq=>Z.Z9 (by rw[<-q];exact Z.i2m);have W8:TO≠i1:=λq=>Z.of1 (by rw[q];exact Z.i1m);have aac:TO≠i2:=λq=>Z.of2 (by rw[q];exact Z.i2m);show wpAny _ _ (field (.ref z) 2 >>= _) _ _ _;refine ag (bV p rfl (x:=.bool am) rfl ?_);show wpAny _ _ (field (.ref z) 3 >>= _) _ _ _;refine ag (bV p rfl (x:=.ref TI) rfl ?_);refine ag (dz Ta rfl ?_);show wpAny _ _ (cI (.ref z) >>= _) _ _ _;refine ag ?_;unfold cI;refine ag (bV p rfl (x:=.none) rfl (aq ?_));simp only [if_true];refine ag (adB ?_);refine ag (bV p rfl (x:=.ref TO) rfl ?_);refine ag (dN p (by simp) λu H n=>?_);replace H:gf u z TI TO .ellipsis:=H;refine ag ?_;simp only [List.zipIdx_cons,List.zipIdx_nil,List.forIn_cons,List.forIn_nil];refine ag (ag (adz ?_));show wpAny _ _ (b6 (.ref i1) >>= _) _ _ _;rcases O9 with rfl|⟨l1,rfl⟩
 ·refine ag (C.done {s with heap:=u} _ _ (kW C U n Z.YT) λh e f M=>?_);obtain⟨N,l,g⟩:=M;replace f:ar.ExtBut i1 u h:=f;have VA:gf h z TI TO .ellipsis:=f _ _ r.symm H;have m:e≠z:=λx=>by subst x;rw[VA] at l;cases l;simp at g
  exact dN (s:={s with heap:=h}) VA (by simp) λv _ j=>Y v e s.toks (λc o y _ O _ x=>j.extBut _ _ y (f _ _ O (n.extBut _ _ y x))) ⟨N,j.extBut _ _ m l,g⟩
 ·refine ag (C.item i {s with heap:=u} _ _ l1 (kW C U n Z.YT) λx h B p1 Vx f=>aq ?_);replace f:b7 i1 u h:=f;have z8:dA h TO a b:=f.extBut _ _ W8 (n.extBut _ _ Z.TOz My);refine ag (dz (s:={s with heap:=h,toks:=B}) z8 rfl ?_);refine ag (adp (s:={s with heap:=h,toks:=B}) z8 λv Dn j=>?_);replace j:b7 TO h v:=j;refine ag (aer (aq ?_));refine ag (ag (adz ?_));show wpAny _ _ (b6 (.ref i2) >>= _) _ _ _;refine ag (G.done {s with heap:=v,toks:=B} _ _ (kW G (kW G (kW G h2 n Z.Z9) f Z.aab) j Z.of2) λT e I M=>?_);obtain⟨N,l,g⟩:=M;replace I:ar.ExtBut i2 v T:=I;have VB:gf T z TI TO .ellipsis:=I _ _ L.symm (j.extBut _ _ Z.TOz.symm (f.extBut _ _ r.symm H));have m:e≠z:=λx=>by subst x;rw[VB] at l;cases l;simp at g
  exact dN (s:={s with heap:=T,toks:=B}) VB (by simp) λoK _ u5=>Y oK e B (λc o y c2 O c4 x=>u5.extBut _ _ y (I _ _ c4 (j.extBut _ _ c2 (f.extBut _ _ O (n.extBut _ _ y x))))) ⟨N,u5.extBut _ _ m l,g⟩
theorem FA{i:Nat}{a b:af}{Q:Option af->ai->Prop}(Z:Cs z TI TO i1 i2 Mx Fx)(h:gc prog w A.in1 i1 Mx n1 P1 S1)(j:gc prog w A.in1 i2 Fx n2 P2 S2)
(f:gf s.heap z TI TO .none)(l:dA s.heap TI (.ref i1) (.ref i2))(m:dA s.heap TO a b)(n:S1 i s.heap)(p:S2 i s.heap)(l1:i<n1)(l2:i<n2)
(q:∀x y e tk,P1 i x->P2 i y->gf e z TI TO (de s.heap.objs.size)->dA e TO x y->S1 (i+1) e->S2 (i+1) e->dA e s.heap.objs.size x y->e.objs.size=s.heap.objs.size+1->
   (∀c o,c≠z->c≠TO->c≠i1->c≠i2->s.heap.get? c=aa o->e.get? c=aa o)->Q (aa (.ref s.heap.objs.size)) {s with heap:=e,toks:=tk}):
  wpAny (model prog w) A (pyNext (.ref z)) Q E s:=by
 have g:s.TypeIs (.ref z) "zip":=⟨_,f,rfl⟩;unfold pyNext;exact ag (gp (cQ (name:=cS "__next__") g adg
  (dw adg g F.entry_zip_next
   (x4 Z h j f l m n p l1 l2 λx y e tk b1 b2 a1 a2 a3 a4 a5 a6 a7=>aq (q x y e tk b1 b2 a1 a2 a3 a4 a5 a6 a7)) (F.args_zip_next_1 _))))
theorem Iz{i:Nat}{a b:af}{Q:Option af->ai->Prop}(Z:Cs z TI TO i1 i2 Mx Fx)(j:gc prog w A.in1 i1 Mx n1 P1 S1)(l:gc prog w A.in1 i2 Fx n2 P2 S2)
(g:gf s.heap z TI TO .none)(m:dA s.heap TI (.ref i1) (.ref i2))(n:dA s.heap TO a b)(p:S1 i s.heap)(q:S2 i s.heap)(r:i=n1\/(i<n1/\i=n2))
(u:∀f tk,(∀c o,c≠z->c≠TO->c≠i1->c≠i2->s.heap.get? c=aa o->f.get? c=aa o)->Q ao {s with heap:=f,toks:=tk}):wpAny (model prog w) A (pyNext (.ref z)) Q E s:=by
 have h:s.TypeIs (.ref z) "zip":=⟨_,g,rfl⟩;unfold pyNext;refine ag (gp (cQ (name:=cS "__next__") h adg
  (dw adg h F.entry_zip_next (zc Z j l g m n p q r λf e tk v x=>?_) (F.args_zip_next_1 _))))
 obtain⟨o,y,B⟩:=x;refine ag (wpAny_isInstance (T:="StopIteration") (b:=ah) ⟨o,y,B⟩ isSubtype_stop ?_);exact aq (u _ _ v)
end
def x5 (v:af)(ob:bS)(h:ar):Prop:=∀(prog:aJ) (w:bj) (A:ba) (E:af->ai->Prop) (s:ai) (Q:af->ai->Prop),s.heap=h->Q (.ref s.heap.objs.size) {s with heap:=s.heap.push ob}->wpAny (model prog w) A (adn v) Q E s
abbrev Te(h:ar)(o1 o2:bS):ar:=(h.push o1).push o2
abbrev Tf(h:ar)(o1 o2:bS):ar:=(Te h o1 o2).push {cls:=.type "tuple",data:=.seq #[.ref h.objs.size,.ref (h.push o1).objs.size]}
abbrev Tg(h:ar)(o1 o2:bS):ar:=(Tf h o1 o2).push {cls:=.type "tuple",data:=.seq #[.none,.none]}
abbrev IA(h:ar)(o1 o2:bS):ar:=(Tg h o1 o2).push {cls:=.type "zip",data:=.fields #[.none,.bool am,.bool am,.ref (Te h o1 o2).objs.size,.ref (Tf h o1 o2).objs.size]}
theorem Dq(v1 b:af)(o1 o2:bS):
  Meets (bt.«zip.__new__» ⟨[.type "zip",v1,b],[]⟩) (λ_ R s=>x5 v1 o1 s.heap/\x5 b o2 (s.heap.push o1)/\
   R (.ok (.ret (.ref (Tg s.heap o1 o2).objs.size))) {s with heap:=IA s.heap o1 o2}):=
 .of_wp λprog w A R s h=>by
  obtain⟨a,g,d,tk,os⟩:=s;obtain⟨c,i,h⟩:=h;have j:=sub_zip;have e:∀(A:ba) (E:af->ai->Prop) (Q:af->ai->Prop),Q (.ref a.objs.size) ⟨a.push o1,g,d,tk,os⟩->wpAny (model prog w) A (adn v1) Q E ⟨a,g,d,tk,os⟩:=λA E Q q=>c prog w A E ⟨a,g,d,tk,os⟩ Q rfl q;have f:∀(A:ba) (E:af->ai->Prop) (Q:af->ai->Prop),Q (.ref (a.push o1).objs.size) ⟨(a.push o1).push o2,g,d,tk,os⟩->wpAny (model prog w) A (adn b) Q E ⟨a.push o1,g,d,tk,os⟩:=λA E Q q=>i prog w A E ⟨a.push o1,g,d,tk,os⟩ Q rfl q
  wp_walk using e _ _ _,f _ _ _
  exact⟨_,rfl,h⟩
section
variable {prog:aJ} {w:bj} {A:ba} {E:af->ai->Prop} {s:ai}
theorem FC{v1 b:af}{o1 o2:bS}{Q:af->ai->Prop}(p:x5 v1 o1 s.heap)(q:x5 b o2 (s.heap.push o1))(r:o1.isFreed=am)(u:o2.isFreed=am)
(h:∀a,gf a (s.heap.objs.size+4) (s.heap.objs.size+2) (s.heap.objs.size+3) .none->dA a (s.heap.objs.size+2) (.ref s.heap.objs.size) (.ref (s.heap.objs.size+1))->
   dA a (s.heap.objs.size+3) .none .none->a.get? s.heap.objs.size=aa o1->a.get? (s.heap.objs.size+1)=aa o2->a.objs.size=s.heap.objs.size+5->
   (∀c o,s.heap.get? c=aa o->a.get? c=aa o)->Q (.ref (s.heap.objs.size+4)) {s with heap:=a}):
  wpAny (model prog w) A (call (.type "zip") [v1,b]) Q E s:=by
 refine callType_new F.called_zip (by decide) (F.typeCall_zip_2 _ _) (F.newCall_zip_2 _ _) (λobj=>F.args_object_init_3 obj _ _) F.entry_zip_new
  (Dq v1 b o1 o2) ⟨p,q,?_⟩
 have e:(s.heap.push o1).objs.size=s.heap.objs.size+1:=bG ..;have f:(Te s.heap o1 o2).objs.size=s.heap.objs.size+2:=by rw[bG,e]
 have g:(Tf s.heap o1 o2).objs.size=s.heap.objs.size+3:=by rw[bG,f]
 have i:(Tg s.heap o1 o2).objs.size=s.heap.objs.size+4:=by rw[bG,g]
 have v:(IA s.heap o1 o2).objs.size=s.heap.objs.size+5:=by rw[bG,i]
 have j:(IA s.heap o1 o2).get? (Tg s.heap o1 o2).objs.size=aa _:=aQ _ rfl;have l:(IA s.heap o1 o2).get? (Tf s.heap o1 o2).objs.size=aa _:=ak _ (aQ _ rfl);have m:(IA s.heap o1 o2).get? (Te s.heap o1 o2).objs.size=aa _:=ak _ (ak _ (aQ _ rfl));have n:(IA s.heap o1 o2).get? (s.heap.push o1).objs.size=aa o2:=ak _ (ak _ (ak _ (aQ _ u)));have y:(IA s.heap o1 o2).get? s.heap.objs.size=aa o1:=ak _ (ak _ (ak _ (ak _ (aQ _ r))));show _/\_;rw[f,g,i] at j;rw[e,f] at m;rw[g] at l;rw[e] at n;rw[i];exact⟨⟨_,j,rfl⟩,h _ j m l y n v λc o x=>
  ak _ (ak _ (ak _ (ak _ (ak _ x))))⟩
end
end PySem
namespace L2
open PySem PySem.Spec PyProof.Rows
section
variable {X:Cx} {pins:List (aj×bS)} {σ:L2.St} {H:Hp} {s:ai} {h':ar}
theorem Inv.K7{h:Nat}(ch:List aj)(I:Inv X pins σ H s)(k:∀b o,b∉ch->s.heap.get? b=aa o->h'.get? b=aa o)(f:∀b∈ch,nO X pins H b):Inv X pins σ H {s with heap:=h',toks:=h}:=by
 have g:∀b u,H b=aa u->b∉ch:=λb u e z=>by have:=(f b z).1;rw[this] at e;cases e
 have i:X.env.locals∉ch:=λz=>(f _ z).2.1 rfl;refine I.step (g':=s.gens) (d':=s.drawn) (ch:=ch) (λb j=>?_) (λb o _ _ a e _=>k b o a e) (λb o _ _ a e _=>⟨o.slots,k b o a e⟩) (λ_ _ _ _ n=>n)
  (λb o a e=>⟨o,k b o a e⟩) (λ_ _ e=>e) (λ_ _ _ e=>e) (λb E e=>⟨#[],by rw[e];simp⟩) (λm hm=>?_) (λb u e=>?_) I.bare
 ·obtain⟨G,l,J,p,w,x⟩:=f b j;exact⟨p,l,w,x⟩
 ·obtain⟨o,es,y,A,r⟩:=hm;exact⟨o,es,y,k _ o i A,r⟩
 ·refine(I.iJ b u e).sL (λc v a q=>k c v ?_ q) (λ_ q=>q) λ_ _ q=>q;rcases a with z|z
  ·rw[z];exact g b u e
  ·exact g c _ z
end
section
variable {X:Cx} {pins:List (aj×bS)} {σ:L2.St} {H:Hp} {s:ai} {h':ar}
theorem Inv.K8{p:Nat}(ch:List aj){T:aj}{h:List V}{g8:List af}(I:Inv X pins σ H s)(k:∀b o,b∉ch->s.heap.get? b=aa o->h'.get? b=aa o)(i:∀b∈ch,nO X pins H b)(j:s.heap.objs.size<=T)
(w:h.length<=aE)(r:Vals h g8)(x:adt h' T g8.toArray):Inv X pins σ (upd H T (.tup h)) {s with heap:=h',toks:=p}:=by
 have l:∀b u,H b=aa u->b∉ch:=λb u e z=>by have:=(i b z).1;rw[this] at e;cases e
 have f:H T=ao:=I.iJ.fresh j;have neT:∀b o,s.heap.get? b=aa o->b≠T:=λb o e=>bn (bg (aD e) j);have y:X.env.locals∉ch:=λz=>(i _ z).2.1 rfl;refine I.step (g':=s.gens) (d':=s.drawn) (ch:=ch) (λb g=>?_) (λb o _ _ a e _=>k b o a e) (λb o _ _ a e _=>⟨o.slots,k b o a e⟩) (λb o _ e n=>by rw[gF (neT b o e)];exact n)
  (λb o a e=>⟨o,k b o a e⟩) (λb xs e=>by rw[gF (i8 e f)];exact e) (λb o u e=>by rw[gF (i8 e f)];exact e) (λb N e=>⟨#[],by rw[gF (i8 e f),e];simp⟩) (λm hm=>?_) (λb u e=>?_) I.bare
 ·obtain⟨O,A,Q,B,C,E⟩:=i b g;exact⟨B,A,C,E⟩
 ·obtain⟨o,es,G,J,r⟩:=hm;exact⟨o,es,G,k _ o y J,r⟩
 ·by_cases g:b=T
  ·subst g;rw[gW] at e;cases e;exact⟨w,g8,r,x⟩
  ·rw[gF g] at e;refine(I.iJ b u e).sL (λc v a q=>k c v ?_ q) (λc q=>by rw[gF (i8 q f)];exact q) λc xs q=>by rw[gF (i8 q f)];exact q
   rcases a with z|z
   ·rw[z];exact l b u e
   ·exact l c _ z
end
inductive Sk where
 |L (a:aj)|T (a:aj)|S (z:ay) (t:aew)
noncomputable def Sk.val:Sk->af
 |.L a=>.ref a
 |.T a=>.ref a
 |.S z t=>.str z t
noncomputable def Sk.obj:Sk->bS
 |.L a=>{cls:=.type "list_iterator",data:=.fields #[.ref a,.int 0 0]}
 |.T a=>{cls:=.type "tuple_iterator",data:=.fields #[.ref a,.int 0 0]}
 |.S z t=>{cls:=.type (dG z),data:=.fields #[.str z t,.int 0 0]}
def Sk.st(it:aj):Sk->Nat->ar->Prop
 |.L a,i,h=>h.IsListIter it a i
 |.T a,i,h=>h.IsTupleIter it a i
 |.S z t,i,h=>h.IsStrIter it (dG z) z t i
def Sk.seq(K:W.Frag)(H:Hp):Sk->List V->Prop
 |.L a,b=>pH K H a b
 |.T a,b=>xL K H a b
 |.S z _,b=>b=z.cps.toList.map λc=>V.str ⟨#[c]⟩
theorem Sk.z9{it:aj}{k:Sk}{i:Nat}{h:ar}(st:k.st it i h):∃o,h.get? it=aa o/\∃n fs,o.cls=.type n/\o.data=.fields fs/\["enumerate","zip","dict_itemiterator","dict_reverseitemiterator","odict_iterator","itertools.zip_longest","itertools.pairwise"].contains n=am:=by
 cases k with
 |L a=>obtain⟨o,e,c,d⟩:=st;exact⟨o,e,_,_,c,d,by decide⟩
 |T a=>obtain⟨o,e,c,d⟩:=st;exact⟨o,e,_,_,c,d,by decide⟩
 |S z t=>
  obtain⟨o,e,c,d⟩:=st;refine⟨o,e,_,_,c,d,?_⟩;rcases nh (x:=z) with q|q<;>(rw[q];decide)
theorem Sk.wU{it:aj}{k:Sk}{i:Nat}{h c:ar}(st:k.st it i h)(b:∀o,h.get? it=aa o->c.get? it=aa o):k.st it i c:=by
 cases k with
 |L a=>obtain⟨o,e,r⟩:=st;exact⟨o,b o e,r⟩
 |T a=>obtain⟨o,e,r⟩:=st;exact⟨o,b o e,r⟩
 |S z t=>obtain⟨o,e,r⟩:=st;exact⟨o,b o e,r⟩
theorem Sk.Pa{it:aj}{k:Sk}{h:ar}(e:h.get? it=aa k.obj):k.st it 0 h:=by
 cases k with
 |L a=>exact⟨_,e,rfl,rfl⟩
 |T a=>exact⟨_,e,rfl,rfl⟩
 |S z t=>exact⟨_,e,rfl,rfl⟩
section
variable {X:Cx} {pins:List (aj×bS)} {σ:L2.St} {H:Hp} {s:ai}
theorem Sk.inj(I:Inv X pins σ H s){k:Sk}{c zs:List V}(h:k.seq X.K H c)(b:k.seq X.K H zs):c=zs:=by
 cases k with
 |L a=>exact I.Fa h b
 |T a=>exact I.Ca h b
 |S z t=>exact h.trans b.symm
theorem Ti(I:Inv X pins σ H s){b:aj}(a:nO X pins H b):H b=ao/\X.K.lookup b=ao:=by
 refine⟨a.1,?_⟩;cases e:X.K.lookup b with
 |none=>rfl
 |some o=>
  have c:=I.ok.mod.N2 b o e;rcases a.2.2.2.1 with z|z
  ·exact absurd z (I.ok.E9 b o c)
  ·exact absurd (bg (aD c) (aS I.ok.NS z)) (cu _)
theorem Sk.K9(I:Inv X pins σ H s){b a:aj}(f:nO X pins H b){c:List V}(h:pH X.K H a c\/xL X.K H a c):a≠b:=λe=>by subst e;obtain⟨g,i⟩:=Ti I f;rcases h with((h|⟨_,h⟩)|⟨_,_,_,h,_⟩)|((h|⟨_,h⟩)|⟨_,_,_,h,_⟩);all_goals first|(rw[g] at h;cases h)|(rw[i] at h;cases h)
theorem Sk.draws{A:ba}(I:Inv X pins σ H s)(n:A.handled=ao){k:Sk}{f:List V}(g:k.seq X.K H f){it:aj}(M:nO X pins H it){i:Nat}(st:k.st it i s.heap):
  ∃B St,gc X.prog X.w A it B f.length (λi v=>∃y,f[i]?=aa y/\RelV y v) St/\St i s.heap/\it∈B/\(∀b,nO X pins H b->b≠it->b∉B)/\∀j h,St j h->k.st it j h:=by
 cases k with
 |L a=>
  obtain⟨g8,r,p,O⟩:=I.list g;have C:a≠it:=Sk.K9 I M (.inl g);refine⟨[it,a],(λi h=>h.IsListIter it a i/\h.IsList a g8.toArray),?_,⟨st,p.isList⟩,by simp,λb l e=>?_,λj h q=>q.1⟩
  ·have D:=nW (P':=λi v=>∃y,f[i]?=aa y/\RelV y v) (gc.list (prog:=X.prog) (w:=X.w) n it a C g8.toArray) (λi v e=>by
    have hi:i<g8.length:=by have:=(bW.mp e).1;simpa using this
    have m:i<f.length:=by rw[r.length];exact hi
    obtain⟨u,E,G⟩:=r.get (i:=i) (x:=f[i]) (by simp[m]);have:u=v:=by
     have e':g8[i]?=aa v:=by simpa using e
     rw[E] at e';exact bq e'
    subst this;exact⟨f[i],by simp[m],G⟩)
   rw[aT,<-r.length] at D;exact D
  ·have:=Sk.K9 I l (.inl g);simp only [az,bi,or_false]
   rintro(q|q)
   ·exact e q
   ·exact this q.symm
 |T a=>
  obtain⟨g8,r,p,O⟩:=I.tuple g;have C:a≠it:=Sk.K9 I M (.inr g);refine⟨[it,a],(λi h=>h.IsTupleIter it a i/\h.IsTuple a g8.toArray),?_,⟨st,(show s.heap.IsTuple a g8.toArray from p)⟩,by simp,λb l e=>?_,λj h q=>q.1⟩
  ·have D:=nW (P':=λi v=>∃y,f[i]?=aa y/\RelV y v) (z6 (prog:=X.prog) (w:=X.w) n it a C g8.toArray) (λi v e=>by
    have hi:i<g8.length:=by have:=(bW.mp e).1;simpa using this
    have m:i<f.length:=by rw[r.length];exact hi
    obtain⟨u,E,G⟩:=r.get (i:=i) (x:=f[i]) (by simp[m]);have:u=v:=by
     have e':g8[i]?=aa v:=by simpa using e
     rw[E] at e';exact bq e'
    subst this;exact⟨f[i],by simp[m],G⟩)
   rw[aT,<-r.length] at D;exact D
  ·have:=Sk.K9 I l (.inr g);simp only [az,bi,or_false]
   rintro(q|q)
   ·exact e q
   ·exact this q.symm
 |S z t=>
  have g:f=z.cps.toList.map λc=>V.str ⟨#[c]⟩:=g;subst g;have o:∀(i:Nat) (v:af),(∃(c:Nat) (u:aew),z.cps[i]?=aa c/\v=fR ⟨#[c]⟩ u)->∃y,(z.cps.toList.map λc=>V.str ⟨#[c]⟩)[i]?=aa y/\RelV y v:=by
   rintro i v ⟨c,u,Q,U⟩
   refine⟨.str ⟨#[c]⟩,?_,u,U⟩;rw[bA,gq,Q];rfl
  have N:(z.cps.toList.map λc=>V.str ⟨#[c]⟩).length=z.cps.size:=by simp
  have key:dG z="str_ascii_iterator"\/dG z="str_iterator":=nh;rcases key with e|e
  ·have J:s.heap.IsStrIter it "str_ascii_iterator" z t i:=by rw[<-e];exact st
   refine⟨[it],_,by rw[N];exact nW (gc.strAscii n it z t) o,J,by simp,λb l e=>by simpa using e,λj h q=>by show h.IsStrIter it (dG z) z t j;rw[e];exact q⟩
  ·have J:s.heap.IsStrIter it "str_iterator" z t i:=by rw[<-e];exact st
   refine⟨[it],_,by rw[N];exact nW (gc.strWide n it z t) o,J,by simp,λb l e=>by simpa using e,λj h q=>by show h.IsStrIter it (dG z) z t j;rw[e];exact q⟩
theorem Sk.iter(I:Inv X pins σ H s){k:Sk}{c:List V}(b:k.seq X.K H c):x5 k.val k.obj s.heap:=by
 intro prog w A E g Q e q;cases k with
 |L a=>
  obtain⟨g8,r,p,f⟩:=I.list b;exact dS (by rw[e];exact p.isList) q
 |T a=>
  obtain⟨g8,r,p,f⟩:=I.tuple b;exact dM (by rw[e];exact(show s.heap.IsTuple a g8.toArray from p)) q
 |S z t=>exact aeN q
theorem Sk.aaj(I:Inv X pins σ H s){k:Sk}{c:List V}(b:k.seq X.K H c)(o:bS):x5 k.val k.obj (s.heap.push o):=by
 intro prog w A E g Q e q;cases k with
 |L a=>
  obtain⟨g8,r,p,f⟩:=I.list b;exact dS (by rw[e];exact p.isList.push _) q
 |T a=>
  obtain⟨g8,r,p,f⟩:=I.tuple b;exact dM (by rw[e];exact ar.IsTuple.push (show s.heap.IsTuple a g8.toArray from p) _) q
 |S z t=>exact aeN q
end
theorem Sk.freed(k:Sk):k.obj.isFreed=am:=by cases k<;>rfl
noncomputable def Ite(K:W.Frag)(k:Sk):It:=⟨λi H=>∃a y,k.seq K H a/\a[i]?=aa y,λi H x b=>∃p,x=.ref p/\H p=ao/\∀a,k.seq K H a->∃y,a[i]?=aa y/\b=upd H p (.tup [.int i,y]),λi H=>∃a,k.seq K H a/\a.length=i⟩
theorem MA{P:aJ}{w:bj}{K:W.Frag}{elts:List bh}{n:Nat}{pos:c7}(k:Sk)(e it:aj)(L:e≠it):Turn P w K (.Tuple elts n pos) (Ite K k) [e,it] e (λi h=>(∃old,afd h e it i old)/\k.st it i h) where
 mem:=by simp
 obj:=λi h st b a=>by
  obtain⟨⟨old,f⟩,s⟩:=st;simp only [az,bi,or_false] at a;rcases a with rfl|rfl
  ·exact⟨_,f,λv z=>by cases z⟩
  ·obtain⟨o,e,n,fs,c,d,_⟩:=Sk.z9 s;exact⟨o,e,λv z=>by rw[d] at z;cases z⟩
 keep:=λi h M st N=>by obtain⟨⟨old,f⟩,s⟩:=st;exact⟨⟨old,N e (by simp) _ f⟩,Sk.wU s λo q=>N it (by simp) o q⟩
 item:=by
  intro X p hw U Y i pins s σ H E I g st hg;subst p hw U;obtain⟨ys,y,O,u⟩:=hg;obtain⟨⟨old,f⟩,j⟩:=st;have l:=g e (by simp);have m:=g it (by simp);have Ip:X.A.in1.handled=ao:=I.ok.hd Y;obtain⟨fp,St,D,Xb,hm,Aa,jL⟩:=Sk.draws I Ip O m j;have W:=WalksT.enumerateD (A:=X.A) D e L (Aa e l L) hm;have hi:i<ys.length:=(aB.mp u).1;refine W.item i s _ _ hi ⟨⟨old,f⟩,Xb⟩ λT vals M tk p hT acn B hk=>⟨.ref T,rfl,?_⟩;obtain⟨t,x,⟨y',C,ry⟩,rfl⟩:=p;have:y'=y:=by rw[u] at C;exact(bq C).symm
  subst this;have hap:=W.apart i T M B;refine W.go elts n pos i T {s with heap:=M,toks:=tk} _ E B λTj G YU=>?_;have J:T∉[e,it]:=hap;have N:∀b o,b∉[e,it]->s.heap.get? b=aa o->Tj.get? b=aa o:=λb o a eb=>YU b o a (hk b o a eb);have ZG:Tj.IsTuple T #[.int i t,x]:=by obtain⟨o,ho,r⟩:=acn;exact⟨o,YU T o J ho,r⟩
  have Th:H T=ao:=I.iJ.fresh hT;have I2:Inv X pins σ (upd H T (.tup [.int i,y'])) {s with heap:=Tj,toks:=tk}:=I.K8 [e,it] N (λb a=>g b a) hT (by show 2<=aE;decide) (g8:=[.int i t,x]) (.cons ⟨t,rfl⟩ (.cons ry .nil)) ZG;refine⟨.ref T,_,I2,rfl,⟨T,rfl,Th,λzs hz=>?_⟩,⟨G.1,jL _ _ G.2⟩,λb a=>?_⟩
  ·rw[Sk.inj I hz O];exact⟨y',u,rfl⟩
  ·rw[gF λq=>J (by rw[<-q];exact a)];exact(g b a).1
 done:=by intro X p hw U Y i pins s σ H E I g st hg;subst p hw U;obtain⟨ys,O,u⟩:=hg;obtain⟨⟨old,f⟩,j⟩:=st;have l:=g e (by simp);have m:=g it (by simp);have Ip:X.A.in1.handled=ao:=I.ok.hd Y;obtain⟨fp,St,D,Xb,hm,Aa,jL⟩:=Sk.draws I Ip O m j;have W:=WalksT.enumerateD (A:=X.A) D e L (Aa e l L) hm;subst u;exact W.done s _ _ ⟨⟨old,f⟩,Xb⟩ λM tk hk=>⟨rfl,I.K7 [e,it] hk (λb a=>g b a)⟩
 self:=λA i s Q E st h=>by obtain⟨⟨old,f⟩,_⟩:=st;exact aeO f h
noncomputable def Itz(K:W.Frag)(k k2:Sk):It:=⟨λi H=>∃a zs y z,k.seq K H a/\k2.seq K H zs/\a[i]?=aa y/\zs[i]?=aa z,
 λi H x b=>∃p,x=.ref p/\H p=ao/\∀a zs,k.seq K H a->k2.seq K H zs->∃y z,a[i]?=aa y/\zs[i]?=aa z/\b=upd H p (.tup [y,z]),
 λi H=>∃a zs,k.seq K H a/\k2.seq K H zs/\(i=a.length\/(i<a.length/\i=zs.length))⟩
theorem Pb{P:aJ}{w:bj}{K:W.Frag}{elts:List bh}{n:Nat}{pos:c7}(k k2:Sk)(z TI TO g j:aj)(nd:[z,TI,TO,g,j].Nodup):Turn P w K (.Tuple elts n pos) (Itz K k k2) [z,TI,TO,g,j] z
  (λi h=>gf h z TI TO .none/\dA h TI (.ref g) (.ref j)/\(∃a b,dA h TO a b)/\k.st g i h/\k2.st j i h) where
 mem:=by simp
 obj:=λi h st b f=>by
  obtain⟨G,B,⟨a,c,J⟩,L,M⟩:=st;simp only [az,bi,or_false] at f;rcases f with rfl|rfl|rfl|rfl|rfl
  ·exact⟨_,G,λv z=>by cases z⟩
  ·exact⟨_,B,λv z=>by cases z⟩
  ·exact⟨_,J,λv z=>by cases z⟩
  ·obtain⟨o,e,n,fs,c,d,_⟩:=Sk.z9 L;exact⟨o,e,λv z=>by rw[d] at z;cases z⟩
  ·obtain⟨o,e,n,fs,c,d,_⟩:=Sk.z9 M;exact⟨o,e,λv z=>by rw[d] at z;cases z⟩
 keep:=λi h h' st N=>by obtain⟨G,B,⟨a,c,J⟩,L,M⟩:=st;exact⟨N z (by simp) _ G,N TI (by simp) _ B,⟨a,c,N TO (by simp) _ J⟩,Sk.wU L λo q=>N g (by simp) o q,Sk.wU M λo q=>N j (by simp) o q⟩
 item:=by
  intro X hP hw hK hc i pins s σ H E I l st hg;subst hP hw hK;obtain⟨ys,zs,y,y2,hq,C,hy,O⟩:=hg;obtain⟨G,B,⟨a,c,J⟩,L,M⟩:=st;have m:=l z (by simp);have Ta:=l TI (by simp);have My:=l TO (by simp);have p:=l g (by simp);have r:=l j (by simp);simp only [d9,az,bi,or_false,not_or,eD,and_true,not_false_eq_true] at nd;obtain⟨⟨n1,n2,n3,n4⟩,⟨n5,n6,n7⟩,⟨n8,n9⟩,x⟩:=nd;have Ip:X.A.in1.handled=ao:=I.ok.hd hc;obtain⟨fp,St,D,Xb,hm,T,jL⟩:=Sk.draws I Ip hq p L;obtain⟨Fx,St2,D2,Xc,U,Y,Tk⟩:=Sk.draws I Ip C r M;have Z:Cs z TI TO g j fp Fx:=⟨bU n1,bU n2,n5,n6,n7,hm,U,T z m n3,Y z m n4,T TO My n8,Y TO My n9,Y g p x,T j r (bU x)⟩;have l1:i<ys.length:=(aB.mp hy).1;have l2:i<zs.length:=(aB.mp O).1;refine FA Z D D2 G B J Xb Xc l1 l2 λu v h' tk p1 p2 g1 g2 g3 g4 g5 g6 g7=>⟨.ref s.heap.objs.size,rfl,?_⟩;obtain⟨y',hy',ry⟩:=p1;obtain⟨y2',aal,ry2⟩:=p2;have e1:y'=y:=by rw[hy] at hy';exact(bq hy').symm
  have e2:y2'=y2:=by rw[O] at aal;exact(bq aal).symm
  subst e1 e2;refine wpAny_letOwnedTupleGo_zip (s:={s with heap:=h',toks:=tk}) g1 λTj aco Pc=>?_;replace Pc:b7 z h' Tj:=Pc;have lt:∀{c o},s.heap.get? c=aa o->s.heap.objs.size≠c:=λe=>c9 (aD e);have N:∀b o,b∉[z,TI,TO,g,j]->s.heap.get? b=aa o->Tj.get? b=aa o:=λb o f eb=>by simp only [az,bi,or_false,not_or] at f;exact Pc.extBut _ _ f.1 (g7 b o f.1 f.2.2.1 f.2.2.2.1 f.2.2.2.2 eb)
  have hTz:s.heap.objs.size≠z:=lt G;have hTn:s.heap.objs.size∉[z,TI,TO,g,j]:=by
   simp only [az,bi,or_false,not_or];refine⟨hTz,lt B,lt J,?_,?_⟩
   ·obtain⟨o,e,_⟩:=Sk.z9 L;exact lt e
   ·obtain⟨o,e,_⟩:=Sk.z9 M;exact lt e
  have ZG:adt Tj s.heap.objs.size #[u,v]:=⟨_,Pc.extBut _ _ hTz g5,rfl,_,rfl⟩;have Th:H s.heap.objs.size=ao:=I.iJ.fresh (bf _);have I2:Inv X pins σ (upd H s.heap.objs.size (.tup [y',y2'])) {s with heap:=Tj,toks:=tk}:=I.K8 [z,TI,TO,g,j] N (λb f=>l b f) (bf _) (by show 2<=aE;decide) (g8:=[u,v]) (.cons ry (.cons ry2 .nil)) ZG;have up:∀c o,c≠z->h'.get? c=aa o->Tj.get? c=aa o:=λc o hc e=>Pc.extBut _ _ hc e;refine⟨.ref s.heap.objs.size,_,I2,rfl,⟨_,rfl,Th,λas bs ha f=>?_⟩,⟨aco,up _ _ (bU n1) (g7 _ _ (bU n1) n5 n6 n7 B),⟨_,_,up _ _ (bU n2) g2⟩,Sk.wU (jL _ _ g3) λo q=>up _ _ (bU n3) q,Sk.wU (Tk _ _ g4) λo q=>up _ _ (bU n4) q⟩,λb f=>?_⟩
  ·rw[Sk.inj I ha hq,Sk.inj I f C];exact⟨y',y2',hy,O,rfl⟩
  ·rw[gF λq=>hTn (by rw[<-q];exact f)];exact(l b f).1
 done:=by intro X hP hw hK hc i pins s σ H E I l st hg;subst hP hw hK;obtain⟨ys,zs,hq,C,O9⟩:=hg;obtain⟨G,B,⟨a,c,J⟩,L,M⟩:=st;have m:=l z (by simp);have Ta:=l TI (by simp);have My:=l TO (by simp);have p:=l g (by simp);have r:=l j (by simp);simp only [d9,az,bi,or_false,not_or,eD,and_true,not_false_eq_true] at nd;obtain⟨⟨n1,n2,n3,n4⟩,⟨n5,n6,n7⟩,⟨n8,n9⟩,x⟩:=nd;have Ip:X.A.in1.handled=ao:=I.ok.hd hc;obtain⟨fp,St,D,Xb,hm,T,jL⟩:=Sk.draws I Ip hq p L;obtain⟨Fx,St2,D2,Xc,U,Y,Tk⟩:=Sk.draws I Ip C r M;have Z:Cs z TI TO g j fp Fx:=⟨bU n1,bU n2,n5,n6,n7,hm,U,T z m n3,Y z m n4,T TO My n8,Y TO My n9,Y g p x,T j r (bU x)⟩;refine Iz Z D D2 G B J Xb Xc O9 λh' tk hk=>⟨rfl,I.K7 [z,TI,TO,g,j] (λb o f eb=>?_) (λb f=>l b f)⟩;simp only [az,bi,or_false,not_or] at f;exact hk b o f.1 f.2.2.1 f.2.2.2.1 f.2.2.2.2 eb
 self:=λA i s Q E st h=>aeZ st.1 h
def IB (K:W.Frag)(H:Hp)(x:V)(b:Sk->Prop):Prop:=(∃a,x=.ref a/\(∃c,pH K H a c)/\b (.L a))\/(∃a,x=.ref a/\(∃c,xL K H a c)/\b (.T a))\/(∃z,x=.str z/\∀t,b (.S z t))
theorem IB.get{K:W.Frag}{H:Hp}{x:V}{u:af}{c:Sk->Prop}(h:IB K H x c)(r:RelV x u):∃k:Sk,u=k.val/\(∃b,k.seq K H b)/\c k:=by
 rcases h with⟨a,rfl,⟨b,h⟩,q⟩|⟨a,rfl,⟨b,h⟩,q⟩|⟨z,rfl,q⟩
 ·exact⟨.L a,r,⟨b,h⟩,q⟩
 ·exact⟨.T a,r,⟨b,h⟩,q⟩
 ·obtain⟨t,rfl⟩:=r;exact⟨.S z t,rfl,⟨_,rfl⟩,q t⟩
noncomputable def Sk.it(K:W.Frag):Sk->It
 |.L a=>Itl K a
 |.T a=>Itt K a
 |.S z _=>Its z
section
variable {X:Cx} {tg:bh}
noncomputable def acp(K:W.Frag)(a:TE):TI:=λσ H R=>a σ H λx H1=>IB K H1 x λk=>R (k.it K) H1
theorem Xd{e:bh}{i:TE}(j:PE X e i):PI X tg e (acp X.K i):=by
 intro pins s σ H R I h;refine jz (j pins s σ H _ I h) λv s1 ⟨x,H1,f,r1,l⟩=>?_;obtain⟨k,rfl,⟨n,m⟩,q⟩:=l.get r1;refine(Sk.iter f m) _ _ _ _ s1 _ rfl ?_;have c:∀b∈[s1.heap.objs.size],nO X pins H1 b:=λb c=>by
  have e:b=s1.heap.objs.size:=by simpa using c
  subst e;exact f.C6 (bf _) (f.iJ.fresh (bf _))
 have g:Inv X pins σ H1 {s1 with heap:=s1.heap.push k.obj}:=f.kept (t':=s1.toks) λb o e=>ak _ e;cases k with
 |L a=>exact⟨s1.heap.objs.size,[s1.heap.objs.size],_,_,H1,rfl,g,Ma a _,⟨_,aQ _ rfl,rfl,rfl⟩,c,q⟩
 |T a=>exact⟨s1.heap.objs.size,[s1.heap.objs.size],_,_,H1,rfl,g,HS a _,⟨_,aQ _ rfl,rfl,rfl⟩,c,q⟩
 |S z t=>exact⟨s1.heap.objs.size,[s1.heap.objs.size],_,_,H1,rfl,g,ON _ z t,⟨⟨_,aQ _ rfl,rfl,rfl⟩,bJ _⟩,c,q⟩
noncomputable def aam(K:W.Frag)(a:TA):TI:=λσ H R=>a σ H λb H1=>∃x,b=[x]/\IB K H1 x λk=>R (Ite K k) H1
theorem Tl{a:bh}{B:TA}{p pos C:c7}{elts:List bh}{n:Nat}(G:Gl X "enumerate")(hm:X.mg "enumerate"=ao)(ha:PA X [a] B)(l:aM [a] X.env=[(am,eval a X.env)]:=by rfl):
  PI X (.Tuple elts n C) (.Call (.Name "enumerate" p) [a] [] pos) (aam X.K B):=by
 intro pins s σ H R I h;refine Call_ (xJ I G hm boot_enumerate (di (jz (ha pos pins s σ H _ I h) λus s1 ⟨N,H1,g,r1,v⟩=>?_) l rfl));obtain⟨x,rfl,v⟩:=v;obtain⟨u,rfl,J⟩:=vals1 r1;obtain⟨k,rfl,⟨O,l⟩,q⟩:=v.get J;have y:∀c:ar,afd c (s1.heap.objs.size+1) s1.heap.objs.size 0 .none->k.st s1.heap.objs.size 0 c->(∀b o,s1.heap.get? b=aa o->c.get? b=aa o)->
   wpAny (model X.prog X.w) X.A (adn (.ref (s1.heap.objs.size+1))) (PIE X pins σ (.Tuple elts n C) R) X.xe {s1 with heap:=c}:=λc e f m=>by
  refine aeO (s:={s1 with heap:=c}) e ?_;have ne:s1.heap.objs.size+1≠s1.heap.objs.size:=by omega
  refine⟨s1.heap.objs.size+1,[s1.heap.objs.size+1,s1.heap.objs.size],_,_,H1,rfl,g.kept (t':=s1.toks) m,MA k _ _ ne,⟨⟨_,e⟩,f⟩,λb E=>?_,q⟩;have i:s1.heap.objs.size<=b:=by simp only [az,bi,or_false] at E;rcases E with rfl|rfl<;>omega
  exact g.C6 i (g.iJ.fresh i)
 cases k with
 |L a=>
  obtain⟨g8,r,pl,M⟩:=g.list l;exact call_enumerate_list pl.isList λc e f m j=>y c e f j
 |T a=>
  obtain⟨g8,r,pl,M⟩:=g.tuple l;exact z7 (show s1.heap.IsTuple a g8.toArray from pl) λc e f m j=>y c e f j
 |S z t=>exact call_enumerate_str λc e f m j=>y c e f j
theorem MB:bR "zip"=aa (.type "zip"):=by decide+kernel
noncomputable def acq(K:W.Frag)(a:TA):TI:=λσ H R=>a σ H λb H1=>∃x y,b=[x,y]/\IB K H1 x λk=>IB K H1 y λk2=>R (Itz K k k2) H1
theorem Xe{a b:bh}{j:TA}{p pos o:c7}{elts:List bh}{n:Nat}(r:Gl X "zip")(hm:X.mg "zip"=ao)(ha:PA X [a,b] j)(g:aM [a,b] X.env=[(am,eval a X.env),(am,eval b X.env)]:=by rfl)(f:aM [b] X.env=[(am,eval b X.env)]:=by rfl):
  PI X (.Tuple elts n o) (.Call (.Name "zip" p) [a,b] [] pos) (acq X.K j):=by
 intro pins s σ H R I h;refine Call_ (xJ I r hm MB (di (jz (ha pos pins s σ H _ I h) λus s1 ⟨L,H1,c,r1,i⟩=>?_) (by rw[g,f]) (by rw[f];rfl)));obtain⟨x,y,rfl,i⟩:=i;obtain⟨u,v,rfl,w,z⟩:=vals2 r1;obtain⟨k,rfl,⟨M,g⟩,q⟩:=i.get w;obtain⟨k2,rfl,⟨zs,f⟩,q⟩:=q.get z;refine FC (Sk.iter c g) (Sk.aaj c f _) k.freed k2.freed λA l B C E G N J=>?_;refine aeZ (s:={s1 with heap:=A}) l ?_;refine⟨_,[s1.heap.objs.size+4,s1.heap.objs.size+2,s1.heap.objs.size+3,s1.heap.objs.size,s1.heap.objs.size+1],_,_,H1,rfl,c.kept (t':=s1.toks) J,Pb k k2 _ _ _ _ _ (by simp),⟨l,B,⟨_,_,C⟩,Sk.Pa E,Sk.Pa G⟩,λb m=>?_,q⟩;have e:s1.heap.objs.size<=b:=by simp only [az,bi,or_false] at m;rcases m with rfl|rfl|rfl|rfl|rfl<;>omega
 exact c.C6 e (c.iJ.fresh e)
end
end L2
namespace L3
open PySem PySem.Spec PyProof.Rows L2
noncomputable def x6:D->Option (List D)
 |.lst ds=>aa ds
 |.tup ds=>aa ds
 |.qc ns=>aa (ns.map D.int)
 |.str z=>aa (z.cps.toList.map λc=>D.str ⟨#[c]⟩)
 |_=>ao
def SkV (d:D)(v:V)(k:Sk):Prop:=match d with
 |.lst _|.qc _=>∃a,v=.ref a/\k=.L a
 |.tup _=>∃a,v=.ref a/\k=.T a
 |.str z=>v=.str z/\∃t,k=.S z t
 |_=>False
section
variable {K:W.Frag} {F α:List aj} {H:Hp} {M:Ms}
theorem zn(o:OK K F α H M){d:D}{v:V}{items:List D}{k:Sk}(r:Rep K α (i0 F α M H) d v)(e:x6 (vw M d)=aa items)(b:SkV (vw M d) v k):∃g,k.seq K H g/\gA K α (i0 F α M H) items g:=by
 generalize e1:vw M d=x at e b;cases x<;>first|(exfalso;cases e;done)|skip
 ·cases e;have e2:=lY e1;subst e2;obtain⟨rfl,t,rfl⟩:=b;exact⟨_,rfl,gA.of_map _ _ (λc=>pL) _⟩
 ·cases e;obtain⟨a,rfl,rfl⟩:=b;obtain⟨h,f,e3,q,z⟩:=mI o r e1;cases e3;exact⟨f,q,z⟩
 ·cases e;obtain⟨a,rfl,rfl⟩:=b;obtain⟨h,f,e3,q,z⟩:=j6 o r e1;cases e3;exact⟨f,pH.of q,z⟩
 ·cases e;have e2:=sY e1;subst e2;obtain⟨a,rfl,rfl⟩:=b;unfold Rep at r;obtain⟨h,e3,q⟩:=r;cases e3;exact⟨_,kj hV q,gA.of_map _ _ (λc=>i6) _⟩
theorem Dr(o:OK K F α H M){d:D}{v:V}{items:List D}{b:Sk->Prop}(r:Rep K α (i0 F α M H) d v)(e:x6 (vw M d)=aa items)(h:∀k,SkV (vw M d) v k->b k):IB K H v b:=by
 generalize e1:vw M d=x at e h;cases x<;>first|(exfalso;cases e;done)|skip
 ·have e2:=lY e1;subst e2;unfold Rep at r;subst r;exact .inr (.inr ⟨_,rfl,λt=>h _ ⟨rfl,t,rfl⟩⟩)
 ·obtain⟨a,c,rfl,q,z⟩:=mI o r e1;exact .inr (.inl ⟨a,rfl,⟨_,q⟩,h _ ⟨a,rfl,rfl⟩⟩)
 ·obtain⟨a,c,rfl,q,z⟩:=j6 o r e1;exact .inl ⟨a,rfl,⟨_,pH.of q⟩,h _ ⟨a,rfl,rfl⟩⟩
 ·have e2:=sY e1;subst e2;unfold Rep at r;obtain⟨a,rfl,q⟩:=r;exact .inl ⟨a,rfl,⟨_,kj hV q⟩,h _ ⟨a,rfl,rfl⟩⟩
end
section
variable {X:Cx} {tg e a b:bh} {te:DE} {tt:DA} {p pos y3:c7} {elts:List bh} {n:Nat}
noncomputable def iZ(te:DE):DI:=λc M Q=>te c M λd M1=>∃items,x6 (vw M1 d)=aa items/\Q items (λf=>vw f d=vw M1 d) M1
theorem iO(I:JE X e te):JI X tg e (iZ te):=by
 refine⟨λE M P Q w q=>I.mono E _ _ _ (λd M1 q=>?_) q,PI.weak (Xd I.p) λσ H Q q=>?_⟩
 ·obtain⟨items,e,q⟩:=q;exact⟨items,e,w _ _ _ q⟩
 ·obtain⟨F,α,E,M,r,q⟩:=q;refine⟨F,α,E,M,r,I.mono E _ _ _ (λd M1 q v J H1 e1 o1 r1=>?_) q⟩;obtain⟨items,U,q⟩:=q;refine Dr o1 r1 U λk Y=>q _ J H1 H1 id e1 o1 (OX.refl o1) ?_;have key:∀l f m j,J <+: f->jA (i0 F J M1 H1) (i0 l f j m)->OK X.K l f m j->vw j d=vw M1 d->∃g,k.seq X.K m g/\gA X.K f (i0 l f j m) items g:=λl f m j u y o s=>
   zn o (Rep.mono u y d v r1) (by rw[s];exact U) (by rw[s];exact Y)
  refine⟨λi l f m j u y o s hi=>?_,λi l f m j x A d' u y o s hd B=>?_,λl f m j u y o s=>?_⟩
  ·obtain⟨g,h,C⟩:=key l f m j u y o s;have G:=gA.length _ _ C;cases k with
   |L a=>exact⟨g,g[i],h,by simp⟩
   |T a=>exact⟨g,g[i],h,by simp⟩
   |S z t=>
    have h:g=z.cps.toList.map λc=>V.str ⟨#[c]⟩:=h;show i<z.cps.size;rw[h] at G;simpa[G] using hi
  ·obtain⟨g,h,C⟩:=key l f m j u y o s;have N:∀A,A=m->g[i]?=aa x->OK X.K l f A j/\Ext l f m j f A j/\Rep X.K f (i0 l f j A) d' x:=λA e O=>by subst e;obtain⟨d2,e2,r2⟩:=gA.get' _ _ i x C O;rw[hd] at e2;cases e2;exact⟨o,Ext.refl,r2⟩
   cases k with
   |L a=>exact N _ B.1 (B.2 g h)
   |T a=>exact N _ B.1 (B.2 g h)
   |S z t=>
    obtain⟨e,c,hc,O⟩:=B;have h:g=z.cps.toList.map λc=>V.str ⟨#[c]⟩:=h;refine N _ e ?_;rw[h,bA,gq,hc,O];rfl
  ·obtain⟨g,h,C⟩:=key l f m j u y o s;have G:=gA.length _ _ C;cases k with
   |L a=>exact⟨g,h,by omega⟩
   |T a=>exact⟨g,h,by omega⟩
   |S z t=>
    have h:g=z.cps.toList.map λc=>V.str ⟨#[c]⟩:=h;show z.cps.size<=items.length;rw[G,h];simp
noncomputable def Ac(tt:DA):DI:=λc M Q=>tt c M λds M1=>match ds with
 |[d]=>∃items,x6 (vw M1 d)=aa items/\Q (items.mapIdx λi d=>.tup [.int i,d]) (λf=>vw f d=vw M1 d) M1
 |_=>False
theorem tq{K:W.Frag}{α:List aj}{H:Hp}{d:D}{c:List V}(h:gA K α H [d] c):∃v,c=[v]/\Rep K α H d v:=by unfold gA at h;obtain⟨v,r,rfl,z,y⟩:=h;unfold gA at y;subst y;exact⟨v,rfl,z⟩
theorem Ad{K:W.Frag}{α:List aj}{H:Hp}{d e:D}{c:List V}(h:gA K α H [d,e] c):∃v u,c=[v,u]/\Rep K α H d v/\Rep K α H e u:=by unfold gA at h;obtain⟨v,r,rfl,z,y⟩:=h;obtain⟨u,rfl,w⟩:=tq y;exact⟨v,u,rfl,z,w⟩
theorem La(ha:JA X [a] tt)(hm:X.mg "enumerate"=ao)(N:Gl X "enumerate":=by rfl)(j:aM [a] X.env=[(am,eval a X.env)]:=by rfl):JI X (.Tuple elts n y3) (.Call (.Name "enumerate" p) [a] [] pos) (Ac tt):=by
 refine⟨λB M P Q w q=>ha.mono B _ _ _ (λds M1 q=>?_) q,PI.weak (Tl N hm ha.p j) λσ H Q q=>?_⟩
 ·match ds,q with
  |[d],⟨items,e,q⟩=>exact⟨items,e,w _ _ _ q⟩
 ·obtain⟨F,α,B,M,r,q⟩:=q;refine⟨F,α,B,M,r,ha.mono B _ _ _ (λds M1 q Y C H1 e1 o1 r1=>?_) q⟩;match ds,q,r1 with
  |[d],⟨items,I,q⟩,r1=>
   obtain⟨v,O,J⟩:=tq r1;subst O;refine⟨v,rfl,Dr o1 J I λk T=>q _ C H1 H1 id e1 o1 (OX.refl o1) ?_⟩;have key:∀h c f g,C <+: c->jA (i0 F C M1 H1) (i0 h c g f)->OK X.K h c f g->vw g d=vw M1 d->∃l,k.seq X.K f l/\gA X.K c (i0 h c g f) items l:=λh c f g s j m o=>
    zn m (Rep.mono s j d v J) (by rw[o];exact I) (by rw[o];exact T)
   refine⟨λi h c f g s j m o hi=>?_,λi h c f g x H2 d' s j m o hd E=>?_,λh c f g s j m o=>?_⟩
   ·obtain⟨l,u,z⟩:=key h c f g s j m o;have U:=gA.length _ _ z;rw[fw] at hi;exact⟨l,l[i]'(by omega),u,by simp⟩
   ·obtain⟨l,u,z⟩:=key h c f g s j m o;obtain⟨p,rfl,L,E⟩:=E;obtain⟨y,G,rfl⟩:=E l u;obtain⟨d2,e2,r2⟩:=gA.get' _ _ i y z G;rw[List.getElem?_mapIdx,e2] at hd;cases hd;obtain⟨o2,A⟩:=m.laid (x:=.tup [.int i,y]) L;exact⟨o2,A,kH m L (gA.cons i6 (gA.one r2)) A⟩
   ·obtain⟨l,u,z⟩:=key h c f g s j m o;have U:=gA.length _ _ z;exact⟨l,u,by rw[fw];omega⟩
noncomputable def VC(tt:DA):DI:=λg M Q=>tt g M λds M1=>match ds with
 |[d,e]=>∃xs c,x6 (vw M1 d)=aa xs/\x6 (vw M1 e)=aa c/\Q (c8 (λa b=>.tup [a,b]) xs c) (λf=>vw f d=vw M1 d/\vw f e=vw M1 e) M1
 |_=>False
theorem Xf(ha:JA X [a,b] tt)(hm:X.mg "zip"=ao)(hg:Gl X "zip":=by rfl)(j:aM [a,b] X.env=[(am,eval a X.env),(am,eval b X.env)]:=by rfl)(Sr:aM [b] X.env=[(am,eval b X.env)]:=by rfl):
  JI X (.Tuple elts n y3) (.Call (.Name "zip" p) [a,b] [] pos) (VC tt):=by
 refine⟨λL M P Q w q=>ha.mono L _ _ _ (λds M1 q=>?_) q,PI.weak (Xe hg hm ha.p j Sr) λσ H Q q=>?_⟩
 ·match ds,q with
  |[d,e],⟨xs,l,e1,e2,q⟩=>exact⟨xs,l,e1,e2,w _ _ _ q⟩
 ·obtain⟨F,α,L,M,r,q⟩:=q;refine⟨F,α,L,M,r,ha.mono L _ _ _ (λds M1 q vs A H1 e1 o1 r1=>?_) q⟩;match ds,q,r1 with
  |[d,N],⟨items,Xg,ei,B,q⟩,r1=>
   obtain⟨v,u,rfl,r1,r2⟩:=Ad r1;refine⟨v,u,rfl,Dr o1 r1 ei λk hk=>Dr o1 r2 B λk2 YU=>q _ A H1 H1 id e1 o1 (OX.refl o1) ?_⟩;have key:∀h c f g,A <+: c->jA (i0 F A M1 H1) (i0 h c g f)->OK X.K h c f g->vw g d=vw M1 d->∃l,k.seq X.K f l/\gA X.K c (i0 h c g f) items l:=λh c f g s j m o=>
    zn m (Rep.mono s j d v r1) (by rw[o];exact ei) (by rw[o];exact hk)
   have O:∀h c f g,A <+: c->jA (i0 F A M1 H1) (i0 h c g f)->OK X.K h c f g->vw g N=vw M1 N->∃l,k2.seq X.K f l/\gA X.K c (i0 h c g f) Xg l:=λh c f g s j m o=>
    zn m (Rep.mono s j N u r2) (by rw[o];exact B) (by rw[o];exact YU)
   refine⟨λi h c f g s j m o hi=>?_,λi h c f g x H2 d' s j m o hd T=>?_,λh c f g s j m o=>?_⟩
   ·obtain⟨l,C,E⟩:=key h c f g s j m o.1;obtain⟨zs,G,I⟩:=O h c f g s j m o.2;have hl:=gA.length _ _ E;have YM:=gA.length _ _ I;rw[eY] at hi;exact⟨l,zs,l[i]'(by omega),zs[i]'(by omega),C,G,by simp,by simp⟩
   ·obtain⟨l,C,E⟩:=key h c f g s j m o.1;obtain⟨zs,G,I⟩:=O h c f g s j m o.2;obtain⟨p,rfl,Pd,T⟩:=T;obtain⟨y,z,U,Y,rfl⟩:=T l zs C G;obtain⟨x1,e2,r2⟩:=gA.get' _ _ i y E U;obtain⟨x2,e3,r3⟩:=gA.get' _ _ i z I Y;rw[List.getElem?_zipWith,e2,e3] at hd;cases hd;obtain⟨o2,J⟩:=m.laid (x:=.tup [y,z]) Pd;exact⟨o2,J,kH m Pd (gA.cons r2 (gA.one r3)) J⟩
   ·obtain⟨l,C,E⟩:=key h c f g s j m o.1;obtain⟨zs,G,I⟩:=O h c f g s j m o.2;have hl:=gA.length _ _ E;have YM:=gA.length _ _ I;refine⟨l,zs,C,G,?_⟩;rw[eY];omega
noncomputable def uU(lo:Int)(n:Nat):List D:=(dn n).map λ(i:Nat)=>D.int (lo+(i:Int))
theorem Xi{K:W.Frag}{F r:List aj}{H1:Hp}{M1:Ms}{lo:Int}{n:Nat}:Z5 K F r H1 M1 (Itr lo n) (uU lo n) λ_=>True:=by
 refine⟨λi f g h l m o c q hi=>?_,λi f g h l x v w m o c q hd s=>?_,λf g h l m o c q=>?_⟩
 ·show i<n;simpa[uU] using hi
 ·obtain⟨rfl,rfl⟩:=s;unfold uU at hd;rw[bA] at hd;cases e:(dn n)[i]? with
  |none=>rw[e] at hd;cases hd
  |some j=>
   rw[e] at hd;have:j=i:=by have:=aB.mp e;obtain⟨y,u⟩:=this;simpa using u.symm
   subst this;cases hd;exact⟨c,Ext.refl,i6⟩
 ·show n<=(uU lo n).length;simp[uU]
noncomputable def vI(tt:DA):DI:=λc M Q=>tt c M λds M1=>match ds with
 |[.int j]=>(-(2^62)<=j/\j<2^62)/\Q (uU 0 j.toNat) (λ_=>True) M1
 |_=>False
theorem uw(ha:JA X [a] tt)(hm:X.mg "range"=ao)(h:Gl X "range":=by rfl)(i:aM [a] X.env=[(am,eval a X.env)]:=by rfl):JI X tg (.Call (.Name "range" p) [a] [] pos) (vI tt):=by
 refine⟨λc M P Q w q=>ha.mono c _ _ _ (λds M1 q=>?_) q,PI.weak (Mb h hm ha.p i) λσ H Q q=>?_⟩
 ·match ds,q with
  |[.int j],⟨e,q⟩=>exact⟨e,w _ _ _ q⟩
 ·obtain⟨F,α,c,M,r,q⟩:=q;refine⟨F,α,c,M,r,ha.mono c _ _ _ (λds M1 q o l H1 e1 o1 r1=>?_) q⟩;match ds,q,r1 with
  |[.int j],⟨f,q⟩,r1=>
   obtain⟨v,m,g⟩:=tq r1;subst m;unfold Rep at g;subst g;exact⟨j,rfl,f.1,f.2,q _ l H1 H1 id e1 o1 (OX.refl o1) Xi⟩
end
end L3
namespace L3
open PySem PySem.Spec PyProof.Rows L2
mutual
noncomputable def toP:D->cq
 |.non=>.none
 |.bl b=>.bool b
 |.int i=>.int i
 |.str x=>.str x
 |.tup ds=>.tuple (toPs ds)
 |.lst ds=>.list (toPs ds)
 |.ty _|.lV _ _|.ins _ _ _|.exc _ _ _|.qc _|.loc _|.cls _=>.dict []
noncomputable def toPs:List D->List cq
 |[]=>[]
 |d::ds=>toP d::toPs ds
end
mutual
noncomputable def pl:D->Bool
 |.non|.bl _|.int _=>ah
 |.str x=>bZ x
 |.tup ds|.lst ds=>sJ ds
 |.ty _|.lV _ _|.ins _ _ _|.exc _ _ _|.qc _|.loc _|.cls _=>am
noncomputable def sJ:List D->Bool
 |[]=>ah
 |d::ds=>pl d&&sJ ds
end
mutual
noncomputable def dp:D->Nat
 |.tup ds|.lst ds=>sG ds+1
 |.non|.bl _|.int _|.str _|.ty _|.lV _ _|.ins _ _ _|.exc _ _ _|.qc _|.loc _|.cls _=>0
noncomputable def sG:List D->Nat
 |[]=>0
 |d::ds=>max (dp d) (sG ds)
end
mutual
noncomputable def x8:D->D->Bool
 |.non,.non=>ah
 |.bl a,.bl b=>a==b
 |.bl a,.int j=>(if a then 1 else 0)==j
 |.int i,.bl b=>i==(if b then 1 else 0)
 |.int i,.int j=>i==j
 |.str x,.str y=>x==y
 |.lst xs,.lst c=>zd xs c
 |.tup xs,.tup c=>zd xs c
 |_,_=>am
noncomputable def zd:List D->List D->Bool
 |[],[]=>ah
 |x::xs,y::c=>x8 x y&&zd xs c
 |_,_=>am
end
mutual
theorem toP_lay:∀d:D,pl d=ah->(toP d).canLay0=ah
 |.non,_=>rfl
 |.bl _,_=>rfl
 |.int _,_=>rfl
 |.str _,h=>by unfold toP;unfold pl at h;simpa[cq.canLay0] using h
 |.tup ds,h=>by unfold toP;unfold pl at h;simp[cq.canLay0,toPs_lay ds h]
 |.lst ds,h=>by unfold toP;unfold pl at h;simp[cq.canLay0,toPs_lay ds h]
 |.ty _,h|.lV _ _,h|.ins _ _ _,h|.exc _ _ _,h|.qc _,h|.loc _,h|.cls _,h=>by unfold pl at h;cases h
theorem toPs_lay:∀ds:List D,sJ ds=ah->cq.canLayAll0 (toPs ds)=ah
 |[],_=>by unfold toPs;rfl
 |d::ds,h=>by unfold sJ at h;rw[aH] at h;unfold toPs;simp[cq.canLayAll0,toP_lay d h.1,toPs_lay ds h.2]
end
mutual
theorem toP_depth:∀d:D,(toP d).depth<=dp d+1
 |.non|.bl _|.int _|.str _=>by unfold toP;simp[cq.depth]
 |.tup ds=>by unfold toP dp;have:=toPs_depth ds;simp only [cq.depth];omega
 |.lst ds=>by unfold toP dp;have:=toPs_depth ds;simp only [cq.depth];omega
 |.ty _|.lV _ _|.ins _ _ _|.exc _ _ _|.qc _|.loc _|.cls _=>by unfold toP;simp[cq.depth,cq.depthKv]
theorem toPs_depth:∀ds:List D,cq.depthAll (toPs ds)<=sG ds+1
 |[]=>by unfold toPs;simp[cq.depthAll]
 |d::ds=>by unfold toPs sG;have a:=toP_depth d;have b:=toPs_depth ds;simp only [cq.depthAll];omega
end
mutual
theorem toP_eqv:∀x y:D,pl x=ah->pl y=ah->(toP x).eqv (toP y)=x8 x y
 |.non,y,_,h=>by cases y<;>first|(unfold pl at h;cases h;done)|(unfold toP x8;rfl)
 |.bl a,y,_,h=>by cases y<;>first|(unfold pl at h;cases h;done)|(unfold toP x8;rfl)
 |.int a,y,_,h=>by cases y<;>first|(unfold pl at h;cases h;done)|(unfold toP x8;rfl)
 |.str a,y,_,h=>by cases y<;>first|(unfold pl at h;cases h;done)|(unfold toP x8;rfl)
 |.tup xs,y,g,h=>by
  cases y<;>first|(unfold pl at h;cases h;done)|skip
  case tup b=>unfold pl at g h;unfold toP x8;simp only [cq.eqv];exact toPs_eqv xs b g h
  all_goals unfold toP x8;rfl
 |.lst xs,y,g,h=>by
  cases y<;>first|(unfold pl at h;cases h;done)|skip
  case lst b=>unfold pl at g h;unfold toP x8;simp only [cq.eqv];exact toPs_eqv xs b g h
  all_goals unfold toP x8;rfl
 |.ty _,_,g,_|.lV _ _,_,g,_|.ins _ _ _,_,g,_|.exc _ _ _,_,g,_|.qc _,_,g,_|.loc _,_,g,_|.cls _,_,g,_=>by unfold pl at g;cases g
theorem toPs_eqv:∀x y:List D,sJ x=ah->sJ y=ah->cq.eqvAll (toPs x) (toPs y)=zd x y
 |[],[],_,_=>by unfold toPs zd;rfl
 |[],y::b,_,_=>by unfold toPs zd;rfl
 |x::xs,[],_,_=>by unfold toPs zd;rfl
 |x::xs,y::b,g,h=>by unfold sJ at g h;rw[aH] at g h;unfold toPs zd;simp only [cq.eqvAll];rw[toP_eqv x y g.1 h.1,toPs_eqv xs b g.2 h.2]
end
mutual
theorem Rep.reads {X:Cx} {pins:List (aj×bS)} {σ:L2.St} {H:Hp} {s:ai} {α:List aj} (I:Inv X pins σ H s):∀(d:D) (x:V) (v:af),Rep X.K α H d x->RelV x v->pl d=ah->∃as,Reads s.heap v (toP d) as
 |.non,x,v,h,r,_=>by unfold Rep at h;subst h;cases r;unfold toP;exact⟨_,.none⟩
 |.bl _,x,v,h,r,_=>by unfold Rep at h;subst h;cases r;unfold toP;exact⟨_,.bool _⟩
 |.int _,x,v,h,r,_=>by unfold Rep at h;subst h;obtain⟨t,rfl⟩:=r;unfold toP;exact⟨_,.int _ _⟩
 |.str _,x,v,h,r,_=>by unfold Rep at h;subst h;obtain⟨t,rfl⟩:=r;unfold toP;exact⟨_,.str _ _⟩
 |.tup ds,x,v,h,r,c=>by unfold Rep at h;obtain⟨a,b,rfl,q,z⟩:=h;cases r;obtain⟨g8,f,⟨o,e,cl,n,dd⟩,_⟩:=I.tuple q;obtain⟨as,w⟩:=gA.reads I ds b g8 z f (by unfold pl at c;exact c);unfold toP;exact⟨_,.tuple e cl dd (by simpa using w)⟩
 |.lst ds,x,v,h,r,c=>by unfold Rep at h;obtain⟨a,b,rfl,q,z⟩:=h;cases r;obtain⟨_,g8,n,f,e⟩:=I.iJ a _ q;obtain⟨as,w⟩:=gA.reads I ds b g8 z f (by unfold pl at c;exact c);unfold toP;exact⟨_,.list e rfl rfl (by simpa using w)⟩
 |.ty _,x,v,h,r,c|.lV _ _,x,v,h,r,c|.ins _ _ _,x,v,h,r,c|.exc _ _ _,x,v,h,r,c|.qc _,x,v,h,r,c|.loc _,x,v,h,r,c|.cls _,x,v,h,r,c=>by unfold pl at c;cases c
theorem gA.reads {X:Cx} {pins:List (aj×bS)} {σ:L2.St} {H:Hp} {s:ai} {α:List aj} (I:Inv X pins σ H s):∀(ds:List D) (xs:List V) (b:List af),gA X.K α H ds xs->Vals xs b->sJ ds=ah->∃as,ReadsAll s.heap b (toPs ds) as
 |[],xs,b,h,r,_=>by unfold gA at h;subst h;cases r;unfold toPs;exact⟨_,.nil⟩
 |d::ds,xs,b,h,r,c=>by
  unfold gA at h;obtain⟨x,g,rfl,q,z⟩:=h;unfold sJ at c;rw[aH] at c;unfold toPs;cases r with
  |cons r1 r2=>
   obtain⟨as,i⟩:=Rep.reads I d x _ q r1 c.1;obtain⟨bs,j⟩:=gA.reads I ds g _ z r2 c.2;exact⟨_,.cons i j⟩
end
theorem mJ{d:D}(h:pl d=ah)(hd:dp d<=60):SeqAt.shaped (toP d)=ah:=by unfold SeqAt.shaped;have:=toP_depth d;rw[toP_lay d h,bE];exact decide_eq_true (by omega)
section
variable {X:Cx}
def okE (x y:D):Prop:=pl x=ah/\pl y=ah/\dp x<=60/\dp y<=60
def FD (x y:D)(Q:Bool->Prop):Prop:=match x,y with
 |.str a,.str b=>Q (a==b)
 |.int a,.int b=>Q (a==b)
 |x,y=>okE x y/\Q (x8 x y)
theorem Ct{x y:D}{P Q:Bool->Prop}(w:∀b,P b->Q b)(h:FD x y P):FD x y Q:=by
 unfold FD at h ⊢;split<;>simp only at h
 ·exact w _ h
 ·exact w _ h
 ·exact⟨h.1,w _ h.2⟩
noncomputable def mF:G2:=λx y M Q=>FD (vw M x) (vw M y) λb=>Q (.bl b) M
noncomputable def ze:G2:=λx y M Q=>FD (vw M x) (vw M y) λb=>Q (.bl (!b)) M
theorem Lb(n:X.A.units+64<adb){pins:List (aj×bS)}{s:ai}{σ:L2.St}{H:Hp}{x y:V}{v u:af}(I:L2.Inv X pins σ H s)(f:RelV x v)(g:RelV y u){F α:List aj}{M:Ms}{p q:D}(o:OK X.K F α H M)
(i:Rep X.K α (i0 F α M H) p x)(j:Rep X.K α (i0 F α M H) q y){C:Bool->Prop}(h:FD (vw M p) (vw M q) C){Q:VK}(neg:Bool)(c:∀b,C b->Q (.bl (if neg then !b else b)) H):
  wpAny (model X.prog X.w) X.A (compareOp (if neg then .NotEq else .Eq) v u) (EP X pins σ Q) X.xe s:=by
 unfold FD at h;split at h
 ·rename_i a b e1 e2;cases lY e1;cases lY e2;unfold Rep at i j;subst i j;have e:decide (V.str a=V.str b)=(a==b):=C8;cases neg with
  |false=>exact Vh pins s σ H _ _ v u Q I f g ⟨rfl,by rw[e];exact c _ h⟩
  |true=>exact Vi pins s σ H _ _ v u Q I f g ⟨rfl,by rw[e];exact c _ h⟩
 ·rename_i a b e1 e2;cases vF e1;cases vF e2;unfold Rep at i j;subst i j;have e:decide (V.int a=V.int b)=(a==b):=C7;cases neg with
  |false=>exact Vh pins s σ H _ _ v u Q I f g ⟨rfl,by rw[e];exact c _ h⟩
  |true=>exact Vi pins s σ H _ _ v u Q I f g ⟨rfl,by rw[e];exact c _ h⟩
 ·obtain⟨⟨l,m,r,z⟩,h⟩:=h;obtain⟨as,B⟩:=Rep.reads I _ x v (Rep.mono (aX _) hV _ _ (xY o _ _ i)) f l;obtain⟨bs,E⟩:=Rep.reads I _ y u (Rep.mono (aX _) hV _ _ (xY o _ _ j)) g m;cases neg with
  |false=>
   refine eq_dataH B E (mJ l r) (mJ m z) n ⟨.bl _,H,I,rfl,?_⟩;rw[toP_eqv _ _ l m];exact c _ h
  |true=>
   refine ne_dataH B E (mJ l r) (mJ m z) n ⟨.bl _,H,I,rfl,?_⟩;rw[toP_eqv _ _ l m];exact c _ h
theorem jf(a:X.A.units+64<adb):JC X .Eq mF:=by refine⟨λx y M P Q w q=>Ct (λb q=>w _ _ q) q,λpins s σ H x y v u Q I c e h=>?_⟩;obtain⟨F,α,M,i,j,o,f,g,h⟩:=h;exact Lb a I c e o f g h am λb q=>vK.now o q ja
theorem sD(a:X.A.units+64<adb):JC X .NotEq ze:=by refine⟨λx y M P Q w q=>Ct (λb q=>w _ _ q) q,λpins s σ H x y v u Q I c e h=>?_⟩;obtain⟨F,α,M,i,j,o,f,g,h⟩:=h;exact Lb a I c e o f g h ah λb q=>vK.now o q ja
noncomputable def fl:D->Bool
 |.non|.bl _|.int _|.str _=>ah
 |_=>am
noncomputable def vOf:D->V
 |.bl b=>.bl b
 |.int i=>.int i
 |.str x=>.str x
 |_=>.non
theorem Ae{K:W.Frag}{α:List aj}{H:Hp}{d:D}{v:V}(h:fl d=ah)(r:Rep K α H d v):v=vOf d/\uZ v=ah:=by
 cases d<;>first|(cases h;done)|skip
 all_goals unfold Rep at r;subst r;exact⟨rfl,rfl⟩
theorem aan{x y:D}(h:fl x=ah)(g:fl y=ah):SH (vOf x) (vOf y)=x8 x y:=by
 cases x<;>first|(cases h;done)|skip
 all_goals cases y<;>first|(cases g;done)|(unfold x8;rfl)
theorem wV{K:W.Frag}{α:List aj}{H:Hp}{x:D}(b:fl x=ah):∀(ds:List D) (a:List V),ds.all fl=ah->gA K α H ds a->a.all uZ=ah/\inV (vOf x) a=ds.any λy=>x8 y x
 |[],a,_,h=>by unfold gA at h;subst h;exact⟨rfl,rfl⟩
 |d::ds,a,g,h=>by unfold gA at h;obtain⟨v,r,rfl,z,y⟩:=h;rw[cT,aH] at g;obtain⟨e,c⟩:=wV b ds r g.2 y;obtain⟨e1,e2⟩:=Ae g.1 z;subst e1;refine⟨by rw[cT,e2,e];rfl,?_⟩;unfold inV at c ⊢;rw[cR,cR,aan g.1 b,c]
theorem yN{K:W.Frag}{α:List aj}{H:Hp}{k:Key}{a:List Key}{ds:List D}{b:List V}(h:gA K α H ds b)(c:a.length=ds.length):(vA (a.zip b) k).isSome=(BE k a ds).isSome:=by
 obtain⟨f,g⟩:=z0 (k:=k) a ds b h c;cases e:BE k a ds with
 |none=>rw[g e];rfl
 |some d=>obtain⟨j,i,_⟩:=f d e;rw[i];rfl
noncomputable def VD(x y:D):Option Bool:=match y with
 |.lst ds=>if(fl x&&ds.all fl)=ah then aa (ds.any λy=>x8 y x) else ao
 |.tup ds=>if(fl x&&ds.all fl)=ah then aa (ds.any λy=>x8 y x) else ao
 |.str j=>match x with
  |.str i=>aa (!(dQ j i 0 j.length 1).isEmpty)
  |_=>ao
 |.lV a ds=>match W6 x with
  |some k=>aa (BE k a ds).isSome
  |none=>ao
 |_=>ao
noncomputable def NU(neg:Bool):G2:=λx y M Q=>∃b,VD x (vw M y)=aa b/\Q (.bl (if neg then !b else b)) M
theorem FE{neg:Bool}:yJ (NU neg):=λx y M P Q w ⟨b,e,q⟩=>⟨b,e,w _ _ q⟩
theorem FF(B:X.A.units+1<adb):JC X .In (NU am):=by
 refine⟨FE,λpins s σ H x y v u Q I j l h=>?_⟩;obtain⟨F,α,M,C,E,o,f,g,b,c,h⟩:=h;generalize e1:vw M E=z at c;unfold VD at c;cases z<;>first|(cases c;done)|skip
 ·have e2:=lY e1;subst e2;unfold Rep at g;subst g;cases C<;>first|(cases c;done)|skip
  unfold Rep at f;subst f;cases c;exact Mg pins s σ H _ _ v u Q I j l ⟨_,_,rfl,rfl,vK.now o h ja⟩
 ·obtain⟨a,m,rfl,q,i⟩:=mI o g e1;simp only at c;split at c
  ·rename_i e;rw[aH] at e;cases c;obtain⟨n,p⟩:=Ae e.1 f;obtain⟨r,w⟩:=wV e.1 _ _ e.2 i;refine Cm pins s σ H _ _ v u Q I j l ⟨a,m,rfl,.inr q,p,r,?_⟩;subst n;rw[w];exact vK.now o h ja
  ·cases c
 ·obtain⟨a,m,rfl,q,i⟩:=j6 o g e1;simp only at c;split at c
  ·rename_i e;rw[aH] at e;cases c;obtain⟨n,p⟩:=Ae e.1 f;obtain⟨r,w⟩:=wV e.1 _ _ e.2 i;refine Cm pins s σ H _ _ v u Q I j l ⟨a,m,rfl,.inl (pH.of q),p,r,?_⟩;subst n;rw[w];exact vK.now o h ja
  ·cases c
 ·obtain⟨a,m,rfl,q,G,i⟩:=xZ o g e1;simp only at c;split at c
  ·rename_i k J;cases c;cases zZ f J;obtain rfl:u=aN a:=l;refine abZ B I (wL.kr q) j λN L=>⟨.bl _,H,L,rfl,?_⟩;rw[yN i G];exact vK.now o h ja
  ·cases c
theorem Af(B:X.A.units+1<adb):JC X .NotIn (NU ah):=by
 refine⟨FE,λpins s σ H x y v u Q I j l h=>?_⟩;obtain⟨F,α,M,C,E,o,f,g,b,c,h⟩:=h;generalize e1:vw M E=z at c;unfold VD at c;cases z<;>first|(cases c;done)|skip
 ·have e2:=lY e1;subst e2;unfold Rep at g;subst g;cases C<;>first|(cases c;done)|skip
  unfold Rep at f;subst f;cases c;exact C9 pins s σ H _ _ v u Q I j l ⟨_,_,rfl,rfl,vK.now o h ja⟩
 ·obtain⟨a,m,rfl,q,i⟩:=mI o g e1;simp only at c;split at c
  ·rename_i e;rw[aH] at e;cases c;obtain⟨n,p⟩:=Ae e.1 f;obtain⟨r,w⟩:=wV e.1 _ _ e.2 i;refine wO pins s σ H _ _ v u Q I j l ⟨a,m,rfl,.inr q,p,r,?_⟩;subst n;rw[w];exact vK.now o h ja
  ·cases c
 ·obtain⟨a,m,rfl,q,i⟩:=j6 o g e1;simp only at c;split at c
  ·rename_i e;rw[aH] at e;cases c;obtain⟨n,p⟩:=Ae e.1 f;obtain⟨r,w⟩:=wV e.1 _ _ e.2 i;refine wO pins s σ H _ _ v u Q I j l ⟨a,m,rfl,.inl (pH.of q),p,r,?_⟩;subst n;rw[w];exact vK.now o h ja
  ·cases c
 ·obtain⟨a,m,rfl,q,G,i⟩:=xZ o g e1;simp only at c;split at c
  ·rename_i k J;cases c;cases zZ f J;obtain rfl:u=aN a:=l;refine Sx B I (wL.kr q) j λN L=>⟨.bl _,H,L,rfl,?_⟩;rw[yN i G];exact vK.now o h ja
  ·cases c
end
end L3
namespace L3
open PySem PySem.Spec PyProof.Rows L2
section
variable {X:Cx} {a b c e:bh} {es rest:List bh} {ta tb tc te:DE} {tA:DT} {tt:DA} {pos p p2 p3:c7} {x:ay}
abbrev DO:=kF->Ms->(Option Int->Ms->Prop)->Prop
noncomputable def lO(K:W.Frag)(t:DO):TO:=λσ H Q=>∃F α g M,R K F α H σ g M/\t g M λi h=>∀j f,Ext F α H M j f h->OK K F j f h->Q i f
structure JOp(X:Cx)(e:Option bh)(t:DO):Prop where
 mono:∀δ M (P Q:Option Int->Ms->Prop),(∀d M,P d M->Q d M)->t δ M P->t δ M Q
 p:PO X e (lO X.K t)
theorem PO.weak{e:Option bh}{t f:TO}(h:PO X e t)(w:∀σ H Q,f σ H Q->t σ H Q):PO X e f:=by intro pins s σ H Q I q;exact h pins s σ H Q I (w σ H Q q)
noncomputable def j7:DO:=λ_ M Q=>Q ao M
noncomputable def oP(te:DE):DO:=λf M Q=>te f M λd M1=>match d with|.int i=>Q (aa i) M1|_=>False
theorem nk:JOp X ao j7:=⟨λf M P Q w q=>w _ _ q,PO.weak SA λσ H Q ⟨F,α,f,M,r,q⟩=>q α H Ext.refl r.ok⟩
theorem nq(h:JE X e te):JOp X (aa e) (oP te):=by
 refine⟨λf M P Q w q=>h.mono f _ _ _ (λd M1 q=>?_) q,PO.weak (SD h.p) λσ H Q q=>?_⟩
 ·cases d<;>first|exact q.elim|exact w _ _ q
 ·obtain⟨F,α,f,M,r,q⟩:=q;refine⟨F,α,f,M,r,h.mono f _ _ _ (λd M1 q v g H1 e1 o1 r1=>?_) q⟩;cases d<;>first|exact q.elim|skip
  unfold Rep at r1;exact⟨_,r1,q g H1 e1 o1⟩
noncomputable def IC(te:DE)(tl th:DO):DE:=λg M Q=>te g M λd M1=>tl g M1 λlo M2=>th g M2 λhi f=>match vw f d with
 |.lst xs=>Q (.lst (cutD xs lo hi)) f
 |.qc xs=>Q (.lst (cutD (xs.map D.int) lo hi)) f
 |.tup xs=>¬(HT.lH xs.length 0 lo=0/\HT.lH xs.length xs.length hi=xs.length)/\Q (.tup (cutD xs lo hi)) f
 |.str z=>z.length<=aE/\Q (.str (Txt.slice z lo hi)) f
 |_=>False
theorem FG{lo hi:Option bh}{tl th:DO}(A:JE X e te)(n:JOp X lo tl)(B:JOp X hi th):JE X (.Subscript e (.Slice lo hi ao p2) pos) (IC te tl th):=by
 refine⟨λg M P Q w q=>A.mono g _ _ _ (λd M1 q=>n.mono g _ _ _ (λi M2 q=>B.mono g _ _ _ (λj f q=>?_) q) q) q,PE.weak (Oy (SG.or (WC.or WW)) A.p n.p B.p) λσ H Q q=>?_⟩
 ·generalize vw f d=z at q ⊢;cases z<;>first|exact q.elim|exact w _ _ q|exact⟨q.1,w _ _ q.2⟩
 ·obtain⟨F,α,g,M,r,q⟩:=q;refine⟨F,α,g,M,r,A.mono g _ _ _ (λd M1 q v E H1 e1 o1 r1=>⟨F,E,g,M1,r.grow e1 o1,n.mono g _ _ _ (λi M2 q G I e2 o2=>⟨F,G,g,M2,r.grow (e1.trans e2) o2,B.mono g _ _ _ (λj f q s u e3 o3=>?_) q⟩) q⟩) q⟩;have uu:=(e1.trans e2).trans e3;have m:=(e2.trans e3).rep r1;have h:(match vw f d with
   |.lst xs=>vK X.K F s u f Q (.lst (cutD xs i j)) f
   |.qc xs=>vK X.K F s u f Q (.lst (cutD (xs.map D.int) i j)) f
   |.tup xs=>¬(HT.lH xs.length 0 i=0/\HT.lH xs.length xs.length j=xs.length)/\vK X.K F s u f Q (.tup (cutD xs i j)) f
   |.str z=>z.length<=aE/\vK X.K F s u f Q (.str (Txt.slice z i j)) f
   |_=>False):=by generalize vw f d=z at q ⊢;cases z<;>first|exact q.elim|exact vK.grow uu _ _ q|exact⟨q.1,vK.grow uu _ _ q.2⟩
  clear q;generalize ez:vw f d=z at h;cases z<;>first|exact h.elim|skip
  ·cases lY ez;unfold Rep at m;exact .inr (.inr ⟨_,m,h.1,vK.now o3 h.2 pL⟩)
  ·obtain⟨a,C,rfl,o,y⟩:=mI o3 m ez;have n:=gA.length _ _ y;refine .inr (.inl ⟨a,C,rfl,o,by rw[<-n];exact h.1,λp l=>vK.new o3 l h.2 (kH o3 l (gA.cut y i j))⟩)
  ·obtain⟨a,C,rfl,o,y⟩:=j6 o3 m ez;exact .inl ⟨a,C,rfl,pH.of o,λp l=>vK.new o3 l h (nj o3 l (gA.cut y i j))⟩
  ·cases sY ez;unfold Rep at m;obtain⟨a,rfl,o⟩:=m;refine .inl ⟨a,_,rfl,kj hV o,λp l=>vK.new o3 l h (nj o3 l (gA.cut (gA.of_map _ _ (λc=>i6) _) i j))⟩
noncomputable def FH(te:DE):DE:=λf M Q=>te f M λd M1=>match d with|.int i=>Q (.int (-i)) M1|_=>False
theorem FI(h:JE X e te):JE X (.UnaryOp .USub e pos) (FH te):=by
 refine⟨λf M P Q w q=>h.mono f _ _ _ (λd M1 q=>?_) q,PE.weak (Zp Wu h.p) λσ H Q q=>?_⟩
 ·cases d<;>first|exact q.elim|exact w _ _ q
 ·obtain⟨F,α,f,M,r,q⟩:=q;refine⟨F,α,f,M,r,h.mono f _ _ _ (λd M1 q v g H1 e1 o1 r1=>?_) q⟩;cases d<;>first|exact q.elim|skip
  unfold Rep at r1;exact⟨_,r1,q _ g H1 e1 o1 i6⟩
noncomputable def nY:G2:=λx y M Q=>match vw M x,y with
 |.int i,.int j=>Me i j/\Q (.int (i*j)) M
 |.lst xs,.int k=>(-(2^63)<=k/\k<2^63/\xs.length*k.toNat<=aE)/\Q (.lst (aw k.toNat xs).flatten) M
 |.str z,.int k=>afe z k/\Q (.str (Txt.mul z k)) M
 |_,_=>False
theorem ID:sH X (binaryOp .Mult) (λx y H Q=>∃z k,x=.str z/\y=.int k/\afe z k/\Q (.str (Txt.mul z k)) H):=by intro pins s σ H x y v u Q I f g h;obtain⟨z,k,rfl,rfl,ok,q⟩:=h;obtain⟨t,rfl⟩:=f;obtain⟨i,rfl⟩:=g;exact SB.mul ok λi k=>⟨.str _,H,I.tok _,⟨_,rfl⟩,q⟩
theorem l4:JO X .Mult nY:=by
 refine⟨λx y M P Q w q=>?_,λpins s σ H x y v u Q I i j h=>?_⟩
 ·unfold nY at q ⊢;generalize vw M x=a at q ⊢;split at q<;>first|exact q.elim|exact⟨q.1,w _ _ q.2⟩
 ·obtain⟨F,α,M,n,A,o,g,f,h⟩:=h;unfold nY at h;generalize e1:vw M n=a at h;split at h<;>first|exact h.elim|skip
  ·cases vF e1;unfold Rep at g f;exact Ws pins s σ H x y v u Q I i j ⟨_,_,g,f,h.1,vK.now o h.2 i6⟩
  ·obtain⟨a,r,rfl,z,l⟩:=j6 o g e1;unfold Rep at f;subst f;have l1:=gA.length _ _ l;exact WO pins s σ H _ _ v u Q I i j ⟨a,_,r,rfl,rfl,z,h.1.1,h.1.2.1,by rw[<-l1];exact h.1.2.2,λp m=>vK.new o m h.2 (nj o m (gA.rep l _))⟩
  ·cases lY e1;unfold Rep at g f;exact ID pins s σ H x y v u Q I i j ⟨_,_,g,f,h.1,vK.now o h.2 pL⟩
noncomputable def MC:D->Option Nat
 |.lst ds=>aa ds.length
 |.tup ds=>aa ds.length
 |.qc ns=>aa ns.length
 |.str z=>if z.length<=aE then aa z.length else ao
 |.lV f _=>aa f.length
 |_=>ao
noncomputable def lu:GN:=λds M Q=>match ds with
 |[d]=>∃n:Nat,MC (vw M d)=aa n/\Q (.int n) M
 |_=>False
theorem jl:JB X (.builtin "len") lu:=by
 refine⟨λds M P Q w q=>?_,λpins s σ H xs us Q I rs h=>?_⟩
 ·match ds,q with
  |[d],⟨n,e,q⟩=>exact⟨n,e,w _ _ q⟩
 ·obtain⟨F,α,M,ds,o,u,h⟩:=h;match ds,h,u with
  |[d],⟨n,f,q⟩,u=>
   obtain⟨v,C,g⟩:=tq u;subst C;generalize e1:vw M d=z at f;cases z<;>first|(cases f;done)|skip
   ·cases lY e1;unfold Rep at g;subst g;rename_i y _;have f:(if y.length<=aE then aa y.length else ao)=aa n:=f;by_cases A:y.length<=aE
    ·rw[if_pos A] at f;cases f;exact Dg pins s σ H _ us Q I rs ⟨_,rfl,A,vK.now o q i6⟩
    ·rw[if_neg A] at f;cases f
   ·cases f;obtain⟨a,r,rfl,i,j⟩:=mI o g e1;have l:=gA.length _ _ j;refine qY pins s σ H _ us Q I rs ⟨a,r,rfl,.inr i,?_⟩;rw[<-l];exact vK.now o q i6
   ·cases f;obtain⟨a,r,rfl,i,j⟩:=j6 o g e1;have l:=gA.length _ _ j;refine qY pins s σ H _ us Q I rs ⟨a,r,rfl,.inl (pH.of i),?_⟩;rw[<-l];exact vK.now o q i6
   ·cases f;obtain⟨a,r,rfl,i,m,j⟩:=xZ o g e1;have l:=gA.length _ _ j;obtain⟨G,rfl,B⟩:=vals1 rs;cases B;refine ZE I i λt J E=>⟨.int _,H,E,⟨t,rfl⟩,?_⟩;rw[List.length_zip,<-l,m,Nat.min_self,<-m];exact vK.now o q i6
   ·cases sY e1;cases f;unfold Rep at g;obtain⟨a,rfl,i⟩:=g;refine qY pins s σ H _ us Q I rs ⟨a,_,rfl,.inl (kj hV i),?_⟩;rw[ap];exact vK.now o q i6
noncomputable def IE:GN:=λds M Q=>match ds with
 |[d]=>∃bs:List Bool,vw M d=.lst (bs.map D.bl)/\Q (.bl (bs.all id)) M
 |_=>False
theorem FK{K:W.Frag}{α:List aj}{H:Hp}:∀(bs:List Bool) (f:List V),gA K α H (bs.map D.bl) f->f=bs.map V.bl
 |[],f,h=>by unfold gA at h;exact h
 |b::bs,f,h=>by rw[aR] at h;unfold gA at h;obtain⟨v,r,rfl,z,y⟩:=h;unfold Rep at z;subst z;rw[FK bs r y];rfl
theorem Ag(g:X.calm=ah:=by rfl):JB X (.builtin "all") IE:=by
 refine⟨λds M P Q w q=>?_,λpins s σ H xs us Q I rs h=>?_⟩
 ·match ds,q with
  |[d],⟨n,e,q⟩=>exact⟨n,e,w _ _ q⟩
 ·obtain⟨F,α,M,ds,o,f,h⟩:=h;match ds,h,f with
  |[d],⟨bs,i,q⟩,f=>
   obtain⟨v,j,l⟩:=tq f;subst j;obtain⟨a,m,rfl,r,u⟩:=j6 o l i;have:=FK bs m u;subst this;exact OO g pins s σ H _ us Q I rs ⟨a,bs,rfl,pH.of r,vK.now o q ja⟩
noncomputable def kd:D->Option String
 |.non=>aa "NoneType"
 |.bl _=>aa "bool"
 |.int _=>aa "int"
 |.str _=>aa "str"
 |.tup _=>aa "tuple"
 |.lst _|.qc _=>aa "list"
 |.lV _ _=>aa "dict"
 |_=>ao
noncomputable def isK(k n:String):Option Bool:=if(["int","bool","str","tuple","list","dict"].contains n&&["NoneType","bool","int","str","tuple","list","dict"].contains k)=ah then aa (k==n||(k=="bool"&&n=="int")) else ao
noncomputable def u6(n:String)(d:D):Option Bool:=match kd d with
 |some k=>isK k n
 |none=>ao
theorem Tn{K:W.Frag}:(["int","bool","str","tuple","list","dict"].all λn=>["NoneType","bool","int","str","tuple","list","dict"].all λk=>W.kitOne K (.type k) (.type n)==isK k n)=ah:=rfl
theorem To{K:W.Frag}{k n:String}{b:Bool}(h:isK k n=aa b):W.kitOne K (.type k) (.type n)=aa b:=by
 have g:=h;unfold isK at h;split at h
 ·rename_i f;rw[aH,List.contains_iff_mem,List.contains_iff_mem] at f;rw[eq_of_beq (bM.mp (bM.mp (Tn (K:=K)) n f.1) k f.2),g]
 ·cases h
structure Lc(K:W.Frag)(C:aj):Prop where
 cl:Mi K C
 ha:W.findIn K (.ref C) "__class__"=aa (aa (.builtin "object.__class__"))
 hn:W.specialIn K (.builtin "object.__class__") "__get__"=aa (aa (.builtin "getset_descriptor.__get__"))
 YK:W.takesIn K (.builtin "object.__class__")=aa ah
 hm:W.mroIn K C (.type "object")=aa ah
noncomputable def tyv:D->Option af
 |.non=>aa (.type "NoneType")
 |.bl _=>aa (.type "bool")
 |.int _=>aa (.type "int")
 |.str _=>aa (.type "str")
 |.tup _=>aa (.type "tuple")
 |.lst _|.qc _=>aa (.type "list")
 |.lV _ _=>aa (.type "dict")
 |.ins C _ _=>aa (.ref C)
 |_=>ao
theorem Tp{K:W.Frag}{n:String}{d:D}{b:Bool}(h:u6 n d=aa b):∃t,tyv d=aa t/\W.kitOne K t (.type n)=aa b/\∀C ns es,d≠.ins C ns es:=by cases d<;>first|(cases h;done)|exact⟨_,rfl,To h,λ_ _ _ z=>by cases z⟩
theorem FL{pins:List (aj×bS)}{s:ai}{σ:L2.St}{H:Hp}(I:L2.Inv X pins σ H s){F α:List aj}{M:Ms}{d:D}{x:V}{u t c:af}{v:Bool}{Q:af->ai->Prop}(o:OK X.K F α H M)(r:Rep X.K α (i0 F α M H) d x)(g:RelV x u)
(f:tyv (vw M d)=aa t)(hi:∀C ns es,vw M d=.ins C ns es->Lc X.K C)(e:W.kitOne X.K t c=aa v)(h:∀tk,Q (.bool v) {s with toks:=tk}):wpAny (model X.prog X.w) X.A (call (.builtin "isinstance") [u,c]) Q X.xe s:=by
 generalize e1:vw M d=z at f hi;cases z<;>first|(cases f;done)|skip
 case non=>
  have:d=.non:=by cases d with
   |loc k=>rcases rj e1 with e|⟨y,B,e⟩<;>first|cases e|(cases y<;>cases e)
   |_=>exact e1
  subst this;unfold Rep at r;subst r;cases f;exact oC I g .non e h
 case bl E=>
  have:d=.bl E:=by cases d with
   |loc k=>rcases rj e1 with e|⟨y,B,e⟩<;>first|cases e|(cases y<;>cases e)
   |_=>exact e1
  subst this;unfold Rep at r;subst r;cases f;exact oC I g (.bl _) e h
 case int=>
  cases vF e1;unfold Rep at r;subst r;cases f;exact oC I g (.int _) e h
 case str=>
  cases lY e1;unfold Rep at r;subst r;cases f;exact oC I g (.str _) e h
 case tup=>
  cases f;obtain⟨a,m,rfl,i,q⟩:=mI o r e1;obtain rfl:u=aN a:=g;obtain⟨g8,G,⟨ob,j,l,_⟩,_⟩:=I.tuple i;exact W.kia_one W.kitx_tuple I.nN ⟨ob,j,l⟩ e (λz=>nomatch z) h
 case lst=>
  cases f;obtain⟨a,m,rfl,i,q⟩:=j6 o r e1;exact oC I g (.lst i) e h
 case lV=>
  cases f;obtain⟨a,m,rfl,i,J,q⟩:=xZ o r e1;obtain rfl:u=aN a:=g;obtain⟨_,_,L,_,ob,_,_,j,l,_⟩:=Ck I.iJ i;exact W.kia_one W.kitx_dict I.nN ⟨ob,j,l.1⟩ e (λz=>nomatch z) h
 case ins=>
  cases f;obtain⟨a,N,m,rfl,i,J,q⟩:=Iv o r e1;have k:=hi _ _ _ rfl;exact oC I g (.ins i k.cl k.ha k.hn k.YK k.hm) e h
 case qc=>
  cases f;cases sY e1;unfold Rep at r;obtain⟨a,rfl,i⟩:=r;obtain rfl:u=aN a:=g;obtain⟨g8,G,⟨ob,n,j,l,_⟩,_⟩:=I.list (kj hV i);exact W.kia_one W.kitx_list I.nN ⟨ob,j,l⟩ e (λz=>nomatch z) h
noncomputable def lg(K:W.Frag):GN:=λds M Q=>match ds with
 |[d,.ty n]=>∃b,u6 n (vw M d)=aa b/\Q (.bl b) M
 |[d,.cls C]=>∃t b,tyv (vw M d)=aa t/\(∀C ns es,vw M d=.ins C ns es->Lc K C)/\W.kitOne K t (.ref C)=aa b/\Q (.bl b) M
 |_=>False
theorem jw:JB X (.builtin "isinstance") (lg X.K):=by
 refine⟨λds M P Q w q=>?_,λpins s σ H xs us Q I rs h=>?_⟩
 ·match ds,q with
  |[d,.ty n],⟨b,e,q⟩=>exact⟨b,e,w _ _ q⟩
  |[d,.cls n],⟨t,b,e1,e2,e3,q⟩=>exact⟨t,b,e1,e2,e3,w _ _ q⟩
 ·obtain⟨F,α,M,ds,o,f,h⟩:=h;match ds,h,f with
  |[d,.ty n],⟨b,e,q⟩,f=>
   obtain⟨v,u,g,r1,r2⟩:=Ad f;subst g;unfold Rep at r2;subst r2;obtain⟨m,i,rfl,j,l⟩:=vals2 rs;obtain rfl:i=fi n:=l;obtain⟨t,e1,e2,e3⟩:=Tp (K:=X.K) e;exact FL I o r1 j e1 (λC ns es z=>absurd z (e3 C ns es)) e2 λtk=>⟨.bl b,H,I.tok tk,rfl,vK.now o q ja⟩
  |[d,.cls C],⟨t,b,e1,e2,e3,q⟩,f=>
   obtain⟨v,u,g,r1,r2⟩:=Ad f;subst g;unfold Rep at r2;subst r2;obtain⟨m,i,rfl,j,l⟩:=vals2 rs;obtain rfl:i=aN C:=l;exact FL I o r1 j e1 e2 e3 λtk=>⟨.bl b,H,I.tok tk,rfl,vK.now o q ja⟩
noncomputable def tu:GN:=λds M Q=>match ds with
 |[d]=>match vw M d with
  |.lst xs=>Q (.tup xs) M
  |.tup xs=>Q (.tup xs) M
  |_=>False
 |_=>False
theorem tz:JB X (.type "tuple") tu:=by
 refine⟨λds M P Q w q=>?_,λpins s σ H xs us Q I rs h=>?_⟩
 ·match ds,q with
  |[d],q=>
   have q:(match vw M d with|.lst xs=>P (.tup xs) M|.tup xs=>P (.tup xs) M|_=>False):=q;show(match vw M d with|.lst xs=>Q (.tup xs) M|.tup xs=>Q (.tup xs) M|_=>False);generalize vw M d=z at q ⊢;cases z<;>first|exact q.elim|exact w _ _ q
 ·obtain⟨F,α,M,ds,o,f,h⟩:=h;match ds,h,f with
  |[d],q,f=>
   obtain⟨v,n,g⟩:=tq f;subst n;have q:(match vw M d with|.lst xs=>vK X.K F α H M Q (.tup xs) M|.tup xs=>vK X.K F α H M Q (.tup xs) M|_=>False):=q;generalize e1:vw M d=z at q;cases z<;>first|exact q.elim|skip
   ·cases Iw e1;obtain⟨a,i,rfl,j,l⟩:=mI o g e1;exact u0 pins s σ H _ us Q I rs ⟨a,i,rfl,.inr ⟨j,vK.now o q g⟩⟩
   ·obtain⟨a,i,rfl,j,l⟩:=j6 o g e1;exact u0 pins s σ H _ us Q I rs ⟨a,i,rfl,.inl ⟨pH.of j,λp m=>vK.new o m q (kH o m l)⟩⟩
abbrev GF:=List D->Ms->(OD->Ms->Prop)->Prop
def rDF (K:W.Frag)(g:GF):List V->Hp->VK->Prop:=λxs H Q=>∃F α M ds,OK K F α H M/\gA K α (i0 F α M H) ds xs/\g ds M (fK K F α H M Q)
structure JBF(X:Cx)(f:af)(g:GF):Prop where
 mono:∀xs M (P Q:OD->Ms->Prop),(∀d M,P d M->Q d M)->g xs M P->g xs M Q
 p:nJ X f (rDF X.K g)
noncomputable def Xj(g:GF)(tt:DA):DF:=λf M Q=>tt f M λds M1=>g ds M1 Q
theorem Tq{T:String}{g:GF}(o:JBF X (.type T) g)(hm:X.mg x=ao)(h:bR x=aa (.type T))(ha:JA X (e::es) tt)(i:Gl X x:=by rfl)(hn:x≠"__name__":=by decide)(j:(x==("__debug__":ay))=am:=by decide)
(l:aM (e::es) X.env=(am,eval e X.env)::aM es X.env:=by rfl)(m:(cG pos (aM es X.env)).any (·.1)=am:=by rfl):JF X (.Call (.Name x p) (e::es) [] pos) (Xj g tt):=by refine⟨λf M P Q w q=>ha.mono f _ _ _ (λds M1 q=>o.mono _ _ _ _ w q) q,PE.weak (xP o.p i hm h ha.p hn j l m) λσ H Q q=>?_⟩;obtain⟨F,α,f,M,r,q⟩:=q;exact⟨F,α,f,M,r,ha.mono f _ _ _ (λds M1 q s n H1 e1 o1 r1=>⟨F,n,M1,ds,o1,r1,o.mono _ _ _ _ (fK.grow e1) q⟩) q⟩
noncomputable def x9:GF:=λds M Q=>match ds with
 |[d]=>match vw M d with
  |.lst xs=>Q (.lst xs) M
  |.tup xs=>Q (.lst xs) M
  |.qc xs=>Q (.lst (xs.map D.int)) M
  |_=>False
 |_=>False
theorem Ah:JBF X (.type "list") x9:=by
 refine⟨λds M P Q w q=>?_,λpins s σ H xs us Q I rs h=>?_⟩
 ·match ds,q with
  |[d],q=>
   have q:(match vw M d with|.lst xs=>P (.lst xs) M|.tup xs=>P (.lst xs) M|.qc xs=>P (.lst (xs.map D.int)) M|_=>False):=q;show(match vw M d with|.lst xs=>Q (.lst xs) M|.tup xs=>Q (.lst xs) M|.qc xs=>Q (.lst (xs.map D.int)) M|_=>False);generalize vw M d=z at q ⊢;cases z<;>first|exact q.elim|exact w _ _ q
 ·obtain⟨F,α,M,ds,o,l,h⟩:=h;match ds,h,l with
  |[d],q,l=>
   obtain⟨v,n,j⟩:=tq l;subst n;have q:(match vw M d with|.lst xs=>fK X.K F α H M Q (.lst xs) M|.tup xs=>fK X.K F α H M Q (.lst xs) M|.qc xs=>fK X.K F α H M Q (.lst (xs.map D.int)) M|_=>False):=q;generalize e1:vw M d=z at q;cases z<;>first|exact q.elim|skip
   ·obtain⟨a,f,rfl,g,m⟩:=mI o j e1;exact qZ pins s σ H _ us Q I rs ⟨a,f,rfl,.inr g,λp i=>q p _ α H Ext.refl o i ⟨f,rfl,m⟩⟩
   ·obtain⟨a,f,rfl,g,m⟩:=j6 o j e1;exact qZ pins s σ H _ us Q I rs ⟨a,f,rfl,.inl (pH.of g),λp i=>q p _ α H Ext.refl o i ⟨f,rfl,m⟩⟩
   ·cases sY e1;unfold Rep at j;obtain⟨a,rfl,g⟩:=j;exact qZ pins s σ H _ us Q I rs ⟨a,_,rfl,.inl (kj hV g),λp i=>q p _ α H Ext.refl o i ⟨_,rfl,gA.of_map _ _ (λc=>i6) _⟩⟩
end
end L3
namespace L3
open PySem PySem.Spec PyProof.Rows L2
noncomputable def FM(f:ay):List ay->List D->Option D
 |n::ns,d::ds=>if n=f then aa d else FM f ns ds
 |_,_=>ao
theorem IF{f n:ay}{v:V}{ns:List ay}{a:List V}:(((n,v)::ns.zip a).lookup f)=if n=f then aa v else(ns.zip a).lookup f:=by
 rw[cU];by_cases h:n=f
 ·subst h;simp
 ·have:(f==n)=am:=by simpa usingλz=>h z.symm
  rw[this,if_neg h]
theorem Ai{K:W.Frag}{α:List aj}{H:Hp}{f:ay}:∀(ns:List ay) (ds:List D) (a:List V),gA K α H ds a->ns.length=ds.length->
  (∀d,FM f ns ds=aa d->∃v,(ns.zip a).lookup f=aa v/\Rep K α H d v)/\(FM f ns ds=ao->(ns.zip a).lookup f=ao)
 |[],ds,a,h,l=>⟨λd e=>by simp[FM] at e,λ_=>rfl⟩
 |n::ns,[],a,h,l=>by simp at l
 |n::ns,d::ds,a,h,l=>by
  unfold gA at h;obtain⟨v,r,rfl,z,y⟩:=h;have b:=Ai (f:=f) ns ds r y (by simpa using l);rw[cJ,IF];unfold FM;by_cases e:n=f
  ·rw[if_pos e,if_pos e];exact⟨λc e'=>⟨v,rfl,by cases e';exact z⟩,λe'=>by cases e'⟩
  ·rw[if_neg e,if_neg e];exact b
structure Cu(K:W.Frag)(C:aj)(f:ay):Prop where
 cl:Mi K C
 na:kx K C f
section
variable {X:Cx} {a b c e o value:bh} {es rest:List bh} {ta tb tc te to tv:DE} {tA:DT} {tt:DA} {pos pos' p p2 p3 apos jj:c7} {x f m:ay}
noncomputable def aao(K:W.Frag)(f:ay)(te:DE):DE:=λg M Q=>te g M λd M1=>∃C ns ds x,vw M1 d=.ins C ns ds/\Cu K C f/\FM f ns ds=aa x/\Q x M1
theorem aap(h:JE X e te)(n:cK e f X.env (eval e X.env)=eval e X.env:=by rfl):JE X (.Attribute e f pos) (aao X.K f te):=by
 refine⟨λg M P Q w q=>h.mono g _ _ _ (λd M1 q=>?_) q,PE.weak (Ww h.p n) λσ H Q q=>?_⟩
 ·obtain⟨C,ns,ds,x,j,i,l,q⟩:=q;exact⟨C,ns,ds,x,j,i,l,w _ _ q⟩
 ·obtain⟨F,α,g,M,r,q⟩:=q;refine⟨F,α,g,M,r,h.mono g _ _ _ (λd M1 q v s H1 e1 o1 r1=>?_) q⟩;obtain⟨C,ns,ds,x,j,i,l,q⟩:=q;obtain⟨a,u,y,rfl,z,A,B⟩:=Iv o1 r1 j;obtain⟨v,E,G⟩:=(Ai ns ds y B A).1 x l;exact⟨a,C,u,_,v,rfl,z,i.cl,i.na,E,q v s H1 e1 o1 G⟩
abbrev FQ:=aj->ay->GN->Prop
structure ya(P:aJ)(w:bj)(K:W.Frag)(mg:ay->Option af)(base:ar)(k:Nat)(C:aj)(m:ay)(g:GN):Prop where
 mono:sV g
 cl:Mi K C
 ok:∃f fd ps,Meth K C m f/\Binds K fd ps []/\ky P w K mg base uR k f fd ps (mU K g)
noncomputable def Ld(T:FQ)(m:ay)(to:DE)(tt:DA):DE:=λh M Q=>to h M λd M1=>∃C ns es g,vw M1 d=.ins C ns es/\FM m ns es=ao/\T C m g/\tt h M1 λds M2=>g (d::ds) M2 Q
theorem Le{pl:aey Bool}{k:Nat}{T:FQ}(G:∀C g,T C m g->ya X.prog X.w X.K X.mg X.base k C m g)(N:jR k X.A)(n:JE X o to)
(O:eval (.Call (.Attribute o m apos) [] [] pos) X.env=(do
   let J<-eval o X.env
   adG apos.atName
   let(f,first)<-holding [J] (adN J m pl)
   aff pos f first (cG pos (aM [] X.env)) (ado pos (fq [] X.env))):=by rfl):
  JE X (.Call (.Attribute o m apos) [] [] pos) (Ld T m to gB):=by
 refine⟨λj M P Q w q=>n.mono j _ _ _ (λd M1 q=>?_) q,?_⟩
 ·obtain⟨C,ns,es,g,y,z,l,q⟩:=q;exact⟨C,ns,es,g,y,z,l,(G C g l).mono _ _ _ _ w q⟩
 ·intro pins s σ H Q I h;obtain⟨F,α,j,M,r,q⟩:=h;refine W.methodCall_KW (pl:=pl) (jz (n.p pins s σ H _ I ⟨F,α,j,M,r,n.mono j _ _ _ (λd M1 q v i H1 e1 o1 r1=>(show(λv H1=>∃M1 i d,Ext F α H M i H1 M1/\OK X.K F i H1 M1/\Rep X.K i (i0 F i M1 H1) d v/\∃C ns es g,vw M1 d=.ins C ns es/\FM m ns es=ao/\T C m g/\g [d] M1 (vK X.K F α H M Q)) v H1 from⟨M1,i,d,e1,o1,r1,q⟩)) q⟩) λu s1 ⟨v,H1,B,U,M1,i,d,e1,o1,r1,C,ns,Y,g,y,z,l,q⟩=>?_) O;obtain⟨a,dx,L,rfl,sq,hl,zz⟩:=Iv o1 r1 y;obtain rfl:u=aN a:=U;have E:=G C g l;obtain⟨f,fd,ps,hm,hb,FO⟩:=E.ok;refine HZ B sq E.cl hm ((Ai ns Y L zz hl).2 z) ?_;exact W.callWith_K0 (first:=[.ref a]) B.nN hm.kp (Ot (us:=[.ref a]) (vs:=[.ref a]) FO N hb .nil KP B (.cons rfl .nil) ⟨F,i,M1,[d],o1,gA.one r1,E.mono _ _ _ _ (vK.grow e1) q⟩)
structure nF(P:aJ)(w:bj)(K:W.Frag)(mg:ay->Option af)(base:ar)(k:Nat)(C:aj)(g:GN):Prop where
 mono:sV g
 ok:∃f fd ps,Mk K C f/\Binds K fd ps []/\ky P w K mg base uR k f fd ps (mU K g)
noncomputable def qg(C:aj)(g:GN)(tt:DA):DE:=λh M Q=>tt h M λds M1=>g (.loc M1.length::ds) (M1++[aa (.ins C [] [])]) λd M2=>d=.non/\∃ns es,M2=M1++[aa (.ins C ns es)]/\kI es=ah/\Q (.ins C ns es) M1
end
mutual
def lb (n:Nat):D->Prop
 |.loc k=>k<n
 |.tup ds|.lst ds|.lV _ ds|.ins _ _ ds|.exc _ _ ds=>MD n ds
 |.non|.bl _|.int _|.str _|.ty _|.qc _|.cls _=>True
def MD (n:Nat):List D->Prop
 |[]=>True
 |d::ds=>lb n d/\MD n ds
end
mutual
theorem Rep.lb {K:W.Frag} {α:List aj} {H:Hp}:∀(d:D) (v:V),Rep K α H d v->L3.lb α.length d
 |.non,v,_|.bl _,v,_|.int _,v,_|.str _,v,_|.ty _,v,_|.qc _,v,_|.cls _,v,_=>by unfold L3.lb;trivial
 |.loc k,v,h=>by unfold Rep at h;unfold L3.lb;obtain⟨a,e,_⟩:=h;exact(aB.mp e).1
 |.tup ds,v,h=>by unfold Rep at h;unfold L3.lb;obtain⟨a,b,r,q,z⟩:=h;exact gA.lb ds b z
 |.lst ds,v,h=>by unfold Rep at h;unfold L3.lb;obtain⟨a,b,r,q,z⟩:=h;exact gA.lb ds b z
 |.lV c ds,v,h=>by unfold Rep at h;unfold L3.lb;obtain⟨a,b,r,q,l,z⟩:=h;exact gA.lb ds b z
 |.ins C ns ds,v,h=>by unfold Rep at h;unfold L3.lb;obtain⟨a,f,b,r,q,l,z⟩:=h;exact gA.lb ds b z
 |.exc C ns ds,v,h=>by unfold Rep at h;unfold L3.lb;obtain⟨a,b,r,q,l,z⟩:=h;exact gA.lb ds b z
theorem gA.lb {K:W.Frag} {α:List aj} {H:Hp}:∀(d:List D) (v:List V),gA K α H d v->L3.MD α.length d
 |[],v,h=>by unfold L3.MD;trivial
 |d::ds,v,h=>by unfold gA at h;unfold L3.MD;obtain⟨u,r,q,z,y⟩:=h;exact⟨Rep.lb d u z,gA.lb ds r y⟩
end
mutual
theorem Rep.shrink {K:W.Frag} {α β:List aj} {H:Hp} (p:α <+: β):∀(d:D) (v:V),L3.lb α.length d->Rep K β H d v->Rep K α H d v
 |.non,v,_,h|.bl _,v,_,h|.int _,v,_,h|.str _,v,_,h|.ty _,v,_,h|.qc _,v,_,h|.cls _,v,_,h=>by unfold Rep at h ⊢;exact h
 |.loc k,v,n,h=>by unfold Rep at h ⊢;unfold L3.lb at n;obtain⟨a,e,r⟩:=h;obtain⟨t,rfl⟩:=p;rw[bI n] at e;exact⟨a,e,r⟩
 |.tup ds,v,n,h=>by unfold Rep at h ⊢;unfold L3.lb at n;obtain⟨a,b,r,q,z⟩:=h;exact⟨a,b,r,q,gA.shrink p ds b n z⟩
 |.lst ds,v,n,h=>by unfold Rep at h ⊢;unfold L3.lb at n;obtain⟨a,b,r,q,z⟩:=h;exact⟨a,b,r,q,gA.shrink p ds b n z⟩
 |.lV f ds,v,n,h=>by unfold Rep at h ⊢;unfold L3.lb at n;obtain⟨a,b,r,q,l,z⟩:=h;exact⟨a,b,r,q,l,gA.shrink p ds b n z⟩
 |.ins C ns ds,v,n,h=>by unfold Rep at h ⊢;unfold L3.lb at n;obtain⟨a,c,b,r,q,l,z⟩:=h;exact⟨a,c,b,r,q,l,gA.shrink p ds b n z⟩
 |.exc C ns ds,v,n,h=>by unfold Rep at h ⊢;unfold L3.lb at n;obtain⟨a,b,r,q,l,z⟩:=h;exact⟨a,b,r,q,l,gA.shrink p ds b n z⟩
theorem gA.shrink {K:W.Frag} {α β:List aj} {H:Hp} (p:α <+: β):∀(d:List D) (v:List V),L3.MD α.length d->gA K β H d v->gA K α H d v
 |[],v,_,h=>by unfold gA at h ⊢;exact h
 |d::ds,v,n,h=>by unfold gA at h ⊢;unfold L3.MD at n;obtain⟨u,r,q,z,y⟩:=h;exact⟨u,r,q,Rep.shrink p d u n.1 z,gA.shrink p ds r n.2 y⟩
end
theorem y7.MD{K:W.Frag}{α:List aj}{c H:Hp}{o:OD}{a:aj}(h:y7 K α c H o a):match o with|.lst ds=>L3.MD α.length ds|.lV _ ds=>L3.MD α.length ds|.ins _ _ ds=>L3.MD α.length ds|.fz _ _ _ ds=>L3.MD α.length ds:=by
 cases o with
 |lst ds=>obtain⟨b,_,r⟩:=h;exact gA.lb _ _ r
 |lV e ds=>obtain⟨b,_,_,r⟩:=h;exact gA.lb _ _ r
 |ins C ns ds=>obtain⟨f,b,_,_,r⟩:=h;exact gA.lb _ _ r
 |fz k g e ds=>obtain⟨_,b,_,_,r⟩:=h;exact gA.lb _ _ r
theorem OK.Fq{K:W.Frag}{F c α:List aj}{v H:Hp}{M N:Ms}(n:OK K F c v M)(h:OK K F α H (M++N))(pre:c <+: α):OK K F c H M/\jA (i0 F α (M++N) H) (i0 F c M H):=by
 obtain⟨β,rfl⟩:=pre;have g:=n.ml;have s:lv (c++β) (M++N)=lv c M++lv β N:=ut g;have i:jA (i0 F (c++β) (M++N) H) (i0 F c M H):=λb y e=>by
  obtain⟨z,q⟩:=iL e;rw[s] at z;show jB _ H b=_;refine kT e (λw=>z ?_) q
  ·simp only [bp] at w ⊢;rcases w with w|w
   ·exact .inl (.inl w)
   ·exact .inr w
 refine⟨⟨g,n.nd,λa ha=>⟨(n.fr a ha).1,(h.fr a ha).2⟩,λa ha=>h.al a (b8 _ ha),λk y u=>?_,h.tb⟩,i⟩;have x:k<M.length:=(aB.mp u).1;obtain⟨a,ea,o⟩:=h.own k y (by rw[bI x];exact u);rw[bI (by omega)] at ea;obtain⟨E,j,m⟩:=n.own k y u;rw[ea] at j;cases j;have p:=m.MD;refine⟨a,ea,?_⟩;cases y with
 |lst ds=>
  obtain⟨f,q,r⟩:=o;exact⟨f,q,gA.shrink (cz _ _) _ _ p (gA.mono (aX _) i _ _ r)⟩
 |lV A ds=>
  obtain⟨f,q,l,r⟩:=o;exact⟨f,q,l,gA.shrink (cz _ _) _ _ p (gA.mono (aX _) i _ _ r)⟩
 |ins C ns ds=>
  obtain⟨B,f,q,l,r⟩:=o;exact⟨B,f,q,l,gA.shrink (cz _ _) _ _ p (gA.mono (aX _) i _ _ r)⟩
 |fz k G A ds=>
  obtain⟨_,f,q,l,r⟩:=o;exact⟨m.1,f,q,l,gA.shrink (cz _ _) _ _ p (gA.mono (aX _) i _ _ r)⟩
section
variable {X:Cx} {a b c e o value:bh} {es rest:List bh} {ta tb tc te to tv:DE} {tA:DT} {tt:DA} {pos pos' p p2 p3 apos jj:c7} {x f m:ay}
theorem nZ{k:Nat}{C:aj}{g:GN}(l:nF X.prog X.w X.K X.mg X.base k C g)(L:jR (k+1) X.A)(hm:X.mg x=aa (.ref C))(ha:JA X (e::es) tt)(N:Gl X x:=by rfl)(O:(x==("__debug__":ay))=am:=by decide)
(T:aM (e::es) X.env=(am,eval e X.env)::aM es X.env:=by rfl)(U:(cG pos (aM es X.env)).any (·.1)=am:=by rfl):JE X (.Call (.Name x p) (e::es) [] pos) (qg C g tt):=by
 obtain⟨f,fd,ps,mk,Y,FO⟩:=l.ok;refine⟨λj M P Q w q=>ha.mono j _ _ _ (λds M1 q=>l.mono _ _ _ _ (λd M2 q=>?_) q) q,PE.weak (Sv mk FO L N hm Y .nil KP ha.p O T U) λσ H Q q=>?_⟩
 ·obtain⟨q1,ns,es,q2,q3,q4⟩:=q;exact⟨q1,ns,es,q2,q3,w _ _ q4⟩
 obtain⟨F,α,j,M,r,q⟩:=q;refine⟨F,α,j,M,r,ha.mono j _ _ _ (λds M1 q vs h H1 e1 o1 r1 y n i s sF=>?_) q⟩;have s0:jA H1 (upd (upd H1 n (.own y)) y (.ins C n [])):=λb ob e=>by rw[gF (i8 e i),gF (i8 e s)];exact e
 obtain⟨o2,e2⟩:=o1.enter (x:=.ins C [] []) i s0 ⟨n,[],gW,rfl,gA.nil⟩;show mU X.K g (V.ref y::(vs++[])) _ _ E0;rw[br];have E:(h++[y])[M1.length]?=aa y:=by rw[<-o1.ml];simp
 refine⟨F,h++[y],M1++[aa (.ins C [] [])],.loc M1.length::ds,o2,gA.cons ?_ (e2.zU r1),l.mono _ _ _ _ (λd M2 q v zX G e3 o3 I=>?_) q⟩
 ·unfold Rep;exact⟨y,E,rfl⟩
 ·obtain⟨rfl,ns,fs,rfl,hn,q⟩:=q;unfold Rep at I;have pre:h <+: zX:=(cz _ _).trans e3.pre;obtain⟨o4,J⟩:=OK.Fq o1 o3 pre;have ey:=KW e3.pre E;obtain⟨a,ea,dx,ws,hq,hl,rr⟩:=o3.own M1.length (.ins C ns fs) (by simp);rw[ey] at ea;cases ea;have u:y∉F:=λz=>(o1.fr y z).2 (by rw[i]);have hya:y∉h:=λz=>o1.al y z (by rw[i]);have B:y∉lv h M1:=λz=>o1.live y z i;have uu:=e2.trans e3;refine⟨I,q _ h G (e1.trans ⟨aX _,uu.same.trans J,uu.fr⟩) o4 ?_⟩;unfold Rep;refine⟨y,dx,ws,rfl,?_,hl,gA.nl _ _ hn (gA.mono (aX _) J _ _ rr)⟩;show jB _ G y=_;exact mT (λz=>(bp.mp z).elim B u) hq rfl
noncomputable def putN(f:ay)(d:D):List ay->List D->List ay×List D
 |n::ns,e::es=>if n=f then(n::ns,d::es) else((n::(putN f d ns es).1),(e::(putN f d ns es).2))
 |ns,es=>(ns++[f],es++[d])
theorem FS{K:W.Frag}{α:List aj}{H:Hp}{f:ay}{d:D}{v:V}(rd:Rep K α H d v):∀(ns:List ay) (ds:List D) (g:List V),gA K α H ds g->ns.length=ds.length->
  ∃ws,nD f v (ns.zip g)=(putN f d ns ds).1.zip ws/\(putN f d ns ds).1.length=(putN f d ns ds).2.length/\gA K α H (putN f d ns ds).2 ws
 |[],[],g,h,l=>by unfold gA at h;subst h;exact⟨[v],rfl,rfl,gA.one rd⟩
 |[],e::es,g,h,l=>by simp at l
 |n::ns,[],g,h,l=>by simp at l
 |n::ns,i::es,g,h,l=>by
  unfold gA at h;obtain⟨u,r,rfl,z,y⟩:=h;obtain⟨ws,j,q,s⟩:=FS (f:=f) rd ns es r y (by simpa using l);rw[cJ];by_cases e:n=f
  ·subst e;have e1:putN n d (n::ns) (i::es)=(n::ns,d::es):=by unfold putN;rw[if_pos rfl]
   rw[e1];refine⟨v::r,?_,by simpa using l,gA.cons rd y⟩;unfold nD;simp
  ·have e1:putN f d (n::ns) (i::es)=(n::(putN f d ns es).1,i::(putN f d ns es).2):=by rw[putN,if_neg e]
   rw[e1];refine⟨u::ws,?_,by simpa using q,gA.cons z s⟩;unfold nD;simp[e,j]
noncomputable def VF(K:W.Frag)(f:ay)(to tv:DE):DS:=λE g M=>tv g M λd M1=>to g M1 λo M2=>match o with
 |.loc k=>∃C ns ds,M2[k]?=aa (aa (.ins C ns ds))/\Cu K C f/\ns.length<1000/\E.nx g (M2.set k (aa (.ins C (putN f d ns ds).1 (putN f d ns ds).2)))
 |_=>False
theorem Tr(j:JE X o to)(l:JE X value tv)(J:cN value (aa (.Attribute o f pos')) pos.line X.env=pure am:=by rfl):JS X (.Assign [.Attribute o f pos'] value pos) (VF X.K f to tv):=by
 refine⟨λP Q g M w q=>l.mono g _ _ _ (λd M1 q=>j.mono g _ _ _ (λo M2 q=>?_) q) q,PS.weak (Wx j.p l.p J) λE σ H q=>?_⟩
 ·cases o<;>first|exact q.elim|skip
  obtain⟨C,ns,ds,h,i,A,q⟩:=q;exact⟨C,ns,ds,h,i,A,w.nx _ _ q⟩
 ·obtain⟨F,α,g,M,r,q⟩:=q;refine⟨F,α,g,M,r,l.mono g _ _ _ (λd M1 q v L H1 e1 o1 r1=>⟨F,L,g,M1,r.grow e1 o1,j.mono g _ _ _ (λod M2 q u N H2 e2 o2 r2=>?_) q⟩) q⟩;cases od<;>first|exact q.elim|skip
  rename_i k;obtain⟨C,ns,ds,h,i,A,q⟩:=q;unfold Rep at r2;obtain⟨a,ea,rfl⟩:=r2;obtain⟨a',B,n,s,O,G,I⟩:=o2.own k _ h;rw[ea] at B;cases B;obtain⟨ws,T,U,Y⟩:=FS (f:=f) (e2.rep r1) ns ds s I G;have jS:(ns.zip s).length<1000:=by rw[List.length_zip,<-gA.length _ _ I,G];omega
  obtain⟨o3,e3⟩:=o2.write (y:=.ins C (putN f d ns ds).1 (putN f d ns ds).2) (z:=.ins C n (nD f v (ns.zip s))) h ea (λHh eh=>by subst eh;exact⟨n,ws,by rw[gW,T],U,Y⟩)
  exact⟨a,C,n,_,rfl,O,i.cl,i.na,jS,q σ N _ ((e1.trans e2).trans e3) (r.grow ((e1.trans e2).trans e3) o3)⟩
end
end L3
namespace L3
open PySem PySem.Spec PyProof.Rows L2
section
variable {P:aJ} {w:bj} {K:W.Frag} {mg:ay->Option af} {base:ar}
theorem acr{x qual:ay}{st:bH}{f:aj}{fd:cn}{N a:List ay}{k:Nat}{body:List bH}{scope:cx}{tb:DS}(F:wP K x qual st f fd)(b:iF st=body)(es:hZ st=scope)(S:gU N a scope)
(c:∀(iE:af) (A:ba) (outer:List eH) (s:ai) (H:Hp) (E:XK),jR k (A.deeper (dZ qual scope s.heap.objs.size f iE))->BD (uQ uR P w K mg base N qual scope f iE A outer s H E).L9 body tb):
  ky P w K mg base uR (k+1) f fd a (mU K (Vu N.length a.length tb)):=by subst b es;exact F.ok S (λe H Q E ⟨F,α,M,ds,o,r,g,q⟩=>by rw[<-gA.length _ _ r];exact g) λiE A outer s H e Q E i h=>let⟨t,q,z⟩:=OZ (ps:=a) (c iE A outer s H E i) rfl h;⟨t,q.p,z⟩
theorem MG{x qual:ay}{st:bH}{f:aj}{fd:cn}{N a:List ay}{k:Nat}{body:List bH}{scope:cx}{tb:DS}(F:wP K x qual st f fd)(b:iF st=body)(es:hZ st=scope)(S:gU N a scope)
(c:∀(iE:af) (A:ba) (outer:List eH) (s:ai) (H:Hp) (E:XK),jR k (A.deeper (dZ qual scope s.heap.objs.size f iE))->BD (uQ uR P w K mg base N qual scope f iE A outer s H E).L9 body tb):
  ky P w K mg base uR (k+1) f fd a (mU K (cl (kf N.length a.length tb))):=by subst b es;exact F.ok S (λe H Q E ⟨F,α,M,ds,o,r,hn,g,q⟩=>by rw[<-gA.length _ _ r];exact g) λiE A outer s H e Q E i h=>let⟨t,q,z⟩:=O0 (ps:=a) (c iE A outer s H E i) rfl h;⟨t,q.p,z⟩
theorem aaq{x:ay}{st:bH}{a:List ay}(k:Nat)(F:gX K mg x st)
(b:∀(kV doc pm:af) (an:Option aj) (iE ct:af) (us:List af),us.length=a.length->eP (W.fnOf x x (jT st) (iF st) (hZ st) .none kV doc pm an iE ct) ⟨us,[]⟩=pure (a.zip us)):iI P w K mg base k x a λ_ _ _=>False:=by obtain⟨f,fd,F,m⟩:=F;exact⟨λ_ _ _ _ _ q=>q,f,fd,m,F.kp,F.binds b,⟨λc H Q E ⟨_,_,_,_,_,_,q⟩=>q.elim,λA outer s H args us c Q E _ _ _ _ ⟨_,_,_,_,_,_,q⟩=>q.elim⟩⟩
end
abbrev GM:=D->List D->Ms->DK->Prop
def rDm (K:W.Frag)(g:GM):V->List V->Hp->VK->Prop:=λx xs H Q=>∃F α M d ds,OK K F α H M/\Rep K α (i0 F α M H) d x/\gA K α (i0 F α M H) ds xs/\g d ds M (vK K F α H M Q)
structure JM(X:Cx)(id:String)(g:GM):Prop where
 mono:∀d ds M (P Q:DK),(∀d M,P d M->Q d M)->g d ds M P->g d ds M Q
 p:ZJ X id (rDm X.K g)
noncomputable def tyD(T:String)(d:D):Bool:=match d with
 |.lst _|.qc _=>T=="list"
 |.str _=>T=="str"
 |.int _=>T=="int"
 |.lV _ _=>T=="dict"
 |_=>am
section
variable {X:Cx} {a b c e o value:bh} {es rest:List bh} {ta tb tc te to tv:DE} {tA:DT} {tt:DA} {pos pos' p p2 p3 apos jj:c7} {x f m name:ay} {T id:String} {g:GM}
theorem Pe{F α:List aj}{H:Hp}{M:Ms}{d:D}{v:V}(ok:OK X.K F α H M)(r:Rep X.K α (i0 F α M H) d v)(h:tyD T (vw M d)=ah):tyV X.K T v H:=by
 generalize e1:vw M d=z at h;cases z<;>first|(cases h;done)|skip
 ·cases vF e1;unfold Rep at r;subst r;exact beq_iff_eq.mp h
 ·cases lY e1;unfold Rep at r;subst r;exact beq_iff_eq.mp h
 ·obtain⟨a,j,rfl,i,_⟩:=j6 ok r e1;exact .inl ⟨beq_iff_eq.mp h,j,pH.of i⟩
 ·obtain⟨a,j,rfl,i,_⟩:=xZ ok r e1;exact .inr (.inr (.inl ⟨beq_iff_eq.mp h,.inl ⟨_,i⟩⟩))
 ·cases sY e1;unfold Rep at r;obtain⟨a,rfl,i⟩:=r;exact .inl ⟨beq_iff_eq.mp h,_,kj hV i⟩
noncomputable def Pf(T:String)(g:GM)(to:DE)(tt:DA):DE:=λh M Q=>to h M λd M1=>tyD T (vw M1 d)=ah/\tt h M1 λds M2=>g d ds M2 Q
theorem Ts(i:JM X id g)(l:adX T)(slot:Slot T name id)(n:adY (.builtin id)=pure (.type "method_descriptor"))(j:JE X o to)(ha:JA X (e::es) tt)
(s:cK o name X.env (eval o X.env)=eval o X.env:=by rfl)
(u:((cG jj (aM (e::es) X.env)).all (λx=>!x.1)&&(ado jj (fq [] X.env)).all (λx=>x.1.isSome)
   &&decide ((e::es).length+([]:List adi).length+(if([]:List adi).isEmpty then 0 else 1)<30))=ah:=by rfl)
(y:(apos.endLine==jj.line)=ah:=by rfl)(z:aM (e::es) X.env=(am,eval e X.env)::aM es X.env:=by rfl)(A:(cG jj (aM es X.env)).any (·.1)=am:=by rfl):
  JE X (.Call (.Attribute o name apos) (e::es) [] jj) (Pf T g to tt):=by refine⟨λh M P Q w q=>j.mono h _ _ _ (λd M1 q=>⟨q.1,ha.mono h _ _ _ (λds M2 q=>i.mono _ _ _ _ _ w q) q.2⟩) q,PE.weak (ZM l slot n i.p j.p ha.p s u y z A) λσ H Q q=>?_⟩;obtain⟨F,α,h,M,r,q⟩:=q;refine⟨F,α,h,M,r,j.mono h _ _ _ (λd M1 q v B H1 e1 o1 r1=>⟨Pe o1 r1 q.1,F,B,h,M1,r.grow e1 o1,ha.mono h _ _ _ (λds M2 q E C G e2 o2 r2=>?_) q.2⟩) q⟩;exact⟨F,C,M2,d,ds,o2,e2.rep r1,r2,i.mono _ _ _ _ _ (vK.grow (e1.trans e2)) q⟩
theorem aar(i:JM X id g)(l:adX T)(slot:Slot T name id)(n:adY (.builtin id)=pure (.type "method_descriptor"))(j:JE X o to)
(s:cK o name X.env (eval o X.env)=eval o X.env:=by rfl)(u:(apos.endLine==jj.line)=ah:=by rfl):JE X (.Call (.Attribute o name apos) [] [] jj) (Pf T g to gB):=by refine⟨λh M P Q w q=>j.mono h _ _ _ (λd M1 q=>⟨q.1,i.mono _ _ _ _ _ w q.2⟩) q,PE.weak (WK l slot n i.p j.p s u) λσ H Q q=>?_⟩;obtain⟨F,α,h,M,r,q⟩:=q;refine⟨F,α,h,M,r,j.mono h _ _ _ (λd M1 q v y H1 e1 o1 r1=>⟨Pe o1 r1 q.1,F,y,M1,d,[],o1,r1,gA.nil,i.mono _ _ _ _ _ (vK.grow e1) q.2⟩) q⟩
theorem Lf{F α:List aj}{H:Hp}{M:Ms}{k:Nat}{ds:List D}{v:V}(ok:OK X.K F α H M)(r:Rep X.K α (i0 F α M H) (.loc k) v)(h:M[k]?=aa (aa (.lst ds))):
  ∃a i,v=.ref a/\H a=aa (.lst i)/\gA X.K α (i0 F α M H) ds i/\∀es ws,gA X.K α (i0 F α M H) es ws->OK X.K F α (upd H a (.lst ws)) (M.set k (aa (.lst es)))/\Ext F α H M α (upd H a (.lst ws)) (M.set k (aa (.lst es))):=by unfold Rep at r;obtain⟨a,ea,rfl⟩:=r;obtain⟨u,j,i,l,n⟩:=ok.own k _ h;rw[ea] at j;cases j;exact⟨a,i,rfl,l,n,λes ws q=>ok.write (y:=.lst es) (z:=.lst ws) h ea λw s=>by subst s;exact⟨ws,gW,q⟩⟩
noncomputable def nt:GM:=λd ds M Q=>match d,ds with
 |.loc k,[x]=>∃es,M[k]?=aa (aa (.lst es))/\es.length<aE/\Q .non (M.set k (aa (.lst (es++[x]))))
 |_,_=>False
theorem ux:JM X "list.append" nt:=by
 refine⟨λd ds M P Q w q=>?_,λpins s σ H x xs v us Q I z rs h=>?_⟩
 ·match d,ds,q with
  |.loc k,[x],⟨es,i,j,q⟩=>exact⟨es,i,j,w _ _ q⟩
 ·obtain⟨F,α,M,d,ds,ok,r,l,h⟩:=h;match d,ds,h,r,l with
  |.loc k,[y],⟨es,i,j,q⟩,r,l=>
   obtain⟨a,n,rfl,A,r1,B⟩:=Lf ok r i;obtain⟨u,C,E⟩:=tq l;subst C;obtain⟨o2,e2⟩:=B (es++[y]) (n++[u]) (gA.append _ _ _ _ r1 (gA.one E));exact xR pins s σ H _ _ v us Q I z rs ⟨a,n,u,rfl,rfl,A,by rw[<-gA.length _ _ r1];exact j,q _ α _ e2 o2 wQ⟩
noncomputable def Ds:GM:=λd ds M Q=>match d,ds with
 |.str z,[]=>z.length<=1000/\Q (.str (Txt.upper z)) M
 |_,_=>False
theorem Pg:JM X "str.upper" Ds:=by
 refine⟨λd ds M P Q w q=>?_,λpins s σ H x xs v us Q I l rs h=>?_⟩
 ·match d,ds,q with
  |.str k,[],⟨j,q⟩=>exact⟨j,w _ _ q⟩
 ·obtain⟨F,α,M,d,ds,ok,r,i,h⟩:=h;match d,ds,h,r,i with
  |.str k,[],⟨j,q⟩,r,i=>
   unfold Rep at r;unfold gA at i;subst r i;exact OP pins s σ H _ _ v us Q I l rs ⟨k,rfl,rfl,j,vK.now ok q pL⟩
noncomputable def lK(to l:DE):DG:=λv h M Q=>to h M λo M1=>l h M1 λi M2=>match o with
 |.loc k=>match M2[k]?,i with
  |some (aa (.lst ds)),.int j=>∃n,E4 ds.length j=aa n/\Q h (M2.set k (aa (.lst (ds.set n v))))
  |_,_=>False
 |_=>False
theorem qh(s:JE X o to)(hi:JE X e te)
(ha:∀v,assign (.Subscript o e pos) X.env v=(do
   let l<-holding [v] (eval o X.env);let y<-holding [v,l] (eval e X.env)
   adG pos
   holding [v,l,y] (setItem l y v)
   release [v,l,y] []):=by intro _;rfl):JG X (.Subscript o e pos) (lK to te):=by
 refine⟨λd h M P Q w q=>s.mono h _ _ _ (λod M1 q=>hi.mono h _ _ _ (λi M2 q=>?_) q) q,PG.weak (Wi s.p hi.p Oz ha) λv σ H Q q=>?_⟩
 ·cases od<;>first|exact q.elim|skip
  rename_i k;simp only at q ⊢;split at q
  ·obtain⟨n,z,q⟩:=q;exact⟨n,z,w _ _ q⟩
  ·exact q.elim
 ·obtain⟨F,α,h,M,d,r,rd,q⟩:=q;refine⟨F,α,h,M,r,s.mono h _ _ _ (λod M1 q u E H1 e1 o1 r1=>⟨F,E,h,M1,r.grow e1 o1,hi.mono h _ _ _ (λi M2 q w G N e2 o2 r2=>?_) q⟩) q⟩;cases od<;>first|exact q.elim|skip
  rename_i k;simp only at q;split at q
  ·rename_i ds j I;obtain⟨n,z,q⟩:=q;unfold Rep at r2;subst r2;obtain⟨a,B,rfl,J,C,L⟩:=Lf o2 (e2.rep r1) I;have A:=(e1.trans e2).rep rd;obtain⟨o3,e3⟩:=L (ds.set n d) (B.set n v) (gA.set A n _ _ C);exact⟨a,B,j,n,rfl,rfl,J,by rw[<-gA.length _ _ C];exact z,q σ G _ ((e1.trans e2).trans e3) (r.grow ((e1.trans e2).trans e3) o3)⟩
  ·exact q.elim
noncomputable def aas(i j:Nat)(tt:DA):DS:=λE h M=>tt h M λds M1=>match ds with
 |[x,y]=>E.nx ((h.set i (aa x)).set j (aa y)) M1
 |_=>False
theorem Xk(i j:Nat){y:ay}{px py pt:c7}{kt k2:Nat}{l:c7}(n:X.N.Nodup)(ha:JA X [a,b] tt)(hi:X.N[i]?=aa x:=by rfl)(s:X.N[j]?=aa y:=by rfl)(z:i≠j:=by decide)
(A:X.env.scope.names.lookup x=aa .local:=by rfl)(B:X.env.scope.names.lookup y=aa .local:=by rfl)
(hw:adv [.Tuple [.Name x px,.Name y py] kt pt] (.Tuple [a,b] k2 l) X.env=pure (aa [x,y]):=by rfl)
(C:adu [.Tuple [.Name x px,.Name y py] kt pt] (.Tuple [a,b] k2 l) pos.line X.env=pure am:=by rfl)(G:X.calm=ah:=by rfl):
  JS X (.Assign [.Tuple [.Name x px,.Name y py] kt pt] (.Tuple [a,b] k2 l) pos) (aas i j tt):=by
 refine⟨λP Q h M w q=>ha.mono h _ _ _ (λds M1 q=>?_) q,PS.weak (Wk G n hi s z A B ha.p hw C) λE σ H q=>?_⟩
 ·match ds,q with
  |[x,y],q=>exact w.nx _ _ q
 ·obtain⟨F,α,h,M,r,q⟩:=q;refine⟨F,α,h,M,r,ha.mono h _ _ _ (λds M1 q O I H1 e1 o1 r1=>?_) q⟩;match ds,q,r1 with
  |[x,y],q,r1=>
   obtain⟨v,u,J,r2,L⟩:=Ad r1;subst J;exact⟨v,u,rfl,q _ I H1 e1 (((r.grow e1 o1).set r2).set L)⟩
end
end L3
namespace L3
open PySem PySem.Spec PyProof.Rows L2 PyProof.Rows.KTD
def Ph (K:W.Frag)(d:D)(u:af):Prop:=∃v,RelV v u/\∀α H,Rep K α H d v
structure yb(K:W.Frag)(a:aj)(rows:List (ay×D)):Prop where
 lo:(a==dH)=am
 ex:∃o es ep,K.lookup a=aa o/\o.ExactDict/\o.data=.dict es ep/\Rows (Ph K) es.toList rows
section
variable {prog:aJ} {w:bj} {A:ba} {E:af->ai->Prop} {s:ai} {K:W.Frag} {a:aj} {rows:List (ay×D)} {k:ay} {tk:aew}
theorem yb.typeIs(T:yb K a rows)(h:K.In s.heap):s.TypeIs (.ref a) "dict":=let⟨o,_,_,b,c,_⟩:=T.ex;⟨o,h _ _ b,c.1⟩
theorem yb.get{Q:Option af->ai->Prop}(T:yb K a rows)(j:K.In s.heap)(m:∀d v,fh k rows=aa d->Ph K d v->Q (aa v) {s with toks:=s.toks+1})(n:fh k rows=ao->Q ao {s with toks:=s.toks+1}):
  wpAny (model prog w) A (aeP a (.str k tk)) Q E s:=by
 obtain⟨o,es,r,c,u,hd,g⟩:=T.ex;have c:=j _ _ c;unfold aeP;try with_reducible refine cc ?_
 refine ag (aeT (ag (kt_dictFind_strs (s:={s with toks:=s.toks+1}) c hd (by obtain⟨l⟩:=es;simpa using g.exact) ?_)));have b:Q (ae5 (λk v=>v.isStr k) es k) {s with toks:=s.toks+1}:=by
  have p:ae5 (λk v=>v.isStr k) es k=(es.toList.find? λe=>e.key.isStr k).map (·.val):=by obtain⟨l⟩:=es;simp[ae5]
  rw[p];cases f:fh k rows with
  |some d=>obtain⟨v,q,h⟩:=g.find_some f;rw[q];exact m d v f h
  |none=>rw[g.find_none f];exact n f
 rw[findBy_of_findIdx?] at b;cases hi:es.findIdx? λe=>e.key.isStr k with
 |none=>rw[hi] at b;exact aq b
 |some i=>rw[hi] at b;exact ag (wpAny_dictEntries (s:={s with toks:=s.toks+1}) c hd (aq b))
theorem yb.item{Q:af->ai->Prop}(T:yb K a rows)(c:K.In s.heap){d:D}(hm:fh k rows=aa d)(h:∀v,Ph K d v->Q v {s with toks:=s.toks+1}):
  wpAny (model prog w) A (adj (.ref a) (.str k tk)) Q E s:=by
 have b:s.TypeIs (.ref a) "dict":=T.typeIs c;unfold adj;try with_reducible refine cc ?_
 refine ag (aeJ b (by decide) ?_);refine ag (cQ (name:=cS "__getitem__") b aeQ
  (dw aeQ b entry_dict_getitem ?_ (args_dict_getitem _ _)))
 show wpAny _ _ (aeP a (.str k tk) >>= _) _ _ s;exact ag (T.get c (λf v ha e=>aq ⟨v,rfl,aq (h v (by rw[hm] at ha;cases ha;exact e))⟩) λhn=>by rw[hm] at hn;cases hn)
theorem yb.isin{Q:af->ai->Prop}(T:yb K a rows)(f:K.In s.heap)(neg:Bool)(h:Q (.bool (if neg then !adD k rows else adD k rows)) {s with toks:=s.toks+1}):wpAny (model prog w) A (compareOp (if neg then .NotIn else .In) (.str k tk) (.ref a)) Q E s:=by
 have b:s.TypeIs (.ref a) "dict":=T.typeIs f;have key:∀(c:Bool->ai->Prop),c (adD k rows) {s with toks:=s.toks+1}->wpAny (model prog w) A (contains (.ref a) (.str k tk)) c E s:=λc h=>by
  unfold contains;try with_reducible refine cc ?_
  refine ag (adS b adE.lookup ?_);show wpAny _ _ (if(aa (cB "dict.__contains__")==aa bC)=ah then _ else _) _ E s;rw[if_neg (by rw[beq_builtin_none];exact au)];refine ag (wpAny_callSpecialUnlessNone?_slot (name:=cS "__contains__") b adE
   (dw adE b entry_dict_contains ?_ (args_dict_contains _ _)))
  show wpAny _ _ (aeP a (.str k tk) >>= _) _ _ s;refine ag (T.get f (λd v ha _=>?_) λhn=>?_)
  ·have e:adD k rows=ah:=by rw[<-ad0,ha];rfl
   rw[e] at h;show wpAny _ _ (ret (.bool ah)) _ _ _;exact aq ⟨_,rfl,ck h⟩
  ·have e:adD k rows=am:=by rw[<-ad0,hn];rfl
   rw[e] at h;show wpAny _ _ (bt.Dict.pendingKey? a (.str k tk) >>= _) _ _ _;exact ag (wpAny_pendingKey_other T.lo (aq ⟨_,rfl,ck h⟩))
 cases neg with
 |false=>
  show wpAny _ _ (do return .bool (<-contains (.ref a) (.str k tk))) Q E s;exact ag (key _ (aq h))
 |true=>
  show wpAny _ _ (do return .bool (!(<-contains (.ref a) (.str k tk)))) Q E s;exact ag (key _ (aq h))
end
section
variable {X:Cx} {a:aj} {rows:List (ay×D)}
noncomputable def Aj(a:aj)(rows:List (ay×D)):G2:=λx y M Q=>match x,y with
 |.cls b,.str k=>b=a/\∃d,fh k rows=aa d/\Q d M
 |_,_=>False
theorem Xl(T:yb X.K a rows):JX X (Aj a rows):=by
 refine⟨λx y M P Q w q=>?_,λvalue slice pins s σ H x y v u Q I i j h l=>?_⟩
 ·unfold Aj at*;split at q<;>first|exact q.elim|(obtain⟨m,d,n,q⟩:=q;exact⟨m,d,n,w _ _ q⟩)
 ·obtain⟨F,α,M,C,E,o,e,f,h⟩:=h;unfold Aj at h;split at h<;>first|exact h.elim|skip
  obtain⟨rfl,d,hd,q⟩:=h;unfold Rep at e f;subst e f;rename_i b k;obtain rfl:v=aN b:=i;obtain⟨t,rfl⟩:=j;have g:s.TypeIs (.ref b) "dict":=T.typeIs I.nN;unfold ady;refine ag ?_;rw[aej g.not_modules];refine ag (adS g PySem.F.slot_dict_getitem.lookup ?_);have c:wpAny (model X.prog X.w) X.A (subscripted slice am (.ref b) (.str k t)) (λr p=>wpAny (model X.prog X.w) X.A (afb value (.ref b) r >>= λ_=>pure r) (EP X pins σ Q) X.xe p) X.xe s:=by rw[l];refine ae3 (T.item I.nN hd λG z=>ag (aeq (aq ?_)));obtain⟨B,r1,r2⟩:=z;exact⟨B,H,I.tok _,r1,vK.now o q (r2 _ _)⟩
  first
   |exact aq (ag c)
   |exact ag (aq (ag c))
   |exact ag c
noncomputable def Ak(neg:Bool)(a:aj)(rows:List (ay×D)):G2:=λx y M Q=>match x,y with
 |.str k,.cls b=>b=a/\Q (.bl (if neg then !adD k rows else adD k rows)) M
 |_,_=>False
theorem FU(T:yb X.K a rows):JC X .NotIn (Ak ah a rows):=by
 refine⟨λx y M P Q w q=>?_,λpins s σ H x y v u Q I f g h=>?_⟩
 ·unfold Ak at*;split at q<;>first|exact q.elim|exact⟨q.1,w _ _ q.2⟩
 ·obtain⟨F,α,M,i,j,o,c,e,h⟩:=h;unfold Ak at h;split at h<;>first|exact h.elim|skip
  obtain⟨rfl,q⟩:=h;unfold Rep at c e;subst c e;obtain⟨t,rfl⟩:=f;rename_i k b;obtain rfl:u=aN b:=g;exact T.isin I.nN ah ⟨.bl _,H,I.tok _,rfl,vK.now o q ja⟩
end
end L3
namespace L3
open PySem PySem.Spec PyProof.Rows L2
section
variable {P:aJ} {w:bj} {K:W.Frag} {mg:ay->Option af} {base:ar}
theorem jQ{x:ay}{st:bH}{N a:List ay}{k:Nat}{body:List bH}{scope:cx}{tb:DS}(F:gX K mg x st)(b:iF st=body)(es:hZ st=scope)(S:gU N a scope)
(c:∀(kV doc pm:af) (an:Option aj) (iE ct:af) (us:List af),us.length=a.length->eP (W.fnOf x x (jT st) (iF st) (hZ st) .none kV doc pm an iE ct) ⟨us,[]⟩=pure (a.zip us))
(e:∀(f:aj) (iE:af) (A:ba) (outer:List eH) (s:ai) (H:Hp) (E:XK),jR k (A.deeper (dZ x scope s.heap.objs.size f iE))->BD (uQ uR P w K mg base N x scope f iE A outer s H E).L9 body tb):
  re P w K mg base (k+1) x a (mU K (cl (kf N.length a.length tb))):=
 F.ZZ b es S c (λg H Q E ⟨F,α,M,ds,o,r,hn,i,q⟩=>by rw[<-gA.length _ _ r];exact i) λf iE A outer s H g Q E j h=>O0 (ps:=a) (e f iE A outer s H E j) rfl h
theorem aat{x:ay}{st:bH}{N a:List ay}{k:Nat}{body:List bH}{scope:cx}{tb:DS}(F:gX K mg x st)(b:iF st=body)(es:hZ st=scope)(S:gU N a scope)
(c:∀(kV doc pm:af) (an:Option aj) (iE ct:af) (us:List af),us.length=a.length->eP (W.fnOf x x (jT st) (iF st) (hZ st) .none kV doc pm an iE ct) ⟨us,[]⟩=pure (a.zip us))
(e:∀(f:aj) (iE:af) (A:ba) (outer:List eH) (s:ai) (H:Hp) (E:XK),jR k (A.deeper (dZ x scope s.heap.objs.size f iE))->BD (uQ uR P w K mg base N x scope f iE A outer s H E).L9 body tb):
  re P w K mg base (k+1) x a (mU K (Vu N.length a.length tb)):=
 F.ZZ b es S c (λg H Q E ⟨F,α,M,ds,o,r,i,q⟩=>by rw[<-gA.length _ _ r];exact i) λf iE A outer s H g Q E j h=>OZ (ps:=a) (e f iE A outer s H E j) rfl h
theorem mC{k:Nat}{x:ay}{c:List ay}{g a:GP}(h:re P w K mg base k x c (mU K (cl g)))(m:jo a)(i:∀ds Q,a ds Q->g ds Q):iI P w K mg base k x c (cl a):=
 ⟨K3 m,let⟨f,fd,e,kp,b,F⟩:=h;⟨f,fd,e,kp,b,F.imp λj H Q E ⟨F,α,M,ds,o,r,n,q⟩=>⟨F,α,M,ds,o,r,n,i _ _ q⟩⟩⟩
theorem acs{k:Nat}{x:ay}{c:List ay}{g a:GN}(h:re P w K mg base k x c (mU K g))(m:sV a)(i:∀ds M Q,a ds M Q->g ds M Q):iI P w K mg base k x c a:=
 ⟨m,let⟨f,fd,e,kp,b,F⟩:=h;⟨f,fd,e,kp,b,F.imp λj H Q E ⟨F,α,M,ds,o,r,q⟩=>⟨F,α,M,ds,o,r,i _ _ _ q⟩⟩⟩
theorem methP{k:Nat}{C f:aj}{m:ay}{fd:cn}{a:List ay}{g b:GP}(c:Mi K C)(hm:Meth K C m f)(e:Binds K fd a [])(F:ky P w K mg base uR k f fd a (mU K (cl g)))(h:jo b)(i:∀ds Q,b ds Q->g ds Q):ya P w K mg base k C m (cl b):=
 ⟨K3 h,c,f,fd,a,hm,e,F.imp λj H Q E ⟨F,α,M,ds,o,r,n,q⟩=>⟨F,α,M,ds,o,r,n,i _ _ q⟩⟩
theorem aau{k:Nat}{C f:aj}{fd:cn}{a:List ay}{g b:GN}(hm:Mk K C f)(c:Binds K fd a [])(F:ky P w K mg base uR k f fd a (mU K g))(e:sV b)(i:∀ds M Q,b ds M Q->g ds M Q):nF P w K mg base k C b:=
 ⟨e,f,fd,a,hm,c,F.imp λh H Q E ⟨F,α,M,ds,o,r,q⟩=>⟨F,α,M,ds,o,r,i _ _ _ q⟩⟩
end
theorem jG{i:Nat}{gs:K0}(h:Fu (gM i))(a:Fv gs):Fv (ib (gM i) gs):=λd b M P q=>by
 cases d with
 |nil=>exact q.elim
 |cons d r=>
  have:=a r (b.set i (aa d)) M P q;simpa[ib,gM] using this
theorem rm{n:Nat}{gs:K0}(a:Fv gs):Fu (j4 n gs):=W4 a
theorem uy{fr:List (Option Nat)}{g:DG}{tt:DT}{c:DE}{st:Ms->Prop}{Q:List D->Ms->Prop}{a:kF}{M:Ms}(f:D->D)(e:st M):∀(xs acc:List D),acc.length+xs.length<=aE->
  (∀x∈xs,∀i:Option D->kF->Ms->Prop,(∀b,xI fr b=a->i (aa (f x)) b M)->qI g tt c x a M i)->Q (acc++xs.map f) M->jX fr g tt c st Q xs acc a M
 |[],acc,_,_,q=>by rw[cO,br] at q;exact q
 |x::xs,acc,j,h,q=>by unfold jX;refine h x aC _ λb e1=>⟨e,by simp at j;omega,?_⟩;rw[e1];refine uy f e xs (acc++[f x]) (by simp at j ⊢;omega) (λy l=>h y (av _ l)) ?_;rw[cD];exact q
theorem l5{g:DG}{tb:DS}{st:Ms->Prop}{E:jW}(Pv:Nat->kF->Ms->Prop)(f:∀j a M,Pv j a M->st M):∀(xs:List D) (i:Nat) (a:kF) (M:Ms),Pv i a M->
  (∀j x a M,xs[j]?=aa x->Pv (i+j) a M->∀N:kF->Ms->Prop,(∀b c,Pv (i+j+1) b c->N b c)->g x a M λm M1=>tb {E with nx:=N,ct:=N,bk:=E.nx} m M1)->
  (∀a M,Pv (i+xs.length) a M->E.nx a M)->nV g tb st E xs a M
 |[],i,a,M,p,_,e=>e a M p
 |x::xs,i,a,M,p,h,e=>by
  unfold nV;refine h 0 x a M rfl p _ λb c l=>⟨f _ _ _ l,?_⟩;exact l5 Pv f xs (i+1) b c l (λj y a M n o N r=>h (j+1) y a M (by simpa using n) (by rw[show i+(j+1)=i+1+j by omega];exact o) N λb c q=>r b c (by rw[show i+1+j+1=i+(j+1)+1 by omega];exact q))
   (λa M p=>e a M (by rw[aV,show i+(xs.length+1)=i+1+xs.length by omega];exact p))
end L3
namespace L3
open PySem PySem.Spec PyProof.Rows L2
mutual
noncomputable def dv (M:Ms):D->D
 |.non=>.non|.bl b=>.bl b|.int i=>.int i|.str x=>.str x|.ty n=>.ty n|.qc ns=>.qc ns|.cls C=>.cls C
 |.loc k=>vw M (.loc k)
 |.tup ds=>.tup (sQ M ds)|.lst ds=>.lst (sQ M ds)|.lV a ds=>.lV a (sQ M ds)|.ins C ns ds=>.ins C ns (sQ M ds)|.exc C ns ds=>.exc C ns (sQ M ds)
noncomputable def sQ (M:Ms):List D->List D
 |[]=>[]
 |d::ds=>dv M d::sQ M ds
end
theorem Lg(M:Ms):∀ds:List D,sQ M ds=ds.map (dv M)
 |[]=>rfl
 |d::ds=>by unfold sQ;rw[Lg M ds];rfl
mutual
theorem Pj (M:Ms):∀d:D,nl d=ah->dv M d=d
 |.non,_=>rfl|.bl _,_=>rfl|.int _,_=>rfl|.str _,_=>rfl|.ty _,_=>rfl|.qc _,_=>rfl|.cls _,_=>rfl
 |.loc _,h=>by unfold nl at h;cases h
 |.tup ds,h=>by unfold dv;unfold nl at h;rw[yc M ds h]
 |.lst ds,h=>by unfold dv;unfold nl at h;rw[yc M ds h]
 |.lV a ds,h=>by unfold dv;unfold nl at h;rw[yc M ds h]
 |.ins C ns ds,h=>by unfold dv;unfold nl at h;rw[yc M ds h]
 |.exc C ns ds,h=>by unfold dv;unfold nl at h;rw[yc M ds h]
theorem yc (M:Ms):∀ds:List D,kI ds=ah->sQ M ds=ds
 |[],_=>rfl
 |d::ds,h=>by unfold sQ;unfold kI at h;rw[aH] at h;rw[Pj M d h.1,yc M ds h.2]
end
theorem vJ(M:Ms)(ds:List D):(sQ M ds).length=ds.length:=by rw[Lg,ap]
section
variable {K:W.Frag} {F α:List aj} {H:Hp} {M:Ms}
mutual
theorem Xm (o:OK K F α H M):∀(d:D) (v:V),Rep K α (i0 F α M H) d v->Rep K α H (dv M d) v
 |.non,v,h=>by unfold dv;unfold Rep at h ⊢;exact h
 |.bl _,v,h=>by unfold dv;unfold Rep at h ⊢;exact h
 |.int _,v,h=>by unfold dv;unfold Rep at h ⊢;exact h
 |.str _,v,h=>by unfold dv;unfold Rep at h ⊢;exact h
 |.ty _,v,h=>by unfold dv;unfold Rep at h ⊢;exact h
 |.cls _,v,h=>by unfold dv;unfold Rep at h ⊢;exact h
 |.qc ns,v,h=>by unfold dv;unfold Rep at h ⊢;obtain⟨a,r,q⟩:=h;exact⟨a,r,kj hV q⟩
 |.loc k,v,h=>by unfold dv;exact Rep.mono (aX _) hV _ _ (xY o _ _ h)
 |.tup ds,v,h=>by unfold dv;unfold Rep at h ⊢;obtain⟨a,b,r,q,z⟩:=h;exact⟨a,b,r,oF hV q,rn o ds b z⟩
 |.lst ds,v,h=>by unfold dv;unfold Rep at h ⊢;obtain⟨a,b,r,q,z⟩:=h;exact⟨a,b,r,hV _ _ q,rn o ds b z⟩
 |.lV e ds,v,h=>by unfold dv;unfold Rep at h ⊢;obtain⟨a,b,r,q,l,z⟩:=h;exact⟨a,b,r,Di hV q,by rw[vJ];exact l,rn o ds b z⟩
 |.ins C ns ds,v,h=>by unfold dv;unfold Rep at h ⊢;obtain⟨a,c,b,r,q,l,z⟩:=h;exact⟨a,c,b,r,hV _ _ q,by rw[vJ];exact l,rn o ds b z⟩
 |.exc C ns ds,v,h=>by unfold dv;unfold Rep at h ⊢;obtain⟨a,b,r,q,l,z⟩:=h;exact⟨a,b,r,hV _ _ q,by rw[vJ];exact l,rn o ds b z⟩
theorem rn (o:OK K F α H M):∀(ds:List D) (b:List V),gA K α (i0 F α M H) ds b->gA K α H (sQ M ds) b
 |[],b,h=>by unfold sQ;unfold gA at h ⊢;exact h
 |d::ds,b,h=>by unfold sQ;unfold gA at h ⊢;obtain⟨v,r,q,z,y⟩:=h;exact⟨v,r,q,Xm o d v z,rn o ds r y⟩
end
end
section
variable {X:Cx}
end
noncomputable def sc:D->Bool
 |.non|.bl _|.int _|.str _|.ty _=>ah
 |_=>am
noncomputable def bor(g:GP):GN:=λds M Q=>kI (sQ M ds)=ah/\g (sQ M ds) λd=>sc d=ah/\Q d M
theorem Pk{g:GP}(m:jo g):sV (bor g):=λds M P Q w q=>⟨q.1,m _ _ _ (λd q=>⟨q.1,w _ _ q.2⟩) q.2⟩
theorem Xn{K:W.Frag}{α β:List aj}{H a:Hp}{d:D}{v:V}(h:sc d=ah)(r:Rep K α H d v):Rep K β a d v:=by cases d<;>first|(cases h;done)|(unfold Rep at r ⊢;exact r)
theorem Pl{K:W.Frag}{H:Hp}(t:Tb K H):OK K [] [] H []:=⟨rfl,eD,λ_ h=>by simp at h,λ_ h=>by simp at h,λk o h=>by simp at h,t⟩
def Al (H a:Hp):Prop:=∀b o,H b=aa o->wB (aa o)=aa o->a b=aa o
theorem Am{H:Hp}:Al H (jB [] H):=λb o e v=>mT (by simp) e v
theorem IG{K:W.Frag}{H b:Hp}{a:aj}{xs:List V}(e:Al H b)(h:xL K H a xs):xL K b a xs:=by
 rcases h with(h|⟨o,h⟩)|h
 ·exact .inl (.inl (e _ _ h rfl))
 ·exact .inl (.inr ⟨o,e _ _ h rfl⟩)
 ·exact .inr h
theorem An{K:W.Frag}{H b:Hp}{a:aj}{xs:List V}(e:Al H b)(h:pH K H a xs):pH K b a xs:=by
 rcases h with(h|⟨o,h⟩)|h
 ·exact .inl (.inl (e _ _ h rfl))
 ·exact .inl (.inr ⟨o,e _ _ h rfl⟩)
 ·exact .inr h
mutual
theorem Rep.wW {K:W.Frag} {α:List aj} {H c:Hp} (e:Al H c):∀(d:D) (v:V),Rep K α H d v->Rep K α c d v
 |.non,v,h=>by unfold Rep at h ⊢;exact h
 |.bl _,v,h=>by unfold Rep at h ⊢;exact h
 |.int _,v,h=>by unfold Rep at h ⊢;exact h
 |.str _,v,h=>by unfold Rep at h ⊢;exact h
 |.ty _,v,h=>by unfold Rep at h ⊢;exact h
 |.tup ds,v,h=>by unfold Rep at h ⊢;obtain⟨a,b,r,q,z⟩:=h;exact⟨a,b,r,IG e q,gA.wW e ds b z⟩
 |.lst ds,v,h=>by unfold Rep at h ⊢;obtain⟨a,b,r,q,z⟩:=h;exact⟨a,b,r,e _ _ q rfl,gA.wW e ds b z⟩
 |.qc ns,v,h=>by unfold Rep at h ⊢;obtain⟨a,r,q⟩:=h;exact⟨a,r,An e q⟩
 |.lV g ds,v,h=>by unfold Rep at h ⊢;obtain⟨a,b,r,q,l,z⟩:=h;exact⟨a,b,r,(by rcases q with q|⟨o,q⟩<;>first|exact .inl (e _ _ q rfl)|exact .inr ⟨o,e _ _ q rfl⟩),l,gA.wW e ds b z⟩
 |.ins C ns ds,v,h=>by unfold Rep at h ⊢;obtain⟨a,f,b,r,q,l,z⟩:=h;exact⟨a,f,b,r,e _ _ q rfl,l,gA.wW e ds b z⟩
 |.exc C ns ds,v,h=>by unfold Rep at h ⊢;obtain⟨a,b,r,q,l,z⟩:=h;exact⟨a,b,r,e _ _ q rfl,l,gA.wW e ds b z⟩
 |.loc k,v,h=>by unfold Rep at h ⊢;exact h
 |.cls _,v,h=>by unfold Rep at h ⊢;exact h
theorem gA.wW {K:W.Frag} {α:List aj} {H c:Hp} (e:Al H c):∀(ds:List D) (b:List V),gA K α H ds b->gA K α c ds b
 |[],b,h=>by unfold gA at h ⊢;exact h
 |d::ds,b,h=>by unfold gA at h ⊢;obtain⟨v,r,q,z,y⟩:=h;exact⟨v,r,q,Rep.wW e d v z,gA.wW e ds r y⟩
end
theorem OK.aav{K:W.Frag}{F α:List aj}{H c:Hp}{M:Ms}(o:OK K F α H M)(s:Al H c)(t:Tb K c):OK K F α c M/\Ext F α H M α c M:=by
 have qT:∀a,wB (H a)≠ao->c a=H a:=λa h=>by
  cases e:H a with
  |none=>exact absurd (by rw[e]) h
  |some x=>
   rw[e] at h;exact s a x e (by cases x<;>first|rfl|exact absurd rfl h)
 have f:∀A,jA (jB A H) (jB A c):=λA b x e=>by obtain⟨i,j,g⟩:=sU e;exact mT i (s b x j g) g
 refine⟨⟨o.ml,o.nd,λa ha=>⟨(o.fr a ha).1,by rw[qT a (o.fr a ha).2];exact(o.fr a ha).2⟩,λa ha=>by rw[qT a (o.al a ha)];exact o.al a ha,λk x h=>?_,t⟩,⟨aX _,f _,λa ha=>qT a (o.fr a ha).2⟩⟩;obtain⟨a,e,r⟩:=o.own k x h;exact⟨a,e,r.mono (aX _) (f _) (qT a (o.OT a (rf.mpr ⟨k,x,e,h⟩)))⟩
section
variable {P:aJ} {w:bj} {K:W.Frag} {mg:ay->Option af} {base:ar}
theorem hasB{k:Nat}{x:ay}{c:List ay}{g a:GP}(h:re P w K mg base k x c (mU K (cl g)))(m:jo a)(i:∀ds Q,a ds Q->g ds Q):iI P w K mg base k x c (bor a):=
 ⟨Pk m,let⟨f,fd,j,kp,b,F⟩:=h;⟨f,fd,j,kp,b,F.imp λz H Q E ⟨F,α,M,ds,o,r,n,q⟩=>by
  refine⟨[],[],[],sQ M ds,Pl o.tb,?_,n,i _ _ (m _ _ _ (λd q=>?_) q)⟩
  ·show gA K [] (jB ([]++[]) H) _ _;rw[br];exact gA.wW Am _ _ (gA.nl _ _ n (rn o _ _ r))
  ·obtain⟨l,q⟩:=q;intro v A e e' p u;have s:Al H e:=λb ob y vb=>by have:=e'.same b ob (by show jB ([]++[]) H b=_;rw[br];exact mT (by simp) y vb);exact hV _ _ this
   obtain⟨o2,e2⟩:=o.aav s p.tb;exact q v α e e2 o2 (Xn l u)⟩⟩
end
end L3
namespace L3
open PySem PySem.Spec PyProof.Rows L2
def Dt:List (DE×DE)->kF->Ms->(List (D×D)->Ms->Prop)->Prop
 |[],_,M,Q=>Q [] M
 | (tk,b)::r,a,M,Q=>tk a M λk M1=>b a M1 λv M2=>Dt r a M2 λc e=>Q ((k,v)::c) e
abbrev pK(K:W.Frag)(F α:List aj)(H:Hp)(M:Ms)(Q:List (V×V)->Hp->Prop):List (D×D)->Ms->Prop:=λf c=>∀e a b,Ext F α H M a b c->OK K F a b c->gA K a (i0 F a c b) (f.map (·.1)) (e.map (·.1))->gA K a (i0 F a c b) (f.map (·.2)) (e.map (·.2))->Q e b
structure JP(X:Cx)(pos:c7)(keys:List (Option bh))(values:List bh)(ts:List (DE×DE)):Prop where
 mono:∀δ M (P Q:List (D×D)->Ms->Prop),(∀ps M,P ps M->Q ps M)->Dt ts δ M P->Dt ts δ M Q
 p:∃trs,PPs X pos keys values trs/\∀F α δ M σ H Q,R X.K F α H σ δ M->Dt ts δ M (pK X.K F α H M Q)->Ig trs σ H Q
section
variable {X:Cx} {pos:c7} {k v:bh} {keys:List (Option bh)} {values:List bh} {tk tv:DE} {ts:List (DE×DE)}
end
end L3
namespace L3
open PySem PySem.Spec PyProof.Rows L2
section
variable {X:Cx}
end
end L3
namespace L3
open PySem PySem.Spec PyProof.Rows L2
section
variable {X:Cx} {x:ay} {pos:c7} {a b:bh} {ta tb:DE}
end
end L3
namespace L3
open PySem PySem.Spec PyProof.Rows L2
section
variable {X:Cx} {tg:bh} {a b c:bh} {tt:DA} {p pos:c7}
end
end L3
namespace L3
open PySem PySem.Spec PyProof.Rows L2
section
variable {X:Cx} {x:ay} {pos p y3:c7} {e o i:bh} {te to ti tv:DE} {op:adJ}
noncomputable def kB(k:Key)(d:D)(a:List Key)(ds:List D):List Key×List D:=if a.any (λx=>decide (x=k))=ah then(a,c8 (λx y=>if x=k then d else y) a ds) else(a++[k],ds++[d])
theorem Lh{k:Key}:∀(a:List Key) (b:List V),a.length=b.length->((a.zip b).any λc=>decide (c.1=k))=a.any λx=>decide (x=k)
 |[],[],_=>rfl
 |[],_::_,h=>by simp at h
 |_::_,[],h=>by simp at h
 |x::a,v::b,h=>by rw[cJ,cR,cR,Lh a b (by simpa using h)]
theorem Li{k:Key}{v:V}:∀(a:List Key) (b:List V),(a.zip b).map (λc=>if c.1=k then(c.1,v) else c)=a.zip (c8 (λx y=>if x=k then v else y) a b)
 |[],_=>rfl
 |_::_,[]=>rfl
 |x::a,y::b=>by rw[cJ,aR,eF,cJ,Li a b];by_cases e:x=k<;>simp[e]
theorem FV{K:W.Frag}{α:List aj}{H:Hp}{k:Key}{d:D}{v:V}(rd:Rep K α H d v):∀(a:List Key) (ds:List D) (b:List V),gA K α H ds b->gA K α H (c8 (λx y=>if x=k then d else y) a ds) (c8 (λx y=>if x=k then v else y) a b)
 |[],ds,b,h=>by show gA K α H [] [];exact gA.nil
 |x::a,[],b,h=>by unfold gA at h;subst h;exact gA.nil
 |x::a,y::ds,b,h=>by
  unfold gA at h;obtain⟨u,r,rfl,z,t⟩:=h;rw[eF,eF];refine gA.cons ?_ (FV rd a ds r t);by_cases e:x=k
  ·rw[if_pos e,if_pos e];exact rd
  ·rw[if_neg e,if_neg e];exact z
theorem MH{K:W.Frag}{α:List aj}{H:Hp}{k:Key}{d:D}{v:V}(rd:Rep K α H d v)(a:List Key)(ds:List D)(b:List V)(h:gA K α H ds b)(l:a.length=ds.length):
  ∃ws,zJ (a.zip b) k v=(kB k d a ds).1.zip ws/\(kB k d a ds).1.length=(kB k d a ds).2.length/\gA K α H (kB k d a ds).2 ws:=by
 have lv:=gA.length _ _ h;unfold zJ kB;rw[Lh a b (by omega)];by_cases e:(a.any λx=>decide (x=k))=ah
 ·rw[if_pos e,if_pos e];refine⟨_,Li a b,?_,FV rd a ds b h⟩;show a.length=(c8 _ a ds).length;rw[eY];omega
 ·rw[if_neg e,if_neg e];refine⟨b++[v],?_,by simp[l],gA.append _ _ _ _ h (gA.one rd)⟩;rw[List.zip_append (by omega)];rfl
end
end L3
namespace L3
open PySem PySem.Spec PyProof.Rows L2
section
variable {X:Cx} {x:ay} {pos p y3:c7} {e o i:bh} {te to ti tv:DE} {op:adJ}
end
end L3
namespace L3
open PySem PySem.Spec PyProof.Rows L2
section
variable {β:Type}
end
end L3
namespace L2
open PySem PySem.Spec PyProof.Rows
section
variable {prog:aJ} {w:bj} {A:ba} {E:af->ai->Prop} {s:ai}
end
section
variable {X:Cx}
theorem Cv:∀{ss:List ay} {a:List af},Vals (ss.map V.str) a->StrsAre a ss
 |[],_,h=>by cases h;exact .nil
 |x::ss,_,h=>by
  cases h with
  |cons r t=>obtain⟨u,rfl⟩:=r;exact .cons x u (Cv t)
end
end L2
namespace L3
open PySem PySem.Spec PyProof.Rows L2
section
variable {X:Cx}
theorem Cw{K:W.Frag}{α:List aj}{H:Hp}:∀{ss:List ay} {a:List V},gA K α H (ss.map D.str) a->a=ss.map V.str
 |[],a,h=>by unfold gA at h;exact h
 |x::ss,a,h=>by unfold fZ gA at h;obtain⟨v,r,rfl,z,y⟩:=h;unfold Rep at z;rw[z,Cw y];rfl
end
end L3
namespace L2
open PySem PySem.Spec PyProof.Rows
noncomputable def tD(val:Nat->ay):Nat->List ay
 |0=>[]
 |i+1=>adk (tD val i) (val i)
theorem Lj(val:Nat->ay):∀i,(tD val i).length<=i
 |0=>bf _
 |i+1=>by
  have a:=Lj val i;unfold tD adk;split
  ·omega
  ·simp;omega
theorem IH(σ:List ay)(v k:ay):(adk σ v).any (·==k)=(σ.any (·==k)||decide (k=v)):=by
 unfold adk;by_cases h:σ.any (·==v)=ah
 ·rw[if_pos h];by_cases e:k=v
  ·subst e;rw[h];rfl
  ·simp[e]
 ·rw[if_neg h,List.any_append];by_cases e:k=v
  ·subst e;simp
  ·have a:(v==k)=am:=by simpa usingλz:v=k=>e z.symm
   simp[a,e]
theorem Du(σ:List ay)(v:ay):(adk σ v).length=if σ.any (·==v) then σ.length else σ.length+1:=by unfold adk;split<;>simp
section
variable {prog:aJ} {w:bj} {A:ba} {E:af->ai->Prop} {s:ai}
abbrev yd(prog:aJ)(w:bj)(h:ar)(a:aj)(val:Nat->ay)(i:Nat):Prop:=h.SetOf (PySem.strKind prog w) a (λk=>(tD val i).any (·==k)) (tD val i).length
theorem MI{R:fS->ai->Prop}{It:aj}{B h:List aj}{G:Array fj->Array fj->Prop}{n:Nat}{P:Nat->af->Prop}{St:Nat->ai->Prop}(W:WalksS prog w A.in1 It B h G n P St)(a:aj)(c:a∉B)
(val:Nat->ay)(C:∀i v,P i v->∃t,v=.str (val i) t)(U:n+1<ads):∀(k i:Nat) (s:ai),n- i=k->i<=n->St i s->yd prog w s.heap a val i->
   (∀j,Moved (a::h) G s j->yd prog w j.heap a val n->R (.ok (.ret .none)) j)->codeAny (model prog w) A (.builtin "set.update.loop" ⟨[.ref a,.ref It],[]⟩) R s:=by
 have f:a∉h:=λz=>c (W.sub _ z);intro k;induction k with
 |zero=>
  intro i s H hi l m p;obtain rfl:i=n:=by omega
  refine fH fQ ?_;rw[eL dD _];show wpAny _ A.in1 (pyNext (.ref It) >>= _) _ _ s;refine ag (W.done s _ _ l λs1 g=>?_);show wpAny _ A.in1 (ret bC) _ _ s1;obtain⟨o,es,q,t,r,more⟩:=m;exact aq (p s1 (g.mono λb z=>av _ z) ⟨o,es,q,t,g.heap a _ f r,more⟩)
 |succ k I=>
  intro i s H hi l m p;have lt:i<n:=by omega
  refine fH fQ ?_;rw[eL dD _];show wpAny _ A.in1 (pyNext (.ref It) >>= _) _ _ s;refine ag (W.item i s _ _ lt l λv s1 J u g=>?_);obtain⟨t,rfl⟩:=C i v J;have L:yd prog w s1.heap a val i:=by obtain⟨o,es,q,tb,r,more⟩:=m;exact⟨o,es,q,tb,g.heap a _ f r,more⟩
  show wpAny _ A.in1 (holding [fR (val i) t] (setAdd a (.str (val i) t)) >>= _) _ _ s1;refine ag (cc ?_);unfold setAdd;refine cc (ag ((PySem.strKind prog w).pyHash (k:=val i) (PySem.strKind_is _ _ _ _) ?_));have room:(tD val i).length+1<ads:=by have:=Lj val i;omega
  refine wpAny_setAddHashed_of (knd:=PySem.strKind prog w) (s:={s1 with toks:=s1.toks+1}) (PySem.strKind_is _ _ _ _) rfl L room λM sb N=>?_;have O:yd prog w M a val (i+1):=SetOf_congr N (λk=>(IH _ _ _).symm) (Du _ _).symm;refine aq ⟨ad4 dD _,I (i+1) _ (by omega) lt (W.frame _ s1 _ _ u (dP _) λb x o e=>?_) O λQ y T=>?_⟩
  ·rw[sb.2 b λz=>c (z▸x)];exact e
  ·refine p Q (Moved.trans W.gtrans ((g.mono λb z=>av _ z).then_heap (dP _) λb o x e=>?_) y) T;rw[sb.2 b λz=>x (z▸aC)];exact e
theorem Lk:∀{a:List af} {ss:List ay},StrsAre a ss->∀(i:Nat) (v:af),a[i]?=aa v->∃t,v=.str (ss.getD i ⟨#[]⟩) t
 |_,_,.nil,i,v,h=>by simp at h
 |_,_,.cons x t r,0,v,h=>by simp at h;exact⟨t,h.symm⟩
 |_,_,.cons x t r,i+1,v,h=>by obtain⟨u,e⟩:=Lk r i v (by simpa using h);exact⟨u,by rw[e];rfl⟩
theorem MJ{l:aj}{items:Array af}{ss:List ay}{Q:af->ai->Prop}(J:A.handled=ao)(L:s.heap.IsList l items)(hi:StrsAre items.toList ss)(M:items.size+1<ads)
(N:∀(f:ar) (tk:Nat),yd prog w f s.heap.objs.size (λi=>ss.getD i ⟨#[]⟩) items.size->(∀b o,s.heap.get? b=aa o->f.get? b=aa o)->Q (.ref s.heap.objs.size) {s with heap:=f,toks:=tk}):
  wpAny (model prog w) A (call (.type "set") [.ref l]) Q E s:=by
 obtain⟨c,tl,O⟩:=PySem.F.called_set.mro;have T:=PySem.F.called_set.made;have S9:=PySem.F.called_set.sub;refine dj (adT ?_);show wpAny _ _ (callAny (.type "set") _) _ _ _;refine aq ⟨Code.quiet_builtin _ (by decide+kernel),fH PySem.F.entry_type_call ?_⟩;rw[ba.under_plain (weight_type_call_type "set" [.ref l] []) rfl];have n1:=PySem.F.called_set.notType;have n2:=PySem.F.called_set.canCreate;have n3:=PySem.F.typeCall_set_1 (.ref l);repeat (any_goals (first|assumption|wp_step))
 refine cX (code_set_new_1 (.ref l) (E:=E) (Q₁:=λv s1=>∃a:Bool,v=.ref s.heap.objs.size/\s1={s with heap:=s.heap.push {cls:=.type "set",dict:=ao,data:=.set #[] 0 (.fresh 0 0 a)}}) λa=>⟨a,rfl,rfl⟩) λr s1 q=>?_;cases r with
 |error e=>exact q
 |ok fl=>
  cases fl with
  |ret v=>
   obtain⟨a,rfl,rfl⟩:=q;have h:(s.heap.push {cls:=.type "set",dict:=ao,data:=.set #[] 0 (.fresh 0 0 a)}).get? s.heap.objs.size=aa {cls:=.type "set",dict:=ao,data:=.set #[] 0 (.fresh 0 0 a)}:=aQ _ rfl;have u:ai.TypeIs {s with heap:=s.heap.push {cls:=.type "set",dict:=ao,data:=.set #[] 0 (.fresh 0 0 a)}} (.ref s.heap.objs.size) "set":=⟨_,h,rfl⟩;have n4:=PySem.F.called_set.init.lookup;have n5:=PySem.F.called_set.init.bind (.ref s.heap.objs.size);repeat (any_goals (first|assumption|wp_step))
   refine cX (df (R:=wants (λr s2=>r=.none/\∃f tk,s2={s with heap:=f,toks:=tk}/\yd prog w f s.heap.objs.size (λi=>ss.getD i ⟨#[]⟩) items.size/\(∀b o,s.heap.get? b=aa o->f.get? b=aa o)) E) PySem.F.called_set.init.plain PySem.F.entry_set_init (check_set_init_1 u ?_)) λr2 s2 g=>?_
   ·obtain⟨U,x,j,nl,Iy⟩:=L;obtain⟨oc,od,ot,os⟩:=U;simp only at j Iy;subst j;subst Iy;have m:(s.heap.push {cls:=.type "set",dict:=ao,data:=.set #[] 0 (.fresh 0 0 a)}).IsList l items:=⟨_,ak _ x,rfl,nl,rfl⟩;have Y:(s.heap.push {cls:=.type "set",dict:=ao,data:=.set #[] 0 (.fresh 0 0 a)}).get? l=aa {cls:=.type "list",dict:=od,data:=.seq items nl,slots:=os}:=ak _ x;have m1:=PySem.F.sub_list_set;have m2:=PySem.F.sub_list_frozenset;have m3:(fi "list"==fi "dict")=am:=by decide
    unfold bt.«set.__init__» noKeywords bt.Frozenset.updateFrom;generalize y:adn=PI
    wp_walk
    subst y;refine dS m (ag (wpAny_runValue ?_));have n:l<s.heap.objs.size:=aD x;have h3:A.in1.in1.in1.handled=ao:=by simp[J]
    have B:l≠(s.heap.push {cls:=.type "set",dict:=ao,data:=.set #[] 0 (.fresh 0 0 a)}).objs.size:=by rw[bG];exact bn (dO n)
    have C:s.heap.objs.size∉[(s.heap.push {cls:=.type "set",dict:=ao,data:=.set #[] 0 (.fresh 0 0 a)}).objs.size,l]:=by rw[bG];simp only [az,bi,or_false,not_or];exact⟨bn (eO _),c9 n⟩
    refine MI ((adR.list h3 _ l B items).toS) s.heap.objs.size C (λi=>ss.getD i ⟨#[]⟩) (λi v hv=>Lk hi i v (by rw[gq];exact hv)) M (items.size- 0) 0 _ (by omega) (bJ _) ⟨⟨_,aQ _ rfl,rfl,rfl⟩,(m.push _)⟩ ?s0 ?fn;case s0=>exact SetOf_congr ((setObjOf_fresh (knd:=PySem.strKind prog w) a).setOf (ak _ h) (by unfold ads;omega)) (λ_=>rfl) rfl
    case fn=>
     intro s3 p S3;obtain⟨G,g3,d3,t3,o3⟩:=s3;have eg:g3=s.gens:=p.gens;have ed:d3=s.drawn:=p.drawn;have eo:o3=s.os:=p.os;subst eg ed eo;refine aq ?_;show wpAny _ _ (ret bC) _ _ _;refine aq ⟨rfl,G,t3,rfl,S3,λb o e=>p.heap b o ?_ (ak _ (ak _ e))⟩;have z:=aD e;rw[bG];simp only [az,bi,or_false,not_or];exact⟨bn z,bn (dO z)⟩
   ·cases r2 with
    |error e=>exact g
    |ok H=>
     cases H with
     |ret r=>
      obtain⟨rfl,f,tk,rfl,S4,k4⟩:=g;repeat (any_goals (first|assumption|wp_step))
      exact N _ _ S4 k4
     |_=>exact g.elim
  |_=>exact q.elim
end
end L2
namespace L2
open PySem PySem.Spec PyProof.Rows
section
variable {X:Cx} {p pos p2 Pn:c7} {e:bh} {te:TE}
noncomputable def II(ss:List ay):Nat:=(tD (λi=>ss.getD i ⟨#[]⟩) ss.length).length
noncomputable def Po(P:aJ)(w:bj)(a:aj)(n:Nat):HO:=.ext λh=>∃S,h.SetOf (PySem.strKind P w) a S n
theorem Tu{P:aJ}{w:bj}{H:Hp}{h:ar}{a:aj}{n:Nat}{S:ay->Bool}(x:h.SetOf (PySem.strKind P w) a S n):iN P w H h a (Po P w a n):=by obtain⟨o,es,g,t,f,more⟩:=x;refine⟨⟨S,o,es,g,t,f,more⟩,⟨o,f⟩,λl m ⟨i,o1,b,c,t1,e1,j⟩ k=>⟨i,o1,b,c,t1,k _ e1,j⟩⟩
theorem MK(f:X.A.handled=ao):nJ X (.type "set") (λxs H Q=>∃p ss,xs=[.ref p]/\pH X.K H p (ss.map V.str)/\ss.length<1000/\∀l,H l=ao->Q (.ref l) (upd H l (Po X.prog X.w l (II ss)))):=by
 intro pins s σ H xs us Q I r h;obtain⟨p,ss,rfl,g,j,q⟩:=h;obtain⟨u,rfl,i⟩:=vals1 r;cases i;obtain⟨g8,c,pl,_⟩:=I.list g;have a:=Cv c;have b:=c.length;rw[ap] at b;refine MJ f pl.isList (ss:=ss) (by simpa using a) (by rw[aT,<-b];unfold ads;omega) λm tk S k=>?_;have e3:g8.toArray.size=ss.length:=by rw[aT,b]
 rw[e3] at S;exact⟨.ref s.heap.objs.size,_,I.laid (t':=tk) k (bf _) (Tu S),rfl,q _ (I.iJ.fresh (bf _))⟩
theorem ML:nJ X (.builtin "len") (λxs H Q=>∃p n,xs=[.ref p]/\H p=aa (Po X.prog X.w p n)/\Q (.int n) H):=by
 intro pins s σ H xs us Q I r h;obtain⟨p,n,rfl,a,q⟩:=h;obtain⟨u,rfl,b⟩:=vals1 r;cases b;obtain⟨⟨S,o,es,i,t,c,hex,hd,j,hm,f,g,hn⟩,_⟩:=(show iN X.prog X.w H s.heap p (Po X.prog X.w p n) from I.iJ p _ a);subst hn;refine call_len_set c hex hd g ?_ ⟨.int es.size,H,I.tok _,⟨_,rfl⟩,q⟩;unfold ads at f;have:(es.size:Int)<4096:=by omega
 exact Int.lt_of_lt_of_le this (by decide)
end
end L2
namespace L3
open PySem PySem.Spec PyProof.Rows L2
section
variable {X:Cx} {p pos p2 Pn:c7} {e:bh} {te:DE}
noncomputable def Ll(te:DE):DE:=λa M Q=>te a M λd M1=>∃ss:List ay,vw M1 d=.lst (ss.map .str)/\ss.length<1000/\Q (.int (II ss)) M1
theorem Pp(j:X.A.handled=ao)(ml:X.mg "len"=ao)(ms:X.mg "set"=ao)(b:JE X e te)(m:Gl X "len":=by rfl)(gs:Gl X "set":=by rfl)
(h:aM [.Call (.Name "set" p2) [e] [] Pn] X.env=[(am,eval (.Call (.Name "set" p2) [e] [] Pn) X.env)]:=by rfl)(i:aM [e] X.env=[(am,eval e X.env)]:=by rfl):
  JE X (.Call (.Name "len" p) [.Call (.Name "set" p2) [e] [] Pn] [] pos) (Ll te):=by
 have s1:PE X (.Call (.Name "set" p2) [e] [] Pn) _:=xP (MK j) gs ms (by rfl) (uq b.p Db i) (hn:=by decide) (qW:=by decide) (he:=i) (qX:=rfl);have s2:=Fg (p:=p) (pos:=pos) (ML (X:=X)) m ml (by rfl) (uq s1 Db h) (hn:=by decide) (qW:=by decide) (he:=h) (qX:=rfl);refine⟨λc M P Q w q=>b.mono c _ _ _ (λd M1 q=>?_) q,PE.weak s2 λσ H Q q=>?_⟩
 ·obtain⟨ss,f,g,q⟩:=q;exact⟨ss,f,g,w _ _ q⟩
 ·obtain⟨F,α,c,M,r,q⟩:=q;refine⟨F,α,c,M,r,b.mono c _ _ _ (λd M1 q v s H1 e1 o1 r1=>?_) q⟩;obtain⟨ss,f,g,q⟩:=q;obtain⟨a,B,rfl,u,y⟩:=j6 o1 r1 f;have e2:=Cw y;subst e2;refine⟨a,ss,rfl,pH.of u,g,λl z=>⟨l,_,rfl,gW,?_⟩⟩;obtain⟨o2,e2⟩:=o1.laid (x:=Po X.prog X.w l (II ss)) z;exact q _ s _ (e1.trans e2) o2 i6
end
end L3
namespace L2
open PySem PySem.Spec PyProof.Rows
section
variable {prog:aJ} {w:bj} {κ:Type} [DecidableEq κ] {knd:PySem.KeyKind prog w κ} {A:ba} {E:af->ai->Prop} {s:ai} {d:aj} {ik:List (κ×af)} {k:κ} {key v:af}
end
section
variable {X:Cx}
end
end L2
namespace L3
open PySem PySem.Spec PyProof.Rows L2
section
variable {X:Cx}
end
end L3
namespace L2
open PySem PySem.Spec PyProof.Rows
section
variable {prog:aJ} {w:bj} {A:ba} {E:af->ai->Prop} {s:ai}
theorem Dv:adV (.type "list") "keys"=pure ao:=am_miss_of_fast (by kernel_rfl)
theorem Tv{a:aj}{o:bS}{xs:Array af}{k:Nat}{Q:Option af->ai->Prop}(j:s.heap.get? a=aa o)(l:o.cls=.type "list")(h:o.data=.seq xs k)(hd:o.dict=ao)(n:A.handled=ao)
(p:∀(i:ar) (tk:Nat),(∀b o,s.heap.get? b=aa o->i.get? b=aa o)->Q ao {s with heap:=i,toks:=tk}):wpAny (model prog w) A (aes (.ref a) "keys") Q E s:=by
 obtain⟨c,lV,q,sl⟩:=o;simp only at l h hd;subst l h hd;obtain⟨r,g,d,tk,os⟩:=s;have ty:∀f,(⟨r,g,d,f,os⟩:ai).TypeIs (.ref a) "list":=λ_=>⟨_,j,rfl⟩;have u:=sub_AttributeError;have v:=PySem.F.slot_list_getattribute.lookup;have x:=PySem.F.slot_list_getattribute.bind (.ref a);have y:=am_list_getattr_none;unfold aes getAttrBy? getAttrBy;repeat (any_goals (first|assumption|exact ty _|((with_reducible show wpAny _ _ (call (cB "list.__getattribute__") _ _) _ _ _);refine adZ PySem.F.slot_list_getattribute (ty _) am_entry_list_getattribute (PySem.F.args_list_getattribute_2 _ _) (meets_getattribute_miss_list a xs k sl "keys" _ Dv (by decide) (by rw[gb];decide)) ⟨j,n,λi f e m=>?_⟩)|wp_step))
 obtain⟨z,B,C⟩:=m.there;show wpAny _ _ (aeC _ _ _ _ _ _ _) _ _ _;unfold aeC;repeat (any_goals (first|assumption|wp_step))
 exact p i f m.keeps
end
end L2
namespace L2
open PySem PySem.Spec PyProof.Rows
theorem tE:entryFor table "dict.update.loop"=aa bt.«dict.update.loop»:=entryFor_of_tree (by kernel_rfl)
theorem l6:plainId "dict.update.loop"=ah:=by decide+kernel
section
variable {prog:aJ} {w:bj} {κ:Type} [DecidableEq κ] {knd:PySem.KeyKind prog w κ} {A:ba} {E:af->ai->Prop} {s:ai}
def Dw (h:ar)(v:af)(key val:af):Prop:=∃a,v=.ref a/\adt h a #[key,val]
theorem pair_items{v key val:af}{Q:List af->ai->Prop}(b:Dw s.heap v key val)(q:Q [key,val] s):wpAny (model prog w) A (bt.Dict.pairItems v) Q E s:=by obtain⟨a,rfl,o,e,f,n,hd⟩:=b;obtain⟨c,h,i,sl⟩:=o;simp only at f hd;subst f hd;obtain⟨b,g,d,tk,os⟩:=s;have ty:(⟨b,g,d,tk,os⟩:ai).TypeIs (.ref a) "tuple":=⟨_,e,rfl⟩;unfold bt.Dict.pairItems;refine ag (aed ty ?_);rw[if_pos (by decide)];unfold aeY;refine ag (ag (wpAny_load e (aq (aq ?_))));exact q
end
end L2
namespace L2
open PySem PySem.Spec PyProof.Rows
section
variable {X:Cx}
def Dx (K:W.Frag)(H:Hp):List V->List (Key×V)->Prop
 |[],[]=>True
 |y::b,(k,u)::r=>(∃a,y=.ref a/\xL K H a [kV k,u])/\Dx K H b r
 |_,_=>False
theorem yO{pins:List (aj×bS)}{s:ai}{σ:L2.St}{H:Hp}(I:Inv X pins σ H s):∀{f:List V} {g:List (Key×V)} {g8:List af},Dx X.K H f g->Vals f g8->
  ∃c:List (Key×af),KV g c/\g8.length=c.length/\∀(i:Nat) (v:af),g8[i]?=aa v->∃k key u,c[i]?=aa (k,u)/\(kz X.prog X.w).is k key=ah/\Dw s.heap v key u
 |[],[],g8,_,r=>by cases r;exact⟨[],.nil,rfl,λi v h=>by simp at h⟩
 |[],_::_,_,h,_=>h.elim
 |_::_,[],_,h,_=>h.elim
 |y::f,(k,u)::g,g8,⟨⟨a,e,l⟩,h⟩,r=>by
  subst e;cases r with
  |@cons _ b _ bs r1 r2=>
   cases r1;obtain⟨c,m,n,o⟩:=yO I h r2;obtain⟨p,q,x,_⟩:=I.tuple l;obtain⟨key,val,rfl,z,A⟩:=vals2 q;refine⟨(k,val)::c,.cons ⟨rfl,A⟩ m,by simp[n],λi v j=>?_⟩;cases i with
   |zero=>simp at j;subst j;exact⟨k,key,val,rfl,Fh z,a,rfl,x⟩
   |succ i=>exact o i v (by simpa using j)
end
end L2
namespace L3
open PySem PySem.Spec PyProof.Rows L2
section
variable {X:Cx}
noncomputable def kD:Key->D
 |.inl i=>.int i
 |.inr x=>.str x
noncomputable def prD(kd:Key×D):D:=.tup [kD kd.1,kd.2]
theorem Xo{K:W.Frag}{α:List aj}{H:Hp}{k:Key}{v:V}(h:Rep K α H (kD k) v):v=kV k:=by cases k<;>(unfold kD Rep at h;exact h)
theorem Ao{K:W.Frag}{α:List aj}{H f:Hp}(e:jA H f):∀{b:List (Key×D)} {c:List V},gA K α H (b.map prD) c->∃us:List V,Dx K f c ((b.map (·.1)).zip us)/\gA K α H (b.map (·.2)) us
 |[],c,h=>by unfold fZ gA at h;subst h;exact⟨[],trivial,gA.nil⟩
 | (k,d)::b,c,h=>by unfold fZ gA at h;obtain⟨v,r,rfl,z,y⟩:=h;unfold prD Rep at z;obtain⟨a,ws,rfl,g,i⟩:=z;obtain⟨n,j,rfl,r1,r2⟩:=Ad i;cases Xo r1;obtain⟨us,l,m⟩:=Ao e y;exact⟨j::us,⟨⟨a,rfl,oF e g⟩,l⟩,gA.cons r2 m⟩
end
end L3
namespace L2
open PySem PySem.Spec PyProof.Rows
section
variable {P:aJ} {w:bj} {A:ba} {E:af->ai->Prop} {H:Hp} {fs:List aj}
structure Cq(P:aJ)(w:bj)(fs:List aj)(H:Hp)(s s':ai):Prop where
 os:s'.os=s.os
 bare:fJ s'.gens
 iJ:um P w H s'.heap
 un:Un fs [] H H s.heap s'.heap
theorem Cq.at{s s1:ai}{b:aj}{o:bS}(c:Cq P w fs H s s1)(e:s.heap.get? b=aa o)(n:H b=ao)(a:b∉fs):s1.heap.get? b=aa o:=c.un.keep b o e n a (by simp)
section
variable {s0 s:ai} {a kS:aj} {vs:List af} {ss:List ay} {keys:Array af} {e e1:Nat} {Pq:PySem.Fin->ai->Prop}
end
end
end L2
namespace L2
open PySem PySem.Spec PyProof.Rows
section
variable {P:aJ} {w:bj} {A:ba} {E:af->ai->Prop} {H:Hp} {fs:List aj} {s0 s:ai} {a kS:aj} {vs:List af} {ss:List ay} {e1:Nat} {Pq:PySem.Fin->ai->Prop} {f:af}
end
end L2
namespace L2
open PySem PySem.Spec PyProof.Rows PySem.W
structure acu(base:ar)(mg:ay->Option af)(cd:af)(c P:aj):Prop where
 cd:cd=.ref c
 hd:CodeHd base c P
 bl:base.BuiltinsAt mg P
 gP:aO≠P
section
variable {X:Cx} {pins:List (aj×bS)} {σ:L2.St} {H:Hp} {s:ai} {A:ba} {E:af->ai->Prop} {c P:aj} {ps:Array af} {params:adr} {body:bh} {scope:cx} {pos:c7} {Q:af->ai->Prop}
end
end L2
namespace L2
open PySem PySem.Spec PyProof.Rows PySem.W
section
variable {P:aJ} {w:bj} {K:W.Frag} {mg:ay->Option af} {base:ar} {A:ba} {outer:List eH} {s:ai} {H:Hp} {f c:aj} {x qual:ay} {params:adr} {body:bh} {scope:cx} {pm ctv:af} {t:TE} {u:af} {v:V} {Q:VK} {k:Nat}
end
section
variable {K:W.Frag} {H H':Hp}
def Dy (K:W.Frag)(H:Hp):List V->List ay->Prop
 |[],[]=>True
 |y::b,k::c=>(∃a zs,y=.ref a/\xL K H a (.str k::zs))/\Dy K H b c
 |_,_=>False
theorem Dy.length:∀{a:List V} {b:List ay},Dy K H a b->a.length=b.length
 |[],[],_=>rfl
 |[],_::_,h=>h.elim
 |_::_,[],h=>h.elim
 |_::a,_::b,h=>by rw[aV,aV,Dy.length h.2]
theorem Vs.keep{P:aj}{q:ay}(t:Vs P q H H')(f:∃a,H P=aa (.HP a)){b:aj}{o:HO}(e:H b=aa o)(n:∀a,o≠.HP a):H' b=aa o:=by
 obtain⟨a,f⟩:=f;rcases t.2 with h|⟨c,i,g,j,h⟩
 ·rw[h];exact e
 ·rw[h,gF (λz=>by rw[z,f] at e;exact n a (bq e).symm),gF (λz=>by rw[z,g] at e;cases e)];exact e
end
section
variable {X:Cx} {c P:aj} {e:bh} {te:TE} {p pos acv ZB np sp cp:c7} {params:adr} {scope:cx} {x:ay} {k j:Nat}
end
end L2
namespace L3
open PySem PySem.Spec PyProof.Rows L2
section
variable {K:W.Frag} {α:List aj} {H:Hp}
end
section
variable {X:Cx} {c P:aj} {e:bh} {te:DE} {p pos acv ZB np sp cp:c7} {params:adr} {scope:cx} {x:ay} {k j:Nat}
structure ac8(X:Cx):Prop where
 ex:∃c P,W.tabIn X.K "by_name"=aa (c,P)/\acu X.base X.mg X.env.code c P
 q:X.env.qual++"<lambda>"=Z1 "by_name"
end
end L3
namespace L3
open PySem PySem.Spec PyProof.Rows L2
structure acw(K:W.Frag)(mg:ay->Option af)(base:ar):Prop where
 N2:K.In base
 glob:base.Ns aO mg
 tab:∃c P,W.tabIn K "by_name"=aa (c,P)/\W.CodeHd base c P/\base.BuiltinsAt mg P/\aO≠P
section
variable {P:aJ} {w:bj} {K:W.Frag} {mg:ay->Option af} {base:ar}
end
end L3
namespace L3
open PySem PySem.Spec PyProof.Rows L2
end L3
namespace L2
open PySem PySem.Spec PyProof.Rows
theorem wX(f:Nat->Int):∀n,ad1 f (n+1)=f 0+ad1 (λi=>f (i+1)) n
 |0=>by simp[ad1]
 |n+1=>by have a:=wX f n;show ad1 f (n+1)+f (n+1)=f 0+(ad1 (λi=>f (i+1)) n+f (n+1));rw[a];omega
theorem yP:∀(f:Nat->Int) (l:List Int),(∀i,i<l.length->f i=l.getD i 0)->ad1 f l.length=l.sum
 |f,[],_=>rfl
 |f,x::l,h=>by rw[aV,wX,eR,yP (λi=>f (i+1)) l λi hi=>(by have:=h (i+1) (by simp;omega);simpa using this),h 0 (by simp)];rfl
section
variable {X:Cx}
theorem MP(G:X.calm=ah):nJ X (.builtin "sum") (λxs H Q=>∃(a:aj) (ns:List Int),xs=[V.ref a]/\pH X.K H a (ns.map V.int)/\Q (.int ns.sum) H):=by
 intro pins s σ H xs us Q I r h;obtain⟨a,ns,rfl,J,q⟩:=h;obtain⟨u,rfl,j⟩:=vals1 r;cases j;obtain⟨g8,w,p,hz⟩:=I.list J;have L:X.A.in1.handled=ao:=I.ok.hd G;have x:a<s.heap.objs.size:=by obtain⟨o,n,e,_⟩:=p;exact aD e
 have M:g8.length=ns.length:=by have:=w.length;rw[ap] at this;exact this.symm
 refine call_sum_walkAnyS (dS p.isList ?_);refine⟨s.heap.objs.size,_,_,_,_,_,_,λi=>ns.getD i 0,rfl,(adR.list L s.heap.objs.size a (bn x) g8.toArray).toS,⟨⟨_,aQ _ rfl,rfl,rfl⟩,p.isList.push _⟩,λb c=>?_,λi v f=>?_,λB C g=>?_⟩
 ·show b<(s.heap.push _).objs.size;rw[bG];simp only [az,bi,or_false] at c;rcases c with rfl|rfl
  ·exact eO _
  ·exact dO x
 ·have f:g8[i]?=aa v:=by simpa using f
  have hi:i<g8.length:=(aB.mp f).1;have c:(ns.map V.int)[i]?=aa (V.int (ns.getD i 0)):=by rw[bA,bX,aZ (by omega)];rfl
  obtain⟨u,E,j⟩:=w.get c;rw[f] at E;cases E;exact j
 ·have e:ad1 (λi=>ns.getD i 0) g8.toArray.size=ns.sum:=by rw[aT,M];exact yP _ _ λi _=>rfl
  rw[e];have k:∀b o,s.heap.get? b=aa o->B.heap.get? b=aa o:=λb o z=>g.heap b o (λy=>by rw[bP.mp y] at z;exact absurd (aD z) (cu _)) (ak _ z);obtain⟨h',N,O,l,m⟩:=B;have T:N=s.gens:=g.gens;have U:O=s.drawn:=g.drawn;have Y:m=s.os:=g.os;subst T U Y;exact⟨.int ns.sum,H,I.kept (t':=l) k,⟨C,rfl⟩,q⟩
end
end L2
namespace L3
open PySem PySem.Spec PyProof.Rows L2
section
variable {X:Cx}
noncomputable def Pr:GN:=λds M Q=>match ds with
 |[d]=>∃ns:List Int,vw M d=.lst (ns.map .int)/\Q (.int ns.sum) M
 |_=>False
theorem Cz{K:W.Frag}{α:List aj}{H:Hp}:∀{ss:List Int} {a:List V},gA K α H (ss.map D.int) a->a=ss.map V.int
 |[],a,h=>by unfold gA at h;exact h
 |x::ss,a,h=>by unfold fZ gA at h;obtain⟨v,r,rfl,z,y⟩:=h;unfold Rep at z;rw[z,Cz y];rfl
theorem Dz(e:X.calm=ah:=by rfl):JB X (.builtin "sum") Pr:=by
 refine⟨λds M P Q w q=>?_,λpins s σ H xs us Q I rs h=>?_⟩
 ·match ds,q with
  |[d],⟨ns,b,q⟩=>exact⟨ns,b,w _ _ q⟩
 ·obtain⟨F,α,M,ds,o,c,h⟩:=h;match ds,h,c with
  |[d],⟨ns,b,q⟩,c=>
   obtain⟨v,f,g⟩:=tq c;subst f;obtain⟨a,l,rfl,i,j⟩:=j6 o g b;have e2:=Cz j;subst e2;exact MP e pins s σ H _ us Q I rs ⟨a,ns,rfl,pH.of i,vK.now o q i6⟩
end
end L3
namespace L2
open PySem PySem.Spec PyProof.Rows
section
variable {X:Cx}
end
end L2
namespace L3
open PySem PySem.Spec PyProof.Rows L2
section
variable {X:Cx}
end
end L3
namespace L2
open PySem PySem.W PyProof.Rows
section
variable {n:Nat} {f:Nat->Nat->Bool} {p:Array Nat}
structure Ord(n:Nat)(f:Nat->Nat->Bool):Prop where
 tr:∀i j k,f i j=ah->f j k=ah->f i k=ah
 tot:∀i j,i<n->j<n->i≠j->f i j=am->f j i=ah
structure Row(n:Nat)(p:Array Nat):Prop where
 sz:p.size=n
 pm:p.toList.Perm (dn n)
end
end L2
namespace L2
open PySem PySem.Spec PyProof.Rows PySem.W
section
variable {prog:aJ} {w:bj} {A:ba} {E:af->ai->Prop} {s:ai}
end
section
variable {X:Cx}
end
end L2
namespace L3
open PySem PySem.Spec PyProof.Rows L2
section
variable {X:Cx}
end
end L3
namespace L2
open PySem PySem.Spec PyProof.Rows
section
variable {X:Cx} {o:bh} {to:TE} {apos jj y3:c7} {elts:List bh} {n:Nat}
end
end L2
namespace L3
open PySem PySem.Spec PyProof.Rows L2
section
variable {X:Cx}
end
end L3
namespace L2
open PySem PySem.Spec PyProof.Rows
section
variable {prog:aJ} {w:bj} {A:ba} {E:af->ai->Prop} {s:ai} {a b:aj} {K:Type} [DecidableEq K] {knd:PySem.KeyKind prog w K} {vs ws:List (K×af)}
end
end L2
namespace L3
open PySem PySem.Spec PyProof.Rows L2
section
variable {X:Cx}
end
end L3
namespace L3
open PySem PySem.Spec PyProof.Rows L2
section
variable {X:Cx}
end
end L3
namespace L2
open PySem PySem.Spec PyProof.Rows
section
variable {prog:aJ} {w:bj} {A:ba} {E:af->ai->Prop} {s:ai}
end
section
variable {X:Cx} {pos:c7}
end
end L2
namespace L3
open PySem PySem.Spec PyProof.Rows L2
section
variable {X:Cx} {pos:c7}
end
end L3
namespace L2
open PySem PySem.Spec PyProof.Rows
section
variable {X:Cx} {o:bh} {to:TE} {apos jj:c7} {tg:bh}
end
end L2
namespace L3
open PySem PySem.Spec PyProof.Rows L2
section
variable {X:Cx}
end
end L3
namespace L3
open PySem PySem.Spec PyProof.Rows L2
section
variable {K:W.Frag} {F α:List aj} {H:Hp} {M:Ms}
end
end L3
namespace L2
open PySem PySem.Spec PyProof.Rows
def Rec (h:ar)(e:aj)(cls:af)(od:Option aj)(T:aj):Prop:=
 ∃a b c f,h.get? e=aa a/\a.cls=cls/\a.dict=od/\a.data=.fields b/\b[1]?=aa (.ref T)/\T≠e/\h.get? T=aa c/\c.data=.fields f/\f[3]?=aa .none
def IJ (h:ar)(e:aj)(cls:af)(od:Option aj):Prop:=∃a,h.get? e=aa ⟨cls,od,.fields #[a,.none,.none,.none,.bool am,.none],#[]⟩
def Left (S R:List aj)(h a:ar):Prop:=∀b o,h.get? b=aa o->b∉R->(b∉S->a.get? b=aa o)/\∃sl,a.get? b=aa {o with slots:=sl}
section
variable {M:ael} {A:ba} {E:af->ai->Prop} {s:ai}
theorem tG(f:Array af->Array af)(o:bS):(bF f o).dict=o.dict:=by unfold bF;split<;>rfl
theorem Ps{base:ar}{env:eH}{outer:List eH}{L e:aj}{g:bS}{n:Array af}{head:af}{J:Bool}{Q:Unit->ai->Prop}
(N:A.frames=aa (env::outer))(w:s.heap.FunFrames base (env::outer))(O:env.frame=aa L)
(y:s.heap.get? e=aa g)(hd:g.data=.fields n)(p:1<n.size)
(h:∀q T,s.heap.objs.size<=T->Rec q e g.cls g.dict T->Left (qT (env::outer)) [e] s.heap q->Q () {s with heap:=q}):
  wpAny M A (do let a<-frameOf env;let pl<-entryPlaceOf L J;let b<-eJ head a .none (de L) .none pl;setField (.ref e) 1 b) (λ_ U=>wpAny M A (ade (.ref e) ao) Q E U) E s:=by
 have Y:e∉(env::outer).filterMap (·.frame):=λhm=>by obtain⟨_,o,j,Pu⟩:=w.mem hm;rw[y] at j;injection j with j;subst j;exact Pu n hd
 refine ag (aeR N w O λc l=>?_);refine ag (aeD λpl B=>?_);unfold eJ newFields;refine ag (cm ?_ (B.sizeOk5 _ _ _ _ _));have C:c.get? e=aa g:=(l.2.1 e Y).trans y;have G:=ak (h:=c) {cls:=.type "traceback",dict:=ao,data:=.fields ([head,.ref L,.none,de L,.none]++(if pl.isEmpty then aw 6 bC else pl)).toArray} C;refine cL G hd p ?_;have r:c.objs.size≠e:=c9 (aD C);have u:=bQ hd (·.setIfInBounds 1 (aN c.objs.size));have H:=bY (bF (·.setIfInBounds 1 (aN c.objs.size))) G (ci u);have I:=(bv (c.push {cls:=.type "traceback",dict:=ao,data:=.fields ([head,.ref L,.none,de L,.none]++(if pl.isEmpty then aw 6 bC else pl)).toArray})
  (bF (·.setIfInBounds 1 (aN c.objs.size))) (bU r)).trans (aQ c rfl)
 unfold ade;refine ag (bV H u (x:=.ref c.objs.size) (by simp[p]) ?_);rw[if_pos (show(aN c.objs.size !=bC)=ah from by simp)];have keep:∀b o,b≠e->c.get? b=aa o->
   (((c.push {cls:=.type "traceback",dict:=ao,data:=.fields ([head,.ref L,.none,de L,.none]++(if pl.isEmpty then aw 6 bC else pl)).toArray}).update e (bF (·.setIfInBounds 1 (aN c.objs.size)))).update c.objs.size
    (bF (·.setIfInBounds 3 ((ao:Option aj).elim bC λf=>de f)))).get? b=aa o:=λb o m i=>by have v:c.objs.size≠b:=c9 (aD i);rw[bv _ _ v,bv _ _ (bU m)];exact ak _ i
 refine cL I rfl (by simp only [aT,bL,aV,aY]<;>omega) (h _ c.objs.size ?_ ?_ λb o i hn=>?_)
 ·exact fk l.1.symm
 ·refine⟨_,_,_,_,?_,bS.cls_mapFields _ _,tG _ _,u,by simp[p],r,bY _ I (ci (bQ rfl _)),bQ rfl _,by first|(simp;done)|(rcases B with rfl|⟨_,_,_,_,_,_,_,rfl⟩<;>simp)⟩;rw[bv _ _ r];exact H
 ·have m:b≠e:=λz=>hn (by simp[z]);obtain⟨sl,hs⟩:=l.2.2 b o i;exact⟨λhS=>keep b o m ((l.2.1 b hS).trans i),sl,keep b _ m hs⟩
theorem FY{base:ar}{env:eH}{outer:List eH}{L e:aj}{cls:af}{od:Option aj}{Q:Unit->ai->Prop}
(f:A.frames=aa (env::outer))(g:s.heap.FunFrames base (env::outer))(b:env.frame=aa L)(i:IJ s.heap e cls od)
(h:∀a T,s.heap.objs.size<=T->Rec a e cls od T->Left (qT (env::outer)) [e] s.heap a->Q () {s with heap:=a}):wpAny M A (leaving env (.ref e)) Q E s:=by obtain⟨j,c⟩:=i;unfold leaving fP;simp only [b];refine ag (ag (bV c rfl (x:=.none) rfl ?_));rw[if_neg (by decide)];exact Ps f g b c rfl (by show 1<6;decide) h
theorem CC{base:ar}{env:eH}{outer:List eH}{L e c:aj}{cls:af}{od:Option aj}{Q:Unit->ai->Prop}
(w:A.frames=aa (env::outer))(x:s.heap.FunFrames base (env::outer))(n:env.frame=aa L)(i:Rec s.heap e cls od c)
(h:∀f T,s.heap.objs.size<=T->Rec f e cls od T->Left (qT (env::outer)) [e,c] s.heap f->Q () {s with heap:=f}):wpAny M A (fP (.ref e) env) (λ_ y=>wpAny M A (ade (.ref e) ao) Q E y) E s:=by
 obtain⟨I,p,J,B,r,rfl,rfl,hd,u,C,j,l,v⟩:=i;unfold fP;simp only [n];refine ag (bV r hd u ?_);rw[if_pos (show(aN c !=bC)=ah from by simp)];refine ag (bV j l v ?_);rw[if_neg (show¬((bC==de L)=ah) from by simp[de])];refine ag (cL j l (bW.mp v).1 ?_);have other:∀b,b≠c->(s.heap.update c (bF (·.setIfInBounds 3 bC))).get? b=s.heap.get? b:=λb a=>bv _ _ (bU a);have G:∀b o,s.heap.get? b=aa o->(∀p,o.data≠.fields p)->b≠c:=λb o a m q=>by rw[q,j] at a;injection a with a;subst a;exact m B l
 refine Ps (s:={s with heap:=s.heap.update c (bF (·.setIfInBounds 3 bC))}) w (x.of_keeps λb o a m=>⟨o,(other b (G b o a m)).trans a,rfl⟩) n ((other e (bU C)).trans r) hd (bW.mp u).1
  λf T hn i H=>h f T ?_ i λb o a g=>?_
 ·have e:=ar.size_after_update s.heap c (bF (·.setIfInBounds 3 bC));have hn:(s.heap.update c (bF (·.setIfInBounds 3 bC))).objs.size<=T:=hn;rw[e] at hn;exact hn
 ·exact H b o ((other b λz=>g (by simp[z])).trans a) λz=>g (by simp at z;simp[z])
theorem IL{base:ar}{env:eH}{outer:List eH}{L e b:aj}{cls:af}{od:Option aj}{Q:Unit->ai->Prop}
(c:A.frames=aa (env::outer))(f:s.heap.FunFrames base (env::outer))(g:env.frame=aa L)(i:Rec s.heap e cls od b)
(h:∀a T,s.heap.objs.size<=T->Rec a e cls od T->Left (qT (env::outer)) [e,b] s.heap a->Q () {s with heap:=a}):wpAny M A (leaving env (.ref e)) Q E s:=
 ag (CC c f g i h)
end
end L2
namespace L2
open PySem PySem.Spec PyProof.Rows
theorem iN.there{P:aJ}{w:bj}{H:Hp}{h:ar}{a:aj}{o:HO}(x:iN P w H h a o):∃ob,h.get? a=aa ob:=by
 cases o with
 |lst xs=>obtain⟨_,_,_,_,e⟩:=x;exact⟨_,e⟩
 |tup xs=>obtain⟨_,_,_,o,e,_⟩:=x;exact⟨_,e⟩
 |dK b=>obtain⟨_,_,_,_,o,_,_,e,_⟩:=x;exact⟨_,e⟩
 |dT b=>obtain⟨_,_,_,_,o,_,_,e,_⟩:=x;exact⟨_,e⟩
 |set S n=>obtain⟨o,_,_,_,e,_⟩:=x;exact⟨_,e⟩
 |ins C c fs=>obtain⟨_,_,_,e,_⟩:=x;exact⟨_,e⟩
 |own y=>exact x
 |xd fs=>obtain⟨_,⟨_,_,_,e,_⟩,_⟩:=x;exact⟨_,e⟩
 |Sc lo hi=>obtain⟨_,_,_,e⟩:=x;exact⟨_,e⟩
 |wF ob u=>obtain⟨e,_⟩:=x;exact⟨_,e⟩
 |HP g=>exact⟨_,(show h.get? a=aa _ from x)⟩
 |dE i b=>obtain⟨_,_,_,_,o,_,e,_⟩:=x;exact⟨_,e⟩
 |xc C fs=>obtain⟨_,_,e,_⟩:=x;exact⟨_,e⟩
 |met f y=>exact⟨_,(show h.get? a=aa _ from x)⟩
 |ext j=>obtain⟨_,e,_⟩:=x;exact e
theorem um.none{P:aJ}{w:bj}{H:Hp}{h:ar}{a:aj}(x:um P w H h)(e:h.get? a=ao):H a=ao:=by
 cases q:H a with
 |none=>rfl
 |some o=>obtain⟨ob,g⟩:=(x a o q).there;rw[e] at g;cases g
section
variable {X:Cx} {pins:List (aj×bS)} {σ:St} {H:Hp} {s:ai} {h':ar}
theorem Inv.frN(I:Inv X pins σ H s){b:aj}(a:b∈qT X.stack):H b=ao:=by
 rcases az.mp (I.sM b a) with z|z
 ·rw[z];exact I.free
 ·obtain⟨_,o,c,_⟩:=I.ok.vy.mem z;exact I.base.free b o c (I.ok.RU b z) λq=>I.ok.HQ b q z
theorem Inv.left(I:Inv X pins σ H s)(hex:X.ex=[]){R:List aj}(i:∀b∈R,X.gJ.heap.get? b=ao/\H b=ao)(f:Left (qT X.stack) R s.heap h'):
  Un X.fs [] X.gH H X.gJ.heap h'/\um X.prog X.w H h':=by
 have nx:∀b,b∉X.ex:=λb z=>by rw[hex] at z;cases z
 have g:∀b o,X.gJ.heap.get? b=aa o->b∉R:=λb o e z=>by rw[(i b z).1] at e;cases e
 refine⟨⟨λb o e n c _=>?_,λb o e n c _=>?_,λb o e n _=>I.base.free b o e n (nx b),λb o e _=>?_,I.base.wG,I.base.uP,I.base.wH⟩,λa o e=>?_⟩
 ·refine(f b o (I.base.keep b o e n c (nx b)) (g b o e)).1 λz=>?_;rcases az.mp (I.sM b z) with q|q
  ·have:=aD e;rw[q] at this;exact absurd (bg this I.ok.above) (cu _)
  ·exact c q
 ·obtain⟨sl,q⟩:=I.base.slot b o e n c (nx b);obtain⟨j,h⟩:=(f b _ q (g b o e)).2;exact⟨j,h⟩
 ·obtain⟨l,q⟩:=I.base.there b o e (nx b);obtain⟨j,h⟩:=(f b _ q (g b o e)).2;exact⟨_,h⟩
 ·refine(I.iJ a o e).sL (λb u c q=>?_) (λ_ q=>q) λ_ _ q=>q;have hn:H b≠ao:=by
   rcases c with rfl|c
   ·rw[e];exactλz=>by cases z
   ·rw[c];exactλz=>by cases z
  exact(f b u q λz=>hn (i b z).2).1 λz=>hn (I.frN z)
end
noncomputable def Tw(P:aJ)(w:bj):KC:=λouter H s E e a=>∃x C od b T,e=.ref x/\a.os=s.os/\fJ a.gens/\Un (qT outer) [] H b s.heap a.heap/\um P w b a.heap/\
 Rec a.heap x C od T/\s.heap.objs.size<=x/\s.heap.objs.size<=T/\b x=ao/\b T=ao/\E C od b
section
variable {P:aJ} {w:bj} {K:W.Frag} {mg:ay->Option af} {base:ar} {N:List ay} {qual:ay} {scope:cx} {f:aj} {cd:af} {A:ba} {outer:List eH} {gJ:ai} {gH:Hp} {E:XK}
abbrev jM(P:aJ)(w:bj)(K:W.Frag)(mg:ay->Option af)(base:ar)(N:List ay)(qual:ay)(scope:cx)(f:aj)(cd:af)(A:ba)(outer:List eH)(s:ai)(H:Hp)(E:XK):Cx:=uQ (Tw P w) P w K mg base N qual scope f cd A outer s H E
theorem Inv.BG{X:Cx}{pins:List (aj×bS)}{σ:St}{H:Hp}{s:ai}(I:Inv X pins σ H s):X.gJ.heap.objs.size<=s.heap.objs.size:=by obtain⟨m,⟨o,es,b,a,_⟩,_⟩:=I.loc;exact gk (fF I.ok.above (aD a))
theorem FZ{pins:List (aj×bS)}{σ:St}{H:Hp}{s:ai}{x:aj}{C:af}{od:Option aj}(I:Inv (jM P w K mg base N qual scope f cd A outer gJ gH E) pins σ H s)
(g:IJ s.heap x C od)(a:gJ.heap.objs.size<=x)(c:H x=ao)(h:E C od H):(jM P w K mg base N qual scope f cd A outer gJ gH E).xe (.ref x) s:=by refine FY (base:=base) I.ok.frames I.stack rfl g λm T e i j=>?_;obtain⟨u,iJ⟩:=I.left rfl (R:=[x]) (λb l=>by cases bP.mp l;exact⟨cA a,c⟩) j;exact⟨x,C,od,H,T,rfl,I.os,I.bare,u,iJ,i,a,aS I.BG e,c,I.iJ.fresh e,h⟩
theorem aay:vz (Tw P w) (jM P w K mg base N qual scope f cd A outer gJ gH E) E:=λpins σ H s e J I h=>by
 obtain⟨x,C,od,l,T,rfl,m,n,u,iJ,o,g,p,i,q,r⟩:=h;have a:=I.yE m u iJ n (λb c=>by cases c);refine IL (base:=base) a.ok.frames a.stack rfl o λL v j y z=>?_;obtain⟨B,G⟩:=a.left rfl (R:=[x,T]) (λb c=>by
  rcases az.mp c with rfl|c
  ·exact⟨cA (aS I.BG g),i⟩
  ·cases bP.mp c;exact⟨cA (aS I.BG p),q⟩) z
 exact⟨x,C,od,l,v,rfl,a.os,a.bare,B,G,y,aS I.BG g,aS a.BG j,i,a.iJ.fresh j,r⟩
end
end L2
namespace L2
open PySem PySem.Spec PyProof.Rows PySem.W PySem.Calls Builtin
section
variable {prog:aJ} {w:bj} {A:ba} {R:fS->ai->Prop} {h:ar} {g:Array fj} {d:aeF} {t:Nat} {os:aeS}
variable {nm q:ay} {C N f:aj} {bs bm Py:List af} {kJ:Bool} {sn:List ay} {sub:List af} {ab:Bool} {col:Option Bool} {dd:Option aj} {k0 k1 k2 k3 k5:Option af} {B newId rq:String}
abbrev jD(C t:aj):bS:={cls:=.ref C,data:=.fields #[.ref t,.none,.none,.none,.bool am,.none]}
abbrev jY(us:List af):bS:={cls:=.type "tuple",data:=.seq us.toArray}
theorem Pz(F:eS B newId rq Py)(T:aeh h Py bm){rest:List af}
(c:h.get? C=aa (dg nm q C N bs bm kJ sn sub ab col dd k0 k1 k2 k3 k5 newId))(call:fU (model prog w) h (ad9 (.ref C) "__call__") (aa (.builtin "type.__call__")))(typ:fU (model prog w) h (adl (.ref C) (.type "type")) ah)
(hi:fU (model prog w) h (adV (.ref C) "__init__") (aa (.ref f)))(j:∀self,fU (model prog w) h (bindSpecial (.ref f) self) (.ref f,[self]))(l:rest.length<=aE)
(m:codeAny (model prog w) (A.under (.builtin "type.__call__" ⟨.ref C::rest,[]⟩)) (.call (.ref f) ⟨.ref (h.objs.size+1)::rest,[]⟩) (InitBack (h.objs.size+1) R) ⟨(h.push (jY rest)).push (jD C h.objs.size),g,d,t,os⟩):
  codeAny (model prog w) A (.call (.ref C) ⟨rest,[]⟩) R ⟨h,g,d,t,os⟩:=by
 refine adT ?_;show wpAny _ _ (callAny (.ref C) _) _ _ _;refine nd_load c ?_;show wpAny _ _ (fB (.ref C) _) _ _ _;unfold fB;refine ag (call.at ?_);dsimp only;rw[tc_bind];refine ag (aq (ag (aq ?_)));refine aq (a:=Fin.again (.call (.builtin "type.__call__") ⟨.ref C::rest,[]⟩)) (And.intro rfl ?_);refine aea (Code.quiet_builtin _ (by decide+kernel)) afg (adF tc_kind tc_split typ (tc_args _ _ _) ?_);unfold bt.«type.__call__»;repeat (first|with_reducible refine dX c ?_|with_reducible refine ae0 c ?_|wp_step)
 refine ad2 (Code.quiet_builtin _ F.quiet) (aet F T c ?_);refine aeu F T c ?_ l;show wpAny _ _ _ _ _ _;have k:∀b o,h.get? b=aa o->((h.push (jY rest)).push (jD C h.objs.size)).get? b=aa o:=λb o e=>ak _ (ak _ e);have n:((h.push (jY rest)).push (jD C h.objs.size)).get? (h.objs.size+1)=aa (jD C h.objs.size):=by heap_get
 have p:=k _ _ c;have t1:fU (model prog w) ((h.push (jY rest)).push (jD C h.objs.size)) (adY (.ref (h.objs.size+1))) (.ref C):=(fU.ld n).andThen .now;have i:(aN C::bm).contains (.ref C)=ah:=by simp
 have s1:fU (model prog w) ((h.push (jY rest)).push (jD C h.objs.size)) (isSubtype (.ref C) (.ref C)) ah:=by intro A Q E s u x;obtain⟨y,g,d,t,os⟩:=s;refine ej (u _ _ p) ?_;rw[i];exact x
 have G:=hi.keeps k;have b1:=(j (.ref (h.objs.size+1))).keeps k;unfold adl callSpecial? ad9;repeat (first|with_reducible refine dj ?_|lk)
 refine cX m λr H z=>?_;rcases r with e|(v|_|_|_)<;>first|exact z|exact z.elim|skip
 obtain⟨rfl,z⟩:=z;exact aq (aq z)
end
end L2
namespace L2
open PySem PySem.Spec PyProof.Rows PySem.W
section
variable {prog:aJ} {w:bj} {A:ba} {E:af->ai->Prop} {s:ai} {K:W.Frag} {C x:aj} {name:ay} {v:af}
def XF (h:ar)(x:aj)(od:Option aj)(a:ay->Option af):Prop:=match od with
 |none=>∀n,a n=ao
 |some b=>b≠x/\h.Ns1 b a
noncomputable def F0:List af->Bool
 |[.type a,.type b,.type c,.type d]=>a=="ValueError"&&b=="Exception"&&c=="BaseException"&&d=="object"
 |.ref _::r=>F0 r
 |_=>am
theorem F2(self:af):∀l:List af,F0 l=ah->refuseLoop self "__setattr__" l=pure ()
 |[.type a,.type b,.type c,.type d],h=>by simp only [F0,aH,beq_iff_eq] at h;obtain⟨⟨⟨rfl,rfl⟩,rfl⟩,rfl⟩:=h;exact PySem.F.store_ValueError.passes self
 |.ref C::r,h=>by rw[refuseLoop_ref];exact F2 self r (by simpa only [F0] using h)
def F3 (K:W.Frag)(C:aj):Prop:=(W.clsIn K C).any (λcd=>F0 cd.mro)=ah
theorem MR{j:bS}{od:Option bS}{tk:aew}{R:fS->ai->Prop}(X:K.In s.heap)(I:W.InstAt s.heap x j C od)(l:F3 K C)(b:W.subIn K (.ref C) (.type "object")=aa ah)(hn:W.findIn K (.ref C) name=aa ao)
(h:wpAny (model prog w) A.in1 (bt.ObjectAttr.storeInOwnDict (.ref x) (.ref C) (.str name tk) name v am)
   (λm a=>match m with
    |.done f=>R (.ok f) a
    |.again i=>i.quiet=ah/\codeAny (model prog w) A i R a) (λe a=>R (.error e) a) s):
  codeAny (model prog w) A (.call (.builtin "object.__setattr__") ⟨[.ref x,.str name tk,v],[]⟩) R s:=by
 have F:=PySem.F.store_ValueError;obtain⟨cd,n,c⟩:=W.any_some l;have t1:W.Looks (model prog w) s.heap (adY (.ref x)) (.ref C):=by obtain⟨o,p,_⟩:=I;rw[<-p];exact(W.Looks.ld o).andThen .now
 have s1:=W.looks_subIn (M:=model prog w) X b;have typ:W.Looks (model prog w) s.heap (adl (.ref x) (.type "object")) ah:=by unfold adl;exact t1.andThen s1
 have e1:=F.slot.plain;have e2:=F.entry;have e3:=F.args (.ref x) (.str name tk) v;have e4:=F.kind;have e5:=F.split;clear F;refine df e1 e2 ?_;with_reducible refine adF e4 e5 typ e3 ?_
 rw[W.osa_eq,refuse_eq];have q:mroOf (.ref C)=(classData C >>= λcd=>pure cd.mro):=rfl;have g:bt.ObjectAttr.storeTaker? ao=pure ao:=rfl;with_reducible refine ag ?_
 with_reducible refine ag ?_
 with_reducible refine t1.at ?_
 rw[q];with_reducible refine ag ?_
 with_reducible refine ag ?_
 with_reducible refine(W.looks_clsIn X n).at ?_
 with_reducible refine aq ?_
 rw[F2 _ _ c];with_reducible refine aq ?_
 with_reducible refine ag ?_
 with_reducible refine t1.at ?_
 with_reducible refine ag ?_
 with_reducible refine(W.looks_findIn X hn).at ?_
 rw[g];with_reducible refine ag ?_
 with_reducible refine aq ?_
 exact h
theorem Tz{c:bS}{u:Array af}{m:ay->Option af}{ns:List ay}{Q:Unit->ai->Prop}(X:K.In s.heap)(g:s.heap.get? x=aa c)(hc:c.cls=.ref C)(hf:c.data=.fields u)(hm:XF s.heap x c.dict m)
(i:W.findIn K (.ref C) "__setattr__"=aa (aa (.builtin "object.__setattr__")))(hp:F3 K C)(z:W.subIn K (.ref C) (.type "object")=aa ah)(ht:W.findIn K (.ref C) name=aa ao)(hh:W.hasDictIn K C=ah)
(hw:PySem.Within m ns)(Fe:ns.length<aE)
(h:∀f a t',f.get? x=aa {c with dict:=aa a}->(c.dict=aa a\/(c.dict=ao/\a=s.heap.objs.size))->a≠x->f.Ns1 a (λy=>if y=name then aa v else m y)->(∀b o,b≠x->b≠a->s.heap.get? b=aa o->f.get? b=aa o)->Q () {s with heap:=f,toks:=t'}):
  wpAny (model prog w) A (aeI (.ref x) name v) Q E s:=by
 have nf:c.isFreed=am:=by have:=(ar.get?_some_iff.mp g).2;exact this
 obtain⟨oc,od,odt,By⟩:=c;cases hc;cases hf;have I:∃r,W.InstAt s.heap x ⟨.ref C,od,.fields u,By⟩ C r:=by
  cases od with
  |none=>exact⟨ao,g,rfl,rfl,trivial⟩
  |some a=>
   obtain⟨_,o,es,T,ho,_⟩:=hm;exact⟨aa o,g,rfl,rfl,ho⟩
 obtain⟨r,I⟩:=I;refine W.set_plain X I i (MR (s:={s with toks:=s.toks+1}) X I hp z ht ?_);obtain⟨cd,Bx,Za⟩:=W.any_some hh;refine ag (aq (ag (ag (adU g ?_))));dsimp only;refine ag (W.Looks.here (s:={s with toks:=s.toks+1}) (W.looks_clsIn X Bx) ?_);rw[Za];cases od with
 |none=>
  have hm:∀n,m n=ao:=hm;have U:(s.heap.push {cls:=.type "dict",data:=.dict #[]}).get? x=aa ⟨.ref C,ao,.fields u,By⟩:=ak _ g;have j:x≠s.heap.objs.size:=bn (aD g);show wpAny _ _ (do
   let d<-alloc {cls:=fi "dict",data:=Data.dict #[]}
   update x λo=>{cls:=o.cls,dict:=aa d,data:=o.data,slots:=o.slots}
   dictMade (.ref C) x d) _ _ _
  refine ag (wpAny_alloc ?_);refine ag (wpAny_update U ?_);refine aq ?_;have B:((s.heap.push {cls:=.type "dict",data:=.dict #[]}).update x λo=>{cls:=o.cls,dict:=aa s.heap.objs.size,data:=o.data,slots:=o.slots}).get? s.heap.objs.size
    =aa {cls:=.type "dict",data:=.dict #[]}:=
   (ar.get?_update_ne _ _ _ _ j.symm).trans (ar.get?_push_at rfl rfl)
  have G:((s.heap.push {cls:=.type "dict",data:=.dict #[]}).update x λo=>{cls:=o.cls,dict:=aa s.heap.objs.size,data:=o.data,slots:=o.slots}).Ns s.heap.objs.size (λ_=>ao):=
   ⟨_,#[],_,B,rfl,λe he=>absurd he (by simp),λ_=>rfl⟩
  show wpAny _ _ (cV s.heap.objs.size (.str name _) name v) _ _ _;unfold cV f7;refine ag (aq (ag (aec (ar.Ns1.of_empty G) λf p i=>?_)));obtain⟨oD,H,J,L,M,N⟩:=p.count (Within.cons name v Within.nil);refine ag (adO L (by rw[M];exact adP (aS N (by rw[aV,aY,gb];omega))) ?_);refine aq (h f s.heap.objs.size _ ?_ (.inr ⟨rfl,rfl⟩) j.symm ?_ λb o q l O=>?_)
  ·exact(i.2 x j).trans (bY _ U rfl)
  ·obtain⟨r,es,T,e1,e2,e3,eu,e4⟩:=p;exact⟨r,es,T,e1,e2,e3,eu,λy=>by rw[e4 y];by_cases hy:y=name<;>simp[hy,hm]⟩
  ·exact(i.2 b l).trans ((ar.get?_update_ne _ _ _ _ q).trans (ak _ O))
 |some a=>
  obtain⟨Y,YN⟩:=(show a≠x/\s.heap.Ns1 a m from hm);show wpAny _ _ (pure (aa a)) _ _ _;refine aq ?_;show wpAny _ _ (cV a (.str name _) name v) _ _ _;unfold cV f7;refine ag (aq (ag (aec (s:={s with toks:=s.toks+1}) YN λf p i=>?_)));obtain⟨oD,H,J,L,M,N⟩:=p.count (Within.cons name v hw);refine ag (adO L (by rw[M];exact adP (aS N (by rw[aV];omega))) ?_);refine aq (h f a _ ((i.2 x Y.symm).trans g) (.inl rfl) Y p λb o q l O=>(i.2 b l).trans O)
end
end L2
namespace L2
open PySem PySem.Spec PyProof.Rows PySem.W
section
variable {prog:aJ} {w:bj} {A:ba} {E:af->ai->Prop} {h:ar} {g:Array fj} {d:aeF} {t:Nat} {os:aeS}
variable {nm q:ay} {C N x:aj} {bs bm Py:List af} {kJ:Bool} {sn:List ay} {sub:List af} {ab:Bool} {col:Option Bool} {dd:Option aj} {k0 k1 k2 k3 k5:Option af} {B newId rq:String}
theorem PD(F:eS B newId rq Py)(T:aeh h Py bm){c:bS}{i:Array af}{u:af}{Q:af->ai->Prop}
(r:h.get? C=aa (dg nm q C N bs bm kJ sn sub ab col dd k0 k1 k2 k3 k5 newId))(n:h.get? x=aa c)(s:c.cls=.ref C)(hd:c.data=.fields i)(J:1<i.size)
(v:∀j a,j.get? x=aa {c with data:=.fields (i.setIfInBounds 0 a)}->(∀b o,b≠x->h.get? b=aa o->j.get? b=aa o)->Q .none ⟨j,g,d,t,os⟩):
  wpAny (model prog w) A (call (.builtin rq) [.ref x,u]) Q E ⟨h,g,d,t,os⟩:=by
 obtain⟨oc,od,y,By⟩:=c;cases s;cases hd;refine dj (df F.init.plain F.initEntry (aek F T r n rfl ?_))
 wp_walk
 obtain⟨l,z⟩:∃a,i[0]?=aa a:=⟨_,Array.getElem?_eq_getElem (by omega)⟩;rw[z];refine aq ?_;have f:=ak (h:=h) {cls:=.type "tuple",data:=.seq [u].toArray} n;refine ag (cL f rfl (by omega) ?_);have G:∀m:Unit->ai->Prop,m () ⟨(h.push {cls:=.type "tuple",data:=.seq [u].toArray}).update x (bF (·.setIfInBounds 0 (.ref h.objs.size))),g,d,t,os⟩->∀p,wpAny (model prog w) A.in1 (match l with|aN H=>letGo [l]|x=>pure ()) m p ⟨(h.push {cls:=.type "tuple",data:=.seq [u].toArray}).update x (bF (·.setIfInBounds 0 (.ref h.objs.size))),g,d,t,os⟩:=λm q p=>by
  cases l<;>first|exact aq q|skip
  wp_walk
  exact q
 refine G _ (aq ?_) _;refine v _ (.ref h.objs.size) ?_ λb o I e=>?_
 ·exact bY _ f (ci (bQ rfl _))
 ·rw[bv _ _ (bU I)];exact ak _ e
end
end L2
namespace L2
open PySem PySem.Spec PyProof.Rows PySem.W
section
variable {X:Cx} {value e:bh} {es:List bh} {te:TE} {pos:c7}
noncomputable def aaz(te:TE):TE:=λσ H Q=>te σ H λx H1=>match x with
 |.str y=>y.length<=aE/\Q (.str y) H1
 |.int i=>i.natAbs.log2<1920/\Q (.str (toString i)) H1
 |_=>False
theorem Inv.tk{pins:List (aj×bS)}{σ:St}{H:Hp}{s:ai}(I:Inv X pins σ H s)(a:Nat):Inv X pins σ H {s with toks:=a}:=⟨I.ok,I.os,I.bare,I.base,I.loc,I.cell,I.free,I.lD,I.pin,I.iJ,I.len⟩
theorem Xq(h:PE X value te):PE X (.FormattedValue value (-1) ao pos) (aaz te):=by
 intro pins s σ H Q I b;refine FormattedValue_plain (jz (h pins s σ H _ I b) λv s1 ⟨x,H1,a,r1,q⟩=>?_);cases x<;>first|exact q.elim|skip
 ·rename_i i;obtain⟨t,rfl⟩:=r1;refine formatField_int_small q.1 ?_;exact⟨.str (toString i),H1,a.tk _,⟨_,rfl⟩,q.2⟩
 ·rename_i y;obtain⟨t,rfl⟩:=r1;exact formatField_str (λc tk=>⟨.str y,H1,a.tk _,⟨_,rfl⟩,q.2⟩) q.1
abbrev TJ:=ay->St->Hp->VK->Prop
def PJ (X:Cx)(es:List bh)(t:TJ):Prop:=∀(acc:ay) (pins:List (aj×bS)) (s:ai) (σ:St) (H:Hp) (Q:VK),Inv X pins σ H s->t acc σ H Q->wpAny (model X.prog X.w) X.A (joinParts acc (evalEach es X.env)) (EP X pins σ Q) X.xe s
noncomputable def VJ:TJ:=λacc _ H Q=>acc.length<=aE/\Q (.str acc) H
noncomputable def PF(te:TE)(a:TJ):TJ:=λacc σ H Q=>te σ H λx H1=>∃y,x=.str y/\(acc++y).length<=aE/\a (acc++y) σ H1 Q
theorem Xr:PJ X [] VJ:=λacc pins s σ H Q I q=>joinParts_nil ⟨.str acc,H,I.tk _,⟨_,rfl⟩,q.2⟩ q.1
theorem Lo{a:TJ}(h:PE X e te)(b:PJ X es a):PJ X (e::es) (PF te a):=by intro acc pins s σ H Q I c;show wpAny _ _ (joinParts acc (eval e X.env::evalEach es X.env)) _ _ _;refine joinParts_cons (jz (h pins s σ H _ I c) λv s1 ⟨x,H1,f,r1,y,e1,g,q⟩=>?_);subst e1;obtain⟨t,rfl⟩:=r1;exact⟨g,b _ pins s1 σ H1 Q f q⟩
theorem TB{a:TJ}{e2:bh}(h:PJ X (e::e2::es) a):PE X (.JoinedStr (e::e2::es) pos) (a ay.empty):=λpins s σ H Q I q=>JoinedStr_many (h ay.empty pins s σ H Q I q)
end
end L2
namespace L2
open PySem PySem.Spec PyProof.Rows PySem.W
noncomputable def l7(x C:aj)(od:Option aj):HO:=.ext λh=>IJ h x (.ref C) od
noncomputable def DC(b:aj)(fs:List (ay×V)):HO:=.ext λh=>∃a,h.Ns1 b a/\(∀f,qC (fs.lookup f) (a f))/\PySem.Within a (fs.map (·.1))
structure F4(K:W.Frag)(C:aj):Prop where
 hd:W.hasDictIn K C=ah
 po:F3 K C
 so:W.subIn K (.ref C) (.type "object")=aa ah
 sa:W.findIn K (.ref C) "__setattr__"=aa (aa (.builtin "object.__setattr__"))
theorem Aq{P:aJ}{w:bj}{H:Hp}{h:ar}{x C:aj}{od:Option aj}(r:IJ h x (.ref C) od):iN P w H h x (l7 x C od):=by obtain⟨a,e⟩:=r;refine⟨⟨a,e⟩,⟨_,e⟩,λc f ⟨b,q⟩ k=>⟨b,k _ q⟩⟩
theorem aaA{P:aJ}{w:bj}{H:Hp}{h:ar}{b:aj}{fs:List (ay×V)}{a:ay->Option af}(n:h.Ns1 b a)(r:∀f,qC (fs.lookup f) (a f))(wi:PySem.Within a (fs.map (·.1))):iN P w H h b (DC b fs):=by obtain⟨o,es,j,e,q⟩:=id n;exact⟨⟨a,n,r,wi⟩,⟨_,e⟩,λl m ⟨c,g,i⟩ k=>⟨c,g.at k,i⟩⟩
def XD (H:Hp)(x:aj)(od:Option aj)(fs:List (ay×V)):Prop:=match od with
 |none=>fs=[]
 |some a=>a≠x/\H a=aa (DC a fs)
section
variable {X:Cx} {pins:List (aj×bS)} {σ:St} {H:Hp} {s:ai} {A:ba} {E:af->ai->Prop} {C x:aj} {f:ay}
theorem TD{od:Option aj}{fs:List (ay×V)}{y:V}{u:af}{Q:Unit->ai->Prop}(I:Inv X pins σ H s)(ex:H x=aa (l7 x C od))(hd:XD H x od fs)(c:F4 X.K C)(n:kx X.K C f)(hl:fs.length<1000)(O:RelV y u)
(h:∀G a,(od=aa a\/(od=ao/\H a=ao))->a≠x->Inv X pins σ (upd (upd H a (DC a (nD f y fs))) x (l7 x C (aa a))) G->Q () G):wpAny (model X.prog X.w) A (aeI (.ref x) f u) Q E s:=by
 obtain⟨⟨T,Y⟩,_,_⟩:=(show iN X.prog X.w H s.heap x (l7 x C od) from I.iJ x _ ex);obtain⟨j,xf,rl,wi⟩:∃j,XF s.heap x od j/\(∀g,qC (fs.lookup g) (j g))/\PySem.Within j (fs.map (·.1)):=by
  cases od with
  |none=>
   cases(show fs=[] from hd);exact⟨λ_=>ao,λ_=>rfl,λ_=>trivial,λy hy=>absurd rfl hy⟩
  |some a=>
   obtain⟨ne,R5⟩:=(show a≠x/\H a=aa (DC a fs) from hd);obtain⟨⟨j,nn,r,wi⟩,_,_⟩:=(show iN X.prog X.w H s.heap a (DC a fs) from I.iJ a _ R5);exact⟨j,⟨ne,nn⟩,r,wi⟩
 refine Tz I.nN Y rfl rfl xf c.sa c.po c.so n c.hd wi (by rw[ap,gb];omega) λJ a t' M i ne hn kp=>?_;have i:od=aa a\/(od=ao/\a=s.heap.objs.size):=i;have B:od=aa a\/(od=ao/\H a=ao):=by
  rcases i with e|⟨e,rfl⟩
  ·exact .inl e
  ·exact .inr ⟨e,I.iJ.fresh (bf _)⟩
 have l:∀b o,s.heap.get? b=aa o->H b=ao->b≠a:=λb o e q z=>by
  rcases i with e2|⟨_,rfl⟩
  ·rw[e2] at hd;have:=(show a≠x/\H a=aa (DC a fs) from hd).2;rw[<-z,q] at this;cases this
  ·have:=aD e;rw[z] at this;exact absurd this (cu _)
 have m:∀b u,H b=aa u->(∀φ,u≠.ext φ)->b≠x/\b≠a:=λb u e N=>by
  refine⟨λz=>?_,λz=>?_⟩
  ·rw[z,ex] at e;exact N _ (bq e).symm
  ·subst z;rcases B with e2|⟨_,e2⟩
   ·rw[e2] at hd;have:=(show b≠x/\H b=aa (DC b fs) from hd).2;rw[e] at this;exact N _ (bq this)
   ·rw[e] at e2;cases e2
 have nx:∀b,H b=ao->b≠x:=λb e z=>by rw[z,ex] at e;cases e
 have U:Un (qT X.stack) [] H (upd (upd H a (DC a (nD f y fs))) x (l7 x C (aa a))) s.heap J:=by
  refine⟨λb o e q _ _=>kp b o (nx b q) (l b o e q) e,λb o e q _ _=>⟨o.slots,kp b o (nx b q) (l b o e q) e⟩,λb o e q _=>?_,λb o e _=>?_,λb xs q=>?_,λb o u q=>?_,λb ps q=>⟨#[],?_⟩⟩
  ·rw[gF (nx b q),gF (l b o e q)];exact q
  ·by_cases z:b=x
   ·subst z;exact⟨_,M⟩
   ·by_cases p:b=a
    ·subst p;obtain⟨o',_,_,e',_⟩:=hn;exact⟨_,e'⟩
    ·exact⟨o,kp b o z p e⟩
  ·have:=m b _ q λ_ z=>by cases z
   rw[gF this.1,gF this.2];exact q
  ·have:=m b _ q λ_ z=>by cases z
   rw[gF this.1,gF this.2];exact q
  ·have:=m b _ q λ_ z=>by cases z
   rw[gF this.1,gF this.2,q];simp
 have iJ:um X.prog X.w (upd (upd H a (DC a (nD f y fs))) x (l7 x C (aa a))) J:=λb u q=>by
  by_cases z:b=x
  ·subst z;rw[gW] at q;cases q;exact Aq ⟨T,M⟩
  ·rw[gF z] at q;by_cases p:b=a
   ·subst p;rw[gW] at q;cases q;refine aaA hn (λg=>?_) λg hg=>?_
    ·rw[sP];by_cases q:g=f
     ·rw[if_pos q,if_pos q];exact O
     ·rw[if_neg q,if_neg q];exact rl g
    ·by_cases q:g=f
     ·rw[q];exact(qD f y fs).1
     ·refine(qD f y fs).2 g (wi g λz=>hg ?_);show(if g=f then aa u else j g)=ao;rw[if_neg q];exact z
   ·rw[gF p] at q;refine(I.iJ b u q).sL (λc v L r=>?_) (λc r=>?_) λc xs r=>?_
    ·rcases L with rfl|L
     ·exact kp c v z p r
     ·have:=m c _ L λ_ z=>by cases z
      exact kp c v this.1 this.2 r
    ·have:=m c _ r λ_ z=>by cases z
     rw[gF this.1,gF this.2];exact r
    ·have:=m c _ r λ_ z=>by cases z
     rw[gF this.1,gF this.2];exact r
 exact h _ a B ne (I.yE (s':={s with heap:=J,toks:=t'}) rfl U iJ I.bare λb hb=>by cases hb)
end
end L2
namespace L2
open PySem PySem.Spec PyProof.Rows PySem.W
structure F5(K:W.Frag)(B:aj):Prop where
 gs:W.specialIn K (.ref B) "__getattribute__"=aa (aa (.builtin "type.__getattribute__"))
 rd:W.readsIn K B (.type "type")=ah
 fc:W.findCls K (.ref B) (.type "type") "__init__"=aa (.val (.builtin "ValueError.__init__"))
structure DH(K:W.Frag)(C:aj):Prop where
 obj:∃nm q N bs bm kJ sn sub ab col dd k0 k1 k2 k3 k5,K.lookup C=aa (dg nm q C N bs bm kJ sn sub ab col dd k0 k1 k2 k3 k5 "ValueError.__new__")/\∀h,K.In h->aeh h [.type "ValueError",.type "Exception",.type "BaseException",.type "object"] bm
section
variable {X:Cx} {o e e2:bh} {to t1 t2:TE} {ta:TA} {apos pos:c7} {B:aj}
noncomputable def PH(K:W.Frag)(B:aj)(to:TE)(ta:TA):TE:=λσ H Q=>to σ H λb a=>b=.ref B/\ta σ a λc H1=>∃x C od m,c=[.ref x,m]/\H1 x=aa (l7 x C od)/\DH K C/\Q .non H1
theorem PK{pins:List (aj×bS)}{σ:St}{H:Hp}{s:ai}{A:ba}{E:af->ai->Prop}{x C:aj}{od:Option aj}{u:af}{Q:af->ai->Prop}(FB:eS "ValueError" "ValueError.__new__" "ValueError.__init__" [.type "ValueError",.type "Exception",.type "BaseException",.type "object"])
(I:Inv X pins σ H s)(ex:H x=aa (l7 x C od))(c:DH X.K C)(h:∀i,Inv X pins σ H i->Q .none i):wpAny (model X.prog X.w) A (call (.builtin "ValueError.__init__") [.ref x,u]) Q E s:=by
 obtain⟨⟨J,p⟩,_,_⟩:=(show iN X.prog X.w H s.heap x (l7 x C od) from I.iJ x _ ex);obtain⟨nm,q,N,bs,L,M,sn,sub,O,col,dd,U,k1,k2,k3,Y,j,T⟩:=c.obj;have j:=I.nN _ _ j;have T:=T s.heap I.nN;have nx:∀b,H b=ao->b≠x:=λb e z=>by rw[z,ex] at e;cases e
 have l:=I;obtain⟨hh,g,d,t,os⟩:=s;refine PD FB T j p rfl rfl (by show 1<6;decide) λm a n kp=>h _ ?_;have y:IJ m x (.ref C) od:=⟨a,n⟩;refine l.yE (ch:=[]) (s':=⟨m,g,d,t,os⟩) rfl ⟨λb o e q _ _=>kp b o (nx b q) e,λb o e q _ _=>⟨o.slots,kp b o (nx b q) e⟩,λb o e q _=>q,λb o e _=>?_,λb xs q=>q,λb o u q=>q,λb ps q=>⟨#[],by rw[q];simp⟩⟩ (λb u q=>?_) l.bare λb G=>by cases G
 ·by_cases z:b=x
  ·subst z;exact⟨_,n⟩
  ·exact⟨o,kp b o z e⟩
 ·by_cases z:b=x
  ·subst z;rw[ex] at q;cases q;exact Aq y
  ·refine(l.iJ b u q).sL (λc v f r=>kp c v ?_ r) (λc r=>r) λc xs r=>r;rcases f with rfl|f
   ·exact z
   ·exactλz=>by rw[z,ex] at f;cases f
theorem PL{pl:aey Bool}(FB:eS "ValueError" "ValueError.__new__" "ValueError.__init__" [.type "ValueError",.type "Exception",.type "BaseException",.type "object"])(g:F5 X.K B)(l:PE X o to)(ha:PA X [e,e2] ta)
(n:eval (.Call (.Attribute o "__init__" apos) [e,e2] [] pos) X.env=(do
   let i<-eval o X.env
   adG apos.atName
   let(f,first)<-holding [i] (adN i "__init__" pl)
   aff pos f first (cG pos (aM [e,e2] X.env)) (ado pos (fq [] X.env))):=by rfl)
(p:aM [e,e2] X.env=(am,eval e X.env)::aM [e2] X.env:=by rfl)(v:(cG pos (aM [e2] X.env)).any (·.1)=am:=by rfl):
  PE X (.Call (.Attribute o "__init__" apos) [e,e2] [] pos) (PH X.K B to ta):=by
 intro pins s σ H Q I h;refine W.methodCall_KW (pl:=pl) (jz (l pins s σ H _ I h) λu s1 ⟨b,w,a,y,z,q⟩=>?_) n;subst z;obtain rfl:u=aN B:=y;refine W.method_cls a.nN g.gs (W.cls_value a.nN g.rd g.fc rfl ?_);have a:=a.tk (s1.toks+1);have j:=ha pos pins _ σ w _ a q;rw[p] at j ⊢;refine f8 (by show(am||(cG pos (aM [e2] X.env)).any (·.1))=am;rw[v]<;>rfl) (Calls.evalArgs_plain ?_);refine jz j λus s2 ⟨N,A,E,r2,x,C,od,m,G,ex,c,J⟩=>?_;subst G;cases r2 with
 |cons r L=>
  cases L with
  |cons r1 r2=>
   cases r2;cases r;exact PK FB E ex c λO M=>⟨.non,A,M,rfl,J⟩
end
end L2
namespace L2
open PySem PySem.Spec PyProof.Rows PySem.W
noncomputable def NW(x:aj)(H:Hp):Hp:=λb=>if b=x then ao else H b
theorem qJ{x:aj}{H:Hp}:NW x H x=ao:=by unfold NW;rw[if_pos rfl]
theorem Ar{x b:aj}{H:Hp}(h:b≠x):NW x H b=H b:=by unfold NW;rw[if_neg h]
section
variable {X:Cx} {pins:List (aj×bS)} {σ:St} {H:Hp} {s:ai}
theorem Inv.drop{x:aj}{f:ar->Prop}(I:Inv X pins σ H s)(g:H x=aa (.ext f)):Inv X pins σ (NW x H) s:=by
 have hn:∀b,H b=ao->NW x H b=ao:=λb e=>by
  by_cases z:b=x
  ·rw[z];exact qJ
  ·rw[Ar z];exact e
 have a:∀b u,H b=aa u->(∀f,u≠.ext f)->NW x H b=aa u:=λb u e h=>by rw[Ar λz=>by rw[z,g] at e;exact h _ (bq e).symm];exact e
 refine⟨I.ok,I.os,I.bare,⟨I.base.keep,I.base.slot,λb o q n g=>hn b (I.base.free b o q n g),I.base.there,λb xs q=>a b _ (I.base.wG b xs q) (λ_ z=>by cases z),λb o u q=>a b _ (I.base.uP b o u q) (λ_ z=>by cases z),λb i q=>?_⟩,I.loc,I.cell,hn _ I.free,λx c e=>hn _ (I.lD x c e),λp j=>?_,λb u q=>?_,I.len⟩
 ·obtain⟨m,e⟩:=I.base.wH b i q;exact⟨m,a b _ e λ_ z=>by cases z⟩
 ·obtain⟨l,w,y⟩:=I.pin p j;exact⟨l,hn _ w,y⟩
 ·have z:b≠x:=λz=>by rw[z,qJ] at q;cases q
  rw[Ar z] at q;exact(I.iJ b u q).sL (λc v _ r=>r) (λc r=>a c _ r (λ_ z=>by cases z)) (λc xs r=>a c _ r (λ_ z=>by cases z))
end
section
variable {M:ael} {A:ba} {E:af->ai->Prop} {env:eH} {s:ai}
variable {nm q:ay} {C N:aj} {bs bm:List af} {kJ:Bool} {sn:List ay} {sub:List af} {ab:Bool} {col:Option Bool} {dd:Option aj} {k0 k1 k2 k3 k5:Option af} {newId:String}
theorem CD{x:aey af}{Q:Flow->ai->Prop}(f:bm.contains (.type "BaseException")=ah)(i:A.handled=ao)
(h:wpAny M A x (λv a=>∃e od,v=.ref e/\a.heap.get? C=aa (dg nm q C N bs bm kJ sn sub ab col dd k0 k1 k2 k3 k5 newId)/\IJ a.heap e (.ref C) od/\E (.ref e) a) E s):
  wpAny M A (raiseStmt env (aa x) ao) Q E s:=by
 have b:(aN C::bm).contains (.type "BaseException")=ah:=by rw[List.contains_cons,f,Bool.or_true]
 unfold raiseStmt;refine ag (cj h (λv a j=>?_) λ_ _ x=>x);obtain⟨e,od,rfl,c,⟨n,l⟩,m⟩:=j;obtain⟨o,g,d,tk,os⟩:=a;repeat (first|with_reducible refine dX l ?_|with_reducible refine dX c ?_|(with_reducible refine ej c ?_;rw[b])|wp_step)
 exact wpAny_raiseNew_none i m
end
structure XMk(K:W.Frag)(C f:aj):Prop where
 x:DH K C
 call:W.specialIn K (.ref C) "__call__"=aa (aa (.builtin "type.__call__"))
 typ:W.instIn K (.ref C) (.type "type")=aa ah
 init:W.findIn K (.ref C) "__init__"=aa (aa (.ref f))
 fn:W.isFn K (.ref f)=ah
 kp:W.keepIn K (.ref C)=ah
section
variable {X:Cx} {CX:KC} {k:Nat} {f C:aj} {fd:cn} {ps:List ay} {sp:Sp} {E:XK}
theorem TK{pins:List (aj×bS)}{σ:St}{H:Hp}{s:ai}{Q:VK}{us:List af}{l:List V}(M:XMk X.K C f)(F:ky X.prog X.w X.K X.mg X.base CX k f fd ps sp)(y:jR (k+1) X.A)(z:Binds X.K fd ps [])
(B:vz CX X E)(I:Inv X pins σ H s)(r:Vals l us)(G:us.length<=aE)
(h:∀x,H x=ao->s.heap.objs.size<=x->sp (.ref x::l) (upd H x (l7 x C ao)) (λv m=>v=.non/\Q (.ref x) m) E):
  wpAny (model X.prog X.w) X.A (call (.ref C) us) (EP X pins σ Q) X.xe s:=by
 have n:=h (s.heap.objs.size+1) (I.iJ.fresh (dP _)) (dP _);have k1:∀b u,s.heap.get? b=aa u->(s.heap.push (jY us)).get? b=aa u:=λb u e=>ak _ e;have e2:((s.heap.push (jY us)).push (jD C s.heap.objs.size)).get? (s.heap.objs.size+1)=aa (jD C s.heap.objs.size):=by
  have:=aQ (s.heap.push (jY us)) (o:=jD C s.heap.objs.size) rfl
  rwa [bG] at this
 have j:Inv X pins σ (upd H (s.heap.objs.size+1) (l7 (s.heap.objs.size+1) C ao)) {s with heap:=(s.heap.push (jY us)).push (jD C s.heap.objs.size)}:=
  (I.kept (t':=s.toks) k1).laid (t':=s.toks) (λb u e=>ak _ e) (fk (bG _ _)) (Aq ⟨_,e2⟩)
 have r2:Vals (V.ref (s.heap.objs.size+1)::l) (aN (s.heap.objs.size+1)::us):=.cons rfl r;have L:(aN (s.heap.objs.size+1)::us).length=ps.length:=by have e:=r2.length;rw[F.len _ _ _ _ n] at e;exact e.symm
 obtain⟨nm,q,N,bs,bm,kJ,sn,sub,ab,col,dd,k0,k1,k2,k3,k5,O,T⟩:=M.x.obj;have U:(aN (s.heap.objs.size+1)::us++[]).length=ps.length:=by rw[br];exact L
 have p:=z {s with heap:=(s.heap.push (jY us)).push (jD C s.heap.objs.size)} (aN (s.heap.objs.size+1)::us) j.nN U;rw[br] at p;have key:=F.run _ X.stack _ _ ⟨aN (s.heap.objs.size+1)::us,[]⟩ (aN (s.heap.objs.size+1)::us) _ _ E (y.make C us []) (j.Ss.make C us []) p r2 n;have c:=I.nN;have Y:∀(r:fS) (a:ai),CR CX X.stack X.prog X.w (upd H (s.heap.objs.size+1) (l7 (s.heap.objs.size+1) C ao)) {s with heap:=(s.heap.push (jY us)).push (jD C s.heap.objs.size)} (λv m=>v=.non/\Q (.ref (s.heap.objs.size+1)) m) E r a->
   W.InitBack (s.heap.objs.size+1) (λr a=>match r with|.ok (.ret v)=>EP X pins σ Q v a|.ok _=>False|.error e=>X.xe e a) r a:=λr a i=>by
  cases r with
  |error e=>exact B pins σ _ _ e a j i
  |ok fl=>
   cases fl with
   |ret u=>
    obtain⟨v,H',I3,rv,ev,q3⟩:=j.after i;subst ev;exact⟨rv,⟨V.ref (s.heap.objs.size+1),H',I3,rfl,q3⟩⟩
   |next=>exact b0 i
   |brk=>exact b0 i
   |cont=>exact b0 i
 obtain⟨hh,g,d,t,os⟩:=s;refine dj ?_;refine Pz PySem.F.excBase_ValueError (T hh c) (c _ _ O) (W.looks_specialIn c M.call) (W.looks_instIn c M.typ) (W.looks_findIn c M.init) (λself=>W.bind_fn c self (beq_iff_eq.mp M.fn)) G ?_;exact cX key Y
end
end L2
namespace L2
open PySem PySem.Spec PyProof.Rows PySem.W
section
variable {P:aJ} {w:bj} {K:W.Frag} {mg:ay->Option af} {base:ar} {N:List ay} {qual:ay} {scope:cx} {fn:aj} {cd:af} {A:ba} {outer:List eH} {gJ:ai} {gH:Hp} {E:XK}
variable {k:Nat} {f C:aj} {fd:cn} {ps:List ay} {sp:Sp} {x:ay} {p pos jj:c7} {e:bh} {es:List bh} {t:TA}
noncomputable def Xs(C:aj)(sp:Sp)(E:XK)(t:TA):TS:=λ_ σ H=>t σ H λa H1=>a.length<=aE/\∀x,H1 x=ao->sp (.ref x::a) (upd H1 x (l7 x C ao)) (λv b=>v=.non/\∃od,b x=aa (l7 x C od)/\E (.ref C) od (NW x b)) E0
theorem PM(M:XMk K C f)(F:ky P w K mg base uR k f fd ps sp)(mono:∀b H (Q j:VK),(∀v H,Q v H->j v H)->sp b H Q E0->sp b H j E0)
(G:jR (k+1) (jM P w K mg base N qual scope fn cd A outer gJ gH E).A)(J:Binds K fd ps [])(L:Gl (jM P w K mg base N qual scope fn cd A outer gJ gH E) x)(hm:mg x=aa (.ref C))
(ha:PA (jM P w K mg base N qual scope fn cd A outer gJ gH E) (e::es) t)(O:(x==("__debug__":ay))=am:=by decide)
(U:aM (e::es) (jM P w K mg base N qual scope fn cd A outer gJ gH E).env=(am,eval e (jM P w K mg base N qual scope fn cd A outer gJ gH E).env)::aM es (jM P w K mg base N qual scope fn cd A outer gJ gH E).env:=by rfl)
(Y:(cG jj (aM es (jM P w K mg base N qual scope fn cd A outer gJ gH E).env)).any (·.1)=am:=by rfl):
  PS (jM P w K mg base N qual scope fn cd A outer gJ gH E) (.Raise (aa (.Call (.Name x p) (e::es) [] jj)) ao pos) (Xs C sp E t):=by
 intro pins s σ H D I h;obtain⟨nm,q,N',bs,c,l,sn,sub,m,col,dd,n,k1,k2,k3,o,hC,T⟩:=M.x.obj;have qE:c.contains (.type "BaseException")=ah:=(T base I.ok.mod.N2).hasType PySem.F.excBase_ValueError.hasBase;have hh:(jM P w K mg base N qual scope fn cd A outer gJ gH E).A.handled=ao:=I.ok.hd rfl;rw[afh];refine ag (dh (CD (C:=C) (nm:=nm) (q:=q) (N:=N') (bs:=bs) (bm:=c) (kJ:=l) (sn:=sn) (sub:=sub) (ab:=m) (col:=col) (dd:=dd) (k0:=n) (k1:=k1) (k2:=k2) (k3:=k3) (k5:=o) (newId:="ValueError.__new__") qE hh ?_));refine ag (jz (Q:=EP (jM P w K mg base N qual scope fn cd A outer gJ gH E) pins σ λv a=>∃y od,v=.ref y/\gJ.heap.objs.size<=y/\a y=aa (l7 y C od)/\E (.ref C) od (NW y a)) ?_ λv s3 h3=>ag (dh (aq ?_)))
 ·refine c5 (qU I L hm ?_ O);refine W.callWith_K (h₀:=base) I.ok.mod.N2 M.kp (jz (ha jj pins s σ H _ I h) λus s1 ⟨b,H1,g,r,hz,q⟩=>⟨g.nN,?_⟩) U Y;refine TK (X:=jM P w K mg base N qual scope fn cd A outer gJ gH E) M F G J KP g r (by rw[bc,<-r.length];exact hz) λy hy hn=>mono _ _ _ _ (λv a ⟨e1,od,e2,e3⟩=>⟨e1,y,od,rfl,aS g.BG hn,e2,e3⟩) (q y hy)
 ·obtain⟨v',a,i,rv,y,od,rfl,hn,z,hE⟩:=h3;cases rv;obtain⟨B,_,_⟩:=(show iN P w a s3.heap y (l7 y C od) from i.iJ y _ z);exact⟨y,od,rfl,i.nN _ _ hC,B,FZ (i.drop z) B hn qJ hE⟩
end
section
variable {X:Cx} {o value:bh} {ta tv:TE} {f:ay} {pos pos':c7}
noncomputable def VL(K:W.Frag)(ta tv:TE)(f:ay):TS:=λD σ H=>tv σ H λy H1=>ta σ H1 λx c=>∃a C od fs,x=.ref a/\c a=aa (l7 a C od)/\XD c a od fs/\F4 K C/\kx K C f/\fs.length<1000/\
 ∀b,(od=aa b\/(od=ao/\c b=ao))->b≠a->D.nx σ (upd (upd c b (DC b (nD f y fs))) a (l7 a C (aa b)))
theorem TL(ha:PE X o ta)(b:PE X value tv)(e:cN value (aa (.Attribute o f pos')) pos.line X.env=pure am):PS X (.Assign [.Attribute o f pos'] value pos) (VL X.K ta tv f):=by intro pins s σ H D I h;refine adM (jz (b pins s σ H _ I h) λu s1 ⟨y,H1,g,i,q⟩=>jz (ha pins s1 σ H1 _ g q) λj s2 ⟨x,A,m,p,a,C,od,fs,ex,ea,hd,c,n,l,r⟩=>?_) e;subst ex;obtain rfl:j=aN a:=p;exact TD m ea hd c n l i λs3 v w ne z=>⟨σ,_,z,r v w ne⟩
end
end L2
namespace L2
open PySem PySem.Spec PyProof.Rows PySem.W
structure NX(X:Cx)(pins:List (aj×bS))(b:aj):Prop where
 s0:X.gJ.heap.objs.size<=b
 lo:b≠X.env.locals
 ce:∀x c,X.env.cells.lookup x=aa c->c≠b
 pi:∀p∈X.pn++pins,p.1≠b
section
variable {X:Cx} {pins:List (aj×bS)} {σ:St} {H:Hp} {s:ai} {h':ar}
theorem Inv.F6(I:Inv X pins σ H s){b:aj}(a:s.heap.objs.size<=b):NX X pins b:=by
 refine⟨aS I.BG a,λz=>?_,λx c e z=>?_,λp g z=>?_⟩
 ·obtain⟨m,⟨o,es,h,f,_⟩,_⟩:=I.loc;have:=aD f;rw[<-z] at this;exact absurd (bg this a) (cu _)
 ·obtain⟨v,o,f,_⟩:=I.cell x c e;have:=aD f;rw[z] at this;exact absurd (bg this a) (cu _)
 ·have:=aD (I.pin p g).1;rw[z] at this;exact absurd (bg this a) (cu _)
theorem Inv.F7{t':Nat}(I:Inv X pins σ H s){R:List aj}(g:∀b∈R,NX X pins b/\H b=ao)(h:Left (qT X.stack) R s.heap h'):Inv X pins σ H {s with heap:=h',toks:=t'}:=by
 refine I.yE (ch:=R) (s':={s with heap:=h',toks:=t'}) rfl ⟨λb o e n c f=>(h b o e f).1 c,λb o e n c f=>(h b o e f).2,λb o e n f=>n,λb o e f=>?_,λb xs q=>q,λb o u q=>q,λb j q=>⟨#[],by rw[q];simp⟩⟩ (λa o e=>?_) I.bare λb c=>⟨.inr (g b c).1.s0,(g b c).1.lo,(g b c).1.ce,(g b c).1.pi⟩
 ·obtain⟨sl,q⟩:=(h b o e f).2;exact⟨_,q⟩
 ·refine(I.iJ a o e).sL (λb u c q=>?_) (λ_ q=>q) λ_ _ q=>q;have hn:H b≠ao:=by
   rcases c with rfl|c
   ·rw[e];exactλz=>by cases z
   ·rw[c];exactλz=>by cases z
  exact(h b u q λz=>hn (g b z).2).1 λz=>hn (I.frN z)
theorem Inv.VM{x:aj}{o:HO}(I:Inv X pins σ H s)(g:H x=ao)(F6:NX X pins x)(ok:iN X.prog X.w (upd H x o) s.heap x o):Inv X pins σ (upd H x o) s:=by
 have a:∀b u,H b=aa u->upd H x o b=aa u:=λb u e=>by rw[gF λz=>by rw[z,g] at e;cases e];exact e
 have h:X.gJ.heap.get? x=ao:=cA F6.s0;refine⟨I.ok,I.os,I.bare,⟨I.base.keep,I.base.slot,λb ob q n i=>?_,I.base.there,λb xs q=>a b _ (I.base.wG b xs q),λb ob u q=>a b _ (I.base.uP b ob u q),λb j q=>?_⟩,I.loc,I.cell,?_,λy c e=>?_,λp f=>?_,λb u q=>?_,I.len⟩
 ·rw[gF λz=>by rw[z,h] at q;cases q];exact I.base.free b ob q n i
 ·obtain⟨m,e⟩:=I.base.wH b j q;exact⟨m,a b _ e⟩
 ·rw[gF (bU F6.lo)];exact I.free
 ·rw[gF (F6.ce y c e)];exact I.lD y c e
 ·obtain⟨l,A,B⟩:=I.pin p f;exact⟨l,by rw[gF (F6.pi p f)];exact A,B⟩
 ·by_cases z:b=x
  ·subst z;rw[gW] at q;cases q;exact ok
  ·rw[gF z] at q;exact(I.iJ b u q).sL (λc v _ r=>r) (λc r=>a c _ r) (λc xs r=>a c _ r)
abbrev Cx.Iy(X:Cx)(e:af):Cx:={X with A:=X.A.mark (aa e),calm:=am,xe:=λ_ _=>False}
theorem Inv.Iy(I:Inv X pins σ H s)(e:af):Inv (X.Iy e) pins σ H s:=
 ⟨⟨I.ok.mod,I.ok.kind,I.ok.glob,I.ok.blt,I.ok.above,I.ok.inj,I.ok.has,I.ok.V6,(λz=>by cases z),I.ok.frames,I.ok.YG,I.ok.exf,I.ok.bs,I.ok.NS,I.ok.E9,I.ok.HQ,I.ok.vy,I.ok.RU⟩,I.os,I.bare,I.base,I.loc,I.cell,I.free,I.lD,I.pin,I.iJ,I.len⟩
theorem Inv.Lp{e:af}(ok:X.Ok)(I:Inv (X.Iy e) pins σ H s):Inv X pins σ H s:=⟨ok,I.os,I.bare,I.base,I.loc,I.cell,I.free,I.lD,I.pin,I.iJ,I.len⟩
theorem wY{i:Nat}{n:ay}{pos:c7}{A:ba}{E:af->ai->Prop}{Q:Unit->ai->Prop}(I:Inv X pins σ H s)(G:X.N.Nodup)(hi:X.N[i]?=aa n)(J:X.env.kindOf n=aa .local)
(h:∀x,Inv X pins (σ.set i ao) H x->Q () x):wpAny (model X.prog X.w) A (do adI X.env n .none;aev X.env n pos) Q E s:=by
 obtain⟨m,hn,L⟩:=id I.loc;have N3:=I.N3;refine wpAny_nameGoes_keeps J hn (by rw[I.ok.kind];rfl) λh' v M a=>h _ ?_;have l:∀b o,X.gJ.heap.get? b=aa o->h'.get? b=s.heap.get? b:=λb o e=>a.2 b (bn (bg (aD e) I.ok.above));refine⟨I.ok,I.os,I.bare,⟨λb o e n r f=>(l b o e).trans (I.base.keep b o e n r f),λb o e n r f=>?_,I.base.free,λb o e f=>?_,I.base.wG,I.base.uP,I.base.wH⟩,⟨_,M,λj y O e1 e2 e3=>?_⟩,λy c e=>?_,I.free,I.lD,λp T=>?_,λb u e=>?_,by simpa using I.len⟩
 ·obtain⟨sl,e1⟩:=I.base.slot b o e n r f;exact⟨sl,(l b o e).trans e1⟩
 ·obtain⟨U,e1⟩:=I.base.there b o e f;exact⟨U,(l b o e).trans e1⟩
 ·have B:j≠i:=λz=>by subst z;rw[List.getElem?_set] at e2;rw[if_pos rfl] at e2;split at e2<;>cases e2
  rw[c6 (bU B)] at e2;obtain⟨Y,r',q⟩:=L j y O e1 e2 e3;refine⟨Y,r',?_⟩;rcases q with⟨k,e⟩|⟨k,c,e,z⟩
  ·refine .inl ⟨k,?_⟩;have:y≠n:=λe=>B (zF G e1 (e▸hi));simp[this,e]
  ·exact .inr ⟨k,c,e,z.sameBut a (N3 y c e)⟩
 ·obtain⟨C,z⟩:=I.cell y c e;exact⟨C,z.sameBut a (N3 y c e)⟩
 ·obtain⟨e,n,ne,nf,d⟩:=I.pin p T;exact⟨(a.2 p.1 ne).trans e,n,ne,nf,d⟩
 ·refine(I.iJ b u e).sL (λc C g q=>(a.2 c ?_).trans q) (λ_ q=>q) λ_ _ q=>q
  rintro rfl
  rcases g with rfl|g
  ·rw[I.free] at e;cases e
  ·rw[I.free] at g;cases g
end
end L2
namespace L2
open PySem PySem.Spec PyProof.Rows PySem.W
def Xt (H:Hp)(od:Option aj)(fs:List (ay×V)):Prop:=match od with
 |none=>fs=[]
 |some a=>H a=aa (DC a fs)
noncomputable def VN(H:Hp)(x C:aj)(od:Option aj)(fs:List (ay×V)):Hp:=match od with
 |none=>upd H x (.xc C fs)
 |some a=>upd (upd H a (.own x)) x (.xc C fs)
theorem Inv.IM{X:Cx}{pins:List (aj×bS)}{σ:St}{H:Hp}{s:ai}{x C:aj}{od:Option aj}{fs:List (ay×V)}{b:bS}{f:Array af}(I:Inv X pins σ H s)(g:H x=ao)(F6:NX X pins x)(hd:Xt H od fs)
(e:s.heap.get? x=aa b)(h:b.cls=.ref C)(i:b.dict=od)(j:b.data=.fields f):Inv X pins σ (VN H x C od fs) s:=by
 cases od with
 |none=>
  refine I.VM g F6 ⟨b,f,e,h,j,.inl ⟨i,hd⟩⟩
 |some a=>
  have c:H a=aa (DC a fs):=hd;have ne:a≠x:=λz=>by rw[z,g] at c;cases c
  obtain⟨⟨l,nn,r,wi⟩,⟨o,m⟩,_⟩:=(show iN X.prog X.w H s.heap a (DC a fs) from I.iJ a _ c);have n:∀o u,X.gH a≠aa (.wF o u):=λo u z=>by have:=I.base.uP a o u z;rw[c] at this;cases this
  have p:=I.ghost (w':=.own x) c (λ_ z=>by cases z) (λ_ z=>by cases z) (λ_ z=>by cases z) n ⟨o,m⟩;refine p.VM (by rw[gF (bU ne)];exact g) F6 ⟨b,f,e,h,j,.inr ⟨a,l,i,ne,?_,nn,r⟩⟩;rw[gF ne,gW]
structure MS(K:W.Frag)(C B:aj):Prop where
 c:∃nm q N bs bm kJ sn sub ab col dd k0 k1 k2 k3 k5,K.lookup C=aa (dg nm q C N bs bm kJ sn sub ab col dd k0 k1 k2 k3 k5 "ValueError.__new__")/\(aN C::bm).contains (.ref B)=ah
 b:∃nm q N bs bm kJ sn sub ab col dd k0 k1 k2 k3 k5,K.lookup B=aa (dg nm q B N bs bm kJ sn sub ab col dd k0 k1 k2 k3 k5 "ValueError.__new__")/\(aN B::bm).contains (.type "BaseException")=ah
section
variable {X:Cx} {pins:List (aj×bS)} {σ:St} {H:Hp} {s:ai} {A:ba} {E:af->ai->Prop}
theorem IN{x C B:aj}{l:bS}{Q:Bool->ai->Prop}(m:X.K.In s.heap)(n:s.heap.get? x=aa l)(o:l.cls=.ref C)(sub:MS X.K C B)(h:Q ah s):wpAny (model X.prog X.w) A (excMatches (.ref x) (.ref B)) Q E s:=by
 obtain⟨nm,q,N,bs,bm,kJ,sn,p,ab,col,dd,k0,k1,k2,k3,k5,e,i⟩:=sub.c;obtain⟨r,q',N',u,v,y,z,G,I,J,L,M,O,T,U,Y,a,j⟩:=sub.b;have e:=m _ _ e;have a:=m _ _ a;have f:=tc_notTuple;obtain⟨hh,g,d,t,os⟩:=s;unfold excMatches;repeat (first|(with_reducible refine dX n ?_;rw[o])|with_reducible refine dX a ?_|(with_reducible refine ej a ?_;rw[j])|(with_reducible refine ej e ?_;rw[i])|wp_step)
 exact h
theorem MT{x T:aj}{C:af}{od:Option aj}{Q:Unit->ai->Prop}(I:Inv X pins σ H s)(p:Rec s.heap x C od T)(r:NX X pins T)(u:H T=ao)(h:∀a,Inv X pins σ H a->Rec a.heap x C od T->Q () a):
  wpAny (model X.prog X.w) A (ade (.ref x) ao) Q E s:=by
 obtain⟨v,y,J,L,g,B,G,i,j,l,m,c,n⟩:=p;refine wpAny_setFlight_none g i j m c (bW.mp n).1 (h _ (I.F7 (t':=s.toks) (R:=[T]) (λb f=>by cases bP.mp f;exact⟨r,u⟩) λb o e f=>?_) ?_)
 ·have:b≠T:=λz=>f (by simp[z]);have q:=(bv s.heap (bF (·.setIfInBounds 3 .none)) (bU this)).trans e;exact⟨λ_=>q,o.slots,q⟩
 ·refine⟨v,y,_,_,(ar.get?_update_ne _ _ _ _ (bU l)).trans g,B,G,i,j,l,bY _ m (ci (bQ c _)),bQ c _,by simp[eU,(bW.mp n).1]⟩
end
end L2
namespace L2
open PySem PySem.Spec PyProof.Rows PySem.W
abbrev Cx.wp(X:Cx)(pn:List (aj×bS))(E:af->ai->Prop):Cx:={X with pn:=pn,xe:=E}
section
variable {X:Cx} {pins wI:List (aj×bS)} {σ:St} {H:Hp} {s:ai} {E:af->ai->Prop}
theorem Cx.Ok.wp(ok:X.Ok)(pn:List (aj×bS))(E:af->ai->Prop):(X.wp pn E).Ok:=
 ⟨ok.mod,ok.kind,ok.glob,ok.blt,ok.above,ok.inj,ok.has,ok.V6,ok.hd,ok.frames,ok.YG,ok.exf,ok.bs,ok.NS,ok.E9,ok.HQ,ok.vy,ok.RU⟩
theorem Inv.wp(I:Inv X pins σ H s)(E:af->ai->Prop):Inv (X.wp (X.pn++pins) E) [] σ H s:=
 ⟨I.ok.wp _ _,I.os,I.bare,I.base,I.loc,I.cell,I.free,I.lD,λp a=>I.pin p (by rw[br] at a;exact a),I.iJ,I.len⟩
theorem Inv.BH(ok:X.Ok)(I:Inv (X.wp (X.pn++pins) E) wI σ H s):Inv X pins σ H s:=
 ⟨ok,I.os,I.bare,I.base,I.loc,I.cell,I.free,I.lD,λp a=>I.pin p (b8 _ a),I.iJ,I.len⟩
theorem SP.BH{D:Ends}{f:Flow}{c:ai}(ok:X.Ok)(h:SP (X.wp (X.pn++pins) E) [] D f c):SP X pins D f c:=by
 cases f with
 |next=>obtain⟨a,b,I,q⟩:=h;exact⟨a,b,I.BH ok,q⟩
 |brk=>obtain⟨a,b,I,q⟩:=h;exact⟨a,b,I.BH ok,q⟩
 |cont=>obtain⟨a,b,I,q⟩:=h;exact⟨a,b,I.BH ok,q⟩
 |ret u=>obtain⟨v,a,b,I,r,q⟩:=h;exact⟨v,a,b,I.BH ok,r,q⟩
end
noncomputable def dE(i:Nat)(D:Ends):Ends:=⟨λσ H=>D.nx (σ.set i ao) H,D.rt,λσ H=>D.bk (σ.set i ao) H,λσ H=>D.ct (σ.set i ao) H⟩
section
variable {X:Cx} {i:Nat} {n tn:ay} {tp MU pos:c7} {B:aj} {body:List bH} {IP:bH} {As:List bH} {tb:XK->TS} {th:TS}
end
end L2
namespace L2
open PySem PySem.Spec PyProof.Rows PySem.W
section
variable {prog:aJ} {w:bj} {A:ba} {E:af->ai->Prop} {s:ai} {K:W.Frag} {x C:aj} {name:ay} {v:af} {ox:bS} {od:Option bS}
theorem TM{expr:Bool}{Q:af->ai->Prop}(X:K.In s.heap)(I:InstAt s.heap x ox C od)(a:aeE K (.ref C) "__getattribute__"=aa (aa (.builtin "BaseException.__getattribute__")))(b:aeE K (.ref C) "__getattr__"=aa ao)
(f:subIn K (.ref C) (.type "BaseException")=aa ah)(i:findObj K C od name=aa (.value v))(j:handedIn v=ah)(h:Q v {s with toks:=s.toks+1}):wpAny (model prog w) A (aeH (.ref x) name expr) Q E s:=by
 have FB:=PySem.F.attrBase_ValueError;have c:=I.type (M:=model prog w);have l:=looks_find (M:=model prog w) X I i;have m:fU (model prog w) s.heap (hookBefore (.ref C)) ao:=looks_hook X (by rw[if_pos (by rfl)];exact b);refine ag (wpAny_mkText (cc (ag (c _ _ _ _ (λ_ _ e=>e) (ag (looks_findIn X a _ _ _ _ (λ_ _ e=>e) ?_))))));dsimp only;have n:(cB "BaseException.__getattribute__"==cB "object.__getattribute__")=am:=by decide+kernel
 rw[show(ae1 (aN C)&&cB "BaseException.__getattribute__"==cB "object.__getattribute__")=am from by rw[n,adh],if_neg (by decide)];refine ag (m _ _ _ _ (λ_ _ e=>e) (ag (gp (cc ?_))));unfold ae2;rw[show(expr&&ae1 (cB "BaseException.__getattribute__"))=am from adh _,if_neg (by decide)];unfold afi;rw[FB.ga.bind];refine ag (aq ?_);show wpAny _ _ (call (.builtin "BaseException.__getattribute__") [.ref x,.str name s.toks]) _ _ _;refine dj ?_;refine df FB.ga.plain PySem.F.entry_bexc_ga ?_;refine@adF (model prog w) _ _ {s with toks:=s.toks+1} "BaseException.__getattribute__" "BaseException" "__getattribute__" (.ref x) [.str name s.toks] [] _ (by decide+kernel) (by decide+kernel) (c.andThen (looks_subIn X f)) (PySem.F.args_bexc_ga (.ref x) (.str name s.toks)) ?_;obtain⟨o,g,d,t,os⟩:=s;refine ag (aq (ag (aq (ag (c.at (ag (l.at ?_)))))));refine aq ?_;show wpAny _ _ (handedOut v) _ _ _;rw[handedOut_of j];exact aq h
end
end L2
namespace L2
open PySem PySem.Spec PyProof.Rows PySem.W
structure F8(K:W.Frag)(C:aj):Prop where
 hd:hasDictIn K C=ah
 ga:aeE K (.ref C) "__getattribute__"=aa (aa (.builtin "BaseException.__getattribute__"))
 gh:aeE K (.ref C) "__getattr__"=aa ao
 sb:subIn K (.ref C) (.type "BaseException")=aa ah
 cl:aeE K (.ref C) "__class__"=aa (aa (.builtin "object.__class__"))
 cg:specialIn K (.builtin "object.__class__") "__get__"=aa (aa (.builtin "getset_descriptor.__get__"))
 tk:takesIn K (.builtin "object.__class__")=aa ah
 ob:mroIn K C (.type "object")=aa ah
section
variable {prog:aJ} {w:bj} {A:ba} {E:af->ai->Prop} {s:ai} {K:W.Frag} {x C:aj} {ox:bS} {od:Option bS}
theorem MV{Q:Option af->ai->Prop}(G:F8 K C)(X:K.In s.heap)(I:InstAt s.heap x ox C od)(h:Q (aa (.ref C)) {s with toks:=s.toks+1}):wpAny (model prog w) A (aes (.ref x) "__class__") Q E s:=by
 have FB:=PySem.F.attrBase_ValueError;have c:findObj K C od "__class__"=aa (.bind (.builtin "getset_descriptor.__get__") (.builtin "object.__class__")):=by obtain⟨cd,f,_⟩:=afj G.hd;unfold findObj;rw[f,Option.bind_some,G.cl,Option.bind_some];dsimp only;rw[G.cg,Option.bind_some];dsimp only;rw[G.tk];rfl
 have a:=I.type (M:=model prog w);have i:=looks_find (M:=model prog w) X I c;have j:fU (model prog w) s.heap (hookBefore (.ref C)) ao:=looks_hook X (by rw[if_pos (by rfl)];exact G.gh);unfold aes getAttrBy?;refine ag (wpAny_mkText (ag (gp ?_)));unfold getAttrBy;refine cc (ag (a _ _ _ _ (λ_ _ e=>e) (ag (looks_findIn X G.ga _ _ _ _ (λ_ _ e=>e) ?_))));dsimp only;have l:(cB "BaseException.__getattribute__"==cB "object.__getattribute__")=am:=by decide+kernel
 rw[show(ae1 (aN C)&&cB "BaseException.__getattribute__"==cB "object.__getattribute__")=am from by rw[l,adh],if_neg (by decide)];refine ag (j _ _ _ _ (λ_ _ e=>e) (ag (gp (cc ?_))));unfold ae2;rw[if_neg (by decide)];unfold afi;rw[FB.ga.bind];refine ag (aq ?_);show wpAny _ _ (call (.builtin "BaseException.__getattribute__") [.ref x,.str "__class__" s.toks]) _ _ _;refine dj ?_;refine df FB.ga.plain PySem.F.entry_bexc_ga ?_;refine@adF (model prog w) _ _ {s with toks:=s.toks+1} "BaseException.__getattribute__" "BaseException" "__getattribute__" (.ref x) [.str "__class__" s.toks] [] _ (by decide+kernel) (by decide+kernel) (a.andThen (looks_subIn X G.sb)) (PySem.F.args_bexc_ga (.ref x) (.str "__class__" s.toks)) ?_;obtain⟨b,g,d,t,os⟩:=s;refine ag (aq (ag (aq (ag (a.at (ag (i.at ?_)))))));show wpAny _ _ (holding [cB "object.__class__"] (call (.builtin "getset_descriptor.__get__") [.builtin "object.__class__",.ref x,.ref C]) >>= ret) _ _ _;refine ag (cc (dj (class_get (s:=⟨b,g,d,t+1,os⟩) (ox:=ox) (od:=od) X I G.ob ?_)));refine aq ?_;show wpAny _ _ (handedOut (.ref C)) _ _ _;rw[handedOut_of rfl];exact aq (aq h)
theorem PP(G:F8 K C):KitX K (.ref x) (.ref C) (λh=>InstAt h x ox C od) where
 ty:=λ_ _ _ I=>I.type
 it:=λ_ _ X _=>by
  obtain⟨b,a,_⟩:=afj G.hd;unfold clsIn at a;split at a
  ·rename_i i j c l f;intro o p r u k q;unfold isType loadHead;exact ag (adU (k _ _ (X _ _ f)) (aq q))
  ·cases a
 ne:=λh m dd g8 n sl X g=>by
  obtain⟨b,a,_⟩:=afj G.hd;refine Bool.eq_false_iff.mpr λq=>?_;have e:C=m:=aN.inj (beq_iff_eq.mp q);subst e;unfold clsIn at a;split at a
  ·rename_i i j c l f;have z:=(X _ _ f).symm.trans g;cases z
  ·cases a
 ca:=λX I k=>MV G X I k
end
section
variable {X:Cx} {pins:List (aj×bS)} {σ:St} {H:Hp} {s:ai} {o:bh} {ta:TE} {f:ay} {pos:c7}
theorem Inv.excAt{a C:aj}{fs:List (ay×V)}{f:ay}(I:Inv X pins σ H s)(ea:H a=aa (.xc C fs)):
  ∃j h,InstAt s.heap a j C h/\∀v,fs.lookup f=aa v->∃u d,h=aa d/\lookIn f d=aa (aa u)/\RelV v u:=by
 obtain⟨l,A,i,m,n,b⟩:=(show iN X.prog X.w H s.heap a (.xc C fs) from I.iJ a _ ea);obtain⟨oc,odd,p,By⟩:=l;cases m;cases n;rcases b with⟨b,rfl⟩|⟨x,y,b,ne,B,nn,r⟩
 ·cases(show odd=ao from b);exact⟨_,ao,⟨i,rfl,rfl,trivial⟩,λv e=>by cases e⟩
 ·cases(show odd=aa x from b);obtain⟨d,c,g⟩:=Cd nn;refine⟨_,aa d,⟨i,rfl,rfl,c⟩,λv e=>?_⟩;have q:=r f;rw[e] at q;cases z:y f with
  |none=>rw[z] at q;exact q.elim
  |some u=>rw[z] at q;exact⟨u,d,rfl,by rw[g,z],q⟩
noncomputable def aaD(K:W.Frag)(ta:TE)(f:ay):TE:=λσ H Q=>ta σ H λx H1=>∃a C fs v,x=.ref a/\H1 a=aa (.xc C fs)/\F8 K C/\kx K C f/\fs.lookup f=aa v/\Q v H1
theorem TN(g:PE X o ta)(i:cK o f X.env (eval o X.env)=eval o X.env):PE X (.Attribute o f pos) (aaD X.K ta f):=by intro pins s σ H Q I h;refine KA i (jz (g pins s σ H _ I h) λu s1 ⟨x,H1,b,j,a,C,fs,v,ex,ea,G,na,l,q⟩=>?_);subst ex;obtain rfl:u=aN a:=j;obtain⟨m,n,J,L⟩:=b.excAt (f:=f) ea;obtain⟨u,d,rfl,c,e⟩:=L v l;exact TM b.nN J G.ga G.gh G.sb (findObj_own G.hd na rfl c) (Ce e) ⟨v,H1,b.tk _,e,q⟩
theorem TQ{A:ba}{E:af->ai->Prop}{a C:aj}{fs:List (ay×V)}{c:af}{b:Bool}{Q:af->ai->Prop}(I:Inv X pins σ H s)(ea:H a=aa (.xc C fs))(G:F8 X.K C)(e:kitOne X.K (.ref C) c=aa b)
(h:∀tk,Q (.bool b) {s with toks:=tk}):wpAny (model X.prog X.w) A (call (.builtin "isinstance") [.ref a,c]) Q E s:=by obtain⟨g,i,J,_⟩:=I.excAt (f:=("":ay)) ea;exact kia_one (PP G) I.nN J e (λz=>nomatch z) h
end
end L2
namespace L2
open PySem PySem.Spec PyProof.Rows PySem.W
abbrev XS:=St->XK
def l9 (X:Cx)(E:XS):Prop:=∀(pins:List (aj×bS)) (σ:St) (H:Hp) (s:ai) (e:af) (a:ai),Inv X pins σ H s->Tw X.prog X.w X.stack H s (E σ) e a->X.xe e a
section
variable {P:aJ} {w:bj} {K:W.Frag} {mg:ay->Option af} {base:ar} {N:List ay} {qual:ay} {scope:cx} {f:aj} {cd:af} {A:ba} {outer:List eH} {gJ:ai} {gH:Hp} {E:XK}
theorem aaE:l9 (jM P w K mg base N qual scope f cd A outer gJ gH E) λ_=>E:=λpins σ H s e a I h=>aay pins σ H s e a I h
end
section
variable {X:Cx} {k:Nat} {f C:aj} {fd:cn} {ps:List ay} {sp:Sp} {E:XS} {x m:ay} {p pos apos:c7} {e o:bh} {es:List bh} {ta:TE} {t:TA}
theorem TR{pins:List (aj×bS)}{σ:St}{H:Hp}{s:ai}{Q:VK}{us:List af}{b:List V}(F:ky X.prog X.w X.K X.mg X.base (Tw X.prog X.w) k f fd ps sp)(g:jR k X.A)(i:Binds X.K fd ps [])(j:l9 X E)
(I:Inv X pins σ H s)(r:Vals b us)(h:sp b H Q (E σ)):wpAny (model X.prog X.w) X.A (call (.ref f) us) (EP X pins σ Q) X.xe s:=by
 have l:us.length=ps.length:=by rw[<-r.length];exact F.len _ _ _ _ h
 have c:=i s us I.nN (by rw[br];exact l);rw[br] at c;refine dj (cX (F.run X.A X.stack s H ⟨us,[]⟩ us b Q (E σ) g I.Ss c r h) λr n a=>?_);cases r with
 |error e=>exact j pins σ H s e n I a
 |ok fl=>
  cases fl with
  |ret u=>exact I.after a
  |next=>exact b0 a
  |brk=>exact b0 a
  |cont=>exact b0 a
noncomputable def Xv(sp:Sp)(E:XS)(t:TA):TE:=λσ H Q=>t σ H λa H1=>sp a H1 Q (E σ)
def zf (P:aJ)(w:bj)(K:W.Frag)(mg:ay->Option af)(base:ar)(k:Nat)(x:ay)(ps:List ay)(sp:Sp):Prop:=
 ∃f fd,mg x=aa (.ref f)/\W.keepIn K (.ref f)=ah/\Binds K fd ps []/\ky P w K mg base (Tw P w) k f fd ps sp
theorem Xw(h:zf X.prog X.w X.K X.mg X.base k x ps sp)(g:jR k X.A)(i:l9 X E)(ha:PA X (e::es) t)(j:Gl X x:=by rfl)(l:(x==("__debug__":ay))=am:=by decide)
(n:aM (e::es) X.env=(am,eval e X.env)::aM es X.env:=by rfl)(u:(cG pos (aM es X.env)).any (·.1)=am:=by rfl):
  PE X (.Call (.Name x p) (e::es) [] pos) (Xv sp E t):=by obtain⟨f,fd,m,kp,b,F⟩:=h;intro pins s σ H Q I h;refine c5 (qU I j m ?_ l);refine W.callWith_K (h₀:=X.base) I.ok.mod.N2 kp (jz (ha pos pins s σ H _ I h) λus s1 ⟨v,H1,c,r,q⟩=>⟨c.nN,?_⟩) n u;exact TR F g b i c r q
end
section
variable {P:aJ} {w:bj} {K:W.Frag} {mg:ay->Option af} {base:ar}
theorem zf.imp{k:Nat}{x:ay}{a:List ay}{sp c:Sp}(h:zf P w K mg base k x a sp)(i:∀e H Q E,c e H Q E->sp e H Q E):zf P w K mg base k x a c:=by obtain⟨f,fd,m,kp,b,F⟩:=h;exact⟨f,fd,m,kp,b,F.imp i⟩
theorem gX.acz{x:ay}{st:bH}{N b:List ay}{k:Nat}{sp:Sp}{body:List bH}{scope:cx}(F:gX K mg x st)(c:iF st=body)(es:hZ st=scope)(S:gU N b scope)
(e:∀(kV doc pm:af) (an:Option aj) (iE ct:af) (us:List af),us.length=b.length->eP (W.fnOf x x (jT st) (iF st) (hZ st) .none kV doc pm an iE ct) ⟨us,[]⟩=pure (b.zip us))
(len:∀a H Q E,sp a H Q E->a.length=b.length)
(g:∀(f:aj) (iE:af) (A:ba) (outer:List eH) (s:ai) (H:Hp) (a:List V) (Q:VK) (E:XK),jR k (A.deeper (dZ x scope s.heap.objs.size f iE))->sp a H Q E->
   ∃t,wA (jM P w K mg base N x scope f iE A outer s H E) body t/\t {nx:=λ_ h=>Q .non h,rt:=Q} (start N a) H):zf P w K mg base (k+1) x b sp:=by subst c es;obtain⟨f,fd,F,m⟩:=F;refine⟨f,fd,m,F.kp,F.binds e,?_⟩;obtain⟨oc,od,kV,doc,pm,an,iE,ct,By,rfl,lk,i⟩:=F.ex;exact Vm lk i S len λA outer s H a Q E j l=>g f iE A outer s H a Q E j l
end
def DJ (H:Hp)(od:Option aj):Prop:=∀a,od=aa a->∀q,H a≠aa (L2.Fo a q)
noncomputable def aaF(K:W.Frag)(i:Nat)(B:aj)(tb:XS->TS)(th:TS):TS:=λD σ H=>
 tb (λb C od a=>∃c fs,C=.ref c/\MS K c B/\Xt a od fs/\∀x,a x=ao->DJ a od->th (dE i D) (b.set i (aa (.ref x))) (VN a x c od fs)) D σ H
theorem Inv.Xx{X:Cx}{pins:List (aj×bS)}{σ:St}{H:Hp}{s:ai}{od:Option aj}{fs:List (ay×V)}(I:Inv X pins σ H s)(h:Xt H od fs):DJ H od:=λa e q z=>by subst e;obtain⟨⟨f,nn,_,_⟩,_⟩:=(show iN X.prog X.w H s.heap a (DC a fs) from I.iJ a _ h);obtain⟨c,_⟩:=(show iN X.prog X.w H s.heap a (L2.Fo a q) from I.iJ a _ z);obtain⟨g,oc,i,t,e,n2,b,_⟩:=c;cases e;obtain⟨o,es,j,n1⟩:=nn;rw[n1.1] at n2;cases n2;rw[n1.2.1] at b;cases b
section
variable {X:Cx} {i:Nat} {n tn:ay} {tp MU pos:c7} {B:aj} {body:List bH} {IP:bH} {As:List bH} {tb:XS->TS} {th:TS}
theorem TU(jL:X.stack=X.env::X.outer)(IK:X.env.frame=aa X.env.locals)(M:X.N.Nodup)(hi:X.N[i]?=aa n)(hk:X.env.kindOf n=aa .local)(ME:Loc X.env.scope n)(hf:X.fn n=ah\/X.env.scope.names.lookup n=aa .local)
(hg:Gl X tn)(hm:X.mg tn=aa (.ref B))(qW:(tn==("__debug__":ay))=am)
(o:∀(pn:List (aj×bS)) (E':af->ai->Prop) (Ex:XS),l9 (X.wp pn E') Ex->wA (X.wp pn E') body (tb Ex))
(hh:∀e,wA (X.Iy e) (IP::As) th):
  PS X (.Try body [.ExceptHandler (aa (.Name tn tp)) (aa n) (IP::As) MU] [] [] pos) (aaF X.K i B tb th):=by
 intro pins s σ H D I h;refine wpAny_Try_except ?_;have len:=I.len;have j:=I.ok;refine cj (o (X.pn++pins) (λe iW=>wpAny (model X.prog X.w) X.A (fP e X.env) (λ_ BB=>wpAny (model X.prog X.w) X.A (ade e ao) (λ_ xS=>wpAny (model X.prog X.w) X.A (handleBy e X.env [.ExceptHandler (aa (.Name tn tp)) (aa n) (IP::As) MU]) (SP X pins D) X.xe xS) X.xe BB) X.xe iW)
  (λy C od g=>∃c fs,C=.ref c/\MS X.K c B/\Xt g od fs/\∀x,g x=ao->DJ g od->th (dE i D) (y.set i (aa (.ref x))) (VN g x c od fs)) ?_ [] s σ H D (I.wp _) h) (λf s1 q=>?_) λe s1 q=>q
 ·intro wI Sj H1 s1 e E I1 hc;obtain⟨x,C,od,g,T,rfl,ho,hgb,u,iJ,hr,hx,hT,MQ,R4,c,fs,rfl,sub,O,hth⟩:=hc;have I2:=I1.yE (ch:=[]) ho u iJ hgb (λb o=>by cases o);have Q:=I1.F6 hx;have fT:=I1.F6 hT;have acA:X.A.frames=aa (X.env::X.outer):=by rw[<-jL];exact j.frames
  have acB:E.heap.FunFrames X.base (X.env::X.outer):=by rw[<-jL];exact I2.stack
  refine CC acA acB IK hr λU T' VH Y hL=>?_;have Z8:Left (qT X.stack) [x,T] E.heap U:=by rw[jL];exact hL
  have I3:Inv (X.wp (X.pn++pins) _) wI Sj g {E with heap:=U}:=I2.F7 (t':=E.toks) (R:=[x,T]) (λb o=>by
   rcases az.mp o with rfl|o
   ·exact⟨Q,MQ⟩
   ·cases bP.mp o;exact⟨fT,R4⟩) Z8
  have l:=I2.F6 VH;have acC:g T'=ao:=I2.iJ.fresh VH;have J:Inv X pins Sj g {E with heap:=U}:=I3.BH j;have gx:NX X pins x:=⟨Q.s0,Q.lo,Q.ce,λp hp=>Q.pi p (b8 _ hp)⟩;have gT:NX X pins T':=⟨l.s0,l.lo,l.ce,λp hp=>l.pi p (b8 _ hp)⟩;have Y:Rec ({E with heap:=U}:ai).heap x (.ref c) od T':=Y;generalize ({E with heap:=U}:ai)=s3 at J Y ⊢;have J':=J.Iy (.ref x);refine wpAny_handleBy_cons (codeAny_handlers_test (qU (X:=X.Iy (.ref x)) J' hg hm ?_ qW)) (by intro q;cases q);have PN:=Y;obtain⟨oe,vs,oT,ts,he,hc1,hc2,_⟩:=PN;refine IN (X:=X) J.nN he hc1 sub ?_;refine codeAny_handlers_suite_as (MT (X:=X) J Y gT acC λs4 J4 r4=>?_);refine uo (X:=X) J4 M hi ME (v:=.ref x) rfl (λs5 J5 ⟨a,hs,ha⟩=>?_) hf;have hxa:x≠a:=by
   rcases ha with rfl|ha
   ·exact gx.lo
   ·exact bU (gx.ce _ a ha)
  have J6:Inv X pins (Sj.set i (aa (.ref x))) (VN g x c od fs) s5:=by obtain⟨oe,vs,_,_,e,h1,h2,h3,_⟩:=r4;exact J5.IM MQ gx O ((hs.2 x hxa).trans e) h1 h2 h3
  refine cj (hh (.ref x) pins s5 _ _ (dE i D) (J6.Iy _) (hth x MQ (J.Xx O))) (λf s6 q=>?_) λ_ _ z=>z.elim;show wpAny (model X.prog X.w) X.A (do adI X.env n .none;aev X.env n MU) (λ_ s7=>SP X pins D f s7) X.xe s6;cases f with
  |next=>obtain⟨y,G,m,q⟩:=q;exact wY (m.Lp j) M hi hk λs7 L=>⟨_,G,L,q⟩
  |brk=>obtain⟨y,G,m,q⟩:=q;exact wY (m.Lp j) M hi hk λs7 L=>⟨_,G,L,q⟩
  |cont=>obtain⟨y,G,m,q⟩:=q;exact wY (m.Lp j) M hi hk λs7 L=>⟨_,G,L,q⟩
  |ret u=>obtain⟨v,y,G,m,r,q⟩:=q;exact wY (m.Lp j) M hi hk λs7 L=>⟨v,_,G,L,r,q⟩
 ·cases f with
  |next=>
   obtain⟨y,g,m,q⟩:=q;exact adm ⟨y,g,m.BH j,q⟩
  |brk=>exact SP.BH (f:=.brk) j q
  |cont=>exact SP.BH (f:=.cont) j q
  |ret u=>exact SP.BH (f:=.ret u) j q
end
end L2
namespace L3
open PySem PySem.Spec PyProof.Rows L2
structure EX where
 C:aj
 ns:List ay
 ds:List D
abbrev vL:=EX->kF->Ms->Prop
def vL.le(x y:vL):Prop:=∀e a M,x e a M->y e a M
theorem vL.rfl(x:vL):x.le x:=λ_ _ _ h=>h
abbrev xK(K:W.Frag)(F α:List aj)(H:Hp)(M:Ms)(E:XS):vL:=λx g c=>∀e b a od f,Ext F α H M b a c->R K F b a e g c->x.ns.length=x.ds.length->Xt a od (x.ns.zip f)->gA K b (i0 F b c a) x.ds f->E e (.ref x.C) od a
theorem xK.grow{K:W.Frag}{F α a:List aj}{H b:Hp}{M c:Ms}{E:XS}(e:Ext F α H M a b c):vL.le (xK K F α H M E) (xK K F a b c E):=λx l m h f g i od j e2=>h f g i od j (e.trans e2)
abbrev XE:=vL->DE
abbrev XA:=vL->DA
abbrev XB:=vL->DS
noncomputable def lEX(K:W.Frag)(E:XS)(t:XE):TE:=λσ H Q=>∃F α a M,R K F α H σ a M/\t (xK K F α H M E) a M (vK K F α H M Q)
noncomputable def lAX(K:W.Frag)(E:XS)(t:XA):TA:=λσ H Q=>∃F α a M,R K F α H σ a M/\t (xK K F α H M E) a M (aK K F α H M Q)
noncomputable def lSX(K:W.Frag)(E:XS)(t:XB):TS:=λD σ H=>∃F α a M,R K F α H σ a M/\t (xK K F α H M E) (mE K F α H M D) a M
structure Xy(X:Cx)(E:XS)(e:bh)(t:XE):Prop where
 mono:∀(x y:vL) δ M (P Q:DK),x.le y->(∀d M,P d M->Q d M)->t x δ M P->t y δ M Q
 p:PE X e (lEX X.K E t)
structure JAX(X:Cx)(E:XS)(es:List bh)(t:XA):Prop where
 mono:∀(x y:vL) δ M (P Q:List D->Ms->Prop),x.le y->(∀d M,P d M->Q d M)->t x δ M P->t y δ M Q
 p:PA X es (lAX X.K E t)
structure R7(X:Cx)(E:XS)(st:bH)(t:XB):Prop where
 mono:∀(x y:vL) (P Q:jW) δ M,x.le y->P.le Q->t x P δ M->t y Q δ M
 p:PS X st (lSX X.K E t)
structure R8(X:Cx)(E:XS)(st:List bH)(t:XB):Prop where
 mono:∀(x y:vL) (P Q:jW) δ M,x.le y->P.le Q->t x P δ M->t y Q δ M
 p:wA X st (lSX X.K E t)
section
variable {X:Cx} {E:XS} {c e:bh} {te:XE} {tt:XA} {tA:DT} {t u:XB} {pos p p2:c7} {x:ay} {st:bH} {Iu as bs:List bH} {es:List bh}
theorem JE.E5{t:DE}(h:JE X e t):Xy X E e λ_=>t:=⟨λx y a M P Q _ w q=>h.mono _ _ _ _ w q,h.p⟩
theorem JA.E5{t:DA}(h:JA X es t):JAX X E es λ_=>t:=⟨λx y a M P Q _ w q=>h.mono _ _ _ _ w q,h.p⟩
theorem JS.E5{t:DS}(h:JS X st t):R7 X E st λ_=>t:=⟨λx y P Q a M _ w q=>h.mono _ _ _ _ w q,h.p⟩
theorem BD.E5{t:DS}(h:BD X Iu t):R8 X E Iu λ_=>t:=⟨λx y P Q a M _ w q=>h.mono _ _ _ _ w q,h.p⟩
noncomputable def F9(te:XE)(tt:XA):XA:=λx=>gu (te x) (tt x)
theorem Ga(ha:Xy X E e te)(b:JAX X E es tt)(f:aM (e::es) X.env=(am,eval e X.env)::aM es X.env:=by rfl):JAX X E (e::es) (F9 te tt):=by refine⟨λx y a M P Q v w q=>ha.mono _ _ a _ _ _ v (λd M1 q=>b.mono _ _ a _ _ _ v (λxs M2 q=>w _ _ q) q) q,PA.weak (uq ha.p b.p f) λσ H Q q=>?_⟩;obtain⟨F,α,a,M,r,q⟩:=q;refine⟨F,α,a,M,r,ha.mono _ _ a _ _ _ (vL.rfl _) (λd M1 q v g H1 e1 o1 r1=>⟨F,g,a,M1,r.grow e1 o1,b.mono _ _ a _ _ _ (xK.grow e1) (λds M2 q h i j e2 o2 r2=>?_) q⟩) q⟩;exact q (v::h) i j (e1.trans e2) o2 (gA.cons (e2.rep r1) r2)
noncomputable def Xz(tt:XA):XE:=λx=>hW (tt x)
theorem XC{x1}(h:JAX X E es tt):Xy X E (.Tuple es x1 pos) (Xz tt):=by refine⟨λx y a M P Q v w q=>h.mono _ _ a _ _ _ v (λds M1 q=>⟨q.1,w _ _ q.2⟩) q,PE.weak (Oq h.p) λσ H Q q=>?_⟩;obtain⟨F,α,a,M,r,q⟩:=q;refine⟨F,α,a,M,r,h.mono _ _ a _ _ _ (vL.rfl _) (λds M1 q f g H1 e1 o1 r1=>?_) q⟩;exact⟨by rw[<-gA.length ds f r1];exact q.1,λp b=>vK.new o1 b (vK.grow e1 _ _ q.2) (kH o1 b r1)⟩
abbrev Lq:=List D->(D->Prop)->(EX->Prop)->Prop
abbrev CG(g:Lq):Prop:=∀ds (P Q:D->Prop) (x y:EX->Prop),(∀d,P d->Q d)->(∀e,x e->y e)->g ds P x->g ds Q y
abbrev yK(K:W.Frag)(F α:List aj)(H:Hp)(M:Ms)(E:XK):EX->Prop:=λx=>∀a od b,Ext F α H M α a M->OK K F α a M->x.ns.length=x.ds.length->Xt a od (x.ns.zip b)->gA K α (i0 F α M a) x.ds b->E (.ref x.C) od a
noncomputable def Gb(K:W.Frag)(g:Lq):Sp:=λa H Q E=>∃F α M ds,OK K F α H M/\gA K α (i0 F α M H) ds a/\kI ds=ah/\g ds (λd=>vK K F α H M Q d M) (yK K F α H M E)
structure yQ(P:aJ)(w:bj)(K:W.Frag)(mg:ay->Option af)(base:ar)(k:Nat)(x:ay)(ps:List ay)(g:Lq):Prop where
 mono:CG g
 p:zf P w K mg base k x ps (Gb K g)
noncomputable def dCX(g:Lq)(tt:XA):XE:=λx a M Q=>tt x a M λds M1=>kI ds=ah/\g ds (λd=>Q d M1) λe=>x e a M1
theorem PQ{k:Nat}{j:List ay}{g:Lq}(h:yQ X.prog X.w X.K X.mg X.base k x j g)(b:jR k X.A)(f:l9 X E)(ha:JAX X E (e::es) tt)(m:Gl X x:=by rfl)(n:(x==("__debug__":ay))=am:=by decide)
(o:aM (e::es) X.env=(am,eval e X.env)::aM es X.env:=by rfl)(s:(cG pos (aM es X.env)).any (·.1)=am:=by rfl):Xy X E (.Call (.Name x p) (e::es) [] pos) (dCX g tt):=by refine⟨λx y a M P Q v w q=>ha.mono _ _ a _ _ _ v (λds M1 q=>⟨q.1,h.mono _ _ _ _ _ (λd q=>w _ _ q) (λe q=>v _ _ _ q) q.2⟩) q,PE.weak (Xw h.p b f ha.p m n o s) λσ H Q q=>?_⟩;obtain⟨F,α,a,M,r,q⟩:=q;refine⟨F,α,a,M,r,ha.mono _ _ a _ _ _ (vL.rfl _) (λds M1 q B i H1 e1 o1 r1=>?_) q⟩;exact⟨F,i,M1,ds,o1,r1,q.1,h.mono _ _ _ _ _ (λd q=>vK.grow e1 _ _ q) (λex q z od ws e2 o2 l f b=>q σ i z od ws (e1.trans e2) ((r.grow e1 o1).grow e2 o2) l f b) q.2⟩
noncomputable def BI(t u:XB):XB:=λx=>gY (t x) (u x)
theorem ma(h:R7 X E st t):R8 X E [st] t:=⟨h.mono,Ky h.p⟩
theorem md(a:R7 X E st t)(b:R8 X E Iu u):R8 X E (st::Iu) (BI t u):=by refine⟨λx y P Q f M v w q=>a.mono _ _ {P with nx:=u x P} {Q with nx:=u y Q} _ _ v ⟨λf M q=>b.mono _ _ _ _ _ _ v w q,w.rt,w.bk,w.ct⟩ q,wA.weak (wK a.p b.p) λD σ H q=>?_⟩;obtain⟨F,α,f,M,r,q⟩:=q;refine⟨F,α,f,M,r,a.mono _ _ _ _ _ _ (vL.rfl _) ?_ q⟩;exact⟨λg M1 q i h H1 e1 r1=>⟨F,h,g,M1,r1,b.mono _ _ _ _ _ _ (xK.grow e1) (mE.grow e1) q⟩,λ_ _ q=>q,λ_ _ q=>q,λ_ _ q=>q⟩
noncomputable def YV(c:DT)(t u:XB):XB:=λx=>iB c (t x) (u x)
theorem DL(f:JT X c tA)(ha:R8 X E as t)(g:R8 X E bs u):R7 X E (.If c as bs pos) (YV tA t u):=by
 refine⟨λx y P Q a M v w q=>f.mono a _ _ _ (λb M1 q=>?_) q,PS.weak (Vf f.p ha.p g.p) λD σ H q=>?_⟩
 ·cases b with
  |true=>rw[if_pos rfl] at q ⊢;exact ha.mono _ _ _ _ _ _ v w q
  |false=>rw[if_neg au] at q ⊢;exact g.mono _ _ _ _ _ _ v w q
 ·obtain⟨F,α,a,M,r,q⟩:=q;refine⟨F,α,a,M,r,f.mono a _ _ _ (λb M1 q h H1 e1 o1=>?_) q⟩;cases b with
  |true=>
   rw[if_pos rfl] at q;show(if ah=ah then _ else _);rw[if_pos rfl];exact⟨F,h,a,M1,r.grow e1 o1,ha.mono _ _ _ _ _ _ (xK.grow e1) (mE.grow e1) q⟩
  |false=>
   rw[if_neg au] at q;show(if am=ah then _ else _);rw[if_neg au];exact⟨F,h,a,M1,r.grow e1 o1,g.mono _ _ _ _ _ _ (xK.grow e1) (mE.grow e1) q⟩
noncomputable def VO(te:XE):XB:=λx=>u4 (te x)
theorem PR(b:Xy X E e te)(f:cN e ao pos.line X.env=pure am:=by rfl):R7 X E (.Expr e pos) (VO te):=by refine⟨λx y P Q a M v w q=>b.mono _ _ a _ _ _ v (λd M1 q=>w.nx _ _ q) q,PS.weak (C5 b.p f) λD σ H q=>?_⟩;obtain⟨F,α,a,M,r,q⟩:=q;exact⟨F,α,a,M,r,b.mono _ _ a _ _ _ (vL.rfl _) (λd M1 q v g H1 e1 o1 r1=>q σ g H1 e1 (r.grow e1 o1)) q⟩
noncomputable def TV(i:Nat)(te:XE):XB:=λx=>iD i (te x)
theorem TX(i:Nat)(f:X.N.Nodup)(b:Xy X E e te)(hi:X.N[i]?=aa x:=by rfl)(g:Loc X.env.scope x:=by first|exact eB rfl|exact dk rfl)(h:cN e (aa (.Name x p)) pos.line X.env=pure am:=by rfl)
(j:X.fn x=ah\/X.env.scope.names.lookup x=aa .local:=by first|exact .inl rfl|exact .inr rfl|assumption):R7 X E (.Assign [.Name x p] e pos) (TV i te):=by refine⟨λx y P Q a M v w q=>b.mono _ _ a _ _ _ v (λd M1 q=>w.nx _ _ q) q,PS.weak (Oc f hi g b.p h j) λD σ H q=>?_⟩;obtain⟨F,α,a,M,r,q⟩:=q;exact⟨F,α,a,M,r,b.mono _ _ a _ _ _ (vL.rfl _) (λd M1 q v l H1 e1 o1 r1=>q _ l H1 e1 ((r.grow e1 o1).set r1)) q⟩
end
end L3
namespace L3
open PySem PySem.Spec PyProof.Rows L2
noncomputable def BJ(n m:Nat)(tb:XB):Lq:=λds Q b=>ds.length=m/\tb (λe _ _=>kI e.ds=ah/\b e) ⟨λ_ _=>Q .non,λd a=>nl (fz a d)=ah/\Q (fz a d),λ_ _=>False,λ_ _=>False⟩ (lm n ds) []
section
variable {P:aJ} {w:bj} {K:W.Frag} {mg:ay->Option af} {base:ar}
theorem MW{n m:Nat}{tb:XB}(b:∀(x y:vL) (P Q:jW) a M,x.le y->P.le Q->tb x P a M->tb y Q a M):CG (BJ n m tb):=λds P Q x y w v q=>⟨q.1,by
 refine b _ _ _ _ _ _ (λe _ _ q=>⟨q.1,v _ q.2⟩) ?_ q.2;exact⟨λ_ _ q=>w _ q,λ_ _ q=>⟨q.1,w _ q.2⟩,λ_ _ q=>q,λ_ _ q=>q⟩⟩
theorem TY{n:List ay}{ps:List ay}{X:Cx}{body:List bH}{tb:XB}{E:XK}(f:R8 X (λ_=>E) body tb){H:Hp}{c:List V}{Q:VK}(m:X.K=K)(h:Gb K (BJ n.length ps.length tb) c H Q E):
  ∃t,wA X body t/\t {nx:=λ_ b=>Q .non b,rt:=Q} (L2.start n c) H:=by
 subst m;obtain⟨F,α,M,ds,o,r,hn,B,q⟩:=h;have o0:OK X.K (lv α M++F) [] H []:=⟨rfl,eD,λa ha=>⟨by simp,by
  rcases bp.mp ha with ha|ha
  ·exact o.OT a ha
  ·exact(o.fr a ha).2⟩,λa ha=>(by simp at ha),λk x h=>(by simp at h),o.tb⟩
 have s:gA X.K [] (i0 (lv α M++F) [] [] H) ds c:=gA.nl ds c hn r;refine⟨_,f.p,lv α M++F,[],lm n.length ds,[],Dk o0 s,?_⟩;refine f.mono _ _ _ _ _ _ (λe C g ⟨nl,u⟩ y i b od ws ext z l xd A=>?ex) ?le q;case ex=>
  obtain⟨e1,o1⟩:=oO o ext z.ok;exact u b od ws e1 o1 l xd (gA.nl _ _ nl (gA.mono (aX _) rg _ _ A))
 case le=>
  refine⟨λG g q y i b e r=>?_,λd g q v i b e j r=>?_,λ_ _ q=>q.elim,λ_ _ q=>q.elim⟩
  ·obtain⟨e1,o1⟩:=oO o e r.ok;exact q _ α b e1 o1 wQ
  ·obtain⟨e1,o1⟩:=oO o e j;exact q.2 v α b e1 o1 (Rep.nl _ _ q.1 (OY j d v r))
theorem PU{k:Nat}{x:ay}{b:List ay}{g a:Lq}(h:zf P w K mg base k x b (Gb K g))(m:CG a)(i:∀ds Q y,a ds Q y->g ds Q y):yQ P w K mg base k x b a:=
 ⟨m,h.imp λc H Q E ⟨F,α,M,ds,o,r,n,q⟩=>⟨F,α,M,ds,o,r,n,i _ _ _ q⟩⟩
end
noncomputable def XG(v:V):Bool:=match v with|.int n=>decide (n.natAbs.log2<1920)&&decide ((toString n:ay).length<=4000)|.str y=>decide (y.length<=4000)|_=>am
noncomputable def MX(v:D):Bool:=match v with|.int n=>decide (n.natAbs.log2<1920)&&decide ((toString n:ay).length<=4000)|.str y=>decide (y.length<=4000)|_=>am
theorem PV{K:W.Frag}{α:List aj}{H:Hp}:∀(ds:List D) (a:List V),gA K α H ds a->ds.all MX=ah->a.all XG=ah
 |[],a,r,_=>by unfold gA at r;subst r;rfl
 |d::ds,a,r,h=>by unfold gA at r;obtain⟨v,ws,rfl,r1,r2⟩:=r;rw[cT,aH] at h ⊢;refine⟨?_,PV ds ws r2 h.2⟩;have b:=h.1;cases d<;>first|(cases b;done)|(unfold Rep at r1;subst r1;exact b)
noncomputable def spI(C:aj)(ns:List ay):Sp:=λb H Q _=>∃x ws,b=.ref x::ws/\ws.length=ns.length/\ws.all XG=ah/\H x=aa (l7 x C ao)/\
 ∀a,H a=ao->a≠x->Q .non (upd (upd H a (DC a (ns.zip ws))) x (l7 x C (aa a)))
theorem TZ{H:Hp}{x e:aj}{a b c:HO}(g:H x=ao)(ne:e≠x):NW x (upd (upd (upd H x a) e b) x c)=upd H e b:=by
 funext y;by_cases h:y=x
 ·subst h;rw[qJ,gF (bU ne),g]
 ·rw[Ar h,gF h];by_cases f:y=e
  ·subst f;rw[gW,gW]
  ·rw[gF f,gF f,gF h]
noncomputable def At(C:aj)(ns:List ay)(tt:DA):XB:=λx _ a M=>tt a M λds M1=>ds.length=ns.length/\ds.all MX=ah/\ds.length<=aE/\x ⟨C,ns,ds⟩ a M1
section
variable {P:aJ} {w:bj} {K:W.Frag} {mg:ay->Option af} {base:ar} {N:List ay} {qual:ay} {scope:cx} {fn:aj} {cd:af} {A:ba} {outer:List eH} {gJ:ai} {gH:Hp} {E:XK}
variable {k:Nat} {f C:aj} {fd:cn} {ps ns:List ay} {x:ay} {p pos jj:c7} {e:bh} {es:List bh} {tt:DA}
structure wZ(P:aJ)(w:bj)(K:W.Frag)(mg:ay->Option af)(base:ar)(k:Nat)(x:ay)(C:aj)(ns:List ay):Prop where
 m:mg x=aa (.ref C)
 ok:∃f fd ps,XMk K C f/\Binds K fd ps []/\ky P w K mg base uR k f fd ps (spI C ns)
theorem ye(h:wZ P w K mg base k x C ns)(o:jR (k+1) (jM P w K mg base N qual scope fn cd A outer gJ gH E).A)(ha:JA (jM P w K mg base N qual scope fn cd A outer gJ gH E) (e::es) tt)(s:Gl (jM P w K mg base N qual scope fn cd A outer gJ gH E) x:=by rfl)
(u:(x==("__debug__":ay))=am:=by decide)
(z:aM (e::es) (jM P w K mg base N qual scope fn cd A outer gJ gH E).env=(am,eval e (jM P w K mg base N qual scope fn cd A outer gJ gH E).env)::aM es (jM P w K mg base N qual scope fn cd A outer gJ gH E).env:=by rfl)
(B:(cG jj (aM es (jM P w K mg base N qual scope fn cd A outer gJ gH E).env)).any (·.1)=am:=by rfl):
  R7 (jM P w K mg base N qual scope fn cd A outer gJ gH E) (λ_=>E) (.Raise (aa (.Call (.Name x p) (e::es) [] jj)) ao pos) (At C ns tt):=by obtain⟨hm,f,fd,ps,M,G,F⟩:=h;refine⟨λx y P Q b M v w q=>ha.mono b _ _ _ (λds M1 q=>⟨q.1,q.2.1,q.2.2.1,v _ _ _ q.2.2.2⟩) q,PS.weak (PM M F (λc H Q U w ⟨x,ws,g,i,j,l,I⟩=>⟨x,ws,g,i,j,l,λa J L=>w _ _ (I a J L)⟩) o G s hm ha.p u z B) λD σ H q=>?_⟩;obtain⟨F,α,b,M,r,q⟩:=q;refine⟨F,α,b,M,r,ha.mono b _ _ _ (λds M1 q c O H1 e1 o1 r1=>?_) q⟩;obtain⟨g,i,j,l⟩:=q;have m:=gA.length _ _ r1;refine⟨by rw[<-m];exact j,λx T=>⟨x,c,rfl,by rw[<-m];exact g,PV _ _ r1 i,gW,λa n ne=>⟨rfl,aa a,gW,?_⟩⟩⟩;rw[gF ne] at n;rw[TZ T ne];obtain⟨o2,e2⟩:=o1.laid (x:=DC a (ns.zip c)) n;exact l σ O _ (aa a) c (e1.trans e2) ((r.grow e1 o1).grow e2 o2) g.symm gW (e2.zU r1)
end
end L3
namespace L3
open PySem PySem.Spec PyProof.Rows L2
section
variable {K:W.Frag} {F α gZ:List aj} {H H':Hp} {M M':Ms} {σ:L2.St} {δ:kF}
theorem R.unset(r:R K F α H σ δ M)(i:Nat):R K F α H (σ.set i ao) (δ.set i ao) M:=by
 refine⟨r.ok,by simp[r.len],λj d h=>?_⟩;by_cases a:j=i
 ·subst a;rw[List.getElem?_set] at h;by_cases b:j<δ.length
  ·simp[b] at h
  ·simp[b] at h
 ·rw[c6 (bU a)] at h ⊢;exact r.sl j d h
theorem OK.ghost(o:OK K F α H M){p:aj}{x:HO}{l:ar->Prop}(g:H p=aa (.ext l))(m:∀q,H p≠aa (Fo p q)):OK K F α (upd H p x) M/\Ext F α H M α (upd H p x) M:=by
 have n:wB (H p)=ao:=by rw[g]
 have qT:∀a,wB (H a)≠ao->upd H p x a=H a:=λa h=>gF λz=>by subst z;exact h n
 have i:jA (i0 F α M H) (i0 F α M (upd H p x)):=λb y q=>by obtain⟨z,j,s⟩:=sU q;exact kT q z (by rw[qT b (by rw[j,s];exactλz=>by cases z)];exact j)
 refine⟨⟨o.ml,o.nd,λa ha=>⟨(o.fr a ha).1,by rw[qT a (o.fr a ha).2];exact(o.fr a ha).2⟩,λa ha=>by rw[qT a (o.al a ha)];exact o.al a ha,λk y h=>?_,λy u c P e=>?_⟩,⟨aX _,i,λa ha=>qT a (o.fr a ha).2⟩⟩
 ·obtain⟨a,e,r⟩:=o.own k y h;exact⟨a,e,r.mono (aX _) i (qT a r.wB)⟩
 ·obtain⟨w,f,A,B⟩:=o.tb y u c P e;refine⟨w,by rw[gF λz=>by rw[z,g] at f;cases f];exact f,A,λpos v C=>?_⟩;obtain⟨E,e1,e2⟩:=B pos v C;exact⟨E,e1,by rw[gF λz=>by subst z;exact m _ e2];exact e2⟩
theorem OK.IM(o:OK K F α H M){x c:aj}{od:Option aj}{fs:List (ay×V)}(a:H x=ao)(xd:Xt H od fs)(f:DJ H od):OK K F α (VN H x c od fs) M/\Ext F α H M α (VN H x c od fs) M/\i0 F α M (VN H x c od fs) x=aa (.xc c fs):=by
 have e:∀H1,jB (lv α M++F) (upd H1 x (.xc c fs)) x=aa (.xc c fs):=λH1=>mT (o.new a) gW rfl;cases od with
 |none=>
  obtain⟨o1,e1⟩:=o.laid (x:=.xc c fs) a;exact⟨o1,e1,e _⟩
 |some b=>
  have hd:H b=aa (DC b fs):=xd;obtain⟨o1,e1⟩:=o.ghost (x:=.own x) hd (f b rfl);have ne:x≠b:=λz=>by rw[<-z,a] at hd;cases hd
  obtain⟨o2,e2⟩:=o1.laid (p:=x) (x:=.xc c fs) (by rw[gF ne];exact a);exact⟨o2,e1.trans e2,e _⟩
end
noncomputable def dEd(i:Nat)(E:jW):jW:=⟨λa M=>E.nx (a.set i ao) M,E.rt,λa M=>E.bk (a.set i ao) M,λa M=>E.ct (a.set i ao) M⟩
noncomputable def aaG(K:W.Frag)(i:Nat)(B:aj)(tb:XB)(th:DS):DS:=λE a M=>tb (λe b c=>MS K e.C B/\th (dEd i E) (b.set i (aa (.exc e.C e.ns e.ds))) c) E a M
section
variable {X:Cx} {E:XS} {e:bh} {pos:c7}
theorem XH{i:Nat}{n j:ay}{T U:c7}{B:aj}{body:List bH}{v:bH}{y:List bH}{tb:XB}{th:DS}(Y:X.N.Nodup)(hm:X.mg j=aa (.ref B))
(z:∀(pn:List (aj×bS)) (m:af->ai->Prop) (a:XS),l9 (X.wp pn m) a->R8 (X.wp pn m) a body tb)
(A:∀e,BD (X.Iy e) (v::y) th)(hi:X.N[i]?=aa n:=by rfl)(hk:X.env.kindOf n=aa .local:=by rfl)(ME:Loc X.env.scope n:=by first|exact eB rfl|exact dk rfl)(hf:X.fn n=ah\/X.env.scope.names.lookup n=aa .local:=by first|exact .inl rfl|exact .inr rfl|assumption)
(hg:Gl X j:=by rfl)(qW:(j==("__debug__":ay))=am:=by decide)(jL:X.stack=X.env::X.outer:=by rfl)(IK:X.env.frame=aa X.env.locals:=by rfl):
  JS X (.Try body [.ExceptHandler (aa (.Name j T)) (aa n) (v::y) U] [] [] pos) (aaG X.K i B tb th):=by
 have G:=(A .none).mono;have b:=(z [] (λ_ _=>True) (λ_ _ _ _=>False) λ_ _ _ _ _ _ _ _=>trivial).mono;refine⟨λP Q I M w q=>b _ _ _ _ _ _ (λe kh o q=>⟨q.1,G _ _ _ _ ?_ q.2⟩) w q,PS.weak (TU (tb:=λa=>lSX X.K a tb) (th:=lS X.K th) jL IK Y hi hk ME hf hg hm qW (λpn m a hp=>(z pn m a hp).p) λe=>(A e).p) λD σ H q=>?_⟩
 ·exact⟨λ_ _ q=>w.nx _ _ q,w.rt,λ_ _ q=>w.bk _ _ q,λ_ _ q=>w.ct _ _ q⟩
 ·obtain⟨F,α,I,M,r,q⟩:=q;refine⟨F,α,I,M,r,b _ _ _ _ _ _ (λex kh o ⟨sub,q⟩ i7 s H' od u e1 r1 l xd rp=>⟨ex.C,ex.ns.zip u,rfl,sub,xd,λx hx nc=>?_⟩) (jW.le.refl _) q⟩;obtain⟨o2,e2,TF⟩:=r1.ok.IM (c:=ex.C) hx xd nc;have rx:Rep X.K s (i0 F s o (VN H' x ex.C od (ex.ns.zip u))) (.exc ex.C ex.ns ex.ds) (.ref x):=by unfold Rep;exact⟨x,u,rfl,TF,l,e2.zU rp⟩
  refine⟨F,s,_,o,(r1.grow e2 o2).set rx,G _ _ _ _ ?_ q⟩;have YW:=e1.trans e2;exact⟨λJ L q O f g e3 h=>q _ f g (YW.trans e3) (h.unset i),vK.grow YW,λJ L q O f g e3 h=>q _ f g (YW.trans e3) (h.unset i),λJ L q O f g e3 h=>q _ f g (YW.trans e3) (h.unset i)⟩
end
end L3
namespace L2
open PySem PySem.Spec PyProof.Rows
inductive TC(gH:Hp)(P:Hp->Prop):Hp->Prop
 |base {H:Hp}:P H->TC gH P H
 |Fq {H:Hp} {a:aj} {o:bS} {ik:List (Key×V)}:H a=aa (.wF o (.dK ik))->(∀o u,gH a≠aa (.wF o u))->TC gH P (upd H a (.dK ik))->TC gH P H
abbrev zo(gH:Hp)(E:XK):XK:=λC od=>TC gH (E C od)
theorem TC.th{X:Cx}{P:Hp->Prop}{H:Hp}(h:TH X (TC X.gH P) H):TC X.gH P H:=by
 rcases h with h|⟨a,o,b,e,n,h⟩
 ·exact h
 ·exact .Fq e n h
section
variable {P:aJ} {w:bj}
theorem PX{outer:List eH}{H:Hp}{s:ai}{E:XK}{e:af}{f:ai}(h:Tw P w outer H s (zo H E) e f):Tw P w outer H s E e f:=by
 obtain⟨x,C,od,U,T,rfl,y,A,u,iJ,B,g,G,i,j,I⟩:=h;induction I with
 |base h=>exact⟨x,C,od,_,T,rfl,y,A,u,iJ,B,g,G,i,j,h⟩
 |@Fq H1 a o J ha L _ M=>
  have l:∀b,H1 b=ao->b≠a:=λb h z=>by rw[z,ha] at h;cases h
  refine M ⟨u.keep,u.slot,λb o q n g=>?_,u.there,λb xs q=>?_,λb o p q=>?_,λb N q=>?_⟩ (λb ob q=>?_) (by rw[gF (l _ i)];exact i) (by rw[gF (l _ j)];exact j)
  ·have:=u.free b o q n g;rw[gF (l b this)];exact this
  ·have:=u.wG b xs q;rw[gF λz=>by rw[z,ha] at this;cases this];exact this
  ·have:=u.uP b o p q;rw[gF λz=>L o p (by rw[<-z];exact q)];exact this
  ·obtain⟨m,e⟩:=u.wH b N q;exact⟨m,by rw[gF λz=>by rw[z,ha] at e;cases e];exact e⟩
  ·by_cases z:b=a
   ·subst z;rw[gW] at q;cases q;obtain⟨_,z,hd,O,r,ob,es,Q,e,c⟩:=(show iN P w H1 f.heap b (.wF o (.dK J)) from iJ b _ ha);exact⟨z,hd,O,r,ob,es,Q,e,c⟩
   ·rw[gF z] at q;refine(iJ b ob q).sL (λc v _ r=>r) (λc r=>?_) (λc xs r=>?_)
    ·rw[gF λz=>by rw[z,ha] at r;cases r];exact r
    ·rw[gF λz=>by rw[z,ha] at r;cases r];exact r
variable {K:W.Frag} {mg:ay->Option af} {base:ar}
theorem ky.Fq{k:Nat}{f:aj}{fd:cn}{b:List ay}{sp c:Sp}(F:ky P w K mg base (Tw P w) k f fd b c)(h:∀a H Q E,sp a H Q E->c a H Q (zo H E)):ky P w K mg base (Tw P w) k f fd b sp:=
 ⟨λa H Q E q=>F.len _ _ _ _ (h _ _ _ _ q),λA outer s H args us a Q E i j l r q=>cX (F.run A outer s H args us a Q (zo H E) i j l r (h _ _ _ _ q)) λr m g=>by
  cases r with
  |error e=>exact PX g
  |ok fl=>cases fl<;>exact g⟩
end
end L2
namespace L3
open PySem PySem.Spec PyProof.Rows L2
section
variable {P:aJ} {w:bj} {K:W.Frag} {mg:ay->Option af} {base:ar}
theorem PY{x:ay}{st:bH}{N a:List ay}{k:Nat}{body:List bH}{scope:cx}{tb:XB}(F:gX K mg x st)(n:iF st=body)(es:hZ st=scope)(S:gU N a scope)
(p:∀(kV doc pm:af) (an:Option aj) (iE ct:af) (us:List af),us.length=a.length->eP (W.fnOf x x (jT st) (iF st) (hZ st) .none kV doc pm an iE ct) ⟨us,[]⟩=pure (a.zip us))
(i:∀(f:aj) (iE:af) (A:ba) (outer:List eH) (s:ai) (H:Hp) (E:XK),jR k (A.deeper (dZ x scope s.heap.objs.size f iE))->R8 (jM P w K mg base N x scope f iE A outer s H (zo H E)) (λ_=>zo H E) body tb):
  zf P w K mg base (k+1) x a (Gb K (BJ N.length a.length tb)):=by
 have u:zf P w K mg base (k+1) x a (λc H Q g=>∃E,g=zo H E/\Gb K (BJ N.length a.length tb) c H Q E):=
  F.acz n es S p (λc H Q g ⟨E,_,F,α,M,ds,o,r,hn,v,q⟩=>by rw[<-gA.length _ _ r];exact v) λf iE A outer s H c Q g j ⟨E,e,F,α,M,ds,o,r,hn,q⟩=>by subst e;exact TY (ps:=a) (i f iE A outer s H E j) rfl ⟨F,α,M,ds,o,r,hn,MW (i f iE A outer s H E j).mono _ _ _ _ _ (λ_ q=>q) (λex q y od ws e1 o1 l xd z=>.base (q y od ws e1 o1 l xd z)) q⟩
 obtain⟨f,fd,m,kp,b,B⟩:=u;exact⟨f,fd,m,kp,b,B.Fq λc H Q E h=>⟨E,rfl,h⟩⟩
end
section
variable {X:Cx} {E:XS} {e:bh} {pos:c7}
noncomputable def T0(a:DI)(g:DG)(tb:XB):XB:=λx=>uS a g (tb x)
theorem yf{g:DG}{tb:XB}{st:Ms->Prop}(f:∀d b M (P Q:kF->Ms->Prop),(∀b M,P b M->Q b M)->g d b M P->g d b M Q)(h:∀(x y:vL) (P Q:jW) b M,x.le y->P.le Q->tb x P b M->tb y Q b M){x y:vL}(v:x.le y){P Q:jW}(w:P.le Q):∀xs b M,nV g (tb x) st P xs b M->nV g (tb y) st Q xs b M
 |[],b,M,q=>w.nx _ _ q
 |z::xs,b,M,q=>f _ _ _ _ _ (λi M1 q=>h x y {P with nx:=λc a=>st a/\nV g (tb x) st P xs c a,ct:=λc a=>st a/\nV g (tb x) st P xs c a,bk:=P.nx} {Q with nx:=λc a=>st a/\nV g (tb y) st Q xs c a,ct:=λc a=>st a/\nV g (tb y) st Q xs c a,bk:=Q.nx} _ _ v ⟨λc a q=>⟨q.1,yf f h v w xs c a q.2⟩,w.rt,w.nx,λc a q=>⟨q.1,yf f h v w xs c a q.2⟩⟩ q) q
theorem DM{tg:bh}{body:List bH}{ti:DI}{g:DG}{tb:XB}(hi:JI X tg e ti)(Y:JG X tg g)(hb:R8 X E body tb)(hE:∀σ C od H,TH X (E σ C od) H->E σ C od H)(hp:act (model X.prog X.w) X.A X.env X.xe)(hc:X.calm=ah:=by rfl)
(hs:∀x,cy e X.env x=pure x:=by intro _;rfl):R7 X E (.For tg e body [] pos) (T0 ti g tb):=by
 refine⟨λx y P Q B M v w q=>hi.mono B _ _ _ (λitems st M1 q=>⟨q.1,yf Y.mono hb.mono v w _ _ _ q.2⟩) q,sX (Og hp hc hi.p Y.p hb.p hs) λD σ H q=>?_⟩;obtain⟨F,α,B,M,r,q⟩:=q;refine⟨F,α,B,M,r,hi.mono B _ _ _ (λitems st M1 q J ip H1 Hf T e1 o1 z it=>?_) q⟩;obtain⟨s1,q⟩:=q;refine⟨λi m i7 o=>m=items.length- i/\i<=items.length/\∃n N f,Ext F ip Hf M1 n o f/\R X.K F n o i7 N f/\st f/\nV g (tb (xK X.K F α H M E)) st (mE X.K F α H M D) (items.drop i) N f,⟨_,rfl,bJ _,ip,B,M1,Ext.refl,z.rs (r.grow e1 o1),s1,q⟩,?_⟩
 rintro i m i7 o ⟨rfl,hi',n,N,f,e',u,s',O⟩
 by_cases U:i<items.length
 ·rw[cb U] at O;refine .inr ⟨it.go i F n o f e'.pre e'.same u.ok s' U,λCb G=>∃pM Mv M2,Ext F ip Hf M1 pM G M2/\R X.K F pM G Cb Mv M2/\st M2/\nV g (tb (xK X.K F α H M E)) st (mE X.K F α H M D) (items.drop (i+1)) Mv M2,λCb G h=>⟨_,by omega,rfl,U,h⟩,λx G y=>?_⟩;obtain⟨o2,e2,rx⟩:=it.Sl i F n o f x G items[i] e'.pre e'.same u.ok s' (by simp[U]) y;refine⟨F,n,N,f,items[i],u.grow e2 o2,rx,Y.mono _ _ _ _ _ (λHN M3 q3 NT zX H3 e3 r3=>⟨F,zX,HN,M3,r3,hb.mono _ _ _ _ _ _ ?ex ?le q3⟩) O⟩;case ex=>
   have uu:=(e'.trans e2).trans e3;intro ex I c s L a b od vs e4 j l xd rp;obtain⟨t1,t2,t3⟩:=z.e a b c (uu.trans e4) j.ok;refine hE _ _ _ _ (z.h a b c _ (uu.trans e4) (s L a (T b) od vs (e1.trans t1) (z.rt (uu.trans e4) j) l ?_ (gA.imp t3 _ _ rp)));cases od with
   |none=>exact xd
   |some dx=>exact z.k a b c dx _ (uu.trans e4) xd
  case le=>
   have uu:=(e'.trans e2).trans e3;refine⟨λI c s L a b e4 j=>⟨a,I,c,uu.trans e4,j,s⟩,λd c s v a b e4 o4 j=>?_,λI c s L a b e4 j=>?_,λI c s L a b e4 j=>⟨a,I,c,uu.trans e4,j,s⟩⟩
   ·obtain⟨t1,t2,t3⟩:=z.e a b c (uu.trans e4) o4;exact z.h a b c _ (uu.trans e4) (s v a (T b) (e1.trans t1) t2 (t3 d v j))
   ·obtain⟨t1,_,_⟩:=z.e a b c (uu.trans e4) j.ok;exact z.h a b c _ (uu.trans e4) (s L a (T b) (e1.trans t1) (z.rt (uu.trans e4) j))
 ·have e:i=items.length:=by omega
  subst e;rw[dU] at O;obtain⟨t1,_,_⟩:=z.e n o f e' u.ok;exact .inl ⟨it.stop F n o f e'.pre e'.same u.ok s',z.h n o f _ e' (O i7 n (T o) (e1.trans t1) (z.rt e' u))⟩
end
end L3
namespace L2
open PySem PySem.Spec PyProof.Rows
def zg (h:ar)(e:aj)(cls:af)(od:Option aj)(T:aj):Prop:=
 ∃a b c f v,h.get? e=aa a/\a.cls=cls/\a.dict=od/\a.data=.fields b/\b[1]?=aa (.ref T)/\T≠e/\h.get? T=aa c/\c.data=.fields f/\f[3]?=aa v
theorem Rec.any{h:ar}{e:aj}{cls:af}{od:Option aj}{T:aj}(r:Rec h e cls od T):zg h e cls od T:=by obtain⟨a,b,c,f,g,i,j,l,m,n,o,p,q⟩:=r;exact⟨a,b,c,f,.none,g,i,j,l,m,n,o,p,q⟩
section
variable {M:ael} {A:ba} {E:af->ai->Prop} {s:ai}
theorem Au{e T:aj}{cls:af}{od i:Option aj}{Q:Unit->ai->Prop}(w:zg s.heap e cls od T)
(h:∀c,zg c e cls od T->(i=ao->Rec c e cls od T)->Left [] [T] s.heap c->Q () {s with heap:=c}):wpAny M A (ade (.ref e) i) Q E s:=by
 obtain⟨n,p,B,C,v,j,r,u,hd,l,g,m,a,x⟩:=w;unfold ade;refine ag (bV j hd l ?_);rw[if_pos (show(aN T !=bC)=ah from by simp)];have lt:=(bW.mp x).1;refine cL m a lt (h _ ?_ (λz=>?_) λb o e y=>?_)
 ·exact⟨n,p,_,_,_,(bv _ _ g).trans j,r,u,hd,l,g,bY _ m (ci (bQ a _)),bQ a _,by simp[eU,lt];rfl⟩
 ·subst z;exact⟨n,p,_,_,(bv _ _ g).trans j,r,u,hd,l,g,bY _ m (ci (bQ a _)),bQ a _,by simp[eU,lt]⟩
 ·have:b≠T:=λz=>y (by simp[z]);have q:=(bv s.heap (bF (·.setIfInBounds 3 (i.elim bC λf=>de f))) (bU this)).trans e;exact⟨λ_=>q,o.slots,q⟩
theorem XI{base:ar}{env:eH}{outer:List eH}{L e:aj}{f:bS}{m:Array af}{head:af}{y:Bool}{Q:Unit->ai->Prop}
(B:A.frames=aa (env::outer))(p:s.heap.FunFrames base (env::outer)){C:eH}(G:env.frame=aa L)(H:C.frame=aa L)
(q:s.heap.get? e=aa f)(hd:f.data=.fields m)(r:1<m.size)
(h:∀n T,s.heap.objs.size<=T->zg n e f.cls f.dict T->Left (qT (env::outer)) [e] s.heap n->Q () {s with heap:=n}):
  wpAny M A (do let a<-frameOf env;let pl<-entryPlaceOf L y;let b<-eJ head a .none (de L) .none pl;setField (.ref e) 1 b) Q E s:=by
 have I:e∉(env::outer).filterMap (·.frame):=λhm=>by obtain⟨_,o,g,J⟩:=p.mem hm;rw[q] at g;injection g with g;subst g;exact J m hd
 refine ag (aeR B p G λc i=>?_);refine ag (aeD λpl N=>?_);unfold eJ newFields;refine ag (cm ?_ (N.sizeOk5 _ _ _ _ _));have u:c.get? e=aa f:=(i.2.1 e I).trans q;have v:=ak (h:=c) {cls:=.type "traceback",dict:=ao,data:=.fields ([head,.ref L,.none,de L,.none]++(if pl.isEmpty then aw 6 bC else pl)).toArray} u;have w:c.objs.size≠e:=c9 (aD u);have x:=bQ hd (·.setIfInBounds 1 (aN c.objs.size));have O:=bY (bF (·.setIfInBounds 1 (aN c.objs.size))) v (ci x);have U:=(bv (c.push {cls:=.type "traceback",dict:=ao,data:=.fields ([head,.ref L,.none,de L,.none]++(if pl.isEmpty then aw 6 bC else pl)).toArray})
  (bF (·.setIfInBounds 1 (aN c.objs.size))) (bU w)).trans (aQ c rfl)
 refine cL v hd r (h _ c.objs.size ?_ ?_ λb o j hn=>?_)
 ·exact fk i.1.symm
 ·exact⟨_,_,_,_,de L,O,bS.cls_mapFields _ _,tG _ _,x,by simp[r],w,U,rfl,by simp⟩
 ·have l:b≠e:=λz=>hn (by simp[z]);have keep:∀b o,b≠e->c.get? b=aa o->((c.push {cls:=.type "traceback",dict:=ao,data:=.fields ([head,.ref L,.none,de L,.none]++(if pl.isEmpty then aw 6 bC else pl)).toArray}).update e (bF (·.setIfInBounds 1 (aN c.objs.size)))).get? b=aa o:=λb o l j=>by rw[bv _ _ (bU l)];exact ak _ j
  obtain⟨sl,Y⟩:=i.2.2 b o j;exact⟨λhS=>keep b o l ((i.2.1 b hS).trans j),sl,keep b _ l Y⟩
theorem IQ{env a:eH}(h:a.frame=env.frame):PySem.frameOf a=PySem.frameOf env:=by unfold PySem.frameOf;rw[h]
theorem Left.refl{S R:List aj}{h:ar}:Left S R h h:=λb o e _=>⟨λ_=>e,o.slots,e⟩
theorem VP{base:ar}{env r:eH}{outer:List eH}{L e a:aj}{cls:af}{od:Option aj}{Q:Unit->ai->Prop}
(C:A.frames=aa (env::outer))(G:s.heap.FunFrames base (env::outer))(l:env.frame=aa L)(f:r.frame=aa L)(j:zg s.heap e cls od a)
(h:∀g T,(T=a\/s.heap.objs.size<=T)->zg g e cls od T->Left (qT (env::outer)) [e,a] s.heap g->Q () {s with heap:=g}):wpAny M A (fP (.ref e) r) Q E s:=by
 have H:=j;obtain⟨U,u,Y,I,v,w,rfl,rfl,hd,x,J,m,n,y⟩:=j;unfold fP;rw[IQ (f.trans l.symm)];simp only [f];refine ag (bV w hd x ?_);rw[if_pos (show(aN a !=bC)=ah from by simp)];refine ag (bV m n y ?_);by_cases B:(v==de L)=ah
 ·rw[if_pos B];exact aq (h s.heap a (.inl rfl) H Left.refl)
 rw[if_neg B];refine ag (cL m n (bW.mp y).1 ?_);have other:∀b,b≠a->(s.heap.update a (bF (·.setIfInBounds 3 bC))).get? b=s.heap.get? b:=λb c=>bv _ _ (bU c);have N:∀b o,s.heap.get? b=aa o->(∀u,o.data≠.fields u)->b≠a:=λb o c p q=>by rw[q,m] at c;injection c with c;subst c;exact p I n
 refine XI (s:={s with heap:=s.heap.update a (bF (·.setIfInBounds 3 bC))}) C (G.of_keeps λb o c p=>⟨o,(other b (N b o c p)).trans c,rfl⟩) l l ((other e (bU J)).trans w) hd (bW.mp x).1
  λg T hn j O=>h g T (.inr ?_) j λb o c i=>?_
 ·have e:=ar.size_after_update s.heap a (bF (·.setIfInBounds 3 bC));have hn:(s.heap.update a (bF (·.setIfInBounds 3 bC))).objs.size<=T:=hn;rw[e] at hn;exact hn
 ·exact O b o ((other b λz=>i (by simp[z])).trans c) λz=>i (by simp at z;simp[z])
theorem T2{α:Type}{c:String}{f:eH}{e T:aj}{cls:af}{od:Option aj}{Q:α->ai->Prop}(b:zg s.heap e cls od T)
(h:∀a,zg a e cls od T->Left [] [T] s.heap a->E (.ref e) {s with heap:=a}):wpAny M A (PySem.passOn c (.ref e) f:aey α) Q E s:=by have g:=b;obtain⟨n,o,p,q,v,i,rfl,rfl,hd,j,r,u,w,x⟩:=b;unfold PySem.passOn;refine ag (bV i hd j ?_);rw[if_neg (show¬((aN T==bC)=ah) from by simp)];refine ag (Au g λa l _ m=>?_);exact wpAny_throw (h a l m)
end
section
variable {P:aJ} {w:bj} {K:W.Frag} {mg:ay->Option af} {base:ar} {N:List ay} {qual:ay} {scope:cx} {f:aj} {cd:af} {A:ba} {outer:List eH} {gJ:ai} {gH:Hp} {E:XK}
theorem Inv.aaH{X:Cx}{pins:List (aj×bS)}{σ:St}{H:Hp}{s:ai}{R:List aj}{a:ar}(I:Inv X pins σ H s)(h:∀b∈R,NX X pins b/\H b=ao)(c:Left [] R s.heap a):Inv X pins σ H {s with heap:=a}:=
 I.F7 (t':=s.toks) h λb o e g=>⟨λ_=>(c b o e g).1 (by simp),(c b o e g).2⟩
theorem XJ{pins:List (aj×bS)}{σ:St}{H:Hp}{s:ai}{x T:aj}{C:af}{od:Option aj}(I:Inv (jM P w K mg base N qual scope f cd A outer gJ gH E) pins σ H s)
(y:zg s.heap x C od T)(n:NX (jM P w K mg base N qual scope f cd A outer gJ gH E) pins x)(p:H x=ao)(q:NX (jM P w K mg base N qual scope f cd A outer gJ gH E) pins T)(r:H T=ao)(z:E C od H):(jM P w K mg base N qual scope f cd A outer gJ gH E).xe (.ref x) s:=by
 show wpAny _ _ (leaving _ _) _ _ _;unfold leaving;refine ag (VP (base:=base) I.ok.frames I.stack rfl rfl y λv g h j l=>?_);have i:NX (jM P w K mg base N qual scope f cd A outer gJ gH E) pins g/\H g=ao:=by
  rcases h with rfl|h
  ·exact⟨q,r⟩
  ·exact⟨I.F6 h,I.iJ.fresh h⟩
 have B:=I.F7 (t':=s.toks) (R:=[x,T]) (h':=v) (λb a=>by
  rcases az.mp a with rfl|a
  ·exact⟨n,p⟩
  ·cases bP.mp a;exact⟨q,r⟩) l
 refine Au (s:={s with heap:=v}) j λJ _ m c=>?_;obtain⟨u,iJ⟩:=B.left rfl (R:=[g]) (h':=J) (λb a=>by cases bP.mp a;exact⟨cA i.1.s0,i.2⟩) λb o e a=>⟨λ_=>(c b o e a).1 (by simp),(c b o e a).2⟩;exact⟨x,C,od,H,g,rfl,I.os,I.bare,u,iJ,m rfl,n.s0,i.1.s0,p,i.2,z⟩
end
end L2
namespace L2
open PySem PySem.Spec PyProof.Rows
section
variable {X:Cx} {N:List ay} {fr:List (Option Nat)} {scope:cx} {elt target iter:bh} {ifs:List bh} {wi:TI} {g:TG} {tt:TT} {te:TE} {pos:c7} {Ex:XS}
theorem IS(c:iu X N fr scope)(ng:X.calm=ah)(hi:PI X target iter wi)
(hg:∀C ex pins gJ gH L,PG (nK X scope N C ex pins gJ gH L) target g)
(ht:∀C ex pins gJ gH L,SQ (nK X scope N C ex pins gJ gH L) ifs tt)
(he:∀C ex pins gJ gH L,l9 (nK X scope N C ex pins gJ gH L) Ex->PE (nK X scope N C ex pins gJ gH L) elt te)
{pins:List (aj×bS)}{s:ai}{σ:St}{H:Hp}{Q:VK}{R:af->aj->fS->ai->Prop}(I:Inv X pins σ H s)(h:zR fr wi g tt te σ H Q)
(ke:∀p C m f B,Inv X pins σ B f->nO X pins B C->f.heap.Ns C m->Q (.ref p) B->R (.ref p) C (.ok .next) f)
(err:∀p (l:List aj) s3 H3,Inv X pins σ H3 s3->(∀b∈l,nO X pins H3 b)->l9 (nK X scope N s3.heap.objs.size l pins s3 H3 (dR (model X.prog X.w) X.A (d6 scope (nP X.env scope.names []) s3.heap.objs.size X.env) λe f=>R (.ref p) s3.heap.objs.size (.error e) f)) Ex):
  wpAny (model X.prog X.w) X.A (eval iter X.env) (λx iW=>wpAny (model X.prog X.w) X.A (adn x) (λit BB=>wpAny (model X.prog X.w) X.A (aeM []) (λacc xS=>
   wpAny (model X.prog X.w) X.A (afa scope X.env.globals (nP X.env scope.names []) [] X.env.qual ao .none (aa X.env)) (λMq Mp=>
    codeAny (model X.prog X.w) X.A (.compStart (.ListComp elt [⟨target,iter,ifs,0⟩] scope pos) 0 it acc {Mq with scope:=relabel scope X.env}) (R acc Mq.locals) Mp) X.xe xS) X.xe BB) X.xe iW) X.xe s:=by
 refine jz (hi pins s σ H _ I h) λv s1 h1=>jz h1 λitv s2 h2=>?_;obtain⟨it,l,tn,J,E,e,I2,T,Wm,f2,h2⟩:=h2;subst e;have OI:∀b∈l,b<s2.heap.objs.size:=λb j=>by obtain⟨o,e,_⟩:=T.obj _ _ Wm b j;exact aD e
 have hp0:E s2.heap.objs.size=ao:=I2.fresh;obtain⟨W,⟨m0,w0⟩,turn⟩:=h2 _ hp0;refine cm ?_;generalize hs3:({s2 with heap:=s2.heap.push {cls:=.type "list",dict:=ao,data:=.seq ([]:List af).toArray}}:ai)=s3;have Io:s3={s2 with heap:=s2.heap.push {cls:=.type "list",data:=.seq ([]:List af).toArray},toks:=s2.toks}:=hs3.symm;have M:Inv X pins σ (upd E s2.heap.objs.size (.lst [])) s3:=by rw[Io];exact I2.SI .nil (bJ _)
 have sz3:s3.heap.objs.size=s2.heap.objs.size+1:=by rw[Io];exact bG ..
 have nep:∀b∈l,b≠s2.heap.objs.size:=λb j=>bn (OI b j);have Y:∀b∈l,nO X pins (upd E s2.heap.objs.size (.lst [])) b:=λb j=>⟨by rw[gF (nep b j)];exact(f2 b j).1,(f2 b j).2⟩;have YJ:tn 0 s3.heap:=T.keep _ _ _ Wm λb j o e=>by rw[Io];exact ak _ e
 refine aeo c.cell (by intro y hy;simp at hy) (λh4 ZT OJ=>?_) c.kind;try dsimp only at ZT OJ ⊢
 have k4:∀b o,s3.heap.get? b=aa o->h4.get? b=aa o:=λb o e=>OJ.extBut b o (bn (aD e)) (ak _ e);have Fm:∀b∈l,b<s3.heap.objs.size:=λb j=>by rw[sz3];exact dO (OI b j)
 have I4:Inv (nK X scope N s3.heap.objs.size l pins s3 (upd E s2.heap.objs.size (.lst [])) (dR (model X.prog X.w) X.A (d6 scope (nP X.env scope.names []) s3.heap.objs.size X.env) λe f=>R (.ref s2.heap.objs.size) s3.heap.objs.size (.error e) f)) [] (slots fr σ) (upd E s2.heap.objs.size (.lst [])) {s3 with heap:=h4,toks:=s3.toks+([]:List (ay×af)).length}:=M.block c Y Fm ZT k4;have ZU:tn 0 h4:=T.keep _ _ _ YJ λb j o e=>k4 b o e;have zI:∀{B:Hp},(∀b∈l,B b=ao)->∀b∈l,nO (nK X scope N s3.heap.objs.size l pins s3 (upd E s2.heap.objs.size (.lst [])) (dR (model X.prog X.w) X.A (d6 scope (nP X.env scope.names []) s3.heap.objs.size X.env) λe f=>R (.ref s2.heap.objs.size) s3.heap.objs.size (.error e) f)) [] B b:=λ{B} hn b j=>by
  obtain⟨g0,g1,g2,g3,g4,g5⟩:=Y b j;refine⟨hn b j,bn (Fm b j),λz=>?_,.inl j,λx a e=>g4 x a (M.OH c e),λp hp=>?_⟩
  ·rcases az.mp (M.sM b z) with z|z
   ·exact g1 z
   ·exact g2 z
  ·rw[br] at hp;exact g5 p hp
 have loop:∀s5:ai,s5={s3 with heap:=h4,toks:=s3.toks+([]:List (ay×af)).length}->codeAny (model X.prog X.w) X.A (.compLoop (.ListComp elt [⟨target,iter,ifs,0⟩] scope pos) 0 (.ref it) (.ref s2.heap.objs.size) (d6 scope (nP X.env scope.names []) s3.heap.objs.size X.env)) (R (.ref s2.heap.objs.size) s3.heap.objs.size) s5:=by
  rintro s5 rfl
  refine m9 (λn f=>∃i G i7 B,Inv (nK X scope N s3.heap.objs.size l pins s3 (upd E s2.heap.objs.size (.lst [])) (dR (model X.prog X.w) X.A (d6 scope (nP X.env scope.names []) s3.heap.objs.size X.env) λe f=>R (.ref s2.heap.objs.size) s3.heap.objs.size (.error e) f)) [] i7 B f/\tn i f.heap/\(∀b∈l,B b=ao)/\W i n G i7 B) ?_ m0
   ⟨0,[],slots fr σ,_,I4,ZU,λb j=>(Y b j).1,w0⟩
  rintro n s6 ⟨i,G,Md,H6,I6,ZV,ZW,w6⟩
  rcases turn i n G Md H6 w6 with⟨stop,q⟩|⟨go,Nx,hN,step⟩
  ·refine jz (T.done (nK X scope N s3.heap.objs.size l pins s3 (upd E s2.heap.objs.size (.lst [])) (dR (model X.prog X.w) X.A (d6 scope (nP X.env scope.names []) s3.heap.objs.size X.env) λe f=>R (.ref s2.heap.objs.size) s3.heap.objs.size (.error e) f)) rfl rfl rfl ng i [] s6 Md H6 _ I6 (zI ZW) ZV stop) λr s7 ⟨hr,I7⟩=>?_;subst hr;obtain⟨m7,n7,_⟩:=I7.loc;exact ke _ _ m7 s7 H6 (M.unblock Y I7) (M.C6 (bf _) I7.free) n7 q
  ·refine jz (T.item (nK X scope N s3.heap.objs.size l pins s3 (upd E s2.heap.objs.size (.lst [])) (dR (model X.prog X.w) X.A (d6 scope (nP X.env scope.names []) s3.heap.objs.size X.env) λe f=>R (.ref s2.heap.objs.size) s3.heap.objs.size (.error e) f)) rfl rfl rfl ng i [] s6 Md H6 _ I6 (zI ZW) ZV go) λr s7 ⟨u,hr,h7⟩=>?_;subst hr;refine jz h7 λ_ s8 ⟨x,H8,I8,r8,y8,WS,fr8⟩=>?_;have I8':=I8.pinned (zI fr8) (T.obj _ _ WS);refine cj (hg _ _ _ _ _ _ _ s8 Md H8 x u _ I8' r8 (step x H8 y8)) (λ_ s9 ⟨SU,H9,I9,q9⟩=>?_) λ_ _ z=>z;refine cj (ht _ _ _ _ _ _ _ s9 SU H9 _ I9 q9) (λb s10 ⟨H10,ZX,SV⟩=>?_) λ_ _ z=>z;have again:∀{O:ai} {Dh:St} {U:Hp} {RZ:List V},Inv (nK X scope N s3.heap.objs.size l pins s3 (upd E s2.heap.objs.size (.lst [])) (dR (model X.prog X.w) X.A (d6 scope (nP X.env scope.names []) s3.heap.objs.size X.env) λe f=>R (.ref s2.heap.objs.size) s3.heap.objs.size (.error e) f)) ([]++xN l s8.heap) Dh U O->Nx RZ Dh U->∃m,m<n/\∃i G i7 B,Inv (nK X scope N s3.heap.objs.size l pins s3 (upd E s2.heap.objs.size (.lst [])) (dR (model X.prog X.w) X.A (d6 scope (nP X.env scope.names []) s3.heap.objs.size X.env) λe f=>R (.ref s2.heap.objs.size) s3.heap.objs.size (.error e) f)) [] i7 B O/\tn i O.heap/\(∀b∈l,B b=ao)/\W i m G i7 B:=λ{O Dh U RZ} OL n11=>by obtain⟨m',hm,w11⟩:=hN _ _ _ n11;refine⟨m',hm,i+1,RZ,Dh,U,OL.sO,T.keep _ _ _ WS λb j o e=>(OL.pin (b,o) (bu _ (bu _ (mH j e)))).1,λb j=>?_,w11⟩;obtain⟨o,e,d⟩:=T.obj _ _ WS b j;exact(OL.pin (b,o) (bu _ (bu _ (mH j e)))).2.1
   cases b with
   |false=>
    rw[if_neg au] at SV ⊢;exact again ZX SV
   |true=>
    rw[if_pos rfl] at SV ⊢;refine cj (he _ _ _ _ _ _ (err _ _ _ _ M Y) _ s10 SU H10 _ ZX SV) (λu11 O ⟨WT,U,OL,r11,WU,WV,q11⟩=>?_) λ_ _ z=>z;refine cj (xR (X:=nK X scope N s3.heap.objs.size l pins s3 (upd E s2.heap.objs.size (.lst [])) (dR (model X.prog X.w) X.A (d6 scope (nP X.env scope.names []) s3.heap.objs.size X.env) λe f=>R (.ref s2.heap.objs.size) s3.heap.objs.size (.error e) f)) _ O SU U (.ref s2.heap.objs.size) [WT] (.ref s2.heap.objs.size) [u11] (λ_ B=>Nx (G++[WT]) SU B) OL rfl (.cons r11 .nil) ⟨_,G,WT,rfl,rfl,WU,WV,q11⟩) (λ_ s12 ⟨_,H12,I12,_,q12⟩=>?_) λ_ _ z=>z;exact again I12 q12
 exact aeg (loop _ rfl) (T.self X.A 0 _ _ _ ZU (loop _ rfl))
end
section
variable {P:aJ} {w:bj} {K:W.Frag} {mg:ay->Option af} {base:ar} {iA:List ay} {qual:ay} {gN:cx} {f:aj} {cd:af} {A:ba} {outer:List eH} {gJ:ai} {gH:Hp} {E:XK}
theorem zg.but{h a:ar}{e:aj}{cls:af}{od:Option aj}{T C:aj}(r:zg h e cls od T)(b:b7 C h a)(c:e≠C)(g:T≠C):zg a e cls od T:=by obtain⟨i,j,l,m,v,a1,a2,a3,a4,a5,a6,a7,a8,a9⟩:=r;exact⟨i,j,l,m,v,(b.2 e c).trans a1,a2,a3,a4,a5,a6,(b.2 T g).trans a7,a8,a9⟩
theorem MY{pins:List (aj×bS)}{σ:St}{p:Hp}{s3:ai}{B:List aj}{scope:cx}{N:List ay}{use:Option (af->aey Unit)}{Q:af->ai->Prop}{acc:af}(h:Inv (jM P w K mg base iA qual gN f cd A outer gJ gH E) pins σ p s3)(G:∀b∈B,nO (jM P w K mg base iA qual gN f cd A outer gJ gH E) pins p b):
  l9 (nK (jM P w K mg base iA qual gN f cd A outer gJ gH E) scope N s3.heap.objs.size B pins s3 p (dR (model P w) (jM P w K mg base iA qual gN f cd A outer gJ gH E).A (d6 scope (nP (jM P w K mg base iA qual gN f cd A outer gJ gH E).env scope.names []) s3.heap.objs.size (jM P w K mg base iA qual gN f cd A outer gJ gH E).env)
   λe i=>aep (model P w) (jM P w K mg base iA qual gN f cd A outer gJ gH E).A (jM P w K mg base iA qual gN f cd A outer gJ gH E).xe use Q acc s3.heap.objs.size (.error e) i)) λ_=>E:=by
 intro wI Sj H1 s1 e i n hc;obtain⟨x,C,od,H',T,rfl,ho,q,u,iJ,hr,H,I,L,M,hE⟩:=hc;have j:=n.yE (ch:=[]) ho u iJ q (λb c=>by cases c);have J:=h.unblock G j;have O:s3.heap.objs.size<=s1.heap.objs.size:=n.BG;have z2:s3.heap.objs.size<=i.heap.objs.size:=j.BG;have U:=n.F6 H;have Y:=n.F6 I;have fx:=h.F6 (aS O H);have fT:=h.F6 (aS O I);show wpAny _ _ (fP (.ref x) _) _ _ _;refine VP (base:=base) J.ok.frames J.stack rfl rfl hr.any λh1 o l r v=>?_;have g:=j.F7 (t':=i.toks) (R:=[x,T]) (h':=h1) (λb c=>by
  rcases az.mp c with rfl|c
  ·exact⟨U,L⟩
  ·cases bP.mp c;exact⟨Y,M⟩) v
 have J1:=h.unblock G g;have fC:=h.C6 (bf _) g.free;obtain⟨m,hn,_⟩:=g.loc;obtain⟨m0,y,_⟩:=j.loc;have a:NX (jM P w K mg base iA qual gN f cd A outer gJ gH E) pins o/\H' o=ao/\o≠s3.heap.objs.size:=by
  rcases l with rfl|l
  ·exact⟨fT,M,Y.lo⟩
  ·exact⟨h.F6 (aS z2 l),j.iJ.fresh l,λz=>absurd y.lt (by rw[<-z];exact Nat.not_lt.mpr l)⟩
 refine⟨m,hn,λh' OM Mq _=>?_⟩;have J2:=J1.KS fC OM;refine T2 (s:={({i with heap:=h1}:ai) with heap:=h'}) (r.but OM U.lo a.2.2) λh2 r2 l2=>?_;exact XJ (J2.aaH (R:=[o]) (λb c=>by cases bP.mp c;exact⟨a.1,a.2.1⟩) l2) r2 fx L a.1 a.2.1 hE
variable {N:List ay} {fr:List (Option Nat)} {scope:cx} {elt target iter:bh} {ifs:List bh} {wi:TI} {g:TG} {tt:TT} {te:TE} {pos:c7}
theorem PZ{i:Nat}{y:ay}{py Fn:c7}(c:iu (jM P w K mg base iA qual gN f cd A outer gJ gH E) N fr scope)(hi:PI (jM P w K mg base iA qual gN f cd A outer gJ gH E) target iter wi)
(r:∀C ex pins s H b,PG (nK (jM P w K mg base iA qual gN f cd A outer gJ gH E) scope N C ex pins s H b) target g)
(u:∀C ex pins s H b,SQ (nK (jM P w K mg base iA qual gN f cd A outer gJ gH E) scope N C ex pins s H b) ifs tt)
(z:∀C ex pins s H b,l9 (nK (jM P w K mg base iA qual gN f cd A outer gJ gH E) scope N C ex pins s H b) (λ_=>E)->PE (nK (jM P w K mg base iA qual gN f cd A outer gJ gH E) scope N C ex pins s H b) elt te)
(B:iA.Nodup)(G:iA[i]?=aa y)(J:Loc gN y)
(L:cN (.ListComp elt [⟨target,iter,ifs,0⟩] scope pos) (aa (.Name y py)) Fn.line (jM P w K mg base iA qual gN f cd A outer gJ gH E).env=pure ah:=by rfl)
(M:∀x,cy iter (jM P w K mg base iA qual gN f cd A outer gJ gH E).env x=pure x:=by intro _;rfl):PS (jM P w K mg base iA qual gN f cd A outer gJ gH E) (.Assign [.Name y py] (.ListComp elt [⟨target,iter,ifs,0⟩] scope pos) Fn) (Vq i (zR fr wi g tt te)):=by
 intro pins s σ H D I h;rw[aei _ _ _ _ L];refine ag (dh (ag ?_));show wpAny _ _ (do let _<-comprehension (.ListComp elt [⟨target,iter,ifs,0⟩] scope pos) scope (jM P w K mg base iA qual gN f cd A outer gJ gH E).env _ (aeM []) am (eval iter (jM P w K mg base iA qual gN f cd A outer gJ gH E).env) (aa (assign (.Name y py) (jM P w K mg base iA qual gN f cd A outer gJ gH E).env))) _ _ s;refine ag (jz (gm (use:=aa (assign (.Name y py) (jM P w K mg base iA qual gN f cd A outer gJ gH E).env)) (Q:=λ_ j=>SP (jM P w K mg base iA qual gN f cd A outer gJ gH E) pins D .next j) rfl M (p9 (I.KR c)) c.kind c.loc
  (IS (X:=jM P w K mg base iA qual gN f cd A outer gJ gH E) (R:=aep (model P w) (jM P w K mg base iA qual gN f cd A outer gJ gH E).A (jM P w K mg base iA qual gN f cd A outer gJ gH E).xe (aa (assign (.Name y py) (jM P w K mg base iA qual gN f cd A outer gJ gH E).env)) (λ_ j=>SP (jM P w K mg base iA qual gN f cd A outer gJ gH E) pins D .next j)) c rfl hi r u z I h (λp C m j O T l hn q=>?_) λp fp s3 H3 U Y=>MY U Y)) (λ_ j hq=>aq (aq hq)))
 show wpAny _ _ (assign (.Name y py) (jM P w K mg base iA qual gN f cd A outer gJ gH E).env (.ref p)) _ _ j;refine adH (uo (X:=jM P w K mg base iA qual gN f cd A outer gJ gH E) (v:=.ref p) T B G J rfl (λs2 I2 n=>?_) (.inl rfl));obtain⟨a,sb,ha⟩:=n;have o:C≠a:=by
  rcases ha with ha|ha
  ·rw[ha];exact l.2.1
  ·exactλe=>l.2.2.2.2.1 y a ha e.symm
 exact⟨m,hn.sameBut sb o,λh' OM=>⟨_,O,I2.KS l OM,q⟩⟩
end
end L2
namespace L3
open PySem PySem.Spec PyProof.Rows L2
section
variable {K:W.Frag} {F α:List aj} {H:Hp} {M:Ms} {σ:L2.St} {δ:kF} {p:aj}
theorem Gc:jA (i0 (p::F) α M H) (i0 F α M H):=λb x h=>by
 obtain⟨z,q⟩:=iL h;refine kT h (λw=>z ?_) q;rcases bp.mp w with w|w
 ·exact b8 _ w
 ·exact bu _ (av _ w)
theorem R.shown(a:p∉F)(r:R K (p::F) α H σ δ M){x:HO}(b:H p=aa x):R K F α H σ δ M:=by
 have o1:=r.ok.er a;obtain⟨o2,_⟩:=o1.laid (p:=p) (x:=x) zm;rw[WZ b] at o2;exact⟨o2,r.len,λi d h=>by obtain⟨v,c,e⟩:=r.sl i d h;exact⟨v,c,Rep.mono (aX _) Gc _ _ e⟩⟩
end
section
variable {X:Cx} {N:List ay} {fr:List (Option Nat)} {scope:cx} {elt target iter:bh} {ifs:List bh} {ti:DI} {g:DG} {tt:DT} {te:XE} {pos:c7} {E:XS}
theorem vM(c:∀d a M (P Q:kF->Ms->Prop),(∀a M,P a M->Q a M)->g d a M P->g d a M Q)(e:∀a M (P Q:Bool->Ms->Prop),(∀d M,P d M->Q d M)->tt a M P->tt a M Q)(f:∀(x y:vL) a M (P Q:DK),x.le y->(∀d M,P d M->Q d M)->te x a M P->te y a M Q)
{x y:vL}(v:x.le y){st:Ms->Prop}{P Q:List D->Ms->Prop}(w:∀l M,P l M->Q l M):∀xs acc a M,jX fr g tt (te x) st P xs acc a M->jX fr g tt (te y) st Q xs acc a M
 |[],acc,a,M,q=>w _ _ q
 |z::xs,acc,a,M,q=>by
  unfold jX qI at q ⊢;refine c _ _ _ _ _ (λh M1 q=>e _ _ _ _ (λb M2 q=>?_) q) q;cases b with
  |true=>
   rw[if_pos rfl] at q ⊢;exact f _ _ _ _ _ _ v (λd i q=>⟨q.1,q.2.1,vM c e f v w xs _ _ _ q.2.2⟩) q
  |false=>
   rw[if_neg au] at q ⊢;exact⟨q.1,vM c e f v w xs _ _ _ q.2⟩
theorem IT(hI:JI X target iter ti)(hg:∀d a M (P Q:kF->Ms->Prop),(∀a M,P a M->Q a M)->g d a M P->g d a M Q)(ht:∀a M (P Q:Bool->Ms->Prop),(∀d M,P d M->Q d M)->tt a M P->tt a M Q)(he:∀(x y:vL) a M (P Q:DK),x.le y->(∀d M,P d M->Q d M)->te x a M P->te y a M Q)
(Mw:∀d a M (P:kF->Ms->Prop),g d a M P->g d a M λlW M1=>lW.length=a.length/\P lW M1)(hE:∀σ C od H,TH X (E σ C od) H->E σ C od H){σ:L2.St}{H:Hp}{Q:VK}(h:∃F α a M,R X.K F α H σ a M/\iY fr ti g tt (te (xK X.K F α H M E)) a M (fK X.K F α H M Q)):zR fr (lI X ti) (lG X.K g) (lT X.K tt) (lEX X.K E te) σ H (λv=>TH X (Q v)):=by
 obtain⟨F,α,a,M,r,h⟩:=h;refine⟨F,α,a,M,r,hI.mono a _ _ _ (λitems st M1 q J ip H0 H1 T e1 o1 z it p s=>?_) h⟩;obtain⟨s1,q⟩:=q;have O:p∉F:=λw=>(z.ok.fr p w).2 (by rw[s]);refine⟨λi m G i7 j=>m=items.length- i/\i<=items.length/\∃o U f acc,Ext F ip H1 M1 o j f/\R X.K (p::F) o j i7 U f/\U.length=fr.length/\st f/\j p=aa (.lst G)/\gA X.K o (i0 (p::F) o f j) acc G/\
   jX fr g tt (te (xK X.K F α H M E)) st (λds f=>fK X.K F α H M Q (.lst ds) f) (items.drop i) acc U f,⟨_,rfl,bJ _,ip,qf fr a,M1,[],Ext.refl.Dl s O,((z.rs (r.grow e1 o1)).slots fr).O1 s,by simp[qf],s1,gW,gA.nil,q⟩,?_⟩
 rintro i m G i7 j ⟨rfl,hi',o,U,f,acc,e',I,S6,s',hy,ry,Y⟩
 have W0:jA (i0 F ip M1 H1) (i0 (p::F) o f j):=λb x h=>by
  have hb:b≠p:=λw=>by have:=(iL h).2;rw[w,s] at this;cases this
  have h1:=iL (e'.same b x h);show jB _ j b=_;refine kT h (λw=>h1.1 ?_) h1.2
  ·simp only [bp,az] at w ⊢;rcases w with w|w|w
   ·exact .inl w
   ·exact absurd w hb
   ·exact .inr w
 by_cases xU:i<items.length
 ·rw[cb xU] at Y;refine .inr ⟨it.go i (p::F) o j f e'.pre W0 I.ok s' xU,λW1 Cb B=>∃pM Mv M2 O2,Ext F ip H1 M1 pM B M2/\R X.K (p::F) pM B Cb Mv M2/\Mv.length=fr.length/\st M2/\B p=aa (.lst W1)/\gA X.K pM (i0 (p::F) pM M2 B) O2 W1/\
   jX fr g tt (te (xK X.K F α H M E)) st (λds f=>fK X.K F α H M Q (.lst ds) f) (items.drop (i+1)) O2 Mv M2,λW1 Cb B h=>⟨_,by omega,rfl,xU,h⟩,λx B y=>?_⟩
  obtain⟨o2,e2,rx⟩:=it.Sl i (p::F) o j f x B items[i] e'.pre W0 I.ok s' (by simp[xU]) y;unfold jX qI at Y;refine⟨p::F,o,U,f,items[i],I.grow e2 o2,rx,hg _ _ _ _ _ (λHN M3 q3 NT zX H3 e3 r3=>?_) (Mw _ _ _ _ Y)⟩;obtain⟨l3,q3⟩:=q3;refine⟨p::F,zX,HN,M3,r3,ht _ _ _ _ (λb M4 q4 sI H4 e4 o4=>?_) q3⟩;have L:=(e2.trans e3).trans e4;have pm:p∈p::F:=aC;cases b with
  |false=>
   rw[if_neg au] at q4;show(if am=ah then _ else _);rw[if_neg au];refine⟨sI,xI fr HN,M4,acc,Ext.skip z.ok s e' L,(r3.grow e4 o4).xI (by rw[l3,S6]),by simp[xI,l3,S6],q4.1,by rw[L.fr p pm];exact hy,L.zU ry,q4.2⟩
  |true=>
   rw[if_pos rfl] at q4;show(if ah=ah then _ else _);rw[if_pos rfl];refine⟨p::F,sI,HN,M4,r3.grow e4 o4,he _ _ _ _ _ _ ?ex (λd M5 q5 v α5 H5 e5 o5 r5=>?go) q4⟩;case ex=>
    intro ex δ6 M6 q6 Md u H6 od vs e6 r6 l xd rp;have A:=Ext.skip z.ok s e' (L.trans e6);have hp6:H6 p=aa (.lst G):=by rw[(L.trans e6).fr p pm];exact hy
    have r7:=R.shown O r6 hp6;obtain⟨t1,t2,t3⟩:=z.e u H6 M6 A r7.ok;refine hE _ _ _ _ (z.h u H6 M6 _ A (q6 Md u (T H6) od vs (e1.trans t1) (z.rt A r7) l ?_ (gA.imp t3 _ _ (gA.mono (aX _) Gc _ _ rp))));cases od with
    |none=>exact xd
    |some dx=>exact z.k u H6 M6 dx _ A xd
   case go=>
   have W2:=L.trans e5;have ry5:=W2.zU ry;refine⟨by rw[W2.fr p pm];exact hy,by rw[<-gA.length _ _ ry];exact q5.2.1,α5,xI fr HN,M5,acc++[d],(Ext.skip z.ok s e' W2).Dl s O,(((r3.grow e4 o4).grow e5 o5).xI (by rw[l3,S6])).Dl,by simp[xI,l3,S6],q5.1,gW,?_,q5.2.2⟩;rw[wT];exact gA.append _ _ _ _ ry5 (gA.one r5)
 ·have e:i=items.length:=by omega
  subst e;rw[dU] at Y;refine .inl ⟨it.stop (p::F) o j f e'.pre W0 I.ok s',?_⟩;have eE:=e'.er s O;have oE:=I.ok.er O;obtain⟨t1,t2,t3⟩:=z.e o (L3.er p j) f eE oE;have hn:T (L3.er p j) p=ao:=z.n p _ s zm;have:=Y p (.lst G) o (T (L3.er p j)) (e1.trans t1) t2 hn ⟨G,rfl,?_⟩
  ·rw[z.c p j _ s hy] at this;exact z.h o j f _ e' this
  ·refine gA.imp t3 _ _ ?_;rw[Ix I.ok];exact ry
end
section
variable {P:aJ} {w:bj} {K:W.Frag} {mg:ay->Option af} {base:ar} {iA:List ay} {qual:ay} {gN:cx} {f:aj} {cd:af} {A:ba} {outer:List eH} {gJ:ai} {gH:Hp} {E:XK}
variable {N:List ay} {fr:List (Option Nat)} {scope:cx} {elt target iter:bh} {ifs:List bh} {ti:DI} {g:DG} {tt:DT} {te:XE} {pos:c7}
noncomputable def CH(fr:List (Option Nat))(ti:DI)(g:DG)(tt:DT)(te:XE):vL->DF:=λx=>iY fr ti g tt (te x)
noncomputable def aaI(t:vL->DF):XE:=λx=>ie (t x)
theorem Av{x y:vL}(hi:JI (jM P w K mg base iA qual gN f cd A outer gJ gH E) target iter ti)(b:∀d a M (P Q:kF->Ms->Prop),(∀a M,P a M->Q a M)->g d a M P->g d a M Q)(c:∀a M (P Q:Bool->Ms->Prop),(∀d M,P d M->Q d M)->tt a M P->tt a M Q)(e:∀(x y:vL) a M (P Q:DK),x.le y->(∀d M,P d M->Q d M)->te x a M P->te y a M Q)
(v:x.le y){a:kF}{M:Ms}{P Q:OD->Ms->Prop}(h:∀o M,P o M->Q o M)(q:CH fr ti g tt te x a M P):CH fr ti g tt te y a M Q:=
 hi.mono _ _ _ _ (λl s M1 q=>⟨q.1,vM b c e v (λl M q=>h _ _ q) _ _ _ _ q.2⟩) q
theorem MZ(i:Nat){x:ay}{p j:c7}(B:iA.Nodup)(c:iu (jM P w K mg base iA qual gN f cd A outer gJ gH (zo gH E)) N fr scope)(hi:JI (jM P w K mg base iA qual gN f cd A outer gJ gH (zo gH E)) target iter ti)(G:Fu g)
(n:∀C ex pins s H e,JG (nK (jM P w K mg base iA qual gN f cd A outer gJ gH (zo gH E)) scope N C ex pins s H e) target g)(u:∀C ex pins s H e,YS (nK (jM P w K mg base iA qual gN f cd A outer gJ gH (zo gH E)) scope N C ex pins s H e) ifs tt)
(z:∀C ex pins s H e,l9 (nK (jM P w K mg base iA qual gN f cd A outer gJ gH (zo gH E)) scope N C ex pins s H e) (λ_=>zo gH E)->Xy (nK (jM P w K mg base iA qual gN f cd A outer gJ gH (zo gH E)) scope N C ex pins s H e) (λ_=>zo gH E) elt te)
(I:iA[i]?=aa x:=by rfl)(J:Loc gN x:=by first|exact eB rfl|exact dk rfl)
(L:cN (.ListComp elt [⟨target,iter,ifs,0⟩] scope pos) (aa (.Name x p)) j.line (jM P w K mg base iA qual gN f cd A outer gJ gH (zo gH E)).env=pure ah:=by rfl)
(O:∀x,cy iter (jM P w K mg base iA qual gN f cd A outer gJ gH (zo gH E)).env x=pure x:=by intro _;rfl):
  R7 (jM P w K mg base iA qual gN f cd A outer gJ gH (zo gH E)) (λ_=>zo gH E) (.Assign [.Name x p] (.ListComp elt [⟨target,iter,ifs,0⟩] scope pos) j) (TV i (aaI (CH fr ti g tt te))):=by
 have a:=(n 0 [] [] gJ gH λ_ _=>False).mono;have mt:=(u 0 [] [] gJ gH λ_ _=>False).mono;have l:=(z 0 [] [] gJ gH (λ_ _=>True) λ_ _ _ _ _ _ _ _=>trivial).mono;have m:=PZ (pos:=pos) (py:=p) (Fn:=j) (wi:=lI (jM P w K mg base iA qual gN f cd A outer gJ gH (zo gH E)) ti) (g:=lG K g) (tt:=lT K tt) (te:=lEX K (λ_=>zo gH E) te) c hi.p (λ_ _ _ _ _ _=>(n _ _ _ _ _ _).p) (λ_ _ _ _ _ _=>(u _ _ _ _ _ _).p) (λ_ _ _ _ _ _ T=>(z _ _ _ _ _ _ T).p) B I J L O;refine⟨λx y P Q b M v U q=>?_,sX m λD σ H q=>IT (X:=jM P w K mg base iA qual gN f cd A outer gJ gH (zo gH E)) (E:=λ_=>zo gH E) (Q:=λv=>D.nx (σ.set i (aa v))) hi a mt l G (λσ C od H h=>TC.th (X:=jM P w K mg base iA qual gN f cd A outer gJ gH (zo gH E)) h) ?_⟩
 ·have q:CH fr ti g tt te x b M (λo M1=>P.nx (b.set i (aa o.toD)) M1):=q;exact Av (Q:=λo M1=>Q.nx (b.set i (aa o.toD)) M1) hi a mt l v (λo M1 q=>U.nx _ _ q) q
 ·obtain⟨F,α,b,M,r,q⟩:=q;have q:CH fr ti g tt te (xK K F α H M λ_=>zo gH E) b M (λo M1=>(mE K F α H M D).nx (b.set i (aa o.toD)) M1):=q;refine⟨F,α,b,M,r,Av (Q:=fK K F α H M λv=>D.nx (σ.set i (aa v))) hi a mt l (vL.rfl _) (λo M1 q=>?_) q⟩;exact fK.wF λv Y H' e1 o1 r1=>q _ Y H' e1 ((r.grow e1 o1).set r1)
end
end L3
namespace L2
open PySem PySem.Spec PyProof.Rows PySem.W PySem.Calls Builtin
section
variable {prog:aJ} {w:bj} {A:ba} {R:fS->ai->Prop} {h:ar} {g:Array fj} {d:aeF} {t:Nat} {os:aeS}
variable {nm q:ay} {C N f:aj} {bs bm Py:List af} {kJ:Bool} {sn:List ay} {sub:List af} {ab:Bool} {col:Option Bool} {dd:Option aj} {k0 k1 k2 k3 k5:Option af} {B newId rq:String}
theorem M0{i:af}(F:eS B newId rq Py)(T:aeh h Py bm){rest:List af}
(c:h.get? C=aa (dg nm q C N bs bm kJ sn sub ab col dd k0 k1 k2 k3 k5 newId))(call:fU (model prog w) h (ad9 (.ref C) "__call__") (aa (.builtin "type.__call__")))(typ:fU (model prog w) h (adl (.ref C) (.type "type")) ah)
(hi:fU (model prog w) h (adV (.ref C) "__init__") (aa i))(l:∀self,fU (model prog w) h (bindSpecial i self) (i,[self]))(m:rest.length<=aE)
(n:codeAny (model prog w) (A.under (.builtin "type.__call__" ⟨.ref C::rest,[]⟩)) (.call i ⟨.ref (h.objs.size+1)::rest,[]⟩) (InitBack (h.objs.size+1) R) ⟨(h.push (jY rest)).push (jD C h.objs.size),g,d,t,os⟩):
  codeAny (model prog w) A (.call (.ref C) ⟨rest,[]⟩) R ⟨h,g,d,t,os⟩:=by
 refine adT ?_;show wpAny _ _ (callAny (.ref C) _) _ _ _;refine nd_load c ?_;show wpAny _ _ (fB (.ref C) _) _ _ _;unfold fB;refine ag (call.at ?_);dsimp only;rw[tc_bind];refine ag (aq (ag (aq ?_)));refine aq (a:=Fin.again (.call (.builtin "type.__call__") ⟨.ref C::rest,[]⟩)) (And.intro rfl ?_);refine aea (Code.quiet_builtin _ (by decide+kernel)) afg (adF tc_kind tc_split typ (tc_args _ _ _) ?_);unfold bt.«type.__call__»;repeat (first|with_reducible refine dX c ?_|with_reducible refine ae0 c ?_|wp_step)
 refine ad2 (Code.quiet_builtin _ F.quiet) (aet F T c ?_);refine aeu F T c ?_ m;show wpAny _ _ _ _ _ _;have k:∀b o,h.get? b=aa o->((h.push (jY rest)).push (jD C h.objs.size)).get? b=aa o:=λb o e=>ak _ (ak _ e);have p:((h.push (jY rest)).push (jD C h.objs.size)).get? (h.objs.size+1)=aa (jD C h.objs.size):=by heap_get
 have u:=k _ _ c;have t1:fU (model prog w) ((h.push (jY rest)).push (jD C h.objs.size)) (adY (.ref (h.objs.size+1))) (.ref C):=(fU.ld p).andThen .now;have j:(aN C::bm).contains (.ref C)=ah:=by simp
 have s1:fU (model prog w) ((h.push (jY rest)).push (jD C h.objs.size)) (isSubtype (.ref C) (.ref C)) ah:=by intro A Q E s x y;obtain⟨G,g,d,t,os⟩:=s;refine ej (x _ _ u) ?_;rw[j];exact y
 have H:=hi.keeps k;have b1:=(l (.ref (h.objs.size+1))).keeps k;unfold adl callSpecial? ad9;repeat (first|with_reducible refine dj ?_|lk)
 refine cX n λr I z=>?_;rcases r with e|(v|_|_|_)<;>first|exact z|exact z.elim|skip
 obtain⟨rfl,z⟩:=z;exact aq (aq z)
end
section
variable {prog:aJ} {w:bj} {A:ba} {E:af->ai->Prop} {h:ar} {g:Array fj} {d:aeF} {t:Nat} {os:aeS}
variable {nm q:ay} {C N x:aj} {bs bm Py:List af} {kJ:Bool} {sn:List ay} {sub:List af} {ab:Bool} {col:Option Bool} {dd:Option aj} {k0 k1 k2 k3 k5:Option af} {B newId rq:String}
theorem M7(F:eS B newId rq Py)(T:aeh h Py bm){c:bS}{i:Array af}{u:af}{Q:fS->ai->Prop}
(r:h.get? C=aa (dg nm q C N bs bm kJ sn sub ab col dd k0 k1 k2 k3 k5 newId))(n:h.get? x=aa c)(s:c.cls=.ref C)(hd:c.data=.fields i)(J:1<i.size)
(v:∀j a,j.get? x=aa {c with data:=.fields (i.setIfInBounds 0 a)}->(∀b o,b≠x->h.get? b=aa o->j.get? b=aa o)->Q (.ok (.ret .none)) ⟨j,g,d,t,os⟩):
  codeAny (model prog w) A (.call (.builtin rq) ⟨[.ref x,u],[]⟩) Q ⟨h,g,d,t,os⟩:=by
 obtain⟨oc,od,y,By⟩:=c;cases s;cases hd;refine df F.init.plain F.initEntry (aek F T r n rfl ?_)
 wp_walk
 obtain⟨l,z⟩:∃a,i[0]?=aa a:=⟨_,Array.getElem?_eq_getElem (by omega)⟩;rw[z];refine aq ?_;have f:=ak (h:=h) {cls:=.type "tuple",data:=.seq [u].toArray} n;refine ag (cL f rfl (by omega) ?_);have G:∀m:Unit->ai->Prop,m () ⟨(h.push {cls:=.type "tuple",data:=.seq [u].toArray}).update x (bF (·.setIfInBounds 0 (.ref h.objs.size))),g,d,t,os⟩->∀p,wpAny (model prog w) A.in1 (match l with|aN H=>letGo [l]|x=>pure ()) m p ⟨(h.push {cls:=.type "tuple",data:=.seq [u].toArray}).update x (bF (·.setIfInBounds 0 (.ref h.objs.size))),g,d,t,os⟩:=λm q p=>by
  cases l<;>first|exact aq q|skip
  wp_walk
  exact q
 refine G _ (aq ?_) _;refine v _ (.ref h.objs.size) ?_ λb o I e=>?_
 ·exact bY _ f (ci (bQ rfl _))
 ·rw[bv _ _ (bU I)];exact ak _ e
end
section
variable {X:Cx}
theorem IU{pins:List (aj×bS)}{σ:St}{H:Hp}{s:ai}{A:ba}{x C:aj}{od:Option aj}{u:af}{R:fS->ai->Prop}(FB:eS "ValueError" "ValueError.__new__" "ValueError.__init__" [.type "ValueError",.type "Exception",.type "BaseException",.type "object"])
(I:Inv X pins σ H s)(ex:H x=aa (l7 x C od))(c:DH X.K C)(h:∀i,Inv X pins σ H i->R (.ok (.ret .none)) i):codeAny (model X.prog X.w) A (.call (.builtin "ValueError.__init__") ⟨[.ref x,u],[]⟩) R s:=by
 obtain⟨⟨E,p⟩,_,_⟩:=(show iN X.prog X.w H s.heap x (l7 x C od) from I.iJ x _ ex);obtain⟨nm,q,N,bs,G,J,sn,sub,L,col,dd,M,k1,k2,k3,O,j,T⟩:=c.obj;have j:=I.nN _ _ j;have T:=T s.heap I.nN;have nx:∀b,H b=ao->b≠x:=λb e z=>by rw[z,ex] at e;cases e
 have l:=I;obtain⟨Q,g,d,t,os⟩:=s;refine M7 FB T j p rfl rfl (by show 1<6;decide) λm a n kp=>h _ ?_;have y:IJ m x (.ref C) od:=⟨a,n⟩;refine l.yE (ch:=[]) (s':=⟨m,g,d,t,os⟩) rfl ⟨λb o e q _ _=>kp b o (nx b q) e,λb o e q _ _=>⟨o.slots,kp b o (nx b q) e⟩,λb o e q _=>q,λb o e _=>?_,λb xs q=>q,λb o u q=>q,λb U q=>⟨#[],by rw[q];simp⟩⟩ (λb u q=>?_) l.bare λb B=>by cases B
 ·by_cases z:b=x
  ·subst z;exact⟨_,n⟩
  ·exact⟨o,kp b o z e⟩
 ·by_cases z:b=x
  ·subst z;rw[ex] at q;cases q;exact Aq y
  ·refine(l.iJ b u q).sL (λc v f r=>kp c v ?_ r) (λc r=>r) λc xs r=>r;rcases f with rfl|f
   ·exact z
   ·exactλz=>by rw[z,ex] at f;cases f
structure P0(K:W.Frag)(C:aj):Prop where
 x:DH K C
 call:W.specialIn K (.ref C) "__call__"=aa (aa (.builtin "type.__call__"))
 typ:W.instIn K (.ref C) (.type "type")=aa ah
 init:W.findIn K (.ref C) "__init__"=aa (aa (.builtin "ValueError.__init__"))
 kp:W.keepIn K (.ref C)=ah
theorem P4{C:aj}{pins:List (aj×bS)}{σ:St}{H:Hp}{s:ai}{Q:VK}{u:af}(M:P0 X.K C)(I:Inv X pins σ H s)
(h:∀x,H x=ao->s.heap.objs.size<=x->Q (.ref x) (upd H x (l7 x C ao))):wpAny (model X.prog X.w) X.A (PySem.call (.ref C) [u]) (EP X pins σ Q) X.xe s:=by
 have f:=h (s.heap.objs.size+1) (I.iJ.fresh (dP _)) (dP _);have k1:∀b o,s.heap.get? b=aa o->(s.heap.push (jY [u])).get? b=aa o:=λb o e=>ak _ e;have e2:((s.heap.push (jY [u])).push (jD C s.heap.objs.size)).get? (s.heap.objs.size+1)=aa (jD C s.heap.objs.size):=by
  have:=aQ (s.heap.push (jY [u])) (o:=jD C s.heap.objs.size) rfl
  rwa [bG] at this
 have i:Inv X pins σ (upd H (s.heap.objs.size+1) (l7 (s.heap.objs.size+1) C ao)) {s with heap:=(s.heap.push (jY [u])).push (jD C s.heap.objs.size)}:=
  (I.kept (t':=s.toks) k1).laid (t':=s.toks) (λb u e=>ak _ e) (fk (bG _ _)) (Aq ⟨_,e2⟩)
 obtain⟨nm,q,N,bs,n,p,sn,sub,r,col,dd,v,k1,k2,k3,y,l,T⟩:=M.x.obj;have a:=I.nN;obtain⟨c,g,d,t,os⟩:=s;refine dj ?_;refine M0 PySem.F.excBase_ValueError (T c a) (a _ _ l) (W.looks_specialIn a M.call) (W.looks_instIn a M.typ) (W.looks_findIn a M.init) (λself=>fU.of_pure (PySem.F.excBase_ValueError.init.bind self)) (by show 1<=aE;decide) ?_;refine IU PySem.F.excBase_ValueError i gW M.x λz m=>?_;exact⟨rfl,⟨V.ref (c.objs.size+1),_,m,rfl,f⟩⟩
end
section
variable {P:aJ} {w:bj} {K:W.Frag} {mg:ay->Option af} {base:ar} {N:List ay} {qual:ay} {scope:cx} {fn:aj} {cd:af} {A:ba} {outer:List eH} {gJ:ai} {gH:Hp} {E:XK}
variable {C:aj} {x:ay} {p pos jj:c7} {e:bh} {t:TA}
noncomputable def T4(C:aj)(E:XK)(t:TA):TS:=λ_ σ H=>t σ H λa H1=>a.length=1/\E (.ref C) ao H1
theorem T5{H:Hp}{x:aj}{a:HO}(b:H x=ao):NW x (upd H x a)=H:=by
 funext y;by_cases h:y=x
 ·subst h;rw[qJ,b]
 ·rw[Ar h,gF h]
theorem M8(M:P0 K C)(z:Gl (jM P w K mg base N qual scope fn cd A outer gJ gH E) x)(hm:mg x=aa (.ref C))
(ha:PA (jM P w K mg base N qual scope fn cd A outer gJ gH E) [e] t)(B:(x==("__debug__":ay))=am:=by decide)
(G:aM [e] (jM P w K mg base N qual scope fn cd A outer gJ gH E).env=(am,eval e (jM P w K mg base N qual scope fn cd A outer gJ gH E).env)::aM [] (jM P w K mg base N qual scope fn cd A outer gJ gH E).env:=by rfl):
  PS (jM P w K mg base N qual scope fn cd A outer gJ gH E) (.Raise (aa (.Call (.Name x p) [e] [] jj)) ao pos) (T4 C E t):=by
 intro pins s σ H D I h;obtain⟨nm,q,J,bs,b,g,sn,sub,i,col,dd,j,k1,k2,k3,l,L,T⟩:=M.x.obj;have O:b.contains (.type "BaseException")=ah:=(T base I.ok.mod.N2).hasType PySem.F.excBase_ValueError.hasBase;have U:(jM P w K mg base N qual scope fn cd A outer gJ gH E).A.handled=ao:=I.ok.hd rfl;rw[afh];refine ag (dh (CD (C:=C) (nm:=nm) (q:=q) (N:=J) (bs:=bs) (bm:=b) (kJ:=g) (sn:=sn) (sub:=sub) (ab:=i) (col:=col) (dd:=dd) (k0:=j) (k1:=k1) (k2:=k2) (k3:=k3) (k5:=l) (newId:="ValueError.__new__") O U ?_));refine ag (jz (Q:=EP (jM P w K mg base N qual scope fn cd A outer gJ gH E) pins σ λv a=>∃y,v=.ref y/\gJ.heap.objs.size<=y/\a y=aa (l7 y C ao)/\E (.ref C) ao (NW y a)) ?_ λv s3 Y=>ag (dh (aq ?_)))
 ·refine c5 (qU I z hm ?_ B);refine W.callWith_K (h₀:=base) I.ok.mod.N2 M.kp (jz (ha jj pins s σ H _ I h) λus s1 ⟨vs,H1,c,r,hl,q⟩=>⟨c.nN,?_⟩) G rfl;have hu:us.length=1:=by rw[<-r.length];exact hl
  match us,hu with
  |[u],_=>exact P4 (X:=jM P w K mg base N qual scope fn cd A outer gJ gH E) M c λy hy hn=>⟨y,rfl,aS c.BG hn,gW,by rw[T5 hy];exact q⟩
 ·obtain⟨v',a,f,rv,y,rfl,hn,n,hE⟩:=Y;cases rv;obtain⟨o,_,_⟩:=(show iN P w a s3.heap y (l7 y C ao) from f.iJ y _ n);exact⟨y,ao,rfl,f.nN _ _ L,o,FZ (f.drop n) o hn qJ hE⟩
end
end L2
namespace L3
open PySem PySem.Spec PyProof.Rows L2
noncomputable def Lr(C:aj)(tt:DA):XB:=λx _ a M=>tt a M λds M1=>ds.length=1/\x ⟨C,[],[]⟩ a M1
section
variable {P:aJ} {w:bj} {K:W.Frag} {mg:ay->Option af} {base:ar} {N:List ay} {qual:ay} {scope:cx} {fn:aj} {cd:af} {A:ba} {outer:List eH} {gJ:ai} {gH:Hp} {E:XK}
variable {C:aj} {x:ay} {p pos jj:c7} {e:bh} {tt:DA}
theorem IV(M:P0 K C)(hm:mg x=aa (.ref C))(ha:JA (jM P w K mg base N qual scope fn cd A outer gJ gH E) [e] tt)(b:Gl (jM P w K mg base N qual scope fn cd A outer gJ gH E) x:=by rfl)(c:(x==("__debug__":ay))=am:=by decide)
(f:aM [e] (jM P w K mg base N qual scope fn cd A outer gJ gH E).env=(am,eval e (jM P w K mg base N qual scope fn cd A outer gJ gH E).env)::aM [] (jM P w K mg base N qual scope fn cd A outer gJ gH E).env:=by rfl):
  R7 (jM P w K mg base N qual scope fn cd A outer gJ gH E) (λ_=>E) (.Raise (aa (.Call (.Name x p) [e] [] jj)) ao pos) (Lr C tt):=by refine⟨λx y P Q a M v w q=>ha.mono a _ _ _ (λds M1 q=>⟨q.1,v _ _ _ q.2⟩) q,PS.weak (M8 M b hm ha.p c f) λD σ H q=>?_⟩;obtain⟨F,α,a,M,r,q⟩:=q;refine⟨F,α,a,M,r,ha.mono a _ _ _ (λds M1 q h g H1 e1 o1 r1=>?_) q⟩;exact⟨by rw[<-gA.length _ _ r1];exact q.1,q.2 σ g H1 ao [] e1 (r.grow e1 o1) rfl rfl gA.nil⟩
end
end L3
namespace L3
open PySem PySem.Spec PyProof.Rows L2
abbrev FP:=ay⊕Nat
noncomputable def tFP:FP->TE
 |.inl c=>tC (.str c)
 |.inr i=>aaz (N6 i)
noncomputable def tJs:List FP->TJ
 |[]=>VJ
 |p::a=>PF (tFP p) (tJs a)
structure YX(X:Cx)(es:List bh)(ps:List FP):Prop where
 p:PJ X es (tJs ps)
noncomputable def YY(K:W.Frag):List ay->Nat->TS
 |[],_=>λD σ H=>D.nx σ H
 |f::r,i=>We (VL K (N6 0) (N6 i) f) (YY K r (i+1))
structure JFs(X:Cx)(Iu:List bH)(ns:List ay)(i:Nat):Prop where
 p:wA X Iu (YY X.K ns i)
section
variable {X:Cx} {es:List bh} {ps:List FP} {c x f:ay} {j:Option ay} {p pos pos':c7} {i:Nat} {Iu:List bH} {ns:List ay}
theorem Ls:YX X [] []:=⟨Xr⟩
theorem CI{j}(h:YX X es ps):YX X (.Constant (.str c) j pos::es) (.inl c::ps):=⟨Lo N7 h.p⟩
theorem Lu(i:Nat)(h:YX X es ps)(a:X.N[i]?=aa x:=by rfl)(b:U9 X.env.scope x:=by first|exact eB rfl|exact dk (eB rfl)|exact dk (dk rfl))(hd:(x==("__debug__":ay))=am:=by decide)
(e:(x==("__classdict__":ay))=am:=by decide):YX X (.FormattedValue (.Name x p) (-1) ao pos::es) (.inr i::ps):=⟨Lo (Xq (zH a b hd e)) h.p⟩
theorem Lv:JFs X [] [] i:=⟨Kx⟩
theorem w4{g:c7}{s:ay}(h:JFs X Iu ns (i+1))(a:X.N[0]?=aa s:=by rfl)(l:X.N[i]?=aa x:=by rfl)(b:U9 X.env.scope s:=by first|exact eB rfl|exact dk (eB rfl)|exact dk (dk rfl))(m:U9 X.env.scope x:=by first|exact eB rfl|exact dk (eB rfl)|exact dk (dk rfl))
(e:(s==("__debug__":ay))=am:=by decide)(n:(s==("__classdict__":ay))=am:=by decide)(hd:(x==("__debug__":ay))=am:=by decide)(o:(x==("__classdict__":ay))=am:=by decide)
(q:cN (.Name x g) (aa (.Attribute (.Name s p) f pos')) pos.line X.env=pure am:=by rfl):JFs X (.Assign [.Attribute (.Name s p) f pos'] (.Name x g) pos::Iu) (f::ns) i:=
 ⟨wK (TL (zH a b e n) (zH l m hd o) q) h.p⟩
end
def okP (σ:L2.St):FP->Prop
 |.inl c=>c.length<=4000
 |.inr i=>∃v,σ[i]?=aa (aa v)/\XG v=ah
theorem P5{σ:L2.St}{H:Hp}{Q:VK}(g:∀y,Q (.str y) H):∀(b:List FP) (acc:ay),acc.length+4000*b.length<=aE->(∀p∈b,okP σ p)->tJs b acc σ H Q
 |[],acc,h,_=>⟨by simpa using h,g acc⟩
 |p::b,acc,h,ok=>by
  have f:∀y:ay,y.length<=4000->(acc++y).length<=aE/\(acc++y).length+4000*b.length<=aE:=λy j=>by have:(acc++y).length=acc.length+y.length:=PySem.Str.length_append _ _;rw[aV] at h;omega
  have go:∀y:ay,y.length<=4000->tJs b (acc++y) σ H Q:=λy j=>P5 g b _ (f y j).2 λp l=>ok p (av _ l);have o1:=ok p aC;cases p with
  |inl c=>exact⟨c,rfl,(f c o1).1,go c o1⟩
  |inr i=>
   obtain⟨v,e,a⟩:=o1;refine⟨v,e,?_⟩;cases v<;>first|(cases a;done)|skip
   ·rename_i n;have a:(decide (n.natAbs.log2<1920)&&decide ((toString n:ay).length<=4000))=ah:=a;rw[aH,decide_eq_true_eq,decide_eq_true_eq] at a;exact⟨a.1,_,rfl,(f _ a.2).1,go _ a.2⟩
   ·rename_i y;have a:decide (y.length<=4000)=ah:=a;rw[decide_eq_true_eq] at a;exact⟨aS a (by decide),_,rfl,(f _ a).1,go _ a⟩
noncomputable def cH(H:Hp)(x a C:aj)(l:List (ay×V)):Hp:=upd (upd H a (DC a l)) x (l7 x C (aa a))
theorem aaK{H:Hp}{x a C:aj}{l e:List (ay×V)}(ne:a≠x):upd (upd (cH H x a C l) a (DC a e)) x (l7 x C (aa a))=cH H x a C e:=by
 funext b;unfold cH;by_cases h:b=x
 ·subst h;rw[gW,gW]
 ·rw[gF h,gF h];by_cases c:b=a
  ·subst c;rw[gW,gW]
  ·rw[gF c,gF c,gF h,gF c]
theorem Ge{f:ay}{y:V}:∀{l:List (ay×V)},f∉l.map (·.1)->nD f y l=l++[(f,y)]
 |[],_=>rfl
 | (g,v)::l,h=>by have a:g≠f:=λz=>h (by rw[z];simp);show(if g=f then _ else _)=_;rw[if_neg a,Ge λz=>h (by rw[aR];exact av _ z)];rfl
theorem VQ{K:W.Frag}{D:Ends}{σ:L2.St}{H:Hp}{x b C:aj}(m:σ[0]?=aa (aa (.ref x)))(c:F4 K C)(ne:b≠x):∀(ns:List ay) (i:Nat) (ws:List V) (l:List (ay×V)),ns.length=ws.length->(∀j v,ws[j]?=aa v->σ[i+j]?=aa (aa v))->(l.map (·.1)++ns).Nodup->l.length+ns.length<1000->(∀f∈ns,kx K C f)->
  D.nx σ (cH H x b C (l++ns.zip ws))->YY K ns i D σ (cH H x b C l)
 |[],i,ws,l,_,_,_,_,_,q=>by rw[List.zip_nil_left,br] at q;exact q
 |f::ns,i,[],l,e,_,_,_,_,q=>by cases e
 |f::ns,i,y::ws,l,e,n,nd,o,na,q=>by
  have p:f∉l.map (·.1):=λz=>by rw[fM] at nd;exact nd.2.2 f z f aC rfl
  refine⟨y,by simpa using n 0 y rfl,.ref x,m,x,C,aa b,l,rfl,?_,⟨ne,?_⟩,c,na f aC,by rw[aV] at o;omega,λr a s=>?_⟩
  ·unfold cH;rw[gW]
  ·unfold cH;rw[gF ne,gW]
  ·rcases a with a|⟨a,_⟩
   ·cases a;rw[aaK ne,Ge p];refine VQ m c ne ns (i+1) ws (l++[(f,y)]) (by simpa using e) (λj v h=>?_) ?_ (by simp at o ⊢;omega) (λg u=>na g (av _ u)) ?_
    ·have:=n (j+1) v (by simpa using h);rw[<-this];congr 1;omega
    ·rw[bD];simpa using nd
    ·rw[cD];exact q
   ·cases a
theorem P6{K:W.Frag}{D:Ends}{σ:L2.St}{H:Hp}{x C:aj}{f y}{ns:List ay}{ws:List V}(i:σ[0]?=aa (aa (.ref x)))(c:F4 K C)(e:ns.length=ws.length)(l:∀j v,(y::ws)[j]?=aa v->σ[1+j]?=aa (aa v))(nd:(f::ns).Nodup)(n:ns.length<900)(na:∀g∈f::ns,kx K C g)
(ex:H x=aa (l7 x C ao))(q:∀a,H a=ao->a≠x->D.nx σ (cH H x a C ((f::ns).zip (y::ws)))):YY K (f::ns) 1 D σ H:=by
 refine⟨y,by simpa using l 0 y rfl,.ref x,i,x,C,ao,[],rfl,ex,rfl,c,na f aC,by decide,λa b ne=>?_⟩;rcases b with b|⟨_,b⟩
 ·cases b
 ·refine VQ i c ne ns 2 ws [(f,y)] e (λj v h=>?_) (by simpa using nd) (by simp;omega) (λg m=>na g (av _ m)) (q a b ne);have:=l (j+1) v (by simpa using h);rw[<-this];congr 1;omega
theorem Aw{N:List ay}{a:List V}{i:Nat}{v:V}(h:a[i]?=aa v):(L2.start N a)[i]?=aa (aa v):=by unfold L2.start;have:=(aB.mp h).1;rw[bI (by simpa using this),bA,h];rfl
abbrev aaL(K:W.Frag)(B:aj)(a:List FP)(ns:List ay):TS:=We (Ve (PH K B (tC (.ref B)) (Op (N6 0) (Op (tJs a ay.empty) Zz)))) (YY K ns 1)
theorem aaM{X:Cx}{b s:ay}{e e2:bh}{es:List bh}{l:List bH}{m:List FP}{ns:List ay}{B:aj}{p g a apos c pos:c7}{pl:aey Bool}(q:F5 X.K B)(hm:X.mg b=aa (.ref B))(r:YX X (e::e2::es) m)(u:JFs X l ns 1)
(v:Gl X b:=by rfl)(w:(b==("__debug__":ay))=am:=by decide)(h:X.N[0]?=aa s:=by rfl)(i:U9 X.env.scope s:=by first|exact eB rfl|exact dk (eB rfl)|exact dk (dk rfl))
(j:(s==("__debug__":ay))=am:=by decide)(x:(s==("__classdict__":ay))=am:=by decide)
(y:eval (.Call (.Attribute (.Name b p) "__init__" apos) [.Name s g,.JoinedStr (e::e2::es) a] [] c) X.env=(do
   let n<-eval (.Name b p) X.env
   adG apos.atName
   let(f,first)<-holding [n] (adN n "__init__" pl)
   aff c f first (cG c (aM [.Name s g,.JoinedStr (e::e2::es) a] X.env)) (ado c (fq [] X.env))):=by rfl)
(o:aM [.Name s g,.JoinedStr (e::e2::es) a] X.env=(am,eval (.Name s g) X.env)::aM [.JoinedStr (e::e2::es) a] X.env:=by rfl)(z:aM [.JoinedStr (e::e2::es) a] X.env=(am,eval (.JoinedStr (e::e2::es) a) X.env)::aM [] X.env:=by rfl)(A:(cG c (aM [.JoinedStr (e::e2::es) a] X.env)).any (·.1)=am:=by rfl)
(C:cN (.Call (.Attribute (.Name b p) "__init__" apos) [.Name s g,.JoinedStr (e::e2::es) a] [] c) ao pos.line X.env=pure am:=by rfl):
  wA X (.Expr (.Call (.Attribute (.Name b p) "__init__" apos) [.Name s g,.JoinedStr (e::e2::es) a] [] c) pos::l) (aaL X.K B m ns):=
 wK (C5 (PL PySem.F.excBase_ValueError q (Kw v hm rfl w) (uq (zH h i j x) (uq (TB r.p) Db z) o) y o A) C) u.p
section
variable {P:aJ} {w:bj} {K:W.Frag} {mg:ay->Option af} {base:ar}
noncomputable def C6(n:Nat):FP->Bool
 |.inl c=>decide (c.length<=4000)
 |.inr i=>decide (1<=i)&&decide (i<=n)
theorem P7{x qual:ay}{st:bH}{f:aj}{fd:cn}{N b:List ay}{k:Nat}{body:List bH}{scope:cx}{C B:aj}{ns:List ay}{a:List FP}(F:wP K x qual st f fd)(z:iF st=body)(es:hZ st=scope)(S:gU N b scope)
(c:F4 K C)(co:DH K C)(na:∀g∈ns,kx K C g)
(G:∀(iE:af) (A:ba) (outer:List eH) (s:ai) (H:Hp) (E:XK),wA (uQ uR P w K mg base N qual scope f iE A outer s H E).L9 body (aaL K B a ns))
(nd:ns.Nodup:=by decide)(I:ns.length<900:=by decide)(J:0<ns.length:=by decide)(l:b.length=ns.length+1:=by rfl)(m:a.all (C6 ns.length)=ah:=by decide)(L:a.length<=100:=by decide):
  ky P w K mg base uR (k+1) f fd b (spI C ns):=by
 subst z es;refine F.ok S (λM H Q E ⟨x,ws,e,hw,_⟩=>by rw[e,l,aV,hw]) λiE A outer s H M Q E hr h=>⟨_,G iE A outer s H E,?_⟩;obtain⟨x,ws,rfl,hw,O,n,q⟩:=h;have r:(L2.start N (.ref x::ws))[0]?=aa (aa (.ref x)):=Aw rfl;refine⟨rfl,.ref x,r,P5 (λy=>⟨x,C,ao,.str y,rfl,n,co,?fs⟩) a _ ?sz λp T=>?op⟩;case fs=>
  show YY K ns 1 {nx:=λ_ U=>Q .non U,rt:=Q} _ H;cases ns with
  |nil=>cases J
  |cons f ns=>
   cases ws with
   |nil=>cases hw
   |cons y ws=>exact P6 r c (by simpa using hw.symm) (λj v h=>Aw (by rw[Nat.add_comm];simpa using h)) nd (by rw[aV] at I;omega) na n λY h1 h2=>q Y h1 h2
 case sz=>
  show 0+_<=_;have:aE=16777216:=rfl;omega
 case op=>
  have o:=bM.mp m p T;cases p with
  |inl c=>
   have o:decide (c.length<=4000)=ah:=o;rw[decide_eq_true_eq] at o;exact o
  |inr i=>
   have o:(decide (1<=i)&&decide (i<=ns.length))=ah:=o;rw[aH,decide_eq_true_eq,decide_eq_true_eq] at o;obtain⟨j,rfl⟩:∃j,i=j+1:=⟨i- 1,by omega⟩;have u:j<ws.length:=by omega
   exact⟨ws[j],Aw (by simp[u]),bM.mp O _ (fY u)⟩
end
end L3
namespace L3
open PySem PySem.Spec PyProof.Rows L2
theorem Gf{K:W.Frag}{α:List aj}{H:Hp}{f:ay}:∀(ns:List ay) (ds:List D) (a:List V) (d:D),gA K α H ds a->(ns.zip ds).lookup f=aa d->∃v,(ns.zip a).lookup f=aa v/\Rep K α H d v
 |[],ds,a,d,r,h=>by cases h
 |n::ns,[],a,d,r,h=>by cases h
 |n::ns,x::ds,a,d,r,h=>by
  unfold gA at r;obtain⟨v,ws,rfl,r1,r2⟩:=r;rw[cJ,cU] at h ⊢;cases e:f==n with
  |true=>rw[e] at h;cases h;exact⟨v,rfl,r1⟩
  |false=>rw[e] at h;exact Gf ns ds ws d r2 h
noncomputable def Gg(K:W.Frag)(f:ay)(b:DE):DE:=λc M Q=>b c M λd M1=>match d with
 |.exc C ns ds=>F8 K C/\kx K C f/\∃a,(ns.zip ds).lookup f=aa a/\Q a M1
 |_=>False
section
variable {X:Cx} {o:bh} {te:DE} {f:ay} {pos:c7}
theorem DP(c:JE X o te)(m:cK o f X.env (eval o X.env)=eval o X.env:=by rfl):JE X (.Attribute o f pos) (Gg X.K f te):=by
 refine⟨λb M P Q w q=>c.mono b _ _ _ (λd M1 q=>?_) q,PE.weak (TN c.p m) λσ H Q q=>?_⟩
 ·cases d<;>first|exact q.elim|skip
  obtain⟨e,g,j,h,i⟩:=q;exact⟨e,g,j,h,w _ _ i⟩
 ·obtain⟨F,α,b,M,r,q⟩:=q;refine⟨F,α,b,M,r,c.mono b _ _ _ (λd M1 q v n H1 e1 o1 r1=>?_) q⟩;cases d<;>first|exact q.elim|skip
  obtain⟨e,g,j,h,i⟩:=q;unfold Rep at r1;obtain⟨a,x,rfl,ha,l,rs⟩:=r1;obtain⟨v,s,u⟩:=Gf _ _ _ _ rs h;exact⟨a,_,_,v,rfl,hV _ _ ha,e,g,s,i v n H1 e1 o1 u⟩
noncomputable def P8(K:W.Frag):GN:=λds M Q=>match ds with
 |[.exc C ns es,.cls B]=>∃b,F8 K C/\W.kitOne K (.ref C) (.ref B)=aa b/\Q (.bl b) M
 |_=>False
theorem DQ:JB X (.builtin "isinstance") (P8 X.K):=by
 refine⟨λds M P Q w q=>?_,λpins s σ H xs us Q I rs h=>?_⟩
 ·match ds,q with
  |[.exc C ns es,.cls B],⟨b,e1,e2,q⟩=>exact⟨b,e1,e2,w _ _ q⟩
 ·obtain⟨F,α,M,ds,o,c,h⟩:=h;match ds,h,c with
  |[.exc C ns es,.cls B],⟨b,e1,e2,q⟩,c=>
   obtain⟨v,u,e,r1,r2⟩:=Ad c;subst e;unfold Rep at r1 r2;subst r2;obtain⟨a,n,rfl,ha,l,p⟩:=r1;obtain⟨g,i,rfl,j,m⟩:=vals2 rs;obtain rfl:g=aN a:=j;obtain rfl:i=aN B:=m;exact TQ I (hV _ _ ha) e1 e2 λtk=>⟨.bl b,H,I.tok tk,rfl,vK.now o q ja⟩
end
end L3
namespace L3
open PySem PySem.Spec PyProof.Rows L2
abbrev IW:List af:=[.type "ValueError",.type "Exception",.type "BaseException",.type "object"]
structure IX(K:W.Frag)(C P:aj):Prop where
 hd:W.hasDictIn K C=ah
 po:F3 K C
 so:W.subIn K (.ref C) (.type "object")=aa ah
 sa:W.findIn K (.ref C) "__setattr__"=aa (aa (.builtin "object.__setattr__"))
 call:W.specialIn K (.ref C) "__call__"=aa (aa (.builtin "type.__call__"))
 typ:W.instIn K (.ref C) (.type "type")=aa ah
 kp:W.keepIn K (.ref C)=ah
 ga:W.findIn K (.ref C) "__getattribute__"=aa (aa (.builtin "BaseException.__getattribute__"))
 gh:W.findIn K (.ref C) "__getattr__"=aa ao
 sb:W.subIn K (.ref C) (.type "BaseException")=aa ah
 cl:W.findIn K (.ref C) "__class__"=aa (aa (.builtin "object.__class__"))
 cg:W.specialIn K (.builtin "object.__class__") "__get__"=aa (aa (.builtin "getset_descriptor.__get__"))
 tk:W.takesIn K (.builtin "object.__class__")=aa ah
 ob:W.mroIn K C (.type "object")=aa ah
 oc:∃nm q N bs bm kJ sn sub ab col dd k0 k1 k2 k3 k5,K.lookup C=aa (dg nm q C N bs bm kJ sn sub ab col dd k0 k1 k2 k3 k5 "ValueError.__new__")/\W.tailIn K IW bm=ah/\(aN C::bm).contains (.ref P)=ah/\(aN C::bm).contains (.type "BaseException")=ah
theorem XN{K:W.Frag}{C P:aj}{nm q:ay}{N:aj}{bs a:List af}{e:Bool}{sn:List ay}{sub:List af}{f:Bool}{col:Option Bool}{dd:Option aj}{g k1 k2 k3 h:Option af}(l:K.lookup C=aa (dg nm q C N bs a e sn sub f col dd g k1 k2 k3 h "ValueError.__new__"))
(t:W.tailIn K IW a=ah)(c:(aN C::a).contains (.ref P)=ah)(b:(aN C::a).contains (.type "BaseException")=ah):∃nm q N bs a e sn sub f col dd g k1 k2 k3 h,K.lookup C=aa (dg nm q C N bs a e sn sub f col dd g k1 k2 k3 h "ValueError.__new__")/\W.tailIn K IW a=ah/\(aN C::a).contains (.ref P)=ah/\(aN C::a).contains (.type "BaseException")=ah:=
 ⟨_,_,_,_,_,_,_,_,_,_,_,_,_,_,_,_,l,t,c,b⟩
section
variable {K:W.Frag} {C P:aj}
theorem IX.cls(h:IX K C P):F4 K C:=⟨h.hd,h.po,h.so,h.sa⟩
theorem IX.get(h:IX K C P):F8 K C:=⟨h.hd,h.ga,h.gh,h.sb,h.cl,h.cg,h.tk,h.ob⟩
theorem IX.obj(h:IX K C P):DH K C:=by obtain⟨nm,q,N,bs,a,b,sn,sub,c,col,dd,e,k1,k2,k3,f,l,t,_⟩:=h.oc;exact⟨nm,q,N,bs,a,b,sn,sub,c,col,dd,e,k1,k2,k3,f,l,λh X=>W.tail_of_in X t⟩
theorem IX.sub{Q:aj}(h:IX K C P)(b:IX K P Q):MS K C P:=by obtain⟨nm,q,N,bs,y,z,sn,sub,A,col,dd,B,k1,k2,k3,E,l,t,c,_⟩:=h.oc;obtain⟨a,G,H,e,f,g,i,j,m,n,o,p,r,s,u,v,w,I,J,x⟩:=b.oc;exact⟨⟨_,_,_,_,_,_,_,_,_,_,_,_,_,_,_,_,l,c⟩,⟨_,_,_,_,_,_,_,_,_,_,_,_,_,_,_,_,w,x⟩⟩
structure ExI(K:W.Frag)(C f:aj)(q:ay)(st:bH):Prop where
 init:W.findIn K (.ref C) "__init__"=aa (aa (.ref f))
 ex:∃fd,wP K "__init__" q st f fd
 fn:W.isFn K (.ref f)=ah
theorem XO{qual:ay}{st:bH}{f:aj}{oc:af}{od an:Option aj}{By:Array (Option af)}{kV doc pm iE ct:af}(i:W.findIn K (.ref C) "__init__"=aa (aa (.ref f)))(l:K.lookup f=aa ⟨oc,od,.func (W.fnOf "__init__" qual (jT st) (iF st) (hZ st) .none kV doc pm an iE ct),By⟩)
(c:W.codeIn K iE qual=ah)(k:W.keepIn K (.ref f)=ah)(n:W.isFn K (.ref f)=ah):ExI K C f qual st:=⟨i,⟨_,Im l c k⟩,n⟩
theorem IX.mk_(h:IX K C P){f:aj}{q:ay}{st:bH}(i:ExI K C f q st):XMk K C f:=⟨h.obj,h.call,h.typ,i.init,i.fn,h.kp⟩
end
end L3
namespace L3
open PySem PySem.Spec PyProof.Rows L2
section
variable {X:Cx}
end
end L3
namespace L2
theorem jR.un1{k:Nat}{A:PySem.Around}(h:jR k A):A.units+100<PySem.cLine:=by have:=h.un;omega
end L2
namespace L3
open PySem PySem.Spec PyProof.Rows L2
def aaN (x:D)(ds:List D):Prop:=pl x=ah/\dp x<=60/\sJ ds=ah/\sG ds<=60
noncomputable def Gh:G2:=λx y M Q=>match vw M y with
 |.lst ds=>aaN (vw M x) ds/\Q (.bl (ds.any λy=>x8 y (vw M x))) M
 |_=>False
section
variable {X:Cx}
theorem lay_of{d:D}(p:pl d=ah)(q:dp d<=60):(toP d).canLay0=ah:=by have:=mJ p q;unfold SeqAt.shaped at this;rw[aH] at this;exact this.1
theorem Lw{pins:List (aj×bS)}{σ:L2.St}{H:Hp}{s:ai}{α:List aj}(I:L2.Inv X pins σ H s){b:D}{x:V}{v:af}(g:Rep X.K α H b x)(h:L2.RelV x v)(px:pl b=ah)(i:dp b<=60)(e:X.A.units+100<adb):∀(ds:List D) (c:List V) (us:List af),gA X.K α H ds c->Vals c us->sJ ds=ah->sG ds<=60->
  (∀u∈us,b9 X.A.in1 s u v ((f9 s.heap u).eqv (toP b)))/\(us.any λu=>(f9 s.heap u).eqv (toP b))=ds.any λy=>x8 y b
 |[],c,us,r,rs,_,_=>by unfold gA at r;subst r;cases rs;exact⟨λu e=>absurd e (by simp),rfl⟩
 |d::ds,c,us,r,rs,p,q=>by
  unfold gA at r;obtain⟨w,ws,rfl,r1,r2⟩:=r;cases rs with
  |cons a t=>
   rename_i u us;unfold sJ at p;rw[aH] at p;unfold sG at q;have j:dp d<=60:=aS (Nat.le_max_left _ _) q;have n:sG ds<=60:=aS (Nat.le_max_right _ _) q;obtain⟨o,B⟩:=Lw I g h px i e ds ws us r2 t p.2 n;obtain⟨bs,C⟩:=Rep.reads I _ x v g h px;obtain⟨as,l⟩:=Rep.reads I _ _ _ r1 a p.1;have m:=SeqAt.readOf_eq (lay_of p.1 j) l;have k1:=W.keq_at (A:=X.A) l C (mJ p.1 j) (mJ px i) (by show X.A.units+1+64<_;omega);refine⟨λz f=>?_,?_⟩
   ·rcases az.mp f with rfl|f
    ·rw[m];exact k1
    ·exact o z f
   ·rw[cR,cR,B,m,toP_eqv _ _ p.1 px]
theorem XQ(e:X.A.units+100<adb):JC X .In Gh:=by
 refine⟨λx y M P Q w q=>?_,λpins s σ H x y v u Q I f g h=>?_⟩
 ·unfold Gh at q ⊢;split at q
  ·exact⟨q.1,w _ _ q.2⟩
  ·exact q.elim
 ·obtain⟨F,α,M,b,E,o,i,j,h⟩:=h;unfold Gh at h;split at h
  ·rename_i ds e1;obtain⟨⟨l,m,n,p⟩,h⟩:=h;obtain⟨a,z,rfl,B,C⟩:=j6 o j e1;obtain rfl:u=aN a:=g;obtain⟨g8,r,c,G⟩:=I.list (pH.of B);obtain⟨k1,k2⟩:=Lw I (Rep.mono (aX _) hV _ _ (xY o _ _ i)) f l m e ds z g8 (gA.mono (aX _) hV _ _ C) r n p;refine SeqAt.in_listAt (λu=>(f9 s.heap u).eqv (toP (vw M b))) c.isList (λw hw=>k1 w (by simpa using hw)) ⟨.bl _,H,I,rfl,?_⟩;rw[show(g8.toArray.any λu=>(f9 s.heap u).eqv (toP (vw M b)))=g8.any λu=>(f9 s.heap u).eqv (toP (vw M b)) by simp,k2];exact vK.now o h ja
  ·exact h.elim
end
end L3
namespace L2
open PySem PySem.Spec PyProof.Rows
section
variable {prog:aJ} {w:bj} {κ:Type} [DecidableEq κ] {knd:PySem.KeyKind prog w κ} {A:ba} {E:af->ai->Prop} {s:ai}
noncomputable def u7(b:List (κ×af)):List (κ×af):=b.foldl (λd a=>stored d a.1 a.2) []
theorem IY{a:List (κ×af)}{k:κ}{u:af}:u7 (a++[(k,u)])=stored (u7 a) k u:=by unfold u7;rw[List.foldl_append];rfl
theorem IZ{ik:List (κ×af)}{k:κ}{v:af}:(stored ik k v).length<=ik.length+1:=by
 unfold stored;split
 ·rw[ap];omega
 ·rw[bL];exact bf _
theorem M9(b:List (κ×af)):∀acc:List (κ×af),(b.foldl (λd a=>stored d a.1 a.2) acc).length<=acc.length+b.length:=by
 induction b with
 |nil=>intro acc;exact bf _
 |cons a r c=>
  intro acc;rw[List.foldl_cons,aV];have e:=c (stored acc a.1 a.2);have f:=IZ (ik:=acc) (k:=a.1) (v:=a.2);omega
theorem CJ(a:List (κ×af)):(u7 a).length<=a.length:=by have:=M9 a [];rw[aY,bd] at this;exact this
theorem Na{R:fS->ai->Prop}{It:aj}{H l:List aj}{G:Array fj->Array fj->Prop}{P:Nat->af->Prop}{St:Nat->ai->Prop}{c:List (κ×af)}{keys:List af}(W:WalksS prog w A.in1 It H l G c.length P St)(d:aj)(I:d∉H)(lo:(d==dH)=am)
(hz:c.length<=aE)(g:ar)(L:∀i v,P i v->∃k key u,c[i]?=aa (k,u)/\knd.is k key=ah/\Dw g v key u)(n:g.get? d=ao)(p:∀b∈l,g.get? b=ao):
  ∀(k i:Nat) (s:ai),c.length- i=k->i<=c.length->St i s->(∀b o,g.get? b=aa o->s.heap.get? b=aa o)->s.heap.DictOf knd d (u7 (c.take i))->
   (∀q,Moved (d::l) G s q->q.heap.DictOf knd d (u7 c)->R (.ok (.ret .none)) q)->codeAny (model prog w) A (.builtin "dict.update.loop" ⟨[.ref d,.ref It,de i,.none],[]⟩) R s:=by
 have h:d∉l:=λz=>I (W.sub _ z);intro k;induction k with
 |zero=>
  intro i s M hi r j m x;obtain rfl:i=c.length:=by omega
  refine fH tE ?_;rw[eL l6 _];show wpAny _ A.in1 (pyNext (.ref It) >>= _) _ _ s;refine ag (W.done s _ _ r λs1 f=>?_);show wpAny _ A.in1 (bt.Dict.addKeywords d [] >>= λ_=>ret bC) _ _ s1;rw[eM] at m;refine ag (aq (aq (x s1 (f.mono λb z=>av _ z) (m.at λo e=>f.heap d _ h e))))
 |succ k N=>
  intro i s M hi r j m x;have lt:i<c.length:=by omega
  refine fH tE ?_;rw[eL l6 _];show wpAny _ A.in1 (pyNext (.ref It) >>= _) _ _ s;refine ag (W.item i s _ _ lt r λv s1 O y f=>?_);obtain⟨kk,key,u,e1,e2,a,rfl,o,Q,T⟩:=L i v O;have k1:∀b o,g.get? b=aa o->s1.heap.get? b=aa o:=λb o e=>f.heap b o (λz=>by rw[p b z] at e;cases e) (j b o e);show wpAny _ A.in1 (holding _ _ >>= _) _ _ s1;refine ag (cc ?_);refine ag (wpAny_tryCatch (pair_items ⟨a,rfl,o,k1 _ _ Q,T⟩ ?_));have U:s1.heap.DictOf knd d (u7 (c.take i)):=m.at λo e=>f.heap d _ h e;refine cc (wpAny_dictSet_pairs (hsz:=by have:=CJ (c.take i);rw[cw] at this;omega) e2 U λJ D2 sb=>?_);have D3:J.DictOf knd d (u7 (c.take (i+1))):=by rw[List.take_add_one,e1,Option.toList_some,IY];exact D2
  refine aq ⟨ad4 l6 _,N (i+1) _ (by omega) lt (W.frame _ s1 _ _ y (dP _) λb B o e=>?_) (λb o e=>?_) D3 λs4 C D4=>?_⟩
  ·rw[sb.2 b λz=>I (z▸B)];exact e
  ·show J.get? b=aa o;rw[sb.2 b λz=>by rw[z,n] at e;cases e];exact k1 b o e
  ·refine x s4 (Moved.trans W.gtrans ((f.mono λb z=>av _ z).then_heap (dP _) λb o B e=>?_) C) D4;rw[sb.2 b λz=>B (z▸aC)];exact e
theorem Ja{l:aj}{items:Array af}{ik:List (κ×af)}{Q:af->ai->Prop}(x:A.handled=ao)(g:PlainL s.heap l items)(C:items.size=ik.length)(G:ik.length<=aE)(big:dH<s.heap.objs.size)
(H:∀(i:Nat) (v:af),items[i]?=aa v->∃k key u,ik[i]?=aa (k,u)/\knd.is k key=ah/\Dw s.heap v key u)
(I:∀(h:ar) (tk:Nat),h.DictOf knd s.heap.objs.size (u7 ik)->(∀b o,s.heap.get? b=aa o->h.get? b=aa o)->Q (.ref s.heap.objs.size) {s with heap:=h,toks:=tk}):
  wpAny (model prog w) A (call (.type "dict") [.ref l]) Q E s:=by
 refine callType_codes (Q₁:=λv s1=>v=.ref s.heap.objs.size/\s1={s with heap:=s.heap.push {cls:=.type "dict",data:=.dict #[]}}) PySem.F.kt_called_dict (PySem.F.kt_typeCall_dict_1 _) PySem.F.entry_dict_init (kt_code_dict_new _ ⟨rfl,rfl⟩) ?_
 rintro v s1 ⟨rfl,rfl⟩
 have j:(s.heap.push {cls:=.type "dict",data:=.dict #[]}).DictOf knd s.heap.objs.size []:=ar.DictOf.new s.heap;refine⟨j.typeIs,PySem.F.args_dict_init_2 _ _,?_⟩;unfold bt.«dict.__init__»;refine ag ?_;unfold bt.Dict.selfAndRest;refine ag (wpAny_notOrdered_dict j.typeIs ?_);show wpAny _ _ (pure (s.heap.objs.size,[aN l])) _ _ _;refine aq ?_;show wpAny _ _ (bt.Dict.updateFrom "dict.__init__" s.heap.objs.size (.ref l) [] .none) _ _ _;unfold bt.Dict.updateFrom;obtain⟨lt,l1⟩:l<s.heap.objs.size/\(s.heap.push {cls:=.type "dict",data:=.dict #[]}).IsList l items:=⟨aD g.isList.choose_spec.1,g.isList.push _⟩;refine ag (aed l1.typeIs ?_);rw[if_pos (by decide)];obtain⟨o,n,B,J,hd,m⟩:∃o n,s.heap.get? l=aa o/\o.cls=.type "list"/\o.data=.seq items n/\o.dict=ao:=let⟨o,n,a1,a2,a3,a4⟩:=g;⟨o,n,a1,a2,a4,a3⟩;refine ag (Tv (ak _ B) J hd m x λa W9 k2=>?_);rw[if_pos (by rfl)];refine ag (adB ?_);have l2:a.IsList l items:=l1.at λo e=>k2 _ _ e;refine ag (dS l2 ?_);refine aq ⟨ad4 l6 _,?_⟩;have p:∀b o,s.heap.get? b=aa o->a.get? b=aa o:=λb o e=>k2 b o (ak _ e);have q:l<a.objs.size:=aD (p _ _ B);have r:a.get? s.heap.objs.size=aa {cls:=.type "dict",data:=.dict #[]}:=k2 _ _ (aQ _ rfl);have c:s.heap.objs.size<a.objs.size:=aD r;have W:=(adR.list (prog:=prog) (w:=w) (A:=A.in1.in1) (by simp[x]) a.objs.size l (bn q) items).toS;rw[C] at W;have L:(a.push {cls:=.type "list_iterator",data:=.fields #[.ref l,.int 0 0]}).DictOf knd s.heap.objs.size []:=(j.at λo e=>k2 _ _ e).push _;refine Na (keys:=[]) W s.heap.objs.size (by simp only [az,bi,or_false,not_or];exact⟨bn c,c9 lt⟩) (beq_eq_false_iff_ne.mpr (c9 big)) G s.heap H (cA (bf _))
  (λb M=>by rw[bP.mp M];exact cA (gk c)) (ik.length- 0) 0 _ (by omega) (bJ _) ?st ?kp ?dd ?fn
 case st=>exact⟨⟨_,aQ _ rfl,rfl,rfl⟩,l2.push _⟩
 case kp=>exactλb o e=>ak _ (p b o e)
 case dd=>rw[List.take_zero];exact L
 intro N f O;obtain⟨T,U,Y,t4,o4⟩:=N;have eg:U=s.gens:=f.gens;have ed:Y=s.drawn:=f.drawn;have eo:o4=s.os:=f.os;subst eg ed eo;refine⟨rfl,I T t4 O λb o e=>f.heap b o ?_ (ak _ (p b o e))⟩;have z:=aD e;simp only [az,bi,or_false,not_or];exact⟨bn z,bn (Nat.lt_trans z c)⟩
end
section
variable {X:Cx}
theorem P9:∀{f:List (Key×V)} {g:List (Key×af)} {a:List (Key×V)} {b:List (Key×af)},KV f g->KV a b->KV (vB a f) (g.foldl (λd c=>stored d c.1 c.2) b)
 |_,_,a,b,.nil,h=>h
 |p::f,q::g,a,b,.cons r t,h=>by show KV (vB (zJ a p.1 p.2) f) (g.foldl (λd c=>stored d c.1 c.2) (stored b q.1 q.2));have e:q.1=p.1:=r.1.symm;rw[e];exact P9 t (h.put p.1 r.2)
theorem Gi(j:X.A.handled=ao):nJ X (.type "dict") (λxs H Q=>∃p c b,xs=[.ref p]/\pH X.K H p c/\Dx X.K H c b/\∀l,H l=ao->Q (.ref l) (upd H l (.dK (vB [] b)))):=by intro pins s σ H xs us Q I r h;obtain⟨p,c,b,rfl,m,n,q⟩:=h;obtain⟨u,rfl,o⟩:=vals1 r;cases o;obtain⟨g8,f,pl,B⟩:=I.list m;have C:=f.length;obtain⟨e,g,x,y⟩:=yO I n f;have E:=g.length;have a:KV (vB [] b) (u7 e):=P9 g .nil;have G:=a.length;have sl:=CJ e;refine Ja (knd:=kz X.prog X.w) (ik:=e) j pl (by rw[aT,x]) (by omega) I.big (λi v z=>y i v (by simpa using z)) λL tk D k=>?_;exact⟨.ref s.heap.objs.size,_,I.laid (t':=tk) k (bf _) (WA (by omega) (beq_eq_false_iff_ne.mpr (bU (bn I.big))) a D),rfl,q _ (I.iJ.fresh (bf _))⟩
end
end L2
namespace L3
open PySem PySem.Spec PyProof.Rows L2
section
variable {X:Cx}
noncomputable def vN(b:List (Key×D))(acc:List Key×List D):List Key×List D:=b.foldl (λa kd=>kB kd.1 kd.2 a.1 a.2) acc
theorem Gj{K:W.Frag}{α:List aj}{H:Hp}:∀(b:List (Key×D)) (us:List V) (a:List Key) (ds:List D) (c:List V),gA K α H (b.map (·.2)) us->gA K α H ds c->a.length=ds.length->
  ∃ws,vB (a.zip c) ((b.map (·.1)).zip us)=(vN b (a,ds)).1.zip ws/\(vN b (a,ds)).1.length=(vN b (a,ds)).2.length/\gA K α H (vN b (a,ds)).2 ws
 |[],us,a,ds,c,h,g,l=>⟨c,rfl,l,g⟩
 |kd::b,us,a,ds,c,h,g,l=>by rw[aR] at h;unfold gA at h;obtain⟨v,r,rfl,e,f⟩:=h;obtain⟨ws,i,j,m⟩:=MH (k:=kd.1) e a ds c g l;obtain⟨zs,n,o,p⟩:=Gj b r _ _ ws f m j;refine⟨zs,?_,o,p⟩;rw[aR,cJ];show vB (zJ (a.zip c) kd.1 v) _=_;rw[i];exact n
noncomputable def Lx:GF:=λds M Q=>match ds with
 |[d]=>∃a:List (Key×D),vw M d=.lst (a.map prD)/\Q (.lV (vN a ([],[])).1 (vN a ([],[])).2) M
 |_=>False
theorem Nb(f:X.A.handled=ao):JBF X (.type "dict") Lx:=by
 refine⟨λds M P Q w q=>?_,λpins s σ H xs us Q I rs h=>?_⟩
 ·match ds,q with
  |[d],⟨b,c,q⟩=>exact⟨b,c,w _ _ q⟩
 ·obtain⟨F,α,M,ds,o,e,h⟩:=h;match ds,h,e with
  |[d],⟨b,c,q⟩,e=>
   obtain⟨v,g,i⟩:=tq e;subst g;obtain⟨a,j,rfl,l,m⟩:=j6 o i c;obtain⟨ws,n,r⟩:=Ao hV m;obtain⟨zs,u,x,y⟩:=Gj b ws [] [] [] r gA.nil rfl;refine Gi f pins s σ H _ us Q I rs ⟨a,j,_,rfl,pH.of l,n,λp z=>?_⟩;rw[show vB [] ((b.map (·.1)).zip ws)=_ from u];exact q p _ α H Ext.refl o z ⟨zs,rfl,x,y⟩
end
end L3
namespace L2
open PySem PySem.Spec PyProof.Rows
section
variable {X:Cx}
theorem Nc(w:X.calm=ah):nJ X (.builtin "max") (λxs H Q=>∃(a:aj) (i j:Int),xs=[V.ref a]/\xL X.K H a [V.int i,V.int j]/\Q (.int (if j>i then j else i)) H):=by
 intro pins s σ H xs us Q I r h;obtain⟨a,i,j,rfl,x,q⟩:=h;obtain⟨u,rfl,B⟩:=vals1 r;cases B;obtain⟨g8,C,p,L⟩:=I.tuple x;have E:X.A.in1.handled=ao:=I.ok.hd w;have g:a<s.heap.objs.size:=by obtain⟨o,e,_⟩:=p;exact aD e
 obtain⟨M,N,rfl,⟨t1,r1⟩,⟨f,r2⟩⟩:=vals2 C;subst r1 r2;have l:∀(n:Nat) (v:af),(#[fg i t1,fg j f]:Array af)[n]?=aa v->∃t,v=fg ([i,j].getD n 0) t:=λn v c=>by
  match n with
  |0=>simp at c;exact⟨t1,c.symm⟩
  |1=>simp at c;exact⟨f,c.symm⟩
  |n+2=>simp at c
 refine call_max_walk (dM p ?_);refine⟨s.heap.objs.size,_,_,_,_,_,_,rfl,adR.tuple E s.heap.objs.size a (bn g) #[.int i t1,.int j f],⟨⟨_,aQ _ rfl,rfl,rfl⟩,p.push _⟩,λb m=>?_,Nat.zero_lt_succ _,CmpOf.ints_gt (λn=>[i,j].getD n 0) l,λv G tk J kp=>?_⟩
 ·show b<(s.heap.push _).objs.size;rw[bG];simp only [az,bi,or_false] at m;rcases m with rfl|rfl
  ·exact eO _
  ·exact dO g
 ·have k:∀b o,s.heap.get? b=aa o->G.get? b=aa o:=λb o z=>kp b o (λy=>by rw[bP.mp y] at z;exact absurd (aD z) (cu _)) (ak _ z);obtain⟨t,rfl⟩:=l _ _ J;refine⟨.int (if j>i then j else i),H,I.kept (t':=tk) k,⟨t,?_⟩,q⟩;congr 1;show[i,j].getD (argBest (λa b=>decide ([i,j].getD a 0>[i,j].getD b 0)) 1) 0=_;have e:argBest (λa b=>decide ([i,j].getD a 0>[i,j].getD b 0)) 1=if decide (j>i)=ah then 1 else 0:=rfl;rw[e];by_cases h:j>i
  ·rw[if_pos (decide_eq_true h),if_pos h];rfl
  ·rw[if_neg (λz=>h (of_decide_eq_true z)),if_neg h];rfl
end
end L2
namespace L3
open PySem PySem.Spec PyProof.Rows L2
section
variable {X:Cx}
noncomputable def VR:GN:=λds M Q=>match ds with
 |[.tup [.int i,.int j]]=>Q (.int (if j>i then j else i)) M
 |_=>False
theorem T7(c:X.calm=ah:=by rfl):JB X (.builtin "max") VR:=by
 refine⟨λds M P Q w q=>?_,λpins s σ H xs us Q I rs h=>?_⟩
 ·match ds,q with
  |[.tup [.int i,.int j]],q=>exact w _ _ q
 ·obtain⟨F,α,M,ds,o,b,h⟩:=h;match ds,h,b with
  |[.tup [.int i,.int j]],q,b=>
   obtain⟨v,e,f⟩:=tq b;subst e;obtain⟨a,m,rfl,g,l⟩:=mI o f rfl;obtain⟨v1,n,rfl,r1,r2⟩:=Ad l;unfold Rep at r1 r2;subst r1 r2;exact Nc c pins s σ H _ us Q I rs ⟨a,i,j,rfl,g,vK.now o q i6⟩
end
end L3
namespace L3
open PySem PySem.Spec L2
section
variable {ta tb tc:DE} {δ:kF} {M:Ms} {Q:DK} {R:Bool->Ms->Prop} {b:Bool} {g g':G2} {y:D}
noncomputable def aaO(tb:DE)(δ:kF)(Q:DK):DK:=λx M1=>match x with|.bl ah=>tb δ M1 Q|.bl am=>Q (.bl am) M1|_=>False
noncomputable def aaP(Q:DK):DK:=λx M1=>match x with|.bl b=>Q (.bl (!b)) M1|_=>False
noncomputable def VS(R:Bool->Ms->Prop):DK:=λx M1=>match x with|.bl b=>R b M1|_=>False
noncomputable def Qa(g':G2)(tc:DE)(δ:kF)(y:D)(Q:DK):DK:=λz a=>match z with|.bl ah=>tc δ a λw c=>g' y w c Q|.bl am=>Q (.bl am) a|_=>False
theorem T8:ni ta tb δ M Q=ta δ M (aaO tb δ Q):=rfl
theorem T9:KZ ta δ M Q=ta δ M (aaP Q):=rfl
theorem Ua:gK ta δ M R=ta δ M (VS R):=rfl
theorem Qb:kG g g' ta tb tc δ M Q=ta δ M λx M1=>tb δ M1 λy M2=>g x y M2 (Qa g' tc δ y Q):=rfl
theorem Ub:aaO tb δ Q (.bl b) M=if b=ah then tb δ M Q else Q (.bl am) M:=by cases b<;>rfl
theorem Uc:aaP Q (.bl b) M=Q (.bl (!b)) M:=rfl
theorem Qd:VS R (.bl b) M=R b M:=rfl
theorem Nd:Qa g' tc δ y Q (.bl b) M=if b=ah then tc δ M (λw a=>g' y w a Q) else Q (.bl am) M:=by cases b<;>rfl
theorem Qe{a c:Int}{P:Bool->Prop}:FD (.int a) (.int c) P=P (a==c):=rfl
theorem Ud{i j:Int}:wC (.int i) (.int j) M Q=Q (.bl (decide (i<=j))) M:=rfl
theorem Ue{i j:ay}:wC (.str i) (.str j) M Q=Q (.bl (!decide (j.cps.toList<i.cps.toList))) M:=rfl
theorem Uf{K:W.Frag}{d:D}{n:String}:lg K [d,.ty n] M Q=∃b,u6 n (vw M d)=aa b/\Q (.bl b) M:=rfl
theorem Qf{d:D}:lu [d] M Q=∃n:Nat,MC (vw M d)=aa n/\Q (.int n) M:=rfl
theorem zp{β:Type}{a:β}{p:β->Prop}:(∃b,aa a=aa b/\p b)=p a:=by simp
theorem Jb{d:D}:gv 0 (aa d::δ) M Q=Q d M:=rfl
theorem Nf{o:Option D}{i:Nat}:gv (i+1) (o::δ) M Q=gv i δ M Q:=rfl
theorem Ay{fr:List (Option Nat)}{g:DG}{a:DE}{st:Ms->Prop}{xs:List D}(p:D->Bool)(f:st M)(i:xs.length<=aE)
(h:∀x∈xs,∀c:Option D->kF->Ms->Prop,(∀e,xI fr e=δ->c (aa (.bl (p x))) e M)->qI g lq a x δ M c)(q:Q (.bl (xs.all p)) M):
  jX fr g lq a st (λds j=>IE [.lst ds] j Q) xs [] δ M:=by refine uy (λx=>.bl (p x)) f xs [] (by simpa using i) h ?_;show∃bs:List Bool,_/\_;refine⟨xs.map p,by simp[vw],?_⟩;rw[show(xs.map p).all id=xs.all p by simp[eG]];exact q
end
section
variable {M:Ms} {b:Bool} {i:Int} {x:ay} {n:String} {ds:List D} {ns:List Int} {ks:List Key} {C:aj} {ms:List ay}
theorem Gk:u6 "int" .non=aa am:=rfl
theorem Jc:u6 "int" (.bl b)=aa ah:=rfl
theorem Gm:u6 "int" (.int i)=aa ah:=rfl
theorem Gn:u6 "int" (.str x)=aa am:=rfl
theorem Gq:u6 "int" (.tup ds)=aa am:=rfl
theorem Gr:u6 "int" (.lst ds)=aa am:=rfl
theorem Gu:u6 "int" (.lV ks ds)=aa am:=rfl
theorem DR:u6 "bool" .non=aa am:=rfl
theorem Gv:u6 "bool" (.bl b)=aa ah:=rfl
theorem DU:u6 "bool" (.int i)=aa am:=rfl
theorem DV:u6 "bool" (.str x)=aa am:=rfl
theorem DW:u6 "bool" (.tup ds)=aa am:=rfl
theorem DX:u6 "bool" (.lst ds)=aa am:=rfl
theorem DY:u6 "bool" (.lV ks ds)=aa am:=rfl
theorem Gw:u6 "str" .non=aa am:=rfl
theorem Jd:u6 "str" (.bl b)=aa am:=rfl
theorem Gx:u6 "str" (.int i)=aa am:=rfl
theorem Gy:u6 "str" (.str x)=aa ah:=rfl
theorem Gz:u6 "str" (.tup ds)=aa am:=rfl
theorem GA:u6 "str" (.lst ds)=aa am:=rfl
theorem GB:u6 "str" (.lV ks ds)=aa am:=rfl
theorem BK:u6 "tuple" (.tup ds)=aa ah:=rfl
theorem DZ:u6 "list" .non=aa am:=rfl
theorem GC:u6 "list" (.bl b)=aa am:=rfl
theorem D5:u6 "list" (.int i)=aa am:=rfl
theorem D6:u6 "list" (.str x)=aa am:=rfl
theorem D7:u6 "list" (.tup ds)=aa am:=rfl
theorem D8:u6 "list" (.lst ds)=aa ah:=rfl
theorem D9:u6 "list" (.lV ks ds)=aa am:=rfl
theorem XR:vw M .non=.non:=rfl
theorem aaQ:vw M (.bl b)=(.bl b):=rfl
theorem aaR:fz M (.bl b)=(.bl b):=rfl
theorem aaS:nl (.bl b)=ah:=rfl
theorem XT:vw M (.int i)=(.int i):=rfl
theorem XU:vw M (.str x)=(.str x):=rfl
theorem XV:nl (.str x)=ah:=rfl
theorem XW:vw M (.tup ds)=(.tup ds):=rfl
theorem XX:vw M (.lst ds)=(.lst ds):=rfl
theorem XY:vw M (.lV ks ds)=(.lV ks ds):=rfl
theorem XZ:kI []=ah:=rfl
theorem Ug{d:D}{ds:List D}:kI (d::ds)=(nl d&&kI ds):=rfl
end
theorem X0{ds:List D}:MC (.lst ds)=aa ds.length:=rfl
theorem X1{ds:List D}:MC (.tup ds)=aa ds.length:=rfl
theorem X2{x:ay}:MC (.str x)=if x.length<=aE then aa x.length else ao:=rfl
theorem X3{n:Nat}{gs:K0}{ds:List D}{a:kF}{M:Ms}{Q:kF->Ms->Prop}:j4 n gs (.tup ds) a M Q=(ds.length=n/\gs ds a M Q):=rfl
theorem Uh{g:DG}{gs:K0}{d:D}{ds:List D}{a:kF}{M:Ms}{Q:kF->Ms->Prop}:ib g gs (d::ds) a M Q=g d a M λb M1=>gs ds b M1 Q:=rfl
theorem X4{a:kF}{M:Ms}{Q:kF->Ms->Prop}:j0 [] a M Q=Q a M:=by unfold j0;simp
end L3
namespace FJ
open PySem PySem.Spec L2 L3
local macro_rules | `(tactic| walk_at "rd_at") => `(tactic| simp (decide := ah) only [kf, cl, gY, iD, gR, dC, iw, iB, k9, Ir, gB, gu, iM, ia, gM, qf, Option.getD_some, List.getElem?_cons_zero, T8, T9, Ua, Qb, Ub, Uc, Nd, ze, Qe, Ud, Ue, Uf, Qf, X3, Uh, X4, X0, X1, X2, Jb, Nf, Gk, Jc, Gm, Gn, Gq, Gr, Gu, DR, Gv, DU, DV, DW, DX, DY, Gw, Jd, Gx, Gy, Gz, GA, GB, BK, DZ, GC, D5, D6, D7, D8, D9, lm, aR, cO, aV, aY, aw, cW, bc, aU, aP, zp, true_and, bE, Bool.and_true, XR, aaQ, aaR, aaS, XT, XU, XV, XW, XX, XY, XZ, Ug])
noncomputable def vO(K:W.Frag):DS:=(iw (ni (iM (lg K) (gu (gv 0) (gu (dC (.ty "int")) gB))) (KZ (iM (lg K) (gu (gv 0) (gu (dC (.ty "bool")) gB))))))
noncomputable def yg(K:W.Frag):DS:=(gY (iB (Ir (k9 (gK (iM (lg K) (gu (gv 0) (gu (dC (.ty "str")) gB))))) (k9 (gK (kG wC wC (dC (.int 1)) (iM lu (gu (gv 0) gB)) (dC (.int 8)))))) (iw (dC (.bl am))) ia)
 (iw (iM IE (gu (ie (iY [ao] (iZ (gv 0)) (gM 0) lq (kG wC wC (dC (.str "a")) (gv 0) (dC (.str "z"))))) gB))))
noncomputable def Az(K:W.Frag):DS:=(VF K "told" (gv 0) (gv 1))
noncomputable def yS(K:W.Frag):DS:=(iw (iM tu (gu (ie (iY [ao] (iZ (aao K "told" (gv 0))) (gM 0) lq (dIf (gK (iM (lg K) (gu (gv 0) (gu (dC (.ty "tuple")) gB)))) (xW (Xj x9 (gu (gv 0) gB))) (gv 0)))) gB)))
noncomputable def u8:DS:=(iw (dC (.bl am)))
noncomputable def pO:DS:=(iw (dC (.bl ah)))
noncomputable def w5:DS:=(iw (dC (.bl am)))
noncomputable def vP:DS:=(iw (dC (.bl am)))
noncomputable def rz(K:W.Frag)(a:GN):DS:=(gY (iB (Ir (k9 (gK (iM (lg K) (gu (gv 1) (gu (dC (.ty "list")) gB))))) (k9 (gK (kG wC wC (dC (.int 1)) (iM lu (gu (gv 1) gB)) (dC (.int 60)))))) (iw (dC (.bl am))) ia)
 (iw (iM IE (gu (ie (iY [ao,aa 0] (iZ (gv 1)) (gM 0) lq (iM a (gu (gv 1) (gu (gv 0) gB))))) gB))))
noncomputable def mK(K:W.Frag)(c:GN)(a:GN)(b:GN):DS:=(gY (iB (gK (gR mF (gv 0) (dC (.str "word")))) (iw (iM c (gu (gv 1) gB))) ia)
 (gY (iB (gK (gR mF (gv 0) (dC (.str "box")))) (iw (ni (iM a (gu (gv 1) gB)) (kG wC wC (dC (.int 0)) (gv 1) (dC (.int 3))))) ia)
 (gY (iB (gK (gR mF (gv 0) (dC (.str "number")))) (iw (ni (iM a (gu (gv 1) gB)) (kG wC wC (dC (.int (-2147483648))) (gv 1) (dC (.int 2147483647))))) ia)
 (gY (iB (gK (gR mF (gv 0) (dC (.str "truth")))) (iw (iM (lg K) (gu (gv 1) (gu (dC (.ty "bool")) gB)))) ia)
 (gY (iB (gK (gR mF (gv 0) (dC (.str "numbers")))) (iw (iM b (gu (dC (.str "number")) (gu (gv 1) gB)))) ia)
 (iw (iM b (gu (dC (.str "word")) (gu (gv 1) gB)))))))))
noncomputable def w8(K:W.Frag)(a:aj)(b:List (ay×D))(c:GN):DS:=(gY (iB (Ir (k9 (gK (iM (lg K) (gu (gv 0) (gu (dC (.ty "tuple")) gB))))) (gK (gR mF (iM lu (gu (gv 0) gB)) (dC (.int 0))))) (iw (dC (.bl am))) ia)
 (gY (iB (Ir (k9 (gK (iM (lg K) (gu (gR km (gv 0) (dC (.int 0))) (gu (dC (.ty "str")) gB))))) (gK (gR (Ak ah a b) (gR km (gv 0) (dC (.int 0))) (dC (.cls a))))) (iw (dC (.bl am))) ia)
 (gY (iD 1 (gR (Aj a b) (dC (.cls a)) (gR km (gv 0) (dC (.int 0)))))
 (gY (iB (gK (gR ze (iM lu (gu (gv 0) gB)) (gR iQ (dC (.int 1)) (iM lu (gu (gv 1) gB))))) (iw (dC (.bl am))) ia)
 (iw (iM IE (gu (ie (iY [ao,ao] (VC (gu (gv 1) (gu (IC (gv 0) (oP (dC (.int 1))) j7) gB))) (j4 2 (ib (gM 0) (ib (gM 1) j0))) lq (iM c (gu (gv 0) (gu (gv 1) gB))))) gB)))))))
noncomputable def AA(a:aj)(b:GN)(c:aj)(e:GN)(f:aj)(g:GN)(h:aj)(i:GN)(j:aj)(l:GN)(m:aj)(n:GN):DS:=(gY (iD 1 (gR km (gv 0) (dC (.int 0))))
 (gY (iB (gK (gR mF (gv 1) (dC (.str "set")))) (iw (qg a b (gu (gv 0) gB))) ia)
 (gY (iB (gK (gR mF (gv 1) (dC (.str "alike")))) (iw (qg c e (gu (gv 0) gB))) ia)
 (gY (iB (gK (gR (NU am) (gv 1) (hW (gu (dC (.str "back")) (gu (dC (.str "stop")) gB))))) (iw (qg f g (gu (gv 0) gB))) ia)
 (gY (iB (gK (gR (NU am) (gv 1) (hW (gu (dC (.str "jump")) (gu (dC (.str "jumpby")) gB))))) (iw (qg h i (gu (gv 0) gB))) ia)
 (gY (iB (gK (gR (NU am) (gv 1) (hW (gu (dC (.str "jumpif")) (gu (dC (.str "call")) (gu (dC (.str "load")) gB)))))) (iw (qg j l (gu (gv 0) gB))) ia)
 (iw (qg m n (gu (gv 0) gB)))))))))
noncomputable def AB(K:W.Frag)(a:GN)(b:aj)(c:GN)(e:aj)(f:GN)(g:aj)(h:GN)(i:GN):DS:=(gY (iB (k9 (gK (iM a (gu (gv 0) gB)))) (iw (dC .non)) ia)
 (gY (iD 1 (iM tu (gu (ie (iY [ao] (iZ (gv 0)) (gM 0) lq (dIf (gK (iM (lg K) (gu (gv 0) (gu (dC (.ty "list")) gB)))) (iM tu (gu (gv 0) gB)) (gv 0)))) gB)))
 (gY (iB (gK (gR mF (gR km (gv 1) (dC (.int 0))) (dC (.str "mark")))) (iw (qg b c (gu (gv 1) gB))) ia)
 (gY (iB (gK (gR mF (gR km (gv 1) (dC (.int 0))) (dC (.str "numbers")))) (iw (qg e f (gu (gv 1) gB))) ia)
 (gY (iB (gK (gR mF (gR km (gv 1) (dC (.int 0))) (dC (.str "table")))) (iw (qg g h (gu (gv 1) gB))) ia)
 (iw (iM i (gu (gv 1) gB))))))))
noncomputable def GD(pre:D->Prop)(f:D->D):GP:=λds Q=>match ds with|[d]=>pre d/\Q (f d)|_=>False
noncomputable def Ea(pre:D->D->Prop)(f:D->D->D):GP:=λds Q=>match ds with|[d,e]=>pre d e/\Q (f d e)|_=>False
theorem CK{pre:D->Prop}{f:D->D}:jo (GD pre f):=λds P Q w q=>match ds,q with|[_],q=>⟨q.1,w _ q.2⟩
theorem yh{pre:D->D->Prop}{f:D->D->D}:jo (Ea pre f):=λds P Q w q=>match ds,q with|[_,_],q=>⟨q.1,w _ q.2⟩
theorem Ec{pre:D->Prop}{f:D->D}{g:GP}(h:∀d Q,pre d->Q (f d)->g [d] Q):∀ds Q,GD pre f ds Q->g ds Q:=λds Q q=>match ds,q with|[_],q=>h _ _ q.1 q.2
theorem Ed{pre:D->D->Prop}{f:D->D->D}{g:GP}(h:∀d e Q,pre d e->Q (f d e)->g [d,e] Q):∀ds Q,Ea pre f ds Q->g ds Q:=λds Q q=>match ds,q with|[_,_],q=>h _ _ _ q.1 q.2
mutual
noncomputable def gd:D->Bool
 |.non|.bl _|.int _=>ah
 |.str x=>decide (x.length<=1000)
 |.tup ds|.lst ds=>Ly ds&&decide (ds.length<=1000)
 |.lV _ ds=>kI ds
 |.ty _|.qc _|.loc _|.cls _|.ins _ _ _|.exc _ _ _=>am
noncomputable def Ly:List D->Bool
 |[]=>ah
 |d::ds=>gd d&&Ly ds
end
theorem zq:∀ds:List D,Ly ds=ds.all gd
 |[]=>rfl
 |d::ds=>by unfold Ly;rw[cT,zq ds]
mutual
theorem u9:∀d:D,gd d=ah->nl d=ah
 |.non,_=>rfl|.bl _,_=>rfl|.int _,_=>rfl|.str _,_=>rfl
 |.tup ds,h=>by unfold gd at h;rw[aH] at h;unfold nl;exact Je ds h.1
 |.lst ds,h=>by unfold gd at h;rw[aH] at h;unfold nl;exact Je ds h.1
 |.lV a ds,h=>by unfold gd at h;unfold nl;exact h
 |.ty _,h=>by unfold gd at h;cases h
 |.qc _,h=>by unfold gd at h;cases h
 |.loc _,h=>by unfold gd at h;cases h
 |.cls _,h=>by unfold gd at h;cases h
 |.exc _ _ _,h=>by unfold gd at h;cases h
 |.ins _ _ _,h=>by unfold gd at h;cases h
theorem Je:∀ds:List D,Ly ds=ah->kI ds=ah
 |[],_=>rfl
 |d::ds,h=>by unfold Ly at h;rw[aH] at h;unfold kI;rw[u9 d h.1,Je ds h.2];rfl
end
noncomputable def AD:D->Bool
 |.int _=>ah
 |_=>am
noncomputable def low(x:ay):Bool:=x.cps.toList.all λc=>decide (97<=c)&&decide (c<=122)
noncomputable def nC(x:ay):Bool:=decide (1<=x.length)&&decide (x.length<=8)&&low x
noncomputable def pQ:D->Bool
 |.str x=>nC x
 |_=>am
abbrev Gd(d:D):Prop:=gd d=ah
noncomputable def jN:GP:=GD Gd λd=>.bl (AD d)
noncomputable def kq:GP:=GD Gd λd=>.bl (pQ d)
theorem GG(K:W.Frag):∀ds Q,jN ds Q->kf 1 1 (vO K) ds Q:=Ec λd Q h q=>by
 unfold vO;cases d<;>first|(unfold Gd gd at h;cases h;done)|skip
 all_goals walk_at "rd_at";exact q
theorem ea(c:Nat):(decide (([c]:List Nat)<(cS "a").cps.toList))=decide (c<97):=by show decide ([c]<[97])=_;simp[List.cons_lt_cons_iff]
theorem ez(c:Nat):(decide ((cS "z").cps.toList<([c]:List Nat)))=decide (122<c):=by show decide ([122]<[c])=_;simp[List.cons_lt_cons_iff]
theorem Jf(K:W.Frag):∀ds Q,kq ds Q->kf 1 1 (yg K) ds Q:=Ec λd Q h q=>by
 unfold yg;cases d with
 |str x=>
  have h:x.length<=1000:=by unfold Gd gd at h;simpa using h
  have g:x.length<=aE:=aS h (by decide);walk_at "rd_at";simp only [g,if_true,zp];have n1:(1<=(x.length:Int))↔1<=x.length:=by omega
  have n2:((x.length:Int)<=8)↔x.length<=8:=by omega
  simp only [n1,n2];by_cases b:1<=x.length
  ·by_cases f:x.length<=8
   ·simp only [b,f,decide_true,if_true,dF,b5,if_false];refine⟨_,rfl,rfl,Ay (λd=>match d with|.str y=>low y|_=>am) rfl (by rw[ap,eV];exact g) (λy i j a=>?_) ?_⟩
    ·obtain⟨c,l,rfl⟩:=du.mp i;unfold qI;walk_at "rd_at";simp only [ea,ez];have a:=a [aa (.str ⟨#[c]⟩)] rfl;have e:low ⟨#[c]⟩=(decide (97<=c)&&decide (c<=122)):=by simp[low]
     simp only [e] at a;by_cases a1:c<97
     ·simp only [a1,decide_true,dF,b5,if_false];simp only [show decide (97<=c)=am by simp;omega,eC] at a;exact a
     ·simp only [a1,decide_false,fD,if_true];simp only [show decide (97<=c)=ah by simp;omega,bE] at a;have:(!decide (122<c))=decide (c<=122):=by by_cases a2:122<c<;>simp[a2]<;>omega
      rw[this];exact a
    ·have e:(x.cps.toList.map λc=>D.str ⟨#[c]⟩).all (λd=>match d with|.str y=>low y|_=>am)=nC x:=by unfold nC low;simp only [b,f,decide_true,bE,eG];congr 1;funext c;simp
     rw[e];walk_at "rd_at";exact q
   ·simp only [b,f,decide_true,decide_false,if_true,fD];have:pQ (.str x)=am:=by unfold pQ nC;simp[f]
    rw[this] at q;exact q
  ·simp only [b,decide_false,b5,if_false];have:pQ (.str x)=am:=by unfold pQ nC;simp[b]
   rw[this] at q;exact q
 |_=>first|(unfold Gd gd at h;cases h;done)|(walk_at "rd_at";exact q)
noncomputable def X5:D->Bool
 |.int i=>decide (0<=i)&&decide (i<=3)
 |_=>am
noncomputable def X6:D->Bool
 |.int i=>decide (-2147483648<=i)&&decide (i<=2147483647)
 |_=>am
noncomputable def blD:D->Bool
 |.bl _=>ah
 |_=>am
noncomputable def xj(f:ay)(d:D):Bool:=if f="word" then pQ d else if f="box" then X5 d else if f="number" then X6 d else blD d
noncomputable def Ee(f:ay):D->Bool
 |.lst ds=>decide (1<=ds.length)&&decide (ds.length<=60)&&ds.all (xj f)
 |_=>am
noncomputable def flat(f:ay):Bool:=f=="word"||f=="box"||f=="number"||f=="truth"
noncomputable def VT(f:ay)(d:D):Bool:=if f="numbers" then Ee "number" d else if flat f=ah then xj f d else Ee "word" d
noncomputable def zr:GP:=Ea (λf d=>(∃x,f=.str x/\(x="word"\/x="box"\/x="number"\/x="truth"))/\Gd d) λf d=>match f with|.str f=>.bl (xj f d)|_=>.non
noncomputable def Qg:GP:=Ea (λf d=>(∃x,f=.str x/\(x="word"\/x="number"))/\Gd d) λf d=>match f with|.str f=>.bl (Ee f d)|_=>.non
noncomputable def AE:GP:=Ea (λf d=>(∃x,f=.str x/\(x="word"\/x="box"\/x="number"\/x="truth"\/x="numbers"\/x="words"))/\Gd d) λf d=>match f with|.str f=>.bl (VT f d)|_=>.non
theorem Qh{K:W.Frag}{g:GN}{d:D}{Q:D->Prop}(h:Gd d)(q:Q (.bl (X5 d))):kf 2 2 (mK K (cl kq) (cl jN) g) [.str "box",d] Q:=by
 have n:=u9 d h;unfold mK;walk_at "rd_at";unfold jN GD;simp only [n,true_and];refine⟨h,?_⟩;cases d<;>first|exact⟨rfl,q⟩|skip
 case int i=>
  simp only [AD];walk_at "rd_at";by_cases a:0<=i<;>by_cases b:i<=3<;>simp[X5,a,b] at q ⊢<;>exact q
theorem Qi{K:W.Frag}{g:GN}{d:D}{Q:D->Prop}(h:Gd d)(q:Q (.bl (X6 d))):kf 2 2 (mK K (cl kq) (cl jN) g) [.str "number",d] Q:=by
 have n:=u9 d h;unfold mK;walk_at "rd_at";unfold jN GD;simp only [n,true_and];refine⟨h,?_⟩;cases d<;>first|exact⟨rfl,q⟩|skip
 case int i=>
  simp only [AD];walk_at "rd_at";by_cases a:-2147483648<=i<;>by_cases b:i<=2147483647<;>simp[X6,a,b] at q ⊢<;>exact q
theorem Qj{K:W.Frag}{g:GN}{d:D}{Q:D->Prop}(h:Gd d)(q:Q (.bl (pQ d))):kf 2 2 (mK K (cl kq) (cl jN) g) [.str "word",d] Q:=by have n:=u9 d h;unfold mK;walk_at "rd_at";unfold kq GD;simp only [n,true_and];exact⟨h,rfl,q⟩
theorem VU{K:W.Frag}{g:GN}{d:D}{Q:D->Prop}(h:Gd d)(q:Q (.bl (blD d))):kf 2 2 (mK K (cl kq) (cl jN) g) [.str "truth",d] Q:=by
 unfold mK;cases d<;>first|(unfold Gd gd at h;cases h;done)|skip
 all_goals walk_at "rd_at";exact q
theorem Qk(K:W.Frag)(g:GN):∀ds Q,zr ds Q->kf 2 2 (mK K (cl kq) (cl jN) g) ds Q:=Ed λf d Q h q=>by
 obtain⟨⟨x,rfl,h⟩,hd⟩:=h;rcases h with rfl|rfl|rfl|rfl
 ·exact Qj hd q
 ·exact Qh hd q
 ·exact Qi hd q
 ·exact VU hd q
theorem Lz{ds:List D}(h:Ly ds=ah){d:D}(m:d∈ds):Gd d:=by rw[zq,bM] at h;exact h d m
theorem aaT(K:W.Frag):∀ds Q,Qg ds Q->kf 2 2 (rz K (cl zr)) ds Q:=Ed λf d Q h q=>by
 obtain⟨⟨x,rfl,h⟩,hd⟩:=h;unfold rz;cases d with
 |lst ds=>
  have c:Ly ds=ah/\ds.length<=1000:=by unfold Gd gd at hd;simpa using hd
  walk_at "rd_at";have n1:(1<=(ds.length:Int))↔1<=ds.length:=by omega
  have n2:((ds.length:Int)<=60)↔ds.length<=60:=by omega
  simp only [n1,n2];by_cases a:1<=ds.length
  ·by_cases b:ds.length<=60
   ·simp only [a,b,decide_true,if_true,dF,b5,if_false];refine⟨_,rfl,rfl,Ay (xj x) rfl (aS c.2 (by decide)) (λy g j i=>?_) ?_⟩
    ·have e:=Lz c.1 g;unfold qI;walk_at "rd_at";unfold zr Ea;simp only [u9 y e,true_and];refine⟨⟨⟨x,rfl,?_⟩,e⟩,i _ rfl⟩;rcases h with h|h
     ·exact .inl h
     ·exact .inr (.inr (.inl h))
    ·have:Ee x (.lst ds)=ds.all (xj x):=by unfold Ee;simp[a,b]
     rw[<-this];walk_at "rd_at";exact q
   ·simp only [a,b,decide_true,decide_false,if_true,fD];have:Ee x (.lst ds)=am:=by unfold Ee;simp[b]
    simp only [this] at q;exact q
  ·simp only [a,decide_false,b5,if_false];have:Ee x (.lst ds)=am:=by unfold Ee;simp[a]
   simp only [this] at q;exact q
 |_=>first|(unfold Gd gd at hd;cases hd;done)|(walk_at "rd_at";exact q)
theorem Ui(K:W.Frag):∀ds Q,AE ds Q->kf 2 2 (mK K (cl kq) (cl jN) (cl Qg)) ds Q:=Ed λf d Q h q=>by
 obtain⟨⟨x,rfl,h⟩,hd⟩:=h;rcases h with rfl|rfl|rfl|rfl|rfl|rfl
 ·exact Qj hd q
 ·exact Qh hd q
 ·exact Qi hd q
 ·exact VU hd q
 ·unfold mK;walk_at "rd_at";unfold Qg Ea;simp only [u9 d hd,true_and];exact⟨⟨⟨_,rfl,.inr rfl⟩,hd⟩,rfl,q⟩
 ·unfold mK;walk_at "rd_at";unfold Qg Ea;simp only [u9 d hd,true_and];exact⟨⟨⟨_,rfl,.inl rfl⟩,hd⟩,rfl,q⟩
open PySem PySem.Spec PyProof.Rows.KTD L2 L3
noncomputable def fm(l:List ay):D:=.tup (l.map .str)
noncomputable def AF:List (ay×D):=[("mark",fm ["word","truth"]),("set",fm ["box","number"]),("add",fm ["box","box"]),("take",fm ["box","box"]),("say",fm ["box"]),("ask",fm ["box"]),("jump",fm ["word"]),("jumpif",fm ["box","word"]),("call",fm ["word"]),("back",fm []),("stop",fm []),("load",fm ["box","box","word"]),("jumpby",fm ["box","word"]),("alike",fm ["box","word","word"]),("numbers",fm ["numbers"]),("table",fm ["words"])]
def six (x:ay):Prop:=x="word"\/x="box"\/x="number"\/x="truth"\/x="numbers"\/x="words"
theorem yT{a b:Type} [DecidableEq a]{k:a}{d:b}:∀{l:List (a×b)},fh k l=aa d->(k,d)∈l
 |[],h=>by simp[fh] at h
 | (k',c)::l,h=>by
  unfold fh at h;split at h
  ·rename_i e;cases h;first|(subst e;exact aC)|(simp at e;subst e;exact aC)
  ·exact av _ (yT h)
theorem Ql{k:ay}{d:D}(h:fh k AF=aa d):∃fs:List ay,d=fm fs/\fs.length<=3/\∀f∈fs,six f:=by have m:=yT h;unfold AF at m;simp only [az,Prod.mk.injEq,bi,or_false] at m;rcases m with⟨_,rfl⟩|⟨_,rfl⟩|⟨_,rfl⟩|⟨_,rfl⟩|⟨_,rfl⟩|⟨_,rfl⟩|⟨_,rfl⟩|⟨_,rfl⟩|⟨_,rfl⟩|⟨_,rfl⟩|⟨_,rfl⟩|⟨_,rfl⟩|⟨_,rfl⟩|⟨_,rfl⟩|⟨_,rfl⟩|⟨_,rfl⟩<;>exact⟨_,rfl,by decide,by unfold six;simp⟩
noncomputable def X7:D->Bool
 |.tup [.str f,x]=>VT f x
 |_=>am
noncomputable def jO:D->Bool
 |.tup (.str k::t)=>match fh k AF with
  |some (.tup fs)=>decide (t.length=fs.length)&&(c8 (λa b=>D.tup [a,b]) fs t).all X7
  |_=>am
 |_=>am
noncomputable def tl:D->Nat
 |.tup fs=>fs.length
 |_=>0
def LA (d:D):Prop:=Gd d/\∃k t a,d=.tup (.str k::t)/\fh k AF=aa a/\t.length=tl a
noncomputable def Qm:GP:=GD LA λd=>.bl (jO d)
theorem aaU{h:D}{t:List D}{M:Ms}{Q:DK}:km (.tup (h::t)) (.int 0) M Q=Q h M:=by
 show(∃d,vC (h::t) 0=aa d/\Q d M)=Q h M;have:vC (h::t) 0=aa h:=by unfold vC E4;simp
 rw[this];exact zp
theorem Ng{neg:Bool}{a b:aj}{rows:List (ay×D)}{k:ay}{M:Ms}{Q:DK}:Ak neg a rows (.str k) (.cls b) M Q=(b=a/\Q (.bl (if neg then !adD k rows else adD k rows)) M):=rfl
theorem Nh{a b:aj}{rows:List (ay×D)}{k:ay}{M:Ms}{Q:DK}:Aj a rows (.cls b) (.str k) M Q=(b=a/\∃d,fh k rows=aa d/\Q d M):=rfl
theorem Ni{i j:Int}{M:Ms}{Q:DK}:iQ (.int i) (.int j) M Q=Q (.int (i+j)) M:=rfl
theorem LB{n d:Nat}:HT.lH (n+1) d (aa 1)=1:=by unfold HT.lH;simp
theorem Qn{β:Type}{h:β}{t:List β}:cutD (h::t) (aa 1) ao=t:=by unfold cutD;rw[aV,LB,HT.zM];simp
theorem Qo{β e g:Type}{f:β->e->g}{y:g}:∀{xs:List β} {c:List e},y∈c8 f xs c->∃a b,a∈xs/\b∈c/\y=f a b
 |[],c,h=>by simp at h
 |x::xs,[],h=>by simp at h
 |x::xs,z::c,h=>by
  rw[eF,az] at h;rcases h with rfl|h
  ·exact⟨x,z,aC,aC,rfl⟩
  ·obtain⟨a,b,i,j,l⟩:=Qo h;exact⟨a,b,av _ i,av _ j,l⟩
theorem CL(K:W.Frag)(c:aj):∀ds Q,Qm ds Q->kf 2 1 (w8 K c AF (cl AE)) ds Q:=Ec λd Q h q=>by
 obtain⟨hd,k,t,u,rfl,e,g⟩:=h;unfold w8;have l:Ly t=ah/\t.length+1<=1000:=by unfold Gd gd Ly gd at hd;simp at hd;exact⟨hd.1.2,Nat.succ_le_succ hd.2⟩
 have m:¬((t.length:Int)+1=0):=by omega
 obtain⟨fs,rfl,fl,n⟩:=Ql e;have eq:jO (.tup (.str k::t))=(decide (t.length=(fs.map D.str).length)&&(c8 (λa b=>D.tup [a,b]) (fs.map D.str) t).all X7):=by simp only [jO,e,fm]
 have g:t.length=fs.length:=g.trans (ap _);rw[eq,ap,g,decide_eq_true rfl,bE] at q;have e1:((t.length:Int)+1==1+(fs.length:Int))=ah:=by rw[g];simp;omega
 walk_at "rd_at";simp only [aaU];walk_at "rd_at";simp only [Int.natCast_add,Int.natCast_one,m,if_false,Ng,Nh,true_and,if_true,Qd];rw[<-ad0,e];unfold fm;simp only [Option.isSome_some,dF,b5,if_false,zp];walk_at "rd_at";simp only [Ni];walk_at "rd_at";rw[ap];simp only [e1,dF,b5,if_false];refine⟨?_,_,_,rfl,rfl,⟨rfl,rfl⟩,?_⟩
 ·rintro⟨i,_⟩
  rw[aV,LB] at i;cases i
 rw[Qn];refine Ay X7 ⟨rfl,rfl⟩ (by rw[eY];exact aS (Nat.min_le_right _ _) (aS (by omega) (show 1000<=aE by decide))) (λy o v p=>?_) ?_
 ·obtain⟨f,x,r,s,rfl⟩:=Qo o;obtain⟨f,mg,rfl⟩:=du.mp r;have j:=Lz l.1 s;unfold qI;walk_at "rd_at";unfold AE Ea;simp only [u9 x j,true_and];exact⟨⟨⟨f,rfl,n f mg⟩,j⟩,p _ rfl⟩
 ·exact⟨rfl,q⟩
local macro_rules | `(tactic| walk_at "wk1") => `(tactic| ((conv => whnf); first | refine ⟨_, rfl, ?_⟩ | refine ⟨rfl, ?_⟩ | refine ⟨ae rfl, ?_⟩))
local macro_rules | `(tactic| walk_at "wk") => `(tactic| ((repeat walk_at "wk1"); try (conv => whnf)))
inductive Rw
 |mark (w:ay) (b:Bool)|set (b n:Int)|add (b c:Int)|take (b c:Int)|say (b:Int)|ask (b:Int)|jump (w:ay)|jumpif (b:Int) (w:ay)|call (w:ay)|back|stop
 |load (b c:Int) (w:ay)|jumpby (b:Int) (w:ay)|alike (b:Int) (w v:ay)|numbers (ns:List Int)|table (ws:List ay)
 deriving DecidableEq
noncomputable def Rw.d:Rw->D
 |.mark w b=>.tup [.str "mark",.str w,.bl b]|.set b n=>.tup [.str "set",.int b,.int n]|.add b c=>.tup [.str "add",.int b,.int c]|.take b c=>.tup [.str "take",.int b,.int c]
 |.say b=>.tup [.str "say",.int b]|.ask b=>.tup [.str "ask",.int b]|.jump w=>.tup [.str "jump",.str w]|.jumpif b w=>.tup [.str "jumpif",.int b,.str w]|.call w=>.tup [.str "call",.str w]
 |.back=>.tup [.str "back"]|.stop=>.tup [.str "stop"]|.load b c w=>.tup [.str "load",.int b,.int c,.str w]|.jumpby b w=>.tup [.str "jumpby",.int b,.str w]|.alike b w v=>.tup [.str "alike",.int b,.str w,.str v]
 |.numbers ns=>.tup [.str "numbers",.lst (ns.map .int)]|.table ws=>.tup [.str "table",.lst (ws.map .str)]
noncomputable def Rw.t:Rw->D
 |.numbers ns=>.tup [.str "numbers",.tup (ns.map .int)]|.table ws=>.tup [.str "table",.tup (ws.map .str)]
 |r=>r.d
noncomputable def uV(b:Int):Bool:=decide (0<=b)&&decide (b<=3)
noncomputable def Sa(n:Int):Bool:=decide (-2147483648<=n)&&decide (n<=2147483647)
noncomputable def Rw.ok:Rw->Bool
 |.mark w _=>nC w|.set b n=>uV b&&Sa n|.add b c=>uV b&&uV c|.take b c=>uV b&&uV c|.say b=>uV b|.ask b=>uV b|.jump w=>nC w|.jumpif b w=>uV b&&nC w|.call w=>nC w
 |.back=>ah|.stop=>ah|.load b c w=>uV b&&uV c&&nC w|.jumpby b w=>uV b&&nC w|.alike b w v=>uV b&&nC w&&nC v
 |.numbers ns=>decide (1<=ns.length)&&decide (ns.length<=60)&&ns.all Sa
 |.table ws=>decide (1<=ws.length)&&decide (ws.length<=60)&&ws.all nC
theorem LC{w:ay}(h:nC w=ah):w.length<=8:=by unfold nC at h;simp at h;exact h.1.2
theorem Qp{w:ay}(h:nC w=ah):gd (.str w)=ah:=by unfold gd;simp;exact aS (LC h) (by decide)
theorem Qq(ns:List Int):Ly (ns.map D.int)=ah:=by rw[zq];simp[gd]
theorem Qr{ws:List ay}(h:ws.all nC=ah):Ly (ws.map D.str)=ah:=by rw[zq,eG,bM];intro w hw;exact Qp (bM.mp h w hw)
theorem Uj{ns:List Int}(h:ns.length<=60):gd (.lst (ns.map D.int))=ah:=by unfold gd;rw[Qq];simp;omega
theorem Uk{ws:List ay}(h:ws.length<=60)(g:ws.all nC=ah):gd (.lst (ws.map D.str))=ah:=by unfold gd;rw[Qr g];simp;omega
theorem gdT{ds:List D}(h:Ly ds=ah)(l:ds.length<=1000):gd (.tup ds)=ah:=by unfold gd;rw[h,decide_eq_true l];rfl
theorem Rw.gd{r:Rw}(h:r.ok=ah):FJ.gd r.d=ah:=by cases r<;>unfold Rw.ok at h<;>simp only [aH,decide_eq_true_eq] at h<;>unfold Rw.d<;>refine gdT ?_ (ae rfl)<;>simp only [Ly,aH]<;>(repeat' apply And.intro);all_goals first|rfl|decide|exact Qp h|exact Qp h.1|exact Qp h.2|exact Qp h.1.2|exact Uj h.1.2|exact Uk h.1.2 h.2
theorem all_ints{ns:List Int}:(ns.map D.int).all (xj "number")=ns.all Sa:=by rw[eG];congr 1
theorem all_strs{ws:List ay}:(ws.map D.str).all (xj "word")=ws.all nC:=by rw[eG];congr 1
theorem Rw.row{r:Rw}(h:r.ok=ah):jO r.d=ah:=by
 cases r with
 |mark w b=>exact(show jO (Rw.mark w b).d=(nC w&&(ah&&ah)) from rfl).trans (by unfold Rw.ok at h;simp[h])
 |set b n=>exact(show jO (Rw.set b n).d=(uV b&&(Sa n&&ah)) from rfl).trans (by unfold Rw.ok at h;simpa using h)
 |add b n=>exact(show jO (Rw.add b n).d=(uV b&&(uV n&&ah)) from rfl).trans (by unfold Rw.ok at h;simpa using h)
 |take b n=>exact(show jO (Rw.take b n).d=(uV b&&(uV n&&ah)) from rfl).trans (by unfold Rw.ok at h;simpa using h)
 |say b=>exact(show jO (Rw.say b).d=(uV b&&ah) from rfl).trans (by unfold Rw.ok at h;simpa using h)
 |ask b=>exact(show jO (Rw.ask b).d=(uV b&&ah) from rfl).trans (by unfold Rw.ok at h;simpa using h)
 |jump w=>exact(show jO (Rw.jump w).d=(nC w&&ah) from rfl).trans (by unfold Rw.ok at h;simpa using h)
 |jumpif b w=>exact(show jO (Rw.jumpif b w).d=(uV b&&(nC w&&ah)) from rfl).trans (by unfold Rw.ok at h;simpa using h)
 |call w=>exact(show jO (Rw.call w).d=(nC w&&ah) from rfl).trans (by unfold Rw.ok at h;simpa using h)
 |back=>rfl
 |stop=>rfl
 |load b c w=>exact(show jO (Rw.load b c w).d=(uV b&&(uV c&&(nC w&&ah))) from rfl).trans (by unfold Rw.ok at h;simpa[and_assoc] using h)
 |jumpby b w=>exact(show jO (Rw.jumpby b w).d=(uV b&&(nC w&&ah)) from rfl).trans (by unfold Rw.ok at h;simpa using h)
 |alike b w v=>exact(show jO (Rw.alike b w v).d=(uV b&&(nC w&&(nC v&&ah))) from rfl).trans (by unfold Rw.ok at h;simpa[and_assoc] using h)
 |numbers ns=>exact(show jO (Rw.numbers ns).d=(decide (1<=(ns.map D.int).length)&&decide ((ns.map D.int).length<=60)&&(ns.map D.int).all (xj "number")&&ah) from rfl).trans (by rw[all_ints,ap];unfold Rw.ok at h;simpa using h)
 |table ws=>exact(show jO (Rw.table ws).d=(decide (1<=(ws.map D.str).length)&&decide ((ws.map D.str).length<=60)&&(ws.map D.str).all (xj "word")&&ah) from rfl).trans (by rw[all_strs,ap];unfold Rw.ok at h;simpa using h)
structure CA where
 (Row Mark Code Data Ul Last Set Alike Um Leave kY Table:aj)
inductive Kn
 |Mark|Ul|Last|Set|Alike|Um|Leave|kY|Table
noncomputable def CA.at(c:CA):Kn->aj
 |.Mark=>c.Mark|.Ul=>c.Ul|.Last=>c.Last|.Set=>c.Set|.Alike=>c.Alike|.Um=>c.Um|.Leave=>c.Leave|.kY=>c.kY|.Table=>c.Table
noncomputable def Rw.kn:Rw->Kn
 |.mark _ _=>.Mark|.set _ _=>.Set|.add _ _|.take _ _|.say _|.ask _=>.Ul|.jump _|.jumpby _ _=>.Leave|.jumpif _ _|.call _|.load _ _ _=>.Um|.back|.stop=>.Last
 |.alike _ _ _=>.Alike|.numbers _=>.kY|.table _=>.Table
noncomputable def Rw.cls(c:CA)(r:Rw):aj:=c.at r.kn
noncomputable def Rw.ins(c:CA)(r:Rw):D:=.ins (r.cls c) ["told"] [r.t]
noncomputable def la(K:W.Frag):GN:=λds M Q=>∃M1 C d,ds=[.loc M1.length,d]/\M=M1++[aa (.ins C [] [])]/\Cu K C "told"/\Q .non (M1++[aa (.ins C ["told"] [d])])
theorem GH{K:W.Frag}:sV (la K):=λds M P Q w ⟨M1,C,d,a,b,c,q⟩=>⟨M1,C,d,a,b,c,w _ _ q⟩
theorem Uo{β:Type}{M:List β}{x:β}:(M++[x])[M.length]?=aa x:=by simp
theorem Up{β:Type}{M:List β}{x y:β}:(M++[x]).set M.length y=M++[y]:=by simp
theorem Uq{K:W.Frag}:∀ds M Q,la K ds M Q->Vu 2 2 (Az K) ds M Q:=λds M Q ⟨M1,C,d,a,b,c,q⟩=>by subst a b;refine⟨rfl,?_⟩;refine⟨C,[],[],Uo,c,by decide,?_⟩;rw[Up];exact q
noncomputable def Rw.code:Rw->Bool
 |.mark _ _|.numbers _|.table _=>am
 |_=>ah
noncomputable def mL(c:CA):GP:=λds Q=>∃r:Rw,r.code=ah/\ds=[r.t]/\Q (r.ins c)
theorem zh{c:CA}:jo (mL c):=λds P Q w ⟨r,a,b,q⟩=>⟨r,a,b,w _ q⟩
structure FOk(K:W.Frag)(c:CA):Prop where
 f:∀r:Rw,Cu K (r.cls c) "told"
theorem GI{K:W.Frag}{c:CA}{M:Ms}{Q:DK}(r:Rw)(h:Cu K (r.cls c) "told")(n:nl r.t=ah)(q:Q (r.ins c) M):la K [.loc M.length,r.t] (M++[aa (.ins (r.cls c) [] [])]) λd M2=>d=.non/\∃ns es,M2=M++[aa (.ins (r.cls c) ns es)]/\kI es=ah/\Q (.ins (r.cls c) ns es) M:=
 ⟨M,_,_,rfl,rfl,h,rfl,_,_,rfl,by unfold kI;rw[n];rfl,q⟩
theorem Rw.nlt(r:Rw):nl r.t=ah:=by cases r<;>first|rfl|(show(ah&&(kI _&&ah))=ah;rw[kU (λ_=>rfl)];rfl)
theorem Rw.nli(c:CA)(r:Rw):nl (r.ins c)=ah:=by show(nl r.t&&ah)=ah;rw[r.nlt];rfl
theorem GJ{K:W.Frag}{c:CA}(f:FOk K c):∀ds Q,mL c ds Q->kf 2 1 (AA c.Set (la K) c.Alike (la K) c.Last (la K) c.Leave (la K) c.Um (la K) c.Ul (la K)) ds Q:=λds Q ⟨r,a,b,q⟩=>by
 subst b;have e:=f.f r;have nn:=r.nlt;have mk:=λg h=>GI (M:=[]) (Q:=g) r e nn h;have nn:=r.nli c;cases r<;>first|(cases a;done)|skip
 all_goals
  walk_at "wk";exact mk _ ⟨nn,q⟩
theorem LD{x d:D}{M:Ms}(e:dv M x=d):sQ M [x]=[d]:=by unfold sQ;rw[e];rfl
noncomputable def itL:D->Bool
 |.str _|.int _|.bl _|.lst _=>ah
 |_=>am
noncomputable def toT:D->D
 |.lst xs=>.tup xs
 |d=>d
noncomputable def Rw.YZ(r:Rw):List D:=match r.d with|.tup ds=>ds|_=>[]
theorem Rw.aaV(r:Rw):r.d=.tup r.YZ:=by cases r<;>rfl
theorem Rw.aaW(r:Rw):r.t=.tup (r.YZ.map toT):=by cases r<;>rfl
theorem Rw.X8(r:Rw):r.YZ.all itL=ah:=by cases r<;>rfl
theorem Rw.Ur(r:Rw):r.YZ.length<=aE:=aS (m:=4) (by cases r<;>exact ae rfl) (by decide)
theorem Rw.acD(r:Rw)(h:FJ.gd r.d=ah):LA r.d:=by refine⟨h,?_⟩;cases r<;>exact⟨_,_,_,rfl,rfl,rfl⟩
noncomputable def Rw.vQ:Rw->Bool
 |.mark _ _|.numbers _|.table _|.jump _|.jumpby _ _|.back|.stop=>am
 |_=>ah
noncomputable def Rw.names:Rw->List D
 |.jump w|.jumpif _ w|.call w|.load _ _ w|.jumpby _ w=>[.str w]
 |.alike _ w v=>[.str w,.str v]
 |.table ws=>ws.map .str
 |_=>[]
noncomputable def Ef(c:CA)(k:Kn):GP:=λds Q=>∃r:Rw,r.kn=k/\ds=[r.ins c]/\Q r.d
noncomputable def Eg(c:CA)(k:Kn):GP:=λds Q=>∃r:Rw,r.kn=k/\ds=[r.ins c]/\Q (.bl r.vQ)
theorem Eh{c:CA}{k:Kn}:jo (Ef c k):=λds P Q w ⟨r,a,b,q⟩=>⟨r,a,b,w _ q⟩
theorem jH{c:CA}{k:Kn}:jo (Eg c k):=λds P Q w ⟨r,a,b,q⟩=>⟨r,a,b,w _ q⟩
theorem Qs{x:ay}{xs:List D}(h:kI xs=ah):nl (.tup [.str x,.lst xs])=ah:=by show(ah&&(kI xs&&ah))=ah;rw[h];rfl
theorem GK{ns:List Int}:kI (ns.map D.int)=ah:=kU (λ_=>rfl) _
theorem Qt{ns:List ay}:kI (ns.map D.str)=ah:=kU (λ_=>rfl) _
noncomputable def plI:D->Bool
 |.str _|.int _|.bl _=>ah
 |_=>am
noncomputable def Rw.g8(r:Rw):List D:=match r.t with|.tup ds=>ds|_=>[]
theorem Rw.aaX(r:Rw):r.t=.tup r.g8:=by cases r<;>rfl
theorem Rw.Us(r:Rw):r.g8.length<=aE:=aS (m:=4) (by cases r<;>exact ae rfl) (by decide)
theorem Rw.acE(r:Rw)(h:r.g8.all plI=ah):r.d=.tup r.g8:=by cases r<;>first|rfl|cases h
theorem Qu{K:W.Frag}{c:CA}(f:FOk K c)(k:Kn):∀ds Q,Ef c k ds Q->kf 1 1 (yS K) ds Q:=λds Q ⟨r,l,i,q⟩=>by
 subst i;have h:=f.f r;have nn:=r.nlt;by_cases b:r.g8.all plI=ah
 ·rw[r.acE b] at q;unfold Rw.ins;rw[r.aaX] at nn ⊢;refine⟨rfl,_,_,_,_,rfl,h,rfl,_,rfl,rfl,?_⟩;refine uy (λd=>d) ?_ _ _ ?_ (λx a m j=>?_) ?_
  ·exact rfl
  ·rw[aY,bd];exact r.Us
  ·have a:=bM.mp b x a;cases x<;>first|(cases a;done)|skip
   all_goals
    walk_at "wk";exact j _ rfl
  ·have e:r.g8.map (vw [])=r.g8:=(eZ (g:=λd=>d) λx a=>by have a:=bM.mp b x a;cases x<;>first|rfl|cases a).trans (List.map_id' _)
   rw[List.map_id'];show nl (.tup (r.g8.map (vw [])))=ah/\Q (.tup (r.g8.map (vw [])));rw[e];exact⟨nn,q⟩
 ·cases r<;>first|exact absurd rfl b|skip
  all_goals
   refine⟨rfl,?_⟩;conv=>whnf
   refine⟨_,_,_,_,rfl,h,rfl,?_⟩;walk_at "wk";first|exact⟨Qs GK,q⟩|exact⟨Qs Qt,q⟩
theorem GL{c:CA}{k:Kn}(a:k=.Mark\/k=.kY\/k=.Table\/k=.Last\/k=.Leave):∀ds Q,Eg c k ds Q->kf 1 1 u8 ds Q:=λds Q ⟨r,b,e,q⟩=>by subst e b;cases r<;>first|(simp[Rw.kn] at a;done)|exact⟨rfl,rfl,q⟩
theorem LG{c:CA}{k:Kn}(a:k=.Ul\/k=.Set\/k=.Alike\/k=.Um):∀ds Q,Eg c k ds Q->kf 1 1 pO ds Q:=λds Q ⟨r,b,e,q⟩=>by subst e b;cases r<;>first|(simp[Rw.kn] at a;done)|exact⟨rfl,rfl,q⟩
noncomputable def Qv(c:CA):FQ:=λC m g=>∃k:Kn,C=c.at k/\g=cl (Eg c k)
noncomputable def rF(c:CA):FQ:=λC m g=>∃k:Kn,C=c.at k/\g=cl (Ef c k)
noncomputable def yU:DS:=(gY (iD 2 (gR (gI (λ_ j=>0<j) λi j=>.int (i%j)) (gR nY (gR iQ (gR iQ (gR (gI (λ_ j=>0<j) λi j=>.int (i%j)) (gv 0) (dC (.int 2147483647))) (gR nY (dC (.int 7919)) (gv 1))) (dC (.int 1))) (dC (.int 48271))) (dC (.int 2147483647))))
 (gY (iD 2 (gR (gI (λ_ j=>0<j) λi j=>.int (i%j)) (gR nY (gv 2) (gR iQ (gR (gI i9 λi j=>.int (i/j)) (gv 2) (dC (.int 1009))) (dC (.int 69621)))) (dC (.int 2147483647))))
 (iw (gR (gI (λ_ j=>0<j) λi j=>.int (i%j)) (gR nY (gR iQ (gv 2) (gR nY (dC (.int 31)) (gv 1))) (gR iQ (gR (gI i9 λi j=>.int (i/j)) (gv 2) (dC (.int 16807))) (dC (.int 40692)))) (dC (.int 2147483629))))))
noncomputable def tL(a:GN):DS:=(gY (iD 2 (xW (iP gB)))
 (gY (iD 3 (gR (gI i9 λi j=>.int (i/j)) (gv 0) (dC (.int 2))))
 (gY (uS (vI (gu (gv 1) gB)) (gM 4) (iB (gK (gR mF (gR (gI (λ_ j=>0<j) λi j=>.int (i%j)) (gv 0) (dC (.int 2))) (dC (.int 0)))) (gY (u4 (Pf "list" nt (gv 2) (gu (gR (gI (λ_ j=>0<j) λi j=>.int (i%j)) (gv 3) (dC (.int 1000))) gB)))
 (iD 3 (gR (gI i9 λi j=>.int (i/j)) (gv 3) (dC (.int 1000))))) (u4 (Pf "list" nt (gv 2) (gu (gR (gI (λ_ j=>0<j) λi j=>.int (i%j)) (iM a (gu (gv 3) (gu (gv 4) gB))) (dC (.int 1000))) gB)))))
 (iw (gv 2)))))
noncomputable def zt:GP:=λds Q=>∃a k:Int,ds=[.int a,.int k]/\0<=k/\k<=1000/\∀n:Int,0<=n->n<2147483629->Q (.int n)
theorem Ei:jo zt:=λds P Q w ⟨a,k,b,c,e,q⟩=>⟨a,k,b,c,e,λn x y=>w _ (q n x y)⟩
theorem Qw:∀ds Q,zt ds Q->kf 3 2 yU ds Q:=λds Q ⟨a,k,f,h,j,q⟩=>by
 subst f;have b:(0:Int)<2147483647:=by decide
 have g:(0:Int)<2147483629:=by decide
 have c:∀i,i9 i 1009/\i9 i 16807:=λi=>⟨⟨by decide,by decide⟩,⟨by decide,by decide⟩⟩;have e:Me 7919 k/\Me 31 k:=⟨.inl (by decide),.inl (by decide)⟩;exact⟨rfl,b,e.1,.inr (by decide),b,(c _).1,.inl (by omega),b,e.2,(c _).2,.inl (by omega),g,rfl,q _ (by omega) (by omega)⟩
def Sc (ns:List Int):Prop:=∀n∈ns,0<=n/\n<1000
noncomputable def zu:GP:=λds Q=>∃a m:Int,ds=[.int a,.int m]/\0<=m/\m<=1000/\∀ns:List Int,(ns.length:Int)=m->Sc ns->Q (.lst (ns.map .int))
theorem Ej:jo zu:=λds P Q w ⟨a,k,b,c,e,q⟩=>⟨a,k,b,c,e,λn x y=>w _ (q n x y)⟩
theorem GO{ns:List Int}{n:Int}(h:Sc ns)(b:0<=n)(c:n<1000):Sc (ns++[n]):=λx a=>by
 rcases bp.mp a with a|a
 ·exact h x a
 ·rw[bP.mp a];exact⟨b,c⟩
theorem AG{j n:Nat}{d:D}(h:(uU 0 n)[j]?=aa d):d=.int j/\j<n:=by
 unfold uU at h;rw[bA] at h;cases e:(dn n)[j]? with
 |none=>rw[e] at h;cases h
 |some i=>
  rw[e] at h;have a:=aB.mp e;simp at a;cases h;obtain⟨b,c⟩:=a;subst c;exact⟨by simp,b⟩
theorem rG{β:Type}{xs:List β}{k:Nat}{x:β}(h:xs[k]?=aa x):vC xs (k:Int)=aa x:=by have a:=(aB.mp h).1;unfold vC E4;rw[if_pos (by omega),if_pos (by omega)];simpa using h
theorem AH{β:Type}{xs:List β}{k:Nat}:cutD xs (aa (k:Int)) ao=xs.drop k:=by
 unfold cutD;rw[HT.KG,HT.zM];by_cases h:k<=xs.length
 ·rw[Nat.min_eq_left h,List.take_of_length_le (by rw[eK];omega)]
 ·rw[Nat.min_eq_right (by omega),List.drop_eq_nil_of_le (bf _),List.drop_eq_nil_of_le (by omega)];simp
theorem Qx{β:Type}{xs:List β}{k:Nat}:cutD xs ao (aa (k:Int))=xs.take k:=by unfold cutD;rw[HT.KG,HT.zM];simp
theorem yi{fr:List (Option Nat)}{g:DG}{tt:DT}{e:DE}{st:Ms->Prop}{Q:List D->Ms->Prop}{a:kF}{M:Ms}(p:D->Prop)(f:st M):∀(xs acc:List D),acc.length+xs.length<=aE->
  (∀x∈xs,∀i:Option D->kF->Ms->Prop,(∀b d,p d->xI fr b=a->i (aa d) b M)->qI g tt e x a M i)->(∀ds:List D,ds.length=xs.length->(∀d∈ds,p d)->Q (acc++ds) M)->jX fr g tt e st Q xs acc a M
 |[],acc,_,_,q=>by have:=q [] rfl (λ_ h=>by simp at h);rw[br] at this;exact this
 |x::xs,acc,j,h,q=>by
  unfold jX;refine h x aC _ λb d l e1=>⟨f,by simp at j;omega,?_⟩;rw[e1];refine yi p f xs (acc++[d]) (by simp at j ⊢;omega) (λy m=>h y (av _ m)) λds hd n=>?_;rw[cD];exact q (d::ds) (by simp[hd]) λz c=>by
   rcases az.mp c with rfl|c
   ·exact l
   ·exact n z c
theorem Jg{β:Type}{f:β->D}{p:β->Prop}:∀{ds:List D},(∀d∈ds,∃b,p b/\d=f b)->∃l:List β,ds=l.map f/\∀b∈l,p b
 |[],_=>⟨[],rfl,λ_ h=>by simp at h⟩
 |d::ds,h=>by
  obtain⟨b,c,rfl⟩:=h d aC;obtain⟨l,rfl,e⟩:=Jg λz a=>h z (av _ a);exact⟨b::l,rfl,λz a=>by
   rcases az.mp a with rfl|a
   ·exact c
   ·exact e z a⟩
structure CF(K:W.Frag)(C:aj):Prop where
 pg:W.plainGet K C ay.empty=ah
 hd:W.hasDictIn K C=ah
 po:W.plainOver K C=ah
 sa:W.findIn K (.ref C) "__setattr__"=aa (aa (.builtin "object.__setattr__"))
 mks:W.makesIn K C=ah
 kc:W.keepIn K (.ref C)=ah
 ha:W.findIn K (.ref C) "__class__"=aa (aa (.builtin "object.__class__"))
 hn:W.specialIn K (.builtin "object.__class__") "__get__"=aa (aa (.builtin "getset_descriptor.__get__"))
 YK:W.takesIn K (.builtin "object.__class__")=aa ah
 hm:W.mroIn K C (.type "object")=aa ah
theorem CF.cls{K:W.Frag}{C:aj}(h:CF K C):Mi K C:=⟨h.pg,h.hd,h.po,h.sa⟩
theorem CF.aaY{K:W.Frag}{C:aj}(h:CF K C):Lc K C:=⟨h.cls,h.ha,h.hn,h.YK,h.hm⟩
structure RF(K:W.Frag)(C fI fW fA fG fL:aj):Prop where
 c:CF K C
 nT:W.findIn K (.ref C) "told"=aa ao
 aI:W.findIn K (.ref C) "__init__"=aa (aa (.ref fI))
 aW:W.findIn K (.ref C) "words"=aa (aa (.ref fW))
 aA:W.findIn K (.ref C) "asked"=aa (aa (.ref fA))
 aG:W.findIn K (.ref C) "goes_on"=aa (aa (.ref fG))
 aL:W.findIn K (.ref C) "lengths"=aa (aa (.ref fL))
structure MF(K:W.Frag)(n q:ay)(st:bH)(f:aj):Prop where
 ex:∃fd,wP K n q st f fd
 fn:W.isFn K (.ref f)=ah
 kp:W.keepIn K (.ref f)=ah
theorem aaZ{K:W.Frag}{x qual:ay}{st:bH}{f:aj}{oc:af}{od an:Option aj}{By:Array (Option af)}{kV doc pm iE ct:af}(l:K.lookup f=aa ⟨oc,od,.func (W.fnOf x qual (jT st) (iF st) (hZ st) .none kV doc pm an iE ct),By⟩)
(c:W.codeIn K iE qual=ah)(k:W.keepIn K (.ref f)=ah)(i:W.isFn K (.ref f)=ah):MF K x qual st f:=⟨⟨_,Im l c k⟩,i,k⟩
section
variable {P:aJ} {w:bj} {K:W.Frag} {mg:ay->Option af} {base:ar}
end
theorem X9{K:W.Frag}{b:aj}{o:bS}{us:List af}{n:Nat}{fs:List ay}(l:K.lookup b=aa o)(a:o.cls=.type "tuple")(c:o.data=.seq us.toArray n)(e:us.length<=aE)(f:Vals (fs.map V.str) us):Ph K (fm fs) (.ref b):=
 ⟨.ref b,rfl,λα H=>by unfold fm Rep;exact⟨b,fs.map V.str,rfl,.inr ⟨o,us.toArray,n,l,a,c,by simpa using e,by simpa using f⟩,gA.of_map _ _ (λ_=>pL) _⟩⟩
theorem Qy:Vals (([]:List ay).map V.str) []:=.nil
theorem Nj{x:ay}{t:aew}{fs:List ay}{us:List af}(h:Vals (fs.map V.str) us):Vals ((x::fs).map V.str) (.str x t::us):=.cons ⟨t,rfl⟩ h
theorem Ya{K:W.Frag}{a:aj}{o:bS}{es:List aeV}{b:Nat}{rows:List (ay×D)}(lo:(a==dH)=am)(l:K.lookup a=aa o)(c:o.ExactDict)(hd:o.data=.dict es.toArray b)(e:Rows (Ph K) es rows):yb K a rows:=
 ⟨lo,o,es.toArray,b,l,c,hd,by simpa using e⟩
noncomputable def mM(K:W.Frag):DS:=(iw (ni (iM (lg K) (gu (gv 0) (gu (dC (.ty "tuple")) gB))) (ni (gR (K5 λi j=>.bl (decide (j<i))) (iM lu (gu (gv 0) gB)) (dC (.int 0))) (ni (iM (lg K) (gu (gR km (gv 0) (dC (.int 0))) (gu (dC (.ty "str")) gB))) (gR mF (gR km (gv 0) (dC (.int 0))) (dC (.str "mark")))))))
noncomputable def vf(a:GN):DS:=(iw (iM lu (gu (ie (iY [ao] (iZ (gv 0)) (gM 0) (gK (iM a (gu (gv 0) gB))) (gv 0))) gB)))
noncomputable def tM(a:GN):DS:=(iw (gR (K5 λi j=>.int (i- j)) (iM lu (gu (gv 0) gB)) (iM a (gu (gv 0) gB))))
noncomputable def CM(K:W.Frag)(a:GN)(b:GN):DS:=(gY (iB (Ir (k9 (gK (iM (lg K) (gu (gv 0) (gu (dC (.ty "tuple")) gB))))) (gK (gR ze (iM lu (gu (gv 0) gB)) (dC (.int 2))))) (iw (dC (.bl am))) ia)
 (gY (iB (Ir (k9 (gK (iM a (gu (gR km (gv 0) (dC (.int 0))) gB)))) (k9 (gK (iM (lg K) (gu (gR km (gv 0) (dC (.int 1))) (gu (dC (.ty "list")) gB)))))) (iw (dC (.bl am))) ia)
 (iw (kG wC wC (dC (.int 1)) (iM b (gu (gR km (gv 0) (dC (.int 1))) gB)) (dC (.int 60))))))
noncomputable def yV(K:W.Frag)(a:GN)(b:GN)(c:GN):DS:=(gY (iB (Ir (k9 (gK (iM (lg K) (gu (gv 0) (gu (dC (.ty "list")) gB))))) (k9 (gK (kG wC wC (dC (.int 1)) (iM lu (gu (gv 0) gB)) (dC (.int 12)))))) (iw (dC (.bl am))) ia)
 (gY (iB (k9 (gK (iM IE (gu (ie (iY [ao] (iZ (gv 0)) (gM 0) lq (iM a (gu (gv 0) gB)))) gB)))) (iw (dC (.bl am))) ia)
 (gY (iB (gK (gR ze (Ll (ie (iY [ao] (iZ (gv 0)) (gM 0) lq (gR km (gv 0) (dC (.int 0)))))) (iM lu (gu (gv 0) gB)))) (iw (dC (.bl am))) ia)
 (gY (iB (gK (gR (K5 λi j=>.bl (decide (j<i))) (iM Pr (gu (ie (iY [ao] (iZ (gv 0)) (gM 0) lq (iM b (gu (gR km (gv 0) (dC (.int 1))) gB)))) gB)) (dC (.int 200)))) (iw (dC (.bl am))) ia)
 (iw (gR wC (iM Pr (gu (ie (iY [ao] (iZ (gv 0)) (gM 0) lq (iM c (gu (gR km (gv 0) (dC (.int 1))) gB)))) gB)) (dC (.int 200))))))))
noncomputable def yj(a:GN):DS:=(gY (iD 2 (xW (iP gB)))
 (gY (uS (Ac (gu (gv 1) gB)) (j4 2 (ib (gM 3) (ib (gM 4) j0))) (gY (iD 5 (iM a (gu (gv 4) gB)))
 (gY (iB (gK (gR Vw (gv 5) (dC .non))) Dj ia)
 (u4 (Pf "list" nt (gv 2) (gu (gv 5) gB))))))
 (iw (gv 2))))
noncomputable def mi(K:W.Frag)(a:aj):DS:=(gY (uS (iZ (gv 0)) (gM 1) (iB (k9 (gK (iM (lg K) (gu (gv 1) (gu (dC (.cls a)) gB))))) (iw (gv 1)) ia))
 (iw (dC .non)))
noncomputable def j8(K:W.Frag)(a:GN)(b:FQ)(c:aj)(e:aj):DS:=(uS (Ac (gu (gv 1) gB)) (j4 2 (ib (gM 2) (ib (gM 3) j0))) (gY (iD 4 (iM a (gu (IC (gv 1) (oP (gR iQ (gv 2) (dC (.int 1)))) j7) gB)))
 (gY (iB (wR (gK (Ld b "goes_on" (gv 3) gB)) (k9 (gK (iM (lg K) (gu (gv 4) (gu (dC (.cls c)) gB)))))) Dj ia)
 (iB (wR (gK (iM (lg K) (gu (gv 3) (gu (dC (.cls e)) gB)))) (gK (gR Vw (gv 4) (dC .non)))) Dj ia))))
noncomputable def tN(a:GN)(b:GN)(c:GN):DS:=(gY (iB (k9 (gK (iM a (gu (gv 0) gB)))) Dj ia)
 (gY (iD 1 (ie (iY [ao] (iZ (gv 0)) (gM 0) lq (hW (gu (gR km (gv 0) (dC (.int 0))) (gu (iM b (gu (gR km (gv 0) (dC (.int 0))) (gu (gR km (gv 0) (dC (.int 1))) gB))) gB))))))
 (gY (uS (iZ (gv 1)) (j4 2 (ib (gM 2) (ib (gM 3) j0))) (u4 (iM c (gu (gv 2) (gu (gv 3) gB)))))
 (iw (gv 1)))))
end FJ
namespace pI
open PySem PySem.Spec PyProof.Rows L2 L3 FJ
noncomputable def top(i:Nat):bH:=PySem.Challenge.pw_farjump_k04_parts_looked_at.main.body.getD i (.Pass ⟨0,0,0,0⟩)
section
variable {P:aJ} {w:bj} {K:W.Frag} {mg:ay->Option af} {base:ar} {k:Nat}
local macro_rules | `(tactic| walk_at "wl_") => `(tactic| (conv => lhs; whnf))
local macro_rules | `(tactic| walk_at "fsc_") => `(tactic| exact ⟨rfl, rfl, rfl, by decide +kernel, rfl, by decide +kernel, by decide +kernel⟩)
theorem yk:∀{us:List af},us.length=1->∃a,us=[a]
 |[a],_=>⟨a,rfl⟩
theorem Sb:∀{us:List af},us.length=2->∃a b,us=[a,b]
 |[a,b],_=>⟨a,b,rfl⟩
theorem us3:∀{us:List af},us.length=3->∃a b c,us=[a,b,c]
 |[a,b,c],_=>⟨a,b,c,rfl⟩
abbrev BF(s:bH):={b:List bH // iF s=b}
abbrev SF(s:bH):={b:cx // hZ s=b}
structure Zs(mg:ay->Option af):Prop where
 isinstance:mg "isinstance"=ao
 int:mg "int"=ao
 bool:mg "bool"=ao
 str:mg "str"=ao
 len:mg "len"=ao
 all:mg "all"=ao
 tuple:mg "tuple"=ao
 list:mg "list"=ao
 zip:mg "zip"=ao
 set:mg "set"=ao
 sum:mg "sum"=ao
 enumerate:mg "enumerate"=ao
 range:mg "range"=ao
 dict:mg "dict"=ao
 max:mg "max"=ao
 AI:∃t,mg "LONGEST_WORD"=aa (.int 8 t)
 AJ:∃t,mg "LONGEST_LIST"=aa (.int 60 t)
 Jh:∃t,mg "LAST_BOX"=aa (.int 3 t)
 AK:∃t,mg "LEAST_NUMBER"=aa (.int (-2147483648) t)
 xk:∃t,mg "GREATEST_NUMBER"=aa (.int 2147483647 t)
 uW:∃t,mg "MOST_ROWS_OF_PART"=aa (.int 60 t)
 Ek:∃t,mg "MOST_PARTS"=aa (.int 12 t)
 GQ:∃t,mg "MOST_ROWS"=aa (.int 200 t)
 El:∃t,mg "MOST_MARKS"=aa (.int 200 t)
variable {f:aj} {fd:cn} {tH lL oQ kX xa rA uz rB xg xh xi uA og rC rE kZ jt ji uB qL jk lM pR iV pS uC mV kK mW oh rH mN rJ uD ku rK lN mj:GN} {pP tI oR qK oS tJ tK jd mh oU nv oH oi j9 pT zv:aj} {w9:List (ay×D)} {oG rF:FQ} {oI je pU:Lq}
theorem AL:bR "all"=aa (.builtin "all"):=by decide+kernel
theorem LH:bR "bool"=aa (.type "bool"):=by decide+kernel
theorem Ut:bR "dict"=aa (.type "dict"):=by decide+kernel
theorem Yb:bR "int"=aa (.type "int"):=by decide+kernel
theorem gQ:bR "isinstance"=aa (.builtin "isinstance"):=by decide+kernel
theorem jn:bR "len"=aa (.builtin "len"):=by decide+kernel
theorem mX:bR "list"=aa (.type "list"):=by decide+kernel
theorem Yc:bR "max"=aa (.builtin "max"):=by decide+kernel
theorem Em:bR "str"=aa (.type "str"):=by decide+kernel
theorem En:bR "sum"=aa (.builtin "sum"):=by decide+kernel
theorem kL:bR "tuple"=aa (.type "tuple"):=by decide+kernel
abbrev lh:bH:=pJ (top 4) 0
noncomputable def BL:BF lh:=⟨_,by walk_at "wl_"⟩
noncomputable def vg:SF lh:=⟨_,by walk_at "wl_"⟩
theorem AM:gU ["self","part","row"] ["self","part","row"] vg.1:=by walk_at "fsc_"
theorem BM{B C:aj}(F:wP K "__init__" "BadRow.__init__" lh f fd)(a:F5 K B)(m:mg "PartError"=aa (.ref B))(c:F4 K C)(co:DH K C)(na:∀g∈(["part","row"]:List ay),kx K C g):ky P w K mg base uR (k+1) f fd ["self","part","row"] (spI C ["part","row"]):=
 P7 F BL.2 vg.2 AM c co na (λiE A outer s H E=>aaM (pl:=_) a m (CI (Lu 1 (CI (Lu 2 (CI Ls))))) (w4 (w4 Lv)))
theorem AN(F:wP K "__init__" "BadRow.__init__" lh f fd):Binds K fd ["self","part","row"] []:=F.binds λ_ _ _ _ _ _ us a=>by obtain⟨_,_,_,rfl⟩:=us3 a;rfl
abbrev mn:bH:=pJ (top 5) 0
noncomputable def Eo:BF mn:=⟨_,by walk_at "wl_"⟩
noncomputable def xl:SF mn:=⟨_,by walk_at "wl_"⟩
theorem BN:gU ["self","part","row"] ["self","part","row"] xl.1:=by walk_at "fsc_"
theorem Ep{B C:aj}(F:wP K "__init__" "NoEnd.__init__" mn f fd)(a:F5 K B)(m:mg "PartError"=aa (.ref B))(c:F4 K C)(co:DH K C)(na:∀g∈(["part","row"]:List ay),kx K C g):ky P w K mg base uR (k+1) f fd ["self","part","row"] (spI C ["part","row"]):=
 P7 F Eo.2 xl.2 BN c co na (λiE A outer s H E=>aaM (pl:=_) a m (CI (Lu 1 (CI (Lu 2 (CI Ls))))) (w4 (w4 Lv)))
theorem BO(F:wP K "__init__" "NoEnd.__init__" mn f fd):Binds K fd ["self","part","row"] []:=F.binds λ_ _ _ _ _ _ us a=>by obtain⟨_,_,_,rfl⟩:=us3 a;rfl
abbrev rL:bH:=top 9
noncomputable def Ji:BF rL:=⟨_,by walk_at "wl_"⟩
noncomputable def AO:SF rL:=⟨_,by walk_at "wl_"⟩
theorem GR:gU ["thing"] ["thing"] AO.1:=by walk_at "fsc_"
theorem Jj(D:gX K mg "is_whole" rL)(Z:Zs mg):re P w K mg base (k+1) "is_whole" ["thing"] (mU K (cl (kf 1 1 (vO K)))):=
 jQ D Ji.2 AO.2 GR (λ_ _ _ _ _ _ us a=>by obtain⟨_,rfl⟩:=yk a;rfl) λf iE A outer s H E b=>by have c:=iX b;exact(gD (gO (qH (lJ jw Z.isinstance gQ (gr (gG 0) (gr (qF Z.int Yb) gw))) (u3 (Vt (lJ jw Z.isinstance gQ (gr (gG 0) (gr (qF Z.bool LH) gw))))))))
abbrev uE:bH:=top 10
noncomputable def Nk:BF uE:=⟨_,by walk_at "wl_"⟩
noncomputable def yl:SF uE:=⟨_,by walk_at "wl_"⟩
theorem Jk:gU ["thing"] ["thing"] yl.1:=by walk_at "fsc_"
theorem Nl(D:gX K mg "is_word" uE)(Z:Zs mg):re P w K mg base (k+1) "is_word" ["thing"] (mU K (cl (kf 1 1 (yg K)))):=
 jQ D Nk.2 yl.2 Jk (λ_ _ _ _ _ _ us a=>by obtain⟨_,rfl⟩:=yk a;rfl) λf iE A outer s H E b=>by
 have c:=iX b;exact(gE (iq (pN (qG (jb (iR (lJ jw Z.isinstance gQ (gr (gG 0) (gr (qF Z.str Em) gw))))) (qd (jb (sW k7 k7 gC (lJ jl Z.len jn (gr (gG 0) gw)) (nS Z.AI)))))) (gD (gO j5)) hU)
   (gD (gO (lJ Ag Z.all AL (gr (ii (iU (N:=["sign"]) (fr:=[ao]) (iu.of (iA:=["thing"]) (gN:=yl.1) (by decide+kernel)) (iO (gG 0)) ij (λ_ _ _ _ _=>(gS 0 (show bB (["sign"]:List ay) by decide+kernel))) (λ_ _ _ _ _=>iT) (λ_ _ _ _ _=>(uv k7 k7 gL (gG 0) gL)))) gw)))))
abbrev oV:bH:=pJ (top 17) 0
noncomputable def Jl:BF oV:=⟨_,by walk_at "wl_"⟩
noncomputable def AQ:SF oV:=⟨_,by walk_at "wl_"⟩
theorem GU:gU ["self","told"] ["self","told"] AQ.1:=by walk_at "fsc_"
theorem Jm(F:wP K "__init__" "Row.__init__" oV f fd):ky P w K mg base uR (k+1) f fd ["self","told"] (mU K (Vu 2 2 (Az K))):=
 acr F Jl.2 AQ.2 GU λiE A outer s H E a=>by have b:=iX a;exact(gD (Tr (gG 0) (gG 1)))
theorem GV(F:wP K "__init__" "Row.__init__" oV f fd):Binds K fd ["self","told"] []:=F.binds λ_ _ _ _ _ _ us a=>by obtain⟨_,_,rfl⟩:=Sb a;rfl
abbrev nw:bH:=pJ (top 17) 1
noncomputable def GW:BF nw:=⟨_,by walk_at "wl_"⟩
noncomputable def tO:SF nw:=⟨_,by walk_at "wl_"⟩
theorem Er:gU ["self"] ["self"] tO.1:=by walk_at "fsc_"
theorem GX(F:wP K "words" "Row.words" nw f fd)(Z:Zs mg):ky P w K mg base uR (k+1) f fd ["self"] (mU K (cl (kf 1 1 (yS K)))):=
 MG F GW.2 tO.2 Er λiE A outer s H E a=>by have b:=iX a;exact(gD (gO (Z4 tz Z.tuple kL (gr (ii (iU (N:=["one"]) (fr:=[ao]) (iu.of (iA:=["self"]) (gN:=tO.1) (by decide+kernel)) (iO (aap (gG 0))) ij (λ_ _ _ _ _=>(gS 0 (show bB (["one"]:List ay) by decide+kernel))) (λ_ _ _ _ _=>iT) (λ_ _ _ _ _=>(Z3 (iR (lJ jw Z.isinstance gQ (gr (gG 0) (gr (qF Z.tuple kL) gw)))) (Fs (Tq Ah Z.list mX (gr (gG 0) gw))) (gG 0))))) gw))))
theorem Es(F:wP K "words" "Row.words" nw f fd):Binds K fd ["self"] []:=F.binds λ_ _ _ _ _ _ us a=>by obtain⟨_,rfl⟩:=yk a;rfl
abbrev li:bH:=pJ (top 17) 4
noncomputable def BQ:BF li:=⟨_,by walk_at "wl_"⟩
noncomputable def vh:SF li:=⟨_,by walk_at "wl_"⟩
theorem AR:gU ["self"] ["self"] vh.1:=by walk_at "fsc_"
theorem qi(F:wP K "goes_on" "Row.goes_on" li f fd):ky P w K mg base uR (k+1) f fd ["self"] (mU K (cl (kf 1 1 u8))):=
 MG F BQ.2 vh.2 AR λiE A outer s H E a=>by have b:=iX a;exact(gD (gO j5))
theorem oW(F:wP K "goes_on" "Row.goes_on" li f fd):Binds K fd ["self"] []:=F.binds λ_ _ _ _ _ _ us a=>by obtain⟨_,rfl⟩:=yk a;rfl
abbrev jI:bH:=pJ (top 19) 0
noncomputable def xm:BF jI:=⟨_,by walk_at "wl_"⟩
noncomputable def pV:SF jI:=⟨_,by walk_at "wl_"⟩
theorem vR:gU ["self"] ["self"] pV.1:=by walk_at "fsc_"
theorem kC(F:wP K "goes_on" "CodeRow.goes_on" jI f fd):ky P w K mg base uR (k+1) f fd ["self"] (mU K (cl (kf 1 1 pO))):=
 MG F xm.2 pV.2 vR λiE A outer s H E a=>by have b:=iX a;exact(gD (gO j5))
theorem ka(F:wP K "goes_on" "CodeRow.goes_on" jI f fd):Binds K fd ["self"] []:=F.binds λ_ _ _ _ _ _ us a=>by obtain⟨_,rfl⟩:=yk a;rfl
abbrev jJ:bH:=pJ (top 22) 0
noncomputable def xn:BF jJ:=⟨_,by walk_at "wl_"⟩
noncomputable def pW:SF jJ:=⟨_,by walk_at "wl_"⟩
theorem vS:gU ["self"] ["self"] pW.1:=by walk_at "fsc_"
theorem xo(F:wP K "goes_on" "LastRow.goes_on" jJ f fd):ky P w K mg base uR (k+1) f fd ["self"] (mU K (cl (kf 1 1 w5))):=
 MG F xn.2 pW.2 vS λiE A outer s H E a=>by have b:=iX a;exact(gD (gO j5))
theorem vT(F:wP K "goes_on" "LastRow.goes_on" jJ f fd):Binds K fd ["self"] []:=F.binds λ_ _ _ _ _ _ us a=>by obtain⟨_,rfl⟩:=yk a;rfl
abbrev jy:bH:=pJ (top 26) 0
noncomputable def vU:BF jy:=⟨_,by walk_at "wl_"⟩
noncomputable def oX:SF jy:=⟨_,by walk_at "wl_"⟩
theorem uX:gU ["self"] ["self"] oX.1:=by walk_at "fsc_"
theorem vV(F:wP K "goes_on" "LeaveRow.goes_on" jy f fd):ky P w K mg base uR (k+1) f fd ["self"] (mU K (cl (kf 1 1 vP))):=
 MG F vU.2 oX.2 uX λiE A outer s H E a=>by have b:=iX a;exact(gD (gO j5))
theorem uY(F:wP K "goes_on" "LeaveRow.goes_on" jy f fd):Binds K fd ["self"] []:=F.binds λ_ _ _ _ _ _ us a=>by obtain⟨_,rfl⟩:=yk a;rfl
abbrev oj:bH:=top 29
noncomputable def Et:BF oj:=⟨_,by walk_at "wl_"⟩
noncomputable def rM:SF oj:=⟨_,by walk_at "wl_"⟩
theorem BS:gU ["form","thing"] ["form","thing"] rM.1:=by walk_at "fsc_"
theorem Eu(D:gX K mg "is_list_of" oj)(Z:Zs mg)(b:iI P w K mg base k "fits" ["form","thing"] tH):re P w K mg base (k+1) "is_list_of" ["form","thing"] (mU K (cl (kf 2 2 (rz K tH)))):=
 jQ D Et.2 rM.2 BS (λ_ _ _ _ _ _ us c=>by obtain⟨_,_,rfl⟩:=Sb c;rfl) λf iE A outer s H E a=>by
 have e:=iX a;exact(gE (iq (pN (qG (jb (iR (lJ jw Z.isinstance gQ (gr (gG 1) (gr (qF Z.list mX) gw))))) (qd (jb (sW k7 k7 gC (lJ jl Z.len jn (gr (gG 1) gw)) (nS Z.AJ)))))) (gD (gO j5)) hU)
   (gD (gO (lJ Ag Z.all AL (gr (ii (iU (N:=["one","form"]) (fr:=[ao,aa 0]) (iu.of (iA:=["form","thing"]) (gN:=rM.1) (by decide+kernel)) (iO (gG 1)) ij (λ_ _ _ _ _=>(gS 0 (show bB (["one","form"]:List ay) by decide+kernel))) (λ_ _ _ _ _=>iT) (λ_ _ _ _ _=>(jF b a (gr (gG 1) (gr (gG 0) gw)))))) gw)))))
abbrev Ev:bH:=top 30
noncomputable def Yd:BF Ev:=⟨_,by walk_at "wl_"⟩
noncomputable def Qz:SF Ev:=⟨_,by walk_at "wl_"⟩
theorem Uu:gU ["form","thing"] ["form","thing"] Qz.1:=by walk_at "fsc_"
theorem QC(D:gX K mg "fits" Ev)(Z:Zs mg)(e:iI P w K mg base k "is_word" ["thing"] lL)(b:iI P w K mg base k "is_whole" ["thing"] oQ)(c:iI P w K mg base k "is_list_of" ["form","thing"] kX):re P w K mg base (k+1) "fits" ["form","thing"] (mU K (cl (kf 2 2 (mK K lL oQ kX)))):=
 jQ D Yd.2 Qz.2 Uu (λ_ _ _ _ _ _ us g=>by obtain⟨_,_,rfl⟩:=Sb g;rfl) λf iE A outer s H E a=>by
 have h:=iX a;exact(gE (iq (g9 (jf a.units) (gG 0) gL) (gD (gO (jF e a (gr (gG 1) gw)))) hU)
   (gE (iq (g9 (jf a.units) (gG 0) gL) (gD (gO (qH (jF b a (gr (gG 1) gw)) (u3 (uv k7 k7 gC (gG 1) (nS Z.Jh)))))) hU)
   (gE (iq (g9 (jf a.units) (gG 0) gL) (gD (gO (qH (jF b a (gr (gG 1) gw)) (u3 (uv k7 k7 (nS Z.AK) (gG 1) (nS Z.xk)))))) hU)
   (gE (iq (g9 (jf a.units) (gG 0) gL) (gD (gO (lJ jw Z.isinstance gQ (gr (gG 1) (gr (qF Z.bool LH) gw))))) hU)
   (gE (iq (g9 (jf a.units) (gG 0) gL) (gD (gO (jF c a (gr gL (gr (gG 1) gw))))) hU)
   (gD (gO (jF c a (gr gL (gr (gG 1) gw))))))))))
abbrev xq:bH:=top 31
noncomputable def QD:BF xq:=⟨_,by walk_at "wl_"⟩
noncomputable def AT:SF xq:=⟨_,by walk_at "wl_"⟩
theorem CN:gU ["thing","forms"] ["thing"] AT.1:=by walk_at "fsc_"
theorem QH(D:gX K mg "is_row" xq)(Z:Zs mg)(c:mg "FORMS"=aa (.ref pP))(e:yb K pP w9)(g:iI P w K mg base k "fits" ["form","thing"] tH):re P w K mg base (k+1) "is_row" ["thing"] (mU K (cl (kf 2 1 (w8 K pP w9 tH)))):=
 jQ D QD.2 AT.2 CN (λ_ _ _ _ _ _ us h=>by obtain⟨_,rfl⟩:=yk h;rfl) λf iE A outer s H E a=>by
 have b:=iX a;exact(gE (iq (pN (qG (jb (iR (lJ jw Z.isinstance gQ (gr (gG 0) (gr (qF Z.tuple kL) gw))))) (qd (g9 (jf a.units) (lJ jl Z.len jn (gr (gG 0) gw)) gC)))) (gD (gO j5)) hU)
   (gE (iq (pN (qG (jb (iR (lJ jw Z.isinstance gQ (gr (jh (jx b) (gG 0) gC) (gr (qF Z.str Em) gw))))) (qd (g9 (FU e) (jh (jx b) (gG 0) gC) (nU c))))) (gD (gO j5)) hU)
   (gE (ix 1 CN.nd (jh (Xl e) (nU c) (jh (jx b) (gG 0) gC)))
   (gE (iq (g9 (sD a.units) (lJ jl Z.len jn (gr (gG 0) gw)) (ig jc gC (lJ jl Z.len jn (gr (gG 1) gw)))) (gD (gO j5)) hU)
   (gD (gO (lJ Ag Z.all AL (gr (ii (iU (N:=["form","one"]) (fr:=[ao,ao]) (iu.of (iA:=["thing","forms"]) (gN:=AT.1) (by decide+kernel)) (Xf (gr (gG 1) (gr (FG (gG 0) (nq gC) nk) gw)) Z.zip) (rm (jG ij (jG ij vH))) (λ_ _ _ _ _=>(lX (iy (gS 0 (show bB (["form","one"]:List ay) by decide+kernel)) (iy (gS 1 (show bB (["form","one"]:List ay) by decide+kernel)) kA)))) (λ_ _ _ _ _=>iT) (λ_ _ _ _ _=>(jF g a (gr (gG 0) (gr (gG 1) gw)))))) gw))))))))
abbrev rO:bH:=top 32
noncomputable def Jo:BF rO:=⟨_,by walk_at "wl_"⟩
noncomputable def AU:SF rO:=⟨_,by walk_at "wl_"⟩
theorem yW:gU ["told","kind"] ["told"] AU.1:=by walk_at "fsc_"
theorem Jp(D:gX K mg "code_row" rO)(c:mg "SetRow"=aa (.ref tI))(e:nF P w K mg base k tI xa)(g:mg "AlikeRow"=aa (.ref oR))(h:nF P w K mg base k oR rA)(i:mg "LastRow"=aa (.ref qK))(j:nF P w K mg base k qK uz)(l:mg "LeaveRow"=aa (.ref oS))(m:nF P w K mg base k oS rB)(n:mg "AimRow"=aa (.ref tJ))(o:nF P w K mg base k tJ xg)(p:mg "BoxRow"=aa (.ref tK))(q:nF P w K mg base k tK xh):re P w K mg base ((k+1)+1) "code_row" ["told"] (mU K (cl (kf 2 1 (AA tI xa oR rA qK uz oS rB tJ xg tK xh)))):=
 jQ D Jo.2 AU.2 yW (λ_ _ _ _ _ _ us r=>by obtain⟨_,rfl⟩:=yk r;rfl) λf iE A outer s H E a=>by
 have b:=iX a;exact(gE (ix 1 yW.nd (jh (jx b) (gG 0) gC))
   (gE (iq (g9 (jf a.units) (gG 1) gL) (gD (gO (nZ e a c (gr (gG 0) gw)))) hU)
   (gE (iq (g9 (jf a.units) (gG 1) gL) (gD (gO (nZ h a g (gr (gG 0) gw)))) hU)
   (gE (iq (g9 (FF b) (gG 1) (hG (gr gL (gr gL gw)))) (gD (gO (nZ j a i (gr (gG 0) gw)))) hU)
   (gE (iq (g9 (FF b) (gG 1) (hG (gr gL (gr gL gw)))) (gD (gO (nZ m a l (gr (gG 0) gw)))) hU)
   (gE (iq (g9 (FF b) (gG 1) (hG (gr gL (gr gL (gr gL gw))))) (gD (gO (nZ o a n (gr (gG 0) gw)))) hU)
   (gD (gO (nZ q a p (gr (gG 0) gw))))))))))
abbrev xr:bH:=top 33
noncomputable def QQ:BF xr:=⟨_,by walk_at "wl_"⟩
noncomputable def AV:SF xr:=⟨_,by walk_at "wl_"⟩
theorem CO:gU ["thing","told"] ["thing"] AV.1:=by walk_at "fsc_"
theorem QR(D:gX K mg "row_of" xr)(Z:Zs mg)(c:iI P w K mg base (k+1) "is_row" ["thing"] xi)(e:mg "MarkRow"=aa (.ref jd))(g:nF P w K mg base k jd uA)(h:mg "NumbersRow"=aa (.ref mh))(i:nF P w K mg base k mh og)(j:mg "TableRow"=aa (.ref oU))(l:nF P w K mg base k oU rC)(m:iI P w K mg base (k+1) "code_row" ["told"] rE):re P w K mg base ((k+1)+1) "row_of" ["thing"] (mU K (Vu 2 1 (AB K xi jd uA mh og oU rC rE))):=
 aat D QQ.2 AV.2 CO (λ_ _ _ _ _ _ us n=>by obtain⟨_,rfl⟩:=yk n;rfl) λf iE A outer s H E a=>by
 have b:=iX a;exact(gE (iq (jb (iR (jF c a (gr (gG 0) gw)))) (gD (gO sB)) hU)
   (gE (ix 1 CO.nd (Z4 tz Z.tuple kL (gr (ii (iU (N:=["one"]) (fr:=[ao]) (iu.of (iA:=["thing","told"]) (gN:=AV.1) (by decide+kernel)) (iO (gG 0)) ij (λ_ _ _ _ _=>(gS 0 (show bB (["one"]:List ay) by decide+kernel))) (λ_ _ _ _ _=>iT) (λ_ _ _ _ _=>(Z3 (iR (lJ jw Z.isinstance gQ (gr (gG 0) (gr (qF Z.list mX) gw)))) (Z4 tz Z.tuple kL (gr (gG 0) gw)) (gG 0))))) gw)))
   (gE (iq (g9 (jf a.units) (jh (jx b) (gG 1) gC) gL) (gD (gO (nZ g a e (gr (gG 1) gw)))) hU)
   (gE (iq (g9 (jf a.units) (jh (jx b) (gG 1) gC) gL) (gD (gO (nZ i a h (gr (gG 1) gw)))) hU)
   (gE (iq (g9 (jf a.units) (jh (jx b) (gG 1) gC) gL) (gD (gO (nZ l a j (gr (gG 1) gw)))) hU)
   (gD (gO (jF m a (gr (gG 1) gw)))))))))
abbrev k6:bH:=top 39
noncomputable def yn:BF k6:=⟨_,by walk_at "wl_"⟩
noncomputable def qN:SF k6:=⟨_,by walk_at "wl_"⟩
theorem xt:gU ["thing"] ["thing"] qN.1:=by walk_at "fsc_"
theorem yo(D:gX K mg "counts_as_mark" k6)(Z:Zs mg):re P w K mg base (k+1) "counts_as_mark" ["thing"] (mU K (cl (kf 1 1 (mM K)))):=
 jQ D yn.2 qN.2 xt (λ_ _ _ _ _ _ us c=>by obtain⟨_,rfl⟩:=yk c;rfl) λf iE A outer s H E a=>by have b:=iX a;exact(gD (gO (qH (lJ jw Z.isinstance gQ (gr (gG 0) (gr (qF Z.tuple kL) gw))) (qH (oM O5 (lJ jl Z.len jn (gr (gG 0) gw)) gC) (qH (lJ jw Z.isinstance gQ (gr (jh (jx b) (gG 0) gC) (gr (qF Z.str Em) gw))) (u3 (oM (jf a.units) (jh (jx b) (gG 0) gC) gL)))))))
abbrev mY:bH:=top 40
noncomputable def BU:BF mY:=⟨_,by walk_at "wl_"⟩
noncomputable def qj:SF mY:=⟨_,by walk_at "wl_"⟩
theorem AW:gU ["things"] ["things"] qj.1:=by walk_at "fsc_"
theorem BV(D:gX K mg "marks_among" mY)(Z:Zs mg)(b:iI P w K mg base k "counts_as_mark" ["thing"] kZ):re P w K mg base (k+1) "marks_among" ["things"] (mU K (cl (kf 1 1 (vf kZ)))):=
 jQ D BU.2 qj.2 AW (λ_ _ _ _ _ _ us c=>by obtain⟨_,rfl⟩:=yk c;rfl) λf iE A outer s H E a=>by have e:=iX a;exact(gD (gO (lJ jl Z.len jn (gr (ii (iU (N:=["thing"]) (fr:=[ao]) (iu.of (iA:=["things"]) (gN:=qj.1) (by decide+kernel)) (iO (gG 0)) ij (λ_ _ _ _ _=>(gS 0 (show bB (["thing"]:List ay) by decide+kernel))) (λ_ _ _ _ _=>(wS (iR (jF b a (gr (gG 0) gw))))) (λ_ _ _ _ _=>(gG 0)))) gw))))
abbrev mo:bH:=top 41
noncomputable def AX:BF mo:=⟨_,by walk_at "wl_"⟩
noncomputable def tP:SF mo:=⟨_,by walk_at "wl_"⟩
theorem zi:gU ["things"] ["things"] tP.1:=by walk_at "fsc_"
theorem AY(D:gX K mg "others_among" mo)(Z:Zs mg)(b:iI P w K mg base k "marks_among" ["things"] jt):re P w K mg base (k+1) "others_among" ["things"] (mU K (cl (kf 1 1 (tM jt)))):=
 jQ D AX.2 tP.2 zi (λ_ _ _ _ _ _ us c=>by obtain⟨_,rfl⟩:=yk c;rfl) λf iE A outer s H E a=>by have e:=iX a;exact(gD (gO (ig Dm (lJ jl Z.len jn (gr (gG 0) gw)) (jF b a (gr (gG 0) gw)))))
abbrev uF:bH:=top 42
noncomputable def Nr:BF uF:=⟨_,by walk_at "wl_"⟩
noncomputable def CP:SF uF:=⟨_,by walk_at "wl_"⟩
theorem Jx:gU ["thing"] ["thing"] CP.1:=by walk_at "fsc_"
theorem Nt(D:gX K mg "is_part" uF)(Z:Zs mg)(c:iI P w K mg base k "is_word" ["thing"] lL)(e:iI P w K mg base k "others_among" ["things"] ji):re P w K mg base (k+1) "is_part" ["thing"] (mU K (cl (kf 1 1 (CM K lL ji)))):=
 jQ D Nr.2 CP.2 Jx (λ_ _ _ _ _ _ us g=>by obtain⟨_,rfl⟩:=yk g;rfl) λf iE A outer s H E a=>by
 have b:=iX a;exact(gE (iq (pN (qG (jb (iR (lJ jw Z.isinstance gQ (gr (gG 0) (gr (qF Z.tuple kL) gw))))) (qd (g9 (sD a.units) (lJ jl Z.len jn (gr (gG 0) gw)) gC)))) (gD (gO j5)) hU)
   (gE (iq (pN (qG (jb (iR (jF c a (gr (jh (jx b) (gG 0) gC) gw)))) (qd (jb (iR (lJ jw Z.isinstance gQ (gr (jh (jx b) (gG 0) gC) (gr (qF Z.list mX) gw)))))))) (gD (gO j5)) hU)
   (gD (gO (uv k7 k7 gC (jF e a (gr (jh (jx b) (gG 0) gC) gw)) (nS Z.uW))))))
abbrev pX:bH:=top 43
noncomputable def GZ:BF pX:=⟨_,by walk_at "wl_"⟩
noncomputable def lP:SF pX:=⟨_,by walk_at "wl_"⟩
theorem Ez:gU ["thing"] ["thing"] lP.1:=by walk_at "fsc_"
theorem G0(D:gX K mg "are_parts" pX)(Z:Zs mg)(g:iI P w K mg base k "is_part" ["thing"] uB)(h:iI P w K mg base k "others_among" ["things"] ji)(i:iI P w K mg base k "marks_among" ["things"] jt):re P w K mg base (k+1) "are_parts" ["thing"] (mU K (cl (kf 1 1 (yV K uB ji jt)))):=
 jQ D GZ.2 lP.2 Ez (λ_ _ _ _ _ _ us j=>by obtain⟨_,rfl⟩:=yk j;rfl) λf iE A outer s H E a=>by
 have b:=iX a;exact(gE (iq (pN (qG (jb (iR (lJ jw Z.isinstance gQ (gr (gG 0) (gr (qF Z.list mX) gw))))) (qd (jb (sW k7 k7 gC (lJ jl Z.len jn (gr (gG 0) gw)) (nS Z.Ek)))))) (gD (gO j5)) hU)
   (gE (iq (jb (iR (lJ Ag Z.all AL (gr (ii (iU (N:=["part"]) (fr:=[ao]) (iu.of (iA:=["thing"]) (gN:=lP.1) (by decide+kernel)) (iO (gG 0)) ij (λ_ _ _ _ _=>(gS 0 (show bB (["part"]:List ay) by decide+kernel))) (λ_ _ _ _ _=>iT) (λ_ _ _ _ _=>(jF g a (gr (gG 0) gw))))) gw)))) (gD (gO j5)) hU)
   (gE (iq (g9 (sD a.units) (Pp a.hd Z.len Z.set (ii (iU (N:=["part"]) (fr:=[ao]) (iu.of (iA:=["thing"]) (gN:=lP.1) (by decide+kernel)) (iO (gG 0)) ij (λ_ _ _ _ _=>(gS 0 (show bB (["part"]:List ay) by decide+kernel))) (λ_ _ _ _ _=>iT) (λ_ _ _ _ _=>(jh (jx b) (gG 0) gC))))) (lJ jl Z.len jn (gr (gG 0) gw))) (gD (gO j5)) hU)
   (gE (iq (g9 O5 (lJ Dz Z.sum En (gr (ii (iU (N:=["part"]) (fr:=[ao]) (iu.of (iA:=["thing"]) (gN:=lP.1) (by decide+kernel)) (iO (gG 0)) ij (λ_ _ _ _ _=>(gS 0 (show bB (["part"]:List ay) by decide+kernel))) (λ_ _ _ _ _=>iT) (λ_ _ _ _ _=>(jF h a (gr (jh (jx b) (gG 0) gC) gw))))) gw)) (nS Z.GQ)) (gD (gO j5)) hU)
   (gD (gO (oM k7 (lJ Dz Z.sum En (gr (ii (iU (N:=["part"]) (fr:=[ao]) (iu.of (iA:=["thing"]) (gN:=lP.1) (by decide+kernel)) (iO (gG 0)) ij (λ_ _ _ _ _=>(gS 0 (show bB (["part"]:List ay) by decide+kernel))) (λ_ _ _ _ _=>iT) (λ_ _ _ _ _=>(jF i a (gr (jh (jx b) (gG 0) gC) gw))))) gw)) (nS Z.El))))))))
abbrev uG:bH:=top 44
noncomputable def Nv:BF uG:=⟨_,by walk_at "wl_"⟩
noncomputable def CQ:SF uG:=⟨_,by walk_at "wl_"⟩
theorem oZ:gU ["name","things","rows","number","thing","row"] ["name","things"] CQ.1:=by walk_at "fsc_"
noncomputable def yj(qL:GN)(nv:aj):XB:=(BI (λ_=>(iD 2 (xW (iP gB))))
 (BI (T0 (Ac (gu (gv 1) gB)) (j4 2 (ib (gM 3) (ib (gM 4) j0))) (BI (λ_=>(iD 5 (iM qL (gu (gv 4) gB))))
 (BI (YV (gK (gR Vw (gv 5) (dC .non))) (At nv ["part","row"] (gu (gv 0) (gu (gv 3) gB))) (λ_=>ia))
 (λ_=>(u4 (Pf "list" nt (gv 2) (gu (gv 5) gB)))))))
 (λ_=>(iw (gv 2)))))
theorem Nw(D:gX K mg "rows_of" uG)(Z:Zs mg)(b:iI P w K mg base (k+1) "row_of" ["thing"] qL)(c:wZ P w K mg base k "BadRow" nv ["part","row"]):zf P w K mg base ((k+1)+1) "rows_of" ["name","things"] (Gb K (BJ 6 2 (yj qL nv))):=
 PY D Nv.2 CQ.2 oZ (λ_ _ _ _ _ _ us e=>by obtain⟨_,_,rfl⟩:=Sb e;rfl) λf iE A outer s H E a=>by
 have g:=iX a;exact(md (JS.E5 (ix 2 oZ.nd (Fs (iC gw))))
   (md (DM (La (gr (gG 1) gw) Z.enumerate) (lX (iy (gS 3 oZ.nd) (iy (gS 4 oZ.nd) kA))) (md (JS.E5 (ix 5 oZ.nd (jF b a (gr (gG 4) gw))))
   (md (DL (g9 O6 (gG 5) sB) (ma (ye (ns:=["part","row"]) c a (gr (gG 0) (gr (gG 3) gw)))) (BD.E5 hU))
   (ma (JS.E5 (zl (Ts ux PySem.F.plainAttrs_list PySem.F.slot_list_append PySem.F.type_list_append (gG 2) (gr (gG 5) gw))))))) (λ_ _ _ _ h=>TC.th h) act.leaving)
   (ma (JS.E5 (gO (gG 2))))))
abbrev kE:bH:=top 45
noncomputable def xu:BF kE:=⟨_,by walk_at "wl_"⟩
noncomputable def pY:SF kE:=⟨_,by walk_at "wl_"⟩
theorem o6:gU ["rows","row"] ["rows"] pY.1:=by walk_at "fsc_"
theorem xv(D:gX K mg "first_but_marks" kE)(Z:Zs mg)(a:mg "MarkRow"=aa (.ref jd)):re P w K mg base (k+1) "first_but_marks" ["rows"] (mU K (cl (kf 2 1 (mi K jd)))):=
 jQ D xu.2 pY.2 o6 (λ_ _ _ _ _ _ us b=>by obtain⟨_,rfl⟩:=yk b;rfl) λf iE A outer s H E c=>by
 have e:=iX c;exact(gE (vE (iO (gG 0)) (gS 1 o6.nd) (gD (iq (jb (iR (lJ jw Z.isinstance gQ (gr (gG 1) (gr (nU a) gw))))) (gD (gO (gG 1))) hU)))
   (gD (gO sB)))
abbrev kb:bH:=top 46
noncomputable def vW:BF kb:=⟨_,by walk_at "wl_"⟩
noncomputable def o7:SF kb:=⟨_,by walk_at "wl_"⟩
theorem jU:gU ["name","rows","number","row","behind"] ["name","rows"] o7.1:=by walk_at "fsc_"
noncomputable def j8(K:W.Frag)(jk:GN)(oG:FQ)(oH:aj)(oi:aj)(jd:aj):XB:=(T0 (Ac (gu (gv 1) gB)) (j4 2 (ib (gM 2) (ib (gM 3) j0))) (BI (λ_=>(iD 4 (iM jk (gu (IC (gv 1) (oP (gR iQ (gv 2) (dC (.int 1)))) j7) gB))))
 (BI (YV (wR (gK (Ld oG "goes_on" (gv 3) gB)) (k9 (gK (iM (lg K) (gu (gv 4) (gu (dC (.cls oH)) gB)))))) (At oi ["part","row"] (gu (gv 0) (gu (gv 2) gB))) (λ_=>ia))
 (YV (wR (gK (iM (lg K) (gu (gv 3) (gu (dC (.cls jd)) gB)))) (gK (gR Vw (gv 4) (dC .non)))) (At oi ["part","row"] (gu (gv 0) (gu (gv 2) gB))) (λ_=>ia)))))
theorem vX(D:gX K mg "look_behind_rows" kb)(Z:Zs mg)(c:iI P w K mg base (k+1) "first_but_marks" ["rows"] jk)(e:∀C g,oG C "goes_on" g->ya P w K mg base (k+1) C "goes_on" g)(i:mg "CodeRow"=aa (.ref oH))(b:wZ P w K mg base k "NoEnd" oi ["part","row"])(j:mg "MarkRow"=aa (.ref jd)):zf P w K mg base ((k+1)+1) "look_behind_rows" ["name","rows"] (Gb K (BJ 5 2 (j8 K jk oG oH oi jd))):=
 PY D vW.2 o7.2 jU (λ_ _ _ _ _ _ us l=>by obtain⟨_,_,rfl⟩:=Sb l;rfl) λf iE A outer s H E a=>by
 have m:=iX a;exact(ma (DM (La (gr (gG 1) gw) Z.enumerate) (lX (iy (gS 2 jU.nd) (iy (gS 3 jU.nd) kA))) (md (JS.E5 (ix 4 jU.nd (jF c a (gr (FG (gG 1) (nq (ig jc (gG 2) gC)) nk) gw))))
   (md (DL (pN (xV (iR (Le e a (gG 3))) (zk (jb (iR (lJ jw Z.isinstance gQ (gr (gG 4) (gr (nU i) gw)))))))) (ma (ye (ns:=["part","row"]) b a (gr (gG 0) (gr (gG 2) gw)))) (BD.E5 hU))
   (ma (DL (pN (xV (iR (lJ jw Z.isinstance gQ (gr (gG 3) (gr (nU j) gw)))) (zk (g9 O6 (gG 4) sB)))) (ma (ye (ns:=["part","row"]) b a (gr (gG 0) (gr (gG 2) gw)))) (BD.E5 hU))))) (λ_ _ _ _ h=>TC.th h) act.leaving))
abbrev pZ:bH:=top 47
noncomputable def G1:BF pZ:=⟨_,by walk_at "wl_"⟩
noncomputable def tQ:SF pZ:=⟨_,by walk_at "wl_"⟩
theorem om:gU ["parts","told","name","rows"] ["parts"] tQ.1:=by walk_at "fsc_"
noncomputable def tN(lM:GN)(j9:aj)(oI:Lq)(je:Lq):XB:=(BI (YV (k9 (gK (iM lM (gu (gv 0) gB)))) (Lr j9 (gu (dC (.str "these are no parts")) gB)) (λ_=>ia))
 (BI (TV 1 (aaI (CH [ao] (iZ (gv 0)) (gM 0) lq (Xz (F9 (λ_=>(gR km (gv 0) (dC (.int 0)))) (F9 (dCX oI (λ_=>(gu (gR km (gv 0) (dC (.int 0))) (gu (gR km (gv 0) (dC (.int 1))) gB)))) (λ_=>gB)))))))
 (BI (T0 (iZ (gv 1)) (j4 2 (ib (gM 2) (ib (gM 3) j0))) (VO (dCX je (λ_=>(gu (gv 2) (gu (gv 3) gB))))))
 (λ_=>(iw (gv 1))))))
theorem G3(D:gX K mg "looked_at" pZ)(e:iI P w K mg base k "are_parts" ["thing"] lM)(g:mg "BadParts"=aa (.ref j9))(i:P0 K j9)(j:yQ P w K mg base k "rows_of" ["name","things"] oI)(l:yQ P w K mg base k "look_behind_rows" ["name","rows"] je):zf P w K mg base (k+1) "looked_at" ["parts"] (Gb K (BJ 4 1 (tN lM j9 oI je))):=
 PY D G1.2 tQ.2 om (λ_ _ _ _ _ _ us m=>by obtain⟨_,rfl⟩:=yk m;rfl) λf iE A outer s H E a=>by
 have b:=iX a;exact(md (DL (jb (iR (jF e a (gr (gG 0) gw)))) (ma (IV i g (gr gL gw))) (BD.E5 hU))
   (md (MZ 1 om.nd (N:=["part"]) (fr:=[ao]) (iu.of (iA:=["parts","told","name","rows"]) (gN:=tQ.1) (by decide+kernel)) (iO (gG 0)) ij (λ_ _ _ _ _ _=>(gS 0 (show bB (["part"]:List ay) by decide+kernel))) (λ_ _ _ _ _ _=>iT) (λ_ _ _ _ _ _ c=>(XC (Ga (JE.E5 (jh (jx b) (gG 0) gC)) (Ga (PQ j a c (JA.E5 (gr (jh (jx b) (gG 0) gC) (gr (jh (jx b) (gG 0) gC) gw)))) (JA.E5 gw))))))
   (md (DM (iO (gG 1)) (lX (iy (gS 2 om.nd) (iy (gS 3 om.nd) kA))) (ma (PR (PQ l a aaE (JA.E5 (gr (gG 2) (gr (gG 3) gw)))))) (λ_ _ _ _ h=>TC.th h) act.leaving)
   (ma (JS.E5 (gO (gG 1)))))))
abbrev mZ:bH:=top 49
noncomputable def BW:BF mZ:=⟨_,by walk_at "wl_"⟩
noncomputable def vi:SF mZ:=⟨_,by walk_at "wl_"⟩
theorem AZ:gU ["_law_script","_law_k"] ["_law_script","_law_k"] vi.1:=by walk_at "fsc_"
noncomputable def ql:DS:=(gY (iB (gK (gR W5 (gv 1) (iM lu (gu (gv 0) gB)))) (iw (gR km (gv 0) (gv 1))) ia)
 (iw (dC (.int 0))))
theorem BX(D:gX K mg "_law_cell_at" mZ)(Z:Zs mg):re P w K mg base (k+1) "_law_cell_at" ["_law_script","_law_k"] (mU K (cl (kf 2 2 ql))):=
 jQ D BW.2 vi.2 AZ (λ_ _ _ _ _ _ us a=>by obtain⟨_,_,rfl⟩:=Sb a;rfl) λf iE A outer s H E b=>by
 have c:=iX b;exact(gE (iq (g9 Z7 (gG 1) (lJ jl Z.len jn (gr (gG 0) gw))) (gD (gO (jh (jx c) (gG 0) (gG 1)))) hU)
   (gD (gO gC)))
abbrev p0:bH:=top 50
noncomputable def G5:BF p0:=⟨_,by walk_at "wl_"⟩
noncomputable def yX:SF p0:=⟨_,by walk_at "wl_"⟩
theorem rQ:gU ["_law_cell","_law_k","_law_number"] ["_law_cell","_law_k"] yX.1:=by walk_at "fsc_"
theorem G6(D:gX K mg "_law_mixed" p0):re P w K mg base (k+1) "_law_mixed" ["_law_cell","_law_k"] (mU K (cl (kf 3 2 yU))):=
 jQ D G5.2 yX.2 rQ (λ_ _ _ _ _ _ us a=>by obtain⟨_,_,rfl⟩:=Sb a;rfl) λf iE A outer s H E b=>by
 have c:=iX b;exact(gE (ix 2 rQ.nd (ig i5 (ig l4 (ig jc (ig jc (ig i5 (gG 0) gC) (ig l4 gC (gG 1))) gC) gC) gC))
   (gE (ix 2 rQ.nd (ig i5 (ig l4 (gG 2) (ig jc (ig jg (gG 2) gC) gC)) gC))
   (gD (gO (ig i5 (ig l4 (ig jc (gG 2) (ig l4 gC (gG 1))) (ig jc (ig jg (gG 2) gC) gC)) gC)))))
abbrev p4:bH:=top 51
noncomputable def G7:BF p4:=⟨_,by walk_at "wl_"⟩
noncomputable def yY:SF p4:=⟨_,by walk_at "wl_"⟩
theorem mq:gU ["_law_cell","_law_many","_law_found","_law_rest","_law_k"] ["_law_cell","_law_many"] yY.1:=by walk_at "fsc_"
theorem G8(D:gX K mg "_law_draws" p4)(Z:Zs mg)(b:iI P w K mg base k "_law_mixed" ["_law_cell","_law_k"] pR):re P w K mg base (k+1) "_law_draws" ["_law_cell","_law_many"] (mU K (cl (kf 5 2 (tL pR)))):=
 jQ D G7.2 yY.2 mq (λ_ _ _ _ _ _ us c=>by obtain⟨_,_,rfl⟩:=Sb c;rfl) λf iE A outer s H E a=>by
 have e:=iX a;exact(gE (ix 2 mq.nd (Fs (iC gw)))
   (gE (ix 3 mq.nd (ig jg (gG 0) gC))
   (gE (vE (uw (gr (gG 1) gw) Z.range) (gS 4 mq.nd) (gD (iq (g9 (jf a.units) (ig i5 (gG 0) gC) gC) (gE (zl (Ts ux PySem.F.plainAttrs_list PySem.F.slot_list_append PySem.F.type_list_append (gG 2) (gr (ig i5 (gG 3) gC) gw)))
   (gD (ix 3 mq.nd (ig jg (gG 3) gC)))) (gD (zl (Ts ux PySem.F.plainAttrs_list PySem.F.slot_list_append PySem.F.type_list_append (gG 2) (gr (ig i5 (jF b a (gr (gG 3) (gr (gG 4) gw))) gC) gw)))))))
   (gD (gO (gG 2))))))
abbrev uH:bH:=top 52
noncomputable def NA:BF uH:=⟨_,by walk_at "wl_"⟩
noncomputable def CS:SF uH:=⟨_,by walk_at "wl_"⟩
theorem lw:gU ["_law_draw","_law_b","_law_c","_law_some"] ["_law_draw"] CS.1:=by walk_at "fsc_"
noncomputable def CT:DS:=(gY (aas 1 2 (gu (gR (gI (λ_ j=>0<j) λi j=>.int (i%j)) (gR (gI i9 λi j=>.int (i/j)) (gv 0) (dC (.int 20))) (dC (.int 4))) (gu (gR (gI (λ_ j=>0<j) λi j=>.int (i%j)) (gR (gI i9 λi j=>.int (i/j)) (gv 0) (dC (.int 80))) (dC (.int 4))) gB)))
 (gY (iD 3 (ie (iP (gu (hW (gu (dC (.str "mark")) (gu (dC (.str "go")) (gu (gR mF (gR (gI (λ_ j=>0<j) λi j=>.int (i%j)) (gR (gI i9 λi j=>.int (i/j)) (gv 0) (dC (.int 20))) (dC (.int 2))) (dC (.int 0))) gB)))) (gu (hW (gu (dC (.str "set")) (gu (gv 1) (gu (gv 0) gB)))) (gu (hW (gu (dC (.str "add")) (gu (gv 1) (gu (gv 2) gB)))) (gu (hW (gu (dC (.str "take")) (gu (gv 1) (gu (gv 2) gB)))) (gu (hW (gu (dC (.str "say")) (gu (gv 1) gB))) gB))))))))
 (gY (iD 3 (gR iQ (gv 3) (ie (iP (gu (hW (gu (dC (.str "ask")) (gu (gv 1) gB))) (gu (hW (gu (dC (.str "jump")) (gu (dC (.str "go")) gB))) (gu (hW (gu (dC (.str "jumpif")) (gu (gv 1) (gu (dC (.str "go")) gB)))) (gu (hW (gu (dC (.str "call")) (gu (dC (.str "go")) gB))) (gu (hW (gu (dC (.str "back")) gB)) (gu (hW (gu (dC (.str "stop")) gB)) gB))))))))))
 (gY (iD 3 (gR iQ (gv 3) (ie (iP (gu (hW (gu (dC (.str "load")) (gu (gv 1) (gu (gv 2) (gu (dC (.str "nu")) gB))))) (gu (hW (gu (dC (.str "jumpby")) (gu (gv 1) (gu (dC (.str "ta")) gB)))) (gu (hW (gu (dC (.str "alike")) (gu (gv 1) (gu (dC (.str "go")) (gu (dC (.str "nu")) gB))))) gB)))))))
 (gY (iD 3 (gR iQ (gv 3) (ie (iP (gu (hW (gu (dC (.str "numbers")) (gu (ie (iP (gu (gv 0) (gu (gv 1) gB)))) gB))) (gu (hW (gu (dC (.str "table")) (gu (ie (iP (gu (dC (.str "go")) gB))) gB))) gB))))))
 (gY (iD 3 (gR iQ (gv 3) (ie (iP (gu (hW (gu (dC (.str "mark")) (gu (dC (.str "up")) (gu (dC (.bl am)) gB)))) (gu (hW (gu (dC (.str "say")) (gu (gv 2) gB))) (gu (hW (gu (dC (.str "jump")) (gu (dC (.str "up")) gB))) (gu (hW (gu (dC (.str "stop")) gB)) gB))))))))
 (iw (gR km (gv 3) (gR (gI (λ_ j=>0<j) λi j=>.int (i%j)) (gv 0) (dC (.int 20)))))))))))
theorem NB(D:gX K mg "_law_row" uH):re P w K mg base (k+1) "_law_row" ["_law_draw"] (mU K (cl (kf 4 1 CT))):=
 jQ D NA.2 CS.2 lw (λ_ _ _ _ _ _ us b=>by obtain⟨_,rfl⟩:=yk b;rfl) λf iE A outer s H E a=>by
 have c:=iX a;exact(gE (Xk 1 2 lw.nd (gr (ig i5 (ig jg (gG 0) gC) gC) (gr (ig i5 (ig jg (gG 0) gC) gC) gw)))
   (gE (ix 3 lw.nd (ii (iC (gr (hG (gr gL (gr gL (gr (oM (jf a.units) (ig i5 (ig jg (gG 0) gC) gC) gC) gw)))) (gr (hG (gr gL (gr (gG 1) (gr (gG 0) gw)))) (gr (hG (gr gL (gr (gG 1) (gr (gG 2) gw)))) (gr (hG (gr gL (gr (gG 1) (gr (gG 2) gw)))) (gr (hG (gr gL (gr (gG 1) gw))) gw))))))))
   (gE (ix 3 lw.nd (ig jc (gG 3) (ii (iC (gr (hG (gr gL (gr (gG 1) gw))) (gr (hG (gr gL (gr gL gw))) (gr (hG (gr gL (gr (gG 1) (gr gL gw)))) (gr (hG (gr gL (gr gL gw))) (gr (hG (gr gL gw)) (gr (hG (gr gL gw)) gw))))))))))
   (gE (ix 3 lw.nd (ig jc (gG 3) (ii (iC (gr (hG (gr gL (gr (gG 1) (gr (gG 2) (gr gL gw))))) (gr (hG (gr gL (gr (gG 1) (gr gL gw)))) (gr (hG (gr gL (gr (gG 1) (gr gL (gr gL gw))))) gw)))))))
   (gE (ix 3 lw.nd (ig jc (gG 3) (ii (iC (gr (hG (gr gL (gr (ii (iC (gr (gG 0) (gr (gG 1) gw)))) gw))) (gr (hG (gr gL (gr (ii (iC (gr gL gw))) gw))) gw))))))
   (gE (ix 3 lw.nd (ig jc (gG 3) (ii (iC (gr (hG (gr gL (gr gL (gr j5 gw)))) (gr (hG (gr gL (gr (gG 2) gw))) (gr (hG (gr gL (gr gL gw))) (gr (hG (gr gL gw)) gw))))))))
   (gD (gO (jh (jx c) (gG 3) (ig i5 (gG 0) gC))))))))))
abbrev m4:bH:=top 53
noncomputable def BY:BF m4:=⟨_,by walk_at "wl_"⟩
noncomputable def vj:SF m4:=⟨_,by walk_at "wl_"⟩
theorem A0:gU ["_law_told"] ["_law_told"] vj.1:=by walk_at "fsc_"
noncomputable def vk:DS:=(iw (gR (NU am) (gR km (gv 0) (dC (.int 0))) (hW (gu (dC (.str "set")) (gu (dC (.str "add")) (gu (dC (.str "take")) (gu (dC (.str "say")) (gu (dC (.str "ask")) (gu (dC (.str "jumpif")) (gu (dC (.str "call")) (gu (dC (.str "load")) (gu (dC (.str "alike")) gB))))))))))))
theorem BZ(D:gX K mg "_law_goes_on" m4):re P w K mg base (k+1) "_law_goes_on" ["_law_told"] (mU K (cl (kf 1 1 vk))):=
 jQ D BY.2 vj.2 A0 (λ_ _ _ _ _ _ us b=>by obtain⟨_,rfl⟩:=yk b;rfl) λf iE A outer s H E c=>by have a:=iX c;exact(gD (gO (oM (FF a) (jh (jx a) (gG 0) gC) (hG (gr gL (gr gL (gr gL (gr gL (gr gL (gr gL (gr gL (gr gL (gr gL gw)))))))))))))
abbrev m5:bH:=top 54
noncomputable def B0:BF m5:=⟨_,by walk_at "wl_"⟩
noncomputable def vm:SF m5:=⟨_,by walk_at "wl_"⟩
theorem kM:gU ["_law_rows","_law_found","_law_told"] ["_law_rows"] vm.1:=by walk_at "fsc_"
noncomputable def vn(iV:GN):DS:=(gY (iD 1 (xW (iP gB)))
 (gY (uS (iZ (gv 0)) (gM 2) (gY (iB (wR (gK (gR (NU am) (gR km (gv 2) (dC (.int 0))) (hW (gu (dC (.str "numbers")) (gu (dC (.str "table")) gB))))) (wR (gK (gR ze (gv 1) (ie (iP gB)))) (gK (iM iV (gu (gR km (gv 1) (FH (dC (.int 1)))) gB))))) (iD 2 (hW (gu (dC (.str "back")) gB))) ia)
 (gY (iB (wR (gK (gR mF (gR km (gv 2) (dC (.int 0))) (dC (.str "mark")))) (wR (gK (gR ze (gv 1) (ie (iP gB)))) (gK (iM iV (gu (gR km (gv 1) (FH (dC (.int 1)))) gB))))) (iD 2 (hW (gu (dC (.str "say")) (gu (dC (.int 0)) gB)))) ia)
 (u4 (Pf "list" nt (gv 1) (gu (gv 2) gB))))))
 (gY (iB (Ir (gK (gR mF (gR km (gR km (gv 1) (FH (dC (.int 1)))) (dC (.int 0))) (dC (.str "mark")))) (gK (iM iV (gu (gR km (gv 1) (FH (dC (.int 1)))) gB)))) (oN (hW (gu (dC (.str "stop")) gB)) (lK (gv 1) (FH (dC (.int 1))))) ia)
 (iw (gv 1)))))
theorem B1(D:gX K mg "_law_ordered" m5)(c:iI P w K mg base k "_law_goes_on" ["_law_told"] iV):re P w K mg base (k+1) "_law_ordered" ["_law_rows"] (mU K (cl (kf 3 1 (vn iV)))):=
 jQ D B0.2 vm.2 kM (λ_ _ _ _ _ _ us e=>by obtain⟨_,rfl⟩:=yk e;rfl) λf iE A outer s H E a=>by
 have b:=iX a;exact(gE (ix 1 kM.nd (Fs (iC gw)))
   (gE (vE (iO (gG 0)) (gS 2 kM.nd) (gE (iq (pN (xV (g9 (FF b) (jh (jx b) (gG 2) gC) (hG (gr gL (gr gL gw)))) (xV (g9 (sD a.units) (gG 1) (ii (iC gw))) (zk (iR (jF c a (gr (jh (jx b) (gG 1) (FI gC)) gw))))))) (gD (ix 2 kM.nd (hG (gr gL gw)))) hU)
   (gE (iq (pN (xV (g9 (jf a.units) (jh (jx b) (gG 2) gC) gL) (xV (g9 (sD a.units) (gG 1) (ii (iC gw))) (zk (iR (jF c a (gr (jh (jx b) (gG 1) (FI gC)) gw))))))) (gD (ix 2 kM.nd (hG (gr gL (gr gC gw))))) hU)
   (gD (zl (Ts ux PySem.F.plainAttrs_list PySem.F.slot_list_append PySem.F.type_list_append (gG 1) (gr (gG 2) gw)))))))
   (gE (iq (pN (qG (g9 (jf a.units) (jh (jx b) (jh (jx b) (gG 1) (FI gC)) gC) gL) (qd (iR (jF c a (gr (jh (jx b) (gG 1) (FI gC)) gw)))))) (gD (nE (hG (gr gL gw)) (qh (gG 1) (FI gC)))) hU)
   (gD (gO (gG 1))))))
abbrev rS:bH:=top 55
noncomputable def JD:BF rS:=⟨_,by walk_at "wl_"⟩
noncomputable def v0:SF rS:=⟨_,by walk_at "wl_"⟩
theorem p5:gU ["_law_cell","_law_k","_law_most","_law_name","_law_draws_here","_law_rows"] ["_law_cell","_law_k","_law_most"] v0.1:=by walk_at "fsc_"
noncomputable def A1(pS:GN)(uC:GN)(mV:GN):DS:=(gY (iD 3 (gR nY (gR km (dC (.str "abcdefghijkl")) (gR (gI (λ_ j=>0<j) λi j=>.int (i%j)) (gR iQ (gR nY (gv 1) (dC (.int 5))) (dC (.int 3))) (dC (.int 12)))) (gR iQ (dC (.int 1)) (gR (gI (λ_ j=>0<j) λi j=>.int (i%j)) (gv 1) (dC (.int 3))))))
 (gY (iD 4 (iM pS (gu (gR (gI i9 λi j=>.int (i/j)) (gR (gI i9 λi j=>.int (i/j)) (gv 0) (gv 2)) (dC (.int 2))) (gu (gR iQ (dC (.int 1)) (gR (gI (λ_ j=>0<j) λi j=>.int (i%j)) (gR (gI i9 λi j=>.int (i/j)) (gv 0) (dC (.int 2))) (gv 2))) gB))))
 (gY (iD 5 (ie (iY [ao] (iZ (gv 4)) (gM 0) lq (iM uC (gu (gv 0) gB)))))
 (gY (iB (gK (gR mF (gR (gI (λ_ j=>0<j) λi j=>.int (i%j)) (gv 0) (dC (.int 2))) (dC (.int 0)))) (iw (hW (gu (gv 3) (gu (iM mV (gu (gv 5) gB)) gB)))) ia)
 (iw (hW (gu (gv 3) (gu (gv 5) gB))))))))
theorem JH(D:gX K mg "_law_part" rS)(b:iI P w K mg base k "_law_draws" ["_law_cell","_law_many"] pS)(c:iI P w K mg base k "_law_row" ["_law_draw"] uC)(e:iI P w K mg base k "_law_ordered" ["_law_rows"] mV):re P w K mg base (k+1) "_law_part" ["_law_cell","_law_k","_law_most"] (mU K (cl (kf 6 3 (A1 pS uC mV)))):=
 jQ D JD.2 v0.2 p5 (λ_ _ _ _ _ _ us g=>by obtain⟨_,_,_,rfl⟩:=us3 g;rfl) λf iE A outer s H E a=>by
 have h:=iX a;exact(gE (ix 3 p5.nd (ig l4 (jh (jx h) gL (ig i5 (ig jc (ig l4 (gG 1) gC) gC) gC)) (ig jc gC (ig i5 (gG 1) gC))))
   (gE (ix 4 p5.nd (jF b a (gr (ig jg (ig jg (gG 0) (gG 2)) gC) (gr (ig jc gC (ig i5 (ig jg (gG 0) gC) (gG 2))) gw))))
   (gE (sZ 5 p5.nd (N:=["_law_draw"]) (fr:=[ao]) (iu.of (iA:=["_law_cell","_law_k","_law_most","_law_name","_law_draws_here","_law_rows"]) (gN:=v0.1) (by decide+kernel)) (iO (gG 4)) ij (λ_ _ _ _ _=>(gS 0 (show bB (["_law_draw"]:List ay) by decide+kernel))) (λ_ _ _ _ _=>iT) (λ_ _ _ _ _=>(jF c a (gr (gG 0) gw))))
   (gE (iq (g9 (jf a.units) (ig i5 (gG 0) gC) gC) (gD (gO (hG (gr (gG 3) (gr (jF e a (gr (gG 5) gw)) gw))))) hU)
   (gD (gO (hG (gr (gG 3) (gr (gG 5) gw)))))))))
abbrev oq:bH:=top 56
noncomputable def EA:BF oq:=⟨_,by walk_at "wl_"⟩
noncomputable def rT:SF oq:=⟨_,by walk_at "wl_"⟩
theorem iH:gU ["_law_parts","_law_cell","_law_at","_law_name","_law_rows","_law_k","_law_found","_law_way","_law_odd","_law_more"] ["_law_parts","_law_cell"] rT.1:=by walk_at "fsc_"
noncomputable def ou:DS:=(gY (iD 2 (gR (gI (λ_ j=>0<j) λi j=>.int (i%j)) (gR (gI i9 λi j=>.int (i/j)) (gv 1) (dC (.int 12))) (iM lu (gu (gv 0) gB))))
 (gY (oN (gR km (gv 0) (gv 2)) (j4 2 (ib (gM 3) (ib (gM 4) j0))))
 (gY (iD 5 (gR (gI (λ_ j=>0<j) λi j=>.int (i%j)) (gR (gI i9 λi j=>.int (i/j)) (gv 1) (dC (.int 144))) (iM lu (gu (gv 4) gB))))
 (gY (iD 6 (xW (Xj x9 (gu (gv 0) gB))))
 (gY (iD 7 (gR (gI (λ_ j=>0<j) λi j=>.int (i%j)) (gv 1) (dC (.int 12))))
 (gY (iB (gK (gR mF (gv 7) (dC (.int 1)))) (gY (iD 8 (gR km (ie (iP (gu (hW (gu (dC (.str "set")) (gu (dC (.int 4)) (gu (dC (.int 0)) gB)))) (gu (hW (gu (dC (.str "say")) gB)) (gu (dC .non) (gu (ie (iP (gu (dC (.str "stop")) gB))) (gu (hW (gu (dC (.str "Stop")) gB)) gB))))))) (gR (gI (λ_ j=>0<j) λi j=>.int (i%j)) (gR (gI i9 λi j=>.int (i/j)) (gv 1) (dC (.int 7))) (dC (.int 5)))))
 (oN (hW (gu (gv 3) (gu (gR iQ (gR iQ (IC (gv 4) j7 (oP (gv 5))) (ie (iP (gu (gv 8) gB)))) (IC (gv 4) (oP (gR iQ (gv 5) (dC (.int 1)))) j7)) gB))) (lK (gv 6) (gv 2)))) (iB (gK (gR mF (gv 7) (dC (.int 2)))) (oN (hW (gu (gR km (ie (iP (gu (Pf "str" Ds (gv 3) gB) (gu (dC (.str "")) (gu (gR nY (gv 3) (dC (.int 9))) (gu (dC .non) (gu (dC (.int 5)) gB))))))) (gR (gI (λ_ j=>0<j) λi j=>.int (i%j)) (gR (gI i9 λi j=>.int (i/j)) (gv 1) (dC (.int 7))) (dC (.int 5)))) (gu (gv 4) gB))) (lK (gv 6) (gv 2))) (iB (gK (gR mF (gv 7) (dC (.int 3)))) (gY (oN (hW (gu (dC (.str "a")) (gu (gv 4) gB))) (lK (gv 6) (gv 2)))
 (iD 6 (gR iQ (gv 6) (ie (iP (gu (hW (gu (dC (.str "a")) (gu (ie (iP (gu (hW (gu (dC (.str "stop")) gB)) gB))) gB))) gB)))))) (iB (gK (gR mF (gv 7) (dC (.int 4)))) (oN (hW (gu (gv 3) (gu (gR km (ie (iP (gu (ie (iP gB)) (gu (gR nY (gv 4) (dC (.int 61))) (gu (iM tu (gu (gv 4) gB)) (gu (dC .non) gB)))))) (gR (gI (λ_ j=>0<j) λi j=>.int (i%j)) (gR (gI i9 λi j=>.int (i/j)) (gv 1) (dC (.int 7))) (dC (.int 4)))) gB))) (lK (gv 6) (gv 2))) (iB (gK (gR mF (gv 7) (dC (.int 5)))) (oN (gR km (ie (iP (gu (hW (gu (gv 3) gB)) (gu (ie (iP (gu (gv 3) (gu (gv 4) gB)))) (gu (hW (gu (gv 3) (gu (gv 4) (gu (dC (.int 0)) gB)))) (gu (dC .non) gB)))))) (gR (gI (λ_ j=>0<j) λi j=>.int (i%j)) (gR (gI i9 λi j=>.int (i/j)) (gv 1) (dC (.int 7))) (dC (.int 4)))) (lK (gv 6) (gv 2))) (iB (gK (gR mF (gv 7) (dC (.int 6)))) (iD 6 (gR km (ie (iP (gu (iM tu (gu (gv 0) gB)) (gu (ie (iP gB)) (gu (dC .non) (gu (dC (.int 5)) (gu (gR nY (gv 0) (dC (.int 13))) gB))))))) (gR (gI (λ_ j=>0<j) λi j=>.int (i%j)) (gR (gI i9 λi j=>.int (i/j)) (gv 1) (dC (.int 7))) (dC (.int 5))))) (iB (gK (gR mF (gv 7) (dC (.int 7)))) (oN (hW (gu (gv 3) (gu (gR iQ (IC (gv 4) j7 (oP (gv 5))) (ie (iP (gu (hW (gu (dC (.str "say")) (gu (dC (.int 0)) gB))) gB)))) gB))) (lK (gv 6) (gv 2))) (iB (gK (gR mF (gv 7) (dC (.int 8)))) (oN (hW (gu (gv 3) (gu (gR iQ (IC (gv 4) j7 (oP (gv 5))) (ie (iP (gu (hW (gu (dC (.str "mark")) (gu (dC (.str "z")) (gu (dC (.bl ah)) gB)))) gB)))) gB))) (lK (gv 6) (gv 2))) (iB (gK (gR mF (gv 7) (dC (.int 9)))) (iD 6 (xW (iY [ao,ao] (iZ (gv 0)) (j4 2 (ib (gM 0) (ib (gM 1) j0))) lq (hW (gu (gv 0) (gu (IC (gR nY (gv 1) (dC (.int 60))) j7 (oP (dC (.int 60)))) gB)))))) (iB (gK (gR mF (gv 7) (dC (.int 10)))) (gY (iD 9 (gR nY (ie (iP (gu (hW (gu (dC (.str "mark")) (gu (dC (.str "m")) (gu (dC (.bl am)) gB)))) gB))) (gR (gI (λ_ j=>0<j) λi j=>.int (i%j)) (gR (gI i9 λi j=>.int (i/j)) (gv 1) (dC (.int 28))) (dC (.int 9)))))
 (oN (hW (gu (gv 3) (gu (gR iQ (gR iQ (gR nY (ie (iP (gu (hW (gu (dC (.str "say")) (gu (dC (.int 0)) gB))) gB))) (gR iQ (dC (.int 58)) (gR (gI (λ_ j=>0<j) λi j=>.int (i%j)) (gR (gI i9 λi j=>.int (i/j)) (gv 1) (dC (.int 7))) (dC (.int 4))))) (gv 9)) (ie (iP (gu (hW (gu (dC (.str "stop")) gB)) gB)))) gB))) (lK (gv 6) (gv 2)))) (iB (gK (gR mF (gv 7) (dC (.int 11)))) (oN (hW (gu (gv 3) (gu (gR iQ (gR nY (ie (iP (gu (hW (gu (dC (.str "mark")) (gu (dC (.str "m")) (gu (dC (.bl am)) gB)))) gB))) (gR (K5 λi j=>.int (i- j)) (dC (.int 201)) (gR (gI (λ_ j=>0<j) λi j=>.int (i%j)) (gR (gI i9 λi j=>.int (i/j)) (gv 1) (dC (.int 7))) (dC (.int 40))))) (gv 4)) gB))) (lK (gv 6) (gv 2))) ia)))))))))))
 (iw (gv 6))))))))
theorem EB(D:gX K mg "_law_spoilt" oq)(Z:Zs mg):re P w K mg base (k+1) "_law_spoilt" ["_law_parts","_law_cell"] (mU K (cl (kf 10 2 ou))):=
 jQ D EA.2 rT.2 iH (λ_ _ _ _ _ _ us c=>by obtain⟨_,_,rfl⟩:=Sb c;rfl) λf iE A outer s H E a=>by
 have b:=iX a;exact(gE (ix 2 iH.nd (ig i5 (ig jg (gG 1) gC) (lJ jl Z.len jn (gr (gG 0) gw))))
   (gE (nE (jh (jx b) (gG 0) (gG 2)) (lX (iy (gS 3 iH.nd) (iy (gS 4 iH.nd) kA))))
   (gE (ix 5 iH.nd (ig i5 (ig jg (gG 1) gC) (lJ jl Z.len jn (gr (gG 4) gw))))
   (gE (ix 6 iH.nd (Fs (Tq Ah Z.list mX (gr (gG 0) gw))))
   (gE (ix 7 iH.nd (ig i5 (gG 1) gC))
   (gE (iq (g9 (jf a.units) (gG 7) gC) (gE (ix 8 iH.nd (jh (jx b) (ii (iC (gr (hG (gr gL (gr gC (gr gC gw)))) (gr (hG (gr gL gw)) (gr sB (gr (ii (iC (gr gL gw))) (gr (hG (gr gL gw)) gw))))))) (ig i5 (ig jg (gG 1) gC) gC)))
   (gD (nE (hG (gr (gG 3) (gr (ig jc (ig jc (FG (gG 4) nk (nq (gG 5))) (ii (iC (gr (gG 8) gw)))) (FG (gG 4) (nq (ig jc (gG 5) gC)) nk)) gw))) (qh (gG 6) (gG 2))))) (gD (iq (g9 (jf a.units) (gG 7) gC) (gD (nE (hG (gr (jh (jx b) (ii (iC (gr (aar Pg PySem.F.plainAttrs_str PySem.F.slot_str_upper PySem.F.type_str_upper (gG 3)) (gr gL (gr (ig l4 (gG 3) gC) (gr sB (gr gC gw))))))) (ig i5 (ig jg (gG 1) gC) gC)) (gr (gG 4) gw))) (qh (gG 6) (gG 2)))) (gD (iq (g9 (jf a.units) (gG 7) gC) (gE (nE (hG (gr gL (gr (gG 4) gw))) (qh (gG 6) (gG 2)))
   (gD (ix 6 iH.nd (ig jc (gG 6) (ii (iC (gr (hG (gr gL (gr (ii (iC (gr (hG (gr gL gw)) gw))) gw))) gw))))))) (gD (iq (g9 (jf a.units) (gG 7) gC) (gD (nE (hG (gr (gG 3) (gr (jh (jx b) (ii (iC (gr (ii (iC gw)) (gr (ig l4 (gG 4) gC) (gr (Z4 tz Z.tuple kL (gr (gG 4) gw)) (gr sB gw)))))) (ig i5 (ig jg (gG 1) gC) gC)) gw))) (qh (gG 6) (gG 2)))) (gD (iq (g9 (jf a.units) (gG 7) gC) (gD (nE (jh (jx b) (ii (iC (gr (hG (gr (gG 3) gw)) (gr (ii (iC (gr (gG 3) (gr (gG 4) gw)))) (gr (hG (gr (gG 3) (gr (gG 4) (gr gC gw)))) (gr sB gw)))))) (ig i5 (ig jg (gG 1) gC) gC)) (qh (gG 6) (gG 2)))) (gD (iq (g9 (jf a.units) (gG 7) gC) (gD (ix 6 iH.nd (jh (jx b) (ii (iC (gr (Z4 tz Z.tuple kL (gr (gG 0) gw)) (gr (ii (iC gw)) (gr sB (gr gC (gr (ig l4 (gG 0) gC) gw))))))) (ig i5 (ig jg (gG 1) gC) gC)))) (gD (iq (g9 (jf a.units) (gG 7) gC) (gD (nE (hG (gr (gG 3) (gr (ig jc (FG (gG 4) nk (nq (gG 5))) (ii (iC (gr (hG (gr gL (gr gC gw))) gw)))) gw))) (qh (gG 6) (gG 2)))) (gD (iq (g9 (jf a.units) (gG 7) gC) (gD (nE (hG (gr (gG 3) (gr (ig jc (FG (gG 4) nk (nq (gG 5))) (ii (iC (gr (hG (gr gL (gr gL (gr j5 gw)))) gw)))) gw))) (qh (gG 6) (gG 2)))) (gD (iq (g9 (jf a.units) (gG 7) gC) (gD (O4 6 iH.nd (N:=["_law_name","_law_rows"]) (fr:=[ao,ao]) (iu.of (iA:=["_law_parts","_law_cell","_law_at","_law_name","_law_rows","_law_k","_law_found","_law_way","_law_odd","_law_more"]) (gN:=rT.1) (by decide+kernel)) (iO (gG 0)) (rm (jG ij (jG ij vH))) (λ_ _ _ _ _=>(lX (iy (gS 0 (show bB (["_law_name","_law_rows"]:List ay) by decide+kernel)) (iy (gS 1 (show bB (["_law_name","_law_rows"]:List ay) by decide+kernel)) kA)))) (λ_ _ _ _ _=>iT) (λ_ _ _ _ _=>(hG (gr (gG 0) (gr (FG (ig l4 (gG 1) gC) nk (nq gC)) gw)))))) (gD (iq (g9 (jf a.units) (gG 7) gC) (gE (ix 9 iH.nd (ig l4 (ii (iC (gr (hG (gr gL (gr gL (gr j5 gw)))) gw))) (ig i5 (ig jg (gG 1) gC) gC)))
   (gD (nE (hG (gr (gG 3) (gr (ig jc (ig jc (ig l4 (ii (iC (gr (hG (gr gL (gr gC gw))) gw))) (ig jc gC (ig i5 (ig jg (gG 1) gC) gC))) (gG 9)) (ii (iC (gr (hG (gr gL gw)) gw)))) gw))) (qh (gG 6) (gG 2))))) (gD (iq (g9 (jf a.units) (gG 7) gC) (gD (nE (hG (gr (gG 3) (gr (ig jc (ig l4 (ii (iC (gr (hG (gr gL (gr gL (gr j5 gw)))) gw))) (ig Dm gC (ig i5 (ig jg (gG 1) gC) gC))) (gG 4)) gw))) (qh (gG 6) (gG 2)))) hU)))))))))))))))))))))
   (gD (gO (gG 6)))))))))
abbrev rV:bH:=top 57
noncomputable def JJ:BF rV:=⟨_,by walk_at "wl_"⟩
noncomputable def A2:SF rV:=⟨_,by walk_at "wl_"⟩
theorem Hb:gU ["_law_row_here"] ["_law_row_here"] A2.1:=by walk_at "fsc_"
noncomputable def A3(K:W.Frag):DS:=(iw (ni (iM (lg K) (gu (gv 0) (gu (dC (.ty "tuple")) gB))) (ni (gR (K5 λi j=>.bl (decide (j<i))) (iM lu (gu (gv 0) gB)) (dC (.int 0))) (gR mF (gR km (gv 0) (dC (.int 0))) (dC (.str "mark"))))))
theorem JK(D:gX K mg "_law_mark" rV)(Z:Zs mg):re P w K mg base (k+1) "_law_mark" ["_law_row_here"] (mU K (cl (kf 1 1 (A3 K)))):=
 jQ D JJ.2 A2.2 Hb (λ_ _ _ _ _ _ us b=>by obtain⟨_,rfl⟩:=yk b;rfl) λf iE A outer s H E a=>by have c:=iX a;exact(gD (gO (qH (lJ jw Z.isinstance gQ (gr (gG 0) (gr (qF Z.tuple kL) gw))) (qH (oM O5 (lJ jl Z.len jn (gr (gG 0) gw)) gC) (u3 (oM (jf a.units) (jh (jx c) (gG 0) gC) gL))))))
abbrev ow:bH:=top 58
noncomputable def EC:BF ow:=⟨_,by walk_at "wl_"⟩
noncomputable def oy:SF ow:=⟨_,by walk_at "wl_"⟩
theorem vo:gU ["_law_parts","_law_marks"] ["_law_parts"] oy.1:=by walk_at "fsc_"
noncomputable def xx(kK:GN):DS:=(gY (iD 1 (iM Pr (gu (ie (iY [ao] (iZ (gv 0)) (gM 0) lq (iM lu (gu (ie (iY [ao] (iZ (gR km (gv 0) (dC (.int 1)))) (gM 0) (gK (iM kK (gu (gv 0) gB))) (gv 0))) gB)))) gB)))
 (iw (hW (gu (gR (K5 λi j=>.int (i- j)) (iM Pr (gu (ie (iY [ao] (iZ (gv 0)) (gM 0) lq (iM lu (gu (gR km (gv 0) (dC (.int 1))) gB)))) gB)) (gv 1)) (gu (gv 1) gB)))))
theorem ED(D:gX K mg "_law_counts" ow)(Z:Zs mg)(g:iI P w K mg base k "_law_mark" ["_law_row_here"] kK):re P w K mg base (k+1) "_law_counts" ["_law_parts"] (mU K (cl (kf 2 1 (xx kK)))):=
 jQ D EC.2 oy.2 vo (λ_ _ _ _ _ _ us h=>by obtain⟨_,rfl⟩:=yk h;rfl) λf iE A outer s H E a=>by
 have b:=iX a;exact(gE (ix 1 vo.nd (lJ Dz Z.sum En (gr (ii (iU (N:=["_law_part_here"]) (fr:=[ao]) (iu.of (iA:=["_law_parts","_law_marks"]) (gN:=oy.1) (by decide+kernel)) (iO (gG 0)) ij (λ_ _ _ _ _=>(gS 0 (show bB (["_law_part_here"]:List ay) by decide+kernel))) (λ_ _ _ _ _=>iT) (λ_ _ _ _ _=>(lJ jl Z.len jn (gr (ii (iU (N:=["_law_row_here"]) (fr:=[ao]) (iu.of (iA:=["_law_part_here"]) (gN:={kind:=.function,names:=[(".0",.local),("_law_part_here",.local),("len",.globalImplicit)],isGenerator:=am,isCoroutine:=am}) (by decide+kernel)) (iO (jh (jx b) (gG 0) gC)) ij (λ_ _ _ _ _=>(gS 0 (show bB (["_law_row_here"]:List ay) by decide+kernel))) (λ_ _ _ _ _=>(wS (iR (jF g a (gr (gG 0) gw))))) (λ_ _ _ _ _=>(gG 0)))) gw))))) gw)))
   (gD (gO (hG (gr (ig Dm (lJ Dz Z.sum En (gr (ii (iU (N:=["_law_part_here"]) (fr:=[ao]) (iu.of (iA:=["_law_parts","_law_marks"]) (gN:=oy.1) (by decide+kernel)) (iO (gG 0)) ij (λ_ _ _ _ _=>(gS 0 (show bB (["_law_part_here"]:List ay) by decide+kernel))) (λ_ _ _ _ _=>iT) (λ_ _ _ _ _=>(lJ jl Z.len jn (gr (jh (jx b) (gG 0) gC) gw))))) gw)) (gG 1)) (gr (gG 1) gw))))))
abbrev m6:bH:=top 59
noncomputable def B3:BF m6:=⟨_,by walk_at "wl_"⟩
noncomputable def m8:SF m6:=⟨_,by walk_at "wl_"⟩
theorem A4:gU ["_law_part_here"] ["_law_part_here"] m8.1:=by walk_at "fsc_"
noncomputable def vq(K:W.Frag)(kK:GN):DS:=(gY (iB (Ir (k9 (gK (iM (lg K) (gu (gv 0) (gu (dC (.ty "tuple")) gB))))) (Ir (gK (gR ze (iM lu (gu (gv 0) gB)) (dC (.int 2)))) (Ir (k9 (gK (iM (lg K) (gu (gR km (gv 0) (dC (.int 0))) (gu (dC (.ty "str")) gB))))) (k9 (gK (kG wC wC (dC (.int 1)) (iM lu (gu (gR km (gv 0) (dC (.int 0))) gB)) (dC (.int 8)))))))) (iw (dC (.bl am))) ia)
 (gY (iB (gK (gR ze (ie (iY [ao] (iZ (gR km (gv 0) (dC (.int 0)))) (gM 0) (gK (gR (NU ah) (gv 0) (dC (.str "abcdefghijklmnopqrstuvwxyz")))) (gv 0))) (ie (iP gB)))) (iw (dC (.bl am))) ia)
 (iw (ni (iM (lg K) (gu (gR km (gv 0) (dC (.int 1))) (gu (dC (.ty "list")) gB))) (kG wC wC (dC (.int 1)) (iM lu (gu (ie (iY [ao] (iZ (gR km (gv 0) (dC (.int 1)))) (gM 0) (k9 (gK (iM kK (gu (gv 0) gB)))) (gv 0))) gB)) (dC (.int 60)))))))
theorem B4(D:gX K mg "_law_is_part" m6)(Z:Zs mg)(c:iI P w K mg base k "_law_mark" ["_law_row_here"] kK):re P w K mg base (k+1) "_law_is_part" ["_law_part_here"] (mU K (cl (kf 1 1 (vq K kK)))):=
 jQ D B3.2 m8.2 A4 (λ_ _ _ _ _ _ us e=>by obtain⟨_,rfl⟩:=yk e;rfl) λf iE A outer s H E b=>by
 have a:=iX b;exact(gE (iq (pN (qG (jb (iR (lJ jw Z.isinstance gQ (gr (gG 0) (gr (qF Z.tuple kL) gw))))) (qG (g9 (sD b.units) (lJ jl Z.len jn (gr (gG 0) gw)) gC) (qG (jb (iR (lJ jw Z.isinstance gQ (gr (jh (jx a) (gG 0) gC) (gr (qF Z.str Em) gw))))) (qd (jb (sW k7 k7 gC (lJ jl Z.len jn (gr (jh (jx a) (gG 0) gC) gw)) gC))))))) (gD (gO j5)) hU)
   (gE (iq (g9 (sD b.units) (ii (iU (N:=["_law_sign"]) (fr:=[ao]) (iu.of (iA:=["_law_part_here"]) (gN:=m8.1) (by decide+kernel)) (iO (jh (jx a) (gG 0) gC)) ij (λ_ _ _ _ _=>(gS 0 (show bB (["_law_sign"]:List ay) by decide+kernel))) (λ_ _ _ _ _=>(wS (g9 (Af a) (gG 0) gL))) (λ_ _ _ _ _=>(gG 0)))) (ii (iC gw))) (gD (gO j5)) hU)
   (gD (gO (qH (lJ jw Z.isinstance gQ (gr (jh (jx a) (gG 0) gC) (gr (qF Z.list mX) gw))) (u3 (uv k7 k7 gC (lJ jl Z.len jn (gr (ii (iU (N:=["_law_row_here"]) (fr:=[ao]) (iu.of (iA:=["_law_part_here"]) (gN:=m8.1) (by decide+kernel)) (iO (jh (jx a) (gG 0) gC)) ij (λ_ _ _ _ _=>(gS 0 (show bB (["_law_row_here"]:List ay) by decide+kernel))) (λ_ _ _ _ _=>(wS (jb (iR (jF c b (gr (gG 0) gw)))))) (λ_ _ _ _ _=>(gG 0)))) gw)) gC)))))))
abbrev rW:bH:=top 60
noncomputable def JL:BF rW:=⟨_,by walk_at "wl_"⟩
noncomputable def o8:SF rW:=⟨_,by walk_at "wl_"⟩
theorem yZ:gU ["_law_parts","_law_names"] ["_law_parts"] o8.1:=by walk_at "fsc_"
noncomputable def A5(K:W.Frag)(mW:GN)(oh:GN):DS:=(gY (iB (Ir (k9 (gK (iM (lg K) (gu (gv 0) (gu (dC (.ty "list")) gB))))) (Ir (k9 (gK (kG wC wC (dC (.int 1)) (iM lu (gu (gv 0) gB)) (dC (.int 12))))) (k9 (gK (iM IE (gu (ie (iY [ao] (iZ (gv 0)) (gM 0) lq (iM mW (gu (gv 0) gB)))) gB)))))) (iw (dC (.bl am))) ia)
 (gY (iD 1 (ie (iY [ao] (iZ (gv 0)) (gM 0) lq (gR km (gv 0) (dC (.int 0))))))
 (iw (ni (gR mF (iM lu (gu (ie (Xj Lx (gu (ie (iY [ao] (iZ (gv 1)) (gM 0) lq (hW (gu (gv 0) (gu (dC (.int 0)) gB))))) gB))) gB)) (iM lu (gu (gv 1) gB))) (gR wC (iM VR (gu (iM oh (gu (gv 0) gB)) gB)) (dC (.int 200)))))))
theorem JN(D:gX K mg "_law_form" rW)(Z:Zs mg)(e:iI P w K mg base k "_law_is_part" ["_law_part_here"] mW)(g:iI P w K mg base k "_law_counts" ["_law_parts"] oh):re P w K mg base (k+1) "_law_form" ["_law_parts"] (mU K (cl (kf 2 1 (A5 K mW oh)))):=
 jQ D JL.2 o8.2 yZ (λ_ _ _ _ _ _ us h=>by obtain⟨_,rfl⟩:=yk h;rfl) λf iE A outer s H E a=>by
 have i:=iX a;exact(gE (iq (pN (qG (jb (iR (lJ jw Z.isinstance gQ (gr (gG 0) (gr (qF Z.list mX) gw))))) (qG (jb (sW k7 k7 gC (lJ jl Z.len jn (gr (gG 0) gw)) gC)) (qd (jb (iR (lJ Ag Z.all AL (gr (ii (iU (N:=["_law_part_here"]) (fr:=[ao]) (iu.of (iA:=["_law_parts","_law_names"]) (gN:=o8.1) (by decide+kernel)) (iO (gG 0)) ij (λ_ _ _ _ _=>(gS 0 (show bB (["_law_part_here"]:List ay) by decide+kernel))) (λ_ _ _ _ _=>iT) (λ_ _ _ _ _=>(jF e a (gr (gG 0) gw))))) gw)))))))) (gD (gO j5)) hU)
   (gE (sZ 1 yZ.nd (N:=["_law_part_here"]) (fr:=[ao]) (iu.of (iA:=["_law_parts","_law_names"]) (gN:=o8.1) (by decide+kernel)) (iO (gG 0)) ij (λ_ _ _ _ _=>(gS 0 (show bB (["_law_part_here"]:List ay) by decide+kernel))) (λ_ _ _ _ _=>iT) (λ_ _ _ _ _=>(jh (jx i) (gG 0) gC)))
   (gD (gO (qH (oM (jf a.units) (lJ jl Z.len jn (gr (ii (Tq (Nb a.hd) Z.dict Ut (gr (ii (iU (N:=["_law_name"]) (fr:=[ao]) (iu.of (iA:=["_law_parts","_law_names"]) (gN:=o8.1) (by decide+kernel)) (iO (gG 1)) ij (λ_ _ _ _ _=>(gS 0 (show bB (["_law_name"]:List ay) by decide+kernel))) (λ_ _ _ _ _=>iT) (λ_ _ _ _ _=>(hG (gr (gG 0) (gr gC gw)))))) gw))) gw)) (lJ jl Z.len jn (gr (gG 1) gw))) (u3 (oM k7 (lJ T7 Z.max Yc (gr (jF g a (gr (gG 0) gw)) gw)) gC)))))))
abbrev rX:bH:=top 61
noncomputable def JQ:BF rX:=⟨_,by walk_at "wl_"⟩
noncomputable def v4:SF rX:=⟨_,by walk_at "wl_"⟩
theorem y0:gU ["_law_rows","_law_at","_law_behind"] ["_law_rows","_law_at"] v4.1:=by walk_at "fsc_"
noncomputable def A6(iV:GN):DS:=(gY (iD 2 (ie (iY [ao] (iZ (IC (gv 0) (oP (gR iQ (gv 1) (dC (.int 1)))) j7)) (gM 0) (gK (gR ze (gR km (gv 0) (dC (.int 0))) (dC (.str "mark")))) (gv 0))))
 (gY (iB (gK (gR mF (gR km (gR km (gv 0) (gv 1)) (dC (.int 0))) (dC (.str "mark")))) (iw (gR ze (gv 2) (ie (iP gB)))) ia)
 (iw (Z2 (KZ (iM iV (gu (gR km (gv 0) (gv 1)) gB))) (ni (gR ze (gv 2) (ie (iP gB))) (gR (NU ah) (gR km (gR km (gv 2) (dC (.int 0))) (dC (.int 0))) (hW (gu (dC (.str "numbers")) (gu (dC (.str "table")) gB)))))))))
theorem JR(D:gX K mg "_law_ends" rX)(c:iI P w K mg base k "_law_goes_on" ["_law_told"] iV):re P w K mg base (k+1) "_law_ends" ["_law_rows","_law_at"] (mU K (cl (kf 3 2 (A6 iV)))):=
 jQ D JQ.2 v4.2 y0 (λ_ _ _ _ _ _ us e=>by obtain⟨_,_,rfl⟩:=Sb e;rfl) λf iE A outer s H E b=>by
 have a:=iX b;exact(gE (sZ 2 y0.nd (N:=["_law_told"]) (fr:=[ao]) (iu.of (iA:=["_law_rows","_law_at","_law_behind"]) (gN:=v4.1) (by decide+kernel)) (iO (FG (gG 0) (nq (ig jc (gG 1) gC)) nk)) ij (λ_ _ _ _ _=>(gS 0 (show bB (["_law_told"]:List ay) by decide+kernel))) (λ_ _ _ _ _=>(wS (g9 (sD b.units) (jh (jx a) (gG 0) gC) gL))) (λ_ _ _ _ _=>(gG 0)))
   (gE (iq (g9 (jf b.units) (jh (jx a) (jh (jx a) (gG 0) (gG 1)) gC) gL) (gD (gO (oM (sD b.units) (gG 2) (ii (iC gw))))) hU)
   (gD (gO (aci (Vt (jF c b (gr (jh (jx a) (gG 0) (gG 1)) gw))) (u3 (qH (oM (sD b.units) (gG 2) (ii (iC gw))) (u3 (oM (Af a) (jh (jx a) (jh (jx a) (gG 2) gC) gC) (hG (gr gL (gr gL gw))))))))))))
abbrev uI:bH:=top 62
noncomputable def ND:BF uI:=⟨_,by walk_at "wl_"⟩
noncomputable def CU:SF uI:=⟨_,by walk_at "wl_"⟩
theorem ly:gU ["_law_parts","_law_name","_law_rows","_law_at"] ["_law_parts"] CU.1:=by walk_at "fsc_"
noncomputable def yq(rH:GN)(mN:GN):DS:=(gY (iB (k9 (gK (iM rH (gu (gv 0) gB)))) (iw (hW (gu (dC (.str "parts")) (gu (dC (.str "")) (gu (dC (.int 0)) gB))))) ia)
 (gY (uS (iZ (gv 0)) (j4 2 (ib (gM 1) (ib (gM 2) j0))) (uS (vI (gu (iM lu (gu (gv 2) gB)) gB)) (gM 3) (iB (gK (gR Gh (gR km (gv 2) (gv 3)) (ie (iP (gu (hW (gu (dC (.str "set")) (gu (dC (.int 4)) (gu (dC (.int 0)) gB)))) (gu (hW (gu (dC (.str "say")) gB)) (gu (dC .non) (gu (ie (iP (gu (dC (.str "stop")) gB))) (gu (hW (gu (dC (.str "Stop")) gB)) gB))))))))) (iw (hW (gu (dC (.str "row")) (gu (gv 1) (gu (gv 3) gB))))) ia)))
 (gY (uS (iZ (gv 0)) (j4 2 (ib (gM 1) (ib (gM 2) j0))) (uS (vI (gu (iM lu (gu (gv 2) gB)) gB)) (gM 3) (iB (k9 (gK (iM mN (gu (gv 2) (gu (gv 3) gB))))) (iw (hW (gu (dC (.str "end")) (gu (gv 1) (gu (gv 3) gB))))) ia)))
 (iw (hW (gu (dC (.str "told")) (gu (dC (.str "")) (gu (dC (.int 0)) gB))))))))
theorem NF(D:gX K mg "_law_due" uI)(Z:Zs mg)(b:iI P w K mg base k "_law_form" ["_law_parts"] rH)(c:iI P w K mg base k "_law_ends" ["_law_rows","_law_at"] mN):re P w K mg base (k+1) "_law_due" ["_law_parts"] (mU K (cl (kf 4 1 (yq rH mN)))):=
 jQ D ND.2 CU.2 ly (λ_ _ _ _ _ _ us e=>by obtain⟨_,rfl⟩:=yk e;rfl) λf iE A outer s H E a=>by
 have g:=iX a;exact(gE (iq (jb (iR (jF b a (gr (gG 0) gw)))) (gD (gO (hG (gr gL (gr gL (gr gC gw)))))) hU)
   (gE (vE (iO (gG 0)) (lX (iy (gS 1 ly.nd) (iy (gS 2 ly.nd) kA))) (gD (vE (uw (gr (lJ jl Z.len jn (gr (gG 2) gw)) gw) Z.range) (gS 3 ly.nd) (gD (iq (g9 (XQ a.un1) (jh (jx g) (gG 2) (gG 3)) (ii (iC (gr (hG (gr gL (gr gC (gr gC gw)))) (gr (hG (gr gL gw)) (gr sB (gr (ii (iC (gr gL gw))) (gr (hG (gr gL gw)) gw)))))))) (gD (gO (hG (gr gL (gr (gG 1) (gr (gG 3) gw)))))) hU)))))
   (gE (vE (iO (gG 0)) (lX (iy (gS 1 ly.nd) (iy (gS 2 ly.nd) kA))) (gD (vE (uw (gr (lJ jl Z.len jn (gr (gG 2) gw)) gw) Z.range) (gS 3 ly.nd) (gD (iq (jb (iR (jF c a (gr (gG 2) (gr (gG 3) gw))))) (gD (gO (hG (gr gL (gr (gG 1) (gr (gG 3) gw)))))) hU)))))
   (gD (gO (hG (gr gL (gr gL (gr gC gw)))))))))
abbrev rY:bH:=top 63
noncomputable def JY:BF rY:=⟨_,by walk_at "wl_"⟩
noncomputable def A7:SF rY:=⟨_,by walk_at "wl_"⟩
theorem ju:gU ["_law_parts","_law_found","_law_word","e","_law_marks"] ["_law_parts"] A7.1:=by walk_at "fsc_"
noncomputable def A8(K:W.Frag)(pT:aj)(pU:Lq)(zv:aj)(oi:aj)(nv:aj)(j9:aj):DS:=(gY (iD 1 (dC .non))
 (gY (iD 2 (hW (gu (dC (.str "told")) (gu (dC (.str "")) (gu (dC (.int 0)) gB)))))
 (gY (aaG K 3 pT (TV 1 (dCX pU (λ_=>(gu (gv 0) gB)))) (gY (iD 2 (hW (gu (dC (.str "other")) (gu (dC (.str "")) (gu (dC (.int 0)) gB)))))
 (gY (iD 4 (ie (iP (gu (iM (P8 K) (gu (gv 3) (gu (dC (.cls j9)) gB))) (gu (iM (P8 K) (gu (gv 3) (gu (dC (.cls nv)) gB))) (gu (iM (P8 K) (gu (gv 3) (gu (dC (.cls oi)) gB))) (gu (iM (P8 K) (gu (gv 3) (gu (dC (.cls zv)) gB))) gB)))))))
 (gY (iB (gK (gR mF (gv 4) (ie (iP (gu (dC (.bl ah)) (gu (dC (.bl am)) (gu (dC (.bl am)) (gu (dC (.bl am)) gB)))))))) (iD 2 (hW (gu (dC (.str "parts")) (gu (dC (.str "")) (gu (dC (.int 0)) gB))))) ia)
 (gY (iB (gK (gR mF (gv 4) (ie (iP (gu (dC (.bl am)) (gu (dC (.bl ah)) (gu (dC (.bl am)) (gu (dC (.bl am)) gB)))))))) (iD 2 (hW (gu (dC (.str "row")) (gu (Gg K "part" (gv 3)) (gu (Gg K "row" (gv 3)) gB))))) ia)
 (iB (gK (gR mF (gv 4) (ie (iP (gu (dC (.bl am)) (gu (dC (.bl am)) (gu (dC (.bl ah)) (gu (dC (.bl am)) gB)))))))) (iD 2 (hW (gu (dC (.str "end")) (gu (Gg K "part" (gv 3)) (gu (Gg K "row" (gv 3)) gB))))) ia))))))
 (iw (hW (gu (gv 2) (gu (gv 1) gB)))))))
theorem JZ(D:gX K mg "_law_look" rY)(Z:Zs mg)(c:mg "PartError"=aa (.ref pT))(e:yQ P w K mg base k "looked_at" ["parts"] pU)(g:mg "Twice"=aa (.ref zv))(h:mg "NoEnd"=aa (.ref oi))(j:mg "BadRow"=aa (.ref nv))(l:mg "BadParts"=aa (.ref j9)):re P w K mg base (k+1) "_law_look" ["_law_parts"] (mU K (cl (kf 5 1 (A8 K pT pU zv oi nv j9)))):=
 jQ D JY.2 A7.2 ju (λ_ _ _ _ _ _ us m=>by obtain⟨_,rfl⟩:=yk m;rfl) λf iE A outer s H E a=>by
 have n:=iX a;exact(gE (ix 1 ju.nd sB)
   (gE (ix 2 ju.nd (hG (gr gL (gr gL (gr gC gw)))))
   (gE (XH (i:=3) ju.nd c (λ_ _ _ b=>(ma (TX 1 ju.nd (PQ e a b (JA.E5 (gr (gG 0) gw)))))) (λ_=>(gE (ix 2 ju.nd (hG (gr gL (gr gL (gr gC gw)))))
   (gE (ix 4 ju.nd (ii (iC (gr (lJ DQ Z.isinstance gQ (gr (gG 3) (gr (nU l) gw))) (gr (lJ DQ Z.isinstance gQ (gr (gG 3) (gr (nU j) gw))) (gr (lJ DQ Z.isinstance gQ (gr (gG 3) (gr (nU h) gw))) (gr (lJ DQ Z.isinstance gQ (gr (gG 3) (gr (nU g) gw))) gw)))))))
   (gE (iq (g9 (jf a.units) (gG 4) (ii (iC (gr j5 (gr j5 (gr j5 (gr j5 gw))))))) (gD (ix 2 ju.nd (hG (gr gL (gr gL (gr gC gw)))))) hU)
   (gE (iq (g9 (jf a.units) (gG 4) (ii (iC (gr j5 (gr j5 (gr j5 (gr j5 gw))))))) (gD (ix 2 ju.nd (hG (gr gL (gr (DP (gG 3)) (gr (DP (gG 3)) gw)))))) hU)
   (gD (iq (g9 (jf a.units) (gG 4) (ii (iC (gr j5 (gr j5 (gr j5 (gr j5 gw))))))) (gD (ix 2 ju.nd (hG (gr gL (gr (DP (gG 3)) (gr (DP (gG 3)) gw)))))) hU))))))))
   (gD (gO (hG (gr (gG 2) (gr (gG 1) gw))))))))
abbrev p6:bH:=top 64
noncomputable def He:BF p6:=⟨_,by walk_at "wl_"⟩
noncomputable def lQ:SF p6:=⟨_,by walk_at "wl_"⟩
theorem rZ:gU ["_law_parts","_law_word","_law_found"] ["_law_parts"] lQ.1:=by walk_at "fsc_"
noncomputable def tR(K:W.Frag)(rJ:GN)(uD:GN)(rF:FQ):DS:=(gY (oN (iM rJ (gu (gv 0) gB)) (j4 2 (ib (gM 1) (ib (gM 2) j0))))
 (gY (iB (gK (gR ze (gv 1) (iM uD (gu (gv 0) gB)))) (iw (dC (.bl am))) ia)
 (gY (iB (gK (gR Vw (gv 2) (dC .non))) (iw (dC (.bl ah))) ia)
 (gY (iB (k9 (gK (iM (lg K) (gu (gv 2) (gu (dC (.ty "list")) gB))))) (iw (dC (.bl am))) ia)
 (gY (iB (gK (gR ze (ie (iY [ao,ao] (iZ (gv 2)) (j4 2 (ib (gM 0) (ib (gM 1) j0))) lq (gv 0))) (ie (iY [ao,ao] (iZ (gv 0)) (j4 2 (ib (gM 0) (ib (gM 1) j0))) lq (gv 0))))) (iw (dC (.bl am))) ia)
 (iw (gR mF (ie (iY [ao,ao] (iZ (gv 2)) (j4 2 (ib (gM 0) (ib (gM 1) j0))) lq (ie (iY [ao] (iZ (gv 1)) (gM 0) lq (Ld rF "words" (gv 0) gB))))) (ie (iY [ao,ao] (iZ (gv 0)) (j4 2 (ib (gM 0) (ib (gM 1) j0))) lq (gv 1))))))))))
theorem Hg(D:gX K mg "_law_right" p6)(Z:Zs mg)(e:iI P w K mg base k "_law_look" ["_law_parts"] rJ)(h:iI P w K mg base k "_law_due" ["_law_parts"] uD)(i:∀C g,rF C "words" g->ya P w K mg base k C "words" g):re P w K mg base (k+1) "_law_right" ["_law_parts"] (mU K (cl (kf 3 1 (tR K rJ uD rF)))):=
 jQ D He.2 lQ.2 rZ (λ_ _ _ _ _ _ us j=>by obtain⟨_,rfl⟩:=yk j;rfl) λf iE A outer s H E a=>by
 have l:=iX a;exact(gE (nE (jF e a (gr (gG 0) gw)) (lX (iy (gS 1 rZ.nd) (iy (gS 2 rZ.nd) kA))))
   (gE (iq (g9 (sD a.units) (gG 1) (jF h a (gr (gG 0) gw))) (gD (gO j5)) hU)
   (gE (iq (g9 O6 (gG 2) sB) (gD (gO j5)) hU)
   (gE (iq (jb (iR (lJ jw Z.isinstance gQ (gr (gG 2) (gr (qF Z.list mX) gw))))) (gD (gO j5)) hU)
   (gE (iq (g9 (sD a.units) (ii (iU (N:=["_law_name","_law_rows"]) (fr:=[ao,ao]) (iu.of (iA:=["_law_parts","_law_word","_law_found"]) (gN:=lQ.1) (by decide+kernel)) (iO (gG 2)) (rm (jG ij (jG ij vH))) (λ_ _ _ _ _=>(lX (iy (gS 0 (show bB (["_law_name","_law_rows"]:List ay) by decide+kernel)) (iy (gS 1 (show bB (["_law_name","_law_rows"]:List ay) by decide+kernel)) kA)))) (λ_ _ _ _ _=>iT) (λ_ _ _ _ _=>(gG 0)))) (ii (iU (N:=["_law_name","_law_rows"]) (fr:=[ao,ao]) (iu.of (iA:=["_law_parts","_law_word","_law_found"]) (gN:=lQ.1) (by decide+kernel)) (iO (gG 0)) (rm (jG ij (jG ij vH))) (λ_ _ _ _ _=>(lX (iy (gS 0 (show bB (["_law_name","_law_rows"]:List ay) by decide+kernel)) (iy (gS 1 (show bB (["_law_name","_law_rows"]:List ay) by decide+kernel)) kA)))) (λ_ _ _ _ _=>iT) (λ_ _ _ _ _=>(gG 0))))) (gD (gO j5)) hU)
   (gD (gO (oM (jf a.units) (ii (iU (N:=["_law_name","_law_rows"]) (fr:=[ao,ao]) (iu.of (iA:=["_law_parts","_law_word","_law_found"]) (gN:=lQ.1) (by decide+kernel)) (iO (gG 2)) (rm (jG ij (jG ij vH))) (λ_ _ _ _ _=>(lX (iy (gS 0 (show bB (["_law_name","_law_rows"]:List ay) by decide+kernel)) (iy (gS 1 (show bB (["_law_name","_law_rows"]:List ay) by decide+kernel)) kA)))) (λ_ _ _ _ _=>iT) (λ_ _ _ _ _=>(ii (iU (N:=["_law_row_here"]) (fr:=[ao]) (iu.of (iA:=["_law_name","_law_rows"]) (gN:={kind:=.function,names:=[(".0",.local),("_law_name",.local),("_law_rows",.local)],isGenerator:=am,isCoroutine:=am}) (by decide+kernel)) (iO (gG 1)) ij (λ_ _ _ _ _=>(gS 0 (show bB (["_law_row_here"]:List ay) by decide+kernel))) (λ_ _ _ _ _=>iT) (λ_ _ _ _ _=>(Le i a (gG 0)))))))) (ii (iU (N:=["_law_name","_law_rows"]) (fr:=[ao,ao]) (iu.of (iA:=["_law_parts","_law_word","_law_found"]) (gN:=lQ.1) (by decide+kernel)) (iO (gG 0)) (rm (jG ij (jG ij vH))) (λ_ _ _ _ _=>(lX (iy (gS 0 (show bB (["_law_name","_law_rows"]:List ay) by decide+kernel)) (iy (gS 1 (show bB (["_law_name","_law_rows"]:List ay) by decide+kernel)) kA)))) (λ_ _ _ _ _=>iT) (λ_ _ _ _ _=>(gG 1))))))))))))
abbrev Q0:bH:=top 65
noncomputable def VW:BF Q0:=⟨_,by walk_at "wl_"⟩
noncomputable def CV:SF Q0:=⟨_,by walk_at "wl_"⟩
theorem r9:gU ["_law_script","_law_many","_law_most","_law_parts","_law_cell","_law_once","_law_twice","_law_kept"] ["_law_script"] CV.1:=by walk_at "fsc_"
noncomputable def Q1(ku:GN)(rK:GN)(lN:GN)(mj:GN):DS:=(gY (iD 1 (gR iQ (dC (.int 1)) (gR (gI (λ_ j=>0<j) λi j=>.int (i%j)) (iM ku (gu (gv 0) (gu (dC (.int 0)) gB))) (dC (.int 12)))))
 (gY (iD 2 (gR km (ie (iP (gu (dC (.int 60)) (gu (dC (.int 60)) (gu (dC (.int 40)) (gu (dC (.int 40)) (gu (dC (.int 40)) (gu (dC (.int 30)) (gu (dC (.int 28)) (gu (dC (.int 25)) (gu (dC (.int 22)) (gu (dC (.int 20)) (gu (dC (.int 18)) (gu (dC (.int 16)) gB)))))))))))))) (gR (K5 λi j=>.int (i- j)) (gv 1) (dC (.int 1)))))
 (gY (iD 3 (ie (iY [ao,aa 2,aa 0] (vI (gu (gv 1) gB)) (gM 0) lq (iM rK (gu (iM ku (gu (gv 2) (gu (gR iQ (dC (.int 2)) (gv 0)) gB))) (gu (gv 0) (gu (gv 1) gB)))))))
 (gY (iB (k9 (gK (iM lN (gu (gv 3) gB)))) (iw (dC (.bl am))) ia)
 (gY (iD 4 (iM ku (gu (gv 0) (gu (dC (.int 1)) gB))))
 (gY (iD 5 (iM mj (gu (gv 3) (gu (gv 4) gB))))
 (gY (iD 6 (gv 5))
 (gY (iB (gK (gR (NU ah) (gR (gI (λ_ j=>0<j) λi j=>.int (i%j)) (gv 4) (dC (.int 12))) (hW (gu (dC (.int 2)) (gu (dC (.int 3)) (gu (dC (.int 4)) (gu (dC (.int 5)) (gu (dC (.int 6)) gB)))))))) (iD 6 (iM mj (gu (gv 5) (gu (gR (gI i9 λi j=>.int (i/j)) (gv 4) (dC (.int 5000))) gB)))) ia)
 (gY (iD 7 (ie (iY [ao,ao] (iZ (gv 3)) (j4 2 (ib (gM 0) (ib (gM 1) j0))) lq (hW (gu (gv 0) (gu (ie (Xj x9 (gu (gv 1) gB))) gB))))))
 (iw (ni (iM lN (gu (gv 5) gB)) (ni (iM lN (gu (gv 6) gB)) (gR mF (gv 3) (gv 7))))))))))))))
theorem aa0(Z:Zs mg)(b:iI P w K mg base k "_law_cell_at" ["_law_script","_law_k"] ku)(h:iI P w K mg base k "_law_part" ["_law_cell","_law_k","_law_most"] rK)(c:iI P w K mg base k "_law_right" ["_law_parts"] lN)(e:iI P w K mg base k "_law_spoilt" ["_law_parts","_law_cell"] mj)(f:aj)(iE:af)(A:ba)(outer:List eH)(s:ai)(H:Hp)(E:XK)(a:jR k (A.deeper (dZ "law" CV.1 s.heap.objs.size f iE))):
  BD (uQ uR P w K mg base ["_law_script","_law_many","_law_most","_law_parts","_law_cell","_law_once","_law_twice","_law_kept"] "law" CV.1 f iE A outer s H E).L9 VW.1 (Q1 ku rK lN mj):=by
 have g:=iX a;exact(gE (ix 1 r9.nd (ig jc gC (ig i5 (jF b a (gr (gG 0) (gr gC gw))) gC)))
   (gE (ix 2 r9.nd (jh (jx g) (ii (iC (gr gC (gr gC (gr gC (gr gC (gr gC (gr gC (gr gC (gr gC (gr gC (gr gC (gr gC (gr gC gw)))))))))))))) (ig Dm (gG 1) gC)))
   (gE (sZ 3 r9.nd (N:=["_law_k","_law_most","_law_script"]) (fr:=[ao,aa 2,aa 0]) (iu.of (iA:=["_law_script","_law_many","_law_most","_law_parts","_law_cell","_law_once","_law_twice","_law_kept"]) (gN:=CV.1) (by decide+kernel)) (uw (gr (gG 1) gw) Z.range) ij (λ_ _ _ _ _=>(gS 0 (show bB (["_law_k","_law_most","_law_script"]:List ay) by decide+kernel))) (λ_ _ _ _ _=>iT) (λ_ _ _ _ _=>(jF h a (gr (jF b a (gr (gG 2) (gr (ig jc gC (gG 0)) gw))) (gr (gG 0) (gr (gG 1) gw))))))
   (gE (iq (jb (iR (jF c a (gr (gG 3) gw)))) (gD (gO j5)) hU)
   (gE (ix 4 r9.nd (jF b a (gr (gG 0) (gr gC gw))))
   (gE (ix 5 r9.nd (jF e a (gr (gG 3) (gr (gG 4) gw))))
   (gE (ix 6 r9.nd (gG 5))
   (gE (iq (g9 (Af g) (ig i5 (gG 4) gC) (hG (gr gC (gr gC (gr gC (gr gC (gr gC gw))))))) (gD (ix 6 r9.nd (jF e a (gr (gG 5) (gr (ig jg (gG 4) gC) gw))))) hU)
   (gE (sZ 7 r9.nd (N:=["_law_name","_law_rows"]) (fr:=[ao,ao]) (iu.of (iA:=["_law_script","_law_many","_law_most","_law_parts","_law_cell","_law_once","_law_twice","_law_kept"]) (gN:=CV.1) (by decide+kernel)) (iO (gG 3)) (rm (jG ij (jG ij vH))) (λ_ _ _ _ _=>(lX (iy (gS 0 (show bB (["_law_name","_law_rows"]:List ay) by decide+kernel)) (iy (gS 1 (show bB (["_law_name","_law_rows"]:List ay) by decide+kernel)) kA)))) (λ_ _ _ _ _=>iT) (λ_ _ _ _ _=>(hG (gr (gG 0) (gr (ii (Tq Ah Z.list mX (gr (gG 1) gw))) gw)))))
   (gD (gO (qH (jF c a (gr (gG 5) gw)) (qH (jF c a (gr (gG 6) gw)) (u3 (oM (jf a.units) (gG 3) (gG 7))))))))))))))))
end
end pI
namespace FJ
open PySem PySem.Spec PyProof.Rows.KTD L2 L3
local macro_rules | `(tactic| walk_at "wk1") => `(tactic| ((conv => whnf); first | refine ⟨_, rfl, ?_⟩ | refine ⟨rfl, ?_⟩ | refine ⟨ae rfl, ?_⟩))
local macro_rules | `(tactic| walk_at "wk") => `(tactic| ((repeat walk_at "wk1"); try (conv => whnf)))
theorem Ye{a b:Int}{M:Ms}{Q:DK}(h:a=b)(q:Q (.bl am) M):ze (.int a) (.int b) M Q:=by subst h;show Q (.bl (!(a==a))) M;rw[beq_self_eq_true];exact q
theorem Ux{a b:Int}{M:Ms}{Q:DK}(h:a≠b)(q:Q (.bl ah) M):ze (.int a) (.int b) M Q:=by show Q (.bl (!(a==b))) M;rw[beq_eq_false_iff_ne.mpr h];exact q
theorem zw{a b:Int}{M:Ms}{Q:DK}(h:a<=b)(q:Q (.bl ah) M):wC (.int a) (.int b) M Q:=by show Q (.bl (decide (a<=b))) M;rw[decide_eq_true h];exact q
abbrev Pt:=ay×List Rw
noncomputable def Q2(c:CA)(p:Pt):D:=.tup [.str p.1,.lst (p.2.map (Rw.ins c))]
noncomputable def Rw.iz:Rw->Bool
 |.mark _ _=>ah
 |_=>am
noncomputable def Q3(rs:List Rw):Nat:=(rs.filter Rw.iz).length
noncomputable def Yf(rs:List Rw):Nat:=rs.length- Q3 rs
noncomputable def Q4:GP:=λds Q=>∃r:Rw,ds=[r.d]/\Q (.bl r.iz)
theorem NH(K:W.Frag):∀ds Q,Q4 ds Q->kf 1 1 (mM K) ds Q:=λds Q ⟨r,h,q⟩=>by
 subst h;cases r;all_goals
  walk_at "wk";exact q
theorem Rw.wD(r:Rw):nl r.d=ah:=by cases r<;>first|rfl|(show(ah&&(kI _&&ah))=ah;rw[kU (λ_=>rfl)];rfl)
theorem qO{n:Nat}(h:n<=1000):n<=aE:=aS h (by decide)
structure acF(p:Pt):Prop where
 w:nC p.1=ah
 lo:1<=Yf p.2
 hi:Yf p.2<=60
 len:p.2.length<=1000
structure acG(ps:List Pt):Prop where
 lo:1<=ps.length
 hi:ps.length<=12
 all:∀p∈ps,acF p
 nd:(ps.map Prod.fst).Nodup
 rows:(ps.map λp=>(Yf p.2:Int)).sum<=200
 marks:(ps.map λp=>(Q3 p.2:Int)).sum<=200
theorem CW:∀(val:Nat->ay) (n:Nat),(∀i j,i<j->j<n->val i≠val j)->(tD val n).length=n/\∀k,(tD val n).any (·==k)=ah->∃i,i<n/\val i=k
 |val,0,_=>⟨rfl,λk h=>by simp[tD] at h⟩
 |val,n+1,h=>by
  obtain⟨g,f⟩:=CW val n λi j a b=>h i j a (by omega);have hn:(tD val n).any (·==val n)=am:=by
   cases e:(tD val n).any (·==val n) with
   |false=>rfl
   |true=>obtain⟨i,a,b⟩:=f _ e;exact absurd b (h i n a (by omega))
  constructor
  ·show(cZ _ _).length=_;rw[Du,hn,g];rfl
  ·intro k c;have c:(cZ (tD val n) (val n)).any (·==k)=ah:=c;rw[IH,Bool.or_eq_true] at c;rcases c with c|c
   ·obtain⟨i,a,b⟩:=f k c;exact⟨i,by omega,b⟩
   ·exact⟨n,by omega,(of_decide_eq_true c).symm⟩
theorem J8{ss:List ay}(h:ss.Nodup):II ss=ss.length:=by unfold II;refine(CW _ _ λi j b a=>?_).1;rw[bX,bX,aZ (by omega),aZ a];exactλz=>absurd ((List.getElem_inj h).mp z) (by omega)
theorem zx(c:CA)(rs:List Rw):kI (rs.map (Rw.ins c))=ah:=kU (Rw.nli c) rs
theorem take_snoc{β:Type}{l:List β}{j:Nat}{x:β}(h:l[j]?=aa x):l.take (j+1)=l.take j++[x]:=by rw[List.take_add_one,h];rfl
theorem qV{β a:Type}{f:β->a}{l:List β}{j:Nat}{y:a}(h:(l.map f)[j]?=aa y):∃x,l[j]?=aa x/\y=f x:=by
 rw[bA] at h;cases e:l[j]? with
 |none=>rw[e] at h;cases h
 |some x=>rw[e] at h;cases h;exact⟨x,rfl,rfl⟩
theorem Hi{l:List D}{j:Nat}{y:D}(h:(l.mapIdx λi d=>D.tup [.int i,d])[j]?=aa y):∃x,l[j]?=aa x/\y=.tup [.int j,x]:=by
 rw[List.getElem?_mapIdx] at h;cases e:l[j]? with
 |none=>rw[e] at h;cases h
 |some x=>rw[e] at h;cases h;exact⟨x,rfl,rfl⟩
noncomputable def js:List Rw->Option Rw
 |[]=>ao
 |r::rs=>if r.iz then js rs else aa r
noncomputable def B6(c:CA):Option Rw->D
 |none=>.non
 |some r=>r.ins c
structure Y0(K:W.Frag)(c:CA):Prop where
 io:∀k:Kn,Lc K (c.at k)
 mark:∀k,W.kitOne K (.ref (c.at k)) (.ref c.Mark)=aa (match k with|.Mark=>ah|_=>am)
 code:∀k,W.kitOne K (.ref (c.at k)) (.ref c.Code)=aa (match k with|.Mark|.kY|.Table=>am|_=>ah)
 nums:∀k,W.kitOne K (.ref (c.at k)) (.ref c.kY)=aa (match k with|.kY=>ah|_=>am)
 ac9:∀k,W.kitOne K (.ref (c.at k)) (.ref c.Table)=aa (match k with|.Table=>ah|_=>am)
 acH:W.kitOne K (.type "NoneType") (.ref c.Code)=aa am
theorem Hj{K:W.Frag}{c:CA}(a:Y0 K c)(r:Rw){M:Ms}{Q:DK}(q:Q (.bl r.iz) M):lg K [r.ins c,.cls c.Mark] M Q:=by refine⟨.ref (c.at r.kn),r.iz,rfl,λC ns es e=>by cases e;exact a.io _,?_,q⟩;rw[a.mark];cases r<;>rfl
theorem Q5{K:W.Frag}{c:CA}(a:Y0 K c)(r:Rw){M:Ms}{Q:DK}(q:Q (.bl r.code) M):lg K [r.ins c,.cls c.Code] M Q:=by refine⟨.ref (c.at r.kn),r.code,rfl,λC ns es e=>by cases e;exact a.io _,?_,q⟩;rw[a.code];cases r<;>rfl
noncomputable def zy(c:CA):GP:=λds Q=>∃rs:List Rw,ds=[.lst (rs.map (Rw.ins c))]/\Q (B6 c (js rs))
theorem EF{c:CA}:jo (zy c):=λds P Q w ⟨rs,h,q⟩=>⟨rs,h,w _ q⟩
section
theorem Q6{K:W.Frag}{c:CA}(g:Y0 K c):∀ds Q,zy c ds Q->kf 2 1 (mi K c.Mark) ds Q:=λds Q ⟨rs,h,q⟩=>by
 subst h;have b:=@Hj K c g;unfold mi;generalize lg K=i at b ⊢;refine⟨rfl,?_⟩;conv=>whnf
 refine⟨_,rfl,rfl,?_⟩;have gen:∀(l:List Rw) (st:Ms->Prop) (o:Option D),st []->B6 c (js l)=B6 c (js rs)->nV (gM 1) (iB (k9 (gK (iM (i) (gu (gv 1) (gu (dC (.cls c.Mark)) gB))))) (iw (gv 1)) ia) st ⟨λ_ _=>nl (.non)=ah/\Q .non,λd f=>nl (fz f d)=ah/\Q (fz f d),λ_ _=>False,λ_ _=>False⟩ (l.map (Rw.ins c)) [aa (.lst (rs.map (Rw.ins c))),o] []:=by
  intro l;induction l with
  |nil=>intro st o a e;rw[<-e] at q;exact⟨rfl,q⟩
  |cons r l j=>
   intro st o a e;conv=>whnf
   refine b r ?_;cases hm:r.iz with
   |true=>
    conv=>whnf
    refine⟨a,j st _ a ?_⟩;rw[<-e];show B6 c (js l)=B6 c (if r.iz=ah then _ else _);rw[hm];rfl
   |false=>
    conv=>whnf
    have e':B6 c (js rs)=r.ins c:=by rw[<-e];show B6 c (if r.iz=ah then _ else _)=_;rw[hm];rfl
    rw[e'] at q;exact⟨r.nli c,q⟩
 exact gen rs _ ao rfl rfl
end
noncomputable def oz:Option Rw->Bool
 |some r=>r.code
 |none=>am
noncomputable def Q7:List Rw->Bool
 |[]=>ah
 |r::rs=>(!r.vQ||oz (js rs))&&(!r.iz||(js rs).isSome)&&Q7 rs
theorem NI{K:W.Frag}{c:CA}(a:Y0 K c)(o:Option Rw){M:Ms}{Q:DK}(q:Q (.bl (oz o)) M):lg K [B6 c o,.cls c.Code] M Q:=by
 cases o with
 |some r=>exact Q5 a r q
 |none=>exact⟨.type "NoneType",am,rfl,(λC ns es e=>nomatch e),a.acH,q⟩
theorem Q8{c:CA}(o:Option Rw){M:Ms}{Q:DK}(q:Q (.bl (!o.isSome)) M):Vw (B6 c o) .non M Q:=by cases o<;>exact q
section
end
structure ada(ps:List Pt):Prop where
 pso:acG ps
 rows:∀p∈ps,∀r∈p.2,r.ok=ah
 ends:∀p∈ps,Q7 p.2=ah
theorem Yg(c:CA)(p:Pt):nl (Q2 c p)=ah:=by show(ah&&(kI (p.2.map (Rw.ins c))&&ah))=ah;rw[zx];rfl
theorem LK(c:CA)(a:List Pt):kI (a.map (Q2 c))=ah:=kU (Yg c) a
theorem iS{β:Type}{fr:List (Option Nat)}{g:DG}{tt:DT}{c:DE}{st:Ms->Prop}{Q:List D->Ms->Prop}{a:kF}{M:Ms}(e f:β->D)(i:st M):∀(xs:List β) (acc:List D),acc.length+xs.length<=aE->
  (∀x∈xs,∀j:Option D->kF->Ms->Prop,(∀b,xI fr b=a->j (aa (f x)) b M)->qI g tt c (e x) a M j)->Q (acc++xs.map f) M->jX fr g tt c st Q (xs.map e) acc a M
 |[],acc,_,_,q=>by rw[cO,br] at q;exact q
 |x::xs,acc,l,h,q=>by rw[aR];unfold jX;refine h x aC _ λb e1=>⟨i,by simp at l;omega,?_⟩;rw[e1];refine iS e f i xs (acc++[f x]) (by simp at l ⊢;omega) (λy m=>h y (av _ m)) ?_;rw[cD];exact q
theorem mO{β:Type}{fr:List (Option Nat)}{g:DG}{tt:DT}{b:DE}{st:Ms->Prop}{Q:List D->Ms->Prop}{c:kF}{M:Ms}(e f:β->D)(p:β->Bool)(i:st M):∀(xs:List β) (acc:List D),acc.length+xs.length<=aE->
  (∀x∈xs,∀m:Option D->kF->Ms->Prop,(∀a,xI fr a=c->m (if p x=ah then aa (f x) else ao) a M)->qI g tt b (e x) c M m)->Q (acc++(xs.filter p).map f) M->jX fr g tt b st Q (xs.map e) acc c M
 |[],acc,_,_,q=>by rw[List.filter_nil,cO,br] at q;exact q
 |x::xs,acc,j,h,q=>by
  rw[aR];unfold jX;refine h x aC _ λa e1=>⟨i,?_⟩;rw[eN] at q;cases n:p x with
  |false=>
   rw[n] at q;show jX fr g tt b st Q (xs.map e) acc (xI fr a) M;rw[e1];exact mO e f p i xs acc (by simp at j ⊢;omega) (λy l=>h y (av _ l)) q
  |true=>
   rw[n] at q;refine⟨by simp at j;omega,?_⟩;rw[e1];refine mO e f p i xs (acc++[f x]) (by simp at j ⊢;omega) (λy l=>h y (av _ l)) ?_;rw[cD];exact q
theorem Hk{β:Type}{g:DG}{tb:DS}{st:Ms->Prop}{E:jW}(e:β->D)(Pv:List β->List β->kF->Ms->Prop)(j:∀a b c M,Pv a b c M->st M):∀(xs pre:List β) (c:kF) (M:Ms),Pv pre xs c M->
  (∀pre x xs c M,Pv pre (x::xs) c M->∀N:kF->Ms->Prop,(∀f i,Pv (pre++[x]) xs f i->N f i)->g (e x) c M λm M1=>tb {E with nx:=N,ct:=N,bk:=E.nx} m M1)->
  (∀pre c M,Pv pre [] c M->E.nx c M)->nV g tb st E (xs.map e) c M
 |[],pre,c,M,p,_,z=>z pre c M p
 |x::xs,pre,c,M,p,h,z=>by rw[aR];unfold nV;exact h pre x xs c M p _ λf i l=>⟨j _ _ _ _ l,Hk e Pv j xs _ f i l h z⟩
end FJ
namespace pI
open PySem PySem.Spec PyProof.Rows.KTD L2 L3 FJ
local macro_rules | `(tactic| walk_at "wk1") => `(tactic| ((conv => whnf); first | refine ⟨_, rfl, ?_⟩ | refine ⟨rfl, ?_⟩ | refine ⟨ae rfl, ?_⟩))
local macro_rules | `(tactic| walk_at "wk") => `(tactic| ((repeat walk_at "wk1"); try (conv => whnf)))
inductive Rx where
 |ok (r:Rw)|o0|o1|o2|o3|o4
noncomputable def Rx.d:Rx->D
 |.ok r=>r.d
 |.o0=>.tup [.str "set",.int 4,.int 0]
 |.o1=>.tup [.str "say"]
 |.o2=>.non
 |.o3=>.lst [.str "stop"]
 |.o4=>.tup [.str "Stop"]
noncomputable def Rx.iz:Rx->Bool
 |.ok r=>r.iz
 |_=>am
theorem Rx.wD(x:Rx):nl x.d=ah:=by
 cases x with
 |ok r=>exact r.wD
 |_=>rfl
theorem Hl(xs:List Rx):kI (xs.map Rx.d)=ah:=kU Rx.wD xs
theorem Uy(xs:List Rx):kI [.lst (xs.map Rx.d)]=ah:=by show(kI (xs.map Rx.d)&&ah)=ah;rw[Hl];rfl
noncomputable def LL(xs:List Rx):Nat:=(xs.filter Rx.iz).length
noncomputable def wE(xs:List Rx):Nat:=xs.length- LL xs
theorem Q9(xs:List Rx):LL xs<=xs.length:=Ou _ _
abbrev big:Nat:=100000
theorem J9{n:Nat}(h:n<=big):n<=aE:=aS h (by decide)
noncomputable def ny:GP:=λds Q=>∃x:Rx,ds=[x.d]/\Q (.bl x.iz)
theorem vt:jo ny:=λds P Q w ⟨r,h,q⟩=>⟨r,h,w _ q⟩
theorem NJ(K:W.Frag):∀ds Q,ny ds Q->kf 1 1 (mM K) ds Q:=λds Q ⟨x,h,q⟩=>by
 subst h;cases x with
 |ok r=>exact NH K _ _ ⟨r,rfl,q⟩
 |_=>walk_at "wk";exact q
noncomputable def xz:GP:=λds Q=>∃xs:List Rx,ds=[.lst (xs.map Rx.d)]/\xs.length<=big/\Q (.int (LL xs))
theorem EG:jo xz:=λds P Q w ⟨r,h,l,q⟩=>⟨r,h,l,w _ q⟩
theorem Ra:∀ds Q,xz ds Q->kf 1 1 (vf (cl ny)) ds Q:=λds Q ⟨xs,h,l,q⟩=>by
 subst h;refine⟨rfl,?_⟩;conv=>whnf
 refine⟨_,rfl,rfl,?_⟩;refine mO Rx.d Rx.d Rx.iz ?_ _ _ ?_ (λx c e a=>?_) ?_
 ·exact rfl
 ·rw[aY,bd];exact J9 l
 ·refine⟨by unfold kI;rw[x.wD];rfl,x,rfl,?_⟩;have:=a _ (show xI [ao] [aa x.d]=_ from rfl);generalize x.iz=b at this ⊢;cases b<;>exact this
 ·refine⟨_,rfl,rfl,?_⟩;show Q (.int ((List.length _:Nat):Int));rw[bc,ap];exact q
noncomputable def A9:GP:=λds Q=>∃xs:List Rx,ds=[.lst (xs.map Rx.d)]/\xs.length<=big/\Q (.int (wE xs))
theorem Hm:jo A9:=λds P Q w ⟨r,h,l,q⟩=>⟨r,h,l,w _ q⟩
theorem Uz:∀ds Q,A9 ds Q->kf 1 1 (tM (cl xz)) ds Q:=λds Q ⟨xs,h,l,q⟩=>by
 subst h;refine⟨rfl,?_⟩;conv=>whnf
 refine⟨_,rfl,?_⟩;refine⟨Uy xs,xs,rfl,l,?_⟩;refine⟨rfl,?_⟩;show Q (.int (((xs.map Rx.d).length:Int)- (LL xs:Int)));have e:((xs.map Rx.d).length:Int)- (LL xs:Int)=((wE xs:Nat):Int):=by have:=Q9 xs;rw[ap];unfold wE;omega
 rw[e];exact q
inductive Nm where
 |s (w:ay)|non|Ba
noncomputable def Nm.d:Nm->D
 |.s w=>.str w
 |.non=>.non
 |.Ba=>.int 5
inductive Rl where
 |lst (xs:List Rx)|tup (xs:List Rx)|non
noncomputable def Rl.d:Rl->D
 |.lst xs=>.lst (xs.map Rx.d)
 |.tup xs=>.tup (xs.map Rx.d)
 |.non=>.non
inductive Px where
 |two (n:Nm) (r:Rl)|one (w:ay)|lst (w:ay) (xs:List Rx)|three (w:ay) (xs:List Rx)|non
noncomputable def Px.d:Px->D
 |.two n r=>.tup [n.d,r.d]
 |.one w=>.tup [.str w]
 |.lst w xs=>.lst [.str w,.lst (xs.map Rx.d)]
 |.three w xs=>.tup [.str w,.lst (xs.map Rx.d),.int 0]
 |.non=>.non
def Nm.wf:Nm->Prop
 |.s w=>w.length<=1000
 |_=>True
def Rl.wf:Rl->Prop
 |.lst xs|.tup xs=>xs.length<=big
 |.non=>True
def Px.wf:Px->Prop
 |.two n r=>n.wf/\r.wf
 |.one w=>w.length<=1000
 |.lst w xs|.three w xs=>w.length<=1000/\xs.length<=big
 |.non=>True
noncomputable def Px.is:Px->Bool
 |.two (.s w) (.lst xs)=>nC w&&decide (1<=wE xs)&&decide (wE xs<=60)
 |_=>am
theorem Px.wD(p:Px):nl p.d=ah:=by
 cases p with
 |two n r=>
  show(nl n.d&&(nl r.d&&ah))=ah;have a:nl n.d=ah:=by cases n<;>rfl
  have b:nl r.d=ah:=by cases r<;>first|exact Hl _|rfl
  rw[a,b];rfl
 |one w=>rfl
 |lst w xs=>show(ah&&(kI (xs.map Rx.d)&&ah))=ah;rw[Hl];rfl
 |three w xs=>show(ah&&(kI (xs.map Rx.d)&&(ah&&ah)))=ah;rw[Hl];rfl
 |non=>rfl
theorem acI{w:ay}(h:w.length<=1000):Gd (.str w):=by unfold Gd gd;exact decide_eq_true h
noncomputable def EH:GP:=λds Q=>∃p:Px,ds=[p.d]/\p.wf/\Q (.bl p.is)
theorem Hn:jo EH:=λds P Q w ⟨p,h,l,q⟩=>⟨p,h,l,w _ q⟩
theorem UA(K:W.Frag):∀ds Q,EH ds Q->kf 1 1 (CM K (cl kq) (cl A9)) ds Q:=λds Q ⟨p,h,wf,q⟩=>by
 subst h;refine⟨rfl,?_⟩;cases p with
 |one w=>
   conv=>whnf
   walk_at "wk";exact q
 |lst w xs=>
   conv=>whnf
   walk_at "wk";exact q
 |three w xs=>
   conv=>whnf
   walk_at "wk";exact q
 |non=>
   conv=>whnf
   walk_at "wk";exact q
 |two n r=>
  cases n with
  |non=>
   conv=>whnf
   walk_at "wk";exact q
  |Ba=>
   conv=>whnf
   walk_at "wk";exact q
  |s w=>
   conv=>whnf
   walk_at "wk";refine⟨acI wf.1,?_⟩;have b:pQ (Nm.s w).d=nC w:=rfl;dsimp only;rw[b];cases hw:nC w with
   |false=>
    have q:Q (.bl am):=by cases r<;>first|exact q|(have q:Q (.bl (nC w&&_&&_)):=q;rw[hw] at q;exact q)
    walk_at "wk";exact q
   |true=>
    cases r with
    |tup xs=>walk_at "wk";exact q
    |non=>walk_at "wk";exact q
    |lst xs=>
     walk_at "wk";refine⟨Uy xs,xs,rfl,wf.2,?_⟩;have q:Q (.bl (nC w&&decide (1<=wE xs)&&decide (wE xs<=60))):=q;rw[hw,bE] at q;show(match D.bl (decide ((1:Int)<=(wE xs:Int))) with|D.bl ah=>nl (fz [] (D.bl (decide ((wE xs:Int)<=60))))=ah/\Q (fz [] (D.bl (decide ((wE xs:Int)<=60))))|D.bl am=>nl (fz [] (.bl am))=ah/\Q (fz [] (.bl am))|_=>False);have n1:decide ((1:Int)<=(wE xs:Int))=decide (1<=wE xs):=by congr 1;exact propext ⟨λh=>by omega,λh=>by omega⟩
     have n2:decide ((wE xs:Int)<=60)=decide (wE xs<=60):=by congr 1;exact propext ⟨λh=>by omega,λh=>by omega⟩
     rw[n1,n2];cases a:decide (1<=wE xs) with
     |false=>rw[a] at q;exact⟨rfl,q⟩
     |true=>rw[a] at q;exact⟨rfl,q⟩
end pI
namespace pI
open PySem PySem.Spec PyProof.Rows.KTD L2 L3 FJ
local macro_rules | `(tactic| walk_at "wk1") => `(tactic| ((conv => whnf); first | refine ⟨_, rfl, ?_⟩ | refine ⟨rfl, ?_⟩ | refine ⟨ae rfl, ?_⟩))
local macro_rules | `(tactic| walk_at "wk") => `(tactic| ((repeat walk_at "wk1"); try (conv => whnf)))
theorem Rb(val:Nat->ay):∀n,(tD val n).length<=n
 |0=>bf _
 |n+1=>by show(cZ _ _).length<=_;rw[Du];have:=Rb val n;split<;>omega
theorem LM(val:Nat->ay):∀n i,i<n->(tD val n).any (·==val i)=ah
 |0,i,h=>by omega
 |n+1,i,h=>by
  show(cZ _ _).any _=ah;rw[IH,Bool.or_eq_true];by_cases e:i=n
  ·subst e;exact .inr (decide_eq_true rfl)
  ·exact .inl (LM val n i (by omega))
theorem Rc(val:Nat->ay):∀n i j,i<j->j<n->val i=val j->(tD val n).length<n
 |0,i,j,_,h,_=>by omega
 |n+1,i,j,a,h,e=>by
  show(cZ _ _).length<_;rw[Du];by_cases b:j=n
  ·subst b;have hm:=LM val j i a;rw[e] at hm;rw[hm];have:=Rb val j;simp only [if_true];omega
  ·have:=Rc val n i j a (by omega) e;split<;>omega
theorem UB{ss:List ay}(h:¬ss.Nodup):II ss≠ss.length:=by
 unfold II;have:∃i j,i<j/\j<ss.length/\ss.getD i ""=ss.getD j "":=by
  by_cases c:∃i j,i<j/\j<ss.length/\ss.getD i ""=ss.getD j ""
  ·exact c
  ·exfalso;apply h;refine List.nodup_iff_pairwise_ne.mpr (List.pairwise_iff_getElem.mpr λi j hi a b e=>?_);refine c ⟨i,j,b,a,?_⟩;rw[bX,bX,aZ hi,aZ a,e]
 obtain⟨i,j,b,a,e⟩:=this;have:=Rc (λi=>ss.getD i "") ss.length i j b a e;exactλz=>by have z:(tD (λi=>ss.getD i "") ss.length).length=ss.length:=z;omega
inductive Ax where
 |lst (ps:List Px)|tup (ps:List Px)|non|Ba
noncomputable def Ax.d:Ax->D
 |.lst a=>.lst (a.map Px.d)
 |.tup a=>.tup (a.map Px.d)
 |.non=>.non
 |.Ba=>.int 5
def Ax.wf:Ax->Prop
 |.lst a|.tup a=>(∀p∈a,p.wf)/\a.length<=900
 |_=>True
noncomputable def Px.nm:Px->ay
 |.two (.s w) _=>w
 |_=>⟨#[]⟩
noncomputable def Px.rows:Px->List Rx
 |.two _ (.lst xs)=>xs
 |_=>[]
theorem Px.B7{p:Px}(h:p.is=ah):p=.two (.s p.nm) (.lst p.rows):=by
 cases p with
 |two n r=>cases n<;>cases r<;>first|rfl|cases h
 |_=>cases h
noncomputable def xA(a:List Px):Int:=(a.map λp=>(wE p.rows:Int)).sum
noncomputable def xB(a:List Px):Int:=(a.map λp=>(LL p.rows:Int)).sum
noncomputable def Ax.are:Ax->Bool
 |.lst a=>decide (1<=a.length)&&decide (a.length<=12)&&a.all Px.is&&decide ((a.map Px.nm).Nodup)&&decide (xA a<=200)&&decide (xB a<=200)
 |_=>am
theorem VX(a:List Px):kI (a.map Px.d)=ah:=kU Px.wD a
theorem Yh(a:List Px):kI [.lst (a.map Px.d)]=ah:=by show(kI (a.map Px.d)&&ah)=ah;rw[VX];rfl
theorem Ax.wD(a:Ax):nl a.d=ah:=by cases a<;>first|exact VX _|rfl
noncomputable def EI:GP:=λds Q=>∃a:Ax,ds=[a.d]/\a.wf/\Q (.bl a.are)
theorem Ho:jo EI:=λds P Q w ⟨p,h,l,q⟩=>⟨p,h,l,w _ q⟩
theorem UC(K:W.Frag):∀ds Q,EI ds Q->kf 1 1 (yV K (cl EH) (cl A9) (cl xz)) ds Q:=λds Q ⟨a,h,wf,q⟩=>by
 subst h;cases a with
 |tup b=>walk_at "wk";exact q
 |non=>walk_at "wk";exact q
 |Ba=>walk_at "wk";exact q
 |lst b=>
  have f:b.length<=aE:=aS wf.2 (by decide);have q:Q (.bl (decide (1<=b.length)&&decide (b.length<=12)&&b.all Px.is&&decide ((b.map Px.nm).Nodup)&&decide (xA b<=200)&&decide (xB b<=200))):=q;refine⟨rfl,?_⟩;have g:((b.map Px.d).length:Int)=(b.length:Int):=by rw[ap]
  conv=>whnf
  walk_at "wk";by_cases n:1<=b.length;case neg=>
   rw[decide_eq_false (by rw[g];omega)];rw[decide_eq_false n] at q;exact⟨rfl,q⟩
  rw[decide_eq_true (by rw[g];omega)];rw[decide_eq_true n,bE] at q;walk_at "wk";by_cases o:b.length<=12;case neg=>
   rw[decide_eq_false (by rw[g];omega)];rw[decide_eq_false o] at q;exact⟨rfl,q⟩
  rw[decide_eq_true (by rw[g];omega)];rw[decide_eq_true o,bE] at q;conv=>whnf
  refine⟨_,rfl,rfl,?_⟩;refine iS Px.d (λp=>.bl p.is) ?_ _ _ ?_ (λp c j e=>?_) ?_
  ·exact rfl
  ·rw[aY,bd];exact f
  ·exact⟨by unfold kI;rw[p.wD];rfl,p,rfl,wf.1 p c,e _ rfl⟩
  refine⟨b.map Px.is,(show D.lst _=D.lst _ by rw[bc,bN];rfl),?_⟩;rw[show(b.map Px.is).all id=b.all Px.is by simp[eG]];cases l:b.all Px.is with
  |false=>
   rw[l] at q;exact⟨rfl,q⟩
  |true=>
   rw[l,bE] at q;have m:∀p∈b,p.is=ah:=bM.mp l;conv=>whnf
   refine⟨_,rfl,rfl,?_⟩;refine iS Px.d (λp=>.str p.nm) ?_ _ _ ?_ (λp c j e=>?_) ?_
   ·exact rfl
   ·rw[aY,bd];exact f
   ·rw[Px.B7 (m p c)];exact⟨_,rfl,e _ rfl⟩
   refine⟨b.map Px.nm,(show D.lst _=D.lst _ by rw[bc,bN];rfl),by rw[ap];omega,?_⟩;refine⟨_,rfl,?_⟩;by_cases i:(b.map Px.nm).Nodup;case neg=>
    refine Ux (λz=>UB i (by rw[ap] at z ⊢;omega)) ?_;rw[decide_eq_false i] at q;exact⟨rfl,q⟩
   refine Ye (by rw[J8 i];simp) ?_;rw[decide_eq_true i,bE] at q;conv=>whnf
   refine⟨_,rfl,rfl,?_⟩;refine iS Px.d (λp=>.int (wE p.rows)) ?_ _ _ ?_ (λp c j e=>?_) ?_
   ·exact rfl
   ·rw[aY,bd];exact f
   ·have w:=wf.1 p c;rw[Px.B7 (m p c)] at w ⊢;exact⟨_,rfl,Uy _,p.rows,rfl,w.2,e _ rfl⟩
   refine⟨b.map λp=>(wE p.rows:Int),(show D.lst _=D.lst _ by rw[bc,bN];rfl),?_⟩;show(if decide ((200:Int)<xA b)=ah then _ else _);by_cases r:xA b<=200;case neg=>
    rw[if_pos (decide_eq_true (by omega))];rw[decide_eq_false r] at q;exact⟨rfl,q⟩
   rw[if_neg (λz=>by have:=of_decide_eq_true z;omega)];rw[decide_eq_true r,bE] at q;conv=>whnf
   refine⟨_,rfl,rfl,?_⟩;refine iS Px.d (λp=>.int (LL p.rows)) ?_ _ _ ?_ (λp c j e=>?_) ?_
   ·exact rfl
   ·rw[aY,bd];exact f
   ·have w:=wf.1 p c;rw[Px.B7 (m p c)] at w ⊢;exact⟨_,rfl,Uy _,p.rows,rfl,w.2,e _ rfl⟩
   refine⟨b.map λp=>(LL p.rows:Int),(show D.lst _=D.lst _ by rw[bc,bN];rfl),?_⟩;exact⟨rfl,q⟩
end pI
namespace pI
open PySem PySem.Spec PyProof.Rows.KTD L2 L3 FJ
local macro_rules | `(tactic| walk_at "wk1") => `(tactic| ((conv => whnf); first | refine ⟨_, rfl, ?_⟩ | refine ⟨rfl, ?_⟩ | refine ⟨ae rfl, ?_⟩))
local macro_rules | `(tactic| walk_at "wk") => `(tactic| ((repeat walk_at "wk1"); try (conv => whnf)))
noncomputable def Rx.good:Rx->Bool
 |.ok r=>r.ok
 |_=>ah
noncomputable def Rx.CY:Rx->Bool
 |.ok _=>ah
 |_=>am
noncomputable def Hq:GP:=λds Q=>∃x:Rx,x.good=ah/\ds=[x.d]/\Q (.bl x.CY)
theorem Ka:jo Hq:=λds P Q w ⟨r,h,a,q⟩=>⟨r,h,a,w _ q⟩
theorem acJ:jO (.tup [.str "set",.int 4,.int 0])=am:=by kernel_rfl
theorem Yi(K:W.Frag)(c:aj):∀ds Q,Hq ds Q->kf 2 1 (w8 K c AF (cl AE)) ds Q:=λds Q ⟨x,g,h,q⟩=>by
 subst h;cases x with
 |ok r=>exact CL K c _ _ ⟨r.acD (Rw.gd g),by show Q (.bl (jO r.d));rw[Rw.row g];exact q⟩
 |o0=>exact CL K c _ _ ⟨⟨rfl,_,_,_,rfl,rfl,rfl⟩,by show Q (.bl (jO (.tup [.str "set",.int 4,.int 0])));rw[acJ];exact q⟩
 |o1=>
  refine⟨rfl,?_⟩;walk_at "wk";exact q
 |o2=>walk_at "wk";exact q
 |o3=>walk_at "wk";exact q
 |o4=>
  refine⟨rfl,?_⟩;walk_at "wk";exact q
noncomputable def Rx.ins(c:CA):Rx->D
 |.ok r=>r.ins c
 |_=>.non
noncomputable def EJ(c:CA):GN:=λds M Q=>∃x:Rx,x.good=ah/\ds=[x.d]/\Q (x.ins c) M
theorem Hr{c:CA}:sV (EJ c):=λds M P Q w ⟨r,a,b,q⟩=>⟨r,a,b,w _ _ q⟩
theorem UD{K:W.Frag}{c:CA}(f:FOk K c):∀ds M Q,EJ c ds M Q->Vu 2 1 (AB K (bor Hq) c.Mark (la K) c.kY (la K) c.Table (la K) (cl (mL c))) ds M Q:=λds M Q ⟨x,g,j,q⟩=>by
 subst j;have odd:x.CY=am->Q .non M->Vu 2 1 (AB K (bor Hq) c.Mark (la K) c.kY (la K) c.Table (la K) (cl (mL c))) [x.d] M Q:=λa q=>by
  refine⟨rfl,?_⟩;conv=>whnf
  rw[LD (Pj M _ x.wD)];refine⟨by unfold kI;rw[x.wD];rfl,x,g,rfl,rfl,?_⟩;dsimp only;rw[a];exact q
 cases x with
 |o0=>exact odd rfl q
 |o1=>exact odd rfl q
 |o2=>exact odd rfl q
 |o3=>exact odd rfl q
 |o4=>exact odd rfl q
 |ok r=>
  have b:r.ok=ah:=g;have q:Q (r.ins c) M:=q;have l:=f.f r;have nn:=r.nlt;have mk:=λm n=>GI (M:=M) (Q:=m) r l nn n;have i:=r.gd b;have hd:kI [r.d]=ah:=by unfold kI;rw[u9 _ i];rfl
  have hn:kI [r.t]=ah:=by unfold kI;rw[nn];rfl
  have o:r.code=ah->cl (mL c) [r.t] M Q:=λh=>⟨hn,r,h,rfl,q⟩;clear odd g;refine⟨rfl,?_⟩;conv=>whnf
  rw[LD (Pj M (Rx.ok r).d (u9 _ i))];refine⟨hd,.ok r,b,rfl,rfl,?_⟩;have er:(Rx.ok r).d=.tup r.YZ:=r.aaV;conv=>whnf
  rw[er];refine⟨_,rfl,rfl,?_⟩;refine uy toT ?_ _ _ ?_ (λx a s p=>?_) ?_
  ·exact rfl
  ·rw[aY,bd];exact r.Ur
  ·have a:=bM.mp r.X8 x a;cases x<;>first|(cases a;done)|skip
   all_goals
    walk_at "wk";exact p _ rfl
  rw[bc];have e:=r.aaW;generalize r.YZ.map toT=g8 at e ⊢;cases r;all_goals
   cases e;walk_at "wk";first|exact(o rfl).2|exact mk _ q
end pI
namespace pI
open PySem PySem.Spec PyProof.Rows.KTD L2 L3 FJ
noncomputable def nM:List Rx->Option Nat
 |[]=>ao
 |.ok _::r=>(nM r).map (·+1)
 |_::_=>aa 0
theorem Bb:∀{xs:List Rx} {j:Nat} {x:Rx} {rs:List Rw},xs.take j=rs.map Rx.ok->xs[j]?=aa x->x.CY=am->nM xs=aa j
 |[],j,x,rs,_,h,_=>by simp at h
 |y::xs,0,x,rs,_,h,b=>by simp at h;subst h;cases y<;>first|rfl|cases b
 |y::xs,j+1,x,rs,a,h,b=>by
  rw[List.take_succ_cons] at a;cases rs with
  |nil=>cases a
  |cons r rs=>
   rw[aR] at a;obtain⟨e,c⟩:=List.cons.inj a;subst e;show(nM xs).map (·+1)=_;rw[Bb c (by simpa using h) b];rfl
theorem UE{j:Nat}(h:j<2000):MX (.int j)=ah:=by
 have z:∀n:Fin 2000,MX (.int (n.1:Nat))=ah:=by decide+kernel
 exact z ⟨j,h⟩
theorem uJ{n:ay}{j:Nat}(hn:n.length<=1000)(h:j<2000):[D.str n,D.int j].all MX=ah:=by show(decide (n.length<=4000)&&(MX (.int j)&&ah))=ah;rw[decide_eq_true (by omega),UE h];rfl
theorem Yj{d e:D}:[d,e].length<=aE:=ae rfl
abbrev Yk(C:aj)(n:ay)(i:Nat):EX:=⟨C,["part","row"],[.str n,.int i]⟩
noncomputable def xC(c:CA)(B:aj):Lq:=λds Q X=>∃(n:ay) (xs:List Rx),ds=[.str n,.lst (xs.map Rx.d)]/\n.length<=1000/\(∀x∈xs,x.good=ah)/\xs.length<=1000/\(∀rs:List Rw,xs=rs.map Rx.ok->Q (.lst (rs.map (Rw.ins c))))/\(∀i,nM xs=aa i->X (Yk B n i))
theorem EK{c:CA}{B:aj}:CG (xC c B):=λds P Q x y w v ⟨n,xs,a,b,f,g,h,j⟩=>⟨n,xs,a,b,f,g,λrs e=>w _ (h rs e),λi e=>v _ (j i e)⟩
theorem Rf{c:CA}{B:aj}:∀ds Q X,xC c B ds Q X->BJ 6 2 (yj (EJ c) B) ds Q X:=λds Q X ⟨n,xs,h,hn,good,l,q,x⟩=>by
 subst h;refine⟨rfl,?_⟩;conv=>whnf
 refine⟨bJ _,?_⟩;conv=>whnf
 refine⟨_,rfl,rfl,?_⟩;refine l5 (λj f M=>∃(rs:List Rw) (o1 o2 o3:Option D),xs.take j=rs.map Rx.ok/\M=[aa (.lst (rs.map (Rw.ins c)))]/\f=[aa (.str n),aa (.lst (xs.map Rx.d)),aa (.loc 0),o1,o2,o3]) (λ_ _ _ _=>?_) _ 0 _ _ ⟨[],ao,ao,ao,rfl,rfl,rfl⟩ (λj d f M m g N i=>?_) (λf M g=>?_)
 ·exact rfl
 ·obtain⟨rs,o1,o2,o3,a,rfl,rfl⟩:=g;obtain⟨y,o,rfl⟩:=Hi m;obtain⟨z,b,rfl⟩:=qV o;have p:=good z (bw b);have s:j<xs.length:=(aB.mp b).1;rw[bd] at i a;refine⟨rfl,rfl,?_⟩;conv=>whnf
  refine⟨z,p,rfl,?_⟩;have odd:z.CY=am->z.ins c=.non->kI [D.str n,D.int j]=ah/\X (Yk B n j):=λe _=>⟨rfl,x j (Bb a b e)⟩;cases z with
  |o0=>exact⟨rfl,uJ hn (by omega),Yj,odd rfl rfl⟩
  |o1=>exact⟨rfl,uJ hn (by omega),Yj,odd rfl rfl⟩
  |o2=>exact⟨rfl,uJ hn (by omega),Yj,odd rfl rfl⟩
  |o3=>exact⟨rfl,uJ hn (by omega),Yj,odd rfl rfl⟩
  |o4=>exact⟨rfl,uJ hn (by omega),Yj,odd rfl rfl⟩
  |ok r=>
   conv=>whnf
   refine⟨rfl,_,rfl,?_,i _ _ ⟨rs++[r],_,_,_,?_,?_,rfl⟩⟩
   ·have:rs.length<=1000:=by have:=congrArg List.length a;rw[cw,ap] at this;omega
    rw[ap];exact fF this (by decide)
   ·rw[take_snoc b,a,bD];rfl
   ·rw[bD];rfl
 ·obtain⟨rs,o1,o2,o3,a,rfl,rfl⟩:=g;rw[bd,fw,ap,eM] at a;exact⟨zx c rs,q rs a⟩
noncomputable def jZ:List Rw->Option Nat
 |[]=>ao
 |r::rs=>if(r.vQ&&!oz (js rs))||(r.iz&&!(js rs).isSome) then aa 0 else(jZ rs).map (·+1)
theorem o9:∀(rs:List Rw) (j:Nat),(∀i<j,i<rs.length->jZ (rs.drop i)≠aa 0)->jZ rs=(jZ (rs.drop j)).map (·+j)
 |rs,0,_=>by rw[List.drop_zero];cases jZ rs<;>rfl
 |[],j+1,_=>by simp[jZ]
 |r::rs,j+1,h=>by
  have a:=h 0 (by omega) (by simp);rw[List.drop_zero] at a;have b:=o9 rs j λi hi f=>by have:=h (i+1) (by omega) (by simp;omega);simpa using this
  rw[List.drop_succ_cons];have e:jZ (r::rs)=if(r.vQ&&!oz (js rs))||(r.iz&&!(js rs).isSome) then aa 0 else(jZ rs).map (·+1):=rfl;rw[e] at a ⊢;split
  ·rename_i c;rw[if_pos c] at a;exact absurd rfl a
  ·rw[b];cases jZ (rs.drop j) with
   |none=>rfl
   |some k=>show aa (k+j+1)=aa (k+(j+1));congr 1
noncomputable def zA(c:CA)(N:aj):Lq:=λds Q X=>∃(n:ay) (rs:List Rw),ds=[.str n,.lst (rs.map (Rw.ins c))]/\n.length<=1000/\rs.length<=1000/\(jZ rs=ao->Q .non)/\(∀i,jZ rs=aa i->X (Yk N n i))
theorem EL{c:CA}{N:aj}:CG (zA c N):=λds P Q x y w v ⟨n,rs,a,b,f,g,h⟩=>⟨n,rs,a,b,f,λe=>w _ (g e),λi e=>v _ (h i e)⟩
theorem Rg{K:W.Frag}{c:CA}{NE:aj}(A:Y0 K c):∀ds Q X,zA c NE ds Q X->BJ 5 2 (j8 K (cl (zy c)) (Qv c) c.Code NE c.Mark) ds Q X:=λds Q X ⟨n,rs,h,hn,l,q,x⟩=>by
 subst h;have B:=@Hj K c A;have C:=@NI K c A;have is:=@Q8 c;unfold j8;generalize lg K=J at B C ⊢;generalize Vw=gs at is ⊢;refine⟨rfl,?_⟩;conv=>whnf
 refine⟨_,rfl,rfl,?_⟩;refine l5 (λj m M=>(∀i<j,i<rs.length->jZ (rs.drop i)≠aa 0)/\∃o1 o2 o3,M=[]/\m=[aa (.str n),aa (.lst (rs.map (Rw.ins c))),o1,o2,o3]) (λ_ _ _ ⟨_,_,_,_,e,_⟩=>by rw[e]) _ 0 _ _ ⟨λi hi=>by omega,ao,ao,ao,rfl,rfl⟩ (λj d m M L p N s=>?_) (λm M p=>?_)
 ·obtain⟨b,o1,o2,o3,rfl,rfl⟩:=p;obtain⟨y,O,rfl⟩:=Hi L;obtain⟨r,u,rfl⟩:=qV O;have E:j<rs.length:=(aB.mp u).1;rw[bd] at b s;have G:rs.drop j=r::rs.drop (j+1):=by rw[cb E];congr 1;rw[aZ E] at u;exact bq u
  refine⟨rfl,rfl,?_⟩;conv=>whnf
  rw[show cutD (rs.map (Rw.ins c)) (aa ((j:Int)+1)) ao=(rs.drop (j+1)).map (Rw.ins c) by rw[show(j:Int)+1=((j+1:Nat):Int) from rfl,AH,List.map_drop]];refine⟨by show(kI _&&ah)=ah;rw[zx];rfl,rs.drop (j+1),rfl,?_⟩;have bad:((r.vQ&&!oz (js (rs.drop (j+1))))||(r.iz&&!(js (rs.drop (j+1))).isSome))=ah->kI [D.str n,D.int j]=ah/\X (Yk NE n j):=λv=>⟨rfl,x j (by rw[o9 rs j b,G];unfold jZ;rw[if_pos v];simp)⟩
  have a:((r.vQ&&!oz (js (rs.drop (j+1))))||(r.iz&&!(js (rs.drop (j+1))).isSome))=am->∀i<j+1,i<rs.length->jZ (rs.drop i)≠aa 0:=λv i hi T=>by
   by_cases e:i=j
   ·subst e;rw[G];unfold jZ;rw[if_neg (by rw[v];decide)];cases jZ (rs.drop (i+1)) with
    |none=>intro z;cases z
    |some k=>intro z;cases z
   ·exact b i (by omega) T
  generalize js (rs.drop (j+1))=o at bad a ⊢;have H:=uJ (n:=n) (j:=j) hn (by omega);have tl:(r.vQ&&!oz o)=am->∀w,w=[aa (.str n),aa (.lst (rs.map (Rw.ins c))),aa (.int j),aa (r.ins c),aa (B6 c o)]->(YV (wR (gK (iM J (gu (gv 3) (gu (dC (.cls c.Mark)) gB)))) (gK (gR gs (gv 4) (dC .non)))) (At NE ["part","row"] (gu (gv 0) (gu (gv 2) gB))) (λ_=>ia)) (λe _ _=>kI e.ds=ah/\X e) ⟨N,λd I=>nl (fz I d)=ah/\Q (fz I d),λ_ _=>Q .non,N⟩ w []:=by
   intro f w e;subst e;rw[f,Bool.false_or] at bad a;conv=>whnf
   refine B r ?_;cases hm:r.iz with
   |true=>
    rw[hm,bE] at bad a;conv=>whnf
    refine is o ?_;cases g:o.isSome with
    |true=>
     rw[g] at a;conv=>whnf
     exact s _ _ ⟨a rfl,_,_,_,rfl,rfl⟩
    |false=>
     rw[g] at bad;exact⟨rfl,H,Yj,bad rfl⟩
   |false=>
    rw[hm] at a;conv=>whnf
    exact s _ _ ⟨a rfl,_,_,_,rfl,rfl⟩
  refine⟨_,_,_,_,rfl,rfl,⟨r.kn,rfl,rfl⟩,by unfold kI;rw[r.nli];rfl,r,rfl,rfl,?_⟩;cases f:r.vQ with
  |true=>
   conv=>whnf
   refine C o ?_;cases g:oz o with
   |true=>exact tl (by rw[f,g];rfl) _ rfl
   |false=>
    rw[f,g] at bad;exact⟨rfl,H,Yj,bad rfl⟩
  |false=>exact tl (by rw[f];rfl) _ rfl
 ·obtain⟨b,_⟩:=p;rw[bd,fw,ap] at b;refine q ?_;rw[o9 rs rs.length b,dU];rfl
end pI
namespace pI
open PySem PySem.Spec PyProof.Rows.KTD L2 L3 FJ
theorem Bc:∀{xs:List Rx},nM xs=ao->∃rs:List Rw,xs=rs.map Rx.ok
 |[],_=>⟨[],rfl⟩
 |.ok r::xs,h=>by
  have h:(nM xs).map (·+1)=ao:=h;have a:nM xs=ao:=by
   cases e:nM xs with
   |none=>rfl
   |some k=>rw[e] at h;cases h
  obtain⟨rs,rfl⟩:=Bc a;exact⟨r::rs,rfl⟩
 |.o0::_,h=>by cases h
 |.o1::_,h=>by cases h
 |.o2::_,h=>by cases h
 |.o3::_,h=>by cases h
 |.o4::_,h=>by cases h
theorem xD:∀rs:List Rw,nM (rs.map Rx.ok)=ao
 |[]=>rfl
 |r::rs=>by show(nM (rs.map Rx.ok)).map (·+1)=ao;rw[xD rs];rfl
noncomputable def qo:List Px->Option (ay×Nat)
 |[]=>ao
 |p::r=>match nM p.rows with
  |some i=>aa (p.nm,i)
  |none=>qo r
noncomputable def tT:List Pt->Option (ay×Nat)
 |[]=>ao
 |p::r=>match jZ p.2 with
  |some i=>aa (p.1,i)
  |none=>tT r
noncomputable def mD(p:Pt):Px:=.two (.s p.1) (.lst (p.2.map Rx.ok))
theorem CZ:∀{a:List Px},(∀p∈a,p.is=ah)->qo a=ao->∃b:List Pt,a=b.map mD
 |[],_,_=>⟨[],rfl⟩
 |p::a,hi,h=>by
  unfold qo at h;cases e:nM p.rows with
  |some i=>rw[e] at h;cases h
  |none=>
   rw[e] at h;obtain⟨rs,er⟩:=Bc e;obtain⟨b,rfl⟩:=CZ (λq c=>hi q (av _ c)) h;refine⟨(p.nm,rs)::b,?_⟩;rw[aR];congr 1;have:=Px.B7 (hi p aC);rw[this,er];rfl
theorem zB:∀a:List Pt,qo (a.map mD)=ao
 |[]=>rfl
 |p::a=>by rw[aR];unfold qo;rw[show(mD p).rows=p.2.map Rx.ok from rfl,xD];exact zB a
def Ax.ok:Ax->Prop
 |.lst a|.tup a=>(∀p∈a,p.wf/\∀x∈p.rows,x.good=ah)/\a.length<=900
 |_=>True
theorem Ax.ok.wf{a:Ax}(h:a.ok):a.wf:=by
 cases a with
 |lst c=>exact⟨λp b=>(h.1 p b).1,h.2⟩
 |tup c=>exact⟨λp b=>(h.1 p b).1,h.2⟩
 |non=>exact bO
 |Ba=>exact bO
theorem yr{a:List Px}(h:(Ax.lst a).are=ah):a.length<=12/\(∀p∈a,p.is=ah)/\(a.map Px.nm).Nodup/\xA a<=200/\xB a<=200:=by have h:(decide (1<=a.length)&&decide (a.length<=12)&&a.all Px.is&&decide ((a.map Px.nm).Nodup)&&decide (xA a<=200)&&decide (xB a<=200))=ah:=h;simp only [aH,decide_eq_true_eq] at h;exact⟨h.1.1.1.1.2,bM.mp h.1.1.1.2,h.1.1.2,h.1.2,h.2⟩
theorem EM{β:Type}{f:β->Int}(c:∀b,0<=f b):∀{l:List β} {b:β},b∈l->f b<=(l.map f).sum
 |a::l,b,h=>by
  have e:0<=(l.map f).sum:=by
   clear h;induction l with
   |nil=>exact Int.le_refl _
   |cons x l g=>rw[aR,eR];have:=c x;omega
  rw[aR,eR];rcases az.mp h with rfl|h
  ·omega
  ·have:=EM c h;have:=c a;omega
theorem Bd{e:List Px}(h:(Ax.lst e).are=ah){p:Px}(g:p∈e):p.rows.length<=400:=by obtain⟨_,_,_,i,j⟩:=yr h;have a:=EM (f:=λp:Px=>(wE p.rows:Int)) (λ_=>by omega) g;have b:=EM (f:=λp:Px=>(LL p.rows:Int)) (λ_=>by omega) g;have c:(wE p.rows:Int)<=200:=Int.le_trans a i;have d:(LL p.rows:Int)<=200:=Int.le_trans b j;unfold wE at c;omega
theorem Rh{p:Px}(h:p.is=ah):p.nm.length<=8:=by rw[Px.B7 h] at h;have h:(nC p.nm&&_&&_)=ah:=h;rw[aH,aH] at h;exact LC h.1.1
noncomputable def uK(c:CA)(f g NE:aj):Lq:=λds Q X=>∃a:Ax,ds=[a.d]/\a.ok/\(a.are=am->X ⟨f,[],[]⟩)/\∀e,a=.lst e->a.are=ah->(∀n i,qo e=aa (n,i)->X (Yk g n i))/\
 ∀b:List Pt,e=b.map mD->(∀n i,tT b=aa (n,i)->X (Yk NE n i))/\(tT b=ao->Q (.lst (b.map (Q2 c))))
theorem Be{c:CA}{j l NE:aj}:CG (uK c j l NE):=λds P Q x y w v ⟨a,m,o,p,b⟩=>⟨a,m,o,λe=>v _ (p e),λf e e'=>⟨λn i e2=>v _ ((b f e e').1 n i e2),λg h=>⟨λn i e2=>v _ (((b f e e').2 g h).1 n i e2),λe2=>w _ (((b f e e').2 g h).2 e2)⟩⟩⟩
theorem C0{c:CA}{BR:aj}{x:vL}{st:Ms->Prop}{g:List D->Ms->Prop}(h:st [])(f:List Px)(hi:∀p∈f,p.is=ah/\(∀x∈p.rows,x.good=ah)/\p.rows.length<=400)(r:f.length<=12)(j:∀n i s,qo f=aa (n,i)->x (Yk BR n i) s [])(q:∀m:List Pt,f=m.map mD->g (m.map (Q2 c)) []):
  ∀(b:List Px) (pre:List Pt),f=pre.map mD++b->jX [ao] (gM 0) lq ((Xz (F9 (λ_=>(gR km (gv 0) (dC (.int 0)))) (F9 (dCX (xC c BR) (λ_=>(gu (gR km (gv 0) (dC (.int 0))) (gu (gR km (gv 0) (dC (.int 1))) gB)))) (λ_=>gB)))) x) st g (b.map Px.d) (pre.map (Q2 c)) [ao] []
 |[],pre,e=>q pre (by rw[e,br])
 |p::b,pre,e=>by
  obtain⟨pi,pg,pl⟩:=hi p (by rw[e];simp);have o:=Px.B7 pi;have dd:p.d=.tup [.str p.nm,.lst (p.rows.map Rx.d)]:=by have:=congrArg Px.d o;exact this
  rw[aR,dd];unfold jX;refine⟨_,rfl,_,rfl,_,rfl,?_,p.nm,p.rows,rfl,?_,pg,by omega,λrs er=>?_,λi u=>?_⟩
  ·show(ah&&(kI (p.rows.map Rx.d)&&ah))=ah;rw[Hl];rfl
  ·have:=Rh pi;omega
  ·refine⟨ae rfl,h,?_,?_⟩
   ·have:=congrArg List.length e;rw[bL,ap,aV] at this;rw[ap];exact bg (show pre.length<13 by omega) (by decide)
   ·have:=C0 h f hi r j q b (pre++[(p.nm,rs)]) (by rw[e,bD,cD];congr 1;show p::b=mD (p.nm,rs)::b;congr 1;rw[o,er];rfl)
    rw[bD] at this;exact this
  ·refine j p.nm i _ ?_;rw[e];have skip:∀l:List Pt,qo (l.map mD++p::b)=aa (p.nm,i):=λl=>by
    induction l with
    |nil=>show qo (p::b)=_;unfold qo;rw[u]
    |cons a l v=>
     rw[aR,cW];unfold qo;rw[show(mD a).rows=a.2.map Rx.ok from rfl,xD];exact v
   exact skip pre
theorem qP:∀(l:List Pt) (r:List Pt),(∀p∈l,jZ p.2=ao)->tT (l++r)=tT r
 |[],r,_=>rfl
 |p::l,r,h=>by rw[cW];show(match jZ p.2 with|some i=>aa (p.1,i)|none=>tT (l++r))=_;rw[h p aC];exact qP l r λq a=>h q (av _ a)
theorem Kc{c:CA}{u m NE:aj}:∀ds Q X,uK c u m NE ds Q X->BJ 4 1 (tN (cl EI) u (xC c m) (zA c NE)) ds Q X:=λds Q X ⟨a,h,ok,A,B⟩=>by
 subst h;refine⟨rfl,by show(nl a.d&&ah)=ah;rw[a.wD];rfl,a,rfl,ok.wf,?_⟩;cases ha:a.are with
 |false=>exact⟨rfl,rfl,A ha⟩
 |true=>
  cases a with
  |tup j=>cases ha
  |non=>cases ha
  |Ba=>cases ha
  |lst j=>
   obtain⟨C,E⟩:=B j rfl ha;obtain⟨a1,a2,a3,a4,a5⟩:=yr ha;have hi:∀p∈j,p.is=ah/\(∀x∈p.rows,x.good=ah)/\p.rows.length<=400:=λp f=>⟨a2 p f,(ok.1 p f).2,Bd ha f⟩;conv=>whnf
   refine⟨_,rfl,rfl,?_⟩;refine C0 (c:=c) (BR:=m) ?_ j hi a1 (λn i o e=>?_) (λg v=>?_) j [] rfl
   ·exact rfl
   ·exact⟨rfl,C n i e⟩
   obtain⟨G,H⟩:=E g v;have f:∀p∈g,p.1.length<=1000/\p.2.length<=1000:=λp f=>by have w:=hi (mD p) (by rw[v];exact cE f);have y:=Rh w.1;have r:=w.2.2;have y:p.1.length<=8:=y;have r:(p.2.map Rx.ok).length<=400:=r;rw[ap] at r;omega
   conv=>whnf
   refine⟨_,rfl,rfl,?_⟩;refine Hk (Q2 c) (λa b o M=>g=a++b/\(∀p∈a,jZ p.2=ao)/\∃o1 o2,M=[]/\o=[aa (.lst (j.map Px.d)),aa (.lst (g.map (Q2 c))),o1,o2]) (λ_ _ _ _ ⟨_,_,_,_,e,_⟩=>by rw[e]) g [] _ _ ⟨rfl,λp f=>by simp at f,ao,ao,rfl,rfl⟩ (λpre x xs o M s N I=>?_) (λpre o M s=>?_)
   ·obtain⟨l,q,o1,o2,rfl,rfl⟩:=s;have z:x∈g:=by rw[l];simp
    refine⟨rfl,rfl,?_,x.1,x.2,rfl,(f x z).1,(f x z).2,λe=>I _ _ ⟨by rw[l];simp,λp f=>?_,_,_,rfl,rfl⟩,λi e=>⟨rfl,G x.1 i ?_⟩⟩
    ·show(ah&&(kI (x.2.map (Rw.ins c))&&ah))=ah;rw[zx];rfl
    ·rcases bp.mp f with f|f
     ·exact q p f
     ·simp at f;subst f;exact e
    ·rw[l,qP pre _ q];show(match jZ x.2 with|some i=>aa (x.1,i)|none=>tT xs)=_;rw[e]
   ·obtain⟨l,q,o1,o2,rfl,rfl⟩:=s;have J:tT g=ao:=by rw[l,br] at*;have:=qP pre [] q;rw[br] at this;exact this
    exact⟨LK c g,H J⟩
end pI
namespace pI
open PySem PySem.Spec PyProof.Rows.KTD L2 L3 FJ
local macro_rules | `(tactic| walk_at "wk1") => `(tactic| ((conv => whnf); first | refine ⟨_, rfl, ?_⟩ | refine ⟨rfl, ?_⟩ | refine ⟨ae rfl, ?_⟩))
local macro_rules | `(tactic| walk_at "wk") => `(tactic| ((repeat walk_at "wk1"); try (conv => whnf)))
theorem Ri(K:W.Frag):∀ds Q,ny ds Q->kf 1 1 (A3 K) ds Q:=λds Q ⟨x,h,q⟩=>by
 subst h;cases x with
 |ok r=>cases r<;>(walk_at "wk";exact q)
 |_=>walk_at "wk";exact q
theorem UF(xs:List Rx):(xs.filter λx=>!x.iz).length=wE xs:=by
 unfold wE LL;induction xs with
 |nil=>rfl
 |cons x xs a=>
  rw[eN,eN];have:=Ou Rx.iz xs;cases h:x.iz with
  |true=>simp only [dF,b5,if_false,if_true,aV];omega
  |false=>simp only [fD,b5,if_false,if_true,aV];omega
theorem Hs(c:Nat):decide (c∈(cS "abcdefghijklmnopqrstuvwxyz").cps.toList)=(decide (97<=c)&&decide (c<=122)):=by
 have e:(cS "abcdefghijklmnopqrstuvwxyz").cps.toList=(dn 26).map (97+·):=by decide+kernel
 rw[e];by_cases b:97<=c<;>by_cases f:c<=122<;>simp[b,f]
 ·exact⟨c- 97,by omega,by omega⟩
 ·intro x a;omega
 ·intro x a;omega
 ·intro x a;omega
theorem UG{x:ay}(a:1<=x.length)(b:x.length<=8):((x.cps.toList.filter λc=>!(decide (97<=c)&&decide (c<=122))).map λc=>D.str ⟨#[c]⟩).isEmpty=nC x:=by
 unfold nC low;simp only [a,b,decide_true,bE];induction x.cps.toList with
 |nil=>rfl
 |cons c l e=>
  rw[cT,eN];cases f:(decide (97<=c)&&decide (c<=122)) with
  |true=>simp only [dF,b5,if_false,bE];exact e
  |false=>simp only [fD,if_true,eC];rfl
theorem len_str{w:ay}(h:w.length<=1000):MC (.str w)=aa w.length:=by show(if w.length<=aE then aa w.length else ao)=_;rw[if_pos (aS h (by decide))]
theorem Kd{xs:List D}{M:Ms}{Q:DK}(a:L3.sJ xs=ah)(hd:sG xs<=50)(q:Q (.bl (!xs.isEmpty)) M):ze (.lst xs) (.lst []) M Q:=by
 refine⟨⟨a,rfl,by show sG xs+1<=60;omega,ae rfl⟩,?_⟩;cases xs with
 |nil=>exact q
 |cons x xs=>exact q
end pI
namespace pI
open PySem PySem.Spec PyProof.Rows.KTD L2 L3 FJ
local macro_rules | `(tactic| walk_at "wk1") => `(tactic| ((conv => whnf); first | refine ⟨_, rfl, ?_⟩ | refine ⟨rfl, ?_⟩ | refine ⟨ae rfl, ?_⟩))
local macro_rules | `(tactic| walk_at "wk") => `(tactic| ((repeat walk_at "wk1"); try (conv => whnf)))
theorem EN{a b:Int}{M:Ms}{Q:DK}(h:b<a)(q:Q (.bl am) M):wC (.int a) (.int b) M Q:=by show Q (.bl (decide (a<=b))) M;rw[decide_eq_false (by omega)];exact q
theorem aa1{c:Nat}:VD (.str ⟨#[c]⟩) (.str "abcdefghijklmnopqrstuvwxyz")=aa (decide (97<=c)&&decide (c<=122)):=by show aa (!(dQ _ _ 0 _ 1).isEmpty)=_;rw[StrLaws.found_one,Hs]
theorem Rj{w:ay}(h:¬(1<=w.length/\w.length<=8)):nC w=am:=by
 unfold nC;by_cases a:1<=w.length
 ·rw[decide_eq_false (λz=>h ⟨a,z⟩)];simp
 ·rw[decide_eq_false a];simp
theorem aa2{w:ay}{r:Rl}(h:nC w=am):(Px.two (.s w) r).is=am:=by
 cases r with
 |lst xs=>show(nC w&&_&&_)=am;rw[h];rfl
 |_=>rfl
theorem Rm(l:List Nat)(h:l.length<=8)(a:∀c∈l,c<0x110000):L3.sJ (l.map λc=>D.str ⟨#[c]⟩)=ah/\sG (l.map λc=>D.str ⟨#[c]⟩)=0:=by
 clear h;induction l with
 |nil=>exact⟨rfl,rfl⟩
 |cons c l b=>
  obtain⟨e,f⟩:=b λx g=>a x (av _ g);have i:bZ ⟨#[c]⟩=ah:=by have:=a c aC;simp[bZ,this]
  exact⟨by rw[aR];unfold L3.sJ L3.pl;rw[e,i];rfl,by rw[aR];unfold sG;rw[f];rfl⟩
def Nm.NK:Nm->Prop
 |.s w=>∀c∈w.cps.toList,c<0x110000
 |_=>True
def Px.NK:Px->Prop
 |.two n _=>n.NK
 |_=>True
noncomputable def zC:GP:=λds Q=>∃p:Px,ds=[p.d]/\p.wf/\p.NK/\Q (.bl p.is)
theorem EO:jo zC:=λds P Q w ⟨p,h,l,a,q⟩=>⟨p,h,l,a,w _ q⟩
theorem Rn(K:W.Frag):∀ds Q,zC ds Q->kf 1 1 (vq K (cl ny)) ds Q:=λds Q ⟨p,h,wf,so,q⟩=>by
 subst h;refine⟨rfl,?_⟩;cases p with
 |one w=>walk_at "wk";exact q
 |lst w xs=>walk_at "wk";exact q
 |three w xs=>walk_at "wk";exact q
 |non=>walk_at "wk";exact q
 |two n r=>
  cases n with
  |non=>walk_at "wk";exact q
  |Ba=>walk_at "wk";exact q
  |s w=>
   have g:w.length<=1000:=wf.1;conv=>whnf
   walk_at "wk";refine⟨w.length,len_str g,?_⟩;have a:nC w=am->Q (.bl am):=λe=>by rw[aa2 e] at q;exact q
   by_cases y:1<=w.length;case neg=>
    refine EN (by omega) ?_;exact⟨rfl,a (Rj (by omega))⟩
   refine zw (by omega) ?_;dsimp only [dC];by_cases i:w.length<=8;case neg=>
    refine EN (by omega) ?_;exact⟨rfl,a (Rj (by omega))⟩
   refine zw (by omega) ?_;conv=>whnf
   refine⟨_,rfl,_,rfl,rfl,?_⟩;refine mO (λc:Nat=>D.str ⟨#[c]⟩) (λc:Nat=>D.str ⟨#[c]⟩) (λc=>!(decide (97<=c)&&decide (c<=122))) ?_ _ _ ?_ (λc j z f=>?_) ?_
   ·exact rfl
   ·rw[aY,bd];exact aS (show w.cps.toList.length<=1000 from g) (by decide)
   ·refine⟨(decide (97<=c)&&decide (c<=122)),aa1,?_⟩;have:=f _ (show xI [ao] [aa (D.str ⟨#[c]⟩)]=_ from rfl);generalize (decide (97<=c)&&decide (c<=122))=b at this ⊢;cases b<;>exact this
   refine⟨bJ _,?_⟩;obtain⟨l,m⟩:=Rm (w.cps.toList.filter λc=>!(decide (97<=c)&&decide (c<=122))) (aS (Ou _ _) i) λc j=>so c (gj.mp j).1;have hw:=UG y i;show ze (.lst ([]++(w.cps.toList.filter λc=>!(decide (97<=c)&&decide (c<=122))).map λc=>D.str ⟨#[c]⟩)) (.lst []) [] _;rw[bc];refine Kd l (by rw[m];decide) ?_;rw[hw];clear l m hw;cases o:nC w with
   |false=>exact⟨rfl,a o⟩
   |true=>
    cases r with
    |tup xs=>walk_at "wk";exact q
    |non=>walk_at "wk";exact q
    |lst xs=>
     have q:Q (.bl (nC w&&decide (1<=wE xs)&&decide (wE xs<=60))):=q;rw[o,bE] at q;conv=>whnf
     refine⟨_,rfl,?_⟩;conv=>whnf
     refine⟨ah,rfl,?_⟩;conv=>whnf
     refine⟨_,rfl,_,rfl,rfl,?_⟩;refine mO Rx.d Rx.d (λx=>!x.iz) ?_ _ _ ?_ (λx B z f=>?_) ?_
     ·exact rfl
     ·rw[aY,bd];exact J9 wf.2
     ·refine⟨by unfold kI;rw[x.wD];rfl,x,rfl,?_⟩;have:=f _ (show xI [ao] [aa x.d]=_ from rfl);generalize x.iz=b at this ⊢;cases b<;>exact this
     refine⟨_,rfl,?_⟩;rw[bc];have A:(((xs.filter λx=>!x.iz).map Rx.d).length:Int)=(wE xs:Int):=by rw[ap,UF]
     show wC (.int 1) (.int (((xs.filter λx=>!x.iz).map Rx.d).length:Int)) [] _;rw[A];by_cases u:1<=wE xs;case neg=>
      refine EN (by omega) ?_;rw[decide_eq_false u] at q;exact⟨rfl,q⟩
     refine zw (by omega) ?_;rw[decide_eq_true u,bE] at q;dsimp only [dC];by_cases v:wE xs<=60;case neg=>
      refine EN (by omega) ?_;rw[decide_eq_false v] at q;exact⟨rfl,q⟩
     refine zw (by omega) ?_;rw[decide_eq_true v] at q;exact⟨rfl,q⟩
end pI
namespace pI
open PySem PySem.Spec PyProof.Rows.KTD L2 L3 FJ
theorem UH{p:Px}(h:p.is=ah):p.d=.tup [.str p.nm,.lst (p.rows.map Rx.d)]:=congrArg Px.d (Px.B7 h)
noncomputable def uL:GP:=λds Q=>∃a:List Px,ds=[.lst (a.map Px.d)]/\(∀p∈a,p.is=ah/\p.wf)/\a.length<=12/\Q (.tup [.int (xA a),.int (xB a)])
theorem Bf:jo uL:=λds P Q w ⟨p,h,l,a,q⟩=>⟨p,h,l,a,w _ q⟩
theorem LO:∀a:List Px,(a.map λp=>((p.rows.length:Nat):Int)).sum- xB a=xA a
 |[]=>rfl
 |p::a=>by
  have b:=LO a;unfold xB xA at*;rw[aR,aR,aR,eR,eR,eR];have e:(wE p.rows:Int)=(p.rows.length:Int)- (LL p.rows:Int):=by have:=Q9 p.rows;unfold wE;omega
  omega
theorem Ke:∀ds Q,uL ds Q->kf 2 1 (xx (cl ny)) ds Q:=λds Q ⟨a,h,i,l,q⟩=>by
 subst h;have j:a.length<=aE:=aS l (by decide);refine⟨rfl,?_⟩;conv=>whnf
 refine⟨_,rfl,rfl,?_⟩;refine iS Px.d (λp=>.int (LL p.rows)) ?_ _ _ ?_ (λp c m e=>?_) ?_
 ·exact rfl
 ·rw[aY,bd];exact j
 ·obtain⟨pi,f⟩:=i p c;have n:p.rows.length<=big:=by rw[Px.B7 pi] at f;exact f.2
  rw[UH pi];refine⟨_,rfl,_,rfl,rfl,?_⟩;refine mO Rx.d Rx.d Rx.iz ?_ _ _ ?_ (λx c o g=>?_) ?_
  ·exact rfl
  ·rw[aY,bd];exact J9 n
  ·refine⟨by unfold kI;rw[x.wD];rfl,x,rfl,?_⟩;have:=g _ (show xI [ao] [aa x.d]=_ from rfl);generalize x.iz=b at this ⊢;cases b<;>exact this
  ·refine⟨_,rfl,?_⟩;rw[bc,ap];exact e _ rfl
 refine⟨a.map λp=>(LL p.rows:Int),(show D.lst _=D.lst _ by rw[bc,bN];rfl),?_⟩;conv=>whnf
 refine⟨_,rfl,rfl,?_⟩;refine iS Px.d (λp=>.int (p.rows.length:Nat)) ?_ _ _ ?_ (λp c m e=>?_) ?_
 ·exact rfl
 ·rw[aY,bd];exact j
 ·obtain⟨pi,f⟩:=i p c;rw[UH pi];refine⟨_,rfl,_,rfl,?_⟩;rw[ap];exact e _ rfl
 refine⟨a.map λp=>((p.rows.length:Nat):Int),(show D.lst _=D.lst _ by rw[bc,bN];rfl),?_⟩;refine⟨ae rfl,rfl,?_⟩;show Q (.tup [.int ((a.map λp=>((p.rows.length:Nat):Int)).sum- xB a),.int (xB a)]);rw[LO];exact q
theorem LP{k:Key}{d:D}{a:List Key}{ds:List D}:(kB k d a ds).1=if a.any (λx=>decide (x=k))=ah then a else a++[k]:=by unfold kB;split<;>rfl
theorem Bg:∀(b:List (Key×D)) (a:List Key) (ds:List D),(a++b.map (·.1)).Nodup->(vN b (a,ds)).1=a++b.map (·.1)
 |[],a,ds,_=>by simp[vN]
 | (k,d)::r,a,ds,h=>by
  have c:a.any (λx=>decide (x=k))=am:=by rw[List.any_eq_false];intro x e;have:=(fM.mp h).2.2 x e k (by simp);simpa using this
  have e1:(kB k d a ds).1=a++[k]:=by rw[LP,c];rfl
  have:=Bg r (a++[k]) (kB k d a ds).2 (by simpa[cD] using h);show(vN r (kB k d a ds)).1=_;rw[show kB k d a ds=((kB k d a ds).1,(kB k d a ds).2) from rfl,e1,this];simp
theorem Ht:∀(b:List (Key×D)) (a:List Key) (ds:List D),(vN b (a,ds)).1.length<=a.length+b.length
 |[],a,ds=>bf _
 | (k,d)::r,a,ds=>by
  have c:=Ht r (kB k d a ds).1 (kB k d a ds).2;have e:(kB k d a ds).1.length<=a.length+1:=by rw[LP];split<;>simp
  show(vN r (kB k d a ds)).1.length<=_;rw[aV];exact aS c (by omega)
theorem Hu:∀(f:List (Key×D)) (c:List Key) (ds:List D),c.Nodup->¬(c++f.map (·.1)).Nodup->(vN f (c,ds)).1.length<c.length+f.length
 |[],c,ds,h,hn=>absurd (by simpa using h) hn
 | (k,d)::r,c,ds,h,hn=>by
  show(vN r ((kB k d c ds).1,(kB k d c ds).2)).1.length<_;cases e:c.any (λx=>decide (x=k)) with
  |true=>
   have e1:(kB k d c ds).1=c:=by rw[LP,e];rfl
   rw[e1,aV];have:=Ht r c (kB k d c ds).2;omega
  |false=>
   have e1:(kB k d c ds).1=c++[k]:=by rw[LP,e];rfl
   rw[e1];have i:k∉c:=λz=>by rw[List.any_eq_false] at e;exact e k z (by simp)
   have:=Hu r (c++[k]) (kB k d c ds).2 (by rw[fM];exact⟨h,by simp,λa ha b g=>by simp at g;subst g;exactλz=>i (z▸ha)⟩) (by simpa[cD] using hn)
   rw[bL] at this;rw[aV];simp at this;omega
end pI
namespace pI
open PySem PySem.Spec PyProof.Rows.KTD L2 L3 FJ
local macro_rules | `(tactic| walk_at "wk1") => `(tactic| ((conv => whnf); first | refine ⟨_, rfl, ?_⟩ | refine ⟨rfl, ?_⟩ | refine ⟨ae rfl, ?_⟩))
local macro_rules | `(tactic| walk_at "wk") => `(tactic| ((repeat walk_at "wk1"); try (conv => whnf)))
def Ax.NK:Ax->Prop
 |.lst a|.tup a=>∀p∈a,p.NK
 |_=>True
noncomputable def EQ:GP:=λds Q=>∃a:Ax,ds=[a.d]/\a.wf/\a.NK/\Q (.bl a.are)
theorem Hv:jo EQ:=λds P Q w ⟨p,h,l,a,q⟩=>⟨p,h,l,a,w _ q⟩
theorem aa3{a b:Int}{r:Bool}{M:Ms}{Q:DK}(h:(a==b)=r)(q:Q (.bl r) M):mF (.int a) (.int b) M Q:=by show Q (.bl (a==b)) M;rw[h];exact q
theorem aa4{a b:Int}:decide ((if b>a then b else a)<=200)=(decide (a<=200)&&decide (b<=200)):=by by_cases c:a<=200<;>by_cases e:b<=200<;>simp only [c,e,decide_true,decide_false,bE,eC,adh,decide_eq_true_eq,decide_eq_false_iff_not]<;>split<;>omega
theorem UI(K:W.Frag):∀ds Q,EQ ds Q->kf 2 1 (A5 K (cl zC) (cl uL)) ds Q:=λds Q ⟨a,h,wf,so,q⟩=>by
 subst h;cases a with
 |tup c=>walk_at "wk";exact q
 |non=>walk_at "wk";exact q
 |Ba=>walk_at "wk";exact q
 |lst c=>
  have i:c.length<=aE:=aS wf.2 (by decide);have q:Q (.bl (decide (1<=c.length)&&decide (c.length<=12)&&c.all Px.is&&decide ((c.map Px.nm).Nodup)&&decide (xA c<=200)&&decide (xB c<=200))):=q;refine⟨rfl,?_⟩;have g:((c.map Px.d).length:Int)=(c.length:Int):=by rw[ap]
  conv=>whnf
  walk_at "wk";by_cases s:1<=c.length;case neg=>
   rw[decide_eq_false (by rw[g];omega)];rw[decide_eq_false s] at q;exact⟨rfl,q⟩
  rw[decide_eq_true (by rw[g];omega)];rw[decide_eq_true s,bE] at q;walk_at "wk";by_cases j:c.length<=12;case neg=>
   rw[decide_eq_false (by rw[g];omega)];rw[decide_eq_false j] at q;exact⟨rfl,q⟩
  rw[decide_eq_true (by rw[g];omega)];rw[decide_eq_true j,bE] at q;conv=>whnf
  refine⟨_,rfl,rfl,?_⟩;refine iS Px.d (λp=>.bl p.is) ?_ _ _ ?_ (λp e u f=>?_) ?_
  ·exact rfl
  ·rw[aY,bd];exact i
  ·exact⟨by unfold kI;rw[p.wD];rfl,p,rfl,wf.1 p e,so p e,f _ rfl⟩
  refine⟨c.map Px.is,(show D.lst _=D.lst _ by rw[bc,bN];rfl),?_⟩;rw[show(c.map Px.is).all id=c.all Px.is by simp[eG]];cases l:c.all Px.is with
  |false=>
   rw[l] at q;exact⟨rfl,q⟩
  |true=>
   rw[l,bE] at q;have v:∀p∈c,p.is=ah:=bM.mp l;conv=>whnf
   refine⟨_,rfl,rfl,?_⟩;refine iS Px.d (λp=>.str p.nm) ?_ _ _ ?_ (λp e u f=>?_) ?_
   ·exact rfl
   ·rw[aY,bd];exact i
   ·rw[UH (v p e)];exact⟨_,rfl,f _ rfl⟩
   conv=>whnf
   refine⟨_,rfl,rfl,?_⟩;rw[bc];have x:c.map (λp=>D.str p.nm)=(c.map Px.nm).map D.str:=by rw[bN];rfl
   rw[x];generalize y:c.map Px.nm=ns at q;have m:ns.length=c.length:=by rw[<-y,ap]
   refine iS D.str (λn=>prD (.inr n,.int 0)) ?_ _ _ ?_ (λp e u f=>?_) ?_
   ·exact rfl
   ·rw[aY,bd,m];exact i
   ·exact⟨ae rfl,f _ rfl⟩
   refine⟨ns.map λn=>((.inr n:Key),D.int 0),(show D.lst _=D.lst _ by rw[bc,bN];rfl),?_⟩;have w:((ns.map λn=>((.inr n:Key),D.int 0)).map (·.1))=ns.map fN:=by rw[bN];rfl
   have o:(((vN (ns.map λn=>((.inr n:Key),D.int 0)) ([],[])).1.length:Int)==(ns.length:Int))=decide ns.Nodup:=by
    by_cases hn:ns.Nodup
    ·have r:(([]:List Key)++(ns.map λn=>((.inr n:Key),D.int 0)).map (·.1)).Nodup:=by rw[bc,w];exact List.Pairwise.map _ (λa b h z=>h (fN.inj z)) hn
     rw[Bg _ _ _ r,bc,ap,ap,decide_eq_true hn];simp
    ·have r:¬(([]:List Key)++(ns.map λn=>((.inr n:Key),D.int 0)).map (·.1)).Nodup:=by rw[bc,w];exactλz=>hn (List.Pairwise.of_map _ (λa b h z=>h (by rw[z])) z)
     have:=Hu _ _ [] eD r;rw[aY,ap,bd] at this;rw[decide_eq_false hn];refine beq_eq_false_iff_ne.mpr ?_;omega
   refine⟨(vN (ns.map λn=>((.inr n:Key),D.int 0)) ([],[])).1.length,rfl,?_⟩;conv=>whnf
   refine⟨ns.length,by show aa (ns.map D.str).length=_;rw[ap],?_⟩;dsimp only;refine aa3 o ?_;cases hn:decide ns.Nodup with
   |false=>rw[hn] at q;exact⟨rfl,q⟩
   |true=>
    rw[hn,bE] at q;refine⟨Yh c,c,rfl,λp e=>⟨v p e,wf.1 p e⟩,j,?_⟩;show nl (fz [] (.bl (decide ((if xB c>xA c then xB c else xA c)<=200))))=ah/\Q (fz [] (.bl (decide ((if xB c>xA c then xB c else xA c)<=200))));rw[aa4];exact⟨rfl,q⟩
end pI
namespace pI
open PySem PySem.Spec PyProof.Rows.KTD L2 L3 FJ
local macro_rules | `(tactic| walk_at "wk1") => `(tactic| ((conv => whnf); first | refine ⟨_, rfl, ?_⟩ | refine ⟨rfl, ?_⟩ | refine ⟨ae rfl, ?_⟩))
local macro_rules | `(tactic| walk_at "wk") => `(tactic| ((repeat walk_at "wk1"); try (conv => whnf)))
noncomputable def sd:GP:=λds Q=>∃r:Rw,ds=[r.d]/\Q (.bl r.vQ)
theorem ER:jo sd:=λds P Q w ⟨p,h,q⟩=>⟨p,h,w _ q⟩
theorem Ro:∀ds Q,sd ds Q->kf 1 1 vk ds Q:=λds Q ⟨r,h,q⟩=>by subst h;cases r<;>(walk_at "wk";exact q)
theorem ki{x:ay}(h:x.cps.toList.all (λc=>decide (c<0x110000))=ah):bZ x=ah:=by unfold bZ;rw[<-Array.all_toList];exact h
theorem uM{w:ay}(h:nC w=ah):bZ w=ah:=by unfold nC low at h;simp only [aH] at h;refine ki ?_;rw[bM] at h ⊢;intro c a;have:=h.2 c a;simp only [aH,decide_eq_true_eq] at this ⊢;omega
theorem Rp(ns:List Int):L3.sJ (ns.map D.int)=ah:=by induction ns with|nil=>rfl|cons n ns a=>rw[aR];unfold L3.sJ;rw[a];rfl
theorem Rq{ws:List ay}(h:ws.all nC=ah):L3.sJ (ws.map D.str)=ah:=by
 induction ws with
 |nil=>rfl
 |cons w ws a=>
  rw[cT,aH] at h;rw[aR];unfold L3.sJ L3.pl;rw[a h.2,Bool.and_true];exact uM h.1
theorem Rr(ns:List Int):sG (ns.map D.int)=0:=by induction ns with|nil=>rfl|cons n ns a=>rw[aR];unfold sG;rw[a];rfl
theorem Rs(ns:List ay):sG (ns.map D.str)=0:=by induction ns with|nil=>rfl|cons n ns a=>rw[aR];unfold sG;rw[a];rfl
theorem acL{r:Rw}(h:r.ok=ah):L3.pl r.d=ah:=by cases r<;>unfold Rw.ok at h<;>simp only [aH,decide_eq_true_eq] at h<;>simp only [Rw.d,L3.pl,L3.sJ,aH]<;>(repeat' apply And.intro);all_goals first|rfl|trivial|exact ki rfl|exact uM h|exact uM h.1|exact uM h.2|exact uM h.1.2|exact Rp _|exact Rq h.2
theorem acM(r:Rw):dp r.d<=2:=by
 cases r;case numbers ns=>show max 0 (max (sG (ns.map D.int)+1) 0)+1<=2;rw[Rr];decide
 case table ns=>show max 0 (max (sG (ns.map D.str)+1) 0)+1<=2;rw[Rs];decide
 all_goals exact ae rfl
theorem plx{x:Rx}(h:x.good=ah):L3.pl x.d=ah:=by
 cases x with
 |ok r=>exact acL h
 |o0=>show(bZ "set"&&(ah&&(ah&&ah)))=ah;rw[ki rfl];rfl
 |o1=>show(bZ "say"&&ah)=ah;rw[ki rfl];rfl
 |o2=>rfl
 |o3=>show(bZ "stop"&&ah)=ah;rw[ki rfl];rfl
 |o4=>show(bZ "Stop"&&ah)=ah;rw[ki rfl];rfl
theorem dpx(x:Rx):dp x.d<=2:=by
 cases x with
 |ok r=>exact acM r
 |_=>exact ae rfl
theorem VY{xs:List Rx}(h:∀x∈xs,x.good=ah):L3.sJ (xs.map Rx.d)=ah/\sG (xs.map Rx.d)<=2:=by
 induction xs with
 |nil=>exact⟨rfl,bJ _⟩
 |cons x xs a=>
  obtain⟨b,c⟩:=a λy e=>h y (av _ e);rw[aR];unfold L3.sJ sG;rw[b,plx (h x aC)];exact⟨rfl,Nat.max_le.mpr ⟨dpx x,c⟩⟩
theorem Rt{xs:List Rw}(h:∀x∈xs,x.ok=ah):L3.sJ (xs.map Rw.d)=ah/\sG (xs.map Rw.d)<=2:=by
 have:=VY (xs:=xs.map Rx.ok) λx a=>by obtain⟨r,b,rfl⟩:=du.mp a;exact h r b
 rw[bN] at this;exact this
noncomputable def endAt(r:Rw)(rest:List Rw):Bool:=(r.vQ&&!oz (js rest))||(r.iz&&!(js rest).isSome)
theorem LQ:∀rs:List Rw,(rs.filter λr=>!r.iz).head?=js rs
 |[]=>rfl
 |r::rs=>by
  rw[eN];show _=(if r.iz then js rs else aa r);cases r.iz with
  |true=>simp only [dF,b5,if_false,if_true];exact LQ rs
  |false=>rfl
theorem Ru:∀{rs:List Rw} {r:Rw},js rs=aa r->r.iz=am
 |r::rs,a,h=>by
  have h:(if r.iz then js rs else aa r)=aa a:=h;cases e:r.iz with
  |true=>rw[e] at h;exact Ru h
  |false=>rw[e] at h;cases h;exact e
noncomputable def xE:GP:=λds Q=>∃(rs:List Rw) (j:Nat) (r:Rw),ds=[.lst (rs.map Rw.d),.int j]/\rs[j]?=aa r/\(∀x∈rs,x.ok=ah)/\rs.length<=1000/\Q (.bl (!endAt r (rs.drop (j+1))))
theorem ES:jo xE:=λds P Q w ⟨rs,j,r,h,a,b,c,q⟩=>⟨rs,j,r,h,a,b,c,w _ q⟩
end pI
namespace pI
open PySem PySem.Spec PyProof.Rows.KTD L2 L3 FJ
noncomputable def LR(r:Rw):ay:=match r.d with|.tup (.str k::_)=>k|_=>⟨#[]⟩
theorem UJ(r:Rw){M:Ms}{Q:DK}(q:Q (.str (LR r)) M):km r.d (.int 0) M Q:=by cases r<;>exact⟨_,rfl,q⟩
theorem NL(r:Rw)(h:r.iz=am):VD (.str (LR r)) (.tup [.str "numbers",.str "table"])=aa (!r.code):=by cases r<;>first|(cases h;done)|kernel_rfl
theorem aa5{a b:ay}{r:Bool}{M:Ms}{Q:DK}(h:(a==b)=r)(q:Q (.bl r) M):mF (.str a) (.str b) M Q:=by show Q (.bl (a==b)) M;rw[h];exact q
theorem acN{d:D}{ds:List D}:vC (d::ds) 0=aa d:=rG (k:=0) rfl
theorem Rv:∀ds Q,xE ds Q->kf 3 2 (A6 (cl sd)) ds Q:=λds Q ⟨rs,j,r,h,i,ok,B,q⟩=>by
 subst h;have C:j<rs.length:=(aB.mp i).1;have e:vC (rs.map Rw.d) (j:Int)=aa r.d:=rG (by rw[bA,i];rfl);refine⟨rfl,?_⟩;conv=>whnf
 refine⟨_,rfl,rfl,?_⟩;rw[show cutD (rs.map Rw.d) (aa ((j:Int)+1)) ao=(rs.drop (j+1)).map Rw.d by rw[show(j:Int)+1=((j+1:Nat):Int) from rfl,AH,List.map_drop]];refine mO Rw.d Rw.d (λr=>!r.iz) ?_ _ _ ?_ (λx l E u=>?_) ?_
 ·exact rfl
 ·rw[aY,bd,eK];exact qO (by omega)
 ·have:=u [aa x.d] rfl;cases x<;>exact⟨_,rfl,this⟩
 rw[bc];have c:=LQ (rs.drop (j+1));have m:=λy=>@Ru (rs.drop (j+1)) y;obtain⟨f,z⟩:=Rt (xs:=(rs.drop (j+1)).filter λr=>!r.iz) λx l=>ok x (List.mem_of_mem_drop (gj.mp l).1);unfold endAt at q;generalize js (rs.drop (j+1))=o at q c m;generalize ((rs.drop (j+1)).filter λr=>!r.iz)=bs at c f z ⊢;have n:(bs.map Rw.d).isEmpty=!o.isSome:=by
  cases bs with
  |nil=>cases c;rfl
  |cons b bs=>cases c;rfl
 refine⟨r.d,e,?_⟩;cases hm:r.iz with
 |true=>
  rw[hm,bE] at q;have a:r.vQ=am:=by cases r<;>first|rfl|cases hm
  rw[a,eC,Bool.false_or,gg] at q;cases r with
  |mark w b=>
   refine⟨_,rfl,bJ _,?_⟩;refine Kd f (by omega) ?_;rw[n,gg];exact⟨rfl,q⟩
  |_=>cases hm
 |false=>
  rw[hm,eC,Bool.or_false] at q;have nr:kI [r.d]=ah:=by unfold kI;rw[r.wD];rfl
  have p:r.vQ=ah->ze (.lst (bs.map Rw.d)) (.lst []) [] λx M1=>match x with
    |D.bl ah=>gR (NU ah) (gR km (gR km (gv 2) (dC (.int 0))) (dC (.int 0))) (hW (gu (dC (.str "numbers")) (gu (dC (.str "table")) gB))) [aa (.lst (rs.map Rw.d)),aa (.int j),aa (.lst (bs.map Rw.d))] M1 λd s=>nl (fz s d)=ah/\Q (fz s d)
    |D.bl am=>nl (fz M1 (.bl am))=ah/\Q (fz M1 (.bl am))
    |_=>False:=λa=>by
   rw[a,bE,gg] at q;refine Kd f (by omega) ?_;rw[n,gg];cases o with
   |none=>exact⟨rfl,q⟩
   |some b=>
    have A:=m b rfl;cases bs with
    |nil=>cases c
    |cons G bs=>
     cases c;have q:Q (.bl b.code):=q;have kd:=NL b A;refine⟨b.d,acN,?_⟩;have fin2:∃v,VD (.str (LR b)) (.tup [.str "numbers",.str "table"])=aa v/\nl (fz [] (.bl (if ah then !v else v)))=ah/\Q (fz [] (.bl (if ah then !v else v))):=⟨_,kd,rfl,by
      show Q (.bl (!(!b.code)));rw[gg];exact q⟩
     cases b<;>exact⟨_,rfl,ae rfl,fin2⟩
  cases a:r.vQ with
  |true=>
   have g:=p a;clear p;cases r<;>first|(cases hm;done)|(cases a;done)|exact⟨_,rfl,_,e,nr,_,rfl,bJ _,g⟩
  |false=>
   rw[a] at q;have q:Q (.bl ah):=q;cases r<;>first|(cases hm;done)|(cases a;done)|exact⟨_,rfl,_,e,nr,_,rfl,rfl,q⟩
end pI
namespace pI
open PySem PySem.Spec PyProof.Rows.KTD L2 L3 FJ
abbrev UK:List D:=[.tup [.str "set",.int 4,.int 0],.tup [.str "say"],.non,.lst [.str "stop"],.tup [.str "Stop"]]
theorem Yl(x:Rx)(h:x.good=ah):(UK.any λy=>x8 y x.d)=!x.CY:=by
 cases x with
 |ok r=>
  cases r with
  |set b n=>
   have h:(uV b&&Sa n)=ah:=h;rw[aH] at h;have a:=h.1;have e:(4==b)=am:=by unfold uV at a;simp at a;simp;omega
   show((ah&&((4==b)&&((0==n)&&ah)))||false)=am;rw[e];rfl
  |_=>kernel_rfl
 |_=>kernel_rfl
theorem UL{x:Rx}{M:Ms}{Q:DK}(h:x.good=ah)(q:Q (.bl (!x.CY)) M):Gh x.d (.lst UK) M Q:=by
 have e:vw M x.d=x.d:=by cases x with|ok r=>cases r<;>rfl|_=>rfl
 show match D.lst UK with|.lst ds=>aaN (vw M x.d) ds/\Q (.bl (ds.any λy=>x8 y (vw M x.d))) M|_=>False
 rw[e];refine⟨⟨plx h,aS (dpx x) (by decide),by kernel_rfl,by decide+kernel⟩,?_⟩;rw[Yl x h];exact q
theorem yt:∀(l r:List Px),(∀p∈l,nM p.rows=ao)->qo (l++r)=qo r
 |[],r,_=>rfl
 |p::l,r,h=>by show(match nM p.rows with|some i=>aa (p.nm,i)|none=>qo (l++r))=_;rw[h p aC];exact yt l r λq a=>h q (av _ a)
noncomputable def W3(w n:ay)(i:Nat):D:=.tup [.str w,.str n,.int i]
noncomputable def ET:GP:=λds Q=>∃a:Ax,ds=[a.d]/\a.ok/\a.NK/\(a.are=am->Q (W3 "parts" "" 0))/\∀b,a=.lst b->a.are=ah->(∀n i,qo b=aa (n,i)->Q (W3 "row" n i))/\
 ∀c:List Pt,b=c.map mD->(∀n i,tT c=aa (n,i)->Q (W3 "end" n i))/\(tT c=ao->Q (W3 "told" "" 0))
theorem Hw:jo ET:=λds P Q w ⟨a,h,j,l,m,b⟩=>⟨a,h,j,l,λe=>w _ (m e),λc e e'=>⟨λn i e2=>w _ ((b c e e').1 n i e2),λf g=>⟨λn i e2=>w _ (((b c e e').2 f g).1 n i e2),λe2=>w _ (((b c e e').2 f g).2 e2)⟩⟩⟩
theorem Px.aa6{p:Px}(h:p.is=ah):p.d=.tup [.str p.nm,.lst (p.rows.map Rx.d)]:=congrArg Px.d (Px.B7 h)
theorem aa7{a:List Px}{j:Nat}{p:Px}(b:a[j]?=aa p):a=a.take j++p::a.drop (j+1):=by
 have c:j<a.length:=(aB.mp b).1;have:a.drop j=p::a.drop (j+1):=by rw[cb c];congr 1;rw[aZ c] at b;exact bq b
 rw[<-this,List.take_append_drop]
theorem UM{xs:List Rx}{j:Nat}{r:Rw}{rs:List Rw}(a:xs.take j=rs.map Rx.ok)(h:xs[j]?=aa (.ok r)):xs.take (j+1)=(rs++[r]).map Rx.ok:=by have b:j<xs.length:=(aB.mp h).1;rw[List.take_succ,h,a];simp
noncomputable def aa8(a:G2):DS:=(uS (iZ (gv 0)) (j4 2 (ib (gM 1) (ib (gM 2) j0))) (uS (vI (gu (iM lu (gu (gv 2) gB)) gB)) (gM 3) (iB (gK (gR Gh (gR km (gv 2) (gv 3)) (ie (iP (gu (hW (gu (dC (.str "set")) (gu (dC (.int 4)) (gu (dC (.int 0)) gB)))) (gu (hW (gu (dC (.str "say")) gB)) (gu (dC .non) (gu (ie (iP (gu (dC (.str "stop")) gB))) (gu (hW (gu (dC (.str "Stop")) gB)) gB))))))))) (iw (hW (gu (dC (.str "row")) (gu (gv 1) (gu (gv 3) gB))))) ia)))
noncomputable def aa9(a:GN):DS:=(uS (iZ (gv 0)) (j4 2 (ib (gM 1) (ib (gM 2) j0))) (uS (vI (gu (iM lu (gu (gv 2) gB)) gB)) (gM 3) (iB (k9 (gK (iM a (gu (gv 2) (gu (gv 3) gB))))) (iw (hW (gu (dC (.str "end")) (gu (gv 1) (gu (gv 3) gB))))) ia)))
theorem UN{a:List Px}{E:jW}(w:∀p∈a,p.is=ah)(gd:∀p∈a,∀x∈p.rows,x.good=ah)(y:∀p∈a,p.rows.length<=400){o1 o2 o3:Option D}(z:∀n i,qo a=aa (n,i)->E.rt (W3 "row" n i) [])(A:qo a=ao->∀o1 o2 o3,E.nx [aa (.lst (a.map Px.d)),o1,o2,o3] []):aa8 Gh E [aa (.lst (a.map Px.d)),o1,o2,o3] []:=by
 have io:=@UL;unfold aa8;generalize Gh=H at io ⊢;conv=>whnf
 refine⟨_,rfl,rfl,?_⟩;refine l5 (λj f M=>(∀p∈a.take j,nM p.rows=ao)/\∃o1 o2 o3,M=[]/\f=[aa (.lst (a.map Px.d)),o1,o2,o3]) (λ_ _ _ ⟨_,_,_,_,e,_⟩=>by rw[e]) _ 0 _ _ ⟨λp b=>by simp at b,_,_,_,rfl,rfl⟩ (λj d f M c b N u=>?_) (λf M b=>?_)
 ·obtain⟨g,o1,o2,o3,rfl,rfl⟩:=b;obtain⟨p,b,rfl⟩:=qV c;rw[bd] at g u;have mp:=bw b;have B:=aa7 b;have I:=y p mp;rw[Px.aa6 (w p mp)];conv=>whnf
  refine⟨rfl,?_⟩;conv=>whnf
  refine⟨rfl,?_⟩;simp only [aP,aU];conv=>whnf
  refine⟨_,rfl,?_⟩;conv=>whnf
  refine⟨⟨by omega,by rw[ap];omega⟩,bO,?_⟩;rw[ap];refine l5 (λi f M=>∃(rs:List Rw) (o:Option D),p.rows.take i=rs.map Rx.ok/\M=[]/\f=[aa (.lst (a.map Px.d)),aa (.str p.nm),aa (.lst (p.rows.map Rx.d)),o]) (λ_ _ _ _=>bO) _ 0 _ _ ⟨[],_,rfl,rfl,rfl⟩ (λi d f M c q J l=>?_) (λf M q=>?_)
  ·obtain⟨rs,o,h,rfl,rfl⟩:=q;obtain⟨rfl,hi⟩:=AG c;rw[bd] at h l;have hi:i<p.rows.length:=hi;obtain⟨x,c⟩:∃x,p.rows[i]?=aa x:=⟨_,aZ hi⟩;have C:=gd p mp x (bw c);have G:vC (p.rows.map Rx.d) (i:Int)=aa x.d:=rG (by rw[bA,c];rfl);conv=>whnf
   simp only [aP,aU];conv=>whnf
   refine⟨x.d,G,?_⟩;conv=>whnf
   repeat (refine⟨ae rfl,?_⟩;conv=>whnf)
   refine io C ?_;cases x with
   |ok r=>exact l _ _ ⟨rs++[r],_,UM h c,rfl,rfl⟩
   |_=>
    refine⟨ae rfl,z _ _ ?_⟩;rw[B,yt _ _ g];unfold qo;rw[Bb h c rfl]
  ·obtain⟨rs,o,h,rfl,rfl⟩:=q;refine u _ _ ⟨λs v=>?_,_,_,_,rfl,rfl⟩;rw[List.take_succ,b] at v;rcases bp.mp v with m|m
   ·exact g s m
   ·simp at m;subst m;rw[bd,show(uU 0 ((s.rows.length:Int)).toNat).length=s.rows.length by simp[uU],eM] at h;rw[h];exact xD rs
 ·obtain⟨g,o1,o2,o3,rfl,rfl⟩:=b;refine A ?_ _ _ _;rw[bd,ap,eM] at g;have:=yt a [] g;rw[br] at this;rw[this];rfl
noncomputable def Ry(p:Pt):D:=.tup [.str p.1,.lst (p.2.map Rw.d)]
theorem Rz(p:Pt):(mD p).d=Ry p:=by show D.tup [.str p.1,.lst ((p.2.map Rx.ok).map Rx.d)]=_;rw[bN];rfl
theorem acP(rs:List Rw)(i:Int):kI [.lst (rs.map Rw.d),.int i]=ah:=by show(kI (rs.map Rw.d)&&_)=ah;rw[kU Rw.wD];rfl
theorem UO{a:List Pt}{E:jW}(gd:∀p∈a,∀x∈p.2,x.ok=ah)(B:∀p∈a,p.2.length<=400){o1 o2 o3:Option D}(C:∀n i,tT a=aa (n,i)->E.rt (W3 "end" n i) [])(G:tT a=ao->∀o1 o2 o3,E.nx [aa (.lst (a.map Ry)),o1,o2,o3] []):aa9 (cl xE) E [aa (.lst (a.map Ry)),o1,o2,o3] []:=by
 unfold aa9;conv=>whnf
 refine⟨_,rfl,rfl,?_⟩;refine l5 (λj c M=>(∀p∈a.take j,jZ p.2=ao)/\∃o1 o2 o3,M=[]/\c=[aa (.lst (a.map Ry)),o1,o2,o3]) (λ_ _ _ ⟨_,_,_,_,e,_⟩=>by rw[e]) _ 0 _ _ ⟨λp b=>by simp at b,_,_,_,rfl,rfl⟩ (λj d c M q b N v=>?_) (λc M b=>?_)
 ·obtain⟨f,o1,o2,o3,rfl,rfl⟩:=b;obtain⟨p,b,rfl⟩:=qV q;rw[bd] at f v;have mp:=bw b;have w:j<a.length:=(aB.mp b).1;have H:a=a.take j++p::a.drop (j+1):=by
   have:a.drop j=p::a.drop (j+1):=by rw[cb w];congr 1;rw[aZ w] at b;exact bq b
   rw[<-this,List.take_append_drop]
  have L:=B p mp;unfold Ry;conv=>whnf
  refine⟨rfl,?_⟩;conv=>whnf
  refine⟨rfl,?_⟩;simp only [aP,aU];conv=>whnf
  refine⟨_,rfl,?_⟩;conv=>whnf
  refine⟨⟨by omega,by rw[ap];omega⟩,bO,?_⟩;rw[ap];refine l5 (λi c M=>(∀k<i,k<p.2.length->jZ (p.2.drop k)≠aa 0)/\∃(o:Option D),M=[]/\c=[aa (.lst (a.map Ry)),aa (.str p.1),aa (.lst (p.2.map Rw.d)),o]) (λ_ _ _ _=>bO) _ 0 _ _ ⟨λk I=>by omega,_,rfl,rfl⟩ (λi d c M q s O h=>?_) (λc M s=>?_)
  ·obtain⟨g,o,rfl,rfl⟩:=s;obtain⟨rfl,hi⟩:=AG q;rw[bd] at g h;have hi:i<p.2.length:=hi;obtain⟨r,u⟩:∃x,p.2[i]?=aa x:=⟨_,aZ hi⟩;have er:p.2.drop i=r::p.2.drop (i+1):=by rw[cb hi];congr 1;rw[aZ hi] at u;exact bq u
   have y:jZ (p.2.drop i)=if endAt r (p.2.drop (i+1)) then aa 0 else(jZ (p.2.drop (i+1))).map (·+1):=by rw[er];rfl
   conv=>whnf
   simp only [aP,aU];conv=>whnf
   refine⟨acP _ _,p.2,i,r,rfl,u,gd p mp,by omega,?_⟩;cases ea:endAt r (p.2.drop (i+1)) with
   |true=>
    refine⟨ae rfl,C _ _ ?_⟩;rw[H,qP _ _ f];unfold tT;rw[o9 p.2 i g,y,ea];show aa (p.1,0+i)=_;rw[bd]
   |false=>
    refine h _ _ ⟨λk I J=>?_,_,rfl,rfl⟩;by_cases e:k=i
    ·subst e;rw[y,ea];cases jZ (p.2.drop (k+1))<;>(intro z;cases z)
    ·exact g k (by omega) J
  ·obtain⟨g,o,rfl,rfl⟩:=s;refine v _ _ ⟨λl A=>?_,_,_,_,rfl,rfl⟩;rw[List.take_succ,b] at A;rcases bp.mp A with m|m
   ·exact f l m
   ·simp at m;subst m;rw[bd,show(uU 0 ((l.2.length:Int)).toNat).length=l.2.length by simp[uU]] at g;rw[o9 l.2 _ g,dU];rfl
 ·obtain⟨f,o1,o2,o3,rfl,rfl⟩:=b;refine G ?_ _ _ _;rw[bd,ap,eM] at f;have:=qP a [] f;rw[br] at this;rw[this];rfl
theorem UP:∀ds Q,ET ds Q->kf 4 1 (yq (cl EQ) (cl xE)) ds Q:=λds Q ⟨a,h,ok,so,q,m⟩=>by
 subst h;unfold yq;have io:True:=trivial;refine⟨rfl,?_⟩;conv=>whnf
 refine⟨by show(nl a.d&&ah)=ah;rw[a.wD];rfl,a,rfl,ok.wf,so,?_⟩;cases e:a.are with
 |false=>exact⟨ae rfl,rfl,q e⟩
 |true=>
  cases a with
  |lst c=>
   obtain⟨o,r⟩:=m c rfl e;obtain⟨z,g,-⟩:=yr e;have j:∀p∈c,∀x∈p.rows,x.good=ah:=λp b=>(ok.1 p b).2;have l:∀p∈c,p.rows.length<=400:=λp b=>Bd e b;clear io;refine UN g j l (o1:=ao) (o2:=ao) (o3:=ao) (λn i h=>?_) λs o1 o2 o3=>?_
   ·exact⟨rfl,o n i h⟩
   ·obtain⟨f,rfl⟩:=CZ g s;obtain⟨u,v⟩:=r f rfl;rw[bN,show(f.map (Px.d∘mD))=f.map Ry from eZ λp _=>Rz p];refine UO (λp b x w=>?_) (λp b=>?_) (λn i h=>?_) λy o1 o2 o3=>?_
    ·exact j (mD p) (cE b) (.ok x) (cE w)
    ·have:=l (mD p) (cE b);rw[show(mD p).rows=p.2.map Rx.ok from rfl,ap] at this;exact this
    ·exact⟨rfl,u n i h⟩
    ·exact⟨ae rfl,rfl,v y⟩
  |_=>cases e
end pI
namespace pI
open PySem PySem.Spec PyProof.Rows.KTD L2 L3 FJ
structure LF(K:W.Frag)(P C BP BR NE TW:aj)(b1 b2 b3:Bool):Prop where
 sub:MS K C P
 get:F8 K C
 k1:W.kitOne K (.ref C) (.ref BP)=aa b1
 k2:W.kitOne K (.ref C) (.ref BR)=aa b2
 k3:W.kitOne K (.ref C) (.ref NE)=aa b3
 k4:W.kitOne K (.ref C) (.ref TW)=aa am
structure LN(K:W.Frag)(C:aj):Prop where
 n1:kx K C "part"
 n2:kx K C "row"
structure LX(K:W.Frag)(P BP BR NE TW:aj):Prop where
 fb:LF K P BP BP BR NE TW ah am am
 fr:LF K P BR BP BR NE TW am ah am
 fn:LF K P NE BP BR NE TW am am ah
 nr:LN K BR
 nn:LN K NE
noncomputable def zD(c:CA):GP:=λds Q=>∃a:Ax,ds=[a.d]/\a.ok/\(a.are=am->Q (.tup [W3 "parts" "" 0,.non]))/\∀e,a=.lst e->a.are=ah->(∀n i,qo e=aa (n,i)->Q (.tup [W3 "row" n i,.non]))/\
 ∀b:List Pt,e=b.map mD->(∀n i,tT b=aa (n,i)->Q (.tup [W3 "end" n i,.non]))/\(tT b=ao->Q (.tup [W3 "told" "" 0,.lst (b.map (Q2 c))]))
theorem EU{c:CA}:jo (zD c):=λds P Q w ⟨a,j,l,m,b⟩=>⟨a,j,l,λe=>w _ (m e),λf e e'=>⟨λn i e2=>w _ ((b f e e').1 n i e2),λg h=>⟨λn i e2=>w _ (((b f e e').2 g h).1 n i e2),λe2=>w _ (((b f e e').2 g h).2 e2)⟩⟩⟩
theorem RA{K:W.Frag}{c:CA}{P g j NE m:aj}(b:LX K P g j NE m):∀ds Q,zD c ds Q->kf 5 1 (A8 K P (uK c g j NE) m NE j g) ds Q:=λds Q ⟨a,h,ok,q,p⟩=>by
 subst h;refine⟨rfl,?_⟩;conv=>whnf
 refine⟨ae rfl,?_⟩;conv=>whnf
 simp only [lm,aR,cO,cW,bc,aw,aV,aY,fV,fX,aP,aU];refine⟨by show(nl a.d&&ah)=ah;rw[a.wD];rfl,a,rfl,ok,λe=>?_,λr ea e=>?_⟩
 ·have q:=q e;have f:=b.fb;refine⟨f.sub,?_⟩;conv=>whnf
  refine⟨ae rfl,?_⟩;simp only [aP,aU];conv=>whnf
  refine⟨_,f.get,f.k1,_,f.get,f.k2,_,f.get,f.k3,_,f.get,f.k4,?_⟩;conv=>whnf
  refine⟨ae rfl,?_⟩;simp only [aP,aU];conv=>whnf
  refine⟨ae rfl,?_⟩;conv=>whnf
  refine⟨⟨rfl,rfl,ae rfl,ae rfl⟩,?_⟩;conv=>whnf
  refine⟨ae rfl,?_⟩;simp only [aP,aU];conv=>whnf
  refine⟨ae rfl,?_⟩;conv=>whnf
  refine⟨⟨rfl,rfl,ae rfl,ae rfl⟩,?_⟩;conv=>whnf
  refine⟨ae rfl,?_⟩;conv=>whnf
  refine⟨⟨rfl,rfl,ae rfl,ae rfl⟩,?_⟩;conv=>whnf
  exact⟨ae rfl,rfl,q⟩
 ·obtain⟨s,u⟩:=p r ea e;refine⟨λw i l=>?_,λo v=>?_⟩
  ·have q:=s w i l;have f:=b.fr;have n:=b.nr;refine⟨f.sub,?_⟩;conv=>whnf
   refine⟨ae rfl,?_⟩;simp only [aP,aU];conv=>whnf
   refine⟨_,f.get,f.k1,_,f.get,f.k2,_,f.get,f.k3,_,f.get,f.k4,?_⟩;conv=>whnf
   refine⟨ae rfl,?_⟩;simp only [aP,aU];conv=>whnf
   refine⟨ae rfl,?_⟩;conv=>whnf
   refine⟨⟨rfl,rfl,ae rfl,ae rfl⟩,?_⟩;conv=>whnf
   refine⟨ae rfl,?_⟩;conv=>whnf
   refine⟨⟨rfl,rfl,ae rfl,ae rfl⟩,?_⟩;conv=>whnf
   refine⟨f.get,n.n1,_,rfl,f.get,n.n2,_,rfl,?_⟩;conv=>whnf
   refine⟨ae rfl,?_⟩;simp only [aP,aU];conv=>whnf
   refine⟨ae rfl,?_⟩;conv=>whnf
   refine⟨⟨rfl,rfl,ae rfl,ae rfl⟩,?_⟩;conv=>whnf
   exact⟨ae rfl,rfl,q⟩
  ·obtain⟨x,y⟩:=u o v;refine⟨λw i l=>?_,λz=>?_⟩
   ·have q:=x w i l;have f:=b.fn;have n:=b.nn;refine⟨f.sub,?_⟩;conv=>whnf
    refine⟨ae rfl,?_⟩;simp only [aP,aU];conv=>whnf
    refine⟨_,f.get,f.k1,_,f.get,f.k2,_,f.get,f.k3,_,f.get,f.k4,?_⟩;conv=>whnf
    refine⟨ae rfl,?_⟩;simp only [aP,aU];conv=>whnf
    refine⟨ae rfl,?_⟩;conv=>whnf
    refine⟨⟨rfl,rfl,ae rfl,ae rfl⟩,?_⟩;conv=>whnf
    refine⟨ae rfl,?_⟩;conv=>whnf
    refine⟨⟨rfl,rfl,ae rfl,ae rfl⟩,?_⟩;conv=>whnf
    refine⟨ae rfl,?_⟩;conv=>whnf
    refine⟨⟨rfl,rfl,ae rfl,ae rfl⟩,?_⟩;conv=>whnf
    refine⟨f.get,n.n1,_,rfl,f.get,n.n2,_,rfl,?_⟩;conv=>whnf
    refine⟨ae rfl,?_⟩;simp only [aP,aU];conv=>whnf
    exact⟨ae rfl,rfl,q⟩
   ·have q:=y z;exact⟨ae rfl,by
     show(ah&&(kI (o.map (Q2 c))&&ah))=ah;rw[LK];rfl,q⟩
end pI
namespace pI
open PySem PySem.Spec PyProof.Rows.KTD L2 L3 FJ
mutual
theorem Hx:∀d:D,L3.pl d=ah->x8 d d=ah
 |.non,_=>rfl
 |.bl b,_=>by unfold x8;simp
 |.int i,_=>by unfold x8;simp
 |.str x,_=>by unfold x8;simp
 |.tup ds,h=>by unfold x8;unfold L3.pl at h;exact qQ ds h
 |.lst ds,h=>by unfold x8;unfold L3.pl at h;exact qQ ds h
 |.ty _,h=>by unfold L3.pl at h;cases h
 |.lV _ _,h=>by unfold L3.pl at h;cases h
 |.ins _ _ _,h=>by unfold L3.pl at h;cases h
 |.qc _,h=>by unfold L3.pl at h;cases h
 |.loc _,h=>by unfold L3.pl at h;cases h
 |.cls _,h=>by unfold L3.pl at h;cases h
 |.exc _ _ _,h=>by unfold L3.pl at h;cases h
theorem qQ:∀ds:List D,L3.sJ ds=ah->zd ds ds=ah
 |[],_=>rfl
 |d::ds,h=>by unfold zd;unfold L3.sJ at h;rw[aH] at h;rw[Hx d h.1,qQ ds h.2];rfl
end
theorem UQ{ds:List D}{M:Ms}{Q:DK}(a:L3.sJ ds=ah)(hd:sG ds<=50)(q:Q (.bl am) M):ze (.lst ds) (.lst ds) M Q:=by refine⟨⟨a,a,by show sG ds+1<=60;omega,by show sG ds+1<=60;omega⟩,?_⟩;show Q (.bl (!zd ds ds)) M;rw[qQ ds a];exact q
theorem eq_self{ds:List D}{M:Ms}{Q:DK}(a:L3.sJ ds=ah)(hd:sG ds<=50)(q:Q (.bl ah) M):mF (.lst ds) (.lst ds) M Q:=by refine⟨⟨a,a,by show sG ds+1<=60;omega,by show sG ds+1<=60;omega⟩,?_⟩;show Q (.bl (zd ds ds)) M;rw[qQ ds a];exact q
noncomputable def qR:GP:=λds Q=>∃a:Ax,ds=[a.d]/\a.ok/\a.NK/\Q (.bl ah)
theorem B8:jo qR:=λds P Q w ⟨a,b,c,e,q⟩=>⟨a,b,c,e,w _ q⟩
theorem aba{w n:ay}{i:Nat}{M:Ms}{Q:DK}(hw:bZ w=ah)(hn:bZ n=ah)(q:Q (.bl am) M):ze (W3 w n i) (W3 w n i) M Q:=by
 have z:L3.pl (W3 w n i)=ah:=by show(bZ w&&(bZ n&&ah))=ah;rw[hw,hn];rfl
 refine⟨⟨z,z,ae rfl,ae rfl⟩,?_⟩;show Q (.bl (!x8 (W3 w n i) (W3 w n i))) M;rw[Hx _ z];exact q
theorem LS:∀{a:List Px} {n:ay} {i:Nat},qo a=aa (n,i)->∃p∈a,n=p.nm
 |p::a,n,i,h=>by
  unfold qo at h;cases e:nM p.rows with
  |some k=>rw[e] at h;cases h;exact⟨p,aC,rfl⟩
  |none=>rw[e] at h;obtain⟨b,c,f⟩:=LS h;exact⟨b,av _ c,f⟩
theorem LU:∀{a:List Pt} {n:ay} {i:Nat},tT a=aa (n,i)->∃p∈a,n=p.1
 |p::a,n,i,h=>by
  unfold tT at h;cases e:jZ p.2 with
  |some k=>rw[e] at h;cases h;exact⟨p,aC,rfl⟩
  |none=>rw[e] at h;obtain⟨b,c,f⟩:=LU h;exact⟨b,av _ c,f⟩
theorem RC{p:Px}(h:p.is=ah):bZ p.nm=ah:=by rw[Px.B7 h] at h;have h:(nC p.nm&&_&&_)=ah:=h;rw[aH,aH] at h;exact uM h.1.1
theorem Hy{a b:List Pt}(h:a.map mD=b.map mD):a=b:=by
 refine(List.map_inj_right ?_).mp h
 rintro⟨n,r⟩ ⟨c,f⟩ e
 have e:Px.two (.s n) (.lst (r.map Rx.ok))=Px.two (.s c) (.lst (f.map Rx.ok)):=e;injection e with e1 e2;injection e1 with e1;injection e2 with e2;subst e1;rw[(List.map_inj_right (λx y z=>by injection z)).mp e2]
theorem RD:∀{jP:List Pt},(∀p∈jP.map mD,p.is=ah)->L3.sJ (jP.map λp=>D.str p.1)=ah/\sG (jP.map λp=>D.str p.1)<=1
 |[],_=>⟨rfl,bJ _⟩
 |p::jP,a=>by obtain⟨b,c⟩:=RD (jP:=jP) λp e=>a p (av _ e);rw[aR];unfold L3.sJ sG;rw[b];exact⟨by show(bZ p.1&&ah)=ah;rw[show bZ p.1=ah from RC (a (mD p) aC)];rfl,Nat.max_le.mpr ⟨bJ _,c⟩⟩
theorem RE:∀{jP:List Pt},(∀p∈jP.map mD,p.wf/\∀x∈p.rows,x.good=ah)->L3.sJ (jP.map λp=>D.lst (p.2.map Rw.d))=ah/\sG (jP.map λp=>D.lst (p.2.map Rw.d))<=3
 |[],_=>⟨rfl,bJ _⟩
 |p::jP,ok=>by obtain⟨a,b⟩:=RE (jP:=jP) (λp c=>ok p (av _ c));obtain⟨e,g⟩:=Rt (xs:=p.2) λx f=>(ok (mD p) aC).2 (.ok x) (cE f);rw[aR];unfold L3.sJ sG;rw[a];exact⟨by show(L3.sJ (p.2.map Rw.d)&&ah)=ah;rw[e];rfl,Nat.max_le.mpr ⟨by show sG (p.2.map Rw.d)+1<=3;omega,b⟩⟩
theorem NM{K:W.Frag}{c:CA}:∀ds Q,qR ds Q->kf 3 1 (tR K (cl (zD c)) (cl ET) (rF c)) ds Q:=λds Q ⟨a,h,ok,so,q⟩=>by
 subst h;have we:=@aba;have ns:=@UQ;have es:=@eq_self;unfold tR;generalize ze=M at we ns ⊢;generalize mF=ge at es ⊢;have na:kI [a.d]=ah:=by show(nl a.d&&ah)=ah;rw[a.wD];rfl
 refine⟨rfl,?_⟩;conv=>whnf
 simp only [lm,aR,cO,cW,bc,aw,aV,aY,fV,fX,aP,aU];refine⟨na,a,rfl,ok,λe=>?_,λI ea e=>⟨λw i j=>?_,λo G=>⟨λw i j=>?_,λA=>?_⟩⟩⟩
 ·conv=>whnf
  refine⟨rfl,?_⟩;conv=>whnf
  refine⟨rfl,?_⟩;simp only [aP,aU];conv=>whnf
  refine⟨na,a,rfl,ok,so,λ_=>?_,λI _ e'=>absurd (e.symm.trans e') (by decide)⟩;refine we (ki rfl) (ki rfl) ?_;exact⟨rfl,q⟩
 ·subst ea;obtain⟨-,s,-⟩:=yr e;obtain⟨p,g,rfl⟩:=LS j;conv=>whnf
  refine⟨rfl,?_⟩;conv=>whnf
  refine⟨rfl,?_⟩;simp only [aP,aU];conv=>whnf
  refine⟨na,_,rfl,ok,so,λe'=>absurd (e'.symm.trans e) (by decide),λH l e'=>⟨λy z b=>?_,λu v=>?_⟩⟩
  ·cases l;cases j.symm.trans b;exact we (ki rfl) (RC (s p g)) ⟨rfl,q⟩
  ·cases l;subst v;rw[zB] at j;cases j
 ·subst ea;subst G;obtain⟨-,s,-⟩:=yr e;obtain⟨p,g,rfl⟩:=LU j;conv=>whnf
  refine⟨rfl,?_⟩;conv=>whnf
  refine⟨rfl,?_⟩;simp only [aP,aU];conv=>whnf
  refine⟨na,_,rfl,ok,so,λe'=>absurd (e'.symm.trans e) (by decide),λH l e'=>⟨λy z b=>?_,λu v=>?_⟩⟩
  ·cases l;rw[zB] at b;cases b
  ·cases l;have hm:=RC (s (mD p) (cE g));have m:=Hy v;subst m;refine⟨λy z b=>?_,λA=>?_⟩
   ·cases j.symm.trans b;exact we (ki rfl) hm ⟨rfl,q⟩
   ·rw[A] at j;cases j
 ·subst ea;subst G;obtain⟨x,s,-⟩:=yr e;conv=>whnf
  refine⟨rfl,?_⟩;conv=>whnf
  refine⟨rfl,?_⟩;simp only [aP,aU];conv=>whnf
  refine⟨na,_,rfl,ok,so,λe'=>absurd (e'.symm.trans e) (by decide),λH l e'=>⟨λy z b=>?_,λu v=>?_⟩⟩
  ·cases l;rw[zB] at b;cases b
  ·cases l;have m:=Hy v;subst m;refine⟨λy z b=>?_,λ_=>?_⟩
   ·rw[A] at b;cases b
   ·refine we (ki rfl) (ki rfl) ?_;rw[show(Ax.lst (o.map mD)).d=.lst (o.map Ry) by show D.lst _=_;rw[bN,show(o.map (Px.d∘mD))=o.map Ry from eZ λp _=>Rz p]];have N:o.length<=12:=by rw[ap] at x;exact x
    have J:∀p∈o,p.2.length<=400:=λp g=>by have:=Bd e (cE (f:=mD) g);rw[show(mD p).rows=p.2.map Rx.ok from rfl,ap] at this;exact this
    conv=>whnf
    refine⟨ah,rfl,?_⟩;conv=>whnf
    refine⟨_,rfl,rfl,?_⟩;refine iS (Q2 c) (λp=>.str p.1) ?_ _ _ ?_ (λp g B n=>?_) ?_
    ·exact rfl
    ·rw[aY,bd];exact qO (by omega)
    ·exact⟨rfl,rfl,n _ rfl⟩
    conv=>whnf
    refine⟨_,rfl,rfl,?_⟩;refine iS Ry (λp=>.str p.1) ?_ _ _ ?_ (λp g B n=>?_) ?_
    ·exact rfl
    ·rw[aY,bd];exact qO (by omega)
    ·exact⟨rfl,rfl,n _ rfl⟩
    have NN:=RD s;rw[bc];refine ns NN.1 (by omega) ?_;conv=>whnf
    refine⟨_,rfl,rfl,?_⟩;refine iS (Q2 c) (λp=>.lst (p.2.map Rw.d)) ?_ _ _ ?_ (λp g B n=>?_) ?_
    ·exact rfl
    ·rw[aY,bd];exact qO (by omega)
    ·refine⟨rfl,rfl,?_⟩;conv=>whnf
     refine⟨_,rfl,rfl,?_⟩;refine iS (Rw.ins c) Rw.d ?_ _ _ ?_ (λr O L C=>?_) ?_
     ·exact rfl
     ·rw[aY,bd];exact qO (by have:=J p g;omega)
     ·exact⟨_,_,_,_,rfl,rfl,⟨r.kn,rfl,rfl⟩,by show(nl (r.ins c)&&ah)=ah;rw[r.nli];rfl,r,rfl,rfl,C _ rfl⟩
     ·exact n _ rfl
    conv=>whnf
    refine⟨_,rfl,rfl,?_⟩;refine iS Ry (λp=>.lst (p.2.map Rw.d)) ?_ _ _ ?_ (λp g B n=>?_) ?_
    ·exact rfl
    ·rw[aY,bd];exact qO (by omega)
    ·exact⟨rfl,rfl,n _ rfl⟩
    have E:=RE ok.1;rw[bc];refine es E.1 (by omega) ?_;exact⟨rfl,q⟩
end pI
namespace pI
open PySem PySem.Spec PyProof.Rows.KTD L2 L3 FJ
noncomputable def EV:GP:=λds Q=>∃n:Int,ds=[.int n]/\0<=n/\n<1000/\∀r:Rw,r.ok=ah->Q r.d
theorem Hz:jo EV:=λds P Q w ⟨a,b,c,e,q⟩=>⟨a,b,c,e,λr h=>w _ (q r h)⟩
theorem VZ{n:Int}:i9 n 20:=by unfold i9;omega
theorem abd{n:Int}:i9 n 80:=by unfold i9;omega
noncomputable def HA(b c n:Int)(m:Bool):List Rw:=[.mark "go" m,.set b n,.add b c,.take b c,.say b,.ask b,.jump "go",.jumpif b "go",.call "go",.back,.stop,.load b c "nu",.jumpby b "ta",.alike b "go" "nu",.numbers [n,b],.table ["go"],.mark "up" am,.say c,.jump "up",.stop]
theorem RG{b c n:Int}{m:Bool}(a:uV b=ah)(f:uV c=ah)(hn:Sa n=ah):∀r∈HA b c n m,r.ok=ah:=by
 have g:nC "go"=ah:=by decide+kernel
 have h:nC "nu"=ah:=by decide+kernel
 have i:nC "ta"=ah:=by decide+kernel
 have j:nC "up"=ah:=by decide+kernel
 have e:Sa b=ah:=by unfold uV at a;unfold Sa;simp at a ⊢;omega
 rw[<-bM];simp only [HA,cT,List.all_nil,Rw.ok,a,f,hn,e,g,h,i,j,Bool.and_true,aV,aY];rfl
theorem UR:∀ds Q,EV ds Q->kf 4 1 CT ds Q:=λds Q ⟨n,h,o,n1,q⟩=>by
 subst h;refine⟨rfl,?_⟩;conv=>whnf
 refine⟨VZ,(show(0:Int)<4 by decide),abd,(show(0:Int)<4 by decide),?_⟩;simp only [lm,aR,cO,cW,bc,aw,aV,aY,fV,fX,aP,aU];conv=>whnf
 refine⟨VZ,(show(0:Int)<2 by decide),?_⟩;have e:uV (n/20%4)=ah:=by unfold uV;simp;omega
 have f:uV (n/80%4)=ah:=by unfold uV;simp;omega
 have hn:Sa n=ah:=by unfold Sa;simp;omega
 have i:0<=n%20/\n%20<20:=by omega
 generalize n/20%4=b at e ⊢;generalize n/80%4=c at f ⊢;generalize n/20%2=m;conv=>whnf
 repeat (refine⟨ae rfl,?_⟩;conv=>whnf)
 simp only [aP,aU];repeat (refine⟨ae rfl,?_⟩;conv=>whnf)
 have hm:=RG (m:=n/20%2==0) e f hn;refine⟨(show(0:Int)<20 by decide),?_⟩;obtain⟨k,j⟩:∃k:Nat,n%20=(k:Int):=⟨(n%20).toNat,by omega⟩;have l:k<(HA b c n (n/20%2==0)).length:=by show k<20;omega
 obtain⟨r,g⟩:∃r,(HA b c n (n/20%2==0))[k]?=aa r:=⟨_,aZ l⟩;rw[j];show km (.lst ((HA b c n (n/20%2==0)).map Rw.d)) (.int (k:Int)) [] _;refine⟨r.d,rG (by rw[bA,g];rfl),?_⟩;have a:fz [] r.d=r.d:=by cases r<;>rfl
 show nl (fz [] r.d)=ah/\Q (fz [] r.d);rw[a];exact⟨r.wD,q r (hm r (bw g))⟩
end pI
namespace pI
open PySem PySem.Spec PyProof.Rows.KTD L2 L3 FJ
noncomputable def EW:GP:=λds Q=>∃rs:List Rw,ds=[.lst (rs.map Rw.d)]/\(∀r∈rs,r.ok=ah)/\1<=rs.length/\rs.length<=60/\∀a:List Rw,(∀r∈a,r.ok=ah)->a.length=rs.length->Q (.lst (a.map Rw.d))
theorem HB:jo EW:=λds P Q w ⟨a,b,c,e,f,q⟩=>⟨a,b,c,e,f,λr h g=>w _ (q r h g)⟩
theorem Ym(k a b:ay):VD (.str k) (.tup [.str a,.str b])=aa ((a==k)||((b==k)||false)):=rfl
theorem US{xs:List D}{Q:DK}(a:L3.sJ xs=ah)(hd:sG xs<=50)(q:Q (.bl (!xs.isEmpty)) [aa (.lst xs)]):ze (.loc 0) (.lst []) [aa (.lst xs)] Q:=by
 refine⟨⟨a,rfl,by show sG xs+1<=60;omega,ae rfl⟩,?_⟩;cases xs with
 |nil=>exact q
 |cons x xs=>exact q
theorem C1{t1:DT}{X:D}{E:jW}{rs:List Rw}{L:D}{r:Rw}(iJ:∀r∈rs,r.ok=ah)(f:∀Q:Bool->Ms->Prop,(∀b,Q b [aa (.lst (rs.map Rw.d))])->t1 [aa L,aa (.loc 0),aa r.d] [aa (.lst (rs.map Rw.d))] Q)
(c:DE)(g:∀Q:DK,Q X [aa (.lst (rs.map Rw.d))]->c [aa L,aa (.loc 0),aa r.d] [aa (.lst (rs.map Rw.d))] Q)
(a:E.nx [aa L,aa (.loc 0),aa r.d] [aa (.lst (rs.map Rw.d))])(h:E.nx [aa L,aa (.loc 0),aa X] [aa (.lst (rs.map Rw.d))]):
  iB (wR t1 (wR (gK (gR ze (gv 1) (ie (iP gB)))) (gK (iM (cl sd) (gu (gR km (gv 1) (FH (dC (.int 1)))) gB))))) (iD 2 c) ia E [aa L,aa (.loc 0),aa r.d] [aa (.lst (rs.map Rw.d))]:=by
 obtain⟨i,n⟩:=Rt iJ;refine f _ λb=>?_;cases b with
 |false=>exact a
 |true=>
  refine⟨bJ _,?_⟩;refine US i (by omega) ?_;rcases List.eq_nil_or_concat rs with e|⟨pre,l,e⟩
  ·subst e;exact a
  ·rw[List.concat_eq_append] at e;subst e;have j:((pre++[l]).map Rw.d).isEmpty=am:=by rw[bD];simp
   rw[j];have m:vC ((pre++[l]).map Rw.d) (-1)=aa l.d:=by rw[bD];exact Fj _ _
   refine⟨l.d,m,by show(nl l.d&&ah)=ah;rw[l.wD];rfl,l,rfl,?_⟩;cases l.vQ with
   |false=>exact a
   |true=>exact g _ h
theorem UT(n:Nat):E4 (n+1) (-1)=aa n:=by unfold E4;rw[if_neg (by omega),if_pos (by omega)];congr 1;omega
theorem UU:∀ds Q,EW ds Q->kf 3 1 (vn (cl sd)) ds Q:=λds Q ⟨rs,h,ok,l1,C,q⟩=>by
 subst h;refine⟨rfl,?_⟩;conv=>whnf
 refine⟨bJ _,?_⟩;conv=>whnf
 refine⟨_,rfl,rfl,?_⟩;refine l5 (λj s M=>∃(a:List Rw) (o:Option D),a.length=j/\(∀r∈a,r.ok=ah)/\M=[aa (.lst (a.map Rw.d))]/\s=[aa (.lst (rs.map Rw.d)),aa (.loc 0),o]) (λ_ _ _ ⟨_,_,_,_,e,_⟩=>by rw[e];rfl) _ 0 _ _ ⟨[],ao,rfl,λ_ h=>by simp at h,rfl,rfl⟩ (λj d s M g u N G=>?_) (λs M u=>?_)
 ·obtain⟨a,o,i,f,rfl,rfl⟩:=u;obtain⟨r,v,rfl⟩:=qV g;have b:=ok r (bw v);have J:j<rs.length:=(aB.mp v).1;show(gY _ _) _ [aa (.lst (rs.map Rw.d)),aa (.loc 0),aa r.d] _;have m:∀(E:jW) (r:Rw),E.nx=N->r.ok=ah->(u4 (Pf "list" nt (gv 1) (gu (gv 2) gB))) E [aa (.lst (rs.map Rw.d)),aa (.loc 0),aa r.d] [aa (.lst (a.map Rw.d))]:=λE r p b=>by
   obtain⟨nx,_,_,_⟩:=E;subst p;refine⟨rfl,_,rfl,?_,G _ _ ⟨a++[r],_,?_,λx g=>?_,?_,rfl⟩⟩
   ·rw[ap];exact bg (show a.length<1000 by omega) (by decide)
   ·rw[bL];show a.length+1=_;omega
   ·rcases bp.mp g with h|h
    ·exact f x h
    ·simp at h;subst h;exact b
   ·rw[bD];rfl
  have w:∀(E:jW) (r:Rw),E.nx=N->r.ok=ah->(gY (iB (wR (gK (gR mF (gR km (gv 2) (dC (.int 0))) (dC (.str "mark")))) (wR (gK (gR ze (gv 1) (ie (iP gB)))) (gK (iM (cl sd) (gu (gR km (gv 1) (FH (dC (.int 1)))) gB))))) (iD 2 (hW (gu (dC (.str "say")) (gu (dC (.int 0)) gB)))) ia)
 (u4 (Pf "list" nt (gv 1) (gu (gv 2) gB)))) E [aa (.lst (rs.map Rw.d)),aa (.loc 0),aa r.d] [aa (.lst (a.map Rw.d))]:=λE r p b=>by refine C1 f (X:=(Rw.say 0).d) (λQ c=>?_) _ (λQ c=>⟨ae rfl,c⟩) (m E r p b) (m E (.say 0) p rfl);cases r<;>exact⟨_,rfl,c _⟩
  refine C1 f (X:=Rw.back.d) (λQ c=>?_) _ (λQ c=>⟨ae rfl,c⟩) (w _ r rfl b) (w _ .back rfl rfl);cases r<;>exact⟨_,rfl,ae rfl,_,Ym _ _ _,c _⟩
 ·obtain⟨a,o,i,f,rfl,rfl⟩:=u;rw[bd,ap] at i;rcases List.eq_nil_or_concat a with e|⟨pre,l,e⟩
  ·subst e;simp at i;omega
  ·rw[List.concat_eq_append] at e;subst e;have y:vC ((pre++[l]).map Rw.d) (-1)=aa l.d:=by rw[bD];exact Fj _ _
   have H:kI [l.d]=ah:=by show(nl l.d&&ah)=ah;rw[l.wD];rfl
   have z:∀r:Rw,r.ok=ah->nl (.lst ((pre++[r]).map Rw.d))=ah/\Q (.lst ((pre++[r]).map Rw.d)):=λr b=>⟨kU Rw.wD _,q _ (λx g=>by
    rcases bp.mp g with h|h
    ·exact f x (b8 _ h)
    ·simp at h;subst h;exact b) (by rw[bL] at i ⊢;exact i)⟩
   have I:=z l (f l (by simp));have A:=z .stop rfl;have B:E4 ((pre++[l]).map Rw.d).length (-1)=aa pre.length:=by rw[ap,bL];exact UT _
   have n:((pre++[l]).map Rw.d).set pre.length Rw.stop.d=(pre++[Rw.stop]).map Rw.d:=by rw[bD,bD,List.set_append_right _ _ (by rw[ap];exact bf _),ap,Nat.sub_self];rfl
   conv=>whnf
   refine⟨l.d,y,?_⟩;simp only [dC];refine UJ l ?_;refine aa5 rfl ?_;cases LR l=="mark" with
   |true=>
    refine⟨ae rfl,pre.length,B,?_⟩;show nl (.lst (((pre++[l]).map Rw.d).set pre.length Rw.stop.d))=ah/\Q (.lst (((pre++[l]).map Rw.d).set pre.length Rw.stop.d));rw[n];exact A
   |false=>
    refine⟨l.d,y,H,l,rfl,?_⟩;cases l.vQ with
    |false=>exact I
    |true=>
     refine⟨ae rfl,pre.length,B,?_⟩;show nl (.lst (((pre++[l]).map Rw.d).set pre.length Rw.stop.d))=ah/\Q (.lst (((pre++[l]).map Rw.d).set pre.length Rw.stop.d));rw[n];exact A
end pI
namespace pI
open PySem PySem.Spec PyProof.Rows.KTD L2 L3 FJ
noncomputable def nmk(k:Nat):ay:=Txt.mul ⟨#[("abcdefghijkl":ay).cps.toList.getD ((k*5+3)%12) 97]⟩ ((1+k%3:Nat):Int)
noncomputable def NN:List ay:=(dn 12).map nmk
noncomputable def LV:GP:=λds Q=>∃(a m:Int) (k:Nat),ds=[.int a,.int k,.int m]/\k<12/\1<=m/\m<=60/\∀(w:ay) (rs:List Rw),w∈NN->(∀r∈rs,r.ok=ah)->1<=rs.length->rs.length<=60->Q (.tup [.str w,.lst (rs.map Rw.d)])
theorem Kf:jo LV:=λds P Q w ⟨a,m,k,b,c,e,f,q⟩=>⟨a,m,k,b,c,e,f,λz rs a1 a2 a3 a4=>w _ (q z rs a1 a2 a3 a4)⟩
theorem Yn(c:Nat)(n:Int)(h:n=1\/n=2\/n=3):afe ⟨#[c]⟩ n:=by
 rcases h with rfl|rfl|rfl
 ·exact⟨rfl,λ_ h=>(by cases h),λ_ h=>(by cases h)⟩
 ·exact⟨rfl,λ_ _=>(by decide:¬((1:Int)>(2^63- 1)/2)),λ_ _=>rfl⟩
 ·exact⟨rfl,λ_ _=>(by decide:¬((1:Int)>(2^63- 1)/3)),λ_ _=>rfl⟩
theorem abg{k:Nat}(b:k<12):vC ("abcdefghijkl":ay).cps.toList (((k:Int)*5+3)%12)=aa (("abcdefghijkl":ay).cps.toList.getD ((k*5+3)%12) 97):=by
 have e:(((k:Int)*5+3)%12)=(((k*5+3)%12:Nat):Int):=by omega
 rw[e];refine rG ?_;have a:(k*5+3)%12<("abcdefghijkl":ay).cps.toList.length:=by show _<12;omega
 rw[aZ a,bX,aZ a];rfl
theorem Yo{k:Nat}(a:k<12):nmk k∈NN:=cE (adf.mpr a)
theorem Yp:∀ds Q,LV ds Q->kf 6 3 (A1 (cl zu) (cl EV) (cl EW)) ds Q:=λds Q ⟨a,m,k,h,g,E,l,q⟩=>by
 subst h;refine⟨rfl,?_⟩;conv=>whnf
 refine⟨.inr (by omega),(show(0:Int)<12 by decide),ae rfl,_,abg g,(show(0:Int)<3 by decide),Yn _ _ (by omega),?_⟩;have o:(1:Int)+(k:Int)%3=((1+k%3:Nat):Int):=by omega
 rw[o];simp only [lm,aR,cO,cW,bc,aw,aV,aY,fV,fX,aP,aU];change (gY _ _) _ [_,_,_,aa (.str (nmk k)),ao,ao] _;have hw:=Yo g;generalize nmk k=w at hw ⊢;conv=>whnf
 have s:=fe (a/2) (show m≠0 by omega);have u:=eA (a/2) (show 0<m by omega);refine⟨by unfold i9;omega,by unfold i9;omega,by unfold i9;omega,(show(0:Int)<m by omega),rfl,_,_,rfl,by omega,by omega,λns hn v=>?_⟩;have x:1<=ns.length/\ns.length<=60:=by omega
 conv=>whnf
 simp only [aP,aU];conv=>whnf
 refine⟨_,rfl,by first|exact bO|rfl,?_⟩;refine yi (λd=>∃r:Rw,r.ok=ah/\d=r.d) ?_ _ _ ?_ (λd hd G y=>?_) λds z A=>?_
 ·first|exact bO|rfl
 ·rw[aY,bd,ap];exact qO (by omega)
 ·obtain⟨n,B,rfl⟩:=du.mp hd;obtain⟨C,n1⟩:=v n B;exact⟨rfl,n,rfl,C,n1,λr c=>y _ _ ⟨r,c,rfl⟩ rfl⟩
 obtain⟨rs,rfl,c⟩:=Jg (f:=Rw.d) (p:=λr=>r.ok=ah) A;rw[ap,ap] at z;rw[bc];conv=>whnf
 simp only [aP,aU];conv=>whnf
 refine⟨(show(0:Int)<2 by decide),?_⟩;have i:∀b:List Rw,(∀r∈b,r.ok=ah)->b.length=rs.length->nl (.tup [.str w,.lst (b.map Rw.d)])=ah/\Q (.tup [.str w,.lst (b.map Rw.d)]):=λb e j=>⟨by
  show(ah&&(kI (b.map Rw.d)&&ah))=ah;rw[kU Rw.wD];rfl,q w b hw e (by omega) (by omega)⟩
 show(if(a%2==0)=ah then _ else _);split
 ·exact⟨by show(kI (rs.map Rw.d)&&ah)=ah;rw[kU Rw.wD];rfl,rs,rfl,c,by omega,by omega,λb e j=>⟨ae rfl,i b e j⟩⟩
 ·exact⟨ae rfl,i rs c rfl⟩
end pI
namespace pI
open PySem PySem.Spec PyProof.Rows.KTD L2 L3 FJ
abbrev Gp:=ay×List Rx
noncomputable def Gp.px(p:Gp):Px:=.two (.s p.1) (.lst p.2)
noncomputable def Gp.dd(p:Gp):D:=.tup [.str p.1,.lst (p.2.map Rx.d)]
theorem Gp.UH(p:Gp):p.px.d=p.dd:=rfl
structure Gs(n:Nat)(ps:List Gp):Prop where
 l1:1<=ps.length
 l2:ps.length<=12
 nm:∀p∈ps,p.1∈NN
 gd:∀p∈ps,∀x∈p.2,x.good=ah
 r1:∀p∈ps,1<=p.2.length
 r2:∀p∈ps,p.2.length<=n
noncomputable def twice(c:Int):Bool:=!(c%12==2||c%12==3||c%12==4||c%12==5||c%12==6)
noncomputable def Kg(n:Nat):GP:=λds Q=>∃(b:List Gp) (c:Int),ds=[.lst (b.map Gp.dd),.int c]/\Gs n b/\∀a:Ax,a.ok->a.NK->(twice c=ah->∃e,a=.lst (e.map Gp.px)/\Gs (n+210) e)->Q a.d
theorem HC{n:Nat}:jo (Kg n):=λds P Q w ⟨a,k,b,c,q⟩=>⟨a,k,b,c,λz a1 a2 a3=>w _ (q z a1 a2 a3)⟩
noncomputable def acQ:DS:=(iB (gK (gR mF (gv 7) (dC (.int 1)))) (gY (iD 8 (gR km (ie (iP (gu (hW (gu (dC (.str "set")) (gu (dC (.int 4)) (gu (dC (.int 0)) gB)))) (gu (hW (gu (dC (.str "say")) gB)) (gu (dC .non) (gu (ie (iP (gu (dC (.str "stop")) gB))) (gu (hW (gu (dC (.str "Stop")) gB)) gB))))))) (gR (gI (λ_ j=>0<j) λi j=>.int (i%j)) (gR (gI i9 λi j=>.int (i/j)) (gv 1) (dC (.int 7))) (dC (.int 5)))))
 (oN (hW (gu (gv 3) (gu (gR iQ (gR iQ (IC (gv 4) j7 (oP (gv 5))) (ie (iP (gu (gv 8) gB)))) (IC (gv 4) (oP (gR iQ (gv 5) (dC (.int 1)))) j7)) gB))) (lK (gv 6) (gv 2)))) (iB (gK (gR mF (gv 7) (dC (.int 2)))) (oN (hW (gu (gR km (ie (iP (gu (Pf "str" Ds (gv 3) gB) (gu (dC (.str "")) (gu (gR nY (gv 3) (dC (.int 9))) (gu (dC .non) (gu (dC (.int 5)) gB))))))) (gR (gI (λ_ j=>0<j) λi j=>.int (i%j)) (gR (gI i9 λi j=>.int (i/j)) (gv 1) (dC (.int 7))) (dC (.int 5)))) (gu (gv 4) gB))) (lK (gv 6) (gv 2))) (iB (gK (gR mF (gv 7) (dC (.int 3)))) (gY (oN (hW (gu (dC (.str "a")) (gu (gv 4) gB))) (lK (gv 6) (gv 2)))
 (iD 6 (gR iQ (gv 6) (ie (iP (gu (hW (gu (dC (.str "a")) (gu (ie (iP (gu (hW (gu (dC (.str "stop")) gB)) gB))) gB))) gB)))))) (iB (gK (gR mF (gv 7) (dC (.int 4)))) (oN (hW (gu (gv 3) (gu (gR km (ie (iP (gu (ie (iP gB)) (gu (gR nY (gv 4) (dC (.int 61))) (gu (iM tu (gu (gv 4) gB)) (gu (dC .non) gB)))))) (gR (gI (λ_ j=>0<j) λi j=>.int (i%j)) (gR (gI i9 λi j=>.int (i/j)) (gv 1) (dC (.int 7))) (dC (.int 4)))) gB))) (lK (gv 6) (gv 2))) (iB (gK (gR mF (gv 7) (dC (.int 5)))) (oN (gR km (ie (iP (gu (hW (gu (gv 3) gB)) (gu (ie (iP (gu (gv 3) (gu (gv 4) gB)))) (gu (hW (gu (gv 3) (gu (gv 4) (gu (dC (.int 0)) gB)))) (gu (dC .non) gB)))))) (gR (gI (λ_ j=>0<j) λi j=>.int (i%j)) (gR (gI i9 λi j=>.int (i/j)) (gv 1) (dC (.int 7))) (dC (.int 4)))) (lK (gv 6) (gv 2))) (iB (gK (gR mF (gv 7) (dC (.int 6)))) (iD 6 (gR km (ie (iP (gu (iM tu (gu (gv 0) gB)) (gu (ie (iP gB)) (gu (dC .non) (gu (dC (.int 5)) (gu (gR nY (gv 0) (dC (.int 13))) gB))))))) (gR (gI (λ_ j=>0<j) λi j=>.int (i%j)) (gR (gI i9 λi j=>.int (i/j)) (gv 1) (dC (.int 7))) (dC (.int 5))))) (iB (gK (gR mF (gv 7) (dC (.int 7)))) (oN (hW (gu (gv 3) (gu (gR iQ (IC (gv 4) j7 (oP (gv 5))) (ie (iP (gu (hW (gu (dC (.str "say")) (gu (dC (.int 0)) gB))) gB)))) gB))) (lK (gv 6) (gv 2))) (iB (gK (gR mF (gv 7) (dC (.int 8)))) (oN (hW (gu (gv 3) (gu (gR iQ (IC (gv 4) j7 (oP (gv 5))) (ie (iP (gu (hW (gu (dC (.str "mark")) (gu (dC (.str "z")) (gu (dC (.bl ah)) gB)))) gB)))) gB))) (lK (gv 6) (gv 2))) (iB (gK (gR mF (gv 7) (dC (.int 9)))) (iD 6 (xW (iY [ao,ao] (iZ (gv 0)) (j4 2 (ib (gM 0) (ib (gM 1) j0))) lq (hW (gu (gv 0) (gu (IC (gR nY (gv 1) (dC (.int 60))) j7 (oP (dC (.int 60)))) gB)))))) (iB (gK (gR mF (gv 7) (dC (.int 10)))) (gY (iD 9 (gR nY (ie (iP (gu (hW (gu (dC (.str "mark")) (gu (dC (.str "m")) (gu (dC (.bl am)) gB)))) gB))) (gR (gI (λ_ j=>0<j) λi j=>.int (i%j)) (gR (gI i9 λi j=>.int (i/j)) (gv 1) (dC (.int 28))) (dC (.int 9)))))
 (oN (hW (gu (gv 3) (gu (gR iQ (gR iQ (gR nY (ie (iP (gu (hW (gu (dC (.str "say")) (gu (dC (.int 0)) gB))) gB))) (gR iQ (dC (.int 58)) (gR (gI (λ_ j=>0<j) λi j=>.int (i%j)) (gR (gI i9 λi j=>.int (i/j)) (gv 1) (dC (.int 7))) (dC (.int 4))))) (gv 9)) (ie (iP (gu (hW (gu (dC (.str "stop")) gB)) gB)))) gB))) (lK (gv 6) (gv 2)))) (iB (gK (gR mF (gv 7) (dC (.int 11)))) (oN (hW (gu (gv 3) (gu (gR iQ (gR nY (ie (iP (gu (hW (gu (dC (.str "mark")) (gu (dC (.str "m")) (gu (dC (.bl am)) gB)))) gB))) (gR (K5 λi j=>.int (i- j)) (dC (.int 201)) (gR (gI (λ_ j=>0<j) λi j=>.int (i%j)) (gR (gI i9 λi j=>.int (i/j)) (gv 1) (dC (.int 7))) (dC (.int 40))))) (gv 4)) gB))) (lK (gv 6) (gv 2))) ia)))))))))))
noncomputable def abh(S:DS):DS:=(gY (iD 2 (gR (gI (λ_ j=>0<j) λi j=>.int (i%j)) (gR (gI i9 λi j=>.int (i/j)) (gv 1) (dC (.int 12))) (iM lu (gu (gv 0) gB))))
 (gY (oN (gR km (gv 0) (gv 2)) (j4 2 (ib (gM 3) (ib (gM 4) j0))))
 (gY (iD 5 (gR (gI (λ_ j=>0<j) λi j=>.int (i%j)) (gR (gI i9 λi j=>.int (i/j)) (gv 1) (dC (.int 144))) (iM lu (gu (gv 4) gB))))
 (gY (iD 6 (xW (Xj x9 (gu (gv 0) gB))))
 (gY (iD 7 (gR (gI (λ_ j=>0<j) λi j=>.int (i%j)) (gv 1) (dC (.int 12))))
 (gY S
 (iw (gv 6))))))))
theorem Yq:ou=abh acQ:=rfl
abbrev acR(Q:D->Prop):jW:=⟨iw (gv 6) ⟨λ_ _=>Q .non,λd a=>nl (fz a d)=ah/\Q (fz a d),λ_ _=>False,λ_ _=>False⟩,λd a=>nl (fz a d)=ah/\Q (fz a d),λ_ _=>False,λ_ _=>False⟩
theorem RI{S:DS}{a:List Gp}{c:Int}{Q:D->Prop}(l1:1<=a.length)(l2:a.length<=12)(r1:∀p∈a,1<=p.2.length)(r2:∀p∈a,p.2.length<=2000)
(H:∀(i:Nat) (p:Gp) (k:Nat),a[i]?=aa p->k<p.2.length->S (acR Q) [aa (.lst (a.map Gp.dd)),aa (.int c),aa (.int i),aa (.str p.1),aa (.lst (p.2.map Rx.d)),aa (.int k),aa (.loc 0),aa (.int (c%12)),ao,ao] [aa (.lst (a.map Gp.dd))]):
  kf 10 2 (abh S) [.lst (a.map Gp.dd),.int c] Q:=by
 refine⟨rfl,?_⟩;conv=>whnf
 refine⟨by unfold i9;omega,_,rfl,(show(0:Int)<_ by rw[ap];omega),?_⟩;rw[ap];obtain⟨i,hi⟩:∃i:Nat,c/12%(a.length:Int)=(i:Int):=⟨(c/12%(a.length:Int)).toNat,by have:=fe (c/12) (show(a.length:Int)≠0 by omega);omega⟩;have b:i<a.length:=by have:=eA (c/12) (show 0<(a.length:Int) by omega);omega
 simp only [hi];obtain⟨p,e⟩:∃p,a[i]?=aa p:=⟨_,aZ b⟩;have mp:=bw e;have g:vC (a.map Gp.dd) (i:Int)=aa p.dd:=rG (by rw[bA,e];rfl);have a1:=r1 p mp;have a2:=r2 p mp;simp only [lm,aR,cO,cW,bc,aw,aV,aY,fV,fX,aP,aU];conv=>whnf
 refine⟨_,g,?_⟩;conv=>whnf
 refine⟨rfl,?_⟩;conv=>whnf
 refine⟨rfl,?_⟩;simp only [aP,aU];conv=>whnf
 refine⟨by unfold i9;omega,_,rfl,(show(0:Int)<_ by rw[ap];omega),?_⟩;rw[ap];obtain⟨k,h⟩:∃k:Nat,c/144%(p.2.length:Int)=(k:Int):=⟨(c/144%(p.2.length:Int)).toNat,by have:=fe (c/144) (show(p.2.length:Int)≠0 by omega);omega⟩;have f:k<p.2.length:=by have:=eA (c/144) (show 0<(p.2.length:Int) by omega);omega
 simp only [h];simp only [aP,aU];conv=>whnf
 exact⟨(show(0:Int)<12 by decide),H i p k e f⟩
theorem Bh:∀w∈NN,w.length<=8/\(∀c∈w.cps.toList,c<0x110000)/\∀c∈(Txt.upper w).cps.toList,c<0x110000:=by decide+kernel
theorem Yr{n i:Nat}(h:i<n):E4 n (i:Int)=aa i:=by unfold E4;rw[if_pos (by omega),if_pos (by omega)];congr 1
theorem Gs.ax{n:Nat}(hn:n<=1000){c:List Gp}(g:Gs n c):(Ax.lst (c.map Gp.px)).ok/\(Ax.lst (c.map Gp.px)).NK:=by
 refine⟨⟨λp e=>?_,?_⟩,λp e=>?_⟩
 ·obtain⟨p,mp,rfl⟩:=du.mp e;have a:=Bh _ (g.nm p mp);have b:=g.r2 p mp;exact⟨⟨show p.1.length<=1000 by omega,show p.2.length<=big by show _<=100000;omega⟩,g.gd p mp⟩
 ·rw[ap];have:=g.l2;omega
 ·obtain⟨p,mp,rfl⟩:=du.mp e;exact(Bh _ (g.nm p mp)).2.1
theorem Gs.put{n m:Nat}{c:List Gp}{i:Nat}(g:Gs n c)(a:Gp)(hm:n<=m)(e:a.1∈NN)(f:∀x∈a.2,x.good=ah)(j:1<=a.2.length)(l:a.2.length<=m):Gs m (c.set i a):=by
 have sp:∀p∈c.set i a,p∈c\/p=a:=λp b=>c0 b;refine⟨by rw[ef];exact g.l1,by rw[ef];exact g.l2,λp b=>?_,λp b=>?_,λp b=>?_,λp b=>?_⟩<;>rcases sp p b with h|rfl
 ·exact g.nm p h
 ·exact e
 ·exact g.gd p h
 ·exact f
 ·exact g.r1 p h
 ·exact j
 ·exact aS (g.r2 p h) hm
 ·exact l
theorem Ys{xs:List Rx}{k:Nat}:cutD (xs.map Rx.d) ao (aa (k:Int))=(xs.take k).map Rx.d:=by rw[Qx,List.map_take]
theorem acS{xs:List Rx}{k:Nat}:cutD (xs.map Rx.d) (aa ((k:Int)+1)) ao=(xs.drop (k+1)).map Rx.d:=by rw[show(k:Int)+1=((k+1:Nat):Int) from rfl,AH,List.map_drop]
theorem pb{xs a:List Rx}(h:∀x∈xs,x.good=ah)(b:∀x∈a,x.good=ah):∀x∈xs++a,x.good=ah:=λx c=>by
 rcases bp.mp c with z|z
 ·exact h x z
 ·exact b x z
theorem uN{xs:List Rx}{k:Nat}(h:∀x∈xs,x.good=ah):∀x∈xs.take k,x.good=ah:=λx a=>h x (List.mem_of_mem_take a)
theorem NO{xs:List Rx}{k:Nat}(h:∀x∈xs,x.good=ah):∀x∈xs.drop k,x.good=ah:=λx a=>h x (List.mem_of_mem_drop a)
theorem tU{x:Rx}(h:x.good=ah):∀y∈[x],y.good=ah:=λy a=>by simp at a;subst a;exact h
noncomputable def UV:List Rx:=[.o0,.o1,.o2,.o3,.o4]
theorem Yt(c:Int):∃x:Rx,vC UK (c/7%5)=aa x.d/\x.good=ah:=by
 obtain⟨k,b⟩:∃k:Nat,c/7%5=(k:Int):=⟨(c/7%5).toNat,by omega⟩;have a:k<UV.length:=by show k<5;omega
 rw[b];refine⟨UV[k],rG (xs:=UV.map Rx.d) (by rw[bA,aZ a];rfl),?_⟩;have:∀x∈UV,x.good=ah:=by decide
 exact this _ (fY a)
theorem tV{n:Nat}(h:n<=100000):n<=aE:=aS h (ae rfl)
theorem y1(x:Rx)(j:Nat):(aw j [x.d]).flatten=(aw j x).map Rx.d:=by rw[List.flatten_replicate_singleton,List.map_replicate]
theorem Bi{x:Rx}{j:Nat}(h:x.good=ah):∀y∈aw j x,y.good=ah:=λy a=>by rw[d8 a];exact h
theorem RJ(xs:List Rx)(j:Nat):(aw j (xs.map Rx.d)).flatten=(aw j xs).flatten.map Rx.d:=by rw[List.map_flatten,List.map_replicate]
theorem C2{xs:List Rx}{j:Nat}(h:∀x∈xs,x.good=ah):∀y∈(aw j xs).flatten,y.good=ah:=λy a=>by obtain⟨l,b,a⟩:=List.mem_flatten.mp a;rw[d8 b] at a;exact h y a
theorem len_reps(xs:List Rx)(j:Nat):(aw j xs).flatten.length=j*xs.length:=by simp
theorem UW:∀w∈NN,afe w 9/\(Txt.mul w 9).length<=1000/\(Txt.upper w).length<=1000/\∀c∈(Txt.mul w 9).cps.toList,c<0x110000:=by unfold afe;decide+kernel
theorem RK{β:Type}(f:β->D)(L:List β)(c m:Int)(hm:0<m)(h:(L.length:Int)=m):∃b∈L,vC (L.map f) (c%m)=aa (f b):=by
 have g:=fe c (show m≠0 by omega);have i:=eA c hm;obtain⟨k,e⟩:∃k:Nat,c%m=(k:Int):=⟨(c%m).toNat,by omega⟩;have a:k<L.length:=by omega
 rw[e];exact⟨L[k],fY a,rG (by rw[bA,aZ a];rfl)⟩
theorem abi{M:Ms}(a:Ax):fz M a.d=a.d:=by
 cases a with
 |tup b=>
  show D.tup ((b.map Px.d).map (vw M))=D.tup (b.map Px.d);congr 1;rw[bN];refine eZ λp _=>?_;cases p<;>rfl
 |_=>rfl
theorem UX{n:Nat}(hn:n<=600):∀ds Q,Kg n ds Q->kf 10 2 ou ds Q:=λds Q ⟨j,c,h,g,q⟩=>by
 subst h;rw[Yq];refine RI g.l1 g.l2 g.r1 (λp w=>by have:=g.r2 p w;omega) λi p k w hk=>?_;have mp:=bw w;have il:i<j.length:=(aB.mp w).1;have pn:=g.nm p mp;have pg:=g.gd p mp;have p1:=g.r1 p mp;have p2:=g.r2 p mp;have o:E4 (j.map Gp.dd).length (i:Int)=aa i:=by rw[ap];exact Yr il
 have L:∀u:List Gp,Gs (n+210) u->nl (.lst (u.map Gp.dd))=ah/\Q (.lst (u.map Gp.dd)):=λu Y=>by
  obtain⟨a1,a2⟩:=Y.ax (by omega);have:=q _ a1 a2 λ_=>⟨u,rfl,Y⟩;have e:(Ax.lst (u.map Gp.px)).d=.lst (u.map Gp.dd):=by show D.lst _=_;rw[bN];rfl
  have z:=(Ax.lst (u.map Gp.px)).wD;rw[e] at this z;exact⟨z,this⟩
 have put:∀xs:List Rx,(∀x∈xs,x.good=ah)->1<=xs.length->xs.length<=n+210->nl (.lst ((j.map Gp.dd).set i (.tup [.str p.1,.lst (xs.map Rx.d)])))=ah/\Q (.lst ((j.map Gp.dd).set i (.tup [.str p.1,.lst (xs.map Rx.d)]))):=λxs A B C=>by have:=L _ (g.put (i:=i) (p.1,xs) (by omega) pn A B C);rw[List.map_set] at this;exact this
 have fin2:∀a:Ax,a.ok->a.NK->twice c=am->nl a.d=ah/\Q a.d:=λa A B C=>⟨a.wD,q a A B λz=>absurd (C.symm.trans z) (by decide)⟩;obtain⟨E,I⟩:=g.ax (by omega);have N:∀x:Px,x.wf->(∀r∈x.rows,r.good=ah)->x.NK->twice c=am->nl (.lst ((j.map Gp.dd).set i x.d))=ah/\Q (.lst ((j.map Gp.dd).set i x.d)):=λx A B C h4=>by
  have e:(Ax.lst ((j.map Gp.px).set i x)).d=.lst ((j.map Gp.dd).set i x.d):=by show D.lst _=_;rw[List.map_set,bN];rfl
  have:=fin2 (.lst ((j.map Gp.px).set i x)) ⟨λz f=>?_,by rw[ef];exact E.2⟩ (λz f=>?_) h4
  ·rw[e] at this;exact this
  ·rcases c0 f with h|rfl
   ·exact E.1 z h
   ·exact⟨A,B⟩
  ·rcases c0 f with h|rfl
   ·exact I z h
   ·exact C
 have G:c%12=2\/c%12=3\/c%12=4\/c%12=5\/c%12=6->twice c=am:=λh=>by unfold twice;rcases h with h|h|h|h|h<;>rw[h]<;>rfl
 have hw:c%12=0\/c%12=1\/c%12=2\/c%12=3\/c%12=4\/c%12=5\/c%12=6\/c%12=7\/c%12=8\/c%12=9\/c%12=10\/c%12=11:=by omega
 rcases hw with hw|hw|hw|hw|hw|hw|hw|hw|hw|hw|hw|hw<;>rw[hw]
 ·exact L j ⟨g.l1,g.l2,g.nm,g.gd,g.r1,λp w=>by have:=g.r2 p w;omega⟩
 ·obtain⟨x,O,gx⟩:=Yt c;conv=>whnf
  refine⟨ae rfl,ae rfl,ae rfl,ae rfl,ae rfl,by unfold i9;omega,(show(0:Int)<5 by decide),x.d,O,?_⟩;simp only [aP,aU];conv=>whnf
  rw[Ys];refine⟨ae rfl,?_,?_⟩
  ·rw[ap,cw];exact qO (by show min k p.2.length+1<=_;omega)
  conv=>whnf
  rw[acS];refine⟨?_,ae rfl,i,o,?_⟩
  ·rw[bL,ap,ap,cw,eK];exact qO (by show min k p.2.length+1+_<=_;omega)
  ·have:=put (p.2.take k++[x]++p.2.drop (k+1)) (pb (pb (uN pg) (tU gx)) (NO pg)) (by simp;omega) (by simp;omega);rw[bD,bD] at this;exact this
 ·have tc:=G (by omega);have pm:=UW _ pn;have J:=Bh _ pn;conv=>whnf
  refine⟨rfl,show p.1.length<=1000 by omega,pm.1,ae rfl,by unfold i9;omega,(show(0:Int)<5 by decide),?_⟩;obtain⟨b,m,e⟩:=RK Nm.d [.s (Txt.upper p.1),.s "",.s (Txt.mul p.1 9),.non,.Ba] (c/7) 5 (by decide) rfl;refine⟨b.d,e,ae rfl,i,o,?_⟩;refine N (.two b (.lst p.2)) ⟨?_,show p.2.length<=100000 by omega⟩ pg ?_ tc
  ·simp only [az,bi,or_false] at m;rcases m with rfl|rfl|rfl|rfl|rfl
   ·exact pm.2.2.1
   ·exact ae rfl
   ·exact pm.2.1
   ·exact bO
   ·exact bO
  ·simp only [az,bi,or_false] at m;rcases m with rfl|rfl|rfl|rfl|rfl
   ·exact J.2.2
   ·exact(show∀c∈("":ay).cps.toList,c<0x110000 by decide+kernel)
   ·exact pm.2.2.2
   ·exact bO
   ·exact bO
 ·have tc:=G (by omega);conv=>whnf
  refine⟨ae rfl,i,o,?_⟩;conv=>whnf
  refine⟨ae rfl,ae rfl,ae rfl,ae rfl,?_,?_⟩
  ·have:=g.l2;rw[ef,ap];exact tV (by show _+1<=_;omega)
  have wa:(Px.two (.s "a") (.lst p.2)).wf:=⟨ae rfl,show p.2.length<=100000 by omega⟩;have sa:∀c∈("a":ay).cps.toList,c<0x110000:=by decide+kernel
  have:=fin2 (.lst ((j.map Gp.px).set i (.two (.s "a") (.lst p.2))++[.two (.s "a") (.lst [.ok .stop])])) ⟨λz f=>?_,?_⟩ (λz f=>?_) tc
  ·rw[show(Ax.lst ((j.map Gp.px).set i (.two (.s "a") (.lst p.2))++[.two (.s "a") (.lst [.ok .stop])])).d=.lst ((j.map Gp.dd).set i (.tup [.str "a",.lst (p.2.map Rx.d)])++[.tup [.str "a",.lst [.tup [.str "stop"]]]]) by
    show D.lst _=_;rw[bD,List.map_set,bN];rfl] at this
   exact this
  ·rcases bp.mp f with h|h
   ·rcases c0 h with h|rfl
    ·exact E.1 z h
    ·exact⟨wa,pg⟩
   ·simp at h;subst h;exact⟨⟨ae rfl,show 1<=100000 by decide⟩,tU rfl⟩
  ·have:=g.l2;rw[bL,ef,ap];show _+1<=_;omega
  ·rcases bp.mp f with h|h
   ·rcases c0 h with h|rfl
    ·exact I z h
    ·exact sa
   ·simp at h;subst h;exact sa
 ·have tc:=G (by omega);have J:=Bh _ pn;conv=>whnf
  refine⟨bJ _,⟨by decide,by decide,by rw[ap];exact tV (by show _*61<=_;omega)⟩,?_⟩;conv=>whnf
  rw[RJ];refine⟨ae rfl,by unfold i9;omega,(show(0:Int)<4 by decide),?_⟩;obtain⟨b,m,e⟩:=RK Rl.d [.lst [],.lst (aw 61 p.2).flatten,.tup p.2,.non] (c/7) 4 (by decide) rfl;refine⟨b.d,e,ae rfl,i,o,?_⟩;refine N (.two (.s p.1) b) ⟨show p.1.length<=1000 by omega,?_⟩ ?_ J.2.1 tc
  ·simp only [az,bi,or_false] at m;rcases m with rfl|rfl|rfl|rfl
   ·exact bJ _
   ·show(aw 61 p.2).flatten.length<=100000;rw[len_reps];omega
   ·show p.2.length<=100000;omega
   ·exact bO
  ·simp only [az,bi,or_false] at m;rcases m with rfl|rfl|rfl|rfl
   ·exactλr v=>by simp[Px.rows] at v
   ·exact C2 pg
   ·exactλr v=>by simp[Px.rows] at v
   ·exactλr v=>by simp[Px.rows] at v
 ·have tc:=G (by omega);have J:=Bh _ pn;conv=>whnf
  refine⟨ae rfl,ae rfl,ae rfl,ae rfl,by unfold i9;omega,(show(0:Int)<4 by decide),?_⟩;obtain⟨b,m,e⟩:=RK Px.d [.one p.1,.lst p.1 p.2,.three p.1 p.2,.non] (c/7) 4 (by decide) rfl;refine⟨b.d,e,i,o,?_⟩;have T:p.1.length<=1000:=by omega
  have lb:p.2.length<=big:=by show _<=100000;omega
  refine N b ?_ ?_ ?_ tc
  ·simp only [az,bi,or_false] at m;rcases m with rfl|rfl|rfl|rfl
   ·exact T
   ·exact⟨T,lb⟩
   ·exact⟨T,lb⟩
   ·exact bO
  ·simp only [az,bi,or_false] at m;rcases m with rfl|rfl|rfl|rfl<;>exactλr v=>by simp[Px.rows] at v
  ·simp only [az,bi,or_false] at m;rcases m with rfl|rfl|rfl|rfl<;>exact bO
 ·have tc:=G (by omega);conv=>whnf
  refine⟨bJ _,?_⟩;conv=>whnf
  have lp:=g.l2;have ed:j.map Gp.dd=(j.map Gp.px).map Px.d:=by rw[bN];rfl
  have uu:(aw 13 (j.map Gp.dd)).flatten=(aw 13 (j.map Gp.px)).flatten.map Px.d:=by rw[ed,List.map_flatten,List.map_replicate]
  refine⟨⟨by decide,by decide,by rw[ap];exact tV (by show _*13<=_;omega)⟩,ae rfl,by unfold i9;omega,(show(0:Int)<5 by decide),?_⟩;obtain⟨b,m,e⟩:=RK Ax.d [.tup (j.map Gp.px),.lst [],.non,.Ba,.lst (aw 13 (j.map Gp.px)).flatten] (c/7) 5 (by decide) rfl;have e':vC [D.tup (j.map Gp.dd),.lst [],.non,.int 5,.lst (aw 13 (j.map Gp.dd)).flatten] (c/7%5)=aa b.d:=by rw[uu,ed];exact e
  refine⟨b.d,e',?_⟩;have:=fin2 b ?_ ?_ tc
  ·have hf:∀M,fz M b.d=b.d:=λM=>abi b;show nl (fz _ b.d)=ah/\Q (fz _ b.d);rw[hf];exact this
  ·simp only [az,bi,or_false] at m;rcases m with rfl|rfl|rfl|rfl|rfl
   ·exact E
   ·exact⟨λz f=>by simp at f,bJ _⟩
   ·exact bO
   ·exact bO
   ·refine⟨λz f=>?_,?_⟩
    ·obtain⟨l,U,f⟩:=List.mem_flatten.mp f;rw[d8 U] at f;exact E.1 z f
    ·simp;omega
  ·simp only [az,bi,or_false] at m;rcases m with rfl|rfl|rfl|rfl|rfl
   ·exact I
   ·exactλz f=>by simp at f
   ·exact bO
   ·exact bO
   ·intro z f;obtain⟨l,U,f⟩:=List.mem_flatten.mp f;rw[d8 U] at f;exact I z f
 ·conv=>whnf
  rw[Ys];refine⟨ae rfl,ae rfl,?_,ae rfl,i,o,?_⟩
  ·rw[ap,cw];exact qO (by show min k p.2.length+1<=_;omega)
  ·have:=put (p.2.take k++[.ok (.say 0)]) (pb (uN pg) (tU rfl)) (by simp) (by simp;omega);rw[bD] at this;exact this
 ·conv=>whnf
  rw[Ys];refine⟨ae rfl,ae rfl,?_,ae rfl,i,o,?_⟩
  ·rw[ap,cw];exact qO (by show min k p.2.length+1<=_;omega)
  ·have:=put (p.2.take k++[.ok (.mark "z" ah)]) (pb (uN pg) (tU (by decide+kernel))) (by simp) (by simp;omega);rw[bD] at this;exact this
 ·conv=>whnf
  refine⟨_,rfl,rfl,?_⟩;refine iS Gp.dd (λp=>Gp.dd (p.1,(aw 60 p.2).flatten.take 60)) ?_ _ _ ?_ (λx O Kk hK=>?_) ?_
  ·exact rfl
  ·rw[aY,bd];have:=g.l2;exact tV (by omega)
  ·refine⟨rfl,rfl,?_⟩;have b:=g.r2 x O;have e:cutD ((aw (Int.toNat 60) (x.2.map Rx.d)).flatten) ao (aa 60)=((aw 60 x.2).flatten.take 60).map Rx.d:=by rw[show aa (60:Int)=aa ((60:Nat):Int) from rfl,Qx,RJ,List.map_take];rfl
   refine⟨⟨by decide,by decide,by rw[ap];exact tV (by show _*60<=_;omega)⟩,ae rfl,?_⟩;have:=hK (((List.set (qf [ao,ao] [aa (D.lst (fZ Gp.dd j)),aa (D.int c),aa (D.int ↑i),aa (D.str p.fst),aa (D.lst (fZ Rx.d p.snd)),aa (D.int ↑k),aa (D.loc 0),aa (D.int 9),ao,ao]) 0 (aa (D.str x.fst))).set 1 (aa (D.lst (fZ Rx.d x.snd))))) rfl;unfold Gp.dd at this;rw[<-e] at this;exact this
  ·rw[bc];have:=L (j.map λp=>(p.1,(aw 60 p.2).flatten.take 60)) ?_
   ·rw[bN] at this;exact this
   ·have mm:∀z∈j.map (λp:Gp=>((p.1,(aw 60 p.2).flatten.take 60):Gp)),∃y∈j,z=(y.1,(aw 60 y.2).flatten.take 60):=λz f=>by obtain⟨y,H,rfl⟩:=du.mp f;exact⟨y,H,rfl⟩
    refine⟨by rw[ap];exact g.l1,by rw[ap];exact g.l2,λz f=>?_,λz f=>?_,λz f=>?_,λz f=>?_⟩<;>obtain⟨y,H,rfl⟩:=mm z f
    ·exact g.nm y H
    ·exact uN (C2 (g.gd y H))
    ·have:=g.r1 y H;show 1<=((aw 60 y.2).flatten.take 60).length;rw[cw,len_reps];omega
    ·show((aw 60 y.2).flatten.take 60).length<=_;rw[cw];omega
 ·conv=>whnf
  refine⟨ae rfl,ae rfl,by unfold i9;omega,(show(0:Int)<9 by decide),?_⟩;conv=>whnf
  have hj:(c/28%9).toNat<=8:=by omega
  have hj2:(58+c/7%4).toNat<=61:=by omega
  refine⟨⟨?_,?_,?_⟩,?_⟩
  ·show _<=c/28%9;omega
  ·show c/28%9<_;omega
  ·show 1*(c/28%9).toNat<=_;exact tV (by omega)
  simp only [aP,aU];conv=>whnf
  refine⟨ae rfl,ae rfl,by unfold i9;omega,(show(0:Int)<4 by decide),?_⟩;conv=>whnf
  refine⟨⟨?_,?_,?_⟩,?_⟩
  ·show _<=58+c/7%4;omega
  ·show 58+c/7%4<_;omega
  ·show 1*(58+c/7%4).toNat<=_;exact tV (by omega)
  conv=>whnf
  refine⟨?_,ae rfl,ae rfl,?_,ae rfl,i,o,?_⟩
  ·show(aw (58+c/7%4).toNat [Rx.d (.ok (.say 0))]).flatten.length+(aw (c/28%9).toNat [Rx.d (.ok (.mark "m" am))]).flatten.length<=_;rw[y1,y1,ap,ap,cY,cY];exact tV (by omega)
  ·show((aw (58+c/7%4).toNat [Rx.d (.ok (.say 0))]).flatten++(aw (c/28%9).toNat [Rx.d (.ok (.mark "m" am))]).flatten).length+1<=_;rw[bL,y1,y1,ap,ap,cY,cY];exact tV (by omega)
  ·have:=put (aw (58+c/7%4).toNat (.ok (.say 0))++aw (c/28%9).toNat (.ok (.mark "m" am))++[.ok .stop]) (pb (pb (Bi rfl) (Bi (by decide+kernel))) (tU rfl)) (by simp;omega) (by simp;omega);rw[bD,bD,<-y1,<-y1] at this;exact this
 ·conv=>whnf
  refine⟨ae rfl,ae rfl,by unfold i9;omega,(show(0:Int)<40 by decide),?_⟩;conv=>whnf
  have hj:(201- c/7%40).toNat<=201:=by omega
  refine⟨⟨?_,?_,?_⟩,?_⟩
  ·show _<=201- c/7%40;omega
  ·show 201- c/7%40<_;omega
  ·show 1*(201- c/7%40).toNat<=_;exact tV (by omega)
  conv=>whnf
  refine⟨?_,ae rfl,i,o,?_⟩
  ·show(aw (201- c/7%40).toNat [Rx.d (.ok (.mark "m" am))]).flatten.length+_<=_;rw[y1,ap,ap,cY];exact tV (by omega)
  ·have:=put (aw (201- c/7%40).toNat (.ok (.mark "m" am))++p.2) (pb (Bi (by decide+kernel)) pg) (by simp;omega) (by simp;omega);rw[bD,<-y1] at this;exact this
end pI
namespace pI
open PySem PySem.Spec PyProof.Rows.KTD L2 L3 FJ
theorem abj{a b:Int}{M:Ms}{Q:DK}(h:a<b)(q:Q (.bl ah) M):W5 (.int a) (.int b) M Q:=by show Q (.bl (decide (a<b))) M;rw[decide_eq_true h];exact q
theorem abk{a b:Int}{M:Ms}{Q:DK}(h:¬a<b)(q:Q (.bl am) M):W5 (.int a) (.int b) M Q:=by show Q (.bl (decide (a<b))) M;rw[decide_eq_false h];exact q
noncomputable def EY:GP:=λds Q=>∃(ns:List Int) (k:Nat),ds=[.qc ns,.int k]/\∀i:Int,Q (.int i)
theorem HD:jo EY:=λds P Q w ⟨ns,k,h,q⟩=>⟨ns,k,h,λi=>w _ (q i)⟩
theorem UY:∀ds Q,EY ds Q->kf 2 2 ql ds Q:=λds Q ⟨ns,k,h,q⟩=>by
 subst h;have ty:=@abj;have a:=@abk;unfold ql;generalize W5=b at ty a ⊢;refine⟨rfl,?_⟩;refine⟨ns.length,rfl,?_⟩;by_cases h:(k:Int)<ns.length
 ·refine ty h ?_;exact⟨_,rG (aZ (show k<ns.length by omega)),rfl,q _⟩
 ·refine a h ?_;exact⟨rfl,q _⟩
noncomputable def LW:GP:=λds Q=>∃n:Nat,n<=600/\Kg n ds Q
theorem Kh:jo LW:=λds P Q w ⟨n,h,q⟩=>⟨n,h,HC ds P Q w q⟩
theorem Yv:∀ds Q,LW ds Q->kf 10 2 ou ds Q:=λds Q ⟨n,h,q⟩=>UX h ds Q q
theorem abl(p:Gp):nl p.dd=ah:=p.px.wD
theorem abm(a:List Gp):kI (a.map Gp.dd)=ah:=kU abl a
theorem abn{ds:List D}(h:∀d∈ds,∃p:Gp,(p.1∈NN/\(∀x∈p.2,x.good=ah)/\1<=p.2.length/\p.2.length<=60)/\d=p.dd)(c:1<=ds.length)(e:ds.length<=12):∃a:List Gp,ds=a.map Gp.dd/\Gs 60 a:=by obtain⟨a,rfl,b⟩:=Jg (f:=Gp.dd) (p:=λp:Gp=>p.1∈NN/\(∀x∈p.2,x.good=ah)/\1<=p.2.length/\p.2.length<=60) h;rw[ap] at c e;exact⟨a,rfl,c,e,λp m=>(b p m).1,λp m=>(b p m).2.1,λp m=>(b p m).2.2.1,λp m=>(b p m).2.2.2⟩
noncomputable def LY:GP:=λds Q=>∃ns:List Int,ds=[.qc ns]/\Q (.bl ah)
noncomputable def RL:List Int:=[60,60,40,40,40,30,28,25,22,20,18,16]
theorem UZ(x:Int):∃m:Int,vC (RL.map D.int) (1+x%12- 1)=aa (.int m)/\1<=m/\m<=60:=by
 obtain⟨b,a,e⟩:=RK D.int RL x 12 (by decide) rfl;rw[show 1+x%12- 1=x%12 by omega];have:∀b∈RL,1<=b/\b<=60:=by decide
 exact⟨b,e,this b a⟩
theorem U0:∀w∈NN,bZ w=ah:=by decide+kernel
theorem RM:∀{ps:List Gp},(∀p∈ps,p.1∈NN)->(∀p∈ps,∀x∈p.2,x.good=ah)->L3.sJ (ps.map Gp.dd)=ah/\sG (ps.map Gp.dd)<=4
 |[],_,_=>⟨rfl,bJ _⟩
 |p::ps,h,b=>by
  obtain⟨a1,a2⟩:=RM (ps:=ps) (λq a=>h q (av _ a)) λq a=>b q (av _ a);obtain⟨b1,b2⟩:=VY (b p aC);rw[aR];unfold L3.sJ sG;rw[a1];refine⟨?_,Nat.max_le.mpr ⟨?_,a2⟩⟩
  ·show(bZ p.1&&(L3.sJ (p.2.map Rx.d)&&ah)&&ah)=ah;rw[U0 _ (h p aC),b1];rfl
  ·show max 0 (max (sG (p.2.map Rx.d)+1) 0)+1<=4;omega
theorem U1(i:Int):VD (.int i) (.tup [.int 2,.int 3,.int 4,.int 5,.int 6])=aa ((2==i)||((3==i)||((4==i)||((5==i)||((6==i)||false))))):=rfl
theorem Yw:∀ds Q,LY ds Q->kf 8 1 (Q1 (cl EY) (cl LV) (cl qR) (cl LW)) ds Q:=λds Q ⟨ns,h,q⟩=>by
 subst h;have es:=@eq_self;unfold Q1;generalize mF=ge at es ⊢;refine⟨rfl,rfl,ns,0,rfl,λx=>⟨(by decide:(0:Int)<12),?_⟩⟩;have x1:=fe x (b:=12) (by decide);have x2:=eA x (b:=12) (by decide);obtain⟨m,hm,H,I⟩:=UZ x;refine⟨ae rfl,.int m,hm,⟨by omega,by omega⟩,trivial,?_⟩;have n:(uU 0 (1+x%12).toNat).length=(1+x%12).toNat:=by unfold uU;rw[ap,List.length_range]
 refine yi (λd=>∃p:Gp,(p.1∈NN/\(∀x∈p.2,x.good=ah)/\1<=p.2.length/\p.2.length<=60)/\d=p.dd) trivial _ _ (by show 0+(uU 0 (1+x%12).toNat).length<=_;rw[n,bd];exact qO (by omega)) (λz J L s=>?_) (λds M N=>?_)
 ·obtain⟨k,B,rfl⟩:=du.mp J;have B:=adf.mp B;refine⟨rfl,ns,2+k,by rw[show((2+k:Nat):Int)=2+(0+(k:Int)) by omega],λi=>?_⟩;refine⟨rfl,i,m,k,by rw[Int.zero_add],by omega,H,I,λw rs j l O T=>?_⟩;refine s _ _ ⟨(w,rs.map Rx.ok),⟨j,λy C=>?_,by rw[ap];exact O,by rw[ap];exact T⟩,?_⟩ rfl
  ·obtain⟨r,n,rfl⟩:=du.mp C;exact l r n
  ·show _=D.tup [.str w,.lst ((rs.map Rx.ok).map Rx.d)];rw[bN];rfl
 rw[n] at M;obtain⟨e,rfl,g⟩:=abn N (by omega) (by omega);rw[bc];obtain⟨a1,a2⟩:=g.ax (by omega);have E:(Ax.lst (e.map Gp.px)).d=.lst (e.map Gp.dd):=by show D.lst _=_;rw[bN];rfl
 have na:∀a:Ax,kI [a.d]=ah:=λa=>by show(nl a.d&&ah)=ah;rw[a.wD];rfl
 have U:kI [D.lst (e.map Gp.dd)]=ah:=by rw[<-E];exact na _
 have u:∀c:Int,kI [D.lst (e.map Gp.dd),.int c]=ah:=λc=>by show(kI (e.map Gp.dd)&&_)=ah;rw[abm];rfl
 refine⟨U,.lst (e.map Gp.px),by rw[E];rfl,a1,a2,?_⟩;refine⟨rfl,ns,1,rfl,λc=>?_⟩;refine⟨u c,60,by decide,e,c,rfl,g,λa b1 b2 b3=>?_⟩;refine⟨(by decide:(0:Int)<12),ae rfl,_,U1 _,?_⟩;obtain⟨v,Y⟩:=RM g.nm g.gd;have rest:∀f:Ax,f.ok->f.NK->(gY (iD 7 (ie (iY [ao,ao] (iZ (gv 3)) (j4 2 (ib (gM 0) (ib (gM 1) j0))) lq (hW (gu (gv 0) (gu (ie (Xj x9 (gu (gv 1) gB))) gB))))))
   (iw (ni (iM (cl qR) (gu (gv 5) gB)) (ni (iM (cl qR) (gu (gv 6) gB)) (gR ge (gv 3) (gv 7))))))
   ⟨λ_ _=>Q .non,λd G=>nl (fz G d)=ah/\Q (fz G d),λ_ _=>False,λ_ _=>False⟩
   [aa (.qc ns),aa (.int (1+x%12)),aa (.int m),aa (.lst (e.map Gp.dd)),aa (.int c),aa a.d,aa f.d,ao] []:=λf j l=>by
  refine⟨_,rfl,rfl,?_⟩;refine iS Gp.dd Gp.dd ?_ _ _ ?_ (λy C L s=>?_) ?_
  ·exact rfl
  ·have:=g.l2;rw[aY,bd];exact qO (by omega)
  ·exact⟨rfl,rfl,ae rfl,s _ rfl⟩
  rw[bc];exact⟨na a,a,rfl,b1,b2,na f,f,rfl,j,l,es v (by omega) ⟨rfl,q⟩⟩
 cases hv:((2==c%12)||((3==c%12)||((4==c%12)||((5==c%12)||((6==c%12)||false))))) with
 |true=>exact rest a b1 b2
 |false=>
  have tc:twice c=ah:=by unfold twice;simp at hv ⊢;omega
  obtain⟨o,rfl,g'⟩:=b3 tc;have A:(Ax.lst (o.map Gp.px)).d=.lst (o.map Gp.dd):=by show D.lst _=_;rw[bN];rfl
  refine⟨by unfold i9;omega,?_,270,by decide,o,c/5000,by rw[A],g',λf j l _=>rest f j l⟩;show(nl (Ax.lst (o.map Gp.px)).d&&_)=ah;rw[Ax.wD];rfl
end pI
namespace pI
open PySem PySem.Spec PyProof.Rows.KTD L2 L3 FJ
theorem abo{a b:Int}{M:Ms}{Q:DK}(q:Q (.bl (a==b)) M):mF (.int a) (.int b) M Q:=q
theorem NP:∀ds Q,zu ds Q->kf 5 2 (tL (cl zt)) ds Q:=λds Q ⟨a,m,u,w,y,q⟩=>by
 subst u;have b:=@abo;unfold tL;generalize mF=ge at b ⊢;refine⟨rfl,bJ _,by unfold i9;omega,⟨by omega,by omega⟩,trivial,?_⟩;refine l5 (λi f M=>∃(r:Int) (ns:List Int) (o:Option D),ns.length=i/\Sc ns/\M=[aa (.lst (ns.map .int))]/\f=[aa (.int a),aa (.int m),aa (.loc 0),aa (.int r),o]) (λ_ _ _ _=>trivial) _ 0 _ _ ⟨_,[],_,rfl,λ_ h=>by simp at h,rfl,rfl⟩ (λj x f M v g N l=>?_) (λf M g=>?_)
 ·obtain⟨r,ns,o,p,e,rfl,rfl⟩:=g;obtain⟨rfl,z⟩:=AG v;have s:(ns.map D.int).length<aE:=by rw[ap];exact fF (show ns.length<=1000 by omega) (by decide)
  have c:∀n:Int,ns.map D.int++[D.int n]=(ns++[n]).map D.int:=λn=>by rw[bD];rfl
  refine⟨(show(0:Int)<2 by decide),?_⟩;refine b ?_;cases a%2==0 with
  |true=>
   refine⟨rfl,(show(0:Int)<1000 by decide),_,rfl,s,by unfold i9;omega,?_⟩;exact l _ _ ⟨r/1000,ns++[r%1000],_,by simp;omega,GO e (by omega) (by omega),by rw[<-c];rfl,rfl⟩
  |false=>
   refine⟨rfl,rfl,r,j,rfl,by omega,by omega,λn n1 n2=>⟨(show(0:Int)<1000 by decide),_,rfl,s,?_⟩⟩;exact l _ _ ⟨r,ns++[n%1000],_,by simp;omega,GO e (by omega) (by omega),by rw[<-c];rfl,rfl⟩
 ·obtain⟨r,ns,o,p,e,rfl,rfl⟩:=g;refine⟨GK,q ns ?_ e⟩;rw[p];simp[uU];omega
end pI
namespace pI
open PySem PySem.Spec L2 L3 FJ
structure RB(K:W.Frag)(C fI fW fG:aj):Prop where
 c:CF K C
 nT:W.findIn K (.ref C) "told"=aa ao
 aI:W.findIn K (.ref C) "__init__"=aa (aa (.ref fI))
 aW:W.findIn K (.ref C) "words"=aa (aa (.ref fW))
 aG:W.findIn K (.ref C) "goes_on"=aa (aa (.ref fG))
theorem all_mk{l:W.OpenLaw}{w:bj}{K:W.Frag}{h:ar}{mg:ay->Option af}{fa:aj}(X:K.In h)(G:h.Ns aO mg)(hfa:mg "law"=aa (.ref fa))
{b z O T U Y Kl v6 i p cF L y u x Bk LZ RN:aj}{B I fG Bl RO L4:aj}{t0 t1 t2 t3 t4 t5 t6 t7 t8:aew}
(xF:W.nsIn K aO "MarkRow"=aa (aa (.ref b)))
(Bm:W.nsIn K aO "CodeRow"=aa (aa (.ref z)))
(Km:W.nsIn K aO "BoxRow"=aa (aa (.ref O)))
(Bn:W.nsIn K aO "LastRow"=aa (aa (.ref T)))
(Ko:W.nsIn K aO "SetRow"=aa (aa (.ref U)))
(v7:W.nsIn K aO "AlikeRow"=aa (aa (.ref Y)))
(Kp:W.nsIn K aO "AimRow"=aa (aa (.ref Kl)))
(v8:W.nsIn K aO "LeaveRow"=aa (aa (.ref v6)))
(pc:W.nsIn K aO "NumbersRow"=aa (aa (.ref i)))
(v9:W.nsIn K aO "TableRow"=aa (aa (.ref p)))
(Bo:W.nsIn K aO "FORMS"=aa (aa (.ref cF)))
(lz:W.nsIn K aO "PartError"=aa (aa (.ref L)))
(oJ:W.nsIn K aO "BadParts"=aa (aa (.ref y)))
(uO:W.nsIn K aO "BadRow"=aa (aa (.ref u)))
(yu:W.nsIn K aO "NoEnd"=aa (aa (.ref x)))
(Bp:W.nsIn K aO "Twice"=aa (aa (.ref Bk)))
(Bq:RB K b B I fG)
(Kq:RB K O B I Bl)
(Br:RB K T B I RO)
(Kr:RB K U B I Bl)
(wb:RB K Y B I Bl)
(Ks:RB K Kl B I Bl)
(wc:RB K v6 B I L4)
(pe:RB K i B I fG)
(wd:RB K p B I fG)
(U2:MF K "__init__" "Row.__init__" oV B)
(RP:MF K "words" "Row.words" nw I)
(EZ:MF K "goes_on" "Row.goes_on" li fG)
(kO:MF K "goes_on" "CodeRow.goes_on" jI Bl)
(tW:MF K "goes_on" "LastRow.goes_on" jJ RO)
(qS:MF K "goes_on" "LeaveRow.goes_on" jy L4)
(tb:yb K cF AF)
(kP:W.nsIn K aO "LONGEST_WORD"=aa (aa (.int (8) t0)))
(kQ:W.nsIn K aO "LONGEST_LIST"=aa (aa (.int (60) t1)))
(ph:W.nsIn K aO "LAST_BOX"=aa (aa (.int (3) t2)))
(kR:W.nsIn K aO "LEAST_NUMBER"=aa (aa (.int (-2147483648) t3)))
(jK:W.nsIn K aO "GREATEST_NUMBER"=aa (aa (.int (2147483647) t4)))
(jr:W.nsIn K aO "MOST_ROWS_OF_PART"=aa (aa (.int (60) t5)))
(mr:W.nsIn K aO "MOST_PARTS"=aa (aa (.int (12) t6)))
(nz:W.nsIn K aO "MOST_ROWS"=aa (aa (.int (200) t7)))
(mw:W.nsIn K aO "MOST_MARKS"=aa (aa (.int (200) t8)))
(my:W.nsIn K aO "isinstance"=aa ao)
(HE:W.nsIn K aO "int"=aa ao)
(Bs:W.nsIn K aO "bool"=aa ao)
(HF:W.nsIn K aO "str"=aa ao)
(HG:W.nsIn K aO "len"=aa ao)
(HH:W.nsIn K aO "all"=aa ao)
(xG:W.nsIn K aO "tuple"=aa ao)
(Bt:W.nsIn K aO "list"=aa ao)
(HI:W.nsIn K aO "zip"=aa ao)
(HJ:W.nsIn K aO "set"=aa ao)
(HK:W.nsIn K aO "sum"=aa ao)
(nA:W.nsIn K aO "enumerate"=aa ao)
(xH:W.nsIn K aO "range"=aa ao)
(Bu:W.nsIn K aO "dict"=aa ao)
(HL:W.nsIn K aO "max"=aa ao)
(wg:gX K mg "is_whole" rL)
(yv:gX K mg "is_word" uE)
(oA:gX K mg "is_list_of" oj)
(E1:gX K mg "fits" Ev)
(Bv:gX K mg "is_row" xq)
(wj:gX K mg "code_row" rO)
(Bw:gX K mg "row_of" xr)
(mP:gX K mg "counts_as_mark" k6)
(qp:gX K mg "marks_among" mY)
(pq:gX K mg "others_among" mo)
(yw:gX K mg "is_part" uF)
(tY:gX K mg "are_parts" pX)
(yx:gX K mg "rows_of" uG)
(mz:gX K mg "first_but_marks" kE)
(lB:gX K mg "look_behind_rows" kb)
(tZ:gX K mg "looked_at" pZ)
(pr:gX K mg "_law_cell_at" mZ)
(se:gX K mg "_law_mixed" p0)
(sf:gX K mg "_law_draws" p4)
(wm:gX K mg "_law_row" uH)
(pv:gX K mg "_law_goes_on" m4)
(pz:gX K mg "_law_ordered" m5)
(t9:gX K mg "_law_part" rS)
(qr:gX K mg "_law_spoilt" oq)
(ua:gX K mg "_law_mark" rV)
(qt:gX K mg "_law_counts" ow)
(pA:gX K mg "_law_is_part" m6)
(ub:gX K mg "_law_form" rW)
(uc:gX K mg "_law_ends" rX)
(wn:gX K mg "_law_due" uI)
(ud:gX K mg "_law_look" rY)
(sg:gX K mg "_law_right" p6)
(RQ:gX K mg "law" Q0)
(wo:W.kitOne K (.ref b) (.ref b)=aa ah)
(yy:W.kitOne K (.ref O) (.ref b)=aa am)
(wq:W.kitOne K (.ref T) (.ref b)=aa am)
(yz:W.kitOne K (.ref U) (.ref b)=aa am)
(ue:W.kitOne K (.ref Y) (.ref b)=aa am)
(yA:W.kitOne K (.ref Kl) (.ref b)=aa am)
(uf:W.kitOne K (.ref v6) (.ref b)=aa am)
(qu:W.kitOne K (.ref i) (.ref b)=aa am)
(ug:W.kitOne K (.ref p) (.ref b)=aa am)
(wt:W.kitOne K (.ref b) (.ref z)=aa am)
(yB:W.kitOne K (.ref O) (.ref z)=aa ah)
(wu:W.kitOne K (.ref T) (.ref z)=aa ah)
(yC:W.kitOne K (.ref U) (.ref z)=aa ah)
(uh:W.kitOne K (.ref Y) (.ref z)=aa ah)
(yD:W.kitOne K (.ref Kl) (.ref z)=aa ah)
(ui:W.kitOne K (.ref v6) (.ref z)=aa ah)
(qv:W.kitOne K (.ref i) (.ref z)=aa am)
(uj:W.kitOne K (.ref p) (.ref z)=aa am)
(qw:W.kitOne K (.ref b) (.ref i)=aa am)
(si:W.kitOne K (.ref O) (.ref i)=aa am)
(qy:W.kitOne K (.ref T) (.ref i)=aa am)
(sj:W.kitOne K (.ref U) (.ref i)=aa am)
(pB:W.kitOne K (.ref Y) (.ref i)=aa am)
(sk:W.kitOne K (.ref Kl) (.ref i)=aa am)
(pC:W.kitOne K (.ref v6) (.ref i)=aa am)
(mQ:W.kitOne K (.ref i) (.ref i)=aa ah)
(pD:W.kitOne K (.ref p) (.ref i)=aa am)
(uk:W.kitOne K (.ref b) (.ref p)=aa am)
(wv:W.kitOne K (.ref O) (.ref p)=aa am)
(ul:W.kitOne K (.ref T) (.ref p)=aa am)
(wx:W.kitOne K (.ref U) (.ref p)=aa am)
(sr:W.kitOne K (.ref Y) (.ref p)=aa am)
(wy:W.kitOne K (.ref Kl) (.ref p)=aa am)
(su:W.kitOne K (.ref v6) (.ref p)=aa am)
(pE:W.kitOne K (.ref i) (.ref p)=aa am)
(sv:W.kitOne K (.ref p) (.ref p)=aa ah)
(Yx:W.kitOne K (.type "NoneType") (.ref z)=aa am)
(pF:IX K L L)
(lR:IX K y L)
(sw:IX K u L)
(wz:IX K x L)
(zE:ExI K u LZ "BadRow.__init__" lh)
(E2:ExI K x RN "NoEnd.__init__" mn)
(xb:F5 K L)
(iBP:W.findIn K (.ref y) "__init__"=aa (aa (.builtin "ValueError.__init__")))
(oB:W.findIn K (.ref u) "part"=aa ao)
(p7:W.findIn K (.ref u) "row"=aa ao)
(p8:W.findIn K (.ref x) "part"=aa ao)
(sx:W.findIn K (.ref x) "row"=aa ao)
(lC:W.kitOne K (.ref y) (.ref y)=aa ah)
(mR:W.kitOne K (.ref y) (.ref u)=aa am)
(nG:W.kitOne K (.ref y) (.ref x)=aa am)
(nH:W.kitOne K (.ref y) (.ref Bk)=aa am)
(mS:W.kitOne K (.ref u) (.ref y)=aa am)
(pG:W.kitOne K (.ref u) (.ref u)=aa ah)
(qz:W.kitOne K (.ref u) (.ref x)=aa am)
(qA:W.kitOne K (.ref u) (.ref Bk)=aa am)
(nI:W.kitOne K (.ref x) (.ref y)=aa am)
(qB:W.kitOne K (.ref x) (.ref u)=aa am)
(sy:W.kitOne K (.ref x) (.ref x)=aa ah)
(sA:W.kitOne K (.ref x) (.ref Bk)=aa am)
  :∃fd:cn,(∀(s:ai) (v:af),adq s fd ⟨[v],[]⟩ [("_law_script",v)])/\∀base:ar,K.In base->base.Ns aO mg->ky l.prog w K mg base uR 11 fa fd ["_law_script"] (mU K (cl LY)):=by
 obtain⟨f,fd,F,m⟩:=id RQ;have e:=hfa.symm.trans m;cases e;have my:=W.mg_none_of X G my;have HE:=W.mg_none_of X G HE;have Bs:=W.mg_none_of X G Bs;have HF:=W.mg_none_of X G HF;have HG:=W.mg_none_of X G HG;have HH:=W.mg_none_of X G HH;have xG:=W.mg_none_of X G xG;have Bt:=W.mg_none_of X G Bt;have HI:=W.mg_none_of X G HI;have HJ:=W.mg_none_of X G HJ;have HK:=W.mg_none_of X G HK;have nA:=W.mg_none_of X G nA;have xH:=W.mg_none_of X G xH;have Bu:=W.mg_none_of X G Bu;have HL:=W.mg_none_of X G HL;have kP:∃t,mg "LONGEST_WORD"=aa (.int (8) t):=⟨_,W.mg_of X G kP⟩;have kQ:∃t,mg "LONGEST_LIST"=aa (.int (60) t):=⟨_,W.mg_of X G kQ⟩;have ph:∃t,mg "LAST_BOX"=aa (.int (3) t):=⟨_,W.mg_of X G ph⟩;have kR:∃t,mg "LEAST_NUMBER"=aa (.int (-2147483648) t):=⟨_,W.mg_of X G kR⟩;have jK:∃t,mg "GREATEST_NUMBER"=aa (.int (2147483647) t):=⟨_,W.mg_of X G jK⟩;have jr:∃t,mg "MOST_ROWS_OF_PART"=aa (.int (60) t):=⟨_,W.mg_of X G jr⟩;have mr:∃t,mg "MOST_PARTS"=aa (.int (12) t):=⟨_,W.mg_of X G mr⟩;have nz:∃t,mg "MOST_ROWS"=aa (.int (200) t):=⟨_,W.mg_of X G nz⟩;have mw:∃t,mg "MOST_MARKS"=aa (.int (200) t):=⟨_,W.mg_of X G mw⟩;have xF:=W.mg_of X G xF;have Bm:=W.mg_of X G Bm;have Km:=W.mg_of X G Km;have Bn:=W.mg_of X G Bn;have Ko:=W.mg_of X G Ko;have v7:=W.mg_of X G v7;have Kp:=W.mg_of X G Kp;have v8:=W.mg_of X G v8;have pc:=W.mg_of X G pc;have v9:=W.mg_of X G v9;have Bo:=W.mg_of X G Bo;have lz:=W.mg_of X G lz;have oJ:=W.mg_of X G oJ;have uO:=W.mg_of X G uO;have yu:=W.mg_of X G yu;have Bp:=W.mg_of X G Bp;have Z:Zs mg:=⟨my,HE,Bs,HF,HG,HH,xG,Bt,HI,HJ,HK,nA,xH,Bu,HL,kP,kQ,ph,kR,jK,jr,mr,nz,mw⟩;have lx:LX K L y u x Bk:=⟨⟨lR.sub pF,lR.get,lC,mR,nG,nH⟩,⟨sw.sub pF,sw.get,mS,pG,qz,qA⟩,⟨wz.sub pF,wz.get,nI,qB,sy,sA⟩,⟨oB,p7⟩,⟨p8,sx⟩⟩;refine⟨fd,F.WX λ_ _ _ _ _ _ _=>rfl,λbase _ _=>?_⟩;obtain⟨fdR,FR⟩:=zE.ex;obtain⟨fdN,FN⟩:=E2.ex;have rR:∀j,wZ l.prog w K mg base (j+1) "BadRow" u ["part","row"]:=λj=>⟨uO,LZ,fdR,_,sw.mk_ zE,AN FR,BM (k:=j) FR xb lz sw.cls sw.obj λg hg=>by
  simp at hg;rcases hg with rfl|rfl
  ·exact oB
  ·exact p7⟩
 have rN:∀j,wZ l.prog w K mg base (j+1) "NoEnd" x ["part","row"]:=λj=>⟨yu,RN,fdN,_,wz.mk_ E2,BO FN,Ep (k:=j) FN xb lz wz.cls wz.obj λg hg=>by
  simp at hg;rcases hg with rfl|rfl
  ·exact p8
  ·exact sx⟩
 have rP:P0 K y:=⟨lR.obj,lR.call,lR.typ,iBP,lR.kp⟩;obtain⟨c,a⟩:∃c:CA,c=CA.mk b b z b O T U Y Kl v6 i p:=⟨_,rfl⟩;have cf:∀k,CF K (c.at k):=λk=>by subst a;cases k<;>first|exact Bq.c|exact Kq.c|exact Br.c|exact Kr.c|exact wb.c|exact Ks.c|exact wc.c|exact pe.c|exact wd.c
 have nT:∀k,W.findIn K (.ref (c.at k)) "told"=aa ao:=λk=>by subst a;cases k<;>first|exact Bq.nT|exact Kq.nT|exact Br.nT|exact Kr.nT|exact wb.nT|exact Ks.nT|exact wc.nT|exact pe.nT|exact wd.nT
 have fo:∀k,Cu K (c.at k) "told":=λk=>⟨(cf k).cls,nT k⟩;have aI:∀k,W.findIn K (.ref (c.at k)) "__init__"=aa (aa (.ref B)):=λk=>by subst a;cases k<;>first|exact Bq.aI|exact Kq.aI|exact Br.aI|exact Kr.aI|exact wb.aI|exact Ks.aI|exact wc.aI|exact pe.aI|exact wd.aI
 have aW:∀k,W.findIn K (.ref (c.at k)) "words"=aa (aa (.ref I)):=λk=>by subst a;cases k<;>first|exact Bq.aW|exact Kq.aW|exact Br.aW|exact Kr.aW|exact wb.aW|exact Ks.aW|exact wc.aW|exact pe.aW|exact wd.aW
 have fok:FOk K c:=⟨λr=>fo r.kn⟩;have ko:Y0 K c:=⟨λk=>(cf k).aaY,λk=>by subst a;cases k<;>first|exact wo|exact yy|exact wq|exact yz|exact ue|exact yA|exact uf|exact qu|exact ug,λk=>by subst a;cases k<;>first|exact wt|exact yB|exact wu|exact yC|exact uh|exact yD|exact ui|exact qv|exact uj,λk=>by subst a;cases k<;>first|exact qw|exact si|exact qy|exact sj|exact pB|exact sk|exact pC|exact mQ|exact pD,λk=>by subst a;cases k<;>first|exact uk|exact wv|exact ul|exact wx|exact sr|exact wy|exact su|exact pE|exact sv,by subst a;exact Yx⟩;have xF:mg "MarkRow"=aa (.ref c.Mark):=by subst a;exact xF
 have Bm:mg "CodeRow"=aa (.ref c.Code):=by subst a;exact Bm
 have Km:mg "BoxRow"=aa (.ref c.Ul):=by subst a;exact Km
 have Bn:mg "LastRow"=aa (.ref c.Last):=by subst a;exact Bn
 have Ko:mg "SetRow"=aa (.ref c.Set):=by subst a;exact Ko
 have v7:mg "AlikeRow"=aa (.ref c.Alike):=by subst a;exact v7
 have Kp:mg "AimRow"=aa (.ref c.Um):=by subst a;exact Kp
 have v8:mg "LeaveRow"=aa (.ref c.Leave):=by subst a;exact v8
 have pc:mg "NumbersRow"=aa (.ref c.kY):=by subst a;exact pc
 have v9:mg "TableRow"=aa (.ref c.Table):=by subst a;exact v9
 have RR:∀j,iI l.prog w K mg base (j+1) "is_whole" ["thing"] (cl jN):=λj=>mC (Jj wg Z) CK (GG K);have RS:∀j,iI l.prog w K mg base (j+1) "is_word" ["thing"] (cl kq):=λj=>mC (Nl yv Z) CK (Jf K);have Yy:iI l.prog w K mg base 2 "fits" ["form","thing"] (cl zr):=mC (QC (kX:=λ_ _ _=>False) E1 Z (RS 0) (RR 0) (aaq 1 oA (λ_ _ _ _ _ _ us hl=>match us,hl with|[_,_],_=>rfl))) yh (Qk K _);have hIl:iI l.prog w K mg base 3 "is_list_of" ["form","thing"] (cl Qg):=mC (Eu oA Z Yy) yh (aaT K);have abp:iI l.prog w K mg base 4 "fits" ["form","thing"] (cl AE):=mC (QC E1 Z (RS 2) (RR 2) hIl) yh (Ui K);have abq:iI l.prog w K mg base 5 "is_row" ["thing"] (bor Hq):=hasB (QH Bv Z Bo tb abp) Ka (Yi K _);obtain⟨_,abr⟩:=U2.ex;obtain⟨_,abt⟩:=RP.ex;obtain⟨_,NQ⟩:=EZ.ex;obtain⟨_,N⟩:=kO.ex;obtain⟨_,HM⟩:=tW.ex;obtain⟨_,C3⟩:=qS.ex;have J:∀j k,nF l.prog w K mg base (j+1) (c.at k) (la K):=λj k=>aau ⟨(cf k).mks,aI k,U2.fn,(cf k).kc⟩ (GV abr) (Jm abr) GH Uq;have abu:iI l.prog w K mg base 5 "code_row" ["told"] (cl (mL c)):=mC (Jp (k:=3) wj Ko (J 2 .Set) v7 (J 2 .Alike) Bn (J 2 .Last) v8 (J 2 .Leave) Kp (J 2 .Um) Km (J 2 .Ul)) zh (GJ fok);have Yz:iI l.prog w K mg base 6 "row_of" ["thing"] (EJ c):=acs (QR (k:=4) Bw Z abq xF (J 3 .Mark) pc (J 3 .kY) v9 (J 3 .Table) abu) Hr (UD fok);have YA:∀j C g,rF c C "words" g->ya l.prog w K mg base (j+1) C "words" g:=by
  rintro j C g ⟨k,rfl,rfl⟩
  exact methP (cf k).cls ⟨aW k,RP.fn,RP.kp⟩ (Es abt) (GX abt Z) Eh (Qu fok k)
 have abv:∀j C g,Qv c C "goes_on" g->ya l.prog w K mg base (j+1) C "goes_on" g:=by
  rintro j C g ⟨k,rfl,rfl⟩
  have cl:=(cf k).cls;cases k;case Mark=>exact methP cl ⟨by subst a;exact Bq.aG,EZ.fn,EZ.kp⟩ (oW NQ) (qi NQ) jH (GL (by simp))
  case kY=>exact methP cl ⟨by subst a;exact pe.aG,EZ.fn,EZ.kp⟩ (oW NQ) (qi NQ) jH (GL (by simp))
  case Table=>exact methP cl ⟨by subst a;exact wd.aG,EZ.fn,EZ.kp⟩ (oW NQ) (qi NQ) jH (GL (by simp))
  case Last=>exact methP cl ⟨by subst a;exact Br.aG,tW.fn,tW.kp⟩ (vT HM) (xo HM) jH (GL (by simp))
  case Leave=>exact methP cl ⟨by subst a;exact wc.aG,qS.fn,qS.kp⟩ (uY C3) (vV C3) jH (GL (by simp))
  case Ul=>exact methP cl ⟨by subst a;exact Kq.aG,kO.fn,kO.kp⟩ (ka N) (kC N) jH (LG (by simp))
  case Set=>exact methP cl ⟨by subst a;exact Kr.aG,kO.fn,kO.kp⟩ (ka N) (kC N) jH (LG (by simp))
  case Alike=>exact methP cl ⟨by subst a;exact wb.aG,kO.fn,kO.kp⟩ (ka N) (kC N) jH (LG (by simp))
  case Um=>exact methP cl ⟨by subst a;exact Ks.aG,kO.fn,kO.kp⟩ (ka N) (kC N) jH (LG (by simp))
 have U4:∀j,iI l.prog w K mg base (j+1) "counts_as_mark" ["thing"] (cl ny):=λj=>mC (yo mP Z) vt (NJ K);have RT:∀j,iI l.prog w K mg base (j+2) "marks_among" ["things"] (cl xz):=λj=>mC (BV qp Z (U4 j)) EG Ra;have L5:∀j,iI l.prog w K mg base (j+3) "others_among" ["things"] (cl A9):=λj=>mC (AY pq Z (RT j)) Hm Uz;have U5:∀j,iI l.prog w K mg base (j+4) "is_part" ["thing"] (cl EH):=λj=>mC (Nt yw Z (RS (j+2)) (L5 j)) Hn (UA K);have acT:∀j,iI l.prog w K mg base (j+5) "are_parts" ["thing"] (cl EI):=λj=>mC (G0 tY Z (U5 j) (L5 (j+1)) (RT (j+2))) Ho (UC K);have U6:yQ l.prog w K mg base 7 "rows_of" ["name","things"] (xC c u):=PU (Nw (k:=5) yx Z Yz (rR 4)) EK Rf;have YB:∀j,iI l.prog w K mg base (j+1) "first_but_marks" ["rows"] (cl (zy c)):=λj=>mC (xv mz Z xF) EF (Q6 ko);have U7:yQ l.prog w K mg base 7 "look_behind_rows" ["name","rows"] (zA c x):=PU (vX (k:=5) lB Z (YB 5) (abv 5) Bm (rN 4) xF) EL (Rg ko);have U8:yQ l.prog w K mg base 8 "looked_at" ["parts"] (uK c y u x):=PU (G3 (k:=7) tZ (acT 2) oJ rP U6 U7) Be Kc;have abw:iI l.prog w K mg base 10 "_law_cell_at" ["_law_script","_law_k"] (cl EY):=mC (BX pr Z) HD UY;have YC:∀j,iI l.prog w K mg base (j+1) "_law_mixed" ["_law_cell","_law_k"] (cl zt):=λj=>mC (G6 se) Ei Qw;have YD:∀j,iI l.prog w K mg base (j+2) "_law_draws" ["_law_cell","_law_many"] (cl zu):=λj=>mC (G8 sf Z (YC j)) Ej NP;have acU:∀j,iI l.prog w K mg base (j+1) "_law_row" ["_law_draw"] (cl EV):=λj=>mC (NB wm) Hz UR;have V0:∀j,iI l.prog w K mg base (j+1) "_law_goes_on" ["_law_told"] (cl sd):=λj=>mC (BZ pv) ER Ro;have acV:∀j,iI l.prog w K mg base (j+2) "_law_ordered" ["_law_rows"] (cl EW):=λj=>mC (B1 pz (V0 j)) HB UU;have abx:iI l.prog w K mg base 10 "_law_part" ["_law_cell","_law_k","_law_most"] (cl LV):=mC (JH (k:=9) t9 (YD 7) (acU 8) (acV 7)) Kf Yp;have acW:iI l.prog w K mg base 10 "_law_spoilt" ["_law_parts","_law_cell"] (cl LW):=mC (EB (k:=9) qr Z) Kh Yv;have hLm:∀j,iI l.prog w K mg base (j+1) "_law_mark" ["_law_row_here"] (cl ny):=λj=>mC (JK ua Z) vt (Ri K);have hLc:∀j,iI l.prog w K mg base (j+2) "_law_counts" ["_law_parts"] (cl uL):=λj=>mC (ED qt Z (hLm j)) Bf Ke;have hLp:∀j,iI l.prog w K mg base (j+2) "_law_is_part" ["_law_part_here"] (cl zC):=λj=>mC (B4 pA Z (hLm j)) EO (Rn K);have aby:∀j,iI l.prog w K mg base (j+3) "_law_form" ["_law_parts"] (cl EQ):=λj=>mC (JN ub Z (hLp j) (hLc j)) Hv (UI K);have abz:∀j,iI l.prog w K mg base (j+2) "_law_ends" ["_law_rows","_law_at"] (cl xE):=λj=>mC (JR uc (V0 j)) ES Rv;have acX:iI l.prog w K mg base 9 "_law_due" ["_law_parts"] (cl ET):=mC (NF (k:=8) wn Z (aby 5) (abz 6)) Hw UP;have abA:iI l.prog w K mg base 9 "_law_look" ["_law_parts"] (cl (zD c)):=mC (JZ (k:=8) ud Z lz U8 Bp yu uO oJ) EU (RA lx);have YE:iI l.prog w K mg base 10 "_law_right" ["_law_parts"] (cl qR):=mC (Hg (k:=9) sg Z abA acX (YA 8)) B8 NM;have hL:=MG F VW.2 CV.2 r9 (λiE A outer s H E hr=>aa0 (P:=l.prog) (w:=w) (base:=base) (k:=10) Z abw abx YE acW fa iE A outer s H E hr);exact hL.imp λvs H Q E ⟨F,α,M,ds,o,r,n,q⟩=>⟨F,α,M,ds,o,r,n,Yw _ _ q⟩
theorem tb0{K:W.Frag}{H:Hp}(h:W.nsIn K aO "by_name"=aa ao):Tb K H:=λx a c P e=>by simp only [Z0,bP] at a;subst a;unfold W.tabIn at e;rw[h] at e;cases e
theorem walk{l:W.OpenLaw}{q:aJ}{loose:List ay}{g:(ay->Option af)->ar->Prop}{b:bj->ar->Prop}{d:DefRec}{K:ae8->W.Frag}(hn:l.most=aa 63)(i:d.params.defaults=[])
(j:∀(w:bj) (h:ar),b w h->(K w.params).In h)(nb:∀w:bj,W.nsIn (K w.params) aO "by_name"=aa ao)
(F:∀(w:bj) (mg:ay->Option af) (c:aj) (h:ar),(K w.params).In h->h.Ns aO mg->mg d.name=aa (.ref c)->
   ∃fd:cn,(∀(s:ai) (u:af),adq s fd ⟨[u],[]⟩ [("_law_script",u)])/\∀base:ar,(K w.params).In base->base.Ns aO mg->ky l.prog w (K w.params) mg base uR 11 c fd ["_law_script"] (mU (K w.params) (cl LY))):
  W.WalkO q loose g b l.row.toRowW d [] (λf m=>PySem.call f m):=
 L2.SO (n:=63) (k:=11) (x:="_law_script") (CX:=λ_=>uR) (sp:=λw=>mU (K w.params) (cl LY)) hn (by decide) i ⟨rfl,by decide,by decide⟩ j F (λw H a ns A _ p=>⟨[],[],[],[.qc ns],Pl (tb0 (nb w)),by
  refine gA.one ?_;unfold Rep;refine⟨a,rfl,?_⟩;show pH _ (jB ([]++[]) H) a _;rw[br];exact An Am p,rfl,ns,rfl,λv B C e o r=>by unfold Rep at r;exact r⟩) λ_ _ _ _ _ z=>z
end pI
open PySem PySem.W PyProof.Rows
local macro_rules | `(tactic| walk_at "k_def") => `(tactic| (refine' L2.OQ (by assumption) (by assumption) ?a ?l ?c ?k; (case a => k_is); (case l => k_is); (case c => k_is); (case k => k_is)))
local macro_rules | `(tactic| walk_at "k_mf") => `(tactic| (refine' FJ.aaZ ?l ?c ?k ?i; (case l => k_is); (case c => k_is); (case k => k_is); (case i => k_is)))
local macro_rules | `(tactic| walk_at "k_rf") => `(tactic| (refine' ⟨⟨?a1, ?a2, ?a3, ?a4, ?a5, ?a6, ?a7, ?a8, ?a9, ?a10⟩, ?b1, ?b2, ?b3, ?b4⟩; (case a1 => k_is); (case a2 => k_is); (case a3 => k_is); (case a4 => k_is); (case a5 => k_is); (case a6 => k_is); (case a7 => k_is); (case a8 => k_is); (case a9 => k_is); (case a10 => k_is); (case b1 => k_is); (case b2 => k_is); (case b3 => k_is); (case b4 => k_is)))
local macro_rules | `(tactic| walk_at "k_row") => `(tactic| (refine KTD.Rows.cons rfl ?_ ?_; focus (refine' FJ.X9 ?va ?vb ?vc ?vd ?ve; (case va => k_is); (case vb => rfl); (case vc => rfl); (case vd => exact ae rfl); (case ve => (repeat (first | exact FJ.Qy | refine FJ.Nj ?_))))))
local macro_rules | `(tactic| walk_at "k_kr") => `(tactic| first | k_is | kernel_rfl | rfl)
local macro_rules | `(tactic| walk_at "k_exc") => `(tactic| (refine' ⟨?e1, ?e2, ?e3, ?e4, ?e5, ?e6, ?e7, ?e8, ?e9, ?e10, ?e11, ?YW, ?uu, ?e14, L3.XN ?e15 ?e16 ?e17 ?e18⟩; (case e1 => walk_at "k_kr"); (case e2 => unfold L2.F3; kernel_rfl); (case e3 => walk_at "k_kr"); (case e4 => walk_at "k_kr"); (case e5 => walk_at "k_kr"); (case e6 => walk_at "k_kr"); (case e7 => walk_at "k_kr"); (case e8 => walk_at "k_kr"); (case e9 => walk_at "k_kr"); (case e10 => walk_at "k_kr"); (case e11 => walk_at "k_kr"); (case YW => walk_at "k_kr"); (case uu => walk_at "k_kr"); (case e14 => walk_at "k_kr"); (case e15 => k_is); (case e16 => walk_at "k_kr"); (case e17 => first | rfl | kernel_rfl | k_is); (case e18 => first | rfl | kernel_rfl | k_is)))
local macro_rules | `(tactic| walk_at "k_exi") => `(tactic| (refine' L3.XO ?e1 ?e2 ?e3 ?e4 ?e5; (case e1 => k_is); (case e2 => k_is); (case e3 => k_is); (case e4 => k_is); (case e5 => k_is)))
namespace PySem.W.Fast
def tw6593962290569075360:=0
def tw17867225715196533251:=0
def tw5948529100375293667:=0
def tw3421597685504345444:=0
def tw806442583780575399:=0
def tw14723560616124724711:=0
def tw10588333647458798247:=0
def tw13383205245825987752:=0
def tw4274749812483521224:=0
def tw16737102471537641673:=0
def tw8391356408594494698:=0
def tw13430628839530849098:=0
def tw6740263994305917967:=0
def tw2909750126705594385:=0
def tw12679922462811182641:=0
def tw2204784751718029426:=0
def tw18425312217142284532:=0
def tw7177916684158527156:=0
def tw6877700394900312822:=0
def tw9445037144433168983:=0
def tw5471125776787476345:=0
def tw5066249896869514395:=0
def tw7077791490170130974:=0
def tw13781301528552377054:=0
def tw5821309333922942463:=0
def tw14965208480621564598:=0
def tw17273709197405138419:=0
def tw13035136233335679341:=0
def tw8901659260035838656:=0
def tw13242412198046736154:=0
def tw3731914273791373371:=0
def tw18387162129181468141:=0
def tw17159105354966516129:=0
def tw554865960048410059:=0
def tw8465004486615034489:=0
def tw5491878717622210355:=0
def tw11750916870062550976:=0
def tw9251610831908783209:=0
def tw2405797977804977243:=0
def tw8023287840045715978:=0
def tw4773704656775926841:=0
def tw3756558214647961599:=0
def tw10084381393268479107:=0
def tw12576682625073219074:=0
def tw12360854666220910169:=0
def tw10264763065917958911:=0
def tw9856540448287865701:=0
def tw9881817720163976237:=0
def tw13159593243212239498:=0
def tw15302888070351784135:=0
def tw16084028444986555019:=0
def tw2199830451379319747:=0
def tw18130894369130710493:=0
def tw7995100179592790789:=0
def tw18176336869360677207:=0
def tw1178779303637334630:=0
def tw6614137161742149049:=0
def tw11436250720066775880:=0
def tw2549288257618748726:=0
def tw13701747462135506284:=0
def tw2382740060111531826:=0
def tw11172416522243479392:=0
def tw568541150826907954:=0
def tw2048574070262882748:=0
def tw6339398383216699970:=0
def tw10933717658934237965:=0
def tw9428190244155970050:=0
def tw3786596980803805690:=0
def tw10167796546890267006:=0
def tw18162964596491180874:=0
def tw402322632891851295:=0
def tw13775303046687809409:=0
def tw16154664495233497729:=0
def tw5887157508200148777:=0
def tw18428611950705442601:=0
def tw10072506488140825994:=0
def tw4100441586263634342:=0
def tw4045017075876935607:=0
def tw7900045234890484908:=0
def tw3438888611108200443:=0
def tw3387965508035480144:=0
def tw4298405120773797288:=0
def tw11782229556371026748:=0
def tw8682986948294466827:=0
def tw12066175629522131902:=0
def tw12105620477289412684:=0
def tw250820041456268333:=0
def tw5070452858442707282:=0
def tw1305237927002808930:=0
def tw15825032987068501677:=0
def tw11775268263673400443:=0
def tw7396315943827643761:=0
def tw14943279677992569706:=0
def tw2891085298194846035:=0
def tw4936132978271116553:=0
def tw2786791026617501151:=0
def tw5249682085517772625:=0
def tw7106867101816668121:=0
def tw16841602981611650771:=0
end PySem.W.Fast
set_option maxRecDepth 100000 in
set_option maxHeartbeats 0 in
theorem PySem.Challenge.cw_farjump_k04_parts_looked_at_holds : PySem.Challenge.rw_farjump_k04_parts_looked_at.Holds := by
 w_on;o_law;k_head;(case hw=>w_witness2)
 k_fill
 refine pI.walk (l:=PySem.Challenge.rw_farjump_k04_parts_looked_at) rfl rfl (λw h Y=>PySem.W.kIn_of Y) ?nb ?F;case nb=>intro w;first|k_is|kernel_rfl|rfl
 case F=>
  intro w mg fa h KX G ZO
  refine' pI.all_mk KX G ZO ?xF ?Bm ?Km ?Bn ?Ko ?v7 ?Kp ?v8 ?pc ?v9 ?Bo ?lz ?oJ ?uO ?yu ?Bp ?Bq ?Kq ?Br ?Kr ?wb ?Ks ?wc ?pe ?wd ?U2 ?RP ?EZ ?kO ?tW ?qS ?tb ?kP ?kQ ?ph ?kR ?jK ?jr ?mr ?nz ?mw ?my ?HE ?Bs ?HF ?HG ?HH ?xG ?Bt ?HI ?HJ ?HK ?nA ?xH ?Bu ?HL ?wg ?yv ?oA ?E1 ?Bv ?wj ?Bw ?mP ?qp ?pq ?yw ?tY ?yx ?mz ?lB ?tZ ?pr ?se ?sf ?wm ?pv ?pz ?t9 ?qr ?ua ?qt ?pA ?ub ?uc ?wn ?ud ?sg ?RQ ?wo ?yy ?wq ?yz ?ue ?yA ?uf ?qu ?ug ?wt ?yB ?wu ?yC ?uh ?yD ?ui ?qv ?uj ?qw ?si ?qy ?sj ?pB ?sk ?pC ?mQ ?pD ?uk ?wv ?ul ?wx ?sr ?wy ?su ?pE ?sv ?Yx ?pF ?lR ?sw ?wz ?zE ?E2 ?xb ?iBP ?oB ?p7 ?p8 ?sx ?lC ?mR ?nG ?nH ?mS ?pG ?qz ?qA ?nI ?qB ?sy ?sA
  (case xF=>k_is)
  (case Bm=>k_is)
  (case Km=>k_is)
  (case Bn=>k_is)
  (case Ko=>k_is)
  (case v7=>k_is)
  (case Kp=>k_is)
  (case v8=>k_is)
  (case pc=>k_is)
  (case v9=>k_is)
  (case Bo=>k_is)
  (case lz=>k_is)
  (case oJ=>k_is)
  (case uO=>k_is)
  (case yu=>k_is)
  (case Bp=>k_is)
  (case Bq=>walk_at "k_rf")
  (case Kq=>walk_at "k_rf")
  (case Br=>walk_at "k_rf")
  (case Kr=>walk_at "k_rf")
  (case wb=>walk_at "k_rf")
  (case Ks=>walk_at "k_rf")
  (case wc=>walk_at "k_rf")
  (case pe=>walk_at "k_rf")
  (case wd=>walk_at "k_rf")
  (case U2=>walk_at "k_mf")
  (case RP=>walk_at "k_mf")
  (case EZ=>walk_at "k_mf")
  (case kO=>walk_at "k_mf")
  (case tW=>walk_at "k_mf")
  (case qS=>walk_at "k_mf")
  (case kP=>k_is)
  (case kQ=>k_is)
  (case ph=>k_is)
  (case kR=>k_is)
  (case jK=>k_is)
  (case jr=>k_is)
  (case mr=>k_is)
  (case nz=>k_is)
  (case mw=>k_is)
  (case my=>k_is)
  (case HE=>k_is)
  (case Bs=>k_is)
  (case HF=>k_is)
  (case HG=>k_is)
  (case HH=>k_is)
  (case xG=>k_is)
  (case Bt=>k_is)
  (case HI=>k_is)
  (case HJ=>k_is)
  (case HK=>k_is)
  (case nA=>k_is)
  (case xH=>k_is)
  (case Bu=>k_is)
  (case HL=>k_is)
  (case wg=>walk_at "k_def")
  (case yv=>walk_at "k_def")
  (case oA=>walk_at "k_def")
  (case E1=>walk_at "k_def")
  (case Bv=>walk_at "k_def")
  (case wj=>walk_at "k_def")
  (case Bw=>walk_at "k_def")
  (case mP=>walk_at "k_def")
  (case qp=>walk_at "k_def")
  (case pq=>walk_at "k_def")
  (case yw=>walk_at "k_def")
  (case tY=>walk_at "k_def")
  (case yx=>walk_at "k_def")
  (case mz=>walk_at "k_def")
  (case lB=>walk_at "k_def")
  (case tZ=>walk_at "k_def")
  (case pr=>walk_at "k_def")
  (case se=>walk_at "k_def")
  (case sf=>walk_at "k_def")
  (case wm=>walk_at "k_def")
  (case pv=>walk_at "k_def")
  (case pz=>walk_at "k_def")
  (case t9=>walk_at "k_def")
  (case qr=>walk_at "k_def")
  (case ua=>walk_at "k_def")
  (case qt=>walk_at "k_def")
  (case pA=>walk_at "k_def")
  (case ub=>walk_at "k_def")
  (case uc=>walk_at "k_def")
  (case wn=>walk_at "k_def")
  (case ud=>walk_at "k_def")
  (case sg=>walk_at "k_def")
  (case RQ=>walk_at "k_def")
  (case wo=>rfl)
  (case yy=>rfl)
  (case wq=>rfl)
  (case yz=>rfl)
  (case ue=>rfl)
  (case yA=>rfl)
  (case uf=>rfl)
  (case qu=>rfl)
  (case ug=>rfl)
  (case wt=>rfl)
  (case yB=>rfl)
  (case wu=>rfl)
  (case yC=>rfl)
  (case uh=>rfl)
  (case yD=>rfl)
  (case ui=>rfl)
  (case qv=>rfl)
  (case uj=>rfl)
  (case qw=>rfl)
  (case si=>rfl)
  (case qy=>rfl)
  (case sj=>rfl)
  (case pB=>rfl)
  (case sk=>rfl)
  (case pC=>rfl)
  (case mQ=>rfl)
  (case pD=>rfl)
  (case uk=>rfl)
  (case wv=>rfl)
  (case ul=>rfl)
  (case wx=>rfl)
  (case sr=>rfl)
  (case wy=>rfl)
  (case su=>rfl)
  (case pE=>rfl)
  (case sv=>rfl)
  (case Yx=>rfl)
  (case zE=>walk_at "k_exi")
  (case E2=>walk_at "k_exi")
  (case pF=>walk_at "k_exc")
  (case lR=>walk_at "k_exc")
  (case sw=>walk_at "k_exc")
  (case wz=>walk_at "k_exc")
  (case xb=>refine' ⟨?x1,?x2,?x3⟩;(case x1=>walk_at "k_kr");(case x2=>walk_at "k_kr");(case x3=>walk_at "k_kr"))
  (case iBP=>walk_at "k_kr")
  (case oB=>walk_at "k_kr")
  (case p7=>walk_at "k_kr")
  (case p8=>walk_at "k_kr")
  (case sx=>walk_at "k_kr")
  (case lC=>first|rfl|kernel_rfl|k_is)
  (case mR=>first|rfl|kernel_rfl|k_is)
  (case nG=>first|rfl|kernel_rfl|k_is)
  (case nH=>first|rfl|kernel_rfl|k_is)
  (case mS=>first|rfl|kernel_rfl|k_is)
  (case pG=>first|rfl|kernel_rfl|k_is)
  (case qz=>first|rfl|kernel_rfl|k_is)
  (case qA=>first|rfl|kernel_rfl|k_is)
  (case nI=>first|rfl|kernel_rfl|k_is)
  (case qB=>first|rfl|kernel_rfl|k_is)
  (case sy=>first|rfl|kernel_rfl|k_is)
  (case sA=>first|rfl|kernel_rfl|k_is)
  case tb=>
   refine' FJ.Ya ?tlo ?tl ?tc ?td ?tr
   case tl=>k_is
   case tlo=>rfl
   case tc=>exact⟨rfl,rfl,rfl⟩
   case td=>rfl
   case tr=>
    iterate 16 walk_at "k_row"
    exact KTD.Rows.nil
#print axioms PySem.Challenge.cw_farjump_k04_parts_looked_at_holds
