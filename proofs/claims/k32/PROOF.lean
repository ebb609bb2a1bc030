import PyProof.Rows.All
import Wide.All
import OpenK.AllK
import Wide.FinOn
import Lean
import PyProof.EqAt
import PyProof.EqKinds
import PyProof.TupleCall
import KE.KSortTup
import KE.KPairComp
import PyProof.P3Eq
import PyProof.DictWalks
import PyProof.StationsW
import PyProof.ExcClass2
import PyProof.ExcBaseAll.ValueError
import PyProof.RulesTry
import PyProof.RulesAs
import PyProof.NsDelKeeps
import PyProof.ExcAttrAll.ValueError
import KE.KIsAll
import PyProof.ReprRoads
import KE.KRevIter
import KE.IntBitsLaws
import PySem.Challenge.RW_farjump_k32_where_parts_begin
set_option Elab.async false
set_option linter.all false
set_option maxRecDepth 100000
set_option maxHeartbeats 4000000
noncomputable section
open Option renaming some->aa,none->ar,isSome_iff_exists->cZ,isSome_map->gM
open PySem renaming wpAny_bind->ae,Value->ai,Shared->av,Addr->aw,wpAny_pure->ay,Heap->aC,sizeLine->aO,Str->aX,Program->bc,mainGlobals->bf,starEach->bg,sizeLine_eq->bp,Around->bH,World->bI,Expr->bJ,Builtin->bM,wpAny_holding->bS,bootBuiltins->bT,sysModules->cb,wpAny_mono->cn,wpAny_truthy_bool->cz,wpAny_field->cB,Obj->cC,wpAny_call_entry->cE,wpAny_Call_Name_kw->cS,Stmt->c5,wpAny_callSpecial?_slot->df,codeAny_mono->dk,Scope->dn,backTo->du,wpAny_seqItems->dz,PyData->dA,bindArgs->dI,NameKind->dJ,wpAny_pyIter_list->dL,attributeBase->dP,valueAt->dS,FuncData->dY,IsPair->d7,cLine->eB,strIterType->eC,assignEach->eF,tupleKind_room_in1->eG,wpAny_setField_rec->eJ,Pos->eL,wpAny_passesOwn->eN,foldedSetIterable->eQ,wpAny_dictEntries->eV,excClassObj->fe,swapsWith->fj,wpAny_newList->fD,wpAny_call->fJ,wpAny_pyIter_tuple->fM,keywordEach->fN,wpAny_setField->fY,call_meets->gv,TriplesOk->gw,sliceBounds->gE,wpAny_execs_nil->gL,wpAny_specialOf->gN,codeAny_builtin->gQ,wpAny_isSubtype_exc->gR,call_meetsIn->gS,rawInt->aeB,wpAny_rule->ahx,wpAny_newObj_type->ahG,Draws->ahH,IsZip->ahI,wpAny_loadPart_at->ahK,Env->ahL,wpAny_standAt->ahO,wpAny_attempt->ahP,tupleKind->ahX,codeAmong->ahY,Keyword->ah4,getItem->ah5,wpAny_updateSeq_pair->ah8,wpAny_letGo->ah9,wpAny_newTuple->aia,codeAny_call_builtin->aic,PassesOwn->aid,scanBound->aig,behindInMarks->aii,wpAny_onRaise->aij,plainId_quiet->aik,typeLookup->ail,closureFor->ain,findBy_of_findIdx?->aio,slot_dict_contains->aip,Walks->aiq,BindsTo->air,backToKw->ais,wpAny_typeOf->ait,callerA->aiu,GenState->aiz,IsPart->aiA,Arguments->aiB,wpAny_isInstance->aiC,notedBy->aiE,ItemsOf->aiF,wpAny_richCompare_same_room->aiG,Operator->aiH,pyIter->aiI,wpAny_newFunctionEnv_cells->aiJ,fitsIndex_both->aiK,dictSetDefault->aiP,preSum->aiQ,wpAny_comprehension_free->aiR,lastMarks->aiT,cellsFrom->aiU,atKey->aiV,seqIndex?->aiW,setFlight->aiX,noteFrame->aiY,isTrue->aiZ,Result->ai0,ExcBaseFacts->ai7,wpAny_notOrdered_dict->ai8,wpAny_loadName_local->ai9,bindL->aja,bindC->ajb,wpAny_letTemporaryGo->ajc,getAttr?->ajd,wpAny_loadName_cell->aje,builtinsNs->ajf,wpAny_Name->ajg,findBy->ajh,typeIs_str->aji,typeIs_int->ajj,getattributeRaised->ajk,defaultsOf->ajl,isInstance->ajm,standAt->ajn,wpAny_assign_Name->ajo,wpAny_sequenceKey->ajp,slot_list_getitem->ajq,wpAny_pyIter_strU->ajr,wpAny_pyIter_enum->ajs,dictGet->ajt,slot_dict_getitem->aju,callAny->ajv,wpAny_dictFind_of->ajw,OsState->ajx,wpAny_pyHash_str->ajy,wpAny_eqBool_str->ajz,storeName->ajA,wpAny_execs_cons->ajB,inplaceOp->ajC,getMethod->ajD,noFill_tuple_add->ajE,wpAny_pyIter_zip->ajF,wpAny_operating->ajG,codeAny_of_tree->ajI,wpAny_dictEpoch->ajJ,wpAny_ite_split->ajK,Tok->ajL,Drawn->ajM,wpAny_loadPart->ajN,recursionLimit->ajO,letTemporaryGo->ajQ,Moved->ajS,callType_codes->ajT,swapsWithSole->ajU,swappedStores->ajV,intBits_le_64->ajW,seq_tuple_add->ajX,call_list_seq->ajY
open Bool renaming true->ag,false->au,false_ne_true->aS,and_eq_true->aZ,false_eq_true->dX,eq_iff_iff->d9
open PySem.Heap renaming get?_push_of_some->aj,lt_size->aM,get?_push_size->aP,SameBut->bP,size_push->cj,get?_update_other->cA,get?_none_of_le->cG,get?_update_self->cY,get?_update_ne->gz,get?_push_ne->gX,size_update->ahE
open List renaming getElem?_eq_some_iff->ak,length_map->ao,getElem?_eq_getElem->ax,mem_cons_of_mem->aB,length_append->aE,mem_cons->aH,getElem?_set_ne->aJ,mem_cons_self->aN,size_toArray->aR,length_cons->aU,prefix_refl->aV,getElem?_append_left->aY,map_append->ba,getElem?_map->bh,append_assoc->bi,mem_singleton->bj,getElem?_set_self->bn,map_cons->bq,mem_append->bt,append_nil->bu,getD_eq_getElem?_getD->bv,map_map->bx,mem_of_getElem?->bA,mem_append_right->bL,Nodup->bN,filter_cons->bO,mem_map->bQ,all_eq_true->bU,not_mem_nil->bV,mem_append_left->bW,replicate->bX,length_nil->cm,range->cy,length->cI,length_zip->cK,getElem?_zip_eq_some->cL,mem_iff_getElem?->cO,prefix_append->cQ,zip_cons_cons->cR,getElem?_append_right->cU,length_range->cV,any_cons->c7,zipWith->c8,length_set->de,cons_ne_nil->di,pairwise_cons->dj,length_singleton->dm,nodup_cons->dw,nodup_append->dB,length_take->dM,length_drop->dN,lookup_cons->dO,zipWith_cons_cons->dW,nil_append->eA,getElem?_eq_none->eD,flatMap_cons->eK,nodup_nil->eO,getElem_inj->eP,cons_append->eU,pairwise_iff_getElem->eY,map_congr_left->eZ,Pairwise->fh,length_zipIdx->ft,getElem?_inj->fF,take_of_length_le->fH,getElem_mem->fQ,map_snd_zip->fR,all_cons->fV,lookup->fZ,mem_filter->gg,of_mem_zip->gj,filterMap_cons->gu,length_zipWith->gy,map_nil->gA,mem_range->gG,set_cons_succ->gH,filter_append->gK,reverse_cons->gU,not_lt->gW,map_drop->hG,length_eq_zero_iff->ahB,Perm->ahD,toArray->ahJ,forIn_cons->ahN,getElem?_zipWith->ahT,length_filter_le->ahU,mem_zipIdx_iff_le_and_getElem?_sub->ah1,getElem?_mapIdx->ah3
open Nat renaming le_of_ble_eq_true->aq,le_refl->aD,ne_of_lt->bd,lt_of_lt_of_le->bw,zero_le->bD,le_trans->bG,zero_add->bR,le_succ->cx,lt_irrefl->cD,lt_succ_of_lt->cW,ne_of_gt->dh,le_of_lt->dF,lt_of_le_of_lt->d6,le_succ_of_le->eM,lt_succ_self->eW,add_sub_cancel_left->fu,succ_le_succ->fX,le_of_eq->gC,lt_trans->gD
open Prod renaming fst->aQ,snd->dD
open PySem.Value renaming ref->bE,none->cM,type->c9,isStrOf->d8,isInt->ahW
open Option.some renaming inj->bF
open PySem.Obj renaming mapSeq->bY,data_mapFields->c6,mapFields->dH,isFreed_of_fields->eI
open PySem.SeqAt renaming EqAt->bZ,readOf->ahF
open Array renaming length_toList->b8,getElem?_toList->ck,getElem?_eq_some_iff->cT,getElem?_eq_getElem->dq
open Ne renaming symm->b9
open PyProof.Rows renaming seqObj->ci,callWith_type1->cN,StrsAre->cX,listUpdate_at->dR,envOfC->dZ,slot_tuple_getitem->fg,get?_update_seq->fE,AllBare->fS,seqEpoch_at->gF,strKind->g9,size_push'->ahy,arrOf->ahz,SortedToK->ahZ,wpS_bind->ah0,step_dedup->ah6,entry_list_sort->ah7,slot_list_sort->aib,pendingOf->aie,pairsOf->aif,IsTup->aih,plain_sorted->aiv,entry_sorted->aiw,listItems_at->aix,pairsOf_size->aiy,kind_sorted->aiD,args_list_sort->aiL,wpS_pure->aiM,failedOf->aiN,setPending->aiO,strKind_oneLt->aiS,subscriptTail_builtinR->ai1,IntsAre->ai2,sortedS->ai3,args_sorted1->ai4,keyKind_strs->ai5,collect_list->ai6,list_sort_plain->ajH,slicePart_none->ajP,sortedHeap_old->ajR,sortedHeap_at->ajZ
open Int renaming eq_ofNat_of_zero_le->cu,emod_nonneg->ahV
open False renaming elim->cw
open PySem.Heap.SameBut renaming update->cJ
open Sum renaming inr->dg
open True renaming intro->dG
open PySem.Builtin.SmallTypes renaming nextOf->dQ,ownedTupleIsFree->dU
open PySem.NameKind renaming free->eS
open PySem.AutoSeq1 renaming wpAny_loadPart'->eT
open PySem.F renaming slot_tuple_iterator_next->eX,slot_zip_next->ah2
open PySem.Builtin.List renaming listExtendWith->fO,listFitsIndex->fP,listTooLong->gk
open PySem.Builtin.Slice renaming slicePlaces->fU
open List.Perm renaming refl->gf
open PySem.Builtin.Str renaming occurrences->gB
open PySem.Builtin.Dict renaming samePairs->gJ
open PySem.Calls renaming call_function_entry->gO
open ForInStep renaming yield->gY
open PyProof.Rows.F renaming entry_set_update_loop->gZ,plain_set_update_loop->g8
open Or renaming inr->ahA,inl->ahS
open PySem.PyData renaming strOk->ahC
open List.Pairwise renaming nil->ahM,map->ahR
open PySem.Str renaming ofString->ahQ
open PySem.F renaming plainAttrs_list->af,type_list_append->aF,slot_list_append->bb
open PySem.W renaming Frag->bz,findIn->cP,kitOne->dt,nsIn->dy,mg_of->dV,mg_none_of->ej,fnOf->eu,keepIn->ew
section
open PySem PySem.Spec PyProof.Rows
abbrev cr:="list"
abbrev eH:="_law_draws_here"
abbrev eR:="thing"
abbrev fi:="tuple"
abbrev fk:="told"
abbrev fq:="self"
abbrev fv:="_law_rows"
abbrev fw:="dict"
abbrev fx:="_law_name_here"
abbrev fy:="__debug__"
abbrev gc:="set"
abbrev gr:="rows"
abbrev hB:="parts"
abbrev hD:="_law_marks"
abbrev hH:="int"
abbrev hJ:="str"
abbrev hY:="border"
abbrev ic:="by_name"
abbrev im:="numbers"
abbrev iv:="part"
abbrev ix:="bool"
abbrev iL:="_law_k"
abbrev jm:="sorted"
abbrev kf:="_law_parts_here"
abbrev kv:="table"
abbrev ky:="_law_kind"
abbrev kz:="<lambda>"
abbrev kF:="asked"
abbrev la:="goes_on"
abbrev lj:="_law_row"
abbrev ll:="zip"
abbrev lw:="words"
abbrev ly:="enumerate"
abbrev ma:="object.__class__"
abbrev me:="_law_most"
abbrev mm:="__init__"
abbrev mr:="form"
abbrev mu:="things"
abbrev mv:="name"
abbrev mT:="box"
abbrev mX:="mark"
abbrev nb:="bare"
abbrev ng:="base"
abbrev nk:="__name__"
abbrev nn:="BaseException"
abbrev nu:="reversed"
abbrev nP:="_law_script"
abbrev nQ:="_law_cell"
abbrev nR:="_law_at"
abbrev oi:="range"
abbrev ol:="type.__call__"
abbrev oo:="len"
abbrev ov:="word"
abbrev oB:="marks"
abbrev oD:="_law_next"
abbrev oW:="_law_some"
abbrev pa:="object"
abbrev pd:="jumpby"
abbrev pe:="row"
abbrev ph:="jump"
abbrev pj:="places"
abbrev pr:="layout"
abbrev pu:="__class__"
abbrev px:="isinstance"
abbrev py:="number"
abbrev pS:="alike"
abbrev qa:="jumpif"
abbrev qb:="load"
abbrev qc:="_law_many"
abbrev qe:="_law_found"
abbrev qp:="_law_border"
abbrev qq:="_law_base"
abbrev qs:="_law_layout"
abbrev qx:="ValueError.__new__"
abbrev qZ:="stop"
abbrev ra:="call"
abbrev rb:="_law_kinds"
abbrev rh:="NoneType"
abbrev rk:="list_reverseiterator"
abbrev rl:="back"
abbrev ro:="is_whole"
abbrev sm:="MarkRow"
abbrev sC:="place"
abbrev sR:="_law_word"
abbrev sU:="__get__"
abbrev tj:="getset_descriptor.__get__"
abbrev tF:="is_word"
abbrev tP:="_law_draws"
abbrev tS:="__classdict__"
abbrev uJ:="__setattr__"
abbrev vg:="object.__setattr__"
abbrev vk:="tuple_iterator"
abbrev vl:="ValueError"
abbrev vo:="ValueError.__init__"
abbrev vp:="code_row"
abbrev vr:="counts_as_mark"
abbrev vu:="marks_among"
abbrev vv:="others_among"
abbrev vx:="first_but_marks"
abbrev vE:="strong_parts"
abbrev vG:="without_marks"
abbrev wh:="at_place"
abbrev wk:="let_by"
abbrev wr:="look_at_border"
abbrev xw:="starts_of"
abbrev xO:="starts"
abbrev xP:="_law_cell_at"
abbrev yu:="_law_name"
abbrev yw:="_law_sort"
abbrev yC:="_law_cells"
abbrev yM:="_law_without"
abbrev yN:="_law_lengths"
abbrev za:="_law_bones"
abbrev zb:="_law_bad"
abbrev zi:="_law_kept"
abbrev zr:="_law_handed"
abbrev zv:="dict_itemiterator"
abbrev zZ:="Exception"
abbrev uaa:="__getattribute__"
abbrev uab:="is_list_of"
abbrev uac:="NumbersRow"
abbrev uad:="are_parts"
abbrev uae:="look_behind_rows"
abbrev uaf:="looked_at"
abbrev uag:="marks_of_part"
abbrev uah:="look_for_twice"
abbrev uai:="places_in"
abbrev uaj:="bare_rows"
abbrev uak:="may_aim_at"
abbrev ual:="look_at_aims"
abbrev uam:="look_at_base"
abbrev uan:="least_layout"
abbrev uao:="_law_more"
abbrev uap:="_law_ends"
abbrev uaq:="_law_code"
abbrev uar:="_law_block"
abbrev uas:="_law_skeleton"
abbrev uat:="_law_pick"
abbrev uau:="_law_aimed"
abbrev uav:="_law_parts"
abbrev uaw:="_law_bare"
abbrev uax:="_law_refused"
abbrev uay:="dict_reverseitemiterator"
abbrev uaz:="odict_iterator"
abbrev uaA:="itertools.zip_longest"
abbrev uaB:="itertools.pairwise"
abbrev uaC:="str_ascii_iterator"
abbrev uaD:="dict.update.loop"
abbrev uaE:="BaseException.__getattribute__"
abbrev uaF:="GREATEST_NUMBER"
abbrev uaG:="MOST_ROWS_OF_PART"
abbrev uaH:="GREATEST_BORDER"
abbrev uaI:="CodeRow.goes_on"
abbrev uaJ:="LastRow.goes_on"
abbrev uaK:="AlikeRow.asked"
abbrev uaL:="LeaveRow.goes_on"
abbrev uaM:="TableRow.asked"
abbrev uaN:="_law_sort_here"
abbrev uaO:="list_reverseiterator.__length_hint__"
abbrev uaP:="abcdefghijklmnopqrstuvwxyz"
namespace L2
abbrev Key:=Sum Int aX
def CQ:Key->ai->Bool
 |.inl k,v=>ahW k v
 |.inr x,v=>d8 x v
def af1(w:bI):Key->Int
 |.inl k=>hashInt k
 |.inr x=>hashStr w x
theorem k8:∀{k:Key} {v:ai},CQ k v=ag->(∃i t,k=Sum.inl i/\v=ai.int i t)\/(∃x t,k=dg x/\v=ai.str x t)
 |.inl i,v,h=>by obtain⟨t,e⟩:=ai.isInt_shape h;exact .inl ⟨i,t,rfl,e⟩
 |.inr x,v,h=>by obtain⟨t,e⟩:=ai.isStrOf_shape h;exact .inr ⟨x,t,rfl,e⟩
def Rg(i:Int)(t:ajL):CQ (.inl i) (.int i t)=ag:=by simp[CQ,ahW]
def Rh(x:aX)(t:ajL):CQ (.inr x) (.str x t)=ag:=by simp[CQ,d8]
def aa1(a b:Int):decide ((Sum.inl a:Key)=Sum.inl b)=(a==b):=by
 by_cases e:a=b
 .subst e;simp
 .have h:¬(Sum.inl a:Key)=Sum.inl b:=λq=>e (Sum.inl.inj q);rw[decide_eq_false h];exact(beq_eq_false_iff_ne.mpr e).symm
def aa2(a b:aX):decide ((dg a:Key)=dg b)=decide (a=b):=by
 by_cases e:a=b
 .simp
 .have h:¬(dg a:Key)=dg b:=λq=>e (dg.inj q);rw[decide_eq_false h,decide_eq_false e]
def aa3(a:Int)(b:aX):decide ((Sum.inl a:Key)=dg b)=au:=decide_eq_false (λq=>nomatch q)
def aa4(a:aX)(b:Int):decide ((dg a:Key)=Sum.inl b)=au:=decide_eq_false (λq=>nomatch q)
def i7(prog:bc)(w:bI):PySem.KeyKind prog w Key where
 is:=CQ
 hash:=af1 w
 inj:=λv a b ha hb=>by
  rcases k8 ha with⟨i,t,rfl,rfl⟩|⟨x,t,rfl,rfl⟩
  .rcases k8 hb with⟨j,u,rfl,e⟩|⟨y,u,rfl,e⟩
   .injection e with e1 _;rw[e1]
   .exact nomatch e
  .rcases k8 hb with⟨j,u,rfl,e⟩|⟨y,u,rfl,e⟩
   .exact nomatch e
   .injection e with e1 _;rw[e1]
 byValue:=λk v h=>by rcases k8 h with⟨i,t,rfl,rfl⟩|⟨x,t,rfl,rfl⟩<;>rfl
 pyHash:=λc h=>by
  rcases k8 c with⟨i,t,rfl,rfl⟩|⟨x,t,rfl,rfl⟩
  .exact wpAny_pyHash_int h
  .exact ajy h
 eqBool:=λf c h=>by
  rcases k8 f with⟨i,t,rfl,rfl⟩|⟨x,t,rfl,rfl⟩
  .rcases k8 c with⟨j,u,rfl,rfl⟩|⟨y,u,rfl,rfl⟩
   .rw[aa1] at h;exact wpAny_eqBool_int h
   .rw[aa3] at h;exact bZ.int_str i t y u _ _ _ _ h
  .rcases k8 c with⟨j,u,rfl,rfl⟩|⟨y,u,rfl,rfl⟩
   .rw[aa4] at h;exact bZ.str_int x t j u _ _ _ _ h
   .rw[aa2] at h;exact ajz h
 «strs»:=λk x t v h=>by
  rcases k8 h with⟨i,u,rfl,e⟩|⟨y,u,rfl,e⟩
  .exact nomatch e
  .injection e with e1 _;subst e1;cases v<;>rfl
def aa5(prog:bc)(w:bI)(k:Key)(v:ai):(i7 prog w).is k v=CQ k v:=rfl
def JD(prog:bc)(w:bI)(i:Int)(t:ajL):(i7 prog w).is (.inl i) (.int i t)=ag:=Rg i t
def JH(prog:bc)(w:bI)(x:aX)(t:ajL):(i7 prog w).is (.inr x) (.str x t)=ag:=Rh x t
inductive V where
 |non|bl (b:Bool)|int (i:Int)|str (x:aX)|Tt (b:Array UInt8)|flt (b:UInt64)|ref (a:aw)|ty (n:String)
 deriving DecidableEq
def RelV:V->ai->Prop
 |.non,u=>u=cM
 |.bl b,u=>u=ai.bool b
 |.int i,u=>∃t,u=ai.int i t
 |.str x,u=>∃t,u=ai.str x t
 |.Tt b,u=>∃t,u=ai.bytes b t
 |.flt b,u=>∃t,u=ai.float b t
 |.ref a,u=>u=bE a
 |.ty n,u=>u=c9 n
abbrev Vals:List V->List ai->Prop:=Paired RelV
theorem Vals.length(r:Vals xs us):xs.length=us.length:=Paired.length r
theorem Vals.get:∀{xs:List V} {us:List ai} {i:Nat} {x:V},Vals xs us->xs[i]?=aa x->∃u,us[i]?=aa u/\RelV x u
 |_,_,_,_,.nil,e=>by simp at e
 |_,_,0,_,.cons r _,e=>by simp at e;subst e;exact⟨_,rfl,r⟩
 |_,_,i+1,x,.cons _ t,e=>by obtain⟨u,a,b⟩:=Vals.get t (by simpa using e);exact⟨u,by simpa using a,b⟩
theorem Vals.set{x:V}{u:ai}(r:RelV x u):∀{xs:List V} {us:List ai} (i:Nat),Vals xs us->Vals (xs.set i x) (us.set i u)
 |_,_,_,.nil=>.nil
 |_,_,0,.cons _ t=>.cons r t
 |_,_,i+1,.cons q t=>.cons q (Vals.set r i t)
theorem Vals.append:∀{xs a:List V} {us ws:List ai},Vals xs us->Vals a ws->Vals (xs++a) (us++ws)
 |_,_,_,_,.nil,s=>s
 |_,_,_,_,.cons r t,s=>.cons r (Vals.append t s)
theorem Vals.take:∀{xs:List V} {us:List ai} (n:Nat),Vals xs us->Vals (xs.take n) (us.take n)
 |_,_,0,_=>.nil
 |_,_,_+1,.nil=>.nil
 |_,_,n+1,.cons r t=>.cons r (Vals.take n t)
theorem Vals.drop:∀{xs:List V} {us:List ai} (n:Nat),Vals xs us->Vals (xs.drop n) (us.drop n)
 |_,_,0,r=>r
 |_,_,_+1,.nil=>.nil
 |_,_,n+1,.cons _ t=>Vals.drop n t
def sH:Option V->Option ai->Prop
 |some v,aa u=>RelV v u
 |none,ar=>True
 |_,_=>False
def KV {a:Type}:List (a×V)->List (a×ai)->Prop:=Paired λ(p:a×V) (q:a×ai)=>p.1=q.1/\RelV p.2 q.2
def kV:Key->V
 |.inl i=>.int i
 |.inr x=>.str x
inductive HO where
 /- - a list-/
 |lst (xs:List V)
 /- - a tuple (never changes)-/
 |tup (xs:List V)
 /- - a dict whose keys are ints and texts;one whose keys are tuples of ints and texts (the empty one is both)-/
 |dK (iB:List (Key×V))|dT (iB:List (List Key×V))
 /- - a set of ints:iM members,iM size-/
 |set (S:Int->Bool) (n:Nat)
 /- - an instance of the class at C,iM dict at dx,iM attributes-/
 |ins (C dx:aw) (fs:List (aX×V))
 /- - the dict of the instance at x-/
 |own (x:aw)
 /- - the dict of an exception-/
 |xd (fs:List (aX×V))
 /- - a bound method,f of x-/
 |met (f x:aw)
 /- - a range object lo,lo+1,.. below hi-/
 |rng (lo hi:Int)
 /- - a thing ahq is known to the object (the af2;a dict while a loop walks it):read,never written while it is so-/
 |qd (o:cC) (u:HO)
 /- - a code adF table-/
 |y6 (ps:Array ai)
 |dE (ep:Nat) (iB:List (Key×V))
 |xc (C:aw) (fs:List (aX×V))
 /- - any other thing,by ahr is ag of iM one object (a def of ahm own:ahs a S n:=HO.ext λh=>..)-/
 |ext (φ:aC->Prop)
abbrev Hp:=aw->Option HO
def upd(H:Hp)(a:aw)(o:HO):Hp:=λb=>if b=a then aa o else H b
def iE:upd H a o a=aa o:=by unfold upd;rw[if_pos rfl]
def ii(h:b≠a):upd H a o b=H b:=by unfold upd;rw[if_neg h]
def adG{H:Hp}(h:H a=aa o)(c:H b=aa u)(d:o≠u):a≠b:=by intro e;subst e;rw[h] at c;exact d (bF c)
def j5{H:Hp}(h:H a=aa o)(c:H b=ar):a≠b:=by intro e;subst e;rw[h] at c;cases c
section
variable (P:bc) (w:bI)
def kx (H:Hp)(h:aC)(a:aw):HO->Prop
 |.lst xs=>xs.length<=aO/\∃(iM:List ai) (n:Nat),Vals xs iM/\h.get? a=aa {cls:=.type cr,data:=.seq iM.toArray n}
 |.tup xs=>xs.length<=aO/\∃iM:List ai,Vals xs iM/\aih h a iM.toArray
 |.dK e=>e.length<=aO/\(a==cb)=au/\∃g,KV e g/\h.DictOf (i7 P w) a g
 |.dT e=>e.length<=aO/\(a==cb)=au/\∃xs:List (List Key×aw×ai),
   Paired (λ(p:List Key×V) (q:List Key×aw×ai)=>p.1=q.1/\H q.2.1=aa (.tup (p.1.map kV))/\RelV p.2 q.2.2) e xs/\
   ∃o es j,h.get? a=aa o/\o.ExactDict/\o.data=.dict es j/\es.toList=xs.map (entryOfKey (ahX (i7 P w)))/\(xs.map (·.1)).Nodup
 |.set S n=>h.SetOf (intKind P w) a S n
 |.ins C b fs=>H b=aa (.own a)/\fs.length<=1000/\b≠a/\h.get? a=aa (W.instObj C b)/\
   ∃c,h.Ns1 b c/\(∀f,sH (fs.lookup f) (c f))/\PySem.Within c (fs.map (·.1))
 |.own _=>∃o,h.get? a=aa o
 |.xd fs=>∃c,h.Ns1 a c/\∀f,sH (fs.lookup f) (c f)
 |.rng lo hi=>∃t u v,h.get? a=aa {cls:=.type oi,data:=.fields #[.int lo t,.int hi u,.int 1 v]}
 |.qd o u=>h.get? a=aa o/\kx H h a u
 |.y6 y=>h.get? a=aa {cls:=.none,data:=.fields y}
 |.dE j e=>e.length<=aO/\(a==cb)=au/\∃g,KV e g/\h.DictAt (i7 P w) a g j
 |.xc C fs=>∃i g,h.get? a=aa i/\i.cls=.ref C/\i.data=.fields g/\((i.dict=ar/\fs=[])\/∃b c,i.dict=aa b/\b≠a/\H b=aa (.own a)/\h.Ns1 b c/\∀f,sH (fs.lookup f) (c f))
 |.met f x=>h.get? a=aa (W.methodObj (.ref f) (.ref x))
 |.ext m=>m h/\(∃o,h.get? a=aa o)/\∀r s:aC,m r->(∀o,r.get? a=aa o->s.get? a=aa o)->m s
def tZ (H:Hp)(h:aC):Prop:=∀a o,H a=aa o->kx P w H h a o
end
section
variable {h h':aC}
theorem kx.lt(x:kx P w H h a o):a<h.objs.size:=by
 cases o with
 |lst xs=>obtain⟨_,_,_,_,e⟩:=x;exact aM e
 |tup xs=>obtain⟨_,_,_,p⟩:=x;exact p.lt
 |dK b=>obtain⟨_,_,_,_,o,_,_,e,_⟩:=x;exact aM e
 |dT b=>obtain⟨_,_,_,_,o,_,_,e,_⟩:=x;exact aM e
 |set S n=>obtain⟨o,_,_,_,e,_⟩:=x;exact aM e
 |ins C c fs=>obtain⟨_,_,_,e,_⟩:=x;exact aM e
 |own y=>obtain⟨_,e⟩:=x;exact aM e
 |xd fs=>obtain⟨_,⟨_,_,_,e,_⟩,_⟩:=x;exact aM e
 |rng lo hi=>obtain⟨_,_,_,e⟩:=x;exact aM e
 |qd ob u=>obtain⟨e,_⟩:=x;exact aM e
 |y6 g=>exact aM (x)
 |dE i b=>obtain⟨_,_,_,_,o,_,e,_⟩:=x;exact aM e
 |xc C fs=>obtain⟨_,_,e,_⟩:=x;exact aM e
 |met f y=>exact aM (x)
 |ext j=>obtain⟨_,⟨_,e⟩,_⟩:=x;exact aM e
theorem Paired.aa6:∀{c:List α} {e:List β},Paired F c e->(∀a b,F a b->G a b)->Paired G c e
 |_,_,.nil,_=>.nil
 |_,_,.cons r t,f=>.cons (f _ _ r) (Paired.aa6 t f)
def kx.vm(x:kx P w H h a o)(k:∀b u,(b=a\/H b=aa (.own a))->h.get? b=aa u->h'.get? b=aa u)
(s:∀b,H b=aa (.own a)->H' b=aa (.own a))(ht:∀b xs,H b=aa (.tup xs)->H' b=aa (.tup xs)):kx P w H' h' a o:=by
 induction o with
 |lst xs=>obtain⟨z,iM,n,r,e⟩:=x;exact⟨z,iM,n,r,k _ _ (.inl rfl) e⟩
 |tup xs=>obtain⟨z,iM,r,ob,e,c⟩:=x;exact⟨z,iM,r,ob,k _ _ (.inl rfl) e,c⟩
 |dK A=>obtain⟨z,y,i,r,ob,es,g,e,c⟩:=x;exact⟨z,y,i,r,ob,es,g,k _ _ (.inl rfl) e,c⟩
 |dT A=>
  obtain⟨z,y,xs,r,ob,es,g,e,c⟩:=x;exact⟨z,y,xs,Paired.aa6 r λp q z=>⟨z.1,ht _ _ z.2.1,z.2.2⟩,ob,es,g,k _ _ (.inl rfl) e,c⟩
 |set S n=>obtain⟨ob,es,g,t,e,c⟩:=x;exact⟨ob,es,g,t,k _ _ (.inl rfl) e,c⟩
 |ins C B fs=>
  obtain⟨d,z,ne,e,j,⟨od,es,g,e2,c⟩,r⟩:=x;exact⟨s _ d,z,ne,k _ _ (.inl rfl) e,j,⟨od,es,g,k _ _ (.inr d) e2,c⟩,r⟩
 |own y=>obtain⟨ob,e⟩:=x;exact⟨ob,k _ _ (.inl rfl) e⟩
 |xd fs=>obtain⟨j,⟨od,es,g,e,c⟩,r⟩:=x;exact⟨j,⟨od,es,g,k _ _ (.inl rfl) e,c⟩,r⟩
 |rng lo hi=>obtain⟨t,u,v,e⟩:=x;exact⟨t,u,v,k _ _ (.inl rfl) e⟩
 |qd ob u G=>obtain⟨e,q⟩:=x;exact⟨k _ _ (.inl rfl) e,G q⟩
 |dE g A=>obtain⟨z,y,i,r,ob,es,e,c⟩:=x;exact⟨z,y,i,r,ob,es,k _ _ (.inl rfl) e,c⟩
 |xc C fs=>
  obtain⟨I,i,e,c1,J,m⟩:=x;refine⟨I,i,k _ _ (.inl rfl) e,c1,J,?_⟩;rcases m with m|⟨B,j,L,M,E,⟨od,es,g,e2,c⟩,N⟩
  .exact .inl m
  .exact .inr ⟨B,j,L,M,s _ E,⟨od,es,g,k _ _ (.inr E) e2,c⟩,N⟩
 |y6 O=>
  have e:=x;exact k a _ (.inl rfl) e
 |met f y=>
  have e:=x;exact k a _ (.inl rfl) e
 |ext Q=>obtain⟨p,⟨o,e⟩,st⟩:=x;exact⟨st _ _ p λo q=>k _ _ (.inl rfl) q,⟨o,k _ _ (.inl rfl) e⟩,st⟩
theorem tZ.lt(x:tZ P w H h)(e:H a=aa o):a<h.objs.size:=(x a o e).lt
def tZ.fresh(x:tZ P w H h)(e:h.objs.size<=a):H a=ar:=by
 cases q:H a with
 |none=>rfl
 |some u=>exact absurd (bw (x.lt q) e) (cD _)
def tZ.kept(x:tZ P w H h)(k:∀b u,h.get? b=aa u->h'.get? b=aa u):tZ P w H h':=λa o e=>
 (x a o e).vm (λb u _ q=>k b u q) (λ_ q=>q) λ_ _ q=>q
def tZ.laid(x:tZ P w H h)(k:∀b u,h.get? b=aa u->h'.get? b=aa u)(f:h.objs.size<=a)(new:kx P w (upd H a o) h' a o):tZ P w (upd H a o) h':=λb u e=>by
 have hn:=x.fresh f;by_cases hb:b=a
 .subst hb;rw[iE] at e;cases e;exact new
 .rw[ii hb] at e;exact(x b u e).vm (λc v _ q=>k c v q) (λc q=>by rw[ii (j5 q hn)];exact q) λc xs q=>by rw[ii (j5 q hn)];exact q
end
def Rd (H:Hp)(a:aw)(u:HO):Prop:=H a=aa u\/∃o,H a=aa (.qd o u)
def Rd.of{H:Hp}{a:aw}{u:HO}(h:H a=aa u):Rd H a u:=.inl h
def Rd.ok(r:Rd H a u)(x:tZ P w H h):kx P w H h a u:=by
 rcases r with r|⟨o,r⟩
 .exact x a u r
 .obtain⟨_,q⟩:=x a _ r;exact q
def Mut:Option HO->Prop
 |some (.lst _)=>True
 |some (.dK _)=>True
 |some (.dT _)=>True
 |some (.set _ _)=>True
 |some (.ins _ _ _)=>True
 |some (.ext _)=>True
 |some (.dE _ _)=>True
 |_=>False
section
variable {h h':aC}
def tZ.write(ok:tZ P w H h)(f:Mut (H x))(m:e=x\/H e=aa (.own x))(k:∀b u,b≠e->h.get? b=aa u->h'.get? b=aa u)(i:∃u,h'.get? e=aa u)
(new:kx P w (upd H x o') h' x o'):tZ P w (upd H x o') h':=λb u q=>by
 have a:∀c y,H c=aa (.own y)->c≠x:=λc y r z=>by subst z;rw[r] at f;exact f
 have j:∀c xs,H c=aa (.tup xs)->c≠x:=λc xs r z=>by subst z;rw[r] at f;exact f
 by_cases hb:b=x
 .subst hb;rw[iE] at q;cases q;exact new
 .rw[ii hb] at q;by_cases g:b=e
  .have n:H b=aa (.own x):=by
    rcases m with z|z
    .exact absurd (g.trans z) hb
    .rw[g];exact z
   rw[q] at n;cases n;obtain⟨v,o⟩:=i;exact⟨v,by rw[g];exact o⟩
  .refine(ok b u q).vm (λc v hc r=>k c v ?_ r) (λc r=>by rw[ii (a c b r)];exact r) λc xs r=>by rw[ii (j c xs r)];exact r
   rcases hc with rfl|hc
   .exact g
   .rintro rfl
    rcases m with z|z
    .exact a c b hc z
    .rw[hc] at z;cases z;exact hb rfl
end
structure Un(fs ex:List aw)(H H':Hp)(h h':aC):Prop where
 keep:∀b o,h.get? b=aa o->H b=ar->b∉fs->b∉ex->h'.get? b=aa o
 slot:∀b o,h.get? b=aa o->H b=ar->b∈fs->b∉ex->∃sl,h'.get? b=aa {o with slots:=sl}
 free:∀b o,h.get? b=aa o->H b=ar->b∉ex->H' b=ar
 there:∀b o,h.get? b=aa o->b∉ex->∃o',h'.get? b=aa o'
 ua:∀b xs,H b=aa (.tup xs)->H' b=aa (.tup xs)
 rR:∀b o u,H b=aa (.qd o u)->H' b=aa (.qd o u)
 tz:∀b ps,H b=aa (.y6 ps)->∃more,H' b=aa (.y6 (ps++more))
section
variable {fs:List aw} {h h1 h':aC} {a:aw}
def Un.any(u:Un fs ex H H1 h h1)(q:h.get? b=aa ob)(n:H b=ar)(c:b∉ex):∃sl,h1.get? b=aa {ob with slots:=sl}:=by
 by_cases hb:b∈fs
 .exact u.slot b ob q n hb c
 .exact⟨ob.slots,u.keep b ob q n hb c⟩
def Un.trans(a:Un fs ex H H1 h h1)(b:Un fs ex H1 H2 h1 h2):Un fs ex H H2 h h2 where
 keep:=λc ob q n hc f=>b.keep c ob (a.keep c ob q n hc f) (a.free c ob q n f) hc f
 slot:=λc ob q n hc f=>by obtain⟨sl,e1⟩:=a.slot c ob q n hc f;obtain⟨g,e2⟩:=b.slot c _ e1 (a.free c ob q n f) hc f;exact⟨g,e2⟩
 free:=λc ob q n f=>by obtain⟨i,e1⟩:=a.there c ob q f;exact b.free c i e1 (a.free c ob q n f) f
 there:=λc ob q f=>by obtain⟨i,e1⟩:=a.there c ob q f;exact b.there c i e1 f
 ua:=λc xs q=>b.ua c xs (a.ua c xs q)
 rR:=λc ob xs q=>b.rR c ob xs (a.rR c ob xs q)
 tz:=λc j q=>by obtain⟨m,e1⟩:=a.tz c j q;obtain⟨p,e2⟩:=b.tz c _ e1;exact⟨m++p,by rw[e2,Array.append_assoc]⟩
def Un.kept(k:∀b u,h.get? b=aa u->h'.get? b=aa u):Un fs ex H H h h':=
 ⟨λb ob q _ _ _=>k b ob q,λb ob q _ _ _=>⟨ob.slots,k b ob q⟩,λ_ _ _ n _=>n,λb ob q _=>⟨ob,k b ob q⟩,λ_ _ q=>q,λ_ _ _ q=>q,λ_ c q=>⟨#[],by rw[q];simp⟩⟩
def Un.refl:Un fs ex H H h h:=Un.kept λ_ _ q=>q
def Un.laid(k:∀b u,h.get? b=aa u->h'.get? b=aa u)(c:h.objs.size<=a)(hn:H a=ar):Un fs ex H (upd H a o) h h' where
 keep:=λb u q _ _ _=>k b u q
 slot:=λb u q _ _ _=>⟨u.slots,k b u q⟩
 free:=λb u q n _=>by rw[ii (bd (bw (aM q) c))];exact n
 there:=λb u q _=>⟨u,k b u q⟩
 ua:=λb xs q=>by rw[ii (j5 q hn)];exact q
 rR:=λb u xs q=>by rw[ii (j5 q hn)];exact q
 tz:=λb f q=>⟨#[],by rw[ii (j5 q hn),q];simp⟩
def Un.write(c:Mut (H x))(j:e=x\/H e=aa (.own x))(k:∀b u,b≠e->h.get? b=aa u->h'.get? b=aa u)(f:∃u,h'.get? e=aa u):Un fs ex H (upd H x o) h h':=by
 have g:∀b,H b=ar->b≠x:=λb n z=>by subst z;rw[n] at c;exact c
 have hb:∀b,H b=ar->b≠e:=λb n z=>by
  subst z;rcases j with r|r
  .exact g b n r
  .rw[n] at r;cases r
 have hm:∀b u,H b=aa u->¬Mut (aa u)->b≠x:=λb u q nm z=>by subst z;rw[q] at c;exact nm c
 refine⟨λb u q n _ _=>k b u (hb b n) q,λb u q n _ _=>⟨u.slots,k b u (hb b n) q⟩,λb u q n _=>by rw[ii (g b n)];exact n,λb u q _=>?_,
  λb xs q=>by rw[ii (hm b _ q λz=>z)];exact q,λb u xs q=>by rw[ii (hm b _ q λz=>z)];exact q,λb m q=>⟨#[],by rw[ii (hm b _ q λz=>z),q];simp⟩⟩
 by_cases i:b=e
 .subst i;exact f
 .exact⟨u,k b u i q⟩
def Un.mono(u:Un fs ex H H1 h h1)(g:∀b∈fs,b∈fs')(f:∀b∈ex,b∈ex'):Un fs' ex' H H1 h h1:=
 ⟨λb ob q n hb c=>u.keep b ob q n (λz=>hb (g b z)) λz=>c (f b z),λ_ _ q n _ c=>u.any q n λz=>c (f _ z),λb ob q n c=>u.free b ob q n λz=>c (f b z),λb ob q c=>u.there b ob q λz=>c (f b z),u.ua,u.rR,u.tz⟩
end
def trk(h:aC)(H:Hp):List aw:=(cy h.objs.size).filter λa=>(H a).isSome
def CS(h:aC)(H:Hp):aC:=W.hideAll h (trk h H)
def Ri(h:aC)(H:Hp):(CS h H).objs.size=h.objs.size:=W.hideAll_size _ _
def TM(e:h.get? b=aa o)(n:H b=ar):(CS h H).get? b=aa o:=
 W.hideAll_get _ e λhm=>by have q:=(gg.mp hm).2;rw[n] at q;simp at q
def Xw(e:(CS h H).get? b=aa o):h.get? b=aa o/\H b=ar:=by
 have e':=W.of_hideAll _ e;refine⟨e',?_⟩;cases q:H b with
 |none=>rfl
 |some x=>
  have hm:b∈trk h H:=gg.mpr ⟨gG.mpr (aM e'),by simp[q]⟩;have z:(CS h H).get? b=ar:=W.hideAll_none _ hm;rw[z] at e;cases e
def Xx(g h:aC)(L:aw):List (aw×cC):=(cy h.objs.size).filterMap λa=>if a=L\/(g.get? a).isSome=ag then ar else(h.get? a).map λo=>(a,o)
def rest(g h:aC)(L d:aw):List (aw×cC):=(Xx g h L).filter λp=>decide (p.1≠d)
structure Mod(K:bz)(mg:aX->Option ai)(cq:aC):Prop where
 TN:K.In cq
 glob:cq.Ns bf mg
 blt:∃mb,cq.Ns ajf mb/\∀x:aX,x≠nk->mb x=bT x
 nolimit:cq.NoLimit
structure Cx where
 prog:bc
 w:bI
 K:bz
 mg:aX->Option ai
 cq:aC
 A:bH
 N:List aX
 iZ:av
 je:Hp
 env:ahL
 cv:List ahL
 stack:List ahL
 ex:List aw
 fn:aX->Bool
 calm:Bool
 pn:List (aw×cC)
 xe:ai->av->Prop
def tY(l:List ahL):List aw:=l.filterMap (·.frame)
abbrev Cx.fs(X:Cx):List aw:=tY X.cv
def Vis (sc:dn)(x:aX):Prop:=sc.names.lookup x=aa .local\/sc.names.lookup x=aa .cell\/sc.names.lookup x=aa .free
def Loc (sc:dn)(x:aX):Prop:=sc.names.lookup x=aa .local\/sc.names.lookup x=aa .cell
def Look (env:ahL)(h:aC)(m:aX->Option ai)(x:aX)(u:ai):Prop:=
 (env.kindOf x=aa .local/\m x=aa u)\/((env.kindOf x=aa .cell\/env.kindOf x=aa .free)/\∃c,env.cells.lookup x=aa c/\h.IsCell c (aa u))
structure Cx.Ok(X:Cx):Prop where
 mod:Mod X.K X.mg X.cq
 kind:X.env.scope.kind=.function
 glob:X.env.globals=bf
 blt:X.env.builtins=ajf
 above:X.iZ.heap.objs.size<=X.env.locals
 inj:∀x y c,X.env.cells.lookup x=aa c->X.env.cells.lookup y=aa c->x=y
 has:∀x,(X.env.kindOf x=aa .cell\/X.env.kindOf x=aa .free)->∃c,X.env.cells.lookup x=aa c
 cab:∀x c,X.fn x=ag->X.env.cells.lookup x=aa c->X.iZ.heap.objs.size<=c
 hd:X.calm=ag->X.A.handled=ar
 frames:X.A.frames=aa X.stack
 stk:X.stack=X.cv\/(X.stack=X.env::X.cv/\X.env.frame=aa X.env.locals)
 exf:∀b∈X.ex,b≠X.env.locals/\∀x c,X.env.cells.lookup x=aa c->c≠b
 bs:∀b o,X.cq.get? b=aa o->X.iZ.heap.get? b=aa o/\X.je b=ar
 Rj:X.cq.objs.size<=X.iZ.heap.objs.size
 JJ:∀b o,X.cq.get? b=aa o->b∉X.ex
 MJ:∀b∈X.ex,b∉X.fs
 xq:X.iZ.heap.FunFrames X.cq X.cv
 TQ:∀b∈X.fs,X.je b=ar
structure Inv(X:Cx)(cc:List (aw×cC))(σ:List (Option V))(H:Hp)(s:av):Prop where
 ok:X.Ok
 os:s.os=X.iZ.os
 bare:fS s.gens
 cq:Un X.fs X.ex X.je H X.iZ.heap s.heap
 loc:∃m,s.heap.Ns X.env.locals m/\∀(i:Nat) (x:aX) (v:V),X.N[i]?=aa x->σ[i]?=aa (aa v)->Vis X.env.scope x->∃u,RelV v u/\Look X.env s.heap m x u
 cell:∀x c,X.env.cells.lookup x=aa c->∃v,s.heap.IsCell c v
 free:H X.env.locals=ar
 nw:∀x c,X.env.cells.lookup x=aa c->H c=ar
 pin:∀p∈X.pn++cc,s.heap.get? p.1=aa p.2/\H p.1=ar/\p.1≠X.env.locals/\p.1∉X.fs/\∀v,p.2.data≠.cell v
 ja:tZ X.prog X.w H s.heap
 len:σ.length=X.N.length
section
variable {X:Cx} {σ:List (Option V)} {s:av} {h':aC}
def Cx.Ok.af4(ok:X.Ok)(e:X.cq.get? b=aa o):b∉X.fs:=λhb=>by have:=(ok.xq.mem hb).1;rw[e] at this;cases this
theorem Inv.bs(I:Inv X cc σ H s):∀b o,X.cq.get? b=aa o->s.heap.get? b=aa o/\H b=ar:=λb o e=>
 ⟨I.cq.keep b o (I.ok.bs b o e).1 (I.ok.bs b o e).2 (I.ok.af4 e) (I.ok.JJ b o e),I.cq.free b o (I.ok.bs b o e).1 (I.ok.bs b o e).2 (I.ok.JJ b o e)⟩
def Inv.bk(I:Inv X cc σ H s):∀b o,X.cq.get? b=aa o->s.heap.get? b=aa o:=λb o e=>(I.bs b o e).1
theorem Inv.mod(I:Inv X cc σ H s):Mod X.K X.mg X.cq:=I.ok.mod
def Inv.ub(I:Inv X cc σ H s):X.K.In s.heap:=I.ok.mod.TN.keeps I.bk
theorem Inv.lt(I:Inv X cc σ H s):X.env.locals<s.heap.objs.size:=let⟨_,hn,_⟩:=I.loc;hn.lt
def Inv.sz(I:Inv X cc σ H s):X.iZ.heap.objs.size<=s.heap.objs.size:=bG I.ok.above (dF I.lt)
def Inv.aa7(I:Inv X cc σ H s)(h:s.heap.objs.size<=a):a∉X.fs:=λhb=>by obtain⟨_,o,b,_⟩:=I.ok.xq.mem hb;exact absurd (bw (aM b) (bG I.sz h)) (cD _)
def Inv.TR(I:Inv X cc σ H s):∀x c,X.env.cells.lookup x=aa c->c≠X.env.locals:=λx c e z=>by obtain⟨v,o,a,hd⟩:=I.cell x c e;obtain⟨m,⟨g,es,h,b,f,_⟩,_⟩:=I.loc;rw[z,b] at a;cases a;rw[f] at hd;cases hd
theorem Inv.xq(I:Inv X cc σ H s):s.heap.FunFrames X.cq X.cv:=by
 have all:∀(l:List ahL),(∀b∈tY l,b∈X.fs)->X.iZ.heap.FunFrames X.cq l->s.heap.FunFrames X.cq l:=by
  intro l;induction l with
  |nil=>intro _ _;trivial
  |cons env r g=>
   intro f h;obtain⟨i,⟨L,o,a,hn,j,hd⟩,m⟩:=h;have c:=f L (by unfold tY;rw[gu,a];exact aN);obtain⟨sl,e⟩:=I.cq.slot L o j (I.ok.TQ L c) c λz=>I.ok.MJ L z c;exact⟨i,⟨L,_,a,hn,e,hd⟩,g (λb hb=>f b (by unfold tY;rw[gu,a];exact aB _ hb)) m⟩
 exact all X.cv (λ_ hb=>hb) I.ok.xq
theorem Inv.stack(I:Inv X cc σ H s):s.heap.FunFrames X.cq X.stack:=by
 rcases I.ok.stk with e|⟨e,a⟩
 .rw[e];exact I.xq
 .rw[e];obtain⟨m,hn,_⟩:=I.loc;refine .cons (by rw[I.ok.kind];decide) a hn ?_ I.xq;exact cG (bG I.ok.Rj I.ok.above)
def Inv.uc(I:Inv X cc σ H s):∀b∈tY X.stack,b∈X.env.locals::X.fs:=λb hb=>by
 rcases I.ok.stk with e|⟨e,a⟩
 .rw[e] at hb;exact aB _ hb
 .rw[e] at hb;unfold tY at hb;rw[gu,a] at hb;exact hb
def Inv.Pn(I:Inv X cc σ H s):∀b∈tY X.stack,H b=ar:=λb hb=>by
 rcases aH.mp (I.uc b hb) with e|hb
 .rw[e];exact I.free
 .obtain⟨_,o,a,_⟩:=I.ok.xq.mem hb;exact I.cq.free b o a (I.ok.TQ b hb) λz=>I.ok.MJ b z hb
def Inv.step{ch:List aw}(I:Inv X cc σ H s)
(j:∀b∈ch,(b∈X.ex\/X.iZ.heap.objs.size<=b)/\b≠X.env.locals/\(∀x c,X.env.cells.lookup x=aa c->c≠b)/\∀p∈X.pn++cc,p.1≠b)
(keep:∀b o,b≠X.env.locals->b∉X.fs->b∉ch->s.heap.get? b=aa o->H b=ar->h'.get? b=aa o)
(slot:∀b o,b≠X.env.locals->b∈X.fs->b∉ch->s.heap.get? b=aa o->H b=ar->∃sl,h'.get? b=aa {o with slots:=sl})(free:∀b o,b∉ch->s.heap.get? b=aa o->H b=ar->H' b=ar)
(there:∀b o,b∉ch->s.heap.get? b=aa o->∃y,h'.get? b=aa y)
(ua:∀b xs,H b=aa (.tup xs)->H' b=aa (.tup xs))(rR:∀b o u,H b=aa (.qd o u)->H' b=aa (.qd o u))(tz:∀b C,H b=aa (.y6 C)->∃more,H' b=aa (.y6 (C++more)))
(ns:∀m,s.heap.Ns X.env.locals m->h'.Ns X.env.locals m)(ja:tZ X.prog X.w H' h')(L:fS M):
  Inv X cc σ H' {s with heap:=h',gens:=M,drawn:=T,toks:=U}:=by
 have A:∀b o,X.iZ.heap.get? b=aa o->b≠X.env.locals:=λb o e=>bd (bw (aM e) I.ok.above);have g:∀b o,X.iZ.heap.get? b=aa o->b∉X.ex->b∉ch:=λb o e a hb=>by
  rcases(j b hb).1 with z|z
  .exact a z
  .exact absurd (bw (aM e) z) (cD _)
 have B:∀x c,X.env.cells.lookup x=aa c->∀v,s.heap.IsCell c v->h'.IsCell c v:=λx c e v ⟨o,h,hd⟩=>by
  have f:=λz=>(j c z).2.2.1 x c e rfl;by_cases hc:c∈X.fs
  .obtain⟨sl,q⟩:=slot c o (I.TR x c e) hc f h (I.nw x c e);exact⟨_,q,hd⟩
  .exact⟨o,keep c o (I.TR x c e) hc f h (I.nw x c e),hd⟩
 refine⟨I.ok,I.os,L,⟨λb o e n hb a=>?_,λb o e n hb a=>?_,λb o e n a=>?_,λb o e a=>?_,λb xs e=>ua b xs (I.cq.ua b xs e),λb o xs e=>rR b o xs (I.cq.rR b o xs e),λb C e=>?_⟩,?_,λx c e=>?_,?_,λx c e=>?_,λp G=>?_,ja,I.len⟩
 .exact keep b o (A b o e) hb (g b o e a) (I.cq.keep b o e n hb a) (I.cq.free b o e n a)
 .obtain⟨sl,e1⟩:=I.cq.slot b o e n hb a;obtain⟨E,e2⟩:=slot b _ (A b o e) hb (g b o e a) e1 (I.cq.free b o e n a);exact⟨E,e2⟩
 .obtain⟨y,e1⟩:=I.cq.there b o e a;exact free b y (g b o e a) e1 (I.cq.free b o e n a)
 .obtain⟨y,e1⟩:=I.cq.there b o e a;exact there b y (g b o e a) e1
 .obtain⟨N,e1⟩:=I.cq.tz b C e;obtain⟨O,e2⟩:=tz b _ e1;exact⟨N++O,by rw[e2,Array.append_assoc]⟩
 .obtain⟨m,hn,Q⟩:=I.loc;refine⟨m,ns m hn,λi x v e1 e2 e3=>?_⟩;obtain⟨u,r,l⟩:=Q i x v e1 e2 e3;refine⟨u,r,?_⟩;rcases l with l|⟨k,c,e,z⟩
  .exact .inl l
  .exact .inr ⟨k,c,e,B x c e _ z⟩
 .obtain⟨v,z⟩:=I.cell x c e;exact⟨v,B x c e v z⟩
 .obtain⟨m,⟨o,_,_,h,_⟩,_⟩:=I.loc;exact free _ o (λz=>(j _ z).2.1 rfl) h I.free
 .obtain⟨v,o,h,hd⟩:=I.cell x c e;exact free c o (λz=>(j c z).2.2.1 x c e rfl) h (I.nw x c e)
 .obtain⟨e,n,ne,J,d⟩:=I.pin p G;have f:=λz=>(j p.1 z).2.2.2 p G rfl;exact⟨keep p.1 p.2 ne J f e n,free p.1 p.2 f e n,ne,J,d⟩
def Inv.un(I:Inv X cc σ H s)(u:Un X.fs [] H H' s.heap h')(ja:tZ X.prog X.w H' h'):Inv X cc σ H' {s with heap:=h',toks:=t'}:=by
 obtain⟨m,⟨o,es,j,c,r⟩,_⟩:=id I.loc;obtain⟨sl,g⟩:=u.any c I.free (by simp);exact I.step (ch:=[]) (λ_ z=>nomatch z) (λb o _ hb _ e n=>u.keep b o e n hb (by simp)) (λb o _ hb _ e n=>u.slot b o e n hb (by simp)) (λb o _ e n=>u.free b o e n (by simp)) (λb o _ e=>u.there b o e (by simp)) u.ua u.rR u.tz (λp hm=>by obtain⟨q,h,a,f,i⟩:=hm;rw[c] at f;cases f;exact⟨_,h,a,g,i⟩) ja I.bare
def Inv.call{j:ajM}{ch:List aw}(I:Inv X cc σ H s)(u:Un (tY X.stack) ch H H' s.heap h')(ja:tZ X.prog X.w H' h')(q:fS v)
(g:∀b∈ch,(b∈X.ex\/X.iZ.heap.objs.size<=b)/\b≠X.env.locals/\(∀x c,X.env.cells.lookup x=aa c->c≠b)/\∀p∈X.pn++cc,p.1≠b):
  Inv X cc σ H' {s with heap:=h',gens:=v,drawn:=j,toks:=B}:=by
 obtain⟨m,⟨o,es,C,h,r⟩,_⟩:=id I.loc;obtain⟨sl,a⟩:=u.any h I.free λz=>(g _ z).2.1 rfl;exact I.step g (λb o a hb hc e n=>u.keep b o e n (λz=>(aH.mp (I.uc b z)).elim a hb) hc) (λb o _ _ hc e n=>u.any e n hc) (λb o hc e n=>u.free b o e n hc) (λb o hc e=>u.there b o e hc) u.ua u.rR u.tz (λE hm=>by obtain⟨G,y,f,i,A⟩:=hm;rw[h] at i;cases i;exact⟨_,y,f,a,A⟩) ja q
def Inv.turned(I:Inv X cc σ H s)(k:∀b o,b≠it->s.heap.get? b=aa o->h'.get? b=aa o)(hn:H it=ar)(f:it≠X.env.locals)
(g:it∈X.ex\/X.iZ.heap.objs.size<=it)(h:∀x c,X.env.cells.lookup x=aa c->c≠it)(i:∀p∈X.pn++cc,p.1≠it):Inv X cc σ H {s with heap:=h',toks:=t'}:=by
 have a:∀b u,H b=aa u->b≠it:=λb u e z=>by rw[z,hn] at e;cases e
 refine I.step (ch:=[it]) (λb hb=>?_) (λb o _ _ hc e _=>k b o (λz=>hc (by simp[z])) e) (λb o _ _ hc e _=>⟨o.slots,k b o (λz=>hc (by simp[z])) e⟩) (λ_ _ _ _ n=>n)
  (λb o hc e=>⟨o,k b o (λz=>hc (by simp[z])) e⟩) (λ_ _ e=>e) (λ_ _ _ e=>e) (λb y e=>⟨#[],by rw[e];simp⟩) (λm hm=>?_) (λb u e=>?_) I.bare
 .have e:=by simpa using hb
  subst e;exact⟨g,f,h,i⟩
 .obtain⟨o,es,j,w,r⟩:=hm;exact⟨o,es,j,k _ o (b9 f) w,r⟩
 .refine(I.ja b u e).vm (λc v hc q=>k c v ?_ q) (λ_ q=>q) λ_ _ q=>q;rcases hc with z|z
  .rw[z];exact a b u e
  .exact a c _ z
def Inv.tok(I:Inv X cc σ H s)(t:Nat):Inv X cc σ H {s with toks:=t}:=I.un Un.refl I.ja
theorem Inv.kept(I:Inv X cc σ H s)(k:∀b u,s.heap.get? b=aa u->h'.get? b=aa u):Inv X cc σ H {s with heap:=h',toks:=t'}:=I.un (Un.kept k) (I.ja.kept k)
theorem Inv.laid(I:Inv X cc σ H s)(k:∀b u,s.heap.get? b=aa u->h'.get? b=aa u)(c:s.heap.objs.size<=a)(new:kx X.prog X.w (upd H a o) h' a o):
  Inv X cc σ (upd H a o) {s with heap:=h',toks:=t'}:=I.un (Un.laid k c (I.ja.fresh c)) (I.ja.laid k c new)
theorem Inv.write(I:Inv X cc σ H s)(c:Mut (H x))(f:e=x\/H e=aa (.own x))(k:∀b u,b≠e->s.heap.get? b=aa u->h'.get? b=aa u)(a:∃u,h'.get? e=aa u)
(new:kx X.prog X.w (upd H x o) h' x o):Inv X cc σ (upd H x o) {s with heap:=h',toks:=g}:=I.un (Un.write c f k a) (I.ja.write c f k a new)
def Inv.Pp(I:Inv X cc σ H s)(h:∀p∈a,s.heap.get? p.1=aa p.2/\H p.1=ar/\p.1≠X.env.locals/\p.1∉X.fs/\∀v,p.2.data≠.cell v):Inv X a σ H s:=
 ⟨I.ok,I.os,I.bare,I.cq,I.loc,I.cell,I.free,I.nw,λp b=>(bt.mp b).elim (λz=>I.pin p (bW _ z)) (h p),I.ja,I.len⟩
def CT{N:List aX}(c:N.Nodup){i j:Nat}(a:N[i]?=aa x)(b:N[j]?=aa x):i=j:=by obtain⟨e,e1⟩:=ak.mp a;obtain⟨f,e2⟩:=ak.mp b;exact(eP c).mp (e1.trans e2.symm)
def Aq(I:Inv X cc σ H s)(hN:X.N.Nodup)(hi:X.N[i]?=aa x)(g:Loc X.env.scope x)(r:RelV v u)
(h:∀s',Inv X cc (σ.set i (aa v)) H s'->(∃a,bP a s.heap s'.heap/\(a=X.env.locals\/X.env.cells.lookup x=aa a))->Q () s')(hf:X.fn x=ag\/X.env.scope.names.lookup x=aa .local:=by first|exact .inl rfl|exact .inr rfl|assumption):wpAny M A (ajA X.env x u) Q E s:=by
 obtain⟨m,hn,hl⟩:=id I.loc;have aa8:(X.env.scope.kind==.class||(X.env.scope.kind==.module&&X.env.locals !=X.env.globals))=au:=by rw[I.ok.kind];rfl
 have J:i<σ.length:=by rw[I.len];exact(ak.mp hi).1
 have TR:=I.TR;have Pr:∀{a:aw} {h':aC},(∃o,s.heap.get? a=aa o/\H a=ar)->bP a s.heap h'->tZ X.prog X.w H h':=λ{a h'} ha f b ob e=>by
  obtain⟨_,_,L⟩:=ha;refine(I.ja b ob e).vm (λc Y hc q=>(f.2 c ?_).trans q) (λ_ q=>q) λ_ _ q=>q
  rintro rfl
  rcases hc with rfl|hc
  .rw[L] at e;cases e
  .rw[L] at hc;cases hc
 rcases g with B|B
 .refine wpAny_storeName_local B hn (λh' hn' f=>?_) aa8;obtain⟨oL,_,_,Tv,_⟩:=id hn;refine h _ ⟨I.ok,I.os,I.bare,⟨λb o e n hb g=>?_,λb o e n hb g=>?_,I.cq.free,λb o e g=>?_,I.cq.ua,I.cq.rR,I.cq.tz⟩,⟨_,hn',λj y v' e1 e2 e3=>?_⟩,λy c e=>?_,I.free,I.nw,λp hp=>?_,Pr ⟨oL,Tv,I.free⟩ f,by simpa using I.len⟩ ⟨_,f,.inl rfl⟩
  .exact(f.2 b (bd (bw (aM e) I.ok.above))).trans (I.cq.keep b o e n hb g)
  .obtain⟨sl,e1⟩:=I.cq.slot b o e n hb g;exact⟨sl,(f.2 b (bd (bw (aM e) I.ok.above))).trans e1⟩
  .obtain⟨o',e1⟩:=I.cq.there b o e g;exact⟨o',(f.2 b (bd (bw (aM e) I.ok.above))).trans e1⟩
  .by_cases C:j=i
   .subst C;rw[hi] at e1;cases e1;rw[bn J] at e2;cases e2;exact⟨u,r,.inl ⟨B,by simp⟩⟩
   .rw[aJ (b9 C)] at e2;obtain⟨u',r',q⟩:=hl j y v' e1 e2 e3;refine⟨u',r',?_⟩;rcases q with⟨k,e⟩|⟨k,c,e,z⟩
    .refine .inl ⟨k,?_⟩;have:y≠x:=λe=>C (CT hN e1 (e▸hi));simp[this,e]
    .exact .inr ⟨k,c,e,z.sameBut f (TR y c e)⟩
  .obtain⟨Y,z⟩:=I.cell y c e;exact⟨Y,z.sameBut f (TR y c e)⟩
  .obtain⟨e,n,ne,nf,d⟩:=I.pin p hp;exact⟨(f.2 p.1 ne).trans e,n,ne,nf,d⟩
 .have G:X.fn x=ag:=by
   rcases hf with z|z
   .exact z
   .rw[z] at B;cases B
  obtain⟨c,hc⟩:=I.ok.has x (.inl B);obtain⟨Y,z⟩:=I.cell x c hc;refine wpAny_storeName_cell I.ok.kind B hc z (λh' O f=>?_);obtain⟨oc,T,af5⟩:=id z;refine h {s with heap:=h'} ⟨I.ok,I.os,I.bare,⟨λb o e n hb g=>?_,λb o e n hb g=>?_,I.cq.free,λb o e g=>?_,I.cq.ua,I.cq.rR,I.cq.tz⟩,⟨m,hn.sameBut f (b9 (TR x c hc)),λj y v' e1 e2 e3=>?_⟩,λy c' e=>?_,I.free,I.nw,λp hp=>?_,Pr ⟨oc,T,I.nw x c hc⟩ f,by simpa using I.len⟩ ⟨c,f,.inr hc⟩
  .exact(f.2 b (bd (bw (aM e) (I.ok.cab x c G hc)))).trans (I.cq.keep b o e n hb g)
  .obtain⟨sl,e1⟩:=I.cq.slot b o e n hb g;exact⟨sl,(f.2 b (bd (bw (aM e) (I.ok.cab x c G hc)))).trans e1⟩
  .obtain⟨o',e1⟩:=I.cq.there b o e g;exact⟨o',(f.2 b (bd (bw (aM e) (I.ok.cab x c G hc)))).trans e1⟩
  .by_cases C:j=i
   .subst C;rw[hi] at e1;cases e1;rw[bn J] at e2;cases e2;exact⟨u,r,.inr ⟨.inl B,c,hc,O⟩⟩
   .rw[aJ (b9 C)] at e2;obtain⟨u',r',q⟩:=hl j y v' e1 e2 e3;refine⟨u',r',?_⟩;rcases q with q|⟨k,c',e,z'⟩
    .exact .inl q
    .refine .inr ⟨k,c',e,z'.sameBut f ?_⟩
     rintro rfl
     exact C (CT hN e1 (I.ok.inj _ _ _ e hc▸hi))
  .by_cases U:c'=c
   .subst U;exact⟨_,O⟩
   .obtain⟨w2,z2⟩:=I.cell y c' e;exact⟨w2,z2.sameBut f U⟩
  .obtain⟨e,n,ne,nf,d⟩:=I.pin p hp;refine⟨(f.2 p.1 ?_).trans e,n,ne,nf,d⟩;intro q;rw[q,T] at e;have q':oc=p.2:=bF e;exact d Y (by rw[<-q'];exact af5)
def CU(I:Inv X cc σ H s)(b:X.N.Nodup)(hi:X.N[i]?=aa x)(c:Loc X.env.scope x)(r:RelV v u)
(h:∀a,Inv X cc (σ.set i (aa v)) H a->Q () a)(e:X.fn x=ag\/X.env.scope.names.lookup x=aa .local:=by first|exact .inl rfl|exact .inr rfl|assumption):wpAny M A (ajA X.env x u) Q E s:=
 Aq I b hi c r (λa f _=>h a f) e
def Inv.CV(I:Inv X cc σ H s)(f:a.os=s.os)(u:Un (tY X.stack) ch H H' s.heap a.heap)(ja:tZ X.prog X.w H' a.heap)(g:fS a.gens)
(h:∀b∈ch,(b∈X.ex\/X.iZ.heap.objs.size<=b)/\b≠X.env.locals/\(∀x c,X.env.cells.lookup x=aa c->c≠b)/\∀p∈X.pn++cc,p.1≠b):Inv X cc σ H' a:=by obtain⟨h',i,j,m,n⟩:=a;have e:=f;subst e;exact I.call u ja g h
end
abbrev XK:=ai->Option aw->Hp->Prop
abbrev St:=List (Option V)
abbrev VK:=V->Hp->Prop
abbrev TE:=St->Hp->VK->Prop
abbrev TT:=St->Hp->(Bool->Hp->Prop)->Prop
abbrev TA:=St->Hp->(List V->Hp->Prop)->Prop
structure Ends where
 nx:St->Hp->Prop
 rt:VK
 bk:St->Hp->Prop:=λ_ _=>False
 ct:St->Hp->Prop:=λ_ _=>False
abbrev TS:=Ends->St->Hp->Prop
def EP (X:Cx)(cc:List (aw×cC))(σ:St)(Q:VK)(u:ai)(b:av):Prop:=∃v a,Inv X cc σ a b/\RelV v u/\Q v a
def TP (X:Cx)(cc:List (aw×cC))(σ:St)(Q:Bool->Hp->Prop)(b:Bool)(c:av):Prop:=∃a,Inv X cc σ a c/\Q b a
def AP (X:Cx)(cc:List (aw×cC))(σ:St)(Q:List V->Hp->Prop)(us:List ai)(c:av):Prop:=∃a b,Inv X cc σ b c/\Vals a us/\Q a b
def SP (X:Cx)(cc:List (aw×cC))(D:Ends)(f:Flow)(c:av):Prop:=
 match f with
 |.next=>∃b a,Inv X cc b a c/\D.nx b a
 |.brk=>∃b a,Inv X cc b a c/\D.bk b a
 |.cont=>∃b a,Inv X cc b a c/\D.ct b a
 |.ret u=>∃v b a,Inv X cc b a c/\RelV v u/\D.rt v a
def PE (X:Cx)(e:bJ)(t:TE):Prop:=
 ∀(cc:List (aw×cC)) (s:av) (σ:St) (H:Hp) (Q:VK),Inv X cc σ H s->t σ H Q->wpAny (model X.prog X.w) X.A (eval e X.env) (EP X cc σ Q) X.xe s
def PT (X:Cx)(e:bJ)(t:TT):Prop:=
 ∀(cc:List (aw×cC)) (s:av) (σ:St) (H:Hp) (Q:Bool->Hp->Prop),Inv X cc σ H s->t σ H Q->wpAny (model X.prog X.w) X.A (aiZ e X.env (eval e X.env)) (TP X cc σ Q) X.xe s
def PW (X:Cx)(e:bJ)(t:TT):Prop:=
 ∀(a:Sem ai) (cc:List (aw×cC)) (s:av) (σ:St) (H:Hp) (Q:Bool->Hp->Prop),Inv X cc σ H s->t σ H Q->wpAny (model X.prog X.w) X.A (aiZ e X.env a) (TP X cc σ Q) X.xe s
def PW.pt(h:PW X e t):PT X e t:=h _
def PA (X:Cx)(es:List bJ)(t:TA):Prop:=
 ∀(pos:eL) (cc:List (aw×cC)) (s:av) (σ:St) (H:Hp) (Q:List V->Hp->Prop),Inv X cc σ H s->t σ H Q->wpAny (model X.prog X.w) X.A (spliced (du pos (bg es X.env))) (AP X cc σ Q) X.xe s
def PS (X:Cx)(st:c5)(t:TS):Prop:=
 ∀(cc:List (aw×cC)) (s:av) (σ:St) (H:Hp) (D:Ends),Inv X cc σ H s->t D σ H->wpAny (model X.prog X.w) X.A (exec st X.env) (SP X cc D) X.xe s
def y7 (X:Cx)(st:List c5)(t:TS):Prop:=
 ∀(cc:List (aw×cC)) (s:av) (σ:St) (H:Hp) (D:Ends),Inv X cc σ H s->t D σ H->wpAny (model X.prog X.w) X.A (execs st X.env) (SP X cc D) X.xe s
def lB{t:Sem α}(h:wpAny M A t Q E s)(b:∀a s,Q a s->c a s):wpAny M A t c E s:=cn h b λ_ _ x=>x
section
variable {X:Cx}
def TU (i:Nat):TE:=λσ H Q=>∃v,σ[i]?=aa (aa v)/\Q v H
def tC (v:V):TE:=λ_ H Q=>Q v H
def MK(f:X.N[i]?=aa x)(g:Vis X.env.scope x)(hd:(x==(fy:aX))=au:=by decide)(j:(x==(tS:aX))=au:=by decide):PE X (.Name x pos) (TU i):=by
 intro cc s σ H Q I h;obtain⟨v,e,h⟩:=h;obtain⟨m,hn,n⟩:=I.loc;obtain⟨u,r,l⟩:=n i x v f e g;have b:EP X cc σ Q u s:=⟨v,H,I,r,h⟩;rcases l with⟨a,hm⟩|⟨a,c,hc,Ps⟩
 .exact ajg (ai9 I.ok.kind a hn hm b) hd
 .rcases a with a|a
  .exact ajg (aje I.ok.kind a hc Ps b) hd
  .exact ajg (wpAny_loadName_free I.ok.kind a hc Ps b j) hd
def TV:PE X (.Constant (.int i) j pos) (tC (.int i)):=λ_ _ _ H _ I h=>wpAny_Constant_int ⟨.int i,H,I.tok _,⟨_,rfl⟩,h⟩
def adL:PE X (.Constant (.bool b) j pos) (tC (.bl b)):=λ_ _ _ H _ I h=>Constant_bool ⟨.bl b,H,I,rfl,h⟩
def aa9:PE X (.Constant .none j pos) (tC .non):=λ_ _ _ H _ I h=>Constant_none ⟨.non,H,I,rfl,h⟩
def aba:PE X (.Constant (.str x) j pos) (tC (.str x)):=λ_ _ _ H _ I h=>Calls.Constant_str ⟨.str x,H,I.tok _,⟨_,rfl⟩,h⟩
def Gl (X:Cx)(x:aX):Prop:=X.env.kindOf x=aa .globalImplicit
def w5(I:Inv X cc σ H s)(a:Gl X x)(hm:X.mg x=aa u)(h:Q u s)
(hd:(x==(fy:aX))=au:=by decide):wpAny (model X.prog X.w) X.A (eval (.Name x pos) X.env) Q E s:=
 Calls.Name_function_global I.ok.kind a (Calls.loadGlobal_global (by rw[I.ok.glob];exact I.mod.glob.keeps I.bk) hm h) hd
def ud(I:Inv X cc σ H s)(a:Gl X x)(hm:X.mg x=ar)(b:bT x=aa u)(h:Q u s)
(hn:x≠nk:=by decide)(hd:(x==(fy:aX))=au:=by decide):wpAny (model X.prog X.w) X.A (eval (.Name x pos) X.env) Q E s:=by obtain⟨f,c,e⟩:=I.mod.blt;exact Calls.Name_function_global I.ok.kind a (Calls.loadGlobal_builtin (by rw[I.ok.glob];exact I.mod.glob.keeps I.bk) hm (by rw[I.ok.blt];exact c.keeps I.bk) ((e x hn).trans b) h) hd
def Xy(a:Gl X x)(hm:X.mg x=aa u)(r:RelV v u)(hd:(x==(fy:aX))=au:=by decide):PE X (.Name x pos) (tC v):=
 λ_ _ _ H _ I h=>w5 I a hm ⟨v,H,I,r,h⟩ hd
def Xz(a:Gl X x)(hm:X.mg x=ar)(b:bT x=aa u)(r:RelV v u)(hn:x≠nk:=by decide)(hd:(x==(fy:aX))=au:=by decide):PE X (.Name x pos) (tC v):=
 λ_ _ _ H _ I h=>ud I a hm b ⟨v,H,I,r,h⟩ hn hd
def tB (t:TE):TT:=λσ H Q=>t σ H λx H1=>∃c,x=.bl c/\Q c H1
def abb(h:PE X e t)(f:∀c,aiZ e X.env c=(do let v<-c;ajn e.pos;holding [v] (truthy v)):=by intro _;rfl):PT X e (tB t):=by intro cc s σ H Q I hw;refine isTrue_plain (lB (h cc s σ H _ I hw) λv s1 ⟨x,H1,I1,g,i⟩=>?_) (f _);obtain⟨d,rfl,q⟩:=i;cases g;exact cz ⟨H1,I1,q⟩
variable {rest:List bJ}
def af6 (t u:TT):TT:=λσ H Q=>t σ H λc H1=>if c=ag then u σ H1 Q else Q au H1
def tOr (t u:TT):TT:=λσ H Q=>t σ H λc H1=>if c=ag then Q ag H1 else u σ H1 Q
def af7 (t:TT):TT:=λσ H Q=>t σ H λc H1=>Q (!c) H1
def pw_and1(ha:PT X a tA):PW X (.BoolOp .And [a] pos) tA:=by
 intro f cc s σ H Q I h;refine isTrue_and (lB (ha cc s σ H Q I h) λc s1 e=>?_);cases c with
 |true=>exact isTrue_and_nil e
 |false=>exact e
def pw_or1(ha:PT X a tA):PW X (.BoolOp .Or [a] pos) tA:=by
 intro f cc s σ H Q I h;refine isTrue_or (lB (ha cc s σ H Q I h) λc s1 e=>?_);cases c with
 |false=>exact isTrue_or_nil e
 |true=>exact e
def pw_and(ha:PT X a tA)(hb:PW X (.BoolOp .And (b::rest) pos) TW):PW X (.BoolOp .And (a::b::rest) pos) (af6 tA TW):=by
 intro f cc s σ H Q I h;refine isTrue_and (lB (ha cc s σ H _ I h) λc s1 g=>?_);obtain⟨H1,I1,e⟩:=g;cases c with
 |true=>exact hb f cc s1 σ H1 Q I1 e
 |false=>exact⟨H1,I1,e⟩
def pw_or(ha:PT X a tA)(hb:PW X (.BoolOp .Or (b::rest) pos) TW):PW X (.BoolOp .Or (a::b::rest) pos) (tOr tA TW):=by
 intro f cc s σ H Q I h;refine isTrue_or (lB (ha cc s σ H _ I h) λc s1 g=>?_);obtain⟨H1,I1,e⟩:=g;cases c with
 |true=>exact⟨H1,I1,e⟩
 |false=>exact hb f cc s1 σ H1 Q I1 e
def abd(ha:PT X a tA):PT X (.UnaryOp .Not a pos) (af7 tA):=by intro cc s σ H Q I h;exact isTrue_not (ha cc s σ H (λc H1=>Q (!c) H1) I h)
def adM (ta tb:TE):TE:=λσ H Q=>ta σ H λx H1=>∃c,x=.bl c/\if c=ag then tb σ H1 Q else Q (.bl au) H1
def adN (ta:TE):TE:=λσ H Q=>ta σ H λx H1=>∃c,x=.bl c/\Q (.bl (!c)) H1
def abe(h:PE X a t):PE X (.BoolOp op [a] pos) t:=λcc s σ H Q I hw=>BoolOp_one (h cc s σ H Q I hw)
def abf(ha:PE X a ta)(hb:PE X (.BoolOp .And (b::rest) pos) tb):PE X (.BoolOp .And (a::b::rest) pos) (adM ta tb):=by
 intro cc s σ H Q I h;refine BoolOp_and (lB (ha cc s σ H _ I h) λv s1 f=>?_);obtain⟨x,H1,I1,g,e⟩:=f;obtain⟨c,rfl,e⟩:=e;cases g;refine cz ?_;cases c with
 |true=>exact hb cc s1 σ H1 Q I1 e
 |false=>exact⟨.bl au,H1,I1,rfl,e⟩
def abg(ha:PE X a ta):PE X (.UnaryOp .Not a pos) (adN ta):=by intro cc s σ H Q I h;refine UnaryOp_ (lB (ha cc s σ H _ I h) λv s1 f=>?_);obtain⟨x,H1,I1,g,e⟩:=f;obtain⟨c,rfl,e⟩:=e;cases g;exact not_of (cz ⟨.bl (!c),H1,I1,rfl,e⟩)
def tIf (t:TT)(ta tb:TE):TE:=λσ H Q=>t σ H λc H1=>if c=ag then ta σ H1 Q else tb σ H1 Q
def TX(hc:PT X c tA)(ha:PE X a ta)(hb:PE X b tb):PE X (.IfExp c a b pos) (tIf tA ta tb):=by
 intro cc s σ H Q I h;refine wpAny_IfExp (lB (hc cc s σ H _ I h) λd s1 f=>?_);obtain⟨H1,I1,e⟩:=f;cases d with
 |true=>exact ha cc s1 σ H1 Q I1 e
 |false=>exact hb cc s1 σ H1 Q I1 e
end
def nI (K:bz)(H:Hp)(a:aw)(xs:List V):Prop:=
 Rd H a (.lst xs)\/
  ∃(o:cC) (iM:Array ai) (n:Nat),K.lookup a=aa o/\o.cls=.type cr/\o.dict=ar/\o.data=.seq iM n/\iM.size<=aO/\Vals xs iM.toList
def xQ (K:bz)(H:Hp)(a:aw)(xs:List V):Prop:=
 Rd H a (.tup xs)\/
  ∃(o:cC) (iM:Array ai) (n:Nat),K.lookup a=aa o/\o.cls=.type fi/\o.data=.seq iM n/\iM.size<=aO/\Vals xs iM.toList
def af8:ai->Option V
 |.none=>aa .non
 |.bool b=>aa (.bl b)
 |.int i _=>aa (.int i)
 |.str x _=>aa (.str x)
 |.bytes b _=>aa (.Tt b)
 |.float b _=>aa (.flt b)
 |.ref a=>aa (.ref a)
 |.type n=>aa (.ty n)
 |_=>ar
def RelV.abs(r:RelV x u):af8 u=aa x:=by
 cases x with
 |non=>cases r;rfl
 |bl _=>cases r;rfl
 |int _=>obtain⟨t,rfl⟩:=r;rfl
 |str _=>obtain⟨t,rfl⟩:=r;rfl
 |Tt _=>obtain⟨t,rfl⟩:=r;rfl
 |flt _=>obtain⟨t,rfl⟩:=r;rfl
 |ref _=>cases r;rfl
 |ty _=>cases r;rfl
def RelV.inj(r:RelV x u)(q:RelV y u):x=y:=bF (r.abs.symm.trans q.abs)
theorem Vals.inj:∀{xs a:List V} {us:List ai},Vals xs us->Vals a us->xs=a
 |_,_,_,.nil,.nil=>rfl
 |_,_,_,.cons r t,.cons b c=>by rw[r.inj b,Vals.inj t c]
section
variable {X:Cx} {s:av} {xs:List V}
def nI.of{K:bz}(h:H a=aa (.lst xs)):nI K H a xs:=.inl (.inl h)
def Inv.list(I:Inv X cc σ H s)(h:nI X.K H a xs):∃iM:List ai,Vals xs iM/\PlainL s.heap a iM.toArray/\xs.length<=aO:=by
 rcases h with h|⟨o,iM,n,b,hc,hd,c,f,r⟩
 .obtain⟨z,iM,n,r,e⟩:=h.ok I.ja;exact⟨iM,r,⟨_,n,e,rfl,rfl,rfl⟩,z⟩
 .refine⟨iM.toList,r,⟨o,n,I.ub a o b,hc,hd,by simpa using c⟩,?_⟩;have e:=r.length;simp only [b8] at e;omega
def Inv.tuple(I:Inv X cc σ H s)(h:xQ X.K H a xs):∃iM:List ai,Vals xs iM/\aih s.heap a iM.toArray/\xs.length<=aO:=by
 rcases h with h|⟨o,iM,n,b,hc,c,f,r⟩
 .obtain⟨z,iM,r,p⟩:=h.ok I.ja;exact⟨iM,r,p,z⟩
 .refine⟨iM.toList,r,⟨o,I.ub a o b,hc,n,by simpa using c⟩,?_⟩;have e:=r.length;simp only [b8] at e;omega
def Inv.JL(I:Inv X cc σ H s)(h:nI X.K H a xs)(c:nI X.K H a ys):xs=ys:=by
 obtain⟨iM,r,⟨o,n,e,_,_,d⟩,_⟩:=I.list h;obtain⟨i,f,⟨j,m,e',_,_,b⟩,_⟩:=I.list c;rw[e] at e';cases e';rw[d] at b;injection b with g _;have:=by simpa using congrArg Array.toList g
 subst this;exact r.inj f
def Inv.F6(I:Inv X cc σ H s)(h:xQ X.K H a xs)(c:xQ X.K H a ys):xs=ys:=by
 obtain⟨iM,r,⟨o,e,_,n,d⟩,_⟩:=I.tuple h;obtain⟨i,f,⟨j,e',_,m,b⟩,_⟩:=I.tuple c;rw[e] at e';cases e';rw[d] at b;injection b with g _;have:=by simpa using congrArg Array.toList g
 subst this;exact r.inj f
end
abbrev Cx.CY(X:Cx)(E:ai->av->Prop):Cx:={X with xe:=E}
abbrev Cx.F7(X:Cx):Cx:=X.CY λ_ _=>False
theorem Cx.Ok.CY{X:Cx}(ok:X.Ok)(E:ai->av->Prop):(X.CY E).Ok:=
 ⟨ok.mod,ok.kind,ok.glob,ok.blt,ok.above,ok.inj,ok.has,ok.cab,ok.hd,ok.frames,ok.stk,ok.exf,ok.bs,ok.Rj,ok.JJ,ok.MJ,ok.xq,ok.TQ⟩
def Cx.Ok.ue{X:Cx}(ok:(X.CY E).Ok):X.Ok:=
 ⟨ok.mod,ok.kind,ok.glob,ok.blt,ok.above,ok.inj,ok.has,ok.cab,ok.hd,ok.frames,ok.stk,ok.exf,ok.bs,ok.Rj,ok.JJ,ok.MJ,ok.xq,ok.TQ⟩
section
variable {X:Cx}
theorem Inv.CY(I:Inv X cc σ H s)(E:ai->av->Prop):Inv (X.CY E) cc σ H s:=⟨I.ok.CY E,I.os,I.bare,I.cq,I.loc,I.cell,I.free,I.nw,I.pin,I.ja,I.len⟩
theorem Inv.ue(I:Inv (X.CY E) cc σ H s):Inv X cc σ H s:=⟨I.ok.ue,I.os,I.bare,I.cq,I.loc,I.cell,I.free,I.nw,I.pin,I.ja,I.len⟩
theorem SP.ue(h:SP (X.CY E) cc D f c):SP X cc D f c:=by
 cases f with
 |next=>obtain⟨a,b,I,q⟩:=h;exact⟨a,b,I.ue,q⟩
 |brk=>obtain⟨a,b,I,q⟩:=h;exact⟨a,b,I.ue,q⟩
 |cont=>obtain⟨a,b,I,q⟩:=h;exact⟨a,b,I.ue,q⟩
 |ret u=>obtain⟨v,a,b,I,r,q⟩:=h;exact⟨v,a,b,I.ue,r,q⟩
theorem PE.F7(h:PE X.F7 e t):PE X e t:=λcc s σ H Q I hw=>
 cn (h cc s σ H Q (I.CY _) hw) (λ_ _ ⟨v,a,b,r,q⟩=>⟨v,a,b.ue,r,q⟩) λ_ _ z=>cw z
theorem y7.F7{st:List c5}(h:y7 X.F7 st t):y7 X st t:=λcc s σ H D I hw=>
 cn (h cc s σ H D (I.CY _) hw) (λ_ _ q=>q.ue) λ_ _ z=>cw z
end
section
variable {X:Cx} {st:c5} {rest:List c5} {t:TS} {pos:eL}
def adO:TS:=λD σ H=>D.nx σ H
def adP (t u:TS):TS:=λD σ H=>t {D with nx:=u D} σ H
def XC:y7 X [] adO:=λ_ _ σ H _ I h=>gL ⟨σ,H,I,h⟩
def JN(a:PS X st t)(b:y7 X rest u):y7 X (st::rest) (adP t u):=by
 intro cc s σ H D I h;refine ajB (lB (a cc s σ H _ I h) λf s1 q=>?_);cases f with
 |next=>
  obtain⟨c,g,i,q⟩:=q;exact b cc s1 c g D i q
 |ret v=>exact q
 |brk=>exact q
 |cont=>exact q
def Pu(a:PS X st t):y7 X [st] t:=by
 intro cc s σ H D I h;refine ajB (lB (a cc s σ H D I h) λf s1 q=>?_);cases f with
 |next=>exact gL q
 |ret v=>exact q
 |brk=>exact q
 |cont=>exact q
def Inv.quiet(I:Inv X cc σ H s):interactive X.env=au:=by simp[interactive,I.ok.kind]
def adQ (te:TE):TS:=λD σ H=>te σ H λ_ H1=>D.nx σ H1
def Pw(a:PE X e te)(b:fj e ar pos.line X.env=pure au:=by rfl):PS X (.Expr e pos) (adQ te):=by intro cc s σ H D I h;exact wpAny_Expr_any (lB (a cc s σ H _ I h) λv s1 ⟨x,H1,I1,f,c⟩=>⟨σ,H1,I1,c⟩) I.quiet b
def af9 (te:TE):TS:=λD σ H=>te σ H D.rt
def abh(a:PE X e te):PS X (.Return (aa e) pos) (af9 te):=by intro cc s σ H D I h;exact wpAny_Return_some (lB (a cc s σ H _ I h) λv s1 ⟨x,H1,I1,b,c⟩=>⟨x,σ,H1,I1,b,c⟩)
def aga (c:TT)(t u:TS):TS:=λD σ H=>c σ H λb H1=>if b=ag then t D σ H1 else u D σ H1
def aak(hc:PT X c tc)(ha:y7 X a t)(hb:y7 X b u):PS X (.If c a b pos) (aga tc t u):=by
 intro cc s σ H D I h;refine wpAny_If (lB (hc cc s σ H _ I h) λd s1 g=>?_);obtain⟨H1,I1,f⟩:=g;cases d with
 |true=>exact ha cc s1 σ H1 D I1 f
 |false=>exact hb cc s1 σ H1 D I1 f
def abi:TS:=λ_ _ _=>False
def TY:PS X st abi:=λ_ _ _ _ _ _ h=>h.elim
end
abbrev TG:=V->St->Hp->(St->Hp->Prop)->Prop
abbrev TGs:=List V->St->Hp->(St->Hp->Prop)->Prop
def PG (X:Cx)(target:bJ)(t:TG):Prop:=
 ∀(cc:List (aw×cC)) (s:av) (σ:St) (H:Hp) (v:V) (u:ai) (Q:St->Hp->Prop),Inv X cc σ H s->RelV v u->t v σ H Q->
  wpAny (model X.prog X.w) X.A (assign target X.env u) (λ_ c=>∃a b,Inv X cc a b c/\Q a b) X.xe s
def TZ (X:Cx)(e:List bJ)(t:TGs):Prop:=
 ∀(cc:List (aw×cC)) (s:av) (σ:St) (H:Hp) (a:List V) (us:List ai) (Q:St->Hp->Prop),Inv X cc σ H s->Vals a us->t a σ H Q->
  wpAny (model X.prog X.w) X.A (assignInOrder ((eF e X.env).map (·.2)) us) (λ_ f=>∃b c,Inv X cc b c f/\Q b c) X.xe s
abbrev TIp:=V->V->Hp->VK->Prop
def PIp (X:Cx)(op:aiH)(t:TIp):Prop:=
 ∀(cc:List (aw×cC)) (s:av) (σ:St) (H:Hp) (x y:V) (v u:ai) (Q:VK),Inv X cc σ H s->RelV x v->RelV y u->t x y H Q->
  wpAny (model X.prog X.w) X.A (ajC op v u) (EP X cc σ Q) X.xe s
section
variable {X:Cx} {pos:eL}
def aal (i:Nat):TG:=λv σ H Q=>Q (σ.set i (aa v)) H
def XF(a:X.N.Nodup)(hi:X.N[i]?=aa x)(b:Loc X.env.scope x)(c:X.fn x=ag\/X.env.scope.names.lookup x=aa .local:=by first|exact .inl rfl|exact .inr rfl|assumption):PG X (.Name x pos) (aal i):=by intro cc s σ H v u Q I r h;exact ajo (CU I a hi b r (λf e=>⟨_,H,e,h⟩) c)
def agb:TGs:=λa σ H Q=>a=[]/\Q σ H
def adR (t:TG)(u:TGs):TGs:=λa σ H Q=>∃v r,a=v::r/\t v σ H λb c=>u r b c Q
def XG:TZ X [] agb:=by intro cc s σ H a us Q I r h;obtain⟨e,h⟩:=h;exact assignInOrder_nil ⟨σ,H,I,h⟩
def T0(a:PG X e t)(b:TZ X es u)
(c:(eF (e::es) X.env).map (·.2)=assign e X.env::(eF es X.env).map (·.2):=by rfl):TZ X (e::es) (adR t u):=by
 intro cc s σ H m us Q I r h;obtain⟨v,n,e1,h⟩:=h;subst e1;cases r with
 |cons r f=>
  rw[c];refine assignInOrder_cons (lB (a cc s σ H _ _ _ I r h) λ_ s1 g=>?_);obtain⟨i,H1,I1,j⟩:=g;exact b cc s1 i H1 _ _ Q I1 f j
def agc (K:bz)(n:Nat)(t:TGs):TG:=λv σ H Q=>∃a xs,v=.ref a/\xQ K H a xs/\xs.length=n/\t xs σ H Q
def abj(hc:X.calm=ag)(h:TZ X es t)
(hn:(eF es X.env).length=n:=by rfl)(f:(eF es X.env).findIdx? (·.1)=ar:=by rfl):PG X (.Tuple es k pos) (agc X.K n t):=by intro cc s σ H v u Q I r hw;obtain⟨a,xs,e1,g,i,hw⟩:=hw;subst e1;cases r;obtain⟨iM,c,ht,m⟩:=I.tuple g;refine assign_Tuple_tuple (I.ok.hd hc) ht (by simp[hn,<-i,c.length]) f λp j=>?_;have I1:=I.kept (t':=s.toks) λb o e=>j b o (bd (aM e)) e;exact h cc _ σ H xs _ Q I1 (by simpa using c) hw
def adS (a:TE)(g:TG):TS:=λD σ H=>a σ H λx H1=>g x σ H1 D.nx
def abk(a:PE X e b)(c:PG X tg g)(f:ajU [tg] e pos.line X.env=pure au:=by rfl)(hw:ajV [tg] e X.env=pure ar:=by rfl)
(i:(eF [tg] X.env).map (·.2)=[assign tg X.env]:=by rfl):PS X (.Assign [tg] e pos) (adS b g):=by intro cc s σ H D I h;refine wpAny_Assign_stores (lB (a cc s σ H _ I h) λv s1 ⟨x,H1,I1,j,m⟩=>?_) f hw;rw[i];exact lB (c cc s1 σ H1 x v _ I1 j m) λ_ s2 q=>q
def abl(a:X.N.Nodup)(hi:X.N[i]?=aa x)(b:Loc X.env.scope x)(c:PE X e f)(g:fj e (aa (.Name x j)) pos.line X.env=pure au:=by rfl)(m:X.fn x=ag\/X.env.scope.names.lookup x=aa .local:=by first|exact .inl rfl|exact .inr rfl|assumption):
  PS X (.Assign [.Name x j] e pos) (adS f (aal i)):=by intro cc s σ H D I h;refine wpAny_Assign_Name (lB (c cc s σ H _ I h) λv s1 ⟨y,H1,I1,n,o⟩=>?_) g;exact CU I1 a hi b n (λs2 p=>⟨_,H1,p,o⟩) m
def agd (i:Nat)(a:TE)(b:TIp):TS:=λD σ H=>∃x,σ[i]?=aa (aa x)/\a σ H λy H1=>b x y H1 λz c=>D.nx (σ.set i (aa z)) c
def abm(g:X.N.Nodup)(hi:X.N[i]?=aa x)(b:Loc X.env.scope x)(j:PE X e n)(o:PIp X op p)(q:X.fn x=ag\/X.env.scope.names.lookup x=aa .local:=by first|exact .inl rfl|exact .inr rfl|assumption):
  PS X (.AugAssign (.Name x U) op e pos) (agd i n p):=by
 intro cc s σ H D I h;obtain⟨v,e1,h⟩:=h;obtain⟨m,hn,B⟩:=I.loc;have vn:Vis X.env.scope x:=by rcases b with k|k;exact .inl k;exact .inr (.inl k)
 obtain⟨u,r,l⟩:=B i x v hi e1 vn;refine wpAny_AugAssign_Name ?_;have go:wpAny (model X.prog X.w) X.A (eval e X.env) (λw C=>wpAny (model X.prog X.w) X.A (ajC op u w) (λr E=>wpAny (model X.prog X.w) X.A (ajA X.env x r) (λ_=>SP X cc D .next) X.xe E) X.xe C) X.xe s:=by refine lB (j cc s σ H _ I h) λw s1 f=>?_;obtain⟨y,H1,I1,G,J⟩:=f;refine lB (o cc s1 σ H1 v y u w _ I1 r G J) λz s2 f=>?_;obtain⟨Y,L,M,O,Q⟩:=f;exact CU M g hi b O (λs3 T=>⟨_,L,T,Q⟩) q
 rcases l with⟨a,hm⟩|⟨a,c,hc,Ps⟩
 .exact ai9 I.ok.kind a hn hm go
 .rcases a with a|a
  .exact aje I.ok.kind a hc Ps go
  .rcases b with k|k
   .have:X.env.scope.names.lookup x=aa .free:=a;rw[k] at this;cases this
   .have:X.env.scope.names.lookup x=aa .free:=a;rw[k] at this;cases this
end
section
variable {X:Cx}
def abn (c:TT)(tb:TS):TS:=λD σ H=>∃W:Nat->St->Hp->Prop,(∃m,W m σ H)/\∀m σ H,W m σ H->
 c σ H λb H1=>if b=ag then∃N:St->Hp->Prop,(∀a e,N a e->∃f,f<m/\W f a e)/\tb {D with nx:=N,ct:=N,bk:=D.nx} σ H1 else D.nx σ H1
def T4{c:bJ}{body:List c5}{tc:TT}{tb:TS}(u:aid (model X.prog X.w) X.A X.env X.xe)(hc:PT X c tc)(hb:y7 X body tb):PS X (.While c body [] pos) (abn tc tb):=by
 intro cc s σ H D I h;obtain⟨W,⟨m0,E⟩,turn⟩:=h;refine wpAny_While (codeAny_whileLoop (λn G=>∃x y,Inv X cc x y G/\W n x y) ?_ m0 ⟨σ,H,I,E⟩);intro n s1 m;obtain⟨g,H1,I1,J⟩:=m;refine eN u (lB (hc cc s1 g H1 _ I1 (turn n g H1 J)) λb s2 m=>?_);obtain⟨z,B,i⟩:=m;cases b with
 |true=>
  obtain⟨N,C,i⟩:=i;rw[if_pos rfl];refine eN u (lB (hb cc s2 g z _ B i) λf s3 j=>?_);cases f with
  |next=>
   obtain⟨a,e,o,p⟩:=j;obtain⟨q,hm,r⟩:=C a e p;exact⟨q,hm,a,e,o,r⟩
  |cont=>
   obtain⟨a,e,o,p⟩:=j;obtain⟨q,hm,r⟩:=C a e p;exact⟨q,hm,a,e,o,r⟩
  |brk=>exact j
  |ret v=>exact j
 |false=>
  rw[if_neg aS];exact gL ⟨g,z,B,i⟩
end
structure It where
 go:Nat->Hp->Prop
 yld:Nat->Hp->V->Hp->Prop
 stop:Nat->Hp->Prop
def uf (X:Cx)(cc:List (aw×cC))(H:Hp)(b:aw):Prop:=
 H b=ar/\b≠X.env.locals/\b∉X.fs/\(b∈X.ex\/X.iZ.heap.objs.size<=b)/\(∀x c,X.env.cells.lookup x=aa c->c≠b)/\∀p∈X.pn++cc,p.1≠b
def Inv.JQ(I:Inv X cc σ H s)(hb:s.heap.objs.size<=b)(hn:a b=ar):uf X cc a b:=by
 refine⟨hn,dh (bw I.lt hb),I.aa7 hb,.inr (bG I.sz hb),λx c e z=>?_,λp f z=>?_⟩
 .obtain⟨v,q⟩:=I.cell x c e;exact absurd (bw q.lt (by rw[z];exact hb)) (cD _)
 .exact absurd (bw (aM (I.pin p f).1) (by rw[z];exact hb)) (cD _)
structure Turn(P:bc)(w:bI)(K:bz)(tg:bJ)(J:It)(fp:List aw)(it:aw)(tn:Nat->aC->Prop):Prop where
 mem:it∈fp
 obj:∀i h,tn i h->∀b∈fp,∃o,h.get? b=aa o/\∀v,o.data≠.cell v
 keep:∀i h h',tn i h->(∀b∈fp,∀o,h.get? b=aa o->h'.get? b=aa o)->tn i h'
 item:∀(X:Cx),X.prog=P->X.w=w->X.K=K->X.calm=ag->∀(i:Nat) (cc:List (aw×cC)) (s:av) (σ:St) (H:Hp) (E:ai->av->Prop),Inv X cc σ H s->(∀b∈fp,uf X cc H b)->tn i s.heap->J.go i H->
  wpAny (model P w) X.A (pyNext (.ref it)) (λr s1=>∃u,r=aa u/\
   wpAny (model P w) X.A (letOwnedTupleGo tg (.ref it) u) (λ_ s2=>∃x H',Inv X cc σ H' s2/\RelV x u/\J.yld i H x H'/\tn (i+1) s2.heap/\∀b∈fp,H' b=ar) E s1) E s
 done:∀(X:Cx),X.prog=P->X.w=w->X.K=K->X.calm=ag->∀(i:Nat) (cc:List (aw×cC)) (s:av) (σ:St) (H:Hp) (E:ai->av->Prop),Inv X cc σ H s->(∀b∈fp,uf X cc H b)->tn i s.heap->J.stop i H->
  wpAny (model P w) X.A (pyNext (.ref it)) (λr s1=>r=ar/\Inv X cc σ H s1) E s
 self:∀(A:bH) (i:Nat) (s:av) (Q:ai->av->Prop) (E:ai->av->Prop),tn i s.heap->Q (.ref it) s->wpAny (model P w) A (aiI (.ref it)) Q E s
abbrev TI:=St->Hp->(It->Hp->Prop)->Prop
def PIE (X:Cx)(cc:List (aw×cC))(σ:St)(tg:bJ)(R:It->Hp->Prop)(a:ai)(s2:av):Prop:=
 ∃(it:aw) (e:List aw) (f:Nat->aC->Prop) (J:It) (c:Hp),a=.ref it/\Inv X cc σ c s2/\Turn X.prog X.w X.K tg J e it f/\f 0 s2.heap/\(∀b∈e,uf X cc c b)/\R J c
def PI (X:Cx)(tg iter:bJ)(wi:TI):Prop:=
 ∀(cc:List (aw×cC)) (s:av) (σ:St) (H:Hp) (R:It->Hp->Prop),Inv X cc σ H s->wi σ H R->
  wpAny (model X.prog X.w) X.A (eval iter X.env) (λv s1=>wpAny (model X.prog X.w) X.A (aiI v) (PIE X cc σ tg R) X.xe s1) X.xe s
def JR(b:s.heap.get? it=aa o)(hc:o.cls=.type n)(hd:o.data=.fields c)
(hn:[ly,ll,zv,uay,uaz,uaA,uaB].contains n=au)(a:Q () s):wpAny M A (letOwnedTupleGo tg (.ref it) u) Q E s:=by
 cases tg<;>first
  |exact ay a
  | (cases u<;>first
    |exact ay a
    | (refine ae (wpAny_load b ?_)
       rw[hc,hd];show wpAny M A (if([ly,ll,zv,uay,uaz,uaA,uaB].contains n&&c[0]?==aa _)=ag then _ else _) Q E s;rw[if_neg (by intro h;rw[hn] at h;cases h)];exact ay a))
def Itl(K:bz)(a:aw):It:=
 ⟨λi H=>∃xs x,nI K H a xs/\xs[i]?=aa x,λi H x b=>b=H/\∀xs,nI K H a xs->xs[i]?=aa x,λi H=>∃xs,nI K H a xs/\xs.length<=i⟩
def Itt(K:bz)(a:aw):It:=
 ⟨λi H=>∃xs x,xQ K H a xs/\xs[i]?=aa x,λi H x b=>b=H/\∀xs,xQ K H a xs->xs[i]?=aa x,λi H=>∃xs,xQ K H a xs/\xs.length<=i⟩
def Itr(lo:Int)(n:Nat):It:=⟨λi _=>i<n,λi H x a=>a=H/\x=.int (lo+i),λi _=>n<=i⟩
def Rl{K:bz}(a it:aw):Turn P w K tg (Itl K a) [it] it (λi h=>h.IsListIter it a i) where
 mem:=by simp
 obj:=λi h st b hb=>by
  have e:b=it:=by simpa using hb
  subst e;obtain⟨o,e,c,d⟩:=st;exact⟨o,e,λv z=>by rw[d] at z;cases z⟩
 keep:=λi h G st k=>st.at λo e=>k it (by simp) o e
 item:=by intro X j hw m hc i cc s σ H E I f st n;subst j hw m;obtain⟨xs,x,g,q⟩:=n;obtain⟨iM,r,p,L⟩:=I.list g;obtain⟨u,M,N⟩:=r.get q;obtain⟨f0,y,O,A,B,C⟩:=f it (by simp);refine wpAny_pyNext_list_item st p.isList (x:=u) (by simpa using M) λG J sb=>?_;have I1:=I.turned (t':=s.toks) (λb o hb e=>(sb.2 b hb).trans e) f0 y A B C;obtain⟨o,e,c,d⟩:=id J;exact⟨u,rfl,JR e c d (by decide) ⟨x,H,I1,N,⟨rfl,λY Q=>by rw[I.JL Q g];exact q⟩,J,λb hb=>(f b hb).1⟩⟩
 done:=by intro X j hw m hc i cc s σ H E I f st n;subst j hw m;obtain⟨xs,g,q⟩:=n;obtain⟨iM,r,p,L⟩:=I.list g;obtain⟨f0,y,O,A,B,C⟩:=f it (by simp);have hl:=r.length;exact wpAny_pyNext_list_end (I.ok.hd hc) st p.isList (by simp;omega) λG T=>⟨rfl,I.turned (λb o hb e=>T b o hb e) f0 y A B C⟩
 self:=λ_ _ _ _ _ st h=>wpAny_pyIter_listiter st h
def MN{w:bI}{K:bz}{tg:bJ}(a it:aw):Turn P w K tg (Itt K a) [it] it (λi h=>h.IsTupleIter it a i) where
 mem:=by simp
 obj:=λi h st b hb=>by
  have e:b=it:=by simpa using hb
  subst e;obtain⟨o,e,c,d⟩:=st;exact⟨o,e,λv z=>by rw[d] at z;cases z⟩
 keep:=λi h G st k=>st.at λo e=>k it (by simp) o e
 item:=by intro X j hw m hc i cc s σ H E I f st n;subst j hw m;obtain⟨xs,x,g,q⟩:=n;obtain⟨iM,r,p,L⟩:=I.tuple g;obtain⟨u,M,N⟩:=r.get q;obtain⟨f0,y,O,A,B,C⟩:=f it (by simp);refine wpAny_pyNext_tuple_item st (p) (x:=u) (by simpa using M) λG J sb=>?_;have I1:=I.turned (t':=s.toks) (λb o hb e=>(sb.2 b hb).trans e) f0 y A B C;obtain⟨o,e,c,d⟩:=id J;exact⟨u,rfl,JR e c d (by decide) ⟨x,H,I1,N,⟨rfl,λY Q=>by rw[I.F6 Q g];exact q⟩,J,λb hb=>(f b hb).1⟩⟩
 done:=by intro X j hw m hc i cc s σ H E I f st n;subst j hw m;obtain⟨xs,g,q⟩:=n;obtain⟨iM,r,p,L⟩:=I.tuple g;obtain⟨f0,y,O,A,B,C⟩:=f it (by simp);have hl:=r.length;exact wpAny_pyNext_tuple_end (I.ok.hd hc) st (p) (by simp;omega) λG T=>⟨rfl,I.turned (λb o hb e=>T b o hb e) f0 y A B C⟩
 self:=λ_ _ _ _ _ st h=>wpAny_pyIter_tupleiter st h
def MP{K:bz}(it:aw)(lo:Int)(n:Nat):Turn P w K tg (Itr lo n) [it] it (λi h=>IsRangeIter h it (lo+(i:Nat)*1) ((n:Int)- (i:Nat)) 1) where
 mem:=by simp
 obj:=λi h st b hb=>by
  have e:=by simpa using hb
  subst e;exact⟨_,st,λv z=>by have x:=z;cases x⟩
 keep:=λi h a st k=>k it (by simp) _ st
 item:=by intro X q hw r hc i cc s σ H E I c st f;subst q hw r;obtain⟨f0,g,y,j,m,p⟩:=c it (by simp);have W:=aiq.range (prog:=X.prog) (w:=X.w) (I.ok.hd hc) it lo 1 n;refine W.item i s _ _ f st λv a tk A u B=>?_;obtain⟨t,rfl⟩:=A;have I1:Inv X cc σ H {s with heap:=a,toks:=tk}:=I.turned (λb o hb e=>B b o (by simpa using hb) e) f0 g j m p;refine⟨_,rfl,JR (s:={s with heap:=a,toks:=tk}) u rfl rfl (by decide) ⟨.int (lo+i),H,I1,⟨t,?_⟩,⟨rfl,rfl⟩,u,λb hb=>(c b hb).1⟩⟩;rw[Int.mul_one]
 done:=by intro X q hw r hc i cc s σ H E I c st f;obtain⟨f0,g,y,j,m,p⟩:=c it (by simp);exact wpAny_pyNext_range_end (I.ok.hd hc) st (by have:n<=i:=f;omega) λa C=>⟨rfl,I.turned (λb o hb e=>C b o hb e) f0 g j m p⟩
 self:=λ_ _ _ _ _ st h=>wpAny_pyIter_rangeiter st h
section
variable {X:Cx}
def T5{lo hi:Int}(I:Inv X cc σ H s)(a:-(2^62)<=lo)(c:lo<2^62)(f:-(2^62)<=hi)(g:hi<2^62)
(q:R (Itr lo (hi- lo).toNat) H):wpAny (model X.prog X.w) X.A (aiI (.ref s.heap.objs.size)) (PIE X cc σ tg R) E {s with heap:=s.heap.push {cls:=.type oi,data:=.fields #[.int lo t,.int hi u,.int 1 v]},toks:=tk}:=by
 refine wpAny_pyIter_range (IsRange.new ..) (small_one a c f g) ?_;have I1:Inv X cc σ H {s with heap:=s.heap.push {cls:=.type oi,data:=.fields #[.int lo t,.int hi u,.int 1 v]},toks:=tk}:=I.kept λb o e=>aj _ e;refine⟨(s.heap.push _).objs.size,[(s.heap.push _).objs.size],_,_,H,rfl,
  I1.kept λb o e=>aj _ e,MP _ lo _,?_,λb hb=>?_,q⟩
 .have e1:lo+((0:Nat):Int)*1=lo:=by simp
  have e2:(((hi- lo).toNat:Nat):Int)- ((0:Nat):Int)=bM.Range.rangeSize lo hi 1:=by rw[rangeSize_one];split<;>omega
  rw[e1,e2];exact aP _ rfl
 .have e:b=(s.heap.push {cls:=.type oi,data:=.fields #[.int lo t,.int hi u,.int 1 v]}).objs.size:=by simpa using hb
  subst e;exact I1.JQ (aD _) (I1.ja.fresh (aD _))
def adT (a:TA):TI:=λσ H R=>a σ H λb H1=>∃j:Int,b=[.int j]/\-(2^62)<=j/\j<2^62/\R (Itr 0 j.toNat) H1
def Rn(c:Gl X oi)(hm:X.mg oi=ar)(ha:PA X [a] f)(g:bg [a] X.env=[(au,eval a X.env)]:=by rfl):PI X tg (.Call (.Name oi p) [a] [] pos) (adT f):=by
 intro cc s σ H R I h;refine Call_ (ud I c hm boot_range (cN (lB (ha pos cc s σ H _ I h) λus s1 ⟨o,H1,I1,i,b⟩=>?_) g rfl));obtain⟨j,e,b,m,q⟩:=b;subst e;cases i with
 |cons r n=>
  cases n;obtain⟨t,rfl⟩:=r;exact call_range_1 (T5 I1 (by omega) (by omega) b m (by simpa using q))
def age (wi:TI)(g:TG)(tb:TS):TS:=λD σ H=>wi σ H λJ H1=>∃W:Nat->Nat->St->Hp->Prop,(∃m,W 0 m σ H1)/\∀i m σ H,W i m σ H->
 (J.stop i H/\D.nx σ H)\/(J.go i H/\∃N:St->Hp->Prop,(∀b a,N b a->∃c,c<m/\W (i+1) c b a)/\∀x a,J.yld i H x a->g x σ a λe f=>tb {D with nx:=N,ct:=N,bk:=D.nx} e f)
def CZ(a:List aw)(h:aC):List (aw×cC):=a.filterMap λb=>(h.get? b).map λo=>(b,o)
def ug(hb:b∈a)(e:h.get? b=aa o):(b,o)∈CZ a h:=List.mem_filterMap.mpr ⟨b,hb,by rw[e];rfl⟩
def Ro(a:p∈CZ c h):p.1∈c/\h.get? p.1=aa p.2:=by
 obtain⟨b,hb,e⟩:=List.mem_filterMap.mp a;cases q:h.get? b with
 |none=>rw[q] at e;cases e
 |some o=>
  rw[q] at e;have e':=bF e;subst e';exact⟨hb,q⟩
def Inv.pinned(I:Inv X cc σ H s)(c:∀b∈a,uf X cc H b)(f:∀b∈a,∃o,s.heap.get? b=aa o/\∀v,o.data≠.cell v):Inv X (cc++CZ a s.heap) σ H s:=
 I.Pp λp g=>(bt.mp g).elim (λz=>I.pin p (bL _ z)) λz=>by obtain⟨hb,e⟩:=Ro z;obtain⟨f0,h,i,_⟩:=c p.1 hb;obtain⟨o,e',d⟩:=f p.1 hb;rw[e] at e';cases e';exact⟨e,f0,h,i,d⟩
def Inv.y9(I:Inv X (cc++pl) σ H s):Inv X cc σ H s:=I.Pp λp a=>I.pin p (bL _ (bW _ a))
def abo(B:aid (model X.prog X.w) X.A X.env X.xe)(hc:X.calm=ag)(hi:PI X tg iter wi)(hg:PG X tg g)(hb:y7 X body tb)
(hs:∀x,eQ iter X.env x=pure x:=by intro _;rfl):PS X (.For tg iter body [] pos) (age wi g tb):=by
 intro cc s σ H D I h;refine wpAny_For (lB (hi cc s σ H _ I h) λv s1 h1=>lB h1 λitv s2 h2=>?_) hs;obtain⟨it,C,tn,J,H2,e,I2,T,U,f2,W,⟨m0,w0⟩,turn⟩:=h2;subst e;have Y:∀{p:Hp},(∀b∈C,p b=ar)->∀b∈C,uf X cc p b:=λhn b hb=>⟨hn b hb,(f2 b hb).2⟩;refine codeAny_forLoop_any (λn s'=>∃i E p,Inv X cc E p s'/\tn i s'.heap/\(∀b∈C,p b=ar)/\W i n E p) ?_ m0 ⟨0,σ,H2,I2,U,λb hb=>(f2 b hb).1,w0⟩;intro n s3 q;obtain⟨i,G,Q,I3,L,M,w3⟩:=q;rcases turn i n G Q w3 with⟨stop,qn⟩|⟨go,N,hN,step⟩
 .refine eN B (lB (T.done X rfl rfl rfl hc i cc s3 G Q X.xe I3 (Y M) L stop) λr s4 q=>?_);obtain⟨hr,I4⟩:=q;subst hr;exact gL ⟨G,Q,I4,qn⟩
 .refine eN B (lB (T.item X rfl rfl rfl hc i cc s3 G Q X.xe I3 (Y M) L go) λr s4 q=>?_);obtain⟨u,hr,h4⟩:=q;subst hr;refine eN B (lB h4 λ_ s5 q=>?_);obtain⟨x,H5,I5,r5,y5,z,fr5⟩:=q;have I5':=I5.pinned (Y fr5) (T.obj _ _ z);refine eN B (lB (hg _ s5 G H5 x u _ I5' r5 (step x H5 y5)) λ_ s6 q=>?_);obtain⟨σ6,H6,I6,q6⟩:=q;refine eN B (lB (hb _ s6 σ6 H6 _ I6 q6) λf s7 y=>?_);have again:∀{a:St} {c:Hp},Inv X (cc++CZ C s5.heap) a c s7->N a c->∃m,m<n/\∃i E p,Inv X cc E p s7/\tn i s7.heap/\(∀b∈C,p b=ar)/\W i m E p:=λ{a c} j O=>by obtain⟨m',hm,w7⟩:=hN a c O;refine⟨m',hm,i+1,a,c,j.y9,T.keep _ _ _ z λb hb o e=>(j.pin (b,o) (bL _ (bL _ (ug hb e)))).1,λb hb=>?_,w7⟩;obtain⟨o,e,d⟩:=T.obj _ _ z b hb;exact(j.pin (b,o) (bL _ (bL _ (ug hb e)))).2.1
  cases f with
  |next=>obtain⟨a,c,j,O⟩:=y;exact again j O
  |cont=>obtain⟨a,c,j,O⟩:=y;exact again j O
  |brk=>obtain⟨a,c,j,y⟩:=y;exact⟨a,c,j.y9,y⟩
  |ret v=>obtain⟨x7,a,c,j,r7,y⟩:=y;exact⟨x7,a,c,j.y9,r7,y⟩
end
abbrev R2:=V->V->Hp->VK->Prop
def uh (X:Cx)(f:ai->ai->Sem ai)(r:R2):Prop:=
 ∀(cc:List (aw×cC)) (s:av) (σ:St) (H:Hp) (x y:V) (v u:ai) (Q:VK),Inv X cc σ H s->RelV x v->RelV y u->r x y H Q->
  wpAny (model X.prog X.w) X.A (f v u) (EP X cc σ Q) X.xe s
def UnR (X:Cx)(f:ai->Sem ai)(r:V->Hp->VK->Prop):Prop:=
 ∀(cc:List (aw×cC)) (s:av) (σ:St) (H:Hp) (x:V) (v:ai) (Q:VK),Inv X cc σ H s->RelV x v->r x H Q->
  wpAny (model X.prog X.w) X.A (f v) (EP X cc σ Q) X.xe s
def ny (X:Cx)(f:ai)(r:List V->Hp->VK->Prop):Prop:=
 ∀(cc:List (aw×cC)) (s:av) (σ:St) (H:Hp) (xs:List V) (us:List ai) (Q:VK),Inv X cc σ H s->Vals xs us->r xs H Q->
  wpAny (model X.prog X.w) X.A (call f us) (EP X cc σ Q) X.xe s
def tOp (r:R2)(a tb:TE):TE:=λσ H Q=>a σ H λx H1=>tb σ H1 λy b=>r x y b Q
def tUn (r:V->Hp->VK->Prop)(a:TE):TE:=λσ H Q=>a σ H λx H1=>r x H1 Q
def rI (C:Int->Int->Prop)(g:Int->Int->V):R2:=λx y H Q=>∃i j,x=.int i/\y=.int j/\C i j/\Q (g i j) H
def rI0 (g:Int->Int->V):R2:=λx y H Q=>∃i j,x=.int i/\y=.int j/\Q (g i j) H
def rU (g:Int->V):V->Hp->VK->Prop:=λx H Q=>∃i,x=.int i/\Q (g i) H
section
variable {X:Cx}
def abp(ha:PE X a ta)(hb:PE X b tb){R:V->V->Hp->Prop}(I:Inv X cc σ H s)
(h:ta σ H λx H1=>tb σ H1 λy e=>R x y e){f:ai->ai->Sem ai}
(i:∀v u s2 x y e,Inv X cc σ e s2->RelV x v->RelV y u->R x y e->wpAny (model X.prog X.w) X.A (f v u) Q X.xe s2):
  wpAny (model X.prog X.w) X.A (eval a X.env) (λv j=>wpAny (model X.prog X.w) X.A (eval b X.env) (λu m=>wpAny (model X.prog X.w) X.A (f v u) Q X.xe m) X.xe j) X.xe s:=by refine lB (ha cc s σ H _ I h) λv s1 g=>?_;obtain⟨x,H1,I1,n,o⟩:=g;refine lB (hb cc s1 σ H1 _ I1 o) λu s2 g=>?_;obtain⟨y,e,p,q,r⟩:=g;exact i v u s2 x y e p n q r
def aam(e:uh X (binaryOp op) r)(ha:PE X a ta)(hb:PE X b tb):PE X (.BinOp a op b pos) (tOp r ta tb):=by intro cc s σ H Q I h;exact wpAny_BinOp (abp ha hb I h λv u s2 x y f g i j q=>e cc s2 σ f x y v u Q g i j q)
def adU(e:UnR X (unaryOp op) r)(ha:PE X a ta):PE X (.UnaryOp op a pos) (tUn r ta):=by intro cc s σ H Q I h;exact UnaryOp_ (lB (ha cc s σ H _ I h) λv s1 ⟨x,H1,I1,f,g⟩=>e cc s1 σ H1 x v Q I1 f g)
def opI{g:Int->Int->Int}
(rule:∀(i j:Int) (t u:ajL) (s:av) (Q:ai->av->Prop) (E:ai->av->Prop),C i j->Q (.int (g i j) s.toks) {s with toks:=s.toks+1}->wpAny (model X.prog X.w) X.A (f (.int i t) (.int j u)) Q E s):
  uh X f (rI C λi j=>.int (g i j)):=by intro cc s σ H x y v u Q I e m h;obtain⟨i,j,rfl,rfl,hc,q⟩:=h;obtain⟨t,rfl⟩:=e;obtain⟨n,rfl⟩:=m;exact rule i j t n s _ _ hc ⟨.int (g i j),H,I.tok _,⟨_,rfl⟩,q⟩
def abq{g:Int->Int->Int}
(rule:∀(i j:Int) (t u:ajL) (s:av) (Q:ai->av->Prop) (E:ai->av->Prop),Q (.int (g i j) s.toks) {s with toks:=s.toks+1}->wpAny (model X.prog X.w) X.A (f (.int i t) (.int j u)) Q E s):
  uh X f (rI0 λi j=>.int (g i j)):=by intro cc s σ H x y v u Q I e m h;obtain⟨i,j,rfl,rfl,q⟩:=h;obtain⟨t,rfl⟩:=e;obtain⟨n,rfl⟩:=m;exact rule i j t n s _ _ ⟨.int (g i j),H,I.tok _,⟨_,rfl⟩,q⟩
def abr{g:Int->Int->Bool}
(rule:∀(i j:Int) (t u:ajL) (s:av) (Q:ai->av->Prop) (E:ai->av->Prop),Q (.bool (g i j)) s->wpAny (model X.prog X.w) X.A (f (.int i t) (.int j u)) Q E s):
  uh X f (rI0 λi j=>.bl (g i j)):=by intro cc s σ H x y v u Q I e m h;obtain⟨i,j,rfl,rfl,q⟩:=h;obtain⟨t,rfl⟩:=e;obtain⟨n,rfl⟩:=m;exact rule i j t n s _ _ ⟨.bl (g i j),H,I,rfl,q⟩
def Hj (i j:Int):Prop:=0<=j/\j<=1000000/\i.natAbs<2^64
def zc (i j:Int):Prop:=(-(2^64)<i/\i<2^64)\/(-(2^64)<j/\j<2^64)
def zc.ok(h:zc i j):IntMulOk i j:=by
 rcases h with⟨e,f⟩|⟨e,f⟩
 .exact .of_left (ajW e f)
 .exact .of_right (ajW e f)
def abt:uh X (binaryOp .Add) (rI0 λi j=>.int (i+j)):=abq λ_ _ _ _ _ _ _ q=>add_int q
def abu:uh X (binaryOp .Sub) (rI0 λi j=>.int (i- j)):=abq λ_ _ _ _ _ _ _ q=>sub_int q
def abv:uh X (binaryOp .Mult) (rI zc λi j=>.int (i*j)):=opI λ_ _ _ _ _ _ _ hc q=>mul_int q hc.ok
def abw:uh X (binaryOp .Mod) (rI (λ_ j=>0<j) λi j=>.int (i%j)):=opI λi j _ _ _ _ _ hc q=>by exact mod_int' (by omega) (by rw[Int.fmod_eq_emod_of_nonneg i (by omega)];exact q)
def abx:uh X (binaryOp .Pow) (rI Hj λi j=>.int (i^j.toNat)):=opI λ_ _ _ _ _ _ _ hc q=>pow_int_small hc.1 hc.2.1 hc.2.2 q
def XH:uh X (ajC .Add) (rI0 λi j=>.int (i+j)):=abq λ_ _ _ _ _ _ _ q=>iadd_int q
def unI{g:Int->Int}
(rule:∀(i:Int) (t:ajL) (s:av) (Q:ai->av->Prop) (E:ai->av->Prop),Q (.int (g i) s.toks) {s with toks:=s.toks+1}->wpAny (model X.prog X.w) X.A (f (.int i t)) Q E s):
  UnR X f (rU λi=>.int (g i)):=by intro cc s σ H x v Q I e h;obtain⟨i,rfl,q⟩:=h;obtain⟨t,rfl⟩:=e;exact rule i t s _ _ ⟨.int (g i),H,I.tok _,⟨_,rfl⟩,q⟩
def aby:UnR X (unaryOp .USub) (rU λi=>.int (-i)):=unI λ_ _ _ _ _ q=>neg_int q
end
def adV:V->V->Bool
 |.non,.non=>ag|.non,.int _=>ag|.int _,.non=>ag|.non,.bl _=>ag|.bl _,.non=>ag|.non,.str _=>ag|.str _,.non=>ag
 |.int _,.int _=>ag|.bl _,.bl _=>ag|.str _,.str _=>ag|.Tt _,.Tt _=>ag
 |.int _,.str _=>ag|.str _,.int _=>ag|.bl _,.str _=>ag|.str _,.bl _=>ag
 |_,_=>au
def rEq:R2:=λx y H Q=>adV x y=ag/\Q (.bl (decide (x=y))) H
def rNe:R2:=λx y H Q=>adV x y=ag/\Q (.bl (!decide (x=y))) H
def Hk:decide (V.int i=V.int j)=(i==j):=by rw[d9];simp
def T7:decide (V.bl i=V.bl j)=(i==j):=by rw[d9];simp
def Hl:decide (V.str i=V.str j)=(i==j):=by rw[d9];simp
def Px:decide (V.Tt i=V.Tt j)=(i.toList==j.toList):=by rw[d9];cases i;cases j;simp
def jy(I:Inv X cc σ H s)(q:Q (.bl k) H)(e:k=k'):EP X cc σ Q (.bool k') s:=by subst e;exact⟨.bl k,H,I,rfl,q⟩
def aan:uh X (compareOp .Eq) rEq:=by
 intro cc s σ H x y v u Q I m e h;obtain⟨g,q⟩:=h;cases x with
 |non=>
  cases m;cases y with
  |non=>cases e;exact PySem.EqNone.eq_none_none (jy I q (by simp))
  |bl j=>cases e;exact PySem.EqNone.eq_none_bool (jy I q (by simp))
  |int j=>obtain⟨f,rfl⟩:=e;exact PySem.EqNone.eq_none_int (jy I q (by simp))
  |str j=>obtain⟨f,rfl⟩:=e;exact PySem.EqNone.eq_none_str (jy I q (by simp))
  |_=>exact absurd (show au=ag from g) aS
 |bl i=>
  cases m;cases y with
  |non=>cases e;exact PySem.EqNone.eq_bool_none (jy I q (by simp))
  |bl j=>cases e;exact eq_bool (jy I q T7)
  |str j=>obtain⟨f,rfl⟩:=e;exact PySem.EqMixed.eq_bool_str (jy I q (by simp))
  |_=>exact absurd (show au=ag from g) aS
 |int i=>
  obtain⟨t,rfl⟩:=m;cases y with
  |non=>cases e;exact PySem.EqNone.eq_int_none (jy I q (by simp))
  |int j=>obtain⟨f,rfl⟩:=e;exact eq_int (jy I q Hk)
  |str j=>obtain⟨f,rfl⟩:=e;exact PySem.EqMixed.eq_int_str (jy I q (by simp))
  |_=>exact absurd (show au=ag from g) aS
 |str i=>
  obtain⟨t,rfl⟩:=m;cases y with
  |non=>cases e;exact PySem.EqNone.eq_str_none (jy I q (by simp))
  |bl j=>cases e;exact PySem.EqMixed.eq_str_bool (jy I q (by simp))
  |int j=>obtain⟨f,rfl⟩:=e;exact PySem.EqMixed.eq_str_int (jy I q (by simp))
  |str j=>obtain⟨f,rfl⟩:=e;exact eq_str (jy I q Hl)
  |_=>exact absurd (show au=ag from g) aS
 |Tt i=>
  obtain⟨t,rfl⟩:=m;cases y with
  |Tt j=>obtain⟨f,rfl⟩:=e;exact W.eq_bytes (jy I q Px)
  |_=>exact absurd (show au=ag from g) aS
 |_=>cases y<;>exact absurd (show au=ag from g) aS
def aao:uh X (compareOp .NotEq) rNe:=by
 intro cc s σ H x y v u Q I m e h;obtain⟨g,q⟩:=h;cases x with
 |non=>
  cases m;cases y with
  |non=>cases e;exact PySem.EqNone.ne_none_none (jy I q (by simp))
  |bl j=>cases e;exact PySem.EqNone.ne_none_bool (jy I q (by simp))
  |int j=>obtain⟨f,rfl⟩:=e;exact PySem.EqNone.ne_none_int (jy I q (by simp))
  |str j=>obtain⟨f,rfl⟩:=e;exact PySem.EqNone.ne_none_str (jy I q (by simp))
  |_=>exact absurd (show au=ag from g) aS
 |bl i=>
  cases m;cases y with
  |non=>cases e;exact PySem.EqNone.ne_bool_none (jy I q (by simp))
  |bl j=>cases e;exact ne_bool (jy I q (congrArg not T7))
  |str j=>obtain⟨f,rfl⟩:=e;exact PySem.EqMixed.ne_bool_str (jy I q (by simp))
  |_=>exact absurd (show au=ag from g) aS
 |int i=>
  obtain⟨t,rfl⟩:=m;cases y with
  |non=>cases e;exact PySem.EqNone.ne_int_none (jy I q (by simp))
  |int j=>obtain⟨f,rfl⟩:=e;exact ne_int (jy I q (congrArg not Hk))
  |str j=>obtain⟨f,rfl⟩:=e;exact PySem.EqMixed.ne_int_str (jy I q (by simp))
  |_=>exact absurd (show au=ag from g) aS
 |str i=>
  obtain⟨t,rfl⟩:=m;cases y with
  |non=>cases e;exact PySem.EqNone.ne_str_none (jy I q (by simp))
  |bl j=>cases e;exact PySem.EqMixed.ne_str_bool (jy I q (by simp))
  |int j=>obtain⟨f,rfl⟩:=e;exact PySem.EqMixed.ne_str_int (jy I q (by simp))
  |str j=>obtain⟨f,rfl⟩:=e;exact ne_str (jy I q (congrArg not Hl))
  |_=>exact absurd (show au=ag from g) aS
 |Tt i=>
  obtain⟨t,rfl⟩:=m;cases y with
  |Tt j=>obtain⟨f,rfl⟩:=e;exact W.ne_bytes (jy I q (congrArg not Px))
  |_=>exact absurd (show au=ag from g) aS
 |_=>cases y<;>exact absurd (show au=ag from g) aS
def adW:uh X (compareOp .Lt) (rI0 λi j=>.bl (decide (i<j))):=abr λ_ _ _ _ _ _ _ q=>lt_int q
def adX:uh X (compareOp .LtE) (rI0 λi j=>.bl (decide (i<=j))):=abr λ_ _ _ _ _ _ _ q=>le_int q
def adY:uh X (compareOp .Gt) (rI0 λi j=>.bl (decide (j<i))):=abr λ_ _ _ _ _ _ _ q=>gt_int q
def Rp:uh X (compareOp .Lt) (λx y H Q=>∃i j,x=.str i/\y=.str j/\Q (.bl (decide (i.cps.toList<j.cps.toList))) H):=by intro cc s σ H x y v u Q I e f h;obtain⟨i,j,rfl,rfl,q⟩:=h;obtain⟨t,rfl⟩:=e;obtain⟨g,rfl⟩:=f;exact lt_str (jy I q rfl)
def Rq:uh X (compareOp .In) (λx y H Q=>∃i j,x=.str i/\y=.str j/\Q (.bl (!(gB j i 0 j.length 1).isEmpty)) H):=by intro cc s σ H x y v u Q I e f h;obtain⟨i,j,rfl,rfl,q⟩:=h;obtain⟨t,rfl⟩:=e;obtain⟨g,rfl⟩:=f;exact in_str (jy I q rfl)
def abz:uh X (compareOp .Is) (λx y H Q=>y=.non/\Q (.bl (decide (x=.non))) H):=by
 intro cc s σ H x y v u Q I e f h;obtain⟨rfl,q⟩:=h;cases f;refine is_none_gen (jy I q ?_);cases x<;>first
  | (rfl)
  | (obtain⟨t,rfl⟩:=e;rfl)
def Hm:uh X (compareOp .NotIn) (λx y H Q=>∃i j,x=.str i/\y=.str j/\Q (.bl (!(!(gB j i 0 j.length 1).isEmpty))) H):=by intro cc s σ H x y v u Q I e f h;obtain⟨i,j,rfl,rfl,q⟩:=h;obtain⟨t,rfl⟩:=e;obtain⟨g,rfl⟩:=f;exact notIn_str (jy I q rfl)
def XI(e:uh X (compareOp op) r)(ha:PE X a ta)(hb:PE X b tb)(hm:aii op b=au):PE X (.Compare a [op] [b] pos) (tOp r ta tb):=by intro cc s σ H Q I h;exact wpAny_Compare1 (abp ha hb I h λv u s2 x y f g i j q=>e cc s2 σ f x y v u Q g i j q) hm
def aap (t:TE):TT:=λσ H Q=>t σ H λx e=>∃k,x=.bl k/\Q k e
def XJ(f:uh X (compareOp op) r)(ha:PE X a ta)(hb:PE X b tb)(hm:aii op b=au):PT X (.Compare a [op] [b] pos) (aap (tOp r ta tb)):=by
 intro cc s σ H Q I h;refine wpAny_isTrue_Compare1 (lB (ha cc s σ H _ I h) λv s1 ⟨x,H1,I1,g,i⟩=>lB (hb cc s1 σ H1 _ I1 i) λu s2 ⟨y,j,m,n,o⟩=>
  lB (f cc s2 σ j x y v u _ m g n o) λc s3 ⟨z,p,q,w,k,e,A⟩=>?_) hm
 subst e;cases w;exact cz ⟨p,q,A⟩
def MR (r f:R2)(ta tb tc:TE):TE:=λσ H Q=>ta σ H λx H1=>tb σ H1 λy g=>r x y g λz e=>∃k,z=.bl k/\
 (if k=ag then tc σ e λh i=>f y h i Q else Q (.bl au) e)
def T8(n:uh X (compareOp op) r)(o:uh X (compareOp f) p)(ha:PE X a ta)(hb:PE X b tb)(hc:PE X c tc)
(hm:aiT [op,f] [b,c]=au:=by with_unfolding_all rfl):PE X (.Compare a [op,f] [b,c] pos) (MR r p ta tb tc):=by
 intro cc s σ H Q I h;refine Compare_chain (lB (ha cc s σ H _ I h) λv s1 ⟨x,H1,I1,q,w⟩=>chain_link (lB (hb cc s1 σ H1 _ I1 w) λu s2 ⟨y,A,B,g,C⟩=>
  lB (n cc s2 σ A x y v u _ B q g C) λd s3 ⟨z,i,j,E,k,e,m⟩=>?_)) hm
 subst e;cases E;refine cz ?_;cases k with
 |false=>exact ite_ff ⟨.bl au,i,j,rfl,m⟩
 |true=>exact ite_tt (chain_last (lB (hc cc s3 σ i _ j m) λG J ⟨L,M,N,O,T⟩=>o cc J σ M y L u G Q N g O T))
def T9(n:uh X (compareOp op) r)(o:uh X (compareOp f) p)(ha:PE X a ta)(hb:PE X b tb)(hc:PE X c tc)
(hm:aiT [op,f] [b,c]=au:=by with_unfolding_all rfl):PT X (.Compare a [op,f] [b,c] pos) (aap (MR r p ta tb tc)):=by
 intro cc s σ H Q I h;refine isTrue_chain (lB (ha cc s σ H _ I h) λv s1 ⟨x,H1,I1,q,w⟩=>test_link (lB (hb cc s1 σ H1 _ I1 w) λu s2 ⟨y,A,B,g,C⟩=>
  lB (n cc s2 σ A x y v u _ B q g C) λd s3 ⟨z,i,j,E,k,e,m⟩=>?_)) hm
 subst e;cases E;refine cz ?_;cases k with
 |false=>
  obtain⟨k',e',G⟩:=m;cases e';exact ite_ff ⟨i,j,G⟩
 |true=>
  refine ite_tt (test_last (lB (hc cc s3 σ i _ j m) λJ L ⟨M,N,O,T,U⟩=>lB (o cc L σ N y M u J _ O g T U) λd' s5 Y=>?_));obtain⟨z2,H5,I5,r5,k2,e2,q5⟩:=Y;subst e2;cases r5;exact cz ⟨H5,I5,q5⟩
def C0:(aO:Nat)<2^63:=by decide
def MS:uh X (binaryOp .Add) (λx y H Q=>∃i j,x=.str i/\y=.str j/\i.length+j.length<=aO/\Q (.str (i++j)) H):=by intro cc s σ H x y v u Q I e f h;obtain⟨i,j,rfl,rfl,g,q⟩:=h;obtain⟨t,rfl⟩:=e;obtain⟨m,rfl⟩:=f;exact add_str (λm tk=>⟨.str (i++j),H,I.tok _,⟨_,rfl⟩,q⟩) g
def vals1(r:Vals [x] us):∃u,us=[u]/\RelV x u:=by
 cases r with
 |cons e f=>cases f;exact⟨_,rfl,e⟩
def vals2(r:Vals [x,y] us):∃u e,us=[u,e]/\RelV x u/\RelV y e:=by
 cases r with
 |cons f g=>
  cases g with
  |cons h i=>cases i;exact⟨_,_,rfl,f,h⟩
def F8:ny X (.type hH) (λxs H Q=>(∃i,xs=[.int i]/\Q (.int i) H)\/∃k,xs=[.bl k]/\Q (.int (if k then 1 else 0)) H):=by
 intro cc s σ H xs us Q I r h;rcases h with⟨i,rfl,q⟩|⟨k,rfl,q⟩
 .obtain⟨u,rfl,t,rfl⟩:=vals1 r;exact call_int_int ⟨.int i,H,I,⟨_,rfl⟩,q⟩
 .obtain⟨u,rfl,e⟩:=vals1 r;cases e;exact call_int_bool ⟨.int (if k then 1 else 0),H,I.tok _,⟨_,rfl⟩,q⟩
structure MT(h:aC)(x dx C:aw)(mA:aX->Option ai):Prop where
 obj:h.get? x=aa (W.instObj C dx)
 ns:h.Ns1 dx mA
 ne:dx≠x
def F9{h:aC}(n:h.Ns1 b c):∃od,h.get? b=aa od/\∀name,W.lookIn name od=aa (c name):=by
 obtain⟨o,es,p,f,hd,g,_,hm⟩:=n;refine⟨o,f,λname=>?_⟩;have e:=hm name;unfold nsFind ajh at e;rw[<-Array.find?_toList] at e;unfold W.lookIn;rw[hd];dsimp only;split
 .rename_i y q;rw[q] at e;exact congrArg aa e
 .rename_i q;rw[q] at e;have a:es.toList.any (·.refKey)=au:=by rw[List.any_eq_false];intro y i;obtain⟨z,t,j⟩:=g y (Array.mem_toList_iff.mp i);simp[DictEntry.refKey,j]
  have m:¬es.toList.any (·.refKey)=ag:=by rw[a];exact aS
  rw[if_neg m];exact congrArg aa e
def MT.look(I:MT h x a C b):∃od,W.InstAt h x (W.instObj C a) C (aa od)/\∀name,W.lookIn name od=aa (b name):=
 let⟨od,c,e⟩:=F9 I.ns
 ⟨od,⟨I.obj,rfl,rfl,c⟩,e⟩
section
variable {A:bH} {s:av} {K:bz}
def zd(X:K.In s.heap)(I:MT s.heap x dx C mA)(b:W.plainGet K C name=ag)(c:W.hasDictIn K C=ag)
(ha:cP K (.ref C) name=aa ar)(e:mA name=aa v)(a:W.handedIn v=ag)(h:Q v {s with toks:=s.toks+1}):
  wpAny (model prog w) A (getAttr (.ref x) name expr) Q E s:=by obtain⟨od,J,g⟩:=I.look;exact W.get_value X J (W.plainGet_of b).1 (W.findObj_own c ha rfl (by rw[g,e])) a h
def Ua(X:K.In s.heap)(I:MT s.heap x dx C mA)(a:W.plainGet K C name=ag)
(b:cP K (.ref C) name=aa (aa (.ref f)))(ht:W.isFn K (.ref f)=ag)(c:mA name=ar)(h:Q (.ref f,[.ref x]) s):
  wpAny (model prog w) A (ajD (.ref x) name pl) Q E s:=by obtain⟨od,J,e⟩:=I.look;exact W.method_fn X J (W.plainGet_of a).1 (W.plainGet_of a).2 b (beq_iff_eq.mp ht) (by show(W.lookIn name od).map _=aa au;rw[e,c];rfl) h
def XM(X:K.In s.heap)(I:MT s.heap x dx C mA)
(j:cP K (.ref C) uJ=aa (aa (.builtin vg)))(m:W.plainOver K C=ag)(ht:W.takerIn K C name=aa ar)(n:W.hasDictIn K C=ag)
(hw:PySem.Within mA ns)(z:ns.length<=aO)
(h:∀a,MT a x dx C (λy=>if y=name then aa v else mA y)->bP dx s.heap a->Q () {s with heap:=a,toks:=s.toks+2}):
  wpAny (model prog w) A (setAttr (.ref x) name v) Q E s:=by obtain⟨od,J,B⟩:=I.look;refine W.set_plain X J j (W.osa_open X J m ht λb=>?_);obtain⟨cd,hc,o⟩:=W.any_some n;have p:=I.obj;refine ae (ay (ae (ae (ajN p (ae (W.Looks.here (W.looks_clsIn X hc) ?_))))));rw[o];refine ay (ae (ay (ae ?_)));refine wpAny_nsSet1 I.ns λa g i=>?_;obtain⟨G,q,r,c,e,u⟩:=g.count (PySem.Within.cons name v hw);refine ae (wpAny_lookBehind c (by rw[e];exact pastItsLine_dict (bG u (by rw[aU];omega))) ?_);exact ay (h _ ⟨(i.2 _ (b9 I.ne)).trans I.obj,g,I.ne⟩ i)
def Ub(X:K.In s.heap)(hm:W.makesIn K C=ag)
(hi:cP K (.ref C) mm=aa (aa (.ref f)))(b:W.typeIn K (.ref f)=aa (.type "function"))
(h:codeAny (model prog w) (A.under (.builtin ol ⟨.ref C::a,kw⟩)) (.call (.ref f) ⟨.ref (s.heap.objs.size+1)::a,kw⟩) (W.InitBack (s.heap.objs.size+1) R)
   {s with heap:=(s.heap.push W.emptyDict).push (W.instObj C s.heap.objs.size)}):
  codeAny (model prog w) A (.call (.ref C) ⟨a,kw⟩) R s:=by exact W.make_core (W.makes_of X hm) (W.looks_findIn X hi) (λself=>W.bind_fn X self b) (.inl rfl) h
end
def tD(f:aX)(v:V):List (aX×V)->List (aX×V)
 |[]=>[(f,v)]
 | (g,x)::r=>if g=f then(g,v)::r else(g,x)::tD f v r
theorem Bt(f g:aX)(v:V):∀fs:List _,(tD f v fs).lookup g=if g=f then aa v else fs.lookup g
 |[]=>by
  show fZ g [(f,v)]=_;by_cases h:g=f
  .have hb:=beq_iff_eq.mpr h;simp only [fZ,hb,if_pos h]
  .have hb:=beq_eq_false_iff_ne.mpr h;simp only [fZ,hb,if_neg h]
 | (k,x)::r=>by
  have b:=Bt f g v r;rw[show tD f v _=(if k=f then(k,v)::r else(k,x)::tD f v r) from rfl];by_cases a:k=f
  .rw[if_pos a];by_cases h:g=k
   .have hb:=beq_iff_eq.mpr h;simp only [fZ,hb,if_pos (h.trans a)]
   .have hb:=beq_eq_false_iff_ne.mpr h;simp only [fZ,hb,if_neg (λe:g=f=>h (e.trans a.symm))]
  .rw[if_neg a];by_cases h:g=k
   .have hb:=beq_iff_eq.mpr h;simp only [fZ,hb,if_neg (λe:g=f=>a (h.symm.trans e))]
   .have hb:=beq_eq_false_iff_ne.mpr h;simp only [fZ,hb];exact b
theorem At(f:aX)(v:V):∀fs:List _,f∈(tD f v fs).map (·.1)/\∀g,g∈fs.map (·.1)->g∈(tD f v fs).map (·.1)
 |[]=>⟨by simp[tD],λg h=>by simp at h⟩
 | (k,x)::r=>by
  obtain⟨b,c⟩:=At f v r;rw[show tD f v _=(if k=f then(k,v)::r else(k,x)::tD f v r) from rfl];by_cases a:k=f
  .subst a;exact⟨by simp,λg h=>by simpa using h⟩
  .rw[if_neg a];refine⟨?_,λg h=>?_⟩
   .exact aB _ b
   .rcases aH.mp h with e|e
    .exact aH.mpr (.inl e)
    .exact aB _ (c g e)
theorem Bu(f:aX)(v:V):∀fs:List _,(tD f v fs).length<=fs.length+1
 |[]=>by simp[tD]
 | (k,x)::r=>by
  have b:=Bu f v r;rw[show tD f v _=(if k=f then(k,v)::r else(k,x)::tD f v r) from rfl];by_cases a:k=f
  .rw[if_pos a,aU,aU];omega
  .rw[if_neg a,aU,aU];omega
def sH.some_of(r:sH (aa v) o):∃u,o=aa u/\RelV v u:=by
 cases o with
 |none=>exact(r).elim
 |some u=>exact⟨u,rfl,r⟩
def sH.none_of(r:sH ar o):o=ar:=by
 cases o with
 |none=>rfl
 |some u=>exact(r).elim
def Rs(r:RelV v u):W.handedIn u=ag:=by
 cases v with
 |non=>cases(r);rfl
 |bl b=>cases(r);rfl
 |int i=>obtain⟨t,e⟩:=(r);cases e;rfl
 |str x=>obtain⟨t,e⟩:=(r);cases e;rfl
 |Tt b=>obtain⟨t,e⟩:=(r);cases e;rfl
 |flt b=>obtain⟨t,e⟩:=(r);cases e;rfl
 |ref a=>cases(r);rfl
 |ty n=>cases(r);rfl
section
variable {fs:List (aX×V)}
def Co(ja:tZ P w H h)(e:H a=aa (.ins C dx fs)):∃b,MT h a dx C b/\(∀f,sH (fs.lookup f) (b f))/\PySem.Within b (fs.map (·.1))/\fs.length<=1000/\H dx=aa (.own a):=by obtain⟨d,z,ne,ob,b,n,r,q⟩:=(ja a _ e);exact⟨b,⟨ob,n,ne⟩,r,q,z,d⟩
end
structure Py(K:bz)(C:aw):Prop where
 pg:W.plainGet K C aX.empty=ag
 hd:W.hasDictIn K C=ag
 po:W.plainOver K C=ag
 sa:cP K (.ref C) uJ=aa (aa (.builtin vg))
def Py.get{K:bz}(c:Py K C)(f:aX):W.plainGet K C f=ag:=c.pg
def vB (K:bz)(C:aw)(f:aX):Prop:=cP K (.ref C) f=aa ar
def vB.adZ{K:bz}(n:vB K C f):W.takerIn K C f=aa ar:=by unfold W.takerIn;rw[n];rfl
structure Con(K:bz)(C:aw)(f:aX)(v:V)(u:ai):Prop where
 at_:cP K (.ref C) f=aa (aa u)
 rel:RelV v u
 get:W.specialIn K u sU=aa ar
 cp:W.copiedNames.contains f=au
structure Meth(K:bz)(C:aw)(m:aX)(f:aw):Prop where
 at_:cP K (.ref C) m=aa (aa (.ref f))
 fn:W.isFn K (.ref f)=ag
 kp:ew K (.ref f)=ag
section
variable {X:Cx} {s:av} {fs:List (aX×V)}
def MV(I:Inv X cc σ H s)(e:H a=aa (.ins C dx fs))(c:Py X.K C)(n:vB X.K C f)(l:fs.lookup f=aa v)
(h:∀u g,Inv X cc σ H g->RelV v u->Q u g):wpAny (model X.prog X.w) A (getAttr (.ref a) f b) Q E s:=by obtain⟨m,O,r,_,_,_⟩:=Co I.ja e;obtain⟨u,j,i⟩:=sH.some_of (by rw[<-l];exact r f);exact zd I.ub O (c.get f) c.hd n j (Rs i) (h u _ (I.tok _) i)
def MW(I:Inv X cc σ H s)(e:H a=aa (.ins C dx fs))(c:Py X.K C)(k:Meth X.K C m g)(l:fs.lookup m=ar)
(h:Q (.ref g,[.ref a]) s):wpAny (model X.prog X.w) A (ajD (.ref a) m pl) Q E s:=by obtain⟨b,O,r,_,_,_⟩:=Co I.ja e;have hn:=sH.none_of (by rw[<-l];exact r m);exact Ua I.ub O (c.get m) k.at_ k.fn hn h
def MX(I:Inv X cc σ H s)(e:H a=aa (.ins C dx fs))(c:Py X.K C)(n:vB X.K C f)(L:fs.length<1000)(p:RelV y u)
(h:∀j,Inv X cc σ (upd H a (.ins C dx (tD f y fs))) j->Q () j):wpAny (model X.prog X.w) A (setAttr (.ref a) f u) Q E s:=by
 obtain⟨x,O,r,wi,_,m⟩:=Co I.ja e;have B:(fs.map (·.1)).length<=aO:=by rw[ao,bp];omega
 refine XM I.ub O c.sa c.po n.adZ c.hd wi B λG i sb=>h _ ?_;have hd:∃o,G.get? dx=aa o:=let⟨o,_,_,e',_⟩:=i.ns;⟨o,e'⟩;refine I.write (by rw[e];exact dG) (.inr m) (λb q hb z=>(sb.2 b hb).trans z) hd ?_;refine⟨by rw[ii O.ne];exact m,?_,O.ne,i.obj,_,i.ns,λg=>?_,λg J=>?_⟩
 .have:=Bu f y fs;omega
 .rw[Bt];by_cases q:g=f
  .rw[if_pos q,if_pos q];exact p
  .rw[if_neg q,if_neg q];exact r g
 .by_cases q:g=f
  .rw[q];exact(At f y fs).1
  .refine(At f y fs).2 g (wi g λz=>J ?_);show(if g=f then aa u else x g)=ar;rw[if_neg q];exact z
def Inv.made(I:Inv X cc σ H s):Inv X cc σ (upd (upd H s.heap.objs.size (.own (s.heap.objs.size+1))) (s.heap.objs.size+1) (.ins C s.heap.objs.size []))
  {s with heap:=(s.heap.push W.emptyDict).push (W.instObj C s.heap.objs.size)}:=by
 have e1:(s.heap.push _).get? _=aa W.emptyDict:=aP s.heap rfl;have e2:=by
  have:=aP (s.heap.push W.emptyDict) (o:=W.instObj C s.heap.objs.size) rfl
  rwa [cj] at this
 have e3:(s.heap.push _).Ns _ (λ_=>ar):=⟨W.emptyDict,#[],_,e1,rfl,(λe c=>absurd c (by simp)),λ_=>rfl⟩;have I1:=I.laid (o:=.own (s.heap.objs.size+1)) (t':=s.toks) (λb u q=>aj _ q) (aD _) ⟨_,e1⟩;refine I1.laid (λb u q=>aj _ q) (gC (cj _ _)) ?_;have ne:s.heap.objs.size≠s.heap.objs.size+1:=bd (eW _);refine⟨by rw[ii ne,iE],bD _,ne,e2,λ_=>ar,(aC.Ns1.of_empty e3).at λo q=>aj _ q,λ_=>dG,λy g=>absurd rfl g⟩
def XQ(hb:dP e f env (eval e env)=eval e env)
(h:wpAny (model prog w) A (eval e env) (λo b=>wpAny (model prog w) A (getAttr o f ag) Q E b) E s):wpAny (model prog w) A (eval (.Attribute e f pos) env) Q E s:=
 Attribute_any_ h (by rw[arm_eval_Attribute,hb])
end
def agf (K:bz)(b:TE)(f:aX):TE:=λσ H Q=>b σ H λx H1=>∃a C c fs v,x=.ref a/\H1 a=aa (.ins C c fs)/\Py K C/\vB K C f/\fs.lookup f=aa v/\Q v H1
def agg (K:bz)(e g:TE)(f:aX):TS:=λD σ H=>g σ H λy H1=>e σ H1 λx b=>∃a C c fs,x=.ref a/\b a=aa (.ins C c fs)/\Py K C/\vB K C f/\fs.length<1000/\
 D.nx σ (upd b a (.ins C c (tD f y fs)))
section
variable {X:Cx} {pos:eL}
def abA(b:PE X e ta)(hb:dP e f X.env (eval e X.env)=eval e X.env):PE X (.Attribute e f pos) (agf X.K ta f):=by intro cc s σ H Q I h;refine XQ hb (lB (b cc s σ H _ I h) λu s1 g=>?_);obtain⟨x,H1,I1,i,a,C,r,fs,v,ex,j,c,n,l,q⟩:=g;subst ex;obtain rfl:u=bE a:=i;exact MV I1 j c n l λw s2 m p=>⟨v,H1,m,p,q⟩
def abB(ha:PE X o ta)(b:PE X value tv)(g:fj value (aa (.Attribute o f vz)) pos.line X.env=pure au):PS X (.Assign [.Attribute o f vz] value pos) (agg X.K ta tv f):=by intro cc s σ H D I h;refine plainObj_wpAny_Assign_Attribute (lB (b cc s σ H _ I h) λu s1 ⟨y,H1,I1,i,q⟩=>lB (ha cc s1 σ H1 _ I1 q) λj s2 ⟨x,z,m,p,a,C,A,fs,ex,r,c,n,l,v⟩=>?_) g;subst ex;obtain rfl:j=bE a:=p;exact MX m r c n l i λs3 w=>⟨σ,_,w,v⟩
end
section
variable {X:Cx}
inductive BY(K:bz)(H:Hp):V->ai->Prop where
 |non:BY K H .non (.type rh)
 |bl (x:Bool):BY K H (.bl x) (.type ix)
 |int (i:Int):BY K H (.int i) (.type hH)
 |str (x:aX):BY K H (.str x) (.type hJ)
 |flt (x:UInt64):BY K H (.flt x) (.type "float")
 |lst {a:aw} {xs:List V} (e:H a=aa (.lst xs)):BY K H (.ref a) (.type cr)
 |qd {a:aw} {o:cC} {xs:List V} (e:H a=aa (.qd o (.lst xs))):BY K H (.ref a) (.type cr)
 |tup {a:aw} {xs:List V} (e:H a=aa (.tup xs)):BY K H (.ref a) (.type fi)
 |dK {a:aw} {iB:List (Key×V)} (e:H a=aa (.dK iB)):BY K H (.ref a) (.type fw)
 |dT {a:aw} {iB:List (List Key×V)} (e:H a=aa (.dT iB)):BY K H (.ref a) (.type fw)
 |ins {a C dx:aw} {fs:List (aX×V)} (e:H a=aa (.ins C dx fs)) (cl:Py K C) (ha:cP K (.ref C) pu=aa (aa (.builtin ma)))
   (hn:W.specialIn K (.builtin ma) sU=aa (aa (.builtin tj))) (htk:W.takesIn K (.builtin ma)=aa ag)
   (hm:W.mroIn K C (.type pa)=aa ag):BY K H (.ref a) (.ref C)
def qK(I:Inv X cc σ H s)(f:RelV x u)(ty:BY X.K H x t)(e:dt X.K t c=aa b)(h:∀tk,Q (.bool b) {s with toks:=tk}):
  wpAny (model X.prog X.w) A (call (.builtin px) [u,c]) Q E s:=by
 cases ty with
 |non=>cases(f);exact W.kia_one W.kitx_none I.ub dG e (λz=>nomatch z) h
 |bl y=>cases(f);exact W.kia_one W.kitx_bool I.ub dG e (λz=>nomatch z) h
 |int i=>obtain⟨t,q⟩:=(f);cases q;exact W.kia_one W.kitx_int I.ub dG e (λz=>nomatch z) h
 |str y=>obtain⟨t,q⟩:=(f);cases q;exact W.kia_one W.kitx_str I.ub dG e (λz=>nomatch z) h
 |flt y=>obtain⟨t,q⟩:=(f);cases q;exact W.kia_one W.kitx_float I.ub dG e (λz=>nomatch z) h
 |@lst a xs g=>
  cases(show u=bE a from f);obtain⟨_,_,n,_,j⟩:=(I.ja a _ g);exact W.kia_one W.kitx_list I.ub ⟨_,j,rfl⟩ e (λz=>nomatch z) h
 |@qd a ob xs g=>
  cases(f);obtain⟨_,_,_,n,_,j⟩:=(I.ja a _ g);exact W.kia_one W.kitx_list I.ub ⟨_,j,rfl⟩ e (λz=>nomatch z) h
 |@tup a xs g=>
  cases(f);obtain⟨_,_,_,p⟩:=(I.ja a _ g);obtain⟨o,j,m,_⟩:=p;exact W.kia_one W.kitx_tuple I.ub ⟨o,j,m⟩ e (λz=>nomatch z) h
 |@dK a r g=>
  cases(show u=bE a from f);obtain⟨_,_,B,_,p⟩:=(I.ja a _ g);obtain⟨o,es,v,j,m,_⟩:=p;exact W.kia_one W.kitx_dict I.ub ⟨o,j,m.1⟩ e (λz=>nomatch z) h
 |@dT a r g=>
  cases(show u=bE a from f);obtain⟨_,_,xs,_,o,es,v,j,m,_⟩:=(I.ja a _ g);exact W.kia_one W.kitx_dict I.ub ⟨o,j,m.1⟩ e (λz=>nomatch z) h
 |@ins a C G fs g cl ha hn htk hm=>
  cases(f);obtain⟨L,O,_⟩:=Co I.ja g;obtain⟨od,J,_⟩:=O.look;exact W.kia_one (W.kitx_own (cl.get _) cl.hd ha hn htk hm) I.ub J e (λz=>nomatch z) h
end
structure ka(k:Nat)(A:bH):Prop where
 hd:A.handled=ar
 dp:A.depth+3*k+5<ajO
 un:A.units+16*k+200<eB
 gd:A.guards=aa []
def ka.mono(r:ka k A)(h:j<=k):ka j A:=⟨r.hd,by have:=r.dp;omega,by have:=r.un;omega,r.gd⟩
theorem ka.deeper(r:ka (k+1) A)(env:ahL):ka k (A.deeper env):=
 ⟨r.hd,by have:=r.dp;show A.depth+1+3*k+5<_;omega,by have:=r.un;show A.units+3+16*k+200<_;omega,r.gd⟩
theorem ka.in1(r:ka (k+1) A):ka k A.in1:=
 ⟨r.hd,by have:=r.dp;show A.depth+3*k+5<_;omega,by have:=r.un;show A.units+1+16*k+200<_;omega,r.gd⟩
def MY{A:bH}:(A.under (.builtin ol ⟨.ref C::us,kw⟩)).depth=A.depth+1:=by first|rfl|simp[guardIds]
def MZ{A:bH}:(A.under (.builtin ol ⟨.ref C::us,kw⟩)).units=A.units+1:=by first|rfl|simp[Code.cUnits]
def aaq{A:bH}:(A.under (.builtin ol ⟨.ref C::us,kw⟩)).guards=A.guards:=by first|rfl|(simp)
def ka.make(r:ka (k+1) A)(C:aw)(us:List ai)(kw:List _):ka k (A.under (.builtin ol ⟨.ref C::us,kw⟩)):=
 ⟨r.hd,by have:=r.dp;rw[MY];omega,by have:=r.un;rw[MZ];omega,by exact r.gd⟩
theorem ka.depth(r:ka k A):A.depth<ajO:=by have:=r.dp;omega
theorem ka.units(r:ka k A):A.units+64<eB:=by have:=r.un;omega
def agh:TA:=λ_ H Q=>Q [] H
def ad0 (a:TE)(tr:TA):TA:=λσ H Q=>a σ H λx H1=>tr σ H1 λxs b=>Q (x::xs) b
section
variable {X:Cx} {es:List bJ} {t:TA}
def Hn:PA X [] agh:=λ_ _ _ _ H Q I h=>Calls.spliced_nil ⟨[],H,I,.nil,h⟩
def Cp(ha:PE X e te)(a:PA X es t)(b:bg (e::es) X.env=(au,eval e X.env)::bg es X.env:=by rfl):PA X (e::es) (ad0 te t):=by intro pos cc s σ H Q I h;rw[b];show wpAny _ _ (spliced ((au,eval e X.env)::du pos _)) _ _ s;refine Calls.spliced_cons (lB (ha cc s σ H _ I h) λu s1 c=>?_);obtain⟨x,H1,I1,f,g⟩:=c;exact lB (a pos cc s1 σ H1 _ I1 g) λus s2 ⟨xs,i,j,m,n⟩=>⟨x::xs,i,j,.cons f m,n⟩
def agi (t:TA):TE:=λσ H Q=>t σ H λxs H1=>xs.length<=aO/\∀p,H1 p=ar->Q (.ref p) (upd H1 p (.tup xs))
def agj (t:TA):TE:=λσ H Q=>t σ H λxs H1=>xs.length<=aO/\∀p,H1 p=ar->Q (.ref p) (upd H1 p (.lst xs))
def abC{a}(h:PA X es t):PE X (.Tuple es a pos) (agi t):=by intro cc s σ H Q I c;refine wpAny_Tuple_spliced (lB (h pos cc s σ H _ I c) λus s1 ⟨xs,H1,I1,r,z,q⟩=>⟨by rw[<-r.length];exact z,?_⟩);have f:=I1.ja.fresh (aD _);refine⟨.ref _,upd H1 _ _,I1.laid (λb u e=>aj _ e) (aD _) ?_,rfl,q _ f⟩;exact⟨z,us,r,⟨_,aP _ rfl,rfl,_,rfl⟩⟩
def abD(h:PA X es t):PE X (.List es pos) (agj t):=by intro cc s σ H Q I a;refine wpAny_List_spliced (lB (h pos cc s σ H _ I a) λus s1 ⟨xs,H1,I1,r,z,q⟩=>⟨by rw[<-r.length];exact z,?_⟩);have c:=I1.ja.fresh (aD _);refine⟨.ref _,upd H1 _ _,I1.laid (λb u e=>aj _ e) (aD _) ?_,rfl,q _ c⟩;exact⟨z,us,0,r,aP _ rfl⟩
end
abbrev Sp:=List V->Hp->VK->XK->Prop
abbrev XR:=List ahL->Hp->av->XK->ai->av->Prop
structure C1(P:bc)(w:bI)(K:bz)(mg:aX->Option ai)(cq:aC)(A:bH)(cv:List ahL)(s:av)(H:Hp):Prop where
 frames:A.frames=aa cv
 mod:Mod K mg cq
 bs:∀b o,cq.get? b=aa o->s.heap.get? b=aa o/\H b=ar
 Rj:cq.objs.size<=s.heap.objs.size
 xq:s.heap.FunFrames cq cv
 TQ:∀b∈tY cv,H b=ar
 ja:tZ P w H s.heap
 bare:fS s.gens
def CE (cv:List ahL)(P:bc)(w:bI)(H:Hp)(s:av)(Q:VK)(u:ai)(a:av):Prop:=
 ∃v b,a.os=s.os/\fS a.gens/\Un (tY cv) [] H b s.heap a.heap/\tZ P w b a.heap/\RelV v u/\Q v b
def CR (b:XR)(cv:List ahL)(P:bc)(w:bI)(H:Hp)(s:av)(Q:VK)(E:XK)(r:ai0)(a:av):Prop:=
 match r with
 |.ok (.ret u)=>CE cv P w H s Q u a
 |.ok _=>False
 |.error e=>b cv H s E e a
structure lP(P:bc)(w:bI)(K:bz)(mg:aX->Option ai)(cq:aC)(CX:XR)(k:Nat)(f:aw)(fd:dY)(ps:List aX)(sp:Sp):Prop where
 len:∀vs H Q E,sp vs H Q E->vs.length=ps.length
 run:∀(A:bH) (cv:List ahL) (s:av) (H:Hp) (args:Args) (us:List ai) (vs:List V) (Q:VK) (E:XK),ka k A->C1 P w K mg cq A cv s H->air s fd args (ps.zip us)->Vals vs us->sp vs H Q E->
  codeAny (model P w) A (.call (.ref f) args) (CR CX cv P w H s Q E) s
theorem lP.mono{K:bz}(F:lP P w K mg cq a j f fd b sp)(h:j<=k):
  lP P w K mg cq a k f fd b sp:=⟨F.len,λA cv s H args us c Q E e=>F.run A cv s H args us c Q E (e.mono h)⟩
def lP.imp{K:bz}(F:lP P w K mg cq c k f fd e sp)
(h:∀a H Q E,b a H Q E->sp a H Q E):lP P w K mg cq c k f fd e b:=
 ⟨λa H Q E q=>F.len a H Q E (h _ _ _ _ q),λA cv s H args us a Q E g i hb j m=>F.run A cv s H args us a Q E g i hb j (h _ _ _ _ m)⟩
def C1.make{K:bz}(e:C1 P w K mg cq A cv s H)(C:aw)(us:List ai)(kw:List _):
  C1 P w K mg cq (A.under (.builtin ol ⟨.ref C::us,kw⟩)) cv s H:=⟨by first|exact e.frames|(simpa[pushEnvs] using e.frames),e.mod,e.bs,e.Rj,e.xq,e.TQ,e.ja,e.bare⟩
theorem C1.in1{K:bz}{mg:aX->Option ai}{cq:aC}{A:bH}{cv:List ahL}{s:av}{H:Hp}(e:C1 P w K mg cq A cv s H):
  C1 P w K mg cq A.in1 cv s H:=⟨e.frames,e.mod,e.bs,e.Rj,e.xq,e.TQ,e.ja,e.bare⟩
section
variable {X:Cx} {s:av}
def Inv.XT(I:Inv X cc σ H s):C1 X.prog X.w X.K X.mg X.cq X.A X.stack s H:=
 ⟨I.ok.frames,I.ok.mod,I.bs,bG I.ok.Rj I.sz,I.stack,I.Pn,I.ja,I.bare⟩
def Inv.after(I:Inv X cc σ H s)(h:CE X.stack X.prog X.w H s Q u s'):EP X cc σ Q u s':=by obtain⟨v,c,os,bare,un,ja,r,q⟩:=h;obtain⟨e,g,d,t,a⟩:=s';obtain rfl:a=s.os:=os;exact⟨v,c,I.call un ja bare (λb z=>absurd z (by simp)),r,q⟩
end
def aar (sp:Sp)(xr:List V)(E:XK)(t:TA):TE:=λσ H Q=>t σ H λa H1=>sp (a++xr) H1 Q E
def ad1 (C:aw)(sp:Sp)(xr:List V)(E:XK)(t:TA):TE:=λσ H Q=>t σ H λb H1=>∀x a,H1 x=ar->H1 a=ar->a≠x->
 sp (.ref x::(b++xr)) (upd (upd H1 a (.own x)) x (.ins C a [])) (λv c=>v=.non/\Q (.ref x) c) E
def Binds(K:bz)(fd:dY)(a:List aX)(ds:List ai):Prop:=
 ∀(s:av) (us:List ai),K.In s.heap->(us++ds).length=a.length->air s fd ⟨us,[]⟩ (a.zip (us++ds))
def Binds.all{K:bz}(h:∀us:List ai,us.length=a.length->dI fd ⟨us,[]⟩=pure (a.zip us)):Binds K fd a []:=λs us _ b=>by rw[bu] at b |-;exact .of_eq (h us b)
def Au (b:XR)(X:Cx)(E:XK):Prop:=∀(cc:List (aw×cC)) (σ:St) (H:Hp) (s:av) (e:ai) (a:av),Inv X cc σ H s->b X.stack H s E e a->X.xe e a
section
variable {X:Cx} {k:Nat} {ps:List aX} {xr:List V} {e:bJ} {es:List bJ} {t:TA}
def Uc(F:lP X.prog X.w X.K X.mg X.cq CX k f fd ps sp)(c:ka k X.A)(hb:Binds X.K fd ps ds)(hd:Vals xr ds)(g:Au CX X E)
(I:Inv X cc σ H s)(r:Vals vs us)(h:sp (vs++xr) H Q E):wpAny (model X.prog X.w) X.A (call (.ref f) us) (EP X cc σ Q) X.xe s:=by
 have b:=r.append hd;have i:(us++ds).length=ps.length:=by rw[<-b.length];exact F.len _ _ _ _ h
 refine fJ (dk (F.run X.A X.stack s H _ _ _ Q E c I.XT (hb s us I.ub i) b h) λr j a=>?_);cases r with
 |error e=>exact g cc σ H s e j I a
 |ok fl=>
  cases fl with
  |ret u=>exact I.after a
  |next=>exact cw a
  |brk=>exact cw a
  |cont=>exact cw a
def XU(F:lP X.prog X.w X.K X.mg X.cq CX k f fd ps sp)(a:ka k X.A)(b:Gl X x)(hm:X.mg x=aa (.ref f))(c:ew X.K (.ref f)=ag)(hb:Binds X.K fd ps ds)(hd:Vals xr ds)(g:Au CX X E)
(ha:PA X (e::es) t)(i:(x==(fy:aX))=au:=by decide)(j:bg (e::es) X.env=(au,eval e X.env)::bg es X.env:=by rfl)(n:(du pos (bg es X.env)).any (·.1)=au:=by rfl):
  PE X (.Call (.Name x p) (e::es) [] pos) (aar sp xr E t):=by intro cc s σ H Q I h;refine cS (w5 I b hm ?_ i);refine W.callWith_K I.ok.mod.TN c (lB (ha pos cc s σ H _ I h) λus s1 ⟨u,H1,I1,r,q⟩=>⟨I1.ub,?_⟩) j n;exact Uc F a hb hd g I1 r q
structure Mk(K:bz)(C f:aw):Prop where
 makes:W.makesIn K C=ag
 init:cP K (.ref C) mm=aa (aa (.ref f))
 fn:W.isFn K (.ref f)=ag
 kp:ew K (.ref C)=ag
def Ud(M:Mk X.K C f)(F:lP X.prog X.w X.K X.mg X.cq CX k f fd ps sp)(n:ka (k+1) X.A)(hb:Binds X.K fd ps ds)(hd:Vals xr ds)
(q:Au CX X E)(I:Inv X cc σ H s)(r:Vals g us)
(h:∀x b,H x=ar->H b=ar->b≠x->sp (.ref x::(g++xr)) (upd (upd H b (.own x)) x (.ins C b [])) (λv y=>v=.non/\Q (.ref x) y) E):
  wpAny (model X.prog X.w) X.A (call (.ref C) us) (EP X cc σ Q) X.xe s:=by
 have i:=h _ _ (I.ja.fresh (cx _)) (I.ja.fresh (aD _)) (bd (eW _));have c:=Inv.made (C:=C) I;have j:Vals (V.ref (s.heap.objs.size+1)::(g++xr)) _:=.cons rfl (r.append hd);have z:=by have e:=j.length;rw[F.len _ _ _ _ i] at e;exact e.symm
 refine fJ (Ub I.ub M.makes M.init (beq_iff_eq.mp M.fn) (dk (F.run _ X.stack _ _ _ _ _ _ E (n.make C us [])
  (c.XT.make C us []) (hb _ _ c.ub z) j i) λr B a=>?_))
 cases r with
 |error e=>exact q cc σ _ _ e B c a
 |ok fl=>
  cases fl with
  |ret u=>
   obtain⟨v,G,J,L,N,O⟩:=c.after a;subst N;exact⟨L,⟨V.ref _,G,J,rfl,O⟩⟩
  |next=>exact cw a
  |brk=>exact cw a
  |cont=>exact cw a
def XW(M:Mk X.K C f)(F:lP X.prog X.w X.K X.mg X.cq CX k f fd ps sp)(a:ka (k+1) X.A)(b:Gl X x)(hm:X.mg x=aa (.ref C))(hb:Binds X.K fd ps ds)(hd:Vals xr ds)(c:Au CX X E)
(ha:PA X (e::es) t)(g:(x==(fy:aX))=au:=by decide)(i:bg (e::es) X.env=(au,eval e X.env)::bg es X.env:=by rfl)(j:(du pos (bg es X.env)).any (·.1)=au:=by rfl):
  PE X (.Call (.Name x p) (e::es) [] pos) (ad1 C sp xr E t):=by intro cc s σ H Q I h;refine cS (w5 I b hm ?_ g);refine W.callWith_K I.ok.mod.TN M.kp (lB (ha pos cc s σ H _ I h) λus s1 ⟨n,H1,I1,r,q⟩=>⟨I1.ub,?_⟩) i j;exact Ud M F a hb hd c I1 r q
end
section
variable {k:Nat} {ps ks:List aX} {es:List bJ} {t tk:TA} {nm:Option aX}
structure agk(K:bz)(fd:dY)(ps ks:List aX)(g:List ai->List ai->List ai)(gV:List V->List V->List V):Prop where
 to:∀(s:av) (us ws:List ai),K.In s.heap->(g us ws).length=ps.length->air s fd ⟨us,ks.zip ws⟩ (ps.zip (g us ws))
 rel:∀{vs:List V} {us:List ai} {zs:List V} {ws:List ai},Vals vs us->Vals zs ws->Vals (gV vs zs) (g us ws)
end
structure kY(N P:List aX)(sc:dn):Prop where
 kind:sc.kind=.function
 co:sc.isCoroutine=au
 gen:sc.isGenerator=au
 nd:N.Nodup
 pre:N.take P.length=P
 par:∀x∈P,sc.names.lookup x=aa .local\/sc.names.lookup x=aa .cell
 abE:∀y∈sc.names,y.2≠.free
theorem Ga{kindOf:aX->Option dJ}:∀{binds:List _} {m:aX->Option ai},(∀v,(x,v)∉binds)->aja kindOf binds m x=m x
 |[],_,_=>rfl
 | (n,v)::r,m,h=>by
  unfold aja;rw[Ga λw hw=>h w (aB _ hw)];split
  .have:x≠n:=by rintro rfl;exact h v aN
   simp[this]
  .rfl
theorem Gb{kindOf:aX->Option dJ}:∀{binds:List _} {m:aX->Option ai},(∀v,(x,v)∉binds)->ajb kindOf binds m x=m x
 |[],_,_=>rfl
 | (n,v)::r,m,h=>by
  unfold ajb;rw[Gb λw hw=>h w (aB _ hw)];split
  .rfl
  .have:x≠n:=by rintro rfl;exact h v aN
   simp[this]
theorem Gc{kindOf:aX->Option dJ}:∀{P:List aX} {a:List ai} {i:Nat} {m:aX->Option ai},P.Nodup->P[i]?=aa x->a[i]?=aa v->kindOf x=aa .local->
  aja kindOf (P.zip a) m x=aa v
 |[],_,_,_,_,h,_,_=>by simp at h
 |_::_,[],_,_,_,_,h,_=>by simp at h
 |p::P,w::a,0,m,nd,b,c,e=>by simp at b c;subst b;subst c;show aja kindOf ((p,w)::P.zip a) m p=_;unfold aja;rw[Ga λv f=>(dw.mp nd).1 (gj f).1,if_pos e];simp
 |p::P,w::a,i+1,m,nd,b,c,e=>by unfold aja;exact Gc (dw.mp nd).2 (by simpa using b) (by simpa using c) e
theorem Ge{kindOf:aX->Option dJ}:∀{P:List aX} {a:List ai} {i:Nat} {m:aX->Option ai},P.Nodup->P[i]?=aa x->a[i]?=aa v->kindOf x≠aa .local->
  ajb kindOf (P.zip a) m x=aa v
 |[],_,_,_,_,h,_,_=>by simp at h
 |_::_,[],_,_,_,_,h,_=>by simp at h
 |p::P,w::a,0,m,nd,b,c,e=>by simp at b c;subst b;subst c;show ajb kindOf ((p,w)::P.zip a) m p=_;unfold ajb;rw[Gb λv f=>(dw.mp nd).1 (gj f).1,if_neg e];simp
 |p::P,w::a,i+1,m,nd,b,c,e=>by unfold ajb;exact Ge (dw.mp nd).2 (by simpa using b) (by simpa using c) e
def start(N:List aX)(a:List V):St:=a.map aa++bX (N.length- a.length) ar
def tE(b:XR)(P:bc)(w:bI)(K:bz)(mg:aX->Option ai)(cq:aC)(N:List aX)(qual:aX)(scope:dn)(f:aw)(cd:ai)(A:bH)(cv:List ahL)(s:av)(H:Hp)(E:XK):Cx where
 prog:=P
 w:=w
 K:=K
 mg:=mg
 cq:=cq
 A:=A.deeper (dZ qual scope s.heap.objs.size f cd)
 N:=N
 iZ:=s
 je:=H
 env:=dZ qual scope s.heap.objs.size f cd
 cv:=cv
 stack:=dZ qual scope s.heap.objs.size f cd::cv
 ex:=[]
 calm:=ag
 fn:=λ_=>ag
 pn:=[]
 xe:=λe c=>wpAny (model P w) (A.deeper (dZ qual scope s.heap.objs.size f cd)) (leaving (dZ qual scope s.heap.objs.size f cd) e) (λ_ a=>b cv H s E e a) (λe' a=>b cv H s E e' a) c
def JV{sc:dn}(h:sc.names.lookup x=aa .cell):∃c,(aiU n sc.names []).lookup x=aa c:=by have q:=W.cellsFrom_some sc.names n [] (.inl h);exact cZ.mp q
def Gf{K:bz}{E:XK}
(S:kY N o scope)(hd:A.handled=ar)(j:C1 P w K mg cq A cv s H)(Q:n.length=o.length)(r:Vals n us)
(x:InCallC s s.heap.objs.size (aja (dZ qual scope s.heap.objs.size f cd).kindOf (o.zip us) λ_=>ar) (aiU (s.heap.objs.size+1) scope.names []) (ajb (dZ qual scope s.heap.objs.size f cd).kindOf (o.zip us) λ_=>ar) s1):
  Inv (tE M P w K mg cq N qual scope f cd A cv s H E) [] (start N n) H s1:=by
 have T:=by have:=congrArg cI S.pre;rw[dM] at this;omega
 obtain⟨I,tk,rfl,J⟩:=x.done;have m:∀b:aw,b∉(tE M P w K mg cq N qual scope f cd A cv s H E).ex:=λb z=>absurd (show b∈([]) from z) (by simp);refine⟨⟨j.mod,S.kind,rfl,rfl,aD _,λy z c I g=>?_,λy B=>?_,λy c _ h=>?_,λ_=>hd,bH.frames_deeper j.frames,.inr ⟨rfl,rfl⟩,λb z=>absurd z (m b),j.bs,j.Rj,λb _ _=>m b,λb z=>absurd z (m b),j.xq,j.TQ⟩,
  rfl,j.bare,Un.kept J,⟨_,x.toInCall.ns,λi y v I g U=>?_⟩,λy c h=>⟨_,x.cell y c h⟩,j.ja.fresh (aD _),λy c h=>?_,λp C=>absurd (show p∈([]) from C) (by simp),j.ja.kept J,?_⟩
 .exact name_of_addr x.apart (PySem.mem_of_lookup I) (PySem.mem_of_lookup g)
 .rcases B with B|B
  .exact JV B
  .exact absurd rfl (S.abE _ (PySem.mem_of_lookup B))
 .exact dF (x.above y c (PySem.mem_of_lookup h))
 .have hi:i<n.length:=by
   unfold start at g;by_cases hi:i<n.length
   .exact hi
   .rw[cU (by simpa using hi)] at g;rw[List.getElem?_replicate] at g;split at g<;>cases g
  have ha:n[i]?=aa v:=by
   unfold start at g;rw[aY (by simpa using hi),bh] at g;cases e:n[i]? with
   |none=>rw[e] at g;cases g
   |some a=>rw[e] at g;cases g;rfl
  obtain⟨u,L,O⟩:=r.get ha;have C:o[i]?=aa y:=by rw[<-S.pre,List.getElem?_take_of_lt (by omega)];exact I
  have G:o.Nodup:=by rw[<-S.pre];exact S.nd.sublist (List.take_sublist _ _)
  refine⟨u,O,?_⟩;rcases S.par y (bA C) with k|k
  .exact .inl ⟨k,Gc G C L k⟩
  .obtain⟨c,e⟩:=JV k;refine .inr ⟨.inl k,c,e,?_⟩;have q:=x.cell y c e;rw[Ge G C L (by show scope.names.lookup y≠_;rw[k];decide)] at q;exact q
 .exact j.ja.fresh (dF (x.above y c (PySem.mem_of_lookup h)))
 .unfold start;show _=N.length;rw[aE,ao,List.length_replicate];omega
def Ue{K:bz}{G kV doc pm jd ct oc:ai}
(lk:K.lookup f=aa ⟨oc,od,.func (eu name qual params body scope G kV doc pm an jd ct),Rt⟩)(T:W.codeIn K jd qual=ag)(S:kY N j scope)
(len:∀c H Q E,sp c H Q E->c.length=j.length)
(U:∀(A:bH) (cv:List ahL) (s:av) (H:Hp) (c:List V) (Q:VK) (E:XK),ka k (A.deeper (dZ qual scope s.heap.objs.size f jd))->sp c H Q E->
   ∃t,y7 (tE m P w K mg cq N qual scope f jd A cv s H E) body t/\t {nx:=λ_ a=>Q .non a,rt:=Q} (start N c) H):
  lP P w K mg cq m (k+1) f (eu name qual params body scope G kV doc pm an jd ct) j sp:=by
 refine⟨len,λA cv s H args us c Q E p h hb r L=>?_⟩;have Y:=len _ _ _ _ L;have M:=h.mod.TN.keeps λb o e=>(h.bs b o e).1;have z:=h.mod.nolimit.keeps λb o e=>(h.bs b o e).1;have Uf:∀y∈j.zip us,scope.names.lookup y.1=aa .local\/(scope.names.lookup y.1=aa .cell/\((aiU (s.heap.objs.size+1) _ []).lookup y.1).isSome=ag):=λ⟨n,v⟩ hy=>by
  rcases S.par n (gj hy).1 with q|q
  .exact .inl q
  .exact .inr ⟨q,W.cellsFrom_some _ _ _ (.inl q)⟩
 refine codeAny_call_function p.depth (M _ _ lk) rfl S.co S.gen rfl (W.codeRec_of M T) (hb _ _ _ _ ?_);refine aiJ S.kind Uf λenv he s1 x=>?_;subst he;refine⟨z.keeps x.toInCall.keep,codeAny_func ?_⟩;obtain⟨t,ht,hq⟩:=U A cv s H c Q E (p.deeper _) L;have I:Inv (tE m P w K mg cq N qual scope f jd A cv s H E) [] _ H s1:=Gf S p.hd h Y r x;refine cn (ht [] s1 _ H _ I hq) (λfl B g=>?_) λe B g=>g;have O:∀{i:St} {a:Hp} {v:V} {u:ai},Inv (tE m P w K mg cq N qual scope f jd A cv s H E) [] i a B->RelV v u->Q v a->CE cv P w H s Q u B:=
  λ{i a v u} J C q=>⟨v,a,J.os,J.bare,J.cq,J.ja,C,q⟩
 cases fl with
 |ret u=>
  obtain⟨v,i,a,J,C,q⟩:=g;exact O J C q
 |next=>
  obtain⟨i,a,J,q⟩:=g;exact O (v:=V.non) J rfl q
 |brk=>
  obtain⟨_,_,_,q⟩:=g;exact cw q
 |cont=>
  obtain⟨_,_,_,q⟩:=g;exact cw q
section
variable {X:Cx} {es:List bJ} {t:TA} {id:String}
def tCB (r:List V->Hp->VK->Prop)(t:TA):TE:=λσ H Q=>t σ H λa H1=>r a H1 Q
def C2(hc:ny X (.builtin id) r)(a:Gl X x)(hm:X.mg x=ar)(b:bT x=aa (.builtin id))(ha:PA X (e::es) t)(hn:x≠nk:=by decide)(vC:(x==(fy:aX))=au:=by decide)
(he:bg (e::es) X.env=(au,eval e X.env)::bg es X.env:=by rfl)(w8:(du pos (bg es X.env)).any (·.1)=au:=by rfl):PE X (.Call (.Name x p) (e::es) [] pos) (tCB r t):=by intro cc s σ H Q I h;refine cS (ud I a hm b ?_ hn vC);exact PyProof.Rows.callWith_builtin1 (lB (ha pos cc s σ H _ I h) λus s1 ⟨c,H1,I1,f,g⟩=>hc cc s1 σ H1 c us Q I1 f g) he w8
def Av(hc:ny X (.type T) r)(a:Gl X x)(hm:X.mg x=ar)(b:bT x=aa (.type T))(ha:PA X (e::es) t)(hn:x≠nk:=by decide)(vC:(x==(fy:aX))=au:=by decide)
(he:bg (e::es) X.env=(au,eval e X.env)::bg es X.env:=by rfl)(w8:(du pos (bg es X.env)).any (·.1)=au:=by rfl):PE X (.Call (.Name x p) (e::es) [] pos) (tCB r t):=by intro cc s σ H Q I h;refine cS (ud I a hm b ?_ hn vC);exact cN (lB (ha pos cc s σ H _ I h) λus s1 ⟨c,H1,I1,f,g⟩=>hc cc s1 σ H1 c us Q I1 f g) he w8
end
section
variable {κ:Type} [DecidableEq κ]
def sI(a:List (κ×V))(k:κ):Option V:=(a.find? λb=>decide (b.1=k)).map (·.2)
def xR(b:List (κ×V))(k:κ)(v:V):List (κ×V):=
 if(b.any λa=>decide (a.1=k))=ag then b.map (λa=>if a.1=k then(a.1,v) else a) else b++[(k,v)]
def zf{k:κ}(e:p.1=k):sI (p::r) k=aa p.2:=by simp[sI,e]
def zg{k:κ}(e:¬p.1=k):sI (p::r) k=sI r k:=by simp[sI,e]
theorem JY(k:κ):∀a:List _,(a.any λb=>decide (b.1=k))=(sI a k).isSome
 |[]=>rfl
 |p::r=>by
  rw[c7];by_cases e:p.1=k
  .simp only [zf e,decide_eq_true e,Bool.true_or,Option.isSome_some]
  .rw[zg e,decide_eq_false e];exact JY k r
def Bv(a:List _)(k:κ)(v:V):(xR a k v).length<=a.length+1:=by
 unfold xR;split
 .rw[ao];omega
 .rw[aE,aU,cm];omega
def sH.tG(r:sH o u):o.isSome=u.isSome:=by
 cases o with
 |none=>cases u with
  |none=>rfl
  |some _=>exact(r).elim
 |some _=>cases u with
  |none=>exact(r).elim
  |some _=>rfl
theorem sH.getD{o:Option V}{u:Option ai}{d:V}{a:ai}(r:sH o u)(rd:RelV d a):RelV (o.getD d) (u.getD a):=by
 cases o with
 |none=>cases u with
  |none=>exact rd
  |some _=>exact(show False from r).elim
 |some _=>cases u with
  |none=>exact(show False from r).elim
  |some _=>exact r
def KV.val(r:KV f g)(k:κ):sH (sI f k) (dS g k):=by
 induction r with
 |nil=>exact dG
 |@cons p q m a h t i=>
  obtain⟨c,j⟩:=h;by_cases e:p.1=k
  .have e':=c.symm.trans e;have b:dS (q::a) k=aa q.2:=by simp[dS,e']
   rw[zf e,b];exact j
  .have e':¬q.1=k:=λz=>e (c.trans z);have b:dS (q::a) k=dS a k:=by simp[dS,e']
   rw[zg e,b];exact i
theorem KV.any(r:KV b c)(k:κ):(b.any λa=>decide (a.1=k))=c.any λa=>decide (a.1=k):=by
 induction r with
 |nil=>rfl
 |cons h t e=>rw[c7,c7,e,h.1]
def KV.abF(r:KV c f)(k:κ)(g:RelV y u):
  KV (c.map λa=>if a.1=k then(a.1,y) else a) (f.map λa=>if a.1=k then(a.1,u) else a):=by
 induction r with
 |nil=>exact .nil
 |@cons p q m n h t i=>
  rw[bq,bq];refine .cons ?_ i;obtain⟨b,j⟩:=h;by_cases e:p.1=k
  .rw[if_pos e,if_pos (b.symm.trans e)];exact⟨b,g⟩
  .rw[if_neg e,if_neg (λz=>e (b.trans z))];exact⟨b,j⟩
def KV.put(r:KV c a)(k:κ)(b:RelV y u):KV (xR c k y) (stored a k u):=by
 unfold xR stored;rw[r.any k];by_cases e:(a.any λf=>decide (f.1=k))=ag
 .rw[if_pos e,if_pos e];exact r.abF k b
 .rw[if_neg e,if_neg e];exact Paired.snoc r ⟨rfl,b⟩
def KV.keys{a:List (κ×V)}{b:List (κ×ai)}(r:KV a b):a.map (·.1)=b.map (·.1):=by
 unfold KV at r;induction r with
 |nil=>rfl
 |cons h t c=>rw[bq,bq,c,h.1]
theorem KV.length{a:List (κ×V)}(r:KV a b):a.length=b.length:=Paired.length r
end
def zh(r:RelV (kV k) u):(i7 P w).is k u=ag:=by
 cases k with
 |inl i=>obtain⟨t,e⟩:=(r);subst e;exact JD P w i t
 |inr x=>obtain⟨t,e⟩:=(r);subst e;exact JH P w x t
theorem Gg:∀{a:List Key} {us:List ai},Vals (a.map kV) us->ItemsAre (i7 P w) a us
 |[],_,r=>by cases r;exact .nil
 |k::a,_,r=>by
  cases r with
  |cons h t=>exact .cons (zh h) (Gg t)
abbrev KT(H:Hp):List (List Key×V)->List (List Key×aw×ai)->Prop:=Paired λp q=>p.1=q.1/\H q.2.1=aa (.tup (p.1.map kV))/\RelV p.2 q.2.2
def KT.val(r:KT H f xs)(k:List Key):sH (sI f k) ((aiV xs k).map (·.2)):=by
 induction r with
 |nil=>exact dG
 |@cons p q j a h t g=>
  obtain⟨c,_,i⟩:=h;by_cases e:p.1=k
  .have e':=c.symm.trans e;have b:aiV (q::a) k=aa q.2:=by simp[aiV,e']
   rw[zf e,b];exact i
  .have e':¬q.1=k:=λz=>e (c.trans z);have b:aiV (q::a) k=aiV a k:=by simp[aiV,e']
   rw[zg e,b];exact g
def KT.abF(r:KT H f xs)(k:List Key)(g:RelV y u):
  KT H (f.map λb=>if b.1=k then(b.1,y) else b) (xs.map (putAt k u)):=by
 induction r with
 |nil=>exact .nil
 |@cons p q m n h t i=>
  rw[bq];refine .cons ?_ i;obtain⟨a,c,j⟩:=h;unfold putAt;by_cases e:p.1=k
  .rw[if_pos e,if_pos (a.symm.trans e)];exact⟨a,c,g⟩
  .rw[if_neg e,if_neg (λz=>e (a.trans z))];exact⟨a,c,j⟩
def KT.put(r:KT H a xs)(k:List Key)(hb:H b=aa (.tup (k.map kV)))(c:RelV y u):
  KT H (xR a k y) (storedH xs k b u):=by
 have e:(a.any λf=>decide (f.1=k))=(aiV xs k).isSome:=by rw[JY,(r.val k).tG,gM]
 unfold xR storedH;rw[e];by_cases q:(aiV xs k).isSome=ag
 .rw[if_pos q,if_pos q];exact r.abF k c
 .rw[if_neg q,if_neg q];exact Paired.snoc r ⟨rfl,hb,c⟩
def KT.keeps(r:KT H c xs)(ht:∀b a,H b=aa (.tup a)->e b=aa (.tup a)):KT e c xs:=
 Paired.aa6 r λ_ _ z=>⟨z.1,ht _ _ z.2.1,z.2.2⟩
section
variable {h:aC}
def aas(ok:tZ P w H h)(e:Rd H a u):kx P w H h a u:=e.ok ok
def rW(ok:tZ P w H h)(e:Rd H a (.dK b)):b.length<=aO/\(a==cb)=au/\∃c,KV b c/\h.DictOf (i7 P w) a c:=
 aas ok e
def aat(ok:tZ P w H h)(e:H a=aa (.dK b)):b.length<=aO/\(a==cb)=au/\∃c,KV b c/\h.DictOf (i7 P w) a c:=rW ok (.inl e)
def xS(ok:tZ P w H h)(e:H a=aa (.tup (b.map kV))):(ahX (i7 P w)).is h b a:=by obtain⟨_,iM,r,o,c,f,n,g⟩:=(ok a _ e);exact⟨o,iM.toArray,n,c,f,g,by simpa using Gg r⟩
def C3(ok:tZ P w H h)(e:Rd H a (.dT c)):c.length<=aO/\(a==cb)=au/\
  ∃xs,KT H c xs/\h.DictOfH (ahX (i7 P w)) a xs:=by
 obtain⟨z,y,xs,r,o,es,g,i,j,n,s,u⟩:=(aas ok e);refine⟨z,y,xs,r,o,es,g,i,j,n,s,λx b=>?_,u⟩;have all:∀{l:List _} {m:List _},KT H l m->∀x∈m,(ahX (i7 P w)).is h x.1 x.2.1:=by
  intro l m q;induction q with
  |nil=>intro x b;exact nomatch b
  |@cons p q A B f t v=>
   intro x b;rcases aH.mp b with e|b
   .subst e;exact xS ok (by rw[<-f.1];exact f.2.1)
   .exact v x b
 exact all r x b
def ad2(ok:tZ P w H h)(e:H a=aa (.dT b)):b.length<=aO/\(a==cb)=au/\
  ∃xs,KT H b xs/\h.DictOfH (ahX (i7 P w)) a xs:=C3 ok (.inl e)
end
def tH (H:Hp)(a:aw)(y:V)(r:Option V):Prop:=
 (∃c k,Rd H a (.dK c)/\y=kV k/\r=sI c k)\/∃c k b,Rd H a (.dT c)/\y=.ref b/\H b=aa (.tup (k.map kV))/\r=sI c k
def M7 (H:Hp)(a:aw)(y v:V)(e:Hp):Prop:=
 (∃c k,H a=aa (.dK c)/\y=kV k/\c.length<aO/\e=upd H a (.dK (xR c k v)))\/
 ∃c k b,H a=aa (.dT c)/\y=.ref b/\H b=aa (.tup (k.map kV))/\c.length<aO/\e=upd H a (.dT (xR c k v))
theorem tH.k{H:Hp}{a:aw}{b:List (Key×V)}{k:Key}(e:H a=aa (.dK b)):tH H a (kV k) (sI b k):=.inl ⟨b,k,.inl e,rfl,rfl⟩
def tH.t{H:Hp}{a b:aw}{c:List (List Key×V)}{k:List Key}(e:H a=aa (.dT c))(f:H b=aa (.tup (k.map kV))):tH H a (.ref b) (sI c k):=.inr ⟨c,k,b,.inl e,rfl,f,rfl⟩
theorem M7.k{k:Key}(e:H a=aa (.dK b))(c:b.length<aO):M7 H a (kV k) v (upd H a (.dK (xR b k v))):=.inl ⟨b,k,e,rfl,c,rfl⟩
def M7.t{H:Hp}{a b:aw}{c:List (List Key×V)}{k:List Key}{v:V}(e:H a=aa (.dT c))(f:H b=aa (.tup (k.map kV)))(g:c.length<aO):
  M7 H a (.ref b) v (upd H a (.dT (xR c k v))):=.inr ⟨c,k,b,e,rfl,f,g,rfl⟩
section
variable {X:Cx} {s:av} {o:Option V} {A:bH}
def Inv.big(I:Inv X cc σ H s):cb<s.heap.objs.size:=by have h:=(I.mod.glob.keeps I.bk).lt;exact gD (by decide) h
def Ru(q:A.units+1<eB)(I:Inv X cc σ H s)(g:tH H a y (aa v))(m:RelV y u)(h:∀c n,Inv X cc σ H n->RelV v c->Q c n):
  wpAny (model X.prog X.w) A (ah5 (.ref a) u) Q E s:=by
 rcases g with⟨x,k,e,f,l⟩|⟨x,k,b,e,f,B,l⟩
 .subst f;obtain⟨z,hd,G,rel,dd⟩:=rW I.ja e;obtain⟨c,hw,i⟩:=sH.some_of (by rw[l];exact rel.val k);exact wpAny_getItem_of (zh m) dd.mapOf hw (h c _ (I.tok _) i)
 .subst f;cases(m);obtain⟨z,hd,xs,rel,dd⟩:=C3 I.ja e;obtain⟨c,hw,i⟩:=sH.some_of (by rw[l];exact rel.val k);obtain⟨p,C,j⟩:=Option.map_eq_some_iff.mp hw;refine wpAny_getItem_heap (eG q) (xS I.ja B) dd C ?_;rw[j];exact h c _ (I.tok _) i
def agl(j:A.units+1<eB)(I:Inv X cc σ H s)(g:tH H a y o)(f:RelV y u)(h:∀i,Inv X cc σ H i->Q (.bool o.isSome) i):
  wpAny (model X.prog X.w) A (compareOp .In u (.ref a)) Q E s:=by
 rcases g with⟨m,k,e,c,l⟩|⟨m,k,b,e,c,n,l⟩
 .subst c;obtain⟨z,hd,p,rel,dd⟩:=rW I.ja e;refine wpAny_in_of (zh f) hd dd.mapOf ?_;rw[<-(rel.val k).tG,<-l];exact h _ (I.tok _)
 .subst c;cases(f);obtain⟨z,hd,xs,rel,dd⟩:=C3 I.ja e;refine wpAny_in_heap (eG j) (xS I.ja n) hd dd ?_;have q:=(rel.val k).tG;rw[gM] at q;rw[<-q,<-l];exact h _ (I.tok _)
def XX(j:A.units+1<eB)(I:Inv X cc σ H s)(g:tH H a y o)(f:RelV y u)(h:∀i,Inv X cc σ H i->Q (.bool (!o.isSome)) i):
  wpAny (model X.prog X.w) A (compareOp .NotIn u (.ref a)) Q E s:=by
 rcases g with⟨m,k,e,c,l⟩|⟨m,k,b,e,c,n,l⟩
 .subst c;obtain⟨z,hd,p,rel,dd⟩:=rW I.ja e;refine wpAny_notIn_of (zh f) hd dd.mapOf ?_;rw[<-(rel.val k).tG,<-l];exact h _ (I.tok _)
 .subst c;cases(f);obtain⟨z,hd,xs,rel,dd⟩:=C3 I.ja e;refine wpAny_notIn_heap (eG j) (xS I.ja n) hd dd ?_;have q:=(rel.val k).tG;rw[gM] at q;rw[<-q,<-l];exact h _ (I.tok _)
def Ho(I:Inv X cc σ H s)(e:Mut (H a))(f:bP a s.heap c)(g:∃q,c.get? a=aa q)(new:kx X.prog X.w (upd H a ob) c a ob):
  Inv X cc σ (upd H a ob) {s with heap:=c,toks:=h}:=
 I.write e (.inl rfl) (λb q hb z=>(f.2 b hb).trans z) g new
def M8(z:b.length<=aO)(hd:(a==cb)=au)(rel:KV b c)(dd:e.DictOf (i7 P w) a c):
  kx P w f e a (.dK b):=⟨z,hd,c,rel,dd⟩
def Rv(N:A.units+1<eB)(I:Inv X cc σ H s)(g:M7 H a y v O)(B:RelV y u)(C:RelV v r)(h:∀G,Inv X cc σ O G->Q () G):
  wpAny (model X.prog X.w) A (setItem (.ref a) u r) Q E s:=by
 rcases g with⟨f,k,e,m,l,n⟩|⟨f,k,b,e,m,J,l,n⟩
 .subst m n;obtain⟨z,hd,T,rel,dd⟩:=aat I.ja e;have L:T.length<=aO:=by rw[<-rel.length];exact z
  have p:(xR f k v).length<=aO:=by have:=Bv f k v;omega
  refine wpAny_setItem_pairs (hsz:=L) (zh B) dd λM i x=>h _ ?_;have Y:∃q,M.get? a=aa q:=let⟨q,_,_,j,_⟩:=i;⟨q,j⟩;exact Ho I (by rw[e];exact dG) x Y (M8 p hd (rel.put k C) i)
 .subst m n;cases(B);obtain⟨z,hd,xs,rel,dd⟩:=ad2 I.ja e;have L:xs.length<=aO:=by rw[<-Paired.length rel];exact z
  have p:(xR f k v).length<=aO:=by have:=Bv f k v;omega
  refine wpAny_setItem_heap (eG N) (xS I.ja J) dd λM i x=>h _ ?_;obtain⟨q,es,ep,j,h2,h3,h4,_,h5⟩:=i;refine Ho I (by rw[e];exact dG) x ⟨q,j⟩ ⟨p,hd,_,(rel.put k J C).keeps λc ys ec=>?_,q,es,ep,j,h2,h3,h4,h5⟩;rw[ii (adG ec e (λz=>nomatch z))];exact ec
end
section
variable {X:Cx} {iB:List (Key×V)} {k:Key}
def ad3(I:Inv X cc σ H s)(e:Rd H a (.dK iB))(h:∀t b,Inv X cc σ H b->Q (.int iB.length t) b):wpAny (model X.prog X.w) A (call (.builtin oo) [.ref a]) Q E s:=by obtain⟨z,hd,c,rel,dd⟩:=rW I.ja e;refine call_len_dict hd dd (by rw[<-rel.length];rw[bp] at z;omega) ?_;rw[<-rel.length];exact h _ _ (I.tok _)
end
def JZ(I:Inv X cc σ H s)(g:tH H a y o):s.TypeIs (.ref a) fw:=by
 rcases g with⟨c,k,e,_,_⟩|⟨c,k,b,e,_,_,_⟩
 .obtain⟨_,_,f,_,dd⟩:=rW I.ja e;exact dd.typeIs
 .obtain⟨_,_,xs,_,dd⟩:=C3 I.ja e;exact dd.typeIs
def ad4 (td ty c:TE):TS:=λD σ H=>c σ H λv H1=>td σ H1 λx e=>ty σ e λy f=>∃a b,x=.ref a/\M7 f a y v b/\D.nx σ b
section
variable {X:Cx} {pos:eL} {ty:TE}
def XZ(b:X.A.units+1<eB)(c:PE X o td)(hi:PE X i ty)(f:PE X value tv)(j:fj value (aa (.Subscript o i vz)) pos.line X.env=pure au):
  PS X (.Assign [.Subscript o i vz] value pos) (ad4 td ty tv):=by intro cc s σ H D I h;refine wpAny_Assign_Subscript (lB (f cc s σ H _ I h) λr s1 ⟨v,H1,I1,m,n⟩=>lB (c cc s1 σ H1 _ I1 n) λu s2 ⟨x,p,q,w,z⟩=>lB (hi cc s2 σ p _ q z) λL s3 ⟨y,M,B,C,a,E,ex,g,G⟩=>?_) j;subst ex;obtain rfl:u=bE a:=w;exact Rv b B g C m λN J=>⟨σ,E,J,G⟩
end
def Ug(h:aC)(hb:cb<h.objs.size):kx P w H (h.push {cls:=.type fw,data:=.dict #[]}) h.objs.size (.dK []):=
 ⟨bD _,beq_eq_false_iff_ne.mpr (b9 (bd hb)),[],.nil,aC.DictOf.new h⟩
def abG:TE:=λ_ H Q=>∀p,H p=ar->Q (.ref p) (upd H p (.dK []))
def Uh:PE X (.Dict [] [] pos) abG:=λcc s σ H Q I h=>
 wpAny_Dict_empty ⟨.ref _,_,I.laid (λ_ _ q=>aj _ q) (aD _) (Ug s.heap I.big),rfl,h _ (I.ja.fresh (aD _))⟩
def M9:List (TE×TE)->St->Hp->(List (V×V)->Hp->Prop)->Prop
 |[],_,H,Q=>Q [] H
 | (tk,a)::r,σ,H,Q=>tk σ H λx H1=>a σ H1 λy b=>M9 r σ b λc e=>Q ((x,y)::c) e
abbrev VV:List (V×V)->List (ai×ai)->Prop:=Paired λp q=>RelV p.1 q.1/\RelV p.2 q.2
def PPs (X:Cx)(pos:eL)(keys:List (Option bJ))(values:List bJ)(a:List (TE×TE)):Prop:=
 ∀(cc:List (aw×cC)) (s:av) (σ:St) (H:Hp) (Q:List (V×V)->Hp->Prop),Inv X cc σ H s->M9 a σ H Q->
  wpAny (model X.prog X.w) X.A (evalPairs (pairTrees keys values X.env pos)) (λe f=>∃b c,Inv X cc σ c f/\VV b e/\Q b c) X.xe s
structure M1(X:Cx)(o:bJ)(m:aX)(apos:eL)(e:bJ)(lQ:eL):Prop where
 cq:dP o m X.env (eval o X.env)=eval o X.env
 few:((du lQ (bg [e] X.env)).all (λx=>!x.1)&&(ais lQ (fN [] X.env)).all (λx=>x.1.isSome)
  &&decide (([e]:List bJ).length+([]:List ah4).length+(if([]:List ah4).isEmpty then 0 else 1)<30))=ag
 line:(apos.endLine==lQ.line)=ag
 trees:du lQ (bg [e] X.env)=[(au,eval e X.env)]
structure M2(X:Cx)(o:bJ)(m:aX)(apos:eL)(e f:bJ)(lQ:eL):Prop where
 cq:dP o m X.env (eval o X.env)=eval o X.env
 few:((du lQ (bg [e,f] X.env)).all (λx=>!x.1)&&(ais lQ (fN [] X.env)).all (λx=>x.1.isSome)
  &&decide (([e,f]:List bJ).length+([]:List ah4).length+(if([]:List ah4).isEmpty then 0 else 1)<30))=ag
 line:(apos.endLine==lQ.line)=ag
 trees:du lQ (bg [e,f] X.env)=[(au,eval e X.env),(au,eval f X.env)]
section
variable {X:Cx} {d:V} {o:Option V} {A:bH}
def Ui{Q:ai->av->Prop}(m:A.units+1<eB)(I:Inv X cc σ H s)(g:tH H a y o)(f:RelV y u)(h:∀i j,Inv X cc σ H j->RelV (o.getD .non) i->Q i j):
  wpAny (model X.prog X.w) A (call (.builtin "dict.get") [.ref a,u]) Q E s:=by
 rcases g with⟨n,k,e,c,l⟩|⟨n,k,b,e,c,p,l⟩
 .subst c;obtain⟨z,hd,q,rel,dd⟩:=rW I.ja e;refine gS PySem.F.slot_dict_get dd.typeIs PySem.F.entry_dict_get (PySem.F.args_dict_get_2 _ _) (meets_dict_get (i7 X.prog X.w) a (zh f) hd) ⟨_,dd.mapOf,h _ _ (I.tok _) ?_⟩;rw[l];exact(rel.val k).getD rfl
 .subst c;cases(show u=bE b from f);obtain⟨z,hd,xs,rel,dd⟩:=C3 I.ja e;refine gS PySem.F.slot_dict_get dd.typeIs PySem.F.entry_dict_get (PySem.F.args_dict_get_2 _ _) (meetsH_dict_get (ahX (i7 X.prog X.w)) a b hd) ⟨eG m,k,xs,xS I.ja p,dd,h _ _ (I.tok _) ?_⟩;rw[l];exact(rel.val k).getD rfl
def Uj{Q:ai->av->Prop}(m:A.units+1<eB)(I:Inv X cc σ H s)(g:tH H a y o)(f:RelV y u)(rd:RelV d r)(h:∀i j,Inv X cc σ H j->RelV (o.getD d) i->Q i j):
  wpAny (model X.prog X.w) A (call (.builtin "dict.get") [.ref a,u,r]) Q E s:=by
 rcases g with⟨n,k,e,c,l⟩|⟨n,k,b,e,c,p,l⟩
 .subst c;obtain⟨z,hd,q,rel,dd⟩:=rW I.ja e;refine gS PySem.F.slot_dict_get dd.typeIs PySem.F.entry_dict_get (PySem.F.args_dict_get_3 _ _ _) (meets_dict_get_default (i7 X.prog X.w) a (zh f) hd r) ⟨_,dd.mapOf,h _ _ (I.tok _) ?_⟩;rw[l];exact(rel.val k).getD rd
 .subst c;cases(show u=bE b from f);obtain⟨z,hd,xs,rel,dd⟩:=C3 I.ja e;refine gS PySem.F.slot_dict_get dd.typeIs PySem.F.entry_dict_get (PySem.F.args_dict_get_3 _ _ _) (meetsH_dict_get_default (ahX (i7 X.prog X.w)) a b hd r) ⟨eG m,k,xs,xS I.ja p,dd,h _ _ (I.tok _) ?_⟩;rw[l];exact(rel.val k).getD rd
end
section
variable {ty:TE}
end
end L2
end
namespace HT
open PySem PyProof.Rows
section
open PySem.SeqAt
open PySem.AutoSeq1 (wpAny_loadPart')
open PySem.MeetsSeq PySem.MeetsSeq2 PySem.MeetsSeq3
end
section
variable {s:av}
def X0(ht:aih s.heap t a.toArray)(hb:aih s.heap b ws.toArray)(i:a≠[])
(p:ws=[]->Q (.ref t) s)(q:ws≠[]->Q (.ref s.heap.objs.size) {s with heap:=s.heap.push {cls:=.type fi,data:=.seq (a++ws).toArray}})
(r:a.length+ws.length<=aO):wpAny (model prog w) A (binaryOp .Add (.ref t) (.ref b)) Q E s:=by
 obtain⟨⟨cls,dd,data,sl⟩,g,hc,n,hd⟩:=id ht;obtain⟨⟨u,c,data2,f⟩,h,j,m,o⟩:=id hb;simp only at hc hd j o;subst hc hd j o;have e:a.toArray++ws.toArray=(a++ws).toArray:=by simp
 by_cases hw:ws=[]
 .exact concat_meets ⟨_,g,rfl⟩ ⟨_,h,rfl⟩ ajE ajX PySem.F.slot_tuple_add PySem.F.entry_tuple_add (PySem.F.args_tuple_add_2 _ _)
   (tuple_addW1 t b _ _ n m dd c sl f (by simpa using i) (by simp[hw])) ⟨g,h,p hw⟩
 .refine concat_meets ⟨_,g,rfl⟩ ⟨_,h,rfl⟩ ajE ajX PySem.F.slot_tuple_add PySem.F.entry_tuple_add (PySem.F.args_tuple_add_2 _ _)
   (tuple_addW2 t b _ _ n m dd c sl f (by simpa using i) (by simpa using hw) (by exact r)) ⟨g,h,?_⟩
  rw[e];exact q hw
def rX(n d:Nat):Option Int->Nat
 |none=>d
 |some v=>if v<0 then(v+(n:Int)).toNat else min v.toNat n
def Ul(n d:Nat):rX n d ar=d:=rfl
def Cr(n d k:Nat):rX n d (aa (k:Int))=min k n:=by show(if(k:Int)<0 then((k:Int)+(n:Int)).toNat else min _ n)=min k n;rw[if_neg (by omega),Int.toNat_natCast]
def agn(n d:Nat)(hd:d<=n)(o:Option Int):rX n d o<=n:=by
 cases o with
 |none=>exact hd
 |some v=>
  show(if v<0 then(v+(n:Int)).toNat else min v.toNat n)<=n;by_cases a:v<0
  .rw[if_pos a];omega
  .rw[if_neg a];exact Nat.min_le_right _ _
def Pz(v:Int)(n d:Nat):(if v<0 then max (v+(n:Int)) 0 else min v (n:Int))=((rX n d (aa v):Nat):Int):=by
 show(if v<0 then max _ 0 else min v _)=(((if v<0 then(v+(n:Int)).toNat else min v.toNat n):Nat):Int);by_cases a:v<0
 .simp only [if_pos a];omega
 .simp only [if_neg a];omega
def Na(lo hi:Option Int)(n:Nat):bM.Slice.sliceAdjust lo hi 1 (n:Int)=(((rX n 0 lo:Nat):Int),((rX n n hi:Nat):Int)):=by
 refine Prod.ext ?_ ?_
 .cases lo with
  |none=>rfl
  |some v=>exact Pz v n 0
 .cases hi with
  |none=>rfl
  |some v=>exact Pz v n n
def Nb(i j:Nat):fU (i:Int) (j:Int) 1=j- i:=by unfold fU;split<;>omega
def C4(p:aiA v o)(h:Q o s):wpAny (model prog w) A (bM.Slice.slicePartIndex v) Q E s:=by
 cases p with
 |none=>exact ajP h
 |int i t=>exact slicePart_int h
def Aw{lo hi:Option Int}{n:Nat}(f:s.heap.IsSliceOf sl c e .none)(pl:aiA c lo)(g:aiA e hi)
(h:Q (((rX n 0 lo:Nat):Int),1,rX n n hi- rX n 0 lo) s):wpAny (model prog w) A (bM.Slice.sliceApplied (.ref sl) (pure (n:Int))) Q E s:=by obtain⟨os,a,i,b⟩:=id f;refine ae (ae (cB a b (x:=c) rfl (ae (cB a b (x:=e) rfl (ae (cB a b rfl (ay ?_)))))));refine ae (ajP ?_);refine ae (C4 pl (ae (C4 g (ae (ay ?_)))));show wpAny _ _ (match bM.Slice.sliceAdjust lo hi 1 _ with|(lo,hi)=>pure (lo,(1:Int),fU lo hi 1)) _ _ s;rw[Na lo hi n];show wpAny _ _ (pure _) _ _ s;rw[Nb];exact ay h
def Um(xs:Array ai)(i k:Nat):((cy k).filterMap λ(m:Nat)=>xs[((i:Int)+(m:Int)*1).toNat]?).toArray=((xs.toList.drop i).take k).toArray:=by
 have e:(λ(m:Nat)=>xs[((i:Int)+(m:Int)*1).toNat]?)=λm=>xs[i+m]?:=by
  funext m;have:((i:Int)+(m:Int)*1).toNat=i+m:=by omega
  rw[this]
 rw[e];have:=pick_run xs i k;rw[List.filterMap_map] at this;have e2:((λx=>xs[x]?)∘λx=>i+x)=λm=>xs[i+m]?:=rfl;rw[e2] at this;rw[this]
def zj{lo hi:Option Int}(ht:aih s.heap t items)(g:s.heap.IsSliceOf sl i j .none)(pl:aiA i lo)(m:aiA j hi)
(hw:¬(rX items.size 0 lo=0/\rX items.size items.size hi=items.size))
(h:Q (.ref s.heap.objs.size) {s with heap:=s.heap.push {cls:=.type fi,data:=.seq ((items.toList.drop (rX items.size 0 lo)).take (rX items.size items.size hi- rX items.size 0 lo)).toArray}})
(o:items.size<=aO):wpAny (model prog w) A (ah5 (.ref t) (.ref sl)) Q E s:=by
 have a:=by show((items.toList.drop (rX items.size 0 lo)).take (rX items.size items.size hi- rX items.size 0 lo)).toArray.size<=aO;rw[aR,dM,dN,b8];omega
 obtain⟨os,b,c,n⟩:=id g;have e:s.TypeIs (.ref sl) "slice":=⟨os,b,c⟩;unfold ah5;try with_reducible refine bS ?_
 refine ae (ajp ht.typeIs (by decide) ?_);refine ae (df ht.typeIs fg
  (cE fg ht.typeIs entry_tuple_getitem ?_ (args_tuple_getitem _ _)))
 show wpAny _ _ (bM.Tuple.tupleItemsOf (.ref t) >>= _) _ _ s;refine ae (tupleItemsOf_ ht ?_);refine ae (ait e ?_);refine ae (Aw g pl m ?_);have f:¬((((rX items.size 0 lo:Nat):Int)==0&&(1:Int)==1&&(rX items.size items.size hi- rX items.size 0 lo)==items.size)=ag):=by intro q;rw[aZ,aZ] at q;have p:=eq_of_beq q.1.1;have r:=eq_of_beq q.2;exact hw ⟨by omega,by omega⟩
 show wpAny _ _ (if(((rX items.size 0 lo:Nat):Int)==0&&(1:Int)==1&&(rX items.size items.size hi- rX items.size 0 lo)==items.size)=ag then _ else _) _ _ s;rw[if_neg f,Um];first
  |exact ae (ahG (ay ⟨_,rfl,ay h⟩) a)
  |exact ae _
  |exact ae _
  |exact ae _
end
end HT
section
open PySem PySem.Spec PyProof.Rows
namespace L2
abbrev TO:=St->Hp->(Option Int->Hp->Prop)->Prop
def PO (X:Cx)(e:Option bJ)(t:TO):Prop:=
 ∀(cc:List (aw×cC)) (s:av) (σ:St) (H:Hp) (Q:Option Int->Hp->Prop),Inv X cc σ H s->t σ H Q->
  wpAny (model X.prog X.w) X.A (evalPart e X.env) (λu b=>∃o a,Inv X cc σ a b/\aiA u o/\Q o a) X.xe s
def X1:TO:=λ_ H Q=>Q ar H
def ad6 (t:TE):TO:=λσ H Q=>t σ H λx H1=>∃i,x=.int i/\Q (aa i) H1
section
variable {X:Cx} {lo:Option bJ} {tl:TO}
def X2:PO X ar X1:=by intro cc s σ H Q I h;exact ay ⟨ar,H,I,.none,h⟩
def X3(h:PE X e te):PO X (aa e) (ad6 te):=by intro cc s σ H Q I hw;refine lB (h cc s σ H _ I hw) λu s1 a=>?_;obtain⟨x,H1,I1,b,c⟩:=a;obtain⟨i,rfl,q⟩:=c;obtain⟨t,rfl⟩:=b;exact⟨aa i,H1,I1,.int i t,q⟩
def Xk (X:Cx)(r:V->Option Int->Option Int->Hp->VK->Prop):Prop:=
 ∀(cc:List (aw×cC)) (s:av) (σ:St) (H:Hp) (x:V) (v a b:ai) (lo hi:Option Int) (sl:aw) (Q:VK),Inv X cc σ H s->RelV x v->s.heap.IsSliceOf sl a b .none->aiA a lo->aiA b hi->r x lo hi H Q->
  ∃T id,ail (.type T) "__getitem__"=pure (aa (.builtin id))/\s.TypeIs v T/\wpAny (model X.prog X.w) X.A (ah5 v (.ref sl)) (EP X cc σ Q) X.xe s
def Xk.or(h:Xk X r)(i:Xk X j):Xk X (λx lo hi H Q=>r x lo hi H Q\/j x lo hi H Q):=by
 intro cc s σ H x v a b lo hi sl Q I c f pl g q;rcases q with q|q
 .exact h cc s σ H x v a b lo hi sl Q I c f pl g q
 .exact i cc s σ H x v a b lo hi sl Q I c f pl g q
def tSl (r:V->Option Int->Option Int->Hp->VK->Prop)(te:TE)(tl th:TO):TE:=λσ H Q=>te σ H λx H1=>tl σ H1 λl a=>th σ a λu b=>r x l u b Q
def Uo(i:Xk X r)(j:PE X e te)(m:PO X lo tl)(n:PO X hi th):PE X (.Subscript e (.Slice lo hi ar p2) pos) (tSl r te tl th):=by intro cc s σ H Q I h;refine Subscript_ (lB (j cc s σ H _ I h) λv s1 a=>?_);obtain⟨x,H1,I1,o,p⟩:=a;refine wpAny_Slice (lB (m cc s1 σ H1 _ I1 p) λc s2 ⟨l,w,y,pl,z⟩=>lB (n cc s2 σ w _ y z) λf s3 a=>?_);obtain⟨u,g,A,B,C⟩:=a;refine ay ?_;have E:Inv X cc σ g {s3 with heap:=s3.heap.push {cls:=.type "slice",data:=.fields #[c,f,.none]}}:=A.kept λb ob q=>aj _ q;obtain⟨T,id,G,ht,J⟩:=i cc _ σ g x v c f l u _ Q E o (aC.IsSliceOf.new ..) pl B C;exact tail_any ht G J (by with_unfolding_all rfl)
def Rx(xs:List V)(lo hi:Option Int):List V:=(xs.drop (HT.rX xs.length 0 lo)).take (HT.rX xs.length xs.length hi- HT.rX xs.length 0 lo)
def Bw(xs:List V)(lo hi:Option Int):(Rx xs lo hi).length<=xs.length:=by unfold Rx;rw[dM,dN];omega
def ago (K:bz):V->Option Int->Option Int->Hp->VK->Prop:=λx lo hi H Q=>∃a xs,x=.ref a/\xQ K H a xs/\
 ¬(HT.rX xs.length 0 lo=0/\HT.rX xs.length xs.length hi=xs.length)/\∀p,H p=ar->Q (.ref p) (upd H p (.tup (Rx xs lo hi)))
def abH:Xk X (ago X.K):=by
 intro cc s σ H x v n o lo hi sl Q I g i pl j h;obtain⟨a,xs,rfl,m,hw,q⟩:=h;cases g;obtain⟨iM,r,ht,f⟩:=I.tuple m;have c:iM.toArray.size=xs.length:=by exact r.length.symm
 refine⟨fi,_,fg.lookup,ht.typeIs,?_⟩;refine HT.zj ht i pl j (by rw[c];exact hw) ?_ (by rw[c];exact f);rw[c];refine⟨.ref _,_,I.laid (λb ob q=>aj _ q) (aD _) ?_,rfl,q _ (I.ja.fresh (aD _))⟩;exact⟨bG (Bw xs lo hi) f,_,(r.drop _).take _,aih.new _ _⟩
def ad7 (K:bz):R2:=λx y H Q=>∃a b xs c,x=.ref a/\y=.ref b/\xQ K H a xs/\xQ K H b c/\xs≠[]/\xs.length+c.length<=aO/\
 (c=[]->Q (.ref a) H)/\(c≠[]->∀p,H p=ar->Q (.ref p) (upd H p (.tup (xs++c))))
def Vals.Hq(r:Vals xs us):us=[]↔xs=[]:=by
 cases r with
 |nil=>simp
 |cons _ _=>simp
def X4:uh X (binaryOp .Add) (ad7 X.K):=by intro cc s σ H x y v u Q I i j h;obtain⟨a,b,xs,r,rfl,rfl,ha,hb,m,g,n,o⟩:=h;cases i;cases j;obtain⟨iM,f,p,_⟩:=I.tuple ha;obtain⟨A,c,p2,_⟩:=I.tuple hb;refine HT.X0 p p2 (λz=>m (f.Hq.mp z)) (λz=>⟨.ref a,H,I,rfl,n (c.Hq.mp z)⟩) (λz=>?_) (by rw[<-f.length,<-c.length];exact g);refine⟨.ref _,_,I.laid (λb ob q=>aj _ q) (aD _) ?_,rfl,o (λw=>z (c.Hq.mpr w)) _ (I.ja.fresh (aD _))⟩;exact⟨by rw[aE];exact g,_,f.append c,aih.new _ _⟩
end
def Xl(n:Nat)(i:Int):Option Nat:=if 0<=i then(if i<n then aa i.toNat else ar) else if-(n:Int)<=i then aa (i+n).toNat else ar
def Fk{α:Type}(xs:List α)(i:Int):Option α:=(Xl xs.length i).bind λj=>xs[j]?
def X5(h:Xl n i=aa j):aiW i n=aa j/\j<n/\-(n:Int)<=i/\i<n:=by
 unfold Xl at h;by_cases b:0<=i
 .rw[if_pos b] at h;by_cases a:i<n
  .rw[if_pos a] at h;have e:=bF h;exact⟨by rw[seqIndex_of b a,e],by omega,by omega,a⟩
  .rw[if_neg a] at h;cases h
 .rw[if_neg b] at h;by_cases a:-(n:Int)<=i
  .rw[if_pos a] at h;have e:=bF h;exact⟨by rw[seqIndex_neg (by omega) a,e],by omega,a,by omega⟩
  .rw[if_neg a] at h;cases h
def Hr{v:α}(h:Fk xs i=aa v):∃j,aiW i xs.length=aa j/\xs[j]?=aa v/\j<xs.length/\-(xs.length:Int)<=i/\i<xs.length:=by
 unfold Fk at h;cases e:Xl _ i with
 |none=>rw[e] at h;cases h
 |some j=>
  rw[e] at h;obtain⟨a,b,c,f⟩:=X5 e;exact⟨j,a,h,b,c,f⟩
def PB (b:bJ):Prop:=∀o i,subscripted b au o i=operate [o,i] (ah5 o i)
def IxR (X:Cx)(r:R2):Prop:=
 ∀(value slice:bJ) (cc:List (aw×cC)) (s:av) (σ:St) (H:Hp) (x y:V) (v u:ai) (Q:VK),Inv X cc σ H s->RelV x v->RelV y u->r x y H Q->
  subscripted slice au v u=operate [v,u] (ah5 v u)->wpAny (model X.prog X.w) X.A (subscriptTail value slice v u) (EP X cc σ Q) X.xe s
def MtR (X:Cx)(id:String)(r:V->List V->Hp->VK->Prop):Prop:=
 ∀(cc:List (aw×cC)) (s:av) (σ:St) (H:Hp) (x:V) (xs:List V) (v:ai) (us:List ai) (Q:VK),Inv X cc σ H s->RelV x v->Vals xs us->r x xs H Q->
  wpAny (model X.prog X.w) X.A (call (.builtin id) (v::us)) (EP X cc σ Q) X.xe s
section
variable {X:Cx}
def aau(c:IxR X r)(ha:PE X a ta)(hb:PE X b tb)(e:PB b):PE X (.Subscript a b pos) (tOp r ta tb):=by intro cc s σ H Q I h;exact Subscript_ (abp ha hb I h λv u s2 x y f g i j q=>c a b cc s2 σ f x y v u Q g i j q (e _ _))
def agp (K:bz):R2:=λx y H Q=>∃p xs i v,x=.ref p/\y=.int i/\nI K H p xs/\Fk xs i=aa v/\Q v H
def ad8 (K:bz):R2:=λx y H Q=>∃p xs i v,x=.ref p/\y=.int i/\xQ K H p xs/\Fk xs i=aa v/\Q v H
def agq:R2:=λx y H Q=>∃z i c,x=.str z/\y=.int i/\z.length<=aO/\Fk z.cps.toList i=aa c/\Q (.str ⟨#[c]⟩) H
def PC:IxR X (agp X.K):=by
 intro value slice cc s σ H x y v u Q I o A h f;obtain⟨p,xs,i,z,rfl,rfl,B,C,q⟩:=h;cases o;obtain⟨t,rfl⟩:=A;obtain⟨iM,r,pl,N⟩:=I.list B;obtain⟨j,c,E,O,G,J⟩:=Hr C;obtain⟨w,g,L⟩:=r.get E;have M:=r.length;have hn:=C0;have m:EP X cc σ Q w s:=⟨z,H,I,L,q⟩;by_cases n:0<=i
 .have e:=by rw[seqIndex_of n J] at c;exact bF c
  exact item_listR pl.isList n (by omega) (by rw[e];simpa using g) m f
 .have e:(i+(iM.toArray.size:Int)).toNat=j:=by rw[seqIndex_neg (by omega) G] at c;rw[aR,<-M];exact bF c
  exact ai1 pl.isList.typeIs ajq.lookup
   (wpAny_getItem_list_neg pl.isList (by omega) (by rw[aR]<;>omega) (by omega) (by rw[e];simpa using g) ⟨rfl,m⟩) f
def Up:IxR X (ad8 X.K):=by
 intro value slice cc s σ H x y v u Q I c e h f;obtain⟨p,xs,i,z,rfl,rfl,g,m,q⟩:=h;cases c;obtain⟨t,rfl⟩:=e;obtain⟨iM,r,pl,G⟩:=I.tuple g;obtain⟨j,n,o,J,L,M⟩:=Hr m;obtain⟨w,A,B⟩:=r.get o;have C:=r.length;have hn:=C0;have E:EP X cc σ Q w s:=⟨z,H,I,B,q⟩;exact ai1 pl.typeIs slot_tuple_getitem.lookup
  (getItem_tuple pl (by omega) (by omega) (by rw[aR,<-C];exact n) (by simpa using A) ⟨rfl,E⟩) f
def Nc:IxR X agq:=by
 intro value slice cc s σ H x y v u Q I f g h m;obtain⟨z,i,c,rfl,rfl,A,n,q⟩:=h;obtain⟨t,rfl⟩:=f;obtain⟨B,rfl⟩:=g;obtain⟨j,e,o,C,p,r⟩:=Hr n;have w:z.cps.toList.length=z.length:=by simp[aX.length]
 rw[w] at e p r;have hn:=C0;exact tail_any (aji s z t) slot_str_getitem.lookup (getItem_str (by have e1:decide (i< -(2^63:Int))=au:=decide_eq_false (by omega);have e2:decide (i>=2^63)=au:=decide_eq_false (by omega);rw[e1,e2,Bool.or_false]) (by rw[e];simpa using o) ⟨.str _,H,I.tok _,⟨_,rfl⟩,q⟩) m
theorem Inv.lst{cc:List (aw×cC)}{σ:St}{H:Hp}{s:av}{p:aw}{xs:List V}(I:Inv X cc σ H s)(h:H p=aa (.lst xs)):
  ∃(iM:List ai) (n:Nat),Vals xs iM/\s.heap.get? p=aa {cls:=.type cr,data:=.seq iM.toArray n}/\xs.length<=aO:=by obtain⟨z,iM,n,r,e⟩:=I.ja p _ h;exact⟨iM,n,r,e,z⟩
def Hs(lo hi:Option Int)(n:Nat):(gE lo hi ar n).1=((HT.rX n 0 lo:Nat):Int)/\(gE lo hi ar n).2.1=((HT.rX n n hi:Nat):Int)/\(gE lo hi ar n).2.2=1:=by
 refine⟨?_,?_,rfl⟩
 .cases lo with
  |none=>simp[gE,HT.rX]
  |some i=>
   simp only [gE,HT.rX,Option.getD_none,show(1:Int)>0 by decide,if_true];by_cases h:i<0
   .simp only [h,if_true]<;>omega
   .simp only [h,if_false]<;>omega
 .cases hi with
  |none=>simp[gE,HT.rX]
  |some i=>
   simp only [gE,HT.rX,Option.getD_none,show(1:Int)>0 by decide,if_true];by_cases h:i<0
   .simp only [h,if_true]<;>omega
   .simp only [h,if_false]<;>omega
def Fq(iM:List ai)(lo hi:Option Int):slicePick iM.toArray lo hi ar=((iM.drop (HT.rX iM.length 0 lo)).take (HT.rX iM.length iM.length hi- HT.rX iM.length 0 lo)).toArray:=by obtain⟨c,e,f⟩:=Hs lo hi _;unfold slicePick;rw[c,e,f];simp only [sliceRange_one,pick_run]<;>rfl
def agr (K:bz):V->Option Int->Option Int->Hp->VK->Prop:=λx lo hi H Q=>∃a xs,x=.ref a/\nI K H a xs/\∀p,H p=ar->Q (.ref p) (upd H p (.lst (Rx xs lo hi)))
def X6:Xk X (agr X.K):=by intro cc s σ H x v m n lo hi sl Q I c e pl f h;obtain⟨a,xs,rfl,g,q⟩:=h;cases c;obtain⟨iM,r,ht,i⟩:=I.list g;have j:=r.length;refine⟨cr,_,ajq.lookup,ht.isList.typeIs,?_⟩;refine wpAny_getItem_list_slice ht.isList e pl f .none (by simp) ?_ (by rw[aR]<;>omega);rw[Fq,<-j];refine⟨.ref _,_,I.laid (λb ob q=>aj _ q) (aD _) ?_,rfl,q _ (I.ja.fresh (aD _))⟩;exact⟨bG (Bw xs lo hi) i,_,0,(r.drop _).take _,aP _ rfl⟩
def xA:V->Bool
 |.non=>ag
 |.bl _=>ag
 |.int _=>ag
 |.str _=>ag
 |_=>au
def X7:V->V->Bool
 |.non,.non=>ag
 |.bl a,.bl b=>a==b
 |.bl a,.int b=>(if a then 1 else 0)==b
 |.int a,.bl b=>a==(if b then 1 else 0)
 |.int a,.int b=>a==b
 |.str a,.str b=>a==b
 |_,_=>au
def abI(f:RelV y u)(c:RelV x v)(h:xA y=ag)(g:xA x=ag):bZ A s u v (X7 y x):=by
 cases y with
 |non=>
  cases f;cases x with
  |non=>cases c;exact bZ.same _
  |bl b=>cases c;exact bZ.none_bool b
  |int b=>obtain⟨t,rfl⟩:=c;exact bZ.none_int b t
  |str b=>obtain⟨t,rfl⟩:=c;exact bZ.none_str b t
  |_=>exact absurd (show au=ag from g) aS
 |bl a=>
  cases f;cases x with
  |non=>cases c;exact bZ.bool_none a
  |bl b=>cases c;exact bZ.bool_bool a b
  |int b=>obtain⟨t,rfl⟩:=c;exact bZ.bool_int a b t
  |str b=>obtain⟨t,rfl⟩:=c;exact bZ.bool_str a b t
  |_=>exact absurd (show au=ag from g) aS
 |int a=>
  obtain⟨e,rfl⟩:=f;cases x with
  |non=>cases c;exact bZ.int_none a e
  |bl b=>cases c;exact bZ.int_bool a e b
  |int b=>obtain⟨t,rfl⟩:=c;exact bZ.int_int a e b t
  |str b=>obtain⟨t,rfl⟩:=c;exact bZ.int_str a e b t
  |_=>exact absurd (show au=ag from g) aS
 |str a=>
  obtain⟨e,rfl⟩:=f;cases x with
  |non=>cases c;exact bZ.str_none a e
  |bl b=>cases c;exact bZ.str_bool a e b
  |int b=>obtain⟨t,rfl⟩:=c;exact bZ.str_int a e b t
  |str b=>obtain⟨t,rfl⟩:=c;exact bZ.str_str a e b t
  |_=>exact absurd (show au=ag from g) aS
 |_=>exact absurd (show au=ag from h) aS
def Nd(x:V)(u:ai):Bool:=match u with
 |.none=>X7 .non x
 |.bool b=>X7 (.bl b) x
 |.int i _=>X7 (.int i) x
 |.str z _=>X7 (.str z) x
 |_=>au
def Uq(r:RelV y u)(f:xA y=ag):Nd x u=X7 y x:=by
 cases y with
 |non=>cases r;rfl
 |bl b=>cases r;rfl
 |int i=>obtain⟨t,rfl⟩:=r;rfl
 |str z=>obtain⟨t,rfl⟩:=r;rfl
 |_=>exact absurd (f) aS
theorem zk:∀{xs:List V} {us:List ai},Vals xs us->xs.all xA=ag->us.any (Nd x)=xs.any λy=>X7 y x
 |_,_,.nil,_=>rfl
 |y::xs,u::us,.cons r t,f=>by rw[fV,aZ] at f;rw[c7,c7,Uq r f.1,zk t f.2]
theorem vD(e:RelV x v)(g:xA x=ag):∀{xs:List V} {us:List ai},Vals xs us->xs.all xA=ag->∀u∈us,bZ A s u v (Nd x u)
 |_,_,.nil,_=>λu c=>by cases c
 |y::xs,u::us,.cons r t,f=>λh c=>by
  rw[fV,aZ] at f;rcases aH.mp c with rfl|c
  .rw[Uq r f.1];exact abI r e f.1 g
  .exact vD e g t f.2 h c
def inV(x:V)(xs:List V):Bool:=xs.any λy=>X7 y x
def rIn (K:bz)(neg:Bool):R2:=λx y H Q=>∃p xs,y=.ref p/\(nI K H p xs\/xQ K H p xs)/\xA x=ag/\xs.all xA=ag/\Q (.bl (if neg then !inV x xs else inV x xs)) H
def Gh:uh X (compareOp .In) (rIn X.K au):=by
 intro cc s σ H x y v u Q I e g h;obtain⟨p,xs,rfl,c,f,fs,q⟩:=h;cases g;rcases c with c|c
 .obtain⟨iM,r,pl,i⟩:=I.list c;refine SeqAt.in_listAt (Nd x) pl.isList (λw hw=>vD e f r fs w (by simpa using hw)) ⟨.bl _,H,I,rfl,?_⟩;rw[show iM.toArray.any (Nd x)=iM.any (Nd x) by simp,zk r fs];exact q
 .obtain⟨iM,r,pl,i⟩:=I.tuple c;refine SeqAt.in_tupleAt (Nd x) pl (λw hw=>vD e f r fs w (by simpa using hw)) ⟨.bl _,H,I,rfl,?_⟩;rw[show iM.toArray.any (Nd x)=iM.any (Nd x) by simp,zk r fs];exact q
def zl:uh X (compareOp .NotIn) (rIn X.K ag):=by
 intro cc s σ H x y v u Q I e g h;obtain⟨p,xs,rfl,c,f,fs,q⟩:=h;cases g;rcases c with c|c
 .obtain⟨iM,r,pl,i⟩:=I.list c;refine SeqAt.notIn_listAt (Nd x) pl.isList (λw hw=>vD e f r fs w (by simpa using hw)) ⟨.bl _,H,I,rfl,?_⟩;rw[show iM.toArray.any (Nd x)=iM.any (Nd x) by simp,zk r fs];exact q
 .obtain⟨iM,r,pl,i⟩:=I.tuple c;refine SeqAt.notIn_tupleAt (Nd x) pl (λw hw=>vD e f r fs w (by simpa using hw)) ⟨.bl _,H,I,rfl,?_⟩;rw[show iM.toArray.any (Nd x)=iM.any (Nd x) by simp,zk r fs];exact q
def ui:ny X (.builtin oo) (λxs H Q=>∃p e,xs=[.ref p]/\(nI X.K H p e\/xQ X.K H p e)/\Q (.int e.length) H):=by
 intro cc s σ H xs us Q I r h;obtain⟨p,e,rfl,c,q⟩:=h;obtain⟨u,rfl,i⟩:=vals1 r;cases i;have hn:=C0;rcases c with c|c
 .obtain⟨iM,f,pl,j⟩:=I.list c;have g:=f.length;exact Calls.call_len_list pl.isList (by simp only [aR]<;>omega) ⟨.int _,H,I.tok _,⟨s.toks+1,by rw[aR,g]⟩,q⟩
 .obtain⟨iM,f,pl,j⟩:=I.tuple c;have g:=f.length;exact len_tuple pl (by simp only [aR]<;>omega) ⟨.int _,H,I.tok _,⟨s.toks+1,by rw[aR,g]⟩,q⟩
def Ht:ny X (.builtin oo) (λxs H Q=>∃z,xs=[.str z]/\z.length<=aO/\Q (.int z.length) H):=by intro cc s σ H xs us Q I r h;obtain⟨z,rfl,c,q⟩:=h;obtain⟨u,rfl,t,rfl⟩:=vals1 r;have hn:=C0;exact len_str (by omega) ⟨.int z.length,H,I.tok _,⟨_,rfl⟩,q⟩
def uj:ny X (.type cr) (λxs H Q=>∃p f,xs=[.ref p]/\(nI X.K H p f\/xQ X.K H p f)/\∀l,H l=ar->Q (.ref l) (upd H l (.lst f))):=by
 intro cc s σ H xs us Q I r h;obtain⟨p,f,rfl,j,q⟩:=h;obtain⟨u,rfl,z⟩:=vals1 r;cases z;have x:∀(iM:List ai),Vals f iM->f.length<=aO->∀(c:aC) (i:Nat),(∀b y,s.heap.get? b=aa y->c.get? b=aa y)->
   c.get? _=aa _->EP X cc σ Q _ _:=λiM g m c i kp e=>
  ⟨.ref _,_,I.laid (t':=s.toks) kp (aD _) (show kx X.prog X.w _ c _ (.lst f) from⟨m,iM,i,g,e⟩),rfl,q _ (I.ja.fresh (aD _))⟩
 rcases j with j|j
 .obtain⟨iM,g,pl,m⟩:=I.list j;have A:=g.length;obtain⟨o,v,hc,n,hd⟩:=pl.isList;exact ajY p (.inl rfl) v hc hd (λc i kp e=>x iM g m c i kp e) (by simp only [aR]<;>omega)
 .obtain⟨iM,g,pl,m⟩:=I.tuple j;have A:=g.length;obtain⟨o,v,hc,n,hd⟩:=pl;exact ajY p (.inr rfl) v hc hd (λc i kp e=>x iM g m c i kp e) (by simp only [aR]<;>omega)
def xB:ny X (.type fi) (λxs H Q=>∃p c,xs=[.ref p]/\((nI X.K H p c/\∀l,H l=ar->Q (.ref l) (upd H l (.tup c)))\/(xQ X.K H p c/\Q (.ref p) H))):=by
 intro cc s σ H xs us Q I r h;obtain⟨p,c,rfl,h⟩:=h;obtain⟨u,rfl,j⟩:=vals1 r;cases j;rcases h with⟨f,q⟩|⟨f,q⟩
 .obtain⟨iM,g,pl,i⟩:=I.list f;have v:=g.length;refine call_tuple_list pl.isList (λx kp=>?_) (by simp only [aR]<;>omega);have I1:=I.kept (t':=s.toks) kp;have n:=
   I1.laid (t':=s.toks) (λb o e=>aj _ e) (aD _) (show kx X.prog X.w _ _ _ (.tup c) from⟨i,iM,g,aih.new _ _⟩)
  exact⟨.ref _,_,n,rfl,q _ (I1.ja.fresh (aD _))⟩
 .obtain⟨iM,g,pl,i⟩:=I.tuple f;exact call_tuple_same pl ⟨.ref p,H,I,rfl,q⟩
def tyV (K:bz)(T:String)(x:V)(H:Hp):Prop:=match x with
 |.str _=>T=hJ
 |.int _=>T=hH
 |.ref p=>(T=cr/\∃xs,nI K H p xs)\/(T=fi/\∃o,K.lookup p=aa o/\o.cls=.type fi/\o.dict=ar)\/
   (T=fw/\((∃c,Rd H p (.dK c))\/(∃c,H p=aa (.dT c))\/∃e c,H p=aa (.dE e c)))\/(T=gc/\∃S n,H p=aa (.set S n))
 |_=>False
def abJ(I:Inv X cc σ H s)(r:RelV x v)(ty:tyV X.K T x H):
  s.TypeIs v T/\∀a,v=.ref a->∃ob,s.heap.get? a=aa ob/\ob.dict=ar:=by
 cases x with
 |str z=>
  obtain⟨t,rfl⟩:=r;cases(ty);exact⟨aji s z t,λ_ e=>nomatch e⟩
 |int i=>
  obtain⟨t,rfl⟩:=r;cases(ty);exact⟨ajj s i t,λ_ e=>nomatch e⟩
 |ref p=>
  cases r;rcases ty with⟨rfl,xs,h⟩|⟨rfl,o,f,hc,hd⟩|⟨rfl,f⟩|⟨rfl,S,n,f⟩
  .obtain⟨iM,_,pl,_⟩:=I.list h;refine⟨pl.isList.typeIs,λa e=>?_⟩;cases e;obtain⟨o,n,e,c,hd,_⟩:=pl;exact⟨o,e,hd⟩
  .refine⟨⟨o,I.ub p o f,hc⟩,λa e=>?_⟩;cases e;exact⟨o,I.ub _ o f,hd⟩
  .have z:∃o,s.heap.get? p=aa o/\o.ExactDict:=by
    rcases f with⟨g,f⟩|⟨g,f⟩|⟨j,g,f⟩
    .obtain⟨_,_,_,_,o,_,_,e,ex,_⟩:=f.ok I.ja;exact⟨o,e,ex⟩
    .obtain⟨_,_,_,_,o,_,_,e,ex,_⟩:=I.ja p _ f;exact⟨o,e,ex⟩
    .obtain⟨_,_,_,_,o,_,e,ex,_⟩:=I.ja p _ f;exact⟨o,e,ex⟩
   obtain⟨o,e,ex⟩:=z;refine⟨⟨o,e,ex.1⟩,λa e2=>?_⟩;cases e2;exact⟨o,e,ex.2.1⟩
  .obtain⟨o,_,_,_,e,ex,_⟩:=I.ja p _ f;refine⟨⟨o,e,ex.1⟩,λa e2=>?_⟩;cases e2;exact⟨o,e,ex.2.1⟩
 |_=>exact cw ty
def tBM (K:bz)(T:String)(r:V->List V->Hp->VK->Prop)(to:TE)(t:TA):TE:=λσ H Q=>to σ H λx H1=>tyV K T x H1/\t σ H1 λxs c=>r x xs c Q
variable {es:List bJ} {t:TA} {apos lQ:eL} {id:String}
def ad9(j:PlainAttrs T)(slot:Slot T name id)(c:typeOf (.builtin id)=pure (.type "method_descriptor"))(hm:MtR X id r)(m:PE X o to)(ha:PA X (e::es) t)
(n:dP o name X.env (eval o X.env)=eval o X.env:=by rfl)
(f:((du lQ (bg (e::es) X.env)).all (λx=>!x.1)&&(ais lQ (fN [] X.env)).all (λx=>x.1.isSome)
   &&decide ((e::es).length+([]:List ah4).length+(if([]:List ah4).isEmpty then 0 else 1)<30))=ag:=by rfl)
(p:(apos.endLine==lQ.line)=ag:=by rfl)(q:bg (e::es) X.env=(au,eval e X.env)::bg es X.env:=by rfl)(u:(du lQ (bg es X.env)).any (·.1)=au:=by rfl):
  PE X (.Call (.Attribute o name apos) (e::es) [] lQ) (tBM X.K T r to t):=by intro cc s σ H Q I h;refine wpAny_Call_method_late n f p rfl (lB (m cc s σ H _ I h) λv s1 w=>?_);obtain⟨x,H1,I1,g,ty,y⟩:=w;obtain⟨z,A⟩:=abJ I1 g ty;refine⟨T,id,j,slot,c,z,A,?_⟩;have i:=ha lQ cc s1 σ H1 _ I1 y;rw[q] at i |-;refine Calls.callWith_builtin (by show(au||(du lQ _).any (·.1))=au;rw[u]<;>rfl) (Calls.evalArgs_plain ?_);exact lB i λus s2 ⟨B,C,E,G,J⟩=>hm cc s2 σ C x B v us Q E g G J
end
def MtM (X:Cx)(id:String)(r:V->List V->Hp->VK->Prop):Prop:=
 ∀(cc:List (aw×cC)) (s:av) (σ:St) (H:Hp) (x:V) (xs:List V) (v:ai) (us:List ai) (Q:VK),Inv X cc σ H s->RelV x v->Vals xs us->r x xs H Q->
  wpAny (model X.prog X.w) X.A (call (.builtin id) (v::us)) (EP X cc σ Q) X.xe s
theorem Vals.one:∀{x:V} {us:List ai},Vals [x] us->∃u,us=[u]/\RelV x u
 |_,_,.cons r .nil=>⟨_,rfl,r⟩
theorem Vals.two:∀{x y:V} {us:List ai},Vals [x,y] us->∃u v,us=[u,v]/\RelV x u/\RelV y v
 |_,_,_,.cons r (.cons q .nil)=>⟨_,_,rfl,r,q⟩
theorem Vals.zero:∀{us:List ai},Vals [] us->us=[]
 |_,.nil=>rfl
theorem Vals.dropLast{xs:List V}{us:List ai}(h:Vals xs us):Vals xs.dropLast us.dropLast:=by
 induction h with
 |nil=>exact .nil
 |cons r t a=>
  cases t with
  |nil=>exact .nil
  |cons q b=>exact .cons r a
theorem Vals.eraseIdx:∀{xs:List V} {us:List ai} (i:Nat),Vals xs us->Vals (xs.eraseIdx i) (us.eraseIdx i)
 |_,_,_,.nil=>.nil
 |_,_,0,.cons _ t=>t
 |_,_,i+1,.cons r t=>.cons r (Vals.eraseIdx i t)
theorem Vals.reverse(h:Vals xs us):Vals xs.reverse us.reverse:=by
 induction h with
 |nil=>exact .nil
 |cons r t a=>rw[gU,gU];exact Vals.append a (.cons r .nil)
theorem Vals.rep(h:Vals xs us):∀k:Nat,Vals (bX k xs).flatten (bX k us).flatten
 |0=>.nil
 |k+1=>by exact Vals.append h (Vals.rep h k)
def Ng{α:Type}(l:List α):l.eraseIdx (l.length- 1)=l.dropLast:=by
 induction l with
 |nil=>rfl
 |cons a r c=>
  cases r with
  |nil=>rfl
  |cons b r=>
   have e:(a::b::r).length- 1=((b::r).length- 1)+1:=by have f:(a::b::r).length=r.length+2:=rfl;have g:(b::r).length=r.length+1:=rfl;omega
   rw[e,List.eraseIdx_cons_succ,c];all_goals rfl
theorem Gi{α:Type}:∀(l:List α) (i:Nat),(l.eraseIdx i).length<=l.length
 |[],_=>aD _
 |_::_,0=>cx _
 |_::r,i+1=>fX (Gi r i)
theorem foldl_rep(iM:List ai):∀(k:Nat) (acc:List ai),
  List.foldl (λa b=>a++b) acc.toArray (bX k iM.toArray)=(acc++(bX k iM).flatten).toArray
 |0,acc=>by simp
 |k+1,acc=>by
  have e:acc.toArray++iM.toArray=(acc++iM).toArray:=by simp
  have e2:(acc++iM)++(bX k iM).flatten=acc++(bX (k+1) iM).flatten:=by rw[List.replicate_succ,List.flatten_cons,bi]
  rw[<-e2,<-foldl_rep iM k _,<-e,List.replicate_succ,List.foldl_cons]
section
variable {s:av} {l:aw} {xs ys:List V}
def Inv.Ur{iM ML:List ai}(I:Inv X cc σ H s)(a:H l=aa (.lst xs))
(e:s.heap.get? l=aa {cls:=.type cr,data:=.seq iM.toArray n})(c:f iM.toArray=ML.toArray)(g:Vals ys ML)(h:ys.length<=aO):
  Inv X cc σ (upd H l (.lst ys)) {s with heap:=s.heap.update l (bY f),toks:=j}:=by have q:=PySem.IsL.update e f;rw[c] at q;refine I.write (by rw[a];exact trivial) (.inl rfl) (λm u hb i=>(cA s.heap _ (b9 hb)).trans i) ⟨_,q⟩ ?_;exact⟨h,ML,_,g,q⟩
def Inv.abL(I:Inv X cc σ H s)(a:Vals ys iM)(c:ys.length<=aO):
  Inv X cc σ (upd H s.heap.objs.size (.lst ys)) {s with heap:=s.heap.push {cls:=.type cr,data:=.seq iM.toArray},toks:=e}:=
 I.laid (λ_ _ q=>aj _ q) (aD _) ⟨c,iM,0,a,aP _ rfl⟩
theorem Inv.fresh(I:Inv X cc σ H s):H s.heap.objs.size=ar:=I.ja.fresh (aD _)
def Inv.Hu(I:Inv X cc σ H s)(a:H l=aa (.lst xs)):xs.length<=aO/\∃(iM:List ai) (n:Nat),Vals xs iM/\xs.length=iM.length/\s.heap.get? l=aa {cls:=.type cr,data:=.seq iM.toArray n}:=by obtain⟨z,iM,n,r,e⟩:=I.ja l _ a;exact⟨z,iM,n,r,r.length,e⟩
def J1(h:n<=aO):gk n=au:=by exact decide_eq_false (by omega)
end
def X8:V->List V->Hp->VK->Prop:=λx a H Q=>∃l xs y,x=.ref l/\a=[y]/\H l=aa (.lst xs)/\xs.length<aO/\Q .non (upd H l (.lst (xs++[y])))
def Gj:MtM X "list.append" X8:=by intro cc s σ H x g v us Q I b c h;obtain⟨l,xs,y,rfl,rfl,a,i,q⟩:=h;cases b;obtain⟨u,rfl,f⟩:=c.one;obtain⟨z,iM,n,r,j,e⟩:=I.Hu a;refine gv bb ⟨_,e,rfl⟩ F.entry_list_append (F.args_list_append_2 _ _) (PySem.list_append l _ n u (by rw[aR];omega)) ⟨e,?_⟩;refine⟨.non,_,I.Ur a e (by simp) (r.append (.cons f .nil)) ?_,rfl,q⟩;rw[aE,dm];omega
def X9:V->List V->Hp->VK->Prop:=λx a H Q=>∃l b xs zs,x=.ref l/\a=[.ref b]/\H l=aa (.lst xs)/\H b=aa (.lst zs)/\xs.length+zs.length<=aO/\Q .non (upd H l (.lst (xs++zs)))
def Ry:MtM X "list.extend" X9:=by
 intro cc s σ H x A v us Q I f g h;obtain⟨l,b,xs,zs,rfl,rfl,a,i,B,q⟩:=h;cases f;obtain⟨u,rfl,j⟩:=g.one;cases j;obtain⟨z,iM,n,r,C,e⟩:=I.Hu a;obtain⟨E,c,m,o,p,e2⟩:=I.Hu i;have w:iM.toArray.size+c.toArray.size<=aO:=by rw[aR,aR];omega
 have y:¬(!iM.toArray.isEmpty&&gk (iM.toArray.size+c.toArray.size))=ag:=by rw[J1 w,Bool.and_false];exact aS
 refine gv F.slot_list_extend ⟨_,e,rfl⟩ F.entry_list_extend (F.args_list_extend_2 _ _)
  (AutoSeq1.list_extend_list_list_0 l _ n b _ m y (by omega) (by omega)) ⟨e,e2,?_⟩
 refine⟨.non,_,I.Ur a e (by simp) (r.append o) ?_,rfl,q⟩;rw[aE];omega
def ags:V->List V->Hp->VK->Prop:=λx a H Q=>∃l xs y,x=.ref l/\a=[]/\H l=aa (.lst xs)/\xs[xs.length- 1]?=aa y/\Q y (upd H l (.lst xs.dropLast))
def abM:MtM X "list.pop" ags:=by
 intro cc s σ H x p v us Q I c f h;obtain⟨l,xs,y,rfl,rfl,b,g,q⟩:=h;cases c;have a:=f.zero;subst a;obtain⟨z,iM,n,r,i,e⟩:=I.Hu b;obtain⟨u,j,m⟩:=r.get g;have o:iM.toArray[iM.toArray.size- 1]?=aa u:=by show iM.toArray[iM.length- 1]?=aa u;rw[<-ck,<-i];exact j
 refine gv F.slot_list_pop ⟨_,e,rfl⟩ F.entry_list_pop (F.args_list_pop_1 _) (MeetsSeq.list_pop_last l iM.toArray n u o (by rw[aR];omega)) ⟨e,?_⟩;refine⟨y,_,I.Ur (ML:=iM.dropLast) b e ?_ r.dropLast ?_,m,q⟩
 .show iM.toArray.eraseIdxIfInBounds (iM.toArray.size- 1)=iM.dropLast.toArray;rw[aR,List.eraseIdxIfInBounds_toArray,Ng]
 .rw[List.length_dropLast];omega
def abN:V->List V->Hp->VK->Prop:=λx a H Q=>∃l xs i k y,x=.ref l/\a=[.int i]/\H l=aa (.lst xs)/\-(2^63)<=i/\i<2^63/\aiW i xs.length=aa k/\xs[k]?=aa y/\Q y (upd H l (.lst (xs.eraseIdx k)))
def Ut:MtM X "list.pop" abN:=by
 intro cc s σ H x B v us Q I b c h;obtain⟨l,xs,i,k,y,rfl,rfl,a,f,g,j,m,q⟩:=h;cases b;obtain⟨u,rfl,o⟩:=c.one;obtain⟨t,rfl⟩:=o;obtain⟨z,iM,n,r,p,e⟩:=I.Hu a;obtain⟨w,hw,A⟩:=r.get m;refine gv F.slot_list_pop ⟨_,e,rfl⟩ F.entry_list_pop (F.args_list_pop_2 _ _)
  (MeetsSeq.list_pop_at l iM.toArray n i t k w (aiK f g) (by rw[aR,<-p];exact j) (by rw[<-ck];exact hw) (by rw[aR];omega)) ⟨e,?_⟩
 refine⟨y,_,I.Ur (ML:=iM.eraseIdx k) a e ?_ (r.eraseIdx k) ?_,A,q⟩
 .show iM.toArray.eraseIdxIfInBounds k=(iM.eraseIdx k).toArray;rw[List.eraseIdxIfInBounds_toArray]
 .have:=Gi xs k;omega
def agt:R2:=λx y H Q=>∃l b xs zs,x=.ref l/\y=.ref b/\H l=aa (.lst xs)/\H b=aa (.lst zs)/\xs.length+zs.length<=aO/\∀p,H p=ar->Q (.ref p) (upd H p (.lst (xs++zs)))
def Uu:uh X (binaryOp .Add) agt:=by
 intro cc s σ H x y v u Q I c f h;obtain⟨l,b,xs,zs,rfl,rfl,g,i,p,q⟩:=h;cases c;cases f;obtain⟨z,iM,n,r,w,e⟩:=I.Hu g;obtain⟨A,a,B,j,m,e2⟩:=I.Hu i;refine PySem.P.add_list e e2 ?_ (by rw[aR,aR];omega);have o:iM.toArray++a.toArray=(iM++a).toArray:=by simp
 rw[o];exact⟨.ref _,_,I.abL (r.append j) (by rw[aE];omega),rfl,q _ I.fresh⟩
def agu:R2:=λx y H Q=>∃l k xs,x=.ref l/\y=.int k/\H l=aa (.lst xs)/\-(2^63)<=k/\k<2^63/\xs.length*k.toNat<=aO/\
 ∀p,H p=ar->Q (.ref p) (upd H p (.lst (bX k.toNat xs).flatten))
def Yb{α:Type}(xs:List α)(k:Nat):(bX k xs).flatten.length=k*xs.length:=by
 induction k with
 |zero=>simp
 |succ k a=>rw[List.replicate_succ,List.flatten_cons,aE,a,Nat.succ_mul,Nat.add_comm]
def abO:uh X (binaryOp .Mult) agu:=by
 intro cc s σ H x y v u Q I i j h;obtain⟨l,k,xs,rfl,rfl,o,p,w,g,q⟩:=h;cases i;obtain⟨t,rfl⟩:=j;obtain⟨z,iM,n,r,A,e⟩:=I.Hu o;have B:iM.toArray.size*k.toNat<=aO:=by rw[aR,<-A];exact g
 have b:¬iM.toArray.size*k.toNat>(2^63- 1)/8:=by
  have:(aO:Nat)<=(2^63- 1)/8:=by decide
  omega
 have c:¬(!fP k)=ag:=by rw[aiK p w];exact aS
 have C:¬gk (iM.toArray.size*k.toNat)=ag:=by rw[J1 B];exact aS
 have f:List.foldl (λE G=>E++G) #[] (bX (if iM.toArray.isEmpty=ag then 0 else k.toNat) iM.toArray)=(bX k.toNat iM).flatten.toArray:=by
  have f0:=λm=>by have:=foldl_rep iM m [];rw[eA] at this;exact this
  rw[f0];cases iM with
  |nil=>simp
  |cons a L=>rw[if_neg (by simp)]
 refine wpAny_binaryOp_repeat_ref (U:=hH) (by decide) ⟨_,e,rfl⟩ (λJ=>ajj J k t) noFill_list_mul F.fills_int_mul F.slot_int_rmul repeat_list F.slot_int_index.lookup
  (gv F.slot_int_rmul (ajj s k t) F.entry_int_rmul (F.args_int_rmul_2 _ _) (int___rmul___int_list k t l iM.toArray n)
   ⟨e,rfl,⟨_,e,rfl⟩,gv F.slot_list_mul ⟨_,e,rfl⟩ F.entry_list_mul (F.args_list_mul_2 _ _) (AutoListH.list___mul___list_int_3 l iM.toArray n k t c b C) ⟨e,?_⟩⟩)
 rw[f];exact⟨.ref _,_,I.abL (r.rep k.toNat) (by rw[Yb,Nat.mul_comm];exact g),rfl,q _ I.fresh⟩
end L2
end
namespace Att
open PySem PySem.W PySem.Calls PyProof.Rows
def BZ:∀(ns:List Int) (c:List ai),WellAll P h c (ns.map WData.int)->ai2 c ns:=by
 intro ns;induction ns with
 |nil=>
  intro c w;cases w;exact .nil
 |cons n ns e=>
  intro c w;cases w with
  |cons a b=>
   cases a;exact .cons _ _ (e _ b)
def Rz{l:OpenLaw}(hn:l.most=aa n)
(g:l.row.toRowW.claim.pre args=ag)(c:WellAll P h e args):
  ∃a i ns,e=[bE a]/\args=[WData.list (ns.map WData.int)]/\h.get? a=aa {cls:=.type cr,data:=.seq i.toArray}/\ai2 i ns/\ns.length<=n:=by
 have m:WShape.hasAll [] args _=ag:=(pre_splitW g).1;have hc:l.pre.holds [] _=ag:=(pre_splitW g).2;obtain⟨d,r,rfl,o,p⟩:=hasAllW_cons m;obtain rfl:=hasAllW_nil p;obtain⟨xs,rfl,q⟩:=hasW_list o;obtain⟨ns,rfl⟩:=items_int q;have s:=by
  have b:=by have b:=(holds_andW hc).1;rw[hn] at b;exact b
  have j:=condW_of b (w_not (w_lt w_lit (w_len_list (w_arg rfl))));first
   | (exact absurd j (by decide))
   | (simp at j;omega)
 cases c with
 |cons u v=>
  cases v;cases u with
  |list w f=>exact⟨_,_,ns,rfl,rfl,w,BZ ns _ f,s⟩
def RA(l:OpenLaw)(args:List WData):l.row.toRowW.claim.post args (.bool ag) args=ag:=
 postW_of
  (by first|rfl|decide|simp[WShape.has])
  (w_eq_bool (w_res rfl) w_lit) rfl
def J2{l:OpenLaw}
(hn:l.most=aa n)(u:d.params.defaults=[])
(call:∀(w:bI) (iZ b:av) (mg h:aX->Option ai) (e:aw) (o:cC) (pm cd doc:ai) (a:aw) (c:List ai) (ns:List Int),
   Ground q i [] v w iZ mg h b.heap->x w b.heap->
   b.heap.get? e=aa o->o.data=.func (docDef d.name d.params d.body d.scope pm cd doc)->b.heap.CodeRec cd d.name->mg d.name=aa (.ref e)->
   b.heap.get? a=aa {cls:=.type cr,data:=.seq c.toArray}->ai2 c ns->ns.length<=n->b.gens=#[]->
   codeAny (model l.prog w) aiu (.call (.ref e) ⟨[.ref a],[]⟩) (λr g=>r=.ok (.ret (.bool ag))/\OldK b.heap g.heap/\g.os=b.os/\fS g.gens) b):
  WalkO q i v x l.row.toRowW d [] (λf c=>PySem.call f c):=by intro w iZ b mg h G Y e o pm cd doc y kV z hd A s j B args C as E H I m J;obtain rfl:y=.none:=Dflts.none s u;obtain rfl:kV=.none:=Dflts.noKw s;obtain⟨a,c,ns,rfl,rfl,p,L,M⟩:=Rz hn E m;refine enter_call (dk (call w iZ b mg h e o pm cd doc a c ns G Y z (fd_plain hd) A j p L M B) λr g N=>?_);obtain⟨rfl,O,Q,T⟩:=N;exact⟨.inl ⟨.bool ag,.bool ag,[],rfl,λ_=>rfl,.bool ag,RA l _,λ_=>⟨ahM,λ_ hm=>(nomatch hm)⟩⟩,O,Q,T⟩
end Att
section
open PySem PySem.Spec PyProof.Rows
namespace L2
theorem Gk:∀{a:List ai} {ns:List Int},ai2 a ns->Vals (ns.map V.int) a
 |_,_,.nil=>.nil
 |_,_,.cons n t h=>.cons ⟨t,rfl⟩ (Gk h)
abbrev KOf{K:bz}{h:aC}(_:K.In h):bz:=K
def iV(s:c5)(j:Nat):c5:=match s with
 |.ClassDef _ _ _ body _ _ _ _ _ _ _=>body.getD j (.Pass ⟨0,0,0,0⟩)
 |_=>.Pass ⟨0,0,0,0⟩
def k9(s:c5):aiB:=match s with
 |.FunctionDef _ a _ _ _ _ _ _ _ _=>a
 |_=>{posonlyargs:=[],args:=[],vararg:=ar,kwonlyargs:=[],kw_defaults:=[],kwarg:=ar,defaults:=[]}
def jq(s:c5):List c5:=match s with
 |.FunctionDef _ _ b _ _ _ _ _ _ _=>b
 |_=>[]
def iT(s:c5):dn:=match s with
 |.FunctionDef _ _ _ _ _ _ sc _ _ _=>sc
 |_=>{kind:=.function,names:=[],isGenerator:=au,isCoroutine:=au}
abbrev uk:XR:=λ_ _ _ _ _ _=>False
abbrev E0:XK:=λ_ _ _=>False
def Uw:Au uk X E0:=λ_ _ _ _ _ _ _ h=>h.elim
structure xC(K:bz)(x qual:aX)(st:c5)(f:aw)(fd:dY):Prop where
 ex:∃(oc:ai) (od:Option aw) (kV doc pm:ai) (an:Option aw) (jd ct:ai) (Rt:Array (Option ai)),
  fd=eu x qual (k9 st) (jq st) (iT st) .none kV doc pm an jd ct/\K.lookup f=aa ⟨oc,od,.func fd,Rt⟩/\W.codeIn K jd qual=ag
 kp:ew K (.ref f)=ag
section
variable {K:bz}
def xC.ok{st:c5}(F:xC K x qual st f fd)(S:kY N b (iT st))(len:∀a H Q E,sp a H Q E->a.length=b.length)
(c:∀(jd:ai) (A:bH) (cv:List ahL) (s:av) (H:Hp) (a:List V) (Q:VK) (E:XK),ka k (A.deeper (dZ qual (iT st) s.heap.objs.size f jd))->sp a H Q E->
   ∃t,y7 (tE uk P w K mg cq N qual (iT st) f jd A cv s H E).F7 (jq st) t/\t {nx:=λ_ e=>Q .non e,rt:=Q} (start N a) H):lP P w K mg cq uk (k+1) f fd b sp:=by obtain⟨oc,od,kV,doc,pm,an,jd,ct,Rt,rfl,lk,g⟩:=F.ex;refine Ue lk g S len λA cv s H a Q E i j=>?_;obtain⟨t,h,q⟩:=c jd A cv s H a Q E i j;exact⟨t,h.F7,q⟩
def xC.binds{st:c5}(F:xC K x qual st f fd)
(h:∀(kV doc pm:ai) (an:Option aw) (jd ct:ai) (us:List ai),us.length=a.length->dI (eu x qual (k9 st) (jq st) (iT st) .none kV doc pm an jd ct) ⟨us,[]⟩=pure (a.zip us)):Binds K fd a []:=by obtain⟨oc,od,kV,doc,pm,an,jd,ct,Rt,rfl,lk,b⟩:=F.ex;exact .all (h kV doc pm an jd ct)
def Ux{st:c5}{kV doc pm jd ct:ai}(l:K.lookup f=aa ⟨oc,od,.func (eu x qual (k9 st) (jq st) (iT st) .none kV doc pm an jd ct),Rt⟩)
(c:W.codeIn K jd qual=ag)(k:ew K (.ref f)=ag):xC K x qual st f (eu x qual (k9 st) (jq st) (iT st) .none kV doc pm an jd ct):=⟨⟨oc,od,kV,doc,pm,an,jd,ct,Rt,rfl,l,c⟩,k⟩
end
def i6(a:ka k A):A.units+1<eB:=d6 (Nat.add_le_add_left (by decide) _) a.units
def kC (H a:Hp):Prop:=∀b o,H b=aa o->a b=aa o
def kC.refl(H:Hp):kC H H:=λ_ _ h=>h
def kC.trans(a:kC H H1)(b:kC H1 e):kC H e:=λc o h=>b c o (a c o h)
def kC.free{H a:Hp}(e:kC H a){l:aw}(h:a l=Option.none):H l=Option.none:=by
 cases q:H l with
 |none=>rfl
 |some o=>
  rw[e l o q] at h;cases h
def kC.seq{K:bz}{H b:Hp}{a:aw}{xs:List V}(e:kC H b)(h:nI K H a xs):nI K b a xs:=by
 rcases h with(h|⟨o,h⟩)|h
 .exact .inl (.inl (e _ _ h))
 .exact .inl (.inr ⟨o,e _ _ h⟩)
 .exact .inr h
section
variable {κ:Type} [DecidableEq κ]
end
end L2
namespace L2
def Fs(env:ahL):List (aX×dJ)->List (aX×aw)->List (aX×aw)
 |[],acc=>acc
 | (n,k)::r,acc=>Fs env r (if(k==eS)=ag then(n,(env.cells.lookup n).getD 0)::acc else acc)
def xD(h:∀x∈scope.names,x.2=.free->∃c,env.cells.lookup x.1=aa c):ain scope env=pure (Fs env scope.names []):=by
 unfold ain;generalize ([])=acc;generalize scope.names=l at h;induction l generalizing acc with
 |nil=>rfl
 |cons x r b=>
  obtain⟨n,k⟩:=x;have b:=λa=>b a λy g=>h y (aB _ g);simp only [ahN,Fs];by_cases f:k=.free
  .obtain⟨c,hc⟩:=h (n,k) aN f;subst f;have e:cellOf env n=pure c:=by unfold cellOf;rw[hc]
   simp only [e,hc];exact b _
  .have:(k==eS)=au:=by simpa using f
   simp only [this];exact b acc
theorem J3:∀(l:List _) (acc:List _),(∀z d,acc.lookup z=aa d->env.cells.lookup z=aa d)->(∀x∈l,x.2=.free->∃c,env.cells.lookup x.1=aa c)->
  (Fs env l acc).lookup y=aa c->env.cells.lookup y=aa c
 |[],acc,ha,_,e=>ha y c e
 | (n,k)::r,acc,ha,h,e=>by
  refine J3 r _ ?_ (λx i=>h x (aB _ i)) e;intro z d a;split at a
  .rename_i g;have g:=by simpa using g
   obtain⟨j,b⟩:=h (n,k) aN g;rw[dO,b] at a;by_cases f:z=n
   .subst f;simp only [beq_self_eq_true] at a;rw[b];exact a
   .have:(z==n)=au:=by simpa using f
    rw[this] at a;exact ha z d a
  .exact ha z d a
theorem C6:∀(l:List _) (acc:List _),((∃c,acc.lookup y=aa c)\/(y,eS)∈l)->∃c,(Fs env l acc).lookup y=aa c
 |[],acc,h=>h.elim (λx=>x) λx=>by cases x
 | (n,k)::r,acc,h=>by
  refine C6 r _ ?_;rcases h with⟨c,hc⟩|h
  .left;split
   .rw[dO];split
    .exact⟨_,rfl⟩
    .exact⟨c,hc⟩
   .exact⟨c,hc⟩
  .rcases aH.mp h with h|h
   .cases h;simp
   .exact .inr h
def B1(X:Cx)(scope:dn)(N:List aX)(C:aw)(ex:List aw)(cc:List (aw×cC))(iZ:av)(je:Hp)(E:ai->av->Prop):Cx where
 prog:=X.prog
 w:=X.w
 K:=X.K
 mg:=X.mg
 cq:=X.cq
 A:=X.A
 N:=N
 iZ:=iZ
 je:=je
 env:=compEnvC scope (Fs X.env scope.names []) C X.env
 cv:=X.stack
 stack:=X.stack
 ex:=ex
 fn:=λ_=>au
 calm:=X.calm
 pn:=X.pn++cc
 xe:=E
def slots(fr:List (Option Nat))(σ:St):St:=fr.map λo=>match o with
 |none=>ar
 |some j=>(σ[j]?).getD ar
def PD(b N:List aX)(fr:List (Option Nat))(scope a:dn):Bool:=
 (N.zip fr).all (λp=>match p.2 with
  |none=>ag
  |some j=>decide (b[j]?=aa p.1)&&decide (scope.names.lookup p.1=aa .free))&&
 scope.names.all (λx=>x.2!=.cell&&(x.2!=.free||(a.names.lookup x.1==aa .cell||a.names.lookup x.1==aa .free))&&(x.2!=.local||decide (scope.names.lookup x.1=aa .local)))&&
 decide (fr.length=N.length)&&(scope.kind==.function)
structure jv(X:Cx)(N:List aX)(fr:List (Option Nat))(scope:dn):Prop where
 cell:∀y∈scope.names,y.2≠.cell
 free:∀y∈scope.names,y.2=.free->X.env.kindOf y.1=aa .cell\/X.env.kindOf y.1=aa .free
 loc:∀y∈scope.names,y.2=.local->scope.names.lookup y.1=aa .local
 slot:∀(i j:Nat) (x:aX),N[i]?=aa x->fr[i]?=aa (aa j)->X.N[j]?=aa x/\scope.names.lookup x=aa .free
 len:fr.length=N.length
 kind:scope.kind=.function
def jv.of(h:PD m9 N fr scope jF=ag)(c:X.N=m9:=by rfl)(e:X.env.scope.names=jF.names:=by rfl):jv X N fr scope:=by
 unfold PD at h;simp only [aZ,decide_eq_true_eq,bU,beq_iff_eq] at h;obtain⟨⟨⟨f,b⟩,g⟩,m⟩:=h;refine⟨λy a=>?_,λy a n=>?_,λy a o=>?_,λi j x e1 e2=>?_,g,m⟩
 .have:=(b y a).1.1;simpa using this
 .have:=(b y a).1.2;unfold ahL.kindOf;rw[e];simpa[n] using this
 .have:=(b y a).2;simpa[o] using this
 .have hm:(x,aa j)∈N.zip fr:=by refine bA (i:=i) ?_;rw[cL];exact⟨e1,e2⟩
  have:=f _ hm;rw[c];simpa using this
def RC{i:Nat}(h:(slots fr σ)[i]?=aa (aa v)):∃j:Nat,fr[i]?=aa (aa j)/\σ[j]?=aa (aa v):=by
 unfold slots at h;rw[bh] at h;cases e:fr[i]? with
 |none=>rw[e] at h;cases h
 |some o=>
  rw[e] at h;cases o with
  |none=>cases h
  |some j=>
   refine⟨j,rfl,?_⟩;have a:=by simpa using h
   cases e2:σ[j]? with
   |none=>rw[e2] at a;cases a
   |some q=>rw[e2] at a;simp at a;rw[a]
theorem ul{scope:dn}{env:ahL}:∀{l:List _} {x:aX} {k:dJ},
  (l.map λ(n,k)=>if(k==eS&&env.scope.kind==.function&&env.kindOf n==aa .cell) then(n,dJ.cell) else(n,k)).lookup x=aa k->
  ∃k',(x,k')∈l/\l.lookup x=aa k'/\(k=k'\/(k'=.free/\k=.cell))
 |[],x,k,h=>by cases h
 | (n,k0)::r,x,k,h=>by
  simp only [bq] at h;by_cases a:x=n
  .subst a;refine⟨k0,aN,by simp,?_⟩;split at h
   .rename_i hc;simp at h;have:=by simp at hc;exact hc.1.1
    exact .inr ⟨this,h.symm⟩
   .simp at h;exact .inl h.symm
  .have hb:(x==n)=au:=by simpa using a
   have b:=by split at h<;>(rw[dO,hb] at h;exact h)
   obtain⟨k',m,c,q⟩:=ul (scope:=scope) b;exact⟨k',aB _ m,by rw[dO,hb];exact c,q⟩
theorem Bx{env:ahL}:∀{l:List _} {x:aX},l.lookup x=aa .free->
  (l.map λ(n,k)=>if(k==eS&&env.scope.kind==.function&&env.kindOf n==aa .cell) then(n,dJ.cell) else(n,k)).lookup x=aa .cell\/
  (l.map λ(n,k)=>if(k==eS&&env.scope.kind==.function&&env.kindOf n==aa .cell) then(n,dJ.cell) else(n,k)).lookup x=aa .free
 |[],x,h=>by cases h
 | (n,k0)::r,x,h=>by
  simp only [bq];by_cases a:x=n
  .subst a;simp at h;subst h;split
   .left;simp
   .right;simp
  .have hb:(x==n)=au:=by simpa using a
   rw[dO,hb] at h;have:=Bx (env:=env) h;split<;>(rw[dO,hb];exact this)
section
variable {X:Cx} {s:av} {scope:dn}
def Inv.Uy(I:Inv X cc σ H s)(c:jv X N fr scope):∀x∈scope.names,x.2=.free->∃c,X.env.cells.lookup x.1=aa c:=λx a b=>I.ok.has x.1 (c.free x a b)
def Inv.aaw(I:Inv X cc σ H s)(c:jv X N fr scope)(h:(Fs X.env scope.names []).lookup y=aa a):X.env.cells.lookup y=aa a:=
 J3 _ [] (λ_ _ e=>by cases e) (I.Uy c) h
def Inv.block(I:Inv X cc σ H s)(c:jv X N fr scope)(g:∀b∈fp,uf X cc H b)(L:∀b∈fp,b<s.heap.objs.size)(hn:U.Ns s.heap.objs.size m)(A:∀b o,s.heap.get? b=aa o->U.get? b=aa o):
  Inv (B1 X scope N s.heap.objs.size fp cc s H E) [] (slots fr σ) H {s with heap:=U,toks:=t'}:=by
 have cg:∀y a,(Fs X.env scope.names []).lookup y=aa a->X.env.cells.lookup y=aa a:=λy a=>I.aaw c;refine⟨⟨I.ok.mod,c.kind,I.ok.glob,I.ok.blt,aD _,λx y a h1 h2=>I.ok.inj x y a (cg x a h1) (cg y a h2),λx hx=>?_,λx a g=>(by cases g),I.ok.hd,I.ok.frames,.inl rfl,λb hb=>?_,I.bs,bG I.ok.Rj I.sz,λb o e hb=>?_,λb hb=>?_,I.stack,I.Pn⟩,
  rfl,I.bare,Un.kept A,⟨m,hn,λi x v e1 e2 e3=>?_⟩,λx a e=>?_,I.ja.fresh (aD _),λx a e=>I.nw x a (cg x a e),λp Y=>?_,I.ja.kept A,?_⟩
 .have Uz:=hx;have:(x,eS)∈scope.names:=by
   rcases Uz with h|h
   .obtain⟨k',J,_,q⟩:=ul (scope:=scope) h;rcases q with q|q
    .subst q;exact absurd rfl (c.cell _ J)
    .rw[<-q.1];exact J
   .obtain⟨k',J,_,q⟩:=ul (scope:=scope) h;rcases q with q|q
    .subst q;exact J
    .cases q.2
  exact C6 scope.names [] (.inr this)
 .obtain⟨f0,B,C,f,M,f5⟩:=g b hb;exact⟨bd (L b hb),λx a e=>M x a (cg x a e)⟩
 .obtain⟨f0,B,C,f,M,f5⟩:=g b hb;rcases f with f|f
  .exact I.ok.JJ b o e f
  .exact absurd (bw (aM e) (bG I.ok.Rj f)) (cD _)
 .obtain⟨f0,B,C,f,M,f5⟩:=g b hb;intro z;rcases aH.mp (I.uc b z) with z|z
  .exact B z
  .exact C z
 .obtain⟨j,B,C⟩:=RC e2;obtain⟨g1,O⟩:=c.slot i j x e1 B;have G:=c.free (x,.free) (PySem.mem_of_lookup O) rfl;have vn:Vis X.env.scope x:=.inr G;obtain⟨m0,_,hl⟩:=I.loc;obtain⟨u,r,lk⟩:=hl j x v g1 C vn;refine⟨u,r,.inr ⟨Bx O,?_⟩⟩;obtain⟨a,ha⟩:=C6 (env:=X.env) (y:=x) scope.names [] (.inr (PySem.mem_of_lookup O));refine⟨a,ha,?_⟩;have Q:=cg x a ha;rcases lk with⟨q,_⟩|⟨_,a',e',z⟩
  .rcases G with w|w<;>(rw[q] at w;cases w)
  .rw[Q] at e';cases e';obtain⟨o,T,hd⟩:=z;exact⟨o,A _ o T,hd⟩
 .obtain⟨v,o,T,hd⟩:=I.cell x a (cg x a e);exact⟨v,o,A _ o T,hd⟩
 .rw[bu] at Y;obtain⟨e,n,ne,nf,d⟩:=I.pin p Y;refine⟨A _ _ e,n,bd (aM e),λz=>?_,d⟩;rcases aH.mp (I.uc p.1 z) with z|z
  .exact ne z
  .exact nf z
 .unfold slots;rw[ao];exact c.len
def Inv.unblock(I:Inv X cc σ H s)(a:∀b∈fp,uf X cc H b)(J:Inv (B1 X scope N C fp cc s H E) j m c e):Inv X cc σ c e:=
 I.CV J.os J.cq J.ja J.bare λb hb=>by obtain⟨f0,f,n,g,h,i⟩:=a b hb;exact⟨g,f,h,i⟩
end
def vF(I:Nat->av->Prop)
(turn:∀n s,I n s->wpAny (model prog w) A (pyNext it) (λr i=>match r with
   |none=>R (.ok .next) i
   |some v=>wpAny (model prog w) A (letOwnedTupleGo target it v) (λ_ f=>wpAny (model prog w) A (assign target env v) (λ_ p=>
     wpAny (model prog w) A (forIn ifs ag λc r=>if r=ag then do let ok<-aiZ c env (eval c env);pure (gY ok) else pure (gY r)) (λok j=>
      if ok=ag then wpAny (model prog w) A (eval elt env) (λx q=>
       wpAny (model prog w) A (call (.builtin "list.append") [acc,x]) (λ_ g=>∃m,m<n/\I m g) (aiE (model prog w) A env λe a=>R (.error e) a) q) (aiE (model prog w) A env λe a=>R (.error e) a) j
      else∃m,m<n/\I m j) (aiE (model prog w) A env λe a=>R (.error e) a) p) (aiE (model prog w) A env λe a=>R (.error e) a) f) (aiE (model prog w) A env λe a=>R (.error e) a) i) (aiE (model prog w) A env λe a=>R (.error e) a) s)
(n:Nat)(h:I n s):
  codeAny (model prog w) A (.compLoop (.ListComp elt [⟨target,iter,ifs,0⟩] scope pos) 0 it acc env) R s:=by
 refine codeAny_loop rfl I (λn s z=>?_) n h;show wpAny _ A _ _ _ s;refine wpAny_noted ?_;rw[compTurn_list];refine ae (ahO (ae (cn (turn n s z) (λr i u=>?_) λ_ _ b=>b)));cases r with
 |none=>exact ay u
 |some v=>
  refine ae (cn u (λ_ f o=>?_) λ_ _ b=>b);refine ae (cn o (λ_ p B=>ae (cn B (λok j y=>?_) λ_ _ b=>b)) λ_ _ b=>b);cases ok with
  |false=>exact ay ⟨rfl,y⟩
  |true=>
   exact ae (ae (cn y (λx q C=>ae (cn C (λ_ g E=>ay (ay ⟨rfl,E⟩)) λ_ _ b=>b)) λ_ _ b=>b))
def PIf (X:Cx)(ifs:List bJ)(t:TT):Prop:=
 ∀(cc:List (aw×cC)) (s:av) (σ:St) (H:Hp) (Q:Bool->Hp->Prop),Inv X cc σ H s->t σ H Q->
  wpAny (model X.prog X.w) X.A (forIn ifs ag λc r=>if r=ag then do let ok<-aiZ c X.env (eval c X.env);pure (gY ok) else pure (gY r)) (TP X cc σ Q) X.xe s
def agz:TT:=λ_ H Q=>Q ag H
def Ye:PIf X [] agz:=λ_ _ _ H _ I h=>wpAny_tests_nil ⟨H,I,h⟩
def Yf(h:PT X c t):PIf X [c] t:=λcc s σ H Q I q=>wpAny_tests_one (h cc s σ H Q I q)
def PF (fr:List (Option Nat))(wi:TI)(g:TG)(tt:TT)(q:TE):TE:=λσ H Q=>wi σ H λJ H1=>∀p,H1 p=ar->
 ∃W:Nat->Nat->List V->St->Hp->Prop,(∃m,W 0 m [] (slots fr σ) (upd H1 p (.lst [])))/\∀i m a σ H,W i m a σ H->
   (J.stop i H/\Q (.ref p) H)\/(J.go i H/\∃N:List V->St->Hp->Prop,(∀c h e,N c h e->∃j,j<m/\W (i+1) j c h e)/\
   ∀x e,J.yld i H x e->g x σ e λf r=>tt f r λb n=>if b=ag then q f n λv o=>o p=aa (.lst a)/\a.length<aO/\N (a++[v]) f (upd o p (.lst (a++[v]))) else N a f n)
section
variable {X:Cx} {scope:dn} {iter:bJ}
def Gm(c:jv X N fr scope)(vH:X.calm=ag)(hi:PI X target iter wi)
(hg:∀C ex cc iZ je,PG (B1 X scope N C ex cc iZ je λ_ _=>False) target g)
(ht:∀C ex cc iZ je,PIf (B1 X scope N C ex cc iZ je λ_ _=>False) ifs tt)
(he:∀C ex cc iZ je,PE (B1 X scope N C ex cc iZ je λ_ _=>False) elt te)
{cc:List (aw×cC)}{s:av}{σ:St}{H:Hp}{Q:VK}{R:ai->aw->ai0->av->Prop}(I:Inv X cc σ H s)(h:PF fr wi g tt te σ H Q)
(kI:∀p C m s' f,Inv X cc σ f s'->uf X cc f C->s'.heap.Ns C m->Q (.ref p) f->R (.ref p) C (.ok .next) s'):
  wpAny (model X.prog X.w) X.A (eval iter X.env) (λx jE=>wpAny (model X.prog X.w) X.A (aiI x) (λit Fp=>wpAny (model X.prog X.w) X.A (newList []) (λacc As=>
   wpAny (model X.prog X.w) X.A (newFunctionEnv scope X.env.globals (Fs X.env scope.names []) [] X.env.qual ar .none (aa X.env)) (λaec Yd=>
    codeAny (model X.prog X.w) X.A (.compStart (.ListComp elt [⟨target,iter,ifs,0⟩] scope pos) 0 it acc {aec with scope:=relabel scope X.env}) (R acc aec.locals) Yd) X.xe As) X.xe Fp) X.xe jE) X.xe s:=by
 refine lB (hi cc s σ H _ I h) λv s1 h1=>lB h1 λitv s2 h2=>?_;obtain⟨it,j,tn,J,G,e,I2,T,st2,f2,h2⟩:=h2;subst e;have aed:∀b∈j,b<s2.heap.objs.size:=λb hb=>by obtain⟨o,e,_⟩:=T.obj _ _ st2 b hb;exact aM e
 have hp0:G s2.heap.objs.size=ar:=I2.fresh;obtain⟨W,⟨m0,w0⟩,turn⟩:=h2 _ hp0;refine ahG ?_;generalize hs3:({s2 with heap:=s2.heap.push {cls:=.type cr,dict:=ar,data:=.seq ([]:List ai).toArray}}:av)=s3;have Y:s3={s2 with heap:=s2.heap.push {cls:=.type cr,data:=.seq ([]:List ai).toArray},toks:=s2.toks}:=hs3.symm;have I3:Inv X cc σ (upd G s2.heap.objs.size (.lst [])) s3:=by rw[Y];exact I2.abL .nil (bD _)
 have sz3:s3.heap.objs.size=s2.heap.objs.size+1:=by rw[Y];exact cj ..
 have nep:∀b∈j,b≠s2.heap.objs.size:=λb hb=>bd (aed b hb);have f3:∀b∈j,uf X cc (upd G s2.heap.objs.size (.lst [])) b:=λb hb=>⟨by rw[ii (nep b hb)];exact(f2 b hb).1,(f2 b hb).2⟩;have st3:tn 0 s3.heap:=T.keep _ _ _ st2 λb hb o e=>by rw[Y];exact aj _ e
 refine wpAny_newFunctionEnv c.cell (by intro y hy;simp at hy) (λh4 hn4 aee=>?_) c.kind;try dsimp only at hn4 aee |-
 have k4:∀b o,s3.heap.get? b=aa o->h4.get? b=aa o:=λb o e=>aee.extBut b o (bd (aM e)) (aj _ e);have aay:∀b∈j,b<s3.heap.objs.size:=λb hb=>by rw[sz3];exact cW (aed b hb)
 have I4:Inv (B1 X scope N s3.heap.objs.size j cc s3 (upd G s2.heap.objs.size (.lst [])) λ_ _=>False) [] (slots fr σ) (upd G s2.heap.objs.size (.lst [])) {s3 with heap:=h4,toks:=s3.toks+([]:List (aX×ai)).length}:=I3.block c f3 aay hn4 k4;have st4:tn 0 h4:=T.keep _ _ _ st3 λb hb o e=>k4 b o e;have MQ:∀{f:Hp},(∀b∈j,f b=ar)->∀b∈j,uf (B1 X scope N s3.heap.objs.size j cc s3 (upd G s2.heap.objs.size (.lst [])) λ_ _=>False) [] f b:=λ{f} hn b hb=>by
  obtain⟨g0,g1,g2,g3,g4,g5⟩:=f3 b hb;refine⟨hn b hb,bd (aay b hb),λz=>?_,.inl hb,λx a e=>g4 x a (I3.aaw c e),λp hp=>?_⟩
  .rcases aH.mp (I3.uc b z) with z|z
   .exact g1 z
   .exact g2 z
  .rw[bu] at hp;exact g5 p hp
 have loop:∀s5:av,s5={s3 with heap:=h4,toks:=s3.toks+([]:List (aX×ai)).length}->codeAny (model X.prog X.w) X.A (.compLoop (.ListComp elt [⟨target,iter,ifs,0⟩] scope pos) 0 (.ref it) (.ref s2.heap.objs.size) (compEnvC scope (Fs X.env scope.names []) s3.heap.objs.size X.env)) (R (.ref s2.heap.objs.size) s3.heap.objs.size) s5:=by
  rintro s5 rfl
  refine vF (λn s'=>∃i ys j9 f,Inv (B1 X scope N s3.heap.objs.size j cc s3 (upd G s2.heap.objs.size (.lst [])) λ_ _=>False) [] j9 f s'/\tn i s'.heap/\(∀b∈j,f b=ar)/\W i n ys j9 f) ?_ m0
   ⟨0,[],slots fr σ,_,I4,st4,λb hb=>(f3 b hb).1,w0⟩
  rintro n s6 ⟨i,ys,M,H6,I6,st6,fr6,w6⟩
  rcases turn i n ys M H6 w6 with⟨stop,q⟩|⟨go,Nx,hN,step⟩
  .refine lB (T.done (B1 X scope N s3.heap.objs.size j cc s3 (upd G s2.heap.objs.size (.lst [])) λ_ _=>False) rfl rfl rfl vH i [] s6 M H6 _ I6 (MQ fr6) st6 stop) λr s7 zq=>?_;obtain⟨hr,I7⟩:=zq;subst hr;obtain⟨m7,n7,_⟩:=I7.loc;exact kI _ _ m7 s7 H6 (I3.unblock f3 I7) (I3.JQ (aD _) I7.free) n7 q
  .refine lB (T.item (B1 X scope N s3.heap.objs.size j cc s3 (upd G s2.heap.objs.size (.lst [])) λ_ _=>False) rfl rfl rfl vH i [] s6 M H6 _ I6 (MQ fr6) st6 go) λr s7 zq=>?_;obtain⟨u,hr,h7⟩:=zq;subst hr;refine lB h7 λ_ s8 zq=>?_;obtain⟨x,H8,I8,r8,y8,st8,fr8⟩:=zq;have I8':=I8.pinned (MQ fr8) (T.obj _ _ st8);refine cn (hg _ _ _ _ _ _ s8 M H8 x u _ I8' r8 (step x H8 y8)) (λ_ s9 ⟨O,H9,I9,q9⟩=>?_) λ_ _ z=>cw z;refine cn (ht _ _ _ _ _ _ s9 O H9 _ I9 q9) (λb s10 ⟨H10,I10,U⟩=>?_) λ_ _ z=>cw z;have again:∀{B:av} {Yg:St} {E:Hp} {ys':List V},Inv (B1 X scope N s3.heap.objs.size j cc s3 (upd G s2.heap.objs.size (.lst [])) λ_ _=>False) ([]++CZ j s8.heap) Yg E B->Nx ys' Yg E->∃m,m<n/\∃i ys j9 f,Inv (B1 X scope N s3.heap.objs.size j cc s3 (upd G s2.heap.objs.size (.lst [])) λ_ _=>False) [] j9 f B/\tn i B.heap/\(∀b∈j,f b=ar)/\W i m ys j9 f:=λ{B Yg E ys'} L n11=>by obtain⟨m',hm,w11⟩:=hN _ _ _ n11;refine⟨m',hm,i+1,ys',Yg,E,L.y9,T.keep _ _ _ st8 λb hb o e=>(L.pin (b,o) (bL _ (bL _ (ug hb e)))).1,λb hb=>?_,w11⟩;obtain⟨o,e,d⟩:=T.obj _ _ st8 b hb;exact(L.pin (b,o) (bL _ (bL _ (ug hb e)))).2.1
   cases b with
   |false=>
    rw[if_neg aS] at U |-;exact again I10 U
   |true=>
    rw[if_pos rfl] at U |-;refine cn (he _ _ _ _ _ _ s10 O H10 _ I10 U) (λu11 B ⟨RD,E,L,r11,agA,agB,q11⟩=>?_) λ_ _ z=>cw z;refine cn (Gj (X:=B1 X scope N s3.heap.objs.size j cc s3 (upd G s2.heap.objs.size (.lst [])) λ_ _=>False) _ B O E (.ref s2.heap.objs.size) [RD] (.ref s2.heap.objs.size) [u11] (λ_ f=>Nx (ys++[RD]) O f) L rfl (.cons r11 .nil) ⟨_,ys,RD,rfl,rfl,agA,agB,q11⟩) (λ_ s12 ⟨_,H12,I12,_,q12⟩=>?_) λ_ _ z=>cw z;exact again I12 q12
 exact codeAny_compStart_list (loop _ rfl) (T.self X.A 0 _ _ _ st4 (loop _ rfl))
def Inv.aaz(I:Inv X cc σ H s)(f:uf X cc H C)(a:bP C s.heap c):Inv X cc σ H {s with heap:=c}:=by obtain⟨f0,h,n,i,j,m⟩:=f;exact I.turned (λb o hb e=>(a.2 b hb).trans e) f0 h i j m
def Yh(c:jv X N fr scope)(a:X.calm=ag)(hi:PI X target iter wi)
(b:∀C ex cc iZ je,PG (B1 X scope N C ex cc iZ je λ_ _=>False) target g)
(ht:∀C ex cc iZ je,PIf (B1 X scope N C ex cc iZ je λ_ _=>False) ifs tt)
(e:∀C ex cc iZ je,PE (B1 X scope N C ex cc iZ je λ_ _=>False) elt te)
(i:∀x,eQ iter X.env x=pure x:=by intro _;rfl):PE X (.ListComp elt [⟨target,iter,ifs,0⟩] scope pos) (PF fr wi g tt te):=by intro cc s σ H Q I h;refine aiR rfl i (xD (I.Uy c)) c.kind c.loc (Gm c a hi b ht e I h λp C m r j n f hn q=>?_);exact⟨m,hn,λu o=>⟨.ref p,j,n.aaz f o,rfl,q⟩⟩
def aef (i:Nat)(te:TE):TS:=λD σ H=>te σ H λv H1=>D.nx (σ.set i (aa v)) H1
def Yi(c:jv X N fr scope)(r:X.calm=ag)(hi:PI X target iter wi)
(u:∀C ex cc iZ je,PG (B1 X scope N C ex cc iZ je λ_ _=>False) target g)
(ht:∀C ex cc iZ je,PIf (B1 X scope N C ex cc iZ je λ_ _=>False) ifs tt)
(w:∀C ex cc iZ je,PE (B1 X scope N C ex cc iZ je λ_ _=>False) elt te)
(z:X.N.Nodup)(A:X.N[i]?=aa y)(B:Loc X.env.scope y)
(b:fj (.ListComp elt [⟨target,iter,ifs,0⟩] scope pos) (aa (.Name y E)) j.line X.env=pure ag:=by rfl)(G:X.fn y=ag\/X.env.scope.names.lookup y=aa .local:=by first|exact .inl rfl|exact .inr rfl|assumption)
(J:∀x,eQ iter X.env x=pure x:=by intro _;rfl):PS X (.Assign [.Name y E] (.ListComp elt [⟨target,iter,ifs,0⟩] scope pos) j) (aef i (PF fr wi g tt te)):=by
 intro cc s σ H D I h;rw[exec_Assign_Name_used _ _ _ _ b];refine ae (ahO (ae ?_));refine ae (lB (aiR rfl J (xD (I.Uy c)) c.kind c.loc
  (Gm c r hi u ht w I h λp C m L M O f hn q=>?_)) (λ_ L Q=>ay (ay Q)))
 refine ajo (Aq (v:=.ref p) O z A B rfl (λs2 T n=>?_) G);obtain⟨a,sb,ha⟩:=n;have o:C≠a:=by
  rcases ha with ha|ha
  .rw[ha];exact f.2.1
  .exactλe=>f.2.2.2.2.1 y a ha e.symm
 exact⟨m,hn.sameBut sb o,λY U=>⟨_,M,T.aaz f U,q⟩⟩
end
def Its(x:aX):It:=⟨λi _=>i<x.cps.size,λi H v a=>a=H/\∃c,x.cps[i]?=aa c/\v=.str ⟨#[c]⟩,λi _=>x.cps.size<=i⟩
def pM:eC x=uaC\/eC x="str_iterator":=by
 unfold eC;split
 .exact .inl rfl
 .exact .inr rfl
def UA{w:bI}{K:bz}(it:aw)(x:aX)(t:ajL):Turn P w K tg (Its x) [it] it (λi h=>h.IsStrIter it (eC x) x t i/\i<=x.cps.size) where
 mem:=by simp
 obj:=λi h st b hb=>by
  have e:b=it:=by simpa using hb
  subst e;obtain⟨⟨o,e,c,d⟩,_⟩:=st;exact⟨o,e,λv z=>by rw[d] at z;cases z⟩
 keep:=λi h a st k=>by obtain⟨⟨o,e,c,d⟩,l⟩:=st;exact⟨⟨o,k it (by simp) o e,c,d⟩,l⟩
 item:=by
  intro X B hw C hc i cc s σ H E I m st f;subst B hw C;obtain⟨f0,n,L,p,q,r⟩:=m it (by simp);rcases pM (x:=x) with e|e
  .rw[e] at st |-;have W:=aiq.strAscii (prog:=X.prog) (w:=X.w) (I.ok.hd hc) it x t;refine W.item i s _ _ f st.1 λv a tk G y g=>?_;obtain⟨c,u,j,rfl⟩:=G;have I1:Inv X cc σ H {s with heap:=a,toks:=tk}:=I.turned (λb o hb e=>g b o (by simpa using hb) e) f0 n p q r;obtain⟨o,e1,c1,J⟩:=id y;exact⟨_,rfl,JR (s:={s with heap:=a,toks:=tk}) e1 c1 J (by decide) ⟨.str ⟨#[c]⟩,H,I1,⟨u,rfl⟩,⟨rfl,c,j,rfl⟩,⟨y,f⟩,λb hb=>(m b hb).1⟩⟩
  .rw[e] at st |-;have W:=aiq.strWide (prog:=X.prog) (w:=X.w) (I.ok.hd hc) it x t;refine W.item i s _ _ f st.1 λv a tk G y g=>?_;obtain⟨c,u,j,rfl⟩:=G;have I1:Inv X cc σ H {s with heap:=a,toks:=tk}:=I.turned (λb o hb e=>g b o (by simpa using hb) e) f0 n p q r;obtain⟨o,e1,c1,J⟩:=id y;exact⟨_,rfl,JR (s:={s with heap:=a,toks:=tk}) e1 c1 J (by decide) ⟨.str ⟨#[c]⟩,H,I1,⟨u,rfl⟩,⟨rfl,c,j,rfl⟩,⟨y,f⟩,λb hb=>(m b hb).1⟩⟩
 done:=by
  intro X B hw C hc i cc s σ H E I m st f;subst B hw C;obtain⟨f0,n,L,p,q,r⟩:=m it (by simp);have f:x.cps.size<=i:=f;obtain⟨st,l⟩:=st;have hi:i=x.cps.size:=by omega
  subst hi;rcases pM (x:=x) with e|e
  .rw[e] at st;exact(aiq.strAscii (w:=X.w) (I.ok.hd hc) it x t).done s _ _ st λa tk g=>⟨rfl,I.turned (λb o hb e=>g b o (by simpa using hb) e) f0 n p q r⟩
  .rw[e] at st;exact(aiq.strWide (w:=X.w) (I.ok.hd hc) it x t).done s _ _ st λa tk g=>⟨rfl,I.turned (λb o hb e=>g b o (by simpa using hb) e) f0 n p q r⟩
 self:=λA i s Q E st h=>by
  obtain⟨st,l⟩:=st;rcases pM (x:=x) with e|e
  .rw[e] at st;exact wpAny_pyIter_striter_ascii st h
  .rw[e] at st;exact wpAny_pyIter_striter_wide st h
section
variable {X:Cx}
def UB(hc:X.calm=ag):ny X (.builtin "all") (λxs H Q=>∃(a:aw) (bs:List Bool),xs=[V.ref a]/\nI X.K H a (bs.map V.bl)/\Q (.bl (bs.all id)) H):=by
 intro cc s σ H xs us Q I r h;obtain⟨a,bs,rfl,m,q⟩:=h;obtain⟨u,rfl,c⟩:=vals1 r;cases c;obtain⟨iM,f,p,L⟩:=I.list m;have w:X.A.in1.handled=ar:=I.ok.hd hc;refine call_all_walk (dL p.isList ?_);have y:a<s.heap.objs.size:=by obtain⟨o,n,e,_⟩:=p;exact aM e
 have z:iM.length=bs.length:=by have:=f.length;rw[ao] at this;exact this.symm
 have B:∀(i:Nat) (v:ai),iM[i]?=aa v->v=.bool (bs.getD i au):=λi v e=>by
  have hi:i<iM.length:=(ak.mp e).1;have hb:(bs.map V.bl)[i]?=aa (V.bl (bs.getD i au)):=by rw[bh,bv,ax (by omega)];rfl
  obtain⟨u,g,c⟩:=f.get hb;rw[e] at g;cases g;exact c
 refine⟨s.heap.objs.size,_,_,_,_,_,λi=>bs.getD i au,rfl,aiq.list w s.heap.objs.size a (bd y) iM.toArray,⟨⟨_,aP _ rfl,rfl,rfl⟩,p.isList.push _⟩,λi v M N O C E=>?_,λT tk G=>?_⟩
 .have:=B i v (by simpa using C);subst this;exact cz E
 .have e:(cy iM.toArray.size).all (λi=>bs.getD i au)=bs.all id:=by
   rw[aR,z];have key:∀l:List Bool,(cy l.length).all (λi=>l.getD i au)=l.all id:=by
    intro l;rw[d9];simp only [bU,gG,id];constructor
    .intro h x J;obtain⟨i,hi,rfl⟩:=List.mem_iff_getElem.mp J;have:=h i hi
     rwa [bv,ax hi] at this
    .intro h i hi;rw[bv,ax hi];exact h _ (fQ hi)
   exact key bs
  rw[e];refine⟨.bl _,H,I.kept (t':=tk) λb o j=>?_,rfl,q⟩;exact G b o (by simpa using bd (aM j)) (aj _ j)
def RE:uh X (compareOp .LtE) (λx y H Q=>∃i j,x=.str i/\y=.str j/\Q (.bl (!decide (j.cps.toList<i.cps.toList))) H):=by intro cc s σ H x y v u Q I a b h;obtain⟨i,j,rfl,rfl,q⟩:=h;obtain⟨t,rfl⟩:=a;obtain⟨c,rfl⟩:=b;exact P.le_str (jy I q rfl)
def abS:Xk X (λx lo hi H Q=>∃z,x=.str z/\z.length<=aO/\Q (.str (Txt.slice z lo hi)) H):=by
 intro cc s σ H x v c e lo hi sl Q I f g pl a h;obtain⟨z,rfl,m,q⟩:=h;obtain⟨t,rfl⟩:=f;have key:∀(l u:Option _),partValue l=c->partValue u=e->l.map (·.1)=lo->u.map (·.1)=hi->wpAny (model X.prog X.w) X.A (ah5 (.str z t) (.ref sl)) (EP X cc σ Q) X.xe s:=by
  rintro l u rfl rfl rfl rfl
  refine wpAny_getItem_str_slice (st:=ar) g rfl (post_val_or_str ⟨bG (Txt.slice_le z _ _) m,λn k=>⟨.str _,H,I.tok k,⟨_,rfl⟩,q⟩⟩)
 refine⟨hJ,_,F.slot_str_getitem.lookup,aji _ _ _,?_⟩;cases pl with
 |none=>
  cases a with
  |none=>exact key ar ar rfl rfl rfl rfl
  |int j u=>exact key ar (aa (j,u)) rfl rfl rfl rfl
 |int i b=>
  cases a with
  |none=>exact key (aa (i,b)) ar rfl rfl rfl rfl
  |int j u=>exact key (aa (i,b)) (aa (j,u)) rfl rfl rfl rfl
end
def iw (K:bz)(mg:aX->Option ai)(x:aX)(st:c5):Prop:=∃f fd,xC K x x st f fd/\mg x=aa (.ref f)
def nz (P:bc)(w:bI)(K:bz)(mg:aX->Option ai)(cq:aC)(k:Nat)(x:aX)(a:List aX)(sp:Sp):Prop:=
 ∃f fd,mg x=aa (.ref f)/\ew K (.ref f)=ag/\Binds K fd a []/\lP P w K mg cq uk k f fd a sp
def UC{K:bz}(X:K.In h)(G:h.Ns bf mg){st:c5}{kV doc pm jd ct:ai}
(a:dy K bf x=aa (aa (.ref f)))(l:K.lookup f=aa ⟨oc,od,.func (eu x x (k9 st) (jq st) (iT st) .none kV doc pm an jd ct),Rt⟩)
(c:W.codeIn K jd x=ag)(k:ew K (.ref f)=ag):iw K mg x st:=⟨f,_,Ux l c k,dV X G a⟩
section
variable {K:bz}
def iw.has{st:c5}(F:iw K mg x st)(S:kY N b (iT st))
(hb:∀(kV doc pm:ai) (an:Option aw) (jd ct:ai) (us:List ai),us.length=b.length->dI (eu x x (k9 st) (jq st) (iT st) .none kV doc pm an jd ct) ⟨us,[]⟩=pure (b.zip us))
(len:∀a H Q E,sp a H Q E->a.length=b.length)
(c:∀(f:aw) (jd:ai) (A:bH) (cv:List ahL) (s:av) (H:Hp) (a:List V) (Q:VK) (E:XK),ka k (A.deeper (dZ x (iT st) s.heap.objs.size f jd))->sp a H Q E->
   ∃t,y7 (tE uk P w K mg cq N x (iT st) f jd A cv s H E).F7 (jq st) t/\t {nx:=λ_ e=>Q .non e,rt:=Q} (start N a) H):nz P w K mg cq (k+1) x b sp:=by obtain⟨f,fd,F,m⟩:=F;exact⟨f,fd,m,F.kp,F.binds hb,F.ok S len (c f)⟩
theorem nz.mono(h:nz P w K mg cq j x a sp)(c:j<=k):nz P w K mg cq k x a sp:=by obtain⟨f,fd,m,kp,b,F⟩:=h;exact⟨f,fd,m,kp,b,F.mono c⟩
end
section
variable {X:Cx} {k:Nat} {es:List bJ} {t:TA}
def aeg(h:nz X.prog X.w X.K X.mg X.cq k x ps sp)(a:ka k X.A)(ha:PA X (e::es) t)(c:Gl X x:=by rfl)(g:(x==(fy:aX))=au:=by decide)
(i:bg (e::es) X.env=(au,eval e X.env)::bg es X.env:=by rfl)(j:(du pos (bg es X.env)).any (·.1)=au:=by rfl):
  PE X (.Call (.Name x p) (e::es) [] pos) (aar sp [] E0 t):=by obtain⟨f,fd,m,kp,b,F⟩:=h;exact XU F a c m kp b .nil Uw ha g i j
end
def C9(h:H p=ar):kC H (upd H p o):=λb u e=>by rw[ii (j5 e h)];exact e
section
variable {K:bz}
def iw.hasB{st:c5}(F:iw K mg x st)(c:jq st=body)(es:iT st=scope)(S:kY N b scope)
(hb:∀(kV doc pm:ai) (an:Option aw) (jd ct:ai) (us:List ai),us.length=b.length->dI (eu x x (k9 st) (jq st) (iT st) .none kV doc pm an jd ct) ⟨us,[]⟩=pure (b.zip us))
(len:∀a H Q E,sp a H Q E->a.length=b.length)
(e:∀(f:aw) (jd:ai) (A:bH) (cv:List ahL) (s:av) (H:Hp) (a:List V) (Q:VK) (E:XK),ka k (A.deeper (dZ x scope s.heap.objs.size f jd))->sp a H Q E->
   ∃t,y7 (tE uk P w K mg cq N x scope f jd A cv s H E).F7 body t/\t {nx:=λ_ g=>Q .non g,rt:=Q} (start N a) H):nz P w K mg cq (k+1) x b sp:=by subst c es;exact F.has S hb len e
end
structure QE(X:Cx)(e:bJ)(t:TE):Prop where p:PE X e t
structure QT(X:Cx)(e:bJ)(t:TT):Prop where p:PT X e t
structure QW(X:Cx)(e:bJ)(t:TT):Prop where p:PW X e t
structure QA(X:Cx)(es:List bJ)(t:TA):Prop where p:PA X es t
structure QS(X:Cx)(st:c5)(t:TS):Prop where p:PS X st t
structure QB(X:Cx)(st:List c5)(t:TS):Prop where p:y7 X st t
structure QG(X:Cx)(tg:bJ)(g:TG):Prop where p:PG X tg g
structure QGs(X:Cx)(tg:List bJ)(g:TGs):Prop where p:TZ X tg g
structure QI(X:Cx)(tg iter:bJ)(wi:TI):Prop where p:PI X tg iter wi
structure QF(X:Cx)(ifs:List bJ)(t:TT):Prop where p:PIf X ifs t
structure QO(X:Cx)(e:Option bJ)(t:TO):Prop where p:PO X e t
structure ROp(X:Cx)(op:aiH)(r:R2):Prop where p:uh X (binaryOp op) r
structure ahu(X:Cx)(op:CmpOp)(r:R2):Prop where p:uh X (compareOp op) r
structure RUn(X:Cx)(op:UnaryOp)(r:V->Hp->VK->Prop):Prop where p:UnR X (unaryOp op) r
structure RB(X:Cx)(id:String)(r:List V->Hp->VK->Prop):Prop where p:ny X (.builtin id) r
structure RTy(X:Cx)(T:String)(r:List V->Hp->VK->Prop):Prop where p:ny X (.type T) r
structure RIx(X:Cx)(r:R2):Prop where p:IxR X r
structure RSl(X:Cx)(r:V->Option Int->Option Int->Hp->VK->Prop):Prop where p:Xk X r
structure RMt(X:Cx)(id:String)(r:V->List V->Hp->VK->Prop):Prop where p:MtR X id r
section
variable {es rest:List bJ} {t:TS}
end
section
variable {K:bz}
def iw.abT{st:c5}(F:iw K mg x st)(c:jq st=body)(es:iT st=scope)(S:kY N b scope)
(hb:∀(kV doc pm:ai) (an:Option aw) (jd ct:ai) (us:List ai),us.length=b.length->dI (eu x x (k9 st) (jq st) (iT st) .none kV doc pm an jd ct) ⟨us,[]⟩=pure (b.zip us))
(len:∀a H Q E,sp a H Q E->a.length=b.length)
(e:∀(f:aw) (jd:ai) (A:bH) (cv:List ahL) (s:av) (H:Hp) (a:List V) (Q:VK) (E:XK),ka k (A.deeper (dZ x scope s.heap.objs.size f jd))->sp a H Q E->
   ∃t,QB (tE uk P w K mg cq N x scope f jd A cv s H E).F7 body t/\t {nx:=λ_ g=>Q .non g,rt:=Q} (start N a) H):nz P w K mg cq (k+1) x b sp:=
 F.hasB c es S hb len λf jd A cv s H a Q E i h=>let⟨t,q,z⟩:=e f jd A cv s H a Q E i h;⟨t,q.p,z⟩
def xC.abU{st:c5}(F:xC K x x st f fd)
(h:∀(kV doc pm:ai) (an:Option aw) (jd ct:ai) (u:ai),dI (eu x x (k9 st) (jq st) (iT st) .none kV doc pm an jd ct) ⟨[u],[]⟩=pure [(y,u)]):∀(s:av) (v:ai),air s fd ⟨[v],[]⟩ [(y,v)]:=by obtain⟨oc,od,kV,doc,pm,an,jd,ct,Rt,rfl,lk,a⟩:=F.ex;exactλs v=>.of_eq (h kV doc pm an jd ct v)
end
open PySem.W
def zm(c:aw)(q:aX):HO:=.ext λh=>h.CodeRec (.ref c) q
structure PH(q:aX)(H:Hp)(ps:Array ai):Prop where
 ok:gw ps.toList
 cs:∀pos v,ahY pos ps.toList=aa v->∃c,v=.ref c/\H c=aa (zm c q)
def u8 (P:aw)(q:aX)(H a:Hp):Prop:=(∃b,a P=aa (.y6 b)/\PH q a b)/\(a=H\/∃c b,H c=ar/\c≠P/\a=upd (upd H c (zm c q)) P (.y6 b))
end L2
namespace L3
open L2
@[reducible] def vn:Option HO->Option HO
 |some (.y6 _)=>ar
 |some (.ext _)=>ar
 |o=>o
def UD(h:vn x=aa o):x=aa o/\vn (aa o)=aa o:=by
 cases x with
 |none=>cases h
 |some y=>cases y<;>first|(cases h;done)|(cases h;exact⟨rfl,rfl⟩)
def Db(h:vn x≠ar):x≠ar:=λz=>h (by rw[z])
def Yk:List aX:=[ic]
def abV(x:aX):aX:=x++".<locals>."++kz
def Tb (K:bz)(H:Hp):Prop:=∀x∈Yk,∀c P,W.tabIn K x=aa (c,P)->∃a,H P=aa (.y6 a)/\PH (abV x) H a
def Tb.imp{K:bz}(t:Tb K H)(h:∀b o,H b=aa o->vn (aa o)=ar->a b=aa o):Tb K a:=λx f c P e=>by obtain⟨g,i,j,m⟩:=t x f c P e;refine⟨g,h _ _ i rfl,j,λpos v n=>?_⟩;obtain⟨p,e1,e2⟩:=m pos v n;exact⟨p,e1,h _ _ e2 rfl⟩
def Tb.same{K:bz}(t:Tb K H)(h:kC H a):Tb K a:=t.imp λb o e _=>h b o e
theorem Tb.upd{K:bz}(t:Tb K H)(h:vn (H p)≠ar\/H p=ar):Tb K (upd H p x):=t.imp λb o e v=>by
 rw[ii λz=>?_]
 .exact e
 .subst z;rcases h with h|h
  .rw[e] at h;exact h v
  .rw[h] at e;cases e
inductive D where
 |non|bl (b:Bool)|int (i:Int)|str (x:aX)|ty (n:String)
 |tup (ds:List D)|lst (ds:List D)|kE (ks:List Key) (ds:List D)
 |ins (C:aw) (ns:List aX) (ds:List D)|rS (ns:List Int)|loc (k:Nat)|cls (C:aw)|exc (C:aw) (ns:List aX) (ds:List D)
inductive OD where
 |lst (ds:List D)|kE (ks:List Key) (ds:List D)|ins (C:aw) (ns:List aX) (ds:List D)|fz (k ep:Nat) (ks:List Key) (ds:List D)
abbrev Ms:=List (Option OD)
mutual
def Rep (K:bz) (α:List aw) (H:Hp):D->V->Prop
 |.non,v=>v=.non
 |.bl b,v=>v=.bl b
 |.int i,v=>v=.int i
 |.str x,v=>v=.str x
 |.ty n,v=>v=.ty n
 |.tup ds,v=>∃a c,v=.ref a/\xQ K H a c/\hZ K α H ds c
 |.lst ds,v=>∃a c,v=.ref a/\H a=aa (.lst c)/\hZ K α H ds c
 |.rS ns,v=>∃a,v=.ref a/\nI K H a (ns.map V.int)
 |.kE e ds,v=>∃a c,v=.ref a/\Rd H a (.dK (e.zip c))/\e.length=ds.length/\hZ K α H ds c
 |.ins C ns ds,v=>∃a f c,v=.ref a/\H a=aa (.ins C f (ns.zip c))/\ns.length=ds.length/\hZ K α H ds c
 |.loc k,v=>∃a,α[k]?=aa a/\v=.ref a
 |.cls C,v=>v=.ref C
 |.exc C ns ds,v=>∃a c,v=.ref a/\H a=aa (.xc C (ns.zip c))/\ns.length=ds.length/\hZ K α H ds c
def hZ (K:bz) (α:List aw) (H:Hp):List D->List V->Prop
 |[],c=>c=[]
 |d::ds,c=>∃v r,c=v::r/\Rep K α H d v/\hZ K α H ds r
end
def nA{K:bz}(e:kC H b)(h:xQ K H a xs):xQ K b a xs:=by
 rcases h with(h|⟨o,h⟩)|h
 .exact .inl (.inl (e _ _ h))
 .exact .inl (.inr ⟨o,e _ _ h⟩)
 .exact .inr h
def md{K:bz}(e:kC H b)(h:nI K H a xs):nI K b a xs:=by
 rcases h with(h|⟨o,h⟩)|h
 .exact .inl (.inl (e _ _ h))
 .exact .inl (.inr ⟨o,e _ _ h⟩)
 .exact .inr h
def Hw(e:kC H b)(h:Rd H a u):Rd b a u:=by
 rcases h with h|⟨o,h⟩
 .exact .inl (e _ _ h)
 .exact .inr ⟨o,e _ _ h⟩
def PK(p:α <+: β){k:Nat}{a:aw}(h:α[k]?=aa a):β[k]?=aa a:=by obtain⟨t,rfl⟩:=p;have:=(ak.mp h).1;rw[aY this];exact h
mutual
theorem Rep.mono {K:bz} {α β:List aw} {H c:Hp} (p:α <+: β) (e:kC H c):∀(d:D) (v:V),Rep K α H d v->Rep K β c d v
 |.non,v,h=>by unfold Rep at h |-;exact h
 |.bl _,v,h=>by unfold Rep at h |-;exact h
 |.int _,v,h=>by unfold Rep at h |-;exact h
 |.str _,v,h=>by unfold Rep at h |-;exact h
 |.ty _,v,h=>by unfold Rep at h |-;exact h
 |.tup ds,v,h=>by unfold Rep at h |-;obtain⟨a,b,r,q,z⟩:=h;exact⟨a,b,r,nA e q,hZ.mono p e ds b z⟩
 |.lst ds,v,h=>by unfold Rep at h |-;obtain⟨a,b,r,q,z⟩:=h;exact⟨a,b,r,e _ _ q,hZ.mono p e ds b z⟩
 |.rS ns,v,h=>by unfold Rep at h |-;obtain⟨a,r,q⟩:=h;exact⟨a,r,md e q⟩
 |.kE g ds,v,h=>by unfold Rep at h |-;obtain⟨a,b,r,q,l,z⟩:=h;exact⟨a,b,r,Hw e q,l,hZ.mono p e ds b z⟩
 |.ins C ns ds,v,h=>by unfold Rep at h |-;obtain⟨a,f,b,r,q,l,z⟩:=h;exact⟨a,f,b,r,e _ _ q,l,hZ.mono p e ds b z⟩
 |.exc C ns ds,v,h=>by unfold Rep at h |-;obtain⟨a,b,r,q,l,z⟩:=h;exact⟨a,b,r,e _ _ q,l,hZ.mono p e ds b z⟩
 |.loc k,v,h=>by unfold Rep at h |-;obtain⟨a,r,q⟩:=h;exact⟨a,PK p r,q⟩
 |.cls _,v,h=>by unfold Rep at h |-;exact h
theorem hZ.mono {K:bz} {α β:List aw} {H c:Hp} (p:α <+: β) (e:kC H c):∀(ds:List D) (b:List V),hZ K α H ds b->hZ K β c ds b
 |[],b,h=>by unfold hZ at h |-;exact h
 |d::ds,b,h=>by unfold hZ at h |-;obtain⟨v,r,q,z,y⟩:=h;exact⟨v,r,q,Rep.mono p e d v z,hZ.mono p e ds r y⟩
end
section
variable {K:bz}
theorem hZ.length:∀(ds:List D) (a:List V),hZ K α H ds a->ds.length=a.length
 |[],a,h=>by rw[h];rfl
 |d::ds,a,h=>by obtain⟨v,r,rfl,_,y⟩:=h;rw[aU,aU,hZ.length ds r y]
theorem hZ.get:∀(ds:List D) (a:List V) (i:Nat) (d:D),hZ K α H ds a->ds[i]?=aa d->∃v,a[i]?=aa v/\Rep K α H d v
 |[],a,i,d,h,e=>by simp at e
 |x::ds,a,0,d,h,e=>by obtain⟨v,r,rfl,z,_⟩:=h;simp at e;subst e;exact⟨v,rfl,z⟩
 |x::ds,a,i+1,d,h,e=>by obtain⟨v,r,rfl,_,y⟩:=h;obtain⟨u,b,c⟩:=hZ.get ds r i d y (by simpa using e);exact⟨u,by simpa using b,c⟩
theorem hZ.get':∀(ds:List D) (a:List V) (i:Nat) (v:V),hZ K α H ds a->a[i]?=aa v->∃d,ds[i]?=aa d/\Rep K α H d v
 |[],a,i,d,h,e=>by subst h;simp at e
 |x::ds,a,0,d,h,e=>by obtain⟨v,r,rfl,z,_⟩:=h;simp at e;subst e;exact⟨x,rfl,z⟩
 |x::ds,a,i+1,d,h,e=>by obtain⟨v,r,rfl,_,y⟩:=h;obtain⟨u,b,c⟩:=hZ.get' ds r i d y (by simpa using e);exact⟨u,by simpa using b,c⟩
theorem hZ.append:∀(ds es:List D) (a us:List V),hZ K α H ds a->hZ K α H es us->hZ K α H (ds++es) (a++us)
 |[],es,a,us,h,g=>by subst h;exact g
 |d::ds,es,a,us,h,g=>by obtain⟨v,r,rfl,z,y⟩:=h;exact⟨v,_,rfl,z,hZ.append ds es r us y g⟩
def hZ.nil:hZ K α H [] []:=by rfl
def hZ.cons(q:Rep K α H d v)(h:hZ K α H ds a):hZ K α H (d::ds) (v::a):=by exact⟨v,a,rfl,q,h⟩
def hZ.one(q:Rep K α H d v):hZ K α H [d] [v]:=hZ.cons q hZ.nil
theorem hZ.take:∀(n:Nat) (ds:List D) (a:List V),hZ K α H ds a->hZ K α H (ds.take n) (a.take n)
 |0,ds,a,h=>by simpa using hZ.nil
 |n+1,[],a,h=>by subst h;simpa using hZ.nil
 |n+1,d::ds,a,h=>by obtain⟨v,r,rfl,z,y⟩:=h;exact hZ.cons z (hZ.take n ds r y)
theorem hZ.drop:∀(n:Nat) (ds:List D) (a:List V),hZ K α H ds a->hZ K α H (ds.drop n) (a.drop n)
 |0,ds,a,h=>h
 |n+1,[],a,h=>by subst h;simpa using hZ.nil
 |n+1,d::ds,a,h=>by obtain⟨v,r,rfl,z,y⟩:=h;exact hZ.drop n ds r y
theorem hZ.set{d:D}{v:V}(q:Rep K α H d v):∀(i:Nat) (ds:List D) (a:List V),hZ K α H ds a->hZ K α H (ds.set i d) (a.set i v)
 |i,[],a,h=>by unfold hZ at h;subst h;simpa using hZ.nil
 |0,x::ds,a,h=>by unfold hZ at h;obtain⟨u,r,rfl,z,y⟩:=h;exact hZ.cons q y
 |i+1,x::ds,a,h=>by unfold hZ at h;obtain⟨u,r,rfl,z,y⟩:=h;exact hZ.cons z (hZ.set q i ds r y)
theorem hZ.of_map{β:Type}(f:β->D)(g:β->V)(h:∀a,Rep K α H (f a) (g a)):∀l:List β,hZ K α H (l.map f) (l.map g)
 |[]=>hZ.nil
 |a::l=>hZ.cons (h a) (hZ.of_map f g h l)
theorem hZ.rep(h:hZ K α H ds a):∀k:Nat,hZ K α H (bX k ds).flatten (bX k a).flatten
 |0=>hZ.nil
 |k+1=>by exact hZ.append _ _ _ _ h (hZ.rep h k)
theorem hZ.at(h:hZ K α H ds a)(e:Fk ds i=aa d):∃v,Fk a i=aa v/\Rep K α H d v:=by
 unfold Fk at e |-;rw[<-hZ.length _ _ h];cases q:Xl _ i with
 |none=>rw[q] at e;cases e
 |some j=>
  rw[q] at e;exact hZ.get ds a j d h e
def jB:Rep K α H (.int i) (.int i):=by rfl
def jG:Rep K α H (.bl i) (.bl i):=by rfl
def qr:Rep K α H (.str i) (.str i):=by rfl
def Yl:Rep K α H (.cls C) (.ref C):=by rfl
def qt:Rep K α H .non .non:=by rfl
def abW:Rep K α H (.ty n) (.ty n):=by rfl
end
def mw(A:List aw)(H:Hp):Hp:=λb=>if b∈A then ar else vn (H b)
def l7(h:p∉A):mw A H p=vn (H p):=by unfold mw;rw[if_neg h]
def qu(h:p∈A):mw A H p=ar:=by unfold mw;rw[if_pos h]
def qM(h:mw A H p=aa o):p∉A/\H p=aa o/\vn (aa o)=aa o:=by
 by_cases z:p∈A
 .rw[qu z] at h;cases h
 .rw[l7 z] at h;exact⟨z,UD h⟩
def iW(h:mw A H p=aa o):p∉A/\H p=aa o:=⟨(qM h).1,(qM h).2.1⟩
def iJ:kC (mw A H) H:=λb o e=>(iW e).2
def kt(h:p∉A)(e:H p=aa o)(v:vn (aa o)=aa o):mw A H p=aa o:=by rw[l7 h,e];exact v
def mL(h:mw A H b=aa o)(hb:b∉B)(e:a b=aa o):mw B a b=aa o:=kt hb e (qM h).2.2
def Gn(h:kC H a):kC (mw A H) (mw A a):=λb o e=>mL e (iW e).1 (h b o (iW e).2)
def lv:List aw->Ms->List aw
 |a::α,aa _::M=>a::lv α M
 |_::α,ar::M=>lv α M
 |_,_=>[]
theorem nL:∀{α:List aw} {M:Ms} {a:aw},a∈lv α M↔∃(k:Nat) (o:OD),α[k]?=aa a/\M[k]?=aa (aa o)
 |[],M,a=>by cases M<;>simp[lv]
 |b::α,[],a=>by simp[lv]
 |b::α,aa x::M,a=>by
  simp only [lv,aH,nL];constructor
  .rintro(rfl|⟨k,o,c,e⟩)
   .exact⟨0,x,rfl,rfl⟩
   .exact⟨k+1,o,by simpa using c,by simpa using e⟩
  .rintro⟨k,o,c,e⟩
   cases k with
   |zero=>left;simpa using c.symm
   |succ k=>right;exact⟨k,o,by simpa using c,by simpa using e⟩
 |b::α,ar::M,a=>by
  simp only [lv,nL];constructor
  .rintro⟨k,o,c,e⟩
   exact⟨k+1,o,by simpa using c,by simpa using e⟩
  .rintro⟨k,o,c,e⟩
   cases k with
   |zero=>simp at e
   |succ k=>exact⟨k,o,by simpa using c,by simpa using e⟩
abbrev jU(F α:List aw)(M:Ms)(H:Hp):Hp:=mw (lv α M++F) H
def B3 (K:bz)(α:List aw)(e H:Hp):OD->aw->Prop
 |.lst ds,a=>∃b,H a=aa (.lst b)/\hZ K α e ds b
 |.kE c ds,a=>∃b,H a=aa (.dK (c.zip b))/\c.length=ds.length/\hZ K α e ds b
 |.ins C ns ds,a=>∃f b,H a=aa (.ins C f (ns.zip b))/\ns.length=ds.length/\hZ K α e ds b
 |.fz k g c ds,a=>α[k]?=aa a/\∃b,H a=aa (.dE g (c.zip b))/\c.length=ds.length/\hZ K α e ds b
structure OK(K:bz)(F α:List aw)(H:Hp)(M:Ms):Prop where
 ml:α.length=M.length
 nd:α.Nodup
 fr:∀a∈F,a∉α/\vn (H a)≠ar
 al:∀a∈α,vn (H a)≠ar
 own:∀(k:Nat) o,M[k]?=aa (aa o)->∃a,α[k]?=aa a/\B3 K α (jU F α M H) H o a
 tb:Tb K H
structure Ext(F α:List aw)(H:Hp)(M:Ms)(iR:List aw)(H':Hp)(M':Ms):Prop where
 pre:α <+: iR
 same:kC (jU F α M H) (jU F iR M' H')
 fr:∀a∈F,H' a=H a
abbrev nB:=List (Option D)
structure R(K:bz)(F α:List aw)(H:Hp)(σ:L2.St)(δ:nB)(M:Ms):Prop where
 ok:OK K F α H M
 len:σ.length=δ.length
 sl:∀(i:Nat) d,δ[i]?=aa (aa d)->∃v,σ[i]?=aa (aa v)/\Rep K α (jU F α M H) d v
section
variable {K:bz} {α:List aw} {M:Ms} {σ:L2.St} {δ:nB}
theorem Ext.refl:Ext F α H M α H M:=⟨aV _,kC.refl _,λ_ _=>rfl⟩
theorem Ext.trans(e:Ext F α H M iR H' M')(e':Ext F iR H' M' UE H'' Cs):Ext F α H M UE H'' Cs:=
 ⟨e.pre.trans e'.pre,e.same.trans e'.same,λa h=>(e'.fr a h).trans (e.fr a h)⟩
def Ext.rep(e:Ext F α H M iR H' M')(h:Rep K α (jU F α M H) d v):Rep K iR (jU F iR M' H') d v:=Rep.mono e.pre e.same d v h
def Ext.Dc(e:Ext F α H M iR H' M')(h:hZ K α (jU F α M H) d v):hZ K iR (jU F iR M' H') d v:=hZ.mono e.pre e.same d v h
def R.grow(r:R K F α H σ δ M)(e:Ext F α H M iR H' M')(o:OK K F iR H' M'):R K F iR H' σ δ M':=
 ⟨o,r.len,λi d q=>by obtain⟨v,a,b⟩:=r.sl i d q;exact⟨v,a,e.rep b⟩⟩
def OK.live(o:OK K F α H M):∀a∈lv α M,H a≠ar:=λa ha=>by
 obtain⟨k,x,f,g⟩:=nL.mp ha;obtain⟨b,e,r⟩:=o.own k x g;rw[f] at e;cases e;cases x with
 |lst ds=>obtain⟨c,e,_⟩:=r;rw[e];exactλz=>by cases z
 |kE h ds=>obtain⟨c,e,_⟩:=r;rw[e];exactλz=>by cases z
 |ins C ns ds=>obtain⟨i,c,e,_⟩:=r;rw[e];exactλz=>by cases z
 |fz k j h ds=>obtain⟨_,c,e,_⟩:=r;rw[e];exactλz=>by cases z
def OK.new(o:OK K F α H M)(h:H p=ar):p∉lv α M++F:=λz=>by
 rcases bt.mp z with z|z
 .exact o.live p z h
 .exact(o.fr p z).2 (by rw[h])
theorem B3.vn(r:B3 K α f H x a):vn (H a)≠ar:=by
 cases x with
 |lst ds=>obtain⟨b,e,_⟩:=r;rw[e];exactλz=>by cases z
 |kE c ds=>obtain⟨b,e,_⟩:=r;rw[e];exactλz=>by cases z
 |ins C ns ds=>obtain⟨g,b,e,_⟩:=r;rw[e];exactλz=>by cases z
 |fz k h c ds=>obtain⟨_,b,e,_⟩:=r;rw[e];exactλz=>by cases z
def B3.some{c:Hp}{x:OD}{a:aw}(r:B3 K α c H x a):H a≠ar:=by
 cases x with
 |lst ds=>obtain⟨b,e,_⟩:=r;rw[e];exactλz=>by cases z
 |kE f ds=>obtain⟨b,e,_⟩:=r;rw[e];exactλz=>by cases z
 |ins C ns ds=>obtain⟨g,b,e,_⟩:=r;rw[e];exactλz=>by cases z
 |fz k h f ds=>obtain⟨_,b,e,_⟩:=r;rw[e];exactλz=>by cases z
def OK.PL(o:OK K F α H M):∀a∈lv α M,vn (H a)≠ar:=λa ha=>by obtain⟨k,x,c,f⟩:=nL.mp ha;obtain⟨b,e,r⟩:=o.own k x f;rw[c] at e;cases e;exact r.vn
theorem B3.mono(p:α <+: iR)(e:kC f c)(ha:H' a=H a)(h:B3 K α f H o a):B3 K iR c H' o a:=by
 cases o with
 |lst ds=>obtain⟨b,q,r⟩:=h;exact⟨b,by rw[ha];exact q,hZ.mono p e _ _ r⟩
 |kE i ds=>obtain⟨b,q,l,r⟩:=h;exact⟨b,by rw[ha];exact q,l,hZ.mono p e _ _ r⟩
 |ins C ns ds=>obtain⟨j,b,q,l,r⟩:=h;exact⟨j,b,by rw[ha];exact q,l,hZ.mono p e _ _ r⟩
 |fz k m i ds=>
  obtain⟨g,b,q,l,r⟩:=h;exact⟨by obtain⟨β,rfl⟩:=p;rw[aY (ak.mp g).1];exact g,b,by rw[ha];exact q,l,hZ.mono p e _ _ r⟩
def OK.grow(o:OK K F α H M)(s:kC H H'):OK K F α H' M/\Ext F α H M α H' M:=by
 have tY:∀a,H a≠ar->H' a=H a:=λa h=>by
  cases e:H a with
  |none=>exact absurd e h
  |some x=>exact s a x e
 refine⟨⟨o.ml,o.nd,λa ha=>⟨(o.fr a ha).1,by rw[tY a (Db (o.fr a ha).2)];exact(o.fr a ha).2⟩,λa ha=>by rw[tY a (Db (o.al a ha))];exact o.al a ha,λk x h=>?_,o.tb.same s⟩,⟨aV _,(Gn s),λa ha=>tY a (Db (o.fr a ha).2)⟩⟩;obtain⟨a,e,r⟩:=o.own k x h;exact⟨a,e,r.mono (aV _) (Gn s) (tY a (o.live a (nL.mpr ⟨k,x,e,h⟩)))⟩
def OK.laid(o:OK K F α H M)(h:H p=ar):OK K F α (upd H p x) M/\Ext F α H M α (upd H p x) M:=o.grow (C9 h)
theorem w9:∀{α β:List aw} {M N:Ms},α.length=M.length->lv (α++β) (M++N)=lv α M++lv β N
 |[],β,[],N,_=>by simp[lv]
 |a::α,β,aa x::M,N,h=>by have:=w9 (β:=β) (N:=N) (by simpa using h);simp[lv,this]
 |a::α,β,ar::M,N,h=>by have:=w9 (β:=β) (N:=N) (by simpa using h);simp[lv,this]
def OK.Dd(o:OK K F α H M)(h:H p=ar)(s:kC H H'):kC (jU F α M H) (jU F (α++[p]) (M++[aa x]) H'):=λb y q=>by
 have a:lv (α++[p]) (M++[aa x])=lv α M++[p]:=by rw[w9 o.ml];rfl
 have c:=q;obtain⟨z,q⟩:=iW q;have hb:b≠p:=λz=>by rw[z,h] at q;cases q
 show mw _ H' b=_;rw[a];refine mL c (λw=>?_) (s b y q)
 .simp only [bt,bj] at w z;rcases w with(w|w)|w
  .exact z (.inl w)
  .exact hb w
  .exact z (.inr w)
def OK.enter(o:OK K F α H M)(h:H p=ar)(s:kC H H')(r:B3 K (α++[p]) (jU F (α++[p]) (M++[aa x]) H') H' x p):
  OK K F (α++[p]) H' (M++[aa x])/\Ext F α H M (α++[p]) H' (M++[aa x]):=by
 have m:=λz=>o.al p z (by rw[h]);obtain⟨f,e'⟩:=o.grow s;have g:=o.Dd (x:=x) h s;have pf:=λz=>(o.fr p z).2 (by rw[h]);refine⟨⟨by simp[o.ml],by rw[dB];exact⟨o.nd,by simp,λa ha b hb=>by simp at hb;subst hb;exactλz=>m (z▸ha)⟩,λa ha=>⟨λz=>?_,(f.fr a ha).2⟩,λa ha=>?_,λk y c=>?_,f.tb⟩,⟨cQ _ _,g,e'.fr⟩⟩
 .rcases bt.mp z with z|z
  .exact(o.fr a ha).1 z
  .simp at z;subst z;exact pf ha
 .rcases bt.mp ha with z|z
  .exact f.al a z
  .simp at z;subst z;exact r.vn
 .by_cases i:k<M.length
  .rw[aY i] at c;obtain⟨a,j,n⟩:=o.own k y c;refine⟨a,by rw[aY (by rw[o.ml];exact i)];exact j,n.mono (cQ _ _) g ?_⟩;cases e:H a with
   |none=>exact absurd e (o.live a (nL.mpr ⟨k,y,j,c⟩))
   |some z=>exact s a z e
  .have:k=M.length:=by have:=(ak.mp c).1;simp at this;omega
   subst this;simp at c;subst c;exact⟨p,by rw[<-o.ml];simp,r⟩
theorem Nh:∀{α:List aw} {M:Ms} {k:Nat} {x y:OD},M[k]?=aa (aa x)->lv α (M.set k (aa y))=lv α M
 |[],M,k,x,y,h=>by cases M<;>cases k<;>simp[lv]
 |a::α,[],k,x,y,h=>by simp at h
 |a::α,aa z::M,0,x,y,h=>by simp[lv]
 |a::α,ar::M,0,x,y,h=>by simp at h
 |a::α,aa z::M,k+1,x,y,h=>by simp only [gH,lv];rw[Nh (by simpa using h)]
 |a::α,ar::M,k+1,x,y,h=>by simp only [gH,lv];exact Nh (by simpa using h)
def OK.write(o:OK K F α H M)(f:M[k]?=aa (aa x))(ha:α[k]?=aa a)(r:∀m,m=jU F α M H->B3 K α m (upd H a z) y a):
  OK K F α (upd H a z) (M.set k (aa y))/\Ext F α H M α (upd H a z) (M.set k (aa y)):=by
 have q:lv α (M.set k (aa y))=lv α M:=Nh f;have hm:=nL.mpr ⟨k,x,ha,f⟩;have g:jU F α (M.set k (aa y)) (upd H a z)=jU F α M H:=by
  funext b;show mw _ _ b=mw _ _ b;rw[q];by_cases hb:b∈lv α M++F
  .rw[qu hb,qu hb]
  .rw[l7 hb,l7 hb,ii (λe=>hb (by rw[e];exact bW _ hm))]
 have n:=λw=>(o.fr a w).1 (bA ha);refine⟨⟨by simp[o.ml],o.nd,λb hb=>⟨(o.fr b hb).1,by rw[ii (λe=>n (by rw[<-e];exact hb))];exact(o.fr b hb).2⟩,λb hb=>(by
  by_cases e:b=a
  .subst e;exact(r _ rfl).vn
  .rw[ii e];exact o.al b hb),λj w c=>?_,o.tb.upd (.inl (o.al a (bA ha)))⟩,⟨aV _,by rw[g];exact kC.refl _,λb hb=>ii (λe=>n (by rw[<-e];exact hb))⟩⟩
 have s:=(ak.mp f).1;by_cases h:j=k
 .subst h;rw[bn s] at c;cases c;exact⟨a,ha,r _ g⟩
 .rw[aJ (b9 h)] at c;obtain⟨b,p,u⟩:=o.own j w c;have i:b≠a:=λe=>h (by subst e;have v:=ak.mp ha;have A:=ak.mp p;exact(eP o.nd).mp (A.2.trans v.2.symm))
  refine⟨b,p,?_⟩;rw[g];exact u.mono (aV _) (kC.refl _) (ii i)
theorem R.set(r:R K F α H σ δ M){i:Nat}{d:D}{v:V}(q:Rep K α (jU F α M H) d v):R K F α H (σ.set i (aa v)) (δ.set i (aa d)) M:=by
 have c:=r.len;refine⟨r.ok,by simp[c],λj e h=>?_⟩;by_cases b:j=i
 .subst b;have a:j<δ.length:=by
   rcases Nat.lt_or_ge j _ with x|x
   .exact x
   .rw[eD (by simpa using x)] at h;cases h
  rw[bn a] at h;cases h;exact⟨v,bn (by omega),q⟩
 .rw[aJ (b9 b)] at h |-;exact r.sl j e h
end
def PE.weak(h:PE X e t)(w:∀σ H Q,a σ H Q->t σ H Q):PE X e a:=λcc s σ H Q I q=>h cc s σ H Q I (w σ H Q q)
def PT.weak(h:PT X e t)(w:∀σ H Q,a σ H Q->t σ H Q):PT X e a:=λcc s σ H Q I q=>h cc s σ H Q I (w σ H Q q)
def PW.weak(h:PW X e t)(w:∀σ H Q,a σ H Q->t σ H Q):PW X e a:=λb cc s σ H Q I q=>h b cc s σ H Q I (w σ H Q q)
def PA.weak(h:PA X e t)(w:∀σ H Q,a σ H Q->t σ H Q):PA X e a:=λpos cc s σ H Q I q=>h pos cc s σ H Q I (w σ H Q q)
def PS.weak(h:PS X e t)(w:∀D σ H,a D σ H->t D σ H):PS X e a:=λcc s σ H D I q=>h cc s σ H D I (w D σ H q)
def y7.weak(h:y7 X e t)(w:∀D σ H,a D σ H->t D σ H):y7 X e a:=λcc s σ H D I q=>h cc s σ H D I (w D σ H q)
abbrev DK:=D->Ms->Prop
abbrev DE:=nB->Ms->DK->Prop
abbrev DT:=nB->Ms->(Bool->Ms->Prop)->Prop
abbrev DA:=nB->Ms->(List D->Ms->Prop)->Prop
abbrev vK(K:bz)(F α:List aw)(H:Hp)(M:Ms)(Q:VK):DK:=λd c=>∀v a b,Ext F α H M a b c->OK K F a b c->Rep K a (jU F a c b) d v->Q v b
abbrev bK(K:bz)(F α:List aw)(H:Hp)(M:Ms)(Q:Bool->Hp->Prop):Bool->Ms->Prop:=λb c=>∀e a,Ext F α H M e a c->OK K F e a c->Q b a
abbrev aK(K:bz)(F α:List aw)(H:Hp)(M:Ms)(Q:List V->Hp->Prop):List D->Ms->Prop:=λds c=>∀e a b,Ext F α H M a b c->OK K F a b c->hZ K a (jU F a c b) ds e->Q e b
def lE (K:bz)(t:DE):TE:=λσ H Q=>∃F α a M,R K F α H σ a M/\t a M (vK K F α H M Q)
def lT (K:bz)(t:DT):TT:=λσ H Q=>∃F α a M,R K F α H σ a M/\t a M (bK K F α H M Q)
def lA (K:bz)(t:DA):TA:=λσ H Q=>∃F α a M,R K F α H σ a M/\t a M (aK K F α H M Q)
structure JE(X:Cx)(e:bJ)(t:DE):Prop where
 mono:∀δ M (P Q:DK),(∀d M,P d M->Q d M)->t δ M P->t δ M Q
 p:PE X e (lE X.K t)
structure JT(X:Cx)(e:bJ)(t:DT):Prop where
 mono:∀δ M (P Q:Bool->Ms->Prop),(∀d M,P d M->Q d M)->t δ M P->t δ M Q
 p:PT X e (lT X.K t)
structure JW(X:Cx)(e:bJ)(t:DT):Prop where
 mono:∀δ M (P Q:Bool->Ms->Prop),(∀d M,P d M->Q d M)->t δ M P->t δ M Q
 p:PW X e (lT X.K t)
structure JA(X:Cx)(es:List bJ)(t:DA):Prop where
 mono:∀δ M (P Q:List D->Ms->Prop),(∀d M,P d M->Q d M)->t δ M P->t δ M Q
 p:PA X es (lA X.K t)
section
variable {K:bz}
def vK.grow(e:Ext F α H M iR H' M'):∀d a,vK K F α H M Q d a->vK K F iR H' M' Q d a:=λd a h v b c e2 o2 f=>h v b c (e.trans e2) o2 f
def bK.grow(e:Ext F α H M iR H' M'):∀d a,bK K F α H M Q d a->bK K F iR H' M' Q d a:=λd a h b c e2 o2=>h b c (e.trans e2) o2
def vK.now(o:OK K F α H M)(h:vK K F α H M Q d M)(r:Rep K α (jU F α M H) d v):Q v H:=h v α H Ext.refl o r
def vK.new(o:OK K F α H M)(a:H p=ar)(h:vK K F α H M Q d M)(r:Ext F α H M α (upd H p x) M->Rep K α (jU F α M (upd H p x)) d v):Q v (upd H p x):=
 let⟨b,e'⟩:=o.laid a;h v α _ e' b (r e')
end
abbrev G2:=D->D->Ms->DK->Prop
abbrev GN:=List D->Ms->DK->Prop
def rD (K:bz)(g:G2):R2:=λx y H Q=>∃F α M a b,OK K F α H M/\Rep K α (jU F α M H) a x/\Rep K α (jU F α M H) b y/\g a b M (vK K F α H M Q)
def rDs (K:bz)(g:GN):List V->Hp->VK->Prop:=λxs H Q=>∃F α M ds,OK K F α H M/\hZ K α (jU F α M H) ds xs/\g ds M (vK K F α H M Q)
abbrev vI(g:G2):Prop:=∀x y M (P Q:DK),(∀d M,P d M->Q d M)->g x y M P->g x y M Q
abbrev l8(g:GN):Prop:=∀xs M (P Q:DK),(∀d M,P d M->Q d M)->g xs M P->g xs M Q
structure JO(X:Cx)(op:aiH)(g:G2):Prop where
 mono:vI g
 p:uh X (binaryOp op) (rD X.K g)
structure JC(X:Cx)(op:CmpOp)(g:G2):Prop where
 mono:vI g
 p:uh X (compareOp op) (rD X.K g)
structure JX(X:Cx)(g:G2):Prop where
 mono:vI g
 p:IxR X (rD X.K g)
structure JB(X:Cx)(f:ai)(g:GN):Prop where
 mono:l8 g
 p:ny X f (rDs X.K g)
abbrev GS:=D->Option Int->Option Int->Ms->DK->Prop
def agD (K:bz)(g:GS):V->Option Int->Option Int->Hp->VK->Prop:=λx lo hi H Q=>∃F α M d,OK K F α H M/\Rep K α (jU F α M H) d x/\g d lo hi M (vK K F α H M Q)
structure JSl(X:Cx)(g:GS):Prop where
 mono:∀x lo hi M (P Q:DK),(∀d M,P d M->Q d M)->g x lo hi M P->g x lo hi M Q
 p:Xk X (agD X.K g)
section
variable {X:Cx} {a e:bJ} {es rest:List bJ}
def hX (i:Nat):DE:=λf M Q=>match f[i]? with|some (aa d)=>Q d M|_=>False
def ij(i:Nat)(f:X.N[i]?=aa x:=by rfl)(g:Vis X.env.scope x:=by first|exact ahS rfl|exact ahA (ahS rfl)|exact ahA (ahA rfl))(hd:(x==(fy:aX))=au:=by decide)
(j:(x==(tS:aX))=au:=by decide):JE X (.Name x pos) (hX i):=by
 refine⟨λm M P Q h q=>?_,PE.weak (MK f g hd j) λσ H Q h=>?_⟩
 .unfold hX at*;split at q
  .exact h _ _ q
  .exact q
 .obtain⟨F,α,m,M,r,h⟩:=h;unfold hX at h;split at h
  .rename_i d hd;obtain⟨v,e,q⟩:=r.sl i d hd;exact⟨v,e,vK.now r.ok h q⟩
  .exact h.elim
def dC (d:D):DE:=λ_ M Q=>Q d M
def j_c(h:PE X e (tC v))(r:∀α H,Rep X.K α H d v):JE X e (dC d):=
 ⟨λf M P Q h q=>h _ _ q,PE.weak h λσ H Q ⟨F,α,f,M,g,h⟩=>vK.now g.ok h (r _ _)⟩
def ig{i j}:JE X (.Constant (.int i) j pos) (dC (.int i)):=j_c TV λ_ _=>jB
def rT{b j}:JE X (.Constant (.bool b) j pos) (dC (.bl b)):=j_c adL λ_ _=>jG
def De{j}:JE X (.Constant .none j pos) (dC .non):=j_c aa9 λ_ _=>qt
def iF{y j}:JE X (.Constant (.str y) j pos) (dC (.str y)):=j_c aba λ_ _=>qr
def UF(hm:X.mg x=aa u)(r:RelV v u)(f:∀α H,Rep X.K α H d v)(g:Gl X x:=by rfl)(hd:(x==(fy:aX))=au:=by decide):JE X (.Name x pos) (dC d):=j_c (Xy g hm r hd) f
def pD(hm:∃t,X.mg x=aa (.int i t))(f:Gl X x:=by rfl)(hd:(x==(fy:aX))=au:=by decide):JE X (.Name x pos) (dC (.int i)):=by obtain⟨t,hm⟩:=hm;exact UF (v:=.int i) hm ⟨t,rfl⟩ (λ_ _=>jB) f hd
def mZ(hm:X.mg x=aa (.ref C))(f:Gl X x:=by rfl)(hd:(x==(fy:aX))=au:=by decide):JE X (.Name x pos) (dC (.cls C)):=UF (v:=.ref C) hm rfl (λ_ _=>Yl) f hd
def xt(hm:X.mg x=ar)(f:bT x=aa (.type n))(g:Gl X x:=by rfl)(hn:x≠nk:=by decide)(hd:(x==(fy:aX))=au:=by decide):JE X (.Name x pos) (dC (.ty n)):=
 j_c (Xz (v:=.ty n) g hm f rfl hn hd) λ_ _=>abW
def iA (g:G2)(ta tb:DE):DE:=λf M Q=>ta f M λx M1=>tb f M1 λy M2=>g x y M2 Q
def Df(mg:vI g)(ha:JE X a ta)(hb:JE X b tb):∀f M (P Q:DK),(∀d M,P d M->Q d M)->iA g ta tb f M P->iA g ta tb f M Q:=
 λf M P Q h q=>ha.mono f _ _ _ (λd M1 q=>hb.mono f _ _ _ (λi M2 q=>mg d i M2 P Q h q) q) q
def PN(mg:vI g)(ha:JE X a ta)(hb:JE X b tb)(h:lE X.K (iA g ta tb) σ H Q):tOp (rD X.K g) (lE X.K ta) (lE X.K tb) σ H Q:=by
 obtain⟨F,α,f,M,r,h⟩:=h;exact⟨F,α,f,M,r,ha.mono f _ _ _ (λi M1 j v m H1 e1 o1 n=>⟨F,m,f,M1,r.grow e1 o1,hb.mono f _ _ _ (λo M2 q u s y e2 o2 w=>
  ⟨F,s,M2,i,o,o2,e2.rep n,w,mg _ _ _ _ _ (vK.grow (e1.trans e2)) q⟩) j⟩) h⟩
def i0(o:JO X op g)(ha:JE X a ta)(hb:JE X b tb):JE X (.BinOp a op b pos) (iA g ta tb):=⟨Df o.mono ha hb,PE.weak (aam o.p ha.p hb.p) λσ H Q h=>PN o.mono ha hb h⟩
def u9(o:JC X op g)(ha:JE X a ta)(hb:JE X b tb)(hm:aii op b=au:=by rfl):JE X (.Compare a [op] [b] pos) (iA g ta tb):=⟨Df o.mono ha hb,PE.weak (XI o.p ha.p hb.p hm) λσ H Q h=>PN o.mono ha hb h⟩
def jg(o:JX X g)(ha:JE X a ta)(hb:JE X b tb)(f:PB b:=by exactλ_ _=>rfl):JE X (.Subscript a b pos) (iA g ta tb):=⟨Df o.mono ha hb,PE.weak (aau o.p ha.p hb.p f) λσ H Q h=>PN o.mono ha hb h⟩
def iu (te:DE):DT:=λf M Q=>te f M λd M1=>match d with|.bl b=>Q b M1|_=>False
def xT(h:JE X e te):∀f M (P Q:Bool->Ms->Prop),(∀d M,P d M->Q d M)->iu te f M P->iu te f M Q:=λf M P Q w q=>h.mono f _ _ _ (λd M1 q=>by cases d<;>first|exact w _ _ q|exact q) q
def jO(h:JE X e te)(i:∀f,aiZ e X.env f=(do let v<-f;ajn e.pos;holding [v] (truthy v)):=by intro _;rfl):JT X e (iu te):=by
 refine⟨xT h,PT.weak (abb h.p i) λσ H Q q=>?_⟩;obtain⟨F,α,g,M,r,q⟩:=q;refine⟨F,α,g,M,r,h.mono g _ _ _ (λd M1 q v j H1 e1 o1 m=>?_) q⟩;cases d<;>first|exact q.elim|skip
 exact⟨_,m,q j H1 e1 o1⟩
def iG(o:JC X op g)(ha:JE X a ta)(hb:JE X b tb)(hm:aii op b=au:=by rfl):JT X (.Compare a [op] [b] pos) (iu (iA g ta tb)):=by
 have f:JE X (.Compare a [op] [b] pos) _:=u9 o ha hb hm;refine⟨xT f,PT.weak (XJ o.p ha.p hb.p hm) λσ H Q q=>?_⟩;obtain⟨F,α,h,M,r,q⟩:=q;refine PN o.mono ha hb ⟨F,α,h,M,r,f.mono h _ _ _ (λd M1 q v i H1 e1 o1 j=>?_) q⟩;cases d<;>first|exact q.elim|skip
 exact⟨_,j,q i H1 e1 o1⟩
def oA (t:DT):DT:=λf M Q=>t f M λb M1=>Q (!b) M1
def kU(h:JT X a tA):JT X (.UnaryOp .Not a pos) (oA tA):=
 ⟨λf M P Q w q=>h.mono f _ _ _ (λb M1 q=>w _ _ q) q,PT.weak (abd h.p) λσ H Q ⟨F,α,f,M,r,q⟩=>⟨F,α,f,M,r,q⟩⟩
def nC(h:JW X e tA):JT X e tA:=⟨h.mono,h.p.pt⟩
def Ay (t u:DT):DT:=λf M Q=>t f M λb M1=>if b=ag then u f M1 Q else Q au M1
def Ft (t u:DT):DT:=λf M Q=>t f M λb M1=>if b=ag then Q ag M1 else u f M1 Q
def xa(h:JT X a tA):JW X (.BoolOp .And [a] pos) tA:=⟨h.mono,pw_and1 h.p⟩
def nM(h:JT X a tA):JW X (.BoolOp .Or [a] pos) tA:=⟨h.mono,pw_or1 h.p⟩
def xU(ha:JT X a tA)(hb:JW X (.BoolOp .And (b::rest) pos) TW):JW X (.BoolOp .And (a::b::rest) pos) (Ay tA TW):=by
 refine⟨λf M P Q w q=>ha.mono f _ _ _ (λb M1 q=>?_) q,PW.weak (pw_and ha.p hb.p) λσ H Q q=>?_⟩
 .cases b with
  |true=>exact hb.mono f _ _ _ w q
  |false=>exact w _ _ q
 .obtain⟨F,α,f,M,r,q⟩:=q;refine⟨F,α,f,M,r,ha.mono f _ _ _ (λb M1 q g H1 e1 o1=>?_) q⟩;cases b with
  |true=>
   exact⟨F,g,f,M1,r.grow e1 o1,hb.mono f _ _ _ (bK.grow e1) q⟩
  |false=>
   exact q g H1 e1 o1
def pN(ha:JT X a tA)(hb:JW X (.BoolOp .Or (b::rest) pos) TW):JW X (.BoolOp .Or (a::b::rest) pos) (Ft tA TW):=by
 refine⟨λf M P Q w q=>ha.mono f _ _ _ (λb M1 q=>?_) q,PW.weak (pw_or ha.p hb.p) λσ H Q q=>?_⟩
 .cases b with
  |true=>exact w _ _ q
  |false=>exact hb.mono f _ _ _ w q
 .obtain⟨F,α,f,M,r,q⟩:=q;refine⟨F,α,f,M,r,ha.mono f _ _ _ (λb M1 q g H1 e1 o1=>?_) q⟩;cases b with
  |false=>
   exact⟨F,g,f,M1,r.grow e1 o1,hb.mono f _ _ _ (bK.grow e1) q⟩
  |true=>
   exact q g H1 e1 o1
def vJ (ta tb:DE):DE:=λf M Q=>ta f M λx M1=>match x with|.bl ag=>tb f M1 Q|.bl au=>Q (.bl au) M1|_=>False
def Gp (ta:DE):DE:=λf M Q=>ta f M λx M1=>match x with|.bl b=>Q (.bl (!b)) M1|_=>False
def Gq{op}(h:JE X a te):JE X (.BoolOp op [a] pos) te:=⟨h.mono,abe h.p⟩
def By(ha:JE X a ta)(hb:JE X (.BoolOp .And (b::rest) pos) tb):JE X (.BoolOp .And (a::b::rest) pos) (vJ ta tb):=by
 refine⟨λf M P Q w q=>ha.mono f _ _ _ (λd M1 q=>?_) q,PE.weak (abf ha.p hb.p) λσ H Q q=>?_⟩
 .cases d<;>first|exact q.elim|skip
  rename_i b;cases b with
  |true=>exact hb.mono f _ _ _ w q
  |false=>exact w _ _ q
 .obtain⟨F,α,f,M,r,q⟩:=q;refine⟨F,α,f,M,r,ha.mono f _ _ _ (λd M1 q v g H1 e1 o1 h=>?_) q⟩;cases d<;>first|exact q.elim|skip
  rename_i b;cases b with
  |true=>
   refine⟨ag,h,?_⟩;exact⟨F,g,f,M1,r.grow e1 o1,hb.mono f _ _ _ (vK.grow e1) q⟩
  |false=>
   refine⟨au,h,?_⟩;exact q _ g H1 e1 o1 jG
def UG(ha:JE X a ta):JE X (.UnaryOp .Not a pos) (Gp ta):=by
 refine⟨λf M P Q w q=>ha.mono f _ _ _ (λd M1 q=>?_) q,PE.weak (abg ha.p) λσ H Q q=>?_⟩
 .cases d<;>first|exact q.elim|exact w _ _ q
 .obtain⟨F,α,f,M,r,q⟩:=q;refine⟨F,α,f,M,r,ha.mono f _ _ _ (λd M1 q v g H1 e1 o1 h=>?_) q⟩;cases d<;>first|exact q.elim|skip
  exact⟨_,h,q _ g H1 e1 o1 jG⟩
def dIf (t:DT)(ta tb:DE):DE:=λf M Q=>t f M λc M1=>if c=ag then ta f M1 Q else tb f M1 Q
def aeh(hc:JT X c tA)(ha:JE X a ta)(hb:JE X b tb):JE X (.IfExp c a b pos) (dIf tA ta tb):=by
 refine⟨λf M P Q w q=>hc.mono f _ _ _ (λb M1 q=>?_) q,PE.weak (TX hc.p ha.p hb.p) λσ H Q q=>?_⟩
 .cases b with
  |true=>exact ha.mono f _ _ _ w q
  |false=>exact hb.mono f _ _ _ w q
 .obtain⟨F,α,f,M,r,q⟩:=q;refine⟨F,α,f,M,r,hc.mono f _ _ _ (λb M1 q g H1 e1 o1=>?_) q⟩;cases b with
  |true=>
   exact⟨F,g,f,M1,r.grow e1 o1,ha.mono f _ _ _ (vK.grow e1) q⟩
  |false=>
   exact⟨F,g,f,M1,r.grow e1 o1,hb.mono f _ _ _ (vK.grow e1) q⟩
def nN (g i:G2)(ta tb tc:DE):DE:=λf M Q=>ta f M λx M1=>tb f M1 λy M2=>g x y M2 λz h=>match z with|.bl ag=>tc f h λw j=>i y w j Q|.bl au=>Q (.bl au) h|_=>False
def J9(o:JC X op g)(i:JC X j h)(ha:JE X a ta)(hb:JE X b tb)(hc:JE X c tc):∀f M (P Q:DK),(∀d M,P d M->Q d M)->nN g h ta tb tc f M P->nN g h ta tb tc f M Q:=
 λf M P Q w q=>ha.mono f _ _ _ (λx M1 q=>hb.mono f _ _ _ (λy M2 q=>o.mono _ _ _ _ _ (λz m q=>by
  cases z<;>first|exact q.elim|skip
  rename_i k;cases k with
  |true=>exact hc.mono f _ _ _ (λu n q=>i.mono _ _ _ _ _ w q) q
  |false=>exact w _ _ q) q) q) q
def Gr(o:JC X op g)(y:JC X Rr j)(ha:JE X a ta)(hb:JE X b tb)(hc:JE X c tc)(h:lE X.K (nN g j ta tb tc) σ H Q):MR (rD X.K g) (rD X.K j) (lE X.K ta) (lE X.K tb) (lE X.K tc) σ H Q:=by
 obtain⟨F,α,f,M,r,h⟩:=h;refine⟨F,α,f,M,r,ha.mono f _ _ _ (λA M1 B v C H1 e1 o1 E=>⟨F,C,f,M1,r.grow e1 o1,hb.mono f _ _ _ (λm M2 G u I H2 e2 o2 n=>?_) B⟩) h⟩;refine⟨F,I,M2,A,m,o2,e2.rep E,n,o.mono _ _ _ _ _ (λd J i w q L e3 s N=>?_) G⟩;have Hx:=(e1.trans e2).trans e3;cases d<;>first|exact i.elim|skip
 rename_i k;refine⟨k,N,?_⟩;cases k with
 |false=>exact i _ q L Hx s jG
 |true=>
  refine⟨F,q,f,J,r.grow Hx s,hc.mono f _ _ _ (λdc O T z U H4 e4 Y r4=>?_) i⟩;exact⟨F,U,O,m,dc,Y,(e3.trans e4).rep n,r4,y.mono _ _ _ _ _ (vK.grow (Hx.trans e4)) T⟩
def zn(o:JC X op g)(f:JC X i j)(ha:JE X a ta)(hb:JE X b tb)(hc:JE X c tc)(hm:aiT [op,i] [b,c]=au:=by with_unfolding_all rfl):JE X (.Compare a [op,i] [b,c] pos) (nN g j ta tb tc):=
 ⟨J9 o f ha hb hc,PE.weak (T8 o.p f.p ha.p hb.p hc.p hm) λσ H Q h=>Gr o f ha hb hc h⟩
def zo(o:JC X op g)(f:JC X h m)(ha:JE X a ta)(hb:JE X b tb)(hc:JE X c tc)(hm:aiT [op,h] [b,c]=au:=by with_unfolding_all rfl):JT X (.Compare a [op,h] [b,c] pos) (iu (nN g m ta tb tc)):=by
 have i:JE X (.Compare a _ [b,c] pos) _:=zn o f ha hb hc hm;refine⟨xT i,PT.weak (T9 o.p f.p ha.p hb.p hc.p hm) λσ H Q q=>?_⟩;obtain⟨F,α,j,M,r,q⟩:=q;refine Gr o f ha hb hc ⟨F,α,j,M,r,i.mono j _ _ _ (λd M1 q v n H1 e1 o1 s=>?_) q⟩;cases d<;>first|exact q.elim|skip
 exact⟨_,s,q n H1 e1 o1⟩
def ib:DA:=λ_ M Q=>Q [] M
def hV (te:DE)(tt:DA):DA:=λf M Q=>te f M λx M1=>tt f M1 λxs M2=>Q (x::xs) M2
def hW:JA X [] ib:=⟨λf M P Q w q=>w _ _ q,PA.weak Hn λσ H Q ⟨F,α,f,M,r,q⟩=>q [] α H Ext.refl r.ok hZ.nil⟩
def hU(ha:JE X e te)(g:JA X es tt)(h:bg (e::es) X.env=(au,eval e X.env)::bg es X.env:=by rfl):JA X (e::es) (hV te tt):=by refine⟨λf M P Q w q=>ha.mono f _ _ _ (λx M1 q=>g.mono f _ _ _ (λxs M2 q=>w _ _ q) q) q,PA.weak (Cp ha.p g.p h) λσ H Q q=>?_⟩;obtain⟨F,α,f,M,r,q⟩:=q;refine⟨F,α,f,M,r,ha.mono f _ _ _ (λd M1 q v i H1 e1 o1 j=>⟨F,i,f,M1,r.grow e1 o1,g.mono f _ _ _ (λds M2 q s m n e2 o2 o=>?_) q⟩) q⟩;exact q _ m n (e1.trans e2) o2 (hZ.cons (e2.rep j) o)
def pO{K:bz}{p:aw}(o:OK K F α H M)(g:H p=ar)(h:hZ K α (jU F α M H) ds f)(e:Ext F α H M α (upd H p (.lst f)) M):Rep K α (jU F α M (upd H p (.lst f))) (.lst ds) (.ref p):=by exact⟨p,f,rfl,by show mw _ _ p=_;rw[l7 (o.new g),iE],e.Dc h⟩
def my{K:bz}{p:aw}(o:OK K F α H M)(g:H p=ar)(h:hZ K α (jU F α M H) ds f)(e:Ext F α H M α (upd H p (.tup f)) M):Rep K α (jU F α M (upd H p (.tup f))) (.tup ds) (.ref p):=by exact⟨p,f,rfl,.inl (.inl (by show mw _ _ p=_;rw[l7 (o.new g),iE])),e.Dc h⟩
def ju (tt:DA):DE:=λf M Q=>tt f M λds M1=>ds.length<=aO/\Q (.tup ds) M1
def iU{j}(h:JA X es tt):JE X (.Tuple es j pos) (ju tt):=by refine⟨λf M P Q w q=>h.mono f _ _ _ (λds M1 q=>⟨q.1,w _ _ q.2⟩) q,PE.weak (abC h.p) λσ H Q q=>?_⟩;obtain⟨F,α,f,M,r,q⟩:=q;refine⟨F,α,f,M,r,h.mono f _ _ _ (λds M1 q m n H1 e1 o1 g=>?_) q⟩;exact⟨by rw[<-hZ.length ds m g];exact q.1,λp i=>vK.new o1 i (vK.grow e1 _ _ q.2) (my o1 i g)⟩
def i5 (g:GN)(tt:DA):DE:=λf M Q=>tt f M λds M1=>g ds M1 Q
def Dg(m:l8 g)(ha:JA X es tt):∀f M (P Q:DK),(∀d M,P d M->Q d M)->i5 g tt f M P->i5 g tt f M Q:=λf M P Q w q=>ha.mono f _ _ _ (λds M1 q=>m _ _ _ _ w q) q
def UH(o:JB X f g)(ha:JA X es tt)(h:lE X.K (i5 g tt) σ H Q):tCB (rDs X.K g) (lA X.K tt) σ H Q:=by obtain⟨F,α,i,M,r,h⟩:=h;exact⟨F,α,i,M,r,ha.mono i _ _ _ (λds M1 q n j H1 e1 o1 m=>⟨F,j,M1,ds,o1,m,o.mono _ _ _ _ (vK.grow e1) q⟩) h⟩
def nh{id:String}(o:JB X (.builtin id) g)(hm:X.mg x=ar)(f:bT x=aa (.builtin id))(ha:JA X (e::es) tt)(i:Gl X x:=by rfl)(hn:x≠nk:=by decide)(j:(x==(fy:aX))=au:=by decide)
(m:bg (e::es) X.env=(au,eval e X.env)::bg es X.env:=by rfl)(n:(du pos (bg es X.env)).any (·.1)=au:=by rfl):JE X (.Call (.Name x p) (e::es) [] pos) (i5 g tt):=
 ⟨Dg o.mono ha,PE.weak (C2 o.p i hm f ha.p hn j m n) λσ H Q h=>UH o ha h⟩
def j_t(o:JB X (.type T) g)(hm:X.mg x=ar)(f:bT x=aa (.type T))(ha:JA X (e::es) tt)(i:Gl X x:=by rfl)(hn:x≠nk:=by decide)(j:(x==(fy:aX))=au:=by decide)
(m:bg (e::es) X.env=(au,eval e X.env)::bg es X.env:=by rfl)(n:(du pos (bg es X.env)).any (·.1)=au:=by rfl):JE X (.Call (.Name x p) (e::es) [] pos) (i5 g tt):=
 ⟨Dg o.mono ha,PE.weak (Av o.p i hm f ha.p hn j m n) λσ H Q h=>UH o ha h⟩
def l9 (K:bz)(g:GN):Sp:=λf H Q _=>∃F α M ds,OK K F α H M/\hZ K α (jU F α M H) ds f/\g ds M (vK K F α H M Q)
structure i8(P:bc)(w:bI)(K:bz)(mg:aX->Option ai)(cq:aC)(k:Nat)(x:aX)(ps:List aX)(g:GN):Prop where
 mono:l8 g
 p:nz P w K mg cq k x ps (l9 K g)
def i8.up{K:bz}(h:i8 P w K mg cq j x f g)(i:j<=k):i8 P w K mg cq k x f g:=⟨h.mono,h.p.mono i⟩
def i9(h:i8 X.prog X.w X.K X.mg X.cq k x v g)(i:ka k X.A)(ha:JA X (e::es) tt)(j:Gl X x:=by rfl)(m:(x==(fy:aX))=au:=by decide)
(n:bg (e::es) X.env=(au,eval e X.env)::bg es X.env:=by rfl)(o:(du pos (bg es X.env)).any (·.1)=au:=by rfl):JE X (.Call (.Name x p) (e::es) [] pos) (i5 g tt):=by refine⟨Dg h.mono ha,PE.weak (aeg h.p i ha.p j m n o) λσ H Q q=>?_⟩;obtain⟨F,α,f,M,r,q⟩:=q;refine⟨F,α,f,M,r,ha.mono f _ _ _ (λds M1 q y s H1 e1 o1 u=>?_) q⟩;show l9 X.K g _ H1 Q E0;rw[bu];exact⟨F,s,M1,ds,o1,u,h.mono _ _ _ _ (vK.grow e1) q⟩
end
end L3
namespace L2
section
variable {X:Cx} {s:av}
def Inv.ghost(I:Inv X cc σ H s)(ha:H a=aa w)(i:∀xs,w≠.tup xs)(y:∀x,w≠.own x)(A:∀g,w≠.y6 g)(B:∀o u,X.je a≠aa (.qd o u))
(ok:kx X.prog X.w (upd H a w') s.heap a w'):Inv X cc σ (upd H a w') s:=by
 have f:∀b,H b=ar->b≠a:=λb h z=>by rw[z,ha] at h;cases h
 refine⟨I.ok,I.os,I.bare,⟨I.cq.keep,I.cq.slot,λb o q n C=>?_,I.cq.there,λb xs q=>?_,λb o u q=>?_,λb g q=>?_⟩,I.loc,I.cell,?_,λx c e=>?_,λp E=>?_,λb ob q=>?_,I.len⟩
 .have:=I.cq.free b o q n C;rw[ii (f b this)];exact this
 .have:=I.cq.ua b xs q;rw[ii λz=>by rw[z,ha] at this;exact i xs (bF this)];exact this
 .have:=I.cq.rR b o u q;rw[ii λz=>B o u (by rw[<-z];exact q)];exact this
 .obtain⟨m,e⟩:=I.cq.tz b g q;exact⟨m,by rw[ii λz=>by rw[z,ha] at e;exact A _ (bF e)];exact e⟩
 .rw[ii (f _ I.free)];exact I.free
 .rw[ii (f _ (I.nw x c e))];exact I.nw x c e
 .obtain⟨G,j,J⟩:=I.pin p E;exact⟨G,by rw[ii (f _ j)];exact j,J⟩
 .by_cases z:b=a
  .subst z;rw[iE] at q;cases q;exact ok
  .rw[ii z] at q;refine(I.ja b ob q).vm (λc v _ r=>r) (λc r=>?_) (λc xs r=>?_)
   .rw[ii λz=>by rw[z,ha] at r;exact y _ (bF r)];exact r
   .rw[ii λz=>by rw[z,ha] at r;exact i _ (bF r)];exact r
def Inv.freeze(I:Inv X cc σ H s)(ha:H a=aa (.dK iB)):∃o,s.heap.get? a=aa o/\Inv X cc σ (upd H a (.qd o (.dK iB))) s/\∀o u,X.je a≠aa (.qd o u):=by
 have b:∀o u,X.je a≠aa (.qd o u):=λo u z=>by have:=I.cq.rR a o u z;rw[ha] at this;cases this
 obtain⟨z,hd,f,r,o,es,g,e,c⟩:=(I.ja a _ ha);exact⟨o,e,I.ghost ha (λ_ z=>by cases z) (λ_ z=>by cases z) (λ_ z=>by cases z) b ⟨e,z,hd,f,r,o,es,g,e,c⟩,b⟩
def Inv.Dh(I:Inv X cc σ H s)(ha:H a=aa (.qd o (.dK iB)))(b:∀o u,X.je a≠aa (.qd o u)):Inv X cc σ (upd H a (.dK iB)) s:=by obtain⟨_,z,hd,f,r,ob,es,g,e,c⟩:=(I.ja a _ ha);exact I.ghost ha (λ_ z=>by cases z) (λ_ z=>by cases z) (λ_ z=>by cases z) b ⟨z,hd,f,r,ob,es,g,e,c⟩
def TH (X:Cx)(P:Hp->Prop)(H:Hp):Prop:=P H\/∃a o iB,H a=aa (.qd o (.dK iB))/\(∀o u,X.je a≠aa (.qd o u))/\P (upd H a (.dK iB))
def TH.get(I:Inv X cc σ H s)(h:TH X P H):∃b,Inv X cc σ b s/\P b:=by
 rcases h with h|⟨a,o,iB,e,n,h⟩
 .exact⟨H,I,h⟩
 .exact⟨_,I.Dh e n,h⟩
def thD(X:Cx)(D:Ends):Ends:=⟨λσ=>TH X (D.nx σ),λv=>TH X (D.rt v),λσ=>TH X (D.bk σ),λσ=>TH X (D.ct σ)⟩
def Ka{st:c5}(h:PS X st t)(w:∀D σ H,n D σ H->t (thD X D) σ H):PS X st n:=λcc s σ H D I q=>
 lB (h cc s σ H _ I (w D σ H q)) λf o j=>by
  cases f with
  |next=>obtain⟨b,m,c,q⟩:=j;obtain⟨e,g,i⟩:=TH.get c q;exact⟨b,e,g,i⟩
  |brk=>obtain⟨b,m,c,q⟩:=j;obtain⟨e,g,i⟩:=TH.get c q;exact⟨b,e,g,i⟩
  |cont=>obtain⟨b,m,c,q⟩:=j;obtain⟨e,g,i⟩:=TH.get c q;exact⟨b,e,g,i⟩
  |ret u=>obtain⟨v,b,m,c,r,q⟩:=j;obtain⟨e,g,i⟩:=TH.get c q;exact⟨v,b,e,g,r,i⟩
def UI(h:PE X e t)(w:∀σ H Q,b σ H Q->t σ H (λv=>TH X (Q v))):PE X e b:=λcc s σ H Q I q=>
 lB (h cc s σ H _ I (w σ H Q q)) λu j ⟨v,m,c,r,q⟩=>by obtain⟨f,g,i⟩:=TH.get c q;exact⟨v,f,g,r,i⟩
end
end L2
namespace L3
open L2
def Ym (H c:Hp):Prop:=∀b o,H b=aa o->c b=aa o\/∃a,(o=.dK a\/∃ob,o=.qd ob (.dK a))/\Rd c b (.dK a)
section
variable {K:bz}
def Di(e:Ym H H')(h:H a=aa u)(c:∀b,u≠.dK b)(f:∀ob b,u≠.qd ob (.dK b)):H' a=aa u:=by
 rcases e a u h with q|⟨b,rfl|⟨ob,rfl⟩,_⟩
 .exact q
 .exact absurd rfl (c b)
 .exact absurd rfl (f ob b)
def UJ(e:Ym H H')(h:Rd H a u)(c:∀b,u≠.dK b)(f:∀ob b,u≠.qd ob (.dK b)):Rd H' a u:=by
 rcases h with h|⟨o,h⟩
 .exact .inl (Di e h c f)
 .exact .inr ⟨o,Di e h (λ_ z=>by cases z) λ_ b z=>by cases z;exact c b rfl⟩
def abX(e:Ym H H')(h:Rd H a (.dK b)):Rd H' a (.dK b):=by
 rcases h with h|⟨o,h⟩
 .rcases e a _ h with q|⟨l,z|⟨ob,z⟩,q⟩
  .exact .inl q
  .cases z;exact q
  .cases z
 .rcases e a _ h with q|⟨l,z|⟨ob,z⟩,q⟩
  .exact .inr ⟨o,q⟩
  .cases z
  .cases z;exact q
def UK(e:Ym H H')(h:xQ K H a xs):xQ K H' a xs:=by
 rcases h with h|h
 .exact .inl (UJ e h (λ_ z=>by cases z) λ_ _ z=>by cases z)
 .exact .inr h
def UL(e:Ym H H')(h:nI K H a xs):nI K H' a xs:=by
 rcases h with h|h
 .exact .inl (UJ e h (λ_ z=>by cases z) λ_ _ z=>by cases z)
 .exact .inr h
end
mutual
theorem Rep.alt {K:bz} {α:List aw} {H c:Hp} (e:Ym H c):∀(d:D) (v:V),Rep K α H d v->Rep K α c d v
 |.non,v,h=>by unfold Rep at h |-;exact h
 |.bl _,v,h=>by unfold Rep at h |-;exact h
 |.int _,v,h=>by unfold Rep at h |-;exact h
 |.str _,v,h=>by unfold Rep at h |-;exact h
 |.ty _,v,h=>by unfold Rep at h |-;exact h
 |.tup ds,v,h=>by unfold Rep at h |-;obtain⟨a,b,r,q,z⟩:=h;exact⟨a,b,r,UK e q,hZ.alt e ds b z⟩
 |.lst ds,v,h=>by unfold Rep at h |-;obtain⟨a,b,r,q,z⟩:=h;exact⟨a,b,r,Di e q (λ_ z=>by cases z) (λ_ _ z=>by cases z),hZ.alt e ds b z⟩
 |.rS ns,v,h=>by unfold Rep at h |-;obtain⟨a,r,q⟩:=h;exact⟨a,r,UL e q⟩
 |.kE g ds,v,h=>by unfold Rep at h |-;obtain⟨a,b,r,q,l,z⟩:=h;exact⟨a,b,r,abX e q,l,hZ.alt e ds b z⟩
 |.ins C ns ds,v,h=>by unfold Rep at h |-;obtain⟨a,f,b,r,q,l,z⟩:=h;exact⟨a,f,b,r,Di e q (λ_ z=>by cases z) (λ_ _ z=>by cases z),l,hZ.alt e ds b z⟩
 |.exc C ns ds,v,h=>by unfold Rep at h |-;obtain⟨a,b,r,q,l,z⟩:=h;exact⟨a,b,r,Di e q (λ_ z=>by cases z) (λ_ _ z=>by cases z),l,hZ.alt e ds b z⟩
 |.loc k,v,h=>by unfold Rep at h |-;exact h
 |.cls _,v,h=>by unfold Rep at h |-;exact h
theorem hZ.alt {K:bz} {α:List aw} {H c:Hp} (e:Ym H c):∀(ds:List D) (b:List V),hZ K α H ds b->hZ K α c ds b
 |[],b,h=>by unfold hZ at h |-;exact h
 |d::ds,b,h=>by unfold hZ at h |-;obtain⟨v,r,q,z,y⟩:=h;exact⟨v,r,q,Rep.alt e d v z,hZ.alt e ds r y⟩
end
section
variable {K:bz}
def Two (iB:List (Key×V))(w:HO):Prop:=w=.dK iB\/∃ob,w=.qd ob (.dK iB)
theorem Two.vn(t:Two iB w):vn (aa w)=aa w:=by rcases t with rfl|⟨ob,rfl⟩<;>rfl
def Hy(ha:H a=aa w)(t:Two iB w)(c:Two iB w'):Ym (mw A H) (mw A (upd H a w')):=λb o e=>by
 obtain⟨n,q,v⟩:=qM e;by_cases z:b=a
 .subst z;rw[ha] at q;cases q;refine .inr ⟨iB,t,?_⟩;have g:mw A (upd H b w') b=aa w':=kt n iE c.vn;rcases c with rfl|⟨ob,rfl⟩
  .exact .inl g
  .exact .inr ⟨ob,g⟩
 .exact .inl (kt n (by rw[ii z];exact q) v)
def OK.two(o:OK K F α H M)(ha:H a=aa w)(na:a∉lv α M++F)(t:Two iB w)(h:Two iB w'):OK K F α (upd H a w') M:=by
 refine⟨o.ml,o.nd,λb hb=>⟨(o.fr b hb).1,?_⟩,λb hb=>?_,λk x i=>?_,o.tb.upd (.inl ?_)⟩
 .rw[ii λz=>na (bL _ (by rw[<-z];exact hb))];exact(o.fr b hb).2
 .by_cases z:b=a
  .rw[z,iE,h.vn];exactλz=>by cases z
  .rw[ii z];exact o.al b hb
 .obtain⟨b,e,r⟩:=o.own k x i;have f:b≠a:=λz=>na (bW _ (by rw[<-z];exact nL.mpr ⟨k,x,e,i⟩));refine⟨b,e,?_⟩;have al:Ym (jU F α M H) _:=Hy ha t h;cases x with
  |lst ds=>obtain⟨c,q,r⟩:=r;exact⟨c,by rw[ii f];exact q,hZ.alt al _ _ r⟩
  |kE j ds=>obtain⟨c,q,l,r⟩:=r;exact⟨c,by rw[ii f];exact q,l,hZ.alt al _ _ r⟩
  |ins C ns ds=>obtain⟨m,c,q,l,r⟩:=r;exact⟨m,c,by rw[ii f];exact q,l,hZ.alt al _ _ r⟩
  |fz k n j ds=>obtain⟨g,c,q,l,r⟩:=r;exact⟨g,c,by rw[ii f];exact q,l,hZ.alt al _ _ r⟩
 .rw[ha,t.vn];exactλz=>by cases z
def Ext.Dh{ob:cC}(ha:H a=aa (.dK iB))(na:a∉lv α M++F)(e:Ext F α (upd H a (.qd ob (.dK iB))) M c f h):
  f a=aa (.qd ob (.dK iB))/\a∉lv c h++F/\Ext F α H M c (upd f a (.dK iB)) h:=by
 have g:=e.same a _ (kt na iE rfl);obtain⟨i,m⟩:=iW g;refine⟨m,i,e.pre,λb o q=>?_,λb hb=>?_⟩
 .obtain⟨n,q,v⟩:=qM q;by_cases z:b=a
  .subst z;rw[ha] at q;cases q;exact kt i iE rfl
  .have:=e.same b o (kt n (by rw[ii z];exact q) v);obtain⟨p,r⟩:=iW this;exact kt p (by rw[ii z];exact r) v
 .have j:b≠a:=λz=>na (bL _ (by rw[<-z];exact hb));rw[ii j,e.fr b hb,ii j]
end
def er(p:aw)(H:Hp):Hp:=λb=>if b=p then ar else H b
structure Kb(X:Cx)(F jb:List aw)(H1 Hf:Hp)(M1:Ms)(T:Hp->Hp):Prop where
 ok:OK X.K F jb Hf M1
 rep:∀d v,Rep X.K jb (jU F jb M1 H1) d v->Rep X.K jb (jU F jb M1 Hf) d v
 e:∀iR H' M',Ext F jb Hf M1 iR H' M'->OK X.K F iR H' M'->Ext F jb H1 M1 iR (T H') M'/\OK X.K F iR (T H') M'/\∀d v,Rep X.K iR (jU F iR M' H') d v->Rep X.K iR (jU F iR M' (T H')) d v
 h:∀iR H' M' (P:Hp->Prop),Ext F jb Hf M1 iR H' M'->P (T H')->TH X P H'
 c:∀p H' x,Hf p=ar->H' p=aa x->upd (T (er p H')) p x=T H'
 n:∀p H',Hf p=ar->H' p=ar->T H' p=ar
 k:∀iR H' M' b φ,Ext F jb Hf M1 iR H' M'->H' b=aa (.ext φ)->T H' b=aa (.ext φ)
theorem hZ.imp{K:bz}(f:∀d v,Rep K α H d v->Rep K α b d v):∀(ds:List D) (a:List V),hZ K α H ds a->hZ K α b ds a
 |[],a,h=>by exact h
 |d::ds,a,h=>by obtain⟨v,r,q,z,y⟩:=h;exact⟨v,r,q,f d v z,hZ.imp f ds r y⟩
section
variable {X:Cx} {M1:Ms}
def Kb.refl(o:OK X.K F jb H1 M1):Kb X F jb H1 H1 M1 id:=
 ⟨o,λ_ _ r=>r,λ_ _ _ e o=>⟨e,o,λ_ _ r=>r⟩,λ_ _ _ _ _ p=>.inl p,λp a x _ h=>by
  funext b;show upd (er p a) p x b=a b;by_cases z:b=p
  .rw[z,iE,h]
  .rw[ii z];unfold er;rw[if_neg z],λ_ _ _ h=>h,λ_ _ _ _ _ _ h=>h⟩
def Kb.rs(z:Kb X F jb H1 Hf M1 T)(r:R X.K F jb H1 σ a M1):R X.K F jb Hf σ a M1:=⟨z.ok,r.len,λi d q=>by obtain⟨v,b,c⟩:=r.sl i d q;exact⟨v,b,z.rep d v c⟩⟩
def Kb.rt(z:Kb X F jb H1 Hf M1 T){a:List aw}{b:Hp}{c:Ms}{g:L2.St}{h:nB}(e:Ext F jb Hf M1 a b c)(f:R X.K F a b g h c):R X.K F a (T b) g h c:=by
 obtain⟨_,j,m⟩:=z.e _ _ _ e f.ok;exact⟨j,f.len,λi d q=>by obtain⟨v,n,o⟩:=f.sl i d q;exact⟨v,n,m d v o⟩⟩
def Kb.dict(o:OK X.K F jb H1 M1)(ha:H1 a=aa (.dK i))(na:a∉lv jb M1++F)(s:∀o u,X.je a≠aa (.qd o u)):
  Kb X F jb H1 (upd H1 a (.qd ob (.dK i))) M1 (λc=>upd c a (.dK i)):=by
 have t:Two i _:=.inl rfl;have j:Two i _:=.inr ⟨ob,rfl⟩;refine⟨o.two ha na t j,λd v r=>Rep.alt (Hy ha t j) d v r,λn c q e o=>?_,λn c q P e p=>?_,λp c x g w=>?_,λp c g hn=>?_,λn c q b E e h=>?_⟩
 .obtain⟨f,A,B⟩:=Ext.Dh ha na e;exact⟨B,o.two f A j t,λd v C=>Rep.alt (Hy f j t) d v C⟩
 .obtain⟨f,_,_⟩:=Ext.Dh ha na e;exact .inr ⟨a,ob,_,f,s,p⟩
 .have m:p≠a:=λz=>by rw[z,iE] at g;cases g
  funext b;by_cases z:b=p
  .rw[z,iE,ii m];exact w.symm
  .rw[ii z];by_cases y:b=a
   .rw[y,iE,iE]
   .rw[ii y,ii y];unfold er;rw[if_neg z]
 .rw[ii λz=>by rw[z,iE] at g;cases g];exact hn
 .obtain⟨f,_,_⟩:=Ext.Dh ha na e;rw[ii λz=>by rw[z,f] at h;cases h];exact h
end
def agE (K:bz)(α:List aw)(c:Hp):OD->HO->Prop
 |.lst ds,b=>∃a,b=.lst a/\hZ K α c ds a
 |.kE e ds,b=>∃a,b=.dK (e.zip a)/\e.length=ds.length/\hZ K α c ds a
 |.ins _ _ _,_=>False
 |.fz _ _ _ _,_=>False
def OD.toD:OD->D
 |.lst ds=>.lst ds
 |.kE a ds=>.kE a ds
 |.ins C ns ds=>.ins C ns ds
 |.fz k _ _ _=>.loc k
abbrev DF:=nB->Ms->(OD->Ms->Prop)->Prop
abbrev fK(K:bz)(F α:List aw)(H:Hp)(M:Ms)(Q:VK):OD->Ms->Prop:=λo M1=>∀p b a H1,Ext F α H M a H1 M1->OK K F a H1 M1->H1 p=ar->agE K a (jU F a M1 H1) o b->Q (.ref p) (upd H1 p b)
def lF (K:bz)(t:DF):TE:=λσ H Q=>∃F α a M,R K F α H σ a M/\t a M (fK K F α H M Q)
structure JF(X:Cx)(e:bJ)(t:DF):Prop where
 mono:∀δ M (P Q:OD->Ms->Prop),(∀d M,P d M->Q d M)->t δ M P->t δ M Q
 p:PE X e (lF X.K t)
section
variable {K:bz}
def fK.grow(e:Ext F α H M iR H' M'):∀d a,fK K F α H M Q d a->fK K F iR H' M' Q d a:=λd a h p b c f e2 o2 g i=>h p b c f (e.trans e2) o2 g i
def fK.qd{M1:Ms}(h:vK K F α H M Q o.toD M1):fK K F α H M Q o M1:=by
 intro p g i H1 e1 o1 b a;have q:=vK.grow e1 _ _ h;refine vK.new o1 b q λe=>?_;cases o with
 |lst ds=>obtain⟨c,rfl,r⟩:=a;exact pO o1 b r e
 |kE f ds=>
  obtain⟨c,rfl,l,r⟩:=a;exact⟨p,c,rfl,.inl (by show mw _ _ p=_;rw[l7 (o1.new b),iE]),l,e.Dc r⟩
 |ins C ns ds=>exact a.elim
 |fz k j f ds=>exact a.elim
def fK.own{M1:Ms}(h:vK K F α H M Q (.loc M1.length) (M1++[aa o])):fK K F α H M Q o M1:=by
 intro p e i H1 e1 o1 a b;have f:=o1.Dd (x:=o) a (C9 (o:=e) a);obtain⟨o2,e2⟩:=o1.enter (x:=o) (H':=upd H1 p e) a (C9 a) (by
  cases o with
  |lst ds=>obtain⟨c,rfl,r⟩:=b;exact⟨c,iE,hZ.mono (cQ _ _) f _ _ r⟩
  |kE g ds=>obtain⟨c,rfl,l,r⟩:=b;exact⟨c,iE,l,hZ.mono (cQ _ _) f _ _ r⟩
  |ins C ns ds=>exact b.elim
  |fz k j g ds=>exact b.elim)
 refine h _ _ _ (e1.trans e2) o2 ?_;exact⟨p,by rw[<-o1.ml];simp,rfl⟩
end
section
variable {X:Cx} {es rest:List bJ}
def jV (t:DF):DE:=λf M Q=>t f M λo M1=>Q o.toD M1
def pP (t:DF):DE:=λf M Q=>t f M λo M1=>Q (.loc M1.length) (M1++[aa o])
def jw(h:JF X e tf):JE X e (jV tf):=⟨λf M P Q w q=>h.mono f _ _ _ (λo M1 q=>w _ _ q) q,PE.weak h.p λσ H Q ⟨F,α,f,M,r,q⟩=>⟨F,α,f,M,r,h.mono f _ _ _ (λo M1 q=>fK.qd q) q⟩⟩
def mz(h:JF X e tf):JE X e (pP tf):=⟨λf M P Q w q=>h.mono f _ _ _ (λo M1 q=>w _ _ q) q,PE.weak h.p λσ H Q ⟨F,α,f,M,r,q⟩=>⟨F,α,f,M,r,h.mono f _ _ _ (λo M1 q=>fK.own q) q⟩⟩
def mM (tt:DA):DF:=λf M Q=>tt f M λds M1=>ds.length<=aO/\Q (.lst ds) M1
def jH(h:JA X es tt):JF X (.List es pos) (mM tt):=by refine⟨λf M P Q w q=>h.mono f _ _ _ (λds M1 q=>⟨q.1,w _ _ q.2⟩) q,PE.weak (abD h.p) λσ H Q q=>?_⟩;obtain⟨F,α,f,M,r,q⟩:=q;refine⟨F,α,f,M,r,h.mono f _ _ _ (λds M1 q g j H1 e1 o1 i=>?_) q⟩;exact⟨by rw[<-hZ.length ds g i];exact q.1,λp m=>q.2 p _ j H1 e1 o1 m ⟨g,rfl,i⟩⟩
def Dj:DF:=λf M Q=>Q (.kE [] []) M
def zp:JF X (.Dict [] [] pos) Dj:=
 ⟨λf M P Q w q=>w _ _ q,PE.weak Uh λσ H Q ⟨F,α,f,M,r,q⟩=>λp g=>q p _ α H Ext.refl r.ok g ⟨[],rfl,rfl,hZ.nil⟩⟩
end
structure jZ where
 nx:nB->Ms->Prop
 rt:DK
 bk:nB->Ms->Prop
 ct:nB->Ms->Prop
abbrev DS:=jZ->nB->Ms->Prop
structure jZ.le(P Q:jZ):Prop where
 nx:∀δ M,P.nx δ M->Q.nx δ M
 rt:∀d M,P.rt d M->Q.rt d M
 bk:∀δ M,P.bk δ M->Q.bk δ M
 ct:∀δ M,P.ct δ M->Q.ct δ M
def jZ.le.refl(P:jZ):P.le P:=⟨λ_ _ h=>h,λ_ _ h=>h,λ_ _ h=>h,λ_ _ h=>h⟩
abbrev sK(K:bz)(F α:List aw)(H:Hp)(M:Ms)(Q:L2.St->Hp->Prop):nB->Ms->Prop:=λf b=>∀c e a,Ext F α H M e a b->R K F e a c f b->Q c a
def qN(K:bz)(F α:List aw)(H:Hp)(M:Ms)(E:Ends):jZ:=⟨sK K F α H M E.nx,vK K F α H M E.rt,sK K F α H M E.bk,sK K F α H M E.ct⟩
def lS (K:bz)(t:DS):TS:=λE σ H=>∃F α a M,R K F α H σ a M/\t (qN K F α H M E) a M
section
variable {K:bz}
def sK.grow(e:Ext F α H M iR H' M'):∀d a,sK K F α H M Q d a->sK K F iR H' M' Q d a:=λd a h v b c e2 o2=>h v b c (e.trans e2) o2
theorem qN.grow(e:Ext F α H M iR H' M'):(qN K F α H M E).le (qN K F iR H' M' E):=⟨sK.grow e,vK.grow e,sK.grow e,sK.grow e⟩
end
structure JS(X:Cx)(st:c5)(t:DS):Prop where
 mono:∀(P Q:jZ) δ M,P.le Q->t P δ M->t Q δ M
 p:PS X st (lS X.K t)
structure Dk(X:Cx)(st:List c5)(t:DS):Prop where
 mono:∀(P Q:jZ) δ M,P.le Q->t P δ M->t Q δ M
 p:y7 X st (lS X.K t)
section
variable {X:Cx} {t:DS} {pos:eL} {st:c5} {bs:List c5}
def iP:DS:=λE a M=>E.nx a M
def iz (t u:DS):DS:=λE a M=>t {E with nx:=u E} a M
def iI:Dk X [] iP:=⟨λP Q a M w q=>w.nx _ _ q,y7.weak XC λE σ H ⟨F,α,a,M,r,q⟩=>q σ α H Ext.refl r⟩
def ie(h:JS X st t):Dk X [st] t:=⟨h.mono,Pu h.p⟩
def ia(a:JS X st t)(b:Dk X Xn u):Dk X (st::Xn) (iz t u):=by refine⟨λP Q f M w q=>a.mono {P with nx:=u P} _ _ _ ⟨λf M q=>b.mono _ _ _ _ w q,w.rt,w.bk,w.ct⟩ q,y7.weak (JN a.p b.p) λE σ H q=>?_⟩;obtain⟨F,α,f,M,r,q⟩:=q;refine⟨F,α,f,M,r,a.mono {qN X.K F α H M E with nx:=u _} _ _ _ ⟨λg M1 q j h H1 e1 i=>⟨F,h,g,M1,i,b.mono _ _ _ _ (qN.grow e1) q⟩,λ_ _ q=>q,λ_ _ q=>q,λ_ _ q=>q⟩ q⟩
def iN (te:DE):DS:=λE a M=>te a M E.rt
def il(b:JE X e te):JS X (.Return (aa e) pos) (iN te):=⟨λP Q a M w q=>b.mono a _ _ _ w.rt q,PS.weak (abh b.p) λE σ H ⟨F,α,a,M,r,q⟩=>⟨F,α,a,M,r,q⟩⟩
def um:DS:=λ_ _ _=>False
def qO:JS X st um:=⟨λP Q a M w q=>q,PS.weak TY λE σ H ⟨F,α,a,M,r,q⟩=>q⟩
def js (c:DT)(t u:DS):DS:=λE a M=>c a M λb M1=>if b=ag then t E a M1 else u E a M1
def iX(hc:JT X c tA)(ha:Dk X as t)(hb:Dk X bs u):JS X (.If c as bs pos) (js tA t u):=by
 refine⟨λP Q a M w q=>hc.mono a _ _ _ (λb M1 q=>?_) q,PS.weak (aak hc.p ha.p hb.p) λE σ H q=>?_⟩
 .cases b with
  |true=>exact ha.mono _ _ _ _ w q
  |false=>exact hb.mono _ _ _ _ w q
 .obtain⟨F,α,a,M,r,q⟩:=q;refine⟨F,α,a,M,r,hc.mono a _ _ _ (λb M1 q f H1 e1 o1=>?_) q⟩;cases b with
  |true=>
   exact⟨F,f,a,M1,r.grow e1 o1,ha.mono _ _ _ _ (qN.grow e1) q⟩
  |false=>
   exact⟨F,f,a,M1,r.grow e1 o1,hb.mono _ _ _ _ (qN.grow e1) q⟩
def lp (te:DE):DS:=λE a M=>te a M λ_ M1=>E.nx a M1
def kb(b:JE X e te)(f:fj e ar pos.line X.env=pure au:=by rfl):JS X (.Expr e pos) (lp te):=by refine⟨λP Q a M w q=>b.mono a _ _ _ (λd M1 q=>w.nx _ _ q) q,PS.weak (Pw b.p f) λE σ H q=>?_⟩;obtain⟨F,α,a,M,r,q⟩:=q;exact⟨F,α,a,M,r,b.mono a _ _ _ (λd M1 q v g H1 e1 o1 h=>q σ g H1 e1 (r.grow e1 o1)) q⟩
def jl (i:Nat)(te:DE):DS:=λE a M=>te a M λd M1=>E.nx (a.set i (aa d)) M1
def iH(i:Nat)(f:X.N.Nodup)(b:JE X e te)(hi:X.N[i]?=aa x:=by rfl)(g:Loc X.env.scope x:=by first|exact ahS rfl|exact ahA rfl)(h:fj e (aa (.Name x p)) pos.line X.env=pure au:=by rfl)
(j:X.fn x=ag\/X.env.scope.names.lookup x=aa .local:=by first|exact .inl rfl|exact .inr rfl|assumption):JS X (.Assign [.Name x p] e pos) (jl i te):=by refine⟨λP Q a M w q=>b.mono a _ _ _ (λd M1 q=>w.nx _ _ q) q,PS.weak (abl f hi g b.p h j) λE σ H q=>?_⟩;obtain⟨F,α,a,M,r,q⟩:=q;exact⟨F,α,a,M,r,b.mono a _ _ _ (λd M1 q v m H1 e1 o1 n=>q _ m H1 e1 ((r.grow e1 o1).set n)) q⟩
abbrev DG:=D->nB->Ms->(nB->Ms->Prop)->Prop
abbrev Yn:=List D->nB->Ms->(nB->Ms->Prop)->Prop
def lG (K:bz)(g:DG):TG:=λv σ H Q=>∃F α a M d,R K F α H σ a M/\Rep K α (jU F α M H) d v/\g d a M (sK K F α H M Q)
def lGs (K:bz)(g:Yn):TGs:=λb σ H Q=>∃F α a M ds,R K F α H σ a M/\hZ K α (jU F α M H) ds b/\g ds a M (sK K F α H M Q)
structure JG(X:Cx)(tg:bJ)(g:DG):Prop where
 mono:∀d δ M (P Q:nB->Ms->Prop),(∀δ M,P δ M->Q δ M)->g d δ M P->g d δ M Q
 p:PG X tg (lG X.K g)
structure JGs(X:Cx)(tg:List bJ)(g:Yn):Prop where
 mono:∀d δ M (P Q:nB->Ms->Prop),(∀δ M,P δ M->Q δ M)->g d δ M P->g d δ M Q
 p:TZ X tg (lGs X.K g)
def PG.weak(h:PG X tg g)(w:∀v σ H Q,a v σ H Q->g v σ H Q):PG X tg a:=λcc s σ H v u Q I r q=>h cc s σ H v u Q I r (w v σ H Q q)
def TZ.weak(h:TZ X tg g)(w:∀v σ H Q,a v σ H Q->g v σ H Q):TZ X tg a:=λcc s σ H v u Q I r q=>h cc s σ H v u Q I r (w v σ H Q q)
def iq (i:Nat):DG:=λd a M Q=>Q (a.set i (aa d)) M
def ip(i:Nat)(a:X.N.Nodup)(hi:X.N[i]?=aa x:=by rfl)(b:Loc X.env.scope x:=by first|exact ahS rfl|exact ahA rfl)(f:X.fn x=ag\/X.env.scope.names.lookup x=aa .local:=by first|exact .inl rfl|exact .inr rfl|assumption):JG X (.Name x pos) (iq i):=
 ⟨λd g M P Q w q=>w _ _ q,PG.weak (XF a hi b f) λv σ H Q ⟨F,α,g,M,d,r,rd,q⟩=>q _ α H Ext.refl (r.set rd)⟩
def lq:Yn:=λds a M Q=>ds=[]/\Q a M
def iO (g:DG)(gs:Yn):Yn:=λds a M Q=>match ds with|d::r=>g d a M λb M1=>gs r b M1 Q|[]=>False
def jC:JGs X [] lq:=⟨λd a M P Q w q=>⟨q.1,w _ _ q.2⟩,TZ.weak XG λv σ H Q ⟨F,α,a,M,ds,r,rd,e,q⟩=>by subst e;exact⟨rd,q σ α H Ext.refl r⟩⟩
def iy(a:JG X e g)(b:JGs X es gs)(h:(eF (e::es) X.env).map (·.2)=assign e X.env::(eF es X.env).map (·.2):=by rfl):JGs X (e::es) (iO g gs):=by
 refine⟨λd f M P Q w q=>?_,TZ.weak (T0 a.p b.p h) λv σ H Q q=>?_⟩
 .cases d with
  |nil=>exact q.elim
  |cons d r=>exact a.mono _ _ _ _ _ (λf M q=>b.mono _ _ _ _ _ w q) q
 .obtain⟨F,α,f,M,ds,r,rd,q⟩:=q;cases ds with
  |nil=>exact q.elim
  |cons d dr=>
   obtain⟨v1,i,rfl,j,m⟩:=rd;refine⟨v1,i,rfl,F,α,f,M,d,r,j,a.mono _ _ _ _ _ (λn M1 q y o H1 e1 s=>?_) q⟩;exact⟨F,o,n,M1,dr,s,e1.Dc m,b.mono _ _ _ _ _ (sK.grow e1) q⟩
def k7 (n:Nat)(gs:Yn):DG:=λd a M Q=>match d with|.tup ds=>ds.length=n/\gs ds a M Q|_=>False
def kg(h:JGs X es gs)(hc:X.calm=ag:=by rfl)(hn:(eF es X.env).length=n:=by rfl)(f:(eF es X.env).findIdx? (·.1)=ar:=by rfl):JG X (.Tuple es k pos) (k7 n gs):=by
 refine⟨λd b M P Q w q=>?_,PG.weak (abj hc h.p hn f) λv σ H Q q=>?_⟩
 .cases d<;>first|exact q.elim|exact⟨q.1,h.mono _ _ _ _ _ w q.2⟩
 .obtain⟨F,α,b,M,d,r,rd,q⟩:=q;cases d<;>first|exact q.elim|skip
  obtain⟨a,g,rfl,i,z⟩:=rd;exact⟨a,g,rfl,nA iJ i,by rw[<-hZ.length _ _ z];exact q.1,F,α,b,M,_,r,z,q.2⟩
def UM (te:DE)(g:DG):DS:=λE a M=>te a M λd M1=>g d a M1 E.nx
def Hz(b:JE X e te)(f:JG X tg g)(h:ajU [tg] e pos.line X.env=pure au:=by rfl)(hw:ajV [tg] e X.env=pure ar:=by rfl)
(i:(eF [tg] X.env).map (·.2)=[assign tg X.env]:=by rfl):JS X (.Assign [tg] e pos) (UM te g):=by refine⟨λP Q a M w q=>b.mono a _ _ _ (λd M1 q=>f.mono _ _ _ _ _ w.nx q) q,PS.weak (abk b.p f.p h hw i) λE σ H q=>?_⟩;obtain⟨F,α,a,M,r,q⟩:=q;refine⟨F,α,a,M,r,b.mono a _ _ _ (λd M1 q v j H1 e1 o1 m=>?_) q⟩;exact⟨F,j,a,M1,d,r.grow e1 o1,m,f.mono _ _ _ _ _ (sK.grow e1) q⟩
structure Yo(K:bz)(F jb:List aw)(H1:Hp)(M1:Ms)(J:It)(items:List D)(st:Ms->Prop):Prop where
 go:∀i F' iR H' M',jb <+: iR->kC (jU F jb M1 H1) (jU F' iR M' H')->OK K F' iR H' M'->st M'->i<items.length->J.go i H'
 yld:∀(i:Nat) F' iR H' M' x H2 d,jb <+: iR->kC (jU F jb M1 H1) (jU F' iR M' H')->OK K F' iR H' M'->st M'->items[i]?=aa d->J.yld i H' x H2->OK K F' iR H2 M'/\Ext F' iR H' M' iR H2 M'/\Rep K iR (jU F' iR M' H2) d x
 stop:∀F' iR H' M',jb <+: iR->kC (jU F jb M1 H1) (jU F' iR M' H')->OK K F' iR H' M'->st M'->J.stop items.length H'
abbrev DI:=nB->Ms->(List D->(Ms->Prop)->Ms->Prop)->Prop
abbrev iK(X:Cx)(F α:List aw)(H:Hp)(M:Ms)(Q:It->Hp->Prop):List D->(Ms->Prop)->Ms->Prop:=λitems st M1=>∀J a H1 b T,Ext F α H M a H1 M1->OK X.K F a H1 M1->Kb X F a H1 b M1 T->Yo X.K F a b M1 J items st->Q J b
def lI (X:Cx)(t:DI):TI:=λσ H Q=>∃F α a M,R X.K F α H σ a M/\t a M (iK X F α H M Q)
structure JI(X:Cx)(tg e:bJ)(t:DI):Prop where
 mono:∀δ M (P Q:List D->(Ms->Prop)->Ms->Prop),(∀l s M,P l s M->Q l s M)->t δ M P->t δ M Q
 p:PI X tg e (lI X t)
def PI.weak{t a:TI}(h:PI X tg e t)(w:∀σ H Q,a σ H Q->t σ H Q):PI X tg e a:=λcc s σ H Q I q=>h cc s σ H Q I (w σ H Q q)
def xV (g:DG)(tb:DS)(st:Ms->Prop)(E:jZ):List D->nB->Ms->Prop
 |[]=>λb M=>E.nx b M
 |x::xs=>λb M=>g x b M λh M1=>tb {E with nx:=λf a=>st a/\xV g tb st E xs f a,ct:=λf a=>st a/\xV g tb st E xs f a,bk:=E.nx} h M1
def qv (b:DI)(g:DG)(tb:DS):DS:=λE a M=>b a M λitems st M1=>st M1/\xV g tb st E items a M1
theorem Az{st:Ms->Prop}(h:∀d a M (P Q:nB->Ms->Prop),(∀a M,P a M->Q a M)->g d a M P->g d a M Q)(hb:∀(P Q:jZ) a M,P.le Q->tb P a M->tb Q a M)(w:P.le Q):∀xs a M,xV g tb st P xs a M->xV g tb st Q xs a M
 |[],a,M,q=>w.nx _ _ q
 |x::xs,a,M,q=>h _ _ _ _ _ (λi M1 q=>hb {P with nx:=λf b=>st b/\xV g tb st P xs f b,ct:=λf b=>st b/\xV g tb st P xs f b,bk:=P.nx} _ _ _ ⟨λf b q=>⟨q.1,Az h hb w xs f b q.2⟩,w.rt,w.nx,λf b q=>⟨q.1,Az h hb w xs f b q.2⟩⟩ q) q
def kW(hi:JI X tg e ti)(hg:JG X tg g)(hb:Dk X body tb)(hp:aid (model X.prog X.w) X.A X.env X.xe:=by exact aid.never)(hc:X.calm=ag:=by rfl)
(hs:∀x,eQ e X.env x=pure x:=by intro _;rfl):JS X (.For tg e body [] pos) (qv ti g tb):=by
 refine⟨λP Q L M w q=>hi.mono L _ _ _ (λitems st M1 q=>⟨q.1,Az hg.mono hb.mono w _ _ _ q.2⟩) q,Ka (abo hp hc hi.p hg.p hb.p hs) λE σ H q=>?_⟩;obtain⟨F,α,L,M,r,q⟩:=q;refine⟨F,α,L,M,r,hi.mono L _ _ _ (λitems st M1 q J jb H1 Hf T e1 o1 z it=>?_) q⟩;obtain⟨s1,q⟩:=q;refine⟨λi m j9 j=>m=items.length- i/\i<=items.length/\∃f U a,Ext F jb Hf M1 f j a/\R X.K F f j j9 U a/\st a/\xV g tb st _ (items.drop i) U a,⟨_,rfl,bD _,jb,L,M1,Ext.refl,z.rs (r.grow e1 o1),s1,q⟩,?_⟩
 rintro i m j9 j ⟨rfl,PP,f,U,a,e',I,s',Y⟩
 by_cases B2:i<items.length
 .rw[List.drop_eq_getElem_cons B2] at Y;refine .inr ⟨it.go i F f j a e'.pre e'.same I.ok s' B2,λHi N=>∃tI RG M2,Ext F jb Hf M1 tI N M2/\R X.K F tI N Hi RG M2/\st M2/\xV g tb st _ _ RG M2,λHi N h=>⟨_,by omega,rfl,B2,h⟩,λx N y=>?_⟩;obtain⟨o2,e2,rx⟩:=it.yld i F f j a x N items[i] e'.pre e'.same I.ok s' (by simp[B2]) y;refine⟨F,f,U,a,items[i],I.grow e2 o2,rx,hg.mono _ _ _ _ _ (λYp M3 q3 MB Fu H3 e3 r3=>⟨F,Fu,Yp,M3,r3,hb.mono _ _ _ _ ?_ q3⟩) Y⟩;have Hx:=(e'.trans e2).trans e3;refine⟨λn o C G b s e4 B=>⟨b,n,o,Hx.trans e4,B,C⟩,λd o C v b s e4 o4 B=>?_,λn o C G b s e4 B=>?_,λn o C G b s e4 B=>⟨b,n,o,Hx.trans e4,B,C⟩⟩
  .obtain⟨O,t2,t3⟩:=z.e b s o (Hx.trans e4) o4;exact z.h b s o _ (Hx.trans e4) (C v b (T s) (e1.trans O) t2 (t3 d v B))
  .obtain⟨O,_,_⟩:=z.e b s o (Hx.trans e4) B.ok;exact z.h b s o _ (Hx.trans e4) (C G b (T s) (e1.trans O) (z.rt (Hx.trans e4) B))
 .have e:i=items.length:=by omega
  subst e;rw[List.drop_length] at Y;obtain⟨O,_,_⟩:=z.e f j a e' I.ok;exact .inl ⟨it.stop F f j a e'.pre e'.same I.ok s',z.h f j a _ e' (Y j9 f (T j) (e1.trans O) (z.rt e' I))⟩
def oF (c:DT)(tb:DS)(E:jZ):Nat->nB->Ms->Prop
 |0=>λ_ _=>False
 |n+1=>λa M=>c a M λb M1=>if b=ag then tb {E with nx:=oF c tb E n,ct:=oF c tb E n,bk:=E.nx} a M1 else E.nx a M1
def Ni (c:DT)(tb:DS):DS:=λE a M=>∃n,oF c tb E n a M
theorem vL{c:DT}{tb:DS}(hc:∀a M (P Q:Bool->Ms->Prop),(∀d M,P d M->Q d M)->c a M P->c a M Q)(hb:∀(P Q:jZ) a M,P.le Q->tb P a M->tb Q a M){P Q:jZ}(w:P.le Q):∀n a M,oF c tb P n a M->oF c tb Q n a M
 |0,_,_,q=>q
 |n+1,a,M,q=>hc _ _ _ _ (λb M1 q=>by
  cases b with
  |true=>rw[if_pos rfl] at q |-;exact hb {P with nx:=oF c tb P n,ct:=oF c tb P n,bk:=P.nx} {Q with nx:=oF c tb Q n,ct:=oF c tb Q n,bk:=Q.nx} _ _ ⟨vL hc hb w n,w.rt,w.nx,vL hc hb w n⟩ q
  |false=>rw[if_neg aS] at q |-;exact w.nx _ _ q) q
def Kc{body:List c5}{tb:DS}(hc:JT X c tA)(hb:Dk X body tb)(N:aid (model X.prog X.w) X.A X.env X.xe:=by exact aid.never):JS X (.While c body [] pos) (Ni tA tb):=by
 refine⟨λP Q I M w ⟨n,q⟩=>⟨n,vL hc.mono hb.mono w n _ _ q⟩,PS.weak (T4 N hc.p hb.p) λE σ H q=>?_⟩;obtain⟨F,α,I,M,r,n,q⟩:=q;refine⟨λm y z=>∃o g i,Ext F α H M o z i/\R X.K F o z y g i/\oF tA tb (qN X.K F α H M E) m g i,⟨n,α,I,M,Ext.refl,r,q⟩,?_⟩
 rintro m y z ⟨o,g,i,e',B,J⟩
 cases m with
 |zero=>exact J.elim
 |succ m=>
  refine⟨F,o,g,i,B,hc.mono _ _ _ _ (λb M1 s L H1 e1 o1=>?_) J⟩;cases b with
  |true=>
   rw[if_pos rfl] at s;show(if ag=ag then _ else _);rw[if_pos rfl];refine⟨λv j=>∃a f M2,Ext F α H M a j M2/\R X.K F a j v f M2/\oF tA tb (qN X.K F α H M E) m f M2,λv j h=>⟨m,eW _,h⟩,F,L,g,M1,B.grow e1 o1,hb.mono _ _ _ _ ?_ s⟩;exact⟨λf M2 C v a j e2 G=>⟨a,f,M2,(e'.trans e1).trans e2,G,C⟩,vK.grow (e'.trans e1),sK.grow (e'.trans e1),λf M2 C v a j e2 G=>⟨a,f,M2,(e'.trans e1).trans e2,G,C⟩⟩
  |false=>
   rw[if_neg aS] at s;show(if au=ag then _ else _);rw[if_neg aS];exact s y L H1 (e'.trans e1) (B.grow e1 o1)
end
mutual
def nl:D->Bool
 |.non|.bl _|.int _|.str _|.ty _|.rS _|.cls _=>ag
 |.loc _=>au
 |.tup ds|.lst ds|.kE _ ds|.ins _ _ ds|.exc _ _ ds=>mY ds
def mY:List D->Bool
 |[]=>ag
 |d::ds=>nl d&&mY ds
end
mutual
theorem Rep.nl {K:bz} {α β:List aw} {H:Hp}:∀(d:D) (v:V),L3.nl d=ag->Rep K α H d v->Rep K β H d v
 |.non,v,_,h=>by unfold Rep at h |-;exact h
 |.bl _,v,_,h=>by unfold Rep at h |-;exact h
 |.int _,v,_,h=>by unfold Rep at h |-;exact h
 |.str _,v,_,h=>by unfold Rep at h |-;exact h
 |.ty _,v,_,h=>by unfold Rep at h |-;exact h
 |.rS _,v,_,h=>by unfold Rep at h |-;exact h
 |.cls _,v,_,h=>by unfold Rep at h |-;exact h
 |.loc _,v,n,h=>by unfold L3.nl at n;cases n
 |.tup ds,v,n,h=>by unfold Rep at h |-;unfold L3.nl at n;obtain⟨a,b,r,q,z⟩:=h;exact⟨a,b,r,q,hZ.nl ds b n z⟩
 |.lst ds,v,n,h=>by unfold Rep at h |-;unfold L3.nl at n;obtain⟨a,b,r,q,z⟩:=h;exact⟨a,b,r,q,hZ.nl ds b n z⟩
 |.kE e ds,v,n,h=>by unfold Rep at h |-;unfold L3.nl at n;obtain⟨a,b,r,q,l,z⟩:=h;exact⟨a,b,r,q,l,hZ.nl ds b n z⟩
 |.ins C ns ds,v,n,h=>by unfold Rep at h |-;unfold L3.nl at n;obtain⟨a,c,b,r,q,l,z⟩:=h;exact⟨a,c,b,r,q,l,hZ.nl ds b n z⟩
 |.exc C ns ds,v,n,h=>by unfold Rep at h |-;unfold L3.nl at n;obtain⟨a,b,r,q,l,z⟩:=h;exact⟨a,b,r,q,l,hZ.nl ds b n z⟩
theorem hZ.nl {K:bz} {α β:List aw} {H:Hp}:∀(d:List D) (v:List V),L3.mY d=ag->hZ K α H d v->hZ K β H d v
 |[],v,_,h=>by unfold hZ at h |-;exact h
 |d::ds,v,n,h=>by unfold hZ at h |-;unfold L3.mY at n;rw[aZ] at n;obtain⟨u,r,q,z,y⟩:=h;exact⟨u,r,q,Rep.nl d u n.1 z,hZ.nl ds r n.2 y⟩
end
theorem HA:∀ds:List D,mY ds=ds.all nl
 |[]=>rfl
 |d::ds=>by unfold mY;rw[fV,HA ds]
def kZ{β:Type}{f:β->D}(h:∀b,nl (f b)=ag)(l:List β):mY (l.map f)=ag:=by rw[HA];simp[h]
def vwk(k:Nat):Option (Option OD)->D
 |some (aa o)=>o.toD
 |_=>.loc k
def vw(M:Ms):D->D
 |.loc k=>vwk k M[k]?
 |d=>d
def fz(M:Ms):D->D
 |.tup ds=>.tup (ds.map (vw M))
 |d=>vw M d
section
variable {K:bz}
def qw:kC (jU F α M H) (mw F H):=λb o e=>by obtain⟨z,q⟩:=iW e;exact mL e (λw=>z (bL _ w)) q
def OK.agF(o:OK K F α H M)(h:a∈α):a∉F:=λw=>(o.fr a w).1 h
def xW(o:OK K F α H M):∀(d:D) (v:V),Rep K α (jU F α M H) d v->Rep K α (mw F H) (vw M d) v:=λd v h=>by
 have gen:=Rep.mono (aV _) qw d v h;cases d with
 |loc k=>
  show Rep K α _ (vwk k M[k]?) v;cases e:M[k]? with
  |none=>exact gen
  |some x=>
   cases x with
   |none=>exact gen
   |some y=>
    obtain⟨a,g,c⟩:=o.own k y e;obtain⟨p,i,rfl⟩:=h;rw[g] at i;cases i;have f:a∉F:=o.agF (bA g);cases y with
    |lst ds=>
     obtain⟨b,q,r⟩:=c;show Rep K α _ (.lst ds) _;exact⟨a,b,rfl,kt f q rfl,hZ.mono (aV _) qw _ _ r⟩
    |kE m ds=>
     obtain⟨b,q,l,r⟩:=c;show Rep K α _ (.kE m ds) _;exact⟨a,b,rfl,.inl (kt f q rfl),l,hZ.mono (aV _) qw _ _ r⟩
    |ins C ns ds=>
     obtain⟨n,b,q,l,r⟩:=c;exact⟨a,n,b,rfl,kt f q rfl,l,hZ.mono (aV _) qw _ _ r⟩
    |fz j s m ds=>
     show Rep K α _ (.loc j) _;exact⟨a,c.1,rfl⟩
 |_=>exact gen
def jh(e:vw M (.loc k)=d):d=.loc k\/∃o,M[k]?=aa (aa o)/\d=o.toD:=by
 have e:vwk k M[k]?=d:=e;cases h:M[k]? with
 |none=>rw[h] at e;exact .inl e.symm
 |some x=>
  cases x with
  |none=>rw[h] at e;exact .inl e.symm
  |some o=>rw[h] at e;exact .inr ⟨o,rfl,e.symm⟩
theorem PQ(o:OK K F α H M):∀(ds:List D) (a:List V),hZ K α (jU F α M H) ds a->hZ K α (mw F H) (ds.map (vw M)) a
 |[],a,h=>by subst h;exact hZ.nil
 |d::ds,a,h=>by obtain⟨v,r,rfl,z,y⟩:=h;exact hZ.cons (xW o d v z) (PQ o ds r y)
def UN(o:OK K F α H M):∀(d:D) (v:V),Rep K α (jU F α M H) d v->Rep K α (mw F H) (fz M d) v:=λd v h=>by
 cases d with
 |tup ds=>
  obtain⟨a,b,rfl,c,z⟩:=h;show Rep K α _ (.tup _) _;exact⟨a,b,rfl,nA qw c,PQ o _ _ z⟩
 |_=>exact xW o _ v h
def jN(o:OK K F α H M)(h:Rep K α (jU F α M H) d v)(e:vw M d=.lst ds):∃a b,v=.ref a/\H a=aa (.lst b)/\hZ K α (jU F α M H) ds b:=by
 cases d with
 |lst es=>
  cases(e);obtain⟨a,b,rfl,q,z⟩:=h;exact⟨a,b,rfl,iJ _ _ q,z⟩
 |loc k=>
  rcases jh e with e|⟨x,f,e⟩
  .cases e
  .cases x<;>cases e;obtain⟨a,g,b,q,r⟩:=o.own k _ f;obtain⟨i,c,rfl⟩:=h;rw[g] at c;cases c;exact⟨a,b,rfl,q,r⟩
 |_=>cases e
def _root_.L2.tH.kr{H:Hp}{a:aw}{b:List (Key×V)}{k:Key}(e:Rd H a (.dK b)):tH H a (kV k) (sI b k):=.inl ⟨b,k,e,rfl,rfl⟩
def oG(o:OK K F α H M)(h:Rep K α (jU F α M H) d v)(e:vw M d=.kE c ds):∃a b,v=.ref a/\Rd H a (.dK (c.zip b))/\c.length=ds.length/\hZ K α (jU F α M H) ds b:=by
 cases d with
 |kE ls es=>
  cases(e);obtain⟨a,b,rfl,q,l,z⟩:=h;exact⟨a,b,rfl,Hw iJ q,l,z⟩
 |loc k=>
  rcases jh e with e|⟨x,g,e⟩
  .cases e
  .cases x<;>cases e;obtain⟨a,i,b,q,l,r⟩:=o.own k _ g;obtain⟨j,f,rfl⟩:=h;rw[i] at f;cases f;exact⟨a,b,rfl,.inl q,l,r⟩
 |_=>cases e
def Nj(o:OK K F α H M)(h:Rep K α (jU F α M H) d v)(e:vw M d=.ins C ns ds):∃a c b,v=.ref a/\H a=aa (.ins C c (ns.zip b))/\ns.length=ds.length/\hZ K α (jU F α M H) ds b:=by
 cases d with
 |ins j ls es=>
  cases(e);obtain⟨a,c,b,rfl,q,l,z⟩:=h;exact⟨a,c,b,rfl,iJ _ _ q,l,z⟩
 |loc k=>
  rcases jh e with e|⟨x,g,e⟩
  .cases e
  .cases x<;>cases e;obtain⟨a,i,c,b,q,l,r⟩:=o.own k _ g;obtain⟨m,f,rfl⟩:=h;rw[i] at f;cases f;exact⟨a,c,b,rfl,q,l,r⟩
 |_=>cases e
def Nk(e:vw M d=.tup ds):d=.tup ds:=by
 cases d with
 |loc k=>rcases jh e with e|⟨x,a,e⟩<;>first|cases e|(cases x<;>cases e)
 |_=>exact e
def nO(e:vw M d=.str x):d=.str x:=by
 cases d with
 |loc k=>rcases jh e with e|⟨x,a,e⟩<;>first|cases e|(cases x<;>cases e)
 |_=>exact e
def vM(e:vw M d=.rS x):d=.rS x:=by
 cases d with
 |loc k=>rcases jh e with e|⟨x,a,e⟩<;>first|cases e|(cases x<;>cases e)
 |_=>exact e
def xX(e:vw M d=.int x):d=.int x:=by
 cases d with
 |loc k=>rcases jh e with e|⟨x,a,e⟩<;>first|cases e|(cases x<;>cases e)
 |_=>exact e
def mV(o:OK K F α H M)(h:Rep K α (jU F α M H) d v)(e:vw M d=.tup ds):∃a b,v=.ref a/\xQ K H a b/\hZ K α (jU F α M H) ds b:=by cases Nk e;obtain⟨a,b,rfl,q,z⟩:=h;exact⟨a,b,rfl,nA iJ q,z⟩
end
abbrev GP:=List D->(D->Prop)->Prop
def cl (g:GP):GN:=λds M Q=>mY ds=ag/\g ds λd=>Q d M
abbrev jD(g:GP):Prop:=∀ds (P Q:D->Prop),(∀d,P d->Q d)->g ds P->g ds Q
def HB(m:jD g):l8 (cl g):=λxs M P Q w q=>⟨q.1,m _ _ _ (λd q=>w _ _ q) q.2⟩
def qf(n:Nat)(ds:List D):nB:=ds.map aa++bX (n- ds.length) ar
def vf (n m:Nat)(tb:DS):GN:=λds M Q=>ds.length=m/\tb ⟨λ_ a=>Q .non a,Q,λ_ _=>False,λ_ _=>False⟩ (qf n ds) M
def lN (n m:Nat)(tb:DS):GP:=λds Q=>ds.length=m/\tb ⟨λ_ _=>Q .non,λd a=>nl (fz a d)=ag/\Q (fz a d),λ_ _=>False,λ_ _=>False⟩ (qf n ds) []
section
variable {K:bz}
def Ct(o:OK K F α H M)(r:hZ K α (jU F α M H) ds a):R K F α H (L2.start N a) (qf N.length ds) M:=by
 have b:=hZ.length _ _ r;refine⟨o,by simp[L2.start,qf,b],λi d h=>?_⟩;unfold qf at h;by_cases hi:i<ds.length
 .rw[aY (by simpa using hi)] at h;rw[bh] at h;cases e:ds[i]? with
  |none=>rw[e] at h;cases h
  |some x=>
   rw[e] at h;cases h;obtain⟨v,e1,c⟩:=hZ.get ds a i d r e;refine⟨v,?_,c⟩;unfold L2.start;rw[aY (by simp;omega),bh,e1];rfl
 .rw[cU (by simp;omega)] at h;have:=bA h;rw[List.mem_replicate] at this;cases this.2
def UO{c:List aX}(b:Dk X body tb)(f:X.K=K)(h:l9 K (vf n.length c.length tb) g H Q E):
  ∃t,QB X body t/\t {nx:=λ_ a=>Q .non a,rt:=Q} (L2.start n g) H:=by subst f;obtain⟨F,α,M,ds,o,r,j,q⟩:=h;refine⟨_,⟨b.p⟩,F,α,qf n.length ds,M,Ct o r,?_⟩;refine b.mono _ _ _ _ ?_ q;exact⟨λm s q u i a e r=>q _ i a e r.ok qt,λ_ _ q=>q,λ_ _ q=>q.elim,λ_ _ q=>q.elim⟩
def ni{M2:Ms}(o:OK K F α H M)(e2:Ext (lv α M++F) [] H [] i c M2)(o2:OK K (lv α M++F) i c M2):Ext F α H M α c M/\OK K F α c M:=by
 have f:=λb x h=>qw _ _ (e2.same b x (by exact h))
 have fr:=e2.fr;have al:∀a,vn (H a)≠ar->vn (c a)≠ar:=λa h=>by
  by_cases z:a∈lv α M++F
  .rw[fr a z];exact h
  .cases e:H a with
   |none=>exact absurd (by rw[e]) h
   |some x=>
    rw[e] at h;have v:vn (aa x)=aa x:=by cases x<;>first|rfl|exact absurd rfl h
    have:=iJ _ _ (f a x (kt z e v));rw[this,v];exactλz=>by cases z
 refine⟨⟨aV _,f,λa ha=>fr a (bL _ ha)⟩,o.ml,o.nd,λa ha=>⟨(o.fr a ha).1,al a (o.fr a ha).2⟩,λa ha=>al a (o.al a ha),λk x h=>?_,o2.tb⟩;obtain⟨a,g,j⟩:=o.own k x h;exact⟨a,g,j.mono (aV _) f (fr a (bW _ (nL.mpr ⟨k,x,g,h⟩)))⟩
def Nl{i:List aX}(f:Dk X body tb)(j:X.K=K)(h:l9 K (cl (lN n.length i.length tb)) c H Q E):
  ∃t,QB X body t/\t {nx:=λ_ b=>Q .non b,rt:=Q} (L2.start n c) H:=by
 subst j;obtain⟨F,α,M,ds,o,r,hn,z,q⟩:=h;have m:OK X.K _ [] H []:=⟨rfl,eO,λa ha=>⟨by simp,by
  rcases bt.mp ha with ha|ha
  .exact o.PL a ha
  .exact(o.fr a ha).2⟩,λa ha=>(by simp at ha),λk x h=>(by simp at h),o.tb⟩
 have s:hZ X.K [] _ ds c:=hZ.nl ds c hn r;refine⟨_,⟨f.p⟩,lv α M++F,[],qf n.length ds,[],Ct m s,?_⟩;refine f.mono _ _ _ _ ?_ q;refine⟨λA u q B y b e r=>?_,λd u q v y b e g r=>?_,λ_ _ q=>q.elim,λ_ _ q=>q.elim⟩
 .obtain⟨e1,o1⟩:=ni o e r.ok;exact q _ α b e1 o1 qt
 .obtain⟨e1,o1⟩:=ni o e g;exact q.2 v α b e1 o1 (Rep.nl _ _ q.1 (UN g d v r))
end
def xY(fr:List (Option Nat))(a:nB):nB:=fr.map λo=>match o with
 |none=>ar
 |some j=>(a[j]?).getD ar
def HC(fr:List (Option Nat))(a:nB):nB:=c8 (λo d=>match o with|none=>ar|some _=>d) fr a
def Gs (g:DG)(tt:DT)(e:DE)(x:D)(f:nB)(M:Ms)(c:Option D->nB->Ms->Prop):Prop:=
 g x f M λa M1=>tt a M1 λb M2=>if b=ag then e a M2 λd h=>c (aa d) a h else c ar a M2
def tJ (fr:List (Option Nat))(g:DG)(tt:DT)(a:DE)(st:Ms->Prop)(Q:List D->Ms->Prop):List D->List D->nB->Ms->Prop
 |[],acc,_,M=>Q acc M
 |x::xs,acc,c,M=>Gs g tt a x c M λo b M1=>st M1/\match o with
  |some d=>acc.length<aO/\tJ fr g tt a st Q xs (acc++[d]) (HC fr b) M1
  |none=>tJ fr g tt a st Q xs acc (HC fr b) M1
def lc (fr:List (Option Nat))(b:DI)(g:DG)(tt:DT)(c:DE):DF:=λa M Q=>b a M λitems st M1=>st M1/\tJ fr g tt c st (λds e=>Q (.lst ds) e) items [] (xY fr a) M1
structure JIf(X:Cx)(ifs:List bJ)(t:DT):Prop where
 mono:∀δ M (P Q:Bool->Ms->Prop),(∀d M,P d M->Q d M)->t δ M P->t δ M Q
 p:PIf X ifs (lT X.K t)
def qy:DT:=λ_ M Q=>Q ag M
def jY:JIf X [] qy:=⟨λa M P Q w q=>w _ _ q,λcc s σ H Q I ⟨F,α,a,M,r,q⟩=>Ye cc s σ H Q I (q α H Ext.refl r.ok)⟩
def Cu(h:JT X c t):JIf X [c] t:=⟨h.mono,Yf h.p⟩
section
variable {K:bz} {δ:nB}
theorem R.slots(r:R K F α H σ δ M)(fr:List _):R K F α H (L2.slots fr σ) (xY fr δ) M:=by
 refine⟨r.ok,by simp[L2.slots,xY],λi d h=>?_⟩;unfold xY at h;unfold L2.slots;rw[bh] at h |-;cases e:fr[i]? with
 |none=>rw[e] at h;cases h
 |some o=>
  rw[e] at h;cases o with
  |none=>cases h
  |some j=>
   have h:=by simpa using h
   cases e2:δ[j]? with
   |none=>rw[e2] at h;cases h
   |some q=>
    rw[e2] at h;subst h;obtain⟨v,e3,a⟩:=r.sl j d e2;exact⟨v,by show aa ((σ[j]?).getD ar)=_;rw[e3];rfl,a⟩
theorem R.HC(r:R K F α H σ δ M)(a:fr.length=δ.length):R K F α H σ (L3.HC fr δ) M:=by
 refine⟨r.ok,by simp[L3.HC,a,r.len],λi d h=>?_⟩;unfold L3.HC at h;rw[ahT] at h;cases e:fr[i]? with
 |none=>rw[e] at h;simp at h
 |some o=>
  cases e2:δ[i]? with
  |none=>rw[e,e2] at h;simp at h
  |some q=>
   rw[e,e2] at h;cases o with
   |none=>simp at h
   |some j=>
    have h:=by simpa using h
    subst h;exact r.sl i d e2
def Ext.skip(o:OK K F α H M)(g:H p=ar)(e:Ext F α H M iR H' M')(e':Ext (p::F) iR H' M' UE H'' Cs):Ext F α H M UE H'' Cs:=by
 refine⟨e.pre.trans e'.pre,λb x h=>?_,λa ha=>(e'.fr a (aB _ ha)).trans (e.fr a ha)⟩;have hb:b≠p:=λz=>by have:=(iW h).2;rw[z,g] at this;cases this
 have c:=iW (e.same b x h);have i:jU (p::F) iR M' H' b=aa x:=by
  refine mL h (λw=>c.1 ?_) c.2
  .simp only [bt,aH] at w |-;rcases w with w|w|w
   .exact .inl w
   .exact absurd w hb
   .exact .inr w
 have f:=iW (e'.same b x i);refine mL h (λw=>f.1 ?_) f.2
 .simp only [bt,aH] at w |-;rcases w with w|w
  .exact .inl w
  .exact .inr (.inr w)
def Ext.RH(f:H p=ar)(g:p∉F)(e:Ext F α H M iR H' M'):Ext F α H M iR (upd H' p x) M':=by
 refine⟨e.pre,λb y h=>?_,λa ha=>by rw[ii λz=>g (by rw[<-z];exact ha)];exact e.fr a ha⟩;have hb:b≠p:=λz=>by have:=(iW h).2;rw[z,f] at this;cases this
 have c:=iW (e.same b y h);exact mL h c.1 (by rw[ii hb];exact c.2)
def Dl:jU (p::F) α M (upd H p x)=jU (p::F) α M H:=by
 funext b;show mw _ _ b=mw _ _ b;by_cases hb:b∈lv α M++p::F
 .rw[qu hb,qu hb]
 .rw[l7 hb,l7 hb,ii λz=>hb (by rw[z];simp)]
def OK.RH(o:OK K (p::F) α H M)(f:vn (aa x)=aa x:=by rfl):OK K (p::F) α (upd H p x) M:=by
 have b:=(o.fr p aN).1;refine⟨o.ml,o.nd,λa ha=>⟨(o.fr a ha).1,?_⟩,λa ha=>?_,λk y h=>?_,o.tb.upd (.inl (o.fr p aN).2)⟩
 .by_cases e:a=p
  .rw[e,iE,f];exactλz=>by cases z
  .rw[ii e];exact(o.fr a ha).2
 .rw[ii λz=>b (by rw[<-z];exact ha)];exact o.al a ha
 .obtain⟨a,c,g⟩:=o.own k y h;rw[Dl];exact⟨a,c,g.mono (aV _) (kC.refl _) (ii λz=>b (by rw[<-z];exact bA c))⟩
theorem R.RH(r:R K (p::F) α H σ δ M)(a:vn (aa x)=aa x:=by rfl):R K (p::F) α (upd H p x) σ δ M:=⟨r.ok.RH a,r.len,λi d h=>by obtain⟨v,b,c⟩:=r.sl i d h;rw[Dl];exact⟨v,b,c⟩⟩
def R.abY(r:R K F α H σ δ M)(f:H p=ar)(m:vn (aa x)=aa x:=by rfl):R K (p::F) α (upd H p x) σ δ M:=by
 have o:=r.ok;have c:=λz=>o.al p z (by rw[f]);have g:kC (jU F α M H) (jU (p::F) α M (upd H p x)):=λb y h=>by
  obtain⟨z,q⟩:=iW h;have hb:b≠p:=λz=>by rw[z,f] at q;cases q
  refine mL h (λw=>z ?_) (by rw[ii hb];exact q)
  .simp only [bt,aH] at w |-;rcases w with w|w|w
   .exact .inl w
   .exact absurd w hb
   .exact .inr w
 refine⟨⟨o.ml,o.nd,λa ha=>?_,λa ha=>?_,λk y h=>?_,o.tb.upd (.inr f)⟩,r.len,λi d h=>?_⟩
 .rcases aH.mp ha with e|e
  .subst e;exact⟨c,by rw[iE,m];exactλz=>by cases z⟩
  .refine⟨(o.fr a e).1,?_⟩;rw[ii λz=>(o.fr a e).2 (by rw[z,f])];exact(o.fr a e).2
 .rw[ii λz=>c (by rw[<-z];exact ha)];exact o.al a ha
 .obtain⟨a,j,n⟩:=o.own k y h;exact⟨a,j,n.mono (aV _) g (ii λz=>c (by rw[<-z];exact bA j))⟩
 .obtain⟨v,s,u⟩:=r.sl i d h;exact⟨v,s,Rep.mono (aV _) g _ _ u⟩
def HD:er p H p=ar:=by unfold er;rw[if_pos rfl]
def Bz(h:b≠p):er p H b=H b:=by unfold er;rw[if_neg h]
def abZ{x:HO}(h:H p=aa x):upd (er p H) p x=H:=by
 funext b;by_cases e:b=p
 .rw[e,iE,h]
 .rw[ii e,Bz e]
def UP(o:OK K (p::F) α H M):jU F α M (er p H)=jU (p::F) α M H:=by
 funext b;show mw _ _ b=mw _ _ b;by_cases e:b=p
 .subst e;rw[qu (A:=lv α M++b::F) (by simp)];by_cases z:b∈lv α M++F
  .rw[qu z]
  .rw[l7 z,HD]
 .by_cases z:b∈lv α M++F
  .rw[qu z,qu (by simp only [bt,aH] at z |-;rcases z with z|z;exact .inl z;exact .inr (.inr z))]
  .rw[l7 z,l7 (by simp only [bt,aH] at z |-;rintro(w|w|w);exact z (.inl w);exact e w;exact z (.inr w)),Bz e]
theorem OK.er(o:OK K (p::F) α H M)(g:p∉F):OK K F α (L3.er p H) M:=by
 have c:=(o.fr p aN).1;refine⟨o.ml,o.nd,λa ha=>⟨(o.fr a (aB _ ha)).1,?_⟩,λa ha=>?_,λk x h=>?_,o.tb.imp λb y e v=>?_⟩
 .rw[Bz λz=>g (by rw[<-z];exact ha)];exact(o.fr a (aB _ ha)).2
 .rw[Bz λz=>c (by rw[<-z];exact ha)];exact o.al a ha
 .obtain⟨a,f,i⟩:=o.own k x h;rw[UP o];exact⟨a,f,i.mono (aV _) (kC.refl _) (Bz λz=>c (by rw[<-z];exact bA f))⟩
 .rw[Bz λz=>(o.fr p aN).2 (by rw[<-z,e];exact v)];exact e
theorem Ext.er(f:H p=ar)(g:p∉F)(e:Ext F α H M iR H' M'):Ext F α H M iR (L3.er p H') M':=by
 refine⟨e.pre,λb y h=>?_,λa ha=>by rw[Bz λz=>g (by rw[<-z];exact ha)];exact e.fr a ha⟩;have hb:b≠p:=λz=>by have:=(iW h).2;rw[z,f] at this;cases this
 have c:=iW (e.same b y h);exact mL h c.1 (by rw[Bz hb];exact c.2)
end
section
variable {X:Cx} {fr:List (Option Nat)} {iter:bJ}
theorem xZ(c:∀d a M (P Q:nB->Ms->Prop),(∀a M,P a M->Q a M)->g d a M P->g d a M Q)(ht:∀a M (P Q:Bool->Ms->Prop),(∀d M,P d M->Q d M)->tt a M P->tt a M Q)(e:∀a M (P Q:DK),(∀d M,P d M->Q d M)->te a M P->te a M Q)
{st:Ms->Prop}(w:∀l M,P l M->Q l M):∀xs acc a M,tJ fr g tt te st P xs acc a M->tJ fr g tt te st Q xs acc a M
 |[],acc,a,M,q=>w _ _ q
 |x::xs,acc,a,M,q=>by
  refine c _ _ _ _ _ (λf M1 q=>ht _ _ _ _ (λb M2 q=>?_) q) q;cases b with
  |true=>
   exact e _ _ _ _ (λd h q=>⟨q.1,q.2.1,xZ c ht e w xs _ _ _ q.2.2⟩) q
  |false=>
   exact⟨q.1,xZ c ht e w xs _ _ _ q.2⟩
def Gu(hI:JI X target iter ti)(hg:∀d a M (P Q:nB->Ms->Prop),(∀a M,P a M->Q a M)->g d a M P->g d a M Q)(ht:∀a M (P Q:Bool->Ms->Prop),(∀d M,P d M->Q d M)->tt a M P->tt a M Q)(he:∀a M (P Q:DK),(∀d M,P d M->Q d M)->te a M P->te a M Q)
(hgl:∀d a M (P:nB->Ms->Prop),g d a M P->g d a M λpF M1=>pF.length=a.length/\P pF M1)(h:lF X.K (lc fr ti g tt te) σ H Q):PF fr (lI X ti) (lG X.K g) (lT X.K tt) (lE X.K te) σ H (λv=>TH X (Q v)):=by
 obtain⟨F,α,a,M,r,h⟩:=h;refine⟨F,α,a,M,r,hI.mono a _ _ _ (λitems st M1 q J Y H0 H1 T e1 o1 z it p s=>?_) h⟩;obtain⟨s1,q⟩:=q;have u:p∉F:=λw=>(z.ok.fr p w).2 (by rw[s]);refine⟨λi m L j9 j=>m=items.length- i/\i<=items.length/\∃o O f acc,Ext F Y H1 M1 o j f/\R X.K (p::F) o j j9 O f/\O.length=fr.length/\st f/\j p=aa (.lst L)/\hZ X.K o (jU (p::F) o f j) acc L/\
   tJ fr g tt te st (λds f=>fK X.K F α H M Q (.lst ds) f) (items.drop i) acc O f,⟨_,rfl,bD _,Y,xY fr a,M1,[],Ext.refl.RH s u,((z.rs (r.grow e1 o1)).slots fr).abY s,by simp[xY],s1,iE,hZ.nil,q⟩,?_⟩
 rintro i m L j9 j ⟨rfl,PP,o,O,f,acc,e',G,PR,s',hy,ry,q'⟩
 have B:kC (jU F Y M1 H1) (jU (p::F) o f j):=λb x h=>by
  have hb:b≠p:=λw=>by have:=(iW h).2;rw[w,s] at this;cases this
  have h1:=iW (e'.same b x h);refine mL h (λw=>h1.1 ?_) h1.2
  .simp only [bt,aH] at w |-;rcases w with w|w|w
   .exact .inl w
   .exact absurd w hb
   .exact .inr w
 by_cases B2:i<items.length
 .rw[List.drop_eq_getElem_cons B2] at q';refine .inr ⟨it.go i (p::F) o j f e'.pre B G.ok s' B2,λC Hi I=>∃tI RG M2 U,Ext F Y H1 M1 tI I M2/\R X.K (p::F) tI I Hi RG M2/\RG.length=fr.length/\st M2/\I p=aa (.lst C)/\hZ X.K tI _ U C/\
   tJ fr g tt te st (λds f=>fK X.K F α H M Q (.lst ds) f) _ U RG M2,λC Hi I h=>⟨_,by omega,rfl,B2,h⟩,λx I y=>?_⟩
  obtain⟨o2,e2,rx⟩:=it.yld i (p::F) o j f x I items[i] e'.pre B G.ok s' (by simp[B2]) y;refine⟨p::F,o,O,f,items[i],G.grow e2 o2,rx,hg _ _ _ _ _ (λYp M3 q3 MB Fu H3 e3 r3=>?_) (hgl _ _ _ _ q')⟩;obtain⟨l3,q3⟩:=q3;refine⟨p::F,Fu,Yp,M3,r3,ht _ _ _ _ (λb M4 q4 MC H4 e4 o4=>?_) q3⟩;have A:=(e2.trans e3).trans e4;have pm:p∈p::F:=aN;cases b with
  |false=>
   show(if au=ag then _ else _);refine⟨MC,HC fr Yp,M4,acc,Ext.skip z.ok s e' A,(r3.grow e4 o4).HC (by rw[l3,PR]),by simp[HC,l3,PR],q4.1,by rw[A.fr p pm];exact hy,A.Dc ry,q4.2⟩
  |true=>
   show(if ag=ag then _ else _);refine⟨p::F,MC,Yp,M4,r3.grow e4 o4,he _ _ _ _ (λd M5 q5 v α5 H5 e5 o5 r5=>?_) q4⟩;have E:=A.trans e5;have ry5:=E.Dc ry;refine⟨by rw[E.fr p pm];exact hy,by rw[<-hZ.length _ _ ry];exact q5.2.1,α5,HC fr Yp,M5,acc++[d],(Ext.skip z.ok s e' E).RH s u,(((r3.grow e4 o4).grow e5 o5).HC (by rw[l3,PR])).RH,by simp[HC,l3,PR],q5.1,iE,?_,q5.2.2⟩;rw[Dl];exact hZ.append _ _ _ _ ry5 (hZ.one r5)
 .have e:i=items.length:=by omega
  subst e;rw[List.drop_length] at q';refine .inl ⟨it.stop (p::F) o j f e'.pre B G.ok s',?_⟩;have eE:=e'.er s u;have oE:=G.ok.er u;obtain⟨t1,t2,t3⟩:=z.e o (L3.er p j) f eE oE;have hn:T (L3.er p j) p=ar:=z.n p _ s HD;have:=q' p (.lst L) o _ (e1.trans t1) t2 hn ⟨L,rfl,?_⟩
  .rw[z.c p j _ s hy] at this;exact z.h o j f _ e' this
  .refine hZ.imp t3 _ _ ?_;rw[UP G.ok];exact ry
abbrev RI(g:DG):Prop:=∀d a M (P:nB->Ms->Prop),g d a M P->g d a M λb M1=>b.length=a.length/\P b M1
abbrev Kd(g:Yn):Prop:=∀d a M (P:nB->Ms->Prop),g d a M P->g d a M λb M1=>b.length=a.length/\P b M1
def jc:RI (iq i):=λd a M P q=>⟨by simp,q⟩
def uo:Kd lq:=λd a M P q=>⟨q.1,rfl,q.2⟩
def ab0(a:Kd gs):RI (k7 n gs):=λd b M P q=>by cases d<;>first|exact q.elim|exact⟨q.1,a _ _ _ _ q.2⟩
def jP(c:jv X N fr scope)(hi:JI X target iter ti)(a:RI g)
(b:∀C ex cc iZ je,JG (B1 X scope N C ex cc iZ je λ_ _=>False) target g)(ht:∀C ex cc iZ je,JIf (B1 X scope N C ex cc iZ je λ_ _=>False) ifs tt)(e:∀C ex cc iZ je,JE (B1 X scope N C ex cc iZ je λ_ _=>False) elt te)
(i:X.calm=ag:=by rfl)(j:∀x,eQ iter X.env x=pure x:=by intro _;rfl):JF X (.ListComp elt [⟨target,iter,ifs,0⟩] scope pos) (lc fr ti g tt te):=by
 have mg:=(b 0 [] [] X.iZ X.je).mono;have mt:=(ht 0 [] [] X.iZ X.je).mono;have f:=(e 0 [] [] X.iZ X.je).mono;exact⟨λm M P Q w q=>hi.mono _ _ _ _ (λl s M1 q=>⟨q.1,xZ mg mt f (λl M q=>w _ _ q) _ _ _ _ q.2⟩) q,
  UI (Yh c i hi.p (λ_ _ _ _ _=>(b _ _ _ _ _).p) (λ_ _ _ _ _=>(ht _ _ _ _ _).p) (λ_ _ _ _ _=>(e _ _ _ _ _).p) j) λσ H Q h=>Gu hi mg mt f a h⟩
def zt(i:Nat)(s:X.N.Nodup)(c:jv X N fr scope)(hi:JI X target iter ti)(a:RI g)
(b:∀C ex cc iZ je,JG (B1 X scope N C ex cc iZ je λ_ _=>False) target g)(ht:∀C ex cc iZ je,JIf (B1 X scope N C ex cc iZ je λ_ _=>False) ifs tt)(e:∀C ex cc iZ je,JE (B1 X scope N C ex cc iZ je λ_ _=>False) elt te)
(u:X.N[i]?=aa x:=by rfl)(y:Loc X.env.scope x:=by first|exact ahS rfl|exact ahA rfl)
(f:fj (.ListComp elt [⟨target,iter,ifs,0⟩] scope pos) (aa (.Name x p)) z.line X.env=pure ag:=by rfl)(A:X.fn x=ag\/X.env.scope.names.lookup x=aa .local:=by first|exact .inl rfl|exact .inr rfl|assumption)
(h:X.calm=ag:=by rfl)(j:∀x,eQ iter X.env x=pure x:=by intro _;rfl):
  JS X (.Assign [.Name x p] (.ListComp elt [⟨target,iter,ifs,0⟩] scope pos) z) (jl i (jV (lc fr ti g tt te))):=by
 have mg:=(b 0 [] [] X.iZ X.je).mono;have mt:=(ht 0 [] [] X.iZ X.je).mono;have B:=(e 0 [] [] X.iZ X.je).mono;have m:JF X (.ListComp elt _ scope pos) _:=jP c hi a b ht e h j;have cq:=Yi (g:=lG X.K g) (tt:=lT X.K tt) (te:=lE X.K te) c h hi.p (λ_ _ _ _ _=>(b _ _ _ _ _).p) (λ_ _ _ _ _=>(ht _ _ _ _ _).p) (λ_ _ _ _ _=>(e _ _ _ _ _).p) s u y f A j;refine⟨λP Q n M w q=>?_,Ka cq λE σ H q=>Gu hi mg mt B a ?_⟩
 .unfold jl jV at q |-;refine m.mono _ _ _ _ ?_ q;exactλo M1 q=>w.nx _ _ q
 .obtain⟨F,α,n,M,r,q⟩:=q;refine⟨F,α,n,M,r,?_⟩;unfold jl jV at q;refine m.mono _ _ _ _ ?_ q;exactλo M1 q=>fK.qd λv G I e1 o1 J=>q _ G I e1 ((r.grow e1 o1).set J)
end
def gI (C:Int->Int->Prop)(f:Int->Int->D):G2:=λx y M Q=>match x,y with|.int i,.int j=>C i j/\Q (f i j) M|_,_=>False
def Cv:vI (gI C f):=by
 intro x y M P Q w q;unfold gI at*;split at q
 .exact⟨q.1,w _ _ q.2⟩
 .exact q.elim
def RJ (f:Int->Int->D):G2:=λx y M Q=>match x,y with|.int i,.int j=>Q (f i j) M|_,_=>False
def Ke:vI (RJ f):=by
 intro x y M P Q w q;unfold RJ at*;split at q
 .exact w _ _ q
 .exact q.elim
section
variable {X:Cx}
def aaA{K:bz}(h:rD K (RJ f) x y H Q):∃F α M i j,OK K F α H M/\x=.int i/\y=.int j/\vK K F α H M Q (f i j) M:=by
 obtain⟨F,α,M,c,e,o,a,b,h⟩:=h;unfold RJ at h;split at h<;>first|exact h.elim|skip
 exact⟨F,α,M,_,_,o,a,b,h⟩
def aej{K:bz}(h:rD K (gI C f) x y H Q):∃F α M i j,OK K F α H M/\x=.int i/\y=.int j/\C i j/\vK K F α H M Q (f i j) M:=by
 obtain⟨F,α,M,c,e,o,a,b,h⟩:=h;unfold gI at h;split at h<;>first|exact h.elim|skip
 exact⟨F,α,M,_,_,o,a,b,h⟩
def vN:JO X .Sub (RJ λi j=>.int (i- j)):=⟨Ke,λcc s σ H x y v u Q I a b h=>by obtain⟨F,α,M,i,j,o,c,e,h⟩:=aaA h;exact abu cc s σ H x y v u Q I a b ⟨_,_,c,e,vK.now o h jB⟩⟩
def lD:JO X .Mod (gI (λ_ j=>0<j) λi j=>.int (i%j)):=⟨Cv,λcc s σ H x y v u Q I a b h=>by obtain⟨F,α,M,i,j,o,c,e,h,f⟩:=aej h;exact abw cc s σ H x y v u Q I a b ⟨_,_,c,e,h,vK.now o f jB⟩⟩
def sL:JO X .Pow (gI Hj λi j=>.int (i^j.toNat)):=⟨Cv,λcc s σ H x y v u Q I a b h=>by obtain⟨F,α,M,i,j,o,c,e,h,f⟩:=aej h;exact abx cc s σ H x y v u Q I a b ⟨_,_,c,e,h,vK.now o f jB⟩⟩
def Kf:JC X .Gt (RJ λi j=>.bl (decide (j<i))):=⟨Ke,λcc s σ H x y v u Q I a b h=>by obtain⟨F,α,M,i,j,o,c,e,h⟩:=aaA h;exact adY cc s σ H x y v u Q I a b ⟨_,_,c,e,vK.now o h jG⟩⟩
def Xo:G2:=λx y M Q=>match x,y with|.int i,.int j=>Q (.bl (decide (i<j))) M|.str i,.str j=>Q (.bl (decide (i.cps.toList<j.cps.toList))) M|_,_=>False
def x4:G2:=λx y M Q=>match x,y with|.int i,.int j=>Q (.bl (decide (i<=j))) M|.str i,.str j=>Q (.bl (!decide (j.cps.toList<i.cps.toList))) M|_,_=>False
def PU:JC X .Lt Xo:=by
 refine⟨λx y M P Q w q=>?_,λcc s σ H x y v u Q I a b h=>?_⟩
 .unfold Xo at*;split at q<;>first|exact q.elim|exact w _ _ q
 .obtain⟨F,α,M,f,g,o,c,e,h⟩:=h;unfold Xo at h;split at h<;>first|exact h.elim|skip
  .exact adW cc s σ H x y v u Q I a b ⟨_,_,c,e,vK.now o h jG⟩
  .exact Rp cc s σ H x y v u Q I a b ⟨_,_,c,e,vK.now o h jG⟩
def pQ:JC X .LtE x4:=by
 refine⟨λx y M P Q w q=>?_,λcc s σ H x y v u Q I a b h=>?_⟩
 .unfold x4 at*;split at q<;>first|exact q.elim|exact w _ _ q
 .obtain⟨F,α,M,f,g,o,c,e,h⟩:=h;unfold x4 at h;split at h<;>first|exact h.elim|skip
  .exact adX cc s σ H x y v u Q I a b ⟨_,_,c,e,vK.now o h jG⟩
  .exact RE cc s σ H x y v u Q I a b ⟨_,_,c,e,vK.now o h jG⟩
def isN:D->Bool
 |.non=>ag
 |_=>au
def Yq{K:bz}(h:Rep K α H d v):decide (v=.non)=isN d:=by
 cases d<;>unfold Rep at h;case tup=>obtain⟨_,_,rfl,_⟩:=h;rfl
 case lst=>obtain⟨_,_,rfl,_⟩:=h;rfl
 case kE=>obtain⟨_,_,rfl,_⟩:=h;rfl
 case ins=>obtain⟨_,_,_,rfl,_⟩:=h;rfl
 case exc=>obtain⟨_,_,rfl,_⟩:=h;rfl
 case rS=>obtain⟨_,rfl,_⟩:=h;rfl
 case loc=>obtain⟨_,_,rfl⟩:=h;rfl
 all_goals subst h;rfl
def gIs:G2:=λx y M Q=>match y with|.non=>Q (.bl (isN x)) M|_=>False
def UQ:JC X .Is gIs:=by
 refine⟨λx y M P Q w q=>?_,λcc s σ H x y v u Q I a b h=>?_⟩
 .cases y<;>first|exact q.elim|exact w _ _ q
 .obtain⟨F,α,M,g,c,o,e,f,h⟩:=h;cases c<;>first|exact h.elim|skip
  exact abz cc s σ H x y v u Q I a b ⟨f,by rw[Yq e];exact vK.now o h jG⟩
def jn:G2:=λx y M Q=>match vw M x,vw M y with
 |.int i,.int j=>Q (.int (i+j)) M
 |.str i,.str j=>i.length+j.length<=aO/\Q (.str (i++j)) M
 |.lst xs,.lst a=>xs.length+a.length<=aO/\Q (.lst (xs++a)) M
 |.tup xs,.tup a=>xs≠[]/\xs.length+a.length<=aO/\Q (.tup (xs++a)) M
 |_,_=>False
def jt:JO X .Add jn:=by
 refine⟨λx y M P Q w q=>?_,λcc s σ H x y v u Q I j m h=>?_⟩
 .unfold jn at q |-;generalize vw M x=a at q |-;generalize vw M y=b at q |-;split at q<;>first|exact q.elim|exact w _ _ q|exact⟨q.1,w _ _ q.2⟩|exact⟨q.1,q.2.1,w _ _ q.2.2⟩
 .obtain⟨F,α,M,E,G,o,c,n,h⟩:=h;unfold jn at h;generalize e1:vw M E=a at h;generalize e2:vw M G=b at h;split at h<;>first|exact h.elim|skip
  .cases xX e1;cases xX e2;exact abt cc s σ H x y v u Q I j m ⟨_,_,c,n,vK.now o h jB⟩
  .cases nO e1;cases nO e2;exact MS cc s σ H x y v u Q I j m ⟨_,_,c,n,h.1,vK.now o h.2 qr⟩
  .obtain⟨a,A,rfl,B,f⟩:=jN o c e1;obtain⟨b,us,rfl,C,g⟩:=jN o n e2;have r:=hZ.length _ _ f;have z:=hZ.length _ _ g;exact Uu cc s σ H _ _ v u Q I j m ⟨a,b,A,us,rfl,rfl,B,C,by rw[<-r,<-z];exact h.1,λp i=>vK.new o i h.2 (pO o i (hZ.append _ _ _ _ f g))⟩
  .obtain⟨a,A,rfl,B,f⟩:=mV o c e1;obtain⟨b,us,rfl,C,g⟩:=mV o n e2;have r:=hZ.length _ _ f;have z:=hZ.length _ _ g;refine X4 cc s σ H _ _ v u Q I j m ⟨a,b,A,us,rfl,rfl,B,C,?_,by rw[<-r,<-z];exact h.2.1,λe=>?_,λ_ p i=>vK.new o i h.2.2 (my o i (hZ.append _ _ _ _ f g))⟩
   .intro e;subst e;exact h.1 (ahB.mp r)
   .subst e;have:=ahB.mp z;subst this;refine vK.now o h.2.2 ?_;rw[bu];rw[Nk e1] at c;exact c
def Kg:D->Option Key
 |.int i=>aa (.inl i)
 |.str x=>aa (.inr x)
 |_=>ar
def nK(k:Key):List Key->List D->Option D
 |k'::a,d::ds=>if k'=k then aa d else nK k a ds
 |_,_=>ar
def qP{K:bz}(h:Rep K α H d v)(e:Kg d=aa k):v=kV k:=by
 cases d<;>cases e
 .exact h
 .exact h
theorem pR{K:bz}:∀(a:List Key) (ds:List D) (b:List V),hZ K α H ds b->a.length=ds.length->
  (∀d,nK k a ds=aa d->∃v,sI (a.zip b) k=aa v/\Rep K α H d v)/\(nK k a ds=ar->sI (a.zip b) k=ar)
 |[],ds,b,h,l=>⟨λd e=>by simp[nK] at e,λ_=>rfl⟩
 |k'::a,[],b,h,l=>by simp at l
 |k'::a,d::ds,b,h,l=>by
  obtain⟨v,r,rfl,z,y⟩:=h;have c:=pR (k:=k) a ds r y (by simpa using l);rw[cR];by_cases e:k'=k
  .rw[zf e];unfold nK;rw[if_pos e];exact⟨λf e'=>⟨v,rfl,by cases e';exact z⟩,λe'=>by cases e'⟩
  .rw[zg e];unfold nK;rw[if_neg e];exact c
def Yr(c:X.A.units+1<eB):IxR X (λx y H Q=>∃a v,x=.ref a/\tH H a y (aa v)/\Q v H):=by
 intro value slice cc s σ H x y v u Q I e f h i;obtain⟨a,z,rfl,g,q⟩:=h;cases e;refine ae ?_;refine ae (gN (JZ I g) PySem.F.slot_dict_getitem.lookup ?_);have b:wpAny (model X.prog X.w) X.A (subscripted slice au (.ref a) u) (λr j=>wpAny (model X.prog X.w) X.A (ajQ value (.ref a) r >>= λ_=>pure r) (EP X cc σ Q) X.xe j) X.xe s:=by rw[i];exact ajG (Ru c I g f λo s3 m n=>ae (ajc (ay ⟨z,H,m,n,q⟩)))
 first
  |exact ay (ae b)
  |exact ae _
  |exact ae b
def jS:G2:=λx y M Q=>match vw M x,y with
 |.lst xs,.int i=>∃d,Fk xs i=aa d/\Q d M
 |.tup xs,.int i=>∃d,Fk xs i=aa d/\Q d M
 |.rS xs,.int i=>∃d,Fk xs i=aa d/\Q (.int d) M
 |.str z,.int i=>z.length<=aO/\∃c,Fk z.cps.toList i=aa c/\Q (.str ⟨#[c]⟩) M
 |.kE a ds,y=>∃k d,Kg y=aa k/\nK k a ds=aa d/\Q d M
 |_,_=>False
def jx(J:X.A.units+1<eB):JX X jS:=by
 refine⟨λx y M P Q w q=>?_,λvalue slice cc s σ H x y v u Q I n p h r=>?_⟩
 .unfold jS at q |-;generalize vw M x=a at q |-;split at q<;>first
   |exact q.elim
   | (obtain⟨k,d,f,C,g⟩:=q;exact⟨k,d,f,C,w _ _ g⟩)
   | (obtain⟨d,f,g⟩:=q;exact⟨d,f,w _ _ g⟩)
   | (obtain⟨L,d,f,g⟩:=q;exact⟨L,d,f,w _ _ g⟩)
 .obtain⟨F,α,M,N,db,o,m,b,h⟩:=h;unfold jS at h;generalize e1:vw M N=a at h;split at h<;>first|exact h.elim|skip
  .obtain⟨a,z,rfl,i,B⟩:=jN o m e1;unfold Rep at b;obtain⟨d,e,h⟩:=h;obtain⟨w,E,G⟩:=B.at e;exact PC value slice cc s σ H _ y v u Q I n p ⟨a,z,_,w,rfl,b,nI.of i,E,vK.now o h G⟩ r
  .obtain⟨a,z,rfl,i,B⟩:=mV o m e1;unfold Rep at b;obtain⟨d,e,h⟩:=h;obtain⟨w,E,G⟩:=B.at e;exact Up value slice cc s σ H _ y v u Q I n p ⟨a,z,_,w,rfl,b,i,E,vK.now o h G⟩ r
  .cases vM e1;unfold Rep at m b;obtain⟨a,rfl,i⟩:=m;obtain⟨d,e,h⟩:=h;refine PC value slice cc s σ H _ y v u Q I n p ⟨a,_,_,.int d,rfl,b,md iJ i,?_,vK.now o h jB⟩ r;unfold Fk at e |-;rw[ao];cases q:Xl _ _ with
   |none=>rw[q] at e;cases e
   |some j=>
    rw[q] at e;show(List.map V.int _)[j]?=_;have e':(_:List Int)[j]?=aa d:=e;rw[bh,e'];rfl
  .cases nO e1;obtain⟨O,c,e,h⟩:=h;exact Nc value slice cc s σ H x y v u Q I n p ⟨_,_,c,m,b,O,e,vK.now o h qr⟩ r
  .obtain⟨k,d,f,C,g⟩:=h;obtain⟨a,z,rfl,i,T,B⟩:=oG o m e1;obtain⟨U,Y,rv⟩:=(pR _ _ z B T).1 d C;cases qP b f;exact Yr J value slice cc s σ H _ _ v u Q I n p ⟨a,U,rfl,by rw[<-Y];exact tH.kr i,vK.now o g rv⟩ r
def cutD{β:Type}(xs:List β)(lo hi:Option Int):List β:=(xs.drop (HT.rX xs.length 0 lo)).take (HT.rX xs.length xs.length hi- HT.rX xs.length 0 lo)
def hZ.cut{K:bz}(h:hZ K α H ds a)(lo hi:Option Int):hZ K α H (cutD ds lo hi) (Rx a lo hi):=by unfold cutD Rx;rw[hZ.length _ _ h];exact hZ.take _ _ _ (hZ.drop _ _ _ h)
end
end L3
end
namespace PySem
open Sem (wp)
open Builtin
section
variable {A:bH} {s:av}
def vO(b:s.heap.IsTupleIter it t i)
(ht:s.heap.IsTuple t items)(e:items[i]?=aa x)
(f:∀c,c.IsTupleIter it t (i+1)->bP it s.heap c->Q x {s with heap:=c}):
  wpAny (model prog w) A (dQ (.ref it)) Q E s:=by
 obtain⟨o,a,hc,hd⟩:=id b;obtain⟨h,g,_,nl,MD⟩:=ht;refine ae (df b.typeIs eX
  (cE eX b.typeIs F.entry_tuple_iterator_next ?_ (F.args_tuple_iterator_next_1 _)))
 show wpAny _ _ (field _ 0 >>= _) _ _ s;refine ae (cB a hd (x:=.ref t) rfl ?_);refine ae (cB a hd rfl ?_);refine ae (dz g MD ?_);simp only [Int.toNat_natCast,e];refine ae (fY a hd (by simp) (ay ⟨x,rfl,ay (f _ ?_ (cJ ..))⟩));exact⟨_,cY _ a (eI (c6 hd _)),(cC.cls_mapFields ..).trans hc,by
  rw[c6 hd];simp[aeB]⟩
def xv(g:A.handled=ar)
(b:s.heap.IsTupleIter it l i)(h:s.heap.IsTuple l items)(j:items[i]?=ar)
(n:∀c e,aC.ExtBut it s.heap c->(∃o,c.get? e=aa o/\o.cls=.type "StopIteration")->E (.ref e) {s with heap:=c}):
  wpAny (model prog w) A (dQ (.ref it)) Q E s:=by
 obtain⟨o,f,hc,hd⟩:=id b;obtain⟨q,p,_,nl,MD⟩:=h;refine ae (df b.typeIs eX
  (cE eX b.typeIs F.entry_tuple_iterator_next ?_ (F.args_tuple_iterator_next_1 _)))
 show wpAny _ _ (field (.ref it) 0 >>= _) _ _ s;refine ae (cB f hd (x:=.ref l) rfl ?_);refine ae (cB f hd (x:=.int i 0) rfl ?_);refine ae (dz p MD ?_);simp only [Int.toNat_natCast,j];refine ae (ahx (ae (fY f hd (by simp) ?_)));refine ae ?_;refine ae (m:=firstArgMember _ _) (wpAny_of_eq (a:=cM) (by first|rfl|(rfl)) ?_);refine ahG ?_ (by size_fits);refine ae (wpAny_handled ?_);first|rw[g]|rw[g]
 refine ae (ay (wpAny_throw ?_));exact n _ _ (((cJ ..).extBut.push _).push _) ⟨_,aP _ rfl,rfl⟩
end
def Dm(f:A.handled=ar)(it l:aw)(g:l≠it)(items:Array ai):
  ahH prog w A it [it,l] items.size (λi v=>items[i]?=aa v) (λi h=>h.IsTupleIter it l i/\h.IsTuple l items) where
 live:=λ_ _ st=>let⟨o,a,_⟩:=st.1;⟨o,a⟩
 frame:=λ_ _ _ st c=>⟨let⟨o,a,r⟩:=st.1;⟨o,c it (by simp) o a,r⟩,let⟨o,a,r⟩:=st.2;⟨o,c l (by simp) o a,r⟩⟩
 item:=λi s Q E hi st j=>by refine vO st.1 st.2 (x:=items[i]) (by simp[hi]) λm b e=>?_;exact j _ m s.toks (by simp[hi]) ⟨b,st.2.extBut e.extBut g⟩ e
 done:=λs Q E st n=>xv f st.1 st.2 (by simp) n
def qz(D:ahH prog w A it a n P St)(h:∀i v,P i v->P' i v):ahH prog w A it a n P' St where
 live:=D.live
 frame:=D.frame
 item:=λi s Q E hi st b=>D.item i s Q E hi st λx c tk p=>b x c tk (h _ _ p)
 done:=D.done
def B4(l:aw)(items:Array ai):
  Meets (bM.«enumerate.__new__» ⟨[.type ly,.ref l],[]⟩) (λ_ R s=>s.heap.IsTuple l items/\
   R (.ok (.ret (.ref (s.heap.push {cls:=.type vk,data:=.fields #[.ref l,.int 0 0]}).objs.size)))
    {s with heap:=(s.heap.push {cls:=.type vk,data:=.fields #[.ref l,.int 0 0]}).push {cls:=.type ly,data:=.fields #[.none,.bool au,.ref s.heap.objs.size,aeB 0,.none,.none]}}):=
 .of_wp λprog w A R s h=>by
  obtain⟨f,g,d,tk,os⟩:=s;obtain⟨e,h⟩:=h;have i:=sub_enumerate;have a:aC.IsTuple (av.heap ⟨f,g,d,tk,os⟩) l items:=e;obtain⟨⟨c,kE,j,sl⟩,b,hc,n,hd⟩:=e;replace hc:c=.type fi:=hc;replace hd:j=.seq items n:=hd;subst hc hd
  wp_walk using eT b
  refine wpAny_stack_any λst=>ay ?_;split
  .rename_i c _ _ _ _ _;cases(c==c9 ly)
   .wp_walk using eT b,fM a
    exact⟨_,rfl,h⟩
   .wp_walk using eT b,fM a
    exact⟨_,rfl,h⟩
  .wp_walk using eT b,fM a
   exact⟨_,rfl,h⟩
section
variable {s:av}
def Dn(f:s.heap.IsTuple l items)
(h:∀a,IsEnum a (s.heap.objs.size+1) s.heap.objs.size 0 .none->a.IsTupleIter s.heap.objs.size l 0->a.objs.size=s.heap.objs.size+2->
   (∀b o,s.heap.get? b=aa o->a.get? b=aa o)->Q (.ref (s.heap.objs.size+1)) {s with heap:=a}):
  wpAny (model prog w) A (call (.type ly) [.ref l]) Q E s:=by
 refine callType_new F.called_enumerate (by decide) (F.typeCall_enumerate_1 _) (F.newCall_enumerate_1 _) (λobj=>F.args_object_init_2 obj _) F.entry_enumerate_new
  (B4 l items) ⟨f,?_⟩
 have c:(s.heap.push {cls:=.type vk,data:=.fields #[.ref l,.int 0 0]}).objs.size=s.heap.objs.size+1:=cj ..;rw[c];have e:=by
  have:=aP (s.heap.push {cls:=.type vk,data:=.fields #[.ref l,.int 0 0]})
   (o:={cls:=.type ly,data:=.fields #[.none,.bool au,.ref s.heap.objs.size,aeB 0,.none,.none]}) rfl
  rw[c] at this;exact this
 refine⟨⟨_,e,rfl⟩,h _ e ⟨_,aj _ (aP _ rfl),rfl,rfl⟩ (by rw[cj,c]) λb o x=>aj _ (aj _ x)⟩
end
open Sem (wp)
open Builtin
structure Gv(z TI TO i1 i2:aw)(RK Kh:List aw):Prop where
 TIz:TI≠z
 TOz:TO≠z
 TITO:TI≠TO
 TIi1:TI≠i1
 TIi2:TI≠i2
 i1m:i1∈RK
 i2m:i2∈Kh
 zf1:z∉RK
 zf2:z∉Kh
 of1:TO∉RK
 of2:TO∉Kh
 ael:i1∉Kh
 agH:i2∉RK
section
variable {A:bH} {s:av} {TI TO:aw}
def mN(D:ahH prog w A it a n P St)(st:St i h)(f:bP c h g)(hc:c∉a):St i g:=
 D.frame _ _ _ st λb hb o e=>f.extBut b o (λq=>hc (by rw[<-q];exact hb)) e
def AA{i:Nat}{a b:ai}{Q:ai->av->Prop}(Z:Gv z TI TO i1 i2 RK Kh)(u:ahH prog w A i1 RK n1 P1 S1)(B:ahH prog w A i2 Kh n2 P2 S2)
(G:ahI s.heap z TI TO .none)(Yt:d7 s.heap TI (.ref i1) (.ref i2))(RL:d7 s.heap TO a b)(h1:S1 i s.heap)(h2:S2 i s.heap)(l1:i<n1)(l2:i<n2)
(hQ:∀x y h tk,P1 i x->P2 i y->ahI h z TI TO (aeB s.heap.objs.size)->d7 h TO x y->S1 (i+1) h->S2 (i+1) h->d7 h s.heap.objs.size x y->h.objs.size=s.heap.objs.size+1->
   (∀c o,c≠z->c≠TO->c≠i1->c≠i2->s.heap.get? c=aa o->h.get? c=aa o)->Q (.ref s.heap.objs.size) {s with heap:=h,toks:=tk}):
  wpAny (model prog w) A (bM.«zip.__next__» ⟨[.ref z],[]⟩) (λkI s'=>∃v,kI=.done (.ret v)/\Q v s') E s:=by
 have i1z:i1≠z:=λq=>Z.zf1 (by rw[<-q];exact Z.i1m);have i2z:i2≠z:=λq=>Z.zf2 (by rw[<-q];exact Z.i2m);have ab1:TO≠i1:=λq=>Z.of1 (by rw[q];exact Z.i1m);have agI:TO≠i2:=λq=>Z.of2 (by rw[q];exact Z.i2m);show wpAny _ _ (field (.ref z) 2 >>= _) _ _ _;refine ae (cB G rfl (x:=.bool au) rfl ?_);show wpAny _ _ (field (.ref z) 3 >>= _) _ _ _;refine ae (cB G rfl (x:=.ref TI) rfl ?_);refine ae (dz Yt rfl ?_);show wpAny _ _ (dU (.ref z) >>= _) _ _ _;refine ae ?_;unfold dU;refine ae (cB G rfl (x:=.none) rfl (ay ?_));simp only [if_true];refine ae (ahx ?_);refine ae (cB G rfl (x:=.ref TO) rfl ?_);refine ae (eJ G (by simp) λoC BA H=>?_);replace BA:ahI oC z TI TO .ellipsis:=BA;refine ae ?_;simp only [List.zipIdx_cons,List.zipIdx_nil,ahN,List.forIn_nil];refine ae (ae (aij ?_));show wpAny _ _ (dQ (.ref i1) >>= _) _ _ _;refine ae (u.item i {s with heap:=oC} _ _ l1 (mN u h1 H Z.zf1) λx I Yu p1 aaB j=>ay ?_);replace j:bP i1 oC I:=j;have Dp:d7 I TO a b:=j.extBut _ _ ab1 (H.extBut _ _ Z.TOz RL);refine ae (dz (s:={s with heap:=I,toks:=Yu}) Dp rfl ?_);refine ae (ah8 (s:={s with heap:=I,toks:=Yu}) Dp λU HE m=>?_);replace HE:d7 U TO x b:=HE;replace m:bP TO I U:=m;refine ae (ah9 (ay ?_));refine ae (ae (aij ?_));show wpAny _ _ (dQ (.ref i2) >>= _) _ _ _;refine ae (B.item i {s with heap:=U,toks:=Yu} _ _ l2 (mN B (mN B (mN B h2 H Z.zf2) j Z.ael) m Z.of2) λy J g p2 aem n=>ay ?_);replace n:bP i2 U J:=n;have UR:d7 J TO x b:=n.extBut _ _ agI HE;refine ae (dz (s:={s with heap:=J,toks:=g}) UR rfl ?_);refine ae (ah8 (s:={s with heap:=J,toks:=g}) UR λf Y p=>?_);replace Y:d7 f TO x y:=Y;replace p:bP TO J f:=p;refine ae (ah9 (ay (ay ?_)));refine ae (dz (s:={s with heap:=f,toks:=g}) Y rfl ?_);refine ae (aia ?_);have u7:f.objs.size=s.heap.objs.size:=by rw[p.1,n.1,m.1,j.1,H.1]
 have L:ahI f z TI TO .ellipsis:=p.extBut _ _ Z.TOz.symm (n.extBut _ _ i2z.symm (m.extBut _ _ Z.TOz.symm (j.extBut _ _ i1z.symm BA)));have aen:∀c o,c≠z->c≠TO->c≠i1->c≠i2->s.heap.get? c=aa o->f.get? c=aa o:=λc o c1 c2 c3 c4 e=>
  p.extBut _ _ c2 (n.extBut _ _ c4 (m.extBut _ _ c2 (j.extBut _ _ c3 (H.extBut _ _ c1 e))))
 have aeo:S1 (i+1) f:=mN u (mN u (mN u aaB m Z.of1) n Z.agH) p Z.of1;have aep:S2 (i+1) f:=mN B aem p Z.of2;have M:z<f.objs.size:=aM L;refine ae ?_;unfold bM.SmallTypes.ownedTupleHandOut;have aer:ahI (f.push {cls:=.type fi,data:=.seq #[x,y]}) z TI TO .ellipsis:=aj _ L;refine ae (eJ (s:={s with heap:=f.push {cls:=.type fi,data:=.seq #[x,y]},toks:=g}) aer (by simp) λr US UT=>?_);replace US:ahI r z TI TO (aeB f.objs.size):=US;refine eJ (s:={s with heap:=r,toks:=g}) US (by simp) λC PV N=>?_;replace PV:ahI C z TI TO (aeB f.objs.size):=PV;replace N:bP z r C:=N;have up:∀c o,c≠z->f.get? c=aa o->C.get? c=aa o:=λc o c1 e=>N.extBut _ _ c1 (UT.extBut _ _ c1 (aj _ e));have O:d7 C f.objs.size x y:=N.extBut _ _ (dh M) (UT.extBut _ _ (dh M) (aP _ rfl));have T:C.objs.size=f.objs.size+1:=by rw[N.1,UT.1,cj]
 rw[u7] at PV O T;refine ay ⟨_,rfl,?_⟩;show Q (.ref f.objs.size) _;rw[u7];exact hQ x y C g p1 p2 PV (up _ _ Z.TOz Y) (u.frame _ _ _ aeo λc hc o e=>up c o (λq=>Z.zf1 (by rw[<-q];exact hc)) e) (B.frame _ _ _ aep λc hc o e=>up c o (λq=>Z.zf2 (by rw[<-q];exact hc)) e) O T
  λc o c1 c2 c3 c4 e=>up c o c1 (aen c o c1 c2 c3 c4 e)
def B5(Z:Gv z TI TO i1 i2 RK Kh)(H:ahH prog w A i1 RK n1 P1 S1)(I:ahH prog w A i2 Kh n2 P2 S2)
(r:ahI s.heap z TI TO .none)(Yt:d7 s.heap TI (.ref i1) (.ref i2))(RL:d7 s.heap TO a b)(h1:S1 i s.heap)(h2:S2 i s.heap)(UU:i=n1\/(i<n1/\i=n2))
(hE:∀M e tk,(∀c o,c≠z->c≠TO->c≠i1->c≠i2->s.heap.get? c=aa o->M.get? c=aa o)->(∃o,M.get? e=aa o/\o.cls=.type "StopIteration")->E (.ref e) {s with heap:=M,toks:=tk}):
  wpAny (model prog w) A (bM.«zip.__next__» ⟨[.ref z],[]⟩) Q E s:=by
 have u:i1≠z:=λq=>Z.zf1 (by rw[<-q];exact Z.i1m);have N:i2≠z:=λq=>Z.zf2 (by rw[<-q];exact Z.i2m);have O:TO≠i1:=λq=>Z.of1 (by rw[q];exact Z.i1m);show wpAny _ _ (field (.ref z) 2 >>= _) _ _ _;refine ae (cB r rfl (x:=.bool au) rfl ?_);show wpAny _ _ (field (.ref z) 3 >>= _) _ _ _;refine ae (cB r rfl (x:=.ref TI) rfl ?_);refine ae (dz Yt rfl ?_);refine ae ?_;unfold dU;refine ae (cB r rfl (x:=.none) rfl (ay ?_));simp only [if_true];refine ae (ahx ?_);refine ae (cB r rfl (x:=.ref TO) rfl ?_);refine ae (eJ r (by simp) λv J p=>?_);replace J:ahI v z TI TO .ellipsis:=J;refine ae ?_;simp only [List.zipIdx_cons,List.zipIdx_nil,ahN,List.forIn_nil];refine ae (ae (aij ?_));rcases UU with rfl|⟨l1,rfl⟩
 .refine ae (H.done {s with heap:=v} _ _ (mN H h1 p Z.zf1) λj e g T=>?_);obtain⟨U,f,h⟩:=T;replace g:aC.ExtBut i1 v j:=g;have y:ahI j z TI TO .ellipsis:=g _ _ u.symm J;have n:e≠z:=λx=>by subst x;rw[y] at f;cases f;simp at h
  exact eJ (s:={s with heap:=j}) y (by simp) λB _ m=>hE B e s.toks (λc o c1 _ Y _ x=>m.extBut _ _ c1 (g _ _ Y (p.extBut _ _ c1 x))) ⟨U,m.extBut _ _ n f,h⟩
 .refine ae (H.item i {s with heap:=v} _ _ l1 (mN H h1 p Z.zf1) λx j C p1 aaB g=>ay ?_);replace g:bP i1 v j:=g;have Dp:d7 j TO a b:=g.extBut _ _ O (p.extBut _ _ Z.TOz RL);refine ae (dz (s:={s with heap:=j,toks:=C}) Dp rfl ?_);refine ae (ah8 (s:={s with heap:=j,toks:=C}) Dp λB HE m=>?_);replace m:bP TO j B:=m;refine ae (ah9 (ay ?_));refine ae (ae (aij ?_));refine ae (I.done {s with heap:=B,toks:=C} _ _ (mN I (mN I (mN I h2 p Z.zf2) g Z.ael) m Z.of2) λC7 e L T=>?_);obtain⟨U,f,h⟩:=T;replace L:aC.ExtBut i2 B C7:=L;have G:ahI C7 z TI TO .ellipsis:=L _ _ N.symm (m.extBut _ _ Z.TOz.symm (g.extBut _ _ u.symm J));have n:e≠z:=λx=>by subst x;rw[G] at f;cases f;simp at h
  exact eJ (s:={s with heap:=C7,toks:=C}) G (by simp) λsJ _ xE=>hE sJ e C (λc o c1 c2 Y c4 x=>xE.extBut _ _ c1 (L _ _ c4 (m.extBut _ _ c2 (g.extBut _ _ Y (p.extBut _ _ c1 x))))) ⟨U,xE.extBut _ _ n f,h⟩
def Kj(Z:Gv z TI TO i1 i2 RK Kh)(h:ahH prog w A.in1 i1 RK n1 P1 S1)(j:ahH prog w A.in1 i2 Kh n2 P2 S2)
(f:ahI s.heap z TI TO .none)(m:d7 s.heap TI (.ref i1) (.ref i2))(n:d7 s.heap TO a b)(p:S1 i s.heap)(q:S2 i s.heap)(r:i<n1)(u:i<n2)
(v:∀x y e tk,P1 i x->P2 i y->ahI e z TI TO (aeB s.heap.objs.size)->d7 e TO x y->S1 (i+1) e->S2 (i+1) e->d7 e s.heap.objs.size x y->e.objs.size=s.heap.objs.size+1->
   (∀c o,c≠z->c≠TO->c≠i1->c≠i2->s.heap.get? c=aa o->e.get? c=aa o)->Q (aa (.ref s.heap.objs.size)) {s with heap:=e,toks:=tk}):
  wpAny (model prog w) A (pyNext (.ref z)) Q E s:=by
 have g:s.TypeIs (.ref z) ll:=⟨_,f,rfl⟩;exact ae (ahP (df g ah2
  (cE ah2 g F.entry_zip_next
   (AA Z h j f m n p q r u λx y e tk b1 b2 a1 a2 a3 a4 a5 a6 a7=>ay (v x y e tk b1 b2 a1 a2 a3 a4 a5 a6 a7)) (F.args_zip_next_1 _))))
def Nm(Z:Gv z TI TO i1 i2 RK Kh)(j:ahH prog w A.in1 i1 RK n1 P1 S1)(m:ahH prog w A.in1 i2 Kh n2 P2 S2)
(g:ahI s.heap z TI TO .none)(n:d7 s.heap TI (.ref i1) (.ref i2))(p:d7 s.heap TO a b)(q:S1 i s.heap)(r:S2 i s.heap)(u:i=n1\/(i<n1/\i=n2))
(v:∀f tk,(∀c o,c≠z->c≠TO->c≠i1->c≠i2->s.heap.get? c=aa o->f.get? c=aa o)->Q ar {s with heap:=f,toks:=tk}):wpAny (model prog w) A (pyNext (.ref z)) Q E s:=by
 have h:s.TypeIs (.ref z) ll:=⟨_,g,rfl⟩;refine ae (ahP (df h ah2
  (cE ah2 h F.entry_zip_next (B5 Z j m g n p q r u λf e tk x y=>?_) (F.args_zip_next_1 _))))
 obtain⟨o,B,hc⟩:=y;refine ae (aiC ⟨o,B,hc⟩ isSubtype_stop ?_);exact ay (v _ _ x)
end
def AB (v:ai)(ob:cC)(h:aC):Prop:=∀(prog:bc) (w:bI) (A:bH) (E:ai->av->Prop) (s:av) (Q:ai->av->Prop),s.heap=h->Q (.ref s.heap.objs.size) {s with heap:=s.heap.push ob}->wpAny (model prog w) A (aiI v) Q E s
abbrev ab3(h:aC)(o1 o2:cC):aC:=(h.push o1).push o2
abbrev Yv(h:aC)(o1 o2:cC):aC:=(ab3 h o1 o2).push {cls:=.type fi,data:=.seq #[.ref h.objs.size,.ref (h.push o1).objs.size]}
abbrev ab4(h:aC)(o1 o2:cC):aC:=(Yv h o1 o2).push {cls:=.type fi,data:=.seq #[.none,.none]}
abbrev Nn(h:aC)(o1 o2:cC):aC:=(ab4 h o1 o2).push {cls:=.type ll,data:=.fields #[.none,.bool au,.bool au,.ref (ab3 h o1 o2).objs.size,.ref (Yv h o1 o2).objs.size]}
def HG(v1 i:ai)(o1 o2:cC):
  Meets (bM.«zip.__new__» ⟨[.type ll,v1,i],[]⟩) (λ_ R s=>AB v1 o1 s.heap/\AB i o2 (s.heap.push o1)/\
   R (.ok (.ret (.ref (ab4 s.heap o1 o2).objs.size))) {s with heap:=Nn s.heap o1 o2}):=
 .of_wp λprog w A R s h=>by
  obtain⟨a,g,d,tk,os⟩:=s;obtain⟨b,c,h⟩:=h;have j:=sub_zip;have e:∀(A:bH) (E:ai->av->Prop) (Q:ai->av->Prop),Q (.ref a.objs.size) ⟨a.push o1,g,d,tk,os⟩->wpAny (model prog w) A (aiI v1) Q E ⟨a,g,d,tk,os⟩:=λA E Q q=>b prog w A E ⟨a,g,d,tk,os⟩ Q rfl q;have f:=λA E Q q=>c prog w A E ⟨a.push o1,g,d,tk,os⟩ Q rfl q
  wp_walk using e _ _ _,f _ _ _
  exact⟨_,rfl,h⟩
section
variable {s:av}
def Kl(q:AB v1 o1 s.heap)(r:AB j o2 (s.heap.push o1))(u:o1.isFreed=au)(v:o2.isFreed=au)
(h:∀a,ahI a (s.heap.objs.size+4) (s.heap.objs.size+2) (s.heap.objs.size+3) .none->d7 a (s.heap.objs.size+2) (.ref s.heap.objs.size) (.ref (s.heap.objs.size+1))->
   d7 a (s.heap.objs.size+3) .none .none->a.get? s.heap.objs.size=aa o1->a.get? (s.heap.objs.size+1)=aa o2->a.objs.size=s.heap.objs.size+5->
   (∀c o,s.heap.get? c=aa o->a.get? c=aa o)->Q (.ref (s.heap.objs.size+4)) {s with heap:=a}):
  wpAny (model prog w) A (call (.type ll) [v1,j]) Q E s:=by
 refine callType_new F.called_zip (by decide) (F.typeCall_zip_2 _ _) (F.newCall_zip_2 _ _) (λobj=>F.args_object_init_3 obj _ _) F.entry_zip_new
  (HG v1 j o1 o2) ⟨q,r,?_⟩
 have b:(s.heap.push o1).objs.size=s.heap.objs.size+1:=cj ..;have e:(ab3 s.heap o1 o2).objs.size=s.heap.objs.size+2:=by rw[cj,b]
 have f:(Yv s.heap o1 o2).objs.size=s.heap.objs.size+3:=by rw[cj,e]
 have g:(ab4 s.heap o1 o2).objs.size=s.heap.objs.size+4:=by rw[cj,f]
 have y:(Nn s.heap o1 o2).objs.size=s.heap.objs.size+5:=by rw[cj,g]
 have i:(Nn s.heap o1 o2).get? _=aa _:=aP _ rfl;have m:(Nn s.heap o1 o2).get? (Yv s.heap o1 o2).objs.size=aa _:=aj _ (aP _ rfl);have n:(Nn s.heap o1 o2).get? _=aa _:=aj _ (aj _ (aP _ rfl));have p:(Nn s.heap o1 o2).get? (s.heap.push o1).objs.size=aa o2:=aj _ (aj _ (aj _ (aP _ v)));have z:(Nn s.heap o1 o2).get? s.heap.objs.size=aa o1:=aj _ (aj _ (aj _ (aj _ (aP _ u))));show _/\_;rw[e,f,g] at i;rw[b,e] at n;rw[f] at m;rw[b] at p;rw[g];exact⟨⟨_,i,rfl⟩,h _ i n m z p y λc o x=>
  aj _ (aj _ (aj _ (aj _ (aj _ x))))⟩
end
end PySem
section
open PySem PySem.Spec PyProof.Rows
namespace L2
section
variable {s:av} {h':aC}
def Inv.HH(ch:List aw)(I:Inv X cc σ H s)(k:∀b o,b∉ch->s.heap.get? b=aa o->h'.get? b=aa o)(f:∀b∈ch,uf X cc H b):Inv X cc σ H {s with heap:=h',toks:=t'}:=by
 have a:∀b u,H b=aa u->b∉ch:=λb u e z=>by have:=(f b z).1;rw[this] at e;cases e
 have g:=λz=>(f _ z).2.1 rfl;refine I.step (λb hb=>?_) (λb o _ _ hc e _=>k b o hc e) (λb o _ _ hc e _=>⟨o.slots,k b o hc e⟩) (λ_ _ _ _ n=>n)
  (λb o hc e=>⟨o,k b o hc e⟩) (λ_ _ e=>e) (λ_ _ _ e=>e) (λb y e=>⟨#[],by rw[e];simp⟩) (λm hm=>?_) (λb u e=>?_) I.bare
 .obtain⟨f0,h,A,i,j,p⟩:=f b hb;exact⟨i,h,j,p⟩
 .obtain⟨o,es,w,x,r⟩:=hm;exact⟨o,es,w,k _ o g x,r⟩
 .refine(I.ja b u e).vm (λc v hc q=>k c v ?_ q) (λ_ q=>q) λ_ _ q=>q;rcases hc with z|z
  .rw[z];exact a b u e
  .exact a c _ z
end
section
variable {s:av} {h':aC}
def Inv.HI(ch:List aw)(I:Inv X cc σ H s)(k:∀b o,b∉ch->s.heap.get? b=aa o->h'.get? b=aa o)(g:∀b∈ch,uf X cc H b)(h:s.heap.objs.size<=T)
(j:i.length<=aO)(r:Vals i iM)(ht:aih h' T iM.toArray):Inv X cc σ (upd H T (.tup i)) {s with heap:=h',toks:=E}:=by
 have a:∀b u,H b=aa u->b∉ch:=λb u e z=>by have:=(g b z).1;rw[this] at e;cases e
 have f:=I.ja.fresh h;have neT:∀b o,s.heap.get? b=aa o->b≠T:=λb o e=>bd (bw (aM e) h);have p:=λz=>(g _ z).2.1 rfl;refine I.step (λb hb=>?_) (λb o _ _ hc e _=>k b o hc e) (λb o _ _ hc e _=>⟨o.slots,k b o hc e⟩) (λb o _ e n=>by rw[ii (neT b o e)];exact n)
  (λb o hc e=>⟨o,k b o hc e⟩) (λb xs e=>by rw[ii (j5 e f)];exact e) (λb o u e=>by rw[ii (j5 e f)];exact e) (λb G e=>⟨#[],by rw[ii (j5 e f),e];simp⟩) (λm hm=>?_) (λb u e=>?_) I.bare
 .obtain⟨f0,w,J,x,y,A⟩:=g b hb;exact⟨x,w,y,A⟩
 .obtain⟨o,es,B,C,r⟩:=hm;exact⟨o,es,B,k _ o p C,r⟩
 .by_cases hb:b=T
  .subst hb;rw[iE] at e;cases e;exact⟨j,iM,r,ht⟩
  .rw[ii hb] at e;refine(I.ja b u e).vm (λc v hc q=>k c v ?_ q) (λc q=>by rw[ii (j5 q f)];exact q) λc xs q=>by rw[ii (j5 q f)];exact q
   rcases hc with z|z
   .rw[z];exact a b u e
   .exact a c _ z
end
inductive Sk where
 |L (a:aw)|T (a:aw)|S (z:aX) (t:ajL)
def Sk.val:Sk->ai
 |.L a=>.ref a
 |.T a=>.ref a
 |.S z t=>.str z t
def Sk.obj:Sk->cC
 |.L a=>{cls:=.type "list_iterator",data:=.fields #[.ref a,.int 0 0]}
 |.T a=>{cls:=.type vk,data:=.fields #[.ref a,.int 0 0]}
 |.S z t=>{cls:=.type (eC z),data:=.fields #[.str z t,.int 0 0]}
def Sk.st(it:aw):Sk->Nat->aC->Prop
 |.L a,i,h=>h.IsListIter it a i
 |.T a,i,h=>h.IsTupleIter it a i
 |.S z t,i,h=>h.IsStrIter it (eC z) z t i
def Sk.seq(K:bz)(H:Hp):Sk->List V->Prop
 |.L a,b=>nI K H a b
 |.T a,b=>xQ K H a b
 |.S z _,b=>b=z.cps.toList.map λc=>V.str ⟨#[c]⟩
def Sk.Dq{k:Sk}(st:k.st it i h):∃o,h.get? it=aa o/\∃n fs,o.cls=.type n/\o.data=.fields fs/\[ly,ll,zv,uay,uaz,uaA,uaB].contains n=au:=by
 cases k with
 |L a=>obtain⟨o,e,c,d⟩:=st;exact⟨o,e,_,_,c,d,by decide⟩
 |T a=>obtain⟨o,e,c,d⟩:=st;exact⟨o,e,_,_,c,d,by decide⟩
 |S z t=>
  obtain⟨o,e,c,d⟩:=st;refine⟨o,e,_,_,c,d,?_⟩;rcases pM with q|q<;>(rw[q];decide)
def Sk.zu{k:Sk}(st:k.st it i h)(b:∀o,h.get? it=aa o->c.get? it=aa o):k.st it i c:=by
 cases k with
 |L a=>obtain⟨o,e,r⟩:=st;exact⟨o,b o e,r⟩
 |T a=>obtain⟨o,e,r⟩:=st;exact⟨o,b o e,r⟩
 |S z t=>obtain⟨o,e,r⟩:=st;exact⟨o,b o e,r⟩
def Sk.UW{k:Sk}(e:h.get? it=aa k.obj):k.st it 0 h:=by
 cases k with
 |L a=>exact⟨_,e,rfl,rfl⟩
 |T a=>exact⟨_,e,rfl,rfl⟩
 |S z t=>exact⟨_,e,rfl,rfl⟩
section
variable {X:Cx} {s:av}
def Sk.inj(I:Inv X cc σ H s){k:Sk}(h:k.seq X.K H c)(b:k.seq X.K H zs):c=zs:=by
 cases k with
 |L a=>exact I.JL h b
 |T a=>exact I.F6 h b
 |S z t=>exact h.trans b.symm
def Yw(I:Inv X cc σ H s)(a:uf X cc H b):H b=ar/\X.K.lookup b=ar:=by
 refine⟨a.1,?_⟩;cases e:X.K.lookup b with
 |none=>rfl
 |some o=>
  have hb:=I.ok.mod.TN b o e;rcases a.2.2.2.1 with z|z
  .exact absurd z (I.ok.JJ b o hb)
  .exact absurd (bw (aM hb) (bG I.ok.Rj z)) (cD _)
def Sk.PX(I:Inv X cc σ H s)(c:uf X cc H b)(h:nI X.K H a f\/xQ X.K H a f):a≠b:=λe=>by subst e;obtain⟨g,i⟩:=Yw I c;rcases h with((h|⟨_,h⟩)|⟨_,_,_,h,_⟩)|((h|⟨_,h⟩)|⟨_,_,_,h,_⟩);all_goals first|(rw[g] at h;cases h)|(rw[i] at h;cases h)
def Sk.draws{A:bH}(I:Inv X cc σ H s)(n:A.handled=ar){k:Sk}{f:List V}(g:k.seq X.K H f){it:aw}(M:uf X cc H it){i:Nat}(st:k.st it i s.heap):
  ∃B St,ahH X.prog X.w A it B f.length (λi v=>∃y,f[i]?=aa y/\RelV y v) St/\St i s.heap/\it∈B/\(∀b,uf X cc H b->b≠it->b∉B)/\∀j h,St j h->k.st it j h:=by
 cases k with
 |L a=>
  obtain⟨iM,r,p,O⟩:=I.list g;have C:a≠it:=Sk.PX I M (.inl g);refine⟨[it,a],(λi h=>h.IsListIter it a i/\h.IsList a iM.toArray),?_,⟨st,p.isList⟩,by simp,λb hb e=>?_,λj h q=>q.1⟩
  .have D:=qz (P':=λi v=>∃y,f[i]?=aa y/\RelV y v) (ahH.list (prog:=X.prog) (w:=X.w) n it a C iM.toArray) (λi v e=>by
    have hi:i<iM.length:=by have:=(cT.mp e).1;simpa using this
    have m:i<f.length:=by rw[r.length];exact hi
    obtain⟨u,E,G⟩:=r.get (i:=i) (x:=f[i]) (by simp[m]);have:u=v:=by
     have e':iM[i]?=aa v:=by simpa using e
     rw[E] at e';exact bF e'
    subst this;exact⟨f[i],by simp[m],G⟩)
   rw[aR,<-r.length] at D;exact D
  .have:=Sk.PX I hb (.inl g);simp only [aH,bV,or_false]
   rintro(q|q)
   .exact e q
   .exact this q.symm
 |T a=>
  obtain⟨iM,r,p,O⟩:=I.tuple g;have C:a≠it:=Sk.PX I M (.inr g);refine⟨[it,a],(λi h=>h.IsTupleIter it a i/\h.IsTuple a iM.toArray),?_,⟨st,(show s.heap.IsTuple a iM.toArray from p)⟩,by simp,λb hb e=>?_,λj h q=>q.1⟩
  .have D:=qz (P':=λi v=>∃y,f[i]?=aa y/\RelV y v) (Dm (prog:=X.prog) (w:=X.w) n it a C iM.toArray) (λi v e=>by
    have hi:i<iM.length:=by have:=(cT.mp e).1;simpa using this
    have m:i<f.length:=by rw[r.length];exact hi
    obtain⟨u,E,G⟩:=r.get (i:=i) (x:=f[i]) (by simp[m]);have:u=v:=by
     have e':iM[i]?=aa v:=by simpa using e
     rw[E] at e';exact bF e'
    subst this;exact⟨f[i],by simp[m],G⟩)
   rw[aR,<-r.length] at D;exact D
  .have:=Sk.PX I hb (.inr g);simp only [aH,bV,or_false]
   rintro(q|q)
   .exact e q
   .exact this q.symm
 |S z t=>
  have g:f=z.cps.toList.map λc=>V.str ⟨#[c]⟩:=g;subst g;have o:∀(i:Nat) (v:ai),(∃(c:Nat) (u:ajL),z.cps[i]?=aa c/\v=ai.str ⟨#[c]⟩ u)->∃y,(z.cps.toList.map λc=>V.str ⟨#[c]⟩)[i]?=aa y/\RelV y v:=by
   rintro i v ⟨c,u,Q,U⟩
   refine⟨.str ⟨#[c]⟩,?_,u,U⟩;rw[bh,ck,Q];rfl
  have N:(z.cps.toList.map λc=>V.str ⟨#[c]⟩).length=z.cps.size:=by simp
  have key:eC z=uaC\/eC z="str_iterator":=pM;rcases key with e|e
  .have J:s.heap.IsStrIter it uaC z t i:=by rw[<-e];exact st
   refine⟨[it],_,by rw[N];exact qz (ahH.strAscii n it z t) o,J,by simp,λb hb e=>by simpa using e,λj h q=>by show h.IsStrIter it (eC z) z t j;rw[e];exact q⟩
  .have J:s.heap.IsStrIter it "str_iterator" z t i:=by rw[<-e];exact st
   refine⟨[it],_,by rw[N];exact qz (ahH.strWide n it z t) o,J,by simp,λb hb e=>by simpa using e,λj h q=>by show h.IsStrIter it (eC z) z t j;rw[e];exact q⟩
def Sk.iter(I:Inv X cc σ H s){k:Sk}(b:k.seq X.K H f):AB k.val k.obj s.heap:=by
 intro prog w A E g Q e q;cases k with
 |L a=>
  obtain⟨iM,r,p,c⟩:=I.list b;exact dL (by rw[e];exact p.isList) q
 |T a=>
  obtain⟨iM,r,p,c⟩:=I.tuple b;exact fM (by rw[e];exact(p)) q
 |S z t=>exact ajr q
def Sk.aes(I:Inv X cc σ H s){k:Sk}(b:k.seq X.K H f)(o:cC):AB k.val k.obj (s.heap.push o):=by
 intro prog w A E g Q e q;cases k with
 |L a=>
  obtain⟨iM,r,p,c⟩:=I.list b;exact dL (by rw[e];exact p.isList.push _) q
 |T a=>
  obtain⟨iM,r,p,c⟩:=I.tuple b;exact fM (by rw[e];exact aC.IsTuple.push (p) _) q
 |S z t=>exact ajr q
end
def Sk.freed(k:Sk):k.obj.isFreed=au:=by cases k<;>rfl
def Ite(K:bz)(k:Sk):It:=⟨λi H=>∃a y,k.seq K H a/\a[i]?=aa y,λi H x b=>∃p,x=.ref p/\H p=ar/\∀a,k.seq K H a->∃y,a[i]?=aa y/\b=upd H p (.tup [.int i,y]),λi H=>∃a,k.seq K H a/\a.length=i⟩
def RN{P:bc}{w:bI}{K:bz}{elts:List bJ}{n:Nat}{pos:eL}(k:Sk)(e it:aw)(L:e≠it):Turn P w K (.Tuple elts n pos) (Ite K k) [e,it] e (λi h=>(∃old,IsEnum h e it i old)/\k.st it i h) where
 mem:=by simp
 obj:=λi h st b hb=>by
  obtain⟨⟨old,a⟩,s⟩:=st;simp only [aH,bV,or_false] at hb;rcases hb with rfl|rfl
  .exact⟨_,a,λv z=>by cases z⟩
  .obtain⟨o,e,n,fs,c,d,_⟩:=Sk.Dq s;exact⟨o,e,λv z=>by rw[d] at z;cases z⟩
 keep:=λi h M st N=>by obtain⟨⟨old,a⟩,s⟩:=st;exact⟨⟨old,N e (by simp) _ a⟩,Sk.zu s λo q=>N it (by simp) o q⟩
 item:=by
  intro X p hw U hc i cc s σ H E I f st Y;subst p hw U;obtain⟨ys,y,O,u⟩:=Y;obtain⟨⟨old,a⟩,g⟩:=st;have j:=f e (by simp);have m:=f it (by simp);have J8:X.A.in1.handled=ar:=I.ok.hd hc;obtain⟨fp,St,D,Xp,hm,x8,kq⟩:=Sk.draws I J8 O m g;have W:=WalksT.enumerateD (A:=X.A) D e L (x8 e j L) hm;have hi:i<ys.length:=(ak.mp u).1;refine W.item i s _ _ hi ⟨⟨old,a⟩,Xp⟩ λT abP M tk p hT agJ B hk=>⟨.ref T,rfl,?_⟩;obtain⟨t,x,⟨y',Ya,ry⟩,rfl⟩:=p;have:y'=y:=by rw[u] at Ya;exact(bF Ya).symm
  subst this;have hap:=W.apart i T M B;refine W.go elts n pos i T {s with heap:=M,toks:=tk} _ E B λTz C G=>?_;have J:T∉[e,it]:=hap;have N:=λb o hb eb=>G b o hb (hk b o hb eb);have hTs:Tz.IsTuple T #[.int i t,x]:=by obtain⟨o,ho,r⟩:=agJ;exact⟨o,G T o J ho,r⟩
  have UV:H T=ar:=I.ja.fresh hT;have I2:Inv X cc σ (upd H T (.tup [.int i,y'])) {s with heap:=Tz,toks:=tk}:=I.HI [e,it] N (λb hb=>f b hb) hT (by show 2<=aO;decide) (iM:=[.int i t,x]) (.cons ⟨t,rfl⟩ (.cons ry .nil)) hTs;refine⟨.ref T,_,I2,rfl,⟨T,rfl,UV,λzs hz=>?_⟩,⟨C.1,kq _ _ C.2⟩,λb hb=>?_⟩
  .rw[Sk.inj I hz O];exact⟨y',u,rfl⟩
  .rw[ii λq=>J (by rw[<-q];exact hb)];exact(f b hb).1
 done:=by intro X p hw U hc i cc s σ H E I f st Y;subst p hw U;obtain⟨ys,O,u⟩:=Y;obtain⟨⟨old,a⟩,g⟩:=st;have j:=f e (by simp);have m:=f it (by simp);have J8:X.A.in1.handled=ar:=I.ok.hd hc;obtain⟨fp,St,D,Xp,hm,x8,kq⟩:=Sk.draws I J8 O m g;have W:=WalksT.enumerateD (A:=X.A) D e L (x8 e j L) hm;subst u;exact W.done s _ _ ⟨⟨old,a⟩,Xp⟩ λM tk hk=>⟨rfl,I.HH [e,it] hk (λb hb=>f b hb)⟩
 self:=λA i s Q E st h=>by obtain⟨⟨old,a⟩,_⟩:=st;exact ajs a h
def Itz(K:bz)(k b:Sk):It:=⟨λi H=>∃a zs y z,k.seq K H a/\b.seq K H zs/\a[i]?=aa y/\zs[i]?=aa z,
 λi H x c=>∃p,x=.ref p/\H p=ar/\∀a zs,k.seq K H a->b.seq K H zs->∃y z,a[i]?=aa y/\zs[i]?=aa z/\c=upd H p (.tup [y,z]),
 λi H=>∃a zs,k.seq K H a/\b.seq K H zs/\(i=a.length\/(i<a.length/\i=zs.length))⟩
def UX{P:bc}{w:bI}{K:bz}{elts:List bJ}{n:Nat}{pos:eL}(k k2:Sk)(z TI TO f g:aw)(nd:[z,TI,TO,f,g].Nodup):Turn P w K (.Tuple elts n pos) (Itz K k k2) [z,TI,TO,f,g] z
  (λi h=>ahI h z TI TO .none/\d7 h TI (.ref f) (.ref g)/\(∃a b,d7 h TO a b)/\k.st f i h/\k2.st g i h) where
 mem:=by simp
 obj:=λi h st b hb=>by
  obtain⟨C,x,⟨a,c,G⟩,J,L⟩:=st;simp only [aH,bV,or_false] at hb;rcases hb with rfl|rfl|rfl|rfl|rfl
  .exact⟨_,C,λv z=>by cases z⟩
  .exact⟨_,x,λv z=>by cases z⟩
  .exact⟨_,G,λv z=>by cases z⟩
  .obtain⟨o,e,n,fs,c,d,_⟩:=Sk.Dq J;exact⟨o,e,λv z=>by rw[d] at z;cases z⟩
  .obtain⟨o,e,n,fs,c,d,_⟩:=Sk.Dq L;exact⟨o,e,λv z=>by rw[d] at z;cases z⟩
 keep:=λi h h' st M=>by obtain⟨C,x,⟨a,c,G⟩,J,L⟩:=st;exact⟨M z (by simp) _ C,M TI (by simp) _ x,⟨a,c,M TO (by simp) _ G⟩,Sk.zu J λo q=>M f (by simp) o q,Sk.zu L λo q=>M g (by simp) o q⟩
 item:=by
  intro X hP hw hK hc i cc s σ H E I j st hg;subst hP hw hK;obtain⟨ys,zs,y,y2,hq,B,hy,N⟩:=hg;obtain⟨C,x,⟨a,c,G⟩,J,L⟩:=st;have m:=j z (by simp);have Yt:=j TI (by simp);have RL:=j TO (by simp);have p:=j f (by simp);have UY:=j g (by simp);simp only [dw,aH,bV,or_false,not_or,eO,and_true,not_false_eq_true] at nd;obtain⟨⟨n1,n2,n3,n4⟩,⟨n5,n6,n7⟩,⟨n8,n9⟩,r⟩:=nd;have J8:X.A.in1.handled=ar:=I.ok.hd hc;obtain⟨fp,St,D,Xp,hm,O,kq⟩:=Sk.draws I J8 hq p J;obtain⟨Kh,St2,D2,T,U,Y,aeu⟩:=Sk.draws I J8 B UY L;have Z:Gv z TI TO f g fp Kh:=⟨b9 n1,b9 n2,n5,n6,n7,hm,U,O z m n3,Y z m n4,O TO RL n8,Y TO RL n9,Y f p r,O g UY (b9 r)⟩;have l1:i<ys.length:=(ak.mp hy).1;have l2:i<zs.length:=(ak.mp N).1;refine Kj Z D D2 C x G Xp T l1 l2 λu v h' tk p1 p2 g1 g2 g3 g4 g5 g6 g7=>⟨.ref s.heap.objs.size,rfl,?_⟩;obtain⟨y',Ya,ry⟩:=p1;obtain⟨y2',aev,ry2⟩:=p2;have e1:y'=y:=by rw[hy] at Ya;exact(bF Ya).symm
  have e2:y2'=y2:=by rw[N] at aev;exact(bF aev).symm
  subst e1 e2;refine wpAny_letOwnedTupleGo_zip (s:={s with heap:=h',toks:=tk}) g1 λTz agK UZ=>?_;replace UZ:bP z h' Tz:=UZ;have lt:∀{c o},s.heap.get? c=aa o->s.heap.objs.size≠c:=λe=>dh (aM e);have M:∀b o,b∉[z,TI,TO,f,g]->s.heap.get? b=aa o->Tz.get? b=aa o:=λb o hb eb=>by simp only [aH,bV,or_false,not_or] at hb;exact UZ.extBut _ _ hb.1 (g7 b o hb.1 hb.2.2.1 hb.2.2.2.1 hb.2.2.2.2 eb)
  have hTz:s.heap.objs.size≠z:=lt C;have hTn:s.heap.objs.size∉[z,TI,TO,f,g]:=by
   simp only [aH,bV,or_false,not_or];refine⟨hTz,lt x,lt G,?_,?_⟩
   .obtain⟨o,e,_⟩:=Sk.Dq J;exact lt e
   .obtain⟨o,e,_⟩:=Sk.Dq L;exact lt e
  have hTs:aih Tz s.heap.objs.size #[u,v]:=⟨_,UZ.extBut _ _ hTz g5,rfl,_,rfl⟩;have UV:H s.heap.objs.size=ar:=I.ja.fresh (aD _);have I2:Inv X cc σ (upd H s.heap.objs.size (.tup [y',y2'])) {s with heap:=Tz,toks:=tk}:=I.HI [z,TI,TO,f,g] M (λb hb=>j b hb) (aD _) (by show 2<=aO;decide) (iM:=[u,v]) (.cons ry (.cons ry2 .nil)) hTs;have up:∀c o,c≠z->h'.get? c=aa o->Tz.get? c=aa o:=λc o hc e=>UZ.extBut _ _ hc e;refine⟨.ref s.heap.objs.size,_,I2,rfl,⟨_,rfl,UV,λas bs ha hb=>?_⟩,⟨agK,up _ _ (b9 n1) (g7 _ _ (b9 n1) n5 n6 n7 x),⟨_,_,up _ _ (b9 n2) g2⟩,Sk.zu (kq _ _ g3) λo q=>up _ _ (b9 n3) q,Sk.zu (aeu _ _ g4) λo q=>up _ _ (b9 n4) q⟩,λb hb=>?_⟩
  .rw[Sk.inj I ha hq,Sk.inj I hb B];exact⟨y',y2',hy,N,rfl⟩
  .rw[ii λq=>hTn (by rw[<-q];exact hb)];exact(j b hb).1
 done:=by intro X hP hw hK hc i cc s σ H E I j st hg;subst hP hw hK;obtain⟨ys,zs,hq,B,UU⟩:=hg;obtain⟨C,x,⟨a,c,G⟩,J,L⟩:=st;have m:=j z (by simp);have Yt:=j TI (by simp);have RL:=j TO (by simp);have p:=j f (by simp);have UY:=j g (by simp);simp only [dw,aH,bV,or_false,not_or,eO,and_true,not_false_eq_true] at nd;obtain⟨⟨n1,n2,n3,n4⟩,⟨n5,n6,n7⟩,⟨n8,n9⟩,r⟩:=nd;have J8:X.A.in1.handled=ar:=I.ok.hd hc;obtain⟨fp,St,D,Xp,hm,O,kq⟩:=Sk.draws I J8 hq p J;obtain⟨Kh,St2,D2,T,U,Y,aeu⟩:=Sk.draws I J8 B UY L;have Z:Gv z TI TO f g fp Kh:=⟨b9 n1,b9 n2,n5,n6,n7,hm,U,O z m n3,Y z m n4,O TO RL n8,Y TO RL n9,Y f p r,O g UY (b9 r)⟩;refine Nm Z D D2 C x G Xp T UU λh' tk hk=>⟨rfl,I.HH [z,TI,TO,f,g] (λb o hb eb=>?_) (λb hb=>j b hb)⟩;simp only [aH,bV,or_false,not_or] at hb;exact hk b o hb.1 hb.2.2.1 hb.2.2.2.1 hb.2.2.2.2 eb
 self:=λA i s Q E st h=>ajF st.1 h
def Np (K:bz)(H:Hp)(x:V)(Rk:Sk->Prop):Prop:=(∃a,x=.ref a/\(∃b,nI K H a b)/\Rk (.L a))\/(∃a,x=.ref a/\(∃b,xQ K H a b)/\Rk (.T a))\/(∃z,x=.str z/\∀t,Rk (.S z t))
def Np.get{K:bz}(h:Np K H x Rk)(r:RelV x u):∃k:Sk,u=k.val/\(∃b,k.seq K H b)/\Rk k:=by
 rcases h with⟨a,rfl,⟨b,h⟩,q⟩|⟨a,rfl,⟨b,h⟩,q⟩|⟨z,rfl,q⟩
 .exact⟨.L a,r,⟨b,h⟩,q⟩
 .exact⟨.T a,r,⟨b,h⟩,q⟩
 .obtain⟨t,rfl⟩:=r;exact⟨.S z t,rfl,⟨_,rfl⟩,q t⟩
def Sk.it(K:bz):Sk->It
 |.L a=>Itl K a
 |.T a=>Itt K a
 |.S z _=>Its z
section
variable {X:Cx}
def agL (K:bz)(a:TE):TI:=λσ H R=>a σ H λx H1=>Np K H1 x λk=>R (k.it K) H1
def ab6(f:PE X e g):PI X tg e (agL X.K g):=by
 intro cc s σ H R I h;refine lB (f cc s σ H _ I h) λv s1 i=>?_;obtain⟨x,H1,I1,j,m⟩:=i;obtain⟨k,rfl,⟨p,n⟩,q⟩:=m.get j;refine(Sk.iter I1 n) _ _ _ _ s1 _ rfl ?_;have hb:∀b∈[s1.heap.objs.size],uf X cc H1 b:=λb hb=>by
  have e:=by simpa using hb
  subst e;exact I1.JQ (aD _) (I1.ja.fresh (aD _))
 have c:Inv X cc σ H1 {s1 with heap:=s1.heap.push k.obj}:=I1.kept λb o e=>aj _ e;cases k with
 |L a=>exact⟨s1.heap.objs.size,[s1.heap.objs.size],_,_,H1,rfl,c,Rl a _,⟨_,aP _ rfl,rfl,rfl⟩,hb,q⟩
 |T a=>exact⟨s1.heap.objs.size,[s1.heap.objs.size],_,_,H1,rfl,c,MN a _,⟨_,aP _ rfl,rfl,rfl⟩,hb,q⟩
 |S z t=>exact⟨s1.heap.objs.size,[s1.heap.objs.size],_,_,H1,rfl,c,UA _ z t,⟨⟨_,aP _ rfl,rfl,rfl⟩,bD _⟩,hb,q⟩
def aew (K:bz)(a:TA):TI:=λσ H R=>a σ H λb H1=>∃x,b=[x]/\Np K H1 x λk=>R (Ite K k) H1
def Yx(B:Gl X ly)(hm:X.mg ly=ar)(ha:PA X [a] C)(j:bg [a] X.env=[(au,eval a X.env)]:=by rfl):
  PI X (.Tuple elts n E) (.Call (.Name ly p) [a] [] pos) (aew X.K C):=by
 intro cc s σ H R I h;refine Call_ (ud I B hm boot_enumerate (cN (lB (ha pos cc s σ H _ I h) λus s1 ⟨N,H1,I1,G,v⟩=>?_) j rfl));obtain⟨x,rfl,v⟩:=v;obtain⟨u,rfl,J⟩:=vals1 G;obtain⟨k,rfl,⟨O,j⟩,q⟩:=v.get J;have y:∀c:aC,IsEnum c _ _ 0 .none->k.st _ 0 c->(∀b o,s1.heap.get? b=aa o->c.get? b=aa o)->
   wpAny (model X.prog X.w) X.A _ (PIE X cc σ (.Tuple elts n E) R) X.xe {s1 with heap:=c}:=λc e f m=>by
  refine ajs e ?_;have ne:s1.heap.objs.size+1≠s1.heap.objs.size:=by omega
  refine⟨s1.heap.objs.size+1,[s1.heap.objs.size+1,s1.heap.objs.size],_,_,H1,rfl,I1.kept m,RN k _ _ ne,⟨⟨_,e⟩,f⟩,λb hb=>?_,q⟩;have g:s1.heap.objs.size<=b:=by simp only [aH,bV,or_false] at hb;rcases hb with rfl|rfl<;>omega
  exact I1.JQ g (I1.ja.fresh g)
 cases k with
 |L a=>
  obtain⟨iM,r,pl,M⟩:=I1.list j;exact call_enumerate_list pl.isList λc e f m i=>y c e f i
 |T a=>
  obtain⟨iM,r,pl,M⟩:=I1.tuple j;exact Dn (pl) λc e f m i=>y c e f i
 |S z t=>exact call_enumerate_str λc e f m i=>y c e f i
def RO:bT ll=aa (.type ll):=by decide+kernel
def agM (K:bz)(a:TA):TI:=λσ H R=>a σ H λb H1=>∃x y,b=[x,y]/\Np K H1 x λk=>Np K H1 y λc=>R (Itz K k c) H1
def ab7(m:Gl X ll)(hm:X.mg ll=ar)(ha:PA X [a,b] o)(f:bg [a,b] X.env=[(au,eval a X.env),(au,eval b X.env)]:=by rfl)(e:bg [b] X.env=[(au,eval b X.env)]:=by rfl):
  PI X (.Tuple elts n J) (.Call (.Name ll p) [a,b] [] pos) (agM X.K o):=by
 intro cc s σ H R I h;refine Call_ (ud I m hm RO (cN (lB (ha pos cc s σ H _ I h) λus s1 ⟨L,H1,I1,r,g⟩=>?_) (by rw[f,e]) (by rw[e];rfl)));obtain⟨x,y,rfl,g⟩:=g;obtain⟨u,v,rfl,w,z⟩:=vals2 r;obtain⟨k,rfl,⟨M,f⟩,q⟩:=g.get w;obtain⟨i,rfl,⟨zs,e⟩,q⟩:=q.get z;refine Kl (Sk.iter I1 f) (Sk.aes I1 e _) k.freed i.freed λN j A B C E O G=>?_;refine ajF j ?_;refine⟨_,[s1.heap.objs.size+4,s1.heap.objs.size+2,s1.heap.objs.size+3,s1.heap.objs.size,s1.heap.objs.size+1],_,_,H1,rfl,I1.kept G,UX k i _ _ _ _ _ (by simp),⟨j,A,⟨_,_,B⟩,Sk.UW C,Sk.UW E⟩,λb hb=>?_,q⟩;have c:s1.heap.objs.size<=b:=by simp only [aH,bV,or_false] at hb;rcases hb with rfl|rfl|rfl|rfl|rfl<;>omega
 exact I1.JQ c (I1.ja.fresh c)
end
end L2
namespace L3
open L2
def yb:D->Option (List D)
 |.lst ds=>aa ds
 |.tup ds=>aa ds
 |.rS ns=>aa (ns.map D.int)
 |.str z=>aa (z.cps.toList.map λc=>D.str ⟨#[c]⟩)
 |_=>ar
def SkV (d:D)(v:V)(k:Sk):Prop:=match d with
 |.lst _|.rS _=>∃a,v=.ref a/\k=.L a
 |.tup _=>∃a,v=.ref a/\k=.T a
 |.str z=>v=.str z/\∃t,k=.S z t
 |_=>False
section
variable {K:bz}
def Cw(o:OK K F α H M)(r:Rep K α (jU F α M H) d v)(e:yb (vw M d)=aa items)(b:SkV (vw M d) v k):∃g,k.seq K H g/\hZ K α (jU F α M H) items g:=by
 generalize e1:vw M d=x at e b;cases x<;>first|(cases e;done)|skip
 .cases e;have e2:=nO e1;obtain⟨rfl,t,rfl⟩:=b;exact⟨_,rfl,hZ.of_map _ _ (λc=>qr) _⟩
 .cases e;obtain⟨a,rfl,rfl⟩:=b;obtain⟨h,f,e3,q,z⟩:=mV o r e1;cases e3;exact⟨f,q,z⟩
 .cases e;obtain⟨a,rfl,rfl⟩:=b;obtain⟨h,f,e3,q,z⟩:=jN o r e1;cases e3;exact⟨f,nI.of q,z⟩
 .cases e;have e2:=vM e1;subst e2;obtain⟨a,rfl,rfl⟩:=b;obtain⟨h,e3,q⟩:=r;cases e3;exact⟨_,md iJ q,hZ.of_map _ _ (λc=>jB) _⟩
def HJ(o:OK K F α H M)(r:Rep K α (jU F α M H) d v)(e:yb (vw M d)=aa items)(h:∀k,SkV (vw M d) v k->Rk k):Np K H v Rk:=by
 generalize e1:vw M d=x at e h;cases x<;>first|(cases e;done)|skip
 .have e2:=nO e1;subst e2;subst r;exact .inr (.inr ⟨_,rfl,λt=>h _ ⟨rfl,t,rfl⟩⟩)
 .obtain⟨a,b,rfl,q,z⟩:=mV o r e1;exact .inr (.inl ⟨a,rfl,⟨_,q⟩,h _ ⟨a,rfl,rfl⟩⟩)
 .obtain⟨a,b,rfl,q,z⟩:=jN o r e1;exact .inl ⟨a,rfl,⟨_,nI.of q⟩,h _ ⟨a,rfl,rfl⟩⟩
 .have e2:=vM e1;subst e2;obtain⟨a,rfl,q⟩:=r;exact .inl ⟨a,rfl,⟨_,md iJ q⟩,h _ ⟨a,rfl,rfl⟩⟩
end
section
variable {X:Cx}
def kh (te:DE):DI:=λc M Q=>te c M λd M1=>∃items,yb (vw M1 d)=aa items/\Q items (λf=>vw f d=vw M1 d) M1
def jA(J:JE X e te):JI X tg e (kh te):=by
 refine⟨λG M P Q w q=>J.mono G _ _ _ (λd M1 q=>?_) q,PI.weak (ab6 J.p) λσ H Q q=>?_⟩
 .obtain⟨items,e,q⟩:=q;exact⟨items,e,w _ _ _ q⟩
 .obtain⟨F,α,G,M,r,q⟩:=q;refine⟨F,α,G,M,r,J.mono G _ _ _ (λd M1 q v N H1 e1 o1 Y=>?_) q⟩;obtain⟨items,ei,q⟩:=q;refine HJ o1 Y ei λk hk=>q _ N H1 H1 id e1 o1 (Kb.refl o1) ?_;have key:∀j f m h,N <+: f->kC (jU F N M1 H1) _->OK X.K j f m h->vw h d=vw M1 d->∃g,k.seq X.K m g/\hZ X.K f _ items g:=λj f m h y A s u=>
   Cw s (Rep.mono y A d v Y) (by rw[u];exact ei) (by rw[u];exact hk)
  refine⟨λi j f m h y A s u hi=>?_,λi j f m h x B d' y A s u hd C=>?_,λj f m h y A s u=>?_⟩
  .obtain⟨g,o,E⟩:=key j f m h y A s u;have I:=hZ.length _ _ E;cases k with
   |L a=>exact⟨g,g[i],o,by simp⟩
   |T a=>exact⟨g,g[i],o,by simp⟩
   |S z t=>
    show i<z.cps.size;rw[o] at I;simpa[I] using hi
  .obtain⟨g,o,E⟩:=key j f m h y A s u;have O:∀B,B=m->g[i]?=aa x->OK X.K j f B h/\Ext j f m h f B h/\Rep X.K f (jU j f h B) d' x:=λB e U=>by subst e;obtain⟨d2,e2,r2⟩:=hZ.get' _ _ i x E U;rw[hd] at e2;cases e2;exact⟨s,Ext.refl,r2⟩
   cases k with
   |L a=>exact O _ C.1 (C.2 g o)
   |T a=>exact O _ C.1 (C.2 g o)
   |S z t=>
    obtain⟨e,c,hc,U⟩:=C;refine O _ e ?_;rw[o,bh,ck,hc,U];rfl
  .obtain⟨g,o,E⟩:=key j f m h y A s u;have I:=hZ.length _ _ E;cases k with
   |L a=>exact⟨g,o,by omega⟩
   |T a=>exact⟨g,o,by omega⟩
   |S z t=>
    show z.cps.size<=items.length;rw[I,o];simp
def Dt (tt:DA):DI:=λc M Q=>tt c M λds M1=>match ds with
 |[d]=>∃items,yb (vw M1 d)=aa items/\Q (items.mapIdx λi d=>.tup [.int i,d]) (λf=>vw f d=vw M1 d) M1
 |_=>False
def nS{K:bz}(h:hZ K α H [d] c):∃v,c=[v]/\Rep K α H d v:=by obtain⟨v,r,rfl,z,y⟩:=h;subst y;exact⟨v,rfl,z⟩
def xF{K:bz}{d e:D}(h:hZ K α H [d,e] c):∃v u,c=[v,u]/\Rep K α H d v/\Rep K α H e u:=by obtain⟨v,r,rfl,z,y⟩:=h;obtain⟨u,rfl,w⟩:=nS y;exact⟨v,u,rfl,z,w⟩
def Cy(ha:JA X [a] tt)(hm:X.mg ly=ar)(T:Gl X ly:=by rfl)(f:bg [a] X.env=[(au,eval a X.env)]:=by rfl):JI X (.Tuple elts n ze) (.Call (.Name ly p) [a] [] pos) (Dt tt):=by
 refine⟨λC M P Q w q=>ha.mono C _ _ _ (λds M1 q=>?_) q,PI.weak (Yx T hm ha.p f) λσ H Q q=>?_⟩
 .match ds,q with
  |[d],⟨items,e,q⟩=>exact⟨items,e,w _ _ _ q⟩
 .obtain⟨F,α,C,M,r,q⟩:=q;refine⟨F,α,C,M,r,ha.mono C _ _ _ (λds M1 q vs J H1 e1 o1 E=>?_) q⟩;match ds,q,E with
  |[d],⟨items,L,q⟩,E=>
   obtain⟨v,U,N⟩:=nS E;subst U;refine⟨v,rfl,HJ o1 N L λk Y=>q _ J H1 H1 id e1 o1 (Kb.refl o1) ?_⟩;have key:∀o c g h,J <+: c->kC _ _->OK X.K o c g h->vw h d=vw M1 d->∃j,k.seq X.K g j/\hZ X.K c _ items j:=λo c g h u f m s=>
    Cw m (Rep.mono u f d v N) (by rw[s];exact L) (by rw[s];exact Y)
   refine⟨λi o c g h u f m s hi=>?_,λi o c g h x H2 d' u f m s hd G=>?_,λo c g h u f m s=>?_⟩
   .obtain⟨j,z,A⟩:=key o c g h u f m s;have hl:=hZ.length _ _ A;rw[List.length_mapIdx] at hi;exact⟨j,j[i]'(by omega),z,by simp⟩
   .obtain⟨j,z,A⟩:=key o c g h u f m s;obtain⟨p,rfl,O,G⟩:=G;obtain⟨y,I,rfl⟩:=G j z;obtain⟨d2,e2,r2⟩:=hZ.get' _ _ i y A I;rw[ah3,e2] at hd;cases hd;obtain⟨o2,B⟩:=m.laid O;exact⟨o2,B,my m O (hZ.cons jB (hZ.one r2)) B⟩
   .obtain⟨j,z,A⟩:=key o c g h u f m s;have hl:=hZ.length _ _ A;exact⟨j,z,by rw[List.length_mapIdx];omega⟩
def U0 (tt:DA):DI:=λg M Q=>tt g M λds M1=>match ds with
 |[d,e]=>∃xs c,yb (vw M1 d)=aa xs/\yb (vw M1 e)=aa c/\Q (c8 (λa b=>.tup [a,b]) xs c) (λf=>vw f d=vw M1 d/\vw f e=vw M1 e) M1
 |_=>False
def U1(ha:JA X [a,b] tt)(hm:X.mg ll=ar)(hg:Gl X ll:=by rfl)(h:bg [a,b] X.env=[(au,eval a X.env),(au,eval b X.env)]:=by rfl)(MU:bg [b] X.env=[(au,eval b X.env)]:=by rfl):
  JI X (.Tuple elts n ze) (.Call (.Name ll p) [a,b] [] pos) (U0 tt):=by
 refine⟨λO M P Q w q=>ha.mono O _ _ _ (λds M1 q=>?_) q,PI.weak (ab7 hg hm ha.p h MU) λσ H Q q=>?_⟩
 .match ds,q with
  |[d,e],⟨xs,j,e1,e2,q⟩=>exact⟨xs,j,e1,e2,w _ _ _ q⟩
 .obtain⟨F,α,O,M,r,q⟩:=q;refine⟨F,α,O,M,r,ha.mono O _ _ _ (λds M1 q vs U H1 e1 o1 C=>?_) q⟩;match ds,q,C with
  |[d,Y],⟨items,ab8,ei,E,q⟩,C=>
   obtain⟨v,u,rfl,C,T⟩:=xF C;refine⟨v,u,rfl,HJ o1 C ei λk hk=>HJ o1 T E λk2 hk2=>q _ U H1 H1 id e1 o1 (Kb.refl o1) ?_⟩;have key:∀m c f g,U <+: c->kC _ _->OK X.K m c f g->vw g d=vw M1 d->∃j,k.seq X.K f j/\hZ X.K c _ items j:=λm c f g A h o s=>
    Cw o (Rep.mono A h d v C) (by rw[s];exact ei) (by rw[s];exact hk)
   have B:∀m c f g,U <+: c->kC _ _->OK X.K m c f g->vw g Y=vw M1 Y->∃j,k2.seq X.K f j/\hZ X.K c _ ab8 j:=λm c f g A h o s=>
    Cw o (Rep.mono A h Y u T) (by rw[s];exact E) (by rw[s];exact hk2)
   refine⟨λi m c f g A h o s hi=>?_,λi m c f g x H2 d' A h o s hd hy=>?_,λm c f g A h o s=>?_⟩
   .obtain⟨j,G,I⟩:=key m c f g A h o s.1;obtain⟨zs,J,L⟩:=B m c f g A h o s.2;have hl:=hZ.length _ _ I;have hl2:=hZ.length _ _ L;rw[gy] at hi;exact⟨j,zs,j[i]'(by omega),zs[i]'(by omega),G,J,by simp,by simp⟩
   .obtain⟨j,G,I⟩:=key m c f g A h o s.1;obtain⟨zs,J,L⟩:=B m c f g A h o s.2;obtain⟨p,rfl,Fv,hy⟩:=hy;obtain⟨y,z,hy1,hz1,rfl⟩:=hy j zs G J;obtain⟨x1,e2,T⟩:=hZ.get' _ _ i y I hy1;obtain⟨x2,e3,r3⟩:=hZ.get' _ _ i z L hz1;rw[ahT,e2,e3] at hd;cases hd;obtain⟨o2,N⟩:=o.laid Fv;exact⟨o2,N,my o Fv (hZ.cons T (hZ.one r3)) N⟩
   .obtain⟨j,G,I⟩:=key m c f g A h o s.1;obtain⟨zs,J,L⟩:=B m c f g A h o s.2;have hl:=hZ.length _ _ I;have hl2:=hZ.length _ _ L;refine⟨j,zs,G,J,?_⟩;rw[gy];omega
def yc(lo:Int)(n:Nat):List D:=(cy n).map λ(i:Nat)=>D.int (lo+(i:Int))
def aca{K:bz}{M1:Ms}{lo:Int}:Yo K F v H1 M1 (Itr lo n) (yc lo n) λ_=>True:=by
 refine⟨λi f g h m o q c r hi=>?_,λi f g h m x w y o q c r hd s=>?_,λf g h m o q c r=>?_⟩
 .show i<n;simpa[yc] using hi
 .obtain⟨rfl,rfl⟩:=s;unfold yc at hd;rw[bh] at hd;cases e:(cy n)[i]? with
  |none=>rw[e] at hd;cases hd
  |some j=>
   rw[e] at hd;have:j=i:=by have:=ak.mp e;obtain⟨z,u⟩:=this;simpa using u.symm
   subst this;cases hd;exact⟨c,Ext.refl,jB⟩
 .show n<=(yc lo n).length;simp[yc]
def vP (tt:DA):DI:=λc M Q=>tt c M λds M1=>match ds with
 |[.int j]=>(-(2^62)<=j/\j<2^62)/\Q (yc 0 j.toNat) (λ_=>True) M1
 |_=>False
def oH(ha:JA X [a] tt)(hm:X.mg oi=ar)(h:Gl X oi:=by rfl)(i:bg [a] X.env=[(au,eval a X.env)]:=by rfl):JI X tg (.Call (.Name oi p) [a] [] pos) (vP tt):=by
 refine⟨λc M P Q w q=>ha.mono c _ _ _ (λds M1 q=>?_) q,PI.weak (Rn h hm ha.p i) λσ H Q q=>?_⟩
 .match ds,q with
  |[.int j],⟨e,q⟩=>exact⟨e,w _ _ _ q⟩
 .obtain⟨F,α,c,M,r,q⟩:=q;refine⟨F,α,c,M,r,ha.mono c _ _ _ (λds M1 q u m H1 e1 o1 f=>?_) q⟩;match ds,q,f with
  |[.int j],⟨g,q⟩,f=>
   obtain⟨v,o,s⟩:=nS f;subst o;subst s;exact⟨j,rfl,g.1,g.2,q _ m H1 H1 id e1 o1 (Kb.refl o1) aca⟩
end
mutual
def toP:D->dA
 |.non=>.none
 |.bl b=>.bool b
 |.int i=>.int i
 |.str x=>.str x
 |.tup ds=>.tuple (toPs ds)
 |.lst ds=>.list (toPs ds)
 |.ty _|.kE _ _|.ins _ _ _|.exc _ _ _|.rS _|.loc _|.cls _=>.dict []
def toPs:List D->List dA
 |[]=>[]
 |d::ds=>toP d::toPs ds
end
mutual
def pl:D->Bool
 |.non|.bl _|.int _=>ag
 |.str x=>ahC x
 |.tup ds|.lst ds=>Cz ds
 |.ty _|.kE _ _|.ins _ _ _|.exc _ _ _|.rS _|.loc _|.cls _=>au
def Cz:List D->Bool
 |[]=>ag
 |d::ds=>pl d&&Cz ds
end
mutual
def dp:D->Nat
 |.tup ds|.lst ds=>Fm ds+1
 |.non|.bl _|.int _|.str _|.ty _|.kE _ _|.ins _ _ _|.exc _ _ _|.rS _|.loc _|.cls _=>0
def Fm:List D->Nat
 |[]=>0
 |d::ds=>max (dp d) (Fm ds)
end
mutual
def AD:D->D->Bool
 |.non,.non=>ag
 |.bl a,.bl b=>a==b
 |.bl a,.int j=>(if a then 1 else 0)==j
 |.int i,.bl b=>i==(if b then 1 else 0)
 |.int i,.int j=>i==j
 |.str x,.str y=>x==y
 |.lst xs,.lst c=>Fw xs c
 |.tup xs,.tup c=>Fw xs c
 |_,_=>au
def Fw:List D->List D->Bool
 |[],[]=>ag
 |x::xs,y::c=>AD x y&&Fw xs c
 |_,_=>au
end
mutual
theorem toP_lay:∀d:D,pl d=ag->(toP d).canLay0=ag
 |.non,_=>rfl
 |.bl _,_=>rfl
 |.int _,_=>rfl
 |.str _,h=>by unfold toP;unfold pl at h;simpa[dA.canLay0] using h
 |.tup ds,h=>by unfold toP;unfold pl at h;simp[dA.canLay0,toPs_lay ds h]
 |.lst ds,h=>by unfold toP;unfold pl at h;simp[dA.canLay0,toPs_lay ds h]
 |.ty _,h|.kE _ _,h|.ins _ _ _,h|.exc _ _ _,h|.rS _,h|.loc _,h|.cls _,h=>by unfold pl at h;cases h
theorem toPs_lay:∀ds:List D,Cz ds=ag->dA.canLayAll0 (toPs ds)=ag
 |[],_=>by unfold toPs;rfl
 |d::ds,h=>by unfold Cz at h;rw[aZ] at h;unfold toPs;simp[dA.canLayAll0,toP_lay d h.1,toPs_lay ds h.2]
end
mutual
theorem toP_depth:∀d:D,(toP d).depth<=dp d+1
 |.non|.bl _|.int _|.str _=>by unfold toP;simp[dA.depth]
 |.tup ds=>by unfold toP dp;have:=toPs_depth ds;simp only [dA.depth];omega
 |.lst ds=>by unfold toP dp;have:=toPs_depth ds;simp only [dA.depth];omega
 |.ty _|.kE _ _|.ins _ _ _|.exc _ _ _|.rS _|.loc _|.cls _=>by unfold toP;simp[dA.depth,dA.depthKv]
theorem toPs_depth:∀ds:List D,dA.depthAll (toPs ds)<=Fm ds+1
 |[]=>by unfold toPs;simp[dA.depthAll]
 |d::ds=>by unfold toPs Fm;have a:=toP_depth d;have b:=toPs_depth ds;simp only [dA.depthAll];omega
end
mutual
theorem toP_eqv:∀x y:D,pl x=ag->pl y=ag->(toP x).eqv (toP y)=AD x y
 |.non,y,_,h=>by cases y<;>first|(unfold pl at h;cases h;done)|(unfold toP AD;rfl)
 |.bl a,y,_,h=>by cases y<;>first|(unfold pl at h;cases h;done)|(unfold toP AD;rfl)
 |.int a,y,_,h=>by cases y<;>first|(unfold pl at h;cases h;done)|(unfold toP AD;rfl)
 |.str a,y,_,h=>by cases y<;>first|(unfold pl at h;cases h;done)|(unfold toP AD;rfl)
 |.tup xs,y,g,h=>by
  cases y<;>first|(unfold pl at h;cases h;done)|skip
  case tup b=>unfold pl at g h;unfold toP AD;simp only [dA.eqv];exact toPs_eqv xs b g h
  all_goals unfold toP AD;rfl
 |.lst xs,y,g,h=>by
  cases y<;>first|(unfold pl at h;cases h;done)|skip
  case lst b=>unfold pl at g h;unfold toP AD;simp only [dA.eqv];exact toPs_eqv xs b g h
  all_goals unfold toP AD;rfl
 |.ty _,_,g,_|.kE _ _,_,g,_|.ins _ _ _,_,g,_|.exc _ _ _,_,g,_|.rS _,_,g,_|.loc _,_,g,_|.cls _,_,g,_=>by unfold pl at g;cases g
theorem toPs_eqv:∀x y:List D,Cz x=ag->Cz y=ag->dA.eqvAll (toPs x) (toPs y)=Fw x y
 |[],[],_,_=>by unfold toPs Fw;rfl
 |[],y::b,_,_=>by unfold toPs Fw;rfl
 |x::xs,[],_,_=>by unfold toPs Fw;rfl
 |x::xs,y::b,g,h=>by unfold Cz at g h;rw[aZ] at g h;unfold toPs Fw;simp only [dA.eqvAll];rw[toP_eqv x y g.1 h.1,toPs_eqv xs b g.2 h.2]
end
mutual
theorem Rep.reads {X:Cx} {cc:List (aw×cC)} {σ:L2.St} {H:Hp} {s:av} {α:List aw} (I:Inv X cc σ H s):∀(d:D) (x:V) (v:ai),Rep X.K α H d x->RelV x v->pl d=ag->∃as,Reads s.heap v (toP d) as
 |.non,x,v,h,r,_=>by unfold Rep at h;subst h;cases r;unfold toP;exact⟨_,.none⟩
 |.bl _,x,v,h,r,_=>by unfold Rep at h;subst h;cases r;unfold toP;exact⟨_,.bool _⟩
 |.int _,x,v,h,r,_=>by unfold Rep at h;subst h;obtain⟨t,rfl⟩:=r;unfold toP;exact⟨_,.int _ _⟩
 |.str _,x,v,h,r,_=>by unfold Rep at h;subst h;obtain⟨t,rfl⟩:=r;unfold toP;exact⟨_,.str _ _⟩
 |.tup ds,x,v,h,r,c=>by unfold Rep at h;obtain⟨a,b,rfl,q,z⟩:=h;cases r;obtain⟨iM,f,⟨o,e,cl,n,dd⟩,_⟩:=I.tuple q;obtain⟨as,w⟩:=hZ.reads I ds b iM z f (by unfold pl at c;exact c);unfold toP;exact⟨_,.tuple e cl dd (by simpa using w)⟩
 |.lst ds,x,v,h,r,c=>by unfold Rep at h;obtain⟨a,b,rfl,q,z⟩:=h;cases r;obtain⟨_,iM,n,f,e⟩:=I.ja a _ q;obtain⟨as,w⟩:=hZ.reads I ds b iM z f (by unfold pl at c;exact c);unfold toP;exact⟨_,.list e rfl rfl (by simpa using w)⟩
 |.ty _,x,v,h,r,c|.kE _ _,x,v,h,r,c|.ins _ _ _,x,v,h,r,c|.exc _ _ _,x,v,h,r,c|.rS _,x,v,h,r,c|.loc _,x,v,h,r,c|.cls _,x,v,h,r,c=>by unfold pl at c;cases c
theorem hZ.reads {X:Cx} {cc:List (aw×cC)} {σ:L2.St} {H:Hp} {s:av} {α:List aw} (I:Inv X cc σ H s):∀(ds:List D) (xs:List V) (b:List ai),hZ X.K α H ds xs->Vals xs b->Cz ds=ag->∃as,ReadsAll s.heap b (toPs ds) as
 |[],xs,b,h,r,_=>by unfold hZ at h;subst h;cases r;unfold toPs;exact⟨_,.nil⟩
 |d::ds,xs,b,h,r,c=>by
  unfold hZ at h;obtain⟨x,g,rfl,q,z⟩:=h;unfold Cz at c;rw[aZ] at c;unfold toPs;cases r with
  |cons i j=>
   obtain⟨as,m⟩:=Rep.reads I d x _ q i c.1;obtain⟨bs,p⟩:=hZ.reads I ds g _ z j c.2;exact⟨_,.cons m p⟩
end
def oI(h:pl d=ag)(hd:dp d<=60):SeqAt.shaped (toP d)=ag:=by unfold SeqAt.shaped;have:=toP_depth d;rw[toP_lay d h];exact decide_eq_true (by omega)
section
variable {X:Cx}
def okE (x y:D):Prop:=pl x=ag/\pl y=ag/\dp x<=60/\dp y<=60
def Km (x y:D)(Q:Bool->Prop):Prop:=match x,y with
 |.str a,.str b=>Q (a==b)
 |.int a,.int b=>Q (a==b)
 |x,y=>okE x y/\Q (AD x y)
def Gw(w:∀b,P b->Q b)(h:Km x y P):Km x y Q:=by
 unfold Km at h |-;split<;>simp only at h
 .exact w _ h
 .exact w _ h
 .exact⟨h.1,w _ h.2⟩
def vy:G2:=λx y M Q=>Km (vw M x) (vw M y) λb=>Q (.bl b) M
def Fx:G2:=λx y M Q=>Km (vw M x) (vw M y) λb=>Q (.bl (!b)) M
def PY(n:X.A.units+64<eB)(I:L2.Inv X cc σ H s)(f:RelV x v)(g:RelV y u)(o:OK X.K F α H M)
(j:Rep X.K α (jU F α M H) B x)(m:Rep X.K α (jU F α M H) E y)(h:Km (vw M B) (vw M E) C)(neg:Bool)(c:∀b,C b->Q (.bl (if neg then !b else b)) H):
  wpAny (model X.prog X.w) X.A (compareOp (if neg then .NotEq else .Eq) v u) (EP X cc σ Q) X.xe s:=by
 unfold Km at h;split at h
 .rename_i a b e1 e2;cases nO e1;cases nO e2;subst j m;have e:decide _=(a==b):=Hl;cases neg with
  |false=>exact aan cc s σ H _ _ v u Q I f g ⟨rfl,by rw[e];exact c _ h⟩
  |true=>exact aao cc s σ H _ _ v u Q I f g ⟨rfl,by rw[e];exact c _ h⟩
 .rename_i a b e1 e2;cases xX e1;cases xX e2;subst j m;have e:decide _=(a==b):=Hk;cases neg with
  |false=>exact aan cc s σ H _ _ v u Q I f g ⟨rfl,by rw[e];exact c _ h⟩
  |true=>exact aao cc s σ H _ _ v u Q I f g ⟨rfl,by rw[e];exact c _ h⟩
 .obtain⟨⟨c1,i,p,q⟩,h⟩:=h;obtain⟨as,r⟩:=Rep.reads I _ x v (Rep.mono (aV _) iJ _ _ (xW o _ _ j)) f c1;obtain⟨bs,z⟩:=Rep.reads I _ y u (Rep.mono (aV _) iJ _ _ (xW o _ _ m)) g i;cases neg with
  |false=>
   refine eq_dataH r z (oI c1 p) (oI i q) n ⟨.bl _,H,I,rfl,?_⟩;rw[toP_eqv _ _ c1 i];exact c _ h
  |true=>
   refine ne_dataH r z (oI c1 p) (oI i q) n ⟨.bl _,H,I,rfl,?_⟩;rw[toP_eqv _ _ c1 i];exact c _ h
def kO(a:X.A.units+64<eB):JC X .Eq vy:=by refine⟨λx y M P Q w q=>Gw (λb q=>w _ _ q) q,λcc s σ H x y v u Q I c e h=>?_⟩;obtain⟨F,α,M,i,j,o,f,g,h⟩:=h;exact PY a I c e o f g h au λb q=>vK.now o q jG
def vQ(a:X.A.units+64<eB):JC X .NotEq Fx:=by refine⟨λx y M P Q w q=>Gw (λb q=>w _ _ q) q,λcc s σ H x y v u Q I c e h=>?_⟩;obtain⟨F,α,M,i,j,o,f,g,h⟩:=h;exact PY a I c e o f g h ag λb q=>vK.now o q jG
def fl:D->Bool
 |.non|.bl _|.int _|.str _=>ag
 |_=>au
def vOf:D->V
 |.bl b=>.bl b
 |.int i=>.int i
 |.str x=>.str x
 |_=>.non
def Du{K:bz}(h:fl d=ag)(r:Rep K α H d v):v=vOf d/\xA v=ag:=by
 cases d<;>first|(cases h;done)|skip
 all_goals subst r;exact⟨rfl,rfl⟩
def aex(h:fl x=ag)(g:fl y=ag):X7 (vOf x) (vOf y)=AD x y:=by
 cases x<;>first|(cases h;done)|skip
 all_goals cases y<;>first|(cases g;done)|(rfl)
theorem zw{K:bz}(b:fl x=ag):∀(ds:List D) (a:List V),ds.all fl=ag->hZ K α H ds a->a.all xA=ag/\inV (vOf x) a=ds.any λy=>AD y x
 |[],a,_,h=>by subst h;exact⟨rfl,rfl⟩
 |d::ds,a,g,h=>by obtain⟨v,r,rfl,z,y⟩:=h;rw[fV,aZ] at g;obtain⟨e,c⟩:=zw b ds r g.2 y;obtain⟨e1,e2⟩:=Du g.1 z;subst e1;refine⟨by rw[fV,e2,e];rfl,?_⟩;unfold inV at c |-;rw[c7,c7,aex g.1 b,c]
def BC{K:bz}(h:hZ K α H ds b)(c:a.length=ds.length):(sI (a.zip b) k).isSome=(nK k a ds).isSome:=by
 obtain⟨f,g⟩:=pR a ds b h c;cases e:nK k a ds with
 |none=>rw[g e];rfl
 |some d=>obtain⟨j,i,_⟩:=f d e;rw[i];rfl
def inD(x y:D):Option Bool:=match y with
 |.lst ds=>if(fl x&&ds.all fl)=ag then aa (ds.any λy=>AD y x) else ar
 |.tup ds=>if(fl x&&ds.all fl)=ag then aa (ds.any λy=>AD y x) else ar
 |.str j=>match x with
  |.str i=>aa (!(gB j i 0 j.length 1).isEmpty)
  |_=>ar
 |.kE a ds=>match Kg x with
  |some k=>aa (nK k a ds).isSome
  |none=>ar
 |_=>ar
def CB (neg:Bool):G2:=λx y M Q=>∃b,inD x (vw M y)=aa b/\Q (.bl (if neg then !b else b)) M
def Ko:vI (CB neg):=by
 rintro x y M P Q w ⟨b,e,q⟩
 exact⟨b,e,w _ _ q⟩
def zx(B:X.A.units+1<eB):JC X .In (CB au):=by
 refine⟨Ko,λcc s σ H x y v u Q I f g h=>?_⟩;obtain⟨F,α,M,C,E,o,i,j,b,c,h⟩:=h;generalize e1:vw M E=z at c;unfold inD at c;cases z<;>first|(cases c;done)|skip
 .have e2:=nO e1;subst e2;subst j;cases C<;>first|(cases c;done)|skip
  subst i;cases c;exact Rq cc s σ H _ _ v u Q I f g ⟨_,_,rfl,rfl,vK.now o h jG⟩
 .obtain⟨a,m,rfl,q,e⟩:=mV o j e1;simp only at c;split at c
  .rename_i hc;rw[aZ] at hc;cases c;obtain⟨n,p⟩:=Du hc.1 i;obtain⟨r,w⟩:=zw hc.1 _ _ hc.2 e;refine Gh cc s σ H _ _ v u Q I f g ⟨a,m,rfl,.inr q,p,r,?_⟩;subst n;rw[w];exact vK.now o h jG
  .cases c
 .obtain⟨a,m,rfl,q,e⟩:=jN o j e1;simp only at c;split at c
  .rename_i hc;rw[aZ] at hc;cases c;obtain⟨n,p⟩:=Du hc.1 i;obtain⟨r,w⟩:=zw hc.1 _ _ hc.2 e;refine Gh cc s σ H _ _ v u Q I f g ⟨a,m,rfl,.inl (nI.of q),p,r,?_⟩;subst n;rw[w];exact vK.now o h jG
  .cases c
 .obtain⟨a,m,rfl,q,G,e⟩:=oG o j e1;simp only at c;split at c
  .rename_i k J;cases c;cases qP i J;obtain rfl:u=bE a:=g;refine agl B I (tH.kr q) f λN L=>⟨.bl _,H,L,rfl,?_⟩;rw[BC e G];exact vK.now o h jG
  .cases c
def vR(B:X.A.units+1<eB):JC X .NotIn (CB ag):=by
 refine⟨Ko,λcc s σ H x y v u Q I f g h=>?_⟩;obtain⟨F,α,M,C,E,o,i,j,b,c,h⟩:=h;generalize e1:vw M E=z at c;unfold inD at c;cases z<;>first|(cases c;done)|skip
 .have e2:=nO e1;subst e2;subst j;cases C<;>first|(cases c;done)|skip
  subst i;cases c;exact Hm cc s σ H _ _ v u Q I f g ⟨_,_,rfl,rfl,vK.now o h jG⟩
 .obtain⟨a,m,rfl,q,e⟩:=mV o j e1;simp only at c;split at c
  .rename_i hc;rw[aZ] at hc;cases c;obtain⟨n,p⟩:=Du hc.1 i;obtain⟨r,w⟩:=zw hc.1 _ _ hc.2 e;refine zl cc s σ H _ _ v u Q I f g ⟨a,m,rfl,.inr q,p,r,?_⟩;subst n;rw[w];exact vK.now o h jG
  .cases c
 .obtain⟨a,m,rfl,q,e⟩:=jN o j e1;simp only at c;split at c
  .rename_i hc;rw[aZ] at hc;cases c;obtain⟨n,p⟩:=Du hc.1 i;obtain⟨r,w⟩:=zw hc.1 _ _ hc.2 e;refine zl cc s σ H _ _ v u Q I f g ⟨a,m,rfl,.inl (nI.of q),p,r,?_⟩;subst n;rw[w];exact vK.now o h jG
  .cases c
 .obtain⟨a,m,rfl,q,G,e⟩:=oG o j e1;simp only at c;split at c
  .rename_i k J;cases c;cases qP i J;obtain rfl:u=bE a:=g;refine XX B I (tH.kr q) f λN L=>⟨.bl _,H,L,rfl,?_⟩;rw[BC e G];exact vK.now o h jG
  .cases c
end
section
variable {X:Cx} {es rest:List bJ}
abbrev DO:=nB->Ms->(Option Int->Ms->Prop)->Prop
def lO (K:bz)(t:DO):TO:=λσ H Q=>∃F α g M,R K F α H σ g M/\t g M λi h=>∀j f,Ext F α H M j f h->OK K F j f h->Q i f
structure JOp(X:Cx)(e:Option bJ)(t:DO):Prop where
 mono:∀δ M (P Q:Option Int->Ms->Prop),(∀d M,P d M->Q d M)->t δ M P->t δ M Q
 p:PO X e (lO X.K t)
def PO.weak{e:Option bJ}{t f:TO}(h:PO X e t)(w:∀σ H Q,f σ H Q->t σ H Q):PO X e f:=by intro cc s σ H Q I q;exact h cc s σ H Q I (w σ H Q q)
def qA:DO:=λ_ M Q=>Q ar M
def vS (te:DE):DO:=λf M Q=>te f M λd M1=>match d with|.int i=>Q (aa i) M1|_=>False
def tK:JOp X ar qA:=⟨λf M P Q w q=>w _ _ q,PO.weak X2 λσ H Q ⟨F,α,f,M,r,q⟩=>q α H Ext.refl r.ok⟩
def pT(h:JE X e te):JOp X (aa e) (vS te):=by
 refine⟨λf M P Q w q=>h.mono f _ _ _ (λd M1 q=>?_) q,PO.weak (X3 h.p) λσ H Q q=>?_⟩
 .cases d<;>first|exact q.elim|exact w _ _ q
 .obtain⟨F,α,f,M,r,q⟩:=q;refine⟨F,α,f,M,r,h.mono f _ _ _ (λd M1 q v i H1 e1 o1 g=>?_) q⟩;cases d<;>first|exact q.elim|skip
  unfold Rep at g;exact⟨_,g,q i H1 e1 o1⟩
def Xq (te:DE)(tl h:DO):DE:=λg M Q=>te g M λd M1=>tl g M1 λlo M2=>h g M2 λhi f=>match vw f d with
 |.lst xs=>Q (.lst (cutD xs lo hi)) f
 |.rS xs=>Q (.lst (cutD (xs.map D.int) lo hi)) f
 |.tup xs=>¬(HT.rX xs.length 0 lo=0/\HT.rX xs.length xs.length hi=xs.length)/\Q (.tup (cutD xs lo hi)) f
 |.str z=>z.length<=aO/\Q (.str (Txt.slice z lo hi)) f
 |_=>False
def Nq{lo hi:Option bJ}{tl J:DO}(E:JE X e te)(s:JOp X lo tl)(G:JOp X hi J):JE X (.Subscript e (.Slice lo hi ar p2) pos) (Xq te tl J):=by
 refine⟨λg M P Q w q=>E.mono g _ _ _ (λd M1 q=>s.mono g _ _ _ (λi M2 q=>G.mono g _ _ _ (λj f q=>?_) q) q) q,PE.weak (Uo (X6.or (abH.or abS)) E.p s.p G.p) λσ H Q q=>?_⟩
 .generalize vw f d=z at q |-;cases z<;>first|exact q.elim|exact w _ _ q|exact⟨q.1,w _ _ q.2⟩
 .obtain⟨F,α,g,M,r,q⟩:=q;refine⟨F,α,g,M,r,E.mono g _ _ _ (λd M1 q v L H1 e1 o1 N=>⟨F,L,g,M1,r.grow e1 o1,s.mono g _ _ _ (λi M2 q O T e2 o2=>⟨F,O,g,M2,r.grow (e1.trans e2) o2,G.mono g _ _ _ (λj f q y A e3 h=>?_) q⟩) q⟩) q⟩;have Hx:=(e1.trans e2).trans e3;have o:=(e2.trans e3).rep N;have m:(match vw f d with
   |.lst xs=>vK X.K F y A f Q (.lst (cutD xs i j)) f
   |.rS xs=>vK X.K F y A f Q (.lst (cutD (xs.map D.int) i j)) f
   |.tup xs=>¬(HT.rX xs.length 0 i=0/\HT.rX xs.length xs.length j=xs.length)/\vK X.K F y A f Q (.tup (cutD xs i j)) f
   |.str z=>z.length<=aO/\vK X.K F y A f Q (.str (Txt.slice z i j)) f
   |_=>False):=by generalize vw f d=z at q |-;cases z<;>first|exact q.elim|exact vK.grow Hx _ _ q|exact⟨q.1,vK.grow Hx _ _ q.2⟩
  clear q;generalize B:vw f d=z at m;cases z<;>first|exact m.elim|skip
  .cases nO B;unfold Rep at o;exact .inr (.inr ⟨_,o,m.1,vK.now h m.2 qr⟩)
  .obtain⟨a,I,rfl,u,C⟩:=mV h o B;have s:=hZ.length _ _ C;refine .inr (.inl ⟨a,I,rfl,u,by rw[<-s];exact m.1,λp n=>vK.new h n m.2 (my h n (hZ.cut C i j))⟩)
  .obtain⟨a,I,rfl,u,C⟩:=jN h o B;exact .inl ⟨a,I,rfl,nI.of u,λp n=>vK.new h n m (pO h n (hZ.cut C i j))⟩
  .cases vM B;unfold Rep at o;obtain⟨a,rfl,u⟩:=o;refine .inl ⟨a,_,rfl,md iJ u,λp n=>vK.new h n m (pO h n (hZ.cut (hZ.of_map _ _ (λc=>jB) _) i j))⟩
def RP (te:DE):DE:=λf M Q=>te f M λd M1=>match d with|.int i=>Q (.int (-i)) M1|_=>False
def U2(h:JE X e te):JE X (.UnaryOp .USub e pos) (RP te):=by
 refine⟨λf M P Q w q=>h.mono f _ _ _ (λd M1 q=>?_) q,PE.weak (adU aby h.p) λσ H Q q=>?_⟩
 .cases d<;>first|exact q.elim|exact w _ _ q
 .obtain⟨F,α,f,M,r,q⟩:=q;refine⟨F,α,f,M,r,h.mono f _ _ _ (λd M1 q v i H1 e1 o1 g=>?_) q⟩;cases d<;>first|exact q.elim|skip
  unfold Rep at g;exact⟨_,g,q _ i H1 e1 o1 jB⟩
def HK:G2:=λx y M Q=>match vw M x,y with
 |.int i,.int j=>zc i j/\Q (.int (i*j)) M
 |.lst xs,.int k=>(-(2^63)<=k/\k<2^63/\xs.length*k.toNat<=aO)/\Q (.lst (bX k.toNat xs).flatten) M
 |.str z,.int k=>MulOk z k/\Q (.str (Txt.mul z k)) M
 |_,_=>False
def Nr:uh X (binaryOp .Mult) (λx y H Q=>∃z k,x=.str z/\y=.int k/\MulOk z k/\Q (.str (Txt.mul z k)) H):=by intro cc s σ H x y v u Q I f g h;obtain⟨z,k,rfl,rfl,ok,q⟩:=h;obtain⟨t,rfl⟩:=f;obtain⟨i,rfl⟩:=g;exact SB.mul ok λi k=>⟨.str _,H,I.tok _,⟨_,rfl⟩,q⟩
def AE:JO X .Mult HK:=by
 refine⟨λx y M P Q w q=>?_,λcc s σ H x y v u Q I i j h=>?_⟩
 .unfold HK at q |-;generalize vw M x=a at q |-;split at q<;>first|exact q.elim|exact⟨q.1,w _ _ q.2⟩
 .obtain⟨F,α,M,r,C,o,g,f,h⟩:=h;unfold HK at h;generalize e1:vw M r=a at h;split at h<;>first|exact h.elim|skip
  .cases xX e1;unfold Rep at g f;exact abv cc s σ H x y v u Q I i j ⟨_,_,g,f,h.1,vK.now o h.2 jB⟩
  .obtain⟨a,z,rfl,A,m⟩:=jN o g e1;unfold Rep at f;subst f;have B:=hZ.length _ _ m;exact abO cc s σ H _ _ v u Q I i j ⟨a,_,z,rfl,rfl,A,h.1.1,h.1.2.1,by rw[<-B];exact h.1.2.2,λp n=>vK.new o n h.2 (pO o n (hZ.rep m _))⟩
  .cases nO e1;unfold Rep at g f;exact Nr cc s σ H x y v u Q I i j ⟨_,_,g,f,h.1,vK.now o h.2 qr⟩
def RQ:D->Option Nat
 |.lst ds=>aa ds.length
 |.tup ds=>aa ds.length
 |.rS ns=>aa ns.length
 |.str z=>if z.length<=aO then aa z.length else ar
 |.kE f _=>aa f.length
 |_=>ar
def lx:GN:=λds M Q=>match ds with
 |[d]=>∃n:Nat,RQ (vw M d)=aa n/\Q (.int n) M
 |_=>False
def jW:JB X (.builtin oo) lx:=by
 refine⟨λds M P Q w q=>?_,λcc s σ H xs us Q I rs h=>?_⟩
 .match ds,q with
  |[d],⟨n,e,q⟩=>exact⟨n,e,w _ _ q⟩
 .obtain⟨F,α,M,ds,o,u,h⟩:=h;match ds,h,u with
  |[d],⟨n,f,q⟩,u=>
   obtain⟨v,E,g⟩:=nS u;subst E;generalize e1:vw M d=z at f;cases z<;>first|(cases f;done)|skip
   .cases nO e1;unfold Rep at g;subst g;rename_i y _;have f:(if y.length<=aO then aa y.length else ar)=aa n:=f;by_cases A:y.length<=aO
    .rw[if_pos A] at f;cases f;exact Ht cc s σ H _ us Q I rs ⟨_,rfl,A,vK.now o q jB⟩
    .rw[if_neg A] at f;cases f
   .cases f;obtain⟨a,r,rfl,i,j⟩:=mV o g e1;have m:=hZ.length _ _ j;refine ui cc s σ H _ us Q I rs ⟨a,r,rfl,.inr i,?_⟩;rw[<-m];exact vK.now o q jB
   .cases f;obtain⟨a,r,rfl,i,j⟩:=jN o g e1;have m:=hZ.length _ _ j;refine ui cc s σ H _ us Q I rs ⟨a,r,rfl,.inl (nI.of i),?_⟩;rw[<-m];exact vK.now o q jB
   .cases f;obtain⟨a,r,rfl,i,C,j⟩:=oG o g e1;have m:=hZ.length _ _ j;obtain⟨J,rfl,B⟩:=vals1 rs;cases B;refine ad3 I i λt L G=>⟨.int _,H,G,⟨t,rfl⟩,?_⟩;rw[cK,<-m,C,Nat.min_self,<-C];exact vK.now o q jB
   .cases vM e1;cases f;unfold Rep at g;obtain⟨a,rfl,i⟩:=g;refine ui cc s σ H _ us Q I rs ⟨a,_,rfl,.inl (md iJ i),?_⟩;rw[ao];exact vK.now o q jB
def RR:GN:=λds M Q=>match ds with
 |[d]=>∃bs:List Bool,vw M d=.lst (bs.map D.bl)/\Q (.bl (bs.all id)) M
 |_=>False
theorem Dv{K:bz}{α:List aw}{H:Hp}:∀(bs:List Bool) (f:List V),hZ K α H (bs.map D.bl) f->f=bs.map V.bl
 |[],f,h=>by unfold hZ at h;exact h
 |b::bs,f,h=>by rw[bq] at h;unfold hZ at h;obtain⟨v,r,rfl,z,y⟩:=h;unfold Rep at z;subst z;rw[Dv bs r y];rfl
def HL(hc:X.calm=ag:=by rfl):JB X (.builtin "all") RR:=by
 refine⟨λds M P Q w q=>?_,λcc s σ H xs us Q I rs h=>?_⟩
 .match ds,q with
  |[d],⟨n,e,q⟩=>exact⟨n,e,w _ _ q⟩
 .obtain⟨F,α,M,ds,o,f,h⟩:=h;match ds,h,f with
  |[d],⟨bs,g,q⟩,f=>
   obtain⟨v,i,j⟩:=nS f;subst i;obtain⟨a,m,rfl,r,u⟩:=jN o j g;have:=Dv bs m u;subst this;exact UB hc cc s σ H _ us Q I rs ⟨a,bs,rfl,nI.of r,vK.now o q jG⟩
def kd:D->Option String
 |.non=>aa rh
 |.bl _=>aa ix
 |.int _=>aa hH
 |.str _=>aa hJ
 |.tup _=>aa fi
 |.lst _|.rS _=>aa cr
 |.kE _ _=>aa fw
 |_=>ar
def isK(k n:String):Option Bool:=if([hH,ix,hJ,fi,cr,fw].contains n&&[rh,ix,hH,hJ,fi,cr,fw].contains k)=ag then aa (k==n||(k==ix&&n==hH)) else ar
def xG(n:String)(d:D):Option Bool:=match kd d with
 |some k=>isK k n
 |none=>ar
def Yy{K:bz}:([hH,ix,hJ,fi,cr,fw].all λn=>[rh,ix,hH,hJ,fi,cr,fw].all λk=>dt K (.type k) (.type n)==isK k n)=ag:=rfl
def Yz{K:bz}{k n:String}{b:Bool}(h:isK k n=aa b):dt K (.type k) (.type n)=aa b:=by
 have f:=h;unfold isK at h;split at h
 .rename_i hc;rw[aZ,List.contains_iff_mem,List.contains_iff_mem] at hc;rw[eq_of_beq (bU.mp (bU.mp (Yy (K:=K)) n hc.1) k hc.2),f]
 .cases h
structure PZ(K:bz)(C:aw):Prop where
 cl:Py K C
 ha:cP K (.ref C) pu=aa (aa (.builtin ma))
 hn:W.specialIn K (.builtin ma) sU=aa (aa (.builtin tj))
 htk:W.takesIn K (.builtin ma)=aa ag
 hm:W.mroIn K C (.type pa)=aa ag
def tyv:D->Option ai
 |.non=>aa (.type rh)
 |.bl _=>aa (.type ix)
 |.int _=>aa (.type hH)
 |.str _=>aa (.type hJ)
 |.tup _=>aa (.type fi)
 |.lst _|.rS _=>aa (.type cr)
 |.kE _ _=>aa (.type fw)
 |.ins C _ _=>aa (.ref C)
 |_=>ar
def YA{K:bz}{n:String}{d:D}{b:Bool}(h:xG n d=aa b):∃t,tyv d=aa t/\dt K t (.type n)=aa b/\∀C ns es,d≠.ins C ns es:=by cases d<;>first|(cases h;done)|exact⟨_,rfl,Yz h,λ_ _ _ z=>by cases z⟩
def Kp{cc:List (aw×cC)}{s:av}{σ:L2.St}{H:Hp}(I:L2.Inv X cc σ H s){F α:List aw}{M:Ms}{d:D}{x:V}{u t c:ai}{B:Bool}{Q:ai->av->Prop}(o:OK X.K F α H M)(r:Rep X.K α (jU F α M H) d x)(g:RelV x u)
(f:tyv (vw M d)=aa t)(hi:∀C ns es,vw M d=.ins C ns es->PZ X.K C)(e:dt X.K t c=aa B)(h:∀tk,Q (.bool B) {s with toks:=tk}):wpAny (model X.prog X.w) X.A (call (.builtin px) [u,c]) Q X.xe s:=by
 generalize e1:vw M d=z at f hi;cases z<;>first|(cases f;done)|skip
 case non=>
  have:d=.non:=by cases d with
   |loc k=>rcases jh e1 with e|⟨y,E,e⟩<;>first|cases e|(cases y<;>cases e)
   |_=>exact e1
  subst this;unfold Rep at r;subst r;cases f;exact qK I g .non e h
 case bl G=>
  have:d=.bl G:=by cases d with
   |loc k=>rcases jh e1 with e|⟨y,E,e⟩<;>first|cases e|(cases y<;>cases e)
   |_=>exact e1
  subst this;unfold Rep at r;subst r;cases f;exact qK I g (.bl _) e h
 case int=>
  cases xX e1;unfold Rep at r;subst r;cases f;exact qK I g (.int _) e h
 case str=>
  cases nO e1;unfold Rep at r;subst r;cases f;exact qK I g (.str _) e h
 case tup=>
  cases f;obtain⟨a,q,rfl,i,v⟩:=mV o r e1;obtain rfl:u=bE a:=g;obtain⟨iM,J,⟨ob,j,m,_⟩,_⟩:=I.tuple i;exact W.kia_one W.kitx_tuple I.ub ⟨ob,j,m⟩ e (λz=>nomatch z) h
 case lst=>
  cases f;obtain⟨a,q,rfl,i,v⟩:=jN o r e1;exact qK I g (.lst i) e h
 case kE=>
  cases f;obtain⟨a,q,rfl,i,L,v⟩:=oG o r e1;obtain rfl:u=bE a:=g;obtain⟨_,_,N,_,ob,_,_,j,m,_⟩:=rW I.ja i;exact W.kia_one W.kitx_dict I.ub ⟨ob,j,m.1⟩ e (λz=>nomatch z) h
 case ins=>
  cases f;obtain⟨a,O,q,rfl,i,L,v⟩:=Nj o r e1;have k:=hi _ _ _ rfl;exact qK I g (.ins i k.cl k.ha k.hn k.htk k.hm) e h
 case rS=>
  cases f;cases vM e1;unfold Rep at r;obtain⟨a,rfl,i⟩:=r;obtain rfl:u=bE a:=g;obtain⟨iM,J,⟨ob,n,j,m,_⟩,_⟩:=I.list (md iJ i);exact W.kia_one W.kitx_list I.ub ⟨ob,j,m⟩ e (λz=>nomatch z) h
def mj (K:bz):GN:=λds M Q=>match ds with
 |[d,.ty n]=>∃b,xG n (vw M d)=aa b/\Q (.bl b) M
 |[d,.cls C]=>∃t b,tyv (vw M d)=aa t/\(∀C ns es,vw M d=.ins C ns es->PZ K C)/\dt K t (.ref C)=aa b/\Q (.bl b) M
 |_=>False
def kJ:JB X (.builtin px) (mj X.K):=by
 refine⟨λds M P Q w q=>?_,λcc s σ H xs us Q I rs h=>?_⟩
 .match ds,q with
  |[d,.ty n],⟨b,e,q⟩=>exact⟨b,e,w _ _ q⟩
  |[d,.cls n],⟨t,b,e1,e2,e3,q⟩=>exact⟨t,b,e1,e2,e3,w _ _ q⟩
 .obtain⟨F,α,M,ds,o,f,h⟩:=h;match ds,h,f with
  |[d,.ty n],⟨b,e,q⟩,f=>
   obtain⟨v,u,i,j,g⟩:=xF f;subst i;unfold Rep at g;subst g;obtain⟨A,m,rfl,r,y⟩:=vals2 rs;obtain rfl:m=c9 n:=y;obtain⟨t,e1,e2,e3⟩:=YA (K:=X.K) e;exact Kp I o j r e1 (λC ns es z=>absurd z (e3 C ns es)) e2 λtk=>⟨.bl b,H,I.tok tk,rfl,vK.now o q jG⟩
  |[d,.cls C],⟨t,b,e1,e2,e3,q⟩,f=>
   obtain⟨v,u,i,j,g⟩:=xF f;subst i;unfold Rep at g;subst g;obtain⟨A,m,rfl,r,y⟩:=vals2 rs;obtain rfl:m=bE C:=y;exact Kp I o j r e1 e2 e3 λtk=>⟨.bl b,H,I.tok tk,rfl,vK.now o q jG⟩
def HM:GN:=λds M Q=>match ds with
 |[d]=>match vw M d with
  |.lst xs=>Q (.tup xs) M
  |.tup xs=>Q (.tup xs) M
  |_=>False
 |_=>False
def Dw:JB X (.type fi) HM:=by
 refine⟨λds M P Q w q=>?_,λcc s σ H xs us Q I rs h=>?_⟩
 .match ds,q with
  |[d],q=>
   have q:(match vw M d with|.lst xs=>P (.tup xs) M|.tup xs=>P (.tup xs) M|_=>False):=q;show(match vw M d with|.lst xs=>Q (.tup xs) M|.tup xs=>Q (.tup xs) M|_=>False);generalize vw M d=z at q |-;cases z<;>first|exact q.elim|exact w _ _ q
 .obtain⟨F,α,M,ds,o,f,h⟩:=h;match ds,h,f with
  |[d],q,f=>
   obtain⟨v,r,g⟩:=nS f;subst r;have q:(match vw M d with|.lst xs=>vK X.K F α H M Q (.tup xs) M|.tup xs=>vK X.K F α H M Q (.tup xs) M|_=>False):=q;generalize e1:vw M d=z at q;cases z<;>first|exact q.elim|skip
   .cases Nk e1;obtain⟨a,i,rfl,j,m⟩:=mV o g e1;exact xB cc s σ H _ us Q I rs ⟨a,i,rfl,.inr ⟨j,vK.now o q g⟩⟩
   .obtain⟨a,i,rfl,j,m⟩:=jN o g e1;exact xB cc s σ H _ us Q I rs ⟨a,i,rfl,.inl ⟨nI.of j,λp n=>vK.new o n q (my o n m)⟩⟩
abbrev GF:=List D->Ms->(OD->Ms->Prop)->Prop
def rDF (K:bz)(g:GF):List V->Hp->VK->Prop:=λxs H Q=>∃F α M ds,OK K F α H M/\hZ K α (jU F α M H) ds xs/\g ds M (fK K F α H M Q)
structure JBF(X:Cx)(f:ai)(g:GF):Prop where
 mono:∀xs M (P Q:OD->Ms->Prop),(∀d M,P d M->Q d M)->g xs M P->g xs M Q
 p:ny X f (rDF X.K g)
def TD (g:GF)(tt:DA):DF:=λf M Q=>tt f M λds M1=>g ds M1 Q
def Kq{T:String}{g:GF}(o:JBF X (.type T) g)(hm:X.mg x=ar)(h:bT x=aa (.type T))(ha:JA X (e::es) tt)(i:Gl X x:=by rfl)(hn:x≠nk:=by decide)(j:(x==(fy:aX))=au:=by decide)
(m:bg (e::es) X.env=(au,eval e X.env)::bg es X.env:=by rfl)(n:(du pos (bg es X.env)).any (·.1)=au:=by rfl):JF X (.Call (.Name x p) (e::es) [] pos) (TD g tt):=by refine⟨λf M P Q w q=>ha.mono f _ _ _ (λds M1 q=>o.mono _ _ _ _ w q) q,PE.weak (Av o.p i hm h ha.p hn j m n) λσ H Q q=>?_⟩;obtain⟨F,α,f,M,r,q⟩:=q;exact⟨F,α,f,M,r,ha.mono f _ _ _ (λds M1 q v s H1 e1 o1 u=>⟨F,s,M1,ds,o1,u,o.mono _ _ _ _ (fK.grow e1) q⟩) q⟩
def aey{id:String}{g:GF}(o:JBF X (.builtin id) g)(hm:X.mg x=ar)(h:bT x=aa (.builtin id))(ha:JA X (e::es) tt)(i:Gl X x:=by rfl)(hn:x≠nk:=by decide)(j:(x==(fy:aX))=au:=by decide)
(m:bg (e::es) X.env=(au,eval e X.env)::bg es X.env:=by rfl)(n:(du pos (bg es X.env)).any (·.1)=au:=by rfl):JF X (.Call (.Name x p) (e::es) [] pos) (TD g tt):=by refine⟨λf M P Q w q=>ha.mono f _ _ _ (λds M1 q=>o.mono _ _ _ _ w q) q,PE.weak (C2 o.p i hm h ha.p hn j m n) λσ H Q q=>?_⟩;obtain⟨F,α,f,M,r,q⟩:=q;exact⟨F,α,f,M,r,ha.mono f _ _ _ (λds M1 q v s H1 e1 o1 u=>⟨F,s,M1,ds,o1,u,o.mono _ _ _ _ (fK.grow e1) q⟩) q⟩
def yd:GF:=λds M Q=>match ds with
 |[d]=>match vw M d with
  |.lst xs=>Q (.lst xs) M
  |.tup xs=>Q (.lst xs) M
  |.rS xs=>Q (.lst (xs.map D.int)) M
  |_=>False
 |_=>False
def tL:JBF X (.type cr) yd:=by
 refine⟨λds M P Q w q=>?_,λcc s σ H xs us Q I rs h=>?_⟩
 .match ds,q with
  |[d],q=>
   have q:(match vw M d with|.lst xs=>P (.lst xs) M|.tup xs=>P (.lst xs) M|.rS xs=>P (.lst (xs.map D.int)) M|_=>False):=q;show(match vw M d with|.lst xs=>Q (.lst xs) M|.tup xs=>Q (.lst xs) M|.rS xs=>Q (.lst (xs.map D.int)) M|_=>False);generalize vw M d=z at q |-;cases z<;>first|exact q.elim|exact w _ _ q
 .obtain⟨F,α,M,ds,o,m,h⟩:=h;match ds,h,m with
  |[d],q,m=>
   obtain⟨v,r,j⟩:=nS m;subst r;have q:(match vw M d with|.lst xs=>fK X.K F α H M Q (.lst xs) M|.tup xs=>fK X.K F α H M Q (.lst xs) M|.rS xs=>fK X.K F α H M Q (.lst (xs.map D.int)) M|_=>False):=q;generalize e1:vw M d=z at q;cases z<;>first|exact q.elim|skip
   .obtain⟨a,f,rfl,g,n⟩:=mV o j e1;exact uj cc s σ H _ us Q I rs ⟨a,f,rfl,.inr g,λp i=>q p _ α H Ext.refl o i ⟨f,rfl,n⟩⟩
   .obtain⟨a,f,rfl,g,n⟩:=jN o j e1;exact uj cc s σ H _ us Q I rs ⟨a,f,rfl,.inl (nI.of g),λp i=>q p _ α H Ext.refl o i ⟨f,rfl,n⟩⟩
   .cases vM e1;unfold Rep at j;obtain⟨a,rfl,g⟩:=j;exact uj cc s σ H _ us Q I rs ⟨a,_,rfl,.inl (md iJ g),λp i=>q p _ α H Ext.refl o i ⟨_,rfl,hZ.of_map _ _ (λc=>jB) _⟩⟩
end
def Kr(f:aX):List aX->List D->Option D
 |n::ns,d::ds=>if n=f then aa d else Kr f ns ds
 |_,_=>ar
def Nt{v:V}{ns:List aX}:(((n,v)::ns.zip a).lookup f)=if n=f then aa v else(ns.zip a).lookup f:=by
 rw[dO];by_cases h:n=f
 .subst h;simp
 .have:(f==n)=au:=by simpa usingλz=>h z.symm
  rw[this,if_neg h]
theorem Dx{K:bz}:∀(ns:List aX) (ds:List D) (a:List V),hZ K α H ds a->ns.length=ds.length->
  (∀d,Kr f ns ds=aa d->∃v,(ns.zip a).lookup f=aa v/\Rep K α H d v)/\(Kr f ns ds=ar->(ns.zip a).lookup f=ar)
 |[],ds,a,h,l=>⟨λd e=>by simp[Kr] at e,λ_=>rfl⟩
 |n::ns,[],a,h,l=>by simp at l
 |n::ns,d::ds,a,h,l=>by
  obtain⟨v,r,rfl,z,y⟩:=h;have b:=Dx (f:=f) ns ds r y (by simpa using l);rw[cR,Nt];unfold Kr;by_cases e:n=f
  .rw[if_pos e,if_pos e];exact⟨λc e'=>⟨v,rfl,by cases e';exact z⟩,λe'=>by cases e'⟩
  .rw[if_neg e,if_neg e];exact b
structure Gx(K:bz)(C:aw)(f:aX):Prop where
 cl:Py K C
 na:vB K C f
section
variable {X:Cx} {es rest:List bJ} {apos:eL}
def U4 (K:bz)(f:aX)(te:DE):DE:=λg M Q=>te g M λd M1=>∃C ns ds x,vw M1 d=.ins C ns ds/\Gx K C f/\Kr f ns ds=aa x/\Q x M1
def P0(h:JE X e te)(hb:dP e f X.env (eval e X.env)=eval e X.env:=by rfl):JE X (.Attribute e f pos) (U4 X.K f te):=by
 refine⟨λg M P Q w q=>h.mono g _ _ _ (λd M1 q=>?_) q,PE.weak (abA h.p hb) λσ H Q q=>?_⟩
 .obtain⟨C,ns,ds,x,j,i,n,q⟩:=q;exact⟨C,ns,ds,x,j,i,n,w _ _ q⟩
 .obtain⟨F,α,g,M,r,q⟩:=q;refine⟨F,α,g,M,r,h.mono g _ _ _ (λd M1 q v s H1 e1 o1 u=>?_) q⟩;obtain⟨C,ns,ds,x,j,i,n,q⟩:=q;obtain⟨a,y,z,rfl,A,B,E⟩:=Nj o1 u j;obtain⟨v,G,I⟩:=(Dx ns ds z E B).1 x n;exact⟨a,C,y,_,v,rfl,A,i.cl,i.na,G,q v s H1 e1 o1 I⟩
abbrev HN:=aw->aX->GN->Prop
structure sM(P:bc)(w:bI)(K:bz)(mg:aX->Option ai)(cq:aC)(k:Nat)(C:aw)(m:aX)(g:GN):Prop where
 mono:l8 g
 cl:Py K C
 ok:∃f fd ps,Meth K C m f/\Binds K fd ps []/\lP P w K mg cq uk k f fd ps (l9 K g)
def Ks (T:HN)(m:aX)(to:DE)(tt:DA):DE:=λh M Q=>to h M λd M1=>∃C ns es g,vw M1 d=.ins C ns es/\Kr m ns es=ar/\T C m g/\tt h M1 λds M2=>g (d::ds) M2 Q
def CC{pl:Sem Bool}(J:∀C g,T C m g->sM X.prog X.w X.K X.mg X.cq k C m g)(O:ka k X.A)(z:JE X o to)
(ht:eval (.Call (.Attribute o m apos) [] [] pos) X.env=(do
   let L<-eval o X.env
   ajn apos.atName
   let(f,first)<-holding [L] (ajD L m pl)
   callWith pos f first (du pos (bg [] X.env)) (ais pos (fN [] X.env))):=by rfl):
  JE X (.Call (.Attribute o m apos) [] [] pos) (Ks T m to ib):=by
 refine⟨λj M P Q w q=>z.mono j _ _ _ (λd M1 q=>?_) q,?_⟩
 .obtain⟨C,ns,es,g,B,E,n,q⟩:=q;exact⟨C,ns,es,g,B,E,n,(J C g n).mono _ _ _ _ w q⟩
 .intro cc s σ H Q I h;obtain⟨F,α,j,M,r,q⟩:=h;refine W.methodCall_KW (lB (z.p cc s σ H _ I ⟨F,α,j,M,r,z.mono j _ _ _ (λd M1 q v i H1 e1 o1 y=>(show(λv H1=>∃M1 i d,Ext F α H M i H1 M1/\OK X.K F i H1 M1/\Rep X.K i (jU F i M1 H1) d v/\∃C ns es g,vw M1 d=.ins C ns es/\Kr m ns es=ar/\T C m g/\g [d] M1 _) v H1 from⟨M1,i,d,e1,o1,y,q⟩)) q⟩) λu s1 ⟨v,H1,I1,U,M1,i,d,e1,o1,y,C,ns,Y,g,B,E,n,q⟩=>?_) ht;obtain⟨a,dx,N,rfl,sq,hl,zz⟩:=Nj o1 y B;obtain rfl:u=bE a:=U;have G:=J C g n;obtain⟨f,fd,ps,hm,hb,FO⟩:=G.ok;refine MW I1 sq G.cl hm ((Dx ns Y N zz hl).2 E) ?_;exact W.callWith_K0 I1.ub hm.kp (Uc (vs:=[.ref a]) FO O hb .nil Uw I1 (.cons rfl .nil) ⟨F,i,M1,[d],o1,hZ.one y,G.mono _ _ _ _ (vK.grow e1) q⟩)
structure qg(P:bc)(w:bI)(K:bz)(mg:aX->Option ai)(cq:aC)(k:Nat)(C:aw)(g:GN):Prop where
 mono:l8 g
 ok:∃f fd ps,Mk K C f/\Binds K fd ps []/\lP P w K mg cq uk k f fd ps (l9 K g)
def sN (C:aw)(g:GN)(tt:DA):DE:=λh M Q=>tt h M λds M1=>g (.loc M1.length::ds) (M1++[aa (.ins C [] [])]) λd M2=>d=.non/\∃ns es,M2=M1++[aa (.ins C ns es)]/\mY es=ag/\Q (.ins C ns es) M1
end
mutual
def lb (n:Nat):D->Prop
 |.loc k=>k<n
 |.tup ds|.lst ds|.kE _ ds|.ins _ _ ds|.exc _ _ ds=>RS n ds
 |.non|.bl _|.int _|.str _|.ty _|.rS _|.cls _=>True
def RS (n:Nat):List D->Prop
 |[]=>True
 |d::ds=>lb n d/\RS n ds
end
mutual
theorem Rep.lb {K:bz} {α:List aw} {H:Hp}:∀(d:D) (v:V),Rep K α H d v->L3.lb α.length d
 |.non,v,_|.bl _,v,_|.int _,v,_|.str _,v,_|.ty _,v,_|.rS _,v,_|.cls _,v,_=>by unfold L3.lb;trivial
 |.loc k,v,h=>by unfold Rep at h;unfold L3.lb;obtain⟨a,e,_⟩:=h;exact(ak.mp e).1
 |.tup ds,v,h=>by unfold Rep at h;unfold L3.lb;obtain⟨a,b,r,q,z⟩:=h;exact hZ.lb ds b z
 |.lst ds,v,h=>by unfold Rep at h;unfold L3.lb;obtain⟨a,b,r,q,z⟩:=h;exact hZ.lb ds b z
 |.kE c ds,v,h=>by unfold Rep at h;unfold L3.lb;obtain⟨a,b,r,q,l,z⟩:=h;exact hZ.lb ds b z
 |.ins C ns ds,v,h=>by unfold Rep at h;unfold L3.lb;obtain⟨a,f,b,r,q,l,z⟩:=h;exact hZ.lb ds b z
 |.exc C ns ds,v,h=>by unfold Rep at h;unfold L3.lb;obtain⟨a,b,r,q,l,z⟩:=h;exact hZ.lb ds b z
theorem hZ.lb {K:bz} {α:List aw} {H:Hp}:∀(d:List D) (v:List V),hZ K α H d v->L3.RS α.length d
 |[],v,h=>by unfold L3.RS;trivial
 |d::ds,v,h=>by unfold hZ at h;unfold L3.RS;obtain⟨u,r,q,z,y⟩:=h;exact⟨Rep.lb d u z,hZ.lb ds r y⟩
end
mutual
theorem Rep.shrink {K:bz} {α β:List aw} {H:Hp} (p:α <+: β):∀(d:D) (v:V),L3.lb α.length d->Rep K β H d v->Rep K α H d v
 |.non,v,_,h|.bl _,v,_,h|.int _,v,_,h|.str _,v,_,h|.ty _,v,_,h|.rS _,v,_,h|.cls _,v,_,h=>by unfold Rep at h |-;exact h
 |.loc k,v,n,h=>by unfold Rep at h |-;unfold L3.lb at n;obtain⟨a,e,r⟩:=h;obtain⟨t,rfl⟩:=p;rw[aY n] at e;exact⟨a,e,r⟩
 |.tup ds,v,n,h=>by unfold Rep at h |-;unfold L3.lb at n;obtain⟨a,b,r,q,z⟩:=h;exact⟨a,b,r,q,hZ.shrink p ds b n z⟩
 |.lst ds,v,n,h=>by unfold Rep at h |-;unfold L3.lb at n;obtain⟨a,b,r,q,z⟩:=h;exact⟨a,b,r,q,hZ.shrink p ds b n z⟩
 |.kE f ds,v,n,h=>by unfold Rep at h |-;unfold L3.lb at n;obtain⟨a,b,r,q,l,z⟩:=h;exact⟨a,b,r,q,l,hZ.shrink p ds b n z⟩
 |.ins C ns ds,v,n,h=>by unfold Rep at h |-;unfold L3.lb at n;obtain⟨a,c,b,r,q,l,z⟩:=h;exact⟨a,c,b,r,q,l,hZ.shrink p ds b n z⟩
 |.exc C ns ds,v,n,h=>by unfold Rep at h |-;unfold L3.lb at n;obtain⟨a,b,r,q,l,z⟩:=h;exact⟨a,b,r,q,l,hZ.shrink p ds b n z⟩
theorem hZ.shrink {K:bz} {α β:List aw} {H:Hp} (p:α <+: β):∀(d:List D) (v:List V),L3.RS α.length d->hZ K β H d v->hZ K α H d v
 |[],v,_,h=>by unfold hZ at h |-;exact h
 |d::ds,v,n,h=>by unfold hZ at h |-;unfold L3.RS at n;obtain⟨u,r,q,z,y⟩:=h;exact⟨u,r,q,Rep.shrink p d u n.1 z,hZ.shrink p ds r n.2 y⟩
end
theorem B3.RS{K:bz}(h:B3 K α e H o a):match o with|.lst ds=>L3.RS α.length ds|.kE _ ds=>L3.RS α.length ds|.ins _ _ ds=>L3.RS α.length ds|.fz _ _ _ ds=>L3.RS α.length ds:=by
 cases o with
 |lst ds=>obtain⟨b,_,r⟩:=h;exact hZ.lb _ _ r
 |kE c ds=>obtain⟨b,_,_,r⟩:=h;exact hZ.lb _ _ r
 |ins C ns ds=>obtain⟨f,b,_,_,r⟩:=h;exact hZ.lb _ _ r
 |fz k g c ds=>obtain⟨_,b,_,_,r⟩:=h;exact hZ.lb _ _ r
def OK.Dh{K:bz}{F c α:List aw}{v H:Hp}{M N:Ms}(m:OK K F c v M)(h:OK K F α H (M++N))(pre:c <+: α):OK K F c H M/\kC (jU F α (M++N) H) (jU F c M H):=by
 obtain⟨β,rfl⟩:=pre;have u:=m.ml;have o:lv _ (M++N)=lv c M++lv β N:=w9 u;have g:kC (jU F _ (M++N) H) (jU F c M H):=λb y e=>by
  obtain⟨z,q⟩:=iW e;rw[o] at z;refine mL e (λw=>z ?_) q
  .simp only [bt] at w |-;rcases w with w|w
   .exact .inl (.inl w)
   .exact .inr w
 refine⟨⟨u,m.nd,λa ha=>⟨(m.fr a ha).1,(h.fr a ha).2⟩,λa ha=>h.al a (bW _ ha),λk y p=>?_,h.tb⟩,g⟩;have x:=(ak.mp p).1;obtain⟨a,s,n⟩:=h.own k y (by rw[aY x];exact p);rw[aY (by omega)] at s;obtain⟨E,i,j⟩:=m.own k y p;rw[s] at i;cases i;have hb:=j.RS;refine⟨a,s,?_⟩;cases y with
 |lst ds=>
  obtain⟨f,q,r⟩:=n;exact⟨f,q,hZ.shrink (cQ _ _) _ _ hb (hZ.mono (aV _) g _ _ r)⟩
 |kE A ds=>
  obtain⟨f,q,l,r⟩:=n;exact⟨f,q,l,hZ.shrink (cQ _ _) _ _ hb (hZ.mono (aV _) g _ _ r)⟩
 |ins C ns ds=>
  obtain⟨B,f,q,l,r⟩:=n;exact⟨B,f,q,l,hZ.shrink (cQ _ _) _ _ hb (hZ.mono (aV _) g _ _ r)⟩
 |fz k G A ds=>
  obtain⟨_,f,q,l,r⟩:=n;exact⟨j.1,f,q,l,hZ.shrink (cQ _ _) _ _ hb (hZ.mono (aV _) g _ _ r)⟩
section
variable {X:Cx} {es rest:List bJ} {pos:eL}
def qB(n:qg X.prog X.w X.K X.mg X.cq k C g)(T:ka (k+1) X.A)(hm:X.mg x=aa (.ref C))(ha:JA X (e::es) tt)(U:Gl X x:=by rfl)(Y:(x==(fy:aX))=au:=by decide)
(he:bg (e::es) X.env=(au,eval e X.env)::bg es X.env:=by rfl)(w8:(du pos (bg es X.env)).any (·.1)=au:=by rfl):JE X (.Call (.Name x p) (e::es) [] pos) (sN C g tt):=by
 obtain⟨f,fd,ps,mk,hb,FO⟩:=n.ok;refine⟨λi M P Q w q=>ha.mono i _ _ _ (λds M1 q=>n.mono _ _ _ _ (λd M2 q=>?_) q) q,PE.weak (XW mk FO T U hm hb .nil Uw ha.p Y he w8) λσ H Q q=>?_⟩
 .obtain⟨q1,ns,es,q2,q3,q4⟩:=q;exact⟨q1,ns,es,q2,q3,w _ _ q4⟩
 obtain⟨F,α,i,M,r,q⟩:=q;refine⟨F,α,i,M,r,ha.mono i _ _ _ (λds M1 q vs h H1 e1 o1 r1 y s j u xu=>?_) q⟩;have s0:kC H1 (upd (upd H1 s (.own y)) y (.ins C s [])):=λb ob e=>by rw[ii (j5 e j),ii (j5 e u)];exact e
 obtain⟨o2,e2⟩:=o1.enter (x:=.ins C [] []) j s0 ⟨s,[],iE,rfl,hZ.nil⟩;rw[bu];have G:(h++[y])[M1.length]?=aa y:=by rw[<-o1.ml];simp
 refine⟨F,h++[y],M1++[aa (.ins C [] [])],.loc M1.length::ds,o2,hZ.cons ?_ (e2.Dc r1),n.mono _ _ _ _ (λd M2 q v Fu I e3 J L=>?_) q⟩
 .unfold Rep;exact⟨y,G,rfl⟩
 .obtain⟨rfl,ns,fs,rfl,hn,q⟩:=q;unfold Rep at L;have pre:h <+: Fu:=(cQ _ _).trans e3.pre;obtain⟨o4,N⟩:=OK.Dh o1 J pre;have ey:=PK e3.pre G;obtain⟨a,O,dx,ws,hq,hl,rr⟩:=J.own M1.length (.ins C ns fs) (by simp);rw[ey] at O;cases O;have B:y∉F:=λz=>(o1.fr y z).2 (by rw[j]);have E:y∉lv h M1:=λz=>o1.live y z j;have Hx:=e2.trans e3;refine⟨L,q _ h I (e1.trans ⟨aV _,Hx.same.trans N,Hx.fr⟩) o4 ?_⟩;unfold Rep;refine⟨y,dx,ws,rfl,?_,hl,hZ.nl _ _ hn (hZ.mono (aV _) N _ _ rr)⟩;show mw _ I y=_;exact kt (λz=>(bt.mp z).elim E B) hq rfl
def putN(f:aX)(d:D):List aX->List D->List aX×List D
 |n::ns,e::es=>if n=f then(n::ns,d::es) else((n::(putN f d ns es).1),(e::(putN f d ns es).2))
 |ns,es=>(ns++[f],es++[d])
theorem Kt{K:bz}(rd:Rep K α H d v):∀(ns:List aX) (ds:List D) (g:List V),hZ K α H ds g->ns.length=ds.length->
  ∃ws,tD f v (ns.zip g)=(putN f d ns ds).1.zip ws/\(putN f d ns ds).1.length=(putN f d ns ds).2.length/\hZ K α H (putN f d ns ds).2 ws
 |[],[],g,h,l=>by exact⟨[v],rfl,rfl,hZ.one rd⟩
 |[],e::es,g,h,l=>by simp at l
 |n::ns,[],g,h,l=>by simp at l
 |n::ns,i::es,g,h,l=>by
  obtain⟨u,r,rfl,z,y⟩:=h;obtain⟨ws,j,q,s⟩:=Kt rd ns es r y (by simpa using l);by_cases e:n=f
  .subst e;have e1:putN n d (n::ns) (i::es)=(n::ns,d::es):=by unfold putN;rw[if_pos rfl]
   rw[e1];refine⟨v::r,?_,by simpa using l,hZ.cons rd y⟩;unfold tD;simp
  .have e1:putN f d (n::ns) (i::es)=(n::(putN f d ns es).1,i::(putN f d ns es).2):=by rw[putN,if_neg e]
   rw[e1];refine⟨u::ws,?_,by simpa using q,hZ.cons z s⟩;unfold tD;simp[e,j]
def aaG (K:bz)(f:aX)(to tv:DE):DS:=λE g M=>tv g M λd M1=>to g M1 λo M2=>match o with
 |.loc k=>∃C ns ds,M2[k]?=aa (aa (.ins C ns ds))/\Gx K C f/\ns.length<1000/\E.nx g (M2.set k (aa (.ins C (putN f d ns ds).1 (putN f d ns ds).2)))
 |_=>False
def YB(j:JE X o to)(n:JE X value tv)(L:fj value (aa (.Attribute o f vz)) pos.line X.env=pure au:=by rfl):JS X (.Assign [.Attribute o f vz] value pos) (aaG X.K f to tv):=by
 refine⟨λP Q g M w q=>n.mono g _ _ _ (λd M1 q=>j.mono g _ _ _ (λo M2 q=>?_) q) q,PS.weak (abB j.p n.p L) λE σ H q=>?_⟩
 .cases o<;>first|exact q.elim|skip
  obtain⟨C,ns,ds,h,i,A,q⟩:=q;exact⟨C,ns,ds,h,i,A,w.nx _ _ q⟩
 .obtain⟨F,α,g,M,r,q⟩:=q;refine⟨F,α,g,M,r,n.mono g _ _ _ (λd M1 q v N H1 e1 o1 O=>⟨F,N,g,M1,r.grow e1 o1,j.mono g _ _ _ (λod M2 q u T H2 e2 o2 U=>?_) q⟩) q⟩;cases od<;>first|exact q.elim|skip
  rename_i k;obtain⟨C,ns,ds,h,i,A,q⟩:=q;obtain⟨a,B,rfl⟩:=U;obtain⟨a',G,s,I,Y,J,rr⟩:=o2.own k _ h;rw[B] at G;cases G;obtain⟨ws,i1,i2,i3⟩:=Kt (f:=f) (e2.rep O) ns ds I rr J;have jK:(ns.zip I).length<1000:=by rw[cK,J];omega
  obtain⟨o3,e3⟩:=o2.write (y:=.ins C _ _) (z:=.ins C s (tD f v _)) h B (λHh eh=>by subst eh;exact⟨s,ws,by rw[iE,i1],i2,i3⟩)
  exact⟨a,C,s,_,rfl,Y,i.cl,i.na,jK,q σ T _ ((e1.trans e2).trans e3) (r.grow ((e1.trans e2).trans e3) o3)⟩
end
section
variable {K:bz}
def U5{st:c5}(F:xC K x qual st f fd)(b:jq st=body)(es:iT st=scope)(S:kY N a scope)
(c:∀(jd:ai) (A:bH) (cv:List ahL) (s:av) (H:Hp) (E:XK),ka k (A.deeper (dZ qual scope s.heap.objs.size f jd))->Dk (tE uk P w K mg cq N qual scope f jd A cv s H E).F7 body tb):
  lP P w K mg cq uk (k+1) f fd a (l9 K (vf N.length a.length tb)):=by subst b es;exact F.ok S (λe H Q E ⟨F,α,M,ds,o,r,g,q⟩=>by rw[<-hZ.length _ _ r];exact g) λjd A cv s H e Q E i h=>let⟨t,q,z⟩:=UO (c jd A cv s H E i) rfl h;⟨t,q.p,z⟩
def RU{st:c5}(F:xC K x qual st f fd)(b:jq st=body)(es:iT st=scope)(S:kY N a scope)
(c:∀(jd:ai) (A:bH) (cv:List ahL) (s:av) (H:Hp) (E:XK),ka k (A.deeper (dZ qual scope s.heap.objs.size f jd))->Dk (tE uk P w K mg cq N qual scope f jd A cv s H E).F7 body tb):
  lP P w K mg cq uk (k+1) f fd a (l9 K (cl (lN N.length a.length tb))):=by subst b es;exact F.ok S (λe H Q E ⟨F,α,M,ds,o,r,hn,g,q⟩=>by rw[<-hZ.length _ _ r];exact g) λjd A cv s H e Q E i h=>let⟨t,q,z⟩:=Nl (c jd A cv s H E i) rfl h;⟨t,q.p,z⟩
def aaH{st:c5}(k:Nat)(F:iw K mg x st)
(hb:∀(kV doc pm:ai) (an:Option aw) (jd ct:ai) (us:List ai),us.length=a.length->dI (eu x x (k9 st) (jq st) (iT st) .none kV doc pm an jd ct) ⟨us,[]⟩=pure (a.zip us)):i8 P w K mg cq k x a λ_ _ _=>False:=by obtain⟨f,fd,F,m⟩:=F;exact⟨λ_ _ _ _ _ q=>q,f,fd,m,F.kp,F.binds hb,⟨λb H Q E ⟨_,_,_,_,_,_,q⟩=>q.elim,λA cv s H args us b Q E _ _ _ _ ⟨_,_,_,_,_,_,q⟩=>q.elim⟩⟩
end
abbrev GM:=D->List D->Ms->DK->Prop
def rDm (K:bz)(g:GM):V->List V->Hp->VK->Prop:=λx xs H Q=>∃F α M d ds,OK K F α H M/\Rep K α (jU F α M H) d x/\hZ K α (jU F α M H) ds xs/\g d ds M (vK K F α H M Q)
structure JM(X:Cx)(id:String)(g:GM):Prop where
 mono:∀d ds M (P Q:DK),(∀d M,P d M->Q d M)->g d ds M P->g d ds M Q
 p:MtR X id (rDm X.K g)
def tyD(T:String)(d:D):Bool:=match d with
 |.lst _|.rS _=>T==cr
 |.str _=>T==hJ
 |.int _=>T==hH
 |.kE _ _=>T==fw
 |_=>au
section
variable {X:Cx} {es rest:List bJ} {apos lQ:eL} {id:String}
def acb(ok:OK X.K F α H M)(r:Rep X.K α (jU F α M H) d v)(h:tyD T (vw M d)=ag):tyV X.K T v H:=by
 generalize e1:vw M d=z at h;cases z<;>first|(cases h;done)|skip
 .cases xX e1;subst r;exact beq_iff_eq.mp h
 .cases nO e1;subst r;exact beq_iff_eq.mp h
 .obtain⟨a,j,rfl,i,_⟩:=jN ok r e1;exact .inl ⟨beq_iff_eq.mp h,j,nI.of i⟩
 .obtain⟨a,j,rfl,i,_⟩:=oG ok r e1;exact .inr (.inr (.inl ⟨beq_iff_eq.mp h,.inl ⟨_,i⟩⟩))
 .cases vM e1;obtain⟨a,rfl,i⟩:=r;exact .inl ⟨beq_iff_eq.mp h,_,md iJ i⟩
def Ao (T:String)(g:GM)(to:DE)(tt:DA):DE:=λh M Q=>to h M λd M1=>tyD T (vw M1 d)=ag/\tt h M1 λds M2=>g d ds M2 Q
def sO(i:JM X id g)(y:PlainAttrs T)(slot:Slot T name id)(j:typeOf (.builtin id)=pure (.type "method_descriptor"))(n:JE X o to)(ha:JA X (e::es) tt)
(z:dP o name X.env (eval o X.env)=eval o X.env:=by rfl)
(s:((du lQ (bg (e::es) X.env)).all (λx=>!x.1)&&(ais lQ (fN [] X.env)).all (λx=>x.1.isSome)
   &&decide ((e::es).length+([]:List ah4).length+(if([]:List ah4).isEmpty then 0 else 1)<30))=ag:=by rfl)
(A:(apos.endLine==lQ.line)=ag:=by rfl)(B:bg (e::es) X.env=(au,eval e X.env)::bg es X.env:=by rfl)(C:(du lQ (bg es X.env)).any (·.1)=au:=by rfl):
  JE X (.Call (.Attribute o name apos) (e::es) [] lQ) (Ao T g to tt):=by refine⟨λh M P Q w q=>n.mono h _ _ _ (λd M1 q=>⟨q.1,ha.mono h _ _ _ (λds M2 q=>i.mono _ _ _ _ _ w q) q.2⟩) q,PE.weak (ad9 y slot j i.p n.p ha.p z s A B C) λσ H Q q=>?_⟩;obtain⟨F,α,h,M,r,q⟩:=q;refine⟨F,α,h,M,r,n.mono h _ _ _ (λd M1 q v E H1 e1 o1 u=>⟨acb o1 u q.1,F,E,h,M1,r.grow e1 o1,ha.mono h _ _ _ (λds M2 q J G L e2 o2 I=>?_) q.2⟩) q⟩;exact⟨F,G,M2,d,ds,o2,e2.rep u,I,i.mono _ _ _ _ _ (vK.grow (e1.trans e2)) q⟩
def zy(ok:OK X.K F α H M)(r:Rep X.K α (jU F α M H) (.loc k) v)(h:M[k]?=aa (aa (.lst ds))):
  ∃a i,v=.ref a/\H a=aa (.lst i)/\hZ X.K α (jU F α M H) ds i/\∀es ws,hZ X.K α (jU F α M H) es ws->OK X.K F α (upd H a (.lst ws)) (M.set k (aa (.lst es)))/\Ext F α H M α (upd H a (.lst ws)) (M.set k (aa (.lst es))):=by obtain⟨a,j,rfl⟩:=r;obtain⟨y,n,i,q,s⟩:=ok.own k _ h;rw[j] at n;cases n;exact⟨a,i,rfl,q,s,λes ws u=>ok.write h j λz w=>by subst w;exact⟨ws,iE,u⟩⟩
def jj:GM:=λd ds M Q=>match d,ds with
 |.loc k,[x]=>∃es,M[k]?=aa (aa (.lst es))/\es.length<aO/\Q .non (M.set k (aa (.lst (es++[x]))))
 |_,_=>False
def jT:JM X "list.append" jj:=by
 refine⟨λd ds M P Q w q=>?_,λcc s σ H x xs v us Q I A rs h=>?_⟩
 .match d,ds,q with
  |.loc k,[x],⟨es,i,j,q⟩=>exact⟨es,i,j,w _ _ q⟩
 .obtain⟨F,α,M,d,ds,ok,r,n,h⟩:=h;match d,ds,h,r,n with
  |.loc k,[y],⟨es,i,j,q⟩,r,n=>
   obtain⟨a,B,rfl,C,z,E⟩:=zy ok r i;obtain⟨u,G,J⟩:=nS n;subst G;obtain⟨o2,e2⟩:=E _ _ (hZ.append _ _ _ _ z (hZ.one J));exact Gj cc s σ H _ _ v us Q I A rs ⟨a,B,u,rfl,rfl,C,by rw[<-hZ.length _ _ z];exact j,q _ α _ e2 o2 qt⟩
def aaI:GM:=λd ds M Q=>match d,ds with
 |.loc k,[]=>∃es x,M[k]?=aa (aa (.lst (es++[x])))/\Q x (M.set k (aa (.lst es)))
 |.loc k,[.int 0]=>∃x es,M[k]?=aa (aa (.lst (x::es)))/\Q x (M.set k (aa (.lst es)))
 |_,_=>False
def hZ.dropLast{K:bz}{α:List aw}{H:Hp}{es:List D}{x:D}{i:List V}(h:hZ K α H (es++[x]) i):∃us v,i=us++[v]/\hZ K α H es us/\Rep K α H x v:=by
 induction es generalizing i with
 |nil=>
  obtain⟨v,rfl,r⟩:=nS h;exact⟨[],v,rfl,hZ.nil,r⟩
 |cons d es j=>
  rw[eU] at h;unfold hZ at h;obtain⟨v,r,rfl,z,y⟩:=h;obtain⟨us,u,rfl,n,q⟩:=j y;exact⟨v::us,u,rfl,hZ.cons z n,q⟩
def acd:JM X "list.pop" aaI:=by
 refine⟨λd ds M P Q w q=>?_,λcc s σ H x xs v us Q I E rs h=>?_⟩
 .match d,ds,q with
  |.loc k,[],⟨es,x,i,q⟩=>exact⟨es,x,i,w _ _ q⟩
  |.loc k,[.int 0],⟨x,es,i,q⟩=>exact⟨x,es,i,w _ _ q⟩
 .obtain⟨F,α,M,d,ds,ok,r,j,h⟩:=h;match d,ds,h,r,j with
  |.loc k,[],⟨es,x,i,q⟩,r,j=>
   obtain⟨a,J,rfl,z,n,A⟩:=zy ok r i;unfold hZ at j;subst j;obtain⟨ws,u,rfl,B,C⟩:=n.dropLast;obtain⟨o2,e2⟩:=A es ws B;exact abM cc s σ H _ _ v us Q I E rs ⟨a,_,u,rfl,rfl,z,by simp,by rw[List.dropLast_concat];exact q _ α _ e2 o2 (e2.rep C)⟩
  |.loc k,[.int 0],⟨x,es,i,q⟩,r,j=>
   obtain⟨a,J,rfl,z,n,A⟩:=zy ok r i;obtain⟨u,L,G⟩:=nS j;subst L;unfold Rep at G;subst G;unfold hZ at n;obtain⟨y,ws,rfl,C,B⟩:=n;obtain⟨o2,e2⟩:=A es ws B;exact Ut cc s σ H _ _ v us Q I E rs ⟨a,_,0,0,y,rfl,rfl,z,by decide,by decide,by simp[aiW],by simp,q _ α _ e2 o2 (e2.rep C)⟩
end
open PyProof.Rows.KTD
def U6 (K:bz)(d:D)(u:ai):Prop:=∃v,RelV v u/\∀α H,Rep K α H d v
structure AF(K:bz)(a:aw)(rows:List (aX×D)):Prop where
 lo:(a==cb)=au
 ex:∃o es ep,K.lookup a=aa o/\o.ExactDict/\o.data=.dict es ep/\Rows (U6 K) es.toList rows
section
variable {s:av} {K:bz} {k:aX} {tk:ajL}
def AF.typeIs(T:AF K a rows)(h:K.In s.heap):s.TypeIs (.ref a) fw:=let⟨o,_,_,b,hc,_⟩:=T.ex;⟨o,h _ _ b,hc.1⟩
def AF.get(T:AF K a rows)(j:K.In s.heap)(m:∀d v,datumAt k rows=aa d->U6 K d v->Q (aa v) {s with toks:=s.toks+1})(n:datumAt k rows=ar->Q ar {s with toks:=s.toks+1}):
  wpAny (model prog w) A (ajt a (.str k tk)) Q E s:=by
 obtain⟨o,es,r,f,hc,hd,g⟩:=T.ex;have f:=j _ _ f;unfold ajt;refine ae (ajy (ae (kt_dictFind_strs f hd (by obtain⟨l⟩:=es;simpa using g.exact) ?_)));have c:Q (ajh (λk v=>v.isStr k) es k) {s with toks:=s.toks+1}:=by
  have p:ajh (λk v=>v.isStr k) es k=(es.toList.find? λe=>e.key.isStr k).map (·.val):=by obtain⟨l⟩:=es;simp[ajh]
  rw[p];cases b:datumAt k rows with
  |some d=>obtain⟨v,q,h⟩:=g.find_some b;rw[q];exact m d v b h
  |none=>rw[g.find_none b];exact n b
 rw[aio] at c;cases hi:es.findIdx? λe=>e.key.isStr k with
 |none=>rw[hi] at c;exact ay c
 |some i=>rw[hi] at c;exact ae (eV f hd (ay c))
def AF.item(T:AF K a rows)(b:K.In s.heap)(hm:datumAt k rows=aa d)(h:∀v,U6 K d v->Q v {s with toks:=s.toks+1}):
  wpAny (model prog w) A (ah5 (.ref a) (.str k tk)) Q E s:=by
 have ht:=T.typeIs b;unfold ah5;try with_reducible refine bS ?_
 refine ae (ajp ht (by decide) ?_);refine ae (df ht aju
  (cE aju ht entry_dict_getitem ?_ (args_dict_getitem _ _)))
 show wpAny _ _ (ajt a _ >>= _) _ _ s;exact ae (T.get b (λe v ha c=>ay ⟨v,rfl,ay (h v (by rw[hm] at ha;cases ha;exact c))⟩) λhn=>by rw[hm] at hn;cases hn)
def AF.isin{Q:ai->av->Prop}(T:AF K a rows)(c:K.In s.heap)(neg:Bool)(h:Q (.bool (if neg then !inKeys k rows else inKeys k rows)) {s with toks:=s.toks+1}):wpAny (model prog w) A (compareOp (if neg then .NotIn else .In) (.str k tk) (.ref a)) Q E s:=by
 have ht:s.TypeIs (.ref a) fw:=T.typeIs c;have key:∀(b:Bool->av->Prop),b (inKeys k rows) {s with toks:=s.toks+1}->wpAny (model prog w) A (contains (.ref a) (.str k tk)) b E s:=λb h=>by
  unfold contains;try with_reducible refine bS ?_
  refine ae (gN ht aip.lookup ?_);rw[if_neg (by rw[beq_builtin_none];exact aS)];refine ae (wpAny_callSpecialUnlessNone?_slot (name:=ahQ "__contains__") ht aip
   (cE aip ht entry_dict_contains ?_ (args_dict_contains _ _)))
  show wpAny _ _ (ajt a (.str k tk) >>= _) _ _ s;refine ae (T.get c (λd v ha _=>?_) λhn=>?_)
  .have hb:inKeys k rows=ag:=by rw[<-isSome_datumAt,ha];rfl
   rw[hb] at h;show wpAny _ _ (ret (.bool ag)) _ _ _;exact ay ⟨_,rfl,cz h⟩
  .have hb:inKeys k rows=au:=by rw[<-isSome_datumAt,hn];rfl
   rw[hb] at h;exact ae (wpAny_pendingKey_other T.lo (ay ⟨_,rfl,cz h⟩))
 cases neg with
 |false=>
  exact ae (key _ (ay h))
 |true=>
  exact ae (key _ (ay h))
end
section
variable {X:Cx}
def HP (a:aw)(rows:List (aX×D)):G2:=λx y M Q=>match x,y with
 |.cls b,.str k=>b=a/\∃d,datumAt k rows=aa d/\Q d M
 |_,_=>False
def ace(T:AF X.K a rows):JX X (HP a rows):=by
 refine⟨λx y M P Q w q=>?_,λvalue slice cc s σ H x y v u Q I e f h g=>?_⟩
 .unfold HP at*;split at q<;>first|exact q.elim|(obtain⟨i,d,j,q⟩:=q;exact⟨i,d,j,w _ _ q⟩)
 .obtain⟨F,α,M,G,J,o,m,n,h⟩:=h;unfold HP at h;split at h<;>first|exact h.elim|skip
  obtain⟨rfl,d,hd,q⟩:=h;subst m n;rename_i b k;obtain rfl:v=bE b:=e;obtain⟨t,rfl⟩:=f;have ht:=T.typeIs I.ub;refine ae ?_;refine ae (gN ht PySem.F.slot_dict_getitem.lookup ?_);have c:wpAny (model X.prog X.w) X.A (subscripted slice au (.ref b) (.str k t)) (λr p=>wpAny (model X.prog X.w) X.A (ajQ value (.ref b) r >>= λ_=>pure r) (EP X cc σ Q) X.xe p) X.xe s:=by rw[g];refine ajG (T.item I.ub hd λL z=>ae (ajc (ay ?_)));obtain⟨B,C,E⟩:=z;exact⟨B,H,I.tok _,C,vK.now o q (E _ _)⟩
  first
   |exact ay (ae c)
   |exact ae _
   |exact ae c
def HQ (neg:Bool)(a:aw)(rows:List (aX×D)):G2:=λx y M Q=>match x,y with
 |.str k,.cls b=>b=a/\Q (.bl (if neg then !inKeys k rows else inKeys k rows)) M
 |_,_=>False
def Ku(T:AF X.K a rows):JC X .NotIn (HQ ag a rows):=by
 refine⟨λx y M P Q w q=>?_,λcc s σ H x y v u Q I c e h=>?_⟩
 .unfold HQ at*;split at q<;>first|exact q.elim|exact⟨q.1,w _ _ q.2⟩
 .obtain⟨F,α,M,i,j,o,f,g,h⟩:=h;unfold HQ at h;split at h<;>first|exact h.elim|skip
  obtain⟨rfl,q⟩:=h;subst f g;obtain⟨t,rfl⟩:=c;rename_i k b;obtain rfl:u=bE b:=e;exact T.isin I.ub ag ⟨.bl _,H,I.tok _,rfl,vK.now o q jG⟩
end
end L3
namespace L3
open L2
section
variable {K:bz}
def kP{st:c5}(F:iw K mg x st)(b:jq st=body)(es:iT st=scope)(S:kY N a scope)
(hb:∀(kV doc pm:ai) (an:Option aw) (jd ct:ai) (us:List ai),us.length=a.length->dI (eu x x (k9 st) (jq st) (iT st) .none kV doc pm an jd ct) ⟨us,[]⟩=pure (a.zip us))
(c:∀(f:aw) (jd:ai) (A:bH) (cv:List ahL) (s:av) (H:Hp) (E:XK),ka k (A.deeper (dZ x scope s.heap.objs.size f jd))->Dk (tE uk P w K mg cq N x scope f jd A cv s H E).F7 body tb):
  nz P w K mg cq (k+1) x a (l9 K (cl (lN N.length a.length tb))):=
 F.abT b es S hb (λe H Q E ⟨F,α,M,ds,o,r,hn,g,q⟩=>by rw[<-hZ.length _ _ r];exact g) λf jd A cv s H e Q E i h=>Nl (c f jd A cv s H E i) rfl h
def vh{st:c5}(F:iw K mg x st)(b:jq st=body)(es:iT st=scope)(S:kY N a scope)
(hb:∀(kV doc pm:ai) (an:Option aw) (jd ct:ai) (us:List ai),us.length=a.length->dI (eu x x (k9 st) (jq st) (iT st) .none kV doc pm an jd ct) ⟨us,[]⟩=pure (a.zip us))
(c:∀(f:aw) (jd:ai) (A:bH) (cv:List ahL) (s:av) (H:Hp) (E:XK),ka k (A.deeper (dZ x scope s.heap.objs.size f jd))->Dk (tE uk P w K mg cq N x scope f jd A cv s H E).F7 body tb):
  nz P w K mg cq (k+1) x a (l9 K (vf N.length a.length tb)):=
 F.abT b es S hb (λe H Q E ⟨F,α,M,ds,o,r,g,q⟩=>by rw[<-hZ.length _ _ r];exact g) λf jd A cv s H e Q E i h=>UO (c f jd A cv s H E i) rfl h
def mO(h:nz P w K mg cq k x c (l9 K (cl g)))(m:jD a)(i:∀ds Q,a ds Q->g ds Q):i8 P w K mg cq k x c (cl a):=
 ⟨HB m,let⟨f,fd,e,kp,b,F⟩:=h;⟨f,fd,e,kp,b,F.imp λj H Q E ⟨F,α,M,ds,o,r,n,q⟩=>⟨F,α,M,ds,o,r,n,i _ _ q⟩⟩⟩
def B6(h:nz P w K mg cq k x c (l9 K g))(m:l8 a)(i:∀ds M Q,a ds M Q->g ds M Q):i8 P w K mg cq k x c a:=
 ⟨m,let⟨f,fd,e,kp,b,F⟩:=h;⟨f,fd,e,kp,b,F.imp λj H Q E ⟨F,α,M,ds,o,r,q⟩=>⟨F,α,M,ds,o,r,i _ _ _ q⟩⟩⟩
def methP(c:Py K C)(hm:Meth K C m f)(hb:Binds K fd a [])(F:lP P w K mg cq uk k f fd a (l9 K (cl g)))(e:jD b)(i:∀ds Q,b ds Q->g ds Q):sM P w K mg cq k C m (cl b):=
 ⟨HB e,c,f,fd,a,hm,hb,F.imp λh H Q E ⟨F,α,M,ds,o,r,n,q⟩=>⟨F,α,M,ds,o,r,n,i _ _ q⟩⟩
def aez(hm:Mk K C f)(hb:Binds K fd a [])(F:lP P w K mg cq uk k f fd a (l9 K g))(c:l8 b)(i:∀ds M Q,b ds M Q->g ds M Q):qg P w K mg cq k C b:=
 ⟨c,f,fd,a,hm,hb,F.imp λe H Q E ⟨F,α,M,ds,o,r,q⟩=>⟨F,α,M,ds,o,r,i _ _ _ q⟩⟩
end
def j3(h:RI (iq i))(a:Kd gs):Kd (iO (iq i) gs):=λd b M P q=>by
 cases d with
 |nil=>exact q.elim
 |cons d r=>
  have:=a r _ M P q;simpa[iO,iq] using this
def qC(a:Kd gs):RI (k7 n gs):=ab0 a
theorem mP{st:Ms->Prop}(f:D->D)(b:st M):∀(xs acc:List D),acc.length+xs.length<=aO->
  (∀x∈xs,∀c:Option D->nB->Ms->Prop,(∀a,HC fr a=e->c (aa (f x)) a M)->Gs g tt j x e M c)->Q (acc++xs.map f) M->tJ fr g tt j st Q xs acc e M
 |[],acc,_,_,q=>by rw[gA,bu] at q;exact q
 |x::xs,acc,i,h,q=>by refine h x aN _ λa e1=>⟨b,by simp at i;omega,?_⟩;rw[e1];refine mP f b xs _ (by simp at i |-;omega) (λy m=>h y (aB _ m)) ?_;rw[bi];exact q
theorem uq{st:Ms->Prop}(f:D->Option D)(a:st M):∀(xs acc:List D),acc.length+xs.length<=aO->
  (∀x∈xs,∀j:Option D->nB->Ms->Prop,(∀b,HC fr b=m->j (f x) b M)->Gs g tt n x m M j)->Q (acc++xs.filterMap f) M->tJ fr g tt n st Q xs acc m M
 |[],acc,_,_,q=>by rw[List.filterMap_nil,bu] at q;exact q
 |x::xs,acc,c,h,q=>by
  refine h x aN _ λb e1=>⟨a,?_⟩;cases e:f x with
  |none=>
   rw[List.filterMap_cons_none e] at q;rw[e1];exact uq f a xs acc (by simp at c |-;omega) (λy i=>h y (aB _ i)) q
  |some d=>
   rw[List.filterMap_cons_some e] at q;refine⟨by simp at c;omega,?_⟩;rw[e1];refine uq f a xs _ (by simp at c |-;omega) (λy i=>h y (aB _ i)) ?_;rw[bi];exact q
theorem zA{st:Ms->Prop}(Pv:Nat->nB->Ms->Prop)(f:∀j a M,Pv j a M->st M):∀(xs:List D) (i:Nat) (a:nB) (M:Ms),Pv i a M->
  (∀j x a M,xs[j]?=aa x->Pv (i+j) a M->∀N:nB->Ms->Prop,(∀b c,Pv (i+j+1) b c->N b c)->g x a M λn M1=>tb {E with nx:=N,ct:=N,bk:=E.nx} n M1)->
  (∀a M,Pv (i+xs.length) a M->E.nx a M)->xV g tb st E xs a M
 |[],i,a,M,p,_,e=>e a M p
 |x::xs,i,a,M,p,h,e=>by
  refine h 0 x a M rfl p _ λb c m=>⟨f _ _ _ m,?_⟩;exact zA Pv f xs (i+1) b c m (λj y a M o r N s=>h (j+1) y a M (by simpa using o) (by rw[show i+(j+1)=i+1+j by omega];exact r) N λb c q=>s b c (by rw[show i+1+j+1=i+(j+1)+1 by omega];exact q))
   (λa M p=>e a M (by rw[aU,show i+(xs.length+1)=i+1+xs.length by omega];exact p))
theorem ye{c:DT}{tb:DS}{E:jZ}(Pv:Nat->nB->Ms->Prop)
(h:∀n a M,Pv n a M->∀N:nB->Ms->Prop,(∀m e f,m<n->Pv m e f->N e f)->c a M λb M1=>if b=ag then tb {E with nx:=N,ct:=N,bk:=E.nx} a M1 else E.nx a M1):∀(n:Nat) a M,Pv n a M->∀k,n<k->oF c tb E k a M
 |n,a,M,p,0,g=>absurd g (Nat.not_lt_zero _)
 |n,a,M,p,k+1,g=>by unfold oF;exact h n a M p _ λm e f hm i=>ye Pv h m e f i k (by omega)
mutual
def dv (M:Ms):D->D
 |.non=>.non|.bl b=>.bl b|.int i=>.int i|.str x=>.str x|.ty n=>.ty n|.rS ns=>.rS ns|.cls C=>.cls C
 |.loc k=>vw M (.loc k)
 |.tup ds=>.tup (xr M ds)|.lst ds=>.lst (xr M ds)|.kE a ds=>.kE a (xr M ds)|.ins C ns ds=>.ins C ns (xr M ds)|.exc C ns ds=>.exc C ns (xr M ds)
def xr (M:Ms):List D->List D
 |[]=>[]
 |d::ds=>dv M d::xr M ds
end
theorem P4(M:Ms):∀ds:List D,xr M ds=ds.map (dv M)
 |[]=>rfl
 |d::ds=>by unfold xr;rw[P4 M ds];rfl
mutual
theorem aaJ (M:Ms):∀d:D,nl d=ag->dv M d=d
 |.non,_=>rfl|.bl _,_=>rfl|.int _,_=>rfl|.str _,_=>rfl|.ty _,_=>rfl|.rS _,_=>rfl|.cls _,_=>rfl
 |.loc _,h=>by unfold nl at h;cases h
 |.tup ds,h=>by unfold dv;unfold nl at h;rw[AG M ds h]
 |.lst ds,h=>by unfold dv;unfold nl at h;rw[AG M ds h]
 |.kE a ds,h=>by unfold dv;unfold nl at h;rw[AG M ds h]
 |.ins C ns ds,h=>by unfold dv;unfold nl at h;rw[AG M ds h]
 |.exc C ns ds,h=>by unfold dv;unfold nl at h;rw[AG M ds h]
theorem AG (M:Ms):∀ds:List D,mY ds=ag->xr M ds=ds
 |[],_=>rfl
 |d::ds,h=>by unfold xr;unfold mY at h;rw[aZ] at h;rw[aaJ M d h.1,AG M ds h.2]
end
def yf(M:Ms)(ds:List D):(xr M ds).length=ds.length:=by rw[P4,ao]
section
variable {K:bz}
mutual
theorem acf (o:OK K F α H M):∀(d:D) (v:V),Rep K α (jU F α M H) d v->Rep K α H (dv M d) v
 |.non,v,h=>by unfold dv;unfold Rep at h |-;exact h
 |.bl _,v,h=>by unfold dv;unfold Rep at h |-;exact h
 |.int _,v,h=>by unfold dv;unfold Rep at h |-;exact h
 |.str _,v,h=>by unfold dv;unfold Rep at h |-;exact h
 |.ty _,v,h=>by unfold dv;unfold Rep at h |-;exact h
 |.cls _,v,h=>by unfold dv;unfold Rep at h |-;exact h
 |.rS ns,v,h=>by unfold dv;unfold Rep at h |-;obtain⟨a,r,q⟩:=h;exact⟨a,r,md iJ q⟩
 |.loc k,v,h=>by unfold dv;exact Rep.mono (aV _) iJ _ _ (xW o _ _ h)
 |.tup ds,v,h=>by unfold dv;unfold Rep at h |-;obtain⟨a,b,r,q,z⟩:=h;exact⟨a,b,r,nA iJ q,ur o ds b z⟩
 |.lst ds,v,h=>by unfold dv;unfold Rep at h |-;obtain⟨a,b,r,q,z⟩:=h;exact⟨a,b,r,iJ _ _ q,ur o ds b z⟩
 |.kE e ds,v,h=>by unfold dv;unfold Rep at h |-;obtain⟨a,b,r,q,l,z⟩:=h;exact⟨a,b,r,Hw iJ q,by rw[yf];exact l,ur o ds b z⟩
 |.ins C ns ds,v,h=>by unfold dv;unfold Rep at h |-;obtain⟨a,c,b,r,q,l,z⟩:=h;exact⟨a,c,b,r,iJ _ _ q,by rw[yf];exact l,ur o ds b z⟩
 |.exc C ns ds,v,h=>by unfold dv;unfold Rep at h |-;obtain⟨a,b,r,q,l,z⟩:=h;exact⟨a,b,r,iJ _ _ q,by rw[yf];exact l,ur o ds b z⟩
theorem ur (o:OK K F α H M):∀(ds:List D) (b:List V),hZ K α (jU F α M H) ds b->hZ K α H (xr M ds) b
 |[],b,h=>by unfold xr;unfold hZ at h |-;exact h
 |d::ds,b,h=>by unfold xr;unfold hZ at h |-;obtain⟨v,r,q,z,y⟩:=h;exact⟨v,r,q,acf o d v z,ur o ds r y⟩
end
end
def sc:D->Bool
 |.non|.bl _|.int _|.str _|.ty _=>ag
 |_=>au
def bor (g:GP):GN:=λds M Q=>mY (xr M ds)=ag/\g (xr M ds) λd=>sc d=ag/\Q d M
def U7(m:jD g):l8 (bor g):=λds M P Q w q=>⟨q.1,m _ _ _ (λd q=>⟨q.1,w _ _ q.2⟩) q.2⟩
def acg{K:bz}(h:sc d=ag)(r:Rep K α H d v):Rep K β a d v:=by cases d<;>first|(cases h;done)|(exact r)
def U8{K:bz}(t:Tb K H):OK K [] [] H []:=⟨rfl,eO,λ_ h=>by simp at h,λ_ h=>by simp at h,λk o h=>by simp at h,t⟩
def Dy (H a:Hp):Prop:=∀b o,H b=aa o->vn (aa o)=aa o->a b=aa o
def Dz:Dy H (mw [] H):=λb o e v=>kt (by simp) e v
def Nu{K:bz}(e:Dy H b)(h:xQ K H a xs):xQ K b a xs:=by
 rcases h with(h|⟨o,h⟩)|h
 .exact .inl (.inl (e _ _ h rfl))
 .exact .inl (.inr ⟨o,e _ _ h rfl⟩)
 .exact .inr h
def DB{K:bz}(e:Dy H b)(h:nI K H a xs):nI K b a xs:=by
 rcases h with(h|⟨o,h⟩)|h
 .exact .inl (.inl (e _ _ h rfl))
 .exact .inl (.inr ⟨o,e _ _ h rfl⟩)
 .exact .inr h
mutual
theorem Rep.zB {K:bz} {α:List aw} {H c:Hp} (e:Dy H c):∀(d:D) (v:V),Rep K α H d v->Rep K α c d v
 |.non,v,h=>by unfold Rep at h |-;exact h
 |.bl _,v,h=>by unfold Rep at h |-;exact h
 |.int _,v,h=>by unfold Rep at h |-;exact h
 |.str _,v,h=>by unfold Rep at h |-;exact h
 |.ty _,v,h=>by unfold Rep at h |-;exact h
 |.tup ds,v,h=>by unfold Rep at h |-;obtain⟨a,b,r,q,z⟩:=h;exact⟨a,b,r,Nu e q,hZ.zB e ds b z⟩
 |.lst ds,v,h=>by unfold Rep at h |-;obtain⟨a,b,r,q,z⟩:=h;exact⟨a,b,r,e _ _ q rfl,hZ.zB e ds b z⟩
 |.rS ns,v,h=>by unfold Rep at h |-;obtain⟨a,r,q⟩:=h;exact⟨a,r,DB e q⟩
 |.kE g ds,v,h=>by unfold Rep at h |-;obtain⟨a,b,r,q,l,z⟩:=h;exact⟨a,b,r,(by rcases q with q|⟨o,q⟩<;>first|exact .inl (e _ _ q rfl)|exact .inr ⟨o,e _ _ q rfl⟩),l,hZ.zB e ds b z⟩
 |.ins C ns ds,v,h=>by unfold Rep at h |-;obtain⟨a,f,b,r,q,l,z⟩:=h;exact⟨a,f,b,r,e _ _ q rfl,l,hZ.zB e ds b z⟩
 |.exc C ns ds,v,h=>by unfold Rep at h |-;obtain⟨a,b,r,q,l,z⟩:=h;exact⟨a,b,r,e _ _ q rfl,l,hZ.zB e ds b z⟩
 |.loc k,v,h=>by unfold Rep at h |-;exact h
 |.cls _,v,h=>by unfold Rep at h |-;exact h
theorem hZ.zB {K:bz} {α:List aw} {H c:Hp} (e:Dy H c):∀(ds:List D) (b:List V),hZ K α H ds b->hZ K α c ds b
 |[],b,h=>by unfold hZ at h |-;exact h
 |d::ds,b,h=>by unfold hZ at h |-;obtain⟨v,r,q,z,y⟩:=h;exact⟨v,r,q,Rep.zB e d v z,hZ.zB e ds r y⟩
end
def OK.aaK{K:bz}(o:OK K F α H M)(s:Dy H c)(t:Tb K c):OK K F α c M/\Ext F α H M α c M:=by
 have tY:∀a,vn (H a)≠ar->c a=H a:=λa h=>by
  cases e:H a with
  |none=>exact absurd (by rw[e]) h
  |some x=>
   rw[e] at h;exact s a x e (by cases x<;>first|rfl|exact absurd rfl h)
 have sh:∀A,kC (mw A H) _:=λA b x e=>by obtain⟨g,i,f⟩:=qM e;exact kt g (s b x i f) f
 refine⟨⟨o.ml,o.nd,λa ha=>⟨(o.fr a ha).1,by rw[tY a (o.fr a ha).2];exact(o.fr a ha).2⟩,λa ha=>by rw[tY a (o.al a ha)];exact o.al a ha,λk x h=>?_,t⟩,⟨aV _,sh _,λa ha=>tY a (o.fr a ha).2⟩⟩;obtain⟨a,e,r⟩:=o.own k x h;exact⟨a,e,r.mono (aV _) (sh _) (tY a (o.PL a (nL.mpr ⟨k,x,e,h⟩)))⟩
section
variable {K:bz}
def hasB(h:nz P w K mg cq k x c (l9 K (cl g)))(m:jD a)(i:∀ds Q,a ds Q->g ds Q):i8 P w K mg cq k x c (bor a):=
 ⟨U7 m,let⟨f,fd,e,kp,b,F⟩:=h;⟨f,fd,e,kp,b,F.imp λz H Q E ⟨F,α,M,ds,o,r,n,q⟩=>by
  refine⟨[],[],[],xr M ds,U8 o.tb,?_,n,i _ _ (m _ _ _ (λd q=>?_) q)⟩
  .exact hZ.zB Dz _ _ (hZ.nl _ _ n (ur o _ _ r))
  .obtain⟨j,q⟩:=q;intro v A p e' u y;have s:=λb ob hb vb=>by have:=e'.same b ob (by show mw ([]++[]) H b=_;exact kt (by simp) hb vb);exact iJ _ _ this
   obtain⟨o2,e2⟩:=o.aaK s u.tb;exact q v α p e2 o2 (acg j y)⟩⟩
end
def HR:List (DE×DE)->nB->Ms->(List (D×D)->Ms->Prop)->Prop
 |[],_,M,Q=>Q [] M
 | (tk,b)::r,a,M,Q=>tk a M λk M1=>b a M1 λv M2=>HR r a M2 λc e=>Q ((k,v)::c) e
abbrev pK(K:bz)(F α:List aw)(H:Hp)(M:Ms)(Q:List (V×V)->Hp->Prop):List (D×D)->Ms->Prop:=λf c=>∀e a b,Ext F α H M a b c->OK K F a b c->hZ K a (jU F a c b) (f.map (·.1)) (e.map (·.1))->hZ K a (jU F a c b) (f.map (·.2)) (e.map (·.2))->Q e b
structure JP(X:Cx)(pos:eL)(keys:List (Option bJ))(values:List bJ)(ts:List (DE×DE)):Prop where
 mono:∀δ M (P Q:List (D×D)->Ms->Prop),(∀ps M,P ps M->Q ps M)->HR ts δ M P->HR ts δ M Q
 p:∃trs,PPs X pos keys values trs/\∀F α δ M σ H Q,R X.K F α H σ δ M->HR ts δ M (pK X.K F α H M Q)->M9 trs σ H Q
section
variable {k:bJ} {keys:List (Option bJ)} {tk:DE}
end
section
variable {X:Cx}
def B7:G2:=λx y M Q=>match vw M x,vw M y with
 |.tup xs,.tup []=>Q (.bl xs.isEmpty) M
 |.lst xs,.lst []=>Q (.bl xs.isEmpty) M
 |_,_=>False
def HS(hu:X.A.units+1<eB):JC X .Eq B7:=by
 refine⟨λx y M P Q w q=>?_,λcc s σ H x y v u Q I O T h=>?_⟩
 .unfold B7 at q |-;generalize vw M x=a at q |-;generalize vw M y=b at q |-;match a,b,q with
  |.tup xs,.tup [],q=>exact w _ _ q
  |.lst xs,.lst [],q=>exact w _ _ q
 .obtain⟨F,α,M,da,db,o,U,Y,h⟩:=h;unfold B7 at h;generalize e1:vw M da=a at h;generalize e2:vw M db=b at h;match a,b,h,e1,e2 with
  |.tup xs,.tup [],h,e1,e2=>
   obtain⟨p,vs,rfl,z,B⟩:=mV o U e1;obtain⟨i,C,rfl,f,c⟩:=mV o Y e2;obtain rfl:v=bE p:=O;obtain rfl:u=bE i:=T;unfold hZ at c;subst c;obtain⟨iM,E,it,_⟩:=I.tuple z;obtain⟨J0,g,G,_⟩:=I.tuple f;have J:=hZ.length _ _ B;have L:=Paired.length E;cases g;have m:s.heap.IsTuple p iM.toArray:=it;have hb:s.heap.IsTuple i (ahJ ([]:List ai)):=G;refine PySem.SeqAt.eq_tupleAt (e:=λ_=>ag) m hb (by omega) (λj h1 N=>absurd N (by simp)) ⟨.bl _,H,I,rfl,?_⟩;have:((cy (min iM.toArray.size (ahJ ([]:List ai)).size)).all (λ_=>ag)&&iM.toArray.size==(ahJ ([]:List ai)).size)=xs.isEmpty:=by have l:xs.length=iM.length:=J.trans L;cases xs<;>cases iM<;>simp at l |-
   rw[this];exact vK.now o h jG
  |.lst xs,.lst [],h,e1,e2=>
   obtain⟨p,vs,rfl,z,B⟩:=jN o U e1;obtain⟨i,C,rfl,f,c⟩:=jN o Y e2;obtain rfl:v=bE p:=O;obtain rfl:u=bE i:=T;unfold hZ at c;subst c;obtain⟨_,iM,n,E,e⟩:=I.ja p _ z;obtain⟨_,J0,n2,g,e2⟩:=I.ja i _ f;have J:=hZ.length _ _ B;have L:=Paired.length E;cases g;have m:s.heap.IsList p iM.toArray:=⟨_,e,rfl,n,rfl⟩;have hb:s.heap.IsList i (ahJ ([]:List ai)):=⟨_,e2,rfl,n2,rfl⟩;have l:xs.length=iM.length:=J.trans L;cases xs with
   |nil=>
    cases iM with
    |cons b t=>simp at l
    |nil=>exact PySem.SeqAt.eq_listAt (e:=λ_=>ag) m hb rfl (by omega) (λj h1 N=>absurd N (by simp)) ⟨.bl ag,H,I,rfl,vK.now o h jG⟩
   |cons a r=>
    cases iM with
    |nil=>simp at l
    |cons b t=>exact PySem.SeqAt.eq_list_lengthsAt m hb (by simp) (by omega) ⟨.bl au,H,I,rfl,vK.now o h jG⟩
end
def zC (_ j:Int):Prop:=0<j/\j<18446744073709551616
def U9:uh X (binaryOp .FloorDiv) (rI zC λi j=>.int (i/j)):=opI λi j _ _ _ _ _ hc q=>by
 have e:(0:Int)<j:=hc.1;have f:j<18446744073709551616:=hc.2;refine floordiv_int (by omega) (by rw[Int.fdiv_eq_ediv_of_nonneg i (by omega)];exact q) (.inl (PyProof.noPylong_of_log2 ?_));have c:j.natAbs<2^64:=by omega
 have:=(Nat.log2_lt (by omega:j.natAbs≠0)).mpr c;omega
def mC:JO X .FloorDiv (gI zC λi j=>.int (i/j)):=⟨Cv,λcc s σ H x y v u Q I f g h=>by
 obtain⟨F,α,M,m,n,o,c,e,h⟩:=h;cases m<;>cases n<;>first|exact h.elim|skip
 unfold Rep at c e;exact U9 cc s σ H x y v u Q I f g ⟨_,_,c,e,h.1,vK.now o h.2 jB⟩⟩
def Kv:GM:=λd ds M Q=>match d,ds with
 |.loc k,[y]=>∃es xs,M[k]?=aa (aa (.lst es))/\vw M y=.lst xs/\es.length+xs.length<=aO/\Q .non (M.set k (aa (.lst (es++xs))))
 |_,_=>False
def RV:JM X "list.extend" Kv:=by
 refine⟨λd ds M P Q w q=>?_,λcc s σ H x xs v us Q I m rs h=>?_⟩
 .match d,ds,q with
  |.loc k,[x],⟨es,xs,c,e,f,q⟩=>exact⟨es,xs,c,e,f,w _ _ q⟩
 .obtain⟨F,α,M,d,ds,ok,r,g,h⟩:=h;match d,ds,h,r,g with
  |.loc k,[y],⟨es,xs,c,e,f,q⟩,r,g=>
   obtain⟨a,n,rfl,o,i,p⟩:=zy ok r c;obtain⟨u,z,A⟩:=nS g;subst z;obtain⟨b,ws,rfl,B,j⟩:=jN ok A e;obtain⟨o2,e2⟩:=p _ _ (hZ.append _ _ _ _ i j);exact Ry cc s σ H _ _ v us Q I m rs ⟨a,b,n,ws,rfl,rfl,o,B,by rw[<-hZ.length _ _ i,<-hZ.length _ _ j];exact f,q _ α _ e2 o2 qt⟩
def AH (x y:D)(M:Ms)(Q:OD->Ms->Prop):Prop:=match vw M x,vw M y with
 |.lst xs,.lst c=>xs.length+c.length<=aO/\Q (.lst (xs++c)) M
 |_,_=>False
def Kw{x y:D}{M:Ms}{P Q:OD->Ms->Prop}(w:∀o M,P o M->Q o M)(q:AH x y M P):AH x y M Q:=by unfold AH at q |-;generalize vw M x=a at q |-;generalize vw M y=b at q |-;cases a<;>cases b<;>first|exact q.elim|exact⟨q.1,w _ _ q.2⟩
def P5 (ta tb:DE):DF:=λc M Q=>ta c M λx M1=>tb c M1 λy M2=>AH x y M2 Q
def YC(ha:JE X a ta)(hb:JE X b tb):JF X (.BinOp a .Add b pos) (P5 ta tb):=by
 refine⟨λc M P Q w q=>ha.mono c _ _ _ (λx M1 q=>hb.mono c _ _ _ (λy M2 q=>Kw w q) q) q,PE.weak (aam Uu ha.p hb.p) λσ H Q q=>?_⟩;obtain⟨F,α,c,M,r,q⟩:=q;refine⟨F,α,c,M,r,ha.mono c _ _ _ (λh M1 q v i H1 e1 o1 j=>⟨F,i,c,M1,r.grow e1 o1,hb.mono c _ _ _ (λm M2 q u n o e2 o2 s=>?_) q⟩) q⟩;unfold AH at q;generalize z:vw M2 h=x at q;generalize A:vw M2 m=y at q;cases x<;>cases y<;>first|exact q.elim|skip
 obtain⟨a1,e,rfl,B,f⟩:=jN o2 (e2.rep j) z;obtain⟨b1,us,rfl,C,g⟩:=jN o2 s A;have E:=hZ.length _ _ f;have G:=hZ.length _ _ g;exact⟨a1,b1,e,us,rfl,rfl,B,C,by rw[<-E,<-G];exact q.1,λp I=>q.2 p _ n o (e1.trans e2) o2 I ⟨e++us,rfl,hZ.append _ _ _ _ f g⟩⟩
section
variable {X:Cx} {pos:eL}
def P6 (i:Nat)(C:Int->Int->Prop)(f:Int->Int->D)(te:DE):DS:=λE c M=>match c[i]? with
 |some (aa (.int a))=>te c M λd M1=>match d with
  |.int b=>C a b/\E.nx (c.set i (aa (f a b))) M1
  |_=>False
 |_=>False
def YD{f:Int->Int->Int}(i:Nat)(h:X.N.Nodup)(g:JE X e te)(j:PIp X op (rI C λa b=>.int (f a b)))(hi:X.N[i]?=aa x:=by rfl)(m:Loc X.env.scope x:=by first|exact ahS rfl|exact ahA rfl)
(n:X.fn x=ag\/X.env.scope.names.lookup x=aa .local:=by first|exact .inl rfl|exact .inr rfl|assumption):JS X (.AugAssign (.Name x p) op e pos) (P6 i C (λa b=>.int (f a b)) te):=by
 refine⟨λP Q c M w q=>?_,PS.weak (abm h hi m g.p j n) λE σ H q=>?_⟩
 .unfold P6 at q |-;split at q
  .refine g.mono c _ _ _ (λd M1 q=>?_) q;cases d<;>first|exact q.elim|exact⟨q.1,w.nx _ _ q.2⟩
  .exact q.elim
 .obtain⟨F,α,c,M,r,q⟩:=q;unfold P6 at q;split at q
  .rename_i a ha;obtain⟨v,s,y⟩:=r.sl i _ ha;subst y;refine⟨.int a,s,F,α,c,M,r,g.mono c _ _ _ (λd M1 q u z H1 e1 o1 A=>?_) q⟩;cases d<;>first|exact q.elim|skip
   subst A;exact⟨a,_,rfl,rfl,q.1,q.2 _ z H1 e1 ((r.grow e1 o1).set jB)⟩
  .exact q.elim
def ach:PIp X .Add (rI (λ_ _=>True) λa b=>.int (a+b)):=λcc s σ H x y v u Q I c f h=>by obtain⟨a,b,g,j,_,q⟩:=h;exact XH cc s σ H x y v u Q I c f ⟨a,b,g,j,q⟩
def rY(k:Key)(d:D)(a:List Key)(ds:List D):List Key×List D:=if a.any (λx=>decide (x=k))=ag then(a,c8 (λx y=>if x=k then d else y) a ds) else(a++[k],ds++[d])
theorem P7:∀(a:List Key) (b:List V),a.length=b.length->((a.zip b).any λc=>decide (c.1=k))=a.any λx=>decide (x=k)
 |[],[],_=>rfl
 |[],_::_,h=>by simp at h
 |_::_,[],h=>by simp at h
 |x::a,v::b,h=>by rw[cR,c7,c7,P7 a b (by simpa using h)]
theorem P8:∀(a:List Key) (b:List V),(a.zip b).map (λc=>if c.1=k then(c.1,v) else c)=a.zip (c8 (λx y=>if x=k then v else y) a b)
 |[],_=>rfl
 |_::_,[]=>rfl
 |x::a,y::b=>by rw[cR,bq,dW,P8 a b];by_cases e:x=k<;>simp[e]
theorem Kx{K:bz}(rd:Rep K α H d v):∀(a:List Key) (ds:List D) (b:List V),hZ K α H ds b->hZ K α H (c8 (λx y=>if x=k then d else y) a ds) (c8 (λx y=>if x=k then v else y) a b)
 |[],ds,b,h=>by exact hZ.nil
 |x::a,[],b,h=>by subst h;exact hZ.nil
 |x::a,y::ds,b,h=>by
  obtain⟨u,r,rfl,z,t⟩:=h;rw[dW,dW];refine hZ.cons ?_ (Kx rd a ds r t);by_cases e:x=k
  .rw[if_pos e,if_pos e];exact rd
  .rw[if_neg e,if_neg e];exact z
def RW{K:bz}(rd:Rep K α H d v)(a:List Key)(ds:List D)(b:List V)(h:hZ K α H ds b)(l:a.length=ds.length):
  ∃ws,xR (a.zip b) k v=(rY k d a ds).1.zip ws/\(rY k d a ds).1.length=(rY k d a ds).2.length/\hZ K α H (rY k d a ds).2 ws:=by
 have lv:=hZ.length _ _ h;unfold xR rY;rw[P7 a b (by omega)];by_cases e:(a.any λx=>decide (x=k))=ag
 .rw[if_pos e,if_pos e];refine⟨_,P8 a b,?_,Kx rd a ds b h⟩;show a.length=(c8 _ a ds).length;rw[gy];omega
 .rw[if_neg e,if_neg e];refine⟨b++[v],?_,by simp[l],hZ.append _ _ _ _ h (hZ.one rd)⟩;rw[List.zip_append (by omega)];rfl
def P9 (to ti tv:DE):DS:=λE a M=>tv a M λv M1=>to a M1 λo M2=>ti a M2 λk f=>match o with
 |.loc j=>∃b ds c,f[j]?=aa (aa (.kE b ds))/\Kg k=aa c/\b.length<aO/\E.nx a (f.set j (aa (.kE (rY c v b ds).1 (rY c v b ds).2)))
 |_=>False
def HU(O:X.A.units+1<eB)(h:JE X o to)(hi:JE X i ti)(m:JE X e tv)(T:fj e (aa (.Subscript o i ze)) pos.line X.env=pure au:=by rfl):JS X (.Assign [.Subscript o i ze] e pos) (P9 to ti tv):=by
 refine⟨λP Q b M w q=>m.mono b _ _ _ (λv M1 q=>h.mono b _ _ _ (λod M2 q=>hi.mono b _ _ _ (λk U q=>?_) q) q) q,PS.weak (XZ O h.p hi.p m.p T) λE σ H q=>?_⟩
 .cases od<;>first|exact q.elim|skip
  obtain⟨c,ds,f,g,n,s,q⟩:=q;exact⟨c,ds,f,g,n,s,w.nx _ _ q⟩
 .obtain⟨F,α,b,M,r,q⟩:=q;refine⟨F,α,b,M,r,m.mono b _ _ _ (λd M1 q v Y H1 e1 o1 r1=>⟨F,Y,b,M1,r.grow e1 o1,h.mono b _ _ _ (λod M2 q u tI H2 e2 o2 r2=>⟨F,tI,b,M2,r.grow (e1.trans e2) o2,hi.mono b _ _ _ (λk U q y Fu H3 e3 G r3=>?_) q⟩) q⟩) q⟩;cases od<;>first|exact q.elim|skip
  rename_i j q0;obtain⟨c,ds,f,g,n,s,q⟩:=q;have B:=e3.rep r2;obtain⟨a,I,rfl⟩:=B;obtain⟨a',J,L,hq,C,N⟩:=G.own j _ g;rw[I] at J;cases J;have rd:=(e2.trans e3).rep r1;obtain⟨ws,i1,i2,i3⟩:=RW (k:=f) rd c ds L N C;cases qP r3 n;have jK:(c.zip L).length<aO:=by rw[cK,<-hZ.length _ _ N,C,Nat.min_self,<-C];exact s
  obtain⟨o4,e4⟩:=G.write (y:=.kE _ _) (z:=.dK (xR _ f v)) g I (λHh eh=>by subst eh;exact⟨ws,by rw[iE,i1],i2,i3⟩)
  have ex:=((e1.trans e2).trans e3).trans e4;exact⟨a,_,rfl,M7.k hq jK,q σ Fu _ ex (r.grow ex o4)⟩
end
def Ap(a b:aX):Bool:=!decide (b.cps.toList<a.cps.toList)
def Qa{a b:aX}(h:a.cps.toList=b.cps.toList):a=b:=by cases a;congr 1;exact Array.toList_inj.mp h
def Va(h:Ap a b=ag)(g:Ap b a=ag):a=b:=by unfold Ap at h g;simp only [Bool.not_eq_true',decide_eq_false_iff_not] at h g;exact Qa (List.le_antisymm (gW.mp h) (gW.mp g))
def RX(a b:aX):Ap a b=ag\/Ap b a=ag:=by
 unfold Ap;simp only [Bool.not_eq_true',decide_eq_false_iff_not];by_cases h:b.cps.toList<a.cps.toList
 .right;exactλg=>List.lt_irrefl _ (List.lt_trans h g)
 .left;exact h
def Gy(h:Ap a b=ag)(g:Ap b c=ag):Ap a c=ag:=by unfold Ap at*;simp only [Bool.not_eq_true',decide_eq_false_iff_not] at*;exact gW.mpr (List.le_trans (gW.mp h) (gW.mp g))
section
variable {β:Type}
def vT(key:β->aX)(x:β):List β->List β
 |[]=>[x]
 |y::r=>if Ap (key x) (key y)=ag then x::y::r else y::vT key x r
def RY(key:β->aX):List β->List β
 |[]=>[]
 |x::r=>vT key x (RY key r)
theorem AI(key:β->aX)(x:β):∀l:List β,(vT key x l).Perm (x::l)
 |[]=>gf _
 |y::r=>by
  unfold vT;split
  .exact gf _
  .exact((AI key x r).cons y).trans (ahD.swap x y r)
theorem qQ(key:β->aX):∀l:List β,(RY key l).Perm l
 |[]=>gf _
 |x::r=>(AI key x _).trans ((qQ key r).cons x)
theorem BD(key:β->aX)(x:β):∀l:List β,l.Pairwise (λa b=>Ap (key a) (key b)=ag)->(vT key x l).Pairwise (λa b=>Ap (key a) (key b)=ag)
 |[],_=>by simp[vT]
 |y::r,h=>by
  unfold vT;have hc:=dj.mp h;split
  .rename_i e;refine dj.mpr ⟨λz c=>?_,h⟩;rcases aH.mp c with rfl|c
   .exact e
   .exact Gy e (hc.1 z c)
  .rename_i e;refine dj.mpr ⟨λz c=>?_,BD key x r hc.2⟩;rcases aH.mp ((AI key x r).mem_iff.mp c) with rfl|c
   .rcases RX (key y) (key z) with f|f
    .exact f
    .exact absurd f e
   .exact hc.1 z c
theorem yg(key:β->aX):∀l:List β,(RY key l).Pairwise (λa b=>Ap (key a) (key b)=ag)
 |[]=>ahM
 |x::r=>BD key x _ (yg key r)
theorem DC{key:β->aX}:∀{l m:List β},l.Perm m->l.Pairwise (λa b=>Ap (key a) (key b)=ag)->m.Pairwise (λa b=>Ap (key a) (key b)=ag)->(∀a∈l,∀b∈l,key a=key b->a=b)->l=m
 |[],m,p,_,_,_=>(List.nil_perm.mp p).symm
 |x::l,m,p,h,g,i=>by
  cases m with
  |nil=>exact absurd p (by simp)
  |cons y m=>
   have hc:=dj.mp h;have c:=dj.mp g;have e:x=y:=by
    have j:=p.mem_iff.mp aN;have f:=p.mem_iff.mpr aN;rcases aH.mp j with e|n
    .exact e
    .rcases aH.mp f with e|o
     .exact e.symm
     .exact i x aN y f (Va (hc.1 y o) (c.1 x n))
   subst e;rw[DC p.cons_inv hc.2 c.2 λa ha b hb=>i a (aB _ ha) b (aB _ hb)]
def HV{l m:List β}(p:l.Perm m)(h:l.Pairwise (λa b=>Ap (key a) (key b)=ag))(i:∀a∈m,∀b∈m,key a=key b->a=b):l=RY key m:=
 DC (p.trans (qQ key m).symm) h (yg key m) λa ha b hb=>i a (p.mem_iff.mp ha) b (p.mem_iff.mp hb)
end
def BE:List aX->List aX:=RY id
theorem DH:∀(p:aX) (l:List aX),risingS p l=ag->(p::l).Pairwise (λa b=>Ap a b=ag)
 |p,[],_=>by simp
 |p,x::r,h=>by
  have h:(!ltCps _ _&&risingS x r)=ag:=h;rw[aZ] at h;have e:=DH x r h.2;have f:=by have:=h.1;rw[ltCps_eq] at this;exact this
  refine dj.mpr ⟨λz c=>?_,e⟩;rcases aH.mp c with rfl|c
  .exact f
  .exact Gy f ((dj.mp e).1 z c)
theorem Nv:∀(l:List aX),ai3 l=ag->l.Pairwise (λa b=>Ap a b=ag)
 |[],_=>ahM
 |x::r,h=>DH x r h
def RZ(p:l.Perm m)(h:ai3 l=ag):l=BE m:=HV p (Nv l h) λ_ _ _ _ e=>e
end L3
namespace L2
section
variable {A:bH} {s:av}
def DJ{C:List ai->Prop}
(hc:∀R:List ai->av->Prop,(∀(f:aC) (tk:Nat) (acc:List ai),(∀b o,s.heap.get? b=aa o->f.get? b=aa o)->C acc->R acc {s with heap:=f,toks:=tk})->wpAny (model prog w) A.in1 (collect x) R E s)
(n:∀acc,C acc->acc.length<64/\∃ss,cX acc ss)
(h:∀(c f:aC) (p:aw) (tk e:Nat) (acc:List ai) (out:List ai) (ss a:List aX),C acc->cX acc ss->(∀b o,s.heap.get? b=aa o->c.get? b=aa o)->(∀b o,c.get? b=aa o->f.get? b=aa o)->c.objs.size<=p->
   f.get? p=aa {cls:=.type cr,data:=.seq out.toArray e}->cX out a->a.Perm ss->ai3 a=ag->Q (.ref p) {s with heap:=f,toks:=tk}):
  wpAny (model prog w) A (call (.builtin jm) [x]) Q E s:=by
 refine gO aiD aiv aiw (ai4 _) ?_;refine ae (ay ?_);refine ae (hc _ λc tk acc q ca=>?_);obtain⟨r,ss,g⟩:=n acc ca;refine ae (fD ?_ (by rw[bp];omega));have i:(c.push _).get? _=aa (ci cr acc.toArray 0):=aP _ rfl;refine ae (bS (cE aib ⟨_,i,rfl⟩ ah7 (list_sort_treeK aiS i g.keysOf (λB G rest e=>ai5 (by rw[<-e];exact g)) r λH a1 a2=>⟨_,rfl,?_⟩) (aiL _)));obtain⟨a,u,v,y⟩:=sorted_out_str g a1 a2;obtain⟨e,z⟩:=ajZ i;refine ay ⟨_,rfl,h c _ _ tk e acc _ ss a ca g q (λb o m=>?_) (aD _) (by exact z) u v y⟩;have lt:=aM m;have j:b<(c.push (ci cr acc.toArray 0)).objs.size:=by rw[ahy];exact cW lt
 exact(ajR (bd lt) j).trans (aj _ m)
end
section
variable {A:bH} {s:av} {rV:Array Keyed} {κ:PyProof.Rows.KeyKind}
theorem Gz:∀f n r:Nat,r<=1->minRun' f n r<=n+r
 |0,n,r,_=>aD _
 |f+1,n,r,h=>by
  rw[minRun'_succ];by_cases hn:n<64
  .rw[if_pos hn];exact aD _
  .rw[if_neg hn];have:=Gz f (n/2) (max r (n%2)) (by omega);omega
def R0{st:SortSt}(g:κ.OneLt)(h:KeysOf κ rV)(m:SBase rV st)(o:1<=rV.size)(up:ahZ κ (ahz st) rV.size)(q:Q (aa rV.size) st):wpS (model prog w) A E s (countRun' 0 rV.size) Q st:=by
 rw[countRun0_eq];refine ah0 (wpS_ascLoopK g h (aD _) (aD 1) o m (λi j a b=>up i j a (by omega)) λn r u _ c=>?_);have e:n=rV.size:=by
  by_cases e:n=rV.size
  .exact e
  .have p:=c.resolve_left e;have f:κ.blt _ _=au:=up (n- 1) n (by omega) (by omega);rw[p] at f;cases f
 subst e;rw[if_pos (by simp)];exact aiM q
def Vb{st:SortSt}(g:κ.OneLt)(h:KeysOf κ rV)(a:SBase rV st)(j:1<=rV.size)(up:ahZ κ (ahz st) rV.size)
(q:∀e,ahz e=ahz st->aiN e=ar->Q () e):wpS (model prog w) A E s sortRuns' Q st:=by
 have u:=Gz rV.size rV.size 0 (bD _);have sz:=a.size;have m:=q (aiO st ((aie st).push (0,rV.size,0))) rfl a.failed;have n:(aie st).push (0,rV.size,0)=#[(0,rV.size,0)]:=by rw[a.pend];rfl
 rw[sortRuns'_eq];refine ah0 (wpS_get ?_);rw[sz];refine ah0 (wpS_mono (wpS_forRange (I:=λi c t=>(i=0/\c=(ar,0)/\t=st)\/(1<=i/\c=(ar,rV.size)/\t=aiO st ((aie st).push (0,rV.size,0)))) (Q:=λc t=>c=(ar,rV.size)/\t=aiO st ((aie st).push (0,rV.size,0))) ?s ?f (.inl ⟨rfl,rfl,rfl⟩)) ?r);case f=>
  rintro c t (⟨z,_⟩|⟨_,o,p⟩)
  .omega
  .exact⟨o,p⟩
 case s=>
  rintro i c t _ _ (⟨rfl,rfl,rfl⟩|⟨_,rfl,rfl⟩)
  .rw[if_neg (by omega)];refine ah0 (R0 g h a j up ?_);dsimp only;rw[if_neg (by omega)];refine ah0 (wpS_get ?_);rw[show(aie t).back?=ar by rw[a.pend];rfl];refine ah0 (wpS_modify (aiM (.inr ⟨aD 1,?_,rfl⟩)));rw[bR]
  .rw[if_pos (aD _)];exact aiM ⟨rfl,rfl⟩
 case r=>
  intro c t b;obtain⟨rfl,rfl⟩:=b;refine ah0 (wpS_mono (wpS_forRange (I:=λ_ c t=>c=(ar,())/\t=aiO st ((aie st).push (0,rV.size,0))) ?_ (λ_ _ z=>z) ⟨rfl,rfl⟩) ?_)
  .intro i c t _ _ b;obtain⟨rfl,rfl⟩:=b;refine ah0 (wpS_get ?_);rw[if_pos (by rw[n];exact aD 1)];exact aiM ⟨rfl,rfl⟩
  .intro c t b;obtain⟨rfl,rfl⟩:=b;exact aiM m
def Vc(f:s.heap.get? a=aa (ci cr b.toArray n))(i:cX b ss)(p:2<=b.length)(B:b.length<=1000)
(up:ahZ strKind (aif b) (aif b).size)(h:P (.done (.ret .none)) {s with heap:=sortedHeap s.heap a b ((aif b).map (·.2))}):
  wpAny (model prog w) A (bM.«list.sort» ⟨[.ref a],[]⟩) P E s:=by
 have ha:=aM f;have g:=fE f (λ_=>#[]);generalize j:s.heap.update a (bY λ_=>#[])=q at g;have m:((q.push (ci fi b.toArray 0)).push (ci cr #[] 0)).get? a=aa _:=aj _ (aj _ g);have big:¬b.toArray.size<2:=by simp;omega
 rw[ajH];refine ae (aix f rfl (ae (dR f rfl ?_)));rw[j];refine ae (gF (s:={s with heap:=q}) g rfl (ae (aia (ae (fD (bS ?_))))));dsimp only;rw[if_neg big,if_neg big];obtain⟨c,e,r,rfl⟩:∃c e r,b=c::e::r:=by
  match b,p with
  |c::e::r,_=>exact⟨c,e,r,rfl⟩
 rw[ai5 i];refine ae (ay ?_);refine ae (cn (Vb (κ:=strKind) aiS (Q:=λ_ t=>ahz t=aif (c::e::r)/\aiN t=ar) i.keysOf ⟨Array.Perm.refl _,rfl,rfl,rfl⟩ (by rw[aiy];omega) up λt u v=>⟨u,v⟩) ?_ λ_ _ z=>z)
 rintro⟨⟨⟩,t⟩ C ⟨rfl,e1,e2⟩
 dsimp only;rw[e1,e2];have y:(Array.map (λx:Keyed=>x.2) (aif (c::e::r))).size<=aO:=by rw[Array.size_map,aiy,bp];omega
 unfold sortedHeap at h;rw[j] at h;refine ae (gF m rfl (ae (dR m rfl ?_ (hsz2:=eM y))));rw[bne_self_eq_false,if_neg aS];exact ay h
def GA{x:ai}{C:List ai->Prop}
(hc:∀R:List ai->av->Prop,(∀(f:aC) (tk:Nat) (acc:List ai),(∀b o,s.heap.get? b=aa o->f.get? b=aa o)->C acc->R acc {s with heap:=f,toks:=tk})->wpAny (model prog w) A.in1 (collect x) R E s)
(J:∀acc,C acc->cX acc ss)(T:2<=ss.length)(U:ss.length<=1000)(up:ss.Pairwise λa b=>L3.Ap a b=ag)
(h:∀(c f:aC) (p:aw) (tk e:Nat) (acc:List ai),C acc->(∀b o,s.heap.get? b=aa o->c.get? b=aa o)->(∀b o,c.get? b=aa o->f.get? b=aa o)->c.objs.size<=p->
   f.get? p=aa {cls:=.type cr,data:=.seq acc.toArray e}->Q (.ref p) {s with heap:=f,toks:=tk}):
  wpAny (model prog w) A (call (.builtin jm) [x]) Q E s:=by
 refine gO aiD aiv aiw (ai4 _) ?_;refine ae (ay (ae (hc _ λc tk acc L ca=>?_)));have g:=J acc ca;have Y:=g.length;refine ae (fD ?_ (by rw[bp];omega));have n:(c.push (ci cr acc.toArray 0)).get? c.objs.size=aa _:=aP _ rfl;have r:ahZ strKind _ (aif acc).size:=λi j Xr v=>by
  rw[aiy] at v;have at_:∀i,i<acc.length->∃(y:aX),ss[i]?=aa y/\KK strKind _ i=y.cps.toList:=λi hi=>by
   obtain⟨y,t,B⟩:=g.all acc[i] (fQ hi);refine⟨y,?_,KK_str (t:=t) (q:=acc[i]) (by rw[aiy];exact hi) ?_⟩
   .rw[<-g.strs,bh,ax hi,B];rfl
   .unfold aif;rw[Array.getElem_zip];refine Prod.ext ?_ ?_
    .simpa using B
    .simp
  obtain⟨y,u,M⟩:=at_ i (by omega);obtain⟨z,m,N⟩:=at_ j v;show decide _=au;rw[M,N];by_cases e:i=j
  .subst e;rw[u] at m;cases m;simpa using List.lt_irrefl _
  .have G:j<ss.length:=by omega
   have H:i<ss.length:=by omega
   have:=eY.mp up i j H G (by omega);rw[ax H] at u;rw[ax G] at m;cases u;cases m;unfold L3.Ap at this;simpa using this
 refine ae (bS (cE aib ⟨_,n,rfl⟩ ah7 (Vc n g (by omega) (by omega) r ⟨_,rfl,?_⟩) (aiL _)));obtain⟨e,O⟩:=ajZ (vs:=acc) n;have em:(aif acc).map (·.2)=acc.toArray:=by apply Array.ext';rw[Array.toList_map,pairsOf_toList,fR (aD _)]
 refine ay ⟨_,rfl,h c _ c.objs.size tk e acc ca L (λb o I=>?_) (aD _) (O.trans (by rw[em]))⟩;have lt:=aM I;exact(ajR (bd lt) (by rw[ahy];exact cW lt)).trans (aj _ I)
end
def DL (ss:List aX):Prop:=ss.length<64\/(2<=ss.length/\ss.length<=1000/\ss.Pairwise λa b=>L3.Ap a b=ag)
def DL.l(h:DL ss):ss.length<=1000:=by rcases h with h|h<;>omega
def GB(h:ss.Pairwise λa b=>L3.Ap a b=ag):ai3 ss=ag:=by refine sortedS_of_pairwise ss (h.imp λ{a b} z=>?_);rw[ltCps_eq];unfold L3.Ap at z;simpa using z
section
variable {X:Cx}
theorem GC:∀{a:List ai} {ss:List aX},cX a ss->Vals (ss.map V.str) a
 |_,_,.nil=>.nil
 |_,_,.cons x t h=>.cons ⟨t,rfl⟩ (GC h)
theorem AJ:∀{ss:List aX} {a:List ai},Vals (ss.map V.str) a->cX a ss
 |[],_,h=>by cases h;exact .nil
 |x::ss,_,h=>by
  cases h with
  |cons r t=>obtain⟨u,rfl⟩:=r;exact .cons x u (AJ t)
def ut(I:Inv X cc σ H s)(v:a.length<=1000)(q:∀l,H l=ar->Q (.ref l) (upd H l (.lst ((L3.BE a).map V.str)))){g f:aC}
(i:∀b o,s.heap.get? b=aa o->g.get? b=aa o)(j:∀b o,g.get? b=aa o->f.get? b=aa o)(h:g.objs.size<=p)(m:f.get? p=aa {cls:=.type cr,data:=.seq out.toArray e})(n:cX out c)(pm:c.Perm a)(r:ai3 c=ag):
  EP X cc σ Q (.ref p) {s with heap:=f,toks:=tk}:=by
 have e1:=L3.RZ pm r;subst e1;have I1:=I.kept (t':=tk) i;have u:((L3.BE a).map V.str).length<=aO:=by rw[ao,pm.length_eq,bp];omega
 exact⟨.ref p,_,I1.laid j h (show kx X.prog X.w _ f _ (.lst _) from⟨u,out,e,GC n,m⟩),rfl,q p (I1.ja.fresh h)⟩
def HW:ny X (.builtin jm) (λxs H Q=>∃p ss,xs=[.ref p]/\nI X.K H p (ss.map V.str)/\DL ss/\∀l,H l=ar->Q (.ref l) (upd H l (.lst ((L3.BE ss).map V.str)))):=by
 intro cc s σ H xs us Q I r h;obtain⟨p,ss,rfl,y,f,q⟩:=h;obtain⟨u,rfl,z⟩:=vals1 r;cases z;obtain⟨iM,n,pl,_⟩:=I.list y;have a:=AJ n;have B:=n.length;rw[ao] at B;have v:=f.l;have cl:∀R:List ai->av->Prop,(∀(c:aC) (tk:Nat) (acc:List ai),(∀b o,s.heap.get? b=aa o->c.get? b=aa o)->acc=iM->R acc {s with heap:=c,toks:=tk})->wpAny (model X.prog X.w) X.A.in1 _ R X.xe s:=λR h=>by refine ai6 pl.isList ?_ (by rw[bp];omega);refine h _ s.toks iM (λb o q=>?_) rfl;have lt:=aM q;rw[gz _ _ _ _ (bd lt),aj _ q]
 rcases f with f|⟨C,E,x⟩
 .refine DJ cl (λacc e=>⟨by rw[e];omega,ss,by rw[e];exact a⟩) (λG c p tk e acc out s1 s2 ca sa g i j m J pm L=>?_);subst ca;have e2:s1=ss:=by rw[<-sa.strs,a.strs]
  subst e2;exact ut I v q g i j m J pm L
 .exact GA cl (λacc e=>by rw[e];exact a) C E x λG c p tk e acc ca g i j m=>ut I v q g i j m (by rw[ca];exact a) (gf _) (GB x)
def aci(h:(i7 P w).is (.inr x) v=ag):∃t,v=.str x t:=by
 have h:d8 x v=ag:=h;cases v<;>first|(simp[d8] at h;done)|skip
 simp[d8] at h;subst h;exact⟨_,rfl⟩
theorem GD:∀{b:List ai} {a:List (Key×ai)} {ss:List aX},a.map (·.1)=ss.map dg->b.length=a.length->(∀(i:Nat) (v:ai),b[i]?=aa v->∃k x,a[i]?=aa (k,x)/\(i7 P w).is k v=ag)->cX b ss
 |[],a,ss,e,l,h=>by
  cases a with
  |nil=>
   cases ss with
   |nil=>exact .nil
   |cons _ _=>simp at e
  |cons _ _=>simp at l
 |v::b,[],ss,e,l,h=>by simp at l
 |v::b,(k,x)::a,[],e,l,h=>by simp at e
 |v::b,(k,x)::a,y::ss,e,l,h=>by simp only [bq,List.cons.injEq] at e;obtain⟨e1,e2⟩:=e;subst e1;obtain⟨k',f,e3,e4⟩:=h 0 v rfl;cases e3;obtain⟨t,rfl⟩:=aci e4;exact .cons y t (GD e2 (by simpa using l) λi u c=>h (i+1) u (by simpa using c))
def HX(N:X.A.handled=ar):ny X (.builtin jm) (λxs H Q=>∃p g ss,xs=[.ref p]/\Rd H p (.dK g)/\g.map (·.1)=ss.map dg/\DL ss/\∀l,H l=ar->Q (.ref l) (upd H l (.lst ((L3.BE ss).map V.str)))):=by
 intro cc s σ H xs us Q I r h;obtain⟨p,g,ss,rfl,C,E,j,q⟩:=h;obtain⟨u,rfl,O⟩:=vals1 r;cases O;obtain⟨z,hd,f,rel,dd⟩:=rW I.ja C;obtain⟨ep,G⟩:=dd.dictAt;have J:f.map (·.1)=ss.map dg:=by
  rw[<-E];clear E dd G C;induction rel with
  |nil=>rfl
  |cons r t T=>rw[bq,bq,r.1,T (by simp at z;omega)]
 have U:=by have:=congrArg cI J;simpa using this
 have key:∀acc:List ai,(∃a:Array ai,acc=a.toList/\aiF (λi v=>∃k x,f[i]?=aa (k,x)/\(i7 X.prog X.w).is k v=ag) a f.length)->cX acc ss:=by intro acc Y;obtain⟨a,rfl,i1,i2⟩:=Y;exact GD J (by exact i1) λi v hv=>i2 i v (by rw[<-ck];exact hv)
 have L:=j.l;have cl:∀R:List ai->av->Prop,(∀(c:aC) (tk:Nat) (acc:List ai),(∀b o,s.heap.get? b=aa o->c.get? b=aa o)->(∃a:Array ai,acc=a.toList/\aiF (λi v=>∃k x,f[i]?=aa (k,x)/\(i7 X.prog X.w).is k v=ag) a _)->R acc _)->wpAny _ X.A.in1 _ R X.xe s:=
  λR h=>W.kdu_collect (W.kdl_dict hd) N G (by rw[bp];omega) λc tk acc k i=>h c tk _ k ⟨acc,rfl,i⟩
 rcases j with j|⟨g1,g2,M⟩
 .refine DJ cl (λacc ca=>⟨?_,ss,key acc ca⟩) (λh1 c p tk e acc out s1 s2 ca sa m n y B ho pm sd=>?_)
  .rw[(key acc ca).length];omega
  .have e2:s1=ss:=by rw[<-sa.strs,(key acc ca).strs]
   subst e2;exact ut I L q m n y B ho pm sd
 .exact GA cl key g1 g2 M λh1 c p tk e acc ca m n y B=>ut I L q m n y B (key acc ca) (gf _) (GB M)
end
end L2
namespace L3
open L2
section
variable {X:Cx}
def YE:D->(List aX->Prop)->Prop
 |.lst xs,C=>∃ss:List aX,xs=ss.map D.str/\DL ss/\C ss
 |.kE a _,C=>∃ss:List aX,a=ss.map dg/\DL ss/\C ss
 |_,_=>False
def R3(w:∀ss,C ss->a ss)(h:YE d C):YE d a:=by cases d<;>first|exact h.elim|(obtain⟨ss,b,c,e⟩:=h;exact⟨ss,b,c,w _ e⟩)
def Kz:GF:=λds M Q=>match ds with
 |[d]=>YE (vw M d) λss=>Q (.lst ((BE ss).map .str)) M
 |_=>False
theorem AK{K:bz}:∀{ss:List aX} {a:List V},hZ K α H (ss.map D.str) a->a=ss.map V.str
 |[],a,h=>by exact h
 |x::ss,a,h=>by obtain⟨v,r,rfl,z,y⟩:=h;rw[z,AK y];rfl
def Nz(j:X.A.handled=ar):JBF X (.builtin jm) Kz:=by
 refine⟨λds M P Q w q=>?_,λcc s σ H xs us Q I rs h=>?_⟩
 .match ds,q with
  |[d],q=>exact R3 (λss q=>w _ _ q) q
 .obtain⟨F,α,M,ds,o,b,h⟩:=h;match ds,h,b with
  |[d],q,b=>
   obtain⟨v,m,i⟩:=nS b;subst m;have q:YE (vw M d) λss=>fK X.K F α H M Q _ M:=q;generalize e1:vw M d=z at q;cases z<;>first|exact q.elim|skip
   .obtain⟨ss,rfl,c,q⟩:=q;obtain⟨a,n,rfl,e,f⟩:=jN o i e1;have e2:=AK f;subst e2;exact HW cc s σ H _ us Q I rs ⟨a,ss,rfl,nI.of e,c,λp g=>q p _ α H Ext.refl o g ⟨_,rfl,hZ.of_map _ _ (λ_=>qr) _⟩⟩
   .obtain⟨ss,rfl,c,q⟩:=q;obtain⟨a,n,rfl,e,r,f⟩:=oG o i e1;have u:=hZ.length _ _ f;refine HX j cc s σ H _ us Q I rs ⟨a,_,ss,rfl,e,?_,c,λp g=>q p _ α H Ext.refl o g ⟨_,rfl,hZ.of_map _ _ (λ_=>qr) _⟩⟩;rw[List.map_fst_zip (by omega)]
end
end L3
namespace L2
def B8(val:Nat->aX):Nat->List aX
 |0=>[]
 |i+1=>ah6 (B8 val i) (val i)
theorem Qb(val:Nat->aX):∀i,(B8 val i).length<=i
 |0=>aD _
 |i+1=>by
  have a:=Qb val i;unfold B8 ah6;split
  .omega
  .simp;omega
def Vd(σ:List aX)(v k:aX):(ah6 σ v).any (·==k)=(σ.any (·==k)||decide (k=v)):=by
 unfold ah6;by_cases h:σ.any (·==v)=ag
 .rw[if_pos h];by_cases e:k=v
  .subst e;rw[h];rfl
  .simp[e]
 .rw[if_neg h];by_cases e:k=v
  .subst e;simp
  .have hb:(v==k)=au:=by simpa usingλz:v=k=>e z.symm
   simp[hb,e]
def Ve(σ:List aX)(v:aX):(ah6 σ v).length=if σ.any (·==v) then σ.length else σ.length+1:=by unfold ah6;split<;>simp
section
variable {A:bH} {s:av}
abbrev AL(prog:bc)(w:bI)(h:aC)(a:aw)(val:Nat->aX)(i:Nat):Prop:=h.SetOf (PySem.strKind prog w) a (λk=>(B8 val i).any (·==k)) (B8 val i).length
def R4{R:ai0->av->Prop}{It:aw}{H h:List aw}{G:Array aiz->Array aiz->Prop}{n:Nat}{P:Nat->ai->Prop}{St:Nat->av->Prop}(W:WalksS prog w A.in1 It H h G n P St)(a:aw)(c:a∉H)
(val:Nat->aX)(j:∀i v,P i v->∃t,v=.str (val i) t)(hb:n+1<aig):∀(k i:Nat) (s:av),n- i=k->i<=n->St i s->AL prog w s.heap a val i->
   (∀m,ajS (a::h) G s m->AL prog w m.heap a val n->R (.ok (.ret .none)) m)->codeAny (model prog w) A (.builtin "set.update.loop" ⟨[.ref a,.ref It],[]⟩) R s:=by
 have f:a∉h:=λz=>c (W.sub _ z);intro k;induction k with
 |zero=>
  intro i s I hi p q r;obtain rfl:i=n:=by omega
  refine gQ gZ ?_;rw[bH.under_plainId g8 _];refine ae (W.done s _ _ p λs1 g=>?_);show wpAny _ A.in1 (ret cM) _ _ s1;obtain⟨o,es,u,t,x,more⟩:=q;exact ay (r s1 (g.mono λb z=>aB _ z) ⟨o,es,u,t,g.heap a _ f x,more⟩)
 |succ k J=>
  intro i s I hi p q r;have lt:i<n:=by omega
  refine gQ gZ ?_;show wpAny _ A.in1 (pyNext (.ref It) >>= _) _ _ s;refine ae (W.item i s _ _ lt p λv s1 L y g=>?_);obtain⟨t,rfl⟩:=j i v L;have M:AL prog w s1.heap a val i:=by obtain⟨o,es,u,tb,x,more⟩:=q;exact⟨o,es,u,tb,g.heap a _ f x,more⟩
  refine ae (bS ?_);unfold setAdd;refine bS (ae ((PySem.strKind prog w).pyHash (k:=val i) (PySem.strKind_is _ _ _ _) ?_));have room:(B8 val i).length+1<aig:=by have:=Qb val i;omega
  refine wpAny_setAddHashed_of (knd:=PySem.strKind prog w) (s:={s1 with toks:=s1.toks+1}) (PySem.strKind_is _ _ _ _) rfl M room λN sb O=>?_;have Q:AL prog w N a val (i+1):=SetOf_congr O (λk=>(Vd _ _ _).symm) (Ve _ _).symm;refine ay ⟨aik g8 _,J (i+1) _ (by omega) lt (W.frame _ s1 _ _ y (cx _) λb B o e=>?_) Q λT C U=>?_⟩
  .rw[sb.2 b λz=>c (z▸B)];exact e
  .refine r T (ajS.trans W.gtrans ((g.mono λb z=>aB _ z).then_heap (cx _) λb o B e=>?_) C) U;rw[sb.2 b λz=>B (z▸aN)];exact e
theorem Qd:∀{a:List ai} {ss:List aX},cX a ss->∀(i:Nat) (v:ai),a[i]?=aa v->∃t,v=.str (ss.getD i ⟨#[]⟩) t
 |_,_,.nil,i,v,h=>by simp at h
 |_,_,.cons x t r,0,v,h=>by simp at h;exact⟨t,h.symm⟩
 |_,_,.cons x t r,i+1,v,h=>by obtain⟨u,e⟩:=Qd r i v (by simpa using h);exact⟨u,by rw[e];rfl⟩
def R5(J:A.handled=ar)(L:s.heap.IsList l items)(hi:cX items.toList ss)(hb:items.size+1<aig)
(M:∀(f:aC) (tk:Nat),AL prog w f s.heap.objs.size (λi=>ss.getD i ⟨#[]⟩) items.size->(∀b o,s.heap.get? b=aa o->f.get? b=aa o)->Q (.ref s.heap.objs.size) {s with heap:=f,toks:=tk}):
  wpAny (model prog w) A (call (.type gc) [.ref l]) Q E s:=by
 obtain⟨c,tl,N⟩:=PySem.F.called_set.mro;have O:=PySem.F.called_set.made;have T:=PySem.F.called_set.sub;refine fJ (ajI ?_);show wpAny _ _ (ajv (.type gc) _) _ _ _;refine ay ⟨Code.quiet_builtin _ (by decide+kernel),gQ PySem.F.entry_type_call ?_⟩;rw[bH.under_plain (weight_type_call_type gc [.ref l] []) rfl];have n1:=PySem.F.called_set.notType;have n2:=PySem.F.called_set.canCreate;have n3:=PySem.F.typeCall_set_1 (.ref l);repeat (any_goals (first|assumption|wp_step))
 refine dk (code_set_new_1 (.ref l) (E:=E) (Q₁:=λv s1=>∃a:Bool,v=.ref s.heap.objs.size/\s1={s with heap:=s.heap.push {cls:=.type gc,dict:=ar,data:=.set #[] 0 (.fresh 0 0 a)}}) λa=>⟨a,rfl,rfl⟩) λr s1 p=>?_;cases r with
 |error e=>exact p
 |ok fl=>
  cases fl with
  |ret v=>
   obtain⟨a,rfl,rfl⟩:=p;have h:(s.heap.push {cls:=.type gc,dict:=ar,data:=.set #[] 0 (.fresh 0 0 a)}).get? s.heap.objs.size=aa {cls:=.type gc,dict:=ar,data:=.set #[] 0 (.fresh 0 0 a)}:=aP _ rfl;have q:av.TypeIs {s with heap:=s.heap.push {cls:=.type gc,dict:=ar,data:=.set #[] 0 (.fresh 0 0 a)}} (.ref s.heap.objs.size) gc:=⟨_,h,rfl⟩;have n4:=PySem.F.called_set.init.lookup;have n5:=PySem.F.called_set.init.bind (.ref s.heap.objs.size);repeat (any_goals (first|assumption|wp_step))
   refine dk (aic (R:=wants (λr s2=>r=.none/\∃f tk,s2={s with heap:=f,toks:=tk}/\AL prog w f s.heap.objs.size (λi=>ss.getD i ⟨#[]⟩) items.size/\(∀b o,s.heap.get? b=aa o->f.get? b=aa o)) E) PySem.F.called_set.init.plain PySem.F.entry_set_init (check_set_init_1 q ?_)) λU s2 g=>?_
   .obtain⟨Y,u,I,nl,MD⟩:=L;obtain⟨oc,od,ot,os⟩:=Y;simp only at I MD;subst I;subst MD;have j:(s.heap.push {cls:=.type gc,dict:=ar,data:=.set #[] 0 (.fresh 0 0 a)}).IsList l items:=⟨_,aj _ u,rfl,nl,rfl⟩;have ahw:(s.heap.push {cls:=.type gc,dict:=ar,data:=.set #[] 0 (.fresh 0 0 a)}).get? l=aa {cls:=.type cr,dict:=od,data:=.seq items nl,slots:=os}:=aj _ u;have m1:=PySem.F.sub_list_set;have m2:=PySem.F.sub_list_frozenset;have m3:(c9 cr==c9 fw)=au:=by decide
    unfold bM.«set.__init__» noKeywords bM.Frozenset.updateFrom;generalize x:aiI=PI
    wp_walk
    subst x;refine dL j (ae (wpAny_runValue ?_));have m:l<s.heap.objs.size:=aM u;have h3:A.in1.in1.in1.handled=ar:=by simp[J]
    have y:l≠(s.heap.push {cls:=.type gc,dict:=ar,data:=.set #[] 0 (.fresh 0 0 a)}).objs.size:=by rw[cj];exact bd (cW m)
    have B:s.heap.objs.size∉[(s.heap.push {cls:=.type gc,dict:=ar,data:=.set #[] 0 (.fresh 0 0 a)}).objs.size,l]:=by rw[cj];simp only [aH,bV,or_false,not_or];exact⟨bd (eW _),dh m⟩
    refine R4 ((aiq.list h3 _ l y items).toS) s.heap.objs.size B (λi=>ss.getD i ⟨#[]⟩) (λi v hv=>Qd hi i v (by rw[ck];exact hv)) hb (items.size- 0) 0 _ (by omega) (bD _) ⟨⟨_,aP _ rfl,rfl,rfl⟩,(j.push _)⟩ ?s0 ?fn;case s0=>exact SetOf_congr ((setObjOf_fresh (knd:=PySem.strKind prog w) a).setOf (aj _ h) (by unfold aig;omega)) (λ_=>rfl) rfl
    case fn=>
     intro s3 n S3;obtain⟨C,g3,d3,t3,o3⟩:=s3;have eg:g3=s.gens:=n.gens;have ed:d3=s.drawn:=n.drawn;have eo:o3=s.os:=n.os;subst eg ed eo;refine ay ?_;show wpAny _ _ (ret cM) _ _ _;refine ay ⟨rfl,C,t3,rfl,S3,λb o e=>n.heap b o ?_ (aj _ (aj _ e))⟩;have z:=aM e;rw[cj];simp only [aH,bV,or_false,not_or];exact⟨bd z,bd (cW z)⟩
   .cases U with
    |error e=>exact g
    |ok G=>
     cases G with
     |ret r=>
      obtain⟨rfl,f,tk,rfl,S4,k4⟩:=g;repeat (any_goals (first|assumption|wp_step))
      exact M _ _ S4 k4
     |_=>exact g.elim
  |_=>exact p.elim
end
section
variable {X:Cx}
def YF(ss:List aX):Nat:=(B8 (λi=>ss.getD i ⟨#[]⟩) ss.length).length
def YG(P:bc)(w:bI)(a:aw)(n:Nat):HO:=.ext λh=>∃S,h.SetOf (PySem.strKind P w) a S n
def YH(x:h.SetOf (PySem.strKind P w) a S n):kx P w H h a (YG P w a n):=by obtain⟨o,es,g,t,f,more⟩:=x;refine⟨⟨S,o,es,g,t,f,more⟩,⟨o,f⟩,λq r ⟨i,o1,b,c,j,e1,m⟩ k=>⟨i,o1,b,c,j,k _ e1,m⟩⟩
def R6(c:X.A.handled=ar):ny X (.type gc) (λxs H Q=>∃p ss,xs=[.ref p]/\nI X.K H p (ss.map V.str)/\ss.length<1000/\∀l,H l=ar->Q (.ref l) (upd H l (YG X.prog X.w l (YF ss)))):=by
 intro cc s σ H xs us Q I r h;obtain⟨p,ss,rfl,f,j,q⟩:=h;obtain⟨u,rfl,g⟩:=vals1 r;cases g;obtain⟨iM,a,pl,_⟩:=I.list f;have i:=AJ a;have b:=a.length;rw[ao] at b;refine R5 c pl.isList (by simpa using i) (by rw[aR];unfold aig;omega) λm tk S k=>?_;have e3:iM.toArray.size=ss.length:=by rw[aR,b]
 rw[e3] at S;exact⟨.ref _,_,I.laid k (aD _) (YH S),rfl,q _ (I.ja.fresh (aD _))⟩
def R7:ny X (.builtin oo) (λxs H Q=>∃p n,xs=[.ref p]/\H p=aa (YG X.prog X.w p n)/\Q (.int n) H):=by
 intro cc s σ H xs us Q I r h;obtain⟨p,n,rfl,a,q⟩:=h;obtain⟨u,rfl,b⟩:=vals1 r;cases b;obtain⟨⟨S,o,es,g,t,c,hex,hd,i,hm,hb,f,hn⟩,_⟩:=(I.ja p _ a);subst hn;refine call_len_set c hex hd f ?_ ⟨.int es.size,H,I.tok _,⟨_,rfl⟩,q⟩;unfold aig at hb;have:(es.size:Int)<4096:=by omega
 exact Int.lt_of_lt_of_le this (by decide)
end
end L2
namespace L3
open L2
section
variable {X:Cx}
def Qe (te:DE):DE:=λa M Q=>te a M λd M1=>∃ss:List aX,vw M1 d=.lst (ss.map .str)/\ss.length<1000/\Q (.int (YF ss)) M1
def Vf(j:X.A.handled=ar)(ml:X.mg oo=ar)(ms:X.mg gc=ar)(b:JE X e te)(m:Gl X oo:=by rfl)(gs:Gl X gc:=by rfl)
(h:bg [.Call (.Name gc p2) [e] [] yh] X.env=[(au,eval (.Call (.Name gc p2) [e] [] yh) X.env)]:=by rfl)(i:bg [e] X.env=[(au,eval e X.env)]:=by rfl):
  JE X (.Call (.Name oo p) [.Call (.Name gc p2) [e] [] yh] [] pos) (Qe te):=by
 have s1:PE X (.Call (.Name gc p2) [e] [] yh) _:=Av (R6 j) gs ms (by rfl) (Cp b.p Hn i) (hn:=by decide) (vC:=by decide) (he:=i) (w8:=rfl);have s2:=C2 (p:=p) (pos:=pos) (R7 (X:=X)) m ml (by rfl) (Cp s1 Hn h) (hn:=by decide) (vC:=by decide) (he:=h) (w8:=rfl);refine⟨λc M P Q w q=>b.mono c _ _ _ (λd M1 q=>?_) q,PE.weak s2 λσ H Q q=>?_⟩
 .obtain⟨ss,f,g,q⟩:=q;exact⟨ss,f,g,w _ _ q⟩
 .obtain⟨F,α,c,M,r,q⟩:=q;refine⟨F,α,c,M,r,b.mono c _ _ _ (λd M1 q v s H1 e1 o1 u=>?_) q⟩;obtain⟨ss,f,g,q⟩:=q;obtain⟨a,C,rfl,y,z⟩:=jN o1 u f;have e2:=AK z;subst e2;refine⟨a,ss,rfl,nI.of y,g,λl B=>⟨l,_,rfl,iE,?_⟩⟩;obtain⟨o2,e2⟩:=o1.laid (x:=YG X.prog X.w l (YF ss)) B;exact q _ s _ (e1.trans e2) o2 jB
end
end L3
namespace L2
section
variable {κ:Type} [DecidableEq κ] {knd:PySem.KeyKind prog w κ} {s:av} {d:aw} {iB:List (κ×ai)} {k:κ}
def KA(g:knd.is k key=ag)(hm:s.heap.DictOf knd d iB)(y:iB.length<=aO)(yes:∀u,dS iB k=aa u->Q u {s with toks:=s.toks+1})
(no:dS iB k=ar->∀j,j.DictOf knd d (iB++[(k,v)])->bP d s.heap j->Q v {s with heap:=j,toks:=s.toks+1}):wpAny (model prog w) A (aiP d key v) Q E s:=by
 have mp:=hm.mapOf;obtain⟨o,es,B,c,hc,hd,q,m,hn⟩:=hm;have sz:es.size<=aO:=by have e1:=m.length;rw[b8] at e1;omega
 have f:ajh knd.is es k=dS iB k:=by obtain⟨o2,C,G,r,_,x,_,H⟩:=mp;rw[c] at r;cases r;rw[hd] at x;cases x;exact H k
 unfold aiP;try with_reducible refine bS ?_
 refine ae (knd.pyHash g ?_);refine ae (ajw g c hd q ?_);have I:(es.findIdx? λe=>knd.is k e.key)=iB.findIdx? λJ=>decide (J.1=k):=by rw[<-m.findIdx k];obtain⟨l⟩:=es;simp
 cases hi:es.findIdx? λe=>knd.is k e.key with
 |some i=>
  have h:dS iB k=(es[i]?).map (·.val):=by rw[<-f,aio,hi]
  refine ae (eV c hd ?_);cases n:es[i]? with
  |none=>
   have lt:=(Array.findIdx?_eq_some_iff_findIdx_eq.mp hi).1;rw[dq lt] at n;cases n
  |some e=>
   rw[n] at h;exact ae (ahx (ay (yes e.val h)))
 |none=>
  have h:dS iB k=ar:=by rw[<-f,aio,hi]
  have p:=not_mem_of_findIdx_none (I▸hi);refine ae (ahx (ae (wpAny_updateDictKeys (hz:=sz) c hd (ay (no h _ ⟨_,_,B+1,cY _ c (cC.isFreed_of_dict (cC.data_mapDictKeys hd _)),hc.mapDictKeys _,cC.data_mapDictKeys hd _,q.push g _,?_,?_⟩ (cJ ..))))))
  .have z:=m.append g (knd.hash k) v;simpa using z
  .rw[ba,dB];refine⟨hn,by simp,λa ha b hb=>?_⟩;simp only [bq,gA,bj] at hb;subst hb;exactλz=>p (z▸ha)
def HY(c:knd.is k key=ag)(lo:(d==cb)=au):
  MeetsIn prog w (bM.«dict.setdefault» ⟨[.ref d,key,v],[]⟩) (λ_ R s=>∃iB,s.heap.DictOf knd d iB/\iB.length<=aO/\(∀u,dS iB k=aa u->R (.ok (.ret u)) {s with toks:=s.toks+1})/\
   (dS iB k=ar->∀a,a.DictOf knd d (iB++[(k,v)])->bP d s.heap a->R (.ok (.ret v)) {s with heap:=a,toks:=s.toks+1})):=
 .of_wp λA R s ⟨iB,hm,e,f,g⟩=>by refine ae ?_;refine ae (ai8 hm.mapOf.typeIs ?_);refine ay ?_;show wpAny _ _ (if(d==cb)=ag then _ else(aiP d key v >>= _)) _ _ s;rw[if_neg (by rw[lo];exact aS)];exact ae (KA c hm e (λu h=>ay ⟨u,rfl,f u h⟩) λhn a b sb=>ay ⟨v,rfl,g hn a b sb⟩)
end
theorem Qf(r:RelV v u):∀{b:List _} {c:List _},KV b c->KV (b++[(k,v)]) (c++[(k,u)])
 |_,_,.nil=>.cons ⟨rfl,r⟩ .nil
 |_,_,.cons a t=>.cons a (Qf r t)
def R8:MtR X "dict.setdefault" (λx xs H Q=>∃a b k v,x=.ref a/\xs=[kV k,v]/\H a=aa (.dK b)/\(∀u,sI b k=aa u->Q u H)/\(sI b k=ar->b.length<aO/\Q v (upd H a (.dK (b++[(k,v)]))))):=by
 intro cc s σ H x xs v us Q I n rs h;obtain⟨a,b,k,z,rfl,rfl,f,yes,no⟩:=h;cases n;obtain⟨C,E,rfl,o,i⟩:=vals2 rs;obtain⟨p,lo,j,rel,dd⟩:=aat I.ja f;have r:j.length<=aO:=by rw[<-rel.length];exact p
 refine gS PySem.F.slot_dict_setdefault dd.typeIs PySem.F.entry_dict_setdefault (PySem.F.args_dict_setdefault_3 _ _ _) (HY (zh o) lo) ⟨j,dd,r,λu w=>?_,λhn A m sb=>?_⟩
 .have c:=rel.val k;rw[w] at c;cases e:sI b k with
  |none=>rw[e] at c;cases c
  |some y=>
   rw[e] at c;exact⟨y,H,I.tok _,c,yes y e⟩
 .have e:sI b k=ar:=by
   have c:=rel.val k;rw[hn] at c;cases e:sI b k with
   |none=>rfl
   |some y=>rw[e] at c;cases c
  obtain⟨G,q⟩:=no e;have B:∃q,A.get? a=aa q:=let⟨q,_,_,f,_⟩:=m;⟨q,f⟩;have g:KV (b++[(k,z)]) _:=Qf i rel;exact⟨z,_,Ho I (by rw[f];exact dG) sb B (M8 (by simp;omega) lo g m),i,q⟩
end L2
namespace L3
open L2
def KC:GM:=λd ds M Q=>match d,ds with
 |.loc j,[k,v]=>∃a es b,M[j]?=aa (aa (.kE a es))/\Kg k=aa b/\(∀x,nK b a es=aa x->Q x M)/\(nK b a es=ar->a.length<aO/\Q v (M.set j (aa (.kE (a++[b]) (es++[v])))))
 |_,_=>False
def R9:JM X "dict.setdefault" KC:=by
 refine⟨λd ds M P Q w q=>?_,λcc s σ H x xs v us Q I N rs h=>?_⟩
 .match d,ds,q with
  |.loc j,[k,v],⟨b,es,c,m,o,p,n⟩=>exact⟨b,es,c,m,o,λx e=>w _ _ (p x e),λe=>⟨(n e).1,w _ _ (n e).2⟩⟩
 .obtain⟨F,α,M,d,ds,ok,r,A,h⟩:=h;match d,ds,h,r,A with
  |.loc j,[k,y],⟨b,es,c,m,o,p,n⟩,r,A=>
   obtain⟨a,C,rfl⟩:=r;obtain⟨a',E,f,O,G,rd⟩:=ok.own j _ m;rw[C] at E;cases E;obtain⟨u1,g,rfl,T,J⟩:=xF A;have e1:=qP T o;subst e1;have hv:=hZ.length _ _ rd;obtain⟨L,U⟩:=pR b es f rd G;refine R8 cc s σ H _ _ v us Q I N rs ⟨a,b.zip f,c,g,rfl,rfl,O,λu B=>?_,λhn=>?_⟩
   .cases e:nK c b es with
    |none=>rw[U e] at B;cases B
    |some x=>
     obtain⟨Y,i,ru⟩:=L x e;rw[B] at i;cases i;exact vK.now ok (p x e) ru
   .have e:nK c b es=ar:=by
     cases e:nK c b es with
     |none=>rfl
     |some x=>obtain⟨Y,i,_⟩:=L x e;rw[hn] at i;cases i
    obtain⟨n1,q⟩:=n e;refine⟨by rw[cK];omega,?_⟩;have ez:b.zip f++[(c,g)]=(b++[c]).zip (f++[g]):=by rw[List.zip_append (by omega)];rfl
    obtain⟨o2,e2⟩:=ok.write (y:=.kE _ _) (z:=.dK (b.zip f++[(c,g)])) m C (λHh eh=>by subst eh;exact⟨f++[g],by rw[iE,ez],by simp[G],hZ.append _ _ _ _ rd (hZ.one J)⟩)
    exact q _ α _ e2 o2 (e2.rep J)
end L3
namespace L2
section
variable {A:bH} {s:av}
def HZ:ail (.type cr) "keys"=pure ar:=am_miss_of_fast (by kernel_rfl)
def YJ{a:aw}{o:cC}{xs:Array ai}{k:Nat}{Q:Option ai->av->Prop}(j:s.heap.get? a=aa o)(hc:o.cls=.type cr)(h:o.data=.seq xs k)(hd:o.dict=ar)(n:A.handled=ar)
(p:∀(i:aC) (tk:Nat),(∀b o,s.heap.get? b=aa o->i.get? b=aa o)->Q ar {s with heap:=i,toks:=tk}):wpAny (model prog w) A (ajd (.ref a) "keys") Q E s:=by
 obtain⟨c,kE,q,sl⟩:=o;simp only at hc h hd;subst hc h hd;obtain⟨r,g,d,tk,os⟩:=s;have ty:∀f,(⟨r,g,d,f,os⟩:av).TypeIs (.ref a) cr:=λ_=>⟨_,j,rfl⟩;have u:=sub_AttributeError;have v:=PySem.F.slot_list_getattribute.lookup;have x:=PySem.F.slot_list_getattribute.bind (.ref a);have y:=am_list_getattr_none;unfold ajd getAttrBy? getAttrBy;repeat (any_goals (first|assumption|exact ty _|((with_reducible show wpAny _ _ (call (ai.builtin "list.__getattribute__") _ _) _ _ _);refine gv PySem.F.slot_list_getattribute (ty _) am_entry_list_getattribute (PySem.F.args_list_getattribute_2 _ _) (meets_getattribute_miss_list a xs k sl "keys" _ HZ (by decide) (by rw[bp];decide)) ⟨j,n,λi f e m=>?_⟩)|wp_step))
 obtain⟨z,B,C⟩:=m.there;show wpAny _ _ (ajk _ _ _ _ _ _ _) _ _ _;unfold ajk;repeat (any_goals (first|assumption|wp_step))
 exact p i f m.keeps
end
def vU:entryFor table uaD=aa bM.«dict.update.loop»:=entryFor_of_tree (by kernel_rfl)
def vV:plainId uaD=ag:=by decide+kernel
section
variable {κ:Type} [DecidableEq κ] {knd:PySem.KeyKind prog w κ} {A:bH} {s:av}
def NA{k:κ}(h:k∉a.map (·.1)):stored a k v=a++[(k,v)]:=by
 unfold stored;rw[if_neg];rw[List.any_eq_true]
 rintro⟨b,c,e⟩
 exact h (bQ.mpr ⟨b,c,of_decide_eq_true e⟩)
def Ia (h:aC)(v:ai)(key val:ai):Prop:=∃a,v=.ref a/\aih h a #[key,val]
def pair_items(b:Ia s.heap v key val)(q:Q [key,val] s):wpAny (model prog w) A (bM.Dict.pairItems v) Q E s:=by obtain⟨a,rfl,o,e,hc,n,hd⟩:=b;obtain⟨c,dc,f,sl⟩:=o;subst hc hd;obtain⟨b,g,d,tk,os⟩:=s;have ty:(⟨b,g,d,tk,os⟩:av).TypeIs (.ref a) fi:=⟨_,e,rfl⟩;refine ae (ait ty ?_);refine ae (ae (wpAny_load e (ay (ay ?_))));exact q
def Vg{R:ai0->av->Prop}{It:aw}{M m:List aw}{P:Nat->ai->Prop}{St:Nat->av->Prop}{c:List (κ×ai)}{keys:List ai}(W:WalksS prog w A.in1 It M m G c.length P St)(d:aw)(N:d∉M)(lo:(d==cb)=au)
(nd:(c.map (·.1)).Nodup)(hz:c.length<=aO)(n:aC)(U:∀i v,P i v->∃k key u,c[i]?=aa (k,u)/\knd.is k key=ag/\Ia n v key u)(r:n.get? d=ar)(x:∀b∈m,n.get? b=ar):
  ∀(k i:Nat) (s:av),c.length- i=k->i<=c.length->St i s->(∀b o,n.get? b=aa o->s.heap.get? b=aa o)->s.heap.DictOf knd d (c.take i)->
   (∀y,ajS (d::m) G s y->y.heap.DictOf knd d c->R (.ok (.ret .none)) y)->codeAny (model prog w) A (.builtin uaD ⟨[.ref d,.ref It,aeB i,.none],[]⟩) R s:=by
 have g:d∉m:=λz=>N (W.sub _ z);intro k;induction k with
 |zero=>
  intro i s Y hi B h p C;obtain rfl:i=c.length:=by omega
  refine gQ vU ?_;refine ae (W.done s _ _ B λs1 f=>?_);rw[List.take_length] at p;refine ae (ay (ay (C s1 (f.mono λb z=>aB _ z) (p.at λo e=>f.heap d _ g e))))
 |succ k ih=>
  intro i s Y hi B h p C;have lt:i<c.length:=by omega
  refine gQ vU ?_;refine ae (W.item i s _ _ lt B λv s1 hv H f=>?_);obtain⟨kk,key,u,e1,e2,a,rfl,o,ho,ht⟩:=U i v hv;have O:=λb o e=>f.heap b o (λz=>by rw[x b z] at e;cases e) (h b o e);refine ae (bS ?_);refine ae (wpAny_tryCatch (pair_items ⟨a,rfl,o,O _ _ ho,ht⟩ ?_));have D1:s1.heap.DictOf knd d (c.take i):=p.at λo e=>f.heap d _ g e;refine bS (wpAny_dictSet_pairs (hsz:=by rw[dM];omega) e2 D1 λQ T sb=>?_);have I:kk∉(c.take i).map (·.1):=by
   intro z;obtain⟨⟨k',u'⟩,hm,rfl⟩:=bQ.mp z;obtain⟨j,q⟩:=cO.mp hm;rw[List.getElem?_take] at q;split at q
   .rename_i ji;have g1:(c.map (·.1))[j]?=aa k':=by rw[bh,q];rfl
    have g2:(c.map (·.1))[i]?=aa k':=by rw[bh,e1];rfl
    have:=(fF (by rw[ao];omega) nd).mp (g1.trans g2.symm);omega
   .cases q
  rw[NA I] at T;have D3:Q.DictOf knd d (c.take (i+1)):=by rw[List.take_add_one,e1];exact T
  refine ay ⟨aik vV _,ih (i+1) _ (by omega) lt (W.frame _ s1 _ _ H (cx _) λb J o e=>?_) (λb o e=>?_) D3 λs4 L D4=>?_⟩
  .rw[sb.2 b λz=>N (z▸J)];exact e
  .show Q.get? b=aa o;rw[sb.2 b λz=>by rw[z,r] at e;cases e];exact O b o e
  .refine C s4 (ajS.trans W.gtrans ((f.mono λb z=>aB _ z).then_heap (cx _) λb o J e=>?_) L) D4;rw[sb.2 b λz=>J (z▸aN)];exact e
def NB(y:A.handled=ar)(j:PlainL s.heap l items)(I:items.size=f.length)(nd:(f.map (·.1)).Nodup)(J:f.length<=aO)(big:cb<s.heap.objs.size)
(L:∀(i:Nat) (v:ai),items[i]?=aa v->∃k key u,f[i]?=aa (k,u)/\knd.is k key=ag/\Ia s.heap v key u)
(M:∀(m:aC) (tk:Nat),m.DictOf knd s.heap.objs.size f->(∀b o,s.heap.get? b=aa o->m.get? b=aa o)->Q (.ref s.heap.objs.size) {s with heap:=m,toks:=tk}):
  wpAny (model prog w) A (call (.type fw) [.ref l]) Q E s:=by
 refine ajT (Q₁:=λv s1=>v=.ref s.heap.objs.size/\s1={s with heap:=s.heap.push {cls:=.type fw,data:=.dict #[]}}) PySem.F.kt_called_dict (PySem.F.kt_typeCall_dict_1 _) PySem.F.entry_dict_init (kt_code_dict_new _ ⟨rfl,rfl⟩) ?_
 rintro v s1 ⟨rfl,rfl⟩
 have p:(s.heap.push {cls:=.type fw,data:=.dict #[]}).DictOf knd s.heap.objs.size []:=aC.DictOf.new s.heap;refine⟨p.typeIs,PySem.F.args_dict_init_2 _ _,?_⟩;unfold bM.«dict.__init__»;refine ae ?_;unfold bM.Dict.selfAndRest;refine ae (ai8 p.typeIs ?_);refine ay ?_;show wpAny _ _ (bM.Dict.updateFrom "dict.__init__" s.heap.objs.size (.ref l) [] .none) _ _ _;unfold bM.Dict.updateFrom;obtain⟨lt,C⟩:l<s.heap.objs.size/\(s.heap.push {cls:=.type fw,data:=.dict #[]}).IsList l items:=⟨aM j.isList.choose_spec.1,j.isList.push _⟩;refine ae (ait C.typeIs ?_);rw[if_pos (by decide)];obtain⟨o,n,G,hc,hd,q⟩:∃o n,s.heap.get? l=aa o/\o.cls=.type cr/\o.data=.seq items n/\o.dict=ar:=let⟨o,n,a1,a2,a3,a4⟩:=j;⟨o,n,a1,a2,a4,a3⟩;refine ae (YJ (aj _ G) hc hd q y λc N g=>?_);rw[if_pos (by rfl)];refine ae (ahx ?_);have H:c.IsList l items:=C.at λo e=>g _ _ e;refine ae (dL H ?_);refine ay ⟨aik vV _,?_⟩;have k0:∀b o,s.heap.get? b=aa o->c.get? b=aa o:=λb o e=>g b o (aj _ e);have r:l<c.objs.size:=aM (k0 _ _ G);have x:=g _ _ (aP _ rfl);have a:s.heap.objs.size<c.objs.size:=aM x;have W:=(aiq.list (prog:=prog) (w:=w) (A:=A.in1.in1) (by simp[y]) c.objs.size l (bd r) items).toS;rw[I] at W;have O:(c.push {cls:=.type "list_iterator",data:=.fields #[.ref l,.int 0 0]}).DictOf knd s.heap.objs.size []:=(p.at λo e=>g _ _ e).push _;refine Vg (keys:=[]) W s.heap.objs.size (by simp only [aH,bV,or_false,not_or];exact⟨bd a,dh lt⟩) (beq_eq_false_iff_ne.mpr (dh big)) nd J s.heap L (cG (aD _))
  (λb hb=>by rw[bj.mp hb];exact cG (dF a)) (f.length- 0) 0 _ (by omega) (bD _) ?st ?kp ?dd ?fn
 case st=>exact⟨⟨_,aP _ rfl,rfl,rfl⟩,H.push _⟩
 case kp=>exactλb o e=>aj _ (k0 b o e)
 case dd=>rw[List.take_zero];exact O
 intro T h U;obtain⟨Y,g4,d4,t4,o4⟩:=T;have eg:g4=s.gens:=h.gens;have ed:d4=s.drawn:=h.drawn;have eo:o4=s.os:=h.os;subst eg ed eo;refine⟨rfl,M Y t4 U λb o e=>h.heap b o ?_ (aj _ (k0 b o e))⟩;have z:=aM e;simp only [aH,bV,or_false,not_or];exact⟨bd z,bd (gD z a)⟩
end
section
variable {X:Cx}
def Ib (K:bz)(H:Hp):List V->List (Key×V)->Prop
 |[],[]=>True
 |y::b,(k,u)::r=>(∃a,y=.ref a/\xQ K H a [kV k,u])/\Ib K H b r
 |_,_=>False
theorem BF(I:Inv X cc σ H s):∀{f:List V} {g:List _} {iM:List ai},Ib X.K H f g->Vals f iM->
  ∃c:List _,KV g c/\iM.length=c.length/\∀(i:Nat) (v:ai),iM[i]?=aa v->∃k key u,c[i]?=aa (k,u)/\(i7 X.prog X.w).is k key=ag/\Ia s.heap v key u
 |[],[],iM,_,r=>by cases r;exact⟨[],.nil,rfl,λi v h=>by simp at h⟩
 |[],_::_,_,h,_=>h.elim
 |_::_,[],_,h,_=>h.elim
 |y::f,(k,u)::g,iM,⟨⟨a,e,m⟩,h⟩,r=>by
  subst e;cases r with
  |@cons _ b _ bs n o=>
   cases n;obtain⟨c,p,q,x⟩:=BF I h o;obtain⟨z,A,B,_⟩:=I.tuple m;obtain⟨key,val,rfl,C,E⟩:=vals2 A;refine⟨(k,val)::c,.cons ⟨rfl,E⟩ p,by simp[q],λi v j=>?_⟩;cases i with
   |zero=>simp at j;subst j;exact⟨k,key,val,rfl,zh C,a,rfl,B⟩
   |succ i=>exact x i v (by simpa using j)
theorem Qg:∀{b:List (Key×V)} {c:List _},KV b c->c.map (·.1)=b.map (·.1)
 |_,_,.nil=>rfl
 |_,_,.cons a t=>by rw[bq,bq,a.1,Qg t]
def NC(f:X.A.handled=ar):ny X (.type fw) (λxs H Q=>∃p b a,xs=[.ref p]/\nI X.K H p b/\Ib X.K H b a/\(a.map (·.1)).Nodup/\∀l,H l=ar->Q (.ref l) (upd H l (.dK a))):=by intro cc s σ H xs us Q I r h;obtain⟨p,b,a,rfl,g,j,nd,q⟩:=h;obtain⟨u,rfl,m⟩:=vals1 r;cases m;obtain⟨iM,e,pl,x⟩:=I.list g;have y:=e.length;obtain⟨z,c,n,o⟩:=BF I j e;have B:=c.length;refine NB f pl (by rw[aR,n]) (by rw[Qg c];exact nd) (by omega) I.big (λi v w=>o i v (by simpa using w)) λC tk D k=>?_;exact⟨.ref _,_,I.laid k (aD _) (M8 (by omega) (beq_eq_false_iff_ne.mpr (b9 (bd I.big))) c D),rfl,q _ (I.ja.fresh (aD _))⟩
end
end L2
namespace L3
open L2
section
variable {X:Cx}
def kD:Key->D
 |.inl i=>.int i
 |.inr x=>.str x
def prD(kd:Key×D):D:=.tup [kD kd.1,kd.2]
def ND:GF:=λds M Q=>match ds with
 |[d]=>∃oJ:List (Key×D),vw M d=.lst (oJ.map prD)/\(oJ.map (·.1)).Nodup/\Q (.kE (oJ.map (·.1)) (oJ.map (·.2))) M
 |_=>False
def acj{K:bz}(h:Rep K α H (kD k) v):v=kV k:=by cases k<;>(exact h)
theorem DM{K:bz}(e:kC H c):∀{oJ:List _} {b:List V},hZ K α H (oJ.map prD) b->∃us:List V,Ib K c b ((oJ.map (·.1)).zip us)/\hZ K α H (oJ.map (·.2)) us
 |[],b,h=>by subst h;exact⟨[],trivial,hZ.nil⟩
 | (k,d)::oJ,b,h=>by obtain⟨v,r,rfl,z,y⟩:=h;obtain⟨a,ws,rfl,f,g⟩:=z;obtain⟨p,i,rfl,j,m⟩:=xF g;cases acj j;obtain⟨us,n,o⟩:=DM e y;exact⟨i::us,⟨⟨a,rfl,nA e f⟩,n⟩,hZ.cons m o⟩
def KD(g:X.A.handled=ar):JBF X (.type fw) ND:=by
 refine⟨λds M P Q w q=>?_,λcc s σ H xs us Q I rs h=>?_⟩
 .match ds,q with
  |[d],⟨oJ,b,c,q⟩=>exact⟨oJ,b,c,w _ _ q⟩
 .obtain⟨F,α,M,ds,o,e,h⟩:=h;match ds,h,e with
  |[d],⟨oJ,b,c,q⟩,e=>
   obtain⟨v,i,j⟩:=nS e;subst i;obtain⟨a,m,rfl,n,r⟩:=jN o j b;obtain⟨ws,u,f⟩:=DM iJ r;have x:=hZ.length _ _ f;rw[ao] at x;exact NC g cc s σ H _ us Q I rs ⟨a,m,_,rfl,nI.of n,u,by rw[List.map_fst_zip (by simp;omega)];exact c,λp y=>q p _ α H Ext.refl o y ⟨ws,rfl,by simp,f⟩⟩
end
end L3
namespace L2
section
variable {fs:List aw}
structure Cq(P:bc)(w:bI)(fs:List aw)(H:Hp)(s s':av):Prop where
 os:s'.os=s.os
 bare:fS s'.gens
 ja:tZ P w H s'.heap
 un:Un fs [] H H s.heap s'.heap
theorem Cq.refl(b:fS s.gens)(h:tZ P w H s.heap):Cq P w fs H s s:=⟨rfl,b,h,Un.refl⟩
theorem Cq.trans(a:Cq P w fs H s s1)(b:Cq P w fs H s1 s2):Cq P w fs H s s2:=⟨b.os.trans a.os,b.bare,b.ja,a.un.trans b.un⟩
theorem Cq.kept(c:Cq P w fs H s s1)(k:∀b o,s1.heap.get? b=aa o->h'.get? b=aa o):Cq P w fs H s {s1 with heap:=h',toks:=tk}:=c.trans ⟨rfl,c.bare,c.ja.kept k,Un.kept k⟩
def Cq.other(c:Cq P w fs H s s1)(sb:bP a s1.heap i)(ha:H a=ar)(hn:s.heap.get? a=ar):Cq P w fs H s {s1 with heap:=i,toks:=tk}:=by
 have ne:∀{b:aw} {u:HO},H b=aa u->b≠a:=λe z=>by rw[z,ha] at e;cases e
 have g:∀{b:aw} {o:cC},s.heap.get? b=aa o->b≠a:=λe z=>by rw[z,hn] at e;cases e
 refine⟨c.os,c.bare,λb o e=>(c.ja b o e).vm (λh u hb q=>?_) (λ_ q=>q) (λ_ _ q=>q),⟨λb o e n hb f=>?_,λb o e n hb f=>?_,c.un.free,λb o e f=>?_,c.un.ua,c.un.rR,c.un.tz⟩⟩
 .have z:h≠a:=by
   rcases hb with rfl|hb
   .exact ne e
   .exact ne hb
  exact(sb.2 h z).trans q
 .exact(sb.2 b (g e)).trans (c.un.keep b o e n hb f)
 .obtain⟨sl,q⟩:=c.un.slot b o e n hb f;exact⟨sl,(sb.2 b (g e)).trans q⟩
 .obtain⟨j,q⟩:=c.un.there b o e f;exact⟨j,(sb.2 b (g e)).trans q⟩
def Cq.at(c:Cq P w fs H s s1)(e:s.heap.get? b=aa o)(n:H b=ar)(hb:b∉fs):s1.heap.get? b=aa o:=c.un.keep b o e n hb (by simp)
theorem GG:∀{a:List ai} {ss:List aX},cX a ss->cX (a++[.str x t]) (ss++[x])
 |_,_,.nil=>.cons x t .nil
 |_,_,.cons y u h=>.cons y u (GG h)
def Sa(b:cX keys.toList ss)(a:2<=keys.size):keyKind' keys=pure oneType':=by
 obtain⟨l⟩:=keys;match l,b,a with
 |[],_,a=>simp at a
 |[_],_,a=>simp at a
 |v1::c::r,b,_=>exact ai5 b
def Sb{keys:Array ai}{b:List ai}(c:cX keys.toList ss):KeysOf g9 (keys.zip b.toArray):=by intro p a;rw[ksk_zip] at a;obtain⟨x,t,e⟩:=c.all _ (gj a).1;exact⟨x.cps.toList,by rw[e]⟩
def KG (ss:List aX)(b out:List ai):Prop:=∃a:List (aX×ai),a.Perm (ss.zip b)/\out=a.map dD/\a.Pairwise (λp q=>L3.Ap p.1 q.1=ag)
def aeE{keys:Array ai}(c:cX keys.toList ss)(o:xs.Perm (keys.zip b.toArray))(r:ahZ g9 xs xs.size):KG ss b (xs.map (·.2)).toList:=by
 have f:xs.toList.Perm (keys.toList.zip b):=by rw[<-ksk_zip];exact Array.perm_iff_toList_perm.mp o
 refine⟨xs.toList.map λp:Keyed=>(strOf p.1,p.2),?_,?_,?_⟩
 .have e:(keys.toList.zip b).map (λp:Keyed=>(strOf p.1,p.2))=ss.zip b:=by rw[<-c.strs,List.zip_map_left];exact eZ λ⟨x,y⟩ _=>rfl
  rw[<-e];exact f.map _
 .rw[Array.toList_map,bx];rfl
 .rw[eY];intro i j hi s v;have g:=by simpa using hi
  have a:=by simpa using s
  have q:=r i j (dF v) a;have mem:∀k (h:k<xs.size),∃x t,xs[k].1=ai.str x t:=λk h=>by have m:=f.mem_iff.mp (show xs[k]∈xs.toList by simp);exact c.all _ (gj m).1
  obtain⟨x,t,ex⟩:=mem i g;obtain⟨y,u,n⟩:=mem j a;rw[KK_str g (Prod.ext ex rfl),KK_str a (Prod.ext n rfl)] at q;simp only [List.getElem_map,Array.getElem_toList];rw[show strOf xs[i].1=x by rw[ex];rfl,show strOf xs[j].1=y by rw[n];rfl];change decide _=au at q;unfold L3.Ap;rw[q];rfl
section
variable {s0 s:av} {kS:aw} {vs:List ai} {ss:List aX} {keys:Array ai} {Pq:PySem.Fin->av->Prop}
def Qh{st:SortSt}(c:Cq P w fs H s0 s)(r:s.heap.get? kS=aa (ci cr keys e))(na:s.heap.get? a=aa (ci cr #[] e1))(f:kS≠a)(m:H kS=ar/\s0.heap.get? kS=ar)(n:H a=ar/\s0.heap.get? a=ar)
(o:cX keys.toList ss)(B:ss.length=vs.length)(C:vs.length<64)(p:(ahz st).Perm (keys.zip vs.toArray))(u:ahZ g9 (ahz st) (ahz st).size)(v:aiN st=ar)
(x:∀g tk out y,Cq P w fs H s0 {s with heap:=g,toks:=tk}->g.get? a=aa (ci cr out y)->KG ss vs out.toList->Pq (.done (.ret .none)) {s with heap:=g,toks:=tk}):
  wpAny (model P w) A (ksk_tail a au e1 (.ref kS) st) Pq E s:=by
 have q:keys.size=vs.length:=by have z:=o.length;rw[b8] at z;omega
 have h:(ahz st).size=vs.length:=by rw[p.size_eq,Array.size_zip,q,aR,Nat.min_self]
 have b1:=cJ s.heap kS (bY λ_=>(#[]:Array ai));have b:(s.heap.update kS (bY λ_=>(#[]:Array ai))).get? a=aa (ci cr #[] e1):=(b1.2 a f.symm).trans na;have b2:=cJ (s.heap.update kS (bY λ_=>(#[]:Array ai))) a (bY λ_=>(ahz st).map (·.2));obtain⟨i,j⟩:∃i,((s.heap.update kS (bY λ_=>(#[]:Array ai))).update a (bY λ_=>(ahz st).map (·.2))).get? a=aa (ci cr ((ahz st).map (·.2)) i):=⟨_,fE b λ_=>(ahz st).map (·.2)⟩;unfold ksk_tail;try dsimp only
 refine ae (dR r rfl ?_ (by rw[q,bp];omega) (bD _));refine ae (ah9 ?_);refine ae (gF b rfl ?_);refine ae (dR b rfl ?_ (bD _) (bG (gC (show(Array.map (·.2) (ahz st)).size=vs.length by rw[Array.size_map];exact h)) (by rw[bp];omega)));rw[v];simp only [bne_self_eq_false,dX,if_false];refine ay (x _ _ _ i ((c.other (tk:=s.toks) b1 m.1 m.2).other (tk:=s.toks) b2 n.1 n.2) j (aeE o p u))
def ack(c:Cq P w fs H s0 s)(p:s.heap.get? kS=aa (ci cr keys e))(na:s.heap.get? a=aa (ci cr #[] e1))(f:kS≠a)(q:H kS=ar/\s0.heap.get? kS=ar)(r:H a=ar/\s0.heap.get? a=ar)
(g:cX keys.toList ss)(u:ss.length=vs.length)(m:vs.length<64)
(v:∀n tk out y,Cq P w fs H s0 {s with heap:=n,toks:=tk}->n.get? a=aa (ci cr out y)->KG ss vs out.toList->Pq (.done (.ret .none)) {s with heap:=n,toks:=tk}):
  wpAny (model P w) A (ksk_end a au vs.toArray e1 (.ref kS) keys) Pq E s:=by
 have B:keys.size=vs.length:=by have z:=g.length;rw[b8] at z;omega
 have o:(keys.zip vs.toArray).size=vs.length:=by rw[Array.size_zip,B,aR,Nat.min_self]
 unfold ksk_end;try dsimp only
 by_cases b:vs.toArray.size<2
 .rw[if_pos b,if_pos b];refine ae (ay ?_);refine Qh c p na f q r g u m (Array.Perm.refl _) ?_ rfl v;intro i j O C;have G:j<(keys.zip _).size:=C;rw[aR] at b;obtain rfl:i=j:=by omega
  exact KeyOrd.kle_refl _
 .rw[if_neg b,if_neg b];rw[aR] at b;rw[Sa g (by omega)];refine ae (ay ?_);refine ae (cn (wpS_sortRunsK aiS
   (Q:=λ_ h=>(ahz h).Perm _/\aiN h=ar/\ahZ _ (ahz h) _)
   (Sb g) ⟨Array.Perm.refl _,rfl,rfl,rfl⟩ (by omega) (by rw[o];exact m) λh I J L=>⟨I,J,L⟩) ?_ λ_ _ z=>z)
  rintro⟨⟨⟩,h⟩ T ⟨rfl,x,M,N⟩
  exact Qh c p na f q r g u m x (by rw[x.size_eq];exact N) M v
end
end
section
variable {A:bH} {fs:List aw} {s0 s:av} {kS:aw} {vs:List ai} {ss:List aX} {Pq:PySem.Fin->av->Prop}
def YK(c:Cq P w fs H s0 s)(J:s.heap.get? kS=aa (ci cr #[] 0))(na:s.heap.get? a=aa (ci cr #[] e1))(o:kS≠a)(r:H kS=ar/\s0.heap.get? kS=ar)(G:H a=ar/\s0.heap.get? a=ar)(L:kS∉fs)(M:a∉fs)
(N:ss.length=vs.length)(O:vs.length<64)
(turn:∀(i:Nat) (v:ai) (k:aX) (s1:av),vs[i]?=aa v->ss[i]?=aa k->Cq P w fs H s0 s1->wpAny (model P w) A (call f [v]) (λu s2=>(∃t,u=.str k t)/\Cq P w fs H s1 s2) (λ_ _=>False) s1)
(Q:∀b out m,Cq P w fs H s0 b->b.heap.get? a=aa (ci cr out m)->KG ss vs out.toList->Pq (.done (.ret .none)) b):
  wpAny (model P w) A (ksk_rest a f au vs.toArray e1 (.ref kS)) Pq E s:=by
 refine ae (ahx ?_);rw[<-Array.forIn_toList];refine ae (ksk_fold (λi b=>∃kA e,Cq P w fs H s0 b/\b.heap.get? kS=aa (ci cr kA e)/\b.heap.get? a=aa _/\cX kA.toList (ss.take i)) vs 0 s ⟨#[],0,c,J,na,by simpa using cX.nil⟩ ?step ?done);case step=>
  rintro j x b I ⟨kA,e,m,g,h,n⟩
  simp only [bR] at n |-;have hj:=(ak.mp I).1;obtain⟨k,p⟩:∃k,ss[j]?=aa k:=⟨_,ax (by omega)⟩;have hz:=by have z:=n.length;rw[b8,dM] at z;omega
  refine ae (ahP (cn (turn j x k b I p m) (λv s2 T=>?_) λ_ _ z=>z.elim));obtain⟨⟨t,rfl⟩,y⟩:=T;have q:=y.at g r.1 L;have B:=y.at h G.1 M;have b1:=cJ s2.heap kS (bY (·.push (.str k t)));obtain⟨e2,C⟩:∃e2,(s2.heap.update kS (bY _)).get? kS=aa _:=⟨_,fE q (·.push _)⟩;have U:ss.take (j+1)=ss.take j++[k]:=by rw[List.take_add_one,p];rfl
  refine ae (dR q rfl ?_ (by rw[bp];omega) (bG (gC (Array.size_push ..)) (by rw[bp];omega)));refine ay ⟨rfl,kA.push _,e2,(m.trans y).other b1 r.1 r.2,C,(b1.2 a o.symm).trans B,?_⟩;rw[U,Array.toList_push];exact GG n
 case done=>
  rintro b ⟨kA,e,m,g,h,n⟩
  rw[fH (by omega)] at n;refine ae (aix g rfl ?_);exact ack m g h o r G n N O λh' tk out Y q1 q2 q3=>Q _ out Y q1 q2 q3
def YL(c:Cq P w fs H s0 s)(h:s.heap.get? a=aa (ci cr vs.toArray n))(j:H a=ar/\s0.heap.get? a=ar)(r:a∉fs)(x:∀b∈fs,b<s0.heap.objs.size)(m:s0.heap.objs.size<=a)(y:ss.length=vs.length)(B:vs.length<64)
(turn:∀(i:Nat) (v:ai) (k:aX) (s1:av),vs[i]?=aa v->ss[i]?=aa k->Cq P w fs H s0 s1->wpAny (model P w) A (call f [v]) (λu s2=>(∃t,u=.str k t)/\Cq P w fs H s1 s2) (λ_ _=>False) s1)
(C:∀p out G,Cq P w fs H s0 p->p.heap.get? a=aa (ci cr out G)->KG ss vs out.toList->Pq (.done (.ret .none)) p):
  wpAny (model P w) A (ksk_tree a f au) Pq E s:=by
 have ha:=aM h;have b1:=cJ s.heap a (bY λ_=>(#[]));obtain⟨e1,g⟩:∃e1,(s.heap.update a _).get? a=aa (ci cr #[] e1):=⟨_,fE h λ_=>#[]⟩;have c1:Cq P w fs H s0 {s with heap:=s.heap.update a _,toks:=s.toks}:=c.other b1 j.1 j.2;have e:((s.heap.update a (bY λ_=>(#[]))).push (ci fi vs.toArray 0)).objs.size=s.heap.objs.size+1:=by rw[ahy,ahE]
 have I:Cq P w fs H s0 {s with heap:=((s.heap.update a _).push (ci fi vs.toArray 0)).push (ci cr #[] 0),toks:=s.toks}:=c1.kept λb o q=>aj _ (aj _ q);have lt:=Nat.lt_succ_of_le (bG m (dF ha));refine ae (aix h rfl ?_);refine ae (dR h rfl ?_ (by rw[aR,bp];omega) (bD _));refine ae (gF g rfl ?_);refine ae (aia ?_ (by show vs.length<=_;rw[bp];omega));refine ae (fD ?_ (bD _));refine bS ?_;refine YK
  I (aP _ rfl) (aj _ (aj _ g)) (by rw[e];exact dh (cW ha)) ⟨?_,?_⟩ j ?_ r y B turn C
 .rw[e];exact c1.ja.fresh (by rw[ahE];exact cx _)
 .rw[e];exact cG (dF lt)
 .rw[e];exactλz=>absurd (x _ z) (Nat.not_lt.mpr (dF lt))
def NE(r:fS s.gens)(j:tZ P w H s.heap)(n:∀b∈fs,b<s.heap.objs.size)(x:s.heap.IsList l vs.toArray)(y:ss.length=vs.length)(B:vs.length<64)
(turn:∀(i:Nat) (v:ai) (k:aX) (s1:av),vs[i]?=aa v->ss[i]?=aa k->Cq P w fs H s s1->wpAny (model P w) A.in1.in1 (call (.ref q) [v]) (λu s2=>(∃t,u=.str k t)/\Cq P w fs H s1 s2) (λ_ _=>False) s1)
(C:∀p c out g,Cq P w fs H s c->s.heap.objs.size<=p->c.heap.get? p=aa (ci cr out g)->KG ss vs out.toList->Q (.ref p) c):
  wpAny (model P w) A (call (.builtin jm) [.ref l] [(ahQ "key",.ref q)]) Q E s:=by
 refine call_function_entry_kw aiD aiv aiw (ksk_s1 _ _) ?_;unfold bM.«sorted»;refine ae (m:=checkCount jm 1 1 _) (ay ?_);refine ae (ai6 x ?_ (by rw[bp];omega));refine ae (fD ?_ (by rw[bp];omega));have h:((s.heap.push (ci cr #[] 0)).update s.heap.objs.size (bY (·++vs.toArray))).objs.size=s.heap.objs.size+1:=by rw[ahE,ahy]
 have e:(((s.heap.push (ci cr #[] 0)).update s.heap.objs.size (bY (·++vs.toArray))).push (ci cr vs.toArray 0)).get? (s.heap.objs.size+1)=aa (ci cr vs.toArray 0):=by rw[<-h];exact aP _ rfl
 have keep:∀b o,s.heap.get? b=aa o->(((s.heap.push (ci cr #[] 0)).update s.heap.objs.size (bY (·++vs.toArray))).push (ci cr vs.toArray 0)).get? b=aa o:=λb o z=>by have lt:b<s.heap.objs.size:=aM z;rw[gX _ _ _ (by rw[h];exact bd (cW lt)),gz _ _ _ _ (bd lt),gX _ _ _ (bd lt)];exact z
 rw[h];have c1:Cq P w fs H s {s with heap:=((s.heap.push (ci cr #[] 0)).update s.heap.objs.size (bY (·++vs.toArray))).push (ci cr vs.toArray 0),toks:=s.toks}:=(Cq.refl r j).kept keep;refine ae (bS (wpAny_call_entry_kw aib ⟨_,e,rfl⟩ ah7 ?body (ksk_l1 _ _)));case body=>
  rw[ksk_t1];refine YL c1 e ⟨j.fresh (cx _),cG (cx _)⟩ (λz=>absurd (n _ z) (Nat.not_lt.mpr (cx _))) n (cx _) y B turn λc out g G I J=>⟨_,rfl,?_⟩;exact ay ⟨_,rfl,C _ c out g G (cx _) I J⟩
end
open PySem.W
def Vi(x:h.CodeRec (.ref c) q):kx P w H h c (zm c q):=by
 refine⟨x,?_,λf i ⟨b,o,a,t,e,g,r⟩ k=>?_⟩
 .obtain⟨b,o,a,t,e,g,r⟩:=x;cases e;exact⟨o,g⟩
 .cases e;exact⟨c,o,a,t,rfl,k _ g,r⟩
def Sc(x:kx P w H h c (zm c q)):h.CodeRec (.ref c) q:=x.1
def Ic(e:x=.int i t)(m:y=.int j u)(l:List ai)(h:gw l):gw (l++[x,y,c]):=by
 subst e m
 fun_induction gw l with
 |case1=>simp[gw]
 |case2 a b d f g r n=>simpa[gw] using n h
 |case3=>exact h.elim
def NF(l:List ai)(h:gw l)(e:ahY pos (l++[.int i t,.int j u,c])=aa v):ahY pos l=aa v\/v=c:=by
 fun_induction gw l with
 |case1=>
  simp only [eA,ahY] at e;split at e
  .cases e;exact .inr rfl
  .cases e
 |case2 a b d f g r m=>
  simp only [eU,ahY] at e |-;split at e
  .rename_i hc;rw[if_pos hc];exact .inl e
  .rename_i hc;rw[if_neg hc];exact m h e
 |case3=>exact h.elim
structure YM(cq:aC)(mg:aX->Option ai)(cd:ai)(c P:aw):Prop where
 cd:cd=.ref c
 hd:CodeHd cq c P
 bl:cq.BuiltinsAt mg P
 gP:bf≠P
def GH{h a:aC}(x:h.BuiltinsAt mg P)(k:∀b o,h.get? b=aa o->a.get? b=aa o):a.BuiltinsAt mg P:=
 let⟨c,ob,b1,b2,b3,b4,b5,e⟩:=x;⟨c,ob,b1,b2,b3,b4,k _ _ b5,e⟩
section
variable {X:Cx} {s:av}
def YN(I:Inv X cc σ H s)(m:H P=aa (.y6 ps))(h:aC.ExtBut P s.heap i)(hc:s.heap.objs.size<=a)(rc:i.CodeRec (.ref a) q)(ht:i.get? P=aa (tabObj (ps++more))):
  Un X.fs [] H (upd (upd H a (zm a q)) P (.y6 (ps++more))) s.heap i/\tZ X.prog X.w (upd (upd H a (zm a q)) P (.y6 (ps++more))) i:=by
 have fc:=I.ja.fresh hc;have p:∀{b:aw},H b=ar->b≠P:=λe z=>by rw[z,m] at e;cases e
 have v:∀{b:aw} {o:cC},s.heap.get? b=aa o->b≠a:=λe=>bd (bw (aM e) hc);have nt:∀{b:aw} {o:HO},H b=aa o->(∀ps,o≠.y6 ps)->b≠P/\b≠a:=λ{b o} e n=>⟨λz=>by rw[z,m] at e;exact n ps (bF e).symm,λz=>by rw[z,fc] at e;cases e⟩;refine⟨⟨λb o e n _ _=>h b o (p n) e,λb o e n _ _=>⟨o.slots,h b o (p n) e⟩,λb o e n _=>?_,λb o e _=>?_,λb xs e=>?_,λb o u e=>?_,λb x e=>?_⟩,λb o e=>?_⟩
 .rw[ii (p n),ii (v e)];exact n
 .by_cases z:b=P
  .exact⟨_,z▸ht⟩
  .exact⟨o,h b o z e⟩
 .obtain⟨f,g⟩:=nt e (λ_ z=>by cases z);rw[ii f,ii g];exact e
 .obtain⟨f,g⟩:=nt e (λ_ z=>by cases z);rw[ii f,ii g];exact e
 .by_cases z:b=P
  .subst z;rw[m] at e;cases e;exact⟨more,iE⟩
  .have j:b≠a:=λz=>by rw[z,fc] at e;cases e
   exact⟨#[],by rw[ii z,ii j,e];simp⟩
 .by_cases z:b=P
  .subst z;rw[iE] at e;cases e;exact ht
  .rw[ii z] at e;by_cases j:b=a
   .subst j;rw[iE] at e;cases e;exact Vi rc
   .rw[ii j] at e;refine(I.ja b o e).vm (λr u hb q=>h r u ?_ q) (λr q=>?_) (λr xs q=>?_)
    .rcases hb with rfl|hb
     .exact z
     .exact(nt hb (λ_ z=>by cases z)).1
    .obtain⟨f,g⟩:=nt q (λ_ z=>by cases z);rw[ii f,ii g];exact q
    .obtain⟨f,g⟩:=nt q (λ_ z=>by cases z);rw[ii f,ii g];exact q
def Vj(L:YM X.cq X.mg X.env.code c P)(I:Inv X cc σ H s)(j:H P=aa (.y6 ps))(g:PH (X.env.qual++kz) H ps)(x:ain scope X.env=pure [])(G:ajl params X.env=([],[]))
(y:∀f a pm h n p,Inv X cc σ n p->s.heap.objs.size<=f->n f=ar->p.heap.get? f=aa (kla_obj kz (X.env.qual++kz) params body scope [] pm a h)->n a=aa (zm a (X.env.qual++kz))->u8 P (X.env.qual++kz) H n->Q (.ref f) p):
  wpAny (model X.prog X.w) A (eval (.Lambda params body scope pos) X.env) Q E s:=by
 have B:=(I.ja P _ j);refine kla_eval G ?_;cases e:ahY pos _ with
 |none=>
  refine kla_makeFunction x I.ok.glob (I.mod.glob.keeps I.bk) L.cd (L.hd.keeps I.bk) B g.ok e L.gP (GH L.bl I.bk) λa h m tk J hc lt rc ht=>?_;obtain⟨M,C⟩:=YN I j J hc rc ht;have I1:=I.un (t':=tk) M C;have fc:=I.ja.fresh hc;have r:a≠P:=λz=>by rw[z,j] at fc;cases fc
  have u:=I1.kept (t':=tk) (h':=m.push (kla_obj kz (X.env.qual++kz) params body scope [] ((X.mg nk).getD .none) a h)) λb o e=>aj _ e;refine y _ a _ h _ _ u (bG hc (dF lt)) (C.fresh (aD _)) (aP _ rfl) (by rw[ii r,iE]) ⟨⟨_,iE,?_,λN v i=>?_⟩,.inr ⟨a,_,fc,r,rfl⟩⟩
  .rw[Array.toList_append];exact Ic rfl rfl _ g.ok
  .rw[Array.toList_append] at i;rcases NF _ g.ok i with i|i
   .obtain⟨O,e2,e3⟩:=g.cs N v i;refine⟨O,e2,?_⟩;rw[ii (λz=>by rw[z,j] at e3;cases e3),ii (λz=>by rw[z,fc] at e3;cases e3)];exact e3
   .exact⟨a,i,by rw[ii r,iE]⟩
 |some v=>
  obtain⟨a,e2,e3⟩:=g.cs pos v e;refine kla_makeFunctionHit x I.ok.glob (I.mod.glob.keeps I.bk) L.cd (L.hd.keeps I.bk) B g.ok e (GH L.bl I.bk) λh m tk k sz=>?_;subst e2;have I1:=I.kept (t':=tk) k;have u:=I1.kept (t':=tk) (h':=m.push (kla_obj kz (X.env.qual++kz) params body scope [] ((X.mg nk).getD .none) a h)) λb o e=>aj _ e;exact y _ a _ h H _ u sz (I1.ja.fresh (aD _)) (aP _ rfl) e3 ⟨⟨ps,j,g⟩,.inl rfl⟩
end
section
variable {K:bz} {A:bH} {s:av} {scope:dn} {t:TE} {k:Nat}
def Vk(g:C1 P w K mg cq A cv s H)(h:ka (k+1) A)(p:s.heap.get? f=aa (kla_obj kz qual params body scope [] pm c MG))(rc:s.heap.CodeRec (.ref c) qual)(S:kY [x] [x] scope)
(hb:∀u,dI (kla_fn kz qual params body scope [] pm (.ref c) MG) ⟨[u],[]⟩=pure [(x,u)])(B:RelV v u)
(C:ka k (A.deeper (dZ qual scope s.heap.objs.size f (.ref c)))->PE (tE uk P w K mg cq [x] qual scope f (.ref c) A cv s H E0).F7 body t)(q:t [aa v] H Q):
  codeAny (model P w) A (.call (.ref f) ⟨[u],[]⟩) (λr i=>∃a,r=.ok (.ret a)/\CE cv P w H s Q a i) s:=by
 have j:=g.mod.nolimit.keeps λb o e=>(g.bs b o e).1;have E:∀y∈[(x,u)],scope.names.lookup y.1=aa .local\/(scope.names.lookup y.1=aa .cell/\((aiU (s.heap.objs.size+1) _ []).lookup y.1).isSome=ag):=λy G=>by
  rw[bj.mp G];rcases S.par x (by simp) with z|z
  .exact .inl z
  .exact .inr ⟨z,W.cellsFrom_some _ _ _ (.inl z)⟩
 refine kla_callFunE h.depth p rfl S.co S.gen rfl rc ?_;rw[hb u];refine ay (aiJ S.kind E λenv L s1 z=>?_);subst L;refine⟨j.keeps z.toInCall.keep,kla_codeExpr ?_⟩;have I:Inv (tE uk P w K mg cq [x] qual scope f (.ref c) A cv s H E0) [] _ H s1:=Gf S h.hd g rfl (.cons B .nil) z;refine cn ((C (h.deeper _)).F7 [] s1 _ H Q I q) (λa i m=>?_) λe i m=>?_
 .obtain⟨M,N,J,n,O⟩:=m;exact⟨a,rfl,M,N,J.os,J.bare,J.cq,J.ja,n,O⟩
 .refine cn m (λ_ _ z=>(z).elim) (λ_ _ z=>(z).elim)
end
section
variable {K:bz}
def oK (K:bz)(H:Hp):List V->List aX->Prop
 |[],[]=>True
 |y::b,k::c=>(∃a zs,y=.ref a/\xQ K H a (.str k::zs))/\oK K H b c
 |_,_=>False
theorem oK.length:∀{a:List V} {b:List aX},oK K H a b->a.length=b.length
 |[],[],_=>rfl
 |[],_::_,h=>h.elim
 |_::_,[],h=>h.elim
 |_::a,_::b,h=>by rw[aU,aU,oK.length h.2]
theorem oK.get:∀{b:List V} {c:List aX} {i:Nat} {y:V} {k:aX},oK K H b c->b[i]?=aa y->c[i]?=aa k->∃a zs,y=.ref a/\xQ K H a (.str k::zs)
 |[],[],i,y,k,_,e,_=>by simp at e
 |[],_::_,_,_,_,h,_,_=>h.elim
 |_::_,[],_,_,_,h,_,_=>h.elim
 |y::b,k::c,0,_,_,h,e,g=>by simp at e g;subst e g;exact h.1
 |y::b,k::c,i+1,_,_,h,e,g=>oK.get h.2 (by simpa using e) (by simpa using g)
def u8.keep(t:u8 P q H H')(f:∃a,H P=aa (.y6 a))(e:H b=aa o)(n:∀a,o≠.y6 a):H' b=aa o:=by
 obtain⟨a,f⟩:=f;rcases t.2 with h|⟨c,g,hc,i,h⟩
 .rw[h];exact e
 .rw[h,ii (λz=>by rw[z,f] at e;exact n a (bF e).symm),ii (λz=>by rw[z,hc] at e;cases e)];exact e
def u8.sqL(t:u8 P q H H')(b:∃c,H P=aa (.y6 c))(h:nI K H a xs):nI K H' a xs:=by
 rcases h with(h|⟨o,h⟩)|h
 .exact .inl (.inl (t.keep b h (λ_ z=>by cases z)))
 .exact .inl (.inr ⟨o,t.keep b h (λ_ z=>by cases z)⟩)
 .exact .inr h
def u8.sqT(t:u8 P q H H')(b:∃c,H P=aa (.y6 c))(h:xQ K H a xs):xQ K H' a xs:=by
 rcases h with(h|⟨o,h⟩)|h
 .exact .inl (.inl (t.keep b h (λ_ z=>by cases z)))
 .exact .inl (.inr ⟨o,t.keep b h (λ_ z=>by cases z)⟩)
 .exact .inr h
theorem u8.keyed(t:u8 P q H H')(f:∃g,H P=aa (.y6 g)):∀{b:List V} {c:List aX},oK K H b c->oK K H' b c
 |[],[],_=>trivial
 |[],_::_,h=>h.elim
 |_::_,[],h=>h.elim
 |_::b,_::c,⟨⟨a,zs,e,h⟩,r⟩=>⟨⟨a,zs,e,t.sqT f h⟩,t.keyed f r⟩
def lR{β:Type}(a:List aX)(b:List β):List β:=(L3.RY aQ (a.zip b)).map dD
def KVs:List (aX×V)->List (aX×ai)->Prop:=Paired λp q=>p.1=q.1/\RelV p.2 q.2
theorem Qi(r:p.1=q.1/\RelV p.2 q.2):∀{l:List _} {m:List _},KVs l m->KVs (L3.vT aQ p l) (L3.vT aQ q m)
 |_,_,.nil=>.cons r .nil
 |_,_,.cons h t=>by
  unfold L3.vT;rw[r.1,h.1];split
  .exact .cons r (.cons h t)
  .exact .cons h (Qi r t)
theorem Qj:∀{l:List _} {m:List _},KVs l m->KVs (L3.RY aQ l) (L3.RY aQ m)
 |_,_,.nil=>.nil
 |_,_,.cons h t=>Qi h (Qj t)
theorem Qk:∀(a:List aX) {b:List V} {c:List ai},Vals b c->KVs (a.zip b) (a.zip c)
 |[],_,_,_=>.nil
 |_::_,_,_,.nil=>.nil
 |_::a,_,_,.cons r t=>.cons ⟨rfl,r⟩ (Qk a t)
theorem Ql:∀{l:List _} {m:List _},KVs l m->Vals (l.map dD) (m.map dD)
 |_,_,.nil=>.nil
 |_,_,.cons h t=>.cons h.2 (Ql t)
def DN(r:Vals b c):Vals (lR a b) (lR a c):=Ql (Qj (Qk a r))
def BG{β:Type}{c:List aX}{g:List β}(nd:c.Nodup):∀a∈c.zip g,∀b∈c.zip g,a.1=b.1->a=b:=by intro a ha b hb e;obtain⟨i,hi⟩:=cO.mp ha;obtain⟨j,f⟩:=cO.mp hb;have h:=cL.mp hi;have m:=cL.mp f;have lt:=(ak.mp h.1).1;have:i=j:=(fF lt nd).mp (h.1.trans (by rw[m.1,e]));subst this;rw[hi] at f;exact bF f
def KH(nd:a.Nodup)(h:KG a b out):out=lR a b:=by obtain⟨g,c,e,f⟩:=h;rw[e,L3.HV c f (BG nd)];rfl
end
section
variable {X:Cx} {k:Nat}
def acl (K:bz)(P:aw)(q:aX)(te:TE):TE:=λσ H Q=>te σ H λv H1=>∃a b f h,v=.ref a/\nI K H1 a b/\oK K H1 b f/\f.Nodup/\b.length<64/\H1 P=aa (.y6 h)/\PH q H1 h/\
 ∀g l,u8 P q H1 g->g l=ar->Q (.ref l) (upd g l (.lst (lR f b)))
def Vl(L:YM X.cq X.mg X.env.code c P)(hr:ka (k+4) X.A)(ms:X.mg jm=ar)(he:PE X e te)(S:kY [x] [x] scope)(hd:(x==(fy:aX))=au)(Fj:(x==(tS:aX))=au)(hv:Vis scope x)
(TK:ain scope X.env=pure [])(Tx:ajl params X.env=([],[]))
(hb:∀pm c O u,dI (kla_fn kz (X.env.qual++kz) params (.Subscript (.Name x np) (.Constant (.int 0) j cp) sp) scope [] pm (.ref c) O) ⟨[u],[]⟩=pure [(x,u)])(gs:Gl X jm:=by rfl)
(T:bg [e] X.env=[(au,eval e X.env)]:=by rfl)
(U:fN [⟨aa "key",.Lambda params (.Subscript (.Name x np) (.Constant (.int 0) j cp) sp) scope Ie,M6⟩] X.env=[(aa (ahQ "key"),eval (.Lambda params (.Subscript (.Name x np) (.Constant (.int 0) j cp) sp) scope Ie) X.env)]:=by rfl):
  PE X (.Call (.Name jm p) [e] [⟨aa "key",.Lambda params (.Subscript (.Name x np) (.Constant (.int 0) j cp) sp) scope Ie,M6⟩] pos) (acl X.K P (X.env.qual++kz) te):=by
 intro cc s σ H Q I h;refine cS (ud I gs ms (u:=.builtin jm) (by rfl) ?_ (by decide) (by decide));have hA:(ais pos (fN [⟨aa "key",.Lambda params (.Subscript (.Name x np) (.Constant (.int 0) j cp) sp) scope Ie,M6⟩] X.env)).all (·.1.isSome)=ag:=by rw[U];rfl
 refine callWith_builtin_kwB (by rw[T];rfl) (by rw[U];rfl) (evalArgs_kw2 hA ?_ T);rw[T,U];refine Calls.spliced_cons (lB (he cc s σ H _ I h) λu s1 ⟨v,H1,I1,rv,a,B,C,N,ev,hq,hk,nd,Ky,hP,gt,q⟩=>Calls.spliced_nil ?_);subst ev;cases rv;show wpAny _ _ (evalAll [(do let v<-eval (.Lambda params (.Subscript (.Name x np) (.Constant (.int 0) j cp) sp) scope Ie) X.env;ajn pos;pure v)]) _ _ s1;refine wpAny_evalAll_cons (ae (Vj L I1 hP gt TK Tx λf Y pm O g s2 m fz fn fo rc tt=>ae (ahO (ay (wpAny_evalAll_nil ?_)))));show wpAny (model X.prog X.w) X.A (call (.builtin jm) ([]++[bE a]) [(ahQ "key",.ref f)]) _ _ s2;have J:∃N,H1 P=aa (.y6 N):=⟨N,hP⟩;obtain⟨iM,r',pl,hz⟩:=m.list (tt.sqL J hq);have jK:=r'.length;have kl:=hk.length;have ff1:∀b∈tY X.stack,b<s1.heap.objs.size:=λb z=>by
  rcases aH.mp (I1.uc b z) with z|z
  .rw[z];exact I1.lt
  .exact Nat.lt_of_not_le λy=>I1.aa7 y z
 have ff:∀b∈tY X.stack,b<s2.heap.objs.size:=λb z=>by
  rcases aH.mp (m.uc b z) with z|z
  .rw[z];exact m.lt
  .exact Nat.lt_of_not_le λy=>m.aa7 y z
 refine NE (fs:=tY X.stack) (H:=g) (ss:=C) m.bare m.ja ff pl.isList (by omega) (by omega) (λi v key s3 M hk3 E=>?_) (λp s' out c'' G pz hp ho=>?_)
 .have hI:Inv X cc σ g s3:=m.CV E.os E.un E.ja E.bare (λb z=>absurd z (by simp));obtain⟨y,hy,ry⟩:∃y,B[i]?=aa y/\RelV y v:=by
   have li:i<B.length:=by have:=(ak.mp M).1;omega
   obtain⟨u3,e3,r3⟩:=r'.get (ax li);rw[M] at e3;cases e3;exact⟨_,ax li,r3⟩
  obtain⟨ya,zs,ey,hy2⟩:=(tt.keyed J hk).get hy hk3;subst ey;cases ry;have fo3:=E.at fo fn λz=>absurd (ff1 _ z) (Nat.not_lt.mpr fz);have rc3:s3.heap.CodeRec (.ref Y) (X.env.qual++kz):=Sc (E.ja Y _ rc);refine fJ (dk (Vk (k:=k) (t:=tOp (ad8 X.K) (TU 0) (tC (.int 0))) (Q:=λv H'=>v=.str key/\H'=g) (A:=X.A.in1.in1) (cv:=X.stack) hI.XT.in1.in1 (ka.mono (hr.in1.in1) (by omega)) fo3 rc3 S (λu=>hb pm Y O u) (v:=.ref ya) rfl (λ_=>?_) ?_) λr s4 hr4=>?_)
  .exact aau Up (MK (i:=0) rfl hv hd Fj) TV (λ_ _=>rfl)
  .exact⟨.ref ya,rfl,ya,_,0,.str key,rfl,rfl,hy2,by unfold Fk Xl;simp,rfl,rfl⟩
  .obtain⟨u',rfl,v',H',os,bare,un,ja,rv',e1,e2⟩:=hr4;subst e1 e2;exact⟨rv',⟨os,bare,ja,un⟩⟩
 .have fp:g p=ar:=m.ja.fresh pz;have lz:(lR C B).length<=aO:=by
   have z:(lR C B).length=(C.zip B).length:=by unfold lR;rw[ao];exact(L3.qQ _ _).length_eq
   rw[z,cK,bp];omega
  have eo:=KH nd ho;have ne:∀{b:aw} {u:HO},g b=aa u->b≠p:=λe z=>by rw[z,fp] at e;cases e
  have un:Un (tY X.stack) [] g (upd g p (.lst (lR C B))) s2.heap s'.heap:=⟨G.un.keep,G.un.slot,λb o e n hx=>by rw[ii (bd (bw (aM e) pz))];exact n,G.un.there,λb xs e=>by rw[ii (ne e)];exact e,λb o u e=>by rw[ii (ne e)];exact e,λb N e=>⟨#[],by rw[ii (ne e),e];simp⟩⟩;have ja:tZ X.prog X.w (upd g p (.lst (lR C B))) s'.heap:=λb o e=>by
   by_cases z:b=p
   .subst z;rw[iE] at e;cases e;exact⟨lz,out.toList,c'',by rw[eo];exact DN r',by rw[Array.toArray_toList];exact hp⟩
   .rw[ii z] at e;exact(G.ja b o e).vm (λ_ _ _ q=>q) (λb' q=>by rw[ii (ne q)];exact q) λb' xs q=>by rw[ii (ne q)];exact q
  exact⟨.ref p,_,m.CV G.os un ja G.bare (λb z=>absurd z (by simp)),rfl,q g p tt fp⟩
end
end L2
namespace L3
open L2
def aeF{K:bz}(t:Tb K H)(e:W.tabIn K ic=aa (c,P))(tt:u8 P (abV ic) H a):Tb K a:=λx b f g e'=>by
 have ex:=by simpa[Yk] using b
 subst ex;rw[e] at e';cases e';exact tt.1
def Sd(tt:u8 P q H c)(f:∃a,H P=aa (.y6 a)):Dy H c:=λb o e v=>tt.keep f e λa z=>by rw[z] at v;cases v
section
variable {K:bz}
def yi:List D->List aX->Prop
 |[],[]=>True
 |x::xs,k::a=>(∃ds,x=.tup (.str k::ds))/\yi xs a
 |_,_=>False
theorem yj(e:kC H f):∀{xs:List D} {c:List aX} {b:List V},yi xs c->hZ K α H xs b->oK K f b c
 |[],[],b,_,r=>by subst r;trivial
 |[],_::_,_,h,_=>h.elim
 |_::_,[],_,h,_=>h.elim
 |x::xs,k::c,b,⟨⟨ds,ex⟩,h⟩,r=>by subst ex;obtain⟨v,n,rfl,z,y⟩:=r;obtain⟨a,ws,rfl,g,i⟩:=z;obtain⟨u,j,rfl,m,_⟩:=i;subst m;exact⟨⟨a,j,rfl,nA e g⟩,yj e h y⟩
theorem GI(r:Rep K α H x v):∀{a:List aX} {xs:List D} {b:List V},hZ K α H xs b->a.length=xs.length->∃(f:List aX) (g:List D) (c:List V),vT aQ (k,x) (a.zip xs)=f.zip g/\vT aQ (k,v) (a.zip b)=f.zip c/\f.length=g.length/\hZ K α H g c
 |[],xs,b,h,l=>by
  have e:xs=[]:=by cases xs<;>simp_all
  exact⟨[k],[x],[v],rfl,rfl,rfl,hZ.one r⟩
 |k'::a,[],b,h,l=>by simp at l
 |k'::a,y::xs,b,h,l=>by
  obtain⟨u,n,rfl,z,t⟩:=h;rw[cR,cR];unfold vT;by_cases e:Ap k k'=ag
  .rw[if_pos e,if_pos e];exact⟨k::k'::a,x::y::xs,v::u::n,rfl,rfl,by simpa using l,hZ.cons r (hZ.cons z t)⟩
  .rw[if_neg e,if_neg e];obtain⟨i,j,m,o,p,q,s⟩:=GI r t (by simpa using l);exact⟨k'::i,y::j,u::m,by rw[o];rfl,by rw[p];rfl,by simpa using q,hZ.cons z s⟩
theorem KI:∀{a:List aX} {xs:List D} {b:List V},hZ K α H xs b->a.length=xs.length->∃(f:List aX) (g:List D) (c:List V),RY aQ (a.zip xs)=f.zip g/\RY aQ (a.zip b)=f.zip c/\f.length=g.length/\hZ K α H g c
 |[],xs,b,h,l=>by
  have e:xs=[]:=by cases xs<;>simp_all
  exact⟨[],[],[],rfl,rfl,rfl,hZ.nil⟩
 |k'::a,[],b,h,l=>by simp at l
 |k::a,y::xs,b,h,l=>by obtain⟨u,r,rfl,z,t⟩:=h;rw[cR,cR];unfold RY;obtain⟨i,j,m,n,o,p,q⟩:=KI t (by simpa using l);rw[n,o];exact GI z q p
def DP(h:hZ K α H xs c)(l:a.length=xs.length):hZ K α H (lR a xs) (lR a c):=by obtain⟨e,f,g,i,j,m,b⟩:=KI h l;have n:=hZ.length _ _ b;unfold lR;rw[i,j,fR (by omega),fR (by omega)];exact b
theorem yk:∀{xs:List D} {a:List aX},yi xs a->xs.length=a.length
 |[],[],_=>rfl
 |[],_::_,h=>h.elim
 |_::_,[],h=>h.elim
 |_::xs,_::a,h=>by rw[aU,aU,yk h.2]
end
section
variable {X:Cx} {k:Nat}
def Vm (te:DE):DF:=λb M Q=>te b M λd M1=>∃xs a,vw M1 d=.lst xs/\yi xs a/\a.Nodup/\xs.length<64/\Q (.lst (lR a xs)) M1
structure aeG(X:Cx):Prop where
 ex:∃c P,W.tabIn X.K ic=aa (c,P)/\YM X.cq X.mg X.env.code c P
 q:X.env.qual++kz=abV ic
def Vn(L:aeG X)(C:ka (k+4) X.A)(ms:X.mg jm=ar)(g:JE X e te)(S:kY [x] [x] scope)(hd:(x==(fy:aX))=au:=by decide)(E:(x==(tS:aX))=au:=by decide)(G:Vis scope x:=by first|exact ahS rfl|exact ahA (ahS rfl))
(I:ain scope X.env=pure []:=by rfl)(J:ajl params X.env=([],[]):=by rfl)
(hb:∀pm c N u,dI (W.kla_fn kz (X.env.qual++kz) params (.Subscript (.Name x np) (.Constant (.int 0) j cp) sp) scope [] pm (.ref c) N) ⟨[u],[]⟩=pure [(x,u)]:=by intros;rfl)(gs:Gl X jm:=by rfl)
(O:bg [e] X.env=[(au,eval e X.env)]:=by rfl)
(T:fN [⟨aa "key",.Lambda params (.Subscript (.Name x np) (.Constant (.int 0) j cp) sp) scope Ie,M6⟩] X.env=[(aa (ahQ "key"),eval (.Lambda params (.Subscript (.Name x np) (.Constant (.int 0) j cp) sp) scope Ie) X.env)]:=by rfl):
  JF X (.Call (.Name jm p) [e] [⟨aa "key",.Lambda params (.Subscript (.Name x np) (.Constant (.int 0) j cp) sp) scope Ie,M6⟩] pos) (Vm te):=by
 obtain⟨c,P,ht,U⟩:=L.ex;refine⟨λb M A B w q=>g.mono b _ _ _ (λd M1 q=>?_) q,PE.weak (Vl U C ms g.p S hd E G I J hb gs O T) λσ H Q q=>?_⟩
 .obtain⟨xs,h,i,f,m,s,q⟩:=q;exact⟨xs,h,i,f,m,s,w _ _ q⟩
 .obtain⟨F,α,b,M,r,q⟩:=q;refine⟨F,α,b,M,r,g.mono b _ _ _ (λd M1 q v Y H1 e1 o1 r1=>?_) q⟩;obtain⟨xs,h,i,f,m,s,q⟩:=q;obtain⟨a,vs,rfl,sq,n⟩:=jN o1 r1 i;obtain⟨y,z,hg⟩:=o1.tb _ (by simp[Yk]) c P ht;have hl:=hZ.length _ _ n;refine⟨a,vs,h,y,rfl,nI.of sq,yj iJ f n,m,by omega,z,by rw[L.q];exact hg,λH2 l tt o=>?_⟩;rw[L.q] at tt;obtain⟨o2,e2⟩:=o1.aaK (Sd tt ⟨y,z⟩) (aeF o1.tb ht tt);exact q l _ Y H2 (e1.trans e2) o2 o ⟨_,rfl,DP (e2.Dc n) (yk f).symm⟩
end
structure DQ(K:bz)(mg:aX->Option ai)(cq:aC):Prop where
 TN:K.In cq
 glob:cq.Ns bf mg
 tab:∃c P,W.tabIn K ic=aa (c,P)/\W.CodeHd cq c P/\cq.BuiltinsAt mg P/\bf≠P
def aeH (K:bz)(mg:aX->Option ai)(cq:aC)(jd:ai):Prop:=∃c P,W.tabIn K ic=aa (c,P)/\YM cq mg jd c P
section
variable {K:bz}
def aeI{st:c5}(F:iw K mg ic st)(a:DQ K mg cq)(e:jq st=body)(es:iT st=scope)(S:kY N b scope)
(hb:∀(kV doc pm:ai) (an:Option aw) (jd ct:ai) (us:List ai),us.length=b.length->dI (eu ic ic (k9 st) (jq st) (iT st) .none kV doc pm an jd ct) ⟨us,[]⟩=pure (b.zip us))
(g:∀(f:aw) (jd:ai) (A:bH) (cv:List ahL) (s:av) (H:Hp) (E:XK),aeH K mg cq jd->ka k (A.deeper (dZ ic scope s.heap.objs.size f jd))->Dk (tE uk P w K mg cq N ic scope f jd A cv s H E).F7 body tb):
  nz P w K mg cq (k+1) ic b (l9 K (cl (lN N.length b.length tb))):=by obtain⟨f,fd,F,m⟩:=F;obtain⟨c,i,ht,hd,bl,gP⟩:=a.tab;refine⟨f,fd,m,F.kp,F.binds hb,?_⟩;obtain⟨oc,od,kV,doc,pm,an,jd,ct,Rt,rfl,lk,j⟩:=F.ex;have ec:=W.law_code a.TN a.glob ht m (a.TN _ _ lk) rfl;subst e es;refine Ue lk j S (λn H Q E ⟨F,α,M,ds,o,r,hn,u,q⟩=>by rw[<-hZ.length _ _ r];exact u) λA cv s H n Q E v h=>?_;obtain⟨t,q,z⟩:=Nl (g f jd A cv s H E ⟨c,i,ht,ec,hd,bl,gP⟩ v) rfl h;exact⟨t,q.p.F7,z⟩
def agP(h:aeH K mg cq jd):aeG (tE uk P w K mg cq N ic scope f jd A cv s H E).F7:=⟨h,rfl⟩
end
def aeJ{K:bz}(h:W.noTabs K=ag)(e:K.lookup a=aa (W.tabObj c)):False:=by have b:=bU.mp h (a,_) (W.mem_of_lookupK e);exact absurd (b) aS
def Se{P:bc}{w:bI}{K:bz}{mg N:aX->Option ai}{k:Nat}{O a c T:aw}{fd:dY}{x:aX}{sp:Sp}{f:av}{B:List ai}{ns:List Int}
(Q:K.In f.heap)(A:f.heap.Ns bf mg)(hb:f.heap.Ns ajf N)(U:∀x:aX,x≠nk->N x=bT x)(Y:f.heap.NoLimit)(hg:f.gens=#[])
(ha:f.heap.get? a=aa {cls:=.type cr,data:=.seq B.toArray})(hi:ai2 B ns)(hl:ns.length<=aO)(hr:ka k aiu)
(ht:W.tabIn K ic=aa (c,T))(nt:W.noTabs K=ag)(p:f.heap.get? T=aa (W.tabObj #[]))(hd:W.CodeHd f.heap c T)(bl:f.heap.BuiltinsAt mg T)(ct:isCodeTable f.heap T)
(F:∀cq:aC,DQ K mg cq->lP P w K mg cq uk k O fd [x] sp)(aeK:∀(s:av) (u:ai),air s fd ⟨[u],[]⟩ [(x,u)])
(Xh:∀H:Hp,Tb K H->nI K H a (ns.map V.int)->sp [.ref a] H (λv _=>v=.bl ag) λ_ _ _=>False):
  codeAny (model P w) aiu (.call (.ref O) ⟨[.ref a],[]⟩) (λr g=>r=.ok (.ret (.bool ag))/\OldK f.heap g.heap/\g.os=f.os/\fS g.gens) f:=by
 have rv:=Gk hi;have agR:=hi.length;have aT:a≠T:=λz=>by rw[z,p] at ha;cases ha
 have kT:K.lookup T=ar:=by
  cases e:K.lookup T with
  |none=>rfl
  |some o=>have:=Q _ _ e;rw[p] at this;cases this;exact(aeJ nt e).elim
 have G:∀H:Hp,H T=aa (.y6 #[])->(∀b,b≠T->H b=ar\/∃o xs,H b=aa (.qd o (.lst xs)))->nI K H a (ns.map V.int)->tZ P w H f.heap->(∀b,H b≠ar->b=a\/b=T)->(H a≠ar->K.lookup a=ar)->
   codeAny (model P w) aiu (.call (.ref O) ⟨[.ref a],[]⟩) (λr g=>r=.ok (.ret (.bool ag))/\OldK f.heap g.heap/\g.os=f.os/\fS g.gens) f:=by
  intro H Xt hO hS ja hA hK;have L:∀{b:aw} {o:cC},f.heap.get? b=aa o->H b=ar->(CS f.heap H).get? b=aa o:=λe n=>TM e n;have free:∀{b:aw} {o:cC},f.heap.get? b=aa o->o.cls≠.none->(b=a->False)->H b=ar:=λ{b o} e hc na=>by
   cases q:H b with
   |none=>rfl
   |some u=>
    rcases hA b (by rw[q];simp) with z|z
    .exact(na z).elim
    .subst z;rw[p] at e;cases e;exact absurd rfl hc
  have noA:∀{b:aw} {o:cC} {es:Array DictEntry} {C:Nat},f.heap.get? b=aa o->o.data=.dict es C->H b=ar:=λ{b o es C} e d=>by
   cases q:H b with
   |none=>rfl
   |some u=>
    rcases hA b (by rw[q];simp) with z|z
    .subst z;rw[ha] at e;cases e;cases(show Data.seq B.toArray _=Data.dict es C from d)
    .subst z;rw[p] at e;cases e;cases d
  have i:∀{b:aw} {m:aX->Option ai},f.heap.Ns b m->(CS f.heap H).Ns b m:=λ{b m} ⟨o,es,C,e,d,r⟩=>⟨o,es,C,L e (noA e d),d,r⟩;have I:K.In (CS f.heap H):=λb o e=>L (Q b o e) (by
   cases q:H b with
   |none=>rfl
   |some u=>
    rcases hA b (by rw[q];simp) with z|z
    .subst z;rw[hK (by rw[q];simp)] at e;cases e
    .subst z;rw[kT] at e;cases e)
  have hM:Mod K mg (CS f.heap H):=⟨I,i A,⟨N,i hb,U⟩,let⟨mc,h1,h2⟩:=Y;⟨mc,i h1,h2⟩⟩;have e0:C1 P w K mg (CS f.heap H) aiu [] f H:=⟨rfl,hM,λb o e=>Xw e,gC (Ri _ _),trivial,λb hb=>absurd (show b∈([]:List aw) from hb) (by simp),ja,.of_eq hg⟩;have hdB:W.CodeHd (CS f.heap H) c T:=by obtain⟨o,vs',file,tf,aeM,tg,inF,text,tt,e,r1,r⟩:=hd;exact⟨o,vs',file,tf,aeM,tg,inF,text,tt,L e (free e (by rw[r1];simp) (λz=>by subst z;rw[ha] at e;cases e;exact absurd r1 (show¬c9 cr=c9 "code" by decide))),r1,r⟩
  have blB:(CS f.heap H).BuiltinsAt mg T:=by obtain⟨bm,ob,b1,b2,b3,b4,b5,b6,b7⟩:=bl;exact⟨bm,ob,b1,b2,b3,b4,L b5 (free b5 (by rw[b6];simp) (λz=>by subst z;rw[ha] at b5;cases b5;exact absurd b6 (show¬c9 cr=c9 "module" by decide))),b6,b7⟩
  have gT:bf≠T:=λz=>by obtain⟨o,es,C,e,d,_⟩:=A;rw[z,p] at e;cases e;cases d
  have tb:Tb K H:=λy hy c' T' e'=>by
   have ey:y=ic:=by simpa[Yk] using hy
   subst ey;rw[ht] at e';cases e';exact⟨#[],Xt,by simp[gw],λpos v hv=>by simp[ahY] at hv⟩
  refine dk ((F _ ⟨I,i A,c,T,ht,hdB,blB,gT⟩).run aiu [] f H ⟨[.ref a],[]⟩ [.ref a] [.ref a] _ _ hr e0 (aeK f (.ref a)) (.cons rfl .nil) (Xh H tb hS)) λr g h=>?_;cases r with
  |error e=>exact(show False from h).elim
  |ok fl=>
   cases fl with
   |next=>exact cw h
   |brk=>exact cw h
   |cont=>exact cw h
   |ret u=>
    obtain⟨v,H',os,bare,un,YO,r',q⟩:=h;have q':v=.bl ag:=q;subst q';obtain rfl:u=ai.bool ag:=r';have M:∃more,g.heap.get? T=aa (W.tabObj more):=by obtain⟨more,z⟩:=un.tz T _ Xt;exact⟨#[]++more,(show kx P w H' g.heap T (.y6 _) from YO T _ z)⟩
    have keep:∀b o,b≠T->f.heap.get? b=aa o->g.heap.get? b=aa o:=λb o E e=>by
     rcases hO b E with z|⟨ob,xs,z⟩
     .exact un.keep b o e z (by intro z;exact absurd (show b∈([]:List aw) from z) (by simp)) (by simp)
     .have z2:=un.rR b ob _ z;obtain⟨e1,_⟩:=ja b _ z;obtain⟨e2,_⟩:=YO b _ z2;rw[e] at e1;cases e1;exact e2
    obtain⟨more,M⟩:=M;refine⟨rfl,⟨λb o e=>?_,λb o e=>?_⟩,os,bare⟩
    .by_cases z:b=T
     .subst z;rw[p] at e;cases e;exact .inr (.inl ⟨ct,rfl,#[],more,rfl,by rw[Array.empty_append];exact M⟩)
     .exact .inl (keep b o z e)
    .by_cases z:b=T
     .exact⟨_,z▸M⟩
     .exact⟨o,keep b o z e⟩
 cases hk:K.lookup a with
 |some o=>
  have e:=Q a o hk;rw[ha] at e;cases e;refine G (λb=>if b=T then aa (.y6 #[]) else ar) (if_pos rfl) (λb E=>.inl (if_neg E)) (.inr ⟨_,B.toArray,_,hk,rfl,rfl,rfl,by rw[aR,agR];exact hl,by simpa using rv⟩) (λb u z=>?_) (λb z=>?_) λz=>absurd (if_neg aT) z
  .by_cases hb:b=T
   .subst hb;have j:=(if_pos rfl).symm.trans z;cases j;exact p
   .have j:=(if_neg hb).symm.trans z;cases j
  .by_cases hb:b=T
   .exact .inr hb
   .exact absurd (if_neg hb) z
 |none=>
  refine G (λb=>if b=T then aa (.y6 #[]) else if b=a then aa _ else ar) (if_pos rfl) (λb E=>?_) (.inl (.inr ⟨{cls:=.type cr,data:=.seq B.toArray},by show(if a=T then _ else if a=a then _ else _)=_;rw[if_neg aT,if_pos rfl]⟩)) (λb u z=>?_) (λb z=>?_) λ_=>hk
  .by_cases hb:b=a
   .exact .inr ⟨_,_,by show(if b=T then _ else if b=a then _ else _)=_;rw[if_neg E,if_pos hb]⟩
   .exact .inl (by show(if b=T then _ else if b=a then _ else _)=_;rw[if_neg E,if_neg hb])
  .by_cases J:b=T
   .subst J;have j:=(if_pos rfl).symm.trans z;cases j;exact p
   .have z1:=(if_neg J).symm.trans z;by_cases hb:b=a
    .have j:=(if_pos hb).symm.trans z1;cases j;subst hb;exact⟨ha,by rw[ao];exact hl,B,_,rv,ha⟩
    .have j:=(if_neg hb).symm.trans z1;cases j
  .by_cases J:b=T
   .exact .inr J
   .by_cases hb:b=a
    .exact .inl hb
    .exact absurd (by show(if b=T then _ else if b=a then _ else _)=_;rw[if_neg J,if_neg hb]) z
def aeN{l:W.OpenLaw}{k:Nat}{q:bc}{K:Params->bz}{g:GP}{x:aX}(hn:l.most=aa 63)(I:d.params.defaults=[])(J:ka k aiu)
(L:∀(w:bI) (h:aC),M w h->(K w.params).In h)(acm:(recsOf q).find? (λe=>e.name==(ic:aX))=aa d2)(ht:∀w:bI,(W.tabIn (K w.params) ic).isSome=ag)(nt:∀w:bI,W.noTabs (K w.params)=ag)
(j:jD g)(N:∀ns:List Int,ns.length<=63->g [.rS ns] λd=>d=.bl ag)
(F:∀(w:bI) (mg:aX->Option ai) (i:aw) (h:aC),(K w.params).In h->h.Ns bf mg->mg d.name=aa (.ref i)->
   ∃fd:dY,(∀(s:av) (u:ai),air s fd ⟨[u],[]⟩ [(x,u)])/\∀cq:aC,DQ (K w.params) mg cq->lP l.prog w (K w.params) mg cq uk k i fd [x] (l9 (K w.params) (cl g))):
  W.WalkO q O XP M l.row.toRowW d [] (λf B=>PySem.call f B):=by
 refine Att.J2 hn I λw iZ Q mg mb i o pm cd doc a B ns G Y ho hd Fj m n U C hg=>?_;have p:=L w _ Y;obtain⟨fd,hb,hF⟩:=F w mg i _ p G.T.g m;obtain⟨⟨c,T⟩,E⟩:=cZ.mp (ht w);obtain⟨hc,y⟩:=W.tab_of G.T p acm E;have bl:Q.heap.BuiltinsAt mg T:=by
  obtain⟨bm,ob,b1,b2,b3,b4,b5,A⟩:=G.T.bmain;refine⟨bm,ob,b1,b2,λz=>?_,λz=>?_,b3,b4,b5,A⟩
  .obtain⟨o',es,ep,e,dd,_⟩:=G.T.g;rw[z,e] at b3;cases b3;rw[dd] at A;cases A
  .rw[z,y] at b3;cases b3;cases b4
 refine Se p G.T.g G.T.b G.T.builtins G.T.nolimit hg n U (bG C (by decide)) J E (nt w) y hc bl (hc.tab y).isCodeTable hF hb λH tb hS=>?_;refine⟨[],[],[],[.rS ns],U8 tb,hZ.one ?_,rfl,j _ _ _ (λdd e v iR H' _ _ r=>?_) (N ns C)⟩
 .refine⟨a,rfl,?_⟩;exact DB Dz hS
 .subst e;exact r
end L3
namespace L2
theorem zD(f:Nat->Int):∀n,aiQ f (n+1)=f 0+aiQ (λi=>f (i+1)) n
 |0=>by simp[aiQ]
 |n+1=>by have a:=zD f n;show aiQ f (n+1)+f (n+1)=f 0+(aiQ (λi=>f (i+1)) n+f (n+1));omega
theorem BH:∀(f:Nat->Int) (l:List Int),(∀i,i<l.length->f i=l.getD i 0)->aiQ f l.length=l.sum
 |f,[],_=>rfl
 |f,x::l,h=>by rw[aU,zD,BH (λi=>f (i+1)) l λi hi=>(by have:=h (i+1) (by simp;omega);simpa using this),h 0 (by simp)];rfl
section
variable {X:Cx}
def Sf(hc:X.calm=ag):ny X (.builtin "sum") (λxs H Q=>∃(a:aw) (ns:List Int),xs=[V.ref a]/\nI X.K H a (ns.map V.int)/\Q (.int ns.sum) H):=by
 intro cc s σ H xs us Q I r h;obtain⟨a,ns,rfl,E,q⟩:=h;obtain⟨u,rfl,g⟩:=vals1 r;cases g;obtain⟨iM,w,p,Y⟩:=I.list E;have G:X.A.in1.handled=ar:=I.ok.hd hc;have x:a<s.heap.objs.size:=by obtain⟨o,n,e,_⟩:=p;exact aM e
 have J:=by have:=w.length;rw[ao] at this;exact this.symm
 refine call_sum_walkAnyS (dL p.isList ?_);refine⟨s.heap.objs.size,_,_,_,_,_,_,λi=>ns.getD i 0,rfl,(aiq.list G s.heap.objs.size a (bd x) iM.toArray).toS,⟨⟨_,aP _ rfl,rfl,rfl⟩,p.isList.push _⟩,λb hb=>?_,λi v c=>?_,λL B f=>?_⟩
 .rw[cj];simp only [aH,bV,or_false] at hb;rcases hb with rfl|rfl
  .exact eW _
  .exact cW x
 .have c:iM[i]?=aa v:=by simpa using c
  have hi:i<iM.length:=(ak.mp c).1;have hb:(ns.map V.int)[i]?=aa (V.int (ns.getD i 0)):=by rw[bh,bv,ax (by omega)];rfl
  obtain⟨u,C,g⟩:=w.get hb;rw[c] at C;cases C;exact g
 .have e:aiQ (λi=>ns.getD i 0) iM.toArray.size=ns.sum:=by rw[aR,J];exact BH _ _ λi _=>rfl
  rw[e];have k:=λb o z=>f.heap b o (λy=>by rw[bj.mp y] at z;exact absurd (aM z) (cD _)) (aj _ z);obtain⟨h',M,N,j,m⟩:=L;have O:M=s.gens:=f.gens;have T:N=s.drawn:=f.drawn;have U:m=s.os:=f.os;subst O T U;exact⟨.int ns.sum,H,I.kept (t':=j) k,⟨B,rfl⟩,q⟩
end
end L2
namespace L3
open L2
section
variable {X:Cx}
def NG:GN:=λds M Q=>match ds with
 |[d]=>∃ns:List Int,vw M d=.lst (ns.map .int)/\Q (.int ns.sum) M
 |_=>False
theorem GJ{K:bz}:∀{ss:List Int} {a:List V},hZ K α H (ss.map D.int) a->a=ss.map V.int
 |[],a,h=>by exact h
 |x::ss,a,h=>by obtain⟨v,r,rfl,z,y⟩:=h;rw[z,GJ y];rfl
def Ig(hc:X.calm=ag:=by rfl):JB X (.builtin "sum") NG:=by
 refine⟨λds M P Q w q=>?_,λcc s σ H xs us Q I rs h=>?_⟩
 .match ds,q with
  |[d],⟨ns,b,q⟩=>exact⟨ns,b,w _ _ q⟩
 .obtain⟨F,α,M,ds,o,c,h⟩:=h;match ds,h,c with
  |[d],⟨ns,b,q⟩,c=>
   obtain⟨v,e,f⟩:=nS c;subst e;obtain⟨a,j,rfl,g,i⟩:=jN o f b;have e2:=GJ i;subst e2;exact Sf hc cc s σ H _ us Q I rs ⟨a,ns,rfl,nI.of g,vK.now o q jB⟩
end
end L3
namespace L2
end L2
namespace L3
open L2
end L3
end
namespace L2
open PySem PySem.W PyProof.Rows
def kG {β:Type}(n:Nat)(f:Nat->Nat->Bool):KasT β->(β->Prop)->Prop
 |.ret a,Q=>Q a
 |.ask i j k,Q=>i<n/\j<n/\i≠j/\kG n f (k (f i j)) Q
theorem xf{Q:m->Prop}:∀t:KasT β,kG n f t (λa=>kG n f (g a) Q)->kG n f (t.bind g) Q
 |.ret _,h=>h
 |.ask i j k,⟨b,c,e,h⟩=>⟨b,c,e,xf _ h⟩
theorem uu{Q R:β->Prop}(w:∀a,Q a->R a):∀t:KasT β,kG n f t Q->kG n f t R
 |.ret _,h=>w _ h
 |.ask i j k,⟨b,c,e,h⟩=>⟨b,c,e,uu w _ h⟩
theorem aaL{J:av->Prop}{R:β->av->Prop}
(hc:∀i j (C:Bool->av->Prop) s,i<n->j<n->i≠j->J s->(∀b,J b->C (f i j) b)->c i j C s)(m:∀a s,Q a->J s->R a s):∀(t:KasT β) (s:av),J s->kG n f t Q->t.kasWp c R s
 |.ret a,s,e,h=>m a s h e
 |.ask i j k,s,e,⟨o,p,q,h⟩=>hc i j _ s o p q e λb g=>aaL hc m _ b g h
section
variable {p:Array Nat}
structure Ord(n:Nat)(f:Nat->Nat->Bool):Prop where
 tr:∀i j k,f i j=ag->f j k=ag->f i k=ag
 tot:∀i j,i<n->j<n->i≠j->f i j=au->f j i=ag
structure Row(n:Nat)(p:Array Nat):Prop where
 sz:p.size=n
 pm:p.toList.Perm (cy n)
abbrev uv(p:Array Nat)(i:Nat):Nat:=p.getD i 0
def NH(h:i<p.size):p[i]?=aa (uv p i):=by simp[h]
def Qo(h:p[i]?=q[j]?):uv p i=uv q j:=by unfold uv;rw[Array.getD_eq_getD_getElem?,Array.getD_eq_getD_getElem?,h]
def Row.lt(r:Row n p)(h:i<n):uv p i<n:=by
 have e:=NH (by rw[r.sz];exact h);have m:uv p i∈p.toList:=by rw[Array.mem_toList_iff];exact Array.mem_of_getElem? e
 exact gG.mp (r.pm.mem_iff.mp m)
def Row.ne(r:Row n p)(hi:i<n)(a:j<n)(h:i≠j):uv p i≠uv p j:=λe=>by have nd:=r.pm.nodup_iff.mpr List.nodup_range;have e1:=NH (by rw[r.sz];exact hi);have e2:=NH (by rw[r.sz];exact a);rw[e] at e1;rw[<-ck] at e1 e2;exact h ((fF (by rw[b8,r.sz];exact hi) nd).mp (e1.trans e2.symm))
def Row.perm(r:Row n p)(h:q.Perm p):Row n q:=⟨h.size_eq.trans r.sz,h.toList.trans r.pm⟩
def B9 (f:Nat->Nat->Bool)(p:Array Nat)(m:Nat):Prop:=∀i j,i<j->j<m->f (uv p i) (uv p j)=ag
def KJ (f:Nat->Nat->Bool)(p:Array Nat)(m:Nat):Prop:=∀i j,i<j->j<m->f (uv p j) (uv p i)=ag
def B9.one:B9 f p 1:=λi j a b=>by omega
def B9.snoc(o:Ord n f)(h:B9 f p m)(a:1<=m)(e:f (uv p (m- 1)) (uv p m)=ag):B9 f p (m+1):=λi j hi b=>by
 by_cases z:j<m
 .exact h i j hi z
 .have:j=m:=by omega
  subst this;by_cases y:i=j- 1
  .rw[y];exact e
  .exact o.tr _ _ _ (h i (j- 1) (by omega) (by omega)) e
def KJ.snoc(o:Ord n f)(h:KJ f p m)(a:1<=m)(e:f (uv p m) (uv p (m- 1))=ag):KJ f p (m+1):=λi j hi b=>by
 by_cases z:j<m
 .exact h i j hi z
 .have:j=m:=by omega
  subst this;by_cases y:i=j- 1
  .rw[y];exact e
  .exact o.tr _ _ _ e (h i (j- 1) (by omega) (by omega))
theorem NI(o:Ord n f)(r:Row n p):∀(u m:Nat),1<=m->m+u<=n->B9 f p m->kG n f (kas_asc p u m) λx=>m<=x/\x<=m+u/\B9 f p x
 |0,m,a,b,h=>⟨aD _,aD _,h⟩
 |u+1,m,a,b,h=>by
  refine⟨r.lt (by omega),r.lt (by omega),r.ne (by omega) (by omega) (by omega),?_⟩;cases c:f _ _ with
  |true=>exact⟨aD _,by omega,h⟩
  |false=>
   have e:=o.tot _ _ (r.lt (by omega)) (r.lt (by omega)) (r.ne (by omega) (by omega) (by omega)) c;exact uu (λx g=>⟨by omega,by omega,g.2.2⟩) _ (NI o r u (m+1) (by omega) (by omega) (h.snoc o a e))
theorem Qp(o:Ord n f)(r:Row n p):∀(u m:Nat),1<=m->m+u<=n->KJ f p m->kG n f (kas_desc u p m 0) λx=>x.1=p/\x.2.2=0/\m<=x.2.1/\x.2.1<=m+u/\KJ f p x.2.1
 |0,m,b,g,h=>⟨rfl,rfl,aD _,aD _,h⟩
 |u+1,m,b,g,h=>by
  refine⟨r.lt (by omega),r.lt (by omega),r.ne (by omega) (by omega) (by omega),?_⟩;cases c:f _ _ with
  |true=>exact uu (λx a=>⟨a.1,a.2.1,by omega,by omega,a.2.2.2.2⟩) _ (Qp o r u (m+1) (by omega) (by omega) (h.snoc o b c))
  |false=>
   have e:=o.tot _ _ (r.lt (by omega)) (r.lt (by omega)) (r.ne (by omega) (by omega) (by omega)) c;refine⟨r.lt (by omega),r.lt (by omega),r.ne (by omega) (by omega) (by omega),?_⟩;rw[e];exact⟨rfl,rfl,aD _,Nat.le_add_right _ _,h⟩
def Vo(hm:m<=p.size)(a:k<m):uv (kas_rev p 0 m) k=uv p (m- 1- k):=by
 refine Qo ?_;unfold kas_rev;rw[getElem?_mirror hm _ (by omega)];split
 .rw[bR]
 .have:k=m- 1- k:=by omega
  rw[<-this]
def YR(hm:m<=p.size)(h:KJ f p m):B9 f (kas_rev p 0 m) m:=λi j hi a=>by rw[Vo hm (by omega),Vo hm a];exact h _ _ (by omega) (by omega)
def YS(o:Ord n f)(r:Row n p)(b:1<=m)(c:m<=n)(h:KJ f p m):kG n f (kas_tail3 m n p) λx=>1<=x.1/\x.1<=n/\Row n x.2/\B9 f x.2 x.1:=by have a:Row n (kas_rev p 0 m):=r.perm (mirror_perm _ _ _ _);refine xf _ (uu (λx e=>?_) _ (NI o a (n- m) m b (by omega) (YR (by rw[r.sz];exact c) h)));exact⟨by omega,by omega,a,e.2.2⟩
def YT(o:Ord n f)(r:Row n p)(b:2<=n)(e:f (uv p 1) (uv p 0)=ag):kG n f (kas_descPart 1 n p) λx=>1<=x.1/\x.1<=n/\Row n x.2/\B9 f x.2 x.1:=by
 have d:KJ f p 2:=λi j hi c=>by
  obtain rfl:i=0:=by omega
  obtain rfl:j=1:=by omega
  exact e
 refine xf _ (uu (λx a=>?_) _ (Qp o r (n- 2) 2 (by omega) (by omega) d));obtain⟨q,m,z⟩:=x;obtain⟨e1,e2,e3,e4,e5⟩:=a;dsimp only at e1 e2 e3 e4 e5 |-;subst e1 e2;exact YS o r (by omega) (by omega) e5
def Vp(o:Ord n f)(r:Row n p)(h:2<=n):kG n f (kas_count n p) λx=>1<=x.1/\x.1<=n/\Row n x.2/\B9 f x.2 x.1:=by
 have key:kG n f (kas_asc p (n- 1) 1) λx=>1<=x/\x<=n/\B9 f p x/\(x=1->f (uv p 1) (uv p 0)=ag):=by
  obtain⟨u,i⟩:∃u,n- 1=u+1:=⟨n- 2,by omega⟩;rw[i];refine⟨r.lt (by omega),r.lt (by omega),r.ne (by omega) (by omega) (by omega),?_⟩;cases c:f _ _ with
  |true=>exact⟨aD _,by omega,B9.one,λ_=>by first|rfl|exact c⟩
  |false=>
   have e:=o.tot _ _ (r.lt (by omega)) (r.lt (by omega)) (r.ne (by omega) (by omega) (by omega)) c;exact uu (λx a=>⟨by omega,by omega,a.2.2,λz=>by omega⟩) _ (NI o r u 2 (by omega) (by omega) (B9.one.snoc o (aD _) e))
 refine xf _ (uu (λx a=>?_) _ key);obtain⟨b,g,ha,j⟩:=a;split
 .exact⟨b,g,r,ha⟩
 .split
  .refine⟨r.lt (by omega),r.lt (by omega),r.ne (by omega) (by omega) (by omega),?_⟩;rw[ha 0 (x- 1) (by omega) (by omega)];exact⟨b,g,r,ha⟩
  .obtain rfl:x=1:=by omega
   exact YT o r h (j rfl)
theorem DR(o:Ord n f)(r:Row n p)(a:k<n)(ha:B9 f p k):∀(u l h:Nat),l<=h->h<=k->h- l<=u->(∀i,i<l->f (uv p i) (uv p k)=ag)->(∀i,h<=i->i<k->f (uv p k) (uv p i)=ag)->
  kG n f (kas_place p k u l h) λx=>x<=k/\(∀i,i<x->f (uv p i) (uv p k)=ag)/\∀i,x<=i->i<k->f (uv p k) (uv p i)=ag
 |0,l,h,q,m,s,b,g=>⟨by omega,b,λi hi=>g i (by omega)⟩
 |u+1,l,h,q,m,s,b,g=>by
  unfold kas_place;split
  .exact⟨by omega,b,λi hi=>g i (by omega)⟩
  .refine⟨r.lt a,r.lt (by omega),r.ne a (by omega) (by omega),?_⟩;cases c:f _ _ with
   |true=>
    refine DR o r a ha u l _ (by omega) (by omega) (by omega) b λi hi j=>?_;by_cases z:i=(l+h)/2
    .rw[z];exact c
    .exact o.tr _ _ _ c (ha _ _ (by omega) j)
   |false=>
    have e:=o.tot _ _ (r.lt a) (r.lt (by omega)) (r.ne a (by omega) (by omega)) c;refine DR o r a ha u _ h (by omega) m (by omega) (λi hi=>?_) g;by_cases z:i=(l+h)/2
    .rw[z];exact e
    .exact o.tr _ _ _ (ha i _ (by omega) (by omega)) e
def YU(m:k<p.size)(u:x<=k)(ha:B9 f p k)(o:∀i,i<x->f (uv p i) (uv p k)=ag)(q:∀i,x<=i->i<k->f (uv p k) (uv p i)=ag):B9 f (bubble p k (k- x)) (k+1):=by
 have g:∀j,j<=k->uv _ j=if j=x then uv p k else if x<j then uv p (j- 1) else uv p j:=λj h=>by
  have e:=getElem?_bubble m (k- x) (by omega) j;have r:k- (k- x)=x:=by omega
  rw[r] at e;split at e
  .rename_i z;rw[if_pos z];exact Qo e
  .rename_i z;rw[if_neg z];split at e
   .rename_i y;rw[if_pos y.1];exact Qo e
   .rename_i y;rw[if_neg λs=>y ⟨s,h⟩];exact Qo e
 intro i j hi h;rw[g i (by omega),g j (by omega)];by_cases a:i=x
 .rw[if_pos a,if_neg (by omega),if_pos (by omega)];exact q _ (by omega) (by omega)
 .rw[if_neg a];by_cases b:x<i
  .rw[if_pos b,if_neg (by omega),if_pos (by omega)];exact ha _ _ (by omega) (by omega)
  .rw[if_neg b];by_cases c:j=x
   .rw[if_pos c];exact o _ (by omega)
   .rw[if_neg c];by_cases d:x<j
    .rw[if_pos d];by_cases e:i=j- 1
     .omega
     .exact ha _ _ (by omega) (by omega)
    .rw[if_neg d];exact ha _ _ hi (by omega)
theorem Vq(o:Ord n f):∀(u:Nat) (p:Array Nat) (k:Nat),Row n p->k+u=n->B9 f p k->kG n f (kas_bin u p k) λq=>Row n q/\B9 f q n
 |0,p,k,r,e,ha=>by
  obtain rfl:k=n:=by omega
  exact⟨r,ha⟩
 |u+1,p,k,r,e,ha=>by refine xf _ (uu (λx a=>?_) _ (DR o r (by omega) ha k 0 k (bD _) (aD _) (by omega) (λi hi=>by omega) (λi hi b=>by omega)));exact Vq o u _ (k+1) (r.perm (bubble_perm _ _ _)) (by omega) (YU (by rw[r.sz];omega) a.1 ha a.2.1 a.2.2)
def YV(o:Ord n f)(b:2<=n):kG n f (kas_sort n) λq=>Row n q/\B9 f q n:=by
 have r:Row n (ahJ (cy n)):=⟨by simp,by simp⟩;refine xf _ (uu (λx c=>?_) _ (Vp o r b));obtain⟨m,q⟩:=x;obtain⟨e,g,a,ha⟩:=c;split
 .rw[show max m 1=m by omega];exact Vq o (n- m) q m a (by omega) ha
 .obtain rfl:m=n:=by omega
  exact⟨a,ha⟩
end
open PySem.Spec
section
variable {s:av}
def Vr (h:aC)(a:List ai)(b:List aX):Prop:=∃fs,KatTups h a fs/\cX fs b
theorem uw:∀{c fs:List ai},KatTups h c fs->(∀b o,h.get? b=aa o->o.cls=.type fi->f.get? b=aa o)->KatTups f c fs
 |[],[],_,_=>trivial
 |[],_::_,t,_=>t.elim
 |_::_,[],t,_=>t.elim
 |_::_,_::_,⟨⟨a,o,xs,n,e,g,hc,hd,i⟩,t⟩,k=>⟨⟨a,o,xs,n,e,k a o g hc,hc,hd,i⟩,uw t k⟩
theorem yl:∀{b fs:List ai},KatTups h b fs->∀{i:Nat} {v:ai},b[i]?=aa v->∃a o xs n f,v=.ref a/\h.get? a=aa o/\o.data=.seq xs n/\xs[0]?=aa f/\fs[i]?=aa f
 |[],[],_,i,v,e=>by simp at e
 |[],_::_,t,_,_,_=>t.elim
 |_::_,[],t,_,_,_=>t.elim
 |_::_,f::_,⟨⟨a,o,xs,n,e,c,hc,hd,g⟩,t⟩,0,v,h=>by cases h;exact⟨a,o,xs,n,f,e,c,hd,g,rfl⟩
 |_::_,_::_,⟨_,t⟩,i+1,v,h=>by have:=yl t (by simpa using h);simpa using this
theorem rZ:∀{a fs:List ai},KatTups h a fs->a.length=fs.length
 |[],[],_=>rfl
 |[],_::_,t=>t.elim
 |_::_,[],t=>t.elim
 |_::_,_::_,⟨_,t⟩=>by rw[aU,aU,rZ t]
theorem zE:∀{fs:List ai} {a:List aX},cX fs a->∀{i:Nat} {f:ai},fs[i]?=aa f->∃k t,f=.str k t/\a[i]?=aa k
 |_,_,.nil,i,f,e=>by simp at e
 |_,_,.cons x t h,0,f,e=>by cases e;exact⟨x,t,rfl,rfl⟩
 |_,_,.cons x t h,i+1,f,e=>by have:=zE h (by simpa using e);simpa using this
def YW(a:List aX)(i j:Nat):Bool:=decide ((a.getD i "").cps.toList<(a.getD j "").cps.toList)
def YX(nd:a.Nodup):Ord a.length (YW a) where
 tr:=λi j k b c=>by exact decide_eq_true (List.lt_trans (of_decide_eq_true b) (of_decide_eq_true c))
 tot:=λi j hi f ne h=>by
  have h:=of_decide_eq_false h;refine decide_eq_true ?_;rcases List.le_iff_lt_or_eq.mp (gW.mp h) with z|z
  .exact z
  .refine absurd ?_ ne;have e:=L3.Qa z;rw[bv,bv,ax hi,ax f] at e;exact(eP nd).mp e.symm
def YY(J:Vr s.heap m g)(hi:i<m.length)(H:j<m.length)(nd:g.Nodup)(ne:i≠j)(h:C (YW g i j) s):kas_ask prog w A (tuples' ag) m i j C s:=by
 obtain⟨fs,t,st⟩:=J;have U:=rZ t;have Y:=st.length;obtain⟨a,o,xs,n,f,e,L,hd,c,M⟩:=yl t (ax hi);obtain⟨a',o',I,n',f',e',N,O,b,p⟩:=yl t (ax H);obtain⟨k,tk,rfl,u⟩:=zE st M;obtain⟨k',v,rfl,y⟩:=zE st p;unfold kas_ask;rw[bv,bv,ax hi,ax H,e,e'];refine kat_lt L hd N O ?_;obtain⟨r,er⟩:∃r,xs.toList=.str k tk::r:=by
  rw[<-ck] at c;cases q:xs.toList with
  |nil=>rw[q] at c;simp at c
  |cons x r=>rw[q] at c;simp at c;exact⟨r,by rw[c]⟩
 obtain⟨r',B⟩:∃r,I.toList=.str k' v::r:=by
  rw[<-ck] at b;cases q:I.toList with
  |nil=>rw[q] at b;simp at b
  |cons x r=>rw[q] at b;simp at b;exact⟨r,by rw[b]⟩
 rw[er,B];have Q:¬k=k':=λz=>by
  subst z;have T:i<g.length:=by omega
  have G:j<g.length:=by omega
  rw[ax T] at u;rw[ax G] at y;exact ne ((eP nd).mp ((bF u).trans (bF y).symm))
 refine kat_cons (ajz ?_);rw[decide_eq_false Q];refine oneLt_str ?_;have:YW g i j=decide (k.cps.toList<k'.cps.toList):=by unfold YW;rw[bv,bv,u,y,Option.getD_some,Option.getD_some]
 rw[<-this];exact h
def Ih(t:KatTups s.heap a fs)(st:cX fs f)(b:0<fs.length)(h:Q (tuples' ag) s):wpAny (model prog w) A (keyKind' a.toArray) Q E s:=by
 refine kat_kind (T:=.type hJ) t b (λv c=>?_) rfl ?_
 .obtain⟨i,hi,e⟩:=List.getElem_of_mem c;obtain⟨k,tk,e2,_⟩:=zE st (by rw[ax hi,e]);subst e2;exact .now
 .exact h
def Fy(B:s.heap.get? a=aa (ci cr f.toArray n))(Ky:f.length<64)(hh:Vr s.heap f G)(nd:G.Nodup)
(kI:∀(m:aC) (e:Nat) (p:Array Nat),(∀b o,b≠a->s.heap.get? b=aa o->m.get? b=aa o)->Row f.length p->B9 (YW G) p f.length->m.get? a=aa (ci cr (p.toList.map λi=>f.getD i cM).toArray e)->P (.done (.ret .none)) {s with heap:=m}):
  wpAny (model prog w) A (bM.«list.sort» ⟨[.ref a],[]⟩) P E s:=by
 obtain⟨fs,t,st⟩:=hh;have l1:=rZ t;have l2:=st.length;have s1:=cJ s.heap a (bY λ_=>(#[]:Array ai));obtain⟨e1,y⟩:∃e1,(s.heap.update a (bY λ_=>(#[]:Array ai))).get? a=aa (ci cr #[] e1):=⟨_,fE B λ_=>#[]⟩;have L:∀b o,b≠a->s.heap.get? b=aa o->(((s.heap.update a (bY λ_=>(#[]:Array ai))).push (ci fi f.toArray 0)).push (ci cr #[] 0)).get? b=aa o:=λb o H q=>
  aj _ (aj _ ((s1.2 b H).trans q))
 have g:(((s.heap.update a (bY λ_=>(#[]:Array ai))).push (ci fi f.toArray 0)).push (ci cr #[] 0)).get? a=aa (ci cr #[] e1):=aj _ (aj _ y);have M:=uw t λb o q c=>L b o (λz=>by subst z;rw[B] at q;cases q;exact absurd (c9.inj c) (by decide)) q
 rw[ajH];refine ae (aix B rfl ?_);refine ae (dR B rfl ?_ (by rw[aR,bp];omega) (bD _));refine ae (gF y rfl ?_);refine ae (aia ?_ (by show f.length<=_;rw[bp];omega));refine ae (fD ?_ (bD _));refine bS ?_;dsimp only;generalize hh6:((s.heap.update a (bY λ_=>(#[]:Array ai))).push (ci fi f.toArray 0)).push (ci cr #[] 0)=u at L g M |-;have last:∀out:List ai,out.length<64->∃m e,(∀b o,b≠a->s.heap.get? b=aa o->m.get? b=aa o)/\m.get? a=aa (ci cr out.toArray e)/\m=u.update a (bY λ_=>out.toArray):=λout hz=>by have s2:=cJ u a (bY λ_=>out.toArray);obtain⟨N,Uk⟩:∃N,(u.update a (bY λ_=>out.toArray)).get? a=aa (ci cr out.toArray N):=⟨_,fE g λ_=>out.toArray⟩;exact⟨_,N,λb o H q=>(s2.2 b H).trans (L b o H q),Uk,rfl⟩
 by_cases x:f.toArray.size<2
 .rw[if_pos x,if_pos x];rw[aR] at x;refine ae (ay ?_);rw[StateT.run_pure];refine ae (ay ?_);dsimp only;refine ae (gF g rfl ?_);have eo:=by show Array.map (·.2) (f.toArray.zip f.toArray)=f.toArray;simp;exact fR (aD _)
  rw[eo];refine ae (dR g rfl ?_ (bD _) (by rw[aR,bp];omega));simp only [bne_self_eq_false,dX,if_false];obtain⟨m,e,O,T,U⟩:=last f (by omega);rw[<-U];refine ay (kI m e (cy f.length).toArray O ⟨by simp,by simp⟩ (λi j hi hj=>by omega) ?_);rw[T];congr 3;have:(cy f.length).map (λi=>f.getD i cM)=f:=by
   apply List.ext_getElem
   .simp
   .intro i h1 x;simp at h1;simp[h1]
  simpa using this.symm
 .rw[if_neg x,if_neg x];rw[aR] at x;refine ae (Ih (s:={s with heap:=u}) M st (by omega) ?_);have o:=YX nd;rw[<-l2,<-l1] at o;have go:(kas_sort f.length).kasWp (kas_ask prog w A (tuples' ag) f) (λp v=>(Row f.length p/\B9 (YW G) p f.length)/\v={s with heap:=u}) {s with heap:=u}:=
   aaL (J:=λv=>v={s with heap:=u}) (λi j C v hi hj ne e hC=>by subst e;exact YY (s:={s with heap:=u}) ⟨fs,M,st⟩ hi hj nd ne (hC _ rfl)) (λp v h e=>⟨h,e⟩) _ _ rfl (YV o (by omega))
  refine ae (cn (kat_run (Q:=λI v=>∃p:Array Nat,p.size=f.length/\ahz I=p.map (kas_item (f.toArray.zip f.toArray))/\aiN I=ar/\(Row f.length p/\B9 (YW G) p f.length)/\v={s with heap:=u})
   rfl (by omega) Ky (λp' I v a1 a2 a3 a4=>⟨p',a1,a2,a3,a4⟩) go) ?_ λ_ _ e=>e)
  rintro⟨⟨⟩,I⟩ v ⟨p,hp,Y,hf,⟨r,ha'⟩,rfl⟩
  dsimp only;have x8:=kat_snds rfl Y;have u7:(p.toList.map λi=>f.getD i cM).length=f.length:=by rw[ao,b8,hp]
  rw[x8];obtain⟨m,e,O,T,U⟩:=last (p.toList.map λi=>f.getD i cM) (by omega);refine ae (gF g rfl ?_);refine ae (dR g rfl ?_ (bD _) (by rw[aR,u7,bp];omega));rw[hf];simp only [bne_self_eq_false,dX,if_false];rw[<-U];exact ay (kI m e p O r ha' T)
def NJ(u:s.heap.IsList l c.toArray)(v:c.length<64)(x:Vr s.heap c j)(nd:j.Nodup)
(y:∀(f:aC) (D:aw) (e:Nat) (p:Array Nat),(∀b o,s.heap.get? b=aa o->f.get? b=aa o)->s.heap.objs.size<=D->Row c.length p->B9 (YW j) p c.length->f.get? D=aa (ci cr (p.toList.map λi=>c.getD i cM).toArray e)->Q (.ref D) {s with heap:=f}):
  wpAny (model prog w) A (call (.builtin jm) [.ref l]) Q E s:=by
 refine gO aiD aiv aiw (ai4 _) ?_;refine ae (ay ?_);refine ae (ai6 u ?_ (by rw[bp];omega));refine ae (fD ?_ (by rw[bp];omega));have g:((s.heap.push (ci cr #[] 0)).update s.heap.objs.size (bY (·++c.toArray))).objs.size=s.heap.objs.size+1:=by rw[ahE,ahy]
 have m:(((s.heap.push (ci cr #[] 0)).update s.heap.objs.size (bY (·++c.toArray))).push (ci cr c.toArray 0)).get? (s.heap.objs.size+1)=aa (ci cr c.toArray 0):=by rw[<-g];exact aP _ rfl
 have keep:∀b o,s.heap.get? b=aa o->(((s.heap.push _).update _ _).push (ci cr c.toArray 0)).get? b=aa o:=λb o q=>by have h:=aM q;rw[gX _ _ _ (by rw[g];exact bd (cW h)),gz _ _ _ _ (bd h),gX _ _ _ (bd h)];exact q
 rw[g];refine ae (bS (cE aib ⟨_,m,rfl⟩ ah7 ?body (aiL _)));case body=>
  obtain⟨fs,t,st⟩:=x;refine Fy (s:={s with heap:=((s.heap.push _).update _ _).push _}) m v ⟨fs,uw t λb o q _=>keep b o q,st⟩ nd λf e p k r a q=>⟨_,rfl,ay ⟨_,rfl,?_⟩⟩;exact y f _ e p (λb o n=>k b o (λz=>absurd (aM n) (by rw[z];exact Nat.not_lt.mpr (cx _))) (keep b o n)) (cx _) r a q
end
section
variable {X:Cx}
def Vs(n:b.length=a.length)(r:Row a.length p)(ha:B9 (YW b) p a.length):KG b a (p.toList.map λi=>a.getD i cM):=by
 have o:b.zip a=(cy a.length).map λi=>(b.getD i "",a.getD i cM):=by
  apply List.ext_getElem
  .simp[n]
  .intro i f m;simp at f m;have q:i<b.length:=by omega
   simp[f,m,ax q]
 refine⟨p.toList.map λi=>(b.getD i "",a.getD i cM),?_,by rw[bx];rfl,?_⟩
 .rw[o];exact r.pm.map _
 .rw[List.pairwise_map,eY];intro i j hi c s;rw[b8,r.sz] at hi c;have h:=of_decide_eq_true (ha i j s c);have g:∀k (e:k<p.toList.length),uv p k=p.toList[k]:=λk e=>by rw[b8] at e;simp[e]
  rw[g i (by rw[b8,r.sz];exact hi),g j (by rw[b8,r.sz];exact c)] at h;unfold L3.Ap;rw[decide_eq_false (λz=>List.lt_irrefl _ (List.lt_trans h z))];rfl
theorem KL(I:Inv X cc σ H s):∀{b:List V} {c:List aX} {f:List ai},oK X.K H b c->Vals b f->∃fs,KatTups s.heap f fs/\cX fs c
 |[],[],_,_,.nil=>⟨[],trivial,.nil⟩
 |[],_::_,_,h,_=>h.elim
 |_::_,[],_,h,_=>h.elim
 |_::b,k::c,_,⟨⟨a,zs,e,h⟩,r⟩,.cons g t=>by
  subst e;obtain⟨fs,i,j⟩:=KL I r t;obtain⟨iM,m,⟨o,p,hc,n,hd⟩,_⟩:=I.tuple h;cases m with
  |cons q _=>
   obtain⟨tk,rfl⟩:=q;obtain rfl:=(g);exact⟨_::fs,⟨⟨a,o,_,n,rfl,p,hc,hd,rfl⟩,i⟩,.cons k tk j⟩
def Ii:ny X (.builtin jm) (λxs H Q=>∃p a b,xs=[.ref p]/\nI X.K H p a/\oK X.K H a b/\b.Nodup/\a.length<64/\∀l,H l=ar->Q (.ref l) (upd H l (.lst (lR b a)))):=by
 intro cc s σ H xs us Q I r h;obtain⟨p,a,b,rfl,m,n,nd,A,q⟩:=h;obtain⟨u,rfl,o⟩:=vals1 r;cases o;obtain⟨iM,c,pl,_⟩:=I.list m;have B:=c.length;obtain⟨fs,f,g⟩:=KL I n c;have C:=rZ f;have E:=g.length;refine NJ pl.isList (by omega) ⟨fs,f,g⟩ nd λv D e p kp i x ha j=>?_;rw[KH nd (Vs (by omega) x ha)] at j;have y:Vals (lR b a) _:=DN c;have z:(lR b a).length<=aO:=by unfold lR;rw[ao,(L3.qQ _ _).length_eq,cK];omega
 exact⟨.ref D,_,I.laid kp i (show kx X.prog X.w _ v _ (.lst _) from⟨z,lR b iM,e,y,j⟩),rfl,q D (I.ja.fresh i)⟩
end
end L2
section
open PySem PySem.Spec PyProof.Rows
namespace L3
open L2
def CG:GF:=λds M Q=>match ds with
 |[d]=>∃xs a,vw M d=.lst xs/\yi xs a/\a.Nodup/\xs.length<64/\Q (.lst (lR a xs)) M
 |_=>False
def Sg:JBF X (.builtin jm) CG:=by
 refine⟨λds M P Q w q=>?_,λcc s σ H xs us Q I rs h=>?_⟩
 .unfold CG at*;split at q
  .obtain⟨xs,c,e,b,f,i,q⟩:=q;exact⟨xs,c,e,b,f,i,w _ _ q⟩
  .exact q.elim
 .obtain⟨F,α,M,ds,o,j,h⟩:=h;unfold CG at h;split at h
  .obtain⟨xs,c,e,b,f,i,q⟩:=h;obtain⟨v,m,n⟩:=nS j;subst m;obtain⟨a,r,rfl,u,g⟩:=jN o n e;have y:=hZ.length _ _ g;exact Ii cc s σ H _ us Q I rs ⟨a,r,c,rfl,nI.of u,yj iJ b g,f,by omega,λp x=>q p _ α H Ext.refl o x ⟨_,rfl,DP g (yk b).symm⟩⟩
  .exact h.elim
end L3
namespace L2
def Iti(a:aw)(o:cC)(b:List (Key×V)):It:=⟨λi H=>H a=aa (.qd o (.dK b))/\i<b.length,
 λi H x c=>∃p k v,x=.ref p/\H p=ar/\b[i]?=aa (k,v)/\c=upd H p (.tup [kV k,v]),λi H=>H a=aa (.qd o (.dK b))/\i=b.length⟩
def aaM(h:(i7 P w).is k u=ag):RelV (kV k) u:=by
 cases k with
 |inl i=>
  have h:ahW i u=ag:=h;cases u<;>first|(simp[ahW] at h;done)|skip
  simp[ahW] at h;subst h;exact⟨_,rfl⟩
 |inr x=>
  have h:d8 x u=ag:=h;cases u<;>first|(simp[d8] at h;done)|skip
  simp[d8] at h;subst h;exact⟨_,rfl⟩
def tnI (it a:aw)(o:cC)(n:Nat)(i:Nat)(h:aC):Prop:=∃es b ok c,o.data=.dict es b/\IsItemIter h it a i n b ok c
def Qq(r:KV a b){i:Nat}{k:Key}(h:a[i]?=aa (k,v)):∃u,b[i]?=aa (k,u)/\RelV v u:=by
 induction r generalizing i with
 |nil=>simp at h
 |@cons p q _ _ r _ c=>
  cases i with
  |zero=>
   simp at h;subst h;exact⟨q.2,by simp;exact Prod.ext r.1.symm rfl,r.2⟩
  |succ i=>
   obtain⟨u,e,f⟩:=c (by simpa using h);exact⟨u,by simpa using e,f⟩
def NK{P:bc}{w:bI}{K:bz}{elts:List bJ}{n:Nat}{pos:eL}(it a:aw)(o:cC)(f:List (Key×V)):Turn P w K (.Tuple elts n pos) (Iti a o f) [it] it (tnI it a o f.length) where
 mem:=by simp
 obj:=λi h st b hb=>by obtain⟨es,c,ok,g,_,e⟩:=st;cases bj.mp hb;exact⟨_,e,λv z=>by cases z⟩
 keep:=λi h Y st k=>by obtain⟨es,c,ok,g,d,e⟩:=st;exact⟨es,c,ok,g,d,k it (by simp) _ e⟩
 item:=by intro X B hw C hc i cc s σ H E I y st G;subst B hw C;obtain⟨es,c,ok,g,d,e⟩:=st;obtain⟨J,hi⟩:=G;obtain⟨j,z,hd,vs,rel,ob,Po,L,m,c1,r,M⟩:=(show kx X.prog X.w H s.heap a (.qd o (.dK f)) from I.ja a _ J);rw[j] at m;cases m;rw[d] at r;cases r;obtain⟨⟨k,v⟩,hx⟩:∃p,f[i]?=aa p:=⟨_,ax hi⟩;obtain⟨u,hu,ru⟩:=Qq rel hx;rw[rel.length] at e;refine wpAny_pyNext_items_item (knd:=i7 X.prog X.w) e ⟨o,es,j,c1,d,M⟩ hu λkey Y hk x8 hT hz N=>⟨.ref s.heap.objs.size,rfl,?_⟩;refine wpAny_letOwnedTupleGo_items x8 λO C8 hs=>?_;have x:s.heap.objs.size≠it:=λz=>absurd (aM e) (by rw[<-z];exact cD _);have kk:∀b q,b∉[it]->s.heap.get? b=aa q->O.get? b=aa q:=λb q hb T=>(hs.2 b (λz=>hb (by simp[z]))).trans (N b q (λz=>hb (by simp[z])) T);have U:aih O s.heap.objs.size #[key,u]:=⟨_,(hs.2 _ x).trans hT,rfl,_,rfl⟩;have UV:H s.heap.objs.size=ar:=I.ja.fresh (aD _);have I2:Inv X cc σ (upd H s.heap.objs.size (.tup [kV k,v])) {s with heap:=O,toks:=s.toks}:=I.HI [it] kk (λb hb=>y b hb) (aD _) (by show 2<=aO;decide) (iM:=[key,u]) (.cons (aaM hk) (.cons ru .nil)) U;refine⟨.ref s.heap.objs.size,_,I2,rfl,⟨_,k,v,rfl,UV,hx,rfl⟩,⟨es,c,_,_,d,by rw[rel.length];exact C8⟩,λb hb=>?_⟩;rw[ii λq=>x (by rw[<-q];exact bj.mp hb)];exact(y b hb).1
 done:=by intro X B hw C hc i cc s σ H E I y st G;subst B hw C;obtain⟨es,c,ok,g,d,e⟩:=st;obtain⟨J,rfl⟩:=G;obtain⟨j,z,hd,vs,rel,ob,Po,L,m,c1,r,M⟩:=(show kx X.prog X.w H s.heap a (.qd o (.dK f)) from I.ja a _ J);rw[j] at m;cases m;rw[d] at r;cases r;have J8:X.A.handled=ar:=I.ok.hd hc;rw[rel.length] at e;refine wpAny_pyNext_items_end (knd:=i7 X.prog X.w) J8 e ⟨o,es,j,c1,d,M⟩ (by simp) λY he=>⟨rfl,?_⟩;exact I.HH (t':=s.toks) [it] (λb q hb T=>he b q (λz=>hb (by simp[z])) T) (λb hb=>y b hb)
 self:=λA i s Q E st h=>by obtain⟨es,c,ok,g,d,e⟩:=st;exact W.kcp_self e h
section
variable {X:Cx} {apos lQ:eL}
def acn (X:Cx)(to:TE):TI:=λσ H R=>to σ H λx H1=>∃a b,x=.ref a/\
 ((H1 a=aa (.dK b)/\∀o,(∀o u,X.je a≠aa (.qd o u))->R (Iti a o b) (upd H1 a (.qd o (.dK b))))\/∃o,H1 a=aa (.qd o (.dK b))/\R (Iti a o b) H1)
def Vt(L:PE X o to)(M:dP o "items" X.env (eval o X.env)=eval o X.env:=by rfl)(N:(apos.endLine==lQ.line)=ag:=by rfl):
  PI X (.Tuple elts n ze) (.Call (.Attribute o "items" apos) [] [] lQ) (acn X to):=by
 intro cc s σ H R I h;refine wpAny_Call_method0_late M N (lB (L cc s σ H _ I h) λv s1 O=>?_);obtain⟨x,H1,I1,Q,a,f,e,q⟩:=O;subst e;obtain rfl:v=bE a:=Q;have key:∃i ob,i a=aa (.qd ob (.dK f))/\Inv X cc σ i s1/\R (Iti a ob f) i:=by
  rcases q with⟨y,q⟩|⟨ob,y,q⟩
  .obtain⟨ob,g,j,T⟩:=I1.freeze y;exact⟨_,ob,iE,j,q ob T⟩
  .exact⟨H1,ob,y,I1,q⟩
 obtain⟨i,ob,U,j,q⟩:=key;have A:=(show kx X.prog X.w i s1.heap a (.qd ob (.dK f)) from j.ja a _ U);obtain⟨c,z,hd,r,rel,Y,es,m,C,c1,B,E⟩:=A;rw[c] at C;cases C;have p:s1.heap.DictOf (i7 X.prog X.w) a r:=⟨ob,es,m,c,c1,B,E⟩;refine⟨fw,"dict.items",PySem.F.plainAttrs_dict,PySem.F.slot_dict_items,PySem.F.type_dict_items,⟨ob,c,c1.1⟩,λb e=>?_,Calls.callWith_builtin rfl (PySem.evalArgs_none ?_)⟩
 .cases e;exact⟨ob,c,c1.2.1⟩
 refine gS PySem.F.slot_dict_items p.typeIs PySem.F.entry_dict_items (PySem.F.args_dict_items_1 _) (meets_dict_items (i7 X.prog X.w) a hd) ⟨⟨r,p⟩,?_⟩;have G:∀b u,s1.heap.get? b=aa u->(s1.heap.push {cls:=.type "dict_items",data:=.fields #[.ref a]}).get? b=aa u:=λb u e=>aj _ e;refine wpAny_pyIter_items (knd:=i7 X.prog X.w) (d:=a) (kvs:=r) (ep:=m) ⟨_,aP _ rfl,rfl,rfl⟩ ⟨ob,es,G a ob c,c1,B,E⟩ ?_;have g2:∀b u,s1.heap.get? b=aa u->((s1.heap.push {cls:=.type "dict_items",data:=.fields #[.ref a]}).push {cls:=.type zv,data:=.fields #[.none,.bool au,.ref a,.int 0 0,.int r.length 0,.int m 0,.none,.none]}).get? b=aa u:=
  λb u e=>aj _ (G b u e)
 have J:s1.heap.objs.size<=(s1.heap.push {cls:=.type "dict_items",data:=.fields #[.ref a]}).objs.size:=by rw[ahy];exact cx _
 refine⟨_,[_],tnI _ a ob f.length,Iti a ob f,i,rfl,j.kept (t':=s1.toks) g2,NK _ a ob f,⟨es,m,.none,.none,B,?_⟩,λb hb=>?_,q⟩
 .rw[rel.length];exact aP _ rfl
 .cases bj.mp hb;exact j.JQ J (j.ja.fresh J)
end
end L2
namespace L3
open L2
def BI:Key->D
 |.inl i=>.int i
 |.inr x=>.str x
def Qr{K:bz}(k:Key):Rep K α H (BI k) (kV k):=by cases k<;>(unfold BI;rfl)
def r6(a:List Key)(ds:List D):List D:=c8 (λk d=>.tup [BI k,d]) a ds
section
variable {X:Cx}
def KN{M1:Ms}(j:jU F e M1 H1 a=aa (.qd ob (.dK (b.zip c))))(L:b.length=ds.length)(m:hZ X.K e (jU F e M1 H1) ds c):
  Yo X.K F e H1 M1 (Iti a ob (b.zip c)) (r6 b ds) (λ_=>True):=by
 have lv:=hZ.length _ _ m;have A:(r6 b ds).length=ds.length:=by unfold r6;rw[gy];omega
 have B:(b.zip c).length=(r6 b ds).length:=by rw[cK,A];omega
 refine⟨λi n q r u p s o _ hi=>⟨(iW (s a _ j)).2,by omega⟩,λi n q r u x M d C s o _ hd y=>?_,λn q r u p s o _=>⟨(iW (s a _ j)).2,B.symm⟩⟩;obtain⟨p,k,v,rfl,w,f,rfl⟩:=y;have z:=cL.mp f;have E:=z.2;have G:=z.1;obtain⟨H,h,I⟩:=hZ.get' ds c i v m E;have J:=by
  have g:(r6 b ds)[i]?=aa (.tup [BI k,H]):=by show(c8 _ b ds)[i]?=_;rw[ahT,G,h]
  rw[hd] at g;exact bF g
 subst J;obtain⟨o2,e2⟩:=o.laid w;exact⟨o2,e2,my o w (hZ.cons (Qr k) (hZ.cons (Rep.mono C s _ _ I) hZ.nil)) e2⟩
def Qs (to:DE):DI:=λb M Q=>to b M λd M1=>∃a ds,d=.kE a ds/\Q (r6 a ds) (λ_=>True) M1
def Vv(c:JE X o to)(s:dP o "items" X.env (eval o X.env)=eval o X.env:=by rfl)(u:(apos.endLine==x.line)=ag:=by rfl):
  JI X (.Tuple elts n C) (.Call (.Attribute o "items" apos) [] [] x) (Qs to):=by
 refine⟨λb M P Q w q=>c.mono b _ _ _ (λd M1 q=>?_) q,PI.weak (Vt c.p s u) λσ H Q q=>?_⟩
 .obtain⟨f,ds,e,q⟩:=q;exact⟨f,ds,e,w _ _ _ q⟩
 .obtain⟨F,α,b,M,r,q⟩:=q;refine⟨F,α,b,M,r,c.mono b _ _ _ (λd M1 q v i H1 e1 o1 y=>?_) q⟩;obtain⟨f,ds,rfl,q⟩:=q;obtain⟨a,A,rfl,g,j,m⟩:=y;refine⟨a,f.zip A,rfl,?_⟩;rcases g with h|⟨ob,h⟩
  .obtain⟨na,ha⟩:=iW h;refine .inl ⟨ha,λob B=>?_⟩;have z:=Kb.dict (ob:=ob) o1 ha na B;exact q _ i H1 _ _ e1 o1 z (KN (kt na iE rfl) j (hZ.imp z.rep _ _ m))
  .obtain⟨na,ha⟩:=iW h;exact .inr ⟨ob,ha,q _ i H1 H1 id e1 o1 (Kb.refl o1) (KN h j m)⟩
end
end L3
namespace L2
def aco(args:Args):bM.«dict.__eq__» args=(do
  let(self,other)<-bM.Dict.dictSlotArgs "__eq__" args
  if !(<-ajm other (.type fw)) then rule "dict.__eq__.not-a-dict";return<-ret .notImplemented
  ret (.bool ((<-gJ "dict.__eq__" (<-bM.Dict.addrOf self) (<-bM.Dict.addrOf other))==ag))):=rfl
section
variable {A:bH} {s:av} {K:Type} [DecidableEq K] {knd:PySem.KeyKind prog w K} {vs ws:List (K×ai)}
def NM(hb:∀i,i<n->∀e:ForInStep β->av->Prop,e (.yield c) s->wpAny M A (body i c) e E s)(h:Q c s):
  wpAny M A (forIn [0:n] c body) Q E s:=by
 rw[Std.Legacy.Range.forIn_eq_forIn_range'];have gen:∀l:List Nat,(∀i∈l,i<n)->wpAny M A (forIn l c body) Q E s:=by
  intro l;induction l with
  |nil=>intro _;exact ay h
  |cons x r g=>
   intro f;rw[ahN];refine ae (hb x (f x aN) _ ?_);exact g λi hi=>f i (aB _ hi)
 refine gen _ λi hi=>?_;simp[Std.Legacy.Range.size] at hi;omega
def NN{id:String}(ha:(a==cb)=au)(hb:(b==cb)=au)(L:s.heap.DictOf knd a vs)(M:s.heap.DictOf knd b ws)(N:vs.length=ws.length)
(r:∀k v,(k,v)∈vs->∃g,dS ws k=aa g/\bZ A s v g ag)(h:Q ag s):wpAny (model prog w) A (gJ id a b) Q E s:=by
 obtain⟨o,es,ep,m,hc,hd,O,G,hn⟩:=L;obtain⟨o',n,T,u,U,x,Y,y,hn'⟩:=M;have z1:es.size=vs.length:=by rw[<-G.length];simp
 have z2:n.size=ws.length:=by rw[<-y.length];simp
 unfold gJ bM.Dict.showsAll;rw[if_neg (by rw[ha];exact aS),if_neg (by rw[hb];exact aS)];refine ae (ay ?_);refine ae (ay ?_);refine ae (eV m hd ?_);refine ae (eV u x ?_);rw[if_neg (by rw[z1,z2,N];simp)];refine ae (ajJ m hd ?_);refine ae (NM (λi hi R' hR=>?_) ?_)
 .refine ae (eV m hd ?_);rw[dq hi];have PP:i<vs.length:=by omega
  obtain⟨⟨k,v⟩,H⟩:∃p,vs[i]?=aa p:=⟨_,ax PP⟩;have B:es.toList[i]?=aa es[i]:=by rw[ck,dq hi]
  obtain⟨p1,p2⟩:=G.get? B H;obtain⟨q,I,q2⟩:=O es[i] (Array.getElem_mem hi);have ek:=knd.inj _ _ _ I p1;subst ek;obtain⟨g,c,heq⟩:=r q v (bA H);have C:∃j,(n.findIdx? λe=>knd.is q e.key)=aa j/\∃f,n[j]?=aa f/\f.val=g:=by
   cases z:n.toList.findIdx? λe=>knd.is q e.key with
   |none=>
    rw[<-y.find q] at c;rw[List.findIdx?_eq_none_iff] at z;rw[List.find?_eq_none.mpr λe r=>by rw[z e r];exact aS] at c;cases c
   |some j=>
    obtain⟨f,f1,f2,J⟩:=y.at z;refine⟨j,(List.findIdx?_toArray _ _).trans z,f,by rw[<-ck];exact f1,?_⟩;rw[c] at J;exact(bF J).symm
  obtain⟨j,hj,f,hf,rfl⟩:=C;refine ae (bS ?_);rw[q2];refine ae (ajw I u x Y ?_);rw[hj];refine ae (eV u x ?_);rw[hf];refine bS ?_;rw[p2];refine heq prog w _ _ ?_;refine ae (ajJ m hd ?_);rw[if_neg (by simp)];exact ay hR
 .exact ay h
def BJ(g:A.units<eB)(ha:(a==cb)=au)(hb:(b==cb)=au)(c:s.heap.DictOf knd a vs)(e:s.heap.DictOf knd b ws)(i:vs.length=ws.length)
(j:∀k v,(k,v)∈vs->∃f,dS ws k=aa f/\bZ A.in1 s v f ag)(h:Q (.bool ag) s):wpAny (model prog w) A (compareOp .Eq (.ref a) (.ref b)) Q E s:=by show wpAny _ A (richCompare .Eq (.ref a) (.ref b)) Q E s;refine aiG c.typeIs e.typeIs PySem.F.slot_dict_eq (cE PySem.F.slot_dict_eq c.typeIs PySem.F.entry_dict_eq ?_ (PySem.F.args_dict_eq_2 _ _)) g;refine ae ?_;refine ay ?_;refine ae (aiC e.typeIs PySem.F.kt_sub_dict ?_);refine ae (ay ?_);refine ae (ay ?_);refine ae (NN ha hb c e i j ?_);exact ay ⟨_,rfl,(λz=>nomatch z),h⟩
end
end L2
namespace L3
open L2
def NO (b:List Key)(ds:List D)(c:List Key)(e:List D):Prop:=
 b.length=c.length/\∀(i:Nat) (k:Key) (d:D),b[i]?=aa k->ds[i]?=aa d->∃a,nK k c e=aa a/\okE d a/\AD d a=ag
def KO (r:Bool):G2:=λx y M Q=>match vw M x,vw M y with
 |.kE a ds,.kE b c=>NO a ds b c/\Q (.bl r) M
 |_,_=>False
def NP:vI (KO r):=by
 intro x y M P Q w q;unfold KO at*;generalize vw M x=a at q |-;generalize vw M y=b at q |-;split at q
 .exact⟨q.1,w _ _ q.2⟩
 .exact q.elim
section
variable {X:Cx}
def Sj(hu:X.A.units+64<eB)(I:L2.Inv X cc σ H s)(o:OK X.K F α H M)
(Q:Rep X.K α (jU F α M H) T x)(U:Rep X.K α (jU F α M H) Y y)(e1:vw M T=.kE j ds)(e2:vw M Y=.kE B C)(h:NO j ds B C):
  ∃a b c ws,x=.ref a/\y=.ref b/\(a==cb)=au/\(b==cb)=au/\s.heap.DictOf (i7 X.prog X.w) a c/\s.heap.DictOf (i7 X.prog X.w) b ws/\c.length=ws.length/\
   ∀k v,(k,v)∈c->∃f,dS ws k=aa f/\bZ X.A.in1 s v f ag:=by
 obtain⟨a,c,rfl,q1,l1,E⟩:=oG o Q e1;obtain⟨b,ws,rfl,q2,l2,G⟩:=oG o U e2;obtain⟨_,n1,us,J,d1⟩:=rW I.ja q1;obtain⟨_,n2,m,L,d2⟩:=rW I.ja q2;have m1:=hZ.length _ _ E;have m2:=hZ.length _ _ G;have p1:=J.length;have p2:=L.length;rw[cK] at p1 p2;refine⟨a,b,us,m,rfl,rfl,n1,n2,d1,d2,by have:=h.1;omega,λk u YI=>?_⟩;obtain⟨i,hi⟩:=cO.mp YI;have PP:i<(j.zip c).length:=by have:=(ak.mp hi).1;rw[cK];omega
 obtain⟨⟨k0,v⟩,N⟩:∃p,(j.zip c)[i]?=aa p:=⟨_,ax PP⟩;obtain⟨u0,e,ru⟩:=Qq J N;rw[hi] at e;cases e;have O:=cL.mp N;obtain⟨d,hd,rd⟩:=hZ.get' ds c i v E O.2;obtain⟨g,g1,⟨c1,n,c3,c4⟩,g3⟩:=h.2 i k d O.1 hd;obtain⟨f,g4,q⟩:=(pR B C ws G l2).1 g g1;obtain⟨r,g5,z⟩:=sH.some_of (by rw[<-g4];exact L.val k);obtain⟨as,w1⟩:=Rep.reads I _ v u (Rep.mono (aV _) iJ _ _ rd) ru c1;obtain⟨bs,w2⟩:=Rep.reads I _ f r (Rep.mono (aV _) iJ _ _ q) z n;refine⟨r,g5,?_⟩;have dd:=toP_depth d;have:=SeqAt.eqAt_reads (toP d) (toP g) X.A.in1 s u r as bs w1 w2 (toP_lay d c1) (toP_lay g n) (by show X.A.units+1+_<_;omega);rw[toP_eqv d g c1 n,g3] at this;exact this
def acp(c:X.A.units+64<eB):JC X .Eq (KO ag):=by
 refine⟨NP,λcc s σ H x y v u Q I e f h=>?_⟩;obtain⟨F,α,M,r,w,o,g,i,h⟩:=h;unfold KO at h;split at h
 .rename_i e1 e2;obtain⟨a,b,z,ws,rfl,rfl,j,m,n,p,l,q⟩:=Sj c I o g i e1 e2 h.1;obtain rfl:v=bE a:=e;obtain rfl:u=bE b:=f;exact BJ (by omega) j m n p l q ⟨.bl ag,H,I,rfl,vK.now o h.2 jG⟩
 .exact h.elim
end
section
variable {X:Cx}
def YZ(h:b∈lv α (M.set k ar)):b∈lv α M:=by
 obtain⟨j,o,c,a⟩:=nL.mp h;have e:j≠k:=λz=>by
  subst z;by_cases f:j<M.length
  .rw[bn f] at a;cases a
  .rw[eD (by rw[de];omega)] at a;cases a
 rw[aJ λz=>e z.symm] at a;exact nL.mpr ⟨j,o,c,a⟩
def OK.give{K:bz}(o:OK K F α H M)(k:Nat):OK K F α H (M.set k ar)/\Ext F α H M α H (M.set k ar):=by
 have c:kC (jU F α M H) (jU F α (M.set k ar) H):=λb x h=>by
  obtain⟨n,q⟩:=iW h;refine mL h (λw=>n ?_) q;rcases bt.mp w with w|w
  .exact bW _ (YZ w)
  .exact bL _ w
 refine⟨⟨by rw[de];exact o.ml,o.nd,o.fr,o.al,λj x h=>?_,o.tb⟩,aV _,c,λ_ _=>rfl⟩;have e:j≠k:=λz=>by
  subst z;by_cases f:j<M.length
  .rw[bn f] at h;cases h
  .rw[eD (by rw[de];omega)] at h;cases h
 rw[aJ λz=>e z.symm] at h;obtain⟨a,g,i⟩:=o.own j x h;exact⟨a,g,i.mono (aV _) c rfl⟩
def KP (i:Nat):DE:=λa M Q=>∃(k:Nat) (es:List D),a[i]?=aa (aa (.loc k))/\M[k]?=aa (aa (.lst es))/\Q (.lst es) (M.set k ar)
def Vw(i:Nat)(o:X.N[i]?=aa x:=by rfl)(p:Vis X.env.scope x:=by first|exact ahS rfl|exact ahA (ahS rfl)|exact ahA (ahA rfl))(hd:(x==(fy:aX))=au:=by decide)
(s:(x==(tS:aX))=au:=by decide):JE X (.Name x pos) (KP i):=by
 refine⟨λu M P Q h q=>?_,PE.weak (MK o p hd s) λσ H Q h=>?_⟩
 .obtain⟨k,es,c,f,q⟩:=q;exact⟨k,es,c,f,h _ _ q⟩
 .obtain⟨F,α,u,M,r,k,es,c,f,q⟩:=h;obtain⟨v,e,y⟩:=r.sl i _ c;obtain⟨a,g,rfl⟩:=y;obtain⟨E,m,z,A,B⟩:=r.ok.own k _ f;rw[g] at m;cases m;obtain⟨o2,e2⟩:=r.ok.give k;refine⟨.ref a,e,q _ α H e2 o2 ?_⟩;refine⟨a,z,rfl,kt (λw=>?_) A rfl,e2.Dc B⟩;rcases bt.mp w with w|w
  .obtain⟨j,x,n,b⟩:=nL.mp w;have:j=k:=(fF (ak.mp n).1 r.ok.nd).mp (n.trans g.symm);subst this;by_cases C:j<M.length
   .rw[bn C] at b;cases b
   .rw[eD (by rw[de];omega)] at b;cases b
  .exact(r.ok.fr a w).1 (bA g)
end
end L3
namespace L2
end L2
namespace L3
open L2
end L3
namespace L2
end L2
namespace L3
open L2
section
variable {X:Cx}
def KQ:GM:=λd ds M Q=>match vw M d,ds with
 |.kE b es,[k]=>∃a,Kg k=aa a/\Q ((nK a b es).getD .non) M
 |.kE b es,[k,x]=>∃a,Kg k=aa a/\Q ((nK a b es).getD x) M
 |_,_=>False
def acq(o:X.A.units+1<eB):JM X "dict.get" KQ:=by
 refine⟨λd ds M P Q w q=>?_,λcc s σ H x xs v us Q I L rs h=>?_⟩
 .unfold KQ at q |-;generalize vw M d=a at q |-;split at q<;>first
   |exact q.elim
   | (obtain⟨k,i,b⟩:=q;exact⟨k,i,w _ _ b⟩)
 .obtain⟨F,α,M,d,ds,ok,r,N,h⟩:=h;unfold KQ at h;generalize e1:vw M d=a at h;split at h<;>first|exact h.elim|skip
  .obtain⟨j,i,b⟩:=h;obtain⟨a,p,rfl,m,u,z⟩:=oG ok r e1;obtain⟨B,rfl,C⟩:=nS N;cases qP C i;obtain rfl:v=bE a:=L;obtain⟨B,rfl,n⟩:=vals1 rs;have g:=pR (k:=j) _ _ p z u;cases e:nK j _ _ with
   |none=>
    rw[e] at b;refine Ui o I (tH.kr m) n λE s3 c f=>⟨_,H,c,f,?_⟩;rw[g.2 e];exact vK.now ok b qt
   |some y=>
    rw[e] at b;obtain⟨T,G,J⟩:=g.1 y e;refine Ui o I (tH.kr m) n λE s3 c f=>⟨_,H,c,f,?_⟩;rw[G];exact vK.now ok b J
  .obtain⟨j,i,b⟩:=h;obtain⟨a,p,rfl,m,u,z⟩:=oG ok r e1;obtain⟨B,U,rfl,C,Y⟩:=xF N;cases qP C i;obtain rfl:v=bE a:=L;obtain⟨B,U,rfl,n,O⟩:=vals2 rs;have g:=pR (k:=j) _ _ p z u;cases e:nK j _ _ with
   |none=>
    rw[e] at b;refine Uj o I (tH.kr m) n O λE s3 c f=>⟨_,H,c,f,?_⟩;rw[g.2 e];exact vK.now ok b Y
   |some y=>
    rw[e] at b;obtain⟨T,G,J⟩:=g.1 y e;refine Uj o I (tH.kr m) n O λE s3 c f=>⟨_,H,c,f,?_⟩;rw[G];exact vK.now ok b J
def Ca:GN:=λds M Q=>match ds with
 |[.int i]=>Q (.int i) M
 |[.bl b]=>Q (.int (if b then 1 else 0)) M
 |_=>False
def Ij:JB X (.type hH) Ca:=by
 refine⟨λds M P Q w q=>?_,λcc s σ H xs us Q I rs h=>?_⟩
 .unfold Ca at q |-;split at q<;>first|exact q.elim|exact w _ _ q
 .obtain⟨F,α,M,ds,o,b,h⟩:=h;unfold Ca at h;split at h<;>first|exact h.elim|skip
  .obtain⟨v,rfl,a⟩:=nS b;unfold Rep at a;subst a;exact F8 cc s σ H _ us Q I rs (.inl ⟨_,rfl,vK.now o h jB⟩)
  .obtain⟨v,rfl,a⟩:=nS b;unfold Rep at a;subst a;exact F8 cc s σ H _ us Q I rs (.inr ⟨_,rfl,vK.now o h jB⟩)
end
end L3
end
namespace L2
def ka.un1{k:Nat}{A:PySem.Around}(h:ka k A):A.units+100<PySem.cLine:=by have:=h.un;omega
end L2
section
open PySem PySem.Spec PyProof.Rows
namespace L3
open L2
def agS (x:D)(ds:List D):Prop:=pl x=ag/\dp x<=60/\Cz ds=ag/\Fm ds<=60
def NQ:G2:=λx y M Q=>match vw M y with
 |.lst ds=>agS (vw M x) ds/\Q (.bl (ds.any λy=>AD y (vw M x))) M
 |_=>False
section
variable {X:Cx}
def lay_of{d:D}(p:pl d=ag)(q:dp d<=60):(toP d).canLay0=ag:=by have:=oI p q;unfold SeqAt.shaped at this;rw[aZ] at this;exact this.1
theorem Qt{cc:List (aw×cC)}{σ:L2.St}{H:Hp}{s:av}{α:List aw}(I:L2.Inv X cc σ H s){b:D}{x:V}{v:ai}(h:Rep X.K α H b x)(i:L2.RelV x v)(c:pl b=ag)(j:dp b<=60)(f:X.A.units+100<eB):∀(ds:List D) (e:List V) (us:List ai),hZ X.K α H ds e->Vals e us->Cz ds=ag->Fm ds<=60->
  (∀u∈us,bZ X.A.in1 s u v ((ahF s.heap u).eqv (toP b)))/\(us.any λu=>(ahF s.heap u).eqv (toP b))=ds.any λy=>AD y b
 |[],e,us,r,rs,_,_=>by unfold hZ at r;subst r;cases rs;exact⟨λu f=>absurd f (by simp),rfl⟩
 |d::ds,e,us,r,rs,p,q=>by
  unfold hZ at r;obtain⟨w,ws,rfl,B,C⟩:=r;cases rs with
  |cons a t=>
   rename_i u us;unfold Cz at p;rw[aZ] at p;unfold Fm at q;have m:dp d<=60:=bG (Nat.le_max_left _ _) q;have E:Fm ds<=60:=bG (Nat.le_max_right _ _) q;obtain⟨G,J⟩:=Qt I h i c j f ds ws us C t p.2 E;obtain⟨bs,L⟩:=Rep.reads I _ x v h i c;obtain⟨as,n⟩:=Rep.reads I _ _ _ B a p.1;have o:=SeqAt.readOf_eq (lay_of p.1 m) n;have M:=W.keq_at (A:=X.A) n L (oI p.1 m) (oI c j) (by show X.A.units+1+64<_;omega);refine⟨λz g=>?_,?_⟩
   .rcases aH.mp g with rfl|g
    .rw[o];exact M
    .exact G z g
   .rw[c7,c7,J,o,toP_eqv _ _ p.1 c]
def acr(e:X.A.units+100<eB):JC X .In NQ:=by
 refine⟨λx y M P Q w q=>?_,λcc s σ H x y v u Q I f g h=>?_⟩
 .unfold NQ at q |-;split at q
  .exact⟨q.1,w _ _ q.2⟩
  .exact q.elim
 .obtain⟨F,α,M,b,J,o,i,j,h⟩:=h;unfold NQ at h;split at h
  .rename_i ds e1;obtain⟨⟨c1,m,n,p⟩,h⟩:=h;obtain⟨a,z,rfl,B,C⟩:=jN o j e1;obtain rfl:u=bE a:=g;obtain⟨iM,r,c,L⟩:=I.list (nI.of B);obtain⟨E,G⟩:=Qt I (Rep.mono (aV _) iJ _ _ (xW o _ _ i)) f c1 m e ds z iM (hZ.mono (aV _) iJ _ _ C) r n p;refine SeqAt.in_listAt (λu=>(ahF s.heap u).eqv (toP (vw M b))) c.isList (λw hw=>E w (by simpa using hw)) ⟨.bl _,H,I,rfl,?_⟩;rw[show(iM.toArray.any λu=>(ahF s.heap u).eqv (toP (vw M b)))=iM.any λu=>(ahF s.heap u).eqv (toP (vw M b)) by simp,G];exact vK.now o h jG
  .exact h.elim
end
end L3
namespace L2
section
variable {κ:Type} [DecidableEq κ]
end
end L2
namespace L3
open L2
end L3
namespace L2
end L2
namespace L3
open L2
section
variable {keys:List (Option bJ)}
end
end L3
namespace L2
section
variable {prog:bc} {w:bI} {A:bH} {E:ai->av->Prop} {s:av} {a b:aw} {K:Type} [DecidableEq K] {knd:PySem.KeyKind prog w K} {vs ws:List (K×ai)}
def Vx(f:A.units<eB)(ha:(a==cb)=au)(hb:(b==cb)=au)(g:s.heap.DictOf knd a vs)(i:s.heap.DictOf knd b ws)(j:vs.length=ws.length)
(m:∀k v,(k,v)∈vs->∃c,dS ws k=aa c/\bZ A.in1 s v c ag)(h:Q ag s):wpAny (model prog w) A (eqBool (.ref a) (.ref b)) Q E s:=by
 by_cases e:a=b
 .subst e;exact bZ.same _ prog w E Q h
 .refine bS (ajK (λz=>absurd (by have:=eq_of_beq z;injection this) e) λ_=>?_);exact ae (BJ f ha hb g i j m (cz h))
end
end L2
def L2.ka.acs(r:L2.ka k A):A.units+66<PySem.cLine:=by have:=r.un;omega
namespace L3
open L2
def Qu:G2:=λx y M Q=>match vw M x,vw M y with
 |.tup [a,d],.tup [b,e]=>(okE a b/\AD a b=ag)/\(∃c ds f g,vw M d=.kE c ds/\vw M e=.kE f g/\NO c ds f g)/\Q (.bl ag) M
 |_,_=>False
def NR:vI Qu:=by
 intro x y M P Q w q;unfold Qu at*;generalize vw M x=a at q |-;generalize vw M y=b at q |-;split at q
 .exact⟨q.1,q.2.1,w _ _ q.2.2⟩
 .exact q.elim
section
variable {X:Cx}
def NS(hu:X.A.units+66<eB)(I:L2.Inv X cc σ H s)(o:OK X.K F α H M)
(Q:Rep X.K α (jU F α M H) T x)(U:Rep X.K α (jU F α M H) Y y)(e1:vw M T=.kE j ds)(e2:vw M Y=.kE B C)(h:NO j ds B C):
  ∃a b c ws,x=.ref a/\y=.ref b/\(a==cb)=au/\(b==cb)=au/\s.heap.DictOf (i7 X.prog X.w) a c/\s.heap.DictOf (i7 X.prog X.w) b ws/\c.length=ws.length/\
   ∀k v,(k,v)∈c->∃f,dS ws k=aa f/\bZ X.A.in1.in1 s v f ag:=by
 obtain⟨a,c,rfl,q1,l1,E⟩:=oG o Q e1;obtain⟨b,ws,rfl,q2,l2,G⟩:=oG o U e2;obtain⟨_,n1,us,J,d1⟩:=rW I.ja q1;obtain⟨_,n2,m,L,d2⟩:=rW I.ja q2;have m1:=hZ.length _ _ E;have m2:=hZ.length _ _ G;have p1:=J.length;have p2:=L.length;rw[cK] at p1 p2;refine⟨a,b,us,m,rfl,rfl,n1,n2,d1,d2,by have:=h.1;omega,λk u YI=>?_⟩;obtain⟨i,hi⟩:=cO.mp YI;have PP:i<(j.zip c).length:=by have:=(ak.mp hi).1;rw[cK];omega
 obtain⟨⟨k0,v⟩,N⟩:∃p,(j.zip c)[i]?=aa p:=⟨_,ax PP⟩;obtain⟨u0,e,ru⟩:=Qq J N;rw[hi] at e;cases e;have O:=cL.mp N;obtain⟨d,hd,rd⟩:=hZ.get' ds c i v E O.2;obtain⟨g,g1,⟨c1,n,c3,c4⟩,g3⟩:=h.2 i k d O.1 hd;obtain⟨f,g4,q⟩:=(pR B C ws G l2).1 g g1;obtain⟨r,g5,z⟩:=sH.some_of (by rw[<-g4];exact L.val k);obtain⟨as,w1⟩:=Rep.reads I _ v u (Rep.mono (aV _) iJ _ _ rd) ru c1;obtain⟨bs,w2⟩:=Rep.reads I _ f r (Rep.mono (aV _) iJ _ _ q) z n;refine⟨r,g5,?_⟩;have dd:=toP_depth d;have:=SeqAt.eqAt_reads (toP d) (toP g) X.A.in1.in1 s u r as bs w1 w2 (toP_lay d c1) (toP_lay g n) (by show X.A.units+1+1+_<_;omega);rw[toP_eqv d g c1 n,g3] at this;exact this
end
end L3
namespace L2
section
variable {st:bJ}
end
end L2
namespace L3
open L2
section
variable {st:bJ}
theorem KR{K:bz}:∀{ds:List D} {a:List V},hZ K α H ds a->hZ K α H ds.reverse a.reverse
 |[],a,h=>by subst h;rfl
 |d::ds,a,h=>by obtain⟨v,r,rfl,z,y⟩:=h;rw[gU,gU];exact hZ.append _ _ _ _ (KR y) (by exact⟨v,[],rfl,z,by rfl⟩)
end
end L3
namespace L2
def Rec (h:aC)(e:aw)(cls:ai)(od:Option aw)(T:aw):Prop:=
 ∃a b c f,h.get? e=aa a/\a.cls=cls/\a.dict=od/\a.data=.fields b/\b[1]?=aa (.ref T)/\T≠e/\h.get? T=aa c/\c.data=.fields f/\f[3]?=aa .none
def Sl (h:aC)(e:aw)(cls:ai)(od:Option aw):Prop:=∃a,h.get? e=aa ⟨cls,od,.fields #[a,.none,.none,.none,.bool au,.none],#[]⟩
def NT (S R:List aw)(h a:aC):Prop:=∀b o,h.get? b=aa o->b∉R->(b∉S->a.get? b=aa o)/\∃sl,a.get? b=aa {o with slots:=sl}
section
variable {A:bH} {s:av}
def DU(f:Array ai->Array ai)(o:cC):(dH f o).dict=o.dict:=by unfold dH;split<;>rfl
def Vy
(O:A.frames=aa (env::cv))(H:s.heap.FunFrames cq (env::cv))(U:env.frame=aa L)
(I:s.heap.get? e=aa u)(hd:u.data=.fields J)(v:1<J.size)
(h:∀w T,s.heap.objs.size<=T->Rec w e u.cls u.dict T->NT (tY (env::cv)) [e] s.heap w->Q () {s with heap:=w}):
  wpAny M A (do let a<-frameOf env;let pl<-entryPlaceOf L Y;let b<-EntryCells.newEntry head a .none (aeB L) .none pl;setField (.ref e) 1 b) (λ_ s'=>wpAny M A (aiX (.ref e) ar) Q E s') E s:=by
 have y:e∉(env::cv).filterMap _:=λhm=>by obtain⟨_,o,p,B⟩:=H.mem hm;rw[I] at p;injection p with p;subst p;exact B J hd
 refine ae (wpAny_frameOf_fun O H U λc q=>?_);refine ae (wpAny_entryPlaceOf λpl N=>?_);refine ae (ahG ?_ (N.sizeOk5 _ _ _ _ _));have i:=(q.2.1 e y).trans I;have j:=aj {cls:=.type "traceback",dict:=ar,data:=.fields ([head,.ref L,.none,aeB L,.none]++(if pl.isEmpty then bX 6 cM else pl)).toArray} i;refine fY j hd v ?_;have g:=dh (aM i);have C:=c6 hd (·.setIfInBounds 1 (bE c.objs.size));have m:=cY _ j (eI C);have n:=(cA (c.push {cls:=.type "traceback",dict:=ar,data:=.fields ([head,.ref L,.none,aeB L,.none]++(if pl.isEmpty then bX 6 cM else pl)).toArray})
  (dH (·.setIfInBounds 1 (bE c.objs.size))) (b9 g)).trans (aP c rfl)
 refine ae (cB m C (x:=.ref c.objs.size) (by simp[v]) ?_);have keep:∀b o,b≠e->c.get? b=aa o->
   (((c.push {cls:=.type "traceback",dict:=ar,data:=.fields ([head,.ref L,.none,aeB L,.none]++(if pl.isEmpty then bX 6 cM else pl)).toArray}).update e (dH (·.setIfInBounds 1 (bE c.objs.size)))).update _
    (dH (·.setIfInBounds 3 ((ar).elim cM λf=>aeB f)))).get? b=aa o:=λb o r hb=>by have G:=dh (aM hb);rw[cA _ _ G,cA _ _ (b9 r)];exact aj _ hb
 refine fY n rfl (by simp only [aR,aE,aU]<;>omega) (h _ c.objs.size ?_ ?_ λb o hb hn=>?_)
 .exact gC q.1.symm
 .refine⟨_,_,_,_,?_,cC.cls_mapFields _ _,DU _ _,C,by simp[v],g,cY _ n (eI (c6 rfl _)),c6 rfl _,by first|(simp;done)|(rcases N with rfl|⟨_,_,_,_,_,_,_,rfl⟩<;>simp)⟩;rw[cA _ _ g];exact m
 .have r:b≠e:=λz=>hn (by simp[z]);obtain⟨sl,hs⟩:=q.2.2 b o hb;exact⟨λhS=>keep b o r ((q.2.1 b hS).trans hb),sl,keep b _ r hs⟩
def KS
(f:A.frames=aa (env::cv))(g:s.heap.FunFrames cq (env::cv))(b:env.frame=aa L)(i:Sl s.heap e cls od)
(h:∀a T,s.heap.objs.size<=T->Rec a e cls od T->NT (tY (env::cv)) [e] s.heap a->Q () {s with heap:=a}):wpAny M A (leaving env (.ref e)) Q E s:=by obtain⟨j,c⟩:=i;unfold leaving aiY;simp only [b];refine ae (ae (cB c rfl rfl ?_));exact Vy f g b c rfl (by show 1<6;decide) h
def GK
(x:A.frames=aa (env::cv))(y:s.heap.FunFrames cq (env::cv))(p:env.frame=aa L)(j:Rec s.heap e cls od f)
(h:∀g T,s.heap.objs.size<=T->Rec g e cls od T->NT (tY (env::cv)) [e,f] s.heap g->Q () {s with heap:=g}):wpAny M A (aiY (.ref e) env) (λ_ B=>wpAny M A (aiX (.ref e) ar) Q E B) E s:=by
 obtain⟨I,r,J,C,u,rfl,rfl,hd,v,m,n,a,w⟩:=j;unfold aiY;simp only [p];refine ae (cB u hd v ?_);refine ae (cB n a w ?_);refine ae (fY n a (cT.mp w).1 ?_);have other:∀b,b≠f->(s.heap.update f (dH (·.setIfInBounds 3 cM))).get? b=s.heap.get? b:=λb hb=>cA _ _ (b9 hb);have G:∀b o,s.heap.get? b=aa o->(∀r,o.data≠.fields r)->b≠f:=λb o hb c q=>by rw[q,n] at hb;injection hb with hb;subst hb;exact c C a
 refine Vy x (y.of_keeps λb o hb c=>⟨o,(other b (G b o hb c)).trans hb,rfl⟩) p ((other e (b9 m)).trans u) hd (cT.mp v).1
  λg T hn j H=>h g T ?_ j λb o hb i=>?_
 .have e:=aC.size_after_update s.heap f (dH (·.setIfInBounds 3 cM));rw[e] at hn;exact hn
 .exact H b o ((other b λz=>i (by simp[z])).trans hb) λz=>i (by simp at z;simp[z])
def NV
(b:A.frames=aa (env::cv))(c:s.heap.FunFrames cq (env::cv))(f:env.frame=aa L)(g:Rec s.heap e cls od i)
(h:∀a T,s.heap.objs.size<=T->Rec a e cls od T->NT (tY (env::cv)) [e,i] s.heap a->Q () {s with heap:=a}):wpAny M A (leaving env (.ref e)) Q E s:=
 ae (GK b c f g h)
end
def kx.there{P:bc}{w:bI}{H:Hp}{h:aC}{a:aw}{o:HO}(x:kx P w H h a o):∃ob,h.get? a=aa ob:=by
 cases o with
 |lst xs=>obtain⟨_,_,_,_,e⟩:=x;exact⟨_,e⟩
 |tup xs=>obtain⟨_,_,_,o,e,_⟩:=x;exact⟨_,e⟩
 |dK b=>obtain⟨_,_,_,_,o,_,_,e,_⟩:=x;exact⟨_,e⟩
 |dT b=>obtain⟨_,_,_,_,o,_,_,e,_⟩:=x;exact⟨_,e⟩
 |set S n=>obtain⟨o,_,_,_,e,_⟩:=x;exact⟨_,e⟩
 |ins C c fs=>obtain⟨_,_,_,e,_⟩:=x;exact⟨_,e⟩
 |own y=>exact x
 |xd fs=>obtain⟨_,⟨_,_,_,e,_⟩,_⟩:=x;exact⟨_,e⟩
 |rng lo hi=>obtain⟨_,_,_,e⟩:=x;exact⟨_,e⟩
 |qd ob u=>obtain⟨e,_⟩:=x;exact⟨_,e⟩
 |y6 g=>exact⟨_,(show h.get? a=aa _ from x)⟩
 |dE i b=>obtain⟨_,_,_,_,o,_,e,_⟩:=x;exact⟨_,e⟩
 |xc C fs=>obtain⟨_,_,e,_⟩:=x;exact⟨_,e⟩
 |met f y=>exact⟨_,(show h.get? a=aa _ from x)⟩
 |ext j=>obtain⟨_,e,_⟩:=x;exact e
theorem tZ.none{P:bc}{w:bI}{H:Hp}{h:aC}{a:aw}(x:tZ P w H h)(e:h.get? a=ar):H a=ar:=by
 cases q:H a with
 |none=>rfl
 |some o=>obtain⟨ob,g⟩:=(x a o q).there;rw[e] at g;cases g
section
variable {X:Cx} {s:av}
def Inv.frN(I:Inv X cc σ H s)(hb:b∈tY X.stack):H b=ar:=by
 rcases aH.mp (I.uc b hb) with z|z
 .rw[z];exact I.free
 .obtain⟨_,o,a,_⟩:=I.ok.xq.mem z;exact I.cq.free b o a (I.ok.TQ b z) λq=>I.ok.MJ b q z
def Inv.left(I:Inv X cc σ H s)(hex:X.ex=[])(i:∀b∈R,X.iZ.heap.get? b=ar/\H b=ar)(f:NT (tY X.stack) R s.heap h'):
  Un X.fs [] X.je H X.iZ.heap h'/\tZ X.prog X.w H h':=by
 have nx:∀b,b∉X.ex:=λb z=>by rw[hex] at z;cases z
 have g:∀b o,X.iZ.heap.get? b=aa o->b∉R:=λb o e z=>by rw[(i b z).1] at e;cases e
 refine⟨⟨λb o e n hb _=>?_,λb o e n hb _=>?_,λb o e n _=>I.cq.free b o e n (nx b),λb o e _=>?_,I.cq.ua,I.cq.rR,I.cq.tz⟩,λa o e=>?_⟩
 .refine(f b o (I.cq.keep b o e n hb (nx b)) (g b o e)).1 λz=>?_;rcases aH.mp (I.uc b z) with q|q
  .have:=aM e;rw[q] at this;exact absurd (bw this I.ok.above) (cD _)
  .exact hb q
 .obtain⟨sl,q⟩:=I.cq.slot b o e n hb (nx b);obtain⟨c,h⟩:=(f b _ q (g b o e)).2;exact⟨c,h⟩
 .obtain⟨j,q⟩:=I.cq.there b o e (nx b);obtain⟨c,h⟩:=(f b _ q (g b o e)).2;exact⟨_,h⟩
 .refine(I.ja a o e).vm (λb u hb q=>?_) (λ_ q=>q) λ_ _ q=>q;have hn:H b≠ar:=by
   rcases hb with rfl|hb
   .rw[e];exactλz=>by cases z
   .rw[hb];exactλz=>by cases z
  exact(f b u q λz=>hn (i b z).2).1 λz=>hn (I.frN z)
end
def Y0 (P:bc)(w:bI):XR:=λcv H s E e a=>∃x C od b T,e=.ref x/\a.os=s.os/\fS a.gens/\Un (tY cv) [] H b s.heap a.heap/\tZ P w b a.heap/\
 Rec a.heap x C od T/\s.heap.objs.size<=x/\s.heap.objs.size<=T/\b x=ar/\b T=ar/\E C od b
section
variable {K:bz} {iZ:av}
abbrev Ik(P:bc)(w:bI)(K:bz)(mg:aX->Option ai)(cq:aC)(N:List aX)(qual:aX)(scope:dn)(f:aw)(cd:ai)(A:bH)(cv:List ahL)(s:av)(H:Hp)(E:XK):Cx:=tE (Y0 P w) P w K mg cq N qual scope f cd A cv s H E
def Inv.NW(I:Inv X cc σ H s):X.iZ.heap.objs.size<=s.heap.objs.size:=by obtain⟨m,⟨o,es,b,a,_⟩,_⟩:=I.loc;exact dF (d6 I.ok.above (aM a))
def VC(I:Inv (Ik P w K mg cq N qual scope f cd A cv iZ je E) cc σ H s)
(h:Sl s.heap x C od)(c:iZ.heap.objs.size<=x)(e:H x=ar)(i:E C od H):(Ik P w K mg cq N qual scope f cd A cv iZ je E).xe (.ref x) s:=by refine KS I.ok.frames I.stack rfl h λm T g a j=>?_;obtain⟨u,ja⟩:=I.left rfl (λb hb=>by cases bj.mp hb;exact⟨cG c,e⟩) j;exact⟨x,C,od,H,T,rfl,I.os,I.bare,u,ja,a,c,bG I.NW g,e,I.ja.fresh g,i⟩
def aeP:Au (Y0 P w) (Ik P w K mg cq N qual scope f cd A cv iZ je E) E:=λcc σ H s e J I h=>by
 obtain⟨x,C,od,m,T,rfl,n,o,u,ja,p,g,q,i,r,v⟩:=h;have a:=I.CV n u ja o (λb hb=>by cases hb);refine NV a.ok.frames a.stack rfl p λL y j c z=>?_;obtain⟨B,G⟩:=a.left rfl (λb hb=>by
  rcases aH.mp hb with rfl|hb
  .exact⟨cG (bG I.NW g),i⟩
  .cases bj.mp hb;exact⟨cG (bG I.NW q),r⟩) z
 exact⟨x,C,od,m,y,rfl,a.os,a.bare,B,G,c,bG I.NW g,bG a.NW j,i,a.ja.fresh j,v⟩
end
open PySem.W PySem.Calls Builtin
section
variable {R:ai0->av->Prop} {d:ajM} {t:Nat}
variable {nm:aX} {bs:List ai} {sn:List aX} {sub:List ai}
abbrev ym(C t:aw):cC:={cls:=.ref C,data:=.fields #[.ref t,.none,.none,.none,.bool au,.none]}
abbrev yn(us:List ai):cC:={cls:=.type fi,data:=.seq us.toArray}
end
end L2
namespace L2
open PySem.W
def aaR:List ai->Bool
 |[.type a,.type b,.type c,.type d]=>a==vl&&b==zZ&&c==nn&&d==pa
 |.ref _::r=>aaR r
 |_=>au
def VD (K:bz)(C:aw):Prop:=(W.clsIn K C).any (λcd=>aaR cd.mro)=ag
section
variable {d:ajM} {t:Nat}
variable {nm:aX} {bs:List ai} {sn:List aX} {sub:List ai}
end
section
variable {X:Cx} {es:List bJ}
def agU (te:TE):TE:=λσ H Q=>te σ H λx H1=>match x with
 |.str y=>y.length<=aO/\Q (.str y) H1
 |.int i=>i.natAbs.log2<1920/\Q (.str (toString i)) H1
 |_=>False
def Inv.tk(I:Inv X cc σ H s)(a:Nat):Inv X cc σ H {s with toks:=a}:=⟨I.ok,I.os,I.bare,I.cq,I.loc,I.cell,I.free,I.nw,I.pin,I.ja,I.len⟩
abbrev TJ:=aX->St->Hp->VK->Prop
def PJ (X:Cx)(es:List bJ)(t:TJ):Prop:=∀(acc:aX) (cc:List (aw×cC)) (s:av) (σ:St) (H:Hp) (Q:VK),Inv X cc σ H s->t acc σ H Q->wpAny (model X.prog X.w) X.A (joinParts acc (evalEach es X.env)) (EP X cc σ Q) X.xe s
def aeQ:TJ:=λacc _ H Q=>acc.length<=aO/\Q (.str acc) H
def act (te:TE)(a:TJ):TJ:=λacc σ H Q=>te σ H λx H1=>∃y,x=.str y/\(acc++y).length<=aO/\a (acc++y) σ H1 Q
end
def Fz(x C:aw)(od:Option aw):HO:=.ext λh=>Sl h x (.ref C) od
def xdH(b:aw)(fs:List (aX×V)):HO:=.ext λh=>∃a,h.Ns1 b a/\(∀f,sH (fs.lookup f) (a f))/\PySem.Within a (fs.map (·.1))
structure aeR(K:bz)(C:aw):Prop where
 hd:W.hasDictIn K C=ag
 po:VD K C
 so:W.subIn K (.ref C) (.type pa)=aa ag
 sa:cP K (.ref C) uJ=aa (aa (.builtin vg))
def VE(r:Sl h x (.ref C) od):kx P w H h x (Fz x C od):=by obtain⟨a,e⟩:=r;refine⟨⟨a,e⟩,⟨_,e⟩,λc f ⟨b,q⟩ k=>⟨b,k _ q⟩⟩
def XD (H:Hp)(x:aw)(od:Option aw)(fs:List (aX×V)):Prop:=match od with
 |none=>fs=[]
 |some a=>a≠x/\H a=aa (xdH a fs)
structure aho(K:bz)(B:aw):Prop where
 gs:W.specialIn K (.ref B) uaa=aa (aa (.builtin "type.__getattribute__"))
 rd:W.readsIn K B (.type "type")=ag
 fc:W.findCls K (.ref B) (.type "type") mm=aa (.val (.builtin vo))
structure Y1(K:bz)(C:aw):Prop where
 obj:∃nm q N bs bm oM sn sub ab col dd k0 k1 k2 k3 k5,K.lookup C=aa (fe nm q C N bs bm oM sn sub ab col dd k0 k1 k2 k3 k5 qx)/\∀h,K.In h->OwnTail h [.type vl,.type zZ,.type nn,.type pa] bm
def Y2(x:aw)(H:Hp):Hp:=λb=>if b=x then ar else H b
def zF:Y2 x H x=ar:=by unfold Y2;rw[if_pos rfl]
def Il(h:b≠x):Y2 x H b=H b:=by unfold Y2;rw[if_neg h]
def Inv.drop(I:Inv X cc σ H s)(f:H x=aa (.ext g)):Inv X cc σ (Y2 x H) s:=by
 have hn:∀b,H b=ar->Y2 x H b=ar:=λb e=>by
  by_cases z:b=x
  .rw[z];exact zF
  .rw[Il z];exact e
 have a:∀b u,H b=aa u->(∀g,u≠.ext g)->Y2 x H b=aa u:=λb u e h=>by rw[Il λz=>by rw[z,f] at e;exact h _ (bF e).symm];exact e
 refine⟨I.ok,I.os,I.bare,⟨I.cq.keep,I.cq.slot,λb o q n f=>hn b (I.cq.free b o q n f),I.cq.there,λb xs q=>a b _ (I.cq.ua b xs q) (λ_ z=>by cases z),λb o u q=>a b _ (I.cq.rR b o u q) (λ_ z=>by cases z),λb i q=>?_⟩,I.loc,I.cell,hn _ I.free,λx c e=>hn _ (I.nw x c e),λp j=>?_,λb u q=>?_,I.len⟩
 .obtain⟨m,e⟩:=I.cq.tz b i q;exact⟨m,a b _ e λ_ z=>by cases z⟩
 .obtain⟨w,y,A⟩:=I.pin p j;exact⟨w,hn _ y,A⟩
 .have z:b≠x:=λz=>by rw[z,zF] at q;cases q
  rw[Il z] at q;exact(I.ja b u q).vm (λc v _ r=>r) (λc r=>a c _ r (λ_ z=>by cases z)) (λc xs r=>a c _ r (λ_ z=>by cases z))
section
variable {A:bH}
variable {nm:aX} {bs bm:List ai} {sn:List aX} {sub:List ai}
def Sm(f:bm.contains (.type nn)=ag)(g:A.handled=ar)
(h:wpAny M A x (λv a=>∃e od,v=.ref e/\a.heap.get? C=aa (fe nm q C N bs bm oM sn sub ab col dd k0 k1 k2 k3 k5 newId)/\Sl a.heap e (.ref C) od/\E (.ref e) a) E s):
  wpAny M A (raiseStmt env (aa x) ar) Q E s:=by
 have b:(bE C::bm).contains (.type nn)=ag:=by rw[List.contains_cons,f,Bool.or_true]
 refine ae (cn h (λv a i=>?_) λ_ _ x=>x);obtain⟨e,od,rfl,c,⟨n,j⟩,m⟩:=i;repeat (first|with_reducible refine ahK j ?_|with_reducible refine ahK c ?_|(with_reducible refine gR c ?_;rw[b])|wp_step)
 exact wpAny_raiseNew_none g m
end
structure XMk(K:bz)(C f:aw):Prop where
 x:Y1 K C
 call:W.specialIn K (.ref C) "__call__"=aa (aa (.builtin ol))
 typ:W.instIn K (.ref C) (.type "type")=aa ag
 init:cP K (.ref C) mm=aa (aa (.ref f))
 fn:W.isFn K (.ref f)=ag
 kp:ew K (.ref C)=ag
section
variable {k:Nat}
end
section
variable {k:Nat} {es:List bJ} {t:TA}
end
def aeS (K:bz)(ta tv:TE)(f:aX):TS:=λD σ H=>tv σ H λy H1=>ta σ H1 λx c=>∃a C od fs,x=.ref a/\c a=aa (Fz a C od)/\XD c a od fs/\aeR K C/\vB K C f/\fs.length<1000/\
 ∀b,(od=aa b\/(od=ar/\c b=ar))->b≠a->D.nx σ (upd (upd c b (xdH b (tD f y fs))) a (Fz a C (aa b)))
structure Far(X:Cx)(cc:List (aw×cC))(b:aw):Prop where
 s0:X.iZ.heap.objs.size<=b
 lo:b≠X.env.locals
 ce:∀x c,X.env.cells.lookup x=aa c->c≠b
 pi:∀p∈X.pn++cc,p.1≠b
section
variable {X:Cx} {σ:St} {s:av} {h':aC}
def Inv.VF(I:Inv X cc σ H s)(hb:s.heap.objs.size<=b):Far X cc b:=by
 refine⟨bG I.NW hb,λz=>?_,λx c e z=>?_,λp f z=>?_⟩
 .obtain⟨m,⟨o,es,g,a,_⟩,_⟩:=I.loc;have:=aM a;rw[<-z] at this;exact absurd (bw this hb) (cD _)
 .obtain⟨v,o,a,_⟩:=I.cell x c e;have:=aM a;rw[z] at this;exact absurd (bw this hb) (cD _)
 .have:=aM (I.pin p f).1;rw[z] at this;exact absurd (bw this hb) (cD _)
def Inv.aaS(I:Inv X cc σ H s)(f:∀b∈R,Far X cc b/\H b=ar)(g:NT (tY X.stack) R s.heap h'):Inv X cc σ H {s with heap:=h',toks:=t'}:=by
 refine I.CV rfl ⟨λb o e n hb c=>(g b o e c).1 hb,λb o e n hb c=>(g b o e c).2,λb o e n c=>n,λb o e c=>?_,λb xs q=>q,λb o u q=>q,λb h q=>⟨#[],by rw[q];simp⟩⟩ (λa o e=>?_) I.bare λb hb=>⟨.inr (f b hb).1.s0,(f b hb).1.lo,(f b hb).1.ce,(f b hb).1.pi⟩
 .obtain⟨sl,q⟩:=(g b o e c).2;exact⟨_,q⟩
 .refine(I.ja a o e).vm (λb u hb q=>?_) (λ_ q=>q) λ_ _ q=>q;have hn:H b≠ar:=by
   rcases hb with rfl|hb
   .rw[e];exactλz=>by cases z
   .rw[hb];exactλz=>by cases z
  exact(g b u q λz=>hn (f b z).2).1 λz=>hn (I.frN z)
def Inv.aaT(I:Inv X cc σ H s)(g:H x=ar)(VF:Far X cc x)(ok:kx X.prog X.w (upd H x o) s.heap x o):Inv X cc σ (upd H x o) s:=by
 have a:∀b u,H b=aa u->upd H x o b=aa u:=λb u e=>by rw[ii λz=>by rw[z,g] at e;cases e];exact e
 have h:=cG VF.s0;refine⟨I.ok,I.os,I.bare,⟨I.cq.keep,I.cq.slot,λb ob q n i=>?_,I.cq.there,λb xs q=>a b _ (I.cq.ua b xs q),λb ob u q=>a b _ (I.cq.rR b ob u q),λb j q=>?_⟩,I.loc,I.cell,?_,λy c e=>?_,λp f=>?_,λb u q=>?_,I.len⟩
 .rw[ii λz=>by rw[z,h] at q;cases q];exact I.cq.free b ob q n i
 .obtain⟨m,e⟩:=I.cq.tz b j q;exact⟨m,a b _ e⟩
 .rw[ii (b9 VF.lo)];exact I.free
 .rw[ii (VF.ce y c e)];exact I.nw y c e
 .obtain⟨A,B,C⟩:=I.pin p f;exact⟨A,by rw[ii (VF.pi p f)];exact B,C⟩
 .by_cases z:b=x
  .subst z;rw[iE] at q;cases q;exact ok
  .rw[ii z] at q;exact(I.ja b u q).vm (λc v _ r=>r) (λc r=>a c _ r) (λc xs r=>a c _ r)
abbrev Cx.MD(X:Cx)(e:ai):Cx:={X with A:=X.A.mark (aa e),calm:=au,xe:=λ_ _=>False}
theorem Inv.MD(I:Inv X cc σ H s)(e:ai):Inv (X.MD e) cc σ H s:=
 ⟨⟨I.ok.mod,I.ok.kind,I.ok.glob,I.ok.blt,I.ok.above,I.ok.inj,I.ok.has,I.ok.cab,(λz=>by cases z),I.ok.frames,I.ok.stk,I.ok.exf,I.ok.bs,I.ok.Rj,I.ok.JJ,I.ok.MJ,I.ok.xq,I.ok.TQ⟩,I.os,I.bare,I.cq,I.loc,I.cell,I.free,I.nw,I.pin,I.ja,I.len⟩
def Inv.Qv(ok:X.Ok)(I:Inv (X.MD e) cc σ H s):Inv X cc σ H s:=⟨ok,I.os,I.bare,I.cq,I.loc,I.cell,I.free,I.nw,I.pin,I.ja,I.len⟩
def zG(I:Inv X cc σ H s)(G:X.N.Nodup)(hi:X.N[i]?=aa n)(J:X.env.kindOf n=aa .local)
(h:∀x,Inv X cc (σ.set i ar) H x->Q () x):wpAny (model X.prog X.w) A (do bindName X.env n .none;unbindBehindTheSuite X.env n pos) Q E s:=by
 obtain⟨m,hn,L⟩:=id I.loc;have TR:=I.TR;refine wpAny_nameGoes_keeps J hn (by rw[I.ok.kind];rfl) λh' v g a=>h _ ?_;have hb:∀b o,X.iZ.heap.get? b=aa o->h'.get? b=s.heap.get? b:=λb o e=>a.2 b (bd (bw (aM e) I.ok.above));refine⟨I.ok,I.os,I.bare,⟨λb o e n r f=>(hb b o e).trans (I.cq.keep b o e n r f),λb o e n r f=>?_,I.cq.free,λb o e f=>?_,I.cq.ua,I.cq.rR,I.cq.tz⟩,⟨_,g,λj y M e1 e2 e3=>?_⟩,λy c e=>?_,I.free,I.nw,λp O=>?_,λb u e=>?_,by simpa using I.len⟩
 .obtain⟨sl,e1⟩:=I.cq.slot b o e n r f;exact⟨sl,(hb b o e).trans e1⟩
 .obtain⟨T,e1⟩:=I.cq.there b o e f;exact⟨T,(hb b o e).trans e1⟩
 .have B:j≠i:=λz=>by subst z;rw[List.getElem?_set] at e2;rw[if_pos rfl] at e2;split at e2<;>cases e2
  rw[aJ (b9 B)] at e2;obtain⟨U,Y,q⟩:=L j y M e1 e2 e3;refine⟨U,Y,?_⟩;rcases q with⟨k,e⟩|⟨k,c,e,z⟩
  .refine .inl ⟨k,?_⟩;have:y≠n:=λe=>B (CT G e1 (e▸hi));simp[this,e]
  .exact .inr ⟨k,c,e,z.sameBut a (TR y c e)⟩
 .obtain⟨C,z⟩:=I.cell y c e;exact⟨C,z.sameBut a (TR y c e)⟩
 .obtain⟨e,n,ne,nf,d⟩:=I.pin p O;exact⟨(a.2 p.1 ne).trans e,n,ne,nf,d⟩
 .refine(I.ja b u e).vm (λc C hc q=>(a.2 c ?_).trans q) (λ_ q=>q) λ_ _ q=>q
  rintro rfl
  rcases hc with rfl|hc
  .rw[I.free] at e;cases e
  .rw[I.free] at hc;cases hc
end
def XDD (H:Hp)(od:Option aw)(fs:List (aX×V)):Prop:=match od with
 |none=>fs=[]
 |some a=>H a=aa (xdH a fs)
def hdH(H:Hp)(x C:aw)(od:Option aw)(fs:List (aX×V)):Hp:=match od with
 |none=>upd H x (.xc C fs)
 |some a=>upd (upd H a (.own x)) x (.xc C fs)
def Inv.NX(I:Inv X cc σ H s)(f:H x=ar)(VF:Far X cc x)(hd:XDD H od fs)
(e:s.heap.get? x=aa c)(g:c.cls=.ref C)(h:c.dict=od)(i:c.data=.fields j):Inv X cc σ (hdH H x C od fs) s:=by
 cases od with
 |none=>
  refine I.aaT f VF ⟨c,j,e,g,i,.inl ⟨h,hd⟩⟩
 |some b=>
  have a:H b=aa _:=hd;have ne:b≠x:=λz=>by rw[z,f] at a;cases a
  obtain⟨⟨m,n,r,wi⟩,⟨o,p⟩,_⟩:=(I.ja b _ a);have q:∀o u,X.je b≠aa _:=λo u z=>by have:=I.cq.rR b o u z;rw[a] at this;cases this
  have v:=I.ghost (w':=.own x) a (λ_ z=>by cases z) (λ_ z=>by cases z) (λ_ z=>by cases z) q ⟨o,p⟩;refine v.aaT (by rw[ii (b9 ne)];exact f) VF ⟨c,j,e,g,i,.inr ⟨b,m,h,ne,?_,n,r⟩⟩;rw[ii ne,iE]
structure NY(K:bz)(C B:aw):Prop where
 c:∃nm q N bs bm oM sn sub ab col dd k0 k1 k2 k3 k5,K.lookup C=aa (fe nm q C N bs bm oM sn sub ab col dd k0 k1 k2 k3 k5 qx)/\(bE C::bm).contains (.ref B)=ag
 b:∃nm q N bs bm oM sn sub ab col dd k0 k1 k2 k3 k5,K.lookup B=aa (fe nm q B N bs bm oM sn sub ab col dd k0 k1 k2 k3 k5 qx)/\(bE B::bm).contains (.type nn)=ag
section
variable {X:Cx} {s:av}
def NZ(j:X.K.In s.heap)(T:s.heap.get? x=aa m)(hc:m.cls=.ref C)(sub:NY X.K C B)(h:Q ag s):wpAny (model X.prog X.w) A (excMatches (.ref x) (.ref B)) Q E s:=by
 obtain⟨nm,q,N,bs,U,Y,sn,n,ab,col,dd,k0,k1,k2,k3,k5,e,g⟩:=sub.c;obtain⟨o,q',N',p,r,u,v,y,z,G,XY,I,J,L,M,O,a,i⟩:=sub.b;have e:=j _ _ e;have a:=j _ _ a;have f:=tc_notTuple;unfold excMatches;repeat (first|(with_reducible rw[hc])|with_reducible refine ahK a ?_|(with_reducible refine gR a ?_;rw[i])|(with_reducible refine gR e ?_;rw[g])|wp_step)
 exact h
def Sn(I:Inv X cc σ H s)(p:Rec s.heap x C od T)(r:Far X cc T)(u:H T=ar)(h:∀a,Inv X cc σ H a->Rec a.heap x C od T->Q () a):
  wpAny (model X.prog X.w) A (aiX (.ref x) ar) Q E s:=by
 obtain⟨v,y,J,L,f,B,G,g,i,j,m,c,n⟩:=p;refine wpAny_setFlight_none f g i m c (cT.mp n).1 (h _ (I.aaS (λb hb=>by cases bj.mp hb;exact⟨r,u⟩) λb o e hb=>?_) ?_)
 .have:b≠T:=λz=>hb (by simp[z]);have q:=(cA s.heap (dH (·.setIfInBounds 3 .none)) (b9 this)).trans e;exact⟨λ_=>q,o.slots,q⟩
 .refine⟨v,y,_,_,(gz _ _ _ _ (b9 j)).trans f,B,G,g,i,j,cY _ m (eI (c6 c _)),c6 c _,by simp[(cT.mp n).1]⟩
end
abbrev Cx.wp(X:Cx)(pn:List (aw×cC))(E:ai->av->Prop):Cx:={X with pn:=pn,xe:=E}
section
variable {X:Cx}
theorem Cx.Ok.wp(ok:X.Ok)(pn:List _)(E:ai->av->Prop):(X.wp pn E).Ok:=
 ⟨ok.mod,ok.kind,ok.glob,ok.blt,ok.above,ok.inj,ok.has,ok.cab,ok.hd,ok.frames,ok.stk,ok.exf,ok.bs,ok.Rj,ok.JJ,ok.MJ,ok.xq,ok.TQ⟩
theorem Inv.wp(I:Inv X cc σ H s)(E:ai->av->Prop):Inv (X.wp (X.pn++cc) E) [] σ H s:=
 ⟨I.ok.wp _ _,I.os,I.bare,I.cq,I.loc,I.cell,I.free,I.nw,λp a=>I.pin p (by rw[bu] at a;exact a),I.ja,I.len⟩
def Inv.FA(ok:X.Ok)(I:Inv (X.wp (X.pn++cc) E) JK σ H s):Inv X cc σ H s:=
 ⟨ok,I.os,I.bare,I.cq,I.loc,I.cell,I.free,I.nw,λp a=>I.pin p (bW _ a),I.ja,I.len⟩
theorem SP.FA(ok:X.Ok)(h:SP (X.wp (X.pn++cc) E) [] D f c):SP X cc D f c:=by
 cases f with
 |next=>obtain⟨a,b,I,q⟩:=h;exact⟨a,b,I.FA ok,q⟩
 |brk=>obtain⟨a,b,I,q⟩:=h;exact⟨a,b,I.FA ok,q⟩
 |cont=>obtain⟨a,b,I,q⟩:=h;exact⟨a,b,I.FA ok,q⟩
 |ret u=>obtain⟨v,a,b,I,r,q⟩:=h;exact⟨v,a,b,I.FA ok,r,q⟩
end
def dE(i:Nat)(D:Ends):Ends:=⟨λσ H=>D.nx (σ.set i ar) H,D.rt,λσ H=>D.bk (σ.set i ar) H,λσ H=>D.ct (σ.set i ar) H⟩
structure Sq(K:bz)(C:aw):Prop where
 hd:hasDictIn K C=ag
 ga:findIn K (.ref C) uaa=aa (aa (.builtin uaE))
 gh:findIn K (.ref C) "__getattr__"=aa ar
 sb:subIn K (.ref C) (.type nn)=aa ag
 cl:findIn K (.ref C) pu=aa (aa (.builtin ma))
 cg:specialIn K (.builtin ma) sU=aa (aa (.builtin tj))
 tk:takesIn K (.builtin ma)=aa ag
 ob:mroIn K C (.type pa)=aa ag
section
variable {s:av} {K:bz}
def Sr(G:Sq K C)(X:K.In s.heap)(I:InstAt s.heap x ox C od)(h:Q (aa (.ref C)) {s with toks:=s.toks+1}):wpAny (model prog w) A (ajd (.ref x) pu) Q E s:=by
 have FB:=PySem.F.attrBase_ValueError;have c:findObj K C od pu=aa (.bind (.builtin tj) (.builtin ma)):=by obtain⟨cd,hc,_⟩:=any_some G.hd;unfold findObj;rw[hc,Option.bind_some,G.cl,Option.bind_some];dsimp only;rw[G.cg,Option.bind_some];dsimp only;rw[G.tk];rfl
 have a:=I.type (M:=model prog w);have L1:=looks_find (M:=model prog w) X I c;have b:Looks (model prog w) s.heap (hookBefore (.ref C)) ar:=looks_hook X (by rw[if_pos (by rfl)];exact G.gh);unfold ajd getAttrBy?;refine ae (wpAny_mkText (ae (ahP ?_)));unfold getAttrBy;refine bS (ae (a _ _ _ _ (λ_ _ e=>e) (ae (looks_findIn X G.ga _ _ _ _ (λ_ _ e=>e) ?_))));dsimp only;refine ae (b _ _ _ _ (λ_ _ e=>e) (ae (ahP (bS ?_))));unfold callGetattribute;rw[if_neg (by decide)];unfold boundAndCalled;rw[FB.ga.bind];refine fJ ?_;refine aic FB.ga.plain PySem.F.entry_bexc_ga ?_;refine@check_slot (model prog w) _ _ {s with toks:=s.toks+1} uaE nn uaa (.ref x) [.str pu s.toks] [] _ (by decide+kernel) (by decide+kernel) (a.andThen (looks_subIn X G.sb)) (PySem.F.args_bexc_ga (.ref x) (.str pu s.toks)) ?_;obtain⟨f,g,d,t,os⟩:=s;refine ae (ay (ae (ay (ae (a.at (ae (L1.at ?_)))))));refine ae (bS (fJ (class_get (ox:=ox) (od:=od) X I G.ob ?_)));refine ay ?_;show wpAny _ _ (handedOut (.ref C)) _ _ _;rw[handedOut_of rfl];exact ay (ay h)
def VH(G:Sq K C):KitX K (.ref x) (.ref C) (λh=>InstAt h x ox C od) where
 ty:=λ_ _ _ I=>I.type
 it:=λ_ _ X _=>by
  obtain⟨b,a,_⟩:=any_some G.hd;unfold clsIn at a;split at a
  .rename_i j m c f g;intro o p r u k q;exact ae (ajN (k _ _ (X _ _ g)) (ay q))
  .cases a
 ne:=λh v dd iM n sl X i=>by
  obtain⟨b,a,_⟩:=any_some G.hd;refine Bool.eq_false_iff.mpr λq=>?_;have e:=bE.inj (beq_iff_eq.mp q);subst e;unfold clsIn at a;split at a
  .rename_i j m c f g;have z:=(X _ _ g).symm.trans i;cases z
  .cases a
 ca:=λX I k=>Sr G X I k
end
section
variable {X:Cx} {s:av}
def Inv.excAt(I:Inv X cc σ H s)(i:H a=aa (.xc C fs)):
  ∃j g,InstAt s.heap a j C g/\∀v,fs.lookup f=aa v->∃u d,g=aa d/\lookIn f d=aa (aa u)/\RelV v u:=by
 obtain⟨m,B,h,n,p,b⟩:=(I.ja a _ i);obtain⟨oc,odd,w,Rt⟩:=m;cases n;cases p;rcases b with⟨b,rfl⟩|⟨E,x,b,ne,G,y,r⟩
 .cases(b);exact⟨_,ar,⟨h,rfl,rfl,trivial⟩,λv e=>by cases e⟩
 .cases(b);obtain⟨d,c,A⟩:=F9 y;refine⟨_,aa d,⟨h,rfl,rfl,c⟩,λv e=>?_⟩;have q:=r f;rw[e] at q;cases z:x f with
  |none=>rw[z] at q;exact q.elim
  |some u=>rw[z] at q;exact⟨u,d,rfl,by rw[A,z],q⟩
def Y3(I:Inv X cc σ H s)(g:H a=aa (.xc C fs))(G:Sq X.K C)(e:kitOne X.K (.ref C) c=aa b)
(h:∀tk,Q (.bool b) {s with toks:=tk}):wpAny (model X.prog X.w) A (call (.builtin px) [.ref a,c]) Q E s:=by obtain⟨i,j,J,_⟩:=I.excAt (f:=("":aX)) g;exact kia_one (VH G) I.ub J e (λz=>nomatch z) h
end
abbrev XS:=St->XK
def xg (X:Cx)(E:XS):Prop:=∀(cc:List (aw×cC)) (σ:St) (H:Hp) (s:av) (e:ai) (a:av),Inv X cc σ H s->Y0 X.prog X.w X.stack H s (E σ) e a->X.xe e a
section
variable {K:bz}
def VI:xg (Ik P w K mg cq N qual scope f cd A cv iZ je E) λ_=>E:=λcc σ H s e a I h=>aeP cc σ H s e a I h
end
section
variable {X:Cx} {k:Nat} {ps:List aX} {es:List bJ} {t:TA}
def Y4(F:lP X.prog X.w X.K X.mg X.cq (Y0 X.prog X.w) k f fd ps sp)(g:ka k X.A)(hb:Binds X.K fd ps [])(i:xg X E)
(I:Inv X cc σ H s)(r:Vals b us)(h:sp b H Q (E σ)):wpAny (model X.prog X.w) X.A (call (.ref f) us) (EP X cc σ Q) X.xe s:=by
 have j:us.length=ps.length:=by rw[<-r.length];exact F.len _ _ _ _ h
 have c:=hb s us I.ub (by rw[bu];exact j);rw[bu] at c;refine fJ (dk (F.run X.A X.stack s H _ us b Q (E σ) g I.XT c r h) λr n a=>?_);cases r with
 |error e=>exact i cc σ H s e n I a
 |ok fl=>
  cases fl with
  |ret u=>exact I.after a
  |next=>exact cw a
  |brk=>exact cw a
  |cont=>exact cw a
def acv (sp:Sp)(E:XS)(t:TA):TE:=λσ H Q=>t σ H λa H1=>sp a H1 Q (E σ)
def vq (P:bc)(w:bI)(K:bz)(mg:aX->Option ai)(cq:aC)(k:Nat)(x:aX)(ps:List aX)(sp:Sp):Prop:=
 ∃f fd,mg x=aa (.ref f)/\ew K (.ref f)=ag/\Binds K fd ps []/\lP P w K mg cq (Y0 P w) k f fd ps sp
def acw(h:vq X.prog X.w X.K X.mg X.cq k x ps sp)(a:ka k X.A)(c:xg X E)(ha:PA X (e::es) t)(g:Gl X x:=by rfl)(i:(x==(fy:aX))=au:=by decide)
(j:bg (e::es) X.env=(au,eval e X.env)::bg es X.env:=by rfl)(n:(du pos (bg es X.env)).any (·.1)=au:=by rfl):
  PE X (.Call (.Name x p) (e::es) [] pos) (acv sp E t):=by obtain⟨f,fd,m,kp,b,F⟩:=h;intro cc s σ H Q I h;refine cS (w5 I g m ?_ i);refine W.callWith_K I.ok.mod.TN kp (lB (ha pos cc s σ H _ I h) λus s1 ⟨u,H1,I1,r,q⟩=>⟨I1.ub,?_⟩) j n;exact Y4 F a b c I1 r q
end
section
variable {K:bz}
theorem vq.mono{j k:Nat}{x:aX}{a:List aX}{sp:Sp}(h:vq P w K mg cq j x a sp)(c:j<=k):vq P w K mg cq k x a sp:=by obtain⟨f,fd,m,kp,b,F⟩:=h;exact⟨f,fd,m,kp,b,F.mono c⟩
theorem vq.imp(h:vq P w K mg cq k x e sp)(i:∀c H Q E,a c H Q E->sp c H Q E):vq P w K mg cq k x e a:=by obtain⟨f,fd,m,kp,b,F⟩:=h;exact⟨f,fd,m,kp,b,F.imp i⟩
def vq.has{k:Nat}{x:aX}{c:List aX}{sp:Sp}(h:vq P w K mg cq k x c sp):nz P w K mg cq k x c λa H Q _=>sp a H Q E0:=by
 obtain⟨f,fd,m,kp,b,F⟩:=h;refine⟨f,fd,m,kp,b,λa H Q E q=>F.len _ _ _ _ q,λA cv s H args us a Q E i j hb r q=>dk (F.run A cv s H args us a Q E0 i j hb r q) λr n g=>?_⟩;cases r with
 |error e=>obtain⟨_,_,_,_,_,_,_,_,_,_,_,_,_,_,_,z⟩:=g;exact z.elim
 |ok fl=>cases fl<;>exact g
def iw.agY{st:c5}(F:iw K mg x st)(c:jq st=body)(es:iT st=scope)(S:kY N b scope)
(hb:∀(kV doc pm:ai) (an:Option aw) (jd ct:ai) (us:List ai),us.length=b.length->dI (eu x x (k9 st) (jq st) (iT st) .none kV doc pm an jd ct) ⟨us,[]⟩=pure (b.zip us))
(len:∀a H Q E,sp a H Q E->a.length=b.length)
(e:∀(f:aw) (jd:ai) (A:bH) (cv:List ahL) (s:av) (H:Hp) (a:List V) (Q:VK) (E:XK),ka k (A.deeper (dZ x scope s.heap.objs.size f jd))->sp a H Q E->
   ∃t,y7 (Ik P w K mg cq N x scope f jd A cv s H E) body t/\t {nx:=λ_ g=>Q .non g,rt:=Q} (start N a) H):vq P w K mg cq (k+1) x b sp:=by subst c es;obtain⟨f,fd,F,m⟩:=F;refine⟨f,fd,m,F.kp,F.binds hb,?_⟩;obtain⟨oc,od,kV,doc,pm,an,jd,ct,Rt,rfl,lk,h⟩:=F.ex;exact Ue lk h S len λA cv s H a Q E i j=>e f jd A cv s H a Q E i j
end
def Im (H:Hp)(od:Option aw):Prop:=∀a,od=aa a->∀q,H a≠aa (L2.zm a q)
def aeU (K:bz)(i:Nat)(B:aw)(tb:XS->TS)(b:TS):TS:=λD σ H=>
 tb (λe C od a=>∃c fs,C=.ref c/\NY K c B/\XDD a od fs/\∀x,a x=ar->Im a od->b (dE i D) (e.set i (aa (.ref x))) (hdH a x c od fs)) D σ H
def Inv.acx(I:Inv X cc σ H s)(h:XDD H od fs):Im H od:=λa e q z=>by subst e;obtain⟨⟨j,i,_,_⟩,_⟩:=(I.ja a _ h);obtain⟨c,_⟩:=(I.ja a _ z);obtain⟨m,oc,n,t,e,b,f,_⟩:=c;cases e;obtain⟨o,es,p,g⟩:=i;rw[g.1] at b;cases b;rw[g.2.1] at f;cases f
section
variable {X:Cx}
def Y5(kq:X.stack=X.env::X.cv)(Vz:X.env.frame=aa X.env.locals)(M:X.N.Nodup)(hi:X.N[i]?=aa n)(U:X.env.kindOf n=aa .local)(RT:Loc X.env.scope n)(hf:X.fn n=ag\/X.env.scope.names.lookup n=aa .local)
(hg:Gl X tn)(hm:X.mg tn=aa (.ref B))(vC:(tn==(fy:aX))=au)
(hb:∀(pn:List (aw×cC)) (E':ai->av->Prop) (Ex:XS),xg (X.wp pn E') Ex->y7 (X.wp pn E') body (tb Ex))
(hh:∀e,y7 (X.MD e) (VG::KU) th):
  PS X (.Try body [.ExceptHandler (aa (.Name tn tp)) (aa n) (VG::KU) acu] [] [] pos) (aeU X.K i B tb th):=by
 intro cc s σ H D I h;refine wpAny_Try_except ?_;have len:=I.len;have g:=I.ok;refine cn (hb (X.pn++cc) (λe jE=>wpAny (model X.prog X.w) X.A (aiY e X.env) (λ_ Fp=>wpAny (model X.prog X.w) X.A (aiX e ar) (λ_ As=>wpAny (model X.prog X.w) X.A _ (SP X cc D) X.xe As) X.xe Fp) X.xe jE)
  (λL C od j=>∃c fs,C=.ref c/\NY X.K c B/\XDD j od fs/\∀x,j x=ar->Im j od->th (dE i D) _ (hdH j x c od fs)) ?_ [] s σ H D (I.wp _) h) (λf s1 q=>?_) λe s1 q=>q
 .intro JK T3 H1 s1 e s' I1 hc;obtain⟨x,C,od,j,T,rfl,ho,hgb,u,ja,hr,hx,hT,Xu,Xt,c,fs,rfl,sub,O,hth⟩:=hc;have Y:=I1.CV (ch:=[]) ho u ja hgb (λb hb=>by cases hb);have Q:=I1.VF hx;have fT:=I1.VF hT;have agZ:X.A.frames=aa (X.env::X.cv):=by rw[<-kq];exact g.frames
  have ag0:s'.heap.FunFrames X.cq (X.env::X.cv):=by rw[<-kq];exact Y.stack
  refine GK agZ ag0 Vz hr λh' T' Qn m hL=>?_;have hL':NT (tY X.stack) [x,T] s'.heap h':=by rw[kq];exact hL
  have I3:=Y.aaS (t':=s'.toks) (R:=[x,T]) (λb hb=>by
   rcases aH.mp hb with rfl|hb
   .exact⟨Q,Xu⟩
   .cases bj.mp hb;exact⟨fT,Xt⟩) hL'
  have o:=Y.VF Qn;have ag1:j T'=ar:=Y.ja.fresh Qn;have J:=I3.FA g;have gx:Far X cc x:=⟨Q.s0,Q.lo,Q.ce,λp hp=>Q.pi p (bW _ hp)⟩;have gT:Far X cc T':=⟨o.s0,o.lo,o.ce,λp hp=>o.pi p (bW _ hp)⟩;have m:=m;have J':=J.MD (.ref x);refine wpAny_handleBy_cons (codeAny_handlers_test (w5 (X:=X.MD (.ref x)) J' hg hm ?_ vC)) (by intro q;cases q);have hr0:=m;obtain⟨oe,vs,oT,ts,he,hc1,Uk,_⟩:=hr0;refine NZ (X:=X) J.ub he hc1 sub ?_;refine codeAny_handlers_suite_as (Sn (X:=X) J m gT ag1 λs4 J4 r4=>?_);refine Aq (X:=X) J4 M hi RT (v:=.ref x) rfl (λs5 J5 ⟨a,hs,ha⟩=>?_) hf;have hxa:x≠a:=by
   rcases ha with rfl|ha
   .exact gx.lo
   .exact b9 (gx.ce _ a ha)
  have J6:Inv X cc (T3.set i (aa (.ref x))) (hdH j x c od fs) s5:=by obtain⟨oe,vs,_,_,e,h1,h2,h3,_⟩:=r4;exact J5.NX Xu gx O ((hs.2 x hxa).trans e) h1 h2 h3
  refine cn (hh (.ref x) cc s5 _ _ (dE i D) (J6.MD _) (hth x Xu (J.acx O))) (λf s6 q=>?_) λ_ _ z=>z.elim;cases f with
  |next=>obtain⟨L,E,y,q⟩:=q;exact zG (y.Qv g) M hi U λs7 G=>⟨_,E,G,q⟩
  |brk=>obtain⟨L,E,y,q⟩:=q;exact zG (y.Qv g) M hi U λs7 G=>⟨_,E,G,q⟩
  |cont=>obtain⟨L,E,y,q⟩:=q;exact zG (y.Qv g) M hi U λs7 G=>⟨_,E,G,q⟩
  |ret u=>obtain⟨v,L,E,y,r,q⟩:=q;exact zG (y.Qv g) M hi U λs7 G=>⟨v,_,E,G,r,q⟩
 .cases f with
  |next=>
   obtain⟨L,j,y,q⟩:=q;exact gL ⟨L,j,y.FA g,q⟩
  |brk=>exact SP.FA (f:=.brk) g q
  |cont=>exact SP.FA (f:=.cont) g q
  |ret u=>exact SP.FA (f:=.ret u) g q
end
end L2
namespace L3
open L2
structure EX where
 C:aw
 ns:List aX
 ds:List D
abbrev KW:=EX->nB->Ms->Prop
def KW.le(x y:KW):Prop:=∀e a M,x e a M->y e a M
def KW.rfl(x:KW):x.le x:=λ_ _ _ h=>h
abbrev xK(K:bz)(F α:List aw)(H:Hp)(M:Ms)(E:XS):KW:=λx g c=>∀e b a od f,Ext F α H M b a c->R K F b a e g c->x.ns.length=x.ds.length->XDD a od (x.ns.zip f)->hZ K b (jU F b c a) x.ds f->E e (.ref x.C) od a
def xK.grow{K:bz}(e:Ext F α H M a b c):KW.le (xK K F α H M E) (xK K F a b c E):=λx m n h f g i od j e2=>h f g i od j (e.trans e2)
abbrev XE:=KW->DE
abbrev XA:=KW->DA
abbrev XB:=KW->DS
def lEX (K:bz)(E:XS)(t:XE):TE:=λσ H Q=>∃F α a M,R K F α H σ a M/\t (xK K F α H M E) a M (vK K F α H M Q)
def lAX (K:bz)(E:XS)(t:XA):TA:=λσ H Q=>∃F α a M,R K F α H σ a M/\t (xK K F α H M E) a M (aK K F α H M Q)
def lSX (K:bz)(E:XS)(t:XB):TS:=λD σ H=>∃F α a M,R K F α H σ a M/\t (xK K F α H M E) (qN K F α H M D) a M
structure JEX(X:Cx)(E:XS)(e:bJ)(t:XE):Prop where
 mono:∀(x y:KW) δ M (P Q:DK),x.le y->(∀d M,P d M->Q d M)->t x δ M P->t y δ M Q
 p:PE X e (lEX X.K E t)
structure JAX(X:Cx)(E:XS)(es:List bJ)(t:XA):Prop where
 mono:∀(x y:KW) δ M (P Q:List D->Ms->Prop),x.le y->(∀d M,P d M->Q d M)->t x δ M P->t y δ M Q
 p:PA X es (lAX X.K E t)
structure JSX(X:Cx)(E:XS)(st:c5)(t:XB):Prop where
 mono:∀(x y:KW) (P Q:jZ) δ M,x.le y->P.le Q->t x P δ M->t y Q δ M
 p:PS X st (lSX X.K E t)
structure Y6(X:Cx)(E:XS)(st:List c5)(t:XB):Prop where
 mono:∀(x y:KW) (P Q:jZ) δ M,x.le y->P.le Q->t x P δ M->t y Q δ M
 p:y7 X st (lSX X.K E t)
section
variable {X:Cx} {t:XB} {pos:eL} {x:aX} {st:c5} {bs:List c5} {es:List bJ}
def JA.Ss{t:DA}(h:JA X es t):JAX X E es λ_=>t:=⟨λx y a M P Q _ w q=>h.mono _ _ _ _ w q,h.p⟩
def JS.Ss{t:DS}(h:JS X st t):JSX X E st λ_=>t:=⟨λx y P Q a M _ w q=>h.mono _ _ _ _ w q,h.p⟩
def Dk.Ss{t:DS}(h:Dk X Xn t):Y6 X E Xn λ_=>t:=⟨λx y P Q a M _ w q=>h.mono _ _ _ _ w q,h.p⟩
abbrev MH:=List D->(D->Prop)->(EX->Prop)->Prop
abbrev DV(g:MH):Prop:=∀ds (P Q:D->Prop) (x y:EX->Prop),(∀d,P d->Q d)->(∀e,x e->y e)->g ds P x->g ds Q y
abbrev yK(K:bz)(F α:List aw)(H:Hp)(M:Ms)(E:XK):EX->Prop:=λx=>∀a od b,Ext F α H M α a M->OK K F α a M->x.ns.length=x.ds.length->XDD a od (x.ns.zip b)->hZ K α (jU F α M a) x.ds b->E (.ref x.C) od a
def Io (K:bz)(g:MH):Sp:=λa H Q E=>∃F α M ds,OK K F α H M/\hZ K α (jU F α M H) ds a/\mY ds=ag/\g ds (λd=>vK K F α H M Q d M) (yK K F α H M E)
structure zH(P:bc)(w:bI)(K:bz)(mg:aX->Option ai)(cq:aC)(k:Nat)(x:aX)(ps:List aX)(g:MH):Prop where
 mono:DV g
 p:vq P w K mg cq k x ps (Io K g)
def dCX (g:MH)(tt:XA):XE:=λx a M Q=>tt x a M λds M1=>mY ds=ag/\g ds (λd=>Q d M1) λe=>x e a M1
def KY(h:zH X.prog X.w X.K X.mg X.cq k x B g)(b:ka k X.A)(f:xg X E)(ha:JAX X E (e::es) tt)(j:Gl X x:=by rfl)(m:(x==(fy:aX))=au:=by decide)
(n:bg (e::es) X.env=(au,eval e X.env)::bg es X.env:=by rfl)(o:(du pos (bg es X.env)).any (·.1)=au:=by rfl):JEX X E (.Call (.Name x p) (e::es) [] pos) (dCX g tt):=by refine⟨λx y a M P Q v w q=>ha.mono _ _ a _ _ _ v (λds M1 q=>⟨q.1,h.mono _ _ _ _ _ (λd q=>w _ _ q) (λe q=>v _ _ _ q) q.2⟩) q,PE.weak (acw h.p b f ha.p j m n o) λσ H Q q=>?_⟩;obtain⟨F,α,a,M,r,q⟩:=q;refine⟨F,α,a,M,r,ha.mono _ _ a _ _ _ (KW.rfl _) (λds M1 q C i H1 e1 o1 s=>?_) q⟩;exact⟨F,i,M1,ds,o1,s,q.1,h.mono _ _ _ _ _ (λd q=>vK.grow e1 _ _ q) (λex q z od ws e2 o2 l f b=>q σ i z od ws (e1.trans e2) ((r.grow e1 o1).grow e2 o2) l f b) q.2⟩
def Su (t u:XB):XB:=λx=>iz (t x) (u x)
def qD(h:JSX X E st t):Y6 X E [st] t:=⟨h.mono,Pu h.p⟩
def vX(a:JSX X E st t)(b:Y6 X E Xn u):Y6 X E (st::Xn) (Su t u):=by refine⟨λx y P Q f M v w q=>a.mono _ _ {P with nx:=u x P} _ _ _ v ⟨λf M q=>b.mono _ _ _ _ _ _ v w q,w.rt,w.bk,w.ct⟩ q,y7.weak (JN a.p b.p) λD σ H q=>?_⟩;obtain⟨F,α,f,M,r,q⟩:=q;refine⟨F,α,f,M,r,a.mono _ _ _ _ _ _ (KW.rfl _) ?_ q⟩;exact⟨λg M1 q j h H1 e1 i=>⟨F,h,g,M1,i,b.mono _ _ _ _ _ _ (xK.grow e1) (qN.grow e1) q⟩,λ_ _ q=>q,λ_ _ q=>q,λ_ _ q=>q⟩
def xIf (c:DT)(t u:XB):XB:=λx=>js c (t x) (u x)
def N0(hc:JT X c tA)(ha:Y6 X E as t)(hb:Y6 X E bs u):JSX X E (.If c as bs pos) (xIf tA t u):=by
 refine⟨λx y P Q a M v w q=>hc.mono a _ _ _ (λb M1 q=>?_) q,PS.weak (aak hc.p ha.p hb.p) λD σ H q=>?_⟩
 .cases b with
  |true=>exact ha.mono _ _ _ _ _ _ v w q
  |false=>exact hb.mono _ _ _ _ _ _ v w q
 .obtain⟨F,α,a,M,r,q⟩:=q;refine⟨F,α,a,M,r,hc.mono a _ _ _ (λb M1 q f H1 e1 o1=>?_) q⟩;cases b with
  |true=>
   exact⟨F,f,a,M1,r.grow e1 o1,ha.mono _ _ _ _ _ _ (xK.grow e1) (qN.grow e1) q⟩
  |false=>
   exact⟨F,f,a,M1,r.grow e1 o1,hb.mono _ _ _ _ _ _ (xK.grow e1) (qN.grow e1) q⟩
def GL (te:XE):XB:=λx=>lp (te x)
def vY(b:JEX X E e te)(f:fj e ar pos.line X.env=pure au:=by rfl):JSX X E (.Expr e pos) (GL te):=by refine⟨λx y P Q a M v w q=>b.mono _ _ a _ _ _ v (λd M1 q=>w.nx _ _ q) q,PS.weak (Pw b.p f) λD σ H q=>?_⟩;obtain⟨F,α,a,M,r,q⟩:=q;exact⟨F,α,a,M,r,b.mono _ _ a _ _ _ (KW.rfl _) (λd M1 q v g H1 e1 o1 h=>q σ g H1 e1 (r.grow e1 o1)) q⟩
end
def Cb (n m:Nat)(tb:XB):MH:=λds Q b=>ds.length=m/\tb (λe _ _=>mY e.ds=ag/\b e) ⟨λ_ _=>Q .non,λd a=>nl (fz a d)=ag/\Q (fz a d),λ_ _=>False,λ_ _=>False⟩ (qf n ds) []
section
variable {P:bc} {K:bz}
def Sv(hb:∀(x y:KW) (P Q:jZ) a M,x.le y->P.le Q->tb x P a M->tb y Q a M):DV (Cb n m tb):=λds P Q x y w v q=>⟨q.1,by
 refine hb _ _ _ _ _ _ (λe _ _ q=>⟨q.1,v _ q.2⟩) ?_ q.2;exact⟨λ_ _ q=>w _ q,λ_ _ q=>⟨q.1,w _ q.2⟩,λ_ _ q=>q,λ_ _ q=>q⟩⟩
def Y7{m:List aX}(f:Y6 X (λ_=>E) body tb)(s:X.K=K)(h:Io K (Cb n.length m.length tb) c H Q E):
  ∃t,y7 X body t/\t {nx:=λ_ b=>Q .non b,rt:=Q} (L2.start n c) H:=by
 subst s;obtain⟨F,α,M,ds,o,r,hn,G,q⟩:=h;have u:OK X.K _ [] H []:=⟨rfl,eO,λa ha=>⟨by simp,by
  rcases bt.mp ha with ha|ha
  .exact o.PL a ha
  .exact(o.fr a ha).2⟩,λa ha=>(by simp at ha),λk x h=>(by simp at h),o.tb⟩
 have y:hZ X.K [] _ ds c:=hZ.nl ds c hn r;refine⟨_,f.p,lv α M++F,[],qf n.length ds,[],Ct u y,?_⟩;refine f.mono _ _ _ _ _ _ (λe I g ⟨nl,z⟩ A i b od ws ext B l xd C=>?ex) ?le q;case ex=>
  obtain⟨e1,o1⟩:=ni o ext B.ok;exact z b od ws e1 o1 l xd (hZ.nl _ _ nl (hZ.mono (aV _) qw _ _ C))
 case le=>
  refine⟨λJ g q A i b e r=>?_,λd g q v i b e j r=>?_,λ_ _ q=>q.elim,λ_ _ q=>q.elim⟩
  .obtain⟨e1,o1⟩:=ni o e r.ok;exact q _ α b e1 o1 qt
  .obtain⟨e1,o1⟩:=ni o e j;exact q.2 v α b e1 o1 (Rep.nl _ _ q.1 (UN j d v r))
def Qw(h:vq P w K mg cq k x b (Io K g))(m:DV a)(i:∀ds Q y,a ds Q y->g ds Q y):zH P w K mg cq k x b a:=
 ⟨m,h.imp λc H Q E ⟨F,α,M,ds,o,r,n,q⟩=>⟨F,α,M,ds,o,r,n,i _ _ _ q⟩⟩
def zH.calm{k:Nat}{x:aX}{a:List aX}{g:MH}(h:zH P w K mg cq k x a g):i8 P w K mg cq k x a (cl λds Q=>g ds Q λ_=>False):=
 ⟨HB λds P Q w q=>h.mono _ _ _ _ _ w (λ_ q=>q) q,let⟨f,fd,m,kp,b,F⟩:=h.p.has;⟨f,fd,m,kp,b,F.imp λc H Q E ⟨F,α,M,ds,o,r,n,q⟩=>⟨F,α,M,ds,o,r,n,h.mono _ _ _ _ _ (λ_ q=>q) (λ_ q=>q.elim) q⟩⟩⟩
end
def ag2(v:V):Bool:=match v with|.int n=>decide (n.natAbs.log2<1920)&&decide ((toString n:aX).length<=4000)|.str y=>decide (y.length<=4000)|_=>au
def spI (C:aw)(ns:List aX):Sp:=λb H Q _=>∃x ws,b=.ref x::ws/\ws.length=ns.length/\ws.all ag2=ag/\H x=aa (Fz x C ar)/\
 ∀a,H a=ar->a≠x->Q .non (upd (upd H a (xdH a (ns.zip ws))) x (Fz x C (aa a)))
section
variable {k:Nat} {es:List bJ}
structure af0(P:bc)(w:bI)(K:bz)(mg:aX->Option ai)(cq:aC)(k:Nat)(x:aX)(C:aw)(ns:List aX):Prop where
 m:mg x=aa (.ref C)
 ok:∃f fd ps,XMk K C f/\Binds K fd ps []/\lP P w K mg cq uk k f fd ps (spI C ns)
end
section
variable {K:bz} {σ:L2.St} {δ:nB}
def R.unset(r:R K F α H σ δ M)(i:Nat):R K F α H (σ.set i ar) (δ.set i ar) M:=by
 refine⟨r.ok,by simp[r.len],λj d h=>?_⟩;by_cases a:j=i
 .subst a;by_cases b:j<δ.length
  .simp[b] at h
  .simp[b] at h
 .rw[aJ (b9 a)] at h |-;exact r.sl j d h
def OK.ghost(o:OK K F α H M)(g:H p=aa (.ext G))(m:∀q,H p≠aa (zm p q)):OK K F α (upd H p x) M/\Ext F α H M α (upd H p x) M:=by
 have n:vn (H p)=ar:=by rw[g]
 have tY:∀a,vn (H a)≠ar->upd H p x a=H a:=λa h=>ii λz=>by subst z;exact h n
 have i:kC (jU F α M H) (jU F α M (upd H p x)):=λb y q=>by obtain⟨z,j,s⟩:=qM q;exact mL q z (by rw[tY b (by rw[j,s];exactλz=>by cases z)];exact j)
 refine⟨⟨o.ml,o.nd,λa ha=>⟨(o.fr a ha).1,by rw[tY a (o.fr a ha).2];exact(o.fr a ha).2⟩,λa ha=>by rw[tY a (o.al a ha)];exact o.al a ha,λk y h=>?_,λy u c P e=>?_⟩,⟨aV _,i,λa ha=>tY a (o.fr a ha).2⟩⟩
 .obtain⟨a,e,r⟩:=o.own k y h;exact⟨a,e,r.mono (aV _) i (tY a r.vn)⟩
 .obtain⟨w,f,A,B⟩:=o.tb y u c P e;refine⟨w,by rw[ii λz=>by rw[z,g] at f;cases f];exact f,A,λpos v C=>?_⟩;obtain⟨E,e1,e2⟩:=B pos v C;exact⟨E,e1,by rw[ii λz=>by subst z;exact m _ e2];exact e2⟩
def OK.NX(o:OK K F α H M)(a:H x=ar)(xd:XDD H od fs)(f:Im H od):OK K F α (hdH H x c od fs) M/\Ext F α H M α (hdH H x c od fs) M/\jU F α M (hdH H x c od fs) x=aa (.xc c fs):=by
 have e:∀H1,mw _ (upd H1 x (.xc c fs)) x=aa _:=λH1=>kt (o.new a) iE rfl;cases od with
 |none=>
  obtain⟨o1,e1⟩:=o.laid a;exact⟨o1,e1,e _⟩
 |some b=>
  have hd:H b=aa _:=xd;obtain⟨o1,e1⟩:=o.ghost (x:=.own x) hd (f b rfl);have ne:x≠b:=λz=>by rw[<-z,a] at hd;cases hd
  obtain⟨o2,e2⟩:=o1.laid (by rw[ii ne];exact a);exact⟨o2,e1.trans e2,e _⟩
end
def dEd(i:Nat)(E:jZ):jZ:=⟨λa M=>E.nx (a.set i ar) M,E.rt,λa M=>E.bk (a.set i ar) M,λa M=>E.ct (a.set i ar) M⟩
def aeV (K:bz)(i:Nat)(B:aw)(tb:XB)(a:DS):DS:=λE b M=>tb (λe c f=>NY K e.C B/\a (dEd i E) (c.set i (aa (.exc e.C e.ns e.ds))) f) E b M
section
variable {X:Cx}
def acy(O:X.N.Nodup)(hm:X.mg j=aa (.ref B))
(hb:∀(pn:List _) (h:ai->av->Prop) (a:XS),xg (X.wp pn h) a->Y6 (X.wp pn h) a body tb)
(y:∀e,Dk (X.MD e) (T::U) m)(hi:X.N[i]?=aa n:=by rfl)(Y:X.env.kindOf n=aa .local:=by rfl)(RT:Loc X.env.scope n:=by first|exact ahS rfl|exact ahA rfl)(hf:X.fn n=ag\/X.env.scope.names.lookup n=aa .local:=by first|exact .inl rfl|exact .inr rfl|assumption)
(hg:Gl X j:=by rfl)(vC:(j==(fy:aX))=au:=by decide)(kq:X.stack=X.env::X.cv:=by rfl)(Vz:X.env.frame=aa X.env.locals:=by rfl):
  JS X (.Try body [.ExceptHandler (aa (.Name j tp)) (aa n) (T::U) acu] [] [] pos) (aeV X.K i B tb m):=by
 have z:=(y .none).mono;have b:=(hb [] (λ_ _=>True) (λ_ _ _ _=>False) λ_ _ _ _ _ _ _ _=>trivial).mono;refine⟨λP Q A M w q=>b _ _ _ _ _ _ (λe nJ o q=>⟨q.1,z _ _ _ _ ?_ q.2⟩) w q,PS.weak (Y5 (tb:=λa=>lSX X.K a tb) (th:=lS X.K m) kq Vz O hi Y RT hf hg hm vC (λpn h a hp=>(hb pn h a hp).p) λe=>(y e).p) λD σ H q=>?_⟩
 .exact⟨λ_ _ q=>w.nx _ _ q,w.rt,λ_ _ q=>w.bk _ _ q,λ_ _ q=>w.ct _ _ q⟩
 .obtain⟨F,α,A,M,r,q⟩:=q;refine⟨F,α,A,M,r,b _ _ _ _ _ _ (λex nJ o ⟨sub,q⟩ j9 s H' od u e1 G l xd rp=>⟨ex.C,ex.ns.zip u,rfl,sub,xd,λx hx nc=>?_⟩) (jZ.le.refl _) q⟩;obtain⟨o2,e2,v⟩:=G.ok.NX hx xd nc;have rx:Rep X.K s (jU F s o (hdH H' x ex.C od (ex.ns.zip u))) (.exc ex.C ex.ns ex.ds) (.ref x):=by exact⟨x,u,rfl,v,l,e2.Dc rp⟩
  refine⟨F,s,_,o,(G.grow e2 o2).set rx,z _ _ _ _ ?_ q⟩;have e12:=e1.trans e2;exact⟨λI J q L c f e3 g=>q _ c f (e12.trans e3) (g.unset i),vK.grow e12,λI J q L c f e3 g=>q _ c f (e12.trans e3) (g.unset i),λI J q L c f e3 g=>q _ c f (e12.trans e3) (g.unset i)⟩
end
abbrev FP:=aX⊕Nat
def tFP:FP->TE
 |.inl c=>tC (.str c)
 |.inr i=>agU (TU i)
def tJs:List FP->TJ
 |[]=>aeQ
 |p::a=>act (tFP p) (tJs a)
structure FPs(X:Cx)(es:List bJ)(ps:List FP):Prop where
 p:PJ X es (tJs ps)
def tFs (K:bz):List aX->Nat->TS
 |[],_=>λD σ H=>D.nx σ H
 |f::r,i=>adP (aeS K (TU 0) (TU i) f) (tFs K r (i+1))
structure JFs(X:Cx)(Xn:List c5)(ns:List aX)(i:Nat):Prop where
 p:y7 X Xn (tFs X.K ns i)
section
variable {es:List bJ}
end
def cH(H:Hp)(x a C:aw)(l:List (aX×V)):Hp:=upd (upd H a (xdH a l)) x (Fz x C (aa a))
def JQ(n:Nat):FP->Bool
 |.inl c=>decide (c.length<=4000)
 |.inr i=>decide (1<=i)&&decide (i<=n)
section
variable {X:Cx}
def VJ (K:bz):GN:=λds M Q=>match ds with
 |[.exc C ns es,.cls B]=>∃b,Sq K C/\dt K (.ref C) (.ref B)=aa b/\Q (.bl b) M
 |_=>False
def VL:JB X (.builtin px) (VJ X.K):=by
 refine⟨λds M P Q w q=>?_,λcc s σ H xs us Q I rs h=>?_⟩
 .match ds,q with
  |[.exc C ns es,.cls B],⟨b,e1,e2,q⟩=>exact⟨b,e1,e2,w _ _ q⟩
 .obtain⟨F,α,M,ds,o,c,h⟩:=h;match ds,h,c with
  |[.exc C ns es,.cls B],⟨b,e1,e2,q⟩,c=>
   obtain⟨v,u,e,g,i⟩:=xF c;subst e;subst i;obtain⟨a,x,rfl,ha,l,j⟩:=g;obtain⟨m,n,rfl,p,r⟩:=vals2 rs;obtain rfl:m=bE a:=p;obtain rfl:n=bE B:=r;exact Y3 I (iJ _ _ ha) e1 e2 λtk=>⟨.bl b,H,I.tok tk,rfl,vK.now o q jG⟩
end
end L3
namespace L2
inductive TC(je:Hp)(P:Hp->Prop):Hp->Prop
 |cq {H:Hp}:P H->TC je P H
 |Dh {H:Hp} {a:aw} {o:cC} {iB:List (Key×V)}:H a=aa (.qd o (.dK iB))->(∀o u,je a≠aa (.qd o u))->TC je P (upd H a (.dK iB))->TC je P H
abbrev tcE(je:Hp)(E:XK):XK:=λC od=>TC je (E C od)
section
variable {P:bc}
def VM(h:Y0 P w cv H s (tcE H E) e y):Y0 P w cv H s E e y:=by
 obtain⟨x,C,od,U,T,rfl,A,B,u,ja,G,f,I,g,i,J⟩:=h;induction J with
 |cq h=>exact⟨x,C,od,_,T,rfl,A,B,u,ja,G,f,I,g,i,h⟩
 |@Dh H1 a o Y ha L _ M=>
  have j:∀b,H1 b=ar->b≠a:=λb h z=>by rw[z,ha] at h;cases h
  refine M ⟨u.keep,u.slot,λb o q n f=>?_,u.there,λb xs q=>?_,λb o p q=>?_,λb N q=>?_⟩ (λb ob q=>?_) (by rw[ii (j _ g)];exact g) (by rw[ii (j _ i)];exact i)
  .have:=u.free b o q n f;rw[ii (j b this)];exact this
  .have:=u.ua b xs q;rw[ii λz=>by rw[z,ha] at this;cases this];exact this
  .have:=u.rR b o p q;rw[ii λz=>L o p (by rw[<-z];exact q)];exact this
  .obtain⟨m,e⟩:=u.tz b N q;exact⟨m,by rw[ii λz=>by rw[z,ha] at e;cases e];exact e⟩
  .by_cases z:b=a
   .subst z;rw[iE] at q;cases q;obtain⟨_,z,hd,O,r,ob,es,Q,e,c⟩:=(ja b _ ha);exact⟨z,hd,O,r,ob,es,Q,e,c⟩
   .rw[ii z] at q;refine(ja b ob q).vm (λc v _ r=>r) (λc r=>?_) (λc xs r=>?_)
    .rw[ii λz=>by rw[z,ha] at r;cases r];exact r
    .rw[ii λz=>by rw[z,ha] at r;cases r];exact r
variable {K:bz}
def lP.Dh{sp a:Sp}(F:lP P w K mg cq (Y0 P w) k f fd g a)(h:∀b H Q E,sp b H Q E->a b H Q (tcE H E)):lP P w K mg cq (Y0 P w) k f fd g sp:=
 ⟨λb H Q E q=>F.len _ _ _ _ (h _ _ _ _ q),λA cv s H args us b Q E i j hb r q=>dk (F.run A cv s H args us b Q _ i j hb r (h _ _ _ _ q)) λr m c=>by
  cases r with
  |error e=>exact VM c
  |ok fl=>cases fl<;>exact c⟩
end
end L2
namespace L3
open L2
section
variable {K:bz}
def Qx{st:c5}(F:iw K mg x st)(n:jq st=body)(es:iT st=scope)(S:kY N a scope)
(hb:∀(kV doc pm:ai) (an:Option aw) (jd ct:ai) (us:List ai),us.length=a.length->dI (eu x x (k9 st) (jq st) (iT st) .none kV doc pm an jd ct) ⟨us,[]⟩=pure (a.zip us))
(i:∀(f:aw) (jd:ai) (A:bH) (cv:List ahL) (s:av) (H:Hp) (E:XK),ka k (A.deeper (dZ x scope s.heap.objs.size f jd))->Y6 (Ik P w K mg cq N x scope f jd A cv s H (tcE H E)) (λ_=>tcE H E) body tb):
  vq P w K mg cq (k+1) x a (Io K (Cb N.length a.length tb)):=by
 have p:vq P w K mg cq (k+1) x a (λc H Q g=>∃E,g=tcE H E/\Io K (Cb N.length a.length tb) c H Q E):=
  F.agY n es S hb (λc H Q g ⟨E,_,F,α,M,ds,o,r,hn,u,q⟩=>by rw[<-hZ.length _ _ r];exact u) λf jd A cv s H c Q g j ⟨E,e,F,α,M,ds,o,r,hn,q⟩=>by subst e;exact Y7 (i f jd A cv s H E j) rfl ⟨F,α,M,ds,o,r,hn,Sv (i f jd A cv s H E j).mono _ _ _ _ _ (λ_ q=>q) (λex q v od ws e1 o1 l xd y=>.cq (q v od ws e1 o1 l xd y)) q⟩
 obtain⟨f,fd,m,kp,b,z⟩:=p;exact⟨f,fd,m,kp,b,z.Dh λc H Q E h=>⟨E,rfl,h⟩⟩
end
end L3
namespace L2
def ag3 (h:aC)(e:aw)(cls:ai)(od:Option aw)(T:aw):Prop:=
 ∃a b c f v,h.get? e=aa a/\a.cls=cls/\a.dict=od/\a.data=.fields b/\b[1]?=aa (.ref T)/\T≠e/\h.get? T=aa c/\c.data=.fields f/\f[3]?=aa v
def Rec.any{h:aC}{e:aw}{cls:ai}{od:Option aw}{T:aw}(r:Rec h e cls od T):ag3 h e cls od T:=by obtain⟨a,b,c,f,g,i,j,m,n,o,p,q,s⟩:=r;exact⟨a,b,c,f,.none,g,i,j,m,n,o,p,q,s⟩
section
variable {iter:bJ}
end
section
variable {iter:bJ}
end
end L2
namespace L3
open L2
section
variable {K:bz}
def VN:kC (jU (p::F) α M H) (jU F α M H):=λb x h=>by
 obtain⟨z,q⟩:=iW h;refine mL h (λw=>z ?_) q;rcases bt.mp w with w|w
 .exact bW _ w
 .exact bL _ (aB _ w)
def R.shown(a:p∉F)(r:R K (p::F) α H σ δ M){x:HO}(b:H p=aa x):R K F α H σ δ M:=by
 have o1:=r.ok.er a;obtain⟨o2,_⟩:=o1.laid (p:=p) (x:=x) HD;rw[abZ b] at o2;exact⟨o2,r.len,λi d h=>by obtain⟨v,c,e⟩:=r.sl i d h;exact⟨v,c,Rep.mono (aV _) VN _ _ e⟩⟩
end
section
variable {iter:bJ}
end
section
variable {iter:bJ}
end
end L3
namespace L2
open PySem.W PySem.Calls Builtin
section
variable {A:bH} {R:ai0->av->Prop} {h:aC} {d:ajM} {t:Nat} {os:ajx}
variable {nm:aX} {bs:List ai} {sn:List aX} {sub:List ai} {B:String}
def Sw{i:ai}(F:ai7 B newId AN bmB)(T:OwnTail h bmB bm){rest:List ai}
(c:h.get? C=aa (fe nm q C N bs bm oM sn sub ab col dd k0 k1 k2 k3 k5 newId))(call:Looks (model prog w) h (specialOf (.ref C) "__call__") (aa (.builtin ol)))(typ:Looks (model prog w) h (ajm (.ref C) (.type "type")) ag)
(hi:Looks (model prog w) h (ail (.ref C) mm) (aa i))(hb:∀self,Looks (model prog w) h (bindSpecial i self) (i,[self]))(j:rest.length<=aO)
(p:codeAny (model prog w) (A.under (.builtin ol ⟨.ref C::rest,[]⟩)) (.call i ⟨.ref (h.objs.size+1)::rest,[]⟩) (InitBack (h.objs.size+1) R) ⟨(h.push (yn rest)).push (ym C h.objs.size),g,d,t,os⟩):
  codeAny (model prog w) A (.call (.ref C) ⟨rest,[]⟩) R ⟨h,g,d,t,os⟩:=by
 refine ajI ?_;show wpAny _ _ (ajv (.ref C) _) _ _ _;refine nd_load c ?_;show wpAny _ _ (ajv.viaDunder (.ref C) _) _ _ _;unfold ajv.viaDunder;refine ae (call.at ?_);dsimp only;rw[tc_bind];refine ae (ay (ae (ay ?_)));refine ay (a:=Fin.again (.call (.builtin ol) ⟨.ref C::rest,[]⟩)) (And.intro rfl ?_);refine codeAny_call_builtin_at (Code.quiet_builtin _ (by decide+kernel)) entry_typeCall (check_slot tc_kind tc_split typ (tc_args _ _ _) ?_);unfold bM.«type.__call__»;repeat (first|with_reducible refine ahK c ?_|with_reducible refine wpAny_madeBy_exc c ?_|wp_step)
 refine codeAny_call_builtin_code (Code.quiet_builtin _ F.quiet) (wpAny_check_new_subT F T c ?_);refine codeAny_exc_new_subT F T c ?_ j;show wpAny _ _ _ _ _ _;have k:∀b o,h.get? b=aa o->((h.push (yn rest)).push (ym C h.objs.size)).get? b=aa o:=λb o e=>aj _ (aj _ e);have u:((h.push (yn rest)).push (ym C h.objs.size)).get? (h.objs.size+1)=aa (ym C h.objs.size):=by heap_get
 have m:=k _ _ c;have G:Looks (model prog w) ((h.push (yn rest)).push (ym C h.objs.size)) (typeOf (.ref (h.objs.size+1))) (.ref C):=(Looks.ld u).andThen .now;have n:(bE C::bm).contains (.ref C)=ag:=by simp
 have s1:Looks (model prog w) ((h.push (yn rest)).push (ym C h.objs.size)) (isSubtype (.ref C) (.ref C)) ag:=by intro A Q E s x y;obtain⟨H,g,d,t,os⟩:=s;refine gR (x _ _ m) ?_;rw[n];exact y
 have I:=hi.keeps k;have b1:=(hb (.ref (h.objs.size+1))).keeps k;unfold ajm callSpecial? specialOf;repeat (first|with_reducible refine fJ ?_|lk)
 refine dk p λr J z=>?_;rcases r with e|(v|_|_|_)<;>first|exact z|exact z.elim|skip
 obtain⟨rfl,z⟩:=z;exact ay (ay z)
end
section
variable {A:bH} {h:aC} {d:ajM} {t:Nat} {os:ajx}
variable {nm:aX} {bs:List ai} {sn:List aX} {sub:List ai} {k0:Option ai}
def Sx(F:ai7 B newId AN bmB)(T:OwnTail h bmB bm)
(v:h.get? C=aa (fe nm q C N bs bm oM sn sub ab col dd k0 k1 k2 k3 k5 newId))(p:h.get? x=aa c)(f:c.cls=.ref C)(hd:c.data=.fields i)(J:1<i.size)
(y:∀j a,j.get? x=aa {c with data:=.fields (i.setIfInBounds 0 a)}->(∀b o,b≠x->h.get? b=aa o->j.get? b=aa o)->Q (.ok (.ret .none)) ⟨j,g,d,t,os⟩):
  codeAny (model prog w) A (.call (.builtin AN) ⟨[.ref x,u],[]⟩) Q ⟨h,g,d,t,os⟩:=by
 obtain⟨oc,od,z,Rt⟩:=c;cases f;cases hd;refine aic F.init.plain F.initEntry (wpAny_check_init_subT F T v p rfl ?_)
 wp_walk
 obtain⟨m,G⟩:∃a,i[0]?=aa a:=⟨_,dq (by omega)⟩;rw[G];refine ay ?_;have r:=aj (h:=h) {cls:=.type fi,data:=.seq [u].toArray} p;refine ae (fY r rfl (by omega) ?_);have H:∀n:Unit->av->Prop,n () ⟨(h.push {cls:=.type fi,data:=.seq [u].toArray}).update x (dH (·.setIfInBounds 0 (.ref h.objs.size))),g,d,t,os⟩->∀s,wpAny (model prog w) A.in1 (match m with|bE I=>letGo [m]|x=>pure ()) n s _:=λn q s=>by
  cases m<;>first|exact ay q|skip
  wp_walk
  exact q
 refine H _ (ay ?_) _;refine y _ (.ref h.objs.size) ?_ λb o hb e=>?_
 .exact cY _ r (eI (c6 rfl _))
 .rw[cA _ _ (b9 hb)];exact aj _ e
end
section
variable {X:Cx}
def N2(FB:ai7 vl qx vo [.type vl,.type zZ,.type nn,.type pa])
(I:Inv X cc σ H s)(ex:H x=aa (Fz x C od))(c:Y1 X.K C)(h:∀m,Inv X cc σ H m->R (.ok (.ret .none)) m):codeAny (model X.prog X.w) A (.call (.builtin vo) ⟨[.ref x,u],[]⟩) R s:=by
 obtain⟨⟨B,p⟩,_,_⟩:=(I.ja x _ ex);obtain⟨nm,q,N,bs,E,G,sn,sub,J,col,dd,k0,L,M,O,Q,f,T⟩:=c.obj;have f:=I.ub _ _ f;have T:=T s.heap I.ub;have nx:∀b,H b=ar->b≠x:=λb e z=>by rw[z,ex] at e;cases e
 have i:=I;obtain⟨U,g,d,t,os⟩:=s;refine Sx FB T f p rfl rfl (by show 1<6;decide) λy a n kp=>h _ ?_;have j:Sl y x (.ref C) od:=⟨a,n⟩;refine i.CV (ch:=[]) rfl ⟨λb o e q _ _=>kp b o (nx b q) e,λb o e q _ _=>⟨o.slots,kp b o (nx b q) e⟩,λb o e q _=>q,λb o e _=>?_,λb xs q=>q,λb o u q=>q,λb Y q=>⟨#[],by rw[q];simp⟩⟩ (λb u q=>?_) i.bare λb hb=>by cases hb
 .by_cases z:b=x
  .subst z;exact⟨_,n⟩
  .exact⟨o,kp b o z e⟩
 .by_cases z:b=x
  .subst z;rw[ex] at q;cases q;exact VE j
  .refine(i.ja b u q).vm (λc v hc r=>kp c v ?_ r) (λc r=>r) λc xs r=>r;rcases hc with rfl|hc
   .exact z
   .exactλz=>by rw[z,ex] at hc;cases hc
structure Sy(K:bz)(C:aw):Prop where
 x:Y1 K C
 call:W.specialIn K (.ref C) "__call__"=aa (aa (.builtin ol))
 typ:W.instIn K (.ref C) (.type "type")=aa ag
 init:cP K (.ref C) mm=aa (aa (.builtin vo))
 kp:ew K (.ref C)=ag
def VO(M:Sy X.K C)(I:Inv X cc σ H s)
(h:∀x,H x=ar->s.heap.objs.size<=x->Q (.ref x) (upd H x (Fz x C ar))):wpAny (model X.prog X.w) X.A (PySem.call (.ref C) [u]) (EP X cc σ Q) X.xe s:=by
 have f:=h _ (I.ja.fresh (cx _)) (cx _);have c:∀b o,s.heap.get? b=aa o->(s.heap.push (yn [u])).get? b=aa o:=λb o e=>aj _ e;have e2:=by
  have:=aP (s.heap.push (yn [u])) (o:=ym C s.heap.objs.size) rfl
  rwa [cj] at this
 have i:Inv X cc σ _ {s with heap:=(s.heap.push _).push _}:=
  (I.kept (t':=s.toks) c).laid (λb u e=>aj _ e) (gC (cj _ _)) (VE ⟨_,e2⟩)
 obtain⟨nm,q,N,bs,r,v,sn,sub,y,col,dd,k0,c,z,B,E,j,T⟩:=M.x.obj;have a:=I.ub;obtain⟨m,g,d,t,os⟩:=s;refine fJ ?_;refine Sw PySem.F.excBase_ValueError (T m a) (a _ _ j) (W.looks_specialIn a M.call) (W.looks_instIn a M.typ) (W.looks_findIn a M.init) (λself=>Looks.of_pure (PySem.F.excBase_ValueError.init.bind self)) (by show 1<=aO;decide) ?_;refine N2 PySem.F.excBase_ValueError i iE M.x λG n=>?_;exact⟨rfl,⟨V.ref _,_,n,rfl,f⟩⟩
end
section
variable {K:bz} {iZ:av}
variable {t:TA}
def Y9 (C:aw)(E:XK)(t:TA):TS:=λ_ σ H=>t σ H λa H1=>a.length=1/\E (.ref C) ar H1
def Za{x:aw}(b:H x=ar):Y2 x (upd H x a)=H:=by
 funext y;by_cases h:y=x
 .subst h;rw[zF,b]
 .rw[Il h,ii h]
def Sz(M:Sy K C)(z:Gl (Ik P w K mg cq N qual scope fn cd A cv iZ je E) x)(hm:mg x=aa (.ref C))
(ha:PA (Ik P w K mg cq N qual scope fn cd A cv iZ je E) [e] t)(B:(x==(fy:aX))=au:=by decide)
(G:bg [e] (Ik P w K mg cq N qual scope fn cd A cv iZ je E).env=(au,eval e (Ik P w K mg cq N qual scope fn cd A cv iZ je E).env)::bg [] (Ik P w K mg cq N qual scope fn cd A cv iZ je E).env:=by rfl):
  PS (Ik P w K mg cq N qual scope fn cd A cv iZ je E) (.Raise (aa (.Call (.Name x p) [e] [] lQ)) ar pos) (Y9 C E t):=by
 intro cc s σ H D I h;obtain⟨nm,q,J,bs,bm,f,sn,sub,g,col,dd,k0,i,j,m,n,L,T⟩:=M.x.obj;have O:=(T cq I.ok.mod.TN).hasType PySem.F.excBase_ValueError.hasBase;have U:=I.ok.hd rfl;refine ae (ahO (Sm (C:=C) (nm:=nm) (q:=q) (N:=J) (bs:=bs) (oM:=f) (sn:=sn) (sub:=sub) (ab:=g) (col:=col) (dd:=dd) (k0:=k0) (k1:=i) (k2:=j) (k3:=m) (k5:=n) (newId:=qx) O U ?_));refine ae (lB (Q:=EP (Ik P w K mg cq N qual scope fn cd A cv iZ je E) cc σ λv b=>∃y,v=.ref y/\iZ.heap.objs.size<=y/\b y=aa (Fz y C ar)/\E (.ref C) ar (Y2 y b)) ?_ λv s3 Y=>ae (ahO (ay ?_)))
 .refine cS (w5 I z hm ?_ B);refine W.callWith_K I.ok.mod.TN M.kp (lB (ha lQ cc s σ H _ I h) λus s1 ⟨vs,H1,I1,r,hl,q⟩=>⟨I1.ub,?_⟩) G rfl;have hu:us.length=1:=by rw[<-r.length];exact hl
  match us,hu with
  |[u],_=>exact VO M I1 λy hy hn=>⟨y,rfl,bG I1.NW hn,iE,by rw[Za hy];exact q⟩
 .obtain⟨v',b,c,rv,y,rfl,hn,o,hE⟩:=Y;cases rv;obtain⟨a,_,_⟩:=(c.ja y _ o);exact⟨y,ar,rfl,c.ub _ _ L,a,VC (c.drop o) a hn zF hE⟩
end
end L2
namespace L3
open L2
def Ip (C:aw)(tt:DA):XB:=λx _ a M=>tt a M λds M1=>ds.length=1/\x ⟨C,[],[]⟩ a M1
section
variable {K:bz}
def DW(M:Sy K C)(hm:mg x=aa (.ref C))(ha:JA (Ik P w K mg cq N qual scope fn cd A cv iZ je E) [e] tt)(b:Gl (Ik P w K mg cq N qual scope fn cd A cv iZ je E) x:=by rfl)(c:(x==(fy:aX))=au:=by decide)
(f:bg [e] (Ik P w K mg cq N qual scope fn cd A cv iZ je E).env=(au,eval e (Ik P w K mg cq N qual scope fn cd A cv iZ je E).env)::bg [] (Ik P w K mg cq N qual scope fn cd A cv iZ je E).env:=by rfl):
  JSX (Ik P w K mg cq N qual scope fn cd A cv iZ je E) (λ_=>E) (.Raise (aa (.Call (.Name x p) [e] [] lQ)) ar pos) (Ip C tt):=by refine⟨λx y P Q a M v w q=>ha.mono a _ _ _ (λds M1 q=>⟨q.1,v _ _ _ q.2⟩) q,PS.weak (Sz M b hm ha.p c f) λD σ H q=>?_⟩;obtain⟨F,α,a,M,r,q⟩:=q;refine⟨F,α,a,M,r,ha.mono a _ _ _ (λds M1 q i g H1 e1 o1 h=>?_) q⟩;exact⟨by rw[<-hZ.length _ _ h];exact q.1,q.2 σ g H1 ar [] e1 (r.grow e1 o1) rfl rfl hZ.nil⟩
end
abbrev N3:List ai:=[.type vl,.type zZ,.type nn,.type pa]
structure VP(K:bz)(C P:aw):Prop where
 hd:W.hasDictIn K C=ag
 po:VD K C
 so:W.subIn K (.ref C) (.type pa)=aa ag
 sa:cP K (.ref C) uJ=aa (aa (.builtin vg))
 call:W.specialIn K (.ref C) "__call__"=aa (aa (.builtin ol))
 typ:W.instIn K (.ref C) (.type "type")=aa ag
 kp:ew K (.ref C)=ag
 ga:cP K (.ref C) uaa=aa (aa (.builtin uaE))
 gh:cP K (.ref C) "__getattr__"=aa ar
 sb:W.subIn K (.ref C) (.type nn)=aa ag
 cl:cP K (.ref C) pu=aa (aa (.builtin ma))
 cg:W.specialIn K (.builtin ma) sU=aa (aa (.builtin tj))
 tk:W.takesIn K (.builtin ma)=aa ag
 ob:W.mroIn K C (.type pa)=aa ag
 oc:∃nm q N bs bm oM sn sub ab col dd k0 k1 k2 k3 k5,K.lookup C=aa (fe nm q C N bs bm oM sn sub ab col dd k0 k1 k2 k3 k5 qx)/\W.tailIn K N3 bm=ag/\(bE C::bm).contains (.ref P)=ag/\(bE C::bm).contains (.type nn)=ag
def acz{K:bz}(l:K.lookup C=aa (fe nm q C N bs a e sn sub f col dd k0 g h i j qx))
(t:W.tailIn K N3 a=ag)(c:(bE C::a).contains (.ref P)=ag)(b:(bE C::a).contains (.type nn)=ag):∃nm q N bs a e sn sub f col dd k0 g h i j,K.lookup C=aa (fe nm q C N bs a e sn sub f col dd k0 g h i j qx)/\W.tailIn K N3 a=ag/\(bE C::a).contains (.ref P)=ag/\(bE C::a).contains (.type nn)=ag:=
 ⟨_,_,_,_,_,_,_,_,_,_,_,_,_,_,_,_,l,t,c,b⟩
section
variable {K:bz}
def VP.cls(h:VP K C P):aeR K C:=⟨h.hd,h.po,h.so,h.sa⟩
def VP.get(h:VP K C P):Sq K C:=⟨h.hd,h.ga,h.gh,h.sb,h.cl,h.cg,h.tk,h.ob⟩
def VP.obj(h:VP K C P):Y1 K C:=by obtain⟨nm,q,N,bs,a,b,sn,sub,c,col,dd,k0,e,f,g,i,l,t,_⟩:=h.oc;exact⟨nm,q,N,bs,a,b,sn,sub,c,col,dd,k0,e,f,g,i,l,λh X=>W.tail_of_in X t⟩
theorem VP.sub(h:VP K C P)(b:VP K P Q):NY K C P:=by obtain⟨nm,q,N,bs,x,y,sn,sub,z,col,dd,k0,A,B,E,G,l,t,c,_⟩:=h.oc;obtain⟨a,H,I,e,f,g,i,j,m,n,J,o,p,r,s,u,v,L,M,w⟩:=b.oc;exact⟨⟨_,_,_,_,_,_,_,_,_,_,_,_,_,_,_,_,l,c⟩,⟨_,_,_,_,_,_,_,_,_,_,_,_,_,_,_,_,v,w⟩⟩
structure ExI(K:bz)(C f:aw)(q:aX)(st:c5):Prop where
 init:cP K (.ref C) mm=aa (aa (.ref f))
 ex:∃fd,xC K mm q st f fd
 fn:W.isFn K (.ref f)=ag
end
abbrev sl(ss:List aX):D:=.lst (ss.map .str)
def spT (K:bz)(C:aw)(c e:aX):Sp:=λf H Q _=>∃x w a ss,f=[.ref x,.str w,.ref a]/\w.length<=4000/\H a=aa (.lst (ss.map V.str))/\pl (sl ss)=ag/\(dA.shown (toP (sl ss))).length<=4000/\H x=aa (Fz x C ar)/\
 ∀b l,H b=ar->H l=ar->l≠b->Q .non (cH (upd H l (.lst (ss.map V.str))) x b C [(c,.str w),(e,.ref l)])
section
variable {k:Nat} {es:List bJ}
structure aeY(P:bc)(w:bI)(K:bz)(mg:aX->Option ai)(cq:aC)(k:Nat)(x:aX)(C:aw)(f1 f2:aX):Prop where
 m:mg x=aa (.ref C)
 ok:∃f fd ps,XMk K C f/\Binds K fd ps []/\lP P w K mg cq uk k f fd ps (spT K C f1 f2)
end
def KZ(M:Ms):Nat->D->D
 |0,d=>d
 |n+1,d=>match vw M d with
  |.lst ds=>.lst (ds.map (KZ M n))
  |.tup ds=>.tup (ds.map (KZ M n))
  |z=>z
section
variable {K:bz}
theorem DX{b:Hp}{f:D->D}(h:∀d v,Rep K α H d v->Rep K α b (f d) v):∀(ds:List D) (a:List V),hZ K α H ds a->hZ K α b (ds.map f) a
 |[],a,r=>by unfold hZ at r;subst r;exact hZ.nil
 |d::ds,a,r=>by unfold hZ at r;obtain⟨v,r,rfl,z,y⟩:=r;exact hZ.cons (h d v z) (DX h ds r y)
theorem Iq(o:OK K F α H M):∀(n:Nat) (d:D) (v:V),Rep K α (jU F α M H) d v->Rep K α (mw F H) (KZ M n d) v
 |0,d,v,h=>Rep.mono (aV _) qw d v h
 |n+1,d,v,h=>by
  have b:=xW o d v h;unfold KZ;generalize e:vw M d=z at b |-;cases z<;>first|exact b|skip
  .cases d<;>first|(cases e;done)|skip
   .cases e;unfold Rep at h;obtain⟨a,c,rfl,g,z⟩:=h;show Rep K α _ (.tup _) _;unfold Rep;exact⟨a,c,rfl,nA qw g,DX (Iq o n) _ _ z⟩
   .rcases jh e with e|⟨x,j,e⟩
    .cases e
    .cases x<;>cases e
  .obtain⟨a,c,rfl,q,r⟩:=jN o h e;unfold Rep at b;obtain⟨m,i,e',f,p⟩:=b;cases e';have:=iJ _ _ f;rw[q] at this;cases this;show Rep K α _ (.lst _) _;unfold Rep;exact⟨a,c,rfl,f,DX (Iq o n) _ _ r⟩
def Zb (n m:Nat)(tb:DS):GP:=λds Q=>ds.length=m/\tb ⟨λ_ _=>Q .non,λd a=>nl (KZ a 3 d)=ag/\Q (KZ a 3 d),λ_ _=>False,λ_ _=>False⟩ (qf n ds) []
def Zc{n:List aX}{ps:List aX}{X:Cx}{body:List c5}{tb:DS}(f:Dk X body tb){H:Hp}{c:List V}{Q:VK}{E:XK}(i:X.K=K)(h:l9 K (cl (Zb n.length ps.length tb)) c H Q E):
  ∃t,QB X body t/\t {nx:=λ_ b=>Q .non b,rt:=Q} (L2.start n c) H:=by
 subst i;obtain⟨F,α,M,ds,o,r,hn,w,q⟩:=h;have j:OK X.K (lv α M++F) [] H []:=⟨rfl,eO,λa ha=>⟨by simp,by
  rcases bt.mp ha with ha|ha
  .exact o.PL a ha
  .exact(o.fr a ha).2⟩,λa ha=>(by simp at ha),λk x h=>(by simp at h),o.tb⟩
 have m:hZ X.K [] (jU (lv α M++F) [] [] H) ds c:=hZ.nl ds c hn r;refine⟨_,⟨f.p⟩,lv α M++F,[],qf n.length ds,[],Ct j m,?_⟩;refine f.mono _ _ _ _ ?_ q;refine⟨λy s q z u b e r=>?_,λd s q v u b e g r=>?_,λ_ _ q=>q.elim,λ_ _ q=>q.elim⟩
 .obtain⟨e1,o1⟩:=ni o e r.ok;exact q _ α b e1 o1 qt
 .obtain⟨e1,o1⟩:=ni o e g;exact q.2 v α b e1 o1 (Rep.nl _ _ q.1 (Iq g 3 d v r))
end
def acA{P:bc}{w:bI}{K:bz}{mg:aX->Option ai}{cq:aC}{x:aX}{st:c5}{N a:List aX}{k:Nat}{body:List c5}{scope:dn}{tb:DS}(F:iw K mg x st)(b:jq st=body)(es:iT st=scope)(S:kY N a scope)
(hb:∀(kV doc pm:ai) (an:Option aw) (jd ct:ai) (us:List ai),us.length=a.length->dI (eu x x (k9 st) (jq st) (iT st) .none kV doc pm an jd ct) ⟨us,[]⟩=pure (a.zip us))
(c:∀(f:aw) (jd:ai) (A:bH) (cv:List ahL) (s:av) (H:Hp) (E:XK),ka k (A.deeper (dZ x scope s.heap.objs.size f jd))->Dk (tE uk P w K mg cq N x scope f jd A cv s H E).F7 body tb):
  nz P w K mg cq (k+1) x a (l9 K (cl (Zb N.length a.length tb))):=
 F.abT b es S hb (λe H Q E ⟨F,α,M,ds,o,r,hn,g,q⟩=>by rw[<-hZ.length _ _ r];exact g) λf jd A cv s H e Q E i h=>Zc (ps:=a) (c f jd A cv s H E i) rfl h
end L3
namespace L2
section
variable {X:Cx}
def VQ(hc:X.calm=ag):ny X (.builtin "any") (λxs H Q=>∃(a:aw) (bs:List Bool),xs=[V.ref a]/\nI X.K H a (bs.map V.bl)/\Q (.bl (bs.any id)) H):=by
 intro cc s σ H xs us Q I r h;obtain⟨a,bs,rfl,m,q⟩:=h;obtain⟨u,rfl,c⟩:=vals1 r;cases c;obtain⟨iM,f,p,L⟩:=I.list m;have w:X.A.in1.handled=ar:=I.ok.hd hc;refine call_any_walk (dL p.isList ?_);have y:a<s.heap.objs.size:=by obtain⟨o,n,e,_⟩:=p;exact aM e
 have z:iM.length=bs.length:=by have:=f.length;rw[ao] at this;exact this.symm
 have B:∀(i:Nat) (v:ai),iM[i]?=aa v->v=.bool (bs.getD i au):=λi v e=>by
  have hi:i<iM.length:=(ak.mp e).1;have hb:(bs.map V.bl)[i]?=aa (V.bl (bs.getD i au)):=by rw[bh,bv,ax (by omega)];rfl
  obtain⟨u,g,c⟩:=f.get hb;rw[e] at g;cases g;exact c
 refine⟨s.heap.objs.size,_,_,_,_,_,λi=>bs.getD i au,rfl,aiq.list w s.heap.objs.size a (bd y) iM.toArray,⟨⟨_,aP _ rfl,rfl,rfl⟩,p.isList.push _⟩,λi v M N O C E=>?_,λT tk G=>?_⟩
 .have:=B i v (by simpa using C);subst this;exact cz E
 .have e:(cy iM.toArray.size).any (λi=>bs.getD i au)=bs.any id:=by
   rw[aR,z];have key:∀l:List Bool,(cy l.length).any (λi=>l.getD i au)=l.any id:=by
    intro l;rw[d9];simp only [List.any_eq_true,gG,id];constructor
    .rintro⟨i,hi,h⟩
     rw[bv,ax hi] at h;exact⟨_,fQ hi,h⟩
    .rintro⟨x,J,h⟩
     obtain⟨i,hi,rfl⟩:=List.mem_iff_getElem.mp J;refine⟨i,hi,?_⟩;rw[bv,ax hi];exact h
   exact key bs
  rw[e];refine⟨.bl _,H,I.kept (t':=tk) λb o j=>?_,rfl,q⟩;exact G b o (by simpa using bd (aM j)) (aj _ j)
end
end L2
namespace L3
open L2
section
variable {X:Cx}
def Zd:GN:=λds M Q=>match ds with
 |[d]=>∃bs:List Bool,vw M d=.lst (bs.map D.bl)/\Q (.bl (bs.any id)) M
 |_=>False
def acB(hc:X.calm=ag:=by rfl):JB X (.builtin "any") Zd:=by
 refine⟨λds M P Q w q=>?_,λcc s σ H xs us Q I rs h=>?_⟩
 .match ds,q with
  |[d],⟨n,e,q⟩=>exact⟨n,e,w _ _ q⟩
 .obtain⟨F,α,M,ds,o,b,h⟩:=h;match ds,h,b with
  |[d],⟨bs,c,q⟩,b=>
   obtain⟨v,f,g⟩:=nS b;subst f;obtain⟨a,i,rfl,j,m⟩:=jN o g c;have:=Dv bs i m;subst this;exact VQ hc cc s σ H _ us Q I rs ⟨a,bs,rfl,nI.of j,vK.now o q jG⟩
end
end L3
namespace L2
def Ze:V->List V->Hp->VK->Prop:=λx a H Q=>∃l xs i n y,x=.ref l/\a=[.int i,y]/\i=((n:Nat):Int)/\H l=aa (.lst xs)/\n<=xs.length/\xs.length+1<=aO/\Q .non (upd H l (.lst (xs.take n++y::xs.drop n)))
def SA:MtM X "list.insert" Ze:=by
 intro cc s σ H x C v us Q I b c h;obtain⟨l,xs,i,n,y,rfl,rfl,hi,a,E,G,q⟩:=h;cases b;obtain⟨u,w,rfl,f,g⟩:=c.two;obtain⟨t,rfl⟩:=f;obtain⟨z,iM,m,r,J,e⟩:=I.Hu a;have L:=bp;have j:fP i=ag:=aiK (by omega) (by omega);have o:¬(!fP i)=ag:=by rw[j];exact aS
 have p:iM.toArray.size<=aO:=by rw[aR];omega
 have A:=AutoSeq1.list_insert_list_int_val_1 l _ m i t w o p;refine gv F.slot_list_insert ⟨_,e,rfl⟩ F.entry_list_insert (F.args_list_insert_3 _ _ _) A ⟨e,?_⟩;refine⟨.non,_,I.Ur a e ?_ ((r.take n).append (.cons g (r.drop n))) ?_,rfl,q⟩
 .have B:¬(i<0):=by omega
  have hm:min i.toNat iM.length=n:=by omega
  simp[B,hm];exact fH (by rw[dN];omega)
 .simp;omega
end L2
namespace L3
open L2
def vZ:GM:=λd ds M Q=>match d,ds with
 |.loc k,[.int i,x]=>∃(es:List D) (n:Nat),M[k]?=aa (aa (.lst es))/\i=n/\n<=es.length/\es.length+1<=aO/\Q .non (M.set k (aa (.lst (es.take n++x::es.drop n))))
 |_,_=>False
def SD:JM X "list.insert" vZ:=by
 refine⟨λd ds M P Q w q=>?_,λcc s σ H x xs v us Q I i rs h=>?_⟩
 .unfold vZ at*;split at q
  .obtain⟨es,n,b,j,f,g,q⟩:=q;exact⟨es,n,b,j,f,g,w _ _ q⟩
  .exact q.elim
 .obtain⟨F,α,M,d,ds,ok,r,m,h⟩:=h;unfold vZ at h;split at h
  .obtain⟨es,n,b,rfl,f,g,q⟩:=h;obtain⟨a,B,rfl,o,c,p⟩:=zy ok r b;obtain⟨u,y,z,A,e⟩:=xF m;subst z;subst A;have C:=hZ.length _ _ c;obtain⟨o2,e2⟩:=p _ _ (hZ.append _ _ _ _ (hZ.take n _ _ c) (hZ.cons e (hZ.drop n _ _ c)));exact SA cc s σ H _ _ v us Q I i rs ⟨a,_,_,n,y,rfl,rfl,rfl,o,by omega,by omega,q _ α _ e2 o2 qt⟩
  .exact h.elim
def GO (i j:Int):Prop:=i.natAbs<2^400/\j.natAbs<2^400
def Qy(h:i.natAbs<2^400):bM.Int.intBits i<=2^20:=by
 unfold bM.Int.intBits;split
 .exact bD _
 .have:i.natAbs.log2<400:=by
   rcases Nat.eq_zero_or_pos i.natAbs with a|b
   .rw[a];decide
   .exact(Nat.log2_lt (dh b)).mpr h
  omega
def Zf:uh X (binaryOp .Mult) (rI GO λi j=>.int (i*j)):=opI λ_ _ _ _ _ _ _ hc q=>mul_int q (.of_bits (Qy hc.1) (Qy hc.2))
def Qz:JO X .Mult (gI GO λi j=>.int (i*j)):=⟨Cv,λcc s σ H x y v u Q I a b h=>by
 obtain⟨F,α,M,c,e,o,f,g,h⟩:=h;cases c<;>cases e<;>first|exact h.elim|skip
 exact Zf cc s σ H x y v u Q I a b ⟨_,_,f,g,h.1,vK.now o h.2 jB⟩⟩
end L3
namespace L2
def N4:ail (.type rk) "__len__"=pure ar:=by kernel_rfl
def VR:ail (.type rk) "__length_hint__"=pure (aa (.builtin uaO)):=by kernel_rfl
section
variable {A:bH} {s:av}
def N5(B:A.handled=ar)(C:l≠I)(g:s.heap.IsRevIter I l ((items.size:Int)- 1))(G:s.heap.IsList l items)(H:items.size<=aO)(S:aw)(res:ai)(j:Nat)
(m:S≠I)(p:S≠l)(J:s.heap.get? S=aa {cls:=.type cr,data:=.seq #[] j})
(L:∀q tk n h,(∀b o,b≠S->b≠I->s.heap.get? b=aa o->q.get? b=aa o)->q.get? S=aa {cls:=.type cr,dict:=ar,data:=.seq n h,slots:=#[]}->
   aiF (λi v=>items[items.size- 1- i]?=aa v) n items.size->R (.ok (.ret res)) {s with heap:=q,toks:=tk}):
  wpAny (model prog w) A.in1 (fO (.ref S) (.ref I) res)
   (λM a=>match M with|.done f=>R (.ok f) a|.again h=>h.quiet=ag/\codeAny (model prog w) A h R a) (λe a=>R (.error e) a) s:=by
 have W:=(aiq.listRev (prog:=prog) (w:=w) (A:=A.in1) B I l C items).toS;unfold fO;refine ae (ait (T:=rk) g.typeIs ?_);have N:bM.List.listSameRef (.ref S) (.ref I)=au:=by simp[bM.List.listSameRef,m]
 have O:(c9 rk==c9 cr)=au:=by decide
 have Q:(c9 rk==c9 fi)=au:=by decide
 simp only [N,O,Q,Bool.or_false,dX,if_false];refine ae (wpAny_pyIter_revIter g ?_);refine ae (bS ?_);unfold bM.List.listLengthHint;refine ae (gN g.typeIs N4 ?_);refine ae (gN g.typeIs VR ?_);generalize jU:(uaO:String)=r
 wp_delta
 rw[show splitId r=aa (rk,"__length_hint__") from by subst jU;decide+kernel];subst jU;refine ae (aiC (T:=rk) (b:=ag) g.typeIs (by rw[isSubtype_type];kernel_rfl) ?_);refine ajK (λu=>absurd u (by decide)) (λ_=>?_);refine ay ?_;refine ay ⟨aik F.plain_extend_loop _,?_⟩;have x:s.heap.IsRevIter I l ((items.size:Int)- 1- ((0:Nat):Int)):=by simpa using g
 refine codeAny_extend_loopS W H S (by simp[m,p]) res items.size 0 _ #[] j rfl (bD _) ⟨bD _,x,G⟩ J (aiF.nil _) λa n h hm y U=>?_;rw[ajS.eq_with hm];refine L a.heap a.toks n h (λb o hb z e=>hm.heap b o (λc=>?_) e) y U;rcases aH.mp c with e'|c
 .exact hb e'
 .exact z (bj.mp c)
def FC(z:A.handled=ar)(B:l≠I)(p:s.heap.IsRevIter I l ((items.size:Int)- 1))(q:s.heap.IsList l items)(C:items.size<=aO)
(G:∀c tk f h,(∀b o,b≠I->s.heap.get? b=aa o->c.get? b=aa o)->
   c.get? s.heap.objs.size=aa {cls:=.type cr,dict:=ar,data:=.seq f h,slots:=#[]}->aiF (λi v=>items[items.size- 1- i]?=aa v) f items.size->Q (.ref s.heap.objs.size) {s with heap:=c,toks:=tk}):
  wpAny (model prog w) A (call (.type cr) [.ref I]) Q E s:=by
 refine ajT (Q₁:=λobj u=>obj=.ref s.heap.objs.size/\u={s with heap:=s.heap.push {cls:=.type cr,data:=.seq #[]}}) F.called_list (F.typeCall_list_1 _) F.entry_list_init
  (code_list_new _ ⟨rfl,rfl⟩) λobj u H=>?_
 obtain⟨rfl,rfl⟩:=H;have g:(s.heap.push {cls:=.type cr,data:=.seq #[]}).get? s.heap.objs.size=aa {cls:=.type cr,data:=.seq #[]}:=aP _ rfl;obtain⟨N,j,_⟩:=id p;obtain⟨O,J,_⟩:=id q;have x:s.heap.objs.size≠I:=λe=>cD _ (e▸aM j);have y:s.heap.objs.size≠l:=λe=>cD _ (e▸aM J);refine⟨⟨_,g,rfl⟩,F.args_list_init_2 _ _,?_⟩;show wpAny _ _ (do let old<-bM.List.listItems (.ref s.heap.objs.size);bM.List.listUpdate (.ref s.heap.objs.size) (λ_=>#[]);letGo old.toList.reverse;fO (.ref s.heap.objs.size) (.ref I) .none) _ _ _;refine ae ?_;unfold bM.List.listItems;refine ae (dz g rfl (ay ?_));refine ae (wpAny_updateSeq g rfl ?_);have m:=cY (bY (λ_=>(#[]:Array ai))) g rfl;have a:∀b o,b≠s.heap.objs.size->s.heap.get? b=aa o->((s.heap.push {cls:=.type cr,data:=.seq #[]}).update s.heap.objs.size (bY (λ_=>(#[]:Array ai)))).get? b=aa o:=
  λb o hb e=>(cA _ _ (b9 hb)).trans (aj _ e)
 refine ae (ah9 ?_);refine N5 (A:=A.in1) z B (p.at λo e=>a _ o (b9 x) e) (q.at λo e=>a _ o (b9 y) e) C _ .none _ x y m λc tk f h L n M=>?_;exact⟨rfl,G c tk f h (λb o hb e=>L b o (bd (aM e)) hb (a b o (bd (aM e)) e)) n M⟩
end
section
variable {X:Cx} {e:bJ}
def ae1 (K:bz)(te:TE):TE:=λσ H Q=>te σ H λx H1=>∃a xs,x=.ref a/\nI K H1 a xs/\∀p,H1 p=ar->Q (.ref p) (upd H1 p (.lst xs.reverse))
def SE{iM:List ai}(h:aiF (λi v=>iM.toArray[iM.toArray.size- 1- i]?=aa v) acc iM.toArray.size):acc=iM.reverse.toArray:=by
 obtain⟨a,b⟩:=h;apply Array.ext
 .simp[a]
 .intro i hi c;have:=b i _ (dq hi);simp only [List.getElem?_toArray] at this;simp only [List.getElem_toArray,List.getElem_reverse];obtain⟨_,e⟩:=ak.mp this;exact e.symm
def Zg(y:X.A.handled=ar)(z:PE X e te)(ml:X.mg cr=ar)(B:X.mg nu=ar)(C:Gl X cr:=by rfl)(E:Gl X nu:=by rfl)
(j:bg [.Call (.Name nu p2) [e] [] yh] X.env=[(au,eval (.Call (.Name nu p2) [e] [] yh) X.env)]:=by rfl)(m:bg [e] X.env=[(au,eval e X.env)]:=by rfl):
  PE X (.Call (.Name cr p) [.Call (.Name nu p2) [e] [] yh] [] pos) (ae1 X.K te):=by
 intro cc s σ H Q I h;have f:wpAny (model X.prog X.w) X.A (eval (.Call (.Name nu p2) [e] [] yh) X.env) (λv s2=>wpAny (model X.prog X.w) X.A (call (.type cr) [v]) (EP X cc σ Q) X.xe s2) X.xe s:=by
  refine cS (ud I E B (by rfl) ?_ (by decide) (by decide));refine cN (lB (Cp z Hn m yh cc s σ H (λg H1=>match g with|[x]=>∃a xs,x=.ref a/\nI X.K H1 a xs/\∀p,H1 p=ar->Q (.ref p) (upd H1 p (.lst xs.reverse))|_=>False) I h) λus s1 G=>?_) m rfl;obtain⟨g,H1,I1,i,J⟩:=G;match g,J,i with
  |[x],⟨a,xs,ex,L,q⟩,i=>
   subst ex;obtain⟨u,rfl,M⟩:=i.one;cases M;obtain⟨iM,n,pl,N⟩:=I1.list L;have jK:=n.length;obtain⟨o,O,_⟩:=pl.isList;have T:=aM O;refine call_reversed_list pl.isList ?_;refine FC y (bd T) ⟨_,aP _ rfl,rfl,rfl⟩ (pl.isList.push _) (by rw[aR];omega) λU tk acc c Y hS VS=>?_;have ea:=SE VS;subst ea;have ok:kx X.prog X.w (upd H1 (s1.heap.push (revObj a ((iM.toArray.size:Int)- 1))).objs.size (.lst xs.reverse)) U (s1.heap.push (revObj a ((iM.toArray.size:Int)- 1))).objs.size (.lst xs.reverse):=
    ⟨by rw[List.length_reverse];exact N,_,c,n.reverse,hS⟩
   have r:s1.heap.objs.size<=(s1.heap.push (revObj a ((iM.toArray.size:Int)- 1))).objs.size:=by rw[ahy];exact cx _
   exact⟨.ref _,_,I1.laid (t':=tk) (λb o e=>Y b o (bd (aM e)) (aj _ e)) r ok,rfl,q _ (I1.ja.fresh r)⟩
 refine cS (ud I C ml (by rfl) ?_ (by decide) (by decide));refine cN ?_ j rfl;rw[j];exact Calls.spliced_cons (lB f λv s2 w=>Calls.spliced_nil w)
end
end L2
def L2.SF(m:A.units<PySem.cLine)(o:s.heap.IsTuple l #[p,q])(u:s.heap.IsTuple r #[v,x])
(y:PySem.SeqAt.EqAt A.in1 s p v ag)(b:∀(R:Bool->PySem.Shared->Prop) (B:PySem.Value->PySem.Shared->Prop),R ag s->PySem.wpAny (PySem.model prog w) A.in1 (PySem.eqBool q x) R B s)(h:Q (.bool au) s):
  PySem.wpAny (PySem.model prog w) A (PySem.compareOp .NotEq (.ref l) (.ref r)) Q E s:=by
 open PySem PySem.Spec PyProof.Rows in
 obtain⟨⟨cls,dd,data,sl⟩,c,hc,n,hd⟩:=id o;obtain⟨⟨C,G,data2,H⟩,e,f,J,i⟩:=id u;simp only at hc hd f i;subst hc hd f i;show wpAny (model prog w) A (richCompare .NotEq (.ref l) (.ref r)) Q E s;have j:s.TypeIs (.ref l) fi:=⟨_,c,rfl⟩;have I:s.TypeIs (.ref r) fi:=⟨_,e,rfl⟩;refine aiG j I PySem.F.slot_tuple_ne (cE PySem.F.slot_tuple_ne j PySem.F.entry_tuple_ne ?_ (PySem.F.args_tuple_ne_2 _ _)) m;have L:=AutoSeq1.sub_tuple_tuple;obtain⟨M,g,d,tk,os⟩:=s;have a:=y prog w;refine ae (ay ?_);dsimp only;generalize N:eqBool=O at a b |-
 wp_walk using wpAny_loadPart' c,wpAny_loadPart' e
 refine a _ _ ?_
 wp_walk
 refine b _ _ ?_
 wp_walk
 exact⟨_,rfl,(λz=>nomatch z),h⟩
namespace L3
open L2
section
variable {X:Cx}
def QC:G2:=λx y M Q=>Qu x y M λ_ a=>Q (.bl au) a
def N6:vI QC:=λx y M P Q w q=>NR x y M _ _ (λ_ _=>w _ _) q
def acD(j:X.A.units+66<eB):JC X .NotEq QC:=by
 refine⟨N6,λcc s σ H x y v u Q I m n h=>?_⟩;obtain⟨F,α,M,da,db,o,w,B,h⟩:=h;unfold QC Qu at h;split at h
 .rename_i a d b e e1 e2;obtain⟨⟨⟨c1,f,c3,c4⟩,ee⟩,⟨ks,ds,AM,Si,C,E,G⟩,q⟩:=h;obtain⟨l,J,rfl,s1,L⟩:=mV o w e1;obtain⟨r,ws,rfl,s2,N⟩:=mV o B e2;obtain⟨v1,v2,rfl,a1,a2⟩:=xF L;obtain⟨O,w2,rfl,b1,b2⟩:=xF N;obtain rfl:v=bE l:=m;obtain rfl:u=bE r:=n;obtain⟨i1,T,U,_⟩:=I.tuple s1;obtain⟨i2,Y,t2,_⟩:=I.tuple s2;obtain⟨g,m2,rfl,k1,k2⟩:=vals2 T;obtain⟨i,n2,rfl,j1,j2⟩:=vals2 Y;obtain⟨as,y1⟩:=Rep.reads I _ v1 g (Rep.mono (aV _) iJ _ _ a1) k1 c1;obtain⟨bs,y2⟩:=Rep.reads I _ O i (Rep.mono (aV _) iJ _ _ b1) j1 f;obtain⟨p,p',J,ws,rfl,rfl,h1,h2,d1,d2,hl,he⟩:=NS j I o a2 b2 C E G;obtain rfl:m2=bE p:=k2;obtain rfl:n2=bE p':=j2;have dd:=toP_depth a;have c:=SeqAt.eqAt_reads (toP a) (toP b) X.A.in1 s g i as bs y1 y2 (toP_lay a c1) (toP_lay b f) (by show X.A.units+1+_<_;omega);rw[toP_eqv a b c1 f,ee] at c;exact SF (by omega) U t2 c (λR E' z=>Vx (by show X.A.units+1<_;omega) h1 h2 d1 d2 hl he z) ⟨.bl au,H,I,rfl,vK.now o q jG⟩
 .exact h.elim
def aaU (te:DE):DF:=λa M Q=>te a M λd M1=>∃xs,vw M1 d=.lst xs/\Q (.lst xs.reverse) M1
def Zh(h:X.A.handled=ar)(ml:X.mg cr=ar)(i:X.mg nu=ar)(c:JE X e te)(j:Gl X cr:=by rfl)(m:Gl X nu:=by rfl)
(n:bg [.Call (.Name nu p2) [e] [] yh] X.env=[(au,eval (.Call (.Name nu p2) [e] [] yh) X.env)]:=by rfl)(o:bg [e] X.env=[(au,eval e X.env)]:=by rfl):
  JF X (.Call (.Name cr p) [.Call (.Name nu p2) [e] [] yh] [] pos) (aaU te):=by
 refine⟨λb M P Q w q=>c.mono b _ _ _ (λd M1 q=>?_) q,PE.weak (Zg h c.p ml i j m n o) λσ H Q q=>?_⟩
 .obtain⟨xs,f,q⟩:=q;exact⟨xs,f,w _ _ q⟩
 .obtain⟨F,α,b,M,r,q⟩:=q;refine⟨F,α,b,M,r,c.mono b _ _ _ (λd M1 q v s H1 e1 o1 u=>?_) q⟩;obtain⟨xs,f,q⟩:=q;obtain⟨a,x,rfl,y,z⟩:=jN o1 u f;exact⟨a,x,rfl,nI.of y,λp2 g=>q p2 _ s _ e1 o1 g ⟨_,rfl,KR z⟩⟩
end
section
variable {X:Cx} {st:c5} {t:DS}
def dPl (i:Nat)(t:DS):DS:=λE a M=>∃(k:Nat) (b:List Key) (ds:List D),a[i]?=aa (aa (.loc k))/\M[k]?=aa (aa (.kE b ds))/\t E (a.set i (aa (.kE b ds))) (M.set k ar)
def ae2(i:Nat)(h:JS X st t):JS X st (dPl i t):=by
 refine⟨λP Q s M w q=>?_,PS.weak h.p λE σ H q=>?_⟩
 .obtain⟨k,c,ds,a,b,q⟩:=q;exact⟨k,c,ds,a,b,h.mono _ _ _ _ w q⟩
 .obtain⟨F,α,s,M,r,k,c,ds,a,b,q⟩:=q;obtain⟨v,e,u⟩:=r.sl i _ a;unfold Rep at u;obtain⟨ad,m,rfl⟩:=u;obtain⟨J,y,B,C,n,G⟩:=r.ok.own k _ b;rw[m] at y;cases y;obtain⟨o2,e2⟩:=r.ok.give k;have o:Rep X.K α (jU F α (M.set k ar) H) (.kE c ds) (.ref ad):=by
   unfold Rep;refine⟨ad,B,rfl,Rd.of (kt (λw=>?_) C rfl),n,e2.Dc G⟩;rcases bt.mp w with w|w
   .obtain⟨j,x,z,f⟩:=nL.mp w;have:j=k:=(fF (ak.mp z).1 r.ok.nd).mp (z.trans m.symm);subst this;by_cases n:j<M.length
    .rw[bn n] at f;cases f
    .rw[eD (by rw[de];omega)] at f;cases f
   .exact(r.ok.fr ad w).1 (bA m)
  refine⟨F,α,s.set i (aa (.kE c ds)),M.set k ar,⟨o2,by rw[de];exact r.len,λj d g=>?_⟩,h.mono _ _ _ _ (qN.grow e2) q⟩;by_cases A:i=j
  .subst A;rw[bn (ak.mp a).1] at g;cases g;exact⟨_,e,o⟩
  .rw[aJ A] at g;obtain⟨v,e3,I⟩:=r.sl j d g;exact⟨v,e3,e2.rep I⟩
end
end L3
namespace L2
def Itk(a:aw)(o:cC)(b:List (Key×V)):It:=⟨λi H=>H a=aa (.qd o (.dK b))/\i<b.length,
 λi H x c=>∃k v,x=kV k/\b[i]?=aa (k,v)/\c=H,λi H=>H a=aa (.qd o (.dK b))/\i=b.length⟩
def tnK (it a:aw)(o:cC)(n:Nat)(i:Nat)(h:aC):Prop:=∃es b,o.data=.dict es b/\h.IsKeyIter it a i n b
def SG{P:bc}{w:bI}{K:bz}{tg:bJ}(it a:aw)(o:cC)(r:List (Key×V)):Turn P w K tg (Itk a o r) [it] it (tnK it a o r.length) where
 mem:=by simp
 obj:=λi h st b hb=>by obtain⟨es,f,_,ob,e,c,d⟩:=st;cases bj.mp hb;exact⟨ob,e,λv z=>by rw[d] at z;cases z⟩
 keep:=λi h n st k=>by obtain⟨es,f,d,e⟩:=st;exact⟨es,f,d,e.at λo e=>k it (by simp) o e⟩
 item:=by intro X x hw y hc i cc s σ H E I q st B;subst x hw y;obtain⟨es,f,d,e⟩:=st;obtain⟨C,hi⟩:=B;obtain⟨g,z,hd,Y,rel,ob,Po,G,j,c1,m,J⟩:=(I.ja a _ C);rw[g] at j;cases j;rw[d] at m;cases m;obtain⟨⟨k,v⟩,T⟩:∃p,r[i]?=aa p:=⟨_,ax hi⟩;obtain⟨u,hu,ru⟩:=Qq rel T;rw[rel.length] at e;obtain⟨f0,L,f2,M,N,O⟩:=q it (by simp);refine wpAny_pyNext_dict_item (knd:=i7 X.prog X.w) e ⟨o,es,g,c1,d,J⟩ hu λkey n hk U sb=>?_;have I1:Inv X cc σ H {s with heap:=n}:=I.turned (t':=s.toks) (λb o hb e=>(sb.2 b hb).trans e) f0 L M N O;exact⟨key,rfl,letGo_keyiter (s':={s with heap:=n}) U ⟨kV k,H,I1,aaM hk,⟨k,v,rfl,T,rfl⟩,⟨es,f,d,by rw[rel.length];exact U⟩,λb hb=>(q b hb).1⟩⟩
 done:=by intro X x hw y hc i cc s σ H E I q st B;subst x hw y;obtain⟨es,f,d,e⟩:=st;obtain⟨C,rfl⟩:=B;obtain⟨g,z,hd,Y,rel,ob,Po,G,j,c1,m,J⟩:=(I.ja a _ C);rw[g] at j;cases j;rw[d] at m;cases m;rw[rel.length] at e;obtain⟨f0,L,f2,M,N,O⟩:=q it (by simp);exact wpAny_pyNext_dict_end (knd:=i7 X.prog X.w) (I.ok.hd hc) e ⟨o,es,g,c1,d,J⟩ (by simp) λn eb=>⟨rfl,I.turned (t':=s.toks) (λb o hb e=>eb b o hb e) f0 L M N O⟩
 self:=λA i s Q E st h=>by obtain⟨es,f,d,e⟩:=st;exact wpAny_pyIter_keyiter e h
section
variable {X:Cx}
def ae3 (X:Cx)(to:TE):TI:=λσ H R=>to σ H λx H1=>∃a b,x=.ref a/\
 ((H1 a=aa (.dK b)/\∀o,(∀o u,X.je a≠aa (.qd o u))->R (Itk a o b) (upd H1 a (.qd o (.dK b))))\/∃o,H1 a=aa (.qd o (.dK b))/\R (Itk a o b) H1)
def Zi(w:PE X o to):PI X tg o (ae3 X to):=by
 intro cc s σ H R I h;refine lB (w cc s σ H _ I h) λv s1 y=>?_;obtain⟨x,H1,I1,A,a,j,e,q⟩:=y;subst e;obtain rfl:v=bE a:=A;have key:∃f ob,f a=aa (.qd ob (.dK j))/\Inv X cc σ f s1/\R (Itk a ob j) f:=by
  rcases q with⟨m,q⟩|⟨ob,m,q⟩
  .obtain⟨ob,g,c,B⟩:=I1.freeze m;exact⟨_,ob,iE,c,q ob B⟩
  .exact⟨H1,ob,m,I1,q⟩
 obtain⟨f,ob,C,c,q⟩:=key;have n:=(c.ja a _ C);obtain⟨i,z,hd,L,rel,E,es,G,p,c1,r,J⟩:=n;rw[i] at p;cases p;refine wpAny_pyIter_dict hd ⟨ob,es,i,c1,r,J⟩ ?_;refine⟨_,[_],tnK _ a ob _,Itk a ob j,f,rfl,c.kept (λb u e=>aj _ e),SG _ a ob j,⟨es,G,r,?_⟩,λb hb=>?_,q⟩
 .rw[rel.length];exact⟨_,aP _ rfl,rfl,rfl⟩
 .cases bj.mp hb;exact c.JQ (aD _) (c.ja.fresh (aD _))
end
end L2
namespace L3
open L2
section
variable {X:Cx}
def QD{M1:Ms}{b:List Key}(g:jU F c M1 H1 a=aa (.qd ob (.dK (b.zip e))))(w:b.length=ds.length)(q:hZ X.K c (jU F c M1 H1) ds e):
  Yo X.K F c H1 M1 (Itk a ob (b.zip e)) (b.map BI) (λ_=>True):=by
 have lv:=hZ.length _ _ q;have r:(b.zip e).length=(b.map BI).length:=by rw[cK,ao];omega
 refine⟨λi h j m n p s o _ hi=>⟨(iW (s a _ g)).2,by omega⟩,λi h j m n x z d A s o _ hd y=>?_,λh j m n p s o _=>⟨(iW (s a _ g)).2,r.symm⟩⟩;obtain⟨k,v,rfl,f,rfl⟩:=y;have u:=(cL.mp f).1;rw[bh,u] at hd;cases hd;exact⟨o,Ext.refl,Qr k⟩
def VT (to:DE):DI:=λb M Q=>to b M λd M1=>∃a ds,d=.kE a ds/\Q (a.map BI) (λ_=>True) M1
def Zj(c:JE X o to):JI X tg o (VT to):=by
 refine⟨λb M P Q w q=>c.mono b _ _ _ (λd M1 q=>?_) q,PI.weak (Zi c.p) λσ H Q q=>?_⟩
 .obtain⟨f,ds,e,q⟩:=q;exact⟨f,ds,e,w _ _ _ q⟩
 .obtain⟨F,α,b,M,r,q⟩:=q;refine⟨F,α,b,M,r,c.mono b _ _ _ (λd M1 q v i H1 e1 o1 n=>?_) q⟩;obtain⟨f,ds,rfl,q⟩:=q;obtain⟨a,s,rfl,g,j,m⟩:=n;refine⟨a,f.zip s,rfl,?_⟩;rcases g with h|⟨ob,h⟩
  .obtain⟨na,ha⟩:=iW h;refine .inl ⟨ha,λob u=>?_⟩;have z:=Kb.dict (ob:=ob) o1 ha na u;exact q _ i H1 _ _ e1 o1 z (QD (kt na iE rfl) j (hZ.imp z.rep _ _ m))
  .obtain⟨na,ha⟩:=iW h;exact .inr ⟨ob,ha,q _ i H1 H1 id e1 o1 (Kb.refl o1) (QD h j m)⟩
end
end L3
end
local macro_rules | `(tactic| walk_at "j") => `(tactic| ((conv => whnf); first | refine ⟨_, rfl, ?_⟩ | refine ⟨rfl, ?_⟩ | refine ⟨aq rfl, ?_⟩))
local macro_rules | `(tactic| walk_at "e") => `(tactic| ((repeat walk_at "j"); try (conv => whnf)))
namespace FJ
open PySem PySem.Spec L2 L3
def DY (K:bz):DS:=(iN (vJ (i5 (mj K) (hV (hX 0) (hV (dC (.ty hH)) ib))) (Gp (i5 (mj K) (hV (hX 0) (hV (dC (.ty ix)) ib))))))
def AO (K:bz):DS:=(iz (js (Ft (oA (iu (i5 (mj K) (hV (hX 0) (hV (dC (.ty hJ)) ib))))) (oA (iu (nN x4 x4 (dC (.int 1)) (i5 lx (hV (hX 0) ib)) (dC (.int 8)))))) (iN (dC (.bl au))) iP)
 (iN (i5 RR (hV (jV (lc [ar] (kh (hX 0)) (iq 0) qy (nN x4 x4 (dC (.str "a")) (hX 0) (dC (.str "z"))))) ib))))
def DZ (K:bz):DS:=(aaG K fk (hX 0) (hX 1))
def BK (K:bz):DS:=(iN (i5 HM (hV (jV (lc [ar] (kh (U4 K fk (hX 0))) (iq 0) qy (dIf (iu (i5 (mj K) (hV (hX 0) (hV (dC (.ty fi)) ib)))) (pP (TD yd (hV (hX 0) ib))) (hX 0)))) ib)))
def BL:DS:=(iN (pP (mM ib)))
def xH:DS:=(iN (dC (.bl au)))
def r9:DS:=(iN (dC (.bl ag)))
def zI:DS:=(iN (dC (.bl au)))
def tM (K:bz):DS:=(iN (pP (TD yd (hV (Xq (U4 K fk (hX 0)) (vS (dC (.int 2))) qA) ib))))
def v3 (K:bz):DS:=(iN (pP (mM (hV (iA jS (U4 K fk (hX 0)) (RP (dC (.int 1)))) ib))))
def yo:DS:=(iN (dC (.bl au)))
def tN (K:bz):DS:=(iN (pP (TD yd (hV (iA jS (U4 K fk (hX 0)) (dC (.int 1))) ib))))
def ux (K:bz)(v4:GN):DS:=(iz (js (Ft (oA (iu (i5 (mj K) (hV (hX 1) (hV (dC (.ty cr)) ib))))) (oA (iu (nN x4 x4 (dC (.int 1)) (i5 lx (hV (hX 1) ib)) (dC (.int 60)))))) (iN (dC (.bl au))) iP)
 (iN (i5 RR (hV (jV (lc [ar,aa 0] (kh (hX 1)) (iq 0) qy (i5 v4 (hV (hX 1) (hV (hX 0) ib))))) ib))))
def D5 (K:bz)(c:GN)(a:GN)(b:GN):DS:=(iz (js (iu (iA vy (hX 0) (dC (.str ov)))) (iN (i5 c (hV (hX 1) ib))) iP)
 (iz (js (iu (iA vy (hX 0) (dC (.str mT)))) (iN (vJ (i5 a (hV (hX 1) ib)) (nN x4 x4 (dC (.int 0)) (hX 1) (dC (.int 3))))) iP)
 (iz (js (iu (iA vy (hX 0) (dC (.str py)))) (iN (vJ (i5 a (hV (hX 1) ib)) (nN x4 x4 (dC (.int (-2147483648))) (hX 1) (dC (.int 2147483647))))) iP)
 (iz (js (iu (iA vy (hX 0) (dC (.str "truth")))) (iN (i5 (mj K) (hV (hX 1) (hV (dC (.ty ix)) ib)))) iP)
 (iz (js (iu (iA vy (hX 0) (dC (.str im)))) (iN (i5 b (hV (dC (.str py)) (hV (hX 1) ib)))) iP)
 (iN (i5 b (hV (dC (.str ov)) (hV (hX 1) ib)))))))))
def D6 (K:bz)(a:aw)(b:List (aX×D))(v4:GN):DS:=(iz (js (Ft (oA (iu (i5 (mj K) (hV (hX 0) (hV (dC (.ty fi)) ib))))) (iu (iA vy (i5 lx (hV (hX 0) ib)) (dC (.int 0))))) (iN (dC (.bl au))) iP)
 (iz (js (Ft (oA (iu (i5 (mj K) (hV (iA jS (hX 0) (dC (.int 0))) (hV (dC (.ty hJ)) ib))))) (iu (iA (HQ ag a b) (iA jS (hX 0) (dC (.int 0))) (dC (.cls a))))) (iN (dC (.bl au))) iP)
 (iz (jl 1 (iA (HP a b) (dC (.cls a)) (iA jS (hX 0) (dC (.int 0)))))
 (iz (js (iu (iA Fx (i5 lx (hV (hX 0) ib)) (iA jn (dC (.int 1)) (i5 lx (hV (hX 1) ib))))) (iN (dC (.bl au))) iP)
 (iN (i5 RR (hV (jV (lc [ar,ar] (U0 (hV (hX 1) (hV (Xq (hX 0) (vS (dC (.int 1))) qA) ib))) (k7 2 (iO (iq 0) (iO (iq 1) lq))) qy (i5 v4 (hV (hX 0) (hV (hX 1) ib))))) ib)))))))
def D7 (a:aw)(b:GN)(c:aw)(e:GN)(f:aw)(g:GN)(h:aw)(i:GN)(j:aw)(m:GN)(n:aw)(o:GN):DS:=(iz (jl 1 (iA jS (hX 0) (dC (.int 0))))
 (iz (js (iu (iA vy (hX 1) (dC (.str gc)))) (iN (sN a b (hV (hX 0) ib))) iP)
 (iz (js (iu (iA vy (hX 1) (dC (.str pS)))) (iN (sN c e (hV (hX 0) ib))) iP)
 (iz (js (iu (iA (CB au) (hX 1) (ju (hV (dC (.str rl)) (hV (dC (.str qZ)) ib))))) (iN (sN f g (hV (hX 0) ib))) iP)
 (iz (js (iu (iA (CB au) (hX 1) (ju (hV (dC (.str ph)) (hV (dC (.str pd)) ib))))) (iN (sN h i (hV (hX 0) ib))) iP)
 (iz (js (iu (iA (CB au) (hX 1) (ju (hV (dC (.str qa)) (hV (dC (.str ra)) (hV (dC (.str qb)) ib)))))) (iN (sN j m (hV (hX 0) ib))) iP)
 (iN (sN n o (hV (hX 0) ib)))))))))
def K0 (K:bz)(a:GN)(b:aw)(c:GN)(e:aw)(f:GN)(g:aw)(h:GN)(i:GN):DS:=(iz (js (oA (iu (i5 a (hV (hX 0) ib)))) (iN (dC .non)) iP)
 (iz (jl 1 (i5 HM (hV (jV (lc [ar] (kh (hX 0)) (iq 0) qy (dIf (iu (i5 (mj K) (hV (hX 0) (hV (dC (.ty cr)) ib)))) (i5 HM (hV (hX 0) ib)) (hX 0)))) ib)))
 (iz (js (iu (iA vy (iA jS (hX 1) (dC (.int 0))) (dC (.str mX)))) (iN (sN b c (hV (hX 1) ib))) iP)
 (iz (js (iu (iA vy (iA jS (hX 1) (dC (.int 0))) (dC (.str im)))) (iN (sN e f (hV (hX 1) ib))) iP)
 (iz (js (iu (iA vy (iA jS (hX 1) (dC (.int 0))) (dC (.str kv)))) (iN (sN g h (hV (hX 1) ib))) iP)
 (iN (i5 i (hV (hX 1) ib))))))))
def low(x:aX):Bool:=x.cps.toList.all λc=>decide (97<=c)&&decide (c<=122)
def qF(x:aX):Bool:=decide (1<=x.length)&&decide (x.length<=8)&&low x
def pU(b:Int):Bool:=decide (0<=b)&&decide (b<=3)
def okN(n:Int):Bool:=decide (-2147483648<=n)&&decide (n<=2147483647)
def lX:GP:=λds Q=>∃i:Int,ds=[.int i]/\Q (.bl ag)
def Cc:jD lX:=by
 rintro ds P Q w ⟨i,h,q⟩
 exact⟨i,h,w _ q⟩
def K1(K:bz):∀ds Q,lX ds Q->lN 1 1 (DY K) ds Q:=by
 rintro ds Q ⟨i,h,q⟩
 subst h;exact⟨rfl,_,rfl,_,rfl,rfl,q⟩
def oN:GP:=λds Q=>∃w:aX,qF w=ag/\ds=[.str w]/\Q (.bl ag)
def D8:jD oN:=by
 rintro ds P Q w ⟨i,a,h,q⟩
 exact⟨i,a,h,w _ q⟩
def CH{Q:DK}(h:a<=b)(q:Q (.bl ag) M):x4 (.int a) (.int b) M Q:=by show Q _ M;rw[decide_eq_true h];exact q
def ae4{Q:DK}(h:97<=c)(q:Q (.bl ag) M):x4 (.str "a") (.str ⟨#[c]⟩) M Q:=by show Q (.bl (!decide ([c]<[97]))) M;rw[show decide _=au by simp[List.cons_lt_cons_iff];omega];exact q
def ae5{Q:DK}(h:c<=122)(q:Q (.bl ag) M):x4 (.str ⟨#[c]⟩) (.str "z") M Q:=by show Q (.bl (!decide ([122]<[c]))) M;rw[show decide _=au by simp[List.cons_lt_cons_iff];omega];exact q
def K2{xs:List D}(q:Q (.bl ag) M):RR [.lst ([]++xs.map λ_=>D.bl ag)] M Q:=by refine⟨xs.map λ_=>ag,by rw[bx];rfl,?_⟩;rw[show(xs.map λ_=>ag).all id=ag by simp];exact q
def N7(K:bz):∀ds Q,oN ds Q->lN 1 1 (AO K) ds Q:=by
 rintro ds Q ⟨x,hw,h,q⟩
 subst h;unfold qF at hw;rw[aZ,aZ,decide_eq_true_eq,decide_eq_true_eq] at hw;obtain⟨⟨n,g⟩,i⟩:=hw;have b:x.length<=aO:=bG g (by decide);have a:=@CH;have e:=@ae4;have f:=@ae5;unfold AO;generalize x4=ge at a e f |-;refine⟨rfl,_,rfl,_,if_pos b,?_⟩;refine a (by omega) ?_;refine a (by omega) ?_;refine⟨_,rfl,rfl,?_⟩;refine mP (λ_=>.bl ag) ?_ _ _ ?_ (λy j o m=>?_) ?_
 .exact rfl
 .rw[cm,bR,ao];exact b
 .obtain⟨c,hc,rfl⟩:=bQ.mp j;have:=bU.mp i c hc;rw[aZ,decide_eq_true_eq,decide_eq_true_eq] at this;exact e this.1 (f this.2 (m _ rfl))
 .exact K2 ⟨rfl,q⟩
inductive AQ:aX->D->Prop
 |w {x:aX}:qF x=ag->AQ ov (.str x)
 |b {i:Int}:pU i=ag->AQ mT (.int i)
 |n {i:Int}:okN i=ag->AQ py (.int i)
 |t {b:Bool}:AQ "truth" (.bl b)
inductive TL:aX->D->Prop
 |a {f:aX} {d:D}:AQ f d->TL f d
 |ns {ds:List D}:1<=ds.length->ds.length<=60->(∀d∈ds,AQ py d)->TL im (.lst ds)
 |ws {ds:List D}:1<=ds.length->ds.length<=60->(∀d∈ds,AQ ov d)->TL lw (.lst ds)
theorem AQ.nl(h:AQ f d):nl d=ag:=by cases h<;>rfl
def K3(h:∀d∈ds,AQ f d):mY ds=ag:=by rw[HA];exact bU.mpr λd hd=>(h d hd).nl
theorem TL.nl(h:TL f d):mY [.str f,d]=ag:=by
 have:=by
  cases h with
  |a h=>exact h.nl
  |ns _ _ h=>exact K3 h
  |ws _ _ h=>exact K3 h
 show(ag&&(L3.nl d&&ag))=ag;rw[this];rfl
def Ir:GP:=λds Q=>∃f d,AQ f d/\ds=[.str f,d]/\Q (.bl ag)
def Iu:jD Ir:=by
 rintro ds P Q w ⟨f,d,a,h,q⟩
 exact⟨f,d,a,h,w _ q⟩
def acE:GP:=λds Q=>∃f xs,1<=xs.length/\xs.length<=60/\(∀d∈xs,AQ f d)/\ds=[.str f,.lst xs]/\Q (.bl ag)
def SH:jD acE:=by
 rintro ds P Q w ⟨f,d,a,b,c,h,q⟩
 exact⟨f,d,a,b,c,h,w _ q⟩
def D9:GP:=λds Q=>∃f d,TL f d/\ds=[.str f,d]/\Q (.bl ag)
def K4:jD D9:=by
 rintro ds P Q w ⟨f,d,a,h,q⟩
 exact⟨f,d,a,h,w _ q⟩
def VU(h:AQ f d)(q:Q (.bl ag)):lN 2 2 (D5 K (cl oN) (cl lX) g) [.str f,d] Q:=by
 have a:=@CH;unfold D5;generalize x4=ge at a |-;cases h with
 |w h=>exact⟨rfl,rfl,_,h,rfl,rfl,q⟩
 |b h=>
  unfold pU at h;rw[aZ,decide_eq_true_eq,decide_eq_true_eq] at h;exact⟨rfl,rfl,_,rfl,a h.1 (a h.2 ⟨rfl,q⟩)⟩
 |n h=>
  unfold okN at h;rw[aZ,decide_eq_true_eq,decide_eq_true_eq] at h;exact⟨rfl,rfl,_,rfl,a h.1 (a h.2 ⟨rfl,q⟩)⟩
 |t=>exact⟨rfl,_,rfl,rfl,q⟩
def VW(K:bz)(g:GN):∀ds Q,Ir ds Q->lN 2 2 (D5 K (cl oN) (cl lX) g) ds Q:=by
 rintro ds Q ⟨f,d,h,e,q⟩
 subst e;exact VU h q
def ae6(K:bz):∀ds Q,acE ds Q->lN 2 2 (ux K (cl Ir)) ds Q:=by
 rintro ds Q ⟨f,xs,j,h,c,e,q⟩
 subst e;have b:=@CH;unfold ux;generalize x4=ge at b |-;refine⟨rfl,_,rfl,_,rfl,?_⟩;refine b (by omega) ?_;refine b (by omega) ?_;refine⟨_,rfl,rfl,?_⟩;refine mP (λ_=>.bl ag) ?_ _ _ ?_ (λy g m i=>?_) ?_
 .exact rfl
 .rw[cm,bR];exact bG h (by decide)
 .exact⟨TL.nl (.a (c y g)),f,y,c y g,rfl,i _ rfl⟩
 .exact K2 ⟨rfl,q⟩
def Zk(K:bz):∀ds Q,D9 ds Q->lN 2 2 (D5 K (cl oN) (cl lX) (cl acE)) ds Q:=by
 rintro ds Q ⟨f,d,h,e,q⟩
 subst e;cases h with
 |a h=>exact VU h q
 |ns b c g=>exact⟨rfl,(TL.ns b c g).nl,_,_,b,c,g,rfl,rfl,q⟩
 |ws b c g=>exact⟨rfl,(TL.ws b c g).nl,_,_,b,c,g,rfl,rfl,q⟩
open PySem PySem.Spec PyProof.Rows.KTD L2 L3
def fm(l:List aX):D:=.tup (l.map .str)
def j4:List (aX×D):=[(mX,fm [ov,"truth"]),(gc,fm [mT,py]),("add",fm [mT,mT]),("take",fm [mT,mT]),("say",fm [mT]),("ask",fm [mT]),(ph,fm [ov]),(qa,fm [mT,ov]),(ra,fm [ov]),(rl,fm []),(qZ,fm []),(qb,fm [mT,mT,ov]),(pd,fm [mT,ov]),(pS,fm [mT,ov,ov]),(im,fm [im]),(kv,fm [lw])]
inductive Rw
 |mark (w:aX) (b:Bool)|set (b n:Int)|add (b c:Int)|take (b c:Int)|say (b:Int)|ask (b:Int)|jump (w:aX)|jumpif (b:Int) (w:aX)|call (w:aX)|back|stop
 |load (b c:Int) (w:aX)|jumpby (b:Int) (w:aX)|alike (b:Int) (w v:aX)|numbers (ns:List Int)|table (ws:List aX)
 deriving DecidableEq
def Rw.d:Rw->D
 |.mark w b=>.tup [.str mX,.str w,.bl b]|.set b n=>.tup [.str gc,.int b,.int n]|.add b c=>.tup [.str "add",.int b,.int c]|.take b c=>.tup [.str "take",.int b,.int c]
 |.say b=>.tup [.str "say",.int b]|.ask b=>.tup [.str "ask",.int b]|.jump w=>.tup [.str ph,.str w]|.jumpif b w=>.tup [.str qa,.int b,.str w]|.call w=>.tup [.str ra,.str w]
 |.back=>.tup [.str rl]|.stop=>.tup [.str qZ]|.load b c w=>.tup [.str qb,.int b,.int c,.str w]|.jumpby b w=>.tup [.str pd,.int b,.str w]|.alike b w v=>.tup [.str pS,.int b,.str w,.str v]
 |.numbers ns=>.tup [.str im,.lst (ns.map .int)]|.table ws=>.tup [.str kv,.lst (ws.map .str)]
def Rw.t:Rw->D
 |.numbers ns=>.tup [.str im,.tup (ns.map .int)]|.table ws=>.tup [.str kv,.tup (ws.map .str)]
 |r=>r.d
def Rw.ok:Rw->Bool
 |.mark w _=>qF w|.set b n=>pU b&&okN n|.add b c=>pU b&&pU c|.take b c=>pU b&&pU c|.say b=>pU b|.ask b=>pU b|.jump w=>qF w|.jumpif b w=>pU b&&qF w|.call w=>qF w
 |.back=>ag|.stop=>ag|.load b c w=>pU b&&pU c&&qF w|.jumpby b w=>pU b&&qF w|.alike b w v=>pU b&&qF w&&qF v
 |.numbers ns=>decide (1<=ns.length)&&decide (ns.length<=60)&&ns.all okN
 |.table ws=>decide (1<=ws.length)&&decide (ws.length<=60)&&ws.all qF
def b1(h:(a&&b)=ag):a=ag:=(aZ _ _▸h).1
def b2(h:(a&&b)=ag):b=ag:=(aZ _ _▸h).2
def Ea:GP:=λds Q=>∃r:Rw,r.ok=ag/\ds=[r.d]/\Q (.bl ag)
def FD:jD Ea:=by
 rintro ds P Q w ⟨r,a,h,q⟩
 exact⟨r,a,h,w _ q⟩
def pf{Q:DK}(h:TL f d)(q:Q (.bl ag) M):cl D9 [.str f,d] M Q:=⟨h.nl,f,d,h,rfl,q⟩
def acF(h:(Rw.numbers ns).ok=ag):TL im (.lst (ns.map .int)):=by refine .ns (by rw[ao];exact of_decide_eq_true (b1 (b1 h))) (by rw[ao];exact of_decide_eq_true (b2 (b1 h))) λd hd=>?_;obtain⟨n,hn,rfl⟩:=bQ.mp hd;exact .n (bU.mp (b2 h) n hn)
def acG(h:(Rw.table ws).ok=ag):TL lw (.lst (ws.map .str)):=by refine .ws (by rw[ao];exact of_decide_eq_true (b1 (b1 h))) (by rw[ao];exact of_decide_eq_true (b2 (b1 h))) λd hd=>?_;obtain⟨n,hn,rfl⟩:=bQ.mp hd;exact .w (bU.mp (b2 h) n hn)
def SI(K:bz)(c:aw):∀ds Q,Ea ds Q->lN 2 1 (D6 K c j4 (cl D9)) ds Q:=by
 rintro ds Q ⟨r,h,e,q⟩
 subst e;have pf:=@pf;unfold D6;generalize cl D9=g at pf |-;have L:∀{a b:Nat},Nat.ble a b=ag->a<=b:=aq;refine⟨rfl,?_⟩;cases r;all_goals walk_at "e";refine⟨λh=>Nat.one_ne_zero h.1,_,_,rfl,rfl,⟨rfl,rfl⟩,?_⟩
 case mark=>exact⟨rfl,rfl,pf (.a (.w h)) ⟨⟨rfl,rfl⟩,L rfl,rfl,rfl,pf (.a .t) ⟨⟨rfl,rfl⟩,L rfl,[ag,ag],rfl,rfl,q⟩⟩⟩
 case set=>exact⟨rfl,rfl,pf (.a (.b (b1 h))) ⟨⟨rfl,rfl⟩,L rfl,rfl,rfl,pf (.a (.n (b2 h))) ⟨⟨rfl,rfl⟩,L rfl,[ag,ag],rfl,rfl,q⟩⟩⟩
 case add=>exact⟨rfl,rfl,pf (.a (.b (b1 h))) ⟨⟨rfl,rfl⟩,L rfl,rfl,rfl,pf (.a (.b (b2 h))) ⟨⟨rfl,rfl⟩,L rfl,[ag,ag],rfl,rfl,q⟩⟩⟩
 case take=>exact⟨rfl,rfl,pf (.a (.b (b1 h))) ⟨⟨rfl,rfl⟩,L rfl,rfl,rfl,pf (.a (.b (b2 h))) ⟨⟨rfl,rfl⟩,L rfl,[ag,ag],rfl,rfl,q⟩⟩⟩
 case say=>exact⟨rfl,rfl,pf (.a (.b h)) ⟨⟨rfl,rfl⟩,L rfl,[ag],rfl,rfl,q⟩⟩
 case ask=>exact⟨rfl,rfl,pf (.a (.b h)) ⟨⟨rfl,rfl⟩,L rfl,[ag],rfl,rfl,q⟩⟩
 case jump=>exact⟨rfl,rfl,pf (.a (.w h)) ⟨⟨rfl,rfl⟩,L rfl,[ag],rfl,rfl,q⟩⟩
 case jumpif=>exact⟨rfl,rfl,pf (.a (.b (b1 h))) ⟨⟨rfl,rfl⟩,L rfl,rfl,rfl,pf (.a (.w (b2 h))) ⟨⟨rfl,rfl⟩,L rfl,[ag,ag],rfl,rfl,q⟩⟩⟩
 case call=>exact⟨rfl,rfl,pf (.a (.w h)) ⟨⟨rfl,rfl⟩,L rfl,[ag],rfl,rfl,q⟩⟩
 case back=>exact⟨[],rfl,rfl,q⟩
 case stop=>exact⟨[],rfl,rfl,q⟩
 case load=>exact⟨rfl,rfl,pf (.a (.b (b1 (b1 h)))) ⟨⟨rfl,rfl⟩,L rfl,rfl,rfl,pf (.a (.b (b2 (b1 h)))) ⟨⟨rfl,rfl⟩,L rfl,rfl,rfl,pf (.a (.w (b2 h))) ⟨⟨rfl,rfl⟩,L rfl,[ag,ag,ag],rfl,rfl,q⟩⟩⟩⟩
 case jumpby=>exact⟨rfl,rfl,pf (.a (.b (b1 h))) ⟨⟨rfl,rfl⟩,L rfl,rfl,rfl,pf (.a (.w (b2 h))) ⟨⟨rfl,rfl⟩,L rfl,[ag,ag],rfl,rfl,q⟩⟩⟩
 case alike=>exact⟨rfl,rfl,pf (.a (.b (b1 (b1 h)))) ⟨⟨rfl,rfl⟩,L rfl,rfl,rfl,pf (.a (.w (b2 (b1 h)))) ⟨⟨rfl,rfl⟩,L rfl,rfl,rfl,pf (.a (.w (b2 h))) ⟨⟨rfl,rfl⟩,L rfl,[ag,ag,ag],rfl,rfl,q⟩⟩⟩⟩
 case numbers=>exact⟨rfl,rfl,pf (acF h) ⟨⟨rfl,rfl⟩,L rfl,[ag],rfl,rfl,q⟩⟩
 case table=>exact⟨rfl,rfl,pf (acG h) ⟨⟨rfl,rfl⟩,L rfl,[ag],rfl,rfl,q⟩⟩
structure CA where
 (Row Mark Code Data VX Last Set Alike K5 Leave lC Table:aw)
inductive Kn
 |Mark|VX|Last|Set|Alike|K5|Leave|lC|Table
def CA.at(c:CA):Kn->aw
 |.Mark=>c.Mark|.VX=>c.VX|.Last=>c.Last|.Set=>c.Set|.Alike=>c.Alike|.K5=>c.K5|.Leave=>c.Leave|.lC=>c.lC|.Table=>c.Table
def Rw.kn:Rw->Kn
 |.mark _ _=>.Mark|.set _ _=>.Set|.add _ _|.take _ _|.say _|.ask _=>.VX|.jump _|.jumpby _ _=>.Leave|.jumpif _ _|.call _|.load _ _ _=>.K5|.back|.stop=>.Last
 |.alike _ _ _=>.Alike|.numbers _=>.lC|.table _=>.Table
def Rw.cls(c:CA)(r:Rw):aw:=c.at r.kn
def Rw.ins(c:CA)(r:Rw):D:=.ins (r.cls c) [fk] [r.t]
def oO (K:bz):GN:=λds M Q=>∃M1 C d,ds=[.loc M1.length,d]/\M=M1++[aa (.ins C [] [])]/\Gx K C fk/\Q .non (M1++[aa (.ins C [fk] [d])])
def K6:l8 (oO K):=by
 rintro ds M P Q w ⟨M1,C,d,a,b,c,q⟩
 exact⟨M1,C,d,a,b,c,w _ _ q⟩
def QH{β:Type}{M:List β}{x:β}:(M++[x])[M.length]?=aa x:=by simp
def QJ{β:Type}{M:List β}{x y:β}:(M++[x]).set M.length y=M++[y]:=by simp
def Zl:∀ds M Q,oO K ds M Q->vf 2 2 (DZ K) ds M Q:=by
 rintro ds M Q ⟨M1,C,d,a,b,c,q⟩
 subst a b;refine⟨rfl,?_⟩;refine⟨C,[],[],QH,c,by decide,?_⟩;rw[QJ];exact q
def Rw.code:Rw->Bool
 |.mark _ _|.numbers _|.table _=>au
 |_=>ag
def qT (c:CA):GP:=λds Q=>∃r:Rw,r.code=ag/\ds=[r.t]/\Q (r.ins c)
def Cd:jD (qT c):=by
 rintro ds P Q w ⟨r,a,b,q⟩
 exact⟨r,a,b,w _ q⟩
structure FOk(K:bz)(c:CA):Prop where
 f:∀r:Rw,Gx K (r.cls c) fk
def K7{Q:DK}(r:Rw)(h:Gx K (r.cls c) fk)(n:nl r.t=ag)(q:Q (r.ins c) M):oO K [.loc M.length,r.t] (M++[aa (.ins (r.cls c) [] [])]) λd M2=>d=.non/\∃ns es,M2=M++[aa (.ins (r.cls c) ns es)]/\mY es=ag/\Q (.ins (r.cls c) ns es) M:=
 ⟨M,_,_,rfl,rfl,h,rfl,_,_,rfl,by unfold mY;rw[n];rfl,q⟩
def Rw.nld(r:Rw):nl r.d=ag:=by cases r<;>first|rfl|exact(show(ag&&(mY _&&ag))=ag by rw[kZ (λ_=>rfl)];rfl)
def Rw.nlt(r:Rw):nl r.t=ag:=by cases r<;>first|rfl|(show(ag&&(mY _&&ag))=ag;rw[kZ (λ_=>rfl)];rfl)
def Rw.nli(c:CA)(r:Rw):nl (r.ins c)=ag:=by show(nl r.t&&ag)=ag;rw[r.nlt];rfl
def K8(f:FOk K c):∀ds Q,qT c ds Q->lN 2 1 (D7 c.Set (oO K) c.Alike (oO K) c.Last (oO K) c.Leave (oO K) c.K5 (oO K) c.VX (oO K)) ds Q:=by
 rintro ds Q ⟨r,b,e,q⟩
 subst e;have g:=f.f r;have a:=r.nlt;have mk:=λh i=>K7 (M:=[]) (Q:=h) r g a i;cases r<;>first|(cases b;done)|skip
 all_goals
  walk_at "e";exact mk _ ⟨a,q⟩
def Eb (c:CA):GN:=λds M Q=>∃r:Rw,r.ok=ag/\ds=[r.d]/\Q (r.ins c) M
def FE:l8 (Eb c):=by
 rintro ds M P Q w ⟨r,a,b,q⟩
 exact⟨r,a,b,w _ _ q⟩
def Zm(e:dv M x=d):xr M [x]=[d]:=by unfold xr;rw[e];rfl
def itL:D->Bool
 |.str _|.int _|.bl _|.lst _=>ag
 |_=>au
def toT:D->D
 |.lst xs=>.tup xs
 |d=>d
def Rw.itd(r:Rw):List D:=match r.d with|.tup ds=>ds|_=>[]
def Rw.ae7(r:Rw):r.d=.tup r.itd:=by cases r<;>rfl
def Rw.ae8(r:Rw):r.t=.tup (r.itd.map toT):=by cases r<;>rfl
def Rw.acH(r:Rw):r.itd.all itL=ag:=by cases r<;>rfl
def Rw.Zn(r:Rw):r.itd.length<=aO:=bG (m:=4) (by cases r<;>exact aq rfl) (by decide)
def SJ(f:FOk K c):∀ds M Q,Eb c ds M Q->vf 2 1 (K0 K (bor Ea) c.Mark (oO K) c.lC (oO K) c.Table (oO K) (cl (qT c))) ds M Q:=by
 rintro ds M Q ⟨r,i,j,q⟩
 subst j;have m:=f.f r;have b:=r.nlt;have mk:=λn o=>K7 (M:=M) (Q:=n) r m b o;have g:=r.nld;have hd:mY [r.d]=ag:=by unfold mY;rw[g];rfl
 have hn:mY [r.t]=ag:=by unfold mY;rw[b];rfl
 have p:r.code=ag->cl (qT c) [r.t] M Q:=λh=>⟨hn,r,h,rfl,q⟩;refine⟨rfl,?_⟩;conv=>whnf
 rw[Zm (aaJ M _ g)];refine⟨hd,r,i,rfl,rfl,?_⟩;rw[r.ae7];refine⟨_,rfl,rfl,?_⟩;refine mP toT ?_ _ _ ?_ (λx a u s=>?_) ?_
 .exact rfl
 .rw[cm,bR];exact r.Zn
 .have a:=bU.mp r.acH x a;cases x<;>first|(cases a;done)|skip
  all_goals
   walk_at "e";exact s _ rfl
 have e:=r.ae8;cases r;all_goals
  cases e;walk_at "e";first|exact(p rfl).2|exact mk _ q
def Rw.N8:Rw->Bool
 |.mark _ _|.numbers _|.table _|.jump _|.jumpby _ _|.back|.stop=>au
 |_=>ag
def Rw.names:Rw->List D
 |.jump w|.jumpif _ w|.call w|.load _ _ w|.jumpby _ w=>[.str w]
 |.alike _ w v=>[.str w,.str v]
 |.table ws=>ws.map .str
 |_=>[]
def Rw.Zo:Rw->D
 |.mark _ _=>.tup [.int 0]|.set _ _|.alike _ _ _=>.tup [.int 5]|.jump _|.jumpif _ _|.call _|.load _ _ _|.jumpby _ _=>.tup [.int 2,.int 3]
 |.numbers ns=>.tup [.int (2+4*ns.length)]|.table ws=>.tup [.int (2+2*ws.length)]
 |_=>.tup [.int 1]
def Iv (c:CA)(k:Kn):GP:=λds Q=>∃r:Rw,r.kn=k/\ds=[r.ins c]/\Q r.d
def xj (c:CA)(k:Kn):GN:=λds M Q=>∃r:Rw,r.kn=k/\ds=[r.ins c]/\Q (.loc M.length) (M++[aa (.lst r.names)])
def Iw (c:CA)(k:Kn):GP:=λds Q=>∃r:Rw,r.kn=k/\ds=[r.ins c]/\Q (.bl r.N8)
def AR (c:CA)(k:Kn):GP:=λds Q=>∃r:Rw,r.kn=k/\ds=[r.ins c]/\Q r.Zo
def Ix:jD (Iv c k):=by
 rintro ds P Q w ⟨r,a,b,q⟩
 exact⟨r,a,b,w _ q⟩
def lf:jD (Iw c k):=by
 rintro ds P Q w ⟨r,a,b,q⟩
 exact⟨r,a,b,w _ q⟩
def kL:l8 (xj c k):=by
 rintro ds M P Q w ⟨r,a,b,q⟩
 exact⟨r,a,b,w _ _ q⟩
def VY(h:mY xs=ag):nl (.tup [.str x,.lst xs])=ag:=by show(ag&&(mY xs&&ag))=ag;rw[h];rfl
def zO{ns:List Int}:mY (ns.map D.int)=ag:=kZ (λ_=>rfl) _
def VZ{ns:List aX}:mY (ns.map D.str)=ag:=kZ (λ_=>rfl) _
def plI:D->Bool
 |.str _|.int _|.bl _=>ag
 |_=>au
def Rw.iM(r:Rw):List D:=match r.t with|.tup ds=>ds|_=>[]
def Rw.ae9(r:Rw):r.t=.tup r.iM:=by cases r<;>rfl
def Rw.Zp(r:Rw):r.iM.length<=aO:=bG (m:=4) (by cases r<;>exact aq rfl) (by decide)
def Rw.ag6(r:Rw)(h:r.iM.all plI=ag):r.d=.tup r.iM:=by cases r<;>first|rfl|cases h
def V0(f:FOk K c)(k:Kn):∀ds Q,Iv c k ds Q->lN 1 1 (BK K) ds Q:=by
 rintro ds Q ⟨r,m,i,q⟩
 subst i;have g:=f.f r;have h:=r.nlt;by_cases b:r.iM.all plI=ag
 .rw[r.ag6 b] at q;unfold Rw.ins;rw[r.ae9] at h |-;refine⟨rfl,_,_,_,_,rfl,g,rfl,_,rfl,rfl,?_⟩;refine mP (λd=>d) ?_ _ _ ?_ (λx a n j=>?_) ?_
  .exact rfl
  .rw[cm,bR];exact r.Zp
  .have a:=bU.mp b x a;cases x<;>first|(cases a;done)|skip
   all_goals
    walk_at "e";exact j _ rfl
  .have e:r.iM.map (vw [])=r.iM:=(eZ λx a=>by cases x<;>first|rfl|cases a).trans (List.map_id' _)
   rw[List.map_id'];show nl (.tup (r.iM.map (vw [])))=ag/\Q (.tup (r.iM.map (vw [])));rw[e];exact⟨h,q⟩
 .cases r<;>first|exact absurd rfl b|skip
  all_goals
   refine⟨rfl,?_⟩;refine⟨_,_,_,_,rfl,g,rfl,?_⟩;walk_at "e";first|exact⟨VY zO,q⟩|exact⟨VY VZ,q⟩
def nU(a:k=.Mark\/k=.VX\/k=.Last\/k=.Set\/k=.lC):∀ds M Q,xj c k ds M Q->vf 1 1 BL ds M Q:=by
 rintro ds M Q ⟨r,b,e,q⟩
 subst e b;cases r<;>first|(simp[Rw.kn] at a;done)|skip
 all_goals
  refine⟨rfl,?_⟩;walk_at "e";exact q
def Ec(f:FOk K c)(a:k=.Alike):∀ds M Q,xj c k ds M Q->vf 1 1 (tM K) ds M Q:=by
 rintro ds M Q ⟨r,b,e,q⟩
 subst e b;have g:=f.f r;cases r<;>first|(simp[Rw.kn] at a;done)|skip
 all_goals
  refine⟨rfl,?_⟩;refine⟨_,_,_,_,rfl,g,rfl,?_⟩;refine⟨λh=>Nat.succ_ne_zero 1 h.1,?_⟩;walk_at "e";exact q
def zP(f:FOk K c)(a:k=.K5\/k=.Leave):∀ds M Q,xj c k ds M Q->vf 1 1 (v3 K) ds M Q:=by
 rintro ds M Q ⟨r,b,e,q⟩
 subst e b;have g:=f.f r;cases r<;>first|(simp[Rw.kn] at a;done)|skip
 all_goals
  refine⟨rfl,?_⟩;refine⟨_,_,_,_,rfl,g,rfl,?_⟩;walk_at "e";exact q
def Ed(f:FOk K c)(a:k=.Table):∀ds M Q,xj c k ds M Q->vf 1 1 (tN K) ds M Q:=by
 rintro ds M Q ⟨r,b,e,q⟩
 subst e b;have g:=f.f r;cases r<;>first|(simp[Rw.kn] at a;done)|skip
 all_goals
  refine⟨rfl,?_⟩;refine⟨_,_,_,_,rfl,g,rfl,?_⟩;walk_at "e";exact q
def K9(a:k=.Mark\/k=.lC\/k=.Table\/k=.Last\/k=.Leave):∀ds Q,Iw c k ds Q->lN 1 1 xH ds Q:=by
 rintro ds Q ⟨r,b,e,q⟩
 subst e b;cases r<;>first|(simp[Rw.kn] at a;done)|exact⟨rfl,rfl,q⟩
def QK(a:k=.VX\/k=.Set\/k=.Alike\/k=.K5):∀ds Q,Iw c k ds Q->lN 1 1 r9 ds Q:=by
 rintro ds Q ⟨r,b,e,q⟩
 subst e b;cases r<;>first|(simp[Rw.kn] at a;done)|exact⟨rfl,rfl,q⟩
def uC (c:CA):HN:=λC m g=>∃k:Kn,C=c.at k/\g=xj c k
def V1 (c:CA):HN:=λC m g=>∃k:Kn,C=c.at k/\g=cl (Iw c k)
def m4 (c:CA):HN:=λC m g=>∃k:Kn,C=c.at k/\g=cl (Iv c k)
def acI{k:Nat}{x:β}(h:xs[k]?=aa x):Fk xs (k:Int)=aa x:=by have a:=(ak.mp h).1;unfold Fk Xl;rw[if_pos (by omega),if_pos (by omega)];simpa using h
def zQ{xs:List β}{k:Nat}:cutD xs (aa (k:Int)) ar=xs.drop k:=by
 unfold cutD;rw[HT.Cr,HT.Ul];by_cases h:k<=xs.length
 .rw[Nat.min_eq_left h,fH (by rw[dN];omega)]
 .rw[Nat.min_eq_right (by omega),List.drop_eq_nil_of_le (aD _),List.drop_eq_nil_of_le (by omega)];simp
structure CF(K:bz)(C:aw):Prop where
 pg:W.plainGet K C aX.empty=ag
 hd:W.hasDictIn K C=ag
 po:W.plainOver K C=ag
 sa:cP K (.ref C) uJ=aa (aa (.builtin vg))
 mks:W.makesIn K C=ag
 kc:ew K (.ref C)=ag
 ha:cP K (.ref C) pu=aa (aa (.builtin ma))
 hn:W.specialIn K (.builtin ma) sU=aa (aa (.builtin tj))
 htk:W.takesIn K (.builtin ma)=aa ag
 hm:W.mroIn K C (.type pa)=aa ag
def CF.cls(h:CF K C):Py K C:=⟨h.pg,h.hd,h.po,h.sa⟩
def CF.afa(h:CF K C):PZ K C:=⟨h.cls,h.ha,h.hn,h.htk,h.hm⟩
structure RF(K:bz)(C fI fW fA fG fL:aw):Prop where
 c:CF K C
 nT:cP K (.ref C) fk=aa ar
 aI:cP K (.ref C) mm=aa (aa (.ref fI))
 aW:cP K (.ref C) lw=aa (aa (.ref fW))
 aA:cP K (.ref C) kF=aa (aa (.ref fA))
 aG:cP K (.ref C) la=aa (aa (.ref fG))
 aL:cP K (.ref C) "lengths"=aa (aa (.ref fL))
structure MF(K:bz)(n q:aX)(st:c5)(f:aw):Prop where
 ex:∃fd,xC K n q st f fd
 fn:W.isFn K (.ref f)=ag
 kp:ew K (.ref f)=ag
def afb{kV doc pm jd ct:ai}(l:K.lookup f=aa ⟨oc,od,.func (eu x qual (k9 st) (jq st) (iT st) .none kV doc pm an jd ct),Rt⟩)
(c:W.codeIn K jd qual=ag)(k:ew K (.ref f)=ag)(i:W.isFn K (.ref f)=ag):MF K x qual st f:=⟨⟨_,Ux l c k⟩,i,k⟩
def zR(c:Py K C)(hm:Meth K C m f)(hb:Binds K fd a [])(F:lP P w K mg cq uk k f fd a (l9 K g))(e:l8 b)(i:∀ds M Q,b ds M Q->g ds M Q):sM P w K mg cq k C m b:=
 ⟨e,c,f,fd,a,hm,hb,F.imp λh H Q E ⟨F,α,M,ds,o,r,q⟩=>⟨F,α,M,ds,o,r,i _ _ _ q⟩⟩
def acJ(l:K.lookup b=aa o)(hc:o.cls=.type fi)(a:o.data=.seq us.toArray n)(c:us.length<=aO)(e:Vals (fs.map V.str) us):U6 K (fm fs) (.ref b):=
 ⟨.ref b,rfl,λα H=>by exact⟨b,fs.map V.str,rfl,.inr ⟨o,us.toArray,n,l,hc,a,by simpa using c,by simpa using e⟩,hZ.of_map _ _ (λ_=>qr) _⟩⟩
def V2:Vals (([]).map V.str) []:=.nil
def SK(h:Vals (fs.map V.str) us):Vals ((x::fs).map V.str) (.str x t::us):=.cons ⟨t,rfl⟩ h
def acK(lo:(a==cb)=au)(l:K.lookup a=aa o)(hc:o.ExactDict)(hd:o.data=.dict es.toArray b)(c:Rows (U6 K) es rows):AF K a rows:=
 ⟨lo,o,es.toArray,b,l,hc,hd,by simpa using c⟩
def tQ (K:bz):DS:=(iN (vJ (i5 (mj K) (hV (hX 0) (hV (dC (.ty fi)) ib))) (vJ (iA (RJ λi j=>.bl (decide (j<i))) (i5 lx (hV (hX 0) ib)) (dC (.int 0))) (vJ (i5 (mj K) (hV (iA jS (hX 0) (dC (.int 0))) (hV (dC (.ty hJ)) ib))) (iA vy (iA jS (hX 0) (dC (.int 0))) (dC (.str mX)))))))
def xI (a:GN):DS:=(iN (i5 lx (hV (jV (lc [ar] (kh (hX 0)) (iq 0) (iu (i5 a (hV (hX 0) ib))) (hX 0))) ib)))
def v8 (a:GN):DS:=(iN (iA (RJ λi j=>.int (i- j)) (i5 lx (hV (hX 0) ib)) (i5 a (hV (hX 0) ib))))
def GQ (K:bz)(a:GN)(b:GN):DS:=(iz (js (Ft (oA (iu (i5 (mj K) (hV (hX 0) (hV (dC (.ty fi)) ib))))) (iu (iA Fx (i5 lx (hV (hX 0) ib)) (dC (.int 2))))) (iN (dC (.bl au))) iP)
 (iz (js (Ft (oA (iu (i5 a (hV (iA jS (hX 0) (dC (.int 0))) ib)))) (oA (iu (i5 (mj K) (hV (iA jS (hX 0) (dC (.int 1))) (hV (dC (.ty cr)) ib)))))) (iN (dC (.bl au))) iP)
 (iN (nN x4 x4 (dC (.int 1)) (i5 b (hV (iA jS (hX 0) (dC (.int 1))) ib)) (dC (.int 60))))))
def BM (K:bz)(a:GN)(b:GN)(c:GN):DS:=(iz (js (Ft (oA (iu (i5 (mj K) (hV (hX 0) (hV (dC (.ty cr)) ib))))) (oA (iu (nN x4 x4 (dC (.int 1)) (i5 lx (hV (hX 0) ib)) (dC (.int 12)))))) (iN (dC (.bl au))) iP)
 (iz (js (oA (iu (i5 RR (hV (jV (lc [ar] (kh (hX 0)) (iq 0) qy (i5 a (hV (hX 0) ib)))) ib)))) (iN (dC (.bl au))) iP)
 (iz (js (iu (iA Fx (Qe (jV (lc [ar] (kh (hX 0)) (iq 0) qy (iA jS (hX 0) (dC (.int 0)))))) (i5 lx (hV (hX 0) ib)))) (iN (dC (.bl au))) iP)
 (iz (js (iu (iA (RJ λi j=>.bl (decide (j<i))) (i5 NG (hV (jV (lc [ar] (kh (hX 0)) (iq 0) qy (i5 b (hV (iA jS (hX 0) (dC (.int 1))) ib)))) ib)) (dC (.int 200)))) (iN (dC (.bl au))) iP)
 (iN (iA x4 (i5 NG (hV (jV (lc [ar] (kh (hX 0)) (iq 0) qy (i5 c (hV (iA jS (hX 0) (dC (.int 1))) ib)))) ib)) (dC (.int 200))))))))
def GR (a:GN):DS:=(iz (jl 2 (pP (mM ib)))
 (iz (qv (Dt (hV (hX 1) ib)) (k7 2 (iO (iq 3) (iO (iq 4) lq))) (iz (jl 5 (i5 a (hV (hX 4) ib)))
 (iz (js (iu (iA gIs (hX 5) (dC .non))) um iP)
 (lp (Ao cr jj (hX 2) (hV (hX 5) ib))))))
 (iN (hX 2))))
def nV (K:bz)(a:aw):DS:=(iz (qv (kh (hX 0)) (iq 1) (js (oA (iu (i5 (mj K) (hV (hX 1) (hV (dC (.cls a)) ib))))) (iN (hX 1)) iP))
 (iN (dC .non)))
def nj (K:bz)(a:GN)(b:HN)(c:aw)(e:aw):DS:=(qv (Dt (hV (hX 1) ib)) (k7 2 (iO (iq 2) (iO (iq 3) lq))) (iz (jl 4 (i5 a (hV (Xq (hX 1) (vS (iA jn (hX 2) (dC (.int 1)))) qA) ib)))
 (iz (js (Ay (iu (Ks b la (hX 3) ib)) (oA (iu (i5 (mj K) (hV (hX 4) (hV (dC (.cls c)) ib)))))) um iP)
 (js (Ay (iu (i5 (mj K) (hV (hX 3) (hV (dC (.cls e)) ib)))) (iu (iA gIs (hX 4) (dC .non)))) um iP))))
def BN (a:GN)(b:GN)(c:GN):DS:=(iz (js (oA (iu (i5 a (hV (hX 0) ib)))) um iP)
 (iz (jl 1 (jV (lc [ar] (kh (hX 0)) (iq 0) qy (ju (hV (iA jS (hX 0) (dC (.int 0))) (hV (i5 b (hV (iA jS (hX 0) (dC (.int 0))) (hV (iA jS (hX 0) (dC (.int 1))) ib))) ib))))))
 (iz (qv (kh (hX 1)) (k7 2 (iO (iq 2) (iO (iq 3) lq))) (lp (i5 c (hV (hX 2) (hV (hX 3) ib)))))
 (iN (hX 1)))))
def GU:DS:=(iN (jV (Vm (hX 0))))
def qh (K:bz)(c:aw)(m4:HN):DS:=(iz (jl 2 (pP (mM ib)))
 (iz (jl 3 (dC (.int 0)))
 (iz (qv (kh (hX 1)) (iq 4) (js (iu (i5 (mj K) (hV (hX 4) (hV (dC (.cls c)) ib)))) (iz (UM (Xq (Ks m4 lw (hX 4) ib) (vS (dC (.int 1))) qA) (k7 2 (iO (iq 5) (iO (iq 6) lq))))
 (lp (Ao cr jj (hX 2) (hV (ju (hV (hX 5) (hV (hX 6) (hV (ju (hV (hX 0) (hV (hX 3) ib))) ib)))) ib)))) (P6 3 (λ_ _=>True) (λa b=>.int (a+b)) (dC (.int 1)))))
 (iN (hX 2)))))
def Ee (a:GN)(b:GN):DS:=(iz (jl 1 (pP (mM ib)))
 (iz (qv (kh (i5 a (hV (hX 0) ib))) (k7 2 (iO (iq 2) (iO (iq 3) lq))) (lp (Ao cr Kv (hX 1) (hV (i5 b (hV (hX 2) (hV (hX 3) ib))) ib))))
 (iN (hX 1))))
def v9:DS:=(iz (jl 1 (pP Dj))
 (iz (qv (kh (hX 0)) (k7 3 (iO (iq 2) (iO (iq 3) (iO (iq 4) lq)))) (js (iu (hX 3)) (lp (Ao cr jj (Ao fw KC (hX 1) (hV (hX 2) (hV (pP (mM ib)) ib))) (hV (iA jS (hX 4) (dC (.int 0))) ib))) iP))
 (iN (hX 1))))
def tR (a:GN):DS:=(iz (jl 1 (i5 a (hV (hX 0) ib)))
 (qv (kh (jV (TD Kz (hV (hX 1) ib)))) (iq 2) (js (iu (iA (RJ λi j=>.bl (decide (j<i))) (i5 lx (hV (iA jS (hX 1) (hX 2)) ib)) (dC (.int 1)))) um iP)))
def BO (a:GN)(b:GN):DS:=(iz (jl 1 (i5 a (hV (hX 0) ib)))
 (iz (lp (i5 b (hV (hX 1) ib)))
 (iz (jl 2 (pP Dj))
 (iz (qv (kh (hX 1)) (k7 3 (iO (iq 3) (iO (iq 4) (iO (iq 5) lq)))) (js (Ft (iu (hX 4)) (iu (iA (CB ag) (hX 3) (hX 2)))) (P9 (hX 2) (hX 3) (hX 5)) iP))
 (iN (hX 2))))))
def qi (K:bz)(a:aw):DS:=(iN (jV (lc [ar] (kh (hX 0)) (iq 0) (oA (iu (i5 (mj K) (hV (hX 0) (hV (dC (.cls a)) ib))))) (hX 0))))
def BP (a:GN)(b:GN):DS:=(iN (jV (TD ND (hV (jV (lc [ar,ar] (kh (i5 a (hV (hX 0) ib))) (k7 2 (iO (iq 0) (iO (iq 1) lq))) qy (ju (hV (hX 0) (hV (i5 b (hV (hX 1) ib)) ib))))) ib))))
def Ef:DS:=(iN (iA jS (iA jS (hX 0) (iA jS (hX 1) (dC (.int 0)))) (iA jS (hX 1) (dC (.int 1)))))
def uE (K:bz)(m4:HN)(a:aw)(b:aw)(c:aw):DS:=(iz (jl 2 (iA jS (Ks m4 lw (hX 0) ib) (dC (.int 0))))
 (iz (js (iu (iA vy (hX 2) (dC (.str pS)))) (iN (dC (.bl ag))) iP)
 (iz (js (iu (iA vy (hX 2) (dC (.str qb)))) (iN (i5 (mj K) (hV (hX 1) (hV (dC (.cls a)) ib)))) iP)
 (iz (js (iu (iA vy (hX 2) (dC (.str pd)))) (iN (i5 (mj K) (hV (hX 1) (hV (dC (.cls b)) ib)))) iP)
 (iN (i5 (mj K) (hV (hX 1) (hV (dC (.cls c)) ib))))))))
def wa (uC:HN)(a:GN)(b:GN):DS:=(qv (Dt (hV (iA jS (hX 1) (hX 0)) ib)) (k7 2 (iO (iq 3) (iO (iq 4) lq))) (qv (kh (Ks uC kF (hX 4) ib)) (iq 5) (iz (js (iu (iA (CB ag) (hX 5) (hX 2))) um iP)
 (js (oA (iu (i5 a (hV (hX 4) (hV (i5 b (hV (hX 1) (hV (iA jS (hX 2) (hX 5)) ib))) ib))))) um iP))))
def La (a:GN)(b:GN)(c:GN)(e:GN):DS:=(iz (jl 1 (i5 a (hV (hX 0) ib)))
 (iz (jl 2 (i5 b (hV (hX 1) ib)))
 (iz (jl 3 (i5 c (hV (hX 1) ib)))
 (iz (qv (kh (hX 1)) (k7 2 (iO (iq 4) (iO (iq 5) lq))) (lp (i5 e (hV (hX 4) (hV (hX 3) (hV (hX 2) ib))))))
 (iN (ju (hV (hX 3) (hV (hX 2) ib))))))))
end FJ
namespace oz
open PySem PySem.Spec PyProof.Rows L2 L3 FJ
abbrev pV:L3.G2:=gI (λ_ j=>0<j) λi j=>.int (i%j)
abbrev AS:L3.G2:=gI zC λi j=>.int (i/j)
abbrev Eg:L3.G2:=gI Hj λi j=>.int (i^j.toNat)
abbrev N9:L3.G2:=RJ λi j=>.int (i- j)
abbrev acL:L3.G2:=RJ λi j=>.bl (decide (j<i))
def top(i:Nat):c5:=PySem.Challenge.pw_farjump_k32_where_parts_begin.main.body.getD i (.Pass ⟨0,0,0,0⟩)
section
variable {K:bz} {k:Nat}
structure FI(s:c5)(N ps:List aX) where
 b:List c5
 c:dn
 hb:jq s=b
 hc:iT s=c
 sc:kY N ps c
local macro_rules | `(tactic| walk_at "a") => `(tactic| exact ⟨_, _, by (conv => lhs; whnf), by (conv => lhs; whnf), rfl, rfl, rfl, by decide +kernel, rfl, by decide +kernel, by decide +kernel⟩)
theorem us1:∀{us:List ai},us.length=1->∃a,us=[a]
 |[a],_=>⟨a,rfl⟩
def us2{us:List ai}(h:us.length=2):∃a b,us=[a,b]:=by
 cases us with
 |nil=>nomatch h
 |cons a r=>
  obtain⟨b,q⟩:=us1 (Nat.succ.inj h);exact⟨a,b,congrArg (a::·) q⟩
def us3{us:List ai}(h:us.length=3):∃a b c,us=[a,b,c]:=by
 cases us with
 |nil=>nomatch h
 |cons a r=>
  obtain⟨b,c,q⟩:=us2 (Nat.succ.inj h);exact⟨a,b,c,congrArg (a::·) q⟩
def us4{us:List ai}(h:us.length=4):∃a b c d,us=[a,b,c,d]:=by
 cases us with
 |nil=>nomatch h
 |cons a r=>
  obtain⟨b,c,d,q⟩:=us3 (Nat.succ.inj h);exact⟨a,b,c,d,congrArg (a::·) q⟩
def us5{us:List ai}(h:us.length=5):∃a b c d e,us=[a,b,c,d,e]:=by
 cases us with
 |nil=>nomatch h
 |cons a r=>
  obtain⟨b,c,d,e,q⟩:=us4 (Nat.succ.inj h);exact⟨a,b,c,d,e,congrArg (a::·) q⟩
local macro_rules | `(tactic| walk_at "b") => `(tactic| (intro _ _ _ _ _ _ us hl; first | (obtain ⟨_, e⟩ := us1 hl; subst e; rfl) | (obtain ⟨_, _, e⟩ := us2 hl; subst e; rfl) | (obtain ⟨_, _, _, e⟩ := us3 hl; subst e; rfl) | (obtain ⟨_, _, _, _, e⟩ := us4 hl; subst e; rfl) | (obtain ⟨_, _, _, _, _, e⟩ := us5 hl; subst e; rfl) | (obtain ⟨_, _, _, _, _, _, e⟩ := us6 hl; subst e; rfl)))
structure Zs(mg:aX->Option ai):Prop where
 isinstance:mg px=ar
 int:mg hH=ar
 bool:mg ix=ar
 str:mg hJ=ar
 len:mg oo=ar
 all:mg "all"=ar
 tuple:mg fi=ar
 list:mg cr=ar
 zip:mg ll=ar
 set:mg gc=ar
 sum:mg "sum"=ar
 enumerate:mg ly=ar
 sorted:mg jm=ar
 dict:mg fw=ar
 range:mg oi=ar
 any:mg "any"=ar
 reversed:mg nu=ar
 Eh:∃t,mg "LONGEST_WORD"=aa (.int 8 t)
 Ei:∃t,mg "LONGEST_LIST"=aa (.int 60 t)
 Oa:∃t,mg "LAST_BOX"=aa (.int 3 t)
 Ej:∃t,mg "LEAST_NUMBER"=aa (.int (-2147483648) t)
 zT:∃t,mg uaF=aa (.int 2147483647 t)
 xx:∃t,mg uaG=aa (.int 60 t)
 Iy:∃t,mg "MOST_PARTS"=aa (.int 12 t)
 Lb:∃t,mg "MOST_ROWS"=aa (.int 200 t)
 Iz:∃t,mg "MOST_MARKS"=aa (.int 200 t)
 zU:∃t,mg uaH=aa (.int 64 t)
variable {xk:GN} {m4 uC:HN}
def IA:bT "all"=aa (.builtin "all"):=by decide+kernel
def acM:bT "any"=aa (.builtin "any"):=by decide+kernel
def IB:bT ix=aa (.type ix):=by decide+kernel
def IC:bT fw=aa (.type fw):=by decide+kernel
def Ek:bT hH=aa (.type hH):=by decide+kernel
def iC:bT px=aa (.builtin px):=by decide+kernel
def jX:bT oo=aa (.builtin oo):=by decide+kernel
def pI:bT cr=aa (.type cr):=by decide+kernel
def GV:bT jm=aa (.builtin jm):=by decide+kernel
def Ob:bT hJ=aa (.type hJ):=by decide+kernel
def ID:bT "sum"=aa (.builtin "sum"):=by decide+kernel
def qV:bT fi=aa (.type fi):=by decide+kernel
def yp:FI (top 13) [eR] [eR]:=by walk_at "a"
def Oc(D:iw K mg ro (top 13))(Z:Zs mg):nz P w K mg cq (k+1) ro [eR] (l9 K (cl (lN 1 1 (DY K)))):=
 kP D yp.hb yp.hc yp.sc (by walk_at "b") λf jd A cv s H E a=>by have b:=i6 a;exact(ie (il (By (nh kJ Z.isinstance iC (hU (ij 0) (hU (xt Z.int Ek) hW))) (Gq (UG (nh kJ Z.isinstance iC (hU (ij 0) (hU (xt Z.bool IB) hW))))))))
def xn:FI (top 14) [eR] [eR]:=by walk_at "a"
def SM(D:iw K mg tF (top 14))(Z:Zs mg):nz P w K mg cq (k+1) tF [eR] (l9 K (cl (lN 1 1 (AO K)))):=
 kP D xn.hb xn.hc xn.sc (by walk_at "b") λf jd A cv s H E a=>by
 have b:=i6 a;exact(ia (iX (nC (pN (kU (jO (nh kJ Z.isinstance iC (hU (ij 0) (hU (xt Z.str Ob) hW))))) (nM (kU (zo pQ pQ ig (nh jW Z.len jX (hU (ij 0) hW)) (pD Z.Eh)))))) (ie (il rT)) iI)
   (ie (il (nh HL Z.all IA (hU (jw (jP (N:=["sign"]) (fr:=[ar]) (jv.of (m9:=[eR]) (jF:=xn.c) (by decide+kernel)) (jA (ij 0)) jc (λ_ _ _ _ _=>(ip 0 (show bN (["sign"]:List aX) by decide+kernel))) (λ_ _ _ _ _=>jY) (λ_ _ _ _ _=>(zn pQ pQ iF (ij 0) iF)))) hW)))))
def yq:FI (iV (top 21) 0) [fq,fk] [fq,fk]:=by walk_at "a"
def Od(F:xC K mm "Row.__init__" (iV (top 21) 0) f fd):lP P w K mg cq uk (k+1) f fd [fq,fk] (l9 K (vf 2 2 (DZ K))):=
 U5 F yq.hb yq.hc yq.sc λjd A cv s H E a=>by have b:=i6 a;exact(ie (YB (ij 0) (ij 1)))
def Lc(F:xC K mm "Row.__init__" (iV (top 21) 0) f fd):Binds K fd [fq,fk] []:=F.binds (by walk_at "b")
def sx:FI (iV (top 21) 1) [fq] [fq]:=by walk_at "a"
def Ld(F:xC K lw "Row.words" (iV (top 21) 1) f fd)(Z:Zs mg):lP P w K mg cq uk (k+1) f fd [fq] (l9 K (cl (lN 1 1 (BK K)))):=
 RU F sx.hb sx.hc sx.sc λjd A cv s H E a=>by have b:=i6 a;exact(ie (il (j_t Dw Z.tuple qV (hU (jw (jP (N:=["one"]) (fr:=[ar]) (jv.of (m9:=[fq]) (jF:=sx.c) (by decide+kernel)) (jA (P0 (ij 0))) jc (λ_ _ _ _ _=>(ip 0 (show bN (["one"]:List aX) by decide+kernel))) (λ_ _ _ _ _=>jY) (λ_ _ _ _ _=>(aeh (jO (nh kJ Z.isinstance iC (hU (ij 0) (hU (xt Z.tuple qV) hW)))) (mz (Kq tL Z.list pI (hU (ij 0) hW))) (ij 0))))) hW))))
def IE(F:xC K lw "Row.words" (iV (top 21) 1) f fd):Binds K fd [fq] []:=F.binds (by walk_at "b")
def wb:FI (iV (top 21) 3) [fq] [fq]:=by walk_at "a"
def pX(F:xC K kF "Row.asked" (iV (top 21) 3) f fd):lP P w K mg cq uk (k+1) f fd [fq] (l9 K (vf 1 1 BL)):=
 U5 F wb.hb wb.hc wb.sc λjd A cv s H E a=>by have b:=i6 a;exact(ie (il (mz (jH hW))))
def oa(F:xC K kF "Row.asked" (iV (top 21) 3) f fd):Binds K fd [fq] []:=F.binds (by walk_at "b")
def sP:FI (iV (top 21) 4) [fq] [fq]:=by walk_at "a"
def sQ(F:xC K la "Row.goes_on" (iV (top 21) 4) f fd):lP P w K mg cq uk (k+1) f fd [fq] (l9 K (cl (lN 1 1 xH))):=
 RU F sP.hb sP.hc sP.sc λjd A cv s H E a=>by have b:=i6 a;exact(ie (il rT))
def qW(F:xC K la "Row.goes_on" (iV (top 21) 4) f fd):Binds K fd [fq] []:=F.binds (by walk_at "b")
def og:FI (iV (top 23) 0) [fq] [fq]:=by walk_at "a"
def mo(F:xC K la uaI (iV (top 23) 0) f fd):lP P w K mg cq uk (k+1) f fd [fq] (l9 K (cl (lN 1 1 r9))):=
 RU F og.hb og.hc og.sc λjd A cv s H E a=>by have b:=i6 a;exact(ie (il rT))
def lZ(F:xC K la uaI (iV (top 23) 0) f fd):Binds K fd [fq] []:=F.binds (by walk_at "b")
def oh:FI (iV (top 26) 0) [fq] [fq]:=by walk_at "a"
def zW(F:xC K la uaJ (iV (top 26) 0) f fd):lP P w K mg cq uk (k+1) f fd [fq] (l9 K (cl (lN 1 1 zI))):=
 RU F oh.hb oh.hc oh.sc λjd A cv s H E a=>by have b:=i6 a;exact(ie (il rT))
def yr(F:xC K la uaJ (iV (top 26) 0) f fd):Binds K fd [fq] []:=F.binds (by walk_at "b")
def oU:FI (iV (top 28) 1) [fq] [fq]:=by walk_at "a"
def AT(F:xC K kF uaK (iV (top 28) 1) f fd)(Z:Zs mg):lP P w K mg cq uk (k+1) f fd [fq] (l9 K (vf 1 1 (tM K))):=
 U5 F oU.hb oU.hc oU.sc λjd A cv s H E a=>by have b:=i6 a;exact(ie (il (mz (Kq tL Z.list pI (hU (Nq (P0 (ij 0)) (pT ig) tK) hW)))))
def zX(F:xC K kF uaK (iV (top 28) 1) f fd):Binds K fd [fq] []:=F.binds (by walk_at "b")
def qX:FI (iV (top 29) 1) [fq] [fq]:=by walk_at "a"
def wc(F:xC K kF "AimRow.asked" (iV (top 29) 1) f fd):lP P w K mg cq uk (k+1) f fd [fq] (l9 K (vf 1 1 (v3 K))):=
 U5 F qX.hb qX.hc qX.sc λjd A cv s H E a=>by have b:=i6 a;exact(ie (il (mz (jH (hU (jg (jx b) (P0 (ij 0)) (U2 ig)) hW)))))
def vi(F:xC K kF "AimRow.asked" (iV (top 29) 1) f fd):Binds K fd [fq] []:=F.binds (by walk_at "b")
def nq:FI (iV (top 30) 0) [fq] [fq]:=by walk_at "a"
def yt(F:xC K la uaL (iV (top 30) 0) f fd):lP P w K mg cq uk (k+1) f fd [fq] (l9 K (cl (lN 1 1 yo))):=
 RU F nq.hb nq.hc nq.sc λjd A cv s H E a=>by have b:=i6 a;exact(ie (il rT))
def xy(F:xC K la uaL (iV (top 30) 0) f fd):Binds K fd [fq] []:=F.binds (by walk_at "b")
def oV:FI (iV (top 32) 1) [fq] [fq]:=by walk_at "a"
def AU(F:xC K kF uaM (iV (top 32) 1) f fd)(Z:Zs mg):lP P w K mg cq uk (k+1) f fd [fq] (l9 K (vf 1 1 (tN K))):=
 U5 F oV.hb oV.hc oV.sc λjd A cv s H E a=>by have b:=i6 a;exact(ie (il (mz (Kq tL Z.list pI (hU (jg (jx b) (P0 (ij 0)) ig) hW)))))
def zY(F:xC K kF uaM (iV (top 32) 1) f fd):Binds K fd [fq] []:=F.binds (by walk_at "b")
def qH:FI (top 33) [mr,eR] [mr,eR]:=by walk_at "a"
def IF(D:iw K mg uab (top 33))(Z:Zs mg)(b:i8 P w K mg cq k "fits" [mr,eR] v4):nz P w K mg cq (k+1) uab [mr,eR] (l9 K (cl (lN 2 2 (ux K v4)))):=
 kP D qH.hb qH.hc qH.sc (by walk_at "b") λf jd A cv s H E a=>by
 have e:=i6 a;exact(ia (iX (nC (pN (kU (jO (nh kJ Z.isinstance iC (hU (ij 1) (hU (xt Z.list pI) hW))))) (nM (kU (zo pQ pQ ig (nh jW Z.len jX (hU (ij 1) hW)) (pD Z.Ei)))))) (ie (il rT)) iI)
   (ie (il (nh HL Z.all IA (hU (jw (jP (N:=["one",mr]) (fr:=[ar,aa 0]) (jv.of (m9:=[mr,eR]) (jF:=qH.c) (by decide+kernel)) (jA (ij 1)) jc (λ_ _ _ _ _=>(ip 0 (show bN (["one",mr]:List aX) by decide+kernel))) (λ_ _ _ _ _=>jY) (λ_ _ _ _ _=>(i9 b a (hU (ij 1) (hU (ij 0) hW)))))) hW)))))
def Og:FI (top 34) [mr,eR] [mr,eR]:=by walk_at "a"
def V3(D:iw K mg "fits" (top 34))(Z:Zs mg)(e:i8 P w K mg cq k tF [eR] nD)(b:i8 P w K mg cq k ro [eR] j6)(c:i8 P w K mg cq k uab [mr,eR] mQ):nz P w K mg cq (k+1) "fits" [mr,eR] (l9 K (cl (lN 2 2 (D5 K nD j6 mQ)))):=
 kP D Og.hb Og.hc Og.sc (by walk_at "b") λf jd A cv s H E a=>by
 have g:=i6 a;exact(ia (iX (iG (kO a.units) (ij 0) iF) (ie (il (i9 e a (hU (ij 1) hW)))) iI)
   (ia (iX (iG (kO a.units) (ij 0) iF) (ie (il (By (i9 b a (hU (ij 1) hW)) (Gq (zn pQ pQ ig (ij 1) (pD Z.Oa)))))) iI)
   (ia (iX (iG (kO a.units) (ij 0) iF) (ie (il (By (i9 b a (hU (ij 1) hW)) (Gq (zn pQ pQ (pD Z.Ej) (ij 1) (pD Z.zT)))))) iI)
   (ia (iX (iG (kO a.units) (ij 0) iF) (ie (il (nh kJ Z.isinstance iC (hU (ij 1) (hU (xt Z.bool IB) hW))))) iI)
   (ia (iX (iG (kO a.units) (ij 0) iF) (ie (il (i9 c a (hU iF (hU (ij 1) hW))))) iI)
   (ie (il (i9 c a (hU iF (hU (ij 1) hW))))))))))
def wd:FI (top 35) [eR,"forms"] [eR]:=by walk_at "a"
def V4(D:iw K mg "is_row" (top 35))(Z:Zs mg)(e:mg "FORMS"=aa (.ref se))(g:AF K se zJ)(h:i8 P w K mg cq k "fits" [mr,eR] v4):nz P w K mg cq (k+1) "is_row" [eR] (l9 K (cl (lN 2 1 (D6 K se zJ v4)))):=
 kP D wd.hb wd.hc wd.sc (by walk_at "b") λf jd A cv s H E a=>by
 have b:=i6 a;exact(ia (iX (nC (pN (kU (jO (nh kJ Z.isinstance iC (hU (ij 0) (hU (xt Z.tuple qV) hW))))) (nM (iG (kO a.units) (nh jW Z.len jX (hU (ij 0) hW)) ig)))) (ie (il rT)) iI)
   (ia (iX (nC (pN (kU (jO (nh kJ Z.isinstance iC (hU (jg (jx b) (ij 0) ig) (hU (xt Z.str Ob) hW))))) (nM (iG (Ku g) (jg (jx b) (ij 0) ig) (mZ e))))) (ie (il rT)) iI)
   (ia (iH 1 wd.sc.nd (jg (ace g) (mZ e) (jg (jx b) (ij 0) ig)))
   (ia (iX (iG (vQ a.units) (nh jW Z.len jX (hU (ij 0) hW)) (i0 jt ig (nh jW Z.len jX (hU (ij 1) hW)))) (ie (il rT)) iI)
   (ie (il (nh HL Z.all IA (hU (jw (jP (N:=[mr,"one"]) (fr:=[ar,ar]) (jv.of (m9:=[eR,"forms"]) (jF:=wd.c) (by decide+kernel)) (U1 (hU (ij 1) (hU (Nq (ij 0) (pT ig) tK) hW)) Z.zip) (qC (j3 jc (j3 jc uo))) (λ_ _ _ _ _=>(kg (iy (ip 0 (show bN ([mr,"one"]:List aX) by decide+kernel)) (iy (ip 1 (show bN ([mr,"one"]:List aX) by decide+kernel)) jC)))) (λ_ _ _ _ _=>jY) (λ_ _ _ _ _=>(i9 h a (hU (ij 0) (hU (ij 1) hW)))))) hW))))))))
def uI:FI (top 36) [fk,"kind"] [fk]:=by walk_at "a"
def Oh(D:iw K mg vp (top 36))(c:mg "SetRow"=aa (.ref v5))(e:qg P w K mg cq k v5 zK)(g:mg "AlikeRow"=aa (.ref qR))(h:qg P w K mg cq k qR uy)(i:mg "LastRow"=aa (.ref tO))(j:qg P w K mg cq k tO xh)(m:mg "LeaveRow"=aa (.ref qS))(n:qg P w K mg cq k qS uz)(o:mg "AimRow"=aa (.ref v6))(p:qg P w K mg cq k v6 zL)(q:mg "BoxRow"=aa (.ref v7))(r:qg P w K mg cq k v7 zM):nz P w K mg cq ((k+1)+1) vp [fk] (l9 K (cl (lN 2 1 (D7 v5 zK qR uy tO xh qS uz v6 zL v7 zM)))):=
 kP D uI.hb uI.hc uI.sc (by walk_at "b") λf jd A cv s H E a=>by
 have b:=i6 a;exact(ia (iH 1 uI.sc.nd (jg (jx b) (ij 0) ig))
   (ia (iX (iG (kO a.units) (ij 1) iF) (ie (il (qB e a c (hU (ij 0) hW)))) iI)
   (ia (iX (iG (kO a.units) (ij 1) iF) (ie (il (qB h a g (hU (ij 0) hW)))) iI)
   (ia (iX (iG (zx b) (ij 1) (iU (hU iF (hU iF hW)))) (ie (il (qB j a i (hU (ij 0) hW)))) iI)
   (ia (iX (iG (zx b) (ij 1) (iU (hU iF (hU iF hW)))) (ie (il (qB n a m (hU (ij 0) hW)))) iI)
   (ia (iX (iG (zx b) (ij 1) (iU (hU iF (hU iF (hU iF hW))))) (ie (il (qB p a o (hU (ij 0) hW)))) iI)
   (ie (il (qB r a q (hU (ij 0) hW))))))))))
def wg:FI (top 37) [eR,fk] [eR]:=by walk_at "a"
def Wb(D:iw K mg "row_of" (top 37))(Z:Zs mg)(e:i8 P w K mg cq (k+1) "is_row" [eR] zN)(g:mg sm=aa (.ref jr))(h:qg P w K mg cq k jr xi)(i:mg uac=aa (.ref kK))(j:qg P w K mg cq k kK qE)(m:mg "TableRow"=aa (.ref lW))(n:qg P w K mg cq k lW uA)(o:i8 P w K mg cq (k+1) vp [fk] uB):nz P w K mg cq ((k+1)+1) "row_of" [eR] (l9 K (vf 2 1 (K0 K zN jr xi kK qE lW uA uB))):=
 vh D wg.hb wg.hc wg.sc (by walk_at "b") λf jd A cv s H E a=>by
 have b:=i6 a;exact(ia (iX (kU (jO (i9 e a (hU (ij 0) hW)))) (ie (il De)) iI)
   (ia (iH 1 wg.sc.nd (j_t Dw Z.tuple qV (hU (jw (jP (N:=["one"]) (fr:=[ar]) (jv.of (m9:=[eR,fk]) (jF:=wg.c) (by decide+kernel)) (jA (ij 0)) jc (λ_ _ _ _ _=>(ip 0 (show bN (["one"]:List aX) by decide+kernel))) (λ_ _ _ _ _=>jY) (λ_ _ _ _ _=>(aeh (jO (nh kJ Z.isinstance iC (hU (ij 0) (hU (xt Z.list pI) hW)))) (j_t Dw Z.tuple qV (hU (ij 0) hW)) (ij 0))))) hW)))
   (ia (iX (iG (kO a.units) (jg (jx b) (ij 1) ig) iF) (ie (il (qB h a g (hU (ij 1) hW)))) iI)
   (ia (iX (iG (kO a.units) (jg (jx b) (ij 1) ig) iF) (ie (il (qB j a i (hU (ij 1) hW)))) iI)
   (ia (iX (iG (kO a.units) (jg (jx b) (ij 1) ig) iF) (ie (il (qB n a m (hU (ij 1) hW)))) iI)
   (ie (il (i9 o a (hU (ij 1) hW)))))))))
def oX:FI (top 43) [eR] [eR]:=by walk_at "a"
def AW(D:iw K mg vr (top 43))(Z:Zs mg):nz P w K mg cq (k+1) vr [eR] (l9 K (cl (lN 1 1 (tQ K)))):=
 kP D oX.hb oX.hc oX.sc (by walk_at "b") λf jd A cv s H E a=>by have b:=i6 a;exact(ie (il (By (nh kJ Z.isinstance iC (hU (ij 0) (hU (xt Z.tuple qV) hW))) (By (u9 Kf (nh jW Z.len jX (hU (ij 0) hW)) ig) (By (nh kJ Z.isinstance iC (hU (jg (jx b) (ij 0) ig) (hU (xt Z.str Ob) hW))) (Gq (u9 (kO a.units) (jg (jx b) (ij 0) ig) iF)))))))
def pJ:FI (top 44) [mu] [mu]:=by walk_at "a"
def FF(D:iw K mg vu (top 44))(Z:Zs mg)(b:i8 P w K mg cq k vr [eR] mR):nz P w K mg cq (k+1) vu [mu] (l9 K (cl (lN 1 1 (xI mR)))):=
 kP D pJ.hb pJ.hc pJ.sc (by walk_at "b") λf jd A cv s H E a=>by have e:=i6 a;exact(ie (il (nh jW Z.len jX (hU (jw (jP (N:=[eR]) (fr:=[ar]) (jv.of (m9:=[mu]) (jF:=pJ.c) (by decide+kernel)) (jA (ij 0)) jc (λ_ _ _ _ _=>(ip 0 (show bN ([eR]:List aX) by decide+kernel))) (λ_ _ _ _ _=>(Cu (jO (i9 b a (hU (ij 0) hW))))) (λ_ _ _ _ _=>(ij 0)))) hW))))
def qY:FI (top 45) [mu] [mu]:=by walk_at "a"
def El(D:iw K mg vv (top 45))(Z:Zs mg)(b:i8 P w K mg cq k vu [mu] kQ):nz P w K mg cq (k+1) vv [mu] (l9 K (cl (lN 1 1 (v8 kQ)))):=
 kP D qY.hb qY.hc qY.sc (by walk_at "b") λf jd A cv s H E a=>by have c:=i6 a;exact(ie (il (i0 vN (nh jW Z.len jX (hU (ij 0) hW)) (i9 b a (hU (ij 0) hW)))))
def AY:FI (top 46) [eR] [eR]:=by walk_at "a"
def SR(D:iw K mg "is_part" (top 46))(Z:Zs mg)(c:i8 P w K mg cq k tF [eR] nD)(e:i8 P w K mg cq k vv [mu] ki):nz P w K mg cq (k+1) "is_part" [eR] (l9 K (cl (lN 1 1 (GQ K nD ki)))):=
 kP D AY.hb AY.hc AY.sc (by walk_at "b") λf jd A cv s H E a=>by
 have b:=i6 a;exact(ia (iX (nC (pN (kU (jO (nh kJ Z.isinstance iC (hU (ij 0) (hU (xt Z.tuple qV) hW))))) (nM (iG (vQ a.units) (nh jW Z.len jX (hU (ij 0) hW)) ig)))) (ie (il rT)) iI)
   (ia (iX (nC (pN (kU (jO (i9 c a (hU (jg (jx b) (ij 0) ig) hW)))) (nM (kU (jO (nh kJ Z.isinstance iC (hU (jg (jx b) (ij 0) ig) (hU (xt Z.list pI) hW)))))))) (ie (il rT)) iI)
   (ie (il (zn pQ pQ ig (i9 e a (hU (jg (jx b) (ij 0) ig) hW)) (pD Z.xx))))))
def mD:FI (top 47) [eR] [eR]:=by walk_at "a"
def Lf(D:iw K mg uad (top 47))(Z:Zs mg)(h:i8 P w K mg cq k "is_part" [eR] xk)(i:i8 P w K mg cq k vv [mu] ki)(j:i8 P w K mg cq k vu [mu] kQ):nz P w K mg cq (k+1) uad [eR] (l9 K (cl (lN 1 1 (BM K xk ki kQ)))):=
 kP D mD.hb mD.hc mD.sc (by walk_at "b") λf jd A cv s H E a=>by
 have b:=i6 a;exact(ia (iX (nC (pN (kU (jO (nh kJ Z.isinstance iC (hU (ij 0) (hU (xt Z.list pI) hW))))) (nM (kU (zo pQ pQ ig (nh jW Z.len jX (hU (ij 0) hW)) (pD Z.Iy)))))) (ie (il rT)) iI)
   (ia (iX (kU (jO (nh HL Z.all IA (hU (jw (jP (N:=[iv]) (fr:=[ar]) (jv.of (m9:=[eR]) (jF:=mD.c) (by decide+kernel)) (jA (ij 0)) jc (λ_ _ _ _ _=>(ip 0 (show bN ([iv]:List aX) by decide+kernel))) (λ_ _ _ _ _=>jY) (λ_ _ _ _ _=>(i9 h a (hU (ij 0) hW))))) hW)))) (ie (il rT)) iI)
   (ia (iX (iG (vQ a.units) (Vf a.hd Z.len Z.set (jw (jP (N:=[iv]) (fr:=[ar]) (jv.of (m9:=[eR]) (jF:=mD.c) (by decide+kernel)) (jA (ij 0)) jc (λ_ _ _ _ _=>(ip 0 (show bN ([iv]:List aX) by decide+kernel))) (λ_ _ _ _ _=>jY) (λ_ _ _ _ _=>(jg (jx b) (ij 0) ig))))) (nh jW Z.len jX (hU (ij 0) hW))) (ie (il rT)) iI)
   (ia (iX (iG Kf (nh Ig Z.sum ID (hU (jw (jP (N:=[iv]) (fr:=[ar]) (jv.of (m9:=[eR]) (jF:=mD.c) (by decide+kernel)) (jA (ij 0)) jc (λ_ _ _ _ _=>(ip 0 (show bN ([iv]:List aX) by decide+kernel))) (λ_ _ _ _ _=>jY) (λ_ _ _ _ _=>(i9 i a (hU (jg (jx b) (ij 0) ig) hW))))) hW)) (pD Z.Lb)) (ie (il rT)) iI)
   (ie (il (u9 pQ (nh Ig Z.sum ID (hU (jw (jP (N:=[iv]) (fr:=[ar]) (jv.of (m9:=[eR]) (jF:=mD.c) (by decide+kernel)) (jA (ij 0)) jc (λ_ _ _ _ _=>(ip 0 (show bN ([iv]:List aX) by decide+kernel))) (λ_ _ _ _ _=>jY) (λ_ _ _ _ _=>(i9 j a (hU (jg (jx b) (ij 0) ig) hW))))) hW)) (pD Z.Iz))))))))
def oY:FI (top 48) [mv,mu,gr,py,eR,pe] [mv,mu]:=by walk_at "a"
def SU(D:iw K mg "rows_of" (top 48))(Z:Zs mg)(b:i8 P w K mg cq k "row_of" [eR] zS):nz P w K mg cq (k+1) "rows_of" [mv,mu] (l9 K (cl (lN 6 2 (GR zS)))):=
 kP D oY.hb oY.hc oY.sc (by walk_at "b") λf jd A cv s H E a=>by
 have c:=i6 a;exact(ia (iH 2 oY.sc.nd (mz (jH hW)))
   (ia (kW (Cy (hU (ij 1) hW) Z.enumerate) (kg (iy (ip 3 oY.sc.nd) (iy (ip 4 oY.sc.nd) jC))) (ia (iH 5 oY.sc.nd (i9 b a (hU (ij 4) hW)))
   (ia (iX (iG UQ (ij 5) De) (ie qO) iI)
   (ie (kb (sO jT af bb aF (ij 2) (hU (ij 5) hW)))))))
   (ie (il (ij 2)))))
def mq:FI (top 49) [gr,pe] [gr]:=by walk_at "a"
def z6(D:iw K mg vx (top 49))(Z:Zs mg)(a:mg sm=aa (.ref jr)):nz P w K mg cq (k+1) vx [gr] (l9 K (cl (lN 2 1 (nV K jr)))):=
 kP D mq.hb mq.hc mq.sc (by walk_at "b") λf jd A cv s H E b=>by
 have c:=i6 b;exact(ia (kW (jA (ij 0)) (ip 1 mq.sc.nd) (ie (iX (kU (jO (nh kJ Z.isinstance iC (hU (ij 1) (hU (mZ a) hW))))) (ie (il (ij 1))) iI)))
   (ie (il De)))
def j7:FI (top 50) [mv,gr,py,pe,"behind"] [mv,gr]:=by walk_at "a"
def yv(D:iw K mg uae (top 50))(Z:Zs mg)(b:i8 P w K mg cq k vx [gr] mn)(c:∀C g,xl C la g->sM P w K mg cq k C la g)(e:mg "CodeRow"=aa (.ref nE))(h:mg sm=aa (.ref jr)):nz P w K mg cq (k+1) uae [mv,gr] (l9 K (cl (lN 5 2 (nj K mn xl nE jr)))):=
 kP D j7.hb j7.hc j7.sc (by walk_at "b") λf jd A cv s H E a=>by
 have i:=i6 a;exact(ie (kW (Cy (hU (ij 1) hW) Z.enumerate) (kg (iy (ip 2 j7.sc.nd) (iy (ip 3 j7.sc.nd) jC))) (ia (iH 4 j7.sc.nd (i9 b a (hU (Nq (ij 1) (pT (i0 jt (ij 2) ig)) tK) hW)))
   (ia (iX (nC (xU (jO (CC c a (ij 3))) (xa (kU (jO (nh kJ Z.isinstance iC (hU (ij 4) (hU (mZ e) hW)))))))) (ie qO) iI)
   (ie (iX (nC (xU (jO (nh kJ Z.isinstance iC (hU (ij 3) (hU (mZ h) hW)))) (xa (iG UQ (ij 4) De)))) (ie qO) iI))))))
def mE:FI (top 51) [hB,fk,mv,gr] [hB]:=by walk_at "a"
def Lg(D:iw K mg uaf (top 51))(e:i8 P w K mg cq k uad [eR] sf)(g:i8 P w K mg cq k "rows_of" [mv,mu] xm)(h:i8 P w K mg cq k uae [mv,gr] lY):nz P w K mg cq (k+1) uaf [hB] (l9 K (cl (lN 4 1 (BN sf xm lY)))):=
 kP D mE.hb mE.hc mE.sc (by walk_at "b") λf jd A cv s H E a=>by
 have b:=i6 a;exact(ia (iX (kU (jO (i9 e a (hU (ij 0) hW)))) (ie qO) iI)
   (ia (zt 1 mE.sc.nd (N:=[iv]) (fr:=[ar]) (jv.of (m9:=[hB,fk,mv,gr]) (jF:=mE.c) (by decide+kernel)) (jA (ij 0)) jc (λ_ _ _ _ _=>(ip 0 (show bN ([iv]:List aX) by decide+kernel))) (λ_ _ _ _ _=>jY) (λ_ _ _ _ _=>(iU (hU (jg (jx b) (ij 0) ig) (hU (i9 g a (hU (jg (jx b) (ij 0) ig) (hU (jg (jx b) (ij 0) ig) hW))) hW)))))
   (ia (kW (jA (ij 1)) (kg (iy (ip 2 mE.sc.nd) (iy (ip 3 mE.sc.nd) jC))) (ie (kb (i9 h a (hU (ij 2) (hU (ij 3) hW))))))
   (ie (il (ij 1))))))
def A0:FI (top 53) [hB] [hB]:=by walk_at "a"
def SW(D:iw K mg ic (top 53))(b:DQ K mg cq)(Z:Zs mg):nz P w K mg cq ((k+4)+1) ic [hB] (l9 K (cl (lN 1 1 GU))):=
 aeI D b A0.hb A0.hc A0.sc (by walk_at "b") λf jd A cv s H E c a=>by have e:=i6 a;exact(ie (il (jw (Vn (k:=k) (agP c) a Z.sorted (ij 0) ⟨rfl,rfl,rfl,by decide+kernel,rfl,by decide+kernel,by decide+kernel⟩))))
def jJ:FI (top 54) [iv,gr,oB,py,pe,mv,"strong"] [iv,gr]:=by walk_at "a"
def Ce(D:iw K mg uag (top 54))(Z:Zs mg)(e:mg sm=aa (.ref jr))(h:∀C g,m4 C lw g->sM P w K mg cq k C lw g):nz P w K mg cq (k+1) uag [iv,gr] (l9 K (cl (lN 7 2 (qh K jr m4)))):=
 kP D jJ.hb jJ.hc jJ.sc (by walk_at "b") λf jd A cv s H E c=>by
 have i:=i6 c;exact(ia (iH 2 jJ.sc.nd (mz (jH hW)))
   (ia (iH 3 jJ.sc.nd ig)
   (ia (kW (jA (ij 1)) (ip 4 jJ.sc.nd) (ie (iX (jO (nh kJ Z.isinstance iC (hU (ij 4) (hU (mZ e) hW)))) (ia (Hz (Nq (CC h c (ij 4)) (pT ig) tK) (kg (iy (ip 5 jJ.sc.nd) (iy (ip 6 jJ.sc.nd) jC))))
   (ie (kb (sO jT af bb aF (ij 2) (hU (iU (hU (ij 5) (hU (ij 6) (hU (iU (hU (ij 0) (hU (ij 3) hW))) hW)))) hW))))) (ie (YD (f:=λa b=>a+b) 3 jJ.sc.nd ig ach)))))
   (ie (il (ij 2))))))
def oZ:FI (top 55) [fk,oB,iv,gr] [fk]:=by walk_at "a"
def Ot(D:iw K mg "marks_in" (top 55))(b:i8 P w K mg cq k ic [hB] nF)(c:i8 P w K mg cq k uag [iv,gr] m5):nz P w K mg cq (k+1) "marks_in" [fk] (l9 K (cl (lN 4 1 (Ee nF m5)))):=
 kP D oZ.hb oZ.hc oZ.sc (by walk_at "b") λf jd A cv s H E a=>by
 have e:=i6 a;exact(ia (iH 1 oZ.sc.nd (mz (jH hW)))
   (ia (kW (jA (i9 b a (hU (ij 0) hW))) (kg (iy (ip 2 oZ.sc.nd) (iy (ip 3 oZ.sc.nd) jC))) (ie (kb (sO RV af PySem.F.slot_list_extend PySem.F.type_list_extend (ij 1) (hU (i9 c a (hU (ij 2) (hU (ij 3) hW))) hW)))))
   (ie (il (ij 1)))))
def kX:FI (top 56) [oB,hB,mv,"strong",sC] [oB]:=by walk_at "a"
def En(D:iw K mg vE (top 56)):nz P w K mg cq (k+1) vE [oB] (l9 K (vf 5 1 v9)):=
 vh D kX.hb kX.hc kX.sc (by walk_at "b") λf jd A cv s H E a=>by
 have b:=i6 a;exact(ia (iH 1 kX.sc.nd (mz zp))
   (ia (kW (jA (ij 0)) (kg (iy (ip 2 kX.sc.nd) (iy (ip 3 kX.sc.nd) (iy (ip 4 kX.sc.nd) jC)))) (ie (iX (jO (ij 3)) (ie (kb (sO jT af bb aF (sO R9 PySem.F.plainAttrs_dict PySem.F.slot_dict_setdefault PySem.F.type_dict_setdefault (ij 1) (hU (ij 2) (hU (mz (jH hW)) hW))) (hU (jg (jx b) (ij 4) ig) hW)))) iI)))
   (ie (il (ij 1)))))
def lK:FI (top 57) [oB,hB,mv] [oB]:=by walk_at "a"
def A2(D:iw K mg uah (top 57))(Z:Zs mg)(b:i8 P w K mg cq k vE [oB] nW):nz P w K mg cq (k+1) uah [oB] (l9 K (cl (lN 3 1 (tR nW)))):=
 kP D lK.hb lK.hc lK.sc (by walk_at "b") λf jd A cv s H E a=>by
 have c:=i6 a;exact(ia (iH 1 lK.sc.nd (i9 b a (hU (ij 0) hW)))
   (ie (kW (jA (jw (aey (Nz a.hd) Z.sorted GV (hU (ij 1) hW)))) (ip 2 lK.sc.nd) (ie (iX (iG Kf (nh jW Z.len jX (hU (jg (jx c) (ij 1) (ij 2)) hW)) ig) (ie qO) iI)))))
def lU:FI (top 58) [fk,oB,pj,mv,"strong",sC] [fk]:=by walk_at "a"
def Li(D:iw K mg uai (top 58))(c:i8 P w K mg cq k "marks_in" [fk] uD)(e:i8 P w K mg cq k uah [oB] mS):nz P w K mg cq (k+1) uai [fk] (l9 K (cl (lN 6 1 (BO uD mS)))):=
 kP D lU.hb lU.hc lU.sc (by walk_at "b") λf jd A cv s H E a=>by
 have b:=i6 a;exact(ia (iH 1 lU.sc.nd (i9 c a (hU (ij 0) hW)))
   (ia (kb (i9 e a (hU (ij 1) hW)))
   (ia (iH 2 lU.sc.nd (mz zp))
   (ia (kW (jA (ij 1)) (kg (iy (ip 3 lU.sc.nd) (iy (ip 4 lU.sc.nd) (iy (ip 5 lU.sc.nd) jC)))) (ie (iX (nC (pN (jO (ij 4)) (nM (iG (vR b) (ij 3) (ij 2))))) (ie (HU b (ij 2) (ij 3) (ij 5))) iI)))
   (ie (il (ij 2)))))))
def m8:FI (top 59) [gr] [gr]:=by walk_at "a"
def Cg(D:iw K mg vG (top 59))(Z:Zs mg)(a:mg sm=aa (.ref jr)):nz P w K mg cq (k+1) vG [gr] (l9 K (cl (lN 1 1 (qi K jr)))):=
 kP D m8.hb m8.hc m8.sc (by walk_at "b") λf jd A cv s H E b=>by have e:=i6 b;exact(ie (il (jw (jP (N:=[pe]) (fr:=[ar]) (jv.of (m9:=[gr]) (jF:=m8.c) (by decide+kernel)) (jA (ij 0)) jc (λ_ _ _ _ _=>(ip 0 (show bN ([pe]:List aX) by decide+kernel))) (λ_ _ _ _ _=>(Cu (kU (jO (nh kJ Z.isinstance iC (hU (ij 0) (hU (mZ a) hW))))))) (λ_ _ _ _ _=>(ij 0))))))
def sy:FI (top 60) [fk] [fk]:=by walk_at "a"
def Lj(D:iw K mg uaj (top 60))(Z:Zs mg)(b:i8 P w K mg cq k ic [hB] nF)(e:i8 P w K mg cq k vG [gr] m6):nz P w K mg cq (k+1) uaj [fk] (l9 K (cl (lN 1 1 (BP nF m6)))):=
 kP D sy.hb sy.hc sy.sc (by walk_at "b") λf jd A cv s H E a=>by have g:=i6 a;exact(ie (il (jw (Kq (KD a.hd) Z.dict IC (hU (jw (jP (N:=[iv,gr]) (fr:=[ar,ar]) (jv.of (m9:=[fk]) (jF:=sy.c) (by decide+kernel)) (jA (i9 b a (hU (ij 0) hW))) (qC (j3 jc (j3 jc uo))) (λ_ _ _ _ _=>(kg (iy (ip 0 (show bN ([iv,gr]:List aX) by decide+kernel)) (iy (ip 1 (show bN ([iv,gr]:List aX) by decide+kernel)) jC)))) (λ_ _ _ _ _=>jY) (λ_ _ _ _ _=>(iU (hU (ij 0) (hU (i9 e a (hU (ij 1) hW)) hW)))))) hW)))))
def yx:FI (top 61) ["lists",sC] ["lists",sC]:=by walk_at "a"
def Ov(D:iw K mg wh (top 61)):nz P w K mg cq (k+1) wh ["lists",sC] (l9 K (cl (lN 2 2 Ef))):=
 kP D yx.hb yx.hc yx.sc (by walk_at "b") λf jd A cv s H E b=>by have a:=i6 b;exact(ie (il (jg (jx a) (jg (jx a) (ij 0) (jg (jx a) (ij 1) ig)) (jg (jx a) (ij 1) ig))))
def qI:FI (top 62) [pe,"aim","kind"] [pe,"aim"]:=by walk_at "a"
def IH(D:iw K mg uak (top 62))(Z:Zs mg)(b:∀C g,m4 C lw g->sM P w K mg cq k C lw g)(c:mg uac=aa (.ref kK))(e:mg "TableRow"=aa (.ref lW))(h:mg "CodeRow"=aa (.ref nE)):nz P w K mg cq (k+1) uak [pe,"aim"] (l9 K (cl (lN 3 2 (uE K m4 kK lW nE)))):=
 kP D qI.hb qI.hc qI.sc (by walk_at "b") λf jd A cv s H E a=>by
 have i:=i6 a;exact(ia (iH 2 qI.sc.nd (jg (jx i) (CC b a (ij 0)) ig))
   (ia (iX (iG (kO a.units) (ij 2) iF) (ie (il rT)) iI)
   (ia (iX (iG (kO a.units) (ij 2) iF) (ie (il (nh kJ Z.isinstance iC (hU (ij 1) (hU (mZ c) hW))))) iI)
   (ia (iX (iG (kO a.units) (ij 2) iF) (ie (il (nh kJ Z.isinstance iC (hU (ij 1) (hU (mZ e) hW))))) iI)
   (ie (il (nh kJ Z.isinstance iC (hU (ij 1) (hU (mZ h) hW)))))))))
def lL:FI (top 63) [iv,nb,pj,py,pe,mv] [iv,nb,pj]:=by walk_at "a"
def Ep(D:iw K mg ual (top 63))(Z:Zs mg)(c:∀C g,uC C kF g->sM P w K mg cq k C kF g)(e:i8 P w K mg cq k uak [pe,"aim"] qG)(h:i8 P w K mg cq k wh ["lists",sC] uF):nz P w K mg cq (k+1) ual [iv,nb,pj] (l9 K (cl (lN 6 3 (wa uC qG uF)))):=
 kP D lL.hb lL.hc lL.sc (by walk_at "b") λf jd A cv s H E a=>by
 have b:=i6 a;exact(ie (kW (Cy (hU (jg (jx b) (ij 1) (ij 0)) hW) Z.enumerate) (kg (iy (ip 3 lL.sc.nd) (iy (ip 4 lL.sc.nd) jC))) (ie (kW (jA (CC c a (ij 4))) (ip 5 lL.sc.nd) (ia (iX (iG (vR b) (ij 5) (ij 2)) (ie qO) iI)
   (ie (iX (kU (jO (i9 e a (hU (ij 4) (hU (i9 h a (hU (ij 1) (hU (jg (jx b) (ij 2) (ij 5)) hW))) hW))))) (ie qO) iI)))))))
def pY:FI (top 64) [hB,fk,pj,nb,iv,gr] [hB]:=by walk_at "a"
def Wf(D:iw K mg wk (top 64))(b:i8 P w K mg cq k uaf [hB] sg)(c:i8 P w K mg cq k uai [fk] si)(e:i8 P w K mg cq k uaj [fk] sj)(g:i8 P w K mg cq k ual [iv,nb,pj] nX):nz P w K mg cq (k+1) wk [hB] (l9 K (cl (lN 6 1 (La sg si sj nX)))):=
 kP D pY.hb pY.hc pY.sc (by walk_at "b") λf jd A cv s H E a=>by
 have h:=i6 a;exact(ia (iH 1 pY.sc.nd (i9 b a (hU (ij 0) hW)))
   (ia (iH 2 pY.sc.nd (i9 c a (hU (ij 1) hW)))
   (ia (iH 3 pY.sc.nd (i9 e a (hU (ij 1) hW)))
   (ia (kW (jA (ij 1)) (kg (iy (ip 4 pY.sc.nd) (iy (ip 5 pY.sc.nd) jC))) (ie (kb (i9 g a (hU (ij 4) (hU (ij 3) (hU (ij 2) hW)))))))
   (ie (il (iU (hU (ij 3) (hU (ij 2) hW)))))))))
def pb:FI (top 69) [hY] [hY]:=by walk_at "a"
def pc (j6:GN)(ku:aw):XB:=(xIf (Ft (oA (iu (i5 j6 (hV (hX 0) ib)))) (oA (iu (nN x4 x4 (dC (.int 1)) (hX 0) (dC (.int 64)))))) (Ip ku (hV (dC (.str "the border is none from 1 to 64")) ib)) (λ_=>iP))
def A4(D:iw K mg wr (top 69))(Z:Zs mg)(b:i8 P w K mg cq k ro [eR] j6)(c:mg "BadBase"=aa (.ref ku))(e:Sy K ku):vq P w K mg cq (k+1) wr [hY] (Io K (Cb 1 1 (pc j6 ku))):=
 Qx D pb.hb pb.hc pb.sc (by walk_at "b") λf jd A cv s H E a=>by have g:=i6 a;exact(qD (N0 (nC (pN (kU (jO (i9 b a (hU (ij 0) hW)))) (nM (kU (zo pQ pQ ig (ij 0) (pD Z.zU)))))) (qD (DW e c (hU iF hW))) (Dk.Ss iI)))
def q8:FI (top 70) [hY,ng] [hY,ng]:=by walk_at "a"
def re (jM:MH)(j6:GN)(ku:aw):XB:=(Su (GL (dCX jM (λ_=>(hV (hX 0) ib))))
 (xIf (Ft (oA (iu (i5 j6 (hV (hX 1) ib)))) (Ft (iu (iA Xo (hX 1) (dC (.int 0)))) (iu (iA Fx (iA pV (hX 1) (hX 0)) (dC (.int 0)))))) (Ip ku (hV (dC (.str "the base is below 0 or no multiple of the border")) ib)) (λ_=>iP)))
def Es(D:iw K mg uam (top 70))(b:zH P w K mg cq k wr [hY] jM)(c:i8 P w K mg cq k ro [eR] j6)(e:mg "BadBase"=aa (.ref ku))(g:Sy K ku):vq P w K mg cq (k+1) uam [hY,ng] (Io K (Cb 2 2 (re jM j6 ku))):=
 Qx D q8.hb q8.hc q8.sc (by walk_at "b") λf jd A cv s H E a=>by
 have h:=i6 a;exact(vX (vY (KY b a VI (JA.Ss (hU (ij 0) hW))))
   (qD (N0 (nC (pN (kU (jO (i9 c a (hU (ij 1) hW)))) (pN (iG PU (ij 1) ig) (nM (iG (vQ a.units) (i0 lD (ij 1) (ij 0)) ig))))) (qD (DW g e (hU iF hW))) (Dk.Ss iI))))
def mF:FI (top 77) [hB,hY,nb,pj] [hB,hY]:=by walk_at "a"
def wj (pW:GN)(jM:MH)(pG:GN):XB:=(Su (λ_=>(UM (i5 pW (hV (hX 0) ib)) (k7 2 (iO (iq 2) (iO (iq 3) lq)))))
 (Su (GL (dCX jM (λ_=>(hV (hX 1) ib))))
 (λ_=>(iN (i5 pG (hV (hX 2) (hV (hX 3) (hV (hX 1) ib))))))))
def Et(D:iw K mg uan (top 77))(b:i8 P w K mg cq k wk [hB] pW)(c:zH P w K mg cq k wr [hY] jM)(e:i8 P w K mg cq k "least_right" [nb,pj,hY] pG):vq P w K mg cq (k+1) uan [hB,hY] (Io K (Cb 4 2 (wj pW jM pG))):=
 Qx D mF.hb mF.hc mF.sc (by walk_at "b") λf jd A cv s H E a=>by
 have g:=i6 a;exact(vX (JS.Ss (Hz (i9 b a (hU (ij 0) hW)) (kg (iy (ip 2 mF.sc.nd) (iy (ip 3 mF.sc.nd) jC)))))
   (vX (vY (KY c a VI (JA.Ss (hU (ij 1) hW))))
   (qD (JS.Ss (il (i9 e a (hU (ij 2) (hU (ij 3) (hU (ij 1) hW)))))))))
def mG:FI (top 78) [nb,hY,ng,pr,fk,"end",iv] [nb,hY,ng,pr]:=by walk_at "a"
def BQ:DS:=(iz (jl 4 (pP Dj))
 (iz (jl 5 (hX 2))
 (iz (qv (VT (hX 0)) (iq 6) (iz (P9 (hX 4) (hX 6) (iA HK (iA AS (iA N9 (iA jn (hX 5) (hX 1)) (dC (.int 1))) (hX 1)) (hX 1)))
 (jl 5 (iA jn (iA jS (hX 4) (hX 6)) (i5 NG (hV (iA jS (hX 3) (hX 6)) ib))))))
 (iN (hX 4)))))
def Ln(D:iw K mg xw (top 78))(Z:Zs mg):nz P w K mg cq (k+1) xw [nb,hY,ng,pr] (l9 K (cl (lN 7 4 BQ))):=
 kP D mG.hb mG.hc mG.sc (by walk_at "b") λf jd A cv s H E b=>by
 have a:=i6 b;exact(ia (iH 4 mG.sc.nd (mz zp))
   (ia (iH 5 mG.sc.nd (ij 2))
   (ia (kW (Zj (ij 0)) (ip 6 mG.sc.nd) (ia (HU a (ij 4) (ij 6) (i0 AE (i0 mC (i0 vN (i0 jt (ij 5) (ij 1)) ig) (ij 1)) (ij 1)))
   (ie (iH 5 mG.sc.nd (i0 jt (jg (jx a) (ij 4) (ij 6)) (nh Ig Z.sum ID (hU (jg (jx a) (ij 3) (ij 6)) hW)))))))
   (ie (il (ij 4))))))
def wl:FI (top 79) [hB,hY,ng,pr,nb,pj] [hB,hY,ng,pr]:=by walk_at "a"
def Lo (pW:GN)(nY:MH)(sr:GN):XB:=(Su (λ_=>(UM (i5 pW (hV (hX 0) ib)) (k7 2 (iO (iq 4) (iO (iq 5) lq)))))
 (Su (GL (dCX nY (λ_=>(hV (hX 1) (hV (hX 2) ib)))))
 (λ_=>(iN (i5 sr (hV (hX 4) (hV (hX 1) (hV (hX 2) (hV (hX 3) ib)))))))))
def Wg(D:iw K mg xO (top 79))(b:i8 P w K mg cq k wk [hB] pW)(c:zH P w K mg cq k uam [hY,ng] nY)(e:i8 P w K mg cq k xw [nb,hY,ng,pr] sr):vq P w K mg cq (k+1) xO [hB,hY,ng,pr] (Io K (Cb 6 4 (Lo pW nY sr))):=
 Qx D wl.hb wl.hc wl.sc (by walk_at "b") λf jd A cv s H E a=>by
 have g:=i6 a;exact(vX (JS.Ss (Hz (i9 b a (hU (ij 0) hW)) (kg (iy (ip 4 wl.sc.nd) (iy (ip 5 wl.sc.nd) jC)))))
   (vX (vY (KY c a VI (JA.Ss (hU (ij 1) (hU (ij 2) hW)))))
   (qD (JS.Ss (il (i9 e a (hU (ij 4) (hU (ij 1) (hU (ij 2) (hU (ij 3) hW))))))))))
def sS:FI (top 81) [nP,iL] [nP,iL]:=by walk_at "a"
def xJ:DS:=(iz (js (iu (iA Xo (hX 1) (i5 lx (hV (hX 0) ib)))) (iN (iA jS (hX 0) (hX 1))) iP)
 (iN (dC (.int 0))))
def FH(D:iw K mg xP (top 81))(Z:Zs mg):nz P w K mg cq (k+1) xP [nP,iL] (l9 K (cl (lN 2 2 xJ))):=
 kP D sS.hb sS.hc sS.sc (by walk_at "b") λf jd A cv s H E a=>by
 have b:=i6 a;exact(ia (iX (iG PU (ij 1) (nh jW Z.len jX (hU (ij 0) hW))) (ie (il (jg (jx b) (ij 0) (ij 1)))) iI)
   (ie (il ig)))
def kj:FI (top 82) [nQ,qc,qe,"_law_rest","_law_number","_law_mixed",iL] [nQ,qc]:=by walk_at "a"
def drC:DS:=(iz (jl 4 (iA jn (iA pV (hX 0) (iA jn (iA Eg (dC (.int 10)) (dC (.int 40))) (dC (.int 121)))) (dC (.int 48271))))
 (iz (jl 5 (pP (mM ib)))
 (iz (qv (vP (hV (iA jn (hX 1) (dC (.int 4))) ib)) (iq 6) (iz (jl 4 (iA pV (iA jn (iA jn (iA (gI GO λi j=>.int (i*j)) (hX 4) (hX 4)) (iA (gI GO λi j=>.int (i*j)) (dC (.int 48271)) (hX 4))) (hX 6)) (iA jn (iA Eg (dC (.int 10)) (dC (.int 40))) (dC (.int 121)))))
 (lp (Ao cr jj (hX 5) (hV (hX 4) ib)))))
 (iN (pP (P5 (hX 2) (Xq (hX 5) (vS (iA jn (dC (.int 4)) (i5 lx (hV (hX 2) ib)))) qA)))))))
def drB:DS:=(iz (Ni (Ay (iu (iA Fx (hX 3) (dC (.int 0)))) (Ay (iu (iA Fx (hX 3) (RP (dC (.int 1))))) (iu (iA Xo (i5 lx (hV (hX 2) ib)) (hX 1))))) (iz (lp (Ao cr jj (hX 2) (hV (iA pV (hX 3) (iA Eg (dC (.int 10)) (dC (.int 12)))) ib)))
 (jl 3 (iA AS (hX 3) (iA Eg (dC (.int 10)) (dC (.int 12)))))))
 drC)
def wm:DS:=(iz (jl 2 (pP (mM ib)))
 (iz (jl 3 (iA AS (hX 0) (dC (.int 2))))
 (iz (js (iu (iA vy (iA pV (hX 0) (dC (.int 2))) (dC (.int 1)))) (jl 3 (dC (.int 0))) iP) drB)))
def Lq(D:iw K mg tP (top 82))(Z:Zs mg):nz P w K mg cq (k+1) tP [nQ,qc] (l9 K (vf 7 2 wm)):=
 vh D kj.hb kj.hc kj.sc (by walk_at "b") λf jd A cv s H E a=>by
 have b:=i6 a;exact(ia (iH 2 kj.sc.nd (mz (jH hW)))
   (ia (iH 3 kj.sc.nd (i0 mC (ij 0) ig))
   (ia (iX (iG (kO a.units) (i0 lD (ij 0) ig) ig) (ie (iH 3 kj.sc.nd ig)) iI)
   (ia (Kc (nC (xU (iG (vQ a.units) (ij 3) ig) (xU (iG (vQ a.units) (ij 3) (U2 ig)) (xa (iG PU (nh jW Z.len jX (hU (ij 2) hW)) (ij 1)))))) (ia (kb (sO jT af bb aF (ij 2) (hU (i0 lD (ij 3) (i0 sL ig ig)) hW)))
   (ie (iH 3 kj.sc.nd (i0 mC (ij 3) (i0 sL ig ig))))))
   (ia (iH 4 kj.sc.nd (i0 jt (i0 lD (ij 0) (i0 jt (i0 sL ig ig) ig)) ig))
   (ia (iH 5 kj.sc.nd (mz (jH hW)))
   (ia (kW (oH (hU (i0 jt (ij 1) ig) hW) Z.range) (ip 6 kj.sc.nd) (ia (iH 4 kj.sc.nd (i0 lD (i0 jt (i0 jt (i0 Qz (ij 4) (ij 4)) (i0 Qz ig (ij 4))) (ij 6)) (i0 jt (i0 sL ig ig) ig)))
   (ie (kb (sO jT af bb aF (ij 5) (hU (ij 4) hW))))))
   (ie (il (mz (YC (ij 2) (Nq (ij 5) (pT (i0 jt ig (nh jW Z.len jX (hU (ij 2) hW)))) tK))))))))))))
def yy:FI (top 83) [eH,me] [eH,me]:=by walk_at "a"
def Ew:DS:=(iz (js (iu (iA B7 (hX 0) (jV (mM ib)))) (iN (dC (.int 0))) iP)
 (iN (iA pV (Ao cr aaI (hX 0) (hV (dC (.int 0)) ib)) (hX 1))))
def Ox(D:iw K mg oD (top 83)):nz P w K mg cq (k+1) oD [eH,me] (l9 K (vf 2 2 Ew)):=
 vh D yy.hb yy.hc yy.sc (by walk_at "b") λf jd A cv s H E a=>by
 have b:=i6 a;exact(ia (iX (iG (HS b) (ij 0) (jw (jH hW))) (ie (il ig)) iI)
   (ie (il (i0 lD (sO acd af PySem.F.slot_list_pop PySem.F.type_list_pop (ij 0) (hU ig hW)) (ij 1)))))
def uK:FI (top 84) [iL,oW] [iL]:=by walk_at "a"
def yz:DS:=(iz (jl 1 (dC (.str uaP)))
 (iz (js (Ay (iu (iA vy (iA pV (hX 0) (dC (.int 5))) (dC (.int 4)))) (iu (iA Xo (hX 0) (dC (.int 40))))) (iN (iA jn (dC (.str "p")) (iA jS (hX 1) (iA AS (hX 0) (dC (.int 5)))))) iP)
 (iz (js (iu (iA vy (iA pV (hX 0) (dC (.int 5))) (dC (.int 3)))) (iN (iA jn (iA jn (dC (.str "nnnnn")) (iA jS (hX 1) (iA pV (iA AS (hX 0) (dC (.int 26))) (dC (.int 26))))) (iA jS (hX 1) (iA pV (hX 0) (dC (.int 26)))))) iP)
 (iN (iA jn (iA jn (dC (.str "n")) (iA jS (hX 1) (iA pV (iA AS (hX 0) (dC (.int 26))) (dC (.int 26))))) (iA jS (hX 1) (iA pV (hX 0) (dC (.int 26)))))))))
def Oy(D:iw K mg yu (top 84)):nz P w K mg cq (k+1) yu [iL] (l9 K (cl (lN 2 1 yz))):=
 kP D uK.hb uK.hc uK.sc (by walk_at "b") λf jd A cv s H E b=>by
 have a:=i6 b;exact(ia (iH 1 uK.sc.nd iF)
   (ia (iX (nC (xU (iG (kO b.units) (i0 lD (ij 0) ig) ig) (xa (iG PU (ij 0) ig)))) (ie (il (i0 jt iF (jg (jx a) (ij 1) (i0 mC (ij 0) ig))))) iI)
   (ia (iX (iG (kO b.units) (i0 lD (ij 0) ig) ig) (ie (il (i0 jt (i0 jt iF (jg (jx a) (ij 1) (i0 lD (i0 mC (ij 0) ig) ig))) (jg (jx a) (ij 1) (i0 lD (ij 0) ig))))) iI)
   (ie (il (i0 jt (i0 jt iF (jg (jx a) (ij 1) (i0 lD (i0 mC (ij 0) ig) ig))) (jg (jx a) (ij 1) (i0 lD (ij 0) ig))))))))
def uL:FI (top 85) [fv,nR,lj] [fv,nR]:=by walk_at "a"
def Ey:DS:=(iz (qv (kh (Xq (hX 0) (vS (hX 1)) qA)) (iq 2) (js (iu (iA Fx (iA jS (hX 2) (dC (.int 0))) (dC (.str mX)))) (iN (iA jS (jV (mM (hV (iA jS (hX 2) (dC (.int 0))) (hV (dC (.str "code")) ib)))) (i5 Ca (hV (iA (CB ag) (iA jS (hX 2) (dC (.int 0))) (ju (hV (dC (.str im)) (hV (dC (.str kv)) ib)))) ib)))) iP))
 (iN (dC (.str ""))))
def Oz(D:iw K mg yw (top 85))(Z:Zs mg):nz P w K mg cq (k+1) yw [fv,nR] (l9 K (vf 3 2 Ey)):=
 vh D uL.hb uL.hc uL.sc (by walk_at "b") λf jd A cv s H E b=>by
 have a:=i6 b;exact(ia (kW (jA (Nq (ij 0) (pT (ij 1)) tK)) (ip 2 uL.sc.nd) (ie (iX (iG (vQ b.units) (jg (jx a) (ij 2) ig) iF) (ie (il (jg (jx a) (jw (jH (hU (jg (jx a) (ij 2) ig) (hU iF hW)))) (j_t Ij Z.int Ek (hU (u9 (vR a) (jg (jx a) (ij 2) ig) (iU (hU iF (hU iF hW)))) hW))))) iI)))
   (ie (il iF)))
def j8:FI (top 86) [kf,hD,eH,qe,"_law_turn",sR,ky,uaN,"_law_strong",fv,nR] [kf,hD,eH]:=by walk_at "a"
def mB' (ik:GN)(oP:GN):DS:=(iz (UM (iA jS (hX 1) (i5 ik (hV (hX 2) (hV (i5 lx (hV (hX 1) ib)) ib)))) (k7 2 (iO (iq 5) (iO (iq 6) lq))))
 (iz (jl 7 (iA jS (jV (mM (hV (hX 6) (hV (dC (.str "code")) ib)))) (i5 Ca (hV (iA (CB ag) (hX 6) (ju (hV (dC (.str im)) (hV (dC (.str kv)) ib)))) ib))))
 (iz (jl 8 (i5 Zd (hV (jV (lc [ar,ar,aa 5] (kh (hX 3)) (k7 2 (iO (iq 0) (iO (iq 1) lq))) qy (iA NQ (ju (hV (dC (.str mX)) (hV (hX 2) (hV (dC (.bl ag)) ib)))) (hX 1)))) ib)))
 (iz (jl 9 (iA jS (iA jS (hX 3) (i5 ik (hV (hX 2) (hV (i5 lx (hV (hX 3) ib)) ib)))) (dC (.int 1))))
 (iz (jl 10 (i5 ik (hV (hX 2) (hV (i5 lx (hV (hX 9) ib)) ib))))
 (js (iu (iA vy (i5 oP (hV (hX 9) (hV (hX 10) ib))) (hX 7))) (lp (Ao cr vZ (hX 9) (hV (hX 10) (hV (ju (hV (dC (.str mX)) (hV (hX 5) (hV (vJ (Gp (hX 8)) (iA vy (i5 ik (hV (hX 2) (hV (dC (.int 2)) ib))) (dC (.int 1)))) ib)))) ib)))) iP))))))
def yA (ik:GN)(oP:GN):DS:=(iz (jl 3 (jV (lc [ar,ar] (kh (hX 0)) (k7 2 (iO (iq 0) (iO (iq 1) lq))) qy (ju (hV (hX 0) (hV (pP (TD yd (hV (hX 1) ib))) ib))))))
 (iz (qv (vP (hV (i5 ik (hV (hX 2) (hV (dC (.int 5)) ib))) ib)) (iq 4) (mB' ik oP))
 (iN (hX 3))))
def OA(D:iw K mg uao (top 86))(Z:Zs mg)(b:i8 P w K mg cq k oD [eH,me] ik)(g:i8 P w K mg cq k yw [fv,nR] oP):nz P w K mg cq (k+1) uao [kf,hD,eH] (l9 K (vf 11 3 (yA ik oP))):=
 vh D j8.hb j8.hc j8.sc (by walk_at "b") λf jd A cv s H E a=>by
 have e:=i6 a;exact(ia (zt 3 j8.sc.nd (N:=[fx,fv]) (fr:=[ar,ar]) (jv.of (m9:=[kf,hD,eH,qe,"_law_turn",sR,ky,uaN,"_law_strong",fv,nR]) (jF:=j8.c) (by decide+kernel)) (jA (ij 0)) (qC (j3 jc (j3 jc uo))) (λ_ _ _ _ _=>(kg (iy (ip 0 (show bN ([fx,fv]:List aX) by decide+kernel)) (iy (ip 1 (show bN ([fx,fv]:List aX) by decide+kernel)) jC)))) (λ_ _ _ _ _=>jY) (λ_ _ _ _ _=>(iU (hU (ij 0) (hU (mz (Kq tL Z.list pI (hU (ij 1) hW))) hW)))))
   (ia (kW (oH (hU (i9 b a (hU (ij 2) (hU ig hW))) hW) Z.range) (ip 4 j8.sc.nd) (ia (Hz (jg (jx e) (ij 1) (i9 b a (hU (ij 2) (hU (nh jW Z.len jX (hU (ij 1) hW)) hW)))) (kg (iy (ip 5 j8.sc.nd) (iy (ip 6 j8.sc.nd) jC))))
   (ia (iH 7 j8.sc.nd (jg (jx e) (jw (jH (hU (ij 6) (hU iF hW)))) (j_t Ij Z.int Ek (hU (u9 (vR e) (ij 6) (iU (hU iF (hU iF hW)))) hW))))
   (ia (iH 8 j8.sc.nd (nh acB Z.any acM (hU (jw (jP (N:=[fx,fv,sR]) (fr:=[ar,ar,aa 5]) (jv.of (m9:=[kf,hD,eH,qe,"_law_turn",sR,ky,uaN,"_law_strong",fv,nR]) (jF:=j8.c) (by decide+kernel)) (jA (ij 3)) (qC (j3 jc (j3 jc uo))) (λ_ _ _ _ _=>(kg (iy (ip 0 (show bN ([fx,fv,sR]:List aX) by decide+kernel)) (iy (ip 1 (show bN ([fx,fv,sR]:List aX) by decide+kernel)) jC)))) (λ_ _ _ _ _=>jY) (λ_ _ _ _ _=>(u9 (acr a.un1) (iU (hU iF (hU (ij 2) (hU rT hW)))) (ij 1))))) hW)))
   (ia (iH 9 j8.sc.nd (jg (jx e) (jg (jx e) (ij 3) (i9 b a (hU (ij 2) (hU (nh jW Z.len jX (hU (ij 3) hW)) hW)))) ig))
   (ia (iH 10 j8.sc.nd (i9 b a (hU (ij 2) (hU (nh jW Z.len jX (hU (ij 9) hW)) hW))))
   (ie (iX (iG (kO a.units) (i9 g a (hU (ij 9) (hU (ij 10) hW))) (ij 7)) (ie (kb (sO SD af PySem.F.slot_list_insert PySem.F.type_list_insert (ij 9) (hU (ij 10) (hU (iU (hU iF (hU (ij 5) (hU (By (UG (ij 8)) (Gq (u9 (kO a.units) (i9 b a (hU (ij 2) (hU ig hW))) ig))) hW)))) hW))))) iI))))))))
   (ie (il (ij 3)))))
def l5:FI (top 87) [eH,uap,"_law_b","_law_c",ky,"_law_plain"] [eH,uap]:=by walk_at "a"
def yB (ik:GN):DS:=(iz (jl 2 (i5 ik (hV (hX 0) (hV (dC (.int 4)) ib))))
 (iz (jl 3 (i5 ik (hV (hX 0) (hV (dC (.int 4)) ib))))
 (iz (jl 4 (i5 ik (hV (hX 0) (hV (dC (.int 16)) ib))))
 (iz (js (iu (hX 1)) (iN (iA jS (jV (mM (hV (ju (hV (dC (.str ph)) ib)) (hV (ju (hV (dC (.str ph)) ib)) (hV (ju (hV (dC (.str qZ)) ib)) (hV (ju (hV (dC (.str rl)) ib)) (hV (ju (hV (dC (.str pd)) (hV (hX 2) ib))) ib))))))) (iA pV (hX 4) (dC (.int 5))))) iP)
 (iz (jl 5 (jV (mM (hV (ju (hV (dC (.str gc)) (hV (hX 2) (hV (iA N9 (i5 ik (hV (hX 0) (hV (iA Eg (dC (.int 2)) (dC (.int 32))) ib))) (iA Eg (dC (.int 2)) (dC (.int 31)))) ib)))) (hV (ju (hV (dC (.str gc)) (hV (hX 2) (hV (iA N9 (iA jn (hX 4) (hX 3)) (dC (.int 9))) ib)))) (hV (ju (hV (dC (.str "add")) (hV (hX 2) (hV (hX 3) ib)))) (hV (ju (hV (dC (.str "take")) (hV (hX 2) (hV (hX 3) ib)))) ib)))))))
 (iz (jl 5 (iA jn (hX 5) (jV (mM (hV (ju (hV (dC (.str "say")) (hV (hX 2) ib))) (hV (ju (hV (dC (.str "say")) (hV (hX 2) ib))) (hV (ju (hV (dC (.str "ask")) (hV (hX 2) ib))) (hV (ju (hV (dC (.str qa)) (hV (hX 2) ib))) (hV (ju (hV (dC (.str qa)) (hV (hX 2) ib))) (hV (ju (hV (dC (.str ra)) ib)) (hV (ju (hV (dC (.str ph)) ib)) ib)))))))))))
 (iz (jl 5 (iA jn (hX 5) (jV (mM (hV (ju (hV (dC (.str qb)) (hV (hX 2) (hV (hX 3) ib)))) (hV (ju (hV (dC (.str pd)) (hV (hX 2) ib))) (hV (ju (hV (dC (.str pS)) (hV (hX 2) ib))) (hV (ju (hV (dC (.str rl)) ib)) (hV (ju (hV (dC (.str qZ)) ib)) ib)))))))))
 (iN (iA jS (hX 5) (hX 4))))))))))
def OC(D:iw K mg uaq (top 87))(b:i8 P w K mg cq k oD [eH,me] ik):nz P w K mg cq (k+1) uaq [eH,uap] (l9 K (vf 6 2 (yB ik))):=
 vh D l5.hb l5.hc l5.sc (by walk_at "b") λf jd A cv s H E a=>by
 have c:=i6 a;exact(ia (iH 2 l5.sc.nd (i9 b a (hU (ij 0) (hU ig hW))))
   (ia (iH 3 l5.sc.nd (i9 b a (hU (ij 0) (hU ig hW))))
   (ia (iH 4 l5.sc.nd (i9 b a (hU (ij 0) (hU ig hW))))
   (ia (iX (jO (ij 1)) (ie (il (jg (jx c) (jw (jH (hU (iU (hU iF hW)) (hU (iU (hU iF hW)) (hU (iU (hU iF hW)) (hU (iU (hU iF hW)) (hU (iU (hU iF (hU (ij 2) hW))) hW))))))) (i0 lD (ij 4) ig)))) iI)
   (ia (iH 5 l5.sc.nd (jw (jH (hU (iU (hU iF (hU (ij 2) (hU (i0 vN (i9 b a (hU (ij 0) (hU (i0 sL ig ig) hW))) (i0 sL ig ig)) hW)))) (hU (iU (hU iF (hU (ij 2) (hU (i0 vN (i0 jt (ij 4) (ij 3)) ig) hW)))) (hU (iU (hU iF (hU (ij 2) (hU (ij 3) hW)))) (hU (iU (hU iF (hU (ij 2) (hU (ij 3) hW)))) hW)))))))
   (ia (iH 5 l5.sc.nd (i0 jt (ij 5) (jw (jH (hU (iU (hU iF (hU (ij 2) hW))) (hU (iU (hU iF (hU (ij 2) hW))) (hU (iU (hU iF (hU (ij 2) hW))) (hU (iU (hU iF (hU (ij 2) hW))) (hU (iU (hU iF (hU (ij 2) hW))) (hU (iU (hU iF hW)) (hU (iU (hU iF hW)) hW)))))))))))
   (ia (iH 5 l5.sc.nd (i0 jt (ij 5) (jw (jH (hU (iU (hU iF (hU (ij 2) (hU (ij 3) hW)))) (hU (iU (hU iF (hU (ij 2) hW))) (hU (iU (hU iF (hU (ij 2) hW))) (hU (iU (hU iF hW)) (hU (iU (hU iF hW)) hW)))))))))
   (ie (il (jg (jx c) (ij 5) (ij 4)))))))))))
def lg:FI (top 88) [eH,fv,iL,ky,qc] [eH]:=by walk_at "a"
def blC (ik:GN):DS:=(iz (js (iu (iA vy (hX 3) (dC (.int 1)))) (iz (jl 4 (iA jn (dC (.int 1)) (i5 ik (hV (hX 0) (hV (dC (.int 3)) ib)))))
 (lp (Ao cr jj (hX 1) (hV (ju (hV (dC (.str im)) (hV (jV (lc [ar,aa 0] (vP (hV (hX 4) ib)) (iq 0) qy (iA N9 (i5 ik (hV (hX 1) (hV (iA Eg (dC (.int 2)) (dC (.int 32))) ib))) (iA Eg (dC (.int 2)) (dC (.int 31)))))) ib))) ib)))) iP)
 (iz (js (iu (iA vy (hX 3) (dC (.int 2)))) (lp (Ao cr jj (hX 1) (hV (ju (hV (dC (.str im)) (hV (jV (lc [ar] (vP (hV (iA jn (dC (.int 1)) (i5 ik (hV (hX 0) (hV (dC (.int 60)) ib)))) ib)) (iq 0) qy (iA N9 (iA HK (dC (.int 7)) (hX 0)) (dC (.int 3))))) ib))) ib))) iP)
 (iz (js (iu (iA vy (hX 3) (dC (.int 3)))) (lp (Ao cr jj (hX 1) (hV (ju (hV (dC (.str kv)) (hV (iA jn (dC (.int 1)) (i5 ik (hV (hX 0) (hV (dC (.int 3)) ib)))) ib))) ib))) iP)
 (iN (KP 1)))))
def wn (ik:GN)(qU:GN):DS:=(iz (jl 1 (pP (mM ib)))
 (iz (qv (vP (hV (i5 ik (hV (hX 0) (hV (dC (.int 6)) ib))) ib)) (iq 2) (lp (Ao cr jj (hX 1) (hV (i5 qU (hV (hX 0) (hV (dC (.bl au)) ib))) ib))))
 (iz (lp (Ao cr jj (hX 1) (hV (i5 qU (hV (hX 0) (hV (dC (.bl ag)) ib))) ib)))
 (iz (jl 3 (i5 ik (hV (hX 0) (hV (dC (.int 5)) ib))))
 (blC ik)))))
def Lr(D:iw K mg uar (top 88))(Z:Zs mg)(b:i8 P w K mg cq k oD [eH,me] ik)(e:i8 P w K mg cq k uaq [eH,uap] qU):nz P w K mg cq (k+1) uar [eH] (l9 K (vf 5 1 (wn ik qU))):=
 vh D lg.hb lg.hc lg.sc (by walk_at "b") λf jd A cv s H E a=>by
 have i:=i6 a;exact(ia (iH 1 lg.sc.nd (mz (jH hW)))
   (ia (kW (oH (hU (i9 b a (hU (ij 0) (hU ig hW))) hW) Z.range) (ip 2 lg.sc.nd) (ie (kb (sO jT af bb aF (ij 1) (hU (i9 e a (hU (ij 0) (hU rT hW))) hW)))))
   (ia (kb (sO jT af bb aF (ij 1) (hU (i9 e a (hU (ij 0) (hU rT hW))) hW)))
   (ia (iH 3 lg.sc.nd (i9 b a (hU (ij 0) (hU ig hW))))
   (ia (iX (iG (kO a.units) (ij 3) ig) (ia (iH 4 lg.sc.nd (i0 jt ig (i9 b a (hU (ij 0) (hU ig hW)))))
   (ie (kb (sO jT af bb aF (ij 1) (hU (iU (hU iF (hU (jw (jP (N:=[iL,eH]) (fr:=[ar,aa 0]) (jv.of (m9:=[eH,fv,iL,ky,qc]) (jF:=lg.c) (by decide+kernel)) (oH (hU (ij 4) hW) Z.range) jc (λ_ _ _ _ _=>(ip 0 (show bN ([iL,eH]:List aX) by decide+kernel))) (λ_ _ _ _ _=>jY) (λ_ _ _ _ _=>(i0 vN (i9 b a (hU (ij 1) (hU (i0 sL ig ig) hW))) (i0 sL ig ig))))) hW))) hW))))) iI)
   (ia (iX (iG (kO a.units) (ij 3) ig) (ie (kb (sO jT af bb aF (ij 1) (hU (iU (hU iF (hU (jw (jP (N:=[iL]) (fr:=[ar]) (jv.of (m9:=[eH,fv,iL,ky,qc]) (jF:=lg.c) (by decide+kernel)) (oH (hU (i0 jt ig (i9 b a (hU (ij 0) (hU ig hW)))) hW) Z.range) jc (λ_ _ _ _ _=>(ip 0 (show bN ([iL]:List aX) by decide+kernel))) (λ_ _ _ _ _=>jY) (λ_ _ _ _ _=>(i0 vN (i0 AE ig (ij 0)) ig)))) hW))) hW)))) iI)
   (ia (iX (iG (kO a.units) (ij 3) ig) (ie (kb (sO jT af bb aF (ij 1) (hU (iU (hU iF (hU (i0 jt ig (i9 b a (hU (ij 0) (hU ig hW)))) hW))) hW)))) iI)
   (ie (il (Vw 1))))))))))
def lM:FI (top 89) [eH,hD,me,fv,iL,lj] [eH,hD,me]:=by walk_at "a"
def skA (ik:GN)(oQ:GN):DS:=(iz (js (Ft (iu (iA (CB au) (iA jS (hX 5) (dC (.int 0))) (ju (hV (dC (.str im)) (hV (dC (.str kv)) ib))))) (Ft (iu (iA B7 (hX 3) (jV (mM ib)))) (iu (iA vy (i5 ik (hV (hX 0) (hV (dC (.int 3)) ib))) (dC (.int 1)))))) (iz (lp (Ao cr jj (hX 1) (hV (ju (hV (i5 oQ (hV (i5 lx (hV (hX 1) ib)) ib)) (hV (iA jS (hX 5) (dC (.int 0))) ib))) ib)))
 (lp (Ao cr jj (hX 3) (hV (ju (hV (dC (.str mX)) (hV (iA jS (iA jS (hX 1) (RP (dC (.int 1)))) (dC (.int 0))) (hV (iA acL (i5 ik (hV (hX 0) (hV (dC (.int 4)) ib))) (dC (.int 0))) ib)))) ib)))) iP)
 (lp (Ao cr jj (hX 3) (hV (hX 5) ib))))
def rf (ik:GN)(su:GN)(oQ:GN):DS:=(iz (jl 3 (pP (mM ib)))
 (iz (qv (vP (hV (iA jn (dC (.int 1)) (i5 ik (hV (hX 0) (hV (hX 2) ib)))) ib)) (iq 4) (qv (kh (i5 su (hV (hX 0) ib))) (iq 5) (skA ik oQ)))
 (iN (KP 3))))
def EA(D:iw K mg uas (top 89))(Z:Zs mg)(c:i8 P w K mg cq k oD [eH,me] ik)(e:i8 P w K mg cq k uar [eH] su)(g:i8 P w K mg cq k yu [iL] oQ):nz P w K mg cq (k+1) uas [eH,hD,me] (l9 K (vf 6 3 (rf ik su oQ))):=
 vh D lM.hb lM.hc lM.sc (by walk_at "b") λf jd A cv s H E a=>by
 have b:=i6 a;exact(ia (iH 3 lM.sc.nd (mz (jH hW)))
   (ia (kW (oH (hU (i0 jt ig (i9 c a (hU (ij 0) (hU (ij 2) hW)))) hW) Z.range) (ip 4 lM.sc.nd) (ie (kW (jA (i9 e a (hU (ij 0) hW))) (ip 5 lM.sc.nd) (ia (iX (nC (pN (iG (zx b) (jg (jx b) (ij 5) ig) (iU (hU iF (hU iF hW)))) (pN (iG (HS b) (ij 3) (jw (jH hW))) (nM (iG (kO a.units) (i9 c a (hU (ij 0) (hU ig hW))) ig))))) (ia (kb (sO jT af bb aF (ij 1) (hU (iU (hU (i9 g a (hU (nh jW Z.len jX (hU (ij 1) hW)) hW)) (hU (jg (jx b) (ij 5) ig) hW))) hW)))
   (ie (kb (sO jT af bb aF (ij 3) (hU (iU (hU iF (hU (jg (jx b) (jg (jx b) (ij 1) (U2 ig)) ig) (hU (u9 Kf (i9 c a (hU (ij 0) (hU ig hW))) ig) hW)))) hW))))) iI)
   (ie (kb (sO jT af bb aF (ij 3) (hU (ij 5) hW))))))))
   (ie (il (Vw 3)))))
def rg:FI (top 90) [eH,hD,rb,oW] [eH,hD,rb]:=by walk_at "a"
def EB (ik:GN):DS:=(iz (jl 3 (jV (lc [ar,ar,aa 2] (kh (hX 1)) (k7 2 (iO (iq 0) (iO (iq 1) lq))) (Ft (iu (iA (CB au) (hX 1) (hX 2))) (Ay (iu (iA B7 (hX 2) (ju ib))) (iu (iA (CB ag) (hX 1) (ju (hV (dC (.str im)) (hV (dC (.str kv)) ib))))))) (hX 0))))
 (iz (js (iu (iA B7 (hX 3) (jV (mM ib)))) (iN (dC .non)) iP)
 (iN (iA jS (hX 3) (i5 ik (hV (hX 0) (hV (i5 lx (hV (hX 3) ib)) ib)))))))
def OG(D:iw K mg uat (top 90))(Z:Zs mg)(e:i8 P w K mg cq k oD [eH,me] ik):nz P w K mg cq (k+1) uat [eH,hD,rb] (l9 K (vf 4 3 (EB ik))):=
 vh D rg.hb rg.hc rg.sc (by walk_at "b") λf jd A cv s H E b=>by
 have a:=i6 b;exact(ia (zt 3 rg.sc.nd (N:=[fx,ky,rb]) (fr:=[ar,ar,aa 2]) (jv.of (m9:=[eH,hD,rb,oW]) (jF:=rg.c) (by decide+kernel)) (jA (ij 1)) (qC (j3 jc (j3 jc uo))) (λ_ _ _ _ _=>(kg (iy (ip 0 (show bN ([fx,ky,rb]:List aX) by decide+kernel)) (iy (ip 1 (show bN ([fx,ky,rb]:List aX) by decide+kernel)) jC)))) (λ_ _ _ _ _=>(Cu (nC (pN (iG (zx a) (ij 1) (ij 2)) (nM (nC (xU (iG (HS a) (ij 2) (iU hW)) (xa (iG (vR a) (ij 1) (iU (hU iF (hU iF hW)))))))))))) (λ_ _ _ _ _=>(ij 0)))
   (ia (iX (iG (HS a) (ij 3) (jw (jH hW))) (ie (il De)) iI)
   (ie (il (jg (jx a) (ij 3) (i9 e b (hU (ij 0) (hU (nh jW Z.len jX (hU (ij 3) hW)) hW))))))))
def lV:FI (top 91) [lj,eH,hD,fx,oW] [lj,eH,hD]:=by walk_at "a"
def sA (oR:GN)(ik:GN):DS:=(iz (js (iu (iA (CB au) (iA jS (hX 0) (dC (.int 0))) (ju (hV (dC (.str ph)) (hV (dC (.str qa)) (hV (dC (.str ra)) ib)))))) (iN (iA jn (hX 0) (ju (hV (i5 oR (hV (hX 1) (hV (hX 2) (hV (ju ib) ib)))) ib)))) iP)
 (iz (js (iu (iA (CB au) (iA jS (hX 0) (dC (.int 0))) (ju (hV (dC (.str qb)) (hV (dC (.str pd)) ib))))) (iz (jl 3 (i5 oR (hV (hX 1) (hV (hX 2) (hV (iA jS (jV (mM (hV (ju (hV (dC (.str im)) ib)) (hV (ju (hV (dC (.str kv)) ib)) ib)))) (i5 Ca (hV (iA vy (iA jS (hX 0) (dC (.int 0))) (dC (.str pd))) ib))) ib)))))
 (iz (js (iu (iA gIs (hX 3) (dC .non))) (iN (ju (hV (dC (.str qZ)) ib))) iP)
 (iN (iA jn (hX 0) (ju (hV (hX 3) ib)))))) iP)
 (iz (js (iu (iA vy (iA jS (hX 0) (dC (.int 0))) (dC (.str pS)))) (iz (jl 4 (jV (lc [ar,ar] (kh (hX 2)) (k7 2 (iO (iq 0) (iO (iq 1) lq))) qy (hX 0))))
 (iz (jl 0 (iA jn (hX 0) (ju (hV (iA jS (hX 4) (i5 ik (hV (hX 1) (hV (i5 lx (hV (hX 4) ib)) ib)))) ib))))
 (iN (iA jn (hX 0) (ju (hV (iA jS (hX 4) (i5 ik (hV (hX 1) (hV (i5 lx (hV (hX 4) ib)) ib)))) ib)))))) iP)
 (iz (js (iu (iA vy (iA jS (hX 0) (dC (.int 0))) (dC (.str kv)))) (iN (ju (hV (dC (.str kv)) (hV (jV (lc [ar,aa 1,aa 2] (vP (hV (iA jS (hX 0) (dC (.int 1))) ib)) (iq 0) qy (i5 oR (hV (hX 1) (hV (hX 2) (hV (ju ib) ib)))))) ib)))) iP)
 (iN (hX 0))))))
def Lu(D:iw K mg uau (top 91))(Z:Zs mg)(e:i8 P w K mg cq k uat [eH,hD,rb] oR)(g:i8 P w K mg cq k oD [eH,me] ik):nz P w K mg cq (k+1) uau [lj,eH,hD] (l9 K (vf 5 3 (sA oR ik))):=
 vh D lV.hb lV.hc lV.sc (by walk_at "b") λf jd A cv s H E b=>by
 have a:=i6 b;exact(ia (iX (iG (zx a) (jg (jx a) (ij 0) ig) (iU (hU iF (hU iF (hU iF hW))))) (ie (il (i0 jt (ij 0) (iU (hU (i9 e b (hU (ij 1) (hU (ij 2) (hU (iU hW) hW)))) hW))))) iI)
   (ia (iX (iG (zx a) (jg (jx a) (ij 0) ig) (iU (hU iF (hU iF hW)))) (ia (iH 3 lV.sc.nd (i9 e b (hU (ij 1) (hU (ij 2) (hU (jg (jx a) (jw (jH (hU (iU (hU iF hW)) (hU (iU (hU iF hW)) hW)))) (j_t Ij Z.int Ek (hU (u9 (kO b.units) (jg (jx a) (ij 0) ig) iF) hW))) hW)))))
   (ia (iX (iG UQ (ij 3) De) (ie (il (iU (hU iF hW)))) iI)
   (ie (il (i0 jt (ij 0) (iU (hU (ij 3) hW))))))) iI)
   (ia (iX (iG (kO b.units) (jg (jx a) (ij 0) ig) iF) (ia (zt 4 lV.sc.nd (N:=[fx,ky]) (fr:=[ar,ar]) (jv.of (m9:=[lj,eH,hD,fx,oW]) (jF:=lV.c) (by decide+kernel)) (jA (ij 2)) (qC (j3 jc (j3 jc uo))) (λ_ _ _ _ _=>(kg (iy (ip 0 (show bN ([fx,ky]:List aX) by decide+kernel)) (iy (ip 1 (show bN ([fx,ky]:List aX) by decide+kernel)) jC)))) (λ_ _ _ _ _=>jY) (λ_ _ _ _ _=>(ij 0)))
   (ia (iH 0 lV.sc.nd (i0 jt (ij 0) (iU (hU (jg (jx a) (ij 4) (i9 g b (hU (ij 1) (hU (nh jW Z.len jX (hU (ij 4) hW)) hW)))) hW))))
   (ie (il (i0 jt (ij 0) (iU (hU (jg (jx a) (ij 4) (i9 g b (hU (ij 1) (hU (nh jW Z.len jX (hU (ij 4) hW)) hW)))) hW))))))) iI)
   (ia (iX (iG (kO b.units) (jg (jx a) (ij 0) ig) iF) (ie (il (iU (hU iF (hU (jw (jP (N:=[iL,eH,hD]) (fr:=[ar,aa 1,aa 2]) (jv.of (m9:=[lj,eH,hD,fx,oW]) (jF:=lV.c) (by decide+kernel)) (oH (hU (jg (jx a) (ij 0) ig) hW) Z.range) jc (λ_ _ _ _ _=>(ip 0 (show bN ([iL,eH,hD]:List aX) by decide+kernel))) (λ_ _ _ _ _=>jY) (λ_ _ _ _ _=>(i9 e b (hU (ij 1) (hU (ij 2) (hU (iU hW) hW))))))) hW))))) iI)
   (ie (il (ij 0)))))))
def jz:FI (top 92) [yC,hD,oW,"_law_rests",iL,nQ,eH,fx,kf,fv] [yC]:=by walk_at "a"
def pB (jL:GN)(ik:GN)(lH:GN):DS:=(iz (jl 6 (i5 jL (hV (hX 5) (hV (dC (.int 80)) ib))))
 (iz (jl 7 (iA jn (iA jS (dC (.str "pqrstuvw")) (iA pV (iA jn (iA HK (dC (.int 3)) (hX 4)) (i5 ik (hV (hX 6) (hV (dC (.int 1)) ib)))) (dC (.int 8)))) (iA jS (dC (.str "abcdefgh")) (i5 ik (hV (hX 6) (hV (dC (.int 8)) ib))))))
 (iz (lp (Ao cr jj (hX 2) (hV (ju (hV (hX 7) (hV (i5 lH (hV (hX 6) (hV (hX 1) (hV (iA jS (jV (mM (hV (dC (.int 3)) (hV (dC (.int 1)) ib)))) (i5 Ca (hV (iA acL (i5 lx (hV (hX 0) ib)) (dC (.int 4))) ib))) ib)))) ib))) ib)))
 (lp (Ao cr jj (hX 3) (hV (hX 6) ib))))))
def pC (nG:GN):DS:=(lp (Ao cr jj (hX 8) (hV (ju (hV (hX 7) (hV (jV (lc [ar,aa 6,aa 1] (kh (hX 9)) (iq 0) qy (i5 nG (hV (hX 0) (hV (hX 1) (hV (hX 2) ib)))))) ib))) ib)))
def pE (jL:GN)(oS:GN):DS:=(iN (i5 oS (hV (hX 8) (hV (hX 1) (hV (i5 jL (hV (iA AS (iA jS (hX 0) (dC (.int 0))) (dC (.int 3))) (hV (dC (.int 20)) ib))) ib)))))
def wo (jL:GN)(ik:GN)(lH:GN)(nG:GN)(oS:GN):DS:=(iz (jl 1 (pP (mM ib)))
 (iz (jl 2 (pP (mM ib)))
 (iz (jl 3 (pP (mM ib)))
 (iz (qv (Dt (hV (hX 0) ib)) (k7 2 (iO (iq 4) (iO (iq 5) lq))) (pB jL ik lH))
 (iz (jl 8 (pP (mM ib)))
 (iz (qv (U0 (hV (hX 2) (hV (hX 3) ib))) (k7 2 (iO (k7 2 (iO (iq 7) (iO (iq 9) lq))) (iO (iq 6) lq))) (pC nG))
 (pE jL oS)))))))
def Lv(D:iw K mg uav (top 92))(Z:Zs mg)(e:i8 P w K mg cq k tP [nQ,qc] jL)(g:i8 P w K mg cq k oD [eH,me] ik)(h:i8 P w K mg cq k uas [eH,hD,me] lH)(i:i8 P w K mg cq k uau [lj,eH,hD] nG)(j:i8 P w K mg cq k uao [kf,hD,eH] oS):nz P w K mg cq (k+1) uav [yC] (l9 K (cl (Zb 10 1 (wo jL ik lH nG oS)))):=
 acA D jz.hb jz.hc jz.sc (by walk_at "b") λf jd A cv s H E a=>by
 have b:=i6 a;exact(ia (iH 1 jz.sc.nd (mz (jH hW)))
   (ia (iH 2 jz.sc.nd (mz (jH hW)))
   (ia (iH 3 jz.sc.nd (mz (jH hW)))
   (ia (kW (Cy (hU (ij 0) hW) Z.enumerate) (kg (iy (ip 4 jz.sc.nd) (iy (ip 5 jz.sc.nd) jC))) (ia (iH 6 jz.sc.nd (i9 e a (hU (ij 5) (hU ig hW))))
   (ia (iH 7 jz.sc.nd (i0 jt (jg (jx b) iF (i0 lD (i0 jt (i0 AE ig (ij 4)) (i9 g a (hU (ij 6) (hU ig hW)))) ig)) (jg (jx b) iF (i9 g a (hU (ij 6) (hU ig hW))))))
   (ia (kb (sO jT af bb aF (ij 2) (hU (iU (hU (ij 7) (hU (i9 h a (hU (ij 6) (hU (ij 1) (hU (jg (jx b) (jw (jH (hU ig (hU ig hW)))) (j_t Ij Z.int Ek (hU (u9 Kf (nh jW Z.len jX (hU (ij 0) hW)) ig) hW))) hW)))) hW))) hW)))
   (ie (kb (sO jT af bb aF (ij 3) (hU (ij 6) hW))))))))
   (ia (iH 8 jz.sc.nd (mz (jH hW)))
   (ia (kW (U1 (hU (ij 2) (hU (ij 3) hW)) Z.zip) (kg (iy (kg (iy (ip 7 jz.sc.nd) (iy (ip 9 jz.sc.nd) jC))) (iy (ip 6 jz.sc.nd) jC))) (ie (kb (sO jT af bb aF (ij 8) (hU (iU (hU (ij 7) (hU (jw (jP (N:=[lj,eH,hD]) (fr:=[ar,aa 6,aa 1]) (jv.of (m9:=[yC,hD,oW,"_law_rests",iL,nQ,eH,fx,kf,fv]) (jF:=jz.c) (by decide+kernel)) (jA (ij 9)) jc (λ_ _ _ _ _=>(ip 0 (show bN ([lj,eH,hD]:List aX) by decide+kernel))) (λ_ _ _ _ _=>jY) (λ_ _ _ _ _=>(i9 i a (hU (ij 0) (hU (ij 1) (hU (ij 2) hW))))))) hW))) hW)))))
   (ie (il (i9 j a (hU (ij 8) (hU (ij 1) (hU (i9 e a (hU (i0 mC (jg (jx b) (ij 0) ig) ig) (hU ig hW))) hW))))))))))))
def pL:FI (top 93) [fv,ky] [fv,ky]:=by walk_at "a"
def xL:DS:=(iN (jV (lc [ar,aa 1] (kh (hX 0)) (iq 0) (iu (iA Fx (iA jS (hX 0) (dC (.int 0))) (hX 1))) (hX 0))))
def FK(D:iw K mg yM (top 93)):nz P w K mg cq (k+1) yM [fv,ky] (l9 K (cl (lN 2 2 xL))):=
 kP D pL.hb pL.hc pL.sc (by walk_at "b") λf jd A cv s H E a=>by have b:=i6 a;exact(ie (il (jw (jP (N:=[lj,ky]) (fr:=[ar,aa 1]) (jv.of (m9:=[fv,ky]) (jF:=pL.c) (by decide+kernel)) (jA (ij 0)) jc (λ_ _ _ _ _=>(ip 0 (show bN ([lj,ky]:List aX) by decide+kernel))) (λ_ _ _ _ _=>(Cu (iG (vQ a.units) (jg (jx b) (ij 0) ig) (ij 1)))) (λ_ _ _ _ _=>(ij 0))))))
def uM:FI (top 94) [kf] [kf]:=by walk_at "a"
def ED (pH:GN):DS:=(iN (jV (TD CG (hV (jV (lc [ar,ar] (kh (hX 0)) (k7 2 (iO (iq 0) (iO (iq 1) lq))) qy (ju (hV (hX 0) (hV (i5 pH (hV (hX 1) (hV (dC (.str mX)) ib))) ib))))) ib))))
def OI(D:iw K mg uaw (top 94))(Z:Zs mg)(b:i8 P w K mg cq k yM [fv,ky] pH):nz P w K mg cq (k+1) uaw [kf] (l9 K (cl (lN 1 1 (ED pH)))):=
 kP D uM.hb uM.hc uM.sc (by walk_at "b") λf jd A cv s H E a=>by have e:=i6 a;exact(ie (il (jw (aey Sg Z.sorted GV (hU (jw (jP (N:=[fx,fv]) (fr:=[ar,ar]) (jv.of (m9:=[kf]) (jF:=uM.c) (by decide+kernel)) (jA (ij 0)) (qC (j3 jc (j3 jc uo))) (λ_ _ _ _ _=>(kg (iy (ip 0 (show bN ([fx,fv]:List aX) by decide+kernel)) (iy (ip 1 (show bN ([fx,fv]:List aX) by decide+kernel)) jC)))) (λ_ _ _ _ _=>jY) (λ_ _ _ _ _=>(iU (hU (ij 0) (hU (i9 b a (hU (ij 1) (hU iF hW))) hW)))))) hW)))))
def A6:FI (top 97) [oW,eH] [oW,eH]:=by walk_at "a"
def GW (ik:GN):DS:=(iN (iA jS (hX 0) (i5 ik (hV (hX 1) (hV (i5 lx (hV (hX 0) ib)) ib)))))
def SX(D:iw K mg "_law_any" (top 97))(Z:Zs mg)(b:i8 P w K mg cq k oD [eH,me] ik):nz P w K mg cq (k+1) "_law_any" [oW,eH] (l9 K (vf 2 2 (GW ik))):=
 vh D A6.hb A6.hc A6.sc (by walk_at "b") λf jd A cv s H E a=>by have c:=i6 a;exact(ie (il (jg (jx c) (ij 0) (i9 b a (hU (ij 1) (hU (nh jW Z.len jX (hU (ij 0) hW)) hW))))))
def sT:FI (top 98) [lj] [lj]:=by walk_at "a"
def xM:DS:=(iz (js (iu (iA (CB au) (iA jS (hX 0) (dC (.int 0))) (ju (hV (dC (.str ph)) (hV (dC (.str qa)) (hV (dC (.str ra)) (hV (dC (.str qb)) (hV (dC (.str pd)) ib)))))))) (iN (jV (mM (hV (dC (.int 2)) (hV (dC (.int 3)) ib))))) iP)
 (iz (js (iu (iA (CB au) (iA jS (hX 0) (dC (.int 0))) (ju (hV (dC (.str gc)) (hV (dC (.str pS)) ib))))) (iN (jV (mM (hV (dC (.int 5)) ib)))) iP)
 (iz (js (iu (iA vy (iA jS (hX 0) (dC (.int 0))) (dC (.str im)))) (iN (jV (mM (hV (iA jn (dC (.int 2)) (iA HK (dC (.int 4)) (i5 lx (hV (iA jS (hX 0) (dC (.int 1))) ib)))) ib)))) iP)
 (iz (js (iu (iA vy (iA jS (hX 0) (dC (.int 0))) (dC (.str kv)))) (iN (jV (mM (hV (iA jn (dC (.int 2)) (iA HK (dC (.int 2)) (i5 lx (hV (iA jS (hX 0) (dC (.int 1))) ib)))) ib)))) iP)
 (iN (jV (mM (hV (dC (.int 1)) ib))))))))
def FM(D:iw K mg yN (top 98))(Z:Zs mg):nz P w K mg cq (k+1) yN [lj] (l9 K (cl (lN 1 1 xM))):=
 kP D sT.hb sT.hc sT.sc (by walk_at "b") λf jd A cv s H E b=>by
 have a:=i6 b;exact(ia (iX (iG (zx a) (jg (jx a) (ij 0) ig) (iU (hU iF (hU iF (hU iF (hU iF (hU iF hW))))))) (ie (il (jw (jH (hU ig (hU ig hW)))))) iI)
   (ia (iX (iG (zx a) (jg (jx a) (ij 0) ig) (iU (hU iF (hU iF hW)))) (ie (il (jw (jH (hU ig hW))))) iI)
   (ia (iX (iG (kO b.units) (jg (jx a) (ij 0) ig) iF) (ie (il (jw (jH (hU (i0 jt ig (i0 AE ig (nh jW Z.len jX (hU (jg (jx a) (ij 0) ig) hW)))) hW))))) iI)
   (ia (iX (iG (kO b.units) (jg (jx a) (ij 0) ig) iF) (ie (il (jw (jH (hU (i0 jt ig (i0 AE ig (nh jW Z.len jX (hU (jg (jx a) (ij 0) ig) hW)))) hW))))) iI)
   (ie (il (jw (jH (hU ig hW)))))))))
def mh:FI (top 99) [kf,qp,qq,qs,"_law_way",sR,"e"] [kf,qp,qq,qs,"_law_way"]:=by walk_at "a"
def xN (K:bz)(sw:aw)(nZ:MH)(zV:MH)(ku:aw)(uH:aw):DS:=(iz (jl 5 (dC .non))
 (iz (aeV K 6 sw (xIf (iu (iA vy (hX 4) (dC (.int 0)))) (GL (dCX nZ (λ_=>(hV (hX 0) (hV (hX 1) ib))))) (GL (dCX zV (λ_=>(hV (hX 0) (hV (hX 1) (hV (hX 2) (hV (hX 3) ib)))))))) (jl 5 (hX 6)))
 (iN (vJ (i5 (VJ K) (hV (hX 5) (hV (dC (.cls ku)) ib))) (Gp (i5 (VJ K) (hV (hX 5) (hV (dC (.cls uH)) ib))))))))
def FN(D:iw K mg uax (top 99))(Z:Zs mg)(c:mg "PartError"=aa (.ref sw))(e:zH P w K mg cq k uan [hB,hY] nZ)(g:zH P w K mg cq k xO [hB,hY,ng,pr] zV)(h:mg "BadBase"=aa (.ref ku))(j:mg "NoLayout"=aa (.ref uH)):nz P w K mg cq (k+1) uax [kf,qp,qq,qs,"_law_way"] (l9 K (cl (lN 7 5 (xN K sw nZ zV ku uH)))):=
 kP D mh.hb mh.hc mh.sc (by walk_at "b") λf jd A cv s H E a=>by
 have m:=i6 a;exact(ia (iH 5 mh.sc.nd De)
   (ia (acy (i:=6) mh.sc.nd c (λ_ _ _ b=>(qD (N0 (iG (kO a.units) (ij 4) ig) (qD (vY (KY e a b (JA.Ss (hU (ij 0) (hU (ij 1) hW)))))) (qD (vY (KY g a b (JA.Ss (hU (ij 0) (hU (ij 1) (hU (ij 2) (hU (ij 3) hW))))))))))) (λ_=>(ie (iH 5 mh.sc.nd (ij 6)))))
   (ie (il (By (nh VL Z.isinstance iC (hU (ij 5) (hU (mZ h) hW))) (Gq (UG (nh VL Z.isinstance iC (hU (ij 5) (hU (mZ j) hW))))))))))
def lu:FI (top 100) [nP,kf,eH,za,qs,fx,fv,nQ,qp,qq,zb,zi,zr,qe,nR] [nP]:=by walk_at "a"
def lwP (qL mf:GN):DS:=(P9 (hX 4) (hX 5) (jV (lc [ar,aa 2] (kh (hX 6)) (iq 0) qy (i5 qL (hV (i5 mf (hV (hX 0) ib)) (hV (hX 1) ib))))))
def lwX (ke:GN):DS:=(iz (jl 10 (jV (mM (hV (ju (hV (dC (.int 0)) (hV (dC (.int 0)) ib))) (hV (ju (hV (iA jn (dC (.int 65)) (iA pV (iA AS (hX 7) (dC (.int 256))) (iA Eg (dC (.int 10)) (dC (.int 9))))) (hV (dC (.int 0)) ib))) (hV (ju (hV (iA N9 (dC (.int 0)) (hX 8)) (hV (dC (.int 0)) ib))) (hV (ju (hV (iA jn (hX 8) (dC (.int 1))) (hV (dC (.int 1)) ib))) (hV (ju (hV (hX 8) (hV (iA N9 (dC (.int 0)) (hX 8)) ib))) ib))))))))
 (iz (jl 10 (iA jS (hX 10) (iA pV (iA AS (hX 7) (dC (.int 1024))) (dC (.int 5)))))
 (iz (js (Ay (iu (iA vy (iA jS (hX 10) (dC (.int 1))) (dC (.int 0)))) (oA (iu (i5 ke (hV (hX 1) (hV (iA jS (hX 10) (dC (.int 0))) (hV (dC (.int 0)) (hV (hX 4) (hV (dC (.int 0)) ib))))))))) (iN (dC (.bl au))) iP)
 (iN (i5 ke (hV (hX 1) (hV (iA jS (hX 10) (dC (.int 0))) (hV (iA jS (hX 10) (dC (.int 1))) (hV (hX 4) (hV (dC (.int 1)) ib))))))))))
def lwW (K:bz):DS:=(iz (Ni (iu (iA Fx (iA pV (hX 14) (hX 8)) (dC (.int 0)))) (jl 14 (iA jn (hX 14) (dC (.int 1)))))
 (iz (js (Ft (iu (iA Fx (Ao fw KQ (hX 13) (hV (hX 5) ib)) (hX 14))) (iu (i5 (mj K) (hV (iA jS (hX 13) (hX 5)) (hV (dC (.ty ix)) ib))))) (iN (dC (.bl au))) iP)
 (jl 14 (iA jn (hX 14) (i5 NG (hV (iA jS (hX 4) (hX 5)) ib))))))
def lwD (K:bz)(lJ:GN):DS:=(iz (jl 14 (hX 9))
 (iz (qv (kh (hX 3)) (k7 2 (iO (iq 5) (iO (iq 6) lq))) (lwW K))
 (iN (iA (KO ag) (i5 lJ (hV (jV (aaU (hX 1))) (hV (hX 8) (hV (hX 9) (hV (hX 4) ib))))) (hX 13)))))
def lwC (K:bz)(lJ:GN):DS:=(iz (jl 11 (jV (TD ND (hV (jV (lc [ar,ar] (Qs (hX 4)) (k7 2 (iO (iq 0) (iO (iq 1) lq))) qy (ju (hV (hX 0) (hV (jV (TD yd (hV (hX 1) ib))) ib))))) ib))))
 (iz (jl 12 (ju (hV (jV (lc [ar,ar] (kh (hX 1)) (k7 2 (iO (iq 0) (iO (iq 1) lq))) qy (ju (hV (hX 0) (hV (jV (TD yd (hV (hX 1) ib))) ib))))) (hV (hX 11) ib))))
 (iz (jl 13 (i5 lJ (hV (iA jS (hX 12) (dC (.int 0))) (hV (hX 8) (hV (hX 9) (hV (iA jS (hX 12) (dC (.int 1))) ib))))))
 (iz (js (Ft (iu (iA QC (hX 12) (ju (hV (hX 1) (hV (hX 4) ib))))) (Ft (oA (iu (i5 (mj K) (hV (hX 13) (hV (dC (.ty fw)) ib))))) (iu (iA Fx (i5 lx (hV (hX 13) ib)) (i5 lx (hV (hX 3) ib)))))) (iN (dC (.bl au))) iP)
 (lwD K lJ)))))
def lwB (K:bz)(kR ke lJ:GN):DS:=(iz (dPl 4 (jl 7 (i5 kR (hV (hX 0) (hV (dC (.int 0)) ib)))))
 (iz (jl 8 (iA jn (dC (.int 1)) (iA pV (iA AS (hX 7) (dC (.int 4))) (dC (.int 64)))))
 (iz (jl 9 (iA HK (hX 8) (iA pV (iA AS (hX 7) (dC (.int 256))) (iA Eg (dC (.int 10)) (dC (.int 6))))))
 (iz (js (iu (iA vy (iA pV (hX 7) (dC (.int 4))) (dC (.int 3)))) (lwX ke) iP)
 (lwC K lJ)))))
def Wi (K:bz)(sv:GN)(kR:GN)(jL:GN)(uG:GN)(qL:GN)(mf:GN)(ke:GN)(lJ:GN):DS:=(iz (jl 1 (i5 sv (hV (iA jn (Xq (hX 0) (vS (dC (.int 3))) (vS (dC (.int 6)))) (jV (mM (hV (i5 kR (hV (hX 0) (hV (dC (.int 1)) ib))) ib)))) ib)))
 (iz (jl 2 (i5 jL (hV (i5 kR (hV (hX 0) (hV (dC (.int 2)) ib))) (hV (dC (.int 60)) ib))))
 (iz (jl 3 (i5 uG (hV (hX 1) ib)))
 (iz (jl 4 (pP Dj))
 (iz (qv (kh (hX 3)) (k7 2 (iO (iq 5) (iO (iq 6) lq))) (lwP qL mf))
 (lwB K kR ke lJ))))))
def afc(Z:Zs mg)(n:i8 P w K mg cq k uav [yC] sv)(g:i8 P w K mg cq k xP [nP,iL] kR)(o:i8 P w K mg cq k tP [nQ,qc] jL)(p:i8 P w K mg cq k uaw [kf] uG)(q:i8 P w K mg cq k "_law_any" [oW,eH] qL)(r:i8 P w K mg cq k yN [lj] mf)(h:i8 P w K mg cq k uax [kf,qp,qq,qs,"_law_way"] ke)(i:i8 P w K mg cq k xO [hB,hY,ng,pr] lJ)(f:aw)(jd:ai)(A:bH)(cv:List ahL)(s:av)(H:Hp)(E:XK)(a:ka k (A.deeper (dZ "law" lu.c s.heap.objs.size f jd))):
  Dk (tE uk P w K mg cq [nP,kf,eH,za,qs,fx,fv,nQ,qp,qq,zb,zi,zr,qe,nR] "law" lu.c f jd A cv s H E).F7 lu.b (Wi K sv kR jL uG qL mf ke lJ):=by
 have e:=i6 a;exact(ia (iH 1 lu.sc.nd (i9 n a (hU (i0 jt (Nq (ij 0) (pT ig) (pT ig)) (jw (jH (hU (i9 g a (hU (ij 0) (hU ig hW))) hW)))) hW)))
   (ia (iH 2 lu.sc.nd (i9 o a (hU (i9 g a (hU (ij 0) (hU ig hW))) (hU ig hW))))
   (ia (iH 3 lu.sc.nd (i9 p a (hU (ij 1) hW)))
   (ia (iH 4 lu.sc.nd (mz zp))
   (ia (kW (jA (ij 3)) (kg (iy (ip 5 lu.sc.nd) (iy (ip 6 lu.sc.nd) jC))) (ie (HU e (ij 4) (ij 5) (jw (jP (N:=[lj,eH]) (fr:=[ar,aa 2]) (jv.of (m9:=[nP,kf,eH,za,qs,fx,fv,nQ,qp,qq,zb,zi,zr,qe,nR]) (jF:=lu.c) (by decide+kernel)) (jA (ij 6)) jc (λ_ _ _ _ _=>(ip 0 (show bN ([lj,eH]:List aX) by decide+kernel))) (λ_ _ _ _ _=>jY) (λ_ _ _ _ _=>(i9 q a (hU (i9 r a (hU (ij 0) hW)) (hU (ij 1) hW)))))))))
   (ia (ae2 4 (iH 7 lu.sc.nd (i9 g a (hU (ij 0) (hU ig hW)))))
   (ia (iH 8 lu.sc.nd (i0 jt ig (i0 lD (i0 mC (ij 7) ig) ig)))
   (ia (iH 9 lu.sc.nd (i0 AE (ij 8) (i0 lD (i0 mC (ij 7) ig) (i0 sL ig ig))))
   (ia (iX (iG (kO a.units) (i0 lD (ij 7) ig) ig) (ia (iH 10 lu.sc.nd (jw (jH (hU (iU (hU ig (hU ig hW))) (hU (iU (hU (i0 jt ig (i0 lD (i0 mC (ij 7) ig) (i0 sL ig ig))) (hU ig hW))) (hU (iU (hU (i0 vN ig (ij 8)) (hU ig hW))) (hU (iU (hU (i0 jt (ij 8) ig) (hU ig hW))) (hU (iU (hU (ij 8) (hU (i0 vN ig (ij 8)) hW))) hW))))))))
   (ia (iH 10 lu.sc.nd (jg (jx e) (ij 10) (i0 lD (i0 mC (ij 7) ig) ig)))
   (ia (iX (nC (xU (iG (kO a.units) (jg (jx e) (ij 10) ig) ig) (xa (kU (jO (i9 h a (hU (ij 1) (hU (jg (jx e) (ij 10) ig) (hU ig (hU (ij 4) (hU ig hW))))))))))) (ie (il rT)) iI)
   (ie (il (i9 h a (hU (ij 1) (hU (jg (jx e) (ij 10) ig) (hU (jg (jx e) (ij 10) ig) (hU (ij 4) (hU ig hW))))))))))) iI)
   (ia (iH 11 lu.sc.nd (jw (Kq (KD a.hd) Z.dict IC (hU (jw (jP (N:=[fx,"_law_told"]) (fr:=[ar,ar]) (jv.of (m9:=[nP,kf,eH,za,qs,fx,fv,nQ,qp,qq,zb,zi,zr,qe,nR]) (jF:=lu.c) (by decide+kernel)) (Vv (ij 4)) (qC (j3 jc (j3 jc uo))) (λ_ _ _ _ _=>(kg (iy (ip 0 (show bN ([fx,"_law_told"]:List aX) by decide+kernel)) (iy (ip 1 (show bN ([fx,"_law_told"]:List aX) by decide+kernel)) jC)))) (λ_ _ _ _ _=>jY) (λ_ _ _ _ _=>(iU (hU (ij 0) (hU (jw (Kq tL Z.list pI (hU (ij 1) hW))) hW)))))) hW))))
   (ia (iH 12 lu.sc.nd (iU (hU (jw (jP (N:=[fx,fv]) (fr:=[ar,ar]) (jv.of (m9:=[nP,kf,eH,za,qs,fx,fv,nQ,qp,qq,zb,zi,zr,qe,nR]) (jF:=lu.c) (by decide+kernel)) (jA (ij 1)) (qC (j3 jc (j3 jc uo))) (λ_ _ _ _ _=>(kg (iy (ip 0 (show bN ([fx,fv]:List aX) by decide+kernel)) (iy (ip 1 (show bN ([fx,fv]:List aX) by decide+kernel)) jC)))) (λ_ _ _ _ _=>jY) (λ_ _ _ _ _=>(iU (hU (ij 0) (hU (jw (Kq tL Z.list pI (hU (ij 1) hW))) hW)))))) (hU (ij 11) hW))))
   (ia (iH 13 lu.sc.nd (i9 i a (hU (jg (jx e) (ij 12) ig) (hU (ij 8) (hU (ij 9) (hU (jg (jx e) (ij 12) ig) hW))))))
   (ia (iX (nC (pN (iG (acD a.acs) (ij 12) (iU (hU (ij 1) (hU (ij 4) hW)))) (pN (kU (jO (nh kJ Z.isinstance iC (hU (ij 13) (hU (xt Z.dict IC) hW))))) (nM (iG (vQ a.units) (nh jW Z.len jX (hU (ij 13) hW)) (nh jW Z.len jX (hU (ij 3) hW))))))) (ie (il rT)) iI)
   (ia (iH 14 lu.sc.nd (ij 9))
   (ia (kW (jA (ij 3)) (kg (iy (ip 5 lu.sc.nd) (iy (ip 6 lu.sc.nd) jC))) (ia (Kc (iG (vQ a.units) (i0 lD (ij 14) (ij 8)) ig) (ie (iH 14 lu.sc.nd (i0 jt (ij 14) ig))))
   (ia (iX (nC (pN (iG (vQ a.units) (sO (acq e) PySem.F.plainAttrs_dict PySem.F.slot_dict_get PySem.F.type_dict_get (ij 13) (hU (ij 5) hW)) (ij 14)) (nM (jO (nh kJ Z.isinstance iC (hU (jg (jx e) (ij 13) (ij 5)) (hU (xt Z.bool IB) hW))))))) (ie (il rT)) iI)
   (ie (iH 14 lu.sc.nd (i0 jt (ij 14) (nh Ig Z.sum ID (hU (jg (jx e) (ij 4) (ij 5)) hW))))))))
   (ie (il (u9 (acp a.units) (i9 i a (hU (jw (Zh a.hd Z.list Z.reversed (ij 1))) (hU (ij 8) (hU (ij 9) (hU (ij 4) hW))))) (ij 13)))))))))))))))))))
end
end oz
namespace L3
open PySem PySem.Spec L2
section
variable {R:Bool->Ms->Prop}
def ag7 (tb:DE)(δ:nB)(Q:DK):DK:=λx M1=>match x with|.bl ag=>tb δ M1 Q|.bl au=>Q (.bl au) M1|_=>False
def afd (Q:DK):DK:=λx M1=>match x with|.bl b=>Q (.bl (!b)) M1|_=>False
def aaV (R:Bool->Ms->Prop):DK:=λx M1=>match x with|.bl b=>R b M1|_=>False
def acN (g':G2)(tc:DE)(δ:nB)(y:D)(Q:DK):DK:=λz a=>match z with|.bl ag=>tc δ a λw c=>g' y w c Q|.bl au=>Q (.bl au) a|_=>False
def Zq:vJ ta tb δ M Q=ta δ M (ag7 tb δ Q):=rfl
def Zr:Gp ta δ M Q=ta δ M (afd Q):=rfl
def QM:iu ta δ M R=ta δ M (aaV R):=rfl
def Wj:nN g g' ta tb tc δ M Q=ta δ M λx M1=>tb δ M1 λy M2=>g x y M2 (acN g' tc δ y Q):=rfl
def Zt:afd Q (.bl b) M=Q (.bl (!b)) M:=rfl
def Wk:aaV R (.bl b) M=R b M:=rfl
def Lz{a c:Int}{P:Bool->Prop}:Km (.int a) (.int c) P=P (a==c):=rfl
def Zu{i j:Int}:x4 (.int i) (.int j) M Q=Q (.bl (decide (i<=j))) M:=rfl
def Zv{i j:aX}:x4 (.str i) (.str j) M Q=Q (.bl (!decide (j.cps.toList<i.cps.toList))) M:=rfl
def Zw{K:bz}{d:D}{n:String}:mj K [d,.ty n] M Q=∃b,xG n (vw M d)=aa b/\Q (.bl b) M:=rfl
def Wl{d:D}:lx [d] M Q=∃n:Nat,RQ (vw M d)=aa n/\Q (.int n) M:=rfl
def uN{d:D}:hX 0 (aa d::δ) M Q=Q d M:=rfl
def xo{o:Option D}{i:Nat}:hX (i+1) (o::δ) M Q=hX i δ M Q:=rfl
end
def LA:xG hH .non=aa au:=rfl
def OM:xG hH (.bl b)=aa ag:=rfl
def LB:xG hH (.int i)=aa ag:=rfl
def LC:xG hH (.str x)=aa au:=rfl
def LD:xG hH (.tup ds)=aa au:=rfl
def LF:xG hH (.lst ds)=aa au:=rfl
def LG:xG hH (.kE ks ds)=aa au:=rfl
def IJ:xG ix .non=aa au:=rfl
def LH:xG ix (.bl b)=aa ag:=rfl
def IK:xG ix (.int i)=aa au:=rfl
def IL:xG ix (.str x)=aa au:=rfl
def IM:xG ix (.tup ds)=aa au:=rfl
def IN:xG ix (.lst ds)=aa au:=rfl
def IP:xG ix (.kE ks ds)=aa au:=rfl
def LI:xG hJ .non=aa au:=rfl
def ON:xG hJ (.bl b)=aa au:=rfl
def LJ:xG hJ (.int i)=aa au:=rfl
def LL:xG hJ (.str x)=aa ag:=rfl
def LM:xG hJ (.tup ds)=aa au:=rfl
def LN:xG hJ (.lst ds)=aa au:=rfl
def LO:xG hJ (.kE ks ds)=aa au:=rfl
def FS:xG fi (.tup ds)=aa ag:=rfl
def IQ:xG cr .non=aa au:=rfl
def LP:xG cr (.bl b)=aa au:=rfl
def IS:xG cr (.int i)=aa au:=rfl
def IT:xG cr (.str x)=aa au:=rfl
def IU:xG cr (.tup ds)=aa au:=rfl
def IV:xG cr (.lst ds)=aa ag:=rfl
def IW:xG cr (.kE ks ds)=aa au:=rfl
def acO:vw M .non=.non:=rfl
def afe:vw M (.bl b)=(.bl b):=rfl
def aff:fz M (.bl b)=(.bl b):=rfl
def afg:nl (.bl b)=ag:=rfl
def Wm:vw M (.int i)=(.int i):=rfl
def acP:vw M (.str x)=(.str x):=rfl
def acQ:nl (.str x)=ag:=rfl
def acR:vw M (.tup ds)=(.tup ds):=rfl
def acS:vw M (.lst ds)=(.lst ds):=rfl
def acT:vw M (.kE ks ds)=(.kE ks ds):=rfl
def acU:mY []=ag:=rfl
def Zx{d:D}{ds:List D}:mY (d::ds)=(nl d&&mY ds):=rfl
def acV{ds:List D}:RQ (.lst ds)=aa ds.length:=rfl
def acW{ds:List D}:RQ (.tup ds)=aa ds.length:=rfl
def acX{x:aX}:RQ (.str x)=if x.length<=aO then aa x.length else ar:=rfl
def acY{n:Nat}{gs:Yn}{ds:List D}{a:nB}{M:Ms}{Q:nB->Ms->Prop}:k7 n gs (.tup ds) a M Q=(ds.length=n/\gs ds a M Q):=rfl
def Zy{g:DG}{gs:Yn}{d:D}{ds:List D}{a:nB}{M:Ms}{Q:nB->Ms->Prop}:iO g gs (d::ds) a M Q=g d a M λb M1=>gs ds b M1 Q:=rfl
local macro_rules | `(tactic| walk_at "m") => `(tactic| simp (decide := ag) only [lN, cl, iz, jl, iA, dC, iN, js, oA, Ft, ib, hV, i5, iP, iq, xY, Option.getD_some, List.getElem?_cons_zero, Zq, Zr, QM, Wj, Zt, Fx, Lz, Zu, Zv, Zw, Wl, acY, Zy, acV, acW, acX, uN, xo, LA, OM, LB, LC, LD, LF, LG, IJ, LH, IK, IL, IM, IN, IP, LI, ON, LJ, LL, LM, LN, LO, FS, IQ, LP, IS, IT, IU, IV, IW, qf, bq, gA, aU, cm, bX, eU, eA, List.set_cons_zero, gH, true_and, Bool.true_and, Bool.and_true, acO, afe, aff, afg, Wm, acP, acQ, acR, acS, acT, acU, Zx])
def Wn{i j:Int}{M:Ms}{Q:DK}:jn (.int i) (.int j) M Q=Q (.int (i+j)) M:=rfl
end L3
namespace FJ
open PySem PySem.Spec PyProof.Rows.KTD L2 L3
def acZ(h:a=b)(q:Q (.bl au) M):Fx (.int a) (.int b) M Q:=by subst h;show Q _ M;rw[beq_self_eq_true];exact q
def ac0(h:¬b<a)(q:Q (.bl au) M):(RJ λi j=>.bl (decide (j<i))) (.int a) (.int b) M Q:=by show Q (.bl _) M;rw[decide_eq_false h];exact q
abbrev Pt:=aX×List Rw
def mx(p:Pt):D:=.tup [.str p.1,.lst (p.2.map Rw.d)]
def Jz(c:CA)(p:Pt):D:=.tup [.str p.1,.lst (p.2.map (Rw.ins c))]
def Rw.jQ:Rw->Bool
 |.mark _ _=>ag
 |_=>au
def markD:D->Bool
 |.tup (.str k::_)=>k==mX
 |_=>au
def IX(r:Rw):markD r.d=r.jQ:=by cases r<;>rfl
def ln(rs:List Rw):Nat:=(rs.filter Rw.jQ).length
def A7(rs:List Rw):Nat:=rs.length- ln rs
def z8:GP:=λds Q=>∃r:Rw,ds=[r.d]/\Q (.bl r.jQ)
def FT:jD z8:=by
 rintro ds P Q w ⟨r,h,q⟩
 exact⟨r,h,w _ q⟩
def S0(K:bz):∀ds Q,z8 ds Q->lN 1 1 (tQ K) ds Q:=by
 rintro ds Q ⟨r,h,q⟩
 subst h;cases r;all_goals
  walk_at "e";exact q
def wq(rs:List Rw):mY (rs.map Rw.d)=ag:=kZ Rw.nld rs
def CI:GP:=λds Q=>∃rs:List Rw,ds=[.lst (rs.map Rw.d)]/\rs.length<=1000/\Q (.int (ln rs))
def IY:jD CI:=by
 rintro ds P Q w ⟨r,h,l,q⟩
 exact⟨r,h,l,w _ q⟩
def EF(rs:List Rw):((rs.map Rw.d).filterMap λd=>if markD d=ag then aa d else ar).length=ln rs:=by
 unfold ln;induction rs with
 |nil=>rfl
 |cons r rs a=>
  rw[bq,bO,gu,IX];cases r.jQ with
  |true=>simp only [if_true,aU,a]
  |false=>simp only [dX,if_false,a]
def GY(h:n<=1000):n<=aO:=bG h (by decide)
def Wo:∀ds Q,CI ds Q->lN 1 1 (xI (cl z8)) ds Q:=by
 rintro ds Q ⟨rs,h,l,q⟩
 subst h;refine⟨rfl,?_⟩;refine⟨_,rfl,rfl,?_⟩;refine uq (λd=>if markD d=ag then aa d else ar) ?_ _ _ ?_ (λx a e c=>?_) ?_
 .exact rfl
 .rw[ao,cm,bR];exact GY l
 .obtain⟨r,_,rfl⟩:=bQ.mp a;refine⟨by unfold mY;rw[r.nld];rfl,r,rfl,?_⟩;have:=c _ (show HC [ar] [aa r.d]=_ from rfl);rw[IX] at this;generalize r.jQ=b at this |-;cases b<;>exact this
 .refine⟨_,rfl,?_⟩;refine⟨rfl,?_⟩;rw[eA,EF];exact q
def S5(rs:List Rw):ln rs<=rs.length:=ahU _ _
def z9:GP:=λds Q=>∃rs:List Rw,ds=[.lst (rs.map Rw.d)]/\rs.length<=1000/\Q (.int (A7 rs))
def FU:jD z9:=by
 rintro ds P Q w ⟨r,h,l,q⟩
 exact⟨r,h,l,w _ q⟩
def CJ(rs:List Rw):mY [.lst (rs.map Rw.d)]=ag:=by show(mY _&&ag)=ag;rw[wq];rfl
def S6:∀ds Q,z9 ds Q->lN 1 1 (v8 (cl CI)) ds Q:=by
 rintro ds Q ⟨rs,h,l,q⟩
 subst h;refine⟨rfl,?_⟩;refine⟨_,rfl,?_⟩;refine⟨CJ rs,rs,rfl,l,?_⟩;refine⟨rfl,?_⟩;show Q (.int _);have e:((rs.map Rw.d).length:Int)- (ln rs:Int)=((A7 rs:Nat):Int):=by have:=S5 rs;rw[ao];unfold A7;omega
 rw[e];exact q
structure afh(p:Pt):Prop where
 w:qF p.1=ag
 lo:1<=A7 p.2
 hi:A7 p.2<=60
 len:p.2.length<=1000
def Wp(p:Pt):nl (mx p)=ag:=by show(ag&&(mY _&&ag))=ag;rw[wq];rfl
def A8:GP:=λds Q=>∃p:Pt,ds=[mx p]/\afh p/\Q (.bl ag)
def EG:jD A8:=by
 rintro ds P Q w ⟨p,h,l,q⟩
 exact⟨p,h,l,w _ q⟩
def OO(K:bz):∀ds Q,A8 ds Q->lN 1 1 (GQ K (cl oN) (cl z9)) ds Q:=by
 rintro ds Q ⟨p,h,ok,q⟩
 subst h;walk_at "e";refine⟨p.1,ok.w,rfl,?_⟩;walk_at "e";refine⟨CJ p.2,p.2,rfl,ok.len,?_⟩;have a:(1:Int)<=(A7 p.2:Int):=by have:=ok.lo;omega
 have b:(A7 p.2:Int)<=60:=by have:=ok.hi;omega
 show(match D.bl _ with|D.bl ag=>nl _=ag/\Q _|D.bl au=>nl _=ag/\Q _|_=>False);rw[decide_eq_true a,decide_eq_true b];exact⟨rfl,q⟩
structure afi(ps:List Pt):Prop where
 lo:1<=ps.length
 hi:ps.length<=12
 all:∀p∈ps,afh p
 nd:(ps.map aQ).Nodup
 rows:(ps.map λp=>(A7 p.2:Int)).sum<=200
 marks:(ps.map λp=>(ln p.2:Int)).sum<=200
def nH(a:List Pt):mY (a.map mx)=ag:=kZ Wp a
def wt(a:List Pt):mY [.lst (a.map mx)]=ag:=by show(mY _&&ag)=ag;rw[nH];rfl
theorem GZ:∀(val:Nat->aX) (n:Nat),(∀i j,i<j->j<n->val i≠val j)->(B8 val n).length=n/\∀k,(B8 val n).any (·==k)=ag->∃i,i<n/\val i=k
 |val,0,_=>⟨rfl,λk h=>by simp[B8] at h⟩
 |val,n+1,h=>by
  obtain⟨g,f⟩:=GZ val n λi j a b=>h i j a (by omega);have hn:(B8 val n).any (·==val n)=au:=by
   cases e:(B8 val n).any _ with
   |false=>rfl
   |true=>obtain⟨i,a,b⟩:=f _ e;exact absurd b (h i n a (by omega))
  constructor
  .show(PyProof.Rows.step_dedup _ _).length=_;rw[Ve,hn,g];rfl
  .intro k c;have c:(PyProof.Rows.step_dedup _ (val n)).any _=ag:=c;rw[Vd,Bool.or_eq_true] at c;rcases c with c|c
   .obtain⟨i,a,b⟩:=f k c;exact⟨i,by omega,b⟩
   .exact⟨n,by omega,(of_decide_eq_true c).symm⟩
def EH(rs:List Rw):((rs.map Rw.d).filter markD).length=ln rs:=by
 unfold ln;induction rs with
 |nil=>rfl
 |cons r rs a=>
  rw[bq,bO,bO,IX];cases r.jQ with
  |true=>simp only [if_true,aU,a]
  |false=>simp only [dX,if_false,a]
def QN(rs:List Rw):(((rs.map Rw.d).length- ((rs.map Rw.d).filter markD).length:Nat):Int)=(A7 rs:Int):=by rw[EH,ao];rfl
def OP(h:ss.Nodup):YF ss=ss.length:=by refine(GZ _ _ λi j b a=>?_).1;rw[bv,bv,ax (by omega),ax a];exactλz=>absurd ((eP h).mp z) (by omega)
def Wq:GP:=λds Q=>∃a:List Pt,ds=[.lst (a.map mx)]/\afi a/\Q (.bl ag)
def OQ:jD Wq:=by
 rintro ds P Q w ⟨p,h,l,q⟩
 exact⟨p,h,l,w _ q⟩
def ac1(K:bz):∀ds Q,Wq ds Q->lN 1 1 (BM K (cl A8) (cl z9) (cl CI)) ds Q:=by
 rintro ds Q ⟨a,h,ok,q⟩
 subst h;have f:(a.map mx).length<=aO:=by rw[ao];exact GY (by have:=ok.hi;omega)
 have b1:(1:Int)<=((a.map mx).length:Int):=by have:=ok.lo;rw[ao];omega
 have b2:((a.map mx).length:Int)<=12:=by have:=ok.hi;rw[ao];omega
 conv=>whnf
 walk_at "e";rw[decide_eq_true b1];walk_at "e";rw[decide_eq_true b2];conv=>whnf
 refine⟨_,rfl,rfl,?_⟩;refine mP (λ_=>.bl ag) ?_ _ _ ?_ (λx b g c=>?_) ?_
 .exact rfl
 .rw[cm,bR];exact f
 .obtain⟨p,e,rfl⟩:=bQ.mp b;exact⟨by unfold mY;rw[Wp];rfl,p,rfl,ok.all p e,c _ rfl⟩
 refine⟨(a.map mx).map λ_=>ag,(by rw[bx,bx,bx];rfl),?_⟩;rw[show((a.map mx).map λ_=>ag).all id=ag by simp];conv=>whnf
 refine⟨_,rfl,rfl,?_⟩;refine mP (λd=>match d with|.tup (n::_)=>n|_=>.non) ?_ _ _ ?_ (λx b g c=>?_) ?_
 .exact rfl
 .rw[cm,bR];exact f
 .obtain⟨p,e,rfl⟩:=bQ.mp b;exact⟨_,rfl,c _ rfl⟩
 refine⟨a.map aQ,(by rw[bx,bx];rfl),by rw[ao];have:=ok.hi;omega,?_⟩;refine⟨_,rfl,?_⟩;refine acZ (by rw[OP ok.nd];simp) ?_;conv=>whnf
 refine⟨_,rfl,rfl,?_⟩;refine mP (λd=>match d with|.tup [_,.lst rs]=>.int ((rs.length- (rs.filter markD).length:Nat):Int)|_=>.non) ?_ _ _ ?_ (λx b g c=>?_) ?_
 .exact rfl
 .rw[cm,bR];exact f
 .obtain⟨p,e,rfl⟩:=bQ.mp b;refine⟨_,rfl,CJ p.2,p.2,rfl,(ok.all p e).len,?_⟩;rw[<-QN p.2];exact c _ rfl
 refine⟨a.map λp=>(A7 p.2:Int),(by rw[bx,bx];exact congrArg D.lst (eZ λp _=>congrArg D.int (QN p.2))),?_⟩;dsimp only [dC];refine ac0 ?_ ?_
 .have:=ok.rows;omega
 conv=>whnf
 refine⟨_,rfl,rfl,?_⟩;refine mP (λd=>match d with|.tup [_,.lst rs]=>.int ((rs.filter markD).length:Int)|_=>.non) ?_ _ _ ?_ (λx b g c=>?_) ?_
 .exact rfl
 .rw[cm,bR];exact f
 .obtain⟨p,e,rfl⟩:=bQ.mp b;refine⟨_,rfl,CJ p.2,p.2,rfl,(ok.all p e).len,?_⟩;rw[<-EH p.2];exact c _ rfl
 refine⟨a.map λp=>(ln p.2:Int),(by rw[bx,bx];exact congrArg D.lst (eZ λp _=>congrArg (λn:Nat=>D.int n) (EH p.2))),?_⟩;dsimp only [dC];refine CH ?_ ?_
 .exact ok.marks
 .exact⟨rfl,q⟩
def sD(c:CA)(rs:List Rw):mY (rs.map (Rw.ins c))=ag:=kZ (Rw.nli c) rs
def A9 (c:CA):GP:=λds Q=>∃(n:aX) (rs:List Rw),ds=[.str n,.lst (rs.map Rw.d)]/\(∀r∈rs,r.ok=ag)/\rs.length<=1000/\Q (.lst (rs.map (Rw.ins c)))
def EI:jD (A9 c):=by
 rintro ds P Q w ⟨n,rs,h,ok,l,q⟩
 exact⟨n,rs,h,ok,l,w _ q⟩
def take_snoc{β:Type}{l:List β}{x:β}(h:l[j]?=aa x):l.take (j+1)=l.take j++[x]:=by rw[List.take_add_one,h];rfl
def zd{β a:Type}{f:β->a}{l:List β}{j:Nat}{y:a}(h:(l.map f)[j]?=aa y):∃x,l[j]?=aa x/\y=f x:=by
 rw[bh] at h;cases e:l[j]? with
 |none=>rw[e] at h;cases h
 |some x=>rw[e] at h;cases h;exact⟨x,rfl,rfl⟩
def EJ{l:List D}{j:Nat}(h:(l.mapIdx λi d=>D.tup [.int i,d])[j]?=aa y):∃x,l[j]?=aa x/\y=.tup [.int j,x]:=by
 rw[ah3] at h;cases e:l[j]? with
 |none=>rw[e] at h;cases h
 |some x=>rw[e] at h;cases h;exact⟨x,rfl,rfl⟩
def OR:∀ds Q,A9 c ds Q->lN 6 2 (GR (Eb c)) ds Q:=by
 rintro ds Q ⟨n,rs,h,ok,l,q⟩
 subst h;refine⟨rfl,?_⟩;refine⟨bD _,?_⟩;refine⟨_,rfl,rfl,?_⟩;refine zA (λj a M=>∃o1 o2 b,M=[aa (.lst ((rs.take j).map (Rw.ins c)))]/\a=[aa (.str n),aa _,aa (.loc 0),o1,o2,b]) (λ_ _ _ _=>?_) _ 0 _ _ ⟨ar,ar,ar,rfl,rfl⟩ (λj x a M i e N f=>?_) (λa M e=>?_)
 .exact rfl
 .obtain⟨o1,o2,b,rfl,rfl⟩:=e;obtain⟨y,m,rfl⟩:=EJ i;obtain⟨r,g,rfl⟩:=zd m;have o:=ok r (bA g);rw[bR] at f |-;refine⟨rfl,rfl,?_⟩;refine⟨r,o,rfl,?_⟩;refine⟨rfl,_,rfl,?_,f _ _ ⟨_,_,_,?_,rfl⟩⟩
  .rw[ao,dM];exact d6 (bG (Nat.min_le_right _ _) l) (by decide)
  .rw[take_snoc g,ba];rfl
 .obtain⟨o1,o2,b,rfl,rfl⟩:=e;rw[bR,List.length_mapIdx,ao,List.take_length];exact⟨sD c rs,q⟩
def jf:List Rw->Option Rw
 |[]=>ar
 |r::rs=>if r.jQ then jf rs else aa r
def FV(c:CA):Option Rw->D
 |none=>.non
 |some r=>r.ins c
structure Wr(K:bz)(c:CA):Prop where
 io:∀k:Kn,PZ K (c.at k)
 mark:∀k,dt K (.ref (c.at k)) (.ref c.Mark)=aa (match k with|.Mark=>ag|_=>au)
 code:∀k,dt K (.ref (c.at k)) (.ref c.Code)=aa (match k with|.Mark|.lC|.Table=>au|_=>ag)
 nums:∀k,dt K (.ref (c.at k)) (.ref c.lC)=aa (match k with|.lC=>ag|_=>au)
 ag8:∀k,dt K (.ref (c.at k)) (.ref c.Table)=aa (match k with|.Table=>ag|_=>au)
 ag9:dt K (.type rh) (.ref c.Code)=aa au
def Aa(a:Wr K c)(r:Rw){M:Ms}{Q:DK}(q:Q (.bl r.jQ) M):mj K [r.ins c,.cls c.Mark] M Q:=by refine⟨.ref (c.at r.kn),r.jQ,rfl,λC ns es e=>by cases e;exact a.io _,?_,q⟩;rw[a.mark];cases r<;>rfl
def LQ(a:Wr K c)(r:Rw){M:Ms}{Q:DK}(q:Q (.bl r.code) M):mj K [r.ins c,.cls c.Code] M Q:=by refine⟨.ref (c.at r.kn),r.code,rfl,λC ns es e=>by cases e;exact a.io _,?_,q⟩;rw[a.code];cases r<;>rfl
def CK (c:CA):GP:=λds Q=>∃rs:List Rw,ds=[.lst (rs.map (Rw.ins c))]/\Q (FV c (jf rs))
def IZ:jD (CK c):=by
 rintro ds P Q w ⟨rs,h,q⟩
 exact⟨rs,h,w _ q⟩
def Ws(g:Wr K c):∀ds Q,CK c ds Q->lN 2 1 (nV K c.Mark) ds Q:=by
 rintro ds Q ⟨rs,h,q⟩
 subst h;have b:=@Aa K c g;unfold nV;generalize mj K=i at b |-;refine⟨rfl,?_⟩;refine⟨_,rfl,rfl,?_⟩;have gen:∀(l:List Rw) (st:Ms->Prop) (o:Option D),st []->FV c (jf l)=FV c (jf rs)->xV (iq 1) (js (oA (iu (i5 (i) (hV (hX 1) (hV (dC (.cls c.Mark)) ib))))) (iN (hX 1)) iP) st ⟨λ_ _=>nl (.non)=ag/\Q .non,λd f=>nl (fz f d)=ag/\Q (fz f d),λ_ _=>False,λ_ _=>False⟩ (l.map (Rw.ins c)) [aa (.lst (rs.map (Rw.ins c))),o] []:=by
  intro l;induction l with
  |nil=>intro st o a e;rw[<-e] at q;exact⟨rfl,q⟩
  |cons r l j=>
   intro st o a e;refine b r ?_;cases hm:r.jQ with
   |true=>
    refine⟨a,j st _ a ?_⟩;rw[<-e];show FV c _=FV c (if r.jQ=ag then _ else _);rw[hm];rfl
   |false=>
    have e':FV c (jf rs)=r.ins c:=by rw[<-e];show FV c (if r.jQ=ag then _ else _)=_;rw[hm];rfl
    rw[e'] at q;exact⟨r.nli c,q⟩
 exact gen rs _ ar rfl rfl
def Ab:Option Rw->Bool
 |some r=>r.code
 |none=>au
def l6:List Rw->Bool
 |[]=>ag
 |r::rs=>(!r.N8||Ab (jf rs))&&(!r.jQ||(jf rs).isSome)&&l6 rs
theorem BR:∀{rs:List Rw} {j:Nat} {r:Rw},l6 rs=ag->rs[j]?=aa r->(r.N8=ag->Ab (jf (rs.drop (j+1)))=ag)/\(r.jQ=ag->(jf (rs.drop (j+1))).isSome=ag)
 |r::rs,0,a,h,e=>by cases e;unfold l6 at h;rw[aZ,aZ,Bool.or_eq_true,Bool.or_eq_true] at h;refine⟨λg=>h.1.1.resolve_left (by rw[g];decide),λg=>h.1.2.resolve_left (by rw[g];decide)⟩
 |r::rs,j+1,a,h,e=>by unfold l6 at h;rw[aZ] at h;exact BR (rs:=rs) h.2 e
 |[],_,_,_,e=>by cases e
def S7(a:Wr K c)(o:Option Rw){M:Ms}{Q:DK}(q:Q (.bl (Ab o)) M):mj K [FV c o,.cls c.Code] M Q:=by
 cases o with
 |some r=>exact LQ a r q
 |none=>exact⟨.type _,au,rfl,(λC ns es e=>nomatch e),a.ag9,q⟩
def Wt(o:Option Rw){M:Ms}{Q:DK}(q:Q (.bl (!o.isSome)) M):gIs (FV c o) .non M Q:=by cases o<;>exact q
def sV (c:CA):GP:=λds Q=>∃(n:aX) (rs:List Rw),ds=[.str n,.lst (rs.map (Rw.ins c))]/\l6 rs=ag/\Q .non
def yD:jD (sV c):=by
 rintro ds P Q w ⟨n,rs,h,ok,q⟩
 exact⟨n,rs,h,ok,w _ q⟩
def EK(f:Wr K c):∀ds Q,sV c ds Q->lN 5 2 (nj K (cl (CK c)) (V1 c) c.Code c.Mark) ds Q:=by
 rintro ds Q ⟨n,rs,h,ok,q⟩
 subst h;have g:=@Aa K c f;have i:=@S7 K c f;have is:=@Wt c;unfold nj;generalize mj K=z at g i |-;generalize gIs=gs at is |-;refine⟨rfl,?_⟩;refine⟨_,rfl,rfl,?_⟩;refine zA (λj a M=>∃o1 o2 m,M=[]/\a=[aa (.str n),aa _,o1,o2,m]) (λ_ _ _ ⟨_,_,_,e,_⟩=>by rw[e]) _ 0 _ _ ⟨ar,ar,ar,rfl,rfl⟩ (λj x a M A p N s=>?_) (λa M p=>?_)
 .obtain⟨o1,o2,m,rfl,rfl⟩:=p;obtain⟨y,B,rfl⟩:=EJ A;obtain⟨r,C,rfl⟩:=zd B;obtain⟨u,v⟩:=BR ok C;refine⟨rfl,rfl,?_⟩;conv=>whnf
  rw[show cutD _ _ ar=(rs.drop (j+1)).map _ by rw[show(j:Int)+1=((j+1:Nat):Int) from rfl,zQ,hG]];refine⟨by show(mY _&&ag)=ag;rw[sD];rfl,rs.drop (j+1),rfl,?_⟩;generalize jf _=o at u v |-;have tl:∀b,b=[aa (.str n),aa (.lst (rs.map (Rw.ins c))),aa (.int j),aa (r.ins c),aa (FV c o)]->(js (Ay (iu (i5 z (hV (hX 3) (hV (dC (.cls c.Mark)) ib)))) (iu (iA gs (hX 4) (dC .non)))) um iP) ⟨N,λd w=>nl (fz w d)=ag/\Q (fz w d),λ_ _=>Q .non,N⟩ b []:=by
   intro b e;subst e;refine g r ?_;cases hm:r.jQ with
   |true=>
    refine is o ?_;rw[v hm];exact s _ _ ⟨_,_,_,rfl,rfl⟩
   |false=>
    exact s _ _ ⟨_,_,_,rfl,rfl⟩
  refine⟨_,_,_,_,rfl,rfl,⟨r.kn,rfl,rfl⟩,by unfold mY;rw[r.nli];rfl,r,rfl,rfl,?_⟩;cases E:r.N8 with
  |true=>
   refine i o ?_;rw[u E];exact tl _ rfl
  |false=>exact tl _ rfl
 .exact q
structure Zz(ps:List Pt):Prop where
 G1:afi ps
 rows:∀p∈ps,∀r∈p.2,r.ok=ag
 ends:∀p∈ps,l6 p.2=ag
def ac2(c:CA)(p:Pt):nl (Jz c p)=ag:=by show(ag&&(mY _&&ag))=ag;rw[sD];rfl
def Ja(c:CA)(a:List Pt):mY (a.map (Jz c))=ag:=kZ (ac2 c) a
def EL (c:CA):GP:=λds Q=>∃a:List Pt,ds=[.lst (a.map mx)]/\Zz a/\Q (.lst (a.map (Jz c)))
def FW:jD (EL c):=by
 rintro ds P Q w ⟨rs,h,ok,q⟩
 exact⟨rs,h,ok,w _ q⟩
theorem iY{β:Type}(e f:β->D)(b:st M):∀(xs:List β) (acc:List D),acc.length+xs.length<=aO->
  (∀x∈xs,∀c:Option D->nB->Ms->Prop,(∀a,HC fr a=i->c (aa (f x)) a M)->Gs g tt m (e x) i M c)->Q (acc++xs.map f) M->tJ fr g tt m st Q (xs.map e) acc i M
 |[],acc,_,_,q=>by rw[gA,bu] at q;exact q
 |x::xs,acc,j,h,q=>by refine h x aN _ λa e1=>⟨b,by simp at j;omega,?_⟩;rw[e1];refine iY e f b xs _ (by simp at j |-;omega) (λy n=>h y (aB _ n)) ?_;rw[bi];exact q
theorem jk{β:Type}(e f:β->D)(p:β->Bool)(a:st M):∀(xs:List β) (acc:List D),acc.length+xs.length<=aO->
  (∀x∈xs,∀j:Option D->nB->Ms->Prop,(∀b,HC fr b=m->j (if p x=ag then aa (f x) else ar) b M)->Gs g tt o (e x) m M j)->Q (acc++(xs.filter p).map f) M->tJ fr g tt o st Q (xs.map e) acc m M
 |[],acc,_,_,q=>by rw[List.filter_nil,gA,bu] at q;exact q
 |x::xs,acc,c,h,q=>by
  refine h x aN _ λb e1=>⟨a,?_⟩;rw[bO] at q;cases n:p x with
  |false=>
   rw[n] at q;rw[e1];exact jk e f p a xs acc (by simp at c |-;omega) (λy i=>h y (aB _ i)) q
  |true=>
   rw[n] at q;refine⟨by simp at c;omega,?_⟩;rw[e1];refine jk e f p a xs _ (by simp at c |-;omega) (λy i=>h y (aB _ i)) ?_;rw[bi];exact q
theorem iQ{β:Type}(e:β->D)(Pv:List β->List β->nB->Ms->Prop)(j:∀a b c M,Pv a b c M->st M):∀(xs pre:List β) (c:nB) (M:Ms),Pv pre xs c M->
  (∀pre x xs c M,Pv pre (x::xs) c M->∀N:nB->Ms->Prop,(∀f i,Pv (pre++[x]) xs f i->N f i)->g (e x) c M λn M1=>tb {E with nx:=N,ct:=N,bk:=E.nx} n M1)->
  (∀pre c M,Pv pre [] c M->E.nx c M)->xV g tb st E (xs.map e) c M
 |[],pre,c,M,p,_,z=>z pre c M p
 |x::xs,pre,c,M,p,h,z=>by exact h pre x xs c M p _ λf i m=>⟨j _ _ _ _ m,iQ e Pv j xs _ f i m h z⟩
def S8:∀ds Q,EL c ds Q->lN 4 1 (BN (cl Wq) (cl (A9 c)) (cl (sV c))) ds Q:=by
 rintro ds Q ⟨f,h,ok,q⟩
 subst h;have n:f.length<=aO:=GY (by have:=ok.G1.hi;omega);refine⟨rfl,wt f,f,rfl,ok.G1,?_⟩;refine⟨_,rfl,rfl,?_⟩;refine iY mx (Jz c) ?_ _ _ ?_ (λx g r o=>?_) ?_
 .exact rfl
 .rw[cm,bR];exact n
 .refine⟨_,rfl,_,rfl,_,rfl,?_,x.1,x.2,rfl,ok.rows x g,(ok.G1.all x g).len,?_⟩
  .show(ag&&(mY _&&ag))=ag;rw[wq];rfl
  .exact⟨aq rfl,o _ rfl⟩
 refine⟨_,rfl,rfl,?_⟩;refine iQ (Jz c) (λa b i M=>f=a++b/\∃o1 o2,M=[]/\i=[aa _,aa _,o1,o2]) (λ_ _ _ _ ⟨_,_,_,e,_⟩=>by rw[e]) f [] _ _ ⟨rfl,ar,ar,rfl,rfl⟩ (λpre x xs i M j N p=>?_) (λpre i M j=>?_)
 .obtain⟨m,o1,o2,rfl,rfl⟩:=j;have g:x∈f:=by rw[m];simp
  refine⟨rfl,rfl,?_,x.1,x.2,rfl,ok.ends x g,p _ _ ⟨by rw[m];simp,_,_,rfl,rfl⟩⟩;show(ag&&(mY _&&ag))=ag;rw[sD];rfl
 .obtain⟨m,o1,o2,rfl,rfl⟩:=j;exact⟨Ja c f,q⟩
def sE(a:List Pt):List Pt:=lR (a.map aQ) a
theorem G3(c:CA):∀a:List Pt,yi (a.map (Jz c)) (a.map aQ)
 |[]=>trivial
 |p::a=>⟨⟨_,rfl⟩,G3 c a⟩
theorem LR(g:β->a)(p:aX×β):∀l:List _,L3.vT aQ (p.1,g p.2) (l.map λq=>(q.1,g q.2))=(L3.vT aQ p l).map λq=>(q.1,g q.2)
 |[]=>rfl
 |q::l=>by
  rw[bq];unfold L3.vT;split
  .rfl
  .rw[LR g p l];rfl
theorem QP(g:β->a):∀l:List _,L3.RY aQ (l.map λq=>(q.1,g q.2))=(L3.RY aQ l).map λq=>(q.1,g q.2)
 |[]=>rfl
 |q::l=>by show L3.vT aQ _ _=_;rw[QP g l,LR];rfl
def G4(g:β->b)(a:List aX)(l:List β):lR a (l.map g)=(lR a l).map g:=by
 unfold lR;have:a.zip (l.map g)=(a.zip l).map λq=>(q.1,g q.2):=by rw[List.zip_map_right];rfl
 rw[this,QP,bx,bx];rfl
def tT (c:CA):GP:=λds Q=>∃a:List Pt,ds=[.lst (a.map (Jz c))]/\(a.map aQ).Nodup/\a.length<64/\Q (.lst ((sE a).map (Jz c)))
def EM:jD (tT c):=by
 rintro ds P Q w ⟨a,h,nd,l,q⟩
 exact⟨a,h,nd,l,w _ q⟩
def OS:∀ds Q,tT c ds Q->lN 1 1 GU ds Q:=by
 rintro ds Q ⟨a,h,nd,l,q⟩
 subst h;refine⟨rfl,_,_,rfl,G3 c a,nd,by rw[ao];exact l,?_⟩;rw[G4];exact⟨Ja c _,q⟩
abbrev Mk:=aX×Bool×aX×Nat
def OT(m:Mk):D:=.tup [.str m.1,.bl m.2.1,.tup [.str m.2.2.1,.int m.2.2.2]]
def OU(m:Mk):nl (OT m)=ag:=rfl
def kM(n:aX):Nat->List Rw->List Mk
 |_,[]=>[]
 |k,.mark w b::rs=>(w,b,n,k)::kM n k rs
 |k,_::rs=>kM n (k+1) rs
def oj(h:r.jQ=au):kM n k (r::rs)=kM n (k+1) rs:=by cases r<;>first|rfl|cases h
theorem sF(n:aX):∀(k:Nat) (rs:List Rw),(kM n k rs).length<=rs.length
 |_,[]=>aD _
 |k,r::rs=>by
  cases hm:r.jQ with
  |false=>rw[oj hm];exact eM (sF n _ rs)
  |true=>cases r<;>first|(cases hm;done)|exact fX (sF n k rs)
def yE (c:CA):GP:=λds Q=>∃(n:aX) (rs:List Rw),ds=[.str n,.lst (rs.map (Rw.ins c))]/\rs.length<=1000/\Q (.lst ((kM n 0 rs).map OT))
def Cj:jD (yE c):=by
 rintro ds P Q w ⟨n,a,h,l,q⟩
 exact⟨n,a,h,l,w _ q⟩
def LS(p:Wr K c):∀ds Q,yE c ds Q->lN 7 2 (qh K c.Mark (m4 c)) ds Q:=by
 rintro ds Q ⟨n,rs,h,l,q⟩
 subst h;have m:=@Aa K c p;unfold qh;generalize mj K=s at m |-;refine⟨rfl,?_⟩;refine⟨bD _,?_⟩;refine⟨_,rfl,rfl,?_⟩;refine iQ _ (λa b g M=>∃(k:Nat) (ms:List Mk) (o1 o2 i:Option D),kM n 0 rs=ms++kM n k b/\M=[aa (.lst (ms.map OT))]/\g=[aa (.str n),aa _,aa (.loc 0),aa (.int k),o1,o2,i]) (λ_ _ _ _ ⟨_,_,_,_,_,_,e,_⟩=>rfl) rs [] _ _ ⟨0,[],ar,ar,ar,rfl,rfl,rfl⟩ (λpre x xs g M j N o=>?_) (λpre g M j=>?_)
 .obtain⟨k,ms,o1,o2,i,f,rfl,rfl⟩:=j;refine m x ?_;cases hm:x.jQ with
  |true=>
   cases x with
   |mark w b=>
    have r:(ms.map OT).length<aO:=by have:=sF n 0 rs;rw[f,aE] at this;rw[ao];exact d6 (show ms.length<=1000 by omega) (by decide)
    refine⟨_,_,_,_,rfl,rfl,⟨.Mark,rfl,rfl⟩,by rfl,.mark w b,rfl,rfl,?_⟩;refine⟨λz=>Nat.one_ne_zero z.1,rfl,rfl,rfl,?_⟩;refine⟨aq rfl,?_⟩;refine⟨aq rfl,?_⟩;refine⟨_,rfl,r,o _ _ ⟨k,ms++[(w,b,n,k)],_,_,_,?_,?_,rfl⟩⟩
    .rw[f,bi];rfl
    .rw[ba];rfl
   |_=>cases hm
  |false=>
   exact⟨trivial,o _ _ ⟨k+1,ms,_,_,_,by rw[f,oj hm],rfl,rfl⟩⟩
 .obtain⟨k,ms,o1,o2,i,f,rfl,rfl⟩:=j;have e:kM n 0 rs=ms:=by rw[f];exact bu _
  rw[e] at q;exact⟨kZ OU ms,q⟩
def OV(a:List aX)(l:List β)(h:a.length=l.length):(lR a l).Perm l:=by refine(ahD.map _ (L3.qQ _ _)).trans ?_;rw[fR (by omega)]
def jR(a:List Pt):(sE a).Perm a:=OV _ _ (by simp)
def kN(a:List Pt):List Mk:=(sE a).flatMap λp=>kM p.1 0 p.2
structure ac3(ps:List Pt):Prop where
 nd:(ps.map aQ).Nodup
 l:ps.length<64
 len:∀p∈ps,p.2.length<=1000
 ml:(kN ps).length<=1000
def yF (c:CA):GP:=λds Q=>∃a:List Pt,ds=[.lst (a.map (Jz c))]/\ac3 a/\Q (.lst ((kN a).map OT))
def Ck:jD (yF c):=by
 rintro ds P Q w ⟨a,h,l,q⟩
 exact⟨a,h,l,w _ q⟩
def EN(c:CA)(a:List Pt):mY [.lst (a.map (Jz c))]=ag:=by show(mY _&&ag)=ag;rw[Ja];rfl
def LU:∀ds Q,yF c ds Q->lN 4 1 (Ee (cl (tT c)) (cl (yE c))) ds Q:=by
 rintro ds Q ⟨f,h,ok,q⟩
 subst h;refine⟨rfl,?_⟩;refine⟨bD _,?_⟩;refine⟨EN c f,f,rfl,ok.nd,ok.l,?_⟩;refine⟨_,rfl,rfl,?_⟩;refine iQ (Jz c) (λa b i M=>∃(o1 o2:Option D),sE f=a++b/\M=[aa (.lst ((a.flatMap λp=>kM p.1 0 p.2).map OT))]/\i=[aa _,aa (.loc 0),o1,o2]) (λ_ _ _ _ ⟨_,_,_,e,_⟩=>rfl) _ [] _ _ ⟨ar,ar,rfl,rfl,rfl⟩ (λpre x xs i M j N m=>?_) (λpre i M j=>?_)
 .obtain⟨o1,o2,g,rfl,rfl⟩:=j;have n:x∈f:=(jR f).mem_iff.mp (by rw[g];simp);refine⟨rfl,rfl,rfl,?_,x.1,x.2,rfl,ok.len x n,?_⟩
  .show(ag&&(mY _&&ag))=ag;rw[sD];rfl
  .refine⟨_,_,rfl,rfl,?_,m _ _ ⟨_,_,by rw[g,bi];rfl,?_,rfl⟩⟩
   .refine GY (bG ?_ ok.ml);unfold kN;rw[g,List.flatMap_append,eK,aE,aE,ao,ao];omega
   .rw[List.flatMap_append,eK,List.flatMap_nil,bu,ba];rfl
 .obtain⟨o1,o2,g,rfl,rfl⟩:=j;rw[bu] at g;have e:kN f=pre.flatMap λp=>kM p.1 0 p.2:=by unfold kN;rw[g]
  rw[e] at q;exact⟨kZ OU _,q⟩
def jo(ms:List Mk):List Mk:=ms.filter λm=>m.2.1
def locs(l:List Mk):List D:=(cy l.length).map λi=>D.loc (i+1)
def stM(l:List Mk):Ms:=aa (.kE (l.map λm=>.inr m.1) (locs l))::l.map λm=>aa (.lst [.str m.2.2.1])
theorem G5{w:aX}:∀(S:List Mk) (es:List D),w∉S.map aQ->nK (.inr w) (S.map λm=>.inr m.1) es=ar
 |[],_,_=>rfl
 |_::_,[],_=>rfl
 |m::S,e::es,h=>by rw[bq];unfold nK;rw[bq,aH,not_or] at h;rw[if_neg (λz=>h.1 (by cases z;rfl)),G5 S es h.2]
def ZA(S:List Mk):(stM S).length=S.length+1:=by simp[stM]
def S9(S:List Mk)(m:Mk):locs (S++[m])=locs S++[.loc (S.length+1)]:=by unfold locs;rw[aE,dm,List.range_succ,ba];rfl
def QQ(S:List Mk)(d x:Option OD):((stM S++[x]).set 0 d)[S.length+1]?=aa x:=by unfold stM;rw[eU,List.set_cons_zero,List.getElem?_cons_succ];simp
def Wu(S:List Mk)(w p:aX)(b:Bool)(k:Nat):((stM S++[aa (OD.lst [])]).set 0 (aa (OD.kE ((S.map λm=>dg m.1)++[dg w]) (locs S++[D.loc (S.length+1)])))).set (S.length+1) (aa (OD.lst ([]++[D.str p])))=stM (S++[(w,b,p,k)]):=by
 unfold stM;rw[eU,List.set_cons_zero,gH,S9,ba,ba];congr 1;have:S.length=(S.map λm=>(aa (OD.lst [.str m.2.2.1]):Option OD)).length:=by simp
 rw[this,QJ];rfl
def Ac:GN:=λds M Q=>∃ms:List Mk,ds=[.lst (ms.map OT)]/\M=[]/\((jo ms).map aQ).Nodup/\ms.length<=1000/\Q (.loc 0) (stM (jo ms))
def FX:l8 Ac:=by
 rintro ds M P Q w ⟨ms,h,a,b,c,q⟩
 exact⟨ms,h,a,b,c,w _ _ q⟩
def Ta:∀ds M Q,Ac ds M Q->vf 5 1 v9 ds M Q:=by
 rintro ds M Q ⟨ms,h,o,nd,u,q⟩
 subst h o;refine⟨rfl,?_⟩;conv=>whnf
 refine⟨_,rfl,rfl,?_⟩;refine iQ OT (λa b g M=>∃(o1 o2 i:Option D),ms=a++b/\M=stM (jo a)/\g=[aa (.lst (ms.map OT)),aa (.loc 0),o1,o2,i]) (λ_ _ _ _ ⟨_,_,_,_,e,_⟩=>rfl) ms [] _ _ ⟨ar,ar,ar,rfl,rfl,rfl⟩ (λpre x xs g M j N r=>?_) (λpre g M j=>?_)
 .obtain⟨o1,o2,i,c,rfl,rfl⟩:=j;obtain⟨w,b,p,k⟩:=x;have m:jo (pre++[(w,b,p,k)])=jo pre++jo [(w,b,p,k)]:=gK ..;have n:ms=pre++[(w,b,p,k)]++xs:=by rw[c,bi];rfl
  cases b with
  |false=>
   refine⟨rfl,rfl,?_⟩;exact r _ _ ⟨_,_,_,n,by rw[m];exact(congrArg stM (bu _)).symm,rfl⟩
  |true=>
   have f:((jo pre++[(w,ag,p,k)]).map aQ).Nodup:=by have:=nd;rw[n] at this;unfold jo at this;rw[gK,ba] at this;rw[<-show jo (pre++[(w,ag,p,k)])=jo pre++[(w,ag,p,k)] from m];exact(dB.mp this).1
   have hw:w∉(jo pre).map aQ:=by rw[ba] at f;exactλz=>(dB.mp f).2.2 w z w (by simp) rfl
   have s:(jo pre).length<=1000:=by
    have o:(jo pre).length<=pre.length:=ahU _ _;have v:pre.length<=ms.length:=by rw[c];simp
    omega
   refine⟨rfl,rfl,rfl,bD _,_,_,_,rfl,rfl,(λx ex=>?_),(λ_=>⟨?_,?_⟩)⟩
   .have:=G5 (jo pre) (locs (jo pre)) hw;exact absurd (this.symm.trans ex) (by simp)
   .rw[ao];exact d6 s (by decide)
   .rw[ZA];refine⟨?_,_,rfl,?_⟩
    .show tyD cr (vwk _ ((stM (jo pre)++[aa (OD.lst [])]).set 0 _)[(jo pre).length+1]?)=ag;rw[QQ];rfl
    .refine⟨_,QQ _ _ _,by decide,r _ _ ⟨_,_,_,n,?_,rfl⟩⟩;rw[m];exact Wu _ w p ag k
 .obtain⟨o1,o2,i,c,rfl,rfl⟩:=j;rw[bu] at c;rw[c] at q;exact q
theorem G6{w:aX}:∀(S:List Mk) (es:List D),w∈S.map aQ->es.length=S.length->∃i,i<S.length/\nK (.inr w) (S.map λm=>.inr m.1) es=es[i]?
 |[],_,h,_=>by simp at h
 |_::_,[],_,h=>by simp at h
 |m::S,e::es,h,a=>by
  rw[bq];unfold nK;by_cases hw:m.1=w
  .exact⟨0,by simp,by rw[if_pos (by rw[hw])];rfl⟩
  .rw[bq,aH] at h;obtain⟨i,c,b⟩:=G6 S es (h.resolve_left (λz=>hw z.symm)) (by simpa using a);exact⟨i+1,by simp;omega,by rw[if_neg (λz=>hw (by cases z;rfl)),b];rfl⟩
def ac4{S:List Mk}{i:Nat}(h:i<S.length):(locs S)[i]?=aa (.loc (i+1))/\∃p,(stM S)[i+1]?=aa (aa (.lst [.str p])):=by
 constructor
 .unfold locs;rw[bh,List.getElem?_range h];rfl
 .refine⟨(S[i]'h).2.2.1,?_⟩;unfold stM;rw[List.getElem?_cons_succ,bh,ax h];rfl
def Tc(h:w∈BE ss):w∈ss:=(L3.qQ _ _).mem_iff.mp h
structure ZB(ms:List Mk):Prop where
 nd:((jo ms).map aQ).Nodup
 few:DL ((jo ms).map aQ)
 len:ms.length<=1000
def Jb:GP:=λds Q=>∃ms:List Mk,ds=[.lst (ms.map OT)]/\ZB ms/\Q .non
def Jc:jD Jb:=by
 rintro ds P Q w ⟨a,h,l,q⟩
 exact⟨a,h,l,w _ q⟩
def Wv:∀ds Q,Jb ds Q->lN 3 1 (tR Ac) ds Q:=by
 rintro ds Q ⟨ms,h,ok,q⟩
 subst h;refine⟨rfl,ms,rfl,rfl,ok.nd,ok.len,?_⟩;refine⟨(jo ms).map aQ,by rw[bx];rfl,ok.few,?_⟩;refine⟨_,rfl,rfl,?_⟩;refine iQ D.str (λa b c M=>∃(o1:Option D),BE ((jo ms).map aQ)=a++b/\M=stM (jo ms)/\c=[aa (.lst (ms.map OT)),aa (.loc 0),o1]) (λ_ _ _ _ ⟨_,_,e,_⟩=>rfl) _ [] _ _ ⟨ar,rfl,rfl,rfl⟩ (λpre x xs c M f N j=>?_) (λpre c M f=>?_)
 .obtain⟨o1,g,rfl,rfl⟩:=f;have m:x∈(jo ms).map aQ:=Tc (by rw[g];simp);obtain⟨i,hi,n⟩:=G6 (jo ms) (locs (jo ms)) m (by simp[locs]);obtain⟨o,p,r⟩:=ac4 hi;refine⟨_,_,rfl,n.trans o,?_⟩;refine⟨1,by show RQ (vwk _ (stM _)[i+1]?)=_;rw[r];rfl,?_⟩;exact j _ _ ⟨_,by rw[g,bi];rfl,rfl,rfl⟩
 .exact q
def iS{β:Type}(w:aX):List (aX×β)->Option β
 |[]=>ar
 | (x,v)::l=>if x=w then aa v else iS w l
def wu{β:Type}(w:aX)(v:β)(l:List (aX×β)):List (aX×β):=if(iS w l).isSome=ag then l.map (λx=>if x.1=w then(x.1,v) else x) else l++[(w,v)]
def kA{β:Type}(l:List (aX×β)):List Key:=l.map λx=>.inr x.1
def vA{β:Type}(f:β->D)(l:List (aX×β)):List D:=l.map λx=>f x.2
theorem mW(f:β->D)(w:aX):∀l:List _,nK (.inr w) (kA l) (vA f l)=(iS w l).map f
 |[]=>rfl
 | (x,v)::l=>by
  show(if(dg x:Key)=.inr w then aa (f v) else nK (.inr w) (kA l) (vA f l))=_;unfold iS;by_cases h:x=w
  .rw[if_pos (by rw[h]),if_pos h];rfl
  .rw[if_neg (λz=>h (by cases z;rfl)),if_neg h,mW f w l]
theorem aaW(w:aX):∀l:List (aX×β),((kA l).any λx=>decide (x=.inr w))=(iS w l).isSome
 |[]=>rfl
 | (x,v)::l=>by
  show(decide _||(kA l).any λx=>decide _)=_;unfold iS;by_cases h:x=w
  .rw[if_pos h,decide_eq_true (by rw[h])];rfl
  .rw[if_neg h,decide_eq_false (λz=>h (by cases z;rfl)),aaW w l];rfl
theorem aaX(f:β->D)(w:aX)(v:β):∀l:List _,c8 (λ(x:Key) y=>if x=.inr w then f v else y) (kA l) (vA f l)=vA f (l.map λx=>if x.1=w then(x.1,v) else x)
 |[]=>rfl
 | (x,u)::l=>by
  show(if(dg x:Key)=.inr w then f v else f u)::c8 _ (kA l) (vA f l)=_;rw[aaX f w v l];by_cases h:x=w
  .rw[if_pos (by rw[h])];show _=f (if x=w then(x,v) else(x,u)).2::_;rw[if_pos h];rfl
  .rw[if_neg (λz=>h (by cases z;rfl))];show _=f (if x=w then(x,v) else(x,u)).2::_;rw[if_neg h];rfl
def ac5(w:aX)(v:β)(l:List _):kA (l.map λx=>if x.1=w then(x.1,v) else x)=kA l:=by unfold kA;rw[bx];refine eZ λx _=>?_;show(dg (if x.1=w then(x.1,v) else x).1:Key)=.inr x.1;split<;>rfl
def G7(f:β->D)(w:aX)(v:β)(l:List _):rY (.inr w) (f v) (kA l) (vA f l)=(kA (wu w v l),vA f (wu w v l)):=by
 unfold rY wu;rw[aaW];by_cases h:(iS w l).isSome=ag
 .rw[if_pos h,if_pos h,aaX,ac5]
 .rw[if_neg h,if_neg h];unfold kA vA;rw[ba,ba];rfl
def Ww(w:aX)(v:β)(l:List _):(wu w v l).length<=l.length+1:=by
 unfold wu;split
 .rw[ao];omega
 .simp
abbrev Pl:=aX×Nat
def Wx(p:Pl):D:=.tup [.str p.1,.int p.2]
def nr(l:List (aX×Pl))(m:Mk):List (aX×Pl):=if(m.2.1||!(iS m.1 l).isSome)=ag then wu m.1 m.2.2 l else l
def placesOf(ms:List Mk):List (aX×Pl):=ms.foldl nr []
def Jd(ms:List Mk):(placesOf ms).length<=ms.length:=by
 have gen:∀(ms:List Mk) (l:List _),(ms.foldl nr l).length<=l.length+ms.length:=by
  intro ms;induction ms with
  |nil=>intro l;exact aD _
  |cons m ms a=>
   intro l;rw[List.foldl_cons,aU];have b:=a (nr l m);have c:(nr l m).length<=l.length+1:=by
    unfold nr;split
    .exact Ww _ _ _
    .omega
   omega
 have:=gen ms [];rw[cm,bR] at this;exact this
def FY(l:List (aX×Pl)):D:=.kE (kA l) (vA Wx l)
def Je(l:List _):nl (FY l)=ag:=kZ (λ_=>rfl) l
structure aha(ps:List Pt):Prop where
 mi:ac3 ps
 tw:ZB (kN ps)
def EO (c:CA):GP:=λds Q=>∃a:List Pt,ds=[.lst (a.map (Jz c))]/\aha a/\Q (FY (placesOf (kN a)))
def FZ{c:CA}:jD (EO c):=by
 rintro ds P Q w ⟨a,h,l,q⟩
 exact⟨a,h,l,w _ q⟩
def ac6(ms:List Mk):mY [.lst (ms.map OT)]=ag:=by show(mY _&&ag)=ag;rw[kZ OU];rfl
def Td{c:CA}:∀ds Q,EO c ds Q->lN 6 1 (BO (cl (yF c)) (cl Jb)) ds Q:=by
 rintro ds Q ⟨g,h,ok,q⟩
 subst h;refine⟨rfl,EN c g,g,rfl,ok.mi,?_⟩;refine⟨ac6 _,_,rfl,ok.tw,?_⟩;obtain⟨_,tw⟩:=ok;generalize kN g=ms at tw q |-;conv=>whnf
 refine⟨_,rfl,rfl,?_⟩;refine iQ OT (λa b m M=>∃(o1 o2 f:Option D),ms=a++b/\M=[aa (.kE (kA (placesOf a)) (vA Wx (placesOf a)))]/\m=[aa (.lst (g.map (Jz c))),aa (.lst (ms.map OT)),aa (.loc 0),o1,o2,f]) (λ_ _ _ _ ⟨_,_,_,_,e,_⟩=>rfl) ms [] _ _ ⟨ar,ar,ar,rfl,rfl,rfl⟩ (λpre x xs m M n N p=>?_) (λpre m M n=>?_)
 .obtain⟨o1,o2,f,i,rfl,rfl⟩:=n;have r:placesOf (pre++[x])=nr (placesOf pre) x:=by unfold placesOf;rw[List.foldl_append];rfl
  have v:(placesOf pre).length<=1000:=by
   have z:=Jd pre;have A:pre.length<=ms.length:=by rw[i];simp
   have:=tw.len;omega
  have s:ms=pre++[x]++xs:=by rw[i,bi];rfl
  have y:(kA (placesOf pre)).length<aO:=by unfold kA;rw[ao];exact d6 v (by decide)
  obtain⟨w,b,pl⟩:=x;have put:nr (placesOf pre) (w,b,pl)=wu w pl (placesOf pre)->∀o1 o2 f:Option D,∃j ds o,([aa (.kE (kA (placesOf pre)) (vA Wx (placesOf pre)))]:Ms)[0]?=aa (aa (.kE j ds))/\Kg (.str w)=aa o/\j.length<aO/\N [aa (.lst (g.map (Jz c))),aa (.lst (ms.map OT)),aa (.loc 0),o1,o2,f] ([aa (.kE (kA (placesOf pre)) (vA Wx (placesOf pre)))].set 0 (aa (.kE (rY o (Wx pl) j ds).1 (rY o (Wx pl) j ds).2))):=by intro e o1 o2 f;refine⟨_,_,_,rfl,rfl,y,p _ _ ⟨o1,o2,f,s,?_,rfl⟩⟩;rw[r,e,G7];rfl
  cases b with
  |true=>exact⟨rfl,rfl,put rfl _ _ _⟩
  |false=>
   refine⟨rfl,rfl,(iS w (placesOf pre)).isSome,?_,?_⟩
   .show aa (nK (.inr w) (kA (placesOf pre)) (vA Wx (placesOf pre))).isSome=_;rw[mW,gM]
   .cases u:(iS w (placesOf pre)).isSome with
    |true=>exact p _ _ ⟨_,_,_,s,by rw[r];unfold nr;dsimp only;rw[u];rfl,rfl⟩
    |false=>exact put (by unfold nr;dsimp only;rw[u];rfl) _ _ _
 .obtain⟨o1,o2,f,i,rfl,rfl⟩:=n;rw[bu] at i;rw[i] at q;exact⟨Je _,q⟩
def bare(rs:List Rw):List Rw:=rs.filter λr=>!r.jQ
def ZC{K:bz}{c:CA}(a:Wr K c)(r:Rw){M:Ms}{Q:DK}(q:Q (.bl (match r with|.numbers _=>ag|_=>au)) M):mj K [r.ins c,.cls c.lC] M Q:=by refine⟨.ref (c.at r.kn),_,rfl,λC ns es e=>by cases e;exact a.io _,?_,q⟩;rw[a.nums];cases r<;>rfl
def ZD{K:bz}{c:CA}(a:Wr K c)(r:Rw){M:Ms}{Q:DK}(q:Q (.bl (match r with|.table _=>ag|_=>au)) M):mj K [r.ins c,.cls c.Table] M Q:=by refine⟨.ref (c.at r.kn),_,rfl,λC ns es e=>by cases e;exact a.io _,?_,q⟩;rw[a.ag8];cases r<;>rfl
def mU (c:CA):GP:=λds Q=>∃rs:List Rw,ds=[.lst (rs.map (Rw.ins c))]/\rs.length<=1000/\Q (.lst ((bare rs).map (Rw.ins c)))
def ri:jD (mU c):=by
 rintro ds P Q w ⟨rs,h,l,q⟩
 exact⟨rs,h,l,w _ q⟩
def yG(b:Wr K c):∀ds Q,mU c ds Q->lN 1 1 (qi K c.Mark) ds Q:=by
 rintro ds Q ⟨rs,h,l,q⟩
 subst h;have a:=@Aa K c b;unfold qi;generalize mj K=f at a |-;refine⟨rfl,?_⟩;refine⟨_,rfl,rfl,?_⟩;refine jk _ (Rw.ins c) (λr=>!r.jQ) ?_ _ _ ?_ (λx g i e=>?_) ?_
 .exact rfl
 .rw[cm,bR];exact GY l
 .refine a x ?_;have:=e _ (show HC [ar] [aa (x.ins c)]=_ from rfl);cases hm:x.jQ with
  |true=>rw[hm] at this;exact this
  |false=>rw[hm] at this;exact this
 .exact⟨sD c _,q⟩
abbrev Br:=List (aX×List Rw)
def jp(a:List Pt):Br:=(sE a).map λp=>(p.1,bare p.2)
def Jf(c:CA)(rs:List Rw):D:=.lst (rs.map (Rw.ins c))
def pZ(c:CA)(b:Br):D:=.kE (kA b) (vA (Jf c) b)
def wv(c:CA)(b:Br):nl (pZ c b)=ag:=kZ (f:=λx:aX×List Rw=>Jf c x.2) (λp=>sD c p.2) b
structure afj(ps:List Pt):Prop where
 nd:(ps.map aQ).Nodup
 l:ps.length<64
 len:∀p∈ps,p.2.length<=1000
def OW (c:CA):GP:=λds Q=>∃a:List Pt,ds=[.lst (a.map (Jz c))]/\afj a/\Q (pZ c (jp a))
def LV:jD (OW c):=by
 rintro ds P Q w ⟨a,h,l,q⟩
 exact⟨a,h,l,w _ q⟩
def ZE{c:CA}:∀ds Q,OW c ds Q->lN 1 1 (BP (cl (tT c)) (cl (mU c))) ds Q:=by
 rintro ds Q ⟨f,h,ok,q⟩
 subst h;refine⟨rfl,EN c f,f,rfl,ok.nd,ok.l,?_⟩;refine⟨_,rfl,rfl,?_⟩;have g:=jR f;refine iY (Jz c) (λp=>prD (.inr p.1,Jf c (bare p.2))) ?_ _ _ ?_ (λx i r j=>?_) ?_
 .exact rfl
 .rw[cm,bR,g.length_eq];exact GY (by have:=ok.l;omega)
 .refine⟨rfl,rfl,?_,x.2,rfl,ok.len x (g.mem_iff.mp i),aq rfl,?_⟩
  .show(mY _&&ag)=ag;rw[sD];rfl
  .exact j _ rfl
 .refine⟨(sE f).map λp=>(.inr p.1,Jf c (bare p.2)),(by rw[bx];rfl),?_,?_⟩
  .rw[bx];have m:=(g.map aQ).nodup_iff.mpr ok.nd;have n:((λx:Key×D=>x.1)∘λp:Pt=>((.inr p.1:Key),Jf c (bare p.2)))=(dg:aX->Key)∘aQ:=rfl;rw[n,<-bx];exact ahR _ (λa b o e=>o (by cases e;rfl)) m
  .have e:(OD.kE (((sE f).map λp=>((.inr p.1:Key),Jf c (bare p.2))).map (·.1)) (((sE f).map λp=>((.inr p.1:Key),Jf c (bare p.2))).map (·.2))).toD=pZ c (jp f):=by show D.kE _ _=D.kE _ _;unfold jp kA vA;rw[bx,bx,bx,bx];rfl
   dsimp only;rw[e];exact⟨wv c _,q⟩
def ZF(b:Br)(p:Pl):Option Rw:=(iS p.1 b).bind λrs=>rs[p.2]?
def Wy(h:ZF b p=aa r):∃rs,iS p.1 b=aa rs/\rs[p.2]?=aa r:=by
 unfold ZF at h;cases e:iS p.1 b with
 |none=>rw[e] at h;cases h
 |some rs=>rw[e] at h;exact⟨rs,rfl,h⟩
def ZG (c:CA):GP:=λds Q=>∃(b:Br) (p:Pl) (r:Rw),ds=[pZ c b,Wx p]/\ZF b p=aa r/\Q (r.ins c)
def Te:jD (ZG c):=by
 rintro ds P Q w ⟨b,p,r,h,l,q⟩
 exact⟨b,p,r,h,l,w _ q⟩
def afk:∀ds Q,ZG c ds Q->lN 2 2 Ef ds Q:=by
 rintro ds Q ⟨b,p,r,h,e,q⟩
 subst h;obtain⟨rs,e1,e2⟩:=Wy e;refine⟨rfl,_,rfl,.inr p.1,Jf c rs,rfl,by rw[mW,e1];rfl,_,rfl,r.ins c,?_,r.nli c,q⟩;exact acI (by rw[bh,e2];rfl)
def qj(r a:Rw):Bool:=match r with
 |.alike _ _ _=>ag
 |.load _ _ _=>(match a with|.numbers _=>ag|_=>au)
 |.jumpby _ _=>(match a with|.table _=>ag|_=>au)
 |_=>a.code
def Wz (c:CA):GP:=λds Q=>∃r a:Rw,ds=[r.ins c,a.ins c]/\Q (.bl (qj r a))
def OX:jD (Wz c):=by
 rintro ds P Q w ⟨b,p,h,q⟩
 exact⟨b,p,h,w _ q⟩
def ac7(b:Wr K c):∀ds Q,Wz c ds Q->lN 3 2 (uE K (m4 c) c.lC c.Table c.Code) ds Q:=by
 rintro ds Q ⟨r,a,h,q⟩
 subst h;have e:=@ZC K c b;have f:=@ZD K c b;have g:=@LQ K c b;unfold uE;generalize mj K=i at e f g |-;refine⟨rfl,_,_,_,_,rfl,rfl,⟨r.kn,rfl,rfl⟩,by unfold mY;rw[r.nli];rfl,r,rfl,rfl,?_⟩;cases r;all_goals
  walk_at "e";first|exact q|exact e a ⟨rfl,q⟩|exact f a ⟨rfl,q⟩|exact g a ⟨rfl,q⟩
def Rw.nms:Rw->List aX
 |.jump w|.jumpif _ w|.call w|.load _ _ w|.jumpby _ w=>[w]
 |.alike _ w v=>[w,v]
 |.table ws=>ws
 |_=>[]
def Rw.WA(r:Rw):r.names=r.nms.map D.str:=by cases r<;>rfl
def G8(b:Br)(pl:List (aX×Pl))(r:Rw)(w:aX):Bool:=match iS w pl with
 |none=>au
 |some p=>match ZF b p with
  |none=>au
  |some a=>qj r a
def OY{pl:List _}(h:G8 b pl r w=ag):∃p a,iS w pl=aa p/\ZF b p=aa a/\qj r a=ag:=by
 unfold G8 at h;cases e:iS w pl with
 |none=>rw[e] at h;cases h
 |some p=>
  rw[e] at h;dsimp only at h;cases e2:ZF b p with
  |none=>rw[e2] at h;cases h
  |some a=>rw[e2] at h;exact⟨p,a,rfl,e2,h⟩
def OZ(b:Br)(pl:List (aX×Pl))(rs:List Rw):Bool:=rs.all λr=>r.nms.all (G8 b pl r)
def O0 (c:CA):GP:=λds Q=>∃(n:aX) (b:Br) (pl:List (aX×Pl)) (rs:List Rw),ds=[.str n,pZ c b,FY pl]/\iS n b=aa rs/\OZ b pl rs=ag/\Q .non
def LW:jD (O0 c):=by
 rintro ds P Q w ⟨n,b,p,r,h,l,z,q⟩
 exact⟨n,b,p,r,h,l,z,w _ q⟩
def ZH{c:CA}:∀ds Q,O0 c ds Q->lN 6 3 (wa (uC c) (cl (Wz c)) (cl (ZG c))) ds Q:=by
 rintro ds Q ⟨n,b,pl,rs,h,e,ok,q⟩
 subst h;refine⟨rfl,.inr n,Jf c rs,rfl,by rw[mW,e];rfl,_,rfl,rfl,?_⟩;refine zA (λj f M=>∃o1 o2 g,f=[aa (.str n),aa (pZ c b),aa (FY pl),o1,o2,g]) (λ_ _ _ ⟨_,_,_,_⟩=>rfl) _ 0 _ _ ⟨ar,ar,ar,rfl⟩ (λj x f M u i N v=>?_) (λf M i=>q);obtain⟨o1,o2,g,rfl⟩:=i;obtain⟨y,w,rfl⟩:=EJ u;obtain⟨r,A,rfl⟩:=zd w;have B:r.nms.all (G8 b pl r)=ag:=bU.mp ok r (bA A);refine⟨rfl,rfl,_,_,_,_,rfl,rfl,⟨r.kn,rfl,rfl⟩,r,rfl,rfl,?_⟩;refine⟨r.names,by show yb (vwk _ (M++[aa (.lst r.names)])[M.length]?)=_;rw[QH];rfl,rfl,?_⟩;rw[r.WA];refine iQ D.str (λa z f C=>r.nms=a++z/\C=M++[aa (.lst (r.nms.map D.str))]/\∃g,f=[aa (.str n),aa (pZ c b),aa (FY pl),aa (.int j),aa (r.ins c),g]) (λ_ _ _ _ ⟨_,e,_⟩=>by rw[e]) _ [] _ _ ⟨rfl,rfl,g,rfl⟩ (λpre x xs f M1 i E m=>?_) (λpre f M1 ⟨_,_,o,e⟩=>v _ _ ⟨_,_,_,e⟩);obtain⟨s,rfl,o,rfl⟩:=i;obtain⟨p,a,e1,e2,e3⟩:=OY (bU.mp B x (by rw[s];simp));refine⟨ag,by show aa (nK (.inr x) (kA pl) (vA Wx pl)).isSome=_;rw[mW,e1];rfl,?_⟩;refine⟨.inr x,Wx p,rfl,by rw[mW,e1];rfl,?_,b,p,a,rfl,e2,?_⟩
 .show(nl (pZ c b)&&(nl (Wx p)&&ag))=ag;rw[wv];rfl
 refine⟨by show(nl (r.ins c)&&(nl (a.ins c)&&ag))=ag;rw[r.nli,a.nli];rfl,r,a,rfl,?_⟩;rw[e3];exact m _ _ ⟨by rw[s,bi];rfl,rfl,_,rfl⟩
structure xz(ps:List Pt):Prop where
 lk:Zz ps
 ml:(kN ps).length<=1000
 tw:ZB (kN ps)
 ahb:∀p∈ps,∃rs,iS p.1 (jp ps)=aa rs/\OZ (jp ps) (placesOf (kN ps)) rs=ag
def xz.mi{a:List Pt}(h:xz a):ac3 a:=⟨h.lk.G1.nd,by have:=h.lk.G1.hi;omega,λp b=>(h.lk.G1.all p b).len,h.ml⟩
def xz.br{a:List Pt}(h:xz a):afj a:=⟨h.mi.nd,h.mi.l,h.mi.len⟩
abbrev Tf(a:List Pt):List (aX×Pl):=placesOf (kN a)
def ww (c:CA):GP:=λds Q=>∃a:List Pt,ds=[.lst (a.map mx)]/\xz a/\Q (.tup [pZ c (jp a),FY (Tf a)])
def F0{c:CA}:jD (ww c):=by
 rintro ds P Q w ⟨a,h,l,q⟩
 exact⟨a,h,l,w _ q⟩
def Tg{c:CA}:∀ds Q,ww c ds Q->lN 6 1 (La (cl (EL c)) (cl (EO c)) (cl (OW c)) (cl (O0 c))) ds Q:=by
 rintro ds Q ⟨b,h,ok,q⟩
 subst h;refine⟨rfl,wt b,b,rfl,ok.lk,?_⟩;refine⟨EN c b,b,rfl,⟨ok.mi,ok.tw⟩,?_⟩;refine⟨EN c b,b,rfl,ok.br,?_⟩;refine⟨_,rfl,rfl,?_⟩;refine iQ (Jz c) (λa z e M=>b=a++z/\M=[]/\∃o1 o2,e=[aa (.lst (b.map mx)),aa (.lst (b.map (Jz c))),aa (FY (Tf b)),aa (pZ c (jp b)),o1,o2]) (λ_ _ _ _ _=>rfl) b [] _ _ ⟨rfl,rfl,ar,ar,rfl⟩ (λpre x xs e M f N i=>?_) (λpre e M f=>?_)
 .obtain⟨g,rfl,o1,o2,rfl⟩:=f;obtain⟨rs,e1,e2⟩:=ok.ahb x (by rw[g];simp);refine⟨rfl,rfl,?_,x.1,jp b,Tf b,rs,rfl,e1,e2,i _ _ ⟨by rw[bi];exact g,rfl,_,_,rfl⟩⟩;show(ag&&(nl (pZ c (jp b))&&(nl (FY (Tf b))&&ag)))=ag;rw[wv,Je];rfl
 .obtain⟨g,rfl,o1,o2,rfl⟩:=f;refine⟨aq rfl,?_,q⟩;show(nl (pZ c (jp b))&&(nl (FY (Tf b))&&ag))=ag;rw[wv,Je];rfl
end FJ
namespace oz
open PySem PySem.Spec L2 L3
open FJ (iQ iY jk pU okN qF Rw qj Pt Mk Pl Br jf l6 kM kN sE jR iS wu nr placesOf jp bare ZF G8 OZ Zz xz ZB jo Ab mx low kA vA mW G7 pZ CA lX ww Tf FY)
local macro_rules | `(tactic| walk_at "h") => `(tactic| ((conv => whnf); first | refine ⟨_, rfl, ?_⟩ | refine ⟨rfl, ?_⟩ | refine ⟨aq rfl, ?_⟩ | refine ⟨show (0 : Int) < _ by decide, ?_⟩ | refine ⟨show zC _ _ from ⟨by decide, by decide⟩, ?_⟩ | refine ⟨show Hj _ _ from ⟨by decide, by decide, by decide⟩, ?_⟩ | refine ⟨show zc _ _ from .inl ⟨by decide, by decide⟩, ?_⟩ | refine ⟨show zc _ _ from .inr ⟨by decide, by decide⟩, ?_⟩))
local macro_rules | `(tactic| walk_at "d") => `(tactic| ((repeat walk_at "h"); try (conv => whnf)))
abbrev iD(xs:List Int):List D:=xs.map D.int
def F2{k:Nat}{x:β}(h:xs[k]?=aa x):Fk xs (k:Int)=aa x:=by have a:=(ak.mp h).1;unfold Fk Xl;rw[if_pos (by omega),if_pos (by omega)];simpa using h
def jh(h:M[k]?=aa (aa o)):vw M (.loc k)=o.toD:=by show vwk k M[k]?=_;rw[h];rfl
def p0 (M a:Ms)(k:Nat):Prop:=M.length<=a.length/\∀j,j<M.length->j≠k->a[j]?=M[j]?
def p0.refl:p0 M M k:=⟨aD _,λ_ _ _=>rfl⟩
theorem p0.trans(a:p0 M c k)(b:p0 c f k):p0 M f k:=⟨bG a.1 b.1,λj h e=>(b.2 j (bw h a.1) e).trans (a.2 j h e)⟩
theorem p0.set:p0 M (M.set k o) k:=⟨by simp,λj _ e=>by rw[aJ (λz=>e z.symm)]⟩
def p0.push:p0 M (M++[o]) k:=⟨by simp,λj h _=>aY h⟩
def Dr (M:Ms)(k n:Nat):Prop:=∃xs:List Int,M[k]?=aa (aa (.lst (iD xs)))/\xs.length=n
def Dr.lt(h:Dr M k n):k<M.length:=by obtain⟨_,e,_⟩:=h;exact(ak.mp e).1
def Dr.of(h:Dr M k n)(e:c[k]?=M[k]?):Dr c k n:=by obtain⟨xs,a,b⟩:=h;exact⟨xs,e.trans a,b⟩
def jI:GN:=λds M Q=>∃(k n:Nat) (many:Int),ds=[.loc k,.int many]/\0<many/\Dr M k n/\∀(r:Int) (a:Ms),0<=r->r<many->(n=0->r=0)->Dr a k (n- 1)->p0 M a k->Q (.int r) a
def LX:l8 jI:=λds M P Q w ⟨k,many,n,f,g,h,q⟩=>⟨k,many,n,f,g,h,λr i a b c d e=>w _ _ (q r i a b c d e)⟩
def ZI:∀ds M Q,jI ds M Q->vf 2 2 Ew ds M Q:=λds M Q ⟨k,n,many,g,a,b,q⟩=>by
 subst g;have h:=b.lt;obtain⟨xs,e,c⟩:=b;refine⟨rfl,?_⟩;have f:=jh e;refine⟨bD _,?_⟩;show B7 (.loc k) _ M _;unfold B7;rw[f];cases xs with
 |nil=>
  refine q 0 M (Int.le_refl _) a (λ_=>rfl) ⟨[],e,by subst c;rfl⟩ p0.refl
 |cons x xs=>
  subst c;refine⟨by rw[f];rfl,.int x,iD xs,e,a,q _ _ (ahV _ (by omega)) (Int.emod_lt_of_pos _ a) (λz=>absurd z (by simp)) ⟨xs,bn h,rfl⟩ p0.set⟩
def zQ{xs:List β}(h:n<=xs.length):cutD xs (aa (n:Int)) ar=xs.drop n:=by unfold cutD;rw[HT.Cr,Nat.min_eq_left h,fH (by rw[dN];exact aD _)]
def om:GN:=λds M Q=>∃(c:Int) (many:Nat),ds=[.int c,.int many]/\many<=100/\∀(k:Nat) (a:Ms),M.length<=k->Dr a k many->M.length<=a.length->(∀j,j<M.length->a[j]?=M[j]?)->Q (.loc k) a
def Jg:l8 om:=λds M P Q w ⟨c,many,e,f,q⟩=>⟨c,many,e,f,λk g a b c d=>w _ _ (q k g a b c d)⟩
def big:Int:=10000000000000000000000000000000000000121
def ac8{c:Int}{many:Nat}{M:Ms}{fs:List Int}{rest:D}{Q:DK}{o:jZ}(hm:many<=100)(B:fs.length<=many)(h:∀(k:Nat) (b:Ms),M.length<=k->Dr b k many->M.length<=b.length->(∀j,j<M.length->b[j]?=M[j]?)->o.rt (.loc k) b):
  drC o [aa (.int c),aa (.int many),aa (.loc M.length),aa rest,ar,ar,ar] (M++[aa (.lst (iD fs))]):=by
 have C:(M++[aa (OD.lst (iD fs))])[M.length]?=aa (aa (.lst (iD fs))):=by simp
 refine⟨⟨by decide,by decide,by decide⟩,⟨show(0:Int)<10^40+121 by decide,?_⟩⟩;refine⟨bD _,?_⟩;have hb:∀x:Int,0<=x%(10^40+121)/\x%(10^40+121)<10^40+121:=λx=>⟨ahV _ (by decide),Int.emod_lt_of_pos _ (by decide)⟩;refine⟨⟨show-(2^62)<=((many:Int)+4) by omega,show((many:Int)+4)<2^62 by omega⟩,trivial,?_⟩;have key:∀num:Int,0<=num->num<2^200->xV (iq 6) (iz (jl 4 (iA pV (iA jn (iA jn (iA (gI GO λi j=>.int (i*j)) (hX 4) (hX 4)) (iA (gI GO λi j=>.int (i*j)) (dC (.int 48271)) (hX 4))) (hX 6)) (iA jn (iA Eg (dC (.int 10)) (dC (.int 40))) (dC (.int 121)))))
   (lp (Ao cr jj (hX 5) (hV (hX 4) ib)))) (λ_=>True) {o with nx:=λg M1=>(iN (pP (P5 (hX 2) (Xq (hX 5) (vS (iA jn (dC (.int 4)) (i5 lx (hV (hX 2) ib)))) qA)))) o g M1} ((cy (many+4)).map λ(i:Nat)=>D.int (0+(i:Int))) [aa (.int c),aa (.int many),aa (.loc M.length),aa rest,aa (.int num),aa (.loc (M.length+1)),ar] (M++[aa (.lst (iD fs)),aa (.lst (iD []))]):=by
  intro num m n;refine iQ (λi:Nat=>D.int (0+(i:Int))) (λa z g b=>a.length+z.length=many+4/\(∀i∈z,i<many+4)/\∃(num:Int) (ms:List Int) (p:Option D),0<=num/\num<2^200/\ms.length=a.length/\b=M++[aa (.lst (iD fs)),aa (.lst (iD ms))]/\g=[aa (.int c),aa (.int many),aa (.loc M.length),aa rest,aa (.int num),aa (.loc (M.length+1)),p]) (λ_ _ _ _ _=>trivial) _ [] _ _ ⟨by simp,λi hi=>gG.mp hi,num,[],ar,m,n,rfl,rfl,rfl⟩ (λpre x xs g b q N v=>?_) (λpre g b q=>?_)
  .obtain⟨r,s,num,ms,p,m,n,f,rfl,rfl⟩:=q;have E:=s x aN;have w:pre.length+(xs.length+1)=many+4:=r;have e1:(M++[aa (OD.lst (iD fs)),aa (OD.lst (iD ms))])[M.length+1]?=aa (aa (.lst (iD ms))):=by simp
   have na:num.natAbs<2^400:=by
    have:(2:Int)^200<2^400:=by decide
    omega
   refine⟨⟨na,na⟩,⟨by decide,na⟩,⟨by decide,by decide,by decide⟩,show(0:Int)<10^40+121 by decide,?_⟩;refine⟨by rw[jh e1];rfl,iD ms,e1,?_,v _ _ ⟨?_,λi hi=>s i (aB _ hi),_,ms++[(num*num+48271*num+(0+(x:Int)))%(10^40+121)],_,(hb _).1,?_,?_,?_,rfl⟩⟩
   .rw[ao,f,bp];omega
   .simp;omega
   .exact Int.lt_trans (hb _).2 (by decide)
   .simp[f]
   .rw[List.set_append_right _ _ (by omega),fu];unfold iD;rw[ba];rfl
  .obtain⟨r,_,num,ms,p,m,n,f,rfl,rfl⟩:=q;have w:pre.length+0=many+4:=r;have e1:(M++[aa (OD.lst (iD fs)),aa (OD.lst (iD ms))])[M.length+1]?=aa (aa (.lst (iD ms))):=by simp
   have e2:(M++[aa (OD.lst (iD fs)),aa (OD.lst (iD ms))])[M.length]?=aa (aa (.lst (iD fs))):=by simp
   have v1:=jh e1;have u:=jh e2;dsimp only;simp only [iN,pP,P5,Xq,vS,iA,dC,i5,hV,ib,qA,uN,xo];unfold lx;simp only [u,OD.toD];refine⟨fs.length,by show aa (cI _)=_;rw[ao],?_⟩;rw[Wn];simp only [v1,OD.toD];rw[show(4:Int)+(fs.length:Int)=((4+fs.length:Nat):Int) by omega,zQ (by rw[ao];omega)];unfold AH;rw[u];refine⟨by rw[ao,dN,ao,bp];omega,?_⟩;refine h _ _ (by simp) ⟨fs++ms.drop (4+fs.length),?_,?_⟩ (by simp) (λj y=>?_)
   .unfold iD;rw[ba,hG];simp
   .rw[aE,dN];omega
   .rw[bi,aY y]
 have A:=key (c%(10^40+121)+48271) (by have:=(hb c).1;omega) (by have:=(hb c).2;have e:(10:Int)^40+121+48271<2^200:=(by decide);omega);have e3:((many:Int)+4).toNat=many+4:=by omega
 have e4:(M++[aa (OD.lst (iD fs))]).length=M.length+1:=by simp
 have e5:M++[aa (OD.lst (iD fs))]++[aa (OD.lst [])]=M++[aa (OD.lst (iD fs)),aa (OD.lst (iD []))]:=by simp
 unfold yc;rw[e3,e4,e5];exact A
def WB:∀ds M Q,om ds M Q->vf 7 2 wm ds M Q:=λds M Q ⟨c,many,p,hm,q⟩=>by
 subst p;unfold wm;refine⟨rfl,bD _,⟨by decide,by decide⟩,?_⟩;have key:∀(rest:Int) (o:jZ),o.rt=Q->drB o [aa (.int c),aa (.int many),aa (.loc M.length),aa (.int rest),ar,ar,ar] (M++[aa (.lst [])]):=by
  intro rest o a;refine⟨many+1,ye (λn g h=>∃(fs:List Int) (rest:Int),n+fs.length=many/\h=M++[aa (.lst (iD fs))]/\g=[aa (.int c),aa (.int many),aa (.loc M.length),aa (.int rest),ar,ar,ar]) (λn g h r N s=>?_) many _ _ ⟨[],rest,by simp,rfl,rfl⟩ _ (by omega)⟩;obtain⟨fs,rest,hn,rfl,rfl⟩:=r;have i:(M++[aa (OD.lst (iD fs))])[M.length]?=aa (aa (.lst (iD fs))):=by simp
  have j:=jh i;have f:∀b:jZ,b.rt=Q->drC b [aa (.int c),aa (.int many),aa (.loc M.length),aa (.int rest),ar,ar,ar] (M++[aa (.lst (iD fs))]):=λb hb=>ac8 (Q:=Q) hm (by omega) (by rw[hb];exact q);simp only [Ay,QM,iA,dC,uN,xo,RP,Fx,Wm,Lz,Wk];have cp:Hj (10:Int) 12:=⟨by decide,by decide,by decide⟩;split
  .split
   .simp only [i5,hV,ib,uN,xo];unfold lx;simp only [j,OD.toD];refine⟨fs.length,by show aa (cI _)=_;rw[ao],?_⟩;show(if decide ((fs.length:Int)<many)=ag then _ else _);split
    .rename_i m;have m:=of_decide_eq_true m;refine⟨by rw[j];rfl,cp,show(0:Int)<10^12 by decide,iD fs,i,by rw[ao,bp];omega,cp,⟨show(0:Int)<10^12 by decide,by decide⟩,s (n- 1) _ _ (by omega) ⟨fs++[rest%10^12],_,?_,?_,rfl⟩⟩
     .simp;omega
     .rw[List.set_append_right _ _ (aD _),Nat.sub_self];unfold iD;rw[ba];rfl
    .exact f o a
   .exact f o a
  .exact f o a
 refine⟨show(0:Int)<2 by decide,?_⟩;cases e:(c%2==1) with
 |true=>
  show(if(c%2==1)=ag then _ else _);rw[e];exact key 0 _ rfl
 |false=>
  show(if(c%2==1)=ag then _ else _);rw[e];exact key (c/2) _ rfl
def wx{many:Int}{M:Ms}{Q:DK}(h:0<many)(d:Dr M k n)(q:∀(r:Int) (a:Ms),0<=r->r<many->(n=0->r=0)->Dr a k (n- 1)->p0 M a k->Q (.int r) a):jI [.loc k,.int many] M Q:=⟨k,n,many,rfl,h,d,q⟩
inductive Sk
 |set (b n:Int)|add (b c:Int)|take (b c:Int)|say (b:Int)|ask (b:Int)|jump|jumpif (b:Int)|call|back|stop|load (b c:Int)|jumpby (b:Int)|alike (b:Int)|numbers (ns:List Int)|table (n:Nat)
def Sk.d:Sk->D
 |.set b n=>.tup [.str gc,.int b,.int n]|.add b c=>.tup [.str "add",.int b,.int c]|.take b c=>.tup [.str "take",.int b,.int c]|.say b=>.tup [.str "say",.int b]|.ask b=>.tup [.str "ask",.int b]
 |.jump=>.tup [.str ph]|.jumpif b=>.tup [.str qa,.int b]|.call=>.tup [.str ra]|.back=>.tup [.str rl]|.stop=>.tup [.str qZ]|.load b c=>.tup [.str qb,.int b,.int c]
 |.jumpby b=>.tup [.str pd,.int b]|.alike b=>.tup [.str pS,.int b]|.numbers ns=>.tup [.str im,.lst (ns.map .int)]|.table n=>.tup [.str kv,.int n]
def Sk.ok:Sk->Bool
 |.set b n=>pU b&&okN n|.add b c=>pU b&&pU c|.take b c=>pU b&&pU c|.say b=>pU b|.ask b=>pU b|.jumpif b=>pU b|.load b c=>pU b&&pU c|.jumpby b=>pU b|.alike b=>pU b
 |.numbers ns=>decide (1<=ns.length)&&decide (ns.length<=60)&&ns.all okN|.table n=>decide (1<=n)&&decide (n<=3)|_=>ag
def Sk.code:Sk->Bool
 |.numbers _=>au|.table _=>au|_=>ag
def Sk.end:Sk->Bool
 |.jump=>ag|.back=>ag|.stop=>ag|.jumpby _=>ag|_=>au
theorem Sk.nl(s:Sk):L3.nl s.d=ag:=by cases s<;>first|rfl|exact(show(mY (List.map D.int _)&&ag)=ag by rw[kZ λ_=>rfl];rfl)
def WC{β:Type}{f:β->D}{L:List β}{j:Nat}{x:β}{M:Ms}{Q:DK}(h:L[j]?=aa x)(q:Q (f x) M):jS (.lst (L.map f)) (.int j) M Q:=⟨f x,F2 (by rw[bh,h];rfl),q⟩
def O1(b:Int):List Sk:=[.jump,.jump,.stop,.back,.jumpby b]
def yH(b c kind z:Int):List Sk:=[.set b (z- 2^31),.set b (kind+c- 9),.add b c,.take b c,.say b,.say b,.ask b,.jumpif b,.jumpif b,.call,.jump,.load b c,.jumpby b,.alike b,.back,.stop]
def O2(a:0<=b)(c:b<4):pU b=ag:=by unfold pU;simp;omega
def Jh(a:-2147483648<=b)(c:b<=2147483647):okN b=ag:=by unfold okN;simp;omega
def WD(a:0<=b)(b1:b<4)(e:0<=c)(c1:c<4)(k0:0<=kind)(f:kind<16)(g:0<=z)(h:z<2^32):∀s∈yH b c kind z,s.ok=ag/\s.code=ag:=by have e1:=O2 a b1;have e2:=O2 e c1;have e3:okN (z- 2^31)=ag:=Jh (by omega) (by omega);have e4:okN (kind+c- 9)=ag:=Jh (by omega) (by omega);unfold yH;have e5:okN (z- 2147483648)=ag:=e3;simp[Sk.ok,Sk.code,e1,e2,e4,e5]
def EQ:GN:=λds M Q=>∃(k n:Nat) (e:Bool),ds=[.loc k,.bl e]/\Dr M k n/\∀(s:Sk) (a:Ms),s.ok=ag->s.code=ag->(e=ag->s.end=ag)->Dr a k (n- (if e=ag then 3 else 4))->p0 M a k->Q s.d a
def LY:l8 EQ:=λds M P Q w ⟨k,n,e,f,g,q⟩=>⟨k,n,e,f,g,λs h a b c d e=>w _ _ (q s h a b c d e)⟩
def ZJ:∀ds M Q,EQ ds M Q->vf 6 2 (yB jI) ds M Q:=λds M Q ⟨k,n,e,u,v,q⟩=>by
 subst u;have f:=@wx;unfold yB;generalize jI=J at f |-;refine⟨rfl,?_⟩;walk_at "d";refine f (by decide) v λb M1 p b1 _ w s1=>?_;walk_at "d";refine f (by decide) w λc M2 x c1 _ y s2=>?_;walk_at "d";refine f (by decide) y λkind A k0 B _ r s3=>?_;have i:=(s1.trans s2).trans s3;cases e with
 |true=>
  walk_at "d";obtain⟨j,a,m⟩:∃j:Nat,j<5/\kind%5=j:=⟨(kind%5).toNat,by omega,by omega⟩;rw[m];have h:(O1 b)[j]?=aa ((O1 b)[j]'a):=ax a;have hm:(O1 b)[j]'a∈O1 b:=fQ _;generalize (O1 b)[j]'a=s at h hm;have o:=O2 p b1;have g:s.ok=ag/\s.code=ag/\s.end=ag:=by simp only [O1,aH,bV,or_false] at hm;rcases hm with rfl|rfl|rfl|rfl|rfl<;>exact⟨by first|rfl|exact o,rfl,rfl⟩
  exact⟨s.d,F2 (xs:=(O1 b).map Sk.d) (by rw[bh,h];rfl),q s A g.1 g.2.1 (λ_=>g.2.2) r i⟩
 |false=>
  walk_at "d";refine f (by decide) r λz C E G _ H I=>?_;walk_at "d";obtain⟨j,a,m⟩:∃j:Nat,j<16/\kind=j:=⟨kind.toNat,by omega,by omega⟩;have h:(yH b c kind z)[j]?=aa ((yH b c kind z)[j]'a):=ax a;have g:=WD p b1 x c1 k0 B E G _ (fQ (l:=yH b c kind z) a);generalize (yH b c kind z)[j]'a=s at h g;have ha:Fk ((yH b c kind z).map Sk.d) kind=aa s.d:=by rw[m];rw[m] at h;exact F2 (by rw[bh,h];rfl)
  exact⟨s.d,ha,q s C g.1 g.2 (λz=>nomatch z) H (i.trans I)⟩
theorem tU(Pv:Nat->List D->Ms->Prop)(m:∀j a M,Pv j a M->st M):∀(xs:List D) (i:Nat) (acc:List D) (M:Ms),Pv i acc M->acc.length+xs.length<=aO->
  (∀j x acc M,xs[j]?=aa x->Pv (i+j) acc M->∀c:Option D->nB->Ms->Prop,(∀d f M1,HC fr f=b->Pv (i+j+1) (acc++[d]) M1->c (aa d) f M1)->Gs g tt o x b M c)->(∀acc M,Pv (i+xs.length) acc M->Q acc M)->tJ fr g tt o st Q xs acc b M
 |[],i,acc,M,p,_,_,z=>z acc M p
 |x::xs,i,acc,M,p,q,h,z=>by rw[aU] at q;refine h 0 x acc M rfl p _ λd f M1 e1 n=>⟨m _ _ _ n,by omega,?_⟩;rw[e1];refine tU Pv m xs (i+1) _ M1 n (by rw[aE];show acc.length+1+_<=_;omega) (λj x acc M r e c s=>?_) λacc M e=>z acc M (by rw[show i+1+xs.length=i+(xs.length+1) by omega] at e;exact e);have:=h (j+1) x acc M (by simpa using r) (by rw[show i+(j+1)=i+1+j by omega];exact e) c;rw[show i+(j+1)+1=i+1+j+1 by omega] at this;exact this s
structure Rk(B0:Ms)(k:Nat)(M:Ms)(kr:Nat)(rs:List D)(n:Nat):Prop where
 src:Dr M k n
 sib:p0 B0 M k
 e:M[kr]?=aa (aa (.lst rs))
 lr:B0.length<=kr
 k0:k<B0.length
section
variable {B0 M:Ms} {k kr:Nat} {rs:List D}
def Rk.go(h:Rk B0 k M kr rs n)(s:Dr M' k n')(b:p0 M M' k):Rk B0 k M' kr rs n':=by have a:=(ak.mp h.e).1;have:=h.lr;have:=h.k0;exact⟨s,h.sib.trans b,by rw[b.2 kr a (by omega)];exact h.e,h.lr,h.k0⟩
def p0.QR(h:p0 B0 M k)(lr:B0.length<=kr):p0 B0 (M.set kr o) k:=⟨by simpa using h.1,λj a e=>by rw[aJ (by omega)];exact h.2 j a e⟩
def Rk.ap(h:Rk B0 k M kr rs n)(b:rs.length<=1000)(q:∀M',Rk B0 k M' kr (rs++[d]) n->Q .non M'):jj (.loc kr) [d] M Q:=by have a:=(ak.mp h.e).1;have:=h.lr;have:=h.k0;refine⟨_,h.e,by rw[bp];omega,q _ ⟨h.src.of (aJ (by omega)),h.sib.QR h.lr,?_,h.lr,h.k0⟩⟩;rw[bn a]
def Rk.ty(h:Rk B0 k M kr rs n):tyD cr (vw M (.loc kr))=ag:=by rw[jh h.e];rfl
def Rk.give(h:Rk B0 k M kr rs n)(hi:a[i]?=aa (aa (.loc kr)))(q:∀M',Dr M' k n->p0 B0 M' k->Q (.lst rs) M'):KP i a M Q:=by have:=h.lr;have:=h.k0;exact⟨kr,rs,hi,h.e,q _ (h.src.of (aJ (by omega))) (h.sib.QR h.lr)⟩
def Rk.new(h:Dr M k n):Rk M k (M++[aa (.lst [])]) M.length [] n:=⟨h.of (aY h.lt),p0.push,by simp,aD _,h.lt⟩
end
structure Blk(cs:List Sk)(e:Sk)(ds:List Sk):Prop where
 ok:∀s∈cs++e::ds,s.ok=ag
 c:∀s∈cs,s.code=ag
 ec:e.code=ag
 ee:e.end=ag
 few:cs.length<=5
 d:ds=[]\/∃x,ds=[x]/\x.code=au
def Ad:GN:=λds M Q=>∃(k n:Nat),ds=[.loc k]/\Dr M k n/\∀(cs:List Sk) (e:Sk) (ds:List Sk) (a:Nat) (b:Ms),Blk cs e ds->Dr b k a->(a=0\/a+4*cs.length+5+ds.length<=n)->a<=n->p0 M b k->Q (.lst ((cs++e::ds).map Sk.d)) b
def Ji:l8 Ad:=λds M P Q w ⟨k,n,f,g,q⟩=>⟨k,n,f,g,λcs e ds h i a b c d e'=>w _ _ (q cs e ds h i a b c d e')⟩
def afl{M:Ms}{Q:DK}(d:Dr M k n)(q:∀(s:Sk) (a:Ms),s.ok=ag->s.code=ag->(e=ag->s.end=ag)->Dr a k (n- (if e=ag then 3 else 4))->p0 M a k->Q s.d a):EQ [.loc k,.bl e] M Q:=⟨k,n,e,rfl,d,q⟩
def ac9{C M:Ms}{k kr n:Nat}{rs:List Sk}{o2:Option D}{kind:Int}{o:jZ}(h:Rk C k M kr (rs.map Sk.d) n)(hl:rs.length<=6)(k0:0<=kind)(k1:kind<5)
(q:∀(ds:List Sk) (a:Nat) (b:Ms),(ds=[]\/∃x,ds=[x]/\x.code=au)->(∀s∈ds,s.ok=ag)->Dr b k a->a<=n->(a=0\/a+ds.length<=n)->p0 C b k->o.rt (.lst ((rs++ds).map Sk.d)) b):
  blC jI o [aa (.loc k),aa (.loc kr),o2,aa (.int kind),ar] M:=by
 have f:=@wx;have E:=@Rk.ap;unfold blC;generalize jI=gn at f |-;generalize jj=ga at E |-;have c:(rs.map Sk.d).length<=1000:=by rw[ao];omega
 have H:∀(b:Ms) (x:Sk) (a:Nat) (I:nB),I[1]?=aa (aa (.loc kr))->Rk C k b kr (rs.map Sk.d++[x.d]) a->x.ok=ag->x.code=au->a<=n->(a=0\/a+1<=n)->KP 1 I b o.rt:=by intro b x a I J g G hc hn XN;refine g.give J λM2 v s2=>?_;have:=q [x] a M2 (.inr ⟨x,rfl,hc⟩) (λs w=>by rw[bj.mp w];exact G) v hn XN s2;rw[ba] at this;exact this
 have hk:kind=0\/kind=1\/kind=2\/kind=3\/kind=4:=by omega
 rcases hk with rfl|rfl|rfl|rfl|rfl
 .refine h.give rfl λM2 v s2=>?_;have:=q [] n M2 (.inl rfl) (λs w=>nomatch w) v (aD _) (.inr (aD _)) s2;rw[bu] at this;exact this
 .walk_at "d";refine f (by decide) h.src λr M1 L U _ y s1=>?_;have p:=h.go y s1;refine⟨p.ty,⟨show-(2^62)<=(1+r) by omega,show(1+r)<2^62 by omega⟩,trivial,?_⟩;refine tU (λj acc b=>∃(ns:List Int) (u:Nat),acc=iD ns/\ns.length=j/\ns.all okN=ag/\u<=n- 1/\Rk C k b kr (rs.map Sk.d) u) (λ_ _ _ _=>trivial) _ 0 [] _ ⟨[],_,rfl,rfl,rfl,aD _,p⟩ ?_ (λj x acc M2 G N Kk O=>?_) (λacc M2 N=>?_)
  .show 0+(yc 0 (1+r).toNat).length<=aO;unfold yc;rw[ao,cV,bp];omega
  .obtain⟨ns,u,rfl,A,Q,hn,g⟩:=N;walk_at "d";refine f (by decide) g.src λz M3 z0 Y _ d3 s3=>?_;have Y:z<4294967296:=Y;walk_at "d";refine O _ _ _ rfl ⟨ns++[z- 2^31],u- 1,?_,?_,?_,by omega,g.go d3 s3⟩
   .unfold iD;rw[ba];rfl
   .simp;omega
   .rw[List.all_append,Q];exact(show(ag&&(okN (z- 2^31)&&ag))=ag by rw[Jh (by omega) (by omega)];rfl)
  .obtain⟨ns,u,rfl,A,Q,hn,g⟩:=N;replace A:ns.length=0+(yc 0 (1+r).toNat).length:=A;unfold yc at A;rw[ao,cV] at A;refine⟨aq rfl,E (d:=Sk.d (.numbers ns)) g c λM2 B=>?_⟩;refine H M2 (.numbers ns) u _ rfl B ?_ rfl (by omega) (by omega);show(decide (1<=cI _)&&decide (cI _<=60)&&List.all _ okN)=ag;rw[Q];simp;omega
 .walk_at "d";refine⟨h.ty,?_⟩;refine f (by decide) h.src λr M1 L U _ y s1=>?_;have p:=h.go y s1;refine⟨⟨show-(2^62)<=(1+r) by omega,show(1+r)<2^62 by omega⟩,trivial,?_⟩;refine iY (λi:Nat=>D.int (0+(i:Int))) (λi:Nat=>D.int (7*(0+(i:Int))- 3)) trivial _ [] ?_ (λx G Kk O=>?_) ?_
  .rw[cV,bp];show 0+_<=_;omega
  .exact⟨.inl ⟨by decide,by decide⟩,O _ rfl⟩
  .have T:∀ns:List Int,ns=(cy (1+r).toNat).map (λi:Nat=>7*(0+(i:Int))- 3)->(Sk.numbers ns).ok=ag:=by intro ns e;subst e;show(decide (1<=cI _)&&decide (cI _<=60)&&List.all _ okN)=ag;rw[ao,cV];simp;refine⟨by omega,λx G=>Jh (by omega) (by omega)⟩
   refine⟨aq rfl,?_⟩;have e1:[]++(cy (1+r).toNat).map (λi:Nat=>D.int (7*(0+(i:Int))- 3))=((cy (1+r).toNat).map (λi:Nat=>7*(0+(i:Int))- 3)).map D.int:=by rw[bx];rfl
   rw[e1];refine E p c λM2 B=>?_;exact H M2 (.numbers _) _ _ rfl B (T _ rfl) rfl (by omega) (by omega)
 .walk_at "d";refine⟨h.ty,?_⟩;refine f (by decide) h.src λr M1 L U _ y s1=>?_;have p:=h.go y s1;obtain⟨m,rfl⟩:=cu L;have e1:(1:Int)+(m:Int)=((1+m:Nat):Int):=by omega
  refine⟨aq rfl,?_⟩;rw[e1];refine E (d:=Sk.d (.table (1+m))) p c λM2 B=>?_;refine H M2 (.table (1+m)) _ _ rfl B ?_ rfl (by omega) (by omega);unfold Sk.ok;simp;omega
 .refine h.give rfl λM2 v s2=>?_;have:=q [] n M2 (.inl rfl) (λs w=>nomatch w) v (aD _) (.inr (aD _)) s2;rw[bu] at this;exact this
def WE:∀ds M Q,Ad ds M Q->vf 5 1 (wn jI EQ) ds M Q:=λds M Q ⟨k,n,L,O,q⟩=>by
 subst L;unfold wn;have f:=@wx;have fc:=@afl;have o:=@Rk.ap;have p:=@ac9;generalize jI=G at f p |-;generalize EQ=T at fc |-;generalize jj=ga at o |-;generalize blC G=bl at p |-;have H:=Rk.new O;refine⟨rfl,bD _,f (by decide) H.src λr M1 r0 r1 _ U s1=>?_⟩;have g:=H.go U s1;refine⟨⟨show-(2^62)<=r by omega,show r<2^62 by omega⟩,trivial,?_⟩;have u:∀(cs:List Sk) (M2:Ms) (c:Nat) (o2:Option D),(∀s∈cs,s.ok=ag/\s.code=ag)->cs.length<=5->Rk M k M2 M.length (cs.map Sk.d) c->c<=n->(c=0\/c+4*cs.length+1<=n)->
   (iz (lp (Ao cr ga (hX 1) (hV (i5 T (hV (hX 0) (hV (dC (.bl ag)) ib))) ib)))
    (iz (jl 3 (i5 G (hV (hX 0) (hV (dC (.int 5)) ib)))) bl)) ⟨λ_ h=>Q .non h,Q,λ_ _=>False,λ_ _=>False⟩ [aa (.loc k),aa (.loc M.length),o2,ar,ar] M2:=by
  intro cs M2 c o2 hc j g hn v;refine⟨g.ty,fc g.src λe Y w ec ee y s3=>?_⟩;refine o (g.go y s3) (by rw[ao];omega) λM4 m=>?_;refine f (by decide) m.src λkind M5 k0 k1 _ d5 s5=>?_;have I:=m.go d5 s5;have e5:cs.map Sk.d++[e.d]=(cs++[e]).map Sk.d:=by rw[ba];rfl
  rw[e5] at I;refine p I (by simp;omega) k0 k1 λds n' h hd ho dr A B sb=>?_;have e6:cs++[e]++ds=cs++e::ds:=by simp
  rw[e6];refine q cs e ds n' h ⟨λs b=>?_,λs b=>(hc s b).2,ec,ee rfl,j,hd⟩ dr ?_ ?_ sb
  .rcases bt.mp b with b|b
   .exact(hc s b).1
   .rcases aH.mp b with rfl|b
    .exact w
    .exact ho s b
  .have e7:(if ag=ag then 3 else 4)=3:=rfl;rw[e7] at A B;omega
  .omega
 refine iQ (λi:Nat=>D.int (0+(i:Int))) (λa z C h=>a.length+z.length<=5/\∃(cs:List Sk) (c:Nat) (o2:Option D),(∀s∈cs,s.ok=ag/\s.code=ag)/\cs.length=a.length/\Rk M k h M.length (cs.map Sk.d) c/\c<=n/\(c=0\/c+4*cs.length+1<=n)/\C=[aa (.loc k),aa (.loc M.length),o2,ar,ar]) (λ_ _ _ _ _=>trivial) _ [] _ _ ⟨?_,[],n- 1,ar,(λs b=>nomatch b),rfl,g,by omega,(by show _\/_+4*0+1<=_;omega),rfl⟩ (λpre x xs C h E N hN=>?_) (λpre C h E=>?_)
 .rw[cV];show 0+_<=_;omega
 .obtain⟨j,cs,c,o2,hc,J,g,hn,v,rfl⟩:=E;refine⟨g.ty,fc g.src λe Y w ec ee y s3=>?_⟩;rw[aU] at j;refine o (g.go y s3) (by rw[ao];omega) λM4 m=>hN _ _ ⟨?_,cs++[e],c- 4,_,?_,?_,?_,?_,?_,rfl⟩
  .rw[aE];show _+1+_<=_;omega
  .intro s b;rcases bt.mp b with b|b
   .exact hc s b
   .rw[bj.mp b];exact⟨w,ec⟩
  .simp[J]
  .rw[ba];exact m
  .omega
  .rw[aE];show _\/_+4*(_+1)+1<=_;omega
 .obtain⟨j,cs,c,o2,hc,J,g,hn,v,rfl⟩:=E;exact u cs h c o2 hc (by omega) g hn v
def az:aX:=uaP
def ch(i:Nat):aX:=⟨#[az.cps.toList.getD i 0]⟩
def nm(k:Nat):aX:=if k%5=4/\k<40 then"p"++ch (k/5) else if k%5=3 then"nnnnn"++ch (k/26%26)++ch (k%26) else"n"++ch (k/26%26)++ch (k%26)
def ZK:∀k,k<100->qF (nm k)=ag:=by decide+kernel
def afm:((cy 100).map nm).Nodup:=by decide+kernel
def WG(hi:i<100)(c:j<100)(h:nm i=nm j):i=j:=by have:=afm;have e:=(eP (h₀:=by simpa using hi) (h₁:=by simpa using c) this).mp (by simpa using h);exact e
def afn{i:Nat}{j:Int}{M:Ms}{Q:DK}(e:j=(i:Int))(h:i<26)(q:Q (.str (ch i)) M):jS (.str az) (.int j) M Q:=by subst e;refine⟨aq rfl,az.cps.toList.getD i 0,F2 ?_,q⟩;rw[bv,ax (h)];rfl
def uO:GP:=λds Q=>∃k:Nat,ds=[.int k]/\k<100/\Q (.str (nm k))
def LZ:jD uO:=λds P Q w ⟨k,h,a,q⟩=>⟨k,h,a,w _ q⟩
def ZL:∀ds Q,uO ds Q->lN 2 1 yz ds Q:=λds Q ⟨k,h,s,q⟩=>by
 subst h;have a:=@afn;unfold yz;generalize jS=j at a |-;refine⟨rfl,?_⟩;have b:zC (k:Int) 26:=⟨by decide,by decide⟩;have c:(k:Int)/26%26=((k/26%26:Nat):Int):=by omega
 have f:(k:Int)%26=((k%26:Nat):Int):=by omega
 have g:k/26%26<26:=Nat.mod_lt _ (by decide);have i:k%26<26:=Nat.mod_lt _ (by decide);have snd:∀(E:jZ) (M:Ms) (o:Option D),(∀d M,d=.str (nm k)->E.rt d M)->¬(k%5=4/\k<40)->(iz (js (iu (iA vy (iA pV (hX 0) (dC (.int 5))) (dC (.int 3)))) (iN (iA jn (iA jn (dC (.str "nnnnn")) (iA j (hX 1) (iA pV (iA AS (hX 0) (dC (.int 26))) (dC (.int 26))))) (iA j (hX 1) (iA pV (hX 0) (dC (.int 26)))))) iP)
   (iN (iA jn (iA jn (dC (.str "n")) (iA j (hX 1) (iA pV (iA AS (hX 0) (dC (.int 26))) (dC (.int 26))))) (iA j (hX 1) (iA pV (hX 0) (dC (.int 26))))))) E [aa (.int k),aa (.str az)] M:=by
  intro E M o m hn;refine⟨show(0:Int)<5 by decide,?_⟩;show(if((k:Int)%5==3)=ag then _ else _);by_cases n:k%5=3
  .rw[if_pos (show((k:Int)%5==3)=ag by rw[beq_iff_eq];omega)];refine⟨b,show(0:Int)<26 by decide,?_⟩;refine a c g ⟨aq rfl,show(0:Int)<26 by decide,?_⟩;refine a f i ⟨aq rfl,m _ _ ?_⟩;unfold nm;rw[if_neg hn,if_pos n]
  .rw[if_neg (show¬((k:Int)%5==3)=ag by rw[beq_iff_eq];omega)];refine⟨b,show(0:Int)<26 by decide,?_⟩;refine a c g ⟨aq rfl,show(0:Int)<26 by decide,?_⟩;refine a f i ⟨aq rfl,m _ _ ?_⟩;unfold nm;rw[if_neg hn,if_neg n]
 refine⟨show(0:Int)<5 by decide,?_⟩;show(if((k:Int)%5==4)=ag then _ else _);by_cases p:k%5=4
 .rw[if_pos (show((k:Int)%5==4)=ag by rw[beq_iff_eq];omega)];show(if decide ((k:Int)<40)=ag then _ else _);by_cases r:k<40
  .rw[if_pos (decide_eq_true (by omega))];refine⟨⟨by decide,by decide⟩,?_⟩;refine a (show(k:Int)/5=((k/5:Nat):Int) by omega) (by omega) ⟨aq rfl,rfl,?_⟩;unfold nm at q;rw[if_pos ⟨p,r⟩] at q;exact q
  .rw[if_neg (by rw[decide_eq_true_eq];omega)];exact snd _ _ ar (λd M e=>by subst e;exact⟨rfl,q⟩) (λz=>r z.2)
 .rw[if_neg (show¬((k:Int)%5==4)=ag by rw[beq_iff_eq];omega)];exact snd _ _ ar (λd M e=>by subst e;exact⟨rfl,q⟩) (λz=>p z.1)
def Sk.kn:Sk->aX
 |.set _ _=>gc|.add _ _=>"add"|.take _ _=>"take"|.say _=>"say"|.ask _=>"ask"|.jump=>ph|.jumpif _=>qa|.call=>ra|.back=>rl|.stop=>qZ|.load _ _=>qb
 |.jumpby _=>pd|.alike _=>pS|.numbers _=>im|.table _=>kv
def Sk.ix0(s:Sk){M:Ms}{Q:DK}(q:Q (.str s.kn) M):jS s.d (.int 0) M Q:=by cases s<;>exact⟨_,rfl,q⟩
def Sk.isin(s:Sk){M:Ms}{Q:DK}(q:Q (.bl (!s.code)) M):CB au (.str s.kn) (.tup [.str im,.str kv]) M Q:=by cases s<;>exact⟨_,rfl,q⟩
abbrev Fl:=List (Option Bool×Sk)
def Fn(i:Nat)(b:Bool):D:=.tup [.str mX,.str (nm i),.bl b]
def j4:Nat->Fl->List D
 |_,[]=>[]
 |i,(ar,s)::r=>s.d::j4 i r
 |i,(aa b,s)::r=>Fn i b::s.d::j4 (i+1) r
def oJ:Fl->List Sk
 |[]=>[]
 | (ar,_)::r=>oJ r
 | (aa _,s)::r=>s::oJ r
def st:Fl->Nat
 |[]=>0
 | (aa ag,_)::r=>st r+1
 |_::r=>st r
def ZM(i:Nat)(s:Sk):D:=.tup [.str (nm i),.str s.kn]
def uP:Nat->List Sk->List D
 |_,[]=>[]
 |i,s::r=>ZM i s::uP (i+1) r
theorem Jj:∀(i:Nat) (a:List Sk),(uP i a).length=a.length
 |_,[]=>rfl
 |i,s::r=>by unfold uP;rw[aU,aU,Jj]
theorem L4:∀(i:Nat) (a:List Sk) (s:Sk),uP i (a++[s])=uP i a++[ZM (i+a.length) s]
 |_,[],_=>rfl
 |i,x::r,s=>by show ZM i x::uP (i+1) (r++[s])=ZM i x::(uP (i+1) r++_);rw[L4,aU,show i+1+r.length=i+(r.length+1) by omega]
theorem yI:∀(i:Nat) (f:Fl) (s:Sk),j4 i (f++[(ar,s)])=j4 i f++[s.d]
 |_,[],_=>rfl
 |i,(ar,x)::r,s=>by show x.d::j4 i (r++_)=x.d::(j4 i r++_);rw[yI]
 |i,(aa b,x)::r,s=>by show Fn i b::x.d::j4 (i+1) (r++_)=Fn i b::x.d::(j4 (i+1) r++_);rw[yI]
theorem yJ:∀(i:Nat) (f:Fl) (b:Bool) (s:Sk),j4 i (f++[(aa b,s)])=j4 i f++[Fn (i+(oJ f).length) b]++[s.d]
 |_,[],_,_=>rfl
 |i,(ar,x)::r,b,s=>by show x.d::j4 i (r++_)=x.d::(j4 i r++_++_);rw[yJ];rfl
 |i,(aa a,x)::r,b,s=>by show Fn i a::x.d::j4 (i+1) (r++_)=Fn i a::x.d::(j4 (i+1) r++_++_);rw[yJ,show i+1+(oJ r).length=i+(oJ r).length+1 by omega];rfl
theorem ER:∀(f:Fl) (s:Sk),oJ (f++[(ar,s)])=oJ f
 |[],_=>rfl
 | (ar,x)::r,s=>ER r s
 | (aa b,x)::r,s=>by show x::oJ (r++_)=_;rw[ER];rfl
theorem ES:∀(f:Fl) (b:Bool) (s:Sk),oJ (f++[(aa b,s)])=oJ f++[s]
 |[],_,_=>rfl
 | (ar,x)::r,b,s=>ES r b s
 | (aa a,x)::r,b,s=>by show x::oJ (r++_)=_;rw[ES];rfl
theorem ET:∀f:Fl,(oJ f).length<=f.length
 |[]=>aD _
 | (ar,x)::r=>eM (ET r)
 | (aa b,x)::r=>fX (ET r)
theorem EU:∀(i:Nat) (f:Fl),(j4 i f).length<=2*f.length
 |_,[]=>aD _
 |i,(ar,x)::r=>by have:=EU i r;show _+1<=2*(_+1);omega
 |i,(aa b,x)::r=>by have:=EU (i+1) r;show _+1+1<=2*(_+1);omega
theorem Ba:∀f g:Fl,st (f++g)=st f+st g
 |[],g=>by simp[st]
 | (ar,x)::r,g=>Ba r g
 | (aa ag,x)::r,g=>by show st (r++g)+1=st r+1+_;rw[Ba];omega
 | (aa au,x)::r,g=>Ba r g
theorem Th:∀{f:Fl},(j4 i f).isEmpty=f.isEmpty
 |[]=>rfl
 | (ar,x)::r=>rfl
 | (aa b,x)::r=>rfl
inductive Sh:Nat->List Sk->Prop
 |nil:Sh 0 []
 |snoc {b:Nat} {r cs:List Sk} {e:Sk} {ds:List Sk}:Sh b r->Blk cs e ds->Sh (b+1) (r++(cs++e::ds))
def Blk.len(h:Blk cs e ds):ds.length<=1:=by rcases h.d with rfl|⟨x,rfl,_⟩<;>simp
theorem Sh.len(h:Sh b r):r.length<=7*b:=by
 induction h with
 |nil=>exact aD _
 |snoc _ a c=>
  have:=a.few;have:=a.len;simp only [aE,aU];omega
structure Rm(B0:Ms)(k m:Nat)(M:Ms)(kr:Nat)(rs ms:List D)(n:Nat):Prop where
 src:Dr M k n
 len:B0.length<=M.length
 sib:∀j,j<B0.length->j≠k->j≠m->M[j]?=B0[j]?
 e:M[kr]?=aa (aa (.lst rs))
 em:M[m]?=aa (aa (.lst ms))
 lr:B0.length<=kr
 k0:k<B0.length
 m0:m<B0.length
 km:k≠m
section
variable {M:Ms} {k kr:Nat} {rs ms:List D}
def Rm.go(h:Rm B0 k m M kr rs ms n)(s:Dr M' k n')(b:p0 M M' k):Rm B0 k m M' kr rs ms n':=by have f:=(ak.mp h.e).1;have g:=(ak.mp h.em).1;have:=h.lr;have:=h.k0;have:=h.km;exact⟨s,bG h.len b.1,λj i a c=>(b.2 j (by omega) a).trans (h.sib j i a c),by rw[b.2 kr f (by omega)];exact h.e,by rw[b.2 m g (by omega)];exact h.em,h.lr,h.k0,h.m0,h.km⟩
def Rm.ap(h:Rm B0 k m M kr rs ms n)(g:rs.length<=1000)(q:∀M',Rm B0 k m M' kr (rs++[d]) ms n->Q .non M'):jj (.loc kr) [d] M Q:=by have b:=(ak.mp h.e).1;have:=h.lr;have:=h.k0;have:=h.m0;refine⟨_,h.e,by rw[bp];omega,q _ ⟨h.src.of (aJ (by omega)),by simpa using h.len,λj f a c=>(aJ (by omega)).trans (h.sib j f a c),bn b,(aJ (by omega)).trans h.em,h.lr,h.k0,h.m0,h.km⟩⟩
def Rm.am(h:Rm B0 k m M kr rs ms n)(g:ms.length<=1000)(q:∀M',Rm B0 k m M' kr rs (ms++[d]) n->Q .non M'):jj (.loc m) [d] M Q:=by have b:=(ak.mp h.em).1;have:=h.lr;have:=h.m0;have:=h.km;refine⟨_,h.em,by rw[bp];omega,q _ ⟨h.src.of (aJ (by omega)),by simpa using h.len,λj f a c=>(aJ (by omega)).trans (h.sib j f a c),(aJ (by omega)).trans h.e,bn b,h.lr,h.k0,h.m0,h.km⟩⟩
def Rm.ty(h:Rm B0 k m M kr rs ms n):tyD cr (vw M (.loc kr))=ag:=by rw[jh h.e];rfl
def Rm.tm(h:Rm B0 k m M kr rs ms n):tyD cr (vw M (.loc m))=ag:=by rw[jh h.em];rfl
def Rm.new(h:Dr M k n)(hm:M[m]?=aa (aa (.lst ms)))(km:k≠m):Rm M k m (M++[aa (.lst [])]) M.length [] ms n:=by have a:=(ak.mp hm).1;exact⟨h.of (aY h.lt),by simp,λj b _ _=>aY b,by simp,(aY a).trans hm,aD _,h.lt,a,km⟩
def Rm.afo(h:Rm B0 k m M kr rs ms n){Q:DK}(q:Q (.int ms.length) M):lx [.loc m] M Q:=by unfold lx;simp only [jh h.em];exact⟨ms.length,rfl,q⟩
def Rm.empty(h:Rm B0 k m M kr rs ms n){Q:DK}(q:Q (.bl rs.isEmpty) M):B7 (.loc kr) (.lst []) M Q:=by unfold B7;rw[jh h.e];exact q
def Rm.last(h:Rm B0 k m M kr rs (ms++[d]) n){Q:DK}(q:Q d M):jS (.loc m) (.int (-1)) M Q:=by unfold jS;rw[jh h.em];refine⟨d,?_,q⟩;unfold Fk Xl;rw[if_neg (by decide),aE,dm,if_pos (by omega),show(-1+((ms.length+1:Nat):Int)).toNat=ms.length by omega];simp
end
def afp{Q:DK}(h:k<100)(q:Q (.str (nm k)) M):cl uO [.int k] M Q:=⟨rfl,k,rfl,h,q⟩
def ZN{y M:Ms}{k m kr n:Nat}{c:List Sk}{f:Fl}{x:Sk}{A:Option D}{E:jZ}(h:Rm y k m M kr (j4 c.length f) (uP 0 (c++oJ f)) n)(hf:f.length<=30)(hk:c.length+f.length<100)
(q:∀(o:Option Bool) (g:Nat) (i:Ms),Rm y k m i kr (j4 c.length (f++[(o,x)])) (uP 0 (c++oJ (f++[(o,x)]))) g->g<=n->(f=[]->o.isSome=ag)->(o=aa ag->1<=n/\g+2<=n+(if x.code=ag then 0 else 1)+(if f=[] then 1 else 0))->E.nx [aa (.loc k),aa (.loc m),aa (.int 3),aa (.loc kr),A,aa x.d] i):
  skA jI (cl uO) E [aa (.loc k),aa (.loc m),aa (.int 3),aa (.loc kr),A,aa x.d] M:=by
 have J:=@wx;have f2:=@afp;have L:=@Rm.ap;have f4:=@Rm.am;have N:=@Sk.ix0;have f6:=@Sk.isin;have f7:=@Rm.afo;have f8:=@Rm.empty;have f9:=@Rm.last;have B:∀{a:aX} {b:D} {M:Ms} {Q:DK},Q (.str a) M->jS (.tup [.str a,b]) (.int 0) M Q:=λq=>⟨_,rfl,q⟩;have PM:=ET f;have hrl:=EU c.length f;unfold skA;generalize jI=gn at J |-;generalize cl uO=gm at f2 |-;generalize jj=ga at L f4 |-;generalize jS=O at N f9 B |-;generalize CB=gi at f6 |-;generalize lx=gl at f7 |-;have I:∀(o:Option Bool) (g:Nat) (i:Ms) (rs:List D),Rm y k m i kr rs (uP 0 (c++oJ (f++[(o,x)]))) g->rs++[x.d]=j4 c.length (f++[(o,x)])->rs.length<=1000->g<=n->(f=[]->o.isSome=ag)->(o=aa ag->1<=n/\g+2<=n+(if x.code=ag then 0 else 1)+(if f=[] then 1 else 0))->
   (lp (Ao cr ga (hX 3) (hV (hX 5) ib))) E [aa (.loc k),aa (.loc m),aa (.int 3),aa (.loc kr),A,aa x.d] i:=by intro o g i rs j e hl p v s;refine⟨j.ty,L j hl λM2 T=>q o g M2 ?_ p v s⟩;rw[<-e];exact T
 have mk:∀(w:Nat) (M2:Ms) (U:jZ),Rm y k m M2 kr (j4 c.length f) (uP 0 (c++oJ f)) w->(∀(b:Bool) (g:Nat) (i:Ms),g<=w->(b=ag->g+1<=w)->Rm y k m i kr (j4 c.length f++[Fn (c.length+(oJ f).length) b]) (uP 0 (c++oJ (f++[(aa b,x)]))) g->U.nx [aa (.loc k),aa (.loc m),aa (.int 3),aa (.loc kr),A,aa x.d] i)->
   (iz (lp (Ao cr ga (hX 1) (hV (ju (hV (i5 gm (hV (i5 gl (hV (hX 1) ib)) ib)) (hV (iA O (hX 5) (dC (.int 0))) ib))) ib)))
   (lp (Ao cr ga (hX 3) (hV (ju (hV (dC (.str mX)) (hV (iA O (iA O (hX 1) (RP (dC (.int 1)))) (dC (.int 0))) (hV (iA acL (i5 gn (hV (hX 0) (hV (dC (.int 4)) ib))) (dC (.int 0))) ib)))) ib)))) U [aa (.loc k),aa (.loc m),aa (.int 3),aa (.loc kr),A,aa x.d] M2:=by
  intro w M2 U j hE;have C:(uP 0 (c++oJ f)).length=c.length+(oJ f).length:=by rw[Jj,aE]
  refine⟨j.tm,f7 j ?_⟩;rw[C];refine f2 (by omega) (N x ⟨aq rfl,f4 j (by rw[C];omega) λM3 s=>?_⟩);refine⟨s.ty,f9 s (B (J (by decide) s.src λr M4 r0 r1 rz d4 s4=>⟨aq rfl,L (s.go d4 s4) (by omega) λM5 h5=>?_⟩))⟩;refine hE (decide (0<r)) (w- 1) M5 (by omega) (λhb=>?_) ?_
  .have:=of_decide_eq_true hb;by_cases hz:w=0
   .have:=rz hz;omega
   .omega
  .rw[ES,<-bi,L4,aE,bR];exact h5
 have Y:∀b:Bool,j4 c.length f++[Fn (c.length+(oJ f).length) b]++[x.d]=j4 c.length (f++[(aa b,x)]):=λb=>(yJ _ _ _ _).symm;have u:∀b:Bool,(j4 c.length f++[Fn (c.length+(oJ f).length) b]).length<=1000:=λb=>by rw[aE,dm];omega
 refine N x ⟨aq rfl,f6 x ?_⟩;cases hc:x.code with
 |false=>
  refine mk n M _ h λb g i p v j=>?_;refine I (aa b) g i _ j (Y b) (u b) p (λ_=>rfl) λG=>?_;have:=v (bF G);rw[if_neg (by rw[hc];decide)];omega
 |true=>
  refine⟨bD _,f8 h ?_⟩;rw[Th];by_cases he:f=[]
  .subst he;refine mk n M _ h λb g i p v j=>?_;refine I (aa b) g i _ j (Y b) (u b) p (λ_=>rfl) λG=>?_;have:=v (bF G);rw[if_pos rfl];omega
  .rw[show f.isEmpty=au by cases f with|nil=>exact absurd rfl he|cons _ _=>rfl];refine J (by decide) h.src λr M1 r0 r1 rz d1 s1=>?_;have p:=h.go d1 s1;show(if(r==1)=ag then _ else _);by_cases H:r=1
   .subst H;refine mk (n- 1) M1 _ p λb g i v s j=>?_;refine I (aa b) g i _ j (Y b) (u b) (by omega) (λ_=>rfl) λG=>?_;have:=s (bF G);omega
   .rw[if_neg (by rw[beq_iff_eq];exact H)];refine I ar (n- 1) M1 _ (by rw[ER];exact p) (yI _ _ _).symm (by omega) (by omega) (λz=>absurd z he) (λz=>nomatch z)
def dc(l:List Sk):Nat:=(l.filter λs=>!s.code).length
def WH(a b:List Sk):dc (a++b)=dc a+dc b:=by unfold dc;rw[gK,aE]
theorem QU:∀{l:List Sk},(∀s∈l,s.code=ag)->dc l=0
 |[],_=>rfl
 |s::l,h=>by have e:=h s aN;have:=QU λx a=>h x (aB _ a);unfold dc at*;rw[bO,e];exact this
theorem Blk.dc(h:Blk cs e ds):dc (cs++e::ds)=ds.length:=by
 rw[show cs++e::ds=(cs++[e])++ds by simp,WH,QU λs a=>?_]
 .rcases h.d with rfl|⟨x,rfl,b⟩
  .rfl
  .unfold oz.dc;rw[bO,b];rfl
 .rcases bt.mp a with a|a
  .exact h.c s a
  .rw[bj.mp a];exact h.ec
def Hd (f:Fl):Prop:=∃(b:Bool) (x:Sk) (r:Fl),f=(aa b,x)::r
def yL:GN:=λds M Q=>∃(k m n:Nat) (c:List Sk),ds=[.loc k,.loc m,.int 3]/\k≠m/\Dr M k n/\M[m]?=aa (aa (.lst (uP 0 c)))/\c.length<=78/\
 ∀(f:Fl) (b e:Nat) (a:Ms),Sh b (f.map dD)->b<=3->Hd f->6*st f+e<=n+10->Dr a k e->a[m]?=aa (aa (.lst (uP 0 (c++oJ f))))->M.length<=a.length->(∀j,j<M.length->j≠k->j≠m->a[j]?=M[j]?)->Q (.lst (j4 c.length f)) a
def L5:l8 yL:=λds M P Q w ⟨k,m,n,a,c,e,g,h,i,q⟩=>⟨k,m,n,a,c,e,g,h,i,λf b j o a1 a2 a3 a4 a5 a6 a7 a8=>w _ _ (q f b j o a1 a2 a3 a4 a5 a6 a7 a8)⟩
def afq{M:Ms}{Q:DK}(d:Dr M k n)(q:∀(cs:List Sk) (e:Sk) (ds:List Sk) (a:Nat) (b:Ms),Blk cs e ds->Dr b k a->(a=0\/a+4*cs.length+5+ds.length<=n)->a<=n->p0 M b k->Q (.lst ((cs++e::ds).map Sk.d)) b):Ad [.loc k] M Q:=⟨k,n,rfl,d,q⟩
theorem QV:∀f:Fl,st f<=f.length
 |[]=>aD _
 | (ar,_)::r=>eM (QV r)
 | (aa ag,_)::r=>fX (QV r)
 | (aa au,_)::r=>eM (QV r)
def WI{u M1:Ms}{k m kr e:Nat}{g:List Sk}{f0:Fl}{rows:List Sk}{v f:Option D}{E:jZ}{J:Ms->Prop}(O:∀M,J M)(h:Rm u k m M1 kr (j4 g.length f0) (uP 0 (g++oJ f0)) e)(w:f0.length+rows.length<=21)(hk:g.length<=78)
(q:∀(a:Fl) (c:Nat) (i:Ms) (f:Option D),a.map dD=rows->Rm u k m i kr (j4 g.length (f0++a)) (uP 0 (g++oJ (f0++a))) c->c<=e->c+2*st a<=e+dc rows+(if f0=[] then 1 else 0)->(st a=0\/1<=e)->(f0=[]->rows≠[]->Hd a)->E.nx [aa (.loc k),aa (.loc m),aa (.int 3),aa (.loc kr),v,f] i):
  xV (iq 5) (skA jI (cl uO)) J E (rows.map Sk.d) [aa (.loc k),aa (.loc m),aa (.int 3),aa (.loc kr),v,f] M1:=by
 have fs:=@ZN;refine iQ Sk.d (λpre xs A i=>pre++xs=rows/\∃(a:Fl) (c:Nat) (f:Option D),a.map dD=pre/\Rm u k m i kr (j4 g.length (f0++a)) (uP 0 (g++oJ (f0++a))) c/\c<=e/\c+2*st a<=e+dc pre+(if f0=[] then 1 else 0)/\(a=[]->c=e)/\(st a=0\/1<=e)/\(f0=[]->pre≠[]->Hd a)/\A=[aa (.loc k),aa (.loc m),aa (.int 3),aa (.loc kr),v,f]) (λ_ _ _ _ _=>O _) rows [] _ _ ⟨rfl,[],e,f,rfl,by rw[bu];exact h,aD _,by show e+0<=_;omega,λ_=>rfl,.inl rfl,λ_ z=>absurd rfl z,rfl⟩ (λpre x xs A i j N Q=>?_) (λpre A i j=>?_)
 .obtain⟨p,a,c,f,e1,B,hn,ha,T,C,G,rfl⟩:=j;have jK:(f0++a).length+1<=21:=by
   have e2:a.length=pre.length:=by rw[<-e1,ao]
   have e3:rows.length=pre.length+(xs.length+1):=by rw[<-p,aE];rfl
   rw[aE];omega
  refine fs B (by omega) (by omega) λo H M2 U XN I s=>Q _ _ ⟨by rw[<-p,bi];rfl,a++[(o,x)],H,_,?_,?_,by omega,?_,?_,?_,?_,rfl⟩
  .rw[ba,e1];rfl
  .rw[<-bi];exact U
  .rw[WH,Ba];have e5:dc [x]=if x.code=ag then 0 else 1:=by unfold dc;rw[bO];cases x.code<;>rfl
   by_cases n:o=aa ag
   .obtain⟨g1,L⟩:=s n;subst n;rw[e5];show H+2*(st a+1)<=_;by_cases w:f0++a=[]
    .obtain⟨Y,z2⟩:=List.append_eq_nil_iff.mp w;subst Y z2;rw[if_pos (bu _)] at L;rw[if_pos rfl];show H+2*(0+1)<=_;omega
    .rw[if_neg w] at L;omega
   .have e6:st [(o,x)]=0:=by
     match o,n with
     |none,_=>rfl
     |some au,_=>rfl
     |some ag,z=>exact absurd rfl z
    rw[e6];omega
  .intro z;simp at z
  .by_cases n:o=aa ag
   .exact .inr (by have:=(s n).1;omega)
   .have e6:st [(o,x)]=0:=by
     match o,n with
     |none,_=>rfl
     |some au,_=>rfl
     |some ag,z=>exact absurd rfl z
    rw[Ba,e6];exact C
  .intro z _;by_cases j:pre=[]
   .subst j;have:a=[]:=by cases a with|nil=>rfl|cons _ _=>cases e1
    subst this z;have:=I rfl;obtain⟨b,rfl⟩:=cZ.mp this;exact⟨b,x,[],rfl⟩
   .obtain⟨b,y,r,rfl⟩:=G z j;exact⟨b,y,r++[(o,x)],rfl⟩
 .obtain⟨p,a,c,f,e1,B,hn,ha,T,C,G,rfl⟩:=j;rw[bu] at p;subst p;exact q a c i f e1 B hn ha C G
def Sh.ne(h:Sh b r):b=0↔r=[]:=by
 cases h with
 |nil=>exact⟨λ_=>rfl,λ_=>rfl⟩
 |snoc _ _=>exact⟨λz=>by omega,λz=>by simp at z⟩
def ZO:∀ds M Q,yL ds M Q->vf 6 3 (rf jI Ad (cl uO)) ds M Q:=λds M Q ⟨k,m,n,w,Y,C,E,h4,h5,q⟩=>by
 subst Y;unfold rf;have f:=@wx;have O:=@afq;have T:=@WI;generalize hsk:skA jI (cl uO)=sk at T |-;generalize jI=gn at f |-;generalize Ad=gb at O |-;have U:Rm M k m (M++[aa (.lst [])]) M.length [] (uP 0 w) n:=Rm.new E h4 C;refine⟨rfl,bD _,f (by decide) U.src λr M1 r0 r1 _ d1 s1=>?_⟩;have g:=U.go d1 s1;refine⟨⟨show-(2^62)<=1+r by omega,show 1+r<2^62 by omega⟩,trivial,?_⟩;refine iQ (λi:Nat=>D.int (0+(i:Int))) (λa z G H=>a.length+z.length=(1+r).toNat/\∃(f:Fl) (u:Nat) (I A:Option D),Sh a.length (f.map dD)/\(a≠[]->Hd f)/\Rm M k m H M.length (j4 w.length f) (uP 0 (w++oJ f)) u/\6*st f+u<=n+3*a.length+min 1 a.length/\G=[aa (.loc k),aa (.loc m),aa (.int 3),aa (.loc M.length),I,A]) (λ_ _ _ _ _=>trivial) _ [] _ _ ⟨?_,[],n- 1,ar,ar,.nil,λz=>absurd rfl z,?_,?_,rfl⟩ (λpre x xs G H o N hN=>?_) (λpre G H o=>?_)
 .rw[cV];show 0+_=_;omega
 .show Rm M k m M1 M.length [] (uP 0 (w++[])) (n- 1);rw[bu];exact g
 .show 6*0+(n- 1)<=_;omega
 .obtain⟨p,f0,u,I,A,s,J,g,ha,rfl⟩:=o;rw[aU] at p;refine O g.src λcs e ds n' M2 hb d2 hc hn s2=>?_;have C:=g.go d2 s2;have hfl:f0.length<=7*pre.length:=by have:=s.len;rwa [ao] at this
  have hbl:=hb.len;have hbf:=hb.few;have v:(cs++e::ds).length=cs.length+1+ds.length:=by rw[aE,aU];omega
  refine⟨_,rfl,rfl,?_⟩;refine T (λ_=>rfl) C (by rw[v];omega) h5 λB n3 M3 A e1 E g1 L g3 g4=>hN _ _ ⟨?_,f0++B,n3,_,_,?_,?_,E,?_,rfl⟩
  .rw[aE];show _+1+_=_;omega
  .rw[aE,ba,e1];exact .snoc s hb
  .intro _;by_cases h:f0=[]
   .obtain⟨b,y,r,rfl⟩:=g4 h (by simp);subst h;exact⟨b,y,r,rfl⟩
   .have o:pre≠[]:=λz=>h (by have:=(s.ne).mp (by rw[z];rfl);cases f0 with|nil=>rfl|cons _ _=>cases this);obtain⟨b,y,r,rfl⟩:=J o;exact⟨b,y,r++B,rfl⟩
  .rw[hb.dc] at L;have e2:B.length=cs.length+1+ds.length:=by rw[<-v,<-e1,ao]
   have e3:=QV B;rw[Ba,aE,dm];by_cases h:f0=[]
   .have o:pre.length=0:=(s.ne).mpr (by rw[h];rfl);rw[if_pos h] at L;omega
   .rw[if_neg h] at L;omega
 .obtain⟨p,f0,u,I,A,s,J,g,ha,rfl⟩:=o;have p:pre.length+0=(1+r).toNat:=p;have:=g.lr;have:=g.k0;have:=g.m0;refine⟨M.length,_,rfl,g.e,q f0 pre.length u _ s (by omega) (J λz=>by rw[z] at p;simp at p;omega) (by omega) (g.src.of (aJ (by omega))) ((aJ (by omega)).trans g.em) (by simpa using g.len) λj a b c=>(aJ (by omega)).trans (g.sib j a b c)⟩
inductive So
 |c
 |n
 |t
 deriving DecidableEq
def Sk.so:Sk->So
 |.numbers _=>.n|.table _=>.t|_=>.c
def soD:So->D
 |.c=>.tup []|.n=>.tup [.str im]|.t=>.tup [.str kv]
theorem O3:∀(i:Nat) (a:List Sk),uP i a=(a.zipIdx i).map λp=>ZM p.2 p.1
 |_,[]=>rfl
 |i,s::r=>by show ZM i s::uP (i+1) r=_;rw[O3];rfl
def vj(a:List Sk)(t:So):List Nat:=((a.zipIdx).filter λp=>decide (p.1.so=t)).map dD
def WJ{j i:Nat}(h:(vj a t)[j]?=aa i):∃s,a[i]?=aa s/\s.so=t:=by
 unfold vj at h;rw[bh] at h;cases e:((a.zipIdx).filter λp=>decide (p.1.so=t))[j]? with
 |none=>rw[e] at h;cases h
 |some p=>
  rw[e] at h;cases h;have hm:=gg.mp (bA e);obtain⟨s,i⟩:=p;refine⟨s,?_,of_decide_eq_true hm.2⟩;have:=List.mem_zipIdx_iff_getElem?.mp hm.1;simpa using this
def Ti(h:vj a t=[]):∀s∈a,s.so≠t:=by intro s b e;obtain⟨i,hi⟩:=cO.mp b;have:(s,i)∈a.zipIdx:=List.mem_zipIdx_iff_getElem?.mpr (by simpa using hi);have:i∈vj a t:=bQ.mpr ⟨(s,i),gg.mpr ⟨this,decide_eq_true e⟩,rfl⟩;rw[h] at this;cases this
def Bb:GN:=λds M Q=>∃(k m n:Nat) (a:List Sk) (t:So),ds=[.loc k,.loc m,soD t]/\Dr M k n/\M[m]?=aa (aa (.lst (uP 0 a)))/\a.length<=1000/\((∀s∈a,s.so≠t)->Q .non M)/\
 ∀(i:Nat) (s:Sk) (c:Nat) (b:Ms),a[i]?=aa s->s.so=t->Dr b k c->p0 M b k->Q (.str (nm i)) b
def L6:l8 Bb:=λds M P Q w ⟨k,m,n,e,t,f,g,h,j,o,p⟩=>⟨k,m,n,e,t,f,g,h,j,λa=>w _ _ (o a),λi s q r a b c d=>w _ _ (p i s q r a b c d)⟩
def Tj(s:Sk)(t:So)(q:Q (decide (s.so=t)) M):
  (Ft (iu (iA (CB au) (hX 1) (hX 2))) (Ay (iu (iA B7 (hX 2) (ju ib))) (iu (iA (CB ag) (hX 1) (ju (hV (dC (.str im)) (hV (dC (.str kv)) ib))))))) [aa a,aa (.str s.kn),aa (soD t)] M Q:=by
 cases t<;>cases s<;>first
  |exact⟨_,rfl,q⟩
  |exact⟨_,rfl,bD _,q⟩
  |exact⟨_,rfl,bD _,aq rfl,_,rfl,q⟩
def ZP:∀ds M Q,Bb ds M Q->vf 4 3 (EB jI) ds M Q:=λds M Q ⟨k,m,n,c,t,o,q,u,H,v,w⟩=>by
 subst o;have f:=@wx;have y:=jh u;generalize jI=I at f |-;refine⟨rfl,?_⟩;refine⟨uP 0 c,by rw[y];rfl,rfl,?_⟩;rw[O3];refine jk (st:=λA=>vw A _=vw M _) (λp:Sk×Nat=>ZM p.2 p.1) (λp=>.str (nm p.2)) (λp=>decide (p.1.so=t)) rfl _ [] ?_ (λx J L B=>?_) ?_
 .rw[ft,bp];show 0+_<=_;omega
 .obtain⟨s,i⟩:=x;refine⟨rfl,rfl,?_⟩;refine Tj s t ?_;have:=B [aa (.str (nm i)),aa (.str s.kn),aa (soD t)] rfl;cases e:decide (s.so=t) with
  |true=>rw[e] at this;exact this
  |false=>rw[e] at this;exact this
 .have e1:[]++((c.zipIdx).filter λp=>decide (p.1.so=t)).map (λp=>D.str (nm p.2))=(vj c t).map λi=>D.str (nm i):=by unfold vj;rw[bx];rfl
  rw[e1];refine⟨bD _,?_⟩;show(if((vj c t).map λi=>D.str (nm i)).isEmpty=ag then _ else _);by_cases g:vj c t=[]
  .rw[g];exact v (Ti g)
  .have N:(vj c t).length≠0:=λz=>g (ahB.mp z);rw[if_neg (by cases e:vj c t with|nil=>exact absurd e g|cons _ _=>exact aS)];refine⟨(vj c t).length,by show aa _=_;rw[ao],f (by omega) q λr M1 C O _ E s1=>?_⟩;obtain⟨j,rfl⟩:=cu C;have G:j<(vj c t).length:=by omega
   have h:=ax G;obtain⟨s,a,b⟩:=WJ h;exact WC h (w _ s _ M1 a b E s1)
def L7:Rw->Option So
 |.mark _ _=>ar|.numbers _=>aa .n|.table _=>aa .t|_=>aa .c
structure K5(ks:List Sk)(s:Sk)(r:Rw):Prop where
 ok:r.ok=ag
 so:L7 r=aa s.so
 go:s.end=ag->r.N8=au
 al:∀w∈r.nms,∃i s',ks[i]?=aa s'/\w=nm i/\∀a,L7 a=aa s'.so->qj r a=ag
def O4:GN:=λds M Q=>∃(s:Sk) (k m n:Nat) (a:List Sk),ds=[s.d,.loc k,.loc m]/\s.ok=ag/\Dr M k n/\k≠m/\M[m]?=aa (aa (.lst (uP 0 a)))/\a.length<100/\(∃s∈a,s.so=.c)/\
 ∀(r:Rw) (e:Nat) (b:Ms),K5 a s r->Dr b k e->p0 M b k->Q r.d b
def L8:l8 O4:=λds M P Q w ⟨s,k,m,n,e,f,g,h,i,j,o,p,q⟩=>⟨s,k,m,n,e,f,g,h,i,j,o,p,λr u v a b c=>w _ _ (q r u v a b c)⟩
def afr{k m n:Nat}{a:List Sk}{t:So}{M:Ms}{Q:DK}(c:Dr M k n)(e:M[m]?=aa (aa (.lst (uP 0 a))))(j:a.length<100)(f:(∀s∈a,s.so≠t)->Q .non M)
(g:∀(i:Nat) (s:Sk) (h:Nat) (b:Ms),a[i]?=aa s->s.so=t->Dr b k h->p0 M b k->Q (.str (nm i)) b):Bb [.loc k,.loc m,soD t] M Q:=⟨k,m,n,a,t,rfl,c,e,by omega,f,g⟩
def QX{e:List Sk}(hi:e[i]?=aa b)(f:b.so=.c)(hm:∀a:Rw,qj r a=a.code):∃j b,e[j]?=aa b/\nm i=nm j/\∀a,L7 a=aa b.so->qj r a=ag:=⟨i,b,hi,rfl,λa ha=>by rw[hm];rw[f] at ha;cases a<;>first|rfl|cases ha⟩
def ZQ:∀ds M Q,O4 ds M Q->vf 5 3 (sA Bb jI) ds M Q:=λds M Q ⟨s,k,m,n,v,h1,B,e,hkm,H,L,⟨sc,C,U⟩,q⟩=>by
 subst h1;have f:=@wx;have N:=λ{M n t Q}=>@afr k m n v t M Q;have g:∀{i o},v[i]?=aa o->qF (nm i)=ag:=λh=>ZK _ (gD (ak.mp h).1 L);have I:∀{xs ys:List D} {M:Ms} {Q:DK},xs≠[]->xs.length+ys.length<=aO->Q (.tup (xs++ys)) M->jn (.tup xs) (.tup ys) M Q:=λa b c=>⟨a,b,c⟩;unfold sA;generalize jn=gq at I |-;generalize jI=gn at f |-;generalize Bb=gp at N |-;refine⟨rfl,?_⟩;cases s with
 |set b c=>walk_at "d";exact q (.set b c) n M ⟨B,rfl,(λz=>nomatch z),(λw hw=>nomatch hw)⟩ e p0.refl
 |add b c=>walk_at "d";exact q (.add b c) n M ⟨B,rfl,(λz=>nomatch z),(λw hw=>nomatch hw)⟩ e p0.refl
 |take b c=>walk_at "d";exact q (.take b c) n M ⟨B,rfl,(λz=>nomatch z),(λw hw=>nomatch hw)⟩ e p0.refl
 |say b=>walk_at "d";exact q (.say b) n M ⟨B,rfl,(λz=>nomatch z),(λw hw=>nomatch hw)⟩ e p0.refl
 |ask b=>walk_at "d";exact q (.ask b) n M ⟨B,rfl,(λz=>nomatch z),(λw hw=>nomatch hw)⟩ e p0.refl
 |back=>walk_at "d";exact q .back n M ⟨rfl,rfl,λ_=>rfl,(λw hw=>nomatch hw)⟩ e p0.refl
 |stop=>walk_at "d";exact q .stop n M ⟨rfl,rfl,λ_=>rfl,(λw hw=>nomatch hw)⟩ e p0.refl
 |numbers ns=>walk_at "d";exact q (.numbers ns) n M ⟨B,rfl,(λz=>nomatch z),(λw hw=>nomatch hw)⟩ e p0.refl
 |jump=>
  walk_at "d";refine N (t:=.c) e H L (λz=>absurd U (z sc C)) λi o E u hi y A s1=>?_;exact⟨aq rfl,I (di _ _) (aq rfl) (q (.jump (nm i)) E u ⟨g hi,rfl,λ_=>rfl,λw hw=>by rw[bj.mp hw];exact QX hi y λ_=>rfl⟩ A s1)⟩
 |jumpif b=>
  walk_at "d";refine N (t:=.c) e H L (λz=>absurd U (z sc C)) λi o E u hi y A s1=>?_;exact⟨aq rfl,I (di _ _) (aq rfl) (q (.jumpif b (nm i)) E u ⟨by show(pU b&&qF (nm i))=ag;rw[g hi,show pU b=ag from B];rfl,rfl,(λz=>nomatch z),λw hw=>by rw[bj.mp hw];exact QX hi y λ_=>rfl⟩ A s1)⟩
 |call=>
  walk_at "d";refine N (t:=.c) e H L (λz=>absurd U (z sc C)) λi o E u hi y A s1=>?_;exact⟨aq rfl,I (di _ _) (aq rfl) (q (.call (nm i)) E u ⟨g hi,rfl,(λz=>nomatch z),λw hw=>by rw[bj.mp hw];exact QX hi y λ_=>rfl⟩ A s1)⟩
 |load b c=>
  have hb:pU b=ag/\pU c=ag:=by have:(pU b&&pU c)=ag:=B;exact aZ _ _▸this
  walk_at "d";refine N (t:=.n) e H L (λ_=>?_) λi o E u hi y A s1=>?_
  .exact⟨aq rfl,q .stop n M ⟨rfl,rfl,(λ_=>rfl),(λw hw=>nomatch hw)⟩ e p0.refl⟩
  .refine⟨aq rfl,I (di _ _) (aq rfl) (q (.load b c (nm i)) E u ⟨by show(pU b&&pU c&&qF (nm i))=ag;rw[g hi,hb.1,hb.2];rfl,rfl,(λz=>nomatch z),λw hw=>⟨i,o,hi,bj.mp hw,λa ha=>?_⟩⟩ A s1)⟩;rw[y] at ha;cases a<;>first|rfl|cases ha
 |jumpby b=>
  walk_at "d";refine N (t:=.t) e H L (λ_=>?_) λi o E u hi y A s1=>?_
  .exact⟨aq rfl,q .stop n M ⟨rfl,rfl,(λ_=>rfl),(λw hw=>nomatch hw)⟩ e p0.refl⟩
  .refine⟨aq rfl,I (di _ _) (aq rfl) (q (.jumpby b (nm i)) E u ⟨by show(pU b&&qF (nm i))=ag;rw[g hi,show pU b=ag from B];rfl,rfl,(λ_=>rfl),λw hw=>⟨i,o,hi,bj.mp hw,λa ha=>?_⟩⟩ A s1)⟩;rw[y] at ha;cases a<;>first|rfl|cases ha
 |alike b=>
  have hv:vw M (.loc m)=.lst (uP 0 v):=jh H;have Xs:0<v.length:=List.length_pos_of_mem C;walk_at "d";refine⟨uP 0 v,by rw[hv];rfl,rfl,?_⟩;rw[O3];refine iY (st:=λu=>vw u (D.loc m)=vw M (D.loc m)) (λp:Sk×Nat=>ZM p.2 p.1) (λp=>.str (nm p.2)) rfl _ [] ?_ (λx hx Kk hK=>⟨rfl,rfl,hK [aa (.str (nm x.2)),aa (.str x.1.kn)] rfl⟩) ?_
  .rw[ft,bp];show 0+_<=_;omega
  .skip
   have el:([]++v.zipIdx.map λp:Sk×Nat=>D.str (nm p.2)).length=v.length:=by simp
   have ei:∀j:Nat,j<v.length->∃o,v[j]?=aa o/\Fk ([]++v.zipIdx.map λp:Sk×Nat=>D.str (nm p.2)) (j:Int)=aa (.str (nm j)):=λj J=>⟨v[j],ax J,F2 (by simp[J])⟩;refine⟨v.length,congrArg aa el,f (by omega) e λr M1 r0 r1 _ A s1=>?_⟩;obtain⟨j,rfl⟩:=cu r0;obtain⟨s1',O,hj2⟩:=ei j (by omega);refine⟨_,hj2,aq rfl,I (di _ _) (aq rfl) ?_⟩;refine⟨v.length,congrArg aa el,f (by omega) A λr M2 r0 r2 _ d2 s2=>?_⟩;obtain⟨i,rfl⟩:=cu r0;obtain⟨s2',T,UY⟩:=ei i (by omega);refine⟨_,UY,aq rfl,I (di _ _) (aq rfl) (q (.alike b (nm j) (nm i)) _ M2 ⟨?_,rfl,(λz=>nomatch z),λw hw=>?_⟩ d2 (s1.trans s2))⟩
   .show(pU b&&qF (nm j)&&qF (nm i))=ag;rw[g O,g T,show pU b=ag from B];rfl
   .rcases aH.mp hw with rfl|hw
    .exact⟨j,_,O,rfl,λ_ _=>rfl⟩
    .exact⟨i,_,T,bj.mp hw,λ_ _=>rfl⟩
 |table c=>
  have hc:1<=c/\c<=3:=by have:(decide (1<=c)&&decide (c<=3))=ag:=B;simpa using this
  walk_at "d";refine⟨⟨show-(2^62)<=(c:Int) by omega,show(c:Int)<2^62 by omega⟩,trivial,?_⟩;refine tU (λj acc u=>∃(ws:List aX) (Y:Nat),acc=ws.map .str/\ws.length=j/\(∀w∈ws,∃i o,v[i]?=aa o/\w=nm i/\o.so=.c)/\Dr u k Y/\p0 M u k) (λ_ _ _ _=>trivial) _ 0 [] _ ⟨[],n,rfl,rfl,(λw hw=>nomatch hw),e,p0.refl⟩ ?_ (λj x acc M2 hx hp Kk hK=>?_) (λacc M2 hp=>?_)
  .show 0+(yc 0 (c:Int).toNat).length<=aO;unfold yc;rw[ao,cV,bp];omega
  .obtain⟨ws,Y,rfl,J,hw,hd,y⟩:=hp;walk_at "d";refine N (t:=.c) hd ((y.2 m (ak.mp H).1 (b9 hkm)).trans H) L (λz=>absurd U (z sc C)) λi o E u hi Hv A s1=>hK _ _ _ rfl ⟨ws++[nm i],E,?_,?_,?_,A,y.trans s1⟩
   .rw[ba];rfl
   .simp;omega
   .intro w G;rcases bt.mp G with G|G
    .exact hw w G
    .exact⟨i,o,hi,bj.mp G,Hv⟩
  .obtain⟨ws,Y,rfl,J,hw,hd,y⟩:=hp;replace J:ws.length=0+(yc 0 (c:Int).toNat).length:=J;unfold yc at J;rw[ao,cV] at J;refine⟨aq rfl,q (.table ws) Y M2 ⟨?_,rfl,(λz=>nomatch z),λw G=>?_⟩ hd y⟩
   .show(decide (1<=ws.length)&&decide (ws.length<=60)&&ws.all qF)=ag;rw[show ws.all qF=ag from bU.mpr λw G=>by obtain⟨i,o,a,rfl,_⟩:=hw w G;exact g a];simp;omega
   .obtain⟨i,o,a,rfl,b⟩:=hw w G;exact QX a b λ_=>rfl
def sG:GN:=λds M Q=>O4 ds M Q\/∃(i:Nat) (b:Bool) (x y:D),ds=[Fn i b,x,y]/\Q (Fn i b) M
def Jk:l8 sG:=λds M P Q w h=>h.elim (λh=>.inl (L8 ds M P Q w h)) λ⟨i,b,x,y,h,q⟩=>.inr ⟨i,b,x,y,h,w _ _ q⟩
def WK:∀ds M Q,sG ds M Q->vf 5 3 (sA Bb jI) ds M Q:=λds M Q h=>h.elim (ZQ ds M Q) λ⟨i,b,x,y,h,q⟩=>by subst h;walk_at "d";exact q
inductive Ar(ks:List Sk):Nat->Fl->List Rw->Prop
 |nil {i:Nat}:Ar ks i [] []
 |plain {i:Nat} {s:Sk} {r:Rw} {f:Fl} {rs:List Rw}:K5 ks s r->Ar ks i f rs->Ar ks i ((ar,s)::f) (r::rs)
 |mark {i:Nat} {b:Bool} {s:Sk} {r:Rw} {f:Fl} {rs:List Rw}:K5 ks s r->Ar ks (i+1) f rs->Ar ks i ((aa b,s)::f) (.mark (nm i) b::r::rs)
def WL(e:s.ok=ag)(f:Dr M k n)(g:k≠m)(h:M[m]?=aa (aa (.lst (uP 0 a))))(i:a.length<100)(j:∃s∈a,s.so=.c)
(q:∀(r:Rw) (o:Nat) (b:Ms),K5 a s r->Dr b k o->p0 M b k->Q r.d b):sG [s.d,.loc k,.loc m] M Q:=.inl ⟨s,k,m,n,a,rfl,e,f,g,h,i,j,q⟩
def ZT(q:Q (Rw.mark (nm i) b).d M):sG [Fn i b,x,y] M Q:=.inr ⟨i,b,x,y,rfl,q⟩
theorem EV{st:Ms->Prop}(a:k≠m)(v:x.length<100)(w:∃s∈x,s.so=.c)(hm:y[m]?=aa (aa (.lst (uP 0 x))))(h:∀M,p0 y M k->st M):∀(f:Fl) (i n:Nat) (acc:List D) (M:Ms),(∀p∈f,p.2.ok=ag)->acc.length+2*f.length<=1000->Dr M k n->p0 y M k->
  (∀(rs:List Rw) (j:Nat) (g:Ms),Ar x i f rs->Dr g k j->p0 y g k->Q (acc++rs.map Rw.d) g)->
  tJ [ar,aa 6,aa 1] (iq 0) qy (i5 sG (hV (hX 0) (hV (hX 1) (hV (hX 2) ib)))) st Q (j4 i f) acc [ar,aa (.loc k),aa (.loc m)] M
 |[],i,n,acc,M,_,_,hd,e,q=>by have:=q [] n M .nil hd e;rw[gA,bu] at this;exact this
 | (ar,s)::f,i,n,acc,M,o,z,hd,e,q=>by have J:acc.length+2*(f.length+1)<=1000:=z;have L:=bp;refine WL (o _ aN) hd a ((e.2 m (ak.mp hm).1 (b9 a)).trans hm) v w λr j g ha A B=>?_;have u:=e.trans B;refine⟨h _ u,by omega,EV a v w hm h f i j _ g (λp C=>o p (aB _ C)) (by rw[aE];show _+1+_<=_;omega) A u λrs E M2 G H I=>?_⟩;have:=q _ E M2 (.plain ha G) H I;rw[bi];exact this
 | (aa b,s)::f,i,n,acc,M,o,z,hd,e,q=>by have J:acc.length+2*(f.length+1)<=1000:=z;have L:=bp;refine ZT ⟨h _ e,by omega,?_⟩;refine WL (o _ aN) hd a ((e.2 m (ak.mp hm).1 (b9 a)).trans hm) v w λr j g ha A B=>?_;have u:=e.trans B;refine⟨h _ u,by rw[aE];show _+1<_;omega,EV a v w hm h f (i+1) j _ g (λp C=>o p (aB _ C)) (by rw[aE,aE];show _+1+1+_<=_;omega) A u λrs E M2 G H I=>?_⟩;have:=q _ E M2 (.mark ha G) H I;rw[bi,bi];exact this
theorem L9(k w:aX)(v:β):∀l:List (aX×β),iS w (l.map λx=>if x.1=k then(x.1,v) else x)=if w=k then(iS w l).map (λ_=>v) else iS w l
 |[]=>by simp[iS]
 | (x,u)::l=>by
  have a:=L9 k w v l;rw[bq];by_cases h:x=k
  .subst h;rw[if_pos rfl];unfold iS;by_cases z:x=w
   .subst z;rw[if_pos rfl,if_pos rfl,if_pos rfl];rfl
   .rw[if_neg z,if_neg z,a]
  .rw[if_neg h];unfold iS;by_cases z:x=w
   .subst z;rw[if_pos rfl,if_pos rfl,if_neg h]
   .rw[if_neg z,if_neg z,a]
theorem EW(w k:aX)(v:β):∀l:List (aX×β),iS w (l++[(k,v)])=(iS w l).or (if k=w then aa v else ar)
 |[]=>by simp[iS]
 | (x,u)::l=>by
  rw[eU];unfold iS;by_cases z:x=w
  .rw[if_pos z,if_pos z];rfl
  .rw[if_neg z,if_neg z,EW w k v l]
def Ma(w k:aX)(v:β)(l:List (aX×β)):iS w (wu k v l)=if w=k then aa v else iS w l:=by
 unfold wu;split
 .rename_i h;rw[L9];split
  .rename_i e;subst e;cases q:iS w l with
   |none=>rw[q] at h;cases h
   |some u=>rfl
  .rfl
 .rename_i h;rw[EW];by_cases e:w=k
  .subst e;cases q:iS w l with
   |none=>rfl
   |some u=>rw[q] at h;exact absurd rfl h
  .rw[if_neg e,if_neg λz=>e z.symm];cases iS w l<;>rfl
theorem CL:∀{l:List (aX×β)},(l.map aQ).Nodup->(w,v)∈l->iS w l=aa v
 |[],_,h=>by cases h
 | (x,u)::l,nd,h=>by
  rw[bq,dw] at nd;unfold iS;rcases aH.mp h with e|h
  .cases e;rw[if_pos rfl]
  .rw[if_neg λe=>nd.1 (by rw[e];exact bQ.mpr ⟨_,h,rfl⟩)];exact CL nd.2 h
theorem fold_at(S:List Mk):∀(ms:List Mk) (l:List (aX×Pl)),(∀m∈ms,m∈S)->(∀w p,iS w l=aa p->∃b,(w,b,p)∈S)->(∀w p,iS w (ms.foldl nr l)=aa p->∃b,(w,b,p)∈S)/\(∀w,(iS w l).isSome=ag\/w∈ms.map aQ->(iS w (ms.foldl nr l)).isSome=ag)
 |[],l,_,h=>⟨h,λw z=>z.elim id λz=>nomatch z⟩
 |m::ms,l,c,h=>by
  have key:(∀w p,iS w (nr l m)=aa p->∃b,(w,b,p)∈S)/\∀w,(iS w l).isSome=ag\/w=m.1->(iS w (nr l m)).isSome=ag:=by
   unfold nr;split
   .refine⟨λw p e=>?_,λw z=>?_⟩
    .rw[Ma] at e;by_cases hw:w=m.1
     .rw[if_pos hw] at e;cases e;exact⟨m.2.1,by rw[hw];exact c m aN⟩
     .rw[if_neg hw] at e;exact h w p e
    .rw[Ma];by_cases hw:w=m.1
     .rw[if_pos hw];rfl
     .rw[if_neg hw];exact z.resolve_right hw
   .rename_i hn;refine⟨h,λw z=>z.elim id λz=>?_⟩;rw[z];cases q:(iS m.1 l).isSome with
    |true=>rfl
    |false=>rw[q] at hn;exact absurd (by simp) hn
  obtain⟨a,b⟩:=fold_at S ms _ (λx f=>c x (aB _ f)) key.1;refine⟨a,λw z=>b w ?_⟩;rcases z with z|z
  .exact .inl (key.2 w (.inl z))
  .rcases aH.mp z with z|z
   .exact .inl (key.2 w (.inr z))
   .exact .inr z
def Tk(h:w∈ms.map aQ):∃p b,iS w (placesOf ms)=aa p/\(w,b,p)∈ms:=by obtain⟨a,b⟩:=fold_at ms ms [] (λ_ h=>h) (λw p e=>nomatch e);obtain⟨p,e⟩:=cZ.mp (b w (.inr h));obtain⟨x,c⟩:=a w p e;exact⟨p,x,e,c⟩
theorem Jl:∀{rs:List Rw} {k:Nat},(w,b,p)∈kM n k rs->∃j i,p=(n,k+i)/\rs[j]?=aa (.mark w b)/\(bare rs)[i]?=jf (rs.drop (j+1))
 |[],k,h=>by cases h
 |r::rs,k,h=>by
  cases hm:r.jQ with
  |false=>
   rw[FJ.oj hm] at h;obtain⟨j,i,e1,e2,e3⟩:=Jl h;refine⟨j+1,i+1,by rw[e1,show k+1+i=k+(i+1) by omega],e2,?_⟩;unfold bare;rw[bO,if_pos (by rw[hm];rfl)];exact e3
  |true=>
   cases r<;>first|cases hm|skip
   rename_i a c;have hb:bare (.mark a c::rs)=bare rs:=rfl;rcases aH.mp h with e|h
   .cases e;refine⟨0,0,rfl,rfl,?_⟩;have:∀rs:List Rw,(bare rs)[0]?=jf rs:=by
     intro rs;induction rs with
     |nil=>rfl
     |cons r rs f=>
      unfold bare jf;rw[bO];cases r.jQ with
      |true=>exact f
      |false=>rfl
    exact this rs
   .obtain⟨j,i,e1,e2,e3⟩:=Jl h;exact⟨j+1,i,e1,e2,e3⟩
def BS:m∈kN c↔∃p∈c,m∈kM p.1 0 p.2:=by unfold kN;rw[List.mem_flatMap];exact⟨λ⟨p,a,b⟩=>⟨p,(jR c).mem_iff.mp a,b⟩,λ⟨p,a,b⟩=>⟨p,(jR c).mem_iff.mpr a,b⟩⟩
theorem EY:∀{rs:List Rw} {k:Nat},Rw.mark w b∈rs->∃p,(w,b,p)∈kM n k rs
 |r::rs,k,h=>by
  rcases aH.mp h with e|a
  .subst e;exact⟨_,aN⟩
  .cases hm:r.jQ with
   |false=>rw[FJ.oj hm];exact EY a
   |true=>
    cases r<;>first|cases hm|skip
    obtain⟨p,c⟩:=EY a;exact⟨p,aB _ c⟩
def sn:List Rw->List aX
 |[]=>[]
 |.mark w ag::rs=>w::sn rs
 |_::rs=>sn rs
theorem Ae(n:aX):∀(rs:List Rw) (k:Nat),(jo (kM n k rs)).map aQ=sn rs
 |[],k=>rfl
 |r::rs,k=>by
  cases hm:r.jQ with
  |false=>
   rw[FJ.oj hm,Ae n rs];cases r<;>first|(cases hm;done)|rfl
  |true=>
   cases r<;>first|cases hm|skip
   rename_i w b;cases b with
   |true=>show w::(jo _).map aQ=w::sn rs;rw[Ae n rs]
   |false=>exact Ae n rs k
abbrev Mb(a:List Pt):List aX:=a.flatMap λp=>sn p.2
def aaY(a:List Pt):((jo (kN a)).map aQ).Perm (Mb a):=by
 have e:∀l:List Pt,(jo (l.flatMap λp=>kM p.1 0 p.2)).map aQ=Mb l:=by
  intro l;induction l with
  |nil=>rfl
  |cons p l b=>
   unfold jo Mb at*;rw[eK,gK,ba,b];congr 1;exact Ae p.1 p.2 0
 unfold kN;rw[e];exact(jR a).flatMap_right _
def Cm (c:List Sk):List Rw->Prop
 |[]=>True
 |.mark w b::rs=>(∃i s a,c[i]?=aa s/\w=nm i/\jf rs=aa a/\L7 a=aa s.so)/\Cm c rs
 |_::rs=>Cm c rs
def Cm.tl(h:Cm a (r::rs)):Cm a rs:=by cases r<;>first|exact h.2|exact h
theorem Cm.at:∀{rs:List Rw} {j:Nat},Cm c rs->rs[j]?=aa (.mark w b)->∃i s a,c[i]?=aa s/\w=nm i/\jf (rs.drop (j+1))=aa a/\L7 a=aa s.so
 |r::rs,0,h,e=>by cases e;exact h.1
 |r::rs,j+1,h,e=>Cm.at (rs:=rs) h.tl e
def Af(rs:List Rw):(bare rs).length+FJ.ln rs=rs.length:=by
 unfold bare FJ.ln;induction rs with
 |nil=>rfl
 |cons r rs a=>rw[bO,bO];cases r.jQ<;>simp<;>omega
structure Gd(ks:List Sk)(c:Nat)(ps:List Pt):Prop where
 lo:1<=ps.length
 hi:ps.length<=4
 w:∀p∈ps,qF p.1=ag
 nd1:(ps.map aQ).Nodup
 o1:∀p∈ps,1<=(bare p.2).length
 o2:∀p∈ps,(bare p.2).length<=21
 m:∀p∈ps,FJ.ln p.2<=21+c
 ok:∀p∈ps,∀r∈p.2,r.ok=ag
 ends:∀p∈ps,l6 p.2=ag
 mks:∀p∈ps,Cm ks p.2
 al:∀p∈ps,∀r∈p.2,∀w∈r.nms,∃i s',ks[i]?=aa s'/\w=nm i/\∀a,L7 a=aa s'.so->qj r a=ag
 has:∀i s,ks[i]?=aa s->∃p∈ps,∃b,Rw.mark (nm i) b∈p.2
 nd:(Mb ps).Nodup
 few:(Mb ps).length<=56+c
 Tl:ks.length<100
theorem O5(f:Pt->Int)(B:Int):∀l:List Pt,(∀p∈l,f p<=B)->(l.map f).sum<=B*l.length
 |[],_=>by simp
 |p::l,h=>by have b:=O5 f B l λq a=>h q (aB _ a);have c:=h p aN;rw[bq,List.sum_cons,aU,show((l.length+1:Nat):Int)=(l.length:Int)+1 by omega,Int.mul_add];omega
def Gd.lk(g:Gd f c b)(hc:c<=4):Zz b:=by
 have e:∀p∈b,FJ.A7 p.2=(bare p.2).length:=λp a=>by have:=Af p.2;unfold FJ.A7;omega
 have h:=g.hi;refine⟨⟨g.lo,by omega,λp a=>⟨g.w p a,by rw[e p a];exact g.o1 p a,by rw[e p a];have:=g.o2 p a;omega,by have:=Af p.2;have:=g.o2 p a;have:=g.m p a;omega⟩,g.nd1,?_,?_⟩,g.ok,g.ends⟩
 .have:=O5 (λp=>(FJ.A7 p.2:Int)) 21 b λp a=>by have:=g.o2 p a;have:=e p a;omega
  omega
 .have:=O5 (λp=>(FJ.ln p.2:Int)) 25 b λp a=>by have:=g.m p a;omega
  omega
def Gd.len(g:Gd e c b)(a:p∈b):p.2.length<=42+c:=by have:=Af p.2;have:=g.o2 p a;have:=g.m p a;omega
def Gd.ml(g:Gd i c a)(hc:c<=4):(kN a).length<=1000:=by
 have b:=g.hi;have:∀l:List Pt,(∀p∈l,p.2.length<=80)->(l.flatMap λp=>kM p.1 0 p.2).length<=80*l.length:=by
  intro l;induction l with
  |nil=>intro _;exact aD _
  |cons p l e=>
   intro h;have j:=e λq f=>h q (aB _ f);have m:=h p aN;have n:=FJ.sF p.1 0 p.2;rw[eK,aE,aU];omega
 have h:=this _ λp b=>by have:=g.len ((jR a).mem_iff.mp b);omega
 rw[(jR a).length_eq] at h;unfold kN;omega
def G9(nd:(a.map aQ).Nodup)(b:p∈a):iS p.1 (jp a)=aa (bare p.2):=by refine CL ?_ (bQ.mpr ⟨p,(jR a).mem_iff.mpr b,rfl⟩);unfold jp;rw[bx];exact((jR a).map aQ).nodup_iff.mpr nd
def Gd.lb(g:Gd H c f)(hc:c<=4):xz f:=by
 refine⟨g.lk hc,g.ml hc,⟨(aaY f).nodup_iff.mpr g.nd,.inl (by rw[(aaY f).length_eq];have:=g.few;omega),g.ml hc⟩,λp s=>⟨bare p.2,G9 g.nd1 s,?_⟩⟩;refine bU.mpr λr v=>bU.mpr λw hw=>?_;obtain⟨i,x,h,rfl,y⟩:=g.al p s r (gg.mp v).1 w hw;obtain⟨q,z,b,hb⟩:=g.has i x h;obtain⟨pl,A⟩:=EY hb;obtain⟨m,b2,e1,e2⟩:=Tk (bQ.mpr ⟨_,BS.mpr ⟨q,z,A⟩,rfl⟩);obtain⟨u,e,n⟩:=BS.mp e2;obtain⟨j,B,e3,e4,e5⟩:=Jl n;obtain⟨I,s3,a,o,C,E,G⟩:=(g.mks u e).at e4;have hi:=WG (gD (ak.mp h).1 g.Tl) (gD (ak.mp o).1 g.Tl) C;subst hi;rw[h] at o;cases o;unfold G8;have e6:ZF (jp f) m=aa a:=by unfold ZF;rw[e3,G9 g.nd1 e];show(bare u.2)[0+B]?=aa a;rw[bR,e5,E]
 simp only [e1,e6];exact y a G
def ins(m:Rw):Nat->List Rw->List Rw
 |0,rs=>m::rs
 |_+1,[]=>[m]
 |n+1,r::rs=>r::ins m n rs
theorem WM(m:Rw):∀(n:Nat) (rs:List Rw),rs.take n++m::rs.drop n=ins m n rs
 |0,rs=>rfl
 |_+1,[]=>rfl
 |n+1,r::rs=>by show r::(rs.take n++m::rs.drop n)=r::ins m n rs;rw[WM]
section
variable {w:aX} {b:Bool}
theorem Jm:∀(n:Nat) (rs:List Rw),jf (ins (.mark w b) n rs)=jf rs
 |0,rs=>rfl
 |_+1,[]=>rfl
 |n+1,r::rs=>by show jf (r::ins _ n rs)=_;unfold jf;rw[Jm n rs]
theorem EZ:∀(n:Nat) (rs:List Rw),bare (ins (.mark w b) n rs)=bare rs
 |0,rs=>rfl
 |_+1,[]=>rfl
 |n+1,r::rs=>by show bare (r::ins _ n rs)=_;have a:=EZ n rs;unfold bare at a |-;rw[bO,bO,a]
theorem WN:∀(n:Nat) (rs:List Rw),FJ.ln (ins (.mark w b) n rs)=FJ.ln rs+1
 |0,rs=>rfl
 |_+1,[]=>rfl
 |n+1,r::rs=>by
  have a:=WN n rs;show FJ.ln (r::ins _ n rs)=_;unfold FJ.ln at a |-;rw[bO,bO];split
  .rw[aU,a,aU]
  .exact a
theorem CM:∀(n:Nat) (rs:List Rw),x∈ins (.mark w b) n rs↔x=.mark w b\/x∈rs
 |0,rs=>aH
 |_+1,[]=>aH
 |n+1,r::rs=>by show x∈r::ins _ n rs↔_;rw[aH,CM n rs,aH];exact⟨λh=>h.elim (λh=>.inr (.inl h)) λh=>h.elim .inl λh=>.inr (.inr h),λh=>h.elim (λh=>.inr (.inl h)) λh=>h.elim .inl λh=>.inr (.inr h)⟩
theorem Mc:∀(n:Nat) (rs:List Rw),l6 rs=ag->(jf (rs.drop n)).isSome=ag->l6 (ins (.mark w b) n rs)=ag
 |0,rs,h,a=>by show((!au||_)&&(!ag||(jf rs).isSome)&&l6 rs)=ag;rw[show(jf rs).isSome=ag from a,h];rfl
 |_+1,[],_,a=>nomatch a
 |n+1,r::rs,h,a=>by show l6 (r::ins _ n rs)=ag;unfold l6 at h |-;rw[Jm];rw[aZ] at h |-;exact⟨h.1,Mc n rs h.2 a⟩
theorem WO(hi:e[i]?=aa s)(hw:w=nm i)(ha:L7 a=aa s.so):∀(n:Nat) (rs:List Rw),Cm e rs->jf (rs.drop n)=aa a->Cm e (ins (.mark w b) n rs)
 |0,rs,h,c=>⟨⟨i,s,a,hi,hw,c,ha⟩,h⟩
 |_+1,[],_,c=>nomatch c
 |n+1,r::rs,h,c=>by
  have f:=WO hi hw ha n rs h.tl c;cases r<;>first|exact f|skip
  obtain⟨⟨g,s2,a2,e1,e2,e3,e4⟩,_⟩:=h;exact⟨⟨g,s2,a2,e1,e2,by rw[Jm];exact e3,e4⟩,f⟩
theorem WP:∀(n:Nat) (rs:List Rw),(sn (ins (.mark w b) n rs)).Perm (if b=ag then w::sn rs else sn rs)
 |0,rs=>by cases b<;>exact .refl _
 |_+1,[]=>by cases b<;>exact .refl _
 |n+1,r::rs=>by
  have a:=WP n rs;show(sn (r::ins _ n rs)).Perm _;have key:∀r:Rw,sn (r::rs)=sn rs/\sn (r::ins (.mark w b) n rs)=sn (ins (.mark w b) n rs)\/∃v,sn (r::rs)=v::sn rs/\sn (r::ins (.mark w b) n rs)=v::sn (ins (.mark w b) n rs):=by
   intro r;cases r with
   |mark v c=>cases c with
    |true=>exact .inr ⟨v,rfl,rfl⟩
    |false=>exact .inl ⟨rfl,rfl⟩
   |_=>exact .inl ⟨rfl,rfl⟩
  rcases key r with⟨e1,e2⟩|⟨v,e1,e2⟩
  .rw[e1,e2];exact a
  .rw[e1,e2];cases b with
   |false=>exact a.cons v
   |true=>exact(a.cons v).trans (.swap w v _)
end
def ada(h:a[q]?=aa p)(e:(sn b).Perm (l++sn p.2)):(Mb (a.set q (p.1,b))).Perm (l++Mb a):=by
 induction a generalizing q with
 |nil=>cases h
 |cons x a c=>
  cases q with
  |zero=>
   cases h;show(sn b++Mb a).Perm (l++(sn p.2++Mb a));rw[<-bi];exact e.append_right _
  |succ q=>
   show(sn x.2++Mb _).Perm (l++(sn x.2++Mb a));refine((c h).append_left (sn x.2)).trans ?_;rw[<-bi,<-bi];exact List.perm_append_comm.append_right _
theorem Jn:∀{rs:List Rw},w∈sn rs->Rw.mark w ag∈rs
 |r::rs,h=>by
  cases r with
  |mark v c=>cases c with
   |true=>
     rcases aH.mp h with rfl|h
     .exact aN
     .exact aB _ (Jn h)
   |false=>exact aB _ (Jn h)
  |_=>exact aB _ (Jn h)
theorem Gd.ins(g:Gd B c f){q n i:Nat}{p:Pt}{s:Sk}{a:Rw}{b:Bool}(y:f[q]?=aa p)(hi:B[i]?=aa s)(ha:jf (p.2.drop n)=aa a)(H:L7 a=aa s.so)
(hb:b=ag->∀p∈f,Rw.mark (nm i) ag∉p.2):Gd B (c+1) (f.set q (p.1,oz.ins (.mark (nm i) b) n p.2)):=by
 have u:=bA y;have I:(f.set q (p.1,oz.ins (.mark (nm i) b) n p.2)).map aQ=f.map aQ:=by
  rw[List.map_set];apply List.ext_getElem?;intro j;by_cases e:q=j
  .subst e;rw[bn (by rw[ao];exact(ak.mp y).1),bh,y];rfl
  .rw[aJ e]
 have all:∀{C:Pt->Prop},(∀x∈f,C x)->C _->∀x∈f.set q (p.1,oz.ins (.mark (nm i) b) n p.2),C x:=λJ L x o=>by
  rcases List.mem_or_eq_of_mem_set o with o|rfl
  .exact J x o
  .exact L
 have sp:(Mb (f.set q (p.1,oz.ins (.mark (nm i) b) n p.2))).Perm ((if b=ag then[nm i] else[])++Mb f):=ada y (by have:=WP (w:=nm i) (b:=b) n p.2;cases b<;>exact this);refine⟨by rw[de];exact g.lo,by rw[de];exact g.hi,all g.w (g.w p u),by rw[I];exact g.nd1,all g.o1 (by rw[EZ];exact g.o1 p u),all g.o2 (by rw[EZ];exact g.o2 p u),all (λx o=>eM (g.m x o)) (by rw[WN];exact fX (g.m p u)),all g.ok λr v=>?_,all g.ends (Mc n _ (g.ends p u) (by rw[ha];rfl)),all g.mks (WO hi rfl H n _ (g.mks p u) ha),all g.al λr v=>?_,λj t M=>?_,?_,?_,g.Tl⟩
 .rcases(CM n _).mp v with rfl|v
  .exact ZK i (gD (ak.mp hi).1 g.Tl)
  .exact g.ok p u r v
 .rcases(CM n _).mp v with rfl|v
  .intro w hw;cases hw
  .exact g.al p u r v
 .obtain⟨x,o,E,G⟩:=g.has j t M;obtain⟨N,A⟩:=cO.mp o;by_cases e:N=q
  .subst e;rw[y] at A;cases A;refine⟨_,bA (bn (ak.mp y).1),E,(CM n _).mpr (.inr G)⟩
  .exact⟨x,bA ((aJ (λz=>e z.symm)).trans A),E,G⟩
 .refine sp.nodup_iff.mpr ?_;cases b with
  |false=>exact g.nd
  |true=>
   refine dw.mpr ⟨λh=>?_,g.nd⟩;obtain⟨x,o,hw⟩:=List.mem_flatMap.mp h;exact hb rfl x o (Jn hw)
 .rw[sp.length_eq,aE];have:=g.few;cases b with
  |false=>show 0+_<=_;omega
  |true=>show 1+_<=_;omega
def es:List Sk->Prop
 |[]=>True
 |s::r=>(s.end=ag\/s.code=au\/∃t a,r=t::a/\t.code=ag)/\es r
theorem O6(b:e.code=ag)(a:e.end=ag)(hd:ds=[]\/∃x,ds=[x]/\x.code=au)(ht:es tl):∀cs:List Sk,(∀s∈cs,s.code=ag)->es (cs++(e::ds)++tl)
 |[],_=>by
  rcases hd with rfl|⟨x,rfl,c⟩
  .exact⟨.inl a,ht⟩
  .exact⟨.inl a,.inr (.inl c),ht⟩
 |[s],h=>⟨.inr (.inr ⟨e,_,rfl,b⟩),O6 b a hd ht [] λ_ h=>nomatch h⟩
 |s::t::cs,h=>⟨.inr (.inr ⟨t,_,rfl,h t (aB _ aN)⟩),O6 b a hd ht _ λx c=>h x (aB _ c)⟩
theorem Sh.es(h:Sh b r):∀tl,oz.es tl->oz.es (r++tl):=by
 induction h with
 |nil=>exactλtl h=>h
 |snoc f a e=>exactλtl ht=>by rw[bi];exact e _ (O6 a.ec a.ee a.d ht _ a.c)
theorem Sh.ok(h:Sh b r):∀s∈r,s.ok=ag:=by
 induction h with
 |nil=>exactλ_ h=>nomatch h
 |snoc f a c=>exactλs e=>(bt.mp e).elim (c s) (a.ok s)
def qk(h:L7 r=aa o):r.jQ=au:=by cases r<;>first|rfl|cases h
def WQ{s:Sk}(h:L7 r=aa s.so)(a:s.code=ag):r.code=ag:=by
 have:s.so=.c:=by cases s<;>first|rfl|cases a
 rw[this] at h;cases r<;>first|rfl|cases h
def Tn{s:Sk}(h:L7 r=aa s.so)(a:r.N8=ag):s.code=ag:=by
 cases r<;>first|cases a|skip
 all_goals cases s<;>first|rfl|cases h
section
variable {f:Fl} {rs:List Rw}
theorem Ar.bare(h:Ar ks i f rs):(FJ.bare rs).length=f.length:=by
 induction h with
 |nil=>rfl
 |plain a _ c=>unfold FJ.bare at*;rw[bO,if_pos (by rw[qk a.so];rfl),aU,aU,c]
 |@mark i b s r f rs a h c=>
  show(FJ.bare (r::rs)).length=_;unfold FJ.bare at*;rw[bO,if_pos (by rw[qk a.so];rfl),aU,aU,c]
def Ar.marks(h:Ar ks i f rs):FJ.ln rs=(oJ f).length:=by
 induction h with
 |nil=>rfl
 |plain a _ c=>unfold FJ.ln at*;rw[bO,if_neg (by rw[qk a.so];decide),c];rfl
 |@mark i b s r f rs a h c=>
  show(List.filter _ _).length=(oJ f).length+1;unfold FJ.ln at c;rw[bO,if_pos (show(Rw.mark (nm i) b).jQ=ag from rfl),bO,if_neg (by rw[qk a.so];decide),aU,c]
theorem Ar.ok(h:Ar ks i f rs):i+(oJ f).length<=100->∀r∈rs,r.ok=ag:=by
 induction h with
 |nil=>exactλ_ _ h=>nomatch h
 |plain a _ j=>exactλg r m=>(aH.mp m).elim (λe=>e▸a.ok) (j g r)
 |@mark i b s r f rs a h j=>
  intro g x c;have g:i+((oJ f).length+1)<=100:=g;rcases aH.mp c with rfl|c
  .exact ZK i (by omega)
  .rcases aH.mp c with rfl|c
   .exact a.ok
   .exact j (by omega) x c
theorem Ar.al(h:Ar ks i f rs):∀r∈rs,∀w∈r.nms,∃i j,ks[i]?=aa j/\w=nm i/\∀a,L7 a=aa j.so->qj r a=ag:=by
 induction h with
 |nil=>exactλ_ h=>nomatch h
 |plain a _ c=>exactλr m=>(aH.mp m).elim (λe=>e▸a.al) (c r)
 |@mark i b s r f rs a h c=>
  intro x g;rcases aH.mp g with rfl|g
  .intro w hw;cases hw
  .exact(aH.mp g).elim (λe=>e▸a.al) (c x)
def Ar.mks(h:Ar ks i f rs):(∀t s,(oJ f)[t]?=aa s->ks[i+t]?=aa s)->Cm ks rs:=by
 induction h with
 |nil=>exactλ_=>trivial
 |@plain i s r f rs a h e=>
  intro c;have:=e c;have hm:=qk a.so;cases r<;>first|exact this|cases hm
 |@mark i b s r f rs a h e=>
  intro c;have g:=e λt s h=>by have:=c (t+1) s h;rwa [show i+(t+1)=i+1+t by omega] at this
  have hm:=qk a.so;refine⟨⟨i,s,r,by have:=c 0 s rfl;exact this,rfl,?_,a.so⟩,?_⟩
  .unfold jf;rw[hm];rfl
  .cases r<;>first|exact g|cases hm
def Ar.has(h:Ar ks i f rs):∀t s,(oJ f)[t]?=aa s->∃b,Rw.mark (nm (i+t)) b∈rs:=by
 induction h with
 |nil=>exactλt s h=>nomatch h
 |plain a _ c=>exactλt s h=>let⟨b,hb⟩:=c t s h;⟨b,aB _ hb⟩
 |@mark i b s r f rs a h c=>
  intro t x e;cases t with
  |zero=>exact⟨b,aN⟩
  |succ t=>
   obtain⟨g,hb⟩:=c t x e;refine⟨g,aB _ (aB _ ?_)⟩;rw[show i+(t+1)=i+1+t by omega];exact hb
def Ar.fst(h:Ar ks i f rs)(e:f.map dD=t::c):∃r,jf rs=aa r/\L7 r=aa t.so:=by
 cases h with
 |nil=>cases e
 |plain a h=>cases e;exact⟨_,by unfold jf;rw[qk a.so];rfl,a.so⟩
 |@mark i b s r f rs a h=>
  cases e;refine⟨r,?_,a.so⟩;show jf (r::rs)=_;unfold jf;rw[qk a.so];rfl
def Ar.ends(h:Ar ks i f rs):es (f.map dD)->l6 rs=ag:=by
 have key:∀{i:Nat} {s:Sk} {r:Rw} {f:Fl} {rs:List Rw},K5 ks s r->Ar ks i f rs->(s.end=ag\/s.code=au\/∃t e,f.map dD=t::e/\t.code=ag)->l6 rs=ag->l6 (r::rs)=ag:=by
  intro i s r f rs a h hc c;unfold l6;rw[qk a.so,c];cases j:r.N8 with
  |false=>rfl
  |true=>
   have m:∃t e,f.map dD=t::e/\t.code=ag:=by
    rcases hc with z|z|z
    .have:=a.go z;rw[j] at this;cases this
    .have:=Tn a.so j;rw[z] at this;cases this
    .exact z
   obtain⟨t,e,e1,e2⟩:=m;obtain⟨y,e3,e4⟩:=h.fst e1;rw[e3];show((!ag||y.code)&&(!au||true)&&ag)=ag;rw[WQ e4 e2];rfl
 induction h with
 |nil=>exactλ_=>rfl
 |plain a h g=>exactλc=>key a h c.1 (g c.2)
 |@mark i b s r f rs a h g=>
  intro c;have n:=key a h c.1 (g c.2);unfold l6;rw[n];have:jf (r::rs)=aa r:=by unfold jf;rw[qk a.so];rfl
  rw[this];rfl
def E1:Nat->Fl->List Nat
 |_,[]=>[]
 |i,(aa ag,_)::r=>i::E1 (i+1) r
 |i,(aa au,_)::r=>E1 (i+1) r
 |i,(ar,_)::r=>E1 i r
theorem Ar.sn(h:Ar ks i f rs):oz.sn rs=(E1 i f).map nm:=by
 induction h with
 |nil=>rfl
 |@plain i s r f rs a h c=>have hm:=qk a.so;cases r<;>first|exact c|cases hm
 |@mark i b s r f rs a h c=>
  have hm:=qk a.so;have e:oz.sn (r::rs)=oz.sn rs:=by cases r<;>first|rfl|cases hm
  cases b with
  |true=>show nm i::oz.sn _=nm i::_;rw[e,c]
  |false=>show oz.sn (r::rs)=_;rw[e,c];rfl
theorem Ag:∀(i:Nat) (f:Fl),(E1 i f).length=st f
 |_,[]=>rfl
 |i,(aa ag,_)::r=>by show _+1=_+1;rw[Ag]
 |i,(aa au,_)::r=>Ag (i+1) r
 |i,(ar,_)::r=>Ag i r
theorem CN:∀(i:Nat) (f:Fl),(E1 i f).Pairwise (·<·)/\∀x∈E1 i f,i<=x/\x<i+(oJ f).length
 |_,[]=>⟨.nil,λ_ h=>nomatch h⟩
 |i,(aa ag,s)::r=>by
  obtain⟨a,b⟩:=CN (i+1) r;refine⟨.cons (λx c=>(b x c).1) a,λx c=>?_⟩;show _/\_<i+((oJ r).length+1);rcases aH.mp c with rfl|c
  .omega
  .have:=b x c;omega
 |i,(aa au,s)::r=>by obtain⟨a,b⟩:=CN (i+1) r;refine⟨a,λx c=>?_⟩;show _/\_<i+((oJ r).length+1);have:=b x c;omega
 |i,(ar,_)::r=>CN i r
end
structure Pq where
 O7:aX
 i:Nat
 f:Fl
structure Pq.ok(p:Pq):Prop where
 w:qF p.O7=ag
 sh:∃b,b<=3/\Sh b (p.f.map dD)
 hd:Hd p.f
 few:st p.f<=14
inductive Ch:List Pq->List Sk->Prop
 |nil:Ch [] []
 |snoc {l:List Pq} {ks:List Sk} {p:Pq}:Ch l ks->p.i=ks.length->Ch (l++[p]) (ks++oJ p.f)
theorem Pq.ok.len{p:Pq}(h:p.ok):p.f.length<=21:=by obtain⟨b,c,a⟩:=h.sh;have:=a.len;rw[ao] at this;omega
section
variable {l:List Pq} {ks:List Sk}
theorem Ch.len(h:Ch l ks):(∀p∈l,p.ok)->ks.length<=21*l.length:=by
 induction h with
 |nil=>exactλ_=>aD _
 |@snoc l ks p h e b=>
  intro a;have g:=b λq c=>a q (bW _ c);have i:=(a p (by simp)).len;have j:=ET p.f;rw[aE,aE,dm];omega
def Ch.at(h:Ch l ks):∀p∈l,p.i+(oJ p.f).length<=ks.length/\∀t s,(oJ p.f)[t]?=aa s->ks[p.i+t]?=aa s:=by
 induction h with
 |nil=>exactλ_ h=>nomatch h
 |@snoc l ks p h e g=>
  intro q c;rcases bt.mp c with c|c
  .obtain⟨a,b⟩:=g q c;refine⟨by rw[aE];omega,λt s ht=>?_⟩;have:=b t s ht;rw[aY (ak.mp this).1];exact this
  .rw[bj.mp c];refine⟨by rw[aE];omega,λt s ht=>?_⟩;rw[e,cU (by omega),fu];exact ht
def Ch.has(h:Ch l ks):∀j s,ks[j]?=aa s->∃p∈l,∃t,j=p.i+t/\(oJ p.f)[t]?=aa s:=by
 induction h with
 |nil=>exactλ_ _ h=>nomatch h
 |@snoc l ks p h e g=>
  intro j s c;by_cases m:j<ks.length
  .rw[aY m] at c;obtain⟨q,a,b⟩:=g j s c;exact⟨q,bW _ a,b⟩
  .rw[cU (by omega)] at c;exact⟨p,by simp,j- ks.length,by omega,c⟩
def Ch.idx(h:Ch l ks):(l.flatMap λp=>E1 p.i p.f).Pairwise (·<·)/\∀x∈l.flatMap λp=>E1 p.i p.f,x<ks.length:=by
 induction h with
 |nil=>exact⟨.nil,λ_ h=>nomatch h⟩
 |@snoc l ks p h e g=>
  obtain⟨a,b⟩:=CN p.i p.f;rw[List.flatMap_append,List.flatMap_singleton];refine⟨List.pairwise_append.mpr ⟨g.1,a,λx c y j=>?_⟩,λx c=>?_⟩
  .have:=g.2 x c;have:=b y j;omega
  .rw[aE];rcases bt.mp c with c|c
   .have:=g.2 x c;omega
   .have:=b x c;omega
end
def ZU{L:List (Pq×List Rw)}{q:List Sk}(hc:Ch (L.map aQ) q)(g:∀x∈L,x.1.ok)(ha:∀x∈L,Ar q x.1.i x.1.f x.2)(hn:(L.map λx=>x.1.O7).Nodup)(A:1<=L.length)(B:L.length<=4):Gd q 0 (L.map λx=>(x.1.O7,x.2)):=by
 have all:∀{C:Pt->Prop},(∀x∈L,C (x.1.O7,x.2))->∀p∈L.map λx=>(x.1.O7,x.2),C p:=λh p m=>by obtain⟨x,c,rfl⟩:=bQ.mp m;exact h x c
 have E:∀p∈L.map aQ,p.ok:=λp m=>by obtain⟨x,c,rfl⟩:=bQ.mp m;exact g x c
 have G:=hc.len E;rw[ao] at G;have n:∀x∈L,_:=λx c=>hc.at x.1 (bQ.mpr ⟨x,c,rfl⟩);have o:=by
  have:∀l:List (Pq×List Rw),(∀x∈l,x∈L)->Mb (l.map λx=>(x.1.O7,x.2))=((l.map aQ).flatMap λp=>E1 p.i p.f).map nm:=by
   intro l;induction l with
   |nil=>exactλ_=>rfl
   |cons x l u=>
    intro h;show sn x.2++Mb (l.map _)=_;rw[u λy v=>h y (aB _ v),bq,eK,ba,(ha x (h x aN)).sn]
  exact this L λ_ h=>h
 obtain⟨H,z⟩:=hc.idx;refine⟨by rw[ao];exact A,by rw[ao];exact B,all λx c=>(g x c).w,by rw[bx];exact hn,all λx c=>?_,all λx c=>?_,all λx c=>?_,all λx c=>(ha x c).ok (by have:=(n x c).1;omega),all λx c=>(ha x c).ends ?_,all λx c=>(ha x c).mks (n x c).2,all λx c=>(ha x c).al,λj s I=>?_,?_,?_,by omega⟩
 .rw[(ha x c).bare];obtain⟨b,y,r,e⟩:=(g x c).hd;rw[e];exact Nat.le_add_left 1 _
 .rw[(ha x c).bare];exact(g x c).len
 .rw[(ha x c).marks];have:=ET x.1.f;have:=(g x c).len;omega
 .obtain⟨b,_,hb⟩:=(g x c).sh;have:=hb.es [] trivial
  rwa [bu] at this
 .obtain⟨p,m,t,rfl,ht⟩:=hc.has j s I;obtain⟨x,c,rfl⟩:=bQ.mp m;obtain⟨b,hb⟩:=(ha x c).has t s ht;exact⟨_,bQ.mpr ⟨x,c,rfl⟩,b,hb⟩
 .rw[o];refine ahR nm (λa b h=>h) ?_;exact(fh.imp_of_mem (λ{a b} J M N e=>by have:=WG (by have:=z a J;omega) (by have:=z b M;omega) e;omega) H)
 .rw[o,ao];have:∀l:List (Pq×List Rw),(∀x∈l,x∈L)->((l.map aQ).flatMap λp=>E1 p.i p.f).length<=14*l.length:=by
   intro l;induction l with
   |nil=>exactλ_=>aD _
   |cons x l u=>
    intro h;have e1:=u λy v=>h y (aB _ v);have e2:=(g x (h x aN)).few;rw[bq,eK,aE,Ag,aU];omega
  have:=this L λ_ h=>h;omega
def Md(h:x.cps.toList.all (λc=>decide (c<0x110000))=ag):ahC x=ag:=by unfold ahC;rw[<-Array.all_toList];exact h
def xp(h:qF w=ag):ahC w=ag:=by unfold qF low at h;simp only [aZ] at h;refine Md ?_;rw[bU] at h |-;intro c hc;have:=h.2 c hc;simp only [aZ,decide_eq_true_eq] at this |-;omega
def Me(ns:List Int):L3.Cz (ns.map D.int)=ag:=by induction ns with|nil=>rfl|cons n ns a=>rw[bq];unfold L3.Cz;rw[a];rfl
def WR{ws:List aX}(h:ws.all qF=ag):L3.Cz (ws.map D.str)=ag:=by
 induction ws with
 |nil=>rfl
 |cons w ws a=>
  rw[fV,aZ] at h;rw[bq];unfold L3.Cz L3.pl;rw[a h.2,Bool.and_true];exact xp h.1
def Mf(ns:List Int):Fm (ns.map D.int)=0:=by induction ns with|nil=>rfl|cons n ns a=>rw[bq];unfold Fm;rw[a];rfl
def WS(ns:List aX):Fm (ns.map D.str)=0:=by induction ns with|nil=>rfl|cons n ns a=>rw[bq];unfold Fm;rw[a];rfl
def afs{r:Rw}(h:r.ok=ag):L3.pl r.d=ag:=by cases r<;>unfold Rw.ok at h<;>simp only [aZ] at h<;>simp only [Rw.d,L3.pl,L3.Cz,aZ]<;>(repeat' apply And.intro);all_goals first|rfl|trivial|exact Md rfl|exact xp h|exact xp h.1|exact xp h.2|exact xp h.1.2|exact Me _|exact WR h.2
def aft(r:Rw):dp r.d<=2:=by
 cases r;case numbers ns=>show max 0 (max (Fm _+1) 0)+1<=2;rw[Mf];decide
 case table ns=>show max 0 (max (Fm _+1) 0)+1<=2;rw[WS];decide
 all_goals exact aq rfl
def aaZ{xs:List Rw}(h:∀x∈xs,x.ok=ag):L3.Cz (xs.map Rw.d)=ag/\Fm (xs.map Rw.d)<=2:=by
 induction xs with
 |nil=>exact⟨rfl,bD _⟩
 |cons x xs a=>
  obtain⟨b,c⟩:=a λy e=>h y (aB _ e);rw[bq];unfold L3.Cz Fm;rw[b,afs (h x aN)];exact⟨rfl,Nat.max_le.mpr ⟨aft x,c⟩⟩
def ZV(r:Rw)(w:aX):AD r.d (Rw.mark w ag).d=decide (r=.mark w ag):=by
 cases r with
 |mark v c=>
  show(ag&&((v==w)&&((c==ag)&&ag)))=_;by_cases h:v=w
  .subst h;cases c<;>simp
  .simp[h]
 |_=>rfl
def ZW{rs:List Rw}{w:aX}{j:Nat}{M:Ms}{Q:DK}(hw:qF w=ag)(h:M[j]?=aa (aa (.lst (rs.map Rw.d))))(c:∀r∈rs,r.ok=ag)(q:Q (.bl (decide (Rw.mark w ag∈rs))) M):NQ (Rw.mark w ag).d (.loc j) M Q:=by
 unfold NQ;rw[jh h];obtain⟨a,b⟩:=aaZ c;refine⟨⟨afs (r:=.mark w ag) hw,by have:=aft (.mark w ag);show dp (Rw.mark w ag).d<=60;omega,a,by omega⟩,?_⟩;have e:((rs.map Rw.d).any λy=>AD y (vw M (Rw.mark w ag).d))=decide (Rw.mark w ag∈rs):=by show((rs.map Rw.d).any λy=>AD y (Rw.mark w ag).d)=_;rw[List.any_map,d9];simp only [List.any_eq_true,Function.comp,ZV,decide_eq_true_eq];exact⟨λ⟨x,a,b⟩=>b▸a,λh=>⟨_,h,rfl⟩⟩
 rw[e];exact q
def kS:So->aX
 |.c=>"code"|.n=>im|.t=>kv
def soS:Option Rw->aX
 |none=>""
 |some r=>match L7 r with
  |some o=>kS o
  |none=>""
def wy:GN:=λds M Q=>∃(j n:Nat) (rs:List Rw),ds=[.loc j,.int n]/\M[j]?=aa (aa (.lst (rs.map Rw.d)))/\n<=rs.length/\Q (.str (soS (jf (rs.drop n)))) M
def Mg:l8 wy:=λds M P Q w ⟨j,n,rs,a,b,c,q⟩=>⟨j,n,rs,a,b,c,w _ _ q⟩
def sB:DS:=(js (iu (iA Fx (iA jS (hX 2) (dC (.int 0))) (dC (.str mX)))) (iN (iA jS (jV (mM (hV (iA jS (hX 2) (dC (.int 0))) (hV (dC (.str "code")) ib)))) (i5 Ca (hV (iA (CB ag) (iA jS (hX 2) (dC (.int 0))) (ju (hV (dC (.str im)) (hV (dC (.str kv)) ib)))) ib)))) iP)
theorem Ha{st:Ms->Prop}(c:st M):∀(l:List Rw) (o:Option D),(∀r,jf l=aa r->E.rt (.str (soS (aa r))) M)->(jf l=ar->∀o,E.nx [aa a,aa b,o] M)->xV (iq 2) sB st E (l.map Rw.d) [aa a,aa b,o] M
 |[],o,_,hn=>hn rfl o
 |r::l,o,e,hn=>by
  cases r with
  |mark w f=>exact⟨_,rfl,c,Ha c l _ e hn⟩
  |_=>
   have h:=e _ rfl;walk_at "d";exact h
def ZX:∀ds M Q,wy ds M Q->vf 3 2 Ey ds M Q:=λds M Q ⟨j,n,rs,a,b,c,q⟩=>by
 subst a;have e:=jh b;refine⟨rfl,?_⟩;show(match vw M (.loc j) with|.lst xs=>_|.rS xs=>_|.tup xs=>_|.str z=>_|_=>False);rw[e];refine⟨_,rfl,rfl,?_⟩;rw[zQ (by rw[ao];exact c),<-hG];refine Ha (st:=λf=>vw f _=vw M _) rfl _ ar (λr g=>?_) (λhn o=>?_)
 .rw[g] at q;exact q
 .rw[hn] at q;exact q
def Cn(B:Nat):List Pt->List D
 |[]=>[]
 |p::a=>.tup [.str p.1,.loc B]::Cn (B+1) a
theorem QY:∀(B:Nat) (a:List Pt),(Cn B a).length=a.length
 |_,[]=>rfl
 |B,p::a=>by show _+1=_+1;rw[QY]
theorem WT:∀{B:Nat} {a:List Pt} {q:Nat} {p:Pt},a[q]?=aa p->(Cn B a)[q]?=aa (.tup [.str p.1,.loc (B+q)])
 |B,p::a,0,_,h=>by cases h;rfl
 |B,x::a,q+1,p,h=>by have:=WT (B:=B+1) (q:=q) h;show(Cn (B+1) a)[q]?=_;rw[this,show B+1+q=B+(q+1) by omega]
theorem Jo:∀{B:Nat} {a b:List Pt},a.map aQ=b.map aQ->Cn B a=Cn B b
 |B,[],[],_=>rfl
 |B,p::a,f::b,h=>by injection h with c e;show _::_=_::_;rw[c,Jo e]
theorem Mh:∀(B:Nat) (a:List Pt) (p:Pt),Cn B (a++[p])=Cn B a++[.tup [.str p.1,.loc (B+a.length)]]
 |_,[],_=>rfl
 |B,x::a,p=>by show _::Cn (B+1) (a++[p])=_::(Cn (B+1) a++_);rw[Mh,aU,show B+1+a.length=B+(a.length+1) by omega]
structure Fd(ks:List Sk)(k m B:Nat)(ps:List Pt)(M:Ms):Prop where
 src:∃n,Dr M k n
 em:M[m]?=aa (aa (.lst (uP 0 ks)))
 rows:∀(i:Nat) (p:Pt),ps[i]?=aa p->M[B+i]?=aa (aa (.lst (p.2.map Rw.d)))
 kB:k<B
 mB:m<B
 km:k≠m
section
variable {k:Nat} {ps:List Pt} {M:Ms}
def Fd.go(h:Fd ks k m B ps M)(d:Dr M' k n')(s:p0 M M' k):Fd ks k m B ps M':=by have:=h.kB;have:=h.km;exact⟨⟨_,d⟩,(s.2 m (ak.mp h.em).1 (by omega)).trans h.em,λi p a=>(s.2 _ (ak.mp (h.rows i p a)).1 (by omega)).trans (h.rows i p a),h.kB,h.mB,h.km⟩
theorem Fd.set(h:Fd ks k m B ps M)(c:ps[q]?=aa p):Fd ks k m B (ps.set q (p.1,b)) (M.set (B+q) (aa (.lst (b.map Rw.d)))):=by
 have:=h.kB;have:=h.mB;obtain⟨n,hd⟩:=h.src;refine⟨⟨n,hd.of (aJ (by omega))⟩,(aJ (by omega)).trans h.em,λi x a=>?_,h.kB,h.mB,h.km⟩;by_cases e:q=i
 .subst e;rw[bn (ak.mp c).1] at a;cases a;exact bn (ak.mp (h.rows q p c)).1
 .rw[aJ e] at a;rw[aJ (by omega)];exact h.rows i x a
end
def E2:GN:=λds M Q=>∃(kp m k n:Nat) (a:List Sk) (e:List Pt),ds=[.loc kp,.loc m,.loc k]/\M[kp]?=aa (aa (.lst (e.map mx)))/\M[m]?=aa (aa (.lst (uP 0 a)))/\Dr M k n/\k≠m/\a≠[]/\Gd a 0 e/\
 ∀(b:List Pt) (c:Nat) (f:Ms),c<=4->Gd a c b->b.map aQ=e.map aQ->Fd a k m M.length b f->Q (.lst (Cn M.length b)) f
def Mi:l8 E2:=λds M P Q w ⟨kp,m,k,n,f,g,h,i,j,o,p,r,s,q⟩=>⟨kp,m,k,n,f,g,h,i,j,o,p,r,s,λu c v a b d e=>w _ _ (q u c v a b d e)⟩
def afu{rs:List Rw}{M:Ms}{Q:DK}(h:M[j]?=aa (aa (.lst (rs.map Rw.d))))(hn:n<=rs.length)(q:Q (.str (soS (jf (rs.drop n)))) M):wy [.loc j,.int n] M Q:=⟨j,n,rs,rfl,h,hn,q⟩
def afv(s:Sk){M:Ms}{Q:DK}(q:Q (.bl s.code) M):CB ag (.str s.kn) (.tup [.str im,.str kv]) M Q:=by cases s<;>exact⟨_,rfl,q⟩
def afw(s:Sk){M:Ms}{Q:DK}(q:Q (.str (kS s.so)) M):jS (.lst [.str s.kn,.str "code"]) (.int (if s.code=ag then 1 else 0)) M Q:=by cases s<;>exact⟨_,rfl,q⟩
theorem O8:∀(B:Nat) (a:List Pt),Cn B a=(a.zipIdx B).map λx=>D.tup [.str x.1.1,.loc x.2]
 |_,[]=>rfl
 |B,p::a=>by show _::Cn (B+1) a=_;rw[O8];rfl
theorem WU:∀{i:Nat} {a:List Sk} {j:Nat} {s:Sk},a[j]?=aa s->(uP i a)[j]?=aa (ZM (i+j) s)
 |i,x::a,0,s,h=>by cases h;rfl
 |i,x::a,j+1,s,h=>by have:=WU (i:=i+1) (j:=j) h;show(uP (i+1) a)[j]?=_;rw[this,show i+1+j=i+(j+1) by omega]
def adb{k j:Nat}{xs:List D}{d:D}{Q:DK}(h:M[k]?=aa (aa (.lst xs)))(e:xs[j]?=aa d)(q:Q d M):jS (.loc k) (.int j) M Q:=by unfold jS;rw[jh h];exact⟨d,F2 e,q⟩
def len_own{Q:DK}(h:M[k]?=aa (aa (.lst xs)))(q:Q (.int xs.length) M):lx [.loc k] M Q:=by unfold lx;simp only [jh h];exact⟨xs.length,rfl,q⟩
def adc(h:soS o=kS t):∃y,o=aa y/\L7 y=aa t:=by
 cases o with
 |none=>cases t<;>exact absurd h (by decide)
 |some y=>
  refine⟨y,rfl,?_⟩;replace h:(match L7 y with|some o=>kS o|none=>"")=kS t:=h;cases e:L7 y with
  |none=>rw[e] at h;cases t<;>exact absurd h (by decide)
  |some o=>rw[e] at h;cases o<;>cases t<;>first|rfl|exact absurd h (by decide)
def afx{o:List Sk}{k m B c:Nat}{f:List Pt}{M:Ms}{T:D}{U Y o6 o7 o8 o9 u:Option D}{E:jZ}(Xs:o≠[])(hc:c<=4)(g:Gd o c f)(h:Fd o k m B f M)
(q:∀(vW:List Pt) (c':Nat) (v:Ms) (Y o6 o7 o8 o9 u:Option D),c'<=c+1->Gd o c' vW->vW.map aQ=f.map aQ->Fd o k m B vW v->E.nx [aa T,aa (.loc m),aa (.loc k),aa (.lst (Cn B f)),U,Y,o6,o7,o8,o9,u] v):
  mB' jI wy E [aa T,aa (.loc m),aa (.loc k),aa (.lst (Cn B f)),U,Y,o6,o7,o8,o9,u] M:=by
 have C:=@wx;have f2:=@afu;have f3:=@adb;have G:∀{xs:List D} {j:Nat} {d:D} {M:Ms} {Q:DK},xs[j]?=aa d->Q d M->jS (.lst xs) (.int j) M Q:=λe q=>⟨_,F2 e,q⟩;have H:∀{a b:D} {M:Ms} {Q:DK},Q b M->jS (.tup [a,b]) (.int 1) M Q:=λq=>⟨_,rfl,q⟩;have f4:=@len_own;have I:∀{xs:List D} {M:Ms} {Q:DK},Q (.int xs.length) M->lx [.lst xs] M Q:=λq=>⟨_,rfl,q⟩;have f5:=@afw;have f6:=@ZW;have f7:=@afv;have f8:∀{bs:List Bool} {M:Ms} {Q:DK},Q (.bl (bs.any id)) M->Zd [.lst (bs.map D.bl)] M Q:=λq=>⟨_,rfl,q⟩;have f9:∀{b:Bool} {M:Ms} {Q:DK},Q (.int (if b=ag then 1 else 0)) M->Ca [.bl b] M Q:=λ{b _ _} q=>by cases b<;>exact q
 unfold mB';generalize jI=gn at C |-;generalize wy=gs at f2 |-;generalize jS=gx at f3 G H f5 |-;generalize lx=gl at f4 I |-;generalize CB=gi at f7 |-;generalize NQ=gd at f6 |-;generalize Zd=ga at f8 |-;generalize Ca=gt at f9 |-;obtain⟨n,hd⟩:=h.src;have PM:0<o.length:=List.length_pos_iff.mpr Xs;refine f4 h.em ?_;rw[Jj];refine C (by omega) hd λr M1 w r1 _ d1 s1=>?_;have N:=h.go d1 s1;obtain⟨i,rfl⟩:=cu w;have hi:o[i]?=aa (o[i]'(by omega)):=ax (by omega);generalize o[i]'(by omega)=s at hi;have UY:=WU (i:=0) hi;rw[bR] at UY;have hw:qF (nm i)=ag:=ZK i (by have:=g.Tl;omega);refine f3 N.em UY ⟨rfl,rfl,?_⟩;refine⟨aq rfl,aq rfl,f7 s (f9 (f5 s ?_))⟩;refine⟨_,rfl,rfl,?_⟩;rw[O8];refine iY (st:=λv=>vw v (D.lst _)=vw M1 (D.lst _)) (λx:Pt×Nat=>D.tup [.str x.1.1,.loc x.2]) (λx=>D.bl (decide (Rw.mark (nm i) ag∈x.1.2))) rfl _ [] ?_ (λx hx Kk hK=>?_) ?_
 .rw[ft,bp];have:=g.hi;show 0+_<=_;omega
 .obtain⟨p,j⟩:=x;have hm:=ah1.mp hx;have A:=bA hm.2;have hr:=N.rows (j- B) p hm.2;rw[show B+(j- B)=j by have:=hm.1;omega] at hr;refine⟨rfl,rfl,aq rfl,f6 hw hr (g.ok p A) (hK [aa (.str p.1),aa (.loc j),aa (.str (nm i))] rfl)⟩
 .have e1:[]++(f.zipIdx B).map (λx=>D.bl (decide (Rw.mark (nm i) ag∈x.1.2)))=((f.zipIdx B).map λx=>decide (Rw.mark (nm i) ag∈x.1.2)).map D.bl:=by rw[bx];rfl
  rw[e1];refine f8 ?_;have e2:(((f.zipIdx B).map λx=>decide (Rw.mark (nm i) ag∈x.1.2)).any id)=au->∀p∈f,Rw.mark (nm i) ag∉p.2:=by intro e p A hm;obtain⟨j,hj⟩:=cO.mp A;have:(p,B+j)∈f.zipIdx B:=ah1.mpr ⟨by show B<=B+j;omega,by show f[B+j- B]?=aa p;rw[fu];exact hj⟩;rw[List.any_eq_false] at e;exact e ag (bQ.mpr ⟨_,this,decide_eq_true hm⟩) rfl
  generalize (((f.zipIdx B).map λx=>decide (Rw.mark (nm i) ag∈x.1.2)).any id)=str at e2 |-;rw[<-O8];refine I ?_;rw[QY];obtain⟨n1,hd1⟩:=N.src;refine C (by have:=g.lo;omega) hd1 λr M2 w r1 _ d2 s2=>?_;have h2:=N.go d2 s2;obtain⟨t,rfl⟩:=cu w;have ht:f[t]?=aa (f[t]'(by omega)):=ax (by omega);generalize f[t]'(by omega)=p at ht;have A:=bA ht;refine G (WT ht) (H ?_);have hr2:=h2.rows t p ht;have hl:=Af p.2;have hl1:=g.o1 p A;refine f4 hr2 ?_;rw[ao];refine C (by omega) d2 λr M3 w r1 _ d3 s3=>?_;have O:=h2.go d3 s3;obtain⟨a,rfl⟩:=cu w;have J:=O.rows t p ht;refine f2 J (by omega) ?_;show(if(soS (jf (p.2.drop a))==kS s.so)=ag then _ else _);by_cases hs:soS (jf (p.2.drop a))=kS s.so
  .rw[if_pos (by rw[beq_iff_eq];exact hs)];obtain⟨y,hy1,hy2⟩:=adc hs;have kI:∀(b:Bool) (L:Ms),Fd o k m B f L->(b=ag->str=au)->vZ (.loc (B+t)) [.int a,(Rw.mark (nm i) b).d] L λ_ v=>E.nx [aa T,aa (.loc m),aa (.loc k),aa (.lst (Cn B f)),U,aa (.str (nm i)),aa (.str s.kn),aa (.str (kS s.so)),aa (.bl str),aa (.loc (B+t)),aa (.int a)] v:=by
    intro b L h4 hb;refine⟨_,a,h4.rows t p ht,rfl,by rw[ao];omega,by rw[ao,bp];have:=g.len A;omega,?_⟩;have e3:(p.2.map Rw.d).take a++(Rw.mark (nm i) b).d::(p.2.map Rw.d).drop a=(ins (.mark (nm i) b) a p.2).map Rw.d:=by rw[<-WM,ba,bq,List.map_take,hG]
    rw[e3];refine q _ (c+1) _ _ _ _ _ _ _ (aD _) (g.ins ht hi hy1 hy2 λz=>e2 (hb z)) ?_ (h4.set ht);rw[List.map_set];apply List.ext_getElem?;intro j;by_cases e:t=j
    .subst e;rw[bn (by rw[ao];exact(ak.mp ht).1),bh,ht];rfl
    .rw[aJ e]
   refine⟨by rw[jh J];rfl,?_⟩;cases kq:str with
   |true=>
    subst kq;exact⟨aq rfl,kI au M3 O λz=>nomatch z⟩
   |false=>
    subst kq;refine C (by decide) d3 λr L w r1 _ d4 s4=>⟨aq rfl,kI (r==1) L (O.go d4 s4) λ_=>rfl⟩
  .rw[if_neg (by rw[beq_iff_eq];exact hs)];exact q f c M3 _ _ _ _ _ _ (cx _) g rfl O
def ZY:∀ds M Q,E2 ds M Q->vf 11 3 (yA jI wy) ds M Q:=λds M Q ⟨kp,m,k,n,H,b,I,J,L,O,h5,h6,g,q⟩=>by
 subst I;unfold yA;have f1:=@wx;have fb:=@afx;generalize mB' jI wy=mb at fb |-;generalize jI=gn at f1 |-;have hv:=jh J;have T:=(ak.mp J).1;refine⟨rfl,b.map mx,by rw[hv];rfl,rfl,?_⟩;refine tU (λj acc h=>j<=b.length/\acc=Cn M.length (b.take j)/\h=M++(b.take j).map λp=>aa (.lst (p.2.map Rw.d))) (λj a h f=>?_) _ 0 [] _ ⟨bD _,rfl,by simp⟩ ?_ (λj x acc h w f Kk hK=>?_) (λacc h f=>?_)
 .obtain⟨_,_,rfl⟩:=f;rw[jh ((aY T).trans J),hv]
 .rw[ao,bp];have:=g.hi;show 0+_<=_;omega
 .obtain⟨y,rfl,rfl⟩:=f;rw[bh] at w;cases e:b[j]? with
  |none=>rw[e] at w;cases w
  |some p=>
   rw[e] at w;cases w;have hj:=(ak.mp e).1;have et:b.take (j+1)=b.take j++[p]:=by rw[List.take_succ,e];rfl
   refine⟨rfl,rfl,aq rfl,hK _ _ _ rfl ⟨by omega,?_,?_⟩⟩
   .rw[bR,et,Mh,aE,ao]
   .rw[bR,et,ba,bi];rfl
 .obtain⟨y,rfl,rfl⟩:=f;rw[bR,ao,List.take_length];have hF:Fd H k m M.length b (M++b.map λp=>aa (.lst (p.2.map Rw.d))):=by refine⟨⟨n,O.of (aY O.lt)⟩,(aY (ak.mp L).1).trans L,λi p f=>?_,O.lt,(ak.mp L).1,h5⟩;rw[cU (by omega),fu,bh,f];rfl
  obtain⟨n1,U⟩:=hF.src;refine f1 (by decide) U λr M1 r0 r1 _ d1 s1=>?_;have I:=hF.go d1 s1;refine⟨⟨show-(2^62)<=r by omega,show r<2^62 by omega⟩,trivial,?_⟩;refine iQ (λi:Nat=>D.int (0+(i:Int))) (λa z Y h=>a.length+z.length<=4/\∃(u:List Pt) (c:Nat) (o4 A B C E G o:Option D),c<=a.length/\Gd H c u/\u.map aQ=b.map aQ/\Fd H k m M.length u h/\Y=[aa (.loc kp),aa (.loc m),aa (.loc k),aa (.lst (Cn M.length b)),o4,A,B,C,E,G,o]) (λ_ _ _ _ _=>trivial) _ [] _ _ ⟨by rw[cV];show 0+_<=_;omega,b,0,ar,ar,ar,ar,ar,ar,ar,aD _,g,rfl,I,rfl⟩ (λpre x xs Y h f N hN=>?_) (λpre Y h f=>?_)
  .obtain⟨y,u,c,o4,A,B,C,E,G,o,hc,g',v,s,rfl⟩:=f;rw[aU] at y;rw[<-Jo v];refine fb h6 (by omega) g' s λps2 c2 M2 A B C E G o Uk g2 en2 hF2=>hN _ _ ⟨by rw[aE];show _+1+_<=_;omega,ps2,c2,_,_,_,_,_,_,_,by rw[aE];show _<=_+1;omega,g2,en2.trans v,hF2,by rw[Jo v]⟩
  .obtain⟨y,u,c,o4,A,B,C,E,G,o,hc,g',v,s,rfl⟩:=f;have:=q u c h (by have:pre.length+0<=4:=y;omega) g' v s;rw[Jo v] at this;exact this
def pz:aX:="pqrstuvw"
def ah:aX:="abcdefgh"
def c1(z:aX)(i:Nat):aX:=⟨#[z.cps.toList.getD i 0]⟩
def pn(j x:Nat):aX:=c1 pz (3*j%8)++c1 ah x
def ahd:∀j,j<4->∀x,x<8->qF (pn j x)=ag:=by decide+kernel
def ade:∀i,i<4->∀j,j<4->∀x,x<8->∀y,y<8->pn i x=pn j y->i=j:=by decide+kernel
def Nc{i:Nat}{j:Int}{M:Ms}{Q:DK}(e:j=(i:Int))(a:z.length<=aO)(h:i<z.cps.toList.length)(q:Q (.str (c1 z i)) M):jS (.str z) (.int j) M Q:=by subst e;refine⟨a,z.cps.toList.getD i 0,F2 ?_,q⟩;rw[bv,ax h];rfl
def skD(p:Pq):D:=.tup [.str p.O7,.lst (j4 p.i p.f)]
structure L1(ks:List Sk)(L:List (Pq×Nat))(M:Ms):Prop where
 em:M[0]?=aa (aa (.lst (uP 0 ks)))
 es:M[1]?=aa (aa (.lst (L.map λx=>skD x.1)))
 er:M[2]?=aa (aa (.lst (L.map λx=>.loc x.2)))
 dr:∀x∈L,3<=x.2/\∃n,Dr M x.2 n
 nd:(L.map dD).Nodup
structure I1(ks:List Sk)(L:List (Pq×Nat)):Prop where
 ch:Ch (L.map aQ) ks
 ok:∀x∈L,x.1.ok
 nm:∀j p,(L.map aQ)[j]?=aa p->∃x,x<8/\p.O7=pn j x
def WV{many:Nat}{M:Ms}{Q:DK}(b:many<=100)(q:∀(k:Nat) (a:Ms),M.length<=k->Dr a k many->M.length<=a.length->(∀j,j<M.length->a[j]?=M[j]?)->Q (.loc k) a):om [.int c,.int many] M Q:=⟨c,many,rfl,b,q⟩
def afy{M:Ms}{Q:DK}(g:k≠m)(h:Dr M k n)(i:M[m]?=aa (aa (.lst (uP 0 c))))(o:c.length<=78)
(q:∀(f:Fl) (b e:Nat) (a:Ms),Sh b (f.map dD)->b<=3->Hd f->6*st f+e<=n+10->Dr a k e->a[m]?=aa (aa (.lst (uP 0 (c++oJ f))))->M.length<=a.length->(∀j,j<M.length->j≠k->j≠m->a[j]?=M[j]?)->Q (.lst (j4 c.length f)) a):yL [.loc k,.loc m,.int 3] M Q:=⟨k,m,n,c,rfl,g,h,i,o,q⟩
def QZ{d:D}{Q:DK}(h:M[k]?=aa (aa (.lst xs)))(a:xs.length<=1000)(q:Q .non (M.set k (aa (.lst (xs++[d]))))):jj (.loc k) [d] M Q:=⟨_,h,by rw[bp];omega,q⟩
def afz{o:List Sk}{L:List (Pq×Nat)}{M:Ms}{cs:List Int}{c:Int}{z A I J:Option D}{E:jZ}(hl:cs.length<=4)(hL:L.length<4)(hi:I1 o L)(h:L1 o L M)
(q:∀(N:List Sk) (L':List (Pq×Nat)) (O:Ms) (z A:Option D),L'.length=L.length+1->I1 N L'->L1 N L' O->E.nx [aa (.lst (iD cs)),aa (.loc 0),aa (.loc 1),aa (.loc 2),aa (.int L.length),aa (.int c),z,A,I,J] O):
  pB om jI yL E [aa (.lst (iD cs)),aa (.loc 0),aa (.loc 1),aa (.loc 2),aa (.int L.length),aa (.int c),z,A,I,J] M:=by
 have B:=@wx;have T:=@WV;have U:=@afy;have C:=@Nc;have G:=@QZ;have Y:∀{M:Ms} {Q:DK},Q (.int cs.length) M->lx [.lst (iD cs)] M Q:=λq=>⟨_,rfl,by rw[ao];exact q⟩;have f7:∀{M:Ms} {Q:DK},Q (.int 3) M->jS (.lst [.int 3,.int 1]) (.int 0) M Q:=λq=>⟨_,rfl,q⟩;have f8:∀{b:Bool} {M:Ms} {Q:DK},b=au->Q (.int 0) M->Ca [.bl b] M Q:=λe q=>by subst e;exact q
 unfold pB;generalize Ca=gt at f8 |-;generalize om=gd at T |-;generalize jI=gn at B |-;generalize yL=gs at U |-;generalize jS=gx at C f7 |-;generalize jj=ga at G |-;generalize lx=gl at Y |-;have Xs:o.length<=63:=by
  have:=hi.ch.len λp m=>by obtain⟨x,v,rfl⟩:=bQ.mp m;exact hi.ok x v
  rw[ao] at this;omega
 have h2l:=(ak.mp h.er).1;refine T (many:=80) (by decide) λk M1 hk d1 l1 s1=>?_;refine⟨.inl ⟨by decide,by decide⟩,B (by decide) d1 λr M2 r0 r1 _ d2 s2=>?_⟩;have er:r=0:=by omega
 subst er;refine⟨show(0:Int)<8 by decide,C (i:=3*L.length%8) (show(3*(L.length:Int)+0)%8=_ by omega) (aq rfl) (show 3*L.length%8<8 from Nat.mod_lt _ (by decide)) ?_⟩;refine B (by decide) d2 λx M3 x0 x1 _ d3 s3=>?_;obtain⟨x,rfl⟩:=cu x0;have v:x<8:=by omega
 refine C (i:=x) rfl (aq rfl) (show x<8 from v) ⟨aq rfl,?_⟩;have H:∀j,j<M.length->M3[j]?=M[j]?:=λj u=>(s3.2 j (by have:=s2.1;omega) (by omega)).trans ((s2.2 j (by omega) (by omega)).trans (s1 j u));have hM3:M.length<=M3.length:=by have:=s2.1;have:=s3.1;omega
 refine⟨by rw[jh ((H 1 (by omega)).trans h.es)];rfl,aq rfl,Y ?_⟩;refine f8 (decide_eq_false (by omega)) (f7 (U (by omega) d3 ((H 0 (by omega)).trans h.em) (by omega) λf b n' M4 Tw hb hd kq d4 e4 l4 s4=>?_));have s:∀j,j<M.length->j≠0->M4[j]?=M[j]?:=λj u j0=>(s4 j (by omega) (by omega) j0).trans (H j u);refine⟨aq rfl,G (d:=skD ⟨pn L.length x,o.length,f⟩) ((s 1 (by omega) (by decide)).trans h.es) (by rw[ao];omega) ?_⟩;have e2:(M4.set 1 (aa (.lst (L.map (λx=>skD x.1)++[skD ⟨pn L.length x,o.length,f⟩]))))[2]?=aa (aa (.lst (L.map λx=>.loc x.2))):=(aJ (by decide)).trans ((s 2 (by omega) (by decide)).trans h.er);refine⟨by rw[jh e2];rfl,G e2 (by rw[ao];omega) (q (o++oJ f) (L++[(⟨pn L.length x,o.length,f⟩,k)]) _ _ _ (by simp) ⟨?_,λy g=>?_,λj p m=>?_⟩ ⟨?_,?_,?_,λy g=>?_,?_⟩)⟩
 .rw[ba];exact .snoc (p:=⟨pn L.length x,o.length,f⟩) hi.ch rfl
 .rcases bt.mp g with g|g
  .exact hi.ok y g
  .rw[bj.mp g];exact⟨ahd _ hL _ v,⟨b,hb,Tw⟩,hd,by show st f<=14;omega⟩
 .rw[ba] at m;by_cases u:j<(L.map aQ).length
  .rw[aY u] at m;exact hi.nm j p m
  .rw[cU (by omega)] at m;have w:j- (L.map aQ).length=0:=by have:=(ak.mp m).1;simp at this |-;omega
   rw[w] at m;cases m;have:j=L.length:=by rw[ao] at u w;omega
   exact⟨x,v,by rw[this]⟩
 .exact(aJ (by decide)).trans ((aJ (by decide)).trans e4)
 .rw[aJ (by decide),bn (by omega),ba];rfl
 .rw[bn (by rw[de];omega),ba];rfl
 .rcases bt.mp g with g|g
  .obtain⟨a,n,b⟩:=h.dr y g;have:=b.lt;exact⟨a,n,b.of ((aJ (by omega)).trans ((aJ (by omega)).trans (s y.2 (by omega) (by omega))))⟩
  .rw[bj.mp g];exact⟨by show 3<=k;omega,n',d4.of ((aJ (by omega)).trans (aJ (by omega)))⟩
 .rw[ba];refine dB.mpr ⟨h.nd,by simp,λa ha b hb e=>?_⟩;obtain⟨y,g,rfl⟩:=bQ.mp ha;have hb:b=k:=by simpa using hb
  obtain⟨_,n,d⟩:=h.dr y g;have:=d.lt;omega
abbrev pdD(x:Pq×List Rw):D:=mx (x.1.O7,x.2)
def Sh.hd(h:Sh b r):∀y t,r=y::t->y.so=.c:=by
 have f:∀s:Sk,s.code=ag->s.so=.c:=λs h=>by cases s<;>first|rfl|cases h
 induction h with
 |nil=>exactλ_ _ h=>nomatch h
 |@snoc b r cs e ds j g i=>
  intro y t a;cases r with
  |nil=>
   cases cs with
   |nil=>cases a;exact f _ g.ec
   |cons c cs=>cases a;exact f _ (g.c _ aN)
  |cons z r=>cases a;exact i _ _ rfl
def Ch.code(h:Ch l f)(a:∀p∈l,p.ok)(g:l≠[]):∃s∈f,s.so=.c:=by
 cases l with
 |nil=>exact absurd rfl g
 |cons p l=>
  obtain⟨b,y,r,e⟩:=(a p aN).hd;obtain⟨i,_,hb⟩:=(a p aN).sh;rw[e] at hb;have:=(h.at p aN).2 0 y (by rw[e];rfl);exact⟨y,bA this,hb.hd y _ rfl⟩
def L1.go(h:L1 f L M)(i:3<=k)(d:Dr c k n)(s:p0 M c k):L1 f L c:=by
 have g:∀j,j<3->c[j]?=M[j]?:=λj p=>s.2 j (by have:=(ak.mp h.er).1;omega) (by omega);refine⟨(g 0 (by decide)).trans h.em,(g 1 (by decide)).trans h.es,(g 2 (by decide)).trans h.er,λx m=>?_,h.nd⟩;obtain⟨a,o,b⟩:=h.dr x m;by_cases e:x.2=k
 .rw[e];exact⟨i,n,d⟩
 .exact⟨a,o,b.of (s.2 _ b.lt e)⟩
theorem L1.set(h:L1 e L M)(f:3<=j)(hn:∀x∈L,x.2≠j):L1 e L (M.set j o):=
 ⟨(aJ (by omega)).trans h.em,(aJ (by omega)).trans h.es,(aJ (by omega)).trans h.er,λx c=>let⟨a,n,b⟩:=h.dr x c;⟨a,n,b.of (aJ λz=>hn x c z.symm)⟩,h.nd⟩
def afA{R:List (Pq×List Rw)}{M:Ms}{kp:Nat}{x:Pq×Nat}{m:D}{o r:Option D}{E:jZ}(A:e.length<100)(hc:∃s∈e,s.so=.c)(u:x∈L)(ja:x.1.ok)(h:L1 e L M)(a:M[kp]?=aa (aa (.lst (R.map pdD))))(j:3<=kp)(hn:∀x∈L,x.2≠kp)(J:R.length<=4)
(q:∀(rs:List Rw) (g:Ms),Ar e x.1.i x.1.f rs->L1 e L g->g[kp]?=aa (aa (.lst ((R++[(x.1,rs)]).map pdD)))->E.nx [aa m,aa (.loc 0),aa (.loc 1),aa (.loc 2),o,r,aa (.loc x.2),aa (.str x.1.O7),aa (.loc kp),aa (.lst (j4 x.1.i x.1.f))] g):
  pC sG E [aa m,aa (.loc 0),aa (.loc 1),aa (.loc 2),o,r,aa (.loc x.2),aa (.str x.1.O7),aa (.loc kp),aa (.lst (j4 x.1.i x.1.f))] M:=by obtain⟨B,n,hd⟩:=h.dr x u;obtain⟨b,C,G⟩:=ja.sh;have N:=ja.len;have v:=@QZ;unfold pC;generalize jj=ga at v |-;refine⟨by rw[jh a];rfl,_,rfl,rfl,EV (by omega) A hc h.em (λ_ _=>rfl) x.1.f x.1.i n [] M (λp a=>G.ok _ (bQ.mpr ⟨p,a,rfl⟩)) (by show 0+_<=_;omega) hd p0.refl λrs O g ha H w=>?_⟩;have I:=h.go B H w;have y:=(w.2 kp (ak.mp a).1 (λz=>hn x u z.symm)).trans a;refine⟨aq rfl,v y (by rw[ao];omega) (q rs _ ha (I.set j hn) ?_)⟩;rw[bn (ak.mp y).1,ba];rfl
theorem Mj{ks:List Sk}{k m:Nat}:∀(B:Nat) (a:List Pt) (M:Ms),(∀(i:Nat) (p:Pt),a[i]?=aa p->M[B+i]?=aa (aa (.lst (p.2.map Rw.d))))->(Cn B a).map (KZ M 2)=a.map mx
 |B,[],M,_=>rfl
 |B,p::a,M,h=>by
  have b:=h 0 p rfl;have e:=Mj (ks:=ks) (k:=k) (m:=m) (B+1) a M λi p c=>by have:=h (i+1) p c;rwa [show B+(i+1)=B+1+i by omega] at this
  show KZ M 2 _::(Cn (B+1) a).map _=mx p::_;congr 1;show D.tup [KZ M 1 _,KZ M 1 (.loc B)]=D.tup _;have e1:KZ M 1 (.loc B)=.lst (p.2.map Rw.d):=by unfold KZ;rw[jh (show M[B]?=aa _ from b)];show D.lst _=_;have:(KZ M 0)=id:=rfl;rw[this,List.map_id]
  rw[e1];rfl
def WW (a:List Pt):Prop:=∃b c,c<=4/\Gd b c a
def Jp:GP:=λds Q=>∃cs:List Int,ds=[.lst (iD cs)]/\1<=cs.length/\cs.length<=4/\∀a:List Pt,WW a->Q (.lst (a.map mx))
def Jq:jD Jp:=λds P Q w ⟨cs,a,b,c,q⟩=>⟨cs,a,b,c,λe h=>w _ (q e h)⟩
def afB{M:Ms}{Q:DK}(g:M[kp]?=aa (aa (.lst (e.map mx))))(h:M[m]?=aa (aa (.lst (uP 0 a))))(i:Dr M k n)(j:k≠m)(o:a≠[])(p:Gd a 0 e)
(q:∀(b:List Pt) (c:Nat) (f:Ms),c<=4->Gd a c b->b.map aQ=e.map aQ->Fd a k m M.length b f->Q (.lst (Cn M.length b)) f):E2 [.loc kp,.loc m,.loc k] M Q:=⟨kp,m,k,n,a,e,rfl,g,h,i,j,o,p,q⟩
def ZZ{L:List (Pq×Nat)}:c8 (λa b=>D.tup [a,b]) (L.map λx=>skD x.1) (L.map λx=>D.loc x.2)=L.map λx=>D.tup [skD x.1,.loc x.2]:=by
 induction L with
 |nil=>rfl
 |cons x L c=>simp only [bq,dW,c]
def WX(h:I1 m L)(n:L.length<=4):((L.map aQ).map Pq.O7).Nodup:=by rw[List.nodup_iff_pairwise_ne,eY];intro i j hi a o e;simp only [ao] at hi a;rw[List.getElem_map,List.getElem_map (f:=Pq.O7)] at e;obtain⟨x,b,ex⟩:=h.nm i _ (ax (by rw[ao];exact hi));obtain⟨y,c,g⟩:=h.nm j _ (ax (by rw[ao];exact a));rw[ex,g] at e;have:=ade i (by omega) j (by omega) x b y c e;omega
def WY:(iD cs).mapIdx (λi d=>D.tup [.int i,d])=cs.zipIdx.map λx=>D.tup [.int x.2,.int x.1]:=by apply List.ext_getElem?;intro i;simp only [ah3,bh,List.getElem?_zipIdx];cases cs[i]?<;>simp
def WZ:∀ds Q,Jp ds Q->Zb 10 1 (wo om jI yL sG E2) ds Q:=λds Q ⟨cs,h1,h2,h3,q⟩=>by
 subst h1;unfold wo;have fB:=@afz;have fC:=@afA;generalize pB om jI yL=bB at fB |-;generalize pC sG=bC at fC |-;refine⟨rfl,bD _,bD _,bD _,iD cs,rfl,rfl,?_⟩;rw[WY];refine iQ (λx:Int×Nat=>D.tup [.int x.2,.int x.1]) (λpre xs B M=>pre++xs=cs.zipIdx/\∃(r:List Sk) (L:List (Pq×Nat)) (T U u v:Option D),L.length=pre.length/\I1 r L/\L1 r L M/\B=[aa (.lst (iD cs)),aa (.loc 0),aa (.loc 1),aa (.loc 2),T,U,u,v,ar,ar]) (λ_ _ _ _ _=>rfl) _ [] _ _ ⟨rfl,[],[],ar,ar,ar,ar,rfl,⟨.nil,(λ_ h=>nomatch h),(λj p h=>nomatch h)⟩,⟨rfl,rfl,rfl,(λ_ h=>nomatch h),eO⟩,rfl⟩ (λpre x xs B M w N hN=>?_) (λpre B M w=>?_)
 .obtain⟨I,r,L,T,U,u,v,Y,hi,A,rfl⟩:=w;have jK:pre.length+(xs.length+1)=cs.length:=by rw[<-ft (l:=cs) (i:=0),<-I,aE];rfl
  have s:x.2=pre.length:=by
   have:cs.zipIdx[pre.length]?=aa x:=by rw[<-I];simp
   rw[List.getElem?_zipIdx] at this;cases e:cs[pre.length]? with
   |none=>rw[e] at this;cases this
   |some c=>rw[e] at this;cases this;simp
  obtain⟨c,j⟩:=x;have s:j=L.length:=s.trans Y.symm;subst s;refine⟨rfl,rfl,fB h3 (by omega) hi A λAM L' J u v C PP h'=>hN _ _ ⟨by rw[bi];exact I,AM,L',aa (.int L.length),aa (.int c),u,v,by rw[C,Y,aE];rfl,PP,h',rfl⟩⟩
 .obtain⟨I,r,L,T,U,u,v,Y,hi,A,rfl⟩:=w;rw[bu] at I;have jK:L.length=cs.length:=by rw[Y,I,ft]
  have ja:∀p∈L.map aQ,p.ok:=λp w=>by obtain⟨x,s,rfl⟩:=bQ.mp w;exact hi.ok x s
  have Xs:r.length<100:=by have:=hi.ch.len ja;rw[ao] at this;omega
  have xu:L.map aQ≠[]:=λz=>by have:=congrArg cI z;rw[ao] at this;simp at this;rw[this] at jK;simp at jK;omega
  have W0:=hi.ch.code ja xu;have hM3:=(ak.mp A.er).1;have hnk:∀x∈L,x.2≠M.length:=λx s z=>by obtain⟨_,n,d⟩:=A.dr x s;have:=d.lt;omega
  have C:L1 r L (M++[aa (.lst [])]):=by have g:∀j,j<M.length->(M++[aa (OD.lst [])])[j]?=M[j]?:=λj hj=>aY hj;exact⟨(g 0 (by omega)).trans A.em,(g 1 (by omega)).trans A.es,(g 2 (by omega)).trans A.er,λx s=>let⟨a,n,b⟩:=A.dr x s;⟨a,n,b.of (g _ b.lt)⟩,A.nd⟩
  have o:(M++[aa (OD.lst [])])[M.length]?=aa (aa (.lst (([]:List (Pq×List Rw)).map pdD))):=by simp
  refine⟨bD _,L.map (λx=>skD x.1),L.map (λx=>.loc x.2),by rw[jh C.es];rfl,by rw[jh C.er];rfl,⟨rfl,rfl⟩,?_⟩;rw[ZZ];refine iQ (λx:Pq×Nat=>D.tup [skD x.1,.loc x.2]) (λpre xs B J=>pre++xs=L/\∃(R:List (Pq×List Rw)) (u v o9:Option D),R.map aQ=pre.map aQ/\(∀y∈R,Ar r y.1.i y.1.f y.2)/\L1 r L J/\J[M.length]?=aa (aa (.lst (R.map pdD)))/\B=[aa (.lst (iD cs)),aa (.loc 0),aa (.loc 1),aa (.loc 2),T,U,u,v,aa (.loc M.length),o9]) (λa b B J w=>?_) _ [] _ _ ⟨rfl,[],u,v,ar,rfl,(λ_ h=>nomatch h),C,o,rfl⟩ (λpre x xs B J w N hN=>?_) (λpre B J w=>?_)
  .obtain⟨_,R,u,v,o9,_,_,h,_,_⟩:=w;exact⟨by rw[jh h.es,jh C.es],by rw[jh h.er,jh C.er]⟩
  .obtain⟨O,R,u,v,o9,E,hA,h,o,rfl⟩:=w;have s:x∈L:=by rw[<-O];simp
   have hRl:R.length<=4:=by
    have e1:R.length=pre.length:=by have:=congrArg cI E;simpa using this
    have e2:pre.length<=L.length:=by rw[<-O];simp
    omega
   refine⟨rfl,rfl,rfl,rfl,fC Xs W0 s (hi.ok x s) h o (by omega) hnk hRl λrs M2 ha h2 ahe=>hN _ _ ⟨by rw[bi];exact O,R++[(x.1,rs)],_,_,_,?_,λy G=>?_,h2,ahe,rfl⟩⟩
   .rw[ba,ba,E];rfl
   .rcases bt.mp G with G|G
    .exact hA y G
    .rw[bj.mp G];exact ha
  .obtain⟨O,R,u,v,o9,E,hA,h,o,rfl⟩:=w;rw[bu] at O;subst O;have eRl:R.length=pre.length:=by have:=congrArg cI E;simpa using this
   have hg:Gd r 0 (R.map λx=>(x.1.O7,x.2)):=by refine ZU (by rw[E];exact hi.ch) (λy G=>ja _ (by rw[<-E];exact bQ.mpr ⟨y,G,rfl⟩)) hA ?_ (by omega) (by omega);have:=WX hi (by omega);rw[<-E,bx] at this;exact this
   cases cs with
   |nil=>simp at h2
   |cons c cs=>
    have f2:=@WV;have f3:=@afB;unfold pE;generalize om=gd at f2 |-;generalize E2=gm at f3 |-;refine⟨.int c,F2 (k:=0) rfl,⟨by decide,by decide⟩,f2 (many:=20) (by decide) λk M2 hk d2 l2 s2=>?_⟩;have hM':=(ak.mp o).1;refine f3 (show _=aa (aa (OD.lst ((R.map λx=>(x.1.O7,x.2)).map mx))) by rw[s2 _ hM',o,bx];rfl) ((s2 0 (by omega)).trans h.em) d2 (by omega) (λz=>by rw[z] at W0;obtain⟨_,hs,_⟩:=W0;cases hs) hg λH c' M3 hc' g' en hF=>?_;have ef:KZ M3 3 (.lst (Cn M2.length H))=.lst (H.map mx):=by show D.lst ((Cn M2.length H).map (KZ M3 2))=_;rw[Mj (ks:=r) (k:=k) (m:=0) _ _ _ hF.rows]
    show nl (KZ M3 3 (.lst (Cn M2.length H)))=ag/\Q (KZ M3 3 (.lst (Cn M2.length H)));rw[ef];exact⟨FJ.nH H,q H ⟨r,c',hc',g'⟩⟩
def ahf(h:i<=j)(q:Q (.bl ag) M):x4 (.int i) (.int j) M Q:=by show Q _ M;rw[decide_eq_true h];exact q
def ahg(h:¬i<=j)(q:Q (.bl au) M):x4 (.int i) (.int j) M Q:=by show Q _ M;rw[decide_eq_false h];exact q
def afC(h:i<j)(q:Q (.bl ag) M):Xo (.int i) (.int j) M Q:=by show Q _ M;rw[decide_eq_true h];exact q
def afD(h:¬i<j)(q:Q (.bl au) M):Xo (.int i) (.int j) M Q:=by show Q _ M;rw[decide_eq_false h];exact q
def afE(h:i≠j)(q:Q (.bl ag) M):Fx (.int i) (.int j) M Q:=by show Q _ M;rw[beq_false_of_ne h];exact q
def adf(h:i=j)(q:Q (.bl au) M):Fx (.int i) (.int j) M Q:=by subst h;show Q _ M;rw[beq_self_eq_true];exact q
def Ah (a:aw):MH:=λds Q X=>∃b:Int,ds=[.int b]/\(1<=b/\b<=64->Q .non)/\(¬(1<=b/\b<=64)->X ⟨a,[],[]⟩)
def F3:DV (Ah e):=λds P Q x y w v ⟨b,h,a,c⟩=>⟨b,h,λz=>w _ (a z),λz=>v _ (c z)⟩
def To:∀ds Q X,Ah i ds Q X->Cb 1 1 (pc (cl lX) i) ds Q X:=λds Q X ⟨b,h,j,g⟩=>by
 subst h;have c:=@ahf;have f:=@ahg;unfold pc;generalize x4=m at c f |-;refine⟨rfl,rfl,b,rfl,?_⟩;by_cases a:1<=b
 .by_cases e:b<=64
  .exact c a (c e (j ⟨a,e⟩))
  .exact c a (f e ⟨rfl,rfl,g λz=>e z.2⟩)
 .exact f a ⟨rfl,rfl,g λz=>a z.1⟩
def O9 (a:aw):MH:=λds Q X=>∃b s:Int,ds=[.int b,.int s]/\(1<=b/\b<=64/\0<=s/\s%b=0->Q .non)/\(¬(1<=b/\b<=64/\0<=s/\s%b=0)->X ⟨a,[],[]⟩)
def Ml:DV (O9 e):=λds P Q x y w v ⟨b,s,h,a,c⟩=>⟨b,s,h,λz=>w _ (a z),λz=>v _ (c z)⟩
def Z0:∀ds Q X,O9 e ds Q X->Cb 2 2 (re (Ah e) (cl lX) e) ds Q X:=λds Q X ⟨b,s,h,n,c⟩=>by
 subst h;have f:=@afC;have g:=@afD;have i:=@afE;have j:=@adf;unfold re;generalize Xo=o at f g |-;generalize Fx=p at i j |-;refine⟨rfl,rfl,b,rfl,λhb=>?_,λhb=>⟨rfl,c λz=>hb ⟨z.1,z.2.1⟩⟩⟩;refine⟨rfl,s,rfl,?_⟩;by_cases m:s<0
 .exact f m ⟨rfl,rfl,c λz=>by omega⟩
 .refine g m ⟨by omega,?_⟩;by_cases a:s%b=0
  .exact j a (n ⟨hb.1,hb.2,by omega,a⟩)
  .exact i a ⟨rfl,rfl,c λz=>a z.2.2.2⟩
abbrev Lay:=List (aX×List Int)
def vt(l:Lay):D:=.kE (kA l) (vA (λxs=>.lst (xs.map .int)) l)
def stD(l:List (aX×Int)):D:=.kE (kA l) (vA D.int l)
def up(b e:Int):Int:=(e+b- 1)/b*b
def MI(b:Int)(lay:Lay):Int->List aX->List (aX×Int)
 |_,[]=>[]
 |e,n::r=>(n,up b e)::MI b lay (up b e+((iS n lay).getD []).sum) r
theorem Bc(b:Int)(lay:Lay):∀(e:Int) (r:List aX),(MI b lay e r).map aQ=r
 |_,[]=>rfl
 |e,n::r=>by show n::_=_;rw[Bc]
theorem Bd:∀{l:List (aX×β)},w∉l.map aQ->iS w l=ar
 |[],_=>rfl
 | (x,v)::l,h=>by unfold iS;rw[if_neg λe=>h (by rw[e];exact aN)];exact Bd λz=>h (aB _ z)
def Q0 (c:CA):GP:=λds Q=>∃(br:Br) (b s:Int) (lay:Lay),ds=[pZ c br,.int b,.int s,vt lay]/\1<=b/\b<=64/\(br.map aQ).Nodup/\br.length<=100/\(∀p∈br,(iS p.1 lay).isSome=ag)/\Q (stD (MI b lay s (br.map aQ)))
def Pb:jD (Q0 c):=λds P Q w ⟨br,b,s,lay,h,a,e,f,g,i,q⟩=>⟨br,b,s,lay,h,a,e,f,g,i,w _ q⟩
def zO(xs:List Int):mY (xs.map D.int)=ag:=kZ (λ_=>rfl) xs
def adg{c:CA}:∀ds Q,Q0 c ds Q->lN 7 4 BQ ds Q:=λds Q ⟨br,b,s,lay,h,E,G,v,H,w,q⟩=>by
 subst h;refine⟨rfl,?_⟩;refine⟨kA br,_,rfl,trivial,?_⟩;have y:(kA br).map BI=br.map λp=>D.str p.1:=by unfold kA;rw[bx];rfl
 rw[y];refine iQ (λp:aX×List Rw=>D.str p.1) (λpre xs j M=>pre++xs=br/\∃(d:List (aX×Int)) (e:Int) (m:Option D),M=[aa (.kE (kA d) (vA D.int d))]/\d++MI b lay e (xs.map aQ)=MI b lay s (br.map aQ)/\j=[aa (pZ c br),aa (.int b),aa (.int s),aa (vt lay),aa (.loc 0),aa (.int e),m]) (λ_ _ _ _ _=>trivial) _ [] _ _ ⟨rfl,[],s,ar,rfl,rfl,rfl⟩ (λpre x xs j M n N A=>?_) (λpre j M n=>?_)
 .obtain⟨f,d,e,m,rfl,a,rfl⟩:=n;obtain⟨o,u⟩:=cZ.mp (w x (by rw[<-f];simp));have g:(MI b lay s (br.map aQ)).map aQ=br.map aQ:=Bc _ _ _ _;have r:x.1∉d.map aQ:=by have:=g▸v;rw[<-a,ba] at this;have:=(dB.mp this).2.2;exactλz=>this _ z x.1 (by rw[Bc];exact aN) rfl
  have i:=Bd r;have MD:d.length<=100:=by have:=congrArg cI a;have e2:=congrArg cI g;rw[aE] at this;rw[ao,ao] at e2;omega
  have B:wu x.1 (up b e) d=d++[(x.1,up b e)]:=by unfold wu;rw[i];rfl
  refine⟨⟨show 0<b by omega,show b<18446744073709551616 by omega⟩,.inr ⟨by omega,by omega⟩,_,_,.inr x.1,rfl,rfl,by unfold kA;rw[ao,bp];omega,?_⟩;show jl 5 (iA jn (iA jS (hX 4) (hX 6)) (i5 NG (hV (iA jS (hX 3) (hX 6)) ib))) _ [aa (pZ c br),aa (.int b),aa (.int s),aa (vt lay),aa (.loc 0),aa (.int e),aa (.str x.1)] [aa (OD.kE (rY (.inr x.1) (D.int (up b e)) (kA d) (vA D.int d)).1 (rY (.inr x.1) (D.int (up b e)) (kA d) (vA D.int d)).2)];rw[G7];rw[B];have C:iS x.1 (d++[(x.1,up b e)])=aa (up b e):=by rw[EW,i,if_pos rfl];rfl
  refine⟨.inr x.1,.int (up b e),rfl,by rw[mW,C];rfl,.inr x.1,.lst (o.map .int),rfl,by rw[mW,u];rfl,o,rfl,?_⟩;refine A _ _ ⟨by rw[<-f,bi];rfl,d++[(x.1,up b e)],_,_,rfl,?_,rfl⟩;rw[<-a,bi];show d++((x.1,up b e)::MI b lay (up b e+o.sum) (xs.map aQ))=d++((x.1,up b e)::MI b lay (up b e+((iS x.1 lay).getD []).sum) (xs.map aQ));rw[u];rfl
 .obtain⟨f,d,e,m,rfl,a,rfl⟩:=n;rw[show([]:List (aX×List Rw)).map aQ=[] from rfl] at a;have a:d++[]=_:=a;rw[bu] at a;subst a;refine⟨?_,q⟩;show mY (vA D.int _)=ag;unfold vA;exact kZ (λ_=>rfl) _
def bOk (b s:Int):Prop:=1<=b/\b<=64/\0<=s/\s%b=0
def Ai(lay:Lay):nl (vt lay)=ag:=by exact kZ (f:=λx:aX×List Int=>D.lst _) (λx=>zO x.2) lay
def Aj(a:List Pt):(jp a).map aQ=(FJ.sE a).map aQ:=by unfold jp;rw[bx];rfl
def CO(h:(a.map aQ).Nodup):((jp a).map aQ).Nodup:=by rw[Aj];exact((FJ.jR a).map aQ).nodup_iff.mpr h
def E3(h:p∈jp a):∃q∈a,p=(q.1,FJ.bare q.2):=by obtain⟨q,b,rfl⟩:=bQ.mp h;exact⟨q,(FJ.jR a).mem_iff.mp b,rfl⟩
def Jr(a:List Pt):(jp a).length=a.length:=by unfold jp;rw[ao,(FJ.jR a).length_eq]
def Be(a:List Pt):List aX:=(jp a).map aQ
def Ak (c:aw):MH:=λds Q X=>∃(a:List Pt) (b s:Int) (lay:Lay),ds=[.lst (a.map mx),.int b,.int s,vt lay]/\xz a/\(∀p∈a,(iS p.1 lay).isSome=ag)/\(bOk b s->Q (stD (MI b lay s (Be a))))/\(¬bOk b s->X ⟨c,[],[]⟩)
def F4:DV (Ak i):=λds P Q x y w v ⟨a,b,s,lay,h,c,e,f,g⟩=>⟨a,b,s,lay,h,c,e,λz=>w _ (f z),λz=>v _ (g z)⟩
def adh(l:List (aX×Int)):nl (stD l)=ag:=by exact kZ (λ_=>rfl) l
def Tp:∀ds Q X,Ak f ds Q X->Cb 6 4 (Lo (cl (ww c)) (O9 f) (cl (Q0 c))) ds Q X:=λds Q X ⟨a,b,s,lay,h,e,g,i,j⟩=>by
 subst h;refine⟨rfl,FJ.wt a,a,rfl,e,rfl,rfl,?_⟩;refine⟨rfl,b,s,rfl,λhb=>?_,λhb=>⟨rfl,j hb⟩⟩;refine⟨?_,jp a,b,s,lay,rfl,hb.1,hb.2.1,CO e.lk.G1.nd,by rw[Jr];have:=e.lk.G1.hi;omega,λp m=>?_,adh _,i hb⟩
 .show(nl _&&(ag&&(ag&&(nl _&&ag))))=ag;rw[FJ.wv,Ai];rfl
 .obtain⟨q,n,rfl⟩:=E3 m;exact g q n
def Js (c:aw):MH:=λds Q X=>∃(a:List Pt) (b:Int),ds=[.lst (a.map mx),.int b]/\xz a/\¬(1<=b/\b<=64)/\X ⟨c,[],[]⟩
def Jt:DV (Js f):=λds P Q x y w v ⟨a,b,h,c,e,q⟩=>⟨a,b,h,c,e,v _ q⟩
def G0:GN:=λ_ _ _=>False
def W1:∀ds Q X,Js e ds Q X->Cb 4 2 (wj (cl (ww c)) (Ah e) G0) ds Q X:=λds Q X ⟨a,b,h,f,g,q⟩=>by subst h;exact⟨rfl,FJ.wt a,a,rfl,f,rfl,rfl,rfl,b,rfl,λz=>absurd z g,λ_=>⟨rfl,q⟩⟩
structure XB(K:bz)(PE BB NL:aw):Prop where
 sub:NY K BB PE
 get:Sq K BB
 isB:dt K (.ref BB) (.ref BB)=aa ag
 isN:dt K (.ref BB) (.ref NL)=aa au
def pk:GP:=λds Q=>∃(a:List Pt) (b s:Int) (lay:Lay) (way:Int),ds=[.lst (a.map mx),.int b,.int s,vt lay,.int way]/\xz a/\(∀p∈a,(iS p.1 lay).isSome=ag)/\(way=0/\¬(1<=b/\b<=64)\/way=1/\¬bOk b s)/\Q (.bl ag)
def E4:jD pk:=λds P Q w ⟨a,b,s,lay,way,h,c,e,f,q⟩=>⟨a,b,s,lay,way,h,c,e,f,w _ q⟩
def Pc{PE a e:aw}(x:XB K PE a e):∀ds Q,pk ds Q->lN 7 5 (xN K PE (Js a) (Ak a) a e) ds Q:=λds Q ⟨f,b,s,lay,way,h,g,j,m,q⟩=>by
 subst h;have i:∀(M:Ms),(NY K a PE/\(jl 5 (hX 6)) (dEd 6 {nx:=(iN (vJ (i5 (VJ K) (hV (hX 5) (hV (dC (.cls a)) ib))) (Gp (i5 (VJ K) (hV (hX 5) (hV (dC (.cls e)) ib)))))) ⟨λ_ _=>Q .non,λd c=>nl (fz c d)=ag/\Q (fz c d),λ_ _=>False,λ_ _=>False⟩,rt:=λd c=>nl (fz c d)=ag/\Q (fz c d),bk:=λ_ _=>False,ct:=λ_ _=>False}) [aa (.lst (f.map mx)),aa (.int b),aa (.int s),aa (vt lay),aa (.int way),aa .non,aa (.exc a [] [])] M):=by intro M;refine⟨x.sub,?_⟩;exact⟨ag,x.get,x.isB,au,x.get,x.isN,rfl,q⟩
 refine⟨rfl,?_⟩;rcases m with⟨rfl,hb⟩|⟨rfl,hb⟩
 .refine⟨by show(mY _&&(ag&&ag))=ag;rw[FJ.nH];rfl,f,b,rfl,g,hb,?_⟩;exact i _
 .refine⟨?_,f,b,s,lay,rfl,g,j,λz=>absurd z hb,λ_=>i _⟩;show(mY _&&(ag&&(ag&&(nl _&&ag))))=ag;rw[FJ.nH,Ai];rfl
def mU:GP:=λds Q=>∃rs:List Rw,ds=[.lst (rs.map Rw.d),.str mX]/\rs.length<=1000/\Q (.lst ((FJ.bare rs).map Rw.d))
def ri:jD mU:=λds P Q w ⟨rs,h,a,q⟩=>⟨rs,h,a,w _ q⟩
def yG:∀ds Q,mU ds Q->lN 2 2 xL ds Q:=λds Q ⟨rs,h,c,q⟩=>by
 subst h;refine⟨rfl,_,rfl,rfl,?_⟩;refine jk (st:=λa=>vw a _=vw [] _) Rw.d Rw.d (λr=>!r.jQ) rfl rs [] (by rw[bp];show 0+_<=_;omega) (λr e f b=>?_) ⟨?_,q⟩
 .have:=b [aa r.d,aa _] rfl;cases r<;>exact⟨_,rfl,this⟩
 .exact FJ.wq _
theorem Hb:∀a:List Pt,yi (a.map mx) (a.map aQ)
 |[]=>trivial
 |p::a=>⟨⟨_,rfl⟩,Hb a⟩
def Ju:GP:=λds Q=>∃a:List Pt,ds=[.lst (a.map mx)]/\(a.map aQ).Nodup/\a.length<64/\(∀p∈a,p.2.length<=1000)/\Q (.lst ((jp a).map mx))
def Jv:jD Ju:=λds P Q w ⟨a,h,b,c,e,q⟩=>⟨a,h,b,c,e,w _ q⟩
def W2:∀ds Q,Ju ds Q->lN 1 1 (ED (cl mU)) ds Q:=λds Q ⟨a,h,b,c,e,q⟩=>by
 subst h;refine⟨rfl,_,rfl,rfl,?_⟩;refine iY (st:=λf=>vw f _=vw [] _) mx (λp=>mx (p.1,FJ.bare p.2)) rfl a [] (by rw[bp];show 0+_<=_;omega) (λp g m i=>?_) ?_
 .refine⟨rfl,rfl,?_,p.2,rfl,e p g,aq rfl,i _ rfl⟩;show(mY _&&(ag&&ag))=ag;rw[FJ.wq];rfl
 .rw[eA];have em:a.map (λp=>mx (p.1,FJ.bare p.2))=(a.map λp=>((p.1,FJ.bare p.2):Pt)).map mx:=by rw[bx];rfl
  have j:a.map aQ=(a.map λp=>((p.1,FJ.bare p.2):Pt)).map aQ:=by rw[bx];rfl
  have es:lR (a.map aQ) (a.map λp=>mx (p.1,FJ.bare p.2))=(jp a).map mx:=by rw[FJ.G4];unfold jp FJ.sE;rw[bx];rfl
  refine⟨_,a.map aQ,rfl,by rw[em,j];exact Hb _,b,by rw[ao];exact c,?_⟩;rw[es];exact⟨FJ.nH _,q⟩
def Hc:GN:=λds M Q=>∃(xs:List Int) (k n:Nat),ds=[.lst (xs.map .int),.loc k]/\xs≠[]/\Dr M k n/\∀(x:Int) (b:Nat) (a:Ms),Dr a k b->p0 M a k->Q (.int x) a
def Pd:l8 Hc:=λds M P Q w ⟨xs,k,n,h,c,e,q⟩=>⟨xs,k,n,h,c,e,λx f g a b=>w _ _ (q x f g a b)⟩
def adi:∀ds M Q,Hc ds M Q->vf 2 2 (GW jI) ds M Q:=λds M Q ⟨xs,k,n,h,a,b,q⟩=>by subst h;have g:=List.length_pos_iff.mpr a;have f:=@wx;generalize jI=i at f |-;refine⟨rfl,xs.length,by show aa _=_;rw[ao],f (by omega) b λr M1 c m _ e s1=>?_⟩;obtain⟨j,rfl⟩:=cu c;exact WC (ax (by omega)) (q _ _ M1 e s1)
def Zo:Rw->List Int
 |.jump _|.jumpif _ _|.call _|.load _ _ _|.jumpby _ _=>[2,3]
 |.set _ _|.alike _ _ _=>[5]
 |.numbers ns=>[2+4*ns.length]
 |.table ws=>[2+2*ws.length]
 |_=>[1]
def Z1(r:Rw):Zo r≠[]:=by cases r<;>exact di _ _
def AR:GP:=λds Q=>∃r:Rw,ds=[r.d]/\Q (.lst ((Zo r).map .int))
def Mm:jD AR:=λds P Q w ⟨r,h,q⟩=>⟨r,h,w _ q⟩
def Z2:∀ds Q,AR ds Q->lN 1 1 xM ds Q:=λds Q ⟨r,h,q⟩=>by
 subst h;cases r with
 |numbers ns=>
  walk_at "d";rw[ao];exact q
 |table ns=>
  walk_at "d";rw[ao];exact q
 |_=>
  refine⟨rfl,?_⟩;walk_at "d";exact q
mutual
theorem E5:∀d:D,L3.pl d=ag->AD d d=ag
 |.non,_=>rfl
 |.bl b,_=>by cases b<;>rfl
 |.int i,_=>by unfold AD;simp
 |.str s,_=>by unfold AD;simp
 |.tup ds,h=>by unfold AD;unfold L3.pl at h;exact Bf ds h
 |.lst ds,h=>by unfold AD;unfold L3.pl at h;exact Bf ds h
 |.ty _,h=>by unfold L3.pl at h;cases h
 |.rS ns,h=>by unfold L3.pl at h;cases h
 |.cls _,h=>by unfold L3.pl at h;cases h
 |.loc _,h=>by unfold L3.pl at h;cases h
 |.kE _ _,h=>by unfold L3.pl at h;cases h
 |.ins _ _ _,h=>by unfold L3.pl at h;cases h
 |.exc _ _ _,h=>by unfold L3.pl at h;cases h
theorem Bf:∀ds:List D,L3.Cz ds=ag->Fw ds ds=ag
 |[],_=>rfl
 |d::ds,h=>by unfold Fw;unfold Cz at h;rw[aZ] at h;rw[E5 d h.1,Bf ds h.2];rfl
end
def Gd.rev(g:Gd e c a):Gd e c a.reverse:=by
 have m:∀{p:Pt},p∈a.reverse->p∈a:=λh=>List.mem_reverse.mp h;have sp:(Mb _).Perm (Mb a):=(List.reverse_perm a).flatMap_right _;exact⟨by rw[List.length_reverse];exact g.lo,by rw[List.length_reverse];exact g.hi,λp h=>g.w p (m h),by rw[List.map_reverse];exact(List.reverse_perm _).nodup_iff.mpr g.nd1,λp h=>g.o1 p (m h),λp h=>g.o2 p (m h),λp h=>g.m p (m h),λp h=>g.ok p (m h),λp h=>g.ends p (m h),λp h=>g.mks p (m h),λp h=>g.al p (m h),
  λi s h=>let⟨p,f,b,hb⟩:=g.has i s h;⟨p,List.mem_reverse.mpr f,b,hb⟩,sp.nodup_iff.mpr g.nd,by rw[sp.length_eq];exact g.few,g.Tl⟩
def W3(nd:(a.map aQ).Nodup):FJ.sE a.reverse=FJ.sE a:=by
 have b:∀l:List Pt,(l.map aQ).zip l=l.map λp=>(p.1,p):=λl=>by
  induction l with
  |nil=>rfl
  |cons x l c=>rw[bq,cR,c];rfl
 unfold FJ.sE lR;congr 1;refine L3.HV ((L3.qQ _ _).trans ?_) (L3.yg _ _) (BG nd);rw[b,b];exact(List.reverse_perm a).map _
def Z3(nd:(a.map aQ).Nodup):Be a.reverse=Be a:=by unfold Be;rw[Aj,Aj,W3 nd]
def afF(f:β->D){i:Nat}(a:(kA l)[i]?=aa k)(hd:(vA f l)[i]?=aa d):∃x∈l,k=.inr x.1/\d=f x.2:=by
 unfold kA at a;unfold vA at hd;rw[bh] at a hd;cases e:l[i]? with
 |none=>rw[e] at a;cases a
 |some x=>rw[e] at a hd;cases a;cases hd;exact⟨x,bA e,rfl,rfl⟩
def eqv_refl(f:β->D)(a:∀x,L3.pl (f x)=ag)(hd:∀x,dp (f x)<=60)(nd:(l.map aQ).Nodup):NO (kA l) (vA f l) (kA l) (vA f l):=by refine⟨rfl,λi k d b c=>?_⟩;obtain⟨x,e,rfl,rfl⟩:=afF f b c;exact⟨f x.2,by rw[mW,CL nd (e)];rfl,⟨a _,a _,hd _,hd _⟩,E5 _ (a _)⟩
def adj(hw:qF p.1=ag)(c:∀r∈p.2,r.ok=ag):L3.pl (mx p)=ag/\dp (mx p)<=5:=by
 obtain⟨a,b⟩:=aaZ c;constructor
 .show(ahC p.1&&(L3.Cz _&&ag))=ag;rw[xp hw,a];rfl
 .show max 0 (max (Fm _+1) 0)+1<=5;omega
theorem Q1:∀{ps:List Pt},(∀p∈ps,qF p.1=ag/\∀r∈p.2,r.ok=ag)->L3.Cz (ps.map mx)=ag/\Fm (ps.map mx)<=5
 |[],_=>⟨rfl,bD _⟩
 |p::ps,h=>by obtain⟨a,b⟩:=Q1 λq e=>h q (aB _ e);obtain⟨c,d⟩:=adj (h p aN).1 (h p aN).2;rw[bq];unfold L3.Cz Fm;rw[a,c];exact⟨rfl,Nat.max_le.mpr ⟨d,b⟩⟩
def E6:GP:=λds Q=>∃(xs:List Int) (k:Nat),ds=[.rS xs,.int k]/\∀c:Int,Q (.int c)
def Mn:jD E6:=λds P Q w ⟨xs,k,h,q⟩=>⟨xs,k,h,λc=>w _ (q c)⟩
def Z4:∀ds Q,E6 ds Q->lN 2 2 xJ ds Q:=λds Q ⟨xs,k,h,q⟩=>by
 subst h;have b:=@afC;have c:=@afD;refine⟨rfl,xs.length,rfl,?_⟩;by_cases a:(k:Int)<xs.length
 .refine b a ⟨xs[k]'(by omega),F2 (ax (by omega)),rfl,q _⟩
 .exact c a ⟨rfl,q 0⟩
def Q2(hb:1<=b)(h:e%b=0):up b e=e:=by
 unfold up;have e1:e+b- 1=(b- 1)+b*(e/b):=by have:=Int.mul_ediv_add_emod e b;omega
 rw[e1,Int.add_mul_ediv_left _ _ (by omega),Int.ediv_eq_zero_of_lt (by omega) (by omega),Int.zero_add,Int.mul_comm];omega
def Q3(hb:1<=b)(h:e%b≠0):up b (e+1)=up b e/\e<up b e:=by
 have f:=ahV e (show b≠0 by omega);have g:=Int.emod_lt_of_pos e (show 0<b by omega);have hm:=Int.mul_ediv_add_emod e b;have key:∀r:Int,1<=r->r<=b->(b*(e/b)+r+b- 1)/b*b=b*(e/b)+b:=by intro r i j;rw[show b*(e/b)+r+b- 1=(r- 1)+b*(e/b+1) by rw[Int.mul_add];omega,Int.add_mul_ediv_left _ _ (by omega),Int.ediv_eq_zero_of_lt (by omega) (by omega),Int.zero_add,Int.add_mul,Int.mul_comm (e/b)];omega
 have a:=key (e%b) (by omega) (by omega);have c:=key (e%b+1) (by omega) (by omega);unfold up;rw[hm] at a;rw[show b*(e/b)+(e%b+1)=e+1 by omega] at c;rw[a,c];exact⟨rfl,by omega⟩
abbrev GS(a:aw):GN:=cl λds Q=>Ak a ds Q λ_=>False
def adk{K:bz}{x0 c f g h i j o p:Option D}{n:aX}{b s e:Int}{lay:Lay}{st:List (aX×Int)}{xs:List Int}{M:Ms}{E:jZ}(hb:1<=b)(y:iS n st=aa (up b e))(z:iS n lay=aa xs)
(q:E.nx [x0,c,f,g,aa (vt lay),aa (.str n),h,i,aa (.int b),aa (.int s),j,o,p,aa (stD st),aa (.int (up b e+xs.sum))] M):
  lwW K E [x0,c,f,g,aa (vt lay),aa (.str n),h,i,aa (.int b),aa (.int s),j,o,p,aa (stD st),aa (.int e)] M:=by
 have u:=@afE;have r:=@adf;unfold lwW;generalize Fx=A at u r |-;have B:∀a:Int,up b a=up b e->a%b=0->(iz (js (Ft (iu (iA A (Ao fw KQ (hX 13) (hV (hX 5) ib)) (hX 14))) (iu (i5 (mj K) (hV (iA jS (hX 13) (hX 5)) (hV (dC (.ty ix)) ib))))) (iN (dC (.bl au))) iP)
   (jl 14 (iA jn (hX 14) (i5 NG (hV (iA jS (hX 4) (hX 5)) ib))))) E [x0,c,f,g,aa (vt lay),aa (.str n),h,i,aa (.int b),aa (.int s),j,o,p,aa (stD st),aa (.int a)] M:=by
  intro a ha hm;rw[Q2 hb hm] at ha;subst ha;have v1:nK (.inr n) (kA st) (vA D.int st)=aa (.int (up b e)):=by rw[mW,y];rfl
  have C:nK (.inr n) (kA lay) (vA (λxs=>D.lst (xs.map .int)) lay)=aa (.lst (xs.map .int)):=by rw[mW,z];rfl
  refine⟨rfl,.inr n,rfl,?_⟩;rw[v1];refine r rfl ?_;refine⟨.inr n,.int (up b e),rfl,v1,au,rfl,?_⟩;exact⟨.inr n,_,rfl,C,xs,rfl,q⟩
 refine⟨(up b e- e).toNat+1,ye (λm v w=>w=M/\∃a:Int,up b a=up b e/\a<=up b e/\m=(up b e- a).toNat/\v=[x0,c,f,g,aa (vt lay),aa (.str n),h,i,aa (.int b),aa (.int s),j,o,p,aa (stD st),aa (.int a)]) (λm v w G N H=>?_) _ _ _ ⟨rfl,e,rfl,?_,rfl,rfl⟩ _ (eW _)⟩
 .obtain⟨rfl,a,x,J,L,rfl⟩:=G;refine⟨show 0<b by omega,?_⟩;by_cases hm:a%b=0
  .exact r hm (B a x hm)
  .obtain⟨I,O⟩:=Q3 hb hm;exact u hm (H _ _ _ (show(up b e- (a+1)).toNat<m by omega) ⟨rfl,a+1,I.trans x,by omega,rfl,rfl⟩)
 .by_cases hm:e%b=0
  .rw[Q2 hb hm];exact Int.le_refl _
  .exact Int.le_of_lt (Q3 hb hm).2
theorem WW.lb(h:WW a):xz a:=let⟨_,_,hc,g⟩:=h;g.lb hc
theorem WW.rev(h:WW a):WW a.reverse:=let⟨b,c,hc,g⟩:=h;⟨b,c,hc,g.rev⟩
def adl(nd:(l.map aQ).Nodup):NO (kA l) (vA D.int l) (kA l) (vA D.int l):=eqv_refl D.int (λ_=>rfl) (λ_=>bD _) nd
def Z7{l:Lay}(nd:(l.map aQ).Nodup):NO (kA l) (vA (λxs=>D.lst (xs.map .int)) l) (kA l) (vA (λxs=>D.lst (xs.map .int)) l):=eqv_refl (λxs:List Int=>D.lst _) (λx=>Me x) (λx=>by show Fm _+1<=60;rw[Mf];decide) nd
def adm{a:List Pt}{b s:Int}{lay:Lay}{M:Ms}{E:jZ}(f:WW a)(hb:bOk b s)(u:∀p∈a,(iS p.1 lay).isSome=ag)(q:E.rt (.bl ag) M):
  lwD K (GS Q) E [x0,aa (.lst (a.map mx)),v,aa (.lst ((jp a).map mx)),aa (vt lay),w,y,A,aa (.int b),aa (.int s),B,C,G,aa (stD (MI b lay s (Be a))),ar] M:=by
 have H:=@adk K;have nd:=CO f.lb.lk.G1.nd;refine⟨_,rfl,rfl,?_⟩;refine iQ mx (λpre xs g i=>i=M/\pre++xs=jp a/\∃(d:List _) (e:Int) (j m:Option D),d++MI b lay e (xs.map aQ)=MI b lay s (Be a)/\g=[x0,aa _,v,aa _,aa _,j,m,A,aa (.int b),aa (.int s),B,C,G,aa _,aa (.int e)]) (λ_ _ _ _ _=>rfl) _ [] _ _ ⟨rfl,rfl,[],s,w,y,rfl,rfl⟩ (λpre x xs g i h N I=>?_) (λpre g i h=>?_)
 .obtain⟨rfl,n,d,e,j,m,o,rfl⟩:=h;obtain⟨p,r,J⟩:=E3 (show x∈jp a by rw[<-n];simp);obtain⟨T,c⟩:=cZ.mp (u p r);rw[show p.1=x.1 by rw[J]] at c;have L:iS x.1 (MI b lay s (Be a))=aa (up b e):=by refine CL (by rw[Bc];exact nd) ?_;rw[<-o];exact bL _ aN
  refine⟨rfl,rfl,H hb.1 L c (I _ _ ⟨rfl,by rw[bi];exact n,d++[(x.1,up b e)],_,_,_,?_,rfl⟩)⟩;rw[<-o,bi];show d++((x.1,up b e)::MI b lay _ _)=d++((x.1,up b e)::MI b lay _ _);rw[c];rfl
 .obtain⟨rfl,n,d,e,j,m,o,rfl⟩:=h;refine⟨_,rfl,?_,a.reverse,b,s,lay,?_,f.rev.lb,λp O=>u p (List.mem_reverse.mp O),λ_=>?_,λz=>z hb⟩
  .show(mY _&&(ag&&(ag&&(nl _&&ag))))=ag;rw[<-List.map_reverse,FJ.nH,Ai];rfl
  .rw[List.map_reverse];rfl
  .rw[Z3 f.lb.lk.G1.nd];exact⟨adl (by rw[Bc];exact nd),q⟩
def lyD(x:aX×List Int):D:=.tup [.str x.1,.lst (x.2.map .int)]
def Tq(lay:Lay):r6 (kA lay) (vA (λxs=>D.lst (xs.map .int)) lay)=lay.map lyD:=by
 unfold r6 kA vA;induction lay with
 |nil=>rfl
 |cons x l a=>rw[bq,bq,dW,a];rfl
def adn{K:bz}{e:aw}{x0 n o r u v:Option D}{c:List Pt}{b s:Int}{lay:Lay}{M:Ms}{E:jZ}(g:WW c)(hb:bOk b s)(i:∀p∈c,(iS p.1 lay).isSome=ag)(hn:lay.map aQ=Be c)(q:E.rt (.bl ag) M):
  lwC K (GS e) E [x0,aa (.lst (c.map mx)),n,aa (.lst ((jp c).map mx)),aa (vt lay),o,r,u,aa (.int b),aa (.int s),v,ar,ar,ar,ar] M:=by
 have fd:=@adm K e;have lb:=g.lb;have nd:(lay.map aQ).Nodup:=by rw[hn];exact CO lb.lk.G1.nd
 have G:lay.length<=12:=by have:=congrArg cI hn;unfold Be at this;rw[ao,ao,Jr] at this;have:=lb.lk.G1.hi;omega
 unfold lwC;generalize lwD K (GS e)=H at fd |-;refine⟨kA lay,_,rfl,trivial,?_⟩;rw[Tq];refine iY (st:=λ_=>True) lyD lyD trivial lay [] (by rw[bp];show 0+_<=_;omega) (λx y A f=>⟨rfl,rfl,aq rfl,f [aa (.str x.1),aa (.lst (x.2.map .int))] rfl⟩) ?_;rw[eA];have e1:lay.map lyD=(lay.map λx=>((.inr x.1,D.lst (x.2.map .int)):Key×D)).map prD:=by rw[bx];rfl
 have e2:(lay.map λx=>((.inr x.1,D.lst (x.2.map .int)):Key×D)).map (·.1)=kA lay:=by rw[bx];rfl
 have e3:(lay.map λx=>((.inr x.1,D.lst (x.2.map .int)):Key×D)).map (·.2)=vA (λxs=>D.lst (xs.map .int)) lay:=by rw[bx];rfl
 refine⟨lay.map λx=>(.inr x.1,D.lst (x.2.map .int)),congrArg D.lst e1,?_,?_⟩
 .rw[e2];unfold kA;have:lay.map (λx=>(dg x.1:Key))=(lay.map aQ).map dg:=by rw[bx];rfl
  rw[this];exact ahR _ (λa b h z=>h (dg.inj z)) nd
 rw[e2,e3];refine⟨_,rfl,rfl,?_⟩;refine iY (st:=λB=>vw B (D.lst (c.map mx))=vw M (D.lst (c.map mx))) mx mx rfl c [] (by rw[bp];have:=lb.lk.G1.hi;show 0+_<=_;omega) (λx y A f=>⟨rfl,rfl,aq rfl,f [aa (.str x.1),aa (.lst (x.2.map Rw.d))] rfl⟩) ?_;rw[eA];refine⟨aq rfl,?_⟩;have j:=@adf;obtain⟨pp,I⟩:=Q1 (ps:=c) λp m=>⟨(lb.lk.G1.all p m).w,lb.lk.rows p m⟩;have C:(kA (MI b lay s (Be c))).length=((jp c).map mx).length:=by have:=congrArg cI (Bc b lay s (Be c));unfold Be at this |-;rw[ao,ao] at this;unfold kA;rw[ao,ao,this]
 generalize Fx=J at j |-;refine⟨_,rfl,_,rfl,?_,c,b,s,lay,rfl,lb,i,λ_=>?_,λz=>z hb⟩
 .show(mY (c.map mx)&&(ag&&(ag&&(nl (vt lay)&&ag))))=ag;rw[FJ.nH,Ai];rfl
 refine⟨aq rfl,⟨⟨pp,pp,?_,?_⟩,E5 (.lst (c.map mx)) pp⟩,⟨_,_,_,_,rfl,rfl,Z7 nd⟩,?_⟩
 .show Fm (c.map mx)+1<=60;omega
 .show Fm (c.map mx)+1<=60;omega
 refine⟨ag,rfl,_,rfl,_,rfl,j (by rw[C]) ?_⟩;exact fd g hb i q
def afG{lay:Lay}{way:Int}{M:Ms}{Q:DK}(c:WW a)(e:∀p∈a,(iS p.1 lay).isSome=ag)(h:way=0/\¬(1<=b/\b<=64)\/way=1/\¬bOk b s)(q:Q (.bl ag) M):cl pk [.lst (a.map mx),.int b,.int s,vt lay,.int way] M Q:=by refine⟨?_,a,b,s,lay,way,rfl,c.lb,e,h,q⟩;show(mY _&&(ag&&(ag&&(nl _&&(ag&&ag)))))=ag;rw[FJ.nH,Ai];rfl
def ado{a:List Pt}{b c:Int}{lay:Lay}{M:Ms}{E:jZ}(j:WW a)(hb:1<=b/\b<=64)(m:∀p∈a,(iS p.1 lay).isSome=ag)(q:E.rt (.bl ag) M):
  lwX (cl pk) E [x0,aa (.lst (a.map mx)),n,o,aa (vt lay),r,s,aa (.int c),aa (.int b),u,C,v,w,e,f] M:=by
 have fr:=@afG;unfold lwX;generalize cl pk=g at fr |-;refine⟨aq rfl,⟨by decide,by decide⟩,⟨by decide,by decide,by decide⟩,show(0:Int)<10^9 by decide,aq rfl,aq rfl,aq rfl,aq rfl,aq rfl,?_⟩;refine⟨⟨by decide,by decide⟩,show(0:Int)<5 by decide,?_⟩;show∃d,Fk _ (c/1024%5)=aa d/\_;have A:c/1024%5=0\/c/1024%5=1\/c/1024%5=2\/c/1024%5=3\/c/1024%5=4:=by omega
 have two:∀x:Int,¬(1<=x/\x<=64)->(iz (js (Ay (iu (iA vy (iA jS (hX 10) (dC (.int 1))) (dC (.int 0)))) (oA (iu (i5 g (hV (hX 1) (hV (iA jS (hX 10) (dC (.int 0))) (hV (dC (.int 0)) (hV (hX 4) (hV (dC (.int 0)) ib))))))))) (iN (dC (.bl au))) iP)
   (iN (i5 g (hV (hX 1) (hV (iA jS (hX 10) (dC (.int 0))) (hV (iA jS (hX 10) (dC (.int 1))) (hV (hX 4) (hV (dC (.int 1)) ib)))))))) E [x0,aa (.lst (a.map mx)),n,o,aa (vt lay),r,s,aa (.int c),aa (.int b),u,aa (.tup [.int x,.int 0]),v,w,e,f] M:=by intro x i;refine⟨_,rfl,_,rfl,fr j m (.inl ⟨rfl,i⟩) ⟨_,rfl,_,rfl,fr j m (.inr ⟨rfl,λz=>i ⟨z.1,z.2.1⟩⟩) q⟩⟩
 have one:∀x y:Int,y≠0->¬bOk x y->(iz (js (Ay (iu (iA vy (iA jS (hX 10) (dC (.int 1))) (dC (.int 0)))) (oA (iu (i5 g (hV (hX 1) (hV (iA jS (hX 10) (dC (.int 0))) (hV (dC (.int 0)) (hV (hX 4) (hV (dC (.int 0)) ib))))))))) (iN (dC (.bl au))) iP)
   (iN (i5 g (hV (hX 1) (hV (iA jS (hX 10) (dC (.int 0))) (hV (iA jS (hX 10) (dC (.int 1))) (hV (hX 4) (hV (dC (.int 1)) ib)))))))) E [x0,aa (.lst (a.map mx)),n,o,aa (vt lay),r,s,aa (.int c),aa (.int b),u,aa (.tup [.int x,.int y]),v,w,e,f] M:=by intro x y B i;refine⟨_,rfl,?_⟩;show(if(y==0)=ag then _ else _);rw[if_neg (by rw[beq_iff_eq];exact B)];exact⟨_,rfl,_,rfl,fr j m (.inr ⟨rfl,i⟩) q⟩
 rcases A with h|h|h|h|h<;>rw[h]
 .exact⟨_,rfl,two 0 (by decide)⟩
 .exact⟨_,rfl,two _ (by omega)⟩
 .exact⟨_,rfl,two _ (by omega)⟩
 .refine⟨_,rfl,one _ _ (by decide) λz=>?_⟩;have:=z.2.2.2;rw[Int.emod_eq_of_lt (by decide) (by omega)] at this;cases this
 .exact⟨_,rfl,one _ _ (by omega) λz=>by have:=z.2.2.1;omega⟩
def adp{e:aw}{xs:List Int}{h i j:Option D}{a:List Pt}{lay:Lay}{b:Nat}{M:Ms}{E:jZ}(f:WW a)(g:∀p∈a,(iS p.1 lay).isSome=ag)(hn:lay.map aQ=Be a)(m:M[b]?=aa (aa (.kE (kA lay) (vA (λxs=>D.lst (xs.map .int)) lay))))(q:∀n,E.rt (.bl ag) n):
  lwB K (cl E6) (cl pk) (GS e) E [aa (.rS xs),aa (.lst (a.map mx)),h,aa (.lst ((jp a).map mx)),aa (.loc b),i,j,ar,ar,ar,ar,ar,ar,ar,ar] M:=by
 have o:=@ado;have fc:=@adn K e;unfold lwB;refine⟨b,_,_,rfl,m,rfl,xs,0,rfl,λc=>?_⟩;refine⟨⟨by decide,by decide⟩,show(0:Int)<64 by decide,?_⟩;have hb:1<=1+c/4%64/\1+c/4%64<=64:=by omega
 refine⟨⟨by decide,by decide⟩,⟨by decide,by decide,by decide⟩,show(0:Int)<10^6 by decide,.inl ⟨by omega,by omega⟩,?_⟩;refine⟨show(0:Int)<4 by decide,?_⟩;show(if(c%4==3)=ag then _ else _);have r:bOk _ ((1+c/4%64)*(c/256%10^6)):=⟨hb.1,hb.2,Int.mul_nonneg (by omega) (ahV _ (by decide)),Int.mul_emod_right _ _⟩;split
 .exact o f hb g (q _)
 .exact fc f r g hn (q _)
def afH{M:Ms}{Q:DK}(b:xs≠[])(c:Dr M k n)(q:∀(x:Int) (e:Nat) (a:Ms),Dr a k e->p0 M a k->Q (.int x) a):Hc [.lst (xs.map .int),.loc k] M Q:=⟨xs,k,n,rfl,b,c,q⟩
def adq{x0 o s:Option D}{k c n:Nat}{p:Pt}{lay:Lay}{M:Ms}{E:jZ}(u:k≠c)(hd:Dr M k n)(v:M[c]?=aa (aa (.kE (kA lay) (vA (λxs=>D.lst (xs.map .int)) lay))))(z:p.1∉lay.map aQ)(A:lay.length<=100)(I:p.2.length<=1000)
(q:∀(a:List Int) (f:Nat) (b:Ms),Dr b k f->b[c]?=aa (aa (.kE (kA (lay++[(p.1,a)])) (vA (λxs=>D.lst (xs.map .int)) (lay++[(p.1,a)]))))->E.nx [x0,o,aa (.loc k),s,aa (.loc c),aa (.str p.1),aa (.lst (p.2.map Rw.d)),ar,ar,ar,ar,ar,ar,ar,ar] b):
  lwP Hc (cl AR) E [x0,o,aa (.loc k),s,aa (.loc c),aa (.str p.1),aa (.lst (p.2.map Rw.d)),ar,ar,ar,ar,ar,ar,ar,ar] M:=by
 have w:=@afH;unfold lwP;generalize Hc=ga at w |-;refine⟨_,rfl,rfl,?_⟩;refine tU (λj acc b=>∃(a:List Int) (f:Nat),acc=a.map .int/\Dr b k f/\p0 M b k) (λ_ _ _ _=>rfl) _ 0 [] _ ⟨[],n,rfl,hd,p0.refl⟩ (by rw[ao,bp];show 0+_<=_;omega) (λj x acc b g h J B=>?_) (λacc b h=>?_)
 .obtain⟨a,f,rfl,i,m⟩:=h;rw[bh] at g;cases e:p.2[j]? with
  |none=>rw[e] at g;cases g
  |some r=>
   rw[e] at g;cases g;refine⟨by show(nl r.d&&ag)=ag;rw[FJ.Rw.nld];rfl,r,rfl,w (Z1 r) i λx C M2 G s2=>B _ _ _ rfl ⟨a++[x],C,by rw[ba];rfl,G,m.trans s2⟩⟩
 .obtain⟨a,f,rfl,i,m⟩:=h;have y:=(m.2 c (ak.mp v).1 (b9 u)).trans v;refine⟨_,_,.inr p.1,y,rfl,by unfold kA;rw[ao,bp];omega,q a f _ (i.of (aJ (b9 u))) ?_⟩;rw[bn (ak.mp y).1];have H:wu p.1 a lay=lay++[(p.1,a)]:=by unfold wu;rw[Bd z];rfl
  have:=G7 (λxs:List Int=>D.lst (xs.map .int)) p.1 a lay;rw[H] at this;have e1:rY (.inr p.1) (OD.lst (a.map D.int)).toD (kA lay) (vA (λxs=>D.lst (xs.map .int)) lay)=_:=this;rw[e1]
def Q4:GP:=λds Q=>∃ns:List Int,ds=[.rS ns]/\Q (.bl ag)
def Pe:jD Q4:=λds P Q w ⟨ns,h,q⟩=>⟨ns,h,w _ q⟩
def Q5(xs:List Int)(a b:Int):cutD (xs.map D.int) (aa a) (aa b)=iD (cutD xs (aa a) (aa b)):=by unfold cutD iD;rw[ao,List.map_take,hG]
def adr(xs:List Int):(cutD xs (aa 3) (aa 6)).length<=3:=by unfold cutD;rw[dM,show(3:Int)=((3:Nat):Int) from rfl,show(6:Int)=((6:Nat):Int) from rfl,HT.Cr,HT.Cr];omega
theorem Q6:∀{l:List (aX×β)},w∈l.map aQ->(iS w l).isSome=ag
 | (x,v)::l,h=>by
  unfold iS;by_cases e:x=w
  .rw[if_pos e];rfl
  .rw[if_neg e];exact Q6 ((aH.mp h).resolve_left λz=>e z.symm)
def ads(K:bz){s:aw}:∀ds Q,Q4 ds Q->lN 15 1 (Wi K (cl Jp) (cl E6) om (cl Ju) Hc (cl AR) (cl pk) (GS s)) ds Q:=λds Q ⟨xs,h,q⟩=>by
 subst h;unfold Wi;have fd:=@WV;have w:=@adp K s;have y:=@adq;generalize om=gd at fd |-;have hc:=adr xs;refine⟨rfl,rfl,xs,1,rfl,λc1=>⟨aq rfl,?_,?_⟩⟩
 .rw[Q5];show(List.map D.int _).length+1<=_;rw[ao,bp];omega
 have ec:cutD (xs.map D.int) (aa 3) (aa 6)++[D.int c1]=iD (cutD xs (aa 3) (aa 6)++[c1]):=by rw[Q5];unfold iD;rw[ba];rfl
 rw[ec];refine⟨by show(mY (List.map D.int _)&&ag)=ag;rw[zO];rfl,_,rfl,by rw[aE];exact Nat.le_add_left _ _,by rw[aE];show _+1<=4;omega,λa u=>?_⟩;refine⟨rfl,xs,2,rfl,λO=>fd (many:=60) (by decide) λk M1 _ v _ _=>?_⟩;have ok:=u.lb;refine⟨FJ.wt a,a,rfl,ok.lk.G1.nd,by have:=ok.lk.G1.hi;omega,λp e=>(ok.lk.G1.all p e).len,?_⟩;have A:=v.lt;refine⟨_,rfl,rfl,?_⟩;refine iQ mx (λpre zs f M=>pre++zs=jp a/\∃(lay:Lay) (n:Nat) (g i:Option D),lay.map aQ=pre.map aQ/\Dr M k n/\M[M1.length]?=aa (aa (.kE (kA lay) (vA (λxs=>D.lst (xs.map .int)) lay)))/\f=[aa (.rS xs),aa (.lst (a.map mx)),aa (.loc k),aa (.lst ((jp a).map mx)),aa (.loc M1.length),g,i,ar,ar,ar,ar,ar,ar,ar,ar]) (λ_ _ _ _ _=>rfl) _ [] _ _ ⟨rfl,[],60,ar,ar,rfl,v.of (aY A),by simp[kA,vA],rfl⟩ (λpre x zs f M h N B=>?_) (λpre f M h=>?_)
 .obtain⟨b,lay,n,g,i,c,hd,j,rfl⟩:=h;have nd:=CO ok.lk.G1.nd;have C:x∈jp a:=by rw[<-b];simp
  have E:x.1∉lay.map aQ:=by rw[c];rw[<-b,ba] at nd;exactλz=>(dB.mp nd).2.2 _ z x.1 aN rfl
  have m:lay.length<=100:=by have e1:=congrArg cI c;have e2:=congrArg cI b;rw[Jr,aE] at e2;rw[ao,ao] at e1;have:=ok.lk.G1.hi;omega
  have o:x.2.length<=1000:=by obtain⟨p,r,rfl⟩:=E3 C;exact bG (ahU _ _) (ok.lk.G1.all p r).len
  refine⟨rfl,rfl,y (by omega) hd j E m o λG H I J L=>B _ _ ⟨by rw[bi];exact b,lay++[(x.1,G)],H,_,_,?_,J,L,rfl⟩⟩;rw[ba,ba,c];rfl
 .obtain⟨b,lay,n,g,i,c,hd,j,rfl⟩:=h;rw[bu] at b;subst b;refine w u (λp e=>Q6 ?_) c j λI=>⟨rfl,q⟩;rw[c,Aj];exact((FJ.jR a).map aQ).mem_iff.mpr (bQ.mpr ⟨p,e,rfl⟩)
open FJ
structure RB(K:bz)(C fI fW fA fG:aw):Prop where
 c:CF K C
 nT:cP K (.ref C) fk=aa ar
 aI:cP K (.ref C) mm=aa (aa (.ref fI))
 aW:cP K (.ref C) lw=aa (aa (.ref fW))
 aA:cP K (.ref C) kF=aa (aa (.ref fA))
 aG:cP K (.ref C) la=aa (aa (.ref fG))
def all_mk{l:W.OpenLaw}{w:bI}{K:bz}{h:aC}{mg:aX->Option ai}{fa:aw}(X:K.In h)(G:h.Ns bf mg)(hfa:mg "law"=aa (.ref fa))
{a u L N O T U Y b i cF rj B Bg:aw}{x y fA fG E8 W4 Q7 Q8 W5 aa0:aw}{t0 t1 t2 t3 t4 t5 t6 t7 t8 t9:ajL}
(wz:dy K bf sm=aa (aa (.ref a)))
(BU:dy K bf "CodeRow"=aa (aa (.ref u)))
(Pj:dy K bf "BoxRow"=aa (aa (.ref L)))
(E9:dy K bf "LastRow"=aa (aa (.ref N)))
(Pk:dy K bf "SetRow"=aa (aa (.ref O)))
(yO:dy K bf "AlikeRow"=aa (aa (.ref T)))
(Pm:dy K bf "AimRow"=aa (aa (.ref U)))
(yP:dy K bf "LeaveRow"=aa (aa (.ref Y)))
(p5:dy K bf uac=aa (aa (.ref b)))
(wA:dy K bf "TableRow"=aa (aa (.ref i)))
(Fa:dy K bf "FORMS"=aa (aa (.ref cF)))
(rm:dy K bf "PartError"=aa (aa (.ref rj)))
(rn:dy K bf "BadBase"=aa (aa (.ref B)))
(tV:dy K bf "NoLayout"=aa (aa (.ref Bg)))
(BV:RB K a x y fA fG)
(Mo:RB K L x y fA E8)
(BW:RB K N x y fA W4)
(Mp:RB K O x y fA E8)
(wB:RB K T x y Q8 E8)
(Mq:RB K U x y W5 E8)
(wC:RB K Y x y W5 Q7)
(p6:RB K b x y fA fG)
(wD:RB K i x y aa0 fG)
(Z9:MF K mm "Row.__init__" (iV (top 21) 0) x)
(W6:MF K lw "Row.words" (iV (top 21) 1) y)
(Bh:MF K kF "Row.asked" (iV (top 21) 3) fA)
(Jw:MF K la "Row.goes_on" (iV (top 21) 4) fG)
(mH:MF K la uaI (iV (top 23) 0) E8)
(wE:MF K la uaJ (iV (top 26) 0) W4)
(tW:MF K la uaL (iV (top 30) 0) Q7)
(tX:MF K kF uaK (iV (top 28) 1) Q8)
(uQ:MF K kF "AimRow.asked" (iV (top 29) 1) W5)
(Al:MF K kF uaM (iV (top 32) 1) aa0)
(tb:AF K cF FJ.j4)
(mI:dy K bf "LONGEST_WORD"=aa (aa (.int (8) t0)))
(mJ:dy K bf "LONGEST_LIST"=aa (aa (.int (60) t1)))
(rq:dy K bf "LAST_BOX"=aa (aa (.int (3) t2)))
(mK:dy K bf "LEAST_NUMBER"=aa (aa (.int (-2147483648) t3)))
(lh:dy K bf uaF=aa (aa (.int (2147483647) t4)))
(kH:dy K bf uaG=aa (aa (.int (60) t5)))
(oq:dy K bf "MOST_PARTS"=aa (aa (.int (12) t6)))
(p7:dy K bf "MOST_ROWS"=aa (aa (.int (200) t7)))
(ou:dy K bf "MOST_MARKS"=aa (aa (.int (200) t8)))
(lm:dy K bf uaH=aa (aa (.int (64) t9)))
(ow:dy K bf px=aa ar)
(Mr:dy K bf hH=aa ar)
(Fb:dy K bf ix=aa ar)
(Mt:dy K bf hJ=aa ar)
(Mu:dy K bf oo=aa ar)
(Mv:dy K bf "all"=aa ar)
(Am:dy K bf fi=aa ar)
(Fc:dy K bf cr=aa ar)
(Mw:dy K bf ll=aa ar)
(Mx:dy K bf gc=aa ar)
(My:dy K bf "sum"=aa ar)
(p8:dy K bf ly=aa ar)
(wF:dy K bf jm=aa ar)
(Fe:dy K bf fw=aa ar)
(An:dy K bf oi=aa ar)
(Mz:dy K bf "any"=aa ar)
(rA:dy K bf nu=aa ar)
(yQ:iw K mg ro (top 13))
(Bi:iw K mg tF (top 14))
(qJ:iw K mg uab (top 33))
(Jx:iw K mg "fits" (top 34))
(Ff:iw K mg "is_row" (top 35))
(yR:iw K mg vp (top 36))
(Fg:iw K mg "row_of" (top 37))
(pq:iw K mg vr (top 43))
(sW:iw K mg vu (top 44))
(rC:iw K mg vv (top 45))
(Bj:iw K mg "is_part" (top 46))
(wG:iw K mg uad (top 47))
(Bk:iw K mg "rows_of" (top 48))
(oy:iw K mg vx (top 49))
(nv:iw K mg uae (top 50))
(wH:iw K mg uaf (top 51))
(Bl:iw K mg ic (top 53))
(ql:iw K mg uag (top 54))
(yS:iw K mg "marks_in" (top 55))
(rE:iw K mg vE (top 56))
(pv:iw K mg uah (top 57))
(wI:iw K mg uai (top 58))
(qm:iw K mg vG (top 59))
(wJ:iw K mg uaj (top 60))
(yT:iw K mg wh (top 61))
(uR:iw K mg uak (top 62))
(rF:iw K mg ual (top 63))
(Fh:iw K mg wk (top 64))
(pw:iw K mg wr (top 69))
(rG:iw K mg uam (top 70))
(rH:iw K mg uan (top 77))
(wK:iw K mg xw (top 78))
(Fi:iw K mg xO (top 79))
(rJ:iw K mg xP (top 81))
(uS:iw K mg tP (top 82))
(wL:iw K mg oD (top 83))
(wM:iw K mg yu (top 84))
(wN:iw K mg yw (top 85))
(wO:iw K mg uao (top 86))
(wP:iw K mg uaq (top 87))
(uT:iw K mg uar (top 88))
(qo:iw K mg uas (top 89))
(wQ:iw K mg uat (top 90))
(uU:iw K mg uau (top 91))
(uV:iw K mg uav (top 92))
(rK:iw K mg yM (top 93))
(wR:iw K mg uaw (top 94))
(yU:iw K mg "_law_any" (top 97))
(rL:iw K mg yN (top 98))
(rM:iw K mg uax (top 99))
(W7:iw K mg "law" (top 100))
(sX:iw K mg "least_right" (top 76))
(yV:dt K (.ref a) (.ref a)=aa ag)
(Bm:dt K (.ref L) (.ref a)=aa au)
(yW:dt K (.ref N) (.ref a)=aa au)
(Bn:dt K (.ref O) (.ref a)=aa au)
(wS:dt K (.ref T) (.ref a)=aa au)
(Bo:dt K (.ref U) (.ref a)=aa au)
(wT:dt K (.ref Y) (.ref a)=aa au)
(sY:dt K (.ref b) (.ref a)=aa au)
(wU:dt K (.ref i) (.ref a)=aa au)
(yX:dt K (.ref a) (.ref u)=aa au)
(Bp:dt K (.ref L) (.ref u)=aa ag)
(yY:dt K (.ref N) (.ref u)=aa ag)
(Bq:dt K (.ref O) (.ref u)=aa ag)
(wV:dt K (.ref T) (.ref u)=aa ag)
(Bs:dt K (.ref U) (.ref u)=aa ag)
(wW:dt K (.ref Y) (.ref u)=aa ag)
(sZ:dt K (.ref b) (.ref u)=aa au)
(wX:dt K (.ref i) (.ref u)=aa au)
(tq:dt K (.ref a) (.ref b)=aa au)
(uW:dt K (.ref L) (.ref b)=aa au)
(tu:dt K (.ref N) (.ref b)=aa au)
(uX:dt K (.ref O) (.ref b)=aa au)
(rN:dt K (.ref T) (.ref b)=aa au)
(uY:dt K (.ref U) (.ref b)=aa au)
(rO:dt K (.ref Y) (.ref b)=aa au)
(pA:dt K (.ref b) (.ref b)=aa ag)
(rP:dt K (.ref i) (.ref b)=aa au)
(wY:dt K (.ref a) (.ref i)=aa au)
(yZ:dt K (.ref L) (.ref i)=aa au)
(wZ:dt K (.ref N) (.ref i)=aa au)
(y0:dt K (.ref O) (.ref i)=aa au)
(uZ:dt K (.ref T) (.ref i)=aa au)
(y3:dt K (.ref U) (.ref i)=aa au)
(u4:dt K (.ref Y) (.ref i)=aa au)
(rQ:dt K (.ref b) (.ref i)=aa au)
(u5:dt K (.ref i) (.ref i)=aa ag)
(adt:dt K (.type rh) (.ref u)=aa au)
(y4:VP K rj rj)
(p9:VP K B rj)
(iBB:cP K (.ref B) mm=aa (aa (.builtin vo)))
(w4:dt K (.ref B) (.ref B)=aa ag)
(u6:dt K (.ref B) (.ref Bg)=aa au)
  :∃fd:dY,(∀(s:av) (v:ai),air s fd ⟨[v],[]⟩ [(nP,v)])/\∀cq:aC,DQ K mg cq->lP l.prog w K mg cq uk 12 fa fd [nP] (l9 K (cl Q4)):=by
 obtain⟨f,fd,F,m⟩:=id W7;have e:=hfa.symm.trans m;cases e;have ow:=ej X G ow;have Mr:=ej X G Mr;have Fb:=ej X G Fb;have Mt:=ej X G Mt;have Mu:=ej X G Mu;have Mv:=ej X G Mv;have Am:=ej X G Am;have Fc:=ej X G Fc;have Mw:=ej X G Mw;have Mx:=ej X G Mx;have My:=ej X G My;have p8:=ej X G p8;have wF:=ej X G wF;have Fe:=ej X G Fe;have An:=ej X G An;have Mz:=ej X G Mz;have rA:=ej X G rA;have mI:∃t,mg "LONGEST_WORD"=aa (.int (8) t):=⟨_,dV X G mI⟩;have mJ:∃t,mg "LONGEST_LIST"=aa (.int (60) t):=⟨_,dV X G mJ⟩;have rq:∃t,mg "LAST_BOX"=aa (.int (3) t):=⟨_,dV X G rq⟩;have mK:∃t,mg "LEAST_NUMBER"=aa (.int (-2147483648) t):=⟨_,dV X G mK⟩;have lh:∃t,mg uaF=aa (.int (2147483647) t):=⟨_,dV X G lh⟩;have kH:∃t,mg uaG=aa (.int (60) t):=⟨_,dV X G kH⟩;have oq:∃t,mg "MOST_PARTS"=aa (.int (12) t):=⟨_,dV X G oq⟩;have p7:∃t,mg "MOST_ROWS"=aa (.int (200) t):=⟨_,dV X G p7⟩;have ou:∃t,mg "MOST_MARKS"=aa (.int (200) t):=⟨_,dV X G ou⟩;have lm:∃t,mg uaH=aa (.int (64) t):=⟨_,dV X G lm⟩;have wz:=dV X G wz;have BU:=dV X G BU;have Pj:=dV X G Pj;have E9:=dV X G E9;have Pk:=dV X G Pk;have yO:=dV X G yO;have Pm:=dV X G Pm;have yP:=dV X G yP;have p5:=dV X G p5;have wA:=dV X G wA;have Fa:=dV X G Fa;have rm:=dV X G rm;have rn:=dV X G rn;have tV:=dV X G tV;have Z:Zs mg:=⟨ow,Mr,Fb,Mt,Mu,Mv,Am,Fc,Mw,Mx,My,p8,wF,Fe,An,Mz,rA,mI,mJ,rq,mK,lh,kH,oq,p7,ou,lm⟩;refine⟨fd,F.abU λ_ _ _ _ _ _ _=>rfl,λcq TB=>?_⟩;have rB:Sy K B:=⟨p9.obj,p9.call,p9.typ,iBB,p9.kp⟩;have xb:XB K rj B Bg:=⟨p9.sub y4,p9.get,w4,u6⟩;obtain⟨c,hc⟩:∃c:CA,c=CA.mk a a u a L N O T U Y b i:=⟨_,rfl⟩;have cf:∀k,CF K (c.at k):=λk=>by subst hc;cases k<;>first|exact BV.c|exact Mo.c|exact BW.c|exact Mp.c|exact wB.c|exact Mq.c|exact wC.c|exact p6.c|exact wD.c
 have nT:∀k,cP K (.ref (c.at k)) fk=aa ar:=λk=>by subst hc;cases k<;>first|exact BV.nT|exact Mo.nT|exact BW.nT|exact Mp.nT|exact wB.nT|exact Mq.nT|exact wC.nT|exact p6.nT|exact wD.nT
 have fo:∀k,Gx K (c.at k) fk:=λk=>⟨(cf k).cls,nT k⟩;have aI:∀k,cP K (.ref (c.at k)) mm=aa (aa (.ref x)):=λk=>by subst hc;cases k<;>first|exact BV.aI|exact Mo.aI|exact BW.aI|exact Mp.aI|exact wB.aI|exact Mq.aI|exact wC.aI|exact p6.aI|exact wD.aI
 have aW:∀k,cP K (.ref (c.at k)) lw=aa (aa (.ref y)):=λk=>by subst hc;cases k<;>first|exact BV.aW|exact Mo.aW|exact BW.aW|exact Mp.aW|exact wB.aW|exact Mq.aW|exact wC.aW|exact p6.aW|exact wD.aW
 have p:FOk K c:=⟨λr=>fo r.kn⟩;have ko:Wr K c:=⟨λk=>(cf k).afa,λk=>by subst hc;cases k<;>first|exact yV|exact Bm|exact yW|exact Bn|exact wS|exact Bo|exact wT|exact sY|exact wU,λk=>by subst hc;cases k<;>first|exact yX|exact Bp|exact yY|exact Bq|exact wV|exact Bs|exact wW|exact sZ|exact wX,λk=>by subst hc;cases k<;>first|exact tq|exact uW|exact tu|exact uX|exact rN|exact uY|exact rO|exact pA|exact rP,λk=>by subst hc;cases k<;>first|exact wY|exact yZ|exact wZ|exact y0|exact uZ|exact y3|exact u4|exact rQ|exact u5,by subst hc;exact adt⟩;have wz:mg sm=aa (.ref c.Mark):=by subst hc;exact wz
 have BU:mg "CodeRow"=aa (.ref c.Code):=by subst hc;exact BU
 have Pj:mg "BoxRow"=aa (.ref c.VX):=by subst hc;exact Pj
 have E9:mg "LastRow"=aa (.ref c.Last):=by subst hc;exact E9
 have Pk:mg "SetRow"=aa (.ref c.Set):=by subst hc;exact Pk
 have yO:mg "AlikeRow"=aa (.ref c.Alike):=by subst hc;exact yO
 have Pm:mg "AimRow"=aa (.ref c.K5):=by subst hc;exact Pm
 have yP:mg "LeaveRow"=aa (.ref c.Leave):=by subst hc;exact yP
 have p5:mg uac=aa (.ref c.lC):=by subst hc;exact p5
 have wA:mg "TableRow"=aa (.ref c.Table):=by subst hc;exact wA
 have Jy:∀j,i8 l.prog w K mg cq (j+1) ro [eR] (cl lX):=λj=>mO (Oc yQ Z) Cc (K1 K);have W8:∀j,i8 l.prog w K mg cq (j+1) tF [eR] (cl oN):=λj=>mO (SM Bi Z) D8 (N7 K);have adu:=mO (V3 (k:=1) (mQ:=λ_ _ _=>False) Jx Z (W8 0) (Jy 0) (aaH 1 qJ (λ_ _ _ _ _ _ us hl=>match us,hl with|[_,_],_=>rfl))) Iu (VW K _);have hIl:=mO (IF (k:=2) qJ Z adu) SH (ae6 K);have afI:=mO (V3 (k:=3) Jx Z (W8 2) (Jy 2) hIl) K4 (Zk K);have afJ:=hasB (V4 (k:=4) Ff Z Fa tb afI) FD (SI K _);obtain⟨_,afK⟩:=Z9.ex;obtain⟨_,afL⟩:=W6.ex;obtain⟨_,z⟩:=Bh.ex;obtain⟨_,Tr⟩:=Jw.ex;obtain⟨_,I⟩:=mH.ex;obtain⟨_,MA⟩:=wE.ex;obtain⟨_,He⟩:=tW.ex;obtain⟨_,Hg⟩:=tX.ex;obtain⟨_,CP⟩:=uQ.ex;obtain⟨_,Q9⟩:=Al.ex;have Fn:∀j k,qg l.prog w K mg cq (j+1) (c.at k) (oO K):=λj k=>aez ⟨(cf k).mks,aI k,Z9.fn,(cf k).kc⟩ (Lc afK) (Od afK) K6 Zl;have afM:i8 l.prog w K mg cq 5 vp [fk] (cl (qT c)):=mO (Oh (k:=3) yR Pk (Fn 2 .Set) yO (Fn 2 .Alike) E9 (Fn 2 .Last) yP (Fn 2 .Leave) Pm (Fn 2 .K5) Pj (Fn 2 .VX)) Cd (K8 p);have adv:=B6 (Wb (k:=4) Fg Z afJ wz (Fn 3 .Mark) p5 (Fn 3 .lC) wA (Fn 3 .Table) afM) FE (SJ p);have W9:∀j C g,m4 c C lw g->sM l.prog w K mg cq (j+1) C lw g:=by
  rintro j C g ⟨k,rfl,rfl⟩
  exact methP (cf k).cls ⟨aW k,W6.fn,W6.kp⟩ (IE afL) (Ld afL Z) Ix (V0 p k)
 have adw:∀j C g,uC c C kF g->sM l.prog w K mg cq (j+1) C kF g:=by
  rintro j C g ⟨k,rfl,rfl⟩
  have cl:=(cf k).cls;cases k;case Mark=>exact zR cl ⟨by subst hc;exact BV.aA,Bh.fn,Bh.kp⟩ (oa z) (pX z) kL (nU (by simp))
  case VX=>exact zR cl ⟨by subst hc;exact Mo.aA,Bh.fn,Bh.kp⟩ (oa z) (pX z) kL (nU (by simp))
  case Last=>exact zR cl ⟨by subst hc;exact BW.aA,Bh.fn,Bh.kp⟩ (oa z) (pX z) kL (nU (by simp))
  case Set=>exact zR cl ⟨by subst hc;exact Mp.aA,Bh.fn,Bh.kp⟩ (oa z) (pX z) kL (nU (by simp))
  case lC=>exact zR cl ⟨by subst hc;exact p6.aA,Bh.fn,Bh.kp⟩ (oa z) (pX z) kL (nU (by simp))
  case Alike=>exact zR cl ⟨by subst hc;exact wB.aA,tX.fn,tX.kp⟩ (zX Hg) (AT Hg Z) kL (Ec p rfl)
  case K5=>exact zR cl ⟨by subst hc;exact Mq.aA,uQ.fn,uQ.kp⟩ (vi CP) (wc CP) kL (zP p (.inl rfl))
  case Leave=>exact zR cl ⟨by subst hc;exact wC.aA,uQ.fn,uQ.kp⟩ (vi CP) (wc CP) kL (zP p (.inr rfl))
  case Table=>exact zR cl ⟨by subst hc;exact wD.aA,Al.fn,Al.kp⟩ (zY Q9) (AU Q9 Z) kL (Ed p rfl)
 have afN:∀j C g,V1 c C la g->sM l.prog w K mg cq (j+1) C la g:=by
  rintro j C g ⟨k,rfl,rfl⟩
  have cl:=(cf k).cls;cases k;case Mark=>exact methP cl ⟨by subst hc;exact BV.aG,Jw.fn,Jw.kp⟩ (qW Tr) (sQ Tr) lf (K9 (by simp))
  case lC=>exact methP cl ⟨by subst hc;exact p6.aG,Jw.fn,Jw.kp⟩ (qW Tr) (sQ Tr) lf (K9 (by simp))
  case Table=>exact methP cl ⟨by subst hc;exact wD.aG,Jw.fn,Jw.kp⟩ (qW Tr) (sQ Tr) lf (K9 (by simp))
  case Last=>exact methP cl ⟨by subst hc;exact BW.aG,wE.fn,wE.kp⟩ (yr MA) (zW MA) lf (K9 (by simp))
  case Leave=>exact methP cl ⟨by subst hc;exact wC.aG,tW.fn,tW.kp⟩ (xy He) (yt He) lf (K9 (by simp))
  case VX=>exact methP cl ⟨by subst hc;exact Mo.aG,mH.fn,mH.kp⟩ (lZ I) (mo I) lf (QK (by simp))
  case Set=>exact methP cl ⟨by subst hc;exact Mp.aG,mH.fn,mH.kp⟩ (lZ I) (mo I) lf (QK (by simp))
  case Alike=>exact methP cl ⟨by subst hc;exact wB.aG,mH.fn,mH.kp⟩ (lZ I) (mo I) lf (QK (by simp))
  case K5=>exact methP cl ⟨by subst hc;exact Mq.aG,mH.fn,mH.kp⟩ (lZ I) (mo I) lf (QK (by simp))
 have aab:∀j,i8 l.prog w K mg cq (j+1) vr [eR] (cl z8):=λj=>mO (AW pq Z) FT (S0 K);have Xa:=λj:Nat=>mO (FF sW Z (aab j)) IY Wo;have Ra:=λj:Nat=>mO (El rC Z (Xa j)) FU S6;have aac:=λj:Nat=>mO (SR Bj Z (W8 (j+2)) (Ra j)) EG (OO K);have ahh:=λj:Nat=>mO (Lf wG Z (aac j) (Ra (j+1)) (Xa (j+2))) OQ (ac1 K);have aad:=mO (SU (k:=6) Bk Z adv) EI OR;have adx:∀j,i8 l.prog w K mg cq (j+1) vx [gr] (cl (CK c)):=λj=>mO (z6 oy Z wz) IZ (Ws ko);have aae:=λj:Nat=>mO (yv nv Z (adx j) (afN j) BU wz) yD (EK ko);have aaf:=mO (Lg (k:=7) wH (ahh 2) aad (aae 5)) FW S8;have Rb:∀j,i8 l.prog w K mg cq (j+5) ic [hB] (cl (tT c)):=λj=>mO (SW Bl TB Z) EM OS;have Xb:=λj:Nat=>mO (Ce ql Z wz (W9 j)) Cj (LS ko);have Xc:=λj:Nat=>mO (Ot yS (Rb j) (Xb (j+3))) Ck LU;have aag:∀j,i8 l.prog w K mg cq (j+1) vE [oB] FJ.Ac:=λj=>B6 (En rE) FJ.FX FJ.Ta;have ady:=λj:Nat=>mO (A2 pv Z (aag j)) FJ.Jc FJ.Wv;have aah:=λj:Nat=>mO (Li wI (Xc j) (ady (j+4))) FJ.FZ FJ.Td;have Xd:∀j,i8 l.prog w K mg cq (j+1) vG [gr] (cl (FJ.mU c)):=λj=>mO (Cg qm Z wz) FJ.ri (FJ.yG ko);have afO:=λj:Nat=>mO (Lj wJ Z (Rb j) (Xd (j+4))) LV ZE;have hAt:∀j,i8 l.prog w K mg cq (j+1) wh ["lists",sC] (cl (ZG c)):=λj=>mO (Ov yT) Te afk;have ahi:=λj:Nat=>mO (IH uR Z (W9 j) p5 wA BU) OX (ac7 ko);have afP:=λj:Nat=>mO (Ep rF Z (adw (j+1)) (ahi j) (hAt (j+1))) LW ZH;have afQ:=λj:Nat=>mO (Wf (k:=j+8) Fh (aaf.up (by omega)) (aah (j+1)) (afO (j+2)) (afP (j+5))) FJ.F0 FJ.Tg;have Rc:=λj:Nat=>Qw (A4 pw Z (Jy j) rn rB) F3 To;have afR:=λj:Nat=>Qw (Es rG (Rc j) (Jy (j+1)) rn rB) Ml Z0;have ahj:∀j,i8 l.prog w K mg cq (j+1) xw [nb,hY,ng,pr] (cl (Q0 c)):=λj=>mO (Ln wK Z) Pb adg;have Rf:=λj:Nat=>Qw (Wg Fi (afQ j) (afR (j+6)) (ahj (j+8))) F4 Tp;have hLR:∀j,i8 l.prog w K mg cq (j+1) "least_right" [nb,pj,hY] G0:=λj=>aaH (j+1) sX (λ_ _ _ _ _ _ us hl=>match us,hl with|[_,_,_],_=>rfl);have adz:=λj:Nat=>Qw (Et rH (afQ j) (Rc (j+7)) (hLR (j+8))) Jt W1;have afS:∀j,i8 l.prog w K mg cq (j+1) xP [nP,iL] (cl E6):=λj=>mO (FH rJ Z) Mn Z4;have Xe:∀j,i8 l.prog w K mg cq (j+1) tP [nQ,qc] om:=λj=>B6 (Lq uS Z) Jg WB;have J:∀j,i8 l.prog w K mg cq (j+1) oD [eH,me] jI:=λj=>B6 (Ox wL) LX ZI;have afT:∀j,i8 l.prog w K mg cq (j+1) yu [iL] (cl uO):=λj=>mO (Oy wM) LZ ZL;have afU:∀j,i8 l.prog w K mg cq (j+1) yw [fv,nR] wy:=λj=>B6 (Oz wN Z) Mg ZX;have afV:=λj:Nat=>B6 (OA wO Z (J j) (afU j)) Mi ZY;have adA:=λj:Nat=>B6 (OC wP (J j)) LY ZJ;have adB:=λj:Nat=>B6 (Lr uT Z (J (j+1)) (adA j)) Ji WE;have afW:=λj:Nat=>B6 (EA qo Z (J (j+2)) (adB j) (afT (j+2))) L5 ZO;have afX:=λj:Nat=>B6 (OG wQ Z (J j)) L6 ZP;have adC:=λj:Nat=>B6 (Lu uU Z (afX j) (J (j+1))) Jk WK;have adD:=λj:Nat=>mO (Lv uV Z (Xe (j+3)) (J (j+3)) (afW j) (adC (j+1)) (afV (j+2))) Jq WZ;have Ts:∀j,i8 l.prog w K mg cq (j+1) yM [fv,ky] (cl mU):=λj=>mO (FK rK) ri yG;have adE:=λj:Nat=>mO (OI wR Z (Ts j)) Jv W2;have ahk:=λj:Nat=>B6 (SX yU Z (J j)) Pd adi;have afY:∀j,i8 l.prog w K mg cq (j+1) yN [lj] (cl AR):=λj=>mO (FM rL Z) Mm Z2;have Xf:=λj:Nat=>mO (FN rM Z rm (adz j) (Rf j) rn tV) E4 (Pc xb);have hL:=RU F lu.hb lu.hc lu.sc (λjd A cv s H E hr=>afc (P:=l.prog) (w:=w) (cq:=cq) (k:=11) Z (adD 6) (afS 10) (Xe 10) (adE 9) (ahk 9) (afY 10) (Xf 0) (Rf 1).calm fa jd A cv s H E hr);exact hL.imp λvs H Q E ⟨F,α,M,ds,o,r,n,q⟩=>⟨F,α,M,ds,o,r,n,ads K _ _ q⟩
end oz
open PySem PySem.W PyProof.Rows
local macro_rules | `(tactic| walk_at "c") => `(tactic| (refine' L2.UC (by assumption) (by assumption) ?a ?l ?c ?k; (case a => k_is); (case l => k_is); (case c => k_is); (case k => k_is)))
local macro_rules | `(tactic| walk_at "g") => `(tactic| (refine' FJ.afb ?l ?c ?k ?i; (case l => k_is); (case c => k_is); (case k => k_is); (case i => k_is)))
local macro_rules | `(tactic| walk_at "i") => `(tactic| (refine' ⟨⟨?a1, ?a2, ?a3, ?a4, ?a5, ?a6, ?a7, ?a8, ?a9, ?a10⟩, ?b1, ?b2, ?b3, ?b4, ?b5⟩; (case a1 => k_is); (case a2 => k_is); (case a3 => k_is); (case a4 => k_is); (case a5 => k_is); (case a6 => k_is); (case a7 => k_is); (case a8 => k_is); (case a9 => k_is); (case a10 => k_is); (case b1 => k_is); (case b2 => k_is); (case b3 => k_is); (case b4 => k_is); (case b5 => k_is)))
local macro_rules | `(tactic| walk_at "l") => `(tactic| (refine KTD.Rows.cons rfl ?_ ?_; focus (refine' FJ.acJ ?va ?vb ?vc ?vd ?ve; (case va => k_is); (case vb => rfl); (case vc => rfl); (case vd => exact aq rfl); (case ve => (repeat (first | exact FJ.V2 | refine FJ.SK ?_))))))
local macro_rules | `(tactic| walk_at "f") => `(tactic| first | k_is | kernel_rfl | rfl)
local macro_rules | `(tactic| walk_at "k") => `(tactic| (refine' ⟨?e1, ?e2, ?e3, ?e4, ?e5, ?e6, ?e7, ?e8, ?e9, ?e10, ?e11, ?e12, ?Hx, ?e14, L3.acz ?e15 ?e16 ?e17 ?e18⟩; (case e1 => walk_at "f"); (case e2 => unfold L2.VD; kernel_rfl); (case e3 => walk_at "f"); (case e4 => walk_at "f"); (case e5 => walk_at "f"); (case e6 => walk_at "f"); (case e7 => walk_at "f"); (case e8 => walk_at "f"); (case e9 => walk_at "f"); (case e10 => walk_at "f"); (case e11 => walk_at "f"); (case e12 => walk_at "f"); (case Hx => walk_at "f"); (case e14 => walk_at "f"); (case e15 => k_is); (case e16 => walk_at "f"); (case e17 => first | rfl | kernel_rfl | k_is); (case e18 => first | rfl | kernel_rfl | k_is)))
local macro_rules | `(tactic| walk_at "n") => `(tactic| (refine' L3.ahl ?e1 ?e2 ?e3 ?e4 ?e5; (case e1 => k_is); (case e2 => k_is); (case e3 => k_is); (case e4 => k_is); (case e5 => k_is)))
namespace PySem.W.Fast
def tw10099328169006776352:=0
def tw4589692627331659779:=0
def tw11760303256148109059:=0
def tw14024455199570495012:=0
def tw12728238945302224901:=0
def tw8102850753523454757:=0
def tw4314232156325254534:=0
def tw1875945353277870984:=0
def tw13162528750797819913:=0
def tw2929938276198512938:=0
def tw18261773729845265867:=0
def tw1206890428540867853:=0
def tw11324682756581356558:=0
def tw8716922627768281870:=0
def tw6304434504240447439:=0
def tw921099362186562000:=0
def tw15266496256663242417:=0
def tw9946704736402937458:=0
def tw15728854714461333557:=0
def tw9478681126473262133:=0
def tw1416728028763050294:=0
def tw9474494695597877048:=0
def tw3646333898508199993:=0
def tw13942522613373675001:=0
def tw13764664686500611674:=0
def tw6195210719769151869:=0
def tw3466380603974549245:=0
def tw18156526362484383549:=0
def tw5354825978784257054:=0
def tw16822078440420047550:=0
def tw8359992813659056831:=0
def tw7360203243740939007:=0
def tw9292220882147520058:=0
def tw14545678731255832466:=0
def tw7962947727135070426:=0
def tw6121636463457994383:=0
def tw8497486417044938530:=0
def tw8221574105166825351:=0
def tw15872539407077724900:=0
def tw2611524267318656035:=0
def tw9032239154052536446:=0
def tw4206542356494765371:=0
def tw5926840251379363645:=0
def tw13700870378705902544:=0
def tw2070844385512842923:=0
def tw15356300520059935209:=0
def tw4308328687957225617:=0
def tw1352782534760765020:=0
def tw14546813797367490954:=0
def tw15482865390954091311:=0
def tw18060237696605359152:=0
def tw11322100527585707301:=0
def tw16449209419127278007:=0
def tw14070286574214230317:=0
def tw9775042571740727284:=0
def tw17654321991532586086:=0
def tw13302805423722455663:=0
def tw2752810582314175310:=0
def tw6280846277886763207:=0
def tw5412865703409957603:=0
def tw12159223419687577219:=0
def tw2887587669754754683:=0
def tw15911979916475872277:=0
def tw5131661209790134735:=0
def tw13291509890848039540:=0
def tw16342605482396230748:=0
def tw17624452510902489201:=0
def tw8078530731705763199:=0
def tw9691119706861450726:=0
def tw16006085710841568751:=0
def tw13261877077203999899:=0
def tw14292909885079513071:=0
def tw7657425230131099247:=0
def tw14233588367839080385:=0
def tw7713893933772689752:=0
def tw7635985463945367794:=0
def tw4644510503941511098:=0
def tw8019473409965034989:=0
def tw10322988635351708499:=0
def tw5261775092345257977:=0
def tw6617589670807698509:=0
def tw15023799720153444785:=0
def tw12014565978586775131:=0
def tw9638896469587853106:=0
def tw13043647255998881967:=0
def tw18047815687687834236:=0
def tw2978132581453817026:=0
def tw4477447872368426270:=0
def tw18338681717047980101:=0
def tw17675479501682075738:=0
def tw16155666668226060907:=0
def tw7224992230863724132:=0
def tw7010802140110067264:=0
def tw16172332237927762842:=0
def tw5940680743790308847:=0
def tw16879327873364015674:=0
def tw6419922098135055032:=0
def tw13932138103030223446:=0
def tw7406886420263426680:=0
def tw8048576255510002756:=0
def tw14509513172559166259:=0
def tw6958467417275386775:=0
def tw14088739304758600313:=0
def tw1692502268991076816:=0
def tw1273629889765182504:=0
def tw1290942837236400262:=0
def tw1861253519804359919:=0
def tw14057011739681615969:=0
def tw7521764563718862198:=0
def tw14009975020739966707:=0
def tw11533720539947542965:=0
def tw1249893574434325701:=0
def tw10384084436298084396:=0
def tw18202730421848730656:=0
def tw12350953028444112316:=0
def tw18254779084137739310:=0
def tw13528025281457537211:=0
def tw17494652419070238194:=0
def tw1338154099768266405:=0
def tw13538413493804227753:=0
def tw14523603808750453013:=0
def tw3188019143582729627:=0
def tw156780538942137103:=0
def tw9639893194499123382:=0
def tw5730958620657087598:=0
def tw4778118596956071711:=0
def tw1668294860440894843:=0
def tw6389004309941361224:=0
def tw16455818815114597945:=0
def tw12244148640636788083:=0
def tw10248931495302774236:=0
def tw14331916348751872354:=0
def tw4137080373693312655:=0
def tw3008031963277850865:=0
def tw5421746795938303670:=0
def tw4635851727929527846:=0
def tw6344408018186744692:=0
def tw8468204039944499519:=0
def tw2004895138955875844:=0
def tw12465989651154304463:=0
def tw6169877224978951266:=0
def tw16717255851054393927:=0
def tw1205768225017276677:=0
def tw6086510207473721598:=0
def tw16294989959639353892:=0
def tw14788980832526245313:=0
def tw876946925866971931:=0
def tw4743599727735984438:=0
def tw8848197550959392013:=0
def tw18207028246266706405:=0
def tw10407564105051987522:=0
def tw12215914375733523311:=0
end PySem.W.Fast
set_option maxRecDepth 100000 in
set_option maxHeartbeats 0 in
theorem PySem.Challenge.cw_farjump_k32_where_parts_begin_holds : PySem.Challenge.rw_farjump_k32_where_parts_begin.Holds := by
 w_on;o_law;k_head;(case hw=>w_witness2)
 k_fill
 refine' L3.aeN (l:=PySem.Challenge.rw_farjump_k32_where_parts_begin) (g:=oz.Q4) (k:=12) (x:="_law_script") rfl rfl ⟨rfl,by decide,by decide,rfl⟩ (λw h Y=>PySem.W.km_in_of Y) ?acm ?ht ?nt oz.Pe (λns _=>⟨ns,rfl,rfl⟩) ?F
 case acm=>first|exact(Option.some_get (by kernel_rfl)).symm|rfl
 case ht=>intro w;first|kernel_rfl|rfl
 case nt=>intro w;first|kernel_rfl|rfl
 case F=>
  intro w mg fa h KX G hmg
  refine' oz.all_mk KX G hmg ?wz ?BU ?Pj ?E9 ?Pk ?yO ?Pm ?yP ?p5 ?wA ?Fa ?rm ?rn ?tV ?BV ?Mo ?BW ?Mp ?wB ?Mq ?wC ?p6 ?wD ?Z9 ?W6 ?Bh ?Jw ?mH ?wE ?tW ?tX ?uQ ?Al ?tb ?mI ?mJ ?rq ?mK ?lh ?kH ?oq ?p7 ?ou ?lm ?ow ?Mr ?Fb ?Mt ?Mu ?Mv ?Am ?Fc ?Mw ?Mx ?My ?p8 ?wF ?Fe ?An ?Mz ?rA ?yQ ?Bi ?qJ ?Jx ?Ff ?yR ?Fg ?pq ?sW ?rC ?Bj ?wG ?Bk ?oy ?nv ?wH ?Bl ?ql ?yS ?rE ?pv ?wI ?qm ?wJ ?yT ?uR ?rF ?Fh ?pw ?rG ?rH ?wK ?Fi ?rJ ?uS ?wL ?wM ?wN ?wO ?wP ?uT ?qo ?wQ ?uU ?uV ?rK ?wR ?yU ?rL ?rM ?W7 ?sX ?yV ?Bm ?yW ?Bn ?wS ?Bo ?wT ?sY ?wU ?yX ?Bp ?yY ?Bq ?wV ?Bs ?wW ?sZ ?wX ?tq ?uW ?tu ?uX ?rN ?uY ?rO ?pA ?rP ?wY ?yZ ?wZ ?y0 ?uZ ?y3 ?u4 ?rQ ?u5 ?adt ?y4 ?p9 ?iBB ?w4 ?u6
  (case wz=>k_is)
  (case BU=>k_is)
  (case Pj=>k_is)
  (case E9=>k_is)
  (case Pk=>k_is)
  (case yO=>k_is)
  (case Pm=>k_is)
  (case yP=>k_is)
  (case p5=>k_is)
  (case wA=>k_is)
  (case Fa=>k_is)
  (case rm=>k_is)
  (case rn=>k_is)
  (case tV=>k_is)
  (case BV=>walk_at "i")
  (case Mo=>walk_at "i")
  (case BW=>walk_at "i")
  (case Mp=>walk_at "i")
  (case wB=>walk_at "i")
  (case Mq=>walk_at "i")
  (case wC=>walk_at "i")
  (case p6=>walk_at "i")
  (case wD=>walk_at "i")
  (case Z9=>walk_at "g")
  (case W6=>walk_at "g")
  (case Bh=>walk_at "g")
  (case Jw=>walk_at "g")
  (case mH=>walk_at "g")
  (case wE=>walk_at "g")
  (case tW=>walk_at "g")
  (case tX=>walk_at "g")
  (case uQ=>walk_at "g")
  (case Al=>walk_at "g")
  (case mI=>k_is)
  (case mJ=>k_is)
  (case rq=>k_is)
  (case mK=>k_is)
  (case lh=>k_is)
  (case kH=>k_is)
  (case oq=>k_is)
  (case p7=>k_is)
  (case ou=>k_is)
  (case lm=>k_is)
  (case ow=>k_is)
  (case Mr=>k_is)
  (case Fb=>k_is)
  (case Mt=>k_is)
  (case Mu=>k_is)
  (case Mv=>k_is)
  (case Am=>k_is)
  (case Fc=>k_is)
  (case Mw=>k_is)
  (case Mx=>k_is)
  (case My=>k_is)
  (case p8=>k_is)
  (case wF=>k_is)
  (case Fe=>k_is)
  (case An=>k_is)
  (case Mz=>k_is)
  (case rA=>k_is)
  (case yQ=>walk_at "c")
  (case Bi=>walk_at "c")
  (case qJ=>walk_at "c")
  (case Jx=>walk_at "c")
  (case Ff=>walk_at "c")
  (case yR=>walk_at "c")
  (case Fg=>walk_at "c")
  (case pq=>walk_at "c")
  (case sW=>walk_at "c")
  (case rC=>walk_at "c")
  (case Bj=>walk_at "c")
  (case wG=>walk_at "c")
  (case Bk=>walk_at "c")
  (case oy=>walk_at "c")
  (case nv=>walk_at "c")
  (case wH=>walk_at "c")
  (case Bl=>walk_at "c")
  (case ql=>walk_at "c")
  (case yS=>walk_at "c")
  (case rE=>walk_at "c")
  (case pv=>walk_at "c")
  (case wI=>walk_at "c")
  (case qm=>walk_at "c")
  (case wJ=>walk_at "c")
  (case yT=>walk_at "c")
  (case uR=>walk_at "c")
  (case rF=>walk_at "c")
  (case Fh=>walk_at "c")
  (case pw=>walk_at "c")
  (case rG=>walk_at "c")
  (case rH=>walk_at "c")
  (case wK=>walk_at "c")
  (case Fi=>walk_at "c")
  (case rJ=>walk_at "c")
  (case uS=>walk_at "c")
  (case wL=>walk_at "c")
  (case wM=>walk_at "c")
  (case wN=>walk_at "c")
  (case wO=>walk_at "c")
  (case wP=>walk_at "c")
  (case uT=>walk_at "c")
  (case qo=>walk_at "c")
  (case wQ=>walk_at "c")
  (case uU=>walk_at "c")
  (case uV=>walk_at "c")
  (case rK=>walk_at "c")
  (case wR=>walk_at "c")
  (case yU=>walk_at "c")
  (case rL=>walk_at "c")
  (case rM=>walk_at "c")
  (case W7=>walk_at "c")
  (case sX=>walk_at "c")
  (case yV=>rfl)
  (case Bm=>rfl)
  (case yW=>rfl)
  (case Bn=>rfl)
  (case wS=>rfl)
  (case Bo=>rfl)
  (case wT=>rfl)
  (case sY=>rfl)
  (case wU=>rfl)
  (case yX=>rfl)
  (case Bp=>rfl)
  (case yY=>rfl)
  (case Bq=>rfl)
  (case wV=>rfl)
  (case Bs=>rfl)
  (case wW=>rfl)
  (case sZ=>rfl)
  (case wX=>rfl)
  (case tq=>rfl)
  (case uW=>rfl)
  (case tu=>rfl)
  (case uX=>rfl)
  (case rN=>rfl)
  (case uY=>rfl)
  (case rO=>rfl)
  (case pA=>rfl)
  (case rP=>rfl)
  (case wY=>rfl)
  (case yZ=>rfl)
  (case wZ=>rfl)
  (case y0=>rfl)
  (case uZ=>rfl)
  (case y3=>rfl)
  (case u4=>rfl)
  (case rQ=>rfl)
  (case u5=>rfl)
  (case adt=>rfl)
  (case y4=>walk_at "k")
  (case p9=>walk_at "k")
  (case iBB=>walk_at "f")
  (case w4=>first|rfl|kernel_rfl|k_is)
  (case u6=>first|rfl|kernel_rfl|k_is)
  case tb=>
   refine' FJ.acK ?tlo ?tl ?tc ?td ?tr
   case tl=>k_is
   case tlo=>rfl
   case tc=>exact⟨rfl,rfl,rfl⟩
   case td=>rfl
   case tr=>
    iterate 16 walk_at "l"
    exact KTD.Rows.nil
#print axioms PySem.Challenge.cw_farjump_k32_where_parts_begin_holds
